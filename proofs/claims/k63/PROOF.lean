import PyProof.Rows.All
import Wide.All
import OpenK.AllK
import PySem.Challenge.RW_trussyard_k63_bent_or_moves
set_option Elab.async false
set_option linter.all false
set_option maxRecDepth 100000
set_option compiler.extract_closed false
def gE.{u}{Z:Type u}{l:List Z}(h:i < l.length):l[i]? =some l[i]:=List.getElem?_eq_getElem h
local macro_rules|`(tactic|omega)=>`(tactic|lia)
namespace PySem.W.Fast
def tw862917587988092896:=()
def tw7785374176111576874:=()
def tw18057686630519347469:=()
def tw13304688610473339094:=()
def tw12477272543272892961:=()
def tw5578690537628555606:=()
def tw9834904795139779590:=()
def tw5202071603676804485:=()
def tw3328976434027542036:=()
def tw6159610030325435074:=()
def tw5733466654259282238:=()
def tw12780049943997645085:=()
def tw9800765678236595504:=()
def tw2035313306368327003:=()
def tw1069708206992986011:=()
def tw2157246453982818265:=()
def tw16892071862929659100:=()
def tw9157780184659242861:=()
def tw7986907467443562736:=()
def tw6923501488020142644:=()
def tw11490362695996139930:=()
def tw5229850040185184074:=()
def tw16082985974714115250:=()
def tw3591228262242349244:=()
def tw268393525953934747:=()
def tw14436613602393475159:=()
def tw6602630492560581078:=()
def tw2237886885561163605:=()
def tw7302685886621510187:=()
def tw5462231127367221711:=()
def tw1330034925770341953:=()
def tw325859931500870069:=()
def tw5482152869550243855:=()
def tw8725019795597619273:=()
def tw16875677417819196726:=()
def tw16045037465418629548:=()
def tw10799952979001941806:=()
def tw14604920563164936298:=()
def tw320008255066963114:=()
def tw2036066484467708487:=()
def tw17679901839722445397:=()
def tw10791380008864956911:=()
def tw15244327742729145621:=()
def tw5338251324784441065:=()
def tw4093891064131641376:=()
def tw14002140905562642418:=()
def tw12266001773937504130:=()
def tw6942702675216246181:=()
def tw2961391966165283583:=()
def tw17336814575888661177:=()
def tw17050185765993179039:=()
def tw9694670081744763324:=()
def tw17655157325000754128:=()
def tw14648731785170642028:=()
def tw16105393608886910826:=()
def tw10260168064559314331:=()
def tw14114990290952750002:=()
def tw2082655594555981603:=()
def tw18023577870567079282:=()
def tw14636015666237654908:=()
def tw14049875322612921598:=()
def tw12961025245862718659:=()
def tw14987422839413069971:=()
def tw18114473016448462580:=()
def tw2445889360752616319:=()
def tw955929337336579005:=()
def tw14301853266551970203:=()
def tw17545640863447286932:=()
def tw2369204800224052533:=()
def tw17672043046396300408:=()
def tw4618215670626119915:=()
def tw13677808176751168457:=()
def tw10225660536167133016:=()
def tw7449211079333971567:=()
def tw12809255121629326538:=()
def tw9102249474104074598:=()
def tw14873870121012092418:=()
def tw11308610148077068916:=()
def tw2180269992567630490:=()
def tw15322482796737910916:=()
def tw8284379244774137071:=()
def tw1980097638037511017:=()
def tw17689111263868429944:=()
def tw13242343025995499090:=()
def tw12660498342622831033:=()
def tw15708735149692051625:=()
def tw7395370567695452587:=()
def tw6779007570518126579:=()
def tw17719772312953157347:=()
def tw17575583532189630827:=()
def tw15974666336671235768:=()
def tw14970574335958621702:=()
def tw13366892524390307037:=()
def tw1077678769825578976:=()
def tw9531365370527978107:=()
def tw6424149497572235826:=()
def tw3975600886976439406:=()
def tw2056749572425240138:=()
def tw16555348642334405298:=()
def tw12404730132457489069:=()
def tw7536291711077103343:=()
def tw6407654217818351110:=()
def tw5471459132490062372:=()
def tw1911274412566230679:=()
def tw1903233312360018147:=()
def tw18038287008803855833:=()
def tw11846975429251450442:=()
def tw2557095274675981252:=()
def tw240113292376985092:=()
def tw225375218494149681:=()
def tw17715504057125931379:=()
def tw14617873980721624889:=()
def tw13899230471916000123:=()
def tw12466306808818097372:=()
def tw11602717754993339713:=()
def tw13553997141350450030:=()
def tw7818398915674232744:=()
def tw14162023174072356583:=()
def tw5852963835183975668:=()
def tw3920126228815240063:=()
def tw18285844412838375092:=()
def tw15271362665049408180:=()
def tw1269015521167461492:=()
def tw7451592789462166592:=()
def tw5782811019790007669:=()
def tw5212691511653731938:=()
def tw5090565647878463416:=()
def tw17000070707330303173:=()
def tw10604814721139682595:=()
def tw14255520884244353596:=()
def tw8092573754514531870:=()
def tw6964102736231450836:=()
def tw11142433418950118755:=()
def tw14952823930184433809:=()
def tw2025099861995993594:=()
def tw11238520061960464607:=()
def tw9074534442694109111:=()
def tw18355672131990129527:=()
def tw2005572706840004576:=()
def tw15972516608417674486:=()
def tw13902690466764767030:=()
def tw16034766974065699081:=()
def tw136855223196953116:=()
def tw8600690302634881160:=()
def tw9936816082839436602:=()
def tw1491114035348315075:=()
def tw5183920161086552310:=()
def tw3597736180487224303:=()
def tw13153085092814450155:=()
def tw11166136878483476623:=()
def tw1034663714759155302:=()
def tw1265880712811963124:=()
def tw10417125847830088142:=()
def tw6568650167108002833:=()
def tw6338750566950910867:=()
def tw8923920175218808901:=()
def tw6942715560827333574:=()
def tw4633822509075929775:=()
def tw10456332789417625483:=()
def tw15950558453938144142:=()
def tw14416468253712499284:=()
def tw14011900900331334401:=()
def tw12327314288515272533:=()
def tw11118991872066415012:=()
def tw16970531774271176026:=()
def tw11424180629342035942:=()
def tw11082980409202933106:=()
def tw4721028585934685365:=()
def tw11298869642700673263:=()
def tw7133630722799198775:=()
def tw17424347861722305435:=()
def tw3326061262624335356:=()
def tw17733120397459072032:=()
def tw13173661258411609726:=()
def tw6305117461735634361:=()
def tw16673978033304380017:=()
def tw8094319661443459833:=()
def tw2648280967879750664:=()
def tw9824941454528015022:=()
def tw17515706558575102284:=()
def tw15886401640467724962:=()
def tw8195064364860136610:=()
def tw13820341597695697605:=()
def tw9461571863784104856:=()
def tw9634646567127768264:=()
def tw13645217668966116781:=()
def tw13036717874003819799:=()
def tw12703358052983210105:=()
def tw8579719730136229043:=()
def tw13924915479198171794:=()
def tw6151976157051056113:=()
def tw16531843585659718802:=()
def tw8118055146848281924:=()
def tw18111067309763545827:=()
def tw11667464514263001236:=()
def tw5804303952597425744:=()
def tw3233628787031038490:=()
def tw2403650754966972195:=()
def tw17977356717323790847:=()
def tw17197726564909474973:=()
def tw17186687855541225255:=()
def tw16698456848898255150:=()
def tw16622668317045109405:=()
def tw15865291478603948027:=()
def tw14510636932328803546:=()
def tw13019865542541082947:=()
def tw6882125668594507106:=()
def tw6692300931017970199:=()
def tw13846395565192512903:=()
def tw6191397118225027141:=()
def tw8620947928389402156:=()
def tw8251605931126583222:=()
def tw7328144326337076114:=()
def tw6099207605602753395:=()
def tw17797395234811321137:=()
def tw16496429632217417349:=()
def tw16067525405058969501:=()
def tw15865163141057181397:=()
def tw15248765445109687993:=()
def tw14761901557451770967:=()
def tw13718961381410281854:=()
def tw7999754040049283382:=()
def tw3259776154471095776:=()
def tw2518759700593382558:=()
def tw18037477882419297625:=()
def tw16606189227466588981:=()
def tw10651193691274873238:=()
def tw17673057820042069897:=()
def tw1164164767780482047:=()
def tw13343675847552732363:=()
def tw9959091728549840374:=()
def tw7493299157329401361:=()
def tw17564456833009902570:=()
def tw1750084852108143322:=()
def tw15135915147932265638:=()
def tw12218107448082670364:=()
def tw9093667121188011202:=()
def tw7403150351527183910:=()
def tw7268971159416942222:=()
def tw7180212094370946719:=()
def tw6120079172917491297:=()
def tw3880103863879366531:=()
def tw17981950874529132897:=()
def tw14183644918663567603:=()
def tw8986873411892872885:=()
def tw15275314734765503847:=()
def tw9443105462613710426:=()
def tw8978884042620636608:=()
def tw8770866838693123612:=()
def tw5019141381953455452:=()
def tw3382462388599465045:=()
def tw224998982624252283:=()
def tw18365277412552170255:=()
def tw17870431197157957725:=()
def tw16890674367975126805:=()
def tw16580477654945663138:=()
def tw16216585286244142924:=()
def tw15590036229123681980:=()
def tw12662847447393595474:=()
def tw12231396475474876363:=()
def tw10773486487178675762:=()
def tw8721119339752949570:=()
def tw8568853643365296909:=()
def tw8295683933166658041:=()
def tw7651279707442072934:=()
def tw6708054912762852174:=()
def tw5773392974880829680:=()
def tw3850260106295024548:=()
def tw2411128906682637170:=()
def tw17163741989192043672:=()
def tw16872368043922498593:=()
def tw14085522679412539028:=()
def tw1257245865695392287:=()
def tw12363471426616681133:=()
def tw12064687310741846722:=()
def tw10927045641712635281:=()
def tw12054261214143086345:=()
def tw8244282546916428372:=()
def tw6422797349596937545:=()
def tw10083532557635542802:=()
def tw9925128479884719294:=()
def tw10062565288973768895:=()
def tw9841694221834316985:=()
def tw9411944922170036724:=()
def tw7509652493556491567:=()
def tw4923427491662180817:=()
def tw4613132499175297087:=()
def tw3876580665494929123:=()
def tw3417937034348601228:=()
def tw15204941789748629658:=()
def tw13216942892535479163:=()
def tw12826020956580878662:=()
def tw1184980085627885535:=()
def tw11823652062501157895:=()
def tw8393438324814752371:=()
def tw7551129874408592903:=()
def tw5871036092741209292:=()
def tw5420669043288922094:=()
def tw4960176521375054879:=()
def tw4129649235527615165:=()
def tw2289727180900527255:=()
def tw167821017638196987:=()
def tw16764750206339459220:=()
def tw15807879653136667998:=()
def tw1556773040402154100:=()
def tw14510407986444984116:=()
def tw13451896389118602481:=()
def tw13032184690761200617:=()
def tw12710253665318840409:=()
def tw6308254390275594329:=()
def tw9703495914833102646:=()
def tw963034633557722001:=()
def tw9562273610059487273:=()
def tw9357291151285555077:=()
def tw9204086852200717527:=()
def tw9155895393972477054:=()
def tw8954386369557854207:=()
def tw8934425461076227787:=()
def tw8786358106640049696:=()
def tw8656450020428411860:=()
def tw8336092222270190536:=()
def tw8312782264235044317:=()
def tw8302193738668252417:=()
def tw8226900559313785327:=()
def tw807806809257444733:=()
def tw8004533977445386242:=()
def tw7983995190771920265:=()
def tw7968615595503454036:=()
def tw7919212643603746638:=()
def tw7542006355647198029:=()
def tw7389750291493201185:=()
def tw7342493511291655401:=()
def tw7258190767828485976:=()
def tw7210034200568162341:=()
def tw714823977051915994:=()
def tw709596612691866897:=()
def tw6963125676076131966:=()
def tw6943379365672258495:=()
def tw6873752810516972689:=()
def tw682648353098166780:=()
def tw6569286387389491106:=()
def tw6509814977231484831:=()
def tw6425025862464521289:=()
def tw6411290859216836969:=()
def tw6386416569844870211:=()
def tw634424491173037782:=()
def tw6159192420999917642:=()
def tw6012236387795902669:=()
def tw600296642262242767:=()
def tw5871467464468666129:=()
def tw5594920912527979022:=()
def tw5554058927188408043:=()
def tw5494459083936649627:=()
def tw5446123481546772847:=()
def tw5393371719213599408:=()
def tw5292209947671932257:=()
def tw5150427200347723968:=()
def tw5102253762174470616:=()
def tw5086125474052478159:=()
def tw4845490988878565091:=()
def tw4761497681959997526:=()
def tw4704474354532987665:=()
def tw467605014241366277:=()
def tw4627544898837667388:=()
def tw4470437906055232663:=()
def tw4358179396719448419:=()
def tw4319813698168153310:=()
def tw4148912528222596396:=()
def tw4018789815515269162:=()
def tw3872707822163941071:=()
def tw3856503843817134723:=()
def tw3817636879714938889:=()
def tw371659863086893661:=()
def tw3559769391307844359:=()
def tw3523999748054251720:=()
def tw3295949640452952405:=()
def tw3253550021576131544:=()
def tw317476664379876925:=()
def tw2939982403562590777:=()
def tw2891437671227404896:=()
def tw2860255156650451365:=()
def tw2624123381571846741:=()
def tw16550073357732574180:=()
def tw13948254861365526152:=()
def tw9824628102758435501:=()
def tw8669235754075601398:=()
def tw16524395106867673921:=()
def tw6257561147971022994:=()
def tw17332477180340735369:=()
def tw9963308564578720425:=()
def tw15630943010811762912:=()
def tw245539003345311755:=()
def tw6599181389677458113:=()
def tw10100653685242021374:=()
def tw15294396381706665938:=()
def tw13134698714365584211:=()
def tw2490486544361284790:=()
def tw11824891722391321184:=()
def tw5866751266762389838:=()
def tw1782679386275828629:=()
def tw14002122442128921157:=()
def tw12321646628229835843:=()
def tw17386180655132525242:=()
def tw12262387408439137898:=()
def tw10497579116644768211:=()
def tw2881782499587665526:=()
def tw3105142892668474748:=()
def tw3534570208903452932:=()
def tw7271168334245666068:=()
def tw2901884667804370334:=()
def tw11542546985729035465:=()
def tw13939674626152573029:=()
def tw11693906299698375747:=()
def tw7775897763146805038:=()
def tw7419343792490075603:=()
def tw10461813832510907491:=()
def tw6321764924418639263:=()
def tw7080719463893749854:=()
def tw11842209540409744384:=()
def tw7098837100260391194:=()
def tw10226996803658188842:=()
def tw3995252270155795851:=()
def tw11636458486088426253:=()
def tw11267814790145370899:=()
def tw16576181605549018045:=()
def tw17728007974949926942:=()
def tw7509308981282758455:=()
def tw12920873244064644667:=()
def tw17760470132349943034:=()
def tw14128336695715445584:=()
def tw18278542040009245701:=()
def tw6606993509778676777:=()
def tw6000043139909446977:=()
def tw4296875932646589386:=()
def tw2137184271603576128:=()
def tw7712976727345736517:=()
def tw4960893684498607264:=()
def tw1465271697925818463:=()
def tw7257986344476182072:=()
def tw16911266697953731371:=()
def tw12499824168202084625:=()
def tw10191586652490664963:=()
def tw16514667635768806447:=()
def tw11928020673814473241:=()
def tw10528089233432242826:=()
def tw13701492655226334816:=()
def tw18060936902147388778:=()
def tw5144030756131162341:=()
def tw5474579559153595882:=()
def tw813417295949780596:=()
def tw11646441333163143172:=()
def tw17635602125783053526:=()
def tw15018718991533538072:=()
def tw13278211065269359005:=()
def tw17412126878349490532:=()
def tw2322927002065072596:=()
def tw9947705692789393382:=()
def tw1783020571936100495:=()
def tw13494657116551279364:=()
def tw6075053452992519710:=()
def tw7849672978068473611:=()
def tw1532505926870513301:=()
def tw12845003300984076446:=()
def tw34126376913080130:=()
def tw18376872466954346332:=()
def tw11708179737106132613:=()
def tw7832088203395502904:=()
def tw14587685692213204883:=()
def tw8695839626498965259:=()
def tw16195382789670641881:=()
def tw12210657921349827367:=()
def tw5529557389905507826:=()
def tw18322371402233799934:=()
def tw7482646144083558231:=()
def tw17585333574879055507:=()
def tw11326471921767588899:=()
def tw12825694496246755192:=()
def tw5444675948103627531:=()
def tw17252175226151445258:=()
def tw9268601083625622022:=()
def tw4052852930848270054:=()
def tw799820173353242684:=()
def tw3369695785049997621:=()
def tw7964661883501275163:=()
def tw16883662071529668332:=()
def tw12302284693612328856:=()
def tw13024219509846123243:=()
def tw14491564806344683952:=()
def tw1399655573233173223:=()
def tw16247422042040056236:=()
def tw2843080225064764:=()
def tw16718634129685272079:=()
def tw13377818202080420499:=()
def tw17256253619178069508:=()
def tw6051858874119898791:=()
def tw2949444671861884896:=()
def tw1992879872547604992:=()
def tw16126428173677286269:=()
def tw11834063603669184757:=()
def tw5225410499063875465:=()
def tw12165384397778730220:=()
def tw10844997174197227188:=()
def tw4358099524077941483:=()
def tw759303124715105804:=()
def tw720227713206681485:=()
def tw6705263169560155131:=()
def tw17314088223380440065:=()
def tw13254761924570586119:=()
def tw15022411903502862022:=()
def tw9143990237283572681:=()
def tw2681359774483136497:=()
def tw11586766749454646238:=()
def tw12241161375374568704:=()
def tw6089639800448076838:=()
def tw3243995778759607764:=()
def tw5650582778168876830:=()
def tw12434503455365364610:=()
def tw12773314233788294659:=()
def tw13306766332395584284:=()
def tw1104748316635035970:=()
def tw13152931230213216781:=()
def tw8312932520816203556:=()
def tw13643807673330178953:=()
def tw10605828448457079512:=()
def tw16820047916630279547:=()
def tw16196097562208704903:=()
def tw4547574086570621757:=()
def tw1428223213750547838:=()
def tw3995894148785819969:=()
def tw8318037587808587275:=()
def tw8056285271006185627:=()
def tw12563084284275901632:=()
def tw5625569499986546063:=()
def tw6917503808571655692:=()
def tw11201901883079672666:=()
def tw16641313872168496953:=()
def tw3455334792139461067:=()
def tw18268367424300499497:=()
def tw13712084173664771461:=()
def tw17397560914011859639:=()
def tw10068386382109900803:=()
def tw15033093800144492457:=()
def tw69474763811718420:=()
def tw9129247886219290484:=()
def tw2949286581615005051:=()
def tw5807556939122025146:=()
def tw13764686413763885234:=()
def tw8871309986260867501:=()
def tw8423867510751021036:=()
def tw12129220809286949412:=()
def tw10784239377505656172:=()
def tw765242054457046146:=()
def tw447978364906389686:=()
def tw15424169364809146980:=()
def tw6446483681815218629:=()
def tw1624611746196709385:=()
def tw11558137987558095967:=()
def tw17364095935769590637:=()
def tw5760999312783460480:=()
def tw4016123140766358478:=()
def tw15435437483575547884:=()
def tw10156651713250120671:=()
def tw9220447531897033339:=()
def tw16292375598333700038:=()
def tw4044260414031534505:=()
def tw4845317270586100071:=()
def tw413967430882088919:=()
def tw18244948171170604884:=()
def tw8421577047628072484:=()
def tw2540329566895268778:=()
def tw9191414202163331497:=()
def tw5522003252253513022:=()
def tw3791900963689483877:=()
def tw10047412670855782494:=()
def tw9448088871243751368:=()
def tw15110708044365462924:=()
def tw282433666697130712:=()
def tw8833395136934094415:=()
def tw18258815061810564609:=()
def tw11440661630299654424:=()
def tw5214272529320248781:=()
def tw15080843528244655984:=()
def tw12592665363578114914:=()
def tw9436296135405609086:=()
def tw4239850031126314312:=()
def tw2464967269987107715:=()
def tw5983403925271416240:=()
def tw15090218958298202230:=()
def tw6469404170031748889:=()
def tw15194568705882284197:=()
def tw10792668388050780129:=()
def tw13587331416733646443:=()
def tw6229605768148958700:=()
def tw217707238021896549:=()
def tw3212309053820492082:=()
def tw13644601884694408474:=()
def tw16966711061177267289:=()
def tw3507873876359270722:=()
def tw14736091483897125468:=()
def tw3194070875009119230:=()
def tw10140283532840811818:=()
def tw8974441797186306315:=()
def tw950943474778629227:=()
def tw13349709933435411237:=()
def tw13422050057079655900:=()
def tw9488774929012538138:=()
def tw13554553934364594241:=()
def tw5790154292907422986:=()
def tw2069606741572626665:=()
def tw5919139034053138368:=()
def tw4191263146395233717:=()
def tw13291482488896003993:=()
def tw10227502786645585301:=()
def tw8003869469273333097:=()
def tw17317545795159901936:=()
def tw2598242029649747786:=()
def tw4023242063352566013:=()
def tw14659674362960935862:=()
def tw3270482880740693819:=()
def tw17052618450298630697:=()
def tw1043745212234912752:=()
def tw10798604885570536457:=()
def tw10336802645975499565:=()
def tw3095832752277410309:=()
def tw5527748622184193976:=()
def tw15248936639244544263:=()
def tw9641361892142264336:=()
def tw14273876071656822692:=()
def tw8233272617551529015:=()
def tw11171099975403339113:=()
def tw5920956783813475136:=()
def tw10845714663787853457:=()
def tw17795542157538982089:=()
def tw2564490383909630802:=()
def tw3143577734076115138:=()
def tw6333664542609898228:=()
def tw9623689601856801334:=()
def tw10524333808193918557:=()
def tw1804314081044485411:=()
def tw4411304164866746349:=()
def tw12874144438409417140:=()
def tw4648187099867407801:=()
def tw4441841326773562806:=()
def tw11019922240781512235:=()
def tw9783387055336797215:=()
def tw16705938934586506202:=()
def tw5955475272011385463:=()
def tw12293663673263639544:=()
def tw18338347448171586826:=()
def tw4185531096052211005:=()
def tw12624508608345589493:=()
def tw11273066587213722711:=()
def tw8313193703303269265:=()
def tw5648757295482746784:=()
def tw12801841802550289594:=()
def tw881395488062090917:=()
def tw12324982114370040344:=()
def tw6722740158655556932:=()
def tw1361181845645783906:=()
def tw14620488061480650703:=()
def tw6595187706765209800:=()
def tw499077164483253871:=()
def tw2020547618341524150:=()
def tw8916789727475779383:=()
def tw7814293164887721880:=()
def tw10799755634881886941:=()
def tw16707341994870925563:=()
def tw14803605468879216718:=()
def tw17962580109869904228:=()
end PySem.W.Fast
open Array renaming getElem?_eq_getElem->af_, length_toList->ajr, toList->al7
open Bool renaming false_ne_true->N9, and_eq_true->Vq, eq_iff_iff->Vr, false_eq_true->Zn, eq_false_iff->EN, and_false->DX, or_false->aj_, and_true->aj'
open Classical renaming byContradiction->σ2, propDecidable->Zw, not_imp->ajD, not_forall->aj6
open Int renaming ne_of_gt->Nd, zero_add->Nc, gcd->JZ, natAbs_mul->VH, gcd_dvd_right->Ze, mul_comm->VF, mul_pos->UX, gcd_dvd_left->Zk, fmod_nonneg_of_pos->Qr, natAbs_dvd_natAbs->Q8, fdiv_eq_of_eq_mul_right->afH, natAbs_add_le->yT, toNat_of_nonneg->Mq, toNat_natCast->MM, lt_trichotomy->LV, mul_zero->α3, mul_assoc->vV, fmod_lt_of_pos->ajw, mul_neg_of_pos_of_neg->ajz, mul_eq_zero->ajW, natAbs_neg->aj3, le_refl->LH, gcd_zero_right->akh, fmod_def->akp, emod_eq_of_lt->akW, gcd_mul_left->ald, gcd_pos_iff->alq, mul_ne_zero->alr, dvd_coe_gcd->alz
open List renaming length_map->be, getElem?_eq_some_iff->ir, mem_of_getElem?->Wp, getElem?_map->CP, mem_map->DA, map_cons->ED, getElem?_eq_none->IM, length_append->HI, mem_cons_of_mem->IH, mem_singleton->HU, getElem?_of_mem->JG, mem_cons_self->IU, map_map->EL, getElem?_append_left->NG, mem_append->HZ, length_take->IY, getElem?_append_right->NQ, getD_eq_getElem?_getD->NM, map_append->II, map_congr_left->N3, replicate->IV, size_toArray->NJ, flatMap_cons->NL, mem_cons->JP, sum_cons->N7, length_cons->NX, mem_append_left->Ny, range->JJ, take_length->Ni, mem_append_right->QP, nodup_cons->Nk, take_of_length_le->Q_, map_nil->NV, length_replicate->Rp, ext_getElem?->QZ, length_singleton->V1, getElem?_replicate->VN, take_add_one->RH, length_range->RG, getElem?_take_of_lt->Vs, getElem_mem->RC, mem_iff_getElem->VL, mem_range->QX, mem_flatMap->Rj, zipWith->QG, getElem?_range->Vw, getElem?_set->VM, getElem?_inj->Vu, sum_nil->RI, flatMap_append->Wk, filter_cons->Vp, lookup->RA, length_eraseIdx->Zm, nodup_append->Wt, filterMap_cons->Zu, replicate_succ->Zs, getElem?_eraseIdx->yi, length->Ri, any_eq_true->Wq, getElem?_zipWith->yg, mem_filter->σ', append_nil->Wn, append_assoc->Zh, mem_of_mem_eraseIdx->QQ, length_drop->Zd, find?_cons->ZV, any_cons->Wi, length_filter_le->Mz, take_append_drop->My, getElem?_set_ne->QK, nodup_nil->ZZ, mem_of_mem_take->QL, lookup_cons->ya, cons_append->yX, getElem?_zip_eq_some->agb, getElem?_set_self->ag_, flatten_cons->LU, forIn_nil->v_, getElem_take->K_, pairwise_map->K', all_cons->vX, nil_append->EM, length_nil->EK, forIn_cons->EG, mem_filterMap->ajv, lookup_append->ajy, length_filterMap_le->ajF, length_eq_zero_iff->ajH, filter_cons_of_pos->ajI, filter_cons_of_neg->ajJ, length_eraseIdx_le->ajK, eraseIdx_cons_succ->ajL, range_succ_eq_map->ajP, zipWith_cons_cons->ajR, getElem_cons_drop->ajS, length_eq_one_iff->ajT, of_mem_zip->ajU, length_set->ajV, range_succ->ajY, sum_append->ajZ, eq_nil_or_concat->aj0, concat_eq_append->aj1, eraseIdx_sublist->aj2, mem_of_mem_drop->aj8, take_succ_cons->aj9, Nodup->DF, forIn_toArray->akf, filter_append->akg, mem_replicate->aki, any_eq_false->akm, all_map->akr, sum->uo, getElem_inj->ak_, nodup_range->ale, zipIdx_cons->alf, cons_ne_nil->alg, flatMap_nil->alh, length_zip->als, zipIdx_nil->alw, foldl->alJ, take_zero->alO
open List.Pairwise renaming imp_of_mem->ajE
open Nat renaming le_refl->DH, le_trans->EE, lt_of_le_of_lt->IG, lt_of_lt_of_le->NU, pow_le_pow_right->Pd, ne_of_lt->N8, mul_le_mul_right->Q3, zero_le->NF, lt_succ_self->QW, lt_irrefl->Q0, le_of_lt->QM, lt_succ_iff_lt_or_eq->Zz, mul_le_mul->U_, not_lt_zero->VJ, add_mul->Rf, ne_of_gt->VG, add_sub_cancel_left->Qt, lt_succ_of_lt->yC, one_le_two_pow->Mp, pow_succ->α2, pow_add->α1, pow_lt_pow_right->ajm, min_eq_left->EA, pow_le_pow_left->ajs, mul_comm->vU, lt_trans->uq, le_succ->vn, le_of_not_lt->ajG, le_of_eq->LF, add_comm->LC, min_self->LB, two_pow_pos->ajX, one_mul->LI, add_sub_cancel->akb, le_succ_of_le->akF, zero_mul->ak2, sub_self->ak6, succ_le_succ->alb
open Ne renaming symm->G'
open Option renaming map_eq_some_iff->JM, map_some->ZY, isSome_iff_exists->age, isSome_map->ajC, isSome_some->aka, getD_none->ak', none->amr
open Option.some renaming inj->JB
open Or renaming inl->Pe, inr->Rw
open Prod renaming ext->V5, fst->DB, snd->C_
open Rat renaming intCast_mul->V0, intCast_lt_intCast->Q9, intCast_inj->wo, mul_nonneg->vY, intCast_le_intCast->ajh, num_divInt_den->akd, sub_eq_add_neg->akk, divInt_eq_div->akC, add_zero->akL, le_of_lt->akQ, intCast_add->alu, intCast_sub->alv, mul_eq_zero->alD
open Std.Legacy.Range renaming forIn_eq_forIn_range'->aj4, size->amg
open Sum renaming inr->IL, inl->V7
open Sum.inl renaming inj->alk
open Sum.inr renaming inj->Nh
open PySem.W (Frag nsIn codeIn keepIn fnOf mg_of mg_none_of)
open PySem renaming wpAny_bind->BL, Addr->BK, wpAny_pure->DT, sizeLine->DC, wpAny->CB, Shared->DI, model->CL, mainGlobals->HL, starEach->HE, Program->HY, Around->JI, eval->EI, bootBuiltins->NW, wpAny_holding->Nq, compareOp->NR, wpAny_mono->NZ, sysModules->Nf, wpAny_field->Nv, IsPair->N5, wpAny_truthy_bool->UW, wpAny_newObj_type->U3, foldedSetIterable->Sq, rawInt->NH, backTo->NK, wpAny_call_entry->VE, wpAny_seqItems->Sn, codeAny->Np, intBits_mul_le->VD, cLine->NS, attributeBase->VC, plainId_quiet->VB, wpAny_typeNameOfWhole_valiter->Mt, binaryOp->QF, wpAny_Call_Name_kw->ZP, wpAny_setField_rec->ZO, wpAny_passesOwn->Wh, pyNext->Nw, wpAny_dictEntries->ZM, call_meetsIn->Vd, wpAny_typeNameOf_valiter->MF, mem_of_lookup->wj, wpAny_getItem_str_slice->MD, wpAny_Call_method0_late->MA, swapsWith->Rx, IsZip->Nn, tupleKind_room_in1->we, codeAny_builtin->ZC, wpAny_nextOf_list_item->Lu, wpAny_pyIter_list->wd, wpAny_typeOf->Vz, builtinLookup_eq_fast->Ls, wpAny_isOneOf_valiter->LY, assignEach->Vc, wpAny_pyIter_zip->wc, behindInMarks->α7, sliceBounds->Vy, evalArgs_none->LX, getattributeRaised->Md, call_meets->Wd, keywordEach->ZG, wpAny_isInstance->Mf, holding->V8, builtinsNs->α6, wpAny_execs_nil->LM, wpAny_rule->α5, letOwnedTupleGo->LK, typeLookup->α4, post_val_or_str->LS, wpAny_ite_split->LQ, wpAny_updateSeq->LP, wpAny_dictEpoch->DG, typeLookup_type->DL, recursionLimit->DS, newFunctionEnv->DR, wpAny_fieldsOf->CZ
open PySem.Heap renaming get?_push_of_some->GY, get?_push_size->JO, lt_size->HF, size_push->Pk, get?_update_other->VA, SameBut->R_, get?_update_self->x5
open PySem.PassesOwn renaming never->HG
open PySem.Paired renaming length->GX, snoc->ZD
open PySem.W renaming findIn->NT, emptyDict->QE, instObj->QD, kitOne->Pj, kia_one->Qv, plainGet->Vn, makesIn->Vm, hasDictIn->Wf, plainOver->ZN, callWith_K->Me, isFn->vp, lookIn->DW
open PySem.Builtin.SmallTypes renaming ownedTupleIsFree->Vf, nextOf->RZ
open PySem.F renaming plainAttrs_list->Qo, slot_list_append->Sl, type_list_append->SX, slot_zip_next->Vg, slot_dict_valueiterator_next->Mu, slot_dict_values->Mc, plainAttrs_dict->MX, args_zip_next_1->MO, entry_zip_next->LN
open PySem.Str renaming ofString->Pc
open PySem.AutoSeq1 renaming wpAny_loadPart'->Ve
open PyProof.Rows renaming callWith_type1->We, envOfC->Pf, kindOf->QC, AllBare->SR
open PySem.Calls renaming callWith_builtin->Wg, spliced_cons->ZQ, spliced_nil->Mb
open PySem.Builtin.List renaming listTooLong->wz, listExtendWith->Mw
open PySem.Around renaming under_plainId->ZH
open PySem.Builtin.Slice renaming slicePlaces->Mv
open PySem.Obj renaming mapSeq->SG
open PySem.Builtin.Tuple renaming tupleExact->MJ
open PySem.Builtin.Dict renaming updateFrom->Lz
open PySem.Shared renaming TypeIs->Wc
open PySem.SeqAt renaming EqAt->Vb
def mQ.{u}{c:Prop}[Decidable c](a:¬c){Z:Sort u}{t e:Z}:ite c t e=e:=if_neg a
def ox.{u}{c:Prop}[Decidable c](a:c){Z:Sort u}{t e:Z}:ite c t e=t:=if_pos a
def DQ{a b:Prop}(h:a)(n:¬a):b:=absurd h n
def pU.{u,v}{Z:Sort u}{β:Sort v}{a b:Z}(f:Z->β)(h:a=b):f a=f b:=congrArg f h
def NI{p:Prop}[Decidable p](h:p):decide p=true:=decide_eq_true h
def Nl{p:Prop}[Decidable p](h:decide p=true):p:=of_decide_eq_true h
def Pn{p:Prop}[Decidable p](h:¬p):decide p=false:=decide_eq_false h
theorem O.{u}{Z:Sort u}{a:Z}:a=a:=rfl
section
def cv:Nat->Lean.Term->Lean.MacroM (Lean.TSyntax `rcasesPat)
|0,_=>Lean.Macro.throwUnsupported
|n+1,x=>match x with|`(($a,$b,*))=>do {let a←cv n a;let b←b.getElems.mapM (cv n);`(rcasesPat|⟨$a,$b,*⟩)}|`(#[$b,*])=>do {let b←b.getElems.mapM (cv n);`(rcasesPat|⟨$b,*⟩)}|`(_)=>`(rcasesPat|_)|`($x:ident)=>`(rcasesPat|$x:ident)|_=>Lean.Macro.throwUnsupported
local macro_rules|`(tactic|show $x)=>`(tactic|refine $x)
local macro_rules|`(#[$x,*])=>if x.getElems.size<1 then Lean.Macro.throwUnsupported else `(⟨$x,*⟩)
local macro_rules|`(($a,$x,*))=>if x.getElems.size<2 then Lean.Macro.throwUnsupported else `(⟨$a,$x,*⟩)
theorem ce {p:Prop}(h:p:=by omega):p:=h
theorem cr {p:Prop}[Decidable p](h:decide p=true:=by rfl):p:=of_decide_eq_true h
theorem fD {p:Prop}(h:p:=by simp):p:=h
local macro_rules|`(tactic|erw [$r,*] at $h:ident)=>`(tactic|(rw [$r,*] at $h:ident;cases $h:ident))
local macro_rules|`(tactic|let $d:letDecl)=>`(tactic|have $d:letDecl)
local macro_rules|`(tactic|let $p:term:=$e)=>do {let p←cv 9 p;`(tactic|obtain $p:rcasesPat:=$e)}
namespace L2
open PySem PySem.Spec PyProof.Rows
abbrev _root_.δ:=Value->DI->Prop
abbrev _root_.ζ:=List (BK×Obj)
abbrev _root_.η:=Str->Option (Rat×Rat)
abbrev _root_.θ:=List (List Int)
abbrev _root_.ν:=Str->Option Value
abbrev _root_.ξ:=List Int
abbrev _root_.ο:=List Value
abbrev _root_.π:=List (Int×Int)
abbrev _root_.ρ:=List (Nat×List Int)
abbrev _root_.ς:=List Str
abbrev _root_.υ:=Str->Rat×Rat
abbrev _root_.ψ:=List BK
abbrev _root_.ω:=Str->List Rat
abbrev _root_.Α:=List (Str×Str×Str)
abbrev _root_.Β:=Str->Option Rat
abbrev _root_.Δ:=List (List (Int×Int))
abbrev _root_.Ε:=List Expr
abbrev _root_.Η:=Array Value
abbrev _root_.Ι:=List (Str×List (Rat×Rat))
abbrev _root_.Κ:=Option BK
abbrev _root_.Λ:=Str->Rat
abbrev _root_.Μ:=Array (Option Value)
abbrev _root_.Ν:=List (Rat×Rat)
abbrev _root_.Ξ:=Option Value->DI->Prop
abbrev _root_.Ο:=List Rat
abbrev _root_.Ρ:=Result->DI->Prop
abbrev _root_.Υ:=Option Int
abbrev _root_.Φ:=Str->Option (Int×Int)
abbrev _root_.Ω:=List Nat
abbrev Key:=Sum Int Str
abbrev _root_.Χ:=List (List Key×BK×Value)
def w6:Key->Value->Bool
 | .inl k,v=>Value.isInt k v
 | .inr x,v=>Value.isStrOf x v
def akj (w:World):Key->Int
 | .inl k=>hashInt k
 | .inr x=>hashStr w x
def cP:∀{k:Key} {v:Value},w6 k v=true->(∃i t,k=V7 i/\v=Value.int i t)\/(∃x t,k=IL x/\v=Value.str x t)
 | .inl i,v,h=>by
  let(t,e):=Value.isInt_shape (k:=i) (v:=v) h;show .inl (i,t,O,e)
 | .inr x,v,h=>by
  let(t,e):=Value.isStrOf_shape (x:=x) (v:=v) h;show .inr (x,t,O,e)
def ab7 (i:Int)(t:Tok):w6 (.inl i) (.int i t)=true:=by simp [w6,Value.isInt]
def ab6 (x:Str)(t:Tok):w6 (.inr x) (.str x t)=true:=by simp [w6,Value.isStrOf]
def acx (a b:Int):decide ((V7 a:Key)=V7 b)=(a==b):=by
 by_cases e:a=b
 ·subst e;simp
 ·let h:¬ (V7 a:Key)=V7 b:=λq=>e (alk q)
  rw [Pn h];show(beq_eq_false_iff_ne.mpr e).symm
def zv5 (a b:Str):decide ((IL a:Key)=IL b)=decide (a=b):=by
 by_cases e:a=b
 ·subst e;simp
 ·let h:¬ (IL a:Key)=IL b:=λq=>e (Nh q)
  rw [Pn h,Pn e]
def zaq (a:Int)(b:Str):decide ((V7 a:Key)=IL b)=false:=Pn (λq=>nomatch q)
def zaj (a:Str)(b:Int):decide ((IL a:Key)=V7 b)=false:=Pn (λq=>nomatch q)
def bF (prog:HY)(w:World):PySem.KeyKind prog w Key where
 is:=w6
 hash:=akj w
 inj:=λv a b U Y=>by
  rcases cP U with ⟨i,t,rfl,rfl⟩|⟨x,t,rfl,rfl⟩
  ·rcases cP Y with ⟨j,u,rfl,e⟩|⟨y,u,rfl,e⟩
   ·injection e with e1 _;rw [e1]
   ·show nomatch e
  ·rcases cP Y with ⟨j,u,rfl,e⟩|⟨y,u,rfl,e⟩
   ·show nomatch e
   ·injection e with e1 _;rw [e1]
 byValue:=λk v h=>by
  rcases cP h with ⟨i,t,rfl,rfl⟩|⟨x,t,rfl,rfl⟩<;>rfl
 pyHash:=λZ h=>by
  rcases cP Z with ⟨i,t,rfl,rfl⟩|⟨x,t,rfl,rfl⟩
  ·show wpAny_pyHash_int h
  ·show wpAny_pyHash_str h
 eqBool:=λX Z h=>by
  rcases cP X with ⟨i,t,rfl,rfl⟩|⟨x,t,rfl,rfl⟩
  ·rcases cP Z with ⟨j,u,rfl,rfl⟩|⟨y,u,rfl,rfl⟩
   ·rw [acx] at h;show wpAny_eqBool_int h
   ·rw [zaq] at h;show SeqAt.EqAt.int_str i t y u _ _ _ _ h
  ·rcases cP Z with ⟨j,u,rfl,rfl⟩|⟨y,u,rfl,rfl⟩
   ·rw [zaj] at h;show SeqAt.EqAt.str_int x t j u _ _ _ _ h
   ·rw [zv5] at h;show wpAny_eqBool_str h
 «strs»:=λk x t v h=>by
  rcases cP h with ⟨i,u,rfl,e⟩|⟨y,u,rfl,e⟩
  ·show nomatch e
  ·injection e with e1 _
   subst e1;cases v<;>rfl
def abf (prog:HY)(w:World)(i:Int)(t:Tok):(bF prog w).is (.inl i) (.int i t)=true:=ab7 i t
def abe (prog:HY)(w:World)(x:Str)(t:Tok):(bF prog w).is (.inr x) (.str x t)=true:=ab6 x t
inductive V where
 | cW|bl (b:Bool)|int (i:Int)|str (x:Str)|vy (b:Array UInt8)|σ6 (b:UInt64)|ref (a:BK)|ty (n:String)
 deriving DecidableEq
abbrev _root_.γ:=List (Key×V)
abbrev _root_.ε:=List V
abbrev _root_.χ:=Option V
abbrev _root_.Ζ:=List (List V)
abbrev _root_.Τ:=List (List Key×V)
def RelV:V->Value->Prop
 | .cW,u=>u=Value.none
 | .bl b,u=>u=Value.bool b
 | .int i,u=>∃t,u=Value.int i t
 | .str x,u=>∃t,u=Value.str x t
 | .vy b,u=>∃t,u=Value.bytes b t
 | .σ6 b,u=>∃t,u=Value.float b t
 | .ref a,u=>u=Value.ref a
 | .ty n,u=>u=Value.type n
abbrev Vals:List V->List Value->Prop:=Paired RelV
theorem Vals.length {xs:ε}{us:ο}(r:Vals xs us):xs.length=us.length:=GX r
theorem Vals.get:∀{xs:ε} {us:ο} {i:Nat} {x:V},Vals xs us->xs[i]?=some x->∃u,us[i]?=some u/\RelV x u
 | _,_,_,_,.nil,e=>by simp at e
 | _,_,0,_,.cons r _,e=>by simp at e;subst e;show(_,O,r)
 | _,_,i+1,x,.cons _ t,e=>by
  let(u,Y,Z):=Vals.get (i:=i) (x:=x) t (by simpa using e);show(u,by simpa using Y,Z)
theorem Vals.set (r:RelV x u):∀{xs:ε} {us:ο} (i:Nat),Vals xs us->Vals (xs.set i x) (us.set i u)
 | _,_,_,.nil=>.nil
 | _,_,0,.cons _ t=>.cons r t
 | _,_,i+1,.cons q t=>.cons q (Vals.set r i t)
theorem Vals.append:∀{xs ys:ε} {us ws:ο},Vals xs us->Vals ys ws->Vals (xs++ys) (us++ws)
 | _,_,_,_,.nil,s=>s
 | _,_,_,_,.cons r t,s=>.cons r (Vals.append t s)
theorem Vals.take:∀{xs:ε} {us:ο} (n:Nat),Vals xs us->Vals (xs.take n) (us.take n)
 | _,_,0,_=>.nil
 | _,_,_+1,.nil=>.nil
 | _,_,n+1,.cons r t=>.cons r (Vals.take n t)
theorem Vals.drop:∀{xs:ε} {us:ο} (n:Nat),Vals xs us->Vals (xs.drop n) (us.drop n)
 | _,_,0,r=>r
 | _,_,_+1,.nil=>.nil
 | _,_,n+1,.cons _ t=>Vals.drop n t
def jF:Option V->Option Value->Prop
 | some v,some u=>RelV v u
 | none,none=>True
 | _,_=>False
def KV {κ:Type}:List (κ×V)->List (κ×Value)->Prop:=Paired λ(p:κ×V) (q:κ×Value)=>p.1=q.1/\RelV p.2 q.2
def kV:Key->V
 | .inl i=>.int i
 | .inr x=>.str x
inductive HO where
 | lst (xs:ε)
 | tup (xs:ε)
 | dK (AP:γ)|dT (AP:Τ)
 | set (S:Int->Bool) (n:Nat)
 | ins (C X:BK) (Z:List (Str×V))
 | own (x:BK)
 | xd (Z:List (Str×V))
 | met (f x:BK)
 | rng (lo Y:Int)
 | eR (o:Obj) (u:HO)
 | σ7 (ps:Η)
 | ext (φ:Heap->Prop)
abbrev Hp:=BK->Option HO
abbrev _root_.Ψ:=Nat->V->Hp->Prop
def upd (H:Hp)(a:BK)(o:HO):Hp:=λb=>if b=a then some o else H b
def ak :upd H a o a=some o:=by unfold upd;rw [ox rfl]
def aj (h:b≠a):upd H a o b=H b:=by unfold upd;rw [mQ h]
def acr {H:Hp}(h:H a=some o)(h':H b=some u)(d:o≠u):a≠b:=by
 intro e;subst e;rw [h] at h';show d (JB h')
def ao {H:Hp}(h:H a=some o)(h':H b=none):a≠b:=by
 intro e;subst e;erw [h] at h'
section
variable (P:HY)(w:World)
def dz (H:Hp)(h:Heap)(a:BK):HO->Prop
 | .lst xs=>xs.length<=DC/\∃(BN:ο)(n:Nat),Vals xs BN/\h.get? a=some {cls:=.type "list",data:=.seq BN.toArray n}
 | .tup xs=>xs.length<=DC/\∃BN:List Value,Vals xs BN/\IsTup h a BN.toArray
 | .dK X=>X.length<=DC/\(a==Nf)=false/\∃T,KV X T/\h.DictOf (bF P w) a T
 | .dT X=>X.length<=DC/\(a==Nf)=false/\∃xs:List (List Key×BK×Value),
   Paired (λ(p:List Key×V) (q:List Key×BK×Value)=>p.1=q.1/\H q.2.1=some (.tup (p.1.map kV))/\RelV p.2 q.2.2) X xs/\
   ∃o N J,h.get? a=some o/\o.ExactDict/\o.data=.dict N J/\N.toList=xs.map (entryOfKey (tupleKind (bF P w)))/\(xs.map (·.1)).Nodup
 | .set S n=>h.SetOf (intKind P w) a S n
 | .ins C U Y=>H U=some (.own a)/\Y.length<=1000/\U≠a/\h.get? a=some (QD C U)/\
   ∃Z,h.Ns1 U Z/\(∀f,jF (Y.lookup f) (Z f))/\PySem.Within Z (Y.map (·.1))
 | .own _=>∃o,h.get? a=some o
 | .xd Y=>∃Z,h.Ns1 a Z/\∀f,jF (Y.lookup f) (Z f)
 | .rng lo L=>∃t u v,h.get? a=some {cls:=.type "range",data:=.fields (List.toArray [.int lo t,.int L u,.int 1 v])}
 | .eR o u=>h.get? a=some o/\dz H h a u
 | .σ7 M=>h.get? a=some {cls:=.none,data:=.fields M}
 | .met f x=>h.get? a=some (PySem.W.methodObj (.ref f) (.ref x))
 | .ext φ=>φ h/\(∃o,h.get? a=some o)/\∀Q R:Heap,φ Q->(∀o,Q.get? a=some o->R.get? a=some o)->φ R
def mE (H:Hp)(h:Heap):Prop:=∀a o,H a=some o->dz P w H h a o
end
section
variable {P:HY}{w:World}{H H':Hp}{h h':Heap}{a:BK}{o:HO}
theorem dz.lt (x:dz P w H h a o):a<h.objs.size:=by
 cases o with
 | lst xs=>let(_,_,_,_,e):=x;show HF e
 | tup xs=>let(_,_,_,p):=x;show p.lt
 | dK Y=>let(_,_,_,_,o,_,_,e,_):=x;show HF e
 | dT Y=>let(_,_,_,_,o,_,_,e,_):=x;show HF e
 | set S n=>let(o,_,_,_,e,_):=x;show HF e
 | ins C R Z=>let(_,_,_,e,_):=x;show HF e
 | own y=>let(_,e):=x;show HF e
 | xd Z=>let(_,(_,_,_,e,_),_):=x;show HF e
 | rng lo T=>let(_,_,_,e):=x;show HF e
 | eR U u=>let(e,_):=x;show HF e
 | σ7 X=>show HF (show h.get? a=some _ from x)
 | met f y=>show HF (show h.get? a=some _ from x)
 | ext φ=>let(_,(_,e),_):=x;show HF e
theorem Paired.b6 :∀{Y:List Z} {X:List β},Paired F Y X->(∀a b,F a b->G a b)->Paired G Y X
 | _,_,.nil,_=>.nil
 | _,_,.cons r t,f=>.cons (f _ _ r) (Paired.b6 t f)
def dz.xU (x:dz P w H h a o)(k:∀b u,(b=a\/H b=some (.own a))->h.get? b=some u->h'.get? b=some u)
  (I:∀b,H b=some (.own a)->H' b=some (.own a)) (J:∀b xs,H b=some (.tup xs)->H' b=some (.tup xs)):dz P w H' h' a o:=by
 induction o with
 | lst xs=>let(z,R,n,r,e):=x;show(z,R,n,r,k _ _ (.inl rfl) e)
 | tup xs=>let(z,R,r,Z,e,c):=x;show(z,R,r,Z,k _ _ (.inl rfl) e,c)
 | dK D=>let(z,y,N,r,Z,Y,X,e,c):=x;show(z,y,N,r,Z,Y,X,k _ _ (.inl rfl) e,c)
 | dT D=>
  let(z,y,xs,r,Z,Y,X,e,c):=x;show(z,y,xs,Paired.b6 r λp q z=>(z.1,J _ _ z.2.1,z.2.2),Z,Y,X,k _ _ (.inl rfl) e,c)
 | set S n=>let(Z,Y,X,t,e,c):=x;show(Z,Y,X,t,k _ _ (.inl rfl) e,c)
 | ins C A G=>
  let(d,z,M,e,T,(U,Y,X,E,c),r):=x;show(I _ d,z,M,k _ _ (.inl rfl) e,T,(U,Y,X,k _ _ (.inr d) E,c),r)
 | own y=>let(Z,e):=x;show#[Z,k _ _ (.inl rfl) e]
 | xd G=>let(T,(U,Y,X,e,c),r):=x;show(T,(U,Y,X,k _ _ (.inl rfl) e,c),r)
 | rng lo B=>let(t,u,v,e):=x;show(t,u,v,k _ _ (.inl rfl) e)
 | eR Z u L=>let(e,q):=x;show#[k _ _ (.inl rfl) e,L q]
 | σ7 Q=>
  let e:h.get? a=some {cls:=.none,data:=.fields Q}:=x;change h'.get? a=some {cls:=.none,data:=.fields Q};show k a _ (.inl rfl) e
 | met f y=>
  let e:h.get? a=some (PySem.W.methodObj (.ref f) (.ref y)):=x;change h'.get? a=some (PySem.W.methodObj (.ref f) (.ref y));show k a _ (.inl rfl) e
 | ext φ=>let(p,(o,e),st):=x;show(st _ _ p λo q=>k _ _ (.inl rfl) q,#[o,k _ _ (.inl rfl) e],st)
theorem mE.lt (x:mE P w H h)(e:H a=some o):a<h.objs.size:=(x a o e).lt
def mE.fresh (x:mE P w H h)(e:h.objs.size<=a):H a=none:=by
 cases q:H a with
 | none=>rfl
 | some u=>show DQ (NU (x.lt q) e) (Q0 _)
def mE.kept (x:mE P w H h)(k:∀b u,h.get? b=some u->h'.get? b=some u):mE P w H h':=λa o e=>
 (x a o e).xU (λb u _ q=>k b u q) (λ_ q=>q) λ_ _ q=>q
def mE.laid (x:mE P w H h)(k:∀b u,h.get? b=some u->h'.get? b=some u)(U:h.objs.size<=a)(Z:dz P w (upd H a o) h' a o):mE P w (upd H a o) h':=λb u e=>by
 let Y:=x.fresh U;by_cases X:b=a
 ·subst X;erw [ak] at e;show Z
 ·rw [aj X] at e
  show(x b u e).xU (λc v _ q=>k c v q) (λc q=>by rwa [aj (ao q Y)]) λc xs q=>by rwa [aj (ao q Y)]
end
def Rd (H:Hp)(a:BK)(u:HO):Prop:=H a=some u\/∃o,H a=some (.eR o u)
def Rd.of (h:H a=some u):Rd H a u:=.inl h
def Rd.ok (r:Rd H a u)(x:mE P w H h):dz P w H h a u:=by
 rcases r with r|⟨o,r⟩
 ·show x a u r
 ·let(_,q):=x a _ r
  show q
def Mut:Option HO->Prop
 | some (.lst _)=>True
 | some (.dK _)=>True
 | some (.dT _)=>True
 | some (.set _ _)=>True
 | some (.ins _ _ _)=>True
 | some (.ext _)=>True
 | _=>False
section
variable {P:HY}{w:World}{H:Hp}{h h':Heap}{x e:BK}{o':HO}
def mE.write (M:mE P w H h)(R:Mut (H x))(Q:e=x\/H e=some (.own x))(k:∀b u,b≠e->h.get? b=some u->h'.get? b=some u)(T:∃u,h'.get? e=some u)
  (U:dz P w (upd H x o') h' x o'):mE P w (upd H x o') h':=λb u q=>by
 let Z:∀c y,H c=some (.own y)->c≠x:=λc y r z=>by subst z;rwa [r] at R
 let S:∀c xs,H c=some (.tup xs)->c≠x:=λc xs r z=>by subst z;rwa [r] at R
 by_cases X:b=x
 ·subst X;erw [ak] at q;show U
 ·rw [aj X] at q
  by_cases σ8:b=e
  ·let N:H b=some (.own x):=by
    rcases Q with z|z
    ·show DQ (σ8.trans z) X
    ·rwa [σ8]
   erw [q] at N;let(v,L):=T;show#[v,by rwa [σ8]]
  ·show(M b u q).xU (λc v Y r=>k c v ?_ r) (λc r=>by rwa [aj (Z c b r)]) λc xs r=>by rwa [aj (S c xs r)]
   rcases Y with rfl|Y
   ·show σ8
   ·rintro rfl
    rcases Q with z|z
    ·show Z c b Y z
    ·erw [Y] at z;show X rfl
end
structure Un (fs ex:ψ)(H H':Hp)(h h':Heap):Prop where
 keep:∀b o,h.get? b=some o->H b=none->b∉fs->b∉ex->h'.get? b=some o
 slot:∀b o,h.get? b=some o->H b=none->b∈fs->b∉ex->∃sl,h'.get? b=some {o with slots:=sl}
 free:∀b o,h.get? b=some o->H b=none->b∉ex->H' b=none
 there:∀b o,h.get? b=some o->b∉ex->∃o',h'.get? b=some o'
 xV:∀b xs,H b=some (.tup xs)->H' b=some (.tup xs)
 vQ:∀b o u,H b=some (.eR o u)->H' b=some (.eR o u)
 xW:∀b ps,H b=some (.σ7 ps)->∃more,H' b=some (.σ7 (ps++more))
section
variable {fs fs' ex GG :ψ}{H H1 H2:Hp}{h h1 h2 h':Heap}{a x e:BK}{o:HO}
def Un.any (u:Un fs ex H H1 h h1)(q:h.get? b=some ob)(n:H b=none)(Z:b∉ex):∃X,h1.get? b=some {ob with slots:=X}:=by
 by_cases Y:b∈fs
 ·show u.slot b ob q n Y Z
 ·show#[ob.slots,u.keep b ob q n Y Z]
def Un.kept (k:∀b u,h.get? b=some u->h'.get? b=some u):Un fs ex H H h h':=
 (λb Z q _ _ _=>k b Z q,λb Z q _ _ _=>#[Z.slots,k b Z q],λ_ _ _ n _=>n,λb Z q _=>#[Z,k b Z q],λ_ _ q=>q,λ_ _ _ q=>q,λ_ Y q=>#[#[],by rw [q];simp])
def Un.refl:Un fs ex H H h h:=Un.kept λ_ _ q=>q
def Un.laid (k:∀b u,h.get? b=some u->h'.get? b=some u)(Y:h.objs.size<=a)(Z:H a=none):Un fs ex H (upd H a o) h h' where
 keep:=λb u q _ _ _=>k b u q
 slot:=λb u q _ _ _=>#[u.slots,k b u q]
 free:=λb u q n _=>by rwa [aj (N8 (NU (HF q) Y))]
 there:=λb u q _=>#[u,k b u q]
 xV:=λb xs q=>by rwa [aj (ao q Z)]
 vQ:=λb u xs q=>by rwa [aj (ao q Z)]
 xW:=λb X q=>#[#[],by rw [aj (ao q Z),q];simp]
def Un.write (Z:Mut (H x))(R:e=x\/H e=some (.own x))(k:∀b u,b≠e->h.get? b=some u->h'.get? b=some u)(X:∃u,h'.get? e=some u):Un fs ex H (upd H x o) h h':=by
 let U:∀b,H b=none->b≠x:=λb n z=>by subst z;rwa [n] at Z
 let T:∀b,H b=none->b≠e:=λb n z=>by
  subst z
  rcases R with r|r
  ·show U b n r
  ·erw [n] at r
 let Y:∀b u,H b=some u->¬ Mut (some u)->b≠x:=λb u q S z=>by subst z;rw [q] at Z;show S Z
 show(λb u q n _ _=>k b u (T b n) q,λb u q n _ _=>#[u.slots,k b u (T b n) q],λb u q n _=>by rwa [aj (U b n)],λb u q _=>?_,
  λb xs q=>by rwa [aj (Y b _ q λz=>z)],λb u xs q=>by rwa [aj (Y b _ q λz=>z)],λb Q q=>#[#[],by rw [aj (Y b _ q λz=>z),q];simp])
 by_cases σ8:b=e
 ·subst σ8;show X
 ·show#[u,k b u σ8 q]
end
def trk (h:Heap)(H:Hp):List BK:=(JJ h.objs.size).filter λa=>(H a).isSome
def xX (h:Heap)(H:Hp):Heap:=PySem.W.hideAll h (trk h H)
def agv (h:Heap)(H:Hp):(xX h H).objs.size=h.objs.size:=PySem.W.hideAll_size _ _
def agi (e:h.get? b=some o)(n:H b=none):(xX h H).get? b=some o:=
 PySem.W.hideAll_get _ e λZ=>by
  let q:(H b).isSome=true:=(σ'.mp Z).2;rw [n] at q;simp at q
def agD (e:(xX h H).get? b=some o):h.get? b=some o/\H b=none:=by
 let Z:h.get? b=some o:=PySem.W.of_hideAll (trk h H) e;show#[Z,?_];cases q:H b with
 | none=>rfl
 | some x=>
  let Y:b∈trk h H:=σ'.mpr #[QX.mpr (HF Z),by simp [q]];let z:(xX h H).get? b=none:=PySem.W.hideAll_none (trk h H) Y;erw [z] at e
def aem (g h:Heap)(L:BK):List (BK×Obj):=(JJ h.objs.size).filterMap λa=>if a=L\/(g.get? a).isSome=true then none else (h.get? a).map λo=>(a,o)
def rest (g h:Heap)(L d:BK):List (BK×Obj):=(aem g h L).filter λp=>decide (p.1≠d)
structure Mod (K:Frag)(mg:ν)(lM:Heap):Prop where
 kin:K.In lM
 glob:lM.Ns HL mg
 blt:∃mb,lM.Ns α6 mb/\∀x:Str,x≠ "__name__"->mb x=NW x
 nolimit:lM.NoLimit
 seer:lM.NoSeer
structure Cx where
 prog:HY
 w:World
 K:Frag
 mg:Str->Option Value
 lM:Heap
 A:JI
 N:List Str
 pV:DI
 H₀:Hp
 env:Env
 mO:List Env
 stack:List Env
 ex:List BK
 fn:Str->Bool
 calm:Bool
 pn:List (BK×Obj)
 xe:Value->DI->Prop
def KU (l:List Env):List BK:=l.filterMap (·.frame)
abbrev Cx.fs (X:Cx):List BK:=KU X.mO
def Vis (Z:Scope)(x:Str):Prop:=Z.names.lookup x=some .local\/Z.names.lookup x=some .cell\/Z.names.lookup x=some .free
def Loc (Z:Scope)(x:Str):Prop:=Z.names.lookup x=some .local\/Z.names.lookup x=some .cell
def Look (Z:Env)(h:Heap)(m:ν)(x:Str)(u:Value):Prop:=
 (Z.kindOf x=some .local/\m x=some u)\/((Z.kindOf x=some .cell\/Z.kindOf x=some .free)/\∃c,Z.cells.lookup x=some c/\h.IsCell c (some u))
structure Cx.Ok (X:Cx):Prop where
 mod:Mod X.K X.mg X.lM
 kind:X.env.scope.kind=.function
 glob:X.env.globals=HL
 blt:X.env.builtins=α6
 above:X.pV.heap.objs.size<=X.env.locals
 inj:∀x y c,X.env.cells.lookup x=some c->X.env.cells.lookup y=some c->x=y
 has:∀x,(X.env.kindOf x=some .cell\/X.env.kindOf x=some .free)->∃c,X.env.cells.lookup x=some c
 cab:∀x c,X.fn x=true->X.env.cells.lookup x=some c->X.pV.heap.objs.size<=c
 hd:X.calm=true->X.A.handled=none
 frames:X.A.frames=some X.stack
 stk:X.stack=X.mO\/(X.stack=X.env::X.mO/\X.env.frame=some X.env.locals)
 exf:∀b∈X.ex,b≠X.env.locals/\∀x c,X.env.cells.lookup x=some c->c≠b
 bs:∀b o,X.lM.get? b=some o->X.pV.heap.get? b=some o/\X.H₀ b=none
 UY:X.lM.objs.size<=X.pV.heap.objs.size
 Qp:∀b o,X.lM.get? b=some o->b∉X.ex
 UZ:∀b∈X.ex,b∉X.fs
 rW:X.pV.heap.FunFrames X.lM X.mO
 σ9:∀b∈X.fs,X.H₀ b=none
structure Inv (X:Cx)(pX:ζ)(Y:List (Option V))(H:Hp)(s:DI):Prop where
 ok:X.Ok
 os:s.os=X.pV.os
 bare:SR s.gens
 lM:Un X.fs X.ex X.H₀ H X.pV.heap s.heap
 loc:∃m,s.heap.Ns X.env.locals m/\∀(i:Nat)(x:Str)(v:V),X.N[i]?=some x->Y[i]?=some (some v)->Vis X.env.scope x->∃u,RelV v u/\Look X.env s.heap m x u
 cell:∀x c,X.env.cells.lookup x=some c->∃v,s.heap.IsCell c v
 free:H X.env.locals=none
 jg:∀x c,X.env.cells.lookup x=some c->H c=none
 pin:∀p∈X.pn++pX,s.heap.get? p.1=some p.2/\H p.1=none/\p.1≠X.env.locals/\p.1∉X.fs/\∀v,p.2.data≠.cell v
 bO:mE X.prog X.w H s.heap
 len:Y.length=X.N.length
section
variable {X:Cx}{pX:ζ}{Y:List (Option V)}{H H':Hp}{s:DI}{h':Heap}
def Cx.Ok.akn (Z:X.Ok)(e:X.lM.get? b=some o):b∉X.fs:=λU=>by
 have:=(Z.rW.mem U).1;erw [e] at this
theorem Inv.bs (I:Inv X pX Y H s):∀b o,X.lM.get? b=some o->s.heap.get? b=some o/\H b=none:=λb o e=>
 #[I.lM.keep b o (I.ok.bs b o e).1 (I.ok.bs b o e).2 (I.ok.akn e) (I.ok.Qp b o e),I.lM.free b o (I.ok.bs b o e).1 (I.ok.bs b o e).2 (I.ok.Qp b o e)]
def Inv.bk (I:Inv X pX Y H s):∀b o,X.lM.get? b=some o->s.heap.get? b=some o:=λb o e=>(I.bs b o e).1
theorem Inv.mod (I:Inv X pX Y H s):Mod X.K X.mg X.lM:=I.ok.mod
def Inv.mR (I:Inv X pX Y H s):X.K.In s.heap:=I.ok.mod.kin.keeps I.bk
theorem Inv.nolimit (I:Inv X pX Y H s):s.heap.NoLimit:=I.ok.mod.nolimit.keeps I.bk
theorem Inv.lt (I:Inv X pX Y H s):X.env.locals<s.heap.objs.size:=let ⟨_,Z,_⟩:=I.loc;Z.lt
def Inv.sz (I:Inv X pX Y H s):X.pV.heap.objs.size<=s.heap.objs.size:=EE I.ok.above (QM I.lt)
def Inv.ako (I:Inv X pX Y H s){a:BK}(h:s.heap.objs.size<=a):a∉X.fs:=λU=>by
 let(_,o,Z,_):=I.ok.rW.mem U;show DQ (NU (HF Z) (EE I.sz h)) (Q0 _)
def Inv.U0 (I:Inv X pX Y H s):∀x c,X.env.cells.lookup x=some c->c≠X.env.locals:=λx c e z=>by
 let(v,o,Z,U):=I.cell x c e;let(m,(R,Q,P,T,S,_),_):=I.loc;erw [z,T] at Z;erw [S] at U
theorem Inv.rW (I:Inv X pX Y H s):s.heap.FunFrames X.lM X.mO:=by
 let all:∀(l:List Env),(∀b∈KU l,b∈X.fs)->X.pV.heap.FunFrames X.lM l->s.heap.FunFrames X.lM l:=by
  intro l
  induction l with
  | nil=>intro _ _;trivial
  | cons E r R=>
   intro S M;let(J,(L,o,Z,N,P,G),Q):=M;let T:L∈X.fs:=S L (by unfold KU;rw [Zu,Z];show IU);let(D,e):=I.lM.slot L o P (I.ok.σ9 L T) T λz=>I.ok.UZ L z T;show(J,(L,_,Z,N,e,G),R (λb U=>S b (by unfold KU;rw [Zu,Z];show IH _ U)) Q)
 show all X.mO (λ_ U=>U) I.ok.rW
theorem Inv.stack (I:Inv X pX Y H s):s.heap.FunFrames X.lM X.stack:=by
 rcases I.ok.stk with e|⟨e,U⟩
 ·rw [e];show I.rW
 ·rw [e]
  let(m,Z,_):=I.loc;show .cons (by rw [I.ok.kind];decide) U Z ?_ I.rW;show Heap.get?_none_of_le (EE I.ok.UY I.ok.above)
def Inv.GQ (I:Inv X pX Y H s):∀b∈KU X.stack,b∈X.env.locals::X.fs:=λb Z=>by
 rcases I.ok.stk with e|⟨e,U⟩
 ·rw [e] at Z;show IH _ Z
 ·rw [e] at Z
  unfold KU at Z;rwa [Zu,U] at Z
def Inv.KW (I:Inv X pX Y H s):∀b∈KU X.stack,H b=none:=λb Z=>by
 rcases JP.mp (I.GQ b Z) with e|Z
 ·rw [e];show I.free
 ·let(_,o,U,_):=I.ok.rW.mem Z
  show I.lM.free b o U (I.ok.σ9 b Z) λz=>I.ok.UZ b z Z
def Inv.step {ch:ψ}(I:Inv X pX Y H s)
  (B:∀b∈ch,(b∈X.ex\/X.pV.heap.objs.size<=b)/\b≠X.env.locals/\(∀x c,X.env.cells.lookup x=some c->c≠b)/\∀p∈X.pn++pX,p.1≠b)
  (S:∀b o,b≠X.env.locals->b∉X.fs->b∉ch->s.heap.get? b=some o->H b=none->h'.get? b=some o)
  (N:∀b o,b≠X.env.locals->b∈X.fs->b∉ch->s.heap.get? b=some o->H b=none->∃j,h'.get? b=some {o with slots:=j}) (U:∀b o,b∉ch->s.heap.get? b=some o->H b=none->H' b=none)
  (M:∀b o,b∉ch->s.heap.get? b=some o->∃G,h'.get? b=some G)
  (xV:∀b xs,H b=some (.tup xs)->H' b=some (.tup xs)) (vQ:∀b o u,H b=some (.eR o u)->H' b=some (.eR o u)) (xW:∀b A,H b=some (.σ7 A)->∃D,H' b=some (.σ7 (A++D)))
  (ns:∀m,s.heap.Ns X.env.locals m->h'.Ns X.env.locals m) (bO:mE X.prog X.w H' h') (hg:SR g'):
  Inv X pX Y H' {s with heap:=h',gens:=g',drawn:=d',toks:=t'}:=by
 let E:∀b o,X.pV.heap.get? b=some o->b≠X.env.locals:=λb o e=>N8 (NU (HF e) I.ok.above)
 let Q:∀b o,X.pV.heap.get? b=some o->b∉X.ex->b∉ch:=λb o e Z L=>by
  rcases (B b L).1 with z|z
  ·show Z z
  ·show DQ (NU (HF e) z) (Q0 _)
 let R:∀x c,X.env.cells.lookup x=some c->∀v,s.heap.IsCell c v->h'.IsCell c v:=λx c e v ⟨o,J,g⟩=>by
  let T:c∉ch:=λz=>(B c z).2.2.1 x c e rfl;by_cases hc:c∈X.fs
  ·let(j,q):=N c o (I.U0 x c e) hc T J (I.jg x c e)
   show(_,q,g)
  ·show(o,S c o (I.U0 x c e) hc T J (I.jg x c e),g)
 show(I.ok,I.os,hg,(λb o e n L Z=>?_,λb o e n L Z=>?_,λb o e n Z=>?_,λb o e Z=>?_,λb xs e=>xV b xs (I.lM.xV b xs e),λb o xs e=>vQ b o xs (I.lM.vQ b o xs e),λb A e=>?_),?_,λx c e=>?_,?_,λx c e=>?_,λp hp=>?_,bO,I.len)
 ·show S b o (E b o e) L (Q b o e Z) (I.lM.keep b o e n L Z) (I.lM.free b o e n Z)
 ·let(j,P):=I.lM.slot b o e n L Z
  let(y,C):=N b _ (E b o e) L (Q b o e Z) P (I.lM.free b o e n Z);show#[y,C]
 ·let(G,P):=I.lM.there b o e Z
  show U b G (Q b o e Z) P (I.lM.free b o e n Z)
 ·let(G,P):=I.lM.there b o e Z
  show M b G (Q b o e Z) P
 ·let(m1,P):=I.lM.xW b A e
  let(m2,C):=xW b _ P;show#[m1++m2,by rw [C,Array.append_assoc]]
 ·let(m,hn,hl):=I.loc
  show(m,ns m hn,λi x v P C e3=>?_);let(u,r,l):=hl i x v P C e3;show(u,r,?_)
  rcases l with l|⟨k,c,e,z⟩
  ·show .inl l
  ·show .inr (k,c,e,R x c e _ z)
 ·let(v,z):=I.cell x c e
  show#[v,R x c e v z]
 ·let(m,(o,_,_,J,_),_):=I.loc
  show U _ o (λz=>(B _ z).2.1 rfl) J I.free
 ·let(v,o,J,g):=I.cell x c e
  show U c o (λz=>(B c z).2.2.1 x c e rfl) J (I.jg x c e)
 ·let(e,n,a,f,d):=I.pin p hp
  let T:p.1∉ch:=λz=>(B p.1 z).2.2.2 p hp rfl;show(S p.1 p.2 a f T e n,U p.1 p.2 T e n,a,f,d)
def Inv.un (I:Inv X pX Y H s)(u:Un X.fs [] H H' s.heap h')(P:mE X.prog X.w H' h'):Inv X pX Y H' {s with heap:=h',toks:=t'}:=by
 let(m,(o,E,D,T,r),_):=id I.loc;let(L,Q):=u.any T I.free fD
 show I.step (g':=s.gens) (d':=s.drawn) (ch:=[]) (λ_ z=>nomatch z) (λb o _ Z _ e n=>u.keep b o e n Z fD) (λb o _ Z _ e n=>u.slot b o e n Z fD) (λb o _ e n=>u.free b o e n fD) (λb o _ e=>u.there b o e fD) u.xV u.vQ u.xW (λG R=>by
  let(J,U,M,N,S):=R;erw [T] at N
  show(_,U,M,Q,S)) P I.bare
def Inv.call (I:Inv X pX Y H s)(u:Un (KU X.stack) ch H H' s.heap h')(L:mE X.prog X.w H' h')(N:SR g')
  (R:∀b∈ch,(b∈X.ex\/X.pV.heap.objs.size<=b)/\b≠X.env.locals/\(∀x c,X.env.cells.lookup x=some c->c≠b)/\∀p∈X.pn++pX,p.1≠b):
  Inv X pX Y H' {s with heap:=h',gens:=g',drawn:=d',toks:=t'}:=by
 let(m,(o,B,A,S,r),_):=id I.loc;let(E,U):=u.any S I.free λz=>(R _ z).2.1 rfl
 show I.step (ch:=ch) R (λb o U M Z e n=>u.keep b o e n (λz=>(JP.mp (I.GQ b z)).elim U M) Z) (λb o _ _ Z e n=>u.any e n Z) (λb o Z e n=>u.free b o e n Z) (λb o Z e=>u.there b o e Z) u.xV u.vQ u.xW (λC P=>by
  let(D,T,G,J,Q):=P;erw [S] at J
  show(_,T,G,U,Q)) L N
def Inv.turned (I:Inv X pX Y H s)(k:∀b o,b≠it->s.heap.get? b=some o->h'.get? b=some o)(R:H it=none)(U:it≠X.env.locals)
  (L:it∈X.ex\/X.pV.heap.objs.size<=it) (M:∀x c,X.env.cells.lookup x=some c->c≠it) (N:∀p∈X.pn++pX,p.1≠it):Inv X pX Y H {s with heap:=h',toks:=t'}:=by
 let T:∀b u,H b=some u->b≠it:=λb u e z=>by erw [z,R] at e
 show I.step (g':=s.gens) (d':=s.drawn) (ch:=[it]) (λb P=>?_) (λb o _ _ Z e _=>k b o (λz=>Z (by simp [z])) e) (λb o _ _ Z e _=>#[o.slots,k b o (λz=>Z (by simp [z])) e]) (λ_ _ _ _ n=>n)
  (λb o Z e=>#[o,k b o (λz=>Z (by simp [z])) e]) (λ_ _ e=>e) (λ_ _ _ e=>e) (λb E e=>#[#[],by rw [e];simp]) (λm Q=>?_) (λb u e=>?_) I.bare
 ·let e:b=it:=by simpa using P
  subst e;show(L,U,M,N)
 ·let(o,J,G,S,r):=Q
  show(o,J,G,k _ o (G' U) S,r)
 ·show(I.bO b u e).xU (λc v Z q=>k c v ?_ q) (λ_ q=>q) λ_ _ q=>q
  rcases Z with z|z
  ·rw [z];show T b u e
  ·show T c _ z
def Inv.tok (I:Inv X pX Y H s)(t:Nat):Inv X pX Y H {s with toks:=t}:=I.un (h':=s.heap) (t':=t) Un.refl I.bO
theorem Inv.kept (I:Inv X pX Y H s)(k:∀b u,s.heap.get? b=some u->h'.get? b=some u):Inv X pX Y H {s with heap:=h',toks:=t'}:=I.un (Un.kept k) (I.bO.kept k)
theorem Inv.laid {a:BK}(I:Inv X pX Y H s)(k:∀b u,s.heap.get? b=some u->h'.get? b=some u)(U:s.heap.objs.size<=a)(Z:dz X.prog X.w (upd H a o) h' a o):
  Inv X pX Y (upd H a o) {s with heap:=h',toks:=t'}:=I.un (Un.laid k U (I.bO.fresh U)) (I.bO.laid k U Z)
theorem Inv.write (I:Inv X pX Y H s)(T:Mut (H x))(S:e=x\/H e=some (.own x))(k:∀b u,b≠e->s.heap.get? b=some u->h'.get? b=some u)(Z:∃u,h'.get? e=some u)
  (U:dz X.prog X.w (upd H x o) h' x o):Inv X pX Y (upd H x o) {s with heap:=h',toks:=t'}:=I.un (Un.write T S k Z) (I.bO.write T S k Z U)
def Inv.KY (I:Inv X pX Y H s)(h:∀p∈U,s.heap.get? p.1=some p.2/\H p.1=none/\p.1≠X.env.locals/\p.1∉X.fs/\∀v,p.2.data≠.cell v):Inv X U Y H s:=
 (I.ok,I.os,I.bare,I.lM,I.loc,I.cell,I.free,I.jg,λp Z=>(HZ.mp Z).elim (λz=>I.pin p (Ny _ z)) (h p),I.bO,I.len)
def eV {N:ς}(Z:N.Nodup){i j:Nat}(a:N[i]?=some x)(b:N[j]?=some x):i=j:=by
 let(R,T):=ir.mp a;let(S,U):=ir.mp b;show(ak_ Z).mp (T.trans U.symm)
def w8 {E:δ}(I:Inv X pX Y H s)(hN:X.N.Nodup)(g:X.N[i]?=some x)(R:Loc X.env.scope x)(r:RelV v u)
  (h:∀s',Inv X pX (Y.set i (some v)) H s' ->(∃a,R_ a s.heap s'.heap/\(a=X.env.locals\/X.env.cells.lookup x=some a))->Q () s') (hf:X.fn x=true\/X.env.scope.names.lookup x=some .local:=by first|show .inl rfl|show .inr rfl|assumption):CB M A (storeName X.env x u) Q E s:=by
 let(m,hn,hl):=id I.loc;let akq:(X.env.scope.kind==.class || (X.env.scope.kind==.module && X.env.locals !=X.env.globals))=false:=by rw [I.ok.kind];rfl
 let B:i < Y.length:=by rw [I.len];show(ir.mp g).1
 let U0:=I.U0
 let U:∀{a:BK} {h':Heap},(∃o,s.heap.get? a=some o/\H a=none)->R_ a s.heap h' ->mE X.prog X.w H h':=λ{a h'} ha Z b ob e=>by
  let(_,_,XH):=ha;show(I.bO b ob e).xU (λc w' S q=>(Z.2 c ?_).trans q) (λ_ q=>q) λ_ _ q=>q;rintro rfl
  rcases S with rfl|S
  ·erw [XH] at e
  ·erw [XH] at S
 rcases R with P|P
 ·show wpAny_storeName_local P hn (λh' hn' Z=>?_) akq
  let(oL,_,_,hoL,_):=id hn;show h _ (I.ok,I.os,I.bare,(λb o e n G R=>?_,λb o e n G R=>?_,I.lM.free,λb o e R=>?_,I.lM.xV,I.lM.vQ,I.lM.xW),(_,hn',λj y v' T D e3=>?_),λy c e=>?_,I.free,I.jg,λp hp=>?_,U (oL,hoL,I.free) Z,by simpa using I.len) (_,Z,.inl rfl)
  ·show(Z.2 b (N8 (NU (HF e) I.ok.above))).trans (I.lM.keep b o e n G R)
  ·let(sl,T):=I.lM.slot b o e n G R
   show#[sl,(Z.2 b (N8 (NU (HF e) I.ok.above))).trans T]
  ·let(o',T):=I.lM.there b o e R
   show#[o',(Z.2 b (N8 (NU (HF e) I.ok.above))).trans T]
  ·by_cases L:j=i
   ·subst L
    erw [g] at T;erw [ag_ B] at D;show(u,r,.inl #[P,by simp])
   ·rw [QK (G' L)] at D
    let(u',r',q):=hl j y v' T D e3;show(u',r',?_)
    rcases q with ⟨k,e⟩|⟨k,c,e,z⟩
    ·show .inl #[k,?_]
     have:y≠x:=λe=>L (eV hN T (e▸g));simp [this,e]
    ·show .inr (k,c,e,z.sameBut Z (U0 y c e))
  ·let(w',z):=I.cell y c e
   show#[w',z.sameBut Z (U0 y c e)]
  ·let(e,n,ne,nf,d):=I.pin p hp
   show((Z.2 p.1 ne).trans e,n,ne,nf,d)
 ·let J:X.fn x=true:=by
   rcases hf with z|z
   ·show z
   ·erw [z] at P
  let(c,S):=I.ok.has x (.inl P);let(w',z):=I.cell x c S;show wpAny_storeName_cell I.ok.kind P S z (λh' qd Z=>?_);let(oc,C,aks):=id z;show h {s with heap:=h'} (I.ok,I.os,I.bare,(λb o e n G R=>?_,λb o e n G R=>?_,I.lM.free,λb o e R=>?_,I.lM.xV,I.lM.vQ,I.lM.xW),(m,hn.sameBut Z (G' (U0 x c S)),λj y v' T D e3=>?_),λy c' e=>?_,I.free,I.jg,λp hp=>?_,U (oc,C,I.jg x c S) Z,by simpa using I.len) (c,Z,.inr S)
  ·show(Z.2 b (N8 (NU (HF e) (I.ok.cab x c J S)))).trans (I.lM.keep b o e n G R)
  ·let(sl,T):=I.lM.slot b o e n G R
   show#[sl,(Z.2 b (N8 (NU (HF e) (I.ok.cab x c J S)))).trans T]
  ·let(o',T):=I.lM.there b o e R
   show#[o',(Z.2 b (N8 (NU (HF e) (I.ok.cab x c J S)))).trans T]
  ·by_cases L:j=i
   ·subst L
    erw [g] at T;erw [ag_ B] at D;show(u,r,.inr (.inl P,c,S,qd))
   ·rw [QK (G' L)] at D
    let(u',r',q):=hl j y v' T D e3;show(u',r',?_)
    rcases q with q|⟨k,c',e,z'⟩
    ·show .inl q
    ·show .inr (k,c',e,z'.sameBut Z ?_)
     rintro rfl;show L (eV hN T (I.ok.inj _ _ _ e S▸g))
  ·by_cases f:c'=c
   ·subst f;show#[_,qd]
   ·let(w2,z2):=I.cell y c' e
    show#[w2,z2.sameBut Z f]
  ·let(e,n,ne,nf,d):=I.pin p hp
   show((Z.2 p.1 ?_).trans e,n,ne,nf,d);intro q;rw [q,C] at e;let q':oc=p.2:=JB e;show d w' (by rwa [<-q'])
def nV {E:δ}(I:Inv X pX Y H s)(R:X.N.Nodup)(T:X.N[i]?=some x)(U:Loc X.env.scope x)(r:RelV v u)
  (h:∀Z,Inv X pX (Y.set i (some v)) H Z ->Q () Z) (S:X.fn x=true\/X.env.scope.names.lookup x=some .local:=by first|show .inl rfl|show .inr rfl|assumption):CB M A (storeName X.env x u) Q E s:=
 w8 I R T U r (λZ P _=>h Z P) S
def Inv.acy (I:Inv X pX Y H s)(U:s'.os=s.os)(u:Un (KU X.stack) ch H H' s.heap s'.heap)(S:mE X.prog X.w H' s'.heap)(T:SR s'.gens)
  (R:∀b∈ch,(b∈X.ex\/X.pV.heap.objs.size<=b)/\b≠X.env.locals/\(∀x c,X.env.cells.lookup x=some c->c≠b)/\∀p∈X.pn++pX,p.1≠b):Inv X pX Y H' s':=by
 let(h',g',d',t',Z):=s';let e:Z=s.os:=U;subst e;show I.call (g':=g') (t':=t') (d':=d') u S T R
end
abbrev XK:=Value->Option BK->Hp->Prop
abbrev St:=List (Option V)
abbrev VK:=V->Hp->Prop
abbrev TE:=St->Hp->VK->Prop
abbrev TT:=St->Hp->(Bool->Hp->Prop)->Prop
abbrev TA:=St->Hp->(List V->Hp->Prop)->Prop
structure Ends where
 nx:St->Hp->Prop
 rt:VK
 bk:St->Hp->Prop:=λ_ _=>False
 ct:St->Hp->Prop:=λ_ _=>False
abbrev TS:=Ends->St->Hp->Prop
def EP (X:Cx)(pX:ζ)(Y:St)(Q:VK)(u:Value)(U:DI):Prop:=∃v Z,Inv X pX Y Z U/\RelV v u/\Q v Z
def TP (X:Cx)(pX:ζ)(Y:St)(Q:Bool->Hp->Prop)(b:Bool)(U:DI):Prop:=∃Z,Inv X pX Y Z U/\Q b Z
def kvs (X:Cx)(pX:ζ)(Y:St)(Q:List V->Hp->Prop)(us:ο)(T:DI):Prop:=∃Z U,Inv X pX Y U T/\Vals Z us/\Q Z U
def SP (X:Cx)(pX:ζ)(D:Ends)(f:Flow)(U:DI):Prop:=
 match f with
 | .next=>∃Y Z,Inv X pX Y Z U/\D.nx Y Z
 | .brk=>∃Y Z,Inv X pX Y Z U/\D.bk Y Z
 | .cont=>∃Y Z,Inv X pX Y Z U/\D.ct Y Z
 | .ret u=>∃v Y Z,Inv X pX Y Z U/\RelV v u/\D.rt v Z
def PE (X:Cx)(e:Expr)(t:TE):Prop:=
 ∀(Z:ζ)(s:DI)(Y:St)(H:Hp)(Q:VK),Inv X Z Y H s->t Y H Q->CB (CL X.prog X.w) X.A (EI e X.env) (EP X Z Y Q) X.xe s
def PT (X:Cx)(e:Expr)(t:TT):Prop:=
 ∀(Z:ζ)(s:DI)(Y:St)(H:Hp)(Q:Bool->Hp->Prop),Inv X Z Y H s->t Y H Q->CB (CL X.prog X.w) X.A (isTrue e X.env (EI e X.env)) (TP X Z Y Q) X.xe s
def PW (X:Cx)(e:Expr)(t:TT):Prop:=
 ∀(Z:Sem Value)(U:ζ)(s:DI)(Y:St)(H:Hp)(Q:Bool->Hp->Prop),Inv X U Y H s->t Y H Q->CB (CL X.prog X.w) X.A (isTrue e X.env Z) (TP X U Y Q) X.xe s
def PW.pt (h:PW X e t):PT X e t:=h _
def PA (X:Cx)(T:Ε)(t:TA):Prop:=
 ∀(Z:Pos)(U:ζ)(s:DI)(Y:St)(H:Hp)(Q:List V->Hp->Prop),Inv X U Y H s->t Y H Q->CB (CL X.prog X.w) X.A (spliced (NK Z (HE T X.env))) (kvs X U Y Q) X.xe s
def PS (X:Cx)(st:Stmt)(t:TS):Prop:=
 ∀(Z:ζ)(s:DI)(Y:St)(H:Hp)(D:Ends),Inv X Z Y H s->t D Y H->CB (CL X.prog X.w) X.A (exec st X.env) (SP X Z D) X.xe s
def rV (X:Cx)(st:List Stmt)(t:TS):Prop:=
 ∀(Z:ζ)(s:DI)(Y:St)(H:Hp)(D:Ends),Inv X Z Y H s->t D Y H->CB (CL X.prog X.w) X.A (execs st X.env) (SP X Z D) X.xe s
def cK {Q Y:Z->DI->Prop}{E:δ}(h:CB M A t Q E s)(X:∀a s,Q a s->Y a s):CB M A t Y E s:=NZ h X λ_ _ x=>x
section
variable {X:Cx}
inductive U2 (i:Nat)(Y:St)(H:Hp)(Q:VK):Prop
|mk (v:_)(_:Y[i]?=some (some v))(_:Q v H)
def tC (v:V):TE:=λ_ H Q=>Q v H
def zaP {S:Pos}(C:X.N[i]?=some x)(J:Vis X.env.scope x)(R:(x==("__debug__":Str))=false:=by decide)(M:(x==("__classdict__":Str))=false:=by decide):PE X (.Name x S) (U2 i):=by
 intro L s Y H Q I h;let(v,e,h):=h;let(m,G,D):=I.loc;let(u,r,l):=D i x v C e J;let T:EP X L Y Q u s:=(v,H,I,r,h)
 rcases l with ⟨U,E⟩|⟨U,c,P,Z⟩
 ·show wpAny_Name (wpAny_loadName_local I.ok.kind U G E T) R
 ·rcases U with U|U
  ·show wpAny_Name (wpAny_loadName_cell I.ok.kind U P Z T) R
  ·show wpAny_Name (wpAny_loadName_free I.ok.kind U P Z T M) R
def ag :PE X (.Constant (.int i) j pos) (tC (.int i)):=λ_ _ _ H _ I h=>wpAny_Constant_int (.int i,H,I.tok _,#[_,O],h)
def cZ :PE X (.Constant (.bool b) j pos) (tC (.bl b)):=λ_ _ _ H _ I h=>Constant_bool (.bl b,H,I,O,h)
def tF :PE X (.Constant .none j pos) (tC .cW):=λ_ _ _ H _ I h=>Constant_none (.cW,H,I,O,h)
def dB :PE X (.Constant (.str x) j pos) (tC (.str x)):=λ_ _ _ H _ I h=>Calls.Constant_str (.str x,H,I.tok _,#[_,O],h)
def Gl (X:Cx)(x:Str):Prop:=X.env.kindOf x=some .globalImplicit
def nX {E:δ}{Y:St}{Q:δ}(I:Inv X pX Y H s)(U:Gl X x)(Z:X.mg x=some u)(h:Q u s)
  (T:(x==("__debug__":Str))=false:=by decide):CB (CL X.prog X.w) X.A (EI (.Name x pos) X.env) Q E s:=
 Calls.Name_function_global I.ok.kind U (Calls.loadGlobal_global (by rw [I.ok.glob];show I.mod.glob.keeps I.bk) Z h) T
def jG {E:δ}{Y:St}{Z:Pos}{Q:δ}(I:Inv X pX Y H s)(R:Gl X x)(S:X.mg x=none)(U:NW x=some u)(h:Q u s)
  (T:x≠ "__name__":=by decide) (P:(x==("__debug__":Str))=false:=by decide):CB (CL X.prog X.w) X.A (EI (.Name x Z) X.env) Q E s:=by
 let(L,M,N):=I.mod.blt;show Calls.Name_function_global I.ok.kind R (Calls.loadGlobal_builtin (by rw [I.ok.glob];show I.mod.glob.keeps I.bk) S (by rw [I.ok.blt];show M.keeps I.bk) ((N x T).trans U) h) P
def f7 (Y:Gl X x)(Z:X.mg x=some u)(r:RelV v u)(U:(x==("__debug__":Str))=false:=by decide):PE X (.Name x pos) (tC v):=
 λ_ _ _ H _ I h=>nX I Y Z (v,H,I,r,h) U
def agE {Z:Pos}(S:Gl X x)(T:X.mg x=none)(Y:NW x=some u)(r:RelV v u)(U:x≠ "__name__":=by decide)(R:(x==("__debug__":Str))=false:=by decide):PE X (.Name x Z) (tC v):=
 λ_ _ _ H _ I h=>jG I S T Y (v,H,I,r,h) U R
variable {a b:Expr}{ta tb:TE}{pos:Pos}
def PC (X:Cx)(S:CmpOp)(a b:Expr)(t:TE):Prop:=
 ∀(Z:ζ)(s:DI)(Y:St)(H:Hp)(Q:VK),Inv X Z Y H s->t Y H Q->
  CB (CL X.prog X.w) X.A (EI a X.env) (λv T=>CB (CL X.prog X.w) X.A (EI b X.env) (λu U=>CB (CL X.prog X.w) X.A (NR S v u) (EP X Z Y Q) X.xe U) X.xe T) X.xe s
inductive tB_ (Q:(Bool->Hp->Prop))(x:V)(Z:Hp):Prop
|mk (c:_)(_:x=.bl c)(_:Q c Z)
def tB (t:TE):TT:=λY H Q=>t Y H λx Z=>tB_ Q x Z
def tG (h:PC X op a b t)(Z:α7 op b=false:=by first|show nobehind _ cr cr|rfl):PT X (.Compare a [op] [b] pos) (tB t):=by
 intro S s Y H Q I R;show wpAny_isTrue_Compare1 (cK (h S s Y H _ I R) λv G Z=>cK Z λu J P=>cK P λc L ⟨x,M,N,U,T⟩=>?_) Z;let(d,rfl,q):=T;cases U;show UW (M,N,q)
def bZ (h:PE X e t)(P:∀Z,isTrue e X.env Z=(do let v <- Z;standAt e.pos;V8 [v] (truthy v)):=by intro _;rfl):PT X e (tB t):=by
 intro S s Y H Q I R;show isTrue_plain (cK (h S s Y H _ I R) λv L ⟨x,M,N,U,T⟩=>?_) (P _);let(d,rfl,q):=T;cases U;show UW (M,N,q)
variable {tA tB':TT}{rest:Ε}
def akt (t u:TT):TT:=λY H Q=>t Y H λc Z=>if c=true then u Y Z Q else Q false Z
def tOr (t u:TT):TT:=λY H Q=>t Y H λc Z=>if c=true then Q true Z else u Y Z Q
def akv (t:TT):TT:=λY H Q=>t Y H λc Z=>Q (!c) Z
def nY (U:PT X a tA):PW X (.BoolOp .And [a] pos) tA:=by
 intro T Z s Y H Q I h;show isTrue_and (cK (U Z s Y H Q I h) λc S e=>?_);cases c with
 | true=>show isTrue_and_nil e
 | false=>show e
def gy (U:PT X a tA):PW X (.BoolOp .Or [a] pos) tA:=by
 intro T Z s Y H Q I h;show isTrue_or (cK (U Z s Y H Q I h) λc S e=>?_);cases c with
 | false=>show isTrue_or_nil e
 | true=>show e
def tI (M:PT X a tA)(N:PW X (.BoolOp .And (b::rest) pos) tB'):PW X (.BoolOp .And (a::b::rest) pos) (akt tA tB'):=by
 intro R U s Y H Q I h;show isTrue_and (cK (M U s Y H _ I h) λc P ⟨S,T,Z⟩=>?_);cases c with
 | true=>show N R U P Y S Q T Z
 | false=>show(S,T,Z)
def gj (M:PT X a tA)(N:PW X (.BoolOp .Or (b::rest) pos) tB'):PW X (.BoolOp .Or (a::b::rest) pos) (tOr tA tB'):=by
 intro R U s Y H Q I h;show isTrue_or (cK (M U s Y H _ I h) λc P ⟨S,T,Z⟩=>?_);cases c with
 | true=>show(S,T,Z)
 | false=>show N R U P Y S Q T Z
def cL (U:PT X a tA):PT X (.UnaryOp .Not a pos) (akv tA):=by
 intro Z s Y H Q I h;show isTrue_not (U Z s Y H (λc T=>Q (!c) T) I h)
def acz (ta tb:TE):TE:=λY H Q=>ta Y H λx Z=>∃c,x=.bl c/\if c=true then tb Y Z Q else Q (.bl false) Z
def akw (ta tb:TE):TE:=λY H Q=>ta Y H λx Z=>∃c,x=.bl c/\if c=true then Q (.bl true) Z else tb Y Z Q
inductive Qq (Q:VK)(x:V)(Z:Hp):Prop
|mk (c:_)(_:x=.bl c)(_:Q (.bl (!c)) Z)
def acA (ta:TE):TE:=λY H Q=>ta Y H λx Z=>Qq Q x Z
def xY (h:PE X a t):PE X (.BoolOp op [a] pos) t:=λZ s Y H Q I U=>BoolOp_one (h Z s Y H Q I U)
def GU (M:PE X a ta)(N:PE X (.BoolOp .And (b::rest) pos) tb):PE X (.BoolOp .And (a::b::rest) pos) (acz ta tb):=by
 intro U s Y H Q I h;show BoolOp_and (cK (M U s Y H _ I h) λv R ⟨x,S,T,P,Z⟩=>?_);let(c,rfl,Z):=Z;cases P;show UW ?_;cases c with
 | true=>show N U R Y S Q T Z
 | false=>show(.bl false,S,T,O,Z)
def acB (M:PE X a ta)(N:PE X (.BoolOp .Or (b::rest) pos) tb):PE X (.BoolOp .Or (a::b::rest) pos) (akw ta tb):=by
 intro U s Y H Q I h;show BoolOp_or (cK (M U s Y H _ I h) λv R ⟨x,S,T,P,Z⟩=>?_);let(c,rfl,Z):=Z;cases P;show UW ?_;cases c with
 | false=>show N U R Y S Q T Z
 | true=>show(.bl true,S,T,O,Z)
def ae_ (S:PE X a ta):PE X (.UnaryOp .Not a pos) (acA ta):=by
 intro T s Y H Q I h;show UnaryOp_ (cK (S T s Y H _ I h) λv N ⟨x,P,R,U,Z⟩=>?_);let(c,rfl,Z):=Z;cases U;show not_of (UW (.bl (!c),P,R,O,Z))
def tIf (t:TT)(ta tb:TE):TE:=λY H Q=>t Y H λc Z=>if c=true then ta Y Z Q else tb Y Z Q
def zax (P:PT X c tA)(M:PE X a ta)(N:PE X b tb):PE X (.IfExp c a b pos) (tIf tA ta tb):=by
 intro Z s Y H Q I h;show wpAny_IfExp (cK (P Z s Y H _ I h) λd U ⟨R,S,T⟩=>?_);cases d with
 | true=>show M Z U Y R Q S T
 | false=>show N Z U Y R Q S T
end
def aT (K:Frag)(H:Hp)(a:BK)(xs:ε):Prop:=
 Rd H a (.lst xs)\/
  ∃(o:Obj)(Z:Η)(n:Nat),K.lookup a=some o/\o.cls=.type "list"/\o.dict=none/\o.data=.seq Z n/\Z.size<=DC/\Vals xs Z.toList
def bL (K:Frag)(H:Hp)(a:BK)(xs:ε):Prop:=
 Rd H a (.tup xs)\/
  ∃(o:Obj)(Z:Η)(n:Nat),K.lookup a=some o/\o.cls=.type "tuple"/\o.data=.seq Z n/\Z.size<=DC/\Vals xs Z.toList
def akx:Value->Option V
 | .none=>some .cW
 | .bool b=>some (.bl b)
 | .int i _=>some (.int i)
 | .str x _=>some (.str x)
 | .bytes b _=>some (.vy b)
 | .float b _=>some (.σ6 b)
 | .ref a=>some (.ref a)
 | .type n=>some (.ty n)
 | _=>none
def RelV.abs (r:RelV x u):akx u=some x:=by
 cases x with
 | cW=>cases r;rfl
 | bl _=>cases r;rfl
 | int _=>let(t,rfl):=r;rfl
 | str _=>let(t,rfl):=r;rfl
 | vy _=>let(t,rfl):=r;rfl
 | σ6 _=>let(t,rfl):=r;rfl
 | ref _=>cases r;rfl
 | ty _=>cases r;rfl
def RelV.inj (r:RelV x u)(q:RelV y u):x=y:=JB (r.abs.symm.trans q.abs)
theorem Vals.inj:∀{xs ys:ε} {us:ο},Vals xs us->Vals ys us->xs=ys
 | _,_,_,.nil,.nil=>rfl
 | _,_,_,.cons r t,.cons Z t'=>by rw [r.inj Z,Vals.inj t t']
section
variable {X:Cx}{pX:ζ}{Y:St}{H:Hp}{s:DI}{a:BK}{xs ys:ε}
def aT.of {K:Frag}(h:H a=some (.lst xs)):aT K H a xs:=.inl (.inl h)
def bL.of {K:Frag}(h:H a=some (.tup xs)):bL K H a xs:=.inl (.inl h)
def Inv.list (I:Inv X pX Y H s)(h:aT X.K H a xs):∃BN:List Value,Vals xs BN/\PlainL s.heap a BN.toArray/\xs.length<=DC:=by
 rcases h with h|⟨o,BN,n,U,S,T,Z,R,r⟩
 ·let(z,BN,n,r,e):=h.ok I.bO
  show(BN,r,(_,n,e,O,O,O),z)
 ·show(BN.toList,r,(o,n,I.mR a o U,S,T,by simpa using Z),?_)
  let e:=r.length;simp only [ajr] at e;omega
def Inv.tuple (I:Inv X pX Y H s)(h:bL X.K H a xs):∃BN:List Value,Vals xs BN/\IsTup s.heap a BN.toArray/\xs.length<=DC:=by
 rcases h with h|⟨o,BN,n,U,T,Z,S,r⟩
 ·let(z,BN,r,p):=h.ok I.bO
  show(BN,r,p,z)
 ·show(BN.toList,r,(o,I.mR a o U,T,n,by simpa using Z),?_)
  let e:=r.length;simp only [ajr] at e;omega
def Inv.jh (I:Inv X pX Y H s)(h:aT X.K H a xs)(h':aT X.K H a ys):xs=ys:=by
 let(R,r,(o,n,e,_,_,d),_):=I.list h;let(U,T,(Q,P,S,_,_,Z),_):=I.list h';erw [e] at S;rw [d] at Z;injection Z with d1 _
 have:R=U:=by simpa using pU al7 d1
 subst this;show r.inj T
def Inv.jk (I:Inv X pX Y H s)(h:bL X.K H a xs)(h':bL X.K H a ys):xs=ys:=by
 let(R,r,(o,e,_,n,d),_):=I.tuple h;let(U,T,(Q,S,_,P,Z),_):=I.tuple h';erw [e] at S;rw [d] at Z;injection Z with d1 _
 have:R=U:=by simpa using pU al7 d1
 subst this;show r.inj T
end
abbrev Cx.vS (X:Cx)(E:δ):Cx:={X with xe:=E}
abbrev Cx.BE (X:Cx):Cx:=X.vS λ_ _=>False
theorem Cx.Ok.vS {X:Cx}(Z:X.Ok)(E:δ):(X.vS E).Ok:=
 (Z.mod,Z.kind,Z.glob,Z.blt,Z.above,Z.inj,Z.has,Z.cab,Z.hd,Z.frames,Z.stk,Z.exf,Z.bs,Z.UY,Z.Qp,Z.UZ,Z.rW,Z.σ9)
def Cx.Ok.kK {X:Cx}(Z:(X.vS E).Ok):X.Ok:=
 (Z.mod,Z.kind,Z.glob,Z.blt,Z.above,Z.inj,Z.has,Z.cab,Z.hd,Z.frames,Z.stk,Z.exf,Z.bs,Z.UY,Z.Qp,Z.UZ,Z.rW,Z.σ9)
section
variable {X:Cx}{pX:ζ}{Y:St}{H:Hp}{s:DI}{E:δ}
theorem Inv.vS (I:Inv X pX Y H s)(E:δ):Inv (X.vS E) pX Y H s:=(I.ok.vS E,I.os,I.bare,I.lM,I.loc,I.cell,I.free,I.jg,I.pin,I.bO,I.len)
theorem Inv.kK (I:Inv (X.vS E) pX Y H s):Inv X pX Y H s:=(I.ok.kK,I.os,I.bare,I.lM,I.loc,I.cell,I.free,I.jg,I.pin,I.bO,I.len)
theorem SP.kK (h:SP (X.vS E) pX D f s'):SP X pX D f s':=by
 cases f with
 | next=>let(Z,U,I,q):=h;show(Z,U,I.kK,q)
 | brk=>let(Z,U,I,q):=h;show(Z,U,I.kK,q)
 | cont=>let(Z,U,I,q):=h;show(Z,U,I.kK,q)
 | ret u=>let(v,Z,U,I,r,q):=h;show(v,Z,U,I.kK,r,q)
theorem rV.BE {st:List Stmt}(h:rV X.BE st t):rV X st t:=λpX s Y H D I Z=>
 NZ (h pX s Y H D (I.vS _) Z) (λ_ _ q=>q.kK) λ_ _ z=>False.elim z
end
section
variable {X:Cx}{st:Stmt}{rest:List Stmt}{t u:TS}{e:Expr}{te:TE}{pos:Pos}
def acC:TS:=λD Y H=>D.nx Y H
def HJ (t u:TS):TS:=λD Y H=>t {D with nx:=u D} Y H
def aR:rV X [] acC:=λ_ _ Y H _ I h=>LM (Y,H,I,h)
def aa (S:PS X st t)(T:rV X rest u):rV X (st::rest) (HJ t u):=by
 intro Z s Y H D I h;show wpAny_execs_cons (cK (S Z s Y H {D with nx:=u D} I h) λf U q=>?_);cases f with
 | next=>
  let(R,P,Q,q):=q;show T Z U R P D Q q
 | ret v=>show q
 | brk=>show q
 | cont=>show q
def ah (U:PS X st t):rV X [st] t:=by
 intro Z s Y H D I h;show wpAny_execs_cons (cK (U Z s Y H D I h) λf T q=>?_);cases f with
 | next=>show LM q
 | ret v=>show q
 | brk=>show q
 | cont=>show q
def acE:TS:=λD Y H=>D.ct Y H
def its:PS X (.Continue pos) acE:=λ_ _ Y H _ I h=>wpAny_Continue (Y,H,I,h)
def Inv.quiet {Y:St}(I:Inv X pX Y H s):interactive X.env=false:=by simp [interactive,I.ok.kind]
def acF (te:TE):TS:=λD Y H=>te Y H λ_ Z=>D.nx Y Z
def bD (S:PE X e te)(T:Rx e none pos.line X.env=pure false:=by rfl):PS X (.Expr e pos) (acF te):=by
 intro U s Y H D I h;show wpAny_Expr_any (cK (S U s Y H _ I h) λv P ⟨x,Q,R,N,Z⟩=>(Y,Q,R,Z)) I.quiet T
def aky (te:TE):TS:=λD Y H=>te Y H D.rt
def aE (S:PE X e te):PS X (.Return (some e) pos) (aky te):=by
 intro T s Y H D I h;show wpAny_Return_some (cK (S T s Y H _ I h) λv P ⟨x,Q,R,Z,U⟩=>(x,Y,Q,R,Z,U))
def akz (c:TT)(t u:TS):TS:=λD Y H=>c Y H λb Z=>if b=true then t D Y Z else u D Y Z
def bw (Q:PT X c tc)(N:rV X a t)(P:rV X b u):PS X (.If c a b pos) (akz tc t u):=by
 intro Z s Y H D I h;show wpAny_If (cK (Q Z s Y H _ I h) λd U ⟨R,S,T⟩=>?_);cases d with
 | true=>show N Z U Y R D S T
 | false=>show P Z U Y R D S T
def ad3:TS:=λ_ _ _=>False
def dC:PS X st ad3:=λ_ _ _ _ _ _ h=>h.elim
end
abbrev TG:=V->St->Hp->(St->Hp->Prop)->Prop
abbrev XI:=List V->St->Hp->(St->Hp->Prop)->Prop
def PG (X:Cx)(Z:Expr)(t:TG):Prop:=
 ∀(U:ζ)(s:DI)(Y:St)(H:Hp)(v:V)(u:Value)(Q:St->Hp->Prop),Inv X U Y H s->RelV v u->t v Y H Q->
  CB (CL X.prog X.w) X.A (assign Z X.env u) (λ_ R=>∃T S,Inv X U T S R/\Q T S) X.xe s
def PGs (X:Cx)(ts:Ε)(t:XI):Prop:=
 ∀(T:ζ)(s:DI)(Y:St)(H:Hp)(Z:ε)(U:ο)(Q:St->Hp->Prop),Inv X T Y H s->Vals Z U->t Z Y H Q->
  CB (CL X.prog X.w) X.A (assignInOrder ((Vc ts X.env).map (·.2)) U) (λ_ P=>∃S R,Inv X T S R P/\Q S R) X.xe s
abbrev Za:=V->V->V->Hp->(Hp->Prop)->Prop
def acH (X:Cx)(t:Za):Prop:=
 ∀(Z:ζ)(s:DI)(Y:St)(H:Hp)(o i v:V)(U T u:Value)(Q:Hp->Prop),Inv X Z Y H s->RelV o U->RelV i T->RelV v u->t o i v H Q->
  CB (CL X.prog X.w) X.A (setItem U T u) (λ_ R=>∃S,Inv X Z Y S R/\Q S) X.xe s
section
variable {X:Cx}{pos:Pos}
def cE (i:Nat):TG:=λv Y H Q=>Q (Y.set i (some v)) H
def f9 (S:X.N.Nodup)(U:X.N[i]?=some x)(Z:Loc X.env.scope x)(T:X.fn x=true\/X.env.scope.names.lookup x=some .local:=by first|show .inl rfl|show .inr rfl|assumption):PG X (.Name x pos) (cE i):=by
 intro M s Y H v u Q I r h;show wpAny_assign_Name (nV I S U Z r (λP R=>(_,H,R,h)) T)
def Zc:XI:=λZ Y H Q=>Z=[]/\Q Y H
def BO (t:TG)(u:XI):XI:=λZ Y H Q=>∃v r,Z=v::r/\t v Y H λU T=>u r U T Q
def cM:PGs X [] Zc:=by
 intro T s Y H Z U Q I r h;let(e,h):=h;subst e;cases r;show assignInOrder_nil (Y,H,I,h)
def aY (N:PG X e t)(P:PGs X es u)
  (R:(Vc (e::es) X.env).map (·.2)=assign e X.env::(Vc es X.env).map (·.2):=by rfl):PGs X (e::es) (BO t u):=by
 intro Z s Y H E C Q I r h;let(v,D,M,h):=h;subst M;cases r with
 | cons r T=>
  rw [R];show assignInOrder_cons (cK (N Z s Y H _ _ _ I r h) λ_ U ⟨L,G,J,S⟩=>?_);show P Z U L G _ _ Q J T S
inductive Qs (K:Frag)(n:Nat)(t:XI)(v:V)(Y:St)(H:Hp)(Q:(St->Hp->Prop)):Prop
|mk (a xs:_)(_:v=.ref a)(_:bL K H a xs)(_:xs.length=n)(_:t xs Y H Q)
def eY {k:Nat}(L:X.calm=true)(h:PGs X es t)
  (N:(Vc es X.env).length=n:=by rfl) (E:(Vc es X.env).findIdx? (·.1)=none:=by rfl):PG X (.Tuple es k pos) (Qs X.K n t):=by
 intro T s Y H v u Q I r Z;let(a,xs,G,P,M,Z):=Z;subst G;cases r;let(B,U,R,C):=I.tuple P;show assign_Tuple_tuple (I.ok.hd L) R (by simp [N,<-M,U.length]) E λJ S=>?_;let D:Inv X T Y H {s with heap:=J}:=I.kept (t':=s.toks) λb o e=>S b o (N8 (HF e)) e;show h T _ Y H xs _ Q D (by simpa using U) Z
def akA (Z U:TE)(t:Za):TG:=λv Y H Q=>Z Y H λo R=>U Y R λi S=>t o i v S λT=>Q Y T
def xZ (E:PE X o to)(D:PE X i ti)(G:acH X t)
  (C:∀v,assign (.Subscript o i pos) X.env v=(do
   let Z <- V8 [v] (EI o X.env);let U <- V8 [v,Z] (EI i X.env)
   standAt pos
   V8 [v,Z,U] (setItem Z U v)
   release [v,Z,U] []):=by intro _;rfl):PG X (.Subscript o i pos) (akA to ti t):=by
 intro T s Y H v u Q I r h;rw [C];show BL (Nq (cK (E T s Y H _ I h) λZ R ⟨x,p,z,N,J⟩=>?_));show BL (Nq (cK (D T R Y p _ z J) λU S ⟨y,q,A,P,L⟩=>?_));show BL (wpAny_standAt (BL (Nq (cK (G T S Y q x y v Z U u _ A N P r L) λ_ m ⟨w,B,M⟩=>?_))));show wpAny_release (Y,w,B,M)
def BP (Z:TE)(g:TG):TS:=λD Y H=>Z Y H λx U=>g x Y U D.nx
def qe (N:PE X e te)(P:PG X tg g)(Q:swapsWithSole [tg] e pos.line X.env=pure false:=by rfl)(R:swappedStores [tg] e X.env=pure none:=by rfl)
  (M:(Vc [tg] X.env).map (·.2)=[assign tg X.env]:=by rfl):PS X (.Assign [tg] e pos) (BP te g):=by
 intro Z s Y H D I h;show wpAny_Assign_stores (cK (N Z s Y H _ I h) λv U ⟨x,J,L,T,S⟩=>?_) Q R;rw [M];show cK (P Z U Y J x v _ L T S) λ_ G q=>q
def aet (L:X.N.Nodup)(Q:X.N[i]?=some x)(S:Loc X.env.scope x)(M:PE X e te)(R:Rx e (some (.Name x pos')) pos.line X.env=pure false:=by rfl)(P:X.fn x=true\/X.env.scope.names.lookup x=some .local:=by first|show .inl rfl|show .inr rfl|assumption):
  PS X (.Assign [.Name x pos'] e pos) (BP te (cE i)):=by
 intro T s Y H D I h;show wpAny_Assign_Name (cK (M T s Y H _ I h) λv B ⟨y,E,G,Z,U⟩=>?_) R;show nV G L Q S Z (λC J=>(_,E,J,U)) P
inductive XJ (i:Nat)(j:Nat)(D:Ends)(Y:St)(vs:ε)(Z:Hp):Prop
|mk (v w:_)(_:vs=[v,w])(_:D.nx ((Y.set i (some v)).set j (some w)) Z)
def akB (i j:Nat)(U:TA):TS:=λD Y H=>U Y H λZ T=>XJ i j D Y Z T
def aeh (hc:X.calm=true)(L:X.N.Nodup)(c:X.N[i]?=some x)(f:X.N[j]?=some y)(R:i≠j)
  (M:X.env.scope.names.lookup x=some .local) (P:X.env.scope.names.lookup y=some .local) (ha:PA X [a,b] ta)
  (k:swappedStores [.Tuple [.Name x px,.Name y py] kt pt] (.Tuple [a,b] k2 pt2) X.env=pure (some [x,y]))
  (g:swapsWithSole [.Tuple [.Name x px,.Name y py] kt pt] (.Tuple [a,b] k2 pt2) pos.line X.env=pure false:=by rfl):
  PS X (.Assign [.Tuple [.Name x px,.Name y py] kt pt] (.Tuple [a,b] k2 pt2) pos) (akB i j ta):=by
 intro Q s Y H D I h;rw [exec_Assign_arm];show BL (wpAny_standAt ?_);rw [g];show BL (DT ?_);rw [mQ cr];show BL (Tuple_ (cK (ha _ Q s Y H _ I h) λE T ⟨vs,G,I1,B,S⟩=>?_));let(v,w,e1,S):=S;subst e1
 obtain ⟨U,Z,rfl,C,z⟩:∃U Z,E=[U,Z]/\RelV v U/\RelV w Z:=by
  cases B with
  | cons p q=>
   cases q with
   | cons m u=>
    cases u;show(_,_,O,p,m)
 show U3 ?_ (by change 2<=DC;decide);let I2:Inv X Q Y G {T with heap:=T.heap.push {cls:=.type "tuple",data:=.seq [U,Z].toArray}}:=I1.kept (t':=T.toks) λb o e=>GY _ e;rw [k];show BL (DT ?_);change CB (CL X.prog X.w) X.A (do rule "assign.swapped-stores";let items <- unpackItems (.ref T.heap.objs.size) 2 none;assignInOrder [λv=>bindName X.env y v,λv=>bindName X.env x v] items.reverse;pure Flow.next) _ _ _;show BL (α5 (BL (unpackItems_tuple (items:= (List.toArray [U,Z])) (I.ok.hd hc) (IsTup.new T.heap _) λh' Ng =>?_)));let I3:=I2.kept (h':=h') (t':=T.toks) λb o e=>Ng b o (N8 (HF e)) e;change CB _ _ (assignInOrder [λv=>bindName X.env y v,λv=>bindName X.env x v] [Z,U] >>=λ_=>pure Flow.next) _ _ _;show BL (assignInOrder_cons (wpAny_bindName (nV I3 L f (.inl P) z (λs2 I4=>?_) (.inr P))));show assignInOrder_cons (wpAny_bindName (nV I4 L c (.inl M) C (λs3 J=>assignInOrder_nil (DT ?_)) (.inr M)));rw [List.set_comm _ _ (G' R)] at J;show(_,G,J,S)
def ae8 (c:TT)(R:TS):TS:=λD Y H=>∃W:Nat->St->Hp->Prop,(∃m,W m Y H)/\∀m Y H,W m Y H->
 c Y H λb T=>if b=true then ∃N:St->Hp->Prop,(∀U S,N U S ->∃Z,Z<m/\W Z U S)/\R {D with nx:=N,ct:=N,bk:=D.nx} Y T else D.nx Y T
def tJ (C:PassesOwn (CL X.prog X.w) X.A X.env X.xe)(g:PT X c tc)(a:rV X body tb):PS X (.While c body [] pos) (ae8 tc tb):=by
 intro M s Y H D I h;let(W,(i,o),Z):=h;show wpAny_While (codeAny_whileLoop (λn j=>∃z q,Inv X M z q j/\W n z q) ?_ i (Y,H,I,o));rintro n k ⟨Q,u,I1,p⟩;show Wh C (cK (g M k Q u _ I1 (Z n Q u p)) λb m ⟨x,y,R⟩=>?_);cases b with
 | true=>
  let(N,B,R):=R;rw [ox rfl];show Wh C (cK (a M m Q x _ y R) λf s3 S=>?_);cases f with
  | next=>
   let(U,T,E,L):=S;let(J,G,P):=B U T L;show(J,G,U,T,E,P)
  | cont=>
   let(U,T,E,L):=S;let(J,G,P):=B U T L;show(J,G,U,T,E,P)
  | brk=>show S
  | ret v=>show S
 | false=>
  rw [mQ N9];show LM (Q,x,y,R)
end
structure It where
 go:Nat->Hp->Prop
 GV:Nat->Hp->V->Hp->Prop
 stop:Nat->Hp->Prop
def nZ (X:Cx)(pX:ζ)(H:Hp)(b:BK):Prop:=
 H b=none/\b≠X.env.locals/\b∉X.fs/\(b∈X.ex\/X.pV.heap.objs.size<=b)/\(∀x c,X.env.cells.lookup x=some c->c≠b)/\∀p∈X.pn++pX,p.1≠b
def Inv.mS {Y:St}{b:BK}(I:Inv X pX Y H s)(Z:s.heap.objs.size<=b)(T:H' b=none):nZ X pX H' b:=by
 show(T,VG (NU I.lt Z),I.ako Z,.inr (EE I.sz Z),λx c e z=>?_,λp U z=>?_)
 ·let(v,q):=I.cell x c e
  show DQ (NU q.lt (by rwa [z])) (Q0 _)
 ·show DQ (NU (HF (I.pin p U).1) (by rwa [z])) (Q0 _)
structure Turn (P:HY)(w:World)(K:Frag)(tg:Expr)(J:It)(fp:ψ)(it:BK)(tn:Nat->Heap->Prop):Prop where
 mem:it∈fp
 obj:∀i h,tn i h->∀b∈fp,∃o,h.get? b=some o/\∀v,o.data≠.cell v
 keep:∀i h h',tn i h->(∀b∈fp,∀o,h.get? b=some o->h'.get? b=some o)->tn i h'
 item:∀(X:Cx),X.prog=P->X.w=w->X.K=K->X.calm=true->∀(i:Nat)(pX:ζ)(s:DI)(Y:St)(H:Hp)(E:δ),Inv X pX Y H s->(∀b∈fp,nZ X pX H b)->tn i s.heap->J.go i H->
  CB (CL P w) X.A (Nw (.ref it)) (λr s1=>∃u,r=some u/\
   CB (CL P w) X.A (LK tg (.ref it) u) (λ_ s2=>∃x H',Inv X pX Y H' s2/\RelV x u/\J.GV i H x H'/\tn (i+1) s2.heap/\∀b∈fp,H' b=none) E s1) E s
 done:∀(X:Cx),X.prog=P->X.w=w->X.K=K->X.calm=true->∀(i:Nat)(pX:ζ)(s:DI)(Y:St)(H:Hp)(E:δ),Inv X pX Y H s->(∀b∈fp,nZ X pX H b)->tn i s.heap->J.stop i H->
  CB (CL P w) X.A (Nw (.ref it)) (λr s1=>r=none/\Inv X pX Y H s1) E s
 self:∀(A:JI)(i:Nat)(s:DI)(Q:δ)(E:δ),tn i s.heap->Q (.ref it) s->CB (CL P w) A (pyIter (.ref it)) Q E s
abbrev TI:=St->Hp->(It->Hp->Prop)->Prop
def PIE (X:Cx)(pX:ζ)(Y:St)(N:Expr)(R:It->Hp->Prop)(Z:Value)(S:DI):Prop:=
 ∃(Q:BK)(P:ψ)(T:Nat->Heap->Prop)(J:It)(U:Hp),Z=.ref Q/\Inv X pX Y U S/\Turn X.prog X.w X.K N J P Q T/\T 0 S.heap/\(∀b∈P,nZ X pX U b)/\R J U
def PI (X:Cx)(T iter:Expr)(U:TI):Prop:=
 ∀(Z:ζ)(s:DI)(Y:St)(H:Hp)(R:It->Hp->Prop),Inv X Z Y H s->U Y H R->
  CB (CL X.prog X.w) X.A (EI iter X.env) (λv S=>CB (CL X.prog X.w) X.A (pyIter v) (PIE X Z Y T R) X.xe S) X.xe s
def BQ            (Y : s.heap.get? it = some o) (T : o.cls = .type n) (U : o.data = .fields vs)
    (X : ["enumerate", "zip", "dict_itemiterator", "dict_reverseitemiterator", "odict_iterator", "itertools.zip_longest", "itertools.pairwise"].contains n = false) (Z : Q () s) : CB M A (LK tg (.ref it) u) Q E s := by
  unfold LK
  cases tg<;>first
    | show DT Z
    | (cases u<;>first
        | show DT Z
        | (show BL (wpAny_load Y ?_)
           rw [T, U];change CB M A (if (["enumerate", "zip", "dict_itemiterator", "dict_reverseitemiterator", "odict_iterator", "itertools.zip_longest", "itertools.pairwise"].contains n && vs[0]? == some (NH _)) = true then _ else _) Q E s;rw [mQ (by intro h; rw [X, Bool.false_and] at h; cases h)]
           show DT Z))
def TN (K:Frag)(a:BK):It:=
 (λi H=>∃xs x,aT K H a xs/\xs[i]?=some x,λi H x Z=>Z=H/\∀xs,aT K H a xs->xs[i]?=some x,λi H=>∃xs,aT K H a xs/\xs.length<=i)
def Itt (K:Frag)(a:BK):It:=
 (λi H=>∃xs x,bL K H a xs/\xs[i]?=some x,λi H x Z=>Z=H/\∀xs,bL K H a xs->xs[i]?=some x,λi H=>∃xs,bL K H a xs/\xs.length<=i)
def U5 (lo:Int)(n:Nat):It:=(λi _=>i<n,λi H x Z=>Z=H/\x=.int (lo+i),λi _=>n<=i)
def acb {K:Frag}(a it:BK):Turn P w K tg (TN K a) [it] it (λi h=>h.IsListIter it a i) where
 mem:=by simp
 obj:=λi h st b Z=>by
  let e:b=it:=by simpa using Z
  subst e;let(o,e,c,d):=st;show(o,e,λv z=>by erw [d] at z)
 keep:=λi h S st k=>st.at λo e=>k it fD o e
 item:=by
  intro X M Q L m i y s Y H E I T st N;subst M Q L;let(xs,x,U,q):=N;let(BN,R,p,f):=I.list U;let(u,hu,g):=R.get q;let(B,C,f2,D,G,J):=T it fD;show wpAny_pyNext_list_item st p.isList (x:=u) (by simpa using hu) λS A j=>?_;let I1:Inv X y Y H {s with heap:=S}:=I.turned (t':=s.toks) (λb o Z e=>(j.2 b Z).trans e) B C D G J;let(o,e,c,d):=id A;show(u,O,BQ (s:={s with heap:=S}) e c d cr (x,H,I1,g,#[O,λys hy=>by rwa [I.jh hy U]],A,λb Z=>(T b Z).1))
 done:=by
  intro X M Q L m i y s Y H E I T st N;subst M Q L;let(xs,U,q):=N;let(BN,R,p,f):=I.list U;let(B,C,f2,D,G,J):=T it fD;let hl:=R.length;show wpAny_pyNext_list_end (I.ok.hd m) st p.isList (by simp;omega) λS eb=>#[O,I.turned (t':=s.toks) (λb o Z e=>eb b o Z e) B C D G J]
 self:=λ_ _ _ _ _ st h=>wpAny_pyIter_listiter st h
def abn {K:Frag}(a it:BK):Turn P w K tg (Itt K a) [it] it (λi h=>h.IsTupleIter it a i) where
 mem:=by simp
 obj:=λi h st b Z=>by
  let e:b=it:=by simpa using Z
  subst e;let(o,e,c,d):=st;show(o,e,λv z=>by erw [d] at z)
 keep:=λi h S st k=>st.at λo e=>k it fD o e
 item:=by
  intro X M Q L j i q s Y H E I T st N;subst M Q L;let(xs,x,U,m):=N;let(A,R,p,hz):=I.tuple U;let(u,hu,f):=R.get m;let(B,C,f2,D,G,J):=T it fD;show wpAny_pyNext_tuple_item st (show s.heap.IsTuple a A.toArray from p) (x:=u) (by simpa using hu) λS y g=>?_;let I1:Inv X q Y H {s with heap:=S}:=I.turned (t':=s.toks) (λb o Z e=>(g.2 b Z).trans e) B C D G J;let(o,e,c,d):=id y;show(u,O,BQ (s:={s with heap:=S}) e c d cr (x,H,I1,f,#[O,λys hy=>by rwa [I.jk hy U]],y,λb Z=>(T b Z).1))
 done:=by
  intro X M Q L j i q s Y H E I T st N;subst M Q L;let(xs,U,m):=N;let(A,R,p,hz):=I.tuple U;let(B,C,f2,D,G,J):=T it fD;let hl:=R.length;show wpAny_pyNext_tuple_end (I.ok.hd j) st (show s.heap.IsTuple a A.toArray from p) (by simp;omega) λS eb=>#[O,I.turned (t':=s.toks) (λb o Z e=>eb b o Z e) B C D G J]
 self:=λ_ _ _ _ _ st h=>wpAny_pyIter_tupleiter st h
def abi {K:Frag}(it:BK)(lo:Int)(n:Nat):Turn P w K tg (U5 lo n) [it] it (λi h=>IsRangeIter h it (lo+(i:Nat)*1) ((n:Int)-(i:Nat)) 1) where
 mem:=by simp
 obj:=λi h st b Z=>by
  let e:b=it:=by simpa using Z
  subst e
  show(_,st,λv z=>by
   let x:Data.fields _=Data.cell v:=z
   cases x)
 keep:=λi h T st k=>k it fD _ st
 item:=by
  intro X N S M Q i y s Y H E I U st R;subst N S M;let(C,D,p,G,J,L):=U it fD;let W:=Walks.range (prog:=X.prog) (w:=X.w) (I.ok.hd Q) it lo 1 n;show W.item i s _ _ R st λv T A q B u=>?_;let(t,rfl):=q;let j:Inv X y Y H {s with heap:=T,toks:=A}:=I.turned (λb o Z e=>u b o (by simpa using Z) e) C D G J L;show(_,O,BQ (s:={s with heap:=T,toks:=A}) (n:="range_iterator") B rfl rfl cr (.int (lo+i),H,j,#[t,?_],#[O,O],B,λb Z=>(U b Z).1));rw [Int.mul_one]
 done:=by
  intro X N S M Q i y s Y H E I U st R;subst N S M;let(C,D,p,G,J,L):=U it fD;show wpAny_pyNext_range_end (I.ok.hd Q) st (by have:n<=i:=R;omega) λT m=>#[O,I.turned (t':=s.toks) (λb o Z e=>m b o Z e) C D G J L]
 self:=λ_ _ _ _ _ st h=>wpAny_pyIter_rangeiter st h
section
variable {X:Cx}{tg:Expr}
inductive Qu (K:Frag)(R:(It->Hp->Prop))(x:V)(Z:Hp):Prop
|mk (a:_)(_:x=.ref a)(_:(∃xs,aT K Z a xs))(_:R (TN K a) Z)
def XM (K:Frag)(Z:TE):TI:=λY H R=>Z Y H λx U=>Qu K R x U
inductive XN (K:Frag)(R:(It->Hp->Prop))(x:V)(Z:Hp):Prop
|mk (a:_)(_:x=.ref a)(_:(∃xs,bL K Z a xs))(_:R (Itt K a) Z)
def akD (K:Frag)(Z:TE):TI:=λY H R=>Z Y H λx U=>XN K R x U
def bo (N:PE X l tl):PI X tg l (XM X.K tl):=by
 intro Q s Y H R I h;show cK (N Q s Y H _ I h) λv Z ⟨x,L,U,T,S⟩=>?_;let(a,e,(xs,P),q):=S;subst e;cases T;let(E,J,p,G):=U.list P;show wd p.isList ?_;show(Z.heap.objs.size,[Z.heap.objs.size],_,_,L,O,U.kept (t':=Z.toks) λb o e=>GY _ e,acb a _,(_,JO _ rfl,O,O),λb M=>?_,q);let e:b=Z.heap.objs.size:=by simpa using M
 subst e;show U.mS (DH _) (U.bO.fresh (DH _))
def GZ (N:PE X l tl):PI X tg l (akD X.K tl):=by
 intro Q s Y H R I h;show cK (N Q s Y H _ I h) λv Z ⟨x,L,U,T,S⟩=>?_;let(a,e,(xs,P),q):=S;subst e;cases T;let(J,G,p,E):=U.tuple P;show wpAny_pyIter_tuple (show Z.heap.IsTuple a J.toArray from p) ?_;show(Z.heap.objs.size,[Z.heap.objs.size],_,_,L,O,U.kept (t':=Z.toks) λb o e=>GY _ e,abn a _,(_,JO _ rfl,O,O),λb M=>?_,q);let e:b=Z.heap.objs.size:=by simpa using M
 subst e;show U.mS (DH _) (U.bO.fresh (DH _))
def agB {Y:St}{E:δ}{lo Z:Int}(I:Inv X pX Y H s)(N: -(2^62)<=lo)(P:lo<2^62)(Q: -(2^62)<=Z)(S:Z<2^62)
  (q:R (U5 lo (Z-lo).toNat) H):CB (CL X.prog X.w) X.A (pyIter (.ref s.heap.objs.size)) (PIE X pX Y tg R) E {s with heap:=s.heap.push {cls:=.type "range",data:=.fields (List.toArray [.int lo t,.int Z u,.int 1 v])},toks:=tk}:=by
 show wpAny_pyIter_range (IsRange.new ..) (small_one N P Q S) ?_;let U:Inv X pX Y H {s with heap:=s.heap.push {cls:=.type "range",data:=.fields (List.toArray [.int lo t,.int Z u,.int 1 v])},toks:=tk}:=I.kept λb o e=>GY _ e
 show((s.heap.push {cls:=.type "range",data:=.fields (List.toArray [.int lo t,.int Z u,.int 1 v])}).objs.size,[(s.heap.push {cls:=.type "range",data:=.fields (List.toArray [.int lo t,.int Z u,.int 1 v])}).objs.size],_,_,H,O,
  U.kept (t':=tk) λb o e=>GY _ e,abi _ lo (Z-lo).toNat,?_,λb T=>?_,q)
 ·let L:lo+((0:Nat):Int)*1=lo:=by simp
  let M:(((Z-lo).toNat:Nat):Int)-((0:Nat):Int)=Builtin.Range.rangeSize lo Z 1:=by rw [rangeSize_one];split<;>omega
  change IsRangeIter _ _ (lo+((0:Nat):Int)*1) ((((Z-lo).toNat:Nat):Int)-((0:Nat):Int)) 1;rw [L,M];show JO _ rfl
 ·let e:b=(s.heap.push {cls:=.type "range",data:=.fields (List.toArray [.int lo t,.int Z u,.int 1 v])}).objs.size:=by simpa using T
  subst e;show U.mS (DH _) (U.bO.fresh (DH _))
inductive Qw (R:(It->Hp->Prop))(vs:ε)(Z:Hp):Prop
|mk (j:Int)(_:vs=[.int j])(_: -(2^62)<=j)(_:j<2^62)(_:R (U5 0 j.toNat) Z)
def acI (U:TA):TI:=λY H R=>U Y H λZ T=>Qw R Z T
def bK (M:Gl X "range")(N:X.mg "range"=none)(L:PA X [a] ta)(P:HE [a] X.env=[(false,EI a X.env)]:=by rfl):PI X tg (.Call (.Name "range" p) [a] [] pos) (acI ta):=by
 intro Q s Y H R I h;show Call_ (jG I M N boot_range (We (cK (L pos Q s Y H _ I h) λE D ⟨G,C,J,T,Z⟩=>?_) P rfl));let(j,e,Z,S,q):=Z;subst e;cases T with
 | cons r U=>
  cases U;let(t,rfl):=r;show call_range_1 (agB J ce ce Z S (by simpa using q))
def akE (S:TI)(g:TG)(R:TS):TS:=λD Y H=>S Y H λJ M=>∃W:Nat->Nat->St->Hp->Prop,(∃m,W 0 m Y M)/\∀i m Y H,W i m Y H->
 (J.stop i H/\D.nx Y H)\/(J.go i H/\∃N:St->Hp->Prop,(∀T Z,N T Z ->∃U,U<m/\W (i+1) U T Z)/\∀x Z,J.GV i H x Z ->g x Y Z λQ P=>R {D with nx:=N,ct:=N,bk:=D.nx} Q P)
def tK (Z:ψ)(h:Heap):List (BK×Obj):=Z.filterMap λb=>(h.get? b).map λo=>(b,o)
def jH (Z:b∈fp)(e:h.get? b=some o):(b,o)∈tK fp h:=ajv.mpr (b,Z,by rw [e];rfl)
def abY (Z:p∈tK fp h):p.1∈fp/\h.get? p.1=some p.2:=by
 let(b,Y,e):=ajv.mp Z;cases q:h.get? b with
 | none=>erw [q] at e
 | some o=>
  rw [q] at e;let U:(b,o)=p:=JB e;subst U;show#[Y,q]
def Inv.pinned {Y:St}(I:Inv X pX Y H s)(R:∀b∈U,nZ X pX H b)(S:∀b∈U,∃o,s.heap.get? b=some o/\∀v,o.data≠.cell v):Inv X (pX++tK U s.heap) Y H s:=
 I.KY λp T=>(HZ.mp T).elim (λz=>I.pin p (QP _ z)) λz=>by
  let(Z,e):=abY z;let(N,P,Q,_):=R p.1 Z;let(o,M,d):=S p.1 Z;erw [e] at M;show(e,N,P,Q,d)
def Inv.kN {Y:St}(I:Inv X (pX++pl) Y H s):Inv X pX Y H s:=I.KY λp Z=>I.pin p (QP _ (Ny _ Z))
def bh (C:PassesOwn (CL X.prog X.w) X.A X.env X.xe)(hc:X.calm=true)(hi:PI X tg iter wi)(hg:PG X tg g)(U:rV X body tb)
  (hs:∀x,Sq iter X.env x=pure x:=by intro _;rfl):PS X (.For tg iter body [] pos) (akE wi g tb):=by
 intro L s Y H D I h;show wpAny_For (cK (hi L s Y H _ I h) λv s1 h1=>cK h1 λitv s2 h2=>?_) hs;let(it,B,a,J,H2,e,I2,T,j_,f2,W,(m0,w0),G):=h2;subst e;let Z:∀{P:Hp},(∀b∈B,P b=none)->∀b∈B,nZ X L P b:=λhn b U=>#[hn b U,(f2 b U).2];show codeAny_forLoop_any (λn s'=>∃i y P,Inv X L y P s'/\a i s'.heap/\(∀b∈B,P b=none)/\W i n y P) ?_ m0 (0,Y,H2,I2,j_,λb U=>(f2 b U).1,w0);rintro n s3 ⟨i,z,q,I3,BR,U6,w3⟩
 rcases G i n z q w3 with ⟨stop,qn⟩|⟨go,N,hN,step⟩
 ·show Wh C (cK (T.done X rfl rfl rfl hc i L s3 z q X.xe I3 (Z U6) BR stop) λr s4 ⟨k,I4⟩=>?_)
  subst k;show LM (z,q,I4,qn)
 ·show Wh C (cK (T.item X rfl rfl rfl hc i L s3 z q X.xe I3 (Z U6) BR go) λr s4 ⟨u,k,h4⟩=>?_)
  subst k;show Wh C (cK h4 λ_ s5 ⟨x,H5,I5,r5,y5,j,KZ⟩=>?_);let c:=I5.pinned (Z KZ) (T.obj _ _ j);show Wh C (cK (hg _ s5 z H5 x u _ c r5 (step x H5 y5)) λ_ s6 ⟨Y6,H6,I6,q6⟩=>?_);show Wh C (cK (U _ s6 Y6 H6 _ I6 q6) λf p M=>?_)
  let again:∀{S:St} {Q:Hp},Inv X (L++tK B s5.heap) S Q p->N S Q->∃m,m<n/\∃i y P,Inv X L y P p/\a i p.heap/\(∀b∈B,P b=none)/\W i m y P:=λ{S Q} R E=>by
   let(m',hm,w7):=hN S Q E;show(m',hm,i+1,S,Q,R.kN,T.keep _ _ _ j λb U o e=>(R.pin (b,o) (QP _ (QP _ (jH U e)))).1,λb U=>?_,w7);let(o,e,d):=T.obj _ _ j b U;show(R.pin (b,o) (QP _ (QP _ (jH U e)))).2.1
  cases f with
  | next=>let(S,Q,R,E):=M;show again R E
  | cont=>let(S,Q,R,E):=M;show again R E
  | brk=>let(S,Q,R,M):=M;show(S,Q,R.kN,M)
  | ret v=>let(x7,S,Q,R,r7,M):=M;show(x7,S,Q,R.kN,r7,M)
end
def bT {K:Frag}{g:TG}{R:TS}{D:Ends}(Z:Nat->St->Hp->Prop)(E:Z 0 Y H)(J:∀i Y H,i<=xs.length->Z i Y H->aT K H a xs)
  (L:∀i x Y H,xs[i]?=some x->Z i Y H->g x Y H λU S=>R {D with nx:=Z (i+1),ct:=Z (i+1),bk:=D.nx} U S) (G:∀Y H,Z xs.length Y H->D.nx Y H):
  ∃W:Nat->Nat->St->Hp->Prop,(∃m,W 0 m Y H)/\∀i m Y H,W i m Y H->
   ((TN K a).stop i H/\D.nx Y H)\/((TN K a).go i H/\∃N:St->Hp->Prop,(∀T X,N T X ->∃Q,Q<m/\W (i+1) Q T X)/\∀x X,(TN K a).GV i H x X ->g x Y X λU S=>R {D with nx:=N,ct:=N,bk:=D.nx} U S):=by
 show(λi m Y H=>m=xs.length-i/\i<=xs.length/\Z i Y H,(xs.length,by simp,NF _,E),?_);rintro i m Y H ⟨rfl,I,p⟩;let q:=J i Y H I p;by_cases P:i<xs.length
 ·show .inr ((xs,xs[i],q,by simp [P]),Z (i+1),λT X M=>(xs.length-(i+1),ce,O,P,M),λx X y=>?_)
  let(e,y):=y;subst e;show L i x Y _ (y xs q) p
 ·let e:i=xs.length:=ce
  subst e;show .inl #[(xs,q,DH _),G Y H p]
def ajd {K:Frag}{g:TG}{R:TS}{D:Ends}(Z:Nat->St->Hp->Prop)(E:Z 0 Y H)(J:∀i Y H,i<=xs.length->Z i Y H->bL K H a xs)
  (L:∀i x Y H,xs[i]?=some x->Z i Y H->g x Y H λU S=>R {D with nx:=Z (i+1),ct:=Z (i+1),bk:=D.nx} U S) (G:∀Y H,Z xs.length Y H->D.nx Y H):
  ∃W:Nat->Nat->St->Hp->Prop,(∃m,W 0 m Y H)/\∀i m Y H,W i m Y H->
   ((Itt K a).stop i H/\D.nx Y H)\/((Itt K a).go i H/\∃N:St->Hp->Prop,(∀T X,N T X ->∃Q,Q<m/\W (i+1) Q T X)/\∀x X,(Itt K a).GV i H x X ->g x Y X λU S=>R {D with nx:=N,ct:=N,bk:=D.nx} U S):=by
 show(λi m Y H=>m=xs.length-i/\i<=xs.length/\Z i Y H,(xs.length,by simp,NF _,E),?_);rintro i m Y H ⟨rfl,I,p⟩;let q:=J i Y H I p;by_cases P:i<xs.length
 ·show .inr ((xs,xs[i],q,by simp [P]),Z (i+1),λT X M=>(xs.length-(i+1),ce,O,P,M),λx X y=>?_)
  let(e,y):=y;subst e;show L i x Y _ (y xs q) p
 ·let e:i=xs.length:=ce
  subst e;show .inl #[(xs,q,DH _),G Y H p]
def cf {lo:Int}{g:TG}{Q:TS}{D:Ends}(Z:Nat->St->Hp->Prop)(I:Z 0 Y H)
  (L:∀i Y H,i<n->Z i Y H->g (.int (lo+i)) Y H λT R=>Q {D with nx:=Z (i+1),ct:=Z (i+1),bk:=D.nx} T R) (J:∀Y H,Z n Y H->D.nx Y H):
  ∃W:Nat->Nat->St->Hp->Prop,(∃m,W 0 m Y H)/\∀i m Y H,W i m Y H->
   ((U5 lo n).stop i H/\D.nx Y H)\/((U5 lo n).go i H/\∃N:St->Hp->Prop,(∀S X,N S X ->∃P,P<m/\W (i+1) P S X)/\∀x X,(U5 lo n).GV i H x X ->g x Y X λT R=>Q {D with nx:=N,ct:=N,bk:=D.nx} T R):=by
 show(λi m Y H=>m=n-i/\i<=n/\Z i Y H,(n,by simp,NF _,I),?_);rintro i m Y H ⟨rfl,G,p⟩;by_cases U:i<n
 ·show .inr (U,Z (i+1),λS X M=>(n-(i+1),ce,O,U,M),λx X y=>?_)
  let(e,y):=y;subst e y;show L i Y _ U p
 ·let e:i=n:=ce
  subst e;show .inl #[DH _,J Y H p]
def zaw (T:St->Hp->Prop)(μ:St->Hp->Nat)(N:T Y H)
  (P:∀Y H,T Y H->c Y H λb X=>if b=true then tb {D with nx:=λZ U=>T Z U/\μ Z U < μ Y H,ct:=λZ U=>T Z U/\μ Z U < μ Y H,bk:=D.nx} Y X else D.nx Y X)
  (mono:∀Y H Q S,(∀b X,Q b X->S b X)->c Y H Q->c Y H S):ae8 c tb D Y H:=by
 show(λm Y H=>m=μ Y H/\T Y H,(_,O,N),?_);rintro m Y H ⟨rfl,p⟩;show mono Y H _ _ (λb X q=>?_) (P Y H p);cases b with
 | true=>show(_,λZ U ⟨R,l⟩=>(_,l,O,R),q)
 | false=>show q
abbrev R2:=V->V->Hp->VK->Prop
def kc (X:Cx)(f:Value->Value->Sem Value)(r:R2):Prop:=
 ∀(Z:ζ)(s:DI)(Y:St)(H:Hp)(x y:V)(v u:Value)(Q:VK),Inv X Z Y H s->RelV x v->RelV y u->r x y H Q->
  CB (CL X.prog X.w) X.A (f v u) (EP X Z Y Q) X.xe s
def UnR (X:Cx)(f:Value->Sem Value)(r:V->Hp->VK->Prop):Prop:=
 ∀(Z:ζ)(s:DI)(Y:St)(H:Hp)(x:V)(v:Value)(Q:VK),Inv X Z Y H s->RelV x v->r x H Q->
  CB (CL X.prog X.w) X.A (f v) (EP X Z Y Q) X.xe s
def gP (X:Cx)(f:Value)(r:List V->Hp->VK->Prop):Prop:=
 ∀(U:ζ)(s:DI)(Y:St)(H:Hp)(xs:ε)(Z:ο)(Q:VK),Inv X U Y H s->Vals xs Z->r xs H Q->
  CB (CL X.prog X.w) X.A (call f Z) (EP X U Y Q) X.xe s
def U7 (r:R2)(X Z:TE):TE:=λY H Q=>X Y H λx T=>Z Y T λy U=>r x y U Q
def tUn (r:V->Hp->VK->Prop)(Z:TE):TE:=λY H Q=>Z Y H λx X=>r x X Q
inductive rI (C:Int->Int->Prop)(g:Int->Int->V)(x:V)(y:V)(H:Hp)(Q:VK):Prop
|mk (i j:_)(_:x=.int i)(_:y=.int j)(_:C i j)(_:Q (g i j) H)
inductive U8 (g:Int->Int->V)(x:V)(y:V)(H:Hp)(Q:VK):Prop
|mk (i j:_)(_:x=.int i)(_:y=.int j)(_:Q (g i j) H)
inductive rU (g:Int->V)(x:V)(H:Hp)(Q:VK):Prop
|mk (i:_)(_:x=.int i)(_:Q (g i) H)
section
variable {X:Cx}{a b c:Expr}{ta tb tc:TE}{pos:Pos}
def Zf (C:PE X a ta)(D:PE X b tb){Y:St}{R:V->V->Hp->Prop}(I:Inv X pX Y H s)
  (h:ta Y H λx T=>tb Y T λy Z=>R x y Z) {Q:δ} {f:Value->Value->Sem Value}
  (E:∀v u U x y Z,Inv X pX Y Z U->RelV x v->RelV y u->R x y Z->CB (CL X.prog X.w) X.A (f v u) Q X.xe U):
  CB (CL X.prog X.w) X.A (EI a X.env) (λv G=>CB (CL X.prog X.w) X.A (EI b X.env) (λu P=>CB (CL X.prog X.w) X.A (f v u) Q X.xe P) X.xe G) X.xe s:=by
 show cK (C pX s Y H _ I h) λv S ⟨x,T,z,M,J⟩=>?_;show cK (D pX S Y T _ z J) λu U ⟨y,Z,B,N,L⟩=>?_;show E v u U x y Z B M N L
def aD (R:kc X (QF op) r)(N:PE X a ta)(P:PE X b tb):PE X (.BinOp a op b pos) (U7 r ta tb):=by
 intro S s Y H Q I h;show wpAny_BinOp (Zf N P I h λv u Z x y L M T U q=>R S Z Y L x y v u Q M T U q)
def tN (R:UnR X (unaryOp op) r)(P:PE X a ta):PE X (.UnaryOp op a pos) (tUn r ta):=by
 intro Z s Y H Q I h;show UnaryOp_ (cK (P Z s Y H _ I h) λv U ⟨x,M,N,T,S⟩=>R Z U Y M x v Q N T S)
def opI {g:Int->Int->Int}
  (rule:∀(i j:Int)(t u:Tok)(s:DI)(Q:δ)(E:δ),C i j->Q (.int (g i j) s.toks) {s with toks:=s.toks+1}->CB (CL X.prog X.w) X.A (f (.int i t) (.int j u)) Q E s):
  kc X f (rI C λi j=>.int (g i j)):=by
 intro R s Y H x y v u Q I T U h;let(i,j,rfl,rfl,S,q):=h;let(t,rfl):=T;let(Z,rfl):=U;show rule i j t Z s _ _ S (.int (g i j),H,I.tok _,#[_,O],q)
def acK {g:Int->Int->Int}
  (rule:∀(i j:Int)(t u:Tok)(s:DI)(Q:δ)(E:δ),Q (.int (g i j) s.toks) {s with toks:=s.toks+1}->CB (CL X.prog X.w) X.A (f (.int i t) (.int j u)) Q E s):
  kc X f (U8 λi j=>.int (g i j)):=by
 intro S s Y H x y v u Q I T U h;let(i,j,rfl,rfl,q):=h;let(t,rfl):=T;let(Z,rfl):=U;show rule i j t Z s _ _ (.int (g i j),H,I.tok _,#[_,O],q)
def U9 {g:Int->Int->Bool}
  (rule:∀(i j:Int)(t u:Tok)(s:DI)(Q:δ)(E:δ),Q (.bool (g i j)) s->CB (CL X.prog X.w) X.A (f (.int i t) (.int j u)) Q E s):
  kc X f (U8 λi j=>.bl (g i j)):=by
 intro S s Y H x y v u Q I T U h;let(i,j,rfl,rfl,q):=h;let(t,rfl):=T;let(Z,rfl):=U;show rule i j t Z s _ _ (.bl (g i j),H,I,O,q)
def Zg (i j:Int):Prop:=0<=j/\j<=1000000/\i.natAbs<2^64
def bG:kc X (QF .Add) (U8 λi j=>.int (i+j)):=acK λ_ _ _ _ _ _ _ q=>add_int q
def cB:kc X (QF .Sub) (U8 λi j=>.int (i-j)):=acK λ_ _ _ _ _ _ _ q=>sub_int q
def ac8:kc X (QF .Mod) (rI (λ_ j=>j≠0) λi j=>.int (i.fmod j)):=opI λ_ _ _ _ _ _ _ Z q=>mod_int' Z q
def x4:kc X (QF .Pow) (rI Zg λi j=>.int (i^j.toNat)):=opI λ_ _ _ _ _ _ _ Z q=>pow_int_small Z.1 Z.2.1 Z.2.2 q
def unI {g:Int->Int}
  (rule:∀(i:Int)(t:Tok)(s:DI)(Q:δ)(E:δ),Q (.int (g i) s.toks) {s with toks:=s.toks+1}->CB (CL X.prog X.w) X.A (f (.int i t)) Q E s):
  UnR X f (rU λi=>.int (g i)):=by
 intro U s Y H x v Q I Z h;let(i,rfl,q):=h;let(t,rfl):=Z;show rule i t s _ _ (.int (g i),H,I.tok _,#[_,O],q)
def mT:UnR X (unaryOp .USub) (rU λi=>.int (-i)):=unI λ_ _ _ _ _ q=>neg_int q
end
def acL:V->V->Bool
 | .cW,.cW=>true | .cW,.int _=>true | .int _,.cW=>true | .cW,.bl _=>true | .bl _,.cW=>true | .cW,.str _=>true | .str _,.cW=>true
 | .int _,.int _=>true | .bl _,.bl _=>true | .str _,.str _=>true | .vy _,.vy _=>true
 | .int _,.str _=>true | .str _,.int _=>true | .bl _,.str _=>true | .str _,.bl _=>true
 | _,_=>false
def rEq:R2:=λx y H Q=>acL x y=true/\Q (.bl (decide (x=y))) H
def rNe:R2:=λx y H Q=>acL x y=true/\Q (.bl (!decide (x=y))) H
def aje:decide (V.int i=V.int j)=(i==j):=by
 rw [Vr];simp
def Qx :decide (V.bl i=V.bl j)=(i==j):=by
 rw [Vr];simp
def ahs :decide (V.str i=V.str j)=(i==j):=by
 rw [Vr];simp
def aho :decide (V.vy i=V.vy j)=(i.toList==j.toList):=by
 rw [Vr];cases i;cases j;simp
section
variable {X:Cx}{a b c:Expr}{ta tb tc:TE}{pos:Pos}
def bU {Y:St}(I:Inv X pX Y H s)(q:Q (.bl k) H)(e:k=k'):EP X pX Y Q (.bool k') s:=by
 subst e;show(.bl k,H,I,O,q)
def gm:kc X (NR .Eq) rEq:=by
 intro R s Y H x y v u Q I S Z h;let(T,q):=h;cases x with
 | cW=>
  cases S;cases y with
  | cW=>cases Z;show PySem.EqNone.eq_none_none (bU I q fD)
  | bl j=>cases Z;show PySem.EqNone.eq_none_bool (bU I q fD)
  | int j=>let(U,rfl):=Z;show PySem.EqNone.eq_none_int (bU I q fD)
  | str j=>let(U,rfl):=Z;show PySem.EqNone.eq_none_str (bU I q fD)
  | _=>show DQ (show false=true from T) N9
 | bl i=>
  cases S;cases y with
  | cW=>cases Z;show PySem.EqNone.eq_bool_none (bU I q fD)
  | bl j=>cases Z;show eq_bool (bU I q Qx)
  | str j=>let(U,rfl):=Z;show PySem.EqMixed.eq_bool_str (bU I q fD)
  | _=>show DQ (show false=true from T) N9
 | int i=>
  let(t,rfl):=S;cases y with
  | cW=>cases Z;show PySem.EqNone.eq_int_none (bU I q fD)
  | int j=>let(U,rfl):=Z;show eq_int (bU I q aje)
  | str j=>let(U,rfl):=Z;show PySem.EqMixed.eq_int_str (bU I q fD)
  | _=>show DQ (show false=true from T) N9
 | str i=>
  let(t,rfl):=S;cases y with
  | cW=>cases Z;show PySem.EqNone.eq_str_none (bU I q fD)
  | bl j=>cases Z;show PySem.EqMixed.eq_str_bool (bU I q fD)
  | int j=>let(U,rfl):=Z;show PySem.EqMixed.eq_str_int (bU I q fD)
  | str j=>let(U,rfl):=Z;show eq_str (bU I q ahs)
  | _=>show DQ (show false=true from T) N9
 | vy i=>
  let(t,rfl):=S;cases y with
  | vy j=>let(U,rfl):=Z;show PySem.W.eq_bytes (bU I q aho)
  | _=>show DQ (show false=true from T) N9
 | _=>cases y<;>show DQ (show false=true from T) N9
def iu:kc X (NR .NotEq) rNe:=by
 intro R s Y H x y v u Q I S Z h;let(T,q):=h;cases x with
 | cW=>
  cases S;cases y with
  | cW=>cases Z;show PySem.EqNone.ne_none_none (bU I q fD)
  | bl j=>cases Z;show PySem.EqNone.ne_none_bool (bU I q fD)
  | int j=>let(U,rfl):=Z;show PySem.EqNone.ne_none_int (bU I q fD)
  | str j=>let(U,rfl):=Z;show PySem.EqNone.ne_none_str (bU I q fD)
  | _=>show DQ (show false=true from T) N9
 | bl i=>
  cases S;cases y with
  | cW=>cases Z;show PySem.EqNone.ne_bool_none (bU I q fD)
  | bl j=>cases Z;show ne_bool (bU I q (pU not Qx))
  | str j=>let(U,rfl):=Z;show PySem.EqMixed.ne_bool_str (bU I q fD)
  | _=>show DQ (show false=true from T) N9
 | int i=>
  let(t,rfl):=S;cases y with
  | cW=>cases Z;show PySem.EqNone.ne_int_none (bU I q fD)
  | int j=>let(U,rfl):=Z;show ne_int (bU I q (pU not aje))
  | str j=>let(U,rfl):=Z;show PySem.EqMixed.ne_int_str (bU I q fD)
  | _=>show DQ (show false=true from T) N9
 | str i=>
  let(t,rfl):=S;cases y with
  | cW=>cases Z;show PySem.EqNone.ne_str_none (bU I q fD)
  | bl j=>cases Z;show PySem.EqMixed.ne_str_bool (bU I q fD)
  | int j=>let(U,rfl):=Z;show PySem.EqMixed.ne_str_int (bU I q fD)
  | str j=>let(U,rfl):=Z;show ne_str (bU I q (pU not ahs))
  | _=>show DQ (show false=true from T) N9
 | vy i=>
  let(t,rfl):=S;cases y with
  | vy j=>let(U,rfl):=Z;show PySem.W.ne_bytes (bU I q (pU not aho))
  | _=>show DQ (show false=true from T) N9
 | _=>cases y<;>show DQ (show false=true from T) N9
def q5:kc X (NR .Lt) (U8 λi j=>.bl (decide (i<j))):=U9 λ_ _ _ _ _ _ _ q=>lt_int q
def XO:kc X (NR .LtE) (U8 λi j=>.bl (decide (i<=j))):=U9 λ_ _ _ _ _ _ _ q=>le_int q
def q_:kc X (NR .Gt) (U8 λi j=>.bl (decide (j<i))):=U9 λ_ _ _ _ _ _ _ q=>gt_int q
def XQ:kc X (NR .GtE) (U8 λi j=>.bl (decide (j<=i))):=U9 λ_ _ _ _ _ _ _ q=>ge_int q
def Qy:kc X (NR .Is) (λx y H Q=>y=.cW/\Q (.bl (decide (x=.cW))) H):=by
 intro T s Y H x y v u Q I Z U h;let(rfl,q):=h;cases U;show is_none_gen (bU I q ?_)
 cases x<;>first
  | (cases Z;rfl)
  | (let(t,rfl):=Z;rfl)
def zaA:kc X (NR .IsNot) (λx y H Q=>y=.cW/\Q (.bl (!decide (x=.cW))) H):=by
 intro T s Y H x y v u Q I Z U h;let(rfl,q):=h;cases U;show isnot_none_gen (bU I q ?_)
 cases x<;>first
  | (cases Z;rfl)
  | (let(t,rfl):=Z;rfl)
def jI (b:Expr)(h:op≠.In:=by decide)(Z:op≠.NotIn:=by decide):α7 op b=false:=by
 let U:(op==CmpOp.In)=false:=by cases op<;>first|rfl|show DQ rfl h
 let Y:(op==CmpOp.NotIn)=false:=by cases op<;>first|rfl|show DQ rfl Z
 cases b<;>simp [α7,U,Y]
def iz (R:kc X (NR op) r)(M:PE X a ta)(N:PE X b tb)(P:α7 op b=false):PE X (.Compare a [op] [b] pos) (U7 r ta tb):=by
 intro S s Y H Q I h;show wpAny_Compare1 (Zf M N I h λv u Z x y J L T U q=>R S Z Y J x y v u Q L T U q) P
inductive Qz (Q:(Bool->Hp->Prop))(x:V)(H':Hp):Prop
|mk (k:_)(_:x=.bl k)(_:Q k H')
def XR (t:TE):TT:=λY H Q=>t Y H λx Z=>Qz Q x Z
def n_ (J:kc X (NR op) r)(D:PE X a ta)(E:PE X b tb)(G:α7 op b=false):PT X (.Compare a [op] [b] pos) (XR (U7 r ta tb)):=by
 intro Z s Y H Q I h
 show wpAny_isTrue_Compare1 (cK (D Z s Y H _ I h) λv T ⟨x,p,A,P,L⟩=>cK (E Z T Y p _ A L) λu U ⟨y,q,B,R,M⟩=>
  cK (J Z U Y q x y v u _ B P R M) λc o ⟨z,w,C,S,k,e,N⟩=>?_) G
 subst e;cases S;show UW (w,C,N)
def aee (r T:R2)(ta tb tc:TE):TE:=λY H Q=>ta Y H λx P=>tb Y P λy R=>r x y R λz Z=>∃k,z=.bl k/\
 (if k=true then tc Y Z λU S=>T y U S Q else Q (.bl false) Z)
def ahq (q:kc X (NR op) r)(i :kc X (NR op') r')(j:PE X a ta)(m:PE X b tb)(o:PE X c tc)
  (p:lastMarks [op,op'] [b,c]=false:=by with_unfolding_all rfl):PE X (.Compare a [op,op'] [b,c] pos) (aee r r' ta tb tc):=by
 intro Z s Y H Q I h
 show Compare_chain (cK (j Z s Y H _ I h) λv G ⟨x,H1,I1,C,w⟩=>chain_link (cK (m Z G Y H1 _ I1 w) λu J ⟨y,H2,f,U,A⟩=>
  cK (q Z J Y H2 x y v u _ f C U A) λd L ⟨z,R,S,D,k,e,T⟩=>?_)) p
 subst e;cases D;show UW ?_;cases k with
 | false=>show ite_ff (.bl false,R,S,O,T)
 | true=>show ite_tt (chain_last (cK (o Z L Y R _ S T) λN M ⟨P,H4,g,E,B⟩=>i Z M Y H4 y P u N Q g U E B))
def tO:(DC:Nat)<2^63:=by rw [sizeLine_eq];decide
def mU:kc X (QF .Add) (λx y H Q=>∃i j,x=.str i/\y=.str j/\i.length+j.length<=DC/\Q (.str (i++j)) H):=by
 intro P s Y H x y v u Q I T U h;let(i,j,rfl,rfl,S,q):=h;let(t,rfl):=T;let(Z,rfl):=U;show add_str (λZ R=>(.str (i++j),H,I.tok _,#[_,O],q)) S
def vals1 {us:ο}(r:Vals [x] us):∃u,us=[u]/\RelV x u:=by
 cases r with
 | cons Y Z=>cases Z;show(_,O,Y)
def vals2 {us:ο}(r:Vals [x,y] us):∃u Z,us=[u,Z]/\RelV x u/\RelV y Z:=by
 cases r with
 | cons S T=>
  cases T with
  | cons U Y=>cases Y;show(_,_,O,S,U)
def zar:gP X (.builtin "abs") (λxs H Q=>∃i,xs=[.int i]/\Q (.int (if i<0 then -i else i)) H):=by
 intro T s Y H xs Z Q I r h;let(i,rfl,q):=h;let(u,rfl,t,rfl):=vals1 r;show call_abs_int λu U=>(.int (if i<0 then -i else i),H,I.tok _,#[_,O],q)
def qg:gP X (.type "int") (λxs H Q=>(∃i,xs=[.int i]/\Q (.int i) H)\/∃k,xs=[.bl k]/\Q (.int (if k then 1 else 0)) H):=by
 intro T s Y H xs U Q I r h
 rcases h with ⟨i,rfl,q⟩|⟨k,rfl,q⟩
 ·let(u,rfl,t,rfl):=vals1 r
  show call_int_int (.int i,H,I,#[_,O],q)
 ·let(u,rfl,Z):=vals1 r
  cases Z;show call_int_bool (.int (if k then 1 else 0),H,I.tok _,#[_,O],q)
def ag5:gP X (.type "str") (λxs H Q=>∃i,xs=[.int i]/\i.natAbs.log2<1920/\Q (.str (toString i)) H):=by
 intro T s Y H xs U Q I r h;let(i,rfl,Z,q):=h;let(u,rfl,t,rfl):=vals1 r;show PySem.P.str_of_int Z (.str _,H,I.tok _,#[_,O],q)
end
structure G_ (h:Heap)(x dx C:BK)(mA:ν):Prop where
 obj:h.get? x=some (QD C dx)
 ns:h.Ns1 dx mA
 ne:dx≠x
def ab1 {h:Heap}{Y:ν}(n:h.Ns1 dx Y):∃Z,h.get? dx=some Z/\∀name,DW name Z=some (Y name):=by
 let(o,X,M,T,Q,R,_,S):=n;show(o,T,λname=>?_);let e:=S name;unfold nsFind findBy at e;rw [<-Array.find?_toList] at e;unfold DW;rw [Q];dsimp only;split
 ·rename_i y q
  rw [q] at e;show pU some e
 ·rename_i q
  rw [q] at e
  let a:X.toList.any (·.refKey)=false:=by
   rw [akm];intro y U;let(z,t,N):=R y (Array.mem_toList_iff.mp U);simp [DictEntry.refKey,N]
  let P:¬ X.toList.any (·.refKey)=true:=by rw [a];show N9
  rw [mQ P];show pU some e
def G_.look (I:G_ h x dx C mA):∃Z,PySem.W.InstAt h x (QD C dx) C (some Z)/\∀name,DW name Z=some (mA name):=
 let ⟨Z,Y,X⟩:=ab1 I.ns
 (Z,(I.obj,O,O,Y),X)
section
variable {prog:HY}{w:World}{A:JI}{E:δ}{s:DI}{K:Frag}{x dx C f:BK}{mA:ν}{name:Str}{v:Value}
def get_map {Q:δ}(X:K.In s.heap)(I:G_ s.heap x dx C mA)(T:Vn K C name=true)(U:Wf K C=true)
  (S:NT K (.ref C) name=some none) (Z:mA name=some v) (R :PySem.W.handedIn v=true) (h:Q v {s with toks:=s.toks+1}):
  CB (CL prog w) A (getAttr (.ref x) name expr) Q E s:=by
 let(P,J,Y):=I.look;show PySem.W.get_value X J (PySem.W.plainGet_of T).1 (PySem.W.findObj_own U S rfl (by rw [Y,Z])) R h
def agr (X:K.In s.heap)(I:G_ s.heap x dx C mA)(Z:Vn K C name=true)
  (R:NT K (.ref C) name=some (some (.ref f))) (T:vp K (.ref f)=true) (U:mA name=none) (h:Q (.ref f,[.ref x]) s):
  CB (CL prog w) A (getMethod (.ref x) name pl) Q E s:=by
 let(Y,J,S):=I.look;show PySem.W.method_fn X J (PySem.W.plainGet_of Z).1 (PySem.W.plainGet_of Z).2 R (beq_iff_eq.mp T) (by change (DW name Y).map (·.isSome)=some false;rw [S,U];rfl) h
def ahv {T:ς}(X:K.In s.heap)(I:G_ s.heap x dx C mA)
  (L:NT K (.ref C) "__setattr__"=some (some (.builtin "object.__setattr__"))) (H:ZN K C=true) (M:PySem.W.takerIn K C name=some none) (G:Wf K C=true)
  (N:PySem.Within mA T) (hsz:T.length<=DC)
  (h:∀h',G_ h' x dx C (λy=>if y=name then some v else mA y)->R_ dx s.heap h' ->Q () {s with heap:=h',toks:=s.toks+2}):
  CB (CL prog w) A (setAttr (.ref x) name v) Q E s:=by
 let(q,J,o):=I.look;show PySem.W.set_plain X J L (PySem.W.osa_open (s:={s with toks:=s.toks+1}) (r:=none) X J H M λb=>?_);let(m,D,u):=PySem.W.any_some G;let P:s.heap.get? x=some (.ref C,some dx,.plain, #[]):=I.obj;show BL (DT (BL (BL (wpAny_loadPart P (BL (PySem.W.Looks.here (s:={s with toks:=s.toks+1}) (PySem.W.looks_clsIn X D) ?_))))));rw [u];show DT (a:=some dx) (BL (DT (BL ?_)));show wpAny_nsSet1 (s:={s with toks:=s.toks+1}) I.ns λh' S R=>?_;let(p,B,z,Z,Y,U):=S.count (PySem.Within.cons name v N);show BL (wpAny_lookBehind Z (by rw [Y];show pastItsLine_dict (EE U (by rw [NX];omega))) ?_);show DT (h _ ((R.2 _ (G' I.ne)).trans I.obj,S,I.ne) R)
def agn {R:Ρ}{vs:ο}(X:K.In s.heap)(Y:Vm K C=true)
  (U:NT K (.ref C) "__init__"=some (some (.ref f))) (T:PySem.W.typeIn K (.ref f)=some (.type "function"))
  (h:Np (CL prog w) (A.under (.builtin "type.__call__" #[.ref C::vs,kw])) (.call (.ref f) #[.ref (s.heap.objs.size+1)::vs,kw]) (PySem.W.InitBack (s.heap.objs.size+1) R)
   {s with heap:=(s.heap.push QE).push (QD C s.heap.objs.size)}):
  Np (CL prog w) A (.call (.ref C) #[vs,kw]) R s:=by
 let(S,g,d,t,os):=s;show PySem.W.make_core (PySem.W.makes_of X Y) (PySem.W.looks_findIn X U) (λZ=>PySem.W.bind_fn X Z T) (.inl rfl) h
def acm {R:Ρ}(X:K.In s.heap)(Y:Vm K C=true)
  (U:NT K (.ref C) "__init__"=some (some (.builtin "object.__init__")))
  (T:∀Z,PySem.W.Looks (CL prog w) s.heap (bindSpecial (.builtin "object.__init__") Z) (.builtin "object.__init__",[Z]))
  (h:Np (CL prog w) (A.under (.builtin "type.__call__" #[[.ref C],[]])) (.call (.builtin "object.__init__") #[[.ref (s.heap.objs.size+1)],[]]) (PySem.W.InitBack (s.heap.objs.size+1) R)
   {s with heap:=(s.heap.push QE).push (QD C s.heap.objs.size)}):
  Np (CL prog w) A (.call (.ref C) #[[],[]]) R s:=by
 let(S,g,d,t,os):=s;show PySem.W.make_core (PySem.W.makes_of X Y) (PySem.W.looks_findIn X U) T (.inr #[O,O]) h
end
def f_ (f:Str)(v:V):List (Str×V)->List (Str×V)
 | []=>[(f,v)]
 | (g,x)::r=>if g=f then (g,v)::r else (g,x)::f_ f v r
theorem ra (f g:Str)(v:V):∀X:List (Str×V),(f_ f v X).lookup g=if g=f then some v else X.lookup g
 | []=>by
  change RA g [(f,v)]=_;by_cases h:g=f
  ·let Z:(g==f)=true:=beq_iff_eq.mpr h
   simp only [RA,Z,ox h]
  ·let Z:(g==f)=false:=beq_eq_false_iff_ne.mpr h
   simp only [RA,Z,mQ h]
 | (k,x)::r=>by
  let U:=ra f g v r;rw [show f_ f v ((k,x)::r)=(if k=f then (k,v)::r else (k,x)::f_ f v r) from rfl];by_cases Y:k=f
  ·rw [ox Y]
   by_cases h:g=k
   ·let Z:(g==k)=true:=beq_iff_eq.mpr h
    simp only [RA,Z,ox (h.trans Y)]
   ·let Z:(g==k)=false:=beq_eq_false_iff_ne.mpr h
    simp only [RA,Z,mQ (λe:g=f=>h (e.trans Y.symm))]
  ·rw [mQ Y]
   by_cases h:g=k
   ·let Z:(g==k)=true:=beq_iff_eq.mpr h
    simp only [RA,Z,mQ (λe:g=f=>Y (h.symm.trans e))]
   ·let Z:(g==k)=false:=beq_eq_false_iff_ne.mpr h
    simp only [RA,Z];show U
theorem qh (f:Str)(v:V):∀Y:List (Str×V),f∈(f_ f v Y).map (·.1)/\∀g,g∈Y.map (·.1)->g∈(f_ f v Y).map (·.1)
 | []=>#[by simp [f_],λg h=>by simp at h]
 | (k,x)::r=>by
  let(U,X):=qh f v r;rw [show f_ f v ((k,x)::r)=(if k=f then (k,v)::r else (k,x)::f_ f v r) from rfl];by_cases Z:k=f
  ·rw [ox Z]
   subst Z;show#[by simp,λg h=>by simpa using h]
  ·rw [mQ Z]
   show#[?_,λg h=>?_]
   ·rw [ED]
    show IH _ U
   ·rw [ED] at h ⊢
    rcases JP.mp h with e|e
    ·show JP.mpr (.inl e)
    ·show IH _ (X g e)
theorem rf (f:Str)(v:V):∀Y:List (Str×V),(f_ f v Y).length<=Y.length+1
 | []=>by simp [f_]
 | (k,x)::r=>by
  let X:=rf f v r;rw [show f_ f v ((k,x)::r)=(if k=f then (k,v)::r else (k,x)::f_ f v r) from rfl];by_cases Z:k=f
  ·rw [ox Z,NX,NX];omega
  ·rw [mQ Z,NX,NX];omega
def jF.some_of (r:jF (some v) o):∃u,o=some u/\RelV v u:=by
 cases o with
 | none=>show(show False from r).elim
 | some u=>show(u,O,r)
def jF.none_of (r:jF none o):o=none:=by
 cases o with
 | none=>rfl
 | some u=>show(show False from r).elim
def ahl (r:RelV v u):PySem.W.handedIn u=true:=by
 cases v with
 | cW=>cases (show u=Value.none from r);rfl
 | bl b=>cases (show u=Value.bool b from r);rfl
 | int i=>let(t,e):=(show ∃t,u=Value.int i t from r);cases e;rfl
 | str x=>let(t,e):=(show ∃t,u=Value.str x t from r);cases e;rfl
 | vy b=>let(t,e):=(show ∃t,u=Value.bytes b t from r);cases e;rfl
 | σ6 b=>let(t,e):=(show ∃t,u=Value.float b t from r);cases e;rfl
 | ref a=>cases (show u=Value.ref a from r);rfl
 | ty n=>cases (show u=Value.type n from r);rfl
section
variable {P:HY}{w:World}{H H':Hp}{h h':Heap}{a C dx:BK}{fs fs':List (Str×V)}
def sE (U:mE P w H h)(e:H a=some (.ins C dx fs)):∃Z,G_ h a dx C Z/\(∀f,jF (fs.lookup f) (Z f))/\PySem.Within Z (fs.map (·.1))/\fs.length<=1000/\H dx=some (.own a):=by
 let(d,z,X,Y,Z,n,r,q):=(show dz P w H h a (.ins C dx fs) from U a _ e);show(Z,(Y,n,X),r,q,z,d)
end
structure BW (K:Frag)(C:BK):Prop where
 pg:Vn K C Str.empty=true
 hd:Wf K C=true
 po:ZN K C=true
 sa:NT K (.ref C) "__setattr__"=some (some (.builtin "object.__setattr__"))
def BW.get {K:Frag}(c:BW K C)(f:Str):Vn K C f=true:=c.pg
def iI (K:Frag)(C:BK)(f:Str):Prop:=NT K (.ref C) f=some none
def iI.acM {K:Frag}(n:iI K C f):PySem.W.takerIn K C f=some none:=by
 unfold PySem.W.takerIn;rw [show NT K (.ref C) f=some none from n];rfl
structure Meth (K:Frag)(C:BK)(m:Str)(f:BK):Prop where
 at_:NT K (.ref C) m=some (some (.ref f))
 fn:vp K (.ref f)=true
 kp:keepIn K (.ref f)=true
section
variable {X:Cx}{pX:ζ}{Y:St}{H:Hp}{s:DI}{a C dx:BK}{fs:List (Str×V)}{f:Str}{v:V}{A:JI}{E:δ}
def abU {Q:δ}(I:Inv X pX Y H s)(e:H a=some (.ins C dx fs))(c:BW X.K C)(n:iI X.K C f)(l:fs.lookup f=some v)
  (h:∀u U,Inv X pX Y H U ->RelV v u->Q u U):CB (CL X.prog X.w) A (getAttr (.ref a) f b) Q E s:=by
 let(S,Z,r,_,_,_):=sE I.bO e;let(u,R,T):=jF.some_of (v:=v) (o:=S f) (by rw [<-l];show r f);show get_map I.mR Z (c.get f) c.hd n R (ahl T) (h u _ (I.tok _) T)
def mV (I:Inv X pX Y H s)(e:H a=some (.ins C dx fs))(c:BW X.K C)(k:Meth X.K C m g)(l:fs.lookup m=none)
  (h:Q (.ref g,[.ref a]) s):CB (CL X.prog X.w) A (getMethod (.ref a) m pl) Q E s:=by
 let(U,Z,r,_,_,_):=sE I.bO e;let T:U m=none:=jF.none_of (by rw [<-l];show r m);show agr I.mR Z (c.get m) k.at_ k.fn T h
def acg (I:Inv X pX Y H s)(e:H a=some (.ins C dx fs))(c:BW X.K C)(n:iI X.K C f)(m:fs.length<1000)(p:RelV y u)
  (h:∀S,Inv X pX Y (upd H a (.ins C dx (f_ f y fs))) S ->Q () S):CB (CL X.prog X.w) A (setAttr (.ref a) f u) Q E s:=by
 let(R,Z,r,T,_,M):=sE I.bO e;let N:(fs.map (·.1)).length<=DC:=by rw [be,sizeLine_eq];omega
 show ahv I.mR Z c.sa c.po n.acM c.hd T N λD U P=>h _ ?_;let J:∃o,D.get? dx=some o:=let ⟨o,_,_,B,_⟩:=U.ns;#[o,B];show I.write (x:=a) (e:=dx) (by rw [e];show True.intro) (.inr M) (λb q G z=>(P.2 b G).trans z) J ?_;show(by rwa [aj Z.ne],?_,Z.ne,U.obj,_,U.ns,λg=>?_,λg L=>?_)
 ·have:=rf f y fs;omega
 ·change jF ((f_ f y fs).lookup g) (if g=f then some u else R g)
  rw [ra];by_cases q:g=f
  ·rwa [ox q,ox q]
  ·rw [mQ q,mQ q];show r g
 ·by_cases q:g=f
  ·rw [q];show(qh f y fs).1
  ·show(qh f y fs).2 g (T g λz=>L ?_)
   change (if g=f then some u else R g)=none;rwa [mQ q]
def Inv.made (I:Inv X pX Y H s):Inv X pX Y (upd (upd H s.heap.objs.size (.own (s.heap.objs.size+1))) (s.heap.objs.size+1) (.ins C s.heap.objs.size []))
  {s with heap:=(s.heap.push QE).push (QD C s.heap.objs.size)}:=by
 let U:(s.heap.push QE).get? s.heap.objs.size=some QE:=JO s.heap rfl
 let Q:((s.heap.push QE).push (QD C s.heap.objs.size)).get? (s.heap.objs.size+1)=some (QD C s.heap.objs.size):=by
  have:=JO (s.heap.push QE) (o:=QD C s.heap.objs.size) rfl
  rwa [Pk] at this
 let R:(s.heap.push QE).Ns s.heap.objs.size (λ_=>none):=(QE, #[],_,U,O,(λe S=>DQ S fD),λ_=>O);let P:=I.laid (a:=s.heap.objs.size) (o:=.own (s.heap.objs.size+1)) (h':=s.heap.push QE) (t':=s.toks) (λb u q=>GY _ q) (DH _) #[_,U];show P.laid (a:=s.heap.objs.size+1) (o:=.ins C s.heap.objs.size []) (t':=s.toks) (λb u q=>GY _ q) (LF (Pk _ _)) ?_;let Z:s.heap.objs.size≠s.heap.objs.size+1:=N8 (QW _);show(by rw [aj Z,ak],NF _,Z,Q,λ_=>none,(Heap.Ns1.of_empty R).at λo q=>GY _ q,λ_=>True.intro,λy T=>DQ rfl T)
def ahu {Q:δ}(U:VC e f env (EI e env)=EI e env)
  (h:CB (CL prog w) A (EI e env) (λo Z=>CB (CL prog w) A (getAttr o f true) Q E Z) E s):CB (CL prog w) A (EI (.Attribute e f pos) env) Q E s:=
 Attribute_any_ h (by rw [arm_eval_Attribute,U])
end
inductive XT (K:Frag)(f:Str)(Q:VK)(x:V)(Y:Hp):Prop
|mk (a C X Z v:_)(_:x=.ref a)(_:Y a=some (.ins C X Z))(_:BW K C)(_:iI K C f)(_:Z.lookup f=some v)(_:Q v Y)
def akH (K:Frag)(Z:TE)(f:Str):TE:=λY H Q=>Z Y H λx X=>XT K f Q x X
inductive XU (K:Frag)(f:Str)(D:Ends)(Y:St)(y:V)(x:V)(U:Hp):Prop
|mk (a C X Z:_)(_:x=.ref a)(_:U a=some (.ins C X Z))(_:BW K C)(_:iI K C f)(_:Z.length<1000)(_:D.nx Y (upd U a (.ins C X (f_ f y Z))))
def akI (K:Frag)(X Z:TE)(f:Str):TS:=λD Y H=>Z Y H λy T=>X Y T λx U=>XU K f D Y y x U
section
variable {X:Cx}{o e value:Expr}{f:Str}{pos pos' x6:Pos}{ta tv:TE}
def dQ (S:PE X e ta)(R:VC e f X.env (EI e X.env)=EI e X.env):PE X (.Attribute e f pos) (akH X.K ta f):=by
 intro T s Y H Q I h;show ahu R (cK (S T s Y H _ I h) λu D ⟨x,J,L,Z,a,C,A,B,v,P,N,c,n,l,q⟩=>?_);subst P;obtain rfl:u=Value.ref a:=Z;show abU L N c n l λG E M U=>(v,J,M,U,q)
def x8 (M:PE X o ta)(P:PE X value tv)(N:Rx value (some (.Attribute o f pos')) pos.line X.env=pure false):PS X (.Assign [.Attribute o f pos'] value pos) (akI X.K ta tv f):=by
 intro Z s Y H D I h;show plainObj_wpAny_Assign_Attribute (cK (P Z s Y H _ I h) λu U ⟨y,A,B,T,q⟩=>cK (M Z U Y A _ B q) λQ w ⟨x,k,E,S,a,C,m,p,L,J,c,n,l,R⟩=>?_) N;subst L;obtain rfl:Q=Value.ref a:=S;show acg E J c n l T λz G=>(Y,_,G,R)
end
section
variable {X:Cx}{pX:ζ}{Y:St}{H:Hp}{s:DI}{A:JI}{E:δ}{Q:δ}{c:Value}{b:Bool}
inductive qi (K:Frag)(H:Hp):V->Value->Prop where
 | cW:qi K H .cW (.type "NoneType")
 | bl (x:Bool):qi K H (.bl x) (.type "bool")
 | int (i:Int):qi K H (.int i) (.type "int")
 | str (x:Str):qi K H (.str x) (.type "str")
 | σ6 (x:UInt64):qi K H (.σ6 x) (.type "float")
 | lst {a:BK} {xs:ε} (e:H a=some (.lst xs)):qi K H (.ref a) (.type "list")
 | eR {a:BK} {o:Obj} {xs:ε} (e:H a=some (.eR o (.lst xs))):qi K H (.ref a) (.type "list")
 | tup {a:BK} {xs:ε} (e:H a=some (.tup xs)):qi K H (.ref a) (.type "tuple")
 | dK {a:BK} {AP:γ} (e:H a=some (.dK AP)):qi K H (.ref a) (.type "dict")
 | dT {a:BK} {AP:Τ} (e:H a=some (.dT AP)):qi K H (.ref a) (.type "dict")
 | ins {a C T:BK} {U:List (Str×V)} (e:H a=some (.ins C T U)) (N:BW K C) (P:NT K (.ref C) "__class__"=some (some (.builtin "object.__class__")))
   (S:PySem.W.specialIn K (.builtin "object.__class__") "__get__"=some (some (.builtin "getset_descriptor.__get__"))) (Z:PySem.W.takesIn K (.builtin "object.__class__")=some true)
   (R:PySem.W.mroIn K C (.type "object")=some true):qi K H (.ref a) (.ref C)
def agN (I:Inv X pX Y H s)(U:RelV x u)(ty:qi X.K H x t)(e:Pj X.K t c=some b)(h:∀L,Q (.bool b) {s with toks:=L}):
  CB (CL X.prog X.w) A (call (.builtin "isinstance") [u,c]) Q E s:=by
 cases ty with
 | cW=>cases (show u=Value.none from U);show Qv PySem.W.kitx_none I.mR True.intro e (λz=>nomatch z) h
 | bl y=>cases (show u=Value.bool y from U);show Qv PySem.W.kitx_bool I.mR True.intro e (λz=>nomatch z) h
 | int i=>let(t,q):=(show ∃t,u=Value.int i t from U);cases q;show Qv PySem.W.kitx_int I.mR True.intro e (λz=>nomatch z) h
 | str y=>let(t,q):=(show ∃t,u=Value.str y t from U);cases q;show Qv PySem.W.kitx_str I.mR True.intro e (λz=>nomatch z) h
 | σ6 y=>let(t,q):=(show ∃t,u=Value.float y t from U);cases q;show Qv PySem.W.kitx_float I.mR True.intro e (λz=>nomatch z) h
 | @lst a xs T=>
  cases (show u=Value.ref a from U);let(_,_,n,_,S):=(show dz X.prog X.w H s.heap a (.lst xs) from I.bO a _ T);show Qv PySem.W.kitx_list I.mR (_,S,O) e (λz=>nomatch z) h
 | @eR a G xs T=>
  cases (show u=Value.ref a from U);let(_,_,_,n,_,S):=(show dz X.prog X.w H s.heap a (.eR G (.lst xs)) from I.bO a _ T);show Qv PySem.W.kitx_list I.mR (_,S,O) e (λz=>nomatch z) h
 | @tup a xs T=>
  cases (show u=Value.ref a from U);let(_,_,_,p):=(show dz X.prog X.w H s.heap a (.tup xs) from I.bO a _ T);let(o,S,R,_):=p;show Qv PySem.W.kitx_tuple I.mR (o,S,R) e (λz=>nomatch z) h
 | @dK a N T=>
  cases (show u=Value.ref a from U);let(_,_,g,_,p):=(show dz X.prog X.w H s.heap a (.dK N) from I.bO a _ T);let(o,k,j,S,R,_):=p;show Qv PySem.W.kitx_dict I.mR (o,S,R.1) e (λz=>nomatch z) h
 | @dT a N T=>
  cases (show u=Value.ref a from U);let(_,_,xs,_,o,k,j,S,R,_):=(show dz X.prog X.w H s.heap a (.dT N) from I.bO a _ T);show Qv PySem.W.kitx_dict I.mR (o,S,R.1) e (λz=>nomatch z) h
 | @ins a C dx fs T M m D P B=>
  cases (show u=Value.ref a from U);let(mA,Z,_):=sE I.bO T;let(f,J,_):=Z.look;show Qv (PySem.W.kitx_own (M.get _) M.hd m D P B) I.mR J e (λz=>nomatch z) h
end
structure cQ (k:Nat)(A:JI):Prop where
 hd:A.handled=none
 dp:A.depth+3*k+5<DS
 un:A.units+16*k+200<NS
def cQ.mono (r:cQ k A)(h:j<=k):cQ j A:=(r.hd,by have:=r.dp;omega,by have:=r.un;omega)
theorem cQ.deeper (r:cQ (k+1) A)(Z:Env):cQ k (A.deeper Z):=
 (r.hd,by have:=r.dp;change A.depth+1+3*k+5<_;omega,by have:=r.un;change A.units+3+16*k+200<_;omega)
def abr {A:JI}{us:ο}:(A.under (.builtin "type.__call__" #[.ref C::us,kw])).depth=A.depth+1:=by
 first|rfl|simp [Around.under,Code.weight,Code.isCreation,Code.isGuard,Code.isCaller,Code.frames,Code.isFrame,guardIds]
def abm {A:JI}{us:ο}:(A.under (.builtin "type.__call__" #[.ref C::us,kw])).units=A.units+1:=by
 first|rfl|simp [Around.under,Code.cUnits,Code.frames,Code.isFrame]
def cQ.make (r:cQ (k+1) A)(C:BK)(us:ο)(Z:List (Str×Value)):cQ k (A.under (.builtin "type.__call__" #[.ref C::us,Z])):=
 (r.hd,by have:=r.dp;rw [abr];omega,by have:=r.un;rw [abm];omega)
theorem cQ.depth (r:cQ k A):A.depth<DS:=by have:=r.dp;omega
theorem cQ.units (r:cQ k A):A.units+64<NS:=by have:=r.un;omega
def gQ:TA:=λ_ H Q=>Q [] H
def rg (X:TE)(Z:TA):TA:=λY H Q=>X Y H λx T=>Z Y T λxs U=>Q (x::xs) U
section
variable {X:Cx}{e:Expr}{es:Ε}{te:TE}{t:TA}{pos:Pos}
def mW:PA X [] gQ:=λ_ _ _ _ H Q I h=>Mb ([],H,I,.nil,h)
def ahc (L:PE X e te)(M:PA X es t)(N:HE (e::es) X.env=(false,EI e X.env)::HE es X.env:=by rfl):PA X (e::es) (rg te t):=by
 intro pos Z s Y H Q I h;rw [N];change CB _ _ (spliced ((false,EI e X.env)::NK pos (HE es X.env))) _ _ s;show ZQ (cK (L Z s Y H _ I h) λu U ⟨x,D,G,S,P⟩=>?_);show cK (M pos Z U Y D _ G P) λC B ⟨xs,E,J,T,R⟩=>(x::xs,E,J,.cons S T,R)
def akJ (t:TA):TE:=λY H Q=>t Y H λxs Z=>xs.length<=DC/\∀p,Z p=none->Q (.ref p) (upd Z p (.tup xs))
def akK (t:TA):TE:=λY H Q=>t Y H λxs Z=>xs.length<=DC/\∀p,Z p=none->Q (.ref p) (upd Z p (.lst xs))
def aS (h:PA X es t):PE X (.Tuple es x1 pos) (akJ t):=by
 intro R s Y H Q I P;show wpAny_Tuple_spliced (cK (h pos R s Y H _ I P) λS Z ⟨xs,T,U,r,z,q⟩=>#[by rwa [<-r.length],?_]);let N:T Z.heap.objs.size=none:=U.bO.fresh (DH _);show(.ref Z.heap.objs.size,upd T Z.heap.objs.size (.tup xs),U.laid (t':=Z.toks) (λb u e=>GY _ e) (DH _) ?_,O,q _ N);show(z,S,r,(_,JO _ rfl,O,_,O))
def bY (h:PA X es t):PE X (.List es pos) (akK t):=by
 intro R s Y H Q I P;show wpAny_List_spliced (cK (h pos R s Y H _ I P) λS Z ⟨xs,T,U,r,z,q⟩=>#[by rwa [<-r.length],?_]);let N:T Z.heap.objs.size=none:=U.bO.fresh (DH _);show(.ref Z.heap.objs.size,upd T Z.heap.objs.size (.lst xs),U.laid (t':=Z.toks) (λb u e=>GY _ e) (DH _) ?_,O,q _ N);show(z,S,0,r,JO _ rfl)
end
abbrev Sp:=List V->Hp->VK->XK->Prop
abbrev oh:=List Env->Hp->DI->XK->Value->DI->Prop
structure HH (P:HY)(w:World)(K:Frag)(mg:ν)(lM:Heap)(A:JI)(mO:List Env)(s:DI)(H:Hp):Prop where
 frames:A.frames=some mO
 mod:Mod K mg lM
 bs:∀b o,lM.get? b=some o->s.heap.get? b=some o/\H b=none
 UY:lM.objs.size<=s.heap.objs.size
 rW:s.heap.FunFrames lM mO
 σ9:∀b∈KU mO,H b=none
 bO:mE P w H s.heap
 bare:SR s.gens
def CE (X:List Env)(P:HY)(w:World)(H:Hp)(s:DI)(Q:VK)(u:Value)(Z:DI):Prop:=
 ∃v Y,Z.os=s.os/\SR Z.gens/\Un (KU X) [] H Y s.heap Z.heap/\mE P w Y Z.heap/\RelV v u/\Q v Y
def CR (CX:oh)(Y:List Env)(P:HY)(w:World)(H:Hp)(s:DI)(Q:VK)(E:XK)(r:Result)(Z:DI):Prop:=
 match r with
 | .ok (.ret u)=>CE Y P w H s Q u Z
 | .ok _=>False
 | .error e=>CX Y H s E e Z
structure dR (P:HY)(w:World)(K:Frag)(mg:ν)(lM:Heap)(CX:oh)(k:Nat)(f:BK)(fd:FuncData)(ps:ς)(sp:Sp):Prop where
 len:∀vs H Q E,sp vs H Q E->vs.length=ps.length
 run:∀(A:JI)(mO:List Env)(s:DI)(H:Hp)(args:Args)(us:ο)(vs:ε)(Q:VK)(E:XK),cQ k A->HH P w K mg lM A mO s H->BindsTo s fd args (ps.zip us)->Vals vs us->sp vs H Q E->
  Np (CL P w) A (.call (.ref f) args) (CR CX mO P w H s Q E) s
theorem dR.mono {K:Frag}(F:dR P w K mg lM CX j f fd ps sp)(h:j<=k):
  dR P w K mg lM CX k f fd ps sp:=#[F.len,λA X s H args Y Z Q E U=>F.run A X s H args Y Z Q E (U.mono h)]
def dR.imp {K:Frag}(F:dR P w K mg lM CX k f fd ps sp)
  (h:∀vs H Q E,sp' vs H Q E->sp vs H Q E):dR P w K mg lM CX k f fd ps sp':=
 #[λvs H Q E q=>F.len vs H Q E (h _ _ _ _ q),λA Y s H args Z vs Q E T S R X U=>F.run A Y s H args Z vs Q E T S R X (h _ _ _ _ U)]
def HH.make {K:Frag}(e:HH P w K mg lM A mO s H)(C:BK)(us:ο)(Z:List (Str×Value)):
  HH P w K mg lM (A.under (.builtin "type.__call__" #[.ref C::us,Z])) mO s H:=(by first|show e.frames|(simpa [Around.under,Code.envs,Code.isFrame,pushEnvs] using e.frames),e.mod,e.bs,e.UY,e.rW,e.σ9,e.bO,e.bare)
section
variable {X:Cx}{pX:ζ}{Y:St}{H:Hp}{s s':DI}
def Inv.acN (I:Inv X pX Y H s):HH X.prog X.w X.K X.mg X.lM X.A X.stack s H:=
 (I.ok.frames,I.ok.mod,I.bs,EE I.ok.UY I.sz,I.stack,I.KW,I.bO,I.bare)
def Inv.after (I:Inv X pX Y H s)(h:CE X.stack X.prog X.w H s Q u s'):EP X pX Y Q u s':=by
 let(v,P,os,Z,T,R,r,q):=h;let(S,g,d,t,U):=s';obtain rfl:U=s.os:=os;show(v,P,I.call (h':=S) (g':=g) (d':=d) (t':=t) (ch:=[]) T R Z (λb z=>DQ z fD),r,q)
end
def Lw (X:Sp)(so:ε)(E:XK)(t:TA):TE:=λY H Q=>t Y H λZ U=>X (Z++so) U Q E
def XW (C:BK)(T:Sp)(so:ε)(E:XK)(t:TA):TE:=λY H Q=>t Y H λU X=>∀x Z,X x=none->X Z=none->Z≠x->
 T (.ref x::(U++so)) (upd (upd X Z (.own x)) x (.ins C Z [])) (λv S=>v=.cW/\Q (.ref x) S) E
def Binds (K:Frag)(X:FuncData)(ps:ς)(Y:ο):Prop:=
 ∀(s:DI)(Z:ο),K.In s.heap->(Z++Y).length=ps.length->BindsTo s X #[Z,[]] (ps.zip (Z++Y))
def Binds.all {K:Frag}(h:∀us:List Value,us.length=ps.length->bindArgs fd #[us,[]]=pure (ps.zip us)):Binds K fd ps []:=λs us _ Z=>by
 rw [Wn] at Z ⊢;show .of_eq (h us Z)
def Passes (CX:oh)(X:Cx)(E:XK):Prop:=∀(U:ζ)(Y:St)(H:Hp)(s:DI)(e:Value)(Z:DI),Inv X U Y H s->CX X.stack H s E e Z ->X.xe e Z
section
variable {X:Cx}{CX:oh}{k:Nat}{f C:BK}{fd:FuncData}{ps:ς}{sp:Sp}{so:ε}{ds:ο}{E:XK}{x m:Str}{p pos apos:Pos}{e o:Expr}{es:Ε}{ta:TE}{t:TA}
def x9 {Y:St}{us:ο}{vs:ε}(F:dR X.prog X.w X.K X.mg X.lM CX k f fd ps sp)(R:cQ k X.A)(M:Binds X.K fd ps ds)(N:Vals so ds)(S:Passes CX X E)
  (I:Inv X pX Y H s) (r:Vals vs us) (h:sp (vs++so) H Q E):CB (CL X.prog X.w) X.A (call (.ref f) us) (EP X pX Y Q) X.xe s:=by
 let U:Vals (vs++so) (us++ds):=r.append N;let P:(us++ds).length=ps.length:=by rw [<-U.length];show F.len _ _ _ _ h
 show wpAny_call (codeAny_mono (F.run X.A X.stack s H #[us,[]] (us++ds) (vs++so) Q E R I.acN (M s us I.mR P) U h) λr T Z=>?_);cases r with
 | error e=>show S pX Y H s e T I Z
 | ok L=>
  cases L with
  | ret u=>show I.after Z
  | next=>show False.elim Z
  | brk=>show False.elim Z
  | cont=>show False.elim Z
def agy (F:dR X.prog X.w X.K X.mg X.lM CX k f fd ps sp)(P:cQ k X.A)(L:Gl X x)(N:X.mg x=some (.ref f))(M:keepIn X.K (.ref f)=true)(D:Binds X.K fd ps ds)(G:Vals so ds)(R:Passes CX X E)
  (B:PA X (e::es) t) (U:(x==("__debug__":Str))=false:=by decide) (J:HE (e::es) X.env=(false,EI e X.env)::HE es X.env:=by rfl) (T:(NK pos (HE es X.env)).any (·.1)=false:=by rfl):
  PE X (.Call (.Name x p) (e::es) [] pos) (Lw sp so E t):=by
 intro S s Y H Q I h;show ZP (nX I L N ?_ U);show Me (h₀:=X.lM) I.ok.mod.kin M (cK (B pos S s Y H _ I h) λy u ⟨z,j,Z,r,q⟩=>#[Z.mR,?_]) J T;show x9 F P D G R Z r q
structure Mk (K:Frag)(C f:BK):Prop where
 makes:Vm K C=true
 init:NT K (.ref C) "__init__"=some (some (.ref f))
 fn:vp K (.ref f)=true
 kp:keepIn K (.ref C)=true
def zao {Y:St}{us:ο}{vs:ε}(M:Mk X.K C f)(F:dR X.prog X.w X.K X.mg X.lM CX k f fd ps sp)(G:cQ (k+1) X.A)(z:Binds X.K fd ps ds)(B:Vals so ds)
  (J:Passes CX X E) (I:Inv X pX Y H s) (r:Vals vs us)
  (h:∀x U,H x=none->H U=none->U≠x->sp (.ref x::(vs++so)) (upd (upd H U (.own x)) x (.ins C U [])) (λv j=>v=.cW/\Q (.ref x) j) E):
  CB (CL X.prog X.w) X.A (call (.ref C) us) (EP X pX Y Q) X.xe s:=by
 let R:=h (s.heap.objs.size+1) s.heap.objs.size (I.bO.fresh (vn _)) (I.bO.fresh (DH _)) (N8 (QW _));let T:=Inv.made (C:=C) I;let S:Vals (V.ref (s.heap.objs.size+1)::(vs++so)) (Value.ref (s.heap.objs.size+1)::(us++ds)):=.cons rfl (r.append B)
 let D:(Value.ref (s.heap.objs.size+1)::us++ds).length=ps.length:=by
  let e:=S.length;rw [F.len _ _ _ _ R] at e;show e.symm
 show wpAny_call (agn (f:=f) I.mR M.makes M.init (beq_iff_eq.mp M.fn) (codeAny_mono (F.run _ X.stack _ _ #[Value.ref (s.heap.objs.size+1)::us,[]] (Value.ref (s.heap.objs.size+1)::(us++ds)) _ _ E (G.make C us [])
  (T.acN.make C us []) (z _ (Value.ref (s.heap.objs.size+1)::us) T.mR D) S R) λr P Z =>?_))
 cases r with
 | error e=>show J pX Y _ _ e P T Z
 | ok y=>
  cases y with
  | ret u=>
   let(v,i,q,N,ev,L):=T.after Z;subst ev;show#[N,(V.ref (s.heap.objs.size+1),i,q,O,L)]
  | next=>show False.elim Z
  | brk=>show False.elim Z
  | cont=>show False.elim Z
def agh (M:Mk X.K C f)(F:dR X.prog X.w X.K X.mg X.lM CX k f fd ps sp)(P:cQ (k+1) X.A)(L:Gl X x)(N:X.mg x=some (.ref C))(D:Binds X.K fd ps ds)(G:Vals so ds)(R:Passes CX X E)
  (B:PA X (e::es) t) (U:(x==("__debug__":Str))=false:=by decide) (J:HE (e::es) X.env=(false,EI e X.env)::HE es X.env:=by rfl) (T:(NK pos (HE es X.env)).any (·.1)=false:=by rfl):
  PE X (.Call (.Name x p) (e::es) [] pos) (XW C sp so E t):=by
 intro S s Y H Q I h;show ZP (nX I L N ?_ U);show Me (h₀:=X.lM) I.ok.mod.kin M.kp (cK (B pos S s Y H _ I h) λy u ⟨z,j,Z,r,q⟩=>#[Z.mR,?_]) J T;show zao M F P D G R Z r q
def agZ (M:Mk X.K C f)(F:dR X.prog X.w X.K X.mg X.lM CX k f fd ps sp)(T:cQ (k+1) X.A)(R:Gl X x)(S:X.mg x=some (.ref C))(N:Binds X.K fd ps ds)(P:Vals so ds)(U:Passes CX X E)
  (Z:(x==("__debug__":Str))=false:=by decide):PE X (.Call (.Name x p) [] [] pos) (XW C sp so E gQ):=by
 intro L s Y H Q I h;show ZP (nX I R S ?_ Z);show PySem.W.callWith_K0 I.mR M.kp (zao (us:=[]) M F T N P U I .nil h)
end
structure ay (N P:ς)(sc:Scope):Prop where
 kind:sc.kind=.function
 co:sc.isCoroutine=false
 gen:sc.isGenerator=false
 nd:N.Nodup
 pre:N.take P.length=P
 par:∀x∈P,sc.names.lookup x=some .local\/sc.names.lookup x=some .cell
 Zj:∀y∈sc.names,y.2≠.free
theorem xa {QC:Str->Option NameKind}:∀{Z:List (Str×Value)} {m:ν},(∀v,(x,v)∉Z)->bindL QC Z m x=m x
 | [],_,_=>rfl
 | (n,v)::r,m,h=>by
  unfold bindL;rw [xa λw Y=>h w (IH _ Y)];split
  ·have:x≠n:=by rintro rfl;show h v IU
   simp [this]
  ·rfl
theorem xc {QC:Str->Option NameKind}:∀{Z:List (Str×Value)} {m:ν},(∀v,(x,v)∉Z)->bindC QC Z m x=m x
 | [],_,_=>rfl
 | (n,v)::r,m,h=>by
  unfold bindC;rw [xc λw Y=>h w (IH _ Y)];split
  ·rfl
  ·have:x≠n:=by rintro rfl;show h v IU
   simp [this]
theorem xf {QC:Str->Option NameKind}:∀{P:ς} {vs:ο} {i:Nat} {m:ν},P.Nodup->P[i]?=some x->vs[i]?=some v->QC x=some .local->
  bindL QC (P.zip vs) m x=some v
 | [],_,_,_,_,h,_,_=>by simp at h
 | _::_,[],_,_,_,_,h,_=>by simp at h
 | p::P,w::vs,0,m,X,Y,Z,U=>by
  simp at Y Z;subst Y;subst Z;change bindL QC ((p,w)::P.zip vs) m p=_;unfold bindL;rw [xa λv T=>(Nk.mp X).1 (ajU T).1,ox U];simp
 | p::P,w::vs,i+1,m,X,Y,Z,U=>by
  change bindL QC ((p,w)::P.zip vs) m x=_;unfold bindL;show xf (i:=i) (Nk.mp X).2 (by simpa using Y) (by simpa using Z) U
theorem xg {QC:Str->Option NameKind}:∀{P:ς} {vs:ο} {i:Nat} {m:ν},P.Nodup->P[i]?=some x->vs[i]?=some v->QC x≠some .local->
  bindC QC (P.zip vs) m x=some v
 | [],_,_,_,_,h,_,_=>by simp at h
 | _::_,[],_,_,_,_,h,_=>by simp at h
 | p::P,w::vs,0,m,X,Y,Z,U=>by
  simp at Y Z;subst Y;subst Z;change bindC QC ((p,w)::P.zip vs) m p=_;unfold bindC;rw [xc λv T=>(Nk.mp X).1 (ajU T).1,mQ U];simp
 | p::P,w::vs,i+1,m,X,Y,Z,U=>by
  change bindC QC ((p,w)::P.zip vs) m x=_;unfold bindC;show xg (i:=i) (Nk.mp X).2 (by simpa using Y) (by simpa using Z) U
def start (N:ς)(vs:ε):St:=vs.map some++IV (N.length-vs.length) none
def mi (CX:oh)(P:HY)(w:World)(K:Frag)(mg:ν)(lM:Heap)(N:ς)(Y:Str)(Z:Scope)(f:BK)(U:Value)(A:JI)(mO:List Env)(s:DI)(H:Hp)(E:XK):Cx where
 prog:=P
 w:=w
 K:=K
 mg:=mg
 lM:=lM
 A:=A.deeper (Pf Y Z s.heap.objs.size f U)
 N:=N
 pV:=s
 H₀:=H
 env:=Pf Y Z s.heap.objs.size f U
 mO:=mO
 stack:=Pf Y Z s.heap.objs.size f U::mO
 ex:=[]
 calm:=true
 fn:=λ_=>true
 pn:=[]
 xe:=λe T=>CB (CL P w) (A.deeper (Pf Y Z s.heap.objs.size f U)) (leaving (Pf Y Z s.heap.objs.size f U) e) (λ_ X=>CX mO H s E e X) (λS X=>CX mO H s E S X) T
def zah {Z:Scope}(h:Z.names.lookup x=some .cell):∃c,(cellsFrom n Z.names []).lookup x=some c:=by
 let q:=PySem.W.cellsFrom_some Z.names n [] (.inl h);show age.mp q
def agp {K:Frag}{us:ο}{vs:ε}
  (S:ay N ps scope) (G:A.handled=none) (Y:HH P w K mg lM A mO s H) (o:vs.length=ps.length) (r:Vals vs us)
  (x:InCallC s s.heap.objs.size (bindL (Pf qual scope s.heap.objs.size f cd).kindOf (ps.zip us) λ_=>none) (cellsFrom (s.heap.objs.size+1) scope.names []) (bindC (Pf qual scope s.heap.objs.size f cd).kindOf (ps.zip us) λ_=>none) s1):
  Inv (mi CX P w K mg lM N qual scope f cd A mO s H E) [] (start N vs) H s1:=by
 let B:ps.length<=N.length:=by have:=pU Ri S.pre;rw [IY] at this;omega
 let(M,C,rfl,J):=x.done;let X:∀b:BK,b∉(mi CX P w K mg lM N qual scope f cd A mO s H E).ex:=λb z=>DQ (show b∈([]:List BK) from z) fD
 show((Y.mod,S.kind,O,O,DH _,λy z c M Z=>?_,λy U=>?_,λy c _ h=>?_,λ_=>G,Around.frames_deeper Y.frames,.inr #[O,O],λb z=>DQ z (X b),Y.bs,Y.UY,λb _ _=>X b,λb z=>DQ z (X b),Y.rW,Y.σ9),
  O,Y.bare,Un.kept J,(_,x.toInCall.ns,λi y v M Z m=>?_),λy c h=>#[_,x.cell y c h],Y.bO.fresh (DH _),λy c h=>?_,λp R=>DQ (show p∈([]:List (BK×Obj)) from R) fD,Y.bO.kept J,?_)
 ·show name_of_addr x.apart (wj M) (wj Z)
 ·let U:scope.names.lookup y=some .cell\/scope.names.lookup y=some .free:=U
  rcases U with U|U
  ·show zah U
  ·show DQ rfl (S.Zj _ (wj U))
 ·show QM (x.above y c (wj h))
 ·let Q:i<vs.length:=by
   unfold start at Z;by_cases Q:i<vs.length
   ·show Q
   ·rw [NQ (by simpa using Q)] at Z
    rw [VN] at Z;split at Z<;>cases Z
  let D:vs[i]?=some v:=by
   unfold start at Z;rw [NG (by simpa using Q),CP] at Z;cases e:vs[i]? with
   | none=>erw [e] at Z
   | some a=>erw [e] at Z;rfl
  let(u,L,I):=r.get D
  let R:ps[i]?=some y:=by
   rwa [<-S.pre,Vs ce]
  let T:ps.Nodup:=by rw [<-S.pre];show S.nd.sublist (List.take_sublist _ _)
  show(u,I,?_)
  rcases S.par y (Wp R) with k|k
  ·show .inl #[k,xf T R L k]
  ·let(c,e):=zah (n:=s.heap.objs.size+1) k
   show .inr (.inl k,c,e,?_);let q:=x.cell y c e;rw [xg T R L (by change scope.names.lookup y≠_;rw [k];decide)] at q;show q
 ·show Y.bO.fresh (QM (x.above y c (wj h)))
 ·unfold start
  change _=N.length;rw [HI,be,Rp];omega
def Ly {K:Frag}{g kV L i Y c oc:Value}{a od:Κ}
  {vL:Μ}   (lk:K.lookup f=some (oc,od,.func (fnOf name qual params body scope g kV L i a Y c),vL)) (vR:codeIn K Y qual=true) (S:ay N ps scope)
  (T:∀vs H Q E,sp vs H Q E->vs.length=ps.length)
  (iJ:∀(A:JI)(X:List Env)(s:DI)(H:Hp)(vs:ε)(Q:VK)(E:XK),cQ k (A.deeper (Pf qual scope s.heap.objs.size f Y))->sp vs H Q E->
   ∃t,rV (mi CX P w K mg lM N qual scope f Y A X s H E) body t/\t {nx:=λ_ Z=>Q .cW Z,rt:=Q} (start N vs) H):
  dR P w K mg lM CX (k+1) f (fnOf name qual params body scope g kV L i a Y c) ps sp:=by
 show#[T,λA X s H args us vs Q E z M hb r m=>?_];let hl:=T _ _ _ _ m;let KX:K.In s.heap:=M.mod.kin.keeps λb o e=>(M.bs b o e).1;let B:s.heap.NoLimit:=M.mod.nolimit.keeps λb o e=>(M.bs b o e).1
 let p:∀y∈ps.zip us,scope.names.lookup y.1=some .local\/(scope.names.lookup y.1=some .cell/\((cellsFrom (s.heap.objs.size+1) scope.names []).lookup y.1).isSome=true):=λ⟨n,v⟩ hy=>by
  rcases S.par n (ajU hy).1 with q|q
  ·show .inl q
  ·show .inr #[q,PySem.W.cellsFrom_some _ _ _ (.inl q)]
 show codeAny_call_function z.depth (KX _ _ lk) rfl S.co S.gen rfl (PySem.W.codeRec_of KX vR) (hb _ _ _ _ ?_);show wpAny_newFunctionEnv_cells S.kind p λenv he j x=>?_;subst he;show#[B.keeps x.toInCall.keep,codeAny_func ?_];let(t,ht,hq):=iJ A X s H vs Q E (z.deeper _) m;let I:Inv (mi CX P w K mg lM N qual scope f Y A X s H E) [] (start N vs) H j:=agp S z.hd M hl r x;show NZ (ht [] j (start N vs) H _ I hq) (λfl D U=>?_) λe D U=>U
 let R:∀{G :St} {Z:Hp} {v:V} {u:Value},Inv (mi CX P w K mg lM N qual scope f Y A X s H E) [] G Z D ->RelV v u->Q v Z ->CE X P w H s Q u D:=
  λ{G Z v u} J C q=>(v,Z,J.os,J.bare,J.lM,J.bO,C,q)
 cases fl with
 | ret u=>
  let(v,G,Z,J,C,q):=U;show R J C q
 | next=>
  let(G,Z,J,q):=U;show R (v:=V.cW) (u:=Value.none) J rfl q
 | brk=>
  let(_,_,_,q):=U;show False.elim q
 | cont=>
  let(_,_,_,q):=U;show False.elim q
section
variable {X:Cx}{x:Str}{p pos:Pos}{e:Expr}{es:Ε}{t:TA}{id T:String}{r:List V->Hp->VK->Prop}
def tCB (r:List V->Hp->VK->Prop)(t:TA):TE:=λY H Q=>t Y H λZ U=>r Z U Q
def aJ (B:gP X (.builtin id) r)(D:Gl X x)(E:X.mg x=none)(J:NW x=some (.builtin id))(A:PA X (e::es) t)(G:x≠ "__name__":=by decide)(S:(x==("__debug__":Str))=false:=by decide)
  (C:HE (e::es) X.env=(false,EI e X.env)::HE es X.env:=by rfl) (N:(NK pos (HE es X.env)).any (·.1)=false:=by rfl):PE X (.Call (.Name x p) (e::es) [] pos) (tCB r t):=by
 intro Z s Y H Q I h;show ZP (jG I D E J ?_ G S);show PyProof.Rows.callWith_builtin1 (cK (A pos Z s Y H _ I h) λR P ⟨U,y,z,M,L⟩=>B Z P Y y U R Q z M L) C N
def cv (B:gP X (.type T) r)(D:Gl X x)(E:X.mg x=none)(J:NW x=some (.type T))(A:PA X (e::es) t)(G:x≠ "__name__":=by decide)(S:(x==("__debug__":Str))=false:=by decide)
  (C:HE (e::es) X.env=(false,EI e X.env)::HE es X.env:=by rfl) (N:(NK pos (HE es X.env)).any (·.1)=false:=by rfl):PE X (.Call (.Name x p) (e::es) [] pos) (tCB r t):=by
 intro Z s Y H Q I h;show ZP (jG I D E J ?_ G S);show We (cK (A pos Z s Y H _ I h) λR P ⟨U,y,z,M,L⟩=>B Z P Y y U R Q z M L) C N
end
end L2
namespace HT
open PySem PyProof.Rows
section
variable {prog:HY}{w:World}{A:JI}{E:δ}{s:DI}
def fZ (n d:Nat):Option Int->Nat
 | none=>d
 | some v=>if v<0 then (v+(n:Int)).toNat else min v.toNat n
def BZ (n d:Nat):fZ n d none=d:=rfl
def sG (n d k:Nat):fZ n d (some (k:Int))=min k n:=by
 change (if (k:Int)<0 then ((k:Int)+(n:Int)).toNat else min (k:Int).toNat n)=min k n;rw [mQ ce,MM]
def aeU (n d:Nat)(Y:d<=n)(o:Υ):fZ n d o<=n:=by
 cases o with
 | none=>show Y
 | some v=>
  change (if v<0 then (v+(n:Int)).toNat else min v.toNat n)<=n;by_cases Z:v<0
  ·rw [ox Z];omega
  ·rw [mQ Z];show Nat.min_le_right _ _
def ahh (v:Int)(n d:Nat):(if v<0 then max (v+(n:Int)) 0 else min v (n:Int))=((fZ n d (some v):Nat):Int):=by
 change (if v<0 then max (v+(n:Int)) 0 else min v (n:Int))=(((if v<0 then (v+(n:Int)).toNat else min v.toNat n):Nat):Int);by_cases Z:v<0
 ·simp only [ox Z];omega
 ·simp only [mQ Z];omega
def aav (lo Z:Υ)(n:Nat):Builtin.Slice.sliceAdjust lo Z 1 (n:Int)=(((fZ n 0 lo:Nat):Int),((fZ n n Z:Nat):Int)):=by
 let Y:¬ ((1:Int)<0):=ce
 unfold Builtin.Slice.sliceAdjust;simp only [Y,if_false];show V5 ?_ ?_
 ·cases lo with
  | none=>rfl
  | some v=>show ahh v n 0
 ·cases Z with
  | none=>rfl
  | some v=>show ahh v n n
def acD (i j:Nat):Mv (i:Int) (j:Int) 1=j-i:=by
 unfold Mv;let Z:(1:Int) > 0:=ce
 simp only [Z,if_true,Int.ediv_one];split<;>omega
def tR {o:Υ}(p:IsPart v o)(h:Q o s):CB (CL prog w) A (Builtin.Slice.slicePartIndex v) Q E s:=by
 cases p with
 | none=>show slicePart_none h
 | int i t=>show slicePart_int h
def zas {lo Y:Υ}{Q:Int×Int×Nat->DI->Prop}(T:s.heap.IsSliceOf sl vl vu .none)(pl:IsPart vl lo)(U:IsPart vu Y)
  (h:Q (((fZ n 0 lo:Nat):Int),(1,fZ n n Y-fZ n 0 lo)) s):CB (CL prog w) A (Builtin.Slice.sliceApplied (.ref sl) (pure (n:Int))) Q E s:=by
 let(os,Z,S,X):=id T;unfold Builtin.Slice.sliceApplied Builtin.Slice.sliceFields;show BL (BL (Nv Z X (x:=vl) rfl (BL (Nv Z X (x:=vu) rfl (BL (Nv Z X (x:=.none) rfl (DT ?_)))))));show BL (slicePart_none ?_);change CB _ _ (if ((1:Int)==0)=true then _ else _) _ _ s;rw [mQ cr];show BL (tR pl (BL (tR U (BL (DT ?_)))));change CB _ _ (match Builtin.Slice.sliceAdjust lo Y 1 (n:Int) with|(lo,Y)=>pure (lo,((1:Int),Mv lo Y 1))) _ _ s;rw [aav lo Y n];change CB _ _ (pure (((fZ n 0 lo:Nat):Int),((1:Int),Mv ((fZ n 0 lo:Nat):Int) ((fZ n n Y:Nat):Int) 1))) _ _ s;rw [acD];show DT h
def acP (xs:Η)(i k:Nat):((JJ k).filterMap λ(m:Nat)=>xs[((i:Int)+(m:Int)*1).toNat]?).toArray=((xs.toList.drop i).take k).toArray:=by
 let e:(λ(m:Nat)=>xs[((i:Int)+(m:Int)*1).toNat]?)=λm=>xs[i+m]? :=by
  funext m;have:((i:Int)+(m:Int)*1).toNat=i+m:=ce
  rw [this]
 rw [e];have:=pick_run xs i k;rw [List.filterMap_map] at this;let Z:((λx=>xs[x]?) ∘ λx=>i+x)=λm=>xs[i+m]? :=rfl;rw [Z] at this;rw [this]
def oj {items:Η}{lo Z:Υ}{Q:δ}(Y:IsTup s.heap t items)(P:s.heap.IsSliceOf sl vl vu .none)(pl:IsPart vl lo)(N:IsPart vu Z)
  (M:¬ (fZ items.size 0 lo=0/\fZ items.size items.size Z=items.size))
  (h:Q (.ref s.heap.objs.size) {s with heap:=s.heap.push {cls:=.type "tuple",data:=.seq ((items.toList.drop (fZ items.size 0 lo)).take (fZ items.size items.size Z-fZ items.size 0 lo)).toArray}})
  (L:items.size<=DC):CB (CL prog w) A (getItem (.ref t) (.ref sl)) Q E s:=by
 let X:sizeOk (.seq ((items.toList.drop (fZ items.size 0 lo)).take (fZ items.size items.size Z-fZ items.size 0 lo)).toArray):=by
  change ((items.toList.drop (fZ items.size 0 lo)).take (fZ items.size items.size Z-fZ items.size 0 lo)).toArray.size<=DC;rw [NJ,IY,Zd,ajr];omega
 let H:fZ items.size items.size Z<=items.size:=aeU _ _ (DH _) Z;let(os,U,S,G):=id P;let R:s.TypeIs (.ref sl) "slice":=(os,U,S);unfold getItem;try with_reducible show Nq ?_
 first|show BL (DT ?_)|skip
 show BL (wpAny_sequenceKey Y.typeIs cr ?_)
 show BL (wpAny_callSpecial?_slot (name:=Pc "__getitem__") Y.typeIs PyProof.Rows.slot_tuple_getitem
  (VE PyProof.Rows.slot_tuple_getitem Y.typeIs entry_tuple_getitem ?_ (args_tuple_getitem _ _)))
 change CB _ _ (Builtin.Tuple.tupleItemsOf (.ref t) >>=_) _ _ s;show BL (tupleItemsOf_ Y ?_);show BL (Vz R ?_);rw [ox cr];show BL (zas P pl N ?_)
 let T:¬ ((((fZ items.size 0 lo:Nat):Int)==0 && (1:Int)==1 && (fZ items.size items.size Z-fZ items.size 0 lo)==items.size)=true):=by
  intro q;rw [Vq,Vq] at q;let I:((fZ items.size 0 lo:Nat):Int)=0:=eq_of_beq q.1.1;let J:fZ items.size items.size Z-fZ items.size 0 lo=items.size:=eq_of_beq q.2;show M #[ce,ce]
 change CB _ _ (if (((fZ items.size 0 lo:Nat):Int)==0 && (1:Int)==1 && (fZ items.size items.size Z-fZ items.size 0 lo)==items.size)=true then _ else _) _ _ s;rw [mQ T,acP]
 first
  | show BL (m:=MJ _) (U3 (DT (_,O,DT h)) X)
  | show BL (m:=MJ _) (U3 (BL (DT (DT (_,O,DT h)))) X)
  | show BL (BL (m:=MJ _) (U3 (DT (DT (_,O,DT h))) X))
  | show BL (BL (m:=MJ _) (U3 (DT (_,O,DT h)) X))
end
end HT
namespace L2
open PySem PySem.Spec PyProof.Rows
abbrev TO:=St->Hp->(Option Int->Hp->Prop)->Prop
def PO (X:Cx)(e:Option Expr)(t:TO):Prop:=
 ∀(Z:ζ)(s:DI)(Y:St)(H:Hp)(Q:Option Int->Hp->Prop),Inv X Z Y H s->t Y H Q->
  CB (CL X.prog X.w) X.A (evalPart e X.env) (λu T=>∃o U,Inv X Z Y U T/\IsPart u o/\Q o U) X.xe s
def agS:TO:=λ_ H Q=>Q none H
inductive QH (Q:(Option Int->Hp->Prop))(x:V)(Z:Hp):Prop
|mk (i:_)(_:x=.int i)(_:Q (some i) Z)
def acS (t:TE):TO:=λY H Q=>t Y H λx Z=>QH Q x Z
section
variable {X:Cx}{e:Expr}{te:TE}{lo hi:Option Expr}{tl th:TO}{pos p2:Pos}
def dS:PO X none agS:=by
 intro Z s Y H Q I h;rw [evalPart_none];show DT (none,H,I,.none,h)
def c_ (h:PE X e te):PO X (some e) (acS te):=by
 intro T s Y H Q I S;rw [evalPart_some];show cK (h T s Y H _ I S) λu N ⟨x,P,R,Z,U⟩=>?_;let(i,rfl,q):=U;let(t,rfl):=Z;show(some i,P,R,.int i t,q)
def SlR (X:Cx)(r:V->Option Int->Option Int->Hp->VK->Prop):Prop:=
 ∀(S:ζ)(s:DI)(Y:St)(H:Hp)(x:V)(v vl Z:Value)(lo hi:Υ)(U:BK)(Q:VK),Inv X S Y H s->RelV x v->s.heap.IsSliceOf U vl Z .none->IsPart vl lo->IsPart Z hi->r x lo hi H Q->
  ∃T id,α4 (.type T) "__getitem__"=pure (some (.builtin id))/\s.TypeIs v T/\CB (CL X.prog X.w) X.A (getItem v (.ref U)) (EP X S Y Q) X.xe s
def tSl (r:V->Option Int->Option Int->Hp->VK->Prop)(te:TE)(tl th:TO):TE:=λY H Q=>te Y H λx T=>tl Y T λl U=>th Y U λu Z=>r x l u Z Q
def cJ (z:SlR X r)(o:PE X e te)(y:PO X lo tl)(C:PO X hi th):PE X (.Subscript e (.Slice lo hi none p2) pos) (tSl r te tl th):=by
 intro U s Y H Q I h;show Subscript_ (cK (o U s Y H _ I h) λv N ⟨x,c,g,M,G⟩=>?_);show wpAny_Slice (cK (y U N Y c _ g G) λvl P ⟨l,f,i,D,J⟩=>cK (C U P Y f _ i J) λS Z ⟨u,R,j,E,L⟩=>?_);rw [evalPart_none];show DT ?_;let k:Inv X U Y R {Z with heap:=Z.heap.push {cls:=.type "slice",data:=.fields (List.toArray [vl,S,.none])}}:=j.kept (t':=Z.toks) λb a q=>GY _ q;let(T,id,m,B,p):=z U {Z with heap:=Z.heap.push {cls:=.type "slice",data:=.fields (List.toArray [vl,S,.none])}} Y R x v vl S l u Z.heap.objs.size Q k M (Heap.IsSliceOf.new ..) D E L;change CB (CL X.prog X.w) X.A (subscriptTail e (.Slice lo hi none p2) v (.ref Z.heap.objs.size)) (EP X U Y Q) X.xe {Z with heap:=Z.heap.push {cls:=.type "slice",data:=.fields (List.toArray [vl,S,.none])}};show tail_any (ops:=[.ref Z.heap.objs.size,v]) B m p (by with_unfolding_all rfl)
def gS (xs:ε)(lo hi:Υ):List V:=(xs.drop (HT.fZ xs.length 0 lo)).take (HT.fZ xs.length xs.length hi-HT.fZ xs.length 0 lo)
def rh (xs:ε)(lo hi:Υ):(gS xs lo hi).length<=xs.length:=by
 unfold gS;rw [IY,Zd];omega
inductive Zl (K:Frag)(x:V)(lo:Υ)(hi:Υ)(H:Hp)(Q:VK):Prop
|mk (a xs:_)(_:x=.ref a)(_:bL K H a xs)(_:¬ (HT.fZ xs.length 0 lo=0/\HT.fZ xs.length xs.length hi=xs.length))(_:∀p,H p=none->Q (.ref p) (upd H p (.tup (gS xs lo hi))))
def ady:SlR X (Zl X.K):=by
 intro E s Y H x v vl J lo hi G Q I T M R S h;let(a,xs,rfl,N,C,q):=h;cases T;let(L,r,U,P):=I.tuple N;let Z:L.toArray.size=xs.length:=by rw [NJ];show r.length.symm
 show("tuple",_,PyProof.Rows.slot_tuple_getitem.lookup,U.typeIs,HT.oj U M R S (by rwa [Z]) ?_ (by rwa [Z]));rw [Z];show(.ref s.heap.objs.size,_,I.laid (t':=s.toks) (o:=.tup (gS xs lo hi)) (λb D q=>GY _ q) (DH _) ?_,O,q _ (I.bO.fresh (DH _)));show(EE (rh xs lo hi) P,_,(r.drop (HT.fZ xs.length 0 lo)).take (HT.fZ xs.length xs.length hi-HT.fZ xs.length 0 lo),IsTup.new _ _)
end
def HK (n:Nat)(i:Int):Option Nat:=if 0<=i then (if i<n then some i.toNat else none) else if -(n:Int)<=i then some (i+n).toNat else none
def hW {Z:Type}(xs:List Z)(i:Int):Option Z:=(HK xs.length i).bind λj=>xs[j]?
def ajQ (h:HK n i=some j):seqIndex? i n=some j/\j<n/\ -(n:Int)<=i/\i<n:=by
 unfold HK at h;by_cases Y:0<=i
 ·rw [ox Y] at h
  by_cases Z:i<n
  ·rw [ox Z] at h
   let e:i.toNat=j:=JB h;show(by rw [seqIndex_of Y Z,e],ce,ce,Z)
  ·erw [mQ Z] at h
 ·rw [mQ Y] at h
  by_cases Z: -(n:Int)<=i
  ·rw [ox Z] at h
   let e:(i+n).toNat=j:=JB h;show(by rw [seqIndex_neg ce Z,e],ce,Z,ce)
  ·erw [mQ Z] at h
def x_ {v:Z}(h:hW xs i=some v):∃j,seqIndex? i xs.length=some j/\xs[j]?=some v/\j<xs.length/\ -(xs.length:Int)<=i/\i<xs.length:=by
 unfold hW at h;cases e:HK xs.length i with
 | none=>erw [e] at h
 | some j=>
  rw [e] at h;let(T,U,X,Y):=ajQ e;show(j,T,h,U,X,Y)
def bH {j:Nat}{v:Z}(h:xs[j]?=some v):hW xs (j:Int)=some v:=by
 let Y:j<xs.length:=(ir.mp h).1
 let e:HK xs.length (j:Int)=some j:=by
  unfold HK;rw [ox ce,ox ce];simp
 unfold hW;rwa [e]
def ajN (b:Expr):Prop:=∀o i,subscripted b false o i=operate [o,i] (getItem o i)
def XY (X:Cx)(r:R2):Prop:=
 ∀(U Z:Expr)(T:ζ)(s:DI)(Y:St)(H:Hp)(x y:V)(v u:Value)(Q:VK),Inv X T Y H s->RelV x v->RelV y u->r x y H Q->
  subscripted Z false v u=operate [v,u] (getItem v u)->CB (CL X.prog X.w) X.A (subscriptTail U Z v u) (EP X T Y Q) X.xe s
def MtR (X:Cx)(id:String)(r:V->List V->Hp->VK->Prop):Prop:=
 ∀(U:ζ)(s:DI)(Y:St)(H:Hp)(x:V)(xs:ε)(v:Value)(Z:ο)(Q:VK),Inv X U Y H s->RelV x v->Vals xs Z->r x xs H Q->
  CB (CL X.prog X.w) X.A (call (.builtin id) (v::Z)) (EP X U Y Q) X.xe s
section
variable {X:Cx}{a b:Expr}{ta tb:TE}{pos:Pos}
def QI (P:XY X r)(M:PE X a ta)(N:PE X b tb)(R:ajN b):PE X (.Subscript a b pos) (U7 r ta tb):=by
 intro S s Y H Q I h;show Subscript_ (Zf M N I h λv u Z x y J L T U q=>P a b S Z Y J x y v u Q L T U q (R _ _))
inductive Vh (K:Frag)(x:V)(y:V)(H:Hp)(Q:VK):Prop
|mk (p xs i v:_)(_:x=.ref p)(_:y=.int i)(_:aT K H p xs)(_:hW xs i=some v)(_:Q v H)
inductive QJ (K:Frag)(x:V)(y:V)(H:Hp)(Q:VK):Prop
|mk (p xs i v:_)(_:x=.ref p)(_:y=.int i)(_:bL K H p xs)(_:hW xs i=some v)(_:Q v H)
inductive acU (x:V)(y:V)(H:Hp)(Q:VK):Prop
|mk (z i c:_)(_:x=.str z)(_:y=.int i)(_:z.length<=DC)(_:hW z.cps.toList i=some c)(_:Q (.str #[(List.toArray [c])]) H)
def aU:XY X (Vh X.K):=by
 intro T S N s Y H x y v u Q I D E h M;let(p,xs,i,z,rfl,rfl,B,o,q):=h;cases D;let(t,rfl):=E;let(f,r,R,c):=I.list B;let(j,U,g,h3,k,m):=x_ o;let(w,J,C):=r.get g;let A:=r.length;let hn:=tO;let Z:EP X N Y Q w s:=(z,H,I,C,q);by_cases L:0<=i
 ·let P:i.toNat=j:=by
   rw [seqIndex_of L m] at U;show JB U
  show item_listR R.isList L ce (by rw [P];simpa using J) Z M
 ·let P:(i+(f.toArray.size:Int)).toNat=j:=by
   rw [seqIndex_neg ce k] at U;rw [NJ,<-A];show JB U
  show subscriptTail_builtinR (x:=w) R.isList.typeIs slot_list_getitem.lookup
   (wpAny_getItem_list_neg (Q:=λr G=>r=w/\EP X N Y Q r G) R.isList ce (by rw [NJ]<;>omega) ce (by rw [P];simpa using J) #[O,Z]) M
def mX:XY X (QJ X.K):=by
 intro Z U R s Y H x y v u Q I M N h J;let(p,xs,i,z,rfl,rfl,G,D,q):=h;cases M;let(t,rfl):=N;let(c,r,S,A):=I.tuple G;let(j,f,C,g,k,m):=x_ D;let(w,B,L):=r.get C;let E:=r.length;let o:=tO;let T:EP X R Y Q w s:=(z,H,I,L,q)
 show subscriptTail_builtinR (x:=w) S.typeIs slot_tuple_getitem.lookup
  (getItem_tuple (j:=j) (Q:=λr P=>r=w/\EP X R Y Q r P) S ce ce (by rwa [NJ,<-E]) (by simpa using B) #[O,T]) J
def adW:XY X acU:=by
 intro Z U B s Y H x y v u Q I R S h P;let(z,i,c,rfl,rfl,A,M,q):=h;let(t,rfl):=R;let(C,rfl):=S;let(j,T,G,p,J,L):=x_ M;let N:z.cps.toList.length=z.length:=by simp [Str.length]
 rw [N] at T J L;let w:=tO
 show tail_any (typeIs_str s z t) slot_str_getitem.lookup (getItem_str (c:=c) (by
  let D:decide (i < -(2^63:Int))=false:=Pn ce;let E:decide (i≥2^63)=false:=Pn ce
  rw [D,E,aj_]) (by rw [T];simpa using G) (.str #[(List.toArray [c])],H,I.tok _,#[_,O],q)) P
def abu (BN:ο)(n j:Nat)(u:Value):SG (·.setIfInBounds j u) {cls:=.type "list",data:=.seq BN.toArray n}={cls:=.type "list",data:=.seq (BN.set j u).toArray n}:=by
 simp [SG]
theorem Inv.lst {pX:ζ}{Y:St}{H:Hp}{s:DI}{p:BK}{xs:ε}(I:Inv X pX Y H s)(h:H p=some (.lst xs)):
  ∃(BN:ο)(n:Nat),Vals xs BN/\s.heap.get? p=some {cls:=.type "list",data:=.seq BN.toArray n}/\xs.length<=DC:=by
 let(z,BN,n,r,e):=I.bO p _ h;show(BN,n,r,e,z)
def Inv.Zo {Y:St}{xs ys:ε}{BN rR:ο}(I:Inv X pX Y H s)(h:H p=some (.lst xs))
  (T:s.heap.get? p=some {cls:=.type "list",data:=.seq BN.toArray n}) (Z:f {cls:=.type "list",data:=.seq BN.toArray n}={cls:=.type "list",data:=.seq rR.toArray n'}) (r:Vals ys rR) (U:ys.length<=DC) (t:Nat):
  Inv X pX Y (upd H p (.lst ys)) {s with heap:=s.heap.update p f,toks:=t}:=by
 let e:(s.heap.update p f).get? p=some {cls:=.type "list",data:=.seq rR.toArray n'}:=by
  rw [x5 f T (by rw [Z]<;>rfl),Z]
 show I.write (x:=p) (e:=p) (by rw [h];trivial) (.inl rfl) (λb u S q=>(VA _ _ (G' S)).trans q) #[_,e] ?_;show(U,rR,n',r,e)
inductive XZ (o:V)(i:V)(v:V)(H:Hp)(Q:(Hp->Prop)):Prop
|mk (p xs k j:_)(_:o=.ref p)(_:i=.int k)(_:H p=some (.lst xs))(_:HK xs.length k=some j)(_:Q (upd H p (.lst (xs.set j v))))
def set_list:acH X XZ:=by
 intro E s Y H o i v A z u Q I J G L h;let(p,xs,k,j,rfl,rfl,R,D,q):=h;cases J;let(t,rfl):=G;let(M,n,r,U,y):=I.lst R;let(Z,w,B,C):=ajQ D;let T:=r.length;let x:=tO
 let N:Inv X E Y (upd H p (.lst (xs.set j v))) {s with heap:=s.heap.update p (SG (·.setIfInBounds j u))}:=
  I.Zo R U (abu M n j u) (r.set L j) (by rwa [ajV]) s.toks
 by_cases P:0<=k
 ·let S:k.toNat=j:=by
   rw [seqIndex_of P C] at Z;show JB Z
  show PySem.W.ki_setAt U P ce (by rwa [NJ,<-T]) (by rw [S];show(_,N,q))
 ·let S:(k+(M.toArray.size:Int)).toNat=j:=by
   rw [seqIndex_neg ce B] at Z;rw [NJ,<-T];show JB Z
  show PySem.W.ki_setBack U ce (by rwa [NJ,<-T]) ce (by rw [S];show(_,N,q))
def af5 (lo Z:Υ)(n:Nat):(Vy lo Z none n).1=((HT.fZ n 0 lo:Nat):Int)/\(Vy lo Z none n).2.1=((HT.fZ n n Z:Nat):Int)/\(Vy lo Z none n).2.2=1:=by
 show(?_,?_,O)
 ·cases lo with
  | none=>simp [Vy,HT.fZ]
  | some i=>
   simp only [Vy,HT.fZ,ak',show(1:Int) > 0 by decide,if_true];by_cases h:i<0
   ·simp only [h,if_true]<;>omega
   ·simp only [h,if_false]<;>omega
 ·cases Z with
  | none=>simp [Vy,HT.fZ]
  | some i=>
   simp only [Vy,HT.fZ,ak',show(1:Int) > 0 by decide,if_true];by_cases h:i<0
   ·simp only [h,if_true]<;>omega
   ·simp only [h,if_false]<;>omega
def ajt (BN:ο)(lo Z:Υ):slicePick BN.toArray lo Z none=((BN.drop (HT.fZ BN.length 0 lo)).take (HT.fZ BN.length BN.length Z-HT.fZ BN.length 0 lo)).toArray:=by
 let(T,U,Y):=af5 lo Z BN.toArray.size;unfold slicePick;rw [T,U,Y];simp only [sliceRange_one,pick_run,NJ]<;>rfl
inductive acV (K:Frag)(x:V)(lo:Υ)(Z:Υ)(H:Hp)(Q:VK):Prop
|mk (a xs:_)(_:x=.ref a)(_:aT K H a xs)(_:∀p,H p=none->Q (.ref p) (upd H p (.lst (gS xs lo Z))))
def fj:SlR X (acV X.K):=by
 intro E s Y H x v vl J lo U G Q I S L P R h;let(a,xs,rfl,M,q):=h;cases S;let(C,r,T,N):=I.list M;let Z:=r.length;show("list",_,slot_list_getitem.lookup,T.isList.typeIs,wpAny_getItem_list_slice T.isList L P R .none fD ?_ (by rw [NJ]<;>omega));rw [ajt,<-Z];show(.ref s.heap.objs.size,_,I.laid (t':=s.toks) (o:=.lst (gS xs lo U)) (λb D q=>GY _ q) (DH _) ?_,O,q _ (I.bO.fresh (DH _)));show(EE (rh xs lo U) N,_,0,(r.drop (HT.fZ xs.length 0 lo)).take (HT.fZ xs.length xs.length U-HT.fZ xs.length 0 lo),JO _ rfl)
def iY:V->Bool
 | .cW=>true
 | .bl _=>true
 | .int _=>true
 | .str _=>true
 | _=>false
def rY:V->V->Bool
 | .cW,.cW=>true
 | .bl a,.bl b=>a==b
 | .bl a,.int b=>(if a then 1 else 0)==b
 | .int a,.bl b=>a==(if b then 1 else 0)
 | .int a,.int b=>a==b
 | .str a,.str b=>a==b
 | _,_=>false
def HM (U:RelV y u)(Z:RelV x v)(S:iY y=true)(T:iY x=true):Vb A s u v (rY y x):=by
 cases y with
 | cW=>
  cases U;cases x with
  | cW=>cases Z;show SeqAt.EqAt.same _
  | bl b=>cases Z;show SeqAt.EqAt.none_bool b
  | int b=>let(t,rfl):=Z;show SeqAt.EqAt.none_int b t
  | str b=>let(t,rfl):=Z;show SeqAt.EqAt.none_str b t
  | _=>show DQ (show false=true from T) N9
 | bl a=>
  cases U;cases x with
  | cW=>cases Z;show SeqAt.EqAt.bool_none a
  | bl b=>cases Z;show SeqAt.EqAt.bool_bool a b
  | int b=>let(t,rfl):=Z;show SeqAt.EqAt.bool_int a b t
  | str b=>let(t,rfl):=Z;show SeqAt.EqAt.bool_str a b t
  | _=>show DQ (show false=true from T) N9
 | int a=>
  let(Y,rfl):=U;cases x with
  | cW=>cases Z;show SeqAt.EqAt.int_none a Y
  | bl b=>cases Z;show SeqAt.EqAt.int_bool a Y b
  | int b=>let(t,rfl):=Z;show SeqAt.EqAt.int_int a Y b t
  | str b=>let(t,rfl):=Z;show SeqAt.EqAt.int_str a Y b t
  | _=>show DQ (show false=true from T) N9
 | str a=>
  let(Y,rfl):=U;cases x with
  | cW=>cases Z;show SeqAt.EqAt.str_none a Y
  | bl b=>cases Z;show SeqAt.EqAt.str_bool a Y b
  | int b=>let(t,rfl):=Z;show SeqAt.EqAt.str_int a Y b t
  | str b=>let(t,rfl):=Z;show SeqAt.EqAt.str_str a Y b t
  | _=>show DQ (show false=true from T) N9
 | _=>show DQ (show false=true from S) N9
def HN (x:V)(u:Value):Bool:=match u with
 | .none=>rY .cW x
 | .bool b=>rY (.bl b) x
 | .int i _=>rY (.int i) x
 | .str z _=>rY (.str z) x
 | _=>false
def afL (r:RelV y u)(f:iY y=true):HN x u=rY y x:=by
 cases y with
 | cW=>cases r;rfl
 | bl b=>cases r;rfl
 | int i=>let(t,rfl):=r;rfl
 | str z=>let(t,rfl):=r;rfl
 | _=>show DQ (show false=true from f) N9
theorem om :∀{xs:ε} {us:ο},Vals xs us->xs.all iY=true->us.any (HN x)=xs.any λy=>rY y x
 | _,_,.nil,_=>rfl
 | y::xs,u::us,.cons r t,f=>by
  rw [vX,Vq] at f;rw [Wi,Wi,afL r f.1,om t f.2]
theorem kQ (Y:RelV x v)(U:iY x=true):∀{xs:ε} {us:ο},Vals xs us->xs.all iY=true->∀u∈us,Vb A s u v (HN x u)
 | _,_,.nil,_=>λu Z=>by cases Z
 | y::xs,u::us,.cons r t,f=>λT Z=>by
  rw [vX,Vq] at f
  rcases JP.mp Z with rfl|Z
  ·rw [afL r f.1];show HM r Y f.1 U
  ·show kQ Y U t f.2 T Z
def TQ (x:V)(xs:ε):Bool:=xs.any λy=>rY y x
inductive rIn (K:Frag)(neg:Bool)(x:V)(y:V)(H:Hp)(Q:VK):Prop
|mk (p xs:_)(_:y=.ref p)(_:(aT K H p xs\/bL K H p xs))(_:iY x=true)(_:xs.all iY=true)(_:Q (.bl (if neg then !TQ x xs else TQ x xs)) H)
def xh:kc X (NR .In) (rIn X.K false):=by
 intro J s Y H x y v u Q I P M h;let(p,xs,rfl,Z,N,T,q):=h;cases M
 rcases Z with Z|Z
 ·let(U,r,S,L):=I.list Z
  show SeqAt.in_listAt (HN x) S.isList (λw R=>kQ P N r T w (by simpa using R)) (.bl _,H,I,O,?_);rwa [show U.toArray.any (HN x)=U.any (HN x) by simp,om r T]
 ·let(U,r,S,L):=I.tuple Z
  show SeqAt.in_tupleAt (HN x) S (λw R=>kQ P N r T w (by simpa using R)) (.bl _,H,I,O,?_);rwa [show U.toArray.any (HN x)=U.any (HN x) by simp,om r T]
def oq:kc X (NR .NotIn) (rIn X.K true):=by
 intro J s Y H x y v u Q I P M h;let(p,xs,rfl,Z,N,T,q):=h;cases M
 rcases Z with Z|Z
 ·let(U,r,S,L):=I.list Z
  show SeqAt.notIn_listAt (HN x) S.isList (λw R=>kQ P N r T w (by simpa using R)) (.bl _,H,I,O,?_);rwa [show U.toArray.any (HN x)=U.any (HN x) by simp,om r T]
 ·let(U,r,S,L):=I.tuple Z
  show SeqAt.notIn_tupleAt (HN x) S (λw R=>kQ P N r T w (by simpa using R)) (.bl _,H,I,O,?_);rwa [show U.toArray.any (HN x)=U.any (HN x) by simp,om r T]
def aG:gP X (.builtin "len") (λxs H Q=>∃p ys,xs=[.ref p]/\(aT X.K H p ys\/bL X.K H p ys)/\Q (.int ys.length) H):=by
 intro L s Y H xs M Q I r h;let(p,ys,rfl,U,q):=h;let(u,rfl,R):=vals1 r;cases R;let J:=tO
 rcases U with U|U
 ·let(N,T,S,P):=I.list U
  let Z:=T.length;show Calls.call_len_list S.isList (by simp only [NJ]<;>omega) (.int ys.length,H,I.tok _,#[s.toks+1,by rw [NJ,Z]],q)
 ·let(N,T,S,P):=I.tuple U
  let Z:=T.length;show len_tuple S (by simp only [NJ]<;>omega) (.int ys.length,H,I.tok _,#[s.toks+1,by rw [NJ,Z]],q)
def tyV (K:Frag)(T:String)(x:V)(H:Hp):Prop:=match x with
 | .str _=>T="str"
 | .int _=>T="int"
 | .ref p=>(T="list"/\∃xs,aT K H p xs)\/(T="tuple"/\∃o,K.lookup p=some o/\o.cls=.type "tuple"/\o.dict=none)\/
   (T="dict"/\((∃Z,H p=some (.dK Z))\/∃Z,H p=some (.dT Z)))\/(T="set"/\∃S n,H p=some (.set S n))
 | _=>False
def af4 {Y:St}(I:Inv X pX Y H s)(r:RelV x v)(ty:tyV X.K T x H):
  s.TypeIs v T/\∀a,v=.ref a->∃N,s.heap.get? a=some N/\N.dict=none:=by
 cases x with
 | str z=>
  let(t,rfl):=r;cases (show T="str" from ty);show#[typeIs_str s z t,λ_ e=>nomatch e]
 | int i=>
  let(t,rfl):=r;cases (show T="int" from ty);show#[typeIs_int s i t,λ_ e=>nomatch e]
 | ref p=>
  cases r
  rcases ty with ⟨rfl,xs,M⟩|⟨rfl,o,Z,L,R⟩|⟨rfl,Z⟩|⟨rfl,S,n,Z⟩
  ·let(G,_,P,_):=I.list M
   show#[P.isList.typeIs,λa e=>?_];cases e;let(o,n,e,c,R,_):=P;show(o,e,R)
  ·show#[(o,I.mR p o Z,L),λa e=>?_]
   cases e;show(o,I.mR _ o Z,R)
  ·let z:∃o,s.heap.get? p=some o/\o.ExactDict:=by
    rcases Z with ⟨J,Z⟩|⟨J,Z⟩
    ·let(_,_,_,_,o,_,_,e,U,_):=I.bO p _ Z
     show(o,e,U)
    ·let(_,_,_,_,o,_,_,e,U,_):=I.bO p _ Z
     show(o,e,U)
   let(o,e,U):=z;show#[(o,e,U.1),λa Q=>?_];cases Q;show(o,e,U.2.1)
  ·let(o,_,_,_,e,U,_):=I.bO p _ Z
   show#[(o,e,U.1),λa Q=>?_];cases Q;show(o,e,U.2.1)
 | _=>show False.elim ty
def tBM (K:Frag)(T:String)(r:V->List V->Hp->VK->Prop)(U:TE)(t:TA):TE:=λY H Q=>U Y H λx Z=>tyV K T x Z/\t Y Z λxs S=>r x xs S Q
variable {o e:Expr}{es:Ε}{to:TE}{t:TA}{name:Str}{apos d6:Pos}{T id:String}{r:V->List V->Hp->VK->Prop}
def kg (A:PlainAttrs T)(Z:Slot T name id)(S:typeOf (.builtin id)=pure (.type "method_descriptor"))(q:MtR X id r)(u:PE X o to)(p:PA X (e::es) t)
  (y:VC o name X.env (EI o X.env)=EI o X.env:=by rfl)
  (R:((NK d6 (HE (e::es) X.env)).all (λx=> !x.1) && (backToKw d6 (ZG [] X.env)).all (λx=>x.1.isSome)
   && decide ((e::es).length+([]:List Keyword).length+(if ([]:List Keyword).isEmpty then 0 else 1)<30))=true:=by rfl)
  (z:(apos.endLine==d6.line)=true:=by rfl) (w:HE (e::es) X.env=(false,EI e X.env)::HE es X.env:=by rfl) (j:(NK d6 (HE es X.env)).any (·.1)=false:=by rfl):
  PE X (.Call (.Attribute o name apos) (e::es) [] d6) (tBM X.K T r to t):=by
 intro U s Y H Q I h;show wpAny_Call_method_late y R z rfl (cK (u U s Y H _ I h) λv E ⟨x,f,M,P,ty,B⟩=>?_);let(k,m):=af4 M P ty;show(T,id,A,Z,S,k,m,?_);let N:=p d6 U E Y f _ M B;rw [w] at N ⊢;show Wg (by change (false || (NK d6 (HE es X.env)).any (·.1))=false;rw [j]<;>rfl) (Calls.evalArgs_plain ?_);show cK N λJ G ⟨L,g,i,D,C⟩=>q U G Y g x L v J Q i P D C
end
def MtM (X:Cx)(id:String)(r:V->List V->Hp->VK->Prop):Prop:=
 ∀(U:ζ)(s:DI)(Y:St)(H:Hp)(x:V)(xs:ε)(v:Value)(Z:ο)(Q:VK),Inv X U Y H s->RelV x v->Vals xs Z->r x xs H Q->
  CB (CL X.prog X.w) X.A (call (.builtin id) (v::Z)) (EP X U Y Q) X.xe s
def Vals.one:∀{x:V} {us:ο},Vals [x] us->∃u,us=[u]/\RelV x u
 | _,_,.cons r .nil=>(_,O,r)
theorem Vals.eraseIdx:∀{xs:ε} {us:ο} (i:Nat),Vals xs us->Vals (xs.eraseIdx i) (us.eraseIdx i)
 | _,_,_,.nil=>.nil
 | _,_,0,.cons _ t=>t
 | _,_,i+1,.cons r t=>.cons r (Vals.eraseIdx i t)
theorem Vals.rep {xs:ε}{us:ο}(h:Vals xs us):∀k:Nat,Vals (IV k xs).flatten (IV k us).flatten
 | 0=>.nil
 | k+1=>by
  rw [Zs,Zs,LU,LU];show Vals.append h (Vals.rep h k)
theorem xi {Z:Type}:∀(l:List Z)(i:Nat),(l.eraseIdx i).length<=l.length
 | [],_=>DH _
 | _::_,0=>vn _
 | _::r,i+1=>alb (xi r i)
theorem foldl_rep (BN:ο):∀(k:Nat)(Z:ο),
  alJ (λX Y=>X++Y) Z.toArray (IV k BN.toArray)=(Z++(IV k BN).flatten).toArray
 | 0,Z=>by simp
 | k+1,Z=>by
  let e:Z.toArray++BN.toArray=(Z++BN).toArray:=by simp
  let U:(Z++BN)++(IV k BN).flatten=Z++(IV (k+1) BN).flatten:=by
   rw [Zs,LU,Zh]
  rw [<-U,<-foldl_rep BN k (Z++BN),<-e,Zs,List.foldl_cons]
section
variable {X:Cx}{pX:ζ}{Y:St}{H:Hp}{s:DI}{l b:BK}{xs ys zs:ε}
def Inv.Zq {BN rR:ο}(I:Inv X pX Y H s)(Q:H l=some (.lst xs))
  (e:s.heap.get? l=some {cls:=.type "list",data:=.seq BN.toArray n}) (S:f BN.toArray=rR.toArray) (U:Vals ys rR) (Z:ys.length<=DC):
  Inv X pX Y (upd H l (.lst ys)) {s with heap:=s.heap.update l (SG f),toks:=t'}:=by
 let q:=PySem.IsL.update e f;rw [S] at q;show I.write (x:=l) (e:=l) (by rw [Q];show trivial) (.inl rfl) (λP u R T=>(VA s.heap (SG f) (G' R)).trans T) #[_,q] ?_;show(Z,rR,_,U,q)
def Inv.Zr {BN:ο}(I:Inv X pX Y H s)(Z:Vals ys BN)(hz:ys.length<=DC):
  Inv X pX Y (upd H s.heap.objs.size (.lst ys)) {s with heap:=s.heap.push {cls:=.type "list",data:=.seq BN.toArray},toks:=t'}:=
 I.laid (λ_ _ q=>GY _ q) (DH _) (hz,BN,0,Z,JO _ rfl)
theorem Inv.fresh (I:Inv X pX Y H s):H s.heap.objs.size=none:=I.bO.fresh (DH _)
def Inv.mY (I:Inv X pX Y H s)(Z:H l=some (.lst xs)):xs.length<=DC/\∃(BN:ο)(n:Nat),Vals xs BN/\xs.length=BN.length/\s.heap.get? l=some {cls:=.type "list",data:=.seq BN.toArray n}:=by
 let(z,BN,n,r,e):=I.bO l _ Z;show(z,BN,n,r,r.length,e)
def zaZ (h:n<=DC):wz n=false:=by
 unfold wz;show Pn ce
end
section
variable {X:Cx}
inductive LD (x:V)(vs:ε)(H:Hp)(Q:VK):Prop
|mk (l xs y:_)(_:x=.ref l)(_:vs=[y])(_:H l=some (.lst xs))(_:xs.length<DC)(_:Q .cW (upd H l (.lst (xs++[y]))))
def dD:MtM X "list.append" LD:=by
 intro M s Y H x P v N Q I T S h;let(l,xs,y,rfl,rfl,Z,L,q):=h;cases T;let(u,rfl,R):=S.one;let(z,U,n,r,J,e):=I.mY Z;show Wd F.slot_list_append (_,e,O) F.entry_list_append (F.args_list_append_2 _ _) (PySem.list_append l U.toArray n u (by rw [NJ];omega)) #[e,?_];show(.cW,_,I.Zq (rR:=U++[u]) Z e fD (r.append (.cons R .nil)) ?_,O,q);rw [HI,V1];omega
def adP:V->List V->Hp->VK->Prop:=λx Z H Q=>∃l xs i k y,x=.ref l/\Z=[.int i]/\H l=some (.lst xs)/\ -(2^63)<=i/\i<2^63/\seqIndex? i xs.length=some k/\xs[k]?=some y/\Q y (upd H l (.lst (xs.eraseIdx k)))
def acO:MtM X "list.pop" adP:=by
 intro D s Y H x G v E Q I T S h;let(l,xs,i,k,y,rfl,rfl,U,J,L,B,N,q):=h;cases T;let(u,rfl,R):=S.one;let(t,rfl):=R;let(z,Z,n,r,M,e):=I.mY U;let(w,C,P):=r.get N
 show Wd F.slot_list_pop (_,e,O) F.entry_list_pop (F.args_list_pop_2 _ _)
  (MeetsSeq.list_pop_at l Z.toArray n i t k w (fitsIndex_both J L) (by rwa [NJ,<-M]) (by rwa [<-Array.getElem?_toList]) (by rw [NJ];omega)) #[e,?_]
 show(y,_,I.Zq (rR:=Z.eraseIdx k) U e ?_ (r.eraseIdx k) ?_,P,q)
 ·change Z.toArray.eraseIdxIfInBounds k=(Z.eraseIdx k).toArray
  rw [List.eraseIdxIfInBounds_toArray]
 ·have:=xi xs k
  omega
inductive acW (x:V)(y:V)(H:Hp)(Q:VK):Prop
|mk (l b xs zs:_)(_:x=.ref l)(_:y=.ref b)(_:H l=some (.lst xs))(_:H b=some (.lst zs))(_:xs.length+zs.length<=DC)(_:∀p,H p=none->Q (.ref p) (upd H p (.lst (xs++zs))))
def kR:kc X (QF .Add) acW:=by
 intro D s Y H x y v u Q I S T h;let(l,b,xs,G,rfl,rfl,N,M,B,q):=h;cases S;cases T;let(z,U,n,r,A,e):=I.mY N;let(E,Z,C,R,w,J):=I.mY M;show PySem.P.add_list e J ?_ (by rw [NJ,NJ];omega);let L:U.toArray++Z.toArray=(U++Z).toArray:=by simp
 rw [L];show(.ref _,_,I.Zr (t':=s.toks) (r.append R) (by rw [HI];omega),O,q _ I.fresh)
inductive acX (x:V)(y:V)(H:Hp)(Q:VK):Prop
|mk (l k xs:_)(_:x=.ref l)(_:y=.int k)(_:H l=some (.lst xs))(_: -(2^63)<=k)(_:k<2^63)(_:xs.length*k.toNat<=DC)(_:∀p,H p=none->Q (.ref p) (upd H p (.lst (IV k.toNat xs).flatten)))
def len_rep {Z:Type}(xs:List Z)(k:Nat):(IV k xs).flatten.length=k*xs.length:=by
 induction k with
 | zero=>simp
 | succ k Y=>rw [Zs,LU,HI,Y,Nat.succ_mul,LC]
def yd:kc X (QF .Mult) acX:=by
 intro j s Y H x y v u Q I E G h;let(l,k,xs,rfl,rfl,C,A,B,i,q):=h;cases E;let(t,rfl):=G;let(z,Z,n,r,D,e):=I.mY C;let S:Z.toArray.size*k.toNat<=DC:=by rwa [NJ,<-D]
 let L:¬ Z.toArray.size*k.toNat > (2^63-1) / 8:=by
  have:(DC:Nat)<=(2^63-1) / 8:=cr
  omega
 let M:¬ (!Builtin.List.listFitsIndex k)=true:=by
  rw [fitsIndex_both A B];show N9
 let p:¬ wz (Z.toArray.size*k.toNat)=true:=by
  rw [zaZ S];show N9
 let N:alJ (λP R=>P++R) #[] (IV (if Z.toArray.isEmpty=true then 0 else k.toNat) Z.toArray)=(IV k.toNat Z).flatten.toArray:=by
  let w:∀m:Nat,alJ (λP R=>P++R) #[] (IV m Z.toArray)=(IV m Z).flatten.toArray:=λm=>by
   have:=foldl_rep Z m [];rwa [EM] at this
  rw [w];cases Z with
  | nil=>simp
  | cons a o=>rw [mQ fD]
 show wpAny_binaryOp_repeat_ref (T:="list") (U:="int") cr (_,e,O) (λJ=>typeIs_int J k t) noFill_list_mul F.fills_int_mul F.slot_int_rmul repeat_list F.slot_int_index.lookup
  (Wd F.slot_int_rmul (typeIs_int s k t) F.entry_int_rmul (F.args_int_rmul_2 _ _) (int___rmul___int_list k t l Z.toArray n)
   (e,O,(_,e,O),Wd F.slot_list_mul (_,e,O) F.entry_list_mul (F.args_list_mul_2 _ _) (AutoListH.list___mul___list_int_3 l Z.toArray n k t M L p) #[e,?_]))
 rw [N];show(.ref _,_,I.Zr (t':=s.toks) (r.rep k.toNat) (by rwa [len_rep,vU]),O,q _ I.fresh)
end
end L2
namespace Att
open PySem PySem.W PySem.Calls PyProof.Rows
def zaU :∀(Z:ξ)(vs:ο),WellAll P h vs (Z.map WData.int)->IntsAre vs Z:=by
 intro Z
 induction Z with
 | nil=>
  intro vs w;erw [NV] at w;show .nil
 | cons n Z Y=>
  intro vs w;rw [ED] at w;cases w with
  | cons a b=>
   cases a;show .cons _ _ (Y _ b)
def Nt {l:OpenLaw}(H:l.most=some n){Y:ο}
  (N:l.row.toRowW.claim.pre args=true) (T:WellAll P h Y args):
  ∃a vs Z,Y=[Value.ref a]/\args=[WData.list (Z.map WData.int)]/\h.get? a=some {cls:=.type "list",data:=.seq vs.toArray}/\IntsAre vs Z/\Z.length<=n:=by
 let S:WShape.hasAll [] args [.list .int]=true:=(pre_splitW N).1;let Q:l.pre.holds [] {args:=args}=true:=(pre_splitW N).2;let(d,r,rfl,D,E):=hasAllW_cons S;obtain rfl:=hasAllW_nil E;let(xs,rfl,G):=hasW_list D;let(Z,rfl):=items_int G
 let X:Z.length<=n:=by
  unfold OpenLaw.pre at Q
  let R:(WTm.not (.lt (.lit (.int (n:Int))) (.len (.arg 0)))).holds [] {args:=[.list (Z.map .int)]}=true:=by
   let R:=(holds_andW Q).1;rwa [H] at R
  let U:=condW_of R (w_not (w_lt w_lit (w_len_list (w_arg rfl))));rw [be] at U;show ajG λq=>?_;let J:(n:Int)<((Z.length:Nat):Int):=ce
  first
   | (rw [NI J] at U;show DQ U cr)
   | (simp at U;omega)
 cases T with
 | cons L M=>
  cases M;cases L with
  | list I C=>show(_,_,Z,O,O,I,zaU Z _ C,X)
def Nu (l:OpenLaw)(args:List WData):l.row.toRowW.claim.post args (.bool true) args=true:=
 postW_of (r:=l.row.toRowW) (X:=(true==true))
  (show WShape.has [] (.bool true) .bool=true by first|rfl|decide|simp [WShape.has,WShape.arms,WShape.armsAll])
  (show(WTm.eq .res (.lit (.bool true))).value [] {args:=args,res:=some (.bool true),after:=args}=some (.bool (true==true)) from w_eq_bool (w_res rfl) w_lit) rfl
end Att
namespace L2
open PySem PySem.Spec PyProof.Rows
theorem xj:∀{vs:ο} {Z:ξ},IntsAre vs Z->Vals (Z.map V.int) vs
 | _,_,.nil=>.nil
 | _,_,.cons n t h=>.cons #[t,O] (xj h)
def acY (H:Hp):Prop:=∀b,H b=none\/∃o xs,H b=some (.eR o (.lst xs))
def ab0 {K:Frag}{mg j:ν}{vs:ο}{Q:ξ}
  (KX:K.In pQ.heap) (N:pQ.heap.Ns HL mg) (Z:pQ.heap.Ns α6 j) (f:∀x:Str,x≠ "__name__"->j x=NW x) (akR:pQ.heap.NoLimit) (C:pQ.heap.NoSeer) (hg:pQ.gens= #[])
  (M:pQ.heap.get? a=some {cls:=.type "list",data:=.seq vs.toArray}) (hi:IntsAre vs Q) (hl:Q.length<=DC) (hr:cQ k callerA)
  (F:∀i:Heap,K.In i->i.Ns HL mg->dR P w K mg i CX k fa fd [x] sp) (acZ:∀(s:DI)(u:Value),BindsTo s fd #[[u],[]] [(x,u)])
  (tQ:∀H:Hp,acY H->aT K H a (Q.map V.int)->sp [.ref a] H (λv _=>v=.bl true) λ_ _ _=>False)
  (c:∀H e Y,CX [] H pQ (λ_ _ _=>False) e Y ->False):
  Np (CL P w) callerA (.call (.ref fa) #[[.ref a],[]]) (λr Y=>r=.ok (.ret (.bool true))/\OldK pQ.heap Y.heap/\Y.os=pQ.os/\SR Y.gens) pQ:=by
 let rv:=xj hi;let akS:=hi.length
 let core:∀H:Hp,acY H->aT K H a (Q.map V.int)->mE P w H pQ.heap->(∀b,H b≠none->b=a)->(H a≠none->K.lookup a=none)->
   Np (CL P w) callerA (.call (.ref fa) #[[.ref a],[]]) (λr Y=>r=.ok (.ret (.bool true))/\OldK pQ.heap Y.heap/\Y.os=pQ.os/\SR Y.gens) pQ:=by
  intro H hO hS bO hA hK;let B:∀{b:BK} {o:Obj},pQ.heap.get? b=some o->H b=none->(xX pQ.heap H).get? b=some o:=λe n=>agi e n
  let y:∀{b:BK} {o:Obj} {J:Array DictEntry} {I:Nat},pQ.heap.get? b=some o->o.data=.dict J I->H b=none:=λ{b o J I} e d=>by
   cases q:H b with
   | none=>rfl
   | some u=>
    let G:b=a:=hA b (by rw [q];simp);subst G;erw [M] at e;let d':Data.seq vs.toArray _=Data.dict J I:=d;cases d'
  let T:∀{b:BK} {m:ν},pQ.heap.Ns b m->(xX pQ.heap H).Ns b m:=λ{b m} ⟨o,J,I,e,d,r⟩=>(o,J,I,B e (y e d),d,r)
  let L:K.In (xX pQ.heap H):=λb o e=>B (KX b o e) (by
   cases q:H b with
   | none=>rfl
   | some u=>
    let G:b=a:=hA b (by rw [q];simp);subst G
    rw [hK (by rw [q];simp)] at e;cases e)
  let hM:Mod K mg (xX pQ.heap H):=(L,T N,(j,T Z,f),let ⟨S,U,X⟩:=akR;(S,T U,X),
   (let ⟨S,U,X⟩:=C.statics;(S,T U,X),let ⟨S,U,X⟩:=C.mods;(S,T U,X),let ⟨S,U,X⟩:=C.imp;(S,T U,X),
    let ⟨p,D,A,U,X,h3,h4,h5⟩:=C.main;(p,D,A,T U,X,B h3 (by
     cases q:H D with
     | none=>rfl
     | some u=>
      let G:D=a:=hA D (by rw [q];simp);subst G;erw [M] at h3;let h4':Value.type "list"=Value.type "module":=h4;injection h4' with e9
      show DQ e9 cr),h4,h5)))
  let e0:HH P w K mg (xX pQ.heap H) callerA [] pQ H:=(O,hM,λb o e=>agD e,LF (agv _ _),trivial,λb Z=>DQ (show b∈([]:List BK) from Z) fD,bO,.of_eq hg);show codeAny_mono ((F _ L (T N)).run callerA [] pQ H #[[.ref a],[]] [.ref a] [.ref a] _ _ hr e0 (acZ pQ (.ref a)) (.cons rfl .nil) (tQ H hO hS)) λr Y h=>?_;cases r with
  | error e=>show(c H e Y h).elim
  | ok fl=>
   cases fl with
   | next=>show False.elim h
   | brk=>show False.elim h
   | cont=>show False.elim h
   | ret u=>
    let(v,H',os,E,un,akT,r',q):=h;let q':v=.bl true:=q;subst q';obtain rfl:u=Value.bool true:=r';show(O,OldK.of_keep λb o e=>?_,os,E);cases q:H b with
    | none=>show un.keep b o e q (by intro z;show DQ (show b∈([]:List BK) from z) fD) fD
    | some u=>
     rcases hO b with z|⟨A,xs,z⟩
     ·erw [q] at z
     ·let z2:=un.vQ b A _ z
      let(e1,_):=bO b _ z;let(e2,_):=akT b _ z2;erw [e] at e1;show e2
 cases g:K.lookup a with
 | some o=>
  let e:=KX a o g;erw [M] at e;show core (λ_=>none) (λ_=>.inl rfl) (.inr (_,vs.toArray,_,g,O,O,O,by rwa [NJ,akS],by simpa using rv)) (λb u z=>by have R:(none:Option HO)=some u:=z;cases R) (λb z=>DQ rfl z) λz=>DQ rfl z
 | none=>
  show core (λb=>if b=a then some (.eR {cls:=.type "list",data:=.seq vs.toArray} (.lst (Q.map V.int))) else none) (λb=>?_) (.inl (.inr #[{cls:=.type "list",data:=.seq vs.toArray},ox rfl])) (λb u z=>?_) (λb z=>?_) λ_=>g
  ·by_cases Z:b=a
   ·show .inr (_,_,ox Z)
   ·show .inl (mQ Z)
  ·by_cases Z:b=a
   ·let R:=(ox Z).symm.trans z
    cases R;subst Z;show(M,by rwa [be],vs,_,rv,M)
   ·let R:=(mQ Z).symm.trans z
    cases R
  ·by_cases Z:b=a
   ·show Z
   ·show DQ (mQ Z) z
abbrev KOf {K:Frag}{h:Heap}(_:K.In h):Frag:=K
def inClass (s:Stmt)(j:Nat):Stmt:=match s with
 | .ClassDef _ _ _ Z _ _ _ _ _ _ _=>Z.getD j (.Pass (0,0,0,0))
 | _=>.Pass (0,0,0,0)
def av (s:Stmt):Arguments:=match s with
 | .FunctionDef _ a _ _ _ _ _ _ _ _=>a
 | _=>{posonlyargs:=[],args:=[],vararg:=none,kwonlyargs:=[],kw_defaults:=[],kwarg:=none,defaults:=[]}
def au (s:Stmt):List Stmt:=match s with
 | .FunctionDef _ _ b _ _ _ _ _ _ _=>b
 | _=>[]
def ae (s:Stmt):Scope:=match s with
 | .FunctionDef _ _ _ _ _ _ Z _ _ _=>Z
 | _=>{kind:=.function,names:=[],isGenerator:=false,isCoroutine:=false}
abbrev E0:XK:=λ_ _ _=>False
structure sH (K:Frag)(x qual:Str)(st:Stmt)(f:BK)(fd:FuncData):Prop where
 ex:∃(oc:Value)(od:Κ)(kV doc pm:Value)(an:Κ)(cH ct:Value)(vL:Μ),
  fd=fnOf x qual (av st) (au st) (ae st) .none kV doc pm an cH ct/\K.lookup f=some (oc,od,.func fd,vL)/\codeIn K cH qual=true
 kp:keepIn K (.ref f)=true
section
variable {P:HY}{w:World}{K:Frag}{mg:ν}{lM:Heap}
def sH.binds {st:Stmt}(F:sH K x qual st f fd)
  (h:∀(kV Z Y:Value)(T:Κ)(U X:Value)(us:ο),us.length=ps.length->bindArgs (fnOf x qual (av st) (au st) (ae st) .none kV Z Y T U X) #[us,[]]=pure (ps.zip us)):Binds K fd ps []:=by
 let(N,Q,kV,Z,Y,T,U,X,R,rfl,lk,S):=F.ex;show .all (h kV Z Y T U X)
def eZ {st:Stmt}{R T:Κ}{S:Μ}{kV Z X Y U:Value}(l:K.lookup f=some (oc,R,.func (fnOf x qual (av st) (au st) (ae st) .none kV Z X T Y U),S))
  (c:codeIn K Y qual=true) (k:keepIn K (.ref f)=true):sH K x qual st f (fnOf x qual (av st) (au st) (ae st) .none kV Z X T Y U):=#[(oc,R,kV,Z,X,T,Y,U,S,O,l,c),k]
end
def bP (Z:cQ k A):A.units+1<NS:=IG (Nat.add_le_add_left (by decide:1<=64) _) Z.units
section
variable {X:Cx}
def pv (i:Nat){Z:Pos}(S:X.N[i]?=some x:=by rfl)(U:Vis X.env.scope x:=by first|show Pe rfl|show Rw (Pe rfl)|show Rw (Rw rfl))(T:(x==("__debug__":Str))=false:=by decide)
  (Y:(x==("__classdict__":Str))=false:=by decide):PE X (.Name x Z) (U2 i):=zaP S U T Y
end
def Vk {A B:Prop}(h:B):if false=true then A else B:=by
 rwa [mQ N9]
def Zt {A B:Prop}(h:A):if true=true then A else B:=by
 rwa [ox rfl]
def bq {c A B:Prop}[Decidable c](Y:c->A)(Z:¬ c->B):if c then A else B:=by
 by_cases h:c
 ·rw [ox h]
  show Y h
 ·rw [mQ h]
  show Z h
def tS {c A B:Prop}[Decidable c](Z:c)(h:B):if (!decide c)=true then A else B:=by
 rw [NI Z];show Vk h
def aq (H H':Hp):Prop:=∀b o,H b=some o->H' b=some o
def aq.refl (H:Hp):aq H H:=λ_ _ h=>h
def aq.trans (a:aq H H1)(b:aq H1 H2):aq H H2:=λc o h=>b c o (a c o h)
def aq.free (e:aq H H')(h:H' l=amr):H l=amr:=by
 cases q:H l with
 | none=>rfl
 | some o=>
  erw [e l o q] at h
def aq.seq {K:Frag}(e:aq H H')(h:aT K H a xs):aT K H' a xs:=by
 rcases h with (h|⟨o,h⟩)|h
 ·show .inl (.inl (e _ _ h))
 ·show .inl (.inr #[o,e _ _ h])
 ·show .inr h
end L2
namespace Ty
def gz (t b:Int):Int:=(JZ t b:Nat)
def sg (t b:Int):Int:=if b<0 then -gz t b else gz t b
def low (t b:Int):Int×Int:=(t.fdiv (sg t b),b.fdiv (sg t b))
def zaX (a b:Int):JZ b (a.fmod b)=JZ a b:=by
 rw [akp,Int.gcd_sub_mul_left_right,Int.gcd_comm]
def xk {a b:Int}(h:b≠0):(a.fmod b).natAbs<b.natAbs:=by
 rcases LV b 0 with q|q|q
 ·let X:(-a).fmod (-b)= -(a.fmod b):=by
   rw [akp,akp,Int.neg_fdiv_neg,Int.neg_mul];omega
  let Y:=Qr (-a) (show 0 < -b by omega);let Z:=ajw (-a) (show 0 < -b by omega);omega
 ·show DQ q h
 ·let Y:=Qr a q
  let Z:=ajw a q;omega
def yf (h:b≠0):0<gz t b:=by
 have:=alq.mpr (Rw h:t≠0\/b≠0);change (0:Int)<((JZ t b:Nat):Int);omega
def ac0 (h:b≠0):(gz t b).natAbs<=b.natAbs:=by
 let Z:JZ t b ∣ b.natAbs:=Q8.mpr (Ze t b);let Y:=Nat.le_of_dvd ce Z;change ((JZ t b:Nat):Int).natAbs<=_;omega
def tV (h:b≠0):sg t b≠0:=by
 have:=yf (t:=t) h;unfold sg;split<;>omega
def adO :(sg t b).natAbs=(gz t b).natAbs:=by
 unfold sg;split
 ·show aj3 _
 ·rfl
def abl (t b:Int):sg t b ∣ t:=by
 unfold sg gz;split
 ·show Int.neg_dvd.mpr (Zk t b)
 ·show Zk t b
def adY (t b:Int):sg t b ∣ b:=by
 unfold sg gz;split
 ·show Int.neg_dvd.mpr (Ze t b)
 ·show Ze t b
def dc {a g:Int}(h:g≠0)(d:g ∣ a):a=g*a.fdiv g:=by
 let(c,Z):=d;have:=afH h Z;rwa [this]
def sI (h:b≠0):t=sg t b*(low t b).1:=dc (tV h) (abl t b)
def oz (h:b≠0):b=sg t b*(low t b).2:=dc (tV h) (adY t b)
def oA (h:b≠0):0<(low t b).2:=by
 let e:=oz (t:=t) h;let g:=yf (t:=t) h
 rcases LV (low t b).2 0 with q|q|q
 ·exfalso
  by_cases c:b<0
  ·let s:sg t b= -gz t b:=by unfold sg;rw [ox c]
   rw [s] at e;have:=Int.mul_pos_of_neg_of_neg (show -gz t b<0 by omega) q;omega
  ·let s:sg t b=gz t b:=by unfold sg;rw [mQ c]
   rw [s] at e;have:=ajz g q;omega
 ·exfalso
  rw [q,α3] at e;show h e
 ·show q
def agA (h:b≠0):(low t b).1*b=t*(low t b).2:=by
 let Y:=sI (t:=t) h;let Z:=oz (t:=t) h
 calc (low t b).1*b=(low t b).1*(sg t b*(low t b).2):=by rw [<-Z]
  _=sg t b*(low t b).1*(low t b).2:=by rw [<-vV,VF (low t b).1]
  _=t*(low t b).2:=by rw [<-Y]
def sJ (h:b≠0):JZ (low t b).1 (low t b).2=1:=by
 let X:=sI (t:=t) h;let Y:=oz (t:=t) h
 let k:JZ t b=(sg t b).natAbs*JZ (low t b).1 (low t b).2:=by
  let q:=ald (sg t b) (low t b).1 (low t b).2;rwa [<-X,<-Y] at q
 let g:(sg t b).natAbs=JZ t b:=by
  rw [adO];rfl
 let p:=alq.mpr (Rw h:t≠0\/b≠0);rw [g] at k;let Z:JZ t b*1=JZ t b*JZ (low t b).1 (low t b).2:=by rwa [Nat.mul_one]
 show(Nat.eq_of_mul_eq_mul_left p Z).symm
def fF {g a:Int}(h:g≠0):a.natAbs<=(g*a).natAbs:=by
 rw [VH];have:1<=g.natAbs:=ce
 have:=Q3 a.natAbs this;omega
def tW (h:b≠0):(low t b).1.natAbs<=t.natAbs:=by
 let e:=sI (t:=t) h;have:=fF (g:=sg t b) (a:=(low t b).1) (tV h);rwa [<-e] at this
def tX (h:b≠0):(low t b).2.natAbs<=b.natAbs:=by
 let e:=oz (t:=t) h;have:=fF (g:=sg t b) (a:=(low t b).2) (tV h);rwa [<-e] at this
def aeq (Y:g≠0)(X:t=g*x)(Z:b=g*y)(U:0<y)(S:JZ x y=1):low t b=(x,y):=by
 let T:b≠0:=by
  rw [Z];show alr Y ce
 let R:JZ t b=g.natAbs:=by
  rw [X,Z,ald,S,Nat.mul_one]
 let s:sg t b=g:=by
  unfold sg gz;rw [R];by_cases c:g<0
  ·have:b<0:=by rw [Z];show Int.mul_neg_of_neg_of_pos c U
   rw [ox this];omega
  ·have:¬ b<0:=by
    have:=Int.mul_nonneg (show 0<=g by omega) (show 0<=y by omega);omega
   rw [mQ this];omega
 unfold low;rw [s];rw [afH Y X,afH Y Z]
def oB (Z:0<y)(h:JZ x y=1):low x y=(x,y):=aeq (g:=1) cr ce ce Z h
def xl (Z:k≠0)(h:b≠0):low (k*t) (k*b)=low t b:=by
 show aeq (g:=k*sg t b) (alr Z (tV h)) ?_ ?_ (oA h) (sJ h)
 ·rw [vV]
  show pU (k*·) (sI h)
 ·rw [vV]
  show pU (k*·) (oz h)
def ajj (Y:b≠0)(Z:c≠0)(h:t*c=u*b):low t b=low u c:=by
 rw [<-xl (t:=t) (b:=b) Z Y,<-xl (t:=u) (b:=c) Y Z];rw [VF c t,h,VF u b,VF c b]
end Ty
set_option maxHeartbeats 4000000
namespace Ty
open PySem PySem.Spec PyProof.Rows L2
open Builtin.Int (intBits)
section
variable {X:Cx}
def tY (i j:Int):Prop:=intBits i<=33554432/\intBits j<=33554432
def bX:kc X (QF .Mult) (rI tY λi j=>.int (i*j)):=
 opI λ_ _ _ _ _ _ _ Z q=>mul_int q (IntMulOk.of_le Z.1 Z.2 cr)
def ac1 (i j:Int):Prop:=j≠0/\intBits j<=9000
def akU (h:intBits j<=9000):Builtin.divisionGoesByPylong i j=false:=by
 show PyProof.noPylong_of_log2 ?_;let Y:=intBits_le_iff.mp h;by_cases Z:j.natAbs=0
 ·rw [Z]
  decide+kernel
 ·show(Nat.log2_lt Z).mpr Y
def oC:kc X (QF .FloorDiv) (rI ac1 λi j=>.int (i.fdiv j)):=
 opI λ_ _ _ _ _ _ _ Z q=>floordiv_int Z.1 q (.inl (akU Z.2))
end
inductive Da where
 | v (x:V)
 | t (Z:List Da)
 | l (Z:List Da)
mutual
def Is (K:Frag)(H:Hp):Da->V->Prop
 | .v x,u=>u=x/\iY x=true
 | .t Z,u=>∃p xs,u=.ref p/\bL K H p xs/\mj K H Z xs
 | .l Z,u=>∃p xs,u=.ref p/\aT K H p xs/\mj K H Z xs
def mj (K:Frag)(H:Hp):List Da->List V->Prop
 | [],[]=>True
 | d::Z,x::xs=>Is K H d x/\mj K H Z xs
 | _,_=>False
end
mutual
def ku:Da->Da->Bool
 | .v x,.v y=>rY x y
 | .t Y,.t Z=>d9 Y Z
 | .l Y,.l Z=>d9 Y Z
 | _,_=>false
def d9:List Da->List Da->Bool
 | [],[]=>true
 | d::Y,e::Z=>ku d e && d9 Y Z
 | _,_=>false
end
mutual
def alike:Da->Da->Bool
 | .v _,.v _=>true
 | .t Y,.t Z=>f' Y Z
 | .l Y,.l Z=>f' Y Z
 | _,_=>false
def f':List Da->List Da->Bool
 | d::Y,e::Z=>alike d e && f' Y Z
 | _,_=>true
end
mutual
def dep:Da->Nat
 | .v _=>0
 | .t Z=>mZ Z+1
 | .l Z=>mZ Z+1
def mZ:List Da->Nat
 | []=>0
 | d::Z=>max (dep d) (mZ Z)
end
theorem mj.length {K:Frag}:∀{Z:List Da} {xs:ε},mj K H Z xs->Z.length=xs.length
 | [],[],_=>rfl
 | _::_,_::_,h=>pU (·+1) (mj.length (by unfold mj at h;show h.2))
 | [],_::_,h=>by unfold mj at h;show h.elim
 | _::_,[],h=>by unfold mj at h;show h.elim
def kX (Y Z:List Da)(j:Nat):Bool:=match Y[j]?,Z[j]? with
 | some d,some e=>ku d e
 | _,_=>true
theorem e_:∀Y Z:List Da,d9 Y Z=((JJ (min Y.length Z.length)).all (kX Y Z) && Y.length==Z.length)
 | [],[]=>rfl
 | [],_::_=>by simp [d9]
 | _::_,[]=>by simp [d9]
 | d::Y,e::Z=>by
  let U:=e_ Y Z;let r:min (d::Y).length (e::Z).length=min Y.length Z.length+1:=by simp [Nat.succ_min_succ]
  rw [r,ajP,vX,akr];let S:kX (d::Y) (e::Z) 0=ku d e:=rfl
  let T:(kX (d::Y) (e::Z) ∘ Nat.succ)=kX Y Z:=by
   funext j;rfl
  let X:((d::Y).length==(e::Z).length)=(Y.length==Z.length):=by simp
  rw [S,T,X,Bool.and_assoc,<-U];rfl
section
variable {X:Cx}{pX:ζ}{Y:L2.St}{H:Hp}{s:DI}
def zaT (h:iY x=true):rY x x=true:=by
 cases x<;>first|rfl|(simp [rY];done)|(cases h;done)
mutual
theorem yh (I:Inv X pX Y H s):∀(d e:Da)(x:V),Is X.K H d x->Is X.K H e x->alike d e=true->ku d e=true
 | .v a,.v b,x,U,Z,_=>by
  unfold Is at U Z;let(rfl,f):=U;let(rfl,_):=Z;unfold ku;show zaT f
 | .t M,.t P,x,U,Z,a=>by
  unfold Is at U Z;let(p,xs,rfl,S,Q):=U;let(J,L,N,T,R):=Z;cases N;cases I.jk S T;unfold ku;unfold alike at a;show tZ I M P xs Q R a
 | .l M,.l P,x,U,Z,a=>by
  unfold Is at U Z;let(p,xs,rfl,S,Q):=U;let(J,L,N,T,R):=Z;cases N;cases I.jh S T;unfold ku;unfold alike at a;show tZ I M P xs Q R a
 | .v _,.t _,_,_,_,a=>by unfold alike at a;cases a
 | .v _,.l _,_,_,_,a=>by unfold alike at a;cases a
 | .t _,.v _,_,_,_,a=>by unfold alike at a;cases a
 | .t _,.l _,_,_,_,a=>by unfold alike at a;cases a
 | .l _,.v _,_,_,_,a=>by unfold alike at a;cases a
 | .l _,.t _,_,_,_,a=>by unfold alike at a;cases a
theorem tZ (I:Inv X pX Y H s):∀(S T:List Da)(xs:ε),mj X.K H S xs->mj X.K H T xs->f' S T=true->d9 S T=true
 | [],[],_,_,_,_=>by unfold d9;rfl
 | d::S,e::T,x::xs,Z,U,a=>by
  unfold mj at Z U;unfold f' at a;rw [Vq] at a;unfold d9;rw [yh I d e x Z.1 U.1 a.1,tZ I S T xs Z.2 U.2 a.2];rfl
 | [],_::_,[],_,U,_=>by unfold mj at U;show U.elim
 | [],_::_,_::_,Z,_,_=>by unfold mj at Z;show Z.elim
 | _::_,[],[],Z,_,_=>by unfold mj at Z;show Z.elim
 | _::_,[],_::_,_,U,_=>by unfold mj at U;show U.elim
 | _::_,_::_,[],Z,_,_=>by unfold mj at Z;show Z.elim
end
def in1_units (A:JI):A.in1.units=A.units+1:=rfl
mutual
theorem ajM (I:Inv X pX Y H s):∀(d e:Da)(x y:V)(u w:Value)(A:JI),Is X.K H d x->Is X.K H e y->alike d e=true->RelV x u->RelV y w->A.units+dep d<NS->Vb A s u w (ku d e)
 | .v a,.v b,x,y,u,w,A,U,Z,_,J,L,_=>by
  unfold Is at U Z;let(rfl,f1):=U;let(rfl,f2):=Z;unfold ku;show HM J L f1 f2
 | .t M,.t N,x,y,u,w,A,U,Z,a,J,L,C=>by
  have g :=U;let T:=Z;unfold Is at U Z;let(p,xs,rfl,k,P):=U;let(i,o,rfl,m,Q):=Z;cases J;cases L;by_cases e:p=i
  ·subst e
   rw [yh I _ _ _ g T a];show .same _
  ·show .of_refs e ?_
   let(q,R,D,_):=I.tuple k;let(B,S,E,_):=I.tuple m;unfold ku;rw [e_,P.length,Q.length,R.length,S.length]
   let z:=SeqAt.RcAt.tuples (A:=A) (e:=kX M N) D E (by unfold dep at C;omega) λj c f=>by
    unfold dep at C;unfold alike at a;show iK I M N xs o q B A.in1 P Q a R S (by rw [in1_units];omega) j (by simpa using c) (by simpa using f)
   simpa using z
 | .l M,.l N,x,y,u,w,A,U,Z,a,J,L,C=>by
  have g :=U;let T:=Z;unfold Is at U Z;let(p,xs,rfl,k,P):=U;let(i,o,rfl,m,Q):=Z;cases J;cases L;by_cases e:p=i
  ·subst e
   rw [yh I _ _ _ g T a];show .same _
  ·show .of_refs e ?_
   let(q,R,D,_):=I.list k;let(B,S,E,_):=I.list m;unfold ku;unfold dep at C;unfold alike at a;by_cases G:q.length=B.length
   ·rw [e_,P.length,Q.length,R.length,S.length]
    let z:=SeqAt.RcAt.lists (A:=A) (e:=kX M N) D.isList E.isList (by simpa using G) ce λj c f=>
     iK I M N xs o q B A.in1 P Q a R S (by rw [in1_units];omega) j (by simpa using c) (by simpa using f)
    rw [G,LB,beq_self_eq_true,aj'];rwa [NJ,G] at z
   ·let ne:d9 M N=false:=by
     rw [e_,P.length,Q.length,R.length,S.length,beq_eq_false_iff_ne.mpr G,DX]
    rw [ne];show SeqAt.RcAt.lists_lengths D.isList E.isList (by simpa using G) ce
 | .v _,.t _,_,_,_,_,_,_,_,a,_,_,_=>by unfold alike at a;cases a
 | .v _,.l _,_,_,_,_,_,_,_,a,_,_,_=>by unfold alike at a;cases a
 | .t _,.v _,_,_,_,_,_,_,_,a,_,_,_=>by unfold alike at a;cases a
 | .t _,.l _,_,_,_,_,_,_,_,a,_,_,_=>by unfold alike at a;cases a
 | .l _,.v _,_,_,_,_,_,_,_,a,_,_,_=>by unfold alike at a;cases a
 | .l _,.t _,_,_,_,_,_,_,_,a,_,_,_=>by unfold alike at a;cases a
theorem iK (I:Inv X pX Y H s):∀(T Q:List Da)(xs ys:ε)(us ws:ο)(A:JI),mj X.K H T xs->mj X.K H Q ys->f' T Q=true->Vals xs us->Vals ys ws->A.units+mZ T<NS->
  ∀(j:Nat)(N:j<us.length)(P:j<ws.length),Vb A s us[j] ws[j] (kX T Q j)
 | d::T,e::Q,xs,ys,us,ws,A,U,Z,a,R,S,J,j,N,P=>by
  cases xs with
  | nil=>unfold mj at U;show U.elim
  | cons x xs=>
   cases ys with
   | nil=>unfold mj at Z;show Z.elim
   | cons y ys=>
    cases R with
    | cons L R=>
     cases S with
     | cons M S=>
      unfold mj at U Z;unfold f' at a;rw [Vq] at a;unfold mZ at J;cases j with
      | zero=>show ajM I d e x y _ _ A U.1 Z.1 a.1 L M ce
      | succ j=>show iK I T Q xs ys _ _ A U.2 Z.2 a.2 R S ce j (by simpa using N) (by simpa using P)
 | [],_,xs,_,us,_,_,U,_,_,R,_,_,_,N,_=>by
  cases xs with
  | nil=>
   cases R;show DQ N (VJ _)
  | cons x xs=>unfold mj at U;show U.elim
 | _::_,[],_,ys,_,ws,_,_,Z,_,_,S,_,_,_,P=>by
  cases ys with
  | nil=>
   cases S;show DQ P (VJ _)
  | cons y ys=>unfold mj at Z;show Z.elim
end
end
section
variable {X:Cx}
inductive X1 (K:Frag)(x:V)(y:V)(H:Hp)(Q:VK):Prop
|mk (Z Y:_)(_:((Is K H (.t Z) x/\Is K H (.t Y) y)\/(Is K H (.l Z) x/\Is K H (.l Y) y)))(_:f' Z Y=true)(_:mZ Z<=60)(_:Q (.bl (d9 Z Y)) H)
inductive LG (K:Frag)(x:V)(y:V)(H:Hp)(Q:VK):Prop
|mk (Z Y:_)(_:((Is K H (.t Z) x/\Is K H (.t Y) y)\/(Is K H (.l Z) x/\Is K H (.l Y) y)))(_:f' Z Y=true)(_:mZ Z<=60)(_:Q (.bl (!d9 Z Y)) H)
def aj7 (hu:X.A.units+64<NS):kc X (NR .Eq) (X1 X.K):=by
 intro b s Y H x y v u Q I g i h;let(U,Z,h,a,hd,q):=h
 rcases h with ⟨M,N⟩|⟨M,N⟩
 ·unfold Is at M N
  let(p,xs,rfl,o,P):=M;let(f,C,rfl,B,R):=N;cases g;cases i;let(D,S,G,_):=I.tuple o;let(E,T,J,_):=I.tuple B
  let z:=SeqAt.RcAt.tuples (A:=X.A) (e:=kX U Z) G J ce λj k m=>
   iK I U Z xs C D E X.A.in1 P R a S T (by rw [in1_units];omega) j (by simpa using k) (by simpa using m)
  show z X.prog X.w X.xe _ (.bl _,H,I,O,?_);let e:=e_ U Z;rw [P.length,R.length,S.length,T.length] at e;simpa [e] using q
 ·unfold Is at M N
  let(p,xs,rfl,o,P):=M;let(f,C,rfl,B,R):=N;cases g;cases i;let(D,S,G,_):=I.list o;let(E,T,J,_):=I.list B;let e:=e_ U Z;rw [P.length,R.length,S.length,T.length] at e;by_cases L:D.length=E.length
  ·let z:=SeqAt.RcAt.lists (A:=X.A) (e:=kX U Z) G.isList J.isList (by simpa using L) ce λj k m=>
    iK I U Z xs C D E X.A.in1 P R a S T (by rw [in1_units];omega) j (by simpa using k) (by simpa using m)
   show z X.prog X.w X.xe _ (.bl _,H,I,O,?_);rw [L,LB,beq_self_eq_true,aj'] at e;simpa [e,L] using q
  ·let c:d9 U Z=false:=by rw [e,beq_eq_false_iff_ne.mpr L,DX]
   rw [c] at q;show SeqAt.RcAt.lists_lengths G.isList J.isList (by simpa using L) ce X.prog X.w X.xe _ (.bl _,H,I,O,q)
def oE (hu:X.A.units+64<NS):kc X (NR .NotEq) (LG X.K):=by
 intro b s Y H x y v u Q I g i h;let(U,Z,h,a,hd,q):=h
 rcases h with ⟨M,N⟩|⟨M,N⟩
 ·unfold Is at M N
  let(p,xs,rfl,o,P):=M;let(f,C,rfl,B,R):=N;cases g;cases i;let(D,S,G,_):=I.tuple o;let(E,T,J,_):=I.tuple B
  let z:=SeqAt.RcNeAt.tuples (A:=X.A) (e:=kX U Z) G J ce λj k m=>
   iK I U Z xs C D E X.A.in1 P R a S T (by rw [in1_units];omega) j (by simpa using k) (by simpa using m)
  show z X.prog X.w X.xe _ (.bl _,H,I,O,?_);let e:=e_ U Z;rw [P.length,R.length,S.length,T.length] at e;simpa [e] using q
 ·unfold Is at M N
  let(p,xs,rfl,o,P):=M;let(f,C,rfl,B,R):=N;cases g;cases i;let(D,S,G,_):=I.list o;let(E,T,J,_):=I.list B;let e:=e_ U Z;rw [P.length,R.length,S.length,T.length] at e;by_cases L:D.length=E.length
  ·let z:=SeqAt.RcNeAt.lists (A:=X.A) (e:=kX U Z) G.isList J.isList (by simpa using L) ce λj k m=>
    iK I U Z xs C D E X.A.in1 P R a S T (by rw [in1_units];omega) j (by simpa using k) (by simpa using m)
   show z X.prog X.w X.xe _ (.bl _,H,I,O,?_);rw [L,LB,beq_self_eq_true,aj'] at e;simpa [e,L] using q
  ·let c:d9 U Z=false:=by rw [e,beq_eq_false_iff_ne.mpr L,DX]
   rw [c] at q;show SeqAt.RcNeAt.lists_lengths G.isList J.isList (by simpa using L) ce X.prog X.w X.xe _ (.bl _,H,I,O,q)
def Zv:V->Value
 | .ty n=>.type n
 | .ref a=>.ref a
 | _=>.none
def X2:V->Bool
 | .ty _=>true
 | .ref _=>true
 | _=>false
def aj5 (h:X2 c=true)(r:RelV c u):u=Zv c:=by
 cases c<;>first|show r|(cases h;done)
inductive ac3 (K:Frag)(xs:ε)(H:Hp)(Q:VK):Prop
|mk (x c t b:_)(_:xs=[x,c])(_:X2 c=true)(_:qi K H x t)(_:Pj K t (Zv c)=some b)(_:Q (.bl b) H)
def fG:gP X (.builtin "isinstance") (ac3 X.K):=by
 intro P s Y H xs R Q I r h;let(x,c,t,b,rfl,S,ty,e,q):=h;let(u,w,rfl,T,U):=vals2 r;obtain rfl:=aj5 S U;show agN I T ty e λZ=>(.bl b,H,I.tok Z,O,q)
end
section
variable {K:Frag}
def zaa (h:((Value.type a==Value.type b)=true->v=true)/\((Value.type a==Value.type b)=false->PySem.W.kitMeta b=true/\(fastBuiltinMro a).map (·.contains (Value.type b))=some v)):Pj K (.type a) (.type b)=some v:=by
 unfold Pj;by_cases e:(Value.type a==Value.type b)=true
 ·rw [ox e,h.1 e]
 ·rw [mQ e]
  let(Z,Y):=h.2 (by simpa using e);unfold PySem.W.kitCls;dsimp only;rwa [ox Z]
end
def bV:NW "len"=some (.builtin "len"):=by decide+kernel
def X3:NW "abs"=some (.builtin "abs"):=by decide+kernel
def b9:NW "isinstance"=some (.builtin "isinstance"):=by decide+kernel
def QS:NW "all"=some (.builtin "all"):=by decide+kernel
def LJ:NW "int"=some (.type "int"):=by decide+kernel
def ac6:NW "bool"=some (.type "bool"):=by decide+kernel
def ac4:NW "str"=some (.type "str"):=by decide+kernel
def jJ:NW "list"=some (.type "list"):=by decide+kernel
def oF:NW "tuple"=some (.type "tuple"):=by decide+kernel
def qk:NW "dict"=some (.type "dict"):=by decide+kernel
def kY {Z:Pos}(S:Gl X x)(T:X.mg x=none)(Y:NW x=some (.type n))(U:x≠ "__name__":=by decide)(R:(x==("__debug__":Str))=false:=by decide):PE X (.Name x Z) (tC (.ty n)):=agE (v:=.ty n) S T Y rfl U R
def Zx (_ j:Int):Prop:=j≠0
def nz (h:j≠0):Zx i j:=h
def eO :kc X (QF .Mod) (rI Zx λi j=>.int (i.fmod j)):=ac8
def aim :mZ [.v a,.v b]<=60:=by simp [mZ,dep]
end Ty
namespace TyAtt
open PySem PySem.W PySem.Calls PyProof.Rows
open Builtin.Int (intBits)
def ag6 {Z:ξ}(h:(WData.list (Z.map WData.int)).layable=true)(U:n∈Z):intBits n<=1048576:=by
 let(_,_,X):=layableW_iff.mp h
 let a:∀(l:ξ),n∈l->intBits n<=WData.weightAll (l.map WData.int):=by
  intro l
  induction l with
  | nil=>intro q;cases q
  | cons y r Y=>
   intro q;rw [ED];unfold WData.weightAll
   rcases JP.mp q with z|z
   ·subst z
    have:intBits n<=WData.weight (.int n):=by
     unfold WData.weight;show DH _
    omega
   ·have:=Y z
    omega
 let b:=a Z U;unfold WData.weight at X;omega
def CD {l:OpenLaw}{Y:ς}
  (x:l.most=some n) (E:d.params.defaults=[])
  (call:∀(w:World)(L Z:DI)(mg J:ν)(Q:BK)(o:Obj)(M N U:Value)(a:BK)(vs:ο)(T:ξ),
   Ground q Y [] XP w L mg J Z.heap->YP w Z.heap->
   Z.heap.get? Q=some o->o.data=.func (docDef d.name d.params d.body d.scope M N U)->Z.heap.CodeRec N d.name->mg d.name=some (.ref Q)->
   Z.heap.get? a=some {cls:=.type "list",data:=.seq vs.toArray}->IntsAre vs T->T.length<=n->(∀i∈T,intBits i<=1048576)->Z.gens= #[]->
   Np (CL l.prog w) callerA (.call (.ref Q) #[[.ref a],[]]) (λr P=>r=.ok (.ret (.bool true))/\OldK Z.heap P.heap/\P.os=Z.os/\SR P.gens) Z):
  WalkO q Y XP YP l.row.toRowW d [] (λf vs=>PySem.call f vs):=by
 intro w L Z mg J G σ Q o M N U dV kV y j B C H k args D as Vi R A I p;obtain rfl:dV=.none:=Dflts.none C E;obtain rfl:kV=.none:=Dflts.noKw C;let(a,vs,T,rfl,rfl,Zy,X,S):=Att.Nt x Vi I;let g:∀i∈T,intBits i<=1048576:=λi m=>ag6 (layW_cons R).1 m;show enter_call (codeAny_mono (call w L Z mg J Q o M N U a vs T G σ y (fd_plain j) B H Zy X S g k) λr P z=>?_);let(rfl,h2,b,c):=z;show(.inl (.bool true,.bool true,[],O,λ_=>O,.bool true,Att.Nu l _,λ_=>#[List.Pairwise.nil,λ_ u=>(nomatch u)]),h2,b,c)
end TyAtt
namespace Ty
open PySem PySem.Spec PyProof.Rows L2
open Builtin.Int (intBits)
structure Fn (P:HY)(w:World)(K:Frag)(mg:ν)(lM:Heap)(CX:oh)(k:Nat)(x:Str)(ps:ς)(sp:Sp):Prop where
 ex:∃(f:BK)(fd:FuncData),dR P w K mg lM CX k f fd ps sp/\Binds K fd ps []/\mg x=some (.ref f)/\keepIn K (.ref f)=true
structure Def (K:Frag)(mg:ν)(x:Str)(st:Stmt)(ps:ς):Prop where
 ex:∃(f:BK)(dV oc:Value)(od:Κ)(kV doc pm:Value)(an:Κ)(cH ct:Value)(vL:Μ),
  K.lookup f=some (oc,od,.func (fnOf x x (av st) (au st) (ae st) dV kV doc pm an cH ct),vL)/\codeIn K cH x=true/\keepIn K (.ref f)=true/\
  Binds K (fnOf x x (av st) (au st) (ae st) dV kV doc pm an cH ct) ps []/\mg x=some (.ref f)
def Def.of {K:Frag}{st:Stmt}(F:sH K x x st f fd)(b:Binds K fd ps [])(m:mg x=some (.ref f)):Def K mg x st ps:=by
 let(S,T,kV,Z,U,P,Q,R,X,rfl,lk,Y):=F.ex;show(f,.none,S,T,kV,Z,U,P,Q,R,X,lk,Y,F.kp,b,m)
section
variable {P:HY}{w:World}{K:Frag}{mg:ν}{lM:Heap}{CX:oh}
def Def.ok {st:Stmt}(D:Def K mg x st ps)(S:ay N ps (ae st))(X:∀vs H Q E,sp vs H Q E->vs.length=ps.length)
  (M:∀(f:BK)(Z:Value)(A:JI)(Y:List Env)(s:DI)(H:Hp)(vs:ε)(Q:VK)(E:XK),cQ k (A.deeper (Pf x (ae st) s.heap.objs.size f Z))->sp vs H Q E->
   ∃t,rV (mi CX P w K mg lM N x (ae st) f Z A Y s H E).BE (au st) t/\t {nx:=λ_ I=>Q .cW I,rt:=Q} (start N vs) H):Fn P w K mg lM CX (k+1) x ps sp:=by
 let(f,y,z,B,kV,J,C,p,Z,u,G,lk,U,R,b,m):=D.ex;show(f,_,Ly lk U S X λA Y s H vs Q E L T=>?_,b,m,R);let(t,h,q):=M f Z A Y s H vs Q E L T;show(t,h.BE,q)
def _root_.L2.sH.okG {st:Stmt}(F:sH K x x st f fd)(S:ay N ps (ae st))(X:∀vs H Q E,sp vs H Q E->vs.length=ps.length)
  (R:∀(Z:Value)(A:JI)(Y:List Env)(s:DI)(H:Hp)(vs:ε)(Q:VK)(E:XK),cQ k (A.deeper (Pf x (ae st) s.heap.objs.size f Z))->sp vs H Q E->
   ∃t,rV (mi CX P w K mg lM N x (ae st) f Z A Y s H E).BE (au st) t/\t {nx:=λ_ J=>Q .cW J,rt:=Q} (start N vs) H):dR P w K mg lM CX (k+1) f fd ps sp:=by
 let(C,D,kV,L,G,z,Z,B,I,rfl,lk,U):=F.ex;show Ly lk U S X λA Y s H vs Q E M T=>?_;let(t,h,q):=R Z A Y s H vs Q E M T;show(t,h.BE,q)
def vW (CX:oh):Prop:=∀Y H s e Z,CX Y H s E0 e Z ->False
def oG {X:Cx}(h:vW CX):Passes CX X.BE E0:=λ_ _ _ _ _ _ _ q=>(h _ _ _ _ _ q).elim
section
variable {X:Cx}{k:Nat}{ps:ς}{sp:Sp}{E:XK}{x:Str}{p pos:Pos}{e:Expr}{es:Ε}{t:TA}
def mF (F:Fn X.prog X.w X.K X.mg X.lM CX k x ps sp)(S:cQ k X.A)(T:Passes CX X E)(N:PA X (e::es) t)(R:Gl X x:=by rfl)(Z:(x==("__debug__":Str))=false:=by decide)
  (Q:HE (e::es) X.env=(false,EI e X.env)::HE es X.env:=by rfl) (Y:(NK pos (HE es X.env)).any (·.1)=false:=by rfl):PE X (.Call (.Name x p) (e::es) [] pos) (Lw sp [] E t):=by
 let(f,M,G,b,m,U):=F.ex;show agy G S R m U b .nil T N Z Q Y
end
end
def QT (K:Frag):Sp:=λY H Q _=>∃(a:BK)(Z:ξ),Y=[.ref a]/\aT K H a (Z.map V.int)/\Z.length<=63/\(∀i∈Z,intBits i<=1048576)/\∀X,Q (.bl true) X
def walk {l:PySem.W.OpenLaw}{Y:ς}{K:Params->Frag}{CX:World->oh}
  (E:l.most=some 63) (R:d.params.defaults=[]) (C:importsNone q=true) (I:cQ k callerA)
  (z:∀(w:World)(h:Heap),YP w h->(K w.params).In h) (D:∀w,vW (CX w))
  (F:∀(w:World)(mg:ν)(U:BK)(h:Heap),(K w.params).In h->h.Ns HL mg->mg d.name=some (.ref U)->
   ∃P:FuncData,(∀(s:DI)(u:Value),BindsTo s P #[[u],[]] [(x,u)])/\
    ∀lM:Heap,(K w.params).In lM->lM.Ns HL mg->dR l.prog w (K w.params) mg lM (CX w) k U P [x] (QT (K w.params))):
  PySem.W.WalkO q Y XP YP l.row.toRowW d [] (λf vs=>PySem.call f vs):=by
 show TyAtt.CD E R λw pV L mg mb U o c cd m a vs J G σ ho hd i S j X Z A B=>?_;let N:=z w _ σ;let(P,Q,p):=F w mg U _ N G.T.g S;show ab0 N G.T.g G.T.b G.T.builtins G.T.nolimit (G.T.seer C) B j X (EE Z cr) I p Q (λH hO y=>(a,J,O,y,Z,A,λ_=>O)) λH e M=>D w [] H L e M
end Ty
namespace Ty
open PySem PySem.Spec PyProof.Rows L2
def DictAt (h:Heap)(a:BK)(Z:Κ):Prop:=∃o,h.get? a=some o/\o.dict=Z
def aX (P:HY)(w:World):oh:=λX H s E e Z=>∃(a:BK)(cls S:Value)(U:Κ)(Y:Hp)(B:Heap),
 e=.ref a/\Heap.FlyingW B X a cls S Z.heap/\DictAt Z.heap a U/\Un (KU X) [] H Y s.heap Z.heap/\mE P w Y Z.heap/\Z.os=s.os/\SR Z.gens/\
 (∀b o,s.heap.get? b=some o->b∉KU X->∃T,B.get? b=some T)/\(∀b u,Y b=some u->∃o,B.get? b=some o)/\E cls U Y
def aX.HQ :vW (aX P w):=λ_ _ _ _ _ h=>by let(_,_,_,_,_,_,_,_,_,_,_,_,_,_,_,z):=h;show z
section
variable {P:HY}{w:World}{K:Frag}{mg:ν}{lM:Heap}{N:ς}{qual:Str}{scope:Scope}{f:BK}{cH:Value}{A:JI}{mO:List Env}{s0:DI}{H0:Hp}{E:XK}
abbrev vw (P:HY)(w:World)(K:Frag)(mg:ν)(lM:Heap)(N:ς)(qual:Str)(scope:Scope)(f:BK)(cH:Value)(A:JI)(mO:List Env)(s0:DI)(H0:Hp)(E:XK):Cx:=mi (aX P w) P w K mg lM N qual scope f cH A mO s0 H0 E
end
section
variable {X:Cx}{pX:ζ}{Y:L2.St}{H H':Hp}{s:DI}
def XP (X:Cx)(pX:ζ)(Y:L2.St)(E:XK)(e:Value)(Z:DI):Prop:=∃H s,Inv X pX Y H s/\aX X.prog X.w X.stack H s E e Z
end
set_option maxHeartbeats 1000000
section
variable {prog:HY}{w:World}{A:JI}{R:Ρ}{s:DI}
def adR {Y:Ε}(I:Nat->DI->Prop)
  (X:∀n s,I n s->CB (CL prog w) A (Nw it) (λr Q=>match r with
   | none=>R (.ok .next) Q
   | some v=>CB (CL prog w) A (LK target it v) (λ_ U =>CB (CL prog w) A (assign target env v) (λ_ L=>
     CB (CL prog w) A (forIn Y true λc r=>if r=true then do let T <- isTrue c env (EI c env);pure (ForInStep.yield T) else pure (ForInStep.yield r)) (λT S=>
      if T=true then CB (CL prog w) A (EI elt env) (λx M=>
       CB (CL prog w) A (call (.builtin "list.append") [acc,x]) (λ_ N=>∃m,m<n/\I m N) (λ_ _=>False) M) (λ_ _=>False) S
      else ∃m,m<n/\I m S) (λ_ _=>False) L) (λ_ _=>False) U) (λ_ _=>False) Q) (λ_ _=>False) s)
  (n:Nat) (h:I n s):
  Np (CL prog w) A (.compLoop (.ListComp elt [(target,iter,Y,0)] scope pos) 0 it acc env) R s:=by
 show codeAny_loop rfl I (λn s C=>?_) n h;change CB _ A ((compTurn (.ListComp elt [(target,iter,Y,0)] scope pos) 0 it acc env).onRaise (λx=>do noteFrame x env;theTreesLotGoes x)) _ _ s;show wpAny_noted ?_;rw [compTurn_list];show BL (wpAny_standAt (BL (NZ (X n s C) (λr Q J=>?_) λ_ _ Z=>Z.elim)));cases r with
 | none=>show DT J
 | some v=>
  show BL (NZ J (λ_ U P =>?_) λ_ _ Z=>Z.elim);show BL (NZ P (λ_ L G=>BL (NZ G (λT S H=>?_) λ_ _ Z=>Z.elim)) λ_ _ Z=>Z.elim);cases T with
  | false=>show DT #[O,H]
  | true=>
   show BL (BL (NZ H (λx M D=>BL (NZ D (λ_ N E=>DT (DT #[O,E])) λ_ _ Z=>Z.elim)) λ_ _ Z=>Z.elim))
end
def bx (Z:Env)(fr:ς):List (Str×BK):=fr.filterMap λn=>(Z.cells.lookup n).map λc=>(n,c)
theorem lookup_mem {Z:Type}{c:Z}:∀{l:List (Str×Z)},l.lookup x=some c->(x,c)∈l
 | [],h=>by simp at h
 | (y,d)::r,h=>by
  rw [ya] at h;cases e:x==y with
  | true=>
   rw [e] at h;let Y:x=y:=by simpa using e
   cases h;rw [Y];show IU
  | false=>
   rw [e] at h;show IH _ (lookup_mem h)
def abT (h:(x,c)∈bx env fr):env.cells.lookup x=some c:=by
 let(n,_,e):=ajv.mp h;cases q:env.cells.lookup n with
 | none=>erw [q] at e
 | some d=>
  rw [q] at e;let Z:(n,d)=(x,c):=JB e;cases Z;show q
def iF (h:(bx env fr).lookup x=some c):env.cells.lookup x=some c:=abT (lookup_mem h)
theorem qm (q:env.cells.lookup x=some c):∀{fr:ς},x∈fr->(bx env fr).lookup x=some c
 | [],h=>nomatch h
 | y::r,h=>by
  unfold bx;rw [Zu];by_cases e:x=y
  ·subst e
   rw [q];simp
  ·let X:x∈r:=by
    rcases JP.mp h with z|z
    ·show DQ z e
    ·show z
   let Y:=qm q X;cases z:env.cells.lookup y with
   | none=>show Y
   | some d=>
    change RA x ((y,d)::_)=_;rw [ya];let Z:(x==y)=false:=by simpa using e
    rwa [Z]
def h_ (Z:Env):List Str->Prop
 | []=>True
 | y::r=>(Z.kindOf y=some .cell\/Z.kindOf y=some .free)/\h_ Z r
theorem h_.at :∀{fr:ς},h_ env fr->x∈fr->env.kindOf x=some .cell\/env.kindOf x=some .free
 | [],_,h=>nomatch h
 | y::r,a,h=>by
  rcases JP.mp h with z|z
  ·rw [z]
   show a.1
  ·show h_.at a.2 z
section
variable {X:Cx}
def yj (X:Cx)(T:ς)(Z:Scope)(fn:Str->Bool)(U:List (Str×BK))(C:BK)(s:DI)(H:Hp)(Y:ψ):Cx:=
 {prog:=X.prog,w:=X.w,K:=X.K,mg:=X.mg,lM:=X.lM,A:=X.A,N:=T,pV:=s,H₀:=H,env:=compEnvC Z U C X.env,mO:=X.stack,stack:=X.stack,ex:=Y,fn:=fn,calm:=X.calm,pn:=[],xe:=λ_ _=>False}
abbrev sL (X:Cx)(T:ς)(Z:Scope)(U:List (Str×BK))(C:BK)(s:DI)(H:Hp)(Y:ψ):Cx:=yj X T Z (λ_=>false) U C s H Y
structure QU (X:Cx)(scope:Scope)(ow:BK->List (Str×BK))(fn:Str->Bool)(fr:ς)(pO:Ω):Prop where
 Nz:closureFor scope X.env=pure (bx X.env fr)
 kind:scope.kind=.function
 names:∀y∈scope.names,y.2=.local->scope.names.lookup y.1=some .local
 free:∀y∈scope.names,y.2=.free->y.1∈fr
 pO:pO.map (λi=>X.N[i]?)=fr.map some
 out:h_ X.env fr
 inn:h_ (compEnvC scope [] 0 X.env) fr
 new:∀{s:DI} {Q:Env->DI->Prop} {E:δ},(∀h',h'.Ns s.heap.objs.size (λ_=>none)->(∀b o,s.heap.get? b=some o->h'.get? b=some o)->(∀x c,(ow s.heap.objs.size).lookup x=some c->h'.IsCell c none)->
   Q (newEnv scope s.heap.objs.size X.env.globals (ow s.heap.objs.size++bx X.env fr) X.env.qual none .none (some X.env) α6) {s with heap:=h',toks:=s.toks+([]:List (Str×Value)).length})->
  CB (CL X.prog X.w) X.A (DR scope X.env.globals (bx X.env fr) [] X.env.qual none .none (some X.env)) Q E s
 ge:∀C x c,(ow C).lookup x=some c->C<c
 one:∀C x z c,(ow C).lookup x=some c->(ow C).lookup z=some c->x=z
 fn1:∀C x,fn x=true->(ow C).lookup x≠none
 only:∀z∈scope.names,z.2=.cell->fn z.1=true
 ny:∀C,∀x∈fr,(ow C).lookup x=none
def xm {o Z:List (Str×BK)}(h:(o++Z).lookup x=some c):o.lookup x=some c\/(o.lookup x=none/\Z.lookup x=some c):=by
 rw [ajy] at h;cases e:o.lookup x with
 | none=>rw [e] at h;show .inr #[O,h]
 | some d=>rw [e] at h;show .inl h
structure yk (X:Cx)(scope:Scope)(fr:ς)(pO:Ω):Prop where
 Nz:closureFor scope X.env=pure (bx X.env fr)
 cell:∀y∈scope.names,y.2≠.cell
 kind:scope.kind=.function
 names:∀y∈scope.names,y.2=.local->scope.names.lookup y.1=some .local
 free:∀y∈scope.names,y.2=.free->y.1∈fr
 pO:pO.map (λi=>X.N[i]?)=fr.map some
 out:h_ X.env fr
 inn:h_ (compEnvC scope [] 0 X.env) fr
def PF (X:Cx)(Z:Ε)(t:TT):Prop:=
 ∀(U:ζ)(s:DI)(Y:L2.St)(H:Hp)(Q:Bool->Hp->Prop),Inv X U Y H s->t Y H Q->
  CB (CL X.prog X.w) X.A (forIn Z true λc r=>if r=true then do let T <- isTrue c X.env (EI c X.env);pure (ForInStep.yield T) else pure (ForInStep.yield r)) (TP X U Y Q) X.xe s
def kz:TT:=λ_ H Q=>Q true H
def t_:PF X [] kz:=λ_ _ _ H _ I h=>wpAny_tests_nil (H,I,h)
def HR (h:PT X c t):PF X [c] t:=λZ s Y H Q I q=>wpAny_tests_one (h Z s Y H Q I q)
def sB (k:Nat)(pO:Ω)(Y:L2.St):L2.St:=IV k none++pO.map λi=>(Y[i]?).getD none
def mm (D:BK)(g:TG)(M:TT)(L:TE)(J:It)(I:L2.St)(G:Hp)(Q:VK):Prop:=∃W:Nat->Nat->L2.St->List V->Hp->Prop,
 (∃m,W 0 m I [] (upd G D (.lst [])))/\∀i m S Z U,W i m S Z U->(J.stop i U/\Q (.ref D) U)\/(J.go i U/\∀x N,J.GV i U x N->g x S N λT H=>M T H λb P=>
  if b=true then L T P λv R=>R D=some (.lst Z)/\Z.length<DC/\∃Y,Y<m/\W (i+1) Y T (Z++[v]) (upd R D (.lst (Z++[v]))) else ∃Y,Y<m/\W (i+1) Y T Z P)
def oH (k:Nat)(pO:Ω)(U:TI)(g:TG)(T:TT)(S:TE):TE:=λY H Q=>U Y H λJ Z=>∀D,Z D=none->mm D g T S J (sB k pO Y) Z Q
def ac2 (h:(sB k pO Y)[i]?=some (some v)):k<=i/\∃j,pO[i-k]?=some j/\Y[j]?=some (some v):=by
 unfold sB at h;by_cases c:i<k
 ·rw [NG (by simpa using c),VN,ox c] at h
  cases h
 ·rw [NQ (by simpa using ajG c),Rp,CP] at h
  show#[ajG c,?_];cases e:pO[i-k]? with
  | none=>erw [e] at h
  | some j=>
   rw [e] at h;show(j,O,?_);let Z:(Y[j]?).getD none=some v:=JB h;cases z:Y[j]? with
   | none=>erw [z] at Z
   | some o=>
    rw [z] at Z;show pU some Z
def ua {Y:L2.St}
    {RR:Value->BK->Result->DI->Prop} {E:δ} (hc:X.calm=true) (B:QU X scope ow fn fr pO)
  (hg:∀C s H U,PG (yj X (tn++fr) scope fn (ow C++bx X.env fr) C s H U) target g) (ht:∀C s H U,PF (yj X (tn++fr) scope fn (ow C++bx X.env fr) C s H U) ifs tt) (he:∀C s H U,PE (yj X (tn++fr) scope fn (ow C++bx X.env fr) C s H U) elt te)
  (I2:Inv X pX Y H2 s2) (T:Turn X.prog X.w X.K target J U it X4) (j_:X4 0 s2.heap) (f2:∀b∈U,nZ X pX H2 b) (q:∀D,H2 D=none->mm D g tt te J (sB tn.length pO Y) H2 Q)
  (fin:∀D C H' G m,Inv X pX Y H' G ->G.heap.Ns C m->nZ X pX H' C->Q (.ref D) H' ->RR (.ref D) C (.ok .next) G):
  CB (CL X.prog X.w) X.A (newList []) (λacc s₃=>CB (CL X.prog X.w) X.A (DR scope X.env.globals (bx X.env fr) [] X.env.qual none .none (some X.env)) (λac7 s₄=>
   Np (CL X.prog X.w) X.A (.compStart (.ListComp elt [(target,iter,ifs,0)] scope pos) 0 (.ref it) acc {ac7 with scope:=relabel scope X.env}) (RR acc ac7.locals) s₄) E s₃) E s2:=by
 show U3 (B.new (λrQ ZA hk₁ hc₁=>?_));let S:Inv X pX Y (upd H2 s2.heap.objs.size (.lst [])) {s2 with heap:=s2.heap.push {cls:=.type "list",data:=.seq ([]:List Value).toArray}}:=I2.Zr (t':=s2.toks) (BN:=[]) .nil (NF _);let(W,(m0,w0),turn):=q s2.heap.objs.size (I2.bO.fresh (DH _));generalize hH3:upd H2 s2.heap.objs.size (.lst [])=P at S w0
 let f3:∀b∈U,nZ X pX P b:=λb Z=>by
  let(a0,a1):=f2 b Z;show#[?_,a1];let(o,e,_):=T.obj _ _ j_ b Z;rwa [<-hH3,aj (N8 (HF e))]
 generalize hD:s2.heap.objs.size=D at*;generalize hs3:({s2 with heap:=s2.heap.push {cls:=.type "list",data:=.seq ([]:List Value).toArray}}:DI)=R at*;let e3:R.heap=s2.heap.push {cls:=.type "list",data:=.seq ([]:List Value).toArray}:=by rw [<-hs3]
 let BR:X4 0 R.heap:=T.keep _ _ _ j_ λb _ o e=>by rw [e3];show GY _ e
 let M:∀b o,R.heap.get? b=some o->rQ.get? b=some o:=λb o e=>hk₁ b o e;generalize hC:R.heap.objs.size=C at*;let I:R.heap.objs.size<=C:=LF hC;let I4:Inv X pX Y P {R with heap:=rQ,toks:=R.toks+([]:List (Str×Value)).length}:=S.kept M
 let fpC:∀b∈U,b≠C:=λb Z z=>by
  let(o,e,_):=T.obj _ _ BR b Z;show DQ z (N8 (NU (HF e) I))
 let nst:∀b∈U,b∉KU X.stack:=λb Z z=>(JP.mp (S.GQ b z)).elim (f3 b Z).2.1 (f3 b Z).2.2.1
 let old:∀x c,(bx X.env fr).lookup x=some c->c<C:=λx c e=>by
  let(v,ic):=S.cell x c (iF e);rw [<-hC];show ic.lt
 let akZ:∀x z c,(ow C++bx X.env fr).lookup x=some c->(ow C++bx X.env fr).lookup z=some c->x=z:=λx z c e1 e2=>by
  rcases xm e1 with L|⟨_,L⟩<;>rcases xm e2 with b2|⟨_,b2⟩
  ·show B.one _ _ _ _ L b2
  ·show DQ (old z c b2) (Nat.lt_asymm (B.ge _ _ _ L))
  ·show DQ (old x c L) (Nat.lt_asymm (B.ge _ _ _ b2))
  ·show S.ok.inj x z c (iF L) (iF b2)
 let ak0:∀x c,fn x=true->(ow C++bx X.env fr).lookup x=some c->R.heap.objs.size<=c:=λx c f e=>by
  rcases xm e with L|⟨a1,L⟩
  ·show EE (LF hC) (QM (B.ge _ _ _ L))
  ·show DQ a1 (B.fn1 C x f)
 let nfp:∀b∈U,∀x c,(ow C++bx X.env fr).lookup x=some c->c≠b:=λb Z x c e=>by
  rcases xm e with L|⟨a1,L⟩
  ·let(o,eo,_):=T.obj _ _ BR b Z
   have:=HF eo;rw [hC] at this;show G' (N8 (uq this (B.ge _ _ _ L)))
  ·show(f3 b Z).2.2.2.2.1 x c (iF L)
 let ac9:∀{x:Str} {c:BK},x∈fr->(bx X.env fr).lookup x=some c->(ow C++bx X.env fr).lookup x=some c:=λ{x c} f e=>by
  rwa [ajy,B.ny C x f]
 let okB:(yj X (tn++fr) scope fn (ow C++bx X.env fr) C R P U).Ok:=by
  show(S.ok.mod,B.kind,S.ok.glob,S.ok.blt,I,akZ,λx f=>?_,ak0,S.ok.hd,S.ok.frames,.inl rfl,
   λb Z=>#[fpC b Z,λx c e=>nfp b Z x c e],S.bs,EE S.ok.UY S.sz,λb o e Z=>?_,nst,S.stack,S.KW)
  ·let hm:∃k,(x,k)∈scope.names/\k≠.local/\(k=.cell\/k=.free):=by
    have:∃k',(relabel scope X.env).names.lookup x=some k'/\(k'=.cell\/k'=.free):=by
     rcases f with z|z
     ·show(_,z,.inl rfl)
     ·show(_,z,.inr rfl)
    let(k',e',h'):=this;let((n,k),hn,en):=DA.mp (lookup_mem e');dsimp only at en;by_cases cc:(k==NameKind.free && X.env.scope.kind==.function && X.env.kindOf n==some .cell)=true
    ·rw [ox cc] at en
     cases en
     let kf:k=.free:=by
      rw [Vq,Vq] at cc;simpa using cc.1.1
     show(k,hn,(by intro z;erw [kf] at z),.inr kf)
    ·rw [mQ cc] at en
     cases en;show(k',hn,λz'=>by rcases h' with y|y<;>(erw [y] at z'),h')
   let(k,hk,_,h2):=hm
   rcases h2 with z|z
   ·cases e:(ow C).lookup x with
    | none=>show DQ e (B.fn1 C x (B.only _ hk z))
    | some c=>show#[c,by change RA x (ow C++_)=_;rw [ajy,e];rfl]
   ·let hf:=B.free _ hk z
    let(c,ec):=S.ok.has x (B.out.at hf);show#[c,ac9 hf (qm ec hf)]
  ·let(_,_,_,h1,_):=f3 b Z
   rcases h1 with z|z
   ·show S.ok.Qp b o e z
   ·show Q0 _ (NU (NU (HF e) S.ok.UY) z)
 let IB:Inv (yj X (tn++fr) scope fn (ow C++bx X.env fr) C R P U) [] (sB tn.length pO Y) P {R with heap:=rQ,toks:=R.toks+([]:List (Str×Value)).length}:=by
  show(okB,O,S.bare,Un.kept M,(_,ZA,λi x v e1 e2 _=>?_),λx c e=>(xm e).elim (λz=>#[none,hc₁ x c z]) (λz=>I4.cell x c (iF z.2)),?_,λx c e=>(xm e).elim (λz=>S.bO.fresh (EE I (QM (B.ge _ _ _ z)))) (λz=>S.jg x c (iF z.2)),λp hp=>(nomatch hp),S.bO.kept M,?_)
  ·let(hk,j,ej,es):=ac2 e2
   have NA :fr[i-tn.length]?=some x:=by
    let z:(tn++fr)[i]?=some x:=e1;rwa [NQ hk] at z
   let f:x∈fr:=Wp NA
   let eN:X.N[j]?=some x:=by
    let z:=pU (λl:List (Option Str)=>l[i-tn.length]?) B.pO;simp only [CP,ej,NA,ZY] at z;show JB z
   let ko:=B.out.at f;let(m,hn,hl):=I4.loc;let(u,r,lk):=hl j x v eN es (by rcases ko with z|z;show .inr (.inl z);show .inr (.inr z));show(u,r,?_)
   rcases lk with ⟨k1,_⟩|⟨_,c,ec,ic⟩
   ·rcases ko with z|z<;>(erw [z] at k1)
   ·show .inr (B.inn.at f,c,ac9 f (qm ec f),ic)
  ·show S.bO.fresh I
  ·have:=pU Ri B.pO
   simp only [be] at this;change (sB tn.length pO Y).length=(tn++fr).length;unfold sB;simp [this]
 let QV:∀{H':Hp},(∀b∈U,H' b=none)->∀b∈U,nZ (yj X (tn++fr) scope fn (ow C++bx X.env fr) C R P U) [] H' b:=λhn b Z=>
  (hn b Z,fpC b Z,nst b Z,.inl Z,nfp b Z,λp hp=>(nomatch hp))
 let LL:X4 0 rQ:=T.keep _ _ _ BR λb _ o e=>M b o e
 let loop:Np (CL X.prog X.w) X.A (.compLoop (.ListComp elt [(target,iter,ifs,0)] scope pos) 0 (.ref it) (.ref D) (compEnvC scope (ow C++bx X.env fr) C X.env)) (RR (.ref D) C) {R with heap:=rQ,toks:=R.toks+([]:List (Str×Value)).length}:=by
  show adR (λn G=>∃i Y' ys H',Inv (yj X (tn++fr) scope fn (ow C++bx X.env fr) C R P U) [] Y' H' G/\X4 i G.heap/\(∀b∈U,H' b=none)/\W i n Y' ys H') ?_ m0 (0,_,[],P,IB,LL,λb Z=>(f3 b Z).1,w0);rintro n s5 ⟨i,Y5,ys,H5,I5,Nj,KZ,w5⟩
  rcases turn i n Y5 ys H5 w5 with ⟨stop,qn⟩|⟨go,step⟩
  ·show NZ (T.done (yj X (tn++fr) scope fn (ow C++bx X.env fr) C R P U) rfl rfl rfl hc i [] s5 Y5 H5 (λ_ _=>False) I5 (QV KZ) Nj stop) (λr s6 ⟨hr,I6⟩=>?_) λ_ _ z=>z
   subst hr;let(m,hn,_):=I6.loc;let J6:Inv X pX Y H5 s6:=S.acy (ch:=U) I6.os I6.lM I6.bO I6.bare λb Z=>((f3 b Z).2.2.2.1,(f3 b Z).2.1,(f3 b Z).2.2.2.2.1,(f3 b Z).2.2.2.2.2);show fin D C H5 s6 m J6 hn (S.mS I I6.free) qn
  ·show NZ (T.item (yj X (tn++fr) scope fn (ow C++bx X.env fr) C R P U) rfl rfl rfl hc i [] s5 Y5 H5 (λ_ _=>False) I5 (QV KZ) Nj go) (λr s6 ⟨u,hr,h6⟩=>?_) λ_ _ z=>z
   subst hr;show NZ h6 (λ_ s7 ⟨x,H7,I7,r7,y7,nQ,fr7⟩=>?_) λ_ _ z=>z;let I7':=I7.pinned (QV fr7) (T.obj _ _ nQ)
   let held:∀{Y' :L2.St} {H':Hp} {G:DI},Inv (yj X (tn++fr) scope fn (ow C++bx X.env fr) C R P U) ([]++tK U s7.heap) Y' H' G ->X4 (i+1) G.heap/\∀b∈U,H' b=none:=λ{Y' H' G} I'=>by
    show#[T.keep _ _ _ nQ λb Z o e=>(I'.pin (b,o) (QP _ (QP _ (jH Z e)))).1,λb Z=>?_];let(o,e,d):=T.obj _ _ nQ b Z;show(I'.pin (b,o) (QP _ (QP _ (jH Z e)))).2.1
   show NZ (hg C R P U _ s7 Y5 H7 x u _ I7' r7 (step x H7 y7)) (λ_ s8 ⟨Y8,H8,I8,q8⟩=>?_) λ_ _ z=>z;show NZ (ht C R P U _ s8 Y8 H8 _ I8 q8) (λok s9 ⟨H9,I9,q9⟩=>?_) λ_ _ z=>z;cases ok with
   | false=>
    rw [mQ N9] at q9;let(m',hm,w9):=q9;rw [mQ N9];let(a,b):=held I9;show(m',hm,i+1,Y8,ys,H9,I9.kN,a,b,w9)
   | true=>
    rw [ox rfl] at q9;rw [ox rfl];show NZ (he C R P U _ s9 Y8 H9 _ I9 q9) (λv nR ⟨y9,BF,I10,r10,hDD,hl,m',hm,w10⟩=>?_) λ_ _ z=>z;show NZ (dD (X:=yj X (tn++fr) scope fn (ow C++bx X.env fr) C R P U) _ nR Y8 BF (.ref D) [y9] (.ref D) [v] (λ_ H'=>W (i+1) m' Y8 (ys++[y9]) H') I10 rfl (.cons r10 .nil) (D,ys,y9,O,O,hDD,hl,w10)) (λ_ xo ⟨z,CG,I11,_,q11⟩=>?_) λ_ _ z=>z;let(a,b):=held I11;show(m',hm,i+1,Y8,ys++[y9],CG,I11.kN,a,b,q11)
 show codeAny_compStart_list loop (T.self X.A 0 _ _ _ LL loop)
def aca (p:X.calm=true)(B:QU X scope ow fn fr pO)(z:PI X target iter wi)
  (y:∀C s H Z,PG (yj X (tn++fr) scope fn (ow C++bx X.env fr) C s H Z) target g) (L:∀C s H Z,PF (yj X (tn++fr) scope fn (ow C++bx X.env fr) C s H Z) ifs tt) (u:∀C s H Z,PE (yj X (tn++fr) scope fn (ow C++bx X.env fr) C s H Z) elt te)
  (G:∀x,Sq iter X.env x=pure x:=by intro _;rfl):PE X (.ListComp elt [(target,iter,ifs,0)] scope pos) (oH tn.length pO wi g tt te):=by
 intro S s Y H Q I h;rw [eval_ListComp];show wpAny_comprehension_free (use:=none) rfl G B.Nz B.kind B.names (cK (z S s Y H _ I h) λv s1 i=>cK i λM s2 j=>?_);let(it,Z,X4,J,H2,rfl,I2,T,N,f2,q):=j;show ua (Q:=Q) (RR:=λU C=>compPost (CL X.prog X.w) X.A X.xe none (EP X S Y Q) U C) p B y L u I2 T N f2 q ?_;intro D C H' R m I' E fc P;let(g0,g1,g2,a,c,f):=fc;show(m,E,λh' X5 =>(.ref D,H',I'.turned (t':=R.toks) (λb o k e=>(X5.2 b k).trans e) g0 g1 a c f,O,P))
def zaR {E:Pos}(hN:X.N.Nodup)(Vl:X.N[i]?=some y)(hx:Loc X.env.scope y)
  (hc:X.calm=true) (B:QU X scope ow fn fr pO) (hi:PI X target iter wi)
  (hg:∀C s H Z,PG (yj X (tn++fr) scope fn (ow C++bx X.env fr) C s H Z) target g) (ht:∀C s H Z,PF (yj X (tn++fr) scope fn (ow C++bx X.env fr) C s H Z) ifs tt) (he:∀C s H Z,PE (yj X (tn++fr) scope fn (ow C++bx X.env fr) C s H Z) elt te)
  (GH:Rx (.ListComp elt [(target,iter,ifs,0)] scope pos) (some (.Name y py)) E.line X.env=pure true:=by rfl)
  (hs:∀x,Sq iter X.env x=pure x:=by intro _;rfl) (hf:X.fn y=true\/X.env.scope.names.lookup y=some .local:=by first|show .inl rfl|show .inr rfl|assumption):
  PS X (.Assign [.Name y py] (.ListComp elt [(target,iter,ifs,0)] scope pos) E) (BP (oH tn.length pO wi g tt te) (cE i)):=by
 intro R s Y H D I h;rw [exec_Assign_Name_used _ _ _ _ GH];show BL (wpAny_standAt (BL ?_));change CB _ X.A (do let _ <- comprehension (.ListComp elt [(target,iter,ifs,0)] scope pos) scope X.env _ (newList []) false (EI iter X.env) (some (assign (.Name y py) X.env))) _ _ s
 show BL (NZ (wpAny_comprehension_free (use:=some (assign (.Name y py) X.env)) (Q:=λ_ U=>SP X R D .next U) rfl hs B.Nz B.kind B.names
  (cK (hi R s Y H _ I h) λv s1 h1=>cK h1 λitv s2 h2=>?_)) (λ_ U hq=>DT (DT hq)) λ_ _ e=>e)
 let(it,Z,X4,J,H2,rfl,I2,T,c,f2,q):=h2;show ua (Q:=λv H1=>cE i v Y H1 D.nx) (RR:=λM C=>compPost (CL X.prog X.w) X.A X.xe (some (assign (.Name y py) X.env)) (λ_ U=>SP X R D .next U) M C) hc B hg ht he I2 T c f2 q ?_;intro G C H' U m I' hn fc f;let(g0,k,g2,g3,p,g5):=fc;change CB _ X.A (assign (.Name y py) X.env (.ref G)) _ _ _;show wpAny_assign_Name (w8 I' hN Vl hx (v:=.ref G) (u:=.ref G) rfl (λS L ⟨a,j,ha⟩=>?_) hf)
 let P:C≠a:=by
  rcases ha with z|z
  ·rw [z]
   show k
  ·show λe=>p y a z e.symm
 show(m,hn.sameBut j P,λh' X5 =>(_,H',L.turned (t':=S.toks) (λb o hb e=>(X5.2 b hb).trans e) g0 k g3 p g5,f))
def yk.g {pO:Ω}(B:yk X scope fr pO):QU X scope (λ_=>[]) (λ_=>false) fr pO:=
 (B.Nz,B.kind,B.names,B.free,B.pO,B.out,B.inn,λS=>wpAny_newFunctionEnv B.cell (by intro y T;simp at T) (λY R Z=>S Y R (λb o e=>(Z.2 b (N8 (HF e))).trans (GY _ e)) λ_ _ z=>(nomatch z)) B.kind,
  λ_ _ _ z=>(nomatch z),λ_ _ _ _ z=>(nomatch z),λ_ _ z=>(nomatch z),λz U e=>DQ e (B.cell z U),λ_ _ _=>O)
def aii (Q:X.calm=true)(B:yk X scope fr pO)(T:PI X target iter wi)
  (S:∀C s H Z,PG (sL X (tn++fr) scope (bx X.env fr) C s H Z) target g) (Y:∀C s H Z,PF (sL X (tn++fr) scope (bx X.env fr) C s H Z) ifs tt) (R:∀C s H Z,PE (sL X (tn++fr) scope (bx X.env fr) C s H Z) elt te)
  (U:∀x,Sq iter X.env x=pure x:=by intro _;rfl):PE X (.ListComp elt [(target,iter,ifs,0)] scope pos) (oH tn.length pO wi g tt te):=
 aca Q B.g T S Y R U
def aib {Y:Pos}(J:X.N.Nodup)(I:X.N[i]?=some y)(U:Loc X.env.scope y)
  (L:X.calm=true) (B:yk X scope fr pO) (R:PI X target iter wi)
  (Q:∀C s H Z,PG (sL X (tn++fr) scope (bx X.env fr) C s H Z) target g) (T:∀C s H Z,PF (sL X (tn++fr) scope (bx X.env fr) C s H Z) ifs tt) (M:∀C s H Z,PE (sL X (tn++fr) scope (bx X.env fr) C s H Z) elt te)
  (G:Rx (.ListComp elt [(target,iter,ifs,0)] scope pos) (some (.Name y py)) Y.line X.env=pure true:=by rfl)
  (S:∀x,Sq iter X.env x=pure x:=by intro _;rfl) (P:X.fn y=true\/X.env.scope.names.lookup y=some .local:=by first|show .inl rfl|show .inr rfl|assumption):
  PS X (.Assign [.Name y py] (.ListComp elt [(target,iter,ifs,0)] scope pos) Y) (BP (oH tn.length pO wi g tt te) (cE i)):=
 zaR J I U L B.g R Q T M G S P
end
section
variable {D:BK}{te:TE}{pS:L2.St}{H1:Hp}{Q:VK}
def yl (n:Nat)(xs:Nat->V)(Z:Nat->List V->Hp->Prop)(N:Z 0 [] (upd H1 D (.lst [])))
  (M:∀i ys H,i<n->Z i ys H->J.go i H/\∀x H',J.GV i H x H' ->H'=H/\x=xs i) (stop:∀ys H,Z n ys H->J.stop n H)
  (S:∀i ys H (R:VK),i<n->Z i ys H->H D=some (.lst ys)->(∀v X,X D=some (.lst ys)->ys.length<DC->Z (i+1) (ys++[v]) (upd X D (.lst (ys++[v])))->R v X)->te (some (xs i)::pS) H R)
  (P:∀ys H,Z n ys H->H D=some (.lst ys)->Q (.ref D) H):mm D (cE 0) kz te J (none::pS) H1 Q:=by
 show(λi m Y ys H=>m=n-i/\i<=n/\(∃o,Y=o::pS)/\Z i ys H/\H D=some (.lst ys),(n,by simp,NF _,#[none,O],N,ak),?_);rintro i m Y ys H ⟨rfl,C,⟨o,rfl⟩,p,T⟩;by_cases U:i<n
 ·let(I,L):=M i ys H U p
  show .inr #[I,λx H' y=>?_];let(E,G):=L x H' y;subst E G;unfold cE kz;dsimp only;rw [ox rfl];show S i ys _ _ U p T λv X a b c=>(a,b,n-(i+1),ce,O,ce,#[_,O],c,ak)
 ·let e:i=n:=ce
  subst e;show .inl #[stop ys H p,P ys H p T]
end
structure Mk0 (K:Frag)(C:BK):Prop where
 makes:Vm K C=true
 init:NT K (.ref C) "__init__"=some (some (.builtin "object.__init__"))
 kp:keepIn K (.ref C)=true
def ada (C:BK):TE:=λ_ H Q=>∀x Z,H x=none->H Z=none->Z≠x->Q (.ref x) (upd (upd H Z (.own x)) x (.ins C Z []))
section
variable {X:Cx}
def agP {Y:L2.St}(M:Mk0 X.K C)(I:Inv X pX Y H s)(h:ada C Y H Q):CB (CL X.prog X.w) X.A (call (.ref C) []) (EP X pX Y Q) X.xe s:=by
 let S:=h (s.heap.objs.size+1) s.heap.objs.size (I.bO.fresh (vn _)) (I.bO.fresh (DH _)) (N8 (QW _));let P:=Inv.made (C:=C) I;have σ:=PySem.W.makes_of (M:=CL X.prog X.w) I.mR M.makes;show wpAny_call (acm I.mR M.makes M.init (λZ=>PySem.W.Looks.of_pure (PySem.W.oi_bind Z)) ?_)
 let R:((s.heap.push QE).push (QD C s.heap.objs.size)).get? (s.heap.objs.size+1)=some (QD C s.heap.objs.size):=by
  have:=JO (s.heap.push QE) (o:=QD C s.heap.objs.size) rfl
  rwa [Pk] at this
 let T:PySem.W.Looks (CL X.prog X.w) ((s.heap.push QE).push (QD C s.heap.objs.size)) (typeOf (.ref (s.heap.objs.size+1))) (.ref C):=(PySem.W.Looks.ld R).andThen .now
 let U:PySem.W.Looks (CL X.prog X.w) ((s.heap.push QE).push (QD C s.heap.objs.size)) (isInstance (.ref (s.heap.objs.size+1)) (.type "object")) true:=
  T.andThen (σ.top.keeps λb o e=>GY _ (GY _ e))
 show codeAny_call_builtin PySem.W.oi_plain PySem.W.entry_oi (@PySem.W.check_slot (CL X.prog X.w) _ _ _ "object.__init__" "object" "__init__" (.ref (s.heap.objs.size+1)) [] [] _ PySem.W.oi_kind PySem.W.oi_split U (PySem.W.oi_args (.ref (s.heap.objs.size+1))) ?_);rw [PySem.W.oi_run];show DT (And.intro rfl ⟨V.ref (s.heap.objs.size+1),_,P,rfl,S⟩)
def ahn (M:Mk0 X.K C)(T:Gl X x)(U:X.mg x=some (.ref C))(Z:(x==("__debug__":Str))=false:=by decide):PE X (.Call (.Name x p) [] [] pos) (ada C):=by
 intro S s Y H Q I h;show ZP (nX I T U ?_ Z);show PySem.W.callWith_K0 I.mR M.kp (agP M I h)
end
structure bQ (P:HY)(w:World)(K:Frag)(mg:ν)(lM:Heap)(CX:oh)(k:Nat)(C:BK)(m:Str)(ps:ς)(sp:Sp):Prop where
 ex:∃(f:BK)(fd:FuncData),BW K C/\Meth K C m f/\dR P w K mg lM CX k f fd ps sp/\Binds K fd ps []
theorem bQ.mono {K:Frag}(M:bQ P w K mg lM CX j C m ps sp)(h:j<=k):bQ P w K mg lM CX k C m ps sp:=by
 let(f,Z,a,b,c,d):=M.ex;show(f,Z,a,b,c.mono h,d)
section
variable {X:Cx}{CX:oh}{k:Nat}{E:XK}{m:Str}{pos apos:Pos}{e o:Expr}{es:Ε}{ta:TE}{t:TA}
inductive X6 (P:HY)(w:World)(K:Frag)(mg:ν)(lM:Heap)(CX:oh)(k:Nat)(m:Str)(E:XK)(t:TA)(Y:L2.St)(Q:VK)(x:V)(T:Hp):Prop
|mk (a C S U ps Z:_)(_:x=.ref a)(_:T a=some (.ins C S U))(_:U.lookup m=none)(_:bQ P w K mg lM CX k C m ps Z)(_:t Y T λvs R=>Z (x::vs) R Q E)
def adb (P:HY)(w:World)(K:Frag)(mg:ν)(lM:Heap)(CX:oh)(k:Nat)(m:Str)(E:XK)(ta:TE)(t:TA):TE:=λY H Q=>ta Y H λx Z=>X6 P w K mg lM CX k m E t Y Q x Z
def fk (J:PE X o ta)(L:cQ k X.A)(P:Passes CX X E)
  (N:EI (.Call (.Attribute o m apos) [] [] pos) X.env=(do
   let U <- EI o X.env
   standAt apos.atName
   let (f,first) <- V8 [U] (getMethod U m pl)
   callWith pos f first (NK pos (HE [] X.env)) (backToKw pos (ZG [] X.env))):=by rfl):
  PE X (.Call (.Attribute o m apos) [] [] pos) (adb X.prog X.w X.K X.mg X.lM CX k m E ta gQ):=by
 intro R s Y H Q I h;show PySem.W.methodCall_KW (pl:=pl) (cK (J R s Y H _ I h) λu y ⟨x,b,Z,S,a,C,g,j,p,z,D,B,l,M,q⟩=>?_) N;subst D;obtain rfl:u=Value.ref a:=S;let(f,i,c,T,F,G):=M.ex;show mV Z B c T l ?_;show PySem.W.callWith_K0 (first:=[.ref a]) Z.mR T.kp (x9 (us:=[.ref a]) (vs:=[.ref a]) (so:=[]) F L G .nil P Z (.cons rfl .nil) q)
def fe {pl:Sem Bool}(B:PE X o ta)(D:cQ k X.A)(J:Passes CX X E)(y:PA X (e::es) t)
  (i:HE (e::es) X.env=(false,EI e X.env)::HE es X.env:=by rfl) (L:(NK pos (HE es X.env)).any (·.1)=false:=by rfl)
  (G:EI (.Call (.Attribute o m apos) (e::es) [] pos) X.env=(do
   let U <- EI o X.env
   standAt apos.atName
   let (f,first) <- V8 [U] (getMethod U m pl)
   callWith pos f first (NK pos (HE (e::es) X.env)) (backToKw pos (ZG [] X.env))):=by rfl):
  PE X (.Call (.Attribute o m apos) (e::es) [] pos) (adb X.prog X.w X.K X.mg X.lM CX k m E ta t):=by
 intro Z s Y H Q I h;show PySem.W.methodCall_KW (pl:=pl) (cK (B Z s Y H _ I h) λu P ⟨x,g,R,N,a,C,dx,fs,ps,b,p,j,l,M,q⟩=>?_) G;subst p;obtain rfl:u=Value.ref a:=N;let(f,fd,c,T,F,z):=M.ex;show mV R j c T l ?_;show Me (first:=[.ref a]) (h₀:=X.lM) I.ok.mod.kin T.kp (cK (y pos Z P Y g _ R q) λus s2 ⟨vs,H2,S,r,q2⟩=>#[S.mR,?_]) i L;show x9 (us:=.ref a::us) (vs:=.ref a::vs) (so:=[]) F D z .nil J S (.cons rfl r) ?_;rwa [Wn]
end
def ade (h:vW CX)(e:X.xe=λ_ _=>False):Passes CX X E0:=λ_ _ _ _ _ _ _ q=>(h _ _ _ _ _ q).elim
section
variable {X:Cx}
inductive adf (x:V)(lo:Υ)(Z:Υ)(H:Hp)(Q:VK):Prop
|mk (z:_)(_:x=.str z)(_:z.length<=DC)(_:Q (.str (Txt.slice z lo Z)) H)
def ahJ:SlR X adf:=by
 intro L s Y H x v vl N lo J M Q I S T P R h;let(z,rfl,U,q):=h;let(t,rfl):=S;show("str",_,F.slot_str_getitem.lookup,typeIs_str _ _ _,?_);cases P<;>cases R
 ·show MD (l:=none) (u:=none) (st:=none) T rfl (LS #[EE (Txt.slice_le z _ _) U,λZ k=>(.str _,H,I.tok k,#[Z,O],q)])
 ·rename_i j uj
  show MD (l:=none) (u:=some (j,uj)) (st:=none) T rfl (LS #[EE (Txt.slice_le z _ _) U,λZ k=>(.str _,H,I.tok k,#[Z,O],q)])
 ·rename_i i ui
  show MD (l:=some (i,ui)) (u:=none) (st:=none) T rfl (LS #[EE (Txt.slice_le z _ _) U,λZ k=>(.str _,H,I.tok k,#[Z,O],q)])
 ·rename_i i ui j uj
  show MD (l:=some (i,ui)) (u:=some (j,uj)) (st:=none) T rfl (LS #[EE (Txt.slice_le z _ _) U,λZ k=>(.str _,H,I.tok k,#[Z,O],q)])
inductive X7 (x:V)(y:V)(H:Hp)(Q:VK):Prop
|mk (z n:_)(_:x=.str z)(_:y=.int n)(_:MulOk z n)(_:Q (.str (Txt.mul z n)) H)
def sM:kc X (QF .Mult) X7:=by
 intro R s Y H x y v u Q I T U h;let(z,n,rfl,rfl,S,q):=h;let(t,rfl):=T;let(Z,rfl):=U;show SB.mul S λZ k=>(.str _,H,I.tok k,#[Z,O],q)
def all_range (Z:List Bool):(JJ Z.length).all (λi=>(Z[i]?).getD true)=Z.all id:=by
 induction Z with
 | nil=>rfl
 | cons b r Y=>
  rw [NX,ajP,vX,akr,vX,<-Y];rfl
inductive adg (K:Frag)(xs:ε)(H:Hp)(Q:VK):Prop
|mk (p:BK)(Z:List Bool)(_:xs=[.ref p])(_:aT K H p (Z.map V.bl))(_:Q (.bl (Z.all id)) H)
def qt (y:X.calm=true):gP X (.builtin "all") (adg X.K):=by
 intro E s Y H xs us Q I r h;let(p,Z,rfl,B,q):=h;let(u,rfl,G):=vals1 r;cases G;let(S,R,U,hz):=I.list B;show call_all_walk (wd U.isList ?_);let a:p≠s.heap.objs.size:=by let(o,z,_):=U.isList;show N8 (HF z)
 let I1:Inv X E Y H {s with heap:=s.heap.push {cls:=.type "list_iterator",data:=.fields (List.toArray [.ref p,.int 0 0])}}:=I.kept (t':=s.toks) λb o e=>GY _ e;let(g,j,f2,k,m,w):=I.mS (H':=H) (DH s.heap.objs.size) (I.bO.fresh (DH _));let P:S.length=Z.length:=by rw [<-R.length,be]
 show(s.heap.objs.size,_,_,_,_,_,λi=>(Z[i]?).getD true,O,Walks.list (A:=X.A.in1) (I.ok.hd y) s.heap.objs.size p a S.toArray,#[(_,JO _ rfl,O,O),U.isList.at λo e=>GY _ e],?_,λh' L D=>?_)
 ·intro i v s' Q' E' C T
  have M :S[i]?=some v:=by simpa using C
  let N:i<Z.length:=by rw [<-P];show(ir.mp M).1
  let c:(Z.map V.bl)[i]?=some (.bl Z[i]):=by rw [CP,gE N];rfl
  let(u,f,J):=R.get c;erw [M] at f;cases J;dsimp only at T;rw [gE N] at T;show UW T
 ·show(.bl (Z.all id),H,I1.turned (t':=L) (it:=s.heap.objs.size) (λb o x e=>D b o (by simpa using x) e) g j k m w,?_,q)
  change _=_;rw [<-all_range Z,NJ,P]
end
end Ty
set_option maxHeartbeats 1000000
set_option maxHeartbeats 4000000
namespace Ty
open PySem PySem.Spec PyProof.Rows L2 PySem.NumText
def dg (m:Nat):List Nat:=(Nat.toDigits 10 m).map Char.toNat
def tx (n:Int):Str:=Pc (toString n)
def adh:Str:=Pc "/"
def nt (q:Int×Int):Str:=if q.2=1 then tx q.1 else tx q.1++adh++tx q.2
def isStar:Expr->Bool
 | .Starred .. =>true
 | _=>false
def ab3 {Z:Ε}(h:isStar e=false):HE (e::Z) env=(false,EI e env)::HE Z env:=by
 cases e<;>first|rfl|(cases h;done)
def iL (Y:PE X e te)(Z:PA X es t)(h:isStar e=false:=by rfl):PA X (e::es) (rg te t):=ahc Y Z (ab3 h)
end Ty
namespace Ty
open PySem PySem.Spec PyProof.Rows L2
section
variable {D:BK}{te:TE}{pS:L2.St}{H1:Hp}{Q:VK}
def bM (D:BK)(H H':Hp):Prop:=∀b o,b≠D->H b=some o->H' b=some o
def bM.of (s:aq H H'):bM D H H':=λb o _ e=>s b o e
theorem bM.upd :bM D H (upd H D o):=λb Z n e=>by rwa [aj n]
def ub (n:Nat)(xs:Nat->V)(Rel:Ψ)(S:H1 D=none)(E:n<DC)
  (I:∀i H,i<n->aq H1 H->J.go i H/\∀x H',J.GV i H x H' ->H'=H/\x=xs i) (stop:∀H,aq H1 H->J.stop n H)
  (T:∀i v H H' ys,H D=some (.lst ys)->bM D H H' ->Rel i v H->Rel i v H')
  (M:∀i H (R:VK),i<n->aq H1 H->(∀v Z,aq H Z->Rel i v Z->R v Z)->te (some (xs i)::pS) H R)
  (L:∀ys H,ys.length=n->(∀i v,ys[i]?=some v->Rel i v H)->aq H1 H->H D=some (.lst ys)->Q (.ref D) H):
  mm D (cE 0) kz te J (none::pS) H1 Q:=by
 show yl n xs (λi ys H=>ys.length=i/\(∀i v,ys[i]?=some v->Rel i v H)/\aq H1 H) (O,λi v e=>by simp at e,λb o e=>by rwa [aj (ao e S)]) ?_ ?_ ?_ ?_
 ·rintro i ys H U ⟨_,_,s⟩
  show I i H U s
 ·rintro ys H ⟨_,_,s⟩
  show stop H s
 ·rintro i ys H R U ⟨l,r,s⟩ Y k
  show M i H R U s λv Z X P=>k v Z (X _ _ Y) ce (by simp [l],λj u e=>?_,λb o e=>?_)
  ·by_cases c:j<ys.length
   ·rw [NG c] at e
    let N:=T j u H Z ys Y (bM.of X) (r j u e);show T j u Z _ ys (X _ _ Y) bM.upd N
   ·rw [NQ ce] at e
    let G:j=i:=by
     by_cases z:j-ys.length=0
     ·omega
     ·rw [IM (by simp;omega)] at e
      cases e
    subst G
    have:v=u:=by
     rw [show j-ys.length=0 by omega] at e;show JB e
    subst this;show T j v Z _ ys (X _ _ Y) bM.upd P
  ·rw [aj (ao e S)]
   show X _ _ (s _ _ e)
 ·rintro ys H ⟨l,r,s⟩ Y
  show L ys H l r s Y
def dE {K:Frag}(Rel:Ψ)(T:H1 D=none)(S:xs.length<DC)(Y:∀H,aq H1 H->aT K H a xs)
  (M:∀i v H H' ys,H D=some (.lst ys)->bM D H H' ->Rel i v H->Rel i v H')
  (P:∀i x H (R:VK),xs[i]?=some x->aq H1 H->(∀v X,aq H X->Rel i v X->R v X)->te (some x::pS) H R)
  (N:∀ys H,ys.length=xs.length->(∀i v,ys[i]?=some v->Rel i v H)->aq H1 H->H D=some (.lst ys)->Q (.ref D) H):
  mm D (cE 0) kz te (TN K a) (none::pS) H1 Q:=by
 show ub xs.length (λi=>(xs[i]?).getD .cW) Rel T S (λi H Z s=>#[(xs,xs[i],Y H s,gE Z),λx H' y=>#[y.1,?_]]) (λH s=>(xs,Y H s,DH _)) M (λi H R Z s k=>?_) N
 ·rw [y.2 xs (Y H s)];rfl
 ·let e:xs[i]?=some xs[i]:=gE Z
  let U:=P i _ H R e s k;rw [<-(show(xs[i]?).getD .cW=xs[i] by rw [e];rfl)] at U;show U
def aay {lo:Int}(Rel:Ψ)(Y:H1 D=none)(X:n<DC)
  (P:∀i v H H' ys,H D=some (.lst ys)->bM D H H' ->Rel i v H->Rel i v H')
  (T:∀(i:Nat) H (R:VK),i<n->aq H1 H->(∀v Z,aq H Z->Rel i v Z->R v Z)->te (some (.int (lo+i))::pS) H R)
  (S:∀ys H,ys.length=n->(∀i v,ys[i]?=some v->Rel i v H)->aq H1 H->H D=some (.lst ys)->Q (.ref D) H):
  mm D (cE 0) kz te (U5 lo n) (none::pS) H1 Q:=
 ub n (λi=>.int (lo+i)) Rel Y X (λi H U s=>#[U,λx H' y=>y]) (λH s=>DH n) P T S
end
section
variable {X:Cx}{pX:ζ}{Y:L2.St}{H:Hp}{s:DI}{h':Heap}
def Inv.jK {U:ψ}(I:Inv X pX Y H s)(k:∀b o,b∉U->s.heap.get? b=some o->h'.get? b=some o)(T:∀b∈U,nZ X pX H b):Inv X pX Y H {s with heap:=h',toks:=t'}:=by
 let S:∀b u,H b=some u->b∉U:=λb u e z=>by erw [(T b z).1] at e
 show I.step (g':=s.gens) (d':=s.drawn) (ch:=U) (λb P=>?_) (λb o _ _ Z e _=>k b o Z e) (λb o _ _ Z e _=>#[o.slots,k b o Z e]) (λ_ _ _ _ n=>n)
  (λb o Z e=>#[o,k b o Z e]) (λ_ _ e=>e) (λ_ _ _ e=>e) (λb D e=>#[#[],by rw [e];simp]) (λm Q=>?_) (λb u e=>?_) I.bare
 ·let(B,J,C,L,M,N):=T b P
  show(L,J,M,N)
 ·let(o,G,E,R,r):=Q
  show(o,G,E,k _ o (λz=>(T _ z).2.1 rfl) R,r)
 ·show(I.bO b u e).xU (λc v Z q=>k c v ?_ q) (λ_ q=>q) λ_ _ q=>q
  rcases Z with z|z
  ·rw [z];show S b u e
  ·show S c _ z
def Inv.sN {R:ψ}{T:BK}{xs:ε}{BN:ο}(I:Inv X pX Y H s)(k:∀b o,b∉R->s.heap.get? b=some o->h'.get? b=some o)(Q:∀b∈R,nZ X pX H b)(P:s.heap.objs.size<=T)
  (hz:xs.length<=DC) (L:Vals xs BN) (G:IsTup h' T BN.toArray):Inv X pX Y (upd H T (.tup xs)) {s with heap:=h',toks:=t'}:=by
 let U:=I.bO.fresh P;let N:∀b u,H b=some u->b∉R:=λb u e z=>by erw [(Q b z).1] at e
 let J:∀b o,s.heap.get? b=some o->b≠T:=λb o e=>N8 (NU (HF e) P)
 show I.step (g':=s.gens) (d':=s.drawn) (ch:=R) (λb S=>?_) (λb o _ _ Z e _=>k b o Z e) (λb o _ _ Z e _=>#[o.slots,k b o Z e]) (λb o _ e n=>by rwa [aj (J b o e)])
  (λb o Z e=>#[o,k b o Z e]) (λb M e=>by rwa [aj (ao e U)]) (λb o u e=>by rwa [aj (ao e U)]) (λb p e=>#[#[],by rw [aj (ao e U),e];simp]) (λm D=>?_) (λb u e=>?_) I.bare
 ·let(i,y,j,A,B,C):=Q b S
  show(A,y,B,C)
 ·let(o,x,w,E,r):=D
  show(o,x,w,k _ o (λz=>(Q _ z).2.1 rfl) E,r)
 ·by_cases S:b=T
  ·subst S
   erw [ak] at e;show(hz,BN,L,G)
  ·rw [aj S] at e
   show(I.bO b u e).xU (λc v Z q=>k c v ?_ q) (λc q=>by rwa [aj (ao q U)]) λc M q=>by rwa [aj (ao q U)]
   rcases Z with z|z
   ·rw [z];show N b u e
   ·show N c _ z
end
def ZE (K:Frag)(a b:BK):It:=
 (λi H=>∃xs Z x y,aT K H a xs/\aT K H b Z/\xs[i]?=some x/\Z[i]?=some y,
  λi H v Y=>∃p x y,(∀xs,aT K H a xs->xs[i]?=some x)/\(∀Z,aT K H b Z->Z[i]?=some y)/\v=.ref p/\H p=none/\Y=upd H p (.tup [x,y]),
  λi H=>∃xs Z,aT K H a xs/\aT K H b Z/\(xs.length<=i\/Z.length<=i))
def acG {K:Frag}{es:Ε}(a b z TI TO U Z:BK)(D:ZipApart z TI TO U Z a b):
  Turn P w K (.Tuple es k pos) (ZE K a b) [z,TI,TO,U,Z] z (λi h=>Nn h z TI TO .none/\N5 h TI (.ref U) (.ref Z)/\(∃x y,N5 h TO x y)/\h.IsListIter U a i/\h.IsListIter Z b i) where
 mem:=by simp
 obj:=λi h st c N=>by
  let(R,S,(x,y,Q),(o1,e1,c1,d1),(o2,e2,c2,d2)):=st;have f :c=z\/c=TI\/c=TO\/c=U\/c=Z:=by simpa using N
  rcases f with e|e|e|e|e<;>subst e
  ·show(_,R,λv z=>by cases z)
  ·show(_,S,λv z=>by cases z)
  ·show(_,Q,λv z=>by cases z)
  ·show(_,e1,λv z=>by erw [d1] at z)
  ·show(_,e2,λv z=>by erw [d2] at z)
 keep:=λi h A st k=>by
  let(R,S,(x,y,Q),J,L):=st;show(k z fD _ R,k TI fD _ S,(x,y,k TO fD _ Q),J.at λo e=>k U fD o e,L.at λo e=>k Z fD o e)
 item:=by
  intro X hP hw hK N i pX s Y H E I B st hg;subst hP hw hK;let(R,S,(x0,y0,Q),J,L):=st;let(xs,ys,x,y,C,G,ex,ey):=hg;let(BN,j,p,_):=I.list C;let(X8,g,p',_):=I.list G;let(u,hu,ru):=j.get ex;let(v,hv,m):=g.get ey;show wpAny_pyNext_zip_item D R S Q J L p.isList p'.isList (x:=u) (y:=v) (by simpa using hu) (by simpa using hv) λA a1 a2 a3 a4 a5 a6 a7=>?_;show(_,O,wpAny_letOwnedTupleGo_zip (s:={s with heap:=A}) a1 λLO b1 sb=>?_);let nz:∀c,c≠z->∀o,A.get? c=some o->LO.get? c=some o:=λc N o e=>(sb.2 c N).trans e
  let kk:∀b o,b∉[z,TI,TO,U,Z]->s.heap.get? b=some o->LO.get? b=some o:=λb o M e=>by
   have T :b≠z/\b≠TI/\b≠TO/\b≠U/\b≠Z:=by simpa using M
   show nz b T.1 o (a7 b o T.1 T.2.2.1 T.2.2.2.1 T.2.2.2.2 e)
  let sz:∀c o,s.heap.get? c=some o->s.heap.objs.size≠c:=λc o e=>VG (HF e);let tz:s.heap.objs.size≠z:=sz _ _ R;let hn:=I.bO.fresh (DH s.heap.objs.size)
  let I2:Inv X pX Y (upd H s.heap.objs.size (.tup [x,y])) {s with heap:=LO,toks:=s.toks}:=
   Inv.sN I kk B (DH _) (by change 2<=DC;decide) (BN:=[u,v]) (.cons ru (.cons m .nil)) (_,nz _ tz _ a5,O,_,O)
  show(.ref s.heap.objs.size,_,I2,O,(s.heap.objs.size,x,y,λxs' q=>by rwa [I.jh q C],λys' q=>by rwa [I.jh q G],O,hn,O),(b1,nz _ D.TIz _ (a7 _ _ D.TIz D.TITO D.TIi1 D.TIi2 S),(_,_,nz _ D.TOz _ a2),a3.at λo e=>nz _ D.i1z o e,a4.at λo e=>nz _ D.i2z o e),λb M=>?_)
  let ob:∃o,s.heap.get? b=some o:=by
   let(o1,e1,_):=J;let(o2,e2,_):=L;have f :b=z\/b=TI\/b=TO\/b=U\/b=Z:=by simpa using M
   rcases f with e|e|e|e|e<;>subst e
   ·show#[_,R]
   ·show#[_,S]
   ·show#[_,Q]
   ·show#[_,e1]
   ·show#[_,e2]
  let(o,e):=ob;rw [aj (G' (sz _ _ e))];show(B b M).1
 done:=by
  intro X hP hw hK N i pX s Y H E I B st hg;subst hP hw hK;let(R,S,(x0,y0,Q),J,L):=st;let(xs,ys,C,G,ee):=hg;let(BN,j,p,_):=I.list C;let(X8,g,p',_):=I.list G;let l1:=j.length;let l2:=g.length;show wpAny_pyNext_zip_end (I.ok.hd N) D R S Q J L p.isList p'.isList ?_ λA kk=>#[O,Inv.jK I (λb o M e=>?_) B]
  ·rcases ee with e|e
   ·show .inl (by simp;omega)
   ·show .inr (by simp;omega)
  ·have T :b≠z/\b≠TI/\b≠TO/\b≠U/\b≠Z:=by simpa using M
   show kk b o T.1 T.2.2.1 T.2.2.2.1 T.2.2.2.2 e
 self:=λ_ _ _ _ _ st h=>wc st.1 h
def boot_zip:NW "zip"=some (.type "zip"):=by decide+kernel
section
variable {X:Cx}
inductive X9 (K:Frag)(R:(It->Hp->Prop))(vs:ε)(Z:Hp):Prop
|mk (a b:_)(_:vs=[.ref a,.ref b])(_:(∃xs,aT K Z a xs))(_:(∃ys,aT K Z b ys))(_:R (ZE K a b) Z)
def ak3 (K:Frag)(U:TA):TI:=λY H R=>U Y H λZ T=>X9 K R Z T
def ym {p U:Pos}{es:Ε}{k:Nat}{G:Pos}(hg:Gl X "zip")(f:X.mg "zip"=none)(ha:PA X [e1,e2] ta)(g:HE [e1,e2] X.env=[(false,EI e1 X.env),(false,EI e2 X.env)]:=by rfl)(J:HE [e2] X.env=[(false,EI e2 X.env)]:=by rfl):
  PI X (.Tuple es k G) (.Call (.Name "zip" p) [e1,e2] [] U) (ak3 X.K ta):=by
 intro A s Y H R I h;show Call_ (jG I hg f boot_zip (We (cK (ha U A s Y H _ I h) λus Z ⟨vs,H1,S,D,B⟩=>?_) (by rw [g,J]) (by rw [J];rfl)));let(a,b,e,(xs,j),(ys,m),q):=B;subst e;cases D with
 | cons r Q=>
  cases Q with
  | cons C Q=>
   cases Q;cases r;cases C;let(BN,rv,M,_):=S.list j;let(X8,qf,T,_):=S.list m;let x:a<Z.heap.objs.size:=by let(o,P,_):=M.isList;show HF P
   let y:b<Z.heap.objs.size:=by let(o,P,_):=T.isList;show HF P
   show call_zip_2 M.isList T.isList λh' L u w E ZF i hk=>wc (s:={Z with heap:=h'}) L ?_;show(Z.heap.objs.size+4,[Z.heap.objs.size+4,Z.heap.objs.size+2,Z.heap.objs.size+3,Z.heap.objs.size,Z.heap.objs.size+1],_,_,H1,O,S.kept (t':=Z.toks) hk,acG a b _ _ _ _ _ ?_,(L,u,(_,_,w),E,ZF),λc hc=>?_,q)
   ·constructor<;>(intro z;simp only [BK] at*;omega)
   ·have N :Z.heap.objs.size<=c:=by
     have:c=Z.heap.objs.size+4\/c=Z.heap.objs.size+2\/c=Z.heap.objs.size+3\/c=Z.heap.objs.size\/c=Z.heap.objs.size+1:=by simpa using hc
     simp only [BK] at*;omega
    show S.mS N (S.bO.fresh N)
inductive QY (K:Frag)(xs:ε)(H:Hp)(Q:VK):Prop
|mk (p:BK)(ys:ε)(_:xs=[.ref p])(_:aT K H p ys)(_:∀l,H l=none->Q (.ref l) (upd H l (.lst ys)))
def uc:gP X (.type "list") (QY X.K):=by
 intro R s Y H xs B Q I r h;let(p,T,rfl,N,q):=h;let(u,rfl,S):=vals1 r;cases S;let(C,Z,(o,n,e,c,A,d),P):=I.list N;let U:=Z.length;show call_list_seq p (.inl rfl) e c d (λG E J L=>?_) (by simp;omega);let M:=I.bO.fresh (DH s.heap.objs.size);let D:Inv X R Y (upd H s.heap.objs.size (.lst T)) {s with heap:=G,toks:=s.toks}:=I.laid (t':=s.toks) J (DH _) (P,C,E,Z,L);show(.ref _,_,D,O,q _ M)
end
section
variable {X:Cx}{K:Frag}
def cN (h:X.K=K):XY X (QJ K):=by subst h;show mX
def ud (h:X.K=K):XY X (Vh K):=by subst h;show aU
def yn {k:Nat}{Z:Pos}(T:X.K=K)(U:X.calm=true)(h:PGs X es t)
  (Y:(Vc es X.env).length=n:=by rfl) (S:(Vc es X.env).findIdx? (·.1)=none:=by rfl):PG X (.Tuple es k Z) (Qs K n t):=by subst T;show eY U h Y S
end
section
variable {D:BK}{te:TE}{pS:L2.St}{H1:Hp}{Q:VK}
def zaN {K:Frag}(Rel:Ψ)(I:H1 D=none)(hn:xs.length<DC)(hl:ys.length=xs.length)(P:∀H,aq H1 H->aT K H a xs)(S:∀H,aq H1 H->aT K H b ys)
  (N:∀i v H H' ys,H D=some (.lst ys)->bM D H H' ->Rel i v H->Rel i v H')
  (k:∀i x y H (R:VK),xs[i]?=some x->ys[i]?=some y->aq H1 H->(∀v Z,aq H Z->Rel i v Z->R v Z)->te (some x::some y::pS) H R)
  (g:∀zs H,zs.length=xs.length->(∀i v,zs[i]?=some v->Rel i v H)->aq H1 H->H D=some (.lst zs)->Q (.ref D) H):
  mm D (Qs K 2 (BO (cE 0) (BO (cE 1) Zc))) kz te (ZE K a b) (none::none::pS) H1 Q:=by
 show(λi m Y zs H=>m=xs.length-i/\i<=xs.length/\(∃o J,Y=o::J::pS)/\(zs.length=i/\(∀i v,zs[i]?=some v->Rel i v H)/\aq H1 H)/\H D=some (.lst zs),(xs.length,by simp,NF _,(none,none,O),(O,λi v e=>by simp at e,λb o e=>by rwa [aj (ao e I)]),ak),?_);rintro i m Y zs H ⟨rfl,hi,⟨o,J,rfl⟩,⟨l,r,s⟩,T⟩;by_cases w:i<xs.length
 ·let L:xs[i]?=some xs[i]:=gE w
  let M:ys[i]?=some (ys[i]'ce):=gE ce;show .inr #[(xs,ys,_,_,P H s,S H s,L,M),λv H' y=>?_];let(p,x,y,B,C,rfl,A,rfl):=y;let L:=B xs (P H s);let M:=C ys (S H s);let X:aq H (upd H p (.tup [x,y])):=λb o e=>by rwa [aj (ao e A)]
  show(p,_,O,bL.of ak,O,_,_,O,_,_,O,O,?_);unfold kz;dsimp only;rw [ox rfl];show k i x y _ _ L M (λb o e=>X _ _ (s _ _ e)) λv Z U G=>(U _ _ (X _ _ T),ce,xs.length-(i+1),ce,O,ce,(_,_,O),(by simp [l],λj u e=>?_,λb o e=>?_),ak)
  ·by_cases c:j<zs.length
   ·rw [NG c] at e
    let E:=N j u H Z zs T (bM.of λb o q=>U _ _ (X _ _ q)) (r j u e);show N j u Z _ zs (U _ _ (X _ _ T)) bM.upd E
   ·rw [NQ ce] at e
    let f:j=i:=by
     by_cases z:j-zs.length=0
     ·omega
     ·rw [IM (by simp;omega)] at e
      cases e
    subst f
    have:v=u:=by
     rw [show j-zs.length=0 by omega] at e;show JB e
    subst this;show N j v Z _ zs (U _ _ (X _ _ T)) bM.upd G
  ·rw [aj (ao e I)]
   show U _ _ (X _ _ (s _ _ e))
 ·let e:i=xs.length:=ce
  subst e;show .inl #[(xs,ys,P H s,S H s,.inl (DH _)),g zs H l r s T]
end
open Builtin.Int (intBits)
def vl (q:Int×Int):Rat:=(q.1:Rat) / (q.2:Rat)
structure Sm (T B:Nat)(q:Int×Int):Prop where
 pos:0<q.2
 low:JZ q.1 q.2=1
 top:q.1.natAbs<=2^T
 bot:q.2.natAbs<=2^B
def dF {b:Int}(h:b≠0):(b:Rat)≠0:=by simpa using h
def yo (h:b≠0):vl (low t b)=(t:Rat) / (b:Rat):=by
 let c:=agA (t:=t) h;let p:=oA (t:=t) h;let Y:=dF h;let Z:=dF (b:=(low t b).2) ce;let X:((low t b).1:Rat)*b=t*(low t b).2:=by exact_mod_cast c
 unfold vl;grind
def lead {t b u c:Int}(Y:b≠0)(Z:c≠0)(h:(t:Rat) / b=(u:Rat) / c):t*c=u*b:=by
 let U:=dF Y;let X:=dF Z;have:(t:Rat)*c=u*b:=by grind
 exact_mod_cast this
def ahI (Y:0<q.2)(Z:0<r.2)(U:JZ q.1 q.2=1)(X:JZ r.1 r.2=1)(h:vl q=vl r):q=r:=by
 let c:=lead (t:=q.1) (b:=q.2) (u:=r.1) (c:=r.2) ce ce h;let e:=ajj (t:=q.1) (b:=q.2) (u:=r.1) (c:=r.2) ce ce c;rw [oB Y U,oB Z X] at e;show V5 (pU DB e) (pU C_ e)
def aaX {b d:Int}(Z:d≠0)(h:d ∣ b):((b.fdiv d:Int):Rat)=(b:Rat) / d:=by
 let e:=dc Z h;let Y:=dF Z;have:(b:Rat)=d*(b.fdiv d:Int):=by exact_mod_cast e
 grind
def iV (xs ys:π):Rat:=(QG (λa b=>vl a*vl b) xs ys).sum
def agG {xs ys:π}:iV (x::xs) (y::ys)=vl x*vl y+iV xs ys:=by simp [iV]
def rl (ts:ξ)(qs:π)(b:Int):Prop:=ts.length=qs.length/\∀(i:Nat)(t:Int)(q:Int×Int),ts[i]?=some t->qs[i]?=some q->(t:Rat)=vl q*b
def rl.tail {ts:ξ}{qs:π}(h:rl (t::ts) (q::qs) b):rl ts qs b:=#[by simpa using h.1,λi Z Y U X=>h.2 (i+1) Z Y (by simpa using U) (by simpa using X)]
def yq {a b:Int}(Y:a.natAbs<=2^m)(Z:b.natAbs<=2^n):(a*b).natAbs<=2^(m+n):=by
 rw [VH,α1];show U_ Y Z
def agT {a b:Int}(Y:a.natAbs<=2^m)(Z:b.natAbs<=2^m):(a+b).natAbs<=2^(m+1):=by
 have:=yT a b;rw [α2];omega
def ue {a:Int}(h:a.natAbs<=2^m)(Z:m<=n):a.natAbs<=2^n:=EE h (Pd cr Z)
def lR (h:a.natAbs<=2^m)(Z:m<n):intBits a<=n:=intBits_le_iff.mpr (IG h (ajm cr Z))
def sO (U:a.natAbs<=2^m)(X:b.natAbs<=2^n)(Y:m<30000000)(Z:n<30000000):tY a b:=#[EE (lR U Y) cr,EE (lR X Z) cr]
def Sm.up (h:Sm T B q)(Z:T<=T')(Y:B<=B'):Sm T' B' q:=(h.pos,h.low,ue h.top Z,ue h.bot Y)
def ab9 {b d:Int}(P:0<b)(X:0<d):0<b.fdiv (gz b d)*d/\b ∣ b.fdiv (gz b d)*d/\d ∣ b.fdiv (gz b d)*d/\(b.fdiv (gz b d)*d).natAbs<=b.natAbs*d.natAbs:=by
 let T:=yf (t:=b) (b:=d) ce;let R:gz b d ∣ b:=Zk ..;let S:gz b d ∣ d:=Ze ..;let Z:=dc (g:=gz b d) ce R;let Q:=dc (g:=gz b d) ce S;generalize gz b d=g at*
 let Y:0<b.fdiv g:=by
  rcases LV (b.fdiv g) 0 with z|z|z
  ·exfalso
   have:=ajz T z;omega
  ·rw [z] at Z;omega
  ·show z
 show(UX Y X,#[d.fdiv g,?_],#[b.fdiv g,VF ..],?_)
 ·have:b.fdiv g*d=b.fdiv g*(g*d.fdiv g):=by rw [<-Q]
  rw [this];let U:b*d.fdiv g=g*b.fdiv g*d.fdiv g:=by rw [<-Z]
  rw [U];rw [<-vV,VF (b.fdiv g) g]
 ·rw [VH]
  show Q3 _ (by
   have:=fF (g:=g) (a:=b.fdiv g) ce;rw [<-Z] at this
   show this)
def acj {b:Int}(Z:0<q.2)(h:q.2 ∣ b):((q.1*b.fdiv q.2:Int):Rat)=vl q*b:=by
 let e:=aaX (b:=b) (d:=q.2) ce h;have:((q.1*b.fdiv q.2:Int):Rat)=q.1*((b.fdiv q.2:Int):Rat):=by push_cast;rfl
 rw [this,e];unfold vl;grind
def jn {b d:Int}(Z:d≠0)(h:d ∣ b):(b.fdiv d).natAbs<=b.natAbs:=by
 have:=fF (g:=d) (a:=b.fdiv d) Z;rwa [<-dc Z h] at this
section
variable {D:BK}{te:TE}{pS:L2.St}{H1:Hp}{Q:VK}
def abN (n:Nat)(xs:Nat->V)(Rel:Ψ)(S:H1 D=none)(E:n<DC)
  (I:∀i H,i<n->aq H1 H->J.go i H/\∀x H',J.GV i H x H' ->H'=H/\x=xs i) (stop:∀H,aq H1 H->J.stop n H)
  (T:∀i v H H' ys,H D=some (.lst ys)->bM D H H' ->Rel i v H->Rel i v H')
  (M:∀i H (R:VK),i<n->aq H1 H->(∃ys,H D=some (.lst ys))->(∀v Z,aq H Z->Rel i v Z->R v Z)->te (some (xs i)::pS) H R)
  (L:∀ys H,ys.length=n->(∀i v,ys[i]?=some v->Rel i v H)->aq H1 H->H D=some (.lst ys)->Q (.ref D) H):
  mm D (cE 0) kz te J (none::pS) H1 Q:=by
 show yl n xs (λi ys H=>ys.length=i/\(∀i v,ys[i]?=some v->Rel i v H)/\aq H1 H) (O,λi v e=>by simp at e,λb o e=>by rwa [aj (ao e S)]) ?_ ?_ ?_ ?_
 ·rintro i ys H U ⟨_,_,s⟩
  show I i H U s
 ·rintro ys H ⟨_,_,s⟩
  show stop H s
 ·rintro i ys H R U ⟨l,r,s⟩ Y k
  show M i H R U s #[_,Y] λv Z X P=>k v Z (X _ _ Y) ce (by simp [l],λj u e=>?_,λb o e=>?_)
  ·by_cases c:j<ys.length
   ·rw [NG c] at e
    let N:=T j u H Z ys Y (bM.of X) (r j u e);show T j u Z _ ys (X _ _ Y) bM.upd N
   ·rw [NQ ce] at e
    let G:j=i:=by
     by_cases z:j-ys.length=0
     ·omega
     ·rw [IM (by simp;omega)] at e
      cases e
    subst G
    have:v=u:=by
     rw [show j-ys.length=0 by omega] at e;show JB e
    subst this;show T j v Z _ ys (X _ _ Y) bM.upd P
  ·rw [aj (ao e S)]
   show X _ _ (s _ _ e)
 ·rintro ys H ⟨l,r,s⟩ Y
  show L ys H l r s Y
def uf {K:Frag}(Rel:Ψ)(T:H1 D=none)(S:xs.length<DC)(Y:∀H,aq H1 H->aT K H a xs)
  (M:∀i v H H' ys,H D=some (.lst ys)->bM D H H' ->Rel i v H->Rel i v H')
  (P:∀i x H (R:VK),xs[i]?=some x->aq H1 H->(∃ys,H D=some (.lst ys))->(∀v X,aq H X->Rel i v X->R v X)->te (some x::pS) H R)
  (N:∀ys H,ys.length=xs.length->(∀i v,ys[i]?=some v->Rel i v H)->aq H1 H->H D=some (.lst ys)->Q (.ref D) H):
  mm D (cE 0) kz te (TN K a) (none::pS) H1 Q:=by
 show abN xs.length (λi=>(xs[i]?).getD .cW) Rel T S (λi H Z s=>#[(xs,xs[i],Y H s,gE Z),λx H' y=>#[y.1,?_]]) (λH s=>(xs,Y H s,DH _)) M (λi H R Z s L k=>?_) N
 ·rw [y.2 xs (Y H s)];rfl
 ·let e:xs[i]?=some xs[i]:=gE Z
  let U:=P i _ H R e s L k;rw [<-(show(xs[i]?).getD .cW=xs[i] by rw [e];rfl)] at U;show U
end
def agM {E:δ}{s:DI}
  (R:∀n Y,cellsFrom n scope.names Y=(y,n)::Y) (S:∀h,pushCells h scope.names=h.push {cls:=.type "cell",data:=.cell none})
  (P:∀X,X.Ns s.heap.objs.size (λ_=>none)->(∀b o,s.heap.get? b=some o->X.get? b=some o)->X.IsCell (s.heap.objs.size+1) none->
   Q (newEnv scope s.heap.objs.size globals ((y,s.heap.objs.size+1)::cl) qual none .none (some mO) α6) {s with heap:=X,toks:=s.toks+([]:List (Str×Value)).length}):
  CB M A (DR scope globals cl [] qual none .none (some mO)) Q E s:=by
 simp only [DR,aka,if_true];show BL (wpAny_alloc ?_);show BL (wpAny_layCells _ (λname Z T=>by cases U:Z==NameKind.cell<;>simp [U]) _ _ _ _ ?_);rw [show({s with heap:=s.heap.push {cls:=.type "dict",data:=.dict #[]}}:DI).heap.objs.size=s.heap.objs.size+1 from Pk ..,R,S];rw [v_];show BL (DT (DT ?_));show P _ ((Heap.Ns.new s.heap (.type "dict")).keeps λb o e=>GY _ e) (λb o e=>GY _ (GY _ e)) ?_;have:=JO (s.heap.push {cls:=.type "dict",data:=.dict #[]}) (o:={cls:=.type "cell",data:=.cell none}) rfl;rw [Pk] at this;show(_,this,O)
section
variable {X:Cx}
def acs {K:Frag}(h:X.K=K)(Z:PE X l tl):PI X tg l (XM K tl):=by subst h;show bo Z
abbrev ZI (X:Cx)(T:ς)(Z:Scope)(y:Str)(U:List (Str×BK))(C:BK)(s:DI)(H:Hp)(Y:ψ):Cx:=yj X T Z (λx=>x==y) ((y,C+1)::U) C s H Y
structure ZJ (X:Cx)(scope:Scope)(y:Str)(fr:ς)(pO:Ω):Prop where
 Nz:closureFor scope X.env=pure (bx X.env fr)
 kind:scope.kind=.function
 names:∀y∈scope.names,y.2=.local->scope.names.lookup y.1=some .local
 free:∀y∈scope.names,y.2=.free->y.1∈fr
 pO:pO.map (λi=>X.N[i]?)=fr.map some
 out:h_ X.env fr
 inn:h_ (compEnvC scope [] 0 X.env) fr
 ZK:∀n acc,cellsFrom n scope.names acc=(y,n)::acc
 adj:∀h,pushCells h scope.names=h.push {cls:=.type "cell",data:=.cell none}
 only:∀z∈scope.names,z.2=.cell->z.1=y
 ny:y∉fr
def Vo {y x:Str}{C c:BK}(h:RA x [(y,C)]=some c):x=y/\c=C:=by
 rw [ya] at h;cases e:x==y with
 | true=>
  rw [e] at h;show#[by simpa using e,(JB h).symm]
 | false=>erw [e] at h
def ZJ.g {pO:Ω}(B:ZJ X scope y fr pO):QU X scope (λC=>[(y,C+1)]) (λx=>x==y) fr pO:=
 (B.Nz,B.kind,B.names,B.free,B.pO,B.out,B.inn,λY=>agM B.ZK B.adj λU a b c=>Y U a b λx d e=>by rwa [(Vo e).2],
  λC x c e=>by rw [(Vo e).2];show QW _,λC x z c S T=>(Vo S).1.trans (Vo T).1.symm,λC x h e=>(by erw [ya,h] at e),λz Z e=>by simpa using B.only z Z e,
  λC x R=>by rw [ya,show(x==y)=false by simpa using λz:x=y=>B.ny (by rwa [<-z])];rfl)
end
end Ty
namespace L2
open PySem PySem.Spec PyProof.Rows
section
variable {κ:Type}[DecidableEq κ]
def bC (AP:List (κ×V))(k:κ):Option V:=(AP.find? λZ=>decide (Z.1=k)).map (·.2)
def putK (AP:List (κ×V))(k:κ)(v:V):List (κ×V):=
 if (AP.any λZ=>decide (Z.1=k))=true then AP.map (λZ=>if Z.1=k then (Z.1,v) else Z) else AP++[(k,v)]
def ix (AP:List (κ×V))(k:κ):List (κ×V):=AP.filter λZ=>decide (Z.1≠k)
def b_ {k:κ}(e:p.1=k):bC (p::r) k=some p.2:=by simp [bC,ZV,e]
def bN {k:κ}(e:¬ p.1=k):bC (p::r) k=bC r k:=by simp [bC,ZV,e]
theorem jo (k:κ):∀AP:List (κ×V),(AP.any λZ=>decide (Z.1=k))=(bC AP k).isSome
 | []=>rfl
 | p::r=>by
  rw [Wi];by_cases e:p.1=k
  ·simp only [b_ e,NI e,Bool.true_or,aka]
  ·rw [bN e,Pn e,Bool.false_or];show jo k r
theorem zaM (k j:κ)(y:V):∀AP:List (κ×V),bC (AP.map λZ=>if Z.1=k then (Z.1,y) else Z) j=(bC AP j).map λx=>if j=k then y else x
 | []=>rfl
 | p::r=>by
  let Y:=zaM k j y r;rw [ED];by_cases h:p.1=k
  ·rw [ox h]
   by_cases e:p.1=j
   ·rw [b_ (p:=(p.1,y)) e,b_ e,ZY,ox (e.symm.trans h)]
   ·rw [bN (p:=(p.1,y)) e,bN e,Y]
  ·rw [mQ h]
   by_cases e:p.1=j
   ·rw [b_ (p:=p) e,b_ e,ZY,mQ (λz=>h (e.trans z))]
   ·rw [bN (p:=p) e,bN e,Y]
theorem xp (k j:κ)(y:V):∀AP:List (κ×V),bC AP k=none->bC (AP++[(k,y)]) j=if j=k then some y else bC AP j
 | [],_=>by
  by_cases e:k=j
  ·rw [ox e.symm];show b_ (p:=(k,y)) e
  ·rw [mQ (λz=>e z.symm)];show bN (p:=(k,y)) e
 | p::r,Z=>by
  rw [yX];let Y:¬ p.1=k:=λz=>by erw [b_ z] at Z
  rw [bN Y] at Z;let X:=xp k j y r Z;by_cases e:p.1=j
  ·rw [b_ e,b_ e,mQ (λz=>Y (e.trans z))]
  ·rw [bN e,bN e,X]
def jq (AP:List (κ×V))(k j:κ)(y:V):bC (putK AP k y) j=if j=k then some y else bC AP j:=by
 unfold putK;by_cases a:(AP.any λZ=>decide (Z.1=k))=true
 ·rw [ox a,zaM]
  rw [jo] at a;by_cases e:j=k
  ·let(x,Y):=age.mp a
   rw [ox e,e,Y,ZY,ox rfl]
  ·rw [mQ e]
   cases bC AP j with
   | none=>rfl
   | some x=>rw [ZY,mQ e]
 ·rw [mQ a]
  show xp k j y AP ?_;rw [jo] at a;cases q:bC AP k with
  | none=>rfl
  | some x=>rw [q] at a;show(a rfl).elim
def gT (AP:List (κ×V))(k:κ)(v:V):(putK AP k v).length<=AP.length+1:=by
 unfold putK;split
 ·rw [be];omega
 ·rw [HI,NX,EK];omega
def dG {k:κ}(v:V)(h:bC AP k=none):putK AP k v=AP++[(k,v)]:=by
 unfold putK;rw [jo,h];show mQ cr
def jF.jr {o:χ}(r:jF o u):o.isSome=u.isSome:=by
 cases o with
 | none=>cases u with
  | none=>rfl
  | some _=>show(show False from r).elim
 | some _=>cases u with
  | none=>show(show False from r).elim
  | some _=>rfl
theorem jF.getD {o:χ}(r:jF o u)(Z:RelV d d'):RelV (o.getD d) (u.getD d'):=by
 cases o with
 | none=>cases u with
  | none=>show Z
  | some _=>show(show False from r).elim
 | some _=>cases u with
  | none=>show(show False from r).elim
  | some _=>show r
def KV.val (r:KV AP vs)(k:κ):jF (bC AP k) (valueAt vs k):=by
 unfold KV at r
 induction r with
 | nil=>show True.intro
 | @cons p q U Z h t T=>
  let(X,S):=h;by_cases e:p.1=k
  ·let Y:q.1=k:=X.symm.trans e
   let b:valueAt (q::Z) k=some q.2:=by simp [valueAt,ZV,Y]
   rwa [b_ e,b]
  ·let Y:¬ q.1=k:=λz=>e (X.trans z)
   let b:valueAt (q::Z) k=valueAt Z k:=by simp [valueAt,ZV,Y]
   rwa [bN e,b]
theorem KV.any (r:KV AP vs)(k:κ):(AP.any λZ=>decide (Z.1=k))=vs.any λZ=>decide (Z.1=k):=by
 unfold KV at r
 induction r with
 | nil=>rfl
 | cons h t Y=>rw [Wi,Wi,Y,h.1]
def KV.ZL (r:KV AP vs)(k:κ)(X:RelV y u):
  KV (AP.map λZ=>if Z.1=k then (Z.1,y) else Z) (vs.map λZ=>if Z.1=k then (Z.1,u) else Z):=by
 unfold KV at r ⊢
 induction r with
 | nil=>show .nil
 | @cons p q R S h t U=>
  rw [ED,ED];show .cons ?_ U;let(Y,T):=h;by_cases e:p.1=k
  ·rw [ox e,ox (Y.symm.trans e)];show#[Y,X]
  ·rw [mQ e,mQ (λz=>e (Y.trans z))];show#[Y,T]
def KV.put (r:KV AP vs)(k:κ)(Z:RelV y u):KV (putK AP k y) (stored vs k u):=by
 unfold putK stored;rw [r.any k];by_cases e:(vs.any λY=>decide (Y.1=k))=true
 ·rw [ox e,ox e];show r.ZL k Z
 ·rw [mQ e,mQ e];show ZD r #[O,Z]
def KV.drop (r:KV AP vs)(k:κ):KV (ix AP k) (without vs k):=by
 unfold KV at r ⊢;unfold ix without
 induction r with
 | nil=>show .nil
 | @cons p q S T h t Y=>
  let(Z,X):=h;rw [Vp,Vp];by_cases e:p.1=k
  ·let a:¬ decide (p.1≠k)=true:=by simp [e]
   let b:¬ decide (q.1≠k)=true:=by simp [Z.symm.trans e]
   rwa [mQ a,mQ b]
  ·let U:¬ q.1=k:=λz=>e (Z.trans z)
   let a:decide (p.1≠k)=true:=by simp [e]
   let b:decide (q.1≠k)=true:=by simp [U]
   rw [ox a,ox b];show .cons #[Z,X] Y
def KV.keys {vs:List (κ×Value)}(r:KV AP vs):AP.map (·.1)=vs.map (·.1):=by
 unfold KV at r
 induction r with
 | nil=>rfl
 | cons h t Z=>rw [ED,ED,Z,h.1]
theorem KV.length {vs:List (κ×Value)}(r:KV AP vs):AP.length=vs.length:=GX r
def abZ (AP:List (κ×V))(k:κ):(ix AP k).length<=AP.length:=Mz _ _
end
def mG (r:RelV (kV k) u):(bF P w).is k u=true:=by
 cases k with
 | inl i=>let(t,e):=(show ∃t,u=Value.int i t from r);subst e;show abf P w i t
 | inr x=>let(t,e):=(show ∃t,u=Value.str x t from r);subst e;show abe P w x t
theorem xq :∀{ks:List Key} {us:ο},Vals (ks.map kV) us->ItemsAre (bF P w) ks us
 | [],_,r=>by erw [NV] at r;show .nil
 | k::ks,_,r=>by
  rw [ED] at r;cases r with
  | cons h t=>show .cons (mG h) (xq t)
abbrev KT (H:Hp):List (List Key×V)->List (List Key×BK×Value)->Prop:=Paired λp q=>p.1=q.1/\H q.2.1=some (.tup (p.1.map kV))/\RelV p.2 q.2.2
def KT.val {AP:Τ}{xs:Χ}(r:KT H AP xs)(k:List Key):jF (bC AP k) ((atKey xs k).map (·.2)):=by
 induction r with
 | nil=>show True.intro
 | @cons p q U Z h t T=>
  let(X,_,S):=h;by_cases e:p.1=k
  ·let Y:q.1=k:=X.symm.trans e
   let b:atKey (q::Z) k=some q.2:=by simp [atKey,ZV,Y]
   rwa [b_ e,b]
  ·let Y:¬ q.1=k:=λz=>e (X.trans z)
   let b:atKey (q::Z) k=atKey Z k:=by simp [atKey,ZV,Y]
   rwa [bN e,b]
def KT.ZL {AP:Τ}{xs:Χ}(r:KT H AP xs)(k:List Key)(U:RelV y u):
  KT H (AP.map λY=>if Y.1=k then (Y.1,y) else Y) (xs.map (putAt k u)):=by
 induction r with
 | nil=>show .nil
 | @cons p q Q R h t T=>
  rw [ED,ED];show .cons ?_ T;let(Z,X,S):=h;unfold putAt;by_cases e:p.1=k
  ·rw [ox e,ox (Z.symm.trans e)];show(Z,X,U)
  ·rw [mQ e,mQ (λz=>e (Z.trans z))];show(Z,X,S)
def KT.put {AP:Τ}{xs:Χ}(r:KT H AP xs)(k:List Key)(X:H b=some (.tup (k.map kV)))(Z:RelV y u):
  KT H (putK AP k y) (storedH xs k b u):=by
 let e:(AP.any λY=>decide (Y.1=k))=(atKey xs k).isSome:=by
  rw [jo,(r.val k).jr,ajC]
 unfold putK storedH;rw [e];by_cases q:(atKey xs k).isSome=true
 ·rw [ox q,ox q];show r.ZL k Z
 ·rw [mQ q,mQ q];show ZD r (O,X,Z)
def KT.keeps {AP:Τ}{xs:Χ}(r:KT H AP xs)(Z:∀b ys,H b=some (.tup ys)->H' b=some (.tup ys)):KT H' AP xs:=
 Paired.b6 r λ_ _ z=>(z.1,Z _ _ z.2.1,z.2.2)
section
variable {P:HY}{w:World}{H:Hp}{h:Heap}{a:BK}
def X_ (Z:mE P w H h)(e:Rd H a u):dz P w H h a u:=e.ok Z
def ki (Z:mE P w H h)(e:Rd H a (.dK AP)):AP.length<=DC/\(a==Nf)=false/\∃vs,KV AP vs/\h.DictOf (bF P w) a vs:=
 show dz P w H h a (.dK AP) from X_ Z e
def km (Z:mE P w H h)(e:H a=some (.dK AP)):AP.length<=DC/\(a==Nf)=false/\∃vs,KV AP vs/\h.DictOf (bF P w) a vs:=ki Z (.inl e)
def qu (Z:mE P w H h)(e:H a=some (.tup (ks.map kV))):(tupleKind (bF P w)).is h ks a:=by
 let(_,T,r,o,U,X,n,Y):=(show dz P w H h a (.tup (ks.map kV)) from Z a _ e);show(o,T.toArray,n,U,X,Y,by simpa using xq r)
def ug (Y:mE P w H h)(e:Rd H a (.dT AP)):AP.length<=DC/\(a==Nf)=false/\
  ∃xs,KT H AP xs/\h.DictOfH (tupleKind (bF P w)) a xs:=by
 let(z,y,xs,r,o,M,L,N,Q,R,S,T):=(show dz P w H h a (.dT AP) from X_ Y e);show(z,y,xs,r,o,M,L,N,Q,R,S,λx Z=>?_,T)
 let all:∀{l:Τ} {m:Χ},KT H l m->∀x∈m,(tupleKind (bF P w)).is h x.1 x.2.1:=by
  intro l m q
  induction q with
  | nil=>intro x Z;show nomatch Z
  | @cons p q I J X t U=>
   intro x Z
   rcases JP.mp Z with e|Z
   ·subst e
    show qu Y (by rw [<-X.1];show X.2.1)
   ·show U x Z
 show all r x Z
def adk (Z:mE P w H h)(e:H a=some (.dT AP)):AP.length<=DC/\(a==Nf)=false/\
  ∃xs,KT H AP xs/\h.DictOfH (tupleKind (bF P w)) a xs:=ug Z (.inl e)
end
def cX (H:Hp)(a:BK)(y:V)(r:χ):Prop:=
 (∃Z k,Rd H a (.dK Z)/\y=kV k/\r=bC Z k)\/∃Z k b,Rd H a (.dT Z)/\y=.ref b/\H b=some (.tup (k.map kV))/\r=bC Z k
def js (H:Hp)(a:BK)(y v:V)(H':Hp):Prop:=
 (∃Z k,H a=some (.dK Z)/\y=kV k/\Z.length<DC/\H'=upd H a (.dK (putK Z k v)))\/
 ∃Z k b,H a=some (.dT Z)/\y=.ref b/\H b=some (.tup (k.map kV))/\Z.length<DC/\H'=upd H a (.dT (putK Z k v))
theorem cX.k {AP:γ}{k:Key}(e:H a=some (.dK AP)):cX H a (kV k) (bC AP k):=.inl (AP,k,.inl e,O,O)
theorem js.k {AP:γ}{k:Key}(e:H a=some (.dK AP))(Z:AP.length<DC):js H a (kV k) v (upd H a (.dK (putK AP k v))):=.inl (AP,k,e,O,Z,O)
section
variable {X:Cx}{pX:ζ}{Y:St}{H:Hp}{s:DI}{a:BK}{y v:V}{u r:Value}{o:χ}{A:JI}{E:δ}
def Inv.big (I:Inv X pX Y H s):Nf<s.heap.objs.size:=by
 let h:HL<s.heap.objs.size:=(I.mod.glob.keeps I.bk).lt;show uq cr h
def agI {Q:δ}(G:A.units+1<NS)(I:Inv X pX Y H s)(g:cX H a y (some v))(L:RelV y u)(h:∀U M,Inv X pX Y H M ->RelV v U ->Q U M):
  CB (CL X.prog X.w) A (getItem (.ref a) u) Q E s:=by
 rcases g with ⟨x,k,e,P,l⟩|⟨x,k,b,e,P,B,l⟩
 ·subst P
  let(z,C,J,Z,N):=ki I.bO e;let(U,S,T):=jF.some_of (v:=v) (o:=valueAt J k) (by rw [l];show Z.val k);show wpAny_getItem_of (mG L) N.mapOf S (h U _ (I.tok _) T)
 ·subst P
  cases (show u=Value.ref b from L);let(z,C,xs,Z,N):=ug I.bO e;let(U,S,T):=jF.some_of (v:=v) (o:=(atKey xs k).map (·.2)) (by rw [l];show Z.val k);let(p,D,R):=JM.mp S;show wpAny_getItem_heap (we G) (qu I.bO B) N D ?_;rw [R];show h U _ (I.tok _) T
def ak4 {Q:δ}(N:A.units+1<NS)(I:Inv X pX Y H s)(g:cX H a y o)(P:RelV y u)(h:∀R,Inv X pX Y H R ->Q (.bool o.isSome) R):
  CB (CL X.prog X.w) A (NR .In u (.ref a)) Q E s:=by
 rcases g with ⟨L,k,e,T,l⟩|⟨L,k,b,e,T,M,l⟩
 ·subst T
  let(z,U,J,Z,S):=ki I.bO e;show wpAny_in_of (mG P) U S.mapOf ?_;rw [<-(Z.val k).jr,<-l];show h _ (I.tok _)
 ·subst T
  cases (show u=Value.ref b from P);let(z,U,xs,Z,S):=ug I.bO e;show wpAny_in_heap (we N) (qu I.bO M) U S ?_;let q:=(Z.val k).jr;rw [ajC] at q;rw [<-q,<-l];show h _ (I.tok _)
def adu {Q:δ}(N:A.units+1<NS)(I:Inv X pX Y H s)(g:cX H a y o)(P:RelV y u)(h:∀R,Inv X pX Y H R ->Q (.bool (!o.isSome)) R):
  CB (CL X.prog X.w) A (NR .NotIn u (.ref a)) Q E s:=by
 rcases g with ⟨L,k,e,T,l⟩|⟨L,k,b,e,T,M,l⟩
 ·subst T
  let(z,U,J,Z,S):=ki I.bO e;show wpAny_notIn_of (mG P) U S.mapOf ?_;rw [<-(Z.val k).jr,<-l];show h _ (I.tok _)
 ·subst T
  cases (show u=Value.ref b from P);let(z,U,xs,Z,S):=ug I.bO e;show wpAny_notIn_heap (we N) (qu I.bO M) U S ?_;let q:=(Z.val k).jr;rw [ajC] at q;rw [<-q,<-l];show h _ (I.tok _)
def jL (I:Inv X pX Y H s)(U:Mut (H a))(T:R_ a s.heap h')(S:∃q,h'.get? a=some q)(Z:dz X.prog X.w (upd H a ob) h' a ob):
  Inv X pX Y (upd H a ob) {s with heap:=h',toks:=t'}:=
 I.write (x:=a) (e:=a) U (.inl rfl) (λb q R z=>(T.2 b R).trans z) S Z
def m7 {AP:γ}(z:AP.length<=DC)(U:(a==Nf)=false)(Z:KV AP vs)(T:h'.DictOf (bF P w) a vs):
  dz P w H' h' a (.dK AP):=(z,U,vs,Z,T)
def abO (j:A.units+1<NS)(I:Inv X pX Y H s)(g:js H a y v H')(C:RelV y u)(B:RelV v r)(h:∀D,Inv X pX Y H' D ->Q () D):
  CB (CL X.prog X.w) A (setItem (.ref a) u r) Q E s:=by
 rcases g with ⟨U,k,e,L,l,J⟩|⟨U,k,b,e,L,p,l,J⟩
 ·subst L J
  let(z,M,m,Z,G):=km I.bO e;let R:m.length<=DC:=by rwa [<-Z.length]
  let N:(putK U k v).length<=DC:=by have:=gT U k v;omega
  show wpAny_setItem_pairs (hsz:=R) (mG C) G λx S P=>h _ ?_;let i:∃q,x.get? a=some q:=let ⟨q,_,_,T,_⟩:=S;#[q,T];show jL I (by rw [e];show True.intro) P i (m7 N M (Z.put k B) S)
 ·subst L J
  cases (show u=Value.ref b from C);let(z,M,xs,Z,G):=adk I.bO e;let R:xs.length<=DC:=by rwa [<-GX Z]
  let N:(putK U k v).length<=DC:=by have:=gT U k v;omega
  show wpAny_setItem_heap (hsz:=R) (we j) (qu I.bO p) G λx S P=>h _ ?_;let(q,es,ep,T,h2,h3,h4,_,f):=S;show jL I (by rw [e];show True.intro) P #[q,T] (N,M,_,(Z.put k p B).keeps λc ys ec=>?_,q,es,ep,T,h2,h3,h4,f);rwa [aj (acr ec e (λz=>nomatch z))]
end
section
variable {X:Cx}{pX:ζ}{Y:St}{H:Hp}{s:DI}{a:BK}{AP:γ}{k:Key}{u:Value}{A:JI}{E:δ}
def adm {Z:ο}{Q:δ}(I:Inv X pX Y H s)(e:H a=some (.dK AP))(S:RelV (kV k) u)(l:bC AP k=some v)(N:Z=[]\/∃x,Z=[x])
  (h:∀T P,Inv X pX Y (upd H a (.dK (ix AP k))) P ->RelV v T ->Q T P):CB (CL X.prog X.w) A (call (.builtin "dict.pop") (.ref a::u::Z)) Q E s:=by
 let(z,p,R,U,M):=km I.bO e;let(T,G,J):=jF.some_of (v:=v) (o:=valueAt R k) (by rw [<-l];show U.val k)
 let B:(keyPart u).isSome=true:=by
  cases k with
  | inl i=>let(t,q):=(show ∃t,u=Value.int i t from S);subst q;rfl
  | inr x=>let(t,q):=(show ∃t,u=Value.str x t from S);subst q;rfl
 let m:argsOk "dict.pop" #[.ref a::u::Z,[]]:=by
  rcases N with q|⟨x,q⟩
  ·subst q;show PySem.F.args_dict_pop_2 _ _
  ·subst q;show PySem.F.args_dict_pop_3 _ _ _
 show Vd PySem.F.slot_dict_pop M.typeIs PySem.F.entry_dict_pop m (meets_dict_pop_there (bF X.prog X.w) a (mG S) Z N B)
  (R,T,M,by rwa [<-U.length],G,λj L D=>h T _ ?_ J)
 let y:∃q,j.get? a=some q:=let ⟨q,_,_,C,_⟩:=L;#[q,C];show jL I (by rw [e];show True.intro) D y (m7 (EE (abZ AP k) z) p (U.drop k) L)
def adt {Q:δ}(I:Inv X pX Y H s)(e:H a=some (.dK AP))(h:∀U,Inv X pX Y (upd H a (.dK [])) U ->Q .none U):CB (CL X.prog X.w) A (call (.builtin "dict.clear") [.ref a]) Q E s:=by
 let(z,L,R,Z,T):=km I.bO e;show Vd PySem.F.slot_dict_clear T.typeIs PySem.F.entry_dict_clear (PySem.F.args_dict_clear_1 _) (meets_dict_clear (bF X.prog X.w) a) (R,T,by rwa [<-Z.length],λJ S P=>h _ ?_);let M:∃q,J.get? a=some q:=let ⟨q,_,_,N,_⟩:=S;#[q,N];show jL (t':=s.toks) I (by rw [e];show True.intro) P M (m7 (NF _) L .nil S)
def adn {Q:δ}(I:Inv X pX Y H s)(e:Rd H a (.dK AP))(h:∀t U,Inv X pX Y H U ->Q (.int AP.length t) U):CB (CL X.prog X.w) A (call (.builtin "len") [.ref a]) Q E s:=by
 let(z,T,R,Z,S):=ki I.bO e;show call_len_dict T S (by rw [<-Z.length];rw [sizeLine_eq] at z;omega) ?_;rw [<-Z.length];show h _ _ (I.tok _)
end
def ado (i:Expr):Prop:=∀Z Y,subscripted i false Z Y=operate [Z,Y] (getItem Z Y)
def adN {E:δ}{T id:String}{Q:δ}
  (L:α4 (.type T) "__getitem__"=pure (some (.builtin id))) (M:ado slice)
  (h:CB (CL prog w) A (EI value env) (λo S=>CB (CL prog w) A (EI slice env) (λi Y=>Y.TypeIs o T/\CB (CL prog w) A (getItem o i) Q E Y) E S) E s):
  CB (CL prog w) A (EI (.Subscript value slice pos) env) Q E s:=by
 show Subscript_ (NZ h (λo S P=>NZ P (λi Y X=>?_) λ_ _ x=>x) λ_ _ x=>x);let(R,X):=X;unfold subscriptTail;show BL ?_;rw [getitemInPython_of_ne R.not_modules];show BL (wpAny_specialOf R L ?_)
 let Z:CB (CL prog w) A (subscripted slice false o i) (λr U=>CB (CL prog w) A (letTemporaryGo value o r >>=λ_=>pure r) Q E U) E Y:=by
  rw [M o i];show wpAny_operating (NZ X (λr U N=>BL (wpAny_letTemporaryGo (DT N))) λ_ _ x=>x)
 first
  | show DT (BL Z)
  | show BL (DT (BL Z))
  | show BL Z
def abp {Y:St}(I:Inv X pX Y H s)(g:cX H a y o):s.TypeIs (.ref a) "dict":=by
 rcases g with ⟨U,k,e,_,_⟩|⟨U,k,b,e,_,_,_⟩
 ·let(_,_,T,_,Z):=ki I.bO e
  show Z.typeIs
 ·let(_,_,xs,_,Z):=ug I.bO e
  show Z.typeIs
inductive Q4 (Q:VK)(x:V)(y:V)(Z:Hp):Prop
|mk (a v:_)(_:x=.ref a)(_:cX Z a y (some v))(_:Q v Z)
def adp (Z ty:TE):TE:=λY H Q=>Z Y H λx U=>ty Y U λy X=>Q4 Q x y X
inductive X' (Q:VK)(y:V)(x:V)(Z:Hp):Prop
|mk (a o:_)(_:x=.ref a)(_:cX Z a y o)(_:Q (.bl o.isSome) Z)
def ak5 (ty Z:TE):TE:=λY H Q=>ty Y H λy U=>Z Y U λx X=>X' Q y x X
inductive CM (Q:VK)(y:V)(x:V)(Z:Hp):Prop
|mk (a o:_)(_:x=.ref a)(_:cX Z a y o)(_:Q (.bl (!o.isSome)) Z)
def acf (ty Z:TE):TE:=λY H Q=>ty Y H λy U=>Z Y U λx X=>CM Q y x X
inductive Q6 (D:Ends)(Y:L2.St)(v:V)(x:V)(y:V)(X:Hp):Prop
|mk (a Z:_)(_:x=.ref a)(_:js X a y v Z)(_:D.nx Y Z)
def adq (X ty Z:TE):TS:=λD Y H=>Z Y H λv S=>X Y S λx T=>ty Y T λy U=>Q6 D Y v x y U
section
variable {X:Cx}{o i e value:Expr}{pos pos' x6:Pos}{td ty tv:TE}
def cO (L:X.A.units+1<NS)(G:PE X o td)(E:PE X i ty)(J:ado i):PE X (.Subscript o i pos) (adp td ty):=by
 intro Z s Y H Q I h;show adN PySem.F.slot_dict_getitem.lookup J (cK (G Z s Y H _ I h) λu T ⟨x,w,B,R,M⟩=>cK (E Z T Y w _ B M) λk m ⟨y,z,U,S,a,v,D,g,N⟩=>?_);subst D;obtain rfl:u=Value.ref a:=R;show#[abp U g,agI L U g S λq p C P =>(v,z,C,P,N)]
def HW (M:X.A.units+1<NS)(J:PE X i ty)(L:PE X o td):PC X .In i o (ak5 ty td):=by
 intro Z s Y H Q I h;show cK (J Z s Y H _ I h) λp U ⟨y,z,C,T,P⟩=>cK (L Z U Y z _ C P) λu q ⟨x,B,D,S,a,N,G,g,R⟩=>?_;subst G;obtain rfl:u=Value.ref a:=S;show ak4 M D g T λw E=>(.bl N.isSome,B,E,O,R)
def xr (M:X.A.units+1<NS)(J:PE X i ty)(L:PE X o td):PC X .NotIn i o (acf ty td):=by
 intro Z s Y H Q I h;show cK (J Z s Y H _ I h) λp U ⟨y,z,C,T,P⟩=>cK (L Z U Y z _ C P) λu q ⟨x,B,D,S,a,N,G,g,R⟩=>?_;subst G;obtain rfl:u=Value.ref a:=S;show adu M D g T λw E=>(.bl (!N.isSome),B,E,O,R)
def dW (J:X.A.units+1<NS)(E:PE X o td)(C:PE X i ty)(L:PE X value tv)(G:Rx value (some (.Subscript o i pos')) pos.line X.env=pure false):
  PS X (.Assign [.Subscript o i pos'] value pos) (adq td ty tv):=by
 intro Z s Y H D I h;show wpAny_Assign_Subscript (cK (L Z s Y H _ I h) λr T ⟨v,j,p,Q,M⟩=>cK (E Z T Y j _ p M) λu U ⟨x,k,q,R,N⟩=>cK (C Z U Y k _ q N) λb c ⟨y,H3,w,S,a,m,B,g,P⟩=>?_) G;subst B;obtain rfl:u=Value.ref a:=R;show abO J w g S Q λf z=>(Y,m,z,P)
end
def zaK (h:Heap)(Z:Nf<h.objs.size):dz P w H (h.push {cls:=.type "dict",data:=.dict #[]}) h.objs.size (.dK []):=
 (NF _,beq_eq_false_iff_ne.mpr (G' (N8 Z)),[],.nil,Heap.DictOf.new h)
def ag8:TE:=λ_ H Q=>∀p,H p=none->Q (.ref p) (upd H p (.dK []))
section
variable {X:Cx}{pos:Pos}
def de:PE X (.Dict [] [] pos) ag8:=λZ s Y H Q I h=>
 wpAny_Dict_empty (.ref s.heap.objs.size,_,I.laid (a:=s.heap.objs.size) (o:=.dK []) (t':=s.toks) (λ_ _ q=>GY _ q) (DH _) (zaK s.heap I.big),O,h _ (I.bO.fresh (DH _)))
end
def HX:List (TE×TE)->St->Hp->(List (V×V)->Hp->Prop)->Prop
 | [],_,H,Q=>Q [] H
 | (X,Z)::r,Y,H,Q=>X Y H λx S=>Z Y S λy T=>HX r Y T λps U=>Q ((x,y)::ps) U
abbrev VV:List (V×V)->List (Value×Value)->Prop:=Paired λp q=>RelV p.1 q.1/\RelV p.2 q.2
def PPs (X:Cx)(T:Pos)(U:List (Option Expr))(Z:Ε)(L:List (TE×TE)):Prop:=
 ∀(R:ζ)(s:DI)(Y:St)(H:Hp)(Q:List (V×V)->Hp->Prop),Inv X R Y H s->HX L Y H Q->
  CB (CL X.prog X.w) X.A (evalPairs (pairTrees U Z X.env T)) (λN M=>∃S P,Inv X R Y P M/\VV S N/\Q S P) X.xe s
def aiS :PPs X pos [] [] []:=λZ s Y H Q I h=>pairTrees_nil_walk ([],H,I,.nil,h)
def uh (D:PE X k tk)(G:PE X v tv)(E:PPs X pos ks vs Vt):
  PPs X pos (some k::ks) (v::vs) ((tk,tv)::Vt):=λU s Y H Q I h=>
 pairTrees_cons_walk (cK (D U s Y H _ I h) λu S ⟨x,q,A,P,L⟩=>cK (G U S Y q _ A L) λo T ⟨y,w,B,R,M⟩=>
  cK (E U T Y w _ B M) λp m ⟨J,z,C,Z,N⟩=>((x,y)::J,z,C,.cons #[P,R] Z,N))
def bW (AP Z:γ):List (Key×V):=Z.foldl (λY X=>putK Y X.1 X.2) AP
def KV.merge:∀{Z:γ} {Y:List (Key×Value)} {AP:γ} {vs:List (Key×Value)},KV Z Y->KV AP vs->KV (bW AP Z) (merged vs Y):=by
 intro Z Y AP vs r;unfold KV at r
 induction r generalizing AP vs with
 | nil=>intro q;show q
 | @cons p q S T h t U=>
  intro X
  let e:KV (putK AP p.1 p.2) (stored vs q.1 q.2):=by
   have:=X.put p.1 h.2;rw [<-h.1];show this
  show U e
theorem gN:∀(Z AP:γ),(bW AP Z).length<=AP.length+Z.length
 | [],AP=>by change AP.length<=AP.length+0;omega
 | p::r,AP=>by
  let X:=gN r (putK AP p.1 p.2);let Y:=gT AP p.1 p.2;change (bW (putK AP p.1 p.2) r).length<=_;rw [NX];omega
theorem uk :∀{AP:γ} {ws:List (Value×Value)},VV (AP.map λY=>(kV Y.1,Y.2)) ws->∃Z,Carries (bF P w) ws Z/\KV AP Z
 | [],_,r=>by erw [NV] at r;show([],True.intro,.nil)
 | p::AP,_,r=>by
  rw [ED] at r;cases r with
  | @cons a b S U h t=>
   let(Z,c,q):=uk (P:=P) (w:=w) t;let(T,X):=b;show((p.1,X)::Z,(mG h.1,O,c),.cons #[O,h.2] q)
def ads (S:List (TE×TE)):TE:=λY H Q=>∀p,H p=none->HX S Y (upd H p (.dK [])) λT U=>U p=some (.dK [])/\∃Z:List (Key×V),T=Z.map (λX=>(kV X.1,X.2))/\Z.length<=15/\Q (.ref p) (upd U p (.dK (bW [] Z)))
def aiJ (h:PPs X pos keys values Vt)(i:keys.all (·.isSome)=true)(y:keys.length=values.length)(m:keys≠[])
  (U:keys.length<=15):PE X (.Dict keys values pos) (ads Vt):=by
 intro E s Y H Q I q;let A:=I.bO.fresh (DH s.heap.objs.size);let g:=I.laid (a:=s.heap.objs.size) (o:=.dK []) (h':=s.heap.push {cls:=.type "dict",data:=.dict #[]}) (t':=s.toks) (λ_ _ q=>GY _ q) (DH _) (zaK s.heap I.big);show wpAny_Dict_walk (knd:=bF X.prog X.w) i y m U (cK (h E _ Y _ _ g (q _ A)) λf b ⟨ps,H2,T,Z,e,R,k,lk,G⟩=>?_);subst k;let(M,c,L):=uk (P:=X.prog) (w:=X.w) Z;let(z,u,N,J,j):=km T.bO e;cases J;show(M,c,j,λh' S C=>(.ref s.heap.objs.size,_,?_,O,G))
 let D:(bW [] R).length<=DC:=by
  let p:=gN R [];rw [EK] at p;rw [sizeLine_eq];omega
 let x:∃q,h'.get? s.heap.objs.size=some q:=let ⟨q,_,_,B,_⟩:=S;#[q,B];show jL T (by rw [e];show True.intro) C x (m7 D u (L.merge .nil) S)
structure M1 (X:Cx)(o:Expr)(m:Str)(apos:Pos)(e:Expr)(d6:Pos):Prop where
 lM:VC o m X.env (EI o X.env)=EI o X.env
 few:((NK d6 (HE [e] X.env)).all (λx=> !x.1) && (backToKw d6 (ZG [] X.env)).all (λx=>x.1.isSome)
  && decide (([e]:List Expr).length+([]:List Keyword).length+(if ([]:List Keyword).isEmpty then 0 else 1)<30))=true
 line:(apos.endLine==d6.line)=true
 trees:NK d6 (HE [e] X.env)=[(false,EI e X.env)]
structure M2 (X:Cx)(o:Expr)(m:Str)(apos:Pos)(e f:Expr)(d6:Pos):Prop where
 lM:VC o m X.env (EI o X.env)=EI o X.env
 few:((NK d6 (HE [e,f] X.env)).all (λx=> !x.1) && (backToKw d6 (ZG [] X.env)).all (λx=>x.1.isSome)
  && decide (([e,f]:List Expr).length+([]:List Keyword).length+(if ([]:List Keyword).isEmpty then 0 else 1)<30))=true
 line:(apos.endLine==d6.line)=true
 trees:NK d6 (HE [e,f] X.env)=[(false,EI e X.env),(false,EI f X.env)]
def IsD (H:Hp)(a:BK):Prop:=(∃Z,Rd H a (.dK Z))\/∃Z,Rd H a (.dT Z)
def um {Y:St}(I:Inv X pX Y H s)(d:IsD H a):
  s.TypeIs (.ref a) "dict"/\(∀b,Value.ref a=.ref b->∃Z,s.heap.get? b=some Z/\Z.dict=none)/\(a==Nf)=false:=by
 rcases d with ⟨Q,e⟩|⟨Q,e⟩
 ·let(_,T,P,_,U):=ki I.bO e
  show(U.typeIs,λb q=>?_,T);cases q;let(Z,_,_,R,S,_):=U;show(Z,R,S.2.1)
 ·let(_,T,xs,_,U):=ug I.bO e
  show(U.typeIs,λb q=>?_,T);cases q;let(Z,_,_,R,S,_):=U;show(Z,R,S.2.1)
section
variable {X:Cx}{pX:ζ}{Y:St}{H:Hp}{s:DI}{a:BK}{y d:V}{u r:Value}{o:χ}{A:JI}{E:δ}
def ag7 {Q:δ}(L:A.units+1<NS)(I:Inv X pX Y H s)(g:cX H a y o)(N:RelV y u)(M:RelV d r)(h:∀R P,Inv X pX Y H P ->RelV (o.getD d) R ->Q R P):
  CB (CL X.prog X.w) A (call (.builtin "dict.get") [.ref a,u,r]) Q E s:=by
 rcases g with ⟨G,k,e,S,l⟩|⟨G,k,b,e,S,J,l⟩
 ·subst S
  let(z,T,D,Z,U):=ki I.bO e;show Vd PySem.F.slot_dict_get U.typeIs PySem.F.entry_dict_get (PySem.F.args_dict_get_3 _ _ _) (meets_dict_get_default (bF X.prog X.w) a (mG N) T r) (_,U.mapOf,h _ _ (I.tok _) ?_);rw [l];show(Z.val k).getD M
 ·subst S
  cases (show u=Value.ref b from N);let(z,T,xs,Z,U):=ug I.bO e;show Vd PySem.F.slot_dict_get U.typeIs PySem.F.entry_dict_get (PySem.F.args_dict_get_3 _ _ _) (meetsH_dict_get_default (tupleKind (bF X.prog X.w)) a b T r) (we L,k,xs,qu I.bO J,U,h _ _ (I.tok _) ?_);rw [l];show(Z.val k).getD M
end
def ag3 (U ty tx:TE):TE:=λY H Q=>U Y H λx X=>∃a,x=.ref a/\IsD X a/\ty Y X λy T=>tx Y T λz Z=>∃o,cX Z a y o/\Q (o.getD z) Z
def ag1 (T ty:TE):TE:=λY H Q=>T Y H λx U=>∃a,x=.ref a/\IsD U a/\ty Y U λy X=>∃Z k v,X a=some (.dK Z)/\y=kV k/\bC Z k=some v/\Q v (upd X a (.dK (ix Z k)))
section
variable {X:Cx}{o e f:Expr}{apos d6:Pos}{td ty tx:TE}
def jt (C:X.A.units+1<NS)(B:PE X o td)(q:PE X e ty)(w:PE X f tx)(m:M2 X o "get" apos e f d6):PE X (.Call (.Attribute o "get" apos) [e,f] [] d6) (ag3 td ty tx):=by
 intro Z s Y H Q I h;show wpAny_Call_method m.lM m.few m.line PySem.F.plainAttrs_dict PySem.F.slot_dict_get PySem.F.type_dict_get (cK (B Z s Y H _ I h) λu P ⟨x,H1,U,L,a,p,d,D⟩=>?_);subst p;obtain rfl:u=Value.ref a:=L;let(S,T,_):=um U d;show(S,T,?_);rw [m.trees]
 show Wg rfl (Calls.evalArgs_plain (ZQ (cK (q Z P Y H1 _ U D) λiv R ⟨y,b,i,M,E⟩=>
  ZQ (cK (w Z R Y b _ i E) λfv s3 ⟨z,c,j,N,ov,g,G⟩=>Mb ?_))))
 show ag7 C j g M N λw' s4 k J =>(_,c,k,J,G)
def zaJ (G:PE X o td)(E:PE X e ty)(m:M1 X o "pop" apos e d6):PE X (.Call (.Attribute o "pop" apos) [e] [] d6) (ag1 td ty):=by
 intro Z s Y H Q I h;show wpAny_Call_method m.lM m.few m.line PySem.F.plainAttrs_dict PySem.F.slot_dict_pop PySem.F.type_dict_pop (cK (G Z s Y H _ I h) λu R ⟨x,w,U,N,a,C,d,J⟩=>?_);subst C;obtain rfl:u=Value.ref a:=N;let(S,T,_):=um U d;show(S,T,?_);rw [m.trees];show Wg rfl (Calls.evalArgs_plain (ZQ (cK (E Z R Y w _ U J) λi j ⟨y,g,z,P,c,k,v,B,D,l,L⟩=>Mb ?_)));subst D;show adm z B P l (.inl rfl) λq p A M =>(v,_,A,M,L)
end
end L2
namespace Ty
open PySem PySem.Spec PyProof.Rows L2
section
variable {X:Cx}
def ac_ {Y:L2.St}(I:Inv X pX Y H s):s.heap.NoSeer:=I.ok.mod.seer.keeps I.bk
def cQ.py (r:cQ k A)(h:32<=k):A.depth+Builtin.pylongFrames<DS:=by
 have:=r.dp;have:Builtin.pylongFrames=100:=rfl;omega
def iM (T:X.prog.given.tree=none)(S:X.A.depth+Builtin.pylongFrames<DS)(J:X.stack=env::l)(L:env.scope.isGenerator=false)(M:env.scope.isCoroutine=false)(N:env.builtins=α6)(P:env.globals=HL):
  kc X (QF .FloorDiv) (rI Zx λi j=>.int (i.fdiv j)):=by
 intro E s Y H x y v u Q I U Z h;let(i,j,rfl,rfl,R,q):=h;let(t,rfl):=U;let(G,rfl):=Z;show floordiv_int R (.int _,H,I.tok _,#[_,O],q) (.inr (PylongRoom.of I.nolimit S (SeerAt.of (ac_ I) T (by rw [I.ok.frames,J]) L M N P)))
end
section
variable {prog:HY}{w:World}{A:JI}{E:δ}{s:DI}{KK:Type}[DecidableEq KK]{knd:KeyKind prog w KK}
def aa_ (U:s.heap.DictOf knd d AP)(h:Q false s):CB (CL prog w) A (Builtin.List.listLengthHint (.ref d)) Q E s:=by
 unfold Builtin.List.listLengthHint;show BL (wpAny_specialOf (name:=Pc "__len__") U.typeIs F.slot_dict_len.lookup ?_);generalize Y:("dict.__len__":String)=X
 wp_delta
 rw [show splitId X=some ("dict","__len__") from by subst Y;decide+kernel];subst Y;show BL (Mf (T:="dict") (b:=true) U.typeIs (by rw [isSubtype_type];kernel_rfl) ?_);show LQ (λZ=>DQ Z cr) (λ_=>?_);show LQ (λ_=>?_) (λZ=>DQ (by decide+kernel) Z);show BL (Vz (T:="dict") U.typeIs ?_);show DT h
def aaa {R:Ρ}(hh:A.handled=none)(hd:(d==Nf)=false)(N:s.heap.DictAt knd d AP ep)(G:AP.length<=DC)(S:BK)(Y:Value)(c₀:Nat)(u:s.heap.get? S=some {cls:=.type "list",data:=.seq #[] c₀})
  (hR:∀c B y M,(∀b o,b≠S->s.heap.get? b=some o->c.get? b=some o)->c.get? S=some {cls:=.type "list",dict:=none,data:=.seq y M,slots:= #[]}->
   ItemsOf (λi v=>∃k x,AP[i]?=some (k,x)/\knd.is k v=true) y AP.length->R (.ok (.ret Y)) {s with heap:=c,toks:=B}):
  CB (CL prog w) A.in1 (Mw (.ref S) (.ref d) Y)
   (λa U=>match a with | .done f=>R (.ok f) U | .again M=>M.quiet=true/\Np (CL prog w) A M R U) (λe U=>R (.error e) U) s:=by
 let(od,es,I,vR,ju,hk0,hp0,hn0):=id N;let hT:s.TypeIs (.ref d) "dict":=N.dictOf.typeIs
 let X:S≠d:=λe=>by
  rw [e] at u;erw [u] at I;cases ju
 let m:d≠s.heap.objs.size:=N8 (HF I);let P:S≠s.heap.objs.size:=N8 (HF u)
 let g:S∉[s.heap.objs.size,d]:=λN=>by
  rcases JP.mp N with z|z
  ·show P z
  ·show X (HU.mp z)
 let W:=(Walks.dictKeys (knd:=knd) (A:=A.in1) hh s.heap.objs.size d m AP ep).toS;unfold Mw;show BL (Vz (T:="dict") hT ?_);let h1:Builtin.List.listSameRef (.ref S) (.ref d)=false:=by simp [Builtin.List.listSameRef,X]
 let h2:(Value.type "dict"==Value.type "list")=false:=cr
 let h3:(Value.type "dict"==Value.type "tuple")=false:=cr
 simp only [h1,h2,h3,aj_,Zn,if_false];show BL (wpAny_pyIter_dict hd N ?_);let Q:(s.heap.push {cls:=.type "dict_keyiterator",data:=.fields (List.toArray [.ref d,.int 0 0,.int AP.length 0,.int ep 0])}).DictAt knd d AP ep:=N.at' λo e=>GY _ e;show BL (Nq (aa_ (knd:=knd) Q.dictOf ?_));let Z:=GY {cls:=.type "dict_keyiterator",data:=.fields (List.toArray [.ref d,.int 0 0,.int AP.length 0,.int ep 0])} u;let J:(s.heap.push {cls:=.type "dict_keyiterator",data:=.fields (List.toArray [.ref d,.int 0 0,.int AP.length 0,.int ep 0])}).IsKeyIter s.heap.objs.size d 0 AP.length ep:=(_,JO _ rfl,O,O)
 let L:∀(h:Heap)(c₁ B:Nat),h.IsKeyIter s.heap.objs.size d 0 AP.length ep->h.DictAt knd d AP ep->(∀b o,b≠S->s.heap.get? b=some o->h.get? b=some o)->
   h.get? S=some {cls:=.type "list",data:=.seq #[] c₁}->Np (CL prog w) A (.builtin "list.extend.loop" #[[.ref S,.ref s.heap.objs.size,Y],[]]) R {s with heap:=h,toks:=B}:=by
  intro h c₁ B q p hk Z;show codeAny_extend_loopS W G S g Y AP.length 0 _ #[] c₁ rfl (NF _) #[q,p] Z (ItemsOf.nil _) λU y M H Vv CQ=>?_;rw [Moved.eq_with H];show hR U.heap U.toks y M (λb o D e=>H.heap b o (λNO=>?_) (hk b o D e)) Vv CQ
  rcases JP.mp NO with e'|NO
  ·show D e'
  ·show DQ (HF e) (by rw [HU.mp NO];show Q0 _)
 show LQ (λ_=>?_) (λ_=>DT #[VB F.plain_extend_loop _,L _ c₀ _ J Q (λb o _ e=>GY _ e) Z]);show BL (α5 ?_);show BL ?_;change CB _ _ (updateSeq S (·.push .none) >>=λ_=>updateSeq S (·.pop)) _ _ _;show BL (LP Z rfl ?_);let C:=x5 (SG (·.push Value.none)) Z rfl;show LP (hz:=by seq_fits) C rfl ?_;let j:=x5 (SG (·.pop)) C rfl;show DT #[VB F.plain_extend_loop _,L _ _ _ (J.at λo e=>?_) (Q.at' λo e=>?_) (λb o D e=>?_) j]
 ·show(VA _ _ P).trans ((VA _ _ P).trans e)
 ·show(VA _ _ X).trans ((VA _ _ X).trans e)
 ·show(VA _ _ (G' D)).trans ((VA _ _ (G' D)).trans (GY _ e))
def akV {R:Ρ}(q:A.handled=none)(p:(d==Nf)=false)(D:s.heap.DictAt knd d AP ep)(X:AP.length<=DC)(S:BK)(U:s.heap.get? S=some {cls:=.type "list",data:=.seq #[]})
  (m:∀T M P Z,(∀b o,b≠S->s.heap.get? b=some o->T.get? b=some o)->T.get? S=some {cls:=.type "list",dict:=none,data:=.seq P Z,slots:= #[]}->
   ItemsOf (λi v=>∃k x,AP[i]?=some (k,x)/\knd.is k v=true) P AP.length->R (.ok (.ret .none)) {s with heap:=T,toks:=M}):
  CB (CL prog w) A.in1 (Builtin.«list.__init__» #[[.ref S,.ref d],[]])
   (λG Q=>match G with | .done f=>R (.ok f) Q | .again Z=>Z.quiet=true/\Np (CL prog w) A Z R Q) (λe Q=>R (.error e) Q) s:=by
 let(a,es,J,c,C,y,B,z):=id D
 let H:S≠d:=λe=>by
  rw [e] at U;erw [U] at J;cases C
 change CB _ _ (do let L <- Builtin.List.listItems (.ref S);Builtin.List.listUpdate (.ref S) (λ_=> #[]);letGo L.toList.reverse;Mw (.ref S) (.ref d) .none) _ _ s;show BL ?_;unfold Builtin.List.listItems;show BL (Sn U rfl (DT ?_));change CB _ _ (updateSeq S (λ_=> #[]) >>=λ_=>letGo (#[]:Array Value).toList.reverse >>=λ_=>Mw (.ref S) (.ref d) .none) _ _ s;show BL (LP U rfl ?_);let I:=x5 (SG (λ_=>(#[]:Array Value))) U rfl
 let Y:∀b o,b≠S->s.heap.get? b=some o->(s.heap.update S (SG (λ_=>(#[]:Array Value)))).get? b=some o:=
  λb o N e=>(VA _ _ (G' N)).trans e
 show BL (wpAny_letGo ?_);show aaa q p (D.at' λo e=>Y d o (G' H) e) X S .none _ I λT M P Z u j g=>?_;show m T M P Z (λb o N e=>u b o N (Y b o N e)) j g
def aju {Q:δ}(L:A.handled=none)(J:(d==Nf)=false)(N:s.heap.DictAt knd d AP ep)(Y:AP.length<=DC)
  (I:∀h' U X T,(∀b o,s.heap.get? b=some o->h'.get? b=some o)->
   h'.get? s.heap.objs.size=some {cls:=.type "list",dict:=none,data:=.seq X T,slots:= #[]}->ItemsOf (λi v=>∃k x,AP[i]?=some (k,x)/\knd.is k v=true) X AP.length->Q (.ref s.heap.objs.size) {s with heap:=h',toks:=U}):
  CB (CL prog w) A (call (.type "list") [.ref d]) Q E s:=by
 show callType_codes (Q₁:=λZ S=>Z=.ref s.heap.objs.size/\S={s with heap:=s.heap.push {cls:=.type "list",data:=.seq #[]}}) F.called_list (F.typeCall_list_1 _) F.entry_list_init
  (code_list_new _ #[O,O]) λZ S P=>?_
 let(rfl,rfl):=P;let R:(s.heap.push {cls:=.type "list",data:=.seq #[]}).get? s.heap.objs.size=some {cls:=.type "list",data:=.seq #[]}:=JO _ rfl;show((_,R,O),F.args_list_init_2 _ _,akV (A:=A.in1) L J (N.at' λo e=>GY _ e) Y _ R λh' U X T M H G=>?_);show#[O,I h' U X T (λb o e=>M b o (N8 (HF e)) (GY _ e)) H G]
end
theorem aw :∀{Y:List Z} {X:List β} {i:Nat} {a:Z},Paired F Y X->Y[i]?=some a->∃b,X[i]?=some b/\F a b
 | _,_,_,_,.nil,h=>by simp at h
 | _,_,0,_,.cons r _,h=>by
  cases h;show(_,O,r)
 | _,_,i+1,_,.cons _ t,h=>by
  let(b,e,f):=aw (i:=i) t (by simpa using h);show(b,by simpa using e,f)
theorem fO :∀{Y:List Z} {X:List β},Y.length=X.length->(∀(i:Nat)(a:Z)(b:β),Y[i]?=some a->X[i]?=some b->F a b)->Paired F Y X
 | [],[],_,_=>.nil
 | a::Y,b::X,h,f=>.cons (f 0 a b rfl rfl) (fO (by simpa using h) λi a b T U=>f (i+1) a b (by simpa using T) (by simpa using U))
 | [],_::_,h,_=>by simp at h
 | _::_,[],h,_=>by simp at h
def yr (h:(bF P w).is k u=true):RelV (kV k) u:=by
 rcases cP h with ⟨i,t,rfl,rfl⟩|⟨x,t,rfl,rfl⟩
 ·show#[t,O]
 ·show#[t,O]
section
variable {X:Cx}
inductive Q7 (xs:ε)(H:Hp)(Q:VK):Prop
|mk (p:BK)(AP:γ)(_:xs=[.ref p])(_:Rd H p (.dK AP))(_:∀l,H l=none->Q (.ref l) (upd H l (.lst (AP.map λZ=>kV Z.1))))
def gB (f:X.calm=true):gP X (.type "list") Q7:=by
 intro G s Y H xs us Q I r h;let(p,M,rfl,B,q):=h;let(u,rfl,J):=vals1 r;cases J;let(z,g,vs,Z,o,es,ep,y,C,D,j,A,m):=ki I.bO B;let hl:=Z.length;show aju (knd:=bF X.prog X.w) (I.ok.hd f) g (o,es,y,C,D,j,A,m) ce λh' S R c' E c N=>?_;let T:=I.bO.fresh (DH s.heap.objs.size)
 let L:Vals (M.map λU=>kV U.1) R.toList:=fO (by have:=N.1;simp;omega) λi a b P e2=>by
  rw [CP] at P;let(U,ek,rfl):=JM.mp P;let(q',eq,e3,_):=aw Z ek;let(k,x,e4,e5):=N.2 i b (by simpa using e2);erw [eq] at e4;rw [e3];show yr e5
 let I2:Inv X G Y (upd H s.heap.objs.size (.lst (M.map λU=>kV U.1))) {s with heap:=h',toks:=S}:=I.laid (t':=S) E (DH _) (by rwa [be],R.toList,c',L,by simpa using c);show(.ref _,_,I2,O,q _ T)
def Inv.freeze {Y:L2.St}(I:Inv X pX Y H s)(e:H d=some (.dK AP))(T:s.heap.get? d=some o):Inv X pX Y (upd H d (.eR o (.dK AP))) s:=by
 let Z:∀b u,H b=some u->b≠d->upd H d (.eR o (.dK AP)) b=some u:=λb u q n=>by rwa [aj n]
 show I.step (g':=s.gens) (t':=s.toks) (d':=s.drawn) (ch:=[]) (λ_ z=>nomatch z) (λb o _ _ _ e _=>e) (λb o _ _ _ e _=>#[o.slots,e]) (λb o _ _ n=>by rw [aj (λz=>by erw [z,e] at n)];show n) (λb o _ e=>#[o,e])
  (λb xs q=>Z b _ q λz=>by erw [z,e] at q) (λb Q u q=>Z b _ q λz=>by erw [z,e] at q) (λb R q=>#[#[],by rw [Z b _ q λz=>by erw [z,e] at q];simp]) (λm S=>S) (λb u q=>?_) I.bare
 by_cases U:b=d
 ·subst U
  erw [ak] at q;show#[T,I.bO b _ e]
 ·rw [aj U] at q
  show(I.bO b u q).xU (λ_ _ _ k=>k) (λc k=>Z c _ k λz=>by erw [z,e] at k) λc xs k=>Z c _ k λz=>by erw [z,e] at k
def Itd (d:BK)(o:Obj)(AP:γ):It:=
 (λi H=>H d=some (.eR o (.dK AP))/\i<AP.length,
  λi H v Z=>∃p k x,AP[i]?=some (k,x)/\v=.ref p/\H p=none/\Z=upd H p (.tup [kV k,x]),
  λi H=>H d=some (.eR o (.dK AP))/\AP.length<=i)
def k_ (T:mE P w H h)(e:H d=some (.eR o (.dK AP)))(Y:o.data=.dict TR ep):
  (d==Nf)=false/\∃vs,KV AP vs/\h.DictAt (bF P w) d vs ep/\AP.length<=DC:=by
 let(U,z,J,vs,Z,I,G,E,N,R,S,L,Q,M):=T d _ e;erw [U] at N;erw [Y] at S;show(J,vs,Z,(o,TR,U,R,Y,L,Q,M),z)
def zaY:entryFor table "dict_itemiterator.__iter__"=some Builtin.«dict_keyiterator.__iter__»:=
 entryFor_alias (id':="dict_keyiterator.__iter__") (by kernel_rfl) (by first|rfl|decide+kernel|(unfold String.splitOn;simp+decide [String.splitOnAux])) (by decide+kernel) (by kernel_rfl)
def ach {E:δ}{Q:δ}(st:IsItemIter s.heap it d i n ep ok ov)(h:Q (.ref it) s):CB (CL P w) A (pyIter (.ref it)) Q E s:=by
 let Z:s.TypeIs (.ref it) "dict_itemiterator":=(_,st,O);show wpAny_pyIter_slot Z F.slot_dict_itemiterator_iter (VE F.slot_dict_itemiterator_iter Z zaY ?_ (F.args_dict_itemiterator_iter_1 _));change CB _ _ (ret (.ref it)) _ _ s;show DT (_,O,"dict_itemiterator",_,Z,F.slot_dict_itemiterator_next.lookup,h)
def aaY {K:Frag}{es:Ε}(d it:BK)(o:Obj)(AP:γ)(g:o.data=.dict TR ep)(NC:it≠d):
  Turn P w K (.Tuple es k pos) (Itd d o AP) [it] it (λi h=>∃S T,IsItemIter h it d i AP.length ep S T) where
 mem:=by simp
 obj:=λi h st b U=>by
  let e:b=it:=by simpa using U
  subst e;let(S,T,st):=st;show(_,st,λv z=>by cases z)
 keep:=λi h M st k=>by
  let(S,T,st):=st;show(S,T,k it fD _ st)
 item:=by
  intro X B G A N i m s Y H E I Q st C;subst B G A;let(S,T,st):=st;let(y,j):=C;let(hd,vs,Z,q,_):=k_ I.bO y g;let f:AP[i]?=some AP[i]:=gE j;let((k',u),ev,e1,ru):=aw Z f;let R:=Z.length;rw [R] at st;show wpAny_pyNext_items_item st q ev λJ M BV L tup sz kk=>?_;show(_,O,wpAny_letOwnedTupleGo_items (s:={s with heap:=M}) L λa ala sb=>?_);let D:∀c o,s.heap.get? c=some o->s.heap.objs.size≠c:=λc o e=>VG (HF e);let p:s.heap.objs.size≠it:=D _ _ st;let nz:∀c,c≠it->∀o,M.get? c=some o->a.get? c=some o:=λc N o e=>(sb.2 c N).trans e;let hn:=I.bO.fresh (DH s.heap.objs.size);have NA :AP[i].1=k':=e1
  let I2:Inv X m Y (upd H s.heap.objs.size (.tup [kV AP[i].1,AP[i].2])) {s with heap:=a,toks:=s.toks}:=
   Inv.sN I (λb o U e=>nz b (by simpa using U) o (kk b o (by simpa using U) e)) Q (DH _) (by change 2<=DC;decide) (BN:=[J,u]) (.cons (by rw [NA];show yr BV) (.cons ru .nil)) (_,nz _ p _ tup,O,_,O)
  show(.ref s.heap.objs.size,_,I2,O,(s.heap.objs.size,AP[i].1,AP[i].2,f,O,hn,O),(_,_,by rwa [R]),λb U=>?_);let x:b=it:=by simpa using U
  rw [aj (by rw [x];show G' p)];show(Q b U).1
 done:=by
  intro X B G A N i m s Y H E I Q st C;subst B G A;let(S,T,st):=st;let(y,j):=C;let(hd,vs,Z,q,_):=k_ I.bO y g;let R:=Z.length;rw [R] at st;let(f0,f1,f2,f3,f4,f5):=Q it fD;show wpAny_pyNext_items_end (I.ok.hd N) st q (IM ce) λM x=>#[O,I.turned (t':=s.toks) (λb o U e=>x b o U e) f0 f1 f3 f4 f5]
 self:=λ_ _ _ _ _ st h=>by
  let(S,T,st):=st;show ach st h
inductive LR (R:(It->Hp->Prop))(x:V)(Z:Hp):Prop
|mk (d AP:_)(_:x=.ref d)(_:Z d=some (.dK AP))(_:∀o,R (Itd d o AP) (upd Z d (.eR o (.dK AP))))
def ag0 (Z:TE):TI:=λY H R=>Z Y H λx U=>LR R x U
def lh {U u:Pos}{es:Ε}{k:Nat}{p:Pos}(ho:PE X e te)(g:VC e "items" X.env (EI e X.env)=EI e X.env:=by rfl)(i:(U.endLine==u.line)=true:=by rfl):
  PI X (.Tuple es k p) (.Call (.Attribute e "items" U) [] [] u) (ag0 te):=by
 intro D s Y H R I h;show MA g i (cK (ho D s Y H _ I h) λv Z ⟨x,H1,J,m,j⟩=>?_);let(d,G,rfl,e,q):=j;cases m;let(z,hd,S,Q,o,ZR,P,M,a,C,hk,hp,hn):=km J.bO e;let(B,h2):=af4 (T:="dict") J (show RelV (.ref d) (.ref d) from rfl) (.inr (.inr (.inl #[O,.inl #[G,e]])));let y:Z.heap.DictAt (bF X.prog X.w) d S P:=(o,ZR,M,a,C,hk,hp,hn);let c:=Q.length;show("dict","dict.items",MX,F.slot_dict_items,F.type_dict_items,B,h2,Wg rfl (LX ?_));show Vd F.slot_dict_items B F.entry_dict_items (F.args_dict_items_1 _) (meets_dict_items (bF X.prog X.w) d hd) #[#[S,y.dictOf],?_];let L:=Inv.freeze J e M;let N:(Z.heap.push {cls:=.type "dict_items",data:=.fields (List.toArray [.ref d])}).DictAt (bF X.prog X.w) d S P:=y.at' λo e=>GY _ e;change CB (CL X.prog X.w) X.A (pyIter (.ref Z.heap.objs.size)) _ _ _;show wpAny_pyIter_items (s:={Z with heap:=Z.heap.push {cls:=.type "dict_items",data:=.fields (List.toArray [.ref d])}}) (_,JO _ rfl,O,O) N ?_;let E:(Z.heap.push {cls:=.type "dict_items",data:=.fields (List.toArray [.ref d])}).objs.size=Z.heap.objs.size+1:=Pk ..
 let f:(Z.heap.push {cls:=.type "dict_items",data:=.fields (List.toArray [.ref d])}).objs.size≠d:=by
  rw [E];show G' (N8 (yC (HF M)))
 let I3:Inv X D Y (upd H1 d (.eR o (.dK G))) {Z with heap:=(Z.heap.push {cls:=.type "dict_items",data:=.fields (List.toArray [.ref d])}).push {cls:=.type "dict_itemiterator",data:=.fields (List.toArray [.none,.bool false,.ref d,.int 0 0,.int S.length 0,.int P 0,.none,.none])}}:=L.kept (t':=Z.toks) λb o e=>GY _ (GY _ e);show(_,[_],_,_,_,O,I3,aaY d _ o G C f,(_,_,by rw [c];show JO _ rfl),λb hb=>?_,q o);let eb:b=(Z.heap.push {cls:=.type "dict_items",data:=.fields (List.toArray [.ref d])}).objs.size:=by simpa using hb
 let le:Z.heap.objs.size<=b:=by rw [eb,E];show vn _
 show L.mS le (L.bO.fresh le)
end
end Ty
namespace Ty
def ev:List Int->(Nat->Rat)->Rat
 | [],_=>0
 | a::r,z=>(a:Rat)*z 0+ev r (λi=>z (i+1))
theorem afg:∀(l:ξ)(z y:Nat->Rat),ev l (λi=>z i+y i)=ev l z+ev l y
 | [],_,_=>by simp [ev];grind
 | a::r,z,y=>by
  simp only [ev];rw [afg r (λi=>z (i+1)) (λi=>y (i+1))];grind
theorem yt:∀(l:ξ)(z:Nat->Rat),(∀j,((l.getD j 0:Int):Rat)*z j=0)->ev l z=0
 | [],_,_=>rfl
 | a::r,z,h=>by
  let Y:=h 0;let Z:=yt r (λi=>z (i+1)) (λj=>by simpa using h (j+1));simp only [ev];rw [Z];simp at Y;grind
theorem yu:∀(l:ξ)(z:Nat->Rat)(p:Nat),(∀j,j≠p->((l.getD j 0:Int):Rat)*z j=0)->ev l z=((l.getD p 0:Int):Rat)*z p
 | [],_,_,_=>by simp [ev]
 | a::r,z,0,h=>by
  let Z:=yt r (λi=>z (i+1)) (λj=>by simpa using h (j+1) ce);simp only [ev];rw [Z];simp;grind
 | a::r,z,p+1,h=>by
  let Y:=h 0 ce;let Z:=yu r (λi=>z (i+1)) p (λj X=>by simpa using h (j+1) ce);simp only [ev];rw [Z];simp at Y;simp;grind
theorem afb :∀{Y Z X:ξ},Y.length=Z.length->X.length=Z.length->(∀j,s*Y.getD j 0=t*Z.getD j 0-u*X.getD j 0)->∀z:Nat->Rat,(s:Rat)*ev Y z=t*ev Z z-u*ev X z
 | [],[],[],_,_,_,z=>by simp [ev];grind
 | a::Y,b::Z,c::X,S,T,h,z=>by
  let U:=h 0;let Q:=afb (by simpa using S) (by simpa using T) (λj=>by simpa using h (j+1)) (λi=>z (i+1));simp at U;let R:(s:Rat)*a=t*b-u*c:=by exact_mod_cast U
  simp only [ev];grind
 | [],_::_,_,h,_,_,_=>by simp at h
 | _::_,[],_,h,_,_,_=>by simp at h
 | _,[],_::_,_,h,_,_=>by simp at h
 | _,_::_,[],_,h,_,_=>by simp at h
def gc:List Rat->List (List Int)->Nat->Rat
 | c::y,o::os,j=>c*((o.getD j 0:Int):Rat)+gc y os j
 | _,_,_=>0
theorem zaH (X:s≠0)(j:Nat):∀(os:θ)(Y Z:Ο),Y.length=os.length->Z.length=os.length->s*gc (QG (λa b=>(t*a-u*b) / s) Y Z) os j=t*gc Y os j-u*gc Z os j
 | [],[],[],_,_=>by simp [gc];grind
 | o::os,a::Y,b::Z,T,U=>by
  let S:=zaH (t:=t) (u:=u) X j os Y Z (by simpa using T) (by simpa using U);simp only [ajR,gc];grind
 | [],_::_,_,h,_=>by simp at h
 | [],[],_::_,_,h=>by simp at h
 | _::_,[],_,h,_=>by simp at h
 | _::_,_::_,[],_,h=>by simp at h
theorem xt (j:Nat):∀(os:θ),gc (IV os.length 0) os j=0
 | []=>rfl
 | o::os=>by
  simp only [NX,Zs,gc];rw [xt j os];grind
def qw (os:θ)(l:ξ):Prop:=∃y:List Rat,y.length=os.length/\∀j,((l.getD j 0:Int):Rat)=gc y os j
theorem zaF:∀{os:θ} {l:ξ},l∈os->qw os l
 | o::os,l,h=>by
  rcases JP.mp h with z|z
  ·subst z
   show(1::IV os.length 0,by simp,λj=>?_);simp only [gc];rw [xt];grind
  ·let(y,Y,Z):=zaF z
   show(0::y,by simp [Y],λj=>?_);simp only [gc];rw [<-Z j];grind
def ab2 (T:s≠0)(h:∀j,s*new.getD j 0=t*line.getD j 0-u*CJ.getD j 0)(R:qw os line)(S:qw os CJ):qw os new:=by
 let(Y,U,N):=R;let(Z,X,P):=S;have M :=dF T;show(QG (λa b=>((t:Rat)*a-u*b) / s) Y Z,by simp [U,X],λj=>?_);let k:=zaH (t:=(t:Rat)) (u:=(u:Rat)) M j os Y Z U X;rw [<-N j,<-P j] at k;let Q:(s:Rat)*(new.getD j 0:Int)=t*(line.getD j 0:Int)-u*(CJ.getD j 0:Int):=by exact_mod_cast h j
 rw [<-Q] at k;grind
def rm (y:Ο):Nat->Rat:=λi=>if i<y.length then y.getD i 0 else -1
theorem H_ (j:Nat)(c:Int):∀(os:θ)(y:Ο),y.length=os.length->ev (os.map (λo=>o.getD j 0)++[c]) (rm y)=gc y os j-c
 | [],[],_=>by simp [ev,rm,gc];grind
 | o::os,a::y,h=>by
  let Z:=H_ j c os y (by simpa using h)
  let Y:(λi=>rm (a::y) (i+1))=rm y:=by
   funext i;simp [rm]
  simp only [ED,yX,ev,gc];rw [Y,Z];simp [rm];grind
 | [],_::_,h=>by simp at h
 | _::_,[],h=>by simp at h
theorem ur (k:Rat)(j:Nat):∀(os:θ)(y:Ο),gc (y.map (λa=>a*k)) os j=gc y os j*k
 | [],_=>by cases ‹List Rat› <;> simp [gc]<;>grind
 | _::_,[]=>by simp [gc]
 | o::os,a::y=>by
  simp only [ED,gc];rw [ur k j os y];grind
structure vN (line CJ new:ξ)(c:Nat):Prop where
 len:new.length=line.length
 Ra:new.getD c 0=0
 TU:∃s t u:Int,s≠0/\t≠0/\∀j,s*new.getD j 0=t*line.getD j 0-u*CJ.getD j 0
def vN.zero (h:vN line CJ new c)(X:line.getD j 0=0)(Y:CJ.getD j 0=0):new.getD j 0=0:=by
 let(s,t,u,Z,_,e):=h.TU;have:=e j;rw [X,Y,α3,α3,Int.sub_self] at this
 rcases ajW.mp this with z|z
 ·show DQ z Z
 ·show z
theorem vN.at (h:vN line CJ new c)(Y:CJ.getD j 0=0)(X:line.getD j 0≠0):new.getD j 0≠0:=by
 let(s,t,u,U,Z,e):=h.TU;have:=e j;rw [Y] at this;intro z;rw [z,α3,α3,Int.sub_zero] at this
 rcases ajW.mp this.symm with y|y
 ·show Z y
 ·show X y
def vN.comb (h:vN line CJ new c)(X:qw os line)(Y:qw os CJ):qw os new:=by
 let(s,t,u,Z,U,e):=h.TU;show ab2 Z e X Y
theorem vN.ev (h:vN line CJ new c)(U:CJ.length=line.length)(T:Ty.ev CJ z=0):Ty.ev new z=0 ↔ Ty.ev line z=0:=by
 let(s,t,u,X,Y,e):=h.TU;let k:=afb h.len U e z;rw [T] at k;have S :=dF X;let Z:=dF Y;constructor
 ·intro w
  rw [w] at k;grind
 ·intro w
  rw [w] at k;grind
end Ty
namespace Ty
open PySem PySem.Spec PyProof.Rows L2
def Itn (K:Frag)(a:BK):It:=
 (λi H=>∃xs x,aT K H a xs/\xs[i]?=some x,
  λi H v Z=>∃p x,(∀xs,aT K H a xs->xs[i]?=some x)/\v=.ref p/\H p=none/\Z=upd H p (.tup [.int (i:Int),x]),
  λi H=>∃xs,aT K H a xs/\xs.length<=i)
def aa3 {K:Frag}{es:Ε}(a e it:BK)(NC:e≠it):
  Turn P w K (.Tuple es k pos) (Itn K a) [e,it] e (λi h=>(∃Z,IsEnum h e it ((i:Nat):Int) Z)/\h.IsListIter it a i) where
 mem:=by simp
 obj:=λi h st c T=>by
  let((Z,U),(o1,m,c1,d1)):=st;have G :c=e\/c=it:=by simpa using T
  rcases G with z|z<;>subst z
  ·show(_,U,λv z=>by cases z)
  ·show(_,m,λv z=>by erw [d1] at z)
 keep:=λi h L st k=>by
  let((Z,U),R):=st;show#[#[Z,k e fD _ U],R.at λo e=>k it fD o e]
 item:=by
  intro X A C y T i f s Y H E I M st B;subst A C y;let((Z,U),R):=st;let(xs,x,N,ex):=B;let(BN,J,p,_):=I.list N;let(u,hu,ru):=J.get ex;show wpAny_pyNext_enum_item U R p.isList (x:=u) (by simpa using hu) NC λL a1 a2 a3 a4 a5=>?_;show(_,O,wpAny_letOwnedTupleGo_enum (s:={s with heap:=L,toks:=s.toks+1}) a1 λj b1 sb=>?_);let nz:∀c,c≠e->∀o,L.get? c=some o->j.get? c=some o:=λc T o q=>(sb.2 c T).trans q
  let D:∀b o,b∉[e,it]->s.heap.get? b=some o->j.get? b=some o:=λb o S q=>by
   have Q :b≠e/\b≠it:=by simpa using S
   show nz b Q.1 o (a5 b o Q.1 Q.2 q)
  let g:∀c o,s.heap.get? c=some o->s.heap.objs.size≠c:=λc o q=>VG (HF q);let tz:s.heap.objs.size≠e:=g _ _ U;let hn:=I.bO.fresh (DH s.heap.objs.size)
  let I2:Inv X f Y (upd H s.heap.objs.size (.tup [.int (i:Int),x])) {s with heap:=j,toks:=s.toks+1}:=
   Inv.sN I D M (DH _) (by change 2<=DC;decide) (BN:=[.int i s.toks,u]) (.cons #[_,O] (.cons ru .nil)) (_,nz _ tz _ a3,O,_,O)
  show(.ref s.heap.objs.size,_,I2,O,(s.heap.objs.size,x,λxs' q=>by rwa [I.jh q N],O,hn,O),#[#[_,by show b1],a2.at λo q=>nz _ (G' NC) o q],λb S=>?_)
  let ob:∃o,s.heap.get? b=some o:=by
   let(o1,m,_):=R;have G :b=e\/b=it:=by simpa using S
   rcases G with z|z<;>subst z
   ·show#[_,U]
   ·show#[_,m]
  let(o,q):=ob;rw [aj (G' (g _ _ q))];show(M b S).1
 done:=by
  intro X A C y T i f s Y H E I M st B;subst A C y;let((Z,U),R):=st;let(xs,N,ee):=B;let(BN,J,p,_):=I.list N;let l1:=J.length;show wpAny_pyNext_enum_end (I.ok.hd T) U R p.isList (by simp;omega) λL D=>#[O,Inv.jK I (λb o S q=>?_) M];have Q :b≠e/\b≠it:=by simpa using S
  show D b o Q.2 q
 self:=λ_ _ _ _ _ st h=>by
  let((Z,U),_):=st;show wpAny_pyIter_enum U h
def boot_enumerate:NW "enumerate"=some (.type "enumerate"):=by decide+kernel
section
variable {X:Cx}
inductive Rb (K:Frag)(R:(It->Hp->Prop))(vs:ε)(Z:Hp):Prop
|mk (a:_)(_:vs=[.ref a])(_:(∃xs,aT K Z a xs))(_:R (Itn K a) Z)
def adw (K:Frag)(U:TA):TI:=λY H R=>U Y H λZ T=>Rb K R Z T
def aiH {w:Ε}(B:Gl X "enumerate")(D:X.mg "enumerate"=none)(z:PA X [e1] ta)(E:HE [e1] X.env=[(false,EI e1 X.env)]:=by rfl):
  PI X (.Tuple w k x6) (.Call (.Name "enumerate" p) [e1] [] pos) (adw X.K ta):=by
 intro L s Y H R I h;show Call_ (jG I B D boot_enumerate (We (cK (z pos L s Y H _ I h) λm Z ⟨o,u,U,P,N⟩=>?_) E rfl));let(a,e,(xs,J),q):=N;subst e;cases P with
 | cons r Q=>
  cases Q;cases r;let(i,j,M,_):=U.list J;show call_enumerate_list M.isList λx S y G C=>wpAny_pyIter_enum (s:={Z with heap:=x}) S ?_;show(Z.heap.objs.size+1,[Z.heap.objs.size+1,Z.heap.objs.size],_,_,u,O,U.kept (t':=Z.toks) C,aa3 a _ _ (Nat.succ_ne_self _),#[#[_,S],y],λc A=>?_,q)
  have T :Z.heap.objs.size<=c:=by
   have:c=Z.heap.objs.size+1\/c=Z.heap.objs.size:=by simpa using A
   simp only [BK] at*;omega
  show U.mS T (U.bO.fresh T)
def any_range (Y:List Bool):(JJ Y.length).any (λi=>(Y[i]?).getD true)=Y.any id:=by
 rw [Vr,Wq,Wq];constructor
 ·rintro ⟨i,U,h⟩
  let Z:i<Y.length:=QX.mp U;rw [gE Z] at h;show(Y[i],RC Z,h)
 ·rintro ⟨b,T,h⟩
  let(i,U):=JG T;show(i,QX.mpr (ir.mp U).1,by rwa [U])
inductive ZS (K:Frag)(xs:ε)(H:Hp)(Q:VK):Prop
|mk (p:BK)(Z:List Bool)(_:xs=[.ref p])(_:aT K H p (Z.map V.bl))(_:Q (.bl (Z.any id)) H)
def xu (y:X.calm=true):gP X (.builtin "any") (ZS X.K):=by
 intro E s Y H xs us Q I r h;let(p,Z,rfl,B,q):=h;let(u,rfl,G):=vals1 r;cases G;let(S,R,U,hz):=I.list B;show call_any_walk (wd U.isList ?_);let a:p≠s.heap.objs.size:=by let(o,z,_):=U.isList;show N8 (HF z)
 let I1:Inv X E Y H {s with heap:=s.heap.push {cls:=.type "list_iterator",data:=.fields (List.toArray [.ref p,.int 0 0])}}:=I.kept (t':=s.toks) λb o e=>GY _ e;let(g,j,f2,k,m,w):=I.mS (H':=H) (DH s.heap.objs.size) (I.bO.fresh (DH _));let P:S.length=Z.length:=by rw [<-R.length,be]
 show(s.heap.objs.size,_,_,_,_,_,λi=>(Z[i]?).getD true,O,Walks.list (A:=X.A.in1) (I.ok.hd y) s.heap.objs.size p a S.toArray,#[(_,JO _ rfl,O,O),U.isList.at λo e=>GY _ e],?_,λh' L D=>?_)
 ·intro i v s' Q' E' C T
  have M :S[i]?=some v:=by simpa using C
  let N:i<Z.length:=by rw [<-P];show(ir.mp M).1
  let c:(Z.map V.bl)[i]?=some (.bl Z[i]):=by rw [CP,gE N];rfl
  let(u,f,J):=R.get c;erw [M] at f;cases J;dsimp only at T;rw [gE N] at T;show UW T
 ·show(.bl (Z.any id),H,I1.turned (t':=L) (it:=s.heap.objs.size) (λb o x e=>D b o (by simpa using x) e) g j k m w,?_,q)
  change _=_;rw [<-any_range Z,NJ,P]
def Ya:NW "any"=some (.builtin "any"):=by decide+kernel
end
def zaD {K:Frag}{g:TG}{R:TS}{D:Ends}(Z:Nat->L2.St->Hp->Prop)(A:Z 0 Y H)(E:∀i Y H,i<=xs.length->Z i Y H->aT K H a xs)
  (G:∀i x Y H p,xs[i]?=some x->Z i Y H->H p=none->g (.ref p) Y (upd H p (.tup [.int (i:Int),x])) λU S=>R {D with nx:=Z (i+1),ct:=Z (i+1),bk:=D.nx} U S) (B:∀Y H,Z xs.length Y H->D.nx Y H):
  ∃W:Nat->Nat->L2.St->Hp->Prop,(∃m,W 0 m Y H)/\∀i m Y H,W i m Y H->
   ((Itn K a).stop i H/\D.nx Y H)\/((Itn K a).go i H/\∃N:L2.St->Hp->Prop,(∀T X,N T X ->∃Q,Q<m/\W (i+1) Q T X)/\∀x X,(Itn K a).GV i H x X ->g x Y X λU S=>R {D with nx:=N,ct:=N,bk:=D.nx} U S):=by
 show(λi m Y H=>m=xs.length-i/\i<=xs.length/\Z i Y H,(xs.length,by simp,NF _,A),?_);rintro i m Y H ⟨rfl,C,p⟩;let q:=E i Y H C p;by_cases I:i<xs.length
 ·let e:xs[i]?=some xs[i]:=gE I
  show .inr ((xs,_,q,e),Z (i+1),λT X z=>(xs.length-(i+1),ce,O,ce,z),λx X y=>?_);let(L,M,P,rfl,J,rfl):=y;show G i M Y H L (P xs q) p J
 ·let e:i=xs.length:=ce
  subst e;show .inl #[(xs,q,DH _),B Y H p]
def jw {g:TG}{R:TS}{D:Ends}(Z:Nat->L2.St->Hp->Prop)(A:Z 0 Y H)(E:∀i Y H,i<=AP.length->Z i Y H->H d=some (.eR o (.dK AP)))
  (G:∀i k x Y H p,AP[i]?=some (k,x)->Z i Y H->H p=none->g (.ref p) Y (upd H p (.tup [kV k,x])) λU S=>R {D with nx:=Z (i+1),ct:=Z (i+1),bk:=D.nx} U S) (B:∀Y H,Z AP.length Y H->D.nx Y H):
  ∃W:Nat->Nat->L2.St->Hp->Prop,(∃m,W 0 m Y H)/\∀i m Y H,W i m Y H->
   ((Itd d o AP).stop i H/\D.nx Y H)\/((Itd d o AP).go i H/\∃N:L2.St->Hp->Prop,(∀T X,N T X ->∃Q,Q<m/\W (i+1) Q T X)/\∀x X,(Itd d o AP).GV i H x X ->g x Y X λU S=>R {D with nx:=N,ct:=N,bk:=D.nx} U S):=by
 show(λi m Y H=>m=AP.length-i/\i<=AP.length/\Z i Y H,(AP.length,by simp,NF _,A),?_);rintro i m Y H ⟨rfl,C,p⟩;let q:=E i Y H C p;by_cases I:i<AP.length
 ·show .inr (#[q,I],Z (i+1),λT X z=>(AP.length-(i+1),ce,O,ce,z),λx X y=>?_)
  let(L,k,M,P,rfl,J,rfl):=y;show G i k M Y H L P p J
 ·let e:i=AP.length:=ce
  subst e;show .inl #[#[q,DH _],B Y H p]
open Builtin.Int (intBits)
section
variable {X:Cx}
def Rc (i j:Int):Prop:=intBits i+intBits j<=134217728
def iZ:kc X (QF .Mult) (rI Rc λi j=>.int (i*j)):=
 opI λ_ _ _ _ _ _ _ Z q=>mul_int q (IntMulOk.of_le (DH _) (DH _) Z)
def gU (Y:a.natAbs<=2^m)(Z:b.natAbs<=2^n)(h:m+n<=134000000):Rc a b:=by
 let T:=lR Y (QW m);let U:=lR Z (QW n);unfold Rc;omega
inductive Yb (K:Frag)(xs:ε)(H:Hp)(Q:VK):Prop
|mk (p ys:_)(_:xs=[.ref p,.ty "tuple"])(_:bL K H p ys)(_:Q (.bl true) H)
def agq:gP X (.builtin "isinstance") (Yb X.K):=by
 intro J s Y H xs M Q I r h;let(p,N,rfl,S,q):=h;let(u,w,rfl,T,U):=vals2 r;obtain rfl:=aj5 (c:=.ty "tuple") rfl U;cases T;let(G,L,(o,P,R,_),_):=I.tuple S;let e:Pj X.K (.type "tuple") (Zv (.ty "tuple"))=some true:=by unfold Pj;rw [ox cr]
 show Qv PySem.W.kitx_tuple I.mR (o,P,R) e (λz=>nomatch z) λZ=>(.bl true,H,I.tok Z,O,q)
end
def aq.bS {K:Frag}(e:aq H H')(h:bL K H a xs):bL K H' a xs:=by
 rcases h with (h|⟨o,h⟩)|h
 ·show .inl (.inl (e _ _ h))
 ·show .inl (.inr #[o,e _ _ h])
 ·show .inr h
section
variable {D:BK}{te:TE}{pS:L2.St}{H1:Hp}{Q:VK}
def agQ {K:Frag}(Rel:Ψ)(I:H1 D=none)(hn:xs.length<DC)(hl:ys.length=xs.length)(P:∀H,aq H1 H->aT K H a xs)(S:∀H,aq H1 H->aT K H b ys)
  (N:∀i v H H' ys,H D=some (.lst ys)->bM D H H' ->Rel i v H->Rel i v H')
  (k:∀i x y H (R:VK),xs[i]?=some x->ys[i]?=some y->aq H1 H->(∃ys,H D=some (.lst ys))->(∀v X,aq H X->Rel i v X->R v X)->te (some x::some y::pS) H R)
  (g:∀zs H,zs.length=xs.length->(∀i v,zs[i]?=some v->Rel i v H)->aq H1 H->H D=some (.lst zs)->Q (.ref D) H):
  mm D (Qs K 2 (BO (cE 0) (BO (cE 1) Zc))) kz te (ZE K a b) (none::none::pS) H1 Q:=by
 show(λi m Y zs H=>m=xs.length-i/\i<=xs.length/\(∃o J,Y=o::J::pS)/\(zs.length=i/\(∀i v,zs[i]?=some v->Rel i v H)/\aq H1 H)/\H D=some (.lst zs),(xs.length,by simp,NF _,(none,none,O),(O,λi v e=>by simp at e,λb o e=>by rwa [aj (ao e I)]),ak),?_);rintro i m Y zs H ⟨rfl,hi,⟨o,J,rfl⟩,⟨l,r,s⟩,U⟩;by_cases w:i<xs.length
 ·let L:xs[i]?=some xs[i]:=gE w
  let M:ys[i]?=some (ys[i]'ce):=gE ce;show .inr #[(xs,ys,_,_,P H s,S H s,L,M),λv H' y=>?_];let(p,x,y,B,C,rfl,A,rfl):=y;let L:=B xs (P H s);let M:=C ys (S H s);let Z:aq H (upd H p (.tup [x,y])):=λb o e=>by rwa [aj (ao e A)]
  show(p,_,O,bL.of ak,O,_,_,O,_,_,O,O,?_);unfold kz;dsimp only;rw [ox rfl];show k i x y _ _ L M (λb o e=>Z _ _ (s _ _ e)) #[zs,Z _ _ U] λv X T G=>(T _ _ (Z _ _ U),ce,xs.length-(i+1),ce,O,ce,(_,_,O),(by simp [l],λj u e=>?_,λb o e=>?_),ak)
  ·by_cases c:j<zs.length
   ·rw [NG c] at e
    let E:=N j u H X zs U (bM.of λb o q=>T _ _ (Z _ _ q)) (r j u e);show N j u X _ zs (T _ _ (Z _ _ U)) bM.upd E
   ·rw [NQ ce] at e
    let f:j=i:=by
     by_cases z:j-zs.length=0
     ·omega
     ·rw [IM (by simp;omega)] at e
      cases e
    subst f
    have:v=u:=by
     rw [show j-zs.length=0 by omega] at e;show JB e
    subst this;show N j v X _ zs (T _ _ (Z _ _ U)) bM.upd G
  ·rw [aj (ao e I)]
   show T _ _ (Z _ _ (s _ _ e))
 ·let e:i=xs.length:=ce
  subst e;show .inl #[(xs,ys,P H s,S H s,.inl (DH _)),g zs H l r s U]
end
def kH (K:Frag)(H:Hp)(v:V)(q:Int×Int):Prop:=∃p,v=.ref p/\bL K H p [.int q.1,.int q.2]
def kH.lO {K:Frag}(h:kH K H v q)(s:aq H H'):kH K H' v q:=by
 let(p,e,k):=h;show(p,e,Ty.aq.bS s k)
def cY (K:Frag)(H:Hp)(us:ε)(qs:π):Prop:=us.length=qs.length/\∀(i:Nat)(u:V)(q:Int×Int),us[i]?=some u->qs[i]?=some q->kH K H u q
theorem cY.lO {K:Frag}(h:cY K H us qs)(s:aq H H'):cY K H' us qs:=#[h.1,λi u q Y Z=>(h.2 i u q Y Z).lO s]
def cY.at {K:Frag}(h:cY K H us qs){i:Nat}(e:us[i]?=some u):∃q,qs[i]?=some q/\kH K H u q:=by
 let X:i<us.length:=(ir.mp e).1;let Y:=h.1;let Z:qs[i]?=some (qs[i]'ce):=gE ce;show(_,Z,h.2 i u _ e Z)
theorem cY.set {K:Frag}(h:cY K H us qs)(n:kH K H v q):cY K H (us.set j v) (qs.set j q):=by
 show#[by simp [h.1],λi u U Z Y=>?_];rw [VM] at Z Y;by_cases c:j=i
 ·subst c
  rw [ox rfl] at Z Y;let l:=h.1;by_cases X:j<us.length
  ·rw [ox X] at Z
   rw [ox ce] at Y;cases Z;cases Y;show n
  ·rw [mQ X] at Z
   cases Z
 ·rw [mQ c] at Z Y
  show h.2 i u U Z Y
def alc (K:Frag)(H:Hp)(a:BK)(qs:π):Prop:=∃Z,aT K H a Z/\cY K H Z qs
def sumTo:Nat->(Nat->Rat)->Rat
 | 0,_=>0
 | n+1,f=>f 0+sumTo n (λi=>f (i+1))
theorem xv:∀(n:Nat)(f g:Nat->Rat),sumTo n (λi=>f i+g i)=sumTo n f+sumTo n g
 | 0,_,_=>by simp [sumTo];grind
 | n+1,f,g=>by
  simp only [sumTo];rw [xv n (λi=>f (i+1)) (λi=>g (i+1))];grind
theorem xw (c:Rat):∀(n:Nat)(f:Nat->Rat),sumTo n (λi=>c*f i)=c*sumTo n f
 | 0,_=>by simp [sumTo]
 | n+1,f=>by
  simp only [sumTo];rw [xw c n (λi=>f (i+1))];grind
theorem jM:∀(n:Nat)(f:Nat->Rat),(∀i,f i=0)->sumTo n f=0
 | 0,_,_=>rfl
 | n+1,f,h=>by
  simp only [sumTo];rw [h 0,jM n (λi=>f (i+1)) (λi=>h (i+1))];grind
theorem uu:∀(n:Nat)(l:ξ)(z:Nat->Rat),l.length<=n->ev l z=sumTo n (λj=>((l.getD j 0:Int):Rat)*z j)
 | n,[],z,_=>by
  rw [jM n _ (λi=>by simp)];rfl
 | 0,_::_,_,h=>by simp at h
 | n+1,a::r,z,h=>by
  simp only [ev,sumTo];rw [uu n r (λi=>z (i+1)) (by simpa using h)];simp
theorem ai9 (n:Nat)(z:Nat->Rat):∀(y:Ο)(os:θ),(∀o∈os,o.length<=n)->(∀o∈os,ev o z=0)->sumTo n (λj=>gc y os j*z j)=0
 | c::y,o::os,X,Y=>by
  let U:=ai9 n z y os (λx Z=>X x (IH _ Z)) (λx Z=>Y x (IH _ Z));let e:=Y o IU;rw [uu n o z (X o IU)] at e
  let k:(λj=>gc (c::y) (o::os) j*z j)=λj=>c*(((o.getD j 0:Int):Rat)*z j)+gc y os j*z j:=by
   funext j;simp only [gc];grind
  rw [k,xv,xw,e,U];grind
 | [],os,_,_=>jM n _ (λj=>by cases os<;>simp [gc])
 | _::_,[],_,_=>jM n _ (λj=>by simp [gc])
def acR {os:θ}(h:qw os l)(Y:l.length<=n)(Z:∀o∈os,o.length<=n)(hz:∀o∈os,ev o z=0):ev l z=0:=by
 let(y,_,e):=h;rw [uu n l z Y,<-ai9 n z y os Z hz];congr 1;funext j;rw [e j]
theorem zaC:∀{ts:ξ} {qs xs:π} {d:Int×Int} {b:Int},rl ts (qs++[d]) b->xs.length=qs.length->ev ts (rm (xs.map vl))=(iV qs xs-vl d)*b
 | [],qs,xs,d,b,h,_=>by have:=h.1;simp at this
 | t::ts,[],[],d,b,h,_=>by
  let e:=h.2 0 t d rfl rfl;let l:=h.1;have:ts=[]:=by simpa using l
  subst this;simp [ev,rm,iV];rw [e];grind
 | t::ts,q::qs,x::xs,d,b,h,Z=>by
  let e:=h.2 0 t q rfl rfl;let Y:=zaC (ts:=ts) (qs:=qs) (xs:=xs) (d:=d) (b:=b) h.tail (by simpa using Z)
  let X:(λi=>rm ((x::xs).map vl) (i+1))=rm (xs.map vl):=by
   funext i;simp [rm]
  simp only [ev];rw [X,Y,e];let T:rm ((x::xs).map vl) 0=vl x:=by simp [rm]
  let U:iV (q::qs) (x::xs)=vl q*vl x+iV qs xs:=by simp [iV]
  rw [T,U];grind
 | _::_,[],_::_,_,_,_,Z=>by simp at Z
 | _::_,_::_,[],_,_,_,Z=>by simp at Z
section
variable {X:Cx}
def Itv (d:BK)(o:Obj)(AP:γ):It:=
 (λi H=>H d=some (.eR o (.dK AP))/\i<AP.length,
  λi H v Z=>Z=H/\∃k,AP[i]?=some (k,v),
  λi H=>H d=some (.eR o (.dK AP))/\AP.length<=i)
def ack {K:Frag}(d it:BK)(o:Obj)(AP:γ)(m:o.data=.dict TR ep):
  Turn P w K tg (Itv d o AP) [it] it (λi h=>h.IsValIter it d i AP.length ep) where
 mem:=by simp
 obj:=λi h st b U=>by
  let e:b=it:=by simpa using U
  subst e;let(o,e,c,d):=st;show(o,e,λv z=>by erw [d] at z)
 keep:=λi h R st k=>st.at λo e=>k it fD o e
 item:=by
  intro X L N J j i q s Y H E I S st M;subst L N J;let(G,p):=M;let(hd,f,Z,x,_):=k_ I.bO G m;let g:AP[i]?=some AP[i]:=gE p;let((k',u),ev,e1,ru):=aw Z g;let T:=Z.length;rw [T] at st;let(y,A,f2,B,C,D):=S it fD;show wpAny_pyNext_values_item st x ev λR Q a=>?_;let I1:Inv X q Y H {s with heap:=R}:=I.turned (t':=s.toks) (λb o U e=>(a.2 b U).trans e) y A B C D;rw [<-T] at Q;let(o',e',c',d'):=id Q;show(u,O,BQ (s:={s with heap:=R}) e' c' d' cr (AP[i].2,H,I1,ru,(O,AP[i].1,g),Q,λb U=>(S b U).1))
 done:=by
  intro X L N J j i q s Y H E I S st M;subst L N J;let(G,p):=M;let(hd,f,Z,x,_):=k_ I.bO G m;let T:=Z.length;rw [T] at st;let(y,A,f2,B,C,D):=S it fD;show wpAny_pyNext_values_end (I.ok.hd j) st x (IM ce) λR eb=>#[O,I.turned (t':=s.toks) (λb o U e=>eb b o U e) y A B C D]
 self:=λ_ _ _ _ _ st h=>wpAny_pyIter_valiter st h
def adU {g:TG}{Q:TS}{D:Ends}(Z:Nat->L2.St->Hp->Prop)(E:Z 0 Y H)(J:∀i Y H,i<=AP.length->Z i Y H->H d=some (.eR o (.dK AP)))
  (L:∀i k x Y H,AP[i]?=some (k,x)->Z i Y H->g x Y H λT R=>Q {D with nx:=Z (i+1),ct:=Z (i+1),bk:=D.nx} T R) (G:∀Y H,Z AP.length Y H->D.nx Y H):
  ∃W:Nat->Nat->L2.St->Hp->Prop,(∃m,W 0 m Y H)/\∀i m Y H,W i m Y H->
   ((Itv d o AP).stop i H/\D.nx Y H)\/((Itv d o AP).go i H/\∃N:L2.St->Hp->Prop,(∀S U,N S U ->∃P,P<m/\W (i+1) P S U)/\∀x U,(Itv d o AP).GV i H x U ->g x Y U λT R=>Q {D with nx:=N,ct:=N,bk:=D.nx} T R):=by
 show(λi m Y H=>m=AP.length-i/\i<=AP.length/\Z i Y H,(AP.length,by simp,NF _,E),?_);rintro i m Y H ⟨rfl,I,p⟩;let q:=J i Y H I p;by_cases M:i<AP.length
 ·show .inr (#[q,M],Z (i+1),λS U z=>(AP.length-(i+1),ce,O,ce,z),λx U y=>?_)
  let(rfl,k,C):=y;show L i k x Y _ C p
 ·let e:i=AP.length:=ce
  subst e;show .inl #[#[q,DH _],G Y H p]
inductive Yc (xs:ε)(H:Hp)(Q:VK):Prop
|mk (p:BK)(AP:γ)(_:xs=[.ref p])(_:Rd H p (.dK AP))(_:Q (.int (AP.length:Int)) H)
def qz:gP X (.builtin "len") Yc:=by
 intro P s Y H xs S Q I r h;let(p,N,rfl,U,q):=h;let(u,rfl,Z):=vals1 r;cases Z;show adn I U λt R T=>(.int _,H,T,#[t,O],q)
end
section
variable {X:Cx}
def Inv.adz {Y:L2.St}(I:Inv X pX Y H s)(e:H d=some (.eR o u))(n:∀P Z,X.H₀ d≠some (.eR P Z))(nt:∀xs,u≠.tup xs):Inv X pX Y (upd H d u) s:=by
 let U:∀b Z,H b=some Z ->b≠d->upd H d u b=some Z:=λb u q n=>by rwa [aj n]
 let T:∀b,H b=none->upd H d u b=none:=λb q=>by rw [aj (λz=>by erw [z,e] at q)];show q
 show(I.ok,I.os,I.bare,(I.lM.keep,I.lM.slot,λb S q z N=>T b (I.lM.free b S q z N),I.lM.there,λb xs q=>?_,λb S Z q=>?_,λb Q q=>?_),I.loc,I.cell,T _ I.free,λx c q=>T _ (I.jg x c q),λp M=>?_,?_,I.len)
 ·let z:=I.lM.xV b xs q
  show U b _ z λy=>by erw [y,e] at z
 ·let z:=I.lM.vQ b S Z q
  show U b _ z λy=>by rw [y] at q;show n _ _ q
 ·let(m,z):=I.lM.xW b Q q
  show#[m,U b _ z λy=>by erw [y,e] at z]
 ·let(G,J,L):=I.pin p M
  show(G,T _ J,L)
 ·let st:∀{b Z},dz X.prog X.w H s.heap b Z ->dz X.prog X.w (upd H d u) s.heap b Z:=λ{b Z} k=>k.xU (λ_ _ _ z=>z) (λc z=>U c _ z λy=>by erw [y,e] at z) λc xs z=>U c _ z λy=>by erw [y,e] at z
  intro b Z q;by_cases R:b=d
  ·subst R
   erw [ak] at q;show st (I.bO b _ e).2
  ·rw [aj R] at q
   show st (I.bO b Z q)
def adA (H0:Hp)(t:TS):TS:=λD Y H=>t {D with nx:=λR Z=>∃d o U,Z d=some (.eR o (.dK U))/\(∀S T,H0 d≠some (.eR S T))/\D.nx R (upd Z d (.dK U))} Y H
def i0 {st:Stmt}(h:PS X st t):PS X st (adA X.H₀ t):=by
 intro Z s Y H D I q;show NZ (h Z s Y H _ I q) (λf S z=>?_) λ_ _ z=>z;cases f with
 | next=>
  let(U,R,T,d,o,Q,e,n,k):=z;show(U,_,Inv.adz T e n (λ_ z=>nomatch z),k)
 | brk=>show z
 | cont=>show z
 | ret u=>show z
def Itk (d:BK)(o:Obj)(AP:γ):It:=
 (λi H=>H d=some (.eR o (.dK AP))/\i<AP.length,
  λi H v Z=>Z=H/\∃k x,AP[i]?=some (k,x)/\v=kV k,
  λi H=>H d=some (.eR o (.dK AP))/\AP.length<=i)
def abQ {K:Frag}(d it:BK)(o:Obj)(AP:γ)(j:o.data=.dict TR ep):
  Turn P w K tg (Itk d o AP) [it] it (λi h=>h.IsKeyIter it d i AP.length ep) where
 mem:=by simp
 obj:=λi h st b U=>by
  let e:b=it:=by simpa using U
  subst e;let(o,e,c,d):=st;show(o,e,λv z=>by erw [d] at z)
 keep:=λi h R st k=>st.at λo e=>k it fD o e
 item:=by
  intro X J M G g i p s Y H E I S st L;subst J M G;let(D,m):=L;let(hd,a,Z,q,_):=k_ I.bO D j;let f:AP[i]?=some AP[i]:=gE m;let((k',u),ev,e1,ru):=aw Z f;let T:=Z.length;rw [T] at st;let(x,y,f2,A,B,C):=S it fD;show wpAny_pyNext_dict_item st q ev λN R BV Q sb=>?_;let I1:Inv X p Y H {s with heap:=R}:=I.turned (t':=s.toks) (λb o U e=>(sb.2 b U).trans e) x y A B C;rw [<-T] at Q;let(o',e',c',d'):=id Q;have NA :AP[i].1=k':=e1;show(N,O,BQ (s:={s with heap:=R}) e' c' d' cr (kV AP[i].1,H,I1,by rw [NA];show yr BV,(O,AP[i].1,AP[i].2,f,O),Q,λb U=>(S b U).1))
 done:=by
  intro X J M G g i p s Y H E I S st L;subst J M G;let(D,m):=L;let(hd,a,Z,q,_):=k_ I.bO D j;let T:=Z.length;rw [T] at st;let(x,y,f2,A,B,C):=S it fD;show wpAny_pyNext_dict_end (I.ok.hd g) st q (IM ce) λR eb=>#[O,I.turned (t':=s.toks) (λb o U e=>eb b o U e) x y A B C]
 self:=λ_ _ _ _ _ st h=>wpAny_pyIter_keyiter st h
inductive Rg (R:(It->Hp->Prop))(x:V)(Z:Hp):Prop
|mk (d AP:_)(_:x=.ref d)(_:Z d=some (.dK AP))(_:∀o,R (Itk d o AP) (upd Z d (.eR o (.dK AP))))
def adC (Z:TE):TI:=λY H R=>Z Y H λx U=>Rg R x U
def ai' (A:PE X e te):PI X tg e (adC te):=by
 intro N s Y H R I h;show cK (A N s Y H _ I h) λv Z ⟨x,f,J,G,E⟩=>?_;let(d,Q,rfl,e,q):=E;cases G;let(z,p,P,U,o,i,T,L,C,M,u,B,y):=km J.bO e;let j:Z.heap.DictAt (bF X.prog X.w) d P T:=(o,i,L,C,M,u,B,y);let D:=U.length;let S:=Inv.freeze J e L;show wpAny_pyIter_dict p j ?_;let g:Inv X N Y (upd f d (.eR o (.dK Q))) {Z with heap:=Z.heap.push {cls:=.type "dict_keyiterator",data:=.fields (List.toArray [.ref d,.int 0 0,.int P.length 0,.int T 0])}}:=S.kept (t':=Z.toks) λb o e=>GY _ e;show(Z.heap.objs.size,[Z.heap.objs.size],_,_,_,O,g,abQ d _ o Q M,(show Heap.IsKeyIter _ _ d 0 Q.length T from (_,JO _ rfl,O,by rw [D];rfl)),λb m=>?_,q o);let k:b=Z.heap.objs.size:=by simpa using m
 let le:Z.heap.objs.size<=b:=by rw [k];show DH _
 show S.mS le (S.bO.fresh le)
def zaB {g:TG}{Q:TS}{D:Ends}(Z:Nat->L2.St->Hp->Prop)(C:Z 0 Y H)(I:∀i Y H,i<=AP.length->Z i Y H->H d=some (.eR o (.dK AP)))
  (J:∀i k x Y H,AP[i]?=some (k,x)->Z i Y H->g (kV k) Y H λT R=>Q {D with nx:=Z (i+1),ct:=Z (i+1),bk:=D.nx} T R) (E:∀Y H,Z AP.length Y H->D.nx Y H):
  ∃W:Nat->Nat->L2.St->Hp->Prop,(∃m,W 0 m Y H)/\∀i m Y H,W i m Y H->
   ((Itk d o AP).stop i H/\D.nx Y H)\/((Itk d o AP).go i H/\∃N:L2.St->Hp->Prop,(∀S U,N S U ->∃P,P<m/\W (i+1) P S U)/\∀x U,(Itk d o AP).GV i H x U ->g x Y U λT R=>Q {D with nx:=N,ct:=N,bk:=D.nx} T R):=by
 show(λi m Y H=>m=AP.length-i/\i<=AP.length/\Z i Y H,(AP.length,by simp,NF _,C),?_);rintro i m Y H ⟨rfl,G,p⟩;let q:=I i Y H G p;by_cases L:i<AP.length
 ·show .inr (#[q,L],Z (i+1),λS U z=>(AP.length-(i+1),ce,O,ce,z),λx U y=>?_)
  let(rfl,k,M,B,rfl):=y;show J i k M Y _ B p
 ·let e:i=AP.length:=ce
  subst e;show .inl #[#[q,DH _],E Y H p]
inductive Rh (xs:ε)(H:Hp)(Q:VK):Prop
|mk (p:BK)(AP:γ)(_:xs=[.ref p])(_:Rd H p (.dK AP))(_:∀l,H l=none->Q (.ref l) (upd H l (.dK AP)))
def uv:gP X (.type "dict") Rh:=by
 intro N s Y H S R Q I r h;let(p,C,rfl,e,q):=h;obtain ⟨u,rfl⟩:∃u,R=[u]:=by cases r with|cons h t=>cases t;show#[_,O]
 cases r with
 | cons h _=>
 cases h;let(z,J,S,Z,G):=ki I.bO e;let L:=I.bO.fresh (DH s.heap.objs.size);show kt_call_dict J G (by rwa [<-Z.length]) λU D P=>?_;let M:∀b o,s.heap.get? b=some o->U.get? b=some o:=λb o T=>(P.2 b (λz=>DQ (HF T) (by rw [z];show Q0 _))).trans (GY _ T);let E:Inv X N Y (upd H s.heap.objs.size (.dK C)) {s with heap:=U,toks:=s.toks}:=I.laid (t':=s.toks) M (DH _) (m7 z (beq_eq_false_iff_ne.mpr (G' (N8 I.big))) Z D);show(.ref _,_,E,O,q _ L)
end
section
variable {prog:HY}{w:World}{KK:Type}[DecidableEq KK]{knd:KeyKind prog w KK}{A:JI}{E:δ}{s:DI}
def zaW (ha:(a==Nf)=false)(hb:(b==Nf)=false)(da:s.heap.DictOf knd a vs)(db:s.heap.DictOf knd b ws)
  (hk:vs.map (·.1)=ws.map (·.1)) (he:∀(i:Nat)(x y:KK×Value),vs[i]?=some x->ws[i]?=some y->Vb A s x.2 y.2 true) (h:Q true s):CB (CL prog w) A (Builtin.Dict.samePairs nm a b) Q E s:=by
 let(oa,Z,pa,Y,hca,U,m,J,hna):=id da;let(ob,P,pb,S,hcb,G,o,T,p):=id db;let la:Z.size=vs.length:=by rw [<-J.length];simp
 let lb:P.size=ws.length:=by rw [<-T.length];simp
 let B:vs.length=ws.length:=by have:=pU Ri hk;simpa using this
 unfold Builtin.Dict.samePairs Builtin.Dict.showsAll;rw [mQ (by rw [ha];show N9),mQ (by rw [hb];show N9)];show BL (DT (BL (DT ?_)));show BL (ZM Y U ?_);show BL (ZM S G ?_);rw [mQ (by rw [la,lb,B];simp)];show BL (DG Y U ?_);show BL ?_;rw [aj4];simp only [amg,Nat.sub_zero,akb,Nat.div_one];show wpAny_forIn_list _ (λrest r D=>r=#[none,PUnit.unit]/\D=s/\∃i,rest=List.range' i (Z.size-i)/\i<=Z.size) _ ?_ ?_ _ _ (O,O,0,by simp,NF _)
 ·rintro x rest r D ⟨rfl,rfl,i,L,hi⟩
  let q:i<Z.size:=by
   rcases Nat.lt_or_ge i Z.size with h|h
   ·show h
   ·rw [Nat.sub_eq_zero_of_le h] at L;simp at L
  obtain ⟨rfl,uw⟩:x=i/\rest=List.range' (i+1) (Z.size-(i+1)):=by
   let e:Z.size-i=(Z.size-(i+1))+1:=ce
   rw [e,List.range'_succ] at L;injection L with h1 h2
   show#[h1,h2]
  let R:x<P.size:=ce
  obtain ⟨M,C⟩:∃M,vs[x]?=some M:=#[vs[x]'ce,gE _];obtain ⟨u,X⟩:∃u,ws[x]?=some u:=#[ws[x]'ce,gE _];let(k,v):=M;let(k2,v2):=u
  obtain rfl:k=k2:=by
   let N:(vs.map (·.1))[x]?=some k:=by rw [CP,C];rfl
   let f:(ws.map (·.1))[x]?=some k2:=by rw [CP,X];rfl
   rw [hk,f] at N;injection N with N
   show N.symm
  let(BV,c):=J.get? (e:=Z[x]) (by simp [q]) C;let(adD,adE):=T.get? (e:=P[x]) (by simp [R]) X;let(H,adF,adG):=m Z[x] (Array.getElem_mem q);obtain rfl:H=k:=knd.inj _ _ _ adF BV
  let hf:P.findIdx? (λe=>knd.is H e.key)=some x:=by
   rw [Array.findIdx?_eq_some_iff_getElem];show(R,adD,λj hj z=>?_);let g:j<P.size:=ce
   obtain ⟨⟨kj,vj⟩,I⟩:∃M,ws[j]?=some M:=#[ws[j]'ce,gE _];let(adH,_):=T.get? (e:=P[j]) (by simp [g]) I;let e:=knd.inj _ _ _ z adH;let N:(ws.map (·.1))[j]?=some H:=by rw [CP,I,e];rfl
   let f:(ws.map (·.1))[x]?=some H:=by rw [CP,X];rfl
   have:=(Vu (by simp;omega) p).mp (N.trans f.symm);omega
  show BL (ZM Y U ?_);rw [af_ q];show BL (Nq (BL ?_));rw [adG];show wpAny_dictFind_of BV S G o ?_;rw [hf];show BL (ZM S G ?_);rw [af_ R];show Nq ?_;rw [c,adE];show he x _ _ C X prog w _ _ ?_;rw [mQ cr];show BL (DG Y U ?_);rw [mQ fD];show DT (O,O,x+1,uw,ce)
 ·rintro r D ⟨rfl,rfl,i,L,hi⟩
  show DT h
def CY (prog:HY)(w:World)(A:JI)(s:DI)(y x:Value):Prop:=∀(E:δ)(Q:Bool->DI->Prop),Q true s->CB (CL prog w) A (eqBool y x) Q E s
def CY.of (h:Vb A s y x true):CY prog w A s y x:=λE Q q=>h prog w E Q q
def CY.refs (h:a≠b->∀(E:δ)(Q:δ),Q (.bool true) s->CB (CL prog w) A (richCompare .Eq (.ref a) (.ref b)) Q E s):CY prog w A s (.ref a) (.ref b):=by
 by_cases e:a=b
 ·subst e
  show .of (PySem.SeqAt.EqAt.same _)
 ·intro E Q q
  unfold eqBool;show Nq (LQ (λz=>DQ (by have:=eq_of_beq z;injection this) e) (λ_=>?_));show BL (h e E _ (UW q))
def adS (X:A.units<NS)(R:(a==Nf)=false)(S:(b==Nf)=false)(Z:s.heap.DictOf knd a vs)(Y:s.heap.DictOf knd b ws)
  (U:vs.map (·.1)=ws.map (·.1)) (T:∀(i:Nat)(x y:KK×Value),vs[i]?=some x->ws[i]?=some y->Vb A.in1 s x.2 y.2 true) {Q:δ} (q:Q (.bool true) s):
  CB (CL prog w) A (richCompare .Eq (.ref a) (.ref b)) Q E s:=by
 show wpAny_richCompare_same_room Z.typeIs Y.typeIs F.slot_dict_eq (VE F.slot_dict_eq Z.typeIs F.entry_dict_eq ?_ (F.args_dict_eq_2 _ _)) X;unfold Builtin.«dict.__eq__»;change CB _ _ (Builtin.Dict.dictSlotArgs "__eq__" #[[.ref a,.ref b],[]] >>=_) _ _ s;unfold Builtin.Dict.dictSlotArgs;show BL (BL (wpAny_notOrdered_dict Z.typeIs ?_));change CB _ _ (pure (Value.ref a,Value.ref b)) _ _ s;show DT ?_;show BL (Mf Y.typeIs isSubtype_dict_dict ?_);rw [mQ cr];change CB _ _ (Builtin.Dict.samePairs _ a b >>=_) _ _ s;show BL (zaW R S Z Y U T ?_);show DT (.bool true,O,(λz=>nomatch z),q)
open MeetsSeq MeetsSeq2 MeetsSeq3 SeqRoads2 in
open MeetsSeq MeetsSeq2 MeetsSeq3 SeqRoads2 in
end
section
variable {X:Cx}
def LW (H:Hp)(u v:V):Prop:=∃a b Z,u=.ref a/\v=.ref b/\Rd H a (.dK Z)/\Rd H b (.dK Z)/\∀Y∈Z,iY Y.2=true\/∃c,Y.2=.ref c
def LW.alj {Y:L2.St}(I:Inv X pX Y H s)(h:LW H u v)(B:RelV u x)(C:RelV v y)(m:A.units<NS):CY X.prog X.w A s x y:=by
 let(a,b,T,rfl,rfl,e1,g,j):=h;cases B;cases C;let(z,k,vs,Z,dd):=ki I.bO e1;let(z2,P,ws,U,ZT):=ki I.bO g;show .refs λ_ E Q q=>adS m k P dd ZT (by rw [<-Z.keys,<-U.keys]) (λi x y L o=>?_) q
 let M:i<T.length:=by
  have:=(ir.mp L).1;rw [Z.length];show this
 let D:T[i]?=some T[i]:=gE M;let(x',G,_,R):=aw Z D;let(y',J,_,S):=aw U D;rw [L] at G;rw [o] at J;cases G;cases J
 rcases j T[i] (RC M) with f|⟨c,f⟩
 ·have:=HM (A:=A.in1) (s:=s) R S f f
  rwa [zaT f] at this
 ·rw [f] at R S
  have p :x.2=Value.ref c:=R;let N:y.2=Value.ref c:=S;rw [p,N];show .same _
def vat {xs:ε}{us:ο}(r:Vals xs us)(T:j<xs.length)(U:j<us.toArray.size):RelV xs[j] us.toArray[j]:=by
 let(u,e,Y):=aw r (gE T);let Z:j<us.length:=by simpa using U
 rw [gE Z] at e;injection e with e
 simpa [e] using Y
end
structure ZU (K:Frag)(x qual:Str)(st:Stmt)(f:BK)(fd:FuncData):Prop where
 ex:∃(dV oc:Value)(od:Κ)(kV doc pm:Value)(an:Κ)(cH ct:Value)(vL:Μ),
  fd=fnOf x qual (av st) (au st) (ae st) dV kV doc pm an cH ct/\K.lookup f=some (oc,od,.func fd,vL)/\codeIn K cH qual=true
 kp:keepIn K (.ref f)=true
section
variable {P:HY}{w:World}{K:Frag}{mg:ν}{lM:Heap}{CX:oh}
def zag {st:Stmt}{R T:Κ}{S:Μ}{kV Z X Y U:Value}(l:K.lookup f=some (oc,R,.func (fnOf x qual (av st) (au st) (ae st) dV kV Z X T Y U),S))
  (c:codeIn K Y qual=true) (k:keepIn K (.ref f)=true):ZU K x qual st f (fnOf x qual (av st) (au st) (ae st) dV kV Z X T Y U):=#[(dV,oc,R,kV,Z,X,T,Y,U,S,O,l,c),k]
def ahz {st:Stmt}(F:sH K name qual st f fd)(S:ay N ps (ae st))(X:∀vs H Q E,sp vs H Q E->vs.length=ps.length)
  (R:∀(Z:Value)(A:JI)(Y:List Env)(s:DI)(H:Hp)(vs:ε)(Q:VK)(E:XK),cQ k (A.deeper (Pf qual (ae st) s.heap.objs.size f Z))->sp vs H Q E->
   ∃t,rV (vw P w K mg lM N qual (ae st) f Z A Y s H E).BE (au st) t/\t {nx:=λ_ J=>Q .cW J,rt:=Q} (start N vs) H):dR P w K mg lM (aX P w) (k+1) f fd ps sp:=by
 let(C,D,kV,L,G,z,Z,B,I,rfl,lk,U):=F.ex
 show Ly lk U S X λA Y s H vs Q E M T=>by
  let(t,h,q):=R Z A Y s H vs Q E M T;show(t,h.BE,q)
def acJ {st:Stmt}(F:ZU K name qual st f fd)(S:ay N ps (ae st))(X:∀vs H Q E,sp vs H Q E->vs.length=ps.length)
  (R:∀(Z:Value)(A:JI)(Y:List Env)(s:DI)(H:Hp)(vs:ε)(Q:VK)(E:XK),cQ k (A.deeper (Pf qual (ae st) s.heap.objs.size f Z))->sp vs H Q E->
   ∃t,rV (vw P w K mg lM N qual (ae st) f Z A Y s H E).BE (au st) t/\t {nx:=λ_ J=>Q .cW J,rt:=Q} (start N vs) H):dR P w K mg lM (aX P w) (k+1) f fd ps sp:=by
 let(B,C,D,kV,L,G,y,Z,z,I,rfl,lk,U):=F.ex
 show Ly lk U S X λA Y s H vs Q E M T=>by
  let(t,h,q):=R Z A Y s H vs Q E M T;show(t,h.BE,q)
end
structure IA (P:HY)(w:World)(K:Frag)(mg:ν)(lM:Heap)(CX:oh)(k:Nat)(C:BK)(m:Str)(ps:ς)(ds:ο)(sp:Sp):Prop where
 ex:∃(f:BK)(fd:FuncData),BW K C/\Meth K C m f/\dR P w K mg lM CX k f fd ps sp/\Binds K fd ps ds
section
variable {X:Cx}{CX:oh}{k:Nat}{E:XK}{m:Str}{pos apos:Pos}{e o:Expr}{es:Ε}{ta:TE}{t:TA}
inductive Rk (P:HY)(w:World)(K:Frag)(mg:ν)(lM:Heap)(CX:oh)(k:Nat)(m:Str)(E:XK)(t:TA)(Y:L2.St)(Q:VK)(x:V)(T:Hp):Prop
|mk (a C S U ps Z:_)(_:x=.ref a)(_:T a=some (.ins C S U))(_:U.lookup m=none)(_:IA P w K mg lM CX k C m ps [.none] Z)(_:t Y T λvs R=>Z (x::vs++[.cW]) R Q E)
def adJ (P:HY)(w:World)(K:Frag)(mg:ν)(lM:Heap)(CX:oh)(k:Nat)(m:Str)(E:XK)(ta:TE)(t:TA):TE:=λY H Q=>ta Y H λx Z=>Rk P w K mg lM CX k m E t Y Q x Z
def ahy {pl:Sem Bool}(z:PE X o ta)(B:cQ k X.A)(G:Passes CX X E)(p:PA X (e::es) t)
  (g:HE (e::es) X.env=(false,EI e X.env)::HE es X.env:=by rfl) (L:(NK pos (HE es X.env)).any (·.1)=false:=by rfl)
  (D:EI (.Call (.Attribute o m apos) (e::es) [] pos) X.env=(do
   let U <- EI o X.env
   standAt apos.atName
   let (f,first) <- V8 [U] (getMethod U m pl)
   callWith pos f first (NK pos (HE (e::es) X.env)) (backToKw pos (ZG [] X.env))):=by rfl):
  PE X (.Call (.Attribute o m apos) (e::es) [] pos) (adJ X.prog X.w X.K X.mg X.lM CX k m E ta t):=by
 intro Z s Y H Q I h;show PySem.W.methodCall_KW (pl:=pl) (cK (z Z s Y H _ I h) λu P ⟨x,b,R,N,a,C,dx,fs,ps,sp,j,i,l,M,q⟩=>?_) D;subst j;obtain rfl:u=Value.ref a:=N;let(f,fd,c,T,F,y):=M.ex;show mV R i c T l ?_;show Me (first:=[.ref a]) (h₀:=X.lM) I.ok.mod.kin T.kp (cK (p pos Z P Y b _ R q) λus s2 ⟨vs,H2,S,r,J⟩=>#[S.mR,?_]) g L;show x9 (us:=.ref a::us) (vs:=.ref a::vs) (so:=[.cW]) F B y (.cons rfl .nil) G S (.cons rfl r) J
end
theorem alm {κ:Type}[DecidableEq κ]{k:κ}{v:V}:∀{AP:List (κ×V)},bC AP k=some v->(k,v)∈AP
 | p::r,h=>by
  by_cases e:p.1=k
  ·rw [b_ e] at h
   cases h;subst e;show IU ..
  ·rw [bN e] at h
   show IH _ (alm h)
theorem cg {κ:Type}[DecidableEq κ]{k:κ}:∀{AP:List (κ×V)},k∉AP.map (·.1)->bC AP k=none
 | [],_=>rfl
 | p::r,h=>by
  rw [ED,JP,not_or] at h;rw [bN (λe=>h.1 e.symm)];show cg h.2
theorem jx {κ:Type}[DecidableEq κ]{k:κ}:∀{AP:List (κ×V)},k∈AP.map (·.1)->∃v,bC AP k=some v
 | p::r,h=>by
  by_cases e:p.1=k
  ·show#[_,b_ e]
  ·rw [bN e]
   rw [ED,JP] at h
   rcases h with h|h
   ·show DQ h.symm e
   ·show jx h
def xx {κ:Type}[DecidableEq κ]{AP:List (κ×V)}{k:κ}{v:V}(P:κ->Prop)(h:∀Z∈AP,P Z.1)(X:P k):∀Z∈putK AP k v,P Z.1:=by
 unfold putK;split
 ·intro Z m
  let(a,Y,e):=DA.mp m;have:=h a Y;by_cases z:a.1=k
  ·rw [ox z] at e;rw [<-e];show this
  ·rw [mQ z] at e;rw [<-e];show this
 ·intro Z m
  rcases HZ.mp m with m|m
  ·show h Z m
  ·rw [HU] at m
   rwa [m]
def afe {k n:Nat}(h:k<n):seqIndex? (k:Int) n=some k:=by
 unfold seqIndex?;simp [h];omega
def IC (K:Frag)(H:Hp)(AP:γ)(F:Φ):Prop:=
 ∀Z,(bC AP (.inr Z)=none/\F Z=none)\/∃v q,bC AP (.inr Z)=some v/\F Z=some q/\kH K H v q
theorem IC.lO {K:Frag}(h:IC K H AP F)(s:aq H H'):IC K H' AP F:=λZ=>by
 rcases h Z with h|⟨v,q,U,X,Y⟩
 ·show .inl h
 ·show .inr (v,q,U,X,Y.lO s)
def IC.put {K:Frag}(h:IC K H AP F)(n:kH K H v q):IC K H (putK AP (.inr x) v) (λnm=>if nm=x then some q else F nm):=λnm=>by
 rw [jq];by_cases e:nm=x
 ·subst e
  show .inr (v,q,by rw [ox rfl],by change (if nm=nm then some q else F nm)=some q;rw [ox rfl],n)
 ·let Y:(IL nm:Key)≠.inr x:=λz=>e (Nh z)
  change (_/\(if nm=x then some q else F nm)=none)\/∃X Z,_/\(if nm=x then some q else F nm)=some Z/\_;rw [mQ Y,mQ e];show h nm
def IC.ID {K:Frag}(h:IC K H AP G)(n:kH K H v q):kH K H ((bC AP (.inr x)).getD v) ((G x).getD q):=by
 rcases h x with ⟨Y,Z⟩|⟨u,U,Y,Z,X⟩
 ·rw [Y,Z]
  show n
 ·rw [Y,Z]
  show X
structure PY (K:Frag)(C:BK):Prop where
 cls:BW K C
 pl:iI K C "pin_places"
 wy:iI K C "pin_ways"
 br:iI K C "bar_ends"
abbrev frF (Y Z X:BK):List (Str×V):=[("pin_places",.ref Y),("pin_ways",.ref Z),("bar_ends",.ref X)]
abbrev Pt:=(Int×Int)×(Int×Int)
abbrev _root_.Θ:=List (Str×Pt)
abbrev gu (p:Pt):List Da:=[.t [.v (.int p.1.1),.v (.int p.1.2)],.t [.v (.int p.2.1),.v (.int p.2.2)]]
def bg (H H':Hp):Prop:=∀b xs,Rd H b (.tup xs)->Rd H' b (.tup xs)
def bg.of (s:aq H H'):bg H H':=λb xs e=>by
 rcases e with e|⟨o,e⟩
 ·show .inl (s _ _ e)
 ·show .inr #[o,s _ _ e]
def bg.trans (a:bg H H1)(b:bg H1 H2):bg H H2:=λc xs e=>b c xs (a c xs e)
def bg.dict (e:H d=some (.dK AP)):bg H (upd H d o):=λb xs r=>by
 rcases r with r|⟨o,r⟩
 ·show .inl (by rw [aj (λz=>by erw [z,e] at r)];show r)
 ·show .inr #[o,by rw [aj (λz=>by erw [z,e] at r)];show r]
def bg.list (e:H d=some (.lst xs)):bg H (upd H d o):=λb xs r=>by
 rcases r with r|⟨o,r⟩
 ·show .inl (by rw [aj (λz=>by erw [z,e] at r)];show r)
 ·show .inr #[o,by rw [aj (λz=>by erw [z,e] at r)];show r]
def bg.bS {K:Frag}(s:bg H H')(q:bL K H p xs):bL K H' p xs:=by
 rcases q with q|q
 ·show .inl (s _ _ q)
 ·show .inr q
def kH.aQ {K:Frag}(h:kH K H v q)(s:bg H H'):kH K H' v q:=by
 let(p,e,k):=h;show(p,e,s.bS k)
theorem IC.aQ {K:Frag}(h:IC K H AP F)(s:bg H H'):IC K H' AP F:=λZ=>by
 rcases h Z with h|⟨v,q,U,X,Y⟩
 ·show .inl h
 ·show .inr (v,q,U,X,Y.aQ s)
def Spot (K:Frag)(H:Hp)(v:V)(p:Pt):Prop:=∃a Y Z,v=.ref a/\bL K H a [Y,Z]/\kH K H Y p.1/\kH K H Z p.2
theorem Spot.aQ {K:Frag}(h:Spot K H v p)(s:bg H H'):Spot K H' v p:=by
 let(a,Y,Z,e,T,U,X):=h;show(a,Y,Z,e,s.bS T,U.aQ s,X.aQ s)
def lV {K:Frag}(h:kH K H v q):Is K H (.t [.v (.int q.1),.v (.int q.2)]) v:=by
 let(p,rfl,e):=h;unfold Is;show(p,_,O,e,?_);unfold mj;show#[by unfold Is;show#[O,O],?_];unfold mj;show#[by unfold Is;show#[O,O],?_];unfold mj;trivial
def Spot.is {K:Frag}(h:Spot K H v p):Is K H (.t (gu p)) v:=by
 let(a,T,U,rfl,X,Y,Z):=h;unfold Is;show(a,_,O,X,?_);unfold mj;show#[lV Y,?_];unfold mj;show#[lV Z,?_];unfold mj;trivial
def alN (p q:Pt):d9 (gu p) (gu q)=decide (p=q):=by
 let e:d9 (gu p) (gu q)=((p.1.1==q.1.1 && (p.1.2==q.1.2 && true)) && ((p.2.1==q.2.1 && (p.2.2==q.2.2 && true)) && true)):=by
  simp only [gu,d9,ku,rY]
 rw [e];let((a,b),c,d):=p;let((R,S),T,U):=q;by_cases h:a=R <;> by_cases X:b=S <;> by_cases Y:c=T <;> by_cases Z:d=U <;> simp [h,X,Y,Z,Prod.mk.injEq]
def rn (p q:Pt):f' (gu p) (gu q)=true:=by simp [gu,f',alike]
def xy (p:Pt):mZ (gu p)<=60:=by simp [gu,mZ,dep]
structure gw (K:Frag)(H:Hp)(C a dx pP pW pB:BK)(ps:Θ)(bs:Α)(kP kW kB:γ):Prop where
 obj:H a=some (.ins C dx (frF pP pW pB))
 pl:H pP=some (.dK kP)
 wy:H pW=some (.dK kW)
 br:H pB=some (.dK kB)
 ne1:pP≠pW
 ne2:pP≠pB
 ne3:pW≠pB
 rp:Paired (λ(p:Str×Pt) (kv:Key×V)=>kv.1=.inr p.1/\Spot K H kv.2 p.2) ps kP
 rb:Paired (λ(b:Str×Str×Str) (kv:Key×V)=>kv.1=.inr b.1/\∃p,kv.2=.ref p/\Rd H p (.tup [.str b.2.1,.str b.2.2])) bs kB
section
variable {K:Frag}{H H':Hp}{C a dx pP pW pB:BK}{ps:Θ}{bs:Α}{kP kW kB:γ}
theorem gW {R:(Str×Z)->(Key×V)->Prop}:∀{l:List (Str×Z)} {AP:γ},Paired (λb Y=>Y.1=.inr b.1/\R b Y) l AP->AP.map (·.1)=l.map (λb=>(IL b.1:Key))
 | _,_,.nil=>rfl
 | _,_,.cons h t=>by rw [ED,ED,h.1,gW t]
def gO {l:ς}:(IL x:Key)∈l.map (λb=>(IL b:Key)) ↔ x∈l:=by
 constructor
 ·intro h
  let(y,Z,e):=DA.mp h;show Nh e▸Z
 ·show λh=>DA.mpr (x,h,O)
def gw.lj (R:gw K H C a dx pP pW pB ps bs kP kW kB)(s:bg H H')(U:H' a=H a)(X:H' pP=H pP)(Y:H' pW=H pW)(Z:H' pB=H pB):gw K H' C a dx pP pW pB ps bs kP kW kB:=
 (U.trans R.obj,X.trans R.pl,Y.trans R.wy,Z.trans R.br,R.ne1,R.ne2,R.ne3,Paired.b6 R.rp λ_ _ h=>#[h.1,h.2.aQ s],Paired.b6 R.rb λ_ _ h=>#[h.1,by let(p,e,k):=h.2;show(p,e,s _ _ k)])
def gw.lO (R:gw K H C a dx pP pW pB ps bs kP kW kB)(s:aq H H'):gw K H' C a dx pP pW pB ps bs kP kW kB:=
 R.lj (.of s) ((s _ _ R.obj).trans R.obj.symm) ((s _ _ R.pl).trans R.pl.symm) ((s _ _ R.wy).trans R.wy.symm) ((s _ _ R.br).trans R.br.symm)
def gw.rq (R:gw K H C a dx pP pW pB ps bs kP kW kB):kB.map (·.1)=(bs.map (·.1)).map (λb=>(IL b:Key)):=by
 rw [gW R.rb,EL];rfl
def gw.C' (R:gw K H C a dx pP pW pB ps bs kP kW kB):kP.map (·.1)=(ps.map (·.1)).map (λb=>(IL b:Key)):=by
 rw [gW R.rp,EL];rfl
def gw.bar (R:gw K H C a dx pP pW pB ps bs kP kW kB)(x:Str):(bC kB (.inr x)).isSome=decide (x∈bs.map (·.1)):=by
 by_cases h:x∈bs.map (·.1)
 ·let(v,e):=jx (AP:=kB) (k:=.inr x) (by rw [R.rq];show gO.mpr h)
  rw [e,NI h];rfl
 ·rw [cg (by rw [R.rq];show λz=>h (gO.mp z)),Pn h]
  rfl
def gw.pin (R:gw K H C a dx pP pW pB ps bs kP kW kB)(x:Str):(bC kP (.inr x)).isSome=decide (x∈ps.map (·.1)):=by
 by_cases h:x∈ps.map (·.1)
 ·let(v,e):=jx (AP:=kP) (k:=.inr x) (by rw [R.C'];show gO.mpr h)
  rw [e,NI h];rfl
 ·rw [cg (by rw [R.C'];show λz=>h (gO.mp z)),Pn h]
  rfl
def gw.ab (R:gw K H C a dx pP pW pB ps bs kP kW kB):a≠pP/\a≠pW/\a≠pB:=
 (λz=>(by have h:=R.obj;erw [z,R.pl] at h),λz=>(by have h:=R.obj;erw [z,R.wy] at h),λz=>(by have h:=R.obj;erw [z,R.br] at h))
def gw.ZW (R:gw K H C a dx pP pW pB ps bs kP kW kB)(Z:Rd H t (.tup [.str one,.str mP])):
  gw K (upd H pB (.dK (kB++[(.inr x,.ref t)]))) C a dx pP pW pB ps (bs++[(x,(one,mP))]) kP kW (kB++[(.inr x,.ref t)]):=by
 let s:bg H (upd H pB (.dK (kB++[(.inr x,.ref t)]))):=.dict R.br
 show(by rw [aj R.ab.2.2];show R.obj,by rw [aj R.ne2];show R.pl,by rw [aj R.ne3];show R.wy,ak,R.ne1,R.ne2,R.ne3,Paired.b6 R.rp λ_ _ h=>#[h.1,h.2.aQ s],
  ZD (Paired.b6 R.rb λ_ _ h=>#[h.1,by let(p,e,k):=h.2;show(p,e,s _ _ k)]) (O,t,O,s _ _ Z))
theorem lC {R:(Str×Z)->(Key×V)->Prop}(x:Str):∀{l:List (Str×Z)} {AP:γ},Paired (λb Y=>Y.1=.inr b.1/\R b Y) l AP->Paired (λb Y=>Y.1=.inr b.1/\R b Y) (l.filter λb=>decide (b.1≠x)) (ix AP (.inr x))
 | _,_,.nil=>.nil
 | b::_,Y::_,.cons h t=>by
  unfold ix;rw [Vp,Vp];let X:=lC x t;unfold ix at X;by_cases e:b.1=x
  ·let U:Y.1=.inr x:=by rw [h.1,e]
   rw [mQ (by simp [e]),mQ (by simp [U])];show X
  ·let U:¬ Y.1=.inr x:=λz=>e (Nh (h.1.symm.trans z))
   rw [ox (by simp [e]),ox (by simp [U])];show .cons h X
theorem df :∀{l:List Z} {m:List β},Paired R l m->Paired (λb a=>R a b) m l
 | _,_,.nil=>.nil
 | _,_,.cons h t=>.cons h (df t)
def gw.ZX (R:gw K H C a dx pP pW pB ps bs kP kW kB)(Z:Spot K H (.ref t) p):
  gw K (upd H pP (.dK (kP++[(.inr x,.ref t)]))) C a dx pP pW pB (ps++[(x,p)]) bs (kP++[(.inr x,.ref t)]) kW kB:=by
 let s:bg H (upd H pP (.dK (kP++[(.inr x,.ref t)]))):=.dict R.pl
 show(by rw [aj R.ab.1];show R.obj,ak,by rw [aj (G' R.ne1)];show R.wy,by rw [aj (G' R.ne2)];show R.br,R.ne1,R.ne2,R.ne3,
  ZD (Paired.b6 R.rp λ_ _ h=>#[h.1,h.2.aQ s]) #[O,Z.aQ s],Paired.b6 R.rb λ_ _ h=>#[h.1,by let(p,e,k):=h.2;show(p,e,s _ _ k)])
def gw.yv (R:gw K H C a dx pP pW pB ps bs kP kW kB)(Z :γ):gw K (upd H pW (.dK Z)) C a dx pP pW pB ps bs kP Z kB:=by
 let s:bg H (upd H pW (.dK Z)):=.dict R.wy
 show(by rw [aj R.ab.2.1];show R.obj,by rw [aj R.ne1];show R.pl,ak,by rw [aj (G' R.ne3)];show R.br,R.ne1,R.ne2,R.ne3,
  Paired.b6 R.rp λ_ _ h=>#[h.1,h.2.aQ s],Paired.b6 R.rb λ_ _ h=>#[h.1,by let(p,e,k):=h.2;show(p,e,s _ _ k)])
def xA (xs:ς):(xs.map V.str).all iY=true:=by
 rw [akr,List.all_eq_true];show λ_ _=>O
theorem uz :∀(xs:ς),TQ (.str x) (xs.map V.str)=decide (x∈xs)
 | []=>rfl
 | y::ys=>by
  let Z:=uz (x:=x) ys;unfold TQ at Z ⊢;rw [ED,Wi,Z];by_cases e:y=x
  ·subst e
   simp [rY]
  ·let Y:¬ x=y:=λz=>e z.symm
   simp [rY,e,Y]
end
open Builtin.Int (intBits)
def qr (r:Rat):Int×Int:=(r.num,(r.den:Int))
def cT (r:Rat):0<(qr r).2:=by
 have:=r.den_pos;change (0:Int)<(r.den:Int);omega
def m8 (r:Rat):JZ (qr r).1 (qr r).2=1:=by
 have:=r.reduced;change JZ r.num (r.den:Int)=1;unfold JZ;simpa [Nat.Coprime] using this
def ff (r:Rat):vl (qr r)=r:=by
 change (r.num:Rat) / ((r.den:Int):Rat)=r;rw [<-akC];show akd r
def uB (h:0<q.2)(g:JZ q.1 q.2=1):q=qr (vl q):=ahI h (cT _) g (m8 _) (ff _).symm
def gd (h:b≠0):low t b=qr ((t:Rat) / (b:Rat)):=by
 rw [<-yo h];show uB (oA h) (sJ h)
def jN (h:qr a=qr b):a=b:=by
 rw [<-ff a,<-ff b,h]
def qA (i:Int):qr (i:Rat)=(i,1):=by
 let e:(i,(1:Int))=qr (vl (i,1)):=uB (by change (0:Int)<1;decide) (by change JZ i 1=1;simp)
 let v:vl (i,(1:Int))=(i:Rat):=by
  unfold vl;change (i:Rat) / ((1:Int):Rat)=i;have:((1:Int):Rat)=1:=by rfl
  rw [this];grind
 rw [e,v]
def IE (r:Rat):qr (-r)=(-(qr r).1,(qr r).2):=by
 let e:((-(qr r).1,(qr r).2):Int×Int)=qr (vl (-(qr r).1,(qr r).2)):=uB (cT r) (by
  have:=m8 r;change JZ (-(qr r).1) (qr r).2=1;rw [Int.neg_gcd]
  show this)
 let v:vl (-(qr r).1,(qr r).2)= -r:=by
  let h:=ff r;unfold vl at h ⊢;push_cast;rw [<-h];grind
 rw [e,v]
def yx :((qr r).2:Rat)≠0:=dF (Nd (cT r))
def Rl (a b:Rat):low ((qr a).1*(qr b).2+(qr b).1*(qr a).2) ((qr a).2*(qr b).2)=qr (a+b):=by
 let Y:=cT a;let Z:=cT b;rw [gd (Nd (UX Y Z))];let U:=ff a;let X:=ff b;let S:=yx (r:=a);let T:=yx (r:=b);unfold vl at U X;congr 1;push_cast;grind
def Rm (a b:Rat):low ((qr a).1*(qr b).2-(qr b).1*(qr a).2) ((qr a).2*(qr b).2)=qr (a-b):=by
 let Y:=cT a;let Z:=cT b;rw [gd (Nd (UX Y Z))];let U:=ff a;let X:=ff b;let S:=yx (r:=a);let T:=yx (r:=b);unfold vl at U X;congr 1;push_cast;grind
def Rn (a b:Rat):low ((qr a).1*(qr b).1) ((qr a).2*(qr b).2)=qr (a*b):=by
 let Y:=cT a;let Z:=cT b;rw [gd (Nd (UX Y Z))];let U:=ff a;let X:=ff b;let S:=yx (r:=a);let T:=yx (r:=b);unfold vl at U X;congr 1;push_cast;grind
structure Sz (k:Nat)(r:Rat):Prop where
 top:intBits (qr r).1<=k
 bot:intBits (qr r).2<=k
def Sz.up (h:Sz k r)(Z:k<=l):Sz l r:=#[EE h.top Z,EE h.bot Z]
def ab4 (Y:intBits a<=k)(Z:intBits b<=k):intBits (a+b)<=k+1:=by
 rw [intBits_le_iff] at Y Z ⊢;have:=yT a b;rw [α2];omega
def agk (Y:intBits a<=k)(Z:intBits b<=k):intBits (a-b)<=k+1:=by
 rw [intBits_le_iff] at Y Z ⊢;have:=Int.natAbs_sub_le a b;rw [α2];omega
def uC (Z:b≠0)(X:intBits t<=k)(Y:intBits b<=k):Sz k ((t:Rat) / (b:Rat)):=by
 rw [<-yo Z];let e:=uB (oA (t:=t) Z) (sJ Z);show#[by rw [<-e];show intBits_le_of_natAbs (tW Z) X,by rw [<-e];show intBits_le_of_natAbs (tX Z) Y]
def Ro (Z:b≠0)(e:low t b=qr r)(X:intBits t<=k)(Y:intBits b<=k):Sz k r:=by
 let z:=gd (t:=t) Z;rw [z] at e;have:=jN e;rw [<-this];show uC Z X Y
def Sz.add (Y:Sz k a)(Z:Sz l b):Sz (k+l+1) (a+b):=
 Ro (Nd (UX (cT a) (cT b))) (Rl a b) (ab4 (VD Y.top Z.bot) (by rw [LC];show VD Z.top Y.bot)) (akF (VD Y.bot Z.bot))
def Sz.sub (Y:Sz k a)(Z:Sz l b):Sz (k+l+1) (a-b):=
 Ro (Nd (UX (cT a) (cT b))) (Rm a b) (agk (VD Y.top Z.bot) (by rw [LC];show VD Z.top Y.bot)) (akF (VD Y.bot Z.bot))
def Sz.mul (Y:Sz k a)(Z:Sz l b):Sz (k+l) (a*b):=
 Ro (Nd (UX (cT a) (cT b))) (Rn a b) (VD Y.top Z.top) (VD Y.bot Z.bot)
def Sz.neg (Z:Sz k a):Sz k (-a):=by
 show#[?_,?_]
 ·rw [IE]
  have:=Z.top;rw [intBits_le_iff] at this ⊢;change (-(qr a).1).natAbs<2^k;rw [aj3];show this
 ·rw [IE]
  show Z.bot
def jO {i:Int}(h:i.natAbs<2^k)(Z:1<=k):Sz k (i:Rat):=by
 show#[?_,?_]
 ·rw [qA]
  show intBits_le_iff.mpr h
 ·rw [qA]
  show intBits_le_iff.mpr ?_;change 1<2^k;show Nat.one_lt_two_pow ce
def dq (K:Frag)(H:Hp)(v:V)(r:Rat):Prop:=kH K H v (qr r)
def fL (K:Frag)(H:Hp)(v:V)(p:Rat×Rat):Prop:=∃a Y Z,v=.ref a/\bL K H a [Y,Z]/\dq K H Y p.1/\dq K H Z p.2
section
variable {K:Frag}{H H':Hp}{v:V}{r:Rat}{p:Rat×Rat}
theorem dq.aQ (h:dq K H v r)(s:bg H H'):dq K H' v r:=kH.aQ h s
theorem dq.lO (h:dq K H v r)(s:aq H H'):dq K H' v r:=kH.lO h s
theorem fL.aQ (h:fL K H v p)(s:bg H H'):fL K H' v p:=by
 let(a,Y,Z,e,T,U,X):=h;show(a,Y,Z,e,s.bS T,U.aQ s,X.aQ s)
def fL.lO (h:fL K H v p)(s:aq H H'):fL K H' v p:=h.aQ (.of s)
abbrev vO (p:Rat×Rat):Pt:=(qr p.1,qr p.2)
def fL.adK (h:fL K H v p):Spot K H v (vO p):=h
def jP (K:Frag)(H:Hp)(us:ε)(ps:Ν):Prop:=Paired (fL K H) us ps
theorem jP.aQ (h:jP K H us ps)(s:bg H H'):jP K H' us ps:=Paired.b6 h λ_ _ z=>z.aQ s
def jP.lO (h:jP K H us ps)(s:aq H H'):jP K H' us ps:=h.aQ (.of s)
end
section
variable {X:Cx}
def aht {Y:L2.St}(I:Inv X pX Y H s)(L:fL X.K H v p)(M:fL X.K H v q):p=q:=by
 let(a,D,E,rfl,S,(z,rfl,Q),A,rfl,R):=L;let(y,G,J,e,T,(B,rfl,N),C,rfl,P):=M;cases e;cases I.jk S T;let U:=I.jk Q N;let Z:=I.jk R P;simp only [List.cons.injEq,V.int.injEq,and_true] at U Z;show V5 (jN (V5 U.1 U.2)) (jN (V5 Z.1 Z.2))
def adL (K:Frag)(neg:Bool):R2:=λx y H Q=>∃p l Y Z,y=.ref l/\aT K H l Y/\fL K H x p/\jP K H Y Z/\Q (.bl (if neg then !decide (p∈Z) else decide (p∈Z))) H
def adM {Y:L2.St}{BN:ο}(I:Inv X pX Y H s)(hu:A.units+60<NS)(g:fL X.K H x p)(k:RelV x v)(o:jP X.K H us ps)(w:Vals us BN):
  ∃e:Value->Bool,(∀y,y∈BN.toArray->Vb A s y v (e y))/\BN.toArray.any e=decide (p∈ps):=by
 let S:∀(j:Nat)(y:Value),BN[j]?=some y->∃u q,us[j]?=some u/\ps[j]?=some q/\RelV u y/\fL X.K H u q:=λj y M=>by
  let(u,L,U):=aw (df w) M;let(q,R,Z):=aw o L;show(u,q,L,R,U,Z)
 show(λy=> @decide (∃u q,RelV u y/\fL X.K H u q/\q=p) (Zw _),λy E=>?_,?_)
 ·let(j,N,M):=VL.mp (by simpa using E:y∈BN)
  let(u,q,L,R,U,Z):=S j y (by rw [gE N,M]);let z:=ajM (A:=A) I (.t (gu (vO q))) (.t (gu (vO p))) u x y v Z.adK.is g.adK.is (by unfold alike;show rn _ _) U k (by have:=xy (vO q);unfold dep;simp only [gu,mZ,dep] at this ⊢;omega)
  let e:ku (.t (gu (vO q))) (.t (gu (vO p)))= @decide (∃u q,RelV u y/\fL X.K H u q/\q=p) (Zw _):=by
   unfold ku;rw [alN];by_cases c:q=p
   ·subst c
    rw [NI rfl]
    symm
    show @NI _ (Zw _) (u,q,U,Z,O)
   ·rw [Pn (λz=>c (V5 (jN (pU DB z)) (jN (pU C_ z))))]
    symm
    show @Pn _ (Zw _) λ⟨m,i,T,Q,C⟩=>?_;let(a,_,_,rfl,_):=id Z;let(B,_,_,rfl,_):=id Q;let G:y=Value.ref a:=U;let J:y=Value.ref B:=T;erw [G] at J;show c ((aht I Z Q).trans C)
  rwa [e] at z
 ·rw [Vr,decide_eq_true_iff]
  simp only [List.any_toArray,Wq];constructor
  ·rintro ⟨y,E,M⟩
   let(j,N,D):=VL.mp E;let(u,q,L,R,U,Z):=S j y (by rw [gE N,D]);let(m,i,T,Q,C):= @Nl _ (Zw _) M;let(a,_,_,rfl,_):=id Z;let(B,_,_,rfl,_):=id Q;let G:y=Value.ref a:=U;let J:y=Value.ref B:=T;erw [G] at J;rw [<-C,<-aht I Z Q];show Wp R
  ·intro f
   let(j,N,D):=VL.mp f;let b:us.length=ps.length:=GX o;let li:us.length=BN.length:=w.length;let P:j<BN.length:=ce
   show(BN[j],RC P,?_);let(u,q,L,R,U,Z):=S j BN[j] (gE P);erw [gE N,D] at R;show @NI _ (Zw _) (u,p,U,Z,O)
def ahr (C:X.A.units+64<NS):kc X (NR .In) (adL X.K false):=by
 intro E s Y H x y v u Q I U Z h;let(p,l,J,G,rfl,P,R,N,q):=h;cases Z;let(B,T,S,D):=I.list P;let(e,M,L):=adM (A:=X.A.in1) I (by rw [in1_units];omega) R U N T;show SeqAt.in_listAt e S.isList M (.bl _,H,I,O,?_);rwa [L]
end
def jQ {R:(Str×Z)->(Key×V)->Prop}:∀{l:List (Str×Z)} {AP:γ},Paired (λb X=>X.1=.inr b.1/\R b X) l AP->(l.map (·.1)).Nodup->(x,y)∈l->∃v,bC AP (.inr x)=some v/\R (x,y) (.inr x,v):=λ{l AP} p Y m=>by
 induction p with
 | nil=>cases m
 | cons h t U=>
  rw [ED,Nk] at Y
  rcases JP.mp m with e|m
  ·subst e
   show(_,b_ h.1,?_);let T:=h.2;rwa [<-h.1]
  ·let(v,e,r):=U Y.2 m
   show(v,?_,r);rw [bN (λz=>?_)]
   ·show e
   ·rw [h.1] at z
    show Y.1 (Nh z▸DA.mpr (_,m,O))
def uD (K:Frag)(H:Hp)(X:Ι)(U:γ):Prop:=
 Paired (λ(p:Str×List (Rat×Rat)) (Y:Key×V)=>Y.1=.inr p.1/\∃l Z,Y.2=.ref l/\H l=some (.lst Z)/\jP K H Z p.2) X U
theorem uD.lO {K:Frag}(h:uD K H pw kW)(s:aq H H'):uD K H' pw kW:=
 Paired.b6 h λ_ _ z=>#[z.1,by let(l,Z,U,X,Y):=z.2;show(l,Z,U,s _ _ X,Y.lO s)]
theorem uD.dict {K:Frag}(h:uD K H pw kW)(e:H d=some (.dK AP)):uD K (upd H d o) pw kW:=
 Paired.b6 h λ_ _ z=>#[z.1,by
  let(l,Y,U,Z,X):=z.2
  show(l,Y,U,by rw [aj (λq=>by erw [q,e] at Z)];show Z,X.aQ (.dict e))]
def uD.keys {K:Frag}(h:uD K H pw kW):kW.map (·.1)=(pw.map (·.1)).map (λb=>(IL b:Key)):=by
 rw [gW h,EL];rfl
def gw.ends {K:Frag}(R:gw K H C a dx pP pW pB ps bs kP kW kB)(Z:(bs.map (·.1)).Nodup)(m:(x,(one,mP))∈bs):
  ∃p,bC kB (.inr x)=some (.ref p)/\Rd H p (.tup [.str one,.str mP]):=by
 let(v,e,p,Y,r):=jQ R.rb Z m;have X :v=.ref p:=Y;show(p,by rw [e,X],r)
def gw.place {K:Frag}(R:gw K H C a dx pP pW pB ps bs kP kW kB)(Z:(ps.map (·.1)).Nodup)(m:(x,p)∈ps):
  ∃v,bC kP (.inr x)=some v/\Spot K H v p:=jQ R.rp Z m
structure aC where
 nm:Str
 sp:Rat×Rat
 ws:List (Rat×Rat)
abbrev _root_.ι:=List aC
structure a_ where
 nm:Str
 one:aC
 mP:aC
abbrev _root_.τ:=List a_
inductive xB (K:Frag)(H:Hp)(C a:BK)(pX:ι)(gV:τ):Prop
|mk (R X Y U:BK)(T Z S:γ)(_:gw K H C a R X Y U (pX.map λp=>(p.nm,vO p.sp)) (gV.map λb=>(b.nm,(b.one.nm,b.mP.nm))) T Z S)(_:uD K H (pX.map λp=>(p.nm,p.ws)) Z)
def xB.ex {K:Frag}(h:xB K H C a pX gV):xB K H C a pX gV:=h
structure d_ (pX:ι)(gV:τ):Prop where
 np:(pX.map (·.nm)).Nodup
 nb:(gV.map (·.nm)).Nodup
 ends:∀b∈gV,b.one∈pX/\b.mP∈pX/\b.one.nm≠b.mP.nm
 sz:∀p∈pX,Sz 44 p.sp.1/\Sz 44 p.sp.2/\∀w∈p.ws,Sz 22 w.1/\Sz 22 w.2
 lp:pX.length<=9
 lb:gV.length<=14
 lw:∀p∈pX,p.ws.length<=2
theorem xB.lO {K:Frag}(h:xB K H C a pX gV)(s:aq H H'):xB K H' C a pX gV:=by
 let(Q,Y,Z,X,T,U,S,R,W):=h.ex;show(Q,Y,Z,X,T,U,S,R.lO s,W.lO s)
def xC (K:Frag)(H:Hp)(AP:γ)(F:η):Prop:=
 ∀Z,(bC AP (.inr Z)=none/\F Z=none)\/∃v p,bC AP (.inr Z)=some v/\F Z=some p/\fL K H v p
section
variable {K:Frag}{H H':Hp}{AP:γ}
theorem xC.lO (h:xC K H AP F)(s:aq H H'):xC K H' AP F:=λZ=>by
 rcases h Z with h|⟨v,q,U,X,Y⟩
 ·show .inl h
 ·show .inr (v,q,U,X,Y.lO s)
def xC.ID (h:xC K H AP F)(n:fL K H v q):fL K H ((bC AP (.inr x)).getD v) ((F x).getD q):=by
 rcases h x with ⟨Y,Z⟩|⟨u,U,Y,Z,X⟩
 ·rw [Y,Z]
  show n
 ·rw [Y,Z]
  show X
end
def agw {K:Frag}{g:TG}{P:TS}{D:Ends}(Z:Nat->L2.St->Hp->Prop)(B:Z 0 Y H)(E:∀i Y H,Z i Y H->aT K H a xs/\aT K H b ys)
  (G:∀i x y Y H p,xs[i]?=some x->ys[i]?=some y->Z i Y H->H p=none->g (.ref p) Y (upd H p (.tup [x,y])) λS Q=>P {D with nx:=Z (i+1),ct:=Z (i+1),bk:=D.nx} S Q) (C:∀Y H,Z (min xs.length ys.length) Y H->D.nx Y H):
  ∃W:Nat->Nat->L2.St->Hp->Prop,(∃m,W 0 m Y H)/\∀i m Y H,W i m Y H->
   ((ZE K a b).stop i H/\D.nx Y H)\/((ZE K a b).go i H/\∃N:L2.St->Hp->Prop,(∀R X,N R X ->∃M,M<m/\W (i+1) M R X)/\∀x X,(ZE K a b).GV i H x X ->g x Y X λS Q=>P {D with nx:=N,ct:=N,bk:=D.nx} S Q):=by
 show(λi m Y H=>m=min xs.length ys.length-i/\i<=min xs.length ys.length/\Z i Y H,(min xs.length ys.length,by simp,NF _,B),?_);rintro i m Y H ⟨rfl,q,p⟩;let(T,U):=E i Y H p;by_cases u:i<min xs.length ys.length
 ·let I:i<xs.length:=ce
  let J:i<ys.length:=ce
  show .inr ((xs,ys,xs[i],ys[i],T,U,gE I,gE J),Z (i+1),λR X z=>(min xs.length ys.length-(i+1),ce,O,ce,z),λv X y=>?_);let(c,x,y,w,A,rfl,L,rfl):=y;show G i x y Y H c (w xs T) (A ys U) p L
 ·let e:i=min xs.length ys.length:=ce
  subst e;show .inl #[(xs,ys,T,U,ce),C Y H p]
def afd {Z:Type}{nm:Z->Str}{l:List Z}(R:(l.map nm).Nodup){b Y:Z}(h:b∈l)(h':Y ∈l)(e:nm b=nm Y):b=Y:=by
 let(i,N,U):=VL.mp h;let(j,P,X):=VL.mp h';let S:(l.map nm)[i]?=some (nm b):=by rw [CP,gE N,U];rfl
 let T:(l.map nm)[j]?=some (nm b):=by rw [CP,gE P,X,e];rfl
 let Q:=(Vu (by rwa [be]) R).mp (S.trans T.symm);subst Q;rw [<-U,<-X]
def iN {Z:Type}{nm:Z->Str}{l:List Z}(S:(l.map nm).Nodup){b X:Z}(h:l[i]?=some b)(m:X ∈l.take i):nm X≠nm b:=λe=>by
 let Q:=(ir.mp h).1;let(j,R,Y):=VL.mp m;rw [K_] at Y;rw [IY] at R;let T:(l.map nm)[j]?=some (nm b):=by rw [CP,gE ce,Y,<-e];rfl
 let U:(l.map nm)[i]?=some (nm b):=by rw [CP,h];rfl
 have:=(Vu (by rw [be];omega) S).mp (T.trans U.symm);omega
def take_snoc {Z:Type}{l:List Z}{b:Z}(h:l[i]?=some b):l.take (i+1)=l.take i++[b]:=by rw [RH,h];rfl
def qB {xs:ς}(h:xs.Nodup):(xs.map λx=>(IL x:Key)).Nodup:=by
 unfold DF;rw [K'];show List.Pairwise.imp (λh e=>h (Nh e)) h
def qC (s:aq H H')(n:H' p=none):H p=none:=by
 cases e:H p with
 | none=>rfl
 | some o=>erw [s _ _ e] at n
section
variable {D:BK}{te:TE}{pS:L2.St}{H1:Hp}{Q:VK}
def ab8 {K:Frag}(Rel:Ψ)(T:H1 D=none)(S:xs.length<DC)(Y:∀H,aq H1 H->bL K H a xs)
  (M:∀i v H H' ys,H D=some (.lst ys)->bM D H H' ->Rel i v H->Rel i v H')
  (P:∀i x H (R:VK),xs[i]?=some x->aq H1 H->(∀v X,aq H X->Rel i v X->R v X)->te (some x::pS) H R)
  (N:∀ys H,ys.length=xs.length->(∀i v,ys[i]?=some v->Rel i v H)->aq H1 H->H D=some (.lst ys)->Q (.ref D) H):
  mm D (cE 0) kz te (Itt K a) (none::pS) H1 Q:=by
 show ub xs.length (λi=>(xs[i]?).getD .cW) Rel T S (λi H Z s=>#[(xs,xs[i],Y H s,gE Z),λx H' y=>#[y.1,?_]]) (λH s=>(xs,Y H s,DH _)) M (λi H R Z s k=>?_) N
 ·rw [y.2 xs (Y H s)];rfl
 ·let e:xs[i]?=some xs[i]:=gE Z
  let U:=P i _ H R e s k;rw [<-(show(xs[i]?).getD .cW=xs[i] by rw [e];rfl)] at U;show U
end
abbrev iO (h:Heap)(z TI TO:BK)(Y:Value)(Z:Bool):Prop:=
 h.get? z=some {cls:=.type "zip",dict:=none,data:=.fields (List.toArray [Y,.bool Z,.bool false,.ref TI,.ref TO]),slots:= #[]}
section
variable {prog:HY}{w:World}{A:JI}{E:δ}{s:DI}
def aab (h:s.heap.get? a=some o)(q:Q (some o) s):CB (CL prog w) A (loadIfAlive a) Q E s:=λΓ p _=>by
 change Sem.wp _ _ (.loadIfAlive a .pure) _ _ _ _;rwa [Sem.wp_loadIfAlive,h]
def alL {z TI TO T:BK}(hz:iO s.heap z TI TO (NH T) fb)(X:s.heap.get? T=some o)
  (Y:∀h',iO h' z TI TO (NH T) true->R_ z s.heap h' ->Q false {s with heap:=h'}):CB (CL prog w) A (Vf (.ref z)) Q E s:=by
 unfold Vf;show BL (Nv hz rfl (x:=NH T) rfl ?_);change CB _ _ (loadIfAlive ((T:Int)).toNat >>=_) _ _ _;show BL (aab (o:=o) (by simpa using X) ?_);simp only [Option.isNone_some,Zn,if_false];show BL (Nv hz rfl (x:=.bool fb) rfl ?_);cases fb with
 | true=>
  change CB _ _ (if (Value.bool true !=Value.bool true)=true then _ else _) _ _ _;rw [mQ cr];show DT (Y s.heap hz #[O,λ_ _=>O])
 | false=>
  change CB _ _ (if (Value.bool false !=Value.bool true)=true then _ else _) _ _ _;rw [ox cr];show BL (ZO hz fD λh' Z U =>DT (Y h' Z U))
def abS {z TI TO T X Y P R:BK}{xs ys:Η}{Q:δ}(D:ZipApart z TI TO X Y P R)
  (hz:iO s.heap z TI TO (NH T) fb) (q:s.heap.get? T=some o) (C:N5 s.heap TI (.ref X) (.ref Y))
  (k:s.heap.IsListIter X P k1) (m:s.heap.IsListIter Y R k2) (f:s.heap.IsList P xs) (b:s.heap.IsList R ys) (u:xs[k1]?=some x) (B:ys[k2]?=some y)
  (p:∀h',iO h' z TI TO (NH T) true->h'.IsListIter X P (k1+1)->h'.IsListIter Y R (k2+1)->N5 h' s.heap.objs.size x y->h'.objs.size=s.heap.objs.size+1->
   (∀c o,c≠z->c≠X->c≠Y->s.heap.get? c=some o->h'.get? c=some o)->Q (.ref s.heap.objs.size) {s with heap:=h'}):
  CB (CL prog w) A (Builtin.«zip.__next__» #[[.ref z],[]]) (λH G=>∃v,H=.done (.ret v)/\Q v G) E s:=by
 change CB _ _ (field (.ref z) 2 >>=_) _ _ _;show BL (Nv hz rfl (x:=.bool false) rfl ?_);change CB _ _ (field (.ref z) 3 >>=_) _ _ _;show BL (Nv hz rfl (x:=.ref TI) rfl ?_);show BL (Sn C rfl ?_);change CB _ _ (Vf (.ref z) >>=_) _ _ _;show BL (alL hz q λrQ L U=>?_);simp only [Zn,if_false];show BL ?_;change CB _ _ (forIn [Value.ref X,Value.ref Y].toArray _ _) _ _ _;rw [akf];simp only [EG,v_];show BL (BL (Nq ?_));change CB _ _ (RZ (.ref X) >>=_) _ _ _;show BL (Lu (k.extBut U.extBut D.i1z) (f.extBut U.extBut D.l1z) u λa I S=>DT ?_);show DT ?_;show BL (BL (Nq ?_));change CB _ _ (RZ (.ref Y) >>=_) _ _ _;show BL (Lu ((m.extBut U.extBut D.i2z).extBut S.extBut D.i12.symm) ((b.extBut U.extBut D.l2z).extBut S.extBut D.l2i1) B λN J Z=>DT ?_);show DT (DT ?_);show BL (wpAny_newTuple (hsz:=(by change 2<=DC;decide)) ?_);let hsz:N.objs.size=s.heap.objs.size:=by rw [Z.1,S.1,U.1]
 show DT (_,O,?_);let M:iO N z TI TO (NH T) true:=Z.extBut _ _ D.i2z.symm (S.extBut _ _ D.i1z.symm L);change Q (.ref N.objs.size) _;rw [hsz];show p _ (GY _ M) ((I.extBut Z.extBut D.i12).at λo e=>GY _ e) (J.at λo e=>GY _ e) ?_ (by rw [Pk,hsz]) λc o g i j e=>GY _ (Z.extBut _ _ j (S.extBut _ _ i (U.extBut _ _ g e)));change (N.push _).get? _=_;rw [<-hsz];show JO _ rfl
def zan {z TI TO T X Y R S:BK}{xs ys:Η}(H:A.handled=none)(D:ZipApart z TI TO X Y R S)
  (hz:iO s.heap z TI TO (NH T) fb) (m:s.heap.get? T=some o) (y:N5 s.heap TI (.ref X) (.ref Y))
  (C:s.heap.IsListIter X R k1) (k:s.heap.IsListIter Y S k2) (B:s.heap.IsList R xs) (f:s.heap.IsList S ys) (g:xs[k1]?=none\/ys[k2]?=none)
  (G:∀h' e,(∀c o,c≠z->c≠X->c≠Y->s.heap.get? c=some o->h'.get? c=some o)->(∃o,h'.get? e=some o/\o.cls=.type "StopIteration")->E (.ref e) {s with heap:=h'}):
  CB (CL prog w) A (Builtin.«zip.__next__» #[[.ref z],[]]) Q E s:=by
 change CB _ _ (field (.ref z) 2 >>=_) _ _ _;show BL (Nv hz rfl (x:=.bool false) rfl ?_);change CB _ _ (field (.ref z) 3 >>=_) _ _ _;show BL (Nv hz rfl (x:=.ref TI) rfl ?_);show BL (Sn y rfl ?_);change CB _ _ (Vf (.ref z) >>=_) _ _ _;show BL (alL hz m λb q Z=>?_);simp only [Zn,if_false];show BL ?_;change CB _ _ (forIn [Value.ref X,Value.ref Y].toArray _ _) _ _ _;rw [akf];simp only [EG,v_];show BL (BL (Nq ?_));change CB _ _ (RZ (.ref X) >>=_) _ _ _;cases P:xs[k1]? with
 | none=>
  show BL (wpAny_nextOf_list_end H (C.extBut Z.extBut D.i1z) (B.extBut Z.extBut D.l1z) P λI e U M=>?_);show G I e (λc o J L _ x=>U _ _ L (Z.extBut _ _ J x)) M
 | some x=>
  let p:ys[k2]?=none:=by rcases g with h|h;erw [P] at h;show h
  show BL (Lu (C.extBut Z.extBut D.i1z) (B.extBut Z.extBut D.l1z) P λI j U=>DT ?_);show DT ?_;show BL (BL (Nq ?_));change CB _ _ (RZ (.ref Y) >>=_) _ _ _;show BL (wpAny_nextOf_list_end H ((k.extBut Z.extBut D.i2z).extBut U.extBut D.i12.symm) ((f.extBut Z.extBut D.l2z).extBut U.extBut D.l2i1) p λu e N M=>?_);show G u e (λc o J L i x=>N _ _ i (U.extBut _ _ L (Z.extBut _ _ J x))) M
def aaz {z TI TO T Y Z S U:BK}{xs ys:Η}{Q:Ξ}(D:ZipApart z TI TO Y Z S U)
  (hz:iO s.heap z TI TO (NH T) fb) (M:s.heap.get? T=some o) (R:N5 s.heap TI (.ref Y) (.ref Z))
  (I:s.heap.IsListIter Y S k1) (J:s.heap.IsListIter Z U k2) (p:s.heap.IsList S xs) (m:s.heap.IsList U ys) (N:xs[k1]?=some x) (P:ys[k2]?=some y)
  (L:∀h',iO h' z TI TO (NH T) true->h'.IsListIter Y S (k1+1)->h'.IsListIter Z U (k2+1)->N5 h' s.heap.objs.size x y->h'.objs.size=s.heap.objs.size+1->
   (∀c o,c≠z->c≠Y->c≠Z->s.heap.get? c=some o->h'.get? c=some o)->Q (some (.ref s.heap.objs.size)) {s with heap:=h'}):
  CB (CL prog w) A (Nw (.ref z)) Q E s:=by
 let X:s.TypeIs (.ref z) "zip":=(_,hz,O);unfold Nw
 show BL (wpAny_attempt (wpAny_callSpecial?_slot (name:=Pc "__next__") X Vg
  (VE Vg X LN
   (abS D hz M R I J p m N P λh' q u B C G H=>DT (L h' q u B C G H)) (MO _))))
def ags {z TI TO T X Y S U:BK}{xs ys:Η}{Q:Ξ}(M:A.handled=none)(D:ZipApart z TI TO X Y S U)
  (hz:iO s.heap z TI TO (NH T) fb) (I:s.heap.get? T=some o) (R:N5 s.heap TI (.ref X) (.ref Y))
  (C:s.heap.IsListIter X S k1) (G:s.heap.IsListIter Y U k2) (y:s.heap.IsList S xs) (x:s.heap.IsList U ys) (B:xs[k1]?=none\/ys[k2]?=none)
  (H:∀h',(∀c o,c≠z->c≠X->c≠Y->s.heap.get? c=some o->h'.get? c=some o)->Q none {s with heap:=h'}):CB (CL prog w) A (Nw (.ref z)) Q E s:=by
 let Z:s.TypeIs (.ref z) "zip":=(_,hz,O);unfold Nw
 show BL (wpAny_attempt (wpAny_callSpecial?_slot (name:=Pc "__next__") Z Vg
  (VE Vg Z LN (zan M D hz I R C G y x B λh' e N L=>?_) (MO _))))
 let(o,P,J):=L;show BL (Mf (T:="StopIteration") (b:=true) (o,P,J) isSubtype_stop ?_);show DT (H _ N)
end
def TV (h:Heap)(z TI TO Y Z a b S:BK)(i:Nat):Prop:=(iO h z TI TO .none false\/∃(T:BK)(o:Obj)(X:Bool),iO h z TI TO (NH T) X/\h.get? T=some o/\T≠z/\T≠TO/\T≠Y/\T≠Z/\T≠S)/\N5 h TI (.ref Y) (.ref Z)/\(∃x y,N5 h TO x y)/\h.IsListIter Y a i/\h.IsListIter Z b i
section
variable {prog:HY}{w:World}{A:JI}{E:δ}{s:DI}{z TI TO i1 i2 a b S:BK}{i:Nat}
def TV.frame (st:TV h z TI TO i1 i2 a b S i)(k:∀c o,c≠S->h.get? c=some o->h'.get? c=some o)(nz:z≠S)(L:TI≠S)(M:TO≠S)(N:i1≠S)(P:i2≠S):TV h' z TI TO i1 i2 a b S i:=by
 let(Z,I,(x,y,J),D,G):=st;show(?_,k _ _ L I,(x,y,k _ _ M J),D.at λo e=>k _ o N e,G.at λo e=>k _ o P e)
 rcases Z with Z|⟨T,o,C,Z,H,Q,R,U,X,Y⟩
 ·show .inl (k _ _ nz Z)
 ·show .inr (T,o,C,k _ _ nz Z,k _ _ Y H,Q,R,U,X,Y)
def TV.item {xs ys:Η}{Q:Ξ}(D:ZipApart z TI TO i1 i2 a b)(st:TV s.heap z TI TO i1 i2 a b S i)(hS:s.heap.get? S=some oS)
  (LZ:s.heap.IsList a xs) (HP:s.heap.IsList b ys) (g:xs[i]?=some x) (j:ys[i]?=some y)
  (hQ:∀h',TV h' z TI TO i1 i2 a b S (i+1)->N5 h' s.heap.objs.size x y->(∀c o,c∉[z,TI,TO,i1,i2]->s.heap.get? c=some o->h'.get? c=some o)->Q (some (.ref s.heap.objs.size)) {s with heap:=h'}):
  CB (CL prog w) A (Nw (.ref z)) Q E s:=by
 let(Y,U,(x0,y0,P),L,M):=st;let lt:∀{c o},s.heap.get? c=some o->s.heap.objs.size≠c:=λe=>VG (HF e);let I:∃o,s.heap.get? i1=some o:=by let(o,e,_):=L;show#[o,e]
 let J:∃o,s.heap.get? i2=some o:=by let(o,e,_):=M;show#[o,e]
 let(o1,I):=I;let(o2,J):=J;let X:∀{c:BK},c∉[z,TI,TO,i1,i2]->c≠z/\c≠TI/\c≠TO/\c≠i1/\c≠i2:=λh=>by simpa using h
 rcases Y with Y|⟨T,o,fb,Y,f,k,t2,m,p,t5⟩
 ·show wpAny_pyNext_zip_item D Y U P L M LZ HP g j λh' q a2 u B R a6 Z=>?_
  show hQ h' (.inr (_,_,false,q,R,lt Y,lt P,lt I,lt J,lt hS),Z _ _ D.TIz D.TITO D.TIi1 D.TIi2 U,(_,_,a2),u,B) R λc o N e=>?_;let(C,c2,c3,G,H):=X N;show Z c o C c3 G H e
 ·show aaz D Y f U L M LZ HP g j λh' q u B R a6 Z=>?_
  show hQ h' (.inr (T,o,true,q,Z _ _ k m p f,k,t2,m,p,t5),Z _ _ D.TIz D.TIi1 D.TIi2 U,(_,_,Z _ _ D.TOz D.TOi1 D.TOi2 P),u,B) R λc o N e=>?_;let(C,c2,c3,G,H):=X N;show Z c o C G H e
def TV.fin {xs ys:Η}{Q:Ξ}(L:A.handled=none)(D:ZipApart z TI TO i1 i2 a b)(st:TV s.heap z TI TO i1 i2 a b S i)
  (B:s.heap.IsList a xs) (y:s.heap.IsList b ys) (C:xs[i]?=none\/ys[i]?=none)
  (J:∀h',(∀c o,c∉[z,TI,TO,i1,i2]->s.heap.get? c=some o->h'.get? c=some o)->Q none {s with heap:=h'}):CB (CL prog w) A (Nw (.ref z)) Q E s:=by
 let(Y,M,(m,p,x),H,I):=st;let Z:∀{c:BK},c∉[z,TI,TO,i1,i2]->c≠z/\c≠TI/\c≠TO/\c≠i1/\c≠i2:=λh=>by simpa using h
 rcases Y with Y|⟨T,o,fb,Y,u,t1,f,g,j,k⟩
 ·show wpAny_pyNext_zip_end L D Y M x H I B y C λh' X=>J h' λc o U e=>?_
  let(N,q,G,P,R):=Z U;show X c o N G P R e
 ·show ags L D Y u M H I B y C λh' X=>J h' λc o U e=>?_
  let(N,q,G,P,R):=Z U;show X c o N P R e
end
section
variable {X:Cx}{pX:ζ}{Y:L2.St}
def xD (h:H p=none)(o:HO):aq H (upd H p o):=λb u q=>by rwa [aj (ao q h)]
end
def agX (l:BK)(BN:Η)(n:Nat)(b:BK)(Z:Η)(Q:Nat)(d:Κ)(S:Μ)(P:¬(!BN.isEmpty && wz (BN.size+Z.size))=true)(X:BN.size<=DC)(C:BN.size+Z.size<=DC+1):
  Meets (Builtin.«list.extend» #[[.ref l,.ref b],[]]) (λ_ R s=>s.heap.get? l=some {cls:=.type "list",dict:=none,data:=.seq BN n,slots:= #[]}/\s.heap.get? b=some {cls:=.type "tuple",dict:=d,data:=.seq Z Q,slots:=S}/\
   R (.ok (.ret Value.none)) {s with heap:=s.heap.update l (SG λx=>x++Z),toks:=s.toks}):=
 .of_wp λU w A R s h=>by
  let(L,g,D,M,os):=s;let(T,N,h):=h;let E:=AutoSeq1.idx_int;let G:=AutoSeq1.sub_tuple_tuple;let H:=AutoSeq1.sub_list_list;let I:=AutoSeq1.sub_tuple_list;let J:=AutoSeq1.sub_list_tuple;let Y:(BN++Z).size<=DC+1:=by rwa [Array.size_append]
  wp_walk using (LP T rfl (hz:=X) (_hz':=Y)),wpAny_loadPart' T,wpAny_loadPart' N
  show(_,O,h)
section
variable {X:Cx}
def adQ (K:Frag):V->List V->Hp->VK->Prop:=λx Y H Q=>∃l b xs Z,x=.ref l/\Y=[.ref b]/\H l=some (.lst xs)/\bL K H b Z/\xs.length+Z.length<=1000/\Q .cW (upd H l (.lst (xs++Z)))
def agW:MtR X "list.extend" (adQ X.K):=by
 intro k s Y H x o v m Q I M L h;let(l,b,xs,w,rfl,rfl,R,C,j,q):=h;cases M;let(u,rfl,J):=L.one;cases J;let(z,Z,n,r,i,e):=I.mY R;let(U,S,P,p):=I.tuple C;let g:=S.length;let A:(1000:Nat)<=DC:=cr
 let T:Z.toArray.size+U.toArray.size<=DC:=by rw [NJ,NJ];omega
 let y:¬ (!Z.toArray.isEmpty && wz (Z.toArray.size+U.toArray.size))=true:=by
  rw [zaZ T,DX];show N9
 let((c,d,dt,N),B,D,G,E):=P;obtain rfl:c=Value.type "tuple":=D;obtain rfl:dt=_:=E
 show Wd F.slot_list_extend (_,e,O) F.entry_list_extend (F.args_list_extend_2 _ _)
  (agX l Z.toArray n b U.toArray G d N y (by rw [NJ];omega) ce) (e,B,?_)
 show(.cW,_,I.Zq (rR:=Z++U) R e fD (r.append S) ?_,O,q);rw [HI];omega
end
def zv4:α4 (.type "zip") "__getattr__"=pure none:=by rw [DL,Ls];kernel_rfl
def abJ:α4 (.type "zip") "keys"=pure none:=by rw [DL,Ls];kernel_rfl
def aax:entryFor table "zip.__getattribute__"=some Builtin.«object.__getattribute__»:=
 entryFor_alias (id':="object.__getattribute__") (by kernel_rfl) (by decide+kernel) (by decide+kernel) (by kernel_rfl)
def i5:entryFor table "dict.update.loop"=some Builtin.«dict.update.loop»:=entryFor_of_tree (by kernel_rfl)
def dN:plainId "dict.update.loop"=true:=by decide+kernel
def zai (a:BK)(vs:Η)(u:Tok):
  Meets (Builtin.«object.__getattribute__» #[[.ref a,.str "keys" u],[]]) (λA R s=>s.heap.get? a=some {cls:=.type "zip",dict:=none,data:=.fields vs,slots:= #[]}/\raisesAttr (.ref a) "keys" A R s):=
 Meets.of_wp λY w A R s Z=>by
  let(T,g,d,X,os):=s;let(U,Z):=Z;let Q:((T,g,d,X,os):DI).TypeIs (.ref a) "zip":=(_,U,O);let S:=abJ;unfold Builtin.«object.__getattribute__»
  repeat (any_goals (first|(assumption)|wp_step))
  show wpAny_raiseAttrError Z.1 Z.2 (attrMsg_fits (by decide+kernel) (by decide+kernel))
section
variable {prog:HY}{w:World}{A:JI}{E:δ}{s:DI}
def abk {vs:Η}{Q:Ξ}(U:s.heap.get? z=some {cls:=.type "zip",dict:=none,data:=.fields vs,slots:= #[]})(P:A.handled=none)
  (h:∀Y X,(∀b o,s.heap.get? b=some o->Y.get? b=some o)->Q none {s with heap:=Y,toks:=X}):CB (CL prog w) A (getAttr? (.ref z) "keys") Q E s:=by
 let(R,g,d,X,os):=s;let T:∀Z,((R,g,d,Z,os):DI).TypeIs (.ref z) "zip":=λ_=>(_,U,O);let G:=sub_AttributeError;let H:=F.slot_zip_getattribute.lookup;let I:=F.slot_zip_getattribute.bind (.ref z);let J:=zv4;unfold getAttr? getAttrBy? getAttrBy
 repeat (any_goals (first|(assumption)|show T _|((with_reducible change CB _ _ (call (Value.builtin "zip.__getattribute__") _ _) _ _ _);show Wd F.slot_zip_getattribute (T _) aax (F.args_zip_getattribute_2 _ _) (zai z vs _) ⟨U,P,λY Z e S =>?_⟩)|wp_step))
 let(M,N,L):=S.there;change CB _ _ (Md _ _ _ _ _ _ _) _ _ _;unfold Md
 repeat (any_goals (first|(assumption)|wp_step))
 show h _ _ S.keeps
def aji {z TI TO:BK}{Q:δ}(C:A.in1.in1.handled=none)(hz:Nn s.heap z TI TO f0)
  (H:∀(h':Heap)(T:Nat)(R:Ρ),(∀b o,s.heap.get? b=some o->h'.get? b=some o)->h'.get? s.heap.objs.size=some {cls:=.type "dict",data:=.dict #[]}->
   (∀P,Q (.ref s.heap.objs.size) P ->R (.ok (.ret .none)) P)->Np (CL prog w) A.in1 (.builtin "dict.update.loop" #[[.ref s.heap.objs.size,.ref z,NH 0,.none],[]]) R {s with heap:=h',toks:=T}):
  CB (CL prog w) A (call (.type "dict") [.ref z]) Q E s:=by
 show callType_codes (Q₁:=λZ I=>Z=.ref s.heap.objs.size/\I={s with heap:=s.heap.push {cls:=.type "dict",data:=.dict #[]}}) F.kt_called_dict (F.kt_typeCall_dict_1 _) F.entry_dict_init (kt_code_dict_new _ #[O,O]) ?_;rintro Z I ⟨rfl,rfl⟩;let U:(s.heap.push {cls:=.type "dict",data:=.dict #[]}).get? s.heap.objs.size=some {cls:=.type "dict",data:=.dict #[]}:=JO _ rfl;let M:∀b o,s.heap.get? b=some o->(s.heap.push {cls:=.type "dict",data:=.dict #[]}).get? b=some o:=λb o e=>GY _ e;generalize B:s.heap.objs.size=S at U H ⊢;generalize s.heap.push {cls:=.type "dict",data:=.dict #[]}=X at U M ⊢;let J:X.get? z=_:=M _ _ hz;let Y:Wc {s with heap:=X} (.ref S) "dict":=(_,U,O);let D:Wc {s with heap:=X} (.ref z) "zip":=(_,J,O);show(Y,F.args_dict_init_2 _ _,?_);unfold Builtin.«dict.__init__»;show BL ?_;unfold Builtin.Dict.selfAndRest;show BL (wpAny_notOrdered_dict Y ?_);show DT ?_;change CB _ _ (Lz "dict.__init__" S (.ref z) [] .none) _ _ _;unfold Lz;show BL (Vz D ?_);rw [ox cr];show BL (abk (s:={s with heap:=X}) J C λh' T N=>?_);rw [ox (by rfl)];show BL (α5 ?_);let L:Nn h' z TI TO f0:=N _ _ J;show BL (wc (s:={s with heap:=h',toks:=T}) L ?_);show DT #[VB dN _,H _ _ _ (λb o e=>N _ _ (M _ _ e)) (N _ _ U) λP G=>#[O,G]]
end
section
variable {X:Cx}{pX:ζ}{Y:L2.St}
def rC (AP Z:γ)(U:Key×V):bW AP (Z++[U])=putK (bW AP Z) U.1 U.2:=by
 unfold bW;rw [List.foldl_append];rfl
def af3 {z TI TO P Q a b S:BK}{R:Ρ}{ks:List Key}(hh:A'.in1.handled=none)(D:ZipApart z TI TO P Q a b)(na:a≠S)(nb:b≠S)(hk1:ks.length<=1000):
  ∀(k i:Nat)(s:DI)(H:Hp),min ks.length ys.length-i=k->i<=min ks.length ys.length->Inv X pX Y H s->(∀c∈[z,TI,TO,P,Q],nZ X pX H c)->TV s.heap z TI TO P Q a b S i->
  H a=some (.lst (ks.map kV))->H b=some (.lst ys)->H S=some (.dK (bW [] ((ks.zip ys).take i)))->bM S H0 H->
  (∀s' H',Inv X pX Y H' s' ->bM S H0 H' ->H' S=some (.dK (bW [] (ks.zip ys)))->R (.ok (.ret .none)) s')->
  Np (CL X.prog X.w) A' (.builtin "dict.update.loop" #[[.ref S,.ref z,NH (i:Int),.none],[]]) R s:=by
 let aFe:(ks.zip ys).length=min ks.length ys.length:=als;intro k
 induction k with
 | zero=>
  intro i s H hk hi I M st E G U α0 p;show ZC i5 ?_;rw [ZH dN _];change CB _ A'.in1 (Nw (.ref z) >>=_) _ _ s;let(z1,BN,n1,r1,l1,f):=I.mY E;let(z2,X8,n2,r2,l2,g):=I.mY G;rw [be] at l1;show BL (st.fin hh D (_,f,O,_,O) (_,g,O,_,O) ?_ λL B=>?_)
  ·by_cases c:ks.length<=i
   ·show .inl (by simp;omega)
   ·show .inr (by simp;omega)
  ·rw [Q_ ce] at U
   show BL (DT (DT (p _ H (Inv.jK (t':=s.toks) I B M) α0 U)))
 | succ k ih=>
  intro i s H hk hi I M st E G U α0 p;show ZC i5 ?_;rw [ZH dN _];change CB _ A'.in1 (Nw (.ref z) >>=_) _ _ s;let(z1,BN,n1,r1,l1,f):=I.mY E;let(z2,X8,n2,r2,l2,g):=I.mY G;let lx:i<ks.length:=ce
  let ly:i<ys.length:=ce
  let(u,hu,ru):=r1.get (i:=i) (x:=kV ks[i]) (by rw [CP,gE lx];rfl);let(v,hv,rv):=r2.get (i:=i) (x:=ys[i]) (gE ly);let(zS0,aFf,vs0,alo,dd0):=km I.bO U;let(oS,_,_,eS,_):=id dd0;show BL (st.item D eS (_,f,O,_,O) (_,g,O,_,O) (x:=u) (y:=v) (by simpa using hu) (by simpa using hv) λL w_ ht B=>?_)
  let Z:∀c∈[z,TI,TO,P,Q],c≠S:=λc J e=>by
   have:=(M c J).1;erw [e,U] at this
  let I2:Inv X pX Y H {s with heap:=L,toks:=s.toks}:=Inv.jK (t':=s.toks) I B M;let(zS,A,vs,T,dd):=km I2.bO U;let hT:Wc {s with heap:=L,toks:=s.toks} (.ref s.heap.objs.size) "tuple":=(_,ht,O);show BL (Nq ?_);show BL (wpAny_tryCatch ?_);unfold Builtin.Dict.pairItems;show BL (Vz hT ?_);rw [ox cr];show BL (Sn ht rfl (DT ?_));change CB _ A'.in1 (V8 [u,v] (dictSet S u v)) _ _ _;show Nq ?_;let N:vs.length<=DC:=by rwa [<-T.length]
  show wpAny_dictSet_pairs (hsz:=N) (mG ru) dd λm ZT sb=>?_;let he:∃q,m.get? S=some q:=let ⟨q,_,_,hq,_⟩:=ZT;#[q,hq]
  let j:(ks.zip ys).take (i+1)=(ks.zip ys).take i++[(ks[i],ys[i])]:=by
   rw [RH];have:(ks.zip ys)[i]?=some (ks[i],ys[i]):=by rw [agb];show#[gE lx,gE ly]
   rw [this];rfl
  let Rv:bW [] ((ks.zip ys).take (i+1))=putK (bW [] ((ks.zip ys).take i)) ks[i] ys[i]:=by rw [j,rC]
  let hl:(putK (bW [] ((ks.zip ys).take i)) ks[i] ys[i]).length<=DC:=by
   rw [<-Rv];let h1:=gN ((ks.zip ys).take (i+1)) [];rw [IY,EK] at h1;show EE (show(bW [] ((ks.zip ys).take (i+1))).length<=1000 by omega) cr
  let I3:Inv X pX Y (upd H S (.dK (putK (bW [] ((ks.zip ys).take i)) ks[i] ys[i]))) {s with heap:=m,toks:=s.toks+1}:=jL (s:={s with heap:=L,toks:=s.toks}) (t':=s.toks+1) I2 (by rw [U];show True.intro) sb he (m7 hl A (T.put ks[i] rv) ZT);let kS:∀c o,c≠S->L.get? c=some o->m.get? c=some o:=λc o n e=>(sb.2 c n).trans e;show DT #[VB dN _,?_];let C:∀{c:BK} {o:HO},H c=some o->c≠S->(upd H S (.dK (putK (bW [] ((ks.zip ys).take i)) ks[i] ys[i]))) c=some o:=λ{c o} e n=>by rwa [aj n]
  show ih (i+1) _ _ ce ce I3 (λc J=>?_) (w_.frame kS (Z z fD) (Z TI fD) (Z TO fD) (Z P fD) (Z Q fD)) (C E na) (C G nb) (by rw [Rv,ak]) (λc o n e=>C (α0 c o n e) n) p;let(f0,f1,f2,f3,f4,f5):=M c J;show(by rwa [aj (Z c J)],f1,f2,f3,f4,f5)
def ajl (P:TA):TE:=λY H Q=>P Y H λR Z=>∃(a b:BK)(U:List Key)(S:ε),R=[.ref a,.ref b]/\Z a=some (.lst (U.map kV))/\Z b=some (.lst S)/\U.length<=1000/\
 ∀(l:BK)(T:Hp),aq Z T ->Z l=none->T l=some (.dK (bW [] (U.zip S)))->Q (.ref l) T
def boot_dict:NW "dict"=some (.type "dict"):=by decide+kernel
def ajO {p U p' J:Pos}(hc:X.calm=true)(j:Gl X "dict")(m:X.mg "dict"=none)(hg:Gl X "zip")(hm:X.mg "zip"=none)(ha:PA X [P,S] ta)(hs:HE [P,S] X.env=[(false,EI P X.env),(false,EI S X.env)]:=by rfl)(Lv:HE [S] X.env=[(false,EI S X.env)]:=by rfl)
  (G:HE [(.Call (.Name "zip" p) [P,S] [] U:Expr)] X.env=[(false,EI (.Call (.Name "zip" p) [P,S] [] U) X.env)]:=by rfl):
  PE X (.Call (.Name "dict" p') [.Call (.Name "zip" p) [P,S] [] U] [] J) (ajl ta):=by
 intro pX s Y H Q I h;show Call_ (jG I j m boot_dict (We ?_ G rfl));rw [G];change CB _ _ (spliced ((false,EI (.Call (.Name "zip" p) [P,S] [] U) X.env)::[])) _ _ s;show ZQ ?_;show Call_ (jG I hg hm boot_zip (We (cK (ha U pX s Y H _ I h) λus Z ⟨vs,g,M,c,q1⟩=>?_) (by rw [hs,Lv]) (by rw [Lv];rfl)));let(a,b,ks,ys,e,w,x,k,q):=q1;subst e;cases c with
 | cons r B=>
  cases B with
  | cons r' B=>
   cases B;cases r;cases r';let(z1,BN,n1,c,l1,P):=M.mY w;let(z2,X8,n2,r2,l2,S):=M.mY x;let lt1:a<Z.heap.objs.size:=HF P;let lt2:b<Z.heap.objs.size:=HF S;show call_zip_2 (_,P,O,_,O) (_,S,O,_,O) λT hz ia lQ vM ZF u hk=>Mb ?_;let D:Inv X pX Y g {Z with heap:=T,toks:=Z.toks}:=M.kept (t':=Z.toks) hk;let E:=D.bO.fresh (DH T.objs.size);show aji (s:={Z with heap:=T}) (M.ok.hd hc) hz λh2 f R L Yd hR=>?_;let lt':HL<T.objs.size:=(D.mod.glob.keeps D.bk).lt;let ns:(T.objs.size==Nf)=false:=beq_eq_false_iff_ne.mpr (G' (N8 (uq cr lt')));let I3:Inv X pX Y (upd g T.objs.size (.dK [])) {Z with heap:=h2,toks:=f}:=D.laid (t':=f) L (DH _) (NF _,ns,[],.nil,_,_,_,Yd,(O,O,O),O,λ_ he=>by simp at he,Pairs.nil,ZZ)
   let st:TV h2 (Z.heap.objs.size+4) (Z.heap.objs.size+2) (Z.heap.objs.size+3) Z.heap.objs.size (Z.heap.objs.size+1) a b T.objs.size 0:=
    (.inl (L _ _ hz),L _ _ ia,(_,_,L _ _ lQ),vM.at λo e=>L _ o e,ZF.at λo e=>L _ o e)
   let na:a≠T.objs.size:=ao w E;let nb:b≠T.objs.size:=ao x E;let C:=xD E (.dK []);show af3 (A':=X.A.in1) (H0:=g) (ks:=ks) (ys:=ys) (M.ok.hd hc) ?_ na nb k (min ks.length ys.length) 0 _ _ ce (NF _) I3 (λN qd =>?_) st (C _ _ w) (C _ _ x) ak (λb' o n e=>C _ _ e) λs' H' I' y Vv =>hR s' (.ref T.objs.size,H',I',O,q _ H' (λb' o e=>y b' o (ao e E) e) E Vv)
   ·constructor<;>(intro z;simp only [BK] at*;omega)
   ·let hc2:N=Z.heap.objs.size+4\/N=Z.heap.objs.size+2\/N=Z.heap.objs.size+3\/N=Z.heap.objs.size\/N=Z.heap.objs.size+1:=by simpa using qd
    let hb:Z.heap.objs.size<=N:=by
     simp only [BK] at*;omega
    let i:N≠T.objs.size:=by
     rw [u];simp only [BK] at*;omega
    show M.mS hb ?_;rw [aj i];show M.bO.fresh hb
end
def cY.snoc {K:Frag}(h:cY K H us qs)(n:kH K H v q):cY K H (us++[v]) (qs++[q]):=by
 show#[by simp [h.1],λi u X Z Y=>?_];let l:=h.1;by_cases c:i<us.length
 ·rw [NG c] at Z
  rw [NG ce] at Y;show h.2 i u X Z Y
 ·rw [NQ ce] at Z Y
  by_cases z:i-us.length=0
  ·rw [z] at Z
   rw [show i-qs.length=0 by omega] at Y;cases Z;cases Y;show n
  ·rw [IM (by simp;omega)] at Z
   cases Z
theorem cY.aQ {K:Frag}(h:cY K H us qs)(s:bg H H'):cY K H' us qs:=#[h.1,λi u q Y Z=>(h.2 i u q Y Z).aQ s]
variable {X:Cx}
section
variable {X:Cx}{pX:ζ}{Y:L2.St}{H:Hp}{s:DI}
inductive L_ (R:(It->Hp->Prop))(x:V)(Z:Hp):Prop
|mk (d AP:_)(_:x=.ref d)(_:Z d=some (.dK AP))(_:∀o,R (Itv d o AP) (upd Z d (.eR o (.dK AP))))
def ajb (Z:TE):TI:=λY H R=>Z Y H λx U=>L_ R x U
def ahj {U D:Pos}{B:Expr}(f:PE X e te)(k:VC e "values" X.env (EI e X.env)=EI e X.env:=by rfl)(m:(U.endLine==D.line)=true:=by rfl):
  PI X B (.Call (.Attribute e "values" U) [] [] D) (ajb te):=by
 intro pX s Y H R I h;show MA k m (cK (f pX s Y H _ I h) λv Z ⟨x,H1,L,u,p⟩=>?_);let(d,P,rfl,e,q):=p;cases u;let(G,h2,hd):=um L (.inl #[P,.inl e]);let(z,PX,S,N,o,ZR,Q,C,i,J,a,g,c):=km L.bO e;let E:Z.heap.DictAt (bF X.prog X.w) d S Q:=(o,ZR,C,i,J,a,g,c);let j:=N.length;let T:=Inv.freeze L e C;show("dict","dict.values",MX,Mc,F.type_dict_values,G,h2,Wg rfl (LX ?_));show Vd Mc G F.entry_dict_values (F.args_dict_values_1 _) (meets_dict_values (bF X.prog X.w) d hd) #[#[S,E.dictOf],?_];let M:(Z.heap.push {cls:=.type "dict_values",data:=.fields (List.toArray [.ref d])}).DictAt (bF X.prog X.w) d S Q:=E.at' λo e=>GY _ e;change CB (CL X.prog X.w) X.A (pyIter (.ref Z.heap.objs.size)) _ _ _;show wpAny_pyIter_values (s:={Z with heap:=Z.heap.push {cls:=.type "dict_values",data:=.fields (List.toArray [.ref d])}}) (_,JO _ rfl,O,O) M ?_;let y:(Z.heap.push {cls:=.type "dict_values",data:=.fields (List.toArray [.ref d])}).objs.size=Z.heap.objs.size+1:=Pk ..;let I3:Inv X pX Y (upd H1 d (.eR o (.dK P))) {Z with heap:=(Z.heap.push {cls:=.type "dict_values",data:=.fields (List.toArray [.ref d])}).push {cls:=.type "dict_valueiterator",data:=.fields (List.toArray [.ref d,.int 0 0,.int S.length 0,.int Q 0])}}:=T.kept (t':=Z.toks) λb o e=>GY _ (GY _ e);show(_,[_],_,_,_,O,I3,ack d _ o P J,(show Heap.IsValIter _ _ d 0 P.length Q from (_,JO _ rfl,O,by rw [j];rfl)),λb hb=>?_,q o);let eb:b=(Z.heap.push {cls:=.type "dict_values",data:=.fields (List.toArray [.ref d])}).objs.size:=by simpa using hb
 let le:Z.heap.objs.size<=b:=by rw [eb,y];show vn _
 show T.mS le (T.bO.fresh le)
def abd {K:Frag}(h:X.K=K):kc X (NR .In) (rIn K false):=by subst h;show xh
end
theorem bg.ks (Z:H D=some (.lst ys))(ks:bM D H H'):bg H H':=λb xs r=>by
 rcases r with r|⟨Y,r⟩
 ·show .inl (ks _ _ (λe=>by erw [e,Z] at r) r)
 ·show .inr #[Y,ks _ _ (λe=>by erw [e,Z] at r) r]
section
variable {X:Cx}{K:Frag}
inductive adT (K:Frag)(x:V)(y:V)(H:Hp)(Q:VK):Prop
|mk (p xs i v:_)(_:x=.ref p)(_:y=.int i)(_:aT K H p xs\/bL K H p xs)(_:hW xs i=some v)(_:Q v H)
def Ma:XY X (adT X.K):=by
 intro Z U P s Y H x y v u Q I R S h N;let(p,xs,i,z,J,L,T,M,q):=h
 rcases T with T|T
 ·show aU Z U P s Y H x y v u Q I R S (p,xs,i,z,J,L,T,M,q) N
 ·show mX Z U P s Y H x y v u Q I R S (p,xs,i,z,J,L,T,M,q) N
inductive DE (Q:VK)(x:V)(Z:Hp):Prop
|mk (d AP:_)(_:x=.ref d)(_:Z d=some (.dK AP))(_:Q .cW (upd Z d (.dK [])))
def agO (Z:TE):TE:=λY H Q=>Z Y H λx U=>DE Q x U
def zab {Z U:Pos}(L:PE X e te)(M:VC e "clear" X.env (EI e X.env)=EI e X.env:=by rfl)(N:(Z.endLine==U.line)=true:=by rfl):
  PE X (.Call (.Attribute e "clear" Z) [] [] U) (agO te):=by
 intro P s Y H Q I h;show MA M N (cK (L P s Y H _ I h) λv C ⟨x,z,T,S,R⟩=>?_);let(d,D,rfl,e,q):=R;cases S;let(G,J,A):=um T (.inl #[D,.inl e]);show("dict","dict.clear",MX,F.slot_dict_clear,F.type_dict_clear,G,J,Wg rfl (LX ?_));show adt T e λB E=>(.cW,_,E,O,q)
end
section
variable {D:BK}{te:TE}{pS:L2.St}{H1:Hp}{Q:VK}
def uE {K:Frag}(J:List V->Hp->Prop)(P:H1 D=none)(E:xs.length<DC)(T:∀H,aq H1 H->aT K H a xs)(G:J [] (upd H1 D (.lst [])))
  (L:∀(i:Nat) x ys H (R:VK),xs[i]?=some x->ys.length=i->J ys H->aq H1 H->H D=some (.lst ys)->(∀v Z,aq H Z->J (ys++[v]) (upd Z D (.lst (ys++[v])))->R v Z)->te (some x::pS) H R)
  (I:∀ys H,ys.length=xs.length->J ys H->aq H1 H->H D=some (.lst ys)->Q (.ref D) H):
  mm D (cE 0) kz te (TN K a) (none::pS) H1 Q:=by
 show yl xs.length (λi=>(xs[i]?).getD .cW) (λi ys H=>ys.length=i/\J ys H/\aq H1 H) (O,G,λb o e=>by rwa [aj (ao e P)]) ?_ ?_ ?_ ?_
 ·rintro i ys H U ⟨_,_,s⟩
  show#[(xs,xs[i],T H s,gE U),λx C y=>#[y.1,by rw [y.2 xs (T H s)];rfl]]
 ·rintro ys H ⟨_,_,s⟩
  show(xs,T H s,DH _)
 ·rintro i ys H R U ⟨l,j,s⟩ Y k
  let e:xs[i]?=some xs[i]:=gE U;let N:=L i _ ys H R e l j s Y λv Z S M=>k v Z (S _ _ Y) ce (by simp [l],M,λb o e=>by rw [aj (ao e P)];show S _ _ (s _ _ e));rw [<-(show(xs[i]?).getD .cW=xs[i] by rw [e];rfl)] at N;show N
 ·rintro ys H ⟨l,j,s⟩ Y
  show I ys H l j s Y
end
end Ty
namespace Ty
theorem xE {Z:Type}[DecidableEq Z]:∀{l m:List Z},l.Nodup->(∀x∈l,x∈m)->l.length<=m.length
 | [],_,_,_=>NF _
 | x::l,m,h,k=>by
  let(T,U):=Nk.mp h;let Y:=k x IU;have:=xE (l:=l) (m:=m.erase x) U λy X=>(List.mem_erase_of_ne (λz:y=x=>T (by rwa [<-z]))).mpr (k y (IH _ X));rw [List.length_erase_of_mem Y] at this;let p:=List.length_pos_of_mem Y;change l.length+1<=m.length;omega
def box (B:Nat):Nat->List (List Int)
 | 0=>[[]]
 | n+1=>(box B n).flatMap λy=>(JJ (B+1)).map λ(a:Nat)=>(a:Int)::y
theorem ahF {Z:Type}(c:Nat):∀l:List Z,(l.map λ_=>c).sum=l.length*c
 | []=>by simp
 | _::l=>by
  rw [ED,N7,ahF c l,NX,Rf];omega
theorem yz (B:Nat):∀n,(box B n).length=(B+1)^n
 | 0=>rfl
 | n+1=>by
  let Z:=yz B n;unfold box;rw [List.length_flatMap];have:((box B n).map λy=>((JJ (B+1)).map λ(a:Nat)=>(a:Int)::y).length)=(box B n).map λ_=>B+1:=N3 λy _=>by rw [be,RG]
  rw [this,ahF,Z,α2]
theorem xF (B:Nat):∀n,(box B n).Nodup
 | 0=>by simp [box]
 | n+1=>by
  let Y:=xF B n;unfold box;unfold DF at Y ⊢;rw [List.pairwise_flatMap];show#[λy _=>?_,Y.imp λ{S T} Z x U z X e=>?_]
  ·rw [K']
   show ale.imp λ{a b} Z e=>Z (by injection e with e _;show Int.ofNat.inj e)
  ·let(a,_,rfl):=DA.mp U
   let(b,_,rfl):=DA.mp X;injection e with _ e
   show Z e
theorem lW :∀{n:Nat} {y:ξ},y∈box B n ↔ y.length=n/\∀a∈y,0<=a/\a<=(B:Int)
 | 0,y=>by
  unfold box;rw [HU];constructor
  ·intro e
   rw [e];show#[O,λa h=>nomatch h]
  ·intro h
   show ajH.mp h.1
 | n+1,y=>by
  unfold box;rw [Rj];constructor
  ·rintro ⟨z,hz,T⟩
   let(a,U,rfl):=DA.mp T;let(Z,Y):=(lW (n:=n)).mp hz;have:=QX.mp U;show#[by simp [Z],λb X=>?_]
   rcases JP.mp X with e|e
   ·rw [e]
    omega
   ·show Y b e
  ·rintro ⟨Z,Y⟩
   match y,Z with
   | a::z,Z=>
    let U:=Y a IU;show(z,(lW (n:=n)).mpr #[by simpa using Z,λb X=>Y b (IH _ X)],DA.mpr (a.toNat,QX.mpr (show a.toNat<B+1 by omega),?_));rw [show((a.toNat:Nat):Int)=a by omega]
def jy:List Int->List Int->Int
 | a::e,b::y=>a*b+jy e y
 | _,_=>0
theorem ake:∀(e:ξ) {y z:ξ},y.length=z.length->jy e (QG (λa b=>a-b) y z)=jy e y-jy e z
 | [],y,z,h=>by simp [jy]
 | a::e,[],[],h=>by simp [jy]
 | a::e,b::y,c::z,h=>by
  let Z:=ake e (y:=y) (z:=z) (by simpa using h);rw [ajR];simp only [jy];rw [Z,Int.mul_sub];omega
theorem ahC :∀{e y:ξ},(∀a∈e,a.natAbs<=A)->(∀b∈y,b.natAbs<=B)->(jy e y).natAbs<=e.length*(A*B)
 | [],y,_,_=>by simp [jy]
 | a::e,[],_,_=>by simp [jy]
 | a::e,b::y,X,Y=>by
  let U:=ahC (e:=e) (y:=y) (λx Z=>X x (IH _ Z)) λx Z=>Y x (IH _ Z);simp only [jy]
  let m:(a*b).natAbs<=A*B:=by
   rw [VH];show U_ (X a IU) (Y b IU)
  let t:=yT (a*b) (jy e y);rw [NX,Rf,LI];omega
def Ry {eqs:θ}(k:eqs.length<n)(f:1<=A)(J:∀e∈eqs,e.length=n/\∀a∈e,a.natAbs<=A):∃z:List Int,z.length=n/\(∃a∈z,a≠0)/\(∀a∈z,a.natAbs<=(2*n*A)^eqs.length)/\∀e∈eqs,jy e z=0:=by
 generalize H:2*n*A=C;generalize g:C^eqs.length=B
 let c1:1<=C:=by
  rw [<-H];show U_ (show 1<=2*n by omega) f
 generalize I:n*(A*B)=M
 let R:¬ ∀y∈box B n,∀z∈box B n,(eqs.map λe=>jy e y+(M:Int))=(eqs.map λe=>jy e z+(M:Int))->y=z:=by
  intro inj
  let G:((box B n).map λy=>eqs.map λe=>jy e y+(M:Int)).Nodup:=by
   unfold DF;rw [K'];show ajE (λ{y z} U Q S e=>S (inj y U z Q e)) (xF B n)
  let le:=xE G (m:=box (2*M) eqs.length) λx o=>by
   let(y,U,rfl):=DA.mp o;let(E,Y):=lW.mp U;show lW.mpr #[by simp,λa T=>?_];let(e,Z,rfl):=DA.mp T
   let b1:=ahC (A:=A) (B:=B) (J e Z).2 (y:=y) λb j=>by
    have:=Y b j
    omega
   rw [(J e Z).1,I] at b1;omega
  rw [be,yz,yz] at le
  let P:2*M+1<=C*(B+1):=by
   let e3:2*M=C*B:=by rw [<-I,<-H,<-Nat.mul_assoc,<-Nat.mul_assoc]
   rw [e3,Nat.mul_add];omega
  let e2:(2*M+1)^eqs.length<=B*(B+1)^eqs.length:=by
   have:=ajs P eqs.length;rwa [Nat.mul_pow,g] at this
  let e4:(B+1)^(eqs.length+1)<=(B+1)^n:=Pd ce k
  let e5:B*(B+1)^eqs.length<(B+1)^(eqs.length+1):=by
   rw [α2,vU ((B+1)^eqs.length)];show Nat.mul_lt_mul_of_pos_right (QW B) (Nat.pow_pos ce)
  omega
 let(y,p):=aj6.mp R;let(U,u):=ajD.mp p;let(z,w):=aj6.mp u;let(Q,D):=ajD.mp w;let(ee,S):=ajD.mp D;let(E,Y):=lW.mp U;let(lz,bz):=lW.mp Q;let N:y.length=z.length:=ce
 show(QG (λa b=>a-b) y z,by rw [List.length_zipWith];omega,?_,?_,λe Z=>?_)
 ·apply σ2
  intro h;show S (List.ext_getElem N λi h1 c=>?_);let h':∀a∈QG (λa b=>a-b) y z,a=0:=λa T=>σ2 λq=>h (a,T,q)
  let m:y[i]-z[i]∈QG (λa b=>a-b) y z:=by
   show Wp (i:=i) ?_;rw [yg,gE h1,gE c]
  have:=h' _ m;omega
 ·intro a T
  let(i,X):=JG T;rw [yg] at X
  let L:i<y.length:=by
   apply σ2;intro q;erw [IM ce] at X
  rw [gE L,gE (show i<z.length by omega)] at X;let ea:y[i]-z[i]=a:=JB X;let q1:=Y _ (RC L)
  let q2:=bz _ (RC (show i<z.length by omega));omega
 ·rw [ake e N]
  let(i,X):=JG Z;let P:=pU (λl:List Int=>l[i]?) ee;simp only [CP,X,ZY,Option.some.injEq] at P;omega
def col (l:ξ)(j:Nat):Rat:=((l.getD j 0:Int):Rat)
inductive dO (A:θ):(Nat->Rat)->Prop
 | zero:dO A (λ_=>0)
 | put {f:Nat->Rat} (c:Rat) {a:ξ} (h:a∈A) (Z:dO A f):dO A (λj=>f j+c*col a j)
def dO.congr (h:dO A f)(e:∀j,f j=g j):dO A g:=(funext e:f=g)▸h
def dO.add (X:dO A f)(Y:dO A g):dO A (λj=>f j+g j):=by
 induction Y with
 | zero=>show X.congr λj=>by grind
 | put c h _ Z=>show(dO.put c h Z).congr λj=>by grind
def dO.mul (k:Rat)(Y:dO A f):dO A (λj=>k*f j):=by
 induction Y with
 | zero=>show dO.zero.congr λj=>by grind
 | put c h _ Z=>show(dO.put (k*c) h Z).congr λj=>by grind
def dO.mem (h:a∈A):dO A (col a):=(dO.put 1 h dO.zero).congr λj=>by grind
def dO.trans (Y:dO A f)(h:∀a∈A,dO B (col a)):dO B f:=by
 induction Y with
 | zero=>show dO.zero
 | put c X _ Z=>show Z.add ((h _ X).mul c)
def dO.mono (Z:dO A f)(h:∀a∈A,a∈B):dO B f:=Z.trans λa Y=>dO.mem (h a Y)
def dO.first {l:ξ}{A:θ}(X:dO (l::A) f):∃a:Rat,dO A (λj=>f j-a*col l j):=by
 induction X with
 | zero=>show#[0,dO.zero.congr λj=>by grind]
 | put c h _ Y=>
  let(a,Z):=Y
  rcases JP.mp h with e|e
  ·subst e
   show#[a+c,Z.congr λj=>by grind]
  ·show#[a,(dO.put c e Z).congr λj=>by grind]
def dO.last (Z:dO (A++[l]) f):∃a:Rat,dO A (λj=>f j-a*col l j):=dO.first (Z.mono λa Y=>by
 rcases HZ.mp Y with z|z
 ·show IH _ z
 ·rw [HU.mp z]
  show IU)
def dO.van (Y:dO A f)(h:∀a∈A,col a c=0):f c=0:=by
 induction Y with
 | zero=>rfl
 | put k X _ Z=>
  dsimp only;rw [Z,h _ X];grind
structure PZ (nd:ρ):Prop where
 nn:(nd.map (·.1)).Nodup
 here:∀x∈nd,x.2.getD x.1 0≠0
 off:∀x∈nd,∀y∈nd,x.1≠y.1->x.2.getD y.1 0=0
theorem PZ.zero:∀{U:ρ} {f:Nat->Rat},PZ U->dO (U.map (·.2)) f->(∀x∈U,f x.1=0)->∀j,f j=0
 | [],f,_,T,_=>λj=>by
  have:∀{g:Nat->Rat},dO [] g->g j=0:=λ{g} h=>h.van λa X=>nomatch X;show this T
 | x::r,f,P,T,Y=>by
  let(a,X):=dO.first T;let S:=Nk.mp P.nn
  let v:f x.1-a*col x.2 x.1=0:=X.van (c:=x.1) λb R=>by
   let(y,Z,rfl):=DA.mp R;unfold col;rw [P.off y (IH _ Z) x IU (λz=>S.1 (by change x.1∈_;rw [<-z];show DA.mpr (y,Z,O)))];rfl
  rw [Y x IU] at v;let M:col x.2 x.1≠0:=dF (P.here x IU);let Q:a=0:=by grind
  subst Q;let N:PZ r:=(S.2,λy Z=>P.here y (IH _ Z),λy Z z Y=>P.off y (IH _ Z) z (IH _ Y));show PZ.zero N (X.congr (g:=f) λj=>by grind) λy Z=>Y y (IH _ Z)
def PZ.one (P:PZ Z)(U:dO (Z.map (·.2)) f)(Y:x∈Z)(hz:∀y∈Z,y.1≠x.1->f y.1=0):∃a:Rat,∀j,f j=a*col x.2 j:=by
 let T:col x.2 x.1≠0:=dF (P.here x Y);show#[f x.1 / col x.2 x.1,λj=>?_];let g:dO (Z.map (·.2)) λj=>f j+ -(f x.1 / col x.2 x.1)*col x.2 j:=dO.put _ (DA.mpr (x,Y,O)) U
 have:=P.zero g (λy X=>by
  by_cases c:y.1=x.1
  ·rw [c]
   grind
  ·rw [hz y X c]
   have:col x.2 y.1=0:=by
    unfold col;rw [P.off x Y y X (G' c)];rfl
   rw [this]
   grind) j
 grind
def mI:List Int->List (List Int)->Nat->Int
 | z::zs,a::A,j=>z*a.getD j 0+mI zs A j
 | _,_,_=>0
theorem oI:∀(zs:ξ)(A:θ),dO A (λj=>((mI zs A j:Int):Rat))
 | [],A=>dO.zero.congr λj=>by simp [mI]
 | _::_,[]=>dO.zero.congr λj=>by simp [mI]
 | z::zs,a::A=>by
  let Z:=(oI zs A).mono (B:=a::A) λb Y=>IH _ Y;show(dO.put (z:Rat) (IU) Z).congr λj=>?_;simp only [mI,col];push_cast;grind
theorem yA (c:Nat):∀(zs:ξ)(A:θ),jy (A.map λa=>a.getD c 0) zs=mI zs A c
 | [],A=>by cases A<;>simp [mI,jy]
 | _::_,[]=>by simp [mI,jy]
 | z::zs,a::A=>by
  simp only [ED,jy,mI];rw [yA c zs A,VF]
theorem IJ (j:Nat):∀{zs:ξ} {A:θ},(∀z∈zs,z.natAbs<=α)->(∀a∈A,(a.getD j 0).natAbs<=E)->(mI zs A j).natAbs<=A.length*(α*E)
 | [],A,_,_=>by simp [mI]
 | _::_,[],_,_=>by simp [mI]
 | z::zs,a::A,X,Y=>by
  let U:=IJ j (zs:=zs) (A:=A) (λx Z=>X x (IH _ Z)) λx Z=>Y x (IH _ Z);simp only [mI]
  let m:(z*a.getD j 0).natAbs<=α*E:=by
   rw [VH];show U_ (X z IU) (Y a IU)
  let t:=yT (z*a.getD j 0) (mI zs A j);rw [NX,Rf,LI];omega
theorem uF (j:Nat):∀{zs:ξ} {A:θ} (z:Int) (a:ξ),zs.length=A.length->mI (zs++[z]) (A++[a]) j=mI zs A j+z*a.getD j 0
 | [],[],z,a,_=>by simp [mI]
 | y::zs,b::A,z,a,h=>by
  let Z:=uF j (zs:=zs) (A:=A) z a (by simpa using h);simp only [yX,mI];rw [Z];omega
def Prm (l:ξ):Prop:=∀d:Int,(∀j,d ∣ l.getD j 0)->d.natAbs=1
def Rz (p:Prm l){v:Nat->Int}(T:a≠0)(h:∀j,((v j:Int):Rat)=a*col l j)(j:Nat):(l.getD j 0).natAbs<=(v j).natAbs:=by
 let e:∀j,v j*(a.den:Int)=a.num*l.getD j 0:=λj=>by
  let Z:=h j
  let Y:a=(a.num:Rat) / ((a.den:Int):Rat):=by
   rw [<-akC];show(akd a).symm
  let U:((a.den:Int):Rat)≠0:=dF (by have:=a.den_pos;omega);rw [Y] at Z;unfold col at Z
  let S:((v j*(a.den:Int):Int):Rat)=((a.num*l.getD j 0:Int):Rat):=by
   rw [V0,V0];generalize ((a.den:Int):Rat)=D at U Z;grind
  show wo.mp S
 let R:∀j,(a.den:Int) ∣ l.getD j 0:=λj=>by
  let Z:a.den ∣ a.num.natAbs*(l.getD j 0).natAbs:=by
   rw [<-VH,<-e j,VH];show#[(v j).natAbs,by rw [vU];rfl]
  let Y:=Nat.Coprime.dvd_of_dvd_mul_left (Nat.Coprime.symm a.reduced) Z;show Q8.mp (by simpa using Y)
 let Q:a.den=1:=by simpa using p _ R
 let X:=e j;rw [Q] at X;let P:a.num≠0:=λz=>T (Rat.num_eq_zero.mp z);have:v j=a.num*l.getD j 0:=by simpa using X
 rw [this,VH];show Nat.le_mul_of_pos_left _ ce
def adv (p:Prm l):¬ ∀j,l.getD j 0=0:=λh=>by
 have:=p 0 λj=>by rw [h j];show Int.dvd_refl 0
 simp at this
structure P0 (os:θ)(nd:ρ)(lv ps qs:θ):Prop where
 po:∀p∈ps,p∈os
 qo:∀q∈qs,q∈os
 lp:ps.length=nd.length
 lq:qs.length=lv.length
 s1:∀x∈nd,dO ps (col x.2)
 s2:∀p∈ps,dO (nd.map (·.2)) (col p)
 s3:∀(i:Nat)(l q:ξ),lv[i]?=some l->qs[i]?=some q->dO (ps++[q]) (col l)/\dO (nd.map (·.2)++[l]) (col q)
 ind:∀zs:List Int,zs.length=ps.length->(∀j,mI zs ps j=0)->∀a∈zs,a=0
def P0.start (os:θ):P0 os [] os [] os:=by
 show(by simp,λq X=>X,O,O,by simp,by simp,λi l q U Y=>?_,λT h _ a Z=>?_)
 ·rw [U] at Y
  cases Y;show#[dO.mem fD,dO.mem fD]
 ·rw [ajH.mp h] at Z
  cases Z
def PZ.cols (P:PZ Z)(X:dO (Z.map (·.2)) (col l))(hz:∀x∈Z,l.getD x.1 0=0):∀j,l.getD j 0=0:=λj=>by
 have:=P.zero X (λx Y=>by unfold col;rw [hz x Y];rfl) j;unfold col at this;show wo.mp (this.trans (by rfl))
def akc {A:θ}(X:∀a∈A,∀j,(a.getD j 0).natAbs<=2^b):(A.map λa=>a.getD c 0).length=A.length/\∀x∈A.map (λa=>a.getD c 0),x.natAbs<=2^b:=by
 show#[by simp,λx Z=>?_];let(a,Y,rfl):=DA.mp Z;show X a Y c
def P0.left (Z:P0 os Y lv ps qs)(P:PZ Y){i b:Nat}{l:ξ}(e:lv[i]?=some l)(hz:∀x∈Y,l.getD x.1 0=0)(H:∀o∈os,∀j,(o.getD j 0).natAbs<=2^b)(L:Prm l)(j:Nat):(l.getD j 0).natAbs<=(Y.length+1)*((2*(Y.length+1)*2^b)^Y.length*2^b):=by
 let hi:i<qs.length:=by
  rw [Z.lq];show(ir.mp e).1
 obtain ⟨q,D⟩:∃q,qs[i]?=some q:=#[_,gE hi];let(p,u):=Z.s3 i l q e D
 let G:∀a∈ps++[q],∀j,(a.getD j 0).natAbs<=2^b:=λa U=>by
  rcases HZ.mp U with z|z
  ·show H a (Z.po a z)
  ·rw [HU.mp z]
   show H q (Z.qo q (Wp D))
 let I:(ps++[q]).length=Y.length+1:=by simp [Z.lp]
 let(zs,R,nz,C,m):=Ry (n:=Y.length+1) (A:=2^b) (eqs:=Y.map λx=>(ps++[q]).map λa=>a.getD x.1 0) fD (Mp) λy Q=>by
  let(x,T,rfl):=DA.mp Q;rw [<-I];show akc G
 rw [be] at C
 let w:∀x∈Y,mI zs (ps++[q]) x.1=0:=λx T=>by
  rw [<-yA];show m _ (DA.mpr (x,T,O))
 let g:dO (Y.map (·.2)++[l]) λj=>((mI zs (ps++[q]) j:Int):Rat):=(oI zs (ps++[q])).trans λa U=>by
  rcases HZ.mp U with z|z
  ·show(Z.s2 a z).mono λy Q=>Ny _ Q
  ·rw [HU.mp z]
   show u
 let(a,U):=dO.last g
 let E:=P.zero U λx T=>by
  rw [w x T];unfold col;rw [hz x T];change ((0:Int):Rat)-a*((0:Int):Rat)=0;grind
 by_cases c:a=0
 ·exfalso
  subst c
  let B:∀j,mI zs (ps++[q]) j=0:=λj=>by
   have:=E j;let h:((mI zs (ps++[q]) j:Int):Rat)=((0:Int):Rat):=by grind
   show wo.mp h
  obtain ⟨X,z,rfl⟩:∃X z,zs=X ++[z]:=by
   rcases aj0 zs with h|⟨X,z,h⟩
   ·rw [h] at R
    simp at R
   ·show(X,z,by rw [h,aj1])
  let S:X.length=ps.length:=by
   rw [Z.lp];simpa using R
  let M:∀j,mI X ps j+z*q.getD j 0=0:=λj=>by
   rw [<-uF j z q S];show B j
  by_cases N:z=0
  ·subst N
   let(x,T,J):=nz;let all:=Z.ind X S λj=>by simpa using M j
   rcases HZ.mp T with h|h
   ·show J (all x h)
   ·show J (HU.mp h)
  ·let f:dO ps (col q):=((oI X ps).mul (-1 / (z:Rat))).congr λj=>by
    let k:((mI X ps j+z*q.getD j 0:Int):Rat)=((0:Int):Rat):=by rw [M j]
    rw [alu,V0] at k;let zr:(z:Rat)≠0:=dF N;unfold col;grind
   let hl:dO ps (col l):=p.trans λa U=>by
    rcases HZ.mp U with h|h
    ·show dO.mem h
    ·rw [HU.mp h]
     show f
   show adv L (P.cols (hl.trans Z.s2) hz)
 ·let le:=Rz L c (v:=λj=>mI zs (ps++[q]) j) (λj=>by have:=E j;grind) j
  show EE le ?_;have:=IJ j (zs:=zs) (A:=ps++[q]) C λa U=>G a U j;rwa [I] at this
def P0.need (Z:P0 os Y lv ps qs)(P:PZ Y)(S:x∈Y)(G:∀o∈os,∀j,(o.getD j 0).natAbs<=2^b)(L:Prm x.2)(j:Nat):(x.2.getD j 0).natAbs<=(Y.length+1)*((2*(Y.length+1)*2^b)^Y.length*2^b):=by
 let R:∀a∈ps,∀j,(a.getD j 0).natAbs<=2^b:=λa U=>G a (Z.po a U)
 let D:(Y.filter λy=>decide (y.1≠x.1)).length<Y.length:=by
  let E:(Y.filter λy=>decide (y.1≠x.1)).length<=Y.length:=Mz ..
  rcases Nat.lt_or_eq_of_le E with h|h
  ·show h
  ·have:=List.length_filter_eq_length_iff.mp h x S
   simp at this
 let(zs,I,nz,Q,M):=Ry (n:=Y.length) (A:=2^b) (eqs:=(Y.filter λy=>decide (y.1≠x.1)).map λy=>ps.map λa=>a.getD y.1 0) (by rwa [be]) (Mp) λy X=>by
  let(z,C,rfl):=DA.mp X;rw [<-Z.lp];show akc R
 rw [be] at Q
 let N:∀y∈Y,y.1≠x.1->mI zs ps y.1=0:=λy X T=>by
  rw [<-yA];show M _ (DA.mpr (y,σ'.mpr #[X,by simpa using T],O))
 let H:dO (Y.map (·.2)) λj=>((mI zs ps j:Int):Rat):=(oI zs ps).trans Z.s2
 let(a,U):=P.one H S λy X T=>by
  rw [N y X T];rfl
 let c:a≠0:=λz=>by
  subst z;let(y,X,J):=nz;show J (Z.ind zs (by rw [I,Z.lp]) (λj=>?_) y X)
  let h:((mI zs ps j:Int):Rat)=((0:Int):Rat):=by
   rw [U j];change 0*col x.2 j=0;grind
  show wo.mp h
 let le:=Rz L c (v:=λj=>mI zs ps j) U j;show EE le ?_;have:=IJ j (zs:=zs) (A:=ps) Q λa U=>R a U j;rw [Z.lp] at this;show EE this (U_ ce (U_ ?_ (DH _)));show EE (ajs (Q3 _ (show 2*Y.length<=2*(Y.length+1) by omega)) _) ?_;show Pd (Nat.mul_pos ce (ajX _)) ce
def aja (U:s+1<=1024):(s+1)*((2*(s+1)*2^b)^s*2^b)<=2^((s+1)*(b+11)):=by
 let X:2*(s+1)*2^b<=2^(b+11):=by
  have:2*(s+1)<=2^11:=by
   change 2*(s+1)<=2048;omega
  rw [α1,vU (2^b)];show Q3 _ this
 let Y:(2*(s+1)*2^b)^s<=2^((b+11)*s):=by
  rw [Nat.pow_mul];show ajs X s
 let Z:s+1<=2^11:=by
  change s+1<=2048;omega
 let e:(s+1)*(b+11)=11+((b+11)*s+b):=by
  rw [Rf,LI,vU s];omega
 rw [e,α1,α1];show U_ Z (Q3 _ Y)
def ahB (k:vN line CJ new c)(X:dO B (col line))(Y:dO B (col CJ)):dO B (col new):=by
 let(s,t,u,Z,S,e):=k.TU;let T:=dF Z;show((X.mul ((t:Rat) / s)).add (Y.mul (-(u:Rat) / s))).congr λj=>?_;let U:((s*new.getD j 0:Int):Rat)=((t*line.getD j 0-u*CJ.getD j 0:Int):Rat):=by rw [e j]
 rw [V0,alv,V0,V0] at U;unfold col;grind
def ahA (k:vN line CJ new c)(X:dO B (col new))(Y:dO B (col CJ)):dO B (col line):=by
 let(s,t,u,S,Z,e):=k.TU;let T:=dF Z;show((X.mul ((s:Rat) / t)).add (Y.mul ((u:Rat) / t))).congr λj=>?_;let U:((s*new.getD j 0:Int):Rat)=((t*line.getD j 0-u*CJ.getD j 0:Int):Rat):=by rw [e j]
 rw [V0,alv,V0,V0] at U;unfold col;grind
def P0.step {S N :ρ}{Q IK ps qs:θ}{X:ξ}{j c:Nat}(Z:P0 os S Q ps qs)(P:PZ S)(ej:Q[j]?=some X)(hz:∀x∈S,X.getD x.1 0=0)(hc:X.getD c 0≠0)
  (lL:IK.length=(Q.eraseIdx j).length) (ML:∀(i:Nat)(x:ξ),(Q.eraseIdx j)[i]?=some x->∃y,IK[i]?=some y/\vN x X y c) (lN:N.length=S.length) (MN:∀(i:Nat)(x:ξ),(S.map (·.2))[i]?=some x->∃y,(N.map (·.2))[i]?=some y/\vN x X y c):∃D RB,P0 os (N ++[(c,X)]) IK D RB :=by
 let hj:j<Q.length:=(ir.mp ej).1;obtain ⟨q,eq⟩:∃q,qs[j]?=some q:=#[_,gE (by rwa [Z.lq])];let(H,t2):=Z.s3 j X q ej eq;let C:X∈(N ++[(c,X)]).map (·.2):=by simp
 let R:∀x∈S.map (·.2),dO ((N ++[(c,X)]).map (·.2)) (col x):=λx o=>by
  let(i,E):=JG o;let(y,ey,k):=MN i x E;show ahA k (dO.mem ?_) (dO.mem C);rw [II];show Ny _ (Wp ey)
 let m:∀y∈N.map (·.2),∃x∈S.map (·.2),vN x X y c:=λy w=>by
  let(i,E):=JG w;let hi:=(ir.mp E).1;rw [be] at hi;obtain ⟨x,T⟩:∃x,(S.map (·.2))[i]?=some x:=#[_,gE (by rw [be];omega)];let(y',g,k):=MN i x T;erw [E] at g;show(x,Wp T,k)
 let up:∀{f:Nat->Rat},dO ps f->dO (ps++[q]) f:=λh=>h.mono λa Y=>Ny _ Y;show(ps++[q],qs.eraseIdx j,λp L=>?_,λp L=>Z.qo p (QQ L),by simp [Z.lp,lN],?_,λx o=>?_,λp L=>?_,λi l' q' e1 J=>?_,λzs B A a Y=>?_)
 ·rcases HZ.mp L with z|z
  ·show Z.po p z
  ·rw [HU.mp z]
   show Z.qo q (Wp eq)
 ·rw [lL,Zm,Zm,Z.lq]
 ·rcases HZ.mp o with z|z
  ·let(y,w,k):=m x.2 (DA.mpr (x,z,O))
   let(x0,u,rfl):=DA.mp w;show ahB k (up (Z.s1 x0 u)) H
  ·rw [HU.mp z]
   show H
 ·rcases HZ.mp L with z|z
  ·show(Z.s2 p z).trans R
  ·rw [HU.mp z]
   show t2.trans λa Y=>?_
   rcases HZ.mp Y with h|h
   ·show R a h
   ·rw [HU.mp h]
    show dO.mem C
 ·let hi:=(ir.mp e1).1
  obtain ⟨x,T⟩:∃x,(Q.eraseIdx j)[i]?=some x:=#[_,gE ce];let(y',g,k):=ML i x T;erw [e1] at g
  obtain ⟨G,f1,f2⟩:∃G,Q[G]?=some x/\qs[G]?=some q':=by
   rw [yi] at T J;by_cases h:i<j
   ·rw [ox h] at T J
    show(_,T,J)
   ·rw [mQ h] at T J
    show(_,T,J)
  let(u1,u2):=Z.s3 G x q' f1 f2;constructor
  ·show ahB k (u1.mono λa Y=>?_) (H.mono λa Y=>Ny _ Y)
   rcases HZ.mp Y with h|h
   ·show Ny _ (Ny _ h)
   ·show QP _ h
  ·show u2.trans λa Y=>?_
   rcases HZ.mp Y with h|h
   ·show(R a h).mono λb hb=>Ny _ hb
   ·rw [HU.mp h]
    show ahA k (dO.mem fD) (dO.mem (Ny _ C))
 ·obtain ⟨U,z,rfl⟩:∃U z,zs=U ++[z]:=by
   rcases aj0 zs with h|⟨U,z,h⟩
   ·rw [h] at B
    simp at B
   ·show(U,z,by rw [h,aj1])
  let M:U.length=ps.length:=by simpa using B
  let sp:∀j,mI U ps j+z*q.getD j 0=0:=λj=>by
   rw [<-uF j z q M];show A j
  let I:z=0:=by
   apply σ2;intro I
   let hq:dO ps (col q):=((oI U ps).mul (-1 / (z:Rat))).congr λj=>by
    let s':((mI U ps j+z*q.getD j 0:Int):Rat)=((0:Int):Rat):=by rw [sp j]
    rw [alu,V0] at s';let zr:(z:Rat)≠0:=dF I;unfold col;grind
   let hl:dO ps (col X):=H.trans λa Y=>by
    rcases HZ.mp Y with h|h
    ·show dO.mem h
    ·rw [HU.mp h]
     show hq
   show hc (P.cols (hl.trans Z.s2) hz c)
  rcases HZ.mp Y with h|h
  ·show Z.ind U M (λj=>by have:=sp j;rw [I] at this;simpa using this) a h
  ·rw [HU.mp h]
   show I
end Ty
namespace Ty
open PySem PySem.Spec PyProof.Rows L2
section
variable {X:Cx}
def ah6 {K:Frag}(h:X.K=K):SlR X (Zl K):=by subst h;show ady
def acq {Y:Pos}(J:X.N.Nodup)(I:X.N[i]?=some y)(U:Loc X.env.scope y)
  (L:X.calm=true) (B:ZJ X scope yc fr pO) (R:PI X target iter wi)
  (Q:∀C s H Z,PG (ZI X (tn++fr) scope yc (bx X.env fr) C s H Z) target g) (T:∀C s H Z,PF (ZI X (tn++fr) scope yc (bx X.env fr) C s H Z) ifs tt) (M:∀C s H Z,PE (ZI X (tn++fr) scope yc (bx X.env fr) C s H Z) elt te)
  (G:Rx (.ListComp elt [(target,iter,ifs,0)] scope pos) (some (.Name y py)) Y.line X.env=pure true:=by rfl)
  (S:∀x,Sq iter X.env x=pure x:=by intro _;rfl) (P:X.fn y=true\/X.env.scope.names.lookup y=some .local:=by first|show .inl rfl|show .inr rfl|assumption):
  PS X (.Assign [.Name y py] (.ListComp elt [(target,iter,ifs,0)] scope pos) Y) (BP (oH tn.length pO wi g tt te) (cE i)):=
 zaR J I U L B.g R Q T M G S P
end
def rE {pS:L2.St}(p:Nat->Bool)(S:H1 D=none)(E:n<DC)
  (M:∀i H (R:Bool->Hp->Prop),i<n->aq H1 H->(∀H',aq H H' ->R (p i) H')->tt (some (.int (i:Int))::pS) H R)
  (L:∀i H (R:VK),R (.int (i:Int)) H->te (some (.int (i:Int))::pS) H R)
  (J:∀H,aq H1 H->H D=some (.lst (((JJ n).filter p).map λi:Nat=>V.int (i:Int)))->Q (.ref D) H):
  mm D (cE 0) tt te (U5 0 n) (none::pS) H1 Q:=by
 show(λi m Y Z H=>m=n-i/\i<=n/\(∃o,Y=o::pS)/\aq H1 H/\H D=some (.lst Z)/\Z=((JJ i).filter p).map λi:Nat=>V.int (i:Int),(n,by simp,NF _,#[none,O],λb o e=>by rwa [aj (ao e S)],ak,O),?_);rintro i m Y Z H ⟨rfl,C,⟨o,rfl⟩,s,X,U⟩;by_cases N:i<n
 ·show .inr #[N,λv H' y=>?_]
  let(rfl,rfl):=y;rw [Nc];unfold cE;show M i _ _ N s λI T=>?_;let P:aq H1 I:=λb o e=>T _ _ (s _ _ e)
  let G:Z.length<=i:=by
   rw [U,be];have:=Mz p (JJ i);rwa [RG] at this
  by_cases c:p i=true
  ·rw [ox c]
   show L i _ _ (T _ _ X,ce,n-(i+1),ce,O,ce,#[_,O],?_,ak,?_)
   ·show λb o e=>by
     rw [aj (ao e S)];show P _ _ e
   ·rw [ajY,akg,ajI c,U,II]
    rfl
  ·rw [mQ c]
   show(n-(i+1),ce,O,ce,#[_,O],P,T _ _ X,?_);rw [ajY,akg,ajJ c,U,List.filter_nil,Wn]
 ·let e:i=n:=ce
  subst e;rw [U] at X;show .inl #[DH _,J H s X]
def ajg:α4 (.type "list") "__getattr__"=pure none:=by rw [DL,Ls];kernel_rfl
def ab5:α4 (.type "list") "keys"=pure none:=by rw [DL,Ls];kernel_rfl
def aai:entryFor table "list.__getattribute__"=some Builtin.«object.__getattribute__»:=
 entryFor_alias (id':="object.__getattribute__") (by kernel_rfl) (by decide+kernel) (by decide+kernel) (by kernel_rfl)
def agC (a:BK)(BN:Η)(n:Nat)(u:Tok):
  Meets (Builtin.«object.__getattribute__» #[[.ref a,.str "keys" u],[]]) (λA R s=>s.heap.get? a=some {cls:=.type "list",dict:=none,data:=.seq BN n,slots:= #[]}/\raisesAttr (.ref a) "keys" A R s):=
 Meets.of_wp λY w A R s Z=>by
  let(T,g,d,X,os):=s;let(U,Z):=Z;let Q:((T,g,d,X,os):DI).TypeIs (.ref a) "list":=(_,U,O);let S:=ab5;unfold Builtin.«object.__getattribute__»
  repeat (any_goals (first|(assumption)|wp_step))
  show wpAny_raiseAttrError Z.1 Z.2 (attrMsg_fits (by decide+kernel) (by decide+kernel))
section
variable {prog:HY}{w:World}{A:JI}{E:δ}{s:DI}
def afJ {BN:Η}{Q:Ξ}(U:s.heap.get? z=some {cls:=.type "list",dict:=none,data:=.seq BN n,slots:= #[]})(P:A.handled=none)
  (h:∀Y X,(∀b o,s.heap.get? b=some o->Y.get? b=some o)->Q none {s with heap:=Y,toks:=X}):CB (CL prog w) A (getAttr? (.ref z) "keys") Q E s:=by
 let(R,g,d,X,os):=s;let T:∀Z,((R,g,d,Z,os):DI).TypeIs (.ref z) "list":=λ_=>(_,U,O);let G:=sub_AttributeError;let H:=F.slot_list_getattribute.lookup;let I:=F.slot_list_getattribute.bind (.ref z);let J:=ajg;unfold getAttr? getAttrBy? getAttrBy
 repeat (any_goals (first|(assumption)|show T _|((with_reducible change CB _ _ (call (Value.builtin "list.__getattribute__") _ _) _ _ _);show Wd F.slot_list_getattribute (T _) aai (F.args_list_getattribute_2 _ _) (agC z BN n _) ⟨U,P,λY Z e S =>?_⟩)|wp_step))
 let(M,N,L):=S.there;change CB _ _ (Md _ _ _ _ _ _ _) _ _ _;unfold Md
 repeat (any_goals (first|(assumption)|wp_step))
 show h _ _ S.keeps
def za1 {BN:Η}{Q:δ}(B:A.in1.in1.handled=none)(hz:s.heap.get? z=some {cls:=.type "list",dict:=none,data:=.seq BN n,slots:= #[]})
  (G:∀(Z:Heap)(U:Nat)(R:Ρ),(∀b o,s.heap.get? b=some o->Z.get? b=some o)->Z.get? s.heap.objs.size=some {cls:=.type "dict",data:=.dict #[]}->
   (∀N,Q (.ref s.heap.objs.size) N ->R (.ok (.ret .none)) N)->Np (CL prog w) A.in1 (.builtin "dict.update.loop" #[[.ref s.heap.objs.size,.ref Z.objs.size,NH 0,.none],[]]) R {s with heap:=Z.push {cls:=.type "list_iterator",data:=.fields (List.toArray [.ref z,.int 0 0])},toks:=U}):
  CB (CL prog w) A (call (.type "dict") [.ref z]) Q E s:=by
 show callType_codes (Q₁:=λY H=>Y=.ref s.heap.objs.size/\H={s with heap:=s.heap.push {cls:=.type "dict",data:=.dict #[]}}) F.kt_called_dict (F.kt_typeCall_dict_1 _) F.entry_dict_init (kt_code_dict_new _ #[O,O]) ?_;rintro Y H ⟨rfl,rfl⟩;let P:(s.heap.push {cls:=.type "dict",data:=.dict #[]}).get? s.heap.objs.size=some {cls:=.type "dict",data:=.dict #[]}:=JO _ rfl;let L:∀b o,s.heap.get? b=some o->(s.heap.push {cls:=.type "dict",data:=.dict #[]}).get? b=some o:=λb o e=>GY _ e;generalize y:s.heap.objs.size=S at P G ⊢;generalize s.heap.push {cls:=.type "dict",data:=.dict #[]}=T at P L ⊢;let I:T.get? z=_:=L _ _ hz;let X:Wc {s with heap:=T} (.ref S) "dict":=(_,P,O);let C:Wc {s with heap:=T} (.ref z) "list":=(_,I,O);show(X,F.args_dict_init_2 _ _,?_);unfold Builtin.«dict.__init__»;show BL ?_;unfold Builtin.Dict.selfAndRest;show BL (wpAny_notOrdered_dict X ?_);show DT ?_;change CB _ _ (Lz "dict.__init__" S (.ref z) [] .none) _ _ _;unfold Lz;show BL (Vz C ?_);rw [ox cr];show BL (afJ (s:={s with heap:=T}) I B λZ U M=>?_);rw [ox (by rfl)];show BL (α5 ?_);let J:Z.IsList z BN:=(_,M _ _ I,O,_,O);show BL (wd (s:={s with heap:=Z,toks:=U}) J ?_);show DT #[VB dN _,G Z U _ (λb o e=>M _ _ (L _ _ e)) (M _ _ P) λN D=>#[O,D]]
end
section
variable {X:Cx}{pX:ζ}{Y:L2.St}
def aix {R:Ρ}(hh:A'.in1.handled=none)(na:a≠S)(nS:it≠S)(lu:us.length=AP.length)(hk1:AP.length<=1000):
  ∀(k i:Nat)(s:DI)(H:Hp),AP.length-i=k->i<=AP.length->L2.Inv X pX Y H s->(∀c∈[it],nZ X pX H c)->s.heap.IsListIter it a i->
  H a=some (.lst us)->(∀(j:Nat)(u:V)(T:Key×V),us[j]?=some u->AP[j]?=some T->∃p,u=.ref p/\H p=some (.tup [kV T.1,T.2]))->H S=some (.dK (bW [] (AP.take i)))->bM S H0 H->
  (∀s' H',L2.Inv X pX Y H' s' ->bM S H0 H' ->H' S=some (.dK (bW [] AP))->R (.ok (.ret .none)) s')->
  Np (CL X.prog X.w) A' (.builtin "dict.update.loop" #[[.ref S,.ref it,NH (i:Int),.none],[]]) R s:=by
 intro k
 induction k with
 | zero=>
  intro i s H hk hi I M st L A Z α0 g;show ZC i5 ?_;rw [ZH dN _];change CB _ A'.in1 (Nw (.ref it) >>=_) _ _ s;let(z1,BN,n1,r1,l1,P):=I.mY L;show BL (wpAny_pyNext_list_end hh st (_,P,O,_,O) (by simp;omega) λJ kk=>?_);rw [Q_ ce] at Z;show BL (DT (DT (g _ H (Inv.jK (t':=s.toks) I (λb o m e=>kk b o (by simpa using m) e) M) α0 Z)))
 | succ k ih=>
  intro i s H hk hi I M st L A Z α0 g;show ZC i5 ?_;rw [ZH dN _];change CB _ A'.in1 (Nw (.ref it) >>=_) _ _ s;let(z1,BN,n1,r1,l1,P):=I.mY L;let lx:i<AP.length:=ce
  let ly:i<us.length:=ce
  let(p,ep,B):=A i us[i] AP[i] (gE ly) (gE lx);let(u0,hu,E):=r1.get (i:=i) (x:=us[i]) (gE ly);erw [ep] at E;show BL (wpAny_pyNext_list_item st (_,P,O,_,O) (x:=.ref p) (by simpa using hu) λJ w_ G=>?_);let I2:L2.Inv X pX Y H {s with heap:=J,toks:=s.toks}:=Inv.jK (t':=s.toks) I (λb o m e=>(G.2 b (by simpa using m)).trans e) M;let(zS,y,vs,U,dd):=km I2.bO Z;let(X8,rj,tp,zj):=I2.tuple (bL.of B);cases rj with
  | cons E D=>
  cases D with
  | cons rv D=>
  cases D;rename_i u v;let(o,eo,co,n,do'):=tp;let hT:Wc {s with heap:=J,toks:=s.toks} (.ref p) "tuple":=(_,eo,co);show BL (Nq ?_);show BL (wpAny_tryCatch ?_);unfold Builtin.Dict.pairItems;show BL (Vz hT ?_);rw [ox cr];show BL (Sn eo do' (DT ?_));change CB _ A'.in1 (V8 [u,v] (dictSet S u v)) _ _ _;show Nq ?_;let Q:vs.length<=DC:=by rwa [<-U.length]
  show wpAny_dictSet_pairs (hsz:=Q) (mG E) dd λh2 ZT sb=>?_;let he:∃q,h2.get? S=some q:=let ⟨q,_,_,N,_⟩:=ZT;#[q,N]
  let f:AP.take (i+1)=AP.take i++[AP[i]]:=by
   rw [RH,gE lx];rfl
  let Rv:bW [] (AP.take (i+1))=putK (bW [] (AP.take i)) AP[i].1 AP[i].2:=by rw [f,rC]
  let hl:(putK (bW [] (AP.take i)) AP[i].1 AP[i].2).length<=DC:=by
   rw [<-Rv];let h1:=gN (AP.take (i+1)) [];rw [IY,EK] at h1;show EE (show(bW [] (AP.take (i+1))).length<=1000 by omega) cr
  let I3:L2.Inv X pX Y (upd H S (.dK (putK (bW [] (AP.take i)) AP[i].1 AP[i].2))) {s with heap:=h2,toks:=s.toks+1}:=jL (s:={s with heap:=J,toks:=s.toks}) (t':=s.toks+1) I2 (by rw [Z];show True.intro) sb he (m7 hl y (U.put AP[i].1 rv) ZT);show DT #[VB dN _,?_];let C:∀{c:BK} {o:HO},H c=some o->c≠S->(upd H S (.dK (putK (bW [] (AP.take i)) AP[i].1 AP[i].2))) c=some o:=λ{c o} e n=>by rwa [aj n]
  let(oi,ei,ci,di):=w_;show ih (i+1) _ _ ce ce I3 (λc hc=>?_) (oi,(sb.2 it nS).trans ei,ci,di) (C L na) (λj u T P e2=>?_) (by rw [Rv,ak]) (λc o n e=>C (α0 c o n e) n) g
  ·let(f0,f1,f2,f3,f4,f5):=M c hc
   have:c≠S:=λz=>nS (by rw [<-z];show(HU.mp hc).symm);show(by rwa [aj this],f1,f2,f3,f4,f5)
  ·let(q,eq,N):=A j u T P e2
   show(q,eq,C N λz=>by erw [z,Z] at N)
inductive RD (xs:ε)(H:Hp)(Q:VK):Prop
|mk (a:BK)(us:ε)(AP:γ)(_:xs=[.ref a])(_:H a=some (.lst us))(_:us.length=AP.length)(_:AP.length<=1000)(_:∀(j:Nat)(u:V)(Z:Key×V),us[j]?=some u->AP[j]?=some Z->∃p,u=.ref p/\H p=some (.tup [kV Z.1,Z.2]))(_:∀(l:BK)(H':Hp),aq H H' ->H l=none->H' l=some (.dK (bW [] AP))->Q (.ref l) H')
def aas (E:X.calm=true):gP X (.type "dict") RD:=by
 intro pX s Y H vs us Q I r h;let(a,xs,AP,rfl,M,f,L,hp,q):=h;obtain ⟨u,rfl⟩:∃u,us=[u]:=by cases r with|cons h t=>cases t;show#[_,O]
 cases r with
 | cons h _=>
 cases h;let(z1,BN,n1,r1,l1,J):=I.mY M;let T:=I.bO.fresh (DH s.heap.objs.size);show za1 (s:=s) (I.ok.hd E) J λZ G R k2 y hR=>?_;let lt':HL<s.heap.objs.size:=(I.mod.glob.keeps I.bk).lt;let k:(s.heap.objs.size==Nf)=false:=beq_eq_false_iff_ne.mpr (G' (N8 (uq cr lt')));let U:s.heap.objs.size<Z.objs.size:=HF y;let k3:∀b o,s.heap.get? b=some o->(Z.push {cls:=.type "list_iterator",data:=.fields (List.toArray [.ref a,.int 0 0])}).get? b=some o:=λb o e=>GY _ (k2 b o e);let I3:L2.Inv X pX Y (upd H s.heap.objs.size (.dK [])) {s with heap:=Z.push {cls:=.type "list_iterator",data:=.fields (List.toArray [.ref a,.int 0 0])},toks:=G}:=I.laid (t':=G) k3 (DH _) (NF _,k,[],.nil,_,_,_,GY _ y,(O,O,O),O,λ_ he=>by simp at he,Pairs.nil,ZZ);let P:=xD T (.dK []);let i:a≠s.heap.objs.size:=ao M T;let g:Z.objs.size≠s.heap.objs.size:=VG U;show aix (A':=X.A.in1) (H0:=H) (us:=xs) (AP:=AP) (a:=a) (it:=Z.objs.size) (S:=s.heap.objs.size) (I.ok.hd E) i g f L AP.length 0 _ _ ce (NF _) I3 (λB m =>?_) (_,JO _ rfl,O,O) (P _ _ M) (λj u c J e2=>?_) ak (λz o n e=>P _ _ e) λw x I' N Vv =>hR w (.ref s.heap.objs.size,x,I',O,q _ x (λz o e=>N z o (ao e T) e) T Vv)
 ·let C:B=Z.objs.size:=HU.mp m
  let D:s.heap.objs.size<=B:=by rw [C];show QM U
  show I.mS D ?_;rw [aj (by rwa [C])];show I.bO.fresh D
 ·let(p,e,hq):=hp j u c J e2
  show(p,e,P _ _ hq)
end
inductive Mg {Y Z:Type}(p:Y->Z->Prop):Prop where
 | mk (U:Y)(X:Z)(h:p U X):Mg p
inductive GJ {X Y Z:Type}(p:X->Y->Z->Prop):Prop where
 | mk (S:X)(T:Y)(U:Z)(h:p S T U):GJ p
inductive N6 {U X Y Z:Type}(p:U->X->Y->Z->Prop):Prop where
 | mk (Q:U)(R:X)(S:Y)(T:Z)(h:p Q R S T):N6 p
inductive Ex5 {T U X Y Z:Type}(p:T->U->X->Y->Z->Prop):Prop where
 | mk (N:T)(P:U)(Q:X)(R:Y)(S:Z)(h:p N P Q R S):Ex5 p
inductive Ex6 {S T U X Y Z:Type}(p:S->T->U->X->Y->Z->Prop):Prop where
 | mk (L:S)(M:T)(N:U)(P:X)(Q:Y)(R:Z)(h:p L M N P Q R):Ex6 p
inductive Ex7 {R S T U X Y Z:Type}(p:R->S->T->U->X->Y->Z->Prop):Prop where
 | mk (I:R)(J:S)(L:T)(M:U)(N:X)(P:Y)(Q:Z)(h:p I J L M N P Q):Ex7 p
inductive Ex9 {P Q R S T U X Y Z:Type}(p:P->Q->R->S->T->U->X->Y->Z->Prop):Prop where
 | mk (D:P)(E:Q)(G:R)(H:S)(I:T)(J:U)(L:X)(M:Y)(N:Z)(h:p D E G H I J L M N):Ex9 p
section
variable {P:HY}{w:World}{K:Frag}{mg:ν}{lM:Heap}{CX:oh}{N ps:ς}{k:Nat}{sp:Sp}{st:Stmt}
def Def.oo (D:Def K mg x st ps)(S:ay N ps (ae st))
  (U:∀{f:BK} {Y:Value} {A:JI} {X:List Env} {s:DI} {vs:ε} {Q:VK} {E:XK} (H:Hp),cQ k (A.deeper (Pf x (ae st) s.heap.objs.size f Y))->sp vs H Q E->
   ∃t,rV (mi CX P w K mg lM N x (ae st) f Y A X s H E).BE (au st) t/\t {nx:=λ_ R=>Q .cW R,rt:=Q} (start N vs) H) (Z:∀vs H Q E,sp vs H Q E->vs.length=ps.length:=by intro vs H Q E h;cases h;subst_vars;rfl):Fn P w K mg lM CX (k+1) x ps sp:=D.ok S Z λ_ _ _ _ _ H _ _ _ T h=>U H T h
def Def.op (D:Def K mg x st ps)(S:ay N ps (ae st))
  (U:∀(f:BK)(Y:Value)(A:JI)(X:List Env)(s:DI)(H:Hp)(vs:ε)(Q:VK)(E:XK),cQ k (A.deeper (Pf x (ae st) s.heap.objs.size f Y))->sp vs H Q E->
   ∃t,rV (mi CX P w K mg lM N x (ae st) f Y A X s H E).BE (au st) t/\t {nx:=λ_ T=>Q .cW T,rt:=Q} (start N vs) H) (Z:∀vs H Q E,sp vs H Q E->vs.length=ps.length:=by intro vs H Q E h;cases h;subst_vars;rfl):Fn P w K mg lM CX (k+1) x ps sp:=D.ok S Z U
def ib (F:sH K name qual st f fd)(S:ay N ps (ae st))
  (U:∀{Y:Value} {A:JI} {X:List Env} {s:DI} {vs:ε} {Q:VK} {E:XK} (H:Hp),cQ k (A.deeper (Pf qual (ae st) s.heap.objs.size f Y))->sp vs H Q E->
   ∃t,rV (vw P w K mg lM N qual (ae st) f Y A X s H E).BE (au st) t/\t {nx:=λ_ R=>Q .cW R,rt:=Q} (start N vs) H) (Z:∀vs H Q E,sp vs H Q E->vs.length=ps.length:=by intro vs H Q E h;cases h;subst_vars;rfl):dR P w K mg lM (aX P w) (k+1) f fd ps sp:=ahz F S Z λ_ _ _ _ H _ _ _ T h=>U H T h
def GK (P:HY)(w:World){X:Cx}:Passes (aX P w) X.BE E0:=oG aX.HQ
end
section
variable {X:Cx}{i:Nat}{x y:Str}{a b c d e e1 e2 e3 e4 e5 elt target iter:Expr}{es ifs:Ε}{te ta tb t1 t2 t3 t4 t5:TE}{wi:TI}{g:TG}{tt:TT}{pos pos' py qp p:Pos}{scope:Scope}{tn fr:ς}{pO:Ω}
def aI (i:Nat)(R:X.N.Nodup)(S:PE X e te)(U:X.N[i]?=some x:=by rfl)(Z:Loc X.env.scope x:=by first|show .inl rfl|show .inr rfl)(Y:Rx e (some (.Name x pos')) pos.line X.env=pure false:=by rfl)(T:X.fn x=true\/X.env.scope.names.lookup x=some .local:=by first|show .inl rfl|show .inr rfl|assumption):
  PS X (.Assign [.Name x pos'] e pos) (BP te (cE i)):=aet R U Z S Y T
def bI (i:Nat)(T:X.N.Nodup)(Y:X.N[i]?=some x:=by rfl)(Z:Loc X.env.scope x:=by first|show .inl rfl|show .inr rfl)(U:X.fn x=true\/X.env.scope.names.lookup x=some .local:=by first|show .inl rfl|show .inr rfl|assumption):PG X (.Name x pos) (cE i):=f9 T Y Z U
def bB (Y:XY X r)(T:PE X a ta)(U:PE X b tb)(Z:ajN b:=by show λ_ _=>O):PE X (.Subscript a b pos) (U7 r ta tb):=QI Y T U Z
def bE (Z:kc X (NR op) r)(T:PE X a ta)(U:PE X b tb)(Y:α7 op b=false:=by show jI _):PT X (.Compare a [op] [b] pos) (XR (U7 r ta tb)):=n_ Z T U Y
def aZ (Y:PE X e1 t1)(Z:isStar e1=false:=by rfl):PA X [e1] (rg t1 gQ):=iL Y mW Z
def aH (T:PE X e1 t1)(U:PE X e2 t2)(Y:isStar e1=false:=by rfl)(Z:isStar e2=false:=by rfl):PA X [e1,e2] (rg t1 (rg t2 gQ)):=iL T (aZ U Z) Y
def bu (R:PE X e1 t1)(S:PE X e2 t2)(T:PE X e3 t3)(U:isStar e1=false:=by rfl)(Y:isStar e2=false:=by rfl)(Z:isStar e3=false:=by rfl):PA X [e1,e2,e3] (rg t1 (rg t2 (rg t3 gQ))):=iL R (aH S T Y Z) U
def Mh (P:closureFor scope X.env=pure (bx X.env fr):=by show O)(Q:∀y∈scope.names,y.2≠.cell:=by decide+kernel)(R:scope.kind=.function:=by show O)(S:∀y∈scope.names,y.2=.local->scope.names.lookup y.1=some .local:=by decide+kernel)(T:∀y∈scope.names,y.2=.free->y.1∈fr:=by decide+kernel)(U:pO.map (λi=>X.N[i]?)=fr.map some:=by show O)
  (Y:h_ X.env fr:=by repeat (first|show trivial|show#[by first|show Pe rfl|show Rw rfl,?_])) (Z:h_ (compEnvC scope [] 0 X.env) fr:=by repeat (first|show trivial|show#[by first|show Pe rfl|show Rw rfl,?_])):yk X scope fr pO:=(P,Q,R,S,T,U,Y,Z)
def IP (T:PI X target iter wi)(S:∀C s H Z,PG (sL X (tn++fr) scope (bx X.env fr) C s H Z) target g)(Y:∀C s H Z,PF (sL X (tn++fr) scope (bx X.env fr) C s H Z) ifs tt)(R:∀{C s H Z},PE (sL X (tn++fr) scope (bx X.env fr) C s H Z) elt te)
  (Q:X.calm=true:=by rfl) (B:yk X scope fr pO:=by show Mh) (U:∀x,Sq iter X.env x=pure x:=by intro _;rfl):PE X (.ListComp elt [(target,iter,ifs,0)] scope pos) (oH tn.length pO wi g tt te):=aii Q B T S Y (λ_ _ _ _=>R) U
def adX (T:(tn++fr).Nodup)(S:(tn++fr)[0]?=some y)(Y:∀C s H Z,Loc (sL X (tn++fr) scope (bx X.env fr) C s H Z).env.scope y)(U:∀C s H Z,(sL X (tn++fr) scope (bx X.env fr) C s H Z).fn y=true\/(sL X (tn++fr) scope (bx X.env fr) C s H Z).env.scope.names.lookup y=some .local):∀C s H Z,PG (sL X (tn++fr) scope (bx X.env fr) C s H Z) (.Name y py) (cE 0):=λC s H Z=>f9 T S (Y C s H Z) (U C s H Z)
def dX (S:PI X (.Name y py) iter wi)(R:∀{C s H Z},PE (sL X (tn++fr) scope (bx X.env fr) C s H Z) elt te)
  (Q:X.calm=true:=by rfl) (B:yk X scope fr pO:=by show Mh) (U:∀x,Sq iter X.env x=pure x:=by intro _;rfl) (P:(tn++fr).Nodup:=by decide+kernel) (N:(tn++fr)[0]?=some y:=by rfl) (Y:∀C s H Z,Loc (sL X (tn++fr) scope (bx X.env fr) C s H Z).env.scope y:=by show λ_ _ _ _=>.inl rfl) (T:∀C s H Z,(sL X (tn++fr) scope (bx X.env fr) C s H Z).fn y=true\/(sL X (tn++fr) scope (bx X.env fr) C s H Z).env.scope.names.lookup y=some .local:=by intro _ _ _ _;first|show .inl rfl|show .inr rfl):PE X (.ListComp elt [(.Name y py,iter,[],0)] scope pos) (oH tn.length pO wi (cE 0) kz te):=aii Q B S (adX P N Y T) (λ_ _ _ _=>t_) (λ_ _ _ _=>R) U
def RE (L:X.N.Nodup)(S:PI X target iter wi)(R:∀C s H Z,PG (sL X (tn++fr) scope (bx X.env fr) C s H Z) target g)(U:∀C s H Z,PF (sL X (tn++fr) scope (bx X.env fr) C s H Z) ifs tt)(P:∀{C s H Z},PE (sL X (tn++fr) scope (bx X.env fr) C s H Z) elt te)
  (J:X.N[i]?=some x:=by rfl) (Y:Loc X.env.scope x:=by first|show .inl rfl|show .inr rfl) (M:X.calm=true:=by rfl) (B:yk X scope fr pO:=by show Mh) (I:Rx (.ListComp elt [(target,iter,ifs,0)] scope pos) (some (.Name x py)) qp.line X.env=pure true:=by rfl)
  (T:∀x,Sq iter X.env x=pure x:=by intro _;rfl) (Q:X.fn x=true\/X.env.scope.names.lookup x=some .local:=by first|show .inl rfl|show .inr rfl|assumption):
  PS X (.Assign [.Name x py] (.ListComp elt [(target,iter,ifs,0)] scope pos) qp) (BP (oH tn.length pO wi g tt te) (cE i)):=aib L J Y M B S R U (λ_ _ _ _=>P) I T Q
def qD (J:X.N.Nodup)(Q:PI X (.Name y yp) iter wi)(M:∀{C s H Z},PE (sL X (tn++fr) scope (bx X.env fr) C s H Z) elt te)
  (G:X.N[i]?=some x:=by rfl) (T:Loc X.env.scope x:=by first|show .inl rfl|show .inr rfl) (L:X.calm=true:=by rfl) (B:yk X scope fr pO:=by show Mh) (E:Rx (.ListComp elt [(.Name y yp,iter,[],0)] scope pos) (some (.Name x py)) qp.line X.env=pure true:=by rfl)
  (S:∀x,Sq iter X.env x=pure x:=by intro _;rfl) (P:X.fn x=true\/X.env.scope.names.lookup x=some .local:=by first|show .inl rfl|show .inr rfl|assumption) (U:(tn++fr).Nodup:=by decide+kernel) (I:(tn++fr)[0]?=some y:=by rfl) (Y:∀C s H Z,Loc (sL X (tn++fr) scope (bx X.env fr) C s H Z).env.scope y:=by show λ_ _ _ _=>.inl rfl) (R:∀C s H Z,(sL X (tn++fr) scope (bx X.env fr) C s H Z).fn y=true\/(sL X (tn++fr) scope (bx X.env fr) C s H Z).env.scope.names.lookup y=some .local:=by intro _ _ _ _;first|show .inl rfl|show .inr rfl):
  PS X (.Assign [.Name x py] (.ListComp elt [(.Name y yp,iter,[],0)] scope pos) qp) (BP (oH tn.length pO wi (cE 0) kz te) (cE i)):=aib J G T L B Q (adX U I Y R) (λ_ _ _ _=>t_) (λ_ _ _ _=>M) E S P
def aL {E:XK}(F:Fn X.prog X.w X.K X.mg X.lM (aX P w) k x ps sp)(T:cQ l X.A)(N:PA X (e::es) t)(S:k<=l:=by decide)(U:Passes (aX P w) X E:=by show oG aX.HQ)(R:Gl X x:=by rfl)(Z:(x==("__debug__":Str))=false:=by decide)
  (Q:HE (e::es) X.env=(false,EI e X.env)::HE es X.env:=by rfl) (Y:(NK pos (HE es X.env)).any (·.1)=false:=by rfl):PE X (.Call (.Name x p) (e::es) [] pos) (Lw sp [] E t):=mF F (T.mono S) U N R Z Q Y
def rF {E:XK}(F:Fn X.prog X.w X.K X.mg X.lM (aX P w) k x ps sp)(T:cQ l X.A)(N:PA X (e::es) t)(S:k<=l:=by decide)(U:Passes (aX P w) X E:=by show ade aX.HQ rfl)(R:Gl X x:=by rfl)(Z:(x==("__debug__":Str))=false:=by decide)
  (Q:HE (e::es) X.env=(false,EI e X.env)::HE es X.env:=by rfl) (Y:(NK pos (HE es X.env)).any (·.1)=false:=by rfl):PE X (.Call (.Name x p) (e::es) [] pos) (Lw sp [] E t):=mF F (T.mono S) U N R Z Q Y
end
section
variable {prog:HY}{w:World}{Kt:Type}[DecidableEq Kt]{knd:KeyKind prog w Kt}{A:JI}{E:δ}{s:DI}
def aik {Q:δ}(g:s.heap.IsValIter it d i ps.length ep)(m:s.heap.DictAt knd d ps ep)(L:ps[i]?=some (k,v))
  (q:∀h',h'.IsValIter it d (i+1) ps.length ep->R_ it s.heap h' ->Q v {s with heap:=h'}):CB (CL prog w) A (RZ (.ref it)) Q E s:=by
 let(o,U,I,Y):=id g;let(C,X,P,D,R,G,S,H):=id m;let M:X.size=ps.length:=by rw [<-S.length];simp
 let lt:i<ps.length:=(ir.mp L).1;let Z:i<X.size:=by rwa [M]
 let ev:X[i].val=v:=(S.get? (e:=X[i]) (by simp [Z]) L).2;let J:Builtin.Dict_items.ownsTuple "dict_valueiterator"=false:=cr
 unfold RZ;show BL (wpAny_callSpecial?_slot (name:=Pc "__next__") g.typeIs Mu (VE Mu g.typeIs F.entry_dict_valueiterator_next ?_ (F.args_dict_valueiterator_next_1 _)));show BL (DT (BL (BL ?_)))
 first|show BL (Mt g.typeIs (DT (BL (CZ U Y ?_))))|show BL (MF g.typeIs (DT (BL (CZ U Y ?_))))
 simp only [J,Zn,if_false];change CB _ _ (if (Value.ref d==Value.none)=true then _ else _) _ _ s;rw [mQ (λz=>nomatch z)];show BL (DT (BL (ZM P R ?_)));rw [mQ (by rw [M];simp)];show BL (DT (BL (DG P R ?_)));rw [mQ fD];show DT ?_;simp only [show ¬ ((i:Int)<0) from by omega,if_false,MM,af_ Z];show BL ?_
 first|show BL (Mt g.typeIs (DT (BL (LY g.typeIs ?_))))|show BL (MF g.typeIs (DT (BL (LY g.typeIs ?_))))
 change CB _ _ (setField (.ref it) 1 (NH ((i:Int)+1)) >>=_) _ _ s;show BL (wpAny_setField U Y fD ?_)
 let T:(s.heap.update it (Obj.mapFields (·.setIfInBounds 1 (NH ((i:Int)+1))))).IsValIter it d (i+1) ps.length ep:=
  (_,x5 _ U (Obj.isFreed_of_fields (Obj.data_mapFields Y _)),(Obj.cls_mapFields ..).trans I,by rw [Obj.data_mapFields Y];simp [NH])
 let N:R_ it s.heap (s.heap.update it (Obj.mapFields (·.setIfInBounds 1 (NH ((i:Int)+1))))):=Heap.SameBut.update ..;generalize s.heap.update it (Obj.mapFields (·.setIfInBounds 1 (NH ((i:Int)+1))))=h' at T N ⊢;let ty:Wc {s with heap:=h'} (.ref it) "dict_valueiterator":=T.typeIs (s:={s with heap:=h'});show BL (Nq (BL (LY ty (BL (LY ty ?_)))));change CB _ _ (pure X[i].val) _ _ _;show DT (DT (_,O,DT (ev▸q _ T N)))
def agJ {Q:δ}(S:A.handled=none)(g:s.heap.IsValIter it d i ps.length ep)(m:s.heap.DictAt knd d ps ep)(G:ps.length<=i)
  (q:∀h' e,Heap.ExtBut it s.heap h' ->(∃o,h'.get? e=some o/\o.cls=.type "StopIteration")->E (.ref e) {s with heap:=h'}):CB (CL prog w) A (RZ (.ref it)) Q E s:=by
 let(o,Y,D,Z):=id g;let(H,R,U,I,X,J,P,L):=id m;let T:R.size=ps.length:=by rw [<-P.length];simp
 let M:R.size<=i:=by rwa [T]
 let N:Builtin.Dict_items.ownsTuple "dict_valueiterator"=false:=cr
 unfold RZ;show BL (wpAny_callSpecial?_slot (name:=Pc "__next__") g.typeIs Mu (VE Mu g.typeIs F.entry_dict_valueiterator_next ?_ (F.args_dict_valueiterator_next_1 _)));show BL (DT (BL (BL ?_)))
 first|show BL (Mt g.typeIs (DT (BL (CZ Y Z ?_))))|show BL (MF g.typeIs (DT (BL (CZ Y Z ?_))))
 simp only [N,Zn,if_false];change CB _ _ (if (Value.ref d==Value.none)=true then _ else _) _ _ s;rw [mQ (λz=>nomatch z)];show BL (DT (BL (ZM U X ?_)));rw [mQ (by rw [T];simp)];show BL (DT (BL (DG U X ?_)));rw [mQ fD];show DT ?_;simp only [show ¬ ((i:Int)<0) from by omega,if_false,MM,Array.getElem?_eq_none M];show BL ?_
 first|show BL (Mt g.typeIs (DT ?_))|show BL (MF g.typeIs (DT ?_))
 change CB _ _ (setField (.ref it) 0 .none >>=_) _ _ s;show BL (wpAny_setField Y Z fD ?_);change CB _ _ (newExc (.type "StopIteration") [] >>=_) _ _ _;show BL ?_;simp only [newExc,newTuple];show BL (U3 ?_ (by size_fits));show BL (m:=firstArgMember _ _) (wpAny_of_eq (a:=Value.none) (by first|rfl|(simp only [firstArgMember];rfl)) ?_);show U3 ?_ (by size_fits);simp only [raiseNew];show BL (wpAny_handled ?_)
 first|rw [show A.in1.handled=none from S]|rw [S]
 show BL (DT (wpAny_throw ?_));show q _ _ (((Heap.SameBut.update ..).extBut.push _).push _) (_,JO _ rfl,O)
def aei {z TI TO X Y d l:BK}{ys:Η}{Q:δ}(D:ZipApart z TI TO X Y d l)
  (hz:Nn s.heap z TI TO .none) (ia:N5 s.heap TI (.ref X) (.ref Y)) (lQ:N5 s.heap TO a b)
  (h1:s.heap.IsValIter X d k ps.length ep) (m:s.heap.DictAt knd d ps ep) (h2:s.heap.IsListIter Y l k) (hl:s.heap.IsList l ys) (hx:ps[k]?=some (kk,x)) (hy:ys[k]?=some y)
  (q:∀h',Nn h' z TI TO (NH s.heap.objs.size)->N5 h' TO x y->h'.IsValIter X d (k+1) ps.length ep->h'.IsListIter Y l (k+1)->N5 h' s.heap.objs.size x y->
   (∀c o,c≠z->c≠TO->c≠X->c≠Y->s.heap.get? c=some o->h'.get? c=some o)->Q (.ref s.heap.objs.size) {s with heap:=h'}):
  CB (CL prog w) A (Builtin.«zip.__next__» #[[.ref z],[]]) (λg s'=>∃v,g=.done (.ret v)/\Q v s') E s:=by
 change CB _ _ (field (.ref z) 2 >>=_) _ _ _;show BL (Nv hz rfl (x:=.bool false) rfl ?_);change CB _ _ (field (.ref z) 3 >>=_) _ _ _;show BL (Nv hz rfl (x:=.ref TI) rfl (BL (Sn ia rfl ?_)));change CB _ _ (Vf (.ref z) >>=_) _ _ _;show BL ?_;unfold Vf;show BL (Nv hz rfl (x:=.none) rfl (DT ?_));simp only [if_true];show BL (α5 (BL (Nv hz rfl (x:=.ref TO) rfl (BL (ZO hz fD λH u N=>?_)))));let u:Nn H z TI TO .ellipsis:=u;show BL ?_;simp only [alf,alw,EG,v_];show BL (BL (wpAny_onRaise ?_));change CB _ _ (RZ (.ref X) >>=_) _ _ _;let m1:H.DictAt knd d ps ep:=m.at' λo e=>(N.2 d D.l1z).trans e;show BL (aik (s:={s with heap:=H}) (h1.extBut N.extBut D.i1z) m1 hx λj g2 T=>DT ?_);let T:R_ X H j:=T;let o2:N5 j TO a b:=T.extBut _ _ D.TOi1 (N.extBut _ _ D.TOz lQ);show BL (Sn o2 rfl (BL (wpAny_updateSeq_pair o2 λM i U=>?_)));let U:R_ TO j M:=U;let i:N5 M TO x b:=i;show BL (wpAny_letGo (DT (BL (BL (wpAny_onRaise ?_)))));change CB _ _ (RZ (.ref Y) >>=_) _ _ _;let j3:M.IsListIter Y l k:=((h2.extBut N.extBut D.i2z).extBut T.extBut D.i12.symm).extBut U.extBut D.TOi2.symm;let l3:M.IsList l ys:=((hl.extBut N.extBut D.l2z).extBut T.extBut D.l2i1).extBut U.extBut D.l2TO;show BL (Lu (s:={s with heap:=M}) j3 l3 hy λp j4 P=>DT ?_);let P:R_ Y M p:=P;let o4:N5 p TO x b:=P.extBut _ _ D.TOi2 i;show BL (Sn o4 rfl (BL (wpAny_updateSeq_pair o4 λZ G R=>?_)));let R:R_ TO p Z:=R;let G:N5 Z TO x y:=G;show BL (wpAny_letGo (DT (DT (BL (Sn G rfl (BL (wpAny_newTuple ?_)))))));let sz:Z.objs.size=s.heap.objs.size:=by rw [R.1,P.1,U.1,T.1,N.1]
 let z5:Nn Z z TI TO .ellipsis:=R.extBut _ _ D.TOz.symm (P.extBut _ _ D.i2z.symm (U.extBut _ _ D.TOz.symm (T.extBut _ _ D.i1z.symm u)));let c5:∀c o,c≠z->c≠TO->c≠X->c≠Y->s.heap.get? c=some o->Z.get? c=some o:=λc o S C c3 f e=>R.extBut _ _ C (P.extBut _ _ f (U.extBut _ _ C (T.extBut _ _ c3 (N.extBut _ _ S e))));let g5:Z.IsValIter X d (k+1) ps.length ep:=((g2.extBut U.extBut D.TOi1.symm).extBut P.extBut D.i12).extBut R.extBut D.TOi1.symm;let j5:Z.IsListIter Y l (k+1):=j4.extBut R.extBut D.TOi2.symm;let zl:z<Z.objs.size:=HF z5;change CB _ _ (Builtin.SmallTypes.ownedTupleHandOut (.ref z) (.ref Z.objs.size) >>=_) _ _ _;show BL ?_;unfold Builtin.SmallTypes.ownedTupleHandOut;let z6:Nn (Z.push {cls:=.type "tuple",data:=.seq (List.toArray [x,y])}) z TI TO .ellipsis:=GY _ z5;show BL (ZO z6 fD λp7 B b7=>?_);let B:Nn p7 z TI TO (NH Z.objs.size):=B;show ZO B fD λI L b8=>?_;let L:Nn I z TI TO (NH Z.objs.size):=L;let J:∀c o,c≠z->Z.get? c=some o->I.get? c=some o:=λc o S e=>b8.extBut _ _ S (b7.extBut _ _ S (GY _ e));let t8:N5 I Z.objs.size x y:=b8.extBut _ _ (VG zl) (b7.extBut _ _ (VG zl) (JO _ rfl));rw [sz] at L t8;show DT (_,O,?_);change Q (.ref Z.objs.size) _;rw [sz];show q I L (J _ _ D.TOz G) (g5.at λo e=>J _ o D.i1z e) (j5.at λo e=>J _ o D.i2z e) t8 λc o S C c3 f e=>J c o S (c5 c o S C c3 f e)
def aif {z TI TO Z y d:BK}(p:A.handled=none)(R:Z≠z)(D:d≠z)
  (hz:Nn s.heap z TI TO .none) (B:N5 s.heap TI (.ref Z) (.ref y)) (i:s.heap.IsValIter Z d k ps.length ep) (m:s.heap.DictAt knd d ps ep) (u:ps.length<=k)
  (q:∀h' e,(∀c o,c≠z->c≠Z->s.heap.get? c=some o->h'.get? c=some o)->(∃o,h'.get? e=some o/\o.cls=.type "StopIteration")->E (.ref e) {s with heap:=h'}):
  CB (CL prog w) A (Builtin.«zip.__next__» #[[.ref z],[]]) Q E s:=by
 change CB _ _ (field (.ref z) 2 >>=_) _ _ _;show BL (Nv hz rfl (x:=.bool false) rfl ?_);change CB _ _ (field (.ref z) 3 >>=_) _ _ _;show BL (Nv hz rfl (x:=.ref TI) rfl (BL (Sn B rfl ?_)));change CB _ _ (Vf (.ref z) >>=_) _ _ _;show BL ?_;unfold Vf;show BL (Nv hz rfl (x:=.none) rfl (DT ?_));simp only [if_true];show BL (α5 (BL (Nv hz rfl (x:=.ref TO) rfl (BL (ZO hz fD λX Y U=>?_)))));let Y:Nn X z TI TO .ellipsis:=Y;show BL ?_;simp only [alf,alw,EG,v_];show BL (BL (wpAny_onRaise ?_));change CB _ _ (RZ (.ref Z) >>=_) _ _ _;let C:X.DictAt knd d ps ep:=m.at' λo e=>(U.2 d D).trans e;show BL (agJ (s:={s with heap:=X}) p (i.extBut U.extBut R) C u λS e J j=>?_);let(H,N,P):=j;let T:Nn S z TI TO .ellipsis:=J _ _ R.symm Y;let G:e≠z:=λx=>by subst x;erw [T] at N;simp at P
 show ZO (s:={s with heap:=S}) T fD λI _ L=>q I e (λc o M g x=>L.extBut _ _ M (J _ _ g (U.extBut _ _ M x))) (H,L.extBut _ _ G N,P)
def adZ {z TI TO Y Z d l:BK}{ys:Η}{Q:Ξ}(D:ZipApart z TI TO Y Z d l)
  (hz:Nn s.heap z TI TO .none) (U:N5 s.heap TI (.ref Y) (.ref Z)) (X:N5 s.heap TO a b)
  (N:s.heap.IsValIter Y d k ps.length ep) (m:s.heap.DictAt knd d ps ep) (P:s.heap.IsListIter Z l k) (R:s.heap.IsList l ys) (S:ps[k]?=some (kk,x)) (T:ys[k]?=some y)
  (q:∀h',Nn h' z TI TO (NH s.heap.objs.size)->N5 h' TO x y->h'.IsValIter Y d (k+1) ps.length ep->h'.IsListIter Z l (k+1)->N5 h' s.heap.objs.size x y->
   (∀c o,c≠z->c≠TO->c≠Y->c≠Z->s.heap.get? c=some o->h'.get? c=some o)->Q (some (.ref s.heap.objs.size)) {s with heap:=h'}):
  CB (CL prog w) A (Nw (.ref z)) Q E s:=by
 let ty:s.TypeIs (.ref z) "zip":=(_,hz,O);unfold Nw;show BL (wpAny_attempt (wpAny_callSpecial?_slot (name:=Pc "__next__") ty Vg (VE Vg ty LN (aei D hz U X N m P R S T λh' G H I J L M=>DT (q h' G H I J L M)) (MO _))))
def ahx {z TI TO Z S d:BK}{Q:Ξ}(N:A.handled=none)(X:Z≠z)(Y:d≠z)
  (hz:Nn s.heap z TI TO .none) (U:N5 s.heap TI (.ref Z) (.ref S)) (L:s.heap.IsValIter Z d k ps.length ep) (m:s.heap.DictAt knd d ps ep) (R:ps.length<=k)
  (q:∀h',(∀c o,c≠z->c≠Z->s.heap.get? c=some o->h'.get? c=some o)->Q none {s with heap:=h'}):CB (CL prog w) A (Nw (.ref z)) Q E s:=by
 let ty:s.TypeIs (.ref z) "zip":=(_,hz,O);unfold Nw;show BL (wpAny_attempt (wpAny_callSpecial?_slot (name:=Pc "__next__") ty Vg (VE Vg ty LN (aif N X Y hz U L m R λh' e P M=>?_) (MO _))));let(o,I,J):=M;show BL (Mf (T:="StopIteration") (b:=true) (o,I,J) isSubtype_stop (DT (q _ P)))
abbrev zq (h:Heap)(d:BK)(n Z:Nat):Heap:=h.push {cls:=.type "dict_valueiterator",data:=.fields (List.toArray [.ref d,.int 0 0,.int n 0,.int Z 0])}
abbrev zI (h:Heap)(d l:BK)(n Z:Nat):Heap:=(zq h d n Z).push {cls:=.type "list_iterator",data:=.fields (List.toArray [.ref l,.int 0 0])}
abbrev zE (h:Heap)(d l:BK)(n Z:Nat):Heap:=(zI h d l n Z).push {cls:=.type "tuple",data:=.seq (List.toArray [.ref h.objs.size,.ref (zq h d n Z).objs.size])}
abbrev yy (h:Heap)(d l:BK)(n Z:Nat):Heap:=(zE h d l n Z).push {cls:=.type "tuple",data:=.seq (List.toArray [.none,.none])}
abbrev σ3 (h:Heap)(d l:BK)(n Z:Nat):Heap:=(yy h d l n Z).push {cls:=.type "zip",data:=.fields (List.toArray [.none,.bool false,.bool false,.ref (zI h d l n Z).objs.size,.ref (zE h d l n Z).objs.size])}
def aed (knd:KeyKind prog w Kt)(v l d:BK)(ps:List (Kt×Value))(Z:Nat)(ys:Η):
  MeetsIn prog w (Builtin.«zip.__new__» #[[.type "zip",.ref v,.ref l],[]]) (λ_ R s=>s.heap.IsValuesView v d/\s.heap.DictAt knd d ps Z/\s.heap.IsList l ys/\
   R (.ok (.ret (.ref (yy s.heap d l ps.length Z).objs.size))) {s with heap:=σ3 s.heap d l ps.length Z}):=
 .of_wp λA R s h=>by
  let(X,g,U,Y,os):=s;let(M,N,P,q):=h;let L:=sub_zip;let T:Heap.IsValuesView (Shared.heap (X,g,U,Y,os)) v d:=M;let Q:Heap.DictAt knd (Shared.heap (X,g,U,Y,os)) d ps Z:=N;let S:Heap.IsList (Shared.heap (X.push {cls:=.type "dict_valueiterator",data:=.fields (List.toArray [.ref d,.int 0 0,.int ps.length 0,.int Z 0])},g,U,Y,os)) l ys:=Heap.IsList.push P _
  wp_walk using wpAny_pyIter_values T Q,wd S
  show(_,O,q)
def abR {ys:Η}{Q:δ}(L:s.heap.IsValuesView v d)(m:s.heap.DictAt knd d ps ep)(J:s.heap.IsList l ys)
  (q:∀h',Nn h' (s.heap.objs.size+4) (s.heap.objs.size+2) (s.heap.objs.size+3) .none->N5 h' (s.heap.objs.size+2) (.ref s.heap.objs.size) (.ref (s.heap.objs.size+1))->
   N5 h' (s.heap.objs.size+3) .none .none->h'.IsValIter s.heap.objs.size d 0 ps.length ep->h'.IsListIter (s.heap.objs.size+1) l 0->(∀c o,s.heap.get? c=some o->h'.get? c=some o)->Q (.ref (s.heap.objs.size+4)) {s with heap:=h'}):
  CB (CL prog w) A (call (.type "zip") [.ref v,.ref l]) Q E s:=by
 show callType_newIn F.called_zip cr (F.typeCall_zip_2 _ _) (F.newCall_zip_2 _ _) (λT=>F.args_object_init_3 T _ _) F.entry_zip_new (aed knd v l d ps ep ys) (L,m,J,?_);let U:(zq s.heap d ps.length ep).objs.size=s.heap.objs.size+1:=Pk ..;let X:(zI s.heap d l ps.length ep).objs.size=s.heap.objs.size+2:=by rw [Pk,U]
 let Y:(zE s.heap d l ps.length ep).objs.size=s.heap.objs.size+3:=by rw [Pk,X]
 let R:(yy s.heap d l ps.length ep).objs.size=s.heap.objs.size+4:=by rw [Pk,Y]
 let Z:∀{h:Heap} {c:BK} {o p:Obj},h.get? c=some o->(h.push p).get? c=some o:=λe=>GY _ e;let S:(σ3 s.heap d l ps.length ep).get? (yy s.heap d l ps.length ep).objs.size=some _:=JO _ rfl;let P:(σ3 s.heap d l ps.length ep).get? (zE s.heap d l ps.length ep).objs.size=some _:=Z (JO _ rfl);let N:(σ3 s.heap d l ps.length ep).get? (zI s.heap d l ps.length ep).objs.size=some _:=Z (Z (JO _ rfl));let M:(σ3 s.heap d l ps.length ep).get? (zq s.heap d ps.length ep).objs.size=some _:=Z (Z (Z (JO _ rfl)));let I:(σ3 s.heap d l ps.length ep).get? s.heap.objs.size=some _:=Z (Z (Z (Z (JO _ rfl))));change _/\_;rw [X,Y,R] at S;rw [U,X] at N;rw [Y] at P;rw [U] at M;rw [R];show#[(_,S,O),q _ S N P (_,I,O,O) (_,M,O,O) λc o x=>Z (Z (Z (Z (Z x))))]
end
def RF (K:Frag)(d:BK)(o:Obj)(AP:γ)(b:BK):It:=
 (λi H=>H d=some (.eR o (.dK AP))/\i<AP.length/\∃Z y,aT K H b Z/\Z[i]?=some y,
  λi H v Y=>∃p k x y,AP[i]?=some (k,x)/\(∀Z,aT K H b Z->Z[i]?=some y)/\v=.ref p/\H p=none/\Y=upd H p (.tup [x,y]),
  λi H=>H d=some (.eR o (.dK AP))/\AP.length<=i)
def adx {K:Frag}{es:Ε}(d b z TI TO U Z:BK)(o:Obj)(AP:γ)(he:o.data=.dict TR ep)(D:ZipApart z TI TO U Z d b):
  Turn P w K (.Tuple es k pos) (RF K d o AP b) [z,TI,TO,U,Z] z (λi h=>Nn h z TI TO .none/\N5 h TI (.ref U) (.ref Z)/\(∃x y,N5 h TO x y)/\h.IsValIter U d i AP.length ep/\h.IsListIter Z b i) where
 mem:=by simp
 obj:=λi h st c L=>by
  let(R,S,(x,y,M),(o1,p,c1,d1),(o2,e2,c2,d2)):=st;have j :c=z\/c=TI\/c=TO\/c=U\/c=Z:=by simpa using L
  rcases j with e|e|e|e|e<;>subst e
  ·show(_,R,λv z=>by cases z)
  ·show(_,S,λv z=>by cases z)
  ·show(_,M,λv z=>by cases z)
  ·show(_,p,λv z=>by erw [d1] at z)
  ·show(_,e2,λv z=>by erw [d2] at z)
 keep:=λi h A st k=>by
  let(R,S,(x,y,M),Q,G):=st;show(k z fD _ R,k TI fD _ S,(x,y,k TO fD _ M),Q.at λo e=>k U fD o e,G.at λo e=>k Z fD o e)
 item:=by
  intro X hP f hK L i pX s Y H E I B st a;subst hP f hK;let(R,S,(x0,y0,M),Q,G):=st;let(fz,hi,ys,y,qy,ey):=a;let(hd,vs,T,da,_):=k_ I.bO fz he;let ek:AP[i]?=some AP[i]:=gE hi;let((k',u),ev,p,ru):=aw T ek;let C:=T.length;rw [C] at Q;let(X8,qf,p',_):=I.list qy;let(v,hv,m):=qf.get ey;show adZ D R S M Q da G p'.isList ev (y:=v) (by simpa using hv) λA a1 a2 a3 a4 a5 a7=>?_;show(_,O,wpAny_letOwnedTupleGo_zip (s:={s with heap:=A}) a1 λLO b1 sb=>?_);let nz:∀c,c≠z->∀o,A.get? c=some o->LO.get? c=some o:=λc L o e=>(sb.2 c L).trans e
  let g:∀b o,b∉[z,TI,TO,U,Z]->s.heap.get? b=some o->LO.get? b=some o:=λb o J e=>by
   have N :b≠z/\b≠TI/\b≠TO/\b≠U/\b≠Z:=by simpa using J
   show nz b N.1 o (a7 b o N.1 N.2.2.1 N.2.2.2.1 N.2.2.2.2 e)
  let sz:∀c o,s.heap.get? c=some o->s.heap.objs.size≠c:=λc o e=>VG (HF e);let hn:=I.bO.fresh (DH s.heap.objs.size)
  let I2:Inv X pX Y (upd H s.heap.objs.size (.tup [AP[i].2,y])) {s with heap:=LO,toks:=s.toks}:=
   Inv.sN I g B (DH _) (by change 2<=DC;decide) (BN:=[u,v]) (.cons ru (.cons m .nil)) (_,nz _ (sz _ _ R) _ a5,O,_,O)
  rw [<-C] at a3;show(.ref s.heap.objs.size,_,I2,O,(s.heap.objs.size,AP[i].1,AP[i].2,y,ek,λys' q=>by rwa [I.jh q qy],O,hn,O),(b1,nz _ D.TIz _ (a7 _ _ D.TIz D.TITO D.TIi1 D.TIi2 S),(_,_,nz _ D.TOz _ a2),a3.at λo e=>nz _ D.i1z o e,a4.at λo e=>nz _ D.i2z o e),λb J=>?_)
  let ob:∃o,s.heap.get? b=some o:=by
   let(o1,p,_):=Q;let(o2,e2,_):=G;have j :b=z\/b=TI\/b=TO\/b=U\/b=Z:=by simpa using J
   rcases j with e|e|e|e|e<;>subst e
   ·show#[_,R]
   ·show#[_,S]
   ·show#[_,M]
   ·show#[_,p]
   ·show#[_,e2]
  let(o,e):=ob;rw [aj (G' (sz _ _ e))];show(B b J).1
 done:=by
  intro X hP f hK L i pX s Y H E I B st a;subst hP f hK;let(R,S,(x0,y0,M),Q,G):=st;let(fz,hi):=a;let(hd,vs,T,da,_):=k_ I.bO fz he;let C:=T.length;rw [C] at Q;show ahx (I.ok.hd L) D.i1z D.l1z R S Q da ce λA g=>#[O,Inv.jK I (λb o J e=>?_) B];have N :b≠z/\b≠TI/\b≠TO/\b≠U/\b≠Z:=by simpa using J
  show g b o N.1 N.2.2.2.1 e
 self:=λ_ _ _ _ _ st h=>wc st.1 h
section
variable {X:Cx}
def ad0 (K:Frag)(P:TE)(N:TA):TI:=λY H R=>P Y H λx T=>∃d,x=.ref d/\(∃Z,T d=some (.dK Z))/\N Y T λQ U=>∃b Z,Q=[.ref b]/\(∃S,aT K U b S)/\U d=some (.dK Z)/\∀o,R (RF K d o Z b) (upd U d (.eR o (.dK Z)))
def Inv.α8 {Y:L2.St}(I:Inv X pX Y H s)(h:s.heap.get? a=some o/\H a=none/\a≠X.env.locals/\a∉X.fs/\∀v,o.data≠.cell v):Inv X ((a,o)::pX) Y H s:=by
 show(I.ok,I.os,I.bare,I.lM,I.loc,I.cell,I.free,I.jg,λp Z=>?_,I.bO,I.len)
 rcases HZ.mp Z with z|z
 ·show I.pin p (Ny _ z)
 ·rcases JP.mp z with z|z
  ·rw [z]
   show h
  ·show I.pin p (QP _ z)
def Inv.VI {pX:ζ}{Y:L2.St}(I:Inv X (p::pX) Y H s):Inv X pX Y H s:=by
 show(I.ok,I.os,I.bare,I.lM,I.loc,I.cell,I.free,I.jg,λp Z=>?_,I.bO,I.len)
 rcases HZ.mp Z with z|z
 ·show I.pin p (Ny _ z)
 ·show I.pin p (QP _ (IH _ z))
def adl {p T U Q:Pos}{es:Ε}{k:Nat}{x6:Pos}(hg:Gl X "zip")(hm:X.mg "zip"=none)(ho:PE X e te)(ha:PA X [e2] ta)
  (hs:HE [.Call (.Attribute e "values" U) [] [] Q,e2] X.env=[(false,EI (.Call (.Attribute e "values" U) [] [] Q) X.env),(false,EI e2 X.env)]:=by rfl) (C:HE [e2] X.env=[(false,EI e2 X.env)]:=by rfl)
  (ou:VC e "values" X.env (EI e X.env)=EI e X.env:=by rfl) (oy:(U.endLine==Q.line)=true:=by rfl):
  PI X (.Tuple es k x6) (.Call (.Name "zip" p) [.Call (.Attribute e "values" U) [] [] Q,e2] [] T) (ad0 X.K te ta):=by
 intro g s Y H R I h;show Call_ (jG I hg hm boot_zip (We ?_ (by rw [hs,C]) (by rw [C];rfl)));rw [hs];change CB _ _ (spliced ((false,EI (.Call (.Attribute e "values" U) [] [] Q) X.env)::NK T [(false,EI e2 X.env)])) _ _ s;show ZQ (MA ou oy (cK (ho g s Y H _ I h) λv S ⟨x,H1,P,r1,q1⟩=>?_));let(d,rfl,(L,e0),q):=q1;cases r1;let(h1,h2,hd):=um P (.inl #[L,.inl e0]);let(_,_,N,alo,E):=km P.bO e0;show("dict","dict.values",MX,Mc,F.type_dict_values,h1,h2,Wg rfl (LX ?_));show Vd Mc h1 F.entry_dict_values (F.args_dict_values_1 _) (meets_dict_values (bF X.prog X.w) d hd) #[#[N,E],?_];let I2:Inv X g Y H1 {S with heap:=S.heap.push {cls:=.type "dict_values",data:=.fields (List.toArray [.ref d])}}:=P.kept (t':=S.toks) λb o e=>GY _ e;let(f0,f1,f2,f3,f4,f5):=P.mS (DH S.heap.objs.size) (P.bO.fresh (DH _));let I3:=Inv.α8 I2 (a:=S.heap.objs.size) (o:={cls:=.type "dict_values",data:=.fields (List.toArray [.ref d])}) (JO _ rfl,f0,f1,f2,λv z=>by cases z);let G:NK T [(false,EI e2 X.env)]=NK T (HE [e2] X.env):=by rw [C]
 change CB _ _ (spliced (NK T [(false,EI e2 X.env)])) _ _ _;rw [G];show cK (ha T _ _ Y H1 _ I3 q) λus Z ⟨ws,H3,I4,m,q4⟩=>?_;let(b,AP,rfl,(ys,hy),ed,q):=q4;obtain ⟨u,rfl⟩:∃u,us=[u]:=by cases m with|cons h t=>cases t;show#[_,O]
 cases m with
 | cons rb _=>
 cases rb;let hv:=(I4.pin (S.heap.objs.size,_) (QP _ IU)).1;let A:=Inv.VI I4;let(z,PX,vs,M,o,ZR,ep,D,hx,f,J,hp,hn):=km A.bO ed;let da:Z.heap.DictAt (bF X.prog X.w) d vs ep:=(o,ZR,D,hx,f,J,hp,hn);let lv:=M.length;let B:=Inv.freeze A ed D;let(X8,qf,i,_):=A.list hy;let lt1:d<Z.heap.objs.size:=HF D;let lt2:b<Z.heap.objs.size:=by let(ob,e1,_):=i.isList;show HF e1
 show abR (knd:=bF X.prog X.w) (d:=d) (_,hv,O,O) da i.isList λh' hz ia lQ y ZF J=>wc (s:={Z with heap:=h'}) hz ?_;rw [<-lv] at y;show(Z.heap.objs.size+4,[Z.heap.objs.size+4,Z.heap.objs.size+2,Z.heap.objs.size+3,Z.heap.objs.size,Z.heap.objs.size+1],_,_,_,O,B.kept (t':=Z.toks) J,adx d b _ _ _ _ _ o AP f ?_,(hz,ia,(_,_,lQ),y,ZF),λc hc=>?_,q o)
 ·constructor<;>(intro z;simp only [BK] at*;omega)
 ·have j :Z.heap.objs.size<=c:=by
   have:c=Z.heap.objs.size+4\/c=Z.heap.objs.size+2\/c=Z.heap.objs.size+3\/c=Z.heap.objs.size\/c=Z.heap.objs.size+1:=by simpa using hc
   simp only [BK] at*;omega
  show B.mS j (B.bO.fresh j)
def ace {K:Frag}{g:TG}{Q:TS}{D:Ends}(Z:Nat->L2.St->Hp->Prop)(c:AP.length<=ys.length)(u:Z 0 Y H)(B:∀i Y H,i<=AP.length->Z i Y H->H d=some (.eR o (.dK AP))/\aT K H b ys)
  (C:∀i k x y Y H p,AP[i]?=some (k,x)->ys[i]?=some y->Z i Y H->H p=none->g (.ref p) Y (upd H p (.tup [x,y])) λT R=>Q {D with nx:=Z (i+1),ct:=Z (i+1),bk:=D.nx} T R) (w:∀Y H,Z AP.length Y H->D.nx Y H):
  ∃W:Nat->Nat->L2.St->Hp->Prop,(∃m,W 0 m Y H)/\∀i m Y H,W i m Y H->
   ((RF K d o AP b).stop i H/\D.nx Y H)\/((RF K d o AP b).go i H/\∃N:L2.St->Hp->Prop,(∀S U,N S U ->∃L,L<m/\W (i+1) L S U)/\∀x U,(RF K d o AP b).GV i H x U ->g x Y U λT R=>Q {D with nx:=N,ct:=N,bk:=D.nx} T R):=by
 show(λi m Y H=>m=AP.length-i/\i<=AP.length/\Z i Y H,(AP.length,by simp,NF _,u),?_);rintro i m Y H ⟨rfl,A,p⟩;let(M,P):=B i Y H A p;by_cases E:i<AP.length
 ·let q:ys[i]?=some ys[i]:=gE ce
  show .inr ((M,E,ys,ys[i],P,q),Z (i+1),λS U z=>(AP.length-(i+1),ce,O,ce,z),λx U y=>?_);let(a,k,I,J,j,f,rfl,G,rfl):=y;show C i k I J Y _ a j (f ys P) p G
 ·let e:i=AP.length:=ce
  subst e;show .inl #[#[M,DH _],w Y H p]
end
section
variable {D:BK}{te:TE}{pS:L2.St}{H1:Hp}{Q:VK}
def abo (J:List V->Hp->Prop)(T:H1 D=none)(L:n<DC)(M:J [] (upd H1 D (.lst [])))
  (P:∀(i:Nat) ys H (R:VK),i<n->ys.length=i->J ys H->aq H1 H->H D=some (.lst ys)->(∀v Z,aq H Z->J (ys++[v]) (upd Z D (.lst (ys++[v])))->R v Z)->te (some (.int (0+(i:Int)))::pS) H R)
  (N:∀ys H,ys.length=n->J ys H->aq H1 H->H D=some (.lst ys)->Q (.ref D) H):
  mm D (cE 0) kz te (U5 0 n) (none::pS) H1 Q:=by
 show yl n (λi=>.int (0+(i:Int))) (λi ys H=>ys.length=i/\J ys H/\aq H1 H) (O,M,λb o e=>by rwa [aj (ao e T)]) ?_ ?_ ?_ ?_
 ·rintro i ys H X _
  show#[X,λx I y=>y]
 ·rintro ys H _
  show DH n
 ·rintro i ys H R X ⟨l,j,s⟩ Y k
  show P i ys H R X l j s Y λv Z U S=>k v Z (U _ _ Y) ce (by simp [l],S,λb o e=>by rw [aj (ao e T)];show U _ _ (s _ _ e))
 ·rintro ys H ⟨l,j,s⟩ Y
  show N ys H l j s Y
end
def acd {K:Frag}(h:X.K=K)(Z:X.A.units+64<NS):kc X (NR .NotEq) (LG K):=by subst h;show oE Z
def ac' (x y z:Value):argsOk "min" #[[x,y,z],[]]:=by
 unfold argsOk
 kernel_rfl
abbrev vZ (i j k:Int)(t u v:Tok):Array (Int×Tok):= (List.toArray [(i,t),(j,u),(k,v)])
def zav {E:δ}{R:δ}(f:B.handled=none)
  (h:∀(m:Int)(X:Tok)(h':Heap)(n:Nat),(m=i\/m=j\/m=k)->m<=i->m<=j->m<=k->(∀b o,s.heap.get? b=some o->h'.get? b=some o)->R (.int m X) {s with heap:=h',toks:=n}):
  CB (CL P w) B (call (.builtin "min") [.int i t,.int j u,.int k v]) R E s:=by
 let C:(toString "min"++toString ".loop":String)="min.loop":=cr
 let tup:(s.heap.push {cls:=.type "tuple",data:=.seq (List.toArray [Value.int i t,Value.int j u,Value.int k v])}).IsTuple s.heap.objs.size (intItems (vZ i j k t u v)):=
  (_,JO _ rfl,O,0,by simp [intItems])
 let N:(s.heap.push {cls:=.type "tuple",data:=.seq (List.toArray [Value.int i t,Value.int j u,Value.int k v])}).objs.size=s.heap.objs.size+1:=
  Pk ..
 let Q:(intItems (vZ i j k t u v)).size=3:=by simp [intItems]
 show call_function_tree F.kind_min F.plain_min F.entry_min
  (ac' _ _ _) ?_
 change CB _ B.in1 (Builtin.Builtins.bindParams "min"
  ["key","default"] 0 #[[],[]] >>=_) _ _ s
 show BL (wpAny_of_eq (show Builtin.Builtins.bindParams "min"
  ["key","default"] 0 #[[],[]]=pure [none,none] from rfl) ?_)
 change CB _ B.in1 (newTuple [.int i t,.int j u,.int k v] >>=_) _ _ s;show BL (U3 ?_ (by change 3<=DC;decide));show BL (wpAny_pyIter_tuple tup ?_);show BL (U3 ?_ (by first|(change 0<=DC;decide)|(change 1<=DC;decide)|(change 2<=DC;decide)));rw [C];let y:s.heap.objs.size≠(s.heap.push {cls:=.type "tuple",data:=.seq (List.toArray [Value.int i t,Value.int j u,Value.int k v])}).objs.size:=by rw [N];omega
 let W:=Walks.tuple (prog:=P) (w:=w) (A:=B.in1) f _ s.heap.objs.size y (intItems (vZ i j k t u v))
 let low:∀b,b∈[(s.heap.push {cls:=.type "tuple",data:=.seq (List.toArray [Value.int i t,Value.int j u,Value.int k v])}).objs.size,s.heap.objs.size]->b<s.heap.objs.size+2:=λb I =>by
  rw [N] at I
  rcases JP.mp I with e|I
  ·omega
  ·have:=HU.mp I
   omega
 show DT #[VB F.plain_min_loop _,?_]
 show codeAny_min_loop_first W _ (CmpOf.ints_lt (numAt (vZ i j k t u v)) λ_ _=>intItems_at) _ (λD=>?_) (by rw [Q];decide)
  (W.frame 0 _ _ #[(_,JO _ rfl,O,O),tup.push _] λb _ o e=>GY _ e) (JO _ rfl) λr h' n p g=>?_
 ·have:=low _ D
  revert this
  change ¬ ((s.heap.push _).push _).objs.size<_;rw [Pk,N];omega
 ·rw [Q] at p
  let J:numAt (vZ i j k t u v) 0=i:=rfl;let L:numAt (vZ i j k t u v) 1=j:=rfl;let M:numAt (vZ i j k t u v) 2=k:=rfl
  obtain ⟨a,ea,c⟩:∃a,argBest (λq x=>decide (numAt (vZ i j k t u v) q<numAt (vZ i j k t u v) x)) 2=a/\((a=0/\i<=j/\i<=k)\/(a=1/\j<=i/\j<=k)\/(a=2/\k<=i/\k<=j)):=by
   show(_,O,?_);by_cases H:j<i
   ·by_cases S:k<j
    ·show .inr (.inr (by simp [argBest,J,L,M,H,S],ce,ce))
    ·show .inr (.inl (by simp [argBest,J,L,M,H,S],ce,ce))
   ·by_cases S:k<i
    ·show .inr (.inr (by simp [argBest,J,L,M,H,S],ce,ce))
    ·show .inl (by simp [argBest,J,L,M,H,S],ce,ce)
  let G:(intItems (vZ i j k t u v))[a]?=some r:=by rwa [<-ea]
  let(X,rfl):=intItems_at G
  let Y:∀b o,s.heap.get? b=some o->h'.get? b=some o:=λb o e=>by
   show g b o (λD=>?_) (λz=>?_) (GY _ (GY _ (GY _ e)))
   ·have:=HF e
    rw [HU.mp D] at this;let Z:(s.heap.push {cls:=.type "tuple",data:=.seq (List.toArray [Value.int i t,Value.int j u,Value.int k v])}).objs.size<s.heap.objs.size:=this;rw [N] at Z;omega
   ·have:=HF e
    rw [z] at this;let Z:((s.heap.push _).push _).objs.size<s.heap.objs.size:=this;rw [Pk,N] at Z;omega
  rcases c with ⟨rfl,T,U⟩|⟨rfl,T,U⟩|⟨rfl,T,U⟩
  ·show h i X h' n (.inl rfl) (LH _) T U Y
  ·show h j X h' n (.inr (.inl rfl)) T (LH _) U Y
  ·show h k X h' n (.inr (.inr rfl)) T U (LH _) Y
section
variable {X:Cx}
def vals3 {us:ο}(r:Vals [x,y,z] us):∃a b c,us=[a,b,c]/\RelV x a/\RelV y b/\RelV z c:=by
 cases r with
 | cons T U=>
  let(b,c,rfl,Y,Z):=vals2 U;show(_,b,c,O,T,Y,Z)
inductive Ye (xs:ε)(H:Hp)(Q:VK):Prop
|mk (i j k:Int)(_:xs=[.int i,.int j,.int k])(_:∀m:Int,(m=i\/m=j\/m=k)->m<=i->m<=j->m<=k->Q (.int m) H)
def abX (T:X.calm=true):gP X (.builtin "min") Ye:=by
 intro G s Y H xs M Q I r h;let(i,j,k,rfl,q):=h;let(a,b,c,rfl,(t,rfl),(J,rfl),(Z,rfl)):=vals3 r;show zav (I.ok.hd T) λm L E n N P R S U=>(.int m,H,I.kept U,#[_,O],q m N P R S)
end
section
variable {prog:HY}{w:World}{A:JI}{E:δ}{s:DI}
open MeetsSeq MeetsSeq2 MeetsSeq3 SeqRoads2 in
def acw {l b:BK}{xs ys:Η}{M N:Nat}{G H:Κ}{P Q:Μ}(hsz:xs.size=ys.size)(k:Nat):∀i:Nat,xs.size-i=k->
  MeetsIn prog w (Builtin.«list.__eq__.loop» #[[.ref l,.ref b,NH i,NH 3],[]]) (λA R s=>s.heap.get? l=some (.type "list",G,.seq xs M,P)/\s.heap.get? b=some (.type "list",H,.seq ys N,Q)/\
   (∀j (Y:j<xs.size) (Z:j<ys.size),CY prog w A.in1 s xs[j] ys[j])/\R (.ok (.ret (.bool false))) s):=by
 induction k with
 | zero=>
  intro i I A R s q;let(J,g,d,S,os):=s;let(Y,Z,_,q):=q
  wp_walk using Ve Y,Ve Z
  rw [show xs[((i:Nat):Int).toNat]?=none by simp;omega,show ys[((i:Nat):Int).toNat]?=none by simp;omega]
  wp_walk using Ve Y,Ve Z
  change R (.ok (.ret (.bool (xs.size !=ys.size)))) _;rwa [hsz,bne_self_eq_false]
 | succ k L=>
  intro i I A R s q;let(J,g,d,S,os):=s;let(Y,Z,T,q):=q
  wp_walk using Ve Y,Ve Z
  let U:i<xs.size:=ce
  let X:i<ys.size:=ce
  rw [show xs[((i:Nat):Int).toNat]?=some xs[i] by simp [U],show ys[((i:Nat):Int).toNat]?=some ys[i] by simp [X]];show BL (T i U X _ _ ?_)
  wp_walk
  rw [show((i:Int)+1)=((i+1:Nat):Int) by push_cast;rfl];show#[VB plain_eq_loop _,ZC entry_eq_loop ?_];rw [ZH plain_eq_loop _];show L (i+1) ce A R _ (Y,Z,T,q)
open MeetsSeq MeetsSeq2 MeetsSeq3 SeqRoads2 in
def acT {l b:BK}{xs ys:Η}{S T:Nat}{N P:Κ}{U X:Μ}(hsz:xs.size=ys.size):
  MeetsIn prog w (Builtin.«list.__ne__» #[[.ref l,.ref b],[]]) (λA R s=>s.heap.get? l=some (.type "list",N,.seq xs S,U)/\s.heap.get? b=some (.type "list",P,.seq ys T,X)/\
   (∀j (Y:j<xs.size) (Z:j<ys.size),CY prog w A.in1 s xs[j] ys[j])/\R (.ok (.ret (.bool false))) s):=by
 intro A R s q;let(L,g,d,M,os):=s;let(Y,Z,Q,q):=q;let J:=AutoSeq1.sub_list_list;let I:¬ (xs.size !=ys.size)=true:=by simp [hsz]
 wp_walk using Ve Y,Ve Z
 show#[VB plain_eq_loop _,ZC entry_eq_loop ?_];rw [ZH plain_eq_loop _];show acw hsz _ 0 rfl A R _ (Y,Z,Q,q)
def abM {xs ys:Η}(M:s.heap.IsList l xs)(N:s.heap.IsList b ys)(hsz:xs.size=ys.size)(R:A.units<NS)(P:∀j (B:j<xs.size) (C:j<ys.size),CY prog w A.in1 s xs[j] ys[j])
  {Q:δ} (q:Q (.bool false) s):CB (CL prog w) A (richCompare .NotEq (.ref l) (.ref b)) Q E s:=by
 let((p,x,J,H),Z,S,D,T):=id M;let((u,y,L,I),Y,U,G,X):=id N;simp only at S T U X;subst S T U X;show wpAny_richCompare_same_room (_,Z,O) (_,Y,O) F.slot_list_ne (Vd F.slot_list_ne (_,Z,O) F.entry_list_ne (F.args_list_ne_2 _ _) (acT hsz) (Z,Y,P,?_)) R;show#[(λz=>nomatch z),q]
end
section
variable {X:Cx}
def ad2 (K:Frag):R2:=λx y H Q=>∃p Y xs Z,x=.ref p/\y=.ref Y/\aT K H p xs/\aT K H Y Z/\xs.length=Z.length/\(∀(j:Nat)(u v:V),xs[j]?=some u->Z[j]?=some v->LW H u v)/\Q (.bl false) H
def ab' (i:X.A.units+64<NS):kc X (NR .NotEq) (ad2 X.K):=by
 intro m s Y H x y v u Q I G J h;let(p,k,xs,Z,rfl,rfl,D,E,g,C,q):=h;cases G;cases J;let(o,T,L,_):=I.list D;let(w,U,M,_):=I.list E;let c:=T.length;let f:=U.length;show abM L.isList M.isList (by simp;omega) ce (λj N P=>?_) (.bl false,H,I,O,q);let z:j<o.length:=by simpa using N
 let B:j<w.length:=by simpa using P
 let R:j<xs.length:=ce
 let S:j<Z.length:=ce
 show LW.alj I (C j xs[j] Z[j] (gE R) (gE S)) (vat T R N) (vat U S P) (by rw [in1_units];omega)
end
end Ty
namespace T_k63
open PySem PySem.Spec PyProof.Rows L2 Ty
open Builtin.Int (intBits)
abbrev ac (P:HY)(w:World)(K:Frag)(mg:ν)(lM:Heap):=Fn P w K mg lM (aX P w)
abbrev ad (P:HY)(w:World)(K:Frag)(mg:ν)(lM:Heap):=dR P w K mg lM (aX P w)
abbrev am (P:HY)(w:World)(K:Frag)(mg:ν)(lM:Heap):=bQ P w K mg lM (aX P w)
abbrev ap (a:BK):Option V:=some (.ref a)
theorem sq2 {a b c:TS}{D Y H}(s:let y:=c;let z:=HJ b y;HJ a z D Y H):HJ a (HJ b c) D Y H:=s
theorem sq3 {a b c d:TS}{D Y H}(s:let x:=d;let y:=HJ c x;let z:=HJ b y;HJ a z D Y H):HJ a (HJ b (HJ c d)) D Y H:=s
theorem sq4 {a b c d e:TS}{D Y H}(s:let w:=e;let x:=HJ d w;let y:=HJ c x;let z:=HJ b y;HJ a z D Y H):HJ a (HJ b (HJ c (HJ d e))) D Y H:=s
theorem sq6 {a b c d e f g:TS}{D Y H}(s:let u:=g;let v:=HJ f u;let w:=HJ e v;let x:=HJ d w;let y:=HJ c x;let z:=HJ b y;HJ a z D Y H):HJ a (HJ b (HJ c (HJ d (HJ e (HJ f g))))) D Y H:=s
theorem sq10 {a b c d e f g h i j k:TS}{D Y H}(s:let B:=k;let A:=HJ j B;let r:=HJ i A;let t:=HJ h r;let u:=HJ g t;let v:=HJ f u;let w:=HJ e v;let x:=HJ d w;let y:=HJ c x;let z:=HJ b y;HJ a z D Y H):HJ a (HJ b (HJ c (HJ d (HJ e (HJ f (HJ g (HJ h (HJ i (HJ j k))))))))) D Y H:=s
local macro_rules|`(tactic|sleep 2)=>`(tactic|(try dsimp only [vw,mi,Cx.BE,Cx.vS];refine sq2 ?_;intros))|`(tactic|sleep 3)=>`(tactic|(try dsimp only [vw,mi,Cx.BE,Cx.vS];refine sq3 ?_;intros))|`(tactic|sleep 4)=>`(tactic|(try dsimp only [vw,mi,Cx.BE,Cx.vS];refine sq4 ?_;intros))|`(tactic|sleep 6)=>`(tactic|(try dsimp only [vw,mi,Cx.BE,Cx.vS];refine sq6 ?_;intros))|`(tactic|sleep 10)=>`(tactic|(try dsimp only [vw,mi,Cx.BE,Cx.vS];refine sq10 ?_;intros))
abbrev bn:=Nat->L2.St->Hp->Prop
def z0L:0<=DC:=cr
def z1L:1<=DC:=cr
def rT:2<=DC:=cr
def z4L:4<=DC:=cr
def z6L:6<=DC:=cr
def z10L:10<=DC:=cr
seal L2.PE L2.PS L2.rV L2.PA
abbrev QR:List Str:=["_law_pins_here","_law_bars_here","_law_pulls_here","_law_pushes_here"]
abbrev N4:List Str:=["_law_one","_law_other"]
abbrev V3:List Str:=["_law_pins_here","_law_bars_here","_law_grips_here","_law_told","_law_load_here"]
abbrev VR:List Str:=["_law_script","_law_frame_here","_law_pins_here","_law_bars_here","_law_asked"]
abbrev JA:List Str:=["one","other"]
abbrev Pb:List Str:=["_law_cell","_law_prime","_law_many"]
abbrev Vx:List Str:=["_law_frame_here","_law_name_here","_law_spot_here","_law_ways_here"]
abbrev BY:List Str:=["_law_pins_here","_law_bars_here","_law_pulls_here","_law_pushes_here","_law_load_here"]
abbrev Rt:List Str:=["_law_pins_here","_law_motion"]
abbrev σ5:List Str:=["_law_script","_law_pins_here","_law_bars_here"]
abbrev JS:List Str:=["self"]
abbrev RO:List Str:=["_law_script","_law_k"]
abbrev V2:List Str:=["self","name","one","other"]
abbrev Rr:List Str:=["_law_top","_law_bottom"]
abbrev BX:List Str:=["_law_frame_here","_law_pins_here","_law_bars_here","_law_cell"]
abbrev VQ:List Str:=["_law_script","_law_pins_here"]
abbrev σ4:List Str:=["_law_pins_here","_law_bar","_law_axis"]
abbrev BU:List Str:=["_law_frame_here","_law_pins_here","_law_gone","_law_cell"]
abbrev qj:List Str:=["_law_found","_law_k","_law_axis","_law_draw"]
abbrev Pa:List Str:=["self","pin"]
abbrev oV:List Str:=["_law_pins_here","_law_bar","_law_motion"]
abbrev RK:List Str:=["F","one","other"]
abbrev BS:List Str:=["_law_script","_law_bars_here","_law_start"]
abbrev BM:List Str:=["_law_script","_law_pins_here","_law_start"]
abbrev zu:List Str:=["_law_pins_here","_law_bars_here"]
abbrev VP:List Str:=["top","bottom"]
abbrev Va:List Str:=["lines","many"]
abbrev CW:List Str:=["_law_load_here","_law_motion"]
abbrev CV:List Str:=["_law_script","_law_bars_here"]
abbrev CU:List Str:=["self","name","x","y","hold"]
abbrev V_:List Str:=["F","numbers"]
abbrev CT:List Str:=["_law_pins_here","_law_told"]
abbrev u6:List Str:=["_law_cell","_law_k"]
abbrev CS:List Str:=["_law_script","_law_most"]
abbrev u5:List Str:=["F","grips","load"]
abbrev CO:List Str:=["_law_cell","_law_kind"]
abbrev CN:List Str:=["line","lead","column"]
abbrev VU:List Str:=["_law_one"]
abbrev CK:List Str:=["F","firm","bar_rows"]
abbrev CI:List Str:=["rows","due","many"]
abbrev sk:List Str:=["self","x","y"]
abbrev Y_:List Str:=["F","draws"]
abbrev sj:List Str:=["rows","many"]
abbrev CH:List Str:=["lines","column"]
abbrev r_:List Str:=["self","bar"]
abbrev CC:List Str:=["firm","longer"]
abbrev rZ:List Str:=["_law_cell"]
abbrev zaV:List Str:=["whole","other","times","less"]
abbrev r6:List Str:=["_law_pin"]
abbrev CA:List Str:=["F","motion"]
abbrev qv:List Str:=["numbers"]
abbrev B_:List Str:=["F","grips"]
abbrev za0:List Str:=["share","whole"]
abbrev uG:List Str:=["_law_x"]
def sq {N P:ς}{Z:Scope}(a:Z.kind=.function:=by show O)(b:Z.isCoroutine=false:=by show O)(c:Z.isGenerator=false:=by show O)(d:N.Nodup:=by decide+kernel)(e:N.take P.length=P:=by show O)(f:∀x∈P,Z.names.lookup x=some .local\/Z.names.lookup x=some .cell:=by decide+kernel)(g:∀y∈Z.names,y.2≠.free:=by decide+kernel):ay N P Z:=(a,b,c,d,e,f,g)
def pY (P:HY)(w:World){X:Cx}:Passes (aX P w) X.BE E0:=oG aX.HQ
def pins {X:Cx}:Passes (aX P w) X.BE E0:=oG aX.HQ
def _root_.L2.cQ.mo (r:L2.cQ k A)(h:j<=k:=by decide):L2.cQ j A:=r.mono h
def aF (h:PE X a ta):PE X (.Subscript a (.Constant (.int i) j p1) p2) (U7 (QJ X.K) ta (tC (.int i))):=QI mX h ag (λ_ _=>O)
def oJ (h:PE X a ta):PE X (.Subscript a (.Constant (.int i) j p1) p2) (U7 (Vh X.K) ta (tC (.int i))):=QI aU h ag (λ_ _=>O)
def bl1{P:List Value->Prop}(h:∀a:Value,P [a]):∀us:List Value,us.length=1->P us|[_],_=>h _
def blS{P:List Value->Prop}{n:Nat}(h:∀a us,us.length=n->P (a::us)):∀us:List Value,us.length=n+1->P us|a::us,e=>h a us (Nat.succ.inj e)
def bl2{P:List Value->Prop}(h:∀a b:Value,P [a,b]):∀us:List Value,us.length=2->P us:=blS λa=>bl1 (h a)
def bl3{P:List Value->Prop}(h:∀a b c:Value,P [a,b,c]):∀us:List Value,us.length=3->P us:=blS λa=>bl2 (h a)
def bl4{P:List Value->Prop}(h:∀a b c d:Value,P [a,b,c,d]):∀us:List Value,us.length=4->P us:=blS λa=>bl3 (h a)
def bl5{P:List Value->Prop}(h:∀a b c d e:Value,P [a,b,c,d,e]):∀us:List Value,us.length=5->P us:=blS λa=>bl4 (h a)
def bl6{P:List Value->Prop}(h:∀a b c d e f:Value,P [a,b,c,d,e,f]):∀us:List Value,us.length=6->P us:=blS λa=>bl5 (h a)
def bl7{P:List Value->Prop}(h:∀a b c d e f g:Value,P [a,b,c,d,e,f,g]):∀us:List Value,us.length=7->P us:=blS λa=>bl6 (h a)
def _root_.L2.sH.Mi {K:Frag}{st:Stmt}(F:L2.sH K x qual st f fd)
 (h:∀(kV Z Y:Value)(T:Κ)(U X:Value)(us:ο),us.length=ps.length->bindArgs (fnOf x qual (av st) (au st) (ae st) .none kV Z Y T U X) #[us,[]]=pure (ps.zip us):=by intro _ _ _ _ _ _;first|show bl1 λ_=>O|show bl2 λ_ _=>O|show bl3 λ_ _ _=>O|show bl4 λ_ _ _ _=>O|show bl5 λ_ _ _ _ _=>O):Binds K fd ps []:=F.binds h
inductive pR (K:Frag)(x:Str)(st:Stmt):Prop|mk{f:BK}{S:Value}{T Q:Κ}{X:Μ}{kV Z U Y R:Value}(a:nsIn K HL x=some (some (.ref f)))(l:K.lookup f=some (S,T,.func (fnOf x x (av st) (au st) (ae st) .none kV Z U Q Y R),X))(c:codeIn K Y x=true)(k:keepIn K (.ref f)=true):pR K x st
inductive vx (K:Frag)(C:BK)(x q:Str)(st:Stmt):Prop|mk{f:BK}{S:Value}{T Q:Κ}{X:Μ}{kV Z U Y R:Value}(a:NT K (.ref C) x=some (some (.ref f)))(i:vp K (.ref f)=true)(l:K.lookup f=some (S,T,.func (fnOf x q (av st) (au st) (ae st) .none kV Z U Q Y R),X))(c:codeIn K Y q=true)(k:keepIn K (.ref f)=true):vx K C x q st
def fE {K:Frag}{mg:ν}{st:Stmt}(X:K.In h)(G:h.Ns HL mg)(H:pR K x st)
 (b:∀(kV Z Y:Value)(S:Κ)(T U:Value)(us:ο),us.length=ps.length->bindArgs (fnOf x x (av st) (au st) (ae st) .none kV Z Y S T U) #[us,[]]=pure (ps.zip us):=by intro _ _ _ _ _ _;first|show bl1 λ_=>O|show bl2 λ_ _=>O|show bl3 λ_ _ _=>O|show bl4 λ_ _ _ _=>O|show bl5 λ_ _ _ _ _=>O|show bl6 λ_ _ _ _ _ _=>O|show bl7 λ_ _ _ _ _ _ _=>O):Def K mg x st ps:=have ⟨a,l,c,k⟩:=H;Def.of (eZ l c k) ((eZ l c k).binds b) (mg_of X G a)
def top (i:Nat):Stmt:=PySem.Challenge.pw_trussyard_k63_bent_or_moves.main.body.getD i (.Pass (0,0,0,0))
abbrev iP:Stmt:=top 16
abbrev IQ:Stmt:=top 17
abbrev dY:Stmt:=top 18
abbrev DK:Stmt:=top 19
abbrev N_:Stmt:=top 20
abbrev dH:Stmt:=top 23
abbrev Oa:Stmt:=top 24
abbrev IS:Stmt:=top 25
abbrev cU:Stmt:=top 26
abbrev Ob:Stmt:=top 28
abbrev Oc:Stmt:=top 29
abbrev fq:Stmt:=top 30
abbrev Od:Stmt:=top 31
abbrev Oe:Stmt:=top 32
abbrev Of:Stmt:=top 33
abbrev Og:Stmt:=top 34
abbrev Oh:Stmt:=top 35
abbrev Oi:Stmt:=top 37
abbrev Oj:Stmt:=top 38
abbrev Ol:Stmt:=top 39
abbrev Om:Stmt:=top 40
abbrev Oo:Stmt:=top 41
abbrev Oq:Stmt:=top 42
abbrev Ot:Stmt:=top 43
abbrev Ou:Stmt:=top 44
abbrev iG:Stmt:=top 46
abbrev fP:Stmt:=top 47
abbrev iH:Stmt:=top 48
abbrev fQ:Stmt:=top 49
abbrev ft:Stmt:=top 50
abbrev Ov:Stmt:=top 60
abbrev Ow:Stmt:=top 61
abbrev Ox:Stmt:=top 62
abbrev Oy:Stmt:=top 63
abbrev Oz:Stmt:=top 64
abbrev OA:Stmt:=top 65
abbrev gC:Stmt:=top 66
abbrev OB:Stmt:=top 67
abbrev OC:Stmt:=top 68
abbrev OD:Stmt:=top 69
abbrev OE:Stmt:=top 70
abbrev OF:Stmt:=top 71
abbrev OG:Stmt:=top 72
abbrev eE:Stmt:=top 73
abbrev OH:Stmt:=top 74
abbrev OI:Stmt:=top 75
abbrev OJ:Stmt:=top 76
abbrev OK:Stmt:=top 77
abbrev OL:Stmt:=top 78
abbrev OM:Stmt:=top 79
abbrev ON:Stmt:=top 80
abbrev OO:Stmt:=top 81
abbrev OP:Stmt:=top 82
abbrev OQ:Stmt:=top 83
abbrev OR:Stmt:=top 84
abbrev fS:Stmt:=top 85
abbrev fT:Stmt:=top 86
abbrev fu:Stmt:=top 87
abbrev eI:Stmt:=top 88
abbrev gD:Stmt:=top 89
abbrev s_by:Stmt:=top 90
abbrev OS:Stmt:=top 91
abbrev OT:Stmt:=top 92
abbrev eJ:Stmt:=top 93
abbrev fw:Stmt:=top 94
abbrev fU:Stmt:=top 95
abbrev fV:Stmt:=top 96
abbrev fB:Stmt:=top 97
abbrev oK:Stmt:=top 98
abbrev OU:Stmt:=inClass (top 54) 0
abbrev r8:Stmt:=inClass (top 54) 1
abbrev OV:Stmt:=inClass (top 54) 2
abbrev OW:Stmt:=inClass (top 54) 3
abbrev OX:Stmt:=inClass (top 54) 4
abbrev cR:Stmt:=inClass (top 54) 6
abbrev OY:Stmt:=inClass (top 54) 7
abbrev OZ:Stmt:=inClass (top 54) 8
abbrev O0:Stmt:=inClass (top 54) 9
abbrev O1:Stmt:=inClass (top 54) 10
abbrev O3:Stmt:=inClass (top 54) 11
abbrev VO:Stmt:=inClass (top 56) 0
abbrev O5:Stmt:=inClass (top 57) 0
abbrev O6:Stmt:=inClass (top 57) 1
abbrev O7:Stmt:=inClass (top 58) 0
section
variable {P:HY}{w:World}{K:Frag}{mg:ν}{lM:Heap}{CX:oh}
def Nm (H:Hp)(v:V)(q:Int×Int):Prop:=∃p,v=.ref p/\H p=some (.tup [.int q.1,.int q.2])
structure Okn (k:Nat)(q:Int×Int):Prop where
 pos:0<q.2
 top:intBits q.1<=k
 bot:intBits q.2<=k
def aK (h:H p=none)(o:HO):aq H (upd H p o):=λb u q=>by rwa [aj (ao q h)]
def nw (n:H l=none)(e:upd H l o=H'):aq H H'/\H' l=some o:=by subst e;show#[aK n o,ak]
local macro_rules|`(tactic|intros $l:ident $n:ident $h:ident $s:ident $e:ident)=>`(tactic|(intro $l:ident $n:ident;generalize eX:upd _ $l _=$h;have ⟨$s,$e⟩:=nw $n eX))
def gives (H:Hp)(Q:VK)(q:Int×Int):Prop:=∀(p:BK)(Z:Hp),aq H Z ->Z p=some (.tup [.int q.1,.int q.2])->Q (.ref p) Z
inductive jz (vs:ε)(H:Hp)(Q:VK)(Z:XK):Prop
|mk (a b:Int)(_:vs=[.int a,.int b])(_:Q (.int (gz a b)) H)
def addQ (x y:Int×Int):Int×Int:=low (x.1*y.2+y.1*x.2) (x.2*y.2)
def subQ (x y:Int×Int):Int×Int:=low (x.1*y.2-y.1*x.2) (x.2*y.2)
def mulQ (x y:Int×Int):Int×Int:=low (x.1*y.1) (x.2*y.2)
def yD (Y:Okn k x)(Z:Okn l y):x.2*y.2≠0:=Nd (UX Y.pos Z.pos)
def i6 {a b:V}:hW [a,b] 0=some a:=rfl
def iW {a b:V}:hW [a,b] 1=some b:=rfl
def Nm.kept (h:Nm H v q)(Z:H D=some (.lst ys))(k:bM D H H'):Nm H' v q:=by
 let(p,e,z):=h;show(p,e,k p _ (λe=>by erw [e,Z] at z) z)
inductive Ln (H:Hp)(v:V)(l:ξ):Prop
|mk (p:_)(_:v=.ref p)(_:H p=some (.lst (l.map V.int)))
def Ln.lO (h:Ln H v l)(s:aq H H'):Ln H' v l:=by
 let(p,e,k):=h;show(p,e,s _ _ k)
def vP (H:Hp)(us:ε)(Z:θ):Prop:=us.length=Z.length/\∀(i:Nat)(u:V)(l:ξ),us[i]?=some u->Z[i]?=some l->Ln H u l
theorem vP.lO (h:vP H us ls)(s:aq H H'):vP H' us ls:=#[h.1,λi u l Y Z=>(h.2 i u l Y Z).lO s]
def xG {l:ξ}(h:j<l.length):hW (l.map V.int) (j:Int)=some (.int (l.getD j 0)):=bH (by rw [CP,gE h,NM,gE h];rfl)
def getD_mem {l:ξ}(e:l[j]?=some x):l.getD j 0=x:=by rw [NM,e];rfl
def Bd (b:Nat)(l:ξ):Prop:=∀j,(l.getD j 0).natAbs<=2^b
def Bd.mem (h:Bd b l)(Z:x∈l):x.natAbs<=2^b:=by
 let(i,Y):=JG Z;rw [<-getD_mem Y];show h i
def Bd.up (h:Bd b l)(Z:b<=c):Bd c l:=λj=>ue (h j) Z
def Mj:ay ["one","other","left"] JA (ae N_):=sq
def ad4 (D:Def K mg "greatest_shared" N_ JA)(U:mg "abs"=none):Fn P w K mg lM CX 1 "greatest_shared" JA jz:=by
 show D.oo Mj λH Q h=>?_;let(a,b,rfl,q):=h
 show(_,(aa (tJ HG (bE iu (pv 1) ag) (aa (aI 2 Mj.nd (aD eO (pv 0) (pv 1))) (aa (aI 0 Mj.nd (pv 1)) (ah (aI 1 Mj.nd (pv 2)))))) (ah (aE (aJ zar rfl U X3 (aZ (pv 0)))))),?_)
 show zaw (λY X=>GJ λ(x y:Int) (l:χ)=>Y=[some (.int x),some (.int y),l]/\X=H/\JZ x y=JZ a b) (λY _=>match Y with|[_,some (.int y),_]=>y.natAbs|_=>0) (a,b,none,O,O,O) ?_ ?_
 ·rintro Y X ⟨x,y,l,rfl,rfl,g⟩
  show(_,O,O,_,O,?_);show bq (λc=>?_) (λc=>?_)
  ·let Z:y≠0:=by
    intro z;subst z;simp at c
   show(_,O,_,O,_,_,O,O,Z,_,O,_,O,(_,_,_,O,O,by rwa [zaX]),xk Z)
  ·let Z:y=0:=by
    have:=EN.mpr c;simp at this;show this
   subst Z;show(_,O,x,O,?_)
   let e:(if x<0 then -x else x)=gz a b:=by
    rw [akh] at g;unfold gz;rw [<-g];split<;>omega
   rwa [e]
 ·rintro Y X M N h ⟨v,R,S,k,T,z⟩
  show(v,R,S,k,T,h _ _ z)
inductive gF (vs:ε)(H:Hp)(Q:VK)(Z:XK):Prop
|mk (t b:Int)(_:vs=[.int t,.int b])(_:b≠0)(_:gives H Q (low t b))
def RL:ay ["top","bottom","shared"] VP (ae DK):=sq
def ad5 (S:P.given.tree=none)(D:Def K mg "lowest_terms" DK VP)(I:ac P w K mg lM 1 "greatest_shared" JA jz):ac P w K mg lM 33 "lowest_terms" VP gF:=by
 show D.op RL λf J A N s H C Q E Z h=>?_;let(t,b,rfl,L,q):=h
 let X:∃U,rV (mi (aX P w) P w K mg lM ["top","bottom","shared"] "lowest_terms" (ae DK) f J A N s H E).BE ((au DK).drop 2) U/\∀g:Int,g=sg t b->U {nx:=λ_ G=>Q .cW G,rt:=Q} [some (.int t),some (.int b),some (.int g)] H:=by
  show(_,(ah (aE (aS (aH (aD (iM S (Ty.cQ.py Z cr) rfl rfl rfl rfl rfl) (pv 0) (pv 2)) (aD (iM S (Ty.cQ.py Z cr) rfl rfl rfl rfl rfl) (pv 1) (pv 2)))))),?_);rintro g rfl;let c:=tV (t:=t) L;show(_,O,_,O,_,_,O,O,c,_,O,_,O,_,_,O,O,c,rT,λp M=>?_);show q p _ (aK M _) ak
 let(B,R,T):=X;show(_,(aa (aI 2 RL.nd (aL I Z (aH (pv 0) (pv 1)))) (aa (bw (bE q5 (pv 1) ag) (ah (aI 2 RL.nd (tN mT (pv 2)))) aR) R)),_,O,_,O,t,b,O,_,O,_,_,O,O,_,O,?_);show bq (λc=>?_) (λc=>?_)
 ·show(_,O,_,O,T _ ?_)
  let Y:b<0:=Nl c;unfold sg;rw [ox Y]
 ·show T _ ?_
  let Y:¬ b<0:=of_decide_eq_false (EN.mpr c);unfold sg;rw [mQ Y]
inductive α9 (K:Frag)(vs:ε)(H:Hp)(Q:VK)(Z:XK):Prop
|mk (a:BK)(qs:π)(T B:Nat)(_:vs=[.ref a])(_:alc K H a qs)(_:(∀q∈qs,Sm T B q))(_:T<=20000)(_:B*qs.length<=100000)(_:B<=8000)(_:qs.length<=1000)(_:∀(p l:BK)(ts:ξ)(b:Int)(H':Hp),aq H H' ->H l=none->H' p=some (.tup [.ref l,.int b])->H' l=some (.lst (ts.map V.int))->0<b->b.natAbs<=2^(B*qs.length)->rl ts qs b->(∀t∈ts,t.natAbs<=2^(T+B*qs.length))->Q (.ref p) H')
def Ml:ay ["row","bottom","number"] ["row"] (ae Ol):=sq
def ad7 (D:Def K mg "whole_row" Ol ["row"])(IT:ac P w K mg lM 1 "greatest_shared" JA jz):ac P w K mg lM 2 "whole_row" ["row"] (α9 K):=by
 show D.oo Ml λH hr h=>?_;let(a,X,T,B,rfl,(y,hS,hN),x,hT,hB,hB1,hl,q):=h
 show(_,(aa (aI 1 Ml.nd ag) (aa (bh HG rfl (bo (pv 0)) (bI 2 Ml.nd) (ah (aI 1 Ml.nd (aD bX (aD oC (pv 1) (aL IT hr (aH (pv 1) (aF (pv 2))))) (aF (pv 2)))))) (ah (aE (aS (aH (dX (tn:=["number"]) (fr:=["bottom"]) (pO:=[1]) (bo (pv 0)) (aD bX (bB (cN (K:=K) rfl) (pv 0) ag) (aD oC (pv 1) (bB (cN (K:=K) rfl) (pv 0) ag)))) (pv 1))))))),?_);sleep 2
 let E:=hN.1
 let J:∀{i:Nat} {u:V},y[i]?=some u->∃q,X[i]?=some q/\kH K H u q/\Sm T B q:=λ{i u} e=>by
  let N:i<y.length:=(ir.mp e).1;let Q:X[i]?=some (X[i]'ce):=gE ce;show(_,Q,hN.2 i u _ e Q,x _ (RC _))
 show(_,O,a,O,#[_,hS],let I:bn:=λi Y f=>Mg λ(b:Int) (o:χ)=>Y=[ap a,some (.int b),o]/\f=H/\0<b/\b.natAbs<=2^(B*i)/\∀j,j<i->∀q,X[j]?=some q->q.2 ∣ b;bT (K:=K) (a:=a) (xs:=y) I (1,none,O,O,cr,by simp,λj h=>DQ h (VJ _)) (λi Y f _ ⟨b,o,_,e,_⟩=>by rwa [e]) ?_ ?_)
 ·rintro i u Y f hu ⟨b,o,rfl,rfl,hb,S,M⟩
  let(n,U,(p,rfl,g),Z):=J hu;let N:i<X.length:=(ir.mp U).1;let c:n.2.natAbs<=2^B:=Z.bot;let(l1,l2,l3,l4):=ab9 hb Z.pos;let gp:=yf (t:=b) (b:=n.2) (by have:=Z.pos;omega);let gl:=ac0 (t:=b) (b:=n.2) (by have:=Z.pos;omega)
  let sz:(b.fdiv (gz b n.2)*n.2).natAbs<=2^(B*(i+1)):=by
   show EE l4 ?_;rw [Nat.mul_succ,α1];show U_ S c
  let bi:B*i<=100000:=EE (Nat.mul_le_mul_left B ce) hB;let g1:gz b n.2 ∣ b:=Zk ..;show(_,O,_,O,_,O,p,_,_,_,O,O,g,iW,b,n.2,O,_,_,O,O,#[ce,EE (lR (EE gl c) (QW B)) ce],_,O,p,_,_,_,O,O,g,iW,_,_,O,O,sO (EE (jn ce g1) S) c ce ce,_,_,O,O,l1,sz,λj hj q' e'=>?_)
  rcases Zz.mp hj with z|z
  ·show Int.dvd_trans (M j z q' e') l2
  ·subst z
   erw [U] at e';show l3
 ·rintro Y f ⟨b,o,rfl,rfl,hb,S,M⟩
  rw [E] at S M;show(_,O,a,O,#[_,hS],λD nD=>?_);show dE (pS:=[some (.int b)]) (K:=K) (a:=a) (xs:=y) (λi v _=>∃q,X[i]?=some q/\v=.int (q.1*b.fdiv q.2)) nD (by rw [E];show IG hl cr) (λH2 L=>L.seq hS) (λ_ _ _ _ _ _ _ h=>h) ?_ ?_
  ·intro i u H2 R hu L k
   let(n,U,(p,rfl,g),Z):=J hu;let G:=Ty.aq.bS L g;let dv:=M i (ir.mp U).1 n U;let m:n.2≠0:=by have:=Z.pos;omega
   show(_,O,p,_,_,_,O,O,G,i6,_,O,_,O,p,_,_,_,O,O,G,iW,_,_,O,O,#[m,EE (lR Z.bot (QW B)) ce],_,_,O,O,sO Z.top (EE (jn m dv) S) ce ce,k _ _ (aq.refl _) (n,U,O))
  ·intro A H2 hy iQ L hD
   let ey:A=(X.map λn=>n.1*b.fdiv n.2).map V.int:=by
    show QZ λi=>?_;by_cases N:i<A.length
    ·let C:A[i]?=some A[i]:=gE N
     let(n,U,ev):=iQ i _ C;rw [C,ev,CP,CP,U];rfl
    ·rw [IM ce,IM (by simp;omega)]
   show(_,O,rT,λp np=>?_);let s3:=aK np (.tup [.ref D,.int b]);show q p D (X.map λn=>n.1*b.fdiv n.2) b _ (L.trans s3) nD ak (s3 _ _ (by rw [hD,ey])) hb S #[by simp,λi t n C Q=>?_] (λt ht=>?_)
   ·rw [CP,Q] at C
    have NA :n.1*b.fdiv n.2=t:=JB C;rw [<-NA];show acj (x n (Wp Q)).pos (M i (ir.mp Q).1 n Q)
   ·let(n,hn,rfl):=DA.mp ht
    let(i,N):=JG hn;let m:n.2≠0:=by have:=(x n hn).pos;omega
    show yq (x n hn).top (EE (jn m (M i (ir.mp N).1 n N)) S)
structure Dv (l l':ξ):Prop where
 len:l'.length=l.length
 fac:∃g:Int,g≠0/\∀j,g*l'.getD j 0=l.getD j 0
def Z_ (l:ξ):Prop:=Prm l\/∀j,l.getD j 0=0
def akG {l:ξ}(h:∀j,d ∣ l.getD j 0){i:Nat}(e:l[i]?=some x):d ∣ x:=by
 rw [<-getD_mem e];show h i
inductive qE (vs:ε)(H:Hp)(Q:VK)(X:XK):Prop
|mk (v:V)(l:ξ)(_:vs=[v])(_:Ln H v l)(_:l.length<=1000)(_:∀Z Y H',aq H H' ->Ln H' Z Y ->Dv l Y ->Z_ Y ->(Z=v\/∃p,Z=.ref p/\H p=none)->Q Z H')
def zaz (l:ξ):Dv l l:=(O,1,cr,λj=>Int.one_mul _)
def Mm:ay ["line","shared","whole"] ["line"] (ae Ou):=sq
def ad8 (ht:P.given.tree=none)(D:Def K mg "divided" Ou ["line"])(IT:ac P w K mg lM 1 "greatest_shared" JA jz):ac P w K mg lM 33 "divided" ["line"] qE:=by
 show D.op Mm λf cH A mO s H vs Q E hr h=>?_;let(v,l,rfl,(a,rfl,J),hn,q):=h;let lO:Z_ l->Q (.ref a) H:=λpz=>q _ l H (aq.refl H) (a,O,J) (zaz l) pz (.inl rfl)
 show(_,(aa (aI 1 Mm.nd ag) (aa (bh HG rfl (bo (pv 0)) (bI 2 Mm.nd) (aa (aI 1 Mm.nd (aL IT hr (aH (pv 2) (pv 1)))) (ah (bw (bE gm (pv 1) ag) (ah (aE (pv 0))) aR)))) (ah (aE (zax (bE q_ (pv 1) ag) (dX (tn:=["whole"]) (fr:=["shared"]) (pO:=[1]) (bo (pv 0)) (aD (iM ht (Ty.cQ.py hr cr) rfl rfl rfl rfl rfl) (pv 0) (pv 1))) (pv 0)))))),?_);sleep 2
 show(_,O,a,O,#[_,aT.of J],let I:bn:=λi Y H'=>Mg λ(g:Int) (o:χ)=>Y=[ap a,some (.int g),o]/\H'=H/\0<=g/\(∀j,j<i->∀x,l[j]?=some x->g ∣ x)/\(∀d:Int,(∀j,j<i->∀x,l[j]?=some x->d ∣ x)->d ∣ g)/\(0<i->g≠1);bT (K:=K) (a:=a) (xs:=l.map V.int) I (0,none,O,O,cr,(λj h=>DQ h (VJ _)),(λd _=>Int.dvd_zero d),λh=>DQ h (Q0 _)) (λi Y H' _ ⟨g,o,_,e,_⟩=>by rw [e];show aT.of J) ?_ ?_)
 ·rintro i u Y H' S ⟨g,o,rfl,rfl,g0,M,L,_⟩
  rw [CP] at S;let(x,X,rfl):=JM.mp S;let d1:gz x g ∣ x:=Zk ..;let d2:gz x g ∣ g:=Ze ..;let p0:0<=gz x g:=Int.natCast_nonneg _;show(_,O,_,O,x,g,O,_,O,O,_,O,?_);show bq (λz=>(_,O,lO (.inl λd b =>?_))) (λz=>?_)
  ·let z':gz x g=1:=by simpa using Nl z
   let p:d ∣ gz x g:=alz (akG b X) (L d λj _ y U=>akG b U);rw [z'] at p;have:=Q8.mpr p;simpa using this
  show(_,_,O,O,p0,λj Z y U=>?_,λd h=>?_,λ_ e=>z (by rw [e];rfl))
  ·rcases Zz.mp Z with z|z
   ·show Int.dvd_trans d2 (M j z y U)
   ·subst z
    erw [X] at U;show d1
  ·show alz (h i (QW _) x X) (L d λj Z y U=>h j (yC Z) y U)
 ·rintro Y H' ⟨g,o,rfl,rfl,g0,M,L,N⟩
  rw [be] at M L N;show(_,O,_,_,O,O,_,O,bq (λc=>?_) (λc=>(_,O,lO (.inr λj=>?_))));rotate_left
  ·let c':¬ (1:Int)<g:=λz=>c (NI z)
   by_cases Z:j<l.length
   ·let gz:g=0:=by
     have:=N ce;omega
    let T:l[j]?=some l[j]:=gE Z;have:=M j Z _ T;rw [gz] at this;rw [getD_mem T];show Int.zero_dvd.mp this
   ·rw [NM,IM ce]
    rfl
  let g1:(1:Int)<g:=Nl c;let m:g≠0:=ce
  show(_,O,a,O,#[_,aT.of J],λD nD=>?_);show dE (pS:=[some (.int g)]) (K:=K) (a:=a) (xs:=l.map V.int) (λi v _=>∃x,l[i]?=some x/\v=.int (x.fdiv g)) nD (by rw [be];show IG hn cr) (λH2 B=>aT.of (B _ _ J)) (λ_ _ _ _ _ _ _ h=>h) ?_ ?_
  ·intro i u H2 R S B k
   rw [CP] at S;let(x,X,rfl):=JM.mp S;show(_,O,_,O,_,_,O,O,m,k _ _ (aq.refl _) (x,X,O))
  ·intro C H2 hy iQ B hD
   rw [be] at hy
   let U:C=(l.map λx=>x.fdiv g).map V.int:=by
    show QZ λi=>?_;by_cases hi:i<C.length
    ·let e1:C[i]?=some C[i]:=gE hi
     let(x,X,ev):=iQ i _ e1;rw [e1,ev,CP,CP,X];rfl
    ·rw [IM ce,IM (by simp;omega)]
   let G:∀j,g*(l.map λx=>x.fdiv g).getD j 0=l.getD j 0:=λj=>by
    by_cases Z:j<l.length
    ·let T:l[j]?=some l[j]:=gE Z
     rw [getD_mem (l:=l.map λx=>x.fdiv g) (x:=l[j].fdiv g) (by rw [CP,T];rfl),getD_mem T];show(dc m (M j Z _ T)).symm
    ·rw [NM,NM,IM (by simp;omega),IM ce]
     simp
   show q _ (l.map λx=>x.fdiv g) H2 B (D,O,by rw [hD,U]) (by simp,g,m,G) (.inl λd b =>?_) (.inr (D,O,nD))
   let p:d*g ∣ g:=L (d*g) λj Z x X=>by
    rw [<-getD_mem X,<-G j,VF];show Int.mul_dvd_mul_left g (b j)
   let(k,hk):=p
   let h2:g*(d*k)=g*1:=by
    rw [Int.mul_one];rw [<-vV,VF g d];show hk.symm
   let h3:=Int.eq_of_mul_eq_mul_left m h2;let h4:d ∣ 1:=#[k,h3.symm];simpa using Q8.mpr h4
inductive qF (vs:ε)(H:Hp)(Q:VK)(T:XK):Prop
|mk (u v:V)(l m:ξ)(c U X:Nat)(_:vs=[u,v,.int (c:Int)])(_:Ln H u l)(_:Ln H v m)(_:m.length=l.length)(_:c<l.length)(_:l.length<=1000)(_:m.getD c 0≠0)(_:Bd U l)(_:Bd X m)(_:U<=29000000)(_:X<=29000000)(_:∀Y Z H',aq H H' ->Ln H' Y Z ->vN l m Z c->Bd (U+X+1) Z ->(Z=l\/Z_ Z)->(Y=u\/∃p,Y=.ref p/\H p=none)->Q Y H')
def zap (X:a≠0):a=gz a b*a.fdiv (gz a b)/\b=gz a b*b.fdiv (gz a b)/\gz a b≠0/\a.fdiv (gz a b)≠0/\(a.fdiv (gz a b)).natAbs<=a.natAbs/\(b.fdiv (gz a b)).natAbs<=b.natAbs:=by
 let Z:gz a b≠0:=by
  intro z;let S:((JZ a b:Nat):Int)=0:=z;have:JZ a b=0:=ce
  show X (Int.gcd_eq_zero_iff.mp this).1
 let T:gz a b ∣ a:=Zk ..;let U:gz a b ∣ b:=Ze ..;let Y:=dc Z T;show(Y,dc Z U,Z,λz=>?_,jn Z T,jn Z U);rw [z,α3] at Y;show X Y
def zad {l m:ξ}{ys:ε}(S:m.length=l.length)(T:ys.length=l.length)(h:∀(i:Nat)(v:V),ys[i]?=some v->∃x y,l[i]?=some x/\m[i]?=some y/\v=.int (t*x-u*y)):ys=(QG (λx y=>t*x-u*y) l m).map V.int:=by
 show QZ λi=>?_;by_cases Y:i<ys.length
 ·let Z:ys[i]?=some ys[i]:=gE Y
  let(x,y,U,X,ev):=h i _ Z;rw [Z,ev,CP,yg,U,X];rfl
 ·rw [IM ce,IM (by simp;omega)]
def zal {l m:ξ}(U:m.length=l.length)(j:Nat):(QG (λx y=>t*x-u*y) l m).getD j 0=t*l.getD j 0-u*m.getD j 0:=by
 by_cases X:j<l.length
 ·let Y:l[j]?=some l[j]:=gE X
  let Z:m[j]?=some (m[j]'ce):=gE ce;rw [getD_mem Y,getD_mem Z];show getD_mem (by rw [yg,Y,Z])
 ·rw [NM,NM,NM,IM (by simp;omega),IM ce,IM ce]
  simp
def Mn:ay ["line","lead","column","shared","times","less"] CN (ae Ot):=sq
def ad9 (ht:P.given.tree=none)(D:Def K mg "cleared" Ot CN)(iy:mg "zip"=none)(IT:ac P w K mg lM 1 "greatest_shared" JA jz)(J:ac P w K mg lM 33 "divided" ["line"] qE):ac P w K mg lM 34 "cleared" CN qF:=by
 show D.oo Mn λH U h=>?_;let(u,v,l,m,c,b1,b2,rfl,(a,rfl,X),(I,rfl,Z),T,hc,hn,hm,Q,B,α',hb2,q):=h
 show(_,(aa (bw (bE gm (bB aU (pv 0) (pv 2)) ag) (ah (aE (pv 0))) aR) (aa (aI 3 Mn.nd (aL IT U (aH (bB aU (pv 1) (pv 2)) (bB aU (pv 0) (pv 2))))) (aa (aI 4 Mn.nd (aD (iM ht (Ty.cQ.py U cr) rfl rfl rfl rfl rfl) (bB aU (pv 1) (pv 2)) (pv 3))) (aa (aI 5 Mn.nd (aD (iM ht (Ty.cQ.py U cr) rfl rfl rfl rfl rfl) (bB aU (pv 0) (pv 2)) (pv 3))) (ah (aE (aL J U (aZ (IP (tn:=["whole","other"]) (fr:=["times","less"]) (pO:=[4,5]) (ym rfl iy (aH (pv 0) (pv 1))) (λ_ _ _ _=>(yn (K:=K) (n:=2) rfl rfl (aY (f9 (i:=0) (show(zaV:List Str).Nodup from by decide+kernel) rfl (Pe rfl)) (aY (f9 (i:=1) (show(zaV:List Str).Nodup from by decide+kernel) rfl (Pe rfl)) cM)))) (λ_ _ _ _=>t_) (aD cB (aD bX (pv 2) (pv 0)) (aD bX (pv 3) (pv 1)))))))))))),?_);sleep 4
 let L:=xG (l:=l) hc;let em:=xG (l:=m) (j:=c) ce;show(_,O,_,O,a,_,_,_,O,O,aT.of X,L,O,_,O,?_);show bq (λz=>?_) (λz=>?_)
 ·let z':l.getD c 0=0:=by simpa using Nl z
  show(_,O,q _ l H (aq.refl H) (a,O,X) (O,z',1,1,0,cr,cr,λj=>ce) (Q.up ce) (.inl rfl) (.inl rfl))
 ·let(f1,f2,f3,f4,f5,f6):=zap (a:=m.getD c 0) (b:=l.getD c 0) hm
  show(_,O,_,O,I,_,_,_,O,O,aT.of Z,em,_,O,_,O,a,_,_,_,O,O,aT.of X,L,_,_,O,_,O,_,O,I,_,_,_,O,O,aT.of Z,em,_,O,_,_,O,O,f3,_,O,_,O,a,_,_,_,O,O,aT.of X,L,_,O,_,_,O,O,f3,_,O,_,O,a,I,O,#[_,aT.of X],#[_,aT.of Z],λD1 o=>?_);let st:((m.getD c 0).fdiv (gz (m.getD c 0) (l.getD c 0))).natAbs<=2^b2:=EE f5 (B c);let A:((l.getD c 0).fdiv (gz (m.getD c 0) (l.getD c 0))).natAbs<=2^b1:=EE f6 (Q c);show zaN (pS:=[some (.int ((m.getD c 0).fdiv (gz (m.getD c 0) (l.getD c 0)))),some (.int ((l.getD c 0).fdiv (gz (m.getD c 0) (l.getD c 0))))]) (K:=K) (xs:=l.map V.int) (ys:=m.map V.int) (λi v _=>∃x y,l[i]?=some x/\m[i]?=some y/\v=.int ((m.getD c 0).fdiv (gz (m.getD c 0) (l.getD c 0))*x-(l.getD c 0).fdiv (gz (m.getD c 0) (l.getD c 0))*y)) o (by rw [be];show IG hn cr) (by simpa using T) (λC Y=>aT.of (Y _ _ X)) (λC Y=>aT.of (Y _ _ Z)) (λ_ _ _ _ _ _ _ h=>h) ?_ ?_
  ·intro i x y C R ex S Y k
   rw [CP] at ex S;let(x',GG,rfl):=JM.mp ex;let(y',P1,rfl):=JM.mp S;show(_,O,_,O,_,_,O,O,sO st (Q.mem (Wp GG)) ce ce,_,O,_,O,_,_,O,O,sO A (B.mem (Wp P1)) ce ce,_,_,O,O,k _ _ (aq.refl _) (x',y',GG,P1,O))
  ·intro ys C f iQ Y hD
   rw [be] at f;let S:=zad T f iQ;show(_,_,O,(D1,O,by rw [hD,S]),by simp;omega,λv' N H3 s3 L3 dv pz fr=>?_);let(g,M,hg):=dv.fac;let E:∀j,g*N.getD j 0=(m.getD c 0).fdiv (gz (m.getD c 0) (l.getD c 0))*l.getD j 0-(l.getD c 0).fdiv (gz (m.getD c 0) (l.getD c 0))*m.getD j 0:=λj=>by rw [hg j,zal T]
   show q v' N H3 (Y.trans s3) L3 (by rw [dv.len];simp [T],?_,g,_,_,M,f4,E) (λj=>?_) (.inr pz) ?_
   ·let e:=E c
    let z2:(m.getD c 0).fdiv (gz (m.getD c 0) (l.getD c 0))*l.getD c 0-(l.getD c 0).fdiv (gz (m.getD c 0) (l.getD c 0))*m.getD c 0=0:=by
     generalize gz (m.getD c 0) (l.getD c 0)=G at*;generalize (m.getD c 0).fdiv G=t at*;generalize (l.getD c 0).fdiv G=u at*;rw [f1,f2];grind
    rw [z2] at e
    rcases ajW.mp e with y|y
    ·show DQ y M
    ·show y
   ·let b:(g*N.getD j 0).natAbs<=2^(b1+b2+1):=by
     rw [E j,Int.sub_eq_add_neg];show agT (ue (yq st (Q j)) ce) ?_;rw [aj3];show yq A (B j)
    show EE (fF M) b
   ·rcases fr with z|⟨p,e,n⟩
    ·show .inr (D1,z,o)
    ·show .inr (p,e,Y.free n)
inductive yE (K:Frag)(vs:ε)(H:Hp)(Q:VK)(Y:XK):Prop
|mk (a:BK)(us:ε)(Z:List (List Int:_))(c:Nat)(_:vs=[.ref a,.int (c:Int)])(_:aT K H a us)(_:vP H us Z)(_:(∀l∈Z,c<l.length))(_:(∀(i:Nat)(l:ξ)(H':Hp),aq H H' ->Z[i]?=some l->l.getD c 0≠0->Q (.int (i:Int)) H'))(_:((∀l∈Z,l.getD c 0=0)->∀H',aq H H' ->Q .cW H'))
def vP.at (h:vP H us ls){i:Nat}(e:us[i]?=some u):∃l,ls[i]?=some l/\Ln H u l:=by
 let X:i<us.length:=(ir.mp e).1;let Y:=h.1;let Z:ls[i]?=some (ls[i]'ce):=gE ce;show(_,Z,h.2 i u _ e Z)
def vP.at' (h:vP H us ls){i:Nat}{l:ξ}(e:ls[i]?=some l):∃u,us[i]?=some u/\Ln H u l:=by
 let X:i<ls.length:=(ir.mp e).1;let Y:=h.1;let Z:us[i]?=some (us[i]'ce):=gE ce;show(_,Z,h.2 i _ l Z e)
def RP:ay ["lines","column","at","line"] CH (ae Oq):=sq
def ad' (D:Def K mg "first_not_nought" Oq CH)(f:mg "enumerate"=none):ac P w K mg lM 1 "first_not_nought" CH (yE K):=by
 show D.oo RP λH hr h=>?_;let(a,E,x,c,rfl,J,L,k,B,C):=h;let lu:=L.1
 show(_,(aa (bh HG rfl (aiH rfl f (aZ (pv 0))) (eY rfl (aY (bI 2 RP.nd) (aY (bI 3 RP.nd) cM))) (ah (bw (bE iu (bB aU (pv 3) (pv 1)) ag) (ah (aE (pv 2))) aR))) (ah (aE tF))),?_)
 show(_,O,a,O,#[_,J],let I:bn:=λi Y X=>∃T U:Option V,Y=[ap a,some (.int (c:Int)),T,U]/\aq H X/\∀j,j<i->∀l,x[j]?=some l->l.getD c 0=0;zaD (K:=K) (a:=a) (xs:=E) I (none,none,O,aq.refl H,λj h=>DQ h (VJ _)) (λi Y X _ ⟨T,U,_,Z,_⟩=>Z.seq J) ?_ ?_)
 ·rintro i u Y X p o ⟨T,U,rfl,Z,z⟩ A
  let(l,M,b,rfl,g):=L.at o;let Q:=Z.trans (aK A (.tup [.int (i:Int),.ref b]));let N:=k l (Wp M);show(p,_,O,bL.of ak,O,_,_,O,_,_,O,O,_,O,_,O,b,_,_,_,O,O,aT.of (Q _ _ g),xG N,O,_,O,?_);show bq (λy=>?_) (λy=>?_)
  ·let R:l.getD c 0≠0:=by simpa using y
   show(_,O,B i l _ Q M R)
  ·let R:l.getD c 0=0:=by simpa using y
   show(_,_,O,Q,λj S q G=>?_)
   rcases Zz.mp S with w|w
   ·show z j w q G
   ·subst w
    erw [M] at G;show R
 ·rintro Y X ⟨T,U,rfl,Z,z⟩
  show C (λl m=>?_) X Z;let(j,S):=JG m;show z j (by have:=(ir.mp S).1;omega) l S
structure Red (os:θ)(L c b:Nat)(nd:ρ)(lv:θ):Prop where
 v9:∀x∈nd,x.2.length=L
 m9:∀l∈lv,l.length=L
 cols:∀x∈nd,x.1<c
 asc:(nd.map (·.1)).Pairwise (· < ·)
 here:∀x∈nd,x.2.getD x.1 0≠0
 off:∀x∈nd,∀y∈nd,x.1≠y.1->x.2.getD y.1 0=0
 low:∀x∈nd,∀j,j<x.1->x.2.getD j 0=0
 zero:∀l∈lv,∀j,j<c->l.getD j 0=0
 DM:∀x∈nd,qw os x.2
 oM:∀l∈lv,qw os l
 sol:∀z,((∀x∈nd,ev x.2 z=0)/\(∀l∈lv,ev l z=0)) ↔ ∀o∈os,ev o z=0
 TX:∀x∈nd,Bd b x.2
 RT:∀l∈lv,Bd b l
 cnt:nd.length+lv.length=os.length
def Red.start {os:θ}(Y:∀o∈os,o.length=L)(Z:∀o∈os,Bd b o):Red os L 0 b [] os where
 v9:=by simp
 m9:=Y
 cols:=by simp
 asc:=by simp
 here:=by simp
 off:=by simp
 low:=by simp
 zero:=λ_ _ j h=>DQ h (VJ _)
 DM:=by simp
 oM:=λl h=>zaF h
 sol:=λz=>by simp
 TX:=by simp
 RT:=Z
 cnt:=by simp
def Red.skip {os:θ}(h:Red os L c b nd Z)(hz:∀l∈Z,l.getD c 0=0):Red os L (c+1) b nd Z where
 v9:=h.v9
 m9:=h.m9
 cols:=λx X=>yC (h.cols x X)
 asc:=h.asc
 here:=h.here
 off:=h.off
 low:=h.low
 zero:=λl Y j U=>by
  rcases Zz.mp U with z|z
  ·show h.zero l Y j z
  ·subst z
   show hz l Y
 DM:=h.DM
 oM:=h.oM
 sol:=h.sol
 TX:=h.TX
 RT:=h.RT
 cnt:=h.cnt
structure Made (os:θ)(CJ:ξ)(c b:Nat)(xs ys:θ):Prop where
 len:ys.length=xs.length
 to:∀(i:Nat)(x:ξ),xs[i]?=some x->∃y,ys[i]?=some y/\vN x CJ y c/\Bd b y
def Made.ex {os:θ}(h:Made os CJ c b xs ys){y:ξ}(Y:y∈ys):∃x∈xs,vN x CJ y c/\Bd b y:=by
 let(i,Z):=JG Y;let S:=h.len;let T:i<ys.length:=(ir.mp Z).1;let e:xs[i]?=some (xs[i]'ce):=gE ce;let(U,X,r):=h.to i _ e;erw [Z] at X;show(_,Wp e,r)
def Made.all {os:θ}(h:Made os CJ c b xs ys){x:ξ}(Z:x∈xs):∃y∈ys,vN x CJ y c/\Bd b y:=by
 let(i,Y):=JG Z;let(y,e,r):=h.to i x Y;show(y,Wp e,r)
def Red.step {os:θ}{A IK rest:θ}{U:ξ}(h:Red os L c b Q A)(J:U∈A)(B:∀l∈rest,l∈A)(QO:∀l∈A,l=U\/l∈rest)(hlen:rest.length+1=A.length)
  (hc:U.getD c 0≠0) (E:Made os U c (2*b+1) rest IK) (m:T.map (·.1)=Q.map (·.1)) (MN:Made os U c (2*b+1) (Q.map (·.2)) (T.map (·.2))):Red os L (c+1) (2*b+1) (T ++[(c,U)]) IK :=by
 let q:=h.m9 U J;let D:=h.zero U J;have VS :T.length=Q.length:=by simpa using pU Ri m
 let Z:∀N ∈T,∃x∈Q,x.1=N.1/\vN x.2 U N.2 c/\Bd (2*b+1) N.2:=by
  intro N Ng;let(i,I):=JG Ng;let je:i<T.length:=(ir.mp I).1;let e:Q[i]?=some (Q[i]'ce):=gE ce;let R:(T.map (·.1))[i]?=(Q.map (·.1))[i]? :=by rw [m]
  rw [CP,CP,I,e] at R;let(y,H,r):=MN.to i (Q[i]'ce).2 (by rw [CP,e];rfl);rw [CP,I] at H;simp at R H;subst H;show(_,Wp e,R.symm,r)
 let back:∀x∈Q,∃N ∈T,N.1=x.1/\vN x.2 U N.2 c:=by
  intro x Y;let(i,I):=JG Y;let je:i<Q.length:=(ir.mp I).1;let e:T[i]?=some (T[i]'ce):=gE ce;let R:(T.map (·.1))[i]?=(Q.map (·.1))[i]? :=by rw [m]
  rw [CP,CP,I,e] at R;let(y,H,r):=MN.to i x.2 (by rw [CP,I];rfl);rw [CP,e] at H;simp at R H;show(_,Wp e,R,by rw [H];show r.1)
 let M:∀x∈T ++[(c,U)],x∈T \/x=(c,U):=λx Y=>by simpa using Y
 show {
  v9:=λx Y=>by
   rcases M x Y with z|z
   ·let(y,X,_,k,_):=Z x z
    rw [k.len];show h.v9 y X
   ·subst z
    show q
  m9:=λl S=>by
   let(x,Y,k,_):=E.ex S;rw [k.len];show h.m9 x (B x Y)
  cols:=λx Y=>by
   rcases M x Y with z|z
   ·let(y,X,e,_):=Z x z
    rw [<-e];show yC (h.cols y X)
   ·subst z
    show QW _
  asc:=by
   rw [II,m,List.pairwise_append];show(h.asc,by simp,λa ha b' fM =>?_);let(x,Y,rfl):=DA.mp ha;have:b'=c:=by simpa using fM
   subst this;show h.cols x Y
  here:=λx Y=>by
   rcases M x Y with z|z
   ·let(y,X,e,k,_):=Z x z
    rw [<-e];show k.at (D _ (h.cols y X)) (h.here y X)
   ·subst z
    show hc
  off:=λx Y y X ne=>by
   rcases M x Y with z|z<;>rcases M y X with u|u
   ·let(x0,p,e0,k0,_):=Z x z
    let(o,O8,R,_):=Z y u;rw [<-R];show k0.zero (h.off x0 p o O8 (by rwa [e0,R])) (D _ (h.cols o O8))
   ·subst u
    let(x0,p,e0,k0,_):=Z x z;show k0.Ra
   ·subst z
    let(o,O8,R,_):=Z y u;rw [<-R];show D _ (h.cols o O8)
   ·subst z
    subst u;show DQ rfl ne
  low:=λx Y j C=>by
   rcases M x Y with z|z
   ·let(y,X,e,k,_):=Z x z
    rw [<-e] at C;show k.zero (h.low y X j C) (D j (uq C (h.cols y X)))
   ·subst z
    show D j C
  zero:=λl S j C=>by
   let(x,Y,k,_):=E.ex S
   rcases Zz.mp C with z|z
   ·show k.zero (h.zero x (B x Y) j z) (D j z)
   ·subst z
    show k.Ra
  DM:=λx Y=>by
   rcases M x Y with z|z
   ·let(y,X,_,k,_):=Z x z
    show k.comb (h.DM y X) (h.oM U J)
   ·subst z
    show h.oM U J
  oM:=λl S=>by
   let(x,Y,k,_):=E.ex S;show k.comb (h.oM x (B x Y)) (h.oM U J)
  sol:=λz=>by
   rw [<-h.sol z];constructor
   ·rintro ⟨f,g⟩
    let G:ev U z=0:=f (c,U) fD;show#[λx Y=>?_,λl S=>?_]
    ·let(N,Ng,_,k):=back x Y
     show(k.ev (by rw [q,h.v9 x Y]) G).mp (f N (by simp [Ng]))
    ·rcases QO l S with u|u
     ·rw [u]
      show G
     ·let(y,X,k,_):=E.all u
      show(k.ev (by rw [q,h.m9 l S]) G).mp (g y X)
   ·rintro ⟨f,g⟩
    let G:=g U J;show#[λx Y=>?_,λl S=>?_]
    ·rcases M x Y with u|u
     ·let(y,X,_,k,_):=Z x u
      show(k.ev (by rw [q,h.v9 y X]) G).mpr (f y X)
     ·subst u
      show G
    ·let(x,Y,k,_):=E.ex S
     show(k.ev (by rw [q,h.m9 x (B x Y)]) G).mpr (g x (B x Y))
  TX:=λx Y=>by
   rcases M x Y with z|z
   ·let(y,X,_,_,k):=Z x z
    show k
   ·subst z
    show(h.RT U J).up ce
  RT:=λl S=>by
   let(x,Y,_,k):=E.ex S;show k
  cnt:=by
   let a:=E.len;let b:=h.cnt;rw [HI,VS];simp
   omega}
def xI (H:Hp)(AP:γ)(Y:ρ):Prop:=AP.length=Y.length/\∀(i:Nat)(Z:Key×V)(x:Nat×List Int),AP[i]?=some Z->Y[i]?=some x->Z.1=.inl (x.1:Int)/\Ln H Z.2 x.2
theorem xI.lO (h:xI H AP nd)(s:aq H H'):xI H' AP nd:=#[h.1,λi Z x X Y=>#[(h.2 i Z x X Y).1,(h.2 i Z x X Y).2.lO s]]
def Ln.put (h:Ln H v l)(e:H d=some (.dK AP)):Ln (upd H d o) v l:=by
 let(p,Z,k):=h;show(p,Z,by rw [aj (λz=>by erw [z,e] at k)];show k)
theorem vP.put (h:vP H us ls)(e:H d=some (.dK AP)):vP (upd H d o) us ls:=#[h.1,λi u l Y Z=>(h.2 i u l Y Z).put e]
theorem xI.put (h:xI H AP nd)(e:H d=some (.dK kv2)):xI (upd H d o) AP nd:=#[h.1,λi Z x X Y=>#[(h.2 i Z x X Y).1,(h.2 i Z x X Y).2.put e]]
def oN (s:aq H H')(n:H d=none):aq H (upd H' d o):=λb Z e=>by
 rw [aj (λz=>by erw [z,n] at e)];show s _ _ e
def xI.at (h:xI H AP nd){i:Nat}(e:nd[i]?=some x):∃v,AP[i]?=some (.inl (x.1:Int),v)/\Ln H v x.2:=by
 let X:i<nd.length:=(ir.mp e).1;let Y:=h.1;let Z:AP[i]?=some (AP[i]'ce):=gE ce;let(a,b):=h.2 i _ x Z e;show((AP[i]'ce).2,by rw [Z,<-a],b)
def xI.keys (h:xI H AP nd):AP.map (·.1)=nd.map (λx=>(V7 (x.1:Int):Key)):=by
 show QZ λi=>?_;let X:=h.1;rw [CP,CP];by_cases Z:i<nd.length
 ·let e:nd[i]?=some nd[i]:=gE Z
  let(v,Y,_):=h.at e;rw [e,Y];rfl
 ·rw [IM ce,IM ce]
  rfl
theorem lX :∀{AP:γ} {i:Nat},(AP.map (·.1)).Nodup->AP[i]?=some (k,v)->bC AP k=some v
 | [],_,_,e=>by simp at e
 | p::r,0,_,e=>by
  cases e;show b_ (p:=(k,v)) rfl
 | p::r,i+1,n,e=>by
  rw [ED,Nk] at n;let Z:r[i]?=some (k,v):=by simpa using e
  let Y:¬ p.1=k:=λz=>n.1 (by rw [z];show DA.mpr ((k,v),Wp Z,O));rw [bN Y];show lX n.2 Z
theorem agg :∀{AP:γ},k∉AP.map (·.1)->bC AP k=none
 | [],_=>rfl
 | p::r,h=>by
  let h':k≠p.1/\k∉r.map (·.1):=by simpa using h
  rw [bN (λz=>h'.1 z.symm)];show agg h'.2
theorem map_put :∀{AP:γ} {i:Nat},(AP.map (·.1)).Nodup->AP[i]?=some (k,v)->AP.map (λZ=>if Z.1=k then (Z.1,v') else Z)=AP.set i (k,v')
 | [],_,_,e=>by simp at e
 | p::r,0,n,e=>by
  rw [ED,Nk] at n;cases e
  let U:r.map (λZ=>if Z.1=k then (Z.1,v') else Z)=r:=by
   show(N3 (λq T=>?_)).trans (List.map_id r);let Y:¬ q.1=k:=λz=>n.1 (by change k∈_;rw [<-z];show DA.mpr (q,T,O));rw [mQ Y];rfl
  rw [ED,U,ox rfl,List.set_cons_zero]
 | p::r,i+1,n,e=>by
  rw [ED,Nk] at n;let X:r[i]?=some (k,v):=by simpa using e
  let Y:¬ p.1=k:=λz=>n.1 (by rw [z];show DA.mpr ((k,v),Wp X,O));rw [ED,mQ Y,map_put n.2 X,List.set_cons_succ]
def zaL {AP:γ}(n:(AP.map (·.1)).Nodup)(e:AP[i]?=some (k,v)):putK AP k v'=AP.set i (k,v'):=by
 unfold putK;rw [jo,lX n e];show map_put n e
theorem xI.set (h:xI H AP nd){i c:Nat}(T:Ln H v l):xI H (AP.set i (.inl (c:Int),v)) (nd.set i (c,l)):=by
 let S:=h.1;show#[by simp [S],λj U x Z Y=>?_];rw [VM] at Z Y;by_cases z:i=j
 ·subst z
  rw [ox rfl] at Z Y;by_cases X:i<AP.length
  ·rw [ox X] at Z
   rw [ox ce] at Y;cases Z;cases Y;show#[O,T]
  ·rw [mQ X] at Z
   cases Z
 ·rw [mQ z] at Z Y
  show h.2 j U x Z Y
def xI.snoc (h:xI H AP nd){c:Nat}(T:Ln H v l):xI H (AP++[(.inl (c:Int),v)]) (nd++[(c,l)]):=by
 let X:=h.1;show#[by simp [X],λj U x Z Y=>?_];by_cases z:j<AP.length
 ·rw [NG z] at Z
  rw [NG ce] at Y;show h.2 j U x Z Y
 ·rw [NQ ce] at Z Y
  rw [<-X] at Y;by_cases y:j-AP.length=0
  ·rw [y] at Z Y
   cases Z;cases Y;show#[O,T]
  ·rw [IM (by simp;omega)] at Z
   cases Z
theorem keys_nodup:∀{Z:ρ},(Z.map (·.1)).Pairwise (· < ·)->(Z.map (λx=>(V7 (x.1:Int):Key))).Nodup
 | [],_=>by simp
 | x::r,h=>by
  rw [ED,List.pairwise_cons] at h;rw [ED,Nk];show#[λz=>?_,keys_nodup h.2];let(y,Y,e):=DA.mp z;let X:(y.1:Int)=x.1:=alk e;have:=h.1 y.1 (DA.mpr (y,Y,O));omega
def bb (b k:Nat):Nat:=(k+1)*(b+11)
def yF (b:Nat)(h:k<=m):bb b k<=bb b m:=Q3 _ ce
def yG (b k:Nat):b<=bb b k:=by
 unfold bb;rw [Rf,LI];omega
def Red.piv {os:θ}(R:Red os L c b nd lv):PZ nd:=(R.asc.imp λh e=>ce,R.here,R.off)
def Pr (os:θ)(l:ξ):Prop:=l∈os\/Z_ l
def Red.small {os:θ}(R:Red os L c b Y T)(Z:P0 os Y T ps qs)(U:∀o∈os,Bd b0 o)(J:Y.length<=k)(I:k<=1000)(Q:∀x∈Y,Pr os x.2)(N:∀l∈T,Pr os l):Red os L c (bb b0 k) Y T:=by
 let le:∀{n:Nat},n<=(Y.length+1)*((2*(Y.length+1)*2^b0)^Y.length*2^b0)->n<=2^bb b0 k:=λ{n} h=>EE h (EE (aja ce) (Pd cr (Q3 _ ce)));let z:∀{n:Nat},n=0->n<=2^bb b0 k:=λ{n} h=>by rw [h];show NF _
 show {R with TX:=λx X j=>?_,RT:=λl S j=>?_}
 ·rcases Q x X with h|h|h
  ·show EE (U _ h j) (Pd cr (yG _ _))
  ·show le (Z.need R.piv X U h j)
  ·show z (by rw [h j];rfl)
 ·rcases N l S with h|h|h
  ·show EE (U _ h j) (Pd cr (yG _ _))
  ·let(i,M):=JG S
   show le (Z.left R.piv M (λx X=>R.zero l S x.1 (R.cols x X)) U h j)
  ·show z (by rw [h j];rfl)
def oO {i:Nat}(h:i<=xs.length):gS xs none (some (i:Int))=xs.take i:=by
 unfold gS;rw [HT.sG,HT.BZ,EA h];rfl
def jA {i:Nat}(h:i<=xs.length):gS xs (some (i:Int)) none=xs.drop i:=by
 unfold gS;rw [HT.sG,HT.BZ,EA h];show Q_ fD
theorem Red.up {os:θ}(h:Red os L c b nd lv)(Y:b<=b'):Red os L c b' nd lv:={h with TX:=λx Z=>(h.TX x Z).up Y,RT:=λx Z=>(h.RT x Z).up Y}
def vP.erase (h:vP H us ls)(j:Nat):vP H (us.eraseIdx j) (ls.eraseIdx j):=by
 let X:=h.1;show#[by rw [Zm,Zm,X],λi u l Y Z=>?_];rw [yi] at Y Z;by_cases z:i<j
 ·rw [ox z] at Y Z
  show h.2 _ _ _ Y Z
 ·rw [mQ z] at Y Z
  show h.2 _ _ _ Y Z
theorem qG {Z β:Type}{P:Nat->Z->β->Prop}:∀(xs:List Z),(∀i x,xs[i]?=some x->∃y,P i x y)->∃ys:List β,ys.length=xs.length/\∀i x y,xs[i]?=some x->ys[i]?=some y->P i x y
 | [],_=>([],O,λi x y e=>by simp at e)
 | x::xs,h=>by
  let(y,S):=h 0 x rfl;let(ys,Q,R):=qG (P:=λi=>P (i+1)) xs (λi x e=>h (i+1) x (by simpa using e));show(y::ys,by simp [Q],λi T U X Y=>?_);cases i with
  | zero=>
   cases X;cases Y;show S
  | succ i=>show R i T U (by simpa using X) (by simpa using Y)
inductive qH (K:Frag)(vs:ε)(H:Hp)(Q:VK)(T:XK):Prop
|mk (a:BK)(us:ε)(os:List (List Int:_))(L m b:Nat)(_:vs=[.ref a,.int (m:Int)])(_:aT K H a us)(_:vP H us os)(_:(∀o∈os,o.length=L))(_:m<=L)(_:L<=1000)(_:os.length<=1000)(_:(∀o∈os,Bd b o))(_:bb b (min m os.length)<=29000000)(_:∀(p d U:BK)(AP:γ)(X :ε)(Z:ρ)(Y:θ)(H':Hp),aq H H' ->H d=none->H p=none->H' p=some (.tup [.ref d,.ref U])->H' d=some (.dK AP)->aT K H' U X ->xI H' AP Z->vP H' X Y->Red os L m (bb b (min m os.length)) Z Y->Q (.ref p) H')
def rG:ay ["lines","many","needed","left","column","at","lead","place"] Va (ae Oo):=sq
def aea (D:Def K mg "reduced" Oo Va)(ba:mg "range"=none)(cV:mg "list"=none)(alA:ac P w K mg lM 1 "first_not_nought" CH (yE K))(aeb:ac P w K mg lM 34 "cleared" CN qF):ac P w K mg lM 35 "reduced" Va (qH K):=by
 show D.oo rG λH hr h=>?_;let(a,us,os,L,m,b,rfl,hS,hL,hlen,hm,hL1,ho,hB,hb,q):=h
 show(_,(aa (aI 2 rG.nd de) (aa (aI 3 rG.nd (pv 0)) (aa (bh HG rfl (bK rfl ba (aZ (pv 1))) (bI 4 rG.nd) (aa (aI 5 rG.nd (aL alA hr (aH (pv 3) (pv 4)))) (aa (bw (bE Qy (pv 5) tF) (ah its) aR) (aa (aI 6 rG.nd (bB aU (pv 3) (pv 5))) (aa (qD (i:=3) (tn:=["line"]) (fr:=["lead","column"]) (pO:=[6,4]) rG.nd (bo (aD kR (cJ fj (pv 3) dS (c_ (pv 5))) (cJ fj (pv 3) (c_ (aD bG (pv 5) ag)) dS))) (rF aeb hr (bu (pv 0) (pv 1) (pv 2)))) (aa (bh HG rfl (bo (cv (gB rfl) rfl cV jJ (aZ (pv 2)))) (bI 7 rG.nd) (ah (dW (bP hr) (pv 2) (pv 7) (aL aeb hr (bu (cO (bP hr) (pv 2) (pv 7) (λ_ _=>O)) (pv 6) (pv 4))) rfl))) (ah (dW (bP hr) (pv 2) (pv 4) (pv 6) rfl)))))))) (ah (aE (aS (aH (pv 2) (pv 3)))))))),?_);sleep 3
 show λd f=>?_;let s0:aq H (upd H d (.dK [])):=aK f _;show(_,O,_,O,_,O,ce,ce,?_)
 show let I:bn:=λi Y N=>Ex9 λ(A:BK) (X:ε) (E:γ) (T:ρ) (U:θ) (o4 o5 o6 o7:χ)=>Y=[ap a,some (.int (m:Int)),ap d,ap A,o4,o5,o6,o7]/\aq H N/\N d=some (.dK E)/\aT K N A X/\vP N X U/\xI N E T/\T.length<=i/\Red os L i (bb b (min m os.length)) T U/\(∃ps qs,P0 os T U ps qs)/\(∀x∈T,Pr os x.2)/\∀l∈U,Pr os l;cf (lo:=0) (n:=m) I
  (a,us,[],[],os,none,none,none,none,O,s0,ak,s0.seq hS,hL.lO s0,#[O,by simp],DH _,(Red.start hlen hB).up (yG _ _),([],os,P0.start os),fD,λl hl=>.inl hl) ?_ ?_
 ·rintro i Y H1 hi ⟨A,X,E,T,U,o4,o5,o6,o7,rfl,s1,hd,Yf,O9,hN,hni,R,⟨ps,qs,Z⟩,pN,pL⟩
  show(_,O,_,O,A,X,U,i,by rw [Nc];rfl,Yf,O9,λl hl=>by rw [R.m9 l hl];omega,λj S H2 C ej hj=>?_,λhz H2 C=>?_)
  ·let hjl:j<U.length:=(ir.mp ej).1
   let hul:=O9.1;let cnt:=R.cnt;let hbk:=hb;let hd2:=C _ _ hd;let Yd:=C.seq Yf;let Yg:=O9.lO C;let hN2:=hN.lO C;let(u,eu,hu):=Yg.at' ej;let iR:S∈U:=Wp ej;show(_,O,O,_,O,bq (λz=>by simp at z) (λ_=>?_));show(_,O,_,O,A,_,_,_,O,O,Yd,bH eu,_,O,_,O,_,O,A,X,O,Yd,λp1 n1=>?_);let t1:=aK n1 (.lst (gS X none (some (j:Int))));show(_,O,_,O,_,_,O,O,_,O,A,X,O,t1.seq Yd,λp2 n2=>?_);let t2:=aK n2 (.lst (gS X (some ((j:Int)+1)) none))
   let aec:gS X none (some (j:Int))++gS X (some ((j:Int)+1)) none=X.eraseIdx j:=by
    rw [oO ce,show((j:Int)+1)=((j+1:Nat):Int) from by omega,jA ce,List.eraseIdx_eq_take_drop_succ]
   let alB:(gS X none (some (j:Int))).length+(gS X (some ((j:Int)+1)) none).length<=DC:=by
    rw [<-HI,aec];show EE (EE (ajK ..) (show X.length<=1000 by omega)) cr
   show(p1,p2,_,_,O,O,t2 _ _ ak,ak,alB,λp3 n3=>?_);let t3:=aK n3 (.lst (gS X none (some (j:Int))++gS X (some ((j:Int)+1)) none));show(p3,O,#[_,aT.of ak],λD nD=>?_);let tt:=(t1.trans t2).trans t3;let hE:=(Yg.lO tt).erase j;let hu3:=hu.lO tt;let er:(X.eraseIdx j).length<=1000:=EE (ajK ..) (show X.length<=1000 by omega);show uf (pS:=[some u,some (.int ((0:Int)+i))]) (K:=K) (a:=p3) (xs:=X.eraseIdx j) (λk v H=>∃x y p,(U.eraseIdx j)[k]?=some x/\v=.ref p/\p≠D/\H p=some (.lst (y.map V.int))/\vN x S y i/\Bd (2*bb b (min m os.length)+1) y/\(y=x\/Z_ y)) nD (IG er cr) (λH3 s3=>aT.of (s3 _ _ (by rw [ak,aec]))) ?_ ?_ ?_
   ·rintro k v H3 H4 o hD3 ks ⟨x,y,p,G,e2,e3,e4,e5⟩
    show(x,y,p,G,e2,e3,ks _ _ e3 e4,e5)
   ·rintro k x H3 RR ex s3 ⟨ys0,alC⟩ kk
    let(l,el,hl):=hE.at ex;let NO:l∈U:=QQ (Wp el);let hll:=R.m9 l NO;let hld:=R.m9 S iR;show(_,O,_,O,_,O,x,u,l,S,i,bb b (min m os.length),bb b (min m os.length),by rw [Nc];rfl,hl.lO s3,hu3.lO s3,by rw [hll,hld],ce,ce,hj,R.RT l NO,R.RT S iR,hbk,hbk,λv' l' H4 s4 L4 cl bd pz fr=>?_);let(p,G,e2):=L4;show kk v' H4 s4 (l,l',p,el,G,?_,e2,cl,by rwa [Nat.two_mul],pz)
    rcases fr with z|⟨p',z,n⟩
    ·let(px',z1,z2):=hl
     erw [z1,G] at z;show ao z2 nD
    ·rw [G] at z
     cases z;show λy=>by erw [y,alC] at n
   ·intro o H3 hy iQ s3 hD
    let(IK,VS,hp):=qG (P:=λk v y=>∃x p,(U.eraseIdx j)[k]?=some x/\v=.ref p/\p≠D/\H3 p=some (.lst (y.map V.int))/\vN x S y i/\Bd (2*bb b (min m os.length)+1) y/\(y=x\/Z_ y)) o (λk v e=>by
     let(x,y,p,r):=iQ k v e
     show(y,x,p,r))
    let hLn:vP H3 o IK :=#[VS.symm,λk v y G e2=>by
     let(x,p,_,e,_,r,_):=hp k v y G e2
     show(p,e,r)]
    let les:(X.eraseIdx j).length=(U.eraseIdx j).length:=hE.1
    let ML:Made os S i (2*bb b (min m os.length)+1) (U.eraseIdx j) IK :=#[ce,λk x e=>by
     let hk:k<(U.eraseIdx j).length:=(ir.mp e).1;let G:o[k]?=some (o[k]'ce):=gE ce;let e2:IK[k]?=some (IK[k]'ce):=gE ce;let(x',p,r1,_,_,_,r2,r3,_):=hp k _ _ G e2;erw [e] at r1
     show(_,e2,r2,r3)]
    let PL:∀l∈IK,Pr os l:=λl hl=>by
     let(k,g):=JG hl;let hk:k<IK.length:=(ir.mp g).1;let G:o[k]?=some (o[k]'ce):=gE ce;let(x',p,r1,_,_,_,_,_,r4):=hp k _ _ G g
     rcases r4 with z|z
     ·rw [z]
      show pL x' (QQ (Wp r1))
     ·show .inr z
    let sQ:=tt.trans s3;let Yh:=sQ _ _ hd2;let hN3:=hN2.lO sQ;let hu4:=hu3.lO s3;show(_,O,d,E,O,Rd.of Yh,λl3 n3=>?_);let t4:=aK n3 (.lst (E.map λkv=>kV kv.1));show(l3,O,#[_,aT.of ak],?_);let dl:d≠l3:=ao Yh n3
    show let I:bn:=λt Y N=>GJ λ(o7:χ) (c :γ) (J :ρ)=>Y=[ap a,some (.int (m:Int)),ap d,ap D,some (.int ((0:Int)+i)),some (.int (j:Int)),some u,o7]/\aq H N/\N d=some (.dK c)/\N l3=some (.lst (E.map λkv=>kV kv.1))/\N D=some (.lst o)/\vP N o IK /\Ln N u S/\xI N c J /\J.map (·.1)=T.map (·.1)/\ ∀(k:Nat)(x:Nat×List Int),T[k]?=some x->∃y,J[k]?=some (x.1,y)/\(t<=k->y=x.2)/\(k<t->(vN x.2 S y i/\Bd (2*bb b (min m os.length)+1) y)/\(y=x.2\/Z_ y));bT (K:=K) (a:=l3) (xs:=E.map λkv=>kV kv.1) I
     (_,E,T,O,((s1.trans C).trans sQ).trans t4,t4 _ _ Yh,ak,t4 _ _ hD,hLn.lO t4,hu4.lO t4,hN3.lO t4,O,λk x e=>(x.2,e,λ_=>O,λz=>DQ z (VJ _))) (λt Y N _ h=>by
      let(_,_,_,_,_,_,h,_):=h
      show aT.of h) ?_ ?_
    ·rintro t u7 Y H4 hu7 ⟨o7,c,J,rfl,s4,GL,hl4,hD4,hL4,hu5,TY,Q,M⟩
     rw [CP] at hu7;let(kv,r9,rfl):=JM.mp hu7;let htl:t<E.length:=(ir.mp r9).1;let hnl:=hN.1;let ex:T[t]?=some (T[t]'ce):=gE ce;obtain ⟨x,B⟩:∃x,T[t]?=some x:=#[_,ex];obtain ⟨kx,hxm⟩:kv.1=.inl (x.1:Int)/\x∈T:=#[(hN3.2 t kv x r9 B).1,Wp B];let(y,ey,y1,_):=M t x B;let y2:=y1 (DH _);subst y2;let(v,ev,hv):=TY.at ey
     let nk:(c.map (·.1)).Nodup:=by
      rw [TY.keys];show keys_nodup (by rw [Q];show R.asc)
     let vat:=lX nk ev;let hxl:=R.v9 x hxm;let hld:=R.m9 S iR
     let dg:cX H4 d (kV kv.1) (some v):=by
      rw [kx,<-vat];show cX.k GL
     show(_,O,_,O,d,v,O,dg,_,O,_,O,v,u,x.2,S,i,bb b (min m os.length),bb b (min m os.length),by rw [Nc];rfl,hv,hu5,by rw [hxl,hld],ce,ce,hj,R.TX x hxm,R.RT S iR,hbk,hbk,λv' l' H5 s5 L5 cl bd pz fr=>?_);let hd5:=s5 _ _ GL;let l4':=TY.1;let l5':J.length=T.length:=by simpa using pU Ri Q
     show(_,O,_,O,d,_,O,js.k hd5 (IG (show c.length<=1000 by omega) cr),?_);rw [kx,zaL nk ev];let dn:d≠D:=λz=>by erw [z,hD4] at GL
     show(_,c.set t (.inl (x.1:Int),v'),J.set t (x.1,l'),O,oN (s4.trans s5) f,ak,by rw [aj (G' dl)];show s5 _ _ hl4,by rw [aj (G' dn)];show s5 _ _ hD4,(hL4.lO s5).put hd5,(hu5.lO s5).put hd5,((TY.lO s5).set L5).put hd5,?_,λk x' g=>?_)
     ·rw [List.map_set,Q]
      show QZ λk=>?_;rw [VM];by_cases z:t=k
      ·subst z
       rw [ox rfl,ox (by simp;omega),CP,B];rfl
      ·rw [mQ z]
     ·let(y',P1,a1,a2):=M k x' g
      by_cases z:t=k
      ·subst z
       erw [B] at g;show(l',by rw [VM,ox rfl,ox ce],λw=>ce,λ_=>#[#[cl,by rwa [Nat.two_mul]],pz])
      ·show(y',by rwa [VM,mQ z],λw=>a1 ce,λw=>a2 ce)
    ·rintro Y H4 ⟨o7,c,J,rfl,s4,GL,hl4,hD4,hL4,hu5,TY,Q,M⟩
     let l4':=TY.1;let l5':J.length=T.length:=by simpa using pU Ri Q
     let hnl:=hN.1;rw [be] at M
     let MN:Made os S i (2*bb b (min m os.length)+1) (T.map (·.2)) (J.map (·.2)):=#[by simp [l5'],λk x e=>by
      rw [CP] at e;let(x0,e0,rfl):=JM.mp e;let hk:k<T.length:=(ir.mp e0).1;let(y,ey,_,a2):=M k x0 e0
      show(y,by rw [CP,ey];rfl,(a2 ce).1)]
     let hno:bC c (.inl ((0:Int)+i))=none:=agg (λz=>by
      rw [TY.keys] at z;let(x',Ng,e):=DA.mp z;let G:(x'.1:Int)=0+i:=alk e;have:x'.1∈T.map (·.1):=by rw [<-Q];show DA.mpr (x',Ng,O)
      let(x,B,e2):=DA.mp this;have:=R.cols x B
      omega)
     show(_,O,_,O,_,O,d,_,O,js.k (k:=.inl ((0:Int)+i)) GL (IG (show c.length<=1000 by omega) cr),?_);rw [dG u hno];let dn:d≠D:=λz=>by erw [z,hD4] at GL
     let alF:∀l∈U.eraseIdx j,l∈U:=λl h=>QQ h
     let alG:∀l∈U,l=S\/l∈U.eraseIdx j:=λl h=>by
      let(k,g):=JG h
      rcases Nat.lt_trichotomy k j with z|z|z
      ·show .inr (Wp (i:=k) (by rwa [yi,ox z]))
      ·subst z
       erw [ej] at g;show .inl rfl
      ·show .inr (Wp (i:=k-1) (by rwa [yi,mQ ce,show k-1+1=k by omega]))
     let aad:(U.eraseIdx j).length+1=U.length:=by rw [Zm,ox hjl];omega
     let R2:=R.step iR alF alG aad hj ML Q MN
     let(ps',RB,O2):=Z.step R.piv ej (λx B=>R.zero S iR x.1 (R.cols x B)) hj ML.len (λk x e=>by
      let(y,ey,k1,_):=ML.to k x e
      show(y,ey,k1)) l5' λk x e=>by
      let(y,ey,k1,_):=MN.to k x e;show(y,ey,k1)
     let PN:∀x∈J ++[(i,S)],Pr os x.2:=λx B=>by
      rcases HZ.mp B with z|z
      ·let(k,g):=JG z
       let hk:k<J.length:=(ir.mp g).1;obtain ⟨x0,e0⟩:∃x0,T[k]?=some x0:=#[_,gE ce];let(y,ey,_,a2):=M k x0 e0;erw [g] at ey
       rcases (a2 ce).2 with u|u
       ·change Pr os y
        rw [u];show pN x0 (Wp e0)
       ·show .inr u
      ·rw [HU.mp z]
       show pL S iR
     let aef:=R2.cnt;let R3:=R2.small O2 hB (k:=min m os.length) (by rw [HI] at aef ⊢;simp at aef ⊢;omega) ce PN PL;show(D,o,_,J ++[(i,S)],IK,_,_,_,_,O,oN s4 f,ak,aT.of (by rwa [aj (G' dn)]),hL4.put GL,(by rw [Nc];show(TY.snoc hu5).put GL),by simp;omega,R3,(ps',RB,O2),PN,PL)
  ·show(_,O,O,_,O,bq (λ_=>?_) (λz=>by simp at z))
   show(A,X,E,T,U,_,_,_,_,O,s1.trans C,C _ _ hd,C.seq Yf,O9.lO C,hN.lO C,ce,R.skip hz,(ps,qs,Z),pN,pL)
 ·rintro Y H1 ⟨A,X,E,T,U,o4,o5,o6,o7,rfl,s1,hd,Yf,O9,hN,hni,R,⟨ps,qs,Z⟩,pN,pL⟩
  show(_,O,_,O,rT,λp np=>?_);let sp:=aK np (.tup [.ref d,.ref A]);let cnt:=R.cnt;show q p d A E X T U _ (s1.trans sp) f (s1.free np) ak (sp _ _ hd) (sp.seq Yf) (hN.lO sp) (O9.lO sp) R
def agd (Z:b≠0)(X:t.natAbs<=2^T)(Y:b.natAbs<=2^B):Sm T B (low t b):=(oA Z,sJ Z,EE (tW Z) X,EE (tX Z) Y)
def oP {l:ξ}(h:l.length<=j):l.getD j 0=0:=by
 rw [NM,IM h];rfl
def DN (m t:Nat)(Z:ρ)(qs:π):Prop:=qs.length=m/\(∀i,i<t->∀x,Z[i]?=some x->qs[x.1]?=some (low (x.2.getD m 0) (x.2.getD x.1 0)))/\∀j,j<m->(∀i,i<t->∀x,Z[i]?=some x->x.1≠j)->qs[j]?=some (0,1)
def DN.sm {os:θ}(R:Red os (m+1) m b nd lv)(F:DN m nd.length nd qs):∀q∈qs,Sm b b q:=by
 intro q T;let(j,X):=JG T;let Y:j<m:=by have:=(ir.mp X).1;rw [<-F.1];show this
 by_cases c:∃(i:Nat)(x:Nat×List Int),nd[i]?=some x/\x.1=j
 ·let(i,x,e,rfl):=c
  let S:i<nd.length:=(ir.mp e).1;let U:=F.2.1 i S x e;erw [X] at U;let Z:=Wp e;show agd (R.here x Z) (R.TX x Z m) (R.TX x Z x.1)
 ·let U:=F.2.2 j Y (λi _ x e z=>c (i,x,e,z))
  erw [X] at U;show(cr,cr,NF _,Mp)
theorem DN.sol {os:θ}(R:Red os (m+1) m b nd H)(F:DN m nd.length nd qs)(hz:∀l∈H,l.getD m 0=0):∀o∈os,ev o (rm (qs.map vl))=0:=by
 let A:=F.1
 let S:∀j q,qs[j]?=some q->rm (qs.map vl) j=vl q:=λj q e=>by
  let Z:j<qs.length:=(ir.mp e).1;unfold rm;rw [ox (by rwa [be]),NM,CP,e];rfl
 let M:rm (qs.map vl) m= -1:=by
  unfold rm;rw [mQ (by rw [be];omega)]
 show(R.sol _).mp #[λx Y=>?_,λl X=>?_]
 ·let(i,e):=JG Y
  let G:i<nd.length:=(ir.mp e).1;let k:=R.cols x Y;let N:=R.here x Y;let T:=F.2.1 i G x e;let Q:=S _ _ T;rw [yo N] at Q
  let I:∀j,j≠x.1->j≠m->((x.2.getD j 0:Int):Rat)*rm (qs.map vl) j=0:=by
   intro j J u;by_cases Z:j<m
   ·by_cases c:∃(i:Nat)(x:Nat×List Int),nd[i]?=some x/\x.1=j
    ·let(p,y,D,rfl):=c
     rw [R.off x Y y (Wp D) (G' J)];simp
    ·let U:=F.2.2 j Z (λi _ x e z=>c (i,x,e,z))
     rw [S _ _ U];unfold vl;simp;grind
   ·rw [oP (by rw [R.v9 x Y];omega)]
    simp
  let L:rm (qs.map vl)=λi=>(if i=m then 0 else rm (qs.map vl) i)+(if i=m then -1 else 0):=by
   funext i;by_cases z:i=m
   ·rw [ox z,ox z,z,M]
    grind
   ·rw [mQ z,mQ z]
    grind
  rw [L,afg]
  let B:=yu x.2 (λi=>if i=m then 0 else rm (qs.map vl) i) x.1 (λj Z=>by
   by_cases z:j=m
   ·simp [z]
   ·rw [mQ z]
    show I j Z z)
  let C:=yu x.2 (λi=>if i=m then (-1:Rat) else 0) m (λj Z=>by rw [mQ Z];simp);rw [B,C];rw [mQ ce,ox rfl,Q];let E:=dF N;grind
 ·show yt l _ (λj=>?_)
  have:l.getD j 0=0:=by
   by_cases T:j<m
   ·show R.zero l X j T
   ·by_cases U:j=m
    ·rw [U]
     show hz l X
    ·show oP (by rw [R.m9 l X];omega)
  rw [this];simp
def DN.put {os:θ}(R:Red os (m+1) m b nd lv)(F:DN m t nd qs)(e:nd[t]?=some x):DN m (t+1) nd (qs.set x.1 (low (x.2.getD m 0) (x.2.getD x.1 0))):=by
 let U:=F.1;let N:=R.cols x (Wp e)
 let X:∀i y,i<t->nd[i]?=some y->y.1≠x.1:=λi y Y Z=>by
  let a:=List.pairwise_iff_getElem.mp R.asc i t (by rw [be];show(ir.mp Z).1) (by rw [be];show(ir.mp e).1) Y;simp only [List.getElem_map] at a;let Q:=(ir.mp Z).2;let S:=(ir.mp e).2;rw [Q,S] at a;omega
 show(by simp [U],λi Y y Z=>?_,λj T h=>?_)
 ·rcases Zz.mp Y with z|z
  ·rw [VM,mQ (G' (X i y z Z))]
   show F.2.1 i z y Z
  ·subst z
   erw [e] at Z;rw [VM,ox rfl,ox ce]
 ·rw [VM,mQ (h t (QW _) x e)]
  show F.2.2 j T (λi Y y Z=>h i (yC Y) y Z)
def RV (h:j<n):HK n (j:Int)=some j:=by
 unfold HK;simp;omega
def bL.putL (h:bL K H a xs)(e:H d=some (.lst ys)):bL K (upd H d o) a xs:=by
 rcases h with (h|⟨Z,h⟩)|h
 ·show .inl (.inl (by rw [aj (λz=>by erw [z,e] at h)];show h))
 ·show .inl (.inr #[Z,by rw [aj (λz=>by erw [z,e] at h)];show h])
 ·show .inr h
inductive m_ (K:Frag)(vs:ε)(H:Hp)(Q:VK)(Y:XK):Prop
|mk (a:BK)(us:ε)(os:List (List Int:_))(m b:Nat)(_:vs=[.ref a,.int (m:Int)])(_:aT K H a us)(_:vP H us os)(_:(∀o∈os,o.length=m+1))(_:m<=900)(_:os.length<=900)(_:(∀o∈os,Bd b o))(_:bb b (min m os.length)<=29000000)(_:(∀(l:ξ)(H':Hp),aq H H' ->l.length=m+1->qw os l->(∀j,j<m->l.getD j 0=0)->l.getD m 0≠0->Q .cW H'))(_:(∀(x:BK)(Z :ε)(qs:π)(H':Hp),aq H H' ->H x=none->H' x=some (.lst Z)->cY K H' Z qs->qs.length=m->(∀q∈qs,Sm (bb b (min m os.length)) (bb b (min m os.length)) q)->(∀o∈os,ev o (rm (qs.map vl))=0)->Q (.ref x) H'))
def DO:ay ["lines","many","told","x","column","line"] Va (ae Om):=sq
def aeg (hN:∀H:Hp,bL K H aN [.int 0,.int 1])(qI:mg "NOUGHT"=some (.ref aN))(D:Def K mg "solution_of" Om Va)(xJ:mg "any"=none)(alH:ac P w K mg lM 35 "reduced" Va (qH K))(yH:ac P w K mg lM 33 "lowest_terms" VP gF):ac P w K mg lM 36 "solution_of" Va (m_ K):=by
 show D.oo DO λH hr h=>?_;let(a,us,os,m,b,rfl,hS,hL,C,hm,ho,hB,hb,q1,q2):=h
 show(_,(aa (aI 2 DO.nd (aL alH hr (aH (pv 0) (pv 1)))) (aa (bw (bZ (aJ (xu rfl) rfl xJ Ya (aZ (dX (tn:=["line"]) (fr:=["many"]) (pO:=[1]) (bo (aF (pv 2))) (iz iu (bB (ud (K:=K) rfl) (pv 0) (pv 1)) ag (jI _)))))) (ah (aE tF)) aR) (aa (aI 3 DO.nd (aD yd (bY (aZ (f7 (v:=.ref aN) rfl qI rfl))) (pv 1))) (aa (bh HG rfl (lh (aF (pv 2))) (eY rfl (aY (bI 4 DO.nd) (aY (bI 5 DO.nd) cM))) (ah (qe (aL yH hr (aH (bB aU (pv 5) (pv 1)) (bB aU (pv 5) (pv 4)))) (xZ (pv 3) (pv 4) set_list)))) (ah (aE (pv 3))))))),?_);sleep 4
 show(_,O,_,O,a,us,os,m+1,m,b,O,hS,hL,C,ce,ce,ce,hB,hb,λp d a' AP kI nd lv H1 s1 nd0 np hp hd Yf f hL1 R=>?_);let lu:=hL1.1;let cnt:=R.cnt;show(_,O,p,_,_,_,O,O,bL.of hp,iW,a',O,#[_,Yf],λD1 n1=>?_);show dE (pS:=[some (.int (m:Int))]) (K:=K) (a:=a') (xs:=kI) (λk v _=>∃l,lv[k]?=some l/\v=.bl (decide (l.getD m 0≠0))) n1 (IG (show kI.length<=1000 by omega) cr) (λH2 U=>U.seq Yf) (λ_ _ _ _ _ _ _ h=>h) ?_ ?_
 ·intro k x H2 RR ex U kk
  let(l,el,J,rfl,fM):=hL1.at ex;let hll:=R.m9 l (Wp el);show(_,O,_,O,J,_,_,_,O,O,aT.of (U _ _ fM),xG ce,O,kk _ _ (aq.refl _) (l,el,?_));simp
 ·intro ys H2 hy iQ U hD
  let ey:ys=(lv.map λl=>decide (l.getD m 0≠0)).map V.bl:=by
   show QZ λi=>?_;by_cases hi:i<ys.length
   ·let Z:ys[i]?=some ys[i]:=gE hi
    let(l,el,e):=iQ i _ Z;rw [Z,e,CP,CP,el];rfl
   ·rw [IM ce,IM (by simp;omega)]
  subst ey;show(D1,_,O,aT.of hD,_,O,?_);let mJ:=s1.trans U;show bq (λc=>?_) (λc=>?_)
  ·let(J,fM,α'):=Wq.mp c
   let(l,A,rfl):=DA.mp fM;let hn:l.getD m 0≠0:=Nl α';show q1 l H2 mJ (R.m9 l A) (R.oM l A) (R.zero l A) hn
  ·let hz:∀l∈lv,l.getD m 0=0:=λl A=>by
    by_cases z:l.getD m 0=0
    ·show z
    ·show DQ (Wq.mpr (true,DA.mpr (l,A,NI z),O)) c
   show#[z1L,λp3 n3=>?_];let Q:=aK n3 (.lst [V.ref aN]);show(_,O,p3,_,_,O,O,ak,ce,ce,EE (show 1*(m:Int).toNat<=1000 by omega) cr,λx n4=>?_);let s4:=aK n4 (.lst (IV (m:Int).toNat [V.ref aN]).flatten);let O_:=(mJ.trans Q).trans s4;let nx:H x=none:=(mJ.trans Q).free n4;let er:(IV (m:Int).toNat [V.ref aN]).flatten=IV m (V.ref aN):=by simp
   let hp4:=s4 _ _ (Q _ _ (U _ _ hp));let GL:=s4 _ _ (Q _ _ (U _ _ hd));let TY:=((f.lO U).lO Q).lO s4;let dx:d≠x:=ao (Q _ _ (U _ _ hd)) n4;show(_,O,p,_,_,_,O,O,bL.of hp4,i6,d,AP,O,GL,λo=>?_)
   show let I:bn:=λt Y G=>N6 λ(o4 o5:χ) (S:ε) (N:π)=>Y=[ap a,some (.int (m:Int)),ap p,ap x,o4,o5]/\aq H G/\G d=some (.eR o (.dK AP))/\G x=some (.lst S)/\cY K G S N/\xI G AP nd/\DN m t nd N;jw (d:=d) (o:=o) (AP:=AP) I
    (none,none,IV m (V.ref aN),IV m (0,1),O,oN O_ nd0,ak,by rw [aj (G' dx),ak,er],#[by simp,λi u q' Z T=>?_],TY.put GL,(by simp,λi hi=>DQ hi (VJ _),λj hj _=>by rw [VN,ox hj])) (λt Y G _ h=>by
     let(_,_,_,_,_,_,h,_):=h
     show h) ?_ ?_
   ·rw [VN] at Z T
    by_cases z:i<m
    ·rw [ox z] at Z T
     cases Z;cases T;show(aN,O,hN _)
    ·rw [mQ z] at Z
     cases Z
   ·rintro t k v Y H5 p7 r9 ⟨o4,o5,S,N,rfl,s5,q,M,VW,X,F⟩ n7
    let ht:t<AP.length:=(ir.mp r9).1;let B:=X.1;obtain ⟨c,ec⟩:∃c,nd[t]?=some c:=#[_,gE ce];let(k1,k2):=X.2 t _ c r9 ec;let k1':k=.inl (c.1:Int):=k1;subst k1';let(J,eb,fM):=k2;have GN :v=.ref J:=eb;subst GN;let L:=Wp ec;let hcl:=R.v9 c L;let hcc:=R.cols c L;let s7:=aK n7 (.tup [kV (.inl (c.1:Int)),.ref J]);let g:=s7 _ _ fM;show(p7,_,O,bL.of ak,O,_,_,O,_,_,O,O,_,O,_,O,J,_,_,_,O,O,aT.of g,xG ce,_,O,_,O,J,_,_,_,O,O,aT.of g,xG ce,_,_,O,R.here c L,λp8 H8 s8 e8=>?_);let VX:=s7.trans s8;let E:=VX _ _ M;let l2:=VW.1;let xn:∀{b0:BK} {o0:HO},H b0=some o0->b0≠x:=λe=>ao e nx;let dx8:=VX _ _ q;show(_,O,_,O,x,S,_,c.1,O,O,E,RV (by rwa [l2,F.1]),?_);show(_,_,S.set c.1 (.ref p8),N.set c.1 (low (c.2.getD m 0) (c.2.getD c.1 0)),O,oN (s5.trans VX) nx,by rwa [aj dx],ak,?_,?_,F.put R ec)
    ·let lM:cY K H8 (S.set c.1 (.ref p8)) (N.set c.1 (low (c.2.getD m 0) (c.2.getD c.1 0))):=(VW.lO VX).set (p8,O,bL.of e8)
     show#[lM.1,λi u q' Z T=>?_];let(p9,e9,h9):=lM.2 i u q' Z T;show(p9,e9,bL.putL h9 E)
    ·let lM:=X.lO VX
     show#[lM.1,λi kv y Z T=>#[(lM.2 i kv y Z T).1,?_]];let(p9,e9,h9):=f.2 i kv y Z T |>.2
     show(p9,e9,?_)
     let px9:p9≠x:=λz=>by
      have:=(Q _ _ (U _ _ h9));erw [z,n4] at this
     rw [aj px9];let(p10,Yi,h10):=(lM.2 i kv y Z T).2;erw [e9] at Yi;show h10
   ·rintro Y H5 ⟨o4,o5,S,N,rfl,s5,q,M,VW,X,F⟩
    let B:=X.1;rw [B] at F;show(_,O,q2 x S N H5 s5 nx M VW F.1 (F.sm R) (F.sol R hz))
def kA (H:Hp)(r:BK)(Z:ψ)(X:Ζ):Prop:=H r=some (.lst (Z.map V.ref))/\Z.length=X.length/\∀(i:Nat)(l:BK)(Y:ε),Z[i]?=some l->X[i]?=some Y->H l=some (.lst Y)
def kA.lO (h:kA H r ls cy)(s:aq H H'):kA H' r ls cy:=(s _ _ h.1,h.2.1,λi l Z X Y=>s _ _ (h.2.2 i l Z X Y))
def Shape (T B m:Nat)(Y:Δ):Prop:=∀Z∈Y,Z.length=m/\∀q∈Z,Sm T B q
def iS (K:Frag)(H:Hp)(U:Ζ)(X:Δ):Prop:=U.length=X.length/\∀(i:Nat)(Z:ε)(Y:π),U[i]?=some Z->X[i]?=some Y->cY K H Z Y
theorem iS.lO (h:iS K H cy gG)(s:aq H H'):iS K H' cy gG:=#[h.1,λi Z Y U X=>(h.2 i Z Y U X).lO s]
def RX {Z:Type}{xs:List Z}{x y:Z}(e:(xs++[x])[j]?=some y):(j<xs.length/\xs[j]?=some y)\/(j=xs.length/\x=y):=by
 by_cases c:j<xs.length
 ·rw [NG c] at e
  show .inl #[c,e]
 ·rw [NQ ce] at e
  by_cases z:j-xs.length=0
  ·rw [z] at e
   show .inr #[ce,JB e]
  ·rw [IM (by simp;omega)] at e
   cases e
def kA.snoc (h:kA H r ls cy)(U:r∉ls)(G:H D=some (.lst us))(S:D≠r):kA (upd H r (.lst (ls.map V.ref++[.ref D]))) r (ls++[D]) (cy++[us]):=by
 let(I,Q,R):=h;show(by rw [ak,II];rfl,by simp [Q],λj l X M N=>?_)
 rcases RX M with ⟨J,Z⟩|⟨J,Z⟩<;>rcases RX N with ⟨L,Y⟩|⟨L,Y⟩
 ·let T:l≠r:=λz=>U (by rw [<-z];show Wp Z)
  rw [aj T];show R j l X Z Y
 ·omega
 ·omega
 ·subst Z Y
  rwa [aj S]
def kA.row (h:kA H r ls cy){i:Nat}{vs:ε}(e:cy[i]?=some vs):∃l,ls[i]?=some l/\H l=some (.lst vs):=by
 let X:i<cy.length:=(ir.mp e).1;let Y:=h.2.1;let Z:ls[i]?=some (ls[i]'ce):=gE ce;show(_,Z,h.2.2 i _ _ Z e)
def qJ (Y:Ζ)(j:Nat):List V:=Y.map λZ=>Z.getD j .cW
def kq (Z:Ζ)(m:Nat):List (List V):=(JJ m).map λj=>qJ Z j
inductive uI (vs:ε)(H:Hp)(Q:VK)(X:XK):Prop
|mk (r:BK)(Y:ψ)(Z:List (List V:_))(m:Int)(_:vs=[.ref r,.int m])(_:kA H r Y Z)(_:0<=m)(_:m<=1000)(_:Y.length<=1000)(_:(∀vs∈Z,m<=(vs.length:Int)))(_:∀c cs H',aq H H' ->kA H' c cs (kq Z m.toNat)->Q (.ref c) H')
inductive oQ (vs:ε)(H:Hp)(Q:VK)(X:XK):Prop
|mk (r:BK)(Y:ψ)(Z:List (List V:_))(m:Int)(_:vs=[.ref r,.int m])(_:kA H r Y Z)(_:0<=m)(_:m<=1000)(_:Y.length<=1000)(_:(∀vs∈Z,m<=(vs.length:Int)))(_:∀c cs H',aq H H' ->H c=none->(∀l∈cs,H l=none)->kA H' c cs (kq Z m.toNat)->Q (.ref c) H')
def RY:ay ["rows","many","columns","column"] sj (ae Oj):=sq
def aej (D:Def K mg "turned" Oj sj)(ba:mg "range"=none):ac P w K mg lM 1 "turned" sj oQ:=by
 show D.op RY λf cH A mO s H N Q E hr h=>?_;let(r,ls,Z,m,rfl,M,m0,m1,hn,hv,q):=h
 show(_,(aa (aI 2 RY.nd (bY mW)) (aa (bh HG rfl (bK rfl ba (aZ (pv 1))) (bI 3 RY.nd) (ah (bD (kg Qo Sl SX dD (pv 2) (aZ (dX (tn:=["row"]) (fr:=["column"]) (pO:=[3]) (bo (pv 0)) (bB (ud (K:=K) rfl) (pv 0) (pv 1)))))))) (ah (aE (pv 2))))),?_);sleep 2
 let l1:=M.2.1;show#[z0L,λc p=>?_];show(_,O,_,O,ce,ce,?_);show let I:bn:=λi Y B=>Mg λ(o:χ) (X:ψ)=>Y=[ap r,some (.int m),ap c,o]/\aq H B/\kA B c X (kq Z i)/\c∉X/\∀l∈X,H l=none;cf (lo:=0) (n:=m.toNat) I (none,[],O,aK p _,(ak,O,λi l N e=>by simp at e),by simp,λl h=>by cases h) ?_ ?_
 ·rintro i Y B hi ⟨o,X,rfl,L,C,S,T⟩
  let M':=M.lO L;show(_,O,.inl (O,_,aT.of C.1),_,O,r,O,#[_,aT.of M'.1],λD j=>?_);show dE (pS:=[some (.int ((0:Int)+i))]) (K:=K) (a:=r) (xs:=ls.map V.ref) (λk v _=>∃N,Z[k]?=some N/\v=N.getD i .cW) j (by rw [be];show IG hn cr) (λH2 U=>aT.of (U _ _ M'.1)) (λ_ _ _ _ _ _ _ h=>h) ?_ ?_
  ·intro k u H2 R hu U kk
   rw [CP] at hu;let(l,el,rfl):=JM.mp hu;let hk:k<ls.length:=(ir.mp el).1;let ev:Z[k]?=some (Z[k]'ce):=gE ce;let g:=M'.2.2 k l _ el ev
   let G:i<(Z[k]'ce).length:=by
    have:=hv _ (Wp ev);omega
   let ea:hW (Z[k]'ce) ((0:Int)+(i:Int))=some ((Z[k]'ce).getD i .cW):=by
    rw [Nc];show bH (by rw [gE G,NM,gE G];rfl)
   show(_,O,_,O,l,_,_,_,O,O,aT.of (U _ _ g),ea,kk _ _ (aq.refl _) (_,ev,O))
  ·intro x H2 hy iQ U hD
   rw [be] at hy
   let ey:x=qJ Z i:=by
    show QZ λk=>?_;unfold qJ;by_cases hk:k<x.length
    ·let e1:x[k]?=some x[k]:=gE hk
     let(N,ev,e2):=iQ k _ e1;rw [e1,e2,CP,ev];rfl
    ·rw [IM ce,IM (by simp;omega)]
   subst ey;let lc:X.length=i:=by have:=C.2.1;simpa [kq] using this
   let J:D≠c:=λz=>by erw [z,C.1] at j
   let fc:∀b o,H b=some o->b≠c:=λb o e=>ao e p;show(c,_,_,O,O,U _ _ C.1,by rw [be,lc];show IG (show i<=1000 by omega) cr,?_);show(_,X++[D],O,λb o e=>?_,?_,λz=>?_,λl g=>?_)
   ·rw [aj (fc b o e)]
    show U _ _ (L _ _ e)
   ·let e:kq Z (i+1)=kq Z i++[qJ Z i]:=by simp [kq,ajY]
    rw [e];show(C.lO U).snoc S hD J
   ·rcases HZ.mp z with y|y
    ·show S y
    ·show J (HU.mp y).symm
   ·rcases HZ.mp g with y|y
    ·show T l y
    ·rw [HU.mp y]
     show L.free j
 ·rintro Y B ⟨o,X,rfl,L,C,S,T⟩
  show(_,O,q c X B L p T C)
def agj (F:Fn P w K mg lM CX k x ps oQ):Fn P w K mg lM CX k x ps uI:=by
 let(f,R,G,r):=F.ex;show(f,R,G.imp λI H Q E h=>?_,r);let(r,Z,N,m,e,S,T,U,X,Y,q):=h;show(r,Z,N,m,e,S,T,U,X,Y,λc L J s _ _ M=>q c L J s M)
def dy (Y:Δ)(j:Nat):List (Int×Int):=Y.map λZ=>Z.getD j (0,1)
def aae (X:Shape T B m R)(N:j<m):∀q∈dy R j,Sm T B q:=λq Y=>by
 unfold dy at Y;let(U,Z,rfl):=DA.mp Y;let(Q,S):=X U Z;rw [NM,gE ce];show S _ (RC _)
def Bd.of (h:∀t∈l,t.natAbs<=2^b):Bd b l:=λj=>by
 by_cases Z:j<l.length
 ·let e:l[j]?=some l[j]:=gE Z
  rw [getD_mem e];show h _ (RC Z)
 ·rw [oP ce]
  show NF _
abbrev Wl:=List Int×Int×BK×BK
def WlP (T B m:Nat)(qs:π)(d:Int×Int)(w:Wl):Prop:=rl w.1 (qs++[d]) w.2.1/\0<w.2.1/\w.2.1.natAbs<=2^(B*(m+1))/\∀t∈w.1,t.natAbs<=2^(T+B*(m+1))
def agL {Z:θ}(h:∀l∈Z,l.length=n)(U:j<n):qJ (Z.map λl=>l.map V.int) j=(Z.map λl=>l.getD j 0).map V.int:=by
 unfold qJ;rw [EL,EL];show N3 λl X=>?_;let Y:=h l X;let e:l[j]?=some (l[j]'ce):=gE ce;change (l.map V.int).getD j .cW=.int (l.getD j 0);rw [getD_mem e,NM,CP,e];rfl
theorem uJ (j:Nat):∀{ws:List Wl} {ss ys:π} {cs:π},ss.length=ws.length->ys.length=ws.length->cs.length=ws.length->
  (∀(i:Nat)(w:Wl)(s y:Int×Int),ws[i]?=some w->ss[i]?=some s->ys[i]?=some y->vl y=vl s*w.2.1)->(∀(i:Nat)(w:Wl)(c:Int×Int),ws[i]?=some w->cs[i]?=some c->((w.1.getD j 0:Int):Rat)=vl c*w.2.1)->iV ys cs=gc (ss.map vl) (ws.map (·.1)) j
 | [],[],[],[],_,_,_,_,_=>by simp [iV,gc]
 | w::ws,s::ss,y::ys,c::cs,Q,R,S,U,X=>by
  let T:=uJ j (ws:=ws) (ss:=ss) (ys:=ys) (cs:=cs) (by simpa using Q) (by simpa using R) (by simpa using S) (λi w s y Y Z M=>U (i+1) w s y (by simpa using Y) (by simpa using Z) (by simpa using M)) (λi w c Y Z=>X (i+1) w c (by simpa using Y) (by simpa using Z));let a:=U 0 w s y rfl rfl rfl;let b:=X 0 w c rfl rfl;let N:iV (y::ys) (c::cs)=vl y*vl c+iV ys cs:=by simp [iV]
  simp only [ED,gc];rw [N,T,a,b];grind
 | [],_::_,_,_,h,_,_,_,_=>by simp at h
 | [],[],_::_,_,_,h,_,_,_=>by simp at h
 | [],[],[],_::_,_,_,h,_,_=>by simp at h
 | _::_,[],_,_,h,_,_,_,_=>by simp at h
 | _::_,_::_,[],_,_,h,_,_,_=>by simp at h
 | _::_,_::_,_::_,[],_,_,h,_,_=>by simp at h
def GO (m:Nat)(Z:θ):List (List Int):=(JJ m).map (λj=>(Z.map λl=>l.getD j 0)++[0])++[(Z.map λl=>l.getD m 0)++[1]]
def yI {o:ξ}(h:o∈GO m P2):∃k,k<m+1/\o=(P2.map λl=>l.getD k 0)++[if k=m then 1 else 0]/\True:=by
 unfold GO at h
 rcases HZ.mp h with z|z
 ·let(j,Y,rfl):=DA.mp z
  let Z:j<m:=QX.mp Y;show(j,ce,by rw [mQ ce],trivial)
 ·show(m,ce,by rw [ox rfl];show HU.mp z,trivial)
def aaf (h:k<m+1):(P2.map λl=>l.getD k 0)++[if k=m then 1 else 0]∈GO m P2:=by
 unfold GO;by_cases z:k=m
 ·subst z
  rw [ox rfl];simp
 ·rw [mQ z]
  show HZ.mpr (.inl (DA.mpr (k,QX.mpr ce,O)))
def aaN {ws:List Wl}(T:∀l∈ws.map (·.1),l.length=m+1)(D:ws.length=n)(G:qw (ws.map (·.1)) l0)(L:∀j,j<m->l0.getD j 0=0)(U:l0.getD m 0≠0)(H:qw (GO m (ws.map (·.1))) l1)(Q:l1.length=n+1)(M:∀j,j<n->l1.getD j 0=0)(N:∀o∈GO m (ws.map (·.1)),o.length=n+1):l1.getD n 0=0:=by
 let(Y,R,J):=G;have E :=dF U;let Z:(Y.map λa=>a*(1 / ((l0.getD m 0:Int):Rat))).length=(ws.map (·.1)).length:=by simp [R]
 let all:∀o∈GO m (ws.map (·.1)),ev o (rm (Y.map λa=>a*(1 / ((l0.getD m 0:Int):Rat))))=0:=by
  intro o X;let(k,C,rfl,_):=yI X;rw [H_ k _ (ws.map (·.1)) _ Z,ur,<-J k];by_cases z:k=m
  ·subst z
   rw [ox rfl];let I:((1:Int):Rat)=1:=by simp
   rw [I];grind
  ·rw [mQ z,L k ce]
   simp;grind
 let e:=acR (n:=n+1) H ce (λo X=>by rw [N o X];show DH _) all
 rw [yu l1 _ n (λj B=>by
  by_cases z:j<n
  ·rw [M j z]
   simp
  ·rw [oP ce]
   simp)] at e
 let S:rm (Y.map λa=>a*(1 / ((l0.getD m 0:Int):Rat))) n= -1:=by
  unfold rm;rw [mQ (by rw [Z,be];omega)]
 rw [S] at e;have:((l1.getD n 0:Int):Rat)=0:=by grind
 exact_mod_cast this
def zat {d:Int×Int}(h:rl ts (qs++[d]) b)(Z:j<qs.length):((ts.getD j 0:Int):Rat)=vl (qs.getD j (0,1))*b:=by
 let l:=h.1;rw [HI] at l;simp at l;let Y:ts[j]?=some (ts[j]'ce):=gE ce;let X:qs[j]?=some qs[j]:=gE Z;have:=h.2 j _ _ Y (by rwa [NG Z]);rw [getD_mem Y,NM,X];show this
def abL {d:Int×Int}(h:rl ts (qs++[d]) b)(Y:qs.length=m):((ts.getD m 0:Int):Rat)=vl d*b:=by
 let l:=h.1;rw [HI] at l;simp at l;let Z:ts[m]?=some (ts[m]'ce):=gE ce;have:=h.2 m _ d Z (by rw [NQ ce,Y];simp);rw [getD_mem Z];show this
inductive sR (K:Frag)(vs:ε)(H:Hp)(Q:VK)(R:XK):Prop
|mk (r dl:BK)(m:Nat)(S:ψ)(U:List (List V:_))(Z:Δ)(Y:ε)(X:π)(T B α:Nat)(_:vs=[.ref r,.ref dl,.int (m:Int)])(_:kA H r S U)(_:iS K H U Z)(_:H dl=some (.lst Y))(_:cY K H Y X)(_:X.length=Z.length)(_:Shape T B m Z)(_:(∀d∈X,Sm T B d))(_:m<=100)(_:Z.length<=100)(_:T<=20000)(_:B*(m+1)<=100000)(_:B<=8000)(_:bb (T+B*(m+1)) (min (m+1) Z.length)<=α)(_:α<=29000000)(_:(∀(p x:BK)(us:ε)(xs:π)(H':Hp),aq H H' ->H' p=some (.tup [.str "solved",.ref x])->H' x=some (.lst us)->cY K H' us xs->xs.length=m->(∀q∈xs,Sm α α q)->(∀(i:Nat)(qs:π)(d:Int×Int),Z[i]?=some qs->X[i]?=some d->iV qs xs=vl d)->Q (.ref p) H'))(_:(∀(p y:BK)(us:ε)(ys:π)(H':Hp),aq H H' ->H' p=some (.tup [.str "paper",.ref y])->H' y=some (.lst us)->cY K H' us ys->ys.length=Z.length->(∀q∈ys,Sm (α+B*(m+1)) α q)->(∀j,j<m->iV ys (dy Z j)=0)->iV ys X=1->Q (.ref p) H'))
def uK:ay ["rows","due","many","wholes","lines","x","columns","papers","shares"] CI (ae Oi):=sq
def aek (D:Def K mg "solve_rows" Oi CI)(iy:mg "zip"=none)(aV:mg "len"=none)(alM:ac P w K mg lM 2 "whole_row" ["row"] (α9 K))(ael:ac P w K mg lM 36 "solution_of" Va (m_ K))(aag:ac P w K mg lM 1 "turned" sj uI)(yH:ac P w K mg lM 33 "lowest_terms" VP gF):
  ac P w K mg lM 37 "solve_rows" CI (sR K):=by
 show D.op uK λf cH A mO s H vs Q E hr h=>?_;let(r,dl,m,ls,cy,N,dus,ds,T,B,α,rfl,M,NN,hdl,ND,XX,sh,sd,hm,hn,hT,hB,hB1,hZ,hZ1,q1,q2):=h
 show(_,(aa (RE (i:=3) (tn:=["row","number"]) (fr:=[]) (pO:=[]) uK.nd (ym rfl iy (aH (pv 0) (pv 1))) (λ_ _ _ _=>(yn (K:=K) (n:=2) rfl rfl (aY (f9 (i:=0) (show(["row","number"]:List Str).Nodup from by decide+kernel) rfl (Pe rfl)) (aY (f9 (i:=1) (show(["row","number"]:List Str).Nodup from by decide+kernel) rfl (Pe rfl)) cM)))) (λ_ _ _ _=>t_) (rF alM hr (aZ (aD kR (pv 0) (bY (aZ (pv 1))))))) (aa (qD (i:=4) (tn:=["whole"]) (fr:=[]) (pO:=[]) uK.nd (bo (pv 3)) (bB (cN (K:=K) rfl) (pv 0) ag)) (aa (aI 5 uK.nd (aL ael hr (aH (pv 4) (pv 2)))) (aa (bw (bE zaA (pv 5) tF) (ah (aE (aS (aH dB (pv 5))))) aR) (aa (aI 6 uK.nd (aL aag hr (aH (pv 4) (aD bG (pv 2) ag)))) (aa (aI 7 uK.nd (aD kR (dX (tn:=["column"]) (fr:=[]) (pO:=[]) (bo (cJ fj (pv 6) dS (c_ (pv 2)))) (aD kR (pv 0) (bY (aZ ag)))) (bY (aZ (aD kR (bB aU (pv 6) (pv 2)) (bY (aZ ag))))))) (aa (aI 8 uK.nd (aL ael hr (aH (pv 7) (aJ aG rfl aV bV (aZ (pv 4)))))) (ah (aE (aS (aH dB (IP (tn:=za0) (fr:=[]) (pO:=[]) (ym rfl iy (aH (pv 8) (pv 3))) (λ_ _ _ _=>(yn (K:=K) (n:=2) rfl rfl (aY (f9 (i:=0) (show(za0:List Str).Nodup from by decide+kernel) rfl (Pe rfl)) (aY (f9 (i:=1) (show(za0:List Str).Nodup from by decide+kernel) rfl (Pe rfl)) cM)))) (λ_ _ _ _=>t_) (rF yH hr (aH (aD iZ (bB (cN (K:=K) rfl) (pv 0) ag) (bB (cN (K:=K) rfl) (pv 1) ag)) (bB (cN (K:=K) rfl) (pv 0) ag))))))))))))))),?_);sleep 6
 let l1:=M.2.1;let l2:=NN.1;let l3:=ND.1;show(_,O,_,O,r,dl,O,#[_,aT.of M.1],#[_,aT.of hdl],λD1 n1=>?_);show agQ (pS:=[]) (K:=K) (xs:=ls.map V.ref) (ys:=dus) (λi v H=>∃w:Wl,v=.ref w.2.2.2/\w.2.2.1≠D1/\H w.2.2.2=some (.tup [.ref w.2.2.1,.int w.2.1])/\H w.2.2.1=some (.lst (w.1.map V.int))/\∀X d,N[i]?=some X->ds[i]?=some d->WlP T B m X d w) n1 (by rw [be];show IG (show ls.length<=1000 by omega) cr) (by rw [be];omega) (λH2 s2=>aT.of (s2 _ _ M.1)) (λH2 s2=>aT.of (s2 _ _ hdl)) ?_ ?_ ?_
 ·rintro i v H2 H3 ys hD ks ⟨w,Y,Z,C,e4,e5⟩
  show(w,Y,Z,ks _ _ (λz=>by erw [z,hD] at C) C,ks _ _ Z e4,e5)
 ·rintro i x y H2 RR ex ey s2 ⟨ys0,hD0⟩ kk
  rw [CP] at ex;let(l,el,rfl):=JM.mp ex;let hi:i<ls.length:=(ir.mp el).1;obtain ⟨X,G⟩:∃X,N[i]?=some X:=#[_,gE ce];obtain ⟨vs,ev⟩:∃vs,cy[i]?=some vs:=#[_,gE ce];let hl:=M.2.2 i l vs el ev;let hq:=NN.2 i vs X ev G;let(d,ed,nd):=ND.at ey;let(lq,sq):=sh X (Wp G);let lvs:=hq.1;show(_,O,_,O,z1L,λp1 np1=>?_);let t1:=aK np1 (.lst [y]);show(l,p1,vs,_,O,O,t1 _ _ (s2 _ _ hl),ak,EE (show vs.length+1<=1000 by omega) cr,λp2 np2=>?_);let t2:=aK np2 (.lst (vs++[y]));let t12:=t1.trans t2;show(p2,X++[d],T,B,O,(_,aT.of ak,(cY.snoc ((hq.lO s2).lO t12) ((nd.lO s2).lO t12))),λq' nO =>?_,hT,by rwa [HI,lq],hB1,by rw [HI,lq];change m+1<=1000;omega,λp3 l3' ts b H3 s3 nl hp3 hl3 hb hbs g hts=>?_)
  ·rcases HZ.mp nO with z|z
   ·show sq q' z
   ·rw [HU.mp z]
    show sd d (Wp ed)
  ·show kk _ _ (t12.trans s3) ((ts,(b,(l3',p3))),O,λz=>?_,hp3,hl3,λRB d' Y Z=>?_)
   ·have:=t12 _ _ hD0
    erw [show l3'=D1 from z,this] at nl
   ·rw [G] at Y
    rw [ed] at Z;cases Y;cases Z;rw [HI,lq] at hbs hts;show(g,hb,hbs,hts)
 ·intro zs H2 hz iQ s2 hD1
  rw [be] at hz;let(ws,lw,hw):=qG (P:=λi v (w:Wl)=>v=.ref w.2.2.2/\w.2.2.1≠D1/\H2 w.2.2.2=some (.tup [.ref w.2.2.1,.int w.2.1])/\H2 w.2.2.1=some (.lst (w.1.map V.int))/\∀X d,N[i]?=some X->ds[i]?=some d->WlP T B m X d w) zs iQ
  let ez:zs=ws.map (λw=>V.ref w.2.2.2):=by
   show QZ λi=>?_;rw [CP];by_cases hi:i<zs.length
   ·let Y:zs[i]?=some zs[i]:=gE hi
    let Z:ws[i]?=some (ws[i]'ce):=gE ce;let h:=(hw i _ _ Y Z).1;rw [Y,Z,h];rfl
   ·rw [IM ce,IM ce]
    rfl
  subst ez;let VY:ws.length=N.length:=ce
  let L:∀(i:Nat)(w:Wl),ws[i]?=some w->H2 w.2.2.2=some (.tup [.ref w.2.2.1,.int w.2.1])/\H2 w.2.2.1=some (.lst (w.1.map V.int))/\∀X d,N[i]?=some X->ds[i]?=some d->WlP T B m X d w:=λi w e=>(hw i _ w (by rw [CP,e];rfl) e).2.2
  let wp:∀(i:Nat)(w:Wl),ws[i]?=some w->∃X d,N[i]?=some X/\ds[i]?=some d/\WlP T B m X d w:=λi w e=>by
   let hi:i<ws.length:=(ir.mp e).1;obtain ⟨X,G⟩:∃X,N[i]?=some X:=#[_,gE ce];obtain ⟨d,ed⟩:∃d,ds[i]?=some d:=#[_,gE ce];show(X,d,G,ed,(L i w e).2.2 X d G ed)
  let VZ:∀l∈ws.map (·.1),l.length=m+1:=λl hl=>by
   let(w,hw',rfl):=DA.mp hl;let(i,e):=JG hw';let(X,d,G,_,g,_):=wp i w e;have:=g.1;rwa [HI,(sh X (Wp G)).1] at this
  let wbd:∀l∈ws.map (·.1),Bd (T+B*(m+1)) l:=λl hl=>by
   let(w,hw',rfl):=DA.mp hl;let(i,e):=JG hw';let(X,d,G,_,_,_,_,h):=wp i w e;show Bd.of h
  let hlm:(ws.map (·.1)).length=N.length:=by rwa [be]
  show(_,O,D1,O,#[_,aT.of hD1],λD2 n2=>?_);show dE (pS:=[]) (K:=K) (a:=D1) (xs:=ws.map (λw=>V.ref w.2.2.2)) (λk v _=>∃w,ws[k]?=some w/\v=.ref w.2.2.1) n2 (by rw [be];show IG (show ws.length<=1000 by omega) cr) (λH3 s3=>aT.of (s3 _ _ hD1)) (λ_ _ _ _ _ _ _ h=>h) ?_ ?_
  ·intro k x H3 RR ex s3 kk
   rw [CP] at ex;let(w,U,rfl):=JM.mp ex;show(_,O,w.2.2.2,_,_,_,O,O,bL.of (s3 _ _ (L k w U).1),i6,kk _ _ (aq.refl _) (w,U,O))
  intro ys H3 hy aen s3 hD2
  let ey:ys=(ws.map (λw=>w.2.2.1)).map V.ref:=by
   show QZ λi=>?_;rw [be] at hy;by_cases hi:i<ys.length
   ·let Y:ys[i]?=some ys[i]:=gE hi
    let(w,Z,C):=aen i _ Y;rw [Y,C,CP,CP,Z];rfl
   ·rw [IM ce,IM (by simp;omega)]
  subst ey
  let hLl:vP H3 ((ws.map (λw=>w.2.2.1)).map V.ref) (ws.map (·.1)):=#[by simp,λi u l Y Z=>by
   rw [CP,CP] at Y;rw [CP] at Z;cases e:ws[i]? with
   | none=>erw [e] at Z
   | some w=>
    rw [e] at Y Z;cases Y;cases Z
    show(w.2.2.1,O,s3 _ _ (L i w e).2.1)]
  let hMm:kA H3 D2 (ws.map (λw=>w.2.2.1)) ((ws.map (·.1)).map λl=>l.map V.int):=(hD2,by simp,λi l vs Y Z=>by
   rw [CP] at Y;rw [CP,CP] at Z;cases e:ws[i]? with
   | none=>erw [e] at Z
   | some w=>
    rw [e] at Y Z;cases Y;cases Z
    show s3 _ _ (L i w e).2.1)
  let mn:bb (T+B*(m+1)) (min m (ws.map (·.1)).length)<=α:=EE (yF _ (by rw [hlm];omega)) hZ;let s23:=s2.trans s3;show(_,O,_,O,D2,_,ws.map (·.1),m,T+B*(m+1),O,aT.of hD2,hLl,VZ,ce,ce,wbd,EE mn hZ1,λl0 H4 s4 l0l cm l00 l0m=>?_,λx kI xs H4 s4 nx hx nxs lxs sxs sol=>?_)
  ·show(_,O,O,_,O,bq (λz=>by simp at z) (λ_=>?_))
   let M4:=hMm.lO s4;show(_,O,_,O,_,_,O,O,D2,ws.map (λw=>w.2.2.1),_,(m:Int)+1,O,M4,ce,ce,by rw [be];omega,λvs hvs=>?_,λc cs H5 s5 M5=>?_)
   ·let(l,hl,rfl):=DA.mp hvs
    rw [be,VZ l hl];omega
   let lcs:cs.length=m+1:=by
    have:=M5.2.1;unfold kq at this;simp at this;omega
   let col:∀k,k<m+1->∃l,cs[k]?=some l/\H5 l=some (.lst (((ws.map (·.1)).map λl=>l.getD k 0).map V.int)):=λk J=>by
    let e:(kq ((ws.map (·.1)).map λl=>l.map V.int) ((m:Int)+1).toNat)[k]?=some (((ws.map (·.1)).map λl=>l.getD k 0).map V.int):=by
     rw [<-agL VZ J];unfold kq;rw [CP,Vw ce];rfl
    show M5.row e
   show(_,O,_,O,_,O,c,_,O,aT.of M5.1,λp6 n6=>?_);let t6:=aK n6 (.lst (gS (cs.map V.ref) none (some (m:Int))));show(p6,O,#[_,aT.of ak],λD6 nD6=>?_);let lcl:((ws.map (·.1)).map λl=>l.getD 0 0).length<=100:=by simp;omega
   show uf (pS:=[]) (K:=K) (a:=p6) (xs:=(cs.map V.ref).take m) (λk v H=>∃p,v=.ref p/\p≠D6/\H p=some (.lst ((List.map (λl:List Int=>l.getD k 0) (ws.map (λw:Wl=>w.1))++[(0:Int)]).map V.int))) nD6 (IG (show((cs.map V.ref).take m).length<=1000 by simp;omega) cr) (λH7 s7=>aT.of (s7 _ _ (by rw [ak,oO (by simp;omega)]))) ?_ ?_ ?_
   ·rintro k v H7 H8 ys hD ks ⟨p,Y,Z,C⟩
    show(p,Y,Z,ks _ _ Z C)
   ·rintro k x H7 RR ex s7 ⟨ys0,O8⟩ kk
    let J:k<m:=by have:=(ir.mp ex).1;simp at this;omega
    let(l,el,hl):=col k ce;erw [List.getElem?_take,ox J,CP,el] at ex;show(_,O,z1L,λpz nz=>?_);let tz:=aK nz (.lst [.int 0]);show(l,pz,_,_,O,O,tz _ _ (s7 _ _ (t6 _ _ hl)),ak,EE (show _<=1000 by simp;omega) cr,λR nn=>?_);let tn:=aK nn (.lst (((ws.map (·.1)).map λl=>l.getD k 0).map V.int++[.int 0]));show kk _ _ (tz.trans tn) (R,O,λz=>?_,by rw [ak,II];rfl);have:=tz _ _ O8;erw [z,this] at nn
   intro TZ H7 hy6 aeo s7 hD6;let ly6:TZ.length=m:=by rw [hy6];simp;omega
   let t67:=t6.trans s7;let(lm,elm,alS):=col m ce;show(_,O,_,O,c,_,_,_,O,O,aT.of (t67 _ _ M5.1),bH (by rw [CP,elm];rfl),z1L,λpz nz=>?_);let tz:=aK nz (.lst [.int 1]);show(lm,pz,_,_,O,O,tz _ _ (t67 _ _ alS),ak,EE (show _<=1000 by simp;omega) cr,λR nn=>?_);let tn:=aK nn (.lst (((ws.map (·.1)).map λl=>l.getD m 0).map V.int++[.int 1]));show#[z1L,λpL nL=>?_];let tL:=aK nL (.lst [V.ref R]);let tzL:=(tz.trans tn).trans tL;show(D6,pL,TZ,_,O,O,tzL _ _ hD6,ak,EE (show TZ.length+1<=1000 by omega) cr,λpP nP=>?_);let tP:=aK nP (.lst (TZ++[V.ref R]));let s7P:=tzL.trans tP;let hpn:=tP _ _ (tL _ _ (ak (H:=upd H7 pz (.lst [.int 1])) (a:=R) (o:=.lst (((ws.map (·.1)).map λl=>l.getD m 0).map V.int++[.int 1]))));let eP:upd (upd (upd (upd H7 pz (.lst [.int 1])) R (.lst (((ws.map (·.1)).map λl=>l.getD m 0).map V.int++[.int 1]))) pL (.lst [V.ref R])) pP (.lst (TZ++[V.ref R])) pP=some (.lst (TZ++[V.ref R])):=ak
   let alT:∀(k:Nat)(v:V),TZ[k]?=some v->Ln H7 v (((ws.map (·.1)).map λl=>l.getD k 0)++[0]):=λk v e=>by
    let(p,Y,_,C):=aeo k v e;show(p,Y,C)
   let s5P:=t67.trans s7P;generalize upd (upd (upd (upd H7 pz (.lst [.int 1])) R (.lst (((ws.map (·.1)).map λl=>l.getD m 0).map V.int++[.int 1]))) pL (.lst [V.ref R])) pP (.lst (TZ++[V.ref R]))=H9 at*
   let alU:vP H9 (TZ++[V.ref R]) (GO m (ws.map (·.1))):=by
    show#[by simp [GO,ly6],λk u l Y Z=>?_];unfold GO at Z;by_cases J:k<m
    ·rw [NG ce] at Y
     erw [NG (by simpa using J),CP,Vw J] at Z;show(alT k u Y).lO s7P
    ·rw [NQ ce] at Y
     rw [NQ (by simp;omega)] at Z;by_cases hkm:k=m
     ·subst hkm
      rw [show k-TZ.length=0 by omega] at Y;rw [show k-((JJ k).map λj=>((ws.map (·.1)).map λl=>l.getD j 0)++[0]).length=0 by simp] at Z;cases Y;cases Z;show(R,O,by rw [hpn,II];rfl)
     ·rw [IM (by simp;omega)] at Y
      cases Y
   let ppl:∀o∈GO m (ws.map (·.1)),o.length=N.length+1:=λo ho=>by
    rcases yI ho with ⟨k,J,e⟩
    rw [e.1];simp [VY]
   let ppb:∀o∈GO m (ws.map (·.1)),Bd (T+B*(m+1)) o:=λo ho=>by
    rcases yI ho with ⟨k,J,e,hc⟩
    rw [e];show Bd.of λt ht=>?_
    rcases HZ.mp ht with z|z
    ·let(l,hl,rfl):=DA.mp z
     show wbd l hl k
    ·rw [HU.mp z]
     show EE ?_ (Mp (n:=T+B*(m+1)));split<;>decide
   let lpp:(GO m (ws.map (·.1))).length=m+1:=by simp [GO]
   let mn2:bb (T+B*(m+1)) (min N.length (GO m (ws.map (·.1))).length)<=α:=EE (yF _ (by rw [lpp];omega)) hZ;let s39:=(s4.trans s5).trans s5P;show(_,O,_,O,D2,_,O,.inl (aT.of (s39 _ _ hD2)),pP,_,GO m (ws.map (·.1)),N.length,T+B*(m+1),by simp [VY],aT.of eP,alU,ppl,ce,ce,ppb,EE mn2 hZ1,λl1 BF nR l1l cm1 Sa l1m=>?_,λx2 RW ss BF nR nx2 hx2 nss lss sss alW=>?_)
   ·show DQ (aaN VZ VY cm l00 l0m cm1 l1l Sa ppl) l1m
   let csm:∀k,k<m+1->gc (ss.map vl) (ws.map (·.1)) k=if k=m then 1 else 0:=λk J=>by
    let e:=alW _ (aaf J);rw [H_ k _ (ws.map (·.1)) (ss.map vl) (by simp [VY,lss])] at e;by_cases z:k=m
    ·rw [ox z] at e ⊢
     let e':((1:Int):Rat)=1:=by simp
     rw [e'] at e;grind
    ·rw [mQ z] at e ⊢
     let e':((0:Int):Rat)=0:=by simp
     rw [e'] at e;grind
   let aah:=s39.trans nR;let aep:=aah _ _ (s3 _ _ hD1);let aF6:=nss.1;show(_,O,_,O,x2,D1,O,#[_,aT.of hx2],#[_,aT.of aep],λD9 n9=>?_);show zaN (pS:=[]) (K:=K) (xs:=RW) (ys:=ws.map (λw=>V.ref w.2.2.2)) (λk v H=>∃w q,ws[k]?=some w/\ss[k]?=some q/\Nm H v (low (q.1*w.2.1) q.2)) n9 (IG (show RW.length<=1000 by omega) cr) (by rw [be];omega) (λCG xo=>aT.of (xo _ _ hx2)) (λCG xo=>aT.of (xo _ _ aep)) ?_ ?_ ?_
   ·rintro k v CG H12 ys hD ks ⟨w,q,Y,Z,C⟩
    show(w,q,Y,Z,C.kept hD ks)
   ·intro k x y CG RR ex ey xo kk
    let(q,S,ps,rfl,hps):=nss.at ex;rw [CP] at ey;let(w,U,rfl):=JM.mp ey;let(X,d,I,eds,g,wb,wbs,_):=wp k w U;let sq:=sss q (Wp S);let hw1:=xo _ _ (aah _ _ (s3 _ _ (L k w U).1));let aer:=Ty.aq.bS xo hps;show(_,O,ps,_,_,_,O,O,aer,i6,_,O,w.2.2.2,_,_,_,O,O,bL.of hw1,iW,_,_,O,O,gU (ue sq.top mn2) wbs ce,_,O,ps,_,_,_,O,O,aer,iW,_,_,O,by have:=sq.pos;omega,λp8 H8 s8 e8=>kk _ _ s8 (w,q,U,S,p8,O,e8))
   intro us9 CG h9 aes xo hD9;show#[rT,λp12 Sb=>?_];let mJ:=aK Sb (.tup [.str "paper",.ref D9]);let yat:∀(k:Nat)(w:Wl)(q:Int×Int),ws[k]?=some w->ss[k]?=some q->(QG (λ(w:Wl) (q:Int×Int)=>low (q.1*w.2.1) q.2) ws ss)[k]?=some (low (q.1*w.2.1) q.2):=λk w q Y Z=>by rw [yg,Y,Z]
   let Sd:(QG (λ(w:Wl) (q:Int×Int)=>low (q.1*w.2.1) q.2) ws ss).length=N.length:=by simp [VY,lss]
   let vly:∀(k:Nat)(w:Wl)(q y:Int×Int),ws[k]?=some w->ss[k]?=some q->(QG (λ(w:Wl) (q:Int×Int)=>low (q.1*w.2.1) q.2) ws ss)[k]?=some y->vl y=vl q*w.2.1:=λk w q y Y Z C=>by
    erw [yat k w q Y Z] at C;let sq:=sss q (Wp Z);rw [yo (by have:=sq.pos;omega)];unfold vl;push_cast;grind
   show q2 p12 D9 us9 (QG (λ(w:Wl) (q:Int×Int)=>low (q.1*w.2.1) q.2) ws ss) _ (((s23.trans aah).trans xo).trans mJ) ak (mJ _ _ hD9) #[by rw [h9,Sd];omega,λk u y Y Z=>?_] Sd (λy hy=>?_) (λj hj=>?_) ?_
   ·let(w,q,U,S,p,e,hp):=aes k u Y
    erw [yat k w q U S] at Z;show(p,e,bL.of (mJ _ _ hp))
   ·let(k,J):=JG hy
    let hkl:k<N.length:=by rw [<-Sd];show(ir.mp J).1
    obtain ⟨w,U⟩:∃w,ws[k]?=some w:=#[_,gE ce];obtain ⟨q,S⟩:∃q,ss[k]?=some q:=#[_,gE ce];erw [yat k w q U S] at J;let(X,d,I,eds,g,wb,wbs,_):=wp k w U;let sq:=sss q (Wp S);show agd (by have:=sq.pos;omega) (yq (ue sq.top mn2) wbs) (ue sq.bot mn2)
   ·rw [uJ j (ws:=ws) (ss:=ss) ce (by rw [Sd,VY]) (by simp [dy,VY]) vly ?_,csm j ce,mQ ce]
    intro k w cq U ec;let(X,d,I,eds,g,_):=wp k w U;unfold dy at ec;erw [CP,I] at ec;show zat g (by rwa [(sh X (Wp I)).1])
   ·rw [uJ m (ws:=ws) (ss:=ss) ce (by rw [Sd,VY]) ce vly ?_,csm m ce,ox rfl]
    intro k w cq U ec;let(X,d,I,eds,g,_):=wp k w U;erw [ec] at eds;show abL g (sh X (Wp I)).1
  ·show(_,O,O,_,O,bq (λ_=>?_) (λz=>by simp at z))
   show(_,O,rT,λp5 n5=>?_);let s5:=aK n5 (.tup [.str "solved",.ref x]);show q1 p5 x kI xs _ ((s23.trans s4).trans s5) ak (s5 _ _ hx) (nxs.lO s5) lxs (λq hq=>(sxs q hq).up mn mn) (λi X d G ed=>?_);let hi:i<N.length:=(ir.mp G).1;obtain ⟨w,U⟩:∃w,ws[i]?=some w:=#[_,gE ce];let(g,wb,_):=(L i w U).2.2 X d G ed;let e0:=sol w.1 (DA.mpr (w,Wp U,O));rw [zaC g (by rw [lxs,(sh X (Wp G)).1])] at e0;let wb':=dF (b:=w.2.1) ce;grind
inductive nh (K:Frag)(f:Int×Int->Int×Int->Int×Int)(vs:ε)(H:Hp)(Q:VK)(Z:XK):Prop
|mk (u v:V)(x y:Int×Int)(_:vs=[u,v])(_:kH K H u x)(_:kH K H v y)(_:Okn 8000000 x)(_:Okn 8000000 y)(_:gives H Q (f x y))
def zaf:ay JA JA (ae iP):=sq
def agx (C:vW CX)(D:Def K mg "sum_of" iP JA)(L:Fn P w K mg lM CX 33 "lowest_terms" VP gF):Fn P w K mg lM CX 34 "sum_of" JA (nh K addQ):=by
 show D.op zaf λf B A I s H o Q E G h=>?_;let(u,v,x,y,rfl,(Y,rfl,R),(Z,rfl,S),T,U,q):=h;let J:=oG (X:=mi CX P w K mg lM JA "sum_of" (ae iP) f B A I s H E) C;show(_,(ah (aE (mF L G.mo J (aH (aD bG (aD bX (aF (pv 0)) (aF (pv 1))) (aD bX (aF (pv 1)) (aF (pv 0)))) (aD bX (aF (pv 0)) (aF (pv 1))))))),?_);let p:=T.top;let M:=T.bot;let z:=U.top;let N:=U.bot;let c:∀{i j:Int},intBits i<=8000000->intBits j<=8000000->tY i j:=λa b=>#[EE a cr,EE b cr];show(_,O,Y,_,_,_,O,O,R,i6,_,O,Z,_,_,_,O,O,S,iW,_,_,O,O,c p N,_,O,Z,_,_,_,O,O,S,i6,_,O,Y,_,_,_,O,O,R,iW,_,_,O,O,c z M,_,_,O,O,_,O,Y,_,_,_,O,O,R,iW,_,O,Z,_,_,_,O,O,S,iW,_,_,O,O,c M N,_,_,O,yD T U,q)
def aeu:ay JA JA (ae IQ):=sq
def aev (C:vW CX)(D:Def K mg "difference_of" IQ JA)(L:Fn P w K mg lM CX 33 "lowest_terms" VP gF):Fn P w K mg lM CX 34 "difference_of" JA (nh K subQ):=by
 show D.op aeu λf B A I s H o Q E G h=>?_;let(u,v,x,y,rfl,(Y,rfl,R),(Z,rfl,S),T,U,q):=h;let J:=oG (X:=mi CX P w K mg lM JA "difference_of" (ae IQ) f B A I s H E) C;show(_,(ah (aE (mF L G.mo J (aH (aD cB (aD bX (aF (pv 0)) (aF (pv 1))) (aD bX (aF (pv 1)) (aF (pv 0)))) (aD bX (aF (pv 0)) (aF (pv 1))))))),?_);let p:=T.top;let M:=T.bot;let z:=U.top;let N:=U.bot;let c:∀{i j:Int},intBits i<=8000000->intBits j<=8000000->tY i j:=λa b=>#[EE a cr,EE b cr];show(_,O,Y,_,_,_,O,O,R,i6,_,O,Z,_,_,_,O,O,S,iW,_,_,O,O,c p N,_,O,Z,_,_,_,O,O,S,i6,_,O,Y,_,_,_,O,O,R,iW,_,_,O,O,c z M,_,_,O,O,_,O,Y,_,_,_,O,O,R,iW,_,O,Z,_,_,_,O,O,S,iW,_,_,O,O,c M N,_,_,O,yD T U,q)
def ajc:ay JA JA (ae dY):=sq
def ahw (I:vW CX)(D:Def K mg "product_of" dY JA)(N:Fn P w K mg lM CX 33 "lowest_terms" VP gF):Fn P w K mg lM CX 34 "product_of" JA (nh K mulQ):=by
 show D.op ajc λf G A L s H o Q E J h=>?_;let(u,v,x,y,rfl,(T,rfl,R),(U,rfl,S),Y,Z,q):=h;let M:=oG (X:=mi CX P w K mg lM JA "product_of" (ae dY) f G A L s H E) I;show(_,(ah (aE (mF N J.mo M (aH (aD bX (aF (pv 0)) (aF (pv 1))) (aD bX (aF (pv 0)) (aF (pv 1))))))),?_);let p:=Y.top;let z:=Y.bot;let B:=Z.top;let C:=Z.bot;let c:∀{i j:Int},intBits i<=8000000->intBits j<=8000000->tY i j:=λa b=>#[EE a cr,EE b cr];show(_,O,T,_,_,_,O,O,R,i6,_,O,U,_,_,_,O,O,S,i6,_,_,O,O,c p B,_,O,T,_,_,_,O,O,R,iW,_,O,U,_,_,_,O,O,S,iW,_,_,O,O,c z C,_,_,O,yD Y Z,q)
inductive ja (K:Frag)(f:Rat->Rat->Rat)(vs:ε)(H:Hp)(Q:VK)(Z:XK):Prop
|mk (u v:V)(x y:Rat)(_:vs=[u,v])(_:dq K H u x)(_:dq K H v y)(_:Sz 8000000 x)(_:Sz 8000000 y)(_:gives H Q (qr (f x y)))
def qK (h:Sz k r):Okn k (qr r):=(cT r,h.top,h.bot)
def aaj (F:Fn P w K mg lM CX k x ps (nh K addQ)):Fn P w K mg lM CX k x ps (ja K λa b=>a+b):=by
 let(f,T,G,r):=F.ex;show(f,T,G.imp λS H Q E h=>?_,r);let(u,v,a,b,e,U,X,Y,Z,q):=h;show(u,v,qr a,qr b,e,U,X,qK Y,qK Z,?_);unfold addQ;rwa [Rl]
def aak (F:Fn P w K mg lM CX k x ps (nh K subQ)):Fn P w K mg lM CX k x ps (ja K λa b=>a-b):=by
 let(f,T,G,r):=F.ex;show(f,T,G.imp λS H Q E h=>?_,r);let(u,v,a,b,e,U,X,Y,Z,q):=h;show(u,v,qr a,qr b,e,U,X,qK Y,qK Z,?_);unfold subQ;rwa [Rm]
def aal (F:Fn P w K mg lM CX k x ps (nh K mulQ)):Fn P w K mg lM CX k x ps (ja K λa b=>a*b):=by
 let(f,T,G,r):=F.ex;show(f,T,G.imp λS H Q E h=>?_,r);let(u,v,a,b,e,U,X,Y,Z,q):=h;show(u,v,qr a,qr b,e,U,X,qK Y,qK Z,?_);unfold mulQ;rwa [Rn]
def Se (K:Frag)(H:Hp)(Q:VK)(p:Rat×Rat):Prop:=∀(v:V)(Z:Hp),aq H Z ->fL K Z v p->Q v Z
inductive yJ (K:Frag)(f:Rat->Rat->Rat)(vs:ε)(H:Hp)(Q:VK)(Z:XK):Prop
|mk (u v:V)(x y:Rat×Rat)(_:vs=[u,v])(_:fL K H u x)(_:fL K H v y)(_:Sz 8000000 x.1)(_:Sz 8000000 x.2)(_:Sz 8000000 y.1)(_:Sz 8000000 y.2)(_:Se K H Q (f x.1 y.1,f x.2 y.2))
def aew:ay JA JA (ae IS):=sq
def aex (hM:vW CX)(D:Def K mg "pair_difference" IS JA)(Y:Fn P w K mg lM CX 34 "difference_of" JA (ja K λa b=>a-b)):Fn P w K mg lM CX 35 "pair_difference" JA (yJ K λa b=>a-b):=by
 show D.op aew λf cH A k s H vs Q E M h=>?_;let(u,v,x,y,rfl,(N,a1,a2,rfl,J,m,p),(R,b1,b2,rfl,L,i,j),k1,k2,c,g,q):=h;let S:=oG (X:=(mi (aX P w) P w K mg lM JA "pair_difference" (ae IS) f cH A k s H E)) hM;show(_,(ah (aE (aS (aH (mF Y M.mo S (aH (aF (pv 0)) (aF (pv 1)))) (mF Y M.mo S (aH (aF (pv 0)) (aF (pv 1)))))))),_,O,N,_,_,_,O,O,J,i6,_,O,R,_,_,_,O,O,L,i6,a1,b1,_,_,O,m,i,k1,c,λC H1 Z e1=>?_);show(_,O,N,_,_,_,O,O,Ty.aq.bS Z J,iW,_,O,R,_,_,_,O,O,Ty.aq.bS Z L,iW,a2,b2,_,_,O,p.lO Z,j.lO Z,k2,g,λG H2 T e2=>?_);show#[rT,λI B=>?_];let U:=aK B (.tup [.ref C,.ref G]);show q (.ref I) _ (λb o z=>U _ _ (T _ _ (Z _ _ z))) (I,_,_,O,bL.of ak,(C,O,bL.of (U _ _ (T _ _ e1))),(G,O,bL.of (U _ _ e2)))
def aez (x y:Rat×Rat):Rat:=x.1*y.1+x.2*y.2
inductive Sf (K:Frag)(vs:ε)(H:Hp)(Q:VK)(Z:XK):Prop
|mk (u v:V)(x y:Rat×Rat)(_:vs=[u,v])(_:fL K H u x)(_:fL K H v y)(_:Sz 3970000 x.1)(_:Sz 3970000 x.2)(_:Sz 3970000 y.1)(_:Sz 3970000 y.2)(_:gives H Q (qr (aez x y)))
def zaS:ay JA JA (ae cU):=sq
def zaQ (hM:vW CX)(D:Def K mg "pair_product" cU JA)(m:Fn P w K mg lM CX 34 "sum_of" JA (ja K λa b=>a+b))(C:Fn P w K mg lM CX 34 "product_of" JA (ja K λa b=>a*b)):Fn P w K mg lM CX 35 "pair_product" JA (Sf K):=by
 show D.op zaS λf cH A g s H vs Q E U h=>?_;let(u,v,x,y,rfl,(R,a1,a2,rfl,G,i,j),(S,b1,b2,rfl,I,m1,c),J,L,M,N,q):=h;let Y:=oG (X:=(mi (aX P w) P w K mg lM JA "pair_product" (ae cU) f cH A g s H E)) hM;show(_,(ah (aE (mF m U.mo Y (aH (mF C U.mo Y (aH (aF (pv 0)) (aF (pv 1)))) (mF C U.mo Y (aH (aF (pv 0)) (aF (pv 1)))))))),_,O,R,_,_,_,O,O,G,i6,_,O,S,_,_,_,O,O,I,i6,a1,b1,_,_,O,i,m1,J.up cr,M.up cr,λp H1 Z e1=>?_);show(_,O,R,_,_,_,O,O,Ty.aq.bS Z G,iW,_,O,S,_,_,_,O,O,Ty.aq.bS Z I,iW,a2,b2,_,_,O,j.lO Z,c.lO Z,L.up cr,N.up cr,λB H2 T e2=>?_);show(.ref p,.ref B,_,_,O,(p,O,bL.of (T _ _ e1)),(B,O,bL.of e2),(J.mul M).up cr,(L.mul N).up cr,λc3 H3 k e3=>?_);show q c3 H3 (λb o z=>k _ _ (T _ _ (Z _ _ z))) e3
inductive yK (K:Frag)(C:BK)(vs:ε)(H:Hp)(Q:VK)(T:XK):Prop
|mk (a U:BK)(_:vs=[.ref a])(_:H a=some (.ins C U []))(_:∀(Y Z X:BK)(H':Hp),bM a H H' ->H Y=none->H Z=none->H X=none->gw K H' C a U Y Z X [] [] [] [] []->Q .cW H')
def ac5 :f_ "pin_places" x []=([("pin_places",x)]:List (Str×V)):=rfl
def ab_ :f_ "pin_ways" y [("pin_places",x)]=([("pin_places",x),("pin_ways",y)]:List (Str×V)):=by
 simp only [f_];rw [mQ cr]
def zam :f_ "bar_ends" z [("pin_places",x),("pin_ways",y)]=([("pin_places",x),("pin_ways",y),("bar_ends",z)]:List (Str×V)):=by
 simp only [f_];rw [mQ cr,mQ cr]
def aeA:ay JS JS (ae OU):=sq
def aeB (F:sH K "__init__" "Frame.__init__" OU f fd)(T:PY K C):ad P w K mg lM 1 f fd JS (yK K C):=by
 show ib F aeA λH hr h=>?_;let(a,X,rfl,k,q):=h
 show(_,(aa (x8 (pv 0) de rfl) (aa (x8 (pv 0) de rfl) (ah (x8 (pv 0) de rfl)))),?_)
 intro Z J;let L:a≠Z:=ao k J;show(_,O,a,C,X,_,O,(by rwa [aj L]),T.cls,T.pl,(by change 0<1000;decide),?_);rw [ac5];generalize B:upd (upd H Z (.dK [])) a (.ins C X [("pin_places",.ref Z)])=R;let m:R a=some (.ins C X [("pin_places",.ref Z)]):=by rw [<-B,ak]
 let u:R Z=some (.dK []):=by rw [<-B,aj (G' L),ak]
 let E:∀b o,b≠a->H b=some o->R b=some o:=λb o n e=>by rwa [<-B,aj n,aj (ao e J)]
 intro Y N;let M:a≠Y:=ao m N;show(_,O,a,C,X,_,O,(by rwa [aj M]),T.cls,T.wy,(by change 1<1000;decide),?_);rw [ab_];generalize D:upd (upd R Y (.dK [])) a (.ins C X [("pin_places",.ref Z),("pin_ways",.ref Y)])=S;let PW:Z≠Y:=ao u N;let p:S a=some (.ins C X [("pin_places",.ref Z),("pin_ways",.ref Y)]):=by rw [<-D,ak]
 let y:S Y=some (.dK []):=by rw [<-D,aj (G' M),ak]
 let G:∀b o,b≠a->R b=some o->S b=some o:=λb o n e=>by rwa [<-D,aj n,aj (ao e N)]
 intro U Q;let A:a≠U:=ao p Q;let x:=G _ _ (G' L) u;show(_,O,a,C,X,_,O,(by rwa [aj A]),T.cls,T.br,(by change 2<1000;decide),?_);rw [zam];let c:Z≠U:=ao x Q;let g:Y≠U:=ao y Q;let I:∀b o,b≠a->S b=some o->(upd (upd S U (.dK [])) a (.ins C X [("pin_places",.ref Z),("pin_ways",.ref Y),("bar_ends",.ref U)])) b=some o:=λb o n e=>by rwa [aj n,aj (ao e Q)]
 let i:∀b,b≠a->R b=none->H b=none:=λb n e=>by
  cases z:H b with
  | none=>rfl
  | some o=>erw [E b o n z] at e
 let j:∀b,b≠a->S b=none->H b=none:=λb n e=>by
  cases z:H b with
  | none=>rfl
  | some o=>erw [G b o n (E b o n z)] at e
 show q Z Y U _ (λb o n e=>I b o n (G b o n (E b o n e))) J (i _ (G' M) N) (j _ (G' A) Q) (ak,I _ _ (G' L) x,I _ _ (G' M) y,?_,PW,c,g,.nil,.nil);rw [aj (G' A),ak]
inductive jR (K:Frag)(C:BK)(vs:ε)(H:Hp)(Q:VK)(M:XK):Prop
|mk (a N X Y U:BK)(ps:Θ)(Z:Α)(S T R:γ)(_:vs=[.ref a])(_:gw K H C a N X Y U ps Z S T R)(_:∀(l:BK)(H':Hp),aq H H' ->H l=none->H' l=some (.lst ((Z.map (·.1)).map V.str))->Q (.ref l) H')
def aeC:ay JS JS (ae OZ):=sq
def aeD (F:sH K "bars" "Frame.bars" OZ f fd)(U:PY K C)(Q:mg "list"=none):ad P w K mg lM 1 f fd JS (jR K C):=by
 show ib F aeC λH E h=>?_;let(a,S,J,L,T,M,N,G,I,Z,rfl,R,q):=h;show(_,(ah (aE (cv (gB rfl) rfl Q jJ (aZ (dQ (pv 0) rfl))))),_,O,a,C,S,_,_,O,R.obj,U.cls,U.br,O,T,Z,O,.inl R.br,λl X=>?_);show q l _ (aK X _) X ?_;rw [ak]
 let e:Z.map (λY=>kV Y.1)=(N.map (·.1)).map V.str:=by
  let z:Z.map (λY=>kV Y.1)=(Z.map (·.1)).map kV:=by rw [EL];rfl
  rw [z,R.rq,EL];rfl
 rw [e]
inductive jS (K:Frag)(C:BK)(vs:ε)(H:Hp)(Q:VK)(M:XK):Prop
|mk (a R Y Z X:BK)(ps:Θ)(N:Α)(T U S:γ)(_:vs=[.ref a])(_:gw K H C a R Y Z X ps N T U S)(_:∀(l:BK)(H':Hp),aq H H' ->H l=none->H' l=some (.lst ((ps.map (·.1)).map V.str))->Q (.ref l) H')
def aeE:ay JS JS (ae OY):=sq
def aeF (F:sH K "pins" "Frame.pins" OY f fd)(U:PY K C)(N:mg "list"=none):ad P w K mg lM 1 f fd JS (jS K C):=by
 show ib F aeE λH G h=>?_;let(a,Q,S,M,L,T,E,Z,J,I,rfl,R,q):=h;show(_,(ah (aE (cv (gB rfl) rfl N jJ (aZ (dQ (pv 0) rfl))))),_,O,a,C,Q,_,_,O,R.obj,U.cls,U.pl,O,S,Z,O,.inl R.pl,λl X=>?_);show q l _ (aK X _) X ?_;rw [ak]
 let e:Z.map (λY=>kV Y.1)=(T.map (·.1)).map V.str:=by
  let z:Z.map (λY=>kV Y.1)=(Z.map (·.1)).map kV:=by rw [EL];rfl
  rw [z,R.C',EL];rfl
 rw [e]
inductive fN (K:Frag)(C:BK)(vs:ε)(H:Hp)(Q:VK)(M:XK):Prop
|mk (a R Y Z X:BK)(ps:Θ)(N:Α)(T U S:γ)(x:Str)(_:vs=[.ref a,.str x])(_:gw K H C a R Y Z X ps N T U S)(_:x∈ps.map (·.1))(_:Q .cW H)
def aeG:ay Pa Pa (ae OX):=sq
def aeH (F:sH K "check_pin" "Frame.check_pin" OX f fd)(Z:PY K C):ad P w K mg lM 1 f fd Pa (fN K C):=by
 show ib F aeG λH U h=>?_;let(a,T,Y,Q,N,S,I,L,M,J,x,rfl,R,X,q):=h;show(_,(ah (bw (tG (xr (bP U) (pv 1) (dQ (pv 0) rfl))) (ah (dC)) aR)),_,O,_,O,a,C,T,_,_,O,R.obj,Z.cls,Z.pl,O,Y,_,O,cX.k (k:=.inr x) R.pl,_,O,?_);rwa [R.pin x,NI X]
inductive sV (K:Frag)(C:BK)(vs:ε)(H:Hp)(Q:VK)(M:XK):Prop
|mk (a R Y Z X:BK)(ps:Θ)(N:Α)(T U S:γ)(x:Str)(p:Pt)(_:vs=[.ref a,.str x])(_:gw K H C a R Y Z X ps N T U S)(_:(ps.map (·.1)).Nodup)(_:(x,p)∈ps)(_:∀v,Spot K H v p->Q v H)
def aeI:ay Pa Pa (ae O0):=sq
def aeJ (F:sH K "place" "Frame.place" O0 f fd)(T:PY K C)(D:am P w K mg lM 1 C "check_pin" Pa (fN K C)):ad P w K mg lM 2 f fd Pa (sV K C):=by
 show ib F aeI λH U h=>?_;let(a,Z,Y,Q,N,S,E,J,L,I,x,p,rfl,R,M,X,q):=h
 show(_,(aa (bD (fe (k:=1) (pv 0) U.mo (GK P w) (aZ (pv 1)))) (ah (aE (cO (bP U) (dQ (pv 0) rfl) (pv 1) (λ_ _=>O))))),?_)
 show(_,O,a,C,Z,_,_,_,O,R.obj,O,D,_,O,a,Z,Y,Q,N,S,E,J,L,I,x,O,R,DA.mpr (_,X,O),?_);let(v,ev,G):=R.place M X;show(_,O,a,C,Z,_,_,O,R.obj,T.cls,T.pl,O,_,O,Y,v,O,(by rw [<-ev];show cX.k (k:=.inr x) R.pl),q v G)
inductive uM (K:Frag)(C:BK)(vs:ε)(H:Hp)(Q:VK)(J:XK):Prop
|mk (a L T U S:BK)(ps:Θ)(Y:Α)(N R M:γ)(x Z X:Str)(_:vs=[.ref a,.str x])(_:gw K H C a L T U S ps Y N R M)(_:(Y.map (·.1)).Nodup)(_:(x,(Z,X))∈Y)(_:∀p,Rd H p (.tup [.str Z,.str X])->Q (.ref p) H)
def aeK:ay r_ r_ (ae O3):=sq
def aeL (F:sH K "ends" "Frame.ends" O3 f fd)(Z:PY K C):ad P w K mg lM 1 f fd r_ (uM K C):=by
 show ib F aeK λH U h=>?_;let(a,T,G,I,Y,J,L,B,D,A,x,S,E,rfl,R,Q,X,q):=h
 show(_,(aa (bw (tG (xr (bP U) (pv 1) (dQ (pv 0) rfl))) (ah (dC)) aR) (ah (aE (cO (bP U) (dQ (pv 0) rfl) (pv 1) (λ_ _=>O))))),?_)
 let M:x∈L.map (·.1):=DA.mpr (_,X,O);show(_,O,_,O,a,C,T,_,_,O,R.obj,Z.cls,Z.br,O,Y,_,O,cX.k (k:=.inr x) R.br,_,O,?_);rw [R.bar x,NI M];let(p,ev,N):=R.ends Q X;show(_,O,a,C,T,_,_,O,R.obj,Z.cls,Z.br,O,_,O,Y,.ref p,O,(by rw [<-ev];show cX.k (k:=.inr x) R.br),q p N)
inductive uN (K:Frag)(C:BK)(vs:ε)(H:Hp)(Q:VK)(L:XK):Prop
|mk (a N U X T:BK)(ps:Θ)(M:Α)(S Y R:γ)(Z:Ι)(x:Str)(ws:Ν)(_:vs=[.ref a,.str x])(_:gw K H C a N U X T ps M S Y R)(_:uD K H Z Y)(_:(Z.map (·.1)).Nodup)(_:(x,ws)∈Z)(_:x∈ps.map (·.1))(_:∀(l:BK)(us:ε)(H':Hp),aq H H' ->H l=none->H' l=some (.lst us)->jP K H' us ws->Q (.ref l) H')
def aeM:ay Pa Pa (ae O1):=sq
def aeN (F:sH K "ways" "Frame.ways" O1 f fd)(Q:PY K C)(p:mg "list"=none)(m:am P w K mg lM 1 C "check_pin" Pa (fN K C)):ad P w K mg lM 2 f fd Pa (uN K C):=by
 show ib F aeM λH S h=>?_;let(a,X,L,T,J,M,o,D,E,B,i,x,j,rfl,R,W,I,A,z,q):=h
 show(_,(aa (bD (fe (k:=1) (pv 0) S.mo (GK P w) (aZ (pv 1)))) (ah (aE (cv uc rfl p jJ (aZ (cO (bP S) (dQ (pv 0) rfl) (pv 1) (λ_ _=>O))))))),?_)
 show(_,O,a,C,X,_,_,_,O,R.obj,O,m,_,O,a,X,L,T,J,M,o,D,E,B,x,O,R,z,?_);let(v,ev,l,U,u,y,N):=jQ W I A;let Y:v=.ref l:=u;subst Y;show(_,O,a,C,X,_,_,O,R.obj,Q.cls,Q.wy,O,_,O,T,.ref l,O,(by rw [<-ev];show cX.k (k:=.inr x) R.wy),l,U,O,aT.of y,λG Z=>q G U _ (aK Z _) Z ak (N.lO (aK Z _)))
def aam (K:Frag)(H:Hp)(Q:VK)(ws:Ν):Prop:=∀(l:BK)(Y:ε)(Z:Hp),aq H Z ->H l=none->Z l=some (.lst Y)->jP K Z Y ws->Q (.ref l) Z
def oR (h:(qr x).1=0):x=0:=by
 have:=ff x;unfold vl at this;rw [h] at this;let z:=yx (r:=x);let e:((0:Int):Rat)=0:=by rfl
 rw [e] at this;grind
inductive yL (K:Frag)(C:BK)(vs:ε)(H:Hp)(Q:VK)(U:XK):Prop
|mk (a X:BK)(Y Z:V)(x y:Rat)(_:vs=[.ref a,Y,Z])(_:H a=some (.ins C X []))(_:dq K H Y x)(_:dq K H Z y)(_:¬ (x=0/\y=0))(_:∀p,H p=none->Q .cW (upd (upd H p (.tup [Y,Z])) a (.ins C X [("way",.ref p)])))
def aeO:ay sk sk (ae O5):=sq
def aeP (F:sH K "__init__" "Roller.__init__" O5 f fd)(T:BW K C)(nw:iI K C "way"):ad P w K mg lM 1 f fd sk (yL K C):=by
 show ib F aeO λH D h=>?_;let(a,U,E,G,x,y,rfl,X,(N,rfl,L),(Q,rfl,M),nz,q):=h;let Y:(2:Nat)<=DC:=cr
 show(_,(aa (bw (PW.pt (tI (bE gm (aF (pv 1)) ag) (nY (bE gm (aF (pv 2)) ag)))) (ah (dC)) aR) (ah (x8 (pv 0) (aS (aH (pv 1) (pv 2))) rfl))),?_)
 show(_,O,N,_,_,_,O,O,L,i6,O,_,O,?_);show bq (λR=>?_) (λR=>?_)
 ·let I:(qr x).1=0:=by simpa using Nl R
  show(_,O,Q,_,_,_,O,O,M,i6,O,_,O,?_);show bq (λS=>?_) (λS=>?_)
  ·let J:(qr y).1=0:=by simpa using Nl S
   show DQ #[oR I,oR J] nz
  ·show(_,O,_,O,Y,λp Z=>(_,O,a,C,U,[],O,(by rwa [aj (ao X Z)]),T,nw,(by change 0<1000;decide),q p Z))
 ·show Vk ?_
  show(_,O,_,O,Y,λp Z=>(_,O,a,C,U,[],O,(by rwa [aj (ao X Z)]),T,nw,(by change 0<1000;decide),q p Z))
inductive oT (K:Frag)(C:BK)(vs:ε)(H:Hp)(Q:VK)(Y:XK):Prop
|mk (a Z p:BK)(w:Rat×Rat)(_:vs=[.ref a])(_:H a=some (.ins C Z [("way",.ref p)]))(_:fL K H (.ref p) w)(_:aam K H Q [w])
def aeQ:ay JS JS (ae O6):=sq
def aeR (F:sH K "ways" "Roller.ways" O6 f fd)(T:BW K C)(nw:iI K C "way"):ad P w K mg lM 1 f fd JS (oT K C):=by
 show ib F aeQ λH S h=>?_;let(a,U,p,w,rfl,X,Y,q):=h;show(_,(ah (aE (bY (aZ (dQ (pv 0) rfl))))),_,O,a,C,U,_,.ref p,O,X,T,nw,fD,z1L,λl Z=>?_);show q l [.ref p] _ (aK Z _) Z ak (.cons (Y.lO (aK Z _)) .nil)
inductive oU (K:Frag)(vs:ε)(H:Hp)(Q:VK)(Z:XK):Prop
|mk (a:BK)(_:vs=[.ref a])(_:aam K H Q [(1,0),(0,1)])
def qL:qr 1=(1,1):=by
 have:=qA 1;simpa using this
def cF:qr 0=(0,1):=by
 have:=qA 0;simpa using this
def rH (U:qr a=x)(X:qr b=y)(h:H p=some (.tup [.ref p1,.ref p2]))(Y:H p1=some (.tup [.int x.1,.int x.2]))(Z:H p2=some (.tup [.int y.1,.int y.2])):fL K H (.ref p) (a,b):=
 (p,.ref p1,.ref p2,O,bL.of h,(p1,O,by rw [U];show bL.of Y),(p2,O,by rw [X];show bL.of Z))
def aeS:ay JS JS (ae O7):=sq
def aeT (F:sH K "ways" "Fixed.ways" O7 f fd):ad P w K mg lM 1 f fd JS (oU K):=by
 show ib F aeS λH hr h=>?_;let(a,rfl,q):=h;let U:(2:Nat)<=DC:=cr
 show(_,(ah (aE (bY (aH (aS (aH (aS (aH ag ag)) (aS (aH ag ag)))) (aS (aH (aS (aH ag ag)) (aS (aH ag ag)))))))),U,λN n1=>?_);let E:=aK n1 (.tup [.int 1,.int 1]);let u:upd H N (.tup [.int 1,.int 1]) N=some (.tup [.int 1,.int 1]):=ak;generalize upd H N (.tup [.int 1,.int 1])=g at E u ⊢;show#[U,λQ n2=>?_];let I:=aK n2 (.tup [.int 0,.int 1]);let x:upd g Q (.tup [.int 0,.int 1]) Q=some (.tup [.int 0,.int 1]):=ak;generalize upd g Q (.tup [.int 0,.int 1])=i at I x ⊢;show#[U,λY n3=>?_];let J:=aK n3 (.tup [.ref N,.ref Q]);let y:upd i Y (.tup [.ref N,.ref Q]) Y=some (.tup [.ref N,.ref Q]):=ak;generalize upd i Y (.tup [.ref N,.ref Q])=j at J y ⊢;show#[U,λR n4=>?_];let L:=aK n4 (.tup [.int 0,.int 1]);let z:upd j R (.tup [.int 0,.int 1]) R=some (.tup [.int 0,.int 1]):=ak;generalize upd j R (.tup [.int 0,.int 1])=k at L z ⊢;show#[U,λS n5=>?_];let M:=aK n5 (.tup [.int 1,.int 1]);let A:upd k S (.tup [.int 1,.int 1]) S=some (.tup [.int 1,.int 1]):=ak;generalize upd k S (.tup [.int 1,.int 1])=m at M A ⊢;show#[U,λZ n6=>?_];let T:=aK n6 (.tup [.ref R,.ref S]);let B:upd m Z (.tup [.ref R,.ref S]) Z=some (.tup [.ref R,.ref S]):=ak;generalize upd m Z (.tup [.ref R,.ref S])=o at T B ⊢;show#[U,λl D=>?_];let X:=aK D (.lst [.ref Y,.ref Z]);let C:upd o l (.lst [.ref Y,.ref Z]) l=some (.lst [.ref Y,.ref Z]):=ak;generalize upd o l (.lst [.ref Y,.ref Z])=G at X C ⊢;let p:=E.trans (I.trans (J.trans (L.trans (M.trans T))));let b:fL K G (.ref Y) (1,0):=rH qL cF (X _ _ (T _ _ (M _ _ (L _ _ y)))) (X _ _ (T _ _ (M _ _ (L _ _ (J _ _ (I _ _ u)))))) (X _ _ (T _ _ (M _ _ (L _ _ (J _ _ x)))));let c:fL K G (.ref Z) (0,1):=rH cF qL (X _ _ B) (X _ _ (T _ _ (M _ _ z))) (X _ _ (T _ _ A));show q l [.ref Y,.ref Z] G (p.trans X) (p.free D) C (.cons b (.cons c .nil))
def Yj (P:HY)(w:World)(K:Frag)(mg:ν)(lM:Heap)(H:Hp)(R:V)(ws:Ν):Prop:=(R=.cW/\ws=[])\/∃(h S X:BK)(Z:List (Str×V))(T:ς)(Y:Sp),R=.ref h/\H h=some (.ins S X Z)/\Z.lookup ("ways":Str)=none/\am P w K mg lM 2 S "ways" T Y/\(∀U,U h=some (.ins S X Z)->bg H U->∀Q,aam K U Q ws->Y [.ref h] U Q E0)
inductive gH (P:HY)(w:World)(K:Frag)(mg:ν)(lM:Heap)(C:BK)(vs:ε)(H:Hp)(Q:VK)(G:XK):Prop
|mk (a M U X S:BK)(ps:Θ)(L:Α)(J T R:γ)(Y:Ι)(x:Str)(u v N:V)(p:Pt)(ws:Ν)(_:vs=[.ref a,.str x,u,v,N])(_:gw K H C a M U X S ps L J T R)(_:uD K H Y T)(_:Y.map (·.1)=ps.map (·.1))(_:kH K H u p.1)(_:kH K H v p.2)(_:x∉ps.map (·.1))(_:(∀z∈ps,z.2≠p))(_:ps.length<24)(_:Yj P w K mg lM H N ws)(_:∀(H':Hp)(I Z :γ),(∀b o,b≠U->b≠X->H b=some o->H' b=some o)->gw K H' C a M U X S (ps++[(x,p)]) L I Z R->uD K H' (Y++[(x,ws)]) Z ->(∃l,Z =T++[(.inr x,.ref l)]/\H l=none)->Q .cW H')
def Sh:ay ["self","name","x","y","hold","pin","spot"] CU (ae r8):=sq
def aeV (F:ZU K "put_pin" "Frame.put_pin" r8 f fd)(T:PY K C)(aan:mg "MOST_PINS"=some (.int 24 tkP))(aV:mg "len"=none)(cV:mg "list"=none):ad P w K mg lM 3 f fd CU (gH P w K mg lM C):=by
 show acJ F Sh (λvs H Q E h=>?_) (λcH A mO s H vs Q E hr h=>?_)
 ·let(a,D,X,i,pB,ps,bs,U,L,kB,pw,x,u,v,hv,p,ws,rfl,_):=h
  rfl
 let(a,D,X,i,pB,ps,bs,U,L,kB,pw,x,u,v,hvv,p,ws,rfl,R,W,ew,hu,hv,hx,hs,hl,hH,q):=h
 show(_,(aa (bw (tG (HW (bP hr) (pv 1) (dQ (pv 0) rfl))) (ah (dC)) aR) (aa (i0 (bh HG rfl (lh (dQ (pv 0) rfl)) (eY rfl (aY (bI 5 Sh.nd) (aY (bI 6 Sh.nd) cM))) (ah (bw (bE (aj7 hr.units) (pv 6) (aS (aH (pv 2) (pv 3)))) (ah (dC)) aR)))) (aa (bw (bE XQ (aJ qz rfl aV bV (aZ (dQ (pv 0) rfl))) (f7 (v:=.int 24) rfl aan #[_,O])) (ah (dC)) aR) (aa (dW (bP hr) (dQ (pv 0) rfl) (pv 1) (aS (aH (pv 2) (pv 3))) rfl) (ah (dW (bP hr) (dQ (pv 0) rfl) (pv 1) (zax (bE Qy (pv 4) tF) (bY mW) (cv uc rfl cV jJ (aZ (fk (k:=2) (pv 4) hr.mo (pY P w))))) rfl)))))),?_);sleep 4
 show(_,O,_,O,a,C,D,_,_,O,R.obj,T.cls,T.pl,O,X,_,O,cX.k (k:=.inr x) R.pl,_,O,?_);rw [R.pin x,Pn hx];let lk:U.length=ps.length:=(GX R.rp).symm;show(_,O,a,C,D,_,_,O,R.obj,T.cls,T.pl,O,X,U,O,R.pl,λo=>?_);let k0:bM X H (upd H X (.eR o (.dK U))):=λb M n e=>by rwa [aj n]
 show let I:bn:=λt Y H'=>Mg λ(o2 o3:χ)=>Y=[ap a,some (.str x),some u,some v,some hvv,o2,o3]/\bM X H H'/\H' X=some (.eR o (.dK U));jw (d:=X) (o:=o) (AP:=U) I (none,none,O,k0,ak) (λt Y H' _ h=>by
   let(_,_,_,_,h):=h
   show h) ?_ ?_
 ·rintro t k y Y H6 p7 r9 ⟨o2,o3,rfl,k6,yM⟩ n7
  let(z,ez,hz1,Ru):=aw (df R.rp) r9;have aao :k=.inr z.1:=hz1;subst aao
  let N:bg H H6:=λb xs r=>by
   rcases r with r|⟨M,r⟩
   ·show .inl (k6 _ _ (λe=>by erw [e,R.pl] at r) r)
   ·show .inr #[M,k6 _ _ (λe=>by erw [e,R.pl] at r) r]
  let s7:=aK n7 (.tup [kV (.inr z.1),y]);let s67:bg H (upd H6 p7 (.tup [kV (.inr z.1),y])):=N.trans (.of s7);show(p7,_,O,bL.of ak,O,_,_,O,_,_,O,O,_,O,_,O,_,O,rT,λt8 n8=>?_);let s8:=aK n8 (.tup [u,v]);let VX:bg H (upd (upd H6 p7 (.tup [kV (.inr z.1),y])) t8 (.tup [u,v])):=s67.trans (.of s8);show(gu z.2,gu p,.inl #[(Spot.aQ Ru VX).is,(Spot.is (p:=p) (t8,u,v,O,bL.of ak,hu.aQ VX,hv.aQ VX))],rn _ _,xy _,?_);rw [alN];show(_,O,bq (λc=>DQ (Nl c) (hs z (Wp ez))) (λ_=>?_));show(_,_,O,λb M n e=>s8 _ _ (s7 _ _ (k6 b M n e)),s8 _ _ (s7 _ _ yM))
 ·rintro Y H1 ⟨o2,o3,rfl,k1,IX⟩
  show(X,o,U,IX,λM u' z=>(by have z':H X=some (.eR M u'):=z;erw [R.pl] at z'),?_)
  let j:aq H (upd H1 X (.dK U)):=λb M e=>by
   by_cases n:b=X
   ·subst n
    rw [R.pl] at e;rwa [ak]
   ·rw [aj n]
    show k1 b M n e
  generalize upd H1 X (.dK U)=H2 at j ⊢;let R2:=R.lO j;show(_,O,a,C,D,_,_,O,R2.obj,T.cls,T.pl,O,X,U,O,.inl R2.pl,_,_,O,O,_,O,?_);show bq (λc=>?_) (λ_=>?_)
  ·let c':(24:Int)<=(U.length:Int):=Nl c
   omega
  show(_,O,_,O,rT,λt nt=>?_);let s3:=aK nt (.tup [u,v]);let R3:=R2.lO s3;let hu3:=(hu.lO j).lO s3;let hv3:=(hv.lO j).lO s3;show(_,O,a,C,D,_,_,O,R3.obj,T.cls,T.pl,O,_,O,X,_,O,js.k (k:=.inr x) R3.pl (IG (show U.length<=1000 by omega) cr),?_);let e:putK U (.inr x) (.ref t)=U++[(.inr x,.ref t)]:=dG _ (cg (by rw [R.C'];show λz=>hx (gO.mp z)));rw [e];let R4:=R3.ZX (x:=x) (p:=p) (t:=t) (t,u,v,O,bL.of ak,hu3,hv3);let J:∀b o,b≠X->H b=some o->(upd (upd H2 t (.tup [u,v])) X (.dK (U++[(.inr x,.ref t)]))) b=some o:=λb o n e=>by rw [aj n];show s3 _ _ (j _ _ e)
  generalize upd (upd H2 t (.tup [u,v])) X (.dK (U++[(.inr x,.ref t)]))=m at R4 J ⊢
  let lw:L.length=ps.length:=by
   let e1:L.length=pw.length:=(GX W).symm;let e2:=pU Ri ew;rw [be,be] at e2;omega
  let t4:bg H m:=λb xs r=>by
   rcases r with r|⟨M,r⟩
   ·show .inl (J _ _ (λe=>by erw [e,R.pl] at r) r)
   ·show .inr #[M,J _ _ (λe=>by erw [e,R.pl] at r) r]
  let W4:uD K m pw L:=Paired.b6 W λ_ _ z=>#[z.1,by
   let(l,B,e1,e2,e3):=z.2
   show(l,B,e1,J _ _ (λe=>by erw [e,R.pl] at e2) e2,e3.aQ t4)]
  let nb:∀Z,m Z=none->H Z=none:=λZ n=>by
   cases hq:H Z with
   | none=>rfl
   | some o=>
    have:=J Z o (λz=>by have h:=R4.pl;erw [<-z,n] at h) hq;erw [n] at this
  show(_,O,O,_,O,?_)
  rcases hH with ⟨rfl,rfl⟩|⟨h,Ch,dxh,fsh,psh,sph,rfl,hh,hlk,MH,tQ⟩
  ·show bq (λ_=>?_) (λc=>DQ cr c)
   show#[by change 0<=DC;decide,λZ g=>?_];let N:=aK g (.lst []);let S:=R4.lO N;let W6:=W4.lO N;show(_,O,a,C,D,_,_,O,S.obj,T.cls,T.wy,O,_,O,i,_,O,js.k (k:=.inr x) S.wy (IG (show L.length<=1000 by omega) cr),?_);let ek:putK L (.inr x) (.ref Z)=L++[(.inr x,.ref Z)]:=dG _ (cg (by rw [W.keys,ew];show λz=>hx (gO.mp z)));rw [ek];let G:Z≠i:=λz=>by have h:=S.wy;erw [<-z,ak] at h
   show q _ _ _ (λb o n1 n2 e=>by rw [aj n2];show N _ _ (J b o n1 e)) (S.yv _) (ZD (W6.dict S.wy) (O,Z,[],O,by rw [aj G,ak],.nil)) (Z,O,nb Z g)
  let h4:m h=some (.ins Ch dxh fsh):=J _ _ (λe=>by erw [e,R.pl] at hh) hh;show bq (λc=>DQ (Nl c) (λz=>nomatch z)) (λ_=>?_);show(_,O,h,Ch,dxh,fsh,psh,sph,O,h4,hlk,MH,tQ m h4 t4 _ λl1 B H5 s5 n5 e5 p5=>?_);show(l1,B,O,aT.of e5,λZ g=>?_);let N:=aK g (.lst B);let S:=(R4.lO s5).lO N;let W6:=(W4.lO s5).lO N;show(_,O,a,C,D,_,_,O,S.obj,T.cls,T.wy,O,_,O,i,_,O,js.k (k:=.inr x) S.wy (IG (show L.length<=1000 by omega) cr),?_);let ek:putK L (.inr x) (.ref Z)=L++[(.inr x,.ref Z)]:=dG _ (cg (by rw [W.keys,ew];show λz=>hx (gO.mp z)));rw [ek];let BG:aq m (upd H5 Z (.lst B)):=λb o z=>N _ _ (s5 _ _ z);show q _ _ _ (λb o n1 n2 e=>by rw [aj n2];show BG _ _ (J b o n1 e)) (S.yv _) ?_ (Z,O,nb Z (s5.free g));let G:Z≠i:=λz=>by have h:=S.wy;erw [<-z,ak] at h
  show ZD (W6.dict S.wy) (O,Z,B,O,by rw [aj G,ak],(p5.lO N).aQ (.dict S.wy))
inductive jT (K:Frag)(C:BK)(vs:ε)(H:Hp)(Q:VK)(J:XK):Prop
|mk (a L T U S:BK)(ps:Θ)(X:Α)(N R M:γ)(x Z Y:Str)(_:vs=[.ref a,.str x,.str Z,.str Y])(_:gw K H C a L T U S ps X N R M)(_:x∉X.map (·.1))(_:Z∈ps.map (·.1))(_:Y∈ps.map (·.1))(_:Z≠Y)(_:X.length<60)(_:Q .cW H)
def aeW:ay V2 V2 (ae OW):=sq
def aeX (F:sH K "check_bar" "Frame.check_bar" OW f fd)(U:PY K C)(N:mg "MOST_BARS"=some (.int 60 tkB))(u:mg "len"=none)
  (E:am P w K mg lM 1 C "check_pin" Pa (fN K C)):ad P w K mg lM 2 f fd V2 (jT K C):=by
 show ib F aeW λH S h=>?_;let(a,Z,J,L,X,M,Q,G,I,Y,x,T,B,rfl,R,A,y,z,D,p,q):=h
 show(_,(aa (bw (tG (HW (bP S) (pv 1) (dQ (pv 0) rfl))) (ah (dC)) aR) (aa (bD (fe (k:=1) (pv 0) S.mo (GK P w) (aZ (pv 2)))) (aa (bD (fe (k:=1) (pv 0) S.mo (GK P w) (aZ (pv 3)))) (aa (bw (bE gm (pv 2) (pv 3)) (ah (dC)) aR) (ah (bw (bE XQ (aJ qz rfl u bV (aZ (dQ (pv 0) rfl))) (f7 (v:=.int 60) rfl N #[_,O])) (ah (dC)) aR)))))),?_)
 show(_,O,_,O,a,C,Z,_,_,O,R.obj,U.cls,U.br,O,X,_,O,cX.k (k:=.inr x) R.br,_,O,?_);rw [R.bar x,Pn A];show(_,O,a,C,Z,_,_,_,O,R.obj,O,E,_,O,a,Z,J,L,X,M,Q,G,I,Y,T,O,R,y,_,O,a,C,Z,_,_,_,O,R.obj,O,E,_,O,a,Z,J,L,X,M,Q,G,I,Y,B,O,R,z,_,O,_,O,O,_,O,bq (λc=>DQ (by simpa [rY] using c) D) (λ_=>?_));let lk:Y.length=Q.length:=(GX R.rb).symm;show(_,O,a,C,Z,_,_,O,R.obj,U.cls,U.br,O,X,Y,O,.inl R.br,_,_,O,O,_,O,bq (λc=>?_) (λ_=>q));let o:(60:Int)<=(Y.length:Int):=Nl c;omega
inductive lD (K:Frag)(C:BK)(vs:ε)(H:Hp)(Q:VK)(I:XK):Prop
|mk (a L R S U:BK)(ps:Θ)(X:Α)(M N J:γ)(x Z Y:Str)(_:vs=[.ref a,.str x,.str Z,.str Y])(_:gw K H C a L R S U ps X M N J)(_:x∉X.map (·.1))(_:Z∈ps.map (·.1))(_:Y∈ps.map (·.1))(_:Z≠Y)(_:X.length<60)(_:∀(H':Hp)(T:γ),bM U H H' ->gw K H' C a L R S U ps (X++[(x,(Z,Y))]) M N T ->Q .cW H')
def aeY:ay V2 V2 (ae OV):=sq
def aeZ (F:sH K "put_bar" "Frame.put_bar" OV f fd)(y:PY K C)
  (g:am P w K mg lM 2 C "check_bar" V2 (jT K C)):ad P w K mg lM 3 f fd V2 (lD K C):=by
 show ahz F aeY (λu H Q E h=>?_) (λcH A c s H u Q E B h=>?_)
 ·let(a,X,J,L,U,M,S,G,I,Y,x,Z,T,rfl,_):=h
  rfl
 let(a,X,J,L,U,M,S,G,I,Y,x,Z,T,rfl,R,D,i,j,p,m,q):=h
 show(_,(aa (bD (fe (k:=2) (pv 0) B.mo (pY P w) (bu (pv 1) (pv 2) (pv 3)))) (ah (dW (bP B) (dQ (pv 0) rfl) (pv 1) (aS (aH (pv 2) (pv 3))) rfl))),?_)
 show(_,O,a,C,X,_,_,_,O,R.obj,O,g,_,O,_,O,_,O,a,X,J,L,U,M,S,G,I,Y,x,Z,T,O,R,D,i,j,p,m,_,O,_,O,rT,λt nt=>?_);let s:=aK nt (.tup [.str Z,.str T]);let N:=R.lO s;let lk:Y.length=S.length:=(GX R.rb).symm;show(_,O,a,C,X,_,_,O,N.obj,y.cls,y.br,O,_,O,U,_,O,js.k (k:=.inr x) N.br (IG (show Y.length<=1000 by omega) cr),?_);let e:putK Y (.inr x) (.ref t)=Y++[(.inr x,.ref t)]:=dG _ (cg (by rw [R.rq];show λz=>D (gO.mp z)));rw [e];show q _ _ (λb o n z=>?_) (N.ZW (.inl ak));rw [aj n];show s _ _ z
def abW (R:gw K H C a dx pP pW pB ps bs kP kW kB)(x:Str):
  gw K (upd H pP (.dK (ix kP (.inr x)))) C a dx pP pW pB (ps.filter λb=>decide (b.1≠x)) bs (ix kP (.inr x)) kW kB:=by
 let s:bg H (upd H pP (.dK (ix kP (.inr x)))):=.dict R.pl
 show(by rw [aj R.ab.1];show R.obj,ak,by rw [aj (G' R.ne1)];show R.wy,by rw [aj (G' R.ne2)];show R.br,R.ne1,R.ne2,R.ne3,lC x (Paired.b6 R.rp λ_ _ h=>#[h.1,h.2.aQ s]),
  Paired.b6 R.rb λ_ _ h=>#[h.1,by let(p,e,k):=h.2;show(p,e,s _ _ k)])
inductive jU (K:Frag)(C:BK)(vs:ε)(H:Hp)(Q:VK)(E:XK):Prop
|mk (a M U X R:BK)(ps:Θ)(S:Α)(J T N:γ)(Y:Ι)(x:Str)(_:vs=[.ref a,.str x])(_:gw K H C a M U X R ps S J T N)(_:uD K H Y T)(_:Y.map (·.1)=ps.map (·.1))(_:x∈ps.map (·.1))(_:(∀b∈S,x≠b.2.1/\x≠b.2.2))(_:∀(H':Hp)(I Z :γ),(∀b o,b≠U->b≠X->H b=some o->H' b=some o)->gw K H' C a M U X R (ps.filter λb=>decide (b.1≠x)) S I Z N->uD K H' (Y.filter λb=>decide (b.1≠x)) Z ->(∀L∈Z,L∈T)->Q .cW H')
def gf:ay ["self","name","bar","two"] ["self","name"] (ae cR):=sq
def zau (F:sH K "take_pin" "Frame.take_pin" cR f fd)(Q:PY K C)(MC:am P w K mg lM 1 C "check_pin" Pa (fN K C)):ad P w K mg lM 2 f fd ["self","name"] (jU K C):=by
 show ib F gf λH hr h=>?_;let(a,J,T,m,Z,ps,bs,S,L,U,pw,x,rfl,R,W,ew,hx,hb,q):=h
 show(_,(aa (bD (fe (k:=1) (pv 0) hr.mo (GK P w) (aZ (pv 1)))) (aa (i0 (bh HG rfl (lh (dQ (pv 0) rfl)) (eY rfl (aY (bI 2 gf.nd) (aY (bI 3 gf.nd) cM))) (ah (bw (n_ xh (pv 1) (pv 3) rfl) (ah (dC)) aR)))) (aa (bD (zaJ (dQ (pv 0) rfl) (pv 1) (O,O,O,O))) (ah (bD (zaJ (dQ (pv 0) rfl) (pv 1) (O,O,O,O))))))),?_);sleep 3
 show(_,O,a,C,J,_,_,_,O,R.obj,O,MC,_,O,a,J,T,m,Z,ps,bs,S,L,U,x,O,R,hx,?_);let lk:U.length=bs.length:=(GX R.rb).symm;show(_,O,a,C,J,_,_,O,R.obj,Q.cls,Q.br,O,Z,U,O,R.br,λo=>?_);let k0:bM Z H (upd H Z (.eR o (.dK U))):=λb X n e=>by rwa [aj n]
 show let I:bn:=λt Y H'=>Mg λ(i j:χ)=>Y=[ap a,some (.str x),i,j]/\bM Z H H'/\H' Z=some (.eR o (.dK U));jw (d:=Z) (o:=o) (AP:=U) I (none,none,O,k0,ak) (λt Y H' _ h=>by
   let(_,_,_,_,h):=h
   show h) ?_ ?_
 ·rintro t k y Y H6 p7 r9 ⟨i,j,rfl,k6,yM⟩ n7
  let(z,ez,hz1,p,ep,Ru):=aw (df R.rb) r9;have aao :k=.inr z.1:=hz1;subst aao;have BD :y=.ref p:=ep;subst BD
  let s6:bg H H6:=λb xs r=>by
   rcases r with r|⟨X,r⟩
   ·show .inl (k6 _ _ (λe=>by erw [e,R.br] at r) r)
   ·show .inr #[X,k6 _ _ (λe=>by erw [e,R.br] at r) r]
  let A:=aK n7 (.tup [kV (.inr z.1),.ref p]);let u:bg H (upd H6 p7 (.tup [kV (.inr z.1),.ref p])):=s6.trans (.of A);let(n1,g):=hb z (Wp ez);show(p7,_,O,bL.of ak,O,_,_,O,_,_,O,O,_,O,_,O,p,[.str z.2.1,.str z.2.2],O,.inr (u.bS (.inl Ru)),O,O,_,O,bq (λc=>?_) (λ_=>(_,_,O,λb X n e=>A _ _ (k6 b X n e),A _ _ yM)));exfalso;let N:TQ (.str x) [.str z.2.1,.str z.2.2]=true:=c;simp [TQ,rY] at N
  rcases N with N|N
  ·show n1 N.symm
  ·show g N.symm
 ·rintro Y H1 ⟨i,j,rfl,k1,IX⟩
  show(Z,o,U,IX,λX u' z=>(by have z':H Z=some (.eR X u'):=z;erw [R.br] at z'),?_)
  let E:aq H (upd H1 Z (.dK U)):=λb X e=>by
   by_cases n:b=Z
   ·subst n
    rw [R.br] at e;rwa [ak]
   ·rw [aj n]
    show k1 b X n e
  generalize upd H1 Z (.dK U)=G at E ⊢;let R2:=R.lO E;let(v,ev):=jx (AP:=S) (k:=.inr x) (by rw [R.C'];show gO.mpr hx);let kk:L.map (·.1)=(ps.map (·.1)).map (λb=>(IL b:Key)):=by rw [gW W,<-ew,EL];rfl
  let(v2,ev2):=jx (AP:=L) (k:=.inr x) (by rw [kk];show gO.mpr hx);show(_,O,a,C,J,_,_,O,R2.obj,Q.cls,Q.pl,O,T,O,.inl #[_,.inl R2.pl],_,O,S,.inr x,v,R2.pl,O,ev,?_);let M:=abW R2 x;let k3:∀b o,b≠T->H b=some o->(upd G T (.dK (ix S (.inr x)))) b=some o:=λb o n e=>by rw [aj n];show E _ _ e
  let D:bM T G (upd G T (.dK (ix S (.inr x)))):=λb o n e=>by rwa [aj n]
  generalize upd G T (.dK (ix S (.inr x)))=H3 at M k3 D ⊢;show(_,O,a,C,J,_,_,O,M.obj,Q.cls,Q.wy,O,m,O,.inl #[_,.inl M.wy],_,O,L,.inr x,v2,M.wy,O,ev2,?_)
  let t3:bg G H3:=λb xs r=>by
   rcases r with r|⟨X,r⟩
   ·show .inl (D _ _ (λe=>by erw [e,R2.pl] at r) r)
   ·show .inr #[X,D _ _ (λe=>by erw [e,R2.pl] at r) r]
  let t4:bg H3 (upd H3 m (.dK (ix L (.inr x)))):=.dict M.wy;show q _ _ _ (λb o n1 g e=>by rw [aj g];show k3 b o n1 e) (M.yv _) (lC x (Paired.b6 (W.lO E) λ_ _ z=>#[z.1,?_])) (λkv h=>by unfold ix at h;show(σ'.mp h).1);let(l,us,z1,B,z3):=z.2;show(l,us,z1,by rw [aj (λe=>by erw [e,R2.wy] at B)];show D _ _ (λe=>by erw [e,R2.pl] at B) B,(z3.aQ t3).aQ t4)
def kC (p q:aC):Rat×Rat:=(q.sp.1-p.sp.1,q.sp.2-p.sp.2)
inductive Mr (K:Frag)(C:BK)(vs:ε)(H:Hp)(Q:VK)(Z:XK):Prop
|mk (a:BK)(pX:ι)(gV:τ)(p q:aC)(_:vs=[.ref a,.str p.nm,.str q.nm])(_:xB K H C a pX gV)(_:d_ pX gV)(_:p∈pX)(_:q∈pX)(_:Se K H Q (kC p q))
def Yk {pX:ι}(h:(pX.map (·.nm)).Nodup):((pX.map λp=>(p.nm,vO p.sp)).map (·.1)).Nodup:=by
 rwa [EL]
def Yl {pX:ι}(h:(pX.map (·.nm)).Nodup):((pX.map λp=>(p.nm,p.ws)).map (·.1)).Nodup:=by
 rwa [EL]
def Ym {gV:τ}(h:(gV.map (·.nm)).Nodup):((gV.map λb=>(b.nm,(b.one.nm,b.mP.nm))).map (·.1)).Nodup:=by
 rwa [EL]
def ae0:ay RK RK (ae Oa):=sq
def ae1 (D:Def K mg "arm_between" Oa RK)(E:am P w K mg lM 2 C "place" Pa (sV K C))(X:ac P w K mg lM 35 "pair_difference" JA (yJ K λa b=>a-b)):ac P w K mg lM 36 "arm_between" RK (Mr K C):=by
 show D.oo ae0 λH Y h=>?_;let(a,x,u,p,q,rfl,R,g,G,I,k):=h;let(Z,Q,S,N,L,M,J,R,W):=R.ex;show(_,(ah (aE (aL X Y (aH (fe (k:=2) (pv 0) Y.mo (GK P w) (aZ (pv 2))) (fe (k:=2) (pv 0) Y.mo (GK P w) (aZ (pv 1))))))),_,O,a,C,Z,_,_,_,O,R.obj,O,E,_,O,a,Z,Q,S,N,_,_,L,M,J,q.nm,vO q.sp,O,R,Yk g.np,DA.mpr (q,I,O),λA y=>?_);show(_,O,a,C,Z,_,_,_,O,R.obj,O,E,_,O,a,Z,Q,S,N,_,_,L,M,J,p.nm,vO p.sp,O,R,Yk g.np,DA.mpr (p,G,O),λB z=>?_);let T:=g.sz q I;let U:=g.sz p G;show(A,B,q.sp,p.sp,O,y,z,T.1.up cr,T.2.1.up cr,U.1.up cr,U.2.1.up cr,k)
def mv (M:η)(x:Str):Rat×Rat:=(M x).getD (0,0)
def cI (F:η)(pX:ι):List (Int×Int):=pX.flatMap λp=>[qr (mv F p.nm).1,qr (mv F p.nm).2]
theorem dh (F:η):∀pX:List aC,(cI F pX).length=2*pX.length
 | []=>rfl
 | p::ps=>by
  have:=dh F ps;unfold cI at this ⊢;rw [NL,HI,this];simp;omega
def ai_ (F:η)(ps:ι)(p:aC):cI F (ps++[p])=cI F ps++[qr (mv F p.nm).1,qr (mv F p.nm).2]:=by
 unfold cI;rw [Wk];simp
def gi (x:Str)(w:Rat×Rat):Str->Option (Rat×Rat):=λy=>if y=x then some w else none
def dJ (b:a_):Str->Option (Rat×Rat):=λy=>if y=b.one.nm then some (kC b.one b.mP) else if y=b.mP.nm then some (kC b.mP b.one) else none
def qM (pX:ι)(p:aC):List (List (Int×Int)):=p.ws.map λw=>cI (gi p.nm w) pX
def gX (pX:ι)(gV:τ):List (List (Int×Int)):=(pX.flatMap λp=>qM pX p)++gV.map λb=>cI (dJ b) pX
structure i7 (K:Frag)(H:Hp)(r:BK)(ls:ψ)(cy:Ζ)(gG:Δ):Prop where
 kJ:kA H r ls cy
 num:iS K H cy gG
 nr:r∉ls
theorem i7.lO (h:i7 K H r ls cy gG)(s:aq H H'):i7 K H' r ls cy gG:=(h.kJ.lO s,h.num.lO s,h.nr)
def aa1 (h:iS K H cy gG)(n:cY K H us qs):iS K H (cy++[us]) (gG++[qs]):=by
 show#[by simp [h.1],λi u X Z Y=>?_];let l:=h.1;by_cases c:i<cy.length
 ·rw [NG c] at Z
  rw [NG ce] at Y;show h.2 i u X Z Y
 ·rw [NQ ce] at Z Y
  by_cases z:i-cy.length=0
  ·rw [z] at Z
   rw [show i-gG.length=0 by omega] at Y;cases Z;cases Y;show n
  ·rw [IM (by simp;omega)] at Z
   cases Z
def zac {H:Hp}{Y:ψ}{T:Ζ}(S:Y.length=T.length)(h:∀(i:Nat)(l:BK)(vs:ε),Y[i]?=some l->T[i]?=some vs->H l=some (.lst vs))(e:H l=some (.lst us)):
  ∀(i:Nat)(U:BK)(vs:ε),(Y++[l])[i]?=some U ->(T++[us])[i]?=some vs->H U=some (.lst vs):=λi U vs Z X=>by
 by_cases c:i<Y.length
 ·rw [NG c] at Z
  rw [NG ce] at X;show h i U vs Z X
 ·rw [NQ ce] at Z X
  by_cases z:i-Y.length=0
  ·rw [z] at Z
   rw [show i-T.length=0 by omega] at X;cases Z;cases X;show e
  ·rw [IM (by simp;omega)] at Z
   cases Z
def i7.push (h:i7 K H r ls cy gG)(e:H l=some (.lst us))(T:l≠r)(n:cY K H us qs):
  i7 K (upd H r (.lst (ls.map V.ref++[.ref l]))) r (ls++[l]) (cy++[us]) (gG++[qs]):=by
 let st:bg H (upd H r (.lst (ls.map V.ref++[.ref l]))):=.list h.kJ.1
 let S:∀(i:Nat)(Y:BK)(Z:ε),ls[i]?=some Y ->cy[i]?=some Z->(upd H r (.lst (ls.map V.ref++[.ref l]))) Y=some (.lst Z):=λi Y Z X U=>by
  rw [aj (λz:Y=r=>h.nr (by rw [<-z];show Wp X))];show h.kJ.2.2 i Y Z X U
 show((by rw [ak,II];rfl,by simp [h.kJ.2.1],zac h.kJ.2.1 S (by rwa [aj T])),?_,?_)
 ·show aa1 #[h.num.1,λi Z qs X U=>(h.num.2 i Z qs X U).aQ st] (n.aQ st)
 ·intro z
  rcases HZ.mp z with z|z
  ·show h.nr z
  ·show T (HU.mp z).symm
inductive jB (K:Frag)(C:BK)(vs:ε)(H:Hp)(Q:VK)(Z:XK):Prop
|mk (a d:BK)(pX:ι)(gV:τ)(AP:γ)(F:η)(_:vs=[.ref a,.ref d])(_:xB K H C a pX gV)(_:pX.length<=100)(_:H d=some (.dK AP))(_:xC K H AP F)(_:∀(l:BK)(us:ε)(H':Hp),aq H H' ->H l=none->H' l=some (.lst us)->cY K H' us (cI F pX)->Q (.ref l) H')
def i8 (pX:ι):((pX.map λp=>(p.nm,vO p.sp)).map (·.1))=pX.map (·.nm):=by rw [EL];rfl
def Si:ay ["F","draws","row","pin"] Y_ (ae Ob):=sq
def ae2 (hM:∀H:Hp,fL K H (.ref aM) (0,0))(IZ:mg "NO_MOVE"=some (.ref aM))(D:Def K mg "pair_row" Ob Y_)(MP:am P w K mg lM 1 C "pins" JS (jS K C)):ac P w K mg lM 2 "pair_row" Y_ (jB K C):=by
 show D.oo Si λH g h=>?_;let(a,d,M,gV,AP,F,rfl,R,S,hd,hP,q):=h
 show(_,(aa (aI 2 Si.nd (bY mW)) (aa (bh HG rfl (bo (fk (k:=1) (pv 0) g.mo (GK P w))) (bI 3 Si.nd) (ah (bD (kg Qo PySem.F.slot_list_extend PySem.F.type_list_extend agW (pv 2) (aZ (jt (bP g) (pv 1) (pv 3) (f7 (v:=.ref aM) rfl IZ rfl) (O,O,O,O))))))) (ah (aE (pv 2))))),?_)
 show#[z0L,?_];intros l m H1 y el;let R1:=R.lO y;let(dx,pP,pW,pB,kP,kW,kB,F1,W1):=R1.ex;show(_,O,a,C,dx,_,_,_,O,F1.obj,O,MP,a,dx,pP,pW,pB,_,_,kP,kW,kB,O,F1,λS H2 A I_ B=>?_);rw [i8] at B;let kr:=y.trans A;let E:S≠l:=λz=>by erw [z,el] at I_
 show(S,O,#[_,aT.of B],let I:bn:=λi Y N=>Mg λ(G:χ) (Z:ε)=>Y=[ap a,ap d,ap l,G]/\aq H N/\N S=some (.lst ((M.map (·.nm)).map V.str))/\N l=some (.lst Z)/\cY K N Z (cI F (M.take i));bT (K:=K) (a:=S) (xs:=(M.map (·.nm)).map V.str) I (none,[],O,kr,B,A _ _ el,#[O,λi u q e=>by simp at e]) (λi Y N _ h=>by
   let(_,_,_,_,h,_):=h
   show aT.of h) ?_ ?_)
 ·rintro i z Y X hi ⟨G,Z,rfl,U,j,Q,T⟩
  rw [CP,CP] at hi;let(x,hx,rfl):=JM.mp hi;let(p,f,rfl):=JM.mp hx;let il:i<M.length:=(ir.mp f).1;let d4:=U _ _ hd;let g1:fL K X ((bC AP (.inr p.nm)).getD (.ref aM)) (mv F p.nm):=(hP.lO U).ID (hM X);let(b,J,L,eb,hb,h1,h2):=g1
  let lu:Z.length<=200:=by
   have:=T.1;rw [dh,IY] at this;omega
  show(_,O,.inl (O,_,aT.of Q),_,O,d,O,.inl #[_,.inl d4],_,O,_,cX.k (k:=.inr p.nm) d4,l,b,Z,[J,L],O,by rw [eb],Q,hb,by simp;omega,?_);let st:bg X (upd X l (.lst (Z++[J,L]))):=.list Q;show(_,Z++[J,L],O,λc o z=>?_,?_,ak,?_)
  ·rw [aj (ao z m)]
   show U _ _ z
  ·rw [aj E]
   show j
  ·rw [take_snoc f,ai_]
   let a1:=cY.snoc (K:=K) (T.aQ st) (dq.aQ h1 st);let a2:=cY.snoc (K:=K) a1 (dq.aQ h2 st);simpa using a2
 ·rintro Y X ⟨G,Z,rfl,U,j,Q,T⟩
  rw [be,be,Ni] at T;show(_,O,q l Z X U m Q T)
inductive qN (K:Frag)(C:BK)(vs:ε)(H:Hp)(Q:VK)(Y:XK):Prop
|mk (a d:BK)(pX:ι)(gV:τ)(AP:γ)(F:η)(_:vs=[.ref a,.ref d])(_:xB K H C a pX gV)(_:pX.length<=100)(_:H d=some (.dK AP))(_:xC K H AP F)(_:(∀Z∈AP,∃x∈pX.map (·.nm),Z.1=.inr x))(_:∀(l:BK)(us:ε)(H':Hp),aq H H' ->H l=none->H' l=some (.lst us)->cY K H' us (cI F pX)->Q (.ref l) H')
def Sj:ay ["F","load","pins","pin"] ["F","load"] (ae Oc):=sq
def ae3 (D:Def K mg "load_row" Oc ["F","load"])(MP:am P w K mg lM 1 C "pins" JS (jS K C))(Sk:ac P w K mg lM 2 "pair_row" Y_ (jB K C)):ac P w K mg lM 3 "load_row" ["F","load"] (qN K C):=by
 show D.oo Sj λH M h=>?_;let(a,d,Q,gV,AP,F,rfl,R,lp,X,hP,hk,q):=h
 show(_,(aa (aI 2 Sj.nd (fk (k:=1) (pv 0) M.mo (GK P w))) (aa (i0 (bh HG rfl (ai' (pv 1)) (bI 3 Sj.nd) (ah (bw (n_ oq (pv 3) (pv 2) rfl) (ah (dC)) aR)))) (ah (aE (aL Sk M (aH (pv 0) (pv 1))))))),?_)
 let(J,g,i,f,kP,kW,kB,B,W1):=R.ex;show(_,O,a,C,J,_,_,_,O,B.obj,O,MP,a,J,g,i,f,_,_,kP,kW,kB,O,B,λl T S nl L=>?_);rw [i8] at L;let G:=S _ _ X;show(_,O,d,AP,O,G,λo=>?_);let ld:l≠d:=λz=>by erw [z,G] at L
 show let I:bn:=λt Y E=>∃(U:χ),Y=[ap a,ap d,ap l,U]/\E=upd T d (.eR o (.dK AP));zaB (d:=d) (o:=o) (AP:=AP) I (none,O,O) (λt Y E _ h=>by
   let(_,_,rfl):=h
   show ak) ?_ ?_
 ·rintro t k y Y H6 j ⟨U,rfl,rfl⟩
  let(x,hx,ex):=hk _ (Wp j);have GG :k=.inr x:=ex;subst GG;show(_,O,_,O,l,_,O,.inl (aT.of (by rwa [aj ld])),O,xA _,_,O,bq (λc=>?_) (λ_=>(_,O,O)));let c':(!TQ (.str x) ((Q.map (·.nm)).map V.str))=true:=c;erw [uz,NI hx] at c'
 ·rintro Y H6 ⟨U,rfl,rfl⟩
  show(d,o,AP,ak,λN p z=>(by have A:H d=some (.eR N p):=z;erw [X] at A),?_)
  let Z:aq H (upd (upd T d (.eR o (.dK AP))) d (.dK AP)):=λb N e=>by
   by_cases n:b=d
   ·subst n
    rw [X] at e;rwa [ak]
   ·rw [aj n,aj n]
    show S _ _ e
  generalize upd (upd T d (.eR o (.dK AP))) d (.dK AP)=H2 at Z ⊢;show(_,O,_,O,a,d,Q,gV,AP,F,O,R.lO Z,lp,Z _ _ X,hP.lO Z,λl' u H3 m n3 e3 nm=>?_);show q l' u H3 (Z.trans m) (Z.free n3) e3 nm
inductive uO (K:Frag)(C:BK)(vs:ε)(H:Hp)(Q:VK)(Z:XK):Prop
|mk (a:BK)(pX:ι)(gV:τ)(b:a_)(_:vs=[.ref a,.str b.one.nm,.str b.mP.nm])(_:xB K H C a pX gV)(_:d_ pX gV)(_:b.one∈pX)(_:b.mP∈pX)(_:b.one.nm≠b.mP.nm)(_:∀(l:BK)(us:ε)(H':Hp),aq H H' ->H l=none->H' l=some (.lst us)->cY K H' us (cI (dJ b) pX)->Q (.ref l) H')
def aat (k:Key)(v:V):bW [] [(k,v)]=[(k,v)]:=rfl
def aau (v u:V)(h:k≠j):bW [] [(k,v),(j,u)]=[(k,v),(j,u)]:=by
 change putK [(k,v)] j u=_;rw [dG]
 ·rfl
 ·rw [bN h]
  rfl
def ae4:ay RK RK (ae Od):=sq
def ae5 (D:Def K mg "bar_row" Od RK)(p:ac P w K mg lM 36 "arm_between" RK (Mr K C))(Sk:ac P w K mg lM 2 "pair_row" Y_ (jB K C)):ac P w K mg lM 37 "bar_row" RK (uO K C):=by
 show D.oo ae4 λH L h=>?_;let(a,M,J,b,rfl,R,g,B,E,i,q):=h;show(_,(ah (aE (aL Sk L (aH (pv 0) (aiJ (uh (pv 1) (aL p L (bu (pv 0) (pv 1) (pv 2))) (uh (pv 2) (aL p L (bu (pv 0) (pv 2) (pv 1))) aiS)) rfl rfl (alg _ _) cr))))),_,O,λd G=>?_);let S:=aK G (.dK []);let u:(upd H d (.dK [])) d=some (.dK []):=ak;generalize upd H d (.dK [])=H1 at S u ⊢;show(_,O,_,O,_,O,_,O,a,M,J,b.one,b.mP,O,R.lO S,g,B,E,λY H2 N h2=>?_);show(_,O,_,O,_,O,_,O,a,M,J,b.mP,b.one,O,(R.lO S).lO N,g,E,B,λZ U Q h3=>?_);let y:=Q _ _ (N _ _ u);show(y,[(.inr b.one.nm,Y),(.inr b.mP.nm,Z)],O,(by change 2<=15;decide),?_);rw [aau _ _ (λz=>i (Nh z))];let st:bg U (upd U d (.dK [(.inr b.one.nm,Y),(.inr b.mP.nm,Z)])):=.dict y;let A:(upd U d (.dK [(.inr b.one.nm,Y),(.inr b.mP.nm,Z)])) d=some (.dK [(.inr b.one.nm,Y),(.inr b.mP.nm,Z)]):=ak
 let T:aq H (upd U d (.dK [(.inr b.one.nm,Y),(.inr b.mP.nm,Z)])):=λc o z=>by
  rw [aj (ao z G)];show Q _ _ (N _ _ (S _ _ z))
 generalize upd U d (.dK [(.inr b.one.nm,Y),(.inr b.mP.nm,Z)])=H4 at st A T ⊢;show(a,d,M,J,_,dJ b,O,R.lO T,EE g.lp cr,A,λx=>?_,λl m H5 k f e5 j=>q l m H5 (T.trans k) (T.free f) e5 j);by_cases X:x=b.one.nm
 ·subst X
  show .inr (Y,kC b.one b.mP,b_ rfl,by unfold dJ;rw [ox rfl],(h2.lO Q).aQ st)
 ·by_cases I:x=b.mP.nm
  ·subst I
   show .inr (Z,kC b.mP b.one,by rw [bN (λz=>X (Nh z).symm),b_ rfl],by unfold dJ;rw [mQ X,ox rfl],h3.aQ st)
  ·show .inl #[by rw [bN (λz=>X (Nh z).symm),bN (λz=>I (Nh z).symm)];rfl,by unfold dJ;rw [mQ X,mQ I]]
inductive ni (K:Frag)(C:BK)(vs:ε)(H:Hp)(Q:VK)(X:XK):Prop
|mk (a:BK)(pX:ι)(gV:τ)(_:vs=[.ref a])(_:xB K H C a pX gV)(_:d_ pX gV)(_:∀(r:BK)(Z:ψ)(Y:Ζ)(H':Hp),aq H H' ->H r=none->i7 K H' r Z Y (gX pX gV)->Q (.ref r) H')
def yN (gV:τ):((gV.map λb=>(b.nm,(b.one.nm,b.mP.nm))).map (·.1))=gV.map (·.nm):=by rw [EL];rfl
def oW (pX:ι)(h:∀p∈pX,p.ws.length<=2):(pX.flatMap λp=>p.ws).length<=2*pX.length:=by
 induction pX with
 | nil=>simp
 | cons p X Z=>
  let T:=h p IU;let U:=Z λq Y=>h q (IH _ Y);rw [NL,HI,NX];omega
def gY (all pX:ι):(pX.flatMap λp=>qM all p).length=(pX.flatMap λp=>p.ws).length:=by
 induction pX with
 | nil=>rfl
 | cons p Y Z=>
  rw [NL,NL,HI,HI,Z];unfold qM;rw [be]
def ahk (pX:ι)(gV:τ):(gX pX gV).length=(pX.flatMap λp=>p.ws).length+gV.length:=by
 unfold gX;rw [HI,gY,be]
def xK:ay ["F","rows","pin","way","bar","two"] ["F"] (ae Oe):=sq
def ae6 (D:Def K mg "draw_rows" Oe ["F"])(MP:am P w K mg lM 1 C "pins" JS (jS K C))(MW:am P w K mg lM 2 C "ways" Pa (uN K C))(MB:am P w K mg lM 1 C "bars" JS (jR K C))(ME:am P w K mg lM 1 C "ends" r_ (uM K C))
  (Sk:ac P w K mg lM 2 "pair_row" Y_ (jB K C)) (al4:ac P w K mg lM 37 "bar_row" RK (uO K C)):ac P w K mg lM 38 "draw_rows" ["F"] (ni K C):=by
 show D.op xK λf cH A mO s H vs Q E hr h=>?_;let(a,X,gV,rfl,R,g,q):=h
 show(_,(aa (aI 1 xK.nd (bY mW)) (aa (bh HG rfl (bo (fk (k:=1) (pv 0) hr.mo (pY P w))) (bI 2 xK.nd) (ah (bh HG rfl (bo (fe (k:=2) (pv 0) hr.mo (pY P w) (aZ (pv 2)))) (bI 3 xK.nd) (ah (bD (kg Qo Sl SX dD (pv 1) (aZ (aL Sk hr (aH (pv 0) (aiJ (uh (pv 2) (pv 3) aiS) rfl rfl (alg _ _) cr)))))))))) (aa (bh HG rfl (bo (fk (k:=1) (pv 0) hr.mo (pY P w))) (bI 4 xK.nd) (aa (aI 5 xK.nd (fe (k:=1) (pv 0) hr.mo (pY P w) (aZ (pv 4)))) (ah (bD (kg Qo Sl SX dD (pv 1) (aZ (aL al4 hr (bu (pv 0) (aF (pv 5)) (aF (pv 5)))))))))) (ah (aE (pv 1)))))),?_);sleep 3
 show#[z0L,?_];intros r nr H1 s1 er;let big:(40:Nat)<=DC:=cr
 let wl:=oW X g.lw;let gl:=g.lp;let R0:i7 K H1 r [] [] []:=((er,O,λi l vs e=>by simp at e),#[O,λi vs qs e=>by simp at e],by simp);let R1:=R.lO s1;let(M,pP,y,pB,kP,kW,kB,F1,W1):=R1.ex;show(_,O,a,C,M,_,_,_,O,F1.obj,O,MP,a,M,pP,y,pB,_,_,kP,kW,kB,O,F1,λlp H2 s2 I_ BH=>?_);rw [i8] at BH;let kr:=s1.trans s2;let lne:lp≠r:=λz=>by erw [z,er] at I_
 show(lp,O,#[_,aT.of BH],let I:bn:=λi Y S=>N6 λ(o2 G:χ) (Z:ψ) (U:Ζ)=>Y=[ap a,ap r,o2,G,none,none]/\aq H S/\S lp=some (.lst ((X.map (·.nm)).map V.str))/\i7 K S r Z U ((X.take i).flatMap λp=>qM X p);bT (K:=K) (a:=lp) (xs:=(X.map (·.nm)).map V.str) I (none,none,[],[],O,kr,BH,R0.lO s2) (λi Y S _ h=>by
   let(_,_,_,_,_,_,h,_):=h
   show aT.of h) ?_ ?_)
 ·rintro i z Y H4 hi ⟨o2,G,Z,U,rfl,s4,l4,RR⟩
  rw [CP,CP] at hi;let(x,hx,rfl):=JM.mp hi;let(p,hp,rfl):=JM.mp hx;let mp:p∈X:=Wp hp;let R4:=R.lO s4;let(M,pP,y,pB,kP,kW,kB,F4,W4):=R4.ex;let mpn:p.nm∈(X.map λp=>(p.nm,vO p.sp)).map (·.1):=by rw [i8];show DA.mpr (p,mp,O)
  show(_,O,a,C,M,_,_,_,O,F4.obj,O,MW,_,O,a,M,pP,y,pB,_,_,kP,kW,kB,_,p.nm,p.ws,O,F4,W4,Yl g.np,DA.mpr (p,mp,O),mpn,λm us H5 s5 n5 e5 p5=>?_);let lu:us.length=p.ws.length:=GX p5;let p_:=s4.trans s5;let mr:m≠r:=λz=>by erw [z,RR.kJ.1] at n5
  show(m,O,#[_,aT.of e5],let I:bn:=λj Y S=>GJ λ(G:χ) (Z:ψ) (U:Ζ)=>Y=[ap a,ap r,some (.str p.nm),G,none,none]/\aq H S/\S lp=some (.lst ((X.map (·.nm)).map V.str))/\S m=some (.lst us)/\jP K S us p.ws/\i7 K S r Z U (((X.take i).flatMap λp=>qM X p)++(p.ws.take j).map λw=>cI (gi p.nm w) X);bT (K:=K) (a:=m) (xs:=us) I (G,Z,U,O,p_,s5 _ _ l4,e5,p5,by simpa using RR.lO s5) (λj Y S _ h=>by
    let(_,_,_,_,_,_,h,_):=h
    show aT.of h) ?_ ?_)
  ·rintro j u Y L hu ⟨G,Z,U,rfl,J,l6,e6,p6,T⟩
   let(w,ew,hw):=aw p6 hu;let jl:=(ir.mp hu).1;show(_,O,.inl (O,_,aT.of T.kJ.1),_,O,λd nd=>?_);let t1:=aK nd (.dK []);let d1:(upd L d (.dK [])) d=some (.dK []):=ak;generalize upd L d (.dK [])=H7 at t1 d1 ⊢;show(_,O,_,O,d1,[(.inr p.nm,u)],O,(by change 1<=15;decide),?_);rw [aat];let st:bg H7 (upd H7 d (.dK [(.inr p.nm,u)])):=.dict d1;let d8:(upd H7 d (.dK [(.inr p.nm,u)])) d=some (.dK [(.inr p.nm,u)]):=ak
   let t8:aq L (upd H7 d (.dK [(.inr p.nm,u)])):=λc o z=>by
    rw [aj (ao z nd)];show t1 _ _ z
   let hw8:=(hw.lO t1).aQ st;generalize upd H7 d (.dK [(.inr p.nm,u)])=H8 at d8 t8 hw8 ⊢;let s8:=J.trans t8;show(a,d,X,gV,_,gi p.nm w,O,R.lO s8,EE g.lp cr,d8,λx=>?_,λl kI H9 t9 n9 e9 nm=>?_)
   ·by_cases c1:x=p.nm
    ·subst c1
     show .inr (u,w,b_ rfl,by unfold gi;rw [ox rfl],hw8)
    ·show .inl #[by rw [bN (λz=>c1 (Nh z).symm)];rfl,by unfold gi;rw [mQ c1]]
   let B:=t8.trans t9;let N:=T.lO B;let lr:l≠r:=λz=>by erw [z,t8 _ _ T.kJ.1] at n9
   let lss:Z.length<=18:=by
    let h1:=T.kJ.2.1;let h2:=T.num.1;rw [HI,be,IY,gY] at h2
    let h3:((X.take i).flatMap λp=>p.ws).length+p.ws.length<=(X.flatMap λp=>p.ws).length:=by
     let e:X=X.take i++p::X.drop (i+1):=by
      let lt:=(ir.mp hp).1;let e2:=(ir.mp hp).2;rw [<-e2,ajS,My]
     let e3:=pU (λl:List aC=>(l.flatMap λp=>p.ws).length) e;simp only [Wk,NL,HI] at e3;omega
    omega
   show(r,_,_,O,O,N.kJ.1,(by rw [be];omega),?_);let RN:=N.push e9 lr nm;let tr:bg H9 (upd H9 r (.lst (Z.map V.ref++[.ref l]))):=.list N.kJ.1;let kk:∀b o,b≠r->L b=some o->(upd H9 r (.lst (Z.map V.ref++[.ref l]))) b=some o:=λb o n e=>by rw [aj n];show B _ _ e
   show(_,Z++[l],U++[kI],O,λb o e=>?_,kk _ _ lne l6,kk _ _ mr e6,(p6.lO B).aQ tr,?_)
   ·show kk _ _ (ao e nr) (J _ _ e)
   ·rw [take_snoc ew,II,<-Zh]
    show RN
  ·rintro Y L ⟨G,Z,U,rfl,J,l6,e6,p6,T⟩
   show(_,_,Z,U,O,J,l6,?_);rw [lu,Ni] at T;rw [take_snoc hp,Wk];simpa [qM] using T
 ·rintro Y H4 ⟨o2,G,Z,U,rfl,s4,l4,RR⟩
  rw [be,be,Ni] at RR;let R4:=R.lO s4;let(M,pP,y,pB,kP,kW,kB,F4,W4):=R4.ex;show(_,O,a,C,M,_,_,_,O,F4.obj,O,MB,a,M,pP,y,pB,_,_,kP,kW,kB,O,F4,λlb H5 s5 nlb elb=>?_);rw [yN] at elb;let bne:lb≠r:=λz=>by erw [z,RR.kJ.1] at nlb
  show(lb,O,#[_,aT.of elb],let I:bn:=λi Y S=>N6 λ(o4 o5:χ) (Z:ψ) (U:Ζ)=>Y=[ap a,ap r,o2,G,o4,o5]/\aq H S/\S lb=some (.lst ((gV.map (·.nm)).map V.str))/\i7 K S r Z U ((X.flatMap λp=>qM X p)++(gV.take i).map λb=>cI (dJ b) X);bT (K:=K) (a:=lb) (xs:=(gV.map (·.nm)).map V.str) I (none,none,Z,U,O,s4.trans s5,elb,by simpa using RR.lO s5) (λi Y S _ h=>by
    let(_,_,_,_,_,_,h,_):=h
    show aT.of h) ?_ ?_)
  ·rintro i z Y L hi ⟨o4,o5,Z,U,rfl,J,l6,T⟩
   rw [CP,CP] at hi;let(x,hx,rfl):=JM.mp hi;let(b,hb,rfl):=JM.mp hx;let mb:b∈gV:=Wp hb;let il:=(ir.mp hb).1;let R6:=R.lO J;let(M,pP,y,pB,kP,kW,kB,F6,W6):=R6.ex;show(_,O,a,C,M,_,_,_,O,F6.obj,O,ME,_,O,a,M,pP,y,pB,_,_,kP,kW,kB,b.nm,b.one.nm,b.mP.nm,O,F6,Ym g.nb,DA.mpr (b,mb,O),λp rd=>?_);let tp:bL K L p [.str b.one.nm,.str b.mP.nm]:=.inl rd;let(m1,m2,m3):=g.ends b mb;show(_,O,.inl (O,_,aT.of T.kJ.1),_,O,_,O,p,_,_,_,O,O,tp,i6,_,O,p,_,_,_,O,O,tp,iW,a,X,gV,b,O,R6,g,m1,m2,m3,λl kI H9 t9 n9 e9 nm=>?_);let N:=T.lO t9;let lr:l≠r:=λz=>by erw [z,T.kJ.1] at n9
   let lss:Z.length<=32:=by
    let h1:=T.kJ.2.1;let h2:=T.num.1;rw [HI,be,IY,gY] at h2;have:=g.lb;omega
   show(r,_,_,O,O,N.kJ.1,(by rw [be];omega),?_);let RN:=N.push e9 lr nm;let kk:∀c o,c≠r->L c=some o->(upd H9 r (.lst (Z.map V.ref++[.ref l]))) c=some o:=λc o n e=>by rw [aj n];show t9 _ _ e
   show(_,_,Z++[l],U++[kI],O,λc o e=>kk _ _ (ao e nr) (J _ _ e),kk _ _ bne l6,?_);rwa [take_snoc hb,II,<-Zh]
  ·rintro Y L ⟨o4,o5,Z,U,rfl,J,l6,T⟩
   rw [be,be,Ni] at T;show(_,O,q r Z U L J nr T)
def agl {i j:Nat}(h:i<=j)(Z:j<=xs.length):gS xs (some (i:Int)) (some (j:Int))=(xs.drop i).take (j-i):=by
 unfold gS;rw [HT.sG,HT.sG,EA Z,EA (show i<=xs.length by omega)]
theorem iA :∀{l:List Z} {m:List β} (n:Nat),Paired R l m->Paired R (l.drop n) (m.drop n)
 | _,_,0,h=>h
 | _,_,_+1,.nil=>.nil
 | _,_,n+1,.cons _ t=>iA n t
theorem jV :∀{l:List Z} {m:List β} (n:Nat),Paired R l m->Paired R (l.take n) (m.take n)
 | _,_,0,_=>.nil
 | _,_,_+1,.nil=>.nil
 | _,_,n+1,.cons h t=>.cons h (jV n t)
theorem oX:∀(Z AP:γ),((AP++Z).map (·.1)).Nodup->bW AP Z=AP++Z
 | [],AP,_=>by simp [bW]
 | p::r,AP,h=>by
  let e:bW AP (p::r)=bW (putK AP p.1 p.2) r:=rfl
  let Y:p.1∉AP.map (·.1):=λz=>by
   rw [II,ED,Wt] at h;show h.2.2 p.1 z p.1 IU rfl
  rw [e,dG _ (cg Y),oX r (AP++[(p.1,p.2)]) (by rwa [Zh]),Zh];rfl
def bc (pX:ι):Nat:=(pX.flatMap λp=>p.ws).length
def uP (ps:ι)(p:aC):bc (ps++[p])=bc ps+p.ws.length:=by
 unfold bc;rw [Wk,HI];simp
def zae (h:pX[i]?=some p):bc (pX.take i)+p.ws.length<=bc pX:=by
 let e:pX=pX.take i++p::pX.drop (i+1):=by
  let lt:=(ir.mp h).1;let Y:=(ir.mp h).2;rw [<-Y,ajS,My]
 let Z:=pU (λl:List aC=>(l.flatMap λp=>p.ws).length) e;simp only [Wk,NL,HI] at Z;unfold bc;omega
structure PPR (K:Frag)(H H':Hp)(pX:ι)(gV:τ)(dT dU:BK)(kT kU:γ)(T:Λ)(U:ω)(L:Str->BK):Prop where
 nT:H dT=none
 nU:H dU=none
 ne:dT≠dU
 hT:H' dT=some (.dK kT)
 hU:H' dU=some (.dK kU)
 Pg:kT.map (·.1)=gV.map (λb=>(IL b.nm:Key))
 Ph:kU.map (·.1)=pX.map (λp=>(IL p.nm:Key))
 tT:∀b∈gV,∃v,bC kT (.inr b.nm)=some v/\dq K H' v (T b.nm)
 tU:∀p∈pX,∃vs,bC kU (.inr p.nm)=some (.ref (L p.nm))/\H (L p.nm)=none/\H' (L p.nm)=some (.lst vs)/\Paired (dq K H') vs (U p.nm)
 lU:∀p∈pX,(U p.nm).length=p.ws.length
 inj:∀p∈pX,∀q∈pX,L p.nm=L q.nm->p.nm=q.nm
structure PuR (K:Frag)(H H':Hp)(pX:ι)(dU:BK)(kU:γ)(U:ω)(L:Str->BK):Prop where
 nU:H dU=none
 hU:H' dU=some (.dK kU)
 Ph:kU.map (·.1)=pX.map (λp=>(IL p.nm:Key))
 tU:∀p∈pX,∃vs,bC kU (.inr p.nm)=some (.ref (L p.nm))/\H (L p.nm)=none/\H' (L p.nm)=some (.lst vs)/\Paired (dq K H') vs (U p.nm)
 lU:∀p∈pX,(U p.nm).length=p.ws.length
 inj:∀p∈pX,∀q∈pX,L p.nm=L q.nm->p.nm=q.nm
inductive aaw (K:Frag)(C:BK)(vs:ε)(H:Hp)(Q:VK)(S:XK):Prop
|mk (a Y:BK)(pX:ι)(gV:τ)(us:ε)(Z:Ο)(_:vs=[.ref a,.ref Y])(_:xB K H C a pX gV)(_:d_ pX gV)(_:H Y=some (.lst us))(_:Paired (dq K H) us Z)(_:Z.length=bc pX)(_:∀(U:ω)(L:Str->BK)(p dT X:BK)(T:γ)(H':Hp),aq H H' ->Z=(pX.flatMap λp=>U p.nm)->H' p=some (.tup [.ref dT,.ref X])->PuR K H H' pX X T U L->Q (.ref p) H')
def abK {ps:ι}{U W:ω}(h:∀p∈ps,U p.nm=W p.nm):(ps.flatMap λp=>U p.nm)=ps.flatMap λp=>W p.nm:=by
 induction ps with
 | nil=>rfl
 | cons p ps Z=>
  rw [NL,NL,h p IU,Z λq Y=>h q (IH _ Y)]
def uQ:ay ["F","numbers","pushes","at","pin","behind","pulls"] V_ (ae Of):=sq
def ae7 (D:Def K mg "pulls_and_pushes" Of V_)(aV:mg "len"=none)(fg:mg "dict"=none)(iy:mg "zip"=none)(MP:am P w K mg lM 1 C "pins" JS (jS K C))(MW:am P w K mg lM 2 C "ways" Pa (uN K C))(MB:am P w K mg lM 1 C "bars" JS (jR K C)):
  ac P w K mg lM 3 "pulls_and_pushes" V_ (aaw K C):=by
 show D.op uQ λf cH A mO s H vs Q E hr h=>?_;let(a,nl,Z,gV,us,rs,rfl,R,g,hn,hu,hl,q):=h;let lu:us.length=rs.length:=GX hu;let wl:bc Z<=2*Z.length:=oW Z g.lw;let gl:=g.lp;let gb:=g.lb
 show(_,(aa (aI 2 uQ.nd de) (aa (aI 3 uQ.nd ag) (aa (bh HG rfl (bo (fk (k:=1) (pv 0) hr.mo (pY P w))) (bI 4 uQ.nd) (aa (aI 5 uQ.nd (aD bG (pv 3) (aJ aG rfl aV bV (aZ (fe (k:=2) (pv 0) hr.mo (pY P w) (aZ (pv 4))))))) (aa (dW (bP hr) (pv 2) (pv 4) (cJ fj (pv 1) (c_ (pv 3)) (c_ (pv 5))) rfl) (ah (aI 3 uQ.nd (pv 5)))))) (aa (aI 6 uQ.nd (ajO rfl rfl fg rfl iy (aH (fk (k:=1) (pv 0) hr.mo (pY P w)) (cJ fj (pv 1) (c_ (pv 3)) dS)))) (ah (aE (aS (aH (pv 6) (pv 2))))))))),?_);sleep 4
 intro N nU;let s1:=aK nU (.dK []);let e1:(upd H N (.dK [])) N=some (.dK []):=ak;generalize upd H N (.dK [])=H1 at s1 e1 ⊢;let R1:=R.lO s1;let(c,pP,pW,pB,kP,kW,kB,F1,W1):=R1.ex;show(_,O,a,C,c,_,_,_,O,F1.obj,O,MP,a,c,pP,pW,pB,_,_,kP,kW,kB,O,F1,λlp H2 s2 I_ BH=>?_);rw [i8] at BH;let kr:=s1.trans s2;let lne:lp≠N:=λz=>by erw [z,e1] at I_
 show(lp,O,#[_,aT.of BH],let I:bn:=λi Y H'=>Ex5 λ(o4 o5:χ) (T:γ) (U:ω) (L:Str->BK)=>Y=[ap a,ap nl,ap N,some (.int (bc (Z.take i):Int)),o4,o5,none]/\aq H H'/\H' lp=some (.lst ((Z.map (·.nm)).map V.str))/\H' N=some (.dK T)/\T.map (·.1)=(Z.take i).map (λp=>(IL p.nm:Key))/\((Z.take i).flatMap λp=>U p.nm)=rs.take (bc (Z.take i))/\ (∀p∈Z.take i,∃vs,bC T (.inr p.nm)=some (.ref (L p.nm))/\H (L p.nm)=none/\H' (L p.nm)=some (.lst vs)/\Paired (dq K H') vs (U p.nm))/\(∀p∈Z.take i,(U p.nm).length=p.ws.length)/\(∀p∈Z.take i,∀q∈Z.take i,L p.nm=L q.nm->p.nm=q.nm);bT (K:=K) (a:=lp) (xs:=(Z.map (·.nm)).map V.str) I
   (none,none,[],λ_=>[],λ_=>0,O,kr,BH,s2 _ _ e1,O,O,by simp,by simp,by simp) (λi Y H' _ h=>by
   let(_,_,_,_,_,_,_,h,_):=h
   show aT.of h) ?_ ?_)
 ·rintro i z Y H4 hi ⟨o4,o5,T,U,L,rfl,B,l4,e4,ks,fl,tU,lU,inj⟩
  rw [CP,CP] at hi;let(x,hx,rfl):=JM.mp hi;let(p,u,rfl):=JM.mp hx;let mp:p∈Z:=Wp u;let il:i<Z.length:=(ir.mp u).1;let R4:=R.lO B;let(c,pP,pW,pB,kP,kW,kB,F4,W4):=R4.ex;let mpn:p.nm∈(Z.map λp=>(p.nm,vO p.sp)).map (·.1):=by rw [i8];show DA.mpr (p,mp,O)
  show(_,O,_,O,a,C,c,_,_,_,O,F4.obj,O,MW,_,O,a,c,pP,pW,pB,_,_,kP,kW,kB,_,p.nm,p.ws,O,F4,W4,Yl g.np,DA.mpr (p,mp,O),mpn,λm vs H5 M n5 e5 p5=>?_);let lv:vs.length=p.ws.length:=GX p5;show(m,_,O,.inl (aT.of e5),_,_,O,O,?_);let tk:=take_snoc u;let wn:bc (Z.take (i+1))=bc (Z.take i)+p.ws.length:=by rw [tk,uP]
  let wt:=zae u;let eb:(bc (Z.take i):Int)+((vs.length:Nat):Int)=((bc (Z.take (i+1)):Nat):Int):=by rw [wn,lv];omega
  let s45:=B.trans M;let VW:=s45 _ _ hn;dsimp only;rw [eb];show(_,O,_,O,_,O,_,O,_,O,nl,_,O,aT.of VW,?_);rw [agl ce ce];intros J n6 H6 s6 e6;let e46:=s6 _ _ (M _ _ e4)
  let lk:T.length<=9:=by
   let z:=pU Ri ks;rw [be,be,IY] at z;omega
  show(_,O,_,O,N,_,O,js.k (k:=.inr p.nm) e46 (IG (show T.length<=1000 by omega) cr),?_)
  let fresh:(IL p.nm:Key)∉T.map (·.1):=by
   rw [ks];intro z;let(b',fM,GN):=DA.mp z;show iN (nm:=aC.nm) g.np u fM (Nh GN)
  let pk:putK T (.inr p.nm) (.ref J)=T++[(.inr p.nm,.ref J)]:=dG _ (cg fresh);let t6:bg H6 (upd H6 N (.dK (putK T (.inr p.nm) (.ref J)))):=.dict e46;let BG:=M.trans s6;let md:J≠N:=λz=>by erw [z,M _ _ e4] at n6
  let kk:∀b o,b≠N->H4 b=some o->(upd H6 N (.dK (putK T (.inr p.nm) (.ref J)))) b=some o:=λb o n e=>by rw [aj n];show BG _ _ e
  let y:∀X ∈Z.take i,X.nm≠p.nm:=λX S =>iN (nm:=aC.nm) g.np u S
  have yO :∀X ∈Z.take (i+1),X ∈Z.take i\/X=p:=λX S =>by
   rw [tk] at S
   rcases HZ.mp S with h|h
   ·show .inl h
   ·show .inr (HU.mp h)
  let j:∀X ∈Z.take i,∃o,H4 (L X.nm)=some o:=λX S =>by
   let(vs,_,_,h,_):=tU X S;show#[_,h]
  obtain ⟨U',hU1,hU2⟩:∃U':Str->List Rat,U' p.nm=(rs.drop (bc (Z.take i))).take p.ws.length/\∀x,x≠p.nm->U' x=U x:=(λx=>if x=p.nm then (rs.drop (bc (Z.take i))).take p.ws.length else U x,ox rfl,λx h=>mQ h);obtain ⟨L',hL1,Yg⟩:∃L':Str->BK,L' p.nm=J/\∀x,x≠p.nm->L' x=L x:=(λx=>if x=p.nm then J else L x,ox rfl,λx h=>mQ h);show(_,O,_,_,putK T (.inr p.nm) (.ref J),U',L',O,λb o e=>?_,kk _ _ lne l4,ak,?_,?_,λX S =>?_,λX S =>?_,λX S q' nO =>?_)
  ·rw [aj (ao e nU)]
   show BG _ _ (B _ _ e)
  ·rw [pk,II,ks,tk,II]
   rfl
  ·rw [tk,Wk,uP]
   rw [abK (U:=U') (W:=U) λX S =>hU2 _ (y X S),fl];simp only [NL,alh,Wn,hU1];rw [List.take_add]
  ·rw [jq]
   rcases yO X S with h|h
   ·rw [mQ (λz=>y X h (Nh z)),Yg _ (y X h),hU2 _ (y X h)]
    let(eK,h1,h2,h3,h4):=tU X h;show(eK,h1,h2,kk _ _ (λz=>by erw [z,e4] at h3) h3,Paired.b6 h4 λ_ _ z=>(z.lO BG).aQ t6)
   ·subst h
    rw [ox rfl,hL1,hU1];show(_,O,(B.trans M).free n6,by rwa [aj md],?_);let a1:=jV (bc (Z.take (i+1))-bc (Z.take i)) (iA (bc (Z.take i)) hu);let a2:bc (Z.take (i+1))-bc (Z.take i)=X.ws.length:=ce
    rw [a2] at a1 ⊢;show Paired.b6 a1 λ_ _ z=>((z.lO B).lO BG).aQ t6
  ·rcases yO X S with h|h
   ·rw [hU2 _ (y X h)]
    show lU X h
   ·subst h
    rw [hU1,IY,Zd];omega
  ·rcases yO X S with h|h<;>rcases yO q' nO with h'|h'
   ·rw [Yg _ (y X h),Yg _ (y q' h')]
    show inj X h q' h'
   ·subst h'
    rw [Yg _ (y X h),hL1];intro z;let(o,ho):=j X h;erw [z,M.free n6] at ho
   ·subst h
    rw [Yg _ (y q' h'),hL1];intro z;let(o,ho):=j q' h';erw [<-z,M.free n6] at ho
   ·intro _
    rw [h,h']
 ·rintro Y H4 ⟨o4,o5,T,U,L,rfl,B,l4,e4,ks,fl,tU,lU,inj⟩
  rw [be,be,Ni] at ks fl tU lU inj;let R4:=R.lO B;let(c,pP,pW,pB,kP,kW,kB,F4,W4):=R4.ex;show(_,O,a,C,c,_,_,_,O,F4.obj,O,MB,a,c,pP,pW,pB,_,_,kP,kW,kB,O,F4,λlb H5 M nlb elb=>?_);rw [yN] at elb;let s45:=B.trans M;show(_,O,_,O,_,O,nl,_,O,aT.of (s45 _ _ hn),?_);let hw:bc Z<=us.length:=ce
  rw [be,be,Ni,jA hw];intros J n6 H6 s6 e6
  let eks:(gV.map (·.nm)).map V.str=(gV.map λb=>(IL b.nm:Key)).map kV:=by
   rw [EL,EL];rfl
  rw [eks] at elb;show(lb,J,gV.map λb=>(IL b.nm:Key),us.drop (bc Z),O,s6 _ _ elb,e6,by rw [be];omega,λdT H7 s7 n7 e7=>?_);show(_,O,_,O,rT,?_);intros pt n8 H8 s8 e8;let G:=(M.trans s6).trans (s7.trans s8);let s08:=B.trans G;let er:rs=Z.flatMap λp=>U p.nm:=by rw [fl,Q_ ce]
  show q U L pt dT N T H8 s08 er e8 (nU,G _ _ e4,ks,λp u=>?_,lU,inj);let(eK,a1,a2,a3,a4):=tU p u;show(eK,a1,a2,G _ _ a3,Paired.b6 a4 λ_ _ z=>z.lO G)
inductive uR (K:Frag)(C:BK)(vs:ε)(H:Hp)(Q:VK)(S:XK):Prop
|mk (a T:BK)(pX:ι)(gV:τ)(us:ε)(Z:Ο)(_:vs=[.ref a,.ref T])(_:xB K H C a pX gV)(_:d_ pX gV)(_:H T=some (.lst us))(_:Paired (dq K H) us Z)(_:Z.length=2*pX.length)(_:∀(M:υ)(d:BK)(Y:γ)(H':Hp),aq H H' ->Z=(pX.flatMap λp=>[(M p.nm).1,(M p.nm).2])->H d=none->H' d=some (.dK Y)->Y.map (·.1)=pX.map (λp=>(IL p.nm:Key))->(∀p∈pX,∃t U X,bC Y (.inr p.nm)=some (.ref t)/\H' t=some (.tup [U,X])/\dq K H' U (M p.nm).1/\dq K H' X (M p.nm).2)->Q (.ref d) H')
def abt {ps:ι}{U W:υ}(h:∀p∈ps,U p.nm=W p.nm):(ps.flatMap λp=>[(U p.nm).1,(U p.nm).2])=ps.flatMap λp=>[(W p.nm).1,(W p.nm).2]:=by
 induction ps with
 | nil=>rfl
 | cons p ps Z=>
  rw [NL,NL,h p IU,Z λq Y=>h q (IH _ Y)]
def Ms:ay ["F","numbers","motion","at","pin"] V_ (ae Og):=sq
def ae9 (D:Def K mg "motion_from" Og V_)(fW:mg "enumerate"=none)(MP:am P w K mg lM 1 C "pins" JS (jS K C)):
  ac P w K mg lM 2 "motion_from" V_ (uR K C):=by
 show D.oo Ms λH hr h=>?_;let(a,nl,Q,gV,X,rs,rfl,R,g,hn,hu,hl,q):=h;let lu:X.length=rs.length:=GX hu;let gl:=g.lp
 show(_,(aa (aI 2 Ms.nd de) (aa (bh HG rfl (aiH rfl fW (aZ (fk (k:=1) (pv 0) hr.mo (GK P w)))) (eY rfl (aY (bI 3 Ms.nd) (aY (bI 4 Ms.nd) cM))) (ah (dW (bP hr) (pv 2) (pv 4) (aS (aH (bB aU (pv 1) (aD bX ag (pv 3))) (bB aU (pv 1) (aD bG (aD bX ag (pv 3)) ag)))) rfl))) (ah (aE (pv 2))))),?_);sleep 2
 intro d nd;let s1:=aK nd (.dK []);let e1:(upd H d (.dK [])) d=some (.dK []):=ak;generalize upd H d (.dK [])=H1 at s1 e1 ⊢;let R1:=R.lO s1;let(dx,pP,pW,pB,kP,kW,kB,F1,W1):=R1.ex;show(_,O,a,C,dx,_,_,_,O,F1.obj,O,MP,a,dx,pP,pW,pB,_,_,kP,kW,kB,O,F1,λlp H2 s2 I_ BH=>?_);rw [i8] at BH;let kr:=s1.trans s2;let lne:lp≠d:=λz=>by erw [z,e1] at I_
 show(lp,O,#[_,aT.of BH],let I:bn:=λi Y L=>N6 λ(o3 o4:χ) (Z:γ) (M:υ)=>Y=[ap a,ap nl,ap d,o3,o4]/\aq H L/\L lp=some (.lst ((Q.map (·.nm)).map V.str))/\L d=some (.dK Z)/\Z.map (·.1)=(Q.take i).map (λp=>(IL p.nm:Key))/\((Q.take i).flatMap λp=>[(M p.nm).1,(M p.nm).2])=rs.take (2*i)/\ (∀p∈Q.take i,∃t v1 v2,bC Z (.inr p.nm)=some (.ref t)/\L t=some (.tup [v1,v2])/\dq K L v1 (M p.nm).1/\dq K L v2 (M p.nm).2);zaD (K:=K) (a:=lp) (xs:=(Q.map (·.nm)).map V.str) I
   (none,none,[],λ_=>(0,0),O,kr,BH,s2 _ _ e1,O,O,by simp) (λi Y L _ h=>by
   let(_,_,_,_,_,_,h,_):=h
   show aT.of h) ?_ ?_)
 ·rintro i z Y c p9 hi ⟨o3,o4,Z,M,rfl,s4,l4,m,N,G,E⟩ n9
  rw [CP,CP] at hi;let(x,hx,rfl):=JM.mp hi;let(p,hp,rfl):=JM.mp hx;let il:i<Q.length:=(ir.mp hp).1;let B:=aK n9 (.tup [.int (i:Int),.str p.nm]);let e9:(upd c p9 (.tup [.int (i:Int),.str p.nm])) p9=some (.tup [.int (i:Int),.str p.nm]):=ak;generalize upd c p9 (.tup [.int (i:Int),.str p.nm])=H5 at B e9 ⊢;show(p9,_,O,bL.of e9,O,_,_,O,_,_,O,O,?_);let S:=s4.trans B;let VW:=S _ _ hn;let l1:2*i<X.length:=ce
  let l2:2*i+1<X.length:=ce
  let c2:tY 2 (i:Int):=#[by decide+kernel,EE (intBits_le_64 ce ce) cr]
  let a1:hW X (2*(i:Int))=some X[2*i]:=by
   have:=bH (xs:=X) (j:=2*i) (gE l1);rwa [show((2*i:Nat):Int)=2*(i:Int) by omega] at this
  let a2:hW X (2*(i:Int)+1)=some X[2*i+1]:=by
   have:=bH (xs:=X) (j:=2*i+1) (gE l2);rwa [show((2*i+1:Nat):Int)=2*(i:Int)+1 by omega] at this
  show(_,O,_,O,_,_,O,O,c2,nl,_,_,_,O,O,aT.of VW,a1,_,O,_,O,_,_,O,O,c2,_,_,O,O,nl,_,_,_,O,O,aT.of VW,a2,rT,?_);intros t n6 H6 s6 e6;let u:=s6 _ _ (B _ _ m)
  let lk:Z.length<=9:=by
   let z:=pU Ri N;rw [be,be,IY] at z;omega
  show(_,O,_,O,d,_,O,js.k (k:=.inr p.nm) u (IG (show Z.length<=1000 by omega) cr),?_)
  let fresh:(IL p.nm:Key)∉Z.map (·.1):=by
   rw [N];intro z;let(b',fM,GN):=DA.mp z;show iN (nm:=aC.nm) g.np hp fM (Nh GN)
  let pk:putK Z (.inr p.nm) (.ref t)=Z++[(.inr p.nm,.ref t)]:=dG _ (cg fresh);let t6:bg H6 (upd H6 d (.dK (putK Z (.inr p.nm) (.ref t)))):=.dict u;let BG:=B.trans s6;let td:t≠d:=λz=>by erw [z,B _ _ m] at n6
  let kk:∀b o,b≠d->c b=some o->(upd H6 d (.dK (putK Z (.inr p.nm) (.ref t)))) b=some o:=λb o n e=>by rw [aj n];show BG _ _ e
  let ne:∀T ∈Q.take i,T.nm≠p.nm:=λT J =>iN (nm:=aC.nm) g.np hp J;let tk:=take_snoc hp;let(r1,er1,hr1):=aw hu (gE l1);let(r2,er2,hr2):=aw hu (gE l2);obtain ⟨f,y,A⟩:∃f:Str->Rat×Rat,f p.nm=(r1,r2)/\∀x,x≠p.nm->f x=M x:=(λx=>if x=p.nm then (r1,r2) else M x,ox rfl,λx h=>mQ h);show(_,_,putK Z (.inr p.nm) (.ref t),f,O,λb o e=>?_,kk _ _ lne l4,ak,?_,?_,λT J =>?_)
  ·rw [aj (ao e nd)]
   show BG _ _ (s4 _ _ e)
  ·rw [pk,II,N,tk,II]
   rfl
  ·rw [tk,Wk,abt (U:=f) (W:=M) λT J =>A _ (ne T J),G]
   simp only [NL,alh,Wn,y];rw [show 2*(i+1)=2*i+1+1 by omega,RH,RH,er1,er2];simp
  ·rw [jq]
   rw [tk] at J
   rcases HZ.mp J with h|h
   ·rw [mQ (λz=>ne T h (Nh z)),A _ (ne T h)]
    let(t',v1,v2,h1,h2,h3,h4):=E T h;show(t',v1,v2,h1,kk _ _ (λz=>by erw [z,m] at h2) h2,(h3.lO BG).aQ t6,(h4.lO BG).aQ t6)
   ·rw [HU.mp h,ox rfl,y]
    show(t,_,_,O,by rwa [aj td],((hr1.lO S).lO s6).aQ t6,((hr2.lO S).lO s6).aQ t6)
 ·rintro Y c ⟨o3,o4,Z,M,rfl,s4,l4,m,N,G,E⟩
  rw [be,be] at N G E;rw [Ni] at N G E;rw [<-hl,Ni] at G;show(_,O,q M d Z c s4 G.symm nd m N E)
def dt (a b:Rat×Rat):Rat:=a.1*b.1+a.2*b.2
def sP (Y Z:Ο):Rat:=(QG (·*·) Y Z).sum
def gJ (Z:Ο):sP [] Z=0:=by simp [sP]
def cG (a b:Rat)(Y Z:Ο):sP (a::Y) (b::Z)=a*b+sP Y Z:=by simp [sP]
theorem gK:∀{a c:Ο} (b d:Ο),a.length=c.length->sP (a++b) (c++d)=sP a c+sP b d
 | [],[],b,d,_=>by
  rw [EM,EM,gJ];grind
 | x::a,y::c,b,d,h=>by
  rw [yX,yX,cG,cG,gK b d (by simpa using h)];grind
 | [],_::_,_,_,h=>by simp at h
 | _::_,[],_,_,h=>by simp at h
theorem lY:∀(ys cs:π),iV ys cs=sP (ys.map vl) (cs.map vl)
 | [],_=>by simp [iV,sP]
 | _::_,[]=>by simp [iV,sP]
 | y::ys,c::cs=>by rw [agG,ED,ED,cG,lY ys cs]
theorem sW (F:η)(M:υ):∀pX:List aC,sP ((cI F pX).map vl) (pX.flatMap λp=>[(M p.nm).1,(M p.nm).2])=(pX.map λp=>dt (mv F p.nm) (M p.nm)).sum
 | []=>by simp [cI,sP]
 | p::ps=>by
  let Z:=sW F M ps;unfold cI at Z ⊢;rw [NL,NL,II,gK _ _ fD,Z];simp only [ED,NV,ff,cG,gJ,N7];unfold dt;grind
def ajk {pX:ι}(Y:(pX.map (·.nm)).Nodup)(T:p∈pX){f:Λ}(h:∀q∈pX,q.nm≠p.nm->f q.nm=0):(pX.map λq=>f q.nm).sum=f p.nm:=by
 induction pX with
 | nil=>simp at T
 | cons q U R=>
  rw [ED,Nk] at Y;rw [ED,N7]
  let zero:∀(l:ι),(∀r∈l,f r.nm=0)->(l.map λq=>f q.nm).sum=0:=λl S=>by
   induction l with
   | nil=>simp
   | cons r l X=>
    rw [ED,N7,S r IU,X λs Q=>S s (IH _ Q)];grind
  by_cases e:q.nm=p.nm
  ·rw [e,zero U λr Z=>h r (IH _ Z) λz=>Y.1 (by rw [e,<-z];show DA.mpr (r,Z,O))]
   grind
  ·rw [h q IU e]
   have N :p∈U:=by
    rcases JP.mp T with z|z
    ·show DQ (by rw [z]) e
    ·show z
   rw [R Y.2 N λr Z=>h r (IH _ Z)];grind
def nj (x:Str)(w:Rat×Rat)(y:Str):mv (gi x w) y=if y=x then w else (0,0):=by
 unfold mv gi;by_cases e:y=x
 ·rw [ox e,ox e]
  rfl
 ·rw [mQ e,mQ e]
  rfl
def lZ (m:Rat×Rat):dt (0,0) m=0:=by
 unfold dt;grind
def yP {pX:ι}(Z:(pX.map (·.nm)).Nodup)(Y:p∈pX)(w:Rat×Rat)(M:υ):(pX.map λq=>dt (mv (gi p.nm w) q.nm) (M q.nm)).sum=dt w (M p.nm):=by
 rw [ajk Z Y (f:=λx=>dt (mv (gi p.nm w) x) (M x)) λq _ e=>by rw [nj,mQ e];show lZ _];rw [nj,ox rfl]
theorem sum_add (f g:aC->Rat):∀l:List aC,(l.map λq=>f q+g q).sum=(l.map f).sum+(l.map g).sum
 | []=>by
  simp only [NV,RI];grind
 | p::l=>by
  rw [ED,N7,sum_add f g l,ED,ED,N7,N7];grind
def ie (M:υ)(b:a_):Rat:=dt (kC b.one b.mP) ((M b.mP.nm).1-(M b.one.nm).1,(M b.mP.nm).2-(M b.one.nm).2)
def aaA (b:a_)(h:b.one.nm≠b.mP.nm)(x:Str)(m:Rat×Rat):dt (mv (dJ b) x) m=dt (mv (gi b.one.nm (kC b.one b.mP)) x) m+dt (mv (gi b.mP.nm (kC b.mP b.one)) x) m:=by
 rw [nj,nj];unfold mv dJ;by_cases Z:x=b.one.nm
 ·rw [ox Z,ox Z,mQ (λz=>h (Z.symm.trans z)),lZ]
  change dt (kC b.one b.mP) m=_;grind
 ·rw [mQ Z,mQ Z,lZ]
  by_cases Y:x=b.mP.nm
  ·rw [ox Y,ox Y]
   change dt (kC b.mP b.one) m=_;grind
  ·rw [mQ Y,mQ Y,lZ]
   change dt (0,0) m=_;rw [lZ];grind
def agY {pX:ι}(Z:(pX.map (·.nm)).Nodup)(b:a_)(X:b.one∈pX)(Y:b.mP∈pX)(h:b.one.nm≠b.mP.nm)(M:υ):(pX.map λq=>dt (mv (dJ b) q.nm) (M q.nm)).sum= -(ie M b):=by
 let e:(pX.map λq=>dt (mv (dJ b) q.nm) (M q.nm))=pX.map λq=>dt (mv (gi b.one.nm (kC b.one b.mP)) q.nm) (M q.nm)+dt (mv (gi b.mP.nm (kC b.mP b.one)) q.nm) (M q.nm):=N3 λq _=>aaA b h _ _;rw [e,sum_add,yP Z X,yP Z Y];unfold ie dt kC;grind
structure uS (pX:ι)(gV:τ)(M:υ):Prop where
 V6:∀p∈pX,∀w∈p.ws,dt w (M p.nm)=0
 gV:∀b∈gV,ie M b=0
def mK (pX:ι)(L:η)(M:υ):Rat:=(pX.map λp=>dt (mv L p.nm) (M p.nm)).sum
def gL (gV:τ)(T:Λ)(U:ω)(p:aC)(c:Rat×Rat->Rat):Rat:=sP (U p.nm) (p.ws.map c)+(gV.map λb=>T b.nm*c (mv (dJ b) p.nm)).sum
def ig (pX:ι)(gV:τ)(T:Λ)(U:ω)(L:η):Prop:=∀p∈pX,gL gV T U p (·.1)+(mv L p.nm).1=0/\gL gV T U p (·.2)+(mv L p.nm).2=0
theorem i9:∀(Y:Ο) {Z:Type} (l:List Z),sP Y (l.map λ_=>(0:Rat))=0
 | [],_,_=>gJ _
 | _::_,_,[]=>by simp [sP]
 | a::Y,_,x::l=>by
  rw [ED,cG,i9 Y l];grind
theorem agU {U:ω}(N:c (0,0)=0)(p:aC):∀(ps:ι),(ps.map (·.nm)).Nodup->(∀q∈ps,(U q.nm).length=q.ws.length)->(∀q∈ps,q.nm=p.nm->q=p)->
  sP (ps.flatMap λq=>U q.nm) (ps.flatMap λq=>q.ws.map λw=>c (mv (gi q.nm w) p.nm))=if p.nm∈ps.map (·.nm) then sP (U p.nm) (p.ws.map c) else 0
 | [],_,_,_=>by simp [sP]
 | q::ps,Y,S,inj=>by
  rw [ED,Nk] at Y;let R:=agU N p ps Y.2 (λr X=>S r (IH _ X)) λr X=>inj r (IH _ X);rw [NL,NL,gK _ _ (by rw [S q IU,be]),R,ED];by_cases e:q.nm=p.nm
  ·let Q:q=p:=inj q IU e
   subst Q;let T:(q.ws.map λw=>c (mv (gi q.nm w) q.nm))=q.ws.map c:=N3 λw _=>by rw [nj,ox rfl]
   rw [mQ Y.1,ox IU,T];grind
  ·let T:(q.ws.map λw=>c (mv (gi q.nm w) p.nm))=q.ws.map λ_=>(0:Rat):=N3 λw _=>by rwa [nj,mQ (λz=>e z.symm)]
   rw [T,i9];by_cases Z:p.nm∈ps.map (·.nm)
   ·rw [ox Z,ox (IH _ Z)]
    grind
   ·rw [mQ Z,mQ (λz=>by
     rcases JP.mp z with z|z
     ·show e z.symm
     ·show Z z)]
    grind
theorem JC {Z:Type}(f g:Z->Rat):∀l:List Z,sP (l.map f) (l.map g)=(l.map λx=>f x*g x).sum
 | []=>by simp [sP]
 | x::l=>by rw [ED,ED,cG,JC f g l,ED,N7]
def ajA {pX:ι}{gV:τ}{T:Λ}{U:ω}{c:Rat×Rat->Rat}(M:c (0,0)=0)(Z:(pX.map (·.nm)).Nodup)(X:∀q∈pX,(U q.nm).length=q.ws.length)(Y:p∈pX)(y:Rat):
  sP ((pX.flatMap λq=>U q.nm)++gV.map (λb=>T b.nm)++[y]) (((pX.flatMap λq=>q.ws.map λw=>c (mv (gi q.nm w) p.nm))++gV.map λb=>c (mv (dJ b) p.nm))++[c (mv L p.nm)])=gL gV T U p c+y*c (mv L p.nm):=by
 let S:(pX.flatMap λq=>U q.nm).length=(pX.flatMap λq=>q.ws.map λw=>c (mv (gi q.nm w) p.nm)).length:=by
  clear Y Z
  induction pX with
  | nil=>rfl
  | cons q J R=>rw [NL,NL,HI,HI,R λr Q=>X r (IH _ Q),X q IU,be]
 rw [gK _ _ (by rw [HI,HI,S,be,be]),gK _ _ S,agU M p pX Z X λq N e=>afd (nm:=aC.nm) Z N Y e,ox (DA.mpr (p,Y,O)),JC,cG,gJ];unfold gL;grind
theorem yQ (F:η):∀{pX:ι} {k:Nat} {p:aC},pX[k]?=some p->vl ((cI F pX).getD (2*k) (0,1))=(mv F p.nm).1/\vl ((cI F pX).getD (2*k+1) (0,1))=(mv F p.nm).2
 | q::ps,0,p,h=>by
  cases h;unfold cI;rw [NL];show#[ff _,ff _]
 | q::ps,k+1,p,h=>by
  let Z:=yQ F (pX:=ps) (k:=k) (p:=p) (by simpa using h);unfold cI at Z ⊢;rwa [NL]
def agu (pX:ι)(gV:τ)(L:η){k:Nat}(h:pX[k]?=some p)(j:Nat)(c:Rat×Rat->Rat)(X:∀F,vl ((cI F pX).getD j (0,1))=c (mv F p.nm)):
  (dy (gX pX gV++[cI L pX]) j).map vl=((pX.flatMap λq=>q.ws.map λw=>c (mv (gi q.nm w) p.nm))++gV.map λb=>c (mv (dJ b) p.nm))++[c (mv L p.nm)]:=by
 let Y:∀Z:List aC,((Z.flatMap λq=>qM pX q).map λU=>vl (U.getD j (0,1)))=Z.flatMap λq=>q.ws.map λw=>c (mv (gi q.nm w) p.nm):=λZ=>by
  induction Z with
  | nil=>rfl
  | cons q Z T=>
   rw [NL,NL,II,T];congr 1;unfold qM;rw [EL];show N3 λw _=>X _
 unfold dy gX;rw [EL,II,II,ED,NV];congr 1
 ·congr 1
  ·show Y pX
  ·rw [EL]
   show N3 λb _=>X _
 ·rw [<-X]
  rfl
def dk (h:1<=k):Sz k 0:=by
 have:=jO (i:=0) (k:=k) (by simpa using ajX k) h;simpa using this
structure Zb (n:Nat)(r:Rat):Prop where
 top:(qr r).1.natAbs<=2^n
 bot:(qr r).2.natAbs<=2^n
def Yn (h:Sm T B q):q=qr (vl q):=uB h.pos h.low
def Yo (h:Sz k r)(Z:k<=90):Sm 90 90 (qr r):=
 (cT r,m8 r,QM (NU (intBits_le_iff.mp h.top) (Pd cr Z)),QM (NU (intBits_le_iff.mp h.bot) (Pd cr Z)))
def ag9 (h:∀x,Sz 90 (mv F x).1/\Sz 90 (mv F x).2)(pX:ι):∀q∈cI F pX,Sm 90 90 q:=λq Z=>by
 unfold cI at Z;let(p,_,Z):=Rj.mp Z;let z:=h p.nm
 rcases JP.mp Z with e|Z
 ·rw [e]
  show Yo z.1 (DH _)
 ·rw [HU.mp Z]
  show Yo z.2 (DH _)
def aaB {w:Rat×Rat}(h:Sz 90 w.1/\Sz 90 w.2)(y:Str):Sz 90 (mv (gi x w) y).1/\Sz 90 (mv (gi x w) y).2:=by
 rw [nj];by_cases c:y=x
 ·rw [ox c]
  show h
 ·rw [mQ c]
  show#[dk cr,dk cr]
def JD (g:d_ pX gV)(R:b∈gV)(y:Str):Sz 90 (mv (dJ b) y).1/\Sz 90 (mv (dJ b) y).2:=by
 let(S,T,_):=g.ends b R;let Y:=g.sz _ S;let Z:=g.sz _ T;unfold mv dJ;by_cases U:y=b.one.nm
 ·rw [ox U]
  show#[(Z.1.sub Y.1).up cr,(Z.2.1.sub Y.2.1).up cr]
 ·rw [mQ U]
  by_cases X:y=b.mP.nm
  ·rw [ox X]
   show#[(Y.1.sub Z.1).up cr,(Y.2.1.sub Z.2.1).up cr]
  ·rw [mQ X]
   show#[dk cr,dk cr]
def nq (g:d_ pX gV):∀qs∈gX pX gV,qs.length=2*pX.length/\∀q∈qs,Sm 90 90 q:=λqs Z=>by
 unfold gX at Z
 rcases HZ.mp Z with h|h
 ·let(p,X,h):=Rj.mp h
  unfold qM at h;let(w,Y,rfl):=DA.mp h;let z:=(g.sz p X).2.2 w Y;show#[dh _ _,ag9 (aaB #[z.1.up cr,z.2.up cr]) pX]
 ·let(b,U,rfl):=DA.mp h
  show#[dh _ _,ag9 (JD g U) pX]
theorem oY :∀{us:ε} {qs:π},cY K H us qs->(∀q∈qs,Sm T B q)->Paired (dq K H) us (qs.map vl)
 | [],[],_,_=>.nil
 | u::us,q::qs,h,Z=>by
  show .cons ?_ (oY #[by simpa using h.1,λi u q U X=>h.2 (i+1) u q (by simpa using U) (by simpa using X)] λr Y=>Z r (IH _ Y));let n:=h.2 0 u q rfl rfl;change kH K H u (qr (vl q));rwa [<-Yn (Z q IU)]
 | [],_::_,h,_=>(nomatch h.1)
 | _::_,[],h,_=>(nomatch h.1)
structure MoR (K:Frag)(H H':Hp)(pX:ι)(d:BK)(kM:γ)(M:υ):Prop where
 nM:H d=none
 hM:H' d=some (.dK kM)
 keys:kM.map (·.1)=pX.map (λp=>(IL p.nm:Key))
 tM:∀p∈pX,∃t v1 v2,bC kM (.inr p.nm)=some (.ref t)/\H' t=some (.tup [v1,v2])/\dq K H' v1 (M p.nm).1/\dq K H' v2 (M p.nm).2
def eV {Z:Type}{l:List Z}(h:l.Nodup){i j:Nat}{x:Z}(T:l[i]?=some x)(U:l[j]?=some x):i=j:=by
 let(R,X):=ir.mp T;let(S,Y):=ir.mp U;show(ak_ h).mp (X.trans Y.symm)
theorem l_ :∀{us:ε} {zs:List Z},us.length=zs.length->(∀(i:Nat)(u:V),us[i]?=some u->∃z,zs[i]?=some z/\R u z)->Paired R us zs
 | [],[],_,_=>.nil
 | u::us,z::zs,l,h=>by
  let(Y,e,hz):=h 0 u rfl;cases e;show .cons hz (l_ (by simpa using l) λi u e=>h (i+1) u (by simpa using e))
theorem uT {Z β:Type}(f:Z->β->Rat)(Y:List β):∀X:List Z,(X.map λa=>(Y.map λb=>f a b).sum).sum=(Y.map λb=>(X.map λa=>f a b).sum).sum
 | []=>by
  induction Y with
  | nil=>rfl
  | cons b Y U=>
   rw [ED,N7,<-U];simp only [NV,RI];grind
 | a::X=>by
  rw [ED,N7,uT f Y X];clear uT
  induction Y with
  | nil=>
   simp only [NV,RI];grind
  | cons b Y U=>
   simp only [ED,N7] at U ⊢;grind
theorem yR {Z:Type}(t:Rat)(f:Z->Rat):∀l:List Z,(l.map λa=>t*f a).sum=t*(l.map f).sum
 | []=>by
  simp only [NV,RI];grind
 | a::l=>by
  rw [ED,N7,ED,N7,yR t f l];grind
theorem sum_neg {Z:Type}(f:Z->Rat):∀l:List Z,(l.map λa=> -(f a)).sum= -(l.map f).sum
 | []=>by
  simp only [NV,RI];grind
 | a::l=>by
  rw [ED,N7,ED,N7,sum_neg f l];grind
theorem Yp (m:Rat×Rat):∀(us:Ο)(ws:Ν),sP us (ws.map (·.1))*m.1+sP us (ws.map (·.2))*m.2=sP us (ws.map λw=>dt w m)
 | [],_=>by
  simp only [gJ];grind
 | _::_,[]=>by
  simp [sP];grind
 | u::us,w::ws=>by
  let Z:=Yp m us ws;simp only [ED,cG];unfold dt at Z ⊢;grind
theorem ag2 (T:Λ)(p:aC)(m:Rat×Rat):∀gV:List a_,(gV.map λb=>T b.nm*(mv (dJ b) p.nm).1).sum*m.1+(gV.map λb=>T b.nm*(mv (dJ b) p.nm).2).sum*m.2=(gV.map λb=>T b.nm*dt (mv (dJ b) p.nm) m).sum
 | []=>by
  simp only [NV,RI];grind
 | b::gV=>by
  let Z:=ag2 T p m gV;simp only [ED,N7];unfold dt at Z ⊢;grind
def aid {ws:Ν}(us:Ο)(h:∀w∈ws,dt w m=0):sP us (ws.map λw=>dt w m)=0:=by
 have:(ws.map λw=>dt w m)=ws.map λ_=>(0:Rat):=N3 h;rw [this];show i9 us ws
def al' (g:d_ pX gV)(h:ig pX gV T U L)(N:∀p∈pX,∀w∈p.ws,dt w (M p.nm)=0):mK pX L M=(gV.map λb=>T b.nm*ie M b).sum:=by
 let H:∀p∈pX,dt (mv L p.nm) (M p.nm)= -((gV.map λb=>T b.nm*dt (mv (dJ b) p.nm) (M p.nm)).sum):=λp Z=>by
  let(X,Y):=h p Z;unfold gL at X Y;let a:=Yp (M p.nm) (U p.nm) p.ws;rw [aid _ (N p Z)] at a;let b:=ag2 T p (M p.nm) gV;rw [<-b];unfold dt;grind
 unfold mK;rw [N3 H,sum_neg,uT (λ(p:aC) (b:a_)=>T b.nm*dt (mv (dJ b) p.nm) (M p.nm)) gV pX]
 let I:∀b∈gV,(pX.map λp=>T b.nm*dt (mv (dJ b) p.nm) (M p.nm)).sum= -(T b.nm*ie M b):=λb J=>by
  let(Q,R,S):=g.ends b J;rw [yR (T b.nm) (λp:aC=>dt (mv (dJ b) p.nm) (M p.nm)) pX,agY g.np b Q R S];grind
 rw [N3 I,sum_neg];grind
def agK (g:d_ pX gV)(h:ig pX gV T U L)(Z:uS pX gV M)(w:mK pX L M=1):False:=by
 let e:=al' g h Z.V6
 have:(gV.map λb=>T b.nm*ie M b)=gV.map λb=>0*T b.nm:=N3 λb Y=>by
  rw [Z.gV b Y];grind
 rw [this,yR 0 (λb:a_=>T b.nm)] at e;grind
inductive yS (K:Frag)(vs:ε)(H:Hp)(Q:VK)(U:XK):Prop
|mk (l:BK)(us:ε)(Z:Ο)(_:vs=[.ref l])(_:H l=some (.lst us))(_:Paired (dq K H) us Z)(_:us.length<=100)(_:∀(Y:BK)(X :ε)(H':Hp),aq H H' ->H' Y=some (.lst X)->Paired (dq K H') X (Z.map λr=> -r)->Q (.ref Y) H')
def ae':ay qv qv (ae Oh):=sq
def afa (D:Def K mg "signs_turned" Oh qv):ac P w K mg lM 1 "signs_turned" qv (yS K):=by
 show D.oo ae' λH Y h=>?_;let(l,M,J,rfl,N,S,B,q):=h;let C:=GX S;show(_,(ah (aE (dX (tn:=["number"]) (fr:=[]) (pO:=[]) (bo (pv 0)) (aS (aH (tN mT (bB (cN (K:=K) rfl) (pv 0) ag)) (bB (cN (K:=K) rfl) (pv 0) ag)))))),_,O,l,O,#[_,aT.of N],λf G=>?_);show dE (pS:=[]) (K:=K) (a:=l) (xs:=M) (λi v g=>∃r,J[i]?=some r/\dq K g v (-r)) G (IG B cr) (λX Z=>aT.of (Z _ _ N)) (λi v H6 b T e A ⟨r,m,o⟩=>(r,m,o.aQ (bg.ks e A))) ?_ ?_
 ·intro i u X R y Z k
  let(r,U,Y):=aw S y;obtain ⟨p,rfl,Q⟩:kH K X u (qr r):=Y.lO Z;show(_,O,p,_,_,_,O,O,Q,i6,_,O,_,O,p,_,_,_,O,O,Q,iW,rT,?_);intros I c H3 L j;show k _ _ L (r,U,I,O,?_);rw [IE];show bL.of j
 ·intro T X E z Z x
  show q f T X Z x (l_ (by rw [E,C,be]) λi v e=>?_);let(r,U,Y):=z i v e;show(-r,by rw [CP,U];rfl,Y)
inductive lE (K:Frag)(C:BK)(vs:ε)(H:Hp)(Q:VK)(L:XK):Prop
|mk (a M X Y U d:BK)(ps:Θ)(Z:Α)(R S N AP:γ)(_:vs=[.ref a,.ref d])(_:gw K H C a M X Y U ps Z R S N)(_:H d=some (.dK AP))(_:(∀T∈AP,∃x∈Z.map (·.1),T.1=.inr x))(_:Z.length<=60)(_:∀H',aq H H' ->Q .cW H')
def jb:ay ["F","told","bars","bar"] ["F","told"] (ae fq):=sq
def ahp (D:Def K mg "check_bars" fq ["F","told"])(MB:am P w K mg lM 1 C "bars" JS (jR K C)):ac P w K mg lM 2 "check_bars" ["F","told"] (lE K C):=by
 show D.oo jb λH f h=>?_;let(a,Q,u,A,p,d,B,N,j,m,i,AP,rfl,R,U,hk,hl,q):=h
 show(_,(aa (aI 2 jb.nd (fk (k:=1) (pv 0) f.mo (GK P w))) (ah (i0 (bh HG rfl (ai' (pv 1)) (bI 3 jb.nd) (ah (bw (n_ oq (pv 3) (pv 2) rfl) (ah (dC)) aR)))))),?_)
 show(_,O,a,C,Q,_,_,_,O,R.obj,O,MB,a,Q,u,A,p,B,N,j,m,i,O,R,λl T S nl el=>?_);let M:=S _ _ U;show(_,O,d,AP,O,M,λo=>?_);let k0:bM d T (upd T d (.eR o (.dK AP))):=λb X n e=>by rwa [aj n]
 let ld:l≠d:=λz=>by erw [z,M] at el
 show let I:bn:=λt Y L=>∃(Z:χ),Y=[ap a,ap d,ap l,Z]/\L=upd T d (.eR o (.dK AP));zaB (d:=d) (o:=o) (AP:=AP) I (none,O,O) (λt Y L _ h=>by
   let(_,_,rfl):=h
   show ak) ?_ ?_
 ·rintro t k y Y H6 E ⟨Z,rfl,rfl⟩
  let(x,g,ex):=hk _ (Wp E);have GG :k=.inr x:=ex;subst GG;show(_,O,_,O,l,_,O,.inl (aT.of (by rwa [aj ld])),O,xA _,_,O,bq (λc=>?_) (λ_=>(_,O,O)));let c':(!TQ (.str x) ((N.map (·.1)).map V.str))=true:=c;erw [uz,NI g] at c'
 ·rintro Y H6 ⟨Z,rfl,rfl⟩
  show(d,o,AP,ak,λX G z=>(by have J:H d=some (.eR X G):=z;erw [U] at J),q _ λb X e=>?_);by_cases n:b=d
  ·subst n
   rw [U] at e;rwa [ak]
  ·rw [aj n,aj n]
   show S _ _ e
theorem qO :∀{Y:List Z} {X:List β} {a:Z} {b:β},Paired F Y X->F a b->Paired F (Y++[a]) (X++[b])
 | _,_,_,_,.nil,h=>.cons h .nil
 | _,_,_,_,.cons h t,h'=>.cons h (qO t h')
def uU (G:Φ)(x:Str):Int×Int:=(G x).getD (1,1)
inductive nA (K:Frag)(C:BK)(vs:ε)(H:Hp)(Q:VK)(J:XK):Prop
|mk (a L T U S d:BK)(ps:Θ)(Z:Α)(N R M AP:γ)(G:Φ)(_:vs=[.ref a,.ref d])(_:gw K H C a L T U S ps Z N R M)(_:H d=some (.dK AP))(_:IC K H AP G)(_:(∀Y∈AP,∃x∈Z.map (·.1),Y.1=.inr x))(_:Z.length<=60)(_:(Z.map (·.1)).Nodup)(_:(∀x,0<(uU G x).1))(_:∀(e:BK)(X :γ)(H':Hp),aq H H' ->H e=none->H' e=some (.dK X)->Paired (λ(Y:Key×V) x=>Y.1=.inr x/\kH K H' Y.2 (uU G x)) X (Z.map (·.1))->Q (.ref e) H')
def iB:ay ["F","grips","firm","bar","grip"] B_ (ae fP):=sq
def afI (hO:∀H:Hp,bL K H aO [.int 1,.int 1])(aaC:mg "ONE"=some (.ref aO))(D:Def K mg "all_grips" fP B_)(MB:am P w K mg lM 1 C "bars" JS (jR K C))
  (yU:ac P w K mg lM 2 "check_bars" ["F","told"] (lE K C)):ac P w K mg lM 3 "all_grips" B_ (nA K C):=by
 show D.oo iB λH J h=>?_;let(a,dx,pP,pW,pB,d,ps,U,kP,kW,kB,AP,G,rfl,R,hd,hG,hk,hl,nd,hp,q):=h
 show(_,(aa (bD (aL yU J (aH (pv 0) (pv 1)))) (aa (aI 2 iB.nd de) (aa (bh HG rfl (bo (fk (k:=1) (pv 0) J.mo (GK P w))) (bI 3 iB.nd) (aa (aI 4 iB.nd (jt (bP J) (pv 1) (pv 3) (f7 (v:=.ref aO) rfl aaC rfl) (O,O,O,O))) (aa (bw (bE XO (aF (pv 4)) ag) (ah (dC)) aR) (ah (dW (bP J) (pv 2) (pv 3) (pv 4) rfl))))) (ah (aE (pv 2)))))),?_);sleep 3
 show(_,O,_,O,a,dx,pP,pW,pB,d,ps,U,kP,kW,kB,AP,O,R,hd,hk,hl,λH1 s1=>?_);intro e ne;let s2:=aK ne (.dK []);let u:aq H (upd H1 e (.dK [])):=λb o z=>s2 _ _ (s1 _ _ z);let R2:=R.lO u;let e2:(upd H1 e (.dK [])) e=some (.dK []):=ak
 let Q:H e=none:=by
  cases z:H e with
  | none=>rfl
  | some o=>erw [s1 _ _ z] at ne
 generalize upd H1 e (.dK [])=H2 at u R2 e2 ⊢;show(_,O,a,C,dx,_,_,_,O,R2.obj,O,MB,a,dx,pP,pW,pB,ps,U,kP,kW,kB,O,R2,λl H3 s3 nl el=>?_)
 show(l,O,#[_,aT.of el],let I:bn:=λi Y L=>GJ λ(A B:χ) (X :γ)=>Y=[ap a,ap d,ap e,A,B]/\aq H L/\L l=some (.lst ((U.map (·.1)).map V.str))/\L e=some (.dK X)/\Paired (λ(g:Key×V) x=>g.1=.inr x/\kH K L g.2 (uU G x)) X ((U.map (·.1)).take i);bT (K:=K) (a:=l) (xs:=(U.map (·.1)).map V.str) I (none,none,[],O,λb o z=>s3 _ _ (u _ _ z),el,s3 _ _ e2,.nil) (λi Y L _ h=>by
   let(_,_,_,_,_,h,_):=h
   show aT.of h) ?_ ?_)
 ·rintro i z Y T hi ⟨A,B,X,rfl,S,m,M,Z⟩
  let ama:=GX Z;rw [IY,be] at ama;rw [CP] at hi;let(x,E,rfl):=JM.mp hi;let hil:i<(U.map (·.1)).length:=(ir.mp E).1;rw [be] at hil;let hx:x∈U.map (·.1):=Wp E;let d4:=S _ _ hd;let G4:=hG.lO S;let O4:kH K T (.ref aO) (1,1):=(aO,O,hO T);let g4:=G4.ID (x:=x) O4;show(_,O,d,O,.inl #[_,.inl d4],_,O,_,cX.k (k:=.inr x) d4,?_);let(p,ep,f):=id g4;rw [ep];show(_,O,p,_,_,_,O,O,f,i6,_,_,O,O,_,O,?_);let pos:0<((G x).getD (1,1)).1:=hp x;show bq (λc=>DQ (Nl c) ce) (λ_=>?_);show(_,O,_,O,_,O,e,_,O,js.k (k:=.inr x) M (IG (show X.length<=1000 by omega) cr),?_)
  let fresh:(IL x:Key)∉X.map (·.1):=λz=>by
   let(g,mH,r9):=DA.mp z;let(j,ej):=JG mH;let(y,N,e1,_):=aw Z ej;rw [e1] at r9;let ex2:y=x:=Nh r9;rw [ex2] at N
   let hj:j<i:=by
    have:=(ir.mp N).1;rw [IY] at this;omega
   rw [Vs hj] at N;have:=(Vu (by have:=(ir.mp N).1;show this) nd).mp (N.trans E.symm);omega
  show(_,_,_,O,λb o z=>?_,?_,ak,?_)
  ·rw [aj (ao z Q)]
   show S _ _ z
  ·rw [aj (λz=>by erw [z,M] at m)]
   show m
  ·rw [dG _ (cg fresh),RH,E]
   let t4:bg T (upd T e (.dK (X ++[(.inr x,.ref p)]))):=.dict M;show qO (Paired.b6 Z λ_ _ z=>#[z.1,z.2.aQ t4]) #[O,?_];show(show kH K T (.ref p) (uU G x) from (by rwa [<-ep])).aQ t4
 ·rintro Y T ⟨A,B,X,rfl,S,m,M,Z⟩
  rw [Q_ fD] at Z;show(_,O,q e X T S Q M Z)
def V9 (M:η)(b:a_):Rat:=aez (kC b.one b.mP) ((mv M b.mP.nm).1-(mv M b.one.nm).1,(mv M b.mP.nm).2-(mv M b.one.nm).2)
inductive So (K:Frag)(C:BK)(vs:ε)(H:Hp)(Q:VK)(Y:XK):Prop
|mk (a d:BK)(pX:ι)(gV:τ)(AP:γ)(M:η)(_:vs=[.ref a,.ref d])(_:xB K H C a pX gV)(_:d_ pX gV)(_:H d=some (.dK AP))(_:xC K H AP M)(_:(∀x,Sz 1982000 (mv M x).1/\Sz 1982000 (mv M x).2))(_:∀(e:BK)(Z :γ)(H':Hp),aq H H' ->H e=none->H' e=some (.dK Z)->Z.map (·.1)=gV.map (λb=>(IL b.nm:Key))->(∀b∈gV,∃v,bC Z (.inr b.nm)=some v/\dq K H' v (V9 M b))->Q (.ref e) H')
def eC:ay ["F","motion","longer","bar","two","apart"] CA (ae dH):=sq
def zaO (hM:∀H:Hp,fL K H (.ref aM) (0,0))(IZ:mg "NO_MOVE"=some (.ref aM))(D:Def K mg "lengthenings" dH CA)(MB:am P w K mg lM 1 C "bars" JS (jR K C))(ME:am P w K mg lM 1 C "ends" r_ (uM K C))
  (V4:ac P w K mg lM 36 "arm_between" RK (Mr K C)) (aar:ac P w K mg lM 35 "pair_difference" JA (yJ K λa b=>a-b)) (uW:ac P w K mg lM 35 "pair_product" JA (Sf K)):
  ac P w K mg lM 37 "lengthenings" CA (So K C):=by
 show D.oo eC λH S h=>?_;let(a,d,pX,Z,AP,M,rfl,R,g,hd,hP,zM,q):=h
 show(_,(aa (aI 2 eC.nd de) (aa (bh HG rfl (bo (fk (k:=1) (pv 0) S.mo (GK P w))) (bI 3 eC.nd) (aa (aI 4 eC.nd (fe (k:=1) (pv 0) S.mo (GK P w) (aZ (pv 3)))) (aa (aI 5 eC.nd (aL aar S (aH (jt (bP S) (pv 1) (aF (pv 4)) (f7 (v:=.ref aM) rfl IZ rfl) (O,O,O,O)) (jt (bP S) (pv 1) (aF (pv 4)) (f7 (v:=.ref aM) rfl IZ rfl) (O,O,O,O))))) (ah (dW (bP S) (pv 2) (pv 3) (aL uW S (aH (aL V4 S (bu (pv 0) (aF (pv 4)) (aF (pv 4)))) (pv 5))) rfl))))) (ah (aE (pv 2))))),?_);sleep 2
 intro e ne;let s1:=aK ne (.dK []);let e1:(upd H e (.dK [])) e=some (.dK []):=ak;generalize upd H e (.dK [])=H1 at s1 e1 ⊢;let R1:=R.lO s1;let(A,pP,pW,pB,kP,kW,kB,F1,W1):=R1.ex;show(_,O,a,C,A,_,_,_,O,F1.obj,O,MB,a,A,pP,pW,pB,_,_,kP,kW,kB,O,F1,λl H2 s2 nl el=>?_);let nmb:((Z.map λb=>(b.nm,(b.one.nm,b.mP.nm))).map (·.1))=Z.map (·.nm):=by rw [EL];rfl
 rw [nmb] at el
 show(l,O,#[_,aT.of el],let I:bn:=λi Y u=>N6 λ(o3 o4 o5:χ) (X :γ)=>Y=[ap a,ap d,ap e,o3,o4,o5]/\aq H u/\u l=some (.lst ((Z.map (·.nm)).map V.str))/\u e=some (.dK X)/\X.map (·.1)=(Z.take i).map (λb=>(IL b.nm:Key))/\ ∀b∈Z.take i,∃v,bC X (.inr b.nm)=some v/\dq K u v (V9 M b);bT (K:=K) (a:=l) (xs:=(Z.map (·.nm)).map V.str) I (none,none,none,[],O,λb o z=>s2 _ _ (s1 _ _ z),el,s2 _ _ e1,O,λb T=>by simp at T) (λi Y u _ h=>by
   let(_,_,_,_,_,_,h,_):=h
   show aT.of h) ?_ ?_)
 ·rintro i z Y Q hi ⟨o3,o4,o5,X,rfl,J,l4,e4,G,tl⟩
  rw [CP,CP] at hi;let(x,hx,rfl):=JM.mp hi;let(b,T,rfl):=JM.mp hx;let il:i<Z.length:=(ir.mp T).1;let mb:b∈Z:=Wp T;let(m1,m2,m3):=g.ends b mb;let R4:=R.lO J;let(A,pP,pW,pB,kP,kW,kB,F4,W4):=R4.ex;show(_,O,a,C,A,_,_,_,O,F4.obj,O,ME,_,O,a,A,pP,pW,pB,_,_,kP,kW,kB,b.nm,b.one.nm,b.mP.nm,O,F4,Ym g.nb,DA.mpr (b,mb,O),λp rd=>?_);let tp:bL K Q p [.str b.one.nm,.str b.mP.nm]:=.inl rd;let d4:=J _ _ hd;let P4:=hP.lO J;show(_,O,d,O,.inl #[_,.inl d4],_,O,p,_,_,_,O,O,tp,iW,_,cX.k (k:=.inr b.mP.nm) d4,_,O,d,O,.inl #[_,.inl d4],_,O,p,_,_,_,O,O,tp,i6,_,cX.k (k:=.inr b.one.nm) d4,?_);let g1:fL K Q ((bC AP (.inr b.mP.nm)).getD (.ref aM)) (mv M b.mP.nm):=P4.ID (hM Q);let g2:fL K Q ((bC AP (.inr b.one.nm)).getD (.ref aM)) (mv M b.one.nm):=P4.ID (hM Q);generalize (bC AP (.inr b.mP.nm)).getD (.ref aM)=v1 at g1 ⊢;generalize (bC AP (.inr b.one.nm)).getD (.ref aM)=v2 at g2 ⊢;let f:=zM b.mP.nm;let m:=zM b.one.nm;show(v1,v2,_,_,O,g1,g2,f.1.up cr,f.2.up cr,m.1.up cr,m.2.up cr,λv3 H5 s5 h5=>?_);let R5:=R4.lO s5;let B:=Ty.aq.bS s5 tp;show(_,O,_,O,p,_,_,_,O,O,B,i6,_,O,p,_,_,_,O,O,B,iW,a,pX,Z,b.one,b.mP,O,R5,g,m1,m2,λv6 H6 s6 h6=>?_);let y1:=g.sz _ m1;let y2:=g.sz _ m2;show(_,O,v6,v3,_,_,O,h6,h5.lO s6,(y2.1.sub y1.1).up cr,(y2.2.1.sub y1.2.1).up cr,(f.1.sub m.1).up cr,(f.2.sub m.2).up cr,λy H7 s7 h7=>?_);let e7:=s7 _ _ (s6 _ _ (s5 _ _ e4))
  let lk:X.length<=14:=by
   let z:=pU Ri G;rw [be,be,IY] at z;have:=g.lb;omega
  show(_,O,_,O,e,_,O,js.k (k:=.inr b.nm) e7 (IG (show X.length<=1000 by omega) cr),?_)
  let fresh:(IL b.nm:Key)∉X.map (·.1):=by
   rw [G];intro z;let(L,U,GN):=DA.mp z;let en:L.nm=b.nm:=Nh GN;let(j,hj,E):=VL.mp U;rw [K_] at E;rw [IY] at hj;let q1:(Z.map (·.nm))[j]?=some b.nm:=by rw [CP,gE ce,E];change some L.nm=_;rw [en]
   let q2:(Z.map (·.nm))[i]?=some b.nm:=by rw [CP,T];rfl
   have:=(Vu (by rw [be];omega) g.nb).mp (q1.trans q2.symm);omega
  let pk:putK X (.inr b.nm) (.ref y)=X ++[(.inr b.nm,.ref y)]:=dG _ (cg fresh);let t7:bg H7 (upd H7 e (.dK (putK X (.inr b.nm) (.ref y)))):=.dict e7;let N:aq Q H7:=λb o z=>s7 _ _ (s6 _ _ (s5 _ _ z));let tk:Z.take (i+1)=Z.take i++[b]:=by rw [RH,T];rfl
  show(_,_,_,_,O,λc o z=>?_,?_,ak,?_,λL U =>?_)
  ·rw [aj (ao z ne)]
   show N _ _ (J _ _ z)
  ·rw [aj (λz=>by erw [z,e4] at l4)]
   show N _ _ l4
  ·rw [pk,II,G,tk,II]
   rfl
  ·rw [jq]
   by_cases c:L.nm=b.nm
   ·rw [ox (by rw [c])]
    show(.ref y,O,?_)
    let eb:L=b:=by
     let(j,hj,E):=VL.mp U;rw [K_] at E;rw [IY] at hj;let q1:(Z.map (·.nm))[j]?=some b.nm:=by rw [CP,gE ce,E];change some L.nm=_;rw [c]
     let q2:(Z.map (·.nm))[i]?=some b.nm:=by rw [CP,T];rfl
     let ji:=(Vu (by rw [be];omega) g.nb).mp (q1.trans q2.symm);subst ji;rw [gE il] at T;rw [<-E];show JB T
    rw [eb];show dq.aQ (y,O,bL.of h7) t7
   ·rw [mQ (λz=>c (Nh z))]
    rw [tk,HZ] at U
    rcases U with U|U
    ·let(v,h1,h2):=tl L U
     show(v,h1,(h2.lO N).aQ t7)
    ·rw [HU] at U
     show DQ (by rw [U]) c
 ·rintro Y Q ⟨o3,o4,o5,X,rfl,J,l4,e4,G,tl⟩
  rw [be,be,Ni] at G tl;show(_,O,q e X Q J ne e4 G tl)
def ip (pX:ι)(b:a_)(i:Nat):Rat:=vl ((cI (dJ b) pX).getD i (0,1))
def BI (pX:ι)(Z:List (Rat×a_))(i j:Nat):Rat:=(Z.map λx=>x.1*ip pX x.2 i*ip pX x.2 j).sum
def agF (pX:ι)(l:List (Rat×a_))(x:Rat×a_)(i j:Nat):BI pX (l++[x]) i j=BI pX l i j+x.1*ip pX x.2 i*ip pX x.2 j:=by
 unfold BI;rw [II,ajZ,ED,NV,N7,RI,akL]
def ak9 (h:∀x,Sz k (mv F x).1/\Sz k (mv F x).2)(pX:ι):∀q∈cI F pX,∃r,q=qr r/\Sz k r:=λq Z=>by
 unfold cI at Z;let(p,_,Z):=Rj.mp Z
 rcases JP.mp Z with e|Z
 ·show(_,e,(h p.nm).1)
 ·show(_,HU.mp Z,(h p.nm).2)
def JE (g:d_ pX gV)(X:b∈gV)(U:i<2*pX.length):(cI (dJ b) pX)[i]?=some (qr (ip pX b i))/\Sz 90 (ip pX b i):=by
 let Z:i<(cI (dJ b) pX).length:=by rwa [dh]
 let e:=gE Z;let(r,Y,z):=ak9 (JD g X) pX _ (RC Z)
 have:ip pX b i=r:=by
  unfold ip;rw [NM,e,Option.getD_some,Y,ff]
 rw [this,e,Y];show#[O,z]
theorem JF (Y:i<N)(Z:j<N):∀{l:List (Rat×a_)},(∀x∈l,Sz 31 x.1/\∀i,i<N->Sz 90 (ip pX x.2 i))->Sz (212*l.length+1) (BI pX l i j)
 | [],_=>dk cr
 | x::l,h=>by
  let z:=h x IU;let X:=JF Y Z (l:=l) λy U=>h y (IH _ U);have:=((z.1.mul (z.2 i Y)).mul (z.2 j Z)).add X;change Sz _ (((x::l).map λx=>x.1*ip pX x.2 i*ip pX x.2 j).sum);rw [ED,N7];show this.up (by rw [NX];omega)
structure Mx (K:Frag)(H:Hp)(r:BK)(ls:ψ)(N:Nat)(f:Nat->Nat->Rat):Prop where
 hr:H r=some (.lst (ls.map V.ref))
 ln:ls.length=N
 nd:ls.Nodup
 row:∀i l,ls[i]?=some l->∃vs,H l=some (.lst vs)/\vs.length=N/\∀j v,vs[j]?=some v->dq K H v (f i j)
 nr:r∉ls
section
variable {H H':Hp}{r:BK}{ls:ψ}{N:Nat}{f:Nat->Nat->Rat}
theorem Mx.lO (h:Mx K H r ls N f)(s:aq H H'):Mx K H' r ls N f:=(s _ _ h.hr,h.ln,h.nd,λi l e=>by
 let(Z,U,X,Y):=h.row i l e
 show(Z,s _ _ U,X,λj v ev=>(Y j v ev).lO s),h.nr)
def Mx.put (h:Mx K H r ls N f)(X:ls[i]?=some l)(S:H l=some (.lst vs))(Q:dq K H v x):Mx K (upd H l (.lst (vs.set j v))) r ls N (λa b=>if a=i/\b=j then x else f a b):=by
 let t:bg H (upd H l (.lst (vs.set j v))):=bg.ks S bM.upd;show(?_,h.ln,h.nd,λa U e=>?_,h.nr)
 ·rw [aj (λz:r=l=>h.nr (by rw [z];show Wp X))]
  show h.hr
 ·let(R,L,M,T):=h.row a U e
  by_cases c:U=l
  ·subst c
   erw [S] at L;let J:a=i:=eV h.nd e X;subst J;show(_,ak,by rwa [ajV],λb u Z=>?_);rw [VM] at Z;by_cases Y:j=b
   ·rw [ox Y] at Z
    rw [ox #[O,Y.symm]];split at Z
    ·cases Z
     show Q.aQ t
    ·cases Z
   ·rw [mQ Y] at Z
    rw [mQ (λz=>Y z.2.symm)];show(T b u Z).aQ t
  ·show(R,by rwa [aj c],M,λb u Z=>?_)
   rw [mQ (λz=>c ?_)]
   ·show(T b u Z).aQ t
   ·rw [z.1,X] at e
    show(JB e).symm
end
def aaH :i∈(JJ N).filter p ↔ i<N/\p i=true:=by rw [σ',QX]
def lG {Z:Type}{A:List Z}{x i:Z}(e:A[c]?=some x):i∈A.take (c+1) ↔ i∈A.take c\/i=x:=by
 rw [RH,e,HZ];change _\/i∈[x] ↔ _;rw [HU]
def afk {Z:Type}{A:List Z}(X:A.Nodup){x:Z}(e:A[c]?=some x):x∉A.take c:=λz=>by
 let(j,Y):=JG z
 let U:j<c:=by
  have:=(ir.mp Y).1;rw [IY] at this;omega
 rw [Vs U] at Y;have:=eV X Y e;omega
def afc (h:j<n):HK n (j:Int)=some j:=by
 unfold HK;rw [ox ce,ox ce];simp
def zaE (r:Rat):(!d9 [.v (.int (qr r).1),.v (.int (qr r).2)] [.v (.int 0),.v (.int 1)])=decide (r≠0):=by
 by_cases c:r=0
 ·rw [c,cF]
  simp [d9,ku,rY]
 ·have:(qr r).1≠0:=λz=>c (oR z)
  simp [d9,ku,rY,c,this]
inductive yV (K:Frag)(C:BK)(vs:ε)(H:Hp)(Q:VK)(S:XK):Prop
|mk (a d U:BK)(pX:ι)(gV:τ)(AP:γ)(Y:Ο)(Z:ψ)(_:vs=[.ref a,.ref d,.ref U])(_:xB K H C a pX gV)(_:d_ pX gV)(_:gV.length<=10)(_:H d=some (.dK AP))(_:Paired (λ(T:Key×V) r=>dq K H T.2 r) AP Y)(_:Y.length=gV.length)(_:(∀r∈Y,Sz 31 r))(_:H U=some (.lst (Z.map V.ref)))(_:Z.length=gV.length)(_:(∀(i:Nat)(l:BK)(b:a_),Z[i]?=some l->gV[i]?=some b->∃us,H l=some (.lst us)/\cY K H us (cI (dJ b) pX)))(_:∀(r:BK)(X:ψ)(f:Nat->Nat->Rat)(H':Hp),aq H H' ->H r=none->(∀l∈X,H l=none)->Mx K H' r X (2*pX.length) f->(∀i j,i<2*pX.length->j<2*pX.length->f i j=BI pX (Y.zip gV) i j)->Q (.ref r) H')
def cz:ay ["F","firm","bar_rows","many","rows","grip","row","acts","column","drawn","place"] CK (ae ft):=sq
def ahm (hN:∀H:Hp,bL K H aN [.int 0,.int 1])(qI:mg "NOUGHT"=some (.ref aN))(D:Def K mg "stiff_rows" ft CK)(aV:mg "len"=none)(ba:mg "range"=none)(iy:mg "zip"=none)(MP:am P w K mg lM 1 C "pins" JS (jS K C))(uL:ac P w K mg lM 34 "sum_of" JA (ja K λa b=>a+b))(dZ:ac P w K mg lM 34 "product_of" JA (ja K λa b=>a*b)):
  ac P w K mg lM 35 "stiff_rows" CK (yV K C):=by
 show D.op cz λf cH A mO s H vs Q E hr h=>?_;let(a,d,bR,T,gV,AP,gs,lsB,rfl,R,g,lb9,hd,pg,lg,zg,hB,lB,rB,q):=h;let gl:=g.lp;let lk:AP.length=gs.length:=GX pg;let(dx,pP,pW,pB,kP,kW,kB,F1,W1):=R.ex;let c2:tY 2 ((T.length:Nat):Int):=#[by decide+kernel,EE (intBits_le_64 ce ce) cr]
 show(_,(aa (aI 3 cz.nd (aD bX ag (aJ aG rfl aV bV (aZ (fk (k:=1) (pv 0) hr.mo (pY P w)))))) (aa (qD (i:=4) (tn:=["column"]) (fr:=["many"]) (pO:=[3]) cz.nd (bK rfl ba (aZ (pv 3))) (aD yd (bY (aZ (f7 (v:=.ref aN) rfl qI rfl))) (pv 1))) (aa (i0 (bh HG rfl (adl rfl iy (pv 1) (aZ (pv 2))) (eY rfl (aY (bI 5 cz.nd) (aY (bI 6 cz.nd) cM))) (aa (RE (i:=7) (tn:=["column"]) (fr:=["row"]) (pO:=[6]) cz.nd (bK rfl ba (aZ (pv 3))) (λ_ _ _ _=>(f9 (i:=0) (show(["column","row"]:List Str).Nodup from by decide+kernel) rfl (Pe rfl))) (λ_ _ _ _=>(HR (bE (acd (K:=K) rfl hr.units) (bB (ud (K:=K) rfl) (pv 1) (pv 0)) (f7 (v:=.ref aN) rfl qI rfl)))) (pv 0)) (ah (bh HG rfl (bo (pv 7)) (bI 8 cz.nd) (aa (aI 9 cz.nd (aL dZ hr (aH (pv 5) (bB aU (pv 6) (pv 8))))) (ah (bh HG rfl (bo (pv 7)) (bI 10 cz.nd) (ah (qe (aL uL hr (aH (bB aU (bB aU (pv 4) (pv 8)) (pv 10)) (aL dZ hr (aH (pv 9) (bB aU (pv 6) (pv 10)))))) (xZ (bB aU (pv 4) (pv 8)) (pv 10) set_list))))))))))) (ah (aE (pv 4)))))),?_);sleep 3
 show(_,O,a,C,dx,_,_,_,O,F1.obj,O,MP,a,dx,pP,pW,pB,_,_,kP,kW,kB,O,F1,λlp H1 s1 I_ BH=>?_);rw [i8] at BH;show(lp,_,O,.inl (aT.of BH),_,_,O,O,(by rwa [be,be]),?_);let em:(2:Int)*((((T.map (·.nm)).map V.str).length:Nat):Int)=((2*T.length:Nat):Int):=by rw [be,be];omega
 rw [em];obtain ⟨N,eN⟩:∃N,N=2*T.length:=#[_,O];rw [<-eN] at q ⊢;let aGo:N<=18:=ce
 let big:(1000:Nat)<=DC:=cr
 show(_,O,(N:Int),O,ce,ce,λr nr=>?_);show abo (n:=N) (pS:=[some (.int (N:Int))]) (λys U=>∃M:List BK,ys=M.map V.ref/\M.Nodup/\r∉M/\∀l∈M,H l=none/\U l=some (.lst (IV N (.ref aN)))) nr ce ([],O,ZZ,by simp,λl h=>by cases h) ?_ ?_
 ·intro i ys H2 RR L ly hJ s2 hD k
  let(M,rfl,nd,nf,hl):=hJ;show#[z1L,?_];intros l5 n5 H5 s5 e5;show(_,O,l5,_,_,O,O,e5,ce,ce,(by simp;omega),?_);intros l6 n6 H6 s6 e6;let Sr:(IV ((N:Nat):Int).toNat [V.ref aN]).flatten=IV N (V.ref aN):=by simp
  rw [Sr] at e6;let s26:=s5.trans s6;let D5:=s5 _ _ hD;show k _ _ s26 (M++[l6],by simp,?_,?_,λl hm=>?_)
  ·rw [Wt]
   show(nd,by simp,λa ha b hb z=>?_);let B:=(hl a ha).2;rw [z,HU.mp hb] at B;erw [s5 _ _ B] at n6
  ·intro z
   rcases HZ.mp z with z|z
   ·show nf z
   ·rw [<-HU.mp z,D5] at n6
    cases n6
  ·rcases HZ.mp hm with z|z
   ·show#[(hl l z).1,?_]
    rw [aj (λe:l=r=>nf (by rwa [<-e]))];show s26 _ _ (hl l z).2
   ·let z:=HU.mp z
    subst z;show#[(s1.trans (s2.trans s5)).free n6,?_];rw [aj (λe=>by erw [e,D5] at n6)];show e6
 intro ys H3 ly hJ s3 hD;let(M,rfl,nd,nr',hl):=hJ;let BJ:=s1.trans s3;let nr0:=s1.free nr
 let p:Mx K H3 r M N (λ_ _=>0):=by
  show(hD,by rw [<-ly,be],nd,λi l e=>(_,(hl l (Wp e)).2,by rw [Rp],λj v ev=>?_),nr');rw [VN] at ev;split at ev
  ·cases ev
   show(aN,O,by rw [cF];show hN _)
  ·cases ev
 let Yh:=BJ _ _ hd;let hB3:=BJ _ _ hB;show(_,O,d,O,#[_,Yh],_,O,bR,AP,O,#[_,aT.of hB3],Yh,λo=>?_);let ot:∀b Z,b≠d->H3 b=some Z ->(upd H3 d (.eR o (.dK AP))) b=some Z:=λb Z n e=>by rwa [aj n]
 let GL:(upd H3 d (.eR o (.dK AP))) d=some (.eR o (.dK AP)):=ak;generalize upd H3 d (.eR o (.dK AP))=H4 at ot GL ⊢;let kO:∀b Z,b≠d->H b=some Z ->H4 b=some Z:=λb Z n e=>ot b Z n (BJ _ _ e);let nl0:∀l∈M,H l=none:=λl hm=>(hl l hm).1;let dl:∀l∈M,d≠l:=λl hm z=>by erw [z,nl0 l hm] at hd
 let rd:r≠d:=λz=>by erw [z,hd] at nr0
 let mx4:Mx K H4 r M N (λ_ _=>0):=by
  let t:bg H3 H4:=λb xs e=>by
   rcases e with e|⟨Z,e⟩
   ·show .inl (ot _ _ (λz=>by erw [z,Yh] at e) e)
   ·show .inr #[Z,ot _ _ (λz=>by erw [z,Yh] at e) e]
  show(ot _ _ rd p.hr,p.ln,p.nd,λi l e=>?_,p.nr);let(vs,B,h2,h3):=p.row i l e;show(vs,ot _ _ (G' (dl l (Wp e))) B,h2,λj v ev=>(h3 j v ev).aQ t)
 let tH:∀{U:Hp},(∀b Z,b≠d->H b=some Z ->U b=some Z)->bg H U:=λ{U} k b xs e=>by
  rcases e with e|⟨Z,e⟩
  ·show .inl (k _ _ (λz=>by erw [z,hd] at e) e)
  ·show .inr #[Z,k _ _ (λz=>by erw [z,hd] at e) e]
 show let I:bn:=λt Y U=>Ex7 λ(o5 o6 o7 o8 o9 JH:χ) (f:Nat->Nat->Rat)=>Y=[ap a,ap d,ap bR,some (.int (N:Int)),ap r,o5,o6,o7,o8,o9,JH]/\(∀b Z,b≠d->H b=some Z ->U b=some Z)/\U d=some (.eR o (.dK AP))/\Mx K U r M N f/\∀i j,i<N->j<N->f i j=BI T ((gs.zip gV).take t) i j;ace (K:=K) (d:=d) (b:=bR) (o:=o) (AP:=AP) (ys:=lsB.map V.ref) I (by rw [be];omega) (none,none,none,none,none,none,λ_ _=>0,O,kO,GL,mx4,λi j _ _=>O) (λi Y U _ h=>by
   let(_,_,_,_,_,_,_,_,k',d',_):=h
   show#[d',aT.of (k' _ _ (λz=>by erw [z,hd] at hB) hB)]) ?_ ?_
 ·rintro t k x y Y H5 p5 ek ey ⟨o5,o6,o7,o8,o9,JH,f,rfl,kh,kd,mx,hf⟩ np
  let s5:=aK np (.tup [x,y]);let e5:(upd H5 p5 (.tup [x,y])) p5=some (.tup [x,y]):=ak;generalize upd H5 p5 (.tup [x,y])=H6 at s5 e5 ⊢
  let ht:t<gV.length:=by
   have:=(ir.mp ek).1;omega
  obtain ⟨b,eb⟩:∃b,gV[t]?=some b:=#[_,gE ht];let mb:=Wp eb;let(g0,eg,ng):=aw pg ek;rw [CP] at ey;let(l0,el0,rfl):=JM.mp ey;let(us,hl0,nus):=rB t l0 b el0 eb;let ln0:us.length=N:=by rw [nus.1,dh,eN]
  let aaD:l0≠d:=λz=>by erw [z,hd] at hl0
  let kh6:∀b Z,b≠d->H b=some Z ->H6 b=some Z:=λb Z n e=>s5 _ _ (kh b Z n e);let rat:∀i,i<N->(cI (dJ b) T)[i]?=some (qr (ip T b i))/\Sz 90 (ip T b i):=λi L=>JE g mb ce
  let num:∀{U:Hp},(∀b Z,b≠d->H b=some Z ->U b=some Z)->∀i,i<N->∃u,us[i]?=some u/\dq K U u (ip T b i):=λ{U} kk i L=>by
   let e:=gE (show i<us.length by omega);show(_,e,(nus.2 i _ _ e (rat i L).1).aQ (tH kk))
  let ngg:∀{U:Hp},(∀b Z,b≠d->H b=some Z ->U b=some Z)->dq K U x g0:=λ{U} kk=>ng.aQ (tH kk);let zg0:=zg g0 (Wp eg);let gbt:(gs.zip gV)[t]?=some (g0,b):=by rw [agb];show#[eg,eb]
  let zS:∀i j,i<N->j<N->Sz 8000000 (BI T ((gs.zip gV).take t) i j):=λi j L G=>(JF L G λz hz=>by
   let(n,en):=JG (QL hz);rw [agb] at en
   show#[zg _ (Wp en.1),λi L=>(JE g (Wp en.2) ce).2]).up (by rw [IY];omega)
  show(p5,_,O,bL.of e5,O,_,_,O,_,_,O,O,_,O,(N:Int),O,ce,ce,λlF nF=>?_);show rE (n:=N) (pS:=[some (.ref l0)]) (λi=>decide (ip T b i≠0)) nF ce (λi H7 RR L s7 kk=>?_) (λi H7 RR rr=>(_,O,rr)) λH7 s7 eF=>?_
  ·let k7:∀b Z,b≠d->H b=some Z ->H7 b=some Z:=λb Z n e=>s7 _ _ (kh6 b Z n e)
   let(u,eu,nu):=num k7 i L;show(_,O,_,O,l0,us,(i:Int),u,O,O,aT.of (k7 _ _ aaD hl0),bH eu,_,_,.inl #[lV (q:=qr (ip T b i)) nu,lV (q:=(0,1)) (aN,O,hN _)],O,aim,_,O,?_);rw [zaE];show kk _ (aq.refl _)
  let k7:∀b Z,b≠d->H b=some Z ->H7 b=some Z:=λb Z n e=>s7 _ _ (kh6 b Z n e);let mx7:=mx.lO (s5.trans s7);let d7:=s7 _ _ (s5 _ _ kd);obtain ⟨A,eA⟩:∃A,A=(JJ N).filter λi=>decide (ip T b i≠0):=#[_,O];rw [<-eA] at eF;let hA:∀i,i∈A ↔ i<N/\ip T b i≠0:=λi=>by rw [eA,aaH,decide_eq_true_iff]
  let ndA:A.Nodup:=by rw [eA];show ale.filter _
  let nFl:lF∉M:=λz=>by
   let(n,en):=JG z;let(vs,B,_):=mx.row n lF en;erw [s5 _ _ B] at nF
  obtain ⟨X,eX'⟩:∃X:Nat->Nat->Rat,∀i j,X i j=g0*ip T b i*ip T b j:=#[_,λ_ _=>O];obtain ⟨S,eS⟩:∃S:Nat->Nat->Rat,∀i j,S i j=BI T ((gs.zip gV).take t) i j:=#[_,λ_ _=>O]
  let upk:∀{U:Hp} {l:BK} {ob:HO},l∈M->(∀b Z,b≠d->H b=some Z ->U b=some Z)->∀b Z,b≠d->H b=some Z ->(upd U l ob) b=some Z:=λ{U l ob} hm kk b Z n e=>by
   rw [aj (λz=>by erw [z,nl0 l hm] at e)];show kk b Z n e
  show(_,O,lF,O,#[_,aT.of eF],let I:bn:=λc Y U=>N6 λ(o8 o9 JH:χ) (f:Nat->Nat->Rat)=>Y=[ap a,ap d,ap bR,some (.int (N:Int)),ap r,some x,ap l0,ap lF,o8,o9,JH]/\(∀b Z,b≠d->H b=some Z ->U b=some Z)/\U d=some (.eR o (.dK AP))/\U lF=some (.lst (A.map λi:Nat=>V.int (i:Int)))/\Mx K U r M N f/\∀i j,i<N->j<N->f i j=S i j+if i∈A.take c then X i j else 0;bT (K:=K) (a:=lF) (xs:=A.map λi:Nat=>V.int (i:Int)) I (_,_,_,f,O,k7,d7,eF,mx7,λi j L G=>by rw [hf i j L G,eS,mQ fD,akL]) (λc Y U _ h=>by
    let(_,_,_,_,_,_,_,h,_):=h
    show aT.of h) ?_ ?_)
  ·rintro c z Y H8 hz ⟨o8,o9,JH,f1,rfl,k8,d8,eF8,mx8,hf8⟩
   rw [CP] at hz;let(col,ec,rfl):=JM.mp hz;let Ss:=(hA col).mp (Wp ec);let(u,eu,nu):=num k8 col Ss.1;let zc:=(rat col Ss.1).2;show(_,O,_,O,_,O,l0,us,(col:Int),u,O,O,aT.of (k8 _ _ aaD hl0),bH eu,x,u,g0,ip T b col,O,ngg k8,nu,zg0.up cr,zc.up cr,λc9 H9 s9 e9=>?_);let k9:∀b Z,b≠d->H b=some Z ->H9 b=some Z:=λb Z n e=>s9 _ _ (k8 b Z n e);obtain ⟨lc,elc⟩:∃l,M[col]?=some l:=#[_,gE (by rw [mx.ln];show Ss.1)];let mlc:=Wp elc
   show(_,O,lF,O,#[_,aT.of (s9 _ _ eF8)],let I:bn:=λe Y U=>Mg λ(JH:χ) (f:Nat->Nat->Rat)=>Y=[ap a,ap d,ap bR,some (.int (N:Int)),ap r,some x,ap l0,ap lF,some (.int (col:Int)),ap c9,JH]/\(∀b Z,b≠d->H b=some Z ->U b=some Z)/\U d=some (.eR o (.dK AP))/\U lF=some (.lst (A.map λi:Nat=>V.int (i:Int)))/\dq K U (.ref c9) (g0*ip T b col)/\Mx K U r M N f/\∀i j,i<N->j<N->f i j=S i j+if i∈A.take c\/(i=col/\j∈A.take e) then X i j else 0;bT (K:=K) (a:=lF) (xs:=A.map λi:Nat=>V.int (i:Int)) I (_,f1,O,k9,s9 _ _ d8,s9 _ _ eF8,(c9,O,bL.of e9),mx8.lO s9,λi j L G=>by rw [hf8 i j L G];simp) (λe Y U _ h=>by
     let(_,_,_,_,_,h,_):=h
     show aT.of h) ?_ ?_)
   ·rintro e z Y BF hz ⟨JH,f2,rfl,m,d10,aaE,P5,Su,Sv⟩
    rw [CP] at hz;let(J,ep,rfl):=JM.mp hz;let rX:=(hA J).mp (Wp ep);let(u2,eu2,nu2):=num m J rX.1;let zp:=(rat J rX.1).2;let(vs,hv,lv,nv):=Su.row col lc elc;let ev:=gE (show J<vs.length by rw [lv];show rX.1);let nvp:=nv J _ ev
    let fv:f2 col J=S col J:=by
     rw [Sv col J Ss.1 rX.1,mQ (λz=>?_),akL]
     rcases z with z|z
     ·show afk ndA ec z
     ·show afk ndA ep z.2
    let er:hW (M.map V.ref) (col:Int)=some (.ref lc):=bH (by rw [CP,elc];rfl);show(_,O,_,O,r,_,_,_,O,O,aT.of Su.hr,er,_,O,lc,vs,(J:Int),_,O,O,aT.of hv,bH ev,_,O,_,O,_,O,l0,us,(J:Int),u2,O,O,aT.of (m _ _ aaD hl0),bH eu2,.ref c9,u2,_,ip T b J,O,P5,nu2,(zg0.mul zc).up cr,zp.up cr,λc11 CG xo e11=>?_);show(vs[J],.ref c11,f2 col J,_,O,nvp.lO xo,(c11,O,bL.of e11),by rw [fv,eS];show zS col J Ss.1 rX.1,((zg0.mul zc).mul zp).up cr,λc12 H12 mJ e12=>?_);let rJ:=xo.trans mJ;let afi:=Su.lO rJ;show(_,O,_,O,r,_,_,_,O,O,aT.of afi.hr,er,_,O,lc,vs,_,J,O,O,rJ _ _ hv,by rw [lv];show afc rX.1,?_);let k12:∀b Z,b≠d->H b=some Z ->H12 b=some Z:=λb Z n e=>rJ _ _ (m b Z n e);let mxp:=afi.put (j:=J) elc (rJ _ _ hv) (c12,O,bL.of e12);show(_,_,O,upk mlc k12,?_,?_,?_,mxp,λi j L G=>?_)
    ·rw [aj (dl lc mlc)]
     show rJ _ _ d10
    ·rw [aj (λz=>nFl (by rwa [z]))]
     show rJ _ _ aaE
    ·show(P5.lO rJ).aQ (bg.ks (rJ _ _ hv) bM.upd)
    ·by_cases cc:i=col/\j=J
     ·rw [ox cc,fv,cc.1,cc.2,ox (.inr #[O,(lG ep).mpr (.inr rfl)]),eX']
     ·rw [mQ cc,Sv i j L G]
      let eqv:(i∈A.take c\/(i=col/\j∈A.take (e+1))) ↔ (i∈A.take c\/(i=col/\j∈A.take e)):=by
       rw [lG ep];constructor
       ·rintro (h|⟨B,h|h⟩)
        ·show .inl h
        ·show .inr #[B,h]
        ·show DQ #[B,h] cc
       ·rintro (h|⟨B,h⟩)
        ·show .inl h
        ·show .inr #[B,.inl h]
      simp only [eqv]
   ·rintro Y BF ⟨JH,f2,rfl,m,d10,aaE,P5,Su,Sv⟩
    rw [be,Ni] at Sv;show(_,_,_,f2,O,m,d10,aaE,Su,λi j L G=>?_);rw [Sv i j L G];by_cases c1:i∈A.take c
    ·rw [ox (.inl c1),ox ((lG ec).mpr (.inl c1))]
    ·by_cases c2:i=col
     ·rw [ox ((lG ec).mpr (.inr c2))]
      by_cases c3:j∈A
      ·rw [ox (.inr #[c2,c3])]
      ·rw [mQ (λz=>z.elim c1 λz=>c3 z.2)]
       have:ip T b j=0:=σ2 λz=>c3 ((hA j).mpr #[G,z]);rw [eX',this,Rat.mul_zero]
     ·rw [mQ (λz=>z.elim c1 λz=>c2 z.1),mQ (λz=>((lG ec).mp z).elim c1 c2)]
  ·rintro Y H8 ⟨o8,o9,JH,f1,rfl,k8,d8,eF8,mx8,hf8⟩
   rw [be,Ni] at hf8;show(_,_,_,_,_,_,f1,O,k8,d8,mx8,λi j L G=>?_);rw [hf8 i j L G,RH,gbt];change _=BI T (((gs.zip gV).take t)++[(g0,b)]) i j;rw [agF,<-eS];change _=_+g0*ip T b i*ip T b j;rw [<-eX'];by_cases c1:i∈A
   ·rw [ox c1]
   ·rw [mQ c1]
    have:ip T b i=0:=σ2 λz=>c1 ((hA i).mpr #[L,z]);rw [eX',this,Rat.mul_zero,Rat.zero_mul]
 ·rintro Y H5 ⟨o5,o6,o7,o8,o9,JH,f,rfl,kh,kd,mx,hf⟩
  show(d,o,AP,kd,λZ u' z=>(by have z':H d=some (.eR Z u'):=z;erw [hd] at z'),?_);let ln5:(gs.zip gV).take AP.length=gs.zip gV:=Q_ (by rw [als];omega);rw [ln5] at hf;show(_,O,q r M f _ (λb Z e=>?_) nr0 nl0 ?_ hf)
  ·by_cases n:b=d
   ·subst n
    rw [hd] at e;rwa [ak]
   ·rw [aj n]
    show kh b Z n e
  ·let t:bg H5 (upd H5 d (.dK AP)):=λb xs e=>by
    rcases e with e|⟨Z,e⟩
    ·show .inl (by rw [aj (λz=>by erw [z,kd] at e)];show e)
    ·show .inr #[Z,by rw [aj (λz=>by erw [z,kd] at e)];show e]
   show(by rw [aj rd];show mx.hr,mx.ln,mx.nd,λi l e=>?_,mx.nr);let(vs,B,h2,h3):=mx.row i l e;show(vs,by rwa [aj (G' (dl l (Wp e)))],h2,λj v ev=>(h3 j v ev).aQ t)
def mB (pX:ι):List (List (Int×Int)):=pX.flatMap λp=>qM pX p
def dP (pX:ι):List (List (Int×Int)):=(mB pX).map λZ=>Z++IV (bc pX) (0,1)
def fX (pX:ι)(Z:List (Rat×a_)):List (List (Int×Int)):=(JJ (2*pX.length)).map λi=>((JJ (2*pX.length)).map λj=>qr (BI pX Z i j))++((dy (mB pX) i).map vl).map λr=>qr (-r)
def gh (pX:ι):(mB pX).length=bc pX:=gY pX pX
def yW (h:cY K H us qs)(h':cY K H vs rs):cY K H (us++vs) (qs++rs):=by
 let l:=h.1;show#[by rw [HI,HI,l,h'.1],λi u q Z Y=>?_];by_cases c:i<us.length
 ·rw [NG c] at Z
  rw [NG ce] at Y;show h.2 i u q Z Y
 ·rw [NQ ce] at Z Y
  rw [l] at Z;show h'.2 _ u q Z Y
def aaF {us:ε}{Z:Ο}(h:Paired (dq K H) us Z):cY K H us (Z.map qr):=#[by rw [be];show GX h,λi u q T U=>by
 let(r,X,Y):=aw h T;erw [CP,X] at U
 show Y]
def agt (h:iS K H cy gG)(R:Shape T B m gG)(L:j<m):cY K H (qJ cy j) (dy gG j):=by
 show#[by simp [qJ,dy,h.1],λi u q Y Z=>?_];unfold qJ at Y;unfold dy at Z;rw [CP] at Y Z;let(S,ev,rfl):=JM.mp Y;let(X,U,rfl):=JM.mp Z;let N:=h.2 i S X ev U;let M:=(R X (Wp U)).1;let Q:=N.1;show N.2 j _ _ ?_ ?_
 ·rw [NM,gE ce];rfl
 ·rw [NM,gE ce];rfl
def acn (n:Nat)(h:iS K H cy gG):iS K H (cy.take n) (gG.take n):=#[by rw [IY,IY,h.1],λi X U Z Y=>by
 let T:i<n:=by
  have:=(ir.mp Z).1;rw [IY] at this;omega
 rw [Vs T] at Z Y
 show h.2 i X U Z Y]
def xM (pX:ι)(gV:τ):(gX pX gV).take (bc pX)=mB pX:=by
 unfold gX;rw [List.take_append_of_le_length (by rw [gY];show DH _),Q_ (by rw [gY];show DH _)];rfl
inductive nC (K:Frag)(C:BK)(vs:ε)(H:Hp)(Q:VK)(T:XK):Prop
|mk (a d:BK)(pX:ι)(gV:τ)(AP:γ)(Z:Ο)(_:vs=[.ref a,.ref d])(_:xB K H C a pX gV)(_:d_ pX gV)(_:gV.length<=10)(_:H d=some (.dK AP))(_:Paired (λ(X:Key×V) r=>dq K H X.2 r) AP Z)(_:Z.length=gV.length)(_:(∀r∈Z,Sz 31 r))(_:∀(r:BK)(Y:ψ)(U:Ζ)(H':Hp),aq H H' ->i7 K H' r Y U (dP pX++fX pX (Z.zip gV))->Q (.ref r) H')
def d0:ay ["F","firm","drawn","ways","rows","stiff","row","column"] ["F","firm"] (ae fQ):=sq
def af6 (hN:∀H:Hp,bL K H aN [.int 0,.int 1])(qI:mg "NOUGHT"=some (.ref aN))(D:Def K mg "bend_rows" fQ ["F","firm"])(aV:mg "len"=none)(iy:mg "zip"=none)(amj:ac P w K mg lM 38 "draw_rows" ["F"] (ni K C))(yY:ac P w K mg lM 35 "stiff_rows" CK (yV K C))(aag:ac P w K mg lM 1 "turned" sj oQ)(amk:ac P w K mg lM 1 "signs_turned" qv (yS K)):
  ac P w K mg lM 39 "bend_rows" ["F","firm"] (nC K C):=by
 show D.op d0 λf cH A mO s H vs Q E hr h=>?_;let(a,d,Z,X,AP,gs,rfl,R,g,lb9,hd,pg,lg,zg,q):=h;let gl:=g.lp;let lk:AP.length=gs.length:=GX pg;let wl:bc Z<=2*Z.length:=oW Z g.lw;let ql:(gX Z X).length=bc Z+X.length:=ahk Z X;let big:(1000:Nat)<=DC:=cr
 show(_,(aa (aI 2 d0.nd (aL amj hr (aZ (pv 0)))) (aa (aI 3 d0.nd (aD cB (aJ aG rfl aV bV (aZ (pv 2))) (aJ qz rfl aV bV (aZ (pv 1))))) (aa (qD (i:=4) (tn:=["row"]) (fr:=["ways"]) (pO:=[3]) d0.nd (bo (cJ fj (pv 2) dS (c_ (pv 3)))) (aD kR (pv 0) (aD yd (bY (aZ (f7 (v:=.ref aN) rfl qI rfl))) (pv 1)))) (aa (aI 5 d0.nd (aL yY hr (bu (pv 0) (pv 1) (cJ fj (pv 2) (c_ (pv 3)) dS)))) (aa (bh HG rfl (ym rfl iy (aH (pv 5) (aL aag hr (aH (cJ fj (pv 2) dS (c_ (pv 3))) (aJ aG rfl aV bV (aZ (pv 5))))))) (eY rfl (aY (bI 6 d0.nd) (aY (bI 7 d0.nd) cM))) (ah (bD (kg Qo Sl SX dD (pv 4) (aZ (aD kR (pv 6) (aL amk hr (aZ (pv 7))))))))) (ah (aE (pv 4)))))))),?_);sleep 4
 show(_,O,a,Z,X,O,R,g,λr0 L B H1 s1 nr0 G=>?_);let ll0:L.length=bc Z+X.length:=by rw [G.kJ.2.1,G.num.1,ql]
 let lv0:B.length=bc Z+X.length:=by rw [G.num.1,ql]
 show(_,O,r0,_,O,.inl (aT.of G.kJ.1),_,O,d,AP,O,.inl (s1 _ _ hd),_,_,O,O,?_);let em:(((L.map V.ref).length:Nat):Int)-((AP.length:Nat):Int)=((bc Z:Nat):Int):=by rw [be];omega
 rw [em];obtain ⟨W,eW⟩:∃W,W=bc Z:=#[_,O];rw [<-eW];let afj:gS (L.map V.ref) none (some (W:Int))=(L.take W).map V.ref:=by rw [oO (by rw [be];omega),List.map_take]
 let aml:gS (L.map V.ref) (some (W:Int)) none=(L.drop W).map V.ref:=by rw [jA (by rw [be];omega),List.map_drop]
 let J:∀i l,L[i]?=some l->∃us qs,(gX Z X)[i]?=some qs/\B[i]?=some us/\H1 l=some (.lst us)/\cY K H1 us qs:=λi l e=>by
  let hi:=(ir.mp e).1;let T:=gE (show i<B.length by omega);let U:=gE (show i<(gX Z X).length by omega);show(_,_,U,T,G.kJ.2.2 i l _ e T,G.num.2 i _ _ T U)
 show(_,O,_,O,_,O,r0,_,O,aT.of G.kJ.1,?_);rw [afj];intros lS nS HS sS eS;show(lS,O,#[_,aT.of eS],λS nD=>?_);show uE (pS:=[some (.int (W:Int))]) (K:=K) (a:=lS) (xs:=(L.take W).map V.ref) (λys H'=>∃(M:ψ)(cy:Ζ),ys=M.map V.ref/\i7 K H' S M cy ((dP Z).take ys.length)) nD (by rw [be,IY];omega) (λH2 s2=>aT.of (s2 _ _ eS)) ([],[],O,(ak,O,λi l vs e=>by simp at e),#[O,λi vs qs e=>by simp at e],by simp) ?_ ?_
 ·intro i x ys H2 RQ hx ly hJ s2 hD k
  let(M,cy,rfl,RJ):=hJ;rw [CP] at hx;let(l,el,rfl):=JM.mp hx
  let hi:i<W:=by
   have:=(ir.mp el).1;rw [IY] at this;omega
  rw [Vs hi] at el;let(us,qs,eq,_,hl,nu):=J i l el;let mJ:=sS.trans s2
  let lus:us.length<=20:=by
   have:=(nq g qs (Wp eq)).1;rw [nu.1,this];omega
  show(_,O,z1L,?_);intros l5 n5 H5 s5 e5;show(_,O,l5,_,_,O,O,e5,ce,ce,(by simp;omega),?_);intros l6 n6 H6 s6 e6;let Sr:(IV ((W:Nat):Int).toNat [V.ref aN]).flatten=IV W (V.ref aN):=by simp
  rw [Sr] at e6;let Sg:=mJ.trans (s5.trans s6);show(l,l6,_,_,O,O,Sg _ _ hl,e6,(by rw [Rp];omega),?_);intros l7 n7 H7 m e7;let Yq:=Sg.trans m;let s27:=s5.trans (s6.trans m)
  let n0:cY K H7 (IV W (V.ref aN)) (IV W (0,1)):=#[by simp,λi u q T U=>by
   rw [VN] at T U;split at T
   ·rename_i c
    rw [ox c] at U;cases T;cases U;show(aN,O,hN _)
   ·cases T]
  let eA:(dP Z)[i]?=some (qs++IV W (0,1)):=by
   have:(mB Z)[i]?=some qs:=by rwa [<-xM Z X,Vs ce]
   unfold dP;rw [CP,this,eW];rfl
  let hl7:l7≠S:=λz=>by erw [z,(s5.trans s6) _ _ hD] at n7
  show k _ _ s27 (M++[l7],cy++[us++IV W (V.ref aN)],by simp,?_);let ln:M.length=i:=by rwa [be] at ly
  have:=(RJ.lO s27).push e7 hl7 (yW (nu.lO Yq) n0);rw [HI,be,V1,ln,RH,eA];rwa [be,ln] at this
 intro ys H2 ly hJ s2 hD;let(ls2,amm,rfl,RJ):=hJ;let lA:(dP Z).length=W:=by unfold dP;rw [be,gh,eW]
 rw [ly,be,IY,Q_ ce] at RJ;let mJ:=sS.trans s2;let kr:=s1.trans mJ;show(_,O,_,O,_,O,_,O,_,O,r0,_,O,aT.of (mJ _ _ G.kJ.1),?_);rw [aml];intros lT nT HT sT eT;let s0T:=kr.trans sT;let s1T:=mJ.trans sT;try dsimp only [gQ];show(a,d,lT,Z,X,AP,gs,L.drop W,O,R.lO s0T,g,lb9,s0T _ _ hd,Paired.b6 pg λ_ _ z=>z.lO s0T,lg,zg,eT,by rw [Zd];omega,λi l b el eb=>?_,λr1 ls1 f H4 s4 n4 nl4 mx hf=>?_)
 ·rw [List.getElem?_drop] at el
  let(us,qs,eq,_,hl,nu):=J (W+i) l el
  have:(gX Z X)[W+i]?=some (cI (dJ b) Z):=by
   unfold gX;rw [NQ (by rw [gY,eW];show Nat.le_add_right _ _),CP,gY,show W+i-(Z.flatMap λp=>p.ws).length=i by rw [eW];unfold bc;omega,eb];rfl
  erw [this] at eq;show(us,s1T _ _ hl,nu.lO s1T)
 obtain ⟨N,eN⟩:∃N,N=2*Z.length:=#[_,O];rw [<-eN] at mx hf;let O_:=s1T.trans s4;let s24:=sT.trans s4;let MT:kA H4 r0 L B:=G.kJ.lO O_;show(_,O,_,O,_,O,_,O,r0,_,O,aT.of MT.1,?_);rw [afj];intros lU nU H5 sU eU;show(_,O,r1,_,O,.inl (aT.of (sU _ _ mx.hr)),?_);change oQ [_,_] _ _ E0;let lm:(((ls1.map V.ref).length:Nat):Int)=((N:Nat):Int):=by rw [be,mx.ln]
 let Sw:=O_.trans sU
 let M5:kA H5 lU (L.take W) (B.take W):=(eU,by rw [IY,IY,ll0,lv0],λi l vs T U=>by
  let hi:i<W:=by
   have:=(ir.mp T).1;rw [IY] at this;omega
  rw [Vs hi] at T U
  show Sw _ _ (G.kJ.2.2 i l vs T U))
 let N1:iS K H1 (B.take W) (mB Z):=by
  have:=acn W G.num;rw [eW,xM] at this;rw [eW];show this
 let shW:Shape 90 90 N (mB Z):=λqs hq=>by
  rw [eN];show nq g qs (by unfold gX;show Ny _ hq)
 show(lU,L.take W,B.take W,((N:Nat):Int),pU (λi:Int=>[V.ref lU,V.int i]) lm,M5,ce,ce,by rw [IY];omega,λvs hv=>?_,λc cs H6 s6 nc6 ams M6=>?_)
 ·let(i,ei):=JG hv
  let hi:=(ir.mp ei).1;let U:=gE (show i<(mB Z).length by rwa [<-N1.1]);let h1:=(N1.2 i vs _ ei U).1;rw [h1,(shW _ (Wp U)).1];show LH _
 rw [MM] at M6;let lcs:cs.length=N:=by rw [M6.2.1];unfold kq;rw [be,RG]
 let Sg:=Sw.trans s6;let BG:=sU.trans s6;let s26:=s24.trans BG;let mx6:=mx.lO BG;let R6:=RJ.lO s26;let rD4:=s24 _ _ RJ.kJ.1;let r1D:r1≠S:=λz=>by erw [z,sT _ _ RJ.kJ.1] at n4
 let l1D:∀l∈ls1,l≠S:=λl hm z=>by
  have:=nl4 l hm;erw [z,sT _ _ RJ.kJ.1] at this
 let lB:(fX Z (gs.zip X)).length=N:=by unfold fX;rw [be,RG,eN]
 let rD5:=sU _ _ rD4
 let cD:∀i l,cs[i]?=some l->H6 l=some (.lst (qJ (B.take W) i)):=λi l e=>by
  let hi:=(ir.mp e).1;show M6.2.2 i l _ e ?_;unfold kq;rw [CP,Vw ce];rfl
 let U0:∀i l,cs[i]?=some l->l≠S:=λi l e z=>by
  have:=ams l (Wp e);erw [z,rD5] at this
 let cnD:c≠S:=λz=>by erw [z,rD5] at nc6
 show(r1,c,O,#[_,aT.of mx6.hr],#[_,aT.of M6.1],?_)
 show let I:bn:=λt Y H'=>N6 λ(o6 o7:χ) (M:ψ) (cy:Ζ)=>Y=[ap a,ap d,ap r0,some (.int (W:Int)),ap S,ap r1,o6,o7]/\(∀b o,b≠S->H6 b=some o->H' b=some o)/\i7 K H' S M cy (dP Z++(fX Z (gs.zip X)).take t)/\M.length<=W+t;agw (K:=K) (a:=r1) (b:=c) (xs:=ls1.map V.ref) (ys:=cs.map V.ref) I (none,none,ls2,amm,O,λ_ _ _ e=>e,by rwa [alO,Wn],by rw [RJ.kJ.2.1,RJ.num.1,lA];show DH _) (λi Y H' h=>by
   let(_,_,_,_,_,k',_):=h
   show#[aT.of (k' _ _ r1D mx6.hr),aT.of (k' _ _ cnD M6.1)]) ?_ ?_
 ·rintro t x y Y H7 p7 ex ey ⟨o6,o7,M,cy,rfl,k7,R7,ll⟩ np
  let m:=aK np (.tup [x,y]);let e7:(upd H7 p7 (.tup [x,y])) p7=some (.tup [x,y]):=ak;generalize upd H7 p7 (.tup [x,y])=H8 at m e7 ⊢;rw [CP] at ex ey;let(l1,el1,rfl):=JM.mp ex;let(c1,ec1,rfl):=JM.mp ey
  let ht:t<N:=by
   have:=(ir.mp ec1).1;omega
  let(vs1,hv1,lv1,nv1):=mx6.row t l1 el1
  let tt:bg H6 H7:=λb xs e=>by
   rcases e with e|⟨o',e⟩
   ·show .inl (k7 _ _ (λz=>by erw [z,R6.kJ.1] at e) e)
   ·show .inr #[o',k7 _ _ (λz=>by erw [z,R6.kJ.1] at e) e]
  let hv8:=m _ _ (k7 _ _ (l1D l1 (Wp el1)) hv1);let c1D:c1≠S:=U0 t c1 ec1;let hc8:=m _ _ (k7 _ _ c1D (cD t c1 ec1));let R8:=R7.lO m;let cn:cY K H1 (qJ (B.take W) t) (dy (mB Z) t):=agt N1 shW ht;let cp:Paired (dq K H8) (qJ (B.take W) t) ((dy (mB Z) t).map vl):=Paired.b6 (oY (cn.lO Sg) (aae shW ht)) λ_ _ z=>(z.aQ tt).lO m;show(p7,_,O,bL.of e7,O,_,_,O,_,_,O,O,_,O,.inl (O,_,aT.of R8.kJ.1),_,O,_,O,c1,_,_,O,hc8,cp,(by unfold qJ;rw [be,IY];omega),λl9 us9 H9 s9 e9 p9=>?_);show(l1,l9,_,_,O,O,s9 _ _ hv8,e9,(by have:=GX p9;rw [be,be] at this;unfold dy at this;rw [be,gh] at this;omega),?_);intros Sa P5 BF nR Yi;let R10:=R8.lO (s9.trans nR);show(S,_,_,O,O,R10.kJ.1,(by rw [be];omega),?_);let amv:Sa≠S:=λz=>by erw [z,(R8.lO s9).kJ.1] at P5
  let nv8:cY K BF vs1 ((JJ N).map λj=>qr (BI Z (gs.zip X) t j)):=#[by rwa [be,RG],λj u qq T U=>by
   rw [CP] at U;let(j',ej,rfl):=JM.mp U
   let hj:j<N:=by
    have:=(ir.mp T).1;omega
   erw [Vw hj] at ej;have:=nv1 j u T;rw [hf t j ht hj] at this
   show((this.aQ tt).lO m).lO (s9.trans nR)]
  let ns9:cY K BF us9 (((dy (mB Z) t).map vl).map λr=>qr (-r)):=by
   have:=(aaF p9).lO nR;rwa [EL] at this
  let eB:(fX Z (gs.zip X))[t]?=some (((JJ N).map λj=>qr (BI Z (gs.zip X) t j))++((dy (mB Z) t).map vl).map λr=>qr (-r)):=by
   unfold fX;rw [CP,<-eN,Vw ht];rfl
  show(_,_,M++[Sa],cy++[vs1++us9],O,λb o n e=>?_,?_,by rw [HI,V1];omega)
  ·rw [aj n]
   show nR _ _ (s9 _ _ (m _ _ (k7 _ _ n e)))
  ·rw [RH,eB,<-Zh]
   show R10.push Yi amv (yW nv8 ns9)
 ·rintro Y H7 ⟨o6,o7,M,cy,rfl,k7,R7,ll⟩
  rw [be,be,mx.ln,lcs,LB,Q_ ce] at R7;show(_,O,q S M cy H7 (λb o e=>?_) R7);let qa:=s1.trans Sg;show k7 _ _ (λz=>by erw [z,(s1.trans sS).free nD] at e) (qa _ _ e)
inductive ma (K:Frag)(vs:ε)(H:Hp)(Q:VK)(X:XK):Prop
|mk (d e:BK)(AP kL:γ)(xs:List (Str×Rat))(Ln:Λ)(_:vs=[.ref d,.ref e])(_:H d=some (.dK AP))(_:Paired (λ(Z:Key×V)(x:Str×Rat)=>Z.1=.inr x.1/\dq K H Z.2 x.2) AP xs)(_:(xs.map (·.1)).Nodup)(_:H e=some (.dK kL))(_:d≠e)(_:xs.length<=14)(_:(∀x∈xs,Sz 31 x.2/\Sz 7950000 (Ln x.1)/\∃v,bC kL (.inr x.1)=some v/\dq K H v (Ln x.1)))(_:∀(p:BK)(Y:γ)(H':Hp),aq H H' ->H p=none->H' p=some (.dK Y)->Paired (λ(Z:Key×V)(x:Str×Rat)=>Z.1=.inr x.1/\dq K H' Z.2 (x.2*Ln x.1)) Y xs->Q (.ref p) H')
def jW:ay ["firm","longer","pulls","bar","grip"] CC (ae iH):=sq
def abV (D:Def K mg "gripped" iH CC)(dZ:ac P w K mg lM 34 "product_of" JA (ja K λa b=>a*b)):
  ac P w K mg lM 35 "gripped" CC (ma K):=by
 show D.oo jW λH hr h=>?_;let(d,e,AP,kL,xs,Ln,rfl,R,pk,nd,he,ne,lx,hx,q):=h;let lk:AP.length=xs.length:=GX pk
 show(_,(aa (aI 2 jW.nd de) (aa (i0 (bh HG rfl (lh (pv 0)) (eY rfl (aY (bI 3 jW.nd) (aY (bI 4 jW.nd) cM))) (ah (dW (bP hr) (pv 2) (pv 3) (aL dZ hr (aH (pv 4) (cO (bP hr) (pv 1) (pv 3) (λ_ _=>O)))) rfl)))) (ah (aE (pv 2))))),?_);sleep 2
 intro p T;let A:=aK T (.dK []);let e1:(upd H p (.dK [])) p=some (.dK []):=ak;generalize upd H p (.dK [])=H1 at A e1 ⊢;let IX:=A _ _ R;let u:p≠d:=λz=>by erw [z,R] at T
 show(_,O,d,AP,O,IX,λo=>?_);let k0:∀b Z,b≠d->b≠p->H b=some Z ->(upd H1 d (.eR o (.dK AP))) b=some Z:=λb Z n _ z=>by rw [aj n];show A _ _ z
 let tH:∀{X:Hp},(∀b Z,b≠d->b≠p->H b=some Z ->X b=some Z)->bg H X:=λ{X} k b xs r=>by
  rcases r with r|⟨Z,r⟩
  ·show .inl (k _ _ (λz=>by erw [z,R] at r) (λz=>by erw [z,T] at r) r)
  ·show .inr #[Z,k _ _ (λz=>by erw [z,R] at r) (λz=>by erw [z,T] at r) r]
 show let I:bn:=λt Y X=>GJ λ(g i:χ) (U:γ)=>Y=[ap d,ap e,ap p,g,i]/\(∀b Z,b≠d->b≠p->H b=some Z ->X b=some Z)/\X d=some (.eR o (.dK AP))/\X p=some (.dK U)/\Paired (λ(f:Key×V) (x:Str×Rat)=>f.1=.inr x.1/\dq K X f.2 (x.2*Ln x.1)) U (xs.take t);jw (d:=d) (o:=o) (AP:=AP) I (none,none,[],O,k0,ak,by rwa [aj u],.nil) (λt Y X _ h=>by
   let(_,_,_,_,_,h,_):=h
   show h) ?_ ?_
 ·rintro t k y Y G C r9 ⟨g,i,U,rfl,c,Q,L,S⟩ n7
  obtain ⟨x,J,rfl,ny⟩:∃x,xs[t]?=some x/\k=.inr x.1/\dq K H y x.2:=by
   let(x,J,h1,h2):=aw pk r9;show(x,J,h1,h2)
  let N:=aK n7 (.tup [kV (.inr x.1),y]);let e7:(upd G C (.tup [kV (.inr x.1),y])) C=some (.tup [kV (.inr x.1),y]):=ak;generalize upd G C (.tup [kV (.inr x.1),y])=H7 at N e7 ⊢;let B:∀b Z,b≠d->b≠p->H b=some Z ->H7 b=some Z:=λb Z n m z=>N _ _ (c b Z n m z);let(z1,z2,v,ev,nv):=hx x (Wp J);let pe:e≠p:=λz=>by erw [<-z,he] at T
  let dg:cX H7 e (.str x.1) (some v):=by
   have:=cX.k (k:=.inr x.1) (B _ _ (G' ne) pe he);rwa [ev] at this
  show(C,_,O,bL.of e7,O,_,_,O,_,_,O,O,_,O,_,O,_,O,e,v,O,dg,y,v,x.2,Ln x.1,O,ny.aQ (tH B),nv.aQ (tH B),z1.up cr,z2.up cr,λc8 H8 E e8=>?_);let M:=E _ _ (N _ _ L);let lT:=GX S;rw [IY] at lT;show(_,O,_,O,p,_,O,js.k (k:=.inr x.1) M (IG (show U.length<=1000 by omega) cr),?_)
  let fresh:(IL x.1:Key)∉U.map (·.1):=λz=>by
   let(f,mH,ek):=DA.mp z;let(j,ej):=JG mH;let(x',GG,h1,_):=aw S ej;rw [h1] at ek
   let hj:j<t:=by
    have:=(ir.mp GG).1;rw [IY] at this;omega
   rw [Vs hj] at GG;let g1:(xs.map (·.1))[j]?=some x.1:=by rw [CP,GG,<-Nh ek];rfl
   let g2:(xs.map (·.1))[t]?=some x.1:=by rw [CP,J];rfl
   have:=eV nd g1 g2;omega
  rw [dG _ (cg fresh)];let t8:bg H8 (upd H8 p (.dK (U++[(.inr x.1,.ref c8)]))):=.dict M;show(_,_,_,O,λb Z n m z=>?_,?_,ak,?_)
  ·rw [aj m]
   show E _ _ (B b Z n m z)
  ·rw [aj (G' u)]
   show E _ _ (N _ _ Q)
  ·rw [RH,J]
   show qO (Paired.b6 S λ_ _ z=>#[z.1,(z.2.lO (N.trans E)).aQ t8]) #[O,?_];show dq.aQ (c8,O,bL.of e8) t8
 ·rintro Y G ⟨g,i,U,rfl,c,Q,L,S⟩
  show(d,o,AP,Q,λZ u' z=>(by have z':H d=some (.eR Z u'):=z;erw [R] at z'),?_);rw [Q_ ce] at S
  let t2:bg G (upd G d (.dK AP)):=λb xs r=>by
   rcases r with r|⟨Z,r⟩
   ·show .inl (by rw [aj (λz=>by erw [z,Q] at r)];show r)
   ·show .inr #[Z,by rw [aj (λz=>by erw [z,Q] at r)];show r]
  show(_,O,q p U _ (λb Z z=>?_) T (by rwa [aj u]) (Paired.b6 S λ_ _ z=>#[z.1,z.2.aQ t2]));by_cases n:b=d
  ·subst n
   rw [R] at z;rwa [ak]
  ·rw [aj n]
   show c b Z n (λm=>by erw [m,T] at z) z
theorem sX {Z:Type}(f g:Z->Rat):∀(l:List Z)(u:Ο),sP (l.map λj=>f j+g j) u=sP (l.map f) u+sP (l.map g) u
 | [],u=>by rw [NV,NV,NV,gJ];grind
 | a::l,[]=>by simp [sP];grind
 | a::l,x::u=>by
  rw [ED,ED,ED,cG,cG,cG,sX f g l u];grind
theorem jX {Z:Type}(c:Rat)(f:Z->Rat):∀(l:List Z)(u:Ο),sP (l.map λj=>c*f j) u=c*sP (l.map f) u
 | [],u=>by rw [NV,NV,gJ];grind
 | a::l,[]=>by simp [sP]
 | a::l,x::u=>by
  rw [ED,ED,cG,cG,jX c f l u];grind
theorem jY:∀(a b:Ο),sP a b=sP b a
 | [],b=>by cases b<;>simp [sP]
 | x::a,[]=>by simp [sP]
 | x::a,y::b=>by
  rw [cG,cG,jY a b];grind
def afh (l u:Ο):sP (l.map λr=> -r) u= -(sP l u):=by
 have:=jX (-1) (λr:Rat=>r) l u;rw [List.map_id'] at this;let e:(l.map λr=> -r)=l.map λr=> -1*r:=N3 λr _=>by grind
 rw [e,this];grind
theorem sY {Z:Type}(c:Z->Rat)(r:Z->Nat->Rat)(l:Ω)(u:Ο):∀gV:List Z,sP (l.map λj=>(gV.map λb=>c b*r b j).sum) u=(gV.map λb=>c b*sP (l.map (r b)) u).sum
 | []=>by
  let e:(l.map λj=>(([]:List Z).map λb=>c b*r b j).sum)=l.map λj=>0*(0:Rat):=N3 λj _=>by simp
  rw [e,jX,NV,RI];grind
 | b::Y=>by
  let e:(l.map λj=>((b::Y).map λb=>c b*r b j).sum)=l.map λj=>c b*r b j+(Y.map λb=>c b*r b j).sum:=N3 λj _=>by rw [ED,N7]
  rw [e,sX,jX,sY c r l u Y,ED,N7]
theorem ahg {Z:Type}(r:Z->Nat->Rat)(l:Ω)(u:Ο):∀(y:Ο)(qs:List Z),sP (l.map λj=>sP y (qs.map λq=>r q j)) u=sP y (qs.map λq=>sP (l.map (r q)) u)
 | [],qs=>by
  let e:(l.map λj=>sP [] (qs.map λq=>r q j))=l.map λj=>0*(0:Rat):=N3 λj _=>by rw [gJ];grind
  rw [e,jX,gJ];grind
 | a::y,[]=>by
  let e:(l.map λj=>sP (a::y) (([]:List Z).map λq=>r q j))=l.map λj=>0*(0:Rat):=N3 λj _=>by simp [sP]
  rw [e,jX];simp [sP]
 | a::y,q::qs=>by
  let e:(l.map λj=>sP (a::y) ((q::qs).map λq=>r q j))=l.map λj=>a*r q j+sP y (qs.map λq=>r q j):=N3 λj _=>by rw [ED,cG]
  rw [e,sX,jX,ahg r l u y qs,ED,cG]
def sq_pos (x:Rat):0<=x*x:=by
 rcases Rat.le_total (a:=0) (b:=x) with h|h
 ·show vY h h
 ·let Z:0<= -x:=by grind
  have:=vY Z Z;grind
theorem ahf (G s:a_->Rat):∀gV:List a_,(∀b∈gV,0<G b)->(gV.map λb=>G b*(s b*s b)).sum<=0->∀b∈gV,s b=0
 | [],_,_,b,Z=>by cases Z
 | c::U,h,z,b,Z=>by
  rw [ED,N7] at z;let N:=h c IU
  let S:∀l:List a_,(∀b∈l,0<G b)->0<=(l.map λb=>G b*(s b*s b)).sum:=λl=>by
   induction l with
   | nil=>intro _;rw [NV,RI];show Rat.le_refl
   | cons a l R=>
    intro X;rw [ED,N7];let J:=R λb Z=>X b (IH _ Z);let Y:0<=s a*s a:=sq_pos (s a);let Q:=vY (akQ (X a IU)) Y;grind
  let L:=S U λb Z=>h b (IH _ Z);let Y:0<=s c*s c:=sq_pos (s c);let Q:=vY (akQ N) Y;let T:G c*(s c*s c)=0:=by grind
  let M:s c=0:=by
   rcases alD.mp T with e|e
   ·grind
   ·rcases alD.mp e with e|e<;>show e
  rcases JP.mp Z with e|Z
  ·rwa [e]
  ·show ahf G s U (λb Z=>h b (IH _ Z)) (by grind) b Z
def yZ (F:η)(pX:ι):((JJ (2*pX.length)).map λj=>vl ((cI F pX).getD j (0,1)))=(cI F pX).map vl:=by
 show QZ λj=>?_;rw [CP,CP];by_cases c:j<2*pX.length
 ·rw [Vw c,gE (by rwa [dh])]
  change some (vl ((cI F pX).getD j (0,1)))=some _;rw [NM,gE (by rwa [dh])];rfl
 ·rw [IM (by rw [RG];omega),IM (by rw [dh];omega)]
  rfl
def xN (M:υ)(pX:ι):List Rat:=pX.flatMap λp=>[(M p.nm).1,(M p.nm).2]
theorem y4 (M:υ):∀pX:List aC,(xN M pX).length=2*pX.length
 | []=>rfl
 | p::ps=>by
  have:=y4 M ps;unfold xN at this ⊢;rw [NL,HI,this];change 2+2*ps.length=2*(ps.length+1);omega
def JK (g:d_ pX gV)(U:b∈gV)(M:υ):sP ((JJ (2*pX.length)).map (ip pX b)) (xN M pX)= -(ie M b):=by
 let(X,Y,Z):=g.ends b U;rw [show(JJ (2*pX.length)).map (ip pX b)=(cI (dJ b) pX).map vl from yZ (dJ b) pX];unfold xN;rw [sW,agY g.np b X Y Z]
def Sx (Z:(pX.map (·.nm)).Nodup)(Y:p∈pX)(w:Rat×Rat)(M:υ):sP ((cI (gi p.nm w) pX).map vl) (xN M pX)=dt w (M p.nm):=by
 unfold xN;rw [sW,yP Z Y]
def Sy (Y:p∈pX){w:Rat×Rat}(Z:w∈p.ws):cI (gi p.nm w) pX∈mB pX:=by
 unfold mB qM;show Rj.mpr (p,Y,DA.mpr (w,Z,O))
def JL {qs:π}(h:qs∈mB pX):∃p∈pX,∃w∈p.ws,qs=cI (gi p.nm w) pX:=by
 unfold mB qM at h;let(p,Y,h):=Rj.mp h;let(w,Z,e):=DA.mp h;show(p,Y,w,Z,e.symm)
def qP {qs:π}(h:qs∈mB pX):qs.length=2*pX.length:=by
 let(p,_,w,_,rfl):=JL h;show dh _ _
def y6 (pX:ι)(L:η):List (Int×Int):=IV (bc pX) (0,1)++cI L pX
def v01:vl ((0,1):Int×Int)=0:=by decide+kernel
def SA (n:Nat):(IV n ((0,1):Int×Int)).map vl=(IV n ()).map λ_=>(0:Rat):=by rw [List.map_replicate,v01];simp
def oZ (A B:Δ)(j:Nat):dy (A++B) j=dy A j++dy B j:=by unfold dy;rw [II]
def jC (A:Δ)(j:Nat):(dy A j).length=A.length:=by unfold dy;rw [be]
section
variable {pX:ι}{gV:τ}{G:a_->Rat}{L:η}
def ak8 (i j:Nat):BI pX (gV.map λb=>(G b,b)) i j=(gV.map λb=>G b*ip pX b i*ip pX b j).sum:=by
 unfold BI;rw [EL];rfl
def abj (g:d_ pX gV)(N:∀(i:Nat)(qs:π)(d:Int×Int),(dP pX++fX pX (gV.map λb=>(G b,b)))[i]?=some qs->(y6 pX L)[i]?=some d->iV qs xs=vl d)
    (I:xs.map vl=xN M pX++pX.flatMap λp=>U p.nm) (Q:∀p∈pX,(U p.nm).length=p.ws.length)  (D:∀b∈gV,T b.nm=G b*ie M b):(∀p∈pX,∀w∈p.ws,dt w (M p.nm)=0)/\ig pX gV T U L:=by
 let A:(dP pX).length=bc pX:=by unfold dP;rw [be,gh]
 let X:(pX.flatMap λp=>U p.nm).length=bc pX:=by
  unfold bc;clear I N D g
  induction pX with
  | nil=>rfl
  | cons q ps z=>rw [NL,NL,HI,HI,z (λr x=>Q r (IH _ x)) (by unfold dP;rw [be,gh]),Q q IU]
 show#[λp S w y=>?_,λp S=>?_]
 ·let(i,C):=JG (Sy S y)
  let o:i<bc pX:=by rw [<-gh];show(ir.mp C).1
  let eA:(dP pX)[i]?=some (cI (gi p.nm w) pX++IV (bc pX) (0,1)):=by unfold dP;rw [CP,C];rfl
  have:=N i _ (0,1) (by rwa [NG ce]) (by unfold y6;rw [NG (by rwa [Rp]),VN,ox o]);rw [lY,I,II,gK _ _ (by rw [be,dh,y4]),Sx g.np S,SA,jY ((IV (bc pX) ()).map _),i9,v01] at this;grind
 ·let(k,R):=JG S
  let hk:=(ir.mp R).1
  let Y:∀(j:Nat)(c:Rat×Rat->Rat),j<2*pX.length->c (0,0)=0->(∀F,vl ((cI F pX).getD j (0,1))=c (mv F p.nm))->gL gV T U p c+c (mv L p.nm)=0:=λj c u c0 J=>by
   let B:=ajA (gV:=gV) (T:=T) (L:=L) c0 g.np Q S 1;rw [<-agu pX gV L R j c J,show gX pX gV++[cI L pX]=mB pX++(gV.map λb=>cI (dJ b) pX)++[cI L pX] from rfl,oZ,oZ,II,II,gK _ _ (by rw [HI,HI,be,be,be,jC,jC,X,gh,be]),gK _ _ (by rw [be,jC,X,gh])] at B
   let e2:sP (gV.map λb=>T b.nm) ((dy (gV.map λb=>cI (dJ b) pX) j).map vl)=(gV.map λb=>T b.nm*ip pX b j).sum:=by
    unfold dy;rw [EL,EL,JC];rfl
   let e3:sP [(1:Rat)] ((dy [cI L pX] j).map vl)=c (mv L p.nm):=by
    change sP [(1:Rat)] [vl ((cI L pX).getD j (0,1))]=_;rw [cG,gJ,J];grind
   rw [e2,e3] at B
   let eB:(fX pX (gV.map λb=>(G b,b)))[j]?=some (((JJ (2*pX.length)).map λZ=>qr (BI pX (gV.map λb=>(G b,b)) j Z))++((dy (mB pX) j).map vl).map λr=>qr (-r)):=by
    unfold fX;rw [CP,Vw u];rfl
   obtain ⟨dj,H⟩:∃d,(cI L pX)[j]?=some d:=#[_,gE (show j<(cI L pX).length by rwa [dh])];have:=N (bc pX+j) _ _ (by rwa [NQ ce,A,Qt]) (by unfold y6;rw [NQ (by rw [Rp];omega),Rp,Qt];show H)
   let m:vl dj=c (mv L p.nm):=by
    rw [<-J L,NM,H];rfl
   rw [lY,I,II,gK _ _ (by rw [be,be,RG,y4]),EL,EL,m] at this
   let f1:(JJ (2*pX.length)).map (vl ∘ λZ=>qr (BI pX (gV.map λb=>(G b,b)) j Z))=(JJ (2*pX.length)).map λZ=>(gV.map λb=>(G b*ip pX b j)*ip pX b Z).sum:=N3 λZ _=>by
    change vl (qr _)=_;rw [ff,ak8]
   let a:((dy (mB pX) j).map vl).map (vl ∘ λr=>qr (-r))=((dy (mB pX) j).map vl).map λr=> -r:=N3 λr _=>ff _;rw [f1,a,sY (λb=>G b*ip pX b j) (ip pX),afh,jY ((dy (mB pX) j).map vl)] at this
   let f:(gV.map λb=>(G b*ip pX b j)*sP ((JJ (2*pX.length)).map (ip pX b)) (xN M pX)).sum= -(gV.map λb=>T b.nm*ip pX b j).sum:=by
    rw [<-sum_neg];show pU uo (N3 λb E=>?_);rw [JK g E,D b E];grind
   rw [f] at this;grind
  show#[Y (2*k) (·.1) ce rfl λF=>(yQ F R).1,Y (2*k+1) (·.2) ce rfl λF=>(yQ F R).2]
def aaG (g:d_ pX gV)(y:∀b∈gV,0<G b)(C:∀j,j<2*pX.length+bc pX->iV ys (dy (dP pX++fX pX (gV.map λb=>(G b,b))) j)=0)(T:iV ys (y6 pX L)=1)
   {X:Ο} (J:ys.map vl=X++xN M pX) (S:X.length=bc pX):uS pX gV M/\mK pX L M=1:=by
 let E:(dP pX).length=bc pX:=by unfold dP;rw [be,gh]
 let U:∀Z∈mB pX,sP (Z.map vl) (xN M pX)=0:=λZ Y=>by
  let(k,B):=JG Y;let A:k<bc pX:=by rw [<-gh];show(ir.mp B).1
  have:=C (2*pX.length+k) ce
  let H:(dy (dP pX) (2*pX.length+k)).map vl=(mB pX).map λ_=>(0:Rat):=by
   unfold dy dP;rw [EL,EL];show N3 λZ Y=>?_;change vl ((Z++IV (bc pX) (0,1)).getD (2*pX.length+k) (0,1))=0;rw [NM,NQ (by rw [qP Y];omega),qP Y,Qt,VN,ox A];show v01
  let I:(dy (fX pX (gV.map λb=>(G b,b))) (2*pX.length+k)).map vl=(Z.map vl).map λr=> -r:=by
   let m:=qP Y;let(p,_,w,_,rfl):=JL Y;rw [<-yZ (gi p.nm w) pX,EL];unfold dy fX;rw [EL,EL];show N3 λi z=>?_;change vl ((((JJ (2*pX.length)).map λj=>qr (BI pX (gV.map λb=>(G b,b)) i j))++((dy (mB pX) i).map vl).map λr=>qr (-r)).getD (2*pX.length+k) (0,1))= -(vl ((cI (gi p.nm w) pX).getD i (0,1)));rw [NM,NQ (by rw [be,RG];omega),be,RG,Qt,CP,CP];unfold dy;rw [CP,B];show ff _
  rw [lY,J,oZ,II,gK _ _ (by rw [be,jC,E,S]),H,I,i9,jY,afh] at this;grind
 let o:∀p∈pX,∀w∈p.ws,dt w (M p.nm)=0:=λp R w D=>by rw [<-Sx g.np R];show U _ (Sy R D)
 let col:∀j,j<2*pX.length->sP X ((mB pX).map λZ=>vl (Z.getD j (0,1)))+(gV.map λb=>(G b* -(ie M b))*ip pX b j).sum=0:=λj Q=>by
  have:=C j ce
  let H:(dy (dP pX) j).map vl=(mB pX).map λZ=>vl (Z.getD j (0,1)):=by
   unfold dy dP;rw [EL,EL];show N3 λZ Y=>?_;change vl ((Z++IV (bc pX) (0,1)).getD j (0,1))=_;rw [NM,NG (by rwa [qP Y]),<-NM]
  let I:(dy (fX pX (gV.map λb=>(G b,b))) j).map vl=(JJ (2*pX.length)).map λi=>(gV.map λb=>(G b*ip pX b j)*ip pX b i).sum:=by
   unfold dy fX;rw [EL,EL];show N3 λi z=>?_;change vl ((((JJ (2*pX.length)).map λj=>qr (BI pX (gV.map λb=>(G b,b)) i j))++((dy (mB pX) i).map vl).map λr=>qr (-r)).getD j (0,1))=_;rw [NM,NG (by rwa [be,RG]),CP,Vw Q];change vl (qr _)=_;rw [ff,ak8];show pU uo (N3 λb _=>?_);grind
  rw [lY,J,oZ,II,gK _ _ (by rw [be,jC,E,S]),H,I,jY (xN M pX),sY (λb=>G b*ip pX b j) (ip pX)] at this
  let f:(gV.map λb=>(G b*ip pX b j)*sP ((JJ (2*pX.length)).map (ip pX b)) (xN M pX)).sum=(gV.map λb=>(G b* -(ie M b))*ip pX b j).sum:=by
   show pU uo (N3 λb N=>?_);rw [JK g N];grind
  rwa [f] at this
 let all:sP ((JJ (2*pX.length)).map λj=>sP X ((mB pX).map λZ=>vl (Z.getD j (0,1)))+(gV.map λb=>(G b* -(ie M b))*ip pX b j).sum) (xN M pX)=0:=by
  let e:((JJ (2*pX.length)).map λj=>sP X ((mB pX).map λZ=>vl (Z.getD j (0,1)))+(gV.map λb=>(G b* -(ie M b))*ip pX b j).sum)=(JJ (2*pX.length)).map λ_=>(0:Rat):=N3 λj Q=>col j (QX.mp Q);rw [e,jY,i9]
 rw [sX,ahg (λ(Z:π) (j:Nat)=>vl (Z.getD j (0,1))),sY (λb=>G b* -(ie M b)) (ip pX)] at all
 let u:((mB pX).map λq=>sP ((JJ (2*pX.length)).map λj=>vl (q.getD j (0,1))) (xN M pX))=(mB pX).map λ_=>(0:Rat):=N3 λq Y=>by
  let(p,R,w,D,rfl):=JL Y;rw [yZ];show U _ Y
 let x:(gV.map λb=>(G b* -(ie M b))*sP ((JJ (2*pX.length)).map (ip pX b)) (xN M pX)).sum=(gV.map λb=>G b*(ie M b*ie M b)).sum:=pU uo (N3 λb N=>by rw [JK g N];grind);rw [u,i9,x] at all;show#[#[o,ahf G (ie M) gV y (by grind)],?_];rw [lY,J] at T;unfold y6 at T;rw [II,gK _ _ (by rw [be,Rp,S]),SA,i9,jY] at T;unfold xN at T;rw [sW] at T;unfold mK;grind
end
def V' (h:Sm T B q)(Y:T<=T')(Z:B<=B'):Sm T' B' q:=(h.pos,h.low,EE h.top (Pd cr Y),EE h.bot (Pd cr Z))
def mvL (M:η):Prop:=∀x,Sz 1200 (mv M x).1/\Sz 1200 (mv M x).2
def gR (Z:Β)(x:Str):Rat:=(Z x).getD 1
def sZ (Z:Β)(x:Str):uU (λy=>(Z y).map qr) x=qr (gR Z x):=by
 change ((Z x).map qr).getD (1,1)=qr ((Z x).getD 1);cases Z x with
 | none=>
  change (1,1)=qr 1;decide+kernel
 | some r=>rfl
def aaI (h:0<r):0<(qr r).1:=by
 let p:=cT r;let v:=ff r
 rcases LV (qr r).1 0 with z|z|z
 ·exfalso
  have:vl (qr r)<=0:=by
   unfold vl
   let X:((qr r).1:Rat)<=0:=by
    have:=ajh.mpr (Int.le_of_lt z);show this
   let Y:(0:Rat)<((qr r).2:Rat):=by
    have:=Q9.mpr p;show this
   rw [Rat.div_def];let Z:(0:Rat)<=((qr r).2:Rat)⁻¹:=akQ (Rat.inv_pos.mpr Y);have:=vY (show(0:Rat)<= -((qr r).1:Rat) by grind) Z;grind
  rw [v] at this;grind
 ·exfalso
  have:=oR z;rw [this] at h;show DQ h Rat.lt_irrefl
 ·show z
theorem JN :∀{gV:τ},(gV.map nm).Nodup->∀f:a_->Rat,∃T:Str->Rat,∀b∈gV,T (nm b)=f b
 | [],_,_=>#[λ_=>0,λb Z=>by cases Z]
 | c::U,Y,f=>by
  rw [ED,Nk] at Y;let(T,X):=JN Y.2 f;show#[λx=>if x=nm c then f c else T x,λb Z=>?_]
  rcases JP.mp Z with e|Z
  ·rw [e]
   change (if nm c=nm c then _ else _)=_;rw [ox rfl]
  ·change (if nm b=nm c then _ else _)=_
   rw [mQ (λz:nm b=nm c=>Y.1 (by rw [<-z];show DA.mpr (b,Z,O)))];show X b Z
def SD (h:Sm T B q)(U:T<k)(X:B<k):Sz k (vl q):=by
 let e:=Yn h;let Y:q.1.natAbs<2^k:=IG h.top (ajm cr U);let Z:q.2.natAbs<2^k:=IG h.bot (ajm cr X);rw [e] at Y Z;show#[intBits_le_iff.mpr Y,intBits_le_iff.mpr Z]
def SE (h:Sz k r):Sm k k (qr r):=(cT r,m8 r,QM (intBits_le_iff.mp h.top),QM (intBits_le_iff.mp h.bot))
def abq (g:d_ pX gV)(E:gV.length<=10){G:a_->Rat}(M:∀b∈gV,Sz 31 (G b)):Shape 2200 2200 (2*pX.length+bc pX) (dP pX++fX pX (gV.map λb=>(G b,b))):=λS Z=>by
 let L:Sm 2200 2200 ((0,1):Int×Int):=(cr,cr,by decide+kernel,by decide+kernel);let X:∀S∈mB pX,∀q∈S,Sm 90 90 q:=λS Z=>(nq g S (by unfold gX;show Ny _ Z)).2
 rcases HZ.mp Z with h|h
 ·unfold dP at h
  let(Y,T,rfl):=DA.mp h;show#[by rw [HI,qP T,Rp],λq Z=>?_]
  rcases HZ.mp Z with h|h
  ·show V' (X Y T q h) cr cr
  ·rw [(aki.mp h).2]
   show L
 ·unfold fX at h
  let(i,U,rfl):=DA.mp h;let U:=QX.mp U;show#[by rw [HI,be,be,be,jC,gh,RG],λq Z=>?_]
  rcases HZ.mp Z with h|h
  ·let(j,R,rfl):=DA.mp h
   let R:=QX.mp R;show V' (SE (JF U R λx J=>?_)) (by rw [be];omega) (by rw [be];omega);let(b,N,rfl):=DA.mp J;show#[M b N,λi U=>(JE g N U).2]
  ·let(r,I,rfl):=DA.mp h
   let(H,Q,rfl):=DA.mp I;unfold dy at Q;let(Y,T,rfl):=DA.mp Q;let D:=qP T
   let e:Y.getD i (0,1)=Y[i]'ce:=by
    rw [NM,gE ce];rfl
   have:=SD (k:=92) (X Y T _ (RC (show i<Y.length by omega))) cr cr;rw [e];show V' (SE this.neg) cr cr
theorem ahd {Z β:Type}(G:Z->β):∀l:List Z,(l.map G).zip l=l.map λb=>(G b,b)
 | []=>rfl
 | b::Y=>by rw [ED,List.zip_cons_cons,ahd G Y,ED]
inductive uX (K:Frag)(C:BK)(vs:ε)(H:Hp)(Q:VK)(E:XK):Prop
|mk (a d e:BK)(pX:ι)(gV:τ)(R kL:γ)(Y:Β)(L:η)(_:vs=[.ref a,.ref d,.ref e])(_:xB K H C a pX gV)(_:d_ pX gV)(_:pX.length<=7)(_:gV.length<=10)(_:H d=some (.dK R))(_:IC K H R (λx=>(Y x).map qr))(_:(∀X∈R,∃x∈gV.map (·.nm),X.1=.inr x))(_:(∀x,0<gR Y x/\Sz 31 (gR Y x)))(_:H e=some (.dK kL))(_:xC K H kL L)(_:mvL L)(_:(∀X∈kL,∃x∈pX.map (·.nm),X.1=.inr x))(_:(∀(M:υ)(p Z:BK)(S:γ)(H':Hp),aq H H' ->H' p=some (.tup [.str "moves",.ref Z])->MoR K H H' pX Z S M->uS pX gV M->mK pX L M=1->(∀p∈pX,Sz 2045000 (M p.nm).1/\Sz 2045000 (M p.nm).2)->Q (.ref p) H'))(_:(∀(T:Λ)(U:ω)(G:Str->BK)(M:υ)(p dT N Z:BK)(I J S:γ)(H':Hp),aq H H' ->H' p=some (.tup [.str "bent",.ref dT,.ref N,.ref Z])->PPR K H H' pX gV dT N I J T U G->MoR K H H' pX Z S M->(∀p∈pX,∀w∈p.ws,dt w (M p.nm)=0)->(∀b∈gV,T b.nm=gR Y b.nm*ie M b)->ig pX gV T U L->(∀b∈gV,Sz 7930000 (T b.nm))->(∀p∈pX,∀u∈U p.nm,Sz 1982000 u)->(∀p∈pX,Sz 1982000 (M p.nm).1/\Sz 1982000 (M p.nm).2)->Q (.ref p) H'))
def dw:ay ["F","grips","load","loaded","firm","many","rows","ways","told","moves","pulls","pushes"] u5 (ae iG):=sq
def abP (hN:∀H:Hp,bL K H aN [.int 0,.int 1])(qI:mg "NOUGHT"=some (.ref aN))(D:Def K mg "bend_of" iG u5)(aV:mg "len"=none)
  (amz:ac P w K mg lM 3 "load_row" ["F","load"] (qN K C)) (DU:ac P w K mg lM 3 "all_grips" B_ (nA K C)) (DV:ac P w K mg lM 39 "bend_rows" ["F","firm"] (nC K C)) (amA:ac P w K mg lM 37 "solve_rows" CI (sR K)) (afl:ac P w K mg lM 2 "motion_from" V_ (uR K C)) (uY:ac P w K mg lM 37 "lengthenings" CA (So K C)) (Pl:ac P w K mg lM 35 "gripped" CC (ma K)) (amB:ac P w K mg lM 3 "pulls_and_pushes" V_ (aaw K C)):
  ac P w K mg lM 40 "bend_of" u5 (uX K C):=by
 show D.oo dw λH Q h=>?_;let(a,d,e,Z,S,kG,kL,Go,L,rfl,R,g,lp4,lb9,hd,hG,hk,hg,he,hP,zl,hkL,q1,q2):=h;let wl:bc Z<=2*Z.length:=oW Z g.lw;let big:(1000:Nat)<=DC:=cr
 show(_,(aa (aI 3 dw.nd (aL amz Q (aH (pv 0) (pv 2)))) (aa (aI 4 dw.nd (aL DU Q (aH (pv 0) (pv 1)))) (aa (aI 5 dw.nd (aJ aG rfl aV bV (aZ (pv 3)))) (aa (aI 6 dw.nd (aL DV Q (aH (pv 0) (pv 4)))) (aa (aI 7 dw.nd (aD cB (aJ aG rfl aV bV (aZ (pv 6))) (pv 5))) (aa (aI 8 dw.nd (aL amA Q (bu (pv 6) (aD kR (aD yd (bY (aZ (f7 (v:=.ref aN) rfl qI rfl))) (pv 7)) (pv 3)) (aJ aG rfl aV bV (aZ (pv 6)))))) (aa (bw (bE gm (aF (pv 8)) dB) (ah (aE (aS (aH dB (aL afl Q (aH (pv 0) (cJ fj (aF (pv 8)) (c_ (pv 7)) dS))))))) aR) (aa (aI 9 dw.nd (aL afl Q (aH (pv 0) (cJ fj (aF (pv 8)) dS (c_ (pv 5)))))) (aa (aI 10 dw.nd (aL Pl Q (aH (pv 4) (aL uY Q (aH (pv 0) (pv 9)))))) (aa (aI 11 dw.nd (aF (aL amB Q (aH (pv 0) (cJ fj (aF (pv 8)) (c_ (pv 5)) dS))))) (ah (aE (aS (iL dB (bu (pv 10) (pv 11) (pv 9)))))))))))))))),?_);sleep 10
 show(_,O,_,O,a,e,Z,S,kL,L,O,R,ce,he,hP,hkL,λl us H1 s1 nl el nm=>?_);let R1:=R.lO s1;let(dx,pP,pW,pB,kP,kW,kB,F1,W1):=R1.ex;let nmb:=yN S;show(_,O,_,O,a,dx,pP,pW,pB,d,_,_,kP,kW,kB,kG,_,O,F1,s1 _ _ hd,hG.lO s1,(by rwa [nmb]),(by rw [be];omega),(by rw [nmb];show g.nb),(λx=>by rw [sZ];show aaI (hg x).1),λfm kf H2 s2 nf ef pf=>?_);rw [nmb] at pf;let kr:=s1.trans s2;let lus:us.length=2*Z.length:=by rw [nm.1,dh]
 show(_,O,l,_,O,.inl (aT.of (s2 _ _ el)),?_);rw [lus];obtain ⟨G,eG⟩:∃G:a_->Rat,∀b,G b=gR Go b.nm:=#[_,λ_=>O]
 let pgs:Paired (λ(A:Key×V) r=>dq K H2 A.2 r) kf (S.map G):=fO (by rw [GX pf,be,be]) λi A r o f=>by
  let(x,m,_,I):=aw pf o;rw [CP] at f m;let(b,eb,rfl):=JM.mp f;rw [eb] at m;have GG :b.nm=x:=JB m;rwa [sZ,<-GG,<-eG] at I
 let zG:∀b∈S,Sz 31 (G b):=λb _=>by rw [eG];show(hg b.nm).2
 show(_,O,_,O,a,fm,Z,S,kf,S.map G,O,R.lO kr,g,lb9,ef,pgs,by rw [be],(λr Q=>by let(b,Y,rfl):=DA.mp Q;show zG b Y),λr ls cy H3 s3 RR=>?_);rw [ahd] at RR;let BJ:=kr.trans s3;let lA:(dP Z).length=bc Z:=by unfold dP;rw [be,gh]
 let lB:(fX Z (S.map λb=>(G b,b))).length=2*Z.length:=by unfold fX;rw [be,RG]
 let lq:(dP Z++fX Z (S.map λb=>(G b,b))).length=bc Z+2*Z.length:=by rw [HI,lA,lB]
 let lls:ls.length=bc Z+2*Z.length:=by rw [RR.kJ.2.1,RR.num.1,lq]
 show(_,O,r,_,O,.inl (aT.of RR.kJ.1),_,O,_,_,O,O,?_);let em:(((ls.map V.ref).length:Nat):Int)-((2*Z.length:Nat):Int)=((bc Z:Nat):Int):=by rw [be];omega
 rw [em];show(_,O,z1L,?_);intros l5 n5 H5 s5 e5;show(_,O,l5,_,_,O,O,e5,ce,ce,(by simp;omega),?_);intros l6 n6 H6 s6 e6;let Sr:(IV ((bc Z:Nat):Int).toNat [V.ref aN]).flatten=IV (bc Z) (V.ref aN):=by simp
 rw [Sr] at e6;let Pm:=s5.trans s6;let Sg:=s2.trans (s3.trans Pm);show(_,O,l6,l,_,_,O,O,e6,Sg _ _ el,(by rw [Rp];omega),?_);intros l7 n7 H7 s7 e7;let s37:=Pm.trans s7;let Yq:=Sg.trans s7;let s07:=s1.trans Yq;let RR7:=RR.lO s37;show(_,O,r,_,O,.inl (aT.of RR7.kJ.1),?_);change sR K [_,_,_] _ _ E0;let lm:(((ls.map V.ref).length:Nat):Int)=((2*Z.length+bc Z:Nat):Int):=by rw [be,lls];omega
 let s0:Sm 2200 2200 ((0,1):Int×Int):=(cr,cr,by decide+kernel,by decide+kernel)
 let n0:cY K H7 (IV (bc Z) (V.ref aN)) (IV (bc Z) (0,1)):=#[by simp,λi u q o f=>by
  rw [VN] at o f;split at o
  ·rename_i c
   rw [ox c] at f;cases o;cases f;show(aN,O,hN _)
  ·cases o]
 let nd:cY K H7 (IV (bc Z) (V.ref aN)++us) (y6 Z L):=yW n0 (nm.lO Yq);let aGX:2*Z.length+bc Z<=28:=ce
 let zz:bb (2200+2200*(2*Z.length+bc Z+1)) (min (2*Z.length+bc Z+1) (dP Z++fX Z (S.map λb=>(G b,b))).length)<=1981000:=by
  show EE (yF _ (Nat.min_le_left _ _)) ?_;unfold bb;show EE (U_ (show 2*Z.length+bc Z+1+1<=30 by omega) (show 2200+2200*(2*Z.length+bc Z+1)+11<=66011 by omega)) cr
 show(r,l7,2*Z.length+bc Z,ls,cy,_,_,y6 Z L,2200,2200,1981000,pU (λi:Int=>[V.ref r,V.ref l7,V.int i]) lm,RR7.kJ,RR7.num,e7,nd,(by rw [lq];unfold y6;rw [HI,Rp,dh]),abq g lb9 zG,λq hq=>?_,ce,ce,cr,ce,cr,zz,cr,?_,?_)
 ·unfold y6 at hq
  rcases HZ.mp hq with h|h
  ·rw [(aki.mp h).2]
   show s0
  ·let(r,rfl,z):=ak9 zl Z q h
   show V' (SE z) cr cr
 ·intro p x kI xs HA sA ep m nx lx zx hx
  show(_,O,p,_,_,_,O,O,bL.of ep,O,O,_,O,bq (λc=>DQ c (by simp [rY];decide+kernel)) (λ_=>?_));let k:=s07.trans sA;let pxs:=oY nx zx;let lxs:kI.length=2*Z.length+bc Z:=by rw [nx.1,lx]
  let lxm:(xs.map vl).length=2*Z.length+bc Z:=by rw [be,lx]
  let szx:∀r∈xs.map vl,Sz 1981001 r:=λr Q=>by
   let(q,hq,rfl):=DA.mp Q;show SD (zx q hq) cr cr
  show(_,O,_,O,p,_,_,_,O,O,bL.of ep,O,_,O,_,O,x,_,O,aT.of m,?_);rw [oO ce];intros l8 n8 H8 s8 e8;let p8:Paired (dq K H8) (kI.take (2*Z.length)) ((xs.map vl).take (2*Z.length)):=Paired.b6 (jV (2*Z.length) pxs) λ_ _ z=>z.lO s8;let s08:=k.trans s8;show(a,l8,Z,S,_,_,O,R.lO s08,g,e8,p8,by rw [IY];omega,λM dM kM H9 s9 eM nM hM ks tM=>?_);let SF:=s08.trans s9;let s29:=s3.trans (s37.trans (sA.trans (s8.trans s9)));obtain ⟨Mo,afm,afn⟩:∃Mo:Str->Option (Rat×Rat),(∀x∈Z.map (·.nm),Mo x=some (M x))/\∀x,x∉Z.map (·.nm)->Mo x=none:=(λx=>if x∈Z.map (·.nm) then some (M x) else none,λx h=>ox h,λx h=>mQ h)
  let mvM:∀p∈Z,mv Mo p.nm=M p.nm:=λp j=>by
   unfold mv;rw [afm _ (DA.mpr (p,j,O))];rfl
  let E:∀p∈Z,Sz 1981001 (M p.nm).1/\Sz 1981001 (M p.nm).2:=λp j=>by
   let X:∀r∈(xs.map vl).take (2*Z.length),Sz 1981001 r:=λr Q=>szx r (QL Q);rw [eM] at X;show#[X _ (Rj.mpr (p,j,IU)),X _ (Rj.mpr (p,j,IH _ IU))]
  let ptd:xC K H9 kM Mo:=λx=>by
   by_cases c:x∈Z.map (·.nm)
   ·let(N,J,rfl):=DA.mp c
    let(t,v1,v2,B,I,h3,h4):=tM N J;show .inr (_,_,B,afm _ c,(t,v1,v2,O,bL.of I,h3,h4))
   ·show .inl #[cg λz=>?_,afn _ c]
    rw [ks] at z;let(N,J,e'):=DA.mp z;show c (by rw [<-Nh e'];show DA.mpr (N,J,O))
  let szo:∀x,Sz 1982000 (mv Mo x).1/\Sz 1982000 (mv Mo x).2:=λx=>by
   by_cases c:x∈Z.map (·.nm)
   ·let(N,J,rfl):=DA.mp c
    rw [mvM N J];show#[(E N J).1.up cr,(E N J).2.up cr]
   ·unfold mv
    rw [afn _ c];show#[dk cr,dk cr]
  let aad:∀b∈S,V9 Mo b=ie M b:=λb Y=>by
   let(m1,m2,_):=g.ends b Y;unfold V9;rw [mvM _ m1,mvM _ m2];rfl
  let lenZ:∀b∈S,Sz 7924185 (ie M b):=λb Y=>by
   let(m1,m2,_):=g.ends b Y;let z1:=E _ m1;let z2:=E _ m2;let y1:=g.sz _ m1;let y2:=g.sz _ m2;show(((y2.1.sub y1.1).mul (z2.1.sub z1.1)).add ((y2.2.1.sub y1.2.1).mul (z2.2.sub z1.2))).up cr
  show(_,O,_,O,_,O,a,dM,Z,S,kM,Mo,O,R.lO SF,g,hM,ptd,szo,λlg kLn BF nR afo amE avb tL=>?_);change ma K [_,_] _ _ E0;let(Ln,hLn):=JN (nm:=a_.nm) g.nb (ie M);let s0X:=SF.trans nR;let s2X:=s29.trans nR;let fmX:=s2X _ _ ef
  let pfx:Paired (λ(A:Key×V) (x:Str×Rat)=>A.1=.inr x.1/\dq K BF A.2 x.2) kf (S.map λb=>(b.nm,G b)):=fO (by rw [GX pf,be,be]) λi A z o f=>by
   let(x,m,B,I):=aw pf o;rw [CP] at f m;let(b,eb,rfl):=JM.mp f;rw [eb] at m;have GG :b.nm=x:=JB m;rw [sZ,<-GG,<-eG] at I;show#[by rw [B,<-GG],dq.lO I s2X]
  let nmx:(S.map λb=>(b.nm,G b)).map (·.1)=S.map (·.nm):=by rw [EL];rfl
  show(fm,lg,kf,kLn,S.map λb=>(b.nm,G b),Ln,O,fmX,pfx,by rw [nmx];show g.nb,amE,(λz=>by erw [<-z,s29 _ _ ef] at afo),(by rw [be];omega),λz hz=>?_,λdT kT CG xo nT eT pT=>?_)
  ·let(b,Y,rfl):=DA.mp hz
   let(v,B,I):=tL b Y;show(zG b Y,by rw [hLn b Y];show(lenZ b Y).up cr,v,B,?_);rwa [aad b Y,<-hLn b Y] at I
  let Wa:=s8.trans (s9.trans (nR.trans xo));show(_,O,_,O,p,_,_,_,O,O,bL.of (Wa _ _ ep),O,_,O,_,O,x,_,O,aT.of (Wa _ _ m),?_);rw [jA ce];intros l12 Sb H12 mJ e12;let Wb:=k.trans (Wa.trans mJ);let p12:Paired (dq K H12) (kI.drop (2*Z.length)) ((xs.map vl).drop (2*Z.length)):=Paired.b6 (iA (2*Z.length) pxs) λ_ _ z=>z.lO (Wa.trans mJ);show(a,l12,Z,S,_,_,O,R.lO Wb,g,e12,p12,by rw [Zd];omega,λU Lx pp dT' dU kU H13 sQ eU epp PU=>?_);show(pp,_,_,_,O,O,bL.of epp,O,_,O,_,O,_,O,z4L,?_);intros pt n14 H14 O_ e14;let(T,hT):=JN (nm:=a_.nm) g.nb λb=>G b*ie M b
  let exM:xs.map vl=xN M Z++Z.flatMap λp=>U p.nm:=by
   unfold xN;rw [<-eM,<-eU,My]
  let(wk,ar):=abj (L:=L) g hx exM PU.lU hT;let MG:=mJ.trans (sQ.trans O_);let afp:=sQ.trans O_;let amH:=Wb.trans afp
  let Pg:kT.map (·.1)=S.map λb=>(IL b.nm:Key):=by
   show QZ λi=>?_;rw [CP,CP];let lk:=GX pT;rw [be] at lk;by_cases c:i<kT.length
   ·let o:=gE c
    let(z,ez,B,_):=aw pT o;rw [CP] at ez;let(b,eb,rfl):=JM.mp ez;rw [o,eb];show pU some B
   ·rw [IM ce,IM ce]
    rfl
  show q2 T U Lx M pt dT dU dM kT kU kM H14 amH e14 (s0X.free nT,Wb.free PU.nU,λz=>?_,MG _ _ eT,O_ _ _ PU.hU,Pg,PU.Ph,λb Y=>?_,λN J =>?_,PU.lU,PU.inj) (s08.free nM,(nR.trans (xo.trans MG)) _ _ hM,ks,λN J =>?_) wk (λb Y=>by rw [hT b Y,eG]) ar (λb Y=>?_) (λN J u hu=>?_) λN J =>#[(E N J).1.up cr,(E N J).2.up cr]
  ·have:=PU.nU
   erw [<-z,mJ _ _ eT] at this
  ·let(i,ei):=JG Y
   let pT2:Paired (λ(x:Str×Rat) (A:Key×V)=>A.1=.inr x.1/\dq K CG A.2 (x.2*Ln x.1)) (S.map λb=>(b.nm,G b)) kT:=df pT;let(v,B,I):=jQ (R:=λ(x:Str×Rat) (A:Key×V)=>dq K CG A.2 (x.2*Ln x.1)) pT2 (by rw [nmx];show g.nb) (DA.mpr (b,Y,O));show(v,B,?_);let h3:dq K CG v (G b*Ln b.nm):=I;rw [hLn b Y,<-hT b Y] at h3;show h3.lO MG
  ·let(eK,a1,a2,a3,a4):=PU.tU N J
   show(eK,a1,Wb.free a2,O_ _ _ a3,Paired.b6 a4 λ_ _ z=>z.lO O_)
  ·let(t,v1,v2,B,I,h3,h4):=tM N J
   let sx:=nR.trans (xo.trans MG);show(t,v1,v2,B,sx _ _ I,h3.lO sx,h4.lO sx)
  ·rw [hT b Y]
   show((zG b Y).mul (lenZ b Y)).up cr
  ·let X:∀r∈(xs.map vl).drop (2*Z.length),Sz 1981001 r:=λr Q=>szx r (aj8 Q)
   rw [eU] at X;show(X u (Rj.mpr (N,J,hu))).up cr
 ·intro p y kI ys HA sA ep ey ny ly zy O8 hy1
  show(_,O,p,_,_,_,O,O,bL.of ep,O,O,_,O,bq (λ_=>?_) (λc=>DQ (by simp [rY]) c));let k:=s07.trans sA;let py:=oY ny zy;let lys:ys.length=bc Z+2*Z.length:=by rw [ly,lq]
  have aG9 :kI.length=bc Z+2*Z.length:=by rw [ny.1,lys]
  show(_,O,_,O,p,_,_,_,O,O,bL.of ep,O,_,O,_,O,y,_,O,aT.of ey,?_);rw [jA ce];intros l9 nB HB sB eB;let pyB:Paired (dq K HB) (kI.drop (bc Z)) ((ys.map vl).drop (bc Z)):=Paired.b6 (iA (bc Z) py) λ_ _ z=>z.lO sB;let s0B:=k.trans sB;show(a,l9,Z,S,_,_,O,R.lO s0B,g,eB,pyB,by rw [Zd,be];omega,λM dM kM HC sC eM nM hM ks tM=>#[rT,?_]);intros pt nD HD sD eD
  let eyM:ys.map vl=(ys.map vl).take (bc Z)++xN M Z:=by
   unfold xN;rw [<-eM,My]
  let(mo,wk):=aaG (L:=L) g (λb _=>by rw [eG];show(hg b.nm).1) O8 hy1 eyM (by rw [IY,be];omega);show q1 M pt dM kM HD (s0B.trans (sC.trans sD)) eD (s0B.free nM,sD _ _ hM,ks,λp j=>?_) mo wk λp j=>?_;rotate_left
  ·let X:∀r∈(ys.map vl).drop (bc Z),Sz 2045000 r:=λr Q=>by
    let(q,hq,rfl):=DA.mp (aj8 Q);show SD (zy q hq) ce cr
   rw [eM] at X;show#[X _ (Rj.mpr (p,j,IU)),X _ (Rj.mpr (p,j,IH _ IU))]
  let(t,v1,v2,B,I,h3,h4):=tM p j;show(t,v1,v2,B,sD _ _ I,h3.lO sD,h4.lO sD)
def cell (Z:ξ)(k:Int):Int:=if k<(Z.length:Int) then (Z[k.toNat]?).getD 0 else ((((k+5)*(k+5)*48271).fmod 2147483647)*(((k+5)*(k+5)*48271).fmod 2147483647)).fmod 2147483629
def iC {x m:Int}(h:0<m):0<=x.fmod m/\x.fmod m<m:=#[Qr x h,ajw x h]
inductive jc (K:Frag)(vs:ε)(H:Hp)(Q:VK)(Y:XK):Prop
|mk (a:BK)(Z:ξ)(k:Int)(_:vs=[.ref a,.int k])(_:aT K H a (Z.map V.int))(_:0<=k)(_:k<=1000)(_:Q (.int (cell Z k)) H)
def cell_in {Z:ξ}(U:0<=k)(h:k<(Z.length:Int)):hW (Z.map V.int) k=some (.int (cell Z k)):=by
 let Y:k.toNat<Z.length:=ce
 let X:k=((k.toNat:Nat):Int):=ce
 let q:hW (Z.map V.int) ((k.toNat:Nat):Int)=some (.int (cell Z k)):=bH (by
  unfold cell;rw [ox h,CP,gE Y]
  rfl)
 rwa [<-X] at q
def jZ (h:i.natAbs<2^k):intBits i<=k:=intBits_le_iff.mpr h
def ago (Y:∀i∈Z,intBits i<=1048576)(k:Int):intBits (cell Z k)<=1048576:=by
 unfold cell;split
 ·cases e:Z[k.toNat]? with
  | none=>show intBits_le_iff.mpr (by change 0<2^1048576;show ajX _)
  | some v=>show Y v (Wp e)
 ·have:=iC (x:=((((k+5)*(k+5)*48271).fmod 2147483647)*(((k+5)*(k+5)*48271).fmod 2147483647))) (m:=2147483629) cr
  show EE (jZ (k:=40) (by change _<1099511627776;omega)) cr
def Yr:ay ["_law_script","_law_k","_law_part"] RO (ae Ov):=sq
def afq (D:Def K mg "_law_cell_at" Ov RO)(Q:mg "len"=none):Fn P w K mg lM CX 1 "_law_cell_at" RO (jc K):=by
 show D.oo Yr λH N h=>?_;let(a,Z,k,rfl,T,R,M,q):=h
 show(_,(aa (bw (bE q5 (pv 1) (aJ aG rfl Q bV (aZ (pv 0)))) (ah (aE (bB aU (pv 0) (pv 1)))) aR) (aa (aI 2 Yr.nd (aD eO (aD bX (aD bX (aD bG (pv 1) ag) (aD bG (pv 1) ag)) ag) ag)) (ah (aE (aD eO (aD bX (pv 2) (pv 2)) ag))))),?_)
 let U:(Z.map V.int).length=Z.length:=be _;show(_,O,_,O,a,_,O,.inl T,_,_,O,O,_,O,?_);show bq (λc=>?_) (λc=>?_)
 ·let Y:k<(((Z.map V.int).length:Nat):Int):=Nl c
  rw [U] at Y;show(_,O,_,O,a,_,k,_,O,O,T,cell_in R Y,q)
 ·let Y:¬ k<(((Z.map V.int).length:Nat):Int):=of_decide_eq_false (EN.mpr c)
  rw [U] at Y;let X:intBits (k+5)<=11:=jZ (by change _<2048;omega);let L:=iC (x:=(k+5)*(k+5)*48271) (m:=2147483647) cr;let S:intBits (((k+5)*(k+5)*48271).fmod 2147483647)<=31:=jZ (by change _<2147483648;omega);show(_,O,_,_,O,O,_,O,_,_,O,O,_,_,O,O,#[EE X cr,EE X cr],_,_,O,O,#[EE (VD X X) cr,by decide+kernel],_,_,O,O,nz cr,_,O,_,O,_,_,O,O,#[EE S cr,EE S cr],_,_,O,O,nz cr,?_)
  let e:cell Z k=((((k+5)*(k+5)*48271).fmod 2147483647)*(((k+5)*(k+5)*48271).fmod 2147483647)).fmod 2147483629:=by
   unfold cell;rw [mQ Y]
  rwa [e] at q
def field (c p m:Int):Int:=(((c.fmod p+11)*48271).fmod p).fmod m
def a9 (h:0<m):0<=field c p m/\field c p m<m:=iC h
inductive eQ (vs:ε)(H:Hp)(Q:VK)(Z:XK):Prop
|mk (c p m:Int)(_:vs=[.int c,.int p,.int m])(_:0<p)(_:p<=2000000)(_:0<m)(_:Q (.int (field c p m)) H)
def afr:ay Pb Pb (ae Ow):=sq
def afs (D:Def K mg "_law_field" Ow Pb):Fn P w K mg lM CX 1 "_law_field" Pb eQ:=by
 show D.oo afr λH X h=>?_;let(c,p,m,rfl,Y,Z,U,q):=h;show(_,(ah (aE (aD eO (aD eO (aD bX (aD bG (aD eO (pv 0) (pv 1)) ag) ag) (pv 1)) (pv 2)))),?_);let T:=iC (x:=c) Y;show(_,O,_,O,_,_,O,O,nz ce,_,_,O,O,_,_,O,O,#[EE (jZ (k:=22) (by change _<4194304;omega)) cr,by decide+kernel],_,O,_,_,O,O,nz ce,_,O,_,_,O,O,nz ce,q)
inductive cA (vs:ε)(H:Hp)(Q:VK)(Z:XK):Prop
|mk (t b:Int)(_:vs=[.int t,.int b])(_:0<b)(_:gives H Q (low t b))
def MI:ay ["_law_top","_law_bottom","_law_one","_law_other"] Rr (ae Ox):=sq
def aft (T:P.given.tree=none)(D:Def K mg "_law_lowest" Ox Rr)(R:mg "abs"=none):ac P w K mg lM 33 "_law_lowest" Rr cA:=by
 show D.oo MI λH S h=>?_;let(t,b,rfl,G,q):=h
 show(_,(aa (aI 2 MI.nd (aJ zar rfl R X3 (aZ (pv 0)))) (aa (aI 3 MI.nd (pv 1)) (aa (tJ HG (bE iu (pv 3) ag) (ah (aeh (i:=2) (j:=3) rfl MI.nd rfl rfl cr rfl rfl (aH (pv 3) (aD eO (pv 2) (pv 3))) rfl))) (ah (aE (aS (aH (aD (iM T (Ty.cQ.py S cr) rfl rfl rfl rfl rfl) (pv 0) (pv 2)) (aD (iM T (Ty.cQ.py S cr) rfl rfl rfl rfl rfl) (pv 1) (pv 2))))))))),?_)
 show(_,O,t,O,_,O,?_);show zaw (λY U=>∃x y:Int,Y=[some (.int t),some (.int b),some (.int x),some (.int y)]/\U=H/\0<=x/\0<=y/\JZ x y=JZ t b) (λY _=>match Y with|[_,_,_,some (.int y)]=>y.natAbs|_=>0) (_,b,O,O,?_,ce,?_) ?_ ?_
 ·split<;>omega
 ·split
  ·show Int.neg_gcd
  ·rfl
 ·rintro Y U ⟨x,y,rfl,rfl,I,Q,g⟩
  show(_,O,O,_,O,?_);show bq (λc=>?_) (λc=>?_)
  ·let Z:y≠0:=by
    intro z;subst z;simp at c
   show(_,O,_,O,_,O,_,_,O,O,Z,_,_,O,(_,_,O,O,Q,Qr _ ce,by rwa [zaX]),xk Z)
  ·let Z:y=0:=by
    have:=EN.mpr c;simp at this;show this
   subst Z
   let e:x=sg t b:=by
    rw [akh] at g;unfold sg;rw [mQ ce];unfold gz;rw [<-g];omega
   subst e;let X:b≠0:=ce
   let c:=tV (t:=t) X;show(_,O,_,O,_,_,O,O,c,_,O,_,O,_,_,O,O,c,rT,λp N=>?_);show q p _ (aK N _) ak
 ·rintro Y U C E h ⟨v,J,L,k,M,z⟩
  show(v,J,L,k,M,h _ _ z)
structure Ns (n:Nat)(q:Int×Int):Prop where
 top:q.1.natAbs<=2^n
 bot:q.2.natAbs<=2^n
def Ns.up (h:Ns m q)(l:m<=n):Ns n q:=#[EE h.top (Pd cr l),EE h.bot (Pd cr l)]
def jf (K:Frag)(H:Hp)(v:V)(n:Nat)(r:Rat):Prop:=∃q:Int×Int,kH K H v q/\0<q.2/\vl q=r/\Ns n q
theorem jf.lO (h:jf K H v n r)(s:aq H H'):jf K H' v n r:=by
 let(q,Y,Z):=h;show(q,Y.lO s,Z)
theorem jf.aQ (h:jf K H v n r)(s:bg H H'):jf K H' v n r:=by
 let(q,Y,Z):=h;show(q,Y.aQ s,Z)
theorem jf.up (h:jf K H v m r)(l:m<=n):jf K H v n r:=by
 let(q,U,X,Y,Z):=h;show(q,U,X,Y,Z.up l)
def dI (h:dq K H v r)(z:Zb n r):jf K H v n r:=(qr r,h,cT r,ff r,#[z.top,z.bot])
def gZ (h:Sz k r)(l:k<=n):Zb n r:=#[QM (NU (intBits_le_iff.mp h.top) (Pd cr l)),QM (NU (intBits_le_iff.mp h.bot) (Pd cr l))]
def y8 (h:0<q.2):q.1=0 ↔ vl q=0:=by
 unfold vl;let z:((q.2:Int):Rat)≠0:=dF (Nd h);constructor
 ·intro e
  rw [e];have:((0:Int):Rat)=0:=by rfl
  rw [this];grind
 ·intro e
  apply σ2;intro n;let y:((q.1:Int):Rat)≠0:=dF n;show(by grind:¬ ((q.1:Int):Rat) / ((q.2:Int):Rat)=0) e
def gM (x y:Int×Int):Int×Int:=(x.1*y.2+y.1*x.2,x.2*y.2)
def nE (x y:Int×Int):Int×Int:=(x.1*y.1,x.2*y.2)
def g8 {a b:Int}(Y:a.natAbs<=2^m)(Z:b.natAbs<=2^n):(a*b).natAbs<=2^(m+n):=by
 rw [VH,α1];show U_ Y Z
def ahi (U:0<x.2)(X:0<y.2)(Y:Ns m x)(Z:Ns n y):0<(gM x y).2/\vl (gM x y)=vl x+vl y/\Ns (m+n+1) (gM x y):=by
 show(UX U X,?_,?_,?_)
 ·unfold vl gM
  let R:((x.2:Int):Rat)≠0:=dF (Nd U);let S:((y.2:Int):Rat)≠0:=dF (Nd X);push_cast;grind
 ·let N:=g8 Y.top Z.bot
  let T:=g8 Z.top Y.bot;rw [LC n m] at T;let Q:=yT (x.1*y.2) (y.1*x.2);change (x.1*y.2+y.1*x.2).natAbs<=2^(m+n+1);rw [α2];omega
 ·show EE (g8 Y.bot Z.bot) (Pd cr ce)
def ahE (U:0<x.2)(X:0<y.2)(Y:Ns m x)(Z:Ns n y):0<(nE x y).2/\vl (nE x y)=vl x*vl y/\Ns (m+n) (nE x y):=by
 show(UX U X,?_,g8 Y.top Z.top,g8 Y.bot Z.bot);unfold vl nE;let S:((x.2:Int):Rat)≠0:=dF (Nd U);let T:((y.2:Int):Rat)≠0:=dF (Nd X);push_cast;grind
inductive cx (K:Frag)(f:Int×Int->Int×Int->Int×Int)(vs:ε)(H:Hp)(Q:VK)(Z:XK):Prop
|mk (u v:V)(x y:Int×Int)(m n:Nat)(_:vs=[u,v])(_:kH K H u x)(_:kH K H v y)(_:Ns m x)(_:Ns n y)(_:m+n<=130000000)(_:gives H Q (f x y))
def me (S:jf K H u m x)(T:jf K H v n y)(l:m+n<=130000000)(k:∀(p:BK)(H':Hp),aq H H' ->jf K H' (.ref p) (m+n+1) (x+y)->Q (.ref p) H'):cx K gM [u,v] H Q E:=by
 let(Y,C,D,G,U):=S;let(Z,I,J,L,X):=T;let(M,N,R):=ahi D J U X;show(u,v,Y,Z,m,n,O,C,I,U,X,l,λp H' s e=>k p H' s (gM Y Z,(p,O,bL.of e),M,by rw [N,G,L],R))
def o_ (S:jf K H u m x)(T:jf K H v n y)(l:m+n<=130000000)(k:∀(p:BK)(H':Hp),aq H H' ->jf K H' (.ref p) (m+n) (x*y)->Q (.ref p) H'):cx K nE [u,v] H Q E:=by
 let(Y,C,D,G,U):=S;let(Z,I,J,L,X):=T;let(M,N,R):=ahE D J U X;show(u,v,Y,Z,m,n,O,C,I,U,X,l,λp H' s e=>k p H' s (nE Y Z,(p,O,bL.of e),M,by rw [N,G,L],R))
inductive iD (K:Frag)(vs:ε)(H:Hp)(Q:VK)(Z:XK):Prop
|mk (u:V)(x:Int×Int)(_:vs=[u])(_:kH K H u x)(_:gives H Q (0-x.1,x.2))
def uZ (X:jf K H u m x)(k:∀(p:BK)(H':Hp),aq H H' ->jf K H' (.ref p) m (-x)->Q (.ref p) H'):iD K [u] H Q E:=by
 let(Z,S,T,U,Y):=X;show(u,Z,O,S,λp H' s e=>k p H' s ((0-Z.1,Z.2),(p,O,bL.of e),T,?_,?_,Y.bot))
 ·rw [<-U]
  unfold vl;push_cast;grind
 ·have:=Y.top
  change (0-Z.1).natAbs<=2^m;omega
def afu:ay N4 N4 (ae Oy):=sq
def afv (D:Def K mg "_law_sum" Oy N4):ac P w K mg lM 1 "_law_sum" N4 (cx K gM):=by
 show D.oo afu λH J h=>?_;let(u,v,x,y,m,n,rfl,(U,rfl,S),(X,rfl,T),Y,Z,l,q):=h;show(_,(ah (aE (aS (aH (aD bG (aD iZ (aF (pv 0)) (aF (pv 1))) (aD iZ (aF (pv 1)) (aF (pv 0)))) (aD iZ (aF (pv 0)) (aF (pv 1))))))),_,O,U,_,_,_,O,O,S,i6,_,O,X,_,_,_,O,O,T,iW,_,_,O,O,gU Y.top Z.bot ce,_,O,X,_,_,_,O,O,T,i6,_,O,U,_,_,_,O,O,S,iW,_,_,O,O,gU Z.top Y.bot ce,_,_,O,O,_,O,U,_,_,_,O,O,S,iW,_,O,X,_,_,_,O,O,T,iW,_,_,O,O,gU Y.bot Z.bot ce,rT,?_);intros Q L M R N;show q Q M R N
def afw:ay N4 N4 (ae Oz):=sq
def afx (D:Def K mg "_law_times" Oz N4):ac P w K mg lM 1 "_law_times" N4 (cx K nE):=by
 show D.oo afw λH J h=>?_;let(u,v,x,y,m,n,rfl,(U,rfl,S),(X,rfl,T),Y,Z,l,q):=h;show(_,(ah (aE (aS (aH (aD iZ (aF (pv 0)) (aF (pv 1))) (aD iZ (aF (pv 0)) (aF (pv 1))))))),_,O,U,_,_,_,O,O,S,i6,_,O,X,_,_,_,O,O,T,i6,_,_,O,O,gU Y.top Z.top ce,_,O,U,_,_,_,O,O,S,iW,_,O,X,_,_,_,O,O,T,iW,_,_,O,O,gU Y.bot Z.bot ce,rT,?_);intros Q L M R N;show q Q M R N
def afy:ay VU VU (ae OA):=sq
def afz (D:Def K mg "_law_turned" OA VU):ac P w K mg lM 1 "_law_turned" VU (iD K):=by
 show D.oo afy λH Q h=>?_;let(u,x,rfl,(Z,rfl,Y),q):=h;show(_,(ah (aE (aS (aH (aD cB ag (aF (pv 0))) (aF (pv 0)))))),_,O,Z,_,_,_,O,O,Y,i6,_,_,O,O,_,O,Z,_,_,_,O,O,Y,iW,rT,?_);intros U R S X T;show q U S X T
def nameOf (st a k:Int):Str:=if st=0 then Txt.mul "p" (k+1) else if st=3 then Txt.mul "p" (14-k) else if st=1 then Txt.mul "p" a++#[(List.toArray [(hW (Pc "bcdefghijklm").cps.toList k).getD 0])]++Txt.mul "p" (5-a) else Txt.slice "12345" none (some a)++(toString k:String)
def ak7:∀st:Fin 4,∀a:Fin 6,∀k:Fin 12,∀j:Fin 12,k≠j->nameOf (st.val:Int) (a.val:Int) (k.val:Int)≠nameOf (st.val:Int) (a.val:Int) (j.val:Int):=by decide+kernel
def u3:∀st:Fin 4,∀a:Fin 6,∀k:Fin 12,nameOf (st.val:Int) (a.val:Int) (k.val:Int)≠ "late":=by decide+kernel
def aaJ:∀n:Fin 20,MulOk "p" (n.val:Int):=by
 intro n;unfold MulOk
 revert n
 decide+kernel
def aaK:∀k:Fin 12,hW (Pc "bcdefghijklm").cps.toList (k.val:Int)=some ((hW (Pc "bcdefghijklm").cps.toList (k.val:Int)).getD 0):=by decide+kernel
def aha:∀a:Fin 6,∀k:Fin 12,(Txt.mul "p" (a.val:Int)).length+(#[(List.toArray [(hW (Pc "bcdefghijklm").cps.toList (k.val:Int)).getD 0])]:Str).length<=1000/\
  (Txt.mul "p" (a.val:Int)++(#[(List.toArray [(hW (Pc "bcdefghijklm").cps.toList (k.val:Int)).getD 0])]:Str)).length+(Txt.mul "p" (5-(a.val:Int))).length<=1000/\(Txt.slice "12345" none (some (a.val:Int))).length+(Pc (toString (k.val:Int))).length<=1000:=by decide+kernel
inductive y_ (vs:ε)(H:Hp)(Q:VK)(Z:XK):Prop
|mk (c k:Int)(_:vs=[.int c,.int k])(_:0<=k)(_:k<12)(_:∀H',aq H H' ->Q (.str (nameOf (field c 3001 4) (field c 4001 6) k)) H')
def SH:ay ["_law_cell","_law_k","_law_at","_law_some"] u6 (ae OB):=sq
def afA (D:Def K mg "_law_name" OB u6)(I:mg "str"=none)(T:ac P w K mg lM 1 "_law_field" Pb eQ):ac P w K mg lM 2 "_law_name" u6 y_:=by
 show D.oo SH λH U h=>?_;let(c,k,rfl,C,M,q):=h
 show(_,(aa (aI 2 SH.nd (aL T U (bu (pv 0) ag ag))) (aa (aI 3 SH.nd (bY (iL (aD sM dB (aD bG (pv 1) ag)) (bu (aD mU (aD mU (aD sM dB (pv 2)) (bB adW dB (pv 1))) (aD sM dB (aD cB ag (pv 2)))) (aD mU (cJ ahJ dB dS (c_ (pv 2))) (cv ag5 rfl I ac4 (aZ (pv 1)))) (aD sM dB (aD cB ag (pv 1))))))) (ah (aE (bB aU (pv 3) (aL T U (bu (pv 0) ag ag))))))),?_)
 let N:=a9 (c:=c) (p:=3001) (m:=4) cr;let Q:=a9 (c:=c) (p:=4001) (m:=6) cr;show(_,O,_,_,_,O,cr,cr,cr,?_);generalize field c 4001 6=a at Q q ⊢;obtain ⟨Y,rfl⟩:∃n:Nat,k=(n:Int):=#[k.toNat,ce];obtain ⟨J,rfl⟩:∃n:Nat,a=(n:Int):=#[a.toNat,ce]
 let mk:∀i:Int,0<=i->i<20->MulOk "p" i:=λi a b=>by
  have:=aaJ #[i.toNat,ce]
  rwa [show((#[i.toNat,ce]:Fin 20).val:Int)=i by change ((i.toNat:Nat):Int)=i;omega] at this
 let X:=aha #[J,ce] #[Y,ce];let R:(Y:Int).natAbs.log2<1920:=IG (Nat.log2_le_self _) (by change Y<1920;omega);show(_,O,_,_,O,O,_,_,O,O,mk _ ce ce,_,O,_,_,O,O,mk _ ce ce,_,O,_,_,_,O,O,(by decide+kernel),aaK #[Y,ce],_,_,O,O,EE X.1 cr,_,O,_,_,O,O,_,_,O,O,mk _ ce ce,_,_,O,O,EE X.2.1 cr,_,O,_,O,_,O,(by decide+kernel),_,O,_,O,R,_,_,O,O,EE X.2.2 cr,_,O,_,_,O,O,_,_,O,O,mk _ ce ce,z4L,?_);intros l E G S L;show(_,O,_,O,_,_,_,O,cr,cr,cr,?_);generalize field c 3001 4=st at N q ⊢;obtain ⟨Z,rfl⟩:∃n:Nat,st=(n:Int):=#[st.toNat,ce];show(l,_,_,_,O,O,aT.of L,?_,q G S);obtain rfl|rfl|rfl|rfl:Z=0\/Z=1\/Z=2\/Z=3:=ce
 all_goals rfl
def j6 (ws:Ν):Prop:=ws=[]\/(∃x y:Rat,ws=[(x,y)]/\¬ (x=0/\y=0)/\Sz 22 x/\Sz 22 y)\/ws=[(1,0),(0,1)]
def u4 (i:Int)(h:H p=some (.tup [.int i,.int 1])):dq K H (.ref p) (i:Rat):=(p,O,by rw [qA];show bL.of h)
def iT (h:H p=some (.tup [.int (qr r).1,.int (qr r).2])):dq K H (.ref p) r:=(p,O,bL.of h)
def rK (h:H p=some (.tup [u,v]))(Y:dq K H u r)(Z:dq K H v s):fL K H (.ref p) (r,s):=(p,u,v,O,bL.of h,Y,Z)
def lH {i:Int}(h:i.natAbs<1048576)(Z:20<=k):Sz k (i:Rat):=jO (NU h (show 2^20<=2^k from Pd cr Z)) ce
def ph {t b:Int}(h:0<b)(Y:t.natAbs<1048576)(Z:b<1048576):Sz 20 ((t:Rat) / (b:Rat)):=uC (Nd h) (intBits_le_iff.mpr (by change _<1048576;omega)) (intBits_le_iff.mpr (by change _<1048576;omega))
def ahb {t b:Int}(Z:0<b)(h:t<=500002):(t:Rat) / (b:Rat)<=500002:=by
 have X :(0:Rat)<(b:Rat):=by
  have:=Q9.mpr Z;simpa using this
 let Y:t<=500002*b:=by
  have:(500002:Int)*1<=500002*b:=Int.mul_le_mul_of_nonneg_left ce cr;omega
 let T:(t:Rat)<=500002*(b:Rat):=by
  have:=ajh.mpr Y;simpa using this
 let e:(t:Rat) / (b:Rat)*(b:Rat)=(t:Rat):=by
  let S:(b:Rat)≠0:=by grind
  grind
 generalize (t:Rat) / (b:Rat)=z at e;by_cases c:z<=500002
 ·show c
 ·let U:500002<z:=by grind
  have:=Rat.mul_lt_mul_of_pos_right U X;grind
def Nr (r:Rat):Prop:= -500002<=r/\r<=500002
def pj {t b:Int}(Z:0<b)(h:t.natAbs<=500002):Nr ((t:Rat) / (b:Rat)):=by
 show#[?_,ahb Z ce];have:=ahb (t:= -t) Z ce
 let e:((-t:Int):Rat) / (b:Rat)= -((t:Rat) / (b:Rat)):=by
  push_cast;grind
 rw [e] at this;grind
def ajx {i:Int}(h:i.natAbs<=500002):Nr (i:Rat):=by
 have:=pj (b:=1) cr h
 let e:(i:Rat) / ((1:Int):Rat)=(i:Rat):=by
  have:((1:Int):Rat)=1:=rfl;grind
 rwa [e] at this
inductive za (K:Frag)(vs:ε)(H:Hp)(Q:VK)(Z:XK):Prop
|mk (c k:Int)(_:vs=[.int c,.int k])(_:0<=k)(_:k<6)(_:∀(p:BK)(x y:Rat)(H':Hp),aq H H' ->Sz 20 x->Sz 20 y->Nr x/\Nr y->fL K H' (.ref p) (x,y)->Q (.ref p) H')
def MK:ay ["_law_cell","_law_kind","_law_x","_law_bottoms"] CO (ae OD):=sq
def afB (D:Def K mg "_law_spot" OD CO)(X:ac P w K mg lM 1 "_law_field" Pb eQ)(J:ac P w K mg lM 33 "_law_lowest" Rr cA):ac P w K mg lM 34 "_law_spot" CO (za K):=by
 show D.oo MK λH Z h=>?_;let(c,k,rfl,k0,k6,q):=h;let L2:2<=DC:=cr
 show(_,(aa (bw (bE q5 (pv 1) ag) (ah (aE (aS (aH (aS (aH (aL X Z (bu (pv 0) ag ag)) ag)) (aS (aH (aL X Z (bu (pv 0) ag ag)) ag)))))) aR) (aa (bw (bE q5 (pv 1) ag) (aa (aI 2 MK.nd (aL J Z (aH (aD cB (aL X Z (bu (pv 0) ag ag)) ag) (aD bG ag (aL X Z (bu (pv 0) ag ag)))))) (ah (aE (aS (aH (pv 2) (aL J Z (aH (aD cB (aL X Z (bu (pv 0) ag ag)) ag) (aD bG ag (aL X Z (bu (pv 0) ag ag)))))))))) aR) (aa (aI 3 MK.nd (bB aU (bY (aH (aS (aH ag ag)) (aS (aH (aD bG ag (aL X Z (bu (pv 0) ag ag))) (aD bG ag (aL X Z (bu (pv 0) ag ag))))))) (aD cB (pv 1) ag))) (aa (aI 2 MK.nd (aL J Z (aH (aD cB (aL X Z (bu (pv 0) ag ag)) ag) (aF (pv 3))))) (ah (aE (aS (aH (pv 2) (aL J Z (aH (aD cB (aL X Z (bu (pv 0) ag ag)) ag) (aF (pv 3)))))))))))),?_);sleep 4
 show(_,O,_,_,O,O,_,O,?_);show bq (λ_=>?_) (λ_=>?_)
 ·let j:=a9 (c:=c) (p:=1009) (m:=4) cr
  let o:=a9 (c:=c) (p:=2003) (m:=4) cr;show(_,O,_,_,_,O,cr,cr,cr,L2,?_);intros x n1 f R S;show(_,O,_,_,_,O,cr,cr,cr,L2,?_);intros y n2 g U T;show#[L2,?_];intros N u L Y M;show q N _ _ L ((R.trans U).trans Y) (lH ce cr) (lH ce cr) #[ajx ce,ajx ce] (rK M (((u4 _ S).lO U).lO Y) ((u4 _ T).lO Y))
 show(_,O,_,_,O,O,_,O,?_);show bq (λ_=>?_) (λc4=>?_)
 ·let j:=a9 (c:=c) (p:=1009) (m:=13) cr
  let o:=a9 (c:=c) (p:=3001) (m:=3) cr;let i3:=a9 (c:=c) (p:=2003) (m:=13) cr;let i4:=a9 (c:=c) (p:=4001) (m:=2) cr;show(_,O,_,_,_,O,cr,cr,cr,_,_,O,O,_,O,_,_,_,O,cr,cr,cr,_,_,O,O,_,_,O,ce,λx f R S=>?_);rw [gd ce] at S;show(_,O,_,O,_,_,_,O,cr,cr,cr,_,_,O,O,_,O,_,_,_,O,cr,cr,cr,_,_,O,O,_,_,O,ce,λy g U T=>#[L2,?_]);rw [gd ce] at T;intros N u L Y M;show q N _ _ L ((R.trans U).trans Y) (ph ce ce ce) (ph ce ce ce) #[pj ce ce,pj ce ce] (rK M (((iT S).lO U).lO Y) ((iT T).lO Y))
 ·let c4':¬ k<4:=λz=>c4 (NI z)
  let j:=a9 (c:=c) (p:=1000003) (m:=1000003) cr;let o:=a9 (c:=c) (p:=3001) (m:=997) cr;let i3:=a9 (c:=c) (p:=1000033) (m:=1000003) cr;let i4:=a9 (c:=c) (p:=4001) (m:=997) cr;show#[L2,?_];intros A m1 J1 b f1;show(_,O,_,_,_,O,cr,cr,cr,_,_,O,O,_,O,_,_,_,O,cr,cr,cr,_,_,O,O,L2,?_);intros B m2 J2 C f2;show#[L2,?_];intros a m3 J3 E f3
  obtain ⟨Q,G,I,eb,i,h1,h2,h3,h4⟩:∃(Q:BK)(G I:Int),hW [V.ref A,V.ref B] (k-4)=some (.ref Q)/\J3 Q=some (.tup [.int G,.int I])/\0<G/\G<=997/\0<I/\I<=997:=by
   rcases (show k=4\/k=5 by omega) with e|e
   ·show(A,1,1,by rw [e];rfl,E _ _ (C _ _ f1),cr,cr,cr,cr)
   ·show(B,_,_,by rw [e];rfl,E _ _ f2,ce,ce,ce,ce)
  show(_,O,_,_,O,O,a,_,_,_,O,O,aT.of f3,eb,_,O,_,_,_,O,cr,cr,cr,_,_,O,O,_,O,Q,_,_,_,O,O,bL.of i,i6,_,_,O,ce,λx f R S=>?_);rw [gd ce] at S;show(_,O,_,O,_,_,_,O,cr,cr,cr,_,_,O,O,_,O,Q,_,_,_,O,O,bL.of (R _ _ i),iW,_,_,O,ce,λy g U T=>#[L2,?_]);rw [gd ce] at T;intros N u L Y M;show q N _ _ L ((b.trans (C.trans E)).trans ((R.trans U).trans Y)) (ph ce ce ce) (ph ce ce ce) #[pj ce ce,pj ce ce] (rK M (((iT S).lO U).lO Y) ((iT T).lO Y))
inductive s_ (K:Frag)(vs:ε)(H:Hp)(Q:VK)(Z:XK):Prop
|mk (c:Int)(_:vs=[.int c])(_:∀(l:BK)(us:ε)(ws:Ν)(H':Hp),j6 ws->aq H H' ->H l=none->H' l=some (.lst us)->jP K H' us ws->Q (.ref l) H')
def agz :(qr r).1=0 ↔ r=0:=#[oR,λe=>by rw [e,cF]]
def DY:ay ["_law_cell","_law_kind","_law_x","_law_y"] rZ (ae OE):=sq
def afC (D:Def K mg "_law_ways" OE rZ)(cS:ac P w K mg lM 1 "_law_field" Pb eQ)(kE:ac P w K mg lM 33 "_law_lowest" Rr cA):ac P w K mg lM 34 "_law_ways" rZ (s_ K):=by
 show D.op DY λf cH A mO s H vs Q E g h=>?_;let(c,rfl,q):=h;let L0:0<=DC:=cr
 let L1:1<=DC:=cr
 let L2:2<=DC:=cr
 show(_,(aa (aI 1 DY.nd (aL cS g (bu (pv 0) ag ag))) (aa (bw (bE q5 (pv 1) ag) (ah (aE (cJ fj (bY (aH (aS (aH (aS (aH ag ag)) (aS (aH ag ag)))) (aS (aH (aS (aH ag ag)) (aS (aH ag ag)))))) dS (c_ (aD bX (aD oC (pv 1) ag) ag))))) aR) (aa (aI 2 DY.nd (aL kE g (aH (aD cB (aL cS g (bu (pv 0) ag ag)) ag) (aD bG ag (aL cS g (bu (pv 0) ag ag)))))) (aa (aI 3 DY.nd (aS (aH (aD cB (aL cS g (bu (pv 0) ag ag)) ag) ag))) (aa (bw (PW.pt (tI (bE gm (aF (pv 2)) ag) (nY (bE gm (aF (pv 3)) ag)))) (ah (aI 3 DY.nd (aS (aH ag ag)))) aR) (ah (aE (bY (aZ (aS (aH (pv 2) (pv 3)))))))))))),?_);sleep 4
 show(_,O,_,_,_,O,cr,cr,cr,?_);let ik:=a9 (c:=c) (p:=5003) (m:=6) cr;generalize field c 5003 6=U at ik ⊢;show(_,O,_,_,O,O,_,O,?_);show bq (λz=>?_) (λ_=>?_)
 ·let z:U<4:=Nl z
  show#[L2,?_];intros p1 n1 H1 s1 e1;show#[L2,?_];intros k n2 H2 o B;show#[L2,?_];intros p3 n3 S T e3;show#[L2,?_];intros G n4 H4 Y L;show#[L2,?_];intros p5 C X Z M;show#[L2,?_];intros p6 n6 H6 I e6;show#[L2,?_];intros p7 n7 H7 R e7;let sh:=s1.trans (o.trans (T.trans (Y.trans (Z.trans (I.trans R)))));let w1:fL K H7 (.ref p3) (1,0):=rH qL cF (R _ _ (I _ _ (Z _ _ (Y _ _ e3)))) (R _ _ (I _ _ (Z _ _ (Y _ _ (T _ _ (o _ _ e1)))))) (R _ _ (I _ _ (Z _ _ (Y _ _ (T _ _ B)))));let w2:fL K H7 (.ref p6) (0,1):=rH cF qL (R _ _ e6) (R _ _ (I _ _ (Z _ _ L))) (R _ _ (I _ _ M))
  obtain a|a:U.fdiv 2=0\/U.fdiv 2=1:=by
   rw [Int.fdiv_eq_ediv_of_nonneg _ cr];omega
  ·show(_,O,_,_,O,O,#[cr,by decide+kernel],_,_,O,O,by rw [a];show#[by decide+kernel,by decide+kernel],_,O,p7,_,O,aT.of e7,?_)
   rw [a];intros l8 n8 H8 u e8;show q l8 [] [] _ (.inl rfl) (sh.trans u) (sh.free n8) e8 .nil
  ·show(_,O,_,_,O,O,#[cr,by decide+kernel],_,_,O,O,by rw [a];show#[by decide+kernel,by decide+kernel],_,O,p7,_,O,aT.of e7,?_)
   rw [a];intros l8 n8 H8 u e8;show q l8 _ [(1,0),(0,1)] _ (.inr (.inr rfl)) (sh.trans u) (sh.free n8) e8 (.cons (w1.lO u) (.cons (w2.lO u) .nil))
 let i1:=a9 (c:=c) (p:=6007) (m:=7) cr;let i2:=a9 (c:=c) (p:=7001) (m:=3) cr;let i3:=a9 (c:=c) (p:=8009) (m:=7) cr;show(_,O,_,_,_,O,cr,cr,cr,_,_,O,O,_,O,_,_,_,O,cr,cr,cr,_,_,O,O,_,_,O,ce,λp1 H1 s1 e1=>?_);rw [gd ce] at e1;show(_,O,_,_,_,O,cr,cr,cr,_,_,O,O,L2,?_);intros k n2 H2 o f2;let B:H2 k=some (.tup [.int (qr ((field c 8009 7-3:Int):Rat)).1,.int (qr ((field c 8009 7-3:Int):Rat)).2]):=by rwa [qA]
 let z1:=ph (t:=field c 6007 7-3) (b:=1+field c 7001 3) ce ce ce;let z2:Sz 20 ((field c 8009 7-3:Int):Rat):=lH ce cr;generalize ((field c 6007 7-3:Int):Rat) / ((1+field c 7001 3:Int):Rat)=x at e1 z1 ⊢;clear f2;generalize ((field c 8009 7-3:Int):Rat)=y at B z2;have NA :=o _ _ e1;let mJ:=s1.trans o
 let N:∀(v:V)(J:Rat)(S:Hp),aq H2 S->dq K S v J ->Sz 22 J ->¬ (x=0/\J=0)->∀(p:BK)(l:BK)(X:Hp),aq S X->S l=none->X p=some (.tup [.ref p1,v])->X l=some (.lst [.ref p])->Q (.ref l) X:=λv J S T hv zy hn p l X Z nl ep el=>
  q l [.ref p] [(x,J)] X (.inr (.inl (x,J,O,hn,z1.up cr,zy))) (mJ.trans (T.trans Z)) ((mJ.trans T).free nl) el (.cons (rK ep (((iT NA).lO T).lO Z) (hv.lO Z)) .nil)
 show(_,O,p1,_,_,_,O,O,bL.of NA,i6,O,_,O,?_);show bq (λc1=>?_) (λc1=>?_)
 ·let c1':x=0:=agz.mp (by simpa using Nl c1)
  show(_,O,k,_,_,_,O,O,bL.of B,i6,O,_,O,?_);show bq (λc2=>?_) (λc2=>?_)
  ·show#[L2,?_]
   intros p3 n3 S T e3;show(_,O,_,O,L2,?_);intros G n4 H4 Y L;show#[L1,?_];intros j C X Z M;show N (.ref p3) 1 S T (u4 1 e3) (lH (i:=1) cr cr) (λz=>DQ z.2 cr) G j X (Y.trans Z) (Y.free C) (Z _ _ L) M
  ·let c2':¬ y=0:=λz=>c2 (by rw [z,cF];decide)
   show(_,O,_,O,L2,?_);intros G n4 H4 Y L;show#[L1,?_];intros j C X Z M;show N (.ref k) y H2 (aq.refl _) (iT B) (z2.up cr) (λz=>c2' z.2) G j X (Y.trans Z) (Y.free C) (Z _ _ L) M
 ·let c1':¬ x=0:=λz=>c1 (by rw [z,cF];decide)
  show Vk ?_;show(_,O,_,O,L2,?_);intros G n4 H4 Y L;show#[L1,?_];intros j C X Z M;show N (.ref k) y H2 (aq.refl _) (iT B) (z2.up cr) (λz=>c1' z.1) G j X (Y.trans Z) (Y.free C) (Z _ _ L) M
inductive mC (K:Frag)(H:Hp)(d:BK)(v:V)(p:aC):Prop
|mk (a l:BK)(s:V)(us:ε)(_:v=.ref a)(_:bL K H a [.str p.nm,s,.ref l])(_:fL K H s p.sp)(_:H l=some (.lst us))(_:jP K H us p.ws)(_:l≠d)
inductive iX (K:Frag)(H:Hp)(v:V)(p:aC):Prop
|mk (a l:BK)(s:V)(us:ε)(_:v=.ref a)(_:bL K H a [.str p.nm,s,.ref l])(_:fL K H s p.sp)(_:H l=some (.lst us))(_:jP K H us p.ws)
inductive j7 (K:Frag)(H:Hp)(pX:ι)(v:V)(b:a_):Prop
|mk (a:BK)(i j:Nat)(_:v=.ref a)(_:bL K H a [.str b.nm,.int (i:Int),.int (j:Int)])(_:pX[i]?=some b.one)(_:pX[j]?=some b.mP)
section
variable {K:Frag}{H H':Hp}{v:V}{p:aC}{d:BK}
theorem mC.lO (h:mC K H d v p)(s:aq H H'):mC K H' d v p:=by
 let(a,l,Y,Z,e,R,S,T,U,X):=h;show(a,l,Y,Z,e,Ty.aq.bS s R,S.lO s,s _ _ T,U.lO s,X)
theorem mC.upd (h:mC K H d v p)(e:H d=some (.lst xs)):mC K (L2.upd H d o) d v p:=by
 let(a,l,X,Y,ev,S,T,R,U,Z):=h;let t:bg H (L2.upd H d o):=.list e;show(a,l,X,Y,ev,t.bS S,T.aQ t,by rwa [aj Z],U.aQ t,Z)
def mC.r (h:mC K H d v p):iX K H v p:=by
 let(a,l,Y,Z,e,S,T,U,X,_):=h;show(a,l,Y,Z,e,S,T,U,X)
theorem iX.lO (h:iX K H v p)(s:aq H H'):iX K H' v p:=by
 let(a,l,Y,Z,e,S,T,U,X):=h;show(a,l,Y,Z,e,Ty.aq.bS s S,T.lO s,s _ _ U,X.lO s)
def j7.lO (h:j7 K H pX v b)(s:aq H H'):j7 K H' pX v b:=by
 let(a,i,j,e,X,Y,Z):=h;show(a,i,j,e,Ty.aq.bS s X,Y,Z)
end
structure gx (pX:ι):Prop where
 np:(pX.map (·.nm)).Nodup
 ns:(pX.map (·.sp)).Nodup
 sz:∀p∈pX,Sz 44 p.sp.1/\Sz 44 p.sp.2
 ws:∀p∈pX,j6 p.ws
def j6.sz (h:j6 ws):∀w∈ws,Sz 22 w.1/\Sz 22 w.2:=λw Z=>by
 rcases h with rfl|⟨x,y,rfl,_,T,U⟩|rfl
 ·cases Z
 ·have:w=(x,y):=by simpa using Z
  rw [this];show#[T,U]
 ·let Y:Sz 22 (1:Rat):=lH (k:=22) (i:=1) cr cr
  let X:Sz 22 (0:Rat):=dk cr;have:w=(1,0)\/w=(0,1):=by simpa using Z
  rcases this with rfl|rfl
  ·show#[Y,X]
  ·show#[X,Y]
def j6.len (h:j6 ws):ws.length<=2:=by
 rcases h with rfl|⟨x,y,rfl,_⟩|rfl<;>simp
def gx.snoc (g:gx pX)(R:p.nm∉pX.map (·.nm))(S:p.sp∉pX.map (·.sp))(T:Sz 44 p.sp.1/\Sz 44 p.sp.2)(U:j6 p.ws):gx (pX++[p]):=by
 show(?_,?_,λq Z=>?_,λq Z=>?_)
 ·rw [II,Wt]
  show(g.np,by simp,λa X b Y e=>R ?_);have:b=p.nm:=by simpa using Y
  rwa [<-this,<-e]
 ·rw [II,Wt]
  show(g.ns,by simp,λa X b Y e=>S ?_);have:b=p.sp:=by simpa using Y
  rwa [<-this,<-e]
 ·rcases HZ.mp Z with z|z
  ·show g.sz q z
  ·rw [HU.mp z]
   show T
 ·rcases HZ.mp Z with z|z
  ·show g.ws q z
  ·rw [HU.mp z]
   show U
structure pC (pX:ι)(gV:τ):Prop where
 nb:(gV.map (·.nm)).Nodup
 ends:∀b∈gV,b.one∈pX/\b.mP∈pX/\b.one.nm≠b.mP.nm
theorem g_ :∀{Y:List Z} {X:List β} {a:Z} {b:β},Paired F Y X->F a b->Paired F (Y++[a]) (X++[b])
 | _,_,_,_,.nil,h=>.cons h .nil
 | _,_,_,_,.cons h t,h'=>.cons h (g_ t h')
def cu (inv:L2.St->Hp->Prop)(U:∀N:L2.St->Hp->Prop,(∀Z H',inv Z H' ->N Z H')->t {D with nx:=N} Y H)(X:∀Z H',inv Z H' ->u D Z H'):HJ t u D Y H:=U _ X
def afD (g:gx pX)(b:pC pX gV)(Y:pX.length<=9)(X:gV.length<=14):d_ pX gV:=
 (g.np,b.nb,b.ends,λp Z=>((g.sz p Z).1,(g.sz p Z).2,(g.ws p Z).sz),Y,X,λp Z=>(g.ws p Z).len)
def afE:NW "min"=some (.builtin "min"):=by decide+kernel
def cnt (pX:ι)(x:Rat):Nat:=(pX.filter λp=>decide (x<=p.sp.1)).length
theorem SJ (x:Rat):∀pX:List aC,cnt pX (x+1)<=cnt pX x
 | []=>DH _
 | p::ps=>by
  let Z:=SJ x ps;unfold cnt at Z ⊢;rw [Vp,Vp];by_cases c:x+1<=p.sp.1
  ·let Y:x<=p.sp.1:=by grind
   rw [ox (NI c),ox (NI Y)];simpa using Z
  ·rw [mQ (by simpa using c)]
   split
   ·rw [NX]
    omega
   ·show Z
theorem SK :∀{pX:ι},(∃p∈pX,p.sp.1=x)->cnt pX (x+1)<cnt pX x
 | [],⟨p,h,_⟩=>by simp at h
 | p::ps,⟨q,U,e⟩=>by
  unfold cnt;rw [Vp,Vp];by_cases T:p.sp.1=x
  ·let c:¬ x+1<=p.sp.1:=by grind
   let Y:x<=p.sp.1:=by grind
   rw [mQ (by simpa using c),ox (NI Y),NX];have:=SJ x ps;unfold cnt at this;omega
  ·have X :q∈ps:=by
    rcases JP.mp U with z|z
    ·show DQ (by rwa [<-z]) T
    ·show z
   let Z:=SK (pX:=ps) (q,X,e);unfold cnt at Z;by_cases c:x+1<=p.sp.1
   ·let Y:x<=p.sp.1:=by grind
    rw [ox (NI c),ox (NI Y)];simpa using Z
   ·rw [mQ (by simpa using c)]
    split
    ·rw [NX]
     omega
    ·show Z
def agV (pX:ι)(x:Rat):cnt pX x<=pX.length:=Mz _ _
def agH (r:Rat):gM (qr r) (1,1)=qr (r+1):=by
 let e:gM (qr r) (1,1)=((qr r).1+(qr r).2,(qr r).2):=by
  unfold gM;simp
 let g:JZ ((qr r).1+(qr r).2) (qr r).2=1:=by
  have:=m8 r;rw [<-this];simp
 rw [e,uB (q:=((qr r).1+(qr r).2,(qr r).2)) (cT r) g];congr 1;let z:=yx (r:=r);let v:=ff r;unfold vl at v ⊢;push_cast;grind
def Ys (h:Sz k r):Ns k (qr r):=#[QM (intBits_le_iff.mp h.top),QM (intBits_le_iff.mp h.bot)]
def ag4:∀i:Fin 10,∃N:Fin 5,hW [V.int 0,.int 1,.int 2,.int 2,.int 3,.int 3,.int 3,.int 3,.int 4,.int 4] (i.val:Int)=some (.int (N.val:Int)):=by decide+kernel
def aff:∀i:Fin 6,∃N:Fin 5,hW [V.int 4,.int 4,.int 4,.int 4,.int 3,.int 2] (i.val:Int)=some (.int (N.val:Int)):=by decide+kernel
inductive ze (K:Frag)(vs:ε)(H:Hp)(Q:VK)(U:XK):Prop
|mk (Z:BK)(Y:ξ)(X:Nat)(_:vs=[.ref Z,.int (X:Int)])(_:aT K H Z (Y.map V.int))(_:∀(l:BK)(us:ε)(pX:ι)(H':Hp),aq H H' ->H l=none->H' l=some (.lst us)->Paired (mC K H' l) us pX->gx pX->pX.length<=6->(∀p∈pX,p.nm≠ "late"/\(Sz 20 p.sp.2/\Nr p.sp.2)/\ -500002<=p.sp.1)->Q (.ref l) H')
def mL:ay ["_law_script","_law_most","_law_cell","_law_kind","_law_many","_law_pins_here","_law_k","_law_spot_here"] CS (ae OF):=sq
def afF (D:Def K mg "_law_pins" OF CS)(ba:mg "range"=none)(SM:mg "min"=none)(j8:ac P w K mg lM 1 "_law_cell_at" RO (jc K))(cS:ac P w K mg lM 1 "_law_field" Pb eQ)
  (amJ:ac P w K mg lM 34 "_law_spot" CO (za K)) (aaL:ac P w K mg lM 34 "_law_ways" rZ (s_ K)) (aaM:ac P w K mg lM 2 "_law_name" u6 y_) (nH:ac P w K mg lM 1 "_law_sum" N4 (cx K gM)):
  ac P w K mg lM 35 "_law_pins" CS (ze K):=by
 show D.oo mL λH J h=>?_;let(B,ns,mo,rfl,hS,q):=h;let L2:2<=DC:=cr
 let L3:3<=DC:=cr
 show(_,(aa (aI 2 mL.nd (aL j8 J (aH (pv 0) ag))) (aa (aI 3 mL.nd (aL cS J (bu (pv 2) ag ag))) (aa (aI 4 mL.nd (bB aU (bY (iL ag (iL ag (iL ag (iL ag (iL ag (iL ag (iL ag (bu ag ag ag))))))))) (aL cS J (bu (pv 2) ag ag)))) (aa (aI 4 mL.nd (aJ (abX rfl) rfl SM afE (bu (pv 4) (bB aU (bY (iL ag (iL ag (iL ag (bu ag ag ag))))) (pv 3)) (pv 1)))) (aa (bw (PW.pt (tI (bE q5 (pv 3) ag) (nY (bE gm (aL cS J (bu (pv 2) ag ag)) ag)))) (ah (aI 4 mL.nd ag)) aR) (aa (aI 5 mL.nd (bY mW)) (aa (bh HG rfl (bK rfl ba (aZ (pv 4))) (bI 6 mL.nd) (aa (aI 7 mL.nd (aL amJ J (aH (aL j8 J (aH (pv 0) (aD bG ag (pv 6)))) (pv 3)))) (aa (tJ HG (n_ (ahr J.units) (pv 7) (dX (tn:=r6) (fr:=[]) (pO:=[]) (bo (pv 5)) (bB (cN (K:=K) rfl) (pv 0) ag)) rfl) (ah (aI 7 mL.nd (aS (aH (aL nH J (aH (aF (pv 7)) (aS (aH ag ag)))) (aF (pv 7))))))) (ah (bD (kg Qo Sl SX dD (pv 5) (aZ (aS (bu (aL aaM J (aH (pv 2) (pv 6))) (pv 7) (aL aaL J (aZ (aL j8 J (aH (pv 0) (aD bG ag (pv 6))))))))))))))) (ah (aE (pv 5)))))))))),?_);try dsimp only [vw,mi,Cx.BE,Cx.vS]
 show(_,O,B,ns,0,O,hS,cr,cr,?_);generalize cell ns 0=Z;let ik:=a9 (c:=Z) (p:=2003) (m:=6) cr;show(_,O,_,_,_,O,cr,cr,cr,?_);generalize field Z 2003 6=A at ik ⊢;obtain ⟨kn,rfl⟩:∃n:Nat,A=(n:Int):=#[A.toNat,ce];show#[z10L,?_];intros t0 nt0 H0 st0 et0;let i1:=a9 (c:=Z) (p:=1009) (m:=10) cr;show(_,O,_,_,_,O,cr,cr,cr,?_);generalize field Z 1009 10=fi at i1 ⊢;obtain ⟨fn,rfl⟩:∃n:Nat,fi=(n:Int):=#[fi.toNat,ce];let(N1,eN1):=ag4 #[fn,ce];show(t0,_,_,_,O,O,aT.of et0,eN1,_,O,z6L,?_);intros t1 nt1 Hm T1 et1;let(N2,eN2):=aff #[kn,ce];show(_,O,t1,_,_,_,O,O,aT.of et1,eN2,_,O,_,_,_,O,λm hm m1 m2 m3=>?_);obtain ⟨N,rfl⟩:∃n:Nat,m=(n:Int):=#[m.toNat,ce];let hN:N<=6:=by have:=N1.isLt;omega
 let afG:=st0.trans T1;dsimp only [cE];show cu (λY' S=>∃N':Nat,S=Hm/\N' <=6/\Y' =[some (.ref B),some (.int (mo:Int)),some (.int Z),some (.int (kn:Int)),some (.int (N':Int)),none,none,none]) (λNx iU=>?_) ?_
 ·show(_,O,_,_,O,O,_,O,bq (λ_=>?_) (λ_=>iU _ _ (N,O,hN,O)))
  show(_,O,_,_,_,O,cr,cr,cr,O,_,O,bq (λ_=>iU _ _ (6,O,DH _,O)) (λ_=>iU _ _ (N,O,hN,O)))
 clear hN;rintro Y Hx ⟨N,ex,hN,rfl⟩;rw [ex];show#[z0L,?_];intros T np H1 sp ep;let s01:=afG.trans sp;let I_:H T=none:=afG.free np;show(_,O,(N:Int),O,ce,ce,let I:bn:=λi Y S=>N6 λ(o5 o6:χ) (M:ε) (X:ι)=>Y=[ap B,some (.int (mo:Int)),some (.int Z),some (.int (kn:Int)),some (.int (N:Int)),ap T,o5,o6]/\aq H S/\S T=some (.lst M)/\Paired (mC K S T) M X/\gx X/\X.length=i/\∀p∈X,∃j,j<i/\p.nm=nameOf (field Z 3001 4) (field Z 4001 6) (j:Int)/\(Sz 20 p.sp.2/\Nr p.sp.2)/\ -500002<=p.sp.1;cf (lo:=0) (n:=N) I (none,none,[],[],O,s01,ep,.nil,(by simp,by simp,by simp,by simp),O,by simp) ?_ ?_)
 ·rintro i Y H2 hi ⟨o5,o6,M,X,rfl,s2,e2,pp,gp,lpi,nm⟩
  let ei:(0:Int)+(i:Int)=(i:Int):=Nc _;rw [ei];let lu:M.length=X.length:=GX pp;show(_,O,_,O,_,_,O,O,B,ns,_,O,s2.seq hS,ce,ce,_,O,_,_,O,ce,ce,λp3 U G H3 s3 zx zy ⟨xb,yb⟩ h3=>?_);let s23:=s2.trans s3
  let h30:fL K H3 (.ref p3) (U+((0:Nat):Rat),G):=by
   let e:U+((0:Nat):Rat)=U:=by
    have:((0:Nat):Rat)=0:=by rfl
    rw [this];grind
   rwa [e]
  dsimp only;show cu (λY' S=>Mg λ(Q:V) (x:Rat)=>Y' =[some (.ref B),some (.int (mo:Int)),some (.int Z),some (.int (kn:Int)),some (.int (N:Int)),some (.ref T),some (.int (i:Int)),some Q]/\aq H3 S/\fL K S Q (x,G)/\(Sz 24 x/\ -500002<=x)/\(x,G)∉X.map (·.sp)) (λNx iU=>?_) ?_
  ·show(λm Y S=>Mg λ(Q:V) (j:Nat)=>Y=[ap B,some (.int (mo:Int)),some (.int Z),some (.int (kn:Int)),some (.int (N:Int)),ap T,some (.int (i:Int)),some Q]/\aq H3 S/\fL K S Q (U+(j:Rat),G)/\m=cnt X (U+(j:Rat))/\j+cnt X (U+(j:Rat))<=X.length,(_,_,0,O,aq.refl _,h30,O,by have:=agV X (U+((0:Nat):Rat));omega),?_)
   rintro m Y H4 ⟨Q,j,rfl,s4,h4,rfl,hj⟩;let g:=(s3.trans s4) _ _ e2;let L:Paired (mC K H4 T) M X:=Paired.b6 pp λ_ _ z=>z.lO (s3.trans s4);let zj:Sz 24 (U+(j:Rat)):=(zx.add (jO (i:=(j:Int)) (k:=3) (show _<8 by omega) cr)).up cr;show(_,O,_,O,T,O,#[_,aT.of g],λD1 n1=>?_)
   show dE (pS:=[]) (K:=K) (a:=T) (xs:=M) (λi v H=>∃p,X[i]?=some p/\fL K H v p.sp) n1 (by rw [lu];show IG (show X.length<=1000 by omega) cr) (λH2 s2=>aT.of (s2 _ _ g)) (λ_ _ _ _ _ h0 ks h=>by
     let(p,h1,h2):=h;show(p,h1,h2.aQ λb xs r=>?_)
     rcases r with r|⟨o',r⟩
     ·show .inl (ks _ _ (λe=>by erw [e,h0] at r) r)
     ·show .inr #[o',ks _ _ (λe=>by erw [e,h0] at r) r]) ?_ ?_
   ·intro jj u H6 R hu s6 k
    let(p,BD,C):=aw L hu;let(a,l,Q,kI,rfl,h1,h2,_):=C;show(_,O,a,_,_,_,O,O,Ty.aq.bS s6 h1,O,k _ _ (aq.refl _) (p,BD,h2.lO s6))
   intro ys H6 hy iQ s6 hD
   let pq:jP K H6 ys (X.map (·.sp)):=fO (by rw [be,hy,lu]) λj u q' NA Wj =>by
    let(p,h1,h2):=iQ j u NA;erw [CP,h1] at Wj;show h2
   let h6:=h4.lO s6;show((U+(j:Rat),G),D1,ys,_,O,aT.of hD,h6,pq,_,O,?_);show bq (λcc=>?_) (λcc=>?_)
   ·let mem:(U+(j:Rat),G)∈X.map (·.sp):=by simpa using cc
    let(p,C,BD):=DA.mp mem;let lt:=SK (x:=U+(j:Rat)) (p,C,by rw [BD])
    let y:U+(j:Rat)+1=U+((j+1:Nat):Rat):=by
     push_cast;grind
    rw [y] at lt;show(λY' S=>∃(Q:V),Y' =[some (.ref B),some (.int (mo:Int)),some (.int Z),some (.int (kn:Int)),some (.int (N:Int)),some (.ref T),some (.int (i:Int)),some Q]/\aq H3 S/\fL K S Q (U+((j+1:Nat):Rat),G),λY' S ⟨sv',h1,h2,h3⟩=>(_,lt,sv',j+1,h1,h2,h3,O,ce),?_);let(sa,u1,u2,rfl,P7,hn1,XS):=h6;show(_,O,sa,_,_,_,O,O,P7,i6,L2,?_);intros p7 n7 H7 s7 e7;show(u1,.ref p7,qr (U+(j:Rat)),(1,1),24,1,O,hn1.lO s7,(p7,O,bL.of e7),Ys zj,#[cr,cr],cr,λp8 H8 s8 e8=>?_);rw [agH,y] at e8;show(_,O,sa,_,_,_,O,O,Ty.aq.bS (s7.trans s8) P7,iW,L2,?_);intros p9 n9 H9 s9 e9;let s69:=(s7.trans s8).trans s9;show(.ref p9,O,(s4.trans s6).trans s69,rK e9 ((iT e8).lO s9) (XS.lO s69))
   ·let fresh:(U+(j:Rat),G)∉X.map (·.sp):=by simpa using cc
    show iU _ _ (Q,U+(j:Rat),O,s4.trans s6,h6,#[zj,(by have hj':((0:Int):Rat)<=((j:Int):Rat):=ajh.mpr ce;let e1:((j:Int):Rat)=(j:Rat):=rfl;let e2:((0:Int):Rat)=0:=rfl;rw [e1,e2] at hj';have:=xb.1;grind)],fresh)
  rintro Y' H4 ⟨Q,x,rfl,s4,h4,⟨zx',xb'⟩,fresh⟩;let f:=s3.trans s4;let qc:=s2.trans f;let g:=f _ _ e2;let L:Paired (mC K H4 T) M X:=Paired.b6 pp λ_ _ z=>z.lO f;show(_,O,.inl (O,_,aT.of g),_,O,_,O,_,_,O,ce,ce,λH5 s5=>?_);let g:=s5 _ _ g;let h4:=h4.lO s5;let L:Paired (mC K H5 T) M X:=Paired.b6 L λ_ _ z=>z.lO s5;let qc:=qc.trans s5;show(_,O,_,O,_,O,_,_,O,O,B,ns,_,O,qc.seq hS,ce,ce,_,O,λl8 us8 ws H8 wk s8 n8 e8 p8=>#[L3,?_]);intros p9 n9 H9 s9 e9;let E:=s8.trans s9;let e49:=E _ _ g;let pp9:Paired (mC K H9 T) M X:=Paired.b6 L λ_ _ z=>z.lO E;show(T,_,_,O,O,e49,(by rw [lu];show IG (show X.length<=1000 by omega) cr),?_);let tQ:mC K H9 T (.ref p9) (nameOf (field Z 3001 4) (field Z 4001 6) (i:Int),(x,G),ws):=(p9,l8,Q,us8,O,bL.of e9,h4.lO E,s9 _ _ e8,p8.lO s9,λz=>by erw [z,g] at n8);show(_,_,_,X++[(nameOf (field Z 3001 4) (field Z 4001 6) (i:Int),(x,G),ws)],O,λb o z=>?_,ak,g_ (Paired.b6 pp9 λ_ _ z=>z.upd e49) (tQ.upd e49),gp.snoc (λz=>?_) fresh #[zx'.up cr,zy.up cr] wk,by simp [lpi],λp C=>?_)
  ·rw [aj (ao z I_)]
   show E _ _ (qc _ _ z)
  ·let(p,C,BD):=DA.mp z
   let(j,hj,y,_):=nm p C;let i3:=a9 (c:=Z) (p:=3001) (m:=4) cr;let i4:=a9 (c:=Z) (p:=4001) (m:=6) cr
   have:=ak7 #[(field Z 3001 4).toNat,ce] #[(field Z 4001 6).toNat,ce] #[j,ce] #[i,ce] (λz=>by
    have:=pU Fin.val z;simp at this
    omega)
   show this ?_;change nameOf (((field Z 3001 4).toNat:Nat):Int) (((field Z 4001 6).toNat:Nat):Int) (j:Int)=nameOf (((field Z 3001 4).toNat:Nat):Int) (((field Z 4001 6).toNat:Nat):Int) (i:Int);rwa [show(((field Z 3001 4).toNat:Nat):Int)=field Z 3001 4 by omega,show(((field Z 4001 6).toNat:Nat):Int)=field Z 4001 6 by omega,<-y]
  ·rcases HZ.mp C with z|z
   ·let(j,hj,y,eb):=nm p z
    show(j,ce,y,eb)
   ·rw [HU.mp z]
    show(i,ce,O,#[zy,yb],xb')
 ·rintro Y H2 ⟨o5,o6,M,X,rfl,s2,e2,pp,gp,lpi,nm⟩
  show(_,O,q T M X H2 s2 I_ e2 pp gp ce λp C=>?_);let(j,hj,y,hb):=nm p C;show#[λz=>?_,hb];let i3:=a9 (c:=Z) (p:=3001) (m:=4) cr;let i4:=a9 (c:=Z) (p:=4001) (m:=6) cr;have:=u3 #[(field Z 3001 4).toNat,ce] #[(field Z 4001 6).toNat,ce] #[j,ce];dsimp only at this;rw [Mq i3.1,Mq i4.1] at this;show this (y.symm.trans z)
inductive zf (K:Frag)(vs:ε)(H:Hp)(Q:VK)(T:XK):Prop
|mk (Z Y:BK)(U:ξ)(us:ε)(pX:ι)(_:vs=[.ref Z,.ref Y])(_:aT K H Z (U.map V.int))(_:H Y=some (.lst us))(_:us.length=pX.length)(_:(pX.map (·.nm)).Nodup)(_:pX.length<=6)(_:∀(l:BK)(X :ε)(gV:τ)(H':Hp),aq H H' ->H l=none->H' l=some (.lst X)->Paired (j7 K H' pX) X gV->pC pX gV->gV.length<=9->("late":Str)∉gV.map (·.nm)->Q (.ref l) H')
def pC.snoc (g:pC pX gV)(U:b.nm∉gV.map (·.nm))(X:b.one∈pX/\b.mP∈pX/\b.one.nm≠b.mP.nm):pC pX (gV++[b]):=by
 show#[?_,λq Z=>?_]
 ·rw [II,Wt]
  show(g.nb,by simp,λa T c Y e=>U ?_);have:c=b.nm:=by simpa using Y
  rwa [<-this,<-e]
 ·rcases HZ.mp Z with z|z
  ·show g.ends q z
  ·rw [HU.mp z]
   show X
def lI:ay ["_law_script","_law_pins_here","_law_cell","_law_many","_law_first","_law_bars_here","_law_k","_law_one","_law_step"] VQ (ae OG):=sq
def afK (D:Def K mg "_law_bars" OG VQ)(ba:mg "range"=none)(aV:mg "len"=none)(j8:ac P w K mg lM 1 "_law_cell_at" RO (jc K))(cS:ac P w K mg lM 1 "_law_field" Pb eQ)(aaM:ac P w K mg lM 2 "_law_name" u6 y_):
  ac P w K mg lM 3 "_law_bars" VQ (zf K):=by
 show D.oo lI λH B h=>?_;let(G,Q,J,T,X,rfl,hS,hp,lu,np,lp,q):=h;let L3:3<=DC:=cr
 show(_,(aa (aI 2 lI.nd (aL j8 B (aH (pv 0) ag))) (aa (aI 3 lI.nd (aL cS B (bu (pv 2) ag ag))) (aa (aI 4 lI.nd ag) (aa (bw (bE q5 (aJ aG rfl aV bV (aZ (pv 1))) ag) (ah (aI 3 lI.nd ag)) aR) (aa (bw (bE q_ (aJ aG rfl aV bV (aZ (pv 1))) ag) (aa (aI 3 lI.nd (aD bG ag (aD eO (pv 3) ag))) (ah (aI 4 lI.nd ag))) aR) (aa (aI 5 lI.nd (bY mW)) (aa (bh HG rfl (bK rfl ba (aZ (pv 3))) (bI 6 lI.nd) (aa (aI 7 lI.nd (aL cS B (bu (aL j8 B (aH (pv 0) (aD bG (pv 4) (pv 6)))) ag (aJ aG rfl aV bV (aZ (pv 1)))))) (aa (aI 8 lI.nd (aD bG ag (aL cS B (bu (aL j8 B (aH (pv 0) (aD bG (pv 4) (pv 6)))) ag (aD cB (aJ aG rfl aV bV (aZ (pv 1))) ag))))) (ah (bD (kg Qo Sl SX dD (pv 5) (aZ (aS (bu (aL aaM B (aH (pv 2) (pv 6))) (pv 7) (aD eO (aD bG (pv 7) (pv 8)) (aJ aG rfl aV bV (aZ (pv 1))))))))))))) (ah (aE (pv 5)))))))))),?_);try dsimp only [vw,mi,Cx.BE,Cx.vS]
 show(_,O,G,J,1,O,hS,cr,cr,?_);generalize cell J 1=Z;let i1:=a9 (c:=Z) (p:=1009) (m:=8) cr;show(_,O,_,_,_,O,cr,cr,cr,?_);generalize field Z 1009 8=fi at i1 ⊢;obtain ⟨fn,rfl⟩:∃n:Nat,fi=(n:Int):=#[fi.toNat,ce];dsimp only;show cu (λA R=>R=H/\A =[some (.ref G),some (.ref Q),some (.int Z),some (.int (fn:Int)),some (.int 7),none,none,none,none]) (λNx C=>C _ _ #[O,O]) ?_;rintro Y0 Hy ⟨eh,rfl⟩;rw [eh];show cu (λA R=>∃N:Nat,N<=7/\(0<N->2<=X.length)/\A =[some (.ref G),some (.ref Q),some (.int Z),some (.int (N:Int)),some (.int 7),none,none,none,none]/\R=H) (λNx C=>?_) ?_
 ·show(_,O,Q,_,O,.inl (aT.of hp),_,_,O,O,_,O,?_)
  show bq (λ_=>?_) (λc=>?_)
  ·show C _ _ (0,ce,ce,O,O)
  ·let c':¬ (T.length:Int)<2:=λz=>c (NI z)
   show C _ _ (fn,ce,λ_=>ce,O,O)
 rintro A R ⟨N0,hN0,amN,rfl,eh'⟩;rw [eh'];show cu (λA R=>Mg λ(N:Nat) (F:Int)=>N<=9/\0<=F/\F<=46/\(0<N->2<=X.length)/\A =[some (.ref G),some (.ref Q),some (.int Z),some (.int (N:Int)),some (.int F),none,none,none,none]/\R=H) (λNx C=>?_) ?_
 ·show(_,O,Q,_,O,.inl (aT.of hp),_,_,O,O,_,O,bq (λc=>?_) (λ_=>C _ _ (N0,7,ce,cr,cr,amN,O,O)))
  let c':4<(T.length:Int):=Nl c;let fm:=iC (x:=(N0:Int)) (m:=4) cr;obtain ⟨N1,e1⟩:∃n:Nat,(6:Int)+(N0:Int).fmod 4=(n:Int):=#[(6+(N0:Int).fmod 4).toNat,ce];show(_,O,_,_,O,O,nz cr,_,_,O,O,C _ _ (N1,46,ce,cr,cr,λ_=>ce,by rw [<-e1];rfl,O))
 rintro A Hy ⟨N,F,hN,hF0,hF1,hN2,rfl,rfl⟩;show#[z0L,?_];intros y nb H1 sb eb;show(_,O,(N:Int),O,ce,ce,let I:bn:=λi Y R=>Ex5 λ(o5 o6 o7:χ) (L :ε) (S:τ)=>Y=[ap G,ap Q,some (.int Z),some (.int (N:Int)),some (.int F),ap y,o5,o6,o7]/\aq Hy R/\R y=some (.lst L)/\Paired (j7 K R X) L S/\pC X S/\S.length=i/\∀b∈S,∃j,j<i/\b.nm=nameOf (field Z 3001 4) (field Z 4001 6) (j:Int);cf (lo:=0) (n:=N) I (none,none,none,[],[],O,sb,eb,.nil,#[by simp,by simp],O,by simp) ?_ ?_)
 ·rintro i Y H2 hi ⟨o5,o6,o7,L,S,rfl,E,e2,pb,gb,k,nm⟩
  let ei:(0:Int)+(i:Int)=(i:Int):=Nc _;rw [ei];let n2:2<=X.length:=hN2 ce;let lv:L.length=S.length:=GX pb;let sp:=aT.of (K:=K) (E _ _ hp);show(_,O,_,O,_,O,_,_,O,O,G,J,_,O,E.seq hS,ce,ce,_,O,Q,_,O,.inl sp,_,_,_,O,cr,cr,ce,?_);let j1:=a9 (c:=cell J (F+(i:Int))) (p:=1009) (m:=(T.length:Int)) ce;let j2:=a9 (c:=cell J (F+(i:Int))) (p:=2003) (m:=(T.length:Int)-1) ce;show(_,O,_,O,_,O,_,_,O,O,G,J,_,O,E.seq hS,ce,ce,_,O,Q,_,O,.inl sp,_,_,O,O,_,_,_,O,cr,cr,ce,_,_,O,O,?_);generalize field (cell J (F+(i:Int))) 1009 (T.length:Int)=u at j1 ⊢;generalize field (cell J (F+(i:Int))) 2003 ((T.length:Int)-1)=step at j2 ⊢;obtain ⟨U,rfl⟩:∃n:Nat,u=(n:Int):=#[u.toNat,ce]
  let oo:∃m:Nat,((U:Int)+(1+step)).fmod (T.length:Int)=(m:Int)/\m<T.length/\m≠U:=by
   let f:=iC (x:=(U:Int)+(1+step)) (m:=(T.length:Int)) ce;show((((U:Int)+(1+step)).fmod (T.length:Int)).toNat,ce,ce,λz=>?_);let e:((U:Int)+(1+step)).fmod (T.length:Int)=(U:Int):=ce
   rw [Int.fmod_eq_emod_of_nonneg _ ce] at e;by_cases c:(U:Int)+(1+step)<(T.length:Int)
   ·rw [akW ce c] at e
    omega
   ·rw [<-Int.sub_emod_right,akW ce ce] at e
    omega
  let(M,Wj,l2',ne2):=oo;show(_,O,.inl (O,_,aT.of e2),_,O,_,O,_,_,O,ce,ce,λH5 s5=>?_);show(_,O,_,O,_,O,_,_,O,O,_,O,Q,_,O,.inl (aT.of (s5 _ _ (E _ _ hp))),_,_,O,O,nz ce,L3,?_);intros p9 n9 H9 s59 e9;let s9:=s5.trans s59;let e9:H9 p9=some (.tup [.str (nameOf (field Z 3001 4) (field Z 4001 6) (i:Int)),.int (U:Int),.int (((U:Int)+(1+step)).fmod (T.length:Int))]):=e9;rw [Wj] at e9;let e29:=s9 _ _ e2;show(y,_,_,O,O,e29,(by rw [lv];show IG (show S.length<=1000 by omega) cr),?_);let l1:U<X.length:=ce
  let l2:M<X.length:=ce
  let st:bg H9 (upd H9 y (.lst (L ++[.ref p9]))):=.list e29
  let ns9:∀(v:V)(b:a_),j7 K H2 X v b->j7 K (upd H9 y (.lst (L ++[.ref p9]))) X v b:=λv b h=>by
   let(a,i',j',e,h1,h2,h3):=h.lO s9;show(a,i',j',e,st.bS h1,h2,h3)
  show(_,_,_,L ++[.ref p9],S++[(nameOf (field Z 3001 4) (field Z 4001 6) (i:Int),X[U],X[M])],O,λb o z=>?_,ak,g_ (Paired.b6 pb λ_ _ z=>ns9 _ _ z) ?_,gb.snoc (λz=>?_) (RC l1,RC l2,λz=>?_),by simp [k],λb g=>?_)
  ·rw [aj (ao z nb)]
   show s9 _ _ (E _ _ z)
  ·show(p9,U,M,O,st.bS (bL.of e9),gE l1,gE l2)
  ·let(b,g,BD):=DA.mp z
   let(j,hj,ej):=nm b g;let i3:=a9 (c:=Z) (p:=3001) (m:=4) cr;let i4:=a9 (c:=Z) (p:=4001) (m:=6) cr
   have:=ak7 #[(field Z 3001 4).toNat,ce] #[(field Z 4001 6).toNat,ce] #[j,ce] #[i,ce] (λz=>by
    have:=pU Fin.val z;simp at this
    omega)
   show this ?_;change nameOf (((field Z 3001 4).toNat:Nat):Int) (((field Z 4001 6).toNat:Nat):Int) (j:Int)=nameOf (((field Z 3001 4).toNat:Nat):Int) (((field Z 4001 6).toNat:Nat):Int) (i:Int);rwa [show(((field Z 3001 4).toNat:Nat):Int)=field Z 3001 4 by omega,show(((field Z 4001 6).toNat:Nat):Int)=field Z 4001 6 by omega,<-ej]
  ·let q1:(X.map (·.nm))[U]?=some X[U].nm:=by rw [CP,gE l1];rfl
   let q2:(X.map (·.nm))[M]?=some X[U].nm:=by rw [CP,gE l2];show pU some z.symm
   show ne2 ((Vu (by rw [be];omega) np).mp (q1.trans q2.symm)).symm
  ·rcases HZ.mp g with z|z
   ·let(j,hj,ej):=nm b z
    show(j,ce,ej)
   ·rw [HU.mp z]
    show(i,ce,O)
 ·rintro Y H2 ⟨o5,o6,o7,L,S,rfl,E,e2,pb,gb,k,nm⟩
  show(_,O,q y L S H2 E nb e2 pb gb ce λz=>?_);let(b,g,GN):=DA.mp z;let(j,hj,ej):=nm b g;let i3:=a9 (c:=Z) (p:=3001) (m:=4) cr;let i4:=a9 (c:=Z) (p:=4001) (m:=6) cr;have:=u3 #[(field Z 3001 4).toNat,ce] #[(field Z 4001 6).toNat,ce] #[j,ce];dsimp only at this;rw [Mq i3.1,Mq i4.1] at this;show this (ej.symm.trans GN)
abbrev mpP (pX:ι):List (Str×Pt):=pX.map λp=>(p.nm,vO p.sp)
abbrev mpW (pX:ι):List (Str×List (Rat×Rat)):=pX.map λp=>(p.nm,p.ws)
abbrev mpB (gV:τ):List (Str×Str×Str):=gV.map λb=>(b.nm,(b.one.nm,b.mP.nm))
inductive pD (K:Frag)(H:Hp)(d e:BK)(v:V)(p:aC):Prop
|mk (a l:BK)(s:V)(us:ε)(_:v=.ref a)(_:bL K H a [.str p.nm,s,.ref l])(_:fL K H s p.sp)(_:H l=some (.lst us))(_:jP K H us p.ws)(_:l≠d)(_:l≠e)
theorem pD.lO (h:pD K H d e v p)(s:aq H H'):pD K H' d e v p:=by
 let(a,l,Y,Z,ev,Q,R,S,T,U,X):=h;show(a,l,Y,Z,ev,Ty.aq.bS s Q,R.lO s,s _ _ S,T.lO s,U,X)
def pD.r (h:pD K H d e v p):iX K H v p:=by
 let(a,l,Y,Z,ev,S,T,U,X,_):=h;show(a,l,Y,Z,ev,S,T,U,X)
def KO (Y Z X U T:BK)(H H':Hp):Prop:=∀b o,b≠Y->b≠Z->b≠X->b≠U->b≠T->H b=some o->H' b=some o
def KO.trans (a:KO pP pW pB lP lB H H1)(b:KO pP pW pB lP lB H1 H2):KO pP pW pB lP lB H H2:=λc o T U X Y Z e=>b c o T U X Y Z (a c o T U X Y Z e)
def KO.of (a:aq H H1):KO pP pW pB lP lB H H1:=λc o _ _ _ _ _ e=>a c o e
structure WS (K:Frag)(H:Hp)(C fA dx pP pW pB lP lB:BK)(us vs:ε)(pX:ι)(gV:τ):Prop where
 fr:∃kP kW kB,gw K H C fA dx pP pW pB (mpP pX) (mpB gV) kP kW kB/\uD K H (mpW pX) kW/\∀kv∈kW,kv.2≠.ref lP/\kv.2≠.ref lB
 hp:H lP=some (.lst us)
 pp:Paired (pD K H lP lB) us pX
 hb:H lB=some (.lst vs)
 pb:Paired (j7 K H pX) vs gV
 gp:gx pX
 gb:pC pX gV
 lp:pX.length<=7
 lb:gV.length<=10
 ne:lP≠lB
section
variable {H H':Hp}{C fA dx pP pW pB lP lB:BK}{us vs:ε}{pX:ι}{gV:τ}
theorem WS.lO (h:WS K H C fA dx pP pW pB lP lB us vs pX gV)(s:aq H H'):WS K H' C fA dx pP pW pB lP lB us vs pX gV:=by
 let(Y,Z,X,R,W,n):=h.fr;show((Y,Z,X,R.lO s,W.lO s,n),s _ _ h.hp,Paired.b6 h.pp λ_ _ z=>z.lO s,s _ _ h.hb,Paired.b6 h.pb λ_ _ z=>z.lO s,h.gp,h.gb,h.lp,h.lb,h.ne)
def WS.fa (h:WS K H C fA dx pP pW pB lP lB us vs pX gV):xB K H C fA pX gV:=by
 let(Y,Z,X,R,W,n):=h.fr;show(dx,pP,pW,pB,Y,Z,X,R,W)
def WS.g (h:WS K H C fA dx pP pW pB lP lB us vs pX gV):d_ pX gV:=afD h.gp h.gb (by have:=h.lp;omega) (by have:=h.lb;omega)
def WS.pr (h:WS K H C fA dx pP pW pB lP lB us vs pX gV):Paired (iX K H) us pX:=Paired.b6 h.pp λ_ _ z=>z.r
def WS.away (h:WS K H C fA dx pP pW pB lP lB us vs pX gV)(e:H b=some o)(Z:∀AP,o≠.dK AP)(Y:∀xs,o≠.lst xs):b≠pP/\b≠pW/\b≠pB/\b≠lP/\b≠lB:=by
 let(U,X,T,R,W,_):=h.fr;show(λz=>?_,λz=>?_,λz=>?_,λz=>?_,λz=>?_)
 ·rw [z,R.pl] at e
  show Z _ (JB e).symm
 ·rw [z,R.wy] at e
  show Z _ (JB e).symm
 ·rw [z,R.br] at e
  show Z _ (JB e).symm
 ·rw [z,h.hp] at e
  show Y _ (JB e).symm
 ·rw [z,h.hb] at e
  show Y _ (JB e).symm
def WS.fresh (h:WS K H C fA dx pP pW pB lP lB us vs pX gV)(e:H b=none):b≠pP/\b≠pW/\b≠pB/\b≠lP/\b≠lB:=by
 let(Y,Z,X,R,W,_):=h.fr;show(λz=>?_,λz=>?_,λz=>?_,λz=>?_,λz=>?_)
 ·rw [z,R.pl] at e
  cases e
 ·rw [z,R.wy] at e
  cases e
 ·rw [z,R.br] at e
  cases e
 ·rw [z,h.hp] at e
  cases e
 ·rw [z,h.hb] at e
  cases e
def KO.at (k:KO pP pW pB lP lB H H')(n:b≠pP/\b≠pW/\b≠pB/\b≠lP/\b≠lB)(e:H b=some o):H' b=some o:=k b o n.1 n.2.1 n.2.2.1 n.2.2.2.1 n.2.2.2.2 e
def WS.t (h:WS K H C fA dx pP pW pB lP lB us vs pX gV)(k:KO pP pW pB lP lB H H'):bg H H':=λb xs r=>by
 rcases r with r|⟨Z,r⟩
 ·show .inl (k.at (h.away r (λ_ z=>nomatch z) λ_ z=>nomatch z) r)
 ·show .inr #[Z,k.at (h.away r (λ_ z=>nomatch z) λ_ z=>nomatch z) r]
def WS.way (h:WS K H C fA dx pP pW pB lP lB us vs pX gV)(e:H l=some (.lst xs))(Y:l≠lP)(Z:l≠lB):l≠pP/\l≠pW/\l≠pB/\l≠lP/\l≠lB:=by
 let(U,X,T,R,W,_):=h.fr;show(λz=>?_,λz=>?_,λz=>?_,Y,Z)
 ·rw [z,R.pl] at e
  cases e
 ·rw [z,R.wy] at e
  cases e
 ·rw [z,R.br] at e
  cases e
def WS.Po (h:WS K H C fA dx pP pW pB lP lB us vs pX gV)(k:KO pP pW pB lP lB H H')(y:pD K H lP lB v p):pD K H' lP lB v p:=by
 let(a,l,T,U,ev,Q,R,X,S,Y,Z):=y;let t:=h.t k;show(a,l,T,U,ev,t.bS Q,R.aQ t,k.at (h.way X Y Z) X,S.aQ t,Y,Z)
def WS.wys (h:WS K H C fA dx pP pW pB lP lB us vs pX gV)(k:KO pP pW pB lP lB H H')(W:uD K H pw T)(n:∀Y∈T,Y.2≠.ref lP/\Y.2≠.ref lB):uD K H' pw T:=by
 let t:=h.t k;show fO (GX W) λi p Y L S=>?_;let(J,M,Q,l,N,Z,X,R):=aw W L;erw [S] at M;let U:=n _ (Wp S);show(Q,l,N,Z,k.at (h.way X (λz=>U.1 (by rw [Z,z])) (λz=>U.2 (by rw [Z,z]))) X,R.aQ t)
end
def adi (v:V):RA ("ways":Str) [(("way":Str),v)]=none:=by
 let h:(("ways":Str)=="way")=false:=by decide+kernel
 simp [RA,h]
inductive mf (K:Frag)(C:BK)(vs:ε)(H:Hp)(Q:VK)(B:XK):Prop
|mk (S I U X N:BK)(ps:Θ)(G:Α)(Y:Ι)(E T J:γ)(R:V)(M:BK)(ws:ε)(p:aC)(_:vs=[.ref S,.str p.nm,R,.ref M])(_:gw K H C S I U X N ps G E T J)(_:uD K H Y T)(_:Y.map (·.1)=ps.map (·.1))(_:fL K H R p.sp)(_:H M=some (.lst ws))(_:jP K H ws p.ws)(_:p.nm∉ps.map (·.1))(_:(∀z∈ps,z.2≠vO p.sp))(_:ps.length<24)(_:j6 p.ws)(_:∀(H':Hp)(D Z :γ),(∀b o,b≠U->b≠X->H b=some o->H' b=some o)->gw K H' C S I U X N (ps++[(p.nm,vO p.sp)]) G D Z J->uD K H' (Y++[(p.nm,p.ws)]) Z ->(∃L,Z =T++[(.inr p.nm,.ref L)]/\H L=none)->Q .cW H')
def zaI:ay Vx Vx (ae eE):=sq
def zaG {C CR I fR:BK}(D:Def K mg "_law_put_pin" eE Vx)(aV:mg "len"=none)
  (aaP:mg "Roller"=some (.ref CR)) (aaQ:mg "Fixed"=some (.ref I)) (aaR:Mk0 K I) (aaS:Mk K CR fR) (amP:ad P w K mg lM 1 fR fdR sk (yL K CR)) (aaT:Binds K fdR sk [])
  (wR:am P w K mg lM 2 CR "ways" JS (oT K CR)) (wF:am P w K mg lM 2 I "ways" JS (oU K))
  (MPp:am P w K mg lM 3 C "put_pin" CU (gH P w K mg lM C)) (MPd:IA P w K mg lM (aX P w) 3 C "put_pin" CU [.none] (gH P w K mg lM C)):
  ac P w K mg lM 4 "_law_put_pin" Vx (mf K C):=by
 show D.op zaI λf cH A mO s H vs Q E hr h=>?_;let(fA,dx,pP,pW,pB,ps,bs,pw,kP,kW,kB,sv,T,ws,p,rfl,R,W,ew,hsv,Yt,y,hnm,tQ,l24,wk,q):=h;let(j,x1,y1,rfl,a,hn1,XS):=id hsv;let nP:T≠pP:=λz=>by have h:=R.pl;erw [<-z,Yt] at h
 let nW:T≠pW:=λz=>by have h:=R.wy;erw [<-z,Yt] at h
 let S:∀(hv:V)(x:Hp)(Q5:VK)(E5:XK),aq H x->Yj P w K mg lM x hv p.ws->(∀L,L T=some (.lst ws)->Q .cW L ->Q5 .cW L)->gH P w K mg lM C [.ref fA,.str p.nm,x1,y1,hv] x Q5 E5:=λhv x Q5 E5 U hY S=>by
  show(fA,dx,pP,pW,pB,ps,bs,kP,kW,kB,pw,p.nm,x1,y1,hv,vO p.sp,p.ws,O,R.lO U,W.lO U,ew,hn1.lO U,XS.lO U,hnm,tQ,l24,hY,λL IW rA k' R' W' nl=>?_);let(l9,e9,n9):=nl;show S L (k' _ _ nP nW (U _ _ Yt)) (q L IW rA (λb o m1 m2 e=>k' b o m1 m2 (U _ _ e)) R' W' (l9,e9,U.free n9))
 let i:=aT.of (K:=K) Yt;have N :ws.length=p.ws.length:=GX y
 show(_,(aa (bw (bE gm (aJ aG rfl aV bV (aZ (pv 3))) ag) (ah (bD (ahy (k:=3) (pv 0) hr.mo (pY P w) (bu (pv 1) (aF (pv 2)) (aF (pv 2)))))) aR) (aa (bw (bE gm (aJ aG rfl aV bV (aZ (pv 3))) ag) (ah (bD (fe (k:=3) (pv 0) hr.mo (pY P w) (iL (pv 1) (bu (aF (pv 2)) (aF (pv 2)) (agh aaS amP hr.mo rfl aaP aaT .nil (pY P w) (aH (aF (oJ (pv 3))) (aF (oJ (pv 3)))))))))) aR) (ah (bw (bE gm (aJ aG rfl aV bV (aZ (pv 3))) ag) (ah (bD (fe (k:=3) (pv 0) hr.mo (pY P w) (iL (pv 1) (bu (aF (pv 2)) (aF (pv 2)) (ahn aaR rfl aaQ)))))) aR)))),?_);sleep 2
 show(_,O,T,_,O,.inl i,O,_,O,?_)
 rcases wk with J|⟨wx,wy,J,wn,_,_⟩|J
 ·rw [J] at N
  show bq (λ_=>?_) (λc=>by rw [N] at c;simp at c);show(_,O,fA,C,dx,_,_,_,O,R.obj,O,MPd,_,O,_,O,j,_,_,_,O,O,a,i6,_,O,j,_,_,_,O,O,a,iW,?_);dsimp only [gQ];show S .cW H _ _ (aq.refl _) (.inl #[O,J]) λL VS qn=>?_;show(_,O,T,_,O,.inl (aT.of VS),O,_,O,bq (λc=>by rw [N] at c;simp at c) (λ_=>?_));show(_,O,T,_,O,.inl (aT.of VS),O,_,O,bq (λc=>by rw [N] at c;simp at c) (λ_=>qn))
 ·rw [J] at N y
  let(w0,rfl):=ajT.mp N
  let hw0:fL K H w0 (wx,wy):=by
   cases y with
   | cons h _=>show h
  let(wa,m,u,rfl,GH,hm1,hm2):=hw0;show bq (λc=>by simp at c) (λ_=>?_);show(_,O,T,_,O,.inl i,O,_,O,bq (λ_=>?_) (λc=>DQ rfl c));show(_,O,fA,C,dx,_,_,_,O,R.obj,O,MPp,_,O,_,O,j,_,_,_,O,O,a,i6,_,O,j,_,_,_,O,O,a,iW,_,O,T,_,_,_,O,O,i,O,wa,_,_,_,O,O,GH,i6,_,O,T,_,_,_,O,O,i,O,wa,_,_,_,O,O,GH,iW,?_);intro Z Y M B ne1;let G:aq H (upd (upd H Y (.own Z)) Z (.ins CR Y [])):=λb o e=>by rwa [aj (ao e M),aj (ao e B)]
  let g:(upd (upd H Y (.own Z)) Z (.ins CR Y [])) Z =some (.ins CR Y []):=ak;generalize upd (upd H Y (.own Z)) Z (.ins CR Y [])=H4 at G g ⊢;show(Z,Y,m,u,wx,wy,O,g,hm1.lO G,hm2.lO G,wn,λX n5=>#[O,?_]);let NC:X≠Z :=λz=>by erw [z,g] at n5
  let U:aq H (upd (upd H4 X (.tup [m,u])) Z (.ins CR Y [("way",.ref X)])):=λb o e=>by
   let z:b≠Z :=λz=>by erw [z,M] at e
   rw [aj z];show aK n5 _ _ _ (G _ _ e)
  let e5:(upd (upd H4 X (.tup [m,u])) Z (.ins CR Y [("way",.ref X)])) Z =some (.ins CR Y [("way",.ref X)]):=ak;let t5:(upd (upd H4 X (.tup [m,u])) Z (.ins CR Y [("way",.ref X)])) X=some (.tup [m,u]):=by rw [aj NC,ak]
  generalize upd (upd H4 X (.tup [m,u])) Z (.ins CR Y [("way",.ref X)])=x at U e5 t5 ⊢;let amS:fL K x (.ref X) (wx,wy):=rK t5 (hm1.lO U) (hm2.lO U);dsimp only [gQ];show S (.ref Z) x _ _ U (.inr (Z,CR,Y,_,JS,oT K CR,O,e5,adi _,wR,λH6 e6 t6 Q' an=>(Z,Y,X,(wx,wy),O,e6,amS.aQ t6,by rwa [J] at an))) λL VS qn=>?_;show(_,O,T,_,O,.inl (aT.of VS),O,_,O,bq (λc=>by simp at c) (λ_=>qn))
 ·rw [J] at N
  show bq (λc=>by rw [N] at c;simp at c) (λ_=>?_);show(_,O,T,_,O,.inl i,O,_,O,bq (λc=>by rw [N] at c;simp at c) (λ_=>?_));show(_,O,T,_,O,.inl i,O,_,O,bq (λ_=>?_) (λc=>by rw [N] at c;simp at c));show(_,O,fA,C,dx,_,_,_,O,R.obj,O,MPp,_,O,_,O,j,_,_,_,O,O,a,i6,_,O,j,_,_,_,O,O,a,iW,?_);intro Z Y M B ne1;let G:aq H (upd (upd H Y (.own Z)) Z (.ins I Y [])):=λb o e=>by rwa [aj (ao e M),aj (ao e B)]
  let g:(upd (upd H Y (.own Z)) Z (.ins I Y [])) Z =some (.ins I Y []):=ak;generalize upd (upd H Y (.own Z)) Z (.ins I Y [])=H4 at G g ⊢;dsimp only [gQ];show S (.ref Z) H4 _ _ G (.inr (Z,I,Y,_,JS,oU K,O,g,O,wF,λH6 _ _ Q' an=>(Z,O,by rwa [J] at an))) λL VS qn=>qn
inductive u9 (K:Frag)(C:BK)(vs:ε)(H:Hp)(Q:VK)(I:XK):Prop
|mk (T R:BK)(us S :ε)(pX:ι)(gV:τ)(_:vs=[.ref T,.ref R])(_:H T=some (.lst us))(_:Paired (iX K H) us pX)(_:H R=some (.lst S))(_:Paired (j7 K H pX) S gV)(_:gx pX)(_:pC pX gV)(_:pX.length<=9)(_:gV.length<=14)(_:∀(a J X Y U:BK)(M Z L:γ)(H':Hp),aq H H' ->gw K H' C a J X Y U (pX.map λp=>(p.nm,vO p.sp)) (gV.map λb=>(b.nm,(b.one.nm,b.mP.nm))) M Z L->uD K H' (pX.map λp=>(p.nm,p.ws)) Z->(∀N∈Z,∀b o,H b=some o->N.2≠.ref b)->H X=none->H Y=none->H U=none->Q (.ref a) H')
def rL:ay ["_law_pins_here","_law_bars_here","_law_frame_here","_law_name_here","_law_spot_here","_law_ways_here","_law_one","_law_other"] zu (ae OH):=sq
def afM (D:Def K mg "_law_frame" OH zu)(aaU:Mk K C fI)(aaV:mg "Frame"=some (.ref C))(amT:ad P w K mg lM 1 fI fdI JS (yK K C))(aaW:Binds K fdI JS [])
  (fH:ac P w K mg lM 4 "_law_put_pin" Vx (mf K C)) (MPb:am P w K mg lM 3 C "put_bar" V2 (lD K C)):
  ac P w K mg lM 5 "_law_frame" zu (u9 K C):=by
 show D.op rL λf cH A mO s H vs Q E hr h=>?_;let(G,bA,us,eK,X,gV,rfl,hp,pp,hb,pb,gp,gb,lp6,lb8,q):=h;let lu:us.length=X.length:=GX pp
 show(_,(aa (aI 2 rL.nd (agZ aaU amT hr.mo rfl aaV aaW .nil (pY P w))) (aa (bh HG rfl (bo (pv 0)) (eY rfl (aY (bI 3 rL.nd) (aY (bI 4 rL.nd) (aY (bI 5 rL.nd) cM)))) (ah (bD (aL fH hr (iL (pv 2) (bu (pv 3) (pv 4) (pv 5))))))) (aa (bh HG rfl (bo (pv 1)) (eY rfl (aY (bI 3 rL.nd) (aY (bI 6 rL.nd) (aY (bI 7 rL.nd) cM)))) (ah (bD (fe (k:=3) (pv 2) hr.mo (pY P w) (bu (pv 3) (aF (bB aU (pv 0) (pv 6))) (aF (bB aU (pv 0) (pv 7)))))))) (ah (aE (pv 2)))))),?_);sleep 3
 intro a S na ndx nad;let sF:aq H (upd (upd H S (.own a)) a (.ins C S [])):=λb o e=>by rwa [aj (ao e na),aj (ao e ndx)]
 show(a,S,O,ak,λg m pB H1 k1 nP nW nB R1=>#[O,?_]);let s1:aq H H1:=λb o e=>k1 b o (ao e na) (sF _ _ e);let nP:=qC sF nP;let nW:=qC sF nW;let nB:=qC sF nB
 show(_,O,G,O,#[_,aT.of (s1 _ _ hp)],let I:bn:=λi Y Z=>Ex5 λ(o4 o5 o6:χ) (M U:γ)=>Y=[ap G,ap bA,ap a,o4,o5,o6,none,none]/\aq H Z/\gw K Z C a S g m pB ((X.take i).map λp=>(p.nm,vO p.sp)) [] M U []/\uD K Z ((X.take i).map λp=>(p.nm,p.ws)) U/\∀kv∈U,∀b o,H b=some o->kv.2≠.ref b;bT (K:=K) (a:=G) (xs:=us) I (none,none,none,[],[],O,s1,R1,.nil,λkv h=>(nomatch h)) (λi Y Z _ h=>by
   let(_,_,_,_,_,_,s,_):=h
   show aT.of (s _ _ hp)) ?_ ?_)
 ·rintro i u Y H2 hu ⟨o4,o5,o6,M,U,rfl,J,R2,W2,N⟩
  let(p,ep,DZ):=aw pp hu;let mp:p∈X:=Wp ep;let(ta,l,y,ws,rfl,h1,h2,h3,h4):=DZ.lO J;show(ta,_,O,h1,O,_,_,O,_,_,O,_,_,O,O,?_);let tk:=take_snoc ep;let il:i<X.length:=(ir.mp ep).1;show(_,O,_,O,_,O,_,O,a,S,g,m,pB,_,[],_,M,U,[],y,l,ws,p,O,R2,W2,by rw [EL,EL];rfl,h2,h3,h4,λz=>?_,λz hz e=>?_,?_,gp.ws p mp,λZ IW rA B R' W' nl'=>?_)
  ·rw [EL] at z
   let(p',gI,e'):=DA.mp z;show iN (nm:=aC.nm) gp.np ep gI e'
  ·let(p',gI,e'):=DA.mp hz
   rw [<-e'] at e;let e3:p'.sp=p.sp:=V5 (jN (pU DB e)) (jN (pU C_ e));let(j,hj,ej):=VL.mp gI;rw [K_] at ej;rw [IY] at hj;let x:(X.map (·.sp))[j]?=some p.sp:=by rw [CP,gE ce,ej,<-e3];rfl
   let q2:(X.map (·.sp))[i]?=some p.sp:=by rw [CP,ep];rfl
   have:=(Vu (by rw [be];omega) gp.ns).mp (x.trans q2.symm);omega
  ·rw [be,IY]
   omega
  show(_,_,_,IW,rA,O,λb o z=>B b o (ao z nP) (ao z nW) (J _ _ z),by rwa [tk,II],by rwa [tk,II],?_);let(l9,e9,n9):=nl';rw [e9];intro kv mH b o hb z
  rcases HZ.mp mH with h|h
  ·show N kv h b o hb z
  ·rw [HU.mp h] at z
   injection z with z
   erw [z,J _ _ hb] at n9
 ·rintro Y H2 ⟨o4,o5,o6,M,U,rfl,J,R2,W2,N⟩
  rw [lu,Ni] at R2 W2;let lv:eK.length=gV.length:=GX pb
  show(_,O,bA,O,#[_,aT.of (J _ _ hb)],let I:bn:=λi Y Z=>N6 λ(o3 o7 o8:χ) (kB:γ)=>Y=[ap G,ap bA,ap a,o3,o5,o6,o7,o8]/\aq H Z/\gw K Z C a S g m pB (X.map λp=>(p.nm,vO p.sp)) ((gV.take i).map λb=>(b.nm,(b.one.nm,b.mP.nm))) M U kB/\uD K Z (X.map λp=>(p.nm,p.ws)) U;bT (K:=K) (a:=bA) (xs:=eK) I (_,none,none,[],O,J,R2,W2) (λi Y Z _ h=>by
    let(_,_,_,_,_,s,_):=h
    show aT.of (s _ _ hb)) ?_ ?_)
  ·rintro i u Y H3 hu ⟨o3,o7,o8,kB,rfl,L,R,W3⟩
   let(b,T,D_):=aw pb hu;let mb:b∈gV:=Wp T;let(ta,i1,j1,rfl,h1,g1,g2):=D_.lO L;let(m1,m2,m3):=gb.ends b mb;let tk:=take_snoc T;let il:i<gV.length:=(ir.mp T).1
   have afN :∀(k:Nat)(p:aC),X[k]?=some p->∃(c la:BK)(y:V),hW us (k:Int)=some (.ref c)/\bL K H3 c [.str p.nm,y,.ref la]:=λk p ek=>by
    let(u',Yu,hu'):=aw (df pp) ek;let(c,la,y,ws,rfl,x,_):=iX.lO hu' L;show(c,la,y,bH Yu,x)
   let(c1,la1,sv1,ea1,x):=afN _ _ g1;let(c2,la2,sv2,ea2,q2):=afN _ _ g2;show(ta,_,O,h1,O,_,_,O,_,_,O,_,_,O,O,?_);let lp3:=aT.of (K:=K) (L _ _ hp);show(_,O,a,C,S,_,_,_,O,R.obj,O,MPb,_,O,_,O,_,O,G,_,_,_,O,O,lp3,ea1,c1,_,_,_,O,O,x,O,_,O,_,O,G,_,_,_,O,O,lp3,ea2,c2,_,_,_,O,O,q2,O,?_);show(a,S,g,m,pB,_,_,M,U,kB,b.nm,b.one.nm,b.mP.nm,O,R,λz=>?_,?_,?_,m3,?_,λZ kB' B R'=>?_)
   ·rw [EL] at z
    let(b',fM,e'):=DA.mp z;show iN (nm:=a_.nm) gb.nb T fM e'
   ·rw [EL]
    show DA.mpr (_,m1,O)
   ·rw [EL]
    show DA.mpr (_,m2,O)
   ·rw [be,IY]
    omega
   ·show(_,_,_,kB',O,λc o z=>B c o (ao z nB) (L _ _ z),?_,?_)
    ·rw [tk,II]
     show R'
    ·show Paired.b6 W3 λp' kv z=>#[z.1,?_]
     let(l',kI,z1,z2,z3):=z.2;show(l',kI,z1,B _ _ (λz=>by erw [z,R.br] at z2) z2,z3.aQ λc xs r=>?_)
     rcases r with r|⟨o',r⟩
     ·show .inl (B _ _ (λe=>by erw [e,R.br] at r) r)
     ·show .inr #[o',B _ _ (λe=>by erw [e,R.br] at r) r]
  ·rintro Y H3 ⟨o3,o7,o8,kB,rfl,L,R,W3⟩
   rw [lv,Ni] at R;show(_,O,q a S g m pB M U kB H3 L R W3 N nP nW nB)
def ax (k:Int)(p:Rat×Rat):Rat:=if k=0 then p.1 else p.2
def D' (U:k=0\/k=1)(h:fL K H v p):∃(a:BK)(xs:ε)(u:V),v=.ref a/\bL K H a xs/\hW xs k=some u/\dq K H u (ax k p):=by
 let(a,X,Y,rfl,Z,S,T):=h
 rcases U with rfl|rfl
 ·show(a,_,X,O,Z,O,S)
 ·show(a,_,Y,O,Z,O,T)
def SN (h:Sz n p.1/\Sz n p.2):Sz n (ax k p):=by
 unfold ax;split
 ·show h.1
 ·show h.2
def zh {us:ε}{pX:ι}{k:Nat}(R:Paired (iX K H) us pX)(e:pX[k]?=some p):∃(c Y:BK)(Z:V),hW us (k:Int)=some (.ref c)/\bL K H c [.str p.nm,Z,.ref Y]/\fL K H Z p.sp:=by
 let(U,Q,X):=aw (df R) e;obtain ⟨c,Y,Z,N,rfl,S,T,_⟩:iX K H U p:=X;show(c,Y,Z,bH Q,S,T)
inductive zi (K:Frag)(vs:ε)(H:Hp)(Q:VK)(Y:XK):Prop
|mk (Z:BK)(us:ε)(pX:ι)(u:V)(b:a_)(k:Int)(_:vs=[.ref Z,u,.int k])(_:H Z=some (.lst us))(_:Paired (iX K H) us pX)(_:gx pX)(_:j7 K H pX u b)(_:(k=0\/k=1))(_:∀(v:V)(H':Hp),aq H H' ->jf K H' v 89 (ax k b.mP.sp-ax k b.one.sp)->Q v H')
def afO:ay σ4 σ4 (ae OI):=sq
def afP (D:Def K mg "_law_arm" OI σ4)(nH:ac P w K mg lM 1 "_law_sum" N4 (cx K gM))(SO:ac P w K mg lM 1 "_law_turned" VU (iD K)):
  ac P w K mg lM 2 "_law_arm" σ4 (zi K):=by
 show D.oo afO λH Q h=>?_;let(S,us,pX,u,b,k,rfl,hp,T,L,(X,i,j,rfl,M,I,J),N,q):=h;show(_,(ah (aE (aL nH Q (aH (bB mX (aF (bB aU (pv 0) (aF (pv 1)))) (pv 2)) (aL SO Q (aZ (bB mX (aF (bB aU (pv 0) (aF (pv 1)))) (pv 2)))))))),?_);let(c1,l1,o,Y,a,f):=zh T I;let(c2,l2,p,Z,c,g):=zh T J;let(a1,B,u1,rfl,x,z,n1):=D' N f;let(a2,C,u2,rfl,y,A,n2):=D' N g;let E:=SN (k:=k) (L.sz _ (Wp I));let G:=SN (k:=k) (L.sz _ (Wp J));let R:=aT.of (K:=K) hp;show(_,O,_,O,X,_,_,_,O,O,M,O,S,_,_,_,O,O,R,Z,c2,_,_,_,O,O,c,O,_,O,a2,_,_,_,O,O,y,A,_,O,_,O,X,_,_,_,O,O,M,O,S,_,_,_,O,O,R,Y,c1,_,_,_,O,O,a,O,_,O,a1,_,_,_,O,O,x,z,?_);dsimp only [gQ];change iD K [_] _ _ E0;show uZ (dI n1 (gZ E (DH _))) λp3 H3 U n3=>?_;change cx K gM [_,_] _ _ E0;show me ((dI n2 (gZ G (DH _))).lO U) n3 cr λp4 H4 m n4=>?_;show q (.ref p4) H4 (U.trans m) ?_;rwa [akk]
inductive u_ (K:Frag)(vs:ε)(H:Hp)(Q:VK)(J:XK):Prop
|mk (S T:BK)(U X Y Z:V)(L M N R:Rat)(m n:Nat)(_:vs=[.ref S,.ref T])(_:(aT K H S [U,X]\/bL K H S [U,X]))(_:(aT K H T [Y,Z]\/bL K H T [Y,Z]))(_:jf K H U m L)(_:jf K H X m M)(_:jf K H Y n N)(_:jf K H Z n R)(_:m+n<=30000000)(_:∀(v:V)(H':Hp),aq H H' ->jf K H' v (m+n+(m+n)+1) (L*N+M*R)->Q v H')
def afQ:ay N4 N4 (ae OO):=sq
def afR (D:Def K mg "_law_dot" OO N4)(L:ac P w K mg lM 1 "_law_sum" N4 (cx K gM))(Q:ac P w K mg lM 1 "_law_times" N4 (cx K nE)):
  ac P w K mg lM 2 "_law_dot" N4 (u_ K):=by
 show D.oo afQ λH Y h=>?_;let(T,U,i,j,k,o,p,u,x,y,m,n,rfl,R,S,A,B,C,E,le,q):=h;show(_,(ah (aE (aL L Y (aH (aL Q Y (aH (bB Ma (pv 0) ag) (bB Ma (pv 1) ag))) (aL Q Y (aH (bB Ma (pv 0) ag) (bB Ma (pv 1) ag))))))),_,O,T,_,_,_,O,O,R,O,_,O,U,_,_,_,O,O,S,O,?_);dsimp only [gQ];change cx K nE [_,_] _ _ E0;show o_ A C ce λf b Z G=>?_;show(_,O,T,_,_,_,O,O,(R.imp Z.seq (Ty.aq.bS Z)),O,_,O,U,_,_,_,O,O,(S.imp Z.seq (Ty.aq.bS Z)),O,?_);dsimp only [gQ];change cx K nE [_,_] _ _ E0;show o_ (B.lO Z) (E.lO Z) ce λg c X I=>?_;change cx K gM [_,_] _ _ E0;show me (G.lO X) I ce λM z N J=>?_;show q (.ref M) z (Z.trans (X.trans N)) J
structure Found (K:Frag)(H:Hp)(fA:BK)(ls:ψ)(F:Nat->Rat×Rat)(B:Nat->Int->Nat):Prop where
 hf:H fA=some (.lst (ls.map V.ref))
 nd:ls.Nodup
 nf:fA∉ls
 row:∀(i:Nat)(l:BK),ls[i]?=some l->∃v1 v2,H l=some (.lst [v1,v2])/\jf K H v1 (B i 0) (F i).1/\jf K H v2 (B i 1) (F i).2
def KL (Z:ψ)(H H':Hp):Prop:=∀b o,b∉Z->H b=some o->H' b=some o
theorem Found.lO (h:Found K H fA ls F B)(s:aq H H'):Found K H' fA ls F B:=(s _ _ h.hf,h.nd,h.nf,λi l e=>by
 let(Y,Z,a,b,c):=h.row i l e
 show(Y,Z,s _ _ a,b.lO s,c.lO s))
theorem Found.up (h:Found K H fA ls F B)(l:∀i,B i 0<=B' i 0/\B i 1<=B' i 1):Found K H fA ls F B':=(h.hf,h.nd,h.nf,λi x e=>by
 let(Y,Z,a,b,c):=h.row i x e
 show(Y,Z,a,b.up (l i).1,c.up (l i).2))
def Found.aQ (h:Found K H fA ls F B)(k:KL ls H H'):bg H H':=λb xs r=>by
 let Z:∀o,H b=some o->(∀Y,o≠.lst Y)->H' b=some o:=λo e n=>k b o (λm=>by
  let(i,U):=JG m;let(S,T,a,_):=h.row i b U;rw [a] at e
  show n _ (JB e).symm) e
 rcases r with r|⟨X,r⟩
 ·show .inl (Z _ r λY z=>nomatch z)
 ·show .inr #[X,Z _ r λY z=>nomatch z]
def f_ (F:Nat->Rat×Rat)(k:Nat)(a:Int)(d:Rat):Nat->Rat×Rat:=λi=>if i=k then (if a=0 then ((F i).1+d,(F i).2) else ((F i).1,(F i).2+d)) else F i
def zk (X:a=0\/a=1)(Y:c=0\/c=1)(i:Nat):ax c (f_ F k a d i)=ax c (F i)+if i=k/\c=a then d else 0:=by
 unfold f_ ax;by_cases Z:i=k
 ·subst Z
  rcases X with rfl|rfl<;>rcases Y with rfl|rfl<;>simp<;>grind
 ·simp [Z]
  grind
def vb (B:Nat->Int->Nat)(k:Nat)(a:Int)(m:Nat):Nat->Int->Nat:=λi c=>if i=k/\c=a then B i c+m else B i c
inductive JR (K:Frag)(vs:ε)(H:Hp)(Q:VK)(X:XK):Prop
|mk (Y:BK)(Z:ψ)(F:Nat->Rat×Rat)(B:Nat->Int->Nat)(k:Nat)(a:Int)(v:V)(m:Nat)(d:Rat)(_:vs=[.ref Y,.int (k:Int),.int a,v])(_:Found K H Y Z F B)(_:k<Z.length)(_:(a=0\/a=1))(_:jf K H v m d)(_:B k a+m<=130000000)(_:∀(H':Hp),KL Z H H' ->Found K H' Y Z (f_ F k a d) (vb B k a (m+1))->Q .cW H')
def afS:ay qj qj (ae OJ):=sq
def afT (D:Def K mg "_law_add" OJ qj)(nH:ac P w K mg lM 1 "_law_sum" N4 (cx K gM)):
  ac P w K mg lM 2 "_law_add" qj (JR K):=by
 show D.oo afS λH hr h=>?_;let(M,T,F,B,k,a,v,m,d,rfl,Z,hk,y,f,le,q):=h;show(_,(ah (qe (aL nH hr (aH (bB aU (bB aU (pv 0) (pv 1)) (pv 2)) (pv 3))) (xZ (bB aU (pv 0) (pv 1)) (pv 2) set_list))),?_);obtain ⟨l,S⟩:∃l,T[k]?=some l:=#[_,gE hk];let(X,Y,A,E,G):=Z.row k l S;let x:hW (T.map V.ref) (k:Int)=some (.ref l):=bH (by rw [CP,S];rfl);let lm:l∈T:=Wp S;let lf:l≠M:=λz=>Z.nf (z▸lm)
 obtain ⟨u,ea,nu⟩:∃u,hW [X,Y] a=some u/\jf K H u (B k a) (ax a (F k)):=by
  rcases y with rfl|rfl
  ·show(X,O,E)
  ·show(Y,O,G)
 show(_,O,_,O,M,_,_,_,O,O,aT.of Z.hf,x,_,O,l,_,_,_,O,O,aT.of A,ea,_,O,?_);dsimp only [gQ];change cx K gM [_,_] _ _ E0;show me nu f le λR L U I=>?_
 obtain ⟨j,ej,N⟩:∃j,HK [X,Y].length a=some j/\((a=0/\j=0)\/(a=1/\j=1)):=by
  rcases y with rfl|rfl
  ·show(0,O,.inl #[O,O])
  ·show(1,O,.inr #[O,O])
 show(_,O,_,O,M,_,_,_,O,O,aT.of (U _ _ Z.hf),x,_,O,l,_,_,j,O,O,U _ _ A,ej,?_);let J:=Z.lO U
 let kl:KL T H (upd L l (.lst ([X,Y].set j (.ref R)))):=λb o Q e=>by
  rw [aj (λz=>Q (by rwa [z]))];show U _ _ e
 let k3:KL T L (upd L l (.lst ([X,Y].set j (.ref R)))):=λb o Q e=>by
  rw [aj (λz=>Q (by rwa [z]))];show e
 let st:=J.aQ k3;show q _ kl (?_,Z.nd,Z.nf,λi C e=>?_)
 ·rw [aj (G' lf)]
  show J.hf
 ·by_cases c:i=k
  ·subst c
   erw [S] at e;show(([X,Y].set j (.ref R))[0]?.getD .cW,([X,Y].set j (.ref R))[1]?.getD .cW,?_,?_,?_)
   ·rw [ak]
    rcases N with ⟨_,rfl⟩|⟨_,rfl⟩<;>rfl
   ·unfold f_ vb
    rw [ox rfl]
    rcases N with ⟨rfl,rfl⟩|⟨rfl,rfl⟩
    ·rw [ox (c:=i=i/\(0:Int)=0) #[O,O]]
     show I.aQ st
    ·rw [mQ (c:=i=i/\(0:Int)=1) ce]
     show(E.lO U).aQ st
   ·unfold f_ vb
    rw [ox rfl]
    rcases N with ⟨rfl,rfl⟩|⟨rfl,rfl⟩
    ·rw [mQ (c:=i=i/\(1:Int)=0) ce]
     show(G.lO U).aQ st
    ·rw [ox (c:=i=i/\(1:Int)=1) #[O,O]]
     show I.aQ st
  ·let(g,p,g1,g2,g3):=J.row i C e
   let nl:C≠l:=λz=>c (eV Z.nd e (z▸S));show(g,p,?_,?_,?_)
   ·rw [aj nl]
    show g1
   ·unfold f_ vb
    rw [mQ c,mQ (λz=>c z.1)];show g2.aQ st
   ·unfold f_ vb
    rw [mQ c,mQ (λz=>c z.1)];show g3.aQ st
def bJ {ys:ε}:hW (x::ys) 0=some x:=bH (xs:=x::ys) (j:=0) rfl
structure SQ (K:Frag)(H:Hp)(pA bA:BK)(us vs:ε)(pX:ι)(gV:τ):Prop where
 hp:H pA=some (.lst us)
 pp:Paired (iX K H) us pX
 gp:gx pX
 hb:H bA=some (.lst vs)
 pb:Paired (j7 K H pX) vs gV
 en:∀b∈gV,b.one.nm≠b.mP.nm
 lp:pX.length<=9
 lb:gV.length<=10
theorem SQ.lO (h:SQ K H pA bA us vs pX gV)(s:aq H H'):SQ K H' pA bA us vs pX gV:=(s _ _ h.hp,Paired.b6 h.pp λ_ _ z=>z.lO s,h.gp,s _ _ h.hb,Paired.b6 h.pb λ_ _ z=>z.lO s,h.en,h.lp,h.lb)
structure LFo (K:Frag)(H:Hp)(tA uA:BK)(kT kU:γ)(pX:ι)(gV:τ)(T:Λ)(U:ω)(N:Nat):Prop where
 ht:H tA=some (.dK kT)
 pt:∀b∈gV,∃v,bC kT (.inr b.nm)=some v/\jf K H v N (T b.nm)
 hu:H uA=some (.dK kU)
 pu:∀p∈pX,∃la ys,bC kU (.inr p.nm)=some (.ref la)/\H la=some (.lst ys)/\Paired (λv r=>jf K H v N r) ys (U p.nm)
 lU:∀p∈pX,(U p.nm).length=p.ws.length
 hN:N<=8000000
def KL.lO (Y:∀l∈Z,H l=none)(s:aq H H6)(k:KL Z H6 H7):aq H H7:=λb o e=>k b o (λm=>by erw [Y b m] at e) (s b o e)
def pE (T:Λ)(Z:τ)(a:Int)(p:aC):Rat:=(Z.map λb=>T b.nm*ax a (mv (dJ b) p.nm)).sum
def zak :pE T (bs++[b]) a p=pE T bs a p+T b.nm*ax a (mv (dJ b) p.nm):=by
 unfold pE;rw [II,ajZ,ED,NV,N7,RI];grind
def zo {pX:ι}(Z:(pX.map (·.nm)).Nodup){i j:Nat}(X:pX[i]?=some p)(Y:pX[j]?=some q)(e:p.nm=q.nm):i=j:=eV Z (x:=q.nm) (by rw [CP,X,<-e];rfl) (by rw [CP,Y];rfl)
def ahD {pX:ι}(Q:(pX.map (·.nm)).Nodup)(N:b.one.nm≠b.mP.nm){i Y Z:Nat}(X:pX[i]?=some p)(U:pX[Y]?=some b.one)(T:pX[Z]?=some b.mP)(t:Rat)(k:Int):
  (if i=Y then t*(ax k b.mP.sp-ax k b.one.sp) else 0)+(if i=Z then -(t*(ax k b.mP.sp-ax k b.one.sp)) else 0)=t*ax k (mv (dJ b) p.nm):=by
 let M:Y≠Z:=λz=>by rw [z,T] at U;show N (by rw [JB U])
 unfold mv dJ;by_cases R:i=Y
 ·subst R
  erw [U] at X;rw [ox rfl,mQ M,ox rfl];change _=t*ax k (kC b.one b.mP);unfold ax kC;split<;>grind
 ·rw [mQ R,mQ (λz=>R (zo Q X U z))]
  by_cases S:i=Z
  ·subst S
   erw [T] at X;rw [ox rfl,ox rfl];change _=t*ax k (kC b.mP b.one);unfold ax kC;split<;>grind
  ·rw [mQ S,mQ (λz=>S (zo Q X T z))]
   change (0:Rat)+0=t*ax k (0,0);unfold ax;split<;>grind
inductive pF (K:Frag)(vs:ε)(H:Hp)(Q:VK)(I:XK):Prop
|mk (X M Y Z:BK)(us ws:ε)(J L:γ)(pX:ι)(gV:τ)(T:Λ)(U:ω)(N:Nat)(_:vs=[.ref X,.ref M,.ref Y,.ref Z])(_:SQ K H X M us ws pX gV)(_:LFo K H Y Z J L pX gV T U N)(_:∀(R:BK)(S:ψ)(F:Nat->Rat×Rat)(H':Hp),aq H H' ->S.length=pX.length->Found K H' R S F (λ_ _=>1+12*(N+91))->(∀(i:Nat)(p:aC),pX[i]?=some p->(F i).1=gL gV T U p (·.1)/\(F i).2=gL gV T U p (·.2))->Q (.ref R) H')
def rM:ay ["_law_pins_here","_law_bars_here","_law_pulls_here","_law_pushes_here","_law_found","_law_bar","_law_axis","_law_draw","_law_k","_law_j"] QR (ae OK):=sq
def afU (D:Def K mg "_law_forces" OK QR)(aV:mg "len"=none)(ba:mg "range"=none)(JQ:ac P w K mg lM 1 "_law_times" N4 (cx K nE))(SO:ac P w K mg lM 1 "_law_turned" VU (iD K))(Wm:ac P w K mg lM 2 "_law_arm" σ4 (zi K))(aaZ:ac P w K mg lM 2 "_law_add" qj (JR K)):
  ac P w K mg lM 3 "_law_forces" QR (pF K):=by
 show D.oo rM λH hr h=>?_;let(y,bA,tA,uA,us,ws,kT,kU,o,gV,T,U,N,rfl,fr,fo,q):=h;let L2:2<=DC:=cr
 let hN:=fo.hN;let lp:=fr.lp;let lb:=fr.lb;let lu:us.length=o.length:=GX fr.pp;let lw:ws.length=gV.length:=GX fr.pb
 show(_,(aa (qD (i:=4) (tn:=r6) (fr:=[]) (pO:=[]) rM.nd (bo (pv 0)) (bY (aH (aS (aH ag ag)) (aS (aH ag ag))))) (aa (bh HG rfl (bo (pv 1)) (bI 5 rM.nd) (ah (bh HG rfl (bK rfl ba (aZ ag)) (bI 6 rM.nd) (aa (aI 7 rM.nd (aL JQ hr (aH (cO (bP hr) (pv 2) (aF (pv 5)) (λ_ _=>O)) (aL Wm hr (bu (pv 0) (pv 5) (pv 6)))))) (aa (bD (aL aaZ hr (iL (pv 4) (bu (aF (pv 5)) (pv 6) (pv 7))))) (ah (bD (aL aaZ hr (iL (pv 4) (bu (aF (pv 5)) (pv 6) (aL SO hr (aZ (pv 7))))))))))))) (aa (bh HG rfl (bK rfl ba (aZ (aJ aG rfl aV bV (aZ (pv 0))))) (bI 8 rM.nd) (ah (bh HG rfl (bK rfl ba (aZ (aJ aG rfl aV bV (aZ (aF (bB aU (pv 0) (pv 8))))))) (bI 9 rM.nd) (ah (bh HG rfl (bK rfl ba (aZ ag)) (bI 6 rM.nd) (ah (bD (aL aaZ hr (iL (pv 4) (bu (pv 8) (pv 6) (aL JQ hr (aH (bB aU (cO (bP hr) (pv 3) (aF (bB aU (pv 0) (pv 8))) (λ_ _=>O)) (pv 9)) (bB mX (bB aU (aF (bB aU (pv 0) (pv 8))) (pv 9)) (pv 6)))))))))))))) (ah (aE (pv 4)))))),?_);sleep 3
 show(_,O,y,O,#[_,aT.of fr.hp],λG n1=>?_);show uE (pS:=[]) (K:=K) (a:=y) (xs:=us) (λys Q=>∃L:List BK,ys=L.map V.ref/\L.Nodup/\G∉L/\∀l∈L,H l=none/\∃p q:BK,Q l=some (.lst [.ref p,.ref q])/\Q p=some (.tup [.int 0,.int 1])/\Q q=some (.tup [.int 0,.int 1])) n1 (by rw [lu];show IG (show o.length<=100 by omega) cr) (λH2 s2=>aT.of (s2 _ _ fr.hp)) ([],O,ZZ,by simp,λl h=>by cases h) ?_ ?_
 ·intro i x ys H2 R hx ly hJ s2 hD k
  let(L,rfl,nd,nf,hl):=hJ;show#[L2,?_];intros p3 n3 H3 s3 e3;show#[L2,?_];intros p4 n4 H4 M e4;show#[L2,?_];intros l5 n5 H5 A e5;let SS:=s3.trans (M.trans A);let D5:=SS _ _ hD;let D4:=M _ _ (s3 _ _ hD);show k _ _ SS (L++[l5],by simp,?_,?_,λl hm=>?_)
  ·rw [Wt]
   show(nd,by simp,λa Z b hb z=>?_);have fM :b=l5:=by simpa using hb
   let(_,p,q,h1,_):=hl a Z;rw [z,fM] at h1;erw [M _ _ (s3 _ _ h1)] at n5
  ·intro z
   rcases HZ.mp z with z|z
   ·show nf z
   ·rw [<-HU.mp z,D4] at n5
    cases n5
  ·rcases HZ.mp hm with z|z
   ·let(h0,p,q,h1,h2,h3):=hl l z
    show(h0,p,q,?_,?_,?_)
    ·rw [aj (λe:l=G=>nf (by rwa [<-e]))]
     show SS _ _ h1
    ·rw [aj (λe=>by erw [e,hD] at h2)]
     show SS _ _ h2
    ·rw [aj (λe=>by erw [e,hD] at h3)]
     show SS _ _ h3
   ·let z:=HU.mp z
    subst z;show((s2.trans (s3.trans M)).free n5,p3,p4,?_,?_,?_)
    ·rw [aj (λe=>by erw [e,D4] at n5)]
     show e5
    ·rw [aj (λe=>by erw [e,hD] at n3)]
     show A _ _ (M _ _ e3)
    ·rw [aj (λe=>by erw [e,s3 _ _ hD] at n4)]
     show A _ _ e4
 intro ys H2 ly hJ s2 hD;let(L,rfl,nd,nf,hl):=hJ;let hn:∀l∈L,H l=none:=λl m=>(hl l m).1;let ll:L.length=o.length:=by rw [<-lu,<-ly,be]
 let z0:∀(p:BK)(Q:Hp),Q p=some (.tup [.int 0,.int 1])->jf K Q (.ref p) 1 0:=λp Q e=>((0,1),(p,O,bL.of e),cr,by decide+kernel,cr,cr)
 let F0:Found K H2 G L (λ_=>(0,0)) (λ_ _=>1+0*(N+91)):=(hD,nd,nf,λi l e=>by
  let(_,p,q,h1,h2,h3):=hl l (Wp e);rw [ak2]
  show(_,_,h1,z0 p _ h2,z0 q _ h3))
 show(_,O,bA,O,#[_,aT.of (s2 _ _ fr.hb)],let I:bn:=λt Y Q=>N6 λ(F:Nat->Rat×Rat) (o5 X E:χ)=>Y=[ap y,ap bA,ap tA,ap uA,ap G,o5,X,E,none,none]/\aq H Q/\Found K Q G L F (λ_ _=>1+t*(N+91))/\∀(i:Nat)(p:aC),o[i]?=some p->∀a:Int,(a=0\/a=1)->ax a (F i)=pE T (gV.take t) a p;bT (K:=K) (a:=bA) (xs:=ws) I (_,none,none,none,O,s2,F0,λi p _ a _=>?_) (λt Y Q _ h=>by
   let(_,_,_,_,_,s',_):=h
   show aT.of (s' _ _ fr.hb)) ?_ ?_)
 ·change ax a (0,0)=0
  unfold ax;split<;>rfl
 ·rintro t bv Y H3 hbv ⟨F,o5,X,E,rfl,s3,F3,S⟩
  let htw:t<ws.length:=(ir.mp hbv).1;let(b,eb,D_):=aw fr.pb hbv;let mb:b∈gV:=Wp eb;let(tv,etv,htv):=fo.pt b mb;let bt:t*(N+91)<=9*(N+91):=Q3 _ ce;generalize hB:1+t*(N+91)=B at F3;show((2:Int),O,cr,cr,let I:bn:=λk Y Q=>GJ λ(F:Nat->Rat×Rat) (X E:χ)=>Y=[ap y,ap bA,ap tA,ap uA,ap G,some bv,X,E,none,none]/\aq H Q/\Found K Q G L F (λ_ c=>if c<(k:Int) then B+(N+91) else B)/\∀(i:Nat)(p:aC),o[i]?=some p->∀a:Int,(a=0\/a=1)->ax a (F i)=pE T (gV.take t) a p+if a<(k:Int) then T b.nm*ax a (mv (dJ b) p.nm) else 0;cf (lo:=0) (n:=2) I (F,X,E,O,s3,F3.up λi=>#[DH _,DH _],λi p e a Z=>?_) ?_ ?_)
  ·rw [S i p e a Z,mQ (by rcases Z with rfl|rfl<;>decide)]
   grind
  ·rintro k Y H4 hk ⟨F,X,E,rfl,M,F4,S⟩
   let ek:(0:Int)+(k:Int)=(k:Int):=Nc _;rw [ek];let RU:(k:Int)=0\/(k:Int)=1:=ce
   let fr4:=fr.lO M;let nk:¬ (k:Int)<(k:Int):=ce
   let(ta,i1,i2,eta,hbt,e1,e2):=D_.lO M;let Sb:i1≠i2:=λz=>by rw [z,e2] at e1;show fr.en b mb (by rw [JB e1])
   let vM:i1<L.length:=by rw [ll];show(ir.mp e1).1
   let ZF:i2<L.length:=by rw [ll];show(ir.mp e2).1
   let dgt:cX H4 tA (.str b.nm) (some tv):=by
    have:=cX.k (k:=.inr b.nm) (M _ _ fo.ht);rwa [etv] at this
   subst eta;show(_,O,_,O,ta,_,_,_,O,O,hbt,bJ,tA,tv,O,dgt,_,O,_,O,_,O,y,us,o,_,b,(k:Int),O,fr4.hp,fr4.pp,fr.gp,D_.lO M,RU,λv5 H5 A n5=>?_);dsimp only [gQ];change cx K nE [_,_] _ _ E0;show o_ ((htv.lO M).lO A) n5 ce λp6 H6 J n6=>?_;let qa:=M.trans (A.trans J);let F6:=F4.lO (A.trans J);show(_,O,_,O,ta,_,_,_,O,O,Ty.aq.bS (A.trans J) hbt,O,_,O,_,O,G,L,F,_,i1,(k:Int),_,_,_,O,F6,vM,RU,n6,by (try dsimp only);rw [mQ nk];omega,λH7 k7 F7=>?_);let s07:=KL.lO hn qa k7;let n7:=n6.aQ (F6.aQ k7);show(_,O,_,O,ta,_,_,_,O,O,(F6.aQ k7).bS (Ty.aq.bS (A.trans J) hbt),O,_,O,_,O,?_);dsimp only [gQ];change iD K [_] _ _ E0;show uZ n7 λp8 H8 s8 n8=>?_;let F8:=F7.lO s8;show(G,L,_,_,i2,(k:Int),_,_,_,O,F8,ZF,RU,n8,by unfold vb;(try dsimp only);rw [mQ (λz=>Sb z.1.symm),mQ nk];omega,λH9 k9 F9=>?_);let SF:=KL.lO hn (s07.trans s8) k9;show(_,_,_,O,SF,F9.up (λi=>?_),λi p e a Z=>?_)
   ·let g:∀c:Int,vb (vb (λ_ c=>if c<(k:Int) then B+(N+91) else B) i1 (k:Int) (N+89+1)) i2 (k:Int) (N+89+1) i c<=if c<((k+1:Nat):Int) then B+(N+91) else B:=λc=>by
     unfold vb;dsimp only;by_cases f:i=i1/\c=(k:Int)
     ·rw [ox f,mQ (λz=>Sb (f.1.symm.trans z.1)),f.2,mQ nk,ox ce]
      omega
     ·rw [mQ f]
      by_cases c2:i=i2/\c=(k:Int)
      ·rw [ox c2,c2.2,mQ nk,ox ce]
       omega
      ·rw [mQ c2]
       by_cases c3:c<(k:Int)
       ·rw [ox c3,ox ce]
        show DH _
       ·rw [mQ c3]
        split<;>omega
    show#[g 0,g 1]
   rw [zk RU Z,zk RU Z,S i p e a Z];let bp:=ahD fr.gp.np (fr.en b mb) e e1 e2 (T b.nm) (k:Int);by_cases ca:a=(k:Int)
   ·subst ca
    rw [mQ (c:=(k:Int)<(k:Int)) ce,ox (c:=(k:Int)<((k+1:Nat):Int)) ce,<-bp];simp only [and_true];grind
   ·let f:¬ (i=i1/\a=(k:Int)):=λz=>ca z.2
    let c2:¬ (i=i2/\a=(k:Int)):=λz=>ca z.2;rw [mQ f,mQ c2];by_cases cl:a<(k:Int)
    ·rw [ox cl,ox (c:=a<((k+1:Nat):Int)) ce]
     grind
    ·rw [mQ cl,mQ (c:=a<((k+1:Nat):Int)) ce]
     grind
  ·rintro Y H4 ⟨F,X,E,rfl,M,F4,S⟩
   show(F,_,_,_,O,M,F4.up (λi=>#[by rw [ox cr,Rf,<-hB];omega,by rw [ox cr,Rf,<-hB];omega]),λi p e a Z=>?_);rw [take_snoc eb,zak,S i p e a Z,ox (by rcases Z with rfl|rfl<;>decide)]
 ·rintro Y H3 ⟨F,o5,X,E,rfl,s3,F3,S⟩
  rw [lw] at F3;rw [lw,Ni] at S;let bl:gV.length*(N+91)<=10*(N+91):=Q3 _ ce;generalize hB:1+gV.length*(N+91)=B at F3;let en2:((us.length:Nat):Int).toNat=us.length:=ce
  show(_,O,y,_,O,.inl (aT.of (s3 _ _ fr.hp)),((us.length:Nat):Int),O,ce,ce,let I:bn:=λk Y Q=>Ex6 λ(F:Nat->Rat×Rat) (o5 X E o8 o9:χ)=>Y=[ap y,ap bA,ap tA,ap uA,ap G,o5,X,E,o8,o9]/\aq H Q/\Found K Q G L F (λi _=>if i<k then B+2*(N+91) else B)/\∀(i:Nat)(p:aC),o[i]?=some p->∀a:Int,(a=0\/a=1)->ax a (F i)=pE T gV a p+if i<k then sP (U p.nm) (p.ws.map (ax a)) else 0;cf (lo:=0) (n:=((us.length:Nat):Int).toNat) I (F,o5,X,E,none,none,O,s3,F3.up λi=>#[DH _,DH _],λi p e a Z=>?_) ?_ ?_)
  ·rw [S i p e a Z,mQ ce]
   grind
  ·rintro k Y H4 hk ⟨F,o5,X,E,o8,o9,rfl,M,F4,S⟩
   let ek:(0:Int)+(k:Int)=(k:Int):=Nc _;rw [ek];let hku:k<us.length:=ce
   let(p,ep,DZ):=aw fr.pp (gE hku);let mp:p∈o:=Wp ep;let(la,ys,exv,hla,py):=fo.pu p mp;let lup:=fo.lU p mp;let lwp:=(fr.gp.ws p mp).len;let ly:ys.length=(U p.nm).length:=GX py;let aku:hW us (k:Int)=some us[k]:=bH (gE hku);let(pa,l,sv,eK,epa,h1,h2,h3,h4):=DZ;rw [epa] at aku;let lv:eK.length=p.ws.length:=GX h4;let kp:k<o.length:=ce
   let en3:((eK.length:Nat):Int).toNat=eK.length:=ce
   show(_,O,_,O,y,_,_,_,O,O,aT.of (M _ _ fr.hp),aku,pa,_,_,_,O,O,Ty.aq.bS M h1,O,l,_,O,.inl (aT.of (M _ _ h3)),((eK.length:Nat):Int),O,ce,ce,let I:bn:=λj Y Q=>GJ λ(F:Nat->Rat×Rat) (X o9:χ)=>Y=[ap y,ap bA,ap tA,ap uA,ap G,o5,X,E,some (.int (k:Int)),o9]/\aq H Q/\Found K Q G L F (λi _=>if i<k then B+2*(N+91) else if i=k then B+j*(N+91) else B)/\∀(i:Nat)(p:aC),o[i]?=some p->∀a:Int,(a=0\/a=1)->ax a (F i)=pE T gV a p+if i<k then sP (U p.nm) (p.ws.map (ax a)) else if i=k then sP ((U p.nm).take j) ((p.ws.take j).map (ax a)) else 0;cf (lo:=0) (n:=((eK.length:Nat):Int).toNat) I (F,X,o9,O,M,F4.up λi=>(by rw [ak2];(try dsimp only);constructor<;>split<;>(try split)<;>omega),λi p e a Z=>?_) ?_ ?_)
   ·rw [S i p e a Z,alO,gJ]
    split<;>simp
   ·rintro j Y H5 hj ⟨F,X,o9,rfl,A,F5,S⟩
    let ek:(0:Int)+(j:Int)=(j:Int):=Nc _;rw [ek];let hj1:j<eK.length:=ce
    let hj2:j<ys.length:=ce
    let(x,ex,hx):=aw py (gE hj2);let(wq,ewq,hwq):=aw h4 (gE hj1);let zw:=(fr.gp.ws p mp).sz wq (Wp ewq);let axj:hW ys (j:Int)=some ys[j]:=bH (gE hj2);let awj:hW eK (j:Int)=some eK[j]:=bH (gE hj1);let bj:j*(N+91)<=1*(N+91):=Q3 _ ce;show((2:Int),O,cr,cr,let I:bn:=λc Y Q=>Mg λ(F:Nat->Rat×Rat) (X:χ)=>Y=[ap y,ap bA,ap tA,ap uA,ap G,o5,X,E,some (.int (k:Int)),some (.int (j:Int))]/\aq H Q/\Found K Q G L F (λi a=>if i<k then B+2*(N+91) else if i=k then (if a<(c:Int) then B+j*(N+91)+(N+91) else B+j*(N+91)) else B)/\∀(i:Nat)(p:aC),o[i]?=some p->∀a:Int,(a=0\/a=1)->ax a (F i)=(pE T gV a p+if i<k then sP (U p.nm) (p.ws.map (ax a)) else if i=k then sP ((U p.nm).take j) ((p.ws.take j).map (ax a)) else 0)+if i=k/\a<(c:Int) then x*ax a wq else 0;cf (lo:=0) (n:=2) I (F,X,O,A,F5.up λi=>(by (try dsimp only);constructor<;>split<;>(try split)<;>(try split)<;>omega),λi p e a Z=>?_) ?_ ?_)
    ·rw [S i p e a Z,mQ (c:=i=k/\a<((0:Nat):Int)) (λz=>by rcases Z with rfl|rfl<;>show DQ z.2 cr)]
     grind
    ·rintro c Y H6 hc ⟨F,X,rfl,J,F6,S⟩
     let ek:(0:Int)+(c:Int)=(c:Int):=Nc _;rw [ek];let hc2:(c:Int)=0\/(c:Int)=1:=ce
     let nc:¬ (c:Int)<(c:Int):=ce
     let(wa,zs,u,ewa,GH,awc,nwc):=D' hc2 (hwq.lO J);rw [ewa] at awj
     let dgu:cX H6 uA (.str p.nm) (some (.ref la)):=by
      have:=cX.k (k:=.inr p.nm) (J _ _ fo.hu);rwa [exv] at this
     show(_,O,_,O,_,O,_,O,_,O,_,O,y,_,_,_,O,O,aT.of (J _ _ fr.hp),aku,pa,_,_,_,O,O,Ty.aq.bS J h1,bJ,uA,_,O,dgu,_,O,la,_,_,_,O,O,aT.of (J _ _ hla),axj,_,O,_,O,y,_,_,_,O,O,aT.of (J _ _ fr.hp),aku,pa,_,_,_,O,O,Ty.aq.bS J h1,O,_,O,l,_,_,_,O,O,aT.of (J _ _ h3),awj,_,O,wa,_,_,_,O,O,GH,awc,?_);dsimp only [gQ];change cx K nE [_,_] _ _ E0;show o_ (hx.lO J) (dI nwc (gZ (SN zw) (DH _))) ce λp7 H7 s7 n7=>?_;show(G,L,F,_,k,(c:Int),_,_,_,O,F6.lO s7,ce,hc2,n7,by (try dsimp only);rw [mQ (Q0 _),ox rfl,mQ nc];omega,λH8 k8 F8=>?_);show(_,_,O,KL.lO hn (J.trans s7) k8,F8.up (λi=>?_),λi p' e a Z=>?_)
     ·let g:∀a:Int,vb (λi a=>if i<k then B+2*(N+91) else if i=k then (if a<(c:Int) then B+j*(N+91)+(N+91) else B+j*(N+91)) else B) k (c:Int) (N+22+1) i a<=if i<k then B+2*(N+91) else if i=k then (if a<((c+1:Nat):Int) then B+j*(N+91)+(N+91) else B+j*(N+91)) else B:=λa=>by
       unfold vb;dsimp only;by_cases f:i=k/\a=(c:Int)
       ·rw [ox f,f.1,mQ (Q0 _),ox rfl,f.2,mQ nc,mQ (Q0 _),ox rfl,ox ce]
        omega
       ·rw [mQ f]
        by_cases c2:i<k
        ·rw [ox c2,ox c2]
         show DH _
        ·rw [mQ c2,mQ c2]
         by_cases c3:i=k
         ·rw [ox c3,ox c3]
          by_cases c4:a<(c:Int)
          ·rw [ox c4,ox ce]
           show DH _
          ·rw [mQ c4]
           split<;>omega
         ·rw [mQ c3,mQ c3]
          show DH _
      show#[g 0,g 1]
     rw [zk hc2 Z,S i p' e a Z];by_cases C:i=k
     ·by_cases ca:a=(c:Int)
      ·subst ca
       rw [mQ (c:=i=k/\(c:Int)<(c:Int)) (λz=>ce),ox (c:=i=k/\(c:Int)=(c:Int)) #[C,O],ox (c:=i=k/\(c:Int)<((c+1:Nat):Int)) #[C,ce]];grind
      ·rw [mQ (c:=i=k/\a=(c:Int)) (λz=>ca z.2)]
       by_cases cl:a<(c:Int)
       ·rw [ox (c:=i=k/\a<(c:Int)) #[C,cl],ox (c:=i=k/\a<((c+1:Nat):Int)) #[C,ce]]
        grind
       ·rw [mQ (c:=i=k/\a<(c:Int)) (λz=>cl z.2),mQ (c:=i=k/\a<((c+1:Nat):Int)) (λz=>by have:=z.2;omega)]
        grind
     ·rw [mQ (c:=i=k/\a<(c:Int)) (λz=>C z.1),mQ (c:=i=k/\a=(c:Int)) (λz=>C z.1),mQ (c:=i=k/\a<((c+1:Nat):Int)) (λz=>C z.1)]
      grind
    ·rintro Y H6 ⟨F,X,rfl,J,F6,S⟩
     show(F,_,_,O,J,F6.up (λi=>by (try dsimp only);rw [Rf];constructor<;>split<;>(try split)<;>(try split)<;>omega),λi p' e a Z=>?_);rw [S i p' e a Z];by_cases C:i=k
     ·subst C
      erw [ep] at e;rw [mQ (Q0 _),ox rfl,mQ (Q0 _),ox rfl,ox (c:=i=i/\a<((2:Nat):Int)) #[O,by rcases Z with rfl|rfl<;>decide]];rw [take_snoc ex,take_snoc ewq,II,gK _ _ (by rw [be,IY,IY];omega),ED,NV,cG,gJ];grind
     ·rw [mQ (c:=i=k/\a<((2:Nat):Int)) (λz=>C z.1),mQ C,mQ C]
      grind
   ·rintro Y H5 ⟨F,X,o9,rfl,A,F5,S⟩
    rw [en3] at F5 S
    show(F,_,_,_,_,_,O,A,F5.up (λi=>by
     have:eK.length*(N+91)<=2*(N+91):=Q3 _ ce;try dsimp only
     constructor<;>split<;>(try split)<;>(try split)<;>omega),λi p' e a Z=>?_)
    rw [S i p' e a Z];by_cases C:i=k
    ·subst C
     erw [ep] at e;rw [mQ (Q0 _),ox rfl,ox (QW _),Q_ ce,Q_ ce]
    ·rw [mQ C]
     by_cases cl:i<k
     ·rw [ox cl,ox ce]
     ·rw [mQ cl,mQ ce]
  ·rintro Y H4 ⟨F,o5,X,E,o8,o9,rfl,M,F4,S⟩
   rw [en2,lu] at F4 S;show(_,O,q G L F H4 M ll (F4.up λi=>(by (try dsimp only);constructor<;>split<;>omega)) λi p e=>?_);let hi:=(ir.mp e).1;let a0:=S i p e 0 (.inl rfl);let a1:=S i p e 1 (.inr rfl);rw [ox hi] at a0 a1;unfold gL;unfold pE at a0 a1;let e0:ax 0=λp:Rat×Rat=>p.1:=rfl;let e1:ax 1=λp:Rat×Rat=>p.2:=rfl;rw [e0] at a0;rw [e1] at a1;show#[a0.trans (Rat.add_comm _ _),a1.trans (Rat.add_comm _ _)]
structure SU (K:Frag)(H:Hp)(pX:ι)(d:BK)(kM:γ)(M:υ)(N:Nat):Prop where
 hM:H d=some (.dK kM)
 keys:kM.map (·.1)=pX.map (λp=>(IL p.nm:Key))
 tM:∀p∈pX,∃t v1 v2,bC kM (.inr p.nm)=some (.ref t)/\H t=some (.tup [v1,v2])/\dq K H v1 (M p.nm).1/\dq K H v2 (M p.nm).2
 zb:∀p∈pX,Zb N (M p.nm).1/\Zb N (M p.nm).2
 hN:N<=6000000
theorem SU.lO (h:SU K H pX d kM M N)(s:aq H H'):SU K H' pX d kM M N:=(s _ _ h.hM,h.keys,λp X=>by
 let(t,Y,Z,a,b,c,d):=h.tM p X
 show(t,Y,Z,a,s _ _ b,c.lO s,d.lO s),h.zb,h.hN)
def SU.get (h:SU K H pX d kM M N)(X:p∈pX):∃t Y Z,cX H d (.str p.nm) (some (.ref t))/\H t=some (.tup [Y,Z])/\dq K H Y (M p.nm).1/\dq K H Z (M p.nm).2:=by
 let(t,Y,Z,a,b,c,d):=h.tM p X;show(t,Y,Z,?_,b,c,d);have:=cX.k (k:=.inr p.nm) h.hM;rwa [a] at this
def Yv (h:Zb n p.1/\Zb n p.2):Zb n (ax k p):=by
 unfold ax;split
 ·show h.1
 ·show h.2
def am0:Pj K (.type "int") (.type "int")=some true:=by unfold Pj;rw [ox cr]
def am1:Pj K (.type "int") (.type "bool")=some false:=zaa #[cr,λ_=>#[by decide+kernel,by decide+kernel]]
def ad_ (x:Int×Int):d9 [.v (.int x.1),.v (.int x.2)] [.v (.int x.1),.v (.int x.2)]=true:=by
 simp [d9,ku,rY]
inductive pG (K:Frag)(vs:ε)(H:Hp)(Q:VK)(Z:XK):Prop
|mk (u:V)(r:Rat)(_:vs=[u])(_:dq K H u r)(_:∀H',aq H H' ->Q (.bl true) H')
def Yw:ay ["_law_x","_law_part"] uG (ae OC):=sq
def afV (D:Def K mg "_law_number" OC uG)(B:mg "len"=none)(R:mg "isinstance"=none)(G:mg "int"=none)(A:mg "bool"=none)(C:mg "tuple"=none)
  (E:ac P w K mg lM 33 "_law_lowest" Rr cA):ac P w K mg lM 34 "_law_number" uG (pG K):=by
 show D.oo Yw λH N h=>?_;let(_,r,rfl,(Z,rfl,X),q):=h;let T:=cT r;let M:=m8 r;generalize qr r=x at X T M
 show(_,(aa (bw (PW.pt (gj (cL (bZ (aJ agq rfl R b9 (aH (pv 0) (kY rfl C oF))))) (gy (bE iu (aJ aG rfl B bV (aZ (pv 0))) ag)))) (ah (aE cZ)) aR) (aa (bh HG rfl (GZ (pv 0)) (bI 1 Yw.nd) (ah (bw (PW.pt (gj (cL (bZ (aJ fG rfl R b9 (aH (pv 1) (kY rfl G LJ))))) (gy (bZ (aJ fG rfl R b9 (aH (pv 1) (kY rfl A ac6))))))) (ah (aE cZ)) aR))) (ah (aE (GU (iz q_ (aF (pv 0)) ag (jI _)) (xY (iz (aj7 N.units) (aL E N (aH (aF (pv 0)) (aF (pv 0)))) (pv 0) (jI _)))))))),?_)
 show(_,O,Z,_,O,X,_,O,bq (λc=>nomatch c) (λ_=>?_));show(_,O,Z,_,O,.inr X,O,_,O,tS rfl ?_);show(_,O,Z,O,#[_,X],let I:bn:=λi Y S=>∃o,Y=[ap Z,o]/\S=H;ajd (K:=K) (a:=Z) (xs:=[.int x.1,.int x.2]) I (none,O,O) (λi Y S _ ⟨o,_,e⟩=>by rwa [e]) ?_ ?_)
 ·rintro i z Y S U ⟨o,rfl,rfl⟩
  obtain ⟨n,rfl⟩:∃n,z=V.int n:=by
   match i,U with
   | 0,U=>show#[_,(JB U).symm]
   | 1,U=>show#[_,(JB U).symm]
  show(_,O,_,_,_,true,O,O,.int n,am0,_,O,bq (λc=>nomatch c) (λ_=>?_));show(_,O,_,_,_,false,O,O,.int n,am1,_,O,bq (λc=>nomatch c) (λ_=>?_));show(_,O,O)
 ·rintro Y S ⟨o,rfl,rfl⟩
  show(_,O,Z,_,_,_,O,O,X,iW,_,_,O,O,_,O,bq (λ_=>?_) (λc=>DQ (NI T) c));show(_,O,Z,_,_,_,O,O,X,i6,_,O,Z,_,_,_,O,O,X,iW,_,_,O,T,λJ y Q L=>?_);rw [oB T M] at L;show(_,O,_,_,.inl #[lV (q:=x) (J,O,bL.of L),lV (q:=x) (Z,O,Ty.aq.bS Q X)],O,aim,?_);rw [ad_ x];show q _ Q
def SV:Pj K (.type "tuple") (.type "tuple")=some true:=by unfold Pj;rw [ox cr]
def aa0:Pj K (.type "dict") (.type "dict")=some true:=by unfold Pj;rw [ox cr]
def am2:Pj K (.type "list") (.type "list")=some true:=by unfold Pj;rw [ox cr]
theorem vc :∀ws:List Str,mj K H (ws.map λw=>Da.v (.str w)) (ws.map V.str)
 | []=>by unfold mj;trivial
 | w::ws=>by
  rw [ED,ED];unfold mj;show#[?_,vc ws];unfold Is;show#[O,O]
theorem ah_:∀ws:List Str,d9 (ws.map λw=>Da.v (.str w)) (ws.map λw=>Da.v (.str w))=true
 | []=>by simp [d9]
 | w::ws=>by
  rw [ED];unfold d9;rw [ah_ ws];simp [ku,rY]
theorem ahH:∀ws:List Str,f' (ws.map λw=>Da.v (.str w)) (ws.map λw=>Da.v (.str w))=true
 | []=>by simp [f']
 | w::ws=>by
  rw [ED];unfold f';rw [ahH ws];simp [alike]
theorem ajq:∀ws:List Str,mZ (ws.map λw=>Da.v (.str w))<=60
 | []=>by simp [mZ]
 | w::ws=>by
  rw [ED];unfold mZ;have:=ajq ws;simp only [dep];omega
def tf {ws:ς}(Y:H p=some (.lst (ws.map V.str)))(Z:H p2=some (.lst (ws.map V.str)))(q:Q (.bl false) H):LG K (.ref p) (.ref p2) H Q:=by
 show(ws.map λw=>Da.v (.str w),ws.map λw=>Da.v (.str w),.inr #[?_,?_],ahH ws,ajq ws,by rwa [ah_])
 ·unfold Is
  show(p,_,O,aT.of Y,vc ws)
 ·unfold Is
  show(p2,_,O,aT.of Z,vc ws)
def pH {us:ε}{nm:Z->Str}{pS:L2.St}(T:H D1=none)(M:H a=some (.lst us))(U:Paired (λu z=>∃c ys,u=.ref c/\bL K H c (.str (nm z)::ys)) us zs)(l:zs.length<=1000)(k:∀H',aq H H' ->H' D1=some (.lst ((zs.map nm).map V.str))->R (.ref D1) H'):
  mm D1 (cE 0) kz (U7 (QJ K) (U2 0) (tC (V.int 0))) (TN K a) (none::pS) H R:=by
 let S:us.length=zs.length:=GX U;show dE (K:=K) (a:=a) (xs:=us) (λi v _=>∃z,zs[i]?=some z/\v=.str (nm z)) T (by rw [S];show IG l cr) (λX Y=>aT.of (Y _ _ M)) (λ_ _ _ _ _ _ _ h=>h) ?_ ?_
 ·intro i u X R N Y k
  let(z,I,c,ys,rfl,J):=aw U N;show(_,O,c,_,_,_,O,O,Ty.aq.bS Y J,bJ,k _ _ (aq.refl _) (z,I,O))
 ·intro ys X D Q Y L
  show k X Y ?_;rw [L];congr 2;show QZ λi=>?_;rw [EL,CP];by_cases c:i<ys.length
  ·let(p,E,G):=Q i ys[i] (gE c)
   rw [gE c,E,G];rfl
  ·rw [IM ce,IM ce]
   rfl
def rq {Z:Type}{nm:Z->Str}{Y:γ}{zs:List Z}(h:Y.map (·.1)=zs.map (λp=>(IL (nm p):Key))):(Y.map λX=>kV X.1)=(zs.map nm).map V.str:=by
 have:(Y.map λX=>kV X.1)=(Y.map (·.1)).map kV:=by rw [EL];rfl
 rw [this,h,EL,EL];rfl
def vd {us:ε}{pX:ι}(h:Paired (iX K H) us pX):Paired (λu (z:aC)=>∃c ys,u=.ref c/\bL K H c (.str z.nm::ys)) us pX:=Paired.b6 h λ_ _ ⟨a,l,s,us,e,Z,_,_,_⟩=>(a,_,e,Z)
def ve {us:ε}{gV:τ}(h:Paired (j7 K H pX) us gV):Paired (λu (z:a_)=>∃c ys,u=.ref c/\bL K H c (.str z.nm::ys)) us gV:=Paired.b6 h λ_ _ ⟨a,i,j,e,Z,_,_⟩=>(a,_,e,Z)
def vf {ys:ε}(h:∀(i:Nat)(v:V),ys[i]?=some v->v=.bl true):∃Z:List Bool,ys=Z.map V.bl/\Z.all id=true:=by
 induction ys with
 | nil=>show([],O,O)
 | cons y ys Y=>
  let(Z,e,X):=Y λi v e=>h (i+1) v (by simpa using e);show(true::Z,by rw [h 0 y rfl,e];rfl,by simp [X])
structure T3 (K:Frag)(H:Hp)(pX:ι)(gV:τ)(dT dU:BK)(kT kU:γ)(T:Λ)(U:ω)(N:Nat):Prop where
 hT:H dT=some (.dK kT)
 hU:H dU=some (.dK kU)
 Pg:kT.map (·.1)=gV.map (λb=>(IL b.nm:Key))
 Ph:kU.map (·.1)=pX.map (λp=>(IL p.nm:Key))
 tT:∀b∈gV,∃v,bC kT (.inr b.nm)=some v/\dq K H v (T b.nm)
 tU:∀p∈pX,∃la vs,bC kU (.inr p.nm)=some (.ref la)/\H la=some (.lst vs)/\Paired (dq K H) vs (U p.nm)
 lU:∀p∈pX,(U p.nm).length=p.ws.length
 zT:∀b∈gV,Zb N (T b.nm)
 zU:∀p∈pX,∀u∈U p.nm,Zb N u
theorem T3.lO (h:T3 K H pX gV dT dU kT kU T U N)(s:aq H H'):T3 K H' pX gV dT dU kT kU T U N:=(s _ _ h.hT,s _ _ h.hU,h.Pg,h.Ph,λb S=>by
 let(v,a,b):=h.tT b S;show(v,a,b.lO s),λp X=>by
 let(Y,Z,a,b,c):=h.tU p X
 show(Y,Z,a,s _ _ b,Paired.b6 c λ_ _ z=>z.lO s),h.lU,h.zT,h.zU)
def T3.afW (h:T3 K H pX gV dT dU kT kU T U N)(Z:b∈gV):∃v,cX H dT (.str b.nm) (some v)/\dq K H v (T b.nm):=by
 let(v,a,c):=h.tT b Z;show(v,?_,c);have:=cX.k (k:=.inr b.nm) h.hT;rwa [a] at this
def T3.am3 (h:T3 K H pX gV dT dU kT kU T U N)(Y:p∈pX):∃Z vs,cX H dU (.str p.nm) (some (.ref Z))/\H Z=some (.lst vs)/\Paired (dq K H) vs (U p.nm):=by
 let(Z,vs,a,b,c):=h.tU p Y;show(Z,vs,?_,b,c);have:=cX.k (k:=.inr p.nm) h.hU;rwa [a] at this
inductive JU (K:Frag)(vs:ε)(H:Hp)(Q:VK)(M:XK):Prop
|mk (Z X dT Y:BK)(us ws:ε)(pX:ι)(gV:τ)(R S:γ)(T:Λ)(U:ω)(N:Nat)(_:vs=[.ref Z,.ref X,.ref dT,.ref Y])(_:SQ K H Z X us ws pX gV)(_:T3 K H pX gV dT Y R S T U N)(_:∀H',aq H H' ->Q (.bl true) H')
def MQ:ay ["_law_pins_here","_law_bars_here","_law_pulls_here","_law_pushes_here","_law_name_here","_law_spot_here","_law_ways_here"] QR (ae OL):=sq
def afX (D:Def K mg "_law_are_forces" OL QR)(bf:mg "isinstance"=none)(fg:mg "dict"=none)(cV:mg "list"=none)(aV:mg "len"=none)(vg:mg "all"=none)(Wo:ac P w K mg lM 34 "_law_number" uG (pG K)):
  ac P w K mg lM 35 "_law_are_forces" QR (JU K):=by
 show D.op MQ λf cH A mO s H vs Q E X h=>?_;let(y,m,dT,B,us,ws,pX,gV,kT,kU,T,U,N,rfl,fr,Z,q):=h;let lp:=fr.lp;let lb:=fr.lb;let lw:ws.length=gV.length:=GX fr.pb
 show(_,(aa (bw (PW.pt (gj (cL (bZ (aJ fG rfl bf b9 (aH (pv 2) (kY rfl fg qk))))) (gy (bE (oE X.units) (cv (gB rfl) rfl cV jJ (aZ (pv 2))) (dX (tn:=["_law_bar"]) (fr:=[]) (pO:=[]) (bo (pv 1)) (bB (cN (K:=K) rfl) (pv 0) ag)))))) (ah (aE cZ)) aR) (aa (bw (PW.pt (gj (cL (bZ (aJ fG rfl bf b9 (aH (pv 3) (kY rfl fg qk))))) (gy (bE (oE X.units) (cv (gB rfl) rfl cV jJ (aZ (pv 3))) (dX (tn:=r6) (fr:=[]) (pO:=[]) (bo (pv 0)) (bB (cN (K:=K) rfl) (pv 0) ag)))))) (ah (aE cZ)) aR) (aa (bw (cL (bZ (aJ (qt rfl) rfl vg QS (aZ (dX (tn:=["_law_bar"]) (fr:=["_law_pulls_here"]) (pO:=[2]) (bo (pv 1)) (rF Wo X (aZ (cO (bP X) (pv 1) (bB (cN (K:=K) rfl) (pv 0) ag) (λ_ _=>O))))))))) (ah (aE cZ)) aR) (aa (bh HG rfl (bo (pv 0)) (eY rfl (aY (bI 4 MQ.nd) (aY (bI 5 MQ.nd) (aY (bI 6 MQ.nd) cM)))) (aa (bw (PW.pt (gj (cL (bZ (aJ fG rfl bf b9 (aH (cO (bP X) (pv 3) (pv 4) (λ_ _=>O)) (kY rfl cV jJ))))) (gy (bE iu (aJ aG rfl aV bV (aZ (cO (bP X) (pv 3) (pv 4) (λ_ _=>O)))) (aJ aG rfl aV bV (aZ (pv 6))))))) (ah (aE cZ)) aR) (ah (bw (cL (bZ (aJ (qt rfl) rfl vg QS (aZ (dX (tn:=VU) (fr:=[]) (pO:=[]) (bo (cO (bP X) (pv 3) (pv 4) (λ_ _=>O))) (rF Wo X (aZ (pv 0)))))))) (ah (aE cZ)) aR)))) (ah (aE cZ)))))),?_);sleep 4
 show(_,O,_,_,_,true,O,O,.dK Z.hT,aa0,_,O,bq (λc=>nomatch c) (λ_=>?_));show(_,O,dT,_,O,.inl Z.hT,?_);intros l1 n1 H1 s1 e1;rw [rq (nm:=a_.nm) Z.Pg] at e1;let M:=fr.lO s1;show(_,O,m,O,#[_,aT.of M.hb],λD2 n2=>?_);show pH (nm:=a_.nm) n2 M.hb (ve M.pb) ce λH2 s2 e2=>?_;show tf (s2 _ _ e1) e2 ?_;show(_,O,bq (λc=>nomatch c) (λ_=>?_));let kr:=s1.trans s2;show(_,O,_,_,_,true,O,O,.dK (kr _ _ Z.hU),aa0,_,O,bq (λc=>nomatch c) (λ_=>?_));show(_,O,B,_,O,.inl (kr _ _ Z.hU),?_);intros l3 n3 H3 s3 e3;rw [rq (nm:=aC.nm) Z.Ph] at e3;let BJ:=kr.trans s3;let U6:=fr.lO BJ;show(_,O,y,O,#[_,aT.of U6.hp],λD4 n4=>?_);show pH (nm:=aC.nm) n4 U6.hp (vd U6.pp) ce λH4 s4 e4=>?_;show tf (s4 _ _ e3) e4 ?_;show(_,O,bq (λc=>nomatch c) (λ_=>?_));let z:=BJ.trans s4;show(_,O,m,O,#[_,aT.of (z _ _ fr.hb)],λD5 n5=>?_);show dE (pS:=[some (.ref dT)]) (K:=K) (a:=m) (xs:=ws) (λ_ v _=>v=.bl true) n5 (by rw [lw];show IG (show gV.length<=100 by omega) cr) (λH5 J=>aT.of (J _ _ (z _ _ fr.hb))) (λ_ _ _ _ _ _ _ h=>h) ?_ ?_
 ·intro i u H5 R hu J k
  let(b,C,c,i1,i2,rfl,h1,_):=aw fr.pb hu;let G:=z.trans J;let(v,dg,nv):=(Z.lO G).afW (Wp C);show(_,O,_,O,c,_,_,_,O,O,Ty.aq.bS G h1,O,dT,_,O,dg,v,_,O,nv,λH6 S=>k _ _ S rfl)
 intro ys H5 hy iQ J hD;let(bs,C,ea):=vf iQ;show(D5,bs,O,by rw [<-C];show aT.of hD,?_);rw [ea];show(_,O,bq (λc=>nomatch c) (λ_=>?_));let G:=z.trans J
 show(_,O,y,O,#[_,aT.of (G _ _ fr.hp)],let I:bn:=λi Y H'=>GJ λ(o4 o5 g:χ)=>Y=[ap y,ap m,ap dT,ap B,o4,o5,g]/\aq H H';bT (K:=K) (a:=y) (xs:=us) I (none,none,none,O,G) (λi Y H' _ h=>by
   let(_,_,_,_,s):=h
   show aT.of (s _ _ fr.hp)) ?_ ?_)
 ·rintro i u Y H6 hu ⟨o4,o5,g,rfl,S⟩
  let(p,ep,DZ):=aw fr.pp hu;let mp:p∈pX:=Wp ep;let(ta,l,sv,eK,rfl,h1,h2,h3,h4):=DZ.lO S;show(ta,_,O,h1,O,_,_,O,_,_,O,_,_,O,O,?_);let(la,xs,dg,o,pu):=(Z.lO S).am3 mp;let lw:eK.length=p.ws.length:=GX h4;let lx:xs.length=(U p.nm).length:=GX pu;let lup:=Z.lU p mp;let lwp:=(fr.gp.ws p mp).len;show(_,O,_,O,B,_,O,dg,_,_,_,true,O,O,.lst o,am2,_,O,bq (λc=>nomatch c) (λ_=>?_));show(_,O,_,O,B,_,O,dg,la,_,O,.inl (aT.of o),_,O,l,_,O,.inl (aT.of h3),O,_,O,bq (λc=>DQ (show(xs.length:Int)=(eK.length:Int) by omega) (λe=>by rw [e] at c;simp at c)) (λ_=>?_));show(_,O,_,O,B,_,O,dg,la,O,#[_,aT.of o],λD7 n7=>?_);show dE (pS:=[]) (K:=K) (a:=la) (xs:=xs) (λ_ v _=>v=.bl true) n7 (IG (show xs.length<=100 by omega) cr) (λH7 L=>aT.of (L _ _ o)) (λ_ _ _ _ _ _ _ h=>h) ?_ ?_
  ·intro j x H7 R hx L k
   let(r,er,nr):=aw pu hx;show(_,O,x,r,O,nr.lO L,λH8 s8=>k _ _ s8 rfl)
  intro ys H7 hy iQ L hD;let(bs,C,ea):=vf iQ;show(D7,bs,O,by rw [<-C];show aT.of hD,?_);rw [ea];show(_,O,bq (λc=>nomatch c) (λ_=>?_));show(_,_,_,O,S.trans L)
 ·rintro Y H6 ⟨o4,o5,g,rfl,S⟩
  show q H6 S
inductive MS (K:Frag)(vs:ε)(H:Hp)(Q:VK)(U:XK):Prop
|mk (Z Y:BK)(us:ε)(pX:ι)(X:γ)(M:υ)(N:Nat)(_:vs=[.ref Z,.ref Y])(_:H Z=some (.lst us))(_:Paired (iX K H) us pX)(_:gx pX)(_:pX.length<=100)(_:SU K H pX Y X M N)(_:∀H',aq H H' ->Q (.bl true) H')
def Yx:ay ["_law_pins_here","_law_motion","_law_one"] Rt (ae OM):=sq
def afY (D:Def K mg "_law_is_motion" OM Rt)(bf:mg "isinstance"=none)(fg:mg "dict"=none)(cV:mg "list"=none)(fC:mg "tuple"=none)(aV:mg "len"=none)(vg:mg "all"=none)(Wo:ac P w K mg lM 34 "_law_number" uG (pG K)):
  ac P w K mg lM 35 "_law_is_motion" Rt (MS K):=by
 show D.oo Yx λH hr h=>?_;let(pA,Z,us,pX,S,M,N,rfl,hp,pp,gp,lp,L,q):=h
 let np:(S.map (·.1)).Nodup:=by
  have:=qB gp.np;rw [EL] at this;rw [L.keys];show this
 show(_,(aa (bw (PW.pt (gj (cL (bZ (aJ fG rfl bf b9 (aH (pv 1) (kY rfl fg qk))))) (gy (bE (oE hr.units) (cv (gB rfl) rfl cV jJ (aZ (pv 1))) (dX (tn:=r6) (fr:=[]) (pO:=[]) (bo (pv 0)) (bB (cN (K:=K) rfl) (pv 0) ag)))))) (ah (aE cZ)) aR) (aa (i0 (bh HG rfl (ahj (pv 1)) (bI 2 Yx.nd) (ah (bw (PW.pt (gj (cL (bZ (aJ fG rfl bf b9 (aH (pv 2) (kY rfl fC oF))))) (gj (bE iu (aJ aG rfl aV bV (aZ (pv 2))) ag) (gy (cL (bZ (aJ (qt rfl) rfl vg QS (aZ (dX (tn:=["_law_part"]) (fr:=[]) (pO:=[]) (GZ (pv 2)) (rF Wo hr (aZ (pv 0)))))))))))) (ah (aE cZ)) aR)))) (ah (aE cZ)))),?_);sleep 2
 show(_,O,_,_,_,true,O,O,.dK L.hM,aa0,_,O,bq (λc=>nomatch c) (λ_=>?_));show(_,O,Z,_,O,.inl L.hM,?_);intros l1 n1 H1 B e1;rw [rq (nm:=aC.nm) L.keys] at e1;let m:Paired (iX K H1) us pX:=Paired.b6 pp λ_ _ z=>z.lO B;show(_,O,pA,O,#[_,aT.of (B _ _ hp)],λD2 n2=>?_);show pH (nm:=aC.nm) n2 (B _ _ hp) (vd m) ce λE s2 e2=>?_;show tf (s2 _ _ e1) e2 ?_;show(_,O,bq (λc=>nomatch c) (λ_=>?_));let kr:=B.trans s2;let C:=L.lO kr;let X:=C.hM
 let st:∀{J:Hp},bM Z E J ->bg E J:=λ{J} k b xs r=>by
  rcases r with r|⟨T,r⟩
  ·show .inl (k _ _ (λe=>by erw [e,X] at r) r)
  ·show .inr #[T,k _ _ (λe=>by erw [e,X] at r) r]
 show(_,O,Z,S,O,X,λo=>?_);let k0:bM Z E (upd E Z (.eR o (.dK S))):=λb T n e=>by rwa [aj n]
 show let I:bn:=λi Y J=>∃(g:χ),Y=[ap pA,ap Z,g]/\bM Z E J/\J Z=some (.eR o (.dK S));adU (d:=Z) (o:=o) (AP:=S) I (none,O,k0,ak) (λi Y J _ h=>by
   let(_,_,_,h):=h
   show h) ?_ ?_
 ·rintro i k v Y A r9 ⟨g,rfl,G,y⟩
  let(p,mp,ek):=DA.mp (show k∈pX.map (λp=>(IL p.nm:Key)) by rw [<-L.keys];show DA.mpr (_,Wp r9,O));let(t,v1,v2,vt,et,m1,m2):=C.tM p mp;erw [ek,lX np r9] at vt;let U:A t=some (.tup [v1,v2]):=G _ _ (λe=>by erw [e,X] at et) et;let r1:=m1.aQ (st G);let r2:=m2.aQ (st G);show(_,O,_,_,_,true,O,O,.tup U,SV,_,O,bq (λc=>nomatch c) (λ_=>?_));show(_,O,t,_,O,.inr (bL.of U),O,_,O,tS rfl ?_);show(_,O,t,O,#[_,bL.of U],λD7 n7=>?_);show ab8 (pS:=[]) (K:=K) (a:=t) (xs:=[v1,v2]) (λ_ v _=>v=.bl true) n7 (by change 2<DC;decide) (λH7 Q=>bL.of (Q _ _ U)) (λ_ _ _ _ _ _ _ h=>h) ?_ ?_
  ·intro j u H7 R hu Q kk
   let f:∃r,dq K H7 u r:=by
    rcases j with _|_|j
    ·cases hu
     show#[_,r1.lO Q]
    ·cases hu
     show#[_,r2.lO Q]
    ·cases hu
   let(r,f):=f;show(_,O,u,r,O,f,λH8 s8=>kk _ _ s8 rfl)
  ·intro ys H7 hy iQ Q hD
   let(bs,eb,ea):=vf iQ;show(D7,bs,O,by rw [<-eb];show aT.of hD,?_);rw [ea];show(_,O,bq (λc=>nomatch c) (λ_=>?_));show(_,O,λb T n e=>Q _ _ (G b T n e),Q _ _ y)
 ·rintro Y A ⟨g,rfl,G,y⟩
  show(Z,o,S,y,λT u' z=>(by have z':H Z=some (.eR T u'):=z;erw [L.hM] at z'),?_)
  let s3:aq E (upd A Z (.dK S)):=λb T e=>by
   by_cases n:b=Z
   ·subst n
    rw [X] at e;rwa [ak]
   ·rw [aj n]
    show G b T n e
  generalize upd A Z (.dK S)=H8 at s3 ⊢;let x:=kr.trans s3;show q _ x
inductive pI (K:Frag)(vs:ε)(H:Hp)(Q:VK)(U:XK):Prop
|mk (Z Y:BK)(us:ε)(pX:ι)(u:V)(b:a_)(X:γ)(M:υ)(N:Nat)(_:vs=[.ref Z,u,.ref Y])(_:H Z=some (.lst us))(_:Paired (iX K H) us pX)(_:gx pX)(_:j7 K H pX u b)(_:SU K H pX Y X M N)(_:∀(v:V)(H':Hp),aq H H' ->jf K H' v (4*N+200) (ie M b)->Q v H')
def MU:ay ["_law_pins_here","_law_bar","_law_motion","_law_here","_law_there","_law_more"] oV (ae OP):=sq
def afZ (D:Def K mg "_law_longer" OP oV)(ba:mg "range"=none)(nH:ac P w K mg lM 1 "_law_sum" N4 (cx K gM))(SO:ac P w K mg lM 1 "_law_turned" VU (iD K))(Wm:ac P w K mg lM 2 "_law_arm" σ4 (zi K))(SW:ac P w K mg lM 2 "_law_dot" N4 (u_ K)):
  ac P w K mg lM 3 "_law_longer" oV (pI K):=by
 show D.oo MU λH Y h=>?_;let(C,dM,us,pX,u,b,kM,M,N,rfl,hp,E,gp,D_,I,q):=h;let hN:=I.hN;let L2:2<=DC:=cr
 show(_,(aa (aI 3 MU.nd (cO (bP Y) (pv 2) (aF (bB aU (pv 0) (aF (pv 1)))) (λ_ _=>O))) (aa (aI 4 MU.nd (cO (bP Y) (pv 2) (aF (bB aU (pv 0) (aF (pv 1)))) (λ_ _=>O))) (aa (qD (i:=5) (tn:=["_law_axis"]) (fr:=["_law_there","_law_here"]) (pO:=[4,3]) MU.nd (bK rfl ba (aZ ag)) (rF nH Y (aH (bB (cN (K:=K) rfl) (pv 1) (pv 0)) (rF SO Y (aZ (bB (cN (K:=K) rfl) (pv 2) (pv 0))))))) (ah (aE (aL SW Y (aH (bY (aH (aL Wm Y (bu (pv 0) (pv 1) ag)) (aL Wm Y (bu (pv 0) (pv 1) ag)))) (pv 5)))))))),?_);sleep 3
 let(ta,i,j,rfl,hb,e1,e2):=id D_;let(c1,l1,sv1,U,q1,_):=zh E e1;let(c2,l2,sv2,X,q2,_):=zh E e2;let(L,S,y,dg1,et1,c,f):=I.get (Wp e1);let(Q,T,A,dg2,et2,g,m):=I.get (Wp e2);let hw1:fL K H (.ref L) (M b.one.nm):=(L,S,y,O,bL.of et1,c,f);let hw2:fL K H (.ref Q) (M b.mP.nm):=(Q,T,A,O,bL.of et2,g,m);let lp:=aT.of (K:=K) hp;show(_,O,_,O,_,O,ta,_,_,_,O,O,hb,O,C,_,_,_,O,O,lp,U,c1,_,_,_,O,O,q1,O,dM,_,O,dg1,_,O,_,O,_,O,ta,_,_,_,O,O,hb,O,C,_,_,_,O,O,lp,X,c2,_,_,_,O,O,q2,O,dM,_,O,dg2,?_);let z1:=I.zb _ (Wp e1);let z2:=I.zb _ (Wp e2);show((2:Int),O,cr,cr,λD1 n1=>?_)
 show aay (lo:=0) (n:=2) (pS:=[some (.ref Q),some (.ref L)]) (λk v H=>jf K H v (N+N+1) (ax (k:Int) (M b.mP.nm)-ax (k:Int) (M b.one.nm))) n1 cr (λ_ _ _ _ _ h0 ks h=>by
   show jf.aQ h λb xs r=>?_
   rcases r with r|⟨o',r⟩
   ·show .inl (ks _ _ (λe=>by erw [e,h0] at r) r)
   ·show .inr #[o',ks _ _ (λe=>by erw [e,h0] at r) r]) ?_ ?_
 ·intro k H3 R hk Z kk
  let ek:(0:Int)+(k:Int)=(k:Int):=Nc _;rw [ek];let RU:(k:Int)=0\/(k:Int)=1:=ce
  let(a1,xs1,u1,U,L,v1,m1):=D' RU (hw1.lO Z);let(a2,xs2,u2,X,Q,v2,m2):=D' RU (hw2.lO Z);cases U;cases X;show(_,O,_,O,_,_,_,_,O,O,Q,v2,_,O,_,O,_,_,_,_,O,O,L,v1,?_);dsimp only [gQ];change iD K [_] _ _ E0;show uZ (dI m1 (Yv z1)) λp4 H4 J o=>?_;change cx K gM [_,_] _ _ E0;show me ((dI m2 (Yv z2)).lO J) o ce λp5 H5 G n5=>?_;show kk _ _ (J.trans G) ?_;rwa [akk]
 intro ys H3 ly hy Z hD
 obtain ⟨S,T,rfl⟩:∃S T,ys=[S,T]:=by
  cases ys with
  | nil=>cases ly
  | cons a l=>
   let(b,rfl):=ajT.mp (Nat.succ.inj ly);show(a,b,O)
 let k1:=hy 0 S rfl;let k2:=hy 1 T rfl;show(_,O,_,O,C,us,pX,_,b,0,O,Z _ _ hp,Paired.b6 E λ_ _ z=>z.lO Z,gp,D_.lO Z,.inl rfl,λv4 H4 J o=>?_);let p:=Z.trans J;show(_,O,_,O,C,us,pX,_,b,1,O,p _ _ hp,Paired.b6 E λ_ _ z=>z.lO p,gp,D_.lO p,.inr rfl,λv5 H5 G n5=>#[L2,?_]);intros l6 m6 H6 x e6;let B:=J.trans (G.trans x);show(_,O,l6,D1,_,_,_,_,_,_,_,_,89,N+N+1,O,.inl (aT.of e6),.inl (aT.of (B _ _ hD)),(o.lO (G.trans x)),n5.lO x,k1.lO B,k2.lO B,ce,λv H7 s7 n7=>?_);show q v H7 (Z.trans (B.trans s7)) (n7.up ce)
inductive tj (K:Frag)(vs:ε)(H:Hp)(Q:VK)(U:XK):Prop
|mk (Z Y:BK)(us:ε)(pX:ι)(X:γ)(M:υ)(N:Nat)(_:vs=[.ref Z,.ref Y])(_:H Z=some (.lst us))(_:Paired (iX K H) us pX)(_:gx pX)(_:SU K H pX Y X M N)(_:(∀p∈pX,∀w∈p.ws,dt w (M p.nm)=0))(_:∀(H':Hp),aq H H' ->Q (.bl true) H')
def EB:ay ["_law_pins_here","_law_motion","_law_name_here","_law_spot_here","_law_ways_here","_law_way"] Rt (ae OQ):=sq
def af0 (D:Def K mg "_law_keeps" OQ Rt)(SW:ac P w K mg lM 2 "_law_dot" N4 (u_ K)):
  ac P w K mg lM 3 "_law_keeps" Rt (tj K):=by
 show D.op EB λf cH A mO s H vs Q E hr h=>?_;let(S,m,us,pX,kM,M,N,rfl,hp,pp,gp,B,ke,q):=h;let hN:=B.hN
 show(_,(aa (bh HG rfl (bo (pv 0)) (eY rfl (aY (bI 2 EB.nd) (aY (bI 3 EB.nd) (aY (bI 4 EB.nd) cM)))) (ah (bh HG rfl (bo (pv 4)) (bI 5 EB.nd) (ah (bw (bE iu (aF (aL SW hr (aH (pv 5) (cO (bP hr) (pv 1) (pv 2) (λ_ _=>O))))) ag) (ah (aE cZ)) aR))))) (ah (aE cZ))),?_)
 show(_,O,S,O,#[_,aT.of hp],let I:bn:=λi Y T=>N6 λ(C G J Z:χ)=>Y=[ap S,ap m,C,G,J,Z]/\aq H T;bT (K:=K) (a:=S) (xs:=us) I (none,none,none,none,O,aq.refl _) (λi Y T _ h=>by
   let(_,_,_,_,_,s):=h
   show aT.of (s _ _ hp)) ?_ ?_)
 ·rintro i u Y k hu ⟨C,G,J,Z,rfl,U⟩
  let(p,ep,DZ):=aw pp hu;let R:p∈pX:=Wp ep;let(ta,l,sv,ws,rfl,h1,h2,h3,h4):=DZ.lO U;show(ta,_,O,h1,O,_,_,O,_,_,O,_,_,O,O,?_)
  show(_,O,l,O,#[_,aT.of h3],let I:bn:=λj Y T=>∃(Z:χ),Y=[ap S,ap m,some (.str p.nm),some sv,ap l,Z]/\aq k T;bT (K:=K) (a:=l) (xs:=ws) I (Z,O,aq.refl _) (λj Y T _ h=>by
     let(_,_,s):=h
     show aT.of (s _ _ h3)) ?_ ?_)
  ·rintro j wv Y H5 z ⟨Z,rfl,X⟩
   let(L,o,y):=aw h4 z;let mw:L∈p.ws:=Wp o;let g:=(gp.ws p R).sz L mw;let(wa,y1,y2,rfl,GH,b1,b2):=y.lO X;let p_:=U.trans X;let(t,v1,v2,dg,et,m1,m2):=(B.lO p_).get R;let b:=B.zb p R;show(_,O,_,O,_,O,m,_,O,dg,?_);dsimp only [gQ];show(wa,t,y1,y2,v1,v2,_,_,_,_,22,N,O,.inr GH,.inr (bL.of et),dI b1 (gZ g.1 (DH _)),dI b2 (gZ g.2 (DH _)),dI m1 b.1,dI m2 b.2,ce,λv H6 s6 n6=>?_);let(x,(p6,rfl,k1),k2,k3,k4):=n6;show(p6,_,_,_,O,O,k1,i6,O,_,O,?_);let e0:x.1=0:=(y8 k2).mpr (by rw [k3];show ke p R L mw);rw [e0];show bq (λc=>by simp at c) (λ_=>?_);show(_,O,X.trans s6)
  ·rintro Y H5 ⟨Z,rfl,X⟩
   show(_,_,_,_,O,U.trans X)
 ·rintro Y k ⟨C,G,J,Z,rfl,U⟩
  show q k U
structure xO (K:Frag)(H:Hp)(d:BK)(AP:γ)(pX:ι)(L:η):Prop where
 hd:H d=some (.dK AP)
 pt:xC K H AP L
 nk:(AP.map (·.1)).Nodup
 ks:∀kv∈AP,∃x∈pX.map (·.nm),kv.1=.inr x
 sz:mvL L
 ll:AP.length<=100
theorem xO.lO (h:xO K H d AP pX L)(s:aq H H'):xO K H' d AP pX L:=(s _ _ h.hd,h.pt.lO s,h.nk,h.ks,h.sz,h.ll)
theorem xO.at (h:xO K H d AP pX L){t:Nat}(e:AP[t]?=some (k,y)):∃x,k=.inr x/\x∈pX.map (·.nm)/\fL K H y (mv L x):=by
 let(x,U,T):=h.ks _ (Wp e);let Z:k=.inr x:=T;subst Z;show(x,O,U,?_);let ev:=lX h.nk e
 rcases h.pt x with ⟨z,_⟩|⟨v,p,Y,X,S⟩
 ·rw [ev] at z
  cases z
 ·rw [ev] at Y
  cases Y;unfold mv;rwa [X]
def agm {f:Λ}:∀{ks Z:ς},ks.Nodup->Z.Nodup->(∀x∈ks,x∈Z)->(∀x∈Z,x∉ks->f x=0)->(ks.map f).sum=(Z.map f).sum:=by
 let Q:∀{f:Λ} {l:ς},(∀x∈l,f x=0)->(l.map f).sum=0:=λ{f l} h=>by
  induction l with
  | nil=>rfl
  | cons a l U=>
   rw [ED,N7,h a IU,U λx Y=>h x (IH _ Y)];grind
 let X:∀{f:Λ} {k:Str} {l:ς},l.Nodup->k∈l->(l.map f).sum=f k+(l.map λx=>if x=k then 0 else f x).sum:=λ{f k l} S M=>by
  induction l with
  | nil=>cases M
  | cons a l U=>
   rw [Nk] at S;rw [ED,ED,N7,N7];by_cases c:a=k
   ·subst c
    rw [ox rfl];let e:(l.map λx=>if x=a then 0 else f x)=l.map f:=N3 λx Y=>mQ (λz=>S.1 (by rwa [<-z]));rw [e];grind
   ·let R:k∈l:=by
     rcases JP.mp M with z|z
     ·show DQ z.symm c
     ·show z
    rw [U S.2 R,mQ c];grind
 intro ks
 induction ks generalizing f with
 | nil=>
  intro Z _ _ _ h;rw [Q λx Y=>h x Y fD];rfl
 | cons k ks U=>
  intro Z T N sub h;rw [Nk] at T;rw [ED,N7,X N (sub k IU)];congr 1;rw [<-U (f:=λx=>if x=k then 0 else f x) T.2 N (λx Y=>sub x (IH _ Y)) λx Y L=>?_]
  ·show pU uo (N3 λx Y=>(mQ (λz:x=k=>T.1 (by rwa [<-z]))).symm)
  ·change (if x=k then 0 else f x)=0
   by_cases c:x=k
   ·rw [ox c]
   ·rw [mQ c]
    show h x Y (by
     intro z
     rcases JP.mp z with z|z
     ·show c z
     ·show L z)
def nJ:Key->Str
 | .inr x=>x
 | .inl _=> ""
theorem xO.sum (h:xO K H d AP pX L)(Q:(pX.map (·.nm)).Nodup)(M:υ):(AP.map λZ=>dt (mv L (nJ Z.1)) (M (nJ Z.1))).sum=mK pX L M:=by
 let N:(AP.map λZ=>nJ Z.1).Nodup:=by
  let e:(AP.map λZ=>nJ Z.1)=(AP.map (·.1)).map nJ:=by rw [EL];rfl
  rw [e];unfold DF;rw [K'];show ajE (λ{a b} B C J e=>J ?_) h.nk;let(E,X,rfl):=DA.mp B;let(G,Y,rfl):=DA.mp C;let(x,_,A):=h.ks E X;let(y,_,U):=h.ks G Y;rw [A,U] at e ⊢;show pU IL e
 let s:=agm (f:=λx=>dt (mv L x) (M x)) N Q (λx T=>by
  let(Z,I,rfl):=DA.mp T;let(y,D,U):=h.ks Z I;rw [U]
  show D) λx T R=>by
   rcases h.pt x with ⟨_,z⟩|⟨v,p,S,_,_⟩
   ·unfold mv
    rw [z];show lZ _
   ·show DQ (DA.mpr (_,alm S,O)) R
 rwa [EL,EL] at s
inductive JV (K:Frag)(vs:ε)(H:Hp)(Q:VK)(X:XK):Prop
|mk (d Z:BK)(AP Y:γ)(pX:ι)(L:η)(M:υ)(N:Nat)(_:vs=[.ref d,.ref Z])(_:xO K H d AP pX L)(_:(pX.map (·.nm)).Nodup)(_:SU K H pX Z Y M N)(_:Z≠d)(_:AP.length<=9)(_:N<=2100000)(_:∀(v:V)(H':Hp),aq H H' ->jf K H' v (1+9*(2*N+2402)) (mK pX L M)->Q v H')
def EC:ay ["_law_load_here","_law_motion","_law_total","_law_name_here","_law_drawn"] CW (ae OR):=sq
def af1 (D:Def K mg "_law_work" OR CW)(nH:ac P w K mg lM 1 "_law_sum" N4 (cx K gM))(SW:ac P w K mg lM 2 "_law_dot" N4 (u_ K)):
  ac P w K mg lM 3 "_law_work" CW (JV K):=by
 show D.oo EC λH hr h=>?_;let(d,dM,AP,kM,pX,L,M,N,rfl,ld,np,mo,ne,lk,hN,q):=h;let L2:2<=DC:=cr
 let sm:=ld.sum np M
 show(_,(aa (aI 2 EC.nd (aS (aH ag ag))) (aa (i0 (bh HG rfl (lh (pv 0)) (eY rfl (aY (bI 3 EC.nd) (aY (bI 4 EC.nd) cM))) (ah (aI 2 EC.nd (aL nH hr (aH (pv 2) (aL SW hr (aH (pv 4) (cO (bP hr) (pv 1) (pv 3) (λ_ _=>O)))))))))) (ah (aE (pv 2))))),?_);sleep 2
 show#[L2,?_];intros m n1 T i e1;let X:=ld.lO i;let E:=mo.lO i
 let t0:jf K T (.ref m) (1+0*(2*N+2402)) ((AP.take 0).map λZ=>dt (mv L (nJ Z.1)) (M (nJ Z.1))).sum:=by
  rw [ak2];show((0,1),(m,O,bL.of e1),cr,(show vl ((0,1):Int×Int)=0 by decide+kernel),cr,cr)
 show(_,O,d,AP,O,X.hd,λo=>?_)
 let st:∀{S:Hp},bM d T S ->bg T S:=λ{S} k b xs r=>by
  rcases r with r|⟨U,r⟩
  ·show .inl (k _ _ (λe=>by erw [e,X.hd] at r) r)
  ·show .inr #[U,k _ _ (λe=>by erw [e,X.hd] at r) r]
 let k0:bM d T (upd T d (.eR o (.dK AP))):=λb U n e=>by rwa [aj n]
 show let I:bn:=λt Y S=>GJ λ(R:V) (a f:χ)=>Y=[ap d,ap dM,some R,a,f]/\bM d T S/\S d=some (.eR o (.dK AP))/\jf K S R (1+t*(2*N+2402)) ((AP.take t).map λZ=>dt (mv L (nJ Z.1)) (M (nJ Z.1))).sum;jw (d:=d) (o:=o) (AP:=AP) I (.ref m,none,none,O,k0,ak,t0.aQ (st k0)) (λt Y S _ h=>by
   let(_,_,_,_,_,h,_):=h
   show h) ?_ ?_
 ·rintro t k y Y J B g ⟨R,a,f,rfl,k6,G,nt⟩ n7
  let ht:t<AP.length:=(ir.mp g).1;let(x,rfl,hx,hv):=X.at g;let(p,mp,rfl):=DA.mp hx;let C:=aK n7 (.tup [kV (.inr p.nm),y]);let e7:(upd J B (.tup [kV (.inr p.nm),y])) B=some (.tup [kV (.inr p.nm),y]):=ak;generalize upd J B (.tup [kV (.inr p.nm),y])=H7 at C e7 ⊢;let Q:bM d T H7:=λb U n e=>C _ _ (k6 b U n e);show(B,_,O,bL.of e7,O,_,_,O,_,_,O,O,?_);let(A,v1,v2,dg,et,m1,m2):=E.tM p mp
  let dg7:cX H7 dM (.str p.nm) (some (.ref A)):=by
   have:=cX.k (k:=.inr p.nm) (Q _ _ ne E.hM);rwa [dg] at this
  let et7:H7 A=some (.tup [v1,v2]):=Q _ _ (λe=>by erw [e,X.hd] at et) et;let(da,u1,u2,rfl,hdq,IX,hd2):=hv.aQ (st Q);let zd:=ld.sz p.nm;let zm:=mo.zb p mp;show(_,O,_,O,_,O,_,O,dM,_,O,dg7,?_);dsimp only [gQ];show(da,A,u1,u2,v1,v2,_,_,_,_,1200,N,O,.inr hdq,.inr (bL.of et7),dI IX (gZ zd.1 (DH _)),dI hd2 (gZ zd.2 (DH _)),dI (m1.aQ (st Q)) zm.1,dI (m2.aQ (st Q)) zm.2,ce,λv8 H8 j n8=>?_);change cx K gM [_,_] _ _ E0;let bt:t*(2*N+2402)<=8*(2*N+2402):=Q3 _ ce;show me ((nt.lO C).lO j) n8 ce λp9 H9 s9 n9=>?_;show(_,_,_,O,λb U n e=>s9 _ _ (j _ _ (Q b U n e)),s9 _ _ (j _ _ (C _ _ G)),?_)
  let ew:((AP.take (t+1)).map λZ=>dt (mv L (nJ Z.1)) (M (nJ Z.1))).sum=((AP.take t).map λZ=>dt (mv L (nJ Z.1)) (M (nJ Z.1))).sum+((mv L p.nm).1*(M p.nm).1+(mv L p.nm).2*(M p.nm).2):=by
   rw [take_snoc g,II,ajZ,ED,NV,N7,RI];change _+(dt (mv L p.nm) (M p.nm)+0)=_;unfold dt;grind
  rw [ew];show n9.up (by rw [Rf];omega)
 ·rintro Y J ⟨R,a,f,rfl,k6,G,nt⟩
  show(d,o,AP,G,λU u' z=>(by have z':H d=some (.eR U u'):=z;erw [ld.hd] at z'),?_)
  let s2:aq T (upd J d (.dK AP)):=λb U e=>by
   by_cases n:b=d
   ·subst n
    rw [X.hd] at e;rwa [ak]
   ·rw [aj n]
    show k6 b U n e
  let u:jf K (upd J d (.dK AP)) R (1+AP.length*(2*N+2402)) ((AP.take AP.length).map λZ=>dt (mv L (nJ Z.1)) (M (nJ Z.1))).sum:=nt.aQ λb xs r=>by
   rcases r with r|⟨U,r⟩
   ·show .inl (by rw [aj (λe=>by erw [e,G] at r)];show r)
   ·by_cases c:b=d
    ·rw [c,G] at r
     cases r
    ·show .inr #[U,by rwa [aj c]]
  generalize upd J d (.dK AP)=H8 at s2 u ⊢;rw [Ni,sm] at u;let bt:AP.length*(2*N+2402)<=9*(2*N+2402):=Q3 _ lk;show(_,O,q R H8 (i.trans s2) (u.up ce))
inductive tq (K:Frag)(vs:ε)(H:Hp)(Q:VK)(Z:XK):Prop
|mk (u v:V)(m n:Nat)(r:Rat)(_:vs=[u,v])(_:jf K H u m r)(_:jf K H v n r)(_:m+n<=130000000)(_:Q (.bl true) H)
def aac:ay N4 N4 (ae gC):=sq
def aaq (D:Def K mg "_law_same" gC N4):ac P w K mg lM 1 "_law_same" N4 (tq K):=by
 show D.oo aac λH G h=>?_;let(u,v,m,n,r,rfl,(x,(U,rfl,S),M,N,Y),(y,(X,rfl,T),Q,R,Z),l,q):=h;show(_,(ah (aE (iz gm (aD iZ (aF (pv 0)) (aF (pv 1))) (aD iZ (aF (pv 1)) (aF (pv 0))) (jI _)))),_,O,U,_,_,_,O,O,S,i6,_,O,X,_,_,_,O,O,T,iW,_,_,O,O,gU Y.top Z.bot ce,_,O,X,_,_,_,O,O,T,i6,_,O,U,_,_,_,O,O,S,iW,_,_,O,O,gU Z.top Y.bot ce,O,?_)
 let e:x.1*y.2=y.1*x.2:=by
  let I:((x.2:Int):Rat)≠0:=dF (Nd M);let J:((y.2:Int):Rat)≠0:=dF (Nd Q);let k:vl x=vl y:=by rw [N,R]
  unfold vl at k
  have:((x.1*y.2:Int):Rat)=((y.1*x.2:Int):Rat):=by
   push_cast;grind
  show wo.mp this
 let L:decide (V.int (x.1*y.2)=V.int (y.1*x.2))=true:=NI (by rw [e]);rwa [<-L] at q
inductive vh (K:Frag)(vs:ε)(H:Hp)(Q:VK)(J:XK):Prop
|mk (Z S dT Y X:BK)(us ws:ε)(pX:ι)(gV:τ)(M R kL:γ)(T:Λ)(U:ω)(N:Nat)(L:η)(_:vs=[.ref Z,.ref S,.ref dT,.ref Y,.ref X])(_:SQ K H Z S us ws pX gV)(_:T3 K H pX gV dT Y M R T U N)(_:N<=8000000)(_:H X=some (.dK kL))(_:xC K H kL L)(_:mvL L)(_:ig pX gV T U L)(_:∀H',aq H H' ->Q (.bl true) H')
def EF:ay ["_law_pins_here","_law_bars_here","_law_pulls_here","_law_pushes_here","_law_load_here","_law_found","_law_k","_law_drawn","_law_axis"] BY (ae ON):=sq
def af2 (D:Def K mg "_law_at_rest" ON BY)(aV:mg "len"=none)(ba:mg "range"=none)(aa2:ac P w K mg lM 3 "_law_forces" QR (pF K))(nH:ac P w K mg lM 1 "_law_sum" N4 (cx K gM)):
  ac P w K mg lM 4 "_law_at_rest" BY (vh K):=by
 show D.oo EF λH hr h=>?_;let(E,bA,dT,i,dL,Z,ws,a,gV,kT,kU,kL,T,U,N,L,rfl,R,M,hN,hL,pL,zL,rest,q):=h;let L2:2<=DC:=cr
 let lp:=R.lp;let lb:=R.lb;let lu:Z.length=a.length:=GX R.pp;let lw:ws.length=gV.length:=GX R.pb
 show(_,(aa (aI 5 EF.nd (aL aa2 hr (iL (pv 0) (bu (pv 1) (pv 2) (pv 3))))) (aa (bh HG rfl (bK rfl ba (aZ (aJ aG rfl aV bV (aZ (pv 0))))) (bI 6 EF.nd) (aa (aI 7 EF.nd (jt (bP hr) (pv 4) (aF (bB aU (pv 0) (pv 6))) (aS (aH (aS (aH ag ag)) (aS (aH ag ag)))) (O,O,O,O))) (ah (bh HG rfl (bK rfl ba (aZ ag)) (bI 8 EF.nd) (ah (bw (bE iu (aF (aL nH hr (aH (bB aU (bB aU (pv 5) (pv 6)) (pv 8)) (bB mX (pv 7) (pv 8))))) ag) (ah (aE cZ)) aR)))))) (ah (aE cZ)))),?_);sleep 2
 let fo:LFo K H dT i kT kU a gV T U N:=(M.hT,λb hb=>by
   let(v,e,nv):=M.tT b hb;show(v,e,dI nv (M.zT b hb)),M.hU,λp hp=>by
   let(la,ys,e,hla,pu):=M.tU p hp;show(la,ys,e,hla,l_ (GX pu) λj y ey=>?_);let(r,er,nr):=aw pu ey
   show(r,er,dI nr (M.zU p hp r (Wp er))),M.lU,hN)
 show(_,O,_,O,_,O,_,O,E,bA,dT,i,Z,ws,kT,kU,a,gV,T,U,N,O,R,fo,λfA ls F H4 s4 ll hF eF=>?_);let f:=s4;let en:((Z.length:Nat):Int).toNat=Z.length:=ce
 show(_,O,E,_,O,.inl (aT.of (f _ _ R.hp)),((Z.length:Nat):Int),O,ce,ce,let I:bn:=λt Y H'=>GJ λ(o7 o8 S:χ)=>Y=[ap E,ap bA,ap dT,ap i,ap dL,ap fA,o7,o8,S]/\aq H4 H';cf (lo:=0) (n:=((Z.length:Nat):Int).toNat) I (none,none,none,O,aq.refl _) ?_ ?_)
 ·rintro t Y H5 ht ⟨o7,o8,S,rfl,G⟩
  let ek:(0:Int)+(t:Int)=(t:Int):=Nc _;rw [ek];let m:=f.trans G;let B:t<Z.length:=ce
  let(p,ep,DZ):=aw R.pp (gE B);let mp:=Wp ep;let u:hW Z (t:Int)=some Z[t]:=bH (gE B);let(c,l,sv,kI,ec,h1,_,_,_):=DZ;rw [ec] at u;show(_,O,dL,O,.inl #[_,.inl (m _ _ hL)],_,O,_,O,E,_,_,_,O,O,aT.of (m _ _ R.hp),u,c,_,_,_,O,O,Ty.aq.bS m h1,bJ,L2,?_);intros p7 n7 H7 s7 e7;show#[L2,?_];intros p8 n8 H8 s8 e8;show#[L2,?_];intros p9 n9 H9 g e9;let Q:=s7.trans (s8.trans g);let SF:=m.trans Q;show(_,cX.k (k:=.inr p.nm) (SF _ _ hL),?_);let hd:fL K H9 ((bC kL (.inr p.nm)).getD (.ref p9)) (mv L p.nm):=(pL.lO SF).ID (rH cF cF e9 (g _ _ (s8 _ _ e7)) (g _ _ e8));let zd:=zL p.nm;generalize (bC kL (.inr p.nm)).getD (.ref p9)=dv at hd ⊢;let(da,u1,u2,rfl,hdq,IX,hd2):=hd;show((2:Int),O,cr,cr,let I:bn:=λk Y H'=>∃(S:χ),Y=[ap E,ap bA,ap dT,ap i,ap dL,ap fA,some (.int (t:Int)),ap da,S]/\aq H9 H';cf (lo:=0) (n:=2) I (S,O,aq.refl _) ?_ ?_)
  ·rintro k Y BF hk ⟨S,rfl,J⟩
   let ek:(0:Int)+(k:Int)=(k:Int):=Nc _;rw [ek];let RU:(k:Int)=0\/(k:Int)=1:=ce
   let o:=hF.lO (G.trans (Q.trans J));obtain ⟨C,A⟩:∃C,ls[t]?=some C:=#[_,gE ce];let(w1,w2,hlr,nw1,nw2):=o.row t C A;let(f1,f2):=eF t p ep;let(r1,r2):=rest p mp
   obtain ⟨x,y,X,σ,a1,a2,nx,ny,zy,e0⟩:∃(x y:V)(X σ:Rat),hW [w1,w2] (k:Int)=some x/\hW [u1,u2] (k:Int)=some y/\jf K BF x (1+12*(N+91)) X/\dq K BF y σ/\Sz 1200 σ/\X+σ=0:=by
    rcases RU with e|e
    ·show(w1,u1,_,_,by rw [e];rfl,by rw [e];rfl,nw1,IX.lO J,zd.1,by rwa [f1])
    ·show(w2,u2,_,_,by rw [e];rfl,by rw [e];rfl,nw2,hd2.lO J,zd.2,by rwa [f2])
   let etl:hW (ls.map V.ref) (t:Int)=some (.ref C):=bH (by rw [CP,A];rfl);show(_,O,_,O,fA,_,_,_,O,O,aT.of o.hf,etl,_,O,C,_,_,_,O,O,aT.of hlr,a1,_,O,_,O,da,_,_,_,O,O,Ty.aq.bS J hdq,a2,?_);dsimp only [gQ];change cx K gM [_,_] _ _ E0;show me nx (dI ny (gZ zy (DH _))) ce λp12 H12 mJ Sb=>?_;rw [e0] at Sb;let(z,(aHZ,e12,k1),k2,k3,_):=Sb;cases e12;let z0:z.1=0:=(y8 k2).mpr k3;rw [z0] at k1;show(p12,_,_,_,O,O,k1,i6,O,_,O,bq (λc=>by simp at c) (λ_=>?_));show(_,O,J.trans mJ)
  ·rintro Y BF ⟨S,rfl,J⟩
   show(_,_,_,O,G.trans (Q.trans J))
 ·rintro Y H5 ⟨o7,o8,S,rfl,G⟩
  show q H5 (f.trans G)
def vi {AP:γ}(h:(AP.map (·.1)).Nodup):((putK AP k v).map (·.1)).Nodup:=by
 unfold putK;split
 ·let e:((AP.map λZ=>if Z.1=k then (Z.1,v) else Z).map (·.1))=AP.map (·.1):=by
   rw [EL];show N3 λZ _=>?_;change (if Z.1=k then (Z.1,v) else Z).1=Z.1;split<;>rfl
  rwa [e]
 ·rename_i c
  rw [II,Wt];show(h,by simp,λa U b X z=>c ?_);have T :b=k:=by simpa using X
  let(Z,Y,S):=DA.mp U;rw [Wq];show(Z,Y,NI (by rw [S,z,T]))
def e9:(10:Int)^(9:Int).toNat=1000000000:=by decide+kernel
def p9:Zg 10 9:=(cr,cr,cr)
def pJ {t b:Int}(Y:0<t)(Z:0<b)(U:t<1073741824)(X:b<1073741824)(e:H p=some (.tup [.int (low t b).1,.int (low t b).2])):dq K H (.ref p) ((t:Rat) / (b:Rat))/\0<(t:Rat) / (b:Rat)/\Sz 31 ((t:Rat) / (b:Rat)):=by
 rw [gd (Nd Z)] at e;show(iT e,?_,uC (Nd Z) (intBits_le_iff.mpr (by change _<2147483648;omega)) (intBits_le_iff.mpr (by change _<2147483648;omega)));rw [Rat.div_def];show Rat.mul_pos (Q9.mpr Y) (Rat.inv_pos.mpr (Q9.mpr Z))
def tu (Z:0<b)(h:t=1\/b=1):low t b=(t,b):=oB Z (by rcases h with rfl|rfl<;>simp)
structure MV (K:Frag)(H0 H:Hp)(d:BK)(kG:γ)(gV:τ)(Go:Β)(n:Nat):Prop where
 s:aq H0 H
 hd:H d=some (.dK kG)
 nm:IC K H kG (λx=>(Go x).map qr)
 ks:∀kv∈kG,∃x∈gV.map (·.nm),kv.1=.inr x
 ps:∀x,0<gR Go x/\Sz 31 (gR Go x)
 ll:kG.length<=n
 nd:(kG.map (·.1)).Nodup
theorem MV.lO (h:MV K H0 H d kG gV Go n)(s:aq H H'):MV K H0 H' d kG gV Go n:=(h.s.trans s,s _ _ h.hd,h.nm.lO s,h.ks,h.ps,h.ll,h.nd)
def MV.up (h:MV K H0 H d kG gV Go m)(l:m<=n):MV K H0 H d kG gV Go n:=(h.s,h.hd,h.nm,h.ks,h.ps,EE h.ll l,h.nd)
theorem MV.put (h:MV K H0 H d kG gV Go n)(T:H0 d=none)(S:b∈gV)(Z:dq K H v r/\0<r/\Sz 31 r):MV K H0 (upd H d (.dK (putK kG (.inr b.nm) v))) d (putK kG (.inr b.nm) v) gV (λx=>if x=b.nm then some r else Go x) (n+1):=by
 let Y:=h.hd
 let X:bg H (upd H d (.dK (putK kG (.inr b.nm) v))):=λa R r=>by
  rcases r with r|⟨U,r⟩
  ·show .inl (by rw [aj (λe=>by erw [e,Y] at r)];show r)
  ·show .inr #[U,by rw [aj (λe=>by erw [e,Y] at r)];show r]
 show(λa o z=>?_,ak,?_,xx (λk:Key=>∃x∈gV.map (·.nm),k=IL x) h.ks (b.nm,DA.mpr (b,S,O),O),λx=>?_,EE (gT _ _ _) (alb h.ll),vi h.nd)
 ·rw [aj (ao z T)]
  show h.s _ _ z
 ·have:=(h.nm.put (x:=b.nm) (v:=v) (q:=qr r) Z.1).aQ X
  let e:(λnm=>if nm=b.nm then some (qr r) else (Go nm).map qr)=λx=>(if x=b.nm then some r else Go x).map qr:=funext λx=>by
   by_cases c:x=b.nm
   ·rw [ox c,ox c]
    rfl
   ·rw [mQ c,mQ c]
  rwa [e] at this
 ·change 0<(if x=b.nm then some r else Go x).getD 1/\Sz 31 ((if x=b.nm then some r else Go x).getD 1)
  by_cases c:x=b.nm
  ·rw [ox c]
   show Z.2
  ·rw [mQ c]
   show h.ps x
inductive vk (K:Frag)(vs:ε)(H:Hp)(Q:VK)(S:XK):Prop
|mk (Z Y:BK)(X:ξ)(ws:ε)(pX:ι)(gV:τ)(_:vs=[.ref Z,.ref Y])(_:aT K H Z (X.map V.int))(_:H Y=some (.lst ws))(_:Paired (j7 K H pX) ws gV)(_:gV.length<=10)(_:∀(d:BK)(U:γ)(T:Β)(H':Hp),H d=none->MV K H H' d U gV T 10->Q (.ref d) H')
def dm:ay ["_law_script","_law_bars_here","_law_grips_here","_law_k","_law_cell","_law_way","_law_near","_law_some"] CV (ae fS):=sq
def zv1 (D:Def K mg "_law_grips" fS CV)(aV:mg "len"=none)(ba:mg "range"=none)(j8:ac P w K mg lM 1 "_law_cell_at" RO (jc K))(E:ac P w K mg lM 1 "_law_field" Pb eQ)(kE:ac P w K mg lM 33 "_law_lowest" Rr cA):
  ac P w K mg lM 34 "_law_grips" CV (vk K):=by
 show D.oo dm λH X h=>?_;let(j,o,ns,M,pX,y,rfl,hS,hb,pb,lb,q):=h;let L2:2<=DC:=cr
 let L3:3<=DC:=cr
 let lw:M.length=y.length:=GX pb
 show(_,(aa (aI 2 dm.nd de) (aa (bh HG rfl (bK rfl ba (aZ (aJ aG rfl aV bV (aZ (pv 1))))) (bI 3 dm.nd) (aa (aI 4 dm.nd (aL j8 X (aH (pv 0) (aD bG ag (pv 3))))) (aa (aI 5 dm.nd (aL E X (bu (pv 4) ag ag))) (aa (aI 6 dm.nd (aL kE X (aH (aD bG ag (aL E X (bu (pv 4) ag ag))) (aD bG ag (aL E X (bu (pv 4) ag ag)))))) (aa (aI 7 dm.nd (bY (bu (pv 6) (aS (aH (aD bG ag (aL E X (bu (pv 4) ag ag))) ag)) (aS (aH ag (aD bG ag (aL E X (bu (pv 4) ag ag)))))))) (aa (bw (bE gm (aD eO (pv 3) ag) ag) (ah (aI 7 dm.nd (bY (bu (pv 6) (aS (aH (aD bG ag (aD eO (pv 4) (aD x4 ag ag))) ag)) (aS (aH ag (aD bG ag (aD eO (pv 4) (aD x4 ag ag))))))))) aR) (ah (bw (bE q_ (pv 5) ag) (ah (dW (bP X) (pv 2) (aF (bB aU (pv 1) (pv 3))) (bB aU (pv 7) (aD cB (pv 5) ag)) rfl)) aR)))))))) (ah (aE (pv 2))))),?_);try dsimp only [vw,mi,Cx.BE,Cx.vS]
 intros d n1 H1 s1 e1;show(_,O,o,_,O,.inl (aT.of (s1 _ _ hb)),((M.length:Nat):Int),O,ce,ce,let I:bn:=λi Y U=>Ex7 λ(o3 o4 o5 o6 o7:χ) (T:γ) (C:Β)=>Y=[ap j,ap o,ap d,o3,o4,o5,o6,o7]/\MV K H U d T y C i;cf (lo:=0) (n:=((M.length:Nat):Int).toNat) I (none,none,none,none,none,[],λ_=>none,O,s1,e1,λnm=>.inl #[O,O],λkv h=>(nomatch h),λx=>#[(by decide:(0:Rat)<1),jO (i:=1) (k:=31) cr cr],DH _,ZZ) ?_ ?_)
 ·rintro i Y H2 hi ⟨o3,o4,o5,o6,o7,T,C,rfl,u⟩
  let ek:(0:Int)+(i:Int)=(i:Int):=Nc _;rw [ek];let vM:i<M.length:=ce
  show(_,O,_,O,_,_,O,O,j,ns,_,O,u.s.seq hS,ce,ce,?_);generalize cell ns (32+(i:Int))=c;show(_,O,_,_,_,O,cr,cr,cr,?_);let iw:=a9 (c:=c) (p:=1009) (m:=4) cr;generalize field c 1009 4=Z at iw ⊢;let i1:=a9 (c:=c) (p:=2003) (m:=9) cr;let i2:=a9 (c:=c) (p:=3001) (m:=4) cr;let i3:=a9 (c:=c) (p:=4001) (m:=90) cr;let i4:=a9 (c:=c) (p:=4001) (m:=30) cr;let(b,eb,D_):=aw pb (gE vM);let mb:b∈y:=Wp eb;let(ta,j1,j2,eu,h1,_):=D_;let ai:hW M (i:Int)=some (.ref ta):=bH (by rw [gE vM,eu]);show(_,O,_,_,_,O,cr,cr,cr,_,_,O,O,_,O,_,_,_,O,cr,cr,cr,_,_,O,O,_,_,O,ce,λa H4 s4 e4=>?_);show(_,O,_,O,_,_,_,O,cr,cr,cr,_,_,O,O,L2,?_);intros p5 n5 H5 s5 e5;show(_,O,_,_,_,O,cr,cr,cr,_,_,O,O,L2,?_);intros p6 n6 H6 s6 e6;show#[L3,?_];intros l7 n7 H7 g e7;let J:=s5.trans (s6.trans g);let g7:=(u.lO s4).lO J;let k4:=pJ (K:=K) (t:=1+field c 2003 9) (b:=1+field c 3001 4) ce ce ce ce (J _ _ e4);dsimp only;show cu (λY' U=>Ex7 λ(l N Q R:BK) (z A B:Rat)=>Y' =[some (.ref j),some (.ref o),some (.ref d),some (.int (i:Int)),some (.int c),some (.int Z),some (.ref a),some (.ref l)]/\U l=some (.lst [.ref N,.ref Q,.ref R])/\MV K H U d T y C i/\(dq K U (.ref N) z/\0<z/\Sz 31 z)/\(dq K U (.ref Q) A/\0<A/\Sz 31 A)/\(dq K U (.ref R) B/\0<B/\Sz 31 B)) (λNx iU=>?_) ?_
  ·show(_,O,_,_,O,O,nz cr,O,_,O,?_)
   show bq (λ_=>?_) (λ_=>?_)
   ·let f1:=iC (x:=c) (m:=(10:Int)^(9:Int).toNat) cr
    show(_,O,_,O,_,_,O,O,p9,_,_,O,O,nz cr,_,_,O,O,L2,?_);intros p8 n8 H8 s8 e8;show(_,O,_,_,O,O,p9,_,_,O,O,nz cr,_,_,O,O,L2,?_);intros f n9 H9 s9 G;show#[L3,?_];intros Sa P5 BF nR Yi;let L:=s8.trans (s9.trans nR);rw [e9] at f1 e8 G;show iU _ _ (Sa,a,p8,f,_,_,_,O,Yi,g7.lO L,#[k4.1.lO L,k4.2],pJ (t:=1+c.fmod 1000000000) (b:=1) ce ce ce ce (by rw [tu cr (.inr rfl)];show nR _ _ (s9 _ _ e8)),pJ (t:=1) (b:=1+c.fmod 1000000000) ce ce ce ce (by rw [tu ce (.inl rfl)];show nR _ _ G))
   ·show iU _ _ (l7,a,p5,p6,_,_,_,O,e7,g7,k4,pJ (t:=10+field c 4001 90) (b:=1) ce ce ce ce (by rw [tu cr (.inr rfl)];show g _ _ (s6 _ _ e5)),pJ (t:=1) (b:=1+field c 4001 30) ce ce ce ce (by rw [tu ce (.inl rfl)];show g _ _ e6))
  rintro Y' H3 ⟨l,N,Q,R,z,A,B,rfl,hl,S,v1,v2,v3⟩;show(_,O,_,_,O,O,_,O,?_);show bq (λcw=>?_) (λ_=>?_)
  ·let cw':0<Z:=Nl cw
   let dn:∃(x:BK)(r:Rat),hW [V.ref N,V.ref Q,V.ref R] (Z-1)=some (.ref x)/\(dq K H3 (.ref x) r/\0<r/\Sz 31 r):=by
    rcases (by omega:Z=1\/Z=2\/Z=3) with rfl|rfl|rfl
    ·show(N,_,O,v1)
    ·show(Q,_,O,v2)
    ·show(R,_,O,v3)
   let(x,r,ex,hx):=dn;show(_,O,_,O,_,_,O,O,l,_,_,_,O,O,aT.of hl,ex,_,O,_,O,_,O,o,_,_,_,O,O,aT.of (S.s _ _ hb),ai,ta,_,_,_,O,O,Ty.aq.bS S.s h1,bJ,d,_,O,js.k (k:=.inr b.nm) S.hd (IG (show T.length<=1000 by have:=S.ll;omega) cr),_,_,_,_,_,_,_,O,S.put n1 mb hx)
  ·show(_,_,_,_,_,_,_,O,S.up ce)
 ·rintro Y H2 ⟨o3,o4,o5,o6,o7,T,C,rfl,u⟩
  show(_,O,q d T C H2 n1 (u.up ce))
def JW {Z β:Type}{nm:Z->Str}(X:β){l:List Z}(U:(l.map nm).Nodup)(f:Nat->β):∃T:Str->β,∀(i:Nat)(x:Z),l[i]?=some x->T (nm x)=f i:=by
 classical
 show#[λs=>if h:∃i,(l.map nm)[i]?=some s then f h.choose else X,λi x e=>?_];let Y:(l.map nm)[i]?=some (nm x):=by rw [CP,e];rfl
 let h:∃i,(l.map nm)[i]?=some (nm x):=#[i,Y];change (if h:∃i,(l.map nm)[i]?=some (nm x) then f h.choose else X)=f i;rw [dif_pos h];show pU f (eV U h.choose_spec Y)
def nK (Z:H d=some (.dK k)):bg H (upd H d (.dK k')):=λa X r=>by
 rcases r with r|⟨Y,r⟩
 ·show .inl (by rw [aj (λe=>by erw [e,Z] at r)];show r)
 ·show .inr #[Y,by rw [aj (λe=>by erw [e,Z] at r)];show r]
structure Pp {Z:Type}(H:Hp)(d:BK)(kT:γ)(nm:Z->Str)(l:List Z)(R:Hp->V->Z->Prop):Prop where
 hd:H d=some (.dK kT)
 ky:kT.map (·.1)=l.map (λx=>(IL (nm x):Key))
 tv:∀x∈l,∃v,bC kT (.inr (nm x))=some v/\R H v x
def Pp.lO {R:Hp->V->Z->Prop}(h:Pp H d kT nm l R)(m:∀v x,R H v x->R H' v x)(s:aq H H'):Pp H' d kT nm l R:=(s _ _ h.hd,h.ky,λx Y=>by
 let(v,a,b):=h.tv x Y
 show(v,a,m v x b))
def Pp.len {R:Hp->V->Z->Prop}(h:Pp H d kT nm l R):kT.length=l.length:=by
 have:=pU Ri h.ky;rwa [be,be] at this
def Pp.put {l:List Z}(T:(l.map nm).Nodup)(e:l[i]?=some x)(h:Pp H d kT nm (l.take i) R)(m:∀Y y,R H Y y->R (upd H d (.dK (putK kT (.inr (nm x)) v))) Y y)(S:R H v x):Pp (upd H d (.dK (putK kT (.inr (nm x)) v))) d (putK kT (.inr (nm x)) v) nm (l.take (i+1)) R:=by
 show(ak,?_,λy X=>?_)
 ·rw [dG _ (cg (by
   rw [h.ky];intro z;let(L,Q,M):=DA.mp z
   show iN (nm:=nm) T e Q (by injection M))),II,h.ky,take_snoc e,II]
  rfl
 ·rw [jq]
  by_cases c:nm y=nm x
  ·let N:y=x:=by
    let(j,U):=JG (QL X);have:=eV T (x:=nm x) (i:=j) (j:=i) (by rw [CP,U,<-c];rfl) (by rw [CP,e];rfl);rw [this,e] at U;show(JB U).symm
   subst N;rw [ox rfl];show(v,O,m _ _ S)
  ·rw [mQ (λz=>c (by injection z))]
   rw [take_snoc e] at X
   rcases HZ.mp X with z|z
   ·let(Y,a,b):=h.tv y z
    show(Y,a,m _ _ b)
   ·show DQ (pU nm (HU.mp z)) c
def adV {t b:Int}(h:0<b)(Y:t.natAbs<2048)(Z:b<2048):Sz 11 ((t:Rat) / (b:Rat)):=uC (Nd h) (intBits_le_iff.mpr (by change _<2048;omega)) (intBits_le_iff.mpr (by change _<2048;omega))
inductive vm (K:Frag)(vs:ε)(H:Hp)(Q:VK)(S:XK):Prop
|mk (Z Y:BK)(st:Int)(X:ξ)(ws:ε)(pX:ι)(gV:τ)(_:vs=[.ref Z,.ref Y,.int st])(_:aT K H Z (X.map V.int))(_:H Y=some (.lst ws))(_:Paired (j7 K H pX) ws gV)(_:gV.length<=10)(_:(gV.map (·.nm)).Nodup)(_:0<=st)(_:st<=900)(_:∀(d:BK)(U:γ)(T:Λ)(H':Hp),aq H H' ->H d=none->Pp H' d U (·.nm) gV (λH v b=>dq K H v (T b.nm))->(∀b∈gV,Sz 11 (T b.nm))->Q (.ref d) H')
def iE:ay ["_law_script","_law_bars_here","_law_start","_law_pulls_here","_law_k","_law_cell"] BS (ae fT):=sq
def zay (D:Def K mg "_law_pulls" fT BS)(aV:mg "len"=none)(ba:mg "range"=none)(j8:ac P w K mg lM 1 "_law_cell_at" RO (jc K))(cS:ac P w K mg lM 1 "_law_field" Pb eQ)(kE:ac P w K mg lM 33 "_law_lowest" Rr cA):
  ac P w K mg lM 34 "_law_pulls" BS (vm K):=by
 show D.oo iE λH N h=>?_;let(u,C,st,R,X,pX,E,rfl,hS,M,g,lb,f,st0,T1,q):=h;let lw:X.length=E.length:=GX g;let(T,hT):=JW (nm:=a_.nm) (0:Rat) f λi=>((field (cell R (st+(i:Int))) 4001 2001-1000:Int):Rat) / ((1+field (cell R (st+(i:Int))) 5003 9:Int):Rat)
 show(_,(aa (aI 3 iE.nd de) (aa (bh HG rfl (bK rfl ba (aZ (aJ aG rfl aV bV (aZ (pv 1))))) (bI 4 iE.nd) (aa (aI 5 iE.nd (aL j8 N (aH (pv 0) (aD bG (pv 2) (pv 4))))) (ah (dW (bP N) (pv 3) (aF (bB aU (pv 1) (pv 4))) (aL kE N (aH (aD cB (aL cS N (bu (pv 5) ag ag)) ag) (aD bG ag (aL cS N (bu (pv 5) ag ag))))) rfl)))) (ah (aE (pv 3))))),?_);sleep 2
 intros d a H1 j e1;let en:((X.length:Nat):Int).toNat=E.length:=ce
 show(_,O,C,_,O,.inl (aT.of (j _ _ M)),((X.length:Nat):Int),O,ce,ce,let I:bn:=λi Y H'=>GJ λ(G J:χ) (Q:γ)=>Y=[ap u,ap C,some (.int st),ap d,G,J]/\aq H H'/\Pp H' d Q (·.nm) (E.take i) (λH v b=>dq K H v (T b.nm));cf (lo:=0) (n:=((X.length:Nat):Int).toNat) I (none,none,[],O,j,e1,by simp,λx hx=>by simp at hx) ?_ ?_)
 ·rintro i Y H2 hi ⟨G,J,Q,rfl,U,L⟩
  let ek:(0:Int)+(i:Int)=(i:Int):=Nc _;rw [ek];let B:i<X.length:=ce
  let(b,eb,D_):=aw g (gE B);let(y,j1,j2,eu,h1,_):=D_;let ai:hW X (i:Int)=some (.ref y):=bH (by rw [gE B,eu]);let A:=hT i b eb;show(_,O,_,O,_,O,_,_,O,O,u,R,_,O,U.seq hS,ce,ce,?_);generalize cell R (st+(i:Int))=c at A ⊢;let i1:=a9 (c:=c) (p:=4001) (m:=2001) cr;let i2:=a9 (c:=c) (p:=5003) (m:=9) cr;show(_,O,_,_,_,O,cr,cr,cr,_,_,O,O,_,O,_,_,_,O,cr,cr,cr,_,_,O,O,_,_,O,ce,λp4 H4 S e4=>?_);rw [gd ce,<-A] at e4;let Z:=L.lO (λ_ _ z=>z.lO S) S;let lk:=Z.len;rw [IY] at lk;show(_,O,_,O,_,O,C,_,_,_,O,O,aT.of (S _ _ (U _ _ M)),ai,y,_,_,_,O,O,Ty.aq.bS (U.trans S) h1,bJ,d,_,O,js.k (k:=.inr b.nm) Z.hd (IG (show Q.length<=1000 by omega) cr),_,_,_,O,λb o z=>(by rw [aj (ao z a)];show S _ _ (U _ _ z)),Z.put f eb (λ_ _ z=>z.aQ (nK Z.hd)) (iT e4))
 ·rintro Y H2 ⟨G,J,Q,rfl,U,L⟩
  rw [en,Ni] at L;show(_,O,q d Q T H2 U a L λb M=>?_);let(i,ei):=JG M;rw [hT i b ei];generalize cell R (st+(i:Int))=c;let i1:=a9 (c:=c) (p:=4001) (m:=2001) cr;let i2:=a9 (c:=c) (p:=5003) (m:=9) cr;show adV ce ce ce
theorem rN :∀(n:Nat) {us:ε} {zs:List Z},Paired R us zs->Paired R (us.take n) (zs.take n)
 | 0,_,_,_=>by simpa using Paired.nil
 | n+1,_,_,.nil=>by simpa using Paired.nil
 | n+1,_,_,.cons h t=>by
  rw [aj9,aj9];show .cons h (rN n t)
def UsR (K:Frag)(U:ω)(H:Hp)(v:V)(p:aC):Prop:=∃Y Z,v=.ref Y/\H Y=some (.lst Z)/\Paired (dq K H) Z (U p.nm)
theorem UsR.lO (h:UsR K U H v p)(s:aq H H'):UsR K U H' v p:=by
 let(Y,Z,a,b,c):=h;show(Y,Z,a,s _ _ b,Paired.b6 c λ_ _ z=>z.lO s)
inductive qQ (K:Frag)(vs:ε)(H:Hp)(Q:VK)(S:XK):Prop
|mk (Z Y:BK)(st:Int)(X:ξ)(us:ε)(pX:ι)(_:vs=[.ref Z,.ref Y,.int st])(_:aT K H Z (X.map V.int))(_:H Y=some (.lst us))(_:Paired (iX K H) us pX)(_:gx pX)(_:pX.length<=9)(_:0<=st)(_:st<=900)(_:∀(d:BK)(T:γ)(U:ω)(H':Hp),aq H H' ->H d=none->Pp H' d T (·.nm) pX (UsR K U)->(∀p∈pX,(U p.nm).length=p.ws.length)->(∀p∈pX,∀u∈U p.nm,Sz 11 u)->Q (.ref d) H')
def fJ:ay ["_law_script","_law_pins_here","_law_start","_law_pushes_here","_law_k","_law_cell","_law_some"] BM (ae fu):=sq
def ahe (D:Def K mg "_law_pushes" fu BM)(aV:mg "len"=none)(ba:mg "range"=none)(j8:ac P w K mg lM 1 "_law_cell_at" RO (jc K))(cS:ac P w K mg lM 1 "_law_field" Pb eQ):
  ac P w K mg lM 2 "_law_pushes" BM (qQ K):=by
 show D.oo fJ λH G h=>?_;let(sA,J,st,N,Q,L,rfl,hS,S,pp,E,lp,st0,T1,q):=h;let L2:2<=DC:=cr
 let lu:Q.length=L.length:=GX pp;let(U,hU):=JW (nm:=aC.nm) ([]:List Rat) E.np λi=>([((field (cell N (st+(i:Int))) 6007 201-100:Int):Rat),((field (cell N (st+(i:Int))) 7001 401-200:Int):Rat)]).take ((L[i]?.map λp=>p.ws.length).getD 0)
 show(_,(aa (aI 3 fJ.nd de) (aa (bh HG rfl (bK rfl ba (aZ (aJ aG rfl aV bV (aZ (pv 1))))) (bI 4 fJ.nd) (aa (aI 5 fJ.nd (aL j8 G (aH (pv 0) (aD bG (pv 2) (pv 4))))) (aa (aI 6 fJ.nd (bY (aH (aS (aH (aD cB (aL cS G (bu (pv 5) ag ag)) ag) ag)) (aS (aH (aD cB (aL cS G (bu (pv 5) ag ag)) ag) ag))))) (ah (dW (bP G) (pv 3) (aF (bB aU (pv 1) (pv 4))) (cJ fj (pv 6) dS (c_ (aJ aG rfl aV bV (aZ (aF (bB aU (pv 1) (pv 4))))))) rfl))))) (ah (aE (pv 3))))),?_);sleep 2
 intros d n1 H1 s1 e1;let en:((Q.length:Nat):Int).toNat=L.length:=ce
 show(_,O,J,_,O,.inl (aT.of (s1 _ _ S)),((Q.length:Nat):Int),O,ce,ce,let I:bn:=λi Y H'=>N6 λ(o4 o5 o6:χ) (M:γ)=>Y=[ap sA,ap J,some (.int st),ap d,o4,o5,o6]/\aq H H'/\Pp H' d M (·.nm) (L.take i) (UsR K U);cf (lo:=0) (n:=((Q.length:Nat):Int).toNat) I (none,none,none,[],O,s1,e1,by simp,λx hx=>by simp at hx) ?_ ?_)
 ·rintro i Y H2 hi ⟨o4,o5,o6,M,rfl,R,A⟩
  let ek:(0:Int)+(i:Int)=(i:Int):=Nc _;rw [ek];let vM:i<Q.length:=ce
  let(p,C,DZ):=aw pp (gE vM);let mp:=Wp C;let(g,l,sv,eK,eu,h1,h2,h3,h4):=DZ.lO R;let ai:hW Q (i:Int)=some (.ref g):=bH (by rw [gE vM,eu]);let lv:eK.length=p.ws.length:=GX h4;let lwp:=(E.ws p mp).len;let j:=hU i p C;rw [C] at j;show(_,O,_,O,_,O,_,_,O,O,sA,N,_,O,R.seq hS,ce,ce,?_);generalize cell N (st+(i:Int))=c0 at j ⊢;show(_,O,_,_,_,O,cr,cr,cr,_,_,O,O,L2,?_);intros p5 n5 H5 s5 e5;show(_,O,_,_,_,O,cr,cr,cr,_,_,O,O,L2,?_);intros p6 n6 H6 s6 e6;show#[L2,?_];intros l7 n7 H7 s7 e7;let T:=s5.trans (s6.trans s7);show(_,O,_,O,_,O,J,_,_,_,O,O,aT.of (T _ _ (R _ _ S)),ai,g,_,_,_,O,O,Ty.aq.bS T h1,O,l,_,O,.inl (aT.of (T _ _ h3)),_,O,l7,_,O,aT.of e7,?_);rw [oO (show eK.length<=[V.ref p5,V.ref p6].length by change eK.length<=2;omega)];intros la n8 H8 f e8;let Z:=T.trans f;let X:=A.lO (λ_ _ z=>z.lO Z) Z;let lk:=X.len;rw [IY] at lk;show(_,O,_,O,_,O,J,_,_,_,O,O,aT.of (Z _ _ (R _ _ S)),ai,g,_,_,_,O,O,Ty.aq.bS Z h1,bJ,d,_,O,js.k (k:=.inr p.nm) X.hd (IG (show M.length<=1000 by omega) cr),?_);let y:Paired (dq K H8) [V.ref p5,V.ref p6] [((field c0 6007 201-100:Int):Rat),((field c0 7001 401-200:Int):Rat)]:=.cons (u4 _ (f _ _ (s7 _ _ (s6 _ _ e5)))) (.cons (u4 _ (f _ _ (s7 _ _ e6))) .nil);show(_,_,_,_,O,λb o z=>(by rw [aj (ao z n1)];show Z _ _ (R _ _ z)),X.put E.np C (λ_ _ ⟨a,ys,z1,z2,z3⟩=>(a,ys,z1,by rw [aj (λe=>by erw [e,X.hd] at z2)];show z2,Paired.b6 z3 λ_ _ z=>z.aQ (nK X.hd))) (la,_,O,e8,?_));rw [j,lv];show rN _ y
 ·rintro Y H2 ⟨o4,o5,o6,M,rfl,R,A⟩
  rw [en,Ni] at A;show(_,O,q d M U H2 R n1 A (λp S=>?_) λp S u hu=>?_)
  ·let(i,B):=JG S
   let lwp:=(E.ws p S).len;rw [hU i p B,B,IY];change min p.ws.length 2=p.ws.length;omega
  ·let(i,B):=JG S
   rw [hU i p B] at hu;generalize cell N (st+(i:Int))=c at hu;let i1:=a9 (c:=c) (p:=6007) (m:=201) cr;let i2:=a9 (c:=c) (p:=7001) (m:=401) cr;let sm:∀i:Int,i.natAbs<2048->Sz 11 (i:Rat):=λi h=>jO h cr
   rcases JP.mp (QL hu) with z|z
   ·rw [z]
    show sm _ ce
   ·rw [HU.mp z]
    show sm _ ce
theorem SY {Z:Type}{f:Z->Rat}:∀{l:List Z},(∀x∈l,Sz k (f x))->Sz (l.length*(k+1)+1) (l.map f).sum
 | [],_=>by
  rw [NV,RI];show dk fD
 | x::l,h=>by
  rw [ED,N7,NX];show((h x IU).add (SY λy Y=>h y (IH _ Y))).up ?_;rw [Rf];omega
theorem Yy :∀{us ws:Ο},(∀u∈us,Sz k u)->(∀w∈ws,Sz m w)->Sz (us.length*(k+m+1)+1) (sP us ws)
 | [],ws,_,_=>by
  rw [gJ];show dk fD
 | u::us,[],_,_=>by
  have:sP (u::us) []=0:=by simp [sP]
  rw [this];show dk fD
 | u::us,w::ws,X,Y=>by
  rw [cG,NX];show(((X u IU).mul (Y w IU)).add (Yy (us:=us) (ws:=ws) (λy Z=>X y (IH _ Z)) λy Z=>Y y (IH _ Z))).up ?_;rw [Rf];omega
def ajp (g:d_ pX gV)(J:gV.length<=10)(Q:∀b∈gV,Sz 11 (T b.nm))(R:∀p∈pX,∀u∈U p.nm,Sz 11 u)(I:∀p∈pX,(U p.nm).length=p.ws.length)(Z:p∈pX)(X:∀{n:Nat} {w:Rat×Rat},Sz n w.1/\Sz n w.2->Sz n (c w)):Sz 1200 (gL gV T U p c):=by
 unfold gL
 let M:Sz ((U p.nm).length*(11+22+1)+1) (sP (U p.nm) (p.ws.map c)):=Yy (R p Z) λw G=>by
  let(L,Y,rfl):=DA.mp G;show X ((g.sz p Z).2.2 L Y)
 let N:Sz (gV.length*(101+1)+1) (gV.map λb=>T b.nm*c (mv (dJ b) p.nm)).sum:=SY λb S=>((Q b S).mul (X (JD g S p.nm))).up cr;let B:=g.lw p Z;let H:=J;let C:=I p Z;let D:(U p.nm).length*(11+22+1)<=2*34:=Q3 34 ce;let E:gV.length*(101+1)<=10*102:=Q3 102 H;show(M.add N).up ce
def EH (gV:τ)(T:Λ)(U:ω)(p:aC):Rat×Rat:=(-(gL gV T U p (·.1)), -(gL gV T U p (·.2)))
def ahG (h:0<q.2)(e:vl q=r):low (0-q.1) q.2=qr (-r):=by
 rw [gd (Nd h),<-e];congr 1;unfold vl;push_cast;grind
inductive zv (K:Frag)(vs:ε)(H:Hp)(Q:VK)(J:XK):Prop
|mk (X S Y Z:BK)(us ws:ε)(M R:γ)(pX:ι)(gV:τ)(T:Λ)(U:ω)(N:Nat)(_:vs=[.ref X,.ref S,.ref Y,.ref Z])(_:SQ K H X S us ws pX gV)(_:LFo K H Y Z M R pX gV T U N)(_:d_ pX gV)(_:(∀b∈gV,Sz 11 (T b.nm)))(_:(∀p∈pX,∀u∈U p.nm,Sz 11 u))(_:∀(d:BK)(AP:γ)(L:η)(H':Hp),aq H H' ->H d=none->xO K H' d AP pX L->AP.length<=9->AP.map (·.1)=pX.map (λp=>(IL p.nm:Key))->ig pX gV T U L->Q (.ref d) H')
def fh:ay ["_law_pins_here","_law_bars_here","_law_pulls_here","_law_pushes_here","_law_found","_law_load_here","_law_k","_law_x"] QR (ae eI):=sq
def ajB (D:Def K mg "_law_load_by" eI QR)(aV:mg "len"=none)(ba:mg "range"=none)(aa2:ac P w K mg lM 3 "_law_forces" QR (pF K))(kE:ac P w K mg lM 33 "_law_lowest" Rr cA):
  ac P w K mg lM 34 "_law_load_by" QR (zv K):=by
 show D.oo fh λH hr h=>?_;let(pA,bA,tA,uA,J,ws,kT,kU,Z,gV,T,U,N,rfl,X,fo,g,zT,zU,q):=h;let L2:2<=DC:=cr
 let lp:=X.lp;let lu:J.length=Z.length:=GX X.pp
 show(_,(aa (aI 4 fh.nd (aL aa2 hr (iL (pv 0) (bu (pv 1) (pv 2) (pv 3))))) (aa (aI 5 fh.nd de) (aa (bh HG rfl (bK rfl ba (aZ (aJ aG rfl aV bV (aZ (pv 0))))) (bI 6 fh.nd) (aa (aI 7 fh.nd (aL kE hr (aH (aD cB ag (aF (oJ (bB aU (pv 4) (pv 6))))) (aF (oJ (bB aU (pv 4) (pv 6))))))) (ah (dW (bP hr) (pv 5) (aF (bB aU (pv 0) (pv 6))) (aS (aH (pv 7) (aL kE hr (aH (aD cB ag (aF (oJ (bB aU (pv 4) (pv 6))))) (aF (oJ (bB aU (pv 4) (pv 6)))))))) rfl)))) (ah (aE (pv 5)))))),?_);sleep 3
 show(_,O,_,O,_,O,_,O,pA,bA,tA,uA,J,ws,kT,kU,Z,gV,T,U,N,O,X,fo,λfA ls F H1 s1 ll hF eF=>?_);intros d nd H2 s2 e2;let kr:=s1.trans s2;let enb:((J.length:Nat):Int).toNat=Z.length:=ce
 show(_,O,pA,_,O,.inl (aT.of (kr _ _ X.hp)),((J.length:Nat):Int),O,ce,ce,let I:bn:=λi Y H'=>GJ λ(o6 o7:χ) (E:γ)=>Y=[ap pA,ap bA,ap tA,ap uA,ap fA,ap d,o6,o7]/\aq H1 H'/\Pp H' d E (·.nm) (Z.take i) (λH v p=>fL K H v (EH gV T U p));cf (lo:=0) (n:=((J.length:Nat):Int).toNat) I (none,none,[],O,s2,e2,by simp,λx hx=>by simp at hx) ?_ ?_)
 ·rintro i Y H3 hi ⟨o6,o7,E,rfl,B,G⟩
  let ek:(0:Int)+(i:Int)=(i:Int):=Nc _;rw [ek];let BJ:=s1.trans B;let hiu:i<J.length:=ce
  let(p,ep,DZ):=aw X.pp (gE hiu);let(ta,lw,sv,eK,eu,h1,_,_,_):=DZ.lO BJ;let ai:hW J (i:Int)=some (.ref ta):=bH (by rw [gE hiu,eu]);let F3:=hF.lO B;obtain ⟨M,elr⟩:∃M,ls[i]?=some M:=#[_,gE ce];let(w1,w2,f,(q1,(a1,rfl,m1),b1,c1,_),(q2,(a2,rfl,m2),b2,c2,_)):=F3.row i M elr;let(f1,f2):=eF i p ep;let R:hW (ls.map V.ref) (i:Int)=some (.ref M):=bH (by rw [CP,elr];rfl);let lf:=aT.of (K:=K) F3.hf;let u:=aT.of (K:=K) f;show(_,O,_,O,fA,_,_,_,O,O,lf,R,M,_,_,_,O,O,u,O,a1,_,_,_,O,O,m1,i6,_,_,O,O,_,O,_,O,fA,_,_,_,O,O,lf,R,M,_,_,_,O,O,u,O,a1,_,_,_,O,O,m1,iW,_,_,O,b1,λp4 H4 s4 e4=>?_);rw [ahG b1 (c1.trans f1)] at e4;let j:=aT.of (K:=K) (s4 _ _ F3.hf);let m:=aT.of (K:=K) (s4 _ _ f);let y:=Ty.aq.bS s4 m2;show(_,O,_,O,_,O,fA,_,_,_,O,O,j,R,M,_,_,_,O,O,m,O,a2,_,_,_,O,O,y,i6,_,_,O,O,_,O,_,O,fA,_,_,_,O,O,j,R,M,_,_,_,O,O,m,O,a2,_,_,_,O,O,y,iW,_,_,O,b2,λp5 H5 s5 e5=>?_);rw [ahG b2 (c2.trans f2)] at e5;show#[L2,?_];intros p6 n6 H6 s6 e6;let Pm:=s4.trans (s5.trans s6);let Q:=G.lO (λ_ _ z=>z.lO Pm) Pm;let lk:=Q.len;rw [IY] at lk;show(_,O,_,O,_,O,pA,_,_,_,O,O,aT.of ((BJ.trans Pm) _ _ X.hp),ai,ta,_,_,_,O,O,Ty.aq.bS Pm h1,bJ,d,_,O,js.k (k:=.inr p.nm) Q.hd (IG (show E.length<=100 by omega) cr),_,_,_,O,λb o z=>(by rw [aj (ao z nd)];show Pm _ _ (B _ _ z)),Q.put X.gp.np ep (λ_ _ z=>z.aQ (nK Q.hd)) (p6,_,_,O,bL.of e6,iT (s6 _ _ (s5 _ _ e4)),iT (s6 _ _ e5)))
 ·rintro Y H3 ⟨o6,o7,E,rfl,B,G⟩
  rw [enb,Ni] at G;let lk:=G.len;let ky:=G.ky
  let nk:(E.map (·.1)).Nodup:=by
   rw [ky];have:(Z.map λp=>(IL p.nm:Key))=(Z.map (·.nm)).map IL:=by rw [EL];rfl
   rw [this];show List.Pairwise.map _ (λa b n z=>n (by injection z)) X.gp.np
  let(L,hL):=JW (nm:=aC.nm) ((0,0):Rat×Rat) X.gp.np λi=>(Z[i]?.map (EH gV T U)).getD (0,0)
  let eL:∀p∈Z,L p.nm=EH gV T U p:=λp C=>by
   let(i,e):=JG C;rw [hL i p e,e];rfl
  let A:∀p∈Z,mv (λx=>if x∈Z.map (·.nm) then some (L x) else none) p.nm=EH gV T U p:=λp C=>by
   change (if p.nm∈Z.map (·.nm) then some (L p.nm) else none).getD (0,0)=_;rw [ox (DA.mpr (p,C,O))];show eL p C
  show(_,O,q d E (λx=>if x∈Z.map (·.nm) then some (L x) else none) H3 (s1.trans B) (s1.free nd) (G.hd,λx=>?_,nk,λkv mH=>?_,λx=>?_,ce) ce ky λp C=>?_)
  ·by_cases c:x∈Z.map (·.nm)
   ·let(p,S,rfl):=DA.mp c
    let(v,a,b):=G.tv p S;show .inr (v,L p.nm,a,ox c,by rwa [eL p S])
   ·show .inl #[cg (λz=>c ?_),mQ c]
    rw [ky] at z;let(p,S,e):=DA.mp z;show DA.mpr (p,S,by injection e)
  ·have:kv.1∈E.map (·.1):=DA.mpr (kv,mH,O)
   rw [ky] at this;let(p',S,e):=DA.mp this;show(p'.nm,DA.mpr (p',S,O),e.symm)
  ·by_cases c:x∈Z.map (·.nm)
   ·let(p,S,rfl):=DA.mp c
    rw [A p S];show#[(ajp g X.lb zT zU fo.lU S (λh=>h.1)).neg,(ajp g X.lb zT zU fo.lU S (λh=>h.2)).neg]
   ·change Sz 1200 ((if x∈Z.map (·.nm) then some (L x) else none).getD (0,0)).1/\Sz 1200 ((if x∈Z.map (·.nm) then some (L x) else none).getD (0,0)).2
    rw [mQ c];show#[dk cr,dk cr]
  ·rw [A p C]
   unfold EH;constructor<;>grind
def xC.put (h:xC K H AP F)(n:fL K H v q):xC K H (putK AP (.inr x) v) (λnm=>if nm=x then some q else F nm):=λnm=>by
 change (bC (putK AP (.inr x) v) (.inr nm)=none/\(if nm=x then some q else F nm)=none)\/∃Z p,bC (putK AP (.inr x) v) (.inr nm)=some Z/\(if nm=x then some q else F nm)=some p/\fL K H Z p;rw [jq];by_cases c:nm=x
 ·subst c
  rw [ox rfl,ox rfl];show .inr (v,q,O,O,n)
 ·rw [mQ (λe=>c (by injection e)),mQ c]
  show h nm
def p18:Zg 10 18:=(cr,cr,cr)
def S0 {t b:Int}(h:0<b)(Y:t.natAbs<1073741824)(Z:b<1073741824):Sz 30 ((t:Rat) / (b:Rat)):=uC (Nd h) (intBits_le_iff.mpr (by change _<1073741824;omega)) (intBits_le_iff.mpr (by change _<1073741824;omega))
inductive zA (K:Frag)(vs:ε)(H:Hp)(Q:VK)(T:XK):Prop
|mk (Z Y:BK)(X:ξ)(us:ε)(pX:ι)(_:vs=[.ref Z,.ref Y])(_:aT K H Z (X.map V.int))(_:(∀i∈X,intBits i<=1048576))(_:H Y=some (.lst us))(_:Paired (iX K H) us pX)(_:pX.length<=9)(_:∀(d:BK)(U:γ)(M:η)(H':Hp),aq H H' ->H d=none->xO K H' d U pX M->U.length<=9->Q (.ref d) H')
def rO:ay ["_law_script","_law_pins_here","_law_load_here","_law_far","_law_k","_law_cell","_law_x","_law_other","_law_y"] VQ (ae s_by):=sq
def af7 (D:Def K mg "_law_load" s_by VQ)(ba:mg "range"=none)(aV:mg "len"=none)(mM:mg "int"=none)(j8:ac P w K mg lM 1 "_law_cell_at" RO (jc K))(cS:ac P w K mg lM 1 "_law_field" Pb eQ)(kE:ac P w K mg lM 33 "_law_lowest" Rr cA):
  ac P w K mg lM 34 "_law_load" VQ (zA K):=by
 show D.oo rO λH T h=>?_;let(B,J,ns,Q,u,rfl,hS,hb,hp,pp,lp,q):=h;let L2:2<=DC:=cr
 let lu:Q.length=u.length:=GX pp
 show(_,(aa (aI 2 rO.nd de) (aa (aI 3 rO.nd (aD x4 ag ag)) (aa (bh HG rfl (bK rfl ba (aZ (aJ aG rfl aV bV (aZ (pv 1))))) (bI 4 rO.nd) (aa (aI 5 rO.nd (aL j8 T (aH (pv 0) (aD bG ag (pv 4))))) (aa (aI 6 rO.nd (aL kE T (aH (aD cB (aD eO (pv 5) (aD bG (aD bX ag (pv 3)) ag)) (pv 3)) (aD bG ag (aL cS T (bu (pv 5) ag ag)))))) (aa (aI 7 rO.nd (bB aU (bY (aH (aD bX (pv 5) ag) (aD oC (pv 5) (aD bG (aD bX ag (pv 3)) ag)))) (cv qg rfl mM LJ (aZ (ae_ (ahq XO q5 ag (pv 5) (aD x4 ag ag))))))) (aa (aI 8 rO.nd (aL kE T (aH (aD cB (aD eO (pv 7) (aD bG (aD bX ag (pv 3)) ag)) (pv 3)) (aD bG ag (aL cS T (bu (pv 5) ag ag)))))) (ah (bw (bE q_ (aL cS T (bu (pv 5) ag ag)) ag) (ah (dW (bP T) (pv 2) (aF (bB aU (pv 1) (pv 4))) (aS (aH (pv 6) (pv 8))) rfl)) aR))))))) (ah (aE (pv 2)))))),?_);try dsimp only [vw,mi,Cx.BE,Cx.vS]
 intros d n1 H1 s1 e1;dsimp only;show cu (λG R=>G =[some (.ref B),some (.ref J),some (.ref d),some (.int 1000000000),none,none,none,none,none]/\R=H1) (λNx f=>(_,_,O,O,p9,f _ _ #[O,O])) ?_;rintro G Hy ⟨rfl,rfl⟩;show(_,O,J,_,O,.inl (aT.of (s1 _ _ hp)),((Q.length:Nat):Int),O,ce,ce,let I:bn:=λi Y R=>Ex7 λ(o4 o5 o6 o7 j:χ) (Z:γ) (M:η)=>Y=[ap B,ap J,ap d,some (.int 1000000000),o4,o5,o6,o7,j]/\aq H R/\R d=some (.dK Z)/\xC K R Z M/\mvL M/\(∀kv∈Z,∃x∈u.map (·.nm),kv.1=.inr x)/\(Z.map (·.1)).Nodup/\Z.length<=i;cf (lo:=0) (n:=((Q.length:Nat):Int).toNat) I (none,none,none,none,none,[],λ_=>none,O,s1,e1,λU=>.inl #[O,O],λx=>#[dk cr,dk cr],λkv h=>(nomatch h),ZZ,DH _) ?_ ?_)
 ·rintro i Y H2 hi ⟨o4,o5,o6,o7,j,Z,M,rfl,A,a,o,C,g,X,ll⟩
  let ek:(0:Int)+(i:Int)=(i:Int):=Nc _;rw [ek];let vM:i<Q.length:=ce
  show(_,O,_,O,_,_,O,O,B,ns,_,O,A.seq hS,ce,ce,?_);let cb:=ago hb (14+(i:Int));generalize cell ns (14+(i:Int))=c at cb ⊢;let i1:=a9 (c:=c) (p:=1009) (m:=97) cr;let i2:=a9 (c:=c) (p:=2003) (m:=97) cr;let f1:=iC (x:=c) (m:=2*1000000000+1) cr;show(_,O,_,O,_,_,O,O,#[by decide+kernel,by decide+kernel],_,_,O,O,_,_,O,O,nz cr,_,O,_,_,O,O,_,O,_,_,_,O,cr,cr,cr,_,_,O,O,_,_,O,ce,λp1 H3 s3 e3=>?_);rw [gd ce] at e3;let z3:=S0 (t:=c.fmod (2*1000000000+1)-1000000000) (b:=1+field c 1009 97) ce ce ce;generalize ((c.fmod (2*1000000000+1)-1000000000:Int):Rat) / ((1+field c 1009 97:Int):Rat)=x at e3 z3;dsimp only [cE];show cu (λG R=>∃z:Int,G =[some (.ref B),some (.ref J),some (.ref d),some (.int 1000000000),some (.int (i:Int)),some (.int c),some (.ref p1),some (.int z),j]/\aq H3 R) (λNx f=>?_) ?_
  ·show(_,O,_,_,O,O,#[EE cb cr,by decide+kernel],_,O,_,O,_,_,O,O,#[by decide+kernel,by decide+kernel],_,_,O,O,_,_,O,O,#[cr,by decide+kernel],L2,?_)
   intros t4 n4 H4 L e4
   let done:∀k:Bool,∃z:Int,hW [V.int (c*69621),.int (c.fdiv (2*1000000000+1))] (if k=true then 1 else 0)=some (.int z):=λk=>by
    cases k
    ·show#[_,O]
    ·show#[_,O]
   show(_,O,_,_,O,O,_,O,?_);show bq (λ_=>?_) (λ_=>?_)
   ·show(_,_,O,O,p18,_,_,O,O,_,O,.inr (_,O,?_))
    let(z,ez):=done (!decide (c<(10:Int)^(18:Int).toNat));show(t4,_,_,_,O,O,aT.of e4,ez,f _ _ (z,O,L))
   ·show(_,O,.inr (_,O,?_))
    let(z,ez):=done (!false);show(t4,_,_,_,O,O,aT.of e4,ez,f _ _ (z,O,L))
  rintro G H4 ⟨z,rfl,L⟩;let f2:=iC (x:=z) (m:=2*1000000000+1) cr;show(_,O,_,O,_,_,O,O,#[by decide+kernel,by decide+kernel],_,_,O,O,_,_,O,O,nz cr,_,O,_,_,O,O,_,O,_,_,_,O,cr,cr,cr,_,_,O,O,_,_,O,ce,λp5 H5 s5 e5=>?_);rw [gd ce] at e5;let z5:=S0 (t:=z.fmod (2*1000000000+1)-1000000000) (b:=1+field c 2003 97) ce ce ce;generalize ((z.fmod (2*1000000000+1)-1000000000:Int):Rat) / ((1+field c 2003 97:Int):Rat)=y at e5 z5;let E:=s3.trans (L.trans s5);let p_:=A.trans E;let(p,ep,DZ):=aw pp (gE vM);let mp:p∈u:=Wp ep;show(_,O,_,_,_,O,cr,cr,cr,_,_,O,O,_,O,?_);show bq (λ_=>?_) (λ_=>?_)
  ·show(_,O,_,O,L2,?_)
   intros va n6 H6 N e6;let qa:=p_.trans N;let(ta,l,sv,ws,eu,h1,_):=DZ.lO qa;let ai:hW Q (i:Int)=some (.ref ta):=bH (by rw [gE vM,eu]);let S:=N _ _ (E _ _ a);show(_,O,_,O,_,O,J,_,_,_,O,O,aT.of (qa _ _ hp),ai,ta,_,_,_,O,O,h1,bJ,d,_,O,js.k (k:=.inr p.nm) S (IG (show Z.length<=1000 by omega) cr),?_)
   let t7:bg H6 (upd H6 d (.dK (putK Z (.inr p.nm) (.ref va)))):=λb zs r=>by
    rcases r with r|⟨o',r⟩
    ·show .inl (by rw [aj (λe=>by erw [e,S] at r)];show r)
    ·show .inr #[o',by rw [aj (λe=>by erw [e,S] at r)];show r]
   let hv:fL K H6 (.ref va) (x,y):=rK e6 ((iT e3).lO (L.trans (s5.trans N))) ((iT e5).lO N);show(_,_,_,_,_,_,_,O,λb o' z=>?_,ak,xC.put (F:=M) (λU=>?_) (hv.aQ t7),λU=>?_,xx (λk:Key=>∃x∈u.map (·.nm),k=IL x) g (p.nm,DA.mpr (p,mp,O),O),vi X,EE (gT _ _ _) ce)
   ·rw [aj (ao z n1)]
    show qa _ _ z
   ·rcases (o.lO (E.trans N)) U with h|⟨v,q',a1,a2,a3⟩
    ·show .inl h
    ·show .inr (v,q',a1,a2,a3.aQ t7)
   ·change Sz 1200 ((if U=p.nm then some (x,y) else M U).getD (0,0)).1/\Sz 1200 ((if U=p.nm then some (x,y) else M U).getD (0,0)).2
    by_cases cc:U=p.nm
    ·rw [ox cc]
     show#[z3.up cr,z5.up cr]
    ·rw [mQ cc]
     show C U
  ·show(_,_,_,_,_,Z,M,O,p_,E _ _ a,o.lO E,C,g,X,ce)
 ·rintro Y H2 ⟨o4,o5,o6,o7,j,Z,M,rfl,A,a,o,C,g,X,ll⟩
  show(_,O,q d Z M H2 A n1 (a,o,X,g,C,ce) ce)
inductive MY (K:Frag)(H:Hp)(pX:ι)(gV:τ)(Q:Β)(L:η)(p:BK):Prop
|mk (dT Z Y:BK)(S X R:γ)(T:Λ)(U:ω)(M:υ)(_:H p=some (.tup [.str "bent",.ref dT,.ref Z,.ref Y]))(_:T3 K H pX gV dT Z S X T U 7930000)(_:SU K H pX Y R M 1982000)(_:(∀p∈pX,∀w∈p.ws,dt w (M p.nm)=0))(_:(∀b∈gV,T b.nm=gR Q b.nm*ie M b))(_:ig pX gV T U L)
inductive aa4 (K:Frag)(H:Hp)(pX:ι)(gV:τ)(L:η)(Y p:BK):Prop
|mk (Z:BK)(X:γ)(M:υ)(_:H p=some (.tup [.str "moves",.ref Z]))(_:SU K H pX Z X M 2045000)(_:uS pX gV M)(_:mK pX L M=1)(_:Z≠Y)
structure T4 (K:Frag)(H:Hp)(d:BK)(kG:γ)(Go:Β):Prop where
 hd:H d=some (.dK kG)
 nm:IC K H kG (λx=>(Go x).map qr)
 ps:∀x,0<gR Go x/\Sz 31 (gR Go x)
theorem T4.lO (h:T4 K H d kG Go)(s:aq H H'):T4 K H' d kG Go:=(s _ _ h.hd,h.nm.lO s,h.ps)
inductive zB (K:Frag)(vs:ε)(H:Hp)(Q:VK)(R:XK):Prop
|mk (Z U X p Y:BK)(us ws:ε)(S kL:γ)(pX:ι)(gV:τ)(T:Β)(L:η)(_:vs=[.ref Z,.ref U,.ref X,.ref p,.ref Y])(_:SQ K H Z U us ws pX gV)(_:T4 K H X S T)(_:xO K H Y kL pX L)(_:MY K H pX gV T L p)(_:∀H',aq H H' ->Q (.bl true) H')
def lJ:ay ["_law_pins_here","_law_bars_here","_law_grips_here","_law_told","_law_load_here","_law_bar","_law_grip"] V3 (ae gD):=sq
def aco (D:Def K mg "_law_bent" gD V3)(aV:mg "len"=none)(bf:mg "isinstance"=none)(fC:mg "tuple"=none)(am7:ac P w K mg lM 35 "_law_are_forces" QR (JU K))(aa5:ac P w K mg lM 35 "_law_is_motion" Rt (MS K))(am8:ac P w K mg lM 4 "_law_at_rest" BY (vh K))(aa6:ac P w K mg lM 3 "_law_keeps" Rt (tj K))(nN:ac P w K mg lM 1 "_law_same" N4 (tq K))(JQ:ac P w K mg lM 1 "_law_times" N4 (cx K nE))(aa7:ac P w K mg lM 3 "_law_longer" oV (pI K)):
  ac P w K mg lM 36 "_law_bent" V3 (zB K):=by
 show D.op lJ λf cH A mO s H vs Q E S h=>?_;let(J,bA,gA,p,lA,G,ws,kG,kL,y,gV,Go,L,rfl,Z,gr,ld,(dT,dU,dM,kT,kU,kM,T,U,M,ep,pl,mo,hw,hT,rest),q):=h;let L2:2<=DC:=cr
 let lp:=Z.lp;let R:=bL.of (K:=K) ep
 show(_,(aa (bw (PW.pt (gj (cL (bZ (aJ fG rfl bf b9 (aH (pv 3) (kY rfl fC oF))))) (gj (bE iu (aJ aG rfl aV bV (aZ (pv 3))) ag) (gy (bE iu (aF (pv 3)) dB))))) (ah (aE cZ)) aR) (aa (bw (PW.pt (gj (cL (bZ (aL am7 S (iL (pv 0) (bu (pv 1) (aF (pv 3)) (aF (pv 3))))))) (gy (cL (bZ (aL aa5 S (aH (pv 0) (aF (pv 3))))))))) (ah (aE cZ)) aR) (aa (bw (PW.pt (gj (cL (bZ (aL am8 S (iL (pv 0) (iL (pv 1) (bu (aF (pv 3)) (aF (pv 3)) (pv 4))))))) (gy (cL (bZ (aL aa6 S (aH (pv 0) (aF (pv 3))))))))) (ah (aE cZ)) aR) (aa (bh HG rfl (bo (pv 1)) (bI 5 lJ.nd) (aa (aI 6 lJ.nd (jt (bP S) (pv 2) (aF (pv 5)) (aS (aH ag ag)) (O,O,O,O))) (ah (bw (cL (bZ (aL nN S (aH (cO (bP S) (aF (pv 3)) (aF (pv 5)) (λ_ _=>O)) (aL JQ S (aH (pv 6) (aL aa7 S (bu (pv 0) (pv 5) (aF (pv 3)))))))))) (ah (aE cZ)) aR)))) (ah (aE cZ)))))),?_);sleep 4
 show(_,O,_,_,_,true,O,O,.tup ep,SV,_,O,bq (λc=>nomatch c) (λ_=>?_));show(_,O,p,_,O,.inr R,O,_,O,tS rfl ?_);show(_,O,p,_,_,_,O,O,R,bJ,O,_,O,tS rfl ?_);show(_,O,_,O,_,O,p,_,_,_,O,O,R,O,_,O,p,_,_,_,O,O,R,O,J,bA,dT,dU,G,ws,y,gV,kT,kU,T,U,_,O,Z,pl,λH1 s1=>?_);show(_,O,bq (λc=>nomatch c) (λ_=>?_));let g:=Z.lO s1;show(_,O,_,O,p,_,_,_,O,O,Ty.aq.bS s1 R,O,J,dM,G,y,kM,M,_,O,g.hp,g.pp,Z.gp,ce,mo.lO s1,λH2 s2=>?_);show(_,O,bq (λc=>nomatch c) (λ_=>?_));let m:=s1.trans s2;let B:=Ty.aq.bS m R;let N:=ld.lO m;show(_,O,_,O,_,O,p,_,_,_,O,O,B,O,_,O,p,_,_,_,O,O,B,O,_,O,J,bA,dT,dU,lA,G,ws,y,gV,kT,kU,kL,T,U,_,L,O,Z.lO m,pl.lO m,cr,N.hd,N.pt,N.sz,rest,λH3 s3=>?_);show(_,O,bq (λc=>nomatch c) (λ_=>?_));let BJ:=m.trans s3;let U6:=Z.lO BJ;show(_,O,_,O,p,_,_,_,O,O,Ty.aq.bS BJ R,O,J,dM,G,y,kM,M,_,O,U6.hp,U6.pp,Z.gp,mo.lO BJ,hw,λH4 s4=>?_);show(_,O,bq (λc=>nomatch c) (λ_=>?_));let qc:=BJ.trans s4
 show(_,O,bA,O,#[_,aT.of (qc _ _ Z.hb)],let I:bn:=λi Y H'=>Mg λ(o5 o6:χ)=>Y=[ap J,ap bA,ap gA,ap p,ap lA,o5,o6]/\aq H H';bT (K:=K) (a:=bA) (xs:=ws) I (none,none,O,qc) (λi Y H' _ h=>by
   let(_,_,_,s):=h
   show aT.of (s _ _ Z.hb)) ?_ ?_)
 ·rintro i u Y H5 hu ⟨o5,o6,rfl,z⟩
  let(b,eb,D_):=aw Z.pb hu;let mb:b∈gV:=Wp eb;let(ta,j1,j2,rfl,h1,_):=id D_;show(_,O,gA,O,.inl #[_,.inl (z _ _ gr.hd)],_,O,ta,_,_,_,O,O,Ty.aq.bS z h1,bJ,L2,?_);intros o n6 H6 s6 e6;let X:=z.trans s6
  let gk:dq K H6 ((bC kG (.inr b.nm)).getD (.ref o)) (gR Go b.nm):=by
   have:kH K H6 ((bC kG (.inr b.nm)).getD (.ref o)) (qr (gR Go b.nm)):=by
    rw [<-sZ];show(gr.nm.lO X).ID (x:=b.nm) (v:=.ref o) (q:=(1,1)) (o,O,bL.of e6)
   show this
  show(_,cX.k (k:=.inr b.nm) (X _ _ gr.hd),?_);generalize (bC kG (.inr b.nm)).getD (.ref o)=gv at gk ⊢;let(tv,dg,nv):=(pl.lO X).afW mb;let C:=Ty.aq.bS X R;let j:=Z.lO X;show(_,O,p,_,_,_,O,O,C,O,_,O,ta,_,_,_,O,O,Ty.aq.bS X h1,bJ,dT,tv,O,dg,_,O,_,O,_,O,_,O,p,_,_,_,O,O,C,O,J,dM,G,y,_,b,kM,M,_,O,j.hp,j.pp,Z.gp,D_.lO X,mo.lO X,λv7 H7 s7 n7=>?_);change cx K nE [_,_] _ _ E0;show o_ ((dI gk (gZ (gr.ps b.nm).2 (DH _))).lO s7) n7 cr λp8 H8 s8 n8=>?_;rw [<-hT b mb] at n8;show(tv,_,_,_,_,O,((dI nv (pl.zT b mb)).lO s7).lO s8,n8,cr,_,O,bq (λc=>nomatch c) (λ_=>?_));show(_,_,O,X.trans (s7.trans s8))
 ·rintro Y H5 ⟨o5,o6,rfl,z⟩
  show q H5 z
inductive tw (K:Frag)(vs:ε)(H:Hp)(Q:VK)(R:XK):Prop
|mk (Y U X p Z:BK)(us ws:ε)(S kL:γ)(pX:ι)(gV:τ)(T:Β)(L:η)(_:vs=[.ref Y,.ref U,.ref X,.ref p,.ref Z])(_:SQ K H Y U us ws pX gV)(_:T4 K H X S T)(_:xO K H Z kL pX L)(_:kL.length<=9)(_:(MY K H pX gV T L p\/aa4 K H pX gV L Z p))(_:∀H',aq H H' ->Q (.bl true) H')
def Yz:ay ["_law_pins_here","_law_bars_here","_law_grips_here","_law_told","_law_load_here","_law_bar"] V3 (ae OS):=sq
def af8 (D:Def K mg "_law_right" OS V3)(aV:mg "len"=none)(bf:mg "isinstance"=none)(fC:mg "tuple"=none)(JX:ac P w K mg lM 36 "_law_bent" V3 (zB K))(aa5:ac P w K mg lM 35 "_law_is_motion" Rt (MS K))(aa6:ac P w K mg lM 3 "_law_keeps" Rt (tj K))(nN:ac P w K mg lM 1 "_law_same" N4 (tq K))(am':ac P w K mg lM 3 "_law_work" CW (JV K))(aa7:ac P w K mg lM 3 "_law_longer" oV (pI K)):
  ac P w K mg lM 37 "_law_right" V3 (tw K):=by
 show D.op Yz λf cH A mO s H vs Q E R h=>?_;let(C,g,gA,p,lA,o,ws,kG,kL,G,gV,Go,L,rfl,Z,gr,ld,lk,J,q):=h;let L2:2<=DC:=cr
 let lp:=Z.lp
 show(_,(aa (bw (PW.pt (tI (bZ (aJ fG rfl bf b9 (aH (pv 3) (kY rfl fC oF)))) (nY (bE gm (aJ aG rfl aV bV (aZ (pv 3))) ag)))) (ah (aE (aL JX R (iL (pv 0) (iL (pv 1) (bu (pv 2) (pv 3) (pv 4))))))) aR) (aa (bw (PW.pt (gj (cL (bZ (aJ fG rfl bf b9 (aH (pv 3) (kY rfl fC oF))))) (gj (bE iu (aJ aG rfl aV bV (aZ (pv 3))) ag) (gj (bE iu (aF (pv 3)) dB) (gy (cL (bZ (aL aa5 R (aH (pv 0) (aF (pv 3))))))))))) (ah (aE cZ)) aR) (aa (bh HG rfl (bo (pv 1)) (bI 5 Yz.nd) (ah (bw (bE iu (aF (aL aa7 R (bu (pv 0) (pv 5) (aF (pv 3))))) ag) (ah (aE cZ)) aR))) (ah (aE (GU (aL aa6 R (aH (pv 0) (aF (pv 3)))) (xY (aL nN R (aH (aL am' R (aH (pv 4) (aF (pv 3)))) (aS (aH ag ag))))))))))),?_);sleep 3
 rcases J with bt|⟨y,B,M,N,j,mv,wk,ne⟩
 ·let(dT,dU,y,kT,kU,B,T,U,M,N,_):=id bt
  show(_,O,_,_,_,true,O,O,.tup N,SV,_,O,bq (λ_=>?_) (λc=>DQ rfl c));show(_,O,p,_,O,.inr (bL.of N),O,_,O,bq (λ_=>?_) (λc=>DQ rfl c));show(_,O,_,O,_,O,_,O,_,O,C,g,gA,p,lA,o,ws,kG,kL,G,gV,Go,L,O,Z,gr,ld,bt,q)
 ·let S:=bL.of (K:=K) N
  show(_,O,_,_,_,true,O,O,.tup N,SV,_,O,bq (λ_=>?_) (λc=>DQ rfl c));show(_,O,p,_,O,.inr S,O,_,O,bq (λc=>by simp at c) (λ_=>?_));show(_,O,_,_,_,true,O,O,.tup N,SV,_,O,bq (λc=>nomatch c) (λ_=>?_));show(_,O,p,_,O,.inr S,O,_,O,tS rfl ?_);show(_,O,p,_,_,_,O,O,S,bJ,O,_,O,tS rfl ?_);show(_,O,_,O,p,_,_,_,O,O,S,O,C,y,o,G,B,M,_,O,Z.hp,Z.pp,Z.gp,ce,j,λH2 s2=>?_);show(_,O,bq (λc=>nomatch c) (λ_=>?_))
  show(_,O,g,O,#[_,aT.of (s2 _ _ Z.hb)],let I:bn:=λi Y H'=>∃(o5:χ),Y=[ap C,ap g,ap gA,ap p,ap lA,o5]/\aq H H';bT (K:=K) (a:=g) (xs:=ws) I (none,O,s2) (λi Y H' _ h=>by
    let(_,_,s):=h
    show aT.of (s _ _ Z.hb)) ?_ ?_)
  ·rintro i u Y H5 hu ⟨o5,rfl,X⟩
   let(b,eb,D_):=aw Z.pb hu;let mb:b∈gV:=Wp eb;let x:=Z.lO X;show(_,O,_,O,_,O,p,_,_,_,O,O,Ty.aq.bS X S,O,C,y,o,G,u,b,B,M,_,O,x.hp,x.pp,Z.gp,D_.lO X,j.lO X,λv H7 s7 k=>?_);let(z,(pz,rfl,k1),k2,k3,_):=k;rw [mv.gV b mb] at k3;let e0:z.1=0:=(y8 k2).mpr k3;rw [e0] at k1;show(pz,_,_,_,O,O,k1,i6,O,_,O,bq (λh=>by simp at h) (λ_=>?_));show(_,O,X.trans s7)
  ·rintro Y H5 ⟨o5,rfl,X⟩
   let x:=Z.lO X;show(_,O,_,O,p,_,_,_,O,O,Ty.aq.bS X S,O,C,y,o,G,B,M,_,O,x.hp,x.pp,Z.gp,j.lO X,mv.V6,λH6 s6=>(true,O,Zt ?_));let m:=X.trans s6;show(_,O,_,O,p,_,_,_,O,O,Ty.aq.bS m S,O,lA,y,kL,B,G,L,M,_,O,ld.lO m,Z.gp.np,j.lO m,ne,lk,cr,λv7 H7 s7 k=>#[L2,?_]);intros t8 n8 H8 s8 e8;rw [wk] at k;show(_,_,_,_,_,O,k.lO s8,(((1,1),(t8,O,bL.of e8),cr,(show vl ((1,1):Int×Int)=1 by decide+kernel),cr,cr):jf K H8 (.ref t8) 1 1),cr,q _ (m.trans (s7.trans s8)))
inductive pK (K:Frag)(vs:ε)(H:Hp)(Q:VK)(R:XK):Prop
|mk (Z Y X:BK)(S:ξ)(us ws:ε)(pX:ι)(gV:τ)(_:vs=[.ref Z,.ref Y,.ref X])(_:aT K H Z (S.map V.int))(_:SQ K H Y X us ws pX gV)(_:d_ pX gV)(_:(gV.map (·.nm)).Nodup)(_:∀(d:BK)(AP:γ)(L:η)(T:Λ)(U:ω)(H':Hp),aq H H' ->H d=none->xO K H' d AP pX L->AP.length<=9->ig pX gV T U L->Q (.ref d) H')
def af9:ay σ5 σ5 (ae OT):=sq
def af' (D:Def K mg "_law_borne" OT σ5)(EJ:ac P w K mg lM 34 "_law_pulls" BS (vm K))(zC:ac P w K mg lM 2 "_law_pushes" BM (qQ K))(wm:ac P w K mg lM 34 "_law_load_by" QR (zv K)):
  ac P w K mg lM 35 "_law_borne" σ5 (pK K):=by
 show D.oo af9 λH Q h=>?_;let(y,x,bA,o,B,C,R,N,rfl,hS,Z,g,nb,q):=h;let lp:=Z.lp;show(_,(ah (aE (aL wm Q (iL (pv 1) (bu (pv 2) (aL EJ Q (bu (pv 0) (pv 2) ag)) (aL zC Q (bu (pv 0) (pv 1) ag))))))),_,O,_,O,_,O,_,O,y,bA,20,o,C,R,N,O,hS,Z.hb,Z.pb,Z.lb,nb,cr,cr,λdA k T H5 S nD di E=>?_);let I:=Z.lO S;show(_,O,_,O,y,x,40,o,B,R,O,S.seq hS,I.hp,I.pp,Z.gp,ce,cr,cr,λA m U H6 Y nU du lU G=>?_);let M:=I.lO Y;let X:=di.lO (λ_ _ z=>z.lO Y) Y
 let fo:LFo K H6 dA A k m R N T U 11:=(X.hd,λb f=>by
  let(v,a,c):=X.tv b f;show(v,a,dI c (gZ (E b f) (DH _))),du.hd,λp j=>by
  let(v,a,la,ys,rfl,b,c):=du.tv p j
  show(la,ys,a,b,l_ (GX c) λi u e=>by
   let(r,er,h):=aw c e
   show(r,er,dI h (gZ (G p j r (Wp er)) (DH _)))),lU,cr)
 show(x,bA,dA,A,B,C,k,m,R,N,T,U,11,O,M,fo,g,E,G,λlA kL L H7 s7 nL ld ll _ J=>q lA kL L T U H7 (S.trans (Y.trans s7)) ((S.trans Y).free nL) ld ll J)
def T5 (pX:ι)(i:Nat)(b:a_):Bool:=decide ((pX[i]?).map (·.nm)=some b.one.nm) || decide ((pX[i]?).map (·.nm)=some b.mP.nm)
def JY (pX:ι)(gV:τ)(i:Nat):Bool:= !(gV.any (T5 pX i))
def YA {pX:ι}(Z:(pX.map (·.nm)).Nodup){i j:Nat}(e:pX[j]?=some p):(pX[i]?).map (·.nm)=some p.nm ↔ i=j:=by
 constructor
 ·intro h
  let X:(pX.map (·.nm))[i]?=some p.nm:=by rwa [CP]
  let Y:(pX.map (·.nm))[j]?=some p.nm:=by rw [CP,e];rfl
  show eV Z X Y
 ·rintro rfl
  rw [e];rfl
theorem qR {Z:Type}(g:aC->Str×Z)(X:∀p,(g p).1=p.nm):∀{pX:ι} {k:Nat} {p:aC},(pX.map (·.nm)).Nodup->pX[k]?=some p->(pX.map g).filter (λb=>decide (b.1≠p.nm))=(pX.eraseIdx k).map g
 | q::ps,0,p,Y,e=>by
  cases e;rw [ED,Nk] at Y;rw [ED,ajJ (by rw [X];simp),List.eraseIdx_cons_zero,List.filter_eq_self];intro b R;let(r,S,rfl):=DA.mp R;rw [X];show NI (λz=>Y.1 (by rw [<-z];show DA.mpr (r,S,O)))
 | q::ps,k+1,p,Y,e=>by
  rw [ED,Nk] at Y;let U:ps[k]?=some p:=by simpa using e
  let T:q.nm≠p.nm:=λz=>Y.1 (by rw [z];show DA.mpr (p,Wp U,O));rw [ED,ajI (by rw [X];show NI T),ajL,ED,qR g X Y.2 U]
def vo {pX:ι}(h:i≠k):(pX.eraseIdx k)[if k<i then i-1 else i]?=pX[i]? :=by
 rw [yi];by_cases c:k<i
 ·rw [ox c,mQ ce,show i-1+1=i by omega]
 ·rw [mQ c,ox ce]
def gx.erase (g:gx pX)(k:Nat):gx (pX.eraseIdx k):=by
 let sub:List.Sublist (pX.eraseIdx k) pX:=aj2 _ _;show(g.np.sublist (sub.map _),g.ns.sublist (sub.map _),λp Z=>g.sz p (sub.subset Z),λp Z=>g.ws p (sub.subset Z))
def ana :gS [x,y,z] (some 1) none=[y,z]:=rfl
def acv (h:X.K=K)(Z:X.calm=true):gP X (.builtin "any") (ZS K):=by subst h;show xu Z
inductive S1 (K:Frag)(C:BK)(vs:ε)(H:Hp)(Q:VK)(J:XK):Prop
|mk (R N T U S Z Y:BK)(us L :ε)(pX:ι)(gV:τ)(c:Int)(_:vs=[.ref R,.ref Z,.ref Y,.int c])(_:WS K H C R N T U S Z Y us L pX gV)(_:(∃k,k<pX.length/\JY pX gV k=true))(_:∀(k:Nat)(p:aC)(y:V)(M X:ε)(H':Hp),pX[k]?=some p->KO T U S Z Y H H' ->WS K H' C R N T U S Z Y M X (pX.eraseIdx k) gV->pD K H' Z Y y p->Q y H')
def cC:ay ["_law_frame_here","_law_pins_here","_law_bars_here","_law_cell","_law_free","_law_at","_law_gone","_law_k","_law_name_here","_law_one","_law_other"] BX (ae eJ):=sq
def aio (D:Def K mg "_law_pin_out" eJ BX)(aV:mg "len"=none)(ba:mg "range"=none)(xJ:mg "any"=none)(mM:mg "int"=none)(cS:ac P w K mg lM 1 "_law_field" Pb eQ)
  (MTk:am P w K mg lM 2 C "take_pin" ["self","name"] (jU K C)):
  ac P w K mg lM 3 "_law_pin_out" BX (S1 K C):=by
 show D.oo cC λH hr h=>?_;let(fA,dx,pP,pW,pB,U,Z,T,L,X,M,c,rfl,st,(k0,hk0,lo0),q):=h;let L3:3<=DC:=cr
 let lu:T.length=X.length:=GX st.pp;let lv:L.length=M.length:=GX st.pb;let lp8:=st.lp;let lb8:=st.lb;let(kP,kW,kB,R,W,nW):=st.fr
 show(_,(aa (acq (i:=4) cC.nd rfl (Pe rfl) (yc:="_law_k") (tn:=["_law_k"]) (fr:=["_law_bars_here"]) (pO:=[2]) rfl (O,O,by decide+kernel,by decide+kernel,O,#[(by first|show Pe rfl|show Rw rfl),trivial],#[(by first|show Pe rfl|show Rw rfl),trivial],λ_ _=>O,λ_=>O,by decide+kernel,by decide+kernel) (bK rfl ba (aZ (aJ aG rfl aV bV (aZ (pv 1))))) (λ_ _ _ _=>(f9 (i:=0) (show(["_law_k","_law_bars_here"]:List Str).Nodup from by decide+kernel) rfl (Rw rfl))) (λ_ _ _ _=>(HR (cL (bZ (aJ (acv (K:=K) rfl rfl) rfl xJ Ya (aZ (dX (tn:=["_law_bar"]) (fr:=["_law_k"]) (pO:=[0]) (acs (K:=K) rfl (pv 1)) (iz (abd (K:=K) rfl) (pv 1) (cJ (ah6 (K:=K) rfl) (pv 0) (c_ ag) dS) rfl)))))))) (λ_ _ _ _=>(pv 0)))
  (aa (aI 5 cC.nd (bB aU (pv 4) (aL cS hr (bu (pv 3) ag (aJ aG rfl aV bV (aZ (pv 4))))))) (aa (aI 6 cC.nd (kg Qo PySem.F.slot_list_pop PySem.F.type_list_pop acO (pv 1) (aZ (pv 5)))) (aa (bD (fe (k:=2) (pv 0) hr.mo (GK P w) (aZ (aF (pv 6))))) (aa (bh HG rfl (bK rfl ba (aZ (aJ aG rfl aV bV (aZ (pv 2))))) (bI 7 cC.nd) (aa (qe (bB aU (pv 2) (pv 7)) (eY rfl (aY (bI 8 cC.nd) (aY (bI 9 cC.nd) (aY (bI 10 cC.nd) cM))))) (ah (qe (aS (bu (pv 8) (aD cB (pv 9) (cv qg rfl mM LJ (aZ (iz q_ (pv 9) (pv 5) (jI _))))) (aD cB (pv 10) (cv qg rfl mM LJ (aZ (iz q_ (pv 10) (pv 5) (jI _))))))) (xZ (pv 2) (pv 7) set_list))))) (ah (aE (pv 6)))))))),?_);sleep 4
 show(_,O,U,_,O,.inl (aT.of st.hp),((T.length:Nat):Int),O,ce,ce,λlF nF=>?_);show rE (n:=T.length) (pS:=[some (.ref Z)]) (JY X M) nF (IG (show T.length<=1000 by omega) cr) (λi J RR hi s1 kk=>?_) (λi J RR r=>(_,O,r)) λJ s1 eF=>?_
 ·let α':=s1 _ _ st.hb
  show(_,O,Z,O,#[_,aT.of α'],λD2 n2=>?_);show dE (pS:=[some (.int (i:Int))]) (K:=K) (a:=Z) (xs:=L) (λj v _=>∀b,M[j]?=some b->v=.bl (T5 X i b)) n2 (IG (show L.length<=1000 by omega) cr) (λH2 s2=>aT.of (s2 _ _ α')) (λ_ _ _ _ _ _ _ h=>h) ?_ ?_
  ·intro j u H2 R2 hu s2 k2
   let(b,eb,a,i1,j1,rfl,h1,g1,g2):=aw st.pb hu;let h2:=Ty.aq.bS (s1.trans s2) h1;show(_,O,_,O,1,O,a,_,O,h2,(by change ¬ (HT.fZ 3 0 (some 1)=0/\HT.fZ 3 3 none=3);decide),?_);rw [ana];intros p3 n3 H3 s3 e3;show(p3,_,O,.inr (bL.of e3),O,O,k2 _ _ s3 λb' GN =>?_);erw [eb] at GN;congr 1;let a1:=YA st.gp.np (i:=i) g1;let a2:=YA st.gp.np (i:=i) g2;change TQ (.int (i:Int)) [.int (i1:Int),.int (j1:Int)]=T5 X i b;unfold T5 TQ;simp only [Wi,List.any_nil,rY,aj_]
   let d1:((i1:Int)==(i:Int))=decide ((X[i]?).map (·.nm)=some b.one.nm):=by
    rw [Vr,decide_eq_true_iff,a1,beq_iff_eq];omega
   let d2:((j1:Int)==(i:Int))=decide ((X[i]?).map (·.nm)=some b.mP.nm):=by
    rw [Vr,decide_eq_true_iff,a2,beq_iff_eq];omega
   rw [d1,d2]
  ·intro zs H2 lz hz s2 hD
   let ez:zs=(M.map (T5 X i)).map V.bl:=by
    show QZ λj=>?_;by_cases cj:j<zs.length
    ·obtain ⟨b,eb⟩:∃b,M[j]?=some b:=#[_,gE ce]
     let A:zs[j]?=some zs[j]:=gE cj;rw [A,hz j _ A b eb,CP,CP,eb];rfl
    ·rw [IM ce,IM (by rw [be,be];omega)]
   rw [ez] at hD;show(D2,_,O,aT.of hD,_,O,?_);have:=kk _ s2;unfold JY at this;rw [List.any_map];show this
 let T1:=st.lO s1;let R1:=R.lO s1;let W1:=W.lO s1;generalize ef:(JJ T.length).filter (JY X M)=fs at eF
 let nfs:fs≠[]:=λz=>by
  have:k0∈(JJ T.length).filter (JY X M):=σ'.mpr #[QX.mpr ce,lo0];erw [ef,z] at this
 let s2:aq J J:=aq.refl _;let eF2:=eF;let Q:=T1;let R2:=R1;let W2:=W1
 let lf:0<fs.length:=by
  cases fs with
  | nil=>show DQ rfl nfs
  | cons a l=>show Nat.succ_pos _
 show(_,O,_,O,_,O,lF,_,O,.inl (aT.of eF2),_,_,_,O,cr,cr,(by rw [be];omega),?_);let fi:=a9 (c:=c) (p:=7001) (m:=(((fs.map λi:Nat=>V.int (i:Int)).length:Nat):Int)) (by rw [be];omega);generalize field c 7001 (((fs.map λi:Nat=>V.int (i:Int)).length:Nat):Int)=fv at fi ⊢;rw [be] at fi;obtain ⟨fn,rfl⟩:∃n:Nat,fv=(n:Int):=#[fv.toNat,ce];let hfn:fn<fs.length:=ce
 obtain ⟨k,ek⟩:∃k,fs[fn]?=some k:=#[_,gE hfn];let mk:=Wp ek;rw [<-ef] at mk;let(mk1,mk2):=σ'.mp mk;let hk:k<T.length:=QX.mp mk1;let af:hW (fs.map λi:Nat=>V.int (i:Int)) (fn:Int)=some (.int (k:Int)):=bH (by rw [CP,ek];rfl);show(lF,_,_,_,O,O,aT.of eF2,af,?_);obtain ⟨p,ep⟩:∃p,X[k]?=some p:=#[_,gE ce];let mp:=Wp ep;let(y,ey,hy):=aw (df Q.pp) ep;let hy:pD K J U Z y p:=hy
 let E:∀b∈M,p.nm≠b.one.nm/\p.nm≠b.mP.nm:=λb hb=>by
  let h1:T5 X k b=false:=by
   cases hc:T5 X k b with
   | false=>rfl
   | true=>
    have:(M.any (T5 X k))=true:=Wq.mpr (b,hb,hc);unfold JY at mk2;erw [this] at mk2
  unfold T5 at h1;rw [Bool.or_eq_false_iff] at h1;let A:(X[k]?).map (·.nm)=some p.nm:=by rw [ep];rfl
  show#[λz=>?_,λz=>?_]
  ·show DQ (by rw [A,z]) (of_decide_eq_false h1.1)
  ·show DQ (by rw [A,z]) (of_decide_eq_false h1.2)
 show(_,O,.inl (O,_,aT.of Q.hp),_,O,U,T,(k:Int),k,y,O,O,Q.hp,ce,ce,afe hk,ey,?_);let k3:KO pP pW pB U Z J (upd J U (.lst (T.eraseIdx k))):=λb o _ _ _ n4 _ e=>by rwa [aj n4]
 let e3:(upd J U (.lst (T.eraseIdx k))) U=some (.lst (T.eraseIdx k)):=ak;let nP:pP≠U:=λz=>by have h:=R2.pl;erw [z,Q.hp] at h
 let nWl:pW≠U:=λz=>by have h:=R2.wy;erw [z,Q.hp] at h
 let nB:pB≠U:=λz=>by have h:=R2.br;erw [z,Q.hp] at h
 let nP':pP≠Z:=λz=>by have h:=R2.pl;erw [z,Q.hb] at h
 let nW':pW≠Z:=λz=>by have h:=R2.wy;erw [z,Q.hb] at h
 let nB':pB≠Z:=λz=>by have h:=R2.br;erw [z,Q.hb] at h
 let ot:∀b o,b≠U->J b=some o->(upd J U (.lst (T.eraseIdx k))) b=some o:=λb o n e=>by rwa [aj n]
 generalize upd J U (.lst (T.eraseIdx k))=H3 at k3 e3 ot ⊢;let t3:=Q.t k3;let R3:gw K H3 C fA dx pP pW pB (mpP X) (mpB M) kP kW kB:=R2.lj t3 ((k3.at (Q.away R2.obj (λ_ z=>nomatch z) λ_ z=>nomatch z) R2.obj).trans R2.obj.symm) ((ot _ _ nP R2.pl).trans R2.pl.symm) ((ot _ _ nWl R2.wy).trans R2.wy.symm) ((ot _ _ nB R2.br).trans R2.br.symm);let W3:=Q.wys k3 W2 nW;let hy3:=Q.Po k3 hy;let(ta,la,sv,ws,rfl,h1,h2,h3,h4,h5,h6):=id hy3;show(_,O,fA,C,dx,_,_,_,O,R3.obj,O,MTk,_,O,ta,_,_,_,O,O,h1,O,?_);dsimp only [gQ];show(fA,dx,pP,pW,pB,mpP X,mpB M,kP,kW,kB,mpW X,p.nm,O,R3,W3,by rw [EL,EL];rfl,by rw [EL];show DA.mpr (p,mp,O),λb hb=>?_,λg IW rA k4 B W4 sub=>?_)
 ·let(b',fM,rfl):=DA.mp hb
  show E b' fM
 rw [qR (λp=>(p.nm,vO p.sp)) (λ_=>O) st.gp.np ep] at B;rw [qR (λp=>(p.nm,p.ws)) (λ_=>O) st.gp.np ep] at W4;let k24:KO pP pW pB U Z J g:=λb o m1 m2 m3 m4 m5 e=>k4 b o m1 m2 (k3 b o m1 m2 m3 m4 m5 e);let Wr:g Z=some (.lst L):=k4 _ _ (G' nP') (G' nW') (ot _ _ (G' st.ne) Q.hb);let hp4:g U=some (.lst (T.eraseIdx k)):=k4 _ _ (G' nP) (G' nWl) e3;let t24:=Q.t k24
 let pe:∀{T:ε} {l:ι} {j:Nat},Paired (pD K g U Z) T l->Paired (pD K g U Z) (T.eraseIdx j) (l.eraseIdx j):=λ{T l j} h=>by
  induction h generalizing j with
  | nil=>show .nil
  | cons x t ih=>
   cases j with
   | zero=>show t
   | succ j=>show .cons x ih
 let LL:∀(N:Hp)(f:ε),(∀b o,b≠Z->g b=some o->N b=some o)->N Z=some (.lst f)->Paired (j7 K N (X.eraseIdx k)) f M->WS K N C fA dx pP pW pB U Z (T.eraseIdx k) f (X.eraseIdx k) M/\KO pP pW pB U Z H N:=λN f S Ws pb5=>by
  let k25:KO pP pW pB U Z J N:=λb o m1 m2 m3 m4 m5 e=>S b o m5 (k24 b o m1 m2 m3 m4 m5 e)
  let G:bg g N:=λb xs r=>by
   rcases r with r|⟨o',r⟩
   ·show .inl (S _ _ (λz=>by erw [z,Wr] at r) r)
   ·show .inr #[o',S _ _ (λz=>by erw [z,Wr] at r) r]
  let nw:∀kv∈rA,kv.2≠.ref U/\kv.2≠.ref Z:=λkv mH=>nW kv (sub kv mH);show#[((IW,rA,kB,B.lj G ((S _ _ (λz=>by have h:=B.obj;erw [z,Wr] at h) B.obj).trans B.obj.symm) ((S _ _ nP' B.pl).trans B.pl.symm) ((S _ _ nW' B.wy).trans B.wy.symm) ((S _ _ nB' B.br).trans B.br.symm),?_,nw),S _ _ st.ne hp4,Paired.b6 (pe (j:=k) (Paired.b6 Q.pp λ_ _ z=>Q.Po k24 z)) λ_ _ z=>?_,Ws,pb5,st.gp.erase k,#[st.gb.nb,λb hb=>?_],?_,st.lb,st.ne),(KO.of (s1.trans s2)).trans k25]
  ·show fO (GX W4) λi p' kv A e2=>?_
   let(uV,e3',z1,l,kI,z2,z3,z4):=aw W4 A;erw [e2] at e3';show(z1,l,kI,z2,S _ _ (λz=>(nw _ (Wp e2)).2 (by rw [z2,z])) z3,z4.aQ G)
  ·let(a',l',sv',ws',ev',c1,c2,c3,c4,c5,c6):=z
   show(a',l',sv',ws',ev',G.bS c1,c2.aQ G,S _ _ c6 c3,c4.aQ G,c5,c6)
  ·let(m1,m2,m3):=st.gb.ends b hb
   let(f1,f2):=E b hb
   let ins:∀r∈X,p.nm≠r.nm->r∈X.eraseIdx k:=λr hr ne=>by
    let(i,ei):=JG hr
    let ik:i≠k:=λz=>by
     erw [z,ep] at ei;show ne rfl
    show Wp ((vo ik).trans ei)
   show(ins _ m1 f1,ins _ m2 f2,m3)
  ·rw [Zm]
   split<;>omega
 show(_,O,Z,_,O,.inl (aT.of Wr),((L.length:Nat):Int),O,ce,ce,let I:bn:=λi Y H'=>Ex5 λ(o7 o8 o9 JH:χ) (xs:ε)=>Y=[ap fA,ap U,ap Z,some (.int c),ap lF,some (.int (k:Int)),ap ta,o7,o8,o9,JH]/\(∀b o,b≠Z->g b=some o->H' b=some o)/\H' Z=some (.lst xs)/\xs.length=L.length/\(∀(j:Nat)(u:V)(b:a_),j<i->xs[j]?=some u->M[j]?=some b->j7 K H' (X.eraseIdx k) u b)/\∀j,i<=j->xs[j]?=L[j]?;cf (lo:=0) (n:=((L.length:Nat):Int).toNat) I (none,none,none,none,L,O,λ_ _ _ e=>e,Wr,O,λj u b h=>DQ h (VJ _),λ_ _=>O) ?_ ?_)
 ·rintro i Y N hi ⟨o7,o8,o9,JH,xs,rfl,S,Ws,lx,don,rest⟩
  let ei:(0:Int)+(i:Int)=(i:Int):=Nc _;rw [ei];let vM:i<L.length:=ce
  obtain ⟨u,eu⟩:∃u,L[i]?=some u:=#[_,gE vM];let(b,eb,a,i1,j1,rfl,α',g1,g2):=aw Q.pb eu;let(f1,f2):=E b (Wp eb)
  let G:bg g N:=λb xs r=>by
   rcases r with r|⟨o',r⟩
   ·show .inl (S _ _ (λz=>by erw [z,Wr] at r) r)
   ·show .inr #[o',S _ _ (λz=>by erw [z,Wr] at r) r]
  let ha5:bL K N a [.str b.nm,.int (i1:Int),.int (j1:Int)]:=G.bS (t24.bS α');let ax:hW xs (i:Int)=some (.ref a):=bH (by rwa [rest i (DH _)]);let n1k:i1≠k:=λz=>by erw [z,ep] at g1;show f1 rfl
  let n2k:j1≠k:=λz=>by erw [z,ep] at g2;show f2 rfl
  show(_,O,_,O,Z,_,_,_,O,O,aT.of Ws,ax,a,_,O,ha5,O,_,_,O,_,_,O,_,_,O,O,_,O,_,O,_,O,_,O,_,_,O,O,.inr (_,O,_,_,O,O,?_));show(_,O,_,O,_,O,_,_,O,O,.inr (_,O,_,_,O,O,L3,?_));intros p7 n7 H8 s58 e78;let hb8:=s58 _ _ Ws;let ixn:HK xs.length (i:Int)=some i:=RV ce;show(_,O,_,O,Z,_,_,i,O,O,hb8,ixn,?_)
  let sh:∀m:Nat,((m:Int)-(if decide ((k:Int)<(m:Int))=true then 1 else 0))=(((if k<m then m-1 else m:Nat)):Int):=λm=>by
   by_cases cm:k<m
   ·rw [ox (NI ce),ox cm]
    omega
   ·rw [mQ (by simpa using cm),mQ cm]
    omega
  let k9:∀b o,b≠Z->N b=some o->(upd H8 Z (.lst (xs.set i (.ref p7)))) b=some o:=λb o n e=>by rw [aj n];show s58 _ _ e
  let np7:p7≠Z:=λz=>by erw [z,Ws] at n7
  let e79:(upd H8 Z (.lst (xs.set i (.ref p7)))) p7=some (.tup [.str b.nm,.int (((if k<i1 then i1-1 else i1:Nat)):Int),.int (((if k<j1 then j1-1 else j1:Nat)):Int)]):=by
   rw [aj np7,e78,<-sh i1,<-sh j1]
  let t9:bg N (upd H8 Z (.lst (xs.set i (.ref p7)))):=λb' ys r=>by
   rcases r with r|⟨o',r⟩
   ·show .inl (k9 _ _ (λz=>by erw [z,Ws] at r) r)
   ·show .inr #[o',k9 _ _ (λz=>by erw [z,Ws] at r) r]
  show(_,_,_,_,xs.set i (.ref p7),O,λb' o' n e=>k9 _ _ n (S _ _ n e),ak,by rwa [ajV],λj u' b' hj Yu GN =>?_,λj hj=>?_)
  ·by_cases cj:j=i
   ·subst cj
    erw [ag_ ce] at Yu;erw [eb] at GN;show(p7,_,_,O,bL.of e79,(vo n1k).trans g1,(vo n2k).trans g2)
   ·rw [QK (G' cj)] at Yu
    let(a',i',j',e',c1,c2,c3):=don j u' b' ce Yu GN;show(a',i',j',e',t9.bS c1,c2,c3)
  ·rw [QK ce]
   show rest j ce
 ·rintro Y N ⟨o7,o8,o9,JH,xs,rfl,S,Ws,lx,don,rest⟩
  let en:((L.length:Nat):Int).toNat=L.length:=ce
  rw [en] at don;let pb5:Paired (j7 K N (X.eraseIdx k)) xs M:=fO ce λj u b A e2=>don j u b (by have:=(ir.mp A).1;omega) A e2;let(w5,ko):=LL N xs S Ws pb5;show(_,O,q k p (.ref ta) _ xs N ep ko w5 ?_);let ta4:=Q.Po k24 hy;let(a',l',sv',ws',ev',c1,c2,c3,c4,c5,c6):=ta4
  let G:bg g N:=λb xs r=>by
   rcases r with r|⟨o',r⟩
   ·show .inl (S _ _ (λz=>by erw [z,Wr] at r) r)
   ·show .inr #[o',S _ _ (λz=>by erw [z,Wr] at r) r]
  show(a',l',sv',ws',ev',G.bS c1,c2.aQ G,S _ _ c6 c3,c4.aQ G,c5,c6)
def adB (r:Rat)(n:Int):gM (qr r) (n,1)=qr (r+(n:Rat)):=by
 let e:gM (qr r) (n,1)=((qr r).1+n*(qr r).2,(qr r).2):=by
  unfold gM;simp
 let g:JZ ((qr r).1+n*(qr r).2) (qr r).2=1:=by
  have:=m8 r;rw [<-this];simp
 rw [e,uB (q:=((qr r).1+n*(qr r).2,(qr r).2)) (cT r) g];congr 1;let z:=yx (r:=r);let v:=ff r;unfold vl at v ⊢;push_cast;grind
def tD {xs:ε}{x:V}:hW (xs++[x]) (-1)=some x:=by
 let e:HK (xs++[x]).length (-1)=some xs.length:=by
  unfold HK;rw [mQ cr,HI,V1,ox ce];congr 1;omega
 unfold hW;rw [e];change (xs++[x])[xs.length]?=some x;simp
def ajo (st:WS K H C fA dx pP pW pB lP lB us eK pX gV)(ht:H t1=some (.tup [.str p.nm,sv,.ref lw]))(N:fL K H sv p.sp)(g:H lw=some (.lst ws))(S:jP K H ws p.ws)(Y:lw≠lP)(X:lw≠lB)(M:p.nm∉pX.map (·.nm))(c:p.sp∉pX.map (·.sp))(hsz:Sz 44 p.sp.1/\Sz 44 p.sp.2)(f:j6 p.ws)(lp7:pX.length<=6)(q:∀H',KO pP pW pB lP lB H H' ->WS K H' C fA dx pP pW pB lP lB (us++[.ref t1]) eK (pX++[p]) gV->Q .cW H'):mf K C [.ref fA,.str p.nm,sv,.ref lw] (upd H lP (.lst (us++[.ref t1]))) Q E:=by
 let(kP,kW,m,R,W,nW):=st.fr;let T:KO pP pW pB lP lB H (upd H lP (.lst (us++[.ref t1]))):=λb o _ _ _ n4 _ e=>by rwa [aj n4]
 let k:(upd H lP (.lst (us++[.ref t1]))) lP=some (.lst (us++[.ref t1])):=ak;let nP:pP≠lP:=λz=>by have h:=R.pl;erw [z,st.hp] at h
 let U:pW≠lP:=λz=>by have h:=R.wy;erw [z,st.hp] at h
 let nB:pB≠lP:=λz=>by have h:=R.br;erw [z,st.hp] at h
 let y:pP≠lB:=λz=>by have h:=R.pl;erw [z,st.hb] at h
 let A:pW≠lB:=λz=>by have h:=R.wy;erw [z,st.hb] at h
 let Z:∀b o,b≠lP->H b=some o->(upd H lP (.lst (us++[.ref t1]))) b=some o:=λb o n e=>by rwa [aj n]
 let nt:t1≠lP:=λz=>by erw [z,st.hp] at ht
 let et:(upd H lP (.lst (us++[.ref t1]))) t1=some (.tup [.str p.nm,sv,.ref lw]):=by rwa [aj nt]
 generalize upd H lP (.lst (us++[.ref t1]))=H2 at T k Z et ⊢;let D:=st.t T;let R2:gw K H2 C fA dx pP pW pB (mpP pX) (mpB gV) kP kW m:=R.lj D ((T.at (st.away R.obj (λ_ z=>nomatch z) λ_ z=>nomatch z) R.obj).trans R.obj.symm) ((Z _ _ nP R.pl).trans R.pl.symm) ((Z _ _ U R.wy).trans R.wy.symm) ((Z _ _ nB R.br).trans R.br.symm);let W2:=st.wys T W nW;show(fA,dx,pP,pW,pB,_,_,_,kP,kW,m,sv,lw,ws,p,O,R2,W2,by rw [EL,EL];rfl,N.aQ D,Z _ _ Y g,S.aQ D,λz=>M ?_,λz hz e=>c ?_,?_,f,λH' IW rA G R' W' nl=>?_)
 ·rw [EL] at z
  show z
 ·let(p',gI,e'):=DA.mp hz
  rw [<-e'] at e;show DA.mpr (p',gI,V5 (jN (pU DB e)) (jN (pU C_ e)))
 ·rw [be]
  omega
 let I:KO pP pW pB lP lB H H':=λb o J L x m4 m5 e=>G b o J L (T b o J L x m4 m5 e);let B:=st.t I;let fr:=st.away ht (λ_ z=>nomatch z) λ_ z=>nomatch z;show q H' I ((IW,rA,m,?_,?_,λkv mH=>?_),G _ _ (G' nP) (G' U) k,g_ (Paired.b6 st.pp λ_ _ z=>st.Po I z) (t1,lw,_,ws,O,bL.of (G _ _ fr.1 fr.2.1 et),N.aQ B,I.at (st.way g Y X) g,S.aQ B,Y,X),G _ _ (G' y) (G' A) (Z _ _ (G' st.ne) st.hb),Paired.b6 st.pb λu b z=>?_,st.gp.snoc M c hsz f,#[st.gb.nb,λb hb=>?_],by rw [HI];simp;omega,st.lb,st.ne)
 ·rw [show mpP (pX++[p])=mpP pX++[(p.nm,vO p.sp)] from II]
  show R'
 ·rw [show mpW (pX++[p])=mpW pX++[(p.nm,p.ws)] from II]
  show W'
 ·let(l9,e9,n9):=nl
  rw [e9] at mH
  rcases HZ.mp mH with h|h
  ·show nW kv h
  ·rw [HU.mp h]
   show#[λz=>?_,λz=>?_]
   ·injection z with z
    erw [z,k] at n9
   ·injection z with z
    erw [z,Z _ _ (G' st.ne) st.hb] at n9
 ·let(a,i,j,e,h1,g1,g2):=z
  show(a,i,j,e,B.bS h1,by rwa [NG (ir.mp g1).1],by rwa [NG (ir.mp g2).1])
 ·let(J,L,x):=st.gb.ends b hb
  show(Ny _ J,Ny _ L,x)
inductive aa8 (K:Frag)(C:BK)(vs:ε)(H:Hp)(Q:VK)(J:XK):Prop
|mk (S M U X T Z Y:BK)(us N :ε)(pX:ι)(gV:τ)(g:V)(c:Int)(p:aC)(_:vs=[.ref S,.ref Z,g,.int c])(_:WS K H C S M U X T Z Y us N pX gV)(_:pX.length<=6)(_:pD K H Z Y g p)(_:p.nm∉pX.map (·.nm))(_:p.sp∉pX.map (·.sp))(_:Sz 44 p.sp.1)(_:Sz 20 p.sp.2)(_: -500002<=p.sp.2)(_:(∀q∈pX,q.sp.2<=500002))(_:∀(R:aC)(L :ε)(H':Hp),R.nm=p.nm->KO U X T Z Y H H' ->WS K H' C S M U X T Z Y L N (pX++[R]) gV->Q .cW H')
def mN:ay ["_law_frame_here","_law_pins_here","_law_gone","_law_cell","_law_up"] BU (ae fw):=sq
def agf (D:Def K mg "_law_pin_in" fw BU)(cS:ac P w K mg lM 1 "_law_field" Pb eQ)(f:ac P w K mg lM 34 "_law_ways" rZ (s_ K))(nH:ac P w K mg lM 1 "_law_sum" N4 (cx K gM))
  (fH:ac P w K mg lM 4 "_law_put_pin" Vx (mf K C)):
  ac P w K mg lM 35 "_law_pin_in" BU (aa8 K C):=by
 show D.oo mN λH M h=>?_;let(fA,dx,pP,pW,pB,X,lB,T,eK,pX,gV,g,c,p,rfl,st,B,hy,x,tQ,z1,z2,yb,qb,q):=h;let L2:2<=DC:=cr
 let L3:3<=DC:=cr
 let lu:T.length=pX.length:=GX st.pp;let(S,la,sv,ws0,rfl,U,o,h3,h4,h5,h6):=id hy;let(I,x1,y1,rfl,P7,u,XS):=o;let i2:=a9 (c:=c) (p:=3001) (m:=2) cr
 show(_,(aa (aI 4 mN.nd (aL nH M (aH (aF (aF (pv 2))) (aS (aH (aD bX ag (aL cS M (bu (pv 3) ag ag))) ag))))) (aa (bD (kg Qo Sl SX dD (pv 1) (aZ (aS (bu (aF (pv 2)) (aS (aH (aF (aF (pv 2))) (pv 4))) (aL f M (aZ (pv 3)))))))) (ah (bD (aL fH M (iL (pv 0) (bu (aF (pv 2)) (aF (bB aU (pv 1) (tN mT ag))) (aF (bB aU (pv 1) (tN mT ag)))))))))),?_);sleep 2
 show(_,O,S,_,_,_,O,O,U,O,I,_,_,_,O,O,P7,iW,_,O,_,_,_,O,cr,cr,cr,_,_,O,O,#[by decide+kernel,EE (intBits_le_64 ce ce) cr],L2,?_);intros p2 n2 H2 s2 e2;try dsimp only [gQ];generalize field c 3001 2=Z at i2 e2 ⊢;let nb:Ns 22 (4000037*Z,(1:Int)):=#[by change (4000037*Z).natAbs<=4194304;omega,by change 1<=2^22;decide];show(y1,.ref p2,qr p.sp.2,(4000037*Z,1),20,22,O,XS.lO s2,(p2,O,bL.of e2),Ys z2,nb,cr,λp5 H5 s5 e5=>?_);rw [adB] at e5;let N:=s2.trans s5;have jm :=Ty.aq.bS N U;have j :=Ty.aq.bS N P7;show(_,O,.inl (O,_,aT.of (N _ _ st.hp)),_,O,S,_,_,_,O,O,jm,bJ,_,O,S,_,_,_,O,O,jm,O,I,_,_,_,O,O,j,i6,_,O,L2,?_);intros p6 n6 H6 s6 e6;let E:=N.trans s6;show(_,O,_,O,λl8 us8 ws H8 wk s8 n8 e8 p8=>#[L3,?_]);let y:fL K H6 (.ref p6) (p.sp.1,p.sp.2+((4000037*Z:Int):Rat)):=rK e6 (u.lO E) ((iT e5).lO s6);let fr:=(st.lO E).fresh n8;intros Y n9 L Q e9;let a:=E.trans (s8.trans Q);let R:=st.lO a;show(X,_,_,O,O,R.hp,(by rw [lu];show IG (show pX.length<=1000 by omega) cr),?_);let nt:Y≠X:=λz=>by erw [z,R.hp] at e9
 let eA:(upd L X (.lst (T++[.ref Y]))) X=some (.lst (T++[.ref Y])):=ak;let eT:(upd L X (.lst (T++[.ref Y]))) Y=some (.tup [.str p.nm,.ref p6,.ref l8]):=by rw [aj nt];show e9
 let A:bL K (upd L X (.lst (T++[.ref Y]))) S [.str p.nm,.ref I,.ref la]:=(show bg L _ from λb xs r=>by
  rcases r with r|⟨o',r⟩
  ·show .inl (by rw [aj (λz=>by erw [z,R.hp] at r)];show r)
  ·show .inr #[o',by rw [aj (λz=>by erw [z,R.hp] at r)];show r]).bS (Ty.aq.bS a U)
 show(_,O,_,O,S,_,_,_,O,O,A,bJ,_,O,_,O,X,_,_,_,O,O,aT.of eA,tD,Y,_,_,_,O,O,bL.of eT,O,_,O,_,O,X,_,_,_,O,O,aT.of eA,tD,Y,_,_,_,O,O,bL.of eT,O,?_);try dsimp only [gQ];let G:=s8.trans Q;show ajo (p:=(p.nm,(p.sp.1,p.sp.2+((4000037*Z:Int):Rat)),ws)) R e9 (y.lO G) (Q _ _ e8) (p8.lO Q) fr.2.2.2.1 fr.2.2.2.2 x (λz=>?_) #[z1,?_] wk B λH' k' W'=>q (p.nm,(p.sp.1,p.sp.2+((4000037*Z:Int):Rat)),ws) _ H' rfl ((KO.of a).trans k') W'
 ·let(p',gI,e'):=DA.mp z
  let J:Z=0\/Z=1:=ce
  rcases J with rfl|rfl
  ·show tQ (DA.mpr (p',gI,e'.trans ?_))
   show V5 rfl ?_;change p.sp.2+((4000037*0:Int):Rat)=p.sp.2;have:((4000037*0:Int):Rat)=0:=by decide+kernel
   rw [this];grind
  ·let U:=qb p' gI
   rw [e'] at U;let o:p.sp.2+((4000037*1:Int):Rat)<=500002:=U;have:((4000037*1:Int):Rat)=4000037:=by decide+kernel
   rw [this] at o;grind
 ·show(z2.add (jO (i:=4000037*Z) (k:=22) (by change _<4194304;omega) cr)).up cr
def aaO {pS:L2.St}(p:Nat->Bool)(J:Nat->List V->Hp->Prop)(M:H1 D=none)(U:∀H,aq H1 H->aT K H a xs)(q:xs.length<DC)(A:J 0 [] (upd H1 D (.lst [])))
  (G:∀(i:Nat) x H (R:Bool->Hp->Prop),xs[i]?=some x->aq H1 H->R (p i) H->tt (some x::pS) H R)
  (E:∀(i:Nat) ys H,p i=false->J i ys H->J (i+1) ys H)
  (C:∀(i:Nat) x ys H (R:VK),xs[i]?=some x->p i=true->J i ys H->aq H1 H->H D=some (.lst ys)->(∀v X,aq H X->J (i+1) (ys++[v]) (upd X D (.lst (ys++[v])))->R v X)->te (some x::pS) H R)
  (B:∀ys H,J xs.length ys H->aq H1 H->H D=some (.lst ys)->Q (.ref D) H):
  mm D (cE 0) tt te (TN K a) (none::pS) H1 Q:=by
 show(λi m Y ys H=>m=xs.length-i/\i<=xs.length/\(∃o,Y=o::pS)/\aq H1 H/\H D=some (.lst ys)/\J i ys H/\ys.length<=i,(xs.length,by simp,NF _,#[none,O],λb o e=>by rwa [aj (ao e M)],ak,A,DH _),?_);rintro i m Y ys H ⟨rfl,k,⟨o,rfl⟩,s,Z,T,z⟩;by_cases I:i<xs.length
 ·show .inr #[(xs,xs[i],U H s,gE I),λv g y=>?_]
  let(rfl,L):=y;let N:=L xs (U _ s);unfold cE;show G i v _ _ N s ?_;by_cases c:p i=true
  ·rw [ox c]
   show C i v ys _ _ N c T s Z λu X S j=>(S _ _ Z,ce,xs.length-(i+1),ce,O,ce,#[_,O],λb o e=>by rw [aj (ao e M)];show S _ _ (s _ _ e),ak,j,by simp;omega)
  ·rw [mQ c]
   show(xs.length-(i+1),ce,O,ce,#[_,O],s,Z,E i ys _ (by simpa using c) T,ce)
 ·let e:i=xs.length:=ce
  subst e;show .inl #[(xs,U _ s,DH _),B ys H T s Z]
def kF (kL:γ)(l:ι):List (Key×V):=l.filterMap λp=>(bC kL (.inr p.nm)).map λv=>((.inr p.nm:Key),v)
def xP {l:ι}:kF kL (q::l)=(match bC kL (.inr q.nm) with|none=>[]|some v=>[((.inr q.nm:Key),v)])++kF kL l:=by
 unfold kF;rw [Zu];cases bC kL (.inr q.nm)<;>rfl
theorem ajn (x:Str):∀l:List aC,bC (kF kL l) (.inr x)=if x∈l.map (·.nm) then bC kL (.inr x) else none
 | []=>rfl
 | q::l=>by
  rw [xP];let Y:=ajn (kL:=kL) x l;by_cases c:q.nm=x
  ·rw [ox (by rw [<-c];show IU)]
   rw [c];cases e:bC kL (.inr x) with
   | none=>
    rwa [e,ite_self] at Y
   | some v=>show b_ rfl
  ·let m:x∈(q::l).map (·.nm) ↔ x∈l.map (·.nm):=by
    rw [ED,JP];show#[λh=>h.resolve_left (λz=>c z.symm),.inr]
   let X:(if x∈(q::l).map (·.nm) then bC kL (.inr x) else none)=if x∈l.map (·.nm) then bC kL (.inr x) else none:=by
    by_cases Z:x∈l.map (·.nm)
    ·rw [ox (m.mpr Z),ox Z]
    ·rw [mQ (λz=>Z (m.mp z)),mQ Z]
   rw [X,<-Y];cases bC kL (.inr q.nm) with
   | none=>rfl
   | some v=>show bN (λz=>c (by injection z))
theorem lK :∀l:List aC,List.Sublist ((kF kL l).map (·.1)) (l.map λp=>(.inr p.nm:Key))
 | []=>.slnil
 | q::l=>by
  rw [xP,II,ED];cases bC kL (.inr q.nm) with
  | none=>show(lK l).cons _
  | some v=>show(lK l).cons₂ _
def xQ :kF kL (l++[q])=kF kL l++(match bC kL (.inr q.nm) with|none=>[]|some v=>[((.inr q.nm:Key),v)]):=by
 unfold kF;rw [List.filterMap_append,Zu];cases bC kL (.inr q.nm)<;>rfl
def aa9 (Q:H d=some (.dK (kF kL pX)))(X:xC K H kL L)(Y:mvL L)(U:(pX.map (·.nm)).Nodup)(N:pX.length<=9):xO K H d (kF kL pX) pX (λx=>if x∈pX.map (·.nm) then L x else none)/\(kF kL pX).length<=9:=by
 let M:(kF kL pX).length<=pX.length:=ajF _ _;let Z:=qB U;rw [EL] at Z;show#[(Q,λx=>?_,Z.sublist (lK pX),λR S=>?_,λx=>?_,ce),ce]
 ·rw [ajn]
  by_cases c:x∈pX.map (·.nm)
  ·rw [ox c,ox c]
   show X x
  ·rw [mQ c,mQ c]
   show .inl #[O,O]
 ·let(p,T,e):=DA.mp ((lK pX).subset (DA.mpr (R,S,O)))
  show(p.nm,DA.mpr (p,T,O),e.symm)
 ·change Sz 1200 ((if x∈pX.map (·.nm) then L x else none).getD (0,0)).1/\Sz 1200 ((if x∈pX.map (·.nm) then L x else none).getD (0,0)).2
  by_cases c:x∈pX.map (·.nm)
  ·rw [ox c]
   show Y x
  ·rw [mQ c]
   show#[dk cr,dk cr]
def xR (K:Frag)(H0 H:Hp)(pX:ι)(gV:τ)(N:Β)(L:η)(p:BK):Prop:=(∃(T:Λ)(U:ω)(Q:Str->BK)(M:υ)(dT X Z:BK)(R S Y:γ),H p=some (.tup [.str "bent",.ref dT,.ref X,.ref Z])/\PPR K H0 H pX gV dT X R S T U Q/\MoR K H0 H pX Z Y M/\(∀p∈pX,∀w∈p.ws,dt w (M p.nm)=0)/\(∀b∈gV,T b.nm=gR N b.nm*ie M b)/\ig pX gV T U L/\(∀b∈gV,Sz 7930000 (T b.nm))/\(∀p∈pX,∀u∈U p.nm,Sz 1982000 u)/\(∀p∈pX,Sz 1982000 (M p.nm).1/\Sz 1982000 (M p.nm).2))\/
 ∃(M:υ)(Z:BK)(Y:γ),H p=some (.tup [.str "moves",.ref Z])/\MoR K H0 H pX Z Y M/\uS pX gV M/\mK pX L M=1/\∀p∈pX,Sz 2045000 (M p.nm).1/\Sz 2045000 (M p.nm).2
def xR.r (h:xR K H0 H pX gV Go L p)(e:H0 eA=some o):MY K H pX gV Go L p\/aa4 K H pX gV L eA p:=by
 rcases h with ⟨T,U,m,M,dT,q,N,C,D,R,Q,X,Y,B,x,rest,I,J,S⟩|⟨M,N,R,Q,Y,mv,G,S⟩
 ·show .inl (dT,q,N,C,D,R,T,U,M,Q,(X.hT,X.hU,X.Pg,X.Ph,X.tT,λp Z=>by
   let(E,a,_,b,c):=X.tU p Z
   show(_,E,a,b,c),X.lU,λb y=>gZ (I b y) (DH _),λp Z u A=>gZ (J p Z u A) cr),(Y.hM,Y.keys,Y.tM,λp Z=>#[gZ (S p Z).1 (DH _),gZ (S p Z).2 (DH _)],cr),B,x,rest)
 ·show .inr (N,R,M,Q,(Y.hM,Y.keys,Y.tM,λp Z=>#[gZ (S p Z).1 (DH _),gZ (S p Z).2 (DH _)],cr),mv,G,λz=>by have:=Y.nM;erw [z,e] at this)
def xR.agc (h:xR K H0 H pX gV Go L p)(g:d_ pX gV)(rest:ig pX gV T U L):∃dT Y Z,H p=some (.tup [.str "bent",.ref dT,.ref Y,.ref Z]):=by
 rcases h with ⟨_,_,_,_,dT,Y,Z,_,_,_,X,_⟩|⟨M,Z,Q,X,N,mv,S,R⟩
 ·show(dT,Y,Z,X)
 ·show(agK g rest mv S).elim
def ajf (R:xB K H C fA pX gV)(g:d_ pX gV)(A:pX.length<=7)(z:gV.length<=10)(X:T4 K H gA I Go)(m:∀y∈I,∃x∈gV.map (·.nm),y.1=.inr x)(ld:xO K H eA kL pX L)(k:∀p H',aq H H' ->xR K H H' pX gV Go L p->Q (.ref p) H'):uX K C [.ref fA,.ref gA,.ref eA] H Q E:=
 (fA,gA,eA,pX,gV,I,kL,Go,L,O,R,g,A,z,X.hd,X.nm,m,X.ps,ld.hd,ld.pt,ld.sz,ld.ks,λM p N Y H' s S J mv B Z=>k p H' s (.inr (M,N,Y,S,J,mv,B,Z)),λT U c M p dT i N q u Y H' s S f J o j rest D G Z=>k p H' s (.inl (T,U,c,M,dT,i,N,q,u,Y,S,f,J,o,j,rest,D,G,Z)))
def WS.lf (h:WS K H C fA dx pP pW pB lP lB us vs pX gV):SQ K H lP lB us vs pX gV:=(h.hp,h.pr,h.gp,h.hb,h.pb,λb Z=>(h.gb.ends b Z).2.2,by have:=h.lp;omega,h.lb)
inductive tE (K:Frag)(C:BK)(vs:ε)(H:Hp)(Q:VK)(y:XK):Prop
|mk (Z R A J M I Y X N S U:BK)(E:Bool)(G:ξ)(us B :ε)(pX:ι)(gV:τ)(T kL:γ)(z:Β)(L:η)(_:vs=[.ref Z,.ref R,.ref Y,.ref X,.ref N])(_:aT K H Z (G.map V.int))(_:WS K H C R A J M I Y X us B pX gV)(_:bL K H N [.ref S,.ref U,.bl E])(_:T4 K H S T z)(_:(∀D∈T,∃x∈gV.map (·.nm),D.1=.inr x))(_:H U=some (.dK kL))(_:xC K H kL L)(_:mvL L)(_:∀H',aq H H' ->Q (.bl true) H')
def d5:ay ["_law_script","_law_frame_here","_law_pins_here","_law_bars_here","_law_asked","_law_grips_here","_law_load_here","_law_made","_law_now","_law_told"] VR (ae fU):=sq
def zv3 (D:Def K mg "_law_again" fU VR)(fg:mg "dict"=none)(aa':ac P w K mg lM 35 "_law_borne" σ5 (pK K))(qS:ac P w K mg lM 40 "bend_of" u5 (uX K C))(aba:ac P w K mg lM 37 "_law_right" V3 (tw K)):
  ac P w K mg lM 41 "_law_again" VR (tE K C):=by
 show D.oo d5 λH o h=>?_;let(sA,fA,dx,pP,pW,pB,I,lB,aA,gA,G,J,ns,f,eK,Z,gV,kG,Y,Go,L,rfl,hS,st,hA,gr,hk,hl,pL,zL,q):=h;let L2:2<=DC:=cr
 let lp:=st.lp;let lu:f.length=Z.length:=GX st.pp;let g:=st.g
 show(_,(aa (qe (pv 4) (eY rfl (aY (bI 5 d5.nd) (aY (bI 6 d5.nd) (aY (bI 7 d5.nd) cM))))) (aa (aI 8 d5.nd (cv (aas rfl) rfl fg qk (aZ (IP (tn:=r6) (fr:=["_law_load_here"]) (pO:=[6]) (bo (pv 2)) (λ_ _ _ _=>(f9 (i:=0) (show(["_law_pin","_law_load_here"]:List Str).Nodup from by decide+kernel) rfl (Pe rfl))) (λ_ _ _ _=>(HR (tG (HW (bP o) (bB (cN (K:=K) rfl) (pv 0) ag) (pv 1))))) (aS (aH (bB (cN (K:=K) rfl) (pv 0) ag) (cO (bP o) (pv 1) (bB (cN (K:=K) rfl) (pv 0) ag) (λ_ _=>O)))))))) (aa (bw (bZ (pv 7)) (ah (aI 8 d5.nd (aL aa' o (bu (pv 0) (pv 2) (pv 3))))) aR) (aa (aI 9 d5.nd (aL qS o (bu (pv 1) (pv 5) (pv 8)))) (ah (aE (GU (aL aba o (iL (pv 2) (iL (pv 3) (bu (pv 5) (pv 9) (pv 8))))) (xY (acB (ae_ (pv 7)) (xY (iz gm (aF (pv 9)) dB (jI _)))))))))))),?_);try dsimp only [vw,mi,Cx.BE,Cx.vS]
 show(_,O,aA,_,O,hA,O,_,_,O,_,_,O,_,_,O,O,_,O,I,O,#[_,aT.of st.hp],λD1 n1=>?_);show aaO (pS:=[some (.ref G)]) (a:=I) (xs:=f) (λi=>(Z[i]?.bind λp=>bC Y (.inr p.nm)).isSome) (λi X B=>X.length=(kF Y (Z.take i)).length/\∀(j:Nat)(u:V)(E:Key×V),X[j]?=some u->(kF Y (Z.take i))[j]?=some E->∃p,u=.ref p/\B p=some (.tup [kV E.1,E.2])) n1 (λH5 b=>aT.of (b _ _ st.hp)) (by rw [lu];show IG (show Z.length<=100 by omega) cr) #[O,λj u E e=>by cases e] ?_ ?_ ?_ ?_
 ·intro i x H1 R hx N k
  let(p,S,a,l,sv,ws,rfl,h1,_):=aw st.pp hx;let M:(Z[i]?.bind λp=>bC Y (.inr p.nm))=bC Y (.inr p.nm):=by rw [S];rfl
  rw [M] at k;show(_,O,a,_,_,_,O,O,Ty.aq.bS N h1,bJ,_,O,G,_,O,cX.k (k:=.inr p.nm) (N _ _ hl),_,O,k)
 ·intro i X H1 c j
  by_cases hi:i<Z.length
  ·let S:Z[i]?=some Z[i]:=gE hi
   rw [S] at c;let c':bC Y (.inr Z[i].nm)=none:=Option.not_isSome_iff_eq_none.mp (by rw [show bC Y (.inr Z[i].nm)=(some Z[i]).bind λp=>bC Y (.inr p.nm) from rfl,c];simp);rwa [take_snoc S,xQ,c',Wn]
  ·rw [Q_ ce] at j ⊢
   show j
 ·intro i x X H1 R hx c ⟨jl,jj⟩ N hD k
  let(p,S,a,l,sv,ws,rfl,h1,_):=aw st.pp hx;rw [S] at c;let(v,ev):=age.mp (show(bC Y (.inr p.nm)).isSome=true from c)
  let dg:cX H1 G (.str p.nm) (some v):=by
   have:=cX.k (k:=.inr p.nm) (N _ _ hl);rwa [ev] at this
  have jm :=Ty.aq.bS N h1;show(_,O,a,_,_,_,O,O,jm,bJ,_,O,_,O,a,_,_,_,O,O,jm,bJ,G,v,O,dg,L2,?_);intros t2 n2 H2 s2 e2;let nt:t2≠D1:=λz=>by erw [z,hD] at n2
  show k _ _ s2 ?_;rw [take_snoc S,xQ,ev];show#[by rw [HI,HI,jl];rfl,λj u E M Wj =>?_];by_cases cj:j<X.length
  ·rw [NG cj] at M
   rw [NG ce] at Wj;let(p',z1,z2):=jj j u E M Wj;show(p',z1,by rw [aj (λz=>by erw [z,hD] at z2)];show s2 _ _ z2)
  ·let j0:j=X.length:=by
    have:=(ir.mp M).1;rw [HI,V1] at this;omega
   subst j0;rw [NQ (DH _),ak6] at M;rw [NQ ce,show X.length-(kF Y (Z.take i)).length=0 by omega] at Wj;cases M;cases Wj;show(t2,O,by rwa [aj nt])
 intro X H1 ⟨jl,jj⟩ N hD;rw [lu,Ni] at jl jj;let ll:(kF Y Z).length<=Z.length:=ajF _ _;show(D1,X,kF Y Z,O,hD,jl,ce,jj,λd H2 s2 nd ed=>?_);let nk:=qB st.gp.np;rw [EL] at nk;rw [oX (kF Y Z) [] (nk.sublist (lK Z)),EM] at ed;let y:=N.trans s2;let(ld,lk):=aa9 ed (pL.lO y) zL st.gp.np ce;show cu (λm B=>m =[some (.ref sA),some (.ref fA),some (.ref I),some (.ref lB),some (.ref aA),some (.ref gA),some (.ref G),some (.bl J),some (.ref d),none]/\B=H2) (λNx iU=>iU _ _ #[O,O]) ?_;rintro m Hy ⟨rfl,rfl⟩;show cu (λm B=>GJ λ(d:BK) (AP:γ) (L:η)=>m =[some (.ref sA),some (.ref fA),some (.ref I),some (.ref lB),some (.ref aA),some (.ref gA),some (.ref G),some (.bl J),some (.ref d),none]/\aq H B/\xO K B d AP Z L/\AP.length<=9/\(J=true->∃T U,ig Z gV T U L)) (λNx iU=>?_) ?_
 ·show(_,O,_,O,?_)
  cases J
  ·show bq (λc=>nomatch c) (λ_=>?_)
   show iU _ _ (d,_,_,O,y,ld,lk,λc=>nomatch c)
  ·show bq (λ_=>?_) (λc=>DQ rfl c)
   let j_:=st.lO y;show(_,O,_,O,_,O,sA,I,lB,ns,f,eK,Z,gV,O,y.seq hS,j_.lf,g,st.gb.nb,λd3 abb L3 T U H3 A _ ld3 lk3 rest=>?_);show iU _ _ (d3,abb,L3,O,y.trans A,ld3,lk3,λ_=>(T,U,rest))
 rintro m H3 ⟨d,AP,L,rfl,A,ld,lk,rest⟩;let BR:=st.lO A;show(_,O,_,O,_,O,ajf BR.fa g st.lp st.lb (gr.lO A) hk ld λp H4 s4 Q=>?_);let qc:=A.trans s4;show(_,O,_,O,_,O,_,O,_,O,I,lB,gA,p,d,f,eK,kG,AP,Z,gV,Go,L,O,(st.lO qc).lf,gr.lO qc,ld.lO s4,lk,Q.r ld.hd,λH5 b=>(true,O,Zt ?_));let p_:=qc.trans b;show(_,O,J,O,_,O,?_);cases J
 ·show Zt (q _ p_)
 ·let(T,U,zF):=rest rfl
  let(dT,dU,dM,S):=Q.agc g zF;show Vk (_,O,p,_,_,_,O,O,bL.of (b _ _ S),bJ,O,?_);show q _ p_
def KO.seq (k:KO pP pW pB lP lB H H')(n:b≠pP/\b≠pW/\b≠pB/\b≠lP/\b≠lB)(h:aT K H b xs):aT K H' b xs:=by
 rcases h with (r|⟨Z,r⟩)|r
 ·show .inl (.inl (k.at n r))
 ·show .inl (.inr #[Z,k.at n r])
 ·show .inr r
structure S2 (K:Frag)(H:Hp)(pP pW pB lP lB sA aA gA lA:BK)(md:Bool)(ns:ξ)(kG kL:γ)(Go:Β)(L:η):Prop where
 os:∀H',KO pP pW pB lP lB H H' ->aT K H' sA (ns.map V.int)
 ha:bL K H aA [.ref gA,.ref lA,.bl md]
 gr:T4 K H gA kG Go
 hl:H lA=some (.dK kL)
 pL:xC K H kL L
 zL:mvL L
 og:gA≠pP/\gA≠pW/\gA≠pB/\gA≠lP/\gA≠lB
 ol:lA≠pP/\lA≠pW/\lA≠pB/\lA≠lP/\lA≠lB
section
variable {H H':Hp}{C fA dx pP pW pB lP lB sA aA gA lA:BK}{us vs:ε}{pX:ι}{gV:τ}{md:Bool}{ns:ξ}{kG kL:γ}{Go:Β}{L:η}
def S2.ko (h:S2 K H pP pW pB lP lB sA aA gA lA md ns kG kL Go L)(st:WS K H C fA dx pP pW pB lP lB us vs pX gV)(k:KO pP pW pB lP lB H H'):S2 K H' pP pW pB lP lB sA aA gA lA md ns kG kL Go L:=by
 let t:=st.t k;show(λS T=>h.os S (k.trans T),t.bS h.ha,(k.at h.og h.gr.hd,h.gr.nm.aQ t,h.gr.ps),k.at h.ol h.hl,λU=>?_,h.zL,h.og,h.ol)
 rcases h.pL U with z|⟨v,p,X,Y,Z⟩
 ·show .inl z
 ·show .inr (v,p,X,Y,Z.aQ t)
def mh (st:WS K H C fA dx pP pW pB lP lB us vs pX gV)(h:S2 K H pP pW pB lP lB sA aA gA lA md ns kG kL Go L)(Y:∀Z∈kG,∃x∈gV.map (·.nm),Z.1=.inr x)(q:∀H',aq H H' ->Q (.bl true) H'):tE K C [.ref sA,.ref fA,.ref lP,.ref lB,.ref aA] H Q E:=
 (sA,fA,dx,pP,pW,pB,lP,lB,aA,gA,lA,md,ns,us,vs,pX,gV,kG,kL,Go,L,O,h.os H (KO.of (aq.refl _)),st,h.ha,h.gr,Y,h.hl,h.pL,h.zL,q)
end
theorem qT {Z β:Type}(f:Z->β):∀{l:List Z} {k:Nat} {p:Z},(l.map f).Nodup->l[k]?=some p->f p∉(l.eraseIdx k).map f
 | q::X,0,p,Y,e=>by
  cases e;rw [ED,Nk] at Y;show Y.1
 | q::X,k+1,p,Y,e=>by
  rw [ED,Nk] at Y;let U:X[k]?=some p:=by simpa using e
  rw [ajL,ED,JP];rintro (z|z)
  ·show Y.1 (by rw [<-z];show DA.mpr (p,Wp U,O))
  ·show qT f Y.2 U z
inductive zH (K:Frag)(C:BK)(vs:ε)(H:Hp)(Q:VK)(y:XK):Prop
|mk (X N A T U S Z Y M D G:BK)(I:Bool)(J:ξ)(us B :ε)(pX:ι)(gV:τ)(R kL:γ)(z:Β)(L:η)(_:vs=[.ref X,.ref N,.ref Z,.ref Y,.ref M])(_:WS K H C N A T U S Z Y us B pX gV)(_:S2 K H T U S Z Y X M D G I J R kL z L)(_:(∀E∈R,∃x∈gV.map (·.nm),E.1=.inr x))(_:pX.length<=6)(_:gV.length<=9)(_:(∀p∈pX,p.nm≠ "late"/\(Sz 20 p.sp.2/\Nr p.sp.2)/\ -500002<=p.sp.1))(_:("late":Str)∉gV.map (·.nm))(_:∀H',Q (.bl true) H')
def j9:ay ["_law_script","_law_frame_here","_law_pins_here","_law_bars_here","_law_asked","_law_cell","_law_gone"] VR (ae fV):=sq
def zv2 (D:Def K mg "_law_later" fV VR)(aV:mg "len"=none)(j8:ac P w K mg lM 1 "_law_cell_at" RO (jc K))(fH:ac P w K mg lM 4 "_law_put_pin" Vx (mf K C))(i_:ac P w K mg lM 41 "_law_again" VR (tE K C))(wu:ac P w K mg lM 3 "_law_pin_out" BX (S1 K C))(zJ:ac P w K mg lM 35 "_law_pin_in" BU (aa8 K C))(MPb:am P w K mg lM 3 C "put_bar" V2 (lD K C)):
  ac P w K mg lM 42 "_law_later" VR (zH K C):=by
 show D.oo j9 λH J h=>?_;let(sA,fA,dx,u,pW,m,Y,X,aA,gA,lA,md,ns,us,eK,A,G,kG,kL,Go,L,rfl,st,ar,hk,lp6,lb9,pf,nl,q):=h;let L2:2<=DC:=cr
 let L3:3<=DC:=cr
 let lu:us.length=A.length:=GX st.pp
 show(_,(aa (aI 5 j9.nd (aL j8 J (aH (pv 0) ag))) (aa (bD (kg Qo Sl SX dD (pv 2) (aZ (aS (bu dB (aS (aH (aS (aH (tN mT ag) ag)) (aS (aH ag ag)))) (bY (aH (aS (aH (aS (aH ag ag)) (aS (aH ag ag)))) (aS (aH (aS (aH ag ag)) (aS (aH ag ag))))))))))) (aa (bD (aL fH J (iL (pv 1) (bu dB (aF (bB aU (pv 2) (tN mT ag))) (aF (bB aU (pv 2) (tN mT ag))))))) (aa (bw (cL (bZ (aL i_ J (iL (pv 0) (iL (pv 1) (bu (pv 2) (pv 3) (pv 4))))))) (ah (aE cZ)) aR) (aa (aI 6 j9.nd (aL wu J (iL (pv 1) (bu (pv 2) (pv 3) (pv 5))))) (aa (bw (cL (bZ (aL i_ J (iL (pv 0) (iL (pv 1) (bu (pv 2) (pv 3) (pv 4))))))) (ah (aE cZ)) aR) (aa (bD (aL zJ J (iL (pv 1) (bu (pv 2) (pv 6) (pv 5))))) (aa (bw (cL (bZ (aL i_ J (iL (pv 0) (iL (pv 1) (bu (pv 2) (pv 3) (pv 4))))))) (ah (aE cZ)) aR) (aa (bw (bE q_ (aJ aG rfl aV bV (aZ (pv 2))) ag) (aa (bD (fe (k:=3) (pv 1) J.mo (GK P w) (bu dB (aF (oJ (pv 2))) (aF (pv 6))))) (ah (bD (kg Qo Sl SX dD (pv 3) (aZ (aS (bu dB ag (aD cB (aJ aG rfl aV bV (aZ (pv 2))) ag)))))))) aR) (ah (aE (aL i_ J (iL (pv 0) (iL (pv 1) (bu (pv 2) (pv 3) (pv 4)))))))))))))))),?_);try dsimp only [vw,mi,Cx.BE,Cx.vS]
 show(_,O,sA,ns,39,O,ar.os H (KO.of (aq.refl _)),cr,cr,?_);generalize cell ns 39=c;show(_,O,.inl (O,_,aT.of st.hp),_,O,L2,?_);intros p1 n1 H1 s1 e1;show#[L2,?_];intros p2 n2 H2 s2 e2;show#[L2,?_];intros p3 n3 H3 s3 e3;show#[L2,?_];intros p4 n4 H4 s4 e4;show#[L2,?_];intros p5 n5 H5 s5 e5;show#[L2,?_];intros p6 n6 H6 s6 e6;show#[L2,?_];intros p7 n7 H7 s7 e7;show#[L2,?_];intros p8 n8 H8 s8 e8;show#[L2,?_];intros p9 n9 H9 s9 e9;show#[L2,?_];intros Sa P5 BF nR Yi;show#[L3,?_];intros YB n11 CG xo e11;let N:=s9.trans (nR.trans xo);let s5b:=s6.trans (s7.trans (s8.trans N));let M:=s4.trans (s5.trans s5b);let s0b:=s1.trans (s2.trans (s3.trans M));let T1:=st.lO s0b;let ar1:=ar.ko st (KO.of s0b);show(Y,_,_,O,O,T1.hp,(by rw [lu];show IG (show A.length<=1000 by omega) cr),?_);let nt:YB≠Y:=λz=>by erw [z,T1.hp] at e11
 let eA:(upd CG Y (.lst (us++[.ref YB]))) Y=some (.lst (us++[.ref YB])):=ak;let eT:(upd CG Y (.lst (us++[.ref YB]))) YB=some (.tup [.str "late",.ref p3,.ref Sa]):=by rwa [aj nt]
 show(_,O,_,O,_,O,Y,_,_,_,O,O,aT.of eA,tD,YB,_,_,_,O,O,bL.of eT,O,_,O,_,O,Y,_,_,_,O,O,aT.of eA,tD,YB,_,_,_,O,O,bL.of eT,O,?_);let w1:fL K CG (.ref p6) (1,0):=rH qL cF ((s7.trans (s8.trans N)) _ _ e6) ((s5.trans s5b) _ _ e4) (s5b _ _ e5);let w2:fL K CG (.ref p9) (0,1):=rH cF qL ((nR.trans xo) _ _ e9) ((s8.trans N) _ _ e7) (N _ _ e8);let hpt:fL K CG (.ref p3) (-1000002,7):=rH (x:=(-1000002,1)) (y:=(7,1)) (by decide+kernel) (by decide+kernel) (M _ _ e3) ((s2.trans (s3.trans M)) _ _ e1) ((s3.trans M) _ _ e2);let fl:=(st.lO (s1.trans (s2.trans (s3.trans (s4.trans (s5.trans (s6.trans (s7.trans (s8.trans s9))))))))).fresh P5;show ajo (p:=("late",(-1000002,7),[(1,0),(0,1)])) T1 e11 hpt (xo _ _ Yi) (.cons w1 (.cons w2 .nil)) fl.2.2.2.1 fl.2.2.2.2 (λz=>?_) (λz=>?_) #[jO (i:= -1000002) cr cr,jO (i:=7) cr cr] (.inr (.inr rfl)) lp6 λH12 k12 j_=>?_
 ·let(U,gI,e'):=DA.mp z
  show(pf U gI).1 e'
 ·let(U,gI,e'):=DA.mp z
  let h1:=(pf U gI).2.2;rw [e'] at h1;show DQ h1 (by decide+kernel)
 let ar2:=ar1.ko T1 k12;generalize je:(("late",(-1000002,7),[(1,0),(0,1)]):aC)=Wu at j_
 let pf2:∀p∈A++[Wu],Sz 20 p.sp.2/\Nr p.sp.2:=λp hp=>by
  rcases HZ.mp hp with z|z
  ·show(pf p z).2.1
  ·rw [HU.mp z,<-je]
   show#[jO (i:=7) cr cr,by unfold Nr;decide+kernel]
 show(_,O,_,O,_,O,_,O,_,O,mh j_ ar2 hk λH13 sQ=>(_,O,bq (λc=>nomatch c) (λ_=>?_)));let BR:=j_.lO sQ;let ar3:=ar2.ko j_ (KO.of sQ);show(_,O,_,O,_,O,_,O,fA,dx,u,pW,m,Y,X,_,_,_,G,c,O,BR,(A.length,by rw [HI,V1];omega,?_),λk p y us4 E H14 ep k14 LL py=>?_)
 ·unfold JY
  rw [Bool.not_eq_true',akm];intro b hb;let el:((A++[Wu])[A.length]?).map (·.nm)=some "late":=by rw [NQ (DH _),ak6,<-je];rfl
  let(m1,m2,_):=st.gb.ends b hb;unfold T5;rw [el,Bool.or_eq_true,decide_eq_true_iff,decide_eq_true_iff];rintro (z|z)
  ·show(pf _ m1).1 (JB z).symm
  ·show(pf _ m2).1 (JB z).symm
 let ar4:=ar3.ko BR k14;let mp:=Wp ep;show(_,O,_,O,_,O,_,O,_,O,mh LL ar4 hk λH15 Sw=>(_,O,bq (λc=>nomatch c) (λ_=>?_)));let Nj:=LL.lO Sw;let ar5:=ar4.ko LL (KO.of Sw)
 let le5:((A++[Wu]).eraseIdx k).length<=6:=by
  rw [List.length_eraseIdx_of_lt (ir.mp ep).1,HI,V1];omega
 show(_,O,_,O,_,O,_,O,fA,dx,u,pW,m,Y,X,us4,E,_,G,y,c,p,O,Nj,le5,py.lO Sw,qT (·.nm) j_.gp.np ep,qT (·.sp) j_.gp.ns ep,(j_.gp.sz p mp).1,(pf2 p mp).1,(pf2 p mp).2.1,λq' nO =>(pf2 q' ((aj2 _ _).subset nO)).2.2,λU T H16 BD k16 Q=>?_);let ar6:=ar5.ko Nj k16;let py6:=Nj.Po k16 (py.lO Sw);generalize (A++[Wu]).eraseIdx k=pn at Q le5 ⊢;show(_,O,_,O,_,O,_,O,_,O,mh Q ar6 hk λB Yq=>(_,O,bq (λc=>nomatch c) (λ_=>?_)));let Z:=Q.lO Yq;let ar7:=ar6.ko Q (KO.of Yq);let py7:=py6.lO Yq;let lu7:T.length=(pn++[U]).length:=GX Z.pp;show cu (λY' H'=>Y' =[some (.ref sA),some (.ref fA),some (.ref Y),some (.ref X),some (.ref aA),some (.int c),some y]/\H'=B) (λNx iU=>iU _ _ #[O,O]) ?_;rintro Y' B ⟨rfl,rfl⟩;show cu (λY' H'=>Mg λ(vs8:ε) (S3:τ)=>Y' =[some (.ref sA),some (.ref fA),some (.ref Y),some (.ref X),some (.ref aA),some (.int c),some y]/\WS K H' C fA dx u pW m Y X T vs8 (pn++[U]) S3/\KO u pW m Y X B H'/\∀x∈G.map (·.nm),x∈S3.map (·.nm)) (λNx iU=>?_) ?_
 ·show(_,O,Y,_,O,.inl (aT.of Z.hp),_,_,O,O,_,O,?_)
  show bq (λcc=>?_) (λ_=>?_)
  ·let c1:1<T.length:=by
    have:=Nl cc;omega
   rw [lu7,HI,V1] at c1;obtain ⟨g,e0⟩:∃g,(pn++[U])[0]?=some g:=#[_,gE (by rw [HI];omega)];let el:(pn++[U])[pn.length]?=some U:=by rw [NQ (DH _),ak6];rfl
   let(u0,eu0,a0,l0,sv0,ws0,rfl,h01,_):=aw (df Z.pp) e0;have anp :hW T 0=some (.ref a0):=bH (j:=0) eu0;let(ta,la,svg,wsg,rfl,hg1,_):=id py7;let(kP,kW,kB,R,W,nW):=Z.fr;let ne0:g.nm≠U.nm:=λz=>by have:=zo Z.gp.np e0 el z;omega
   let m0:=Wp e0;let ml:=Wp el;show(_,O,fA,C,dx,_,_,_,O,R.obj,O,MPb,_,O,Y,_,_,_,O,O,aT.of Z.hp,anp,a0,_,_,_,O,O,h01,bJ,_,O,ta,_,_,_,O,O,hg1,bJ,?_);dsimp only [gQ];rw [<-BD];show(fA,dx,u,pW,m,_,_,kP,kW,kB,"late",g.nm,U.nm,O,R,(by rwa [EL]),(by rw [EL];show DA.mpr (g,m0,O)),(by rw [EL];show DA.mpr (U,ml,O)),ne0,(by rw [be];omega),λH8 kB' k8 R8=>?_);let nP:u≠Y:=λz=>by have h:=R.pl;erw [z,Z.hp] at h
   let nB:Y≠m:=λz=>by have h:=R.br;erw [<-z,Z.hp] at h
   let nBb:X≠m:=λz=>by have h:=R.br;erw [<-z,Z.hb] at h
   let nP':u≠X:=λz=>by have h:=R.pl;erw [z,Z.hb] at h
   let nW':pW≠X:=λz=>by have h:=R.wy;erw [z,Z.hb] at h
   let hb8:=k8 _ _ nBb Z.hb;let hp8:=k8 _ _ nB Z.hp;show(_,O,.inl (O,_,aT.of hb8),_,O,Y,_,O,.inl (aT.of hp8),_,_,O,O,L3,?_);intros t9 n9 H9 s9 e9;let I:=s9 _ _ hb8;let lv7:E.length=G.length:=GX Z.pb;show(X,_,_,O,O,I,(by rw [lv7];show IG (show G.length<=1000 by omega) cr),?_);let kk:KO u pW m Y X B (upd H9 X (.lst (E++[.ref t9]))):=λb o _ _ n3 _ n5 e=>by rw [aj n5];show s9 _ _ (k8 b o n3 e)
   let f:∀b o,b≠X->H9 b=some o->(upd H9 X (.lst (E++[.ref t9]))) b=some o:=λb o n e=>by rwa [aj n]
   let eb:(upd H9 X (.lst (E++[.ref t9]))) X=some (.lst (E++[.ref t9])):=ak;generalize upd H9 X (.lst (E++[.ref t9]))=BF at kk f eb ⊢
   let t10:bg H9 BF:=λb xs r=>by
    rcases r with r|⟨o',r⟩
    ·show .inl (f _ _ (λz=>by erw [z,I] at r) r)
    ·show .inr #[o',f _ _ (λz=>by erw [z,I] at r) r]
   let S:=R8.lO s9;let tt:=Z.t kk;show iU _ _ (E++[.ref t9],G++[("late",g,U)],O,((kP,kW,kB',?_,Z.wys kk W nW,nW),f _ _ Z.ne (s9 _ _ hp8),Paired.b6 Z.pp λ_ _ z=>Z.Po kk z,eb,g_ (Paired.b6 Z.pb λ_ _ z=>?_) (t9,0,pn.length,O,t10.bS (bL.of ?_),e0,el),Z.gp,pC.snoc Z.gb nl (m0,ml,ne0),Z.lp,by rw [HI,V1];omega,Z.ne),kk,λx hx=>by rw [II];show Ny _ hx)
   ·rw [show mpB (G++[("late",g,U)])=mpB G++[(("late":Str),(g.nm,U.nm))] from II]
    show S.lj t10 ((f _ _ (λz=>by have h:=S.obj;erw [z,I] at h) S.obj).trans S.obj.symm) ((f _ _ nP' S.pl).trans S.pl.symm) ((f _ _ nW' S.wy).trans S.wy.symm) ((f _ _ (G' nBb) S.br).trans S.br.symm)
   ·let(a,i,j,e,h1,g1,g2):=z
    show(a,i,j,e,tt.bS h1,g1,g2)
   ·let el2:((T.length:Int)-1)=(pn.length:Int):=by
     rw [lu7,HI,V1];omega
    rw [e9,el2];rfl
  ·show iU _ _ (E,G,O,Z,KO.of (aq.refl _),λx hx=>hx)
 rintro Y' H18 ⟨vs8,S3,rfl,st8,k18,sub⟩;show(_,O,_,O,_,O,_,O,_,O,?_)
 show mh st8 (ar7.ko Z k18) (λkv mH=>by
  let(x,hx,e):=hk kv mH
  show(x,sub x hx,e)) λH19 s19=>q H19
def anq {xs:ε}:gS (x::xs) (some 1) none=xs:=by
 unfold gS
 let h:HT.fZ (x::xs).length 0 (some 1)=1:=by
  simp only [HT.fZ,NX];split<;>omega
 let Z:HT.fZ (x::xs).length (x::xs).length none=(x::xs).length:=rfl;rw [h,Z,List.drop_succ_cons,List.drop_zero,NX,akb,Ni]
inductive vq (K:Frag)(vs:ε)(H:Hp)(Q:VK)(T:XK):Prop
|mk (Z X:Hp)(Y p:BK)(us:ε)(pX:ι)(gV:τ)(U:Β)(L:η)(_:vs=[.ref Y,.ref p])(_:aq Z H)(_:aq X H)(_:Z Y=some (.lst us))(_:Paired (iX K Z) us pX)(_:gx pX)(_:pX.length<=100)(_:xR K Z X pX gV U L p)(_:∀H',aq Z H' ->Q (.bl true) H')
def fK:ay ["_law_pins_here","_law_told","_law_name_here","_law_spot_here","_law_ways_here","_law_part"] CT (ae fB):=sq
def agR (D:Def K mg "_law_spoilt" fB CT)(aV:mg "len"=none):
  ac P w K mg lM 1 "_law_spoilt" CT (vq K):=by
 show D.op fK λf cH A mO s H G Q E hr h=>?_;let(Hb,Ht,pA,p,us,pX,gV,Go,L,rfl,sb,st,hp,pp,gp,lp,told,q):=h;let L2:2<=DC:=cr
 let lu:us.length=pX.length:=GX pp
 let away:∀{H1:Hp} {a:BK} {o:HO},aq Hb H1->Hb a=none->aq Hb (upd H1 a o):=λs n b o' e=>by
  rw [aj (ao e n)];show s _ _ e
 show(_,(aa (bw (bE gm (aF (pv 1)) dB) (ah (bh HG rfl (bo (pv 0)) (eY rfl (aY (bI 2 fK.nd) (aY (bI 3 fK.nd) (aY (bI 4 fK.nd) cM)))) (aa (bw (bE iu (aJ aG rfl aV bV (aZ (cO (bP hr) (aF (pv 1)) (pv 2) (λ_ _=>O)))) (aJ aG rfl aV bV (aZ (pv 4)))) (ah (aE cZ)) aR) (ah (bD (kg Qo Sl SX dD (cO (bP hr) (aF (pv 1)) (pv 2) (λ_ _=>O)) (aZ (aS (aH ag ag))))))))) aR) (aa (bh HG rfl (GZ (cJ (ah6 (K:=K) rfl) (pv 1) (c_ ag) dS)) (bI 5 fK.nd) (ah (bD (zab (pv 5))))) (ah (aE cZ)))),?_);try dsimp only [vw,mi,Cx.BE,Cx.vS]
 show cu (λY' Z=>Ex5 λ(g m B:χ) (x:Str) (J:ψ)=>Y' =[some (.ref pA),some (.ref p),g,m,B,none]/\aq Hb Z/\Z p=some (.tup (.str x::J.map V.ref))/\1<=J.length/\∀d∈J,Hb d=none/\∃AP,Z d=some (.dK AP)) (λNx iU=>?_) ?_
 ·rcases told with ⟨T,U,Lx,M,dT,dU,dM,kT,kU,kM,ht,C,MR,_⟩|⟨M,dM,kM,ht,MR,_⟩
  ·let R:=st _ _ ht
   show(_,O,p,_,_,_,O,O,bL.of R,bJ,O,_,O,bq (λ_=>?_) (λc=>DQ (by simp [rY]) c))
   show(_,O,pA,O,#[_,aT.of (sb _ _ hp)],let I:bn:=λi Y Z=>GJ λ(g m B:χ)=>Y=[ap pA,ap p,g,m,B,none]/\aq Hb Z/\Z p=some (.tup [.str "bent",.ref dT,.ref dU,.ref dM])/\Z dT=some (.dK kT)/\Z dU=some (.dK kU)/\Z dM=some (.dK kM)/\∀(j:Nat)(q:aC),i<=j->pX[j]?=some q->∃G,Z (Lx q.nm)=some (.lst G)/\G.length=q.ws.length;bT (K:=K) (a:=pA) (xs:=us) I (none,none,none,O,sb,R,st _ _ C.hT,st _ _ C.hU,st _ _ MR.hM,λj q _ e=>?_) (λi Y Z _ h=>by
     let(_,_,_,_,s,_):=h
     show aT.of (s _ _ hp)) ?_ ?_)
   ·let mq:=Wp e
    let(G,_,_,c,d):=C.tU q mq;show(G,st _ _ c,by rw [GX d];show C.lU q mq)
   ·rintro i u Y H4 hu ⟨g,m,B,rfl,s4,S,hT4,N,hM4,hL4⟩
    let(x,ex,DZ):=aw pp hu;let mx:x∈pX:=Wp ex;let(ta,l,sv,ws,rfl,h1,h2,h3,h4):=DZ.lO s4;show(ta,_,O,h1,O,_,_,O,_,_,O,_,_,O,O,?_);let(G,hv,lv):=hL4 i x (DH _) ex;let(_,ev,nL,_,_):=C.tU x mx
    let dg:∀{Z:Hp},Z dU=some (.dK kU)->cX Z dU (.str x.nm) (some (.ref (Lx x.nm))):=λ{Z} e=>by
     have:=cX.k (k:=.inr x.nm) e;rwa [ev] at this
    let lws:ws.length=x.ws.length:=GX h4;show(_,O,p,_,_,_,O,O,bL.of S,O,_,O,dU,_,O,dg N,Lx x.nm,_,O,.inl (aT.of hv),_,O,l,_,O,.inl (aT.of h3),O,_,O,bq (λc=>DQ c (by rw [lv,lws];simp)) (λ_=>?_));show(_,O,p,_,_,_,O,O,bL.of S,O,_,O,dU,_,O,dg N,.inl (O,_,aT.of hv),L2,?_);intros t5 n5 H5 s5 e5;let hv5:=s5 _ _ hv;let lwx:=(gp.ws x mx).len;show(Lx x.nm,_,_,O,O,hv5,IG (show G.length<=2 by omega) cr,?_)
    let ot:∀{b:BK} {o:HO},H4 b=some o->(∀xs,o≠.lst xs)->(upd H5 (Lx x.nm) (.lst (G++[.ref t5]))) b=some o:=λ{b o} e n=>by
     rw [aj (λz=>by rw [z,hv] at e;show n _ (JB e).symm)];show s5 _ _ e
    show(_,_,_,O,away (s4.trans s5) nL,ot S (λ_ z=>nomatch z),ot hT4 (λ_ z=>nomatch z),ot N (λ_ z=>nomatch z),ot hM4 (λ_ z=>nomatch z),λj y hj ey=>?_);let(eK,a,b):=hL4 j y ce ey;show(eK,?_,b);rw [aj (λz=>?_)]
    ·show s5 _ _ a
    ·have:=zo gp.np ey ex (C.inj y (Wp ey) x mx z)
     omega
   ·rintro Y H4 ⟨g,m,B,rfl,s4,S,hT4,N,hM4,_⟩
    show iU _ _ (g,m,B,"bent",[dT,dU,dM],O,s4,S,by simp,λd X=>?_)
    rcases JP.mp X with rfl|X
    ·show(C.nT,kT,hT4)
    rcases JP.mp X with rfl|X
    ·show(C.nU,kU,N)
    ·rw [HU.mp X]
     show(MR.nM,kM,hM4)
  ·let R:=st _ _ ht
   show(_,O,p,_,_,_,O,O,bL.of R,bJ,O,_,O,bq (λc=>DQ c (by simp [rY];decide+kernel)) (λ_=>?_));show iU _ _ (none,none,none,"moves",[dM],O,sb,R,by simp,λd X=>?_);rw [HU.mp X];show(MR.nM,kM,st _ _ MR.hM)
 rintro Y' H13 ⟨g,m,B,x,J,rfl,sQ,ant,ld1,XX⟩
 show(_,O,1,O,p,_,O,bL.of ant,(λz=>by
  let h:HT.fZ (V.str x::J.map V.ref).length 0 (some 1)=1:=by
   simp only [HT.fZ,NX];split<;>omega
  rw [h] at z
  show DQ z.1 cr),?_)
 rw [anq];intros t14 n14 H14 O_ e14
 show(t14,O,#[_,bL.of e14],let I:bn:=λi Y Z=>∃(o5:χ),Y=[ap pA,ap p,g,m,B,o5]/\aq Hb Z/\Z t14=some (.tup (J.map V.ref))/\∀d∈J,∃AP,Z d=some (.dK AP);ajd (K:=K) (a:=t14) (xs:=J.map V.ref) I (none,O,sQ.trans O_,e14,λd X=>?_) (λi Y Z _ h=>by
   let(_,_,_,h,_):=h
   show bL.of h) ?_ ?_)
 ·let(_,AP,h):=XX d X
  show#[AP,O_ _ _ h]
 ·rintro i z Y H15 hz ⟨o5,rfl,Sw,e15,h15⟩
  obtain ⟨d,md,rfl⟩:∃d,d∈J/\z=.ref d:=by
   rw [CP] at hz;cases X:J[i]? with
   | none=>erw [X] at hz
   | some d=>show(d,Wp X,by rw [X] at hz;show(JB hz).symm)
  let(AP,X):=h15 d md;show(_,O,d,AP,O,X,?_);show(_,O,away Sw (XX d md).1,?_,λd' PX =>?_)
  ·rw [aj (λe=>by erw [e,X] at e15)]
   show e15
  ·by_cases c:d'=d
   ·rw [c]
    show#[[],ak]
   ·rw [aj c]
    show h15 d' PX
 ·rintro Y H15 ⟨o5,rfl,Sw,_,_⟩
  show q _ Sw
theorem MV.ref (h:MV K H0 H d T gV Go n):∀Z∈T,iY Z.2=true\/∃c,Z.2=.ref c:=λZ X=>by
 let(t,S):=JG X;let(x,_,R):=h.ks Z X;let ev:=lX (k:=.inr x) (v:=Z.2) h.nd (by rw [S,<-R])
 rcases h.nm x with ⟨z,_⟩|⟨v,r,Y,_,p,U,_⟩
 ·rw [ev] at z
  cases z
 ·rw [ev] at Y
  cases Y;show .inr #[p,U]
theorem xO.ref (h:xO K H d AP pX L):∀Z∈AP,iY Z.2=true\/∃c,Z.2=.ref c:=λZ Y=>by
 let(t,X):=JG Y;let(x,_,_,c,_,_,e,_):=h.at (k:=Z.1) (y:=Z.2) X;show .inr #[c,e]
def jd:ay ["_law_script","_law_pins_here","_law_bars_here","_law_frame_here","_law_grips_here","_law_load_here","_law_made","_law_handed","_law_told"] ["_law_script"] (ae oK):=sq
def abc (F:sH K "law" "law" oK f fd)(fg:mg "dict"=none)
  (j8:ac P w K mg lM 1 "_law_cell_at" RO (jc K)) (cS:ac P w K mg lM 1 "_law_field" Pb eQ) (anv:ac P w K mg lM 35 "_law_pins" CS (ze K)) (anw:ac P w K mg lM 3 "_law_bars" VQ (zf K)) (anx:ac P w K mg lM 5 "_law_frame" zu (u9 K C))
  (EO:ac P w K mg lM 34 "_law_grips" CV (vk K)) (anz:ac P w K mg lM 34 "_law_load" VQ (zA K)) (aa':ac P w K mg lM 35 "_law_borne" σ5 (pK K)) (qS:ac P w K mg lM 40 "bend_of" u5 (uX K C)) (aba:ac P w K mg lM 37 "_law_right" V3 (tw K)) (zK:ac P w K mg lM 1 "_law_spoilt" CT (vq K)) (ER:ac P w K mg lM 42 "_law_later" VR (zH K C)) (YC:am P w K mg lM 1 C "bars" JS (jR K C)):
  ad P w K mg lM 43 f fd ["_law_script"] (QT K):=by
 show F.okG jd (λvs H Q E h=>?_) (λcH A mO s H vs Q E J h=>?_)
 ·let(a,x,rfl,_):=h
  rfl
 let(Z,x,rfl,hS,hn,hb,q):=h;let L2:2<=DC:=cr
 let L3:3<=DC:=cr
 show(_,(aa (aI 1 jd.nd (aL anv J (aH (pv 0) ag))) (aa (aI 2 jd.nd (aL anw J (aH (pv 0) (pv 1)))) (aa (aI 3 jd.nd (aL anx J (aH (pv 1) (pv 2)))) (aa (aI 4 jd.nd (aL EO J (aH (pv 0) (pv 2)))) (aa (aI 5 jd.nd (aL anz J (aH (pv 0) (pv 1)))) (aa (aI 6 jd.nd (iz gm (aL cS J (bu (aL j8 J (aH (pv 0) ag)) ag ag)) ag (jI _))) (aa (bw (bZ (pv 6)) (ah (aI 5 jd.nd (aL aa' J (bu (pv 0) (pv 1) (pv 2))))) aR) (aa (aI 7 jd.nd (bY (aH (cv uv rfl fg qk (aZ (pv 4))) (cv uv rfl fg qk (aZ (pv 5)))))) (aa (aI 8 jd.nd (aL qS J (bu (pv 3) (oJ (pv 7)) (oJ (pv 7))))) (aa (bw (PW.pt (gj (cL (bZ (aL aba J (iL (pv 1) (iL (pv 2) (bu (pv 4) (pv 8) (pv 5))))))) (gy (PW.pt (tI (bZ (pv 6)) (nY (bE iu (aF (pv 8)) dB))))))) (ah (aE cZ)) aR) (aa (bw (PW.pt (gj (cL (bZ (aL zK J (aH (pv 1) (pv 8))))) (gj (bE (ab' J.units) (pv 7) (bY (aH (pv 4) (pv 5)))) (gy (bE (oE J.units) (fk (k:=1) (pv 3) J.mo (pY P w)) (dX (tn:=["_law_bar"]) (fr:=[]) (pO:=[]) (bo (pv 2)) (bB (cN (K:=K) rfl) (pv 0) ag))))))) (ah (aE cZ)) aR) (ah (aE (aL ER J (iL (pv 0) (iL (pv 3) (bu (pv 1) (pv 2) (aS (bu (pv 4) (pv 5) (pv 6)))))))))))))))))))),?_);try dsimp only [vw,mi,Cx.BE,Cx.vS]
 show(_,O,Z,x,4,O,hS,λX y I H1 s1 nP eP ppx gp lp pf=>?_);let lu:y.length=I.length:=GX ppx;show(_,O,_,O,Z,X,x,y,I,O,s1.seq hS,eP,lu,gp.np,lp,λS vs o H2 s2 nB eB pb gb lb nl=>?_);let pp2:Paired (iX K H2) y I:=Paired.b6 ppx λ_ _ z=>z.r.lO s2;let eP2:=s2 _ _ eP;show(_,O,_,O,X,S,y,vs,I,o,O,eP2,pp2,eB,pb,gp,gb,ce,ce,λfA dx pP pW pB kP kW kB H3 s3 R W nw n3P n3W n3B=>?_);let kr:=s1.trans s2;let BJ:=kr.trans s3;let neL:X≠S:=λz=>by erw [z,nB] at eP
 let BR:WS K H3 C fA dx pP pW pB X S y vs I o:=((kP,kW,kB,R,W,λkv mH=>#[nw kv mH _ _ eP2,nw kv mH _ _ eB]),s3 _ _ eP2,Paired.b6 ppx λ_ _ z=>by
  let(a,l,sv,ws,e,h1,h2,h3,h4,h5):=z;let sQ:=s2.trans s3
  show(a,l,sv,ws,e,Ty.aq.bS sQ h1,h2.lO sQ,sQ _ _ h3,h4.lO sQ,h5,λz=>by erw [z,nB] at h3),s3 _ _ eB,Paired.b6 pb λ_ _ z=>z.lO s3,gp,gb,ce,ce,neL)
 let g:=BR.g
 let osA:∀N H'':Hp,aq H N ->KO pP pW pB X S N H'' ->aT K H'' Z (x.map V.int):=λN H'' s' k=>by
  rcases hS with r|r
  ·let ns5:Z≠pP/\Z≠pW/\Z≠pB/\Z≠X/\Z≠S:=by
    rcases r with r|⟨o',r⟩<;>show(ao r (kr.free n3P),ao r (kr.free n3W),ao r (kr.free n3B),ao r nP,ao r (s1.free nB))
   show k.seq ns5 (s'.seq (.inl r))
  ·show .inr r
 show(_,O,_,O,Z,S,x,vs,I,o,O,BJ.seq hS,BR.hb,BR.pb,ce,λm kG Go H4 nG g4=>?_);let s4:=g4.s;let LL:=BR.lO s4;let qc:=BJ.trans s4;let og:=BR.fresh nG;show(_,O,_,O,Z,X,x,y,I,O,qc.seq hS,hb,LL.hp,LL.pr,ce,λY kL L H5 s5 nL ld lk=>?_);let p_:=qc.trans s5;let ol:=LL.fresh nL;show(_,O,Z,x,2,O,p_.seq hS,cr,cr,_,_,_,O,cr,cr,cr,O,?_);generalize decide (V.int (field (cell x 2) 1009 2)=V.int 0)=md;show cu (λG N=>G =[some (.ref Z),some (.ref X),some (.ref S),some (.ref fA),some (.ref m),some (.ref Y),some (.bl md),none,none]/\N=H5) (λNx B=>B _ _ #[O,O]) ?_;rintro G H5 ⟨rfl,rfl⟩;show cu (λG N=>GJ λ(Y:BK) (kL:γ) (L:η)=>G =[some (.ref Z),some (.ref X),some (.ref S),some (.ref fA),some (.ref m),some (.ref Y),some (.bl md),none,none]/\aq H5 N/\xO K N Y kL I L/\kL.length<=9/\(Y≠pP/\Y≠pW/\Y≠pB/\Y≠X/\Y≠S)/\(md=true->∃T U,ig I o T U L)) (λNx B=>?_) ?_
 ·show(_,O,_,O,?_)
  cases md
  ·show bq (λc=>nomatch c) (λ_=>?_)
   show B _ _ (Y,kL,L,O,aq.refl _,ld,lk,ol,λc=>nomatch c)
  ·show bq (λ_=>?_) (λc=>DQ rfl c)
   let Nj:=LL.lO s5;show(_,O,_,O,_,O,Z,X,S,x,y,vs,I,o,O,p_.seq hS,Nj.lf,g,gb.nb,λd3 abb L3 T U H6 s6 n6 ld3 lk3 rest=>?_);show B _ _ (d3,abb,L3,O,s6,ld3,lk3,Nj.fresh n6,λ_=>(T,U,rest))
 clear ld lk ol nL;rintro G H6 ⟨Y,kL,L,rfl,s6,ld,lk,ol,rest⟩;let BG:=s5.trans s6;let qa:=qc.trans BG;let st6:=LL.lO BG;let g6:=g4.lO BG;show(_,O,m,_,O,.inl g6.hd,?_);intros h7 n7 H7 s7 e7;let ld7:=ld.lO s7;show(_,O,Y,_,O,.inl ld7.hd,?_);intros h8 n8 H8 s8 e8;show#[L2,?_];intros l9 n9 H9 s9 e9;let s79:=s8.trans s9;let s69:=s7.trans s79;let MZ:=st6.lO s69;let g9:=g6.lO s69;let i:=ld.lO s69;let gn9:T4 K H9 h7 kG Go:=(s79 _ _ e7,g9.nm,g9.ps);let gr9:T4 K H9 m kG Go:=(g9.hd,g9.nm,g9.ps);let ln9:xO K H9 h8 kL I L:=(s9 _ _ e8,i.pt,i.nk,i.ks,i.sz,i.ll);show(_,O,_,O,l9,_,_,_,O,O,aT.of e9,i6,_,O,l9,_,_,_,O,O,aT.of e9,iW,ajf MZ.fa g MZ.lp MZ.lb gn9 g9.ks ln9 λp Ha sa D=>?_);let sta:=MZ.lO sa;show cu (λG N=>G =[some (.ref Z),some (.ref X),some (.ref S),some (.ref fA),some (.ref m),some (.ref Y),some (.bl md),some (.ref l9),some (.ref p)]/\N=Ha) (λNx B=>B _ _ #[O,O]) ?_;rintro G Ha ⟨rfl,rfl⟩;show cu (λG N=>G =[some (.ref Z),some (.ref X),some (.ref S),some (.ref fA),some (.ref m),some (.ref Y),some (.bl md),some (.ref l9),some (.ref p)]/\aq Ha N) (λNx B=>?_) ?_
 ·show(_,O,_,O,_,O,_,O,_,O,X,S,m,p,Y,y,vs,kG,kL,I,o,Go,L,O,sta.lf,gr9.lO sa,i.lO sa,lk,D.r i.hd,λHc sc=>(_,O,bq (λc=>nomatch c) (λ_=>?_)))
  show(_,O,_,O,?_);cases md
  ·show bq (λc=>nomatch c) λ_=>B _ _ #[O,sc]
  ·let(T,U,zF):=rest rfl
   let(dT,dU,dM,ep):=D.agc g zF;show bq (λ_=>?_) (λc=>DQ rfl c);show(_,O,p,_,_,_,O,O,bL.of (sc _ _ ep),bJ,O,_,O,tS rfl (B _ _ #[O,sc]))
 rintro G Hc ⟨rfl,sc⟩;show cu (λG N=>G =[some (.ref Z),some (.ref X),some (.ref S),some (.ref fA),some (.ref m),some (.ref Y),some (.bl md),some (.ref l9),some (.ref p)]/\aq H9 N) (λNx B=>?_) ?_
 ·show(_,O,_,O,H9,Ha,X,p,y,I,o,Go,L,O,sa.trans sc,sc,MZ.hp,MZ.pr,gp,ce,D,λHd sd=>(_,O,bq (λc=>nomatch c) (λ_=>?_)))
  show(_,O,_,O,_,O,L2,?_);intros lc nc He se ec;let M:=sd.trans se;show(l9,lc,_,_,O,O,aT.of (M _ _ e9),aT.of ec,O,λj u v e1 e2=>?_,_,O,bq (λc=>nomatch c) (λ_=>?_))
  ·rcases j with _|_|j
   ·cases e1
    cases e2;show(h7,m,kG,O,O,.inl (M _ _ gn9.hd),.inl (M _ _ gr9.hd),g9.ref)
   ·cases e1
    cases e2;show(h8,Y,kL,O,O,.inl (M _ _ ln9.hd),.inl (M _ _ i.hd),i.ref)
   ·cases e1
  let ste:=MZ.lO M;let(IW,rA,kB',R',W',_):=ste.fr;show(_,O,fA,C,dx,_,_,_,O,R'.obj,O,YC,?_);dsimp only [gQ];show(fA,dx,pP,pW,pB,_,_,IW,rA,kB',O,R',λl1 Hf sf n1 e1=>?_);rw [show(mpB o).map (·.1)=o.map (·.nm) by rw [EL];rfl] at e1;let stf:=ste.lO sf;show(_,O,S,O,#[_,aT.of stf.hb],λD2 n2=>?_);show pH (nm:=a_.nm) n2 stf.hb (ve stf.pb) ce λHg sg e2=>?_;show tf (sg _ _ e1) e2 (_,O,bq (λc=>nomatch c) λ_=>B _ _ #[O,M.trans (sf.trans sg)])
 rintro G Hh ⟨rfl,sh⟩;show(_,O,_,O,_,O,_,O,_,O,_,O,_,O,L3,?_);intros aA na Hi si ei;let b:=sh.trans si;let s0i:=qa.trans (s69.trans b);let ldi:=i.lO b;show(Z,fA,dx,pP,pW,pB,X,S,aA,m,Y,md,x,y,vs,I,o,kG,kL,Go,L,O,MZ.lO b,(λN k=>osA _ N s0i k,bL.of ei,gr9.lO b,ldi.hd,ldi.pt,ldi.sz,og,ol),g9.ks,lp,lb,pf,nl,q)
end
def all_mk {l:PySem.W.OpenLaw}{w:World}{K:Frag}{h:Heap}{mg:ν}{fa:BK}(X:K.In h)(G:h.Ns HL mg)(hfa:mg "law"=some (.ref fa))
  (S4:pR K "sum_of" iP) (anG:pR K "difference_of" IQ) (zN:pR K "product_of" dY) (anK:pR K "lowest_terms" DK) (anO:pR K "greatest_shared" N_) (vv:pR K "lengthenings" dH) (anS:pR K "arm_between" Oa) (anW:pR K "pair_difference" IS) (vA:pR K "pair_product" cU) (an1:pR K "pair_row" Ob) (an5:pR K "load_row" Oc) (zR:pR K "check_bars" fq) (an9:pR K "bar_row" Od) (aoc:pR K "draw_rows" Oe) (aog:pR K "pulls_and_pushes" Of) (aok:pR K "motion_from" Og) (aoo:pR K "signs_turned" Oh) (aos:pR K "solve_rows" Oi) (aow:pR K "turned" Oj) (aoA:pR K "whole_row" Ol) (aoE:pR K "solution_of" Om) (aoI:pR K "reduced" Oo) (aoM:pR K "first_not_nought" Oq) (aoQ:pR K "cleared" Ot) (aoU:pR K "divided" Ou) (Pu:pR K "bend_of" iG) (ET:pR K "all_grips" fP) (Pz:pR K "gripped" iH) (EX:pR K "bend_rows" fQ) (z_:pR K "stiff_rows" ft) (aoY:pR K "_law_cell_at" Ov) (ao2:pR K "_law_field" Ow) (ao6:pR K "_law_lowest" Ox) (ao':pR K "_law_sum" Oy) (apd:pR K "_law_times" Oz) (aph:pR K "_law_turned" OA) (KA:pR K "_law_same" gC) (apl:pR K "_law_name" OB) (apq:pR K "_law_number" OC) (apu:pR K "_law_spot" OD) (apy:pR K "_law_ways" OE) (apC:pR K "_law_pins" OF) (apG:pR K "_law_bars" OG) (wD:pR K "_law_put_pin" eE) (apK:pR K "_law_frame" OH) (apO:pR K "_law_arm" OI) (apS:pR K "_law_add" OJ) (apW:pR K "_law_forces" OK) (ap0:pR K "_law_are_forces" OL) (ap4:pR K "_law_is_motion" OM) (ap8:pR K "_law_at_rest" ON) (aqb:pR K "_law_dot" OO) (aqf:pR K "_law_longer" OP) (aqj:pR K "_law_keeps" OQ) (aqn:pR K "_law_work" OR) (FD:pR K "_law_grips" fS) (FH:pR K "_law_pulls" fT) (AG:pR K "_law_pushes" fu) (wK:pR K "_law_load_by" eI) (KH:pR K "_law_bent" gD) (aqr:pR K "_law_load" s_by) (aqv:pR K "_law_right" OS) (aqz:pR K "_law_borne" OT) (wO:pR K "_law_pin_out" eJ) (AK:pR K "_law_pin_in" fw) (FN:pR K "_law_again" fU) (FR:pR K "_law_later" fV) (AR:pR K "_law_spoilt" fB) (ahK:nsIn K HL "law"=some (some (.ref YU))) (ahL:K.lookup YU=some (aqD,aqE,.func (fnOf "law" "law" (av oK) (au oK) (ae oK) .none abv abw abx aby Tx abz),aqF)) (ahM:codeIn K Tx "law"=true) (ahN:keepIn K (.ref YU)=true) (aqG:nsIn K HL "MOST_PINS"=some (some (.int 24 aB1))) (aqH:nsIn K HL "MOST_BARS"=some (some (.int 60 aB2))) (aqI:nsIn K HL "NOUGHT"=some (some (.ref abA))) (aqJ:K.lookup abA=some (.type "tuple",aB3,.seq (List.toArray [.int 0 aqK,.int 1 aqL]) aB4,aB5)) (aqM:nsIn K HL "ONE"=some (some (.ref abB))) (aqN:K.lookup abB=some (.type "tuple",aB6,.seq (List.toArray [.int 1 aqO,.int 1 aqP]) aB7,aB8)) (aqQ:nsIn K HL "NO_MOVE"=some (some (.ref abC))) (aqR:K.lookup abC=some (.type "tuple",aB9,.seq (List.toArray [.ref ahO,.ref ahP]) aB',aCa)) (aqS:K.lookup ahO=some (.type "tuple",aCb,.seq (List.toArray [.int 0 aqT,.int 1 aqU]) aCc,aCd)) (aqV:K.lookup ahP=some (.type "tuple",aCe,.seq (List.toArray [.int 0 aqW,.int 1 aqX]) aCf,aCg)) (AW:nsIn K HL "ValueError"=some none) (ahQ:nsIn K HL "abs"=some none) (ahR:nsIn K HL "all"=some none) (ahS:nsIn K HL "any"=some none) (abD:nsIn K HL "bool"=some none) (abE:nsIn K HL "dict"=some none) (FW:nsIn K HL "enumerate"=some none) (ahT:nsIn K HL "int"=some none) (AX:nsIn K HL "isinstance"=some none) (ahU:nsIn K HL "len"=some none) (abF:nsIn K HL "list"=some none) (ahV:nsIn K HL "min"=some none) (Xq:nsIn K HL "range"=some none) (ahW:nsIn K HL "str"=some none) (Xr:nsIn K HL "tuple"=some none) (ahX:nsIn K HL "zip"=some none) (aqY:nsIn K HL "YardError"=some (some (.ref aqZ))) (aq0:nsIn K HL "NoWay"=some (some (.ref aq1))) (aq2:nsIn K HL "PinThere"=some (some (.ref aq3))) (aq4:nsIn K HL "SpotTaken"=some (some (.ref aq5))) (aq6:nsIn K HL "NoPin"=some (some (.ref aq7))) (PK:nsIn K HL "PinBusy"=some (some (.ref PM))) (aq8:nsIn K HL "BarThere"=some (some (.ref aq9))) (aq':nsIn K HL "NoBar"=some (some (.ref ara))) (arb:nsIn K HL "NoLength"=some (some (.ref arc))) (ard:nsIn K HL "TooMany"=some (some (.ref arf))) (Tz:nsIn K HL "NoGrip"=some (some (.ref TB))) (arh:nsIn K HL "Frame"=some (some (.ref ck))) (ari:nsIn K HL "Hold"=some (some (.ref sy))) (arj:nsIn K HL "Roller"=some (some (.ref mD))) (ark:nsIn K HL "Fixed"=some (some (.ref qU))) (ahY:Vn K ck Str.empty=true) (ahZ:Wf K ck=true) (ah0:ZN K ck=true) (ah1:NT K (.ref ck) "__setattr__"=some (some (.builtin "object.__setattr__"))) (ah2:Vm K ck=true) (ah3:keepIn K (.ref ck)=true) (M:vx K ck "__init__" "Frame.__init__" OU) (aro:NT K (.ref ck) "put_pin"=some (some (.ref Xs))) (arp:vp K (.ref Xs)=true) (arq:K.lookup Xs=some (aCp,aCq,.func (fnOf "put_pin" "Frame.put_pin" (av r8) (au r8) (ae r8) (.ref TF) YV YW YX YY TH YZ),aCr)) (ah8:K.lookup TF=some (aCs,ars,.seq (List.toArray [.none]) aCt,art)) (aru:codeIn K TH "Frame.put_pin"=true) (ah9:keepIn K (.ref Xs)=true) (A:vx K ck "put_bar" "Frame.put_bar" OV) (B:vx K ck "check_bar" "Frame.check_bar" OW) (p:vx K ck "check_pin" "Frame.check_pin" OX) (qV:vx K ck "take_pin" "Frame.take_pin" cR) (q:vx K ck "pins" "Frame.pins" OY) (u:vx K ck "bars" "Frame.bars" OZ) (x:vx K ck "place" "Frame.place" O0) (y:vx K ck "ways" "Frame.ways" O1) (z:vx K ck "ends" "Frame.ends" O3) (aiq:Vn K sy Str.empty=true) (air:Wf K sy=true) (ais:ZN K sy=true) (ait:NT K (.ref sy) "__setattr__"=some (some (.builtin "object.__setattr__"))) (aiu:Vm K sy=true) (aiv:keepIn K (.ref sy)=true) (aiw:NT K (.ref sy) "__init__"=some (some (.builtin "object.__init__"))) (m:vx K sy "ways" "Hold.ways" VO) (aiz:Vn K mD Str.empty=true) (aiA:Wf K mD=true) (aiB:ZN K mD=true) (aiC:NT K (.ref mD) "__setattr__"=some (some (.builtin "object.__setattr__"))) (aiD:Vm K mD=true) (aiE:keepIn K (.ref mD)=true) (N:vx K mD "__init__" "Roller.__init__" O5) (C:vx K mD "ways" "Roller.ways" O6) (aiL:Vn K qU Str.empty=true) (aiM:Wf K qU=true) (aiN:ZN K qU=true) (aiO:NT K (.ref qU) "__setattr__"=some (some (.builtin "object.__setattr__"))) (aiP:Vm K qU=true) (aiQ:keepIn K (.ref qU)=true) (aiR:NT K (.ref qU) "__init__"=some (some (.builtin "object.__init__"))) (D:vx K qU "ways" "Fixed.ways" O7) (TK:NT K (.ref ck) "pin_places"=some none) (abG:NT K (.ref ck) "pin_ways"=some none) (abH:NT K (.ref ck) "bar_ends"=some none) (σ0:NT K (.ref mD) "way"=some none) (ht:l.prog.given.tree=none):
  ∃fd:FuncData,(∀(s:DI)(v:Value),BindsTo s fd #[[v],[]] [("_law_script",v)])/\∀lM:Heap,K.In lM->lM.Ns HL mg->dR l.prog w K mg lM (aX l.prog w) 43 fa fd ["_law_script"] (QT K):=by
 let e:=hfa.symm.trans (mg_of X G ahK);cases e;let(M,ah5,arl,arn,ah7):=M;let(A,arw,arx,ary,aia):=A;let(B,arA,arB,arC,aic):=B;let(p,arE,arF,arG,aie):=p;let(qV,qW,qX,qY,jD):=qV;let(q,arI,arJ,arK,aih):=q;let(u,arM,arN,arO,aij):=u;let(x,arQ,arR,arS,ail):=x;let(y,arU,arV,arW,ain):=y;let(z,arY,arZ,ar0,aip):=z;let(m,ar9,ar',asa,aiy):=m;let(N,aiG,asb,asd,aiI):=N;let(C,asf,ash,asi,aiK):=C;let(D,asl,asm,asn,aiT):=D;let TL:Def K mg _ _ ["one","other"]:=fE X G S4;let aso:Def K mg _ _ ["one","other"]:=fE X G anG;let AY:Def K mg _ _ ["one","other"]:=fE X G zN;let asp:Def K mg _ _ ["top","bottom"]:=fE X G anK;let asq:Def K mg _ _ ["one","other"]:=fE X G anO;let vJ:Def K mg _ _ ["F","motion"]:=fE X G vv;let asr:Def K mg _ _ ["F","one","other"]:=fE X G anS;let ass:Def K mg _ _ ["one","other"]:=fE X G anW;let vK:Def K mg _ _ ["one","other"]:=fE X G vA;let asu:Def K mg _ _ ["F","draws"]:=fE X G an1;let asv:Def K mg _ _ ["F","load"]:=fE X G an5;let AZ:Def K mg _ _ ["F","told"]:=fE X G zR;let asw:Def K mg _ _ ["F","one","other"]:=fE X G an9;let asx:Def K mg _ _ ["F"]:=fE X G aoc;let asy:Def K mg _ _ ["F","numbers"]:=fE X G aog;let asz:Def K mg _ _ ["F","numbers"]:=fE X G aok;let asA:Def K mg _ _ ["numbers"]:=fE X G aoo;let asB:Def K mg _ _ ["rows","due","many"]:=fE X G aos;let asC:Def K mg _ _ ["rows","many"]:=fE X G aow;let asD:Def K mg _ _ ["row"]:=fE X G aoA;let asE:Def K mg _ _ ["lines","many"]:=fE X G aoE;let asF:Def K mg _ _ ["lines","many"]:=fE X G aoI;let asG:Def K mg _ _ ["lines","column"]:=fE X G aoM;let asH:Def K mg _ _ ["line","lead","column"]:=fE X G aoQ;let asI:Def K mg _ _ ["line"]:=fE X G aoU;let PQ:Def K mg _ _ ["F","grips","load"]:=fE X G Pu;let FX:Def K mg _ _ ["F","grips"]:=fE X G ET;let PV:Def K mg _ _ ["firm","longer"]:=fE X G Pz;let FY:Def K mg _ _ ["F","firm"]:=fE X G EX;let A_:Def K mg _ _ ["F","firm","bar_rows"]:=fE X G z_;let asJ:Def K mg _ _ ["_law_script","_law_k"]:=fE X G aoY;let asK:Def K mg _ _ ["_law_cell","_law_prime","_law_many"]:=fE X G ao2;let asL:Def K mg _ _ ["_law_top","_law_bottom"]:=fE X G ao6;let asM:Def K mg _ _ ["_law_one","_law_other"]:=fE X G ao';let asN:Def K mg _ _ ["_law_one","_law_other"]:=fE X G apd;let asO:Def K mg _ _ ["_law_one"]:=fE X G aph;let KP:Def K mg _ _ ["_law_one","_law_other"]:=fE X G KA;let asP:Def K mg _ _ ["_law_cell","_law_k"]:=fE X G apl;let asQ:Def K mg _ _ ["_law_x"]:=fE X G apq;let asR:Def K mg _ _ ["_law_cell","_law_kind"]:=fE X G apu;let asS:Def K mg _ _ ["_law_cell"]:=fE X G apy;let asT:Def K mg _ _ ["_law_script","_law_most"]:=fE X G apC;let asU:Def K mg _ _ ["_law_script","_law_pins_here"]:=fE X G apG;let wY:Def K mg _ _ ["_law_frame_here","_law_name_here","_law_spot_here","_law_ways_here"]:=fE X G wD;let asV:Def K mg _ _ ["_law_pins_here","_law_bars_here"]:=fE X G apK;let asW:Def K mg _ _ ["_law_pins_here","_law_bar","_law_axis"]:=fE X G apO;let asX:Def K mg _ _ ["_law_found","_law_k","_law_axis","_law_draw"]:=fE X G apS;let asY:Def K mg _ _ ["_law_pins_here","_law_bars_here","_law_pulls_here","_law_pushes_here"]:=fE X G apW;let asZ:Def K mg _ _ ["_law_pins_here","_law_bars_here","_law_pulls_here","_law_pushes_here"]:=fE X G ap0;let as0:Def K mg _ _ ["_law_pins_here","_law_motion"]:=fE X G ap4;let as1:Def K mg _ _ ["_law_pins_here","_law_bars_here","_law_pulls_here","_law_pushes_here","_law_load_here"]:=fE X G ap8;let as2:Def K mg _ _ ["_law_one","_law_other"]:=fE X G aqb;let as3:Def K mg _ _ ["_law_pins_here","_law_bar","_law_motion"]:=fE X G aqf;let as4:Def K mg _ _ ["_law_pins_here","_law_motion"]:=fE X G aqj;let as5:Def K mg _ _ ["_law_load_here","_law_motion"]:=fE X G aqn;let FZ:Def K mg _ _ ["_law_script","_law_bars_here"]:=fE X G FD;let F_:Def K mg _ _ ["_law_script","_law_bars_here","_law_start"]:=fE X G FH;let BA:Def K mg _ _ ["_law_script","_law_pins_here","_law_start"]:=fE X G AG;let wZ:Def K mg _ _ ["_law_pins_here","_law_bars_here","_law_pulls_here","_law_pushes_here"]:=fE X G wK;let KQ:Def K mg _ _ ["_law_pins_here","_law_bars_here","_law_grips_here","_law_told","_law_load_here"]:=fE X G KH;let as6:Def K mg _ _ ["_law_script","_law_pins_here"]:=fE X G aqr;let as7:Def K mg _ _ ["_law_pins_here","_law_bars_here","_law_grips_here","_law_told","_law_load_here"]:=fE X G aqv;let as8:Def K mg _ _ ["_law_script","_law_pins_here","_law_bars_here"]:=fE X G aqz;let w4:Def K mg _ _ ["_law_frame_here","_law_pins_here","_law_bars_here","_law_cell"]:=fE X G wO;let BB:Def K mg _ _ ["_law_frame_here","_law_pins_here","_law_gone","_law_cell"]:=fE X G AK;let F':Def K mg _ _ ["_law_script","_law_frame_here","_law_pins_here","_law_bars_here","_law_asked"]:=fE X G FN;let GB:Def K mg _ _ ["_law_script","_law_frame_here","_law_pins_here","_law_bars_here","_law_asked"]:=fE X G FR;let BC:Def K mg _ _ ["_law_pins_here","_law_told"]:=fE X G AR;let S:BW K ck:=(ahY,ahZ,ah0,ah1);let aaU:Mk K ck _:=(ah2,M,ah5,ah3);let aiU:=eZ (st:=OU) arl arn ah7;let aaW:=aiU.Mi (ps:=["self"]);let aIN:Meth K ck "__init__" _:=(M,ah5,ah7);let as9:=zag (st:=r8) arq aru ah9;let as':Binds K (fnOf "put_pin" "Frame.put_pin" (av r8) (au r8) (ae r8) (.ref TF) YV YW YX YY TH YZ) ["self","name","x","y","hold"] []:=λs I X hl=>by let(a,b,c,d,e,rfl):=bl5 (P:=λI=>∃a b c d e,I=[a,b,c,d,e]) (λa b c d e=>(a,b,c,d,e,O)) I (by simpa using hl);show BindsTo.of_defaults rfl (X _ _ ah8) rfl rfl rfl
 let aiV:Binds K (fnOf "put_pin" "Frame.put_pin" (av r8) (au r8) (ae r8) (.ref TF) YV YW YX YY TH YZ) ["self","name","x","y","hold"] [.none]:=λs I X hl=>by let(a,b,c,d,rfl):=bl4 (P:=λI=>∃a b c d,I=[a,b,c,d]) (λa b c d=>(a,b,c,d,O)) I (by simpa using hl);show BindsTo.of_defaults rfl (X _ _ ah8) rfl rfl rfl
 let aiW:Meth K ck "put_pin" Xs:=(aro,arp,ah9);let aiX:=eZ (st:=OV) arx ary aia;let ata:=aiX.Mi (ps:=["self","name","one","other"]);let atb:Meth K ck "put_bar" _:=(A,arw,aia);let aiY:=eZ (st:=OW) arB arC aic;let atc:=aiY.Mi (ps:=["self","name","one","other"]);let atd:Meth K ck "check_bar" _:=(B,arA,aic);let aiZ:=eZ (st:=OX) arF arG aie;let ate:=aiZ.Mi (ps:=["self","pin"]);let atf:Meth K ck "check_pin" _:=(p,arE,aie);let jE:=eZ (st:=cR) qX qY jD;let qZ:=jE.Mi (ps:=["self","name"]);let q0:Meth K ck "take_pin" _:=(qV,qW,jD);let ai0:=eZ (st:=OY) arJ arK aih;let atg:=ai0.Mi (ps:=["self"]);let ath:Meth K ck "pins" _:=(q,arI,aih);let ai1:=eZ (st:=OZ) arN arO aij;let ati:=ai1.Mi (ps:=["self"]);let atj:Meth K ck "bars" _:=(u,arM,aij);let ai2:=eZ (st:=O0) arR arS ail;let atk:=ai2.Mi (ps:=["self","pin"]);let atl:Meth K ck "place" _:=(x,arQ,ail);let ai3:=eZ (st:=O1) arV arW ain;let atm:=ai3.Mi (ps:=["self","pin"]);let atn:Meth K ck "ways" _:=(y,arU,ain);let ai4:=eZ (st:=O3) arZ ar0 aip;let ato:=ai4.Mi (ps:=["self","bar"]);let atp:Meth K ck "ends" _:=(z,arY,aip);let cls_cm:BW K sy:=(aiq,air,ais,ait);let aIO:Mk0 K sy:=(aiu,aiw,aiv);let atq:=eZ (st:=VO) ar' asa aiy;let aIP:=atq.Mi (ps:=["self"]);let aIQ:Meth K sy "ways" _:=(m,ar9,aiy);let KR:BW K mD:=(aiz,aiA,aiB,aiC);let aaS:Mk K mD _:=(aiD,N,aiG,aiE);let ai5:=eZ (st:=O5) asb asd aiI;let aaT:=ai5.Mi (ps:=["self","x","y"]);let aIR:Meth K mD "__init__" _:=(N,aiG,aiI);let ai6:=eZ (st:=O6) ash asi aiK;let atr:=ai6.Mi (ps:=["self"]);let ats:Meth K mD "ways" _:=(C,asf,aiK);let abI:BW K qU:=(aiL,aiM,aiN,aiO);let aaR:Mk0 K qU:=(aiP,aiR,aiQ);let ai7:=eZ (st:=O7) asm asn aiT;let att:=ai7.Mi (ps:=["self"]);let atv:Meth K qU "ways" _:=(D,asl,aiT);let aan:=mg_of X G aqG;let aap:=mg_of X G aqH;let qI:mg "NOUGHT"=some (.ref abA):=mg_of X G aqI;let aaC:mg "ONE"=some (.ref abB):=mg_of X G aqM;let IZ:mg "NO_MOVE"=some (.ref abC):=mg_of X G aqQ;let aIS:mg "YardError"=some (.ref aqZ):=mg_of X G aqY;let aIT:mg "NoWay"=some (.ref aq1):=mg_of X G aq0;let aIU:mg "PinThere"=some (.ref aq3):=mg_of X G aq2;let aIV:mg "SpotTaken"=some (.ref aq5):=mg_of X G aq4;let aIW:mg "NoPin"=some (.ref aq7):=mg_of X G aq6;let acp:mg "PinBusy"=some (.ref PM):=mg_of X G PK;let aIX:mg "BarThere"=some (.ref aq9):=mg_of X G aq8;let aIY:mg "NoBar"=some (.ref ara):=mg_of X G aq';let aIZ:mg "NoLength"=some (.ref arc):=mg_of X G arb;let aI0:mg "TooMany"=some (.ref arf):=mg_of X G ard;let ai8:mg "NoGrip"=some (.ref TB):=mg_of X G Tz;let aaV:mg "Frame"=some (.ref ck):=mg_of X G arh;let aI1:mg "Hold"=some (.ref sy):=mg_of X G ari;let aaP:mg "Roller"=some (.ref mD):=mg_of X G arj;let aaQ:mg "Fixed"=some (.ref qU):=mg_of X G ark;let XE:mg "ValueError"=none:=mg_none_of X G AW;let xH:mg "abs"=none:=mg_none_of X G ahQ;let vg:mg "all"=none:=mg_none_of X G ahR;let xJ:mg "any"=none:=mg_none_of X G ahS;let JT:mg "bool"=none:=mg_none_of X G abD;let fg:mg "dict"=none:=mg_none_of X G abE;let fW:mg "enumerate"=none:=mg_none_of X G FW;let mM:mg "int"=none:=mg_none_of X G ahT;let bf:mg "isinstance"=none:=mg_none_of X G AX;let Z:mg "len"=none:=mg_none_of X G ahU;let E:mg "list"=none:=mg_none_of X G abF;let SM:mg "min"=none:=mg_none_of X G ahV;let U:mg "range"=none:=mg_none_of X G Xq;let SI:mg "str"=none:=mg_none_of X G ahW;let fC:mg "tuple"=none:=mg_none_of X G Xr;let iy:mg "zip"=none:=mg_none_of X G ahX;let F:=eZ (st:=oK) ahL ahM ahN;show(fnOf "law" "law" (av oK) (au oK) (ae oK) .none abv abw abx aby Tx abz,λs v=>.of_eq rfl,λlM _ _=>?_);let hM:vW (aX l.prog w):=aX.HQ;let hN:∀H:Hp,bL K H abA [.int 0,.int 1]:=λH=>.inr (_,_,_,aqJ,O,O,rT,.cons #[_,O] (.cons #[_,O] .nil));let hO:∀H:Hp,bL K H abB [.int 1,.int 1]:=λH=>.inr (_,_,_,aqN,O,O,rT,.cons #[_,O] (.cons #[_,O] .nil));let nm:∀{c:BK} {o:Κ} {k0 k1:Tok} {n:Nat} {sl:Μ},K.lookup c=some (.type "tuple",o,.seq (List.toArray [.int 0 k0,.int 1 k1]) n,sl)->∀H:Hp,dq K H (.ref c) 0:=λt H=>(_,O,by rw [cF];show .inr (_,_,_,t,O,O,rT,.cons #[_,O] (.cons #[_,O] .nil)));let hMo:∀H:Hp,fL K H (.ref abC) (0,0):=λH=>(_,.ref ahO,.ref ahP,O,.inr (_,_,_,aqR,O,O,rT,.cons rfl (.cons rfl .nil)),nm aqS H,nm aqV H);let Q:PY K ck:=(S,TK,abG,abH);let G1:=ad4 (P:=l.prog) (w:=w) (lM:=lM) (CX:=aX l.prog w) asq xH;let G2:=ad5 ht asp G1;let GW:=ad7 asD G1;let GDv:=ad8 ht asI G1;let GCl:=ad9 ht asH iy G1 GDv;let GF:=ad' (P:=l.prog) (w:=w) (lM:=lM) asG fW;let GR:=aea asF U E GF GCl;let GS:=aeg hN qI asE xJ GR G2;let GTn:=aej (P:=l.prog) (w:=w) (lM:=lM) asC U;let atw:=aek asB iy Z GW GS (agj GTn) G2;let KS:=agx hM TL G2;let KM:=ahw hM AY G2;let RS:=aaj KS;let RM:=aal KM;let GD:=aak (aev hM aso G2);let GPD:=aex hM ass GD;let GPd:=zaQ hM vK RS RM;let GI:=aeB (P:=l.prog) (w:=w) (mg:=mg) (lM:=lM) aiU Q;let YC:bQ l.prog w K mg lM (aX l.prog w) 1 ck "bars" ["self"] (jR K ck):=(_,_,S,atj,aeD ai1 Q E,ati);let T:bQ l.prog w K mg lM (aX l.prog w) 1 ck "pins" ["self"] (jS K ck):=(_,_,S,ath,aeF ai0 Q E,atg);let L:bQ l.prog w K mg lM (aX l.prog w) 1 ck "check_pin" ["self","pin"] (fN K ck):=(_,_,S,atf,aeH aiZ Q,ate);let MCb:bQ l.prog w K mg lM (aX l.prog w) 2 ck "check_bar" ["self","name","one","other"] (jT K ck):=(_,_,S,atd,aeX aiY Q aap Z L,atc);let MPb:bQ l.prog w K mg lM (aX l.prog w) 3 ck "put_bar" ["self","name","one","other"] (lD K ck):=(_,_,S,atb,aeZ aiX Q MCb,ata);let okP:=aeV (P:=l.prog) (w:=w) (mg:=mg) (lM:=lM) as9 Q aan Z E;let MPp:bQ l.prog w K mg lM (aX l.prog w) 3 ck "put_pin" ["self","name","x","y","hold"] (gH l.prog w K mg lM ck):=(_,_,S,aiW,okP,as');let MPd:IA l.prog w K mg lM (aX l.prog w) 3 ck "put_pin" ["self","name","x","y","hold"] [.none] (gH l.prog w K mg lM ck):=(_,_,S,aiW,okP,aiV);let MPl:bQ l.prog w K mg lM (aX l.prog w) 2 ck "place" ["self","pin"] (sV K ck):=(_,_,S,atl,aeJ ai2 Q L,atk);let ME:bQ l.prog w K mg lM (aX l.prog w) 1 ck "ends" ["self","bar"] (uM K ck):=(_,_,S,atp,aeL ai4 Q,ato);let MW:bQ l.prog w K mg lM (aX l.prog w) 2 ck "ways" ["self","pin"] (uN K ck):=(_,_,S,atn,aeN ai3 Q E L,atm);let wR:bQ l.prog w K mg lM (aX l.prog w) 1 mD "ways" ["self"] (oT K mD):=(_,_,KR,ats,aeR ai6 KR σ0,atr);let wF:bQ l.prog w K mg lM (aX l.prog w) 1 qU "ways" ["self"] (oU K):=(_,_,abI,atv,aeT ai7,att);let GRI:=aeP (P:=l.prog) (w:=w) (mg:=mg) (lM:=lM) ai5 KR σ0;let GA:=ae1 asr MPl GPD;let g:=ae2 hMo IZ asu T;let GBR:=ae5 asw GA g;let GDR:=ae6 asx T MW YC ME g GBR;let GPP:=ae7 asy Z fg iy T MW YC;let GMF:=ae9 asz fW T;let GLR:=ae3 asv T g;let GCB:=ahp AZ YC;let GAG:=afI hO aaC FX YC GCB;let GLe:=zaO hMo IZ vJ YC ME GA GPD GPd;let GSt:=ahm hN qI A_ Z U iy T RS RM;let GSg:=afa (P:=l.prog) (w:=w) (lM:=lM) asA;let GBe:=af6 hN qI FY Z iy GDR GSt GTn GSg;let GGr:=abV PV RM;let GBo:=abP hN qI PQ Z GLR GAG GBe atw GMF GLe GGr GPP;let J:=afq (P:=l.prog) (w:=w) (lM:=lM) (CX:=aX l.prog w) asJ Z;let R:=afs (P:=l.prog) (w:=w) (lM:=lM) (CX:=aX l.prog w) asK;let Y:=aft (w:=w) (lM:=lM) ht asL xH;let σ1:=afv (P:=l.prog) (w:=w) (lM:=lM) asM;let j:=afx (P:=l.prog) (w:=w) (lM:=lM) asN;let k:=afz (P:=l.prog) (w:=w) (lM:=lM) asO;let GNa:=afA asP SI R;let GSp:=afB asR R Y;let GWy:=afC asS R Y;let GPi:=afF asT U SM J R GSp GWy GNa σ1;let GBa:=afK asU U Z J R GNa;let i:=zaG wY Z aaP aaQ aaR aaS GRI aaT (wR.mono cr) (wF.mono cr) MPp MPd;let GFr:=afM asV aaU aaV GI aaW i MPb;let MTk:bQ l.prog w K mg lM (aX l.prog w) 2 ck "take_pin" ["self","name"] (jU K ck):=(_,_,S,q0,zau jE Q L,qZ);let GAr:=afP asW σ1 k;let GAd:=afT asX σ1;let GFo:=afU asY Z U j k GAr GAd;let f:=afR as2 σ1 j;let GNu:=afV asQ Z bf mM JT fC Y;let GAF:=afX asZ bf fg E Z vg GNu;let GIM:=afY as0 bf fg E fC Z vg GNu;let GWo:=af1 as5 σ1 f;let GSa:=aaq (P:=l.prog) (w:=w) (lM:=lM) KP;let GGp:=zv1 FZ Z U J R Y;let GPl:=zay F_ Z U J R Y;let GPh:=ahe BA Z U J R;let GLB:=ajB wZ Z U GFo Y;let GAt:=af2 as1 Z U GFo σ1;let GLg:=afZ as3 U σ1 k GAr f;let GKe:=af0 as4 f;let GLd:=af7 as6 U Z mM J R Y;let GBt:=aco KQ Z bf fC GAF GIM GAt GKe GSa j GLg;let GRt:=af8 as7 Z bf fC GBt GIM GKe GSa GWo GLg;let GBn:=af' as8 GPl GPh GLB;let GPo:=aio w4 Z U xJ mM R MTk;let GPn:=agf BB R GWy σ1 i;let GAg:=zv3 F' fg GBn GBo GRt;let GLt:=zv2 GB Z J i GAg GPo GPn MPb;let atD:=agR (P:=l.prog) (w:=w) (lM:=lM) BC Z;show abc F fg J R GPi GBa GFr GGp GLd GBn GBo GRt atD GLt YC
end T_k63
end
open PySem PySem.W PyProof.Rows
set_option maxRecDepth 100000 in
set_option maxHeartbeats 0 in
theorem PySem.Challenge.cw_trussyard_k63_bent_or_moves_holds : PySem.Challenge.rw_trussyard_k63_bent_or_moves.Holds := by
 w_on;o_law;k_head;(case hw=>w_witness2)
 k_fill
 refine Ty.walk (l:=PySem.Challenge.rw_trussyard_k63_bent_or_moves) (x:="_law_script") (k:=43) (CX:=λw=>Ty.aX (PySem.Challenge.rw_trussyard_k63_bent_or_moves).prog w) rfl rfl (by first | rfl | decide+kernel) ⟨rfl,cr,cr⟩ (λw h σ=>PySem.W.kIn_of σ) (λw=>Ty.aX.HQ) ?F
 case F=>
  intro w X U h Y G Z
  refine' T_k63.all_mk Y G Z ⟨?A0,?A1,?A2,?A3⟩ ⟨?A4,?A5,?A6,?A7⟩ ⟨?A8,?A9,?Aa,?Ab⟩ ⟨?Ac,?Ad,?Ae,?Af⟩ ⟨?Ag,?Ah,?Ai,?Aj⟩ ⟨?Ak,?Al,?Am,?An⟩ ⟨?Ao,?Ap,?Aq,?Ar⟩ ⟨?As,?At,?Au,?Av⟩ ⟨?Aw,?Ax,?Ay,?Az⟩ ⟨?B0,?B1,?B2,?B3⟩ ⟨?B4,?B5,?B6,?B7⟩ ⟨?B8,?B9,?Ba,?Bb⟩ ⟨?Bc,?Bd,?Be,?Bf⟩ ⟨?Bg,?Bh,?Bi,?Bj⟩ ⟨?Bk,?Bl,?Bm,?Bn⟩ ⟨?Bo,?Bp,?Bq,?Br⟩ ⟨?Bs,?Bt,?Bu,?Bv⟩ ⟨?Bw,?Bx,?By,?Bz⟩ ⟨?C0,?C1,?C2,?C3⟩ ⟨?C4,?C5,?C6,?C7⟩ ⟨?C8,?C9,?Ca,?Cb⟩ ⟨?Cc,?Cd,?Ce,?Cf⟩ ⟨?Cg,?Ch,?Ci,?Cj⟩ ⟨?Ck,?Cl,?Cm,?Cn⟩ ⟨?Co,?Cp,?Cq,?Cr⟩ ⟨?Cs,?Ct,?Cu,?Cv⟩ ⟨?Cw,?Cx,?Cy,?Cz⟩ ⟨?D0,?D1,?D2,?D3⟩ ⟨?D4,?D5,?D6,?D7⟩ ⟨?D8,?D9,?Da,?Db⟩ ⟨?Dc,?Dd,?De,?Df⟩ ⟨?Dg,?Dh,?Di,?Dj⟩ ⟨?Dk,?Dl,?Dm,?Dn⟩ ⟨?Do,?Dp,?Dq,?Dr⟩ ⟨?Ds,?Dt,?Du,?Dv⟩ ⟨?Dw,?Dx,?Dy,?Dz⟩ ⟨?E0,?E1,?E2,?E3⟩ ⟨?E4,?E5,?E6,?E7⟩ ⟨?E8,?E9,?Ea,?Eb⟩ ⟨?Ec,?Ed,?Ee,?Ef⟩ ⟨?Eg,?Eh,?Ei,?Ej⟩ ⟨?Ek,?El,?Em,?En⟩ ⟨?Eo,?Ep,?Eq,?Er⟩ ⟨?Es,?Et,?Eu,?Ev⟩ ⟨?Ew,?Ex,?Ey,?Ez⟩ ⟨?F0,?F1,?F2,?F3⟩ ⟨?F4,?F5,?F6,?F7⟩ ⟨?F8,?F9,?Fa,?Fb⟩ ⟨?Fc,?Fd,?Fe,?Ff⟩ ⟨?Fg,?Fh,?Fi,?Fj⟩ ⟨?Fk,?Fl,?Fm,?Fn⟩ ⟨?Fo,?Fp,?Fq,?Fr⟩ ⟨?Fs,?Ft,?Fu,?Fv⟩ ⟨?Fw,?Fx,?Fy,?Fz⟩ ⟨?G0,?G1,?G2,?G3⟩ ⟨?G4,?G5,?G6,?G7⟩ ⟨?G8,?G9,?Ga,?Gb⟩ ⟨?Gc,?Gd,?Ge,?Gf⟩ ⟨?Gg,?Gh,?Gi,?Gj⟩ ⟨?Gk,?Gl,?Gm,?Gn⟩ ⟨?Go,?Gp,?Gq,?Gr⟩ ⟨?Gs,?Gt,?Gu,?Gv⟩ ⟨?Gw,?Gx,?Gy,?Gz⟩ ⟨?H0,?H1,?H2,?H3⟩ ⟨?H4,?H5,?H6,?H7⟩ ⟨?H8,?H9,?Ha,?Hb⟩ ⟨?Hc,?Hd,?He,?Hf⟩ ⟨?Hg,?Hh,?Hi,?Hj⟩ ?Hk ?Hl ?Hm ?Hn ?Ho ?Hp ?Hq ?Hr ?Hs ?Ht ?Hu ?Hv ?Hw ?Hx ?Hy ?Hz ?I0 ?I1 ?I2 ?I3 ?I4 ?I5 ?I6 ?I7 ?I8 ?I9 ?Ia ?Ib ?Ic ?Id ?Ie ?If ?Ig ?Ih ?Ii ?Ij ?Ik ?Il ?Im ?In ?Io ?Ip ?Iq ?Ir ?Is ?It ?Iu ?Iv ?Iw ?Ix ?Iy ⟨?Iz,?J0,?J1,?J2,?J3⟩ ?J4 ?J5 ?J6 ?J7 ?J8 ?J9 ⟨?Ja,?Jb,?Jc,?Jd,?Je⟩ ⟨?Jf,?Jg,?Jh,?Ji,?Jj⟩ ⟨?Jk,?Jl,?Jm,?Jn,?Jo⟩ ⟨?Jp,?Jq,?Jr,?Js,?Jt⟩ ⟨?Ju,?Jv,?Jw,?Jx,?Jy⟩ ⟨?Jz,?K0,?K1,?K2,?K3⟩ ⟨?K4,?K5,?K6,?K7,?K8⟩ ⟨?K9,?Ka,?Kb,?Kc,?Kd⟩ ⟨?Ke,?Kf,?Kg,?Kh,?Ki⟩ ?Kj ?Kk ?Kl ?Km ?Kn ?Ko ?Kp ⟨?Kq,?Kr,?Ks,?Kt,?Ku⟩ ?Kv ?Kw ?Kx ?Ky ?Kz ?L0 ⟨?L1,?L2,?L3,?L4,?L5⟩ ⟨?L6,?L7,?L8,?L9,?La⟩ ?Lb ?Lc ?Ld ?Le ?Lf ?Lg ?Lh ⟨?Li,?Lj,?Lk,?Ll,?Lm⟩ ?Ln ?Lo ?Lp ?Lq ?Lr
  (case A0|A1|A2|A3|A4|A5|A6|A7|A8|A9|Aa|Ab|Ac|Ad|Ae|Af|Ag|Ah|Ai|Aj|Ak|Al|Am|An|Ao|Ap|Aq|Ar|As|At|Au|Av|Aw|Ax|Ay|Az|B0|B1|B2|B3|B4|B5|B6|B7|B8|B9|Ba|Bb|Bc|Bd|Be|Bf|Bg|Bh|Bi|Bj|Bk|Bl|Bm|Bn|Bo|Bp|Bq|Br|Bs|Bt|Bu|Bv|Bw|Bx|By|Bz|C0|C1|C2|C3|C4|C5|C6|C7|C8|C9|Ca|Cb|Cc|Cd|Ce|Cf|Cg|Ch|Ci|Cj|Ck|Cl|Cm|Cn|Co|Cp|Cq|Cr|Cs|Ct|Cu|Cv|Cw|Cx|Cy|Cz|D0|D1|D2|D3|D4|D5|D6|D7|D8|D9|Da|Db|Dc|Dd|De|Df|Dg|Dh|Di|Dj|Dk|Dl|Dm|Dn|Do|Dp|Dq|Dr|Ds|Dt|Du|Dv|Dw|Dx|Dy|Dz|E0|E1|E2|E3|E4|E5|E6|E7|E8|E9|Ea|Eb|Ec|Ed|Ee|Ef|Eg|Eh|Ei|Ej|Ek|El|Em|En|Eo|Ep|Eq|Er|Es|Et|Eu|Ev|Ew|Ex|Ey|Ez|F0|F1|F2|F3|F4|F5|F6|F7|F8|F9|Fa|Fb|Fc|Fd|Fe|Ff|Fg|Fh|Fi|Fj|Fk|Fl|Fm|Fn|Fo|Fp|Fq|Fr|Fs|Ft|Fu|Fv|Fw|Fx|Fy|Fz|G0|G1|G2|G3|G4|G5|G6|G7|G8|G9|Ga|Gb|Gc|Gd|Ge|Gf|Gg|Gh|Gi|Gj|Gk|Gl|Gm|Gn|Go|Gp|Gq|Gr|Gs|Gt|Gu|Gv|Gw|Gx|Gy|Gz|H0|H1|H2|H3|H4|H5|H6|H7|H8|H9|Ha|Hb|Hc|Hd|He|Hf|Hg|Hh|Hi|Hj|Hk|Hl|Hm|Hn|Ho|Hp|Hq|Hr|Hs|Ht|Hu|Hv|Hw|Hx|Hy|Hz|I0|I1|I2|I3|I4|I5|I6|I7|I8|I9|Ia|Ib|Ic|Id|Ie|If|Ig|Ih|Ii|Ij|Ik|Il|Im|In|Io|Ip|Iq|Ir|Is|It|Iu|Iv|Iw|Ix|Iy|Iz|J0|J1|J2|J3|J4|J5|J6|J7|J8|J9|Ja|Jb|Jc|Jd|Je|Jf|Jg|Jh|Ji|Jj|Jk|Jl|Jm|Jn|Jo|Jp|Jq|Jr|Js|Jt|Ju|Jv|Jw|Jx|Jy|Jz|K0|K1|K2|K3|K4|K5|K6|K7|K8|K9|Ka|Kb|Kc|Kd|Ke|Kf|Kg|Kh|Ki|Kj|Kk|Kl|Km|Kn|Ko|Kp|Kq|Kr|Ks|Kt|Ku|Kv|Kw|Kx|Ky|Kz|L0|L1|L2|L3|L4|L5|L6|L7|L8|L9|La|Lb|Lc|Ld|Le|Lf|Lg|Lh|Li|Lj|Lk|Ll|Lm|Ln|Lo|Lp|Lq=>k_is);(case Lr=>rfl)
#print axioms PySem.Challenge.cw_trussyard_k63_bent_or_moves_holds
