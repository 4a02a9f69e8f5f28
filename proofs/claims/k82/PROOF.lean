import PyProof.Rows.All
import Wide.All
import OpenK.AllK
import Wide.FinOn
import Lean
import PyProof.EqAt
import PyProof.EqKinds
import PyProof.TupleCall
import KE.KIntText
import PyProof.ConsumeWalk
import KE.IntTextText
import PyProof.FitsReplace
import PyProof.StrLawsTight
import PySem.Challenge.RW_mapround_k82_what_is_asked
set_option Elab.async false
set_option linter.all false
set_option bootstrap.genMatcherCode false
set_option genSizeOf false
set_option compiler.extract_closed false
set_option maxRecDepth 100000
set_option maxHeartbeats 4000000
structure PySem.W.Fast:Prop where(tw18186596945844557694 tw5440935680638485287 tw14607571534765335281 tw11158015671981621247 tw4446252682549045054 tw12335269977389563412 tw15544702632687907291 tw16311305991781358262 tw5510956111578972877 tw11994049222920531761 tw13571443250939083916 tw17563470723597174737 tw10603560676163885952 tw2651195956389767336 tw9019652861473961636 tw2268826634802130056 tw12031577051367682163 tw15581455534600931219 tw7493151643125147133 tw12236511911289305113 tw1580423630062575417 tw18392891089960640313 tw11076380956302413133 tw831630003085292088 tw11861343871538172712 tw15650018691605073374 tw2490242612189902513 tw10828593702035112425 tw17832162155100354065 tw2278221727298547683 tw610758059649492913 tw5887777934157273320 tw10230889974674533450 tw10823473050765063690 tw2166078074702927616 tw11496784637716407303 tw12815063841131051684 tw5443645500456812953 tw5128352878734499148 tw7262547323642924267 tw7778174560160674637 tw6323451239736799751 tw15448314847237671612 tw438216492337673297 tw17813766079947893953 tw10038764035857668843 tw17300243677235534156 tw12686441183877048366 tw3229139669426919262 tw14656456629153941194 tw9497664151169900243 tw16038558753831642597 tw7268091510437075771 tw16161608445894146088 tw5175603090041603618 tw7415131836858200745 tw1269715228600301970 tw15164796949759194863 tw5822076809100368536 tw15493821025510194217 tw12738915386832509104 tw17427922447825132474 tw13939935390190454641 tw16153927334159696821 tw9727793617075601112 tw10524807031700956732 tw14429265279618926943 tw6405087309470241966 tw15416647021131706969 tw6522313897214851225 tw9841816895249518294 tw18334305195153980821 tw11430484903955858529 tw3238535176188918919 tw2631693562269760031 tw4294196614121868325 tw16443209350475027354 tw11465112922126210427 tw4699605499435269183 tw5766560150648015320 tw11268525143340097776 tw2887875880749968696 tw2025692174956045222 tw10054465340086940876 tw12110649652156614990 tw17288129794395067591 tw2021681933765424944 tw12989097113515247868 tw9996075404982533997 tw10271076276272436796 tw3972207954092179998 tw4756196040731810172 tw6216046679305229625 tw11224800481534495860 tw746363322750072825 tw14869122224806474173 tw2478349154252674146 tw63473853989394404 tw17881071095980443568 tw16377221187440375303 tw4385539941520245747 tw2562633466606850541 tw10097624134498348514 tw328341553744374688 tw7052125347348128801 tw2340901831989063394 tw17546832551332432866 tw6302162042853231796 tw3039818033884010558 tw7093611554025969061 tw4072789591582711130 tw17442609073566834353 tw9045194681001509345 tw10570942877457490313 tw16095895459561209239 tw5822183243021538868 tw15934489137104512555 tw4367162816912325346 tw8798933296926457802 tw9577283724324828088 tw977732364387196370 tw13534227787035762952 tw8428570062140214555 tw6938737506356882863 tw469307027160686674 tw12915200642670666993 tw2916975627659172475 tw10760224242351387611 tw16196222381428377046 tw7058464020030669460 tw13112032038591091381 tw3056399299975008355 tw2410932372089493815 tw693035968672676564 tw18069034011553417738 tw8035784936849043204 tw8757098857655096538 tw7195209322068024608 tw4891162458453024886 tw5503043470547805969 tw11207822369657967319 tw3843355512520660517 tw5881556835974994152 tw9289208368131622320 tw13081454124735426407 tw1849757985039856069 tw6262294412415229871 tw10565625765261674247 tw17296308148494662636 tw18080501681513500077 tw8866277402364541718 tw6001823574627118351 tw1262058553971610732 tw16899855498971438915 tw12622983897776392442 tw8870637893606297812 tw8350700505066708461 tw9865263818847713572 tw12759665526918097772 tw15013636795365101537 tw3954362543450035967 tw16029575146265692721 tw12033553226986796110 tw773219387814453740 tw14401364042237895001 tw9996423655591525973 tw9527971092841132560 tw10198657569744639454 tw9769838186023037351 tw15342607639026576911 tw9398745567227874254 tw6805491468982018114 tw13284494866362791389 tw1483514424729941490 tw15467044988653270005 tw13582104206725826493 tw13357420710428270075 tw9327377318075799489 tw9241977137611737654 tw5127727746411962701 tw6071566638215240814 tw3475369808980080342 tw11280359148286756210 tw12187176157440259623 tw5186614620821734238 tw162161438252689339 tw4793806258366045702 tw2091623971962005178 tw14058517562875279970 tw13437301343209289469 tw18043968462758783948 tw2561645561258086151 tw11619157288576027051 tw3307281955770754779 tw5905639599366624654 tw10811609576232308505 tw7312787497121616554 tw759967332622452090 tw3141663899972876771 tw8806140202463973471 tw3447326996583765051 tw3570775504262654861 tw12124106348930895340 tw9340646248871398259 tw11020833450463293425 tw7066499277536178601 tw9440128029529000356 tw16177307446157671024 tw3830214484349941180 tw7397596633361693924 tw16277628959305442822 tw7322872416547225077 tw17134091982441758400 tw681734070749420530 tw1156115326796058829 tw16913126655781090176 tw13173027836389721388 tw993627685137607575 tw2288861234898911712 tw4753365582107308176 tw2306070131486295643 tw14503703793226240401 tw16352690395754538253 tw4373219491419898111 tw2655683197440728077 tw5294930552539872822 tw3554758939290564477 tw2151015514316468793 tw9757882665390635777 tw17431712978018897543 tw15400500299760403493 tw5864144459335530026 tw14205998128195465106 tw14197898687625942223 tw7864398686092103569 tw1220939493894755823 tw10295194544292904884 tw11961907819953379990 tw8311337355268387278 tw16718908608047952479 tw1791824853439029052 tw8271194152137896649 tw5060303493273110003 tw8755556062674055873 tw3035885525141603178 tw9597071351353301894 tw2943813883278079928 tw9568405909924647553 tw15463170385578053484 tw15297188021866702951 tw4103262734913618628 tw7990309785607033493 tw5024297604447704801 tw282712653349849683 tw3295436769714118781 tw13055650323590499114 tw9585443648341492937 tw7076919489963798686 tw10889582216758253915 tw1220220623443747325 tw15708681050851083734 tw13412681874737359928 tw10205214673040898617 tw8555835512271905939 tw7714464895373194285 tw11904219684862131144 tw10182265661669472126 tw4005879453060664428 tw13444552526406348372 tw16649685816550722530 tw17307074852352661061 tw613875521382385988 tw7672866987238319264 tw11845333689259063205 tw15019482133131028677 tw13301488074576214155 tw2274014273077478324 tw4448279216151218795 tw10030599307881323494 tw1134458883849201031 tw18212818857289022775 tw9341996832616709515 tw13020261476111519939 tw5470256463278387132 tw17862067581570038166 tw17174679891455223134 tw14442419467655653724 tw13462828991876400604 tw11212314040994376884 tw17573230718828720637 tw13458231337171205017 tw13988906578356773891 tw9953023831325383485 tw5921570065170877983 tw14109134317462628056 tw10459697848133507169 tw10429641495988808882 tw113130404467995376 tw11585998192521265104 tw2404189968112953977 tw14217670663205859118 tw2981958551805092097 tw13079671262953032212 tw16483421914573742339 tw3951581154633569911 tw1343533984861888244 tw3532719835658169185 tw472099407183317065 tw5052347300989843961 tw15281188261215819673 tw12351830092238325060 tw5126263275363097238 tw13597097248771707663 tw17328017932042236065 tw12927264774546968478 tw11700291774272970951 tw12144304217136371537 tw7327445397749913446 tw3578764305542741007 tw15212690387448831910 tw18037315874937879867 tw13393599467585924308 tw14802800602707807857 tw16273297539662926171 tw17842347142110374096 tw4579077024172364920 tw13623469068931578611 tw3343161031612810439 tw831846625622994351 tw4408668962808316713 tw17967341167184051088 tw8780164056695191003 tw1139346142393736874 tw264380650717431488 tw6356875644598713739 tw14901310277442372439 tw16875741187415001456 tw16006374442762374483 tw10362339644752514835 tw14272275738306090334 tw12495907165335994074 tw6035095115112002353 tw7370493696014481252 tw3235064197889321950 tw6843916306867646226 tw4427000834891959267 tw6039336457575045346 tw2990953816089630452 tw2301789332185280081 tw18229309943152638549 tw17410468650177315451 tw8483641135058102714 tw7457484716670443425 tw7700985145402967907 tw9494975976062842096 tw8197010691721764355 tw11592197532055649626 tw4703008492491091329 tw6183723410183312715 tw172272922590694535 tw13628106883025990410 tw9526893693443549674 tw3817474997963842358 tw9431244374494340367 tw36852931910791100 tw17467615188145119375 tw14577532677466478106 tw2164541334079044908 tw16949025947157296201 tw8897358994142932765 tw16141334499767253030 tw14272741389450603234 tw3277311486804471042 tw5929102411293524241 tw5388358976874755816 tw11865163100020394668 tw12126632508918350518 tw18074462534249379910 tw3645821219309018360 tw6363708932606618013 tw4072317513527270813 tw14529607206207674066 tw18071824838416285130 tw2316068067380595325 tw5293961295938817351 tw14930363121047456375 tw6210310983527578031 tw15961356987926285073 tw1019994943483167525 tw18268159791144191103 tw14487983559535335465 tw3545688561263556755 tw58002113297899544 tw2513816953164858086 tw7679155049631685991 tw4747055321312199207 tw12385672533261275766 tw6264995239367668711 tw9814132292236173496 tw14180583032762782712 tw13168940602623338751 tw15207153014796823331 tw903238020346457622 tw3800277960351952274 tw3208269225052812396 tw1854623239018310214 tw11475350260677828308 tw2683857268527595466 tw9806471769263440894 tw9564829213498309389 tw3330458978588946809 tw3488083486818213489 tw14486791880822007282 tw5046151942555939393 tw15506708901141515208 tw11569594720353311991 tw9367127417821231891 tw3851178944353442561 tw11752655014909371156 tw11480504748263287383 tw16434527199475742444 tw16732687510944418357 tw1711058172306377782 tw9512170026013508379 tw14484664442649947258 tw322846464868912555 tw1459022383499231272 tw1838669704521276750 tw3366107976038495552 tw4043010317072613232 tw3995818590421894331 tw13723550624033536878 tw9005638087459439702 tw8775484411201364798 tw14423512646584465505 tw10913577480212384677 tw16480753202881367970 tw12217412909075113868 tw12759477628259561081 tw3661453803374967402 tw13597701110135955346 tw12411808084041788596 tw7409751374138711391 tw7630880851906373034 tw6661415471557926572 tw1086374621583284060 tw12832847715163743368 tw7925155297284324692 tw8398184344486647344 tw5181061138602587531 tw11076367874831420157 tw16335119051281645245 tw9025516721142368142 tw11163368707238545517 tw15963247903766536287 tw2351282611961299638 tw7382835264074033399 tw7805402749043812897 tw12791600823674768621 tw11548290423499499480 tw1356551180480209689 tw14152670932757638359 tw7737508250703354172 tw13422306634525473160 tw15957817013658718915 tw15218368246957217655 tw2859433452371087618 tw8091559308024515782 tw2292829695844967177 tw11584389881152029707 tw8227779974507533582 tw10181195491222083230 tw6214938941378124926 tw8270940814482153359 tw7316683311704167507 tw10013756132466763263 tw10808215399876888399 tw3958486965366599618 tw11756137470620500756 tw12320780794790505135 tw16576692954927889710 tw3617272767109733239 tw6469688235000271954 tw2507916377301031560 tw5212067981041201075 tw8187689088118240679 tw8943758244493075342 tw16366179660723943062 tw4953766303015484558 tw7407131096912429311 tw8432333055251179579 tw5022092561920480900 tw10034611927354590934 tw2617432027890793027 tw4309153293400468507 tw12342543860067139691 tw8367475310067225312 tw12393193369779684022 tw1883096089880314491 tw5931388384739053119 tw6542698164840069794 tw10809215227461673483 tw10185118773191502622 tw12169544405771802888 tw12164105912005271880 tw15270548040812054339 tw6014060266608090073 tw6888049186613087512 tw12491648327702696976 tw14873574664191363975 tw17756424116499794739 tw13832874442994681013 tw5191081188313933425 tw8367971142067060375 tw5413329051731537219 tw13893875967492720986 tw3526447072141123631 tw17050219586888645862 tw16040157885481923216 tw18338226975205621643 tw2863698976154194458 tw10862805647096781129 tw8185074923821623805 tw9629976335099574943 tw11974363880131322221 tw13345677333862551626 tw78664570120332462 tw5508000073208857075 tw5557030609644933345 tw17147845016246174900 tw5222453796130898497 tw1206105600604496980 tw10374651166620320994 tw10589711725369028828 tw13046575275553608769 tw16940976559668387476 tw14509507690305359192 tw5209327272628951886 tw15436888515819410846 tw9169696192359783045 tw1052821205258378440 tw9337184397943647873 tw2411759746535572560 tw950459830806782638 tw13347292073072528460 tw7174784769770974493 tw12230364409963095899 tw2084126952264866260 tw13413984028787945935 tw11599603891207028096 tw3092078859391455832 tw6515501277552241412 tw15475494866612821949 tw17984689344341724834 tw3122093357453802849 tw6150121330443416294 tw11189645773472833467 tw7567791392110624274 tw4700201749438151973 tw2400658505414440301 tw5470492366753800878 tw2025760827088239711 tw10516772173280538773 tw15533506578021755934 tw7562692359867885134 tw14292817617956049004 tw3413975674626534190 tw4714124756918750022 tw1237586850914673549 tw13519043670053925746 tw9081725334983338295 tw2118563448714481821 tw6773244267179938979 tw5804867536602075573 tw14950249629330386732 tw2061259019881169839 tw11348191081072583170 tw3491777093975249460 tw4007784782363189081 tw5115152786577007970 tw9621813583913995325 tw17727998528354535532 tw481718612117199847 tw14982275429609082721 tw6690197691842634047 tw13560131463037482099 tw13447153162642042117 tw7339017587506963147 tw8751457654287768491 tw16545688899978211920 tw5832527513577836335 tw9041088208015275164 tw15675324991053138283 tw5234858621555836038 tw4355725275452964625 tw10914280584974159546 tw15454716166256474179 tw17838069886548802905 tw11467597476920911737 tw13711890759991612672 tw4300297666597101390 tw6572057713108476012 tw10319778553791607455 tw1553537120944946095 tw2709065986074507780 tw16530267744565659545 tw9436904831876516548 tw9696892178396279652 tw6772215790987602001 tw9993092019635487266 tw1080621772122338934 tw12450019355338202194 tw12813070879109513585 tw13273777629332271227 tw13229697452055824649 tw13570262814008924992 tw15608441195076164332 tw11673454116298518993 tw6691687842348228334 tw5682392073880422122 tw2061267471754483358 tw12057215928746314845 tw13392196315469449988 tw8658132221700217300 tw16573331778876687455 tw10975696607077085267 tw11760800657029253196 tw741198513557193555 tw11483020230094288049 tw11816834148149135654 tw5173016585624954013 tw1366996146438579690 tw11147965131314363195 tw10885284928714713304 tw12387193858225844761 tw11861690842422284488 tw1483410375152818730 tw16455709684913938473 tw4218049116527111116 tw17903008231908169393 tw14724953894972160330 tw11382866592798964822 tw13908062010887836358 tw14197358943422206550 tw11015150626815604275 tw1281488550816258794 tw3668784502823997654 tw12804598548360445949 tw16985824436363592032 tw2624445550591699552 tw13276263924862902248 tw7598734396675026006 tw15974961085659975411 tw6012958158076865656 tw16218902850038737241 tw11236281597195189641 tw11870803107829888393 tw6040243153496918261 tw14840825317434227988 tw11920263428713650609 tw2259727189188192346 tw15108200834911344780 tw4374462743492672818 tw14160528561496910342 tw6084647744488334326 tw8901898308418367190 tw12263624669038507036 tw15019775495298871852 tw5116046435340580747 tw12574725052921345389 tw12950257180752729135 tw12372061090350123587 tw12478406195485350266 tw2847517254778074221 tw3197650290022056255 tw17324160266852433204 tw5286213343658929142 tw1147736759058130314 tw210718115359455038 tw4182519067108914985 tw13436331111206852329 tw9845171117875988367 tw4049634316162677241 tw8744215898468289924 tw7418963050860638182 tw6701200965614182614 tw6897758154706643321 tw295820956402356898 tw13782037391637115656 tw8836874463075564776 tw2347609593389701886 tw15680551274280750597 tw14366495279774213670 tw9264655873912020656 tw5138132648806251216 tw7027682194392144691 tw2242154973176561215 tw15551259111336150046 tw6684796995485091250 tw11867689705975369643 tw17751272102413214642 tw5856269815650411606 tw15174170366596250947 tw3991309001531030806 tw14035817283466064121 tw12744403853256990866 tw18402423783891561280 tw4708152878997352802 tw11416378619848035040 tw2652873294756952093 tw10943058735372917743 tw18285958243648803296 tw5691384485755921871 tw14713559101225725997 tw11373815413357283397 tw2253295024208880382 tw17472688417305457577 tw12554964077984849816 tw14606454105837451086 tw2883280046312498931 tw17571996022902486019 tw17699795689827661374 tw16961574212741571965 tw1850285321197511995 tw17869311695867698273 tw7891847904065530184 tw17884004210283729651 tw2814368597406452685 tw17544279756562872540 tw1942139232034277392 tw84572914979134656 tw9211135089245097783 tw6398299503226444023 tw14506845793613778186 tw989780205905043277 tw12594676099577867402 tw371373233594989114 tw4778237584793532216 tw10421896843739230476 tw8769747769238024407 tw4484606719661471233 tw1109664460128495665 tw8096216118881639966 tw14719488725550689146 tw12926926517476709030 tw8898132288239738002 tw3101670069514560658 tw3276197571390651679 tw10816113804099732282 tw9526796970040878192 tw344150276043303230 tw18044563369226763817 tw9563144828540932529 tw9729286663058868909 tw5541593700407591458 tw4055207295920587624 tw15673632773597171031 tw3550639828784049342 tw17338912800991391627 tw15088577986120459290 tw15713973469160711207 tw3521845685861254909 tw4353748189686582358 tw13306776858191405001 tw11551166463512300873 tw16344061574895414999 tw3174834279377555491 tw9975153795531936806 tw11203425018424422042 tw14365007017236729467 tw17341899027016323576 tw4551982000871546759 tw13177872322488323953 tw15817328727018111 tw17581916167621738811 tw9076420823305287143 tw4169574376946124237:True)
set_option maxHeartbeats 0 in
open_top hd82 for PySem.Challenge.rw_mapround_k82_what_is_asked
open Option renaming bind_eq_some_iff->oBq,map_eq_some_iff->oMq
open List renaming getElem?_eq_some_iff->gSq,getElem?_eq_getElem->gEg,getD_eq_getElem?_getD->gDq,length_append->lAq,length_map->lMq,mem_append->mAq,mem_flatten->mFq,mem_map->mMq,getElem?_map->gMq,mem_of_getElem?->mGq,map_congr_left->mCq,getElem_mem->gRq,length_singleton->lSq,mem_singleton->mSq,length_take->lTq,nodup_append->nAq,append_nil->aNq,flatten_append->fAq,getElem?_append_right->gYq,getElem?_append_left->gZq,length_cons->lCq,map_map->mPq,map_append->mBq,mem_cons_of_mem->mCo,length_set->lZq,flatten_cons->fCq,mem_cons->ag,map_cons->ai,append_assoc->ak,size_toArray->aq,length_drop->ar,mem_append_right->au,nodup_cons->aw,mem_cons_self->ax,replicate->az,pairwise_append->aB,take_length->aE,drop_eq_getElem_cons->aG,getElem?_set_ne->aK,take_append_drop->aM,length_range->aO,take_sublist->aT,range->aU,Pairwise->aV,find?_cons_of_neg->aW,nodup_iff_pairwise_ne->aX,mem_append_left->aY,length_eq_zero_iff->aZ,mem_iff_getElem?->bb,Perm->bf,getElem?_set_self->bg,find?_cons_of_pos->bh,pairwise_map->bo,nodup_nil->bp,pairwise_iff_getElem->bu,mem_of_mem_drop->bx,perm_append_comm->bz,zipWith->bA,getElem?_set->bB,mem_of_mem_take->bC,sublist_flatten_of_mem->bE,length_replicate->bF,getElem?_eq_none->bG,length_filter_le->bH,cons_append->bL,drop_sublist->bP,mem_reverse->bT,take_of_length_le->bU,length->bV,getElem?_replicate->cf,foldl_cons->cg,map_nil->cj,perm_middle->cv,getElem?_drop->cz,mem_range->cA,eq_of_mem_replicate->cB,mem_iff_getElem->cC,mem_filter->cE,find?_cons->cH,take_add_one->cK,drop_eq_nil_of_le->cM,drop_length->cO,not_mem_nil->cP,all_eq_true->cQ,any_eq_true->cR,getElem?_zipWith->cS,perm_ext_iff_of_nodup->cU,any_cons->cX,getElem?_take_of_lt->cY,map_id->de,getElem?_range->dg,set_cons_zero->dq,flatten_singleton->dr,sum_cons->du,filter_map->dw,drop_zero->dB,getElem?_concat_length->dC,set_set->dF,Sublist->dG,length_eraseIdx->dJ,extract_eq_take_drop->dQ,lookup->dU,length_nil->dW,nil_append->dX,set_cons_succ->ee,pairwise_cons->ef,filter_append->eA,filter_cons_of_pos->eJ,getElem_drop->eN,ext_getElem?->eO,drop_of_length_le->eT,pairwise_lt_range->eU,zipWith_cons_cons->eV,findIdx_lt_length_of_exists->eY,take_succ_eq_append_getElem->eZ,set_getElem_self->ff,filterMap_cons->fB,take_zero->fF,getElem_take->fQ,mem_or_eq_of_mem_set->fR,getElem?_zip_eq_some->fS,findIdx?_eq_none_iff->fU,foldl_append->fV,idxOf_lt_length_iff->fX,eraseIdx_cons_succ->gh,pairwise_mergeSort->gk,filter_cons_of_neg->gn,getElem?_cons_zero->gu,pairwise_singleton->gA,of_mem_zip->gB,length_pos_of_mem->gD,countP_map->gF,filter_nil->gG,reverse_reverse->gL,findIdx_getElem->gN,all_cons->gP,length_pos_iff->gQ,replicate_succ->gR,reverse_append->gS,mergeSort_perm->gT,map_take->gU,findIdx?->gV,length_zipWith->gW,mem_filterMap->hJ,getElem_idxOf->hU,getElem?_take->hW,map_replicate->hZ,find?_isSome->ir,getElem_inj->iu,drop_append->iA,lookup_cons->iE,cons->iQ,any_map->iW,all_map->iY,map->iZ
open Nat renaming le_refl->aa,ne_of_lt->aA,lt_of_lt_of_le->aF,zero_le->aJ,zero_add->aQ,le_trans->bq,lt_succ_of_lt->bO,le_succ->bS,not_lt_zero->bW,lt_succ_iff_lt_or_eq->bX,le_of_lt->bZ,lt_irrefl->cm,min_eq_left->cJ,lt_succ_self->cL,le_of_ble_eq_true->cT,ne_of_gt->dh,le_of_eq->dD,sub_self->dE,add_assoc->dP,add_one_sub_one->dR,lt_or_eq_of_le->dZ,add_comm->eC,add_sub_cancel_left->eE,succ_pos->eG,le_add_right->fe,lt_trans->fu,isDigit_of_mem_toDigits->fJ,pos_of_ne_zero->fK,lt_trichotomy->fP,digitChar->gY,add_zero->ie,min_self->ij,le_of_lt_succ->iq,le_of_not_lt->iy,max_eq_right->iB,succ_le_succ->iC,min_eq_right->iD,strongRecOn->iI
open Array renaming getElem?_eq_getElem->ae,length_toList->ah,getElem?_toList->ao,toList_append->aD,getElem?_eq_some_iff->aN,getElem_mem->ba,toList_reverse->cD,toList_push->cI,size_extract->eh,mem_toList_iff->fk,toList_extract->fo,toList_setIfInBounds->fM,getD->gf,getElem?_extract->gE,toArray_toList->gM,toList_inj->iF,Perm->iJ,size_map->iL,extract->iS,toList->iU
open PySem.Heap renaming get?_push_of_some->af,lt_size->aj,get?_push_size->aC,SameBut->bQ,get?_update_ne->cZ,size_update->dN,size_push->eM,get?_push_ne->eP,get?_update_self->fb,DictOf->fL,get?_update_other->gC
open Bool renaming false_ne_true->ay,and_eq_true->cu,eq_iff_iff->cF,not_eq_true->df,false_eq_true->ez,true_or->eB,false_and->eK,not_eq_true'->eQ,false_or->fc,not_true->fT,or_eq_false_iff->gO,true_and->gX,or_true->ik,or_eq_true->iH,not_false->iM
open Sum renaming inl->aH,inr->fO
open Option renaming some->aL,map_some->bR,isSome_map->dA,ne_none_iff_exists'->fN,bind_some->gg,getD_none->iw,none->jd
open PySem.Value renaming ref->aR,type->dO,bool->eS,int->fq,none->gc,str->ip,isStrOf->iP,isInt->ja,bytes->jb,float->jc
open PySem.F renaming plainAttrs_str->bw,plainAttrs_list->bI,slot_list_append->bM,type_list_append->bN,called_set->bY,slot_str_join->cV,type_str_join->cW,slot_str_split->eW,type_str_split->eX,slot_dict_setdefault->fD,slot_str_startswith->fG,type_str_startswith->fI,slot_dict_values->fY,slot_list_index->gj,slot_list_count->gm,plainAttrs_dict->gw,plain_set_new->gI
open PyProof.Rows renaming callWith_type1->bD,boot_str->cw,boot_list->dz,boot_sorted->dY,boot_abs->fh,boot_all->fi,callWith_builtin1->fj,boot_isinstance->fE,digit_range->fZ,boot_int->gJ,eq_dataH_same->iN,ne_dataH_same->iO,toString_neg->iR,digits10_le->iT,text_ofNat->iX,boot_min->je,boot_sum->jf,lt_int->jg
open Int renaming emod_lt_of_pos->bJ,emod_nonneg->bK,toNat_natCast->cG,le_of_lt->fv,zero_add->fA,neg_neg->gH,toNat->gK,le_refl->iz,mul_le_mul->iK,add_comm->iV
open Classical renaming propDecidable->eI,byContradiction->fW
open Or renaming inr->ft,inl->gZ
open Prod renaming ext->iG
open PyProof.Rows renaming Keyed->jh,wpS_bind->jj,wpS_pure->jl,arrOf->jw,seqObj->jy,IntsAre->jz,wpS_forRange->jC,setArr->jD,wpS_mono->jJ,SortKind->jK,elem'->jN,pairsOf->jS,pendingOf->jX,envOfC->jY,wpS_modify->kg,oneType'->ki,wpS_get->ko,getElem?_mirror_all->kr,reverseSlice'->kC,gallopOf->kE,AllBare->kG,pairsOf_size->kK,sortedHeap->kS,get?_update_seq->lg,subscriptTail->lN,listUpdate_at->lO,seqEpoch_at->lW
open PySem renaming wpAny_bind->ji,model->jk,wpAny_pure->jm,wpAny->jn,sizeLine->jo,Program->jq,mainGlobals->jr,starEach->jt,World->ju,FuncData->jx,compareOp->jA,wpAny_mono->jB,wpAny_holding->jE,cLine->jF,sizeLine_eq->jG,codeAny_builtin->jH,call_isinstance->jI,backTo->jL,wpAny_truthy_bool->jM,sysModules->jO,wpAny_Call_Name_kw->jP,wpAny_passesOwn->jQ,isinstance_true->jR,behindInMarks->jT,valueAt->jU,intKind->jV,scanBound->jW,Scope->jZ,relabel->kc,codeAny->kf,attributeBase->kj,sliceBounds->km,tupleKind_room_in1->ku,codeAny_mono->kx,bootBuiltins->kz,call_meets->kA,unsupported->kB,binaryOp->kF,wpAny_execs_nil->kH,letOwnedTupleGo->kJ,assignEach->kL,swapsWith->kM,wpAny_newList->kN,plainId_quiet->kO,wpAny_pyIter_list->kP,foldedSetIterable->kQ,wpAny_rule->kR,holding->kT,callerA->kU,wpAny_comprehension_free->kW,relayAll->kX,assign->kY,wpAny_Call_method0_late->kZ,tupleKind->lj,atKey->lu,subscripted->lz,keywordEach->lB,wpAny_isTrue_Compare1->lC,isSubtype_type->lD,getItem->lE,BindsTo->lH,lookup_relabel_local->lJ,intKind_is->lK,wpAny_standAt->lL,ExceptHandler->lQ,seqIndex_neg->lS,getMethod->lU,seqIndex_of->lV
abbrev Λ:=List (List Int)
abbrev Ϝ:=List Int
abbrev Φ:=List (PySem.Addr×PySem.Obj)
abbrev Δ:=List PySem.Addr
abbrev Θ:=List Nat
abbrev Ξ:=List PySem.Value
abbrev Ω:=Array PySem.Value
abbrev Υ:=Option PySem.Value
abbrev Ψ:=PySem.Value->PySem.Shared->Prop
abbrev Ζ:=PySem.W.Frag
noncomputable section
open Array renaming mem_of_getElem?->aQq
local macro_rules|`(tactic|trivial)=>`(tactic|first|exact gZ rfl|exact ft rfl|exact ft (gZ rfl)|exact ft (ft rfl)|exact⟨rfl,rfl,rfl,by decide +kernel,rfl,by decide +kernel,by decide +kernel⟩|decide +kernel|fail)
def oa{c:Prop}{_:Decidable c}(h:c){α}{t e:α}:ite c t e=t:=if_pos h
def nY{c:Prop}{_:Decidable c}(h:¬c){α}{t e:α}:ite c t e=e:=if_neg h
theorem d0{p:Prop}[Decidable p](h:p):decide p=true:=decide_eq_true h
theorem d4{p:Prop}[Decidable p](h:¬p):decide p=false:=decide_eq_false h
namespace L2
open PySem PySem.Spec PyProof.Rows
abbrev nT:=Sum Int Str
noncomputable def Fw:nT->Value->Bool
 | .inl k,v=>ja k v
 | .inr x,v=>iP x v
noncomputable def aca(w:ju):nT->Int
 | .inl k=>hashInt k
 | .inr x=>hashStr w x
def pE:∀{k:nT}{v:Value},Fw k v=true->(∃i t,k=aH i/\v=fq i t)∨(∃x t,k=fO x/\v=ip x t)
 | .inl i,v,h=>by
  obtain⟨t,e⟩:=Value.isInt_shape (k:=i) (v:=v) h;exact .inl ⟨i,t,rfl,e⟩
 | .inr x,v,h=>by
  obtain⟨t,e⟩:=Value.isStrOf_shape (x:=x) (v:=v) h;exact .inr ⟨x,t,rfl,e⟩
def Pe(i:Int)(t:Tok):Fw (.inl i) (.int i t)=true:=by simp[Fw,ja]
def Of(x:Str)(t:Tok):Fw (.inr x) (.str x t)=true:=by simp[Fw,iP]
def X8(a b:Int):decide ((aH a:nT)=aH b)=(a == b):=by
 by_cases e:a=b
 .subst e;simp
 .have h:¬ (aH a:nT)=aH b:=λq=>e (aH.inj q)
  rw[d4 h];exact(beq_eq_false_iff_ne.mpr e).symm
noncomputable def X5(a b:Str):decide ((fO a:nT)=fO b)=decide (a=b):=by
 by_cases e:a=b
 .subst e;simp
 .have h:¬ (fO a:nT)=fO b:=λq=>e (fO.inj q)
  rw[d4 h,d4 e]
noncomputable def X1(a:Int)(b:Str):decide ((aH a:nT)=fO b)=false:=d4 (λq=>nomatch q)
noncomputable def Xm(a:Str)(b:Int):decide ((fO a:nT)=aH b)=false:=d4 (λq=>nomatch q)
def oW(prog:jq)(w:ju):PySem.KeyKind prog w nT where
 is:=Fw
 hash:=aca w
 inj:=λv a b ha hb=>by
  rcases pE ha with⟨i,t,rfl,rfl⟩|⟨x,t,rfl,rfl⟩
  .rcases pE hb with⟨j,u,rfl,e⟩|⟨y,u,rfl,e⟩
   .injection e with s _;rw[s]
   .exact nomatch e
  .rcases pE hb with⟨j,u,rfl,e⟩|⟨y,u,rfl,e⟩
   .exact nomatch e
   .injection e with s _;rw[s]
 byValue:=λk v h=>by
  rcases pE h with⟨i,t,rfl,rfl⟩|⟨x,t,rfl,rfl⟩ <;> rfl
 pyHash:=λz h=>by
  rcases pE z with⟨i,t,rfl,rfl⟩|⟨x,t,rfl,rfl⟩
  .exact wpAny_pyHash_int h
  .exact wpAny_pyHash_str h
 eqBool:=λB z h=>by
  rcases pE B with⟨i,t,rfl,rfl⟩|⟨x,t,rfl,rfl⟩
  .rcases pE z with⟨j,u,rfl,rfl⟩|⟨y,u,rfl,rfl⟩
   .rw[X8]at h;exact wpAny_eqBool_int h
   .rw[X1]at h;exact SeqAt.EqAt.int_str i t y u _ _ _ _ h
  .rcases pE z with⟨j,u,rfl,rfl⟩|⟨y,u,rfl,rfl⟩
   .rw[Xm]at h;exact SeqAt.EqAt.str_int x t j u _ _ _ _ h
   .rw[X5]at h;exact wpAny_eqBool_str h
 «strs»:=λk x t v h=>by
  rcases pE h with⟨i,u,rfl,e⟩|⟨y,u,rfl,e⟩
  .exact nomatch e
  .injection e with s _
   subst s;cases v <;> rfl
def JL(prog:jq)(w:ju)(i:Int)(t:Tok):(oW prog w).is (.inl i) (.int i t)=true:=Pe i t
def Jx(prog:jq)(w:ju)(x:Str)(t:Tok):(oW prog w).is (.inr x) (.str x t)=true:=Of x t
inductive V where
 |non|bl (b:Bool)|int (i:Int)|str (x:Str)|byt (b:Array UInt8)|flt (b:UInt64)|ref (a:Addr)|ty (n:String)
 deriving DecidableEq
def oC:V->Value->Prop
 | .non,u=>u=gc
 | .bl b,u=>u=eS b
 | .int i,u=>∃t,u=fq i t
 | .str x,u=>∃t,u=ip x t
 | .byt b,u=>∃t,u=jb b t
 | .flt b,u=>∃t,u=jc b t
 | .ref a,u=>u=aR a
 | .ty n,u=>u=dO n
abbrev ot:List V->Ξ->Prop:=Paired oC
theorem ot.length{xs:List V}{us:Ξ}(r:ot xs us):xs.length=us.length:=Paired.length r
theorem ot.get:∀{xs:List V}{us:Ξ}{i:Nat}{x:V},ot xs us->xs[i]?=some x->∃u,us[i]?=some u/\oC x u
 |_,_,_,_,.nil,e=>by simp at e
 |_,_,0,_,.cons r _,e=>by simp at e;subst e;exact⟨_,rfl,r⟩
 |_,_,i+1,x,.cons _ t,e=>by
  obtain⟨u,s,z⟩:=ot.get (i:=i) (x:=x) t (by simpa using e)
  exact⟨u,by simpa using s,z⟩
theorem ot.set{x:V}{u:Value}(r:oC x u):∀{xs:List V}{us:Ξ}(i:Nat),ot xs us->ot (xs.set i x) (us.set i u)
 |_,_,_,.nil=>.nil
 |_,_,0,.cons _ t=>.cons r t
 |_,_,i+1,.cons q t=>.cons q (ot.set r i t)
theorem ot.append:∀{xs ys:List V}{us ws:Ξ},ot xs us->ot ys ws->ot (xs++ys) (us++ws)
 |_,_,_,_,.nil,s=>s
 |_,_,_,_,.cons r t,s=>.cons r (ot.append t s)
theorem ot.take:∀{xs:List V}{us:Ξ}(n:Nat),ot xs us->ot (xs.take n) (us.take n)
 |_,_,0,_=>.nil
 |_,_,_+1,.nil=>.nil
 |_,_,n+1,.cons r t=>.cons r (ot.take n t)
theorem ot.drop:∀{xs:List V}{us:Ξ}(n:Nat),ot xs us->ot (xs.drop n) (us.drop n)
 |_,_,0,r=>r
 |_,_,_+1,.nil=>.nil
 |_,_,n+1,.cons _ t=>ot.drop n t
def yg:Option V->Υ->Prop
 |some v,some u=>oC v u
 |none,none=>True
 |_,_=>False
def KV{κ:Type}:List (κ×V)->List (κ×Value)->Prop:=Paired λ(p:κ×V) (q:κ×Value)=>p.1=q.1/\oC p.2 q.2
noncomputable def kV:nT->V
 | .inl i=>.int i
 | .inr x=>.str x
inductive HO where
 /-- a list -/
 |lst (xs:List V)
 /-- a tuple (never changes) -/
 |tup (xs:List V)
 /-- a dict whose keys are ints and texts;one whose keys are tuples of ints and texts (the empty one is both) -/
 |dK (kvs:List (nT×V))|dT (kvs:List (List nT×V))
 /-- a set of ints: its members,its size -/
 |set (S:Int->Bool) (n:Nat)
 /-- an instance of the class at C,its dict at dx,its attributes -/
 |ins (C dx:Addr) (fs:List (Str×V))
 /-- the dict of the instance at x -/
 |own (x:Addr)
 /-- the dict of an exception -/
 |xd (fs:List (Str×V))
 /-- a bound method,f of x -/
 |met (f x:Addr)
 /-- a range object lo,lo+1,.. below hi -/
 |rng (lo hi:Int)
 /-- a thing that is known to the object (the script;a dict while a loop walks it): read,never written while it is so -/
 |frz (o:Obj) (u:HO)
 /-- a code object's table -/
 |tbl (ps:Ω)
 /-- any other thing,by what is true of its one object (a def of one's own: SetO a S n:=HO.ext λh=>..) -/
 |ext (φ:Heap->Prop)
abbrev Hp:=Addr->Option HO
noncomputable def om(H:Hp)(a:Addr)(o:HO):Hp:=λb=>if b=a then some o else H b
def nG{H:Hp}{a:Addr}{o:HO}:om H a o a=some o:=by unfold om;rw[oa rfl]
def nC{H:Hp}{a b:Addr}{o:HO}(h:b≠a):om H a o b=H b:=by unfold om;rw[nY h]
def ZW{H:Hp}{a b:Addr}{o u:HO}(h:H a=some o)(h':H b=some u)(d:o≠u):a≠b:=by
 intro e;subst e;rw[h]at h';exact d (aL.inj h')
def pQ{H:Hp}{a b:Addr}{o:HO}(h:H a=some o)(h':H b=none):a≠b:=by
 intro e;subst e;rw[h]at h';cases h'
section
variable (P:jq)(w:ju)
def pR(H:Hp)(h:Heap)(a:Addr):HO->Prop
 | .lst xs=>xs.length<=jo/\∃(s:Ξ) (n:Nat),ot xs s/\h.get? a=some { cls:=.type "list", data:=.seq s.toArray n }
 | .tup xs=>xs.length<=jo/\∃s:Ξ,ot xs s/\IsTup h a s.toArray
 | .dK kvs=>kvs.length<=jo/\(a == jO)=false/\∃vs,KV kvs vs/\h.DictOf (oW P w) a vs
 | .dT kvs=>kvs.length<=jo/\(a == jO)=false/\∃xs:List (List nT×Addr×Value),
   Paired (λ(p:List nT×V) (q:List nT×Addr×Value)=>p.1=q.1/\H q.2.1=some (.tup (p.1.map kV))/\oC p.2 q.2.2) kvs xs /\
   ∃o es ep,h.get? a=some o/\o.ExactDict/\o.data = .dict es ep/\es.toList=xs.map (entryOfKey (lj (oW P w)))/\(xs.map (·.1)).Nodup
 | .set S n=>h.SetOf (jV P w) a S n
 | .ins C B fs=>H B=some (.own a)/\fs.length<=1000/\B≠a/\h.get? a=some (W.instObj C B) /\
   ∃z,h.Ns1 B z/\(∀f,yg (fs.lookup f) (z f))/\PySem.Within z (fs.map (·.1))
 | .own _=>∃o,h.get? a=some o
 | .xd fs=>∃z,h.Ns1 a z/\∀f,yg (fs.lookup f) (z f)
 | .rng lo hi=>∃t u v,h.get? a=some { cls:=.type "range", data:=.fields #[.int lo t,.int hi u,.int 1 v] }
 | .frz o u=>h.get? a=some o/\pR H h a u
 | .tbl ps=>h.get? a=some { cls:=.none,data:=.fields ps }
 | .met f x=>h.get? a=some (W.methodObj (.ref f) (.ref x))
 | .ext φ=>φ h/\(∃o,h.get? a=some o)/\∀E G:Heap,φ E->(∀o,E.get? a=some o->G.get? a=some o)->φ G
def Ac(H:Hp)(h:Heap):Prop:=∀a o,H a=some o->pR P w H h a o
end
section
variable {P:jq}{w:ju}{H H':Hp}{h h':Heap}{a:Addr}{o:HO}
theorem pR.lt(x:pR P w H h a o):a<h.objs.size:=by
 cases o with
 |lst t=>obtain⟨_,_,_,_,e⟩:=x;exact aj e
 |tup t=>obtain⟨_,_,_,p⟩:=x;exact p.lt
 |dK s=>obtain⟨_,_,_,_,o,_,_,e,_⟩:=x;exact aj e
 |dT s=>obtain⟨_,_,_,_,o,_,_,e,_⟩:=x;exact aj e
 |set S n=>obtain⟨o,_,_,_,e,_⟩:=x;exact aj e
 |ins C z fs=>obtain⟨_,_,_,e,_⟩:=x;exact aj e
 |own y=>obtain⟨_,e⟩:=x;exact aj e
 |xd fs=>obtain⟨_,⟨_,_,_,e,_⟩,_⟩:=x;exact aj e
 |rng lo hi=>obtain⟨_,_,_,e⟩:=x;exact aj e
 |frz B u=>obtain⟨e,_⟩:=x;exact aj e
 |tbl E=>exact aj (show h.get? a=some _ from x)
 |met f y=>exact aj (show h.get? a=some _ from x)
 |ext φ=>obtain⟨_,⟨_,e⟩,_⟩:=x;exact aj e
theorem Paired.mapP{α β:Type}{F G:α->β->Prop}:∀{l₁:List α}{s:List β},Paired F l₁ s->(∀a b,F a b->G a b)->Paired G l₁ s
 |_,_,.nil,_=>.nil
 |_,_,.cons r t,f=>.cons (f _ _ r) (Paired.mapP t f)
def pR.stay(x:pR P w H h a o)(k:∀b u,(b=a∨H b=some (.own a))->h.get? b=some u->h'.get? b=some u)
  (O:∀b,H b=some (.own a)->H' b=some (.own a)) (ht:∀b xs,H b=some (.tup xs)->H' b=some (.tup xs)):pR P w H' h' a o:=by
 induction o with
 |lst xs=>obtain⟨z,G,n,r,e⟩:=x;exact⟨z,G,n,r,k _ _ (.inl rfl) e⟩
 |tup xs=>obtain⟨z,G,r,s,e,c⟩:=x;exact⟨z,G,r,s,k _ _ (.inl rfl) e,c⟩
 |dK I=>obtain⟨z,y,Q,r,s,B,E,e,c⟩:=x;exact⟨z,y,Q,r,s,B,E,k _ _ (.inl rfl) e,c⟩
 |dT I=>
  obtain⟨z,y,xs,r,s,B,E,e,c⟩:=x;exact⟨z,y,xs,Paired.mapP r λp q z=>⟨z.1,ht _ _ z.2.1,z.2.2⟩,s,B,E,k _ _ (.inl rfl) e,c⟩
 |set S n=>obtain⟨s,B,E,t,e,c⟩:=x;exact⟨s,B,E,t,k _ _ (.inl rfl) e,c⟩
 |ins C X fs=>
  obtain⟨d,z,ne,e,J,⟨L,B,E,R,c⟩,r⟩:=x;exact⟨O _ d,z,ne,k _ _ (.inl rfl) e,J,⟨L,B,E,k _ _ (.inr d) R,c⟩,r⟩
 |own y=>obtain⟨s,e⟩:=x;exact⟨s,k _ _ (.inl rfl) e⟩
 |xd fs=>obtain⟨J,⟨L,B,E,e,c⟩,r⟩:=x;exact⟨J,⟨L,B,E,k _ _ (.inl rfl) e,c⟩,r⟩
 |rng lo hi=>obtain⟨t,u,v,e⟩:=x;exact⟨t,u,v,k _ _ (.inl rfl) e⟩
 |frz s u U=>obtain⟨e,q⟩:=x;exact⟨k _ _ (.inl rfl) e,U q⟩
 |tbl M=>
  have e:h.get? a=some { cls:=.none,data:=.fields M }:=x;show h'.get? a=some { cls:=.none,data:=.fields M };exact k a _ (.inl rfl) e
 |met f y=>
  have e:h.get? a=some (W.methodObj (.ref f) (.ref y)):=x;show h'.get? a=some (W.methodObj (.ref f) (.ref y));exact k a _ (.inl rfl) e
 |ext φ=>obtain⟨p,⟨o,e⟩,st⟩:=x;exact⟨st _ _ p λo q=>k _ _ (.inl rfl) q,⟨o,k _ _ (.inl rfl) e⟩,st⟩
theorem Ac.lt(x:Ac P w H h)(e:H a=some o):a<h.objs.size:=(x a o e).lt
def Ac.fresh(x:Ac P w H h)(e:h.objs.size<=a):H a=none:=by
 cases q:H a with
 |none=>rfl
 |some u=>exact absurd (aF (x.lt q) e) (cm _)
def Ac.kept(x:Ac P w H h)(k:∀b u,h.get? b=some u->h'.get? b=some u):Ac P w H h':=λa o e=>
 (x a o e).stay (λb u _ q=>k b u q) (λ_ q=>q) λ_ _ q=>q
def Ac.laid(x:Ac P w H h)(k:∀b u,h.get? b=some u->h'.get? b=some u)(s:h.objs.size<=a)(new:pR P w (om H a o) h' a o):Ac P w (om H a o) h':=λb u e=>by
 have hn:=x.fresh s
 by_cases hb:b=a
 .subst hb;rw[nG]at e;cases e;exact new
 .rw[nC hb]at e;exact(x b u e).stay (λc v _ q=>k c v q) (λc q=>by rw[nC (pQ q hn)];exact q) λc t q=>by rw[nC (pQ q hn)];exact q
end
def Rd(H:Hp)(a:Addr)(u:HO):Prop:=H a=some u∨∃o,H a=some (.frz o u)
noncomputable def Rd.ok{P:jq}{w:ju}{H:Hp}{h:Heap}{a:Addr}{u:HO}(r:Rd H a u)(x:Ac P w H h):pR P w H h a u:=by
 rcases r with r|⟨o,r⟩
 .exact x a u r
 .obtain⟨_,q⟩:=x a _ r;exact q
def Mut:Option HO->Prop
 |some (.lst _)=>True
 |some (.dK _)=>True
 |some (.dT _)=>True
 |some (.set _ _)=>True
 |some (.ins _ _ _)=>True
 |some (.ext _)=>True
 |_=>False
section
variable {P:jq}{w:ju}{H:Hp}{h h':Heap}{x e:Addr}{o':HO}
def Ac.write(ok:Ac P w H h)(mu:Mut (H x))(J:e=x∨H e=some (.own x))(k:∀b u,b≠e->h.get? b=some u->h'.get? b=some u)(I:∃u,h'.get? e=some u)
  (new:pR P w (om H x o') h' x o'):Ac P w (om H x o') h':=λb u q=>by
 have t:∀c y,H c=some (.own y)->c≠x:=λc y r z=>by subst z;rw[r]at mu;exact mu
 have B:∀c E,H c=some (.tup E)->c≠x:=λc E r z=>by subst z;rw[r]at mu;exact mu
 by_cases hb:b=x
 .subst hb;rw[nG]at q;cases q;exact new
 .rw[nC hb]at q
  by_cases s:b=e
  .have L:H b=some (.own x):=by
    rcases J with z|z
    .exact absurd (s.trans z) hb
    .rw[s];exact z
   rw[q]at L;cases L;obtain⟨v,M⟩:=I;exact⟨v,by rw[s];exact M⟩
  .refine(ok b u q).stay (λc v G r=>k c v ?_ r) (λc r=>by rw[nC (t c b r)];exact r) λc E r=>by rw[nC (B c E r)];exact r
   rcases G with rfl|G
   .exact s
   .rintro rfl;rcases J with z|z
    .exact t c b G z
    .rw[G]at z;cases z;exact hb rfl
end
structure Un (fs ex:Δ)(H H':Hp)(h h':Heap):Prop where
 keep:∀b o,h.get? b=some o->H b=none->b∉fs->b∉ex->h'.get? b=some o
 slot:∀b o,h.get? b=some o->H b=none->b∈fs->b∉ex->∃sl,h'.get? b=some { o with slots:=sl }
 free:∀b o,h.get? b=some o->H b=none->b∉ex->H' b=none
 there:∀b o,h.get? b=some o->b∉ex->∃o',h'.get? b=some o'
 tups:∀b xs,H b=some (.tup xs)->H' b=some (.tup xs)
 frzs:∀b o u,H b=some (.frz o u)->H' b=some (.frz o u)
 tbls:∀b ps,H b=some (.tbl ps)->∃more,H' b=some (.tbl (ps++more))
section
variable {fs fs' ex ex':Δ}{H H1 H2:Hp}{h h1 h2 h':Heap}{a x e:Addr}{o:HO}
def Un.any(u:Un fs ex H H1 h h1){b:Addr}{s:Obj}(q:h.get? b=some s)(n:H b=none)(t:b∉ex):∃z,h1.get? b=some { s with slots:=z }:=by
 by_cases hb:b∈fs
 .exact u.slot b s q n hb t
 .exact⟨s.slots,u.keep b s q n hb t⟩
def Un.kept(k:∀b u,h.get? b=some u->h'.get? b=some u):Un fs ex H H h h':=
 ⟨λb s q _ _ _=>k b s q,λb s q _ _ _=>⟨s.slots,k b s q⟩,λ_ _ _ n _=>n,λb s q _=>⟨s,k b s q⟩,λ_ _ q=>q,λ_ _ _ q=>q,λ_ t q=>⟨#[],by rw[q];simp⟩⟩
def Un.refl:Un fs ex H H h h:=Un.kept λ_ _ q=>q
def Un.laid(k:∀b u,h.get? b=some u->h'.get? b=some u)(s:h.objs.size<=a)(hn:H a=none):Un fs ex H (om H a o) h h' where
 keep:=λb u q _ _ _=>k b u q
 slot:=λb u q _ _ _=>⟨u.slots,k b u q⟩
 free:=λb u q n _=>by rw[nC (aA (aF (aj q) s))];exact n
 there:=λb u q _=>⟨u,k b u q⟩
 tups:=λb xs q=>by rw[nC (pQ q hn)];exact q
 frzs:=λb u xs q=>by rw[nC (pQ q hn)];exact q
 tbls:=λb ps q=>⟨#[],by rw[nC (pQ q hn),q];simp⟩
def Un.write(mu:Mut (H x))(G:e=x∨H e=some (.own x))(k:∀b u,b≠e->h.get? b=some u->h'.get? b=some u)(t:∃u,h'.get? e=some u):Un fs ex H (om H x o) h h':=by
 have E:∀b,H b=none->b≠x:=λb n z=>by subst z;rw[n]at mu;exact mu
 have hb:∀b,H b=none->b≠e:=λb n z=>by
  subst z;rcases G with r|r
  .exact E b n r
  .rw[n]at r;cases r
 have B:∀b u,H b=some u->¬ Mut (some u)->b≠x:=λb u q nm z=>by subst z;rw[q]at mu;exact nm mu
 refine⟨λb u q n _ _=>k b u (hb b n) q,λb u q n _ _=>⟨u.slots,k b u (hb b n) q⟩,λb u q n _=>by rw[nC (E b n)];exact n,λb u q _=>?_,
  λb I q=>by rw[nC (B b _ q λz=>z)];exact q,λb u I q=>by rw[nC (B b _ q λz=>z)];exact q,λb J q=>⟨#[],by rw[nC (B b _ q λz=>z),q];simp⟩⟩
 by_cases s:b=e
 .subst s;exact t
 .exact⟨u,k b u s q⟩
end
noncomputable def trk(h:Heap)(H:Hp):Δ:=(aU h.objs.size).filter λa=>(H a).isSome
def HH(h:Heap)(H:Hp):Heap:=W.hideAll h (trk h H)
def Oe(h:Heap)(H:Hp):(HH h H).objs.size=h.objs.size:=W.hideAll_size _ _
def Qh{h:Heap}{H:Hp}{b:Addr}{o:Obj}(e:h.get? b=some o)(n:H b=none):(HH h H).get? b=some o:=
 W.hideAll_get _ e λs=>by
  have q:(H b).isSome=true:=(cE.mp s).2;rw[n]at q;simp at q
def Uc{h:Heap}{H:Hp}{b:Addr}{o:Obj}(e:(HH h H).get? b=some o):h.get? b=some o/\H b=none:=by
 have s:h.get? b=some o:=W.of_hideAll (trk h H) e;refine⟨s,?_⟩;cases q:H b with
 |none=>rfl
 |some x=>
  have t:b∈trk h H:=cE.mpr ⟨cA.mpr (aj s),by simp[q]⟩
  have z:(HH h H).get? b=none:=W.hideAll_none (trk h H) t;rw[z]at e;cases e
def TH(g h:Heap)(L:Addr):Φ:=(aU h.objs.size).filterMap λa=>if a=L∨(g.get? a).isSome=true then none else (h.get? a).map λo=>(a,o)
def rest(g h:Heap)(L d:Addr):Φ:=(TH g h L).filter λp=>decide (p.1≠d)
structure Mod (K:Ζ)(mg:Str->Υ)(base:Heap):Prop where
 kin:K.In base
 glob:base.Ns jr mg
 blt:∃mb,base.Ns builtinsNs mb/\∀x:Str,x ≠ "__name__" -> mb x=kz x
 nolimit:base.NoLimit
structure Cx where
 prog:jq
 w:ju
 K:Ζ
 mg:Str->Υ
 base:Heap
 A:Around
 N:List Str
 s₀:Shared
 H₀:Hp
 env:Env
 outer:List Env
 stack:List Env
 ex:Δ
 fn:Str->Bool
 calm:Bool
 pn:Φ
 xe:Ψ
def P2(l:List Env):Δ:=l.filterMap (·.frame)
abbrev Cx.fs(X:Cx):Δ:=P2 X.outer
def Vis(s:jZ)(x:Str):Prop:=s.names.lookup x=some .local∨s.names.lookup x=some .cell∨s.names.lookup x=some .free
def Zu(s:jZ)(x:Str):Prop:=s.names.lookup x=some .local∨s.names.lookup x=some .cell
def abN(env:Env)(h:Heap)(m:Str->Υ)(x:Str)(u:Value):Prop:=
 (env.kindOf x=some .local/\m x=some u)∨((env.kindOf x=some .cell∨env.kindOf x=some .free)/\∃c,env.cells.lookup x=some c/\h.IsCell c (some u))
structure Cx.Ok (X:Cx):Prop where
 mod:Mod X.K X.mg X.base
 kind:X.env.scope.kind = .function
 glob:X.env.globals=jr
 blt:X.env.builtins=builtinsNs
 above:X.s₀.heap.objs.size<=X.env.locals
 inj:∀x y c,X.env.cells.lookup x=some c->X.env.cells.lookup y=some c->x=y
 has:∀x,(X.env.kindOf x=some .cell∨X.env.kindOf x=some .free)->∃c,X.env.cells.lookup x=some c
 cab:∀x c,X.fn x=true->X.env.cells.lookup x=some c->X.s₀.heap.objs.size<=c
 hd:X.calm=true->X.A.handled=none
 frames:X.A.frames=some X.stack
 stk:X.stack=X.outer∨(X.stack=X.env::X.outer/\X.env.frame=some X.env.locals)
 exf:∀b∈X.ex,b≠X.env.locals/\∀x c,X.env.cells.lookup x=some c->c≠b
 bs:∀b o,X.base.get? b=some o->X.s₀.heap.get? b=some o/\X.H₀ b=none
 bsz:X.base.objs.size<=X.s₀.heap.objs.size
 noex:∀b o,X.base.get? b=some o->b∉X.ex
 exfs:∀b∈X.ex,b∉X.fs
 funs:X.s₀.heap.FunFrames X.base X.outer
 frf:∀b∈X.fs,X.H₀ b=none
structure Inv (X:Cx)(nu:Φ)(σ:List (Option V))(H:Hp)(s:Shared):Prop where
 ok:X.Ok
 os:s.os=X.s₀.os
 bare:kG s.gens
 base:Un X.fs X.ex X.H₀ H X.s₀.heap s.heap
 loc:∃m,s.heap.Ns X.env.locals m/\∀(i:Nat) (x:Str) (v:V),X.N[i]?=some x->σ[i]?=some (some v)->Vis X.env.scope x->∃u,oC v u/\abN X.env s.heap m x u
 cell:∀x c,X.env.cells.lookup x=some c->∃v,s.heap.IsCell c v
 free:H X.env.locals=none
 freeC:∀x c,X.env.cells.lookup x=some c->H c=none
 pin:∀p∈X.pn++nu,s.heap.get? p.1=some p.2/\H p.1=none/\p.1≠X.env.locals/\p.1∉X.fs/\∀v,p.2.data ≠ .cell v
 hok:Ac X.prog X.w H s.heap
 len:σ.length=X.N.length
section
variable {X:Cx}{nu:Φ}{σ:List (Option V)}{H H':Hp}{s:Shared}{h':Heap}
def Cx.Ok.nofr(ok:X.Ok){b:Addr}{o:Obj}(e:X.base.get? b=some o):b∉X.fs:=λhb=>by
 have:=(ok.funs.mem hb).1;rw[e]at this;cases this
theorem Inv.bs(I:Inv X nu σ H s):∀b o,X.base.get? b=some o->s.heap.get? b=some o/\H b=none:=λb o e=>
 ⟨I.base.keep b o (I.ok.bs b o e).1 (I.ok.bs b o e).2 (I.ok.nofr e) (I.ok.noex b o e),I.base.free b o (I.ok.bs b o e).1 (I.ok.bs b o e).2 (I.ok.noex b o e)⟩
noncomputable def Inv.bk(I:Inv X nu σ H s):∀b o,X.base.get? b=some o->s.heap.get? b=some o:=λb o e=>(I.bs b o e).1
theorem Inv.mod(I:Inv X nu σ H s):Mod X.K X.mg X.base:=I.ok.mod
def Inv.kIn(I:Inv X nu σ H s):X.K.In s.heap:=I.ok.mod.kin.keeps I.bk
theorem Inv.lt(I:Inv X nu σ H s):X.env.locals<s.heap.objs.size:=let ⟨_,hn,_⟩:=I.loc;hn.lt
def Inv.sz(I:Inv X nu σ H s):X.s₀.heap.objs.size<=s.heap.objs.size:=bq I.ok.above (bZ I.lt)
def Inv.nofs(I:Inv X nu σ H s){a:Addr}(h:s.heap.objs.size<=a):a∉X.fs:=λhb=>by
 obtain⟨_,o,t,_⟩:=I.ok.funs.mem hb;exact absurd (aF (aj t) (bq I.sz h)) (cm _)
def Inv.cne(I:Inv X nu σ H s):∀x c,X.env.cells.lookup x=some c->c≠X.env.locals:=λx c e z=>by
 obtain⟨v,o,B,hd⟩:=I.cell x c e;obtain⟨m,⟨E,G,J,t,u,_⟩,_⟩:=I.loc;rw[z,t]at B;cases B;rw[u]at hd;cases hd
theorem Inv.funs(I:Inv X nu σ H s):s.heap.FunFrames X.base X.outer:=by
 have all:∀(l:List Env),(∀b∈P2 l,b∈X.fs)->X.s₀.heap.FunFrames X.base l->s.heap.FunFrames X.base l:=by
  intro l
  induction l with
  |nil=>intro _ _;trivial
  |cons env r B=>
   intro x hl;obtain⟨hk,⟨L,o,t,hn,E,hd⟩,hr⟩:=hl;have u:L∈X.fs:=x L (by unfold P2;rw[fB,t];exact ax)
   obtain⟨G,e⟩:=I.base.slot L o E (I.ok.frf L u) u λz=>I.ok.exfs L z u
   exact⟨hk,⟨L,_,t,hn,e,hd⟩,B (λb hb=>x b (by unfold P2;rw[fB,t];exact mCo _ hb)) hr⟩
 exact all X.outer (λ_ hb=>hb) I.ok.funs
theorem Inv.stack(I:Inv X nu σ H s):s.heap.FunFrames X.base X.stack:=by
 rcases I.ok.stk with e|⟨e,t⟩
 .rw[e];exact I.funs
 .rw[e];obtain⟨m,hn,_⟩:=I.loc;refine .cons (by rw[I.ok.kind];decide) t hn ?_ I.funs
  exact Heap.get?_none_of_le (bq I.ok.bsz I.ok.above)
def Inv.stkSub(I:Inv X nu σ H s):∀b∈P2 X.stack,b∈X.env.locals::X.fs:=λb hb=>by
 rcases I.ok.stk with e|⟨e,t⟩
 .rw[e]at hb;exact mCo _ hb
 .rw[e]at hb;unfold P2 at hb;rw[fB,t]at hb;exact hb
def Inv.stkFree(I:Inv X nu σ H s):∀b∈P2 X.stack,H b=none:=λb hb=>by
 rcases ag.mp (I.stkSub b hb)with e|hb
 .rw[e];exact I.free
 .obtain⟨_,o,t,_⟩:=I.ok.funs.mem hb;exact I.base.free b o t (I.ok.frf b hb) λz=>I.ok.exfs b z hb
def Inv.step{g':Array GenState}{t':Nat}{d':Drawn}{ch:Δ}(I:Inv X nu σ H s)
  (B:∀b∈ch,(b∈X.ex∨X.s₀.heap.objs.size<=b)/\b≠X.env.locals/\(∀x c,X.env.cells.lookup x=some c->c≠b)/\∀p∈X.pn++nu,p.1≠b)
  (keep:∀b o,b≠X.env.locals->b∉X.fs->b∉ch->s.heap.get? b=some o->H b=none->h'.get? b=some o)
  (slot:∀b o,b≠X.env.locals->b∈X.fs->b∉ch->s.heap.get? b=some o->H b=none->∃R,h'.get? b=some { o with slots:=R }) (free:∀b o,b∉ch->s.heap.get? b=some o->H b=none->H' b=none)
  (there:∀b o,b∉ch->s.heap.get? b=some o->∃O,h'.get? b=some O)
  (tups:∀b xs,H b=some (.tup xs)->H' b=some (.tup xs)) (frzs:∀b o u,H b=some (.frz o u)->H' b=some (.frz o u)) (tbls:∀b ps,H b=some (.tbl ps)->∃more,H' b=some (.tbl (ps++more)))
  (ns:∀m,s.heap.Ns X.env.locals m->h'.Ns X.env.locals m) (hok:Ac X.prog X.w H' h') (hg:kG g') :
  Inv X nu σ H' { s with heap:=h',gens:=g',drawn:=d',toks:=t' }:=by
 have P:∀b o,X.s₀.heap.get? b=some o->b≠X.env.locals:=λb o e=>aA (aF (aj e) I.ok.above)
 have J:∀b o,X.s₀.heap.get? b=some o->b∉X.ex->b∉ch:=λb o e t hb=>by
  rcases(B b hb).1 with z|z
  .exact t z
  .exact absurd (aF (aj e) z) (cm _)
 have E:∀x c,X.env.cells.lookup x=some c->∀v,s.heap.IsCell c v->h'.IsCell c v:=λx c e v ⟨o,M,hd⟩=>by
  have G:c∉ch:=λz=>(B c z).2.2.1 x c e rfl
  by_cases U:c∈X.fs
  .obtain⟨R,q⟩:=slot c o (I.cne x c e) U G M (I.freeC x c e);exact⟨_,q,hd⟩
  .exact⟨o,keep c o (I.cne x c e) U G M (I.freeC x c e),hd⟩
 refine⟨I.ok,I.os,hg,⟨λb o e n hb t=>?_,λb o e n hb t=>?_,λb o e n t=>?_,λb o e t=>?_,λb xs e=>tups b xs (I.base.tups b xs e),λb o xs e=>frzs b o xs (I.base.frzs b o xs e),λb ps e=>?_⟩,?_,λx c e=>?_,?_,λx c e=>?_,λp Y=>?_,hok,I.len⟩
 .exact keep b o (P b o e) hb (J b o e t) (I.base.keep b o e n hb t) (I.base.free b o e n t)
 .obtain⟨R,L⟩:=I.base.slot b o e n hb t;obtain⟨S,Q⟩:=slot b _ (P b o e) hb (J b o e t) L (I.base.free b o e n t);exact⟨S,Q⟩
 .obtain⟨O,L⟩:=I.base.there b o e t;exact free b O (J b o e t) L (I.base.free b o e n t)
 .obtain⟨O,L⟩:=I.base.there b o e t;exact there b O (J b o e t) L
 .obtain⟨m1,L⟩:=I.base.tbls b ps e;obtain⟨m2,Q⟩:=tbls b _ L;exact⟨m1++m2,by rw[Q,Array.append_assoc]⟩
 .obtain⟨m,hn,hl⟩:=I.loc;refine⟨m,ns m hn,λi x v L Q e3=>?_⟩
  obtain⟨u,r,l⟩:=hl i x v L Q e3;refine⟨u,r,?_⟩;rcases l with l|⟨k,c,e,z⟩
  .exact .inl l
  .exact .inr ⟨k,c,e,E x c e _ z⟩
 .obtain⟨v,z⟩:=I.cell x c e;exact⟨v,E x c e v z⟩
 .obtain⟨m,⟨o,_,_,M,_⟩,_⟩:=I.loc;exact free _ o (λz=>(B _ z).2.1 rfl) M I.free
 .obtain⟨v,o,M,hd⟩:=I.cell x c e;exact free c o (λz=>(B c z).2.2.1 x c e rfl) M (I.freeC x c e)
 .obtain⟨e,n,ne,nf,d⟩:=I.pin p Y;have G:p.1∉ch:=λz=>(B p.1 z).2.2.2 p Y rfl
  exact⟨keep p.1 p.2 ne nf G e n,free p.1 p.2 G e n,ne,nf,d⟩
def Inv.un{t':Nat}(I:Inv X nu σ H s)(u:Un X.fs [] H H' s.heap h')(hok:Ac X.prog X.w H' h'):Inv X nu σ H' { s with heap:=h',toks:=t' }:=by
 obtain⟨m,⟨o,M,O,E,r⟩,_⟩:=id I.loc;obtain⟨P,G⟩:=u.any E I.free (by simp)
 exact I.step (g':=s.gens) (d':=s.drawn) (ch:=[]) (λ_ z=>nomatch z) (λb o _ hb _ e n=>u.keep b o e n hb (by simp)) (λb o _ hb _ e n=>u.slot b o e n hb (by simp)) (λb o _ e n=>u.free b o e n (by simp)) (λb o _ e=>u.there b o e (by simp)) u.tups u.frzs u.tbls (λQ J=>by
  obtain⟨R,x,B,t,L⟩:=J;rw[E]at t;cases t;exact⟨_,x,B,G,L⟩) hok I.bare
def Inv.call{g':Array GenState}{t':Nat}{d':Drawn}{ch:Δ}(I:Inv X nu σ H s)(u:Un (P2 X.stack) ch H H' s.heap h')(hok:Ac X.prog X.w H' h')(O:kG g')
  (B:∀b∈ch,(b∈X.ex∨X.s₀.heap.objs.size<=b)/\b≠X.env.locals/\(∀x c,X.env.cells.lookup x=some c->c≠b)/\∀p∈X.pn++nu,p.1≠b) :
  Inv X nu σ H' { s with heap:=h',gens:=g',drawn:=d',toks:=t' }:=by
 obtain⟨m,⟨o,R,S,M,r⟩,_⟩:=id I.loc;obtain⟨U,G⟩:=u.any M I.free λz=>(B _ z).2.1 rfl
 exact I.step (ch:=ch) B (λb o G hb t e n=>u.keep b o e n (λz=>(ag.mp (I.stkSub b z)).elim G hb) t) (λb o _ _ t e n=>u.any e n t) (λb o t e n=>u.free b o e n t) (λb o t e=>u.there b o e t) u.tups u.frzs u.tbls (λY P=>by
  obtain⟨o',J,L,E,Q⟩:=P;rw[M]at E;cases E;exact⟨_,J,L,G,Q⟩) hok O
def Inv.turned{t':Nat}{t:Addr}(I:Inv X nu σ H s)(k:∀b o,b≠t->s.heap.get? b=some o->h'.get? b=some o)(hn:H t=none)(G:t≠X.env.locals)
  (J:t∈X.ex∨X.s₀.heap.objs.size<=t) (L:∀x c,X.env.cells.lookup x=some c->c≠t) (M:∀p∈X.pn++nu,p.1≠t):Inv X nu σ H { s with heap:=h',toks:=t' }:=by
 have E:∀b u,H b=some u->b≠t:=λb u e z=>by rw[z,hn]at e;cases e
 refine I.step (g':=s.gens) (d':=s.drawn) (ch:=[t]) (λb hb=>?_) (λb o _ _ B e _=>k b o (λz=>B (by simp[z])) e) (λb o _ _ B e _=>⟨o.slots,k b o (λz=>B (by simp[z])) e⟩) (λ_ _ _ _ n=>n)
  (λb o B e=>⟨o,k b o (λz=>B (by simp[z])) e⟩) (λ_ _ e=>e) (λ_ _ _ e=>e) (λb S e=>⟨#[],by rw[e];simp⟩) (λm O=>?_) (λb u e=>?_) I.bare
 .have e:b=t:=by simpa using hb
  subst e;exact⟨J,G,L,M⟩
 .obtain⟨o,P,Q,R,r⟩:=O;exact⟨o,P,Q,k _ o (Ne.symm G) R,r⟩
 .refine(I.hok b u e).stay (λc v B q=>k c v ?_ q) (λ_ q=>q) λ_ _ q=>q
  rcases B with z|z
  .rw[z];exact E b u e
  .exact E c _ z
def Inv.tok(I:Inv X nu σ H s)(t:Nat):Inv X nu σ H { s with toks:=t }:=I.un (h':=s.heap) (t':=t) Un.refl I.hok
theorem Inv.kept{t':Nat}(I:Inv X nu σ H s)(k:∀b u,s.heap.get? b=some u->h'.get? b=some u):Inv X nu σ H { s with heap:=h',toks:=t' }:=I.un (Un.kept k) (I.hok.kept k)
theorem Inv.laid{a:Addr}{o:HO}{t':Nat}(I:Inv X nu σ H s)(k:∀b u,s.heap.get? b=some u->h'.get? b=some u)(t:s.heap.objs.size<=a)(new:pR X.prog X.w (om H a o) h' a o) :
  Inv X nu σ (om H a o) { s with heap:=h',toks:=t' }:=I.un (Un.laid k t (I.hok.fresh t)) (I.hok.laid k t new)
theorem Inv.write{x e:Addr}{o:HO}{t':Nat}(I:Inv X nu σ H s)(mu:Mut (H x))(z:e=x∨H e=some (.own x))(k:∀b u,b≠e->s.heap.get? b=some u->h'.get? b=some u)(t:∃u,h'.get? e=some u)
  (new:pR X.prog X.w (om H x o) h' x o):Inv X nu σ (om H x o) { s with heap:=h',toks:=t' }:=I.un (Un.write mu z k t) (I.hok.write mu z k t new)
def Inv.pins_of{t:Φ}(I:Inv X nu σ H s)(h:∀p∈t,s.heap.get? p.1=some p.2/\H p.1=none/\p.1≠X.env.locals/\p.1∉X.fs/\∀v,p.2.data ≠ .cell v):Inv X t σ H s:=
 ⟨I.ok,I.os,I.bare,I.base,I.loc,I.cell,I.free,I.freeC,λp u=>(mAq.mp u).elim (λz=>I.pin p (aY _ z)) (h p),I.hok,I.len⟩
def JI{N:List Str}(t:N.Nodup){i j:Nat}{x:Str}(a:N[i]?=some x)(b:N[j]?=some x):i=j:=by
 obtain⟨B,u⟩:=gSq.mp a;obtain⟨E,z⟩:=gSq.mp b;exact(iu t).mp (u.trans z.symm)
def OG{M:Model}{A:Around}{E:Ψ}{i:Nat}{x:Str}{v:V}{u:Value}{Q:Unit->Shared->Prop}(I:Inv X nu σ H s)(hN:X.N.Nodup)(hi:X.N[i]?=some x)(L:Zu X.env.scope x)(r:oC v u)
  (h:∀s',Inv X nu (σ.set i (some v)) H s'->(∃a,bQ a s.heap s'.heap/\(a=X.env.locals∨X.env.cells.lookup x=some a))->Q () s') (hf:X.fn x=true∨X.env.scope.names.lookup x=some .local:=by trivial):jn M A (storeName X.env x u) Q E s:=by
 obtain⟨m,hn,hl⟩:=id I.loc;have Y:(X.env.scope.kind == .class || (X.env.scope.kind == .module && X.env.locals != X.env.globals))=false:=by rw[I.ok.kind];rfl
 have R:i<σ.length:=by rw[I.len];exact(gSq.mp hi).1
 have cne:=I.cne;have B:∀{a:Addr}{h':Heap},(∃o,s.heap.get? a=some o/\H a=none)->bQ a s.heap h'->Ac X.prog X.w H h':=λ{a h'} ha t b ob e=>by
  obtain⟨_,_,O⟩:=ha;refine(I.hok b ob e).stay (λc w' J q=>(t.2 c ?_).trans q) (λ_ q=>q) λ_ _ q=>q
  rintro rfl;rcases J with rfl|J
  .rw[O]at e;cases e
  .rw[O]at J;cases J
 rcases L with hk|hk
 .refine wpAny_storeName_local hk hn (λh' hn' t=>?_) Y
  obtain⟨oL,_,_,hoL,_⟩:=id hn;refine h _ ⟨I.ok,I.os,I.bare,⟨λb o e n hb L=>?_,λb o e n hb L=>?_,I.base.free,λb o e L=>?_,I.base.tups,I.base.frzs,I.base.tbls⟩,⟨_,hn',λj y v' G P e3=>?_⟩,λy c e=>?_,I.free,I.freeC,λp hp=>?_,B ⟨oL,hoL,I.free⟩ t,by simpa using I.len⟩ ⟨_,t,.inl rfl⟩
  .exact(t.2 b (aA (aF (aj e) I.ok.above))).trans (I.base.keep b o e n hb L)
  .obtain⟨sl,G⟩:=I.base.slot b o e n hb L;exact⟨sl,(t.2 b (aA (aF (aj e) I.ok.above))).trans G⟩
  .obtain⟨o',G⟩:=I.base.there b o e L;exact⟨o',(t.2 b (aA (aF (aj e) I.ok.above))).trans G⟩
  .by_cases S:j=i
   .subst S;rw[hi]at G;cases G;rw[bg R]at P;cases P;exact⟨u,r,.inl ⟨hk,by simp⟩⟩
   .rw[aK (Ne.symm S)]at P;obtain⟨u',r',q⟩:=hl j y v' G P e3;refine⟨u',r',?_⟩;rcases q with⟨k,e⟩|⟨k,c,e,z⟩
    .refine .inl ⟨k,?_⟩;have:y≠x:=λe=>S (JI hN G (e ▸ hi))
     simp[this,e]
    .exact .inr ⟨k,c,e,z.sameBut t (cne y c e)⟩
  .obtain⟨w',z⟩:=I.cell y c e;exact⟨w',z.sameBut t (cne y c e)⟩
  .obtain⟨e,n,ne,nf,d⟩:=I.pin p hp;exact⟨(t.2 p.1 ne).trans e,n,ne,nf,d⟩
 .have U:X.fn x=true:=by
   rcases hf with z|z
   .exact z
   .rw[z]at hk;cases hk
  obtain⟨c,J⟩:=I.ok.has x (.inl hk);obtain⟨w',z⟩:=I.cell x c J;refine wpAny_storeName_cell I.ok.kind hk J z (λh' hc' t=>?_)
  obtain⟨oc,hoc,hocd⟩:=id z;refine h { s with heap:=h' } ⟨I.ok,I.os,I.bare,⟨λb o e n hb L=>?_,λb o e n hb L=>?_,I.base.free,λb o e L=>?_,I.base.tups,I.base.frzs,I.base.tbls⟩,⟨m,hn.sameBut t (Ne.symm (cne x c J)),λj y v' G P e3=>?_⟩,λy c' e=>?_,I.free,I.freeC,λp hp=>?_,B ⟨oc,hoc,I.freeC x c J⟩ t,by simpa using I.len⟩ ⟨c,t,.inr J⟩
  .exact(t.2 b (aA (aF (aj e) (I.ok.cab x c U J)))).trans (I.base.keep b o e n hb L)
  .obtain⟨sl,G⟩:=I.base.slot b o e n hb L;exact⟨sl,(t.2 b (aA (aF (aj e) (I.ok.cab x c U J)))).trans G⟩
  .obtain⟨o',G⟩:=I.base.there b o e L;exact⟨o',(t.2 b (aA (aF (aj e) (I.ok.cab x c U J)))).trans G⟩
  .by_cases S:j=i
   .subst S;rw[hi]at G;cases G;rw[bg R]at P;cases P;exact⟨u,r,.inr ⟨.inl hk,c,J,hc'⟩⟩
   .rw[aK (Ne.symm S)]at P;obtain⟨u',r',q⟩:=hl j y v' G P e3;refine⟨u',r',?_⟩;rcases q with q|⟨k,c',e,z'⟩
    .exact .inl q
    .refine .inr ⟨k,c',e,z'.sameBut t ?_⟩;rintro rfl;exact S (JI hN G (I.ok.inj _ _ _ e J ▸ hi))
  .by_cases hcc:c'=c
   .subst hcc;exact⟨_,hc'⟩
   .obtain⟨w2,z2⟩:=I.cell y c' e;exact⟨w2,z2.sameBut t hcc⟩
  .obtain⟨e,n,ne,nf,d⟩:=I.pin p hp;refine⟨(t.2 p.1 ?_).trans e,n,ne,nf,d⟩;intro q;rw[q,hoc]at e;have q':oc=p.2:=aL.inj e;exact d w' (by rw[←q'];exact hocd)
def Ig{M:Model}{A:Around}{E:Ψ}{i:Nat}{x:Str}{v:V}{u:Value}{Q:Unit->Shared->Prop}(I:Inv X nu σ H s)(z:X.N.Nodup)(hi:X.N[i]?=some x)(B:Zu X.env.scope x)(r:oC v u)
  (h:∀t,Inv X nu (σ.set i (some v)) H t->Q () t) (G:X.fn x=true∨X.env.scope.names.lookup x=some .local:=by trivial):jn M A (storeName X.env x u) Q E s:=
 OG I z hi B r (λt J _=>h t J) G
def Inv.call'{t:Shared}{ch:Δ}(I:Inv X nu σ H s)(B:t.os=s.os)(u:Un (P2 X.stack) ch H H' s.heap t.heap)(hok:Ac X.prog X.w H' t.heap)(E:kG t.gens)
  (z:∀b∈ch,(b∈X.ex∨X.s₀.heap.objs.size<=b)/\b≠X.env.locals/\(∀x c,X.env.cells.lookup x=some c->c≠b)/\∀p∈X.pn++nu,p.1≠b):Inv X nu σ H' t:=by
 obtain⟨h',G,J,L,M⟩:=t;have e:M=s.os:=B;subst e;exact I.call (g':=G) (t':=L) (d':=J) u hok E z
end
abbrev XK:=Value->Option Addr->Hp->Prop
abbrev St:=List (Option V)
abbrev VK:=V->Hp->Prop
abbrev TE:=St->Hp->VK->Prop
abbrev TT:=St->Hp->(Bool->Hp->Prop)->Prop
abbrev TA:=St->Hp->(List V->Hp->Prop)->Prop
structure zu where
 nx:St->Hp->Prop
 rt:VK
 bk:St->Hp->Prop:=λ_ _=>False
 ct:St->Hp->Prop:=λ_ _=>False
abbrev TS:=zu->St->Hp->Prop
def EP(X:Cx)(t:Φ)(σ:St)(Q:VK)(u:Value)(x:Shared):Prop:=∃v s,Inv X t σ s x/\oC v u/\Q v s
def TP(X:Cx)(t:Φ)(σ:St)(Q:Bool->Hp->Prop)(b:Bool)(u:Shared):Prop:=∃s,Inv X t σ s u/\Q b s
def AP(X:Cx)(t:Φ)(σ:St)(Q:List V->Hp->Prop)(us:Ξ)(u:Shared):Prop:=∃vs s,Inv X t σ s u/\ot vs us/\Q vs s
def SP(X:Cx)(x:Φ)(D:zu)(f:Flow)(z:Shared):Prop:=
 match f with
 | .next=>∃s t,Inv X x s t z/\D.nx s t
 | .brk=>∃s t,Inv X x s t z/\D.bk s t
 | .cont=>∃s t,Inv X x s t z/\D.ct s t
 | .ret u=>∃v s t,Inv X x s t z/\oC v u/\D.rt v t
def PE(X:Cx)(e:Expr)(t:TE):Prop:=
 ∀(u:Φ) (s:Shared) (σ:St) (H:Hp) (Q:VK),Inv X u σ H s->t σ H Q->jn (jk X.prog X.w) X.A (eval e X.env) (EP X u σ Q) X.xe s
def PT(X:Cx)(e:Expr)(t:TT):Prop:=
 ∀(u:Φ) (s:Shared) (σ:St) (H:Hp) (Q:Bool->Hp->Prop),Inv X u σ H s->t σ H Q->jn (jk X.prog X.w) X.A (isTrue e X.env (eval e X.env)) (TP X u σ Q) X.xe s
def PW(X:Cx)(e:Expr)(t:TT):Prop:=
 ∀(u:Sem Value) (x:Φ) (s:Shared) (σ:St) (H:Hp) (Q:Bool->Hp->Prop),Inv X x σ H s->t σ H Q->jn (jk X.prog X.w) X.A (isTrue e X.env u) (TP X x σ Q) X.xe s
noncomputable def PW.pt{X:Cx}{e:Expr}{t:TT}(h:PW X e t):PT X e t:=h _
def PA(X:Cx)(es:List Expr)(t:TA):Prop:=
 ∀(pos:Pos) (u:Φ) (s:Shared) (σ:St) (H:Hp) (Q:List V->Hp->Prop),Inv X u σ H s->t σ H Q->jn (jk X.prog X.w) X.A (spliced (jL pos (jt es X.env))) (AP X u σ Q) X.xe s
def PS(X:Cx)(st:Stmt)(t:TS):Prop:=
 ∀(u:Φ) (s:Shared) (σ:St) (H:Hp) (D:zu),Inv X u σ H s->t D σ H->jn (jk X.prog X.w) X.A (exec st X.env) (SP X u D) X.xe s
def J9(X:Cx)(st:List Stmt)(t:TS):Prop:=
 ∀(u:Φ) (s:Shared) (σ:St) (H:Hp) (D:zu),Inv X u σ H s->t D σ H->jn (jk X.prog X.w) X.A (execs st X.env) (SP X u D) X.xe s
noncomputable def thn{α:Type}{t:Sem α}{Q u:α->Shared->Prop}{M:Model}{A:Around}{E:Ψ}{s:Shared}(h:jn M A t Q E s)(z:∀a s,Q a s->u a s):jn M A t u E s:=jB h z λ_ _ x=>x
section
variable {X:Cx}
noncomputable def wq(i:Nat):TE:=λσ H Q=>∃v,σ[i]?=some (some v)/\Q v H
noncomputable def tC(v:V):TE:=λ_ H Q=>Q v H
def Xq{i:Nat}{x:Str}{pos:Pos}(E:X.N[i]?=some x)(G:Vis X.env.scope x)(hd:(x == ("__debug__" : Str))=false:=by decide)(z:(x == ("__classdict__" : Str))=false:=by decide):PE X (.Name x pos) (wq i):=by
 intro J s σ H Q I h;obtain⟨v,e,h⟩:=h;obtain⟨m,hn,hl⟩:=I.loc;obtain⟨u,r,l⟩:=hl i x v E e G;have fin:EP X J σ Q u s:=⟨v,H,I,r,h⟩;rcases l with⟨hk,L⟩|⟨hk,c,B,t⟩
 .exact wpAny_Name (wpAny_loadName_local I.ok.kind hk hn L fin) hd
 .rcases hk with hk|hk
  .exact wpAny_Name (wpAny_loadName_cell I.ok.kind hk B t fin) hd
  .exact wpAny_Name (wpAny_loadName_free I.ok.kind hk B t fin z) hd
def qw{i j pos}:PE X (.Constant (.int i) j pos) (tC (.int i)):=λ_ _ _ H _ I h=>wpAny_Constant_int ⟨.int i,H,I.tok _,⟨_,rfl⟩,h⟩
def IC{b j pos}:PE X (.Constant (.bool b) j pos) (tC (.bl b)):=λ_ _ _ H _ I h=>Constant_bool ⟨.bl b,H,I,rfl,h⟩
def Qy{j pos}:PE X (.Constant .none j pos) (tC .non):=λ_ _ _ H _ I h=>Constant_none ⟨.non,H,I,rfl,h⟩
def qt{x j pos}:PE X (.Constant (.str x) j pos) (tC (.str x)):=λ_ _ _ H _ I h=>Calls.Constant_str ⟨.str x,H,I.tok _,⟨_,rfl⟩,h⟩
def Gl(X:Cx)(x:Str):Prop:=X.env.kindOf x=some .globalImplicit
def GC{E:Ψ}{t:Φ}{s:Shared}{σ:St}{H:Hp}{x:Str}{u:Value}{pos:Pos}{Q:Ψ}(I:Inv X t σ H s)(z:Gl X x)(B:X.mg x=some u)(h:Q u s)
  (hd:(x == ("__debug__" : Str))=false:=by decide):jn (jk X.prog X.w) X.A (eval (.Name x pos) X.env) Q E s:=
 Calls.Name_function_global I.ok.kind z (Calls.loadGlobal_global (by rw[I.ok.glob];exact I.mod.glob.keeps I.bk) B h) hd
def wg{E:Ψ}{t:Φ}{s:Shared}{σ:St}{H:Hp}{x:Str}{u:Value}{pos:Pos}{Q:Ψ}(I:Inv X t σ H s)(z:Gl X x)(B:X.mg x=none)(G:kz x=some u)(h:Q u s)
  (hn:x ≠ "__name__" := by decide) (hd:(x == ("__debug__" : Str))=false:=by decide):jn (jk X.prog X.w) X.A (eval (.Name x pos) X.env) Q E s:=by
 obtain⟨M,J,L⟩:=I.mod.blt;exact Calls.Name_function_global I.ok.kind z (Calls.loadGlobal_builtin (by rw[I.ok.glob];exact I.mod.glob.keeps I.bk) B (by rw[I.ok.blt];exact J.keeps I.bk) ((L x hn).trans G) h) hd
def xt{x:Str}{v:V}{u:Value}{pos:Pos}(s:Gl X x)(t:X.mg x=some u)(r:oC v u)(hd:(x == ("__debug__" : Str))=false:=by decide):PE X (.Name x pos) (tC v):=
 λ_ _ _ H _ I h=>GC I s t ⟨v,H,I,r,h⟩ hd
def Mv{x:Str}{v:V}{u:Value}{pos:Pos}(s:Gl X x)(t:X.mg x=none)(z:kz x=some u)(r:oC v u)(hn:x ≠ "__name__" := by decide)(hd:(x == ("__debug__" : Str))=false:=by decide):PE X (.Name x pos) (tC v):=
 λ_ _ _ H _ I h=>wg I s t z ⟨v,H,I,r,h⟩ hn hd
variable {a b:Expr}{ta tb:TE}{pos:Pos}
def PC(X:Cx)(E:CmpOp)(a b:Expr)(t:TE):Prop:=
 ∀(B:Φ) (s:Shared) (σ:St) (H:Hp) (Q:VK),Inv X B σ H s->t σ H Q ->
  jn (jk X.prog X.w) X.A (eval a X.env) (λv x=>jn (jk X.prog X.w) X.A (eval b X.env) (λu z=>jn (jk X.prog X.w) X.A (jA E v u) (EP X B σ Q) X.xe z) X.xe x) X.xe s
def tB(t:TE):TT:=λσ H Q=>t σ H λx s=>∃c,x = .bl c/\Q c s
def Lb{B:CmpOp}{t:TE}(h:PC X B a b t)(E:jT B b=false:=by first|exact z _ (by decide) (by decide)|rfl):PT X (.Compare a [B] [b] pos) (tB t):=by
 intro G s σ H Q I hw;refine lC (thn (h G s σ H _ I hw) λv R E=>thn E λu S J=>thn J λc U ⟨x,L,M,O,P⟩=>?_) E
 obtain⟨d,rfl,q⟩:=P;cases O;exact jM ⟨L,M,q⟩
def BY{e:Expr}{t:TE}(h:PE X e t)(z:∀u,isTrue e X.env u=(do let v ←u;standAt e.pos;kT [v] (truthy v)):=by intro _;rfl):PT X e (tB t):=by
 intro B s σ H Q I hw;refine isTrue_plain (thn (h B s σ H _ I hw) λv M ⟨x,E,G,J,L⟩=>?_) (z _)
 obtain⟨d,rfl,q⟩:=L;cases J;exact jM ⟨E,G,q⟩
variable {tA tB':TT}{rest:List Expr}
def aaa(t u:TT):TT:=λσ H Q=>t σ H λc s=>if c=true then u σ s Q else Q false s
def tOr(t u:TT):TT:=λσ H Q=>t σ H λc s=>if c=true then Q true s else u σ s Q
def aaW(t:TT):TT:=λσ H Q=>t σ H λc s=>Q (!c) s
def UZ(ha:PT X a tA):PW X (.BoolOp .And [a] pos) tA:=by
 intro u t s σ H Q I h;refine isTrue_and (thn (ha t s σ H Q I h) λc x e=>?_)
 cases c with
 |true=>exact isTrue_and_nil e
 |false=>exact e
def SZ(ha:PT X a tA):PW X (.BoolOp .Or [a] pos) tA:=by
 intro u t s σ H Q I h;refine isTrue_or (thn (ha t s σ H Q I h) λc x e=>?_)
 cases c with
 |false=>exact isTrue_or_nil e
 |true=>exact e
def XI(ha:PT X a tA)(hb:PW X (.BoolOp .And (b::rest) pos) tB'):PW X (.BoolOp .And (a::b::rest) pos) (aaa tA tB'):=by
 intro B t s σ H Q I h;refine isTrue_and (thn (ha t s σ H _ I h) λc E ⟨u,x,z⟩=>?_)
 cases c with
 |true=>exact hb B t E σ u Q x z
 |false=>exact⟨u,x,z⟩
def Nl(ha:PT X a tA)(hb:PW X (.BoolOp .Or (b::rest) pos) tB'):PW X (.BoolOp .Or (a::b::rest) pos) (tOr tA tB'):=by
 intro B t s σ H Q I h;refine isTrue_or (thn (ha t s σ H _ I h) λc E ⟨u,x,z⟩=>?_)
 cases c with
 |true=>exact⟨u,x,z⟩
 |false=>exact hb B t E σ u Q x z
def L9(ha:PT X a tA):PT X (.UnaryOp .Not a pos) (aaW tA):=by
 intro t s σ H Q I h;exact isTrue_not (ha t s σ H (λc u=>Q (!c) u) I h)
def WT(ta tb:TE):TE:=λσ H Q=>ta σ H λx s=>∃c,x = .bl c/\if c=true then tb σ s Q else Q (.bl false) s
def aa2(ta tb:TE):TE:=λσ H Q=>ta σ H λx s=>∃c,x = .bl c/\if c=true then Q (.bl true) s else tb σ s Q
noncomputable def Tt{op}{t:TE}(h:PE X a t):PE X (.BoolOp op [a] pos) t:=λu s σ H Q I hw=>BoolOp_one (h u s σ H Q I hw)
def X2(ha:PE X a ta)(hb:PE X (.BoolOp .And (b::rest) pos) tb):PE X (.BoolOp .And (a::b::rest) pos) (WT ta tb):=by
 intro u s σ H Q I h;refine BoolOp_and (thn (ha u s σ H _ I h) λv E ⟨x,z,B,G,t⟩=>?_)
 obtain⟨c,rfl,t⟩:=t;cases G;refine jM ?_;cases c with
 |true=>exact hb u E σ z Q B t
 |false=>exact⟨.bl false,z,B,rfl,t⟩
def aav(ha:PE X a ta)(hb:PE X (.BoolOp .Or (b::rest) pos) tb):PE X (.BoolOp .Or (a::b::rest) pos) (aa2 ta tb):=by
 intro u s σ H Q I h;refine BoolOp_or (thn (ha u s σ H _ I h) λv E ⟨x,z,B,G,t⟩=>?_)
 obtain⟨c,rfl,t⟩:=t;cases G;refine jM ?_;cases c with
 |false=>exact hb u E σ z Q B t
 |true=>exact⟨.bl true,z,B,rfl,t⟩
def tIf(t:TT)(ta tb:TE):TE:=λσ H Q=>t σ H λc s=>if c=true then ta σ s Q else tb σ s Q
def Ql{c:Expr}(E:PT X c tA)(ha:PE X a ta)(hb:PE X b tb):PE X (.IfExp c a b pos) (tIf tA ta tb):=by
 intro t s σ H Q I h;refine wpAny_IfExp (thn (E t s σ H _ I h) λd u ⟨x,z,B⟩=>?_)
 cases d with
 |true=>exact ha t u σ x Q z B
 |false=>exact hb t u σ x Q z B
end
def qh(K:Ζ)(H:Hp)(a:Addr)(xs:List V):Prop:=
 Rd H a (.lst xs) ∨
  ∃(o:Obj) (s:Ω) (n:Nat),K.lookup a=some o/\o.cls = .type "list" /\ o.dict=none/\o.data = .seq s n/\s.size<=jo/\ot xs s.toList
def BZ(K:Ζ)(H:Hp)(a:Addr)(xs:List V):Prop:=
 Rd H a (.tup xs) ∨
  ∃(o:Obj) (s:Ω) (n:Nat),K.lookup a=some o/\o.cls = .type "tuple" /\ o.data = .seq s n/\s.size<=jo/\ot xs s.toList
def acn:Value->Option V
 | .none=>some .non
 | .bool b=>some (.bl b)
 | .int i _=>some (.int i)
 | .str x _=>some (.str x)
 | .bytes b _=>some (.byt b)
 | .float b _=>some (.flt b)
 | .ref a=>some (.ref a)
 | .type n=>some (.ty n)
 |_=>none
def oC.abs{x:V}{u:Value}(r:oC x u):acn u=some x:=by
 cases x with
 |non=>cases r;rfl
 |bl _=>cases r;rfl
 |int _=>obtain⟨t,rfl⟩:=r;rfl
 |str _=>obtain⟨t,rfl⟩:=r;rfl
 |byt _=>obtain⟨t,rfl⟩:=r;rfl
 |flt _=>obtain⟨t,rfl⟩:=r;rfl
 |ref _=>cases r;rfl
 |ty _=>cases r;rfl
theorem oC.inj{x y:V}{u:Value}(r:oC x u)(q:oC y u):x=y:=aL.inj (r.abs.symm.trans q.abs)
theorem ot.inj:∀{xs ys:List V}{us:Ξ},ot xs us->ot ys us->xs=ys
 |_,_,_,.nil,.nil=>rfl
 |_,_,_,.cons r t,.cons s u=>by rw[r.inj s,ot.inj t u]
section
variable {X:Cx}{nu:Φ}{σ:St}{H:Hp}{s:Shared}{a:Addr}{xs ys:List V}
def qh.of{K:Ζ}(h:H a=some (.lst xs)):qh K H a xs:=.inl (.inl h)
noncomputable def BZ.of{K:Ζ}(h:H a=some (.tup xs)):BZ K H a xs:=.inl (.inl h)
def Inv.list(I:Inv X nu σ H s)(h:qh X.K H a xs):∃t:Ξ,ot xs t/\PlainL s.heap a t.toArray/\xs.length<=jo:=by
 rcases h with h|⟨o,t,n,hk,u,hd,x,B,r⟩
 .obtain⟨z,t,n,r,e⟩:=h.ok I.hok;exact⟨t,r,⟨_,n,e,rfl,rfl,rfl⟩,z⟩
 .refine⟨t.toList,r,⟨o,n,I.kIn a o hk,u,hd,by simpa using x⟩,?_⟩
  have e:=r.length;simp only[ah]at e;lia
def Inv.tuple(I:Inv X nu σ H s)(h:BZ X.K H a xs):∃t:Ξ,ot xs t/\IsTup s.heap a t.toArray/\xs.length<=jo:=by
 rcases h with h|⟨o,t,n,hk,u,x,B,r⟩
 .obtain⟨z,t,r,p⟩:=h.ok I.hok;exact⟨t,r,p,z⟩
 .refine⟨t.toList,r,⟨o,I.kIn a o hk,u,n,by simpa using x⟩,?_⟩
  have e:=r.length;simp only[ah]at e;lia
def Inv.list_inj(I:Inv X nu σ H s)(h:qh X.K H a xs)(h':qh X.K H a ys):xs=ys:=by
 obtain⟨u,r,⟨o,n,e,_,_,d⟩,_⟩:=I.list h;obtain⟨t,B,⟨G,J,x,_,_,z⟩,_⟩:=I.list h';rw[e]at x;cases x;rw[d]at z;injection z with E _
 have:u=t:=by simpa using congrArg iU E
 subst this;exact r.inj B
def Inv.tuple_inj(I:Inv X nu σ H s)(h:BZ X.K H a xs)(h':BZ X.K H a ys):xs=ys:=by
 obtain⟨u,r,⟨o,e,_,n,d⟩,_⟩:=I.tuple h;obtain⟨t,B,⟨G,x,_,J,z⟩,_⟩:=I.tuple h';rw[e]at x;cases x;rw[d]at z;injection z with E _
 have:u=t:=by simpa using congrArg iU E
 subst this;exact r.inj B
end
noncomputable abbrev Cx.wish(X:Cx)(E:Ψ):Cx:={ X with xe:=E }
abbrev Cx.nox(X:Cx):Cx:=X.wish λ_ _=>False
theorem Cx.Ok.wish{X:Cx}(ok:X.Ok)(E:Ψ):(X.wish E).Ok:=
 ⟨ok.mod,ok.kind,ok.glob,ok.blt,ok.above,ok.inj,ok.has,ok.cab,ok.hd,ok.frames,ok.stk,ok.exf,ok.bs,ok.bsz,ok.noex,ok.exfs,ok.funs,ok.frf⟩
def Cx.Ok.unwish{X:Cx}{E:Ψ}(ok:(X.wish E).Ok):X.Ok:=
 ⟨ok.mod,ok.kind,ok.glob,ok.blt,ok.above,ok.inj,ok.has,ok.cab,ok.hd,ok.frames,ok.stk,ok.exf,ok.bs,ok.bsz,ok.noex,ok.exfs,ok.funs,ok.frf⟩
section
variable {X:Cx}{nu:Φ}{σ:St}{H:Hp}{s:Shared}{E:Ψ}
theorem Inv.wish(I:Inv X nu σ H s)(E:Ψ):Inv (X.wish E) nu σ H s:=⟨I.ok.wish E,I.os,I.bare,I.base,I.loc,I.cell,I.free,I.freeC,I.pin,I.hok,I.len⟩
theorem Inv.unwish(I:Inv (X.wish E) nu σ H s):Inv X nu σ H s:=⟨I.ok.unwish,I.os,I.bare,I.base,I.loc,I.cell,I.free,I.freeC,I.pin,I.hok,I.len⟩
theorem SP.unwish{D:zu}{f:Flow}{z:Shared}(h:SP (X.wish E) nu D f z):SP X nu D f z:=by
 cases f with
 |next=>obtain⟨t,x,I,q⟩:=h;exact⟨t,x,I.unwish,q⟩
 |brk=>obtain⟨t,x,I,q⟩:=h;exact⟨t,x,I.unwish,q⟩
 |cont=>obtain⟨t,x,I,q⟩:=h;exact⟨t,x,I.unwish,q⟩
 |ret u=>obtain⟨v,t,x,I,r,q⟩:=h;exact⟨v,t,x,I.unwish,r,q⟩
theorem J9.nox{st:List Stmt}{t:TS}(h:J9 X.nox st t):J9 X st t:=λnu s σ H D I hw=>
 jB (h nu s σ H D (I.wish _) hw) (λ_ _ q=>q.unwish) λ_ _ z=>False.elim z
end
section
variable {X:Cx}{st:Stmt}{rest:List Stmt}{t u:TS}{e:Expr}{te:TE}{pos:Pos}
def WS:TS:=λD σ H=>D.nx σ H
def VE(t u:TS):TS:=λD σ H=>t { D with nx:=u D } σ H
def sV:J9 X [] WS:=λ_ _ σ H _ I h=>kH ⟨σ,H,I,h⟩
def nQ(B:PS X st t)(E:J9 X rest u):J9 X (st::rest) (VE t u):=by
 intro z s σ H D I h;refine wpAny_execs_cons (thn (B z s σ H { D with nx:=u D } I h) λf G q=>?_)
 cases f with
 |next=>
  obtain⟨x,J,L,q⟩:=q;exact E z G x J D L q
 |ret v=>exact q
 |brk=>exact q
 |cont=>exact q
def nR(x:PS X st t):J9 X [st] t:=by
 intro z s σ H D I h;refine wpAny_execs_cons (thn (x z s σ H D I h) λf B q=>?_)
 cases f with
 |next=>exact kH q
 |ret v=>exact q
 |brk=>exact q
 |cont=>exact q
def Inv.quiet{x:Φ}{σ:St}{H:Hp}{s:Shared}(I:Inv X x σ H s):interactive X.env=false:=by simp[interactive,I.ok.kind]
def Ir(te:TE):TS:=λD σ H=>te σ H λ_ s=>D.nx σ s
def xr(z:PE X e te)(B:kM e none pos.line X.env=pure false:=by rfl):PS X (.Expr e pos) (Ir te):=by
 intro E s σ H D I h;exact wpAny_Expr_any (thn (z E s σ H _ I h) λv M ⟨x,G,J,O,L⟩=>⟨σ,G,J,L⟩) I.quiet B
noncomputable def Xc(te:TE):TS:=λD σ H=>te σ H D.rt
def qb(z:PE X e te):PS X (.Return (some e) pos) (Xc te):=by
 intro B s σ H D I h;exact wpAny_Return_some (thn (z B s σ H _ I h) λv M ⟨x,E,G,J,L⟩=>⟨x,σ,E,G,J,L⟩)
def ZV(c:TT)(t u:TS):TS:=λD σ H=>c σ H λb s=>if b=true then t D σ s else u D σ s
def uu{c:Expr}{a b:List Stmt}{z:TT}(L:PT X c z)(ha:J9 X a t)(hb:J9 X b u):PS X (.If c a b pos) (ZV z t u):=by
 intro x s σ H D I h;refine wpAny_If (thn (L x s σ H _ I h) λd B ⟨E,G,J⟩=>?_)
 cases d with
 |true=>exact ha x B σ E D G J
 |false=>exact hb x B σ E D G J
noncomputable def RV:TS:=λ_ _ _=>False
def ue:PS X st RV:=λ_ _ _ _ _ _ h=>h.elim
end
abbrev TG:=V->St->Hp->(St->Hp->Prop)->Prop
abbrev Wz:=List V->St->Hp->(St->Hp->Prop)->Prop
def PG(X:Cx)(x:Expr)(t:TG):Prop:=
 ∀(B:Φ) (s:Shared) (σ:St) (H:Hp) (v:V) (u:Value) (Q:St->Hp->Prop),Inv X B σ H s->oC v u->t v σ H Q ->
  jn (jk X.prog X.w) X.A (kY x X.env u) (λ_ G=>∃z E,Inv X B z E G/\Q z E) X.xe s
def ZK(X:Cx)(ts:List Expr)(t:Wz):Prop:=
 ∀(x:Φ) (s:Shared) (σ:St) (H:Hp) (vs:List V) (us:Ξ) (Q:St->Hp->Prop),Inv X x σ H s->ot vs us->t vs σ H Q ->
  jn (jk X.prog X.w) X.A (assignInOrder ((kL ts X.env).map (·.2)) us) (λ_ B=>∃u z,Inv X x u z B/\Q u z) X.xe s
abbrev XZ:=V->V->V->Hp->(Hp->Prop)->Prop
def ZY(X:Cx)(t:XZ):Prop:=
 ∀(x:Φ) (s:Shared) (σ:St) (H:Hp) (o i v:V) (z B u:Value) (Q:Hp->Prop),Inv X x σ H s->oC o z->oC i B->oC v u->t o i v H Q ->
  jn (jk X.prog X.w) X.A (setItem z B u) (λ_ G=>∃E,Inv X x σ E G/\Q E) X.xe s
section
variable {X:Cx}{pos:Pos}
noncomputable def qP(i:Nat):TG:=λv σ H Q=>Q (σ.set i (some v)) H
def G6{i:Nat}{x:Str}(t:X.N.Nodup)(hi:X.N[i]?=some x)(z:Zu X.env.scope x)(B:X.fn x=true∨X.env.scope.names.lookup x=some .local:=by trivial):PG X (.Name x pos) (qP i):=by
 intro G s σ H v u Q I r h;exact wpAny_assign_Name (Ig I t hi z r (λJ E=>⟨_,H,E,h⟩) B)
noncomputable def Lm:Wz:=λvs σ H Q=>vs=[]/\Q σ H
noncomputable def xW(t:TG)(u:Wz):Wz:=λvs σ H Q=>∃v r,vs=v::r/\t v σ H λs x=>u r s x Q
def Gz:ZK X [] Lm:=by
 intro t s σ H u x Q I r h;obtain⟨e,h⟩:=h;subst e;cases r;exact assignInOrder_nil ⟨σ,H,I,h⟩
def yS{e:Expr}{es:List Expr}{t:TG}{u:Wz}(B:PG X e t)(E:ZK X es u)
  (G:(kL (e::es) X.env).map (·.2)=kY e X.env::(kL es X.env).map (·.2):=by rfl):ZK X (e::es) (xW t u):=by
 intro z s σ H S U Q I r h;obtain⟨v,Y,J,h⟩:=h;subst J;cases r with
 |cons r L=>
  rw[G];refine assignInOrder_cons (thn (B z s σ H _ _ _ I r h) λ_ M ⟨x,O,P,R⟩=>?_)
  exact E z M x O _ _ Q P L R
noncomputable def LS(K:Ζ)(n:Nat)(t:Wz):TG:=λv σ H Q=>∃a xs,v = .ref a/\BZ K H a xs/\xs.length=n/\t xs σ H Q
def Kp{es:List Expr}{k:Nat}{t:Wz}{n:Nat}(E:X.calm=true)(h:ZK X es t)
  (hn:(kL es X.env).length=n:=by rfl) (x:(kL es X.env).findIdx? (·.1)=none:=by rfl):PG X (.Tuple es k pos) (LS X.K n t):=by
 intro z s σ H v u Q I r hw;obtain⟨a,G,J,L,hl,hw⟩:=hw;subst J;cases r;obtain⟨M,B,ht,S⟩:=I.tuple L;refine assign_Tuple_tuple (I.ok.hd E) ht (by simp[hn,←hl,B.length]) x λO P=>?_
 have R:Inv X z σ H { s with heap:=O }:=I.kept (t':=s.toks) λb o e=>P b o (aA (aj e)) e
 exact h z _ σ H G _ Q R (by simpa using B) hw
noncomputable def abb(to s:TE)(t:XZ):TG:=λv σ H Q=>to σ H λo u=>s σ u λi x=>t o i v x λz=>Q σ z
def YQ{o i:Expr}{to G:TE}{t:XZ}(J:PE X o to)(hi:PE X i G)(L:ZY X t)
  (ha:∀v,kY (.Subscript o i pos) X.env v=(do
   let z ←kT [v] (eval o X.env)
   let B ←kT [v,z] (eval i X.env)
   standAt pos
   kT [v,z,B] (setItem z B v)
   release [v,z,B] []):=by intro _;rfl):PG X (.Subscript o i pos) (abb to G t):=by
 intro E s σ H v u Q I r h;rw[ha];refine ji (jE (thn (J E s σ H _ I h) λz M ⟨x,O,P,R,S⟩=>?_))
 refine ji (jE (thn (hi E M σ O _ P S) λB U ⟨y,Y,I2,r2,q2⟩=>?_))
 refine ji (lL (ji (jE (thn (L E U σ Y x y v z B u _ I2 R r2 r q2) λ_ s3 ⟨H3,I3,q3⟩=>?_))))
 exact wpAny_release ⟨σ,H3,I3,q3⟩
def Ja(te:TE)(g:TG):TS:=λD σ H=>te σ H λx s=>g x σ s D.nx
def QK{tg e:Expr}{te:TE}{g:TG}(u:PE X e te)(z:PG X tg g)(B:swapsWithSole [tg] e pos.line X.env=pure false:=by rfl)(hw:swappedStores [tg] e X.env=pure none:=by rfl)
  (E:(kL [tg] X.env).map (·.2)=[kY tg X.env]:=by rfl):PS X (.Assign [tg] e pos) (Ja te g):=by
 intro t s σ H D I h;refine wpAny_Assign_stores (thn (u t s σ H _ I h) λv G ⟨x,J,L,M,O⟩=>?_) B hw
 rw[E];exact thn (z t G σ J x v _ L M O) λ_ P q=>q
def Xw{i:Nat}{x:Str}{e:Expr}{te:TE}{t:Pos}(u:X.N.Nodup)(hi:X.N[i]?=some x)(z:Zu X.env.scope x)(B:PE X e te)(E:kM e (some (.Name x t)) pos.line X.env=pure false:=by rfl)(G:X.fn x=true∨X.env.scope.names.lookup x=some .local:=by trivial) :
  PS X (.Assign [.Name x t] e pos) (Ja te (qP i)):=by
 intro J s σ H D I h;refine wpAny_Assign_Name (thn (B J s σ H _ I h) λv R ⟨y,L,M,O,P⟩=>?_) E
 exact Ig M u hi z O (λS Q=>⟨_,L,Q,P⟩) G
end
section
variable {X:Cx}{pos:Pos}
def SX(c:TT)(z:TS):TS:=λD σ H=>∃W:Nat->St->Hp->Prop,(∃m,W m σ H)/\∀m σ H,W m σ H ->
 c σ H λb t=>if b=true then ∃N:St->Hp->Prop,(∀s u,N s u->∃x,x<m/\W x s u)/\z { D with nx:=N,ct:=N,bk:=D.nx } σ t else D.nx σ t
def QJ{c:Expr}{body:List Stmt}{Q:TT}{R:TS}(S:PassesOwn (jk X.prog X.w) X.A X.env X.xe)(hc:PT X c Q)(hb:J9 X body R):PS X (.While c body [] pos) (SX Q R):=by
 intro G s σ H D I h;obtain⟨W,⟨m0,w0⟩,turn⟩:=h;refine wpAny_While (codeAny_whileLoop (λn s'=>∃x U,Inv X G x U s'/\W n x U) ?_ m0 ⟨σ,H,I,w0⟩)
 rintro n s1 ⟨u,Y,I1,w1⟩;refine jQ S (thn (hc G s1 u Y _ I1 (turn n u Y w1)) λb s2 ⟨H2,I2,B⟩=>?_)
 cases b with
 |true=>
  obtain⟨N,hN,B⟩:=B;rw[oa rfl];refine jQ S (thn (hb G s2 u H2 _ I2 B) λf s3 E=>?_)
  cases f with
  |next=>
   obtain⟨t,z,J,L⟩:=E;obtain⟨M,O,P⟩:=hN t z L;exact⟨M,O,t,z,J,P⟩
  |cont=>
   obtain⟨t,z,J,L⟩:=E;obtain⟨M,O,P⟩:=hN t z L;exact⟨M,O,t,z,J,P⟩
  |brk=>exact E
  |ret v=>exact E
 |false=>
  rw[nY ay];exact kH ⟨u,H2,I2,B⟩
end
structure It where
 go:Nat->Hp->Prop
 yld:Nat->Hp->V->Hp->Prop
 stop:Nat->Hp->Prop
def AX(X:Cx)(s:Φ)(H:Hp)(b:Addr):Prop:=
 H b=none/\b≠X.env.locals/\b∉X.fs/\(b∈X.ex∨X.s₀.heap.objs.size<=b)/\(∀x c,X.env.cells.lookup x=some c->c≠b)/\∀p∈X.pn++s,p.1≠b
def Inv.fpOk{X:Cx}{t:Φ}{σ:St}{H u:Hp}{s:Shared}{b:Addr}(I:Inv X t σ H s)(hb:s.heap.objs.size<=b)(hn:u b=none):AX X t u b:=by
 refine⟨hn,dh (aF I.lt hb),I.nofs hb,.inr (bq I.sz hb),λx c e z=>?_,λp B z=>?_⟩
 .obtain⟨v,q⟩:=I.cell x c e;exact absurd (aF q.lt (by rw[z];exact hb)) (cm _)
 .exact absurd (aF (aj (I.pin p B).1) (by rw[z];exact hb)) (cm _)
structure Dv (P:jq)(w:ju)(K:Ζ)(tg:Expr)(J:It)(fp:Δ)(it:Addr)(tn:Nat->Heap->Prop):Prop where
 mem:it∈fp
 obj:∀i h,tn i h->∀b∈fp,∃o,h.get? b=some o/\∀v,o.data ≠ .cell v
 keep:∀i h h',tn i h->(∀b∈fp,∀o,h.get? b=some o->h'.get? b=some o)->tn i h'
 item:∀(X:Cx),X.prog=P->X.w=w->X.K=K->X.calm=true->∀(i:Nat) (nu:Φ) (s:Shared) (σ:St) (H:Hp) (E:Ψ),Inv X nu σ H s->(∀b∈fp,AX X nu H b)->tn i s.heap->J.go i H ->
  jn (jk P w) X.A (pyNext (.ref it)) (λr s1=>∃u,r=some u /\
   jn (jk P w) X.A (kJ tg (.ref it) u) (λ_ s2=>∃x H',Inv X nu σ H' s2/\oC x u/\J.yld i H x H'/\tn (i+1) s2.heap/\∀b∈fp,H' b=none) E s1) E s
 done:∀(X:Cx),X.prog=P->X.w=w->X.K=K->X.calm=true->∀(i:Nat) (nu:Φ) (s:Shared) (σ:St) (H:Hp) (E:Ψ),Inv X nu σ H s->(∀b∈fp,AX X nu H b)->tn i s.heap->J.stop i H ->
  jn (jk P w) X.A (pyNext (.ref it)) (λr s1=>r=none/\Inv X nu σ H s1) E s
 self:∀(A:Around) (i:Nat) (s:Shared) (Q:Ψ) (E:Ψ),tn i s.heap->Q (.ref it) s->jn (jk P w) A (pyIter (.ref it)) Q E s
abbrev TI:=St->Hp->(It->Hp->Prop)->Prop
def PIE(X:Cx)(u:Φ)(σ:St)(tg:Expr)(R:It->Hp->Prop)(s:Value)(s2:Shared):Prop:=
 ∃(x:Addr) (fp:Δ) (z:Nat->Heap->Prop) (J:It) (t:Hp),s = .ref x/\Inv X u σ t s2/\Dv X.prog X.w X.K tg J fp x z/\z 0 s2.heap/\(∀b∈fp,AX X u t b)/\R J t
def PI(X:Cx)(tg iter:Expr)(u:TI):Prop:=
 ∀(t:Φ) (s:Shared) (σ:St) (H:Hp) (R:It->Hp->Prop),Inv X t σ H s->u σ H R ->
  jn (jk X.prog X.w) X.A (eval iter X.env) (λv s1=>jn (jk X.prog X.w) X.A (pyIter v) (PIE X t σ tg R) X.xe s1) X.xe s
def Gv{M:Model}{A:Around}{E:Ψ}{s:Shared}{tg:Expr}{x:Addr}{u:Value}{o:Obj}{n:String}{vs:Ω}{Q:Unit->Shared->Prop}(z:s.heap.get? x=some o)(B:o.cls = .type n)(hd:o.data = .fields vs)
    (hn:["enumerate","zip","dict_itemiterator","dict_reverseitemiterator","odict_iterator","itertools.zip_longest","itertools.pairwise"].contains n=false) (t:Q () s):jn M A (kJ tg (.ref x) u) Q E s:=by
  unfold kJ;cases tg <;> first
    |exact jm t
    | (cases u <;> first
        |exact jm t
        | (refine ji (wpAny_load z ?_)
           rw[B,hd];show jn M A (if (["enumerate","zip","dict_itemiterator","dict_reverseitemiterator","odict_iterator","itertools.zip_longest","itertools.pairwise"].contains n && vs[0]? == some (rawInt _))=true then _ else _) Q E s
           rw[nY (by intro h;rw[hn,eK]at h;cases h)]
           exact jm t))
noncomputable def ZE(K:Ζ)(a:Addr):It:=
 ⟨λi H=>∃xs x,qh K H a xs/\xs[i]?=some x,λi H x s=>s=H/\∀xs,qh K H a xs->xs[i]?=some x,λi H=>∃xs,qh K H a xs/\xs.length<=i⟩
noncomputable def Itt(K:Ζ)(a:Addr):It:=
 ⟨λi H=>∃xs x,BZ K H a xs/\xs[i]?=some x,λi H x s=>s=H/\∀xs,BZ K H a xs->xs[i]?=some x,λi H=>∃xs,BZ K H a xs/\xs.length<=i⟩
noncomputable def Vv(lo:Int)(n:Nat):It:=⟨λi _=>i<n,λi H x s=>s=H/\x = .int (lo+i),λi _=>n<=i⟩
def OW{P:jq}{w:ju}{K:Ζ}{tg:Expr}(a t:Addr):Dv P w K tg (ZE K a) [t] t (λi h=>h.IsListIter t a i) where
 mem:=by simp
 obj:=λi h st b hb=>by
  have e:b=t:=by simpa using hb
  subst e;obtain⟨o,e,c,d⟩:=st;exact⟨o,e,λv z=>by rw[d]at z;cases z⟩
 keep:=λi h h' st k=>st.at λo e=>k t (by simp) o e
 item:=by
  intro X L hw M hc i nu s σ H E I G st O;subst L hw M;obtain⟨xs,x,J,Q⟩:=O;obtain⟨R,S,p,hz⟩:=I.list J;obtain⟨u,hu,ru⟩:=S.get Q;obtain⟨U,Y,f2,f3,f4,f5⟩:=G t (by simp)
  refine wpAny_pyNext_list_item st p.isList (x:=u) (by simpa using hu) λh' B sb=>?_
  have I1:Inv X nu σ H { s with heap:=h' }:=I.turned (t':=s.toks) (λb o hb e=>(sb.2 b hb).trans e) U Y f3 f4 f5
  obtain⟨o,e,c,d⟩:=id B;exact⟨u,rfl,Gv (s:={ s with heap:=h' }) e c d (by decide) ⟨x,H,I1,ru,⟨rfl,λys hy=>by rw[I.list_inj hy J];exact Q⟩,B,λb hb=>(G b hb).1⟩⟩
 done:=by
  intro X L hw M hc i nu s σ H E I G st O;subst L hw M;obtain⟨xs,J,Q⟩:=O;obtain⟨R,S,p,hz⟩:=I.list J;obtain⟨U,Y,f2,f3,f4,f5⟩:=G t (by simp)
  have hl:=S.length;exact wpAny_pyNext_list_end (I.ok.hd hc) st p.isList (by simp;lia) λh' eb=>⟨rfl,I.turned (t':=s.toks) (λb o hb e=>eb b o hb e) U Y f3 f4 f5⟩
 self:=λ_ _ _ _ _ st h=>wpAny_pyIter_listiter st h
def LX{P:jq}{w:ju}{K:Ζ}{tg:Expr}(a t:Addr):Dv P w K tg (Itt K a) [t] t (λi h=>h.IsTupleIter t a i) where
 mem:=by simp
 obj:=λi h st b hb=>by
  have e:b=t:=by simpa using hb
  subst e;obtain⟨o,e,c,d⟩:=st;exact⟨o,e,λv z=>by rw[d]at z;cases z⟩
 keep:=λi h h' st k=>st.at λo e=>k t (by simp) o e
 item:=by
  intro X M hw O hc i nu s σ H E I J st Q;subst M hw O;obtain⟨xs,x,L,R⟩:=Q;obtain⟨B,S,p,hz⟩:=I.tuple L;obtain⟨u,hu,ru⟩:=S.get R;obtain⟨U,Y,f2,f3,f4,f5⟩:=J t (by simp)
  refine wpAny_pyNext_tuple_item st (show s.heap.IsTuple a B.toArray from p) (x:=u) (by simpa using hu) λh' G sb=>?_
  have I1:Inv X nu σ H { s with heap:=h' }:=I.turned (t':=s.toks) (λb o hb e=>(sb.2 b hb).trans e) U Y f3 f4 f5
  obtain⟨o,e,c,d⟩:=id G;exact⟨u,rfl,Gv (s:={ s with heap:=h' }) e c d (by decide) ⟨x,H,I1,ru,⟨rfl,λys hy=>by rw[I.tuple_inj hy L];exact R⟩,G,λb hb=>(J b hb).1⟩⟩
 done:=by
  intro X M hw O hc i nu s σ H E I J st Q;subst M hw O;obtain⟨xs,L,R⟩:=Q;obtain⟨B,S,p,hz⟩:=I.tuple L;obtain⟨U,Y,f2,f3,f4,f5⟩:=J t (by simp)
  have hl:=S.length;exact wpAny_pyNext_tuple_end (I.ok.hd hc) st (show s.heap.IsTuple a B.toArray from p) (by simp;lia) λh' eb=>⟨rfl,I.turned (t':=s.toks) (λb o hb e=>eb b o hb e) U Y f3 f4 f5⟩
 self:=λ_ _ _ _ _ st h=>wpAny_pyIter_tupleiter st h
def Ku{P:jq}{w:ju}{K:Ζ}{tg:Expr}(u:Addr)(lo:Int)(n:Nat):Dv P w K tg (Vv lo n) [u] u (λi h=>IsRangeIter h u (lo+(i:Nat)*1) ((n:Int)-(i:Nat)) 1) where
 mem:=by simp
 obj:=λi h st b hb=>by
  have e:b=u:=by simpa using hb
  subst e;exact⟨_,st,λv z=>by
   have z':Data.fields _=Data.cell v:=z;cases z'⟩
 keep:=λi h h' st k=>k u (by simp) _ st
 item:=by
  intro X G hw J L i Y s σ H E I B st M;subst G hw J;obtain⟨O,Q,f2,R,S,U⟩:=B u (by simp)
  have W:=Walks.range (prog:=X.prog) (w:=X.w) (I.ok.hd L) u lo 1 n;refine W.item i s _ _ M st λv h' tk hv x kk=>?_
  obtain⟨t,rfl⟩:=hv;have I1:Inv X Y σ H { s with heap:=h',toks:=tk }:=I.turned (λb o hb e=>kk b o (by simpa using hb) e) O Q R S U
  refine⟨_,rfl,Gv (s:={ s with heap:=h',toks:=tk }) (n:= "range_iterator") x rfl rfl (by decide) ⟨.int (lo+i),H,I1,⟨t,?_⟩,⟨rfl,rfl⟩,x,λb hb=>(B b hb).1⟩⟩
  rw[Int.mul_one]
 done:=by
  intro X G hw J L i Y s σ H E I B st M;subst G hw J;obtain⟨O,Q,f2,R,S,U⟩:=B u (by simp)
  exact wpAny_pyNext_range_end (I.ok.hd L) st (by have:n<=i:=M;lia) λh' eb=>⟨rfl,I.turned (t':=s.toks) (λb o hb e=>eb b o hb e) O Q R S U⟩
 self:=λ_ _ _ _ _ st h=>wpAny_pyIter_rangeiter st h
section
variable {X:Cx}{tg:Expr}
def Sg(K:Ζ)(t:TE):TI:=λσ H R=>t σ H λx s=>∃a,x = .ref a/\(∃xs,qh K s a xs)/\R (ZE K a) s
def aam(K:Ζ)(t:TE):TI:=λσ H R=>t σ H λx s=>∃a,x = .ref a/\(∃xs,BZ K s a xs)/\R (Itt K a) s
def pB{l:Expr}{z:TE}(hl:PE X l z):PI X tg l (Sg X.K z):=by
 intro B s σ H R I h;refine thn (hl B s σ H _ I h) λv t ⟨x,E,u,G,J⟩=>?_
 obtain⟨a,e,⟨O,L⟩,q⟩:=J;subst e;cases G;obtain⟨M,P,p,Q⟩:=u.list L;refine kP p.isList ?_;refine⟨t.heap.objs.size,[t.heap.objs.size],_,_,E,rfl,u.kept (t':=t.toks) λb o e=>af _ e,OW a _,⟨_,aC _ rfl,rfl,rfl⟩,λb hb=>?_,q⟩
 have e:b=t.heap.objs.size:=by simpa using hb
 subst e;exact u.fpOk (aa _) (u.hok.fresh (aa _))
def YT{l:Expr}{B:TE}(hl:PE X l B):PI X tg l (aam X.K B):=by
 intro E s σ H R I h;refine thn (hl E s σ H _ I h) λv t ⟨x,G,u,J,L⟩=>?_
 obtain⟨a,e,⟨O,M⟩,q⟩:=L;subst e;cases J;obtain⟨z,P,p,Q⟩:=u.tuple M;refine wpAny_pyIter_tuple (show t.heap.IsTuple a z.toArray from p) ?_
 refine⟨t.heap.objs.size,[t.heap.objs.size],_,_,G,rfl,u.kept (t':=t.toks) λb o e=>af _ e,LX a _,⟨_,aC _ rfl,rfl,rfl⟩,λb hb=>?_,q⟩
 have e:b=t.heap.objs.size:=by simpa using hb
 subst e;exact u.fpOk (aa _) (u.hok.fresh (aa _))
def RD{x:Φ}{σ:St}{H:Hp}{s:Shared}{R:It->Hp->Prop}{E:Ψ}{lo hi:Int}{t u v:Tok}{z:Nat}(I:Inv X x σ H s)(G:-(2 ^ 62)<=lo)(J:lo<2 ^ 62)(L:-(2 ^ 62)<=hi)(M:hi<2 ^ 62)
  (q:R (Vv lo (hi-lo).toNat) H):jn (jk X.prog X.w) X.A (pyIter (.ref s.heap.objs.size)) (PIE X x σ tg R) E { s with heap:=s.heap.push { cls:=.type "range", data:=.fields #[.int lo t,.int hi u,.int 1 v] },toks:=z }:=by
 refine wpAny_pyIter_range (IsRange.new ..) (small_one G J L M) ?_;have B:Inv X x σ H { s with heap:=s.heap.push { cls:=.type "range", data:=.fields #[.int lo t,.int hi u,.int 1 v] },toks:=z }:=I.kept λb o e=>af _ e
 refine⟨(s.heap.push { cls:=.type "range", data:=.fields #[.int lo t,.int hi u,.int 1 v] }).objs.size,[(s.heap.push { cls:=.type "range", data:=.fields #[.int lo t,.int hi u,.int 1 v] }).objs.size],_,_,H,rfl,
  B.kept (t':=z) λb o e=>af _ e,Ku _ lo (hi-lo).toNat,?_,λb hb=>?_,q⟩
 .have O:lo+((0:Nat):Int)*1=lo:=by simp
  have P:(((hi-lo).toNat:Nat):Int)-((0:Nat):Int)=Builtin.Range.rangeSize lo hi 1:=by rw[rangeSize_one];split <;> lia
  show IsRangeIter _ _ (lo+((0:Nat):Int)*1) ((((hi-lo).toNat:Nat):Int)-((0:Nat):Int)) 1;rw[O,P];exact aC _ rfl
 .have e:b=(s.heap.push { cls:=.type "range", data:=.fields #[.int lo t,.int hi u,.int 1 v] }).objs.size:=by simpa using hb
  subst e;exact B.fpOk (aa _) (B.hok.fresh (aa _))
def Tr(s:TA):TI:=λσ H R=>s σ H λvs t=>∃j:Int,vs=[.int j]/\-(2 ^ 62)<=j/\j<2 ^ 62/\R (Vv 0 j.toNat) t
def ze{a:Expr}{x:TA}{p pos:Pos}(z:Gl X "range")(B:X.mg "range" = none)(ha:PA X [a] x)(E:jt [a] X.env=[(false,eval a X.env)]:=by rfl):PI X tg (.Call (.Name "range" p) [a] [] pos) (Tr x):=by
 intro G s σ H R I h;refine Call_ (wg I z B boot_range (bD (thn (ha pos G s σ H _ I h) λP Q ⟨S,U,J,L,u⟩=>?_) E rfl))
 obtain⟨j,e,u,M,q⟩:=u;subst e;cases L with
 |cons r O=>
  cases O;obtain⟨t,rfl⟩:=r;exact call_range_1 (RD J (by lia) (by lia) u M (by simpa using q))
def O3(B:TI)(g:TG)(E:TS):TS:=λD σ H=>B σ H λJ G=>∃W:Nat->Nat->St->Hp->Prop,(∃m,W 0 m σ G)/\∀i m σ H,W i m σ H ->
 (J.stop i H/\D.nx σ H)∨(J.go i H/\∃N:St->Hp->Prop,(∀s t,N s t->∃z,z<m/\W (i+1) z s t)/\∀x t,J.yld i H x t->g x σ t λu I=>E { D with nx:=N,ct:=N,bk:=D.nx } u I)
noncomputable def EL(fp:Δ)(h:Heap):Φ:=fp.filterMap λb=>(h.get? b).map λo=>(b,o)
def xF{fp:Δ}{h:Heap}{b:Addr}{o:Obj}(hb:b∈fp)(e:h.get? b=some o):(b,o)∈EL fp h:=hJ.mpr ⟨b,hb,by rw[e];rfl⟩
def Oj{fp:Δ}{h:Heap}{p:Addr×Obj}(s:p∈EL fp h):p.1∈fp/\h.get? p.1=some p.2:=by
 obtain⟨b,hb,e⟩:=hJ.mp s;cases q:h.get? b with
 |none=>rw[q]at e;cases e
 |some o=>
  rw[q]at e;have t:(b,o)=p:=aL.inj e;subst t;exact⟨hb,q⟩
def Inv.pinned{t:Φ}{σ:St}{H:Hp}{s:Shared}{fp:Δ}(I:Inv X t σ H s)(x:∀b∈fp,AX X t H b)(B:∀b∈fp,∃o,s.heap.get? b=some o/\∀v,o.data ≠ .cell v):Inv X (t++EL fp s.heap) σ H s:=
 I.pins_of λp E=>(mAq.mp E).elim (λz=>I.pin p (au _ z)) λz=>by
  obtain⟨hb,e⟩:=Oj z;obtain⟨G,J,L,_⟩:=x p.1 hb;obtain⟨o,u,d⟩:=B p.1 hb;rw[e]at u;cases u;exact⟨e,G,J,L,d⟩
def Inv.unpinned{t pl:Φ}{σ:St}{H:Hp}{s:Shared}(I:Inv X (t++pl) σ H s):Inv X t σ H s:=I.pins_of λp u=>I.pin p (au _ (aY _ u))
def xg{iter:Expr}{body:List Stmt}{wi:TI}{g:TG}{tb:TS}{pos:Pos}(R:PassesOwn (jk X.prog X.w) X.A X.env X.xe)(hc:X.calm=true)(hi:PI X tg iter wi)(hg:PG X tg g)(hb:J9 X body tb)
  (hs:∀x,kQ iter X.env x=pure x:=by intro _;rfl):PS X (.For tg iter body [] pos) (O3 wi g tb):=by
 intro P s σ H D I h;refine wpAny_For (thn (hi P s σ H _ I h) λv s1 h1=>thn h1 λitv s2 h2=>?_) hs
 obtain⟨it,S,tn,J,H2,e,I2,T,Fb,f2,W,⟨m0,w0⟩,turn⟩:=h2;subst e;have z:∀{M:Hp},(∀b∈S,M b=none)->∀b∈S,AX X P M b:=λhn b hb=>⟨hn b hb,(f2 b hb).2⟩
 refine codeAny_forLoop_any (λn s'=>∃i B M,Inv X P B M s'/\tn i s'.heap/\(∀b∈S,M b=none)/\W i n B M) ?_ m0 ⟨0,σ,H2,I2,Fb,λb hb=>(f2 b hb).1,w0⟩
 rintro n s3 ⟨i,E,H3,I3,st3,U,w3⟩;rcases turn i n E H3 w3 with⟨stop,qn⟩|⟨go,N,hN,step⟩
 .refine jQ R (thn (T.done X rfl rfl rfl hc i P s3 E H3 X.xe I3 (z U) st3 stop) λr s4 ⟨hr,I4⟩=>?_)
  subst hr;exact kH ⟨E,H3,I4,qn⟩
 .refine jQ R (thn (T.item X rfl rfl rfl hc i P s3 E H3 X.xe I3 (z U) st3 go) λr s4 ⟨u,hr,h4⟩=>?_)
  subst hr;refine jQ R (thn h4 λ_ s5 ⟨x,H5,I5,r5,y5,Q,fr5⟩=>?_)
  have I5':=I5.pinned (z fr5) (T.obj _ _ Q);refine jQ R (thn (hg _ s5 E H5 x u _ I5' r5 (step x H5 y5)) λ_ s6 ⟨σ6,H6,I6,q6⟩=>?_)
  refine jQ R (thn (hb _ s6 σ6 H6 _ I6 q6) λf s7 O=>?_)
  have again:∀{t:St}{G:Hp},Inv X (P++EL S s5.heap) t G s7->N t G->∃m,m<n/\∃i B M,Inv X P B M s7/\tn i s7.heap/\(∀b∈S,M b=none)/\W i m B M:=λ{t G} L Y=>by
   obtain⟨m',hm,w7⟩:=hN t G Y;refine⟨m',hm,i+1,t,G,L.unpinned,T.keep _ _ _ Q λb hb o e=>(L.pin (b,o) (au _ (au _ (xF hb e)))).1,λb hb=>?_,w7⟩
   obtain⟨o,e,d⟩:=T.obj _ _ Q b hb;exact(L.pin (b,o) (au _ (au _ (xF hb e)))).2.1
  cases f with
  |next=>obtain⟨t,G,L,Y⟩:=O;exact again L Y
  |cont=>obtain⟨t,G,L,Y⟩:=O;exact again L Y
  |brk=>obtain⟨t,G,L,O⟩:=O;exact⟨t,G,L.unpinned,O⟩
  |ret v=>obtain⟨x7,t,G,L,r7,O⟩:=O;exact⟨x7,t,G,L.unpinned,r7,O⟩
end
def P6{K:Ζ}{a:Addr}{xs:List V}{g:TG}{G:TS}{D:zu}{σ:St}{H:Hp}(s:Nat->St->Hp->Prop)(J:s 0 σ H)(hl:∀i σ H,i<=xs.length->s i σ H->qh K H a xs)
  (L:∀i x σ H,xs[i]?=some x->s i σ H->g x σ H λt E=>G { D with nx:=s (i+1),ct:=s (i+1),bk:=D.nx } t E) (hd:∀σ H,s xs.length σ H->D.nx σ H) :
  ∃W:Nat->Nat->St->Hp->Prop,(∃m,W 0 m σ H)/\∀i m σ H,W i m σ H ->
   ((ZE K a).stop i H/\D.nx σ H)∨((ZE K a).go i H/\∃N:St->Hp->Prop,(∀u z,N u z->∃I,I<m/\W (i+1) I u z)/\∀x z,(ZE K a).yld i H x z->g x σ z λt E=>G { D with nx:=N,ct:=N,bk:=D.nx } t E):=by
 refine⟨λi m σ H=>m=xs.length-i/\i<=xs.length/\s i σ H,⟨xs.length,by simp,aJ _,J⟩,?_⟩
 rintro i m σ H ⟨rfl,hi,p⟩;have q:=hl i σ H hi p
 by_cases B:i<xs.length
 .refine .inr ⟨⟨xs,xs[i],q,by simp[B]⟩,s (i+1),λu z M=>⟨xs.length-(i+1),by lia,rfl,B,M⟩,λx z y=>?_⟩
  obtain⟨e,y⟩:=y;subst e;exact L i x σ _ (y xs q) p
 .have e:i=xs.length:=by lia
  subst e;exact .inl ⟨⟨xs,q,aa _⟩,hd σ H p⟩
def NO{lo:Int}{n:Nat}{g:TG}{G:TS}{D:zu}{σ:St}{H:Hp}(s:Nat->St->Hp->Prop)(J:s 0 σ H)
  (L:∀i σ H,i<n->s i σ H->g (.int (lo+i)) σ H λt E=>G { D with nx:=s (i+1),ct:=s (i+1),bk:=D.nx } t E) (hd:∀σ H,s n σ H->D.nx σ H) :
  ∃W:Nat->Nat->St->Hp->Prop,(∃m,W 0 m σ H)/\∀i m σ H,W i m σ H ->
   ((Vv lo n).stop i H/\D.nx σ H)∨((Vv lo n).go i H/\∃N:St->Hp->Prop,(∀u z,N u z->∃I,I<m/\W (i+1) I u z)/\∀x z,(Vv lo n).yld i H x z->g x σ z λt E=>G { D with nx:=N,ct:=N,bk:=D.nx } t E):=by
 refine⟨λi m σ H=>m=n-i/\i<=n/\s i σ H,⟨n,by simp,aJ _,J⟩,?_⟩
 rintro i m σ H ⟨rfl,hi,p⟩
 by_cases B:i<n
 .refine .inr ⟨B,s (i+1),λu z M=>⟨n-(i+1),by lia,rfl,B,M⟩,λx z y=>?_⟩
  obtain⟨e,y⟩:=y;subst e y;exact L i σ _ B p
 .have e:i=n:=by lia
  subst e;exact .inl ⟨aa _,hd σ H p⟩
abbrev R2:=V->V->Hp->VK->Prop
def Dd(X:Cx)(f:Value->Value->Sem Value)(r:R2):Prop:=
 ∀(t:Φ) (s:Shared) (σ:St) (H:Hp) (x y:V) (v u:Value) (Q:VK),Inv X t σ H s->oC x v->oC y u->r x y H Q ->
  jn (jk X.prog X.w) X.A (f v u) (EP X t σ Q) X.xe s
def UnR(X:Cx)(f:Value->Sem Value)(r:V->Hp->VK->Prop):Prop:=
 ∀(t:Φ) (s:Shared) (σ:St) (H:Hp) (x:V) (v:Value) (Q:VK),Inv X t σ H s->oC x v->r x H Q ->
  jn (jk X.prog X.w) X.A (f v) (EP X t σ Q) X.xe s
def ur(X:Cx)(f:Value)(r:List V->Hp->VK->Prop):Prop:=
 ∀(t:Φ) (s:Shared) (σ:St) (H:Hp) (xs:List V) (us:Ξ) (Q:VK),Inv X t σ H s->ot xs us->r xs H Q ->
  jn (jk X.prog X.w) X.A (call f us) (EP X t σ Q) X.xe s
noncomputable def WO(r:R2)(s t:TE):TE:=λσ H Q=>s σ H λx u=>t σ u λy z=>r x y z Q
noncomputable def tUn(r:V->Hp->VK->Prop)(s:TE):TE:=λσ H Q=>s σ H λx t=>r x t Q
def rI(C:Int->Int->Prop)(g:Int->Int->V):R2:=λx y H Q=>∃i j,x = .int i/\y = .int j/\C i j/\Q (g i j) H
def OC(g:Int->Int->V):R2:=λx y H Q=>∃i j,x = .int i/\y = .int j/\Q (g i j) H
def rU(g:Int->V):V->Hp->VK->Prop:=λx H Q=>∃i,x = .int i/\Q (g i) H
section
variable {X:Cx}{a b c:Expr}{ta tb tc:TE}{pos:Pos}
def Yr(ha:PE X a ta)(hb:PE X b tb){E:Φ}{s:Shared}{σ:St}{H:Hp}{R:V->V->Hp->Prop}(I:Inv X E σ H s)
  (h:ta σ H λx G=>tb σ G λy t=>R x y t) {Q:Ψ}{f:Value->Value->Sem Value}
  (J:∀v u s2 x y t,Inv X E σ t s2->oC x v->oC y u->R x y t->jn (jk X.prog X.w) X.A (f v u) Q X.xe s2) :
  jn (jk X.prog X.w) X.A (eval a X.env) (λv z=>jn (jk X.prog X.w) X.A (eval b X.env) (λu B=>jn (jk X.prog X.w) X.A (f v u) Q X.xe B) X.xe z) X.xe s:=by
 refine thn (ha E s σ H _ I h) λv L ⟨x,G,M,O,P⟩=>?_
 refine thn (hb E L σ G _ M P) λu s2 ⟨y,t,S,U,Y⟩=>?_
 exact J v u s2 x y t S O U Y
def yQ{t:Operator}{r:R2}(z:Dd X (kF t) r)(ha:PE X a ta)(hb:PE X b tb):PE X (.BinOp a t b pos) (WO r ta tb):=by
 intro B s σ H Q I h;exact wpAny_BinOp (Yr ha hb I h λv u E x y G J L M q=>z B E σ G x y v u Q J L M q)
def My{t:UnaryOp}{r:V->Hp->VK->Prop}(z:UnR X (unaryOp t) r)(ha:PE X a ta):PE X (.UnaryOp t a pos) (tUn r ta):=by
 intro u s σ H Q I h;exact UnaryOp_ (thn (ha u s σ H _ I h) λv B ⟨x,E,G,J,L⟩=>z u B σ E x v Q G J L)
def opI{f:Value->Value->Sem Value}{C:Int->Int->Prop}{g:Int->Int->Int}
  (rule:∀(i j:Int) (t u:Tok) (s:Shared) (Q:Ψ) (E:Ψ),C i j->Q (.int (g i j) s.toks) { s with toks:=s.toks+1 }->jn (jk X.prog X.w) X.A (f (.int i t) (.int j u)) Q E s) :
  Dd X f (rI C λi j=>.int (g i j)):=by
 intro L s σ H x y v u Q I z B h;obtain⟨i,j,rfl,rfl,G,q⟩:=h;obtain⟨t,rfl⟩:=z;obtain⟨J,rfl⟩:=B;exact rule i j t J s _ _ G ⟨.int (g i j),H,I.tok _,⟨_,rfl⟩,q⟩
def aaX{f:Value->Value->Sem Value}{g:Int->Int->Int}
  (rule:∀(i j:Int) (t u:Tok) (s:Shared) (Q:Ψ) (E:Ψ),Q (.int (g i j) s.toks) { s with toks:=s.toks+1 }->jn (jk X.prog X.w) X.A (f (.int i t) (.int j u)) Q E s) :
  Dd X f (OC λi j=>.int (g i j)):=by
 intro J s σ H x y v u Q I z B h;obtain⟨i,j,rfl,rfl,q⟩:=h;obtain⟨t,rfl⟩:=z;obtain⟨G,rfl⟩:=B;exact rule i j t G s _ _ ⟨.int (g i j),H,I.tok _,⟨_,rfl⟩,q⟩
def Zq{f:Value->Value->Sem Value}{g:Int->Int->Bool}
  (rule:∀(i j:Int) (t u:Tok) (s:Shared) (Q:Ψ) (E:Ψ),Q (.bool (g i j)) s->jn (jk X.prog X.w) X.A (f (.int i t) (.int j u)) Q E s) :
  Dd X f (OC λi j=>.bl (g i j)):=by
 intro J s σ H x y v u Q I z B h;obtain⟨i,j,rfl,rfl,q⟩:=h;obtain⟨t,rfl⟩:=z;obtain⟨G,rfl⟩:=B;exact rule i j t G s _ _ ⟨.bl (g i j),H,I,rfl,q⟩
def Yv(i j:Int):Prop:=0<j/\j<1073741824
def W7(i j:Int):Prop:=0<=j/\j<=1000000/\i.natAbs<2 ^ 64
def Tp(i j:Int):Prop:=(-(2 ^ 64)<i/\i<2 ^ 64)∨(-(2 ^ 64)<j/\j<2 ^ 64)
noncomputable def Tp.ok{i j:Int}(h:Tp i j):IntMulOk i j:=by
 rcases h with⟨s,t⟩|⟨s,t⟩
 .exact .of_left (intBits_le_64 s t)
 .exact .of_right (intBits_le_64 s t)
def KW:Dd X (kF .Add) (OC λi j=>.int (i+j)):=aaX λ_ _ _ _ _ _ _ q=>add_int q
def Zw:Dd X (kF .Sub) (OC λi j=>.int (i-j)):=aaX λ_ _ _ _ _ _ _ q=>sub_int q
def Q4:Dd X (kF .Mult) (rI Tp λi j=>.int (i*j)):=opI λ_ _ _ _ _ _ _ s q=>mul_int q s.ok
def GO:Dd X (kF .FloorDiv) (rI Yv λi j=>.int (i / j)):=opI λi j _ _ _ _ _ s q=>by
 have t:(0:Int)<j:=s.1;have u:j<1073741824:=s.2;exact floordiv_int (by lia) (by rw[Int.fdiv_eq_ediv_of_nonneg i (by lia)];exact q) (.inl (PyProof.noPylong_small (by lia)))
def GK:Dd X (kF .Mod) (rI (λ_ j=>0<j) λi j=>.int (i % j)):=opI λi j _ _ _ _ _ s q=>by
 have t:(0:Int)<j:=s;exact mod_int' (by lia) (by rw[Int.fmod_eq_emod_of_nonneg i (by lia)];exact q)
def Zx:Dd X (kF .Pow) (rI W7 λi j=>.int (i ^ j.toNat)):=opI λ_ _ _ _ _ _ _ s q=>pow_int_small s.1 s.2.1 s.2.2 q
def unI{f:Value->Sem Value}{g:Int->Int}
  (rule:∀(i:Int) (t:Tok) (s:Shared) (Q:Ψ) (E:Ψ),Q (.int (g i) s.toks) { s with toks:=s.toks+1 }->jn (jk X.prog X.w) X.A (f (.int i t)) Q E s) :
  UnR X f (rU λi=>.int (g i)):=by
 intro z s σ H x v Q I u h;obtain⟨i,rfl,q⟩:=h;obtain⟨t,rfl⟩:=u;exact rule i t s _ _ ⟨.int (g i),H,I.tok _,⟨_,rfl⟩,q⟩
def G1:UnR X (unaryOp .USub) (rU λi=>.int (-i)):=unI λ_ _ _ _ _ q=>neg_int q
end
noncomputable def scal:V->V->Bool
 | .non,.non=>true|.non,.int _=>true|.int _,.non=>true|.non,.bl _=>true|.bl _,.non=>true|.non,.str _=>true|.str _,.non=>true
 | .int _,.int _=>true|.bl _,.bl _=>true|.str _,.str _=>true|.byt _,.byt _=>true
 | .int _,.str _=>true|.str _,.int _=>true|.bl _,.str _=>true|.str _,.bl _=>true
 |_,_=>false
def rEq:R2:=λx y H Q=>scal x y=true/\Q (.bl (decide (x=y))) H
def rNe:R2:=λx y H Q=>scal x y=true/\Q (.bl (!decide (x=y))) H
noncomputable def MV{i j:Int}:decide (V.int i=V.int j)=(i == j):=by
 rw[cF];simp
noncomputable def P3{i j:Bool}:decide (V.bl i=V.bl j)=(i == j):=by
 rw[cF];simp
noncomputable def M4{i j:Str}:decide (V.str i=V.str j)=(i == j):=by
 rw[cF];simp
noncomputable def Nc{i j:Array UInt8}:decide (V.byt i=V.byt j)=(i.toList == j.toList):=by
 rw[cF];cases i;cases j;simp
section
variable {X:Cx}{a b c:Expr}{ta tb tc:TE}{pos:Pos}
noncomputable def oE{t:Φ}{σ:St}{H:Hp}{s:Shared}{Q:VK}{k u:Bool}(I:Inv X t σ H s)(q:Q (.bl k) H)(e:k=u):EP X t σ Q (.bool u) s:=by
 subst e;exact⟨.bl k,H,I,rfl,q⟩
def zF:Dd X (jA .Eq) rEq:=by
 intro J s σ H x y v u Q I G z h;obtain⟨E,q⟩:=h;cases x with
 |non=>
  cases G;cases y with
  |non=>cases z;exact PySem.EqNone.eq_none_none (oE I q (by simp))
  |bl j=>cases z;exact PySem.EqNone.eq_none_bool (oE I q (by simp))
  |int j=>obtain⟨B,rfl⟩:=z;exact PySem.EqNone.eq_none_int (oE I q (by simp))
  |str j=>obtain⟨B,rfl⟩:=z;exact PySem.EqNone.eq_none_str (oE I q (by simp))
  |_=>exact absurd (show false=true from E) ay
 |bl i=>
  cases G;cases y with
  |non=>cases z;exact PySem.EqNone.eq_bool_none (oE I q (by simp))
  |bl j=>cases z;exact eq_bool (oE I q P3)
  |str j=>obtain⟨B,rfl⟩:=z;exact PySem.EqMixed.eq_bool_str (oE I q (by simp))
  |_=>exact absurd (show false=true from E) ay
 |int i=>
  obtain⟨t,rfl⟩:=G;cases y with
  |non=>cases z;exact PySem.EqNone.eq_int_none (oE I q (by simp))
  |int j=>obtain⟨B,rfl⟩:=z;exact eq_int (oE I q MV)
  |str j=>obtain⟨B,rfl⟩:=z;exact PySem.EqMixed.eq_int_str (oE I q (by simp))
  |_=>exact absurd (show false=true from E) ay
 |str i=>
  obtain⟨t,rfl⟩:=G;cases y with
  |non=>cases z;exact PySem.EqNone.eq_str_none (oE I q (by simp))
  |bl j=>cases z;exact PySem.EqMixed.eq_str_bool (oE I q (by simp))
  |int j=>obtain⟨B,rfl⟩:=z;exact PySem.EqMixed.eq_str_int (oE I q (by simp))
  |str j=>obtain⟨B,rfl⟩:=z;exact eq_str (oE I q M4)
  |_=>exact absurd (show false=true from E) ay
 |byt i=>
  obtain⟨t,rfl⟩:=G;cases y with
  |byt j=>obtain⟨B,rfl⟩:=z;exact W.eq_bytes (oE I q Nc)
  |_=>exact absurd (show false=true from E) ay
 |_=>cases y <;> exact absurd (show false=true from E) ay
def QA:Dd X (jA .NotEq) rNe:=by
 intro J s σ H x y v u Q I G z h;obtain⟨E,q⟩:=h;cases x with
 |non=>
  cases G;cases y with
  |non=>cases z;exact PySem.EqNone.ne_none_none (oE I q (by simp))
  |bl j=>cases z;exact PySem.EqNone.ne_none_bool (oE I q (by simp))
  |int j=>obtain⟨B,rfl⟩:=z;exact PySem.EqNone.ne_none_int (oE I q (by simp))
  |str j=>obtain⟨B,rfl⟩:=z;exact PySem.EqNone.ne_none_str (oE I q (by simp))
  |_=>exact absurd (show false=true from E) ay
 |bl i=>
  cases G;cases y with
  |non=>cases z;exact PySem.EqNone.ne_bool_none (oE I q (by simp))
  |bl j=>cases z;exact ne_bool (oE I q (congrArg not P3))
  |str j=>obtain⟨B,rfl⟩:=z;exact PySem.EqMixed.ne_bool_str (oE I q (by simp))
  |_=>exact absurd (show false=true from E) ay
 |int i=>
  obtain⟨t,rfl⟩:=G;cases y with
  |non=>cases z;exact PySem.EqNone.ne_int_none (oE I q (by simp))
  |int j=>obtain⟨B,rfl⟩:=z;exact ne_int (oE I q (congrArg not MV))
  |str j=>obtain⟨B,rfl⟩:=z;exact PySem.EqMixed.ne_int_str (oE I q (by simp))
  |_=>exact absurd (show false=true from E) ay
 |str i=>
  obtain⟨t,rfl⟩:=G;cases y with
  |non=>cases z;exact PySem.EqNone.ne_str_none (oE I q (by simp))
  |bl j=>cases z;exact PySem.EqMixed.ne_str_bool (oE I q (by simp))
  |int j=>obtain⟨B,rfl⟩:=z;exact PySem.EqMixed.ne_str_int (oE I q (by simp))
  |str j=>obtain⟨B,rfl⟩:=z;exact ne_str (oE I q (congrArg not M4))
  |_=>exact absurd (show false=true from E) ay
 |byt i=>
  obtain⟨t,rfl⟩:=G;cases y with
  |byt j=>obtain⟨B,rfl⟩:=z;exact W.ne_bytes (oE I q (congrArg not Nc))
  |_=>exact absurd (show false=true from E) ay
 |_=>cases y <;> exact absurd (show false=true from E) ay
def abd:Dd X (jA .Lt) (OC λi j=>.bl (decide (i<j))):=Zq λ_ _ _ _ _ _ _ q=>lt_int q
def IE:Dd X (jA .Gt) (OC λi j=>.bl (decide (j<i))):=Zq λ_ _ _ _ _ _ _ q=>gt_int q
def aaY:Dd X (jA .GtE) (OC λi j=>.bl (decide (j<=i))):=Zq λ_ _ _ _ _ _ _ q=>ge_int q
def N0:Dd X (jA .In) (λx y H Q=>∃i j,x = .str i/\y = .str j/\Q (.bl (!(Builtin.Str.occurrences j i 0 j.length 1).isEmpty)) H):=by
 intro E s σ H x y v u Q I z B h;obtain⟨i,j,rfl,rfl,q⟩:=h;obtain⟨t,rfl⟩:=z;obtain⟨G,rfl⟩:=B;exact in_str (oE I q rfl)
def Us:Dd X (jA .IsNot) (λx y H Q=>y = .non/\Q (.bl (!decide (x = .non))) H):=by
 intro E s σ H x y v u Q I z B h;obtain⟨rfl,q⟩:=h;cases B;refine isnot_none_gen (oE I q ?_);cases x <;> first
  | (cases z;rfl)
  | (obtain⟨t,rfl⟩:=z;rfl)
noncomputable def qu(b:Expr){s:CmpOp}(h:s ≠ .In:=by decide)(t:s ≠ .NotIn:=by decide):jT s b=false:=by
 have u:(s == CmpOp.In)=false:=by cases s <;> first|rfl|exact absurd rfl h
 have x:(s == CmpOp.NotIn)=false:=by cases s <;> first|rfl|exact absurd rfl t
 cases b <;> simp[jT,u,x]
def Dk{t:CmpOp}{r:R2}(z:Dd X (jA t) r)(ha:PE X a ta)(hb:PE X b tb)(B:jT t b=false):PE X (.Compare a [t] [b] pos) (WO r ta tb):=by
 intro E s σ H Q I h;exact wpAny_Compare1 (Yr ha hb I h λv u G x y J L M O q=>z E G σ J x y v u Q L M O q) B
noncomputable def WQ(t:TE):TT:=λσ H Q=>t σ H λx s=>∃k,x = .bl k/\Q k s
def pY{t:CmpOp}{r:R2}(E:Dd X (jA t) r)(ha:PE X a ta)(hb:PE X b tb)(G:jT t b=false):PT X (.Compare a [t] [b] pos) (WQ (WO r ta tb)):=by
 intro B s σ H Q I h;refine lC (thn (ha B s σ H _ I h) λv J ⟨x,L,M,O,P⟩=>thn (hb B J σ L _ M P) λu R ⟨y,S,U,Y,q2⟩=>
  thn (E B R σ S x y v u _ U O Y q2) λc s3 ⟨z,H3,I3,r3,k,e,q3⟩=>?_) G
 subst e;cases r3;exact jM ⟨H3,I3,q3⟩
noncomputable def KJ:(jo:Nat)<2 ^ 63:=by rw[jG];decide
def sk{x:V}{us:Ξ}(r:ot [x] us):∃u,us=[u]/\oC x u:=by
 cases r with
 |cons s t=>cases t;exact⟨_,rfl,s⟩
def WH{x y:V}{us:Ξ}(r:ot [x,y] us):∃u s,us=[u,s]/\oC x u/\oC y s:=by
 cases r with
 |cons t z=>
  cases z with
  |cons B E=>cases E;exact⟨_,_,rfl,t,B⟩
def DD:ur X (.builtin "abs") (λxs H Q=>∃i,xs=[.int i]/\Q (.int (if i<0 then -i else i)) H):=by
 intro x s σ H xs z Q I r h;obtain⟨i,rfl,q⟩:=h;obtain⟨u,rfl,t,rfl⟩:=sk r;exact call_abs_int λu B=>⟨.int (if i<0 then -i else i),H,I.tok _,⟨_,rfl⟩,q⟩
def tm:ur X (.type "str") (λxs H Q=>∃i,xs=[.int i]/\i.natAbs.log2<1920/\Q (.str (toString i)) H):=by
 intro z s σ H xs B Q I r h;obtain⟨i,rfl,x,q⟩:=h;obtain⟨u,rfl,t,rfl⟩:=sk r;exact PySem.P.str_of_int x ⟨.str _,H,I.tok _,⟨_,rfl⟩,q⟩
def aa5(K:Ζ)(x:V)(H:Hp)(n:Nat):Prop:=
 match x with
 | .str y=>y.length<=jo/\n=y.length
 | .byt y=>y.size<=jo/\n=y.size
 | .ref p=>(∃xs,qh K H p xs/\n=xs.length)∨∃xs,BZ K H p xs/\n=xs.length
 |_=>False
def rJ:ur X (.builtin "len") (λxs H Q=>∃x n,xs=[x]/\aa5 X.K x H n/\Q (.int n) H):=by
 intro R s σ H xs S Q I r h;obtain⟨x,n,rfl,e,q⟩:=h;obtain⟨u,rfl,E⟩:=sk r;have hl:=KJ;have U:jo=16777216:=jG;cases x with
 |str y=>
  obtain⟨t,rfl⟩:=E;obtain⟨O,B⟩:y.length<=jo/\n=y.length:=e;subst B;exact len_str (by lia) ⟨.int _,H,I.tok _,⟨_,rfl⟩,q⟩
 |byt y=>
  obtain⟨t,rfl⟩:=E;obtain⟨O,B⟩:y.size<=jo/\n=y.size:=e;subst B;exact W.len_bytes (by lia) ⟨.int _,H,I.tok _,⟨_,rfl⟩,q⟩
 |ref p=>
  cases E;have B:(∃xs,qh X.K H p xs/\n=xs.length)∨∃xs,BZ X.K H p xs/\n=xs.length:=e;rcases B with⟨xs,G,B⟩|⟨xs,G,B⟩
  .subst B;obtain⟨J,L,M,P⟩:=I.list G;have z:=L.length;exact Calls.call_len_list M.isList (by simp only[aq];lia) ⟨.int xs.length,H,I.tok _,⟨_,by simp only[aq];rw[z]⟩,q⟩
  .subst B;obtain⟨J,L,M,P⟩:=I.tuple G;have z:=L.length;exact len_tuple M (by simp only[aq];lia) ⟨.int xs.length,H,I.tok _,⟨_,by simp only[aq];rw[z]⟩,q⟩
 |_=>exact(show False from e).elim
end
structure KQ (h:Heap)(x dx C:Addr)(mA:Str->Υ):Prop where
 obj:h.get? x=some (W.instObj C dx)
 ns:h.Ns1 dx mA
 ne:dx≠x
def Oh{h:Heap}{x:Addr}{B:Str->Υ}(n:h.Ns1 x B):∃E,h.get? x=some E/\∀s,W.lookIn s E=some (B s):=by
 obtain⟨o,G,M,H,hd,hk,_,I⟩:=n;refine⟨o,H,λs=>?_⟩
 have e:=I s;unfold nsFind findBy at e;rw[←Array.find?_toList]at e;unfold W.lookIn;rw[hd];dsimp only;split
 .rename_i y q;rw[q]at e;exact congrArg some e
 .rename_i q;rw[q]at e;have a:G.toList.any (·.refKey)=false:=by
   rw[List.any_eq_false];intro y J;obtain⟨z,t,u⟩:=hk y (fk.mp J);simp[DictEntry.refKey,u]
  have L:¬ G.toList.any (·.refKey)=true:=by rw[a];exact ay
  rw[nY L];exact congrArg some e
def KQ.look{h:Heap}{x u C:Addr}{z:Str->Υ}(I:KQ h x u C z):∃t,W.InstAt h x (W.instObj C u) C (some t)/\∀s,W.lookIn s t=some (z s):=
 let ⟨t,B,hl⟩:=Oh I.ns
 ⟨t,⟨I.obj,rfl,rfl,B⟩,hl⟩
section
variable {prog:jq}{w:ju}{A:Around}{E:Ψ}{s:Shared}{K:Ζ}{x dx C f:Addr}{mA:Str->Υ}{name:Str}{v:Value}
def Vj{t:Bool}{Q:Ψ}(X:K.In s.heap)(I:KQ s.heap x dx C mA)(z:W.plainGet K C name=true)(hh:W.hasDictIn K C=true)
  (ha:W.findIn K (.ref C) name=some none) (B:mA name=some v) (u:W.handedIn v=true) (h:Q v { s with toks:=s.toks+1 }) :
  jn (jk prog w) A (getAttr (.ref x) name t) Q E s:=by
 obtain⟨G,J,hl⟩:=I.look;exact W.get_value X J (W.plainGet_of z).1 (W.findObj_own hh ha rfl (by rw[hl,B])) u h
def SE{pl:Sem Bool}{Q:Value×Ξ->Shared->Prop}(X:K.In s.heap)(I:KQ s.heap x dx C mA)(t:W.plainGet K C name=true)
  (u:W.findIn K (.ref C) name=some (some (.ref f))) (ht:W.isFn K (.ref f)=true) (z:mA name=none) (h:Q (.ref f,[.ref x]) s) :
  jn (jk prog w) A (lU (.ref x) name pl) Q E s:=by
 obtain⟨B,J,hl⟩:=I.look;exact W.method_fn X J (W.plainGet_of t).1 (W.plainGet_of t).2 u (beq_iff_eq.mp ht) (by show(W.lookIn name B).map (·.isSome)=some false;rw[hl,z];rfl) h
def Uo{ns:List Str}{Q:Unit->Shared->Prop}(X:K.In s.heap)(I:KQ s.heap x dx C mA)
  (L:W.findIn K (.ref C) "__setattr__" = some (some (.builtin "object.__setattr__"))) (M:W.plainOver K C=true) (ht:W.takerIn K C name=some none) (hh:W.hasDictIn K C=true)
  (hw:PySem.Within mA ns) (hsz:ns.length<=jo)
  (h:∀h',KQ h' x dx C (λy=>if y=name then some v else mA y)->bQ dx s.heap h'->Q () { s with heap:=h',toks:=s.toks+2 }) :
  jn (jk prog w) A (setAttr (.ref x) name v) Q E s:=by
 obtain⟨U,J,hl⟩:=I.look;refine W.set_plain X J L (W.osa_open (s:={ s with toks:=s.toks+1 }) (r:=none) X J M ht λb=>?_)
 obtain⟨Y,O,z⟩:=W.any_some hh;have P:s.heap.get? x=some ⟨.ref C,some dx,.plain,#[]⟩:=I.obj;refine ji (jm (ji (ji (wpAny_loadPart P (ji (W.Looks.here (s:={ s with toks:=s.toks+1 }) (W.looks_clsIn X O) ?_))))))
 rw[z];refine jm (a:=some dx) (ji (jm (ji ?_)));refine wpAny_nsSet1 (s:={ s with toks:=s.toks+1 }) I.ns λh' t u=>?_
 obtain⟨oD,R,S,B,G,H⟩:=t.count (PySem.Within.cons name v hw);refine ji (wpAny_lookBehind B (by rw[G];exact pastItsLine_dict (bq H (by rw[lCq];lia))) ?_)
 exact jm (h _ ⟨(u.2 _ (Ne.symm I.ne)).trans I.obj,t,I.ne⟩ u)
def Q9{R:Result->Shared->Prop}{vs:Ξ}{u:List (Str×Value)}(X:K.In s.heap)(z:W.makesIn K C=true)
  (hi:W.findIn K (.ref C) "__init__" = some (some (.ref f))) (B:W.typeIn K (.ref f)=some (.type "function"))
  (h:kf (jk prog w) (A.under (.builtin "type.__call__" ⟨.ref C::vs,u⟩)) (.call (.ref f) ⟨.ref (s.heap.objs.size+1)::vs,u⟩) (W.InitBack (s.heap.objs.size+1) R)
   { s with heap:=(s.heap.push W.emptyDict).push (W.instObj C s.heap.objs.size) }) :
  kf (jk prog w) A (.call (.ref C) ⟨vs,u⟩) R s:=by
 obtain⟨hh,g,d,t,os⟩:=s;exact W.make_core (W.makes_of X z) (W.looks_findIn X hi) (λself=>W.bind_fn X self B) (.inl rfl) h
end
def rA(f:Str)(v:V):List (Str×V)->List (Str×V)
 | []=>[(f,v)]
 | (g,x)::r=>if g=f then (g,v)::r else (g,x)::rA f v r
theorem Cz(f g:Str)(v:V):∀fs:List (Str×V),(rA f v fs).lookup g=if g=f then some v else fs.lookup g
 | []=>by
  show dU g [(f,v)]=_
  by_cases h:g=f
  .have hb:(g == f)=true:=beq_iff_eq.mpr h;simp only[dU,hb,oa h]
  .have hb:(g == f)=false:=beq_eq_false_iff_ne.mpr h;simp only[dU,hb,nY h]
 | (k,x)::r=>by
  have s:=Cz f g v r;rw[show rA f v ((k,x)::r)=(if k=f then (k,v)::r else (k,x)::rA f v r)from rfl]
  by_cases hk:k=f
  .rw[oa hk]
   by_cases h:g=k
   .have hb:(g == k)=true:=beq_iff_eq.mpr h;simp only[dU,hb,oa (h.trans hk)]
   .have hb:(g == k)=false:=beq_eq_false_iff_ne.mpr h;simp only[dU,hb,nY (λe:g=f=>h (e.trans hk.symm))]
  .rw[nY hk]
   by_cases h:g=k
   .have hb:(g == k)=true:=beq_iff_eq.mpr h;simp only[dU,hb,nY (λe:g=f=>hk (h.symm.trans e))]
   .have hb:(g == k)=false:=beq_eq_false_iff_ne.mpr h;simp only[dU,hb];exact s
theorem BP(f:Str)(v:V):∀fs:List (Str×V),f∈(rA f v fs).map (·.1)/\∀g,g∈fs.map (·.1)->g∈(rA f v fs).map (·.1)
 | []=>⟨by simp[rA],λg h=>by simp at h⟩
 | (k,x)::r=>by
  obtain⟨s,t⟩:=BP f v r;rw[show rA f v ((k,x)::r)=(if k=f then (k,v)::r else (k,x)::rA f v r)from rfl]
  by_cases hk:k=f
  .rw[oa hk];subst hk;exact⟨by simp,λg h=>by simpa using h⟩
  .rw[nY hk];refine⟨?_,λg h=>?_⟩
   .rw[ai];exact mCo _ s
   .rw[ai]at h ⊢;rcases ag.mp h with e|e
    .exact ag.mpr (.inl e)
    .exact mCo _ (t g e)
theorem Ct(f:Str)(v:V):∀fs:List (Str×V),(rA f v fs).length<=fs.length+1
 | []=>by simp[rA]
 | (k,x)::r=>by
  have s:=Ct f v r;rw[show rA f v ((k,x)::r)=(if k=f then (k,v)::r else (k,x)::rA f v r)from rfl]
  by_cases hk:k=f
  .rw[oa hk,lCq,lCq];lia
  .rw[nY hk,lCq,lCq];lia
def yg.some_of{v:V}{o:Υ}(r:yg (some v) o):∃u,o=some u/\oC v u:=by
 cases o with
 |none=>exact(show False from r).elim
 |some u=>exact⟨u,rfl,r⟩
def yg.none_of{o:Υ}(r:yg none o):o=none:=by
 cases o with
 |none=>rfl
 |some u=>exact(show False from r).elim
noncomputable def Os{v:V}{u:Value}(r:oC v u):W.handedIn u=true:=by
 cases v with
 |non=>cases(show u=gc from r);rfl
 |bl b=>cases(show u=eS b from r);rfl
 |int i=>obtain⟨t,e⟩:=(show ∃t,u=fq i t from r);cases e;rfl
 |str x=>obtain⟨t,e⟩:=(show ∃t,u=ip x t from r);cases e;rfl
 |byt b=>obtain⟨t,e⟩:=(show ∃t,u=jb b t from r);cases e;rfl
 |flt b=>obtain⟨t,e⟩:=(show ∃t,u=jc b t from r);cases e;rfl
 |ref a=>cases(show u=aR a from r);rfl
 |ty n=>cases(show u=dO n from r);rfl
section
variable {P:jq}{w:ju}{H H':Hp}{h h':Heap}{a C dx:Addr}{fs fs':List (Str×V)}
def HK(hok:Ac P w H h)(e:H a=some (.ins C dx fs)):∃s,KQ h a dx C s/\(∀f,yg (fs.lookup f) (s f))/\PySem.Within s (fs.map (·.1))/\fs.length<=1000/\H dx=some (.own a):=by
 obtain⟨d,z,ne,t,s,n,r,q⟩:=(show pR P w H h a (.ins C dx fs)from hok a _ e)
 exact⟨s,⟨t,n,ne⟩,r,q,z,d⟩
end
structure Pz (K:Ζ)(C:Addr):Prop where
 pg:W.plainGet K C Str.empty=true
 hd:W.hasDictIn K C=true
 po:W.plainOver K C=true
 sa:W.findIn K (.ref C) "__setattr__" = some (some (.builtin "object.__setattr__"))
def Pz.get{K:Ζ}{C:Addr}(c:Pz K C)(f:Str):W.plainGet K C f=true:=c.pg
def qz(K:Ζ)(C:Addr)(f:Str):Prop:=W.findIn K (.ref C) f=some none
def qz.taker{K:Ζ}{C:Addr}{f:Str}(n:qz K C f):W.takerIn K C f=some none:=by
 unfold W.takerIn;rw[show W.findIn K (.ref C) f=some none from n]
 rfl
structure Vs (K:Ζ)(C:Addr)(m:Str)(f:Addr):Prop where
 at_:W.findIn K (.ref C) m=some (some (.ref f))
 fn:W.isFn K (.ref f)=true
 kp:W.keepIn K (.ref f)=true
section
variable {X:Cx}{nu:Φ}{σ:St}{H:Hp}{s:Shared}{a C dx:Addr}{fs:List (Str×V)}{f:Str}{v:V}{A:Around}{E:Ψ}
def LF{b:Bool}{Q:Ψ}(I:Inv X nu σ H s)(e:H a=some (.ins C dx fs))(c:Pz X.K C)(n:qz X.K C f)(l:fs.lookup f=some v)
  (h:∀u t,Inv X nu σ H t->oC v u->Q u t):jn (jk X.prog X.w) A (getAttr (.ref a) f b) Q E s:=by
 obtain⟨z,O,r,_,_,_⟩:=HK I.hok e;obtain⟨u,B,x⟩:=yg.some_of (v:=v) (o:=z f) (by rw[←l];exact r f)
 exact Vj I.kIn O (c.get f) c.hd n B (Os x) (h u _ (I.tok _) x)
def Kt{m:Str}{g:Addr}{pl:Sem Bool}{Q:Value×Ξ->Shared->Prop}(I:Inv X nu σ H s)(e:H a=some (.ins C dx fs))(c:Pz X.K C)(k:Vs X.K C m g)(l:fs.lookup m=none)
  (h:Q (.ref g,[.ref a]) s):jn (jk X.prog X.w) A (lU (.ref a) m pl) Q E s:=by
 obtain⟨t,O,r,_,_,_⟩:=HK I.hok e;have hn:t m=none:=yg.none_of (by rw[←l];exact r m)
 exact SE I.kIn O (c.get m) k.at_ k.fn hn h
def LB{y:V}{u:Value}{Q:Unit->Shared->Prop}(I:Inv X nu σ H s)(e:H a=some (.ins C dx fs))(c:Pz X.K C)(n:qz X.K C f)(hl:fs.length<1000)(M:oC y u)
  (h:∀B,Inv X nu σ (om H a (.ins C dx (rA f y fs))) B->Q () B):jn (jk X.prog X.w) A (setAttr (.ref a) f u) Q E s:=by
 obtain⟨G,O,r,J,_,L⟩:=HK I.hok e;have P:(fs.map (·.1)).length<=jo:=by rw[lMq,jG];lia
 refine Uo I.kIn O c.sa c.po n.taker c.hd J P λR t sb=>h _ ?_
 have hd:∃o,R.get? dx=some o:=let ⟨o,_,_,S,_⟩:=t.ns;⟨o,S⟩
 refine I.write (x:=a) (e:=dx) (by rw[e];exact True.intro) (.inr L) (λb q hb z=>(sb.2 b hb).trans z) hd ?_
 refine⟨by rw[nC O.ne];exact L,?_,O.ne,t.obj,_,t.ns,λg=>?_,λg U=>?_⟩
 .have:=Ct f y fs;lia
 .show yg ((rA f y fs).lookup g) (if g=f then some u else G g)
  rw[Cz]
  by_cases q:g=f
  .rw[oa q,oa q];exact M
  .rw[nY q,nY q];exact r g
 .by_cases q:g=f
  .rw[q];exact(BP f y fs).1
  .refine(BP f y fs).2 g (J g λz=>U ?_)
   show(if g=f then some u else G g)=none
   rw[nY q];exact z
def Inv.made(I:Inv X nu σ H s):Inv X nu σ (om (om H s.heap.objs.size (.own (s.heap.objs.size+1))) (s.heap.objs.size+1) (.ins C s.heap.objs.size []))
  { s with heap:=(s.heap.push W.emptyDict).push (W.instObj C s.heap.objs.size) }:=by
 have t:(s.heap.push W.emptyDict).get? s.heap.objs.size=some W.emptyDict:=aC s.heap rfl;have x:((s.heap.push W.emptyDict).push (W.instObj C s.heap.objs.size)).get? (s.heap.objs.size+1)=some (W.instObj C s.heap.objs.size):=by
  have:=aC (s.heap.push W.emptyDict) (o:=W.instObj C s.heap.objs.size) rfl
  rwa [eM]at this
 have z:(s.heap.push W.emptyDict).Ns s.heap.objs.size (λ_=>none):=⟨W.emptyDict,#[],_,t,rfl,(λe B=>absurd B (by simp)),λ_=>rfl⟩
 have G:=I.laid (a:=s.heap.objs.size) (o:=.own (s.heap.objs.size+1)) (h':=s.heap.push W.emptyDict) (t':=s.toks) (λb u q=>af _ q) (aa _) ⟨_,t⟩
 refine G.laid (a:=s.heap.objs.size+1) (o:=.ins C s.heap.objs.size []) (t':=s.toks) (λb u q=>af _ q) (dD (eM _ _)) ?_
 have ne:s.heap.objs.size≠s.heap.objs.size+1:=aA (cL _);refine⟨by rw[nC ne,nG],aJ _,ne,x,λ_=>none,(Heap.Ns1.of_empty z).at λo q=>af _ q,λ_=>True.intro,λy J=>absurd rfl J⟩
noncomputable def TF{prog:jq}{w:ju}{env:Env}{e:Expr}{f:Str}{pos:Pos}{s:Shared}{Q:Ψ}(hb:kj e f env (eval e env)=eval e env)
  (h:jn (jk prog w) A (eval e env) (λo t=>jn (jk prog w) A (getAttr o f true) Q E t) E s):jn (jk prog w) A (eval (.Attribute e f pos) env) Q E s:=
 Attribute_any_ h (by rw[arm_eval_Attribute,hb])
end
def aaf(K:Ζ)(t:TE)(f:Str):TE:=λσ H Q=>t σ H λx s=>∃a C u fs v,x = .ref a/\s a=some (.ins C u fs)/\Pz K C/\qz K C f/\fs.lookup f=some v/\Q v s
def VS(K:Ζ)(u z:TE)(f:Str):TS:=λD σ H=>z σ H λy B=>u σ B λx s=>∃a C t fs,x = .ref a/\s a=some (.ins C t fs)/\Pz K C/\qz K C f/\fs.length<1000 /\
 D.nx σ (om s a (.ins C t (rA f y fs)))
section
variable {X:Cx}{o e value:Expr}{f:Str}{pos pos' tpos:Pos}{ta tv:TE}
def YL(t:PE X e ta)(hb:kj e f X.env (eval e X.env)=eval e X.env):PE X (.Attribute e f pos) (aaf X.K ta f):=by
 intro z s σ H Q I h;refine TF hb (thn (t z s σ H _ I h) λu O ⟨x,B,E,G,a,C,P,fs,v,ex,J,c,n,l,q⟩=>?_)
 subst ex;obtain rfl:u=aR a:=G;exact LF E J c n l λR S L M=>⟨v,B,L,M,q⟩
def Lh(ha:PE X o ta)(z:PE X value tv)(B:kM value (some (.Attribute o f pos')) pos.line X.env=pure false):PS X (.Assign [.Attribute o f pos'] value pos) (VS X.K ta tv f):=by
 intro t s σ H D I h;refine plainObj_wpAny_Assign_Attribute (thn (z t s σ H _ I h) λu E ⟨y,G,J,L,q⟩=>thn (ha t E σ G _ J q) λM U ⟨x,Y,O,P,a,C,dx,fs,ex,Q,c,n,l,R⟩=>?_) B
 subst ex;obtain rfl:M=aR a:=P;exact LB O Q c n l L λs3 S=>⟨σ,_,S,R⟩
end
structure qV (k:Nat)(A:Around):Prop where
 hd:A.handled=none
 dp:A.depth+3*k+5<recursionLimit
 un:A.units+16*k+200<jF
def qV.mono{j k:Nat}{A:Around}(r:qV k A)(h:j<=k):qV j A:=⟨r.hd,by have:=r.dp;lia,by have:=r.un;lia⟩
theorem qV.deeper{k:Nat}{A:Around}(r:qV (k+1) A)(env:Env):qV k (A.deeper env):=
 ⟨r.hd,by have:=r.dp;show A.depth+1+3*k+5<_;lia,by have:=r.un;show A.units+3+16*k+200<_;lia⟩
def KL{A:Around}{C:Addr}{us:Ξ}{s:List (Str×Value)}:(A.under (.builtin "type.__call__" ⟨.ref C::us,s⟩)).depth=A.depth+1:=by
 first|rfl|simp[Around.under,Code.weight,Code.isCreation,Code.isGuard,Code.isCaller,Code.frames,Code.isFrame,guardIds]
def Lg{A:Around}{C:Addr}{us:Ξ}{s:List (Str×Value)}:(A.under (.builtin "type.__call__" ⟨.ref C::us,s⟩)).units=A.units+1:=by
 first|rfl|simp[Around.under,Code.cUnits,Code.frames,Code.isFrame]
def qV.make{k:Nat}{A:Around}(r:qV (k+1) A)(C:Addr)(us:Ξ)(s:List (Str×Value)):qV k (A.under (.builtin "type.__call__" ⟨.ref C::us,s⟩)):=
 ⟨r.hd,by have:=r.dp;rw[KL];lia,by have:=r.un;rw[Lg];lia⟩
theorem qV.depth{k:Nat}{A:Around}(r:qV k A):A.depth<recursionLimit:=by have:=r.dp;lia
theorem qV.units{k:Nat}{A:Around}(r:qV k A):A.units+64<jF:=by have:=r.un;lia
noncomputable def vd:TA:=λ_ H Q=>Q [] H
noncomputable def tp(s:TE)(tr:TA):TA:=λσ H Q=>s σ H λx t=>tr σ t λxs u=>Q (x::xs) u
section
variable {X:Cx}{e:Expr}{es:List Expr}{te:TE}{t:TA}{pos:Pos}
def nE:PA X [] vd:=λ_ _ _ _ H Q I h=>Calls.spliced_nil ⟨[],H,I,.nil,h⟩
def nv(ha:PE X e te)(hr:PA X es t)(B:jt (e::es) X.env=(false,eval e X.env)::jt es X.env:=by rfl):PA X (e::es) (tp te t):=by
 intro pos z s σ H Q I h;rw[B];show jn _ _ (spliced ((false,eval e X.env)::jL pos (jt es X.env))) _ _ s;refine Calls.spliced_cons (thn (ha z s σ H _ I h) λu E ⟨x,G,J,L,M⟩=>?_)
 exact thn (hr pos z E σ G _ J M) λY s2 ⟨O,P,R,S,U⟩=>⟨x::O,P,R,.cons L S,U⟩
def ZT(t:TA):TE:=λσ H Q=>t σ H λxs s=>xs.length<=jo/\∀p,s p=none->Q (.ref p) (om s p (.tup xs))
def OL(t:TA):TE:=λσ H Q=>t σ H λxs s=>xs.length<=jo/\∀p,s p=none->Q (.ref p) (om s p (.lst xs))
def Cf{x1}(h:PA X es t):PE X (.Tuple es x1 pos) (ZT t):=by
 intro G s σ H Q I J;refine wpAny_Tuple_spliced (thn (h pos G s σ H _ I J) λL x ⟨M,B,E,r,z,q⟩=>⟨by rw[←r.length];exact z,?_⟩)
 have O:B x.heap.objs.size=none:=E.hok.fresh (aa _);refine⟨.ref x.heap.objs.size,om B x.heap.objs.size (.tup M),E.laid (t':=x.toks) (λb u e=>af _ e) (aa _) ?_,rfl,q _ O⟩
 exact⟨z,L,r,⟨_,aC _ rfl,rfl,_,rfl⟩⟩
def rQ(h:PA X es t):PE X (.List es pos) (OL t):=by
 intro G s σ H Q I J;refine wpAny_List_spliced (thn (h pos G s σ H _ I J) λL x ⟨M,B,E,r,z,q⟩=>⟨by rw[←r.length];exact z,?_⟩)
 have O:B x.heap.objs.size=none:=E.hok.fresh (aa _);refine⟨.ref x.heap.objs.size,om B x.heap.objs.size (.lst M),E.laid (t':=x.toks) (λb u e=>af _ e) (aa _) ?_,rfl,q _ O⟩
 exact⟨z,L,0,r,aC _ rfl⟩
end
abbrev Sp:=List V->Hp->VK->XK->Prop
abbrev Qa:=List Env->Hp->Shared->XK->Value->Shared->Prop
structure KZ (P:jq)(w:ju)(K:Ζ)(mg:Str->Υ)(base:Heap)(A:Around)(outer:List Env)(s:Shared)(H:Hp):Prop where
 frames:A.frames=some outer
 mod:Mod K mg base
 bs:∀b o,base.get? b=some o->s.heap.get? b=some o/\H b=none
 bsz:base.objs.size<=s.heap.objs.size
 funs:s.heap.FunFrames base outer
 frf:∀b∈P2 outer,H b=none
 hok:Ac P w H s.heap
 bare:kG s.gens
def CE(outer:List Env)(P:jq)(w:ju)(H:Hp)(s:Shared)(Q:VK)(u:Value)(t:Shared):Prop:=
 ∃v x,t.os=s.os/\kG t.gens/\Un (P2 outer) [] H x s.heap t.heap/\Ac P w x t.heap/\oC v u/\Q v x
def CR(CX:Qa)(outer:List Env)(P:jq)(w:ju)(H:Hp)(s:Shared)(Q:VK)(E:XK)(r:Result)(t:Shared):Prop:=
 match r with
 | .ok (.ret u)=>CE outer P w H s Q u t
 | .ok _=>False
 | .error e=>CX outer H s E e t
structure yG (P:jq)(w:ju)(K:Ζ)(mg:Str->Υ)(base:Heap)(CX:Qa)(k:Nat)(f:Addr)(fd:jx)(ps:List Str)(sp:Sp):Prop where
 len:∀vs H Q E,sp vs H Q E->vs.length=ps.length
 run:∀(A:Around) (outer:List Env) (s:Shared) (H:Hp) (args:Args) (us:Ξ) (vs:List V) (Q:VK) (E:XK),qV k A->KZ P w K mg base A outer s H->lH s fd args (ps.zip us)->ot vs us->sp vs H Q E ->
  kf (jk P w) A (.call (.ref f) args) (CR CX outer P w H s Q E) s
def yG.imp{P:jq}{w:ju}{K:Ζ}{mg:Str->Υ}{base:Heap}{CX:Qa}{k:Nat}{f:Addr}{fd:jx}{ps:List Str}{sp t:Sp}(F:yG P w K mg base CX k f fd ps sp)
  (h:∀vs H Q E,t vs H Q E->sp vs H Q E):yG P w K mg base CX k f fd ps t:=
 ⟨λvs H Q E q=>F.len vs H Q E (h _ _ _ _ q),λA outer s H u x vs Q E hr z hb B G=>F.run A outer s H u x vs Q E hr z hb B (h _ _ _ _ G)⟩
def KZ.make{P:jq}{w:ju}{K:Ζ}{mg:Str->Υ}{base:Heap}{A:Around}{outer:List Env}{s:Shared}{H:Hp}(e:KZ P w K mg base A outer s H)(C:Addr)(us:Ξ)(t:List (Str×Value)) :
  KZ P w K mg base (A.under (.builtin "type.__call__" ⟨.ref C::us,t⟩)) outer s H:=⟨by first|exact e.frames|(simpa[Around.under,Code.envs,Code.isFrame,pushEnvs]using e.frames),e.mod,e.bs,e.bsz,e.funs,e.frf,e.hok,e.bare⟩
section
variable {X:Cx}{nu:Φ}{σ:St}{H:Hp}{s s':Shared}
def Inv.env0(I:Inv X nu σ H s):KZ X.prog X.w X.K X.mg X.base X.A X.stack s H:=
 ⟨I.ok.frames,I.ok.mod,I.bs,bq I.ok.bsz I.sz,I.stack,I.stkFree,I.hok,I.bare⟩
def Inv.after{Q:VK}{u:Value}(I:Inv X nu σ H s)(h:CE X.stack X.prog X.w H s Q u s'):EP X nu σ Q u s':=by
 obtain⟨v,B,os,bare,un,hok,r,q⟩:=h;obtain⟨hh,g,d,t,x⟩:=s';obtain rfl:x=s.os:=os;exact⟨v,B,I.call (h':=hh) (g':=g) (d':=d) (t':=t) (ch:=[]) un hok bare (λb z=>absurd z (by simp)),r,q⟩
end
noncomputable def DS(sp:Sp)(s:List V)(E:XK)(t:TA):TE:=λσ H Q=>t σ H λvs u=>sp (vs++s) u Q E
def ZM(C:Addr)(m:Str)(sp:Sp)(s:List V)(E:XK)(z:TE)(t:TA):TE:=λσ H Q=>z σ H λx u=>∃a B fs,x = .ref a/\u a=some (.ins C B fs)/\fs.lookup m=none /\
 t σ u λvs G=>sp (x::(vs++s)) G Q E
def Rb(C:Addr)(sp:Sp)(u:List V)(E:XK)(t:TA):TE:=λσ H Q=>t σ H λvs z=>∀x s,z x=none->z s=none->s≠x ->
 sp (.ref x::(vs++u)) (om (om z s (.own x)) x (.ins C s [])) (λv B=>v = .non/\Q (.ref x) B) E
def uf(K:Ζ)(fd:jx)(ps:List Str)(ds:Ξ):Prop:=
 ∀(s:Shared) (us:Ξ),K.In s.heap->(us++ds).length=ps.length->lH s fd ⟨us,[]⟩ (ps.zip (us++ds))
def uf.all{K:Ζ}{fd:jx}{ps:List Str}(h:∀us:Ξ,us.length=ps.length->bindArgs fd ⟨us,[]⟩=pure (ps.zip us)):uf K fd ps []:=λs us _ hl=>by
 rw[aNq]at hl ⊢;exact .of_eq (h us hl)
def B6(CX:Qa)(X:Cx)(E:XK):Prop:=∀(u:Φ) (σ:St) (H:Hp) (s:Shared) (e:Value) (t:Shared),Inv X u σ H s->CX X.stack H s E e t->X.xe e t
section
variable {X:Cx}{CX:Qa}{k:Nat}{f C:Addr}{fd:jx}{ps:List Str}{sp:Sp}{dvs:List V}{ds:Ξ}{E:XK}{x m:Str}{p pos apos:Pos}{e o:Expr}{es:List Expr}{ta:TE}{t:TA}
def S5{B:Φ}{σ:St}{H:Hp}{s:Shared}{Q:VK}{us:Ξ}{vs:List V}(F:yG X.prog X.w X.K X.mg X.base CX k f fd ps sp)(hr:qV k X.A)(hb:uf X.K fd ps ds)(hd:ot dvs ds)(J:B6 CX X E)
  (I:Inv X B σ H s) (r:ot vs us) (h:sp (vs++dvs) H Q E):jn (jk X.prog X.w) X.A (call (.ref f) us) (EP X B σ Q) X.xe s:=by
 have G:ot (vs++dvs) (us++ds):=r.append hd;have hl:(us++ds).length=ps.length:=by rw[←G.length];exact F.len _ _ _ _ h
 refine wpAny_call (kx (F.run X.A X.stack s H ⟨us,[]⟩ (us++ds) (vs++dvs) Q E hr I.env0 (hb s us I.kIn hl) G h) λr L z=>?_)
 cases r with
 |error e=>exact J B σ H s e L I z
 |ok fl=>
  cases fl with
  |ret u=>exact I.after z
  |next=>exact False.elim z
  |brk=>exact False.elim z
  |cont=>exact False.elim z
def Vb(F:yG X.prog X.w X.K X.mg X.base CX k f fd ps sp)(hr:qV k X.A)(G:Gl X x)(J:X.mg x=some (.ref f))(hk:W.keepIn X.K (.ref f)=true)(hb:uf X.K fd ps ds)(hd:ot dvs ds)(L:B6 CX X E)
  (ha:PA X (e::es) t) (u:(x == ("__debug__" : Str))=false:=by decide) (M:jt (e::es) X.env=(false,eval e X.env)::jt es X.env:=by rfl) (z:(jL pos (jt es X.env)).any (·.1)=false:=by rfl) :
  PE X (.Call (.Name x p) (e::es) [] pos) (DS sp dvs E t):=by
 intro O s σ H Q I h;refine jP (GC I G J ?_ u);refine W.callWith_K (h₀:=X.base) I.ok.mod.kin hk (thn (ha pos O s σ H _ I h) λP R ⟨S,U,B,r,q⟩=>⟨B.kIn,?_⟩) M z
 exact S5 F hr hb hd L B r q
def U6{pl:Sem Bool}(P:PE X o ta)(c:Pz X.K C)(G:Vs X.K C m f)(F:yG X.prog X.w X.K X.mg X.base CX k f fd ps sp)(hr:qV k X.A)(hb:uf X.K fd ps ds)(hd:ot dvs ds)(R:B6 CX X E)(ha:PA X (e::es) t)
  (z:jt (e::es) X.env=(false,eval e X.env)::jt es X.env:=by rfl) (B:(jL pos (jt es X.env)).any (·.1)=false:=by rfl)
  (ht:eval (.Call (.Attribute o m apos) (e::es) [] pos) X.env=(do
   let J ←eval o X.env
   standAt apos.atName
   let (f,first) ←kT [J] (lU J m pl)
   callWith pos f first (jL pos (jt (e::es) X.env)) (backToKw pos (lB [] X.env))):=by rfl) :
  PE X (.Call (.Attribute o m apos) (e::es) [] pos) (ZM C m sp dvs E ta t):=by
 intro L s σ H Q I h;refine W.methodCall_KW (pl:=pl) (thn (P L s σ H _ I h) λu S ⟨x,U,M,Y,a,dx,fs,ex,ea,l,q⟩=>?_) ht
 subst ex;obtain rfl:u=aR a:=Y;refine Kt M ea c G l ?_;refine W.callWith_K (first:=[.ref a]) (h₀:=X.base) I.ok.mod.kin G.kp (thn (ha pos L S σ U _ M q) λus s2 ⟨vs,H2,O,r,q2⟩=>⟨O.kIn,?_⟩) z B
 exact S5 (us:=.ref a::us) (vs:=.ref a::vs) F hr hb hd R O (.cons rfl r) q2
structure Mk (K:Ζ)(C f:Addr):Prop where
 makes:W.makesIn K C=true
 init:W.findIn K (.ref C) "__init__" = some (some (.ref f))
 fn:W.isFn K (.ref f)=true
 kp:W.keepIn K (.ref C)=true
def QD{J:Φ}{σ:St}{H:Hp}{s:Shared}{Q:VK}{us:Ξ}{vs:List V}(M:Mk X.K C f)(F:yG X.prog X.w X.K X.mg X.base CX k f fd ps sp)(hr:qV (k+1) X.A)(hb:uf X.K fd ps ds)(hd:ot dvs ds)
  (P:B6 CX X E) (I:Inv X J σ H s) (r:ot vs us)
  (h:∀x B,H x=none->H B=none->B≠x->sp (.ref x::(vs++dvs)) (om (om H B (.own x)) x (.ins C B [])) (λv R=>v = .non/\Q (.ref x) R) E) :
  jn (jk X.prog X.w) X.A (call (.ref C) us) (EP X J σ Q) X.xe s:=by
 have L:=h (s.heap.objs.size+1) s.heap.objs.size (I.hok.fresh (bS _)) (I.hok.fresh (aa _)) (aA (cL _));have G:=Inv.made (C:=C) I;have O:ot (V.ref (s.heap.objs.size+1)::(vs++dvs)) (aR (s.heap.objs.size+1)::(us++ds)):=.cons rfl (r.append hd);have hl:(aR (s.heap.objs.size+1)::us++ds).length=ps.length:=by
  have e:=O.length;rw[F.len _ _ _ _ L]at e;exact e.symm
 refine wpAny_call (Q9 (f:=f) I.kIn M.makes M.init (beq_iff_eq.mp M.fn) (kx (F.run _ X.stack _ _ ⟨aR (s.heap.objs.size+1)::us,[]⟩ (aR (s.heap.objs.size+1)::(us++ds)) _ _ E (hr.make C us [])
  (G.env0.make C us []) (hb _ (aR (s.heap.objs.size+1)::us) G.kIn hl) O L) λr S z=>?_))
 cases r with
 |error e=>exact P J σ _ _ e S G z
 |ok fl=>
  cases fl with
  |ret u=>
   obtain⟨v,U,Y,rv,ev,q3⟩:=G.after z;subst ev;exact⟨rv,⟨V.ref (s.heap.objs.size+1),U,Y,rfl,q3⟩⟩
  |next=>exact False.elim z
  |brk=>exact False.elim z
  |cont=>exact False.elim z
def T1(M:Mk X.K C f)(F:yG X.prog X.w X.K X.mg X.base CX k f fd ps sp)(hr:qV (k+1) X.A)(G:Gl X x)(J:X.mg x=some (.ref C))(hb:uf X.K fd ps ds)(hd:ot dvs ds)(L:B6 CX X E)
  (ha:PA X (e::es) t) (u:(x == ("__debug__" : Str))=false:=by decide) (O:jt (e::es) X.env=(false,eval e X.env)::jt es X.env:=by rfl) (z:(jL pos (jt es X.env)).any (·.1)=false:=by rfl) :
  PE X (.Call (.Name x p) (e::es) [] pos) (Rb C sp dvs E t):=by
 intro P s σ H Q I h;refine jP (GC I G J ?_ u);refine W.callWith_K (h₀:=X.base) I.ok.mod.kin M.kp (thn (ha pos P s σ H _ I h) λR S ⟨U,Y,B,r,q⟩=>⟨B.kIn,?_⟩) O z
 exact QD M F hr hb hd L B r q
end
structure nM (N P:List Str)(sc:jZ):Prop where
 kind:sc.kind = .function
 co:sc.isCoroutine=false
 gen:sc.isGenerator=false
 nd:N.Nodup
 pre:N.take P.length=P
 par:∀x∈P,sc.names.lookup x=some .local∨sc.names.lookup x=some .cell
 nofree:∀y∈sc.names,y.2 ≠ .free
theorem Gu{kindOf:Str->Option NameKind}{x:Str}:∀{binds:List (Str×Value)}{m:Str->Υ},(∀v,(x,v)∉binds)->bindL kindOf binds m x=m x
 | [],_,_=>rfl
 | (n,v)::r,m,h=>by
  unfold bindL;rw[Gu λw hw=>h w (mCo _ hw)]
  split
  .have:x≠n:=by rintro rfl;exact h v ax
   simp[this]
  .rfl
theorem Gh{kindOf:Str->Option NameKind}{x:Str}:∀{binds:List (Str×Value)}{m:Str->Υ},(∀v,(x,v)∉binds)->bindC kindOf binds m x=m x
 | [],_,_=>rfl
 | (n,v)::r,m,h=>by
  unfold bindC;rw[Gh λw hw=>h w (mCo _ hw)]
  split
  .rfl
  .have:x≠n:=by rintro rfl;exact h v ax
   simp[this]
theorem FP{kindOf:Str->Option NameKind}{x:Str}{v:Value}:∀{P:List Str}{vs:Ξ}{i:Nat}{m:Str->Υ},P.Nodup->P[i]?=some x->vs[i]?=some v->kindOf x=some .local ->
  bindL kindOf (P.zip vs) m x=some v
 | [],_,_,_,_,h,_,_=>by simp at h
 |_::_,[],_,_,_,_,h,_=>by simp at h
 |p::P,w::vs,0,m,nd,h1,h2,hk=>by
  simp at h1 h2;subst h1;subst h2;show bindL kindOf ((p,w)::P.zip vs) m p=_;unfold bindL;rw[Gu λv s=>(aw.mp nd).1 (gB s).1,oa hk]
  simp
 |p::P,w::vs,i+1,m,nd,h1,h2,hk=>by
  show bindL kindOf ((p,w)::P.zip vs) m x=_;unfold bindL;exact FP (i:=i) (aw.mp nd).2 (by simpa using h1) (by simpa using h2) hk
theorem FH{kindOf:Str->Option NameKind}{x:Str}{v:Value}:∀{P:List Str}{vs:Ξ}{i:Nat}{m:Str->Υ},P.Nodup->P[i]?=some x->vs[i]?=some v->kindOf x≠some .local ->
  bindC kindOf (P.zip vs) m x=some v
 | [],_,_,_,_,h,_,_=>by simp at h
 |_::_,[],_,_,_,_,h,_=>by simp at h
 |p::P,w::vs,0,m,nd,h1,h2,hk=>by
  simp at h1 h2;subst h1;subst h2;show bindC kindOf ((p,w)::P.zip vs) m p=_;unfold bindC;rw[Gh λv s=>(aw.mp nd).1 (gB s).1,nY hk]
  simp
 |p::P,w::vs,i+1,m,nd,h1,h2,hk=>by
  show bindC kindOf ((p,w)::P.zip vs) m x=_;unfold bindC;exact FH (i:=i) (aw.mp nd).2 (by simpa using h1) (by simpa using h2) hk
def start(N:List Str)(vs:List V):St:=vs.map some++az (N.length-vs.length) none
def Io(CX:Qa)(P:jq)(w:ju)(K:Ζ)(mg:Str->Υ)(base:Heap)(N:List Str)(t:Str)(scope:jZ)(f:Addr)(x:Value)(A:Around)(outer:List Env)(s:Shared)(H:Hp)(E:XK):Cx where
 prog:=P
 w:=w
 K:=K
 mg:=mg
 base:=base
 A:=A.deeper (jY t scope s.heap.objs.size f x)
 N:=N
 s₀:=s
 H₀:=H
 env:=jY t scope s.heap.objs.size f x
 outer:=outer
 stack:=jY t scope s.heap.objs.size f x::outer
 ex:=[]
 calm:=true
 fn:=λ_=>true
 pn:=[]
 xe:=λe z=>jn (jk P w) (A.deeper (jY t scope s.heap.objs.size f x)) (leaving (jY t scope s.heap.objs.size f x) e) (λ_ u=>CX outer H s E e u) (λB u=>CX outer H s E B u) z
def II{s:jZ}{n:Nat}{x:Str}(h:s.names.lookup x=some .cell):∃c,(cellsFrom n s.names []).lookup x=some c:=by
 have q:=W.cellsFrom_some s.names n [] (.inl h);exact Option.isSome_iff_exists.mp q
def OZ{CX:Qa}{P:jq}{w:ju}{K:Ζ}{mg:Str->Υ}{base:Heap}{N ps:List Str}{t:Str}{scope:jZ}{f:Addr}{O:Value}{A:Around}{outer:List Env}{s s1:Shared}{H:Hp}{E:XK}{us:Ξ}{vs:List V}
  (S:nM N ps scope) (hd:A.handled=none) (G:KZ P w K mg base A outer s H) (hl:vs.length=ps.length) (r:ot vs us)
  (x:InCallC s s.heap.objs.size (bindL (jY t scope s.heap.objs.size f O).kindOf (ps.zip us) λ_=>none) (cellsFrom (s.heap.objs.size+1) scope.names []) (bindC (jY t scope s.heap.objs.size f O).kindOf (ps.zip us) λ_=>none) s1) :
  Inv (Io CX P w K mg base N t scope f O A outer s H E) [] (start N vs) H s1:=by
 have U:ps.length<=N.length:=by have:=congrArg bV S.pre;rw[lTq]at this;lia
 obtain⟨Q,Y,rfl,hk⟩:=x.done;have I:∀b:Addr,b∉(Io CX P w K mg base N t scope f O A outer s H E).ex:=λb z=>absurd (show b∈([]:Δ)from z) (by simp)
 refine⟨⟨G.mod,S.kind,rfl,rfl,aa _,λy z c Q B=>?_,λy J=>?_,λy c _ h=>?_,λ_=>hd,Around.frames_deeper G.frames,.inr ⟨rfl,rfl⟩,λb z=>absurd z (I b),G.bs,G.bsz,λb _ _=>I b,λb z=>absurd z (I b),G.funs,G.frf⟩,
  rfl,G.bare,Un.kept hk,⟨_,x.toInCall.ns,λi y v Q B h3=>?_⟩,λy c h=>⟨_,x.cell y c h⟩,G.hok.fresh (aa _),λy c h=>?_,λp L=>absurd (show p∈([]:Φ)from L) (by simp),G.hok.kept hk,?_⟩
 .exact name_of_addr x.apart (PySem.mem_of_lookup Q) (PySem.mem_of_lookup B)
 .have J:scope.names.lookup y=some .cell∨scope.names.lookup y=some .free:=J;rcases J with J|J
  .exact II J
  .exact absurd rfl (S.nofree _ (PySem.mem_of_lookup J))
 .exact bZ (x.above y c (PySem.mem_of_lookup h))
 .have hi:i<vs.length:=by
   unfold start at B
   by_cases hi:i<vs.length
   .exact hi
   .rw[gYq (by simpa using hi)]at B
    rw[cf]at B;split at B <;> cases B
  have ha:vs[i]?=some v:=by
   unfold start at B;rw[gZq (by simpa using hi),gMq]at B
   cases e:vs[i]? with
   |none=>rw[e]at B;cases B
   |some a=>rw[e]at B;cases B;rfl
  obtain⟨u,R,X⟩:=r.get ha;have L:ps[i]?=some y:=by
   rw[←S.pre,cY (by lia)];exact Q
  have M:ps.Nodup:=by rw[←S.pre];exact S.nd.sublist (aT _ _)
  refine⟨u,X,?_⟩;rcases S.par y (mGq L)with k|k
  .exact .inl ⟨k,FP M L R k⟩
  .obtain⟨c,e⟩:=II (n:=s.heap.objs.size+1) k;refine .inr ⟨.inl k,c,e,?_⟩;have q:=x.cell y c e;rw[FH M L R (by show scope.names.lookup y≠_;rw[k];decide)]at q
   exact q
 .exact G.hok.fresh (bZ (x.above y c (PySem.mem_of_lookup h)))
 .unfold start;show _=N.length;rw[lAq,lMq,bF];lia
def abe{CX:Qa}{P:jq}{w:ju}{K:Ζ}{mg:Str->Υ}{base:Heap}{k:Nat}{f:Addr}{L z:Str}{B:Arguments}{body:List Stmt}{scope:jZ}{dV kV Y pm O ct oc:Value}{an od:Option Addr}
  {osl:Array Υ}{N ps:List Str}{sp:Sp}(lk:K.lookup f=some ⟨oc,od,.func (W.fnOf L z B body scope dV kV Y pm an O ct),osl⟩) (hcd:W.codeIn K O z=true) (S:nM N ps scope)
  (len:∀vs H Q E,sp vs H Q E->vs.length=ps.length)
  (R:∀(A:Around) (outer:List Env) (s:Shared) (H:Hp) (vs:List V) (Q:VK) (E:XK),qV k (A.deeper (jY z scope s.heap.objs.size f O))->sp vs H Q E ->
   ∃t,J9 (Io CX P w K mg base N z scope f O A outer s H E) body t/\t { nx:=λ_ M=>Q .non M,rt:=Q } (start N vs) H) :
  yG P w K mg base CX (k+1) f (W.fnOf L z B body scope dV kV Y pm an O ct) ps sp:=by
 refine⟨len,λA outer s H args us vs Q E hr e0 hb r hsp=>?_⟩
 have hl:=len _ _ _ _ hsp;have KX:K.In s.heap:=e0.mod.kin.keeps λb o e=>(e0.bs b o e).1
 have lim:s.heap.NoLimit:=e0.mod.nolimit.keeps λb o e=>(e0.bs b o e).1
 have U:∀y∈ps.zip us,scope.names.lookup y.1=some .local∨(scope.names.lookup y.1=some .cell/\((cellsFrom (s.heap.objs.size+1) scope.names []).lookup y.1).isSome=true):=λ⟨n,v⟩ hy=>by
  rcases S.par n (gB hy).1 with q|q
  .exact .inl q
  .exact .inr ⟨q,W.cellsFrom_some _ _ _ (.inl q)⟩
 refine codeAny_call_function hr.depth (KX _ _ lk) rfl S.co S.gen rfl (W.codeRec_of KX hcd) (hb _ _ _ _ ?_);refine wpAny_newFunctionEnv_cells S.kind U λenv he s1 x=>?_
 subst he;refine⟨lim.keeps x.toInCall.keep,codeAny_func ?_⟩;obtain⟨t,ht,hq⟩:=R A outer s H vs Q E (hr.deeper _) hsp;have I:Inv (Io CX P w K mg base N z scope f O A outer s H E) [] (start N vs) H s1:=OZ S hr.hd e0 hl r x;refine jB (ht [] s1 (start N vs) H _ I hq) (λfl s' X=>?_) λe s' X=>X
 have fin:∀{G:St}{M:Hp}{v:V}{u:Value},Inv (Io CX P w K mg base N z scope f O A outer s H E) [] G M s'->oC v u->Q v M->CE outer P w H s Q u s':=
  λ{G M v u} J rv q=>⟨v,M,J.os,J.bare,J.base,J.hok,rv,q⟩
 cases fl with
 |ret u=>
  obtain⟨v,G,M,J,rv,q⟩:=X;exact fin J rv q
 |next=>
  obtain⟨G,M,J,q⟩:=X;exact fin (v:=V.non) (u:=gc) J rfl q
 |brk=>
  obtain⟨_,_,_,q⟩:=X;exact False.elim q
 |cont=>
  obtain⟨_,_,_,q⟩:=X;exact False.elim q
section
variable {X:Cx}{x:Str}{p pos:Pos}{e:Expr}{es:List Expr}{t:TA}{id T:String}{r:List V->Hp->VK->Prop}
noncomputable def Om(r:List V->Hp->VK->Prop)(t:TA):TE:=λσ H Q=>t σ H λvs s=>r vs s Q
def oS(E:ur X (.builtin id) r)(G:Gl X x)(J:X.mg x=none)(L:kz x=some (.builtin id))(ha:PA X (e::es) t)(hn:x ≠ "__name__" := by decide)(u:(x == ("__debug__" : Str))=false:=by decide)
  (M:jt (e::es) X.env=(false,eval e X.env)::jt es X.env:=by rfl) (z:(jL pos (jt es X.env)).any (·.1)=false:=by rfl):PE X (.Call (.Name x p) (e::es) [] pos) (Om r t):=by
 intro B s σ H Q I h;refine jP (wg I G J L ?_ hn u);exact fj (thn (ha pos B s σ H _ I h) λO P ⟨R,S,U,Y,q1⟩=>E B P σ S R O Q U Y q1) M z
def qI(E:ur X (.type T) r)(G:Gl X x)(J:X.mg x=none)(L:kz x=some (.type T))(ha:PA X (e::es) t)(hn:x ≠ "__name__" := by decide)(u:(x == ("__debug__" : Str))=false:=by decide)
  (M:jt (e::es) X.env=(false,eval e X.env)::jt es X.env:=by rfl) (z:(jL pos (jt es X.env)).any (·.1)=false:=by rfl):PE X (.Call (.Name x p) (e::es) [] pos) (Om r t):=by
 intro B s σ H Q I h;refine jP (wg I G J L ?_ hn u);exact bD (thn (ha pos B s σ H _ I h) λO P ⟨R,S,U,Y,q1⟩=>E B P σ S R O Q U Y q1) M z
end
end L2
namespace HT
open PySem PyProof.Rows
noncomputable def qO:Ϝ->Ϝ->Bool
 | [],[]=>false
 | [],_::_=>true
 |_::_,[]=>false
 |x::xs,y::ys=>if x=y then qO xs ys else decide (x<y)
def vc(x y:Int)(xs ys:Ϝ):qO (x::xs) (y::ys)=if x=y then qO xs ys else decide (x<y):=rfl
def E6:qO [] []=false:=rfl
def DU(y:Int)(ys:Ϝ):qO [] (y::ys)=true:=rfl
def Ep(x:Int)(xs:Ϝ):qO (x::xs) []=false:=rfl
def Qw(A:Around)(s:Shared)(a:Int)(t:Tok)(c:Int)(u:Tok):∃e,SeqAt.EqAt A s (.int a t) (.int c u) e/\(e=true↔a=c):=
 ⟨(a == c),SeqAt.EqAt.int_int a t c u,by simp⟩
def Qc(A:Around)(s:Shared)(a:Int)(t:Tok)(c:Int)(u:Tok)(prog:jq)(w:ju)(E:Ψ)(Q:Ψ)(h:Q (.bool (decide (a<c))) s) :
  jn (jk prog w) A (richCompare .Lt (.int a t) (.int c u)) Q E s:=
 (jg h:jn (jk prog w) A (jA .Lt (.int a t) (.int c u)) Q E s)
section
variable {prog:jq}{w:ju}{A:Around}{E:Ψ}{s:Shared}
def Fg(n d:Nat):Option Int->Nat
 |none=>d
 |some v=>if v<0 then (v+(n:Int)).toNat else min v.toNat n
def IB(n d:Nat):Fg n d none=d:=rfl
def De(n d k:Nat):Fg n d (some (k:Int))=min k n:=by
 show(if (k:Int)<0 then ((k:Int)+(n:Int)).toNat else min (k:Int).toNat n)=min k n
 rw[nY (by lia),cG]
end
end HT
namespace L2
open PySem PySem.Spec PyProof.Rows
abbrev TO:=St->Hp->(Option Int->Hp->Prop)->Prop
def PO(X:Cx)(e:Option Expr)(t:TO):Prop:=
 ∀(x:Φ) (s:Shared) (σ:St) (H:Hp) (Q:Option Int->Hp->Prop),Inv X x σ H s->t σ H Q ->
  jn (jk X.prog X.w) X.A (evalPart e X.env) (λu B=>∃o z,Inv X x σ z B/\IsPart u o/\Q o z) X.xe s
def Mj:TO:=λ_ H Q=>Q none H
noncomputable def W0(t:TE):TO:=λσ H Q=>t σ H λx s=>∃i,x = .int i/\Q (some i) s
def Ad{ns:Ϝ}:∀{us:Ξ},ot (ns.map V.int) us->jz us ns:=by
 induction ns with
 |nil=>intro us r;rw[cj]at r;cases r;exact .nil
 |cons n ns s=>
  intro us r;rw[ai]at r;cases r with
  |cons u x=>
   obtain⟨t,e⟩:=u;subst e;exact .cons n t (s x)
section
variable {X:Cx}{e:Expr}{te:TE}{lo hi:Option Expr}{tl th:TO}{pos p2:Pos}
def MC:PO X none Mj:=by
 intro t s σ H Q I h;rw[evalPart_none];exact jm ⟨none,H,I,.none,h⟩
def MU(h:PE X e te):PO X (some e) (W0 te):=by
 intro z s σ H Q I hw;rw[evalPart_some];refine thn (h z s σ H _ I hw) λu L ⟨x,B,E,G,J⟩=>?_
 obtain⟨i,rfl,q⟩:=J;obtain⟨t,rfl⟩:=G;exact⟨some i,B,E,.int i t,q⟩
def SlR(X:Cx)(r:V->Option Int->Option Int->Hp->VK->Prop):Prop:=
 ∀(t:Φ) (s:Shared) (σ:St) (H:Hp) (x:V) (v u z:Value) (lo hi:Option Int) (B:Addr) (Q:VK),Inv X t σ H s->oC x v->s.heap.IsSliceOf B u z .none->IsPart u lo->IsPart z hi->r x lo hi H Q ->
  ∃T id,typeLookup (.type T) "__getitem__" = pure (some (.builtin id))/\s.TypeIs v T/\jn (jk X.prog X.w) X.A (lE v (.ref B)) (EP X t σ Q) X.xe s
noncomputable def tSl(r:V->Option Int->Option Int->Hp->VK->Prop)(te:TE)(tl th:TO):TE:=λσ H Q=>te σ H λx s=>tl σ s λl t=>th σ t λu z=>r x l u z Q
def Ie{r:V->Option Int->Option Int->Hp->VK->Prop}(hr:SlR X r)(J:PE X e te)(hl:PO X lo tl)(L:PO X hi th):PE X (.Subscript e (.Slice lo hi none p2) pos) (tSl r te tl th):=by
 intro z s σ H Q I h;refine Subscript_ (thn (J z s σ H _ I h) λv M ⟨x,O,P,R,S⟩=>?_)
 refine wpAny_Slice (thn (hl z M σ O _ P S) λB U ⟨l,Y,I2,pl,q2⟩=>thn (L z U σ Y _ I2 q2) λE t ⟨u,G,I3,pu,q3⟩=>?_)
 rw[evalPart_none];refine jm ?_;have I4:Inv X z σ G { t with heap:=t.heap.push { cls:=.type "slice", data:=.fields #[B,E,.none] } }:=I3.kept (t':=t.toks) λb ob q=>af _ q
 obtain⟨T,id,hT,ht,hg⟩:=hr z { t with heap:=t.heap.push { cls:=.type "slice", data:=.fields #[B,E,.none] } } σ G x v B E l u t.heap.objs.size Q I4 R (Heap.IsSliceOf.new ..) pl pu q3
 show jn (jk X.prog X.w) X.A (lN e (.Slice lo hi none p2) v (.ref t.heap.objs.size)) (EP X z σ Q) X.xe { t with heap:=t.heap.push { cls:=.type "slice", data:=.fields #[B,E,.none] } }
 exact tail_any (ops:=[.ref t.heap.objs.size,v]) ht hT hg (by with_unfolding_all rfl)
def LA(xs:List V)(lo hi:Option Int):List V:=(xs.drop (HT.Fg xs.length 0 lo)).take (HT.Fg xs.length xs.length hi-HT.Fg xs.length 0 lo)
def Jh(xs:List V)(lo hi:Option Int):(LA xs lo hi).length<=xs.length:=by
 unfold LA;rw[lTq,ar];lia
end
def Mw(n:Nat)(i:Int):Option Nat:=if 0<=i then (if i<n then some i.toNat else none)else if -(n:Int)<=i then some (i+n).toNat else none
def atI{α:Type}(xs:List α)(i:Int):Option α:=(Mw xs.length i).bind λj=>xs[j]?
def Mu{n:Nat}{i:Int}{j:Nat}(h:Mw n i=some j):seqIndex? i n=some j/\j<n/\-(n:Int)<=i/\i<n:=by
 unfold Mw at h
 by_cases t:0<=i
 .rw[oa t]at h
  by_cases s:i<n
  .rw[oa s]at h;have e:i.toNat=j:=aL.inj h;exact⟨by rw[lV t s,e],by lia,by lia,s⟩
  .rw[nY s]at h;cases h
 .rw[nY t]at h
  by_cases s:-(n:Int)<=i
  .rw[oa s]at h;have e:(i+n).toNat=j:=aL.inj h;exact⟨by rw[lS (by lia) s,e],by lia,s,by lia⟩
  .rw[nY s]at h;cases h
def VP{α:Type}{xs:List α}{i:Int}{v:α}(h:atI xs i=some v):∃j,seqIndex? i xs.length=some j/\xs[j]?=some v/\j<xs.length/\-(xs.length:Int)<=i/\i<xs.length:=by
 unfold atI at h;cases e:Mw xs.length i with
 |none=>rw[e]at h;cases h
 |some j=>
  rw[e]at h;obtain⟨s,t,u,x⟩:=Mu e;exact⟨j,s,h,t,u,x⟩
def vx{α:Type}{xs:List α}{j:Nat}{v:α}(h:xs[j]?=some v):atI xs (j:Int)=some v:=by
 have s:j<xs.length:=(gSq.mp h).1;have e:Mw xs.length (j:Int)=some j:=by
  unfold Mw;rw[oa (by lia),oa (by lia)];simp
 unfold atI;rw[e];exact h
def U7(b:Expr):Prop:=∀o i,lz b false o i=operate [o,i] (lE o i)
def IxR(X:Cx)(r:R2):Prop:=
 ∀(z t:Expr) (B:Φ) (s:Shared) (σ:St) (H:Hp) (x y:V) (v u:Value) (Q:VK),Inv X B σ H s->oC x v->oC y u->r x y H Q ->
  lz t false v u=operate [v,u] (lE v u)->jn (jk X.prog X.w) X.A (lN z t v u) (EP X B σ Q) X.xe s
def Wx(X:Cx)(id:String)(r:V->List V->Hp->VK->Prop):Prop:=
 ∀(t:Φ) (s:Shared) (σ:St) (H:Hp) (x:V) (xs:List V) (v:Value) (us:Ξ) (Q:VK),Inv X t σ H s->oC x v->ot xs us->r x xs H Q ->
  jn (jk X.prog X.w) X.A (call (.builtin id) (v::us)) (EP X t σ Q) X.xe s
section
variable {X:Cx}{a b:Expr}{ta tb:TE}{pos:Pos}
def A4{r:R2}(hr:IxR X r)(ha:PE X a ta)(hb:PE X b tb)(t:U7 b):PE X (.Subscript a b pos) (WO r ta tb):=by
 intro z s σ H Q I h;exact Subscript_ (Yr ha hb I h λv u B x y E G J L q=>hr a b z B σ E x y v u Q G J L q (t _ _))
def XA(K:Ζ):R2:=λx y H Q=>∃p xs i v,x = .ref p/\y = .int i/\qh K H p xs/\atI xs i=some v/\Q v H
def uL:IxR X (XA X.K):=by
 intro E G P s σ H x y v u Q I Y ry h R;obtain⟨p,xs,i,z,rfl,rfl,hq,he,q⟩:=h;cases Y;obtain⟨t,rfl⟩:=ry;obtain⟨J,r,L,hz⟩:=I.list hq;obtain⟨j,B,h2,h3,h4,h5⟩:=VP he;obtain⟨w,S,M⟩:=r.get h2;have hl:=r.length;have hn:=KJ;have fin:EP X P σ Q w s:=⟨z,H,I,M,q⟩
 by_cases U:0<=i
 .have O:i.toNat=j:=by
   rw[lV U h5]at B;exact aL.inj B
  exact item_listR L.isList U (by lia) (by rw[O];simpa using S) fin R
 .have O:(i+(J.toArray.size:Int)).toNat=j:=by
   rw[lS (by lia) h4]at B
   rw[aq,←hl];exact aL.inj B
  exact subscriptTail_builtinR (x:=w) L.isList.typeIs slot_list_getitem.lookup
   (wpAny_getItem_list_neg (Q:=λr s'=>r=w/\EP X P σ Q r s') L.isList (by lia) (by rw[aq] <;> lia) (by lia) (by rw[O];simpa using S) ⟨rfl,fin⟩) R
def KR(s:Ξ)(n j:Nat)(u:Value):Obj.mapSeq (·.setIfInBounds j u) { cls:=.type "list", data:=.seq s.toArray n }={ cls:=.type "list", data:=.seq (s.set j u).toArray n }:=by
 simp[Obj.mapSeq]
theorem Inv.lst{u:Φ}{σ:St}{H:Hp}{s:Shared}{p:Addr}{xs:List V}(I:Inv X u σ H s)(h:H p=some (.lst xs)) :
  ∃(t:Ξ) (n:Nat),ot xs t/\s.heap.get? p=some { cls:=.type "list", data:=.seq t.toArray n }/\xs.length<=jo:=by
 obtain⟨z,t,n,r,e⟩:=I.hok p _ h;exact⟨t,n,r,e,z⟩
def Inv.lstUpd{E:Φ}{σ:St}{H:Hp}{s:Shared}{p:Addr}{xs ys:List V}{z its':Ξ}{n B:Nat}{f:Obj->Obj}(I:Inv X E σ H s)(h:H p=some (.lst xs))
  (J:s.heap.get? p=some { cls:=.type "list", data:=.seq z.toArray n }) (G:f { cls:=.type "list", data:=.seq z.toArray n }={ cls:=.type "list", data:=.seq its'.toArray B }) (r:ot ys its') (L:ys.length<=jo) (t:Nat) :
  Inv X E σ (om H p (.lst ys)) { s with heap:=s.heap.update p f,toks:=t }:=by
 have e:(s.heap.update p f).get? p=some { cls:=.type "list", data:=.seq its'.toArray B }:=by
  rw[fb f J (by rw[G] <;> rfl),G]
 refine I.write (x:=p) (e:=p) (by rw[h];trivial) (.inl rfl) (λb u hb q=>(gC _ _ (Ne.symm hb)).trans q) ⟨_,e⟩ ?_
 exact⟨L,its',B,r,e⟩
def W3:V->V->V->Hp->(Hp->Prop)->Prop:=λo i v H Q=>∃p xs k j,o = .ref p/\i = .int k/\H p=some (.lst xs)/\Mw xs.length k=some j/\Q (om H p (.lst (xs.set j v)))
def QV:ZY X W3:=by
 intro O s σ H o i v ov iv u Q I P R S h;obtain⟨p,U,k,j,rfl,rfl,E,Y,q⟩:=h;cases P;obtain⟨t,rfl⟩:=R;obtain⟨x,n,r,B,hz⟩:=I.lst E;obtain⟨z,h2,G,J⟩:=Mu Y;have hl:=r.length;have hn:=KJ;have L:Inv X O σ (om H p (.lst (U.set j v))) { s with heap:=s.heap.update p (Obj.mapSeq (·.setIfInBounds j u)) }:=
  I.lstUpd E B (KR x n j u) (r.set S j) (by rw[lZq];exact hz) s.toks
 by_cases M:0<=k
 .have hk:k.toNat=j:=by
   rw[lV M J]at z;exact aL.inj z
  exact W.ki_setAt B M (by lia) (by rw[aq,←hl];exact J) (by rw[hk];exact⟨_,L,q⟩)
 .have hk:(k+(x.toArray.size:Int)).toNat=j:=by
   rw[lS (by lia) G]at z
   rw[aq,←hl];exact aL.inj z
  exact W.ki_setBack B (by lia) (by rw[aq,←hl];exact G) (by lia) (by rw[hk];exact⟨_,L,q⟩)
def GY(lo hi:Option Int)(n:Nat):(km lo hi none n).1=((HT.Fg n 0 lo:Nat):Int)/\(km lo hi none n).2.1=((HT.Fg n n hi:Nat):Int)/\(km lo hi none n).2.2=1:=by
 refine⟨?_,?_,rfl⟩
 .cases lo with
  |none=>simp[km,HT.Fg]
  |some i=>
   simp only[km,HT.Fg,iw,show(1:Int)>0 by decide,if_true]
   by_cases h:i<0
   .simp only[h,if_true] <;> lia
   .simp only[h,if_false] <;> lia
 .cases hi with
  |none=>simp[km,HT.Fg]
  |some i=>
   simp only[km,HT.Fg,iw,show(1:Int)>0 by decide,if_true]
   by_cases h:i<0
   .simp only[h,if_true] <;> lia
   .simp only[h,if_false] <;> lia
def E9(s:Ξ)(lo hi:Option Int):slicePick s.toArray lo hi none=((s.drop (HT.Fg s.length 0 lo)).take (HT.Fg s.length s.length hi-HT.Fg s.length 0 lo)).toArray:=by
 obtain⟨t,u,x⟩:=GY lo hi s.toArray.size;unfold slicePick;rw[t,u,x];simp only[sliceRange_one,pick_run,aq] <;> rfl
def ZQ(K:Ζ):V->Option Int->Option Int->Hp->VK->Prop:=λx lo hi H Q=>∃a xs,x = .ref a/\qh K H a xs/\∀p,H p=none->Q (.ref p) (om H p (.lst (LA xs lo hi)))
def TV:SlR X (ZQ X.K):=by
 intro O s σ H x v P R lo hi S Q I z B E G h;obtain⟨a,t,rfl,J,q⟩:=h;cases z;obtain⟨L,r,ht,M⟩:=I.list J;have u:=r.length;refine⟨"list", _,slot_list_getitem.lookup,ht.isList.typeIs,?_⟩;refine wpAny_getItem_list_slice ht.isList B E G .none (by simp) ?_ (by rw[aq] <;> lia)
 rw[E9,←u];refine⟨.ref s.heap.objs.size,_,I.laid (t':=s.toks) (o:=.lst (LA t lo hi)) (λb U q=>af _ q) (aa _) ?_,rfl,q _ (I.hok.fresh (aa _))⟩
 exact⟨bq (Jh t lo hi) M,_,0,(r.drop (HT.Fg t.length 0 lo)).take (HT.Fg t.length t.length hi-HT.Fg t.length 0 lo),aC _ rfl⟩
noncomputable def zJ:V->Bool
 | .non=>true
 | .bl _=>true
 | .int _=>true
 | .str _=>true
 |_=>false
noncomputable def WY:V->V->Bool
 | .non,.non=>true
 | .bl a,.bl b=>a == b
 | .bl a,.int b=>(if a then 1 else 0) == b
 | .int a,.bl b=>a == (if b then 1 else 0)
 | .int a,.int b=>a == b
 | .str a,.str b=>a == b
 |_,_=>false
def XJ{A:Around}{s:Shared}{y x:V}{u v:Value}(E:oC y u)(z:oC x v)(H:zJ y=true)(G:zJ x=true):SeqAt.EqAt A s u v (WY y x):=by
 cases y with
 |non=>
  cases E;cases x with
  |non=>cases z;exact SeqAt.EqAt.same _
  |bl b=>cases z;exact SeqAt.EqAt.none_bool b
  |int b=>obtain⟨t,rfl⟩:=z;exact SeqAt.EqAt.none_int b t
  |str b=>obtain⟨t,rfl⟩:=z;exact SeqAt.EqAt.none_str b t
  |_=>exact absurd (show false=true from G) ay
 |bl a=>
  cases E;cases x with
  |non=>cases z;exact SeqAt.EqAt.bool_none a
  |bl b=>cases z;exact SeqAt.EqAt.bool_bool a b
  |int b=>obtain⟨t,rfl⟩:=z;exact SeqAt.EqAt.bool_int a b t
  |str b=>obtain⟨t,rfl⟩:=z;exact SeqAt.EqAt.bool_str a b t
  |_=>exact absurd (show false=true from G) ay
 |int a=>
  obtain⟨B,rfl⟩:=E;cases x with
  |non=>cases z;exact SeqAt.EqAt.int_none a B
  |bl b=>cases z;exact SeqAt.EqAt.int_bool a B b
  |int b=>obtain⟨t,rfl⟩:=z;exact SeqAt.EqAt.int_int a B b t
  |str b=>obtain⟨t,rfl⟩:=z;exact SeqAt.EqAt.int_str a B b t
  |_=>exact absurd (show false=true from G) ay
 |str a=>
  obtain⟨B,rfl⟩:=E;cases x with
  |non=>cases z;exact SeqAt.EqAt.str_none a B
  |bl b=>cases z;exact SeqAt.EqAt.str_bool a B b
  |int b=>obtain⟨t,rfl⟩:=z;exact SeqAt.EqAt.str_int a B b t
  |str b=>obtain⟨t,rfl⟩:=z;exact SeqAt.EqAt.str_str a B b t
  |_=>exact absurd (show false=true from G) ay
 |_=>exact absurd (show false=true from H) ay
def Ut(x:V)(u:Value):Bool:=match u with
 | .none=>WY .non x
 | .bool b=>WY (.bl b) x
 | .int i _=>WY (.int i) x
 | .str z _=>WY (.str z) x
 |_=>false
def QR{x y:V}{u:Value}(r:oC y u)(f:zJ y=true):Ut x u=WY y x:=by
 cases y with
 |non=>cases r;rfl
 |bl b=>cases r;rfl
 |int i=>obtain⟨t,rfl⟩:=r;rfl
 |str z=>obtain⟨t,rfl⟩:=r;rfl
 |_=>exact absurd (show false=true from f) ay
theorem GE{x:V}:∀{xs:List V}{us:Ξ},ot xs us->xs.all zJ=true->us.any (Ut x)=xs.any λy=>WY y x
 |_,_,.nil,_=>rfl
 |y::xs,u::us,.cons r t,f=>by
  rw[gP,cu]at f;rw[cX,cX,QR r f.1,GE t f.2]
theorem DE{A:Around}{s:Shared}{x:V}{v:Value}(B:oC x v)(E:zJ x=true):∀{xs:List V}{us:Ξ},ot xs us->xs.all zJ=true->∀u∈us,SeqAt.EqAt A s u v (Ut x u)
 |_,_,.nil,_=>λu z=>by cases z
 |y::xs,u::us,.cons r t,f=>λG z=>by
  rw[gP,cu]at f;rcases ag.mp z with rfl|z
  .rw[QR r f.1];exact XJ r B f.1 E
  .exact DE B E t f.2 G z
def ZD(x:V)(xs:List V):Bool:=xs.any λy=>WY y x
def rIn(K:Ζ)(neg:Bool):R2:=λx y H Q=>∃p xs,y = .ref p/\(qh K H p xs∨BZ K H p xs)/\zJ x=true/\xs.all zJ=true/\Q (.bl (if neg then !ZD x xs else ZD x xs)) H
def Bk:Dd X (jA .NotIn) (rIn X.K true):=by
 intro M s σ H x y v u Q I E J h;obtain⟨p,O,rfl,z,G,fs,q⟩:=h;cases J;rcases z with z|z
 .obtain⟨t,r,B,L⟩:=I.list z;refine SeqAt.notIn_listAt (Ut x) B.isList (λw hw=>DE E G r fs w (by simpa using hw)) ⟨.bl _,H,I,rfl,?_⟩
  rw[show t.toArray.any (Ut x)=t.any (Ut x) by simp,GE r fs]
  exact q
 .obtain⟨t,r,B,L⟩:=I.tuple z;refine SeqAt.notIn_tupleAt (Ut x) B (λw hw=>DE E G r fs w (by simpa using hw)) ⟨.bl _,H,I,rfl,?_⟩
  rw[show t.toArray.any (Ut x)=t.any (Ut x) by simp,GE r fs]
  exact q
def xk:ur X (.type "list") (λxs H Q=>∃p ys,xs=[.ref p]/\(qh X.K H p ys∨BZ X.K H p ys)/\∀l,H l=none->Q (.ref l) (om H l (.lst ys))):=by
 intro R s σ H xs U Q I r h;obtain⟨p,ys,rfl,E,q⟩:=h;obtain⟨u,rfl,S⟩:=sk r;cases S;have fin:∀(t:Ξ),ot ys t->ys.length<=jo->∀(x:Heap) (z:Nat),(∀b P,s.heap.get? b=some P->x.get? b=some P) ->
   x.get? s.heap.objs.size=some { cls:=.type "list", dict:=none,data:=.seq t.toArray z,slots:=#[] }->EP X R σ Q (.ref s.heap.objs.size) { s with heap:=x }:=λt B G x z kp e=>
  ⟨.ref s.heap.objs.size,_,I.laid (t':=s.toks) kp (aa _) (show pR X.prog X.w _ x _ (.lst ys)from ⟨G,t,z,B,e⟩),rfl,q _ (I.hok.fresh (aa _))⟩
 rcases E with E|E
 .obtain⟨t,B,L,G⟩:=I.list E;have J:=B.length;obtain⟨o,M,O,n,hd⟩:=L.isList;exact call_list_seq p (.inl rfl) M O hd (λx z kp e=>fin t B G x z kp e) (by simp only[aq] <;> lia)
 .obtain⟨t,B,L,G⟩:=I.tuple E;have J:=B.length;obtain⟨o,M,O,n,hd⟩:=L;exact call_list_seq p (.inr rfl) M O hd (λx z kp e=>fin t B G x z kp e) (by simp only[aq] <;> lia)
def tyV(K:Ζ)(T:String)(x:V)(H:Hp):Prop:=match x with
 | .str _=>T = "str"
 | .int _=>T = "int"
 | .ref p=>(T = "list" /\ ∃xs,qh K H p xs)∨(T = "tuple" /\ ∃o,K.lookup p=some o/\o.cls = .type "tuple" /\ o.dict=none) ∨
   (T = "dict" /\ ((∃kvs,H p=some (.dK kvs))∨∃kvs,H p=some (.dT kvs)))∨(T = "set" /\ ∃S n,H p=some (.set S n))
 |_=>False
def Sy{J:Φ}{σ:St}{H:Hp}{s:Shared}{T:String}{x:V}{v:Value}(I:Inv X J σ H s)(r:oC x v)(ty:tyV X.K T x H) :
  s.TypeIs v T/\∀a,v = .ref a->∃E,s.heap.get? a=some E/\E.dict=none:=by
 cases x with
 |str z=>
  obtain⟨t,rfl⟩:=r;cases(show T = "str" from ty)
  exact⟨typeIs_str s z t,λ_ e=>nomatch e⟩
 |int i=>
  obtain⟨t,rfl⟩:=r;cases(show T = "int" from ty)
  exact⟨typeIs_int s i t,λ_ e=>nomatch e⟩
 |ref p=>
  cases r;rcases ty with⟨rfl,P,L⟩|⟨rfl,o,hk,M,hd⟩|⟨rfl,hk⟩|⟨rfl,S,n,hk⟩
  .obtain⟨O,_,G,_⟩:=I.list L;refine⟨G.isList.typeIs,λa e=>?_⟩
   cases e;obtain⟨o,n,e,c,hd,_⟩:=G;exact⟨o,e,hd⟩
  .refine⟨⟨o,I.kIn p o hk,M⟩,λa e=>?_⟩
   cases e;exact⟨o,I.kIn _ o hk,hd⟩
  .have z:∃o,s.heap.get? p=some o/\o.ExactDict:=by
    rcases hk with⟨u,hk⟩|⟨u,hk⟩
    .obtain⟨_,_,_,_,o,_,_,e,ex,_⟩:=I.hok p _ hk;exact⟨o,e,ex⟩
    .obtain⟨_,_,_,_,o,_,_,e,ex,_⟩:=I.hok p _ hk;exact⟨o,e,ex⟩
   obtain⟨o,e,ex⟩:=z;refine⟨⟨o,e,ex.1⟩,λa B=>?_⟩
   cases B;exact⟨o,e,ex.2.1⟩
  .obtain⟨o,_,_,_,e,ex,_⟩:=I.hok p _ hk;refine⟨⟨o,e,ex.1⟩,λa B=>?_⟩
   cases B;exact⟨o,e,ex.2.1⟩
 |_=>exact False.elim ty
noncomputable def aae(K:Ζ)(T:String)(r:V->List V->Hp->VK->Prop)(to:TE):TE:=λσ H Q=>to σ H λx s=>tyV K T x s/\r x [] s Q
noncomputable def WW(K:Ζ)(T:String)(r:V->List V->Hp->VK->Prop)(to:TE)(t:TA):TE:=λσ H Q=>to σ H λx s=>tyV K T x s/\t σ s λxs u=>r x xs u Q
variable {o e:Expr}{es:List Expr}{to:TE}{t:TA}{name:Str}{apos cpos:Pos}{T id:String}{r:V->List V->Hp->VK->Prop}
def X6(L:PlainAttrs T)(slot:Slot T name id)(B:typeOf (.builtin id)=pure (.type "method_descriptor"))(M:Wx X id r)(O:PE X o to)
  (u:kj o name X.env (eval o X.env)=eval o X.env:=by rfl) (z:(apos.endLine == cpos.line)=true:=by rfl):PE X (.Call (.Attribute o name apos) [] [] cpos) (aae X.K T r to):=by
 intro E s σ H Q I h;refine kZ u z (thn (O E s σ H _ I h) λv P ⟨x,R,G,J,ty,S⟩=>?_)
 obtain⟨U,Y⟩:=Sy G J ty;exact⟨T,id,L,slot,B,U,Y,Calls.callWith_builtin rfl (PySem.evalArgs_none (M E P σ R x [] v [] Q G J .nil S))⟩
def tD(P:PlainAttrs T)(slot:Slot T name id)(G:typeOf (.builtin id)=pure (.type "method_descriptor"))(R:Wx X id r)(S:PE X o to)(ha:PA X (e::es) t)
  (z:kj o name X.env (eval o X.env)=eval o X.env:=by rfl)
  (E:((jL cpos (jt (e::es) X.env)).all (λx=>!x.1) && (backToKw cpos (lB [] X.env)).all (λx=>x.1.isSome)
   && decide ((e::es).length+([]:List Keyword).length+(if ([]:List Keyword).isEmpty then 0 else 1)<30))=true:=by rfl)
  (B:(apos.endLine == cpos.line)=true:=by rfl) (U:jt (e::es) X.env=(false,eval e X.env)::jt es X.env:=by rfl) (u:(jL cpos (jt es X.env)).any (·.1)=false:=by rfl) :
  PE X (.Call (.Attribute o name apos) (e::es) [] cpos) (WW X.K T r to t):=by
 intro J s σ H Q I h;refine wpAny_Call_method_late z E B rfl (thn (S J s σ H _ I h) λv Y ⟨x,H1,L,M,ty,q1⟩=>?_)
 obtain⟨h1,h2⟩:=Sy L M ty;refine⟨T,id,P,slot,G,h1,h2,?_⟩;have O:=ha cpos J Y σ H1 _ L q1;rw[U]at O ⊢;refine Calls.callWith_builtin (by show(false || (jL cpos (jt es X.env)).any (·.1))=false;rw[u] <;> rfl) (Calls.evalArgs_plain ?_)
 exact thn O λus s2 ⟨vs,H2,I2,r2,q2⟩=>R J s2 σ H2 x vs v us Q I2 M r2 q2
/- xs.append(e),list.index on a module's tuple .. are Wx facts of 06m -/
end
def MtM(X:Cx)(id:String)(r:V->List V->Hp->VK->Prop):Prop:=
 ∀(t:Φ) (s:Shared) (σ:St) (H:Hp) (x:V) (xs:List V) (v:Value) (us:Ξ) (Q:VK),Inv X t σ H s->oC x v->ot xs us->r x xs H Q ->
  jn (jk X.prog X.w) X.A (call (.builtin id) (v::us)) (EP X t σ Q) X.xe s
def ot.one:∀{x:V}{us:Ξ},ot [x] us->∃u,us=[u]/\oC x u
 |_,_,.cons r .nil=>⟨_,rfl,r⟩
def ot.zero:∀{us:Ξ},ot [] us->us=[]
 |_,.nil=>rfl
theorem ot.dropLast{xs:List V}{us:Ξ}(h:ot xs us):ot xs.dropLast us.dropLast:=by
 induction h with
 |nil=>exact .nil
 |cons r t s=>
  cases t with
  |nil=>exact .nil
  |cons q u=>exact .cons r s
def zS{α:Type}(l:List α):l.eraseIdx (l.length-1)=l.dropLast:=by
 induction l with
 |nil=>rfl
 |cons a r s=>
  cases r with
  |nil=>rfl
  |cons b r=>
   have e:(a::b::r).length-1=((b::r).length-1)+1:=by
    have t:(a::b::r).length=r.length+2:=rfl;have u:(b::r).length=r.length+1:=rfl;lia
   rw[e,gh,s]
   all_goals rfl
section
variable {X:Cx}{nu:Φ}{σ:St}{H:Hp}{s:Shared}{l b:Addr}{xs ys zs:List V}
def Inv.lset{t its':Ξ}{n:Nat}{f:Ω->Ω}{t':Nat}(I:Inv X nu σ H s)(z:H l=some (.lst xs))
  (e:s.heap.get? l=some { cls:=.type "list", data:=.seq t.toArray n }) (B:f t.toArray=its'.toArray) (E:ot ys its') (G:ys.length<=jo) :
  Inv X nu σ (om H l (.lst ys)) { s with heap:=s.heap.update l (Obj.mapSeq f),toks:=t' }:=by
 have q:=PySem.IsL.update e f;rw[B]at q;refine I.write (x:=l) (e:=l) (by rw[z];exact trivial) (.inl rfl) (λL u hb J=>(gC s.heap (Obj.mapSeq f) (Ne.symm hb)).trans J) ⟨_,q⟩ ?_
 exact⟨G,its',_,E,q⟩
def Inv.lnew{t:Ξ}{t':Nat}(I:Inv X nu σ H s)(u:ot ys t)(x:ys.length<=jo) :
  Inv X nu σ (om H s.heap.objs.size (.lst ys)) { s with heap:=s.heap.push { cls:=.type "list", data:=.seq t.toArray },toks:=t' }:=
 I.laid (λ_ _ q=>af _ q) (aa _) ⟨x,t,0,u,aC _ rfl⟩
theorem Inv.fresh(I:Inv X nu σ H s):H s.heap.objs.size=none:=I.hok.fresh (aa _)
def Inv.lstM(I:Inv X nu σ H s)(u:H l=some (.lst xs)):xs.length<=jo/\∃(t:Ξ) (n:Nat),ot xs t/\xs.length=t.length/\s.heap.get? l=some { cls:=.type "list", data:=.seq t.toArray n }:=by
 obtain⟨z,t,n,r,e⟩:=I.hok l _ u;exact⟨z,t,n,r,r.length,e⟩
noncomputable def Sh{n:Nat}(h:n<=jo):Builtin.List.listTooLong n=false:=by
 unfold Builtin.List.listTooLong;exact d4 (by lia)
end
section
variable {X:Cx}
def C6:V->List V->Hp->VK->Prop:=λx vs H Q=>∃l xs y,x = .ref l/\vs=[y]/\H l=some (.lst xs)/\xs.length<jo/\Q .non (om H l (.lst (xs++[y])))
def sq:MtM X "list.append" C6:=by
 intro L s σ H x M v O Q I E G h;obtain⟨l,P,y,rfl,rfl,B,R,q⟩:=h;cases E;obtain⟨u,rfl,J⟩:=G.one;obtain⟨z,t,n,r,hl,e⟩:=I.lstM B;refine kA F.slot_list_append ⟨_,e,rfl⟩ F.entry_list_append (F.args_list_append_2 _ _) (PySem.list_append l t.toArray n u (by rw[aq];lia)) ⟨e,?_⟩
 refine⟨.non,_,I.lset (its':=t++[u]) B e (by simp) (r.append (.cons J .nil)) ?_,rfl,q⟩
 rw[lAq,lSq];lia
def M7:V->List V->Hp->VK->Prop:=λx vs H Q=>∃l b xs s,x = .ref l/\vs=[.ref b]/\H l=some (.lst xs)/\H b=some (.lst s)/\xs.length+s.length<=jo/\Q .non (om H l (.lst (xs++s)))
def OY:MtM X "list.extend" M7:=by
 intro nu s σ H x vs v us Q I L M h;obtain⟨l,b,xs,zs,rfl,rfl,J,O,hz,q⟩:=h;cases L;obtain⟨u,rfl,P⟩:=M.one;cases P;obtain⟨z,B,n,r,hl,e⟩:=I.lstM J;obtain⟨z2,t,R,S,U,Y⟩:=I.lstM O;have G:B.toArray.size+t.toArray.size<=jo:=by rw[aq,aq];lia
 have E:¬ (!B.toArray.isEmpty && Builtin.List.listTooLong (B.toArray.size+t.toArray.size))=true:=by
  rw[Sh G,Bool.and_false];exact ay
 refine kA F.slot_list_extend ⟨_,e,rfl⟩ F.entry_list_extend (F.args_list_extend_2 _ _)
  (AutoSeq1.list_extend_list_list_0 l B.toArray n b t.toArray R E (by rw[aq];lia) (by lia)) ⟨e,Y,?_⟩
 refine⟨.non,_,I.lset (its':=B++t) J e (by simp) (r.append S) ?_,rfl,q⟩
 rw[lAq];lia
def Xt:V->List V->Hp->VK->Prop:=λx vs H Q=>∃l xs y,x = .ref l/\vs=[]/\H l=some (.lst xs)/\xs[xs.length-1]?=some y/\Q y (om H l (.lst xs.dropLast))
def Yu:MtM X "list.pop" Xt:=by
 intro R s σ H x S v U Q I J L h;obtain⟨l,Y,y,rfl,rfl,G,M,q⟩:=h;cases J;have B:=L.zero;subst B;obtain⟨z,t,n,r,hl,e⟩:=I.lstM G;obtain⟨u,O,P⟩:=r.get M;have E:t.toArray[t.toArray.size-1]?=some u:=by
  show t.toArray[t.length-1]?=some u;rw[←ao,←hl];exact O
 refine kA F.slot_list_pop ⟨_,e,rfl⟩ F.entry_list_pop (F.args_list_pop_1 _) (MeetsSeq.list_pop_last l t.toArray n u E (by rw[aq];lia)) ⟨e,?_⟩
 refine⟨y,_,I.lset (its':=t.dropLast) G e ?_ r.dropLast ?_,P,q⟩
 .show t.toArray.eraseIdxIfInBounds (t.toArray.size-1)=t.dropLast.toArray;rw[aq,List.eraseIdxIfInBounds_toArray,zS]
 .rw[List.length_dropLast];lia
def YW:R2:=λx y H Q=>∃l b xs s,x = .ref l/\y = .ref b/\H l=some (.lst xs)/\H b=some (.lst s)/\xs.length+s.length<=jo/\∀p,H p=none->Q (.ref p) (om H p (.lst (xs++s)))
def Kn:Dd X (kF .Add) YW:=by
 intro S s σ H x y v u Q I E G h;obtain⟨l,b,U,Y,rfl,rfl,J,L,hz,q⟩:=h;cases E;cases G;obtain⟨z,B,n,r,hl,e⟩:=I.lstM J;obtain⟨z2,t,n2,M,O,P⟩:=I.lstM L;refine PySem.P.add_list e P ?_ (by rw[aq,aq];lia)
 have R:B.toArray++t.toArray=(B++t).toArray:=by simp
 rw[R];exact⟨.ref _,_,I.lnew (t':=s.toks) (r.append M) (by rw[lAq];lia),rfl,q _ I.fresh⟩
end
section
variable {κ:Type}[DecidableEq κ]
def tu(kvs:List (κ×V))(k:κ):Option V:=(kvs.find? λkv=>decide (kv.1=k)).map (·.2)
def yJ(kvs:List (κ×V))(k:κ)(v:V):List (κ×V):=
 if (kvs.any λkv=>decide (kv.1=k))=true then kvs.map (λkv=>if kv.1=k then (kv.1,v)else kv)else kvs++[(k,v)]
def Ek{p:κ×V}{r:List (κ×V)}{k:κ}(e:p.1=k):tu (p::r) k=some p.2:=by simp[tu,cH,e]
def Eo{p:κ×V}{r:List (κ×V)}{k:κ}(e:¬ p.1=k):tu (p::r) k=tu r k:=by simp[tu,cH,e]
theorem JC(k:κ):∀kvs:List (κ×V),(kvs.any λkv=>decide (kv.1=k))=(tu kvs k).isSome
 | []=>rfl
 |p::r=>by
  rw[cX]
  by_cases e:p.1=k
  .simp only[Ek e,d0 e,eB,Option.isSome_some]
  .rw[Eo e,d4 e,fc];exact JC k r
def yW(kvs:List (κ×V))(k:κ)(v:V):(yJ kvs k v).length<=kvs.length+1:=by
 unfold yJ;split
 .rw[lMq];lia
 .rw[lAq,lCq,dW];lia
def yg.isSome_eq{o:Option V}{u:Υ}(r:yg o u):o.isSome=u.isSome:=by
 cases o with
 |none=>cases u with
  |none=>rfl
  |some _=>exact(show False from r).elim
 |some _=>cases u with
  |none=>exact(show False from r).elim
  |some _=>rfl
def KV.val{kvs:List (κ×V)}{vs:List (κ×Value)}(r:KV kvs vs)(k:κ):yg (tu kvs k) (jU vs k):=by
 unfold KV at r
 induction r with
 |nil=>exact True.intro
 | @cons p q G s h t B=>
  obtain⟨x,E⟩:=h
  by_cases e:p.1=k
  .have u:q.1=k:=x.symm.trans e;have b:jU (q::s) k=some q.2:=by simp[jU,cH,u]
   rw[Ek e,b];exact E
  .have u:¬ q.1=k:=λz=>e (x.trans z)
   have b:jU (q::s) k=jU s k:=by simp[jU,cH,u]
   rw[Eo e,b];exact B
theorem KV.any{kvs:List (κ×V)}{vs:List (κ×Value)}(r:KV kvs vs)(k:κ):(kvs.any λkv=>decide (kv.1=k))=vs.any λkv=>decide (kv.1=k):=by
 unfold KV at r
 induction r with
 |nil=>rfl
 |cons h t s=>rw[cX,cX,s,h.1]
def KV.repl{kvs:List (κ×V)}{vs:List (κ×Value)}(r:KV kvs vs)(k:κ){y:V}{u:Value}(x:oC y u) :
  KV (kvs.map λkv=>if kv.1=k then (kv.1,y)else kv) (vs.map λkv=>if kv.1=k then (kv.1,u)else kv):=by
 unfold KV at r ⊢
 induction r with
 |nil=>exact .nil
 | @cons p q G H h t B=>
  rw[ai,ai];refine .cons ?_ B;obtain⟨s,E⟩:=h
  by_cases e:p.1=k
  .rw[oa e,oa (s.symm.trans e)];exact⟨s,x⟩
  .rw[nY e,nY (λz=>e (s.trans z))];exact⟨s,E⟩
def KV.put{kvs:List (κ×V)}{vs:List (κ×Value)}(r:KV kvs vs)(k:κ){y:V}{u:Value}(s:oC y u):KV (yJ kvs k y) (stored vs k u):=by
 unfold yJ stored;rw[r.any k]
 by_cases e:(vs.any λkv=>decide (kv.1=k))=true
 .rw[oa e,oa e];exact r.repl k s
 .rw[nY e,nY e];exact Paired.snoc r ⟨rfl,s⟩
theorem KV.length{kvs:List (κ×V)}{vs:List (κ×Value)}(r:KV kvs vs):kvs.length=vs.length:=Paired.length r
end
def EG{P:jq}{w:ju}{k:nT}{u:Value}(r:oC (kV k) u):(oW P w).is k u=true:=by
 cases k with
 |inl i=>obtain⟨t,e⟩:=(show ∃t,u=fq i t from r);subst e;exact JL P w i t
 |inr x=>obtain⟨t,e⟩:=(show ∃t,u=ip x t from r);subst e;exact Jx P w x t
theorem FI{P:jq}{w:ju}:∀{ks:List nT}{us:Ξ},ot (ks.map kV) us->ItemsAre (oW P w) ks us
 | [],_,r=>by rw[cj]at r;cases r;exact .nil
 |k::ks,_,r=>by
  rw[ai]at r;cases r with
  |cons h t=>exact .cons (EG h) (FI t)
abbrev KT(H:Hp):List (List nT×V)->List (List nT×Addr×Value)->Prop:=Paired λp q=>p.1=q.1/\H q.2.1=some (.tup (p.1.map kV))/\oC p.2 q.2.2
def KT.val{H:Hp}{kvs:List (List nT×V)}{xs:List (List nT×Addr×Value)}(r:KT H kvs xs)(k:List nT):yg (tu kvs k) ((lu xs k).map (·.2)):=by
 induction r with
 |nil=>exact True.intro
 | @cons p q G s h t B=>
  obtain⟨x,_,E⟩:=h
  by_cases e:p.1=k
  .have u:q.1=k:=x.symm.trans e;have b:lu (q::s) k=some q.2:=by simp[lu,cH,u]
   rw[Ek e,b];exact E
  .have u:¬ q.1=k:=λz=>e (x.trans z)
   have b:lu (q::s) k=lu s k:=by simp[lu,cH,u]
   rw[Eo e,b];exact B
def KT.repl{H:Hp}{kvs:List (List nT×V)}{xs:List (List nT×Addr×Value)}(r:KT H kvs xs)(k:List nT){y:V}{u:Value}(B:oC y u) :
  KT H (kvs.map λkv=>if kv.1=k then (kv.1,y)else kv) (xs.map (putAt k u)):=by
 induction r with
 |nil=>exact .nil
 | @cons p q I J h t E=>
  rw[ai,ai];refine .cons ?_ E;obtain⟨s,x,G⟩:=h;unfold putAt
  by_cases e:p.1=k
  .rw[oa e,oa (s.symm.trans e)];exact⟨s,x,B⟩
  .rw[nY e,nY (λz=>e (s.trans z))];exact⟨s,x,G⟩
def KT.put{H:Hp}{kvs:List (List nT×V)}{xs:List (List nT×Addr×Value)}(r:KT H kvs xs)(k:List nT){b:Addr}{y:V}{u:Value}(hb:H b=some (.tup (k.map kV)))(s:oC y u) :
  KT H (yJ kvs k y) (storedH xs k b u):=by
 have e:(kvs.any λkv=>decide (kv.1=k))=(lu xs k).isSome:=by
  rw[JC,(r.val k).isSome_eq,dA]
 unfold yJ storedH;rw[e]
 by_cases q:(lu xs k).isSome=true
 .rw[oa q,oa q];exact r.repl k s
 .rw[nY q,nY q];exact Paired.snoc r ⟨rfl,hb,s⟩
noncomputable def KT.keeps{H s:Hp}{kvs:List (List nT×V)}{xs:List (List nT×Addr×Value)}(r:KT H kvs xs)(ht:∀b ys,H b=some (.tup ys)->s b=some (.tup ys)):KT s kvs xs:=
 Paired.mapP r λ_ _ z=>⟨z.1,ht _ _ z.2.1,z.2.2⟩
section
variable {P:jq}{w:ju}{H:Hp}{h:Heap}{a:Addr}
def WE{u:HO}(ok:Ac P w H h)(e:Rd H a u):pR P w H h a u:=e.ok ok
def Gb{kvs:List (nT×V)}(ok:Ac P w H h)(e:Rd H a (.dK kvs)):kvs.length<=jo/\(a == jO)=false/\∃vs,KV kvs vs/\h.DictOf (oW P w) a vs:=
 show pR P w H h a (.dK kvs)from WE ok e
def SG{kvs:List (nT×V)}(ok:Ac P w H h)(e:H a=some (.dK kvs)):kvs.length<=jo/\(a == jO)=false/\∃vs,KV kvs vs/\h.DictOf (oW P w) a vs:=Gb ok (.inl e)
def D3{ks:List nT}(ok:Ac P w H h)(e:H a=some (.tup (ks.map kV))):(lj (oW P w)).is h ks a:=by
 obtain⟨_,s,r,o,t,u,n,x⟩:=(show pR P w H h a (.tup (ks.map kV))from ok a _ e)
 exact⟨o,s.toArray,n,t,u,x,by simpa using FI r⟩
def Gg{kvs:List (List nT×V)}(ok:Ac P w H h)(e:Rd H a (.dT kvs)):kvs.length<=jo/\(a == jO)=false /\
  ∃xs,KT H kvs xs/\h.DictOfH (lj (oW P w)) a xs:=by
 obtain⟨z,y,xs,r,o,B,E,G,I,J,L,M⟩:=(show pR P w H h a (.dT kvs)from WE ok e)
 refine⟨z,y,xs,r,o,B,E,G,I,J,L,λx s=>?_,M⟩
 have all:∀{l:List (List nT×V)}{m:List (List nT×Addr×Value)},KT H l m->∀x∈m,(lj (oW P w)).is h x.1 x.2.1:=by
  intro l m q
  induction q with
  |nil=>intro x s;exact nomatch s
  | @cons p q Q R u t O=>
   intro x s;rcases ag.mp s with e|s
   .subst e;exact D3 ok (by rw[←u.1];exact u.2.1)
   .exact O x s
 exact all r x s
def aa9{kvs:List (List nT×V)}(ok:Ac P w H h)(e:H a=some (.dT kvs)):kvs.length<=jo/\(a == jO)=false /\
  ∃xs,KT H kvs xs/\h.DictOfH (lj (oW P w)) a xs:=Gg ok (.inl e)
end
def BN(H:Hp)(a:Addr)(y:V)(r:Option V):Prop:=
 (∃kvs k,Rd H a (.dK kvs)/\y=kV k/\r=tu kvs k)∨∃kvs k b,Rd H a (.dT kvs)/\y = .ref b/\H b=some (.tup (k.map kV))/\r=tu kvs k
def Tf(H:Hp)(a:Addr)(y v:V)(s:Hp):Prop:=
 (∃kvs k,H a=some (.dK kvs)/\y=kV k/\kvs.length<jo/\s=om H a (.dK (yJ kvs k v))) ∨
 ∃kvs k b,H a=some (.dT kvs)/\y = .ref b/\H b=some (.tup (k.map kV))/\kvs.length<jo/\s=om H a (.dT (yJ kvs k v))
theorem BN.k{H:Hp}{a:Addr}{kvs:List (nT×V)}{k:nT}(e:H a=some (.dK kvs)):BN H a (kV k) (tu kvs k):=.inl ⟨kvs,k,.inl e,rfl,rfl⟩
theorem Tf.k{H:Hp}{a:Addr}{kvs:List (nT×V)}{k:nT}{v:V}(e:H a=some (.dK kvs))(hl:kvs.length<jo):Tf H a (kV k) v (om H a (.dK (yJ kvs k v))):=.inl ⟨kvs,k,e,rfl,hl,rfl⟩
section
variable {X:Cx}{nu:Φ}{σ:St}{H:Hp}{s:Shared}{a:Addr}{y v:V}{u r:Value}{o:Option V}{A:Around}{E:Ψ}
def Inv.big(I:Inv X nu σ H s):jO<s.heap.objs.size:=by
 have h:jr<s.heap.objs.size:=(I.mod.glob.keeps I.bk).lt;exact fu (by decide) h
def O4{Q:Ψ}(P:A.units+1<jF)(I:Inv X nu σ H s)(g:BN H a y (some v))(M:oC y u)(h:∀B O,Inv X nu σ H O->oC v B->Q B O) :
  jn (jk X.prog X.w) A (lE (.ref a) u) Q E s:=by
 rcases g with⟨G,k,e,J,l⟩|⟨G,k,b,e,J,R,l⟩
 .subst J;obtain⟨z,hd,S,t,dd⟩:=Gb I.hok e;obtain⟨B,hw,x⟩:=yg.some_of (v:=v) (o:=jU S k) (by rw[l];exact t.val k)
  exact wpAny_getItem_of (EG M) dd.mapOf hw (h B _ (I.tok _) x)
 .subst J;cases(show u=aR b from M)
  obtain⟨z,hd,U,t,dd⟩:=Gg I.hok e;obtain⟨B,hw,x⟩:=yg.some_of (v:=v) (o:=(lu U k).map (·.2)) (by rw[l];exact t.val k)
  obtain⟨p,Y,L⟩:=oMq.mp hw;refine wpAny_getItem_heap (ku P) (D3 I.hok R) dd Y ?_;rw[L];exact h B _ (I.tok _) x
def ab8{Q:Ψ}(L:A.units+1<jF)(I:Inv X nu σ H s)(g:BN H a y o)(G:oC y u)(h:∀J,Inv X nu σ H J->Q (.bool o.isSome) J) :
  jn (jk X.prog X.w) A (jA .In u (.ref a)) Q E s:=by
 rcases g with⟨x,k,e,B,l⟩|⟨x,k,b,e,B,M,l⟩
 .subst B;obtain⟨z,hd,O,t,dd⟩:=Gb I.hok e;refine wpAny_in_of (EG G) hd dd.mapOf ?_;rw[← (t.val k).isSome_eq,←l];exact h _ (I.tok _)
 .subst B;cases(show u=aR b from G)
  obtain⟨z,hd,P,t,dd⟩:=Gg I.hok e;refine wpAny_in_heap (ku L) (D3 I.hok M) hd dd ?_;have q:=(t.val k).isSome_eq;rw[dA]at q;rw[←q,←l];exact h _ (I.tok _)
def Ui{Q:Ψ}(L:A.units+1<jF)(I:Inv X nu σ H s)(g:BN H a y o)(G:oC y u)(h:∀J,Inv X nu σ H J->Q (.bool (!o.isSome)) J) :
  jn (jk X.prog X.w) A (jA .NotIn u (.ref a)) Q E s:=by
 rcases g with⟨x,k,e,B,l⟩|⟨x,k,b,e,B,M,l⟩
 .subst B;obtain⟨z,hd,O,t,dd⟩:=Gb I.hok e;refine wpAny_notIn_of (EG G) hd dd.mapOf ?_;rw[← (t.val k).isSome_eq,←l];exact h _ (I.tok _)
 .subst B;cases(show u=aR b from G)
  obtain⟨z,hd,P,t,dd⟩:=Gg I.hok e;refine wpAny_notIn_heap (ku L) (D3 I.hok M) hd dd ?_;have q:=(t.val k).isSome_eq;rw[dA]at q;rw[←q,←l];exact h _ (I.tok _)
def CW{h':Heap}{t':Nat}{t:HO}(I:Inv X nu σ H s)(mu:Mut (H a))(B:bQ a s.heap h')(G:∃q,h'.get? a=some q)(new:pR X.prog X.w (om H a t) h' a t) :
  Inv X nu σ (om H a t) { s with heap:=h',toks:=t' }:=
 I.write (x:=a) (e:=a) mu (.inl rfl) (λb q hb z=>(B.2 b hb).trans z) G new
def KF{P:jq}{w:ju}{x:Hp}{h':Heap}{kvs:List (nT×V)}{vs:List (nT×Value)}(z:kvs.length<=jo)(hd:(a == jO)=false)(t:KV kvs vs)(dd:h'.DictOf (oW P w) a vs) :
  pR P w x h' a (.dK kvs):=⟨z,hd,vs,t,dd⟩
def N3{P:Hp}{Q:Unit->Shared->Prop}(hu:A.units+1<jF)(I:Inv X nu σ H s)(g:Tf H a y v P)(R:oC y u)(S:oC v r)(h:∀U,Inv X nu σ P U->Q () U) :
  jn (jk X.prog X.w) A (setItem (.ref a) u r) Q E s:=by
 rcases g with⟨t,k,e,J,l,L⟩|⟨t,k,b,e,J,Y,l,L⟩
 .subst J L;obtain⟨z,hd,vs,x,dd⟩:=SG I.hok e;have M:vs.length<=jo:=by rw[←x.length];exact z
  have hl:(yJ t k v).length<=jo:=by have:=yW t k v;lia
  refine wpAny_setItem_pairs (hsz:=M) (EG R) dd λh' B O=>h _ ?_
  have he:∃q,h'.get? a=some q:=let ⟨q,_,_,G,_⟩:=B;⟨q,G⟩
  exact CW I (by rw[e];exact True.intro) O he (KF hl hd (x.put k S) B)
 .subst J L;cases(show u=aR b from R)
  obtain⟨z,hd,xs,x,dd⟩:=aa9 I.hok e;have M:xs.length<=jo:=by rw[←Paired.length x];exact z
  have hl:(yJ t k v).length<=jo:=by have:=yW t k v;lia
  refine wpAny_setItem_heap (hsz:=M) (ku hu) (D3 I.hok Y) dd λh' B O=>h _ ?_
  obtain⟨q,es,ep,G,h2,h3,h4,_,h5⟩:=B;refine CW I (by rw[e];exact True.intro) O ⟨q,G⟩ ⟨hl,hd,_,(x.put k Y S).keeps λc ys ec=>?_,q,es,ep,G,h2,h3,h4,h5⟩
  rw[nC (ZW ec e (λz=>nomatch z))]
  exact ec
end
def aa7(i:Expr):Prop:=∀s t,lz i false s t=operate [s,t] (lE s t)
noncomputable def U4{prog:jq}{w:ju}{A:Around}{E:Ψ}{s:Shared}{env:Env}{u t:Expr}{pos:Pos}{T id:String}{Q:Ψ}
  (hl:typeLookup (.type T) "__getitem__" = pure (some (.builtin id))) (M:aa7 t)
  (h:jn (jk prog w) A (eval u env) (λo G=>jn (jk prog w) A (eval t env) (λi z=>z.TypeIs o T/\jn (jk prog w) A (lE o i) Q E z) E G) E s) :
  jn (jk prog w) A (eval (.Subscript u t pos) env) Q E s:=by
 refine Subscript_ (jB h (λo G I=>jB I (λi z B=>?_) λ_ _ x=>x) λ_ _ x=>x)
 obtain⟨L,B⟩:=B;unfold lN;refine ji ?_;rw[getitemInPython_of_ne L.not_modules];refine ji (wpAny_specialOf L hl ?_);have fin:jn (jk prog w) A (lz t false o i) (λr H=>jn (jk prog w) A (letTemporaryGo u o r >>= λ_=>pure r) Q E H) E z:=by
  rw[M o i];exact wpAny_operating (jB B (λr H J=>ji (wpAny_letTemporaryGo (jm J))) λ_ _ x=>x)
 first
  |exact jm (ji fin)
  |exact ji (jm (ji fin))
  |exact ji fin
def Jz{X:Cx}{u:Φ}{σ:St}{H:Hp}{s:Shared}{a:Addr}{y:V}{o:Option V}(I:Inv X u σ H s)(g:BN H a y o):s.TypeIs (.ref a) "dict" := by
 rcases g with⟨t,k,e,_,_⟩|⟨t,k,b,e,_,_,_⟩
 .obtain⟨_,_,x,_,dd⟩:=Gb I.hok e;exact dd.typeIs
 .obtain⟨_,_,z,_,dd⟩:=Gg I.hok e;exact dd.typeIs
noncomputable def Rz(t ty:TE):TE:=λσ H Q=>t σ H λx u=>ty σ u λy s=>∃a v,x = .ref a/\BN s a y (some v)/\Q v s
noncomputable def Yo(ty t:TE):TE:=λσ H Q=>ty σ H λy u=>t σ u λx s=>∃a o,x = .ref a/\BN s a y o/\Q (.bl o.isSome) s
noncomputable def GA(ty t:TE):TE:=λσ H Q=>ty σ H λy u=>t σ u λx s=>∃a o,x = .ref a/\BN s a y o/\Q (.bl (!o.isSome)) s
def WJ(s ty t:TE):TS:=λD σ H=>t σ H λv u=>s σ u λx z=>ty σ z λy B=>∃a H4,x = .ref a/\Tf B a y v H4/\D.nx σ H4
section
variable {X:Cx}{o i e value:Expr}{pos pos' tpos:Pos}{td ty tv:TE}
def C9(E:X.A.units+1<jF)(G:PE X o td)(hi:PE X i ty)(J:aa7 i):PE X (.Subscript o i pos) (Rz td ty):=by
 intro z s σ H Q I h;refine U4 PySem.F.slot_dict_getitem.lookup J (thn (G z s σ H _ I h) λu L ⟨x,M,O,P,R⟩=>thn (hi z L σ M _ O R) λiv s2 ⟨y,S,B,U,a,v,ex,g,Y⟩=>?_)
 subst ex;obtain rfl:u=aR a:=P;exact⟨Jz B g,O4 E B g U λw' s3 I3 t=>⟨v,S,I3,t,Y⟩⟩
def YZ(z:X.A.units+1<jF)(hi:PE X i ty)(B:PE X o td):PC X .In i o (Yo ty td):=by
 intro t s σ H Q I h;refine thn (hi t s σ H _ I h) λiv E ⟨y,G,J,L,M⟩=>thn (B t E σ G _ J M) λu s2 ⟨x,O,P,R,a,S,ex,g,U⟩=>?_
 subst ex;obtain rfl:u=aR a:=R;exact ab8 z P g L λs3 Y=>⟨.bl S.isSome,O,Y,rfl,U⟩
def FF(z:X.A.units+1<jF)(hi:PE X i ty)(B:PE X o td):PC X .NotIn i o (GA ty td):=by
 intro t s σ H Q I h;refine thn (hi t s σ H _ I h) λiv E ⟨y,G,J,L,M⟩=>thn (B t E σ G _ J M) λu s2 ⟨x,O,P,R,a,S,ex,g,U⟩=>?_
 subst ex;obtain rfl:u=aR a:=R;exact Ui z P g L λs3 Y=>⟨.bl (!S.isSome),O,Y,rfl,U⟩
def G5(z:X.A.units+1<jF)(B:PE X o td)(hi:PE X i ty)(E:PE X value tv)(G:kM value (some (.Subscript o i pos')) pos.line X.env=pure false) :
  PS X (.Assign [.Subscript o i pos'] value pos) (WJ td ty tv):=by
 intro t s σ H D I h;refine wpAny_Assign_Subscript (thn (E t s σ H _ I h) λr J ⟨v,L,M,O,P⟩=>thn (B t J σ L _ M P) λu Q ⟨x,R,S,U,Y⟩=>thn (hi t Q σ R _ S Y) λiv s3 ⟨y,H3,I3,ry,a,H4,ex,g,q3⟩=>?_) G
 subst ex;obtain rfl:u=aR a:=U;exact N3 z I3 g ry O λs4 I4=>⟨σ,H4,I4,q3⟩
end
def IF{P:jq}{w:ju}{H:Hp}(h:Heap)(hb:jO<h.objs.size):pR P w H (h.push { cls:=.type "dict", data:=.dict #[] }) h.objs.size (.dK []):=
 ⟨aJ _,beq_eq_false_iff_ne.mpr (Ne.symm (aA hb)),[],.nil,fL.new h⟩
def SN:TE:=λ_ H Q=>∀p,H p=none->Q (.ref p) (om H p (.dK []))
section
variable {X:Cx}{pos:Pos}
def AN:PE X (.Dict [] [] pos) SN:=λt s σ H Q I h=>
 wpAny_Dict_empty ⟨.ref s.heap.objs.size,_,I.laid (a:=s.heap.objs.size) (o:=.dK []) (t':=s.toks) (λ_ _ q=>af _ q) (aa _) (IF s.heap I.big),rfl,h _ (I.hok.fresh (aa _))⟩
end
def LP:List (TE×TE)->St->Hp->(List (V×V)->Hp->Prop)->Prop
 | [],_,H,Q=>Q [] H
 | (s,t)::r,σ,H,Q=>s σ H λx u=>t σ u λy z=>LP r σ z λps B=>Q ((x,y)::ps) B
abbrev VV:List (V×V)->List (Value×Value)->Prop:=Paired λp q=>oC p.1 q.1/\oC p.2 q.2
def PPs(X:Cx)(pos:Pos)(keys:List (Option Expr))(t:List Expr)(u:List (TE×TE)):Prop:=
 ∀(x:Φ) (s:Shared) (σ:St) (H:Hp) (Q:List (V×V)->Hp->Prop),Inv X x σ H s->LP u σ H Q ->
  jn (jk X.prog X.w) X.A (evalPairs (pairTrees keys t X.env pos)) (λvs B=>∃ps z,Inv X x σ z B/\VV ps vs/\Q ps z) X.xe s
def UE{X:Cx}{pos:Pos}:PPs X pos [] [] []:=λt s σ H Q I h=>pairTrees_nil_walk ⟨[],H,I,.nil,h⟩
def Qn{X:Cx}{pos:Pos}{k v:Expr}{ks:List (Option Expr)}{vs:List Expr}{E G:TE}{t:List (TE×TE)}(hk:PE X k E)(J:PE X v G)(hr:PPs X pos ks vs t) :
  PPs X pos (some k::ks) (v::vs) ((E,G)::t):=λz s σ H Q I h=>
 pairTrees_cons_walk (thn (hk z s σ H _ I h) λu L ⟨x,M,O,P,R⟩=>thn (J z L σ M _ O R) λw2 S ⟨y,U,Y,ry,q2⟩=>
  thn (hr z S σ U _ Y q2) λws s3 ⟨ps,H3,I3,B,q3⟩=>⟨(x,y)::ps,H3,I3,.cons ⟨P,ry⟩ B,q3⟩)
def BW(kvs more:List (nT×V)):List (nT×V):=more.foldl (λs kv=>yJ s kv.1 kv.2) kvs
def KV.merge:∀{more:List (nT×V)}{rs:List (nT×Value)}{kvs:List (nT×V)}{vs:List (nT×Value)},KV more rs->KV kvs vs->KV (BW kvs more) (merged vs rs):=by
 intro more rs kvs vs r;unfold KV at r
 induction r generalizing kvs vs with
 |nil=>intro q;exact q
 | @cons p q x z h t s=>
  intro u;have e:KV (yJ kvs p.1 p.2) (stored vs q.1 q.2):=by
   have:=u.put p.1 h.2;rw[←h.1];exact this
  exact s e
theorem zI:∀(more kvs:List (nT×V)),(BW kvs more).length<=kvs.length+more.length
 | [],kvs=>by show kvs.length<=kvs.length+0;lia
 |p::r,kvs=>by
  have s:=zI r (yJ kvs p.1 p.2);have t:=yW kvs p.1 p.2;show(BW (yJ kvs p.1 p.2) r).length<=_;rw[lCq];lia
theorem D2{P:jq}{w:ju}:∀{kvs:List (nT×V)}{ws:List (Value×Value)},VV (kvs.map λkv=>(kV kv.1,kv.2)) ws->∃rs,Carries (oW P w) ws rs/\KV kvs rs
 | [],_,r=>by rw[cj]at r;cases r;exact⟨[],True.intro,.nil⟩
 |p::kvs,_,r=>by
  rw[ai]at r;cases r with
  | @cons a b s bs h t=>
   obtain⟨rs,c,q⟩:=D2 (P:=P) (w:=w) t;obtain⟨b1,b2⟩:=b;exact⟨(p.1,b2)::rs,⟨EG h.1,rfl,c⟩,.cons ⟨rfl,h.2⟩ q⟩
def W1(s:List (TE×TE)):TE:=λσ H Q=>∀p,H p=none->LP s σ (om H p (.dK [])) λps t=>t p=some (.dK [])/\∃kvs:List (nT×V),ps=kvs.map (λkv=>(kV kv.1,kv.2))/\kvs.length<=15/\Q (.ref p) (om t p (.dK (BW [] kvs)))
def Uw{X:Cx}{pos:Pos}{keys:List (Option Expr)}{t:List Expr}{u:List (TE×TE)}(h:PPs X pos keys t u)(x:keys.all (·.isSome)=true)(hl:keys.length=t.length)(M:keys≠[])
  (G:keys.length<=15):PE X (.Dict keys t pos) (W1 u):=by
 intro O s σ H Q I q;have hn:=I.hok.fresh (aa s.heap.objs.size);have R:=I.laid (a:=s.heap.objs.size) (o:=.dK []) (h':=s.heap.push { cls:=.type "dict", data:=.dict #[] }) (t':=s.toks) (λ_ _ q=>af _ q) (aa _) (IF s.heap I.big)
 refine wpAny_Dict_walk (knd:=oW X.prog X.w) x hl M G (thn (h O _ σ _ _ R (q _ hn)) λws s2 ⟨ps,H2,L,J,e,B,S,lk,U⟩=>?_)
 subst S;obtain⟨Y,c,rk⟩:=D2 (P:=X.prog) (w:=X.w) J;obtain⟨z,hd,vs0,r0,dd⟩:=SG L.hok e;cases r0;refine⟨Y,c,dd,λh' E hs=>⟨.ref s.heap.objs.size,_,?_,rfl,U⟩⟩
 have hz:(BW [] B).length<=jo:=by
  have h1:=zI B [];rw[dW]at h1;rw[jG];lia
 have he:∃q,h'.get? s.heap.objs.size=some q:=let ⟨q,_,_,hq,_⟩:=E;⟨q,hq⟩
 exact CW L (by rw[e];exact True.intro) hs he (KF hz hd (rk.merge .nil) E)
structure M2 (X:Cx)(o:Expr)(m:Str)(apos:Pos)(e f:Expr)(cpos:Pos):Prop where
 base:kj o m X.env (eval o X.env)=eval o X.env
 few:((jL cpos (jt [e,f] X.env)).all (λx=>!x.1) && (backToKw cpos (lB [] X.env)).all (λx=>x.1.isSome)
  && decide (([e,f]:List Expr).length+([]:List Keyword).length+(if ([]:List Keyword).isEmpty then 0 else 1)<30))=true
 line:(apos.endLine == cpos.line)=true
 trees:jL cpos (jt [e,f] X.env)=[(false,eval e X.env),(false,eval f X.env)]
def IsD(H:Hp)(a:Addr):Prop:=(∃kvs,Rd H a (.dK kvs))∨∃kvs,Rd H a (.dT kvs)
def Ta{X:Cx}{B:Φ}{σ:St}{H:Hp}{s:Shared}{a:Addr}(I:Inv X B σ H s)(d:IsD H a) :
  s.TypeIs (.ref a) "dict" /\ (∀b,aR a = .ref b->∃t,s.heap.get? b=some t/\t.dict=none)/\(a == jO)=false:=by
 rcases d with⟨u,e⟩|⟨u,e⟩
 .obtain⟨_,hd,E,_,dd⟩:=Gb I.hok e;refine⟨dd.typeIs,λb q=>?_,hd⟩
  cases q;obtain⟨t,_,_,x,z,_⟩:=dd;exact⟨t,x,z.2.1⟩
 .obtain⟨_,hd,G,_,dd⟩:=Gg I.hok e;refine⟨dd.typeIs,λb q=>?_,hd⟩
  cases q;obtain⟨t,_,_,x,z,_⟩:=dd;exact⟨t,x,z.2.1⟩
end L2
namespace Att
open PySem PySem.W PySem.Calls PyProof.Rows
def CM{P:Params}{h:Heap}:∀(ns:Ϝ) (vs:Ξ),WellAll P h vs (ns.map WData.int)->jz vs ns:=by
 intro ns
 induction ns with
 |nil=>
  intro vs w;rw[cj]at w;cases w;exact .nil
 |cons n ns s=>
  intro vs w;rw[ai]at w;cases w with
  |cons a b=>
   cases a;exact .cons _ _ (s _ b)
def O7{l:OpenLaw}{n:Nat}(hn:l.most=some n){P:Params}{h:Heap}{args:List WData}{s:Ξ}
  (t:l.row.toRowW.claim.pre args=true) (E:WellAll P h s args) :
  ∃a vs ns,s=[aR a]/\args=[WData.list (ns.map WData.int)]/\h.get? a=some { cls:=.type "list", data:=.seq vs.toArray }/\jz vs ns/\ns.length<=n:=by
 have G:WShape.hasAll [] args [.list .int]=true:=(pre_splitW t).1;have H:l.pre.holds [] { args:=args }=true:=(pre_splitW t).2;obtain⟨d,r,rfl,I,J⟩:=hasAllW_cons G;obtain rfl:=hasAllW_nil J;obtain⟨S,rfl,L⟩:=hasW_list I;obtain⟨ns,rfl⟩:=items_int L;have u:ns.length<=n:=by
  unfold OpenLaw.pre at H;have z:(WTm.not (.lt (.lit (.int (n:Int))) (.len (.arg 0)))).holds [] { args:=[.list (ns.map .int)] }=true:=by
   have z:=(holds_andW H).1;rw[hn]at z;exact z
  have B:=condW_of z (w_not (w_lt w_lit (w_len_list (w_arg rfl))));rw[lMq]at B;refine iy λq=>?_
  have M:(n:Int)<((ns.length:Nat):Int):=by lia
  first
   | (rw[d0 M]at B;exact absurd B (by decide))
   | (simp at B;lia)
 cases E with
 |cons O Q=>
  cases Q;cases O with
  |list R x=>exact⟨_,_,ns,rfl,rfl,R,CM ns _ x,u⟩
def O9(l:OpenLaw)(args:List WData):l.row.toRowW.claim.post args (.bool true) args=true:=
 postW_of (r:=l.row.toRowW) (X:=(true == true))
  (show WShape.has [] (.bool true) .bool=true by first|rfl|decide|simp[WShape.has,WShape.arms,WShape.armsAll])
  (show(WTm.eq .res (.lit (.bool true))).value [] { args:=args,res:=some (.bool true),after:=args }=some (.bool (true == true))from w_eq_bool (w_res rfl) w_lit) rfl
def Iq{l:OpenLaw}{n:Nat}{q:jq}{loose:List Str}{Q:(Str->Υ)->Heap->Prop}{R:ju->Heap->Prop}{d:DefRec}
  (hn:l.most=some n) (J:d.params.defaults=[])
  (call:∀(w:ju) (s₀ s:Shared) (mg L:Str->Υ) (x:Addr) (o:Obj) (pm H t:Value) (a:Addr) (vs:Ξ) (ns:Ϝ),
   Ground q loose [] Q w s₀ mg L s.heap->R w s.heap ->
   s.heap.get? x=some o->o.data = .func (docDef d.name d.params d.body d.scope pm H t)->s.heap.CodeRec H d.name->mg d.name=some (.ref x) ->
   s.heap.get? a=some { cls:=.type "list", data:=.seq vs.toArray }->jz vs ns->ns.length<=n->s.gens=#[] ->
   kf (jk l.prog w) kU (.call (.ref x) ⟨[.ref a],[]⟩) (λr I=>r = .ok (.ret (.bool true))/\OldK s.heap I.heap/\I.os=s.os/\kG I.gens) s) :
  WalkO q loose Q R l.row.toRowW d [] (λf vs=>PySem.call f vs):=by
 intro w s₀ s mg L G Y x o pm H t dV kV ho hd M S O hg U X as z hlay hrd P hlo;obtain rfl:dV = .none:=Dflts.none S J;obtain rfl:kV = .none:=Dflts.noKw S;obtain⟨a,vs,ns,rfl,rfl,B,u,E⟩:=O7 hn z P;refine enter_call (kx (call w s₀ s mg L x o pm H t a vs ns G Y ho (fd_plain hd) M O B u E hg) λr I hq=>?_)
 obtain⟨rfl,h2,h3,h4⟩:=hq;exact⟨.inl ⟨.bool true,.bool true,[],rfl,λ_=>rfl,.bool true,O9 l _,λ_=>⟨aV.nil,λ_ hm=>(nomatch hm)⟩⟩,h2,h3,h4⟩
end Att
namespace L2
open PySem PySem.Spec PyProof.Rows
theorem vals_ints:∀{vs:Ξ}{ns:Ϝ},jz vs ns->ot (ns.map V.int) vs
 |_,_,.nil=>.nil
 |_,_,.cons n t h=>.cons ⟨t,rfl⟩ (vals_ints h)
def YX(H:Hp):Prop:=∀b,H b=none∨∃o xs,H b=some (.frz o (.lst xs))
def PR{P:jq}{w:ju}{K:Ζ}{mg X:Str->Υ}{CX:Qa}{k:Nat}{Y a:Addr}{fd:jx}{x:Str}{sp:Sp}{t:Shared}{vs:Ξ}{ns:Ϝ}
  (KX:K.In t.heap) (J:t.heap.Ns jr mg) (hb:t.heap.Ns builtinsNs X) (hbb:∀x:Str,x ≠ "__name__" -> X x=kz x) (L:t.heap.NoLimit) (hg:t.gens=#[])
  (ha:t.heap.get? a=some { cls:=.type "list", data:=.seq vs.toArray }) (hi:jz vs ns) (hl:ns.length<=jo) (hr:qV k kU)
  (F:∀base:Heap,K.In base->base.Ns jr mg->yG P w K mg base CX k Y fd [x] sp) (I:∀(s:Shared) (u:Value),lH s fd ⟨[u],[]⟩ [(x,u)])
  (hsp:∀H:Hp,YX H->qh K H a (ns.map V.int)->sp [.ref a] H (λv _=>v = .bl true) λ_ _ _=>False)
  (hCX:∀H e E,CX [] H t (λ_ _ _=>False) e E->False) :
  kf (jk P w) kU (.call (.ref Y) ⟨[.ref a],[]⟩) (λr E=>r = .ok (.ret (.bool true))/\OldK t.heap E.heap/\E.os=t.os/\kG E.gens) t:=by
 have rv:=vals_ints hi;have M:=hi.length;have core:∀H:Hp,YX H->qh K H a (ns.map V.int)->Ac P w H t.heap->(∀b,H b≠none->b=a)->(H a≠none->K.lookup a=none) ->
   kf (jk P w) kU (.call (.ref Y) ⟨[.ref a],[]⟩) (λr E=>r = .ok (.ret (.bool true))/\OldK t.heap E.heap/\E.os=t.os/\kG E.gens) t:=by
  intro H hO hS hok hA hK;have B:∀{b:Addr}{o:Obj},t.heap.get? b=some o->H b=none->(HH t.heap H).get? b=some o:=λe n=>Qh e n
  have noA:∀{b:Addr}{o:Obj}{O:Array DictEntry}{Q:Nat},t.heap.get? b=some o->o.data = .dict O Q->H b=none:=λ{b o O Q} e d=>by
   cases q:H b with
   |none=>rfl
   |some u=>
    have e':b=a:=hA b (by rw[q];simp)
    subst e';rw[ha]at e;cases e;have d':Data.seq vs.toArray _=Data.dict O Q:=d;cases d'
  have G:∀{b:Addr}{m:Str->Υ},t.heap.Ns b m->(HH t.heap H).Ns b m:=λ{b m} ⟨o,O,Q,e,d,r⟩=>⟨o,O,Q,B e (noA e d),d,r⟩
  have R:K.In (HH t.heap H):=λb o e=>B (KX b o e) (by
   cases q:H b with
   |none=>rfl
   |some u=>
    have e':b=a:=hA b (by rw[q];simp)
    subst e';rw[hK (by rw[q];simp)]at e;cases e)
  have hM:Mod K mg (HH t.heap H):=⟨R,G J,⟨X,G hb,hbb⟩,let ⟨mc,h1,h2⟩:=L;⟨mc,G h1,h2⟩⟩
  have e0:KZ P w K mg (HH t.heap H) kU [] t H:=⟨rfl,hM,λb o e=>Uc e,dD (Oe _ _),trivial,λb hb=>absurd (show b∈([]:Δ)from hb) (by simp),hok,.of_eq hg⟩
  refine kx ((F _ R (G J)).run kU [] t H ⟨[.ref a],[]⟩ [.ref a] [.ref a] _ _ hr e0 (I t (.ref a)) (.cons rfl .nil) (hsp H hO hS)) λr E h=>?_
  cases r with
  |error e=>exact(hCX H e E h).elim
  |ok fl=>
   cases fl with
   |next=>exact False.elim h
   |brk=>exact False.elim h
   |cont=>exact False.elim h
   |ret u=>
    obtain⟨v,H',os,bare,un,S,r',q⟩:=h;have q':v = .bl true:=q;subst q';obtain rfl:u=eS true:=r';refine⟨rfl,OldK.of_keep λb o e=>?_,os,bare⟩
    cases q:H b with
    |none=>exact un.keep b o e q (by intro z;exact absurd (show b∈([]:Δ)from z) (by simp)) (by simp)
    |some u=>
     rcases hO b with z|⟨ob,xs,z⟩
     .rw[q]at z;cases z
     .have z2:=un.frzs b ob _ z;obtain⟨e1,_⟩:=hok b _ z;obtain⟨e2,_⟩:=S b _ z2;rw[e]at e1;cases e1;exact e2
 cases hk:K.lookup a with
 |some o=>
  have e:=KX a o hk;rw[ha]at e;cases e;refine core (λ_=>none) (λ_=>.inl rfl) (.inr ⟨_,vs.toArray,_,hk,rfl,rfl,rfl,by rw[aq,M];exact hl,by simpa using rv⟩) (λb u z=>by have U:(none:Option HO)=some u:=z;cases U) (λb z=>absurd rfl z) λz=>absurd rfl z
 |none=>
  refine core (λb=>if b=a then some (.frz { cls:=.type "list", data:=.seq vs.toArray } (.lst (ns.map V.int)))else none) (λb=>?_) (.inl (.inr ⟨{ cls:=.type "list", data:=.seq vs.toArray },oa rfl⟩)) (λb u z=>?_) (λb z=>?_) λ_=>hk
  .by_cases hb:b=a
   .exact .inr ⟨_,_,oa hb⟩
   .exact .inl (nY hb)
  .by_cases hb:b=a
   .have U:=(oa hb).symm.trans z;cases U;subst hb;exact⟨ha,by rw[lMq];exact hl,vs,_,rv,ha⟩
   .have U:=(nY hb).symm.trans z;cases U
  .by_cases hb:b=a
   .exact hb
   .exact absurd (nY hb) z
def UJ{l:W.OpenLaw}{n k:Nat}{q:jq}{loose:List Str}{U:(Str->Υ)->Heap->Prop}{R:ju->Heap->Prop}{d:DefRec}{K:Params->Ζ}{CX:ju->Qa}{sp:ju->Sp}{x:Str}
  (hn:l.most=some n) (J:n<=jo) (L:d.params.defaults=[]) (hr:qV k kU)
  (X:∀(w:ju) (h:Heap),R w h->(K w.params).In h)
  (F:∀(w:ju) (mg:Str->Υ) (I:Addr) (h:Heap),(K w.params).In h->h.Ns jr mg->mg d.name=some (.ref I) ->
   ∃fd:jx,(∀(s:Shared) (u:Value),lH s fd ⟨[u],[]⟩ [(x,u)]) /\
    ∀base:Heap,(K w.params).In base->base.Ns jr mg->yG l.prog w (K w.params) mg base (CX w) k I fd [x] (sp w))
  (M:∀(w:ju) (H:Hp) (a:Addr) (ns:Ϝ),ns.length<=n->YX H->qh (K w.params) H a (ns.map V.int)->sp w [.ref a] H (λv _=>v = .bl true) λ_ _ _=>False)
  (O:∀(w:ju) (H:Hp) (s:Shared) (e:Value) (P:Shared),CX w [] H s (λ_ _ _=>False) e P->False) :
  W.WalkO q loose U R l.row.toRowW d [] (λf vs=>PySem.call f vs):=by
 refine Att.Iq hn L λw s₀ B mg mb I o pm cd doc a vs ns G Y ho hd hcd Q E z t hg=>?_
 have S:=X w _ Y;obtain⟨fd,hb,hF⟩:=F w mg I _ S G.T.g Q;exact PR S G.T.g G.T.b G.T.builtins G.T.nolimit hg E z (bq t J) hr hF hb (λH hO hS=>M w H a ns t hO hS) λH e P=>O w H B e P
def vP(s:Stmt):Arguments:=match s with
 | .FunctionDef _ a _ _ _ _ _ _ _ _=>a
 |_=>{ posonlyargs:=[],args:=[],vararg:=none,kwonlyargs:=[],kw_defaults:=[],kwarg:=none,defaults:=[] }
noncomputable def sZ(s:Stmt):List Stmt:=match s with
 | .FunctionDef _ _ b _ _ _ _ _ _ _=>b
 |_=>[]
noncomputable def nD(s:Stmt):jZ:=match s with
 | .FunctionDef _ _ _ _ _ _ t _ _ _=>t
 |_=>{ kind:=.function,names:=[],isGenerator:=false,isCoroutine:=false }
noncomputable abbrev S6:Qa:=λ_ _ _ _ _ _=>False
noncomputable abbrev E0:XK:=λ_ _ _=>False
def QW{X:Cx}:B6 S6 X E0:=λ_ _ _ _ _ _ _ h=>h.elim
structure Ru (K:Ζ)(x qual:Str)(st:Stmt)(f:Addr)(fd:jx):Prop where
 ex:∃(oc:Value) (od:Option Addr) (kV doc pm:Value) (an:Option Addr) (wt ct:Value) (osl:Array Υ),
  fd=W.fnOf x qual (vP st) (sZ st) (nD st) .none kV doc pm an wt ct/\K.lookup f=some ⟨oc,od,.func fd,osl⟩/\W.codeIn K wt qual=true
 kp:W.keepIn K (.ref f)=true
section
variable {P:jq}{w:ju}{K:Ζ}{mg:Str->Υ}{base:Heap}
def Ru.ok{x u:Str}{st:Stmt}{f:Addr}{fd:jx}{N ps:List Str}{k:Nat}{sp:Sp}(F:Ru K x u st f fd)(S:nM N ps (nD st))(len:∀vs H Q E,sp vs H Q E->vs.length=ps.length)
  (z:∀(B:Value) (A:Around) (outer:List Env) (s:Shared) (H:Hp) (vs:List V) (Q:VK) (E:XK),qV k (A.deeper (jY u (nD st) s.heap.objs.size f B))->sp vs H Q E ->
   ∃t,J9 (Io S6 P w K mg base N u (nD st) f B A outer s H E).nox (sZ st) t/\t { nx:=λ_ J=>Q .non J,rt:=Q } (start N vs) H):yG P w K mg base S6 (k+1) f fd ps sp:=by
 obtain⟨O,R,kV,L,pm,U,B,ct,M,rfl,lk,G⟩:=F.ex;refine abe lk G S len λA outer s H vs Q E hr I=>?_
 obtain⟨t,h,q⟩:=z B A outer s H vs Q E hr I;exact⟨t,h.nox,q⟩
def Ru.binds{x s:Str}{st:Stmt}{f:Addr}{fd:jx}{ps:List Str}(F:Ru K x s st f fd)
  (h:∀(kV t pm:Value) (u:Option Addr) (z ct:Value) (us:Ξ),us.length=ps.length->bindArgs (W.fnOf x s (vP st) (sZ st) (nD st) .none kV t pm u z ct) ⟨us,[]⟩=pure (ps.zip us)):uf K fd ps []:=by
 obtain⟨G,H,kV,t,pm,u,z,ct,B,rfl,lk,E⟩:=F.ex;exact .all (h kV t pm u z ct)
def Hv{x s:Str}{st:Stmt}{f:Addr}{E:Value}{G B:Option Addr}{u:Array Υ}{kV t pm z ct:Value}(l:K.lookup f=some ⟨E,G,.func (W.fnOf x s (vP st) (sZ st) (nD st) .none kV t pm B z ct),u⟩)
  (c:W.codeIn K z s=true) (k:W.keepIn K (.ref f)=true):Ru K x s st f (W.fnOf x s (vP st) (sZ st) (nD st) .none kV t pm B z ct):=⟨⟨E,G,kV,t,pm,B,z,ct,u,rfl,l,c⟩,k⟩
end
noncomputable def Er{A:Around}{k:Nat}(hr:qV k A):A.units+1<jF:=Nat.lt_of_le_of_lt (Nat.add_le_add_left (by decide:1<=64) _) hr.units
section
variable {X:Cx}
def pv(i:Nat){x:Str}{pos:Pos}(t:X.N[i]?=some x:=by rfl)(u:Vis X.env.scope x:=by trivial)(hd:(x == ("__debug__" : Str))=false:=by decide)
  (s:(x == ("__classdict__" : Str))=false:=by decide):PE X (.Name x pos) (wq i):=Xq t u hd s
end
def Il{A B:Prop}(h:B):if false=true then A else B:=by
 rw[nY ay];exact h
def IP{A B:Prop}(h:A):if true=true then A else B:=by
 rw[oa rfl];exact h
def ox(H s:Hp):Prop:=∀b o,H b=some o->s b=some o
noncomputable def ox.refl(H:Hp):ox H H:=λ_ _ h=>h
def ox.trans{H s t:Hp}(a:ox H s)(b:ox s t):ox H t:=λc o h=>b c o (a c o h)
def ox.free{H s:Hp}(e:ox H s){l:Addr}(h:s l=jd):H l=jd:=by
 cases q:H l with
 |none=>rfl
 |some o=>
  rw[e l o q]at h;cases h
noncomputable def ox.seq{K:Ζ}{H s:Hp}{a:Addr}{xs:List V}(e:ox H s)(h:qh K H a xs):qh K s a xs:=by
 rcases h with(h|⟨o,h⟩)|h
 .exact .inl (.inl (e _ _ h))
 .exact .inl (.inr ⟨o,e _ _ h⟩)
 .exact .inr h
end L2
namespace Mr
def cell(ns:Ϝ)(k:Nat):Int:=ns.getD k 0
def nV(ns:Ϝ):Nat->Nat
 |0=>0
 |k+1=>if ns.getD k 0<ns.getD (nV ns k) 0 then k else nV ns k
noncomputable def rot(ns:Ϝ)(i:Nat):Ϝ:=ns.drop i++ns.take i
def good(ns:Ϝ):Ϝ:=rot ns (nV ns ns.length)
theorem qW(ns:Ϝ):∀n,(0<n->nV ns n<n)/\(∀j,j<n->ns.getD (nV ns n) 0<=ns.getD j 0)/\(∀j,j<nV ns n->ns.getD (nV ns n) 0<ns.getD j 0)
 |0=>⟨λh=>absurd h (cm _),λj h=>absurd h (bW _),λj h=>absurd h (bW _)⟩
 |n+1=>by
  obtain⟨u,t,x⟩:=qW ns n;simp only[nV]
  by_cases c:ns.getD n 0<ns.getD (nV ns n) 0
  .rw[oa c];refine⟨λ_=>cL n,λj s=>?_,λj s=>?_⟩
   .rcases dZ (iq s)with q|q
    .have:=t j q;lia
    .subst q;exact iz _
   .have:=t j s;lia
  .rw[nY c];refine⟨λ_=>?_,λj s=>?_,x⟩
   .by_cases hn:0<n
    .exact bO (u hn)
    .have:n=0:=by lia
     subst this;exact cL 0
   .rcases dZ (iq s)with q|q
    .exact t j q
    .subst q;lia
def Eu(ns:Ϝ):nV ns ns.length<=ns.length:=by
 by_cases h:0<ns.length
 .exact bZ ((qW ns ns.length).1 h)
 .have:ns.length=0:=by lia
  rw[this];exact aa 0
def tZ{ns:Ϝ}{j:Nat}(h:j<ns.length):ns.getD j 0=ns[j]:=by
 rw[gDq,gEg h];rfl
def Cm{ns:Ϝ}{M:Int}(t:M∈ns)(hl:∀a,a∈ns->M<=a):ns.idxOf M=nV ns ns.length:=by
 have x:0<ns.length:=gD t;obtain⟨s,z,B⟩:=qW ns ns.length;have s:=s x;have hi:ns.idxOf M<ns.length:=fX.mpr t;have e:ns.getD (ns.idxOf M) 0=M:=by rw[tZ hi];exact hU hi
 have u:ns.getD (nV ns ns.length) 0=M:=by
  have E:=z _ hi;rw[e]at E;have G:=hl _ (by rw[tZ s];exact gRq s:ns.getD (nV ns ns.length) 0∈ns)
  lia
 rcases fP (ns.idxOf M) (nV ns ns.length)with q|q|q
 .have:=B _ q;lia
 .exact q
 .exfalso;have:=List.not_of_lt_findIdx (p:=(· == M)) (xs:=ns) (i:=nV ns ns.length) (by simpa[List.idxOf]using q)
  rw[tZ s]at u;simp[u]at this
def step(ns:Ϝ):Int:=if 0<cell ns 0 % 3 then cell ns 0 % 10 ^ 40+1 else 1
def Jm(ns:Ϝ):Int:=if 0<cell ns 1 % 3 then cell ns 1 % 10 ^ 40 else 0
def Az(ns:Ϝ)(k:Int):Int:=step ns*(((1+cell ns 1 / 3 % 66)*k+cell ns 0 / 3 % 67) % 67+1)+Jm ns
def yh(ns:Ϝ)(k:Int):Int:=if cell ns 1 % 5=4 then 10 ^ 60-Az ns k else Az ns k
def An{A B:Ϝ}{m:Int}(h:∀x,x∈A->m<x)(s:∀x,x∈B->m<=x):good (A++m::B)=m::B++A:=by
 have t:m∈A++m::B:=by simp
 have hl:∀a,a∈A++m::B->m<=a:=λa ha=>by
  rcases mAq.mp ha with q|q
  .exact fv (h a q)
  .rcases ag.mp q with rfl|q
   .exact iz _
   .exact s a q
 have e:=Cm t hl;have u:(A++m::B).idxOf m=A.length:=by
  rw[List.idxOf_append,nY (λq=>absurd (h m q) (Int.lt_irrefl m)),List.idxOf_cons_self,aQ]
 unfold good rot;rw[←e,u,List.drop_left,List.take_left]
def JS{t:Ϝ}(z:t≠[])(hn:t.Nodup):∃A m B,t=A++m::B/\(∀x,x∈A->m<x)/\∀x,x∈B->m<x:=by
 have hl:0<t.length:=gQ.mpr z;obtain⟨s,E,G⟩:=qW t t.length;have s:=s hl;refine⟨t.take (nV t t.length),t[nV t t.length],t.drop (nV t t.length+1),?_,?_,?_⟩
 .rw[←aG s,aM]
 .intro x u;obtain⟨j,H,rfl⟩:=List.mem_take_iff_getElem.mp u;have:=G j (by lia)
  rw[tZ s,tZ (by lia)]at this
  exact this
 .intro x u;obtain⟨j,H,rfl⟩:=List.mem_drop_iff_getElem.mp u;have a:=E (nV t t.length+1+j) (by lia)
  rw[tZ s,tZ (by lia)]at a
  have ne:t[nV t t.length]≠t[nV t t.length+1+j]:=bu.mp hn _ _ s (by lia) (by lia)
  lia
def Jy{t:Ϝ}(hn:t.Nodup)(i:Nat):good (rot t i)=good t:=by
 by_cases z:t=[]
 .subst z;simp[rot]
 .obtain⟨A,m,B,rfl,s,u⟩:=JS z hn;rw[An s (λx q=>fv (u x q))]
  by_cases c:i<=A.length
  .have e:rot (A++m::B) i=A.drop i++m::(B++A.take i):=by
    unfold rot;rw[List.drop_append_of_le_length c,List.take_append_of_le_length c];simp
   rw[e,An (λx q=>s x (bx q)) (λx q=>?_)]
   .simp
   .rcases mAq.mp q with q|q
    .exact fv (u x q)
    .exact fv (s x (bC q))
  .have hi:A.length<i:=by lia
   obtain⟨j,rfl⟩:∃j,i=A.length+(j+1):=⟨i-A.length-1,by lia⟩
   have e:rot (A++m::B) (A.length+(j+1))=(B.drop j++A)++m::B.take j:=by
    unfold rot;rw[iA,List.take_append];simp[cM,bU]
   rw[e,An (λx q=>?_) (λx q=>fv (u x (bC q)))]
   .rw[bL,bL,←ak,aM]
   .rcases mAq.mp q with q|q
    .exact u x (bx q)
    .exact s x q
def rot_perm(t:Ϝ)(i:Nat):(rot t i).Perm t:=by
 unfold rot;exact bz.trans (by rw[aM])
def BB(t:Ϝ):(good t).Perm t:=rot_perm t _
def Hw{rs ts:Λ}(h:rs.Perm ts):rs.flatten.Perm ts.flatten:=by
 induction h with
 |nil=>exact .refl _
 |cons x _ s=>rw[fCq,fCq];exact bf.append (.refl x) s
 |swap x y l=>
  rw[fCq,fCq,fCq,fCq,←ak,←ak];exact bf.append bz (.refl _)
 |trans _ _ a b=>exact a.trans b
theorem wB{f:Ϝ->Ϝ}(s:∀r,(f r).Perm r):∀rs:Λ,(rs.map f).flatten.Perm rs.flatten
 | []=>.refl _
 |r::rs=>by
  rw[ai,fCq,fCq];exact bf.append (s r) (wB s rs)
structure zG (rs:Λ):Prop where
 ends:∀z,z∈rs.flatten->z≠0/\-(10 ^ 60)<z/\z<10 ^ 60
 once:rs.flatten.Nodup
 both:∀z,z∈rs.flatten->-z∈rs.flatten
 most:rs.flatten.length<=128
 rows:rs.length<=128
def zG.perm{rs ts:Λ}(h:zG rs)(p:ts.flatten.Perm rs.flatten)(l:ts.length=rs.length):zG ts where
 ends:=λz s=>h.ends z (p.mem_iff.mp s)
 once:=p.nodup_iff.mpr h.once
 both:=λz s=>p.mem_iff.mpr (h.both z (p.mem_iff.mp s))
 most:=by rw[p.length_eq];exact h.most
 rows:=by rw[l];exact h.rows
noncomputable def Oy{rs:Λ}{r:Ϝ}(h:rs.flatten.Nodup)(hr:r∈rs):r.Nodup:=aV.sublist (bE hr) h
noncomputable def EN{rs:Λ}{r:Ϝ}(hr:r∈rs):r.length<=rs.flatten.length:=(bE hr).length_le
noncomputable def JF(r:Ϝ)(i:Nat)(e:Int):Ϝ:=r.take i++[e]++r.drop i
def EA(r:Ϝ)(i:Nat)(e:Int):(JF r i e).Perm (e::r):=by
 unfold JF;rw[ak];refine cv.trans (bf.cons e ?_);show(r.take i++r.drop i).Perm r;rw[aM]
def G8(r:Ϝ)(i:Nat)(e:Int):(JF r i e).length=r.length+1:=(EA r i e).length_eq
theorem CH:∀{ts:Λ}{a:Nat}{e:Int}{r:Ϝ},a<ts.length->r.Perm (e::ts.getD a [])->(ts.set a r).flatten.Perm (e::ts.flatten)
 | [],_,_,_,h,_=>absurd h (bW _)
 |t::ts,0,e,r,_,hr=>by
  rw[dq,fCq,fCq,←bL];exact bf.append hr (.refl _)
 |t::ts,a+1,e,r,h,hr=>by
  rw[ee,fCq,fCq];have s:=CH (ts:=ts) (a:=a) (e:=e) (r:=r) (by simpa using h) (by simpa using hr)
  exact(bf.append (.refl t) s).trans cv
def L8(ts:Λ)(a:Nat)(f:Nat->Nat)(e:Int):Λ:=ts.set a (JF (ts.getD a []) (f (ts.getD a []).length) e)
def vJ(ts:Λ)(a:Nat)(f:Nat->Nat)(e:Int):(L8 ts a f e).length=ts.length:=lZq
def Gk{ts:Λ}{a:Nat}(f:Nat->Nat)(e:Int)(h:a<ts.length):(L8 ts a f e).flatten.Perm (e::ts.flatten):=CH h (EA _ _ _)
def ET(c m q:Int)(n:Nat):Nat:=(c*m % q % (n:Int)).toNat
def HC(c m q:Int){n:Nat}(h:0<n):ET c m q n<n:=by
 unfold ET;have s:=bK (c*m % q) (show(n:Int)≠0 by lia)
 have t:=bJ (c*m % q) (show(0:Int)<n by lia)
 lia
def sJ(ns:Ϝ)(k:Nat)(c:Int):Int:=yh ns k*(1-2*(c % 2))
def A3(ns:Ϝ)(n:Nat)(ts:Λ)(k:Nat)(c:Int):Λ:=
 L8 (L8 ts (ET c 48271 10007 n) (λl=>ET c 16807 10009 (l+1)) (sJ ns k c)) (ET c 69621 10037 n) (λl=>ET c 39373 10039 (l+1)) (-sJ ns k c)
def yx(ns:Ϝ)(n:Nat):Ϝ->Nat->Λ->Λ
 | [],_,ts=>ts
 |c::cs,k,ts=>yx ns n cs (k+1) (A3 ns n ts k c)
theorem FW(ns:Ϝ)(n:Nat)(c:Int):∀(cs:Ϝ) (k:Nat) (ts:Λ),yx ns n (cs++[c]) k ts=A3 ns n (yx ns n cs k ts) (k+cs.length) c
 | [],k,ts=>rfl
 |d::cs,k,ts=>by
  rw[bL,yx,FW ns n c cs (k+1),yx,lCq,dP,eC 1]
def AO(ns:Ϝ)(n:Nat)(ts:Λ)(k:Nat)(c:Int):(A3 ns n ts k c).length=ts.length:=by
 unfold A3;rw[vJ,vJ]
theorem yI(ns:Ϝ)(n:Nat):∀(cs:Ϝ) (k:Nat) (ts:Λ),(yx ns n cs k ts).length=ts.length
 | [],_,_=>rfl
 |c::cs,k,ts=>by rw[yx,yI ns n cs,AO]
def vQ(ns:Ϝ):Ϝ->Nat->Ϝ
 | [],_=>[]
 |c::cs,k=>sJ ns k c :: -sJ ns k c::vQ ns cs (k+1)
theorem Bm(ns:Ϝ):∀(cs:Ϝ) (k:Nat),(vQ ns cs k).length=2*cs.length
 | [],_=>rfl
 |c::cs,k=>by rw[vQ,lCq,lCq,Bm ns cs,lCq];lia
theorem FK(ns:Ϝ){n:Nat}:∀(cs:Ϝ) (k:Nat) (ts:Λ),(0<cs.length->0<n)->ts.length=n->(yx ns n cs k ts).flatten.Perm (vQ ns cs k++ts.flatten)
 | [],_,_,_,_=>.refl _
 |c::cs,k,ts,h,hl=>by
  have hn:0<n:=h (by simp)
  rw[yx];refine(FK ns cs (k+1) _ (λ_=>hn) (by rw[AO,hl])).trans ?_
  have s:(A3 ns n ts k c).flatten.Perm (-sJ ns k c::sJ ns k c::ts.flatten):=by
   unfold A3;refine(Gk _ _ (by rw[vJ,hl];exact HC _ _ _ hn)).trans (bf.cons _ ?_)
   exact Gk _ _ (by rw[hl];exact HC _ _ _ hn)
  rw[vQ];refine(bf.append (.refl _) s).trans ?_;refine cv.trans ?_;refine(bf.cons _ cv).trans ?_;rw[bL,bL];exact bf.swap ..
def Ex(ns:Ϝ):1<=step ns/\step ns<=10 ^ 40:=by
 unfold step;split
 .have s:=bK (cell ns 0) (show(10 ^ 40:Int)≠0 by decide)
  have t:=bJ (cell ns 0) (show(0:Int)<10 ^ 40 by decide)
  lia
 .lia
def Ib(ns:Ϝ):0<=Jm ns/\Jm ns<10 ^ 40:=by
 unfold Jm;split
 .exact⟨bK (cell ns 1) (show(10 ^ 40:Int)≠0 by decide),bJ (cell ns 1) (show(0:Int)<10 ^ 40 by decide)⟩
 .lia
def zQ(ns:Ϝ)(k:Int):0<yh ns k/\yh ns k<10 ^ 60:=by
 obtain⟨s,t⟩:=Ex ns;obtain⟨z,B⟩:=Ib ns;have u:=bK ((1+cell ns 1 / 3 % 66)*k+cell ns 0 / 3 % 67) (show(67:Int)≠0 by decide)
 have x:=bJ ((1+cell ns 1 / 3 % 66)*k+cell ns 0 / 3 % 67) (show(0:Int)<67 by decide)
 have h:0<Az ns k/\Az ns k<10 ^ 60:=by
  unfold Az;generalize ((1+cell ns 1 / 3 % 66)*k+cell ns 0 / 3 % 67) % 67=m at u x;have E:1*1<=step ns*(m+1):=iK s (by lia) (by lia) (by lia)
  have G:step ns*(m+1)<=10 ^ 40*67:=iK t (by lia) (by lia) (by decide)
  lia
 unfold yh;split <;> lia
def MN:∀t:Fin 66,∀d:Fin 67,0<d.val->(t.val+1)*d.val % 67≠0:=by trivial
def PL(ns:Ϝ){j k:Nat}(L:j<67)(hk:k<67)(h:yh ns j=yh ns k):j=k:=by
 have z:Az ns j=Az ns k:=by
  unfold yh at h;split at h <;> lia
 unfold Az at z;obtain⟨M,O⟩:=Ex ns;have x:=bK (cell ns 1 / 3) (show(66:Int)≠0 by decide)
 have B:=bJ (cell ns 1 / 3) (show(0:Int)<66 by decide)
 generalize cell ns 1 / 3 % 66=t at *;generalize cell ns 0 / 3 % 67=s at *;have E:step ns*(((1+t)*j+s) % 67+1)=step ns*(((1+t)*k+s) % 67+1):=by lia
 have P:=Int.eq_of_mul_eq_mul_left (by lia) E
 have G:(((1+t)*j+s)-((1+t)*k+s)) % 67=0:=Int.emod_eq_emod_iff_emod_sub_eq_zero.mp (by lia)
 have H:((1+t)*((j:Int)-k)) % 67=0:=by
  rw[←G];congr 1;rw[Int.mul_sub];lia
 obtain⟨u,rfl⟩:=Int.eq_ofNat_of_zero_le x;rcases fP j k with q|q|q
 .exfalso;refine MN ⟨u,by lia⟩ ⟨k-j,by lia⟩ (by show 0<k-j;lia) ?_
  show(u+1)*(k-j) % 67=0;have I:((1+(u:Int))*((k:Int)-j)) % 67=0:=by
   have:(1+(u:Int))*((k:Int)-j) = -((1+(u:Int))*((j:Int)-k)):=by
    rw[←Int.mul_neg];congr 1;lia
   rw[this];lia
  have J:(((u+1)*(k-j) % 67:Nat):Int)=0:=by
   rw[←I];push_cast [bZ q];rw[iV]
  lia
 .exact q
 .exfalso;refine MN ⟨u,by lia⟩ ⟨j-k,by lia⟩ (by show 0<j-k;lia) ?_
  show(u+1)*(j-k) % 67=0;have J:(((u+1)*(j-k) % 67:Nat):Int)=0:=by
   rw[←H];push_cast [bZ q];rw[iV]
  lia
def Ci(ns:Ϝ)(k:Nat)(c:Int):sJ ns k c=yh ns k∨sJ ns k c = -yh ns k:=by
 unfold sJ;have s:=bK c (show(2:Int)≠0 by decide)
 have t:=bJ c (show(0:Int)<2 by decide)
 rcases(show c % 2=0∨c % 2=1 by lia)with e|e
 .rw[e];left;lia
 .rw[e];right;lia
theorem BL(ns:Ϝ):∀(cs:Ϝ) (k:Nat) (z:Int),z∈vQ ns cs k->∃j,k<=j/\j<k+cs.length/\(z=yh ns j∨z = -yh ns j)
 | [],_,_,h=>by cases h
 |c::cs,k,z,h=>by
  rw[vQ]at h;rw[lCq];rcases ag.mp h with e|h
  .exact⟨k,aa _,by lia,by rw[e];exact Ci ns k c⟩
  .rcases ag.mp h with e|h
   .refine⟨k,aa _,by lia,?_⟩
    rcases Ci ns k c with q|q
    .right;rw[e,q]
    .left;rw[e,q,gH]
   .obtain⟨j,a,b,d⟩:=BL ns cs (k+1) z h;exact⟨j,by lia,by lia,d⟩
theorem Gf(ns:Ϝ):∀(cs:Ϝ) (k:Nat) (z:Int),z∈vQ ns cs k->-z∈vQ ns cs k
 | [],_,_,h=>by cases h
 |c::cs,k,z,h=>by
  rw[vQ]at h ⊢;rcases ag.mp h with e|h
  .rw[e];simp
  .rcases ag.mp h with e|h
   .rw[e,gH];simp
   .exact mCo _ (mCo _ (Gf ns cs (k+1) z h))
theorem Cp(ns:Ϝ):∀(cs:Ϝ) (k:Nat),k+cs.length<=67->(vQ ns cs k).Nodup
 | [],_,_=>bp
 |c::cs,k,hk=>by
  rw[lCq]at hk;rw[vQ];have u:=Cp ns cs (k+1) (by lia)
  have b:=zQ ns k;have s:∀z,z∈vQ ns cs (k+1)->z≠yh ns k/\z ≠ -yh ns k:=λz x=>by
   obtain⟨j,B,E,e⟩:=BL ns cs (k+1) z x;have G:=zQ ns j;have ne:yh ns (j:Int)≠yh ns (k:Int):=λq=>by
    have:=PL ns (by lia) (by lia) q
    lia
   rcases e with e|e <;> constructor <;> lia
  have t:=Ci ns k c;rw[aw,aw];refine⟨λh=>?_,λh=>?_,u⟩
  .rcases ag.mp h with e|h
   .rcases t with q|q <;> lia
   .have:=s _ h;rcases t with q|q <;> lia
  .have:=s _ h;rcases t with q|q <;> lia
def uI(ns:Ϝ)(n start:Nat):Λ:=yx ns n ((ns.drop start).take 60) 0 (az n [])
def HA(n:Nat):(az n ([]:Ϝ)).flatten=[]:=by
 induction n with
 |zero=>rfl
 |succ n s=>rw[gR,fCq,s];rfl
def Hu(ns:Ϝ){n start:Nat}(h:0<((ns.drop start).take 60).length->0<n):(uI ns n start).flatten.Perm (vQ ns ((ns.drop start).take 60) 0):=by
 have:=FK ns ((ns.drop start).take 60) 0 (az n []) h (by simp)
 rw[HA,aNq]at this;exact this
def EJ(ns:Ϝ)(n start:Nat):(uI ns n start).length=n:=by
 unfold uI;rw[yI,bF]
def E5(ns:Ϝ){n start:Nat}(h:0<((ns.drop start).take 60).length->0<n)(hn:n<=128):zG (uI ns n start):=by
 have p:=Hu ns h;have hl:((ns.drop start).take 60).length<=60:=by rw[lTq];lia
 refine⟨λz s=>?_,?_,λz s=>?_,?_,by rw[EJ];exact hn⟩
 .obtain⟨j,_,_,e⟩:=BL _ _ _ _ (p.mem_iff.mp s);have:=zQ ns j;rcases e with e|e <;> lia
 .exact p.nodup_iff.mpr (Cp ns _ 0 (by lia))
 .exact p.mem_iff.mpr (Gf _ _ _ _ (p.mem_iff.mp s))
 .rw[p.length_eq,Bm];lia
def qo(ns:Ϝ)(start:Nat):Nat:=if start<ns.length then (1+cell ns 2 % 30).toNat else (cell ns 2 % 30).toNat
def CF(ns:Ϝ)(start:Nat):qo ns start<=30/\(start<ns.length->0<qo ns start):=by
 have s:=bK (cell ns 2) (show(30:Int)≠0 by decide)
 have t:=bJ (cell ns 2) (show(0:Int)<30 by decide)
 unfold qo;split
 .exact⟨by lia,λ_=>by lia⟩
 .exact⟨by lia,λh=>by lia⟩
def Jn(ns:Ϝ)(start:Nat):zG (uI ns (qo ns start) start):=by
 obtain⟨t,s⟩:=CF ns start;refine E5 ns (λh=>s ?_) (by lia)
 rw[lTq,ar]at h;lia
end Mr
namespace MrS
open PySem PyProof.Rows
noncomputable def vK:Bool->jh->Array jh->Nat->Nat->Nat->StateT SortSt Sem (Option Nat):=sortPriv% PySem.Builtin.gallop
structure zl (prog:jq)(w:ju)(A:Around)(s:Shared)(κ:jK)(P:jh->Prop)(lt:jh->jh->Bool):Prop where
 ask:∀x y,P x->P y->∀(E:Ψ) (Q:Bool->Shared->Prop),Q (lt x y) s->jn (jk prog w) A (keyLt' κ x.1 y.1) Q E s
 asym:∀x y,P x->P y->lt x y=true->lt y x=false
 trans:∀x y z,P x->P y->P z->lt y x=false->lt z y=false->lt z x=false
section
variable {prog:jq}{w:ju}{A:Around}{E:Ψ}{s:Shared}{κ:jK}{P:jh->Prop}{lt:jh->jh->Bool}
def zl.refl(C:zl prog w A s κ P lt){x:jh}(t:P x):lt x x=false:=by
 cases e:lt x x with
 |false=>rfl
 |true=>rw[←C.asym x x t t e,e]
def zl.cmp(C:zl prog w A s κ P lt){x y:jh}{st:SortSt}{Q:Option Bool->SortSt->Prop}(t:P x)(u:P y)(hk:kindOf st=κ)(h:Q (some (lt x y)) st) :
  wpS (jk prog w) A E s (lt' x y) Q st:=by
 rw[lt'_eq];refine jj (ko ?_);rw[hk];refine jj (wpS_lift (wpAny_attempt (C.ask x y t u _ _ ⟨rfl,?_⟩)));exact jl h
def oB{arr:Array jh}{i:Nat}{x:jh}{st:SortSt}{Q:jh->SortSt->Prop}(t:arr[i]?=some x)(h:Q x st):wpS (jk prog w) A E s (jN arr i) Q st:=by
 rw[elem'_eq,t];exact jl h
def zl.at(C:zl prog w A s κ P lt){i j:Nat}{x y:jh}{st:SortSt}{Q:Option Bool->SortSt->Prop}(hi:(jw st)[i]?=some x)(t:(jw st)[j]?=some y)(u:P x)(z:P y)(hk:kindOf st=κ)(h:Q (some (lt x y)) st) :
  wpS (jk prog w) A E s (ltAt' i j) Q st:=by
 rw[ltAt'_eq];refine jj (ko ?_);exact jj (oB hi (jj (oB t (C.cmp u z hk h))))
def xG(lt:jh->jh->Bool)(left:Bool)(key:jh)(arr:Array jh)(base i:Nat):Bool:=
 if left then lt (arr.getD (base+i) key) key else !lt key (arr.getD (base+i) key)
def KC(left:Bool)(key:jh)(arr:Array jh)(base n t:Nat):vK left key arr base n t=(do
 let G (i:Nat):StateT SortSt Sem (Option Bool):=do
  let x ←jN arr (base+i)
  if left then lt' x key else return (←lt' key x).map (!·)
 let mut u:=0
 let mut B:=1
 let mut lo:=0
 let mut hi:=0
 let some right ←G t|return none
 if right then
  let z:=n-t
  for _ in [0:n]do
   if B ≥ z then break
   let some more ←G (t+B)|return none
   if !more then break
   u:=B
   B:=2*B+1
  lo:=t+u+1
  hi:=t+min B z
 else
  let z:=t+1
  for _ in [0:n]do
   if B ≥ z then break
   let some H ←G (t-B)|return none
   if H then break
   u:=B
   B:=2*B+1
  lo:=t+1-min B z
  hi:=t-u
 for _ in [0:n]do
  if lo ≥ hi then break
  let m:=lo+(hi-lo) / 2
  let some more ←G m|return none
  if more then lo:=m+1 else hi:=m
 return some hi):=rfl
def uW(C:zl prog w A s κ P lt){left:Bool}{key:jh}{arr:Array jh}{base i:Nat}{st:SortSt}{Q:Option Bool->SortSt->Prop}(hi:base+i<arr.size)(ha:∀x,x∈arr->P x)(t:P key)(hk:kindOf st=κ)
  (h:Q (some (xG lt left key arr base i)) st):wpS (jk prog w) A E s (do
   let x ←jN arr (base+i)
   if left=true then lt' x key else do
    let u ←lt' key x
    pure (u.map (!·))) Q st:=by
 have e:arr[base+i]?=some arr[base+i]:=ae hi;have B:arr.getD (base+i) key=arr[base+i]:=by simp[gf,hi]
 refine jj (oB e ?_);have z:P arr[base+i]:=ha _ (ba hi);unfold xG at h;rw[B]at h;cases left with
 |true=>
  rw[oa rfl]at h ⊢;exact C.cmp z t hk h
 |false=>
  rw[nY (by decide)]at h ⊢
  exact jj (C.cmp t z hk (jl h))
def Cv{left:Bool}{key:jh}{arr:Array jh}{base n lo hi:Nat}{st:SortSt}{f:Nat->Option (Option Nat)×Nat×Nat->StateT SortSt Sem (ForInStep (Option (Option Nat)×Nat×Nat))}
  (mono:∀i j,i<=j->j<n->xG lt left key arr base j=true->xG lt left key arr base i=true)
  (x:∀i j,i<=j->j<n->xG lt left key arr base i=false->xG lt left key arr base j=false)
  (M:∀(i l u:Nat) (B:ForInStep (Option (Option Nat)×Nat×Nat)->SortSt->Prop),u<=n->(u<=l->B (.done (none,l,u)) st)->(l<u->xG lt left key arr base (l+(u-l) / 2)=true->B (.yield (none,l+(u-l) / 2+1,u)) st) ->
   (l<u->xG lt left key arr base (l+(u-l) / 2)=false->B (.yield (none,l,l+(u-l) / 2)) st)->wpS (jk prog w) A E s (f i (none,l,u)) B st)
  (O:lo<=hi) (Q:hi<=n) (R:∀j,j<lo->xG lt left key arr base j=true) (S:∀j,hi<=j->j<n->xG lt left key arr base j=false) :
  wpS (jk prog w) A E s (forIn [:n] ((none,lo,hi):Option (Option Nat)×Nat×Nat) f)
   (λc t=>∃k,c=(none,k,k)/\t=st/\k<=n/\(∀j,j<k->xG lt left key arr base j=true)/\(∀j,k<=j->j<n->xG lt left key arr base j=false)) st:=by
 refine jC
  (I:=λi c t=>∃l u,c=(none,l,u)/\t=st/\l<=u/\u<=n/\(∀j,j<l->xG lt left key arr base j=true)/\(∀j,u<=j->j<n->xG lt left key arr base j=false)/\(u-l)+i<=n)
  ?step ?fin ⟨lo,hi,rfl,rfl,O,Q,R,S,by lia⟩
 case step=>
  rintro i c t _ U ⟨l,u,rfl,rfl,X,z,G,H,Y⟩;refine M i l u _ z (λJ=>?_) (λJ e=>?_) (λJ e=>?_)
  .have e:l=u:=by lia
   subst e;exact⟨l,rfl,rfl,z,G,H⟩
  .exact⟨_,u,rfl,rfl,by lia,z,λj L=>mono j _ (by lia) (by lia) e,H,by lia⟩
  .exact⟨l,_,rfl,rfl,by lia,by lia,G,λj L hn=>x _ j L hn e,by lia⟩
 case fin=>
  rintro c t ⟨l,u,rfl,rfl,X,z,G,H,Y⟩;have e:l=u:=by lia
  subst e;exact⟨l,rfl,rfl,z,G,H⟩
def tL(C:zl prog w A s κ P lt){left:Bool}{key:jh}{arr:Array jh}{base n t:Nat}{st:SortSt}{Q:Option Nat->SortSt->Prop}(hh:t<n)(hb:base+n<=arr.size)(ha:∀x,x∈arr->P x)(z:P key)(hk:kindOf st=κ)
  (mono:∀i j,i<=j->j<n->xG lt left key arr base j=true->xG lt left key arr base i=true)
  (h:∀k,k<=n->(∀j,j<k->xG lt left key arr base j=true)->(∀j,k<=j->j<n->xG lt left key arr base j=false)->Q (some k) st) :
  wpS (jk prog w) A E s (vK left key arr base n t) Q st:=by
 have G:∀i j,i<=j->j<n->xG lt left key arr base i=false->xG lt left key arr base j=false:=λi j U S e=>by
  cases q:xG lt left key arr base j with
  |false=>rfl
  |true=>rw[mono i j U S q]at e;cases e
 rw[KC];dsimp only;refine jj (uW C (base:=base) (i:=t) (by lia) ha z hk ?_)
 cases er:xG lt left key arr base t with
 |true=>
  dsimp only;rw[oa rfl];refine jj (jJ (jC
   (I:=λi c u=>∃l o,c=(none,l,o)/\u=st/\l<o/\i+1<=o/\t+l<n/\xG lt left key arr base (t+l)=true)
   (Q:=λc u=>∃l o,c=(none,l,o)/\u=st/\l<o/\t+l<n/\xG lt left key arr base (t+l)=true/\(n-t<=o∨(t+o<n/\xG lt left key arr base (t+o)=false)))
   ?step ?fin ⟨0,1,rfl,rfl,by lia,by lia,by lia,er⟩) ?post)
  case step=>
   rintro i c u _ X ⟨l,o,rfl,rfl,L,Y,J,H⟩;dsimp only
   by_cases B:o ≥ n-t
   .rw[oa B];exact jl ⟨l,o,rfl,rfl,L,J,H,.inl B⟩
   .rw[nY B];refine jj (uW C (base:=base) (i:=t+o) (by lia) ha z hk ?_)
    cases e:xG lt left key arr base (t+o)with
    |true=>
     dsimp only;rw[nY (by decide)]
     exact jl ⟨o,_,rfl,rfl,by lia,by lia,by lia,e⟩
    |false=>
     dsimp only;rw[oa (by decide)]
     exact jl ⟨l,o,rfl,rfl,L,J,H,.inr ⟨by lia,e⟩⟩
  case fin=>
   rintro c u ⟨l,o,rfl,rfl,L,Y,J,H⟩;exact⟨l,o,rfl,rfl,L,J,H,.inl (by lia)⟩
  case post=>
   rintro c u ⟨l,o,rfl,rfl,L,J,H,O⟩;dsimp only;refine jj (jJ (Cv (lt:=lt) (left:=left) (key:=key) (arr:=arr) (base:=base) mono G (λi M R Q' hu q1 q2 q3=>?_) (by lia) (by lia) (λj S=>mono j _ (by lia) J H) ?_) ?_)
   .dsimp only
    by_cases B:M ≥ R
    .rw[oa B];exact jl (q1 B)
    .rw[nY B];refine jj (uW C (base:=base) (i:=M+(R-M) / 2) (by lia) ha z hk ?_)
     cases e:xG lt left key arr base (M+(R-M) / 2)with
     |true=>
      dsimp only;rw[oa rfl];exact jl (q2 (by lia) e)
     |false=>
      dsimp only;rw[nY (by decide)]
      exact jl (q3 (by lia) e)
   .intro j S hn;rcases O with O|⟨O,a6⟩
    .lia
    .exact G (t+o) j (by lia) hn a6
   .rintro c u ⟨k,rfl,rfl,k1,k2,k3⟩;exact jl (h k k1 k2 k3)
 |false=>
  dsimp only;rw[nY (by decide)]
  refine jj (jJ (jC
   (I:=λi c u=>∃l o,c=(none,l,o)/\u=st/\l<o/\i+1<=o/\l<=t/\xG lt left key arr base (t-l)=false)
   (Q:=λc u=>∃l o,c=(none,l,o)/\u=st/\l<o/\l<=t/\xG lt left key arr base (t-l)=false/\(t+1<=o∨(o<=t/\xG lt left key arr base (t-o)=true)))
   ?step ?fin ⟨0,1,rfl,rfl,by lia,by lia,by lia,er⟩) ?post)
  case step=>
   rintro i c u _ X ⟨l,o,rfl,rfl,L,Y,J,H⟩;dsimp only
   by_cases B:o ≥ t+1
   .rw[oa B];exact jl ⟨l,o,rfl,rfl,L,J,H,.inl B⟩
   .rw[nY B];refine jj (uW C (base:=base) (i:=t-o) (by lia) ha z hk ?_)
    cases e:xG lt left key arr base (t-o)with
    |true=>
     dsimp only;rw[oa rfl];exact jl ⟨l,o,rfl,rfl,L,J,H,.inr ⟨by lia,e⟩⟩
    |false=>
     dsimp only;rw[nY (by decide)]
     exact jl ⟨o,_,rfl,rfl,by lia,by lia,by lia,e⟩
  case fin=>
   rintro c u ⟨l,o,rfl,rfl,L,Y,J,H⟩;exact⟨l,o,rfl,rfl,L,J,H,.inl (by lia)⟩
  case post=>
   rintro c u ⟨l,o,rfl,rfl,L,J,H,O⟩;dsimp only;refine jj (jJ (Cv (lt:=lt) (left:=left) (key:=key) (arr:=arr) (base:=base) mono G (λi M R Q' hu q1 q2 q3=>?_) (by lia) (by lia) ?_ (λj S hn=>G _ j S hn H)) ?_)
   .dsimp only
    by_cases B:M ≥ R
    .rw[oa B];exact jl (q1 B)
    .rw[nY B];refine jj (uW C (base:=base) (i:=M+(R-M) / 2) (by lia) ha z hk ?_)
     cases e:xG lt left key arr base (M+(R-M) / 2)with
     |true=>
      dsimp only;rw[oa rfl];exact jl (q2 (by lia) e)
     |false=>
      dsimp only;rw[nY (by decide)]
      exact jl (q3 (by lia) e)
   .intro j S;rcases O with O|⟨O,a6⟩
    .lia
    .exact mono j (t-o) (by lia) (by lia) a6
   .rintro c u ⟨k,rfl,rfl,k1,k2,k3⟩;exact jl (h k k1 k2 k3)
end
abbrev xn(lt:jh->jh->Bool)(l:List jh):Prop:=l.Pairwise λx y=>lt y x=false
structure MI (lt:jh->jh->Bool)(a b out:Array jh)(ia ib:Nat):Prop where
 la:ia<=a.size
 lb:ib<=b.size
 pm:(out.toList++(a.toList.drop ia++b.toList.drop ib)).Perm (a.toList++b.toList)
 so:xn lt out.toList
 ua:∀x∈out.toList,∀y∈a.toList.drop ia,lt y x=false
 ub:∀x∈out.toList,∀y∈b.toList.drop ib,lt y x=false
section
variable {lt:jh->jh->Bool}{a b out out':Array jh}{ia ib k:Nat}
def MI.congr(m:MI lt a b out ia ib)(e:out'.toList=out.toList):MI lt a b out' ia ib:=⟨m.la,m.lb,by rw[e];exact m.pm,by rw[e];exact m.so,by rw[e];exact m.ua,by rw[e];exact m.ub⟩
noncomputable def JD(l:List jh)(i k:Nat):l.drop i=(l.drop i).take k++l.drop (i+k):=by
 rw[←List.drop_drop,aM]
noncomputable def xQ(a:Array jh)(i k:Nat):(a.extract i (i+k)).toList=(a.toList.drop i).take k:=by
 rw[fo,dQ,eE]
def MI.moreA(m:MI lt a b out ia ib)(sa:xn lt a.toList)(hk:ia+k<=a.size)(h:∀x∈(a.toList.drop ia).take k,∀y∈b.toList.drop ib,lt y x=false):MI lt a b (out++a.extract ia (ia+k)) (ia+k) ib:=by
 have e:(out++a.extract ia (ia+k)).toList=out.toList++(a.toList.drop ia).take k:=by rw[aD,xQ]
 have z:xn lt (a.toList.drop ia):=sa.sublist (bP _ _);have c:=JD a.toList ia k;have u:=z;rw[c]at u;obtain⟨B,G,E⟩:=aB.mp u;refine⟨hk,m.lb,?_,?_,?_,?_⟩
 .rw[e,ak];refine(bf.append_left _ ?_).trans m.pm;rw[←ak,←c]
 .rw[e];exact aB.mpr ⟨m.so,B,λx s y t=>m.ua x s y (bC t)⟩
 .rw[e];intro x s y t;rcases mAq.mp s with s|s
  .exact m.ua x s y (by rw[c];exact au _ t)
  .exact E x s y t
 .rw[e];intro x s y t;rcases mAq.mp s with s|s
  .exact m.ub x s y t
  .exact h x s y t
def MI.moreB(m:MI lt a b out ia ib)(sb:xn lt b.toList)(hk:ib+k<=b.size)(h:∀x∈(b.toList.drop ib).take k,∀y∈a.toList.drop ia,lt y x=false):MI lt a b (out++b.extract ib (ib+k)) ia (ib+k):=by
 have e:(out++b.extract ib (ib+k)).toList=out.toList++(b.toList.drop ib).take k:=by rw[aD,xQ]
 have z:xn lt (b.toList.drop ib):=sb.sublist (bP _ _);have c:=JD b.toList ib k;have u:=z;rw[c]at u;obtain⟨B,G,E⟩:=aB.mp u;refine⟨m.la,hk,?_,?_,?_,?_⟩
 .rw[e,ak];refine(bf.append_left _ ?_).trans m.pm;refine((List.perm_append_comm_assoc _ _ _).trans ?_);rw[←c]
 .rw[e];exact aB.mpr ⟨m.so,B,λx s y t=>m.ub x s y (bC t)⟩
 .rw[e];intro x s y t;rcases mAq.mp s with s|s
  .exact m.ua x s y t
  .exact h x s y t
 .rw[e];intro x s y t;rcases mAq.mp s with s|s
  .exact m.ub x s y (by rw[c];exact au _ t)
  .exact E x s y t
noncomputable def xR{l:List jh}{i:Nat}{x:jh}(h:l[i]?=some x):(l.drop i).take 1=[x]:=by
 obtain⟨hi,e⟩:=gSq.mp h;rw[aG hi,e];rfl
def MI.pushA{x:jh}(m:MI lt a b out ia ib)(sa:xn lt a.toList)(t:a[ia]?=some x)(h:∀y∈b.toList.drop ib,lt y x=false):MI lt a b (out.push x) (ia+1) ib:=by
 have hi:ia<a.size:=(aN.mp t).1;have s:a.toList[ia]?=some x:=by rw[ao];exact t
 refine(m.moreA sa (k:=1) hi λz u y B=>?_).congr ?_
 .rw[xR s,mSq]at u;rw[u];exact h y B
 .rw[cI,aD,xQ,xR s]
def MI.pushB{x:jh}(m:MI lt a b out ia ib)(sb:xn lt b.toList)(t:b[ib]?=some x)(h:∀y∈a.toList.drop ia,lt y x=false):MI lt a b (out.push x) ia (ib+1):=by
 have hi:ib<b.size:=(aN.mp t).1;have s:b.toList[ib]?=some x:=by rw[ao];exact t
 refine(m.moreB sb (k:=1) hi λz u y B=>?_).congr ?_
 .rw[xR s,mSq]at u;rw[u];exact h y B
 .rw[cI,aD,xQ,xR s]
structure TB (lt:jh->jh->Bool)(a b r:Array jh):Prop where
 pm:r.toList.Perm (a.toList++b.toList)
 so:xn lt r.toList
noncomputable def wX(a:Array jh)(i:Nat):(a.extract i a.size).toList=a.toList.drop i:=by
 rw[fo,dQ];exact bU (by rw[ar,ah];exact aa _)
def MI.endB(m:MI lt a b out ia ib)(sa:xn lt a.toList)(e:ib=b.size):TB lt a b (out++a.extract ia a.size++b.extract ib b.size):=by
 have s:b.toList.drop ib=[]:=by rw[e,←ah,cO]
 have t:(out++a.extract ia a.size++b.extract ib b.size).toList=out.toList++a.toList.drop ia:=by
  rw[aD,aD,wX,wX,s,aNq]
 have pm:=m.pm;rw[s,aNq]at pm;exact⟨by rw[t];exact pm,by rw[t];exact aB.mpr ⟨m.so,sa.sublist (bP _ _),m.ua⟩⟩
def MI.endA(m:MI lt a b out ia ib)(sb:xn lt b.toList)(e:ia=a.size):TB lt a b (out++a.extract ia a.size++b.extract ib b.size):=by
 have s:a.toList.drop ia=[]:=by rw[e,←ah,cO]
 have t:(out++a.extract ia a.size++b.extract ib b.size).toList=out.toList++b.toList.drop ib:=by
  rw[aD,aD,wX,wX,s,aNq]
 have pm:=m.pm;rw[s,dX]at pm;exact⟨by rw[t];exact pm,by rw[t];exact aB.mpr ⟨m.so,sb.sublist (bP _ _),m.ub⟩⟩
def MI.lastA(m:MI lt a b out ia ib)(sa:xn lt a.toList)(sb:xn lt b.toList)(h:∀x∈b.toList.drop ib,∀y∈a.toList.drop ia,lt y x=false):TB lt a b (out++b.extract ib b.size++a.extract ia a.size):=by
 have t:(out++b.extract ib b.size++a.extract ia a.size).toList=out.toList++(b.toList.drop ib++a.toList.drop ia):=by
  rw[aD,aD,wX,wX,ak]
 refine⟨?_,?_⟩
 .rw[t];exact(bf.append_left _ bz).trans m.pm
 .rw[t];refine aB.mpr ⟨m.so,aB.mpr ⟨sb.sublist (bP _ _),sa.sublist (bP _ _),h⟩,λx u y s=>?_⟩
  rcases mAq.mp s with s|s
  .exact m.ub x u y s
  .exact m.ua x u y s
end
noncomputable def DJ:Array jh->Array jh->StateT SortSt Sem (Array jh):=sortPriv% PySem.Builtin.mergeLo
noncomputable def qH:Nat->StateT SortSt Sem Unit:=sortPriv% PySem.Builtin.setMinGallop
abbrev sg(st:SortSt)(g:Nat):SortSt:=SortSt.mk' (kindOf st) (jw st) (jX st) g (failedOf st)
def BS(g:Nat):qH g=modify λst=>sg st g:=rfl
section
variable (a b:Array jh)
noncomputable abbrev dn(o:Array jh)(i j:Nat):=o++a.extract i a.size++b.extract j b.size
noncomputable abbrev lA(o:Array jh)(i j:Nat):=o++b.extract j b.size++a.extract i a.size
noncomputable abbrev SF(α:Type):=ForInStep (Option (Array jh)×Array jh×Nat×Nat×α)
def loC(o:Array jh)(i j m k l:Nat):StateT SortSt Sem (SF (Nat×Nat×Nat)):=do
 let x ←jN a i
 if i+1+1 == a.size then pure (.done (some (lA a b (o.push x) (i+1) j),o.push x,i+1,j,m,k,l))
 else if decide (k<7) && decide (l<7)then pure (.done (none,o.push x,i+1,j,m,k,l))
 else pure (.yield (none,o.push x,i+1,j,m,k,l))
def loB(o:Array jh)(i j m k q:Nat):StateT SortSt Sem (SF (Nat×Nat×Nat)):=do
 let x ←jN b j
 if j+1 == b.size then pure (.done (some (dn a b (o.push x) i (j+1)),o.push x,i,j+1,m,k,q))
 else do
  let y ←jN a i
  match ←vK true y b (j+1) (b.size-(j+1)) 0 with
  |some l=>
   if l>0 then
    if j+1+l == b.size then pure (.done (some (dn a b (o.push x++b.extract (j+1) (j+1+l)) i (j+1+l)),o.push x++b.extract (j+1) (j+1+l),i,j+1+l,m,k,l))
    else loC a b (o.push x++b.extract (j+1) (j+1+l)) i (j+1+l) m k l
   else loC a b (o.push x) i (j+1) m k l
  |_=>pure (.done (some (dn a b (o.push x) i (j+1)),o.push x,i,j+1,m,k,q))
def loA(o:Array jh)(i j m p q:Nat):StateT SortSt Sem (SF (Nat×Nat×Nat)):=do
 qH m
 let x ←jN b j
 match ←vK false x a i (a.size-i) 0 with
 |some k=>
  if k>0 then
   if i+k+1 == a.size then pure (.done (some (lA a b (o++a.extract i (i+k)) (i+k) j),o++a.extract i (i+k),i+k,j,m,k,q))
   else if i+k == a.size then pure (.done (some (dn a b (o++a.extract i (i+k)) (i+k) j),o++a.extract i (i+k),i+k,j,m,k,q))
   else loB a b (o++a.extract i (i+k)) (i+k) j m k q
  else loB a b o i j m k q
 |_=>pure (.done (some (dn a b o i j),o,i,j,m,p,q))
def lo1(m:Nat)(o:Array jh)(i j p q:Nat):StateT SortSt Sem (SF (Nat×Nat)):=do
 let y ←jN b j
 let x ←jN a i
 match ←lt' y x with
 |some c=>
  if c then do
   let z ←jN b j
   if j+1 == b.size then pure (.done (some (dn a b (o.push z) i (j+1)),o.push z,i,j+1,0,q+1))
   else if q+1 ≥ m then pure (.done (none,o.push z,i,j+1,0,q+1))
   else pure (.yield (none,o.push z,i,j+1,0,q+1))
  else do
   let z ←jN a i
   if i+1+1 == a.size then pure (.done (some (lA a b (o.push z) (i+1) j),o.push z,i+1,j,p+1,0))
   else if p+1 ≥ m then pure (.done (none,o.push z,i+1,j,p+1,0))
   else pure (.yield (none,o.push z,i+1,j,p+1,0))
 |_=>pure (.done (some (dn a b o i j),o,i,j,p,q))
def lo0(o:Array jh)(i j m:Nat):StateT SortSt Sem (SF Nat):=do
 let r ←forIn [0:a.size+b.size] (none,o,i,j,0,0) λ_ s=>lo1 a b m s.2.1 s.2.2.1 s.2.2.2.1 s.2.2.2.2.1 s.2.2.2.2.2
 Break.runK.match_1 (λ_=>StateT SortSt Sem (SF Nat)) r.1 (λv=>pure (.done (some v,r.2.1,r.2.2.1,r.2.2.2.1,m))) λ_=>do
  rule "list.sort.gallop"
  let r ←forIn [0:a.size+b.size] (none,r.2.1,r.2.2.1,r.2.2.2.1,m+1,r.2.2.2.2.1,r.2.2.2.2.2) λ_ s=>if s.2.2.2.2.1>1 then loA a b s.2.1 s.2.2.1 s.2.2.2.1 (s.2.2.2.2.1-1) s.2.2.2.2.2.1 s.2.2.2.2.2.2 else loA a b s.2.1 s.2.2.1 s.2.2.2.1 s.2.2.2.2.1 s.2.2.2.2.2.1 s.2.2.2.2.2.2
  Break.runK.match_1 (λ_=>StateT SortSt Sem (SF Nat)) r.1 (λv=>pure (.done (some v,r.2.1,r.2.2.1,r.2.2.2.1,r.2.2.2.2.1))) λ_=>do
   qH (r.2.2.2.2.1+1)
   pure (.yield (none,r.2.1,r.2.2.1,r.2.2.2.1,r.2.2.2.2.1+1))
def JK:DJ a b=(do
 rule "list.sort.merge-lo"
 let x ←jN b 0
 if 1 == b.size then pure (dn a b #[x] 0 1)
 else if 0+1 == a.size then pure (lA a b #[x] 0 1)
 else do
  let st ←get
  let r ←forIn [0:a.size+b.size] (none,#[x],0,1,kE st) λ_ s=>lo0 a b s.2.1 s.2.2.1 s.2.2.2.1 s.2.2.2.2
  Break.runK.match_1 (λ_=>StateT SortSt Sem (Array jh)) r.1 (λv=>pure v) λ_=>kB "internal:list.sort.merge-bound"):=rfl
end
section
variable {prog:jq}{w:ju}{A:Around}{E:Ψ}{s:Shared}{κ:jK}{P:jh->Prop}{lt:jh->jh->Bool}
def xU{g:Nat}{st:SortSt}{Q:Unit->SortSt->Prop}(h:Q () (sg st g)):wpS (jk prog w) A E s (qH g) Q st:=by
 rw[BS];exact kg h
def wI{x:String}{st:SortSt}{Q:Unit->SortSt->Prop}(h:Q () st):wpS (jk prog w) A E s (liftM (rule x):StateT SortSt Sem Unit) Q st:=wpS_lift (kR ⟨rfl,h⟩)
def CS(C:zl prog w A s κ P lt){a:Array jh}{i:Nat}{x:jh}(ha:∀x,x∈a->P x)(sa:xn lt a.toList)(B:a[i]?=some x):∀y∈a.toList.drop i,lt y x=false:=by
 obtain⟨hi,e⟩:=aN.mp B;have t:i<a.toList.length:=by simpa using hi
 have G:a.toList[i]=x:=by simpa using e
 have z:xn lt (a.toList.drop i):=sa.sublist (bP _ _);rw[aG t,G]at z ⊢;intro y u;rcases ag.mp u with rfl|u
 .exact C.refl (ha _ (by rw[←e];exact ba hi))
 .exact(ef.mp z).1 y u
noncomputable def vb{a:Array jh}{i:Nat}{y:jh}(h:y∈a.toList.drop i):y∈a:=by simpa using bx h
def Bc(C:zl prog w A s κ P lt){left:Bool}{key:jh}{arr:Array jh}{base n:Nat}(hb:base+n<=arr.size)(ha:∀x,x∈arr->P x)(t:P key)(so:xn lt (arr.toList.drop base)) :
  ∀i j,i<=j->j<n->xG lt left key arr base j=true->xG lt left key arr base i=true:=by
 intro i j B M h;have u:base+i<arr.size:=by lia
 have z:base+j<arr.size:=by lia
 have I:arr.getD (base+i) key=arr[base+i]:=by simp[gf,u]
 have J:arr.getD (base+j) key=arr[base+j]:=by simp[gf,z]
 have G:=ha _ (ba u);have H:=ha _ (ba z);have le:lt arr[base+j] arr[base+i]=false:=by
  rcases dZ B with q|q
  .have:=bu.mp so i j (by simp;lia) (by simp;lia) q
   simpa using this
  .subst q;exact C.refl G
 unfold xG at h ⊢;rw[I];rw[J]at h;cases left with
 |true=>
  rw[oa rfl]at h ⊢;cases q:lt arr[base+i] key with
  |true=>rfl
  |false=>
   have:=C.trans key arr[base+i] arr[base+j] t G H q le;rw[h]at this;cases this
 |false=>
  rw[nY (by decide)]at h ⊢
  have L:lt key arr[base+j]=false:=by simpa using h
  have:=C.trans arr[base+i] arr[base+j] key G H t le L;simp[this]
def sN{left:Bool}{key x:jh}{arr:Array jh}{base i:Nat}(t:arr[base+i]?=some x):xG lt left key arr base i=if left then lt x key else !lt key x:=by
 obtain⟨hi,e⟩:=aN.mp t;unfold xG;have u:arr.getD (base+i) key=x:=by simp[gf,hi,e]
 rw[u]
def vW{a:Array jh}{i k:Nat}{x:jh}(h:x∈(a.toList.drop i).take k):∃j,j<k/\a[i+j]?=some x:=by
 obtain⟨j,t,e⟩:=cC.mp h;rw[lTq]at t;refine⟨j,by lia,?_⟩
 rw[fQ,eN]at e;rw[aN];have u:i+j<a.size:=by
  rw[ar,ah]at t;lia
 exact⟨u,by simpa using e⟩
def yL{a:Array jh}{i:Nat}{x:jh}(h:x∈a.toList.drop i):∃j,i+j<a.size/\a[i+j]?=some x:=by
 obtain⟨j,u,e⟩:=cC.mp h;rw[ar,ah]at u;have t:i+j<a.size:=by lia
 refine⟨j,t,?_⟩;rw[eN]at e;rw[aN];exact⟨t,by simpa using e⟩
inductive Lp {ρ τ ι σ:Type}(t:ι->τ)(v:ι->σ)(J K:ι->Prop)(R:ρ->σ->Prop):ForInStep (Option ρ×τ)->σ->Prop
 |y (x):J x->Lp t v J K R (.yield (none,t x)) (v x)
 |d (x):K x->Lp t v J K R (.done (none,t x)) (v x)
 |r (a y st):R a st->Lp t v J K R (.done (some a,y)) st
def wC{M:Model}{ρ τ ι σ β:Type}{n:Nat}(t:ι->τ)(v:ι->σ)(J:Nat->ι->Prop)(K:ι->Prop)(R:ρ->σ->Prop){f:Nat->Option ρ×τ->StateT σ Sem (ForInStep (Option ρ×τ))}{k:Option ρ×τ->StateT σ Sem β}{Q:β->σ->Prop}
  (x:ι) (h:J 0 x) (step:∀i x,J i x->wpS M A E s (f i (none,t x)) (Lp t v (J (i+1)) K R) (v x)) (fin:∀x,J n x->K x) (pn:∀x,K x->wpS M A E s (k (none,t x)) Q (v x)) (ps:∀r y st,R r st->wpS M A E s (k (some r,y)) Q st) :
  wpS M A E s (forIn [0:n] (none,t x) f >>= k) Q (v x):=by
 refine jj (jJ (jC (I:=λi c st=>∃x,c=(none,t x)/\st=v x/\J i x) (Q:=λc st=>Lp t v K K R (.done c) st) ?_ ?_ ⟨x,rfl,rfl,h⟩) ?_)
 .rintro i c st _ _ ⟨x,rfl,rfl,h⟩;refine jJ (step i x h) λr u hr=>?_
  cases hr with
  |y x h=>exact⟨x,rfl,rfl,h⟩
  |d x h=>exact .d x h
  |r a y st h=>exact .r a y _ h
 .rintro c st ⟨x,rfl,rfl,h⟩;rw[iB (aJ n)]at h;exact .d x (fin x h)
 .rintro c st h;cases h with
  |d x h=>exact pn x h
  |r a y st h=>exact ps a y _ h
structure Ls where
 o:Array jh
 (i j m p q g:Nat)
structure ML (lt:jh->jh->Bool)(a b:Array jh)(n:Nat)(x:Ls):Prop where
 m:MI lt a b x.o x.i x.j
 p:x.i+1<a.size
 q:x.j<b.size
 r:n<=x.i+x.j
structure Lo (prog:jq)(w:ju)(A:Around)(s:Shared)(κ:jK)(P:jh->Prop)(lt:jh->jh->Bool)(a b:Array jh)(st:SortSt)(Q:Array jh->SortSt->Prop):Prop where
 C:zl prog w A s κ P lt
 ha:∀x,x∈a->P x
 hb:∀x,x∈b->P x
 hk:kindOf st=κ
 sa:xn lt a.toList
 sb:xn lt b.toList
 h:∀r g,TB lt a b r->Q r (sg st g)
noncomputable abbrev L6(x:Ls):=(x.o,x.i,x.j,x.m,x.p,x.q)
noncomputable abbrev L5(x:Ls):=(x.o,x.i,x.j,x.p,x.q)
noncomputable abbrev L4(x:Ls):=(x.o,x.i,x.j,x.m)
variable {a b:Array jh}{st:SortSt}{Q:Array jh->SortSt->Prop}{n:Nat}{x:Ls}
abbrev Hl(lt:jh->jh->Bool)(a b:Array jh):=∀i,i+1=a.size->∀x∈b.toList,∀y∈a.toList.drop i,lt y x=false
def QX(H:Lo prog w A s κ P lt a b st Q)(hl:Hl lt a b)(q:ML lt a b n x)(hi:∀z,a[x.i]?=some z->∀y∈b.toList.drop x.j,lt y z=false) :
  wpS (jk prog w) A E s (loC a b x.o x.i x.j x.m x.p x.q) (Lp L6 (λx=>sg st x.g) (ML lt a b n) (ML lt a b n) Q) (sg st x.g):=by
 have I:=q.p;have t:a[x.i]?=some a[x.i]:=ae (by lia)
 refine jj (oB t ?_);have B:=q.m.pushA H.sa t (hi _ t)
 by_cases u:x.i+1+1=a.size
 .rw[oa (by simp[u])]
  exact jl (.r _ _ _ (H.h _ _ (B.lastA H.sa H.sb λy G=>hl _ u y (bx G))))
 rw[nY (by simpa using u)]
 have R:ML lt a b n ⟨_,_,_,x.m,x.p,x.q,x.g⟩:=⟨B,by dsimp only;lia,q.q,by have:=q.r;dsimp only;lia⟩
 split
 .exact jl (.d _ R)
 .exact jl (.y _ R)
def QQ(H:Lo prog w A s κ P lt a b st Q)(hl:Hl lt a b)(q:ML lt a b n x)(hi:∀z,b[x.j]?=some z->∀y∈a.toList.drop x.i,lt y z=false) :
  wpS (jk prog w) A E s (loB a b x.o x.i x.j x.m x.p x.q) (Lp L6 (λx=>sg st x.g) (ML lt a b n) (ML lt a b n) Q) (sg st x.g):=by
 have R:=q.p;have p2:=q.q;have p3:=q.r;have G:b[x.j]?=some b[x.j]:=ae p2;refine jj (oB G ?_);have I:=q.m.pushB H.sb G (hi _ G)
 by_cases J:x.j+1=b.size
 .rw[oa (by simp[J])]
  exact jl (.r _ _ _ (H.h _ _ (I.endB H.sa J)))
 rw[nY (by simpa using J)]
 have L:a[x.i]?=some a[x.i]:=ae (by lia)
 have u:=H.ha _ (ba (show x.i<a.size by lia))
 refine jj (oB L (jj (tL H.C (base:=x.j+1) (n:=b.size-(x.j+1)) (by lia) (by lia) H.hb u H.hk (Bc H.C (by lia) H.hb u (H.sb.sublist (bP _ _))) λl l1 l2 l3=>?_)))
 have S:∀z,a[x.i]?=some z->∀y∈b.toList.drop (x.j+1+l),lt y z=false:=λz U y B=>by
  obtain⟨M,t,ey⟩:=yL B;have q:=l3 (l+M) (by lia) (by lia)
  rw[sN (by rw[←dP];exact ey),oa rfl]at q
  rw[L]at U;cases U;exact q
 dsimp only
 by_cases cl:l>0
 .rw[oa cl];have X:=I.moreB H.sb (k:=l) (by lia) λx Y y B=>by
   obtain⟨M,t,ex⟩:=vW Y;have q:=l2 M t;rw[sN ex,oa rfl]at q;have px:=H.hb x (bC Y |> vb);exact H.C.trans _ _ _ px u (H.ha _ (vb B)) (H.C.asym _ _ px u q) (CS H.C H.ha H.sa L y B)
  by_cases O:x.j+1+l=b.size
  .rw[oa (by simp[O])]
   exact jl (.r _ _ _ (H.h _ _ (X.endB H.sa O)))
  rw[nY (by simpa using O)]
  exact QX H hl (x:=⟨_,_,_,_,_,_,x.g⟩) ⟨X,R,by dsimp only;lia,by dsimp only;lia⟩ S
 .rw[nY cl];exact QX H hl (x:=⟨_,_,_,_,_,_,x.g⟩) ⟨I,R,by dsimp only;lia,by dsimp only;lia⟩ (by rw[show x.j+1=x.j+1+l by lia];exact S)
def Te(H:Lo prog w A s κ P lt a b st Q)(hl:Hl lt a b)(q:ML lt a b n x) :
  wpS (jk prog w) A E s (loA a b x.o x.i x.j x.m x.p x.q) (Lp L6 (λx=>sg st x.g) (ML lt a b n) (ML lt a b n) Q) (sg st x.g):=by
 have Y:=q.p;have B:=q.q;have p3:=q.r;have J:b[x.j]?=some b[x.j]:=ae B;have G:=H.hb _ (ba B);refine jj (xU (jj (oB J (jj (tL H.C (base:=x.i) (n:=a.size-x.i) (by lia) (by lia) H.ha G H.hk (Bc H.C (by lia) H.ha G (H.sa.sublist (bP _ _))) λk k1 k2 k3=>?_)))))
 have S:∀z,b[x.j]?=some z->∀y∈a.toList.drop (x.i+k),lt y z=false:=λz U y t=>by
  obtain⟨L,u,ey⟩:=yL t;have q:=k3 (k+L) (by lia) (by lia)
  rw[sN (by rw[←dP];exact ey),nY (by decide)]at q
  rw[J]at U;cases U;exact H.C.asym _ _ G (H.ha _ (vb t)) (by simpa using q)
 dsimp only
 by_cases X:k>0
 .rw[oa X];have M:=q.m.moreA H.sa (k:=k) (by lia) λx I y t=>by
   obtain⟨L,u,ex⟩:=vW I;have q:=k2 L u;rw[sN ex,nY (by decide)]at q
   exact H.C.trans _ _ _ (H.ha x (bC I |> vb)) G (H.hb _ (vb t)) (by simpa using q) (CS H.C H.hb H.sb J y t)
  by_cases O:x.i+k+1=a.size
  .rw[oa (by simp[O])]
   exact jl (.r _ _ _ (H.h _ x.m (M.lastA H.sa H.sb λx I=>hl _ O x (bx I))))
  rw[nY (by simpa using O)]
  by_cases R:x.i+k=a.size
  .rw[oa (by simp[R])]
   exact jl (.r _ _ _ (H.h _ x.m (M.endA H.sb R)))
  rw[nY (by simpa using R)]
  exact QQ H hl (x:=⟨_,_,_,_,_,_,x.m⟩) ⟨M,by dsimp only;lia,B,by dsimp only;lia⟩ S
 .rw[nY X];exact QQ H hl (x:=⟨_,_,_,_,_,_,x.m⟩) ⟨q.m,Y,B,p3⟩ (by rw[show x.i=x.i+k by lia];exact S)
def Yx(H:Lo prog w A s κ P lt a b st Q)(hl:Hl lt a b){m j:Nat}(q:ML lt a b (n+j) x) :
  wpS (jk prog w) A E s (lo1 a b m x.o x.i x.j x.p x.q) (Lp L5 (λx=>sg st x.g) (ML lt a b (n+(j+1))) (ML lt a b (n+1)) Q) (sg st x.g):=by
 have O:=q.p;have M:=q.q;have U:=q.r;have G:a[x.i]?=some a[x.i]:=ae (by lia)
 have I:b[x.j]?=some b[x.j]:=ae M;have J:=H.ha _ (ba (show x.i<a.size by lia))
 have L:=H.hb _ (ba M);refine jj (oB I (jj (oB G (jj (H.C.cmp L J H.hk ?_)))));cases e:lt b[x.j] a[x.i]with
 |true=>
  dsimp only;rw[oa rfl];refine jj (oB I ?_);have u:=q.m.pushB H.sb I λz B=>H.C.trans _ _ _ L J (H.ha _ (vb B)) (H.C.asym _ _ L J e) (CS H.C H.ha H.sa G z B)
  by_cases t:x.j+1=b.size
  .rw[oa (by simp[t])]
   exact jl (.r _ _ _ (H.h _ _ (u.endB H.sa t)))
  rw[nY (by simpa using t)]
  have R:∀n,n<=x.i+(x.j+1)->ML lt a b n ⟨_,_,_,0,0,x.q+1,x.g⟩:=λn hn=>⟨u,O,by dsimp only;lia,hn⟩
  split
  .exact jl (.d _ (R _ (by lia)))
  .exact jl (.y _ (R _ (by lia)))
 |false=>
  dsimp only;rw[nY (by decide)]
  refine jj (oB G ?_);have u:=q.m.pushA H.sa G λz B=>H.C.trans _ _ _ J L (H.hb _ (vb B)) e (CS H.C H.hb H.sb I z B)
  by_cases t:x.i+1+1=a.size
  .rw[oa (by simp[t])]
   exact jl (.r _ _ _ (H.h _ _ (u.lastA H.sa H.sb λx S=>hl _ t x (bx S))))
  rw[nY (by simpa using t)]
  have R:∀n,n<=x.i+1+x.j->ML lt a b n ⟨_,_,_,0,x.p+1,0,x.g⟩:=λn hn=>⟨u,by dsimp only;lia,M,hn⟩
  split
  .exact jl (.d _ (R _ (by lia)))
  .exact jl (.y _ (R _ (by lia)))
def XY(H:Lo prog w A s κ P lt a b st Q)(hl:Hl lt a b)(q:ML lt a b n x) :
  wpS (jk prog w) A E s (lo0 a b x.o x.i x.j x.m) (Lp L4 (λx=>sg st x.g) (ML lt a b (n+1)) (λ_=>False) Q) (sg st x.g):=by
 refine wC L5 (λx=>sg st x.g) (λj=>ML lt a b (n+j)) (ML lt a b (n+1)) Q ⟨x.o,x.i,x.j,0,0,0,x.g⟩ ⟨q.m,q.p,q.q,q.r⟩ (λj x q=>Yx H hl q) (λy h=>⟨h.m,h.p,h.q,by have:=h.r;have:=h.p;have:=h.q;lia⟩) (λy q=>?_) λr y u hr=>jl (.r _ _ _ hr)
 refine jj (wI ?_);refine wC L6 (λx=>sg st x.g) (λ_=>ML lt a b (n+1)) (ML lt a b (n+1)) Q ⟨y.o,y.i,y.j,x.m+1,y.p,y.q,y.g⟩ ⟨q.m,q.p,q.q,q.r⟩ (λj z q=>?_) (λ_ h=>h) (λz q=>?_) λr y u hr=>jl (.r _ _ _ hr)
 .dsimp only;split
  .exact Te H hl (x:=⟨_,_,_,z.m-1,_,_,z.g⟩) ⟨q.m,q.p,q.q,q.r⟩
  .exact Te H hl q
 .refine jj (xU (jl ?_));exact Lp.y (t:=L4) (v:=λx=>sg st x.g) ⟨_,_,_,z.m+1,0,0,z.m+1⟩ ⟨q.m,q.p,q.q,q.r⟩
def JT(C:zl prog w A s κ P lt)(ha:∀x,x∈a->P x)(hb:∀x,x∈b->P x)(hk:kindOf st=κ)(sa:xn lt a.toList)(sb:xn lt b.toList)
  (O:0<a.size) (G:0<b.size) (H:∀x,b[0]?=some x->∀y∈a.toList,lt y x=false) (hl:∀i,i+1=a.size->∀x∈b.toList,∀y∈a.toList.drop i,lt y x=false)
  (h:∀r g,TB lt a b r->Q r (sg st g)):wpS (jk prog w) A E s (DJ a b) Q st:=by
 rw[JK];refine jj (wI ?_);have t:b[0]?=some b[0]:=ae G;refine jj (oB t ?_);have I:MI lt a b #[] 0 0:=⟨aJ _,aJ _,by simp,by simp[xn],by simp,by simp⟩
 have u:MI lt a b #[b[0]] 0 1:=I.pushB sb t λy J=>H _ t y (by simpa using J)
 by_cases z:1=b.size
 .rw[oa (by simp[←z])]
  exact jl (h _ (kE st) (u.endB sa z))
 rw[nY (by simpa using z)]
 by_cases B:0+1=a.size
 .rw[oa (by simp[←B])]
  exact jl (h _ (kE st) (u.lastA sa sb λx L=>hl 0 B x (bx L)))
 rw[nY (by simpa using B)]
 refine jj (ko ?_);exact wC L4 (λx=>sg st x.g) (λi=>ML lt a b (i+1)) (λ_=>False) Q ⟨_,0,1,_,0,0,kE st⟩ ⟨u,by dsimp only;lia,by dsimp only;lia,by dsimp only;lia⟩ (λi x q=>XY ⟨C,ha,hb,hk,sa,sb,h⟩ hl q) (λx h=>by have:=h.p;have:=h.q;have:=h.r;lia) (λx h=>h.elim) λr y M hr=>jl hr
end
structure MH (lt:jh->jh->Bool)(a b out:Array jh)(na nb:Nat):Prop where
 la:na<=a.size
 lb:nb<=b.size
 pm:((a.toList.take na++b.toList.take nb)++out.toList.reverse).Perm (a.toList++b.toList)
 so:xn lt out.toList.reverse
 ua:∀x∈a.toList.take na,∀y∈out.toList,lt y x=false
 ub:∀x∈b.toList.take nb,∀y∈out.toList,lt y x=false
section
variable {lt:jh->jh->Bool}{a b out out':Array jh}{na nb k:Nat}
def MH.congr(m:MH lt a b out na nb)(e:out'.toList=out.toList):MH lt a b out' na nb:=⟨m.la,m.lb,by rw[e];exact m.pm,by rw[e];exact m.so,by rw[e];exact m.ua,by rw[e];exact m.ub⟩
noncomputable def Bx(l:List jh)(k n:Nat)(h:k<=n):l.take n=l.take k++(l.take n).drop k:=by
 have e:(l.take n).take k=l.take k:=by rw[List.take_take,cJ h]
 rw[←e,aM]
noncomputable def qd(a:Array jh)(k n:Nat):(a.extract k n).toList=(a.toList.take n).drop k:=by
 rw[fo,dQ,List.drop_take]
def AG(a:Array jh)(n:Nat):(a.extract 0 n).toList=a.toList.take n:=by
 rw[qd,dB]
def MH.moreA(m:MH lt a b out na nb)(sa:xn lt a.toList)(hk:k<=na)(h:∀x∈b.toList.take nb,∀y∈(a.toList.take na).drop k,lt y x=false):MH lt a b (out++(a.extract k na).reverse) k nb:=by
 have e:(out++(a.extract k na).reverse).toList=out.toList++((a.toList.take na).drop k).reverse:=by rw[aD,cD,qd]
 have z:(out++(a.extract k na).reverse).toList.reverse=(a.toList.take na).drop k++out.toList.reverse:=by rw[e,gS,gL]
 have c:=Bx a.toList k na hk;have B:xn lt (a.toList.take na):=sa.sublist (aT _ _);have u:=B;rw[c]at u;obtain⟨H,E,G⟩:=aB.mp u;have sub:∀y,y∈(a.toList.take na).drop k->y∈a.toList.take na:=λy s=>bx s
 refine⟨bq hk m.la,m.lb,?_,?_,?_,?_⟩
 .rw[z];refine bf.trans ?_ m.pm;rw[←ak];refine bf.append_right _ ?_
  conv=>rhs;rw[c]
  rw[ak,ak];exact bf.append_left _ bz
 .rw[z];exact aB.mpr ⟨E,m.so,λx t y s=>m.ua x (sub x t) y (bT.mp s)⟩
 .rw[e];intro x t y s;rcases mAq.mp s with s|s
  .exact m.ua x (by rw[c];exact aY _ t) y s
  .exact G x t y (bT.mp s)
 .rw[e];intro x t y s;rcases mAq.mp s with s|s
  .exact m.ub x t y s
  .exact h x t y (bT.mp s)
def MH.moreB(m:MH lt a b out na nb)(sb:xn lt b.toList)(hk:k<=nb)(h:∀x∈a.toList.take na,∀y∈(b.toList.take nb).drop k,lt y x=false):MH lt a b (out++(b.extract k nb).reverse) na k:=by
 have e:(out++(b.extract k nb).reverse).toList=out.toList++((b.toList.take nb).drop k).reverse:=by rw[aD,cD,qd]
 have z:(out++(b.extract k nb).reverse).toList.reverse=(b.toList.take nb).drop k++out.toList.reverse:=by rw[e,gS,gL]
 have c:=Bx b.toList k nb hk;have B:xn lt (b.toList.take nb):=sb.sublist (aT _ _);have u:=B;rw[c]at u;obtain⟨H,E,G⟩:=aB.mp u;have sub:∀y,y∈(b.toList.take nb).drop k->y∈b.toList.take nb:=λy s=>bx s
 refine⟨m.la,bq hk m.lb,?_,?_,?_,?_⟩
 .rw[z];refine bf.trans ?_ m.pm;rw[←ak];refine bf.append_right _ ?_
  conv=>rhs;rw[c]
  rw[ak]
 .rw[z];exact aB.mpr ⟨E,m.so,λx t y s=>m.ub x (sub x t) y (bT.mp s)⟩
 .rw[e];intro x t y s;rcases mAq.mp s with s|s
  .exact m.ua x t y s
  .exact h x t y (bT.mp s)
 .rw[e];intro x t y s;rcases mAq.mp s with s|s
  .exact m.ub x (by rw[c];exact aY _ t) y s
  .exact G x t y (bT.mp s)
noncomputable def xp{l:List jh}{i:Nat}{x:jh}(h:l[i]?=some x):(l.take (i+1)).drop i=[x]:=by
 rw[cK,h,iA];have hl:(l.take i).length=i:=by
  have:=(gSq.mp h).1;rw[lTq];lia
 rw[eT (by lia),hl,dE]
 rfl
def MH.pushA{x:jh}(m:MH lt a b out (na+1) nb)(sa:xn lt a.toList)(u:a[na]?=some x)(h:∀y∈b.toList.take nb,lt x y=false):MH lt a b (out.push x) na nb:=by
 have s:a.toList[na]?=some x:=by rw[ao];exact u
 refine(m.moreA sa (k:=na) (bS _) λz B y t=>?_).congr ?_
 .rw[xp s,mSq]at t;rw[t];exact h z B
 .rw[cI,aD,cD,qd,xp s];rfl
def MH.pushB{x:jh}(m:MH lt a b out na (nb+1))(sb:xn lt b.toList)(u:b[nb]?=some x)(h:∀y∈a.toList.take na,lt x y=false):MH lt a b (out.push x) na nb:=by
 have s:b.toList[nb]?=some x:=by rw[ao];exact u
 refine(m.moreB sb (k:=nb) (bS _) λz B y t=>?_).congr ?_
 .rw[xp s,mSq]at t;rw[t];exact h z B
 .rw[cI,aD,cD,qd,xp s];rfl
def MH.end(m:MH lt a b out na nb)(sa:xn lt a.toList)(sb:xn lt b.toList)(e:na=0∨nb=0):TB lt a b (a.extract 0 na++b.extract 0 nb++out.reverse):=by
 have t:(a.extract 0 na++b.extract 0 nb++out.reverse).toList=(a.toList.take na++b.toList.take nb)++out.toList.reverse:=by
  rw[aD,aD,AG,AG,cD]
 refine⟨by rw[t];exact m.pm,?_⟩
 rw[t];refine aB.mpr ⟨?_,m.so,λx s y u=>?_⟩
 .rcases e with rfl|rfl
  .rw[fF,dX];exact sb.sublist (aT _ _)
  .rw[fF,aNq];exact sa.sublist (aT _ _)
 .rcases mAq.mp s with s|s
  .exact m.ua x s y (bT.mp u)
  .exact m.ub x s y (bT.mp u)
def MH.firstB(m:MH lt a b out na nb)(sa:xn lt a.toList)(sb:xn lt b.toList)(h:∀x∈b.toList.take nb,∀y∈a.toList.take na,lt y x=false):TB lt a b (b.extract 0 nb++a.extract 0 na++out.reverse):=by
 have t:(b.extract 0 nb++a.extract 0 na++out.reverse).toList=(b.toList.take nb++a.toList.take na)++out.toList.reverse:=by
  rw[aD,aD,AG,AG,cD]
 refine⟨?_,?_⟩
 .rw[t];exact(bf.append_right _ bz).trans m.pm
 .rw[t];refine aB.mpr ⟨aB.mpr ⟨sb.sublist (aT _ _),sa.sublist (aT _ _),h⟩,m.so,λx s y u=>?_⟩
  rcases mAq.mp s with s|s
  .exact m.ub x s y (bT.mp u)
  .exact m.ua x s y (bT.mp u)
end
noncomputable def EH:Array jh->Array jh->StateT SortSt Sem (Array jh):=sortPriv% PySem.Builtin.mergeHi
section
variable (a b:Array jh)
noncomputable abbrev dH(o:Array jh)(i j:Nat):=a.extract 0 i++b.extract 0 j++o.reverse
noncomputable abbrev fH(o:Array jh)(i j:Nat):=b.extract 0 j++a.extract 0 i++o.reverse
noncomputable abbrev SH(α:Type):=ForInStep (Option (Array jh)×Nat×Nat×Array jh×α)
def hiC(o:Array jh)(i j m k l:Nat):StateT SortSt Sem (SH (Nat×Nat×Nat)):=do
 let x ←jN a (i-1)
 if i-1 == 0 then pure (.done (some (dH a b (o.push x) (i-1) j),i-1,j,o.push x,m,k,l))
 else if decide (k<7) && decide (l<7)then pure (.done (none,i-1,j,o.push x,m,k,l))
 else pure (.yield (none,i-1,j,o.push x,m,k,l))
def hiB(o:Array jh)(i j m k q:Nat):StateT SortSt Sem (SH (Nat×Nat×Nat)):=do
 let x ←jN b (j-1)
 if j-1 == 1 then pure (.done (some (fH a b (o.push x) i (j-1)),i,j-1,o.push x,m,k,q))
 else do
  let y ←jN a (i-1)
  match ←vK true y b 0 (j-1) (j-1-1)with
  |some l=>
   if j-1-l>0 then
    if l == 1 then pure (.done (some (fH a b (o.push x++(b.extract l (j-1)).reverse) i l),i,l,o.push x++(b.extract l (j-1)).reverse,m,k,j-1-l))
    else if l == 0 then pure (.done (some (dH a b (o.push x++(b.extract l (j-1)).reverse) i l),i,l,o.push x++(b.extract l (j-1)).reverse,m,k,j-1-l))
    else hiC a b (o.push x++(b.extract l (j-1)).reverse) i l m k (j-1-l)
   else hiC a b (o.push x) i (j-1) m k (j-1-l)
  |_=>pure (.done (some (dH a b (o.push x) i (j-1)),i,j-1,o.push x,m,k,q))
def hiA(o:Array jh)(i j m p q:Nat):StateT SortSt Sem (SH (Nat×Nat×Nat)):=do
 qH m
 let x ←jN b (j-1)
 match ←vK false x a 0 i (i-1)with
 |some k=>
  if i-k>0 then
   if k == 0 then pure (.done (some (dH a b (o++(a.extract k i).reverse) k j),k,j,o++(a.extract k i).reverse,m,i-k,q))
   else hiB a b (o++(a.extract k i).reverse) k j m (i-k) q
  else hiB a b o i j m (i-k) q
 |_=>pure (.done (some (dH a b o i j),i,j,o,m,p,q))
def Tv(m:Nat)(o:Array jh)(i j p q:Nat):StateT SortSt Sem (SH (Nat×Nat)):=do
 let y ←jN b (j-1)
 let x ←jN a (i-1)
 match ←lt' y x with
 |some c=>
  if c then do
   let z ←jN a (i-1)
   if i-1 == 0 then pure (.done (some (dH a b (o.push z) (i-1) j),i-1,j,o.push z,p+1,0))
   else if p+1 ≥ m then pure (.done (none,i-1,j,o.push z,p+1,0))
   else pure (.yield (none,i-1,j,o.push z,p+1,0))
  else do
   let z ←jN b (j-1)
   if j-1 == 1 then pure (.done (some (fH a b (o.push z) i (j-1)),i,j-1,o.push z,0,q+1))
   else if q+1 ≥ m then pure (.done (none,i,j-1,o.push z,0,q+1))
   else pure (.yield (none,i,j-1,o.push z,0,q+1))
 |_=>pure (.done (some (dH a b o i j),i,j,o,p,q))
def hi0(o:Array jh)(i j m:Nat):StateT SortSt Sem (SH Nat):=do
 let r ←forIn [0:a.size+b.size] (none,i,j,o,0,0) λ_ s=>Tv a b m s.2.2.2.1 s.2.1 s.2.2.1 s.2.2.2.2.1 s.2.2.2.2.2
 Break.runK.match_1 (λ_=>StateT SortSt Sem (SH Nat)) r.1 (λv=>pure (.done (some v,r.2.1,r.2.2.1,r.2.2.2.1,m))) λ_=>do
  rule "list.sort.gallop"
  let r ←forIn [0:a.size+b.size] (none,r.2.1,r.2.2.1,r.2.2.2.1,m+1,r.2.2.2.2.1,r.2.2.2.2.2) λ_ s=>if s.2.2.2.2.1>1 then hiA a b s.2.2.2.1 s.2.1 s.2.2.1 (s.2.2.2.2.1-1) s.2.2.2.2.2.1 s.2.2.2.2.2.2 else hiA a b s.2.2.2.1 s.2.1 s.2.2.1 s.2.2.2.2.1 s.2.2.2.2.2.1 s.2.2.2.2.2.2
  Break.runK.match_1 (λ_=>StateT SortSt Sem (SH Nat)) r.1 (λv=>pure (.done (some v,r.2.1,r.2.2.1,r.2.2.2.1,r.2.2.2.2.1))) λ_=>do
   qH (r.2.2.2.2.1+1)
   pure (.yield (none,r.2.1,r.2.2.1,r.2.2.2.1,r.2.2.2.2.1+1))
def Ia:EH a b=(do
 rule "list.sort.merge-hi"
 let x ←jN a (a.size-1)
 if a.size-1 == 0 then pure (dH a b #[x] (a.size-1) b.size)
 else if b.size == 1 then pure (fH a b #[x] (a.size-1) b.size)
 else do
  let st ←get
  let r ←forIn [0:a.size+b.size] (none,a.size-1,b.size,#[x],kE st) λ_ s=>hi0 a b s.2.2.2.1 s.2.1 s.2.2.1 s.2.2.2.2
  Break.runK.match_1 (λ_=>StateT SortSt Sem (Array jh)) r.1 (λv=>pure v) λ_=>kB "internal:list.sort.merge-bound"):=rfl
end
section
variable {prog:jq}{w:ju}{A:Around}{E:Ψ}{s:Shared}{κ:jK}{P:jh->Prop}{lt:jh->jh->Bool}
def CT(C:zl prog w A s κ P lt){a:Array jh}{i:Nat}{x:jh}(ha:∀x,x∈a->P x)(sa:xn lt a.toList)(z:a[i]?=some x):∀y∈a.toList.take (i+1),lt x y=false:=by
 obtain⟨hi,e⟩:=aN.mp z;have u:a.toList[i]?=some x:=by rw[ao];exact z
 have B:xn lt (a.toList.take (i+1)):=sa.sublist (aT _ _);rw[cK,u]at B ⊢;intro y t;rcases mAq.mp t with t|t
 .exact(aB.mp B).2.2 y t x (by simp)
 .have:y=x:=by simpa using t
  rw[this];exact C.refl (ha _ (by rw[←e];exact ba hi))
noncomputable def uX{a:Array jh}{i:Nat}{y:jh}(h:y∈a.toList.take i):y∈a:=by simpa using bC h
def yr{a:Array jh}{n:Nat}{x:jh}(h:x∈a.toList.take n):∃j,j<n/\a[0+j]?=some x:=by
 have t:x∈(a.toList.drop 0).take n:=by rw[dB];exact h
 exact vW t
def va{a:Array jh}{k n:Nat}{x:jh}(h:x∈(a.toList.take n).drop k):∃j,k<=j/\j<n/\a[0+j]?=some x:=by
 obtain⟨j,t,e⟩:=cC.mp h;rw[ar,lTq,ah]at t;refine⟨k+j,by lia,by lia,?_⟩
 rw[eN,fQ]at e;rw[aN];exact⟨by lia,by simpa using e⟩
structure MG (lt:jh->jh->Bool)(a b:Array jh)(n:Nat)(x:Ls):Prop where
 m:MH lt a b x.o x.i x.j
 p:0<x.i
 q:1<x.j
 r:x.i+x.j+n<=a.size+b.size
noncomputable abbrev H6(x:Ls):=(x.i,x.j,x.o,x.m,x.p,x.q)
noncomputable abbrev H5(x:Ls):=(x.i,x.j,x.o,x.p,x.q)
noncomputable abbrev H4(x:Ls):=(x.i,x.j,x.o,x.m)
variable {a b:Array jh}{st:SortSt}{Q:Array jh->SortSt->Prop}{n:Nat}{x:Ls}{o:Array jh}{u v i j m k l g:Nat}
abbrev Hf(lt:jh->jh->Bool)(a b:Array jh):=∀x∈b.toList.take 1,∀y∈a.toList,lt y x=false
def hiF(H:Lo prog w A s κ P lt a b st Q)(t:Hf lt a b)(m:MH lt a b o i 1):Q (b.extract 0 1++a.extract 0 i++o.reverse) (sg st g):=H.h _ _ (m.firstB H.sa H.sb λx z y B=>t x z y (bC B))
def Sa(H:Lo prog w A s κ P lt a b st Q)(q:MG lt a b n ⟨o,u+1,j,m,k,l,g⟩)(hi:∀z,a[u]?=some z->∀y∈b.toList.take j,lt z y=false) :
  wpS (jk prog w) A E s (hiC a b o (u+1) j m k l) (Lp H6 (λx=>sg st x.g) (MG lt a b n) (MG lt a b n) Q) (sg st g):=by
 dsimp only[hiC,dR];have B:a[u]?=some (a[u]'q.m.la):=ae q.m.la;refine jj (oB B ?_);have G:=q.m.pushA H.sa B (hi _ B)
 by_cases t:u=0
 .rw[oa (by simp[t])]
  exact jl (.r _ _ _ (H.h _ _ (G.end H.sa H.sb (.inl t))))
 rw[nY (by simpa using t)]
 have R:MG lt a b n ⟨_,_,_,m,k,l,g⟩:=⟨G,fK t,q.q,by have:=q.r;dsimp only at *;lia⟩
 split
 .exact jl (.d _ R)
 .exact jl (.y _ R)
def Qe(H:Lo prog w A s κ P lt a b st Q)(hf:Hf lt a b)(q:MG lt a b n ⟨o,u+1,v+1,m,k,l,g⟩)(hi:∀z,b[v]?=some z->∀y∈a.toList.take (u+1),lt z y=false) :
  wpS (jk prog w) A E s (hiB a b o (u+1) (v+1) m k l) (Lp H6 (λx=>sg st x.g) (MG lt a b n) (MG lt a b n) Q) (sg st g):=by
 dsimp only[hiB,dR];have la:u<a.size:=q.m.la;have lb:v<b.size:=q.m.lb;have p2:1<v+1:=q.q;have p3:u+1+(v+1)+n<=a.size+b.size:=q.r;have I:b[v]?=some b[v]:=ae lb;refine jj (oB I ?_);have J:=q.m.pushB H.sb I (hi _ I)
 by_cases L:v=1
 .rw[oa (by simp[L])]
  subst L;exact jl (.r _ _ _ (hiF H hf J))
 rw[nY (by simpa using L)]
 have M:a[u]?=some a[u]:=ae la;have G:=H.ha _ (ba la);refine jj (oB M (jj (tL H.C (base:=0) (n:=v) (by lia) (by lia) H.hb G H.hk (Bc H.C (by lia) H.hb G (by rw[dB];exact H.sb)) λl l1 l2 l3=>?_)))
 have hB:∀z,a[u]?=some z->∀y∈b.toList.take l,lt z y=false:=λz hz y B=>by
  obtain⟨O,t,R⟩:=yr B;have q:=l2 O t;rw[sN R,oa rfl]at q;rw[M]at hz;cases hz;exact H.C.asym _ _ (H.hb _ (uX B)) G q
 dsimp only
 by_cases cl:v-l>0
 .rw[oa cl];have S:=J.moreB H.sb (k:=l) l1 λx hx y B=>by
   obtain⟨O,U,t,R⟩:=va B;have q:=l3 O U t;rw[sN R,oa rfl]at q;exact H.C.trans _ _ _ (H.ha _ (uX hx)) G (H.hb y (bx B |> uX)) (CT H.C H.ha H.sa M x hx) q
  by_cases X:l=1
  .rw[oa (by simp[X])]
   subst X;exact jl (.r _ _ _ (hiF H hf S))
  rw[nY (by simpa using X)]
  by_cases Y:l=0
  .rw[oa (by simp[Y])]
   exact jl (.r _ _ _ (H.h _ _ (S.end H.sa H.sb (.inr Y))))
  rw[nY (by simpa using Y)]
  exact Sa H ⟨S,q.p,by dsimp only;lia,by dsimp only;lia⟩ hB
 .rw[nY cl];have:l=v:=by lia
  subst this;exact Sa H ⟨J,q.p,by dsimp only;lia,by dsimp only;lia⟩ hB
def Rj(H:Lo prog w A s κ P lt a b st Q)(R:Hf lt a b)(q:MG lt a b n x) :
  wpS (jk prog w) A E s (hiA a b x.o x.i x.j x.m x.p x.q) (Lp H6 (λx=>sg st x.g) (MG lt a b n) (MG lt a b n) Q) (sg st x.g):=by
 obtain⟨o,i,j,m,p,q',g⟩:=x;have la:i<=a.size:=q.m.la;have p1:0<i:=q.p;have S:1<j:=q.q;have p3:i+j+n<=a.size+b.size:=q.r;obtain⟨v,rfl⟩:∃v,j=v+1:=⟨j-1,by lia⟩
 have lb:v<b.size:=q.m.lb;dsimp only[hiA,dR];have I:b[v]?=some b[v]:=ae lb;have B:=H.hb _ (ba lb);refine jj (xU (jj (oB I (jj (tL H.C (base:=0) (n:=i) (by lia) (by lia) H.ha B H.hk (Bc H.C (by lia) H.ha B (by rw[dB];exact H.sa)) λk k1 k2 k3=>?_)))))
 have U:∀z,b[v]?=some z->∀y∈a.toList.take k,lt z y=false:=λz X y G=>by
  obtain⟨J,t,L⟩:=yr G;have q:=k2 J t;rw[sN L,nY (by decide)]at q
  rw[I]at X;cases X;simpa using q
 dsimp only
 by_cases Y:i-k>0
 .rw[oa Y];have m3:=q.m.moreA H.sa (k:=k) k1 λx hx y G=>by
   obtain⟨J,M,t,L⟩:=va G;have q:=k3 J M t;rw[sN L,nY (by decide)]at q
   have py:=H.ha y (bx G |> uX);exact H.C.trans _ _ _ (H.hb _ (uX hx)) B py (CT H.C H.hb H.sb I x hx) (H.C.asym _ _ B py (by simpa using q))
  by_cases O:k=0
  .rw[oa (by simp[O])]
   exact jl (.r _ _ _ (H.h _ m (m3.end H.sa H.sb (.inl O))))
  rw[nY (by simpa using O)]
  obtain⟨u,rfl⟩:∃u,k=u+1:=⟨k-1,by lia⟩
  exact Qe H R (g:=m) ⟨m3,eG _,S,by dsimp only;lia⟩ U
 .rw[nY Y];have:k=i:=by lia
  subst this;obtain⟨u,rfl⟩:∃u,k=u+1:=⟨k-1,by lia⟩
  exact Qe H R (g:=m) ⟨q.m,p1,S,p3⟩ U
def XT(H:Lo prog w A s κ P lt a b st Q)(M:Hf lt a b)(q:MG lt a b (n+j) x) :
  wpS (jk prog w) A E s (Tv a b m x.o x.i x.j x.p x.q) (Lp H5 (λx=>sg st x.g) (MG lt a b (n+(j+1))) (MG lt a b (n+1)) Q) (sg st x.g):=by
 obtain⟨o,i,k,X,p,O,g⟩:=x;have S:0<i:=q.p;have U:1<k:=q.q;have Y:i+k+(n+j)<=a.size+b.size:=q.r;obtain⟨u,rfl⟩:∃u,i=u+1:=⟨i-1,by lia⟩
 obtain⟨v,rfl⟩:∃v,k=v+1:=⟨k-1,by lia⟩
 have la:u<a.size:=q.m.la;have lb:v<b.size:=q.m.lb;dsimp only[Tv,dR];have G:a[u]?=some a[u]:=ae la;have I:b[v]?=some b[v]:=ae lb;have J:=H.ha _ (ba la);have L:=H.hb _ (ba lb);refine jj (oB I (jj (oB G (jj (H.C.cmp L J H.hk ?_)))));cases e:lt b[v] a[u]with
 |true=>
  dsimp only;rw[oa rfl];refine jj (oB G ?_);have z:=q.m.pushA H.sa G λy B=>H.C.trans _ _ _ (H.hb _ (uX B)) L J (CT H.C H.hb H.sb I y B) (H.C.asym _ _ L J e)
  by_cases t:u=0
  .rw[oa (by simp[t])]
   exact jl (.r _ _ _ (H.h _ _ (z.end H.sa H.sb (.inl t))))
  rw[nY (by simpa using t)]
  have R:∀n,u+(v+1)+n<=a.size+b.size->MG lt a b n ⟨_,_,_,0,p+1,0,g⟩:=λn hn=>⟨z,fK t,U,hn⟩
  split
  .exact jl (.d _ (R _ (by lia)))
  .exact jl (.y _ (R _ (by lia)))
 |false=>
  dsimp only;rw[nY (by decide)]
  refine jj (oB I ?_);have z:=q.m.pushB H.sb I λy B=>H.C.trans _ _ _ (H.ha _ (uX B)) J L (CT H.C H.ha H.sa G y B) e
  by_cases t:v=1
  .rw[oa (by simp[t])]
   subst t;exact jl (.r _ _ _ (hiF H M z))
  rw[nY (by simpa using t)]
  have R:∀n,u+1+v+n<=a.size+b.size->MG lt a b n ⟨_,_,_,0,0,O+1,g⟩:=λn hn=>⟨z,S,by dsimp only;lia,hn⟩
  split
  .exact jl (.d _ (R _ (by lia)))
  .exact jl (.y _ (R _ (by lia)))
def YB(H:Lo prog w A s κ P lt a b st Q)(B:Hf lt a b)(q:MG lt a b n x) :
  wpS (jk prog w) A E s (hi0 a b x.o x.i x.j x.m) (Lp H4 (λx=>sg st x.g) (MG lt a b (n+1)) (λ_=>False) Q) (sg st x.g):=by
 refine wC H5 (λx=>sg st x.g) (λj=>MG lt a b (n+j)) (MG lt a b (n+1)) Q ⟨x.o,x.i,x.j,0,0,0,x.g⟩ ⟨q.m,q.p,q.q,q.r⟩ (λj x q=>XT H B q) (λy h=>⟨h.m,h.p,h.q,by have:=h.r;have:=h.p;have:=h.q;lia⟩) (λy q=>?_) λr y G hr=>jl (.r _ _ _ hr)
 refine jj (wI ?_);refine wC H6 (λx=>sg st x.g) (λ_=>MG lt a b (n+1)) (MG lt a b (n+1)) Q ⟨y.o,y.i,y.j,x.m+1,y.p,y.q,y.g⟩ ⟨q.m,q.p,q.q,q.r⟩ (λj z q=>?_) (λ_ h=>h) (λz q=>?_) λr y G hr=>jl (.r _ _ _ hr)
 .dsimp only;split
  .exact Rj H B (x:=⟨_,_,_,z.m-1,_,_,z.g⟩) ⟨q.m,q.p,q.q,q.r⟩
  .exact Rj H B q
 .refine jj (xU (jl ?_));exact Lp.y (t:=H4) (v:=λx=>sg st x.g) ⟨_,_,_,z.m+1,0,0,z.m+1⟩ ⟨q.m,q.p,q.q,q.r⟩
def JN(C:zl prog w A s κ P lt)(ha:∀x,x∈a->P x)(hb:∀x,x∈b->P x)(hk:kindOf st=κ)(sa:xn lt a.toList)(sb:xn lt b.toList)
  (L:0<a.size) (M:0<b.size) (J:∀x∈b.toList.take 1,∀y∈a.toList,lt y x=false) (hl:∀x,a[a.size-1]?=some x->∀y∈b.toList,lt x y=false)
  (h:∀r g,TB lt a b r->Q r (sg st g)):wpS (jk prog w) A E s (EH a b) Q st:=by
 have H:Lo prog w A s κ P lt a b st Q:=⟨C,ha,hb,hk,sa,sb,h⟩;rw[Ia];refine jj (wI ?_);have t:a[a.size-1]?=some (a[a.size-1]'(by lia)):=ae (by lia)
 refine jj (oB t ?_);have O:MH lt a b #[] (a.size-1+1) b.size:=⟨by lia,aa _,by
  rw[show a.size-1+1=a.toList.length by simp;lia,aE,←ah,aE];simp,by simp[xn],by simp,by simp⟩
 have G:MH lt a b #[a[a.size-1]'(by lia)] (a.size-1) b.size:=O.pushA sa t λy R=>hl _ t y (bC R)
 by_cases B:a.size-1=0
 .rw[oa (by simp[B])]
  exact jl (h _ (kE st) (G.end sa sb (.inl B)))
 rw[nY (by simpa using B)]
 by_cases I:b.size=1
 .rw[oa (by simp[I])]
  have z:=G;rw[I]at z ⊢;exact jl (hiF H J (g:=kE st) z)
 rw[nY (by simpa using I)]
 refine jj (ko ?_);exact wC H4 (λx=>sg st x.g) (λi=>MG lt a b (i+1)) (λ_=>False) Q ⟨_,a.size-1,b.size,_,0,0,kE st⟩ ⟨G,fK B,show 1<b.size by lia,show a.size-1+b.size+1<=a.size+b.size by lia⟩ (λi x q=>YB H J q) (λx h=>by have:=h.p;have:=h.q;have:=h.r;lia) (λx h=>h.elim) λr y S hr=>jl hr
end
def Ar(lt:jh->jh->Bool)(xs:Array jh)(i j:Nat):Prop:=∀p q x y,i<=p->p<=q->q<j->xs[p]?=some x->xs[q]?=some y->lt y x=false
def Tz(lt:jh->jh->Bool)(xs:Array jh)(i j:Nat):Prop:=∀p q x y,i<=p->p<=q->q<j->xs[p]?=some x->xs[q]?=some y->lt x y=false
def Eqv(lt:jh->jh->Bool)(xs:Array jh)(i j:Nat):Prop:=∀p q x y,i<=p->p<j->i<=q->q<j->xs[p]?=some x->xs[q]?=some y->lt x y=false
section
variable {lt:jh->jh->Bool}{xs:Array jh}{i j lo n:Nat}
def Km(s:j<=xs.size)(h:Tz lt xs i j):Ar lt (mirror xs i j ((j-i) / 2)) i j:=by
 intro p q x y u B z ex t;rw[kr s,oa ⟨u,by lia⟩]at ex
 rw[kr s,oa ⟨by lia,z⟩]at t
 exact h _ _ _ _ (by lia) (by lia) (by lia) t ex
def Af(B:j<=xs.size)(hi:lo<=i)(hn:j<=n)(e:Eqv lt xs i j)(h:Tz lt xs lo n):Tz lt (mirror xs i j ((j-i) / 2)) lo n:=by
 intro p q x y u E z ex s;rw[kr B]at ex s
 by_cases cp:i<=p/\p<j
 .rw[oa cp]at ex
  by_cases t:i<=q/\q<j
  .rw[oa t]at s;exact e _ _ _ _ (by lia) (by lia) (by lia) (by lia) ex s
  .rw[nY t]at s;exact h _ _ _ _ (by lia) (by lia) z ex s
 .rw[nY cp]at ex
  by_cases t:i<=q/\q<j
  .rw[oa t]at s;exact h _ _ _ _ u (by lia) (by lia) ex s
  .rw[nY t]at s;exact h _ _ _ _ u E z ex s
end
section
variable (lo:Nat)
def crA(n:Nat):StateT SortSt Sem (ForInStep (Option (Option Nat)×Nat)):=do
 match ←ltAt' (lo+n) (lo+n-1)with
 |some c=>if c then pure (.done (none,n))else pure (.yield (none,n+1))
 |_=>pure (.done (some none,n))
def crB(n q:Nat):StateT SortSt Sem (ForInStep (Option (Option Nat)×Nat×Nat)):=do
 match ←ltAt' (lo+n) (lo+n-1)with
 |some c=>
  if c then
   if q>0 then do
    let _ ←kC (lo+n-(q+1)) (lo+n)
    pure (.yield (none,n+1,0))
   else pure (.yield (none,n+1,0))
  else do
   match ←ltAt' (lo+n-1) (lo+n)with
   |some c=>if c then pure (.done (none,n,q))else pure (.yield (none,n+1,q+1))
   |_=>pure (.done (some none,n,q))
 |_=>pure (.done (some none,n,q))
def crZ(t n:Nat):StateT SortSt Sem (Option Nat):=do
 kC lo (lo+n)
 let r ←forIn [n:t] (none,n) λ_ s=>crA lo s.2
 Break.runK.match_1 (λ_=>StateT SortSt Sem (Option Nat)) r.1 (λv=>pure v) λ_=>pure (some r.2)
def crD(t n:Nat):StateT SortSt Sem (Option Nat):=do
 rule "list.sort.descending-run"
 let r ←forIn [n+1:t] (none,n+1,0) λ_ s=>crB lo s.2.1 s.2.2
 Break.runK.match_1 (λ_=>StateT SortSt Sem (Option Nat)) r.1 (λv=>pure v) λ_=>
  if r.2.2>0 then do
   let _ ←kC (lo+r.2.1-(r.2.2+1)) (lo+r.2.1)
   crZ lo t r.2.1
  else crZ lo t r.2.1
def aap(t:Nat):countRun' lo t=(do
 let r ←forIn [1:t] (none,1) λ_ s=>crA lo s.2
 Break.runK.match_1 (λ_=>StateT SortSt Sem (Option Nat)) r.1 (λv=>pure v) λ_=>
  if r.2 == t then pure (some r.2)
  else if r.2>1 then do
   match ←ltAt' lo (lo+r.2-1)with
   |some c=>
    if c then pure (some r.2)
    else do
     let _ ←kC lo (lo+r.2)
     crD lo t r.2
   |_=>pure none
  else crD lo t r.2):=countRun'_eq lo t
end
section
variable {prog:jq}{w:ju}{A:Around}{E:Ψ}{s:Shared}{κ:jK}{P:jh->Prop}{lt:jh->jh->Bool}
def V5(C:zl prog w A s κ P lt){xs:Array jh}(u:∀x,x∈xs->P x)(lo:Nat):Ar lt xs lo (lo+1):=by
 intro p q x y z B G ex t;have e:p=q:=by lia
 subst e;rw[ex]at t;cases t;exact C.refl (u _ (aQq ex))
def Q6(C:zl prog w A s κ P lt){xs:Array jh}(u:∀x,x∈xs->P x){lo n:Nat}(h:Ar lt xs lo (lo+(n+1)))(G:∀x y,xs[lo+(n+1)]?=some x->xs[lo+n]?=some y->lt x y=false)(J:lo+(n+1)<xs.size):Ar lt xs lo (lo+(n+2)):=by
 intro p q x y B H L ex t
 by_cases c:q<lo+(n+1)
 .exact h p q x y B H c ex t
 .have eq:q=lo+(n+1):=by lia
  subst eq
  by_cases I:p=lo+(n+1)
  .subst I;rw[ex]at t;cases t;exact C.refl (u _ (aQq ex))
  .have z:xs[lo+n]?=some (xs[lo+n]'(by lia)):=ae (by lia)
   exact C.trans _ _ _ (u _ (aQq ex)) (u _ (aQq z)) (u _ (aQq t)) (h p (lo+n) _ _ B (by lia) (by lia) ex z) (G _ _ t z)
def IL(C:zl prog w A s κ P lt){xs:Array jh}(u:∀x,x∈xs->P x){lo n:Nat}(h:Tz lt xs lo (lo+(n+1)))(G:∀x y,xs[lo+(n+1)]?=some x->xs[lo+n]?=some y->lt y x=false)(J:lo+(n+1)<xs.size):Tz lt xs lo (lo+(n+2)):=by
 intro p q x y B H L ex t
 by_cases c:q<lo+(n+1)
 .exact h p q x y B H c ex t
 .have eq:q=lo+(n+1):=by lia
  subst eq
  by_cases I:p=lo+(n+1)
  .subst I;rw[ex]at t;cases t;exact C.refl (u _ (aQq ex))
  .have z:xs[lo+n]?=some (xs[lo+n]'(by lia)):=ae (by lia)
   exact C.trans _ _ _ (u _ (aQq t)) (u _ (aQq z)) (u _ (aQq ex)) (G _ _ t z) (h p (lo+n) _ _ B (by lia) (by lia) ex z)
def JO(C:zl prog w A s κ P lt){lo t a:Nat}{st:SortSt}(L:∀x,x∈jw st->P x)(hk:kindOf st=κ)(ha:1<=a)(z:a<=t)(U:lo+t<=(jw st).size)(Q:Ar lt (jw st) lo (lo+a)) :
  wpS (jk prog w) A E s (forIn [a:t] ((none,a):Option (Option Nat)×Nat) λ_ s=>crA lo s.2)
   (λc u=>∃n,c=(none,n)/\u=st/\a<=n/\n<=t/\Ar lt (jw st) lo (lo+n)/\(n=t∨∃x y,(jw st)[lo+n]?=some x/\(jw st)[lo+n-1]?=some y/\lt x y=true)) st:=by
 refine jC (I:=λi c u=>c=(none,i)/\u=st/\a<=i/\i<=t/\Ar lt (jw st) lo (lo+i)) ?step ?fin ⟨rfl,rfl,aa _,z,Q⟩
 case step=>
  rintro i c u X R ⟨rfl,rfl,H,M,B⟩;obtain⟨k,rfl⟩:∃k,i=k+1:=⟨i-1,by lia⟩
  have ex:(jw u)[lo+(k+1)]?=some ((jw u)[lo+(k+1)]'(by lia)):=ae (by lia)
  have J:(jw u)[lo+(k+1)-1]?=some ((jw u)[lo+k]'(by lia)):=ae (by lia)
  refine jj (C.at ex J (L _ (aQq ex)) (L _ (aQq J)) hk ?_);cases e:lt ((jw u)[lo+(k+1)]'(by lia)) ((jw u)[lo+k]'(by lia))with
  |true=>exact jl ⟨_,rfl,rfl,H,M,B,.inr ⟨_,_,ex,J,e⟩⟩
  |false=>
   refine jl ⟨rfl,rfl,by lia,R,Q6 C L B (λx y O S=>?_) (by lia)⟩
   have G:(jw u)[lo+(k+1)-1]?=some y:=S;rw[ex]at O;rw[J]at G;cases O;cases G;exact e
 case fin=>
  rintro c u ⟨rfl,rfl,H,M,B⟩;have e:max a t=t:=iB z;rw[e]at H M B ⊢;exact⟨t,rfl,rfl,H,aa _,B,.inl rfl⟩
def C4{i j:Nat}{st:SortSt}{Q:Unit->SortSt->Prop}(h:Q () (jD st (mirror (jw st) i j ((j-i) / 2)))):wpS (jk prog w) A E s (kC i j) Q st:=by
 rw[reverseSlice'_eq];exact kg h
structure yf (xs ys:Array jh)(lo hi:Nat):Prop where
 pm:ys.Perm xs
 out:∀k,(k<lo∨hi<=k)->ys[k]?=xs[k]?
theorem yf.refl(xs:Array jh)(lo hi:Nat):yf xs xs lo hi:=⟨iJ.refl _,λ_ _=>rfl⟩
theorem yf.trans{xs ys t:Array jh}{lo hi:Nat}(a:yf xs ys lo hi)(b:yf ys t lo hi):yf xs t lo hi:=⟨b.pm.trans a.pm,λk h=>(b.out k h).trans (a.out k h)⟩
def yf.mono{xs ys:Array jh}{lo hi t:Nat}(a:yf xs ys lo hi)(h:hi<=t):yf xs ys lo t:=⟨a.pm,λk q=>a.out k (by lia)⟩
theorem yf.size{xs ys:Array jh}{lo hi:Nat}(a:yf xs ys lo hi):ys.size=xs.size:=a.pm.size_eq
def yf.mem{xs ys:Array jh}{lo hi:Nat}(a:yf xs ys lo hi){P:jh->Prop}(h:∀x,x∈xs->P x):∀x,x∈ys->P x:=λx t=>h x (a.pm.mem_iff.mp t)
def xB{xs:Array jh}{lo hi i j:Nat}(t:j<=xs.size)(u:lo<=i)(x:j<=hi):yf xs (mirror xs i j ((j-i) / 2)) lo hi:=
 ⟨mirror_perm _ _ _ _,λk hk=>by rw[kr t,nY (by lia)]⟩
structure CR (lt:jh->jh->Bool)(as:Array jh)(lo i q:Nat)(ys:Array jh):Prop where
 b:yf as ys lo (lo+i)
 d:Tz lt ys lo (lo+i)
 e:Eqv lt ys (lo+i-(q+1)) (lo+i)
 p:q+1<=i
def Dl(C:zl prog w A s κ P lt){ys:Array jh}(z:∀x,x∈ys->P x){i j:Nat}(h:j<=i+1):Eqv lt ys i j:=by
 intro p q x y B g2 G H t u;have e:p=q:=by lia
 subst e;rw[t]at u;cases u;exact C.refl (z _ (aQq t))
def X4(C:zl prog w A s κ P lt){lo z k t:Nat}{st:SortSt}{ys:Array jh}(S:∀x,x∈jw st->P x)(hk:kindOf st=κ)(hz:lo+z<=(jw st).size)(hi:k+1<z)(g:CR lt (jw st) lo (k+1) t ys) :
  wpS (jk prog w) A E s (crB lo (k+1) t) (λr Fb=>∃m q U,Fb=jD st U/\m<=z/\CR lt (jw st) lo m q U/\(r = .done (none,m,q)∨r = .yield (none,m,q)/\m=k+1+1)) (jD st ys):=by
 have I:=g.b;have g2:=g.d;have Q:=g.e;have g4:=g.p;have u:=I.mem S;have hsz:=I.size;have ex:ys[lo+(k+1)]?=some (ys[lo+(k+1)]'(by lia)):=ae (by lia)
 have G:ys[lo+(k+1)-1]?=some (ys[lo+k]'(by lia)):=ae (by lia)
 have H:=u _ (aQq ex);have py:=u _ (aQq G);have J:lt (ys[lo+k]'(by lia)) (ys[lo+(k+1)]'(by lia))=false->Tz lt ys lo (lo+(k+1+1)):=λe=>IL C u g2 (λx y X hy=>by
  have L:ys[lo+(k+1)-1]?=some y:=hy;rw[ex]at X;rw[G]at L;cases X;cases L;exact e) (by lia)
 refine jj (C.at (st:=jD st ys) ex G H py hk ?_);cases e:lt (ys[lo+(k+1)]'(by lia)) (ys[lo+k]'(by lia))with
 |true=>
  have M:=J (C.asym _ _ H py e);dsimp only;rw[oa rfl]
  by_cases Y:t>0
  .rw[oa Y];refine jj (C4 (jl ?_));have bt:yf (jw st) (mirror ys (lo+(k+1)-(t+1)) (lo+(k+1)) ((lo+(k+1)-(lo+(k+1)-(t+1))) / 2)) lo (lo+(k+1)):=I.trans (xB (by lia) (by lia) (aa _))
   exact⟨_,0,_,rfl,hi,⟨bt.mono (by lia),Af (by lia) (by lia) (by lia) Q M,Dl C (bt.mem S) (by lia),by lia⟩,.inr ⟨rfl,rfl⟩⟩
  .rw[nY Y];exact jl ⟨_,0,ys,rfl,hi,⟨I.mono (by lia),M,Dl C u (by lia),by lia⟩,.inr ⟨rfl,rfl⟩⟩
 |false=>
  dsimp only;rw[nY (by decide)]
  refine jj (C.at (st:=jD st ys) G ex py H hk ?_);cases e':lt (ys[lo+k]'(by lia)) (ys[lo+(k+1)]'(by lia))with
  |true=>exact jl ⟨_,t,ys,rfl,bZ hi,g,.inl rfl⟩
  |false=>
   refine jl ⟨_,t+1,ys,rfl,hi,⟨I.mono (by lia),J e',?_,by lia⟩,.inr ⟨rfl,rfl⟩⟩
   intro p q x y h1 h2 h3 h4 O B;have qx:=u _ (aQq O);have qy:=u _ (aQq B)
   by_cases cp:p=lo+(k+1)
   .subst cp;rw[ex]at O;cases O
    by_cases R:q=lo+(k+1)
    .subst R;rw[ex]at B;cases B;exact C.refl H
    .exact C.trans _ _ _ qy py H (Q (lo+(k+1)-1) q _ _ (by lia) (by lia) (by lia) (by lia) G B) e
   .by_cases R:q=lo+(k+1)
    .subst R;rw[ex]at B;cases B;exact C.trans _ _ _ H py qx e' (Q p (lo+(k+1)-1) _ _ (by lia) (by lia) (by lia) (by lia) O G)
    .exact Q p q x y (by lia) (by lia) (by lia) (by lia) O B
abbrev aa1(lt:jh->jh->Bool)(st:SortSt)(lo t:Nat)(Q:Option Nat->SortSt->Prop):=∀n xs,1<=n->n<=t->yf (jw st) xs lo (lo+n)->Ar lt xs lo (lo+n)->Q (some n) (jD st xs)
def Ra(C:zl prog w A s κ P lt){lo t m:Nat}{st:SortSt}{ys:Array jh}{Q:Option Nat->SortSt->Prop}(G:∀x,x∈jw st->P x)(hk:kindOf st=κ)(H:lo+t<=(jw st).size)(h:aa1 lt st lo t Q)
  (I:1<=m) (J:m<=t) (b:yf (jw st) ys lo (lo+m)) (d:Tz lt ys lo (lo+m)):wpS (jk prog w) A E s (crZ lo t m) Q (jD st ys):=by
 refine jj (C4 ?_);have L:=b.size;have M:=Km (by lia) d
 have u:=b.trans (xB (i:=lo) (j:=lo+m) (by lia) (aa _) (aa _))
 refine jj (jJ (JO (st:=jD st _) C (u.mem G) hk I J (bq H (dD u.size.symm)) M) ?_);rintro c Fb ⟨O,rfl,rfl,R,z,B,_⟩;exact jl (h O _ (by lia) z (u.mono (by lia)) B)
def Rh(C:zl prog w A s κ P lt){lo t n:Nat}{st:SortSt}{xs:Array jh}{Q:Option Nat->SortSt->Prop}(B:∀x,x∈jw st->P x)(hk:kindOf st=κ)(G:lo+t<=(jw st).size)(h:aa1 lt st lo t Q)
  (hn:n<t) (b:yf (jw st) xs lo (lo+n)) (d:Tz lt xs lo (lo+(n+1))):wpS (jk prog w) A E s (crD lo t n) Q (jD st xs):=by
 refine jj (wI (jj (jJ (jC
  (I:=λi c Fb=>∃q u,c=(none,i,q)/\Fb=jD st u/\i<=t/\CR lt (jw st) lo i q u)
  (Q:=λc Fb=>∃m q u,c=(none,m,q)/\Fb=jD st u/\m<=t/\CR lt (jw st) lo m q u)
  ?_ ?_ ⟨0,xs,rfl,rfl,hn,b.mono (by lia),d,Dl C (b.mem B) (by lia),by lia⟩) ?_)))
 .rintro i c Fb _ hi ⟨q,u,rfl,rfl,_,g⟩;obtain⟨k,rfl⟩:∃k,i=k+1:=⟨i-1,by have:=g.p;lia⟩
  refine jJ (X4 C B hk G hi g) λr Fb hr=>?_
  obtain⟨m,q,H,rfl,z,J,rfl|⟨rfl,rfl⟩⟩:=hr
  .exact⟨m,q,H,rfl,rfl,z,J⟩
  .exact⟨q,H,rfl,rfl,z,J⟩
 .rintro c Fb ⟨q,u,rfl,rfl,z,g⟩;exact⟨_,q,u,rfl,rfl,z,g⟩
 .rintro c Fb ⟨m,q,u,rfl,rfl,z,g⟩;have M:=g.b.size;have O:=g.p;dsimp only
  by_cases L:q>0
  .rw[oa L];exact jj (C4 (Ra (st:=st) (ys:=mirror u (lo+m-(q+1)) (lo+m) ((lo+m-(lo+m-(q+1))) / 2)) C B hk G h (by lia) z (g.b.trans (xB (by lia) (by lia) (aa _))) (Af (by lia) (by lia) (aa _) g.e g.d)))
  .rw[nY L];exact Ra C B hk G h (by lia) z g.b g.d
def GX(C:zl prog w A s κ P lt){lo u:Nat}{st:SortSt}{Q:Option Nat->SortSt->Prop}(z:∀x,x∈jw st->P x)(hk:kindOf st=κ)(h1:1<=u)(R:lo+u<=(jw st).size)
  (h:∀n xs,1<=n->n<=u->yf (jw st) xs lo (lo+n)->Ar lt xs lo (lo+n)->Q (some n) (jD st xs)):wpS (jk prog w) A E s (countRun' lo u) Q st:=by
 rw[aap];refine jj (jJ (JO C z hk (aa 1) h1 R (V5 C z lo)) ?_);rintro c t ⟨n,rfl,rfl,n1,n2,H,S⟩;dsimp only;have G:Q (some n) t:=h n (jw t) n1 n2 (yf.refl _ _ _) H
 by_cases U:n=u
 .rw[oa (by simp[U])]
  exact jl G
 rw[nY (by simpa using U)]
 obtain⟨xb,yb,L,B,eb⟩:=S.resolve_left U;obtain⟨m,rfl⟩:∃m,n=m+1:=⟨n-1,by lia⟩
 have X:=z _ (aQq L);have I:=z _ (aQq B);have go:Eqv lt (jw t) lo (lo+(m+1))->Tz lt (jw t) lo (lo+(m+1+1)):=λe1=>
  IL C z (λp q x y Y g2 g3 ex ey=>e1 p q x y Y (by lia) (by lia) g3 ex ey) (λx y hx hy=>by
   have M:(jw t)[lo+(m+1)-1]?=some y:=hy;rw[L]at hx;rw[B]at M;cases hx;cases M;exact C.asym _ _ X I eb) (by lia)
 by_cases c2:m+1>1
 .rw[oa c2];have ex:(jw t)[lo]?=some ((jw t)[lo]'(by lia)):=ae (by lia)
  have J:=z _ (aQq ex);refine jj (C.at ex B J I hk ?_);cases e:lt ((jw t)[lo]'(by lia)) yb with
  |true=>exact jl G
  |false=>
   dsimp only;rw[nY (by decide)]
   have O:Eqv lt (jw t) lo (lo+(m+1)):=by
    intro p q x y Y g2 g3 g4 gx gy;have px:=z _ (aQq gx);have py:=z _ (aQq gy);have q1:=H q (lo+(m+1)-1) _ _ g3 (by lia) (by lia) gy B
    have q2:=H lo p _ _ (aa _) Y g2 ex gx;exact C.trans _ _ _ py J px (C.trans _ _ _ py I J q1 e) q2
   exact jj (C4 (Rh C z hk R h (by lia) (xB (by lia) (aa _) (aa _)) (Af (by lia) (aa _) (by lia) O (go O))))
 .rw[nY c2];exact Rh C z hk R h (by lia) (yf.refl _ _ _) (go (Dl C z (by lia)))
end
section
variable {prog:jq}{w:ju}{A:Around}{E:Ψ}{s:Shared}{κ:jK}{P:jh->Prop}{lt:jh->jh->Bool}
def VH(C:zl prog w A s κ P lt){xs:Array jh}(J:∀x,x∈xs->P x){lo k l:Nat}(Q:lo+k<xs.size)(hl:l<=k)(I:Ar lt xs lo (lo+k)){x:jh}(L:xs[lo+k]?=some x)
  (R:∀j y,j<l->xs[lo+j]?=some y->lt x y=false) (S:∀j y,l<=j->j<k->xs[lo+j]?=some y->lt x y=true):Ar lt (bubble xs (lo+k) (k-l)) lo (lo+(k+1)):=by
 have M:=J _ (aQq L);have g:∀p,(bubble xs (lo+k) (k-l))[p]?=if p=lo+l then some x else if lo+l<p/\p<=lo+k then xs[p-1]? else xs[p]?:=λp=>by
  rw[getElem?_bubble Q (k-l) (by lia) p,show lo+k-(k-l)=lo+l by lia,L]
 intro p q u v O U X z t;rw[g]at z t
 by_cases cp:p=lo+l
 .rw[oa cp]at z;cases z
  by_cases B:q=lo+l
  .rw[oa B]at t;cases t;exact C.refl M
  .rw[nY B,oa ⟨by lia,by lia⟩]at t
   have pv:=J _ (aQq t);exact C.asym _ _ M pv (S (q-1-lo) v (by lia) (by lia) (by rw[show lo+(q-1-lo)=q-1 by lia];exact t))
 .rw[nY cp]at z
  by_cases G:lo+l<p/\p<=lo+k
  .rw[oa G]at z;rw[nY (by lia),oa ⟨by lia,by lia⟩]at t
   exact I (p-1) (q-1) _ _ (by lia) (by lia) (by lia) z t
  .rw[nY G]at z
   by_cases B:q=lo+l
   .rw[oa B]at t;cases t;exact R (p-lo) u (by lia) (by rw[show lo+(p-lo)=p by lia];exact z)
   .rw[nY B]at t
    by_cases H:lo+l<q/\q<=lo+k
    .rw[oa H]at t;exact I p (q-1) _ _ O (by lia) (by lia) z t
    .rw[nY H]at t;exact I p q _ _ O U (by lia) z t
def K4{xs:Array jh}{lo k l n:Nat}(t:lo+k<xs.size)(hl:l<=k)(hn:k<n):yf xs (bubble xs (lo+k) (k-l)) lo (lo+n):=
 ⟨bubble_perm _ _ _,λp u=>by rw[getElem?_bubble t (k-l) (by lia) p,nY (by lia),nY (by lia)]⟩
def Sv{t u:Nat}{st:SortSt}{Q:Unit->SortSt->Prop}(h:Q () (jD st (bubble (jw st) t (t-u)))):wpS (jk prog w) A E s (moveDown' t u) Q st:=by
 rw[moveDown'_eq];exact kg h
def L1(C:zl prog w A s κ P lt){lo n ok:Nat}{st:SortSt}{Q:Bool->SortSt->Prop}(hp:∀x,x∈jw st->P x)(hk:kindOf st=κ)(h1:1<=ok)(h2:ok<=n)(hz:lo+n<=(jw st).size)(hs:Ar lt (jw st) lo (lo+ok))
  (h:∀xs,yf (jw st) xs lo (lo+n)->Ar lt xs lo (lo+n)->Q true (jD st xs)):wpS (jk prog w) A E s (binarySort' lo n ok) Q st:=by
 rw[binarySort'_eq];dsimp only;rw[Nat.max_eq_left h1];refine jj (jJ (jC (I:=λk c u=>∃t,c=(none,())/\u=jD st t/\yf (jw st) t lo (lo+n)/\Ar lt t lo (lo+k)/\k<=n)
  (Q:=λc u=>∃t,c=(none,())/\u=jD st t/\yf (jw st) t lo (lo+n)/\Ar lt t lo (lo+n)) ?step ?fin ⟨jw st,rfl,rfl,yf.refl _ _ _,hs,h2⟩) ?post)
 case fin=>
  rintro c u ⟨t,rfl,rfl,b1,B,q⟩;have e:max ok n=n:=by lia
  rw[e]at B;exact⟨t,rfl,rfl,b1,B⟩
 case post=>
  rintro c u ⟨t,rfl,rfl,b1,B⟩;exact jl (h t b1 B)
 case step=>
  rintro k c u hk1 L ⟨t,rfl,rfl,b1,B,q⟩;have z:=b1.mem hp;have hsz:=b1.size;have ex:t[lo+k]?=some (t[lo+k]'(by lia)):=ae (by lia)
  have R:=z _ (aQq ex);refine jj (jJ (jC (I:=λi c u=>∃l r,c=(none,l,r)/\u=jD st t/\l<=r/\r<=k/\(∀j y,j<l->t[lo+j]?=some y->lt (t[lo+k]'(by lia)) y=false)/\(∀j y,r<=j->j<k->t[lo+j]?=some y->lt (t[lo+k]'(by lia)) y=true)/\(r-l)+i<=k)
   (Q:=λc u=>∃l r,c=(none,l,r)/\u=jD st t/\l=r/\r<=k/\(∀j y,j<l->t[lo+j]?=some y->lt (t[lo+k]'(by lia)) y=false)/\(∀j y,r<=j->j<k->t[lo+j]?=some y->lt (t[lo+k]'(by lia)) y=true))
   ?step1 ?fin1 ⟨0,k,rfl,rfl,aJ _,aa _,λj y hj=>absurd hj (bW _),λj y U g2=>absurd g2 (by lia),by lia⟩) ?post1)
  case fin1=>
   rintro c u ⟨l,r,rfl,rfl,a1,G,H,J,a5⟩;exact⟨l,r,rfl,rfl,by lia,G,H,J⟩
  case step1=>
   rintro i c u _ hi ⟨l,r,rfl,rfl,a1,G,H,J,a5⟩;dsimp only
   by_cases X:l ≥ r
   .rw[oa X];exact jl ⟨l,r,rfl,rfl,by lia,G,H,J⟩
   rw[nY X];have O:t[lo+(l+r) / 2]?=some (t[lo+(l+r) / 2]'(by lia)):=ae (by lia)
   have pm:=z _ (aQq O);refine jj (C.at (st:=jD st t) ex O R pm hk ?_);cases e:lt (t[lo+k]'(by lia)) (t[lo+(l+r) / 2]'(by lia))with
   |true=>
    dsimp only;rw[oa rfl];refine jl ⟨l,_,rfl,rfl,by lia,by lia,H,λj y U g2 M=>?_,by lia⟩
    have py:=z _ (aQq M);cases e':lt (t[lo+k]'(by lia)) y with
    |true=>rfl
    |false=>
     have q1:=B (lo+(l+r) / 2) (lo+j) _ _ (by lia) (by lia) (by lia) O M
     have Y:=C.trans _ _ _ pm py R q1 e';rw[e]at Y;cases Y
   |false=>
    dsimp only;rw[nY (by decide)]
    refine jl ⟨_,r,rfl,rfl,by lia,G,λj y U M=>?_,J,by lia⟩
    have py:=z _ (aQq M);exact C.trans _ _ _ py pm R (B (lo+j) (lo+(l+r) / 2) _ _ (by lia) (by lia) (by lia) M O) e
  case post1=>
   rintro c u ⟨l,r,rfl,rfl,rfl,G,H,J⟩;dsimp only;refine jj (Sv (jl ?_));have e:lo+k-(lo+l)=k-l:=by lia
   show ∃S,_/\jD st (bubble t (lo+k) (lo+k-(lo+l)))=jD st S/\_;rw[e];exact⟨_,rfl,rfl,b1.trans (K4 (by lia) G L),VH C z (by lia) G B ex H J,L⟩
end
def qR(lt:jh->jh->Bool)(xs:Array jh):Nat->List (Nat×Nat×Nat)->Nat->Prop
 |s,[],e=>s=e
 |s,p::r,e=>p.1=s/\0<p.2.1/\Ar lt xs s (s+p.2.1)/\qR lt xs (s+p.2.1) r e
theorem sU{lt:jh->jh->Bool}{xs:Array jh}:∀{q r:List (Nat×Nat×Nat)}{s e:Nat},qR lt xs s (q++r) e↔∃m,qR lt xs s q m/\qR lt xs m r e
 | [],r,s,e=>by
  constructor
  .intro h;exact⟨s,rfl,h⟩
  .rintro⟨m,rfl,h⟩;exact h
 |p::q,r,s,e=>by
  constructor
  .rintro⟨t,u,x,z⟩;obtain⟨m,a,b⟩:=sU.mp z;exact⟨m,⟨t,u,x,a⟩,b⟩
  .rintro⟨m,⟨t,u,x,a⟩,b⟩;exact⟨t,u,x,sU.mpr ⟨m,a,b⟩⟩
theorem yR{lt:jh->jh->Bool}{xs:Array jh}:∀{q:List (Nat×Nat×Nat)}{s e:Nat},qR lt xs s q e->s+q.length<=e
 | [],s,e,h=>by have:s=e:=h;simp[this]
 |p::q,s,e,hz=>by
  obtain⟨_,u,_,t⟩:=hz;have:=yR t;rw[lCq];lia
theorem vt{lt:jh->jh->Bool}{xs ys:Array jh}:∀{q:List (Nat×Nat×Nat)}{s e:Nat},(∀k,s<=k->k<e->ys[k]?=xs[k]?)->qR lt xs s q e->qR lt ys s q e
 | [],s,e,_,h=>h
 |p::q,s,e,g,hz=>by
  obtain⟨z,B,E,t⟩:=hz;have l:=yR t;refine⟨z,B,λa b x y u G H ex I=>E a b x y u G H ?_ ?_,vt (λk L J=>g k (by lia) J) t⟩
  .rw[←g a u (by lia)];exact ex
  .rw[←g b (by lia) (by lia)];exact I
theorem Bf{lt:jh->jh->Bool}{xs:Array jh}:∀{q t:List (Nat×Nat×Nat)}{s e:Nat},t.map (λp=>(p.1,p.2.1))=q.map (λp=>(p.1,p.2.1))->qR lt xs s q e->qR lt xs s t e
 | [],t,s,e,g,h=>by
  have:t=[]:=by simpa using g
  subst this;exact h
 |p::q,[],s,e,g,h=>by simp at g
 |p::q,p'::t,s,e,g,hz=>by
  obtain⟨B,u,x,z⟩:=hz;simp only[ai,iQ.injEq,Prod.mk.injEq]at g;obtain⟨⟨E,g2⟩,G⟩:=g;rw[←g2]at u x z;exact⟨E.trans B,u,x,Bf G z⟩
theorem Fh(o:Nat):∀(M:List jh) (n:Nat) (xs:Array jh),o+n+M.length<=xs.size ->
  ((M.zipIdx n).foldl (λa x=>a.setIfInBounds (o+x.2) x.1) xs).toList=xs.toList.take (o+n)++M++xs.toList.drop (o+n+M.length)
 | [],n,xs,h=>by simp
 |y::r,n,xs,h=>by
  rw[List.zipIdx_cons,cg];rw[lCq]at h;rw[Fh o r (n+1) _ (by rw[Array.size_setIfInBounds];lia),fM]
  have hl:o+n<xs.toList.length:=by rw[ah];lia
  have s:(xs.toList.set (o+n) y).take (o+(n+1))=xs.toList.take (o+n)++[y]:=by
   rw[←dP,cK,bg hl,List.take_set_of_le (aa _)];rfl
  have t:(xs.toList.set (o+n) y).drop (o+(n+1)+r.length)=xs.toList.drop (o+n+(r.length+1)):=by
   rw[List.drop_set_of_lt (by lia)]
   congr 1;lia
  rw[s,t,lCq,ak,ak,ak];rfl
section
variable {prog:jq}{w:ju}{A:Around}{E:Ψ}{s:Shared}{κ:jK}{P:jh->Prop}{lt:jh->jh->Bool}
def MR(C:zl prog w A s κ P lt){left:Bool}{key:jh}{arr:Array jh}{base n:Nat}(hb:base+n<=arr.size)(ha:∀x,x∈arr->P x)(t:P key)(so:Ar lt arr base (base+n)) :
  ∀i j,i<=j->j<n->xG lt left key arr base j=true->xG lt left key arr base i=true:=by
 intro i j H J h;have u:arr[base+i]?=some (arr[base+i]'(by lia)):=ae (by lia)
 have z:arr[base+j]?=some (arr[base+j]'(by lia)):=ae (by lia)
 have B:=ha _ (aQq u);have G:=ha _ (aQq z);have le:=so (base+i) (base+j) _ _ (by lia) (by lia) (by lia) u z
 rw[sN z]at h;rw[sN u];cases left with
 |true=>
  rw[oa rfl]at h ⊢;cases q:lt (arr[base+i]'(by lia)) key with
  |true=>rfl
  |false=>
   have:=C.trans _ _ _ t B G q le;rw[h]at this;cases this
 |false=>
  rw[nY (by decide)]at h ⊢
  have I:lt key (arr[base+j]'(by lia))=false:=by simpa using h
  have:=C.trans _ _ _ B G t le I;simp[this]
def sr{a:Array jh}{i j:Nat}{x:jh}(h:x∈(a.extract i j).toList):∃k,i<=k/\k<j/\a[k]?=some x:=by
 rw[qd]at h;obtain⟨k,t,u,e⟩:=va h;rw[aQ]at e;exact⟨k,t,u,e⟩
def Ck{a:Array jh}{i j:Nat}(h:Ar lt a i j):xn lt (a.extract i j).toList:=by
 rw[qd];refine bu.mpr λp q t u x=>?_
 rw[ar,lTq,ah]at t u;have e:∀k (hk:k<((a.toList.take j).drop i).length),a[i+k]?=some ((a.toList.take j).drop i)[k]:=λk hk=>by
  rw[ar,lTq,ah]at hk;rw[eN,fQ,aN];exact⟨by lia,by simp⟩
 exact h (i+p) (i+q) _ _ (by lia) (by lia) (by lia) (e p _) (e q _)
def IH(i:Nat):mergeAt' i=(do
 let s ←get
 let (some (sa,t,u),some (sb,z,_)):=((jX s)[i]?,(jX s)[i+1]?)|kB "internal:list.sort.pending"
 set (setPending s (((jX s).setIfInBounds i (sa,t+z,u)).eraseIdxIfInBounds (i+1)))
 let some k ←vK false (←jN (jw s) sb) (jw s) sa t 0|return false
 let (sa,t):=(sa+k,t-k)
 if t == 0 then return true
 let some z ←vK true (←jN (jw s) (sa+t-1)) (jw s) sb z (z-1)|return false
 if z == 0 then return true
 let x:=(jw s).extract sa sb
 let y:=(jw s).extract sb (sb+z)
 let merged ←if t<=z then DJ x y else EH x y
 modify λs=>jD s (merged.toList.zipIdx.foldl (λa (p,j)=>a.setIfInBounds (sa+j) p) (jw s))
 return (failedOf (←get)).isNone):=rfl
def OO{st t:SortSt}{Q:PUnit->SortSt->Prop}(h:Q ⟨⟩ t):wpS (jk prog w) A E s (set t:StateT SortSt Sem PUnit) Q st:=by
 unfold wpS;rw[StateT.run_set];exact jm ⟨rfl,h⟩
def Qi(C:zl prog w A s κ P lt){xs S M:Array jh}{sa t H k l:Nat}(G:∀x,x∈xs->P x)(hz:sa+t+H<=xs.size)(hk:k<=t)(hl:l<=H)(h1:Ar lt xs sa (sa+t))(U:Ar lt xs (sa+t) (sa+t+H)){key last:jh}
  (ek:xs[sa+t]?=some key) (el:xs[sa+t-1]?=some last)
  (k2:∀j y,j<k->xs[sa+j]?=some y->lt key y=false) (l3:∀j y,l<=j->j<H->xs[sa+t+j]?=some y->lt y last=false) (hna:0<t) (hnb:0<H)
  (m:TB lt (xs.extract (sa+k) (sa+t)) (xs.extract (sa+t) (sa+t+l)) M)
  (L:S.toList=xs.toList.take (sa+k)++M.toList++xs.toList.drop (sa+k+M.toList.length)):yf xs S sa (sa+t+H)/\Ar lt S sa (sa+t+H):=by
 have lM:M.toList.length=(t-k)+l:=by
  have:=m.pm.length_eq;simp only[lAq,ah,eh]at this ⊢;lia
 have hlx:xs.toList.length=xs.size:=ah;have gz:∀p,S[p]?=if p<sa+k then xs[p]? else if p<sa+t+l then M[p-(sa+k)]? else xs[p]?:=λp=>by
  rw[←ao,L]
  by_cases J:p<sa+k
  .rw[oa J,ak,gZq (by rw[lTq];lia),cY J,ao]
  .rw[nY J,ak,gYq (by rw[lTq];lia),lTq,show min (sa+k) xs.toList.length=sa+k by lia]
   by_cases c2:p<sa+t+l
   .rw[oa c2,gZq (by lia),ao]
   .rw[nY c2,gYq (by lia),cz,ao]
    congr 1;lia
 have pk:=G _ (aQq ek);have pl:=G _ (aQq el);have B:∀q v,M[q]?=some v->(∃j,k<=j/\j<t/\xs[sa+j]?=some v)∨∃j,j<l/\xs[sa+t+j]?=some v:=λq v e=>by
  have O:v∈M.toList:=by simpa using aQq e
  rcases mAq.mp (m.pm.mem_iff.mp O)with O|O
  .obtain⟨j,I,X,z⟩:=sr O;exact .inl ⟨j-sa,by lia,by lia,by rw[show sa+(j-sa)=j by lia];exact z⟩
  .obtain⟨j,I,X,z⟩:=sr O;exact .inr ⟨j-(sa+t),by lia,by rw[show sa+t+(j-(sa+t))=j by lia];exact z⟩
 refine⟨⟨?_,λp hp'=>?_⟩,?_⟩
 .rw[Array.perm_iff_toList_perm,L];have c:xs.toList=xs.toList.take (sa+k)++((xs.extract (sa+k) (sa+t)).toList++(xs.extract (sa+t) (sa+t+l)).toList)++xs.toList.drop (sa+k+M.toList.length):=by
   rw[qd,qd,lM];have Y:=Bx xs.toList (sa+k) (sa+t) (by lia)
   have Q:=Bx xs.toList (sa+t) (sa+t+l) (by lia)
   have a3:sa+k+(t-k+l)=sa+t+l:=by lia
   rw[a3,←ak,←Y,←Q,aM]
  conv=>rhs;rw[c]
  exact bf.append_right _ (bf.append_left _ m.pm)
 .rw[gz]
  by_cases J:p<sa+k
  .rw[oa J]
  .rw[nY J,nY (by lia)]
 .intro p q x y Y Q a3 ex u;rw[gz]at ex u
  by_cases p1:p<sa+k
  .rw[oa p1]at ex;have px:=G _ (aQq ex);have lx:lt key x=false:=k2 (p-sa) x (by lia) (by rw[show sa+(p-sa)=p by lia];exact ex)
   by_cases q1:q<sa+k
   .rw[oa q1]at u;exact h1 p q _ _ Y Q (by lia) ex u
   .rw[nY q1]at u
    by_cases R:q<sa+t+l
    .rw[oa R]at u;rcases B _ _ u with⟨j,I,X,z⟩|⟨j,I,z⟩
     .exact h1 p (sa+j) _ _ Y (by lia) (by lia) ex z
     .exact C.trans _ _ _ px pk (G _ (aQq z)) lx (U (sa+t) (sa+t+j) _ _ (aa _) (by lia) (by lia) ek z)
    .rw[nY R]at u;exact C.trans _ _ _ px pk (G _ (aQq u)) lx (U (sa+t) q _ _ (aa _) (by lia) (by lia) ek u)
  .rw[nY p1]at ex;rw[nY (by lia)]at u
   by_cases p2:p<sa+t+l
   .rw[oa p2]at ex
    by_cases R:q<sa+t+l
    .rw[oa R]at u;rcases dZ Q with c|c
     .have ex':M.toList[p-(sa+k)]?=some x:=by rw[ao];exact ex
      have ey':M.toList[q-(sa+k)]?=some y:=by rw[ao];exact u
      obtain⟨hx,e1⟩:=gSq.mp ex';obtain⟨hy,e2⟩:=gSq.mp ey';have:=bu.mp m.so (p-(sa+k)) (q-(sa+k)) hx hy (by lia)
      rw[e1,e2]at this;exact this
     .subst c;rw[ex]at u;cases u;rcases B _ _ ex with⟨j,I,X,z⟩|⟨j,I,z⟩
      .exact C.refl (G _ (aQq z))
      .exact C.refl (G _ (aQq z))
    .rw[nY R]at u;have py:=G _ (aQq u);rcases B _ _ ex with⟨j,I,X,z⟩|⟨j,I,z⟩
     .exact C.trans _ _ _ (G _ (aQq z)) pl py (h1 (sa+j) (sa+t-1) _ _ (by lia) (by lia) (by lia) z el) (l3 (q-(sa+t)) y (by lia) (by lia) (by rw[show sa+t+(q-(sa+t))=q by lia];exact u))
     .exact U (sa+t+j) q _ _ (by lia) (by lia) (by lia) z u
   .rw[nY p2]at ex;rw[nY (by lia)]at u
    exact U p q _ _ (by lia) Q (by lia) ex u
end
section
variable {prog:jq}{w:ju}{A:Around}{E:Ψ}{s:Shared}{κ:jK}{P:jh->Prop}{lt:jh->jh->Bool}
noncomputable def Re{α:Type}{l:List α}{i:Nat}{a b:α}(t:l[i]?=some a)(u:l[i+1]?=some b):l=l.take i++a::b::l.drop (i+2):=by
 obtain⟨x,z⟩:=gSq.mp t;obtain⟨B,G⟩:=gSq.mp u
 conv=>lhs;rw[←aM i l]
 rw[aG x,aG B,z,G]
def NC{α:Type}{q r:List α}{a b c:α}:((q++a::b::r).set q.length c).eraseIdx (q.length+1)=q++c::r:=by
 rw[List.set_append_right _ _ (aa _),dE,dq,List.eraseIdx_append_of_length_le (by lia),eE]
 rfl
def Cu(C:zl prog w A s κ P lt){i lo:Nat}{st:SortSt}{Q:Bool->SortSt->Prop}(H:∀x,x∈jw st->P x)(hk:kindOf st=κ)(hf:failedOf st=none)(hlo:lo<=(jw st).size)(R:qR lt (jw st) 0 (jX st).toList lo)
  (hi:i+1<(jX st).size) (h:∀xs p g,yf (jw st) xs 0 lo->p.size+1=(jX st).size->qR lt xs 0 p.toList lo->Q true (SortSt.mk' κ xs p g none)):wpS (jk prog w) A E s (mergeAt' i) Q st:=by
 obtain⟨O,u,B,g0,fl⟩:=st;have hk:O=κ:=hk;have hf:fl=none:=hf;subst hk hf;have H:∀x,x∈u->P x:=H;have hlo:lo<=u.size:=hlo;have R:qR lt u 0 B.toList lo:=R;have hi:i+1<B.size:=hi;have e1:B[i]?=some (B[i]'(by lia)):=ae (by lia)
 have e2:B[i+1]?=some (B[i+1]'(by lia)):=ae (by lia)
 generalize B[i]'(by lia)=a at e1
 generalize B[i+1]'(by lia)=b at e2
 obtain⟨sa,z,pa⟩:=a;obtain⟨sb,I,pb⟩:=b;have e1':B.toList[i]?=some (sa,z,pa):=by rw[ao];exact e1
 have e2':B.toList[i+1]?=some (sb,I,pb):=by rw[ao];exact e2
 have ep:=Re e1' e2';have lq:(B.toList.take i).length=i:=by rw[lTq,ah];lia
 generalize B.toList.take i=q at ep lq;generalize B.toList.drop (i+2)=r at ep;rw[ep]at R;obtain⟨X,c1,c2⟩:=sU.mp R;obtain⟨x1,x2,x3,x4,x5,x6,x7⟩:=c2;have d1:sa=X:=x1;have d2:0<z:=x2;have d3:Ar lt u X (X+z):=x3;have f1:sb=X+z:=x4;have f2:0<I:=x5;have f3:Ar lt u (X+z) (X+z+I):=x6;have f4:qR lt u (X+z+I) r lo:=x7
 clear x1 x2 x3 x4 x5 x6 x7
 subst d1 f1;have hrl:sa+z+I+r.length<=lo:=yR f4;have hql:0+q.length<=sa:=yR c1;have hz:sa+z+I<=u.size:=by lia
 have np:((B.setIfInBounds i (sa,z+I,pa)).eraseIdxIfInBounds (i+1)).toList=q++(sa,z+I,pa)::r:=by
  rw[Array.toList_eraseIdxIfInBounds,fM,ep,←lq];exact NC
 have ns:((B.setIfInBounds i (sa,z+I,pa)).eraseIdxIfInBounds (i+1)).size+1=B.size:=by
  rw[←ah,np,←ah,ep];simp only[lAq,lCq];lia
 have fin:∀Y g,yf u Y sa (sa+z+I)->Ar lt Y sa (sa+z+I)->Q true (SortSt.mk' O Y ((B.setIfInBounds i (sa,z+I,pa)).eraseIdxIfInBounds (i+1)) g none):=λY g b1 s1=>by
  refine h Y _ g ⟨b1.pm,λk hk=>b1.out k (by lia)⟩ ns ?_
  rw[np];refine sU.mpr ⟨sa,vt (λk _ k2=>b1.out k (.inl k2)) c1,rfl,by show 0<z+I;lia,?_,?_⟩
  .show Ar lt Y sa (sa+(z+I));rw[←dP];exact s1
  .show qR lt Y (sa+(z+I)) r lo;rw[←dP];exact vt (λk k1 _=>b1.out k (.inr k1)) f4
 rw[IH];refine jj (ko ?_);dsimp only;rw[e1,e2];dsimp only;refine jj (OO ?_);have ek:u[sa+z]?=some (u[sa+z]'(by lia)):=ae (by lia)
 have el:u[sa+z-1]?=some (u[sa+z-1]'(by lia)):=ae (by lia)
 have pk:=H _ (aQq ek);have pl:=H _ (aQq el);refine jj (oB ek ?_);refine jj (tL C d2 (by lia) H pk rfl (MR C (by lia) H pk d3) λk k1 k2 k3=>?_)
 dsimp only;have kl:∀j y,j<k->u[sa+j]?=some y->lt (u[sa+z]'(by lia)) y=false:=λj y hj G=>by
  have:=k2 j hj;rw[sN G,nY (by decide)]at this
  simpa using this
 have kh:∀j y,k<=j->j<z->u[sa+j]?=some y->lt (u[sa+z]'(by lia)) y=true:=λj y h1 h2 G=>by
  have:=k3 j h1 h2;rw[sN G,nY (by decide)]at this
  simpa using this
 by_cases c1':z-k=0
 .rw[oa (by simp[c1'])]
  refine jl (fin u g0 (yf.refl _ _ _) λp q x y a1 S a3 ex G=>?_)
  have px:=H _ (aQq ex);have py:=H _ (aQq G)
  by_cases q1:q<sa+z
  .exact d3 p q _ _ a1 S q1 ex G
  .by_cases p1:p<sa+z
   .exact C.trans _ _ _ px pk py (kl (p-sa) x (by lia) (by rw[show sa+(p-sa)=p by lia];exact ex)) (f3 (sa+z) q _ _ (aa _) (by lia) a3 ek G)
   .exact f3 p q _ _ (by lia) S a3 ex G
 rw[nY (by simpa using c1')]
 have ea:sa+k+(z-k)-1=sa+z-1:=by lia
 rw[ea];refine jj (oB el ?_);refine jj (tL C (by lia) (by lia) H pl rfl (MR C (by lia) H pl f3) λl l1 l2 l3=>?_)
 dsimp only;have ll:∀j y,j<l->u[sa+z+j]?=some y->lt y (u[sa+z-1]'(by lia))=true:=λj y hj G=>by
  have:=l2 j hj;rw[sN G,oa rfl]at this;exact this
 have lh:∀j y,l<=j->j<I->u[sa+z+j]?=some y->lt y (u[sa+z-1]'(by lia))=false:=λj y h1 h2 G=>by
  have:=l3 j h1 h2;rw[sN G,oa rfl]at this;exact this
 by_cases c2':l=0
 .rw[oa (by simp[c2'])]
  refine jl (fin u g0 (yf.refl _ _ _) λp q x y a1 S a3 ex G=>?_)
  have px:=H _ (aQq ex);have py:=H _ (aQq G)
  by_cases q1:q<sa+z
  .exact d3 p q _ _ a1 S q1 ex G
  .by_cases p1:p<sa+z
   .exact C.trans _ _ _ px pl py (d3 p (sa+z-1) _ _ a1 (by lia) (by lia) ex el) (lh (q-(sa+z)) y (by lia) (by lia) (by rw[show sa+z+(q-(sa+z))=q by lia];exact G))
   .exact f3 p q _ _ (by lia) S a3 ex G
 rw[nY (by simpa using c2')]
 have sx:xn lt (u.extract (sa+k) (sa+z)).toList:=Ck λp q x y a1 S a3 ex G=>d3 p q x y (by lia) S a3 ex G
 have sy:xn lt (u.extract (sa+z) (sa+z+l)).toList:=Ck λp q x y a1 S a3 ex G=>f3 p q x y a1 S (by lia) ex G
 have J:∀x,x∈u.extract (sa+k) (sa+z)->P x:=λx J=>by
  obtain⟨j,_,_,e⟩:=sr (fk.mpr J);exact H _ (aQq e)
 have L:∀x,x∈u.extract (sa+z) (sa+z+l)->P x:=λx J=>by
  obtain⟨j,_,_,e⟩:=sr (fk.mpr J);exact H _ (aQq e)
 have zx:(u.extract (sa+k) (sa+z)).size=z-k:=by rw[eh];lia
 have zy:(u.extract (sa+z) (sa+z+l)).size=l:=by rw[eh];lia
 have g0':(u.extract (sa+z) (sa+z+l))[0]?=some (u[sa+z]'(by lia)):=by
  rw[gE,oa (by lia),ie]
  exact ek
 have gl':(u.extract (sa+k) (sa+z))[z-k-1]?=some (u[sa+z-1]'(by lia)):=by
  rw[gE,oa (by lia),show sa+k+(z-k-1)=sa+z-1 by lia]
  exact el
 have low:∀y∈(u.extract (sa+k) (sa+z)).toList,lt y (u[sa+z]'(by lia))=false:=λy L=>by
  obtain⟨j,j1,j2,ej⟩:=sr L;exact C.asym _ _ pk (H _ (aQq ej)) (kh (j-sa) y (by lia) (by lia) (by rw[show sa+(j-sa)=j by lia];exact ej))
 have U:∀x∈(u.extract (sa+z) (sa+z+l)).toList,lt (u[sa+z-1]'(by lia)) x=false:=λx J=>by
  obtain⟨j,j1,j2,ej⟩:=sr J;exact C.asym _ _ (H _ (aQq ej)) pl (ll (j-(sa+z)) x (by lia) (by rw[show sa+z+(j-(sa+z))=j by lia];exact ej))
 have done:∀M g,TB lt (u.extract (sa+k) (sa+z)) (u.extract (sa+z) (sa+z+l)) M ->
   Q true (SortSt.mk' O (M.toList.zipIdx.foldl (λa x=>a.setIfInBounds (sa+k+x.snd) x.fst) u) ((B.setIfInBounds i (sa,z+I,pa)).eraseIdxIfInBounds (i+1)) g none):=λM g mg=>by
  have lM:M.toList.length=(z-k)+l:=by
   have:=mg.pm.length_eq;simp only[lAq,ah,eh]at this ⊢;lia
  have wb:=Fh (sa+k) M.toList 0 u (by lia)
  obtain⟨b1,s1⟩:=Qi C H hz k1 l1 d3 f3 ek el kl lh d2 f2 mg wb;exact fin _ g b1 s1
 by_cases c3:z-k<=l
 .rw[oa c3];refine jj (JT (κ:=O) (a:=u.extract (sa+k) (sa+z)) (b:=u.extract (sa+z) (sa+z+l)) C J L rfl sx sy (by rw[zx];lia) (by rw[zy];lia) (λx ex y L=>?_) (λj hj x J y L=>?_) λM g mg=>?_)
  .rw[g0']at ex;cases ex;exact low y L
  .have hj':j=z-k-1:=by lia
   subst hj';have:y=u[sa+z-1]'(by lia):=by
    obtain⟨t,t1,t2⟩:=yL L;rw[zx]at t1;have t0:t=0:=by lia
    subst t0;rw[ie,gl']at t2;exact(aL.inj t2).symm
   rw[this];exact U x J
  .refine jj (kg ?_);refine jj (ko ?_);exact jl (done M g mg)
 .rw[nY c3];refine jj (JN (κ:=O) (a:=u.extract (sa+k) (sa+z)) (b:=u.extract (sa+z) (sa+z+l)) C J L rfl sx sy (by rw[zx];lia) (by rw[zy];lia) (λx J y L=>?_) (λx ex y L=>?_) λM g mg=>?_)
  .have:x=u[sa+z]'(by lia):=by
    obtain⟨t,t1,t2⟩:=yr J;have t0:t=0:=by lia
    subst t0;rw[aQ,g0']at t2;exact(aL.inj t2).symm
   rw[this];exact low y L
  .rw[zx,gl']at ex;cases ex;exact U y L
  .refine jj (kg ?_);refine jj (ko ?_);exact jl (done M g mg)
end
section
variable {prog:jq}{w:ju}{A:Around}{E:Ψ}{s:Shared}{κ:jK}{P:jh->Prop}{lt:jh->jh->Bool}
abbrev xh(κ:jK)(xs:Array jh)(p:Array (Nat×Nat×Nat))(g:Nat):SortSt:=SortSt.mk' κ xs p g none
def Et{xs:Array jh}{p:Array (Nat×Nat×Nat)}{lo n:Nat}(h:qR lt xs 0 p.toList lo)(hn:0<n)(t:Ar lt xs lo (lo+n)):qR lt xs 0 (p.push (lo,n,0)).toList (lo+n):=by
 rw[cI];exact sU.mpr ⟨lo,h,rfl,hn,t,rfl⟩
def E7(p:Array (Nat×Nat×Nat))(i pw:Nat):(p.modify i λx=>(x.fst,x.2.fst,pw)).toList.map (λp=>(p.1,p.2.1))=p.toList.map (λp=>(p.1,p.2.1)):=by
 apply eO;intro k;rw[gMq,gMq,ao,ao,Array.getElem?_modify];split
 .cases p[k]? <;> rfl
 .rfl
def Hy(C:zl prog w A s κ P lt){arr:Array jh}{g:Nat}{Q:Unit->SortSt->Prop}(hp:∀x,x∈arr->P x)(h2:2<=arr.size)
    (h:∀xs p g',xs.Perm arr->Ar lt xs 0 arr.size->Q () (xh κ xs p g')):wpS (jk prog w) A E s sortRuns' Q (xh κ arr #[] g):=by
  rw[sortRuns'_eq];refine jj (ko ?_);dsimp only;have e0:jw (xh κ arr #[] g)=arr:=rfl;rw[e0];generalize minRun' arr.size arr.size 0=R;refine jj (jJ (jC
    (I:=λi c u=>∃lo xs p g',c=(none,lo)/\u=xh κ xs p g'/\xs.Perm arr/\lo<=arr.size/\qR lt xs 0 p.toList lo/\i<=lo)
    (Q:=λc u=>∃xs p g',c=(none,arr.size)/\u=xh κ xs p g'/\xs.Perm arr/\qR lt xs 0 p.toList arr.size)
    ?step ?fin ⟨0,arr,#[],g,rfl,rfl,iJ.refl _,aJ _,rfl,aa _⟩) ?post)
  case fin=>
    rintro c u ⟨lo,xs,p,g',rfl,rfl,M,q2,S,q4⟩;have e:lo=arr.size:=by lia
    subst e;exact⟨xs,p,g',rfl,rfl,M,S⟩
  case step=>
    rintro i c u _ hi ⟨lo,xs,p,g',rfl,rfl,M,q2,S,q4⟩;dsimp only;have U:∀x,x∈xs->P x:=λx hx=>hp x (M.mem_iff.mp hx)
    have hzx:xs.size=arr.size:=M.size_eq
    by_cases c1:lo ≥ arr.size
    . rw[oa c1]
      have e:lo=arr.size:=by lia
      subst e;exact jl ⟨xs,p,g',rfl,rfl,M,S⟩
    rw[nY c1];refine jj (GX (st:=xh κ xs p g') C U rfl (by lia) (by show lo+(arr.size-lo)<=xs.size;lia) λn z n1 n2 b1 s1=>?_)
    dsimp only;have hb:yf xs z lo (lo+n):=b1;show wpS _ _ _ _ _ _ (xh κ z p g')
    by_cases c2:n<R
    all_goals
      first
        | (rw[oa c2]
           refine jj (wI ?_);refine jj (L1 (st:=xh κ z p g') (n:=min (arr.size-lo) R) C (hb.mem U) rfl n1 (by lia) (by show lo+min (arr.size-lo) R<=z.size;have:=hb.size;lia) s1 λJ b2 s2=>?_)
           rw[nY (by decide)]
           have B:yf xs J lo (lo+min (arr.size-lo) R):=(hb.mono (by lia)).trans b2
           have nn:1<=min (arr.size-lo) R:=by lia
           have nl:lo+min (arr.size-lo) R<=arr.size:=by lia
           show wpS _ _ _ _ _ _ (xh κ J p g')
           clear b1 s1 hb b2
           generalize min (arr.size-lo) R=nN at B nn nl s2 ⊢)
        | (rw[nY c2]
           have B:=hb;have s2:=s1;have nn:=n1;have nl:lo+n<=arr.size:=by lia
           clear b1 s1 hb
           generalize hnN:n=nN at B nn nl s2 ⊢;generalize hzs:z=J at B s2 ⊢)
      have hpz:=B.mem U;have hzz:=B.size;have hcz:qR lt J 0 p.toList lo:=vt (λk _ k2=>B.out k (.inl k2)) S
      have pz:J.Perm arr:=B.pm.trans M;refine jj (ko ?_);have ep:jX (xh κ J p g')=p:=rfl;rw[ep];cases eb:p.back? with
      |none=>
        dsimp only;refine jj (kg (jl ?_));exact⟨lo+nN,J,p.push (lo,nN,0),g',rfl,rfl,pz,nl,Et hcz nn s2,by lia⟩
      |some t=>
        obtain⟨s1',n1',pw0⟩:=t;dsimp only;refine jj (jJ (jC
          (I:=λi c u=>∃z q g2,c=(none,())/\u=xh κ z q g2/\yf J z 0 lo/\qR lt z 0 q.toList lo)
          (Q:=λc u=>∃z q g2,c=(none,())/\u=xh κ z q g2/\yf J z 0 lo/\qR lt z 0 q.toList lo)
          ?step1 (λc u hh=>hh) ⟨J,p,g',rfl,rfl,yf.refl _ _ _,hcz⟩) ?post1)
        case step1=>
          rintro j c u _ hj ⟨G,q,g2,rfl,rfl,b3,H⟩;refine jj (ko ?_);have eq:jX (xh κ G q g2)=q:=rfl;rw[eq]
          by_cases d1:q.size>1
          . rw[oa d1]
            have eo:q[q.size-2]?=some (q[q.size-2]'(by lia)):=ae (by lia)
            rw[eo];generalize q[q.size-2]'(by lia)=o
            obtain⟨o1,o2,older⟩:=o;dsimp only;split
            . exact jl ⟨G,q,g2,rfl,rfl,b3,H⟩
            . refine jj (Cu (st:=xh κ G q g2) C (b3.mem hpz) rfl rfl (by show lo<=G.size;have:=b3.size;lia) H (by show q.size-2+1<q.size;lia) λX p3 g3 b4 _ Y=>?_)
              rw[nY (by decide)]
              exact jl ⟨X,p3,g3,rfl,rfl,b3.trans b4,Y⟩
          . rw[nY d1]
            exact jl ⟨G,q,g2,rfl,rfl,b3,H⟩
        case post1=>
          rintro c u ⟨G,q,g2,rfl,rfl,b3,H⟩;dsimp only;refine jj (kg (jj (kg (jl ?_))));have s3:Ar lt G lo (lo+nN):=λa b x y a1 a2 a3 ex ey=>s2 a b x y a1 a2 a3 (by rw[←b3.out a (.inr a1)];exact ex) (by rw[←b3.out b (.inr (by lia))];exact ey)
          exact⟨lo+nN,G,_,g2,rfl,rfl,b3.pm.trans pz,nl,Et (Bf (E7 q _ _) H) nn s3,by lia⟩
  case post=>
    rintro c u ⟨xs,p,g',rfl,rfl,M,S⟩;dsimp only;refine jj (jJ (jC
      (I:=λi c u=>∃z q g2,c=(none,())/\u=xh κ z q g2/\z.Perm arr/\qR lt z 0 q.toList arr.size/\q.size+i<=arr.size)
      (Q:=λc u=>∃z q g2,c=(none,())/\u=xh κ z q g2/\z.Perm arr/\qR lt z 0 q.toList arr.size/\q.size<=1)
      ?step2 ?fin2 ⟨xs,p,g',rfl,rfl,M,S,by have:=yR S;rw[ah]at this;lia⟩) ?post2)
    case fin2=>
      rintro c u ⟨z,q,g2,rfl,rfl,O,L,r3⟩;exact⟨z,q,g2,rfl,rfl,O,L,by lia⟩
    case step2=>
      rintro j c u _ hj ⟨z,q,g2,rfl,rfl,O,L,r3⟩;refine jj (ko ?_);have eq:jX (xh κ z q g2)=q:=rfl;rw[eq]
      by_cases d1:q.size<=1
      . rw[oa d1]
        exact jl ⟨z,q,g2,rfl,rfl,O,L,d1⟩
      rw[nY d1];have hi':∀(b:Prop) [Decidable b],(if b then q.size-2-1 else q.size-2)+1<q.size:=λb _=>by split <;> lia
      refine jj (Cu (st:=xh κ z q g2) C (λx hx=>hp x (O.mem_iff.mp hx)) rfl rfl (by show arr.size<=z.size;have:=O.size_eq;lia) L (hi' _) λX p3 g3 b4 ns Y=>?_)
      rw[nY (by decide)]
      have ns':p3.size+1=q.size:=ns;exact jl ⟨X,p3,g3,rfl,rfl,b4.pm.trans O,Y,by lia⟩
    case post2=>
      rintro c u ⟨z,q,g2,rfl,rfl,O,L,r3⟩;refine jl (h z q g2 O ?_);rw[←ah]at r3;cases eq:q.toList with
      |nil=>
        rw[eq]at L;have r2':0=arr.size:=L;lia
      |cons a r=>
        rw[eq]at L r3;have er:r=[]:=by
          rw[lCq]at r3;exact aZ.mp (by lia)
        subst er;obtain⟨_,_,s3,e3⟩:=L;have e3':0+a.2.1=arr.size:=e3;rw[e3']at s3;exact s3
end
end MrS
namespace Xe
open PySem
noncomputable abbrev VEm:Ξ:=[.type "ValueError", .type "Exception", .type "BaseException", .type "object"]
abbrev Lk{α:Type}(M:Model)(h:Heap)(x:Sem α)(r:α):Prop:=
 ∀(A:Around) (Q:α->Shared->Prop) (E:Ψ) (s:Shared),(∀b o,h.get? b=some o->s.heap.get? b=some o)->Q r s->jn M A x Q E s
section
variable {prog:jq}{w:ju}{A:Around}{E:Ψ}{s:Shared}{env:Env}{e:Addr}{c0:Value}{t:Expr}{n:Str}{b₀:Stmt}{suite:List Stmt}{pos:Pos}{rest:List lQ}{Q:Flow->Shared->Prop}
abbrev Mt(M:Model)(e:Addr)(c0:Value)(b:Bool)(s:Shared):Prop:=∀(A:Around) (Q:Bool->Shared->Prop) (E:Ψ),Q b s->jn M A (excMatches (.ref e) c0) Q E s
end
end Xe
namespace Mr
abbrev St:=L2.St
open PySem PySem.Spec PyProof.Rows L2
section
variable {X:Cx}{nu:Φ}{σ:List (Option V)}{H H':Hp}{s:Shared}{h':Heap}
def Jk{t':Nat}{fp:Δ}{T:Addr}{o:HO}(I:Inv X nu σ H s)(k:∀b u,b∉fp->s.heap.get? b=some u->h'.get? b=some u)
  (x:∀b∈fp,AX X nu H b) (B:s.heap.objs.size<=T) (new:pR X.prog X.w (om H T o) h' T o):Inv X nu σ (om H T o) { s with heap:=h',toks:=t' }:=by
 have hn:H T=none:=I.hok.fresh B;have E:∀b u,H b=some u->b∉fp:=λb u e z=>by rw[(x b z).1]at e;cases e
 refine I.step (g':=s.gens) (d':=s.drawn) (ch:=fp) (λb hb=>?_) (λb u _ _ t e _=>k b u t e) (λb u _ _ t e _=>⟨u.slots,k b u t e⟩)
  (λb u _ e n=>by rw[nC (aA (aF (aj e) B))];exact n) (λb u t e=>⟨u,k b u t e⟩)
  (λb G e=>by rw[nC (pQ e hn)];exact e) (λb u G e=>by rw[nC (pQ e hn)];exact e) (λb U e=>⟨#[],by rw[nC (pQ e hn),e];simp⟩) (λm J=>?_) (λb u e=>?_) I.bare
 .obtain⟨_,L,_,M,O,P⟩:=x b hb;exact⟨M,L,O,P⟩
 .obtain⟨u,Q,R,S,r⟩:=J;exact⟨u,Q,R,k _ u (λz=>(x _ z).2.1 rfl) S,r⟩
 .by_cases hb:b=T
  .subst hb;rw[nG]at e;cases e;exact new
  .rw[nC hb]at e;refine(I.hok b u e).stay (λc v t q=>k c v ?_ q) (λc q=>by rw[nC (pQ q hn)];exact q) λc G q=>by rw[nC (pQ q hn)];exact q
   rcases t with rfl|t
   .exact E _ u e
   .exact E c _ t
def MW{t':Nat}{fp:Δ}(I:Inv X nu σ H s)(k:∀b u,b∉fp->s.heap.get? b=some u->h'.get? b=some u)
  (x:∀b∈fp,AX X nu H b):Inv X nu σ H { s with heap:=h',toks:=t' }:=by
 have B:∀b u,H b=some u->b∉fp:=λb u e z=>by rw[(x b z).1]at e;cases e
 refine I.step (g':=s.gens) (d':=s.drawn) (ch:=fp) (λb hb=>?_) (λb u _ _ t e _=>k b u t e) (λb u _ _ t e _=>⟨u.slots,k b u t e⟩)
  (λ_ _ _ _ n=>n) (λb u t e=>⟨u,k b u t e⟩) (λ_ _ e=>e) (λ_ _ _ e=>e) (λb R e=>⟨#[],by rw[e];simp⟩) (λm E=>?_) (λb u e=>?_) I.bare
 .obtain⟨_,G,_,J,L,M⟩:=x b hb;exact⟨J,G,L,M⟩
 .obtain⟨u,O,P,Q,r⟩:=E;exact⟨u,O,P,k _ u (λz=>(x _ z).2.1 rfl) Q,r⟩
 .refine(I.hok b u e).stay (λc v t q=>k c v ?_ q) (λ_ q=>q) λ_ _ q=>q
  rcases t with rfl|t
  .exact B _ u e
  .exact B c _ t
def Hx{a b:Addr}{xs:List V}(I:Inv X nu σ H s)(h:qh X.K H a xs)(f:AX X nu H b):a≠b:=by
 intro e;subst e;obtain⟨t,_,_,u,_⟩:=f;rcases h with(h|⟨o,h⟩)|⟨o,x,n,hk,_⟩
 .rw[t]at h;cases h
 .rw[t]at h;cases h
 .have hb:=I.mod.kin a o hk;rcases u with z|z
  .exact I.ok.noex a o hb z
  .exact absurd (aF (aj (I.ok.bs a o hb).1) z) (cm _)
end
def Z7(K:Ζ)(a:Addr):It:=
  ⟨λi H=>∃xs x,qh K H a xs/\xs[i]?=some x,
   λi H v s=>∃T x,H T=none/\v = .ref T/\s=om H T (.tup [.int i,x])/\∀xs,qh K H a xs->xs[i]?=some x,
   λi H=>∃xs,qh K H a xs/\xs.length<=i⟩
def Pd{P:jq}{w:ju}{K:Ζ}{M:List Expr}{k:Nat}{pos:Pos}(a e J:Addr)(O:e≠J) :
  Dv P w K (.Tuple M k pos) (Z7 K a) [e,J] e (λi h=>(∃t,IsEnum h e J i t)/\h.IsListIter J a i) where
 mem:=by simp
 obj:=λi h st b hb=>by
  obtain⟨⟨t,L⟩,o,ho,_,d⟩:=st;rcases ag.mp hb with rfl|hb
  .exact⟨_,L,λv z=>by
    have z':Data.fields _=Data.cell v:=z;cases z'⟩
  .have e:b=J:=by simpa using hb
   subst e;exact⟨o,ho,λv z=>by rw[d]at z;cases z⟩
 keep:=λi h h' st kp=>by
  obtain⟨⟨t,L⟩,B⟩:=st;exact⟨⟨t,kp e (by simp) _ L⟩,B.at λo q=>kp J (by simp) o q⟩
 item:=by
  intro X Y hw hK hc i nu s σ H E I S st hg;subst Y hw hK;obtain⟨xs,x,U,hx⟩:=hg;obtain⟨its,rv,p,hz⟩:=I.list U;obtain⟨u,hu,ru⟩:=rv.get hx;obtain⟨⟨t,L⟩,B⟩:=st;have hil:J<s.heap.objs.size:=by obtain⟨_,q,_⟩:=B;exact aj q
  have Q:e<s.heap.objs.size:=aj L;refine wpAny_pyNext_enum_item L B p.isList (x:=u) (by simpa using hu) O λh1 he1 R ht1 hz1 hk1=>⟨_,rfl,?_⟩
  refine wpAny_letOwnedTupleGo_enum he1 λh2 he2 G=>?_
  replace G:bQ e h1 h2:=G;have hn:H s.heap.objs.size=none:=I.hok.fresh (aa _);refine⟨.ref s.heap.objs.size,om H s.heap.objs.size (.tup [.int i,x]),?_,rfl,⟨_,x,hn,rfl,rfl,λys hy=>by rw[I.list_inj hy U];exact hx⟩,⟨⟨_,by simpa using he2⟩,R.extBut G.extBut (Ne.symm O)⟩,λb hb=>?_⟩
  .show L2.Inv X nu σ _ { s with heap:=h2,toks:=s.toks+1 }
   refine Jk (s:=s) (fp:=[e,J]) I (λb o hb q=>?_) S (aa _) ⟨by simp only[lCq,dW];rw[jG];decide,[.int i s.toks,u],.cons ⟨_,rfl⟩ (.cons ru .nil),_,G.extBut _ _ (dh Q) ht1,rfl,_,rfl⟩
   have b1:b≠e:=λz=>hb (by simp[z])
   exact G.extBut b o b1 (hk1 b o b1 (λz=>hb (by simp[z])) q)
  .have hb2:b<s.heap.objs.size:=by
    rcases ag.mp hb with rfl|hb
    .exact Q
    .have e:b=J:=by simpa using hb
     subst e;exact hil
   rw[nC (aA hb2)];exact(S b hb).1
 done:=by
  intro X Y hw hK hc i nu s σ H E I S st hg;subst Y hw hK;obtain⟨xs,U,hx⟩:=hg;obtain⟨its,rv,p,hz⟩:=I.list U;obtain⟨⟨t,L⟩,B⟩:=st;have hl:=rv.length;exact wpAny_pyNext_enum_end (I.ok.hd hc) L B p.isList (by simp;lia) λh1 eb=>⟨rfl,MW (t':=s.toks) (fp:=[e,J]) I (λb o hb q=>eb b o (λz=>hb (by simp[z])) q) S⟩
 self:=λ_ _ _ _ _ st h=>by
  obtain⟨⟨t,L⟩,_⟩:=st;exact wpAny_pyIter_enum L h
def Itz(K:Ζ)(a b:Addr):It:=
  ⟨λi H=>∃xs ys x y,qh K H a xs/\qh K H b ys/\xs[i]?=some x/\ys[i]?=some y,
   λi H v s=>∃T x y,H T=none/\v = .ref T/\s=om H T (.tup [x,y])/\(∀xs,qh K H a xs->xs[i]?=some x)/\∀ys,qh K H b ys->ys[i]?=some y,
   λi H=>∃xs ys,qh K H a xs/\qh K H b ys/\(xs.length<=i∨ys.length<=i)⟩
structure Z5 (z TI TO i1 i2:Addr):Prop where
 a:TI≠z
 b:TO≠z
 c:i1≠z
 d:i2≠z
 e:TI≠TO
 f:TI≠i1
 g:TI≠i2
 h:TO≠i1
 i:TO≠i2
 j:i1≠i2
def aax(n:Nat):Z5 (n+4) (n+2) (n+3) n (n+1) where
 a:=λ(q:n+2=n+4)=>by lia
 b:=λ(q:n+3=n+4)=>by lia
 c:=λ(q:n=n+4)=>by lia
 d:=λ(q:n+1=n+4)=>by lia
 e:=λ(q:n+2=n+3)=>by lia
 f:=λ(q:n+2=n)=>by lia
 g:=λ(q:n+2=n+1)=>by lia
 h:=λ(q:n+3=n)=>by lia
 i:=λ(q:n+3=n+1)=>by lia
 j:=λ(q:n=n+1)=>by lia
def SV{P:jq}{w:ju}{K:Ζ}{elts:List Expr}{k:Nat}{pos:Pos}(l1 l2 z TI TO u B:Addr)(d:Z5 z TI TO u B) :
  Dv P w K (.Tuple elts k pos) (Itz K l1 l2) [z,TI,TO,u,B] z
   (λi h=>IsZip h z TI TO .none/\IsPair h TI (.ref u) (.ref B)/\(∃a b,IsPair h TO a b)/\h.IsListIter u l1 i/\h.IsListIter B l2 i) where
 mem:=by simp
 obj:=λi h st b hb=>by
  obtain⟨R,t,⟨a,c,G⟩,⟨o1,q1,_,d1⟩,⟨o2,q2,_,d2⟩⟩:=st;simp only[ag,cP,or_false]at hb;rcases hb with rfl|rfl|rfl|rfl|rfl
  .exact⟨_,R,λv x=>by
    have x':Data.fields _=Data.cell v:=x;cases x'⟩
  .exact⟨_,t,λv x=>by
    have x':Data.seq _ _=Data.cell v:=x;cases x'⟩
  .exact⟨_,G,λv x=>by
    have x':Data.seq _ _=Data.cell v:=x;cases x'⟩
  .exact⟨o1,q1,λv x=>by rw[d1]at x;cases x⟩
  .exact⟨o2,q2,λv x=>by rw[d2]at x;cases x⟩
 keep:=λi h h' st kp=>by
  obtain⟨R,t,⟨a,c,G⟩,h1,h2⟩:=st;exact⟨kp z (by simp) _ R,kp TI (by simp) _ t,⟨a,c,kp TO (by simp) _ G⟩,h1.at λo q=>kp u (by simp) o q,h2.at λo q=>kp B (by simp) o q⟩
 item:=by
  intro X hP hw hK hc i nu s σ H E I S st hg;subst hP hw hK;obtain⟨xs,ys,x,y,L,M,hx,hy⟩:=hg;obtain⟨its1,U,p1,_⟩:=I.list L;obtain⟨its2,Y,p2,_⟩:=I.list M;obtain⟨u1,hu1,ru1⟩:=U.get hx;obtain⟨u2,hu2,ru2⟩:=Y.get hy;obtain⟨R,t,⟨a,c,G⟩,h1,h2⟩:=st;have O:∀b∈[z,TI,TO,u,B],l1≠b:=λb hb=>Hx I L (S b hb)
  have Q:∀b∈[z,TI,TO,u,B],l2≠b:=λb hb=>Hx I M (S b hb)
  have D:ZipApart z TI TO u B l1 l2:=⟨d.a,d.b,d.c,d.d,d.e,d.f,d.g,d.h,d.i,d.j,O z (by simp),O TO (by simp),O u (by simp),O B (by simp),Q z (by simp),Q TO (by simp),Q u (by simp),Q B (by simp)⟩
  have hzl:z<s.heap.objs.size:=aj R;refine wpAny_pyNext_zip_item D R t G h1 h2 p1.isList p2.isList (x:=u1) (y:=u2) (by simpa using hu1) (by simpa using hu2) λg1 hz1 hTO1 g11 g12 hT1 hsz1 hk1=>⟨_,rfl,?_⟩
  refine wpAny_letOwnedTupleGo_zip hz1 λg2 hz2 J=>?_
  replace J:bQ z g1 g2:=J;have hn:H s.heap.objs.size=none:=I.hok.fresh (aa _);refine⟨.ref s.heap.objs.size,om H s.heap.objs.size (.tup [x,y]),?_,rfl,⟨_,x,y,hn,rfl,rfl,λws hw=>by rw[I.list_inj hw L];exact hx,λws hw=>by rw[I.list_inj hw M];exact hy⟩,
   ⟨hz2,J.extBut _ _ d.a (hk1 _ _ d.a d.e d.f d.g t),⟨_,_,J.extBut _ _ d.b hTO1⟩,g11.extBut J.extBut d.c,g12.extBut J.extBut d.d⟩,λb hb=>?_⟩
  .show L2.Inv X nu σ _ { s with heap:=g2,toks:=s.toks }
   refine Jk (s:=s) (fp:=[z,TI,TO,u,B]) I (λb o hb q=>?_) S (aa _) ⟨by simp only[lCq,dW];rw[jG];decide,[u1,u2],.cons ru1 (.cons ru2 .nil),_,J.extBut _ _ (dh hzl) hT1,rfl,_,rfl⟩
   have b1:b≠z:=λe=>hb (by simp[e])
   exact J.extBut b o b1 (hk1 b o b1 (λe=>hb (by simp[e])) (λe=>hb (by simp[e])) (λe=>hb (by simp[e])) q)
  .have hb2:b<s.heap.objs.size:=by
    have hb':=hb;simp only[ag,cP,or_false]at hb';rcases hb' with rfl|rfl|rfl|rfl|rfl
    .exact hzl
    .exact aj t
    .exact aj G
    .obtain⟨_,q,_⟩:=h1;exact aj q
    .obtain⟨_,q,_⟩:=h2;exact aj q
   rw[nC (aA hb2)];exact(S b hb).1
 done:=by
  intro X hP hw hK hc i nu s σ H E I S st hg;subst hP hw hK;obtain⟨xs,ys,L,M,hx⟩:=hg;obtain⟨its1,U,p1,_⟩:=I.list L;obtain⟨its2,Y,p2,_⟩:=I.list M;obtain⟨R,t,⟨a,c,G⟩,h1,h2⟩:=st;have O:∀b∈[z,TI,TO,u,B],l1≠b:=λb hb=>Hx I L (S b hb)
  have Q:∀b∈[z,TI,TO,u,B],l2≠b:=λb hb=>Hx I M (S b hb)
  have D:ZipApart z TI TO u B l1 l2:=⟨d.a,d.b,d.c,d.d,d.e,d.f,d.g,d.h,d.i,d.j,O z (by simp),O TO (by simp),O u (by simp),O B (by simp),Q z (by simp),Q TO (by simp),Q u (by simp),Q B (by simp)⟩
  have e1:=U.length;have e2:=Y.length;refine wpAny_pyNext_zip_end (I.ok.hd hc) D R t G h1 h2 p1.isList p2.isList ?_ λg1 eb=>⟨rfl,MW (t':=s.toks) (fp:=[z,TI,TO,u,B]) I (λb o hb q=>eb b o (λe=>hb (by simp[e])) (λe=>hb (by simp[e])) (λe=>hb (by simp[e])) (λe=>hb (by simp[e])) q) S⟩
  rcases hx with hx|hx
  .exact .inl (by simp;lia)
  .exact .inr (by simp;lia)
 self:=λ_ _ _ _ _ st h=>wpAny_pyIter_zip st.1 h
section
variable {X:Cx}{elts:List Expr}{kk:Nat}{tpos:Pos}
def WL(K:Ζ)(t:TA):TI:=λσ H R=>t σ H λvs s=>∃a,vs=[.ref a]/\(∃xs,qh K s a xs)/\R (Z7 K a) s
def Nj{e:Expr}{G:TA}{p pos:Pos}(L:Gl X "enumerate")(M:X.mg "enumerate" = none)(ha:PA X [e] G)(O:jt [e] X.env=[(false,eval e X.env)]:=by rfl) :
  PI X (.Tuple elts kk tpos) (.Call (.Name "enumerate" p) [e] [] pos) (WL X.K G):=by
 intro P s σ H R I h;refine Call_ (wg I L M boot_enumerate (bD (thn (ha pos P s σ H _ I h) λus t B=>?_) O rfl))
 obtain⟨vs,Q,z,S,U⟩:=B;obtain⟨a,Y,⟨xs,hq⟩,q⟩:=U;subst Y;obtain⟨u,rfl,ru⟩:=sk S;cases ru;obtain⟨its,rv,p1,hz⟩:=z.list hq;refine call_enumerate_list p1.isList λg J E hsz hk=>wpAny_pyIter_enum J ?_
 refine⟨t.heap.objs.size+1,[t.heap.objs.size+1,t.heap.objs.size],_,_,Q,rfl,z.kept (t':=t.toks) hk,Pd a _ _ (Nat.succ_ne_self _),⟨⟨_,J⟩,E⟩,λb hb=>?_,q⟩
 have x:t.heap.objs.size<=b:=by
  simp only[ag,cP,or_false]at hb;rcases hb with rfl|rfl
  .exact bS _
  .exact aa _
 exact z.fpOk x (z.hok.fresh x)
def aaw(K:Ζ)(t:TA):TI:=λσ H R=>t σ H λvs s=>∃a b,vs=[.ref a,.ref b]/\(∃xs,qh K s a xs)/\(∃ys,qh K s b ys)/\R (Itz K a b) s
def Yt{e f:Expr}{M:TA}{p pos:Pos}(U:Gl X "zip")(Y:X.mg "zip" = none)(ha:PA X [e,f] M)(hs:jt [e,f] X.env=[(false,eval e X.env),(false,eval f X.env)]:=by rfl)(x:jt [f] X.env=[(false,eval f X.env)]:=by rfl) :
  PI X (.Tuple elts kk tpos) (.Call (.Name "zip" p) [e,f] [] pos) (aaw X.K M):=by
 intro nu s σ H R I h;refine Call_ (wg I U Y boot_zip (bD (thn (ha pos nu s σ H _ I h) λus t ⟨vs,H1,z,r1,q1⟩=>?_) (by rw[hs,x]) (by rw[x];rfl)))
 obtain⟨a,b,e1,⟨xs,E⟩,⟨ys,G⟩,q⟩:=q1;subst e1;obtain⟨u,v,rfl,ru,rv⟩:=WH r1;cases ru;cases rv;obtain⟨O,_,p1,_⟩:=z.list E;obtain⟨P,_,p2,_⟩:=z.list G;refine call_zip_2 p1.isList p2.isList λg Q J L h1 h2 hsz hk=>wpAny_pyIter_zip Q ?_
 refine⟨t.heap.objs.size+4,[t.heap.objs.size+4,t.heap.objs.size+2,t.heap.objs.size+3,t.heap.objs.size,t.heap.objs.size+1],_,_,H1,rfl,z.kept (t':=t.toks) hk,
  SV a b _ _ _ _ _ (aax t.heap.objs.size),⟨Q,J,⟨_,_,L⟩,h1,h2⟩,λc S=>?_,q⟩
 have B:t.heap.objs.size<=c:=by
  simp only[ag,cP,or_false]at S;rcases S with rfl|rfl|rfl|rfl|rfl
  .exact fe _ _
  .exact fe _ _
  .exact fe _ _
  .exact aa _
  .exact fe _ _
 exact z.fpOk B (z.hok.fresh B)
end
def RH{K:Ζ}{a:Addr}{xs:List V}{E G:Nat}{I:TS}{D:zu}{σ:St}{H:Hp}(s:Nat->St->Hp->Prop)(L:s 0 σ H)(hl:∀i σ H,i<=xs.length->s i σ H->qh K H a xs)
  (M:∀i x σ H T,xs[i]?=some x->s i σ H->H T=none->I { D with nx:=s (i+1),ct:=s (i+1),bk:=D.nx } ((σ.set E (some (.int i))).set G (some x)) (om H T (.tup [.int i,x]))) (hd:∀σ H,s xs.length σ H->D.nx σ H) :
  ∃W:Nat->Nat->St->Hp->Prop,(∃m,W 0 m σ H)/\∀i m σ H,W i m σ H ->
   ((Z7 K a).stop i H/\D.nx σ H)∨((Z7 K a).go i H/\∃N:St->Hp->Prop,(∀t u,N t u->∃J,J<m/\W (i+1) J t u)/\∀x u,(Z7 K a).yld i H x u->LS K 2 (xW (qP E) (xW (qP G) Lm)) x σ u λB O=>I { D with nx:=N,ct:=N,bk:=D.nx } B O):=by
 refine⟨λi m σ H=>m=xs.length-i/\i<=xs.length/\s i σ H,⟨xs.length,by simp,aJ _,L⟩,?_⟩
 rintro i m σ H ⟨rfl,hi,p⟩;have q:=hl i σ H hi p
 by_cases z:i<xs.length
 .refine .inr ⟨⟨xs,xs[i],q,by simp[z]⟩,s (i+1),λt u P=>⟨xs.length-(i+1),by lia,rfl,z,P⟩,λv u y=>?_⟩
  obtain⟨T,x,Q,rfl,rfl,R⟩:=y;exact⟨T,_,rfl,BZ.of nG,rfl,_,_,rfl,_,_,rfl,rfl,M i x σ H T (R xs q) p Q⟩
 .have e:i=xs.length:=by lia
  subst e;exact .inl ⟨⟨xs,q,aa _⟩,hd σ H p⟩
def U3{K:Ζ}{a b:Addr}{xs ys:List V}{J L:Nat}{M:TS}{D:zu}{σ:St}{H:Hp}(s:Nat->St->Hp->Prop)(P:s 0 σ H)(B:xs.length=ys.length)
  (hl:∀i σ H,i<=xs.length->s i σ H->qh K H a xs/\qh K H b ys)
  (Q:∀i x y σ H T,xs[i]?=some x->ys[i]?=some y->s i σ H->H T=none->M { D with nx:=s (i+1),ct:=s (i+1),bk:=D.nx } ((σ.set J (some x)).set L (some y)) (om H T (.tup [x,y]))) (hd:∀σ H,s xs.length σ H->D.nx σ H) :
  ∃W:Nat->Nat->St->Hp->Prop,(∃m,W 0 m σ H)/\∀i m σ H,W i m σ H ->
   ((Itz K a b).stop i H/\D.nx σ H)∨((Itz K a b).go i H/\∃N:St->Hp->Prop,(∀t u,N t u->∃O,O<m/\W (i+1) O t u)/\∀x u,(Itz K a b).yld i H x u->LS K 2 (xW (qP J) (xW (qP L) Lm)) x σ u λE R=>M { D with nx:=N,ct:=N,bk:=D.nx } E R):=by
 refine⟨λi m σ H=>m=xs.length-i/\i<=xs.length/\s i σ H,⟨xs.length,by simp,aJ _,P⟩,?_⟩
 rintro i m σ H ⟨rfl,hi,p⟩;obtain⟨G,I⟩:=hl i σ H hi p
 by_cases z:i<xs.length
 .refine .inr ⟨⟨xs,ys,xs[i],ys[i],G,I,by simp[z],by simp[B ▸ z]⟩,s (i+1),λt u S=>⟨xs.length-(i+1),by lia,rfl,z,S⟩,λv u y=>?_⟩
  obtain⟨T,x,y,U,rfl,rfl,X,Y⟩:=y;exact⟨T,_,rfl,BZ.of nG,rfl,_,_,rfl,_,_,rfl,rfl,Q i x y σ H T (X xs G) (Y ys I) p U⟩
 .have e:i=xs.length:=by lia
  subst e;exact .inl ⟨⟨xs,ys,G,I,.inl (aa _)⟩,hd σ H p⟩
section
variable {X:Cx}
def uV{u:Φ}{σ:St}{H:Hp}{s:Shared}{a:Addr}{ns:Ϝ}(I:Inv X u σ H s)(h:qh X.K H a (ns.map V.int)) :
  ∃vs:Ξ,s.heap.IsList a vs.toArray/\jz vs ns/\ns.length<=jo:=by
 obtain⟨t,r,p,z⟩:=I.list h;rw[lMq]at z;exact⟨t,p.isList,Ad r,z⟩
def N2(L:X.calm=true):ur X (.builtin "min") (λxs H Q=>∃(a:Addr) (ns:Ϝ),xs=[.ref a]/\qh X.K H a (ns.map V.int)/\0<ns.length/\∀M,M∈ns->(∀x,x∈ns->M<=x)->Q (.int M) H):=by
 intro Y s σ H xs us Q I r h;obtain⟨a,ns,rfl,O,B,q⟩:=h;obtain⟨u,rfl,P⟩:=sk r;cases P;obtain⟨vs,hl,hi,_⟩:=uV I O;obtain⟨xs,e⟩:=hi.allInts.items;have z:ns=xs.toList.map (·.1):=by
  rw[←hi.numsOf,←nums_intItems,←e]
 have E:0<xs.size:=by
  have G:=B;rw[z,lMq,ah]at G;exact G
 rw[e]at hl;refine min_intList (I.ok.hd L) hl E λv h' tk R hk=>?_
 obtain⟨t,rfl⟩:=intItems_at R;obtain⟨h1,S⟩:=argBest_lt (numAt xs) (xs.size-1);refine⟨.int _,H,I.kept hk,⟨t,rfl⟩,q _ ?_ λx J=>?_⟩
 .rw[z,numAt_eq];exact PySem.getD_mem (by rw[lMq,ah];lia)
 .rw[z]at J;obtain⟨j,U,rfl⟩:=PySem.mem_getD J;rw[lMq,ah]at U;rw[←numAt_eq];exact S j (by lia)
def Q0(K:Ζ):V->List V->Hp->VK->Prop:=λx vs H Q=>∃(a:Addr) (ns:Ϝ) (k:Int),x = .ref a/\vs=[.int k]/\qh K H a (ns.map V.int)/\k∈ns/\Q (.int (ns.idxOf k:Nat)) H
def QG:Wx X "list.index" (Q0 X.K):=by
 intro nu s σ H x xs v us Q I R r h;obtain⟨a,ns,k,rfl,rfl,S,hk,q⟩:=h;cases R;obtain⟨u,rfl,t,rfl⟩:=sk r;obtain⟨z,U,⟨o,n,M,O,B,hd⟩,Y⟩:=I.list S;have hi:=Ad U;obtain⟨cls,dd,P,sl⟩:=o;simp only at O B hd;subst O B hd;have E:=hi.length;have G:ns.idxOf k<ns.length:=fX.mpr hk;have hs:jo=16777216:=jG;rw[lMq]at Y;refine kA gj ⟨_,M,rfl⟩ PySem.F.entry_list_index (PySem.F.args_list_index_2 _ _)
  (SeqAt.list_indexAt a z.toArray n none sl (.int k t) (isInt k) (ns.idxOf k) (by simpa[E]using G) (by lia) ?_ ?_) ⟨M,λy hy=>(eq_isInt k t hi y (by simpa using hy)).at _ _,?_⟩
 .show isInt k z[ns.idxOf k]=true;rw[isInt_at k hi _ (by lia) G]
  simpa using hU G
 .intro j J L;show isInt k z[j]=false;rw[isInt_at k hi j (by simpa using J) (by lia)]
  exact ne_of_lt_idxOf L _
 .exact⟨.int _,H,I.tok _,⟨_,rfl⟩,q⟩
def aa4(K:Ζ)(x:V)(H:Hp)(T:String)(b:Bool):Prop:=
 match x with
 | .int _=>(T = "int" /\ b=true)∨(T = "bool" /\ b=false)
 | .bl _=>(T = "bool" /\ b=true)∨(T = "int" /\ b=true)
 | .str _=>T = "str" /\ b=true
 | .ref p=>(T = "list" /\ b=true/\∃xs,qh K H p xs)∨(T = "dict" /\ b=true/\∃kvs,H p=some (.dK kvs))∨(T = "tuple" /\ b=true/\∃xs,BZ K H p xs)
 |_=>False
def Iu:ur X (.builtin "isinstance") (λxs H Q=>∃x T b,xs=[x,.ty T]/\aa4 X.K x H T b/\Q (.bl b) H):=by
 intro J s σ H xs Y Q I r h;obtain⟨x,T,b,rfl,e,q⟩:=h;obtain⟨u,v,rfl,z,L⟩:=WH r;cases L;cases x with
 |int i=>
  obtain⟨t,rfl⟩:=z;rcases e with⟨rfl,rfl⟩|⟨rfl,rfl⟩
  .exact jI (jR (Tx:= "int") F.isi_meta_int F.sub_int_int) ⟨(show s.TypeIs (.int i t) "int" from rfl),⟨.bl true,H,I,rfl,q⟩⟩
  .exact jI (isinstance_false_int (by trivial) F.isi_meta_bool F.sub_int_bool) (show EP X J σ Q (.bool false) { s with toks:=s.toks+1 } from ⟨.bl false,H,I.tok _,rfl,q⟩)
 |bl i=>
  cases z;rcases e with⟨rfl,rfl⟩|⟨rfl,rfl⟩
  .exact jI (jR (Tx:= "bool") F.isi_meta_bool F.sub_bool_bool) ⟨(show s.TypeIs (.bool i) "bool" from rfl),⟨.bl true,H,I,rfl,q⟩⟩
  .exact jI (jR (Tx:= "bool") F.isi_meta_int F.sub_bool_int) ⟨(show s.TypeIs (.bool i) "bool" from rfl),⟨.bl true,H,I,rfl,q⟩⟩
 |str i=>
  obtain⟨t,rfl⟩:=z;obtain⟨rfl,rfl⟩:=e;exact jI (jR (Tx:= "str") F.isi_meta_str F.sub_str_str) ⟨(show s.TypeIs (.str i t) "str" from rfl),⟨.bl true,H,I,rfl,q⟩⟩
 |ref p=>
  cases z;rcases e with⟨rfl,rfl,xs,B⟩|⟨rfl,rfl,E,M⟩|⟨rfl,rfl,xs,B⟩
  .obtain⟨G,O,P,R⟩:=I.list B;exact jI (jR (Tx:= "list") F.isi_meta_list (by rw[lD];kernel_rfl)) ⟨P.isList.typeIs,⟨.bl true,H,I,rfl,q⟩⟩
  .have ty:s.TypeIs (.ref p) "dict" := (Ta I (.inl ⟨E,.inl M⟩)).1;exact jI (jR (Tx:= "dict") F.isi_meta_dict (by rw[lD];kernel_rfl)) ⟨ty,⟨.bl true,H,I,rfl,q⟩⟩
  .obtain⟨G,O,⟨o,S,U,_⟩,R⟩:=I.tuple B;exact jI (jR (Tx:= "tuple") F.isi_meta_tuple (by rw[lD];kernel_rfl)) ⟨⟨o,S,U⟩,⟨.bl true,H,I,rfl,q⟩⟩
 |_=>exact(show False from e).elim
end
end Mr
namespace Mr
open PySem L2
structure tQ (K:Ζ)(mg:Str->Υ)(x:Str)(st:Stmt)(ps:List Str)(f:Addr)(fd:jx):Prop where
 F:Ru K x x st f fd
 m:mg x=some (.ref f)
 b:uf K fd ps []
def sM{H:Hp}{p:Addr}{o:HO}(h:H p=none):ox H (om H p o):=λb u e=>by
 rw[nC (pQ e h)];exact e
end Mr
namespace Mr
open PySem PySem.Spec PyProof.Rows L2
def Jw{prog:jq}{w:ju}{A:Around}{R:Result->Shared->Prop}{s:Shared}{O t iter:Expr}{P:List Expr}{scope:jZ}{pos:Pos}{it Q:Value}{env:Env}(I:Nat->Shared->Prop)
  (turn:∀n s,I n s->jn (jk prog w) A (pyNext it) (λr u=>match r with
   |none=>R (.ok .next) u
   |some v=>jn (jk prog w) A (kJ t it v) (λ_ E=>jn (jk prog w) A (kY t env v) (λ_ G=>
     jn (jk prog w) A (forIn P true λc r=>if r=true then do let ok ←isTrue c env (eval c env);pure (ForInStep.yield ok)else pure (ForInStep.yield r)) (λok B=>
      if ok=true then jn (jk prog w) A (eval O env) (λx H=>
       jn (jk prog w) A (call (.builtin "list.append") [Q,x]) (λ_ J=>∃m,m<n/\I m J) (λ_ _=>False) H) (λ_ _=>False) B
      else ∃m,m<n/\I m B) (λ_ _=>False) G) (λ_ _=>False) E) (λ_ _=>False) u) (λ_ _=>False) s)
  (n:Nat) (h:I n s):kf (jk prog w) A (.compLoop (.ListComp O [⟨t,iter,P,0⟩] scope pos) 0 it Q env) R s:=by
 refine codeAny_loop rfl I (λn s hI=>?_) n h
 show jn _ A ((compTurn (.ListComp O [⟨t,iter,P,0⟩] scope pos) 0 it Q env).onRaise (λx=>do noteFrame x env;theTreesLotGoes x)) _ _ s
 refine wpAny_noted ?_;rw[compTurn_list];refine ji (lL (ji (jB (turn n s hI) (λr u L=>?_) λ_ _ z=>z.elim)))
 cases r with
 |none=>exact jm L
 |some v=>
  refine ji (jB L (λ_ E S=>?_) λ_ _ z=>z.elim)
  refine ji (jB S (λ_ G U=>?_) λ_ _ z=>z.elim)
  refine ji (jB U (λok B M=>?_) λ_ _ z=>z.elim)
  cases ok with
  |false=>exact jm ⟨rfl,M⟩
  |true=>exact ji (ji (jB M (λx H X=>ji (jB X (λ_ J Y=>jm (jm ⟨rfl,Y⟩)) λ_ _ z=>z.elim)) λ_ _ z=>z.elim))
abbrev qL(X:Cx)(scope:jZ)(cl:List (Str×Addr))(N:List Str)(C:Addr)(s:Shared)(H:Hp)(fp:Δ):Cx where
 prog:=X.prog
 w:=X.w
 K:=X.K
 mg:=X.mg
 base:=X.base
 A:=X.A
 N:=N
 s₀:=s
 H₀:=H
 env:=compEnvC scope cl C X.env
 outer:=X.stack
 stack:=X.stack
 ex:=fp
 fn:=λ_=>false
 calm:=X.calm
 pn:=[]
 xe:=λ_ _=>False
def PF(X:Cx)(u:List Expr)(t:TT):Prop:=
 ∀(x:Φ) (s:Shared) (σ:St) (H:Hp) (Q:Bool->Hp->Prop),Inv X x σ H s->t σ H Q ->
  jn (jk X.prog X.w) X.A (forIn u true λc r=>if r=true then do let ok ←isTrue c X.env (eval c X.env);pure (ForInStep.yield ok)else pure (ForInStep.yield r)) (TP X x σ Q) X.xe s
noncomputable def aay:TT:=λ_ H Q=>Q true H
def qK{X:Cx}:PF X [] aay:=λ_ _ _ H _ I h=>wpAny_tests_nil ⟨H,I,h⟩
def GI{X:Cx}{c:Expr}{t:TT}(h:PT X c t):PF X [c] t:=λu s σ H Q I q=>wpAny_tests_one (h u s σ H Q I q)
structure qa (X:Cx)(scope:jZ)(cl:List (Str×Addr))(x:Str)(N:List Str)(fr:Θ):Prop where
 names:N.Nodup
 own:N[0]?=some x
 len:N.length=fr.length+1
 sub:∀y c,cl.lookup y=some c->X.env.cells.lookup y=some c
 has:∀y,((kc scope X.env).names.lookup y=some .cell∨(kc scope X.env).names.lookup y=some .free)->∃c,cl.lookup y=some c
 get:∀(k j:Nat) (y:Str),fr[k]?=some j->N[k+1]?=some y->X.N[j]?=some y/\X.env.scope.names.lookup y=some .cell/\(kc scope X.env).names.lookup y=some .cell
structure Rk (X:Cx)(scope:jZ)(cl:List (Str×Addr))(q:Nat)(N:List Str)(fr:Θ):Prop where
 len:N.length=fr.length+q
 sub:∀y c,cl.lookup y=some c->X.env.cells.lookup y=some c
 has:∀y,((kc scope X.env).names.lookup y=some .cell∨(kc scope X.env).names.lookup y=some .free)->∃c,cl.lookup y=some c
 get:∀(k j:Nat) (y:Str),fr[k]?=some j->N[k+q]?=some y->X.N[j]?=some y/\X.env.scope.names.lookup y=some .cell/\(kc scope X.env).names.lookup y=some .cell
def qa.g{X:Cx}{scope:jZ}{cl:List (Str×Addr)}{x:Str}{N:List Str}{fr:Θ}(h:qa X scope cl x N fr):Rk X scope cl 1 N fr:=⟨h.len,h.sub,h.has,h.get⟩
def qa.none{X:Cx}{scope:jZ}{x:Str}(h:∀p∈scope.names,p.2 ≠ .cell/\p.2 ≠ .free):qa X scope [] x [x] [] where
 names:=by simp
 own:=rfl
 len:=rfl
 sub:=λy c e=>by cases e
 has:=λy e=>by
  exfalso;have key:∀p∈(kc scope X.env).names,p.2 ≠ .cell/\p.2 ≠ .free:=by
   intro p t;obtain⟨q,u,rfl⟩:=mMq.mp t;obtain⟨n,k⟩:=q;obtain⟨z,s⟩:=h _ u;have hk:(k == NameKind.free)=false:=by simpa using s
   simp only[hk,eK];exact⟨z,s⟩
  rcases e with e|e
  .exact(key _ (PySem.mem_of_lookup e)).1 rfl
  .exact(key _ (PySem.mem_of_lookup e)).2 rfl
 get:=λk j y e _=>by cases e
noncomputable def slots(σ:St)(fr:Θ):St:=fr.map λj=>(σ[j]?).join
def D8(G:TI)(fr:Θ)(tf:TT)(te:TE):TE:=λσ H Q=>G σ H λJ u=>∀s,u s=none->∃W:Nat->Nat->Hp->Prop,(∃m,W 0 m (om u s (.lst [])))/\∀i m H,W i m H ->
 (J.stop i H/\Q (.ref s) H) ∨
 (J.go i H/\∃N:Hp->Prop,(∀t,N t->∃z,z<m/\W (i+1) z t)/\∀x t,J.yld i H x t->tf (some x::slots σ fr) t λb B=>
  if b=true then te (some x::slots σ fr) B λy E=>∃ys,E s=some (.lst ys)/\ys.length<jo/\N (om E s (.lst (ys++[y])))else N B)
section
variable {X:Cx}{scope:jZ}{cl:List (Str×Addr)}{N:List Str}{fr:Θ}{x:Str}{px pos:Pos}{elt iter:Expr}{ifs:List Expr}{tf:TT}{te:TE}
def Jo{tg:Expr}{gq:TG}{q:Nat}{own:St->Prop}{nu:Φ}{σ:St}{H:Hp}{s:Shared}{E:Ψ}{J:It}{fp:Δ}{it:Addr}{tn:Nat->Heap->Prop}{RR:Value->Addr->Result->Shared->Prop}{Q:VK}
  (hc:X.calm=true) (hcell:∀y∈scope.names,y.2 ≠ .cell) (hkind:scope.kind = .function) (hF:Rk X scope cl q N fr) (pg:∀C s H fp,PG (qL X scope cl N C s H fp) tg gq) (hw:∀Y,own Y->∃ws:St,ws.length=q/\Y=ws++slots σ fr)
  (hf:∀C s H fp,PF (qL X scope cl N C s H fp) ifs tf) (he:∀C s H fp,PE (qL X scope cl N C s H fp) elt te)
  (I:Inv X nu σ H s) (T:Dv X.prog X.w X.K tg J fp it tn) (st:tn 0 s.heap) (O:∀b∈fp,AX X nu H b)
  (h:∀L,H L=none->∃W:Nat->Nat->Hp->Prop,(∃m,W 0 m (om H L (.lst [])))/\∀i m H,W i m H ->
   (J.stop i H/\Q (.ref L) H) ∨
   (J.go i H/\∃N:Hp->Prop,(∀R,N R->∃m',m'<m/\W (i+1) m' R)/\∀x R,J.yld i H x R->∀vs:St,vs.length=q->gq x (vs++slots σ fr) R λY H1=>own Y/\tf Y H1 λb H2=>
    if b=true then te Y H2 λy H3=>∃ys,H3 L=some (.lst ys)/\ys.length<jo/\N (om H3 L (.lst (ys++[y])))else N H2))
  (fin:∀L C s' Hf m,Inv X nu σ Hf s'->s'.heap.Ns C m->AX X nu Hf C->Q (.ref L) Hf->RR (.ref L) C (.ok .next) s') :
  jn (jk X.prog X.w) X.A (newList []) (λL S=>jn (jk X.prog X.w) X.A (newFunctionEnv scope X.env.globals cl [] X.env.qual none .none (some X.env)) (λcenv s₄=>
   kf (jk X.prog X.w) X.A (.compStart (.ListComp elt [⟨tg,iter,ifs,0⟩] scope pos) 0 (.ref it) L { cenv with scope:=kc scope X.env }) (RR L cenv.locals) s₄) E S) E s:=by
 refine wpAny_newObj_type (wpAny_newFunctionEnv hcell (by intro y hy;simp at hy) (λM P B=>?_) hkind)
 dsimp only at P B ⊢;generalize hG:s.heap.push { cls:=.type "list", dict:=none,data:=.seq ([]:Ξ).toArray }=G at P B ⊢;have hC:G.objs.size=s.heap.objs.size+1:=by rw[←hG,eM]
 have hCle:s.heap.objs.size<=G.objs.size:=by rw[hC];exact bS _
 have hDC:s.heap.objs.size≠G.objs.size:=by rw[hC];exact aA (cL _)
 have below:∀b,b<s.heap.objs.size->b≠G.objs.size:=λb hb=>by rw[hC];exact aA (bO hb)
 have old:∀b o,s.heap.get? b=some o->M.get? b=some o:=λb o e=>B.extBut b o (below b (aj e)) (af _ (hG ▸ af _ e))
 have hacc:M.get? s.heap.objs.size=some { cls:=.type "list", data:=.seq ([]:Ξ).toArray }:=B.extBut _ _ hDC (af _ (hG ▸ aC _ rfl));have hn:H s.heap.objs.size=none:=I.hok.fresh (aa _);have hnC:H G.objs.size=none:=I.hok.fresh hCle;have fpl:∀b∈fp,b<s.heap.objs.size:=λb hb=>by
  obtain⟨o,q,_⟩:=T.obj 0 _ st b hb;exact aj q
 obtain⟨W,⟨m0,w0⟩,turn⟩:=h _ hn;have ok':(qL X scope cl N G.objs.size s H fp).Ok:=by
  refine⟨I.ok.mod,by show(kc scope X.env).kind = .function;exact hkind,I.ok.glob,I.ok.blt,hCle,λy z c h1 h2=>I.ok.inj y z c (hF.sub y c h1) (hF.sub z c h2),hF.has,λ_ _ z _=>(by cases z),I.ok.hd,I.ok.frames,.inl rfl,
   λb hb=>⟨below b (fpl b hb),λy c e=>(O b hb).2.2.2.2.1 y c (hF.sub y c e)⟩,λb o e=>⟨(I.bs b o e).1,(I.bs b o e).2⟩,bq I.ok.bsz I.sz,λb o e hb=>?_,λb hb z=>?_,I.stack,I.stkFree⟩
  .rcases(O b hb).2.2.2.1 with q|q
   .exact I.ok.noex b o e q
   .exact absurd (aF (aj (I.ok.bs b o e).1) q) (cm _)
  .rcases ag.mp (I.stkSub b z)with q|q
   .exact(O b hb).2.1 q
   .exact(O b hb).2.2.1 q
 have I0:Inv (qL X scope cl N G.objs.size s H fp) [] (az q none++slots σ fr) (om H s.heap.objs.size (.lst [])) { s with heap:=M,toks:=s.toks+([]:List (Str×Value)).length }:=by
  have hok1:Ac X.prog X.w (om H s.heap.objs.size (.lst [])) M:=I.hok.laid old (aa _) ⟨aJ _,[],0,.nil,hacc⟩;refine⟨ok',rfl,I.bare,Un.laid old (aa _) hn,⟨_,P,λk y v e1 e2 e3=>?_⟩,λy c e=>?_,?_,λy c e=>?_,λp hp=>absurd (show p∈([]:Φ)from hp) (by simp),hok1,?_⟩
  .by_cases kq:k<q
   .have e2:(az q none++slots σ fr)[k]?=some (some v):=e2;rw[gZq (by rw[bF];exact kq),cf,oa kq]at e2
    cases e2
   .obtain⟨k,rfl⟩:∃j,k=j+q:=⟨k-q,by lia⟩
    have U:(az q none++slots σ fr)[k+q]?=some (some v):=e2;rw[gYq (by rw[bF];lia),bF,Nat.add_sub_cancel]at U
    unfold slots at U;rw[gMq]at U;cases ej:fr[k]? with
    |none=>rw[ej]at U;cases U
    |some j=>
     rw[ej]at U;have e2j:(σ[j]?).join=some v:=aL.inj U;have e2s:σ[j]?=some (some v):=by
      cases q:σ[j]? with
      |none=>rw[q]at e2j;cases e2j
      |some z=>rw[q]at e2j;exact congrArg some e2j
     obtain⟨g1,g2,g3⟩:=hF.get k j y ej e1;obtain⟨m,_,hl⟩:=I.loc;obtain⟨u,r,l⟩:=hl j y v g1 e2s (.inr (.inl g2));refine⟨u,r,.inr ⟨.inl g3,?_⟩⟩;obtain⟨c,e⟩:=hF.has y (.inl g3);have e':=hF.sub y c e;rcases l with⟨l1,_⟩|⟨_,c',ec,hcell'⟩
     .have l1':X.env.scope.names.lookup y=some .local:=l1;rw[g2]at l1';cases l1'
     .rw[e']at ec;cases ec;obtain⟨o,ho,hd⟩:=hcell';exact⟨c,e,o,old c o ho,hd⟩
  .obtain⟨v,o,ho,hd⟩:=I.cell y c (hF.sub y c e);exact⟨v,o,old c o ho,hd⟩
  .show om H s.heap.objs.size (.lst []) G.objs.size=none;rw[nC (Ne.symm hDC)];exact hnC
  .obtain⟨v,o,ho,hd⟩:=I.cell y c (hF.sub y c e);rw[nC (aA (aj ho))];exact I.freeC y c (hF.sub y c e)
  .show(az q none++slots σ fr).length=N.length;unfold slots;rw[hF.len,lAq,bF,lMq,eC]
 have st1:tn 0 M:=T.keep 0 _ _ st λb _ o e=>old b o e
 have nf0:∀b∈fp,om H s.heap.objs.size (.lst []) b=none:=λb hb=>by
  rw[nC (aA (fpl b hb))];exact(O b hb).1
 have stat:∀{R:Hp},(∀b∈fp,R b=none)->∀b∈fp,AX (qL X scope cl N G.objs.size s H fp) [] R b:=λhn' b hb=>
  ⟨hn' b hb,below b (fpl b hb),ok'.exfs b hb,.inl hb,λy c e=>(ok'.exf b hb).2 y c e,λp hp=>absurd (show p∈([]:Φ)from hp) (by simp)⟩
 have loop:∀S:Shared,S={ s with heap:=M,toks:=s.toks+([]:List (Str×Value)).length } ->
   kf (jk X.prog X.w) X.A (.compLoop (.ListComp elt [⟨tg,iter,ifs,0⟩] scope pos) 0 (.ref it) (.ref s.heap.objs.size) (compEnvC scope cl G.objs.size X.env)) (RR (.ref s.heap.objs.size) G.objs.size) S:=by
  rintro S rfl;refine Jw (λn s'=>∃i vs R,vs.length=q/\Inv (qL X scope cl N G.objs.size s H fp) [] (vs++slots σ fr) R s'/\tn i s'.heap/\(∀b∈fp,R b=none)/\W i n R) ?_ m0 ⟨0,_,_,bF,I0,st1,nf0,w0⟩
  rintro n s4 ⟨i,vs,H4,lv,I4,st4,nf4,w4⟩;rcases turn i n H4 w4 with⟨stop,qq⟩|⟨go,Nx,hNx,step⟩
  .refine thn (T.done (qL X scope cl N G.objs.size s H fp) rfl rfl rfl hc i [] s4 (vs++slots σ fr) H4 (λ_ _=>False) I4 (stat nf4) st4 stop) λr s5 t=>?_
   obtain⟨hr,I5⟩:=t;subst hr;obtain⟨m,hm,_⟩:=I5.loc;have I6:Inv X nu σ H4 s5:=I.call' (ch:=fp) I5.os I5.base I5.hok I5.bare λb hb=>⟨(O b hb).2.2.2.1,(O b hb).2.1,(O b hb).2.2.2.2.1,(O b hb).2.2.2.2.2⟩
   exact fin _ _ s5 H4 m I6 hm (I.fpOk hCle I5.free) qq
  .refine thn (T.item (qL X scope cl N G.objs.size s H fp) rfl rfl rfl hc i [] s4 (vs++slots σ fr) H4 (λ_ _=>False) I4 (stat nf4) st4 go) λr s5 t=>?_
   obtain⟨u,hr,h5⟩:=t;subst hr;refine thn h5 λ_ s6 t=>?_
   obtain⟨y,H6,I6,r6,y6,st6,nf6⟩:=t;have I6':=I6.pinned (stat nf6) (T.obj _ _ st6);refine thn (pg _ _ _ _ _ s6 (vs++slots σ fr) H6 y u _ I6' r6 (step y _ y6 vs lv)) λ_ s7 t=>?_
   obtain⟨σ7,H7,I7,o7,q7⟩:=t;obtain⟨ws,lw,e7⟩:=hw _ o7;subst e7;refine thn (hf _ _ _ _ _ s7 _ _ _ I7 q7) λb s8 t=>?_
   obtain⟨H8,I8,q8⟩:=t;have again:∀{s9:Shared}{H9:Hp},Inv (qL X scope cl N G.objs.size s H fp) ([]++EL fp s6.heap) (ws++slots σ fr) H9 s9->Nx H9->∃m,m<n/\∃i vs R,vs.length=q/\Inv (qL X scope cl N G.objs.size s H fp) [] (vs++slots σ fr) R s9/\tn i s9.heap/\(∀b∈fp,R b=none)/\W i m R:=λ{s9 H9} I9 n9=>by
    obtain⟨m',hm,w9⟩:=hNx H9 n9;refine⟨m',hm,i+1,ws,H9,lw,I9.unpinned,T.keep _ _ _ st6 λb hb o e=>(I9.pin (b,o) (au _ (au _ (xF hb e)))).1,λb hb=>?_,w9⟩
    obtain⟨o,e,d⟩:=T.obj _ _ st6 b hb;exact(I9.pin (b,o) (au _ (au _ (xF hb e)))).2.1
   cases b with
   |false=>exact again I8 q8
   |true=>
    refine thn (he _ _ _ _ _ s8 _ _ _ I8 q8) λz s9 t=>?_
    obtain⟨zv,H9,I9,r9,ys,a9,l9,n9⟩:=t;refine thn (sq (X:=qL X scope cl N G.objs.size s H fp) _ s9 _ H9 (.ref s.heap.objs.size) [zv] (.ref s.heap.objs.size) [z] (λ_ R=>R=om H9 s.heap.objs.size (.lst (ys++[zv]))) I9 rfl (.cons r9 .nil) ⟨_,ys,zv,rfl,rfl,a9,l9,rfl⟩) λ_ s10 t=>?_
    obtain⟨_,H10,I10,_,e10⟩:=t;subst e10;exact again I10 n9
 exact codeAny_compStart_list (loop _ rfl) (T.self X.A 0 _ _ _ st1 (loop _ rfl))
def D6{P:Φ}{σ:St}{H:Hp}{s:Shared}{E:Ψ}{J:It}{fp:Δ}{Y:Addr}{tn:Nat->Heap->Prop}{RR:Value->Addr->Result->Shared->Prop}{Q:VK}
  (hc:X.calm=true) (z:∀y∈scope.names,y.2 ≠ .cell) (B:scope.kind = .function) (hx:scope.names.lookup x=some .local) (R:qa X scope cl x N fr)
  (hf:∀C s H fp,PF (qL X scope cl N C s H fp) ifs tf) (he:∀C s H fp,PE (qL X scope cl N C s H fp) elt te)
  (I:Inv X P σ H s) (T:Dv X.prog X.w X.K (.Name x px) J fp Y tn) (st:tn 0 s.heap) (S:∀b∈fp,AX X P H b)
  (h:∀t,H t=none->∃W:Nat->Nat->Hp->Prop,(∃m,W 0 m (om H t (.lst [])))/\∀i m H,W i m H ->
   (J.stop i H/\Q (.ref t) H) ∨
   (J.go i H/\∃N:Hp->Prop,(∀G,N G->∃m',m'<m/\W (i+1) m' G)/\∀x G,J.yld i H x G->tf (some x::slots σ fr) G λb H2=>
    if b=true then te (some x::slots σ fr) H2 λy H3=>∃ys,H3 t=some (.lst ys)/\ys.length<jo/\N (om H3 t (.lst (ys++[y])))else N H2))
  (fin:∀t C U Hf m,Inv X P σ Hf U->U.heap.Ns C m->AX X P Hf C->Q (.ref t) Hf->RR (.ref t) C (.ok .next) U) :
  jn (jk X.prog X.w) X.A (newList []) (λt L=>jn (jk X.prog X.w) X.A (newFunctionEnv scope X.env.globals cl [] X.env.qual none .none (some X.env)) (λu M=>
   kf (jk X.prog X.w) X.A (.compStart (.ListComp elt [⟨.Name x px,iter,ifs,0⟩] scope pos) 0 (.ref Y) t { u with scope:=kc scope X.env }) (RR t u.locals) M) E L) E s:=by
 refine Jo (tg:=.Name x px) (gq:=qP 0) (q:=1) (own:=λO=>∃a,O=a::slots σ fr) hc z B R.g (λC s H fp=>G6 R.names R.own (.inl (lJ hx)) (.inr (lJ hx))) (λO e=>?_) hf he I T st S (λt ha=>?_) fin
 .obtain⟨a,rfl⟩:=e;exact⟨[a],rfl,rfl⟩
 .obtain⟨W,w0,turn⟩:=h t ha;refine⟨W,w0,λi m H w=>(turn i m H w).imp id λ⟨go,N,hN,stp⟩=>⟨go,N,hN,λx G y vs lv=>?_⟩⟩
  match vs,lv with
  | [v],_=>exact⟨⟨some x,rfl⟩,stp x G y⟩
def pH{L:TI}(O:X.calm=true)(z:closureFor scope X.env=pure cl)(B:∀y∈scope.names,y.2 ≠ .cell)(t:scope.kind = .function)(u:∀y∈scope.names,y.2 = .local->scope.names.lookup y.1=some .local)
  (P:scope.names.lookup x=some .local) (R:qa X scope cl x N fr) (hi:PI X (.Name x px) iter L) (S:∀C s H fp,PF (qL X scope cl N C s H fp) ifs tf) (U:∀C s H fp,PE (qL X scope cl N C s H fp) elt te)
  (Y:∀x,kQ iter X.env x=pure x:=by intro _;rfl):PE X (.ListComp elt [⟨.Name x px,iter,ifs,0⟩] scope pos) (D8 L fr tf te):=by
 intro M s σ H Q I h;rw[eval_ListComp];refine kW (use:=none) rfl Y z t u (thn (hi M s σ H _ I h) λv s1 h1=>thn h1 λitv s2 h2=>?_)
 obtain⟨it,fp,tn,J,H2,e,I2,T,Fb,f2,q2⟩:=h2;subst e;refine D6 (RR:=λE C=>compPost (jk X.prog X.w) X.A X.xe none (EP X M σ Q) E C) O B t P R S U I2 T Fb f2 q2 ?_
 intro E C s' Hf m I' hm G q;refine⟨m,hm,λh' sb=>⟨.ref E,Hf,?_,rfl,q⟩⟩
 exact I'.turned (t':=s'.toks) (λb o hb e=>(sb.2 b hb).trans e) G.1 G.2.1 G.2.2.2.1 G.2.2.2.2.1 G.2.2.2.2.2
def Mg{wi:TI}{y:Str}{i:Nat}{py G:Pos}(hc:X.calm=true)(hN:X.N.Nodup)(hi0:X.N[i]?=some y)(hy:Zu X.env.scope y)(L:closureFor scope X.env=pure cl)(M:∀y∈scope.names,y.2 ≠ .cell)(t:scope.kind = .function)
  (B:∀y∈scope.names,y.2 = .local->scope.names.lookup y.1=some .local)
  (hx:scope.names.lookup x=some .local) (hF:qa X scope cl x N fr) (hi:PI X (.Name x px) iter wi) (hf:∀C s H fp,PF (qL X scope cl N C s H fp) ifs tf) (he:∀C s H fp,PE (qL X scope cl N C s H fp) elt te)
  (U:kM (.ListComp elt [⟨.Name x px,iter,ifs,0⟩] scope pos) (some (.Name y py)) G.line X.env=pure true:=by rfl) (hs:∀x,kQ iter X.env x=pure x:=by intro _;rfl)
  (Y:X.fn y=true∨X.env.scope.names.lookup y=some .local:=by trivial) :
  PS X (.Assign [.Name y py] (.ListComp elt [⟨.Name x px,iter,ifs,0⟩] scope pos) G) (Ja (D8 wi fr tf te) (qP i)):=by
 intro R s σ H D I h;rw[exec_Assign_Name_used _ _ _ _ U];refine ji (lL (ji ?_));show jn _ X.A (do let _ ←comprehension (.ListComp elt [⟨.Name x px,iter,ifs,0⟩] scope pos) scope X.env _ (newList []) false (eval iter X.env) (some (kY (.Name y py) X.env))) _ _ s
 refine ji (jB (kW (use:=some (kY (.Name y py) X.env)) (Q:=λ_ O=>SP X R D .next O) rfl hs L t B
  (thn (hi R s σ H _ I h) λv s1 h1=>thn h1 λitv s2 h2=>?_)) (λ_ O hq=>jm (jm hq)) λ_ _ e=>e)
 obtain⟨it,fp,tn,J,H2,e,S,T,Fb,f2,q2⟩:=h2;subst e;refine D6 (RR:=λE C=>compPost (jk X.prog X.w) X.A X.xe (some (kY (.Name y py) X.env)) (λ_ O=>SP X R D .next O) E C) (Q:=λv H'=>D.nx (σ.set i (some v)) H') hc M t hx hF hf he S T Fb f2 q2 ?_
 intro E C O Hf m I' hm P q;obtain⟨o,es,ep,ho,hd,r⟩:=id hm;have I1:Inv X (R++[(C,o)]) σ Hf O:=I'.pins_of λp hp=>(mAq.mp hp).elim (λz=>I'.pin p (au _ z)) λz=>by
  have e:p=(C,o):=by simpa using z
  subst e;exact⟨ho,P.1,P.2.1,P.2.2.1,λv z=>by rw[hd]at z;cases z⟩
 refine thn (G6 (X:=X) (i:=i) (pos:=py) hN hi0 hy Y _ O σ Hf (.ref E) (.ref E) _ I1 rfl q) λ_ s2 hz1=>?_
 obtain⟨σ2,H2,S,q2⟩:=hz1;have pC:=S.pin (C,o) (au _ (au _ (by simp)))
 refine⟨m,⟨o,es,ep,pC.1,hd,r⟩,λh' sb=>⟨σ2,H2,?_,q2⟩⟩
 exact S.unpinned.turned (t':=s2.toks) (λb u hb e=>(sb.2 b hb).trans e) pC.2.1 P.2.1 P.2.2.2.1 P.2.2.2.2.1 P.2.2.2.2.2
end
end Mr
namespace MrS
open PySem PyProof.Rows
section
variable {prog:jq}{w:ju}{A:Around}{E:Ψ}{s:Shared}{Pk:jh->Prop}{lt:jh->jh->Bool}
noncomputable abbrev tY(h:Heap)(a:Addr)(vs:Ξ):Heap:=((h.update a (Obj.mapSeq λ_=>#[])).push (jy "tuple" vs.toArray 0)).push (jy "list" #[] 0)
def zB{a:Addr}{vs:Ξ}{n:Nat}{P:PySem.Fin->Shared->Prop}(G:s.heap.get? a=some (jy "list" vs.toArray n))(S:vs.length<=jo)
  (J:2<=vs.length->∀Q:jK->Shared->Prop,Q ki { s with heap:=tY s.heap a vs }->jn (jk prog w) A (keyKind' vs.toArray) Q E { s with heap:=tY s.heap a vs })
  (C:zl prog w A { s with heap:=tY s.heap a vs } ki Pk lt) (O:∀x,x∈jS vs->Pk x)
  (h:∀xs:Array jh,xs.Perm (jS vs)->Ar lt xs 0 (jS vs).size->P (.done (.ret .none)) { s with heap:=kS s.heap a vs (xs.map (·.2)) }) :
  jn (jk prog w) A (Builtin.«list.sort» ⟨[.ref a],[]⟩) P E s:=by
 rw[list_sort_plain];have ha:a<s.heap.objs.size:=aj G;refine ji (listItems_at G rfl ?_);refine ji (lO G rfl ?_ (hsz:=by simpa using S))
 obtain⟨L,u⟩:∃L,(s.heap.update a (Obj.mapSeq λ_=>#[])).get? a=some (jy "list" #[] L):=⟨_,lg G (λ_=>#[])⟩
 refine ji (lW u rfl ?_);refine ji (wpAny_newTuple ?_);refine ji (kN ?_);refine jE ?_;have t:(tY s.heap a vs).get? a=some (jy "list" #[] L):=by
  rw[eP _ _ _ (by rw[size_push',dN];exact aA (bO ha)),eP _ _ _ (by rw[dN];exact aA ha)]
  exact u
 show jn (jk prog w) A _ P E { s with heap:=tY s.heap a vs }
 dsimp only;have U:vs.toArray.size=vs.length:=by simp
 have X:jo=16777216:=jG
 by_cases H:vs.toArray.size<2
 .rw[oa H,oa H];refine ji (jm ?_);rw[StateT.run_pure];refine ji (jm ?_);dsimp only;refine ji (lW t rfl ?_);refine ji (lO t rfl ?_ (hsz2:=by rw[iL];show(jS vs).size<=_;rw[kK,jG];lia))
  simp only[bne_self_eq_false,ez,if_false];refine jm (h _ (iJ.refl _) ?_);intro i j x y _ Y hj ex R;have:i=j:=by rw[kK]at hj;lia
  subst this;rw[ex]at R;cases R;exact C.refl (O x (aQq ex))
 .rw[nY H,nY H];refine ji (J (by lia) _ ?_)
  refine ji (jB (Hy C (arr:=jS vs) (g:=7) (E:=E)
   (Q:=λ_ z=>∃xs p I,z=xh ki xs p I/\xs.Perm (jS vs)/\Ar lt xs 0 (jS vs).size) O (by rw[kK];lia) λxs p I a1 a2=>⟨xs,p,I,rfl,a1,a2⟩) ?_ λ_ _ e=>e)
  rintro⟨⟨⟩,z⟩ s' ⟨rfl,xs,p,I,rfl,B,M⟩;dsimp only;refine ji (lW t rfl ?_);refine ji (lO t rfl ?_ (hsz2:=by refine bq (dD ((iL ..).trans (B.size_eq.trans (kK _)))) ?_;lia))
  simp only[bne_self_eq_false,ez,if_false];exact jm (h xs B M)
def M6{h:Heap}{a:Addr}{xs:Ω}{n:Nat}(vs:Ξ)(x:h.get? a=some (jy "list" xs n)):∃t,(tY h a vs).get? a=some (jy "list" #[] t):=by
 have ha:a<h.objs.size:=aj x;obtain⟨t,u⟩:∃t,(h.update a (Obj.mapSeq λ_=>#[])).get? a=some (jy "list" #[] t):=⟨_,lg x (λ_=>#[])⟩
 refine⟨t,?_⟩;rw[eP _ _ _ (by rw[size_push',dN];exact aA (bO ha)),eP _ _ _ (by rw[dN];exact aA ha)]
 exact u
noncomputable def MP{h:Heap}{a:Addr}{xs:Ω}{n:Nat}(ys:Ω)(t:h.get? a=some (jy "list" xs n)):∃u,(h.update a (Obj.mapSeq λ_=>ys)).get? a=some (jy "list" ys u):=⟨_,lg t (λ_=>ys)⟩
def vH{vs:Ξ}{x:jh}(h:x∈jS vs):x.1∈vs/\x.2=x.1:=by
 obtain⟨i,hi,e⟩:=Array.mem_iff_getElem.mp h;have t:i<vs.length:=by rw[kK]at hi;exact hi
 have:x=(vs[i],vs[i]):=by
  rw[←e];simp[jS]
 rw[this];exact⟨gRq t,rfl⟩
def Cr{vs:Ξ}{xs:Array jh}(B:xs.Perm (jS vs))(H:Ar lt xs 0 (jS vs).size) :
  (xs.map (·.2)).toList.Perm vs/\(xs.map (·.2)).toList.Pairwise (λx y=>lt (y,y) (x,x)=false):=by
 constructor
 .have:=B.toList.map (·.2);have e:(jS vs).toList.map (·.2)=vs:=by
   have:(jS vs).toList=vs.zip vs:=by simp[jS]
   rw[this];apply List.ext_getElem
   .simp
   .intro i P Q;simp
  rw[e]at this;rw[Array.toList_map];exact this
 .rw[bu];intro i j hi I G;have u:i<xs.size:=by simpa using hi
  have t:j<xs.size:=by simpa using I
  have z:=H i j xs[i] xs[j] (aJ _) (bZ G) (by rw[←B.size_eq];exact t) (by simp[u]) (by simp[t])
  have J:=vH (B.mem_iff.mp (ba u));have L:=vH (B.mem_iff.mp (ba t));have M:xs[i]=(xs[i].2,xs[i].2):=iG J.2.symm rfl;have O:xs[j]=(xs[j].2,xs[j].2):=iG L.2.symm rfl;rw[M,O]at z;simpa using z
def DL{l:Addr}{vs:Ξ}{Q:Ψ}(hl:s.heap.IsList l vs.toArray)(I:vs.length<=jo)
  (L:∀z:Shared,(∀b o,s.heap.get? b=some o->z.heap.get? b=some o)->(2<=vs.length->∀Q:jK->Shared->Prop,Q ki z->jn (jk prog w) A.in1.in1 (keyKind' vs.toArray) Q E z)/\zl prog w A.in1.in1 z ki Pk lt)
  (M:∀v∈vs,Pk (v,v))
  (h:∀(out:Ξ) (h':Heap) (O:Nat),out.Perm vs->out.Pairwise (λx y=>lt (y,y) (x,x)=false)->(∀b o,s.heap.get? b=some o->h'.get? b=some o) ->
   h'.get? (s.heap.objs.size+1)=some (jy "list" out.toArray O)->Q (.ref (s.heap.objs.size+1)) { s with heap:=h' }) :
  jn (jk prog w) A (call (.builtin "sorted") [.ref l]) Q E s:=by
 refine Calls.call_function_entry kind_sorted plain_sorted entry_sorted (args_sorted1 _) ?_;unfold Builtin.«sorted»;refine ji (m:=checkCount "sorted" 1 1 _) (jm ?_);refine ji (collect_list hl ?_ I);refine ji (kN ?_);have u:((s.heap.push (jy "list" #[] 0)).update s.heap.objs.size (Obj.mapSeq (· ++ vs.toArray))).objs.size=s.heap.objs.size+1:=by
  rw[dN,size_push']
 have t:(((s.heap.push (jy "list" #[] 0)).update s.heap.objs.size (Obj.mapSeq (· ++ vs.toArray))).push (jy "list" vs.toArray 0)).get? (s.heap.objs.size+1)=some (jy "list" vs.toArray 0):=by
  rw[←u];exact aC _ rfl
 show jn _ _ _ _ _ { s with heap:=((s.heap.push (jy "list" #[] 0)).update s.heap.objs.size (Obj.mapSeq (· ++ vs.toArray))).push (jy "list" vs.toArray 0) }
 rw[u];generalize P:((s.heap.push (jy "list" #[] 0)).update s.heap.objs.size (Obj.mapSeq (· ++ vs.toArray))).push (jy "list" vs.toArray 0)=G at t ⊢;have R:∀b o,s.heap.get? b=some o->G.get? b=some o:=λb o e=>by
  rw[←P];refine af _ ?_;rw[cZ _ _ _ _ (aA (aj e))];exact af _ e
 have J:∀b o,s.heap.get? b=some o->(tY G (s.heap.objs.size+1) vs).get? b=some o:=λb o e=>by
  refine af _ (af _ ?_);rw[cZ _ _ _ _ (aA (bO (aj e)))];exact R b o e
 obtain⟨S,U⟩:=L { s with heap:=tY G (s.heap.objs.size+1) vs } J
 refine ji (jE (wpAny_call_entry slot_list_sort ⟨_,t,rfl⟩ entry_list_sort (zB (Pk:=Pk) (lt:=lt) t I S U (λx X=>?_) λB Y a2=>⟨_,rfl,?_⟩) (args_list_sort _)))
 .obtain⟨m1,m2⟩:=vH X;have:x=(x.1,x.1):=iG rfl m2;rw[this];exact M _ m1
 .obtain⟨v1,v2⟩:=Cr Y a2;obtain⟨e1,H⟩:=M6 vs t;obtain⟨n1,g1⟩:=MP (B.map (·.2)) H;refine jm ⟨_,rfl,h _ (kS G (s.heap.objs.size+1) vs (B.map (·.2))) n1 v1 v2 (λb o e=>?_) ?_⟩
  .unfold kS;rw[cZ _ _ _ _ (aA (bO (aj e)))];exact J b o e
  .rw[show(B.map (·.2)).toList.toArray=B.map (·.2)from gM]
   exact g1
end
end MrS
namespace HT
open PySem PyProof.Rows
section
open PySem.SeqAt
open PySem.AutoSeq1 (wpAny_loadPart')
open PySem.MeetsSeq PySem.MeetsSeq2 PySem.MeetsSeq3 PySem.SeqRoads2
def Jg{vs:Ξ}{ns:Ϝ}(h:jz vs ns):∀{i:Nat}(hi:i<vs.length),∃(z:Int) (t:Tok),vs[i] = .int z t/\ns.drop i=z::ns.drop (i+1):=by
 induction h with
 |nil=>intro i hi;exact absurd hi (bW _)
 |cons a t _ s=>
  intro i hi;cases i with
  |zero=>exact⟨a,t,rfl,rfl⟩
  |succ i=>exact s (i:=i) (by simpa using hi)
def Hh(l b:Addr)(B z:Ω)(n X:Nat)(dd L:Option Addr)(Y M:Array Υ)(ns I:Ϝ)(hi:jz B.toList ns)(S:jz z.toList I)(k:Nat) :
  ∀i:Nat,min B.size z.size-i=k->i<=B.size->i<=z.size->Meets (Builtin.«list.__eq__.loop» ⟨[.ref l,.ref b,rawInt i,rawInt 0],[]⟩)
   (λ_ R s=>s.heap.get? l=some { cls:=.type "list", dict:=dd,data:=.seq B n,slots:=Y }/\s.heap.get? b=some { cls:=.type "list", dict:=L,data:=.seq z X,slots:=M } /\
    R (.ok (.ret (.bool (qO (ns.drop i) (I.drop i))))) s):=by
 have z1:ns.length=B.size:=by rw[←hi.length];simp
 have z2:I.length=z.size:=by rw[←S.length];simp
 induction k with
 |zero=>
  intro i hk h1 h2 prog w A R s h;obtain⟨O,g,d,P,os⟩:=s;obtain⟨hl,hb,h⟩:=h
  wp_walk using wpAny_loadPart' hl,wpAny_loadPart' hb
  have fin:qO (ns.drop i) (I.drop i)=decide (B.size<z.size):=by
   by_cases c:i=B.size
   .have e1:ns.drop i=[]:=cM (by lia)
    rw[e1]
    by_cases U:i<z.size
    .rw[aG (by lia:i<I.length),DU]
     exact(d0 (by lia)).symm
    .rw[cM (by lia:I.length<=i),E6]
     exact(d4 (by lia)).symm
   .have U:i=z.size:=by lia
    rw[aG (by lia:i<ns.length),cM (by lia:I.length<=i),Ep]
    exact(d4 (by lia)).symm
  rw[fin]at h
  by_cases c:i=B.size
  .have Tv:B[((i:Nat):Int).toNat]?=none:=by simp;lia
   rw[Tv]
   wp_walk using wpAny_loadPart' hl,wpAny_loadPart' hb
   exact h
  .have U:i=z.size:=by lia
   have Tv:B[((i:Nat):Int).toNat]?=some (B[i]'(by lia)):=by simp
   have E:z[((i:Nat):Int).toNat]?=none:=by simp;lia
   rw[Tv,E]
   wp_walk using wpAny_loadPart' hl,wpAny_loadPart' hb
   exact h
 |succ k ih=>
  intro i hk h1 h2 prog w A R s h;obtain⟨O,g,d,P,os⟩:=s;obtain⟨hl,hb,h⟩:=h
  wp_walk using wpAny_loadPart' hl,wpAny_loadPart' hb
  have J:i<B.size:=by lia
  have G:i<z.size:=by lia
  obtain⟨x,t,ex,dx⟩:=Jg hi (i:=i) (by simpa using J)
  obtain⟨y,u,ey,dy⟩:=Jg S (i:=i) (by simpa using G)
  have Tv:B[((i:Nat):Int).toNat]?=some (.int x t):=by
   rw[←ex];simp[J]
  have E:z[((i:Nat):Int).toNat]?=some (.int y u):=by
   rw[←ey];simp[G]
  have hc:((i:Int)+1)=((i+1:Nat):Int):=by push_cast;rfl
  rw[dx,dy,vc]at h;rw[Tv,E];obtain⟨e,he,H⟩:=Qw A.in1 ⟨O,g,d,P,os⟩ x t y u;refine ji (he prog w _ _ ?_);cases e with
  |true=>
   rw[oa (H.mp rfl)]at h
   wp_walk
   rw[hc];exact⟨kO plain_eq_loop _,jH entry_eq_loop (by
    rw[Around.under_plainId plain_eq_loop _];exact ih (i+1) (by lia) (by lia) (by lia) prog w A R _ ⟨hl,hb,h⟩)⟩
  |false=>
   rw[nY (λq=>absurd (H.mpr q) ay)]at h
   have Q:=Qc A.in1 ⟨O,g,d,P,os⟩ x t y u prog w
   wp_walk using wpAny_loadPart' hl,wpAny_loadPart' hb
   rw[Tv,E]
   wp_walk using Q
   exact h
def HI(l b:Addr)(u t:Ω)(n E:Nat)(dd x:Option Addr)(G z:Array Υ)(ns B:Ϝ)(hi:jz u.toList ns)(H:jz t.toList B) :
  Meets (Builtin.«list.__lt__» ⟨[.ref l,.ref b],[]⟩)
   (λ_ R s=>s.heap.get? l=some { cls:=.type "list", dict:=dd,data:=.seq u n,slots:=G }/\s.heap.get? b=some { cls:=.type "list", dict:=x,data:=.seq t E,slots:=z } /\
    R (.ok (.ret (.bool (qO ns B)))) s):=by
 intro prog w A R s h;obtain⟨I,g,d,J,os⟩:=s;obtain⟨hl,hb,h⟩:=h;have L:=AutoSeq1.sub_list_list
 wp_walk using wpAny_loadPart' hl,wpAny_loadPart' hb
 exact⟨kO plain_eq_loop _,jH entry_eq_loop (by
  rw[Around.under_plainId plain_eq_loop _];exact Hh l b u t n E dd x G z ns B hi H _ 0 rfl (aJ _) (aJ _) prog w A R _ ⟨hl,hb,h⟩)⟩
end
end HT
namespace Mr
open PySem PySem.Spec PyProof.Rows L2
section
open HT
theorem D5:∀xs ys:Ϝ,qO xs ys=true->qO ys xs=false
 | [],[],_=>rfl
 | [],_::_,_=>rfl
 |_::_,[],h=>by cases h
 |x::xs,y::ys,h=>by
  rw[vc]at h ⊢
  by_cases e:x=y
  .rw[oa e]at h;rw[oa e.symm];exact D5 xs ys h
  .rw[nY e]at h;rw[nY (Ne.symm e)];have s:x<y:=of_decide_eq_true h;exact d4 (by lia)
theorem B3:∀xs ys s:Ϝ,qO ys xs=false->qO s ys=false->qO s xs=false
 | [],[],[],_,_=>rfl
 | [],[],_::_,_,h=>by exact h
 | [],_::_,[],_,h=>by cases h
 | [],_::_,_::_,_,_=>rfl
 |_::_,[],_,h,_=>by cases h
 |_::_,_::_,[],_,h=>by cases h
 |x::xs,y::ys,z::s,h1,h2=>by
  rw[vc]at h1 h2 ⊢
  by_cases u:y=x
  .rw[oa u]at h1;subst u
   by_cases t:z=y
   .rw[oa t]at h2 ⊢;exact B3 xs ys s h1 h2
   .rw[nY t]at h2 ⊢;exact h2
  .rw[nY u]at h1;have B:¬ y<x:=of_decide_eq_false h1
   by_cases t:z=y
   .rw[nY (by lia)]
    exact d4 (by lia)
   .rw[nY t]at h2;have E:¬ z<y:=of_decide_eq_false h2;rw[nY (by lia)]
    exact d4 (by lia)
theorem Jc:∀xs ys:Ϝ,qO xs ys=false->qO ys xs=false->xs=ys
 | [],[],_,_=>rfl
 | [],_::_,h,_=>by cases h
 |_::_,[],_,h=>by cases h
 |x::xs,y::ys,h1,h2=>by
  rw[vc]at h1 h2
  by_cases e:x=y
  .rw[oa e]at h1;rw[oa e.symm]at h2;rw[e,Jc xs ys h1 h2]
  .rw[nY e]at h1;rw[nY (Ne.symm e)]at h2;have s:¬ x<y:=of_decide_eq_false h1;have t:¬ y<x:=of_decide_eq_false h2;lia
def TL(x y:Ϝ):Bool:=!HT.qO y x
def NS(x y z:Ϝ)(s:TL x y=true)(t:TL y z=true):TL x z=true:=by
 unfold TL at *;simp only[eQ]at *;exact B3 x y z s t
def N1(x y:Ϝ):(TL x y || TL y x)=true:=by
 unfold TL;cases h:HT.qO y x with
 |false=>rfl
 |true=>rw[D5 y x h];rfl
def zH(rs:Λ):Λ:=rs.mergeSort TL
def yO(rs:Λ):(zH rs).Perm rs:=gT _ _
def zW(rs:Λ):(zH rs).Pairwise (λx y=>HT.qO y x=false):=by
 refine(gk NS N1 rs).imp λ{a b} h=>?_
 unfold TL at h;simpa using h
def EW:∀{xs ys:Λ},xs.Perm ys->xs.Pairwise (λx y=>HT.qO y x=false)->ys.Pairwise (λx y=>HT.qO y x=false)->xs=ys
 |xs,ys,s,t,u=>bf.eq_of_pairwise (λa b _ _ z B=>(Jc b a z B).symm) t u s
def Hj{xs rs:Λ}(s:xs.Perm rs)(h:xs.Pairwise (λx y=>HT.qO y x=false)):xs=zH rs:=
 EW (s.trans (yO rs).symm) h (zW rs)
def OT{rs ts:Λ}(s:rs.Perm ts):zH rs=zH ts:=Hj ((yO rs).trans s) (zW rs)
def LD(rs:Λ):(zH rs).length=rs.length:=(yO rs).length_eq
noncomputable def pZ(ns:Ϝ):Ϝ:=ns.mergeSort (λx y=>decide (x<=y))
def pK(ns:Ϝ):(pZ ns).Perm ns:=gT _ _
def yK(ns:Ϝ):(pZ ns).Pairwise (·<=·):=by
 refine(gk (le:=λx y=>decide (x<=y)) (λa b c s t=>?_) (λa b=>?_) ns).imp λ{a b} h=>by simpa using h
 .simp only[decide_eq_true_eq]at *;lia
 .simp only[iH,decide_eq_true_eq];lia
def Mz{xs ns:Ϝ}(s:xs.Perm ns)(h:xs.Pairwise (·<=·)):xs=pZ ns:=
 bf.eq_of_pairwise (λa b _ _ t u=>Int.le_antisymm t u) h (yK ns) (s.trans (pK ns).symm)
end
def pN(H:Hp)(ps:Δ)(rs:Λ):Prop:=ps.map H=rs.map (λr=>some (HO.lst (r.map V.int)))
noncomputable def pN.nil{H:Hp}:pN H [] []:=rfl
theorem pN.length{H:Hp}{ps:Δ}{rs:Λ}(h:pN H ps rs):ps.length=rs.length:=by
 have:=congrArg bV h;simpa using this
def pN.cons_iff{H:Hp}{ps:Δ}{rs:Λ}{p:Addr}{r:Ϝ}:pN H (p::ps) (r::rs)↔H p=some (.lst (r.map V.int))/\pN H ps rs:=by
 unfold pN;rw[ai,ai,iQ.injEq]
def pN.get{H:Hp}{ps:Δ}{rs:Λ}(h:pN H ps rs){i:Nat}{p:Addr}(e:ps[i]?=some p):∃r,rs[i]?=some r/\H p=some (.lst (r.map V.int)):=by
 have:=congrArg (λl=>l[i]?) h
 simp only[gMq,e,bR]at this;cases s:rs[i]? with
 |none=>rw[s]at this;cases this
 |some r=>rw[s]at this;exact⟨r,rfl,aL.inj this⟩
def pN.mem{H:Hp}{ps:Δ}{rs:Λ}(h:pN H ps rs){p:Addr}(s:p∈ps):∃r,r∈rs/\H p=some (.lst (r.map V.int)):=by
 obtain⟨i,hi⟩:=List.getElem?_of_mem s;obtain⟨r,t,e⟩:=h.get hi;exact⟨r,mGq t,e⟩
def pN.keep{H s:Hp}{ps:Δ}{rs:Λ}(h:pN H ps rs)(k:∀p∈ps,s p=H p):pN s ps rs:=by
 unfold pN at *;rw[←h];exact mCq k
def pN.same{H t:Hp}{ps:Δ}{rs:Λ}(h:pN H ps rs)(s:ox H t):pN t ps rs:=
 h.keep λp u=>by
  obtain⟨r,_,e⟩:=h.mem u;rw[s _ _ e,e]
noncomputable def toI:V->Int
 | .int i=>i
 |_=>0
def xZ(H:Hp)(p:Addr):Ϝ:=match H p with
 |some (.lst xs)=>xs.map toI
 |_=>[]
def Jt{H:Hp}{p:Addr}{r:Ϝ}(h:H p=some (.lst (r.map V.int))):xZ H p=r:=by
 unfold xZ;rw[h];simp only[mPq];exact List.map_id'' (λ_=>rfl) r
def pN.fn{H:Hp}{ps:Δ}{rs:Λ}(h:pN H ps rs):rs=ps.map (xZ H):=by
 induction rs generalizing ps with
 |nil=>
  have:=h.length;have:ps=[]:=aZ.mp this;rw[this];rfl
 |cons r rs s=>
  cases ps with
  |nil=>have:=h.length;simp at this
  |cons p ps=>
   obtain⟨t,u⟩:=pN.cons_iff.mp h;rw[ai,←s u,Jt t]
def pN.fn_row{H:Hp}{ps:Δ}{rs:Λ}(h:pN H ps rs){p:Addr}(s:p∈ps):H p=some (.lst ((xZ H p).map V.int)):=by
 obtain⟨r,_,e⟩:=h.mem s;rw[Jt e];exact e
def pN.of_fn{H:Hp}{ps:Δ}(h:∀p∈ps,H p=some (.lst ((xZ H p).map V.int))):pN H ps (ps.map (xZ H)):=by
 unfold pN;rw[mPq];exact mCq h
def pN.perm{H:Hp}{ps qs:Δ}{rs:Λ}(h:pN H ps rs)(s:qs.Perm ps):∃ts,pN H qs ts/\ts.Perm rs/\ts=qs.map (xZ H):=
 ⟨_,pN.of_fn λp m=>h.fn_row (s.mem_iff.mp m),by rw[h.fn];exact s.map _,rfl⟩
def pN.free{H s:Hp}{ps:Δ}{rs:Λ}(h:pN s ps rs){q:Addr}(n:s q=none):q∉ps:=λm=>by
 obtain⟨r,_,e⟩:=h.mem m;rw[n]at e;cases e
theorem Ca:∀{ps:Δ}{vs:Ξ},ot (ps.map V.ref) vs->vs=ps.map aR
 | [],vs,r=>by cases r;rfl
 |p::ps,vs,r=>by
  rw[ai]at r;cases r with
  |cons s t=>
   have e:_=aR p:=s;rw[e,Ca t];rfl
theorem Fu:∀(ps:Δ),ot (ps.map V.ref) (ps.map aR)
 | []=>.nil
 |p::ps=>.cons rfl (Fu ps)
noncomputable def yo:Value->Addr
 | .ref p=>p
 |_=>0
noncomputable def intOf:Value->Int
 | .int i _=>i
 |_=>0
def GT{vs:Ξ}{ns:Ϝ}(h:jz vs ns):ns=vs.map intOf/\∀v∈vs,∃a t,v = .int a t:=by
 induction h with
 |nil=>exact⟨rfl,λv s=>by cases s⟩
 |cons a t _ u=>
  refine⟨by rw[ai,←u.1];rfl,λv s=>?_⟩
  rcases ag.mp s with rfl|s
  .exact⟨a,t,rfl⟩
  .exact u.2 v s
theorem vals_ints:∀{vs:Ξ},(∀v∈vs,∃a t,v = .int a t)->ot ((vs.map intOf).map V.int) vs
 | [],_=>.nil
 |v::vs,h=>by
  obtain⟨a,t,rfl⟩:=h _ (ax ..);exact .cons ⟨t,rfl⟩ (vals_ints λv s=>h v (mCo _ s))
noncomputable def Ux{M:Model}{A:Around}{E:Ψ}{s:Shared}{vs:Ξ}{T:String}{Q:jK->Shared->Prop}(x:2<=vs.length)(z:∀v∈vs,W.Looks M s.heap (typeOf v) (.type T))(t:(dO T != dO "tuple")=true)(u:(dO T == dO T)=true)(h:Q ki s) :
  jn M A (keyKind' vs.toArray) Q E s:=W.kas_kind x z t u h
noncomputable def ltI(x y:jh):Bool:=match x.1,y.1 with
 | .int a _,.int b _=>decide (a<b)
 |_,_=>false
def ZI(prog:jq)(w:ju)(A:Around)(s:Shared):MrS.zl prog w A s ki (λx=>∃a t,x.1 = .int a t) ltI where
 ask:=by
  rintro⟨_,x⟩ ⟨_,y⟩ ⟨a,t,B⟩ ⟨b,u,G⟩ E Q q;dsimp only at B G;subst B G;rw[keyLt'_oneType];exact oneLt_int q
 asym:=by
  rintro⟨_,x⟩ ⟨_,y⟩ ⟨a,t,B⟩ ⟨b,u,G⟩ h;dsimp only at B G;subst B G;have h':a<b:=of_decide_eq_true h;exact d4 (by lia)
 trans:=by
  rintro⟨_,x⟩ ⟨_,y⟩ ⟨_,z⟩ ⟨a,t,B⟩ ⟨b,u,G⟩ ⟨c,v,H⟩ I J;dsimp only at B G H;subst B G H;have L:¬ b<a:=of_decide_eq_false I;have M:¬ c<b:=of_decide_eq_false J;exact d4 (by lia)
def ltR(r:Addr->Ϝ)(x y:jh):Bool:=match x.1,y.1 with
 | .ref p,.ref q=>HT.qO (r p) (r q)
 |_,_=>false
def acx{prog:jq}{w:ju}{A:Around}{s:Shared}{ps:Δ}{r:Addr->Ϝ}(S:A.units<jF)
  (h:∀p∈ps,∃vs:Ξ,PlainL s.heap p vs.toArray/\jz vs (r p)):MrS.zl prog w A s ki (λx=>∃p,x.1 = .ref p/\p∈ps) (ltR r) where
 ask:=by
  rintro⟨_,x⟩ ⟨_,y⟩ ⟨p,t,U⟩ ⟨q,u,X⟩ E Q k;dsimp only at t u;subst t u;obtain⟨vs,⟨o,n,J,O,G,hd⟩,hi⟩:=h p U;obtain⟨ws,⟨o2,Y,L,H,B,I⟩,hj⟩:=h q X;obtain⟨cls,dd,data,sl⟩:=o;obtain⟨P,dd2,data2,M⟩:=o2;simp only at O G hd H B I;subst O G hd H B I;rw[keyLt'_oneType,oneLt'_eq];simp only[if_true];refine ji (wpAny_cRoomFor S ?_);refine ji (wpAny_callSpecialIfBound?_slot ⟨_,J,rfl⟩ F.slot_list_lt (kA F.slot_list_lt ⟨_,J,rfl⟩ F.entry_list_lt (F.args_list_lt_2 _ _)
   (HT.HI p q vs.toArray ws.toArray n Y none none sl M (r p) (r q) (by simpa using hi) (by simpa using hj)) ⟨J,L,?_⟩))
  exact jM k
 asym:=by
  rintro⟨_,x⟩ ⟨_,y⟩ ⟨a,t,_⟩ ⟨b,u,_⟩ h;dsimp only at t u;subst t u;exact D5 _ _ h
 trans:=by
  rintro⟨_,x⟩ ⟨_,y⟩ ⟨_,z⟩ ⟨a,t,_⟩ ⟨b,u,_⟩ ⟨c,R,_⟩ h1 h2;dsimp only at t u R;subst t u R;exact B3 _ _ _ h1 h2
section
variable {X:Cx}
def Bi:ur X (.builtin "sorted") (λxs H Q=>∃(a:Addr) (ns:Ϝ),xs=[.ref a]/\qh X.K H a (ns.map V.int)/\∀p,H p=none->Q (.ref p) (om H p (.lst ((pZ ns).map V.int)))):=by
 intro nu s σ H xs us Q I r h;obtain⟨a,ns,rfl,M,q⟩:=h;obtain⟨u,rfl,O⟩:=sk r;cases O;obtain⟨P,hl,hi,R⟩:=uV I M;obtain⟨S,E⟩:=GT hi;have G:=hi.length;refine MrS.DL (Pk:=λx=>∃a t,x.1 = .int a t) (lt:=ltI) hl (by lia) (λs' _=>⟨λz Q q=>?_,ZI _ _ _ _⟩) (λv m=>E v m) λout J U L Y o3 o4=>?_
 .match P,hi,z with
  | [],_,z=>simp at z
  | [_],_,z=>simp at z
  |v₁::v₂::rest,hi,_=>
   rw[keyKind_ints hi];exact jm q
 .have B:∀v∈out,∃a t,v = .int a t:=λv m=>E v (L.mem_iff.mp m)
  have e:out.map intOf=pZ ns:=by
   refine Mz (by rw[S];exact L.map _) ?_
   rw[bo];refine Y.imp_of_mem λ{x y} mx my h=>?_
   obtain⟨a,t,rfl⟩:=B x mx;obtain⟨b,u,rfl⟩:=B y my;have J:¬ b<a:=of_decide_eq_false h;show a<=b;lia
  have hp:H (s.heap.objs.size+1)=none:=I.hok.fresh (bS _);refine⟨.ref (s.heap.objs.size+1),_,I.laid (t':=s.toks) o3 (bS _) (show pR X.prog X.w _ J _ (.lst ((pZ ns).map V.int))from ⟨?_,out,U,?_,o4⟩),rfl,q _ hp⟩
  .rw[lMq,(pK ns).length_eq];exact R
  .rw[←e];exact vals_ints B
def Bq(hu:X.A.units+64<jF):ur X (.builtin "sorted") (λxs H Q=>∃(a:Addr) (ps:Δ) (rs:Λ),xs=[.ref a]/\qh X.K H a (ps.map V.ref)/\pN H ps rs /\
  ∀p qs,H p=none->qs.Perm ps->pN (om H p (.lst (qs.map V.ref))) qs (zH rs)->Q (.ref p) (om H p (.lst (qs.map V.ref)))):=by
 intro nu s σ H xs us Q I r h;obtain⟨a,ps,rs,rfl,hS,Y,q⟩:=h;obtain⟨u,rfl,ru⟩:=sk r;cases ru;obtain⟨J,P,hl,hz⟩:=I.list hS;have ei:=Ca P;subst ei;have L:∀p∈ps,∃B:Ξ,PlainL s.heap p B.toArray/\jz B (xZ H p):=λp t=>by
  obtain⟨J,P,R,_⟩:=I.list (qh.of (Y.fn_row t));exact⟨J,R,Ad P⟩
 have z:∀(G:Shared),(∀b o,s.heap.get? b=some o->G.heap.get? b=some o)->∀p∈ps,∃B:Ξ,PlainL G.heap p B.toArray/\jz B (xZ H p):=λG k p t=>by
  obtain⟨B,⟨o,n,M,rest⟩,hi⟩:=L p t;exact⟨B,⟨o,n,k _ _ M,rest⟩,hi⟩
 refine MrS.DL (Pk:=λx=>∃p,x.1 = .ref p/\p∈ps) (lt:=ltR (xZ H)) hl.isList (by simpa using hz) (λG k=>⟨λh2 Q q=>?_,acx (by show X.A.units+1+1<jF;lia) (z G k)⟩) (λv m=>?_) λout h' n' o1 o2 o3 o4=>?_
 .refine Ux (T:= "list") h2 (λv S=>?_) (by rfl) (by rfl) q
  obtain⟨p,t,rfl⟩:=mMq.mp S;obtain⟨B,R,_⟩:=z G k p t;intro A Q E s2 k2 q2;obtain⟨o,M,hc,_⟩:=R.isList;exact wpAny_typeOf (T:= "list") ⟨o,k2 _ _ M,hc⟩ q2
 .obtain⟨p,t,rfl⟩:=mMq.mp m;exact⟨p,rfl,t⟩
 .have M:∀v∈out,∃p∈ps,v = .ref p:=λv m=>by
   obtain⟨p,t,rfl⟩:=mMq.mp (o1.mem_iff.mp m);exact⟨p,t,rfl⟩
  have U:out=(out.map yo).map aR:=by
   rw[mPq];have e:=mCq (l:=out) (f:=id) (g:=aR∘yo) λv S=>by
    obtain⟨p,_,rfl⟩:=M v S;rfl
   rw[←e,de]
  have O:(out.map yo).Perm ps:=by
   have:=o1.map yo;rw[mPq,show yo∘aR=id from rfl,de]at this
   exact this
  have t:H (s.heap.objs.size+1)=none:=I.hok.fresh (bS _);generalize out.map yo=qs at U O;obtain⟨ts,e1,e2,e3⟩:=Y.perm O;have es:ts=zH rs:=by
   refine Hj e2 ?_;rw[e3,bo];rw[U,bo]at o2;exact o2
  refine⟨.ref (s.heap.objs.size+1),_,I.laid (t':=s.toks) o3 (bS _) (show pR X.prog X.w _ h' _ (.lst (qs.map V.ref))from ⟨?_,out,n',?_,o4⟩),rfl,q _ qs t O (by rw[←es];exact e1.same (sM t))⟩
  .rw[lMq,O.length_eq];simpa using hz
  .rw[U];exact Fu qs
def vq(r:Ϝ):PyData:=.list (r.map PyData.int)
def A0(rs:Λ):PyData:=.list (rs.map vq)
def Pa{t:Φ}{σ:St}{H:Hp}{s:Shared}{p:Addr}{r:Ϝ}(I:Inv X t σ H s)(h:H p=some (.lst (r.map V.int))):Reads s.heap (.ref p) (vq r) [p]:=by
 obtain⟨u,hl,hi,_⟩:=uV I (qh.of h);exact W.reads_of_ints hl hi
theorem Cq:∀rs:Λ,PyData.canLayAll0 (rs.map vq)=true
 | []=>by simp[PyData.canLayAll0]
 |r::rs=>by simp[PyData.canLayAll0,vq,PyData.canLay0,W.canLayAll0_ints r,Cq rs]
theorem DQ:∀rs:Λ,PyData.depthAll (rs.map vq)<=3
 | []=>by simp[PyData.depthAll]
 |r::rs=>by
  have s:=DQ rs;have t:=W.depthAll_ints r;simp only[ai,PyData.depthAll,vq,PyData.depth];lia
def CG(rs:Λ):SeqAt.shaped (A0 rs)=true:=by
 have t:=DQ rs;have s:PyData.depth (A0 rs)<=64:=by simp only[A0,PyData.depth];lia
 show(PyData.canLay0 (A0 rs) && decide (PyData.depth (A0 rs)<=64))=true;rw[cu];exact⟨by simp only[A0,PyData.canLay0];exact Cq rs,d0 s⟩
theorem Dw:∀rs ts:Λ,SeqAt.noMixAll (rs.map vq) (ts.map vq)=true
 | [],[]=>by simp[SeqAt.noMixAll]
 | [],_::_=>by simp[SeqAt.noMixAll]
 |_::_,[]=>by simp[SeqAt.noMixAll]
 |r::rs,t::ts=>by simp[SeqAt.noMixAll,vq,SeqAt.noMix,W.noMix_ints r t,Dw rs ts]
theorem Ga:∀rs ts:Λ,PySem.Spec.sameAll (rs.map vq) (ts.map vq)=decide (rs=ts)
 | [],[]=>by simp[PySem.Spec.sameAll]
 | [],_::_=>by simp[PySem.Spec.sameAll]
 |_::_,[]=>by simp[PySem.Spec.sameAll]
 |r::rs,t::ts=>by
  simp only[ai,PySem.Spec.sameAll,vq,PySem.Spec.same,W.same_ints r t];rw[Ga rs ts]
  by_cases h:r=t <;> simp[h]
def Sd:V->List V->Hp->VK->Prop:=λx vs H Q=>∃(a b:Addr) (ps:Δ) (rs:Λ) (r:Ϝ),x = .ref a/\vs=[.ref b]/\H a=some (.lst (ps.map V.ref))/\pN H ps rs/\H b=some (.lst (r.map V.int))/\b∉ps/\Q (.int (rs.countP (·=r):Nat)) H
def Sq(hu:X.A.units+65<jF):Wx X "list.count" Sd:=by
 intro nu s σ H x xs v us Q I S r h;obtain⟨a,b,z,U,row,rfl,rfl,Y,J,L,nb,q⟩:=h;cases S;obtain⟨u,rfl,ru⟩:=sk r;cases ru;obtain⟨its,rv,⟨o,n,M,O,t,hd⟩,hz⟩:=I.list (qh.of Y);have ei:=Ca rv;subst ei;obtain⟨cls,dd,P,sl⟩:=o;simp only at O t hd;subst O t hd;have hr:=Pa I L;refine kA gm ⟨_,M,rfl⟩ PySem.F.entry_list_count (PySem.F.args_list_count_2 _ _)
  (SeqAt.list_countAt a (z.map aR).toArray n none sl (.ref b) (λy=>decide (xZ H (yo y)=row))) ⟨M,λy hy=>?_,?_⟩
 .obtain⟨p,R,rfl⟩:=mMq.mp (show y∈z.map aR by simpa using hy)
  refine SeqAt.EqAt.of_refs (λe=>nb (e ▸ R)) λprog w E Q hq=>?_
  obtain⟨vs,hl,hi,_⟩:=uV I (qh.of (J.fn_row R));obtain⟨ws,B,G,_⟩:=uV I (qh.of L);exact W.eq_intsK (prog:=prog) (w:=w) (A:=X.A.in1) hl hi B G (by show X.A.units+1+64<jF;lia) hq
 .refine⟨.int _,H,I.tok _,⟨_,rfl⟩,?_⟩;have e:(z.map aR).toArray.toList.countP (λy=>decide (xZ H (yo y)=row))=U.countP (·=row):=by
   rw[List.toList_toArray,J.fn,gF,gF];rfl
  rw[e];exact q
end
end Mr
namespace Mr
open PySem L2
structure Bt (mg:Str->Υ):Prop where
 len:mg "len" = none
 min:mg "min" = none
 max:mg "max" = none
 abs:mg "abs" = none
 all:mg "all" = none
 sorted:mg "sorted" = none
 isi:mg "isinstance" = none
 list:mg "list" = none
 int:mg "int" = none
 bool:mg "bool" = none
 str:mg "str" = none
 dict:mg "dict" = none
 zip:mg "zip" = none
 enum:mg "enumerate" = none
 range:mg "range" = none
 reversed:mg "reversed" = none
structure Fn (P:jq)(w:ju)(K:Ζ)(mg:Str->Υ)(base:Heap)(k:Nat)(x:Str)(st:Stmt)(ps:List Str)(sp:Sp)(f:Addr)(fd:jx):Prop where
 D:tQ K mg x st ps f fd
 ok:yG P w K mg base S6 k f fd ps sp
def qV.units65{k:Nat}{A:Around}(r:qV k A):A.units+65<jF:=by have:=r.un;lia
section
variable {X:Cx}{k:Nat}{f:Addr}{fd:jx}{ps:List Str}{sp:Sp}{x:Str}{p pos:Pos}{e:Expr}{es:List Expr}{t:TA}{st:Stmt}
def aat(G:Fn X.prog X.w X.K X.mg X.base k x st ps sp f fd)(hr:qV k X.A)(ha:PA X (e::es) t)(z:Gl X x:=by rfl)(s:(x == ("__debug__" : Str))=false:=by decide)
  (B:jt (e::es) X.env=(false,eval e X.env)::jt es X.env:=by rfl) (u:(jL pos (jt es X.env)).any (·.1)=false:=by rfl) :
  PE X (.Call (.Name x p) (e::es) [] pos) (DS sp [] E0 t):=Vb G.ok hr z G.D.m G.D.F.kp G.D.b .nil QW ha s B u
end
section
variable (K:Ζ)
noncomputable def BJ(i:Int):Bool:=decide (i≠0) && decide ((if i<0 then -i else i)<10 ^ 60)
noncomputable def Nq:Sp:=λvs H Q _=>∃(a:Addr) (ns:Ϝ),vs=[.ref a]/\qh K H a (ns.map V.int)/\ns.length<=63/\∀s,Q (.bl true) s
end
noncomputable def og{α:Type}{l:List α}{i:Nat}{x:α}(h:l[i]?=some x):l.take (i+1)=l.take i++[x]:=by
 rw[cK,h];rfl
def Qg(c m q:Int){n:Nat}(h:0<n):c*m % q % (n:Int)=((ET c m q n:Nat):Int):=by
 unfold ET;have s:=bK (c*m % q) (show(n:Int)≠0 by lia)
 lia
def Ho{ts:Λ}{a:Nat}{f:Nat->Nat}{e:Int}{m:Nat}(h:∀r∈ts,r.length<=m):∀r∈L8 ts a f e,r.length<=m+1:=λr hr=>by
 rcases fR hr with q|q
 .exact Nat.le_succ_of_le (h r q)
 .rw[q,G8]
  by_cases c:a<ts.length
  .refine iC (h _ ?_);rw[gDq,gEg c];exact gRq c
  .rw[gDq,bG (by lia)]
   exact iC (aJ _)
def R7{ns:Ϝ}{n:Nat}{ts:Λ}{k:Nat}{c:Int}{m:Nat}(h:∀r∈ts,r.length<=m):∀r∈A3 ns n ts k c,r.length<=m+2:=Ho (Ho h)
theorem Nw(ns:Ϝ)(n:Nat):∀(cs:Ϝ) (k:Nat) (ts:Λ) (m:Nat),(∀r∈ts,r.length<=m)->∀r∈yx ns n cs k ts,r.length<=m+2*cs.length
 | [],_,_,_,h=>h
 |c::cs,k,ts,m,h=>λr hr=>by
  have:=Nw ns n cs (k+1) _ (m+2) (R7 h) r hr;rw[lCq];lia
end Mr
namespace Xe
open PySem PySem.Spec PySem.W PyProof.Rows L2 Mr
abbrev St:=L2.St
abbrev lk0(K:Frag)(C:Addr):Bool:=findIn K (.ref C) "__setattr__" == some (some (.builtin "object.__setattr__")) && findIn K (.ref C) "__getattribute__" == some (some (.builtin "BaseException.__getattribute__")) &&
 findIn K (.ref C) "__getattr__" == some none && findIn K (.ref C) "__class__" == some (some (.builtin "object.__class__"))
def Xp(K:Frag)(c:Str)(C:Addr)(t:Ξ):Bool:=match K.lookup C with
 |some ⟨.type "type", _,.cls s,u⟩=>(match u.toList with
  | [_,_,_,_,some (.builtin n),_]=>s.name == c && s.mro == .ref C::t && n == "ValueError.__new__" && !s.hasDel && s.hasDict && tailIn K VEm t
  |_=>false)
 |_=>false
structure Ref (K:Frag)(c:Str)(C M:Addr):Prop where
 nm:nsIn K jr c=some (some (.ref C))
 nmM:nsIn K jr "MapError" = some (some (.ref M))
 xc:Xp K c C (.ref M::VEm)=true
 xm:Xp K "MapError" M VEm=true
 lk:lk0 K C=true
def IsC(K:Frag)(c:Str)(C:Addr):Prop:=nsIn K jr c=some (some (.ref C))/\((∃M,Ref K c C M)∨(c = "MapError" /\ Xp K "MapError" C VEm=true))
def ExA(e C:Addr)(s:Option Addr):HO:=.ext λh=>∃o vs,h.get? e=some o/\o.cls = .ref C/\o.dict=s/\o.data = .fields vs
abbrev XH:=Addr->Addr->Option Addr->zu->St->Hp->Prop
section
variable {X:Cx}
def PJ{kvs:List (nT×V)}{vs:List (nT×Value)}(r:KV kvs vs):∀{i:Nat}{p:nT×V},kvs[i]?=some p->∃u,vs[i]?=some (p.1,u)/\oC p.2 u:=by
 induction r with
 |nil=>intro i p h;simp at h
 | @cons a b _ _ r t s=>
  intro i p h;cases i with
  |zero=>simp at h;subst h;exact⟨b.2,by simp[r.1],r.2⟩
  |succ i=>obtain⟨u,x,g2⟩:=s (by simpa using h);exact⟨u,by simpa using x,g2⟩
end
end Xe
namespace PySem.SCG
open PySem Builtin Builtin.Str
section
variable {prog:jq}{w:ju}{A:Around}{E:Ψ}{s:Shared}{x:Str}{t:Tok}{Q:Ψ}
def split_push{y:Str}{u:Tok}(G:(y.length == 0)=false)
  (B:∀l k,l.map (·.1)=Txt.split x y->Q (.ref s.heap.objs.size) { s with toks:=k,heap:=s.heap.push { cls:=.type "list", data:=.seq (strValues l).toArray } })
  (hsz:x.length<=jo) (hsz2:(partsBetween x (occurrences x y 0 x.length (x.length+1)) y.length).length<=jo) :
  jn (jk prog w) A (call (.builtin "str.split") [.str x t,.str y u]) Q E s:=by
 have run:=λ{I:_}(m:Meets _ I)=>kA (Q:=Q) (E:=E) (A:=A) (prog:=prog) (w:=w) (s:=s) F.slot_str_split (typeIs_str s x t) F.entry_str_split (F.args_str_split_2 (.str x t) (.str y u)) m
 by_cases c:(decide (x.length<y.length) || decide (Builtin.Str.strKind x<Builtin.Str.strKind y))=true
 .exact run (meets_str_split_cannot_occur x y t u c) (B [(x,t)] _ (oa c).symm)
 by_cases d:(occurrences x y 0 x.length (x.length+1)).isEmpty=true
 .exact run (meets_str_split_not_found x y t u (by simpa using c) G d) (B [(x,t)] _ ((nY c).trans (oa d)).symm)
 refine run (meets_str_split_sep x y t u (by simpa using c) G (by simpa using d) hsz hsz2) ?_
 have e:=strsFrom_eq s.toks (partsBetween x (occurrences x y 0 x.length (x.length+1)) y.length);have z:=λk=>B (numbered s.toks _) k ((numbered_texts s.toks _).trans ((nY c).trans (nY d)).symm)
 rw[←e]at z;exact z _
end
end PySem.SCG
namespace Mr
open PySem PySem.Spec PyProof.Rows L2
section
variable {X:Cx}
def M8:V->List V->Hp->VK->Prop:=λx vs H Q=>∃a b,x = .str a/\vs=[.str b]/\Q (.bl (Txt.startswith a b)) H
def zM:Wx X "str.startswith" M8:=by
 intro E s σ H x G v J Q I z r h;obtain⟨a,b,rfl,rfl,q⟩:=h;obtain⟨t,rfl⟩:=z;obtain⟨u,rfl,B⟩:=sk r;obtain⟨L,rfl⟩:=B;exact SC.startswith ⟨.bl _,H,I,rfl,q⟩
def abc:V->Option Int->Option Int->Hp->VK->Prop:=λx lo hi H Q=>∃a,x = .str a/\a.length<=jo/\Q (.str (Txt.slice a lo hi)) H
def Xz:SlR X abc:=by
 intro P s σ H x v R S lo hi U Q I z B E G h;obtain⟨a,rfl,J,q⟩:=h;obtain⟨t,rfl⟩:=z;refine⟨"str", _,F.slot_str_getitem.lookup,typeIs_str _ _ _,?_⟩;obtain⟨o,L,M,O⟩:=B;have part:∀{v:Value}{o:Option Int},IsPart v o->∃l:Option (Int×Tok),v=partValue l/\o=l.map (·.1):=by
  intro v o p;cases p with
  |none=>exact⟨none,rfl,rfl⟩
  |int i t=>exact⟨some (i,t),rfl,rfl⟩
 obtain⟨l,rfl,rfl⟩:=part E;obtain⟨u,rfl,rfl⟩:=part G;refine wpAny_getItem_str_slice (l:=l) (u:=u) (st:=none) ⟨o,L,M,O⟩ rfl ?_;exact post_val_or_str ⟨bq (Txt.slice_le a _ _) J,λY k=>⟨.str _,H,I.tok _,⟨_,rfl⟩,q⟩⟩
def PM:V->List V->Hp->VK->Prop:=λx vs H Q=>∃a b,x = .str a/\vs=[.str b]/\(b.length == 0)=false/\a.length<=jo/\(Builtin.Str.partsBetween a (Builtin.Str.occurrences a b 0 a.length (a.length+1)) b.length).length<=jo/\(Txt.split a b).length<=jo /\
 ∀p,H p=none->Q (.ref p) (om H p (.lst ((Txt.split a b).map V.str)))
theorem Fq:∀(l:List (Str×Tok)),ot ((l.map (·.1)).map V.str) (strValues l)
 | []=>.nil
 | (x,t)::l=>.cons ⟨t,rfl⟩ (Fq l)
def EI:Wx X "str.split" PM:=by
 intro L s σ H x M v O Q I z r h;obtain⟨a,b,rfl,rfl,hb,B,E,G,q⟩:=h;obtain⟨t,rfl⟩:=z;obtain⟨u,rfl,J⟩:=sk r;obtain⟨P,rfl⟩:=J;refine SCG.split_push hb (λl k e=>?_) B E
 refine⟨.ref s.heap.objs.size,_,I.laid (t':=k) (o:=.lst ((Txt.split a b).map V.str)) (λb R q=>af _ q) (aa _) ?_,rfl,q _ (I.hok.fresh (aa _))⟩
 refine⟨by rw[lMq];exact G,strValues l,0,by rw[←e];exact Fq l,aC _ rfl⟩
def ON:ur X (.type "int") (λxs H Q=>∃x n,xs=[.str x]/\PySem.intText? x=some n/\x.length<=640/\Q (.int n) H):=by
 intro z s σ H xs B Q I r h;obtain⟨x,n,rfl,hn,hl,q⟩:=h;obtain⟨u,rfl,t,rfl⟩:=sk r;exact W.KIN.call_text hn hl ⟨.int n,H,I.tok _,⟨_,rfl⟩,q⟩
theorem JE:∀{bs:List Bool}{us:Ξ},ot (bs.map V.bl) us->us=bs.map eS
 | [],us,r=>by cases r;rfl
 |b::bs,us,r=>by
  cases r with
  |cons s t=>rw[JE t];cases s;rfl
def ER(E:X.calm=true):ur X (.builtin "all") (λxs H Q=>∃(a:Addr) (bs:List Bool),xs=[.ref a]/\qh X.K H a (bs.map V.bl)/\Q (.bl (bs.all id)) H):=by
 intro S s σ H xs U Q I r h;obtain⟨a,bs,rfl,G,q⟩:=h;obtain⟨u,rfl,J⟩:=sk r;cases J;obtain⟨L,M,p,Y⟩:=I.list G;obtain rfl:=JE M;have hl:=p.isList;have x:a<s.heap.objs.size:=by obtain⟨_,e,_⟩:=hl;exact aj e
 refine call_all_walk (kP hl ?_);refine⟨s.heap.objs.size,[s.heap.objs.size,a],[s.heap.objs.size],(bs.map eS).toArray.size,_,_,λi=>(bs[i]?).getD true,rfl,Walks.list (A:=X.A.in1) (I.ok.hd E) _ a (aA x) _,⟨⟨_,aC _ rfl,rfl,rfl⟩,hl.push _⟩,λi v s' Q' E' O B=>?_,λh' P hk=>?_⟩
 .have e:(bs.map eS)[i]?=some v:=by simpa using O
  rw[gMq]at e;cases hb:bs[i]? with
  |none=>rw[hb]at e;cases e
  |some b=>
   rw[hb]at e;cases e;simp only[hb,Option.getD_some]at B;exact jM B
 .have e:((aU (bs.map eS).toArray.size).all λi=>(bs[i]?).getD true)=bs.all id:=by
   rw[aq,lMq,cF,cQ,cQ];constructor
   .intro z b hb;obtain⟨i,hi,rfl⟩:=List.getElem_of_mem hb;have:=z i (cA.mpr hi);simpa[gEg hi]using this
   .intro z i hi;have t:=cA.mp hi;have:=z bs[i] (gRq t);simpa[gEg t]using this
  rw[e];refine⟨.bl _,H,I.kept (t':=P) λb R z=>hk b R (λm=>?_) (af _ z),rfl,q⟩
  rw[mSq.mp m]at z;exact cm _ (aj z)
end
def Its(x:Str):It:=⟨λi _=>i<x.cps.size,λi H v s=>s=H/\∃c,x.cps[i]?=some c/\v = .str ⟨#[c]⟩,λi _=>x.cps.size<=i⟩
def SU{P:jq}{w:ju}{K:Ζ}{tg:Expr}(B:Addr)(x:Str)(t:Tok){ty:String}(G:ty = "str_ascii_iterator" ∨ ty = "str_iterator")
  (W:∀A':Around,A'.handled=none->Walks P w A' B [B] [B] x.cps.size (SignAt x) (λi h=>h.IsStrIter B ty x t i)):Dv P w K tg (Its x) [B] B (λi h=>h.IsStrIter B ty x t i/\i<=x.cps.size) where
 mem:=by simp
 obj:=λi h st b hb=>by
  obtain rfl:b=B:=by simpa using hb
  obtain⟨⟨o,e,c,d⟩,_⟩:=st;exact⟨o,e,λv z=>by rw[d]at z;cases z⟩
 keep:=λi h h' st k=>⟨let ⟨o,e,r⟩:=st.1;⟨o,k B (by simp) o e,r⟩,st.2⟩
 item:=by
  intro X R hw S U i nu s σ H E I M st O;subst R hw S;obtain⟨Y,f1,f2,f3,f4,f5⟩:=M B (by simp)
  refine(W X.A (I.ok.hd U)).item i s _ _ O st.1 λv h' J hv L hk=>?_
  obtain⟨c,u,hc',rfl⟩:=hv;have I1:Inv X nu σ H { s with heap:=h',toks:=J }:=I.turned (t':=J) (λb o hb e=>hk b o (by simpa using hb) e) Y f1 f3 f4 f5
  obtain⟨o,e,c0,d⟩:=id L;exact⟨_,rfl,Gv (s:={ s with heap:=h',toks:=J }) e c0 d (by rcases G with z|z <;> subst z <;> decide) ⟨.str ⟨#[c]⟩,H,I1,⟨_,rfl⟩,⟨rfl,c,hc',rfl⟩,⟨L,O⟩,λb hb=>(M b hb).1⟩⟩
 done:=by
  intro X R hw S U i nu s σ H E I M st O;subst R hw S;obtain⟨Y,f1,f2,f3,f4,f5⟩:=M B (by simp)
  have e:i=x.cps.size:=Nat.le_antisymm st.2 O;subst e;exact(W X.A (I.ok.hd U)).done s _ _ st.1 λh' J hk=>⟨rfl,I.turned (t':=J) (λb o hb e=>hk b o (by simpa using hb) e) Y f1 f3 f4 f5⟩
 self:=λA i s Q E st h=>by
  obtain⟨o,e,c,d⟩:=id st.1;rcases G with z|z
  .subst z;exact wpAny_pyIter_striter_ascii st.1 h
  .subst z;exact wpAny_pyIter_striter_wide st.1 h
def aaC(s:TE):TI:=λσ H R=>s σ H λx t=>∃a,x = .str a/\R (Its a) t
section
variable {X:Cx}{tg:Expr}
def Zr{l:Expr}{L:TE}(hl:PE X l L):PI X tg l (aaC L):=by
 intro M s σ H R I h;refine thn (hl M s σ H _ I h) λv u B=>?_
 obtain⟨x,O,E,P,a,e,q⟩:=B;subst e;obtain⟨t,rfl⟩:=P;have fin:∀{ty:String},(ty = "str_ascii_iterator" ∨ ty = "str_iterator")->(∀z:Around,z.handled=none->Walks X.prog X.w z u.heap.objs.size [u.heap.objs.size] [u.heap.objs.size] a.cps.size (SignAt a) (λi h=>h.IsStrIter u.heap.objs.size ty a t i)) ->
   PIE X M σ tg R (.ref u.heap.objs.size) { u with heap:=u.heap.push { cls:=.type ty,data:=.fields #[.str a t,.int 0 0] } }:=λG W=>by
  refine⟨u.heap.objs.size,[u.heap.objs.size],_,_,O,rfl,E.kept (t':=u.toks) λb o e=>af _ e,SU _ a t G W,⟨⟨_,aC _ rfl,rfl,rfl⟩,aJ _⟩,λb hb=>?_,q⟩
  obtain rfl:b=u.heap.objs.size:=by simpa using hb
  exact E.fpOk (aa _) (E.hok.fresh (aa _))
 cases ha:a.cps.all (· < 128)
 .exact wpAny_pyIter_wide ha (fin (.inr rfl) λz J=>Walks.strWide J _ a t)
 .exact wpAny_pyIter_ascii ha (fin (.inl rfl) λz J=>Walks.strAscii J _ a t)
end
end Mr
namespace MrS
open PySem PySem.W PyProof.Rows
section
variable {prog:jq}{w:ju}{A:Around}{E:Ψ}{s:Shared}{Pk:jh->Prop}{lt:jh->jh->Bool}{T:String}{r d:Addr}{n:Nat}{P:Nat->Value->Prop}{OK:Heap->Prop}
def J2{Q:Ξ->Shared->Prop}(K:KdlSrc prog w T r d n P OK)(hh:A.handled=none)(hok:OK s.heap)(hn:n<=jo)
  (h:∀h' x (t:Ω),(∀b o,s.heap.get? b=some o->h'.get? b=some o)->s.heap.objs.size<h'.objs.size->ItemsOf P t n->Q t.toList { s with heap:=h',toks:=x }) :
  jn (jk prog w) A (collect (.ref r)) Q E s:=by
 unfold collect;refine ji (wpAny_runValue (jH entry_proto_collect' ?_));show jn _ _ (do again (.builtin "list.__iadd__" ⟨[←newList [],.ref r],[]⟩)) _ _ s
 refine ji (kN (jm ⟨Code.quiet_builtin _ (by trivial),jH entry_list_iadd' ?_⟩))
 show jn _ _ (Builtin.List.listExtendWith (.ref s.heap.objs.size) (.ref r) (.ref s.heap.objs.size)) _ _ { s with heap:=s.heap.push (jy "list" #[] 0) }
 have u:=K.there _ hok;have z:(s.heap.push (jy "list" #[] 0)).get? s.heap.objs.size=some (jy "list" #[] 0):=aC _ rfl;refine kdl_extend (A:=A) (R:=λr G=>match r with
   | .ok (.ret v)=>jn (jk prog w) A (match v with
    | .ref a=>do
     let o ←load a
     match o.data with
     | .seq B _=>pure B.toList
     |_=>kB "internal:collect"
    |_=>kB "internal:collect") Q E G
   | .ok _=>False
   | .error e=>E e G) (s:={ s with heap:=s.heap.push (jy "list" #[] 0) }) K hh (K.keep _ _ hok λb _ o e=>af _ e) s.heap.objs.size (dh u.1) (dh u.2) (.ref s.heap.objs.size) 0 z (λh' x t c hk H hi=>?_) hn
 show jn (jk prog w) A (do
   let o ←load s.heap.objs.size
   match o.data with
   | .seq B _=>pure B.toList
   |_=>kB "internal:collect") Q E { s with heap:=h',toks:=x }
 refine ji (wpAny_load H ?_);exact jm (h h' x t (λb o e=>hk b o (aA (aj e)) (af _ e)) (aj H) hi)
def Ki{Q:Ψ}(K:KdlSrc prog w T r d n P OK)(hh:A.handled=none)(hok:OK s.heap)(hn:n<=jo)
  (Y:∀(vs:Ξ),vs.length=n->(∀j v,vs[j]?=some v->P j v)->∀O:Shared,(2<=vs.length->∀Q:jK->Shared->Prop,Q ki O->jn (jk prog w) A.in1.in1 (keyKind' vs.toArray) Q E O)/\zl prog w A.in1.in1 O ki Pk lt/\∀v∈vs,Pk (v,v))
  (h:∀(vs out:Ξ) (h':Heap) (p:Addr) (I n':Nat),vs.length=n->(∀j v,vs[j]?=some v->P j v)->out.Perm vs->out.Pairwise (λx y=>lt (y,y) (x,x)=false)->(∀b o,s.heap.get? b=some o->h'.get? b=some o)->s.heap.objs.size<=p ->
   h'.get? p=some (jy "list" out.toArray n')->Q (.ref p) { s with heap:=h',toks:=I }) :
  jn (jk prog w) A (call (.builtin "sorted") [.ref r]) Q E s:=by
 refine Calls.call_function_entry kind_sorted plain_sorted entry_sorted (args_sorted1 _) ?_;unfold Builtin.«sorted»;refine ji (m:=checkCount "sorted" 1 1 _) (jm ?_);refine ji (J2 K hh hok hn λz I u J B hi=>?_)
 have hl:u.toList.length=n:=by rw[ah];exact hi.1
 have R:∀j v,u.toList[j]?=some v->P j v:=λj v e=>hi.2 j v (by rw[←ao];exact e)
 have S:u.toList.length<=jo:=by rw[hl];exact hn
 generalize u.toList=vs at hl R S;refine ji (kN ?_ S);have t:(z.push (jy "list" vs.toArray 0)).get? z.objs.size=some (jy "list" vs.toArray 0):=aC _ rfl;show jn _ _ _ _ _ { s with heap:=z.push (jy "list" vs.toArray 0),toks:=I }
 have L:s.heap.objs.size<=z.objs.size:=bZ B;have X:∀b o,s.heap.get? b=some o->(z.push (jy "list" vs.toArray 0)).get? b=some o:=λb o e=>af _ (J b o e)
 have H:∀b o,s.heap.get? b=some o->b≠z.objs.size:=λb o e=>aA (aj (J b o e))
 generalize z.push (jy "list" vs.toArray 0)=G at t X ⊢
 clear B
 generalize z.objs.size=p at t L H ⊢;have k2:∀b o,s.heap.get? b=some o->(tY G p vs).get? b=some o:=λb o e=>by
  refine af _ (af _ ?_);rw[cZ _ _ _ _ (H b o e)];exact X b o e
 obtain⟨q1,q2,q3⟩:=Y vs hl R { s with heap:=tY G p vs,toks:=I }
 refine ji (jE (wpAny_call_entry slot_list_sort ⟨_,t,rfl⟩ entry_list_sort (zB (s:={ s with heap:=G,toks:=I }) (Pk:=Pk) (lt:=lt) t S q1 q2 (λx hx=>?_) λM a1 a2=>⟨_,rfl,?_⟩) (args_list_sort _)))
 .obtain⟨m1,m2⟩:=vH hx;have:x=(x.1,x.1):=iG rfl m2;rw[this];exact q3 _ m1
 .obtain⟨v1,v2⟩:=Cr a1 a2;obtain⟨e1,U⟩:=M6 vs t;obtain⟨n1,g1⟩:=MP (M.map (·.2)) U;refine jm ⟨_,rfl,h vs _ (kS G p vs (M.map (·.2))) p I n1 hl R v1 v2 (λb o e=>?_) L ?_⟩
  .unfold kS;rw[cZ _ _ _ _ (H b o e)];exact k2 b o e
  .rw[show(M.map (·.2)).toList.toArray=M.map (·.2)from gM]
   exact g1
end
end MrS
namespace Mr
open PySem PySem.W PySem.Spec PyProof.Rows L2
section
variable {X:Cx}
theorem G0:∀{us:Ξ}{ns:Ϝ},us.length=ns.length->(∀(j:Nat) (v:Value) (n:Int),us[j]?=some v->ns[j]?=some n->∃t,v=fq n t)->jz us ns
 | [],[],_,_=>.nil
 | [],_::_,h,_=>by simp at h
 |_::_,[],h,_=>by simp at h
 |u::us,n::ns,h,g=>by
  obtain⟨t,rfl⟩:=g 0 u n rfl rfl;exact .cons n t (G0 (by simpa using h) λj v m s x=>g (j+1) v m (by simpa using s) (by simpa using x))
def Wh:∀{kvs:List (nT×V)}{ws:List (nT×Value)},KV kvs ws->kvs.map (·.1)=ws.map (·.1):=λ{kvs ws} r=>by
 induction r with
 |nil=>rfl
 |cons a b s=>rw[ai,ai,s,a.1]
def GW(hc:X.calm=true):ur X (.builtin "sorted") (λxs H Q=>∃(a:Addr) (kvs:List (nT×V)) (ns:Ϝ),xs=[.ref a]/\H a=some (.dK kvs)/\kvs.map (·.1)=ns.map aH/\∀p,H p=none->Q (.ref p) (om H p (.lst ((pZ ns).map V.int)))):=by
 intro nu s σ H xs B Q I r h;obtain⟨a,kvs,ns,rfl,ha,hk,q⟩:=h;obtain⟨u,rfl,ru⟩:=sk r;cases ru;obtain⟨U,sa,G,kv,d⟩:=(show pR X.prog X.w H s.heap a (.dK kvs)from I.hok a _ ha)
 obtain⟨ep,da⟩:=d.dictAt;have hl:=Paired.length kv;have E:ns.length=G.length:=by
  have:=congrArg bV hk;rw[lMq,lMq]at this;rw[←this,hl]
 have O:G.map (·.1)=ns.map aH:=by rw[←Wh kv,hk]
 have P:∀B:Ξ,B.length=G.length->(∀(j:Nat) (v:Value),B[j]?=some v->∃k x,G[j]?=some (k,x)/\(oW X.prog X.w).is k v=true)->jz B ns:=λB J L=>G0 (by rw[J,E]) λj v m e1 e2=>by
  obtain⟨k,x,g1,g2⟩:=L j v e1;have Y:(G.map (·.1))[j]?=some k:=by rw[gMq,g1];rfl
  rw[O,gMq,e2]at Y;have e4:(aH m:nT)=k:=by simpa using Y
  subst e4;rcases pE (k:=aH m) (v:=v) g2 with⟨i,t,R,e6⟩|⟨z,t,R,_⟩
  .cases R;exact⟨t,e6⟩
  .cases R
 refine MrS.Ki (kdl_dict (knd:=oW X.prog X.w) (d:=a) (kvs:=G) (ep:=ep) sa) (I.ok.hd hc) da (by rw[←hl];exact U) (Pk:=λx:jh=>∃a t,x.1=fq a t) (lt:=ltI) (λB J L s'=>⟨λM Q q=>?_,ZI _ _ _ _,λv m=>(GT (P B J L)).2 v m⟩) λB out h' p tk n' J L o1 o2 o3 op o4=>?_
 .have hi:=P B J L
  match B,hi,M with
  | [],_,M=>simp at M
  | [_],_,M=>simp at M
  |v₁::v₂::rest,hi,_=>
   rw[keyKind_ints hi];exact jm q
 .obtain⟨en,hv⟩:=GT (P B J L);have S:∀v∈out,∃a t,v = .int a t:=λv m=>hv v (o1.mem_iff.mp m)
  have e:out.map intOf=pZ ns:=by
   refine Mz (by rw[en];exact o1.map _) ?_
   rw[bo];refine o2.imp_of_mem λ{x y} mx my h=>?_
   obtain⟨a,t,rfl⟩:=S x mx;obtain⟨b,u,rfl⟩:=S y my;have h':¬ b<a:=of_decide_eq_false h;show a<=b;lia
  have hp:H p=none:=I.hok.fresh op;refine⟨.ref p,_,I.laid (t':=tk) o3 op (show pR X.prog X.w _ h' _ (.lst ((pZ ns).map V.int))from ⟨?_,out,n',?_,o4⟩),rfl,q _ hp⟩
  .rw[lMq,(pK ns).length_eq,E,←hl];exact U
  .rw[←e];exact vals_ints S
end
end Mr
namespace Z
open PySem L2 Mr
abbrev St:=L2.St
inductive D where
 |non|bl (b:Bool)|int (i:Int)|str (x:Str)|ty (n:String)|list (xs:List D)|tup (xs:List D)|dict (kvs:List (nT×D))|scr (ns:Ϝ)|exc (c:Str) (fs:List (Str×Int))|cls (c:Str)|fd (kvs:List (nT×D))|ins (c:Str) (fs:List (Str×D))
inductive pM (K:Ζ)(H:Hp):D->V->Prop
 |non:pM K H .non .non
 |bl {b:Bool}:pM K H (.bl b) (.bl b)
 |int {i:Int}:pM K H (.int i) (.int i)
 |str {x:Str}:pM K H (.str x) (.str x)
 |ty {n:String}:pM K H (.ty n) (.ty n)
 |list {p:Addr}{vs:List V}{ds:List D}(h:H p=some (.lst vs)) (l:ds.length=vs.length) (e:∀(i:Nat) (d:D) (v:V),ds[i]?=some d->vs[i]?=some v->pM K H d v):pM K H (.list ds) (.ref p)
 |tup {p:Addr}{vs:List V}{ds:List D}(h:H p=some (.tup vs)) (l:ds.length=vs.length) (e:∀(i:Nat) (d:D) (v:V),ds[i]?=some d->vs[i]?=some v->pM K H d v):pM K H (.tup ds) (.ref p)
 |dict {p:Addr}{kvs:List (nT×V)}{ds:List (nT×D)}(h:H p=some (.dK kvs)) (l:ds.map (·.1)=kvs.map (·.1)) (e:∀(i:Nat) (d:nT×D) (v:nT×V),ds[i]?=some d->kvs[i]?=some v->pM K H d.2 v.2):pM K H (.dict ds) (.ref p)
 |scr {p:Addr}{ns:Ϝ}(h:qh K H p (ns.map V.int)):pM K H (.scr ns) (.ref p)
 |exc {c:Str}{fs:List (Str×Int)}{e C M dx:Addr}(rf:Xe.Ref K c C M) (nf:∀p∈fs,W.findIn K (.ref C) p.1=some none) (h:H e=some (Xe.ExA e C (some dx))) (hx:H dx=some (.xd (fs.map λp=>(p.1,V.int p.2)))):pM K H (.exc c fs) (.ref e)
 |exc0 {c:Str}{e C M:Addr}(rf:Xe.Ref K c C M) (h:H e=some (Xe.ExA e C none)):pM K H (.exc c []) (.ref e)
 |cls {c:Str}{C:Addr}(h:Xe.IsC K c C):pM K H (.cls c) (.ref C)
 |fd {p:Addr}{o:Obj}{kvs:List (nT×V)}{ds:List (nT×D)}(h:H p=some (.frz o (.dK kvs))) (l:ds.map (·.1)=kvs.map (·.1)) (e:∀(i:Nat) (d:nT×D) (v:nT×V),ds[i]?=some d->kvs[i]?=some v->pM K H d.2 v.2):pM K H (.fd ds) (.ref p)
 |ins {c:Str}{a C dx:Addr}{gs:List (Str×V)}{fs:List (Str×D)}(rf:W.nsIn K jr c=some (some (.ref C))) (h:H a=some (.ins C dx gs)) (l:fs.map (·.1)=gs.map (·.1)) (e:∀(i:Nat) (d:Str×D) (v:Str×V),fs[i]?=some d->gs[i]?=some v->pM K H d.2 v.2):pM K H (.ins c fs) (.ref a)
def oA(K:Ζ)(H:Hp)(ds:List D)(vs:List V):Prop:=ds.length=vs.length/\∀(i:Nat) (d:D) (v:V),ds[i]?=some d->vs[i]?=some v->pM K H d v
def tw(K:Ζ)(H:Hp)(ds:List (nT×D))(kvs:List (nT×V)):Prop:=ds.map (·.1)=kvs.map (·.1)/\∀(i:Nat) (d:nT×D) (v:nT×V),ds[i]?=some d->kvs[i]?=some v->pM K H d.2 v.2
section
variable {K:Ζ}{H H':Hp}
def pM.mono{d:D}{v:V}(h:pM K H d v)(s:ox H H'):pM K H' d v:=by
 induction h with
 |non=>exact .non
 |bl=>exact .bl
 |int=>exact .int
 |str=>exact .str
 |ty=>exact .ty
 |list h l _ t=>exact .list (s _ _ h) l t
 |tup h l _ t=>exact .tup (s _ _ h) l t
 |dict h l _ t=>exact .dict (s _ _ h) l t
 |scr h=>exact .scr (s.seq h)
 |exc u x h z=>exact .exc u x (s _ _ h) (s _ _ z)
 |exc0 u h=>exact .exc0 u (s _ _ h)
 |cls h=>exact .cls h
 |fd h l _ t=>exact .fd (s _ _ h) l t
 |ins u h l _ t=>exact .ins u (s _ _ h) l t
theorem oA.mono{ds:List D}{vs:List V}(h:oA K H ds vs)(s:ox H H'):oA K H' ds vs:=⟨h.1,λi d v a b=>(h.2 i d v a b).mono s⟩
theorem tw.mono{ds:List (nT×D)}{vs:List (nT×V)}(h:tw K H ds vs)(s:ox H H'):tw K H' ds vs:=⟨h.1,λi d v a b=>(h.2 i d v a b).mono s⟩
def oA.nil:oA K H [] []:=⟨rfl,λi d v a=>by simp at a⟩
def oA.cons{d:D}{v:V}{ds:List D}{vs:List V}(h:pM K H d v)(t:oA K H ds vs):oA K H (d::ds) (v::vs):=⟨by simp[t.1],λi e w a b=>by
 cases i with
 |zero=>
  simp at a b;subst a b;exact h
 |succ i=>exact t.2 i e w (by simpa using a) (by simpa using b)⟩
def oA.cons_iff{d:D}{v:V}{ds:List D}{vs:List V}:oA K H (d::ds) (v::vs)↔pM K H d v/\oA K H ds vs:=
 ⟨λh=>⟨h.2 0 d v rfl rfl,by have:=h.1;simpa using this,λi e w a b=>h.2 (i+1) e w (by simpa using a) (by simpa using b)⟩,λh=>.cons h.1 h.2⟩
def oA.nil_inv{vs:List V}(h:oA K H [] vs):vs=[]:=by
 have:=h.1;cases vs with
 |nil=>rfl
 |cons _ _=>simp at this
def oA.cons_inv{d:D}{ds:List D}{vs:List V}(h:oA K H (d::ds) vs):∃v ws,vs=v::ws/\pM K H d v/\oA K H ds ws:=by
 cases vs with
 |nil=>have:=h.1;simp at this
 |cons v ws=>exact⟨v,ws,rfl,oA.cons_iff.mp h⟩
theorem oA.append:∀{ds es:List D}{vs ws:List V},oA K H ds vs->oA K H es ws->oA K H (ds++es) (vs++ws)
 | [],es,vs,ws,h,g=>by rw[h.nil_inv];exact g
 |d::ds,es,vs,ws,h,g=>by
  obtain⟨v,u,rfl,s,t⟩:=h.cons_inv;exact .cons s (oA.append t g)
theorem oA.take{ds:List D}{vs:List V}(h:oA K H ds vs)(n:Nat):oA K H (ds.take n) (vs.take n):=⟨by rw[lTq,lTq,h.1],λi d v a b=>by
 rw[hW]at a b;split at a
 .rename_i hi;rw[oa hi]at b;exact h.2 i d v a b
 .cases a⟩
theorem oA.drop{ds:List D}{vs:List V}(h:oA K H ds vs)(n:Nat):oA K H (ds.drop n) (vs.drop n):=⟨by rw[ar,ar,h.1],λi d v a b=>by
 rw[cz]at a b;exact h.2 _ d v a b⟩
noncomputable def oA.get{ds:List D}{vs:List V}(h:oA K H ds vs){i:Nat}{d:D}(e:ds[i]?=some d):∃v,vs[i]?=some v/\pM K H d v:=by
 have hi:i<ds.length:=(gSq.mp e).1;have s:i<vs.length:=h.1 ▸ hi;exact⟨vs[i],gEg s,h.2 i d _ e (gEg s)⟩
def oA.get'{ds:List D}{vs:List V}(h:oA K H ds vs){i:Nat}{v:V}(e:vs[i]?=some v):∃d,ds[i]?=some d/\pM K H d v:=by
 have hi:i<vs.length:=(gSq.mp e).1;have s:i<ds.length:=h.1.symm ▸ hi;exact⟨ds[i],gEg s,h.2 i _ v (gEg s) e⟩
theorem oA.set{ds:List D}{vs:List V}{d:D}{v:V}(h:oA K H ds vs)(r:pM K H d v)(j:Nat):oA K H (ds.set j d) (vs.set j v):=⟨by simp[h.1],λi e w a b=>by
 rw[bB]at a b
 by_cases s:j=i
 .subst s;rw[oa rfl]at a b;split at a
  .rename_i t;rw[oa (h.1 ▸ t)]at b;cases a;cases b;exact r
  .cases a
 .rw[nY s]at a b;exact h.2 i e w a b⟩
def pM.list_inv{ds:List D}{v:V}(h:pM K H (.list ds) v):∃p vs,v = .ref p/\H p=some (.lst vs)/\oA K H ds vs:=by
 cases h with
 |list h l e=>exact⟨_,_,rfl,h,l,e⟩
noncomputable def pM.tup_inv{ds:List D}{v:V}(h:pM K H (.tup ds) v):∃p vs,v = .ref p/\H p=some (.tup vs)/\oA K H ds vs:=by
 cases h with
 |tup h l e=>exact⟨_,_,rfl,h,l,e⟩
noncomputable def pM.dict_inv{ds:List (nT×D)}{v:V}(h:pM K H (.dict ds) v):∃p kvs,v = .ref p/\H p=some (.dK kvs)/\tw K H ds kvs:=by
 cases h with
 |dict h l e=>exact⟨_,_,rfl,h,l,e⟩
def pM.mk_list{ds:List D}{p:Addr}{vs:List V}(h:H p=some (.lst vs))(r:oA K H ds vs):pM K H (.list ds) (.ref p):=.list h r.1 r.2
noncomputable def pM.mk_tup{ds:List D}{p:Addr}{vs:List V}(h:H p=some (.tup vs))(r:oA K H ds vs):pM K H (.tup ds) (.ref p):=.tup h r.1 r.2
noncomputable def pM.mk_dict{ds:List (nT×D)}{p:Addr}{vs:List (nT×V)}(h:H p=some (.dK vs))(r:tw K H ds vs):pM K H (.dict ds) (.ref p):=.dict h r.1 r.2
end
noncomputable def D.scal:D->Bool
 | .non=>true
 | .bl _=>true
 | .int _=>true
 | .str _=>true
 | .ty _=>true
 |_=>false
theorem pM.scal{K:Ζ}{H t:Hp}{d:D}{v:V}(h:pM K H d v)(s:d.scal=true):pM K t d v:=by
 cases h with
 |non=>exact .non
 |bl=>exact .bl
 |int=>exact .int
 |str=>exact .str
 |ty=>exact .ty
 |_=>cases s
inductive AV where
 |sh (d:D)|ow (avs:List AV)|owd (kvs:List (nT×D))|owl (kvs:List (nT×Ϝ))
noncomputable abbrev i0(x:Int):Option AV:=some (.sh (.int x))
abbrev i3(x:List D):Option AV:=some (.sh (.list x))
noncomputable abbrev i4(x:Bool):Option AV:=some (.sh (.bl x))
mutual
def nK:AV->D
 | .sh d=>d
 | .ow s=>.list (EF s)
 | .owd kvs=>.dict kvs
 | .owl kvs=>.dict (kvs.map λx=>(x.1,.list (x.2.map .int)))
def EF:List AV->List D
 | []=>[]
 |a::as=>nK a::EF as
end
theorem FN:∀s:List AV,EF s=s.map nK
 | []=>by simp[EF]
 |a::as=>by simp[EF,FN as]
@[simp] theorem pT (d:D):nK (.sh d)=d:=by simp[nK]
@[simp] theorem qm (s:List AV):nK (.ow s) = .list (s.map nK):=by simp[nK,FN]
@[simp] theorem BD (kvs:List (nT×D)):nK (.owd kvs) = .dict kvs:=by simp[nK]
def FG(kvs:List (nT×Ϝ)):nK (.owl kvs) = .dict (kvs.map λx=>(x.1,.list (x.2.map .int))):=by simp[nK]
inductive ou (K:Ζ)(Hf H:Hp):AV->V->Δ->Prop
 |sh {d:D}{v:V}(r:pM K Hf d v):ou K Hf H (.sh d) v []
 |ow {p:Addr}{vs:List V}{avs:List AV}{Fs:List Δ}(h:H p=some (.lst vs)) (n:Hf p=none) (l:avs.length=vs.length) (lf:avs.length=Fs.length)
   (e:∀(i:Nat) (a:AV) (v:V) (F:Δ),avs[i]?=some a->vs[i]?=some v->Fs[i]?=some F->ou K Hf H a v F):ou K Hf H (.ow avs) (.ref p) (p::Fs.flatten)
 |owd {p:Addr}{kvs:List (nT×V)}{ds:List (nT×D)}(h:H p=some (.dK kvs)) (n:Hf p=none) (r:tw K Hf ds kvs):ou K Hf H (.owd ds) (.ref p) [p]
 |owl {p:Addr}{kvs:List (nT×Ϝ)}{qs:Δ}(h:H p=some (.dK (bA (λx q=>(x.1,V.ref q)) kvs qs))) (n:Hf p=none) (l:kvs.length=qs.length) (e:∀(i:Nat) (q:Addr) (x:nT×Ϝ),qs[i]?=some q->kvs[i]?=some x->H q=some (.lst (x.2.map V.int))/\Hf q=none):ou K Hf H (.owl kvs) (.ref p) (p::qs)
def Nt{K:Ζ}{H:Hp}{p:Addr}{kvs:List (nT×Ϝ)}{qs:Δ}(h:H p=some (.dK (bA (λx q=>(x.1,V.ref q)) kvs qs)))(l:kvs.length=qs.length)(e:∀(i:Nat) (q:Addr) (x:nT×Ϝ),qs[i]?=some q->kvs[i]?=some x->H q=some (.lst (x.2.map V.int))):pM K H (.dict (kvs.map λx=>(x.1,.list (x.2.map .int)))) (.ref p):=by
 refine .dict h ?_ λi d v t s=>?_
 .refine eO λi=>?_
  rw[gMq,gMq,gMq,cS]
  by_cases c:i<kvs.length
  .rw[gEg c,gEg (l ▸ c)];rfl
  .rw[bG (iy c)];rfl
 .rw[gMq]at t;rw[cS]at s;cases hk:kvs[i]? with
  |none=>rw[hk]at t;cases t
  |some x=>
   cases z:qs[i]? with
   |none=>rw[hk,z]at s;cases s
   |some q=>
    rw[hk]at t s;rw[z]at s;cases t;cases s;refine .list (e i q x z hk) (by rw[lMq,lMq]) λj d v u B=>?_
    rw[gMq]at u B;cases E:x.2[j]? with
    |none=>rw[E]at u;cases u
    |some m=>
     rw[E]at u B;cases u;cases B;exact .int
noncomputable def YE{kvs:List (nT×Ϝ)}{qs:Δ}(l:kvs.length=qs.length){q:Addr}(s:q∈qs):∃(i:Nat) (x:nT×Ϝ),qs[i]?=some q/\kvs[i]?=some x:=by
 obtain⟨i,hi⟩:=bb.mp s;have hl:=(gSq.mp hi).1;exact⟨i,_,hi,gEg (l ▸ hl)⟩
section
variable {K:Ζ}{Hf Hf' H H':Hp}{av:AV}{v:V}{F:Δ}
def ou.owned(h:ou K Hf H av v F):∀q∈F,H q≠none/\Hf q=none:=by
 induction h with
 |sh _=>intro q s;cases s
 | @ow p u t B h n l lf e E=>
  intro q s;rcases ag.mp s with rfl|s
  .exact⟨by rw[h];simp,n⟩
  .obtain⟨F,G,s⟩:=mFq.mp s;obtain⟨i,hi,rfl⟩:=cC.mp G;exact E i t[i] u[i] B[i] (by simp) (by simp) (by simp) q s
 |owd h n r=>
  intro q s;have:=mSq.mp s;subst this;exact⟨by rw[h];simp,n⟩
 |owl h n l e=>
  intro q s;rcases ag.mp s with z|z
  .rw[z];exact⟨by rw[h];simp,n⟩
  .obtain⟨i,x,I,J⟩:=YE l z;obtain⟨L,M⟩:=e i q x I J;exact⟨by rw[L];simp,M⟩
def ou.keep(h:ou K Hf H av v F)(s:ox Hf Hf')(hk:∀q∈F,H' q=H q)(hn:∀q∈F,Hf' q=none):ou K Hf' H' av v F:=by
 induction h with
 |sh r=>exact .sh (r.mono s)
 | @ow p L E M h n l lf e G=>
  refine .ow (by rw[hk p (by simp)];exact h) (hn p (by simp)) l lf λi a v F t u z=>G i a v F t u z (λq B=>hk q ?_) λq B=>hn q ?_
  all_goals exact mCo _ (mFq.mpr ⟨F,mGq z,B⟩)
 |owd h n r=>exact .owd (by rw[hk _ (by simp)];exact h) (hn _ (by simp)) (r.mono s)
 | @owl p I J h n l e=>
  refine .owl (by rw[hk _ (ax ..)];exact h) (hn _ (ax ..)) l λi q x t u=>?_
  have m:q∈p::J:=mCo _ (mGq t);exact⟨by rw[hk q m];exact(e i q x t u).1,hn q m⟩
def ou.rep(h:ou K Hf H av v F)(s:ox Hf H):pM K H (nK av) v:=by
 induction h with
 |sh r=>rw[pT];exact r.mono s
 | @ow p I z E h n l lf e G=>
  rw[qm];refine .list h (by simp[l]) λi d v t B=>?_
  rw[gMq]at t;cases u:z[i]? with
  |none=>rw[u]at t;cases t
  |some a=>
   rw[u]at t;cases t;have hi:i<E.length:=lf ▸ (gSq.mp u).1;exact G i a v E[i] u B (gEg hi)
 |owd h n r=>rw[BD];exact .mk_dict h (r.mono s)
 |owl h n l e=>rw[FG];exact Nt h l λi q x t B=>(e i q x t B).1
def frz(Hf H:Hp)(F:Δ):Hp:=λb=>if b∈F then H b else Hf b
def vU{b:Addr}(h:b∈F):frz Hf H F b=H b:=oa h
def qf{b:Addr}(h:b∉F):frz Hf H F b=Hf b:=nY h
def pU(h:∀q∈F,Hf q=none):ox Hf (frz Hf H F):=λb o e=>by
 rw[qf λm=>by rw[h b m]at e;cases e]
 exact e
def Ww(s:ox Hf H):ox (frz Hf H F) H:=λb o e=>by
 by_cases m:b∈F
 .rw[vU m]at e;exact e
 .rw[qf m]at e;exact s b o e
def ou.frozen(h:ou K Hf H av v F)(s:ox Hf Hf')(hk:∀q∈F,Hf' q=H q):pM K Hf' (nK av) v:=by
 induction h with
 |sh r=>rw[pT];exact r.mono s
 | @ow p J z B h n l lf e G=>
  rw[qm];refine .list (by rw[hk p (by simp)];exact h) (by simp[l]) λi d v t E=>?_
  rw[gMq]at t;cases u:z[i]? with
  |none=>rw[u]at t;cases t
  |some a=>
   rw[u]at t;cases t;have hi:i<B.length:=lf ▸ (gSq.mp u).1;exact G i a v B[i] u E (gEg hi) λq I=>hk q (mCo _ (mFq.mpr ⟨B[i],gRq hi,I⟩))
 |owd h n r=>rw[BD];exact .mk_dict (by rw[hk _ (by simp)];exact h) (r.mono s)
 |owl h n l e=>rw[FG];exact Nt (by rw[hk _ (ax ..)];exact h) l λi q x t E=>by rw[hk q (mCo _ (mGq t))];exact(e i q x t E).1
end
abbrev AS:=List (Option AV)
structure oI (K:Ζ)(H₀ Hf₀ Hf:Hp)(S:AS)(σ:St)(H:Hp)(Fs:List Δ):Prop where
 len:S.length=σ.length
 lenF:Fs.length=S.length
 rep:∀(i:Nat) (av:AV),S[i]?=some (some av)->∃v F,σ[i]?=some (some v)/\Fs[i]?=some F/\ou K Hf H av v F
 emp:∀i:Nat,S[i]?=some none->Fs[i]?=some []
 nd:Fs.flatten.Nodup
 fresh:∀p∈Fs.flatten,H₀ p=none
 sub:ox Hf H
 fr:ox H₀ H
 lim:∀b,Hf₀ b=none->H₀ b≠none->Hf b=none
 sf:ox Hf₀ Hf
structure yd (Hf H:Hp)(Fs:List Δ)(Hf' H':Hp)(Fs':List Δ):Prop where
 sf:ox Hf Hf'
 sh:ox H H'
 own:∀p∈Fs'.flatten,p∈Fs.flatten
 gr:∀b,Hf b=none->Hf' b≠none->H b=none∨b∈Fs.flatten
theorem yd.refl{Hf H:Hp}{s:List Δ}:yd Hf H s Hf H s:=⟨.refl _,.refl _,λ_ h=>h,λb h g=>absurd h g⟩
def Mi{H t:Hp}(s:ox H t){b:Addr}(h:H b≠none):t b≠none:=by
 cases e:H b with
 |none=>exact absurd e h
 |some o=>rw[s b o e];simp
theorem yd.trans{Hf H Hf1 t s u:Hp}{x Fs1 Fs2:List Δ}(a:yd Hf H x Hf1 t Fs1)(b:yd Hf1 t Fs1 s u Fs2):yd Hf H x s u Fs2:=
 ⟨a.sf.trans b.sf,a.sh.trans b.sh,λp h=>a.own p (b.own p h),λc h g=>by
  by_cases e:Hf1 c=none
  .rcases b.gr c e g with q|q
   .exact .inl (a.sh.free q)
   .exact .inr (a.own c q)
  .exact a.gr c h e⟩
section
variable {K:Ζ}{H₀ Hf₀ Hf Hf' H H':Hp}{S:AS}{σ:St}{Fs Fs':List Δ}
def NA{b:Addr}(s:ox H H')(h:H b≠none):H' b=H b:=by
 cases e:H b with
 |none=>exact absurd e h
 |some o=>exact s b o e
def oI.mem(R:oI K H₀ Hf₀ Hf S σ H Fs){q:Addr}(h:q∈Fs.flatten):H q≠none/\Hf q=none:=by
 obtain⟨F,x,t⟩:=mFq.mp h;obtain⟨i,hi,rfl⟩:=cC.mp x;have s:i<S.length:=R.lenF ▸ hi;cases e:S[i]with
 |none=>
  have:=R.emp i (by rw[gEg s,e])
  rw[gEg hi]at this;rw[aL.inj this]at t;cases t
 |some z=>
  obtain⟨v,F,_,u,r⟩:=R.rep i z (by rw[gEg s,e])
  rw[gEg hi]at u;rw[aL.inj u]at t;exact r.owned q t
def oI.more(R:oI K H₀ Hf₀ Hf S σ H Fs)(s:ox H H')(sf:ox Hf Hf')(sub:ox Hf' H')(hn:∀q∈Fs.flatten,Hf' q=none)(lim:∀b,Hf₀ b=none->H₀ b≠none->Hf' b=none):oI K H₀ Hf₀ Hf' S σ H' Fs where
 len:=R.len
 lenF:=R.lenF
 rep:=λi x e=>by
  obtain⟨v,F,z,u,r⟩:=R.rep i x e;refine⟨v,F,z,u,r.keep sf (λq t=>NA s (r.owned q t).1) λq t=>hn q (mFq.mpr ⟨F,mGq u,t⟩)⟩
 emp:=R.emp
 nd:=R.nd
 fresh:=R.fresh
 sub:=sub
 fr:=R.fr.trans s
 lim:=lim
 sf:=R.sf.trans sf
def oI.laid(R:oI K H₀ Hf₀ Hf S σ H Fs)(s:ox H H'):oI K H₀ Hf₀ Hf S σ H' Fs:=R.more s (.refl _) (R.sub.trans s) (λq h=>(R.mem h).2) R.lim
noncomputable def uK{F:Δ}{i:Nat}{p:Addr}(h:p∈(Fs.set i F).flatten):p∈F∨p∈Fs.flatten:=by
 obtain⟨G,t,s⟩:=mFq.mp h;rcases fR t with q|q
 .exact .inr (mFq.mpr ⟨G,q,s⟩)
 .subst q;exact .inl s
theorem qk:∀{Fs:List Δ}{F:Δ}(i:Nat),Fs.flatten.Nodup->F.Nodup->(∀p∈F,p∉Fs.flatten)->(Fs.set i F).flatten.Nodup
 | [],F,i,h,_,_=>by simp
 |G::Gs,F,0,h,hF,hd=>by
  rw[dq,fCq,nAq];rw[fCq,nAq]at h;refine⟨hF,h.2.1,λa ha b hb e=>hd a ha ?_⟩
  rw[fCq];exact au _ (e ▸ hb)
 |G::Gs,F,i+1,h,hF,hd=>by
  rw[ee,fCq,nAq];rw[fCq,nAq]at h;refine⟨h.1,qk i h.2.1 hF λp s m=>hd p s (by rw[fCq];exact au _ m),λa ha b hb e=>?_⟩
  rcases uK hb with q|q
  .exact hd b q (by rw[fCq];exact aY _ (e ▸ ha))
  .exact h.2.2 a ha b q e
theorem oI.set(R:oI K H₀ Hf₀ Hf S σ H Fs){u:AV}{v:V}{F:Δ}(i:Nat)(r:ou K Hf H u v F)(nd:F.Nodup)(x:∀q∈F,H₀ q=none/\q∉Fs.flatten) :
  oI K H₀ Hf₀ Hf (S.set i (some u)) (σ.set i (some v)) H (Fs.set i F) where
 len:=by simp[R.len]
 lenF:=by simp[R.lenF]
 rep:=λj a e=>by
  rw[bB]at e
  by_cases s:i=j
  .subst s;rw[oa rfl]at e;split at e
   .rename_i hi;cases e;exact⟨v,F,by rw[bg (R.len ▸ hi)],by rw[bg (R.lenF.symm ▸ hi)],r⟩
   .cases e
  .rw[nY s]at e;obtain⟨w,G,z,B,q⟩:=R.rep j a e;exact⟨w,G,by rw[aK s];exact z,by rw[aK s];exact B,q⟩
 emp:=λj e=>by
  rw[bB]at e
  by_cases s:i=j
  .subst s;rw[oa rfl]at e;split at e <;> cases e
  .rw[nY s]at e;rw[aK s];exact R.emp j e
 nd:=qk i R.nd nd λp t=>(x p t).2
 fresh:=λp t=>by
  rcases uK t with q|q
  .exact(x p q).1
  .exact R.fresh p q
 sub:=R.sub
 fr:=R.fr
 lim:=R.lim
 sf:=R.sf
def pV{i:Nat}{p:Addr}(h:p∈(Fs.set i []).flatten):p∈Fs.flatten:=by
 rcases uK h with q|q
 .cases q
 .exact q
theorem sH:∀{Fs:List Δ}{F:Δ}{i:Nat}{p:Addr},Fs.flatten.Nodup->Fs[i]?=some F->p∈F->p∉(Fs.set i []).flatten
 | [],F,i,p,_,e,_,_=>by simp at e
 |G::Gs,F,0,p,h,e,s,m=>by
  simp at e;subst e;rw[dq,fCq,dX]at m;rw[fCq,nAq]at h;exact h.2.2 p s p m rfl
 |G::Gs,F,i+1,p,h,e,s,m=>by
  rw[ee,fCq]at m;rw[fCq,nAq]at h;have t:Gs[i]?=some F:=by simpa using e
  rcases mAq.mp m with q|q
  .exact h.2.2 p q p (mFq.mpr ⟨F,mGq t,s⟩) rfl
  .exact sH h.2.1 t s q
def oI.move(R:oI K H₀ Hf₀ Hf S σ H Fs){i:Nat}{z:AV}(e:S[i]?=some (some z)):∃v F,σ[i]?=some (some v)/\Fs[i]?=some F/\ou K Hf H z v F/\F.Nodup/\(∀q∈F,H₀ q=none/\q∉(Fs.set i []).flatten) /\
  oI K H₀ Hf₀ Hf (S.set i none) σ H (Fs.set i []):=by
 obtain⟨v,F,I,u,r⟩:=R.rep i z e;have B:∀q∈F,q∈Fs.flatten:=λq x=>mFq.mpr ⟨F,mGq u,x⟩
 refine⟨v,F,I,u,r,aV.sublist (bE (mGq u)) R.nd,λq x=>⟨R.fresh q (B q x),sH R.nd u x⟩,?_⟩
 refine⟨by simp[R.len],by simp[R.lenF],λj a t=>?_,λj t=>?_,qk i R.nd bp (λp E=>by cases E),λp E=>R.fresh p (pV E),R.sub,R.fr,R.lim,R.sf⟩
 .rw[bB]at t
  by_cases s:i=j
  .subst s;rw[oa rfl]at t;split at t <;> cases t
  .rw[nY s]at t;obtain⟨w,G,J,L,q⟩:=R.rep j a t;exact⟨w,G,J,by rw[aK s];exact L,q⟩
 .rw[bB]at t
  by_cases s:i=j
  .subst s;rw[oa rfl]at t;split at t
   .rename_i hi;rw[bg (R.lenF.symm ▸ hi)]
   .cases t
  .rw[nY s]at t;rw[aK s];exact R.emp j t
theorem oI.frz(R:oI K H₀ Hf₀ Hf S σ H Fs){F:Δ}(s:∀q∈F,H₀ q=none/\q∉Fs.flatten)(hn:∀q∈F,Hf q=none):oI K H₀ Hf₀ (frz Hf H F) S σ H Fs:=by
 refine R.more (.refl _) (pU hn) (Ww R.sub) (λq t=>?_) λb x u=>?_
 .rw[qf λm=>(s q m).2 t]
  exact(R.mem t).2
 .rw[qf λm=>u (s b m).1]
  exact R.lim b x u
end
abbrev ME:=AS->Option (D×AS)
abbrev MK:=AS->Option (AV×AS)
abbrev ML:=AS->Option (List D×AS)
abbrev MT:=AS->Option (Bool×AS)
abbrev MA:=AS->Option (List AV×AS)
def oz(K:Ζ)(Hf H:Hp)(s:List AV)(vs:List V)(Gs:List Δ):Prop:=
 s.length=vs.length/\s.length=Gs.length/\∀(i:Nat) (a:AV) (v:V) (F:Δ),s[i]?=some a->vs[i]?=some v->Gs[i]?=some F->ou K Hf H a v F
structure wZ (H₀ H:Hp)(Fs Fs':List Δ)(F:Δ):Prop where
 nd:F.Nodup
 fr:∀q∈F,H₀ q=none
 out:∀q∈F,q∉Fs'.flatten
 new:∀q∈F,H q=none∨q∈Fs.flatten
noncomputable def wZ.nil{H₀ H:Hp}{t s:List Δ}:wZ H₀ H t s []:=⟨bp,λq h=>(by cases h),λq h=>(by cases h),λq h=>(by cases h)⟩
section
variable (K:Ζ)
def SR(te:TE)(m:ME):Prop:=∀{H₀ s Hf:Hp}{S:AS}{σ:St}{H:Hp}{z:List Δ}{d:D}{S':AS},oI K H₀ s Hf S σ H z->m S=some (d,S')->∀Q:VK,
 (∀t x u v,yd Hf H z t x u->oI K H₀ s t S' σ x u->pM K x d v->Q v x)->te σ H Q
def SK(te:TE)(m:MK):Prop:=∀{H₀ s Hf:Hp}{S:AS}{σ:St}{H:Hp}{z:List Δ}{a:AV}{S':AS},oI K H₀ s Hf S σ H z->m S=some (a,S')->∀Q:VK,
 (∀t x u v F,yd Hf H z t x u->oI K H₀ s t S' σ x u->ou K t x a v F->wZ H₀ H z u F->Q v x)->te σ H Q
def SL(te:TE)(m:ML):Prop:=∀{H₀ s Hf:Hp}{S:AS}{σ:St}{H:Hp}{z:List Δ}{ds:List D}{S':AS},oI K H₀ s Hf S σ H z->m S=some (ds,S')->∀Q:VK,
 (∀t x u p vs,yd Hf H z t x u->oI K H₀ s t S' σ x u->x p=some (.lst vs)->oA K t ds vs->Q (.ref p) x)->te σ H Q
def EU(B:TT)(m:MT):Prop:=∀{H₀ s Hf:Hp}{S:AS}{σ:St}{H:Hp}{z:List Δ}{b:Bool}{S':AS},oI K H₀ s Hf S σ H z->m S=some (b,S')->∀Q:Bool->Hp->Prop,
 (∀t x u,yd Hf H z t x u->oI K H₀ s t S' σ x u->Q b x)->B σ H Q
def SA(B:TA)(m:MA):Prop:=∀{H₀ s Hf:Hp}{S:AS}{σ:St}{H:Hp}{z:List Δ}{as:List AV}{S':AS},oI K H₀ s Hf S σ H z->m S=some (as,S')->∀Q:List V->Hp->Prop,
 (∀t x u vs Gs,yd Hf H z t x u->oI K H₀ s t S' σ x u->oz K t x as vs Gs->wZ H₀ H z u Gs.flatten->Q vs x)->B σ H Q
def Rm(B:TA)(m:ML):Prop:=∀{H₀ s Hf:Hp}{S:AS}{σ:St}{H:Hp}{z:List Δ}{ds:List D}{S':AS},oI K H₀ s Hf S σ H z->m S=some (ds,S')->∀Q:List V->Hp->Prop,
 (∀t x u vs,yd Hf H z t x u->oI K H₀ s t S' σ x u->oA K x ds vs->Q vs x)->B σ H Q
end
section
variable {K:Ζ}{H₀ Hf₀ Hf Hf' H H':Hp}{S S':AS}{σ:St}{Fs Fs':List Δ}
def ou.stp{u:AV}{v:V}{F:Δ}(r:ou K Hf H u v F)(x:∀q∈F,q∉Fs.flatten)(t:yd Hf H Fs Hf' H' Fs'):ou K Hf' H' u v F:=
 r.keep t.sf (λq s=>NA t.sh (r.owned q s).1) λq s=>by
  by_cases e:Hf' q=none
  .exact e
  .rcases t.gr q (r.owned q s).2 e with z|z
   .exact absurd z (r.owned q s).1
   .exact absurd z (x q s)
def oI.new(R:oI K H₀ Hf₀ Hf S σ H Fs){p:Addr}{o:HO}(s:H p=none):yd Hf H Fs Hf (om H p o) Fs/\oI K H₀ Hf₀ Hf S σ (om H p o) Fs/\Hf p=none/\H₀ p=none/\p∉Fs.flatten:=
 ⟨⟨.refl _,sM s,λ_ h=>h,λb h g=>absurd h g⟩,R.laid (sM s),R.sub.free s,R.fr.free s,λm=>(R.mem m).1 s⟩
def uN(n:Nat):(az n ([]:Δ)).flatten=[]:=by
 induction n with
 |zero=>rfl
 |succ n s=>rw[gR,fCq,s];rfl
def ou.new{p:Addr}{vs:List V}{ds:List D}(h:H p=some (.lst vs))(n:Hf p=none)(r:oA K Hf ds vs):ou K Hf H (.ow (ds.map .sh)) (.ref p) [p]:=by
 have e:[p]=p::(az ds.length ([]:Δ)).flatten:=by rw[uN]
 rw[e];refine .ow h n (by simp[r.1]) (by simp) λi a v F s t u=>?_
 rw[gMq]at s;cases q:ds[i]? with
 |none=>rw[q]at s;cases s
 |some d=>
  rw[q]at s;cases s;have:F=[]:=cB (mGq u);subst this;exact .sh (r.2 i d v q t)
def ou.news{p:Addr}{vs:List V}{s:List AV}{Gs:List Δ}(h:H p=some (.lst vs))(n:Hf p=none)(r:oz K Hf H s vs Gs):ou K Hf H (.ow s) (.ref p) (p::Gs.flatten):=.ow h n r.1 r.2.1 r.2.2
def ou.ow_inv{s:List AV}{v:V}{F:Δ}(h:ou K Hf H (.ow s) v F):∃p vs Gs,v = .ref p/\F=p::Gs.flatten/\H p=some (.lst vs)/\Hf p=none/\oz K Hf H s vs Gs:=by
 cases h with
 |ow h n l lf e=>exact⟨_,_,_,rfl,rfl,h,n,l,lf,e⟩
def ou.owd_inv{ds:List (nT×D)}{v:V}{F:Δ}(h:ou K Hf H (.owd ds) v F):∃p kvs,v = .ref p/\F=[p]/\H p=some (.dK kvs)/\Hf p=none/\tw K Hf ds kvs:=by
 cases h with
 |owd h n r=>exact⟨_,_,rfl,rfl,h,n,r⟩
def ou.sh_inv{d:D}{v:V}{F:Δ}(h:ou K Hf H (.sh d) v F):F=[]/\pM K Hf d v:=by
 cases h with
 |sh r=>exact⟨rfl,r⟩
def oI.give{s:Hp}{Fs1:List Δ}(R:oI K H₀ Hf₀ Hf' S σ s Fs1)(t:yd Hf H Fs Hf' s Fs1){x:AV}{v:V}{F:Δ}(r:ou K Hf' s x v F)(o:wZ H₀ H Fs Fs1 F) :
  oI K H₀ Hf₀ (Z.frz Hf' s F) S σ s Fs1/\pM K (Z.frz Hf' s F) (nK x) v/\yd Hf H Fs (Z.frz Hf' s F) s Fs1:=by
 have n:∀q∈F,Hf' q=none:=λq u=>(r.owned q u).2
 refine⟨R.frz (λq u=>⟨o.fr q u,o.out q u⟩) n,r.frozen (pU n) λq u=>vU u,t.sf.trans (pU n),t.sh,t.own,λb h g=>?_⟩
 by_cases m:b∈F
 .exact o.new b m
 .rw[qf m]at g;exact t.gr b h g
def oz.nil:oz K Hf H [] [] []:=⟨rfl,rfl,λi a v F h=>by simp at h⟩
def oz.cons{a:AV}{v:V}{F:Δ}{as:List AV}{vs:List V}{Gs:List Δ}(h:ou K Hf H a v F)(t:oz K Hf H as vs Gs):oz K Hf H (a::as) (v::vs) (F::Gs):=
 ⟨by simp[t.1],by simp[t.2.1],λi b w G s u x=>by
  cases i with
  |zero=>
   simp at s u x;subst s u x;exact h
  |succ i=>exact t.2.2 i b w G (by simpa using s) (by simpa using u) (by simpa using x)⟩
def oz.nil_inv{vs:List V}{Gs:List Δ}(h:oz K Hf H [] vs Gs):vs=[]/\Gs=[]:=by
 obtain⟨a,b,_⟩:=h;exact⟨aZ.mp a.symm,aZ.mp b.symm⟩
def oz.cons_inv{a:AV}{as:List AV}{vs:List V}{Gs:List Δ}(h:oz K Hf H (a::as) vs Gs):∃v ws F s,vs=v::ws/\Gs=F::s/\ou K Hf H a v F/\oz K Hf H as ws s:=by
 obtain⟨t,u,x⟩:=h;cases vs with
 |nil=>simp at t
 |cons v ws=>
  cases Gs with
  |nil=>simp at u
  |cons F s=>exact⟨v,ws,F,s,rfl,rfl,x 0 a v F rfl rfl rfl,by simpa using t,by simpa using u,λi b w G z B E=>x (i+1) b w G (by simpa using z) (by simpa using B) (by simpa using E)⟩
theorem oz.frozen(h:oz K Hf H as vs Gs)(s:ox Hf Hf')(hk:∀q∈Gs.flatten,Hf' q=H q):oA K Hf' (as.map nK) vs:=
 ⟨by simp[h.1],λi d v t x=>by
  rw[gMq]at t;cases u:as[i]? with
  |none=>rw[u]at t;cases t
  |some a=>
   rw[u]at t;cases t;have hi:i<Gs.length:=h.2.1 ▸ (gSq.mp u).1;exact(h.2.2 i a v Gs[i] u x (gEg hi)).frozen s λq z=>hk q (mFq.mpr ⟨Gs[i],gRq hi,z⟩)⟩
theorem oz.owned(h:oz K Hf H as vs Gs):∀q∈Gs.flatten,H q≠none/\Hf q=none:=λq s=>by
 obtain⟨F,u,s⟩:=mFq.mp s;obtain⟨i,hi,rfl⟩:=cC.mp u;have t:i<as.length:=h.2.1.symm ▸ hi;have x:i<vs.length:=h.1 ▸ t;exact(h.2.2 i as[i] vs[i] Gs[i] (gEg t) (gEg x) (gEg hi)).owned q s
def oI.gives{s:Hp}{Fs1:List Δ}(R:oI K H₀ Hf₀ Hf' S σ s Fs1)(t:yd Hf H Fs Hf' s Fs1){as:List AV}{vs:List V}{Gs:List Δ}(r:oz K Hf' s as vs Gs)(o:wZ H₀ H Fs Fs1 Gs.flatten) :
  oI K H₀ Hf₀ (Z.frz Hf' s Gs.flatten) S σ s Fs1/\oA K (Z.frz Hf' s Gs.flatten) (as.map nK) vs/\yd Hf H Fs (Z.frz Hf' s Gs.flatten) s Fs1:=by
 have n:∀q∈Gs.flatten,Hf' q=none:=λq u=>(r.owned q u).2
 refine⟨R.frz (λq u=>⟨o.fr q u,o.out q u⟩) n,r.frozen (pU n) λq u=>vU u,t.sf.trans (pU n),t.sh,t.own,λb h g=>?_⟩
 by_cases m:b∈Gs.flatten
 .exact o.new b m
 .rw[qf m]at g;exact t.gr b h g
def wZ.stp{Hf1 u s x:Hp}{Fs1 Fs2:List Δ}{F:Δ}(o:wZ H₀ H Fs Fs1 F)(t:yd Hf1 u Fs1 s x Fs2):wZ H₀ H Fs Fs2 F:=⟨o.nd,o.fr,λq h m=>o.out q h (t.own q m),o.new⟩
def wZ.back{Hf1 s:Hp}{Fs1 Fs2:List Δ}{F:Δ}(t:yd Hf H Fs Hf1 s Fs1)(o:wZ H₀ s Fs1 Fs2 F):wZ H₀ H Fs Fs2 F:=⟨o.nd,o.fr,o.out,λq h=>(o.new q h).elim (λe=>.inl (t.sh.free e)) λm=>.inr (t.own q m)⟩
def wZ.app{F G:Δ}(a:wZ H₀ H Fs Fs' F)(b:wZ H₀ H Fs Fs' G)(d:∀q∈F,q∉G):wZ H₀ H Fs Fs' (F++G):=
 ⟨nAq.mpr ⟨a.nd,b.nd,λx s y t e=>d x s (e ▸ t)⟩,λq h=>(mAq.mp h).elim (a.fr q) (b.fr q),λq h=>(mAq.mp h).elim (a.out q) (b.out q),λq h=>(mAq.mp h).elim (a.new q) (b.new q)⟩
def wZ.apart{Hf1 s:Hp}{Fs1 Fs2:List Δ}{F G:Δ}(a:wZ H₀ H Fs Fs1 F)(ha:∀q∈F,s q≠none)(b:wZ H₀ s Fs1 Fs2 G):∀q∈F,q∉G:=λq h m=>by
 rcases b.new q m with e|e
 .exact ha q h e
 .exact a.out q h e
def wZ.one(R:oI K H₀ Hf₀ Hf S σ H Fs){p:Addr}(s:H p=none):wZ H₀ H Fs Fs [p]:=
 ⟨by simp,λq h=>by rw[mSq.mp h];exact R.fr.free s,λq h m=>by rw[mSq.mp h]at m;exact(R.mem m).1 s,λq h=>by rw[mSq.mp h];exact .inl s⟩
end
def nB(i:Nat):ME:=λS=>(S[i]?.join).map λa=>(nK a,S)
def nP(i:Nat):MK:=λS=>(S[i]?.join).map λa=>(.sh (nK a),S.set i (some (.sh (nK a))))
def CL(i:Nat):MK:=λS=>(S[i]?.join).map λa=>(a,S.set i none)
def HX(i:Nat):ML:=λS=>match S[i]?.join with
 |some (.sh (.list ds))=>some (ds,S)
 |some (.ow s)=>some (s.map nK,S.set i (some (.ow ((s.map nK).map .sh))))
 |_=>none
def rOf(k:MK):ME:=λS=>(k S).map λx=>(nK x.1,x.2)
def kSc(m:ME):MK:=λS=>(m S).bind λx=>if x.1.scal then some (.sh x.1,x.2)else none
def lOf(k:MK):ML:=λS=>(k S).bind λx=>match x.1 with
 | .sh (.list ds)=>some (ds,x.2)
 | .ow s=>some (s.map nK,x.2)
 |_=>none
def rE(k:MK):MK:=λS=>(k S).map λx=>(.sh (nK x.1),x.2)
def rC(d:D):ME:=λS=>if d.scal then some (d,S)else none
section
variable {K:Ζ}
def oG{S:AS}{i:Nat}{a:AV}(h:S[i]?.join=some a):S[i]?=some (some a):=by
 cases e:S[i]? with
 |none=>rw[e]at h;cases h
 |some z=>rw[e]at h;exact congrArg some h
def pO(i:Nat):SR K (wq i) (nB i):=by
 intro H₀ s Hf S σ H x d z R e Q q;obtain⟨a,t,e⟩:=oMq.mp e;cases e;obtain⟨v,F,u,B,r⟩:=R.rep i a (oG t);exact⟨v,u,q _ _ _ v .refl R (r.rep R.sub)⟩
def Xb(i:Nat):SK K (wq i) (CL i):=by
 intro H₀ t Hf S σ H G a I R e Q q;obtain⟨b,u,e⟩:=oMq.mp e;cases e;obtain⟨v,F,x,z,r,nd,o,B⟩:=R.move (oG u);exact⟨v,x,q _ _ _ v F ⟨.refl _,.refl _,λp E=>pV E,λb h g=>absurd h g⟩ B r ⟨nd,λq s=>(o q s).1,λq s=>(o q s).2,λq s=>.inr (mFq.mpr ⟨F,mGq z,s⟩)⟩⟩
def oI.again{H₀ s Hf H:Hp}{S:AS}{σ:St}{t:List Δ}{i:Nat}{u:AV}{v:V}{F G:Δ}(R:oI K H₀ s Hf (S.set i none) σ H (t.set i []))(s1:σ[i]?=some (some v))(r:ou K Hf H u v G)(nd:G.Nodup)(x:∀q∈G,H₀ q=none/\q∉(t.set i []).flatten) :
  oI K H₀ s Hf (S.set i (some u)) σ H (t.set i G):=by
 have R2:=R.set i r nd x;rw[dF,dF]at R2;have e:σ.set i (some v)=σ:=by
  obtain⟨hk,z⟩:=gSq.mp s1;rw[←z];exact ff hk
 rw[e]at R2;exact R2
def qJ(i:Nat):SK K (wq i) (nP i):=by
 intro H₀ s Hf S σ H L a M R e Q q;obtain⟨b,z,e⟩:=oMq.mp e;cases e;obtain⟨v,F,u,B,r,nd,o,E⟩:=R.move (oG z);have n:∀q∈F,Hf q=none:=λq t=>(r.owned q t).2
 have R2:=E.frz o n;have x:=r.frozen (pU (H:=H) n) λq t=>vU t
 have I:=R2.again (F:=F) (G:=[]) u (.sh x) bp λq h=>(by cases h)
 refine⟨v,u,q _ _ _ v [] ⟨pU n,.refl _,λp J=>pV J,λb h g=>?_⟩ I (.sh x) .nil⟩
 by_cases m:b∈F
 .exact .inr (mFq.mpr ⟨F,mGq B,m⟩)
 .rw[qf m]at g;exact absurd h g
def Lu(i:Nat):SL K (wq i) (HX i):=by
 intro H₀ B Hf S σ H Fs ds S' R e Q q;unfold HX at e;split at e
 .rename_i U E;cases e;obtain⟨v,F,u,I,r⟩:=R.rep i _ (oG E);obtain⟨p,J,rfl,x,L⟩:=r.sh_inv.2.list_inv;exact⟨_,u,q _ _ _ p J .refl R (R.sub _ _ x) L⟩
 .rename_i M E;cases e;obtain⟨v,F,u,I,r,nd,o,X⟩:=R.move (oG E);obtain⟨p,J,t,rfl,rfl,x,L,O⟩:=r.ow_inv;have n:∀q∈t.flatten,Hf q=none:=λq s=>(O.owned q s).2
  have R2:=X.frz (F:=t.flatten) (λq s=>o q (mCo _ s)) n
  have P:=O.frozen (pU (H:=H) n) λq s=>vU s
  have Y:p∉t.flatten:=(aw.mp nd).1;have r3:ou K (Z.frz Hf H t.flatten) H (.ow ((M.map nK).map .sh)) (.ref p) [p]:=ou.new x (by rw[qf Y];exact L) P
  have R3:=R2.again (F:=p::t.flatten) (G:=[p]) u r3 (by simp) λq s=>by rw[mSq.mp s];exact o p (by simp)
  refine⟨_,u,q _ _ _ p J ⟨pU n,.refl _,λb hb=>?_,λb h g=>?_⟩ R3 x P⟩
  .rcases uK hb with z|z
   .rw[mSq.mp z];exact mFq.mpr ⟨_,mGq I,by simp⟩
   .exact z
  .by_cases m:b∈t.flatten
   .exact .inr (mFq.mpr ⟨_,mGq I,mCo _ m⟩)
   .rw[qf m]at g;exact absurd h g
 .cases e
theorem SK.rOf{te:TE}{k:MK}(h:SK K te k):SR K te (rOf k):=by
 intro H₀ s Hf S σ H G d I R e Q q;obtain⟨x,z,e⟩:=oMq.mp e;cases e;exact h R (a:=x.1) (S':=x.2) z Q λB J E v F t u r o=>q _ _ _ v t u (r.rep u.sub)
theorem SR.kSc{te:TE}{m:ME}(h:SR K te m):SK K te (kSc m):=by
 intro H₀ s Hf S σ H I a J R e Q q;obtain⟨x,u,e⟩:=oBq.mp e;split at e
 .rename_i z;cases e;exact h R (d:=x.1) (S':=x.2) u Q λB L E v t G r=>q _ _ _ v [] t G (.sh (r.scal z)) .nil
 .cases e
def SK.frz{te:TE}{k:MK}(h:SK K te k):SK K te (rE k):=by
 intro H₀ s Hf S σ H J a L R e Q q;obtain⟨x,u,e⟩:=oMq.mp e;cases e;refine h R (a:=x.1) (S':=x.2) u Q λz M B v F t E r o=>?_
 obtain⟨R2,G,I⟩:=E.give t r o;exact q _ _ _ v [] I R2 (.sh G) .nil
theorem SK.lOf{te:TE}{k:MK}(h:SK K te k):SL K te (lOf k):=by
 intro H₀ s Hf S σ H X Y S' R e Q q;obtain⟨x,J,e⟩:=oBq.mp e;refine h R (a:=x.1) (S':=x.2) J Q λL H' M v F t u r o=>?_
 split at e
 .rename_i O z;cases e;rw[z]at r;obtain⟨p,B,rfl,E,G⟩:=r.sh_inv.2.list_inv;exact q _ _ _ p B t u (u.sub _ _ E) G
 .rename_i P z;cases e;obtain⟨R2,I,U⟩:=u.give t r o;rw[z,qm]at I;obtain⟨p,B,rfl,E,G⟩:=I.list_inv;exact q _ _ _ p B U R2 (R2.sub _ _ E) G
 .cases e
def QT{v:V}{d:D}(h:∀H,pM K H d v):SR K (tC v) (rC d):=by
 intro H₀ s Hf S σ H t u x R e Q q;unfold rC at e;split at e
 .cases e;exact q _ _ _ v .refl R (h _)
 .cases e
def sT{i:Int}:SR K (tC (.int i)) (rC (.int i)):=QT λ_=>.int
def vZ{i:Str}:SR K (tC (.str i)) (rC (.str i)):=QT λ_=>.str
def RJ{i:Bool}:SR K (tC (.bl i)) (rC (.bl i)):=QT λ_=>.bl
def Rf:SR K (tC .non) (rC .non):=QT λ_=>.non
def WD{T:String}:SR K (tC (.ty T)) (rC (.ty T)):=QT λ_=>.ty
end
def uJ{α:Type}(p:Prop)(x:Option α):Option α:=@ite (Option α) p (eI p) x none
def qj{α:Type}{p:Prop}(h:p)(x:Option α):uJ p x=x:=oa h
def vk{α:Type}(x:Option α):uJ True x=x:=oa trivial
def nU{α:Type}{p:Prop}{x y:Option α}(h:uJ p x=y):(p/\x=y)∨none=y:=by
 by_cases c:p
 .rw[qj c]at h;exact .inl ⟨c,h⟩
 .exact .inr ((@if_neg p (eI p) c _ x none).symm.trans h)
noncomputable def oq(f:D->D->Option D)(a b:ME):ME:=λS=>(a S).bind λx=>(b x.2).bind λy=>(f x.1 y.1).map λd=>(d,y.2)
noncomputable def J8(f:D->Option D)(a:ME):ME:=λS=>(a S).bind λx=>(f x.1).map λd=>(d,x.2)
def E8(K:Ζ)(r:R2)(f:D->D->Option D):Prop:=∀{x y:V}{H:Hp}{Q:VK}{s t d:D},pM K H s x->pM K H t y->f s t=some d->(∀v,pM K H d v->Q v H)->r x y H Q
def UnD(K:Ζ)(r:V->Hp->VK->Prop)(f:D->Option D):Prop:=∀{x:V}{H:Hp}{Q:VK}{s d:D},pM K H s x->f s=some d->(∀v,pM K H d v->Q v H)->r x H Q
section
variable {K:Ζ}{r:R2}{f:D->D->Option D}{ta tb:TE}{a b:ME}
def uj(hr:E8 K r f)(ha:SR K ta a)(hb:SR K tb b):SR K (WO r ta tb) (oq f a b):=by
 intro H₀ s Hf S σ H U d X R e Q q;obtain⟨x,u,e⟩:=oBq.mp e;obtain⟨y,B,e⟩:=oBq.mp e;obtain⟨z,E,e⟩:=oMq.mp e;cases e;refine ha R (d:=x.1) (S':=x.2) u _ λG Y Fs1 v1 I J L=>hb J (d:=y.1) (S':=y.2) B _ λM H2 Fs2 v2 t R2 O=>?_
 exact hr (L.mono t.sh) O E λv P=>q _ _ _ v (I.trans t) R2 P
def WK{r:V->Hp->VK->Prop}{f:D->Option D}(hr:UnD K r f)(ha:SR K ta a):SR K (tUn r ta) (J8 f a):=by
 intro H₀ s Hf S σ H L d M R e Q q;obtain⟨x,t,e⟩:=oBq.mp e;obtain⟨z,u,e⟩:=oMq.mp e;cases e;exact ha R (d:=x.1) (S':=x.2) t _ λB O Fs1 P E G I=>hr I u λv J=>q _ _ _ v E G J
end
def Mm(c:Int->Int->Prop)(g:Int->Int->D):D->D->Option D
 | .int i,.int j=>uJ (c i j) (some (g i j))
 |_,_=>none
def dI1(g:Int->D):D->Option D
 | .int i=>some (g i)
 |_=>none
abbrev yX:=Mm (λ_ _=>True) λi j=>.int (i+j)
abbrev HB:=Mm (λ_ _=>True) λi j=>.int (i-j)
abbrev wa:=Mm Tp λi j=>.int (i*j)
abbrev sD:=Mm (λ_ j=>0<j) λi j=>.int (i % j)
abbrev HF:=Mm Yv λi j=>.int (i / j)
abbrev K5:=Mm W7 λi j=>.int (i ^ j.toNat)
abbrev dLt:=Mm (λ_ _=>True) λi j=>.bl (decide (i<j))
abbrev dLe:=Mm (λ_ _=>True) λi j=>.bl (decide (i<=j))
abbrev J6:=Mm (λ_ _=>True) λi j=>.bl (decide (j<i))
abbrev dGe:=Mm (λ_ _=>True) λi j=>.bl (decide (j<=i))
abbrev Am:=dI1 λi=>.int (-i)
noncomputable def Pw(b:Bool):Option D:=some (.bl b)
def Ax(x y:D):Option D:=match x with
 | .int i=>(match y with|.int j=>Pw (decide (i=j))|.non=>Pw false|.str _=>Pw false|_=>none)
 | .str i=>(match y with|.str j=>Pw (decide (i=j))|.non=>Pw false|.int _=>Pw false|_=>none)
 | .bl i=>(match y with|.bl j=>Pw (decide (i=j))|.non=>Pw false|_=>none)
 | .non=>(match y with|.non=>Pw true|.int _=>Pw false|.str _=>Pw false|.bl _=>Pw false|_=>none)
 |_=>none
def Za:D->Option D
 | .bl b=>some (.bl (!b))
 |_=>none
def W4(x y:D):Option D:=(Ax x y).bind Za
section
variable {K:Ζ}
def Nr{C:Int->Int->Prop}{g:Int->Int->V}{g':Int->Int->D}(s:∀H i j,pM K H (g' i j) (g i j)):E8 K (rI C g) (Mm C g'):=by
 intro x y H Q z B d t u e q;unfold Mm at e;split at e
 .rename_i i j;cases t;cases u;rcases nU e with⟨h,e⟩|e
  .cases e;exact⟨i,j,rfl,rfl,h,q _ (s H i j)⟩
  .cases e
 .cases e
def DO{g:Int->Int->V}{g':Int->Int->D}(s:∀H i j,pM K H (g' i j) (g i j)):E8 K (OC g) (Mm (λ_ _=>True) g'):=by
 intro x y H Q z B d t u e q;unfold Mm at e;split at e
 .rename_i i j;cases t;cases u;rw[vk]at e;cases e;exact⟨i,j,rfl,rfl,q _ (s H i j)⟩
 .cases e
def Kx:E8 K (OC λi j=>.int (i+j)) yX:=DO λ_ _ _=>.int
def Xs:E8 K (OC λi j=>.int (i-j)) HB:=DO λ_ _ _=>.int
def Sz:E8 K (rI Tp λi j=>.int (i*j)) wa:=Nr λ_ _ _=>.int
def G7:E8 K (rI (λ_ j=>0<j) λi j=>.int (i % j)) sD:=Nr λ_ _ _=>.int
def Ka:E8 K (rI Yv λi j=>.int (i / j)) HF:=Nr λ_ _ _=>.int
def W8:E8 K (rI W7 λi j=>.int (i ^ j.toNat)) K5:=Nr λ_ _ _=>.int
def ZL:E8 K (OC λi j=>.bl (decide (i<j))) dLt:=DO λ_ _ _=>.bl
def W6:E8 K (OC λi j=>.bl (decide (j<i))) J6:=DO λ_ _ _=>.bl
def Z0:E8 K (OC λi j=>.bl (decide (j<=i))) dGe:=DO λ_ _ _=>.bl
def Rq:UnD K (rU λi=>.int (-i)) Am:=by
 intro x H Q t d s e q;cases s <;> simp only[dI1]at e
 all_goals first|(exfalso;simp at e;done)|skip
 rename_i i;cases e;exact⟨i,rfl,q _ .int⟩
def IQ:E8 K rEq Ax:=by
 intro x y H Q u z d s t e q;unfold Ax at e;cases s <;> first|(cases e;done)|(cases t <;> first|(cases e;done)|skip)
 all_goals (cases e;refine⟨rfl,q _ ?_⟩;simp only[reduceCtorEq,decide_false,decide_true,V.int.injEq,V.str.injEq,V.bl.injEq];exact .bl)
def W2:E8 K rNe W4:=by
 intro x y H Q G I d s t e q;obtain⟨b,u,z⟩:=oBq.mp e;obtain⟨B,E⟩:=IQ s t u (Q:=λv _=>pM K H b v) λv h=>h
 cases E;cases z;exact⟨B,q _ .bl⟩
end
def Zf(a b:ME):ME:=λS=>(a S).bind λx=>match x.1 with
 | .bl true=>b x.2
 | .bl false=>some (.bl false,x.2)
 |_=>none
def rOr(a b:ME):ME:=λS=>(a S).bind λx=>match x.1 with
 | .bl true=>some (.bl true,x.2)
 | .bl false=>b x.2
 |_=>none
def adj(a:ME):ME:=J8 Za a
def qC(a:ME):MT:=λS=>(a S).bind λx=>match x.1 with
 | .bl b=>some (b,x.2)
 |_=>none
noncomputable def Fx(a b:MT):MT:=λS=>(a S).bind λx=>if x.1=true then b x.2 else some (false,x.2)
noncomputable def Jq(a b:MT):MT:=λS=>(a S).bind λx=>if x.1=true then some (true,x.2)else b x.2
noncomputable def Gm(a:MT):MT:=λS=>(a S).map λx=>(!x.1,x.2)
def rIf(c:MT)(a b:ME):ME:=λS=>(c S).bind λx=>if x.1=true then a x.2 else b x.2
def kIf(c:MT)(a b:MK):MK:=λS=>(c S).bind λx=>if x.1=true then a x.2 else b x.2
section
variable {K:Ζ}{ta tb:TE}{a b:ME}{ca cb:TT}{ma mb:MT}
def Xj(ha:SR K ta a)(hb:SR K tb b):SR K (WT ta tb) (Zf a b):=by
 intro H₀ t Hf S σ H O d P R e Q q;obtain⟨x,E,e⟩:=oBq.mp e;refine ha R (d:=x.1) (S':=x.2) E _ λG U Fs1 X z B s=>?_
 split at e
 .rename_i u;rw[u]at s;cases s;exact⟨true,rfl,IP (hb B e Q λI Y Fs2 J L R2 M=>q _ _ _ J (z.trans L) R2 M)⟩
 .rename_i u;rw[u]at s;cases s;cases e;exact⟨false,rfl,Il (q _ _ _ _ z B .bl)⟩
 .cases e
def aak(ha:SR K ta a)(hb:SR K tb b):SR K (aa2 ta tb) (rOr a b):=by
 intro H₀ t Hf S σ H O d P R e Q q;obtain⟨x,E,e⟩:=oBq.mp e;refine ha R (d:=x.1) (S':=x.2) E _ λG U Fs1 X z B s=>?_
 split at e
 .rename_i u;rw[u]at s;cases s;cases e;exact⟨true,rfl,IP (q _ _ _ _ z B .bl)⟩
 .rename_i u;rw[u]at s;cases s;exact⟨false,rfl,Il (hb B e Q λI Y Fs2 J L R2 M=>q _ _ _ J (z.trans L) R2 M)⟩
 .cases e
def M9(ha:SR K ta a):EU K (tB ta) (qC a):=by
 intro H₀ s Hf S σ H I d J R e Q q;obtain⟨x,u,e⟩:=oBq.mp e;refine ha R (d:=x.1) (S':=x.2) u _ λz L Fs1 M B E t=>?_
 split at e
 .rename_i b G;rw[G]at t;cases t;cases e;exact⟨_,rfl,q _ _ _ B E⟩
 .cases e
def xa(ha:SR K ta a):EU K (WQ ta) (qC a):=M9 ha
def X0(ha:EU K ca ma)(hb:EU K cb mb):EU K (aaa ca cb) (Fx ma mb):=by
 intro H₀ t Hf S σ H J d L R e Q q;obtain⟨x,B,e⟩:=oBq.mp e;refine ha R (b:=x.1) (S':=x.2) B _ λE M Fs1 u z=>?_
 split at e
 .rename_i s;rw[s];exact IP (hb z e Q λG O Fs2 I R2=>q _ _ _ (u.trans I) R2)
 .rename_i s;cases e;rw[df]at s;rw[s];exact Il (q _ _ _ u z)
def Qj(ha:EU K ca ma)(hb:EU K cb mb):EU K (tOr ca cb) (Jq ma mb):=by
 intro H₀ t Hf S σ H J d L R e Q q;obtain⟨x,B,e⟩:=oBq.mp e;refine ha R (b:=x.1) (S':=x.2) B _ λE M Fs1 u z=>?_
 split at e
 .rename_i s;cases e;rw[s];exact IP (q _ _ _ u z)
 .rename_i s;rw[df]at s;rw[s];exact Il (hb z e Q λG O Fs2 I R2=>q _ _ _ (u.trans I) R2)
def Lz(ha:EU K ca ma):EU K (aaW ca) (Gm ma):=by
 intro H₀ s Hf S σ H E d G R e Q q;obtain⟨x,t,e⟩:=oMq.mp e;cases e;exact ha R (b:=x.1) (S':=x.2) t _ λu I Fs1 z B=>q _ _ _ z B
def ZJ(G:EU K ca ma)(ha:SR K ta a)(hb:SR K tb b):SR K (tIf ca ta tb) (rIf ma a b):=by
 intro H₀ t Hf S σ H M d O R e Q q;obtain⟨x,I,e⟩:=oBq.mp e;refine G R (b:=x.1) (S':=x.2) I _ λJ P Fs1 B E=>?_
 split at e
 .rename_i s;rw[s];exact IP (ha E e Q λu L Fs2 v z R2=>q _ _ _ v (B.trans z) R2)
 .rename_i s;rw[df]at s;rw[s];exact Il (hb E e Q λu L Fs2 v z R2=>q _ _ _ v (B.trans z) R2)
end
noncomputable abbrev pe:Nat:=16777216
def rB:jo=pe:=jG
def SQ(K:Ζ)(te:TE)(m:ML):Prop:=∀{H₀ s Hf:Hp}{S:AS}{σ:St}{H:Hp}{z:List Δ}{ds:List D}{S':AS},oI K H₀ s Hf S σ H z->m S=some (ds,S')->∀Q:VK,
 (∀t x u p vs,yd Hf H z t x u->oI K H₀ s t S' σ x u->qh K x p vs->oA K t ds vs->Q (.ref p) x)->te σ H Q
theorem SL.q{K:Ζ}{te:TE}{m:ML}(h:SL K te m):SQ K te m:=by
 intro H₀ s Hf S σ H G I J R e Q q;exact h R e Q λu L x p z t B E r=>q _ _ _ p z t B (qh.of E) r
def rW(i:Nat):ML:=λS=>match S[i]?.join with
 |some (.sh (.scr ns))=>some (ns.map .int,S)
 |some (.sh (.list ds))=>some (ds,S)
 |some (.ow s)=>some (s.map nK,S.set i (some (.ow ((s.map nK).map .sh))))
 |_=>none
theorem rj{K:Ζ}{H:Hp}:∀ns:Ϝ,oA K H (ns.map .int) (ns.map V.int)
 | []=>.nil
 |n::ns=>.cons .int (rj ns)
def Ak{K:Ζ}(i:Nat):SQ K (wq i) (rW i):=by
 intro H₀ u Hf S σ H U I J R e Q q;unfold rW at e;split at e
 .rename_i ns s;cases e;obtain⟨v,F,L,X,r⟩:=R.rep i _ (oG s);cases r.sh_inv.2 with
  |scr h=>exact⟨_,L,q _ _ _ _ _ .refl R (R.sub.seq h) (rj ns)⟩
 .rename_i M s;cases e;refine Lu i R (ds:=I) (S':=S) ?_ Q λx O z p B t E G r=>q _ _ _ p B t E (qh.of G) r
  unfold HX;rw[s]
 .rename_i P s;refine Lu i R (ds:=I) (S':=J) ?_ Q λx O z p B t E G r=>q _ _ _ p B t E (qh.of G) r
  unfold HX;rw[s];exact e
 .cases e
section
variable {K:Ζ}{H₀ Hf₀ Hf Hf' H H':Hp}{S S':AS}{σ:St}{Fs Fs':List Δ}
theorem oz.stp{as:List AV}{vs:List V}{Gs:List Δ}(r:oz K Hf H as vs Gs)(u:∀q∈Gs.flatten,q∉Fs.flatten)(t:yd Hf H Fs Hf' H' Fs'):oz K Hf' H' as vs Gs:=
 ⟨r.1,r.2.1,λi a v F x z s=>(r.2.2 i a v F x z s).stp (λq B=>u q (mFq.mpr ⟨F,mGq s,B⟩)) t⟩
def oI.layF(R:oI K H₀ Hf₀ Hf S σ H Fs){p:Addr}{o:HO}(s:H p=none):yd Hf H Fs (om Hf p o) (om H p o) Fs/\oI K H₀ Hf₀ (om Hf p o) S σ (om H p o) Fs:=by
 have t:Hf p=none:=R.sub.free s;refine⟨⟨sM t,sM s,λ_ h=>h,λb h g=>?_⟩,R.more (sM s) (sM t) (λb u e=>?_) (λq x=>?_) λb B z=>?_⟩
 .by_cases m:b=p
  .subst m;exact .inl s
  .rw[nC m]at g;exact absurd h g
 .by_cases m:b=p
  .subst m;rw[nG]at e ⊢;exact e
  .rw[nC m]at e ⊢;exact R.sub b u e
 .rw[nC λe=>(R.mem x).1 (by rw[e];exact s)]
  exact(R.mem x).2
 .rw[nC λe=>z (by rw[e];exact R.fr.free s)]
  exact R.lim b B z
end
noncomputable def nZ:MA:=λS=>some ([],S)
noncomputable def nJ(k:MK)(r:MA):MA:=λS=>(k S).bind λx=>(r x.2).map λy=>(x.1::y.1,y.2)
noncomputable def nH:ML:=λS=>some ([],S)
noncomputable def nA(k:ME)(r:ML):ML:=λS=>(k S).bind λx=>(r x.2).map λy=>(x.1::y.1,y.2)
section
variable {K:Ζ}{te ta tb:TE}{tr:TA}
def oY:SA K vd nZ:=by
 intro H₀ s Hf S σ H t u x R e Q q;cases e;exact q _ _ _ [] [] .refl R .nil .nil
def nW{k:MK}{r:MA}(hk:SK K te k)(hr:SA K tr r):SA K (tp te tr) (nJ k r):=by
 intro H₀ s Hf S σ H Y as S' R e Q q;obtain⟨x,I,e⟩:=oBq.mp e;obtain⟨y,J,e⟩:=oMq.mp e;cases e;refine hk R (a:=x.1) (S':=x.2) I _ λt H1 Fs1 v F B L E u=>hr L (as:=y.1) (S':=y.2) J _ λM H2 Fs2 O P z R2 U G=>?_
 refine q _ _ _ (v::O) (F::P) (B.trans z) R2 (.cons (E.stp u.out z) U) ?_;rw[fCq];exact(u.stp z).app (G.back B) (u.apart (Hf1:=t) (λq X=>(E.owned q X).1) G)
def qA:Rm K vd nH:=by
 intro H₀ s Hf S σ H t u x R e Q q;cases e;exact q _ _ _ [] .refl R .nil
def oN{k:ME}{r:ML}(hk:SR K te k)(hr:Rm K tr r):Rm K (tp te tr) (nA k r):=by
 intro H₀ s Hf S σ H O P U R e Q q;obtain⟨x,u,e⟩:=oBq.mp e;obtain⟨y,z,e⟩:=oMq.mp e;cases e;refine hk R (d:=x.1) (S':=x.2) u _ λB X Fs1 v E G I=>hr G (ds:=y.1) (S':=y.2) z _ λJ Y Fs2 L t R2 M=>?_
 exact q _ _ _ (v::L) (E.trans t) R2 (.cons (I.mono t.sh) M)
end
def rq(a:MA):MK:=λS=>(a S).bind λx=>uJ (x.1.length<=pe) (some (.ow x.1,x.2))
def HP(a:MA):MK:=λS=>(a S).bind λx=>uJ (x.1.length<=pe) (some (.sh (.tup (x.1.map nK)),x.2))
section
variable {K:Ζ}{ta:TA}{a:MA}
def zT(ha:SA K ta a):SK K (OL ta) (rq a):=by
 intro H₀ s Hf S σ H X Y S' R e Q q;obtain⟨x,J,e⟩:=oBq.mp e;rcases nU e with⟨hl,e⟩|e
 .skip
  cases e;refine ha R (as:=x.1) (S':=x.2) J _ λL H1 Fs1 M z B E t G=>⟨by rw[rB,←t.1];exact hl,λp u=>?_⟩
  obtain⟨I,R2,O,n2,n3⟩:=E.new (o:=.lst M) u;refine q _ _ _ (.ref p) (p::z.flatten) (B.trans I) R2 (ou.news nG O (t.stp G.out I)) ?_;have P:=(wZ.one E u).back B;refine(show wZ _ _ _ _ ([p]++z.flatten)from P.app G λq U m=>?_)
  rw[mSq.mp U]at m;exact(t.owned p m).1 u
 .cases e
def BU(ha:SA K ta a):SK K (ZT ta) (HP a):=by
 intro H₀ s Hf S σ H U X Y R e Q q;obtain⟨x,z,e⟩:=oBq.mp e;rcases nU e with⟨hl,e⟩|e
 .skip
  cases e;refine ha R (as:=x.1) (S':=x.2) z _ λB H1 Fs1 E Gs G I t J=>⟨by rw[rB,←t.1];exact hl,λp L=>?_⟩
  obtain⟨R2,M,O⟩:=I.gives G t J;obtain⟨u,P⟩:=R2.layF (o:=.tup E) L;exact q _ _ _ (.ref p) [] (O.trans u) P (.sh (.mk_tup nG (M.mono u.sf))) .nil
 .cases e
end
def HV(a b:ML):MK:=λS=>(a S).bind λx=>(b x.2).bind λy=>uJ (x.1.length+y.1.length<=pe) (some (.ow ((x.1++y.1).map .sh),y.2))
section
variable {K:Ζ}{ta tb:TE}{a b:ML}
def Y9(ha:SL K ta a)(hb:SL K tb b):SK K (WO YW ta tb) (HV a b):=by
 intro H₀ z Hf S σ H Fs av S' R e Q q;obtain⟨x,J,e⟩:=oBq.mp e;obtain⟨y,L,e⟩:=oBq.mp e;rcases nU e with⟨hl,e⟩|e
 .skip
  cases e;refine ha R (ds:=x.1) (S':=x.2) J _ λM H1 Fs1 O s B P U E=>hb P (ds:=y.1) (S':=y.2) L _ λX H2 Fs2 Y t u R2 h2 G=>?_
  refine⟨O,Y,s,t,rfl,rfl,u.sh _ _ U,h2,by rw[rB,←E.1,←G.1];exact hl,λp I=>?_⟩
  obtain⟨t3,R3,n1,n2,n3⟩:=R2.new (o:=.lst (s++t)) I;exact q _ _ _ (.ref p) [p] ((B.trans u).trans t3) R3 (ou.new nG n1 ((E.mono u.sf).append G)) ((wZ.one R2 I).back (B.trans u))
 .cases e
end
abbrev MO:=AS->Option (Option Int×AS)
def SO(K:Ζ)(to:TO)(m:MO):Prop:=∀{H₀ s Hf:Hp}{S:AS}{σ:St}{H:Hp}{z:List Δ}{o:Option Int}{S':AS},oI K H₀ s Hf S σ H z->m S=some (o,S')->∀Q:Option Int->Hp->Prop,
 (∀t x u,yd Hf H z t x u->oI K H₀ s t S' σ x u->Q o x)->to σ H Q
def yc:MO:=λS=>some (none,S)
def vE(m:ME):MO:=λS=>(m S).bind λx=>match x.1 with
 | .int i=>some (some i,x.2)
 |_=>none
def zr{α:Type}(xs:List α)(lo hi:Option Int):List α:=(xs.drop (HT.Fg xs.length 0 lo)).take (HT.Fg xs.length xs.length hi-HT.Fg xs.length 0 lo)
def Tn(l:ML)(lo hi:MO):MK:=λS=>(l S).bind λx=>(lo x.2).bind λy=>(hi y.2).map λz=>(.ow ((zr x.1 y.1 z.1).map .sh),z.2)
section
variable {K:Ζ}{te:TE}{tl th:TO}{l:ML}{lo hi:MO}{m:ME}
def UK:SO K Mj yc:=by
 intro H₀ s Hf S σ H t o u R e Q q;cases e;exact q _ _ _ .refl R
def TZ(h:SR K te m):SO K (W0 te) (vE m):=by
 intro H₀ s Hf S σ H I o J R e Q q;obtain⟨x,u,e⟩:=oBq.mp e;refine h R (d:=x.1) (S':=x.2) u _ λz L Fs1 v B E t=>?_
 split at e
 .rename_i i G;rw[G]at t;cases t;cases e;exact⟨i,rfl,q _ _ _ B E⟩
 .cases e
def oA.cut{H:Hp}{ds:List D}{vs:List V}(r:oA K H ds vs)(lo hi:Option Int):oA K H (zr ds lo hi) (LA vs lo hi):=by
 unfold zr LA;rw[r.1];exact(r.drop _).take _
def abf(hl:SQ K te l)(B:SO K tl lo)(E:SO K th hi):SK K (tSl (ZQ K) te tl th) (Tn l lo hi):=by
 intro H₀ G Hf S σ H Fs av S' R e Q q;obtain⟨x,M,e⟩:=oBq.mp e;obtain⟨y,O,e⟩:=oBq.mp e;obtain⟨z,P,e⟩:=oMq.mp e;cases e;refine hl R (ds:=x.1) (S':=x.2) M _ λU H1 Fs1 X s I Y h1 r1=>B Y (o:=y.1) (S':=y.2) O _ λHf2 H2 Fs2 t R2=>E R2 (o:=z.1) (S':=z.2) P _ λHf3 H3 Fs3 u J=>?_
 refine⟨X,s,rfl,(t.sh.trans u.sh).seq h1,λp L=>?_⟩
 obtain⟨t4,R4,n1,n2,n3⟩:=J.new (o:=.lst (LA s y.1 z.1)) L;exact q _ _ _ (.ref p) [p] (((I.trans t).trans u).trans t4) R4 (ou.new nG n1 ((r1.mono (t.sf.trans u.sf)).cut _ _)) ((wZ.one J L).back ((I.trans t).trans u))
end
def FR:D->D->Option D
 | .list ds,.int i=>atI ds i
 | .scr ns,.int i=>(atI ns i).map .int
 |_,_=>none
def Px(l:ML)(b:ME):MK:=λS=>(l S).bind λx=>(b x.2).bind λy=>match y.1 with
 | .int i=>(atI x.1 i).map λd=>(.sh d,y.2)
 |_=>none
section
variable {K:Ζ}{ta tb:TE}
theorem oA.atI{H:Hp}{ds:List D}{vs:List V}{i:Int}{d:D}(r:oA K H ds vs)(h:L2.atI ds i=some d):∃v,L2.atI vs i=some v/\pM K H d v:=by
 unfold L2.atI at h ⊢;rw[r.1]at h;obtain⟨j,s,t⟩:=oBq.mp h;rw[s];exact r.get t
def WN:E8 K (XA K) FR:=by
 intro x y H Q M O d u z e q;unfold FR at e;split at e
 .rename_i E i;cases z;obtain⟨p,B,rfl,h,r⟩:=u.list_inv;obtain⟨l,G⟩:=r;obtain⟨v,s,t⟩:=oA.atI (K:=K) (H:=H) (ds:=E) (vs:=B) ⟨l,G⟩ e;exact⟨p,B,i,v,rfl,rfl,qh.of h,s,q v t⟩
 .rename_i ns i;cases z;cases u;rename_i p h;obtain⟨n,s,t⟩:=oMq.mp e;subst t;obtain⟨v,I,J⟩:=oA.atI (K:=K) (H:=H) (rj ns) (i:=i) (d:=.int n) (by
   unfold L2.atI at s ⊢;rw[lMq];obtain⟨j,L,g2⟩:=oBq.mp s;rw[L];show(ns.map D.int)[j]?=_;rw[gMq,g2];rfl)
  exact⟨p,_,i,v,rfl,rfl,h,I,q v J⟩
 .cases e
def Nk{l:ML}{b:ME}(hl:SQ K ta l)(hb:SR K tb b):SK K (WO (XA K) ta tb) (Px l b):=by
 intro H₀ s Hf S σ H Fs av S' R e Q q;obtain⟨x,B,e⟩:=oBq.mp e;obtain⟨y,E,e⟩:=oBq.mp e;refine hl R (ds:=x.1) (S':=x.2) B _ λG H1 Fs1 I t J L M O=>hb L (d:=y.1) (S':=y.2) E _ λP H2 Fs2 v2 u R2 z=>?_
 split at e
 .rename_i i U;rw[U]at z;cases z;obtain⟨d,X,e⟩:=oMq.mp e;cases e;obtain⟨v,Y,g2⟩:=(O.mono u.sf).atI X;exact⟨I,t,i,v,rfl,rfl,u.sh.seq M,Y,q _ _ _ v [] (J.trans u) R2 (.sh g2) .nil⟩
 .cases e
end
def Sk(K:Ζ)(r:List V->Hp->VK->Prop)(f:List D->Option D):Prop:=∀{vs:List V}{H:Hp}{Q:VK}{ds:List D}{d:D},oA K H ds vs->f ds=some d->(∀v,pM K H d v->Q v H)->r vs H Q
noncomputable def rD(f:List D->Option D)(a:ML):ME:=λS=>(a S).bind λx=>(f x.1).map λd=>(d,x.2)
def Fj{K:Ζ}{r:List V->Hp->VK->Prop}{f:List D->Option D}{t:TA}{a:ML}(hr:Sk K r f)(ha:Rm K t a):SR K (Om r t) (rD f a):=by
 intro H₀ s Hf S σ H M d O R e Q q;obtain⟨x,u,e⟩:=oBq.mp e;obtain⟨z,B,e⟩:=oMq.mp e;cases e;exact ha R (ds:=x.1) (S':=x.2) u _ λE P Fs1 U G I J=>hr J B λv L=>q _ _ _ v G I L
def qi:List D->Option D
 | [.list ds]=>some (.int ds.length)
 | [.tup ds]=>some (.int ds.length)
 | [.scr ns]=>some (.int ns.length)
 | [.str x]=>uJ (x.length<=pe) (some (.int x.length))
 |_=>none
def Lf:List D->Option D
 | [.int i]=>some (.int (if i<0 then -i else i))
 |_=>none
def acY:List D->Option D
 | [.int i,.int j]=>some (.int (if j>i then j else i))
 |_=>none
def acI:List D->Option D
 | [.int i,.int j]=>some (.int (if j<i then j else i))
 |_=>none
def ac3:List D->Option D
 | [.int i]=>some (.int i)
 | [.bl k]=>some (.int (if k then 1 else 0))
 |_=>none
def isT:D->String->Option D
 | .int _,T=>if T = "int" then some (.bl true)else if T = "bool" then some (.bl false)else none
 | .bl _,T=>if T = "bool" ∨ T = "int" then some (.bl true)else none
 | .str _,T=>if T = "str" then some (.bl true)else none
 | .list _,T=>if T = "list" then some (.bl true)else none
 | .tup _,T=>if T = "tuple" then some (.bl true)else none
 | .dict _,T=>if T = "dict" then some (.bl true)else none
 |_,_=>none
def G4:List D->Option D
 | [x,.ty T]=>isT x T
 |_=>none
def ql:List D->Option Ϝ
 | []=>some []
 | .int i::ds=>(ql ds).map (i :: ·)
 |_=>none
theorem tS:∀{ds:List D}{ns:Ϝ},ql ds=some ns->ds=ns.map .int
 | [],ns,h=>by cases h;rfl
 |d::ds,ns,h=>by
  cases d with
  |int i=>
   obtain⟨u,s,t⟩:=oMq.mp (show(ql ds).map (i :: ·)=some ns from h)
   subst t;rw[tS s];rfl
  |_=>cases h
@[simp] theorem tT (ns:Ϝ):ql (ns.map .int)=some ns:=by
 induction ns with
 |nil=>rfl
 |cons n ns s=>show(ql (ns.map .int)).map (n :: ·)=_;rw[s];rfl
theorem qg{K:Ζ}{H:Hp}:∀{ns:Ϝ}{vs:List V},oA K H (ns.map .int) vs->vs=ns.map V.int
 | [],vs,h=>h.nil_inv
 |n::ns,vs,h=>by
  obtain⟨v,u,rfl,s,t⟩:=oA.cons_inv (d:=.int n) (ds:=ns.map .int) h;cases s;rw[qg t];rfl
def Ni:Ϝ->Option Int
 | []=>none
 |n::ns=>some (ns.foldl min n)
theorem wm:∀(ns:Ϝ) (n:Int),ns.foldl min n∈n::ns
 | [],n=>by simp
 |m::ns,n=>by
  have h:=wm ns (min n m);rw[cg];rcases ag.mp h with e|e
  .rw[e]
   by_cases c:n<=m
   .rw[Int.min_eq_left c];simp
   .rw[Int.min_eq_right (by lia)];simp
  .exact mCo _ (mCo _ e)
theorem uw:∀(ns:Ϝ) (n:Int),(ns.foldl min n<=n)/\∀x∈ns,ns.foldl min n<=x
 | [],n=>⟨iz _,λx h=>by cases h⟩
 |m::ns,n=>by
  obtain⟨u,s⟩:=uw ns (min n m);rw[cg];refine⟨by lia,λx t=>?_⟩
  rcases ag.mp t with e|e
  .subst e;lia
  .exact s x e
def UY:List D->Option D
 | [.list ds]=>(ql ds).bind λns=>(Ni ns).map .int
 |_=>none
section
variable {K:Ζ}
def Yk:Sk K (λxs H Q=>∃x n,xs=[x]/\aa5 K x H n/\Q (.int n) H) qi:=by
 intro G H Q I d r e q;unfold qi at e;split at e
 .obtain⟨v,u,rfl,s,t⟩:=r.cons_inv;rw[t.nil_inv];obtain⟨p,z,rfl,B,E⟩:=s.list_inv;cases e;exact⟨_,_,rfl,.inl ⟨z,qh.of B,E.1⟩,q _ .int⟩
 .obtain⟨v,u,rfl,s,t⟩:=r.cons_inv;rw[t.nil_inv];obtain⟨p,z,rfl,B,E⟩:=s.tup_inv;cases e;exact⟨_,_,rfl,.inr ⟨z,BZ.of B,E.1⟩,q _ .int⟩
 .obtain⟨v,u,rfl,s,t⟩:=r.cons_inv;rw[t.nil_inv];cases e;cases s with
  |scr h=>exact⟨_,_,rfl,.inl ⟨_,h,(lMq _).symm⟩,q _ .int⟩
 .rcases nU e with⟨hl,e⟩|e
  .skip
   obtain⟨v,u,rfl,s,t⟩:=r.cons_inv;rw[t.nil_inv];cases e;cases s;exact⟨_,_,rfl,⟨by rw[rB];exact hl,rfl⟩,q _ .int⟩
  .cases e
 .cases e
def Kl:Sk K (λxs H Q=>∃i,xs=[.int i]/\Q (.int (if i<0 then -i else i)) H) Lf:=by
 intro u H Q x d r e q;unfold Lf at e;split at e
 .obtain⟨v,z,rfl,s,t⟩:=r.cons_inv;rw[t.nil_inv];cases s;cases e;exact⟨_,rfl,q _ .int⟩
 .cases e
def Yq:Sk K (λxs H Q=>∃(a:Addr) (ns:Ϝ),xs=[.ref a]/\qh K H a (ns.map V.int)/\0<ns.length/\∀M,M∈ns->(∀x,x∈ns->M<=x)->Q (.int M) H) UY:=by
 intro P H Q R d r e q;unfold UY at e;split at e
 .obtain⟨v,S,rfl,s,E⟩:=r.cons_inv;rw[E.nil_inv];obtain⟨ns,G,e⟩:=oBq.mp e;obtain⟨m,t,e⟩:=oMq.mp e;cases e;rw[tS G]at s;obtain⟨p,U,rfl,u,I⟩:=s.list_inv;rw[qg I]at u;cases ns with
  |nil=>cases t
  |cons n ns=>
   cases t;refine⟨p,_,rfl,qh.of u,by simp,λM J L=>?_⟩
   have O:M=ns.foldl min n:=by
    have X:=L _ (wm ns n);have B:=uw ns n;have Y:ns.foldl min n<=M:=by
     rcases ag.mp J with z|z
     .subst z;exact B.1
     .exact B.2 M z
    lia
   rw[O];exact q _ .int
 .cases e
def RP:Sk K (λxs H Q=>∃x T b,xs=[x,.ty T]/\aa4 K x H T b/\Q (.bl b) H) G4:=by
 intro L H Q M d r e q;unfold G4 at e;split at e
 rotate_left
 .cases e
 rename_i x T;obtain⟨v,O,rfl,t,G⟩:=r.cons_inv;obtain⟨u,P,rfl,I,J⟩:=G.cons_inv;rw[J.nil_inv];cases I;unfold isT at e;cases x <;> first|(cases e;done)|dsimp only at e
 case int=>
  cases t;split at e
  .rename_i s;cases e;exact⟨_,_,_,rfl,.inl ⟨s,rfl⟩,q _ .bl⟩
  .split at e
   .rename_i s;cases e;exact⟨_,_,_,rfl,.inr ⟨s,rfl⟩,q _ .bl⟩
   .cases e
 case bl=>
  cases t;split at e
  .rename_i s;cases e;rcases s with s|s
   .exact⟨_,_,_,rfl,.inl ⟨s,rfl⟩,q _ .bl⟩
   .exact⟨_,_,_,rfl,.inr ⟨s,rfl⟩,q _ .bl⟩
  .cases e
 case str=>
  cases t;split at e
  .rename_i s;cases e;exact⟨_,_,_,rfl,⟨s,rfl⟩,q _ .bl⟩
  .cases e
 case list=>
  obtain⟨p,z,rfl,B,E⟩:=t.list_inv;split at e
  .rename_i s;cases e;exact⟨_,_,_,rfl,.inl ⟨s,rfl,z,qh.of B⟩,q _ .bl⟩
  .cases e
 case tup=>
  obtain⟨p,z,rfl,B,E⟩:=t.tup_inv;split at e
  .rename_i s;cases e;exact⟨_,_,_,rfl,.inr (.inr ⟨s,rfl,z,BZ.of B⟩),q _ .bl⟩
  .cases e
 case dict=>
  obtain⟨p,z,rfl,B,E⟩:=t.dict_inv;split at e
  .rename_i s;cases e;exact⟨_,_,_,rfl,.inr (.inl ⟨s,rfl,z,B⟩),q _ .bl⟩
  .cases e
end
abbrev MF:=List D->Option AV
def oR(K:Ζ)(f:MF):Sp:=λvs H Q _=>∃(Hf:Hp) (ds:List D) (a:AV),ox Hf H/\oA K Hf ds vs/\f ds=some a /\
 ∀s t v F,ox Hf s->ox H t->ox s t->(∀b,Hf b=none->H b≠none->s b=none)->ou K s t a v F->F.Nodup->(∀q∈F,H q=none)->Q v t
def oi(f:MF)(a:MA):MK:=λS=>(a S).bind λx=>(f (x.1.map nK)).map λr=>(r,x.2)
def qv{K:Ζ}{f:MF}{G:TA}{a:MA}(ha:SA K G a):SK K (DS (oR K f) [] E0 G) (oi f a):=by
 intro H₀ t Hf S σ H Fs P S' R e Q q;obtain⟨x,U,e⟩:=oBq.mp e;obtain⟨z,X,e⟩:=oMq.mp e;cases e;refine ha R (as:=x.1) (S':=x.2) U _ λB E Fs1 vs Y I R1 r1 o1=>?_
 obtain⟨R2,r2,t2⟩:=R1.gives I r1 o1;rw[aNq];refine⟨_,_,P,R2.sub,r2,X,λu J v F L M s3 l r nd fr=>?_⟩
 have t3:yd (Z.frz B E Y.flatten) E Fs1 u J Fs1:=⟨L,M,λ_ h=>h,λb h g=>.inl (by
  by_cases e:E b=none
  .exact e
  .exact absurd (l b h e) g)⟩
 have hn:∀q∈Fs1.flatten,u q=none:=λq s=>l q (R2.mem s).2 (R2.mem s).1
 have R3:oI K H₀ t u x.2 σ J Fs1:=R2.more M L s3 hn λb h1 O=>l b (R2.lim b h1 O) (Mi R2.fr O)
 refine q _ _ _ v F (t2.trans t3) R3 r ⟨nd,λq s=>R2.fr.free (fr q s),λq s m=>(R2.mem m).1 (fr q s),λq s=>.inl (I.sh.free (fr q s))⟩
inductive Qd where
 |nx (S:AS)|rt (a:AV)|bk (S:AS)|ct (S:AS)
abbrev MS:=AS->Option Qd
def Fl(K:Ζ)(H₀ t Hf:Hp)(D:zu):Qd->Prop
 | .nx S=>∀s u x z,ox Hf s->oI K H₀ t s S u x z->D.nx u x
 | .bk S=>∀s u x z,ox Hf s->oI K H₀ t s S u x z->D.bk u x
 | .ct S=>∀s u x z,ox Hf s->oI K H₀ t s S u x z->D.ct u x
 | .rt a=>∀s x v F,ox t s->ox H₀ x->ox s x->(∀b,t b=none->H₀ b≠none->s b=none)->ou K s x a v F->F.Nodup->(∀q∈F,H₀ q=none)->D.rt v x
def SS(K:Ζ)(t:TS)(m:MS):Prop:=∀{H₀ s Hf:Hp}{S:AS}{σ:St}{H:Hp}{u:List Δ}{o:Qd},oI K H₀ s Hf S σ H u->m S=some o->∀D:zu,Fl K H₀ s Hf D o->t D σ H
def Fl.mono{K:Ζ}{H₀ t Hf B:Hp}{D:zu}{o:Qd}(s:ox Hf B)(h:Fl K H₀ t Hf D o):Fl K H₀ t B D o:=by
 cases o with
 |nx S=>exact λu x E z G R=>h u x E z (s.trans G) R
 |bk S=>exact λu x E z G R=>h u x E z (s.trans G) R
 |ct S=>exact λu x E z G R=>h u x E z (s.trans G) R
 |rt a=>exact h
def oV:MS:=λS=>some (.nx S)
def abP:MS:=λS=>some (.bk S)
def ac5:MS:=λS=>some (.ct S)
def qp:MS:=λ_=>none
def nO(a b:MS):MS:=λS=>(a S).bind λo=>match o with
 | .nx S'=>b S'
 |o=>some o
def oj(i:Nat)(k:MK):MS:=λS=>(k S).map λx=>.nx (x.2.set i (some x.1))
def FV(k:MK):MS:=λS=>(k S).map λx=>.nx x.2
noncomputable def oP(k:MK):MS:=λS=>(k S).map λx=>.rt x.1
def wk(c:MT)(a b:MS):MS:=λS=>(c S).bind λx=>if x.1=true then a x.2 else b x.2
section
variable {K:Ζ}{t u:TS}{a b:MS}{te:TE}{k:MK}
def HE:SS K WS oV:=by
 intro H₀ s Hf S σ H x o R e D h;cases e;exact h _ _ _ _ (.refl _) R
def wz:SS K RV qp:=by
 intro H₀ s Hf S σ H x o R e D h;cases e
def qr(ha:SS K t a)(hb:SS K u b):SS K (VE t u) (nO a b):=by
 intro H₀ z Hf S σ H L o R e D h;obtain⟨x,B,e⟩:=oBq.mp e;refine ha R B _ ?_;cases x with
 |nx M=>exact λE G O I s J=>hb J e D (h.mono s)
 |rt a=>cases e;exact h
 |bk a=>cases e;exact h
 |ct a=>cases e;exact h
def tH{i:Nat}(hk:SK K te k):SS K (Ja te (qP i)) (oj i k):=by
 intro H₀ s Hf S σ H M o R e D h;obtain⟨x,E,e⟩:=oMq.mp e;cases e;refine hk R (a:=x.1) (S':=x.2) E _ λG O Fs1 v F I J L z=>?_
 exact h _ _ _ _ I.sf (J.set i L z.nd λq B=>⟨z.fr q B,z.out q B⟩)
def Vn(hk:SK K te k):SS K (Ir te) (FV k):=by
 intro H₀ s Hf S σ H I o R e D h;obtain⟨x,z,e⟩:=oMq.mp e;cases e;exact hk R (a:=x.1) (S':=x.2) z _ λB J Fs1 v F E G L M=>h _ _ _ _ E.sf G
def Ea(hk:SK K te k):SS K (Xc te) (oP k):=by
 intro H₀ z Hf S σ H J o R e D h;obtain⟨x,E,e⟩:=oMq.mp e;cases e;exact hk R (a:=x.1) (S':=x.2) E _ λG L Fs1 v F M s I B=>h _ _ v F s.sf s.fr s.sub s.lim I B.nd B.fr
def Bl{c:TT}{m:MT}(G:EU K c m)(ha:SS K t a)(hb:SS K u b):SS K (ZV c t u) (wk m a b):=by
 intro H₀ z Hf S σ H L o R e D h;obtain⟨x,I,e⟩:=oBq.mp e;refine G R (b:=x.1) (S':=x.2) I _ λJ M Fs1 B E=>?_
 split at e
 .rename_i s;rw[s];exact IP (ha E e D (h.mono B.sf))
 .rename_i s;rw[df]at s;rw[s];exact Il (hb E e D (h.mono B.sf))
end
def uB(S:AS)(i:Nat):Option (List AV):=match S[i]?.join with
 |some (.ow s)=>some s
 |_=>none
def vG(S:AS)(i:Nat):Option (List (nT×D)):=match S[i]?.join with
 |some (.owd kvs)=>some kvs
 |_=>none
def AF(i:Nat)(k:MK):MS:=λS=>(uB S i).bind λ_=>(k S).bind λx=>(uB x.2 i).bind λs=>
 uJ (s.length<pe) (some (.nx (x.2.set i (some (.ow (s++[x.1]))))))
def Xf(i:Nat)(l:ML):MS:=λS=>(uB S i).bind λ_=>(l S).bind λx=>(uB x.2 i).bind λs=>
 uJ (s.length+x.1.length<=pe) (some (.nx (x.2.set i (some (.ow (s++x.1.map .sh))))))
def intOf:D->Option Int
 | .int i=>some i
 |_=>none
def ND(i:Nat)(b:ME)(k:MK):MS:=λS=>(rE k S).bind λx=>(uB x.2 i).bind λ_=>(b x.2).bind λy=>(uB y.2 i).bind λs=>(intOf y.1).bind λj=>(Mw s.length j).map λn=>
 .nx (y.2.set i (some (.ow (((s.map nK).set n (nK x.1)).map .sh))))
def sX:D->Option nT
 | .int i=>some (.inl i)
 | .str x=>some (.inr x)
 |_=>none
def vh(kvs:List (nT×D))(k:nT)(d:D):List (nT×D):=if kvs.any (λkv=>decide (kv.1=k))then kvs.map (λkv=>if kv.1=k then (kv.1,d)else kv)else kvs++[(k,d)]
def getD(kvs:List (nT×D))(k:nT):Option D:=(kvs.find? λkv=>decide (kv.1=k)).map (·.2)
def wM(i:Nat)(b:ME)(k:MK):MS:=λS=>(rE k S).bind λx=>(vG x.2 i).bind λ_=>(b x.2).bind λy=>(vG y.2 i).bind λkvs=>(sX y.1).bind λkey=>
 uJ (kvs.length<pe) (some (.nx (y.2.set i (some (.owd (vh kvs key (nK x.1)))))))
section
variable {K:Ζ}{H₀ Hf₀ Hf H:Hp}{S:AS}{σ:St}{Fs:List Δ}
def oI.turn(R:oI K H₀ Hf₀ Hf S σ H Fs){i:Nat}{I:AV}{p:Addr}{o:HO}{F F':Δ}(s1:σ[i]?=some (some (.ref p)))(s2:Fs[i]?=some F)(x:p∈F)(r:ou K Hf (om H p o) I (.ref p) F')(nd:F'.Nodup)
  (L:∀q∈F',H₀ q=none/\q∉(Fs.set i []).flatten):oI K H₀ Hf₀ Hf (S.set i (some I)) σ (om H p o) (Fs.set i F'):=by
 have B:p∈Fs.flatten:=mFq.mpr ⟨F,mGq s2,x⟩;have pn:Hf p=none:=(R.mem B).2;have M:H₀ p=none:=R.fresh p B;have out:=sH R.nd s2 x;have O:oI K H₀ Hf₀ Hf (S.set i none) σ (om H p o) (Fs.set i []):=by
  refine⟨by simp[R.len],by simp[R.lenF],λj a t=>?_,λj t=>?_,qk i R.nd bp (λp x=>by cases x),λp x=>R.fresh p (pV x),λb u e=>?_,λb u e=>?_,R.lim,R.sf⟩
  .rw[bB]at t
   by_cases s:i=j
   .subst s;rw[oa rfl]at t;split at t <;> cases t
   .rw[nY s]at t;obtain⟨w,G,P,J,q⟩:=R.rep j a t;refine⟨w,G,P,by rw[aK s];exact J,q.keep (.refl _) (λc E=>nC λe=>out ?_) λc E=>(q.owned c E).2⟩
    subst e;exact mFq.mpr ⟨G,mGq (i:=j) (by rw[aK s];exact J),E⟩
  .rw[bB]at t
   by_cases s:i=j
   .subst s;rw[oa rfl]at t;split at t
    .rename_i hi;rw[bg (R.lenF.symm ▸ hi)]
    .cases t
   .rw[nY s]at t;rw[aK s];exact R.emp j t
  .rw[nC λz=>by rw[z,pn]at e;cases e]
   exact R.sub b u e
  .rw[nC λz=>by rw[z,M]at e;cases e]
   exact R.fr b u e
 exact O.again (F:=F) s1 r nd L
noncomputable def oU{i:Nat}{F:Δ}{q:Addr}(s2:Fs[i]?=some F)(h:q∈F):q∈Fs.flatten:=mFq.mpr ⟨F,mGq s2,h⟩
def oz.snoc{as:List AV}{vs:List V}{Gs:List Δ}{a:AV}{v:V}{F:Δ}(r:oz K Hf H as vs Gs)(s:ou K Hf H a v F):oz K Hf H (as++[a]) (vs++[v]) (Gs++[F]):=by
 obtain⟨z,B,I⟩:=r;refine⟨by simp[z],by simp[B],λi b w G t u x=>?_⟩
 by_cases hi:i<as.length
 .rw[gZq hi]at t;rw[gZq (z ▸ hi)]at u;rw[gZq (B ▸ hi)]at x;exact I i b w G t u x
 .have E:i=as.length:=by
   have:=(gSq.mp t).1;rw[lAq,lSq]at this;lia
  subst E;rw[gYq (aa _),dE]at t;rw[z,gYq (aa _),dE]at u;rw[B,gYq (aa _),dE]at x;cases t;cases u;cases x;exact s
def oz.keepUpd{as:List AV}{vs:List V}{Gs:List Δ}{p:Addr}{o:HO}(r:oz K Hf H as vs Gs)(u:p∉Gs.flatten):oz K Hf (om H p o) as vs Gs:=
 ⟨r.1,r.2.1,λi a v F x z t=>by
  have q:=r.2.2 i a v F x z t;refine q.keep (.refl _) (λc s=>nC λe=>u ?_) λc s=>(q.owned c s).2
  subst e;exact mFq.mpr ⟨F,mGq t,s⟩⟩
def ou.keepUpd{a:AV}{v:V}{F:Δ}{p:Addr}{o:HO}(q:ou K Hf H a v F)(t:p∉F):ou K Hf (om H p o) a v F:=
 q.keep (.refl _) (λc s=>nC λe=>t (e ▸ s)) λc s=>(q.owned c s).2
def Vy{ds:List D}{vs:List V}(r:oA K Hf ds vs):oz K Hf H (ds.map .sh) vs (az ds.length []):=
 ⟨by simp[r.1],by simp,λi a v F s t u=>by
  rw[gMq]at s;cases q:ds[i]? with
  |none=>rw[q]at s;cases s
  |some d=>
   rw[q]at s;cases s;have:F=[]:=cB (mGq u);subst this;exact .sh (r.2 i d v q t)⟩
def oz.append{as bs:List AV}{vs ws:List V}{Gs E:List Δ}(r:oz K Hf H as vs Gs)(s:oz K Hf H bs ws E):oz K Hf H (as++bs) (vs++ws) (Gs++E):=by
 obtain⟨z,B,I⟩:=r;refine⟨by simp[z,s.1],by simp[B,s.2.1],λi b w G t u x=>?_⟩
 by_cases hi:i<as.length
 .rw[gZq hi]at t;rw[gZq (z ▸ hi)]at u;rw[gZq (B ▸ hi)]at x;exact I i b w G t u x
 .rw[gYq (by lia)]at t
  rw[gYq (by lia),←z]at u
  rw[gYq (by lia),←B]at x
  exact s.2.2 _ b w G t u x
end
section
variable {K:Ζ}{te ta tb:TE}{k:MK}{b:ME}{l:ML}
def rh{S:AS}{i:Nat}{s:List AV}(h:uB S i=some s):S[i]?=some (some (.ow s)):=by
 unfold uB at h;split at h
 .rename_i z e;cases h;exact oG e
 .cases h
def Ai{S:AS}{i:Nat}{kvs:List (nT×D)}(h:vG S i=some kvs):S[i]?=some (some (.owd kvs)):=by
 unfold vG at h;split at h
 .rename_i z e;cases h;exact oG e
 .cases h
theorem oI.ow{H₀ s Hf H:Hp}{S:AS}{σ:St}{u:List Δ}(R:oI K H₀ s Hf S σ H u){i:Nat}{t:List AV}(h:S[i]?=some (some (.ow t))):∃p vs Gs,σ[i]?=some (some (.ref p))/\u[i]?=some (p::Gs.flatten)/\H p=some (.lst vs)/\Hf p=none/\oz K Hf H t vs Gs /\
  p∉Gs.flatten/\Gs.flatten.Nodup/\∀q∈p::Gs.flatten,H₀ q=none/\q∉(u.set i []).flatten:=by
 obtain⟨v,F,x,z,r,nd,o,_⟩:=R.move h;obtain⟨p,vs,Gs,rfl,rfl,B,E,G⟩:=r.ow_inv;exact⟨p,vs,Gs,x,z,B,E,G,(aw.mp nd).1,(aw.mp nd).2,o⟩
def HM{i:Nat}(hk:SK K te k):SS K (Ir (WW K "list" C6 (wq i) (tp te vd))) (AF i k):=by
 intro H₀ I Hf S σ H Fs o R e D h;obtain⟨a0,e0,e⟩:=oBq.mp e;obtain⟨x,e1,e⟩:=oBq.mp e;obtain⟨avs,e2,e⟩:=oBq.mp e;rcases nU e with⟨hl,e⟩|e
 .skip
  cases e;obtain⟨p,vs,Gs,J,_,h1,_⟩:=R.ow (rh e0);refine⟨.ref p,J,.inl ⟨rfl,vs,qh.of h1⟩,hk R (a:=x.1) (S':=x.2) e1 _ λHf1 H1 Fs1 v F t1 U r1 t=>?_⟩
  obtain⟨p',L,M,u,s,O,P,B,E,Q,G⟩:=U.ow (rh e2);rw[J]at u;cases u;have X:p∉F:=λm=>t.out p m (oU s (by simp))
  refine⟨p,L,v,rfl,rfl,O,by rw[rB,←B.1];exact hl,h _ _ _ _ t1.sf (U.turn J s (by simp) (F':=p::(M++[F]).flatten) (ou.news nG P ((B.keepUpd E).snoc (r1.keepUpd X))) ?_ λq Y=>?_)⟩
  .rw[fAq,dr];refine aw.mpr ⟨λm=>(mAq.mp m).elim E X,nAq.mpr ⟨Q,t.nd,λa ha b hb e=>t.out b hb (oU s (mCo _ (e ▸ ha)))⟩⟩
  .rw[fAq,dr]at Y;rcases ag.mp Y with z|z
   .exact G q (by rw[z];simp)
   .rcases mAq.mp z with z|z
    .exact G q (mCo _ z)
    .exact⟨t.fr q z,λm=>t.out q z (pV m)⟩
 .cases e
def Y7{i:Nat}(hl:SL K te l):SS K (Ir (WW K "list" M7 (wq i) (tp te vd))) (Xf i l):=by
 intro H₀ z Hf S σ H Fs o R e D h;obtain⟨a0,Y,e⟩:=oBq.mp e;obtain⟨x,e1,e⟩:=oBq.mp e;obtain⟨avs,e2,e⟩:=oBq.mp e;rcases nU e with⟨B,e⟩|e
 .skip
  cases e;obtain⟨p,vs,Gs,E,_,h1,_⟩:=R.ow (rh Y);refine⟨.ref p,E,.inl ⟨rfl,vs,qh.of h1⟩,hl R (ds:=x.1) (S':=x.2) e1 _ λHf1 H1 Fs1 b ws t1 Q hb U=>?_⟩
  obtain⟨p',G,I,s,J,L,M,t,u,O,P⟩:=Q.ow (rh e2);rw[E]at s;cases s;refine⟨p,b,G,ws,rfl,rfl,L,hb,by rw[rB,←t.1,←U.1];exact B,h _ _ _ _ t1.sf (Q.turn E J (by simp) (F':=p::(I++az x.1.length []).flatten) (ou.news nG M ((t.keepUpd u).append (Vy U))) ?_ λq X=>?_)⟩
  .rw[fAq,uN,aNq];exact aw.mpr ⟨u,O⟩
  .rw[fAq,uN,aNq]at X;exact P q X
 .cases e
def Ze{i:Nat}(hk:SK K te k)(hb:SR K tb b):SS K (Ja te (abb (wq i) tb W3)) (ND i b k):=by
 intro H₀ Hf₀ Hf S σ H Fs o R e D h;obtain⟨x,e1,e⟩:=oBq.mp e;obtain⟨a0,e0,e⟩:=oBq.mp e;obtain⟨y,e2,e⟩:=oBq.mp e;obtain⟨avs,e3,e⟩:=oBq.mp e;obtain⟨j,U,e⟩:=oBq.mp e;obtain⟨n,e5,e⟩:=oMq.mp e;cases e;have hk':SK K te (rE k):=SK.frz hk;refine hk' R (a:=x.1) (S':=x.2) e1 _ λHf1 H1 Fs1 v F t1 R1 r1 o1=>?_
 obtain⟨s,_,_,X,_⟩:=R1.ow (rh e0);refine⟨_,X,hb R1 (d:=y.1) (S':=y.2) e2 _ λI H2 Fs2 w t2 R2 r2=>?_⟩
 obtain⟨q',J,t,L,s2',M,O,B,P,h5',E⟩:=R2.ow (rh e3);rw[X]at L;cases L;cases hy:y.1 with
 |int z=>
  rw[hy]at U r2;cases U;cases r2;obtain⟨x1,Q⟩:∃d,x.1 = .sh d:=by
   obtain⟨w,_,e⟩:=oMq.mp e1;rw[←e];exact⟨_,rfl⟩
  rw[Q]at r1;have rv:=(r1.sh_inv.2).mono t2.sf;have Y:∀q∈t.flatten,I q=none:=λq u=>(B.owned q u).2
  refine⟨s,J,_,n,rfl,rfl,M,by rw[←B.1];exact e5,?_⟩
  obtain⟨v0,F0,t1',t2',r0,nd0,o0,R0⟩:=R2.move (rh e3);have R4:=R0.frz (F:=t.flatten) (λq u=>E q (mCo _ u)) Y
  have r4:=B.frozen (pU (H:=H2) Y) λq u=>vU u
  have r5:ou K (Z.frz I H2 t.flatten) H2 (.ow ((avs.map nK).map .sh)) (.ref s) [s]:=ou.new M (by rw[qf P];exact O) r4
  have R5:=R4.again (F:=s::t.flatten) (G:=[s]) X r5 (by simp) λq u=>by rw[mSq.mp u];exact E s (by simp)
  have s5:(Fs2.set i [s])[i]?=some [s]:=by
   have hi:i<Fs2.length:=(gSq.mp s2').1;rw[bg hi]
  have R6:=R5.turn (o:=.lst (J.set n v)) X s5 (by simp) (F':=[s]) (ou.new nG (by rw[qf P];exact O) (r4.set (rv.mono (pU Y)) n)) (by simp) λq u=>by
   rw[mSq.mp u,dF];exact E s (by simp)
  rw[dF,dF]at R6;rw[Q,pT]at h;exact h _ _ _ _ ((t1.sf.trans t2.sf).trans (pU Y)) R6
 |_=>rw[hy]at U;cases U
theorem Bz{H:Hp}:∀{ds:List (nT×D)}{kvs:List (nT×V)}{key:nT},tw K H ds kvs->match getD ds key with
  |some d=>∃v,tu kvs key=some v/\pM K H d v
  |none=>tu kvs key=none
 | [],kvs,key,h=>by
  have:kvs=[]:=by
   have:=congrArg bV h.1;simpa using this.symm
  subst this;rfl
 |d::ds,[],key,h=>by
  have:=congrArg bV h.1;simp at this
 |d::ds,v::kvs,key,h=>by
  have s:d.1=v.1/\ds.map (·.1)=kvs.map (·.1):=by
   have:=h.1;simpa using this
  have t:pM K H d.2 v.2:=h.2 0 d v rfl rfl;have ht:tw K H ds kvs:=⟨s.2,λi a b u x=>h.2 (i+1) a b (by simpa using u) (by simpa using x)⟩
  unfold getD tu
  by_cases c:d.1=key
  .rw[bh (by simp[c]),bh (by simp[←s.1,c])]
   exact⟨v.2,rfl,t⟩
  .rw[aW (by simp[c]),aW (by simp[←s.1,c])]
   exact Bz ht
def tO{H:Hp}{d:D}{v:V}{key:nT}(h:sX d=some key)(r:pM K H d v):v=kV key:=by
 cases r <;> simp only[sX]at h
 all_goals first|(exfalso;simp at h;done)|skip
 all_goals (cases h;rfl)
def tw.key{H:Hp}{ds:List (nT×D)}{kvs:List (nT×V)}(h:tw K H ds kvs){i:Nat}{d:nT×D}{v:nT×V}(s:ds[i]?=some d)(t:kvs[i]?=some v):d.1=v.1:=by
 have:=congrArg (λl=>l[i]?) h.1
 simp only[gMq,s,t,bR]at this;exact aL.inj this
noncomputable def tw.len{H:Hp}{ds:List (nT×D)}{kvs:List (nT×V)}(h:tw K H ds kvs):ds.length=kvs.length:=by
 have:=congrArg bV h.1;simpa using this
def S4{H:Hp}{ds:List (nT×D)}{kvs:List (nT×V)}{key:nT}{d:D}{v:V}(h:tw K H ds kvs)(r:pM K H d v):tw K H (vh ds key d) (yJ kvs key v):=by
 have ha:(ds.any λkv=>decide (kv.1=key))=kvs.any λkv=>decide (kv.1=key):=by
  have s:(ds.any λkv=>decide (kv.1=key))=(ds.map (·.1)).any λk=>decide (k=key):=by rw[iW];rfl
  have t:(kvs.any λkv=>decide (kv.1=key))=(kvs.map (·.1)).any λk=>decide (k=key):=by rw[iW];rfl
  rw[s,t,h.1]
 unfold vh yJ;rw[ha];split
 .refine⟨?_,λi a b s t=>?_⟩
  .rw[mPq,mPq];have s:((λkv:nT×D=>kv.1)∘λkv:nT×D=>if kv.1=key then (kv.1,d)else kv)=λkv=>kv.1:=by
    funext kv;show(if kv.1=key then (kv.1,d)else kv).1=kv.1
    split <;> rfl
   have t:((λkv:nT×V=>kv.1)∘λkv:nT×V=>if kv.1=key then (kv.1,v)else kv)=λkv=>kv.1:=by
    funext kv;show(if kv.1=key then (kv.1,v)else kv).1=kv.1
    split <;> rfl
   rw[s,t];exact h.1
  .rw[gMq]at s t;obtain⟨x,z,rfl⟩:=oMq.mp s;obtain⟨E,B,rfl⟩:=oMq.mp t;have hk:=h.key z B
   by_cases c:x.1=key
   .rw[oa c,oa (hk ▸ c)];exact r
   .rw[nY c,nY (hk ▸ c)];exact h.2 i x E z B
 .refine⟨by rw[mBq,mBq,h.1];rfl,λi a b s t=>?_⟩
  by_cases hi:i<ds.length
  .rw[gZq hi]at s;rw[gZq (h.len ▸ hi)]at t;exact h.2 i a b s t
  .have u:i=ds.length:=by
    have:=(gSq.mp s).1;rw[lAq,lSq]at this;lia
   subst u;rw[gYq (aa _),dE]at s;rw[h.len,gYq (aa _),dE]at t;cases s;cases t;exact r
noncomputable def wx:MK:=λS=>some (.owd [],S)
def M5:SK K SN wx:=by
 intro H₀ s Hf S σ H z B E R e Q q;cases e;intro p u;obtain⟨t,R2,x,G,I⟩:=R.new (o:=.dK []) u;exact q _ _ _ (.ref p) [p] t R2 (.owd nG x ⟨rfl,λi d v h=>by simp at h⟩) (wZ.one R u)
theorem oI.owd{H₀ s Hf H:Hp}{S:AS}{σ:St}{t:List Δ}(R:oI K H₀ s Hf S σ H t){i:Nat}{ds:List (nT×D)}(h:S[i]?=some (some (.owd ds))):∃p kvs,σ[i]?=some (some (.ref p))/\t[i]?=some [p]/\H p=some (.dK kvs)/\Hf p=none/\tw K Hf ds kvs /\
  H₀ p=none/\p∉(t.set i []).flatten:=by
 obtain⟨v,F,u,x,r,nd,o,_⟩:=R.move h;obtain⟨p,kvs,rfl,rfl,z,B,E⟩:=r.owd_inv;exact⟨p,kvs,u,x,z,B,E,(o p (by simp)).1,(o p (by simp)).2⟩
def Vq{i:Nat}(hk:SK K te k)(hb:SR K tb b):SS K (WJ (wq i) tb te) (wM i b k):=by
 intro H₀ z Hf S σ H Fs o R e D h;obtain⟨x,O,e⟩:=oBq.mp e;obtain⟨a0,Y,e⟩:=oBq.mp e;obtain⟨y,e2,e⟩:=oBq.mp e;obtain⟨kvs,e3,e⟩:=oBq.mp e;obtain⟨key,e4,e⟩:=oBq.mp e;rcases nU e with⟨hl,e⟩|e
 .skip
  cases e;have B:SK K te (rE k):=SK.frz hk;refine B R (a:=x.1) (S':=x.2) O _ λHf1 H1 Fs1 v F t1 P Q o1=>?_
  obtain⟨U,_,E,_⟩:=P.owd (Ai Y);refine⟨_,E,hb P (d:=y.1) (S':=y.2) e2 _ λHf2 H2 Fs2 w X R2 r2=>?_⟩
  obtain⟨q',kv,s,G,I,J,t,L,M⟩:=R2.owd (Ai e3);rw[E]at s;cases s;obtain⟨x1,u⟩:∃d,x.1 = .sh d:=by
   obtain⟨w,_,e⟩:=oMq.mp O;rw[←e];exact⟨_,rfl⟩
  rw[u]at Q;have rv:=(Q.sh_inv.2).mono X.sf;have hw:=tO e4 r2;subst hw;refine⟨U,_,rfl,Tf.k I (by rw[rB,←t.len];exact hl),h _ _ _ _ (t1.sf.trans X.sf) (R2.turn E G (by simp) (F':=[U]) (.owd nG J ?_) (by simp) λq hq=>by rw[mSq.mp hq];exact⟨L,M⟩)⟩
  rw[u,pT];exact S4 t rv
 .cases e
def YS(a b:ME):ME:=λS=>(a S).bind λx=>(b x.2).bind λy=>match y.1 with
 | .dict kvs=>(sX x.1).map λkey=>(.bl (getD kvs key).isSome,y.2)
 |_=>none
def sO(a b:ME):ME:=λS=>(a S).bind λx=>(b x.2).bind λy=>match y.1 with
 | .dict kvs=>(sX x.1).map λkey=>(.bl (!(getD kvs key).isSome),y.2)
 |_=>none
def AR(a b:ME):ME:=λS=>(a S).bind λx=>(b x.2).bind λy=>match x.1 with
 | .dict kvs=>(sX y.1).bind λkey=>(getD kvs key).map λd=>(d,y.2)
 |_=>none
def Pm{H:Hp}{kvs:List (nT×D)}{x:V}{key:nT}{d:D}(r:pM K H (.dict kvs) x)(e:getD kvs key=some d):∃a v,x = .ref a/\BN H a (kV key) (some v)/\pM K H d v:=by
 obtain⟨p,z,rfl,s,t⟩:=r.dict_inv;have g:=Bz (key:=key) t;rw[e]at g;obtain⟨v,u,g2⟩:=g;exact⟨p,v,rfl,by rw[←u];exact BN.k s,g2⟩
def JP{H:Hp}{kvs:List (nT×D)}{x:V}{key:nT}(r:pM K H (.dict kvs) x):∃a o,x = .ref a/\BN H a (kV key) o/\o.isSome=(getD kvs key).isSome:=by
 obtain⟨p,z,rfl,s,t⟩:=r.dict_inv;have g:=Bz (key:=key) t;refine⟨p,_,rfl,BN.k s,?_⟩;cases e:getD kvs key with
 |none=>rw[e]at g;rw[g];rfl
 |some d=>rw[e]at g;obtain⟨v,u,_⟩:=g;rw[u];rfl
def Ym{a:ME}(ha:SR K ta a)(hb:SR K tb b):SR K (Yo ta tb) (YS a b):=by
 intro H₀ s Hf S σ H X d Y R e Q q;obtain⟨x,u,e⟩:=oBq.mp e;obtain⟨y,z,e⟩:=oBq.mp e;refine ha R (d:=x.1) (S':=x.2) u _ λB H1 Fs1 v1 E G I=>hb G (d:=y.1) (S':=y.2) z _ λJ H2 Fs2 v2 L R2 t=>?_
 split at e
 .rename_i M O;rw[O]at t;obtain⟨key,P,e⟩:=oMq.mp e;cases e;obtain⟨p,o,rfl,U,g2⟩:=JP (key:=key) t;refine⟨p,o,rfl,by rw[tO P I];exact U,?_⟩
  rw[g2];exact q _ _ _ _ (E.trans L) R2 .bl
 .cases e
def Ov{a:ME}(ha:SR K ta a)(hb:SR K tb b):SR K (GA ta tb) (sO a b):=by
 intro H₀ s Hf S σ H X d Y R e Q q;obtain⟨x,u,e⟩:=oBq.mp e;obtain⟨y,z,e⟩:=oBq.mp e;refine ha R (d:=x.1) (S':=x.2) u _ λB H1 Fs1 v1 E G I=>hb G (d:=y.1) (S':=y.2) z _ λJ H2 Fs2 v2 L R2 t=>?_
 split at e
 .rename_i M O;rw[O]at t;obtain⟨key,P,e⟩:=oMq.mp e;cases e;obtain⟨p,o,rfl,U,g2⟩:=JP (key:=key) t;refine⟨p,o,rfl,by rw[tO P I];exact U,?_⟩
  rw[g2];exact q _ _ _ _ (E.trans L) R2 .bl
 .cases e
def Nb{a:ME}(ha:SR K ta a)(hb:SR K tb b):SR K (Rz ta tb) (AR a b):=by
 intro H₀ s Hf S σ H Y d S' R e Q q;obtain⟨x,z,e⟩:=oBq.mp e;obtain⟨y,B,e⟩:=oBq.mp e;refine ha R (d:=x.1) (S':=x.2) z _ λE H1 Fs1 v1 G I t=>hb I (d:=y.1) (S':=y.2) B _ λJ H2 Fs2 v2 u R2 L=>?_
 split at e
 .rename_i M O;rw[O]at t;obtain⟨key,P,e⟩:=oBq.mp e;obtain⟨d',U,e⟩:=oMq.mp e;cases e;obtain⟨p,v,rfl,X,g2⟩:=Pm (t.mono u.sh) U;exact⟨p,v,rfl,by rw[tO P L];exact X,q _ _ _ _ (G.trans u) R2 g2⟩
 .cases e
end
def qN(x:Nat)(body:MS):List D->AS->Option Qd
 | [],S=>some (.nx S)
 |d::ds,S=>(body (S.set x (some (.sh d)))).bind λo=>match o with
  | .nx S'=>qN x body ds S'
  | .ct S'=>qN x body ds S'
  | .bk S'=>some (.nx S')
  | .rt a=>some (.rt a)
def qX:D->Option (List D)
 | .list ds=>some ds
 | .scr ns=>some (ns.map .int)
 |_=>none
def xK(x:Nat)(k:MK)(body:MS):MS:=λS=>(rE k S).bind λy=>(qX (nK y.1)).bind λds=>qN x body ds y.2
noncomputable def oK(lo:Int)(n:Nat):List D:=(aU n).map λi:Nat=>.int (lo+i)
def CQ:List D->Option (List D)
 | [.int j]=>uJ (-(2 ^ 62)<=j/\j<2 ^ 62) (some (oK 0 j.toNat))
 |_=>none
def abO:List D->Option (List D)
 | [.int i,.int j]=>uJ (-(2 ^ 62)<=i/\i<2 ^ 62/\-(2 ^ 62)<=j/\j<2 ^ 62) (some (oK i (j-i).toNat))
 |_=>none
def DW(x:Nat)(a:ML)(body:MS):MS:=λS=>(a S).bind λy=>(CQ y.1).bind λds=>qN x body ds y.2
def acj(x:Nat)(a:ML)(body:MS):MS:=λS=>(a S).bind λy=>(abO y.1).bind λds=>qN x body ds y.2
def zZ(x y:Nat)(body:MS):Nat->List D->AS->Option Qd
 |_,[],S=>some (.nx S)
 |i,d::ds,S=>(body ((S.set x (some (.sh (.int i)))).set y (some (.sh d)))).bind λo=>match o with
  | .nx S'=>zZ x y body (i+1) ds S'
  | .ct S'=>zZ x y body (i+1) ds S'
  | .bk S'=>some (.nx S')
  | .rt a=>some (.rt a)
def DZ(x y:Nat)(k:MK)(body:MS):MS:=λS=>(rE k S).bind λz=>(qX (nK z.1)).bind λds=>zZ x y body 0 ds z.2
def Ab(x y:Nat)(body:MS):List D->List D->AS->Option Qd
 |d::ds,e::es,S=>(body ((S.set x (some (.sh d))).set y (some (.sh e)))).bind λo=>match o with
  | .nx S'=>Ab x y body ds es S'
  | .ct S'=>Ab x y body ds es S'
  | .bk S'=>some (.nx S')
  | .rt a=>some (.rt a)
 |_,_,S=>some (.nx S)
def Su(x y:Nat)(k l:MK)(body:MS):MS:=λS=>(rE k S).bind λz=>(rE l z.2).bind λw=>(qX (nK z.1)).bind λds=>(qX (nK w.1)).bind λes=>
 if ds.length=es.length then Ab x y body ds es w.2 else none
def rX(c:MT)(body:MS):Nat->MS
 |0,_=>none
 |n+1,S=>(c S).bind λx=>if x.1=true then (body x.2).bind λo=>match o with
   | .nx S'=>rX c body n S'
   | .ct S'=>rX c body n S'
   | .bk S'=>some (.nx S')
   | .rt a=>some (.rt a)
  else some (.nx x.2)
section
variable {K:Ζ}{te tf:TE}{k l:MK}{tb:TS}{body:MS}{x y:Nat}
def wN{H:Hp}{d:D}{ds:List D}{v:V}(e:qX d=some ds)(r:pM K H d v):∃a vs,v = .ref a/\qh K H a vs/\oA K H ds vs:=by
 cases d with
 |list u=>
  cases e;obtain⟨p,vs,rfl,s,t⟩:=r.list_inv;exact⟨p,vs,rfl,qh.of s,t⟩
 |scr ns=>
  cases e;cases r with
  |scr h=>exact⟨_,_,rfl,h,rj ns⟩
 |_=>cases e
def wJ{te:TE}{S:AS}{z:AV×AS}(e:rE k S=some z):∃d,z.1 = .sh d:=by
 obtain⟨w,_,e⟩:=oMq.mp e;rw[←e];exact⟨_,rfl⟩
def oI.setD{H₀ s Hf H:Hp}{S:AS}{σ:St}{t:List Δ}{d:D}{v:V}(R:oI K H₀ s Hf S σ H t)(i:Nat)(r:pM K Hf d v):oI K H₀ s Hf (S.set i (some (.sh d))) (σ.set i (some v)) H (t.set i []):=
 R.set i (.sh r) bp λq h=>(by cases h)
def Kc(hk:SK K te k)(hb:SS K tb body):SS K (O3 (Sg K te) (qP x) tb) (xK x k body):=by
 intro H₀ G Hf S σ H Fs o R e D h;obtain⟨z,e1,e⟩:=oBq.mp e;obtain⟨ds,e2,e⟩:=oBq.mp e;have hk':SK K te (rE k):=SK.frz hk;refine hk' R (a:=z.1) (S':=z.2) e1 _ λJ H1 Fs1 v F t1 R1 r1 o1=>?_
 obtain⟨d,hd⟩:=wJ (te:=te) e1;rw[hd]at r1;rw[hd,pT]at e2;obtain⟨a,vs,rfl,g1,g2⟩:=wN e2 r1.sh_inv.2;refine⟨a,rfl,⟨vs,R1.sub.seq g1⟩,P6 (xs:=vs) (λi t X=>∃s L u,oI K H₀ G s L t X u/\ox J s/\qN x body (ds.drop i) L=some o) ⟨J,z.2,Fs1,R1,.refl _,e⟩
  (λi t X _ ⟨s,L,u,M,E,_⟩=>M.sub.seq (E.seq g1)) ?_ ?_⟩
 .rintro i w t X hw ⟨s,L,u,M,E,I⟩;obtain⟨di,O,rw'⟩:=g2.get' hw;have hlt:i<ds.length:=(gSq.mp O).1;rw[aG hlt]at I;have P:ds[i]=di:=(gSq.mp O).2;rw[P]at I;obtain⟨ob,e3,Y⟩:=oBq.mp I;refine hb (M.setD x (rw'.mono E)) e3 _ ?_;cases ob with
  |nx S2=>exact λB Q H2 Fs2 U R2=>⟨B,S2,Fs2,R2,E.trans U,Y⟩
  |ct S2=>exact λB Q H2 Fs2 U R2=>⟨B,S2,Fs2,R2,E.trans U,Y⟩
  |bk S2=>cases Y;exact λB Q H2 Fs2 U R2=>h _ _ _ _ ((t1.sf.trans E).trans U) R2
  |rt a=>cases Y;exact h
 .rintro t X ⟨s,L,u,M,E,I⟩;rw[←g2.1,cO]at I;cases I;exact h _ _ _ _ (t1.sf.trans E) M
def O2{H₀ s Hf1 Y:Hp}{R:AS}{σ:St}{Fs1:List Δ}{o:Qd}{D:zu}{lo:Int}{n:Nat}(hb:SS K tb body)(R1:oI K H₀ s Hf1 R σ Y Fs1)(e:qN x body (oK lo n) R=some o)(h:Fl K H₀ s Hf1 D o) :
  ∃W:Nat->Nat->St->Hp->Prop,(∃m,W 0 m σ Y)/\∀i m σ H,W i m σ H ->
   ((Vv lo n).stop i H/\D.nx σ H)∨((Vv lo n).go i H/\∃N:St->Hp->Prop,(∀t u,N t u->∃m',m'<m/\W (i+1) m' t u)/\∀v u,(Vv lo n).yld i H v u->qP x v σ u λz M=>tb { D with nx:=N,ct:=N,bk:=D.nx } z M):=by
 refine NO (λi t u=>∃B O G,oI K H₀ s B O t u G/\ox Hf1 B/\qN x body ((oK lo n).drop i) O=some o) ⟨Hf1,R,Fs1,R1,.refl _,e⟩ ?_ ?_
 .rintro i t u hi ⟨B,O,G,S,J,I⟩;have U:i<(oK lo n).length:=by unfold oK;rw[lMq,aO];exact hi
  rw[aG U]at I;have X:(oK lo n)[i] = .int (lo+i):=by simp[oK]
  rw[X]at I;obtain⟨ob,e3,P⟩:=oBq.mp I;refine hb (S.setD x .int) e3 _ ?_;cases ob with
  |nx Q=>exact λE z M Fs2 L R2=>⟨E,Q,Fs2,R2,J.trans L,P⟩
  |ct Q=>exact λE z M Fs2 L R2=>⟨E,Q,Fs2,R2,J.trans L,P⟩
  |bk Q=>cases P;exact λE z M Fs2 L R2=>h _ _ _ _ (J.trans L) R2
  |rt a=>cases P;exact h
 .rintro t u ⟨B,O,G,S,J,I⟩;have hl:(oK lo n).length=n:=by unfold oK;rw[lMq,aO]
  rw[cM (dD hl)]at I;cases I;exact h _ _ _ _ J S
def HW{u:TA}{a:ML}(ha:Rm K u a)(hb:SS K tb body):SS K (O3 (Tr u) (qP x) tb) (DW x a body):=by
 intro H₀ t Hf S σ H Q o R e D h;obtain⟨z,G,e⟩:=oBq.mp e;obtain⟨U,s,e⟩:=oBq.mp e;refine ha R (ds:=z.1) (S':=z.2) G _ λI X Fs1 Y J L B=>?_
 unfold CQ at s;split at s
 .rename_i j M;rcases nU s with⟨E,s⟩|s
  .skip
   cases s;rw[M]at B;obtain⟨v,ws,rfl,O,P⟩:=B.cons_inv;rw[P.nil_inv];cases O;exact⟨j,rfl,E.1,E.2,O2 hb L e (h.mono J.sf)⟩
  .cases s
 .cases s
def V9(hk:SK K te k)(hb:SS K tb body):SS K (O3 (WL K (tp te vd)) (LS K 2 (xW (qP x) (xW (qP y) Lm))) tb) (DZ x y k body):=by
 intro H₀ G Hf S σ H Fs o R e D h;obtain⟨z,e1,e⟩:=oBq.mp e;obtain⟨ds,e2,e⟩:=oBq.mp e;have hk':SK K te (rE k):=SK.frz hk;refine hk' R (a:=z.1) (S':=z.2) e1 _ λJ H1 Fs1 v F t1 R1 r1 o1=>?_
 obtain⟨d,hd⟩:=wJ (te:=te) e1;rw[hd]at r1;rw[hd,pT]at e2;obtain⟨a,vs,rfl,g1,g2⟩:=wN e2 r1.sh_inv.2;refine⟨a,rfl,⟨vs,R1.sub.seq g1⟩,RH (xs:=vs) (λi t X=>∃s L u,oI K H₀ G s L t X u/\ox J s/\zZ x y body i (ds.drop i) L=some o) ⟨J,z.2,Fs1,R1,.refl _,e⟩
  (λi t X _ ⟨s,L,u,M,E,_⟩=>M.sub.seq (E.seq g1)) ?_ ?_⟩
 .rintro i w t X T hw ⟨s,L,u,M,E,I⟩ hT;obtain⟨di,O,rw'⟩:=g2.get' hw;have hlt:i<ds.length:=(gSq.mp O).1;rw[aG hlt]at I;have P:ds[i]=di:=(gSq.mp O).2;rw[P]at I;obtain⟨ob,e3,Y⟩:=oBq.mp I;have R2:=(M.new (o:=.tup [.int i,w]) hT).2.1;refine hb ((R2.setD x .int).setD y (rw'.mono E)) e3 _ ?_;cases ob with
  |nx S2=>exact λB Q H2 Fs2 U R2=>⟨B,S2,Fs2,R2,E.trans U,Y⟩
  |ct S2=>exact λB Q H2 Fs2 U R2=>⟨B,S2,Fs2,R2,E.trans U,Y⟩
  |bk S2=>cases Y;exact λB Q H2 Fs2 U R2=>h _ _ _ _ ((t1.sf.trans E).trans U) R2
  |rt a=>cases Y;exact h
 .rintro t X ⟨s,L,u,M,E,I⟩;rw[←g2.1,cO]at I;cases I;exact h _ _ _ _ (t1.sf.trans E) M
def VM(hk:SK K te k)(hl:SK K tf l)(hb:SS K tb body):SS K (O3 (aaw K (tp te (tp tf vd))) (LS K 2 (xW (qP x) (xW (qP y) Lm))) tb) (Su x y k l body):=by
 intro H₀ I Hf S σ H Fs o R e D h;obtain⟨z,e1,e⟩:=oBq.mp e;obtain⟨w,O,e⟩:=oBq.mp e;obtain⟨ds,e2,e⟩:=oBq.mp e;obtain⟨es,P,e⟩:=oBq.mp e;split at e
 .rename_i Q;have hk':SK K te (rE k):=SK.frz hk;have hl':SK K tf (rE l):=SK.frz hl;refine hk' R (a:=z.1) (S':=z.2) e1 _ λHf1 H1 Fs1 v F t1 R1 r1 o1=>hl' R1 (a:=w.1) (S':=w.2) O _ λs H2 Fs2 v2 F2 t2 R2 r2 o2=>?_
  obtain⟨d,hd⟩:=wJ (te:=te) e1;obtain⟨d2,U⟩:=wJ (te:=te) O;rw[hd]at r1;rw[hd,pT]at e2;rw[U]at r2;rw[U,pT]at P;obtain⟨a,X,rfl,g1,g2⟩:=wN e2 (r1.sh_inv.2.mono t2.sf);obtain⟨b,ws,rfl,g3,g4⟩:=wN P r2.sh_inv.2;refine⟨a,b,rfl,⟨X,R2.sub.seq g1⟩,⟨ws,R2.sub.seq g3⟩,U3 (xs:=X) (ys:=ws) (λi E H'=>∃t J G,oI K H₀ I t J E H' G/\ox s t/\Ab x y body (ds.drop i) (es.drop i) J=some o) ⟨s,w.2,Fs2,R2,.refl _,e⟩ (by rw[←g2.1,←g4.1,Q])
   (λi E H' _ ⟨t,J,G,L,B,_⟩=>⟨L.sub.seq (B.seq g1),L.sub.seq (B.seq g3)⟩) ?_ ?_⟩
  .rintro i u u' E H' T hu hu' ⟨t,J,G,L,B,M⟩ hT;obtain⟨di,Y,rw'⟩:=g2.get' hu;obtain⟨ei,hei,rw2⟩:=g4.get' hu';have hlt:i<ds.length:=(gSq.mp Y).1;have hlt2:i<es.length:=(gSq.mp hei).1;rw[aG hlt,aG hlt2,(gSq.mp Y).2,(gSq.mp hei).2]at M;obtain⟨ob,e3,e4⟩:=oBq.mp M;have R3:=(L.new (o:=.tup [u,u']) hT).2.1;refine hb ((R3.setD x (rw'.mono B)).setD y (rw2.mono B)) e3 _ ?_;cases ob with
   |nx S2=>exact λs σ2 H2 Fs2 s2 R2=>⟨s,S2,Fs2,R2,B.trans s2,e4⟩
   |ct S2=>exact λs σ2 H2 Fs2 s2 R2=>⟨s,S2,Fs2,R2,B.trans s2,e4⟩
   |bk S2=>cases e4;exact λs σ2 H2 Fs2 s2 R2=>h _ _ _ _ (((t1.sf.trans t2.sf).trans B).trans s2) R2
   |rt a=>cases e4;exact h
  .rintro E H' ⟨t,J,G,L,B,M⟩;have e0:ds.drop X.length=[]:=by rw[←g2.1,cO]
   rw[e0]at M;have e0':Ab x y body [] (es.drop X.length) J=some (.nx J):=by
    cases es.drop X.length <;> rfl
   rw[e0']at M;cases M;exact h _ _ _ _ ((t1.sf.trans t2.sf).trans B) L
 .cases e
def Qu{c:TT}{m:MT}(n:Nat)(hc:EU K c m)(hb:SS K tb body):SS K (SX c tb) (rX m body n):=by
 intro H₀ t Hf S σ H Fs o R e D h;refine⟨λn I Y=>∃s G B,oI K H₀ t s G I Y B/\ox Hf s/\rX m body n G=some o,⟨n,Hf,S,Fs,R,.refl _,e⟩,?_⟩
 rintro n I Y ⟨s,G,B,R',M,e'⟩;cases n with
 |zero=>cases e'
 |succ n=>
  obtain⟨z,e1,X⟩:=oBq.mp e';refine hc R' (b:=z.1) (S':=z.2) e1 _ λHf1 H1 Fs1 O R1=>?_
  split at X
  .rename_i P;rw[P];refine IP ⟨λu J=>∃s G B,oI K H₀ t s G u J B/\ox Hf s/\rX m body n G=some o,λu J w=>⟨n,cL n,w⟩,?_⟩
   obtain⟨ob,e3,Q⟩:=oBq.mp X;refine hb R1 e3 _ ?_;cases ob with
   |nx U=>exact λE u J Fs2 L R2=>⟨E,U,Fs2,R2,(M.trans O.sf).trans L,Q⟩
   |ct U=>exact λE u J Fs2 L R2=>⟨E,U,Fs2,R2,(M.trans O.sf).trans L,Q⟩
   |bk U=>cases Q;exact λE u J Fs2 L R2=>h _ _ _ _ ((M.trans O.sf).trans L) R2
   |rt a=>cases Q;exact h
  .rename_i P;rw[df]at P;rw[P];cases X;exact Il (h _ _ _ _ (M.trans O.sf) R1)
end
def oX(s n:Nat)(m:MS):MF:=λds=>if ds.length=s then (m (ds.map (λd=>some (.sh d))++az (n-ds.length) none)).bind λo=>match o with
  | .rt a=>some a
  | .nx _=>some (.sh .non)
  |_=>none
 else none
def NZ{K:Ζ}{Hf H:Hp}{ds:List D}{vs:List V}(N:List Str)(s:ox Hf H)(r:oA K Hf ds vs) :
  oI K H Hf Hf (ds.map (λd=>some (.sh d))++az (N.length-ds.length) none) (L2.start N vs) H (az (ds.length+(N.length-ds.length)) []):=by
 have fl:=uN (ds.length+(N.length-ds.length));refine⟨by simp[L2.start,r.1],by simp,λi G e=>?_,λi e=>?_,by rw[fl];exact bp,λp t=>(by rw[fl]at t;cases t),s,ox.refl _,λb h _=>h,ox.refl _⟩
 .by_cases hi:i<ds.length
  .rw[gZq (by simpa using hi),gMq]at e
   obtain⟨d,u,x⟩:=oMq.mp e;cases x;obtain⟨v,z,B⟩:=r.get u;refine⟨v,[],?_,?_,.sh B⟩
   .unfold L2.start;rw[gZq (by simpa[←r.1]using hi),gMq,z]
    rfl
   .rw[cf,oa (by lia)]
  .rw[gYq (by simpa using hi)]at e
   have:=mGq e;rw[cB this]at e;have E:=cB this;cases E
 .rw[cf];have hi:=(gSq.mp e).1;rw[lAq,lMq,bF]at hi;rw[oa hi]
def DF{K:Ζ}{t:TS}{m:MS}{I:Nat}(N:List Str)(h:SS K t m){vs:List V}{H:Hp}{Q:VK}{E:XK}(J:oR K (oX I N.length m) vs H Q E):t { nx:=λ_ x=>Q .non x,rt:=Q } (L2.start N vs) H:=by
 obtain⟨Hf,U,a,s,r,e,q⟩:=J;unfold oX at e;split at e
 .obtain⟨o,L,z⟩:=oBq.mp e;refine h (NZ N s r) L _ ?_;cases o with
  |rt X=>
   cases z;exact λu x v F B M O l r nd fr=>q u x v F B M O l r nd fr
  |nx G=>
   cases z;exact λu P x S B R=>q u x .non [] R.sf R.fr R.sub R.lim (.sh .non) bp λq h=>(by cases h)
  |bk G=>cases z
  |ct G=>cases z
 .cases e
def K6{K:Ζ}{m:MS}{t n:Nat}{vs:List V}{H:Hp}{Q:VK}{E:XK}(u:oR K (oX t n m) vs H Q E):vs.length=t:=by
 obtain⟨Hf,x,a,s,r,e,q⟩:=u;unfold oX at e;split at e
 .rename_i h;rw[←r.1,h]
 .cases e
def fzAll:Θ->AS->Option AS
 | [],S=>some S
 |j::js,S=>(S[j]?.join).bind λa=>fzAll js (S.set j (some (.sh (nK a))))
def Xr:Option AV->Option AV
 |some (.sh d)=>some (.sh d)
 |_=>none
def GG(S:AS):Θ->Option AS
 | []=>some []
 |j::js=>(Xr S[j]?.join).bind λa=>(GG S js).map (some a :: ·)
noncomputable def oy(tf:MT)(te:MK)(cap:AS):List D->Option (List AV)
 | []=>some []
 |d::ds=>(tf (some (.sh d)::cap)).bind λb=>if b.1=true then (te b.2).bind λa=>(oy tf te cap ds).map (a.1 :: ·)else oy tf te cap ds
abbrev MI:=AS->Option (List D×AS)
def uG(k:MK):MI:=λS=>(rE k S).bind λy=>(qX (nK y.1)).map λds=>(ds,y.2)
def iR1(a:ML):MI:=λS=>(a S).bind λy=>(CQ y.1).map λds=>(ds,y.2)
def pJ(s:MI)(fr:Θ)(tf:MT)(te:MK):MK:=λS=>(s S).bind λy=>(fzAll fr y.2).bind λu=>(GG u fr).bind λcap=>uJ (y.1.length<=pe) ((oy tf te cap y.1).map λt=>(.ow t,u))
noncomputable def oH:MT:=λS=>some (true,S)
section
variable {K:Ζ}{H₀ Hf₀ Hf Hf' H H':Hp}{S S':AS}{σ:St}{Fs Fs':List Δ}
def oI.fz(R:oI K H₀ Hf₀ Hf S σ H Fs){j:Nat}{a:AV}(e:S[j]?.join=some a):∃Hf' Fs',yd Hf H Fs Hf' H Fs'/\oI K H₀ Hf₀ Hf' (S.set j (some (.sh (nK a)))) σ H Fs':=by
 obtain⟨v,F,t,u,r,nd,o,x⟩:=R.move (oG e);have n:∀q∈F,Hf q=none:=λq s=>(r.owned q s).2
 have R2:=x.frz o n;have z:=r.frozen (pU (H:=H) n) λq s=>vU s
 have B:=R2.again (F:=F) (G:=[]) t (.sh z) bp λq h=>(by cases h)
 refine⟨_,_,⟨pU n,.refl _,λp E=>pV E,λb h g=>?_⟩,B⟩
 by_cases m:b∈F
 .exact .inr (mFq.mpr ⟨F,mGq u,m⟩)
 .rw[qf m]at g;exact absurd h g
theorem oI.fzAll:∀{fr:Θ}{Hf:Hp}{S S':AS}{Fs:List Δ},oI K H₀ Hf₀ Hf S σ H Fs->fzAll fr S=some S'->∃Hf' Fs',yd Hf H Fs Hf' H Fs'/\oI K H₀ Hf₀ Hf' S' σ H Fs'
 | [],Hf,S,S',Fs,R,e=>by
  cases e;exact⟨Hf,Fs,.refl,R⟩
 |j::js,Hf,S,S',Fs,R,e=>by
  obtain⟨a,t,u⟩:=oBq.mp e;obtain⟨x,Fs1,z,B⟩:=R.fz t;obtain⟨s,Fs2,E,R2⟩:=oI.fzAll B u;exact⟨s,Fs2,z.trans E,R2⟩
theorem JV(R:oI K H₀ Hf₀ Hf S σ H Fs):∀{fr:Θ}{cap:AS},GG S fr=some cap->cap.length=fr.length/\∀(k:Nat) (a:AV),cap[k]?=some (some a)->∃d v,a = .sh d/\(slots σ fr)[k]?=some (some v)/\pM K Hf d v
 | [],cap,e=>by
  cases e;exact⟨rfl,λk a h=>by simp at h⟩
 |j::js,cap,e=>by
  obtain⟨a,s,x⟩:=oBq.mp e;obtain⟨u,z,B⟩:=oMq.mp x;subst B;obtain⟨E,G⟩:=JV R z;refine⟨by simp[E],λk b hk=>?_⟩
  cases k with
  |zero=>
   cases hk;cases t:S[j]?.join with
   |none=>rw[t]at s;cases s
   |some c=>
    rw[t]at s;cases c with
    |sh d=>
     cases s;obtain⟨v,F,I,J,r⟩:=R.rep j _ (oG t);refine⟨d,v,rfl,?_,r.sh_inv.2⟩;show some ((σ[j]?).join)=_;rw[I];rfl
    |_=>cases s
  |succ k=>exact G k b (by simpa using hk)
def On(R:oI K H₀ Hf₀ Hf S σ H Fs){fr:Θ}{cap:AS}(e:GG S fr=some cap){d:D}{x:V}(u:pM K Hf d x) :
  oI K H₀ Hf₀ Hf (some (.sh d)::cap) (some x::slots σ fr) H (az (cap.length+1) []):=by
 obtain⟨z,B⟩:=JV R e;have fl:=uN (cap.length+1);refine⟨by simp[slots,z],by simp,λi E s=>?_,λi s=>?_,by rw[fl];exact bp,λp t=>(by rw[fl]at t;cases t),R.sub,R.fr,R.lim,R.sf⟩
 .cases i with
  |zero=>
   cases s;exact⟨x,[],rfl,by simp,.sh u⟩
  |succ k=>
   have hk:k<cap.length:=(gSq.mp (by simpa using s)).1
   obtain⟨I,v,rfl,G,r⟩:=B k E (by simpa using s)
   exact⟨v,[],by simpa using G,by rw[cf,oa (by lia)],.sh r⟩
 .rw[cf];have hi:=(gSq.mp s).1;rw[oa (by simpa using hi)]
def oI.updOut(R:oI K H₀ Hf₀ Hf S σ H Fs){p:Addr}{o:HO}(s:p∉Fs.flatten)(t:Hf p=none)(x:H₀ p=none):oI K H₀ Hf₀ Hf S σ (om H p o) Fs where
 len:=R.len
 lenF:=R.lenF
 rep:=λi B e=>by
  obtain⟨v,F,s1,s2,r⟩:=R.rep i B e;exact⟨v,F,s1,s2,r.keepUpd λm=>s (oU s2 m)⟩
 emp:=R.emp
 nd:=R.nd
 fresh:=R.fresh
 sub:=λb u e=>by
  rw[nC λz=>by rw[z,t]at e;cases e]
  exact R.sub b u e
 fr:=λb u e=>by
  rw[nC λz=>by rw[z,x]at e;cases e]
  exact R.fr b u e
 lim:=R.lim
 sf:=R.sf
def oI.outer{B:St}{Fs2 u:List Δ}{s x:Hp}{L:AS}(R:oI K H₀ Hf₀ Hf S σ H Fs)(I:oI K H₀ Hf₀ s L B x u)(t:yd Hf H Fs2 s x u)(M:Fs2.flatten=[]):yd Hf H Fs s x Fs/\oI K H₀ Hf₀ s S σ x Fs:=by
 have g:∀b,Hf b=none->H b≠none->s b=none:=λb E G=>by
  by_cases e:s b=none
  .exact e
  .rcases t.gr b E e with z|z
   .exact absurd z G
   .rw[M]at z;cases z
 exact⟨⟨t.sf,t.sh,λ_ h=>h,λb E G=>.inl (by
  by_cases e:H b=none
  .exact e
  .exact absurd (g b E e) G)⟩,R.more t.sh t.sf I.sub (λq J=>g q (R.mem J).2 (R.mem J).1) I.lim⟩
end
section
variable {K:Ζ}{tf:TT}{te:TE}{mf:MT}{me:MK}{fr:Θ}
def Ox{H₀ u Hf1 M Hf H:Hp}{S1 Si:AS}{σ O:St}{Fs1 Gs:List Δ}{s:Addr}{as Y rest:List AV}{vs:List V}{nn i:Nat}{nx:Option (List AV)}{N:Hp->Prop}(hf:EU K tf mf)(he:SK K te me)
  (R:oI K H₀ u Hf S1 σ H Fs1) (t:yd Hf1 M Fs1 Hf H Fs1) (ha:H s=some (.lst vs)) (hfa:Hf s=none) (ra:oz K Hf H as vs Gs) (ow:wZ H₀ M Fs1 Fs1 (s::Gs.flatten)) (la:as.length<=i) (hlm:as.length<pe) (ea:Y=as++rest)
  (Ri:oI K H₀ u Hf Si O H (az nn [])) (er:((mf Si).bind λb=>if b.1=true then (me b.2).bind λa=>nx.map (a.1 :: ·)else nx)=some rest) (hacc:M s=none) (n2:H₀ s=none) (n3:s∉Fs1.flatten)
  (hN:∀{Hf H:Hp}{as:List AV}{vs:List V}{Gs:List Δ}{rest:List AV},oI K H₀ u Hf S1 σ H Fs1->yd Hf1 M Fs1 Hf H Fs1->H s=some (.lst vs)->Hf s=none->oz K Hf H as vs Gs->wZ H₀ M Fs1 Fs1 (s::Gs.flatten)->as.length<=i+1->nx=some rest->Y=as++rest->N H) :
  tf O H λb H2=>if b=true then te O H2 λy H3=>∃ys,H3 s=some (.lst ys)/\ys.length<jo/\N (om H3 s (.lst (ys++[y])))else N H2:=by
 obtain⟨b,e1,e2⟩:=oBq.mp er;have fl:=uN nn;refine hf Ri (b:=b.1) (S':=b.2) e1 _ λHf2 H2 Fs2 t2 R2=>?_
 obtain⟨G,P⟩:=R.outer R2 t2 fl;have B:H2 s=some (.lst vs):=t2.sh _ _ ha;have I:Hf2 s=none:=by
  by_cases z:Hf2 s=none
  .exact z
  .rcases t2.gr s hfa z with z|z
   .rw[ha]at z;cases z
   .rw[fl]at z;cases z
 have Q:=ra.stp (λq E=>ow.out q (mCo _ E)) G
 split at e2
 .rename_i hb;rw[hb];refine IP ?_;obtain⟨a,e3,e4⟩:=oBq.mp e2;obtain⟨S,e5,e6⟩:=oMq.mp e4;subst e6;refine he R2 (a:=a.1) (S':=a.2) e3 _ λU H3 Fs3 v F t3 R3 r3 o3=>?_
  have X:Fs2.flatten=[]:=by
   cases hz:Fs2.flatten with
   |nil=>rfl
   |cons z zs=>
    have:=t2.own z (by rw[hz];simp)
    rw[fl]at this;cases this
  obtain⟨t3',R3'⟩:=P.outer R3 t3 X;have ha3:H3 s=some (.lst vs):=t3.sh _ _ B;have J:U s=none:=by
   by_cases z:U s=none
   .exact z
   .rcases t3.gr s I z with z|z
    .rw[B]at z;cases z
    .rw[X]at z;cases z
  have ra3:=Q.stp (λq E=>ow.out q (mCo _ E)) t3'
  have x:∀q∈F,H2 q=none:=λq E=>(o3.new q E).elim id λz=>by rw[X]at z;cases z
  have L:s∉F:=λm=>by rw[x s m]at B;cases B
  have accG:s∉Gs.flatten:=(aw.mp ow.nd).1;have tt:=(t.trans G).trans t3';refine⟨vs,ha3,?_,?_⟩
  .rw[rB,←ra.1];lia
  .refine hN (Hf:=U) (as:=as++[a.1]) (vs:=vs++[v]) (Gs:=Gs++[F]) (rest:=S) (R3'.updOut n3 J n2) ⟨tt.sf,λb o eb=>?_,λ_ h=>h,tt.gr⟩ nG J ((ra3.keepUpd accG).snoc (r3.keepUpd L)) ?_ (by rw[lAq,lSq];lia) e5 (by rw[ea];simp)
   .rw[nC λz=>by rw[z,hacc]at eb;cases eb]
    exact tt.sh b o eb
   .rw[fAq,dr];have oF:wZ H₀ M Fs1 Fs1 F:=⟨o3.nd,o3.fr,λq E m=>(P.mem m).1 (x q E),λq E=>.inl ((t.trans G).sh.free (x q E))⟩
    refine(show wZ H₀ M Fs1 Fs1 ((s::Gs.flatten)++F)from ow.app oF λq E m=>?_)
    rcases ag.mp E with z|z
    .rw[z]at m;exact L m
    .exact(Q.owned q z).1 (x q m)
 .rename_i hb;rw[df]at hb;rw[hb];exact Il (hN P (t.trans G) B I Q ow (by lia) e2 ea)
def wW{H₀ z Hf1 I:Hp}{O:AS}{σ:St}{Fs1:List Δ}{cap:AS}{ds:List D}{E:List AV}{J:It}{Q:VK}(hf:EU K tf mf)(he:SK K te me)
  (R1:oI K H₀ z Hf1 O σ I Fs1) (ec:GG O fr=some cap) (hl:ds.length<=pe) (e:oy mf me cap ds=some E)
  (X:∀i H,ox Hf1 H->i<ds.length->J.go i H) (Y:∀H,ox Hf1 H->J.stop ds.length H) (hy:∀i H x u,ox Hf1 H->i<ds.length->J.yld i H x u->u=H/\∃d,ds[i]?=some d/\pM K Hf1 d x)
  (q:∀L u v F,yd Hf1 I Fs1 L u Fs1->oI K H₀ z L O σ u Fs1->ou K L u (.ow E) v F->wZ H₀ I Fs1 Fs1 F->Q v u) :
  ∀s,I s=none->∃W:Nat->Nat->Hp->Prop,(∃m,W 0 m (om I s (.lst [])))/\∀i m H,W i m H ->
   (J.stop i H/\Q (.ref s) H) ∨
   (J.go i H/\∃N:Hp->Prop,(∀u,N u->∃m',m'<m/\W (i+1) m' u)/\∀x u,J.yld i H x u->tf (some x::slots σ fr) u λb H2=>
    if b=true then te (some x::slots σ fr) H2 λy H3=>∃ys,H3 s=some (.lst ys)/\ys.length<jo/\N (om H3 s (.lst (ys++[y])))else N H2):=by
 intro s B;obtain⟨t0,R0,n1,n2,n3⟩:=R1.new (o:=.lst []) B
 let P:Nat->Hp->Prop:=λi H=>∃Hf S vs Gs rest,oI K H₀ z Hf O σ H Fs1/\yd Hf1 I Fs1 Hf H Fs1/\H s=some (.lst vs)/\Hf s=none/\oz K Hf H S vs Gs/\wZ H₀ I Fs1 Fs1 (s::Gs.flatten)/\S.length<=i /\
  oy mf me cap (ds.drop i)=some rest/\E=S++rest
 refine⟨λi m H=>m=ds.length-i/\i<=ds.length/\P i H,⟨ds.length,by simp,aJ _,Hf1,[],[],[],E,R0,t0,nG,n1,.nil,wZ.one R1 B,aJ _,e,rfl⟩,?_⟩
 rintro i m H ⟨rfl,hi,Hf,S,vs,Gs,rest,R,t,ha,M,ra,ow,la,U,ea⟩;have hs:ox Hf1 H:=t.sf.trans R.sub
 by_cases G:i<ds.length
 .refine .inr ⟨X i H hs G,P (i+1),λu p=>⟨ds.length-(i+1),by lia,rfl,G,p⟩,λx u y=>?_⟩
  obtain⟨rfl,d,hd,rx⟩:=hy i H x u hs G y;rw[aG G,(gSq.mp hd).2]at U;exact Ox hf he R t ha M ra ow la (by lia) ea (On R ec (rx.mono t.sf)) U B n2 n3 λa b c d e f g h i=>⟨_,_,_,_,_,a,b,c,d,e,f,g,h,i⟩
 .have e0:i=ds.length:=by lia
  subst e0;rw[cO]at U;cases U;rw[aNq]at ea;subst ea;exact .inl ⟨Y H hs,q Hf H (.ref s) _ t R (ou.news ha M ra) ow⟩
def yi{E:TE}{k:MK}(hk:SK K E k)(X:EU K tf mf)(Y:SK K te me):SK K (D8 (Sg K E) fr tf te) (pJ (uG k) fr mf me):=by
 intro H₀ I Hf S σ H Fs av S' R e Q q;obtain⟨y,u,e⟩:=oBq.mp e;obtain⟨z,M,u⟩:=oBq.mp u;obtain⟨ds,O,u⟩:=oMq.mp u;subst u;obtain⟨S2,e3,e⟩:=oBq.mp e;obtain⟨cap,e4,e⟩:=oBq.mp e;rcases nU e with⟨hl,e⟩|e
 .obtain⟨avs,e5,e⟩:=oMq.mp e;cases e;have J:SK K E (rE k):=SK.frz hk;refine J R (a:=z.1) (S':=z.2) M _ λHf1 H1 Fs1 v F P R1 U o1=>?_
  obtain⟨d,hd⟩:=wJ (te:=E) M;rw[hd]at U;rw[hd,pT]at O;obtain⟨Hf2,Fs2,L,R2⟩:=R1.fzAll e3;obtain⟨a,B,rfl,G,g2⟩:=wN O (U.sh_inv.2.mono L.sf);refine⟨a,rfl,⟨B,R2.sub.seq G⟩,wW (K:=K) X Y R2 e4 hl e5 (λi H s hi=>⟨B,B[i]'(g2.1 ▸ hi),s.seq G,gEg (g2.1 ▸ hi)⟩) (λH s=>⟨B,s.seq G,dD g2.1.symm⟩) (λi H x H' s hi y=>?_) λHf' H' v F t R' r o=>q _ _ _ v F ((P.trans L).trans t) R' r (o.back (P.trans L))⟩
  obtain⟨y1,y2⟩:=y;obtain⟨di,h1,h2⟩:=g2.get' (y2 B (s.seq G));exact⟨y1,di,h1,h2⟩
 .cases e
def vj{lo:Int}{n i:Nat}(h:i<n):(oK lo n)[i]?=some (.int (lo+i)):=by
 unfold oK;rw[gMq,dg h];rfl
def oT(lo:Int)(n:Nat):(oK lo n).length=n:=by unfold oK;rw[lMq,aO]
def OJ{G:TA}{a:ML}(ha:Rm K G a)(O:EU K tf mf)(P:SK K te me):SK K (D8 (Tr G) fr tf te) (pJ (iR1 a) fr mf me):=by
 intro H₀ E Hf S σ H Fs av S' R e Q q;obtain⟨y,B,e⟩:=oBq.mp e;obtain⟨z,U,B⟩:=oBq.mp B;obtain⟨ds,u,B⟩:=oMq.mp B;subst B;obtain⟨S2,X,e⟩:=oBq.mp e;obtain⟨Y,e4,e⟩:=oBq.mp e;rcases nU e with⟨hl,e⟩|e
 .obtain⟨avs,e5,e⟩:=oMq.mp e;cases e;refine ha R (ds:=z.1) (S':=z.2) U _ λHf1 H1 Fs1 vs I R1 J=>?_
  unfold CQ at u;split at u
  .rename_i j hz;rcases nU u with⟨L,u⟩|u
   .skip
    cases u;rw[hz]at J;obtain⟨v,ws,rfl,h1,h2⟩:=J.cons_inv;rw[h2.nil_inv];cases h1;obtain⟨Hf2,Fs2,M,R2⟩:=R1.fzAll X;refine⟨j,rfl,L.1,L.2,wW (K:=K) O P R2 e4 hl e5 (λi H s hi=>(by rw[oT]at hi;exact hi)) (λH s=>(by rw[oT];exact aa _)) (λi H x H' s hi y=>?_) λHf' H' v F t R' r o=>q _ _ _ v F ((I.trans M).trans t) R' r (o.back (I.trans M))⟩
    obtain⟨y1,y2⟩:=y;rw[oT]at hi;exact⟨y1,_,vj hi,by rw[y2];exact .int⟩
   .cases u
  .cases u
 .cases e
def B0:EU K aay oH:=by
 intro H₀ s Hf S σ H t b u R e Q q;cases e;exact q _ _ _ .refl R
end
mutual
def py:D->Option PyData
 | .non=>some .none
 | .bl b=>some (.bool b)
 | .int i=>some (.int i)
 | .str x=>some (.str x)
 | .list ds=>(Ij ds).map .list
 | .tup ds=>(Ij ds).map .tuple
 |_=>none
def Ij:List D->Option (List PyData)
 | []=>some []
 |d::ds=>(py d).bind λx=>(Ij ds).map (x :: ·)
end
section
variable {X:Cx}
theorem yU{h:Heap}:∀{ds:List D}{vs:List V}{s:Ξ}{xs:List PyData},(∀(i:Nat) (d:D) (v:V),ds[i]?=some d->vs[i]?=some v->∀u x,oC v u->py d=some x->∃as,Reads h u x as)->ds.length=vs.length->ot vs s->Ij ds=some xs->∃as,ReadsAll h s xs as
 | [],vs,s,xs,_,hl,z,e=>by
  have:vs=[]:=aZ.mp hl.symm;subst this;cases z;simp only[Ij]at e;cases e;exact⟨_,.nil⟩
 |d::ds,vs,s,xs,ih,hl,z,e=>by
  cases vs with
  |nil=>simp at hl
  |cons v vs=>
   cases z with
   |cons r t=>
    simp only[Ij]at e;obtain⟨x,B,E⟩:=oBq.mp e;obtain⟨Q,G,H⟩:=oMq.mp E;subst H;obtain⟨as,I⟩:=ih 0 d v rfl rfl _ x r B;obtain⟨bs,J⟩:=yU (λi L M O P=>ih (i+1) L M (by simpa using O) (by simpa using P)) (by simpa using hl) t G
    exact⟨_,.cons I J⟩
def AQ{Q:Φ}{σ:St}{H:Hp}{s:Shared}(I:Inv X Q σ H s){d:D}{v:V}(r:pM X.K H d v):∀(u:Value) (x:PyData),oC v u->py d=some x->∃as,Reads s.heap u x as:=by
 induction r with
 |non=>intro u x z e;cases z;simp only[py]at e;cases e;exact⟨_,.none⟩
 |bl=>intro u x z e;cases z;simp only[py]at e;cases e;exact⟨_,.bool _⟩
 |int=>intro u x z e;obtain⟨t,rfl⟩:=z;simp only[py]at e;cases e;exact⟨_,.int _ _⟩
 |str=>intro u x z e;obtain⟨t,rfl⟩:=z;simp only[py]at e;cases e;exact⟨_,.str _ _⟩
 |ty=>intro u x z e;simp only[py]at e;cases e
 |list h l _ B=>
  intro u x z e;cases z;simp only[py]at e;obtain⟨R,E,rfl⟩:=oMq.mp e;obtain⟨G,J,hl,S⟩:=I.list (qh.of h);obtain⟨o,L,M,n,hd⟩:=hl.isList;obtain⟨as,O⟩:=yU B l J E;exact⟨_,Reads.list L M hd (by simpa using O)⟩
 |tup h l _ B=>
  intro u x z e;cases z;simp only[py]at e;obtain⟨R,E,rfl⟩:=oMq.mp e;obtain⟨G,J,⟨o,L,M,n,hd⟩,S⟩:=I.tuple (BZ.of h);obtain⟨as,O⟩:=yU B l J E;exact⟨_,Reads.tuple L M hd (by simpa using O)⟩
 |dict h l _ B=>intro u x z e;simp only[py]at e;cases e
 |fd h l _ B=>intro u x z e;simp only[py]at e;cases e
 |scr h=>intro u x z e;simp only[py]at e;cases e
 |exc P U h Y=>intro u x z e;simp only[py]at e;cases e
 |exc0 P h=>intro u x z e;simp only[py]at e;cases e
 |cls h=>intro u x z e;simp only[py]at e;cases e
 |ins P h l _ B=>intro u x z e;simp only[py]at e;cases e
def UM(K:Ζ)(neg:Bool):R2:=λx y H Q=>∃(d e:D) (a b:PyData),pM K H d x/\pM K H e y/\py d=some a/\py e=some b/\SeqAt.shaped a=true/\SeqAt.shaped b=true/\SeqAt.noMix a b=true /\
 Q (.bl (if neg then !(PySem.Spec.same a b)else PySem.Spec.same a b)) H
def Zb(t:X.A.units+64<jF):Dd X (jA .Eq) (UM X.K false):=by
 intro S s σ H x y v u Q I z B h;obtain⟨d,e,a,b,E,G,J,L,M,O,nm,q⟩:=h;obtain⟨U,P⟩:=AQ I E _ _ z J;obtain⟨bs,R⟩:=AQ I G _ _ B L;exact iN P R M O t nm (oE I q rfl)
def Yf(t:X.A.units+64<jF):Dd X (jA .NotEq) (UM X.K true):=by
 intro S s σ H x y v u Q I z B h;obtain⟨d,e,a,b,E,G,J,L,M,O,nm,q⟩:=h;obtain⟨U,P⟩:=AQ I E _ _ z J;obtain⟨bs,R⟩:=AQ I G _ _ B L;exact iO P R M O t nm (oE I q rfl)
end
def CN(d e:D):Option D:=(py d).bind λa=>(py e).bind λb=>if SeqAt.shaped a=true/\SeqAt.shaped b=true/\SeqAt.noMix a b=true then some (.bl (PySem.Spec.same a b))else none
def TN(d e:D):Option D:=(CN d e).bind Za
section
variable {K:Ζ}
def Yj:E8 K (UM K false) CN:=by
 intro x y H Q s t d u z e q;obtain⟨a,B,e⟩:=oBq.mp e;obtain⟨b,E,e⟩:=oBq.mp e;split at e
 .rename_i h;cases e;exact⟨s,t,a,b,u,z,B,E,h.1,h.2.1,h.2.2,q _ .bl⟩
 .cases e
def XR:E8 K (UM K true) TN:=by
 intro x y H Q s t d u z e q;obtain⟨c,e,B⟩:=oBq.mp e;obtain⟨a,E,e⟩:=oBq.mp e;obtain⟨b,G,e⟩:=oBq.mp e;split at e
 .rename_i h;cases e;cases B;exact⟨s,t,a,b,u,z,E,G,h.1,h.2.1,h.2.2,q _ .bl⟩
 .cases e
end
abbrev dI(ns:Ϝ):D:=.list (ns.map .int)
abbrev dM(rs:Λ):D:=.list (rs.map dI)
def Qo(ns:Ϝ):Ij (ns.map .int)=some (ns.map PyData.int):=by
 induction ns with
 |nil=>simp[Ij]
 |cons n ns s=>simp[Ij,py,s]
def Y6(ns:Ϝ):py (dI ns)=some (vq ns):=by
 show py (.list _)=_;simp only[py,Qo];rfl
def So(rs:Λ):Ij (rs.map dI)=some (rs.map vq):=by
 induction rs with
 |nil=>simp[Ij]
 |cons r rs s=>
  show Ij (dI r::rs.map dI)=_;simp only[Ij,Y6,s];rfl
def aaO(rs:Λ):py (dM rs)=some (A0 rs):=by
 show py (.list _)=_;simp only[py,So];rfl
def ES(r:Ϝ):SeqAt.shaped (vq r)=true:=by
 have t:=W.depthAll_ints r;have s:PyData.depth (vq r)<=64:=by simp only[vq,PyData.depth];lia
 show(PyData.canLay0 (vq r) && decide (PyData.depth (vq r)<=64))=true;rw[cu];exact⟨by simp only[vq,PyData.canLay0];exact W.canLayAll0_ints r,d0 s⟩
@[simp] theorem abQ (ns s:Ϝ):CN (dI ns) (dI s)=some (.bl (decide (ns=s))):=by
 unfold CN;rw[Y6,Y6];show(if _ then _ else _)=_
 rw[oa ⟨ES ns,ES s,by simp only[vq,SeqAt.noMix];exact W.noMix_ints ns s⟩]
 simp only[vq,PySem.Spec.same,W.same_ints]
@[simp] theorem abK (rs ts:Λ):CN (dM rs) (dM ts)=some (.bl (decide (rs=ts))):=by
 unfold CN;rw[aaO,aaO];show(if _ then _ else _)=_
 rw[oa ⟨CG rs,CG ts,by simp only[A0,SeqAt.noMix];exact Dw rs ts⟩]
 simp only[A0,PySem.Spec.same,Ga]
noncomputable def CI(l:ML):MK:=λS=>(l S).map λx=>(.ow (x.1.map .sh),x.2)
def B7(l:ML):MK:=λS=>(l S).bind λx=>(ql x.1).map λns=>(.ow ((pZ ns).map λn=>.sh (.int n)),x.2)
def xC:List D->Option Λ
 | []=>some []
 | .list ds::es=>(ql ds).bind λr=>(xC es).map (r :: ·)
 |_=>none
theorem BE:∀{ds:List D}{rs:Λ},xC ds=some rs->ds=rs.map dI
 | [],rs,h=>by cases h;rfl
 |d::ds,rs,h=>by
  cases d with
  |list s=>
   obtain⟨r,t,h⟩:=oBq.mp (show(ql s).bind (λr=>(xC ds).map (r :: ·))=some rs from h)
   obtain⟨z,u,x⟩:=oMq.mp h;subst x;rw[BE u,tS t];rfl
  |_=>cases h
@[simp] theorem L7 (rs:Λ):xC (rs.map dI)=some rs:=by
 induction rs with
 |nil=>rfl
 |cons r rs s=>
  show(ql (r.map .int)).bind (λr=>(xC (rs.map dI)).map (r :: ·))=_
  rw[tT,s];rfl
def LG(l:ML):MK:=λS=>(l S).bind λx=>(xC x.1).map λrs=>(.ow ((zH rs).map λr=>.sh (dI r)),x.2)
section
variable {K:Ζ}{te:TE}{l:ML}
def Hq(hl:SQ K te l):SK K (Om (λxs H Q=>∃p ys,xs=[.ref p]/\(qh K H p ys∨BZ K H p ys)/\∀l,H l=none->Q (.ref l) (om H l (.lst ys))) (tp te vd)) (CI l):=by
 intro H₀ t Hf S σ H U X Y R e Q q;obtain⟨x,E,e⟩:=oMq.mp e;cases e;refine hl R (ds:=x.1) (S':=x.2) E _ λG H1 Fs1 I s u z J L=>⟨I,s,rfl,.inl J,λp B=>?_⟩
 obtain⟨M,O,P,n2,n3⟩:=z.new (o:=.lst s) B;exact q _ _ _ (.ref p) [p] (u.trans M) O (ou.new nG P L) ((wZ.one z B).back u)
noncomputable def yB(ns:Ϝ):(ns.map λn=>AV.sh (.int n))=(ns.map D.int).map .sh:=by rw[mPq];rfl
def JA(rs:Λ):(rs.map λr=>AV.sh (dI r))=(rs.map dI).map .sh:=by rw[mPq];rfl
def IZ(hl:SQ K te l):SK K (Om (λxs H Q=>∃(a:Addr) (ns:Ϝ),xs=[.ref a]/\qh K H a (ns.map V.int)/\∀p,H p=none->Q (.ref p) (om H p (.lst ((pZ ns).map V.int)))) (tp te vd)) (B7 l):=by
 intro H₀ s Hf S σ H X Y S' R e Q q;obtain⟨x,G,e⟩:=oBq.mp e;obtain⟨ns,I,e⟩:=oMq.mp e;cases e;refine hl R (ds:=x.1) (S':=x.2) G _ λJ H1 Fs1 L M t u z B=>?_
 rw[tS I]at B;rw[qg B]at z;refine⟨L,ns,rfl,z,λp E=>?_⟩
 obtain⟨O,P,U,n2,n3⟩:=u.new (o:=.lst ((pZ ns).map V.int)) E;rw[yB]at q;exact q _ _ _ (.ref p) [p] (t.trans O) P (ou.new nG U (rj _)) ((wZ.one u E).back t)
theorem vV{H:Hp}:∀{rs:Λ}{vs:List V},oA K H (rs.map dI) vs->∃ps,vs=ps.map V.ref/\pN H ps rs
 | [],vs,h=>⟨[],h.nil_inv,.nil⟩
 |r::rs,vs,h=>by
  obtain⟨v,B,rfl,t,u⟩:=oA.cons_inv (d:=dI r) (ds:=rs.map dI) h;obtain⟨p,E,rfl,s,x⟩:=t.list_inv;rw[qg x]at s;obtain⟨ps,rfl,z⟩:=vV u;exact⟨p::ps,rfl,pN.cons_iff.mpr ⟨s,z⟩⟩
theorem Ge{H:Hp}:∀{rs:Λ}{ps:Δ},pN H ps rs->oA K H (rs.map dI) (ps.map V.ref)
 | [],[],_=>.nil
 | [],_::_,h=>by have:=h.length;simp at this
 |_::_,[],h=>by have:=h.length;simp at this
 |r::rs,p::ps,h=>by
  obtain⟨s,t⟩:=pN.cons_iff.mp h;exact .cons (.mk_list s (rj r)) (Ge t)
def QM(hl:SQ K te l):SK K (Om (λxs H Q=>∃(a:Addr) (ps:Δ) (rs:Λ),xs=[.ref a]/\qh K H a (ps.map V.ref)/\pN H ps rs /\
  ∀p qs,H p=none->qs.Perm ps->pN (om H p (.lst (qs.map V.ref))) qs (zH rs)->Q (.ref p) (om H p (.lst (qs.map V.ref)))) (tp te vd)) (LG l):=by
 intro H₀ s Hf S σ H Fs av S' R e Q q;obtain⟨x,M,e⟩:=oBq.mp e;obtain⟨rs,O,e⟩:=oMq.mp e;cases e;refine hl R (ds:=x.1) (S':=x.2) M _ λt H1 Fs1 P U E u X G=>?_
 rw[BE O]at G;obtain⟨ps,rfl,I⟩:=vV G;refine⟨P,ps,rs,rfl,X,I.same u.sub,λp qs J Y z=>?_⟩
 obtain⟨t4,L,n1,n2,n3⟩:=u.new (o:=.lst (qs.map V.ref)) J;have B:pN t qs (zH rs):=z.keep λb hb=>by
  obtain⟨r,_,hr⟩:=I.mem (Y.mem_iff.mp hb);rw[hr,L.sub b _ hr]
 rw[JA]at q;exact q _ _ _ (.ref p) [p] (E.trans t4) L (ou.new nG n1 (Ge B)) ((wZ.one u J).back E)
end
def Zz:String->D->Bool
 |T,.list _=>T == "list"
 |T,.scr _=>T == "list"
 |T,.str _=>T == "str"
 |_,_=>false
def Py(T:String)(f:D->List D->Option D)(a:ME)(as:ML):ME:=λS=>(a S).bind λx=>if Zz T x.1=true then (as x.2).bind λy=>(f x.1 y.1).map λd=>(d,y.2)else none
def BmD(K:Ζ)(r:V->List V->Hp->VK->Prop)(f:D->List D->Option D):Prop:=∀{x:V}{vs:List V}{H:Hp}{Q:VK}{s:D}{ds:List D}{d:D},pM K H s x->oA K H ds vs->f s ds=some d->(∀v,pM K H d v->Q v H)->r x vs H Q
section
variable {K:Ζ}{te:TE}{ta:TA}{a:ME}{as:ML}{r:V->List V->Hp->VK->Prop}{f:D->List D->Option D}{T:String}
def QC{H:Hp}{d:D}{v:V}(h:Zz T d=true)(t:pM K H d v):tyV K T v H:=by
 cases t <;> simp only[Zz]at h
 all_goals first|(exfalso;simp at h;done)|skip
 .exact eq_of_beq h
 .rename_i p u x s l e;exact .inl ⟨eq_of_beq h,u,qh.of s⟩
 .rename_i p ns s;exact .inl ⟨eq_of_beq h,_,s⟩
def aa6(hr:BmD K r f)(ha:SR K te a)(B:Rm K ta as):SR K (WW K T r te ta) (Py T f a as):=by
 intro H₀ s Hf S σ H Y d S' R e Q q;obtain⟨x,E,e⟩:=oBq.mp e;split at e
 .rename_i G;obtain⟨y,I,e⟩:=oBq.mp e;obtain⟨z,J,e⟩:=oMq.mp e;cases e;refine ha R (d:=x.1) (S':=x.2) E _ λL H1 Fs1 v M O t=>⟨QC G t,B O (ds:=y.1) (S':=y.2) I _ λP H2 Fs2 vs u R2 U=>?_⟩
  exact hr (t.mono u.sh) U J λv X=>q _ _ _ v (M.trans u) R2 X
 .cases e
def HD:D->List D->Option D
 | .list ds,[.int k]=>(ql ds).bind λns=>if k∈ns then some (.int (ns.idxOf k:Nat))else none
 |_,_=>none
def PD:BmD K (Q0 K) HD:=by
 intro x I H Q J L d s u e q;unfold HD at e;split at e
 .rename_i M k;obtain⟨ns,z,e⟩:=oBq.mp e;split at e
  .rename_i hk;cases e;obtain⟨v,O,rfl,B,E⟩:=u.cons_inv;rw[E.nil_inv];cases B;rw[tS z]at s;obtain⟨p,P,rfl,t,G⟩:=s.list_inv;rw[qg G]at t;exact⟨p,ns,k,rfl,rfl,qh.of t,hk,q _ .int⟩
  .cases e
 .cases e
def RG(a:ME):ME:=λS=>(a S).bind λx=>match x.1 with
 | .list ds=>(xC ds).map λrs=>(.int (rs.countP (·=([]:Ϝ)):Nat),x.2)
 |_=>none
def UC(ha:SR K te a):SR K (WW K "list" Sd te (tp (OL vd) vd)) (RG a):=by
 intro H₀ s Hf S σ H Fs d S' R e Q q;obtain⟨x,E,e⟩:=oBq.mp e;refine ha R (d:=x.1) (S':=x.2) E _ λG I Fs1 v J L u=>?_
 split at e
 .rename_i ds M;obtain⟨O,P,e⟩:=oMq.mp e;cases e;rw[M,BE P]at u;obtain⟨p,us,rfl,t,U⟩:=u.list_inv;obtain⟨X,rfl,z⟩:=vV U;refine⟨.inl ⟨rfl,_,qh.of t⟩,aJ _,λb hb=>?_⟩
  obtain⟨B,Y,n1,n2,n3⟩:=L.new (o:=.lst []) hb;refine⟨p,b,X,O,[],rfl,rfl,(by rw[nC (pQ t hb)];exact t),z.same B.sh,nG,z.free (H:=I) hb,q _ _ _ _ (J.trans B) Y .int⟩
 .cases e
def acb:D->Option Bool
 | .non=>some false
 | .bl b=>some b
 | .int i=>some (i != 0)
 | .list ds=>some (!ds.isEmpty)
 | .tup ds=>some (!ds.isEmpty)
 | .dict ds=>some (!ds.isEmpty)
 |_=>none
def adt(a:ME):MT:=λS=>(a S).bind λx=>(acb x.1).map λb=>(b,x.2)
end
section
variable {K:Ζ}{H₀ Hf₀ Hf Hf' H H':Hp}{S S':AS}{σ:St}{Fs Fs':List Δ}
def oI.turnAny(R:oI K H₀ Hf₀ Hf S σ H Fs){i:Nat}{I:AV}{p:Addr}{o:HO}{v:V}{F F':Δ}(s1:σ[i]?=some (some v))(s2:Fs[i]?=some F)(x:p∈F)(r:ou K Hf (om H p o) I v F')(nd:F'.Nodup)
  (L:∀q∈F',H₀ q=none/\q∉(Fs.set i []).flatten):oI K H₀ Hf₀ Hf (S.set i (some I)) σ (om H p o) (Fs.set i F'):=by
 have B:p∈Fs.flatten:=mFq.mpr ⟨F,mGq s2,x⟩;have pn:Hf p=none:=(R.mem B).2;have M:H₀ p=none:=R.fresh p B;have out:=sH R.nd s2 x;have O:oI K H₀ Hf₀ Hf (S.set i none) σ (om H p o) (Fs.set i []):=by
  refine⟨by simp[R.len],by simp[R.lenF],λj a t=>?_,λj t=>?_,qk i R.nd bp (λp x=>by cases x),λp x=>R.fresh p (pV x),λb u e=>?_,λb u e=>?_,R.lim,R.sf⟩
  .rw[bB]at t
   by_cases s:i=j
   .subst s;rw[oa rfl]at t;split at t <;> cases t
   .rw[nY s]at t;obtain⟨w,G,P,J,q⟩:=R.rep j a t;refine⟨w,G,P,by rw[aK s];exact J,q.keep (.refl _) (λc E=>nC λe=>out ?_) λc E=>(q.owned c E).2⟩
    subst e;exact mFq.mpr ⟨G,mGq (i:=j) (by rw[aK s];exact J),E⟩
  .rw[bB]at t
   by_cases s:i=j
   .subst s;rw[oa rfl]at t;split at t
    .rename_i hi;rw[bg (R.lenF.symm ▸ hi)]
    .cases t
   .rw[nY s]at t;rw[aK s];exact R.emp j t
  .rw[nC λz=>by rw[z,pn]at e;cases e]
   exact R.sub b u e
  .rw[nC λz=>by rw[z,M]at e;cases e]
   exact R.fr b u e
 exact O.again (F:=F) s1 r nd L
def oI.kill(R:oI K H₀ Hf₀ Hf S σ H Fs)(x:Nat):oI K H₀ Hf₀ Hf (S.set x none) σ H (Fs.set x []):=by
 refine⟨by simp[R.len],by simp[R.lenF],λj a t=>?_,λj t=>?_,qk x R.nd bp (λp u=>by cases u),λp u=>R.fresh p (pV u),R.sub,R.fr,R.lim,R.sf⟩
 .rw[bB]at t
  by_cases s:x=j
  .subst s;rw[oa rfl]at t;split at t <;> cases t
  .rw[nY s]at t;obtain⟨w,G,z,B,q⟩:=R.rep j a t;exact⟨w,G,z,by rw[aK s];exact B,q⟩
 .rw[bB]at t
  by_cases s:x=j
  .subst s;rw[oa rfl]at t;split at t
   .rename_i hi;rw[bg (R.lenF.symm ▸ hi)]
   .cases t
  .rw[nY s]at t;rw[aK s];exact R.emp j t
end
noncomputable abbrev aI(ns:Ϝ):AV:=.ow (ns.map λn=>.sh (.int n))
def CD:List AV->Option Ϝ
 | []=>some []
 | .sh (.int i)::r=>(CD r).map (i :: ·)
 |_=>none
def Em:List AV->Option Λ
 | []=>some []
 | .ow as::r=>(CD as).bind λns=>(Em r).map (ns :: ·)
 |_=>none
theorem IM:∀{as:List AV}{ns:Ϝ},CD as=some ns->as=ns.map λn=>.sh (.int n)
 | [],ns,h=>by cases h;rfl
 |a::as,ns,h=>by
  cases a with
  |sh d=>
   cases d with
   |int i=>
    obtain⟨u,s,t⟩:=oMq.mp (show(CD as).map (i :: ·)=some ns from h)
    subst t;rw[IM s];rfl
   |_=>cases h
  |_=>cases h
theorem DT:∀{as:List AV}{rs:Λ},Em as=some rs->as=rs.map aI
 | [],rs,h=>by cases h;rfl
 |a::as,rs,h=>by
  cases a with
  |ow s=>
   obtain⟨r,t,h⟩:=oBq.mp (show(CD s).bind (λns=>(Em as).map (ns :: ·))=some rs from h)
   obtain⟨z,u,x⟩:=oMq.mp h;subst x;rw[DT u,IM t];rfl
  |_=>cases h
@[simp] theorem OD (ns:Ϝ):CD (ns.map λn=>.sh (.int n))=some ns:=by
 induction ns with
 |nil=>rfl
 |cons n ns s=>show(CD (ns.map λn=>.sh (.int n))).map (n :: ·)=_;rw[s];rfl
@[simp] theorem OA (rs:Λ):Em (rs.map aI)=some rs:=by
 induction rs with
 |nil=>rfl
 |cons r rs s=>show(CD (r.map λn=>.sh (.int n))).bind (λns=>(Em (rs.map aI)).map (ns :: ·))=_;rw[OD,s];rfl
def AI(k:MK):MK:=λS=>(k S).bind λx=>match x.1 with
 | .ow s=>(Em s).map λrs=>(.ow ((zH rs).map aI),x.2)
 |_=>none
section
variable {K:Ζ}{Hf H:Hp}
def Lj{ns:Ϝ}{v:V}{F:Δ}(h:ou K Hf H (aI ns) v F):∃p,v = .ref p/\F=[p]/\H p=some (.lst (ns.map V.int))/\Hf p=none:=by
 obtain⟨p,s,t,rfl,rfl,u,x,z⟩:=h.ow_inv;have e:∀{ns:Ϝ}{s:List V}{t:List Δ},oz K Hf H (ns.map λn=>AV.sh (.int n)) s t->s=ns.map V.int/\t.flatten=[]:=by
  intro ns
  induction ns with
  |nil=>
   intro s t h;obtain⟨a,b⟩:=h.nil_inv;exact⟨a,by rw[b];rfl⟩
  |cons n ns B=>
   intro s t h;obtain⟨v,Q,F,E,rfl,rfl,G,I⟩:=oz.cons_inv (a:=.sh (.int n)) h;obtain⟨J,L⟩:=G.sh_inv;subst J;cases L;obtain⟨M,g2⟩:=B I;rw[M];exact⟨rfl,by rw[fCq,g2];rfl⟩
 obtain⟨O,P⟩:=e z;rw[P];subst O;exact⟨p,rfl,rfl,u,x⟩
def YN{ns:Ϝ}{p:Addr}(s:H p=some (.lst (ns.map V.int)))(t:Hf p=none):ou K Hf H (aI ns) (.ref p) [p]:=by
 have:=ou.new (K:=K) (Hf:=Hf) (H:=H) (ds:=ns.map D.int) s t (rj ns);rw[←yB]at this;exact this
theorem ve:∀{rs:Λ}{vs:List V}{Gs:List Δ},oz K Hf H (rs.map aI) vs Gs->∃ps,vs=ps.map V.ref/\Gs=ps.map (λp=>[p])/\pN H ps rs/\∀p∈ps,Hf p=none
 | [],vs,Gs,h=>by
  obtain⟨a,b⟩:=h.nil_inv;exact⟨[],a,b,.nil,λp s=>by cases s⟩
 |r::rs,vs,Gs,h=>by
  obtain⟨v,J,F,t,rfl,rfl,u,x⟩:=oz.cons_inv (a:=aI r) (as:=rs.map aI) h;obtain⟨p,rfl,rfl,z,B⟩:=Lj u;obtain⟨ps,rfl,rfl,E,G⟩:=ve x;exact⟨p::ps,rfl,rfl,pN.cons_iff.mpr ⟨z,E⟩,λq I=>(ag.mp I).elim (λe=>e ▸ B) (G q)⟩
theorem Ao:∀{rs:Λ}{ps:Δ},pN H ps rs->(∀p∈ps,Hf p=none)->oz K Hf H (rs.map aI) (ps.map V.ref) (ps.map λp=>[p])
 | [],[],_,_=>.nil
 | [],_::_,h,_=>by have:=h.length;simp at this
 |_::_,[],h,_=>by have:=h.length;simp at this
 |r::rs,p::ps,h,n=>by
  obtain⟨s,t⟩:=pN.cons_iff.mp h;exact .cons (YN s (n p (by simp))) (Ao t λq u=>n q (mCo _ u))
def yq(ps:Δ):(ps.map λp=>[p]).flatten=ps:=by
 induction ps with
 |nil=>rfl
 |cons p ps s=>rw[ai,fCq,s];rfl
def NN{te:TE}{k:MK}(hk:SK K te k):SK K (Om (λxs H Q=>∃(a:Addr) (ps:Δ) (rs:Λ),xs=[.ref a]/\qh K H a (ps.map V.ref)/\pN H ps rs /\
  ∀p qs,H p=none->qs.Perm ps->pN (om H p (.lst (qs.map V.ref))) qs (zH rs)->Q (.ref p) (om H p (.lst (qs.map V.ref)))) (tp te vd)) (AI k):=by
 intro H₀ B Hf S σ H Fs av S' R e Q q;obtain⟨x,P,e⟩:=oBq.mp e;refine hk R (a:=x.1) (S':=x.2) P _ λU X Fs1 v F J Y L t=>?_
 split at e
 .rename_i avs hx;obtain⟨rs,e2,e⟩:=oMq.mp e;cases e;rw[hx,DT e2]at L;obtain⟨M,vs,Gs,rfl,rfl,h1,h2,h3⟩:=L.ow_inv;obtain⟨ps,rfl,rfl,O,hn⟩:=ve h3;rw[yq]at t;refine⟨M,ps,rs,rfl,qh.of h1,O,λp qs E u G=>?_⟩
  obtain⟨t4,R4,n1,n2,n3⟩:=Y.new (o:=.lst (qs.map V.ref)) E;have pq:p∉qs:=λm=>O.free (H:=X) E (u.mem_iff.mp m)
  have I:∀z∈qs,z∈M::ps:=λz s=>mCo _ (u.mem_iff.mp s)
  refine q _ _ _ (.ref p) (p::(qs.map λp=>[p]).flatten) (J.trans t4) R4 (ou.news nG n1 (Ao G λz s=>hn z (u.mem_iff.mp s))) ?_
  rw[yq];refine⟨aw.mpr ⟨pq,u.nodup_iff.mpr (aw.mp t.nd).2⟩,λz s=>?_,λz s=>?_,λz s=>?_⟩
  .rcases ag.mp s with y|y
   .rw[y];exact n2
   .exact t.fr z (I z y)
  .rcases ag.mp s with y|y
   .rw[y];exact n3
   .exact t.out z (I z y)
  .rcases ag.mp s with y|y
   .rw[y];exact .inl (J.sh.free E)
   .exact t.new z (I z y)
 .cases e
def Lx:AV->Option D
 | .sh d=>if d.scal=true then some d else none
 |_=>none
def oQ(f:MF)(a:ML):ME:=λS=>(a S).bind λx=>(f x.1).bind λr=>(Lx r).map λd=>(d,x.2)
def vR{f:MF}{B:TA}{a:ML}(ha:Rm K B a):SR K (DS (oR K f) [] E0 B) (oQ f a):=by
 intro H₀ u Hf S σ H Fs d S' R e Q q;obtain⟨x,I,e⟩:=oBq.mp e;obtain⟨r,J,e⟩:=oBq.mp e;obtain⟨z,s,e⟩:=oMq.mp e;cases e;refine ha R (ds:=x.1) (S':=x.2) I _ λt E Fs1 vs L M O=>?_
 rw[aNq];refine⟨E,x.1,r,.refl _,O,J,λP U v F s1 G s3 l X nd fr=>?_⟩
 have Y:yd t E Fs1 t U Fs1:=⟨.refl _,G,λ_ h=>h,λb h g=>absurd h g⟩
 cases r with
 |sh d'=>
  simp only[Lx]at s;split at s
  .rename_i hs;cases s;exact q _ _ _ v (L.trans Y) (M.laid G) (X.sh_inv.2.scal hs)
  .cases s
 |_=>cases s
end
section
variable (S:AS)
@[simp] theorem ZX (i:Nat):nB i S=(S[i]?.join).map λa=>(nK a,S):=rfl
@[simp] theorem aaA (i:Nat):nP i S=(S[i]?.join).map λa=>(.sh (nK a),S.set i (some (.sh (nK a)))):=rfl
@[simp] theorem aaU (i:Nat):CL i S=(S[i]?.join).map λa=>(a,S.set i none):=rfl
@[simp] theorem acd (k:MK):rOf k S=(k S).map λx=>(nK x.1,x.2):=rfl
@[simp] theorem abS (m:ME):kSc m S=(m S).bind λx=>if x.1.scal then some (.sh x.1,x.2)else none:=rfl
@[simp] theorem aai (k:MK):rE k S=(k S).map λx=>(.sh (nK x.1),x.2):=rfl
@[simp] theorem rC_ (d:D):rC d S=if d.scal then some (d,S)else none:=rfl
@[simp] theorem acv (f:D->D->Option D)(a b:ME):oq f a b S=(a S).bind λx=>(b x.2).bind λy=>(f x.1 y.1).map λd=>(d,y.2):=rfl
@[simp] theorem ab2 (f:D->Option D)(a:ME):J8 f a S=(a S).bind λx=>(f x.1).map λd=>(d,x.2):=rfl
@[simp] theorem Xh (a b:MT):Fx a b S=(a S).bind λx=>if x.1=true then b x.2 else some (false,x.2):=rfl
@[simp] theorem aao (a b:MT):Jq a b S=(a S).bind λx=>if x.1=true then some (true,x.2)else b x.2:=rfl
@[simp] theorem YD (a:MT):Gm a S=(a S).map λx=>(!x.1,x.2):=rfl
@[simp] theorem ab3 (c:MT)(a b:ME):rIf c a b S=(c S).bind λx=>if x.1=true then a x.2 else b x.2:=rfl
def UH:D->Option Bool
 | .bl b=>some b
 |_=>none
@[simp] theorem ab6 (a:ME):qC a S=(a S).bind λx=>(UH x.1).map λb=>(b,x.2):=by
 show(a S).bind _=_;congr 1;funext x;obtain⟨d,s⟩:=x;cases d <;> rfl
@[simp] theorem aa3 (a b:ME):Zf a b S=(a S).bind λx=>(UH x.1).bind λc=>if c=true then b x.2 else some (.bl false,x.2):=by
 show(a S).bind _=_;congr 1;funext x;obtain⟨d,s⟩:=x;cases d <;> try rfl
 rename_i c;cases c <;> rfl
@[simp] theorem acr (a b:ME):rOr a b S=(a S).bind λx=>(UH x.1).bind λc=>if c=true then some (.bl true,x.2)else b x.2:=by
 show(a S).bind _=_;congr 1;funext x;obtain⟨d,s⟩:=x;cases d <;> try rfl
 rename_i c;cases c <;> rfl
@[simp] theorem Wk (b:Bool):UH (.bl b)=some b:=rfl
@[simp] theorem Z6:nZ S=some ([],S):=rfl
@[simp] theorem Y0 (k:MK)(r:MA):nJ k r S=(k S).bind λx=>(r x.2).map λy=>(x.1::y.1,y.2):=rfl
@[simp] theorem XM:nH S=some ([],S):=rfl
@[simp] theorem VX (k:ME)(r:ML):nA k r S=(k S).bind λx=>(r x.2).map λy=>(x.1::y.1,y.2):=rfl
@[simp] theorem aaQ (a:MA):rq a S=(a S).bind λx=>uJ (x.1.length<=pe) (some (.ow x.1,x.2)):=rfl
@[simp] theorem ZG (a:MA):HP a S=(a S).bind λx=>uJ (x.1.length<=pe) (some (.sh (.tup (x.1.map nK)),x.2)):=rfl
@[simp] theorem ZR (a b:ML):HV a b S=(a S).bind λx=>(b x.2).bind λy=>uJ (x.1.length+y.1.length<=pe) (some (.ow ((x.1++y.1).map .sh),y.2)):=rfl
@[simp] theorem Xi:yc S=some (none,S):=rfl
@[simp] theorem Zk (m:ME):vE m S=(m S).bind λx=>(intOf x.1).map λi=>(some i,x.2):=by
 show(m S).bind _=_;congr 1;funext x;obtain⟨d,s⟩:=x;cases d <;> rfl
@[simp] theorem OH (i:Int):intOf (.int i)=some i:=rfl
@[simp] theorem ab7 (l:ML)(lo hi:MO):Tn l lo hi S=(l S).bind λx=>(lo x.2).bind λy=>(hi y.2).map λz=>(.ow ((zr x.1 y.1 z.1).map .sh),z.2):=rfl
@[simp] theorem abZ (l:ML)(b:ME):Px l b S=(l S).bind λx=>(b x.2).bind λy=>(intOf y.1).bind λi=>(atI x.1 i).map λd=>(.sh d,y.2):=by
 show(l S).bind _=_;congr 1;funext x;show(b x.2).bind _=_;congr 1;funext y;obtain⟨d,s⟩:=y;cases d <;> rfl
@[simp] theorem ab4 (f:List D->Option D)(a:ML):rD f a S=(a S).bind λx=>(f x.1).map λd=>(d,x.2):=rfl
@[simp] theorem Y3 (f:MF)(a:MA):oi f a S=(a S).bind λx=>(f (x.1.map nK)).map λr=>(r,x.2):=rfl
@[simp] theorem X7 (f:MF)(a:ML):oQ f a S=(a S).bind λx=>(f x.1).bind λr=>(Lx r).map λd=>(d,x.2):=rfl
@[simp] theorem YJ:oV S=some (.nx S):=rfl
@[simp] theorem Ub:qp S=none:=rfl
def DA(o:Option Qd)(b:MS):Option Qd:=o.bind λo=>match o with
 | .nx S'=>b S'
 |o=>some o
@[simp] theorem Eh (b:MS):DA (some (.nx S)) b=b S:=rfl
@[simp] theorem Q5 (a:AV)(b:MS):DA (some (.rt a)) b=some (.rt a):=rfl
@[simp] theorem Rc (a b:MS):nO a b S=DA (a S) b:=rfl
@[simp] theorem WX (i:Nat)(k:MK):oj i k S=(k S).map λx=>.nx (x.2.set i (some x.1)):=rfl
@[simp] theorem Zv (k:MK):FV k S=(k S).map λx=>.nx x.2:=rfl
@[simp] theorem aaB (k:MK):oP k S=(k S).map λx=>.rt x.1:=rfl
@[simp] theorem abH (c:MT)(a b:MS):wk c a b S=(c S).bind λx=>if x.1=true then a x.2 else b x.2:=rfl
@[simp] theorem aad (i:Nat)(k:MK):AF i k S=(uB S i).bind λ_=>(k S).bind λx=>(uB x.2 i).bind λs=>uJ (s.length<pe) (some (.nx (x.2.set i (some (.ow (s++[x.1])))))):=rfl
@[simp] theorem Z8 (i:Nat)(l:ML):Xf i l S=(uB S i).bind λ_=>(l S).bind λx=>(uB x.2 i).bind λs=>uJ (s.length+x.1.length<=pe) (some (.nx (x.2.set i (some (.ow (s++x.1.map .sh)))))):=rfl
@[simp] theorem aau (i:Nat)(b:ME)(k:MK):ND i b k S=(rE k S).bind λx=>(uB x.2 i).bind λ_=>(b x.2).bind λy=>(uB y.2 i).bind λs=>(intOf y.1).bind λj=>(Mw s.length j).map λn=>
 .nx (y.2.set i (some (.ow (((s.map nK).set n (nK x.1)).map .sh)))):=rfl
@[simp] theorem YG (i:Nat)(b:ME)(k:MK):wM i b k S=(rE k S).bind λx=>(vG x.2 i).bind λ_=>(b x.2).bind λy=>(vG y.2 i).bind λkvs=>(sX y.1).bind λkey=>
 uJ (kvs.length<pe) (some (.nx (y.2.set i (some (.owd (vh kvs key (nK x.1))))))):=rfl
def dictOf:D->Option (List (nT×D))
 | .dict kvs=>some kvs
 |_=>none
@[simp] theorem Iy (kvs:List (nT×D)):dictOf (.dict kvs)=some kvs:=rfl
@[simp] theorem Ow (i:Int):sX (.int i)=some (.inl i):=rfl
@[simp] theorem aas (a b:ME):YS a b S=(a S).bind λx=>(b x.2).bind λy=>(dictOf y.1).bind λkvs=>(sX x.1).map λkey=>(.bl (getD kvs key).isSome,y.2):=by
 show(a S).bind _=_;congr 1;funext x;show(b x.2).bind _=_;congr 1;funext y;obtain⟨d,s⟩:=y;cases d <;> rfl
@[simp] theorem RI (a b:ME):sO a b S=(a S).bind λx=>(b x.2).bind λy=>(dictOf y.1).bind λkvs=>(sX x.1).map λkey=>(.bl (!(getD kvs key).isSome),y.2):=by
 show(a S).bind _=_;congr 1;funext x;show(b x.2).bind _=_;congr 1;funext y;obtain⟨d,s⟩:=y;cases d <;> rfl
@[simp] theorem Yw (a b:ME):AR a b S=(a S).bind λx=>(b x.2).bind λy=>(dictOf x.1).bind λkvs=>(sX y.1).bind λkey=>(getD kvs key).map λd=>(d,y.2):=by
 show(a S).bind _=_;congr 1;funext x;show(b x.2).bind _=_;congr 1;funext y;obtain⟨d,s⟩:=x;cases d <;> rfl
@[simp] theorem YM:wx S=some (.owd [],S):=rfl
@[simp] theorem aa0 (x:Nat)(k:MK)(body:MS):xK x k body S=(rE k S).bind λy=>(qX (nK y.1)).bind λds=>qN x body ds y.2:=rfl
@[simp] theorem T7 (x:Nat)(a:ML)(body:MS):DW x a body S=(a S).bind λy=>(CQ y.1).bind λds=>qN x body ds y.2:=rfl
@[simp] theorem Zn (x y:Nat)(k:MK)(body:MS):DZ x y k body S=(rE k S).bind λz=>(qX (nK z.1)).bind λds=>zZ x y body 0 ds z.2:=rfl
@[simp] theorem YI (x y:Nat)(k l:MK)(body:MS):Su x y k l body S=(rE k S).bind λz=>(rE l z.2).bind λw=>(qX (nK z.1)).bind λds=>(qX (nK w.1)).bind λes=>
 if ds.length=es.length then Ab x y body ds es w.2 else none:=rfl
@[simp] theorem Y1 (s:MI)(fr:Θ)(tf:MT)(te:MK):pJ s fr tf te S=(s S).bind λy=>(fzAll fr y.2).bind λu=>(GG u fr).bind λcap=>uJ (y.1.length<=pe) ((oy tf te cap y.1).map λt=>(.ow t,u)):=rfl
@[simp] theorem aac (k:MK):uG k S=(rE k S).bind λy=>(qX (nK y.1)).map λds=>(ds,y.2):=rfl
@[simp] theorem acu (a:ML):iR1 a S=(a S).bind λy=>(CQ y.1).map λds=>(ds,y.2):=rfl
@[simp] theorem Oq:fzAll [] S=some S:=rfl
@[simp] theorem Kf (j:Nat)(s:Θ):fzAll (j::s) S=(S[j]?.join).bind λa=>fzAll s (S.set j (some (.sh (nK a)))):=rfl
@[simp] theorem Qb:GG S []=some []:=rfl
@[simp] theorem NQ (j:Nat)(s:Θ):GG S (j::s)=(Xr S[j]?.join).bind λa=>(GG S s).map (some a :: ·):=rfl
@[simp] theorem Yn (l:ML):CI l S=(l S).map λx=>(.ow (x.1.map .sh),x.2):=rfl
@[simp] theorem Ul (l:ML):B7 l S=(l S).bind λx=>(ql x.1).map λns=>(.ow ((pZ ns).map λn=>.sh (.int n)),x.2):=rfl
@[simp] theorem VJ (l:ML):LG l S=(l S).bind λx=>(xC x.1).map λrs=>(.ow ((zH rs).map λr=>.sh (dI r)),x.2):=rfl
def YR:AV->Option (List AV)
 | .ow s=>some s
 |_=>none
@[simp] theorem TR (s:List AV):YR (.ow s)=some s:=rfl
@[simp] theorem PZ (k:MK):AI k S=(k S).bind λx=>(YR x.1).bind λs=>(Em s).map λrs=>(.ow ((zH rs).map aI),x.2):=by
 show(k S).bind _=_;congr 1;funext x;obtain⟨d,t⟩:=x;cases d <;> rfl
@[simp] theorem ab9 (T:String)(f:D->List D->Option D)(a:ME)(as:ML):Py T f a as S=(a S).bind λx=>if Zz T x.1=true then (as x.2).bind λy=>(f x.1 y.1).map λd=>(d,y.2)else none:=rfl
def WZ:D->Option (List D)
 | .list ds=>some ds
 |_=>none
@[simp] theorem K2 (ds:List D):WZ (.list ds)=some ds:=rfl
@[simp] theorem YH (a:ME):RG a S=(a S).bind λx=>(WZ x.1).bind λds=>(xC ds).map λrs=>(.int (rs.countP (·=([]:Ϝ)):Nat),x.2):=by
 show(a S).bind _=_;congr 1;funext x;obtain⟨d,s⟩:=x;cases d <;> rfl
def ZH:AV->Option (List D)
 | .sh (.list ds)=>some ds
 | .ow s=>some (s.map nK)
 |_=>none
@[simp] theorem Yg (ds:List D):ZH (.sh (.list ds))=some ds:=rfl
@[simp] theorem Zd (s:List AV):ZH (.ow s)=some (s.map nK):=rfl
@[simp] theorem abL (k:MK):lOf k S=(k S).bind λx=>(ZH x.1).map λds=>(ds,x.2):=by
 show(k S).bind _=_;congr 1;funext x;obtain⟨a,s⟩:=x;cases a with
 |sh d=>cases d <;> rfl
 |_=>rfl
end
def hlf:AV->AV
 | .ow s=>.ow ((s.map nK).map .sh)
 |a=>a
@[simp] theorem YY (d:D):hlf (.sh d) = .sh d:=rfl
@[simp] theorem YF (s:List AV):hlf (.ow s) = .ow ((s.map nK).map .sh):=rfl
noncomputable def DR{S:AS}{i:Nat}{a:AV}(h:S[i]?=some (some a)):S.set i (some a)=S:=by
 obtain⟨hk,s⟩:=gSq.mp h;rw[←s];exact ff hk
@[simp] theorem aaJ (S:AS)(i:Nat):HX i S=(S[i]?.join).bind λa=>(ZH a).map λds=>(ds,S.set i (some (hlf a))):=by
 unfold HX;cases e:S[i]?.join with
 |none=>rfl
 |some a=>
  cases a with
  |sh d=>
   cases d with
   |list ds=>
    show some (ds,S)=some (ds,S.set i (i3 ds));rw[DR (oG e)]
   |_=>rfl
  |ow t=>rfl
  |owd s=>rfl
  |owl s=>rfl
def lsQ:AV->Option (List D)
 | .sh (.scr ns)=>some (ns.map .int)
 |a=>ZH a
@[simp] theorem UA (ns:Ϝ):lsQ (.sh (.scr ns))=some (ns.map .int):=rfl
@[simp] theorem Xo (ds:List D):lsQ (.sh (.list ds))=some ds:=rfl
@[simp] theorem XO (s:List AV):lsQ (.ow s)=some (s.map nK):=rfl
@[simp] theorem ZZ (S:AS)(i:Nat):rW i S=(S[i]?.join).bind λa=>(lsQ a).map λds=>(ds,S.set i (some (hlf a))):=by
 unfold rW;cases e:S[i]?.join with
 |none=>rfl
 |some a=>
  cases a with
  |sh d=>
   cases d with
   |list ds=>
    show some (ds,S)=some (ds,S.set i (i3 ds));rw[DR (oG e)]
   |scr ns=>
    show some (ns.map D.int,S)=some (ns.map D.int,S.set i (some (.sh (.scr ns))));rw[DR (oG e)]
   |_=>rfl
  |ow t=>rfl
  |owd s=>rfl
  |owl s=>rfl
@[simp] theorem Q8 (i:Int):(D.int i).scal=true:=rfl
@[simp] theorem UU (i:Bool):(D.bl i).scal=true:=rfl
@[simp] theorem Q3 (i:Str):(D.str i).scal=true:=rfl
@[simp] theorem Ss:D.non.scal=true:=rfl
@[simp] theorem VU (i:String):(D.ty i).scal=true:=rfl
@[simp] theorem Rn (i:Int):Lx (.sh (.int i))=some (.int i):=rfl
@[simp] theorem Wb (i:Bool):Lx (.sh (.bl i))=some (.bl i):=rfl
@[simp] theorem Qr (i:Str):Lx (.sh (.str i))=some (.str i):=rfl
@[simp] theorem P4:Lx (.sh .non)=some .non:=rfl
@[simp] theorem VA (i j:Int):Ax (.int i) (.int j)=some (.bl (decide (i=j))):=rfl
@[simp] theorem Va (i j:Str):Ax (.str i) (.str j)=some (.bl (decide (i=j))):=rfl
@[simp] theorem Nn (i j:Int):W4 (.int i) (.int j)=some (.bl (!decide (i=j))):=rfl
@[simp] theorem OX (ds:List D):qi [.list ds]=some (.int ds.length):=rfl
@[simp] theorem Se (ns:Ϝ):qi [.scr ns]=some (.int ns.length):=rfl
@[simp] theorem PQ (i:Int):Lf [.int i]=some (.int (if i<0 then -i else i)):=rfl
@[simp] theorem Ot (ds:List D):G4 [.list ds,.ty "list"]=some (.bl true):=by simp[G4,isT]
@[simp] theorem HJ (ds:List D):qX (.list ds)=some ds:=rfl
@[simp] theorem P7 (ds:List D)(i:Int):FR (.list ds) (.int i)=atI ds i:=rfl
@[simp] theorem UW (ns:Ϝ)(i:Int):FR (.scr ns) (.int i)=(atI ns i).map .int:=rfl
@[simp] theorem VO (d:D):Xr (some (.sh d))=some (.sh d):=rfl
@[simp] theorem Ry (ds:List D):Zz "list" (.list ds)=true:=rfl
def UI(S:AS)(i:Nat):uB S i=(S[i]?.join).bind YR:=by
 unfold uB;cases S[i]?.join with
 |none=>rfl
 |some a=>cases a <;> rfl
def WR:AV->Option (List (nT×D))
 | .owd kvs=>some kvs
 |_=>none
@[simp] theorem O5 (kvs:List (nT×D)):WR (.owd kvs)=some kvs:=rfl
def QE(S:AS)(i:Nat):vG S i=(S[i]?.join).bind WR:=by
 unfold vG;cases S[i]?.join with
 |none=>rfl
 |some a=>cases a <;> rfl
theorem Iv{x:Nat}{body:MS}(P:Nat->AS->Prop):∀{ds:List D}{S:AS}{k:Nat},P k S->(∀i d S,ds[i]?=some d->P (k+i) S->∃S',(body (S.set x (some (.sh d)))=some (.nx S')∨body (S.set x (some (.sh d)))=some (.ct S'))/\P (k+i+1) S')->∃S',qN x body ds S=some (.nx S')/\P (k+ds.length) S'
 | [],S,k,s,_=>⟨S,rfl,s⟩
 |d::ds,S,k,s,hs=>by
  obtain⟨S',e,u⟩:=hs 0 d S rfl s;have t:∀i d S,ds[i]?=some d->P (k+1+i) S->∃S',(body (S.set x (some (.sh d)))=some (.nx S')∨body (S.set x (some (.sh d)))=some (.ct S'))/\P (k+1+i+1) S':=λi d S h p=>by
   have:=hs (i+1) d S (by simpa using h) (by rw[show k+(i+1)=k+1+i by lia];exact p)
   rw[show k+(i+1)=k+1+i by lia]at this
   exact this
  obtain⟨z,B,E⟩:=Iv P (k:=k+1) u t;refine⟨z,?_,by rw[lCq,show k+(ds.length+1)=k+1+ds.length by lia];exact E⟩
  show(body _).bind _=_;rcases e with e|e <;> (rw[e];exact B)
def rp{x:Nat}{body:MS}(P:Nat->AS->Prop){ds:List D}{S:AS}(s:P 0 S)(t:∀i d S,ds[i]?=some d->P i S->∃S',body (S.set x (some (.sh d)))=some (.nx S')/\P (i+1) S'):∃S',qN x body ds S=some (.nx S')/\P ds.length S':=by
 have:=Iv (x:=x) (body:=body) P (ds:=ds) (k:=0) s λi d S h p=>by
  rw[aQ]at p ⊢;obtain⟨S',e,q⟩:=t i d S h p;exact⟨S',.inl e,q⟩
 rw[aQ]at this;exact this
theorem FT{x y:Nat}{body:MS}(P:Nat->AS->Prop):∀{ds:List D}{S:AS}{k:Nat},P k S->(∀i d S,ds[i]?=some d->P (k+i) S->∃S',body ((S.set x (i0 (k+i:Nat))).set y (some (.sh d)))=some (.nx S')/\P (k+i+1) S')->∃S',zZ x y body k ds S=some (.nx S')/\P (k+ds.length) S'
 | [],S,k,s,_=>⟨S,rfl,s⟩
 |d::ds,S,k,s,hs=>by
  obtain⟨S',e,u⟩:=hs 0 d S rfl s;have t:∀i d S,ds[i]?=some d->P (k+1+i) S->∃S',body ((S.set x (i0 (k+1+i:Nat))).set y (some (.sh d)))=some (.nx S')/\P (k+1+i+1) S':=λi d S h p=>by
   have:=hs (i+1) d S (by simpa using h) (by rw[show k+(i+1)=k+1+i by lia];exact p)
   rw[show k+(i+1)=k+1+i by lia]at this
   exact this
  obtain⟨z,B,E⟩:=FT P (k:=k+1) u t;refine⟨z,?_,by rw[lCq,show k+(ds.length+1)=k+1+ds.length by lia];exact E⟩
  show(body ((S.set x (i0 (k:Nat))).set y (some (.sh d)))).bind _=_;rw[ie]at e;rw[e];exact B
theorem WC{x y:Nat}{body:MS}(P:Nat->AS->Prop):∀{ds es:List D}{S:AS}{k:Nat},ds.length=es.length->P k S->(∀i d e S,ds[i]?=some d->es[i]?=some e->P (k+i) S->∃S',body ((S.set x (some (.sh d))).set y (some (.sh e)))=some (.nx S')/\P (k+i+1) S')->∃S',Ab x y body ds es S=some (.nx S')/\P (k+ds.length) S'
 | [],[],S,k,_,s,_=>⟨S,rfl,s⟩
 | [],_::_,S,k,hl,_,_=>by simp at hl
 |_::_,[],S,k,hl,_,_=>by simp at hl
 |d::ds,b::es,S,k,hl,s,hs=>by
  obtain⟨S',e,u⟩:=hs 0 d b S rfl rfl s;have t:∀i d e S,ds[i]?=some d->es[i]?=some e->P (k+1+i) S->∃S',body ((S.set x (some (.sh d))).set y (some (.sh e)))=some (.nx S')/\P (k+1+i+1) S':=λi d e S h z p=>by
   have:=hs (i+1) d e S (by simpa using h) (by simpa using z) (by rw[show k+(i+1)=k+1+i by lia];exact p)
   rw[show k+(i+1)=k+1+i by lia]at this
   exact this
  obtain⟨B,E,G⟩:=WC P (k:=k+1) (by simpa using hl) u t
  refine⟨B,?_,by rw[lCq,show k+(ds.length+1)=k+1+ds.length by lia];exact G⟩
  show(body _).bind _=_;rw[e];exact E
theorem oO{te:MK}{cap:AS}(g:D->AV):∀{ds:List D},(∀d∈ds,∃S',te (some (.sh d)::cap)=some (g d,S'))->oy oH te cap ds=some (ds.map g)
 | [],_=>rfl
 |d::ds,h=>by
  obtain⟨S',e⟩:=h d (by simp)
  show(te (some (.sh d)::cap)).bind (λa=>(oy oH te cap ds).map (a.1 :: ·))=_
  rw[e,oO g λx s=>h x (mCo _ s)]
  rfl
theorem qT{tf:MT}{te:MK}{cap:AS}(p:D->Bool)(g:D->AV):∀{ds:List D},(∀d∈ds,∃s,tf (some (.sh d)::cap)=some (p d,s)/\(p d=true->∃S',te s=some (g d,S')))->oy tf te cap ds=some ((ds.filter p).map g)
 | [],_=>rfl
 |d::ds,h=>by
  obtain⟨s,u,z⟩:=h d (by simp)
  have t:=qT (tf:=tf) (te:=te) (cap:=cap) p g λx B=>h x (mCo _ B)
  show(tf (some (.sh d)::cap)).bind _=_;rw[u];show(if p d=true then _ else _)=_
  by_cases c:p d=true
  .obtain⟨S',E⟩:=z c;rw[oa c,E,eJ c];show(oy tf te cap ds).map _=_;rw[t];rfl
  .rw[nY c,gn c,t]
def wV{α β:Type}(f:α->β)(xs:List α)(lo hi:Option Int):zr (xs.map f) lo hi=(zr xs lo hi).map f:=by
 unfold zr;rw[lMq,gU,List.map_drop]
def zf{α:Type}(xs:List α)(i:Nat)(h:i<=xs.length):zr xs (some (i:Int)) none=xs.drop i:=by
 unfold zr;rw[HT.De,HT.IB,cJ h,bU (by rw[ar];exact aa _)]
def Dm{α:Type}(xs:List α)(i:Nat)(h:i<=xs.length):zr xs none (some (i:Int))=xs.take i:=by
 unfold zr;rw[HT.De,HT.IB,cJ h,dB,Nat.sub_zero]
def SJ{α:Type}(xs:List α)(i j:Nat):zr xs (some (i:Int)) (some (j:Int))=(xs.drop i).take (j-i):=by
 unfold zr;rw[HT.De,HT.De]
 by_cases h:i<=xs.length
 .rw[cJ h]
  by_cases s:j<=xs.length
  .rw[cJ s]
  .rw[iD (by lia),bU (by rw[ar];exact aa _),bU (by rw[ar];lia)]
 .have e:min i xs.length=xs.length:=iD (by lia)
  rw[e,eT (aa xs.length),eT (show xs.length<=i by lia)]
  simp
def CU{α:Type}{xs:List α}{i:Int}(s:0<=i):atI xs i=xs[i.toNat]?:=by
 unfold atI Mw;rw[oa s]
 by_cases h:i<xs.length
 .rw[oa h];rfl
 .rw[nY h,bG (by lia)]
  rfl
def GN{α β:Type}(f:α->β)(xs:List α)(i:Int):atI (xs.map f) i=(atI xs i).map f:=by
 unfold atI;rw[lMq];cases Mw xs.length i with
 |none=>rfl
 |some j=>show(xs.map f)[j]?=_;rw[gMq];rfl
def T9{n:Nat}{i:Nat}(h:i<n):Mw n (i:Int)=some i:=by
 unfold Mw;rw[oa (by lia),oa (by lia)]
 simp
def La(a b c:MS):nO a (nO b c)=nO (nO a b) c:=by
 funext S;show DA (a S) (nO b c)=DA (DA (a S) b) c;cases a S with
 |none=>rfl
 |some o=>cases o <;> rfl
noncomputable def Da(ns:Ϝ):(ns.map D.int).map AV.sh=ns.map λn=>AV.sh (.int n):=by rw[mPq];rfl
def HG(ns:Ϝ):(ns.map λn=>AV.sh (.int n)).map nK=ns.map D.int:=by rw[mPq];exact mCq λn _=>by simp
def V3(rs:Λ):(rs.map aI).map nK=rs.map dI:=by
 rw[mPq];refine mCq λr _=>?_
 show nK (.ow (r.map λn=>AV.sh (.int n)))=_
 rw[qm,HG]
def V6(rs:Λ):(rs.map dI).map AV.sh=rs.map λr=>AV.sh (dI r):=by rw[mPq];rfl
def Hb(rs:Λ):(rs.map λr=>AV.sh (dI r)).map nK=rs.map dI:=by rw[mPq];exact mCq λn _=>by simp
def pD(ns:Ϝ):nK (aI ns)=dI ns:=by
 show nK (.ow (ns.map λn=>AV.sh (.int n)))=_
 rw[qm,HG]
def Ue(i j:Int):yX (.int i) (.int j)=some (.int (i+j)):=vk _
def Um(i j:Int):HB (.int i) (.int j)=some (.int (i-j)):=vk _
def Y5(i j:Int):dLt (.int i) (.int j)=some (.bl (decide (i<j))):=vk _
def Zc(i j:Int):J6 (.int i) (.int j)=some (.bl (decide (j<i))):=vk _
def XE(i j:Int):dGe (.int i) (.int j)=some (.bl (decide (j<=i))):=vk _
noncomputable def Ye(i:Int):Am (.int i)=some (.int (-i)):=rfl
def p40:K5 (.int 10) (.int 40)=some (.int (10 ^ 40)):=qj ⟨by decide,by decide,by decide⟩ _
def p60:K5 (.int 10) (.int 60)=some (.int (10 ^ 60)):=qj ⟨by decide,by decide,by decide⟩ _
def Iw{i j:Int}(s:-(2 ^ 64)<i)(t:i<2 ^ 64):wa (.int i) (.int j)=some (.int (i*j)):=qj (.inl ⟨s,t⟩) _
def Nz{i j:Int}(s:-(2 ^ 64)<j)(t:j<2 ^ 64):wa (.int i) (.int j)=some (.int (i*j)):=qj (.inr ⟨s,t⟩) _
def rP{i j:Int}(h:0<j):sD (.int i) (.int j)=some (.int (i % j)):=qj h _
def Ew{i j:Int}(h:0<j)(s:j<1073741824):HF (.int i) (.int j)=some (.int (i / j)):=qj ⟨h,s⟩ _
def aa8:(0:Nat)<=pe:=by decide
def aab:(1:Nat)<=pe:=by decide
def ZU:(2:Nat)<=pe:=by decide
def aaV:(3:Nat)<=pe:=by decide
def aal:(5:Nat)<=pe:=by decide
def oM{n:Nat}(h:n<=16777216):n<=pe:=h
def zY{n:Nat}(h:n<16777216):n<pe:=h
def zc{n:Nat}(h:n<1000000):CQ [.int (n:Int)]=some (oK 0 n):=by
 have e:CQ [.int (n:Int)]=some (oK 0 (n:Int).toNat):=qj ⟨by lia,by lia⟩ _
 rw[e,cG]
def JJ(n:Nat):oK 0 n=(aU n).map λi:Nat=>D.int i:=by
 unfold oK;exact mCq λi _=>by rw[fA]
def aaF(s n:Nat)(m:MS)(ds:List D):oX s n m ds=if ds.length=s then (m (ds.map (λd=>some (.sh d))++az (n-ds.length) none)).bind λo=>match o with
  | .rt a=>some a
  | .nx _=>some (.sh .non)
  |_=>none
 else none:=rfl
noncomputable def gt1{α:Type}{a b:α}{l:List α}:(a::b::l)[1]?=some b:=rfl
noncomputable def st1{α:Type}{a b v:α}{l:List α}:(a::b::l).set 1 v=a::v::l:=rfl
def gt2{α:Type}{a b c:α}{l:List α}:(a::b::c::l)[2]?=some c:=rfl
def Fb{α:Type}{a b c v:α}{l:List α}:(a::b::c::l).set 2 v=a::b::v::l:=rfl
def gt3{α:Type}{a b c d:α}{l:List α}:(a::b::c::d::l)[3]?=some d:=rfl
def st3{α:Type}{a b c d v:α}{l:List α}:(a::b::c::d::l).set 3 v=a::b::c::v::l:=rfl
def gt4{α:Type}{a b c d:α}{l:List α}{n:Nat}:(a::b::c::d::l)[n+4]?=l[n]?:=rfl
def st4{α:Type}{a b c d v:α}{l:List α}{n:Nat}:(a::b::c::d::l).set (n+4) v=a::b::c::d::l.set n v:=rfl
def T4{K:Ζ}{f:MF}(h:∀ns:Ϝ,ns.length<=63->f [.scr ns]=i4 true):∀vs H Q E,Nq K vs H Q E->oR K f vs H Q E:=by
 rintro vs H Q E ⟨a,ns,rfl,s,hl,q⟩;refine⟨H,[.scr ns],_,.refl _,.cons (.scr s) .nil,h ns hl,λt u v F _ _ _ _ r _ _=>?_⟩
 cases r.sh_inv.2;exact q u
end Z
namespace Mr
open PySem PySem.Spec PyProof.Rows L2
section
variable {X:Cx}{tg:Expr}
def Kg{α:Type}(P:α->Prop):List α->Prop
 | []=>True
 |a::l=>P a/\Kg P l
theorem Kg.mem{α:Type}{P:α->Prop}:∀{l:List α},Kg P l->∀a∈l,P a
 | [],_,a,h=>by cases h
 |b::l,hp,a,h=>(ag.mp h).elim (λe=>e ▸ hp.1) (Kg.mem hp.2 a)
def qa.of{scope:jZ}{cl:List (Str×Addr)}{x:Str}{N:List Str}{fr:Θ}(t:N.Nodup)(u:N[0]?=some x)(z:N.length=fr.length+1)
  (B:Kg (λp=>X.env.cells.lookup p.1=some p.2) cl) (s:Kg (λp=>(p.2 = .cell∨p.2 = .free)->∃c,cl.lookup p.1=some c) (kc scope X.env).names)
  (E:Kg (λp=>X.N[p.1]?=some p.2/\X.env.scope.names.lookup p.2=some .cell/\(kc scope X.env).names.lookup p.2=some .cell) (fr.zip (N.drop 1))):qa X scope cl x N fr where
 names:=t
 own:=u
 len:=z
 sub:=λy c e=>B.mem (y,c) (PySem.mem_of_lookup e)
 has:=λy e=>by
  rcases e with e|e
  .exact s.mem _ (PySem.mem_of_lookup e) (.inl rfl)
  .exact s.mem _ (PySem.mem_of_lookup e) (.inr rfl)
 get:=λk j y G H=>by
  have I:(j,y)∈fr.zip (N.drop 1):=by
   refine mGq (i:=k) ?_;rw[fS];exact⟨G,by rw[cz,eC];exact H⟩
  exact E.mem _ I
end
end Mr
namespace Mr
open PySem PySem.W PySem.Spec PyProof.Rows L2
abbrev g2(K:Ζ):TG:=LS K 2 (xW (qP 0) (xW (qP 1) Lm))
end Mr
namespace Xe
open PySem PySem.Spec PySem.W PyProof.Rows L2 Mr
section
variable {X:Cx}
def Z2(o:Obj)(d:Addr)(kvs:List (nT×V)):It:=
  ⟨λi H=>H d=some (.frz o (.dK kvs))/\∃p,kvs[i]?=some p,
   λi H x s=>s=H/\∃p,kvs[i]?=some p/\x=kV p.1,
   λi H=>H d=some (.frz o (.dK kvs))/\kvs.length<=i⟩
def Po{P:jq}{w:ju}{K:Frag}{tg:Expr}(o:Obj)(d x:Addr)(kvs:List (nT×V))(vs:List (nT×Value))(ep:Nat)(hne:d≠x)
  (ho:∀h:Heap,h.get? d=some o->h.DictAt (oW P w) d vs ep) (kv:KV kvs vs):Dv P w K tg (Z2 o d kvs) [x] x (λi h=>h.IsKeyIter x d i vs.length ep) where
 mem:=by simp
 obj:=λi h st b hb=>by
  have e:b=x:=by simpa using hb
  subst e;obtain⟨J,e,c,dd⟩:=st;exact⟨J,e,λv z=>by rw[dd]at z;cases z⟩
 keep:=λi h h' st k=>by
  obtain⟨J,e,c,dd⟩:=st;exact⟨J,k x (by simp) _ e,c,dd⟩
 item:=by
  intro X M hw O hc i nu s σ H E I L st Q;subst M hw O;obtain⟨hd,p,hp⟩:=Q;have R:s.heap.get? d=some o:=(show pR X.prog X.w H s.heap d (.frz o (.dK kvs))from I.hok d _ hd).1
  obtain⟨u,hx,ru⟩:=PJ kv hp;obtain⟨S,U,f2,Y,f4,f5⟩:=L x (by simp)
  refine wpAny_pyNext_dict_item st (ho _ R) hx λkey h' B G sb=>?_
  have I1:L2.Inv X nu σ H { s with heap:=h' }:=I.turned (t':=s.toks) (λb o hb e=>(sb.2 b hb).trans e) S U Y f4 f5
  have rk:oC (kV p.1) key:=by
   rcases pE B with⟨j,t,e,rfl⟩|⟨z,t,e,rfl⟩
   .rw[e];exact⟨t,rfl⟩
   .rw[e];exact⟨t,rfl⟩
  obtain⟨J,e,c,dd⟩:=id G;exact⟨key,rfl,Gv (s:={ s with heap:=h' }) e c dd (by decide) ⟨_,H,I1,rk,⟨rfl,p,hp,rfl⟩,G,λb hb=>(L b hb).1⟩⟩
 done:=by
  intro X M hw O hc i nu s σ H E I L st Q;subst M hw O;obtain⟨hd,hl⟩:=Q;have R:s.heap.get? d=some o:=(show pR X.prog X.w H s.heap d (.frz o (.dK kvs))from I.hok d _ hd).1
  have l:=Paired.length kv;obtain⟨S,U,f2,Y,f4,f5⟩:=L x (by simp)
  exact wpAny_pyNext_dict_end (I.ok.hd hc) st (ho _ R) (bG (by lia)) λh' eb=>⟨rfl,I.turned (t':=s.toks) (λb o hb e=>eb b o hb e) S U Y f4 f5⟩
 self:=λ_ _ _ _ _ st h=>wpAny_pyIter_keyiter st h
def WM(te:TE):TI:=λσ H R=>te σ H λx s=>∃d kvs,x = .ref d/\s d=some (.dK kvs)/\∀o,R (Z2 o d kvs) (om s d (.frz o (.dK kvs)))
def Np{tg o:Expr}{te:TE}(U:PE X o te):PI X tg o (WM te):=by
 intro Q s σ H R I h;refine thn (U Q s σ H _ I h) λv t O=>?_
 obtain⟨x,S,L,Y,d,B,ex,ha,q⟩:=O;subst ex;obtain rfl:=(show v=aR d from Y)
 obtain⟨hz,sa,G,kv,dd⟩:=(show pR X.prog X.w S t.heap d (.dK B)from L.hok d _ ha)
 obtain⟨M,E,es,z,rest⟩:=dd.dictAt;have P:∀h:Heap,h.get? d=some E->h.DictAt (oW X.prog X.w) d G M:=λh e=>⟨E,es,e,rest⟩
 have J:d<t.heap.objs.size:=aj z;refine wpAny_pyIter_dict sa (P _ z) ?_;have kp:∀b u,t.heap.get? b=some u->(t.heap.push { cls:=.type "dict_keyiterator", data:=.fields #[.ref d,.int 0 0,.int G.length 0,.int M 0] }).get? b=some u:=λb u e=>af _ e
 have I2:L2.Inv X Q σ (om S d (.frz E (.dK B))) { t with heap:=t.heap.push { cls:=.type "dict_keyiterator", data:=.fields #[.ref d,.int 0 0,.int G.length 0,.int M 0] } }:=
  (L.kept (t':=t.toks) kp).write (x:=d) (e:=d) (o:=.frz E (.dK B)) (t':=t.toks) (by rw[ha];trivial) (.inl rfl) (λb u _ e=>e) ⟨_,kp _ _ z⟩ ⟨kp _ _ z,hz,sa,G,kv,(P _ (kp _ _ z)).dictOf⟩
 refine⟨t.heap.objs.size,[t.heap.objs.size],_,_,_,rfl,I2,Po E d _ B G M (aA J) P kv,?_,λb hb=>?_,q E⟩
 .exact⟨_,aC _ rfl,rfl,rfl⟩
 .have e:b=t.heap.objs.size:=by simpa using hb
  subst e;exact L.fpOk (aa _) (by rw[nC (dh J)];exact L.hok.fresh (aa _))
end
end Xe
namespace Mr
open PySem PySem.Spec PyProof.Rows L2
section
variable {X:Cx}
def K9{ys:List Str}:∀{us:Ξ},ot (ys.map V.str) us->StrsAre us ys:=by
 induction ys with
 |nil=>intro us r;rw[cj]at r;cases r;exact .nil
 |cons n ns s=>
  intro us r;rw[ai]at r;cases r with
  |cons u x=>
   obtain⟨t,e⟩:=u;subst e;exact .cons n t (s x)
def WV(K:Ζ):V->List V->Hp->VK->Prop:=λx vs H Q=>∃(s:Str) (a:Addr) (ys:List Str),x = .str s/\vs=[.ref a]/\qh K H a (ys.map V.str)/\(ys.map (·.length)).sum+ys.length*s.length<=16777216/\Q (.str (Txt.join s ys)) H
def Bh:Wx X "str.join" (WV X.K):=by
 intro M s σ H x O v P Q I z r h;obtain⟨B,a,R,rfl,rfl,E,hl,q⟩:=h;obtain⟨t,rfl⟩:=z;obtain⟨u,rfl,G⟩:=sk r;cases G;obtain⟨J,L,p,S⟩:=I.list E;exact join_list p.isList (by simpa using K9 L) hl λU k=>⟨.str _,H,I.tok _,⟨_,rfl⟩,q⟩
end
end Mr
namespace Z
open PySem L2 Mr
def acZ:D->D->Option D
 | .str i,.str j=>uJ (i.length+j.length<=pe) (some (.str (i++j)))
 |_,_=>none
def adf:D->D->Option D
 | .str z,.int i=>uJ (z.length<=pe) ((atI z.cps.toList i).map λc=>.str ⟨#[c]⟩)
 |_,_=>none
def CK:List D->Option D
 | [.int i]=>uJ (i.natAbs.log2<1920) (some (.str (toString i)))
 |_=>none
def As:List D->Option (List Str)
 | []=>some []
 | .str i::ds=>(As ds).map (i :: ·)
 |_=>none
theorem Fi:∀{ds:List D}{ns:List Str},As ds=some ns->ds=ns.map .str
 | [],ns,h=>by cases h;rfl
 |d::ds,ns,h=>by
  cases d with
  |str i=>
   obtain⟨u,s,t⟩:=oMq.mp (show(As ds).map (i :: ·)=some ns from h)
   subst t;rw[Fi s];rfl
  |_=>cases h
def EM(ns:List Str):As (ns.map .str)=some ns:=by
 induction ns with
 |nil=>rfl
 |cons n ns s=>show(As (ns.map .str)).map (n :: ·)=_;rw[s];rfl
theorem zD{K:Ζ}{H:Hp}:∀{ns:List Str}{vs:List V},oA K H (ns.map .str) vs->vs=ns.map V.str
 | [],vs,h=>h.nil_inv
 |n::ns,vs,h=>by
  obtain⟨v,u,rfl,s,t⟩:=oA.cons_inv (d:=.str n) (ds:=ns.map .str) h;cases s;rw[zD t];rfl
def yC:D->List D->Option D
 | .str s,[.list ds]=>(As ds).bind λys=>uJ ((ys.map (·.length)).sum+ys.length*s.length<=16777216) (some (.str (Txt.join s ys)))
 |_,_=>none
section
variable {K:Ζ}
def Y2:Sk K (λxs H Q=>∃i,xs=[.int i]/\i.natAbs.log2<1920/\Q (.str (toString i)) H) CK:=by
 intro u H Q x d r e q;unfold CK at e;split at e
 .obtain⟨v,z,rfl,s,t⟩:=r.cons_inv;rw[t.nil_inv];cases s;rcases nU e with⟨h,e⟩|e
  .cases e;exact⟨_,rfl,h,q _ .str⟩
  .cases e
 .cases e
def U1:BmD K (WV K) yC:=by
 intro x J H Q L M d u z e q;unfold yC at e;split at e
 .obtain⟨B,E,e⟩:=oBq.mp e;rcases nU e with⟨h,e⟩|e
  .cases e;obtain⟨v,O,rfl,s,G⟩:=z.cons_inv;rw[G.nil_inv];cases u;rw[Fi E]at s;obtain⟨p,P,rfl,t,I⟩:=s.list_inv;rw[zD I]at t;exact⟨_,p,B,rfl,rfl,qh.of t,h,q _ .str⟩
  .cases e
 .cases e
end
def SB(x:Str):G4 [.str x,.ty "str"]=some (.bl true):=by simp[G4,isT]
def T8(x:Str):Zz "str" (.str x)=true:=rfl
def Z4(i:Int):CK [.int i]=uJ (i.natAbs.log2<1920) (some (.str (toString i))):=rfl
def Qx(s:Str)(ds:List D):yC (.str s) [.list ds]=(As ds).bind λys=>uJ ((ys.map (·.length)).sum+ys.length*s.length<=16777216) (some (.str (Txt.join s ys))):=rfl
def UO(c:MT)(body:MS)(n:Nat)(S:AS):rX c body (n+1) S=(c S).bind λx=>if x.1=true then (body x.2).bind λo=>match o with
   | .nx s=>rX c body n s
   | .ct s=>rX c body n s
   | .bk s=>some (.nx s)
   | .rt a=>some (.rt a)
  else some (.nx x.2):=rfl
end Z
namespace Z
open PySem L2 Mr Xe
inductive Res where
 |ok (a:AV)|ex (c:Str) (fs:List (Str×Int))
abbrev MFx:=List D->Option Res
inductive Wf where
 |ok (o:Qd)|ex (c:Str) (fs:List (Str×Int))
abbrev MX:=AS->Option Wf
noncomputable def kD:nT->D
 | .inl i=>.int i
 | .inr x=>.str x
def Vu{K:Ζ}{H:Hp}(k:nT):pM K H (kD k) (kV k):=by
 cases k with
 |inl i=>exact .int
 |inr x=>exact .str
section
variable {K:Ζ}{te tf:TE}{k:MK}{tb:TS}{body:MS}{x y:Nat}
def oI.fix{H₀ t Hf H:Hp}{S:AS}{σ:St}{G:List Δ}(R:oI K H₀ t Hf S σ H G){p:Addr}{o:HO}(M:p∉G.flatten)(O:Hf p=none)(I:H₀ p=none):oI K H₀ t (om Hf p o) S σ (om H p o) G:=by
 have s:ox Hf (om Hf p o):=sM O;refine⟨R.len,R.lenF,λi P e=>?_,R.emp,R.nd,R.fresh,λb u z=>?_,λb u z=>?_,λb Q J=>?_,R.sf.trans s⟩
 .obtain⟨v,F,U,L,r⟩:=R.rep i P e;have E:∀q∈F,q≠p:=λq B z=>M (by rw[←z];exact mFq.mpr ⟨F,mGq L,B⟩)
  exact⟨v,F,U,L,r.keep s (λq B=>nC (E q B)) λq B=>by rw[nC (E q B)];exact(r.owned q B).2⟩
 .by_cases hb:b=p
  .subst hb;rw[nG]at z ⊢;exact z
  .rw[nC hb]at z ⊢;exact R.sub b u z
 .have hb:b≠p:=λq=>by rw[q,I]at z;cases z
  rw[nC hb];exact R.fr b u z
 .have hb:b≠p:=λq=>J (by rw[q];exact I)
  rw[nC hb];exact R.lim b Q J
end
def aaz(f:AV->Option Wf):Res->Option Wf
 | .ok r=>f r
 | .ex c fs=>some (.ex c fs)
def adx(f:MFx)(a:MA):MX:=λS=>(a S).bind λx=>(f (x.1.map nK)).bind (aaz λr=>some (.ok (.rt r)))
def Co:D->Option Str
 | .str x=>some x
 |_=>none
def JZ{d:D}{x:Str}(h:Co d=some x):d = .str x:=by
 cases d <;> simp[Co]at h
 rw[h]
def xu:D->List D->Option D
 | .str a,[.str b]=>some (.bl (Txt.startswith a b))
 |_,_=>none
def Lw:D->D->Option D
 | .str i,.str j=>some (.bl (!(Builtin.Str.occurrences j i 0 j.length 1).isEmpty))
 |_,_=>none
def abm:D->D->Option D
 | .str i,.str j=>some (.bl (!(!(Builtin.Str.occurrences j i 0 j.length 1).isEmpty)))
 |_,_=>none
def adb(x y:D):Option D:=match y with
 | .non=>(match x with|.non=>some (.bl true)|.int _=>some (.bl false)|.str _=>some (.bl false)|.bl _=>some (.bl false)|.list _=>some (.bl false)|.tup _=>some (.bl false)|_=>none)
 |_=>none
def Fz:List D->Option D
 | [.str x]=>(intText? x).bind λn=>uJ (x.length<=640) (some (.int n))
 |_=>none
def abj:D->List D->Option D
 | .str a,[.str b]=>((Builtin.Str.occurrences a b 0 a.length 1).head?).map λi=>.int (i:Nat)
 |_,_=>none
def xH:List D->Option (List Bool)
 | []=>some []
 | .bl b::ds=>(xH ds).map (b :: ·)
 |_=>none
def IW:List D->Option D
 | [.list ds]=>(xH ds).map λbs=>.bl (bs.all id)
 |_=>none
theorem DM:∀{ds:List D}{bs:List Bool},xH ds=some bs->ds=bs.map .bl
 | [],bs,h=>by cases h;rfl
 |d::ds,bs,h=>by
  cases d with
  |bl b=>
   obtain⟨u,s,t⟩:=oMq.mp (show(xH ds).map (b :: ·)=some bs from h)
   subst t;rw[DM s];rfl
  |_=>cases h
def yD(bs:List Bool):xH (bs.map .bl)=some bs:=by
 induction bs with
 |nil=>rfl
 |cons b bs s=>show(xH (bs.map .bl)).map (b :: ·)=_;rw[s];rfl
theorem yV{K:Ζ}{H:Hp}:∀{bs:List Bool}{vs:List V},oA K H (bs.map .bl) vs->vs=bs.map V.bl
 | [],vs,h=>h.nil_inv
 |b::bs,vs,h=>by
  obtain⟨v,u,rfl,s,t⟩:=oA.cons_inv (d:=.bl b) (ds:=bs.map .bl) h;cases s;rw[yV t];rfl
section
variable {K:Ζ}
def NY:BmD K M8 xu:=by
 intro x B H Q E G d s t e q;unfold xu at e;split at e
 .cases e;obtain⟨v,I,rfl,u,z⟩:=t.cons_inv;obtain rfl:=z.nil_inv;cases s;cases u;exact⟨_,_,rfl,rfl,q _ .bl⟩
 .cases e
def XU:E8 K (λx y H Q=>∃i j,x = .str i/\y = .str j/\Q (.bl (!(Builtin.Str.occurrences j i 0 j.length 1).isEmpty)) H) Lw:=by
 intro x y H Q u z d s t e q;unfold Lw at e;split at e
 .cases e;cases s;cases t;exact⟨_,_,rfl,rfl,q _ .bl⟩
 .cases e
def UR:Sk K (λxs H Q=>∃x n,xs=[.str x]/\PySem.intText? x=some n/\x.length<=640/\Q (.int n) H) Fz:=by
 intro z H Q B d r e q;unfold Fz at e;split at e
 .obtain⟨n,s,e⟩:=oBq.mp e;rcases nU e with⟨h,e⟩|e
  .cases e;obtain⟨v,E,rfl,t,u⟩:=r.cons_inv;rw[u.nil_inv];cases t;exact⟨_,n,rfl,s,h,q _ .int⟩
  .cases e
 .cases e
def P1:Sk K (λxs H Q=>∃(a:Addr) (bs:List Bool),xs=[.ref a]/\qh K H a (bs.map V.bl)/\Q (.bl (bs.all id)) H) IW:=by
 intro B H Q E d r e q;unfold IW at e;split at e
 .obtain⟨bs,u,e⟩:=oMq.mp e;cases e;obtain⟨v,G,rfl,s,x⟩:=r.cons_inv;rw[x.nil_inv];rw[DM u]at s;obtain⟨p,I,rfl,t,z⟩:=s.list_inv;rw[yV z]at t;exact⟨p,bs,rfl,qh.of t,q _ .bl⟩
 .cases e
def UD(a:ME)(lo hi:MO):ME:=λS=>(a S).bind λx=>(lo x.2).bind λy=>(hi y.2).bind λz=>(Co x.1).bind λt=>uJ (t.length<=pe) (some (.str (Txt.slice t y.1 z.1),z.2))
def Xk{te:TE}{E th:TO}{a:ME}{lo hi:MO}(ha:SR K te a)(s:SO K E lo)(u:SO K th hi):SR K (tSl abc te E th) (UD a lo hi):=by
 intro H₀ B Hf S σ H Fs d S' R e Q q;obtain⟨x,I,e⟩:=oBq.mp e;obtain⟨y,J,e⟩:=oBq.mp e;obtain⟨z,L,e⟩:=oBq.mp e;obtain⟨t,M,e⟩:=oBq.mp e;rcases nU e with⟨h,e⟩|e
 .cases e;refine ha R (d:=x.1) (S':=x.2) I _ λO H1 Fs1 v P U G=>s U (o:=y.1) (S':=y.2) J _ λX H2 Fs2 Y R2=>u R2 (o:=z.1) (S':=z.2) L _ λHf3 H3 Fs3 t3 R3=>?_
  rw[JZ M]at G;cases G;exact⟨t,rfl,by rw[rB];exact h,q _ _ _ _ ((P.trans Y).trans t3) R3 .str⟩
 .cases e
def C1:D->List D->Option (List Str)
 | .str a,[.str b]=>uJ ((b.length == 0)=false/\a.length<=pe/\(Builtin.Str.partsBetween a (Builtin.Str.occurrences a b 0 a.length (a.length+1)) b.length).length<=pe/\(Txt.split a b).length<=pe) (some (Txt.split a b))
 |_,_=>none
def Ei(a:ME)(as:ML):MK:=λS=>(a S).bind λx=>(as x.2).bind λy=>(C1 x.1 y.1).map λws=>(.ow (ws.map λw=>.sh (.str w)),y.2)
theorem FD(H:Hp):∀ns:List Str,oA K H (ns.map .str) (ns.map V.str)
 | []=>⟨rfl,λi d v h=>by simp at h⟩
 |n::ns=>by
  obtain⟨x,u⟩:=FD H ns;refine⟨by simp,λi d v s t=>?_⟩
  cases i with
  |zero=>simp at s t;subst s t;exact .str
  |succ i=>exact u i d v (by simpa using s) (by simpa using t)
def JQ{te:TE}{B:TA}{a:ME}{as:ML}(ha:SR K te a)(L:Rm K B as):SK K (WW K "str" PM te B) (Ei a as):=by
 intro H₀ u Hf S σ H Fs av S' R e Q q;obtain⟨x,M,e⟩:=oBq.mp e;obtain⟨y,O,e⟩:=oBq.mp e;obtain⟨ws,t,e⟩:=oMq.mp e;cases e;refine ha R (d:=x.1) (S':=x.2) M _ λP H1 Fs1 v E U z=>?_
 unfold C1 at t;split at t
 .rename_i s b X Y;rcases nU t with⟨h,t⟩|t
  .cases t;rw[X]at z;have hT:=QC (T:= "str") (d:=.str s) rfl z;cases z;refine⟨hT,L U (ds:=y.1) (S':=y.2) O _ λHf2 H2 Fs2 vs G R2 I=>?_⟩
   rw[Y]at I;obtain⟨v,us,rfl,h1,h2⟩:=I.cons_inv;obtain rfl:=h2.nil_inv;cases h1;refine⟨s,b,rfl,rfl,h.1,by rw[rB];exact h.2.1,by rw[rB];exact h.2.2.1,by rw[rB];exact h.2.2.2,λp J=>?_⟩
   obtain⟨t3,R3,n1,n2,n3⟩:=R2.new (o:=.lst ((Txt.split s b).map V.str)) J;have e4:(Txt.split s b).map (λw=>AV.sh (.str w))=((Txt.split s b).map D.str).map AV.sh:=by rw[mPq];rfl
   rw[e4]at q;exact q _ _ _ (.ref p) [p] ((E.trans G).trans t3) R3 (ou.new nG n1 (FD _ _)) ((wZ.one R2 J).back (E.trans G))
  .cases t
 .cases t
def zA(x:Str):List D:=x.cps.toList.map λc=>.str ⟨#[c]⟩
def B2(x:Str):(zA x).length=x.cps.size:=by unfold zA;rw[lMq,ah]
def OS{x:Str}{i:Nat}{c:Nat}(h:x.cps[i]?=some c):(zA x)[i]?=some (.str ⟨#[c]⟩):=by
 unfold zA;rw[gMq,ao,h];rfl
def iSg(a:ME):MI:=λS=>(a S).bind λx=>(Co x.1).map λt=>(zA t,x.2)
def Rp{tf:TT}{te E:TE}{G:MT}{I:MK}{fr:Θ}{a:ME}(ha:SR K E a)(O:EU K tf G)(P:SK K te I):SK K (D8 (aaC E) fr tf te) (pJ (iSg a) fr G I):=by
 intro H₀ B Hf S σ H Fs av S' R e Q q;obtain⟨y,u,e⟩:=oBq.mp e;obtain⟨z,U,u⟩:=oBq.mp u;obtain⟨x,X,u⟩:=oMq.mp u;subst u;obtain⟨S2,Y,e⟩:=oBq.mp e;obtain⟨cap,e4,e⟩:=oBq.mp e;rcases nU e with⟨hl,e⟩|e
 .obtain⟨avs,e5,e⟩:=oMq.mp e;cases e;refine ha R (d:=z.1) (S':=z.2) U _ λHf1 H1 Fs1 v J R1 L=>?_
  rw[JZ X]at L;cases L;obtain⟨Hf2,Fs2,M,R2⟩:=R1.fzAll Y;refine⟨x,rfl,wW (K:=K) O P R2 e4 hl e5 (λi H s hi=>(by rw[B2]at hi;exact hi)) (λH s=>(by rw[B2];exact aa _)) (λi H x' H' s hi y=>?_) λHf' H' v F t R' r o=>q _ _ _ v F ((J.trans M).trans t) R' r (o.back (J.trans M))⟩
  obtain⟨y1,c,y2,y3⟩:=y;exact⟨y1,_,OS y2,by rw[y3];exact .str⟩
 .cases e
def acC(x:Nat)(a:ME)(body:MS):MS:=λS=>(a S).bind λy=>(Co y.1).bind λt=>qN x body (zA t) y.2
def Ld(x y:Nat)(body:MX):Nat->List D->AS->Option Wf
 |_,[],S=>some (.ok (.nx S))
 |i,d::ds,S=>(body ((S.set x (some (.sh (.int i)))).set y (some (.sh d)))).bind λo=>match o with
  | .ok (.nx S')=>Ld x y body (i+1) ds S'
  | .ok (.ct S')=>Ld x y body (i+1) ds S'
  | .ok (.bk S')=>some (.ok (.nx S'))
  | .ok (.rt a)=>some (.ok (.rt a))
  | .ex c fs=>some (.ex c fs)
def acP(x y:Nat)(k:MK)(body:MX):MX:=λS=>(rE k S).bind λz=>(qX (nK z.1)).bind λds=>Ld x y body 0 ds z.2
end
def PX(a b:Str):xu (.str a) [.str b]=some (.bl (Txt.startswith a b)):=rfl
def Z3(i j:Str):Lw (.str i) (.str j)=some (.bl (!(Builtin.Str.occurrences j i 0 j.length 1).isEmpty)):=rfl
def Xx(x:Str):Fz [.str x]=(intText? x).bind λn=>uJ (x.length<=640) (some (.int n)):=rfl
def W5(ds:List D):IW [.list ds]=(xH ds).map λbs=>.bl (bs.all id):=rfl
def Oo(x:Str):Co (.str x)=some x:=rfl
def aaN(S:AS)(a:ME)(lo hi:MO):UD a lo hi S=(a S).bind λx=>(lo x.2).bind λy=>(hi y.2).bind λz=>(Co x.1).bind λt=>uJ (t.length<=pe) (some (.str (Txt.slice t y.1 z.1),z.2)):=rfl
def Wi(S:AS)(a:ME)(as:ML):Ei a as S=(a S).bind λx=>(as x.2).bind λy=>(C1 x.1 y.1).map λws=>(.ow (ws.map λw=>.sh (.str w)),y.2):=rfl
def acw(S:AS)(a:ME):iSg a S=(a S).bind λx=>(Co x.1).map λt=>(zA t,x.2):=rfl
def SM(K:Ζ)(te:TE)(m:ME):Prop:=∀{H₀ s Hf:Hp}{S:AS}{σ:St}{H:Hp}{z:List Δ}{d:D}{S':AS},oI K H₀ s Hf S σ H z->m S=some (d,S')->∀Q:VK,
 (∀t x u v,ox Hf t->oI K H₀ s t S' σ x u->pM K t d v->Q v x)->te σ H Q
def ZA:AV->Option D
 | .sh d=>some d
 |_=>none
def XB{a:AV}{d:D}(h:ZA a=some d):a = .sh d:=by
 unfold ZA at h;split at h <;> cases h
 rfl
def abq(i:Nat)(b:ME):ME:=λS=>(uB S i).bind λ_=>(b S).bind λy=>(intOf y.1).bind λz=>(uB y.2 i).bind λs=>uJ (0<=z/\z<s.length/\s.length<=pe) ((s[z.toNat]?.bind ZA).map λd=>(d,y.2.set i (some (.ow (s.eraseIdx z.toNat)))))
def M0(i:Nat):ME:=λS=>(uB S i).bind λs=>(s[s.length-1]?.bind ZA).map λd=>(d,S.set i (some (.ow s.dropLast)))
def aaG(kvs:List (nT×D))(k:nT):List (nT×D):=kvs.filter λkv=>decide (kv.1≠k)
def acE(i:Nat)(b:ME):ME:=λS=>(vG S i).bind λ_=>(b S).bind λy=>(sX y.1).bind λkey=>(vG y.2 i).bind λkvs=>(getD kvs key).map λd=>(d,y.2.set i (some (.owd (aaG kvs key))))
section
variable {K:Ζ}
def oz.erase{Hf H:Hp}{as:List AV}{vs:List V}{Gs:List Δ}(r:oz K Hf H as vs Gs)(k:Nat):oz K Hf H (as.eraseIdx k) (vs.eraseIdx k) (Gs.eraseIdx k):=by
 obtain⟨z,B,x⟩:=r;refine⟨by rw[dJ,dJ,z],by rw[dJ,dJ,B],λi b w G u s t=>?_⟩
 rw[List.getElem?_eraseIdx]at u s t;split at u
 .rename_i q;rw[oa q]at s t;exact x i b w G u s t
 .rename_i q;rw[nY q]at s t;exact x (i+1) b w G u s t
def Ly{Gs:List Δ}{k:Nat}(h:Gs[k]?=some []):(Gs.eraseIdx k).flatten=Gs.flatten:=by
 induction Gs generalizing k with
 |nil=>cases h
 |cons g r s=>
  cases k with
  |zero=>
   simp at h;subst h;rfl
  |succ k=>
   rw[gh,fCq,fCq,s (by simpa using h)]
def oI.lose{H₀ s Hf H:Hp}{S:AS}{σ:St}{z:List Δ}(R:oI K H₀ s Hf S σ H z){i k:Nat}{t:List AV}{d:D}(h:S[i]?=some (some (.ow t)))(hk:t[k]?=some (.sh d)) :
  ∃p vs y F',σ[i]?=some (some (.ref p))/\H p=some (.lst vs)/\t.length=vs.length/\vs[k]?=some y/\pM K Hf d y/\oI K H₀ s Hf (S.set i (some (.ow (t.eraseIdx k)))) σ (om H p (.lst (vs.eraseIdx k))) (z.set i F'):=by
 obtain⟨p,vs,B,E,O,P,Q,u,I,U,X⟩:=R.ow h;have lk:k<t.length:=(gSq.mp hk).1;obtain⟨y,J⟩:∃y,vs[k]?=some y:=⟨_,gEg (by rw[←u.1];exact lk)⟩
 obtain⟨G,L⟩:∃G,B[k]?=some G:=⟨_,gEg (by rw[←u.2.1];exact lk)⟩
 obtain⟨x,Y⟩:=(u.2.2 k _ _ _ hk J L).sh_inv;subst x;have M:=Ly L;refine⟨p,vs,y,p::(B.eraseIdx k).flatten,E,P,u.1,J,Y,R.turn E O (by simp) (ou.news nG Q ((u.keepUpd I).erase k)) ?_ ?_⟩
 .rw[M];exact aw.mpr ⟨I,U⟩
 .rw[M];exact X
def Y8{i:Nat}:SM K (WW K "list" Xt (wq i) vd) (M0 i):=by
 intro H₀ s Hf S σ H J d L R e Q q;obtain⟨E,G,e⟩:=oBq.mp e;obtain⟨M,t,e⟩:=oMq.mp e;cases e;obtain⟨a,t,u⟩:=oBq.mp t;have u:=XB u;subst u;obtain⟨p,z,w,O,I,B,hl,hw,x,R2⟩:=R.lose (rh G) t;refine⟨.ref p,I,.inl ⟨rfl,z,qh.of B⟩,p,z,w,rfl,rfl,B,by rw[←hl];exact hw,?_⟩
 rw[zS,hl,zS]at R2;exact q _ _ _ _ (.refl _) R2 x
def RS(i:Nat)(m:ME):MS:=λS=>(m S).map λx=>.nx (x.2.set i (some (.sh x.1)))
def Ua{i:Nat}{te:TE}{m:ME}(h:SM K te m):SS K (Ja te (qP i)) (RS i m):=by
 intro H₀ s Hf S σ H G o R e D hd;obtain⟨x,t,e⟩:=oMq.mp e;cases e;refine h R (d:=x.1) (S':=x.2) t _ λu I Fs1 v z B E=>?_
 exact hd _ _ _ _ z (B.setD i E)
def acD(i:Nat)(m:ME):MS:=λS=>(uB S i).bind λ_=>(m S).bind λx=>(uB x.2 i).bind λs=>uJ (s.length<pe) (some (.nx (x.2.set i (some (.ow (s++[.sh x.1]))))))
def acm(i:Nat)(b:ME)(m:ME):MS:=λS=>(m S).bind λx=>(vG x.2 i).bind λ_=>(b x.2).bind λy=>(vG y.2 i).bind λkvs=>(sX y.1).bind λkey=>
 uJ (kvs.length<pe) (some (.nx (y.2.set i (some (.owd (vh kvs key x.1))))))
end
def Xu(d:D):ZA (.sh d)=some d:=rfl
def Yi(S:AS)(i:Nat):M0 i S=(uB S i).bind λs=>(s[s.length-1]?.bind ZA).map λd=>(d,S.set i (some (.ow s.dropLast))):=rfl
def Xl(S:AS)(i:Nat)(m:ME):RS i m S=(m S).map λx=>.nx (x.2.set i (some (.sh x.1))):=rfl
def D7:MF:=λ_=>none
section
variable {K:Ζ}
def M1{P:jq}{w:ju}{mg:Str->Υ}{base:Heap}{k:Nat}{x:Str}{st:Stmt}{ps:List Str}{f:Addr}{fd:jx}(D:tQ K mg x st ps f fd):Fn P w K mg base k x st ps (oR K D7) f fd:=
 ⟨D,⟨λu H Q E h=>(by obtain⟨Hf,z,a,s,r,e,q⟩:=h;cases e),λA outer s H t B u Q E _ _ _ _ h=>(by obtain⟨Hf,z,a,s,r,e,q⟩:=h;cases e)⟩⟩
end
section
variable {K:Ζ}{H₀ Hf₀ Hf H:Hp}{S:AS}{σ:St}{Fs:List Δ}{te tb:TE}{k:MK}{b:ME}
def oI.poke(R:oI K H₀ Hf₀ Hf S σ H Fs){p:Addr}{o:HO}(pn:Hf p=none)(x:H₀ p=none)(B:p∉Fs.flatten):oI K H₀ Hf₀ Hf S σ (om H p o) Fs:=by
 refine⟨R.len,R.lenF,λj a E=>?_,R.emp,R.nd,R.fresh,λb u e=>?_,λb u e=>?_,R.lim,R.sf⟩
 .obtain⟨w,G,I,t,q⟩:=R.rep j a E;refine⟨w,G,I,t,q.keep (.refl _) (λc s=>nC λe=>B ?_) λc s=>(q.owned c s).2⟩
  subst e;exact oU t s
 .rw[nC λz=>by rw[z,pn]at e;cases e]
  exact R.sub b u e
 .rw[nC λz=>by rw[z,x]at e;cases e]
  exact R.fr b u e
def yd.stays{s z:Hp}{u:List Δ}(t:yd Hf H Fs s z u){p:Addr}(pn:Hf p=none)(B:H p≠none)(x:p∉Fs.flatten):s p=none/\p∉u.flatten:=by
 refine⟨?_,λm=>x (t.own p m)⟩
 by_cases h:s p=none
 .exact h
 .exact((t.gr p pn h).elim (λe=>absurd e B) λm=>absurd m x)
def KP(b:ME)(k:MK):MK:=λS=>(b S).bind λy=>(rE k y.2).bind λx=>(sX y.1).map λkey=>(.owd [(key,nK x.1)],x.2)
def QN(hb:SR K tb b)(hk:SK K te k):SK K (W1 [(tb,te)]) (KP b k):=by
 intro H₀ Hf₀ Hf S σ H Fs av S' R e Q q;obtain⟨y,e1,e⟩:=oBq.mp e;obtain⟨x,O,e⟩:=oBq.mp e;obtain⟨key,e3,e⟩:=oMq.mp e;cases e;have G:SK K te (rE k):=SK.frz hk;intro p E;obtain⟨t0,R0,n1,P,n3⟩:=R.new (o:=.dK []) E;have U:=wZ.one R E;refine hb R0 (d:=y.1) (S':=y.2) e1 _ λHf1 H1 Fs1 w I R1 r1=>?_
 have X:om H p (HO.dK []) p=some (.dK []):=nG;have Y:H1 p=some (.dK []):=I.sh p _ X;obtain⟨a1,a2⟩:=I.stays n1 (by rw[X];simp) n3
 refine G R1 (a:=x.1) (S':=x.2) O _ λJ H2 Fs2 v F L R2 r2 o2=>?_
 have p2:H2 p=some (.dK []):=L.sh p _ Y;obtain⟨b1,b2⟩:=L.stays a1 (by rw[Y];simp) a2
 obtain⟨x1,t⟩:∃d,x.1 = .sh d:=by
  obtain⟨w,_,e⟩:=oMq.mp O;rw[←e];exact⟨_,rfl⟩
 rw[t]at r2;have rv:=r2.sh_inv.2;have hw:=tO e3 r1;subst hw;refine⟨p2,[(key,v)],rfl,by simp,?_⟩
 have s:=(t0.trans I).trans L;have hs:ox H (om H2 p (HO.dK (BW [] [(key,v)]))):=λc u e=>by
  rw[nC λz=>by rw[z,E]at e;cases e]
  exact s.sh c u e
 refine q J _ Fs2 (.ref p) [p] ⟨s.sf,hs,s.own,s.gr⟩ (R2.poke b1 P b2) (.owd nG b1 ⟨rfl,λi d u B M=>?_⟩) ⟨by simp,λc h=>by rw[mSq.mp h];exact P,λc h=>by rw[mSq.mp h];exact b2,λc h=>by rw[mSq.mp h];exact .inl E⟩
 match i,B,M with
 |0,B,M=>
  cases B;cases M;rw[t,pT];exact rv
 |i+1,B,_=>simp at B
def UP{i:Nat}:SM K (aae K "list" Xt (wq i)) (M0 i):=Y8
def yM:List (nT×D)->Option Ϝ
 | []=>some []
 | (.inl i,_)::r=>(yM r).map (i :: ·)
 |_=>none
theorem ID:∀{kvs:List (nT×D)}{ns:Ϝ},yM kvs=some ns->kvs.map (·.1)=ns.map aH
 | [],ns,h=>by cases h;rfl
 | (.inl i,d)::r,ns,h=>by
  obtain⟨u,s,t⟩:=oMq.mp (show(yM r).map (i :: ·)=some ns from h)
  subst t;rw[ai,ai,ID s]
 | (.inr _,_)::_,_,h=>by cases h
def EB(a:ME):MK:=λS=>(a S).bind λx=>match x.1 with
 | .dict kvs=>(yM kvs).map λns=>(.ow ((pZ ns).map λn=>.sh (.int n)),x.2)
 |_=>none
def S0(hb:SR K te b):SK K (Om (λxs H Q=>∃(a:Addr) (kvs:List (nT×V)) (ns:Ϝ),xs=[.ref a]/\H a=some (.dK kvs)/\kvs.map (·.1)=ns.map aH/\∀p,H p=none->Q (.ref p) (om H p (.lst ((pZ ns).map V.int)))) (tp te vd)) (EB b):=by
 intro H₀ Hf₀ Hf S σ H Fs B s R e Q q;obtain⟨x,E,e⟩:=oBq.mp e;obtain⟨G,I⟩:=x;cases G with
 |dict kvs=>
  obtain⟨ns,J,e⟩:=oMq.mp (show(yM kvs).map (λns=>(AV.ow ((pZ ns).map λn=>.sh (.int n)),I))=some (B,s)from e)
  cases e;refine hb R (d:=.dict kvs) (S':=s) E _ λL H1 Fs1 w t u M=>?_
  obtain⟨O,P,rfl,U,X⟩:=M.dict_inv;refine⟨O,P,ns,rfl,U,by rw[←X.1];exact ID J,λp z=>?_⟩
  obtain⟨Y,R4,n1,n2,n3⟩:=u.new (o:=.lst ((pZ ns).map V.int)) z;rw[yB]at q;exact q _ _ _ (.ref p) [p] (t.trans Y) R4 (ou.new nG n1 (rj _)) ((wZ.one u z).back t)
 |_=>cases e
end
def Vm(S:AS)(b:ME)(k:MK):KP b k S=(b S).bind λy=>(rE k y.2).bind λx=>(sX y.1).map λkey=>(.owd [(key,nK x.1)],x.2):=rfl
def WU:D->AS->Option (AV×AS)
 | .dict kvs,S=>(yM kvs).map λns=>(.ow ((pZ ns).map λn=>.sh (.int n)),S)
 |_,_=>none
def Uz(S:AS)(a:ME):EB a S=(a S).bind λx=>WU x.1 x.2:=by
 unfold EB;congr 1;funext x;obtain⟨s,t⟩:=x;cases s <;> rfl
def YA(kvs:List (nT×D))(S:AS):WU (.dict kvs) S=(yM kvs).map λns=>(.ow ((pZ ns).map λn=>.sh (.int n)),S):=rfl
theorem Cg{α:Type}(f:α->Int)(g:α->D):∀l:List α,yM (l.map λx=>(aH (f x),g x))=some (l.map f)
 | []=>rfl
 |x::l=>by
  show(yM (l.map λx=>(aH (f x),g x))).map (f x :: ·)=_
  rw[Cg f g l];rfl
def Rv:D->Option V
 | .non=>some .non
 | .bl b=>some (.bl b)
 | .int i=>some (.int i)
 | .str s=>some (.str s)
 |_=>none
def BX:List D->Option (List V)
 | []=>some []
 |d::ds=>(Rv d).bind λv=>(BX ds).map (v :: ·)
def Xy:D->Option (List D)
 | .list ds=>some ds
 | .tup ds=>some ds
 |_=>none
def Ke(neg:Bool)(x y:D):Option D:=(Rv x).bind λv=>(Xy y).bind λds=>(BX ds).map λvs=>.bl (if neg then !ZD v vs else ZD v vs)
section
variable {K:Ζ}{te:TE}
def Gx{H:Hp}{d:D}{v w:V}(e:Rv d=some v)(r:pM K H d w):w=v/\zJ v=true:=by
 cases d <;> first|(cases e;cases r;exact⟨rfl,rfl⟩)|cases e
theorem yY{H:Hp}:∀{ds:List D}{vs ws:List V},BX ds=some vs->oA K H ds ws->ws=vs/\vs.all zJ=true
 | [],vs,ws,e,r=>by
  cases e;exact⟨r.nil_inv,rfl⟩
 |d::ds,vs,ws,e,r=>by
  obtain⟨v,s,e⟩:=oBq.mp e;obtain⟨G,t,rfl⟩:=oMq.mp e;obtain⟨w,u,rfl,x,z⟩:=r.cons_inv;obtain⟨rfl,B⟩:=Gx s x;obtain⟨rfl,E⟩:=yY t z;exact⟨rfl,by rw[gP,B,E];rfl⟩
def XC(neg:Bool):E8 K (rIn K neg) (Ke neg):=by
 intro x y H Q P J d L E e q;obtain⟨v,M,e⟩:=oBq.mp e;obtain⟨R,s,e⟩:=oBq.mp e;obtain⟨S,G,e⟩:=oMq.mp e;subst e;obtain⟨rfl,I⟩:=Gx M L;cases J with
 |list O=>
  cases s;obtain⟨p,t,rfl,u,z⟩:=E.list_inv;obtain⟨rfl,B⟩:=yY G z;exact⟨p,t,rfl,.inl (qh.of u),I,B,q _ .bl⟩
 |tup O=>
  cases s;obtain⟨p,t,rfl,u,z⟩:=E.tup_inv;obtain⟨rfl,B⟩:=yY G z;exact⟨p,t,rfl,.inr (BZ.of u),I,B,q _ .bl⟩
 |_=>cases s
end
def J5(ns:Ϝ):BX (ns.map D.int)=some (ns.map V.int):=by
 induction ns with
 |nil=>rfl
 |cons n ns s=>rw[ai,BX,s];rfl
def Q7(i:Int)(ns:Ϝ):ZD (.int i) (ns.map V.int)=decide (i∈ns):=by
 unfold ZD
 induction ns with
 |nil=>rfl
 |cons n ns s=>
  rw[ai,cX,s];show(n == i || decide (i∈ns))=_
  by_cases h:i=n
  .subst h;simp
  .have t:¬ n=i:=λz=>h z.symm
   simp[h,t]
def KU(neg:Bool)(i:Int)(ns:Ϝ):Ke neg (.int i) (.list (ns.map D.int))=some (.bl (if neg then !decide (i∈ns)else decide (i∈ns))):=by
 show(BX (ns.map D.int)).map _=_;rw[J5,bR,Q7]
def Nh:D->D->Option D
 | .non,.non=>some (.bl false)
 | .int _,.non=>some (.bl true)
 | .str _,.non=>some (.bl true)
 | .bl _,.non=>some (.bl true)
 | .list _,.non=>some (.bl true)
 | .tup _,.non=>some (.bl true)
 | .dict _,.non=>some (.bl true)
 |_,_=>none
section
variable {K:Ζ}
def VD:E8 K (λx y H Q=>y = .non/\Q (.bl (!decide (x = .non))) H) Nh:=by
 intro x y H Q z B d s t e q;unfold Nh at e;split at e
 all_goals first|(cases e;done)|skip
 .cases e;cases s;cases t;exact⟨rfl,q _ (by simpa using pM.bl)⟩
 .cases e;cases s;cases t;exact⟨rfl,q _ (by simpa using pM.bl)⟩
 .cases e;cases s;cases t;exact⟨rfl,q _ (by simpa using pM.bl)⟩
 .cases e;cases s;cases t;exact⟨rfl,q _ (by simpa using pM.bl)⟩
 .cases e;cases t;obtain⟨p,u,rfl,_⟩:=s.list_inv;exact⟨rfl,q _ (by simpa using pM.bl)⟩
 .cases e;cases t;obtain⟨p,u,rfl,_⟩:=s.tup_inv;exact⟨rfl,q _ (by simpa using pM.bl)⟩
 .cases e;cases t;obtain⟨p,u,rfl,_⟩:=s.dict_inv;exact⟨rfl,q _ (by simpa using pM.bl)⟩
end
section
variable {K:Ζ}{H₀ Hf₀ Hf Hf' H H':Hp}{S S':AS}{σ σ':St}{Fs Fs':List Δ}
noncomputable def ZO(H₀ H:Hp)(F:Δ):Hp:=λb=>if b∈F then H b else H₀ b
def DB{F:Δ}{b:Addr}(h:b∈F):ZO H₀ H F b=H b:=oa h
def xO{F:Δ}{b:Addr}(h:b∉F):ZO H₀ H F b=H₀ b:=nY h
def oI.frame(R:oI K H₀ Hf₀ Hf S σ H Fs){i:Nat}{F:Δ}(s2:Fs[i]?=some F):oI K (ZO H₀ H F) Hf₀ Hf (S.set i none) σ H (Fs.set i []):=by
 have s:=R.kill i;have B:∀q∈F,q∈Fs.flatten:=λq E=>oU s2 E
 refine⟨s.len,s.lenF,s.rep,s.emp,s.nd,λp t=>?_,s.sub,λb u e=>?_,λb G x=>?_,s.sf⟩
 .have hn:p∉F:=λz=>sH R.nd s2 z t
  rw[xO hn];exact s.fresh p t
 .by_cases hb:b∈F
  .rw[DB hb]at e;exact e
  .rw[xO hb]at e;exact R.fr b u e
 .by_cases hb:b∈F
  .exact(R.mem (B b hb)).2
  .rw[xO hb]at x;exact R.lim b G x
noncomputable def DV{α:Type}{l:List α}{i:Nat}{a:α}(h:l[i]?=some a):l.set i a=l:=by
 obtain⟨hk,s⟩:=gSq.mp h;rw[←s];exact ff hk
def oI.unframe(R:oI K H₀ Hf₀ Hf S σ H Fs){i:Nat}{B:AV}{v:V}{F:Δ}(s2:Fs[i]?=some F)(r:ou K Hf H B v F)(nd:F.Nodup)(x:∀q∈F,H₀ q=none)
  (s:oI K (ZO H₀ H F) Hf₀ Hf' S' σ' H' Fs') (E:S'[i]?=some none) (s1:σ'[i]?=some (some v)) (sf:ox Hf Hf') :
  (∀q∈F,H' q=H q)/\ou K Hf' H' B v F/\oI K H₀ Hf₀ Hf' (S'.set i (some B)) σ' H' (Fs'.set i F):=by
 have hk:∀q∈F,H' q=H q:=λq t=>by
  have hn:=(R.mem (oU s2 t)).1;cases I:H q with
  |none=>exact absurd I hn
  |some u=>exact s.fr q u (by rw[DB t];exact I)
 have M:∀q∈F,Hf' q=none:=λq t=>by
  have G:=R.mem (oU s2 t);refine s.lim q ?_ (by rw[DB t];exact G.1)
  cases O:Hf₀ q with
  |none=>rfl
  |some u=>rw[R.sf q u O]at G;exact absurd G.2 (by simp)
 have J:=r.keep sf hk M;refine⟨hk,J,?_⟩;have P:oI K H₀ Hf₀ Hf' (S'.set i none) σ' H' (Fs'.set i []):=by
  rw[DV E,DV (s.emp i E)];refine⟨s.len,s.lenF,s.rep,s.emp,s.nd,λp Q=>?_,s.sub,λb u e=>?_,λb U L=>?_,s.sf⟩
  .have:=s.fresh p Q
   by_cases hb:p∈F
   .exact x p hb
   .rwa [xO hb]at this
  .refine s.fr b u ?_;rw[xO λz=>by rw[x b z]at e;cases e]
   exact e
  .refine s.lim b U ?_;rw[xO λz=>L (x b z)]
   exact L
 refine P.again (F:=F) s1 J nd λq t=>⟨x q t,λm=>?_⟩
 rw[DV (s.emp i E)]at m;have:=s.fresh q m;rw[DB t]at this;exact(R.mem (oU s2 t)).1 this
end
section
variable {K:Ζ}
def pM.fd_inv{H:Hp}{ds:List (nT×D)}{v:V}(h:pM K H (.fd ds) v):∃p o kvs,v = .ref p/\H p=some (.frz o (.dK kvs))/\tw K H ds kvs:=by
 cases h with
 |fd h l e=>exact⟨_,_,_,rfl,h,l,e⟩
def T3:D->Option (List (nT×D))
 | .fd kvs=>some kvs
 |_=>none
def UV{d:D}{kvs:List (nT×D)}(h:T3 d=some kvs):d = .fd kvs:=by
 cases d <;> first|(cases h;rfl)|cases h
def D0(a b:ME):ME:=λS=>(a S).bind λx=>(b x.2).bind λy=>(T3 x.1).bind λkvs=>(sX y.1).bind λkey=>(getD kvs key).map λd=>(d,y.2)
def Q2{t u:TE}{a b:ME}(ha:SR K t a)(hb:SR K u b):SR K (Rz t u) (D0 a b):=by
 intro H₀ s Hf S σ H Fs d S' R e Q q;obtain⟨x,E,e⟩:=oBq.mp e;obtain⟨y,G,e⟩:=oBq.mp e;obtain⟨I,J,e⟩:=oBq.mp e;obtain⟨key,L,e⟩:=oBq.mp e;obtain⟨d',M,e⟩:=oMq.mp e;cases e;refine ha R (d:=x.1) (S':=x.2) E _ λO H1 Fs1 v1 P U z=>hb U (d:=y.1) (S':=y.2) G _ λX H2 Fs2 v2 B R2 Y=>?_
 rw[UV J]at z;obtain⟨p,o,vs,rfl,h1,h2⟩:=(z.mono B.sh).fd_inv;have g:=Bz (key:=key) h2;rw[M]at g;obtain⟨v,g1,g2⟩:=g;exact⟨p,v,rfl,by rw[tO L Y,←g1];exact .inl ⟨vs,key,.inr ⟨o,h1⟩,rfl,rfl⟩,q _ _ _ _ (P.trans B) R2 g2⟩
def Rl{B:Obj}{d:Addr}{kvs:List (nT×V)}{G:Nat}{I:TS}{D:zu}{σ:St}{H:Hp}(s:Nat->St->Hp->Prop)(L:s 0 σ H)(hl:∀i σ H,s i σ H->H d=some (.frz B (.dK kvs)))
  (M:∀i p σ H,kvs[i]?=some p->s i σ H->I { D with nx:=s (i+1),ct:=s (i+1),bk:=D.nx } (σ.set G (some (kV p.1))) H) (hd:∀σ H,s kvs.length σ H->D.nx σ H) :
  ∃W:Nat->Nat->St->Hp->Prop,(∃m,W 0 m σ H)/\∀i m σ H,W i m σ H ->
   ((Z2 B d kvs).stop i H/\D.nx σ H)∨((Z2 B d kvs).go i H/\∃N:St->Hp->Prop,(∀u t,N u t->∃J,J<m/\W (i+1) J u t)/\∀x t,(Z2 B d kvs).yld i H x t->qP G x σ t λE O=>I { D with nx:=N,ct:=N,bk:=D.nx } E O):=by
 refine⟨λi m σ H=>m=kvs.length-i/\i<=kvs.length/\s i σ H,⟨kvs.length,by simp,aJ _,L⟩,?_⟩
 rintro i m σ H ⟨rfl,hi,p⟩;have q:=hl i σ H p
 by_cases z:i<kvs.length
 .refine .inr ⟨⟨q,kvs[i],by simp[z]⟩,s (i+1),λu t P=>⟨kvs.length-(i+1),by lia,rfl,z,P⟩,λv t y=>?_⟩
  obtain⟨rfl,x,Q,rfl⟩:=y;exact M i x σ t Q p
 .have e:i=kvs.length:=by lia
  subst e;exact .inl ⟨⟨q,aa _⟩,hd σ H p⟩
def Ml(x i:Nat)(body:MS):MS:=λS=>(vG S i).bind λkvs=>uJ (x≠i) (qN x body (kvs.map λp=>kD p.1) (S.set i (some (.sh (.fd kvs)))))
def UN{x i:Nat}{tb:TS}{body:MS}(hb:SS K tb body):SS K (O3 (WM (wq i)) (qP x) tb) (Ml x i body):=by
 intro H₀ t Hf S σ H Fs o R e D h;obtain⟨z,e1,e⟩:=oBq.mp e;rcases nU e with⟨hne,e⟩|e
 .have M:=Ai e1;obtain⟨p,s,s1,s2,h1,h2,h3,h4,h5⟩:=R.owd M;refine⟨_,s1,p,s,rfl,h1,λL=>?_⟩
  obtain⟨v,F,t1,t2,r,nd,oo,R1⟩:=R.move M;rw[s2]at t2;cases t2;have R2:=oI.fix R1 (p:=p) (o:=.frz L (.dK s)) h5 h2 h4;have s3:ox Hf (om Hf p (.frz L (.dK s))):=sM h2;have O:tw K (om Hf p (.frz L (.dK s))) z s:=⟨h3.1,λi d v a b=>(h3.2 i d v a b).mono s3⟩
  have R3:oI K H₀ t (om Hf p (.frz L (.dK s))) (S.set i (some (.sh (.fd z)))) σ (om H p (.frz L (.dK s))) (Fs.set i []):=
   R2.again (F:=[]) s1 (.sh (.fd nG O.1 O.2)) bp λq hq=>by cases hq
  have I:z.length=s.length:=by have:=congrArg bV h3.1;simpa using this
  refine Rl (λn B H'=>∃u P E,oI K H₀ t u P B H' E/\ox (om Hf p (.frz L (.dK s))) u/\qN x body ((z.map λp=>kD p.1).drop n) P=some o) ⟨_,_,_,R3,.refl _,e⟩
   (λn B H' ⟨u,P,E,Q,J,_⟩=>Q.sub _ _ (J _ _ nG)) ?_ ?_
  .rintro n w B H' hw ⟨u,P,E,Q,J,U⟩;have hn:n<z.length:=by rw[I];exact(gSq.mp hw).1
   have hk:(z.map λp=>kD p.1)[n]?=some (kD w.1):=by
    have:=congrArg (λl=>l[n]?) h3.1
    simp only[gMq,hw,bR]at this;rw[gMq];cases hd:z[n]? with
    |none=>rw[hd]at this;cases this
    |some dd=>
     rw[hd]at this;rw[bR,show dd.1=w.1 from aL.inj this]
   have hlt:n<(z.map λp=>kD p.1).length:=by rw[lMq];exact hn
   rw[aG hlt,(gSq.mp hk).2]at U;obtain⟨o2,e3,e4⟩:=oBq.mp U;refine hb (Q.setD x (Vu w.1)) e3 _ ?_;cases o2 with
   |nx S2=>exact λG X H2 Fs2 Y R4=>⟨G,S2,Fs2,R4,J.trans Y,e4⟩
   |ct S2=>exact λG X H2 Fs2 Y R4=>⟨G,S2,Fs2,R4,J.trans Y,e4⟩
   |bk S2=>cases e4;exact λG X H2 Fs2 Y R4=>h _ _ _ _ ((s3.trans J).trans Y) R4
   |rt a=>cases e4;exact h
  .rintro B H' ⟨u,P,E,Q,J,U⟩;rw[←I,show z.length=(z.map λp=>kD p.1).length from (lMq _).symm,cO]at U
   cases U;exact h _ _ _ _ (s3.trans J) Q
 .cases e
end
def UT(kvs:List (nT×D)):T3 (.fd kvs)=some kvs:=rfl
def US(S:AS)(a b:ME):D0 a b S=(a S).bind λx=>(b x.2).bind λy=>(T3 x.1).bind λkvs=>(sX y.1).bind λkey=>(getD kvs key).map λd=>(d,y.2):=rfl
def Zm(S:AS)(x i:Nat)(body:MS):Ml x i body S=(vG S i).bind λkvs=>uJ (x≠i) (qN x body (kvs.map λp=>kD p.1) (S.set i (some (.sh (.fd kvs))))):=rfl
end Z
local macro_rules | `(tactic| simp_arith $c:optConfig [$ls,*]$[$l:location]?) => `(tactic| simp $c:optConfig only [Z.vk,Z.aa8,Z.aab,Z.ZU,Z.aaV,Z.aal,Z.ZX,Z.aaA,Z.aaU,Z.acd,Z.abS,Z.aai,Z.rC_,Z.acv,Z.ab2,Z.Xh,Z.aao,Z.YD,Z.ab3,Z.ab6,Z.aa3,Z.acr,Z.Wk,Z.Z6,Z.Y0,Z.XM,Z.VX,Z.aaQ,Z.ZG,Z.ZR,Z.Xi,Z.Zk,Z.OH,Z.ab7,Z.abZ,Z.ab4,Z.Y3,Z.X7,Z.YJ,Z.Ub,Z.Eh,Z.Q5,Z.Rc,Z.WX,Z.Zv,Z.aaB,Z.abH,Z.aad,Z.Z8,Z.aau,Z.YG,Z.Iy,Z.Ow,Z.aas,Z.RI,Z.Yw,Z.YM,Z.aa0,Z.T7,Z.Zn,Z.YI,Z.Y1,Z.aac,Z.acu,Z.Oq,Z.Kf,Z.Qb,Z.NQ,Z.Yn,Z.Ul,Z.VJ,Z.TR,Z.PZ,Z.ab9,Z.K2,Z.YH,Z.Yg,Z.Zd,Z.abL,Z.YY,Z.YF,Z.aaJ,Z.UA,Z.Xo,Z.XO,Z.ZZ,Z.Q8,Z.UU,Z.Q3,Z.Ss,Z.VU,Z.Rn,Z.Wb,Z.Qr,Z.P4,Z.Ue,Z.Um,Z.Y5,Z.Zc,Z.XE,Z.Ye,Z.p40,Z.p60,Z.Da,Z.HG,Z.V3,Z.V6,Z.Hb,Z.VA,Z.Va,Z.Nn,Z.OX,Z.Se,Z.PQ,Z.Ot,Z.HJ,Z.P7,Z.UW,Z.VO,Z.Ry,Z.UI,Z.QE,Z.O5,Z.pT,Z.qm,Z.BD,Z.aaF,Z.tT,Z.L7,Z.OA,gu,Z.gt1,Z.gt2,Z.gt3,Z.gt4,dq,Z.st1,Z.Fb,Z.st3,Z.st4,Option.join_some,bR,gg,lCq,dW,ai,cj,dX,bL,lMq,fT,iM,ez,decide_true,decide_false,aQ,List.replicate_zero,aNq,Z.SB,Z.T8,Z.PX,Z.W5,Z.Oo,Z.aaN,Z.Wi,Z.acw,Z.Xu,Z.Yi,Z.Xl,Z.Vm,Z.Uz,Z.YA,Z.UT,Z.US,Z.Zm,Nat.reduceAdd,Nat.reduceSub,Nat.reduceEqDiff,Nat.reduceLeDiff,List.reduceReplicate,↓reduceIte,reduceCtorEq,$ls,*]$[$l:location]?)
namespace Z
open PySem L2 Mr Xe
structure OU (K:Ζ)(c:Str)(C:Addr):Prop where
 ns:W.nsIn K jr c=some (some (.ref C))
 cl:Pz K C
def V2(c f:Str):D->Option D
 | .ins s fs=>if s=c then fs.lookup f else none
 |_=>none
def RY(c m:Str):AV->Option D
 | .sh (.ins s fs)=>if s=c/\fs.lookup m=none then some (.ins s fs)else none
 |_=>none
section
variable {K:Ζ}{H:Hp}
def pM.ins_inv{c:Str}{fs:List (Str×D)}{v:V}(h:pM K H (.ins c fs) v):∃a C t s,v = .ref a/\W.nsIn K jr c=some (some (.ref C))/\H a=some (.ins C t s)/\fs.map (·.1)=s.map (·.1)/\∀(i:Nat) (d:Str×D) (v:Str×V),fs[i]?=some d->s[i]?=some v->pM K H d.2 v.2:=by
 cases h with
 |ins u h l e=>exact⟨_,_,_,_,rfl,u,h,l,e⟩
theorem Al{f:Str}:∀{fs:List (Str×D)}{s:List (Str×V)},fs.map (·.1)=s.map (·.1)->(∀(i:Nat) (d:Str×D) (v:Str×V),fs[i]?=some d->s[i]?=some v->pM K H d.2 v.2)->(fs.lookup f=none->s.lookup f=none)/\∀d,fs.lookup f=some d->∃v,s.lookup f=some v/\pM K H d v
 | [],[],_,_=>⟨λ_=>rfl,λd h=>by cases h⟩
 | [],_::_,h,_=>by cases h
 |_::_,[],h,_=>by cases h
 | (k,d)::fs,(k',v)::s,h,e=>by
  rw[ai,ai]at h;injection h with t u
  have t:k=k':=t;subst t;obtain⟨x,z⟩:=Al (f:=f) u λi d v a b=>e (i+1) d v (by simpa using a) (by simpa using b)
  rw[iE,iE];cases hk:(f == k)with
  |true=>
   refine⟨λq=>?_,λB q=>?_⟩
   .cases q
   .cases q;exact⟨v,rfl,e 0 _ _ rfl rfl⟩
  |false=>exact⟨x,z⟩
variable {c f m:Str}{C:Addr}{ta:TE}{t:TA}
end
end Z
namespace Xe
open PySem PySem.Spec PySem.W PyProof.Rows L2 Mr
def aaE(C:Addr)(m:Str)(u:TE)(t:TA):TA:=λσ H Q=>u σ H λx s=>∃a z fs,x = .ref a/\s a=some (.ins C z fs)/\fs.lookup m=none/\t σ s λvs B=>Q (x::vs) B
structure MtN (P:jq)(w:ju)(K:Frag)(mg:Str->Υ)(base:Heap)(k:Nat)(C:Addr)(m:Str)(ps:List Str)(sp:Sp)(f:Addr)(fd:jx):Prop where
 cl:Pz K C
 mt:Vs K C m f
 b:uf K fd ps []
 ok:yG P w K mg base S6 k f fd ps sp
section
variable {X:Cx}{k:Nat}{C:Addr}{m:Str}{ps:List Str}{sp:Sp}{f:Addr}{fd:jx}{p pos pos2 pos3 apos:Pos}{o e:Expr}{es:List Expr}{ta:TE}{t:TA}{h₀:lQ}{hs:List lQ}{th:XH}
def aaP{pl:Sem Bool}(G:MtN X.prog X.w X.K X.mg X.base k C m ps sp f fd)(hr:qV k X.A)(z:PE X o ta)(ha:PA X (e::es) t)
  (s:jt (e::es) X.env=(false,eval e X.env)::jt es X.env:=by rfl) (u:(jL pos (jt es X.env)).any (·.1)=false:=by rfl)
  (ht:eval (.Call (.Attribute o m apos) (e::es) [] pos) X.env=(do
   let x ←eval o X.env
   standAt apos.atName
   let (f,first) ←kT [x] (lU x m pl)
   callWith pos f first (jL pos (jt (e::es) X.env)) (backToKw pos (lB [] X.env))):=by rfl):PE X (.Call (.Attribute o m apos) (e::es) [] pos) (DS sp [] E0 (aaE C m ta t)):=
 U6 z G.cl G.mt G.ok hr G.b .nil QW ha s u ht
end
end Xe
namespace Z
open PySem L2 Mr Xe
def Zo(c m:Str)(k:MK)(a:MA):MA:=λS=>(k S).bind λo=>(RY c m o.1).bind λd=>(a o.2).map λx=>(.sh d::x.1,x.2)
section
variable {K:Ζ}{c m:Str}{C:Addr}{ta:TE}{t:TA}
def Wp{o:AV}{d:D}(h:RY c m o=some d):∃fs,o = .sh (.ins c fs)/\d = .ins c fs/\fs.lookup m=none:=by
 unfold RY at h;split at h
 .rename_i u fs;split at h
  .rename_i s;cases h;obtain⟨rfl,s⟩:=s;exact⟨fs,rfl,rfl,s⟩
  .cases h
 .cases h
def oz.cons'{Hf H:Hp}{a:AV}{as:List AV}{v:V}{vs:List V}{F:Δ}{Gs:List Δ}(h:ou K Hf H a v F)(r:oz K Hf H as vs Gs):oz K Hf H (a::as) (v::vs) (F::Gs):=by
 obtain⟨z,B,e⟩:=r;refine⟨by simp[z],by simp[B],λi b w G s u x=>?_⟩
 cases i with
 |zero=>cases s;cases u;cases x;exact h
 |succ i=>exact e i b w G (by simpa using s) (by simpa using u) (by simpa using x)
def Ys{k:MK}{a:MA}(I:OU K c C)(hk:SK K ta k)(ha:SA K t a):SA K (aaE C m ta t) (Zo c m k a):=by
 intro H₀ u Hf S σ H Fs as S' R e Q q;obtain⟨o,O,e⟩:=oBq.mp e;obtain⟨d,P,e⟩:=oBq.mp e;obtain⟨x,U,e⟩:=oMq.mp e;cases e;refine hk R (a:=o.1) (S':=o.2) O _ λX H0 Y v0 F0 t0 E G o0=>?_
 obtain⟨fs,ho,hd,hl⟩:=Wp P;rw[ho]at G;obtain⟨hF,J⟩:=G.sh_inv;obtain⟨L,C',dx,gs,rfl,s,z,B,he⟩:=(J.mono E.sub).ins_inv;rw[I.ns]at s;cases s;refine⟨L,dx,gs,rfl,z,(Al (f:=m) B he).1 hl,ha E (as:=x.1) (S':=x.2) U _ λHf1 H1 Fs1 vs Gs M R1 r1 o1=>?_⟩
 subst hd;refine q _ _ _ (.ref L::vs) ([]::Gs) (t0.trans M) R1 (oz.cons' (.sh (J.mono M.sf)) r1) ?_;rw[fCq,dX];exact o1.back t0
end
def aaT(S:AS)(c m:Str)(k:MK)(a:MA):Zo c m k a S=(k S).bind λo=>(RY c m o.1).bind λd=>(a o.2).map λx=>(.sh d::x.1,x.2):=rfl
end Z
namespace Mr
open PySem L2
open PySem.Spec PyProof.Rows
section
variable {X:Cx}
def Gq(ns:Ϝ):Prop:=(∀n∈ns,0<=n/\n<=1000000)/\ns.length<=1000000
theorem PP:∀{ns:Ϝ}{k:Int},(∀n∈ns,0<=n/\n<=k)->0<=ns.sum/\ns.sum<=k*ns.length
 | [],k,_=>by simp
 |n::ns,k,h=>by
  have t:=h n (by simp)
  have u:=PP (ns:=ns) (k:=k) λm s=>h m (mCo _ s)
  have e:k*((ns.length:Int)+1)=k*ns.length+k:=by rw[Int.mul_add,Int.mul_one]
  rw[du,lCq,show((ns.length+1:Nat):Int)=(ns.length:Int)+1 by lia,e]
  lia
def NR(z:X.calm=true):ur X (.builtin "sum") (λxs H Q=>∃(a:Addr) (ns:Ϝ),xs=[.ref a]/\qh X.K H a (ns.map V.int)/\Gq ns/\Q (.int ns.sum) H):=by
 intro P s σ H xs R Q I r h;obtain⟨a,ns,rfl,B,⟨hb,S⟩,q⟩:=h;obtain⟨u,rfl,E⟩:=sk r;cases E;obtain⟨U,hl,hi,_⟩:=uV I B;obtain⟨xs,e⟩:=hi.allInts.items;have t:ns=xs.toList.map (·.1):=by
  rw[←hi.numsOf,←nums_intItems,←e]
 have x:xs.size=ns.length:=by rw[t,lMq,ah]
 rw[e]at hl;have G:∀j,0<=preSum (numAt xs) j/\preSum (numAt xs) j<=1000000*1000000:=λj=>by
  rw[preSum_eq,←t];have J:=PP (ns:=ns.take j) (k:=1000000) λm L=>hb m (bC L)
  have Y:(ns.take j).length<=ns.length:=by rw[lTq];lia
  refine⟨J.1,?_⟩;have:((ns.take j).length:Int)<=1000000:=by lia
  lia
 refine sum_intList (I.ok.hd z) hl (λj M=>⟨?_,?_⟩) λh' tk O hk=>?_
 .rw[numAt_eq,←t];have:=hb _ (PySem.getD_mem (by rw[←x];exact M):ns.getD j 0∈ns)
  unfold InLong;lia
 .have:=G (j+1);unfold InLong;lia
 .refine⟨.int _,H,I.kept hk,⟨O,rfl⟩,?_⟩;rw[preSum_eq,←t,x,aE];exact q
end
end Mr
namespace Z
open PySem L2 Mr Xe
def Ud:List D->Option D
 | [.list ds]=>(ql ds).bind λns=>uJ (Gq ns) (some (.int ns.sum))
 |_=>none
section
variable {K:Ζ}
def Xv:Sk K (λxs H Q=>∃(a:Addr) (ns:Ϝ),xs=[.ref a]/\qh K H a (ns.map V.int)/\Gq ns/\Q (.int ns.sum) H) Ud:=by
 intro E H Q G d r e q;unfold Ud at e;split at e
 .obtain⟨v,I,rfl,s,u⟩:=r.cons_inv;rw[u.nil_inv];obtain⟨ns,x,e⟩:=oBq.mp e;rcases nU e with⟨z,e⟩|e
  .cases e;rw[tS x]at s;obtain⟨p,J,rfl,t,B⟩:=s.list_inv;rw[qg B]at t;exact⟨p,ns,rfl,qh.of t,z,q _ .int⟩
  .cases e
 .cases e
end
def N6(ns:Ϝ)(h:Gq ns):Ud [.list (ns.map .int)]=some (.int ns.sum):=by
 show(ql (ns.map D.int)).bind (λns=>uJ (Gq ns) (some (D.int ns.sum)))=_
 rw[tT,gg];exact qj h _
def GM:D->Option (List D)
 | .tup ds=>some ds
 |_=>none
def iTp(k:MK):MI:=λS=>(rE k S).bind λy=>(GM (nK y.1)).map λds=>(ds,y.2)
section
variable {K:Ζ}{te tl:TE}{tb:TS}{tf:TT}{mf:MT}{me k:MK}{body:MS}{x:Nat}{fr:Θ}
def KN{H:Hp}{d:D}{ds:List D}{v:V}(e:GM d=some ds)(r:pM K H d v):∃a vs,v = .ref a/\H a=some (.tup vs)/\oA K H ds vs:=by
 cases d with
 |tup u=>
  cases e;obtain⟨p,vs,rfl,s,t⟩:=r.tup_inv;exact⟨p,vs,rfl,s,t⟩
 |_=>cases e
def Oa(hk:SK K tl k)(U:EU K tf mf)(X:SK K te me):SK K (D8 (aam K tl) fr tf te) (pJ (iTp k) fr mf me):=by
 intro H₀ G Hf S σ H Fs av S' R e Q q;obtain⟨y,u,e⟩:=oBq.mp e;obtain⟨z,L,u⟩:=oBq.mp u;obtain⟨ds,M,u⟩:=oMq.mp u;subst u;obtain⟨S2,Y,e⟩:=oBq.mp e;obtain⟨cap,e4,e⟩:=oBq.mp e;rcases nU e with⟨hl,e⟩|e
 .obtain⟨avs,e5,e⟩:=oMq.mp e;cases e;have I:SK K tl (rE k):=SK.frz hk;refine I R (a:=z.1) (S':=z.2) L _ λHf1 H1 Fs1 v F O R1 P o1=>?_
  obtain⟨d,hd⟩:=wJ (te:=tl) L;rw[hd]at P;rw[hd,pT]at M;obtain⟨Hf2,Fs2,J,R2⟩:=R1.fzAll Y;obtain⟨a,B,rfl,E,g2⟩:=KN M (P.sh_inv.2.mono J.sf);refine⟨a,rfl,⟨B,BZ.of (R2.sub _ _ E)⟩,wW (K:=K) U X R2 e4 hl e5 (λi H s hi=>⟨B,B[i]'(g2.1 ▸ hi),BZ.of (s _ _ E),gEg (g2.1 ▸ hi)⟩) (λH s=>⟨B,BZ.of (s _ _ E),dD g2.1.symm⟩) (λi H x H' s hi y=>?_) λHf' H' v F t R' r o=>q _ _ _ v F ((O.trans J).trans t) R' r (o.back (O.trans J))⟩
  obtain⟨y1,y2⟩:=y;obtain⟨di,h1,h2⟩:=g2.get' (y2 B (BZ.of (s _ _ E)));exact⟨y1,di,h1,h2⟩
 .cases e
end
def Kq(ds:List D):GM (.tup ds)=some ds:=rfl
def abM(S:AS)(k:MK):iTp k S=(rE k S).bind λy=>(GM (nK y.1)).map λds=>(ds,y.2):=rfl
end Z
namespace Ms
open PySem
def Up(xs:Array Nat):Prop:=∀a b u v:Nat,xs[a]?=some u->xs[b]?=some v->a<b->u<v
def Up.list{xs:Array Nat}(h:xs.toList.Pairwise (· < ·)):Up xs:=λa b u v ha hb hl=>by
 rw[←ao]at ha hb;obtain⟨la,s⟩:=gSq.mp ha;obtain⟨lb,t⟩:=gSq.mp hb;have:=bu.mp h a b la lb hl;rw[s,t]at this;exact this
noncomputable def Up.pw{xs:Array Nat}(h:Up xs):xs.toList.Pairwise (· < ·):=bu.mpr λa b la lb hl=>h a b _ _ (by rw[←ao];exact gEg la) (by rw[←ao];exact gEg lb) hl
theorem DK{xs:Array Nat}{j:Nat}(t:Up xs):∀(fuel lo hi:Nat),hi-lo<=fuel->lo<=hi->hi<=xs.size->(∀k v,xs[k]?=some v->k<lo->v<j)->(∀k v,xs[k]?=some v->hi<=k->j<=v) ->
  ∃i,SetTable.below.go xs j fuel lo hi=i/\i<=xs.size/\(∀k v,xs[k]?=some v->k<i->v<j)/\∀k v,xs[k]?=some v->i<=k->j<=v
 |0,lo,hi,B,hl,hh,u,x=>⟨lo,by rw[SetTable.below.go],by lia,u,λk v e hk=>x k v e (by lia)⟩
 |fuel+1,lo,hi,B,hl,hh,u,x=>by
  rw[SetTable.below.go]
  by_cases c:lo<hi
  .rw[oa c];have s:(lo+hi) / 2<xs.size:=by lia
   have z:xs[(lo+hi) / 2]?=some (xs[(lo+hi) / 2]'s):=ae s;have E:xs.getD ((lo+hi) / 2) j=xs[(lo+hi) / 2]'s:=by simp[gf,s]
   show ∃i,(if xs.getD ((lo+hi) / 2) j<j then SetTable.below.go xs j fuel ((lo+hi) / 2+1) hi else SetTable.below.go xs j fuel lo ((lo+hi) / 2))=i/\_
   rw[E]
   by_cases d:xs[(lo+hi) / 2]'s<j
   .rw[oa d];refine DK t fuel _ _ (by lia) (by lia) hh (λk v e hk=>?_) x
    by_cases q:k=(lo+hi) / 2
    .subst q;rw[z]at e;cases e;exact d
    .exact fu (t _ _ _ _ e z (by lia)) d
   .rw[nY d];refine DK t fuel _ _ (by lia) (by lia) (by lia) u λk v e hk=>?_
    by_cases q:k=(lo+hi) / 2
    .subst q;rw[z]at e;cases e;lia
    .have:=t _ _ _ _ z e (by lia)
     lia
  .rw[nY c];exact⟨lo,rfl,by lia,u,λk v e hk=>x k v e (by lia)⟩
noncomputable def Ic{xs:Array Nat}(s:Up xs)(j:Nat):SetTable.below xs j<=xs.size/\(∀k v,xs[k]?=some v->k<SetTable.below xs j->v<j)/\∀k v,xs[k]?=some v->SetTable.below xs j<=k->j<=v:=by
 obtain⟨i,e,t,u,x⟩:=DK (j:=j) s xs.size 0 xs.size (by lia) (aJ _) (aa _) (λk v _ hk=>absurd hk (bW _)) (λk v e hk=>by
  have:=(aN.mp e).1;lia)
 have:SetTable.below xs j=i:=e;rw[this];exact⟨t,u,x⟩
def N5{xs:Array Nat}(t:Up xs){j:Nat}(hn:∀k:Nat,xs[k]? ≠ some j):Up (SetTable.insertAt xs (SetTable.below xs j) j):=by
 refine Up.list ?_;rw[SetTable.toList_insertAt];obtain⟨H,B,E⟩:=Ic t j;generalize SetTable.below xs j=b at H B E;have G:=t.pw;rw[aB];refine⟨G.sublist (aT _ _),ef.mpr ⟨λv x=>?_,G.sublist (bP _ _)⟩,λu I v x=>?_⟩
 .obtain⟨k,hk⟩:=bb.mp x;rw[cz,ao]at hk;have a:=E _ v hk (by lia)
  have:v≠j:=λz=>hn _ (z ▸ hk)
  lia
 .obtain⟨k,hk⟩:=bb.mp I;rw[hW]at hk;split at hk
  .rename_i q;rw[ao]at hk;have a:=B k u hk q;rcases ag.mp x with z|z
   .rw[z];exact a
   .obtain⟨J,s⟩:=bb.mp z;rw[cz,ao]at s;exact t _ _ _ _ hk s (by lia)
  .cases hk
def Yp:Up #[]:=λa b u v h=>by simp at h
def Qs(n:Nat):Up (Array.range n):=λa b u v ha hb hl=>by
 rw[Array.getElem?_range]at ha hb;split at ha <;> split at hb
 .cases ha;cases hb;exact hl
 .cases hb
 .cases ha
 .cases ha
structure Tb (led:Bool)(t:SetTable):Prop where
 up:Up t.place
 dm:t.dummies=#[]
 led:t.led=led
theorem Tb.fresh(led:Bool):Tb led (.fresh 0 0 led):=⟨Yp,rfl,rfl⟩
theorem Tb.standIn{led:Bool}{t:SetTable}(h:Tb led t)(n:Nat):Tb led (t.standIn n):=⟨Qs n,rfl,h.led⟩
theorem Tb.orStandIn{led:Bool}{t:SetTable}(h:Tb led t)(n:Nat):Tb led (t.orStandIn n):=by
 unfold SetTable.orStandIn;split
 .exact h
 .exact h.standIn n
theorem Tb.plain{led:Bool}{t:SetTable}(h:Tb led t)(b:Bool):Tb led { t with plain:=b }:=⟨h.up,h.dm,h.led⟩
theorem Dn{t:SetTable}(hd:t.dummies=#[]){h:Int}:∀(fuel:Nat) (p:SetTable.Probe) (m:SetTable.Met),p.dummy=none->SetTable.probe.go t (λ_=>h+1) h fuel p=some m->∃j,m = .empty j none/\t.slot j = .empty
 |0,p,m,_,e=>by rw[SetTable.probe.go]at e;cases e
 |fuel+1,p,m,x,e=>by
  rw[SetTable.probe.go]at e;have u:(t.advance p).dummy=none:=by
   unfold SetTable.advance;split <;> exact x
  cases s:t.slot p.j with
  |empty=>
   rw[s]at e;cases e;exact⟨p.j,by rw[x],s⟩
  |dummy=>
   exfalso;unfold SetTable.slot at s;simp only at s;split at s
   .cases s
   .split at s
    .rename_i q;unfold SetTable.has at q;rw[hd]at q;simp at q
    .cases s
  |live i=>
   rw[s]at e;have:((h+1:Int) == h)=false:=by
    rw[beq_eq_false_iff_ne];lia
   simp only[this,ez,if_false]at e;exact Dn hd fuel _ m u e
def N7{t:SetTable}(s:Up t.place){j:Nat}(h:t.slot j = .empty):∀k:Nat,t.place[k]? ≠ some j:=by
 intro k hk;obtain⟨z,u,x⟩:=Ic s j;unfold SetTable.slot at h;simp only at h;have hi:=(aN.mp hk).1;have e:k=SetTable.below t.place j:=by
  rcases fP k (SetTable.below t.place j)with c|c|c
  .have:=u k j hk c;lia
  .exact c
  .have hb:=ae (fu c hi);have a:=x _ _ hb (aa _);have:=s _ _ _ _ hb hk c;lia
 rw[←e,hk]at h;simp at h
def Yd{led:Bool}{t:SetTable}(h:Tb led t)(es:Array (Int×Value))(hh:Int)(x:Value):Tb led (layNew t es hh x).2.1:=by
 unfold layNew;split
 .rename_i slot wd e;refine Tb.orStandIn ?_ _;unfold SetTable.freeSlot at e;split at e
  .rename_i j d s;obtain⟨E,u,z⟩:=Dn h.dm _ _ _ rfl s;cases u;cases e;have B:=N7 h.up z;refine⟨N5 h.up B,?_,h.led⟩;show(if SetTable.has t.dummies j then SetTable.eraseAt t.dummies (SetTable.below t.dummies j)else t.dummies)=#[]
   rw[h.dm];have:SetTable.has #[] j=false:=by simp[SetTable.has]
   rw[this];rfl
  .cases e
 .exact h.standIn _
def P9{led:Bool}{t:SetTable}(h:Tb led t)(es:Array (Int×Value))(n:Nat):Tb led (kX t es n).2.1:=by
 unfold kX;split
 .rename_i G s e;dsimp only;split
  .unfold SetTable.relaid SetTable.laid at e;obtain⟨ow,H,z⟩:=oBq.mp e;cases z;refine⟨Up.list ?_,rfl,h.led⟩;show(((aU _).filterMap λj=>(ow.getD j none).map λx=>(j,x)).map (·.1)).Pairwise (· < ·)
   rw[bo,List.pairwise_filterMap];refine aV.imp ?_ eU;intro a b u x B y E;obtain⟨_,_,rfl⟩:=oMq.mp B;obtain⟨_,_,rfl⟩:=oMq.mp E;exact u
  .exact h.standIn _
 .exact h.standIn _
end Ms
namespace Ms
open PySem PyProof.Rows Mr
def SI(prog:jq)(w:ju)(h:Heap)(a:Addr)(F:Ϝ):Prop:=
 ∃o es ep t,h.get? a=some o/\o.ExactSet/\o.data = .set es ep t/\ElemsOf (jV prog w) es.toList/\(∀e∈es.toList,∃k u,e.2 = .int k u)/\(es.toList.map λe=>Mr.intOf e.2).Perm F/\es.size<jW/\t.fits es.size=true/\Tb (!w.params.followText "set-order") t
noncomputable def ym(F:Ϝ)(k:Int):Ϝ:=if k∈F then F else F++[k]
section
variable {prog:jq}{w:ju}{A:Around}{E:Ψ}{s:Shared}
noncomputable def SI.keep{h h':Heap}{a:Addr}{F:Ϝ}(x:SI prog w h a F)(k:∀o,h.get? a=some o->h'.get? a=some o):SI prog w h' a F:=by
 obtain⟨o,u,z,t,B,r⟩:=x;exact⟨o,u,z,t,k o B,r⟩
def IT{h:Heap}{a:Addr}{o:Obj}{es:Array (Int×Value)}{ep:Nat}{t:SetTable}(x:h.get? a=some o)(hd:o.data = .set es ep t)(u:Array (Int×Value))(t':SetTable) :
  (h.update a (Obj.putSet u t')).get? a=some { o with data:=.set u (ep+1) t' }:=by
 have:=fb (Obj.putSet u t') x (by rw[putSet_of u t' hd];rfl)
 rw[putSet_of u t' hd]at this;exact this
def Xg{a:Addr}{F:Ϝ}{k:Int}{u:Tok}{Q:Bool->Shared->Prop}(hS:SI prog w s.heap a F)(hroom:F.length+1<jW)
  (h:∀b h',bQ a s.heap h'->SI prog w h' a (ym F k)->Q b { s with heap:=h' }) :
  jn (jk prog w) A (setAddHashed a (.int k u) ((jV prog w).hash k)) Q E s:=by
 obtain⟨o,O,ep,t,ho,hex,hd,P,S,hp,hb,hf,hT⟩:=hS;have X:=lK prog w k u;have hsz:O.size=F.length:=by
  have:=hp.length_eq
  rwa [lMq,ah]at this
 have his:∀e∈O.toList,(jV prog w).is k e.2=true->Mr.intOf e.2=k:=λe Y hk=>by
  obtain⟨m,v,ev⟩:=S e Y;rw[ev]at hk ⊢;exact(jV prog w).inj _ _ _ (lK prog w m v) hk
 unfold setAddHashed setAddHashedIn;refine jE (ji (wpAny_setState_of ho hd hf ?_));dsimp only;rw[byScan_of (knd:=jV prog w) rfl hb P];simp only[↓reduceIte];unfold setAddByScan;refine ji ?_;refine ji (kR ?_);refine ji (wpAny_setScan_of X ho hd hf P ?_);cases hr:gV (λe=>(jV prog w).is k e.2) O.toList with
 |some j=>
  dsimp only;obtain⟨hj,hpj,_⟩:=List.findIdx?_eq_some_iff_getElem.mp hr;have hm:k∈F:=hp.mem_iff.mp (mMq.mpr ⟨_,gRq hj,his _ (gRq hj) hpj⟩);refine jm (jm ?_);have e:s={ s with heap:=s.heap }:=by cases s;rfl
  rw[e];refine h _ s.heap (bQ.refl a s.heap) ?_;unfold ym;rw[oa hm];exact⟨o,O,ep,t,ho,hex,hd,P,S,hp,hb,hf,hT⟩
 |none=>
  dsimp only;have hm:k∉F:=λz=>by
   obtain⟨e,Y,ek⟩:=mMq.mp (hp.mem_iff.mpr z);have:=fU.mp hr e Y;obtain⟨m,v,ev⟩:=S e Y;rw[ev]at ek this;have ek':m=k:=ek;rw[ek',lK]at this;cases this
  have hgw:∀(b:Bool) {z:Shared}{Q':Unit->Shared->Prop},Q' () z->jn (jk prog w) A (match b with|true=>rule "set.scan.the-table-gave-way" |false=>pure ()) Q' E z:=λb z Q' hq=>by cases b <;> first|exact jm hq|exact kR hq
  have G:=layNew_perm t O ((jV prog w).hash k) (.int k u);have H:=layNew_fits t O ((jV prog w).hash k) (.int k u);have M:=Yd hT O ((jV prog w).hash k) (.int k u);generalize hL:layNew t O ((jV prog w).hash k) (.int k u)=L at G H M ⊢;obtain⟨B,t1,J,gave⟩:=L;dsimp only at G H M ⊢;rw[cI]at G;have hel1:ElemsOf (jV prog w) B.toList:=(P.push X rfl).perm G;have hin1:∀e∈B.toList,∃k u,e.2 = .int k u:=λe Y=>by
   rcases mAq.mp (G.mem_iff.mp Y)with z|z
   .exact S e z
   .rw[mSq.mp z];exact⟨k,u,rfl⟩
  have hp1:(B.toList.map λe=>Mr.intOf e.2).Perm (ym F k):=by
   unfold ym;rw[nY hm];refine(G.map _).trans ?_;rw[mBq];exact hp.append_right _
  have hz1:B.size=O.size+1:=by
   have:=G.length_eq
   rwa [lAq,ah,ah]at this
  have U:B.size<jW:=by rw[hz1,hsz];exact hroom
  refine ji (hgw _ ?_);have fin:∀{I:SetTable},I.fits B.size=true->Tb (!w.params.followText "set-order") I->∀{R:Option Bool->Shared->Prop},(∀h',bQ a s.heap h'->SI prog w h' a (ym F k)->R (some true) { s with heap:=h' }) ->
    jn (jk prog w) A (do
     storeSet a B I
     if (!J && I.tooFull)=true then do
       (match (kX I B (SetTable.grown B.size)).2.2 with|true=>rule "set.scan.the-table-gave-way" |false=>pure ())
       storeSet a (kX I B (SetTable.grown B.size)).1 (kX I B (SetTable.grown B.size)).2.1
       pure (some true)
      else pure (some true)) R E s:=by
   intro I hf2 hT2 R hR;refine ji (wpAny_storeSet_of ho hd ?_ (fits_of_scanBound U));have g1:=IT ho hd B I;have sb1:=bQ.update s.heap a (Obj.putSet B I);split
   .have q1:=relayAll_perm I B (SetTable.grown B.size);have q2:=relayAll_fits I B (SetTable.grown B.size);have q3:=P9 hT2 B (SetTable.grown B.size);generalize kX I B (SetTable.grown B.size)=V at q1 q2 q3 ⊢;obtain⟨es2,t3,gv⟩:=V;dsimp only at q1 q2 q3 ⊢;have hz2:es2.size=B.size:=by
     have:=q1.length_eq
     rwa [ah,ah]at this
    refine ji (hgw _ ?_);refine ji (wpAny_storeSet_of g1 rfl ?_ (fits_of_scanBound (by rw[hz2];exact U)))
    have g2:=IT g1 rfl es2 t3;exact jm (hR _ (sb1.trans (bQ.update _ a _)) ⟨_,es2,_,t3,g2,hex,rfl,hel1.perm q1,λe Y=>hin1 e (q1.mem_iff.mp Y),(q1.map _).trans hp1,by rw[hz2];exact U,q2,q3⟩)
   .exact jm (hR _ sb1 ⟨_,B,_,I,g1,hex,rfl,hel1,hin1,hp1,U,hf2,hT2⟩)
  split
  .refine ji ?_;rw[hashByValue_scannable 8 (x:=.int k u) rfl];refine jm ?_;refine fin ?_ ?_ λh' sb hS'=>?_
   .split
    .exact H
    .exact SetTable.fits_plain_off H
   .split
    .exact M
    .exact M.plain false
   .dsimp only;exact jm (h _ h' sb hS')
  .refine ji (jm ?_);simp only[↓reduceIte];refine fin H M λh' sb hS'=>?_
   dsimp only;exact jm (h _ h' sb hS')
end
def dd(ns:Ϝ):Ϝ:=ns.foldl ym []
def TK(ns:Ϝ)(k:Int):dd (ns++[k])=ym (dd ns) k:=by
 unfold dd;rw[fV];rfl
def Tu(F:Ϝ)(k:Int):(ym F k).length<=F.length+1:=by
 unfold ym;split
 .lia
 .simp
def RW{F:Ϝ}{k x:Int}:x∈ym F k↔x∈F∨x=k:=by
 unfold ym;split
 .rename_i h;exact⟨.inl,λq=>q.elim id λq=>q ▸ h⟩
 .simp
def Uk{F:Ϝ}{k:Int}(h:F.Nodup):(ym F k).Nodup:=by
 unfold ym;split
 .exact h
 .rename_i q;rw[nAq];exact⟨h,by simp,λx s y t z=>q (by rw[mSq.mp t]at z;rw[←z];exact s)⟩
theorem Bw:∀(ns F:Ϝ),(ns.foldl ym F).length<=F.length+ns.length/\(∀x,x∈ns.foldl ym F↔x∈F∨x∈ns)/\(F.Nodup->(ns.foldl ym F).Nodup)
 | [],F=>⟨by simp,by simp,λh=>h⟩
 |n::ns,F=>by
  obtain⟨u,s,t⟩:=Bw ns (ym F n);have:=Tu F n;rw[cg,lCq];refine⟨by lia,λx=>?_,λh=>t (Uk h)⟩
  rw[s x,RW,ag,or_assoc]
def Zs(ns:Ϝ):(dd ns).length<=ns.length:=by
 have:=(Bw ns []).1;simpa[dd]using this
def YO{ns:Ϝ}{x:Int}:x∈dd ns↔x∈ns:=by
 have:=(Bw ns []).2.1 x;simpa[dd]using this
def aaZ(ns:Ϝ):(dd ns).Nodup:=(Bw ns []).2.2 bp
section
variable {prog:jq}{w:ju}{A:Around}{E:Ψ}{s:Shared}{R:Result->Shared->Prop}{l I S:Addr}{vs:Ξ}{ns:Ϝ}
def SD(hh:A.handled=none)(hi:jz vs ns)(L:l≠I)(t:S≠I)(M:S≠l)(hb:ns.length+1<jW):∀(k j:Nat) (z:Shared),vs.length-j=k->j<=vs.length->z.heap.IsListIter I l j->z.heap.IsList l vs.toArray->SI prog w z.heap S (dd (ns.take j)) ->
  (∀h' G,SI prog w h' S (dd ns)->(∀b o,b≠I->b≠S->z.heap.get? b=some o->h'.get? b=some o)->R (.ok (.ret .none)) { z with heap:=h',toks:=G }) ->
  kf (jk prog w) A (.builtin "set.update.loop" ⟨[.ref S,.ref I],[]⟩) R z:=by
 have W:=Walks.list (prog:=prog) (w:=w) (A:=A.in1) hh I l L vs.toArray;have vl:vs.toArray.size=vs.length:=aq ..;have hln:=hi.length;intro k
 induction k with
 |zero=>
  intro j z hk hj x O H P;have Q:j=vs.toArray.size:=by rw[vl];lia
  refine jH PyProof.Rows.F.entry_set_update_loop ?_;rw[Around.under_plainId PyProof.Rows.F.plain_set_update_loop _];show jn _ A.in1 (pyNext (.ref I) >>= _) _ _ z;refine ji (W.done z _ _ ⟨Q ▸ x,O⟩ λh' G kp=>?_)
  show jn _ A.in1 (ret gc) _ _ _;refine jm (P h' G ?_ λb o J _ e=>kp b o (by simpa using J) e)
  rw[bU (by lia)]at H
  exact H.keep λo e=>kp S o (by simpa using t) e
 |succ k ih=>
  intro j z hk hj x O H P;have U:j<vs.toArray.size:=by rw[vl];lia
  refine jH PyProof.Rows.F.entry_set_update_loop ?_;rw[Around.under_plainId PyProof.Rows.F.plain_set_update_loop _];show jn _ A.in1 (pyNext (.ref I) >>= _) _ _ z;refine ji (W.item j z _ _ U ⟨x,O⟩ λv h' G hP Fb kp=>?_)
  obtain⟨n,hn⟩:∃n,ns[j]?=some n:=⟨_,gEg (by lia)⟩
  obtain⟨u,hu⟩:=hi.get j n hn;have hv:vs[j]?=some v:=by simpa using hP
  rw[hu]at hv;cases hv;have X:SI prog w h' S (dd (ns.take j)):=H.keep λo e=>kp S o (by simpa using t) e
  show jn _ A.in1 (kT [fq n u] (setAdd S (.int n u)) >>= _) _ _ _;refine ji (jE ?_);unfold setAdd;refine jE ?_;refine ji ((jV prog w).pyHash (k:=n) (lK _ _ _ _) ?_);have Y:(dd (ns.take j)).length+1<jW:=by
   have a:=Zs (ns.take j);rw[lTq]at a;lia
  refine Xg X Y λb h2 sb B=>?_
  have ht:ns.take (j+1)=ns.take j++[n]:=by rw[cK,hn];rfl
  rw[←TK,←ht]at B;refine jm ⟨kO PyProof.Rows.F.plain_set_update_loop _,ih (j+1) _ (by lia) (by lia) (Fb.1.extBut sb.extBut (Ne.symm t)) (Fb.2.extBut sb.extBut (Ne.symm M)) B λh3 tk3 hS3 kp3=>?_⟩
  exact P h3 tk3 hS3 λb o J nS e=>kp3 b o J nS (sb.extBut b o nS (kp b o (by simpa using J) e))
def To(a:Value){Q1:Ψ}
  (h:Q1 (.ref s.heap.objs.size) { s with heap:=s.heap.push { cls:=.type "set", dict:=none,data:=.set #[] 0 (.fresh 0 0 (!w.params.followText "set-order")) } }) :
  kf (jk prog w) A (.call (.builtin "set.__new__") ⟨[.type "set", a],[]⟩) (wants Q1 E) s:=by
 refine codeAny_of_tree ?_;show jn _ A.in1 (do checkBuiltinCall "set.__new__" ⟨[.type "set", a],[]⟩;again (.builtin "set.__new__" ⟨[.type "set", a],[]⟩)) _ _ s
 refine ji (wpAny_of_eq (PySem.F.newCall_set_1 a) (jm ⟨kO gI _,jH PySem.F.entry_set_new ?_⟩));rw[Around.under_plainId gI _];unfold Builtin.«set.__new__» Builtin.Frozenset.newClass;have t:=sub_set_self;obtain⟨u,g,d,x,os⟩:=s;dsimp only
 wp_walk
 refine wpAny_askSetting (jm ?_);dsimp only;simp only[newObj];refine ji (wpAny_alloc (jm ?_));exact jm h
theorem SI.fresh{h:Heap}{a:Addr}(u:h.get? a=some { cls:=.type "set", dict:=none,data:=.set #[] 0 (.fresh 0 0 (!w.params.followText "set-order")) }):SI prog w h a []:=
 ⟨_,#[],0,_,u,⟨rfl,rfl,rfl⟩,rfl,λe t=>by simp at t,λe t=>by simp at t,.refl _,by unfold jW;decide,rfl,Tb.fresh _⟩
def RN{Q:Ψ}(hh:A.handled=none)(hl:s.heap.IsList l vs.toArray)(hi:jz vs ns)(hb:ns.length+1<jW)
  (h:∀(h':Heap) (B:Nat),SI prog w h' s.heap.objs.size (dd ns)->(∀b o,s.heap.get? b=some o->h'.get? b=some o)->Q (.ref s.heap.objs.size) { s with heap:=h',toks:=B }) :
  jn (jk prog w) A (call (.type "set") [.ref l]) Q E s:=by
 obtain⟨c,tl,hmro⟩:=bY.mro;have P:=bY.made;have hsub:=bY.sub;refine wpAny_call (codeAny_of_tree ?_);show jn _ _ (callAny (.type "set") _) _ _ _;refine jm ⟨Code.quiet_builtin _ (by trivial),jH PySem.F.entry_type_call ?_⟩
 rw[Around.under_plain (weight_type_call_type "set" [.ref l] []) rfl];have h1:=bY.notType;have h2:=bY.canCreate;have hct:=PySem.F.typeCall_set_1 (.ref l)
 repeat (any_goals (first|assumption|wp_step))
 generalize t:s.heap.push { cls:=.type "set", dict:=none,data:=.set #[] 0 (.fresh 0 0 (!w.params.followText "set-order")) }=u;have U:u.objs.size=s.heap.objs.size+1:=by rw[←t];exact eM ..
 have k1:∀b o,s.heap.get? b=some o->u.get? b=some o:=λb o e=>by rw[←t];exact af _ e
 have o1:u.get? s.heap.objs.size=some { cls:=.type "set", dict:=none,data:=.set #[] 0 (.fresh 0 0 (!w.params.followText "set-order")) }:=by rw[←t];exact aC _ rfl
 refine kx (To (.ref l) (E:=E) (Q1:=λobj z=>obj = .ref s.heap.objs.size/\z={ s with heap:=u }) ⟨rfl,by rw[t]⟩) λr z hr=>?_
 cases r with
 |error e=>exact hr
 |ok fl=>
  cases fl with
  |ret obj=>
   obtain⟨rfl,rfl⟩:=hr;have hT:Shared.TypeIs { s with heap:=u } (.ref s.heap.objs.size) "set" := ⟨_,o1,rfl⟩
   have hli:=bY.init.lookup;have hbi:=bY.init.bind (.ref s.heap.objs.size)
   repeat (any_goals (first|assumption|wp_step))
   refine kx (codeAny_call_builtin (R:=wants (λr y=>r = .none/\∃h' B,y={ s with heap:=h',toks:=B }/\SI prog w h' s.heap.objs.size (dd ns)/\∀b o,s.heap.get? b=some o->h'.get? b=some o) E) bY.init.plain PySem.F.entry_set_init (check_set_init_1 hT ?_)) λr2 y x=>?_
   .obtain⟨⟨oc,od,odt,osl⟩,G,H,nl,J⟩:=hl;simp only at H J;subst H;subst J;have L:=k1 l _ G;have n1:=PySem.F.sub_list_set;have n2:=PySem.F.sub_list_frozenset;have n3:(dO "list" == dO "dict")=false:=by decide
    have M:u.IsList l vs.toArray:=⟨_,L,rfl,nl,rfl⟩;unfold Builtin.«set.__init__» noKeywords Builtin.Frozenset.updateFrom;generalize X:pyIter=PI
    wp_walk
    subst X;refine kP M ?_;refine ji (wpAny_runValue ?_);have O:l<s.heap.objs.size:=aj G;have Y:A.in1.in1.handled=none:=by simp[hh]
    have lI:l≠u.objs.size:=by rw[U];exact aA (bO O)
    have sI:s.heap.objs.size≠u.objs.size:=by rw[U];exact aA (cL _)
    refine SD (prog:=prog) (w:=w) (vs:=vs) (ns:=ns) Y hi lI sI (dh O) hb _ 0 _ rfl (aJ _) ⟨_,aC _ rfl,rfl,rfl⟩ (M.push _) (SI.fresh (af _ o1)) λh' B hS kp=>?_
    show jn _ _ _ _ _ _;refine jm ?_;show jn _ _ (ret gc) _ _ _;refine jm ⟨rfl,h',B,rfl,hS,λb o e=>kp b o ?_ ?_ (af _ (k1 b o e))⟩
    .have:=aj e;rw[U];exact aA (bO this)
    .exact aA (aj e)
   .cases r2 with
    |error e=>exact x
    |ok fl2=>
     cases fl2 with
     |ret r=>
      obtain⟨rfl,h',B,rfl,hS',hk'⟩:=x
      repeat (any_goals (first|assumption|wp_step))
      exact h _ _ hS' hk'
     |_=>exact x.elim
  |_=>exact hr.elim
end
def SA(h:Heap)(a:Addr)(es:Array (Int×Value))(ep:Nat)(t:SetTable):Prop:=∃o,h.get? a=some o/\o.ExactSet/\o.data = .set es ep t
end Ms
namespace Mr
open PySem L2
def Cc{prog:jq}{w:ju}{K:Type}[DecidableEq K]{knd:KeyKind prog w K}{A:Around}{E:Ψ}{s:Shared}{d:Addr}{k:K}{key dflt:Value}{kvs:List (K×Value)}{Q:Ψ}
  (hk:knd.is k key=true) (dd:fL knd s.heap d kvs) (M:kvs.length<=jo)
  (there:∀v,jU kvs k=some v->Q v { s with toks:=s.toks+1 })
  (new:jU kvs k=none->∀h',fL knd h' d (kvs++[(k,dflt)])->bQ d s.heap h'->Q dflt { s with heap:=h',toks:=s.toks+1 }) :
  jn (jk prog w) A (dictSetDefault d key dflt) Q E s:=by
 obtain⟨o,u,S,B,z,hd,t,G,hn⟩:=dd;unfold dictSetDefault;refine jE (ji (knd.pyHash hk ?_));refine ji (wpAny_dictFind_of hk B hd t ?_);have O:Array.findIdx? (λe=>knd.is k e.key) u=gV (λe=>knd.is k e.key) u.toList:=by
  cases u;exact(List.findIdx?_toArray ..)
 rw[O];cases e:gV (λe=>knd.is k e.key) u.toList with
 |some i=>
  obtain⟨x,H,I,P⟩:=G.at e;refine ji (wpAny_dictEntries B hd ?_);rw[←ao,H];exact ji (kR (jm (there _ P)))
 |none=>
  have J:u.size<=jo:=by rw[←ah,G.length];exact M
  have H:=G.findIdx k;rw[e]at H;have I:=fU.mp H.symm;have R:jU kvs k=none:=by
   unfold jU;rw[List.find?_eq_none.mpr λx z=>by rw[I x z];decide]
   rfl
  refine ji (kR (ji (wpAny_updateDictKeys B hd ?_ J (by simp))))
  refine jm (new R _ ⟨_,_,_,fb _ B ?_,z.mapDictKeys _,Obj.data_mapDictKeys hd _,t.push hk dflt,?_,?_⟩ (bQ.update _ _ _))
  .have L:=Obj.data_mapDictKeys hd (λx=>x.push { hash:=knd.hash k,key:=key,val:=dflt })
   generalize Obj.mapDictKeys (λx=>x.push { hash:=knd.hash k,key:=key,val:=dflt }) o=o' at L ⊢
   obtain⟨c,U,X,Y⟩:=o';cases L;rfl
  .rw[cI];exact G.append hk _ _
  .rw[mBq,nAq];refine⟨hn,by simp,λa ha b hb=>?_⟩
   obtain⟨x,z,rfl⟩:=mMq.mp ha;rw[mSq.mp hb];exact of_decide_eq_false (I x z)
def BK{prog:jq}{w:ju}{K:Type}[DecidableEq K](knd:KeyKind prog w K){k:K}{key:Value}(d:Addr)(hk:knd.is k key=true)(u:(d == jO)=false)(dflt:Value) :
  MeetsIn prog w (Builtin.«dict.setdefault» { pos:=[.ref d,key,dflt] }) λ_ R s=>∃kvs:List (K×Value),fL knd s.heap d kvs/\kvs.length<=jo/\(∀v,jU kvs k=some v->R (.ok (.ret v)) { s with toks:=s.toks+1 }) /\
   (jU kvs k=none->∀h',fL knd h' d (kvs++[(k,dflt)])->bQ d s.heap h'->R (.ok (.ret dflt)) { s with heap:=h',toks:=s.toks+1 }):=by
 rintro A R s ⟨kvs,dd,x,z,B⟩;unfold Builtin.«dict.setdefault» Builtin.Dict.keyAndDefault;refine ji (ji (wpAny_notOrdered_dict dd.typeIs ?_));refine ji (jm ?_);refine ji (ji (jm ?_));dsimp only;refine ji (jm ?_);refine jm ?_;dsimp only;refine ji (jm ?_);refine jm ?_;dsimp only;rw[nY (by rw[u];decide)]
 exact ji (Cc hk dd x (λv t=>jm (z v t)) λt h' E sb=>jm (B t h' E sb))
section
variable {X:Cx}{nu:Φ}{σ:St}{H:Hp}{s:Shared}{a:Addr}{kvs:List (nT×V)}{k:nT}{u r:Value}{v:V}{A:Around}{E:Ψ}
def PH{Q:Ψ}(I:Inv X nu σ H s)(e:H a=some (.dK kvs))(O:oC (kV k) u)(P:oC v r)(l:kvs.length<jo)
  (there:∀B,tu kvs k=some B->∀L G,Inv X nu σ H G->oC B L->Q L G)
  (new:tu kvs k=none->∀G,Inv X nu σ (om H a (.dK (kvs++[(k,v)]))) G->Q r G) :
  jn (jk X.prog X.w) A (call (.builtin "dict.setdefault") [.ref a,u,r]) Q E s:=by
 obtain⟨z,hd,R,t,dd⟩:=SG I.hok e;have x:=t.val k;refine call_meetsIn fD dd.typeIs PySem.F.entry_dict_setdefault (PySem.F.args_dict_setdefault_3 _ _ _) (BK (oW X.prog X.w) a (EG O) hd r)
  ⟨R,dd,by rw[←t.length];exact z,λL hw=>?_,λhn S J U=>new ?_ _ ?_⟩
 .cases q:tu kvs k with
  |none=>rw[q]at x;rw[yg.none_of x]at hw;cases hw
  |some B=>
   rw[q,hw]at x;exact there B q L _ (I.tok _) x
 .cases q:tu kvs k with
  |none=>rfl
  |some B=>
   rw[q]at x;obtain⟨y,M,_⟩:=yg.some_of x;rw[hn]at M;cases M
 .have Y:∃q,S.get? a=some q:=let ⟨q,_,_,hq,_⟩:=J;⟨q,hq⟩
  refine CW I (by rw[e];exact True.intro) U Y (KF (by rw[lAq];exact l) hd ?_ J)
  exact Paired.snoc t ⟨rfl,P⟩
end
end Mr
namespace Mr
open PySem PySem.Spec PyProof.Rows L2
def Mf(u ty B:TE):TE:=λσ H Q=>u σ H λx t=>∃a,x = .ref a/\IsD t a/\ty σ t λy E=>B σ E λz s=>∃kvs k,s a=some (.dK kvs)/\y=kV k/\kvs.length<jo /\
 (∀v,tu kvs k=some v->Q v s)/\(tu kvs k=none->Q z (om s a (.dK (kvs++[(k,z)]))))
section
variable {X:Cx}{o e f:Expr}{apos cpos:Pos}{td ty tx:TE}
def Pi(O:PE X o td)(P:PE X e ty)(R:PE X f tx)(m:M2 X o "setdefault" apos e f cpos):PE X (.Call (.Attribute o "setdefault" apos) [e,f] [] cpos) (Mf td ty tx):=by
 intro B s σ H Q I h;refine wpAny_Call_method m.base m.few m.line gw fD PySem.F.type_dict_setdefault (thn (O B s σ H _ I h) λu S t=>?_)
 obtain⟨x,U,L,Y,a,ex,d,q1⟩:=t;subst ex;obtain rfl:u=aR a:=Y;obtain⟨t1,t2,_⟩:=Ta L d;refine⟨t1,t2,?_⟩;rw[m.trees];refine Calls.callWith_builtin rfl (Calls.evalArgs_plain (Calls.spliced_cons (thn (P B S σ U _ L q1) λiv s2 t=>?_)))
 obtain⟨y,H2,I2,ry,q2⟩:=t;refine Calls.spliced_cons (thn (R B s2 σ H2 _ I2 q2) λjv s3 t=>?_)
 obtain⟨z,H3,I3,M,kvs,k,ea,ey,l,p1,p2⟩:=t;refine Calls.spliced_nil ?_;subst ey;exact PH I3 ea ry M l (λv E w' s4 G J=>⟨v,_,G,J,p1 v E⟩) λE s4 G=>⟨z,_,G,M,p2 E⟩
end
end Mr
namespace Z
open PySem L2 Mr Xe
def ou.owl_inv{K:Ζ}{Hf H:Hp}{kvs:List (nT×Ϝ)}{v:V}{F:Δ}(h:ou K Hf H (.owl kvs) v F):∃p qs,v = .ref p/\F=p::qs/\H p=some (.dK (bA (λx q=>(x.1,V.ref q)) kvs qs))/\Hf p=none/\kvs.length=qs.length /\
  ∀(i:Nat) (q:Addr) (x:nT×Ϝ),qs[i]?=some q->kvs[i]?=some x->H q=some (.lst (x.2.map V.int))/\Hf q=none:=by
 cases h with
 |owl h n l e=>exact⟨_,_,rfl,rfl,h,n,l,e⟩
def tE(S:AS)(i:Nat):Option (List (nT×Ϝ)):=match S[i]?.join with
 |some (.owl kvs)=>some kvs
 |some (.owd [])=>some []
 |_=>none
def Hn(kvs:List (nT×Ϝ))(k:nT):List (nT×Ϝ):=if kvs.any λx=>decide (x.1=k)then kvs else kvs++[(k,[])]
noncomputable def uk:List (nT×Ϝ)->nT->Int->List (nT×Ϝ)
 | [],_,_=>[]
 |x::r,k,n=>if x.1=k then (x.1,x.2++[n])::r else x::uk r k n
section
variable {K:Ζ}{H₀ Hf₀ Hf H:Hp}{S:AS}{σ:St}{Fs:List Δ}
theorem oI.owl(R:oI K H₀ Hf₀ Hf S σ H Fs){i:Nat}{kvs:List (nT×Ϝ)}(h:tE S i=some kvs):∃p qs,σ[i]?=some (some (.ref p))/\Fs[i]?=some (p::qs)/\H p=some (.dK (bA (λx q=>(x.1,V.ref q)) kvs qs))/\Hf p=none/\kvs.length=qs.length /\
  (∀(i:Nat) (q:Addr) (x:nT×Ϝ),qs[i]?=some q->kvs[i]?=some x->H q=some (.lst (x.2.map V.int))/\Hf q=none)/\(p::qs).Nodup/\∀q∈p::qs,H₀ q=none/\q∉(Fs.set i []).flatten:=by
 unfold tE at h;cases e:S[i]? with
 |none=>rw[e]at h;cases h
 |some o=>
  cases o with
  |none=>rw[e]at h;cases h
  |some G=>
   rw[e]at h;obtain⟨v,F,z,B,r,nd,E,_⟩:=R.move e;cases G with
   |owl k=>
    cases h;obtain⟨p,qs,rfl,rfl,s,t,u,I⟩:=r.owl_inv;exact⟨p,qs,z,B,s,t,u,I,nd,E⟩
   |owd k=>
    cases k with
    |nil=>
     cases h;obtain⟨p,kv,rfl,rfl,s,t,u⟩:=r.owd_inv;have:kv=[]:=by
      have:=congrArg bV u.1;simpa using this.symm
     subst this;exact⟨p,[],z,B,s,t,rfl,λi q x a=>by simp at a,nd,E⟩
    |cons _ _=>cases h
   |_=>cases h
end
def X3(i:Nat)(b x:ME):MS:=λS=>(tE S i).bind λ_=>(b S).bind λy=>(sX y.1).bind λk=>(tE y.2 i).bind λkvs=>uJ (kvs.length<pe) ((x (y.2.set i (some (.owl (Hn kvs k))))).bind λz=>(intOf z.1).bind λn=>(tE z.2 i).bind λs=>uJ (∀l∈s,l.2.length<pe) (some (.nx (z.2.set i (some (.owl (uk s k n)))))))
theorem Dt:∀{as bs:List (nT×Ϝ)}{ps qs:Δ},as.length=ps.length->bs.length=qs.length->bA (λx q=>(x.1,V.ref q)) as ps=bA (λx q=>(x.1,V.ref q)) bs qs->ps=qs/\as.map (·.1)=bs.map (·.1)
 | [],[],[],[],_,_,_=>⟨rfl,rfl⟩
 | [],b::bs,[],q::qs,_,_,h=>by simp at h
 |a::as,[],p::ps,[],_,_,h=>by simp at h
 |a::as,b::bs,p::ps,q::qs,h1,h2,h=>by
  simp only[eV,iQ.injEq,Prod.mk.injEq,V.ref.injEq]at h;obtain⟨s,t⟩:=Dt (by simpa using h1) (by simpa using h2) h.2
  exact⟨by rw[h.1.2,s],by rw[ai,ai,h.1.1,t]⟩
 | [],_,p::ps,_,h,_,_=>by simp at h
 |a::as,_,[],_,h,_,_=>by simp at h
 |_,[],_,q::qs,_,h,_=>by simp at h
 |_,b::bs,_,[],_,h,_=>by simp at h
structure PK (kvs:List (nT×Ϝ))(k:nT)(n:Nat):Prop where
 lt:n<kvs.length
 at_:∀x,kvs[n]?=some x->x.1=k
 fst:∀j,j<n->∀x,kvs[j]?=some x->x.1≠k
def PK.keys{as bs:List (nT×Ϝ)}{k:nT}{n:Nat}(h:PK as k n)(e:as.map (·.1)=bs.map (·.1)):PK bs k n:=by
 have hl:as.length=bs.length:=by simpa using congrArg bV e
 have ha:∀(j:Nat) (x:nT×Ϝ),bs[j]?=some x->∃y:nT×Ϝ,as[j]?=some y/\y.1=x.1:=λj x s=>by
  have z:=(gSq.mp s).1;refine⟨as[j]'(by lia),gEg _,?_⟩
  have:=congrArg (λl=>l[j]?) e
  simp only[gMq,s,gEg (show j<as.length by lia),bR,aL.injEq]at this
  exact this
 refine⟨hl ▸ h.lt,λx s=>?_,λj z x s=>?_⟩
 .obtain⟨y,t,u⟩:=ha _ _ s;rw[←u];exact h.at_ y t
 .obtain⟨y,t,u⟩:=ha _ _ s;rw[←u];exact h.fst j z y t
theorem PK.add:∀{kvs:List (nT×Ϝ)}{k:nT}{n:Nat}{x:nT×Ϝ},PK kvs k n->kvs[n]?=some x->∀m,uk kvs k m=kvs.set n (x.1,x.2++[m])
 | [],k,n,x,h,e,m=>by simp at e
 |y::r,k,0,x,h,e,m=>by
  have:=h.at_ y rfl;simp only[gu,aL.injEq]at e;subst e;rw[uk,oa this];rfl
 |y::r,k,n+1,x,h,e,m=>by
  have:=h.fst 0 (by lia) y rfl
  rw[uk,nY this,ee];congr 1;refine PK.add ⟨by have:=h.lt;simp at this;lia,λx s=>h.at_ x (by simpa using s),λj t x s=>h.fst (j+1) (by lia) x (by simpa using s)⟩ (by simpa using e) m
theorem ZN{k:nT}:∀{kvs:List (nT×Ϝ)}{qs:Δ},kvs.length=qs.length ->
  (∀v,tu (bA (λx q=>(x.1,V.ref q)) kvs qs) k=some v->∃n q,v = .ref q/\qs[n]?=some q/\PK kvs k n/\Hn kvs k=kvs) /\
  (tu (bA (λx q=>(x.1,V.ref q)) kvs qs) k=none->Hn kvs k=kvs++[(k,[])]/\PK (kvs++[(k,[])]) k kvs.length)
 | [],[],_=>by
  refine⟨λv h=>?_,λ_=>⟨rfl,by simp,λx h=>?_,λj u=>?_⟩⟩
  .simp[tu]at h
  .simp at h;rw[←h]
  .simp at u
 |y::r,q::qs,h=>by
  obtain⟨I,J⟩:=ZN (k:=k) (kvs:=r) (qs:=qs) (by simpa using h)
  by_cases c:y.1=k
  .refine⟨λv s=>⟨0,q,?_,rfl,⟨by simp,λx t=>?_,λj u=>by simp at u⟩,?_⟩,λs=>?_⟩
   .simp only[tu,eV,cH,c,decide_true,bR,aL.injEq]at s;exact s.symm
   .simp at t;rw[←t];exact c
   .simp[Hn,c]
   .simp[tu,c]at s
  .have e:tu (bA (λx q=>(x.1,V.ref q)) (y::r) (q::qs)) k=tu (bA (λx q=>(x.1,V.ref q)) r qs) k:=by
    simp only[tu,eV,cH,c,decide_false]
   have up:∀{l n},PK l k n->PK (y::l) k (n+1):=λ{l n} a=>⟨by have:=a.lt;simp;lia,λx t=>a.at_ x (by simpa using t),λj u x t=>by
    cases j with
    |zero=>simp at t;rw[←t];exact c
    |succ j=>exact a.fst j (by lia) x (by simpa using t)⟩
   rw[e];refine⟨λv s=>?_,λs=>?_⟩
   .obtain⟨n,w,B,G,E,L⟩:=I v s;refine⟨n+1,w,B,by simpa using G,up E,?_⟩
    have H:(r.any λx=>decide (x.1=k))=true:=cR.mpr ⟨r[n]'E.lt,gRq _,d0 (E.at_ _ (gEg E.lt))⟩
    simp[Hn,H]
   .obtain⟨B,G⟩:=J s;refine⟨?_,up G⟩;have H:(r.any λx=>decide (x.1=k))=false:=by
     by_cases z:(r.any λx=>decide (x.1=k))=true
     .rw[Hn,oa z]at B;simpa using congrArg bV B
     .exact Bool.eq_false_iff.mpr z
    simp[Hn,H,c]
 | [],_::_,h=>by simp at h
 |_::_,[],h=>by simp at h
def Gw{S:AS}{i:Nat}{kvs:List (nT×Ϝ)}(h:i<S.length):tE (S.set i (some (.owl kvs))) i=some kvs:=by
 rw[tE,bg h];rfl
def QU{S:AS}{i:Nat}{kvs:List (nT×Ϝ)}(h:tE S i=some kvs):i<S.length:=by
 by_cases c:i<S.length
 .exact c
 .rw[tE,bG (by lia)]at h;cases h
section
variable {K:Ζ}{tb tx:TE}{b x:ME}
def MZ{H₀ s Hf H:Hp}{S:AS}{σ:St}{Fs:List Δ}{i n:Nat}{kvs I:List (nT×Ϝ)}{k:nT}{p q:Addr}{qs:Δ}{z:D×AS}{m:Int}(P:SR K tx x)(R:oI K H₀ s Hf S σ H Fs)(s1:σ[i]?=some (some (.ref p)))(Q:H p=some (.dK (bA (λx q=>(x.1,V.ref q)) kvs qs)))(l:kvs.length=qs.length)(B:qs[n]?=some q)(ka:PK kvs k n)
  (e0:tE S i=some kvs) (e1:x S=some z) (U:intOf z.1=some m) (e3:tE z.2 i=some I) (e4:∀l∈I,l.2.length<pe) {D:zu}(h:Fl K H₀ s Hf D (.nx (z.2.set i (some (.owl (uk I k m)))))) :
  tyV K "list" (.ref q) H/\tp tx vd σ H λxs H2=>C6 (.ref q) xs H2 λ_ H1=>D.nx σ H1:=by
 obtain⟨p',X,t1,_,J,_,t5,t6,_,_⟩:=R.owl e0;rw[s1]at t1;cases t1;rw[Q]at J;injection J with J
 injection J with J
 obtain⟨rfl,_⟩:=Dt l t5 J;obtain⟨y,hy⟩:∃y,kvs[n]?=some y:=⟨_,gEg ka.lt⟩;refine⟨.inl ⟨rfl,_,qh.of (t6 n q y B hy).1⟩,P R (d:=z.1) (S':=z.2) e1 _ λHf3 H3 Fs3 w t R3 r3=>?_⟩
 have hz:z.1 = .int m:=by
  cases P:z.1 <;> rw[P]at U <;> first|(cases U;rfl)|cases U
 rw[hz]at r3;cases r3;obtain⟨p',X,u1,u2,E,u4,u5,u6,Y,u8⟩:=R3.owl e3;rw[s1]at u1;cases u1;rw[t.sh _ _ Q]at E;injection E with E
 injection E with E
 obtain⟨rfl,ek⟩:=Dt l u5 E;have G:=ka.keys ek;obtain⟨L,u⟩:∃y,I[n]?=some y:=⟨_,gEg G.lt⟩;obtain⟨g1,g2⟩:=u6 n q L B u;have hne:p≠q:=λe=>(aw.mp Y).1 (e ▸ mGq B)
 refine⟨q,_,.int m,rfl,rfl,g1,by rw[rB,lMq];exact e4 L (mGq u),h _ _ _ _ t.sf (R3.turnAny s1 u2 (mCo _ (mGq B)) (F':=p::qs) ?_ Y u8)⟩
 rw[G.add u m];have hs:∀j,(I.set n (L.1,L.2++[m]))[j]?=if n=j then some (L.1,L.2++[m])else I[j]?:=λj=>by
  rw[bB]
  by_cases c:n=j
  .rw[oa c,oa c,oa G.lt]
  .rw[nY c,nY c]
 refine .owl ?_ u4 (by rw[lZq];exact u5) λj w x O M=>?_
 .rw[nC hne,t.sh _ _ Q,E];congr 2;refine eO λj=>?_
  rw[cS,cS,hs]
  by_cases c:n=j
  .subst c;rw[oa rfl,u,B]
  .rw[nY c]
 .rw[hs]at M
  by_cases c:n=j
  .subst c;rw[oa rfl]at M;rw[B]at O;cases O;cases M;exact⟨by rw[nG,mBq];rfl,g2⟩
  .rw[nY c]at M;have hw:w≠q:=λe=>by
    subst e;have nd:=(aw.mp Y).2;obtain⟨a1,a2⟩:=gSq.mp O;obtain⟨b1,b2⟩:=gSq.mp B;exact c ((iu nd).mp (b2.trans a2.symm))
   rw[nC hw];exact u6 j w x O M
def Zh{i:Nat}(hb:SR K tb b)(hx:SR K tx x):SS K (Ir (WW K "list" C6 (Mf (wq i) tb (OL vd)) (tp tx vd))) (X3 i b x):=by
 intro H₀ t Hf S σ H Fs o R e D h;obtain⟨k0,e0,e⟩:=oBq.mp e;obtain⟨y,e1,e⟩:=oBq.mp e;obtain⟨k,e2,e⟩:=oBq.mp e;obtain⟨s,e3,e⟩:=oBq.mp e;rcases nU e with⟨hl,e⟩|e
 .obtain⟨z,Q,e⟩:=oBq.mp e;obtain⟨m,e5,e⟩:=oBq.mp e;obtain⟨ls,e6,e⟩:=oBq.mp e;rcases nU e with⟨L,e⟩|e
  .cases e;obtain⟨p,qs0,J,_,h1,_⟩:=R.owl e0;refine⟨_,J,p,rfl,.inl ⟨_,.inl h1⟩,hb R (d:=y.1) (S':=y.2) e1 _ λM H1 Fs1 v t1 X r1=>⟨aJ _,λq O=>?_⟩⟩
   obtain⟨p',E,u1,u2,P,u4,u,u6,Y,u8⟩:=X.owl e3;rw[J]at u1;cases u1;have B:p≠q:=λe=>by rw[e,O]at P;cases P
   obtain⟨t2,R2,n1,n2,n3⟩:=X.new (o:=.lst []) O;obtain⟨v1,v2⟩:=ZN (k:=k) u;have hi:=QU e3;refine⟨_,k,(nC B).trans P,tO e2 r1,by rw[rB,gW,←u,ij];exact hl,λw hw=>?_,λhw=>?_⟩
   .obtain⟨n,q',rfl,g1,g2,g3⟩:=v1 w hw;rw[g3]at Q;have R3:oI K H₀ t M (y.2.set i (some (.owl s))) σ (om H1 q (.lst [])) (Fs1.set i (p::E)):=by
     refine(R2.kill i).again (F:=p::E) J (.owl ((nC B).trans P) u4 u λj U x G I=>?_) Y u8
     obtain⟨b1,b2⟩:=u6 j U x G I;exact⟨by rw[nC λe=>by rw[e,O]at b1;cases b1];exact b1,b2⟩
    exact MZ hx R3 J ((nC B).trans P) u g1 g2 (Gw hi) Q e5 e6 L (h.mono t1.sf)
   .obtain⟨g1,g2⟩:=v2 hw;rw[g1]at Q;have eq:(bA (λx q=>(x.1,V.ref q)) s E)++[(k,V.ref q)]=bA (λ(x:nT×Ϝ) q=>(x.1,V.ref q)) (s++[(k,[])]) (E++[q]):=by
     rw[List.zipWith_append (h:=u)];rfl
    have l2:(s++[(k,[])]).length=(E++[q]).length:=by rw[lAq,lAq,u];rfl
    have R3:oI K H₀ t M (y.2.set i (some (.owl (s++[(k,[])])))) σ (om (om H1 q (.lst [])) p (.dK ((bA (λx q=>(x.1,V.ref q)) s E)++[(k,V.ref q)]))) (Fs1.set i (p::(E++[q]))):=by
     refine R2.turnAny J u2 (ax ..) (.owl ?_ u4 l2 λj U x G I=>?_) ?_ ?_
     .rw[nG,eq]
     .have hp1:U≠p:=λe=>by
       subst e;rcases mAq.mp (mGq G)with c|c
       .exact(aw.mp Y).1 c
       .exact B (mSq.mp c)
      rw[nC hp1]
      by_cases c:j<s.length
      .rw[gZq (u ▸ c)]at G;rw[gZq c]at I;obtain⟨b1,b2⟩:=u6 j U x G I;exact⟨by rw[nC λe=>by rw[e,O]at b1;cases b1];exact b1,b2⟩
      .have hj:=(gSq.mp I).1;rw[lAq,lSq]at hj;have:j=s.length:=by lia
       subst this;rw[dC]at I;rw[u,dC]at G;cases G;cases I;exact⟨nG,n1⟩
     .rw[←bL];refine nAq.mpr ⟨Y,by simp,λa ha b hb=>?_⟩
      rw[mSq.mp hb];intro e;subst e;exact(X.mem (oU u2 ha)).1 O
     .intro a ha;rw[←bL]at ha;rcases mAq.mp ha with c|c
      .exact u8 a c
      .rw[mSq.mp c];exact⟨n2,λm=>n3 (pV m)⟩
    refine MZ (n:=s.length) hx R3 J (qs:=E++[q]) (by rw[nG,eq]) l2 ?_ g2 (Gw hi) Q e5 e6 L (h.mono t1.sf)
    rw[u,dC]
  .cases e
 .cases e
end
end Z
namespace Xe
open PySem PySem.Spec PySem.W PyProof.Rows L2 Mr
section
variable {X:Cx}
def Itv(o:Obj)(d:Addr)(kvs:List (nT×V)):It:=
  ⟨λi H=>H d=some (.frz o (.dK kvs))/\∃p,kvs[i]?=some p,
   λi H x s=>s=H/\∃p,kvs[i]?=some p/\x=p.2,
   λi H=>H d=some (.frz o (.dK kvs))/\kvs.length<=i⟩
def Ph{P:jq}{w:ju}{K:Frag}{tg:Expr}(o:Obj)(d t:Addr)(kvs:List (nT×V))(vs:List (nT×Value))(ep:Nat)(hne:d≠t)
  (ho:∀h:Heap,h.get? d=some o->h.DictAt (oW P w) d vs ep) (kv:KV kvs vs):Dv P w K tg (Itv o d kvs) [t] t (λi h=>h.IsValIter t d i vs.length ep) where
 mem:=by simp
 obj:=λi h st b hb=>by
  obtain rfl:b=t:=by simpa using hb
  obtain⟨B,e,c,dd⟩:=st;exact⟨B,e,λv z=>by rw[dd]at z;cases z⟩
 keep:=λi h h' st k=>by
  obtain⟨B,e,r⟩:=st;exact⟨B,k t (by simp) _ e,r⟩
 item:=by
  intro X J hw L hc i nu s σ H E I G st M;subst J hw L;obtain⟨hd,p,hp⟩:=M;have O:s.heap.get? d=some o:=(show pR X.prog X.w H s.heap d (.frz o (.dK kvs))from I.hok d _ hd).1
  obtain⟨u,hx,ru⟩:=PJ kv hp;obtain⟨Q,R,f2,S,U,Y⟩:=G t (by simp)
  refine wpAny_pyNext_values_item st (ho _ O) hx λh' x sb=>?_
  have I1:L2.Inv X nu σ H { s with heap:=h' }:=I.turned (t':=s.toks) (λb o hb e=>(sb.2 b hb).trans e) Q R S U Y
  obtain⟨B,e,c,dd⟩:=id x;exact⟨u,rfl,Gv (s:={ s with heap:=h' }) e c dd (by decide) ⟨_,H,I1,ru,⟨rfl,p,hp,rfl⟩,x,λb hb=>(G b hb).1⟩⟩
 done:=by
  intro X J hw L hc i nu s σ H E I G st M;subst J hw L;obtain⟨hd,hl⟩:=M;have O:s.heap.get? d=some o:=(show pR X.prog X.w H s.heap d (.frz o (.dK kvs))from I.hok d _ hd).1
  have l:=Paired.length kv;obtain⟨Q,R,f2,S,U,Y⟩:=G t (by simp)
  exact wpAny_pyNext_values_end (I.ok.hd hc) st (ho _ O) (bG (by lia)) λh' eb=>⟨rfl,I.turned (t':=s.toks) (λb o hb e=>eb b o hb e) Q R S U Y⟩
 self:=λ_ _ _ _ _ st h=>wpAny_pyIter_valiter st h
def WI(te:TE):TI:=λσ H R=>te σ H λx s=>∃d kvs,x = .ref d/\s d=some (.dK kvs)/\∀o,R (Itv o d kvs) (om s d (.frz o (.dK kvs)))
def Uv{tg o:Expr}{te:TE}{E G:Pos}(ho:PE X o te)(J:kj o "values" X.env (eval o X.env)=eval o X.env:=by rfl)(L:(E.endLine == G.line)=true:=by rfl) :
  PI X tg (.Call (.Attribute o "values" E) [] [] G) (WI te):=by
 intro nu s σ H R I h;refine kZ J L (thn (ho nu s σ H _ I h) λv t Y=>?_)
 obtain⟨x,H1,U,r1,d,B,ex,ha,q⟩:=Y;subst ex;obtain rfl:=(show v=aR d from r1)
 obtain⟨hz,sa,M,kv,dd⟩:=(show pR X.prog X.w H1 t.heap d (.dK B)from U.hok d _ ha)
 refine⟨"dict","dict.values", gw,fY,PySem.F.type_dict_values,dd.typeIs,dd.mapOf.noDict,?_⟩;refine method_meetsIn fY PySem.F.entry_dict_values rfl (PySem.evalArgs_none ⟨rfl,dd.typeIs,PySem.F.args_dict_values_1 _,_,meets_dict_values _ d sa,⟨M,dd⟩,?_⟩);obtain⟨P,O,es,z,rest⟩:=dd.dictAt;have da:∀h:Heap,h.get? d=some O->h.DictAt (oW X.prog X.w) d M P:=λh e=>⟨O,es,e,rest⟩
 have Q:d<t.heap.objs.size:=aj z;refine wpAny_pyIter_values (s:={ t with heap:=t.heap.push { cls:=.type "dict_values", data:=.fields #[.ref d] } }) ⟨_,aC _ rfl,rfl,rfl⟩ (da _ (af _ z)) ?_
 have kp:∀b u,t.heap.get? b=some u->((t.heap.push { cls:=.type "dict_values", data:=.fields #[.ref d] }).push { cls:=.type "dict_valueiterator", data:=.fields #[.ref d,.int 0 0,.int M.length 0,.int P 0] }).get? b=some u:=λb u e=>af _ (af _ e)
 have S:(t.heap.push { cls:=.type "dict_values", data:=.fields #[.ref d] }).objs.size=t.heap.objs.size+1:=eM ..;have I2:L2.Inv X nu σ (om H1 d (.frz O (.dK B))) { t with heap:=((t.heap.push { cls:=.type "dict_values", data:=.fields #[.ref d] }).push { cls:=.type "dict_valueiterator", data:=.fields #[.ref d,.int 0 0,.int M.length 0,.int P 0] }) }:=
  (U.kept (t':=t.toks) kp).write (x:=d) (e:=d) (o:=.frz O (.dK B)) (t':=t.toks) (by rw[ha];trivial) (.inl rfl) (λb u _ e=>e) ⟨_,kp _ _ z⟩ ⟨kp _ _ z,hz,sa,M,kv,(da _ (kp _ _ z)).dictOf⟩
 refine⟨t.heap.objs.size+1,[t.heap.objs.size+1],_,_,_,by rw[S],I2,Ph O d _ B M P (aA (bO Q)) da kv,?_,λb hb=>?_,q O⟩
 .show Heap.IsValIter _ (t.heap.objs.size+1) d 0 M.length P;rw[←S];exact⟨_,aC _ rfl,rfl,rfl⟩
 .have e:b=t.heap.objs.size+1:=by simpa using hb
  subst e;exact U.fpOk (bS _) (by rw[nC (dh (bO Q))];exact U.hok.fresh (bS _))
end
end Xe
namespace Z
open PySem L2 Mr Xe
def SW(K:Ζ)(te:TE)(m:MK):Prop:=∀{H₀ s Hf:Hp}{S:AS}{σ:St}{H:Hp}{z:List Δ}{a:AV}{S':AS},oI K H₀ s Hf S σ H z->m S=some (a,S')->∀Q:VK,
 (∀t x u v F,ox Hf t->oI K H₀ s t S' σ x u->ou K t x a v F->F.Nodup->(∀q∈F,H₀ q=none/\q∉u.flatten)->Q v x)->te σ H Q
def XS(i:Nat):MI:=λS=>(tE S i).map λkvs=>(kvs.map λx=>.list (x.2.map .int),S.set i none)
def Qt(j:Nat)(k:MK):MK:=λS=>(uB S j).bind λs=>(k (S.set j none)).bind λx=>match x.1 with
 | .ow t=>uJ (x.2[j]?=some none/\s.length+t.length<=pe) (some (.ow (s++t),x.2))
 |_=>none
section
variable {K:Ζ}{tf:TT}{te:TE}{mf:MT}{me k:MK}{fr:Θ}
def Wa(hk:SW K te k):SS K (Xc te) (oP k):=by
 intro H₀ t Hf S σ H J o R e D h;obtain⟨x,u,e⟩:=oMq.mp e;cases e;exact hk R (a:=x.1) (S':=x.2) u _ λz L Fs1 v F M s B E G=>h _ _ v F s.sf s.fr s.sub s.lim B E λq I=>(G q I).1
def NX(hk:SW K te k):SW K (Om (λxs H Q=>∃(a:Addr) (ps:Δ) (rs:Λ),xs=[.ref a]/\qh K H a (ps.map V.ref)/\pN H ps rs /\
  ∀p qs,H p=none->qs.Perm ps->pN (om H p (.lst (qs.map V.ref))) qs (zH rs)->Q (.ref p) (om H p (.lst (qs.map V.ref)))) (tp te vd)) (AI k):=by
 intro H₀ u Hf S σ H Fs av S' R e Q q;obtain⟨x,O,e⟩:=oBq.mp e;refine hk R (a:=x.1) (S':=x.2) O _ λP U Fs1 v F X Y E G I=>?_
 split at e
 .rename_i avs hx;obtain⟨rs,e2,e⟩:=oMq.mp e;cases e;rw[hx,DT e2]at E;obtain⟨J,vs,Gs,rfl,rfl,h1,h2,h3⟩:=E.ow_inv;obtain⟨ps,rfl,rfl,L,hn⟩:=ve h3;rw[yq]at I G;refine⟨J,ps,rs,rfl,qh.of h1,L,λp qs M t B=>?_⟩
  obtain⟨t4,R4,n1,n2,n3⟩:=Y.new (o:=.lst (qs.map V.ref)) M;have pq:p∉qs:=λm=>L.free (H:=U) M (t.mem_iff.mp m)
  have hm:∀z∈qs,z∈J::ps:=λz s=>mCo _ (t.mem_iff.mp s)
  refine q _ _ _ (.ref p) (p::(qs.map λp=>[p]).flatten) (X.trans t4.sf) R4 (ou.news nG n1 (Ao B λz s=>hn z (t.mem_iff.mp s))) ?_ ?_
  .rw[yq];exact aw.mpr ⟨pq,t.nodup_iff.mpr (aw.mp G).2⟩
  .rw[yq];intro z s;rcases ag.mp s with y|y
   .rw[y];exact⟨n2,n3⟩
   .exact I z (hm z y)
 .cases e
def Xd{j:Nat}(hk:SW K te k):SW K (WO YW (wq j) te) (Qt j k):=by
 intro H₀ M Hf S σ H Fs av S' R e Q q;obtain⟨avs,e1,e⟩:=oBq.mp e;obtain⟨x,e2,e⟩:=oBq.mp e;split at e
 .rename_i bvs hx;rcases nU e with⟨⟨O,hl⟩,e⟩|e
  .cases e;obtain⟨v0,F0,s1,J,r0,E,o0,_⟩:=R.move (rh e1);refine⟨_,s1,hk (R.frame J) (a:=x.1) (S':=x.2) e2 _ λHf1 H1 Fs1 v F sf P U X o1=>?_⟩
   obtain⟨Y,r2,R2⟩:=R.unframe J r0 E (λq s=>(o0 q s).1) P O s1 sf
   have R3:=R2.kill j;rw[dF,dF,DV O,DV (P.emp j O)]at R3;rw[hx]at U;obtain⟨B,t,Gs1,rfl,rfl,a1,a2,a3⟩:=r2.ow_inv;obtain⟨p2,u,Gs2,rfl,rfl,b1,b2,b3⟩:=U.ow_inv;have hF:∀q∈B::Gs1.flatten,ZO H₀ H (B::Gs1.flatten) q≠none:=λq s=>by
    rw[DB s];exact(R.mem (oU J s)).1
   refine⟨B,p2,t,u,rfl,rfl,a1,b1,by rw[rB,←a3.1,←b3.1];exact hl,λp G=>?_⟩
   obtain⟨t4,R4,n1,n2,n3⟩:=R3.new (o:=.lst (t++u)) G;have c1:∀q∈B::Gs1.flatten,H1 q≠none:=λq s=>by rw[Y q s];exact(R.mem (oU J s)).1
   have c2:∀q∈p2::Gs2.flatten,H1 q≠none:=λq s=>(U.owned q s).1
   have I:∀q∈Gs1.flatten,q∈B::Gs1.flatten:=λq h=>mCo _ h
   have L:∀q∈Gs2.flatten,q∈p2::Gs2.flatten:=λq h=>mCo _ h
   have k3:=(a3.append b3).keepUpd (p:=p) (o:=.lst (t++u)) (by
    rw[fAq];intro m;rcases mAq.mp m with z|z
    .exact c1 p (I p z) G
    .exact c2 p (L p z) G)
   refine q _ _ _ (.ref p) (p::(Gs1++Gs2).flatten) (sf.trans t4.sf) R4 (ou.news nG n1 k3) ?_ ?_
   .rw[fAq];refine aw.mpr ⟨λm=>?_,nAq.mpr ⟨(aw.mp E).2,(aw.mp X).2,λa ha b hb e=>?_⟩⟩
    .rcases mAq.mp m with z|z
     .exact c1 p (I p z) G
     .exact c2 p (L p z) G
    .subst e;exact hF a (I a ha) (o1 a (L a hb)).1
   .rw[fAq];intro z hz;rcases ag.mp hz with y|y
    .rw[y];exact⟨n2,n3⟩
    .rcases mAq.mp y with y|y
     .exact⟨(o0 z (I z y)).1,λm=>hF z (I z y) (P.fresh z m)⟩
     .have:=o1 z (L z y);refine⟨?_,this.2⟩;rw[←xO (H₀:=H₀) (H:=H) (F:=B::Gs1.flatten) λm=>hF z m this.1]
      exact this.1
  .cases e
 .cases e
def Rr{i:Nat}(hf:EU K tf mf)(he:SK K te me):SW K (D8 (WI (wq i)) fr tf te) (pJ (XS i) fr mf me):=by
 intro H₀ M Hf S σ H Fs av S' R e Q q;obtain⟨y,O,e⟩:=oBq.mp e;obtain⟨B,e2,O⟩:=oMq.mp O;subst O;obtain⟨S2,e3,e⟩:=oBq.mp e;obtain⟨cap,e4,e⟩:=oBq.mp e;rcases nU e with⟨hl,e⟩|e
 .obtain⟨avs,e5,e⟩:=oMq.mp e;cases e;obtain⟨p,E,s1,s2,h1,h2,J,h4,h5,P⟩:=R.owl e2;refine⟨_,s1,p,_,rfl,h1,λU=>?_⟩
  have hn:∀q∈p::E,Hf q=none:=λq I=>(R.mem (oU s2 I)).2
  have pq:=(aw.mp h5).1;have R1:=(R.kill i).frz (F:=E) (λq I=>P q (mCo _ I)) λq I=>hn q (mCo _ I)
  have R2:=R1.fix (p:=p) (o:=.frz U (.dK (bA (λx q=>(x.1,V.ref q)) B E))) (P p (ax ..)).2 (by rw[qf pq];exact h2) (P p (ax ..)).1
  obtain⟨X,Fs3,Y,R3⟩:=R2.fzAll e3;have L:X p=some (.frz U (.dK (bA (λx q=>(x.1,V.ref q)) B E))):=Y.sf _ _ nG
  have sf1:ox Hf (om (frz Hf H E) p (.frz U (.dK (bA (λx q=>(x.1,V.ref q)) B E)))):=λb u eb=>by
   rw[nC λz=>by rw[z,h2]at eb;cases eb]
   exact pU (H:=H) (λq I=>hn q (mCo _ I)) b u eb
  have hz:(bA (λ(x:nT×Ϝ) q=>(x.1,V.ref q)) B E).length=B.length:=by rw[gW,←J,ij]
  have G:(B.map λx=>D.list (x.2.map .int)).length=B.length:=lMq ..
  refine wW (K:=K) hf he R3 e4 hl e5 (λi H s hi=>⟨s _ _ L,_,gEg (by rw[hz,←G];exact hi)⟩) (λH s=>⟨s _ _ L,by rw[hz,G];exact aa _⟩) (λn H' x H'' s hi y=>?_) λHf' H' v F t R' r o=>q _ _ _ v F ((sf1.trans Y.sf).trans t.sf) R' r o.nd λq I=>⟨o.fr q I,o.out q I⟩
  obtain⟨y1,⟨k,w⟩,y2,y3⟩:=y;rw[cS]at y2;rw[G]at hi;rw[gEg hi,gEg (J ▸ hi)]at y2;cases y2;refine⟨y1,_,by rw[gMq,gEg hi];rfl,?_⟩
  have g:=(h4 n _ _ (gEg (J ▸ hi)) (gEg hi)).1;have m:E[n]'(J ▸ hi)∈E:=gRq _;rw[y3];have hne:E[n]'(J ▸ hi)≠p:=λz=>pq (by rw[←z];exact m)
  have g':=Y.sf (E[n]'(J ▸ hi)) _ (((nC hne).trans (vU m)).trans g);exact pM.mk_list g' (rj _)
 .cases e
end
def Xa(j:Nat)(k:MK)(S:AS):Qt j k S=(uB S j).bind λs=>(k (S.set j none)).bind λx=>match x.1 with
 | .ow t=>uJ (x.2[j]?=some none/\s.length+t.length<=pe) (some (.ow (s++t),x.2))
 |_=>none:=rfl
def aaR(i:Nat)(S:AS):XS i S=(tE S i).map λkvs=>(kvs.map λx=>.list (x.2.map .int),S.set i none):=rfl
def aaK(i:Nat)(b x:ME)(S:AS):X3 i b x S=(tE S i).bind λ_=>(b S).bind λy=>(sX y.1).bind λk=>(tE y.2 i).bind λkvs=>uJ (kvs.length<pe) ((x (y.2.set i (some (.owl (Hn kvs k))))).bind λz=>(intOf z.1).bind λn=>(tE z.2 i).bind λs=>uJ (∀l∈s,l.2.length<pe) (some (.nx (z.2.set i (some (.owl (uk s k n))))))):=rfl
end Z
namespace Mr
open PySem PySem.Spec PyProof.Rows L2
section
variable {X:Cx}
def rLset(K:Ζ)(xs:List V)(H:Hp)(Q:VK):Prop:=∃(a:Addr) (ns:Ϝ),xs=[.ref a]/\qh K H a (ns.map V.int)/\ns.length+1<jW/\Q (.int ((Ms.dd ns).length:Nat)) H
def Vl{e:Expr}{O:TA}{S p x pos:Pos}(U:X.calm=true)(Y:Gl X "len")(ml:X.mg "len" = none)(hg:Gl X "set")(hm:X.mg "set" = none)(ha:PA X [e] O)
  (P:jt [.Call (.Name "set" p) [e] [] pos] X.env=(false,eval (.Call (.Name "set" p) [e] [] pos) X.env)::jt [] X.env:=by rfl) (hs:jt [e] X.env=[(false,eval e X.env)]:=by rfl) :
  PE X (.Call (.Name "len" S) [.Call (.Name "set" p) [e] [] pos] [] x) (Om (rLset X.K) O):=by
 intro nu s σ H Q I h;refine jP (wg I Y ml boot_len ?_ (by decide) (by decide))
 refine fj ?_ P (by rfl)
 rw[P];show jn _ _ (spliced ((false,eval (.Call (.Name "set" p) [e] [] pos) X.env)::jL x (jt [] X.env))) _ _ s;refine Calls.spliced_cons ?_;refine Call_ (wg I hg hm boot_set (bD (thn (ha pos nu s σ H _ I h) λus s1 B=>?_) hs rfl))
 obtain⟨vs,H1,E,r1,a,ns,e1,hS,hb,q⟩:=B;subst e1;obtain⟨u,rfl,ru⟩:=sk r1;cases ru;obtain⟨ws,hl,hi,_⟩:=uV E hS;refine Ms.RN (E.ok.hd U) hl hi hb λh1 R G kp=>Calls.spliced_nil ?_
 obtain⟨o,es,ep,t,ho,J,hd,_,_,hp,L,z,_⟩:=G;have M:es.size=(Ms.dd ns).length:=by
  have:=hp.length_eq;rw[lMq,ah]at this;exact this
 refine call_len_set (s:={ s1 with heap:=h1,toks:=R }) ho J hd z (by unfold jW at L;lia) ?_
 rw[M];exact⟨.int ((Ms.dd ns).length:Nat),H1,(E.kept (t':=R+1+1) kp),⟨_,rfl⟩,q⟩
def QS(xs:List V)(H:Hp)(Q:VK):Prop:=∃j:Int,xs=[.int j]/\(-(2 ^ 62)<=j/\j<2 ^ 62)/\j.toNat<=jo/\∀l,H l=none->Q (.ref l) (om H l (.lst ((aU j.toNat).map λk:Nat=>V.int (0+k))))
def PU{b:Expr}{Y:TA}{p0 p z pos:Pos}(hc:X.calm=true)(gl:Gl X "list")(ml:X.mg "list" = none)(hg:Gl X "range")(hm:X.mg "range" = none)(ha:PA X [b] Y)
  (he:jt [.Call (.Name "range" p) [b] [] pos] X.env=(false,eval (.Call (.Name "range" p) [b] [] pos) X.env)::jt [] X.env:=by rfl) (L:jt [b] X.env=[(false,eval b X.env)]:=by rfl) :
  PE X (.Call (.Name "list" p0) [.Call (.Name "range" p) [b] [] pos] [] z) (Om QS Y):=by
 intro nu s σ H Q I h;refine jP (wg I gl ml boot_list ?_ (by decide) (by decide))
 refine bD ?_ he (by rfl)
 rw[he];show jn _ _ (spliced ((false,eval (.Call (.Name "range" p) [b] [] pos) X.env)::jL z (jt [] X.env))) _ _ s;refine Calls.spliced_cons ?_;refine Call_ (wg I hg hm boot_range (bD (thn (ha pos nu s σ H _ I h) λus E M=>?_) L rfl))
 obtain⟨vs,H1,O,r1,j,J,⟨q3,q4⟩,hn,q⟩:=M;subst J;obtain⟨u,rfl,ru⟩:=sk r1;obtain⟨t,rfl⟩:=ru;have P:((j.toNat:Nat):Int)=Builtin.Range.rangeSize 0 j 1:=by rw[rangeSize_one];split <;> lia
 have R:j.toNat<=2 ^ 24:=by rw[jG]at hn;exact hn
 refine call_range_1 (Calls.spliced_nil ?_);refine call_list_range (n:=j.toNat) (O.ok.hd hc) (IsRange.new ..) (small_one (by decide) (by decide) q3 q4) P.symm R λh' tk x c hk S B=>?_
 have G:(E.heap.push { cls:=.type "range", data:=.fields #[.int 0 E.toks,.int j t,.int 1 (E.toks+1)] }).objs.size=E.heap.objs.size+1:=by first|rfl|simp[Heap.push]
 dsimp only at hk S;rw[G]at S;have U:ot ((aU j.toNat).map λk:Nat=>V.int (0+k)) x.toList:=by
  have hl:x.toList.length=j.toNat:=by rw[ah];exact B.1
  have key:jz x.toList ((aU j.toNat).map λk:Nat=>0+(k:Int)):=G0 (by simp[hl]) λk v n J e2=>by
   rw[ao]at J;obtain⟨tv,rfl⟩:=B.2 k v J;rw[gMq]at e2;obtain⟨m,e3,e4⟩:=oMq.mp e2;obtain⟨_,e5⟩:=gSq.mp e3;rw[List.getElem_range]at e5;subst e5;subst e4;exact⟨tv,by simp⟩
  have:=L2.vals_ints key;rw[mPq]at this;exact this
 refine⟨.ref (E.heap.objs.size+1),om H1 (E.heap.objs.size+1) (.lst _),O.laid (t':=tk) (λb o e=>hk b o (af _ e)) (bS _) (show pR X.prog X.w _ h' _ (.lst _)from ⟨by simpa using hn,x.toList,c,U,by simpa using S⟩),by rw[G];rfl,q _ (O.hok.fresh (bS _))⟩
end
end Mr
namespace Z
open PySem L2 Mr
def rLset(l:ML):ME:=λS=>(l S).bind λx=>(ql x.1).bind λns=>uJ (ns.length<=4000) (some (.int ((Ms.dd ns).length:Nat),x.2))
def Lv(a:ML):MK:=λS=>(a S).bind λx=>(CQ x.1).bind λds=>uJ (ds.length<=pe) (some (.ow (ds.map .sh),x.2))
section
variable {K:Ζ}{te:TE}{l:ML}
def T2(hl:SQ K te l):SR K (Om (Mr.rLset K) (tp te vd)) (rLset l):=by
 intro H₀ s Hf S σ H O P U R e Q q;obtain⟨x,B,e⟩:=oBq.mp e;obtain⟨ns,E,e⟩:=oBq.mp e;rcases nU e with⟨t,e⟩|e
 .cases e;refine hl R (ds:=x.1) (S':=x.2) B _ λG X Fs1 I J L M u z=>?_
  rw[tS E]at z;rw[qg z]at u;exact⟨I,ns,rfl,u,by unfold jW;lia,q _ _ _ _ L M .int⟩
 .cases e
def Qp{z:TA}{a:ML}(ha:Rm K z a):SK K (Om QS z) (Lv a):=by
 intro H₀ t Hf S σ H Fs av S' R e Q q;obtain⟨x,J,e⟩:=oBq.mp e;obtain⟨ds,s,e⟩:=oBq.mp e;rcases nU e with⟨hl,e⟩|e
 .cases e;refine ha R (ds:=x.1) (S':=x.2) J _ λL H1 Fs1 vs B E G=>?_
  unfold CQ at s;split at s
  .rename_i j M;rw[M]at G;rcases nU s with⟨O,s⟩|s
   .cases s;obtain⟨v,ws,rfl,P,U⟩:=G.cons_inv;cases U.nil_inv;cases P;rw[oT]at hl;refine⟨j,rfl,O,by rw[rB];exact hl,λp I=>?_⟩
    obtain⟨X,R2,Y,n2,n3⟩:=E.new (o:=.lst ((aU j.toNat).map λk:Nat=>V.int (0+k))) I
    refine q _ _ _ (.ref p) [p] (B.trans X) R2 (ou.new nG Y ?_) ((wZ.one E I).back B);refine⟨by rw[oT,lMq,aO],λi d v u g2=>?_⟩
    have hi:i<j.toNat:=by
     have:=(gSq.mp u).1
     rwa [oT]at this
    rw[vj hi]at u;rw[gMq,dg hi]at g2;cases u;cases g2;exact .int
   .cases s
  .cases s
 .cases e
end
def Yb(l:ML)(S:AS):rLset l S=(l S).bind λx=>(ql x.1).bind λns=>uJ (ns.length<=4000) (some (.int ((Ms.dd ns).length:Nat),x.2)):=rfl
def Vt(S:AS)(a:ML):Lv a S=(a S).bind λx=>(CQ x.1).bind λds=>uJ (ds.length<=pe) (some (.ow (ds.map .sh),x.2)):=rfl
end Z
namespace Z
open PySem PySem.Spec PyProof.Rows L2 Mr Xe
section
variable {X:Cx}
def OF:ur X (.type "int") (λxs H Q=>∃b,xs=[.bl b]/\Q (.int (if b=true then 1 else 0)) H):=by
 intro x s σ H xs z Q I r h;obtain⟨b,rfl,q⟩:=h;obtain⟨u,rfl,t⟩:=sk r;cases t;exact call_int_bool ⟨.int (if b=true then 1 else 0),H,I.tok _,⟨_,rfl⟩,q⟩
end
def Jl:List D->Option D
 | [.bl b]=>some (.int (if b=true then 1 else 0))
 |_=>none
def RK(b:Bool):Jl [.bl b]=some (.int (if b=true then 1 else 0)):=rfl
def Ve{K:Ζ}:Sk K (λxs H Q=>∃b,xs=[.bl b]/\Q (.int (if b=true then 1 else 0)) H) Jl:=by
 intro u H Q x d r e q;unfold Jl at e;split at e
 .obtain⟨v,z,rfl,s,t⟩:=r.cons_inv;rw[t.nil_inv];cases s;cases e;exact⟨_,rfl,q _ .int⟩
 .cases e
end Z
namespace Z
open PySem L2 Mr
def Vx:D->Option (List D)
 | .tup ds=>some ds
 |_=>none
noncomputable def EK:Θ->List D->AS->AS
 |i::is,d::ds,S=>EK is ds (S.set i (some (.sh d)))
 |_,_,S=>S
def Tc(is:Θ)(k:MK):MS:=λS=>(k S).bind λx=>(Vx (nK x.1)).bind λds=>if ds.length=is.length then some (.nx (EK is ds x.2))else none
def Zg(is:Θ)(k:MK)(S:AS):Tc is k S=(k S).bind λx=>(Vx (nK x.1)).bind λds=>if ds.length=is.length then some (.nx (EK is ds x.2))else none:=rfl
def Z9(ds:List D):Vx (.tup ds)=some ds:=rfl
def Vz(i:Nat)(is:Θ)(d:D)(ds:List D)(S:AS):EK (i::is) (d::ds) S=EK is ds (S.set i (some (.sh d))):=rfl
def Wv(S:AS):EK [] [] S=S:=rfl
def gNs:Θ->Wz
 | []=>Lm
 |i::is=>xW (qP i) (gNs is)
section
variable {K:Ζ}{te:TE}{k:MK}
theorem QH{H₀ s Hf H:Hp}{Q:St->Hp->Prop}:∀(is:Θ) {ds:List D}{vs:List V}{S:AS}{σ:St}{u:List Δ},ds.length=is.length->oA K Hf ds vs->oI K H₀ s Hf S σ H u->(∀t x,oI K H₀ s Hf (EK is ds S) t H x->Q t H)->gNs is vs σ H Q
 | [],[],vs,S,σ,u,_,r,R,h=>⟨r.nil_inv,h _ _ R⟩
 |i::is,d::ds,vs,S,σ,u,e,r,R,h=>by
  obtain⟨v,z,rfl,B,E⟩:=r.cons_inv;exact⟨v,z,rfl,QH is (Nat.succ.inj e) E (R.setD i B) h⟩
def VQ(is:Θ)(hk:SK K te k):SS K (Ja te (LS K is.length (gNs is))) (Tc is k):=by
 intro H₀ u Hf S σ H Fs o R e D h;obtain⟨x,I,e⟩:=oBq.mp e;obtain⟨B,s,e⟩:=oBq.mp e;have z:SK K te (rE k):=SK.frz hk;refine z R (a:=.sh (nK x.1)) (S':=x.2) (by show(k S).map _=_;rw[I];rfl) _ λJ H1 Fs1 v F L E M o1=>?_
 obtain⟨hF,r⟩:=M.sh_inv;have O:nK x.1 = .tup B:=by
  unfold Vx at s;split at s
  .rename_i hd;cases s;exact hd
  .cases s
 rw[O]at r
 by_cases hl:B.length=is.length
 .rw[oa hl]at e;cases e;obtain⟨t,P,rfl,Q,G⟩:=r.tup_inv;exact⟨t,P,rfl,BZ.of (E.sub _ _ Q),by rw[←G.1];exact hl,QH is hl G E λU X Y=>h _ _ _ _ L.sf Y⟩
 .rw[nY hl]at e;cases e
end
end Z
namespace Z
open PySem L2 Mr Xe
def Du(K:Ζ)(C:Addr)(z:MF)(B E G:Str):Sp:=λvs H Q _=>∃(x u:Addr) (w:V) (Hf:Hp) (d:D) (a:AV),vs=[.ref x,w]/\H x=some (.ins C u [])/\ox Hf H/\pM K Hf d w/\z [d]=some a /\
 ∀s t v F p q,ox Hf s->ox H t->ox s t->(∀b,Hf b=none->H b≠none->s b=none)->ou K s t a v F->F.Nodup->(∀q∈F,H q=none)->t p=none->t q=none->¬ q=p->Q .non (om (om (om t p (.lst [])) q (.lst [])) x (.ins C u [(B,v),(E,.ref p),(G,.ref q)]))
def Vc(c:Str)(s:MF)(t u z:Str)(a:MA):MK:=λS=>(a S).bind λx=>if x.1.length=1 then (s (x.1.map nK)).map λr=>(.sh (.ins c [(t,nK r),(u,.list []),(z,.list [])]),x.2)else none
def VW(c f:Str):AV->Option D
 | .sh d=>V2 c f d
 |_=>none
def R9(c f:Str)(k:MK):MK:=λS=>(k S).bind λo=>(VW c f o.1).map λd=>(.sh d,o.2)
structure Xn (P:jq)(w:ju)(K:Ζ)(mg:Str->Υ)(base:Heap)(k:Nat)(c:Str)(C f:Addr)(fd:jx)(ps:List Str)(sp:Sp):Prop where
 mki:Mk K C f
 ok:yG P w K mg base S6 k f fd ps sp
 b:uf K fd ps []
 m:mg c=some (.ref C)
def Ya{X:Cx}{k:Nat}{c:Str}{C f:Addr}{fd:jx}{ps:List Str}{sp:Sp}{p pos:Pos}{e:Expr}{es:List Expr}{t:TA}(G:Xn X.prog X.w X.K X.mg X.base k c C f fd ps sp)(hr:qV (k+1) X.A)(ha:PA X (e::es) t)(x:Gl X c:=by rfl)(s:(c == ("__debug__" : Str))=false:=by decide)
  (z:jt (e::es) X.env=(false,eval e X.env)::jt es X.env:=by rfl) (u:(jL pos (jt es X.env)).any (·.1)=false:=by rfl):PE X (.Call (.Name c p) (e::es) [] pos) (Rb C sp [] E0 t):=
 T1 G.mki G.ok hr x G.m G.b .nil QW ha s z u
section
variable {K:Ζ}{C:Addr}{vs:List V}{H:Hp}{Q:VK}{E:XK}{f1 f2 f3 p1:Str}{fm:MF}
def LZ(h:Du K C fm f1 f2 f3 vs H Q E):vs.length=2:=by
 obtain⟨x,s,w,Hf,d,a,rfl,_⟩:=h;rfl
def ack(cl:Pz K C)(X:qz K C f1)(Y:qz K C f2)(n3:qz K C f3)(L:¬ f1=f2)(O:¬ f1=f3)(P:¬ f2=f3)(h:Du K C fm f1 f2 f3 vs H Q E) :
  VE (VS K (wq 0) (DS (oR K fm) [] E0 (tp (wq 1) vd)) f1) (VE (VS K (wq 0) (OL vd) f2) (VS K (wq 0) (OL vd) f3)) { nx:=λ_ M=>Q .non M,rt:=Q } (start ["self", p1] vs) H:=by
 obtain⟨x,I,w,Hf,d,a,rfl,hH,sm,r,hf,q⟩:=h;refine⟨w,rfl,Hf,[d],a,sm,.cons r .nil,hf,λR M v F s1 U s3 l ra nd fr=>⟨.ref x,rfl,x,C,I,[],rfl,U _ _ hH,cl,X,by decide,aJ _,λp J=>⟨.ref x,rfl,x,C,I,rA f1 v [],rfl,?_,cl,Y,cT rfl,aJ _,λt s=>⟨.ref x,rfl,x,C,I,rA f2 (.ref p) (rA f1 v []),rfl,?_,cl,n3,?_,?_⟩⟩⟩⟩
 .have G:¬ x=p:=λz=>by
   rw[←z,nG]at J;cases J
  rw[nC G,nG]
 .have G:¬ x=t:=λz=>by
   rw[←z,nG]at s;cases s
  rw[nC G,nG]
 .have S:rA f2 (.ref p) (rA f1 v [])=[(f1,v),(f2,.ref p)]:=by simp[rA,L]
  rw[S];exact cT rfl
 .have G:¬ p=x:=λz=>by
   rw[z,nG]at J;cases J
  have u:¬ t=x:=λz=>by
   rw[z,nG]at s;cases s
  rw[nC G]at J;rw[nC u]at s;have B:¬ t=p:=λz=>by
   rw[z,nG]at s;cases s
  rw[nC B,nC u]at s;have S:rA f2 (.ref p) (rA f1 v [])=[(f1,v),(f2,.ref p)]:=by simp[rA,L]
  have e3:rA f3 (.ref t) [(f1,v),(f2,.ref p)]=[(f1,v),(f2,.ref p),(f3,.ref t)]:=by simp[rA,O,P]
  have e4:om (om (om (om (om M x (.ins C I (rA f1 v []))) p (.lst [])) x (.ins C I (rA f2 (.ref p) (rA f1 v [])))) t (.lst [])) x (.ins C I (rA f3 (.ref t) (rA f2 (.ref p) (rA f1 v []))))=om (om (om M p (.lst [])) t (.lst [])) x (.ins C I [(f1,v),(f2,.ref p),(f3,.ref t)]):=by
   rw[S,e3];funext b
   by_cases b1:b=x
   .rw[b1,nG,nG]
   by_cases b2:b=t
   .rw[b2,nC u,nC u,nG,nG]
   by_cases b3:b=p
   .rw[b3,nC G,nC G,nC (Ne.symm B),nC (Ne.symm B),nC G,nG,nG]
   .rw[nC b1,nC b1,nC b2,nC b2,nC b1,nC b3,nC b3,nC b1]
  show Q .non _;rw[e4];exact q R M v F p t s1 U s3 l ra nd fr J s B
def XD{c:Str}{t:TA}{a:MA}(I:OU K c C)(ha:SA K t a):SK K (Rb C (Du K C fm f1 f2 f3) [] E t) (Vc c fm f1 f2 f3 a):=by
 intro H₀ Hf₀ Hf S σ H Fs av S' R e Q q;obtain⟨x,e1,e⟩:=oBq.mp e;split at e
 .rename_i hl;obtain⟨z,e3,e⟩:=oMq.mp e;cases e;refine ha R (as:=x.1) (S':=x.2) e1 _ λJ u Fs1 vs Gs t1 R1 r1 o1 y s hy hdx hne=>?_
  obtain⟨R2,r2,t2⟩:=R1.gives t1 r1 o1;rw[aNq];obtain⟨b,hb⟩:=List.length_eq_one_iff.mp hl;rw[hb]at e3 r2;obtain⟨w,ws,rfl,rb,rn⟩:=r2.cons_inv;obtain rfl:=rn.nil_inv;have sub:=R2.sub;have X:ox u (om (om u s (.own y)) y (.ins C s [])):=λb o h=>by
   have b1:¬ b=y:=λz=>by rw[z,hy]at h;cases h
   have b2:¬ b=s:=λz=>by rw[z,hdx]at h;cases h
   rw[nC b1,nC b2];exact h
  have fy:∀{b},Z.frz J u Gs.flatten b≠none->u b≠none:=λ{b} h z=>by
   cases Y:Z.frz J u Gs.flatten b with
   |none=>exact h Y
   |some o=>rw[sub _ _ Y]at z;cases z
  have ny:Z.frz J u Gs.flatten y=none:=fW λh=>fy h hy
  have nd':Z.frz J u Gs.flatten s=none:=fW λh=>fy h hdx
  refine⟨y,s,w,_,nK b,z,rfl,nG,sub.trans X,rb,e3,λL H' v F p U s1 s2 s3 l ra nd fr hp hp' hpp=>⟨rfl,?_⟩⟩
  have hy2:om (om u s (HO.own y)) y (.ins C s []) y=some (.ins C s []):=nG;have M:om (om u s (HO.own y)) y (.ins C s []) s=some (.own y):=by rw[nC hne,nG]
  have hy':=s2 _ _ hy2;have B:=s2 _ _ M;have yp:¬ y=p:=λz=>by rw[z,hp]at hy';cases hy'
  have yp':¬ y=U:=λz=>by rw[z,hp']at hy';cases hy'
  have dp:¬ s=p:=λz=>by rw[z,hp]at B;cases B
  have dp':¬ s=U:=λz=>by rw[z,hp']at B;cases B
  have Fy:y∉F:=λm=>by rw[fr y m]at hy2;cases hy2
  have Fd:s∉F:=λm=>by rw[fr s m]at M;cases M
  have ly:L y=none:=l y ny (by rw[hy2];simp)
  have ld:L s=none:=l s nd' (by rw[M];simp)
  have nF:∀q∈F,L q=none:=λq Y=>(ra.owned q Y).2
  have hfz:∀b o,Z.frz L H' F b=some o->H' b=some o:=λb o h=>by
   by_cases m:b∈F
   .rw[vU m]at h;exact h
   .rw[qf m]at h;exact s3 _ _ h
  have old:∀b,u b≠none->b≠y/\b≠s/\b≠p/\b≠U/\b∉F:=λb hb=>by
   obtain⟨o,ho⟩:=fN.mp hb;have O:=X _ _ ho;have h3:=s2 _ _ O;refine⟨λz=>hb (z ▸ hy),λz=>hb (z ▸ hdx),λz=>?_,λz=>?_,λm=>?_⟩
   .rw[z,hp]at h3;cases h3
   .rw[z,hp']at h3;cases h3
   .rw[fr b m]at O;cases O
  let G:Hp:=om (om (om (om (Z.frz L H' F) s (.own y)) p (.lst [])) U (.lst [])) y (.ins C s [(f1,v),(f2,.ref p),(f3,.ref U)])
  let H3:Hp:=om (om (om H' p (.lst [])) U (.lst [])) y (.ins C s [(f1,v),(f2,.ref p),(f3,.ref U)])
  have P:∀b,u b≠none->G b=L b/\H3 b=H' b:=λb hb=>by
   obtain⟨b1,b2,b3,b4,b5⟩:=old b hb;exact⟨by show om _ _ _ _=_;rw[nC b1,nC b4,nC b3,nC b2,qf b5],by show om _ _ _ _=_;rw[nC b1,nC b4,nC b3]⟩
  have sfG:ox (Z.frz L H' F) G:=λb o h=>by
   have h':=hfz b o h;have b1:¬ b=y:=λz=>by rw[z,qf Fy,ly]at h;cases h
   have b2:¬ b=s:=λz=>by rw[z,qf Fd,ld]at h;cases h
   have b3:¬ b=p:=λz=>by rw[z,hp]at h';cases h'
   have b4:¬ b=U:=λz=>by rw[z,hp']at h';cases h'
   show om _ _ _ _=_;rw[nC b1,nC b4,nC b3,nC b2];exact h
  have sGH:ox G H3:=λb o h=>by
   by_cases b1:b=y
   .rw[b1]at h ⊢;have h:om _ _ _ _=_:=h;rw[nG]at h;show om _ _ _ _=_;rw[nG];exact h
   have h:om _ _ _ _=_:=h;show om _ _ _ _=_;rw[nC b1]at h ⊢
   by_cases b4:b=U
   .rw[b4,nG]at h ⊢;exact h
   rw[nC b4]at h ⊢
   by_cases b3:b=p
   .rw[b3,nG]at h ⊢;exact h
   rw[nC b3]at h ⊢
   by_cases b2:b=s
   .rw[b2,nG]at h;rw[b2,B];exact h
   rw[nC b2]at h;exact hfz b o h
  have s13:ox u H3:=λb o h=>by
   rw[(P b (by rw[h];simp)).2]
   exact s2 _ _ (X _ _ h)
  have sG:ox (Z.frz J u Gs.flatten) G:=λb o h=>by
   rw[(P b (fy (by rw[h];simp))).1]
   exact s1 _ _ h
  have lG:∀b,Z.frz J u Gs.flatten b=none->u b≠none->G b=none:=λb h1 O=>by
   rw[(P b O).1];obtain⟨o,ho⟩:=fN.mp O;exact l b h1 (by rw[X _ _ ho];simp)
  have t3:yd (Z.frz J u Gs.flatten) u Fs1 G H3 Fs1:=⟨sG,s13,λ_ h=>h,λb h g=>.inl (by
   by_cases e:u b=none
   .exact e
   .exact absurd (lG b h e) g)⟩
  have R3:oI K H₀ Hf₀ G x.2 σ H3 Fs1:=R2.more s13 sG sGH (λq Y=>lG q (R2.mem Y).2 (R2.mem Y).1) λb h1 O=>lG b (R2.lim b h1 O) (Mi R2.fr O)
  have rv:pM K G (nK z) v:=(ra.frozen (pU nF) λq Y=>vU Y).mono sfG
  have gp:G p=some (.lst []):=by
   show om _ _ _ _=_;rw[nC (Ne.symm yp),nC (Ne.symm hpp),nG]
  have gp':G U=some (.lst []):=by
   show om _ _ _ _=_;rw[nC (Ne.symm yp'),nG]
  have re:∀{p},G p=some (.lst [])->pM K G (.list []) (.ref p):=λ{p} h=>.mk_list h .nil
  refine q _ _ _ (.ref y) [] (t2.trans t3) R3 (.sh (.ins I.ns (show om _ _ _ _=_ from nG) rfl λi d w' h1 O=>?_)) .nil
  match i with
  |0=>cases h1;cases O;exact rv
  |1=>cases h1;cases O;exact re gp
  |2=>cases h1;cases O;exact re gp'
  |i+3=>cases h1
 .cases e
def T6{c f:Str}{G:TE}{k:MK}(I:OU K c C)(M:qz K C f)(hk:SK K G k):SK K (aaf K G f) (R9 c f k):=by
 intro H₀ u Hf S σ H Fs av S' R e Q q;obtain⟨o,O,e⟩:=oBq.mp e;obtain⟨d,s,e⟩:=oMq.mp e;cases e;refine hk R (a:=o.1) (S':=o.2) O _ λP H0 U v0 F0 t0 J L o0=>?_
 obtain⟨fs,X,hl⟩:∃fs,o.1 = .sh (.ins c fs)/\fs.lookup f=some d:=by
  unfold VW at s;split at s
  .rename_i d' Y;unfold V2 at s;split at s
   .rename_i c' fs;split at s
    .rename_i hc;subst hc;exact⟨fs,Y,s⟩
    .cases s
   .cases s
  .cases s
 rw[X]at L;obtain⟨hF,rd⟩:=L.sh_inv;obtain⟨a',C',dx,gs,rfl,t,x,z,he⟩:=rd.ins_inv;rw[I.ns]at t;cases t;obtain⟨w,hw,B⟩:=(Al (f:=f) z he).2 d hl;exact⟨a',C,dx,gs,w,rfl,J.sub _ _ x,I.cl,M,hw,q _ _ _ w [] t0 J (.sh B) .nil⟩
end
def Yz(S:AS)(c f:Str)(k:MK):R9 c f k S=(k S).bind λo=>(VW c f o.1).map λd=>(.sh d,o.2):=rfl
def U8(c f:Str)(d:D):VW c f (.sh d)=V2 c f d:=rfl
def aaH(S:AS)(c:Str)(s:MF)(t u z:Str)(a:MA):Vc c s t u z a S=(a S).bind λx=>if x.1.length=1 then (s (x.1.map nK)).map λr=>(.sh (.ins c [(t,nK r),(u,.list []),(z,.list [])]),x.2)else none:=rfl
end Z
namespace Mr
open PySem PySem.Spec PyProof.Rows L2
section
variable {X:Cx}{pos:Pos}{i:Nat}{x:Str}{N P:List Str}{sc:jZ}
def qF{e:Expr}{te:TE}{s:Pos}(S:nM N P sc)(t:PE X e te)(u:X.N=N:=by rfl)(hi:X.N[i]?=some x:=by rfl)(z:Zu X.env.scope x:=by first|exact gZ rfl|exact ft rfl)(B:kM e (some (.Name x s)) pos.line X.env=pure false:=by rfl)(E:X.fn x=true∨X.env.scope.names.lookup x=some .local:=by trivial) :
  PS X (.Assign [.Name x s] e pos) (Ja te (qP i)):=Xw (u ▸ S.nd) hi z t B E
def xY(S:nM N P sc)(s:X.N=N:=by rfl)(hi:X.N[i]?=some x:=by rfl)(t:Zu X.env.scope x:=by first|exact gZ rfl|exact ft rfl)(u:X.fn x=true∨X.env.scope.names.lookup x=some .local:=by trivial):PG X (.Name x pos) (qP i):=G6 (s ▸ S.nd) hi t u
end
section
variable {X:Cx}{k n:Nat}{f:Addr}{fd:jx}{ps:List Str}{sp:Sp}{x:Str}{p pos:Pos}{e:Expr}{es:List Expr}{t:TA}{st:Stmt}
def qc(G:Fn X.prog X.w X.K X.mg X.base k x st ps sp f fd)(hr:qV n X.A)(ha:PA X (e::es) t)(hk:k<=n:=by decide)(z:Gl X x:=by rfl)(s:(x == ("__debug__" : Str))=false:=by decide)
  (B:jt (e::es) X.env=(false,eval e X.env)::jt es X.env:=by rfl) (u:(jL pos (jt es X.env)).any (·.1)=false:=by rfl) :
  PE X (.Call (.Name x p) (e::es) [] pos) (DS sp [] E0 t):=aat G (hr.mono hk) ha z s B u
end
def sC{N P:List Str}{s:jZ}(a:s.kind = .function:=by rfl)(b:s.isCoroutine=false:=by rfl)(c:s.isGenerator=false:=by rfl)(d:N.Nodup:=by trivial)(e:N.take P.length=P:=by rfl)(f:∀x∈P,s.names.lookup x=some .local∨s.names.lookup x=some .cell:=by trivial)(g:∀y∈s.names,y.2 ≠ .free:=by trivial):nM N P s:=⟨a,b,c,d,e,f,g⟩
def Jv{P:jq}{w:ju}{K:Ζ}{mg:Str->Υ}{base:Heap}{k:Nat}{x:Str}{st:Stmt}{ps N:List Str}{f:Addr}{fd:jx}{m:Z.MS}(D:tQ K mg x st ps f fd)(S:nM N ps (nD st))
  (h:∀(u:Value) (A:Around) (outer:List Env) (s:Shared) (H:Hp) (E:XK),qV k (A.deeper (jY x (nD st) s.heap.objs.size f u))->(A.deeper (jY x (nD st) s.heap.objs.size f u)).units+64<jF->(A.deeper (jY x (nD st) s.heap.objs.size f u)).units+65<jF ->
   ∃t,J9 (Io S6 P w K mg base N x (nD st) f u A outer s H E).nox (sZ st) t/\Z.SS K t m):Fn P w K mg base (k+1) x st ps (Z.oR K (Z.oX ps.length N.length m)) f fd:=
 ⟨D,D.F.ok S (λz H Q E h=>Z.K6 h) λu A outer s H z Q E hr hh=>by
  obtain⟨t,a,b⟩:=h u A outer s H E hr hr.units (qV.units65 hr);exact⟨t,a,Z.DF N b hh⟩⟩
def Aw{P:jq}{w:ju}{K:Ζ}{mg:Str->Υ}{base:Heap}{k:Nat}{x:Str}{st:Stmt}{ps N:List Str}{f:Addr}{fd:jx}{m:Z.MS}(D:tQ K mg x st ps f fd)(S:nM N ps (nD st))
  (h:∀(u:Value) (A:Around) (outer:List Env) (s:Shared) (H:Hp) (E:XK),nM N ps (nD st)->qV k (A.deeper (jY x (nD st) s.heap.objs.size f u))->(A.deeper (jY x (nD st) s.heap.objs.size f u)).units+64<jF->(A.deeper (jY x (nD st) s.heap.objs.size f u)).units+65<jF ->
   ∃t,Z.SS K t m/\J9 (Io S6 P w K mg base N x (nD st) f u A outer s H E).nox (sZ st) t):Fn P w K mg base (k+1) x st ps (Z.oR K (Z.oX ps.length N.length m)) f fd:=
 ⟨D,D.F.ok S (λz H Q E h=>Z.K6 h) λu A outer s H z Q E hr hh=>by
  obtain⟨t,b,a⟩:=h u A outer s H E S hr hr.units (qV.units65 hr);exact⟨t,a,Z.DF N b hh⟩⟩
def YC{X:Cx}{i o:Expr}{ty s:TE}{pos:Pos}(t:X.A.units+1<jF)(hi:PE X i ty)(u:PE X o s)(x:jT .NotIn o=false):PT X (.Compare i [.NotIn] [o] pos) (tB (GA ty s)):=Lb (FF t hi u) x
def YU{X:Cx}{i o:Expr}{ty s:TE}{pos:Pos}(t:X.A.units+1<jF)(hi:PE X i ty)(u:PE X o s)(x:jT .In o=false):PT X (.Compare i [.In] [o] pos) (tB (Yo ty s)):=Lb (YZ t hi u) x
end Mr
namespace Mo
open PySem PyProof.Rows Mr
section
variable {K:Type}[DecidableEq K]
def fz(ks:List K)(ws:Ξ)(j:Nat):List (K×Value):=((ks.zip ws).take j).foldl (λm p=>stored m p.1 p.2) []
end
end Mo
namespace Mr
open PySem L2
variable {K:Ζ}{h:Heap}{mg:Str->Υ}{x z:Str}{st:Stmt}{f O:Addr}{fd:jx}
structure At (K:Ζ)(x:Str)(st:Stmt)(f:Addr)(fd:jx):Prop where
 a:W.nsIn K jr x=some (some (.ref f))
 F:Ru K x x st f fd
structure AtM (K:Ζ)(O:Addr)(z x:Str)(st:Stmt)(f:Addr)(fd:jx):Prop where
 a:W.findIn K (.ref O) z=some (some (.ref f))
 F:Ru K z x st f fd
 i:W.isFn K (.ref f)=true
section
variable {oc kV doc pm wC ct:Value}{od an:Option Addr}{osl:Array Υ}
def at_mk(a:W.nsIn K jr x=some (some (.ref f)))(l:K.lookup f=some ⟨oc,od,.func (W.fnOf x x (vP st) (sZ st) (nD st) .none kV doc pm an wC ct),osl⟩)
  (c:W.codeIn K wC x=true) (k:W.keepIn K (.ref f)=true):At K x st f (W.fnOf x x (vP st) (sZ st) (nD st) .none kV doc pm an wC ct):=⟨a,Hv l c k⟩
def atM_mk(a:W.findIn K (.ref O) z=some (some (.ref f)))(l:K.lookup f=some ⟨oc,od,.func (W.fnOf z x (vP st) (sZ st) (nD st) .none kV doc pm an wC ct),osl⟩)
  (c:W.codeIn K wC x=true) (k:W.keepIn K (.ref f)=true) (i:W.isFn K (.ref f)=true):AtM K O z x st f (W.fnOf z x (vP st) (sZ st) (nD st) .none kV doc pm an wC ct):=⟨a,Hv l c k,i⟩
end
abbrev BA(x q:Str)(st:Stmt)(ps:List Str)(us:Ξ):Prop:=∀(kV s pm:Value) (t:Option Addr) (u ct:Value),bindArgs (W.fnOf x q (vP st) (sZ st) (nD st) .none kV s pm t u ct) ⟨us,[]⟩=pure (ps.zip us)
section
variable {q a b c d:Str}(F:Ru K x q st f fd)
include F
def b1(h:∀u,BA x q st [a] [u]:=by exact λ_ _ _ _ _ _ _=>rfl):uf K fd [a] []:=F.binds λ_ _ _ _ _ _ s hl=>by
 obtain - | ⟨u, - | ⟨v,l⟩⟩:=s <;> cases hl
 apply h
def b2(h:∀u v,BA x q st [a,b] [u,v]:=by exact λ_ _ _ _ _ _ _ _=>rfl):uf K fd [a,b] []:=F.binds λ_ _ _ _ _ _ s hl=>by
 obtain - | ⟨u, - | ⟨v, - | ⟨w,l⟩⟩⟩:=s <;> cases hl
 apply h
def b3(h:∀u v w,BA x q st [a,b,c] [u,v,w]:=by exact λ_ _ _ _ _ _ _ _ _=>rfl):uf K fd [a,b,c] []:=F.binds λ_ _ _ _ _ _ s hl=>by
 obtain - | ⟨u, - | ⟨v, - | ⟨w, - | ⟨y,l⟩⟩⟩⟩:=s <;> cases hl
 apply h
end
def uR{ps:List Str}(X:K.In h)(G:h.Ns jr mg)(a:At K x st f fd)(b:uf K fd ps []):tQ K mg x st ps f fd:=⟨a.F,W.mg_of X G a.a,b⟩
end Mr
namespace Zl
open PySem L2 Mr Z
def B9:MS:=(oP (kSc (Zf (oq W4 (nB 0) (rC (.int 0))) (oq dLt (rD Lf (nA (nB 0) nH)) (oq K5 (rC (.int 10)) (rC (.int 60)))))))
def yA:MF:=oX 1 1 B9
def BM:MS:=(nO (wk (qC (oq Ax (rD qi (nA (nB 0) nH)) (rC (.int 0)))) (oP (rq nZ)) oV)
 (nO (oj 1 (kSc (Py "list" HD (nB 0) (nA (rD UY (nA (nB 0) nH)) nH))))
 (oP (HV (lOf (Tn (rW 0) (vE (nB 1)) yc)) (lOf (Tn (rW 0) yc (vE (nB 1))))))))
def wy:MF:=oX 1 2 BM
def vf:MS:=(Xf 1 (HX 2))
def AY:MS:=(nO (oj 1 (rq nZ))
 (nO (xK 2 (nP 0) vf)
 (oP (CL 1))))
def si:MF:=oX 1 3 AY
def rY:MS:=(wk (Gm (qC (oQ Zl.yA (nA (nB 1) nH)))) qp oV)
def wU:MS:=(xK 1 (nP 0) rY)
def rL:MF:=oX 1 2 wU
def tj:MS:=(nO (wk (qC (YS (nB 2) (nB 1))) qp oV) (wM 1 (nB 2) (kSc (rC (.bl true)))))
def xV:MS:=(nO (oj 1 wx)
 (xK 2 (nP 0) tj))
def sL:MF:=oX 1 3 xV
def tK:MS:=(wM 1 (nB 2) (kSc (rC (.bl true))))
def tU:MS:=(wk (qC (sO (J8 Am (nB 2)) (nB 1))) qp oV)
def yw:MS:=(nO (oj 1 wx)
 (nO (xK 2 (nP 0) tK)
 (xK 2 (nP 0) tU)))
def tX:MF:=oX 1 3 yw
def uU:MS:=(nO (wk (qC (oq J6 (rD qi (nA (rOf (oi Zl.si (nJ (nP 0) nZ))) nH)) (rC (.int 128)))) qp oV)
 (wk (qC (oq J6 (RG (nB 0)) (rC (.int 128)))) qp oV))
def qM:MF:=oX 1 1 uU
def xE:MS:=(nO (wk (qC (oq dLt (nB 1) (rD qi (nA (nB 0) nH)))) (oP (kSc (oq FR (nB 0) (nB 1)))) oV)
 (oP (kSc (rC (.int 0)))))
def oe:MF:=oX 2 2 xE
def FE:MS:=(nO (oj 2 (kSc (rC (.int 1))))
 (nO (oj 3 (kSc (rC (.int 0))))
 (nO (wk (qC (oq J6 (oq sD (oQ Zl.oe (nA (nB 0) (nA (rC (.int 0)) nH))) (rC (.int 3))) (rC (.int 0)))) (oj 2 (kSc (oq yX (oq sD (oQ Zl.oe (nA (nB 0) (nA (rC (.int 0)) nH))) (oq K5 (rC (.int 10)) (rC (.int 40)))) (rC (.int 1))))) oV)
 (nO (wk (qC (oq J6 (oq sD (oQ Zl.oe (nA (nB 0) (nA (rC (.int 1)) nH))) (rC (.int 3))) (rC (.int 0)))) (oj 3 (kSc (oq sD (oQ Zl.oe (nA (nB 0) (nA (rC (.int 1)) nH))) (oq K5 (rC (.int 10)) (rC (.int 40)))))) oV)
 (nO (oj 4 (kSc (oq yX (rC (.int 1)) (oq sD (oq HF (oQ Zl.oe (nA (nB 0) (nA (rC (.int 1)) nH))) (rC (.int 3))) (rC (.int 66))))))
 (nO (oj 5 (kSc (oq yX (oq wa (nB 2) (oq yX (oq sD (oq yX (oq wa (nB 4) (nB 1)) (oq sD (oq HF (oQ Zl.oe (nA (nB 0) (nA (rC (.int 0)) nH))) (rC (.int 3))) (rC (.int 67)))) (rC (.int 67))) (rC (.int 1)))) (nB 3))))
 (nO (wk (qC (oq Ax (oq sD (oQ Zl.oe (nA (nB 0) (nA (rC (.int 1)) nH))) (rC (.int 5))) (rC (.int 4)))) (oP (kSc (oq HB (oq K5 (rC (.int 10)) (rC (.int 60))) (nB 5)))) oV)
 (oP (CL 5)))))))))
def yu:MF:=oX 2 6 FE
def CB:MS:=(oP (HV (lOf (HV (lOf (Tn (rW 0) yc (vE (nB 1)))) (lOf (rq (nJ (nP 2) nZ))))) (lOf (Tn (rW 0) (vE (nB 1)) yc))))
def tF:MF:=oX 3 3 CB
def xj:MS:=(nO (oj 6 (kSc (oq wa (oQ Zl.yu (nA (nB 0) (nA (nB 4) nH))) (oq HB (rC (.int 1)) (oq wa (rC (.int 2)) (oq sD (nB 5) (rC (.int 2)))))))) (nO (oj 7 (kSc (oq sD (oq sD (oq wa (nB 5) (rC (.int 48271))) (rC (.int 10007))) (nB 1)))) (nO (ND 3 (nB 7) (oi Zl.tF (nJ (Px (rW 3) (nB 7)) (nJ (kSc (oq sD (oq sD (oq wa (nB 5) (rC (.int 16807))) (rC (.int 10009))) (oq yX (rD qi (nA (oq FR (nB 3) (nB 7)) nH)) (rC (.int 1))))) (nJ (nP 6) nZ))))) (nO (oj 7 (kSc (oq sD (oq sD (oq wa (nB 5) (rC (.int 69621))) (rC (.int 10037))) (nB 1)))) (ND 3 (nB 7) (oi Zl.tF (nJ (Px (rW 3) (nB 7)) (nJ (kSc (oq sD (oq sD (oq wa (nB 5) (rC (.int 39373))) (rC (.int 10039))) (oq yX (rD qi (nA (oq FR (nB 3) (nB 7)) nH)) (rC (.int 1))))) (nJ (kSc (J8 Am (nB 6))) nZ)))))))))
def D4:MS:=(nO (oj 3 (pJ (iR1 (nA (nB 1) nH)) [] oH (rq nZ)))
 (nO (DZ 4 5 (Tn (rW 0) (vE (nB 2)) (vE (oq yX (nB 2) (rC (.int 60))))) xj)
 (oP (CL 3))))
def uP:MF:=oX 3 8 D4
def yj:MS:=(nO (wk (qC (oq J6 (rD qi (nA (nB 0) nH)) (nB 1))) (oP (kSc (oq yX (rC (.int 1)) (oq sD (oQ Zl.oe (nA (nB 0) (nA (rC (.int 2)) nH))) (rC (.int 30)))))) oV)
 (oP (kSc (oq sD (oQ Zl.oe (nA (nB 0) (nA (rC (.int 2)) nH))) (rC (.int 30))))))
def tI:MF:=oX 2 2 yj
def ui:MS:=(wk (qC (oq dLt (oq FR (nB 2) (nB 4)) (oq FR (nB 2) (nB 3)))) (oj 3 (nP 4)) oV)
def yy:MS:=(nO (oj 3 (kSc (rC (.int 0)))) (nO (DW 4 (nA (rD qi (nA (nB 2) nH)) nH) ui) (AF 1 (HV (lOf (Tn (rW 2) (vE (nB 3)) yc)) (lOf (Tn (rW 2) yc (vE (nB 3))))))))
def Gp:MS:=(nO (oj 1 (rq nZ))
 (nO (xK 2 (nP 0) yy)
 (oP (LG (rW 1)))))
def AW:MF:=oX 1 5 Gp
def wO:MS:=(oP (AI (pJ (uG (nP 0)) [] oH (oi Zl.wy (nJ (nP 0) nZ)))))
def qE:MF:=oX 1 1 wO
def Dq:MS:=(nO (oj 1 (oi Zl.si (nJ (nP 0) nZ)))
 (nO (FV (kSc (oQ Zl.rL (nA (nB 1) nH))))
 (nO (FV (kSc (oQ Zl.sL (nA (nB 1) nH))))
 (nO (FV (kSc (oQ Zl.tX (nA (nB 1) nH))))
 (nO (FV (kSc (oQ Zl.qM (nA (nB 0) nH))))
 (oP (oi Zl.qE (nJ (nP 0) nZ))))))))
def zo:MF:=oX 1 2 Dq
def DG:MS:=(oP (B7 (lOf (oi Zl.si (nJ (nP 0) nZ)))))
def wY:MF:=oX 1 1 DG
def Cs:MS:=(oP (pJ (uG (oi Zl.wY (nJ (nP 0) nZ))) [] (qC (oq J6 (nB 0) (rC (.int 0)))) (nP 0)))
def rR:MF:=oX 1 1 Cs
def vm:MS:=(wM 1 (nB 4) (nP 2))
def vg:MS:=(xK 4 (nP 3) vm)
def Bg:MS:=(nO (oj 1 wx)
 (nO (DZ 2 3 (nP 0) vg)
 (oP (CL 1))))
def se:MF:=oX 1 5 Bg
def BR:MS:=(nO (wk (qC (oq Ax (rD qi (nA (nB 0) nH)) (rC (.int 0)))) (oP (kSc (rC (.str ".")))) oV)
 (oP (kSc (Py "str" yC (rC (.str " ")) (nA (rOf (pJ (uG (nP 0)) [] oH (kSc (rD CK (nA (nB 0) nH))))) nH)))))
def wL:MF:=oX 1 1 BR
def HQ:MS:=(oP (pJ (uG (nP 0)) [] oH (kSc (oQ Zl.wL (nA (nB 0) nH)))))
def A8:MF:=oX 1 1 HQ
def Dj(ns:Ϝ){k:Int}(h:0<=k):oe [.scr ns,.int k]=i0 (cell ns k.toNat):=by
 by_cases c:k<(ns.length:Int)
 .have hk:k.toNat<ns.length:=by lia
  have e:ns.getD k.toNat 0=ns[k.toNat]:=tZ hk
  simp_arith [oe,xE,c,CU h,gEg hk,cell,e]
 .have hk:ns.length<=k.toNat:=by lia
  have e:ns.getD k.toNat 0=0:=by rw[gDq,bG hk];rfl
  simp_arith [oe,xE,c,cell,e]
def Z1(ns:Ϝ):oe [.scr ns,.int 0]=i0 (cell ns 0):=Dj ns (by decide)
def aah(ns:Ϝ):oe [.scr ns,.int 1]=i0 (cell ns 1):=Dj ns (by decide)
def WG(ns:Ϝ):oe [.scr ns,.int 2]=i0 (cell ns 2):=Dj ns (by decide)
def Pg(i:Int):yA [.int i]=i4 (BJ i):=by
 by_cases c:i=0
 .subst c
  simp_arith [yA,B9]
  rfl
 .have e:BJ i=decide ((if i<0 then -i else i)<10 ^ 60):=by unfold BJ;rw[d0 (show i≠0 from c),gX]
  simp_arith [yA,B9,c,e]
def VI(ns:Ϝ)(k:Int):yu [.scr ns,.int k]=i0 (yh ns k):=by
 have M:0<=cell ns 1 / 3 % 66:=bK _ (by decide)
 have O:cell ns 1 / 3 % 66<66:=bJ _ (by decide)
 have b1:0<=((1+cell ns 1 / 3 % 66)*k+cell ns 0 / 3 % 67) % 67:=bK _ (by decide)
 have b2:((1+cell ns 1 / 3 % 66)*k+cell ns 0 / 3 % 67) % 67<67:=bJ _ (by decide)
 have z:=Iw (i:=1+cell ns 1 / 3 % 66) (j:=k) (by lia) (by lia)
 have B:=λs:Int=>Nz (i:=s) (j:=((1+cell ns 1 / 3 % 66)*k+cell ns 0 / 3 % 67) % 67+1) (by lia) (by lia)
 have E:=λi:Int=>rP (i:=i) (j:=3) (by decide)
 have G:=λi:Int=>rP (i:=i) (j:=5) (by decide)
 have t:=λi:Int=>rP (i:=i) (j:=66) (by decide)
 have u:=λi:Int=>rP (i:=i) (j:=67) (by decide)
 have x:=λi:Int=>rP (i:=i) (j:=10 ^ 40) (by decide)
 have H:=λi:Int=>Ew (i:=i) (j:=3) (by decide) (by decide)
 by_cases I:0<cell ns 0 % 3 <;> by_cases J:0<cell ns 1 % 3 <;> by_cases L:cell ns 1 % 5=4 <;>
  simp_arith [yu,FE,Z1,aah,I,J,L,E,G,t,u,x,H,z,B,yh,Az,Mr.step,Mr.Jm]
def put_ok{r:Ϝ}{i:Nat}(e:Int)(hi:i<=r.length)(hl:r.length<1000):tF [dI r,.int i,.int e]=some (aI (Mr.JF r i e)):=by
 have s:(r.take i).length+1<=pe:=by rw[lTq];show _<=16777216;lia
 have t:(r.take i++[e]).length+(r.drop i).length<=pe:=by rw[lAq,lTq,ar,lSq];show _<=16777216;lia
 have u:(1:Nat)<=pe:=by decide
 have x:(r.take i).map D.int++[D.int e]=(r.take i++[e]).map D.int:=by rw[mBq];rfl
 simp_arith [tF,CB,wV,Dm r i hi,zf r i hi,u,s,x,t,←mBq,Da]
 rfl
noncomputable def OR{n:Int}{ns:Ϝ}:ns.foldl min n∈n::ns/\∀x∈n::ns,ns.foldl min n<=x:=⟨wm ns n,λx s=>(ag.mp s).elim (λe=>e ▸ (uw ns n).1) ((uw ns n).2 x)⟩
def NG{ns:Ϝ}(hl:ns.length<=500000):wy [dI ns]=some (aI (good ns)):=by
 cases ns with
 |nil=>
  have u:((0:Nat):Int)=0:=rfl
  simp_arith [wy,BM,u]
  rfl
 |cons n ns=>
  obtain⟨u,z⟩:=OR (n:=n) (ns:=ns);have e:=Cm u z;have s:=Eu (n::ns);have x:¬ ((n::ns).length:Int)=0:=by simp only[lCq];lia
  have B:UY [dI (n::ns)]=some (.int (ns.foldl min n)):=by
   show(ql ((n::ns).map D.int)).bind (λns=>(Ni ns).map D.int)=_
   rw[tT];rfl
  have E:HD (dI (n::ns)) [.int (ns.foldl min n)]=some (.int (nV (n::ns) (n::ns).length:Nat)):=by
   show(ql ((n::ns).map D.int)).bind _=_;rw[tT];show(if _ then _ else _)=_
   rw[oa u,e]
  generalize G:n::ns=N at *;have t:(N.drop (nV N N.length)).length+(N.take (nV N N.length)).length<=pe:=by rw[ar,lTq];show _<=16777216;lia
  simp_arith [wy,BM,x,B,E,wV,Dm N _ s,zf N _ s,t,←mBq,Da]
  rfl
noncomputable def pI{rs:Λ}{i:Nat}{r:Ϝ}(h:rs[i]?=some r):(rs.take (i+1)).flatten=(rs.take i).flatten++r:=by
 rw[cK,h,fAq];simp
def qD(rs:Λ)(i:Nat):(rs.take i).flatten.length<=rs.flatten.length:=by
 have:=congrArg bV (congrArg List.flatten (aM i rs));rw[fAq,lAq]at this;lia
def xi{rs:Λ}{i:Nat}{d:D}(h:(rs.map dI)[i]?=some d):∃r,rs[i]?=some r/\d=dI r:=by
 rw[gMq]at h;obtain⟨r,s,t⟩:=oMq.mp h;exact⟨r,s,t.symm⟩
def uM{ns:Ϝ}{i:Nat}{d:D}(h:(ns.map D.int)[i]?=some d):∃z,ns[i]?=some z/\d = .int z:=by
 rw[gMq]at h;obtain⟨r,s,t⟩:=oMq.mp h;exact⟨r,s,t.symm⟩
def Hi{rs:Λ}(hl:rs.flatten.length<=500000):si [dM rs]=some (aI rs.flatten):=by
 have key:=rp (x:=2) (body:=vf) (λi S=>∃v,S=[some (.sh (dM rs)),some (aI (rs.take i).flatten),v]) (ds:=rs.map dI) (S:=[some (.sh (dM rs)),some (.ow []),none]) ⟨none,by simp⟩ (by
  rintro i d S hd ⟨v,rfl⟩;obtain⟨r,hr,rfl⟩:=xi hd;have s:=pI hr;have t:=qD rs (i+1);rw[s,lAq]at t;have u:(rs.take i).flatten.length+r.length<=pe:=by show _<=16777216;lia
  refine⟨_,?_,some (.sh (dI r)),rfl⟩;rw[s]
  simp_arith [vf,u,Da,←mBq])
 obtain⟨z,e,v,rfl⟩:=key;rw[lMq,aE]at e
 simp_arith [si,AY,e]
def Oz{ns:Ϝ}(h:∀z∈ns,BJ z=true):rL [dI ns]=some (.sh .non):=by
 have key:=rp (x:=1) (body:=rY) (λi S=>∃v,S=[some (.sh (dI ns)),v]) (ds:=ns.map .int) (S:=[some (.sh (dI ns)),none]) ⟨none,rfl⟩ (by
  rintro i d S hd ⟨v,rfl⟩;obtain⟨z,s,rfl⟩:=uM hd;refine⟨_,?_,i0 z,rfl⟩
  simp_arith [rY,Pg,h z (mGq s)])
 obtain⟨t,e,v,rfl⟩:=key
 simp_arith [rL,wU,e]
noncomputable def marks(ns:Ϝ):List (nT×D):=ns.map λz=>(.inl z,.bl true)
def L3{ns:Ϝ}{z:Int}:(Z.getD (marks ns) (.inl z)).isSome=decide (z∈ns):=by
 induction ns with
 |nil=>rfl
 |cons n ns s=>
  unfold Z.getD marks at *;rw[ai]
  by_cases c:n=z
  .subst c;rw[bh (by simp)]
   simp
  .rw[aW (by simp[c]),s]
   simp[Ne.symm c]
def K3{ns:Ϝ}{z:Int}(h:z∉ns):vh (marks ns) (.inl z) (.bl true)=marks (ns++[z]):=by
 unfold vh;rw[nY]
 .simp[marks]
 .simp[marks,h]
def Ti{ns:Ϝ}(hn:ns.Nodup)(hl:ns.length<=500000):sL [dI ns]=some (.sh .non):=by
 have key:=rp (x:=2) (body:=tj) (λi S=>∃v,S=[some (.sh (dI ns)),some (.owd (marks (ns.take i))),v]) (ds:=ns.map .int) (S:=[some (.sh (dI ns)),some (.owd []),none]) ⟨none,rfl⟩ (by
  rintro i d S hd ⟨v,rfl⟩;obtain⟨z,s,rfl⟩:=uM hd;have hi:i<ns.length:=(gSq.mp s).1;have t:ns.take (i+1)=ns.take i++[z]:=og s;have nz:z∉ns.take i:=λm=>by
   have:=aV.sublist (aT (i+1) ns) hn;rw[t]at this;exact(nAq.mp this).2.2 z m z (by simp) rfl
  refine⟨_,?_,i0 z,rfl⟩;rw[t,←K3 nz];have u:(marks (ns.take i)).length<pe:=zY (by simp[marks];lia)
  have B:(Z.getD (marks (ns.take i)) (.inl z)).isSome=false:=by rw[L3];exact d4 nz
  simp_arith [tj,u,B])
 obtain⟨E,e,v,rfl⟩:=key
 simp_arith [sL,xV,e]
def QF{kvs:List (nT×D)}{k s:nT}{d:D}:(Z.getD (vh kvs k d) s).isSome=(decide (s=k) || (Z.getD kvs s).isSome):=by
 unfold vh;split
 .rename_i h
  induction kvs with
  |nil=>simp at h
  |cons kv kvs E=>
   rw[ai];unfold Z.getD at *
   by_cases c:kv.1=k
   .rw[oa c]
    by_cases t:kv.1=s
    .rw[bh (by simp[t]),bh (by simp[t])]
     simp
    .rw[aW (by simp[t]),aW (by simp[t])]
     have hk:¬ s=k:=λz=>t (by rw[c,z])
     simp only[hk,decide_false,fc];have:∀l:List (nT×D),((l.map λkv=>if kv.1=k then (kv.1,d)else kv).find? λkv=>decide (kv.1=s)).isSome=(l.find? λkv=>decide (kv.1=s)).isSome:=by
      intro l
      induction l with
      |nil=>rfl
      |cons x l B=>
       rw[ai]
       by_cases u:x.1=s
       .have:(if x.1=k then (x.1,d)else x).1=s:=by split <;> exact u
        rw[bh (by simp[this]),bh (by simp[u])]
        rfl
       .have:¬ (if x.1=k then (x.1,d)else x).1=s:=by split <;> exact u
        rw[aW (by simp[this]),aW (by simp[u]),B]
     simpa using this kvs
   .rw[nY c]
    by_cases t:kv.1=s
    .rw[bh (by simp[t]),bh (by simp[t])]
     simp
    .rw[aW (by simp[t]),aW (by simp[t])]
     refine E ?_;simpa[c]using h
 .unfold Z.getD;rw[List.find?_append];cases e:kvs.find? λkv=>decide (kv.1=s)with
  |some x=>simp
  |none=>
   by_cases c:k=s
   .simp[c]
   .have G:¬ s=k:=λz=>c z.symm
    simp[c,G]
def Vo{ns:Ϝ}(hn:∀z∈ns, -z∈ns)(hl:ns.length<=500000):tX [dI ns]=some (.sh .non):=by
 have key:=rp (x:=2) (body:=tK) (λi S=>∃v s,S=[some (.sh (dI ns)),some (.owd s),v]/\s.length<=i/\∀z∈ns.take i,(Z.getD s (.inl z)).isSome=true) (ds:=ns.map .int) (S:=[some (.sh (dI ns)),some (.owd []),none]) ⟨none,[],rfl,aa _,λz h=>by simp at h⟩ (by
  rintro i d S hd ⟨v,s,rfl,hk,B⟩;obtain⟨z,t,rfl⟩:=uM hd;have hi:i<ns.length:=(gSq.mp t).1;have G:s.length<pe:=zY (by lia)
  refine⟨_,?_,i0 z,vh s (.inl z) (.bl true),rfl,?_,λy E=>?_⟩
  .simp_arith [tK,G]
  .unfold vh;split
   .rw[lMq];lia
   .rw[lAq,lSq];lia
  .rw[QF];rw[og t]at E;rcases mAq.mp E with m|m
   .rw[B y m,ik]
   .rw[mSq.mp m];simp)
 obtain⟨I,e,v,s,rfl,_,B⟩:=key;rw[lMq,aE]at B;have u:=rp (x:=2) (body:=tU) (λi S=>∃v,S=[some (.sh (dI ns)),some (.owd s),v]) (ds:=ns.map .int) (S:=[some (.sh (dI ns)),some (.owd s),v]) ⟨v,rfl⟩ (by
  rintro i d S hd ⟨v,rfl⟩;obtain⟨z,t,rfl⟩:=uM hd;refine⟨_,?_,i0 z,rfl⟩
  simp_arith [tU,B (-z) (hn z (mGq t))])
 obtain⟨J,H,L,rfl⟩:=u
 simp_arith [tX,yw,e,H]
def TM{rs:Λ}(u:rs.flatten.length<=128)(x:rs.length<=128):qM [dM rs]=some (.sh .non):=by
 have z:rs.countP (·=([]:Ϝ))<=rs.length:=List.countP_le_length;have s:¬ (128:Int)<(rs.flatten.length:Int):=by lia
 have t:¬ (128:Int)<(rs.countP (·=([]:Ϝ)):Nat):=by lia
 simp_arith [qM,uU,Hi (show rs.flatten.length<=500000 by lia),s,t]
def QL{z:Int}(h:z≠0/\-(10 ^ 60)<z/\z<10 ^ 60):BJ z=true:=by
 unfold BJ;rw[cu];refine⟨d0 h.1,d0 ?_⟩;split <;> lia
def Ap{rs:Λ}{d:D}(h:d∈rs.map dI):∃r∈rs,d=dI r:=by
 obtain⟨r,s,t⟩:=mMq.mp h;exact⟨r,s,t.symm⟩
def Aj:D->Ϝ
 | .list ds=>(ql ds).getD []
 |_=>[]
def rK(r:Ϝ):Aj (dI r)=r:=by
 show(ql (r.map D.int)).getD []=r;rw[tT];rfl
def yv{β:Type}(g:Ϝ->β)(rs:Λ):(rs.map dI).map (λd=>g (Aj d))=rs.map g:=by
 rw[mPq];exact mCq λr _=>by show g (Aj (dI r))=g r;rw[rK]
def Jj{rs:Λ}(hl:∀r∈rs,r.length<=500000):oy oH (oi wy (nJ (nP 0) nZ)) [] (rs.map dI)=some ((rs.map good).map aI):=by
 rw[oO (λd=>aI (good (Aj d)))]
 .rw[yv (λr=>aI (good r)),mPq]
  rfl
 .intro d hd;obtain⟨r,hr,rfl⟩:=Ap hd;refine⟨[some (.sh (dI r))],?_⟩
  simp_arith [NG (hl r hr),rK]
def OE(ns:Ϝ)(start:Nat):tI [.scr ns,.int start]=i0 (qo ns start:Nat):=by
 have s:=λi:Int=>rP (i:=i) (j:=30) (by decide)
 have u:0<=cell ns 2 % 30:=bK _ (by decide)
 by_cases c:start<ns.length
 .have t:(start:Int)<(ns.length:Int):=by lia
  have e:((qo ns start:Nat):Int)=1+cell ns 2 % 30:=by unfold qo;rw[oa c];lia
  simp_arith [tI,yj,t,WG,s,e]
 .have t:¬ (start:Int)<(ns.length:Int):=by lia
  have e:((qo ns start:Nat):Int)=cell ns 2 % 30:=by unfold qo;rw[nY c];lia
  simp_arith [tI,yj,t,WG,s,e]
def WA{ts:Λ}{a:Nat}(h:a<ts.length):atI (ts.map dI) (a:Int)=some (dI (ts.getD a [])):=by
 rw[GN,CU (by lia),cG,gDq,gEg h]
 rfl
def Yy(ts:Λ)(a:Nat)(r:Ϝ):(ts.map dI).set a (dI r)=(ts.set a r).map dI:=by rw[List.map_set]
def IG{m q m2 q2:Int}(I:-(2 ^ 64)<m/\m<2 ^ 64)(L:0<q)(u:-(2 ^ 64)<m2/\m2<2 ^ 64)(x:0<q2){n:Nat}{ts:Λ}{s:List AV}{s0 s2 v7:Option AV}{c e k:Int}{ke:MK}(hn:0<n)(ht:ts.length=n)(z:s.map nK=ts.map dI)(B:∀r∈ts,r.length<1000)
  (E:∀(s:List AV) (v:AV),ke [s0,i0 n,s2,some (.ow s),i0 k,i0 c,s6,some v]=some (.sh (.int e),[s0,i0 n,s2,some (.ow s),i0 k,i0 c,s6,some v])) :
  (nO (oj 7 (kSc (oq sD (oq sD (oq wa (nB 5) (rC (.int m))) (rC (.int q))) (nB 1)))) (ND 3 (nB 7) (oi tF (nJ (Px (rW 3) (nB 7)) (nJ (kSc (oq sD (oq sD (oq wa (nB 5) (rC (.int m2))) (rC (.int q2))) (oq yX (rD qi (nA (oq FR (nB 3) (nB 7)) nH)) (rC (.int 1))))) (nJ ke nZ))))))
   [s0,i0 n,s2,some (.ow s),i0 k,i0 c,s6,v7] =
  some (.nx [s0,i0 n,s2,some (.ow ((L8 ts (ET c m q n) (λl=>ET c m2 q2 (l+1)) e).map λr=>.sh (dI r))),i0 k,i0 c,s6,i0 (ET c m q n:Nat)]):=by
 have M:=Nz (i:=c) I.1 I.2;have O:=Nz (i:=c) u.1 u.2;have P:=λi:Int=>rP (i:=i) L
 have Q:=λi:Int=>rP (i:=i) x
 have R:=λi:Int=>rP (i:=i) (j:=(n:Int)) (by lia)
 have S:=Qg c m q hn;have t:=HC c m q hn;generalize hA:ET c m q n=a at *;have hr:(ts.getD a []).length<1000:=by
  rw[gDq,gEg (ht ▸ t)];exact B _ (gRq _)
 have U:=λi:Int=>rP (i:=i) (j:=((ts.getD a []).length:Int)+1) (by lia)
 have X:=Qg c m2 q2 (eG (ts.getD a []).length);have G:=HC c m2 q2 (eG (ts.getD a []).length);have H:c*m2 % q2 % (((ts.getD a []).length:Int)+1)=((ET c m2 q2 ((ts.getD a []).length+1):Nat):Int):=X;have J:ET c m2 q2 ((ts.getD a []).length+1)<(ts.getD a []).length+1:=G;have Y:=put_ok (r:=ts.getD a []) (i:=ET c m2 q2 ((ts.getD a []).length+1)) e (by lia) hr
 have h1:=WA (ts:=ts) (a:=a) (ht ▸ t);have h2:Mw ts.length (a:Int)=some a:=T9 (ht ▸ t)
 simp_arith [M,O,P,Q,R,S,z,h1,U,H,E,Y,h2,Yy]
 rfl
def VY(n:Nat):(az n ([]:Ϝ)).map dI=az n (.list []):=by rw[hZ];rfl
def Th(n:Nat):oy oH (rq nZ) [] (oK 0 n)=some (az n (.ow [])):=by
 rw[Z.oO λ_=>AV.ow []]
 .unfold oK;rw[mPq];show some (iZ (λ_=>AV.ow []) (aU n))=_
  rw[List.map_const',aO]
 .intro d _;have s:(0:Nat)<=pe:=by decide
  refine⟨[some (.sh d)],?_⟩
  simp_arith [s]
def R8{ns:Ϝ}{n start:Nat}(h:0<((ns.drop start).take 60).length->0<n)(hn:n<=128)(hl:ns.length<=500000):∃s,uP [.scr ns,.int n,.int start]=some (.ow s)/\s.map nK=(uI ns n start).map dI:=by
 have G:zr ns (some (start:Int)) (some ((start:Int)+60))=(ns.drop start).take 60:=by
  have e:=SJ ns start (start+60);rw[eE]at e;exact e
 unfold uI;generalize Q:(ns.drop start).take 60=cs at *;have X:cs.length<=60:=by rw[←Q,lTq];lia
 have Y:=λi:Int=>rP (i:=i) (j:=2) (by decide)
 have k1:=λj:Int=>Iw (i:=2) (j:=j) (by decide) (by decide)
 have key:=FT (x:=4) (y:=5) (k:=0) (ds:=cs.map D.int) (body:=xj)
  (λi S=>∃s M O H z,S=[some (.sh (.scr ns)),i0 n,i0 start,some (.ow s),M,O,H,z]/\s.map nK=(yx ns n (cs.take i) 0 (az n [])).map dI)
  (S:=[some (.sh (.scr ns)),i0 n,i0 start,some (.ow (az n (.ow []))),none,none,none,none]) ⟨_,none,none,none,none,rfl,by
   show _=(az n []).map dI;rw[VY,hZ,qm];rfl⟩ (by
  rintro i d S hd ⟨s,M,O,H,z,rfl,t⟩;rw[aQ]at t ⊢;obtain⟨c,R,rfl⟩:=uM hd;have hi:i<cs.length:=(gSq.mp R).1;have U:0<n:=h (by lia)
  have B:(yx ns n (cs.take i) 0 (az n [])).length=n:=by rw[yI,bF]
  have E:∀r∈yx ns n (cs.take i) 0 (az n []),r.length<=2*60:=λr hr=>by
   have:=Nw ns n (cs.take i) 0 (az n []) 0 (λr hr=>by rw[cB hr];exact aa 0) r hr
   rw[lTq]at this;lia
  have u:yx ns n (cs.take (i+1)) 0 (az n [])=A3 ns n (yx ns n (cs.take i) 0 (az n [])) i c:=by
   rw[og R,FW,lTq,aQ,cJ (by lia)]
  generalize yx ns n (cs.take i) 0 (az n [])=P at t B E u;have a0:0<=c % 2:=bK _ (by decide)
  have a1:c % 2<2:=bJ _ (by decide)
  have k2:=Nz (i:=yh ns i) (j:=1-2*(c % 2)) (by lia) (by lia)
  have I:∀r∈P,r.length<1000:=λr hr=>by have:=E r hr;lia
  have s1:=IG (m:=48271) (q:=10007) (m2:=16807) (q2:=10009) (by decide) (by decide) (by decide) (by decide) (s0:=some (.sh (.scr ns))) (s2:=i0 start) (s6:=i0 (sJ ns i c)) (v7:=z) (c:=c) (e:=sJ ns i c) (k:=i) (ke:=nP 6) U B t I (λs v=>by simp_arith [])
  have J:=vJ P (ET c 48271 10007 n) (λl=>ET c 16807 10009 (l+1)) (sJ ns i c)
  have L:∀r∈L8 P (ET c 48271 10007 n) (λl=>ET c 16807 10009 (l+1)) (sJ ns i c),r.length<1000:=λr hr=>by
   have:=Ho (m:=120) E r hr;lia
  have s2:=IG (m:=69621) (q:=10037) (m2:=39373) (q2:=10039) (by decide) (by decide) (by decide) (by decide) (s0:=some (.sh (.scr ns))) (s2:=i0 start) (s6:=i0 (sJ ns i c)) (v7:=i0 (ET c 48271 10007 n:Nat)) (c:=c) (e:=-sJ ns i c) (k:=i) (ke:=kSc (J8 Am (nB 6))) U (J.trans B) (Hb _) L (λs v=>by simp_arith [])
  refine⟨[some (.sh (.scr ns)),i0 n,i0 start,some (.ow ((A3 ns n P i c).map λr=>.sh (dI r))),i0 i,i0 c,i0 (sJ ns i c),i0 (ET c 69621 10037 n:Nat)],?_,_,i0 i,i0 c,i0 (sJ ns i c),i0 (ET c 69621 10037 n:Nat),rfl,?_⟩
  .unfold xj;rw[La (oj 7 _) (ND 3 _ _)];rw[Rc,WX];have e0:kSc (oq wa (oQ Zl.yu (nA (nB 0) (nA (nB 4) nH))) (oq HB (rC (.int 1)) (oq wa (rC (.int 2)) (oq sD (nB 5) (rC (.int 2)))))) (([some (.sh (.scr ns)),i0 n,i0 start,some (.ow s),M,O,H,z].set 4 (i0 (i:Nat))).set 5 (i0 c)) =
     some (.sh (.int (sJ ns i c)),[some (.sh (.scr ns)),i0 n,i0 start,some (.ow s),i0 (i:Nat),i0 c,H,z]):=by
    simp_arith [VI,Y,k1,k2]
    rfl
   rw[e0,bR,Eh,Rc];show DA ((nO _ _) [some (.sh (.scr ns)),i0 n,i0 start,some (.ow s),i0 (i:Nat),i0 c,i0 (sJ ns i c),z]) _=_;rw[s1,Eh,s2];rfl
  .rw[u];exact Hb _)
 obtain⟨S',e,s,M,O,H,z,rfl,t⟩:=key;rw[aQ,lMq,aE]at t;have h7:n<=pe:=by show _<=16777216;lia
 refine⟨s,?_,t⟩
 simp_arith [uP,D4,zc (show n<1000000 by lia),oT,Th,h7,wV,G,e]
def RO{ns:Ϝ}{n start:Nat}(h:0<((ns.drop start).take 60).length->0<n)(hn:n<=128)(hl:ns.length<=500000):∃t,uP [.scr ns,.int n,.int start]=some t/\nK t=dM (uI ns n start):=by
 obtain⟨s,e,h⟩:=R8 h hn hl;exact⟨.ow s,e,by rw[qm,h]⟩
def P8{r:Ϝ}{s0 s1 v4:Option AV}:∃v,qN 4 ui (oK 0 r.length) [s0,s1,some (.sh (dI r)),i0 0,v4]=some (.nx [s0,s1,some (.sh (dI r)),i0 (nV r r.length:Nat),v]):=by
 have key:=rp (x:=4) (body:=ui) (λi S=>∃v,S=[s0,s1,some (.sh (dI r)),i0 (nV r i:Nat),v]) (ds:=oK 0 r.length) (S:=[s0,s1,some (.sh (dI r)),i0 0,v4]) ⟨v4,rfl⟩ (by
  rintro i d S hd ⟨v,rfl⟩;have hi:i<r.length:=by
   have:=(gSq.mp hd).1;rw[oT]at this;exact this
  rw[vj hi,fA]at hd;cases hd;have s:nV r i<r.length:=by
   rcases Nat.eq_zero_or_pos i with z|z
   .subst z;exact hi
   .exact fu ((qW r i).1 z) hi
  have t:atI (r.map D.int) (i:Int)=some (.int (r.getD i 0)):=by rw[GN,CU (by lia),cG,gEg hi,tZ hi];rfl
  have u:atI (r.map D.int) ((nV r i:Nat):Int)=some (.int (r.getD (nV r i) 0)):=by rw[GN,CU (by lia),cG,gEg s,tZ s];rfl
  by_cases c:r.getD i 0<r.getD (nV r i) 0
  .refine⟨_,?_,i0 i,rfl⟩;have e:nV r (i+1)=i:=by show(if _ then _ else _)=_;rw[oa c]
   simp_arith [ui,t,u,c,e]
  .refine⟨_,?_,i0 i,rfl⟩;have e:nV r (i+1)=nV r i:=by show(if _ then _ else _)=_;rw[nY c]
   simp_arith [ui,t,u,c,e])
 obtain⟨B,e,v,rfl⟩:=key;rw[oT]at e;exact⟨v,e⟩
def U9{rs:Λ}(hl:rs.length<=500000)(hr:∀r∈rs,r.length<=500000):AW [dM rs]=some (.ow ((zH (rs.map good)).map λr=>.sh (dI r))):=by
 have key:=rp (x:=2) (body:=yy) (λi S=>∃B E z,S=[some (.sh (dM rs)),some (.ow (((rs.take i).map good).map aI)),B,E,z]) (ds:=rs.map dI) (S:=[some (.sh (dM rs)),some (.ow []),none,none,none]) ⟨none,none,none,rfl⟩ (by
  rintro i d S hd ⟨B,E,z,rfl⟩;obtain⟨r,s,rfl⟩:=xi hd;have hi:i<rs.length:=(gSq.mp s).1;have G:=hr r (mGq s);obtain⟨v,e⟩:=P8 (r:=r) (s0:=some (.sh (dM rs))) (s1:=some (.ow (((rs.take i).map good).map aI))) (v4:=z);have t:=Eu r;have u:(r.drop (nV r r.length)).length+(r.take (nV r r.length)).length<=pe:=by rw[ar,lTq];show _<=16777216;lia
  have H:(rs.take i).length<pe:=by rw[lTq];show _<16777216;lia
  refine⟨[some (.sh (dM rs)),some (.ow (((rs.take (i+1)).map good).map aI)),some (.sh (dI r)),i0 (nV r r.length:Nat),v],?_,_,_,_,rfl⟩;rw[og s,mBq,mBq]
  simp_arith [yy,zc (show r.length<1000000 by lia),e,wV,Dm r _ t,zf r _ t,u,←mBq,H]
  rfl)
 obtain⟨J,e,B,E,z,rfl⟩:=key;rw[lMq,aE]at e;have I:(0:Nat)<=pe:=by decide
 simp_arith [AW,Gp,I,e]
def wQ{rs:Λ}(hl:∀r∈rs,r.length<=500000)(s:rs.length<=pe):qE [dM rs]=some (.ow ((zH (rs.map good)).map aI)):=by
 have t:=Jj (rs:=rs) hl
 simp_arith [qE,wO,t,s]
def KM{rs:Λ}(h:zG rs):zo [dM rs]=some (.ow ((zH (rs.map good)).map aI)):=by
 have hl:rs.flatten.length<=500000:=by have:=h.most;lia
 have s:=Hi hl;have t:=Oz (ns:=rs.flatten) λz u=>QL (h.ends z u)
 have x:=Ti h.once hl;have B:=Vo h.both hl;have E:=TM h.most h.rows;have G:=wQ (rs:=rs) (λr hr=>bq (EN hr) hl) (by have:=h.rows;show _<=16777216;lia)
 simp_arith [zo,Dq,s,t,x,B,E,G]
end Zl
namespace Zl
open PySem L2 Mr Z Xe
def fnd(p:Ϝ->Int->Bool):Ϝ->Ϝ->Option Int
 |_,[]=>none
 |pre,z::r=>if p pre z=true then some z else fnd p (pre++[z]) r
noncomputable def bare(rs:Λ):Nat:=rs.countP (·=([]:Ϝ))
section
variable {rs:Λ}(hl:rs.flatten.length<=500000)
include hl
end
def NP(r:Ϝ)(h:r.Nodup):good (good r)=good r:=Jy h _
def K8{T:Λ}(h:T.flatten.Nodup):zH ((zH (T.map good)).map good)=zH (T.map good):=by
 have q:(zH (T.map good)).map good=zH (T.map good):=by
  have:∀r∈zH (T.map good),good r=r:=λr hr=>by
   obtain⟨s,t,rfl⟩:=mMq.mp ((yO _).mem_iff.mp hr);exact NP s (Oy h t)
  exact(mCq this).trans (de _)
 rw[q];exact(Hj (.refl _) (zW _)).symm
end Zl
namespace Zl
open PySem L2 Mr Z
def MB{rs:Λ}(hl:rs.flatten.length<=500000):wY [dM rs]=some (aI (pZ rs.flatten)):=by
 simp_arith [wY,DG,Hi hl]
def RX(ns:Ϝ):oy (qC (oq J6 (nB 0) (rC (.int 0)))) (nP 0) [] (ns.map D.int)=some ((ns.filter λz=>decide (0<z)).map λn=>.sh (.int n)):=by
 rw[Z.qT (λd=>match d with|.int z=>decide (0<z)|_=>false) (λd=>.sh d)]
 .rw[dw,mPq];rfl
 .intro d hd;obtain⟨z,s,rfl⟩:=mMq.mp hd;refine⟨[i0 z],?_,λ_=>⟨[i0 z],?_⟩⟩
  .simp_arith []
  .simp_arith []
def Jr{rs:Λ}(hl:rs.flatten.length<=500000):rR [dM rs]=some (aI ((pZ rs.flatten).filter λz=>decide (0<z))):=by
 have s:(pZ rs.flatten).length<=pe:=oM (by rw[(pK _).length_eq];lia)
 simp_arith [rR,Cs,MB hl,s,RX]
noncomputable def qG(p:Nat)(r:Ϝ):List (nT×D):=r.map λe=>(.inl e,.int (p:Int))
def oh:Nat->Λ->List (nT×D)
 |_,[]=>[]
 |p,r::rs=>qG p r++oh (p+1) rs
theorem yF(r:Ϝ):∀(rs:Λ) (p:Nat),oh p (rs++[r])=oh p rs++qG (p+rs.length) r
 | [],p=>by simp[oh]
 |s::rs,p=>by
  show qG p s++oh (p+1) (rs++[r])=(qG p s++oh (p+1) rs)++_;rw[yF r rs (p+1),ak,lCq,show p+1+rs.length=p+(rs.length+1) by lia]
theorem ud:∀(rs:Λ) (p:Nat),(oh p rs).map (·.1)=rs.flatten.map aH
 | [],p=>rfl
 |r::rs,p=>by
  show(qG p r++oh (p+1) rs).map (·.1)=_;rw[mBq,ud rs (p+1),fCq,mBq];congr 1;unfold qG;rw[mPq];rfl
def KI(rs:Λ)(p:Nat):(oh p rs).length=rs.flatten.length:=by
 have:=congrArg bV (ud rs p)
 rwa [lMq,lMq]at this
def Ay{kvs:List (nT×D)}{k:nT}{d:D}(h:k∉kvs.map (·.1)):vh kvs k d=kvs++[(k,d)]:=by
 unfold vh;rw[nY];intro e;obtain⟨kv,hk,e⟩:=cR.mp e;exact h (mMq.mpr ⟨kv,hk,of_decide_eq_true e⟩)
theorem J0{k:nT}:∀{a b:List (nT×D)},k∉a.map (·.1)->Z.getD (a++b) k=Z.getD b k
 | [],b,_=>rfl
 |x::a,b,h=>by
  unfold Z.getD;rw[bL,aW (by
   intro e;exact h (by rw[←of_decide_eq_true e];simp))]
  exact J0 (k:=k) (a:=a) (b:=b) λm=>h (by simp only[ai,ag];exact .inr m)
theorem Je{p:Nat}{e:Int}{b:List (nT×D)}:∀{r:Ϝ},e∈r->Z.getD (qG p r++b) (.inl e)=some (.int p)
 | [],h=>by cases h
 |x::r,h=>by
  unfold Z.getD;show((((aH x:nT),D.int (p:Int))::(qG p r++b)).find? _).map _=_
  by_cases c:x=e
  .subst c;rw[bh (by simp)]
   rfl
  .rw[aW (by simp[c])]
   exact Je (r:=r) ((ag.mp h).resolve_left λz=>c z.symm)
theorem xy{e:Int}{r:Ϝ}:∀{rs:Λ}{i:Nat}(p:Nat),rs.flatten.Nodup->rs[i]?=some r->e∈r->Z.getD (oh p rs) (.inl e)=some (.int ((p+i:Nat):Int))
 | [],i,p,_,h,_=>by simp at h
 |s::rs,0,p,hn,h,he=>by
  simp at h;subst h;exact Je he
 |s::rs,i+1,p,hn,h,he=>by
  rw[fCq,nAq]at hn;have t:rs[i]?=some r:=by simpa using h
  have:=xy (rs:=rs) (i:=i) (p+1) hn.2.1 t he;rw[show p+1+i=p+(i+1) by lia]at this
  rw[←this];refine J0 ?_;unfold qG;rw[mPq];intro m;obtain⟨x,u,z⟩:=mMq.mp m;cases z;exact hn.2.2 _ u _ (mFq.mpr ⟨r,mGq t,he⟩) rfl
def xT{rs:Λ}(hn:rs.flatten.Nodup)(hl:rs.flatten.length<=500000):se [dM rs]=some (.owd (oh 0 rs)):=by
 have key:=FT (x:=2) (y:=3) (k:=0) (body:=vg) (λi S=>∃H I s,S=[some (.sh (dM rs)),some (.owd (oh 0 (rs.take i))),H,I,s]) (ds:=rs.map dI) (S:=[some (.sh (dM rs)),some (.owd []),none,none,none]) ⟨none,none,none,rfl⟩ (by
  rintro i d S hd ⟨H,I,s,rfl⟩;rw[aQ];obtain⟨r,hr,rfl⟩:=xi hd;have u:=pI hr;have J:=qD rs (i+1);have hi:i<rs.length:=(gSq.mp hr).1;have B:((rs.take i).flatten++r).Nodup:=by
   rw[←u];have M:rs.flatten=(rs.take (i+1)).flatten++(rs.drop (i+1)).flatten:=by rw[←fAq,aM]
   rw[M]at hn;exact(nAq.mp hn).1
  rw[u,lAq]at J;have O:=rp (x:=4) (body:=vm) (λj S=>∃s,S=[some (.sh (dM rs)),some (.owd (oh 0 (rs.take i)++qG i (r.take j))),i0 i,some (.sh (dI r)),s]) (ds:=r.map D.int) (S:=[some (.sh (dM rs)),some (.owd (oh 0 (rs.take i))),i0 i,some (.sh (dI r)),s]) ⟨s,by simp[qG]⟩ (by
   rintro j d S hd ⟨s,rfl⟩;obtain⟨z,G,rfl⟩:=uM hd;have U:j<r.length:=(gSq.mp G).1;have P:(oh 0 (rs.take i)++qG i (r.take j)).length<pe:=zY (by
    rw[lAq,KI];unfold qG;rw[lMq,lTq];lia)
   have E:vh (oh 0 (rs.take i)++qG i (r.take j)) (.inl z) (.int (i:Int))=oh 0 (rs.take i)++qG i (r.take (j+1)):=by
    rw[Ay]
    .unfold qG;rw[og G,mBq,ak];rfl
    .rw[mBq,ud];intro m;have Q:r.take (j+1)=r.take j++[z]:=og G;rcases mAq.mp m with m|m
     .obtain⟨x,L,t⟩:=mMq.mp m;cases t;exact(nAq.mp B).2.2 _ L _ (mGq G) rfl
     .unfold qG at m;rw[mPq]at m;obtain⟨x,L,t⟩:=mMq.mp m;cases t;have:=aV.sublist (aT (j+1) r) (nAq.mp B).2.1;rw[Q]at this;exact(nAq.mp this).2.2 _ L _ (by simp) rfl
   refine⟨_,?_,i0 z,rfl⟩
   simp_arith [vm,P,E])
  obtain⟨X,t,R,rfl⟩:=O;rw[lMq,aE]at t;refine⟨_,?_,i0 i,some (.sh (dI r)),R,rfl⟩;rw[og hr,yF,lTq,cJ (by lia),aQ]
  simp_arith [vg,t])
 obtain⟨Y,e,H,I,s,rfl⟩:=key;rw[aQ,lMq,aE]at e
 simp_arith [se,Bg,e]
theorem yz{c:MT}{body:MS}(P:AS->Prop)(μ:AS->Nat)(x:AS->Prop)(h:∀S,P S->∃b t,c S=some (b,t)/\(b=true->∃u,body t=some (.nx u)/\P u/\μ u<μ S)/\(b=false->x t)) :
  ∀(s:Nat) (S:AS),P S->μ S<s->∃S',rX c body s S=some (.nx S')/\x S'
 |0,S,_,z=>absurd z (bW _)
 |n+1,S,B,z=>by
  obtain⟨b,t,E,G,H⟩:=h S B;rw[UO,E,gg];cases b with
  |true=>
   obtain⟨u,I,J,L⟩:=G rfl;rw[oa rfl,I];exact yz P μ x h n u J (by lia)
  |false=>
   rw[nY (by simp)]
   exact⟨t,rfl,H rfl⟩
noncomputable def rV(n:Nat):Θ:=(Nat.toDigits 10 n).map Char.toNat
def zw:∀d:Fin 10,(gY d.val).toNat=48+d.val:=by decide
def V7{n:Nat}(h:n<10):rV n=[48+n]:=by
 unfold rV;rw[Nat.toDigits_of_lt_base h];show[(gY n).toNat]=_;rw[zw ⟨n,h⟩]
def Vf{n:Nat}(h:10<=n):rV n=rV (n / 10)++[48+n % 10]:=by
 unfold rV;rw[Nat.toDigits_of_base_le (by decide) h,mBq]
 show _++[(gY (n % 10)).toNat]=_;rw[zw ⟨n % 10,Nat.mod_lt _ (by decide)⟩]
def AE{n:Nat}(h:n<10 ^ 60):(rV n).length<=60:=by
 unfold rV;rw[lMq];exact iT (by decide) h
def Dg{n:Nat}:(Str.ofString (toString ((n:Nat):Int)):Str)=⟨(rV n).toArray⟩:=iX n
def HN{n:Nat}(h:0<n):(Str.ofString (toString (-((n:Nat):Int))):Str)=⟨(45::rV n).toArray⟩:=by
 rw[iR (show -((n:Nat):Int)<0 by lia),show(0:Int) - -((n:Nat):Int)=(n:Int) by lia,PySem.Str.ofString_eq_toList,String.toList_append,mBq]
 have e:(Str.ofString (toString ((n:Nat):Int)):Str)=⟨(rV n).toArray⟩:=Dg;rw[PySem.Str.ofString_eq_toList]at e;have s:(toString ((n:Nat):Int)).toList.map Char.toNat=rV n:=by
  have:=congrArg (λz:Str=>z.cps.toList) e
  simpa using this
 rw[s];rfl
noncomputable def oZ(z:Int):Str:=Str.ofString (toString z)
end Zl
namespace Zl
open PySem L2 Mr Z Xe
noncomputable def plc(rs:Λ)(e:Int):Nat:=rs.findIdx λr=>decide (e∈r)
def same_place{rs:Λ}(hn:rs.flatten.Nodup){i j:Nat}{r s:Ϝ}{e:Int}(hi:rs[i]?=some r)(t:rs[j]?=some s)(u:e∈r)(x:e∈s):i=j:=by
 have a:=xy 0 hn hi u;have b:=xy 0 hn t x;rw[a]at b;have:=D.int.inj (aL.inj b);lia
def plc_eq{rs:Λ}(hn:rs.flatten.Nodup){i:Nat}{r:Ϝ}{e:Int}(hi:rs[i]?=some r)(s:e∈r):plc rs e=i:=by
 have hl:rs.findIdx (λr=>decide (e∈r))<rs.length:=eY ⟨r,mGq hi,d0 s⟩
 have t:=gN (xs:=rs) (p:=λr=>decide (e∈r)) (w:=hl)
 exact same_place hn (gEg hl) hi (of_decide_eq_true t) s
structure Mp (rs:Λ):Prop where
 hn:rs.flatten.Nodup
 hl:rs.flatten.length<=1000
 hr:rs.length<=1000
 hneg:∀e∈rs.flatten, -e∈rs.flatten
def Mp.at{rs:Λ}(h:Mp rs){e:Int}(u:e∈rs.flatten):∃r,rs[plc rs e]?=some r/\e∈r:=by
 obtain⟨r,x,s⟩:=mFq.mp u;obtain⟨i,t⟩:=bb.mp x;exact⟨r,by rw[plc_eq h.hn t s];exact t,s⟩
def Mp.kv{rs:Λ}(h:Mp rs){e:Int}(s:e∈rs.flatten):Z.getD (oh 0 rs) (aH e)=some (.int (plc rs e:Int)):=by
 obtain⟨r,t,u⟩:=h.at s;have:=xy 0 h.hn t u
 rwa [aQ]at this
def Mp.lt{rs:Λ}(h:Mp rs){e:Int}(s:e∈rs.flatten):plc rs e<rs.length:=by
 obtain⟨r,t,_⟩:=h.at s;exact(gSq.mp t).1
noncomputable def Mp.row{rs:Λ}(h:Mp rs){k:Nat}{r:Ϝ}(hk:rs[k]?=some r):r.length<=1000:=by
 have:=dG.length_le (bE (mGq hk));have:=h.hl;lia
noncomputable def itr(f:Int->Int):Nat->Int->Int
 |0,e=>e
 |n+1,e=>f (itr f n e)
theorem xN(f:Int->Int)(m:Nat)(e:Int):∀n:Nat,itr f (n+m) e=itr f n (itr f m e)
 |0=>by rw[aQ];rfl
 |n+1=>by rw[Nat.add_right_comm];show f (itr f (n+m) e)=f (itr f n (itr f m e));rw[xN f m e n]
theorem UB:∀(l E:Ϝ),l.Nodup->(∀x∈l,x∈E)->l.length<=E.length
 | [],E,_,_=>aJ _
 |x::l,E,hn,h=>by
  have s:=aw.mp hn;have t:=h x (ax ..);have z:=UB l (E.erase x) s.2 (λy u=>by
   refine(List.mem_erase_of_ne ?_).mpr (h y (mCo _ u));intro e;exact s.1 (e ▸ u))
  rw[List.length_erase_of_mem t]at z;have:=gD t;rw[lCq];lia
def Sn{p:Nat->Prop}:∀n,p n->∃m,m<=n/\p m/\∀j,j<m->¬ p j:=by
 intro n
 induction n using iI with
 |_ n u=>
  intro h
  by_cases c:∃j,j<n/\p j
  .obtain⟨j,s,t⟩:=c;obtain⟨m,B,x,z⟩:=u j s t;exact⟨m,by lia,x,z⟩
  .exact⟨n,aa _,h,λj s t=>c ⟨j,s,t⟩⟩
structure Pt (f:Int->Int)(E:Ϝ):Prop where
 nd:E.Nodup
 to:∀e∈E,f e∈E
 inj:∀a∈E,∀b∈E,f a=f b->a=b
section
variable {f:Int->Int}{E:Ϝ}
theorem Pt.itr_mem(h:Pt f E){e:Int}(s:e∈E):∀n,itr f n e∈E
 |0=>s
 |n+1=>h.to _ (h.itr_mem s n)
theorem Pt.itr_inj(h:Pt f E){a b:Int}(ha:a∈E)(hb:b∈E):∀n,itr f n a=itr f n b->a=b
 |0,e=>e
 |n+1,e=>h.itr_inj ha hb n (h.inj _ (h.itr_mem ha n) _ (h.itr_mem hb n) e)
def Pt.cut(h:Pt f E){e:Int}(s:e∈E){i j:Nat}(t:i<=j)(q:itr f i e=itr f j e):itr f (j-i) e=e:=by
 have u:itr f j e=itr f i (itr f (j-i) e):=by rw[←xN];congr 1;lia
 rw[u]at q;exact(h.itr_inj s (h.itr_mem s _) i q).symm
structure Cy (f:Int->Int)(e:Int)(l:Ϝ):Prop where
 len:1<=l.length
 get:l=(aU l.length).map λn=>itr f n e
 back:itr f l.length e=e
 nd:l.Nodup
def Pt.cy(h:Pt f E){e:Int}(t:e∈E):∃l,Cy f e l/\l.length<=E.length/\∀j,0<j->j<l.length->itr f j e≠e:=by
 have u:∃k,1<=k/\k<=E.length/\itr f k e=e:=by
  by_cases c:((aU (E.length+1)).map λn=>itr f n e).Nodup
  .have:=UB _ E c (λx H=>by obtain⟨n,_,rfl⟩:=mMq.mp H;exact h.itr_mem t n)
   rw[lMq,aO]at this;lia
  .rw[aX,bo]at c;have:∃i j,i<j/\j<E.length+1/\itr f i e=itr f j e:=by
    by_cases d:∃i j,i<j/\j<E.length+1/\itr f i e=itr f j e
    .exact d
    .exfalso;refine c ?_;refine aV.imp_of_mem (R:=λa b=>a<b) (λ{a b} ha hb hab q=>d ⟨a,b,hab,cA.mp hb,q⟩) eU
   obtain⟨i,j,z,B,q⟩:=this;exact⟨j-i,by lia,by lia,h.cut t (bZ z) q⟩
 obtain⟨k,I,P,J⟩:=u;obtain⟨m,Q,⟨L,M⟩,G⟩:=Sn (p:=λk=>1<=k/\itr f k e=e) k ⟨I,J⟩
 refine⟨(aU m).map λn=>itr f n e,⟨by rw[lMq,aO];exact L,by rw[lMq,aO],by rw[lMq,aO];exact M,?_⟩,by rw[lMq,aO];lia,λj B s q=>?_⟩
 .rw[aX,bo];refine aV.imp_of_mem (R:=λa b=>a<b) (λ{a b} ha hb hab q=>?_) eU
  have O:=cA.mp hb;exact G (b-a) (by lia) ⟨by lia,h.cut t (bZ hab) q⟩
 .rw[lMq,aO]at s;exact G j s ⟨B,q⟩
def Cy.at{e:Int}{l:Ϝ}(h:Cy f e l){i:Nat}(hi:i<l.length):l[i]?=some (itr f i e):=by
 have s:l[i]?=((aU l.length).map λn=>itr f n e)[i]?:=congrArg (λx:Ϝ=>x[i]?) h.get
 rw[s,gMq,dg hi];rfl
def Cy.one{e:Int}{l s:Ϝ}(h:Cy f e l)(h':Cy f e s):l=s:=by
 have key:∀{l s:Ϝ},Cy f e l->Cy f e s->¬ l.length<s.length:=λ{l s} h h' hlt=>by
  have u:=h'.at (i:=0) (by lia)
  have t:=h'.at (i:=l.length) hlt;rw[h.back]at t;have:=h'.nd;have x:=(List.getElem?_inj (i:=0) (j:=l.length) (by lia) this).mp (by rw[u,t];rfl)
  have:=h.len;lia
 have z:=key h h';have B:=key h' h;have hl:l.length=s.length:=by lia
 rw[h.get,h'.get,hl]
def Cy.self{e:Int}{l:Ϝ}(h:Cy f e l):e∈l:=mGq (h.at (i:=0) (by have:=h.len;lia))
def Cy.rot{e:Int}{l:Ϝ}(h:Cy f e l){j:Nat}(x:j<l.length):Cy f (itr f j e) (l.drop j++l.take j):=by
 have s:(l.drop j++l.take j).length=l.length:=by rw[lAq,ar,lTq];lia
 refine⟨by rw[s];exact h.len,?_,?_,?_⟩
 .refine eO λi=>?_
  rw[s,gMq]
  by_cases hi:i<l.length
  .rw[dg hi,bR,←xN]
   by_cases t:i<l.length-j
   .rw[gZq (by rw[ar];exact t),cz,h.at (by lia),eC j i]
   .rw[gYq (by rw[ar];lia),ar,cY (by lia),h.at (by lia)]
    congr 1;have u:i+j=(i-(l.length-j))+l.length:=by lia
    rw[u,xN,h.back]
  .rw[bG (by rw[s];lia),bG (by rw[aO];lia)]
   rfl
 .rw[s,←xN,eC,xN,h.back]
 .exact bz.nodup_iff.mpr (by rw[aM];exact h.nd)
theorem Cy.good{e x:Int}{l u:Ϝ}(h:Cy f e l)(z:x∈l)(h':Cy f x u):Mr.good u=Mr.good l:=by
 obtain⟨j,t⟩:=bb.mp z;have s:=(gSq.mp t).1;rw[h.at s]at t;have r:=h.rot s;rw[aL.inj t]at r;rw[h'.one r];exact Jy h.nd j
structure Mn (f:Int->Int)(E:Ϝ)(L:Λ):Prop where
 cy:∀l∈L,∃e,Cy f e l
 dj:L.flatten.Nodup
 all:∀x,x∈L.flatten↔x∈E
theorem Mh:∀{L:Λ},L.flatten.Nodup->L.Pairwise λa b=>∀x∈a,∀y∈b,x≠y
 | [],_=>aV.nil
 |a::L,h=>by
  rw[fCq,nAq]at h;exact ef.mpr ⟨λb hb x s y t=>h.2.2 x s y (mFq.mpr ⟨b,hb,t⟩),Mh h.2.1⟩
def Mn.nd{L:Λ}(h:Mn f E L):(L.map Mr.good).Nodup:=by
 rw[aX,bo];have hd:=Mh h.dj;refine aV.imp_of_mem (λ{a b} ha hb hab q=>?_) hd
 obtain⟨e,c⟩:=h.cy a ha;have s:e∈Mr.good a:=(BB a).mem_iff.mpr c.self;rw[q]at s;exact hab e c.self e ((BB b).mem_iff.mp s) rfl
def Mn.sub(B:Pt f E){L M:Λ}(h:Mn f E L)(h':Mn f E M){y:Ϝ}(u:y∈L.map Mr.good):y∈M.map Mr.good:=by
 obtain⟨l,hl,rfl⟩:=mMq.mp u;obtain⟨e,c⟩:=h.cy l hl;have x:e∈E:=(h.all e).mp (mFq.mpr ⟨l,hl,c.self⟩);obtain⟨m,t,s⟩:=mFq.mp ((h'.all e).mpr x);obtain⟨G,z⟩:=h'.cy m t;exact mMq.mpr ⟨m,t,(z.good s c).symm⟩
def Mn.perm(s:Pt f E){L M:Λ}(h:Mn f E L)(h':Mn f E M):(L.map Mr.good).Perm (M.map Mr.good):=
 (cU h.nd h'.nd).mpr λy=>⟨h.sub s h',h'.sub s h⟩
end
end Zl
namespace K08
open PySem L2 Mr Z Xe
def vM:MS:=(nO (oj 1 (kSc (rIf (qC (Py "str" xu (nB 0) (nA (rC (.str "-")) nH))) (UD (nB 0) (vE (rC (.int 1))) yc) (nB 0))))
 (nO (wk (Jq (qC (oq Ax (rD qi (nA (nB 1) nH)) (rC (.int 0)))) (Jq (qC (oq J6 (rD qi (nA (nB 1) nH)) (rC (.int 60)))) (qC (Py "str" xu (nB 1) (nA (rC (.str "0")) nH))))) (oP (kSc (rC (.bl false)))) oV)
 (oP (kSc (rD IW (nA (rOf (pJ (iSg (nB 1)) [] oH (kSc (oq Lw (nB 0) (rC (.str "0123456789")))))) nH))))))
def pd:MF:=oX 1 2 vM
def B8:MS:=(oP (kSc (rOr (oq Ax (nB 0) (rC (.str "."))) (rD IW (nA (rOf (pJ (uG (Ei (nB 0) (nA (rC (.str " ")) nH))) [] oH (kSc (oQ K08.pd (nA (nB 0) nH))))) nH)))))
def yE:MF:=oX 1 1 B8
def Ae:MS:=(nO (wk (qC (oq Ax (nB 0) (rC (.str ".")))) (oP (rq nZ)) oV)
 (oP (pJ (uG (Ei (nB 0) (nA (rC (.str " ")) nH))) [] oH (kSc (rD Fz (nA (nB 0) nH))))))
def wF:MF:=oX 1 1 Ae
end K08
namespace K51
open PySem L2 Mr Z Xe
def zU:MS:=(wM 1 (nB 3) (nP 4))
def zX:MS:=(Su 3 4 (nP 2) (HV (lOf (Tn (rW 2) (vE (rC (.int 1))) yc)) (lOf (Tn (rW 2) yc (vE (rC (.int 1)))))) zU)
def HR:MS:=(nO (oj 1 wx)
 (nO (xK 2 (nP 0) zX)
 (oP (CL 1))))
def Dh:MF:=oX 1 5 HR
def qY:MS:=(nO (oj 7 (kSc (AR (nB 2) (J8 Am (nB 6))))) (wk (qC (sO (nB 7) (nB 3))) (nO (wM 3 (nB 7) (kSc (rC (.bl true)))) (AF 4 (nP 7))) oV))
def uA:MS:=(nO (RS 5 (M0 4)) (xK 6 (Px (rW 0) (nB 5)) qY))
def DN:MS:=(nO (oj 2 (oi Zl.se (nJ (nP 0) nZ)))
 (nO (oj 3 (KP (nB 1) (kSc (rC (.bl true)))))
 (nO (oj 4 (rq (nJ (nP 1) nZ)))
 (nO (rX (qC (oq J6 (rD qi (nA (nB 4) nH)) (rC (.int 0)))) uA 100000)
 (oP (EB (nB 3)))))))
def tM:MF:=oX 2 8 DN
def vI:MS:=(wM 1 (nB 5) (kSc (rC (.bl true))))
def vw:MS:=(wk (qC (sO (nB 3) (nB 1))) (nO (oj 4 (oi K51.tM (nJ (nP 0) (nJ (nP 3) nZ)))) (nO (xK 5 (nP 4) vI) (AF 2 (pJ (uG (nP 4)) [0] oH (CI (lOf (Px (rW 1) (nB 0)))))))) oV)
def FL:MS:=(nO (oj 1 wx)
 (nO (oj 2 (rq nZ))
 (nO (DW 3 (nA (rD qi (nA (nB 0) nH)) nH) vw)
 (oP (CL 2)))))
def A2:MF:=oX 1 6 FL
end K51
namespace K15
open PySem L2 Mr Z
def xS:MS:=(wM 2 (nB 3) (kSc (D0 (nB 1) (J8 Am (nB 3)))))
def Dr:MS:=(nO (oj 1 (oi K51.Dh (nJ (nP 0) nZ)))
 (nO (oj 2 wx)
 (nO (Ml 3 1 xS)
 (oP (CL 2)))))
def zj:MF:=oX 1 4 Dr
def um:MS:=(nO (AF 2 (nP 3)) (oj 3 (kSc (AR (nB 0) (nB 3)))))
def zC:MS:=(nO (oj 2 (rq (nJ (nP 1) nZ)))
 (nO (oj 3 (kSc (AR (nB 0) (nB 1))))
 (nO (rX (qC (oq W4 (nB 3) (nB 1))) um 100000)
 (oP (CL 2)))))
def ux:MF:=oX 2 4 zC
def xA:MS:=(wM 2 (nB 6) (kSc (rC (.bl true))))
def uT:MS:=(wk (qC (sO (nB 4) (nB 2))) (nO (oj 5 (oi K15.ux (nJ (nP 1) (nJ (nP 4) nZ)))) (nO (xK 6 (nP 5) xA) (AF 3 (nP 5)))) oV)
def JM:MS:=(nO (oj 1 (oi K15.zj (nJ (nP 0) nZ)))
 (nO (oj 2 wx)
 (nO (oj 3 (pJ (uG (nP 0)) [] (qC (oq Ax (rD qi (nA (nB 0) nH)) (rC (.int 0)))) (rq nZ)))
 (nO (xK 4 (oi Zl.wY (nJ (nP 0) nZ)) uT)
 (oP (oi Zl.qE (nJ (nP 3) nZ)))))))
def vS:MF:=oX 1 7 JM
end K15
namespace K23
open PySem L2 Mr Z Xe
def Ah:MS:=(oP (pJ (uG (nP 0)) [1] (qC (oq (Ke true) (nB 0) (nB 1))) (nP 0)))
def rZ:MF:=oX 2 2 Ah
end K23
namespace K43
open PySem L2 Mr Z Xe
def tP:MS:=(nO (oj 2 (HV (HX 1) (lOf (pJ (uG (nP 1)) [] oH (kSc (J8 Am (nB 0)))))))
 (oP (pJ (uG (nP 0)) [2] oH (oi K23.rZ (nJ (nP 0) (nJ (nP 1) nZ))))))
def pP:MF:=oX 2 3 tP
def AA:MS:=(nO (oj 2 (oi Zl.se (nJ (nP 0) nZ)))
 (oP (kSc (oq (Ke true) (AR (nB 2) (J8 Am (nB 1))) (rOf (oi K51.tM (nJ (oi K43.pP (nJ (nP 0) (nJ (rq (nJ (nP 1) nZ)) nZ))) (nJ (kSc (AR (nB 2) (nB 1))) nZ))))))))
def uh:MF:=oX 2 3 AA
def Ef:MS:=(oP (pJ (uG (oi Zl.rR (nJ (nP 0) nZ))) [0] (qC (oQ K43.uh (nA (nB 1) (nA (nB 0) nH)))) (nP 0)))
def tJ:MF:=oX 1 1 Ef
def FZ:MS:=(nO (oj 1 (kSc (rD qi (nA (nB 0) nH))))
 (nO (oj 2 (kSc (rD qi (nA (rOf (oi Zl.rR (nJ (nP 0) nZ))) nH))))
 (nO (oj 3 (kSc (rD qi (nA (rOf (oi K15.vS (nJ (nP 0) nZ))) nH))))
 (nO (oj 4 (kSc (rD qi (nA (rOf (oi K51.A2 (nJ (nP 0) nZ))) nH))))
 (nO (oj 5 (kSc (oq HF (oq HB (oq yX (oq HB (oq wa (rC (.int 2)) (nB 4)) (nB 1)) (nB 2)) (nB 3)) (rC (.int 2)))))
 (oP (HP (nJ (nP 1) (nJ (nP 2) (nJ (nP 3) (nJ (nP 4) (nJ (nP 5) nZ))))))))))))
def wG:MF:=oX 1 6 FZ
end K43
namespace K41
open PySem L2 Mr Z
def qU:MS:=(nO (oj 7 (kSc (AR (nB 2) (J8 Am (nB 6))))) (wk (qC (oq W4 (nB 7) (nB 1))) (X3 5 (oq FR (rOf (oi K51.tM (nJ (nP 3) (nJ (nP 7) nZ)))) (rC (.int 0))) (rD Lf (nA (nB 6) nH))) (wk (qC (oq J6 (nB 6) (rC (.int 0)))) (AF 4 (rq (nJ (nP 6) nZ))) oV)))
def FB:MS:=(nO (oj 2 (oi Zl.se (nJ (nP 0) nZ)))
 (nO (oj 3 (oi K43.pP (nJ (nP 0) (nJ (pJ (uG (Px (rW 0) (nB 1))) [] oH (kSc (rD Lf (nA (nB 0) nH)))) nZ))))
 (nO (oj 4 (rq nZ))
 (nO (oj 5 wx)
 (nO (xK 6 (Px (rW 0) (nB 1)) qU)
 (oP (AI (Qt 4 (pJ (XS 5) [] oH (B7 (rW 0)))))))))))
def uZ:MF:=oX 2 8 FB
def IR:MS:=(oP (pJ (iR1 (nA (rD qi (nA (nB 0) nH)) nH)) [0] (qC (oq dGe (rD qi (nA (rOf (oi K41.uZ (nJ (nP 1) (nJ (nP 0) nZ)))) nH)) (rC (.int 2)))) (nP 0)))
def xo:MF:=oX 1 1 IR
end K41
namespace K82
open PySem L2 Mr Z Xe
def Cb:MS:=(nO (wk (Gm (qC (oQ K08.yE (nA (nB 3) nH)))) qp oV) (AF 1 (oi K08.wF (nJ (nP 3) nZ))))
def Na:MS:=(nO (oj 1 (rq nZ))
 (nO (DZ 2 3 (nP 0) Cb)
 (oP (oi Zl.zo (nJ (nP 1) nZ)))))
def zP:MF:=oX 1 4 Na
def A6:MS:=(nO (wk (qC (oq CN (nB 0) (rOf (rq (nJ (kSc (rC (.str "found"))) nZ))))) qp oV)
 (nO (wk (qC (oq CN (nB 0) (rOf (rq (nJ (kSc (rC (.str "raze"))) nZ))))) qp oV)
 (nO (wk (Fx (qC (oq Ax (rD qi (nA (nB 0) nH)) (rC (.int 2)))) (qC (oQ Z.D7 (nA (oq FR (nB 0) (rC (.int 1))) nH)))) qp oV)
 (nO (wk (Fx (qC (oq Ax (rD qi (nA (nB 0) nH)) (rC (.int 4)))) (Fx (qC (oQ Z.D7 (nA (oq FR (nB 0) (rC (.int 1))) nH))) (Fx (qC (oQ Z.D7 (nA (oq FR (nB 0) (rC (.int 2))) nH))) (qC (oQ Z.D7 (nA (oq FR (nB 0) (rC (.int 3))) nH)))))) qp oV)
 (oP (kSc (rC .non)))))))
def vD:MF:=oX 1 1 A6
def zN:MS:=(oP (kSc (Py "str" yC (rC (.str " ")) (nA (rOf (pJ (iTp (nP 0)) [] oH (kSc (rD CK (nA (nB 0) nH))))) nH))))
def uz:MF:=oX 1 1 zN
def E1:MS:=(oP (kSc (Py "str" yC (rC (.str " ")) (nA (rOf (pJ (uG (nP 0)) [] oH (kSc (rD CK (nA (nB 0) nH))))) nH))))
def tq:MF:=oX 1 1 E1
def tG:MS:=(nO (wk (qC (oq Ax (nB 1) (rC (.str "map")))) (oP (oi Zl.A8 (nJ (nP 0) nZ))) oV)
 (nO (wk (qC (oq Ax (nB 1) (rC (.str "lands")))) (oP (oi Zl.A8 (nJ (oi K15.vS (nJ (nP 0) nZ)) nZ))) oV)
 (nO (wk (qC (oq Ax (nB 1) (rC (.str "counts")))) (oP (rq (nJ (kSc (oQ K82.uz (nA (rOf (oi K43.wG (nJ (nP 0) nZ))) nH))) nZ))) oV)
 (nO (wk (qC (oq Ax (nB 1) (rC (.str "bridges")))) (oP (rq (nJ (kSc (oQ K82.tq (nA (rOf (oi K43.tJ (nJ (nP 0) nZ))) nH))) nZ))) oV)
 (nO (wk (qC (oq Ax (nB 1) (rC (.str "doors")))) (oP (rq (nJ (kSc (oQ K82.tq (nA (rOf (oi K41.xo (nJ (nP 0) nZ))) nH))) nZ))) oV)
 (nO (wk (qC (oq Ax (nB 1) (rC (.str "sheet")))) qp oV)
 (nO (wk (qC (oq Ax (nB 1) (rC (.str "colours")))) qp oV)
 qp)))))))
def pX:MF:=oX 2 2 tG
def xf:MS:=(wM 1 (nB 4) (kSc (oq FR (nB 2) (oq sD (oq yX (nB 3) (rC (.int 1))) (rD qi (nA (nB 2) nH))))))
def uD:MS:=(DZ 3 4 (nP 2) xf)
def qZ:MS:=(nO (wM 6 (nB 8) (kSc (rC (.bl true)))) (nO (AF 7 (nP 8)) (oj 8 (kSc (AR (nB 1) (J8 Am (nB 8)))))))
def uy:MS:=(nO (oj 7 (rq nZ)) (nO (oj 8 (nP 4)) (nO (rX (qC (sO (nB 8) (nB 6))) qZ 100000) (wk (qC (oq J6 (rD qi (nA (nB 7) nH)) (rC (.int 0)))) (AF 5 (nP 7)) oV))))
def Dp:MS:=(nO (oj 1 wx)
 (nO (xK 2 (nP 0) uD)
 (nO (oj 5 (pJ (uG (nP 0)) [] (qC (oq Ax (rD qi (nA (nB 0) nH)) (rC (.int 0)))) (rq nZ)))
 (nO (oj 6 wx)
 (nO (xK 4 (EB (nB 1)) uy)
 (oP (CL 5)))))))
def uO:MF:=oX 1 9 Dp
def ug:MS:=(nO (oj 3 (kSc (Py "str" yC (rC (.str " ")) (nA (rOf (pJ (uG (nP 2)) [] oH (kSc (rD CK (nA (nB 0) nH))))) nH)))) (nO (wk (qC (oq Ax (rD qi (nA (nB 2) nH)) (rC (.int 0)))) (oj 3 (kSc (rC (.str ".")))) oV) (AF 1 (nP 3))))
def Ft:MS:=(nO (oj 1 (rq nZ))
 (nO (xK 2 (nP 0) ug)
 (oP (CL 1))))
def uY:MF:=oX 1 4 Ft
def vX:MS:=(wM 2 (nB 5) (nP 3))
def uc:MS:=(xK 5 (nP 4) vX)
def rH:MS:=(nO (oj 6 (kSc (oq FR (nB 1) (D0 (nB 2) (nB 5))))) (nO (oj 7 (kSc (oq FR (nB 1) (D0 (nB 2) (J8 Am (nB 5)))))) (wk (qC (oq W4 (nB 6) (nB 7))) (oj 1 (pJ (uG (nP 1)) [6,7] oH (kSc (oq FR (rOf (rq (nJ (nP 0) (nJ (nP 1) nZ)))) (rD Jl (nA (oq Ax (nB 0) (nB 2)) nH)))))) oV)))
def CA:MS:=(nO (oj 1 (Lv (nA (rD qi (nA (nB 0) nH)) nH)))
 (nO (oj 2 wx)
 (nO (DZ 3 4 (nP 0) uc)
 (nO (Ml 5 2 rH)
 (oP (kSc (rLset (rW 1))))))))
def xP:MF:=oX 1 8 CA
def Cw:MS:=(nO (oj 1 (kSc (oq HF (rD Ud (nA (rOf (pJ (uG (nP 0)) [] oH (kSc (rD qi (nA (nB 0) nH))))) nH)) (rC (.int 2)))))
 (nO (oj 2 (kSc (rD qi (nA (rOf (oi K82.uO (nJ (nP 0) nZ))) nH))))
 (nO (oj 3 (kSc (oQ K82.xP (nA (nB 0) nH))))
 (oP (rq (nJ (kSc (rD qi (nA (nB 0) nH))) (nJ (nP 1) (nJ (nP 2) (nJ (nP 3) (nJ (kSc (oq HF (oq HB (oq yX (oq HB (oq wa (rC (.int 2)) (nB 3)) (rD qi (nA (nB 0) nH))) (nB 1)) (nB 2)) (rC (.int 2)))) nZ))))))))))
def xq:MF:=oX 1 4 Cw
def Gd:MS:=(oP (kSc (Py "str" yC (rC (.str " ")) (nA (rOf (pJ (uG (nP 0)) [] oH (kSc (rD CK (nA (nB 0) nH))))) nH))))
def wD:MF:=oX 1 1 Gd
def zz:MS:=(nO (oj 2 (kSc (oQ K82.vD (nA (rOf (Ei (nB 1) (nA (rC (.str " ")) nH))) nH))))
 (nO (wk (qC (oq Nh (nB 2) (rC .non))) qp (wk (qC (oq Ax (nB 1) (rC (.str "undo")))) qp (wk (qC (oq Ax (nB 1) (rC (.str "redo")))) qp (wk (qC (oq Ax (nB 1) (rC (.str "over")))) qp (oP (oi K82.pX (nJ (R9 "Desk" "ground" (nP 0)) (nJ (nP 1) nZ))))))))
 qp))
def qB:MF:=oX 2 3 zz
def By:MS:=(nO (Tc [7,8] (Px (rW 3) (oq sD (oq yX (nB 4) (oq wa (nB 5) (nB 6))) (rC (.int 5))))) (nO (oj 9 (oi K82.qB (Zo "Desk" "asked" (nP 2) (nJ (nP 7) nZ)))) (wk (Jq (Gm (qC (rD G4 (nA (nB 9) (nA (rC (.ty "list")) nH))))) (Jq (Gm (qC (rD IW (nA (rOf (pJ (uG (nP 9)) [] oH (kSc (rD G4 (nA (nB 0) (nA (rC (.ty "str")) nH)))))) nH)))) (qC (oq TN (nB 9) (nB 8))))) (oP (kSc (rC (.bl false)))) oV)))
def Tj:MS:=(nO (oj 1 (oi Zl.AW (nJ (oi Zl.uP (nJ (nP 0) (nJ (kSc (oQ Zl.tI (nA (nB 0) (nA (rC (.int 3)) nH)))) (nJ (kSc (rC (.int 3))) nZ)))) nZ)))
 (nO (oj 2 (Vc "Desk" K82.zP "ground" "deeds" "undone" (nJ (oi K82.uY (nJ (nP 1) nZ)) nZ)))
 (nO (oj 3 (rq (nJ (HP (nJ (kSc (rC (.str "map"))) (nJ (oi K82.uY (nJ (nP 1) nZ)) nZ))) (nJ (HP (nJ (kSc (rC (.str "lands"))) (nJ (oi K82.uY (nJ (oi K82.uO (nJ (nP 1) nZ)) nZ)) nZ))) (nJ (HP (nJ (kSc (rC (.str "counts"))) (nJ (rq (nJ (kSc (oQ K82.wD (nA (rOf (oi K82.xq (nJ (nP 1) nZ))) nH))) nZ)) nZ))) nZ)))))
 (nO (AF 3 (HP (nJ (kSc (rC (.str "bridges"))) (nJ (rq (nJ (kSc (oQ K82.wD (nA (rOf (oi K43.tJ (nJ (pJ (uG (nP 1)) [] oH (CI (rW 0))) nZ))) nH))) nZ)) nZ))))
 (nO (AF 3 (HP (nJ (kSc (rC (.str "doors"))) (nJ (rq (nJ (kSc (oQ K82.wD (nA (rOf (oi K41.xo (nJ (pJ (uG (nP 1)) [] oH (CI (rW 0))) nZ))) nH))) nZ)) nZ))))
 (nO (oj 4 (kSc (oq sD (oq HF (oQ Zl.oe (nA (nB 0) (nA (rC (.int 1)) nH))) (rC (.int 5))) (rC (.int 5)))))
 (nO (oj 5 (kSc (oq yX (rC (.int 1)) (oq sD (oq HF (oQ Zl.oe (nA (nB 0) (nA (rC (.int 1)) nH))) (rC (.int 25))) (rC (.int 4))))))
 (nO (DW 6 (nA (rC (.int 10)) nH) By)
 (oP (kSc (rC (.bl true))))))))))))
def Sl:MF:=oX 1 10 Tj
seal PE PA PS J9 PT PW PC PG ZK PI PO PF Dd ur UnR SR SK SL SQ SS EU SA Rm SM E8 Sk BmD UnD
set_option hygiene false
local macro_rules | `(tactic| and_intros)=>`(tactic| apply_rules (maxDepth:=100000) only [@YC,@YU,@Mg,@Ie,@nR,@nQ,@nv,@nE,@pv,@qw,@qc,@qF,@qb,@yQ,@uu,@X2,@IC,@tD,@X6,@oS,@Dk,@pH,@C9,@Uw,@AN,@A4,@rQ,@Qy,@Tt,@qt,@Cf,@My,@qK,@GI,@xY,@YQ,@Kp,@yS,@Gz,@Nj,@pB,@ze,@Yt,@MC,@MU,@Qn,@UE,@QK,@G5,@xr,@xg,@ue,@QJ,@sV,@pY,@L9,@XI,@UZ,@uL,@KW,@Kn,@zF,@GO,@IE,@abd,@GK,@Q4,@QA,@Bk,@Zx,@Zw,@TV,@G1,@BY,@PW.pt])
local macro_rules | `(tactic| infer_instance)=>`(tactic| ((first | apply qr | apply Ea | apply Bl | apply Kc) <;> apply_rules (maxDepth:=100000) [@qr,@tH,@nW,@oN,@pO,@qJ,@uj,@sT,@SR.kSc,@qv,@oY,@qA,@SK.lOf,@SK.rOf,@PD,@U1,@NY,@Kl,@P1,@Ve,@UR,@Yk,@Yq,@Y2,@Xv,@Kx,@Ka,@IQ,@Yj,@Z0,@W6,@XC,@XU,@WN,@ZL,@G7,@Sz,@W2,@W8,@Xs,@Y9,@yi,@OJ,@Rp,@Oa,@M5,@QN,@Nk,@Hq,@Qp,@zT,@Xb,@abf,@S0,@IZ,@QM,@NN,@JQ,@BU,@Lu,@UP,@UK,@TZ,@Ak,@Xj,@RJ,@aa6,@vR,@Fj,@UC,@Nb,@Q2,@Ym,@Ov,@ZJ,@T2,@Rf,@aak,@Xk,@vZ,@WK,@HM,@Ua,@Vq,@Vn,@Y7,@Kc,@V9,@UN,@HW,@VM,@Bl,@wz,@HE,@Ze,@Ea,@Qu,@B0,@X0,@Lz,@M9,@Qj,@Rq,@SL.q] <;> first | decide | exact λ_ _ _ h=>h))
local macro_rules | `(tactic| bv_omega)=>`(tactic| (intro _ _ _ _ _ _ S hr hu hu65; apply Exists.intro; apply And.intro; infer_instance; ((first | refine nR ?_ | refine nQ ?_ ?_) <;> and_intros <;> (try ((with_reducible intro _ _ _ _); and_intros)) <;> first | rfl | exact nobehind _ (by decide) (by decide) | assumption | exact qu _ | decide | exact λ_=>rfl | exact λ_ _=>rfl | exact gZ rfl | exact ft rfl | exact ft (gZ rfl) | exact ft (ft rfl) | exact PassesOwn.never | exact rJ | exact Bt.len ‹_› | exact PySem.boot_len | exact Er hr | exact bI | exact qa.none (by decide +kernel) | first | rfl | exact trivial | (intro _ _; rfl) | exact bM | exact bN | exact sq | exact Bt.sorted ‹_› | exact dY | exact Bt.enum ‹_› | first | exact gZ rfl | exact ft rfl | exact Bq hu | exact GW rfl | exact Zb hu | exact Bt.range ‹_› | exact QV | exact DD | exact Bt.abs ‹_› | exact fh | exact gj | exact PySem.F.type_list_index | exact QG | exact N2 rfl | exact Bt.min ‹_› | exact je | exact PySem.F.slot_list_extend | exact PySem.F.type_list_extend | exact OY | exact Bi | exact Bt.zip ‹_› | (simp; done) | exact PySem.F.slot_list_pop | exact PySem.F.type_list_pop | exact Yu | exact Xe.Np (pv 1) | exact S.nd | exact NR rfl | exact jf | decide +kernel | trivial)))
set_option hygiene true
def uv(i:Nat):Stmt:=PySem.Challenge.pw_mapround_k82_what_is_asked.main.body.getD i (.Pass ⟨0,0,0,0⟩)
section
variable {P:jq}{w:ju}{K:Ζ}{mg:Str->Υ}{base:Heap}
def ZP(i j:Nat):Stmt:=match uv i with|.ClassDef _ _ _ b _ _ _ _ _ _ _=>b.getD j (.Pass ⟨0,0,0,0⟩)|s=>s
abbrev AU:Stmt:=uv 18
def Pr:nM ["number"] ["number"] (nD AU):=sC
abbrev HZ(P w K mg base):=Fn P w K mg base 1 "is_end" AU ["number"] (oR K Zl.yA)
def Pb(D:tQ K mg "is_end" AU ["number"] f fd)(B:Bt mg):HZ P w K mg base f fd:=
 Aw D Pr (by bv_omega)
abbrev Bu:Stmt:=uv 19
def OM:nM ["ends","start"] ["ends"] (nD Bu):=sC
abbrev Jd(P w K mg base):=Fn P w K mg base 1 "turned" Bu ["ends"] (oR K Zl.wy)
def Oi(D:tQ K mg "turned" Bu ["ends"] f fd)(B:Bt mg):Jd P w K mg base f fd:=
 Aw D OM (by bv_omega)
abbrev vC:Stmt:=uv 20
def GZ:nM ["turns","told","turn"] ["turns"] (nD vC):=sC
abbrev vT(P w K mg base):=Fn P w K mg base 1 "told_ends" vC ["turns"] (oR K Zl.si)
def GU(D:tQ K mg "told_ends" vC ["turns"] f fd)(B:Bt mg):vT P w K mg base f fd:=
 Aw D GZ (by bv_omega)
abbrev rO:Stmt:=uv 21
def BV:nM ["told","number"] ["told"] (nD rO):=sC
abbrev ya(P w K mg base):=Fn P w K mg base 2 "refuse_no_end" rO ["told"] (oR K Zl.rL)
def B5(D:tQ K mg "refuse_no_end" rO ["told"] f fd)(B:Bt mg)(s:HZ P w K mg base u0 v0):ya P w K mg base f fd:=
 Aw D BV (by bv_omega)
abbrev sQ:Stmt:=uv 22
def CP:nM ["told","known","end"] ["told"] (nD sQ):=sC
abbrev yn(P w K mg base):=Fn P w K mg base 1 "refuse_twice" sQ ["told"] (oR K Zl.sL)
def CO(D:tQ K mg "refuse_twice" sQ ["told"] f fd)(B:Bt mg):yn P w K mg base f fd:=
 Aw D CP (by bv_omega)
abbrev tV:Stmt:=uv 23
def ED:nM ["told","known","end"] ["told"] (nD tV):=sC
abbrev zK(P w K mg base):=Fn P w K mg base 1 "refuse_lone" tV ["told"] (oR K Zl.tX)
def DI(D:tQ K mg "refuse_lone" tV ["told"] f fd)(B:Bt mg):zK P w K mg base f fd:=
 Aw D ED (by bv_omega)
abbrev qQ:Stmt:=uv 24
def Au:nM ["turns"] ["turns"] (nD qQ):=sC
abbrev vN(P w K mg base):=Fn P w K mg base 2 "refuse_too_many" qQ ["turns"] (oR K Zl.qM)
def zO(D:tQ K mg "refuse_too_many" qQ ["turns"] f fd)(B:Bt mg)(u:mg "MOST_ENDS" = some (.int 128 Cj))(x:mg "MOST_BARE_PLACES" = some (.int 128 vi))(s:vT P w K mg base u2 v2):vN P w K mg base f fd:=
 Jv D Au λ_ _ _ _ _ _ hr z t=>⟨_,
   (nQ (uu (pY IE (oS rJ (by rfl) B.len PySem.boot_len (nv (qc s hr (nv (pv 0) nE)) nE)) (xt (v:=.int 128) (by rfl) u ⟨_,rfl⟩) (qu _)) (nR ue) sV)
   (nR (uu (pY IE (tD bI gm PySem.F.type_list_count (Sq t) (pv 0) (nv (rQ nE) nE)) (xt (v:=.int 128) (by rfl) x ⟨_,rfl⟩) (qu _)) (nR ue) sV))),by infer_instance⟩
abbrev rN:Stmt:=uv 25
def Ce:nM ["turns"] ["turns"] (nD rN):=sC
abbrev uo(P w K mg base):=Fn P w K mg base 2 "in_good_order" rN ["turns"] (oR K Zl.qE)
def Cd(D:tQ K mg "in_good_order" rN ["turns"] f fd)(B:Bt mg)(s:Jd P w K mg base u1 v1):uo P w K mg base f fd:=
 Aw D Ce (by bv_omega)
abbrev A9:Stmt:=uv 26
def Od:nM ["turns","told"] ["turns"] (nD A9):=sC
abbrev Iz(P w K mg base):=Fn P w K mg base 3 "map_of" A9 ["turns"] (oR K Zl.zo)
def N4(D:tQ K mg "map_of" A9 ["turns"] f fd)(B:Bt mg)(E:vT P w K mg base u2 v2)(t:ya P w K mg base u3 v3)(x:yn P w K mg base u4 v4)(z:zK P w K mg base u5 v5)(s:vN P w K mg base u6 v6)(u:uo P w K mg base u7 v7):Iz P w K mg base f fd:=
 Aw D Od (by bv_omega)
abbrev zb:Stmt:=uv 27
def LK:nM ["m"] ["m"] (nD zb):=sC
abbrev BO(P w K mg base):=Fn P w K mg base 2 "ends_of" zb ["m"] (oR K Zl.wY)
def KD(D:tQ K mg "ends_of" zb ["m"] f fd)(B:Bt mg)(s:vT P w K mg base u2 v2):BO P w K mg base f fd:=
 Aw D LK (by bv_omega)
abbrev xx:Stmt:=uv 28
def IV:nM ["m"] ["m"] (nD xx):=sC
abbrev zR(P w K mg base):=Fn P w K mg base 3 "roads_of" xx ["m"] (oR K Zl.rR)
def IS(D:tQ K mg "roads_of" xx ["m"] f fd)(B:Bt mg)(s:BO P w K mg base u9 v9):zR P w K mg base f fd:=
 Aw D IV (by bv_omega)
abbrev vL:Stmt:=uv 29
def GP:nM ["m","places","place","turn","end"] ["m"] (nD vL):=sC
abbrev vz(P w K mg base):=Fn P w K mg base 1 "places_at" vL ["m"] (oR K Zl.se)
def He(D:tQ K mg "places_at" vL ["m"] f fd)(B:Bt mg):vz P w K mg base f fd:=
 Aw D GP (by bv_omega)
abbrev C8:Stmt:=uv 30
def Rx:nM ["m","following","turn","end","behind"] ["m"] (nD C8):=sC
abbrev Ma(P w K mg base):=Fn P w K mg base 1 "nexts" C8 ["m"] (oR K K51.Dh)
def SY(D:tQ K mg "nexts" C8 ["m"] f fd)(B:Bt mg):Ma P w K mg base f fd:=
 Aw D Rx (by bv_omega)
abbrev zk:Stmt:=uv 32
def LN:nM ["m","start","place_of","known","waiting","here","end","there"] ["m","start"] (nD zk):=sC
abbrev zm(P w K mg base):=Fn P w K mg base 2 "reached" zk ["m","start"] (oR K K51.tM)
def LH(D:tQ K mg "reached" zk ["m","start"] f fd)(B:Bt mg)(s:vz P w K mg base u11 v11):zm P w K mg base f fd:=
 Aw D LN (by bv_omega)
abbrev Bo:Stmt:=uv 33
def uQ:nM ["m","known","found","start","places","place"] ["m"] (nD Bo):=sC
abbrev HY(P w K mg base):=Fn P w K mg base 3 "pieces" Bo ["m"] (oR K K51.A2)
def O6(D:tQ K mg "pieces" Bo ["m"] f fd)(B:Bt mg)(s:zm P w K mg base u13 v13):HY P w K mg base f fd:=
 Jv D uQ λ_ _ _ _ _ _ hr u t=>⟨_,
   (nQ (qF (i:=1) uQ AN)
   (nQ (qF (i:=2) uQ (rQ nE))
   (nQ (xg PassesOwn.never rfl (ze (by rfl) B.range (nv (oS rJ (by rfl) B.len PySem.boot_len (nv (pv 0) nE)) nE)) (xY (i:=3) uQ)
    (nR (uu (Lb (FF (Er hr) (pv 3) (pv 1))) (nQ (qF (i:=4) uQ (qc s hr (nv (pv 0) (nv (pv 3) nE)))) (nQ (xg PassesOwn.never rfl (pB (pv 4)) (xY (i:=5) uQ)
    (nR (G5 (Er hr) (pv 1) (pv 5) IC rfl))) (nR (xr (tD bI bM bN sq (pv 2) (nv (pH (N:=["place","m"]) (fr:=[0]) rfl rfl (by trivial) rfl (by trivial) rfl (qa.of (by trivial) rfl rfl (by exact⟨rfl,trivial⟩) (by repeat (first|exact trivial|refine⟨(by first|exact λ_=>⟨_,rfl⟩|exact λh=>(by rcases h with h|h <;> cases h)),?_⟩)) (by exact⟨⟨rfl,rfl,rfl⟩,trivial⟩)) (pB (pv 4)) (λ_ _ _ _=>qK) (λ_ _ _ _=>(qI xk (by rfl) B.list dz (nv (A4 uL (pv 1) (pv 0) (λ_ _=>rfl)) nE)))) nE)))))) sV)))
   (nR (qb (pv 2)))))),by infer_instance⟩
abbrev zg:Stmt:=uv 36
def LI:nM ["m","following","steps","end"] ["m"] (nD zg):=sC
abbrev FO(P w K mg base):=Fn P w K mg base 2 "onwards" zg ["m"] (oR K K15.zj)
def Ks(D:tQ K mg "onwards" zg ["m"] f fd)(B:Bt mg)(s:Ma P w K mg base u12 v12):FO P w K mg base f fd:=
 Aw D LI (by bv_omega)
abbrev uH:Stmt:=uv 37
def EY:nM ["steps","end","ends","step"] ["steps","end"] (nD uH):=sC
abbrev Bp(P w K mg base):=Fn P w K mg base 1 "gone_round" uH ["steps","end"] (oR K K15.ux)
def EZ(D:tQ K mg "gone_round" uH ["steps","end"] f fd)(B:Bt mg):Bp P w K mg base f fd:=
 Aw D EY (by bv_omega)
abbrev C0:Stmt:=uv 38
def QP:nM ["m","steps","known","found","start","land","end"] ["m"] (nD C0):=sC
abbrev GH(P w K mg base):=Fn P w K mg base 3 "lands" C0 ["m"] (oR K K15.vS)
def RZ(D:tQ K mg "lands" C0 ["m"] f fd)(B:Bt mg)(u:FO P w K mg base u15 v15)(x:BO P w K mg base u9 v9)(s:uo P w K mg base u7 v7)(t:Bp P w K mg base u16 v16):GH P w K mg base f fd:=
 Aw D QP (by bv_omega)
abbrev Bs:Stmt:=uv 39
def NT:nM ["m","place_count","road_count","land_count","piece_count","handle_count"] ["m"] (nD Bs):=sC
abbrev IY(P w K mg base):=Fn P w K mg base 4 "counts" Bs ["m"] (oR K K43.wG)
def O1(D:tQ K mg "counts" Bs ["m"] f fd)(B:Bt mg)(s:zR P w K mg base u10 v10)(u:GH P w K mg base u17 v17)(t:HY P w K mg base u14 v14):IY P w K mg base f fd:=
 Aw D NT (by bv_omega)
abbrev za:Stmt:=uv 47
def KY:nM ["turn","gone"] ["turn","gone"] (nD za):=sC
abbrev FY(P w K mg base):=Fn P w K mg base 1 "thinned" za ["turn","gone"] (oR K K23.rZ)
def Kw(D:tQ K mg "thinned" za ["turn","gone"] f fd)(B:Bt mg):FY P w K mg base f fd:=
 Jv D KY λ_ _ _ _ _ _ hr t s=>⟨_,
   (nR (qb (pH (N:=["end","gone"]) (fr:=[1]) rfl rfl (by trivial) rfl (by trivial) rfl (qa.of (by trivial) rfl rfl (by exact⟨rfl,trivial⟩) (by repeat (first|exact trivial|refine⟨(by first|exact λ_=>⟨_,rfl⟩|exact λh=>(by rcases h with h|h <;> cases h)),?_⟩)) (by exact⟨⟨rfl,rfl,rfl⟩,trivial⟩)) (pB (pv 0)) (λ_ _ _ _=>GI (pY Bk (pv 0) (pv 1) rfl)) (λ_ _ _ _=>(pv 0))))),by infer_instance⟩
abbrev rM:Stmt:=uv 86
def wH:nM ["m","roads","gone"] ["m","roads"] (nD rM):=sC
abbrev uq(P w K mg base):=Fn P w K mg base 2 "without_roads" rM ["m","roads"] (oR K K43.pP)
def BH(D:tQ K mg "without_roads" rM ["m","roads"] f fd)(B:Bt mg)(s:FY P w K mg base u19 v19):uq P w K mg base f fd:=
 Jv D wH λ_ _ _ _ _ _ hr u t=>⟨_,
   (nQ (qF (i:=2) wH (yQ Kn (pv 1) (pH (cl:=[]) (N:=["road"]) (fr:=[]) rfl rfl (by trivial) rfl (by trivial) rfl (qa.none (by trivial)) (pB (pv 1)) (λ_ _ _ _=>qK) (λ_ _ _ _=>(My G1 (pv 0))))))
   (nR (qb (pH (N:=["turn","gone"]) (fr:=[2]) rfl rfl (by trivial) rfl (by trivial) rfl (qa.of (by trivial) rfl rfl (by exact⟨rfl,trivial⟩) (by repeat (first|exact trivial|refine⟨(by first|exact λ_=>⟨_,rfl⟩|exact λh=>(by rcases h with h|h <;> cases h)),?_⟩)) (by exact⟨⟨rfl,rfl,rfl⟩,trivial⟩)) (pB (pv 0)) (λ_ _ _ _=>qK) (λ_ _ _ _=>(qc s hr (nv (pv 0) (nv (pv 1) nE)))))))),by infer_instance⟩
abbrev vy:Stmt:=uv 87
def GF:nM ["m","road","place_of"] ["m","road"] (nD vy):=sC
abbrev CC(P w K mg base):=Fn P w K mg base 3 "is_bridge" vy ["m","road"] (oR K K43.uh)
def GB(D:tQ K mg "is_bridge" vy ["m","road"] f fd)(B:Bt mg)(t:vz P w K mg base u11 v11)(u:zm P w K mg base u13 v13)(s:uq P w K mg base u20 v20):CC P w K mg base f fd:=
 Aw D GF (by bv_omega)
abbrev zq:Stmt:=uv 88
def LW:nM ["m"] ["m"] (nD zq):=sC
abbrev B4(P w K mg base):=Fn P w K mg base 4 "bridges" zq ["m"] (oR K K43.tJ)
def LC(D:tQ K mg "bridges" zq ["m"] f fd)(B:Bt mg)(t:zR P w K mg base u10 v10)(s:CC P w K mg base u21 v21):B4 P w K mg base f fd:=
 Jv D LW λ_ _ _ _ _ _ hr x u=>⟨_,
   (nR (qb (pH (N:=["road","m"]) (fr:=[0]) rfl rfl (by trivial) rfl (by trivial) rfl (qa.of (by trivial) rfl rfl (by exact⟨rfl,trivial⟩) (by repeat (first|exact trivial|refine⟨(by first|exact λ_=>⟨_,rfl⟩|exact λh=>(by rcases h with h|h <;> cases h)),?_⟩)) (by exact⟨⟨rfl,rfl,rfl⟩,trivial⟩)) (pB (qc t hr (nv (pv 0) nE))) (λ_ _ _ _=>GI (BY (qc s hr (nv (pv 1) (nv (pv 0) nE))))) (λ_ _ _ _=>(pv 0))))),by infer_instance⟩
abbrev Br:Stmt:=uv 89
def tN:nM ["m","place","place_of","past","loops","hanging","end","there"] ["m","place"] (nD Br):=sC
abbrev IA(P w K mg base):=Fn P w K mg base 3 "groups" Br ["m","place"] (oR K K41.uZ)
def O8(D:tQ K mg "groups" Br ["m","place"] f fd)(B:Bt mg)(t:vz P w K mg base u11 v11)(s:uq P w K mg base u20 v20)(u:zm P w K mg base u13 v13):IA P w K mg base f fd:=
 Jv D tN λ_ _ _ _ _ _ hr z x=>⟨_,
   (nQ (qF (i:=2) tN (qc t hr (nv (pv 0) nE)))
   (nQ (qF (i:=3) tN (qc s hr (nv (pv 0) (nv (pH (cl:=[]) (N:=["end"]) (fr:=[]) rfl rfl (by trivial) rfl (by trivial) rfl (qa.none (by trivial)) (pB (A4 uL (pv 0) (pv 1) (λ_ _=>rfl))) (λ_ _ _ _=>qK) (λ_ _ _ _=>(oS DD (by rfl) B.abs fh (nv (pv 0) nE)))) nE))))
   (nQ (qF (i:=4) tN (rQ nE))
   (nQ (qF (i:=5) tN AN)
   (nQ (xg PassesOwn.never rfl (pB (A4 uL (pv 0) (pv 1) (λ_ _=>rfl))) (xY (i:=6) tN)
    (nQ (qF (i:=7) tN (C9 (Er hr) (pv 2) (My G1 (pv 6)) (by first|rfl|exact trivial|(intro _ _;rfl)))) (nR (uu (pY QA (pv 7) (pv 1) (qu _)) (nR (xr (tD bI bM bN sq (Pi (pv 5) (A4 uL (qc u hr (nv (pv 3) (nv (pv 7) nE))) qw (λ_ _=>rfl)) (rQ nE) ⟨rfl,rfl,rfl,rfl⟩) (nv (oS DD (by rfl) B.abs fh (nv (pv 6) nE)) nE)))) (nR (uu (pY IE (pv 6) qw (qu _)) (nR (xr (tD bI bM bN sq (pv 4) (nv (rQ (nv (pv 6) nE)) nE)))) sV))))))
   (nR (qb (oS (Bq z) (by rfl) B.sorted dY (nv (yQ Kn (pv 4) (pH (cl:=[]) (N:=["roads"]) (fr:=[]) rfl rfl (by trivial) rfl (by trivial) rfl (qa.none (by trivial)) (Xe.Uv (pv 5)) (λ_ _ _ _=>qK) (λ_ _ _ _=>(oS Bi (by rfl) B.sorted dY (nv (pv 0) nE))))) nE))))))))),
   (qr (tH (i:=2) (qv (nW (qJ 0) oY)))
   (qr (tH (i:=3) (qv (nW (qJ 0) (nW (yi (Nk (Ak 0) (pO 1)) B0 (SR.kSc (Fj Kl (oN (pO 0) qA)))) oY))))
   (qr (tH (i:=4) (zT oY))
   (qr (tH (i:=5) M5)
   (qr (Kc (Nk (Ak 0) (pO 1)) (qr (tH (i:=7) (SR.kSc (Nb (pO 2) (WK Rq (pO 6))))) (Bl (xa (uj W2 (pO 7) (pO 1))) (Zh (i:=5) (uj WN (SK.rOf (qv (nW (qJ 3) (nW (qJ 7) oY)))) sT) (Fj Kl (oN (pO 6) qA))) (Bl (xa (uj W6 (pO 6) sT)) (HM (i:=4) (zT (nW (qJ 6) oY))) HE))))
   (Wa (NX (Xd (j:=4) (Rr (i:=5) B0 (IZ (Ak 0)))))))))))⟩
abbrev CY:Stmt:=uv 90
def RE:nM ["m"] ["m"] (nD CY):=sC
abbrev G2(P w K mg base):=Fn P w K mg base 4 "doors" CY ["m"] (oR K K41.xo)
def Sm(D:tQ K mg "doors" CY ["m"] f fd)(B:Bt mg)(s:IA P w K mg base u23 v23):G2 P w K mg base f fd:=
 Jv D RE λ_ _ _ _ _ _ hr u t=>⟨_,
   (nR (qb (pH (N:=["place","m"]) (fr:=[0]) rfl rfl (by trivial) rfl (by trivial) rfl (qa.of (by trivial) rfl rfl (by exact⟨rfl,trivial⟩) (by repeat (first|exact trivial|refine⟨(by first|exact λ_=>⟨_,rfl⟩|exact λh=>(by rcases h with h|h <;> cases h)),?_⟩)) (by exact⟨⟨rfl,rfl,rfl⟩,trivial⟩)) (ze (by rfl) B.range (nv (oS rJ (by rfl) B.len PySem.boot_len (nv (pv 0) nE)) nE)) (λ_ _ _ _=>GI (pY aaY (oS rJ (by rfl) B.len PySem.boot_len (nv (qc s hr (nv (pv 1) (nv (pv 0) nE))) nE)) qw (qu _))) (λ_ _ _ _=>(pv 0))))),by infer_instance⟩
abbrev AL:Stmt:=uv 114
def Pq:nM ["turn"] ["turn"] (nD AL):=sC
abbrev JB(P w K mg base):=Fn P w K mg base 1 "row_of" AL ["turn"] (oR K Zl.wL)
def Pl(D:tQ K mg "row_of" AL ["turn"] f fd)(B:Bt mg)(s:mg "BARE_PLACE" = some (.str "." t_BARE_PLACE)):JB P w K mg base f fd:=
 Jv D Pq λ_ _ _ _ _ _ hr u t=>⟨_,
   (nQ (uu (pY zF (oS rJ (by rfl) B.len PySem.boot_len (nv (pv 0) nE)) qw (qu _)) (nR (qb (xt (v:=.str ".") (by rfl) s ⟨_,rfl⟩))) sV)
   (nR (qb (tD bw cV cW Bh qt (nv (pH (cl:=[]) (N:=["end"]) (fr:=[]) rfl rfl (by trivial) rfl (by trivial) rfl (qa.none (by trivial)) (pB (pv 0)) (λ_ _ _ _=>qK) (λ_ _ _ _=>(qI tm (by rfl) B.str cw (nv (pv 0) nE)))) nE))))),by infer_instance⟩
abbrev C2:Stmt:=uv 115
def S9:nM ["m"] ["m"] (nD C2):=sC
abbrev Mq(P w K mg base):=Fn P w K mg base 2 "shown" C2 ["m"] (oR K Zl.A8)
def QI(D:tQ K mg "shown" C2 ["m"] f fd)(B:Bt mg)(s:JB P w K mg base u25 v25):Mq P w K mg base f fd:=
 Aw D S9 (by bv_omega)
abbrev rm:Stmt:=uv 116
def vO:nM ["word","figures"] ["word"] (nD rm):=sC
abbrev wu(P w K mg base):=Fn P w K mg base 1 "is_written_end" rm ["word"] (oR K K08.pd)
def AM(D:tQ K mg "is_written_end" rm ["word"] f fd)(B:Bt mg)(s:mg "FIGURES" = some (.str "0123456789" t_FIGURES))(u:mg "MOST_FIGURES" = some (.int 60 yk)):wu P w K mg base f fd:=
 Jv D vO λ_ _ _ _ _ _ hr x t=>⟨_,
   (nQ (qF (i:=1) vO (Ql (BY (tD bw fG fI zM (pv 0) (nv qt nE))) (Ie Xz (pv 0) (MU qw) MC) (pv 0)))
   (nQ (uu (PW.pt (Nl (pY zF (oS rJ (by rfl) B.len PySem.boot_len (nv (pv 1) nE)) qw (qu _)) (Nl (pY IE (oS rJ (by rfl) B.len PySem.boot_len (nv (pv 1) nE)) (xt (v:=.int 60) (by rfl) u ⟨_,rfl⟩) (qu _)) (SZ (BY (tD bw fG fI zM (pv 1) (nv qt nE))))))) (nR (qb IC)) sV)
   (nR (qb (oS (ER rfl) (by rfl) B.all fi (nv (pH (cl:=[]) (N:=["sign"]) (fr:=[]) rfl rfl (by trivial) rfl (by trivial) rfl (qa.none (by trivial)) (Zr (pv 1)) (λ_ _ _ _=>qK) (λ_ _ _ _=>(Dk N0 (pv 0) (xt (v:=.str "0123456789") (by rfl) s ⟨_,rfl⟩) rfl))) nE)))))),by infer_instance⟩
abbrev A7:Stmt:=uv 117
def NV:nM ["row"] ["row"] (nD A7):=sC
abbrev Ji(P w K mg base):=Fn P w K mg base 2 "is_row" A7 ["row"] (oR K K08.yE)
def Ol(D:tQ K mg "is_row" A7 ["row"] f fd)(B:Bt mg)(t:mg "BARE_PLACE" = some (.str "." t_BARE_PLACE))(s:wu P w K mg base u27 v27):Ji P w K mg base f fd:=
 Jv D NV λ_ _ _ _ _ _ hr x u=>⟨_,
   (nR (qb (aav (Dk zF (pv 0) (xt (v:=.str ".") (by rfl) t ⟨_,rfl⟩) (qu _)) (Tt (oS (ER rfl) (by rfl) B.all fi (nv (pH (cl:=[]) (N:=["word"]) (fr:=[]) rfl rfl (by trivial) rfl (by trivial) rfl (qa.none (by trivial)) (pB (tD bw eW eX EI (pv 0) (nv qt nE))) (λ_ _ _ _=>qK) (λ_ _ _ _=>(qc s hr (nv (pv 0) nE)))) nE)))))),by infer_instance⟩
abbrev yZ:Stmt:=uv 118
def LY:nM ["row"] ["row"] (nD yZ):=sC
abbrev FM(P w K mg base):=Fn P w K mg base 1 "turn_in" yZ ["row"] (oR K K08.wF)
def LM(D:tQ K mg "turn_in" yZ ["row"] f fd)(B:Bt mg)(s:mg "BARE_PLACE" = some (.str "." t_BARE_PLACE)):FM P w K mg base f fd:=
 Jv D LY λ_ _ _ _ _ _ hr u t=>⟨_,
   (nQ (uu (pY zF (pv 0) (xt (v:=.str ".") (by rfl) s ⟨_,rfl⟩) (qu _)) (nR (qb (rQ nE))) sV)
   (nR (qb (pH (cl:=[]) (N:=["word"]) (fr:=[]) rfl rfl (by trivial) rfl (by trivial) rfl (qa.none (by trivial)) (pB (tD bw eW eX EI (pv 0) (nv qt nE))) (λ_ _ _ _=>qK) (λ_ _ _ _=>(qI ON (by rfl) B.int gJ (nv (pv 0) nE))))))),by infer_instance⟩
abbrev Hm:Stmt:=uv 119
def VC:nM ["rows","turns","number","row"] ["rows"] (nD Hm):=sC
abbrev PV(P w K mg base):=Fn P w K mg base 4 "read" Hm ["rows"] (oR K K82.zP)
def V4(D:tQ K mg "read" Hm ["rows"] f fd)(B:Bt mg)(t:Iz P w K mg base u8 v8)(u:Ji P w K mg base u28 v28)(s:FM P w K mg base u29 v29):PV P w K mg base f fd:=
 Aw D VC (by bv_omega)
abbrev BQ:Stmt:=uv 121
abbrev Ff(P w K mg base):=Fn P w K mg base 1 "is_road" BQ ["word"] (oR K Z.D7)
def Kb(D:tQ K mg "is_road" BQ ["word"] f fd)(B:Bt mg):Ff P w K mg base f fd:=M1 (k:=1) D
abbrev BF:Stmt:=uv 122
abbrev FU(P w K mg base):=Fn P w K mg base 1 "is_spot" BF ["word"] (oR K Z.D7)
def KG(D:tQ K mg "is_spot" BF ["word"] f fd)(B:Bt mg):FU P w K mg base f fd:=M1 (k:=1) D
abbrev vv:Stmt:=uv 126
def Hc:nM ["words"] ["words"] (nD vv):=sC
abbrev CJ(P w K mg base):=Fn P w K mg base 2 "change_in" vv ["words"] (oR K K82.vD)
def HL(D:tQ K mg "change_in" vv ["words"] f fd)(B:Bt mg)(s:Ff P w K mg base u31 v31)(t:FU P w K mg base u32 v32):CJ P w K mg base f fd:=
 Aw D Hc (by bv_omega)
abbrev uE:Stmt:=uv 127
def Fc:nM ["numbers"] ["numbers"] (nD uE):=sC
abbrev Bv(P w K mg base):=Fn P w K mg base 1 "in_a_row" uE ["numbers"] (oR K K82.uz)
def E4(D:tQ K mg "in_a_row" uE ["numbers"] f fd)(B:Bt mg):Bv P w K mg base f fd:=
 Jv D Fc λ_ _ _ _ _ _ hr t s=>⟨_,
   (nR (qb (tD bw cV cW Bh qt (nv (pH (cl:=[]) (N:=["number"]) (fr:=[]) rfl rfl (by trivial) rfl (by trivial) rfl (qa.none (by trivial)) (YT (pv 0)) (λ_ _ _ _=>qK) (λ_ _ _ _=>(qI tm (by rfl) B.str cw (nv (pv 0) nE)))) nE)))),by infer_instance⟩
abbrev xD:Stmt:=uv 127
def EX:nM ["numbers"] ["numbers"] (nD xD):=sC
abbrev Ba(P w K mg base):=Fn P w K mg base 1 "in_a_row" xD ["numbers"] (oR K K82.tq)
def E2(D:tQ K mg "in_a_row" xD ["numbers"] f fd)(B:Bt mg):Ba P w K mg base f fd:=
 Jv D EX λ_ _ _ _ _ _ hr t s=>⟨_,
   (nR (qb (tD bw cV cW Bh qt (nv (pH (cl:=[]) (N:=["number"]) (fr:=[]) rfl rfl (by trivial) rfl (by trivial) rfl (qa.none (by trivial)) (pB (pv 0)) (λ_ _ _ _=>qK) (λ_ _ _ _=>(qI tm (by rfl) B.str cw (nv (pv 0) nE)))) nE)))),by infer_instance⟩
abbrev zd:Stmt:=uv 128
def LV:nM ["m","line"] ["m","line"] (nD zd):=sC
abbrev FX(P w K mg base):=Fn P w K mg base 5 "told_of" zd ["m","line"] (oR K K82.pX)
def Le(D:tQ K mg "told_of" zd ["m","line"] f fd)(B:Bt mg)(z:Mq P w K mg base u26 v26)(E:GH P w K mg base u17 v17)(s:Bv P w K mg base u34 v34)(t:Ba P w K mg base u35 v35)(x:IY P w K mg base u18 v18)(u:B4 P w K mg base u22 v22)(G:G2 P w K mg base u24 v24):FX P w K mg base f fd:=
 Aw D LV (by bv_omega)
abbrev vA:Stmt:=uv 132
def Hz:nM ["_law_script","_law_k"] ["_law_script","_law_k"] (nD vA):=sC
abbrev vF(P w K mg base):=Fn P w K mg base 1 "_law_cell_at" vA ["_law_script","_law_k"] (oR K Zl.oe)
def Hg(D:tQ K mg "_law_cell_at" vA ["_law_script","_law_k"] f fd)(B:Bt mg):vF P w K mg base f fd:=
 Aw D Hz (by bv_omega)
abbrev A1:Stmt:=uv 133
def OQ:nM ["_law_script","_law_k","_law_step","_law_shift","_law_turn","_law_road_here"] ["_law_script","_law_k"] (nD A1):=sC
abbrev J1(P w K mg base):=Fn P w K mg base 2 "_law_road" A1 ["_law_script","_law_k"] (oR K Zl.yu)
def N8(D:tQ K mg "_law_road" A1 ["_law_script","_law_k"] f fd)(B:Bt mg)(s:vF P w K mg base u37 v37):J1 P w K mg base f fd:=
 Aw D OQ (by bv_omega)
abbrev xv:Stmt:=uv 134
def IK:nM ["_law_turn","_law_at","_law_end"] ["_law_turn","_law_at","_law_end"] (nD xv):=sC
abbrev EE(P w K mg base):=Fn P w K mg base 1 "_law_put_in" xv ["_law_turn","_law_at","_law_end"] (oR K Zl.tF)
def IX(D:tQ K mg "_law_put_in" xv ["_law_turn","_law_at","_law_end"] f fd)(B:Bt mg):EE P w K mg base f fd:=
 Aw D IK (by bv_omega)
abbrev zh:Stmt:=uv 135
def Lc:nM ["_law_script","_law_places_here","_law_start","_law_turns_here","_law_k","_law_cell","_law_end","_law_at"] ["_law_script","_law_places_here","_law_start"] (nD zh):=sC
abbrev Fp(P w K mg base):=Fn P w K mg base 3 "_law_turns" zh ["_law_script","_law_places_here","_law_start"] (oR K Zl.uP)
def Kz(D:tQ K mg "_law_turns" zh ["_law_script","_law_places_here","_law_start"] f fd)(B:Bt mg)(t:EE P w K mg base u39 v39)(s:J1 P w K mg base u38 v38):Fp P w K mg base f fd:=
 Aw D Lc (by bv_omega)
abbrev xw:Stmt:=uv 136
def J3:nM ["_law_script","_law_start"] ["_law_script","_law_start"] (nD xw):=sC
abbrev Do(P w K mg base):=Fn P w K mg base 2 "_law_places" xw ["_law_script","_law_start"] (oR K Zl.tI)
def JX(D:tQ K mg "_law_places" xw ["_law_script","_law_start"] f fd)(B:Bt mg)(s:vF P w K mg base u37 v37):Do P w K mg base f fd:=
 Aw D J3 (by bv_omega)
abbrev Be:Stmt:=uv 137
def OV:nM ["_law_turns_here","_law_rows_here","_law_turn","_law_at","_law_k"] ["_law_turns_here"] (nD Be):=sC
abbrev Ik(P w K mg base):=Fn P w K mg base 1 "_law_good" Be ["_law_turns_here"] (oR K Zl.AW)
def OP(D:tQ K mg "_law_good" Be ["_law_turns_here"] f fd)(B:Bt mg):Ik P w K mg base f fd:=
 Aw D OV (by bv_omega)
abbrev zi:Stmt:=uv 138
def LU:nM ["_law_m","_law_follow","_law_turn","_law_k","_law_end","_law_rows_here","_law_met","_law_row","_law_here"] ["_law_m"] (nD zi):=sC
abbrev B1(P w K mg base):=Fn P w K mg base 1 "_law_lands" zi ["_law_m"] (oR K K82.uO)
def KA(D:tQ K mg "_law_lands" zi ["_law_m"] f fd)(B:Bt mg):B1 P w K mg base f fd:=
 Aw D LU (by bv_omega)
abbrev AC:Stmt:=uv 139
def wK:nM ["_law_m","_law_rows_here","_law_turn","_law_row"] ["_law_m"] (nD AC):=sC
abbrev IJ(P w K mg base):=Fn P w K mg base 1 "_law_rows" AC ["_law_m"] (oR K K82.uY)
def Pf(D:tQ K mg "_law_rows" AC ["_law_m"] f fd)(B:Bt mg):IJ P w K mg base f fd:=
 Jv D wK λ_ _ _ _ _ _ hr t s=>⟨_,
   (nQ (qF (i:=1) wK (rQ nE))
   (nQ (xg PassesOwn.never rfl (pB (pv 0)) (xY (i:=2) wK)
    (nQ (qF (i:=3) wK (tD bw cV cW Bh qt (nv (pH (cl:=[]) (N:=["_law_end"]) (fr:=[]) rfl rfl (by trivial) rfl (by trivial) rfl (qa.none (by trivial)) (pB (pv 2)) (λ_ _ _ _=>qK) (λ_ _ _ _=>(qI tm (by rfl) B.str cw (nv (pv 0) nE)))) nE))) (nQ (uu (pY zF (oS rJ (by rfl) B.len PySem.boot_len (nv (pv 2) nE)) qw (qu _)) (nR (qF (i:=3) wK qt)) sV) (nR (xr (tD bI bM bN sq (pv 1) (nv (pv 3) nE)))))))
   (nR (qb (pv 1))))),by infer_instance⟩
abbrev xJ:Stmt:=uv 140
def pW:nM ["_law_m","_law_group","_law_at","_law_place","_law_turn","_law_end","_law_one","_law_other"] ["_law_m"] (nD xJ):=sC
abbrev DH(P w K mg base):=Fn P w K mg base 1 "_law_pieces" xJ ["_law_m"] (oR K K82.xP)
def JY(D:tQ K mg "_law_pieces" xJ ["_law_m"] f fd)(B:Bt mg)(s:mg "set" = none):DH P w K mg base f fd:=
 Jv D pW λ_ _ _ _ _ _ hr u t=>⟨_,
   (nQ (qF (i:=1) pW (PU rfl (by rfl) B.list (by rfl) B.range (nv (oS rJ (by rfl) B.len PySem.boot_len (nv (pv 0) nE)) nE)))
   (nQ (qF (i:=2) pW AN)
   (nQ (xg PassesOwn.never rfl (Nj (by rfl) B.enum (nv (pv 0) nE)) (Kp rfl (yS (xY (i:=3) pW) (yS (xY (i:=4) pW) Gz)))
    (nR (xg PassesOwn.never rfl (pB (pv 4)) (xY (i:=5) pW)
    (nR (G5 (Er hr) (pv 2) (pv 5) (pv 3) rfl)))))
   (nQ (xg PassesOwn.never rfl (Xe.Np (pv 2)) (xY (i:=5) pW)
    (nQ (qF (i:=6) pW (A4 uL (pv 1) (C9 (Er hr) (pv 2) (pv 5) (by first|rfl|exact trivial|(intro _ _;rfl))) (λ_ _=>rfl))) (nQ (qF (i:=7) pW (A4 uL (pv 1) (C9 (Er hr) (pv 2) (My G1 (pv 5)) (by first|rfl|exact trivial|(intro _ _;rfl))) (λ_ _=>rfl))) (nR (uu (pY QA (pv 6) (pv 7) (qu _)) (nR (Mg (i:=1) (N:=["_law_some","_law_one","_law_other"]) (fr:=[6,7]) rfl pW.nd rfl (by trivial) rfl (by trivial) rfl (by trivial) rfl (qa.of (by trivial) rfl rfl (by exact⟨rfl,rfl,trivial⟩) (by repeat (first|exact trivial|refine⟨(by first|exact λ_=>⟨_,rfl⟩|exact λh=>(by rcases h with h|h <;> cases h)),?_⟩)) (by exact⟨⟨rfl,rfl,rfl⟩,⟨rfl,rfl,rfl⟩,trivial⟩)) (pB (pv 1)) (λ_ _ _ _=>qK) (λ_ _ _ _=>(A4 uL (rQ (nv (pv 0) (nv (pv 1) nE))) (qI OF (by rfl) B.int gJ (nv (Dk zF (pv 0) (pv 2) (qu _)) nE)) (λ_ _=>rfl))))) sV)))))
   (nR (qb (Vl rfl (by rfl) B.len (by rfl) s (nv (pv 1) nE)))))))),by infer_instance⟩
abbrev xM:Stmt:=uv 141
def Im:nM ["_law_m","_law_roads","_law_rows_here","_law_parts"] ["_law_m"] (nD xM):=sC
abbrev Ez(P w K mg base):=Fn P w K mg base 2 "_law_counts" xM ["_law_m"] (oR K K82.xq)
def Ii(D:tQ K mg "_law_counts" xM ["_law_m"] f fd)(B:Bt mg)(s:mg "sum" = none)(t:DH P w K mg base u45 v45)(u:B1 P w K mg base u43 v43):Ez P w K mg base f fd:=
 Aw D Im (by bv_omega)
abbrev AK:Stmt:=uv 142
def N9:nM ["_law_numbers"] ["_law_numbers"] (nD AK):=sC
abbrev Js(P w K mg base):=Fn P w K mg base 1 "_law_line" AK ["_law_numbers"] (oR K K82.wD)
def NF(D:tQ K mg "_law_line" AK ["_law_numbers"] f fd)(B:Bt mg):Js P w K mg base f fd:=
 Jv D N9 λ_ _ _ _ _ _ hr t s=>⟨_,
   (nR (qb (tD bw cV cW Bh qt (nv (pH (cl:=[]) (N:=["_law_number"]) (fr:=[]) rfl rfl (by trivial) rfl (by trivial) rfl (qa.none (by trivial)) (pB (pv 0)) (λ_ _ _ _=>qK) (λ_ _ _ _=>(qI tm (by rfl) B.str cw (nv (pv 0) nE)))) nE)))),by infer_instance⟩
abbrev xl:Stmt:=ZP 130 2
def zE:nM ["self","line","change"] ["self","line"] (nD xl):=sC
def E3{x:Addr}(F:Ru K "asked" "Desk.asked" xl f fd)(mt:Vs K x "asked" f)(b:uf K fd ["self","line"] [])(B:Bt mg)(t:CJ P w K mg base u33 v33)(u:FX P w K mg base u36 v36)(z:OU K "Desk" x)(G:qz K x "ground")(I:qz K x "deeds")(J:qz K x "undone"):MtN P w K mg base 6 x "asked" ["self","line"] (oR K K82.qB) f fd:=
 ⟨z.cl,mt,b,F.ok zE (λ_ _ _ _=>K6) λL A outer s H M Q E hr h=>⟨_,
   (nQ (qF (i:=2) zE (qc t hr (nv (tD bw eW eX EI (pv 1) (nv qt nE)) nE)))
   (nQ (uu (pY Us (pv 2) Qy (qu _)) (nR ue) (nR (uu (pY zF (pv 1) qt (qu _)) (nR ue) (nR (uu (pY zF (pv 1) qt (qu _)) (nR ue) (nR (uu (pY zF (pv 1) qt (qu _)) (nR ue) (nR (qb (qc u hr (nv (YL (pv 0) (by rfl)) (nv (pv 1) nE))))))))))))
   (nR ue))),
   DF _ (K:=K) (qr (tH (i:=2) (SR.kSc (vR (oN (SK.rOf (JQ (pO 1) (oN vZ qA))) qA))))
   (qr (Bl (xa (uj VD (pO 2) Rf)) wz (Bl (xa (uj IQ (pO 1) vZ)) wz (Bl (xa (uj IQ (pO 1) vZ)) wz (Bl (xa (uj IQ (pO 1) vZ)) wz (Ea (qv (nW (T6 z G (qJ 0)) (nW (qJ 1) oY))))))))
   wz)) h⟩⟩
abbrev AB:Stmt:=ZP 130 0
def RU:nM ["self","rows"] ["self","rows"] (nD AB):=sC
def PN{C f u:Addr}{fd t:jx}(G:PV P w K mg base u t)(F:Ru K "__init__" "Desk.__init__" AB f fd)(b:uf K fd ["self","rows"] [])(x:Mk K C f)(cl:Pz K C)(z:qz K C "ground")(B:qz K C "deeds")(I:qz K C "undone")(m:mg "Desk" = some (.ref C)):Xn P w K mg base 5 "Desk" C f fd ["self","rows"] (Du K C K82.zP "ground" "deeds" "undone"):=
 ⟨x,F.ok RU (λJ H Q E h=>LZ h) λL A outer s H J Q E hr h=>⟨_,nQ (Lh (pv 0) (qc G hr (nv (pv 1) nE)) rfl) (nQ (Lh (pv 0) (rQ nE) rfl) (nR (Lh (pv 0) (rQ nE) rfl))),ack cl z B I (by decide) (by decide) (by decide) h⟩,b,m⟩
abbrev zL:Stmt:=uv 143
def we:nM ["_law_script","_law_m","_law_desk","_law_due","_law_start","_law_step","_law_k","_law_line_here","_law_rows_here","_law_found"] ["_law_script"] (nD zL):=sC
abbrev ZS(P w K mg base):=Fn P w K mg base 7 "law" zL ["_law_script"] (oR K K82.Sl)
def Zi{u:Addr}{I:Addr}{J:jx}(D:tQ K mg "law" zL ["_law_script"] f fd)(B:Bt mg)(L:Ik P w K mg base u42 v42)(M:Fp P w K mg base u40 v40)(x:IJ P w K mg base u44 v44)(O:Do P w K mg base u41 v41)(E:vF P w K mg base u37 v37)(Q:B1 P w K mg base u43 v43)(z:Js P w K mg base u47 v47)(R:Ez P w K mg base u46 v46)(s:B4 P w K mg base u22 v22)(t:G2 P w K mg base u24 v24)(G:OU K "Desk" u)(Y:qz K u "ground")(EV:qz K u "deeds")(DY:qz K u "undone")(S:Xn P w K mg base 5 "Desk" u I J ["self","rows"] (Du K u K82.zP "ground" "deeds" "undone"))(U:MtN P w K mg base 6 u "asked" ["self","line"] (oR K K82.qB) fDesk_asked fdDesk_asked):ZS P w K mg base f fd:=
 Jv D we λ_ _ _ _ _ _ hr X H=>⟨_,
   (nQ (qF (i:=1) we (qc L hr (nv (qc M hr (nv (pv 0) (nv (qc O hr (nv (pv 0) (nv qw nE))) (nv qw nE)))) nE)))
   (nQ (qF (i:=2) we (Ya S (hr.mono (by decide)) (nv (qc x hr (nv (pv 1) nE)) nE)))
   (nQ (qF (i:=3) we (rQ (nv (Cf (nv qt (nv (qc x hr (nv (pv 1) nE)) nE))) (nv (Cf (nv qt (nv (qc x hr (nv (qc Q hr (nv (pv 1) nE)) nE)) nE))) (nv (Cf (nv qt (nv (rQ (nv (qc z hr (nv (qc R hr (nv (pv 1) nE)) nE)) nE)) nE))) nE)))))
   (nQ (xr (tD bI bM bN sq (pv 3) (nv (Cf (nv qt (nv (rQ (nv (qc z hr (nv (qc s hr (nv (pH (cl:=[]) (N:=["_law_turn"]) (fr:=[]) rfl rfl (by trivial) rfl (by trivial) rfl (qa.none (by trivial)) (pB (pv 1)) (λ_ _ _ _=>qK) (λ_ _ _ _=>(qI xk (by rfl) B.list dz (nv (pv 0) nE)))) nE)) nE)) nE)) nE))) nE)))
   (nQ (xr (tD bI bM bN sq (pv 3) (nv (Cf (nv qt (nv (rQ (nv (qc z hr (nv (qc t hr (nv (pH (cl:=[]) (N:=["_law_turn"]) (fr:=[]) rfl rfl (by trivial) rfl (by trivial) rfl (qa.none (by trivial)) (pB (pv 1)) (λ_ _ _ _=>qK) (λ_ _ _ _=>(qI xk (by rfl) B.list dz (nv (pv 0) nE)))) nE)) nE)) nE)) nE))) nE)))
   (nQ (qF (i:=4) we (yQ GK (yQ GO (qc E hr (nv (pv 0) (nv qw nE))) qw) qw))
   (nQ (qF (i:=5) we (yQ KW qw (yQ GK (yQ GO (qc E hr (nv (pv 0) (nv qw nE))) qw) qw)))
   (nQ (xg PassesOwn.never rfl (ze (by rfl) B.range (nv qw nE)) (xY (i:=6) we)
    (nQ (QK (A4 uL (pv 3) (yQ GK (yQ KW (pv 4) (yQ Q4 (pv 5) (pv 6))) qw) (λ_ _=>rfl)) (Kp rfl (yS (xY (i:=7) we) (yS (xY (i:=8) we) Gz)))) (nQ (qF (i:=9) we (aaP U (hr.mono (by decide)) (pv 2) (nv (pv 7) nE))) (nR (uu (PW.pt (Nl (L9 (BY (oS Iu (by rfl) B.isi fE (nv (pv 9) (nv (Mv (v:=.ty "list") (by rfl) B.list dz rfl) nE))))) (Nl (L9 (BY (oS (ER rfl) (by rfl) B.all fi (nv (pH (cl:=[]) (N:=["_law_row"]) (fr:=[]) rfl rfl (by trivial) rfl (by trivial) rfl (qa.none (by trivial)) (pB (pv 9)) (λ_ _ _ _=>qK) (λ_ _ _ _=>(oS Iu (by rfl) B.isi fE (nv (pv 0) (nv (Mv (v:=.ty "str") (by rfl) B.str cw rfl) nE))))) nE)))) (SZ (pY (Yf X) (pv 9) (pv 8) (qu _)))))) (nR (qb IC)) sV)))))
   (nR (qb IC)))))))))),
   (qr (tH (i:=1) (qv (nW (qv (nW (qJ 0) (nW (SR.kSc (vR (oN (pO 0) (oN sT qA)))) (nW (SR.kSc sT) oY)))) oY)))
   (qr (tH (i:=2) (XD G (nW (qv (nW (qJ 1) oY)) oY)))
   (qr (tH (i:=3) (zT (nW (BU (nW (SR.kSc vZ) (nW (qv (nW (qJ 1) oY)) oY))) (nW (BU (nW (SR.kSc vZ) (nW (qv (nW (qv (nW (qJ 1) oY)) oY)) oY))) (nW (BU (nW (SR.kSc vZ) (nW (zT (nW (SR.kSc (vR (oN (SK.rOf (qv (nW (qJ 1) oY))) qA))) oY)) oY))) oY)))))
   (qr (HM (i:=3) (BU (nW (SR.kSc vZ) (nW (zT (nW (SR.kSc (vR (oN (SK.rOf (qv (nW (yi (qJ 1) B0 (Hq (Ak 0))) oY))) qA))) oY)) oY))))
   (qr (HM (i:=3) (BU (nW (SR.kSc vZ) (nW (zT (nW (SR.kSc (vR (oN (SK.rOf (qv (nW (yi (qJ 1) B0 (Hq (Ak 0))) oY))) qA))) oY)) oY))))
   (qr (tH (i:=4) (SR.kSc (uj G7 (uj Ka (vR (oN (pO 0) (oN sT qA))) sT) sT)))
   (qr (tH (i:=5) (SR.kSc (uj Kx sT (uj G7 (uj Ka (vR (oN (pO 0) (oN sT qA))) sT) sT))))
   (qr (HW (oN sT qA) (qr (VQ [7,8] (Nk (Ak 3) (uj G7 (uj Kx (pO 4) (uj Sz (pO 5) (pO 6))) sT))) (qr (tH (i:=9) (qv (Ys G (qJ 2) (nW (qJ 7) oY)))) (Bl (Qj (Lz (M9 (Fj RP (oN (pO 9) (oN WD qA))))) (Qj (Lz (M9 (Fj P1 (oN (SK.rOf (yi (qJ 9) B0 (SR.kSc (Fj RP (oN (pO 0) (oN WD qA)))))) qA)))) (xa (uj XR (pO 9) (pO 8))))) (Ea (SR.kSc RJ)) HE))))
   (Ea (SR.kSc RJ))))))))))⟩
end
end K82
namespace K08
open PySem PySem.NumText PyProof.Rows
noncomputable def cs(w:Str):Θ:=w.cps.toList
def Dx(w:Str):(cs w).length=w.length:=ah
def Vp{x y:Str}(h:cs x=cs y):x=y:=Str.ext' (iF.mp h)
def Qm(w:Str)(c:Nat):Txt.startswith w ⟨#[c]⟩=decide ((cs w).head?=some c):=by
 obtain⟨⟨l⟩⟩:=w;cases l with
 |nil=>rfl
 |cons d r=>
  unfold Txt.startswith Builtin.Str.subAt cs;have e:(iS (d::r).toArray 0 (0+Str.length ⟨#[c]⟩))=#[d]:=by
   apply iF.mp;simp[Str.length]
  show(decide _ && (iS (d::r).toArray 0 (0+Str.length ⟨#[c]⟩) == #[c]))=_;rw[e,d0 (by simp[Str.length]),gX]
  by_cases q:d=c
  .subst q;simp
  .simp[q]
def VL{w:Str}(h:w.length=0)(l u:Option Int):cs (Txt.slice w l u)=[]:=by
 have:=Txt.slice_le w l u;rw[←Dx]at this;exact aZ.mp (by lia)
def Uq(w:Str):cs (Txt.slice w (some 1) none)=(cs w).drop 1:=by
 by_cases h:w.length=0
 .rw[VL h];have:cs w=[]:=aZ.mp (by rw[Dx];exact h)
  rw[this];rfl
 .have e:=slice_from_eq (x:=w) (i:=1) (b:=w.length) (by decide) (by lia) rfl
  rw[e];show((cs w).drop 1).take _=_;apply bU;rw[ar,Dx];lia
noncomputable def Ag:Θ:=[48,49,50,51,52,53,54,55,56,57]
def J4{c:Nat}:c∈Ag↔48<=c/\c<=57:=by
 have e:Ag=List.range' 48 10:=rfl;rw[e,List.mem_range'_1];exact and_congr_right λ_=>Nat.lt_succ_iff
noncomputable def AH:Θ->Θ
 |45::r=>r
 |l=>l
def zp{c:Nat}{r:Θ}(h:c≠45):AH (c::r)=c::r:=by
 unfold AH;split
 .rename_i e;cases e;exact absurd rfl h
 .rfl
def Aq(l:Θ):Bool:=!(decide ((AH l).length=0) || decide (60<(AH l).length) || decide ((AH l).head?=some 48)) && ((AH l).all λc=>decide (c∈Ag))
def numL(l:Θ):Int:=if l.head?=some 45 then -((digitsVal (AH l):Nat):Int)else ((digitsVal (AH l):Nat):Int)
structure IsW (l:Θ):Prop where
 pos:AH l≠[]
 len:(AH l).length<=60
 hd:(AH l).head? ≠ some 48
 all:AllDigits (AH l)
def JG(l:Θ):Aq l=true↔IsW l:=by
 unfold Aq;rw[cu,eQ,gO,gO,cQ,decide_eq_false_iff_not,decide_eq_false_iff_not,decide_eq_false_iff_not];constructor
 .rintro⟨⟨⟨a,b⟩,c⟩,d⟩;exact⟨λe=>a (by rw[e];rfl),by lia,c,λx s=>J4.mp (of_decide_eq_true (d x s))⟩
 .intro h;exact⟨⟨⟨λe=>h.pos (aZ.mp e),by have:=h.len;lia⟩,h.hd⟩,λx s=>d0 (J4.mpr (h.all x s))⟩
def RC{w:Str}(h:IsW (cs w)):w.length<=61/\intText? w=some (numL (cs w)):=by
 have hl:=Dx w;unfold numL;cases e:cs w with
 |nil=>exact absurd (by rw[e];rfl) h.pos
 |cons c r=>
  rw[e]at h hl
  by_cases q:c=45
  .subst q;have t:=h.len;have u:=h.pos;have s:=h.all
   change r.length<=60 at t
   change r≠[]at u
   change AllDigits r at s
   rw[lCq]at hl;refine⟨by lia,?_⟩
   rw[oa (show(45::r).head?=some 45 from rfl)]
   exact intText_neg e s u (by lia)
  .have t:=h.len;have s:=h.all;rw[zp q]at t s;refine⟨by lia,?_⟩
   rw[nY (by intro z;exact q (by simpa using z)),zp q,←e]
   exact intText_digits (by show AllDigits (cs w);rw[e];exact s) (by show cs w≠[];rw[e];simp) (by lia)
noncomputable def Nf(x y:Str):(x++y).length=x.length+y.length:=by
 show(x.cps++y.cps).size=_;rw[Array.size_append];rfl
theorem EO:∀{ws:List Str},ws≠[]->(ws.map λw=>w.length+1).sum=(Str.join " " ws).length+1
 | [x],_=>by simp[Str.join]
 |x::y::r,_=>by
  have s:=EO (ws:=y::r) (by simp)
  rw[ai,du,s];show _=(x ++ " " ++ Str.join " " (y::r)).length+1;rw[Nf,Nf];have:(" " : Str).length=1:=rfl;lia
noncomputable def IU(x:Str):Txt.split x " " ≠ []:=by
 unfold Txt.split;split
 .simp
 .split
  .simp
  .rw[StrLaws.partsBetween_eq];obtain⟨p,r,e⟩:=StrLaws.partsFrom_ne x (" " : Str).length 0 (Builtin.Str.occurrences x " " 0 x.length (x.length+1));rw[e];simp
def Gc(x:Str):((Txt.split x " ").map λw=>w.length+1).sum=x.length+1:=by
 rw[EO (IU x),StrLaws.join_split]
theorem MD{α:Type}(f:α->Nat):∀(l:List α),l.length<=(l.map λw=>f w+1).sum
 | []=>aa _
 |a::l=>by
  have:=MD f l;rw[ai,du,lCq];lia
theorem GR{α:Type}(f:α->Nat):∀{l:List α}{a:α},a∈l->f a+1<=(l.map λw=>f w+1).sum
 |b::l,a,h=>by
  rw[ai,du];rcases ag.mp h with e|h
  .subst e;lia
  .have:=GR f h;lia
def BC(x:Str):(Txt.split x " ").length<=x.length+1:=by
 rw[←Gc x];exact MD (λw:Str=>w.length) _
def Pp{x w:Str}(h:w∈Txt.split x " "):w.length<=x.length:=by
 have:=GR (λw:Str=>w.length) h
 rw[Gc]at this;lia
theorem FS{s sub:Str}{hi:Nat}(x:1<=sub.length):∀{a:Nat}{t:Θ}{f:Nat},StrLaws.ChainTo s sub hi a t f->a<=hi->a+t.length<=hi
 |a,[],f,h,u=>u
 |a,c::r,f,h,u=>by
  have:=FS x h.2.2 h.2.1.1;have:=h.1;rw[lCq];lia
theorem Gr:∀(x:Str) (w a:Nat) (s:Θ),(StrLaws.partsFrom x w a s).length=s.length+1
 |_,_,_,[]=>rfl
 |x,w,a,c::r=>by
  show(StrLaws.partsFrom x w (c+w) r).length+1=_;rw[Gr x w (c+w) r];rfl
noncomputable def Jf(x:Str):(Builtin.Str.partsBetween x (Builtin.Str.occurrences x " " 0 x.length (x.length+1)) (" " : Str).length).length<=x.length+1:=by
 rw[StrLaws.partsBetween_eq,Gr];obtain⟨f,h⟩:=StrLaws.occ_chain x " " (x.length+1);have:=FS (by decide) h (aJ _)
 lia
end K08
namespace K08
open PySem PySem.NumText L2 Mr Z Xe Zl
def UX:("0123456789" : Str).cps.toList=Ag:=by trivial
def TQ(c:Nat):Lw (.str ⟨#[c]⟩) (.str "0123456789")=some (.bl (decide (c∈Ag))):=by
 rw[Z3,PySem.StrLaws.found_one,UX]
def NJ(x:Str):oy oH (kSc (oq Lw (nB 0) (rC (.str "0123456789")))) [] (zA x)=some (x.cps.toList.map λc=>.sh (.bl (decide (c∈Ag)))):=by
 rw[Z.oO (λd=>match d with|.str y=>.sh (.bl (decide (y.cps.getD 0 0∈Ag)))|_=>.sh .non)]
 .unfold zA;rw[mPq];rfl
 .intro d hd;obtain⟨c,s,rfl⟩:=mMq.mp hd;refine⟨[some (.sh (.str ⟨#[c]⟩))],?_⟩;have h:=TQ c
  simp_arith [h]
  rfl
def J7(w:Str):Str:=if Txt.startswith w "-" = true then Txt.slice w (some 1) none else w
def isW(w:Str):Bool:=!(decide ((J7 w).length=0) || decide (60<(J7 w).length) || Txt.startswith (J7 w) "0") && ((J7 w).cps.toList.all λc=>decide (c∈Ag))
def wR:MS:=(nO (wk (Jq (qC (oq Ax (rD qi (nA (nB 1) nH)) (rC (.int 0)))) (Jq (qC (oq J6 (rD qi (nA (nB 1) nH)) (rC (.int 60)))) (qC (Py "str" xu (nB 1) (nA (rC (.str "0")) nH))))) (oP (kSc (rC (.bl false)))) oV)
 (oP (kSc (rD IW (nA (rOf (pJ (iSg (nB 1)) [] oH (kSc (oq Lw (nB 0) (rC (.str "0123456789")))))) nH)))))
def aaj:vM=(nO (oj 1 (kSc (rIf (qC (Py "str" xu (nB 0) (nA (rC (.str "-")) nH))) (UD (nB 0) (vE (rC (.int 1))) yc) (nB 0)))) wR):=rfl
def aba{s0:Option AV}{f:Str}(L:f.length<=500000):wR [s0,some (.sh (.str f))]=some (.rt (.sh (.bl (!(decide (f.length=0) || decide (60<f.length) || Txt.startswith f "0") && (f.cps.toList.all λc=>decide (c∈Ag)))))):=by
 have t:=NJ f;have u:(f.cps.toList.map λc=>AV.sh (.bl (decide (c∈Ag)))).map nK=(f.cps.toList.map λc=>decide (c∈Ag)).map D.bl:=by
  rw[mPq,mPq];exact mCq λc _=>by simp
 have B:=yD (f.cps.toList.map λc=>decide (c∈Ag))
 have E:(zA f).length<=pe:=oM (by rw[B2];show f.length<=_;lia)
 have G:(f.cps.toList.map λc=>decide (c∈Ag)).all id=f.cps.toList.all λc=>decide (c∈Ag):=by rw[iY];rfl
 have s:qi [.str f]=some (.int ((f.length:Nat):Int)):=qj (oM (by lia)) _
 by_cases H:f.length=0
 .have x:((f.length:Nat):Int)=0:=by lia
  rw[d0 H,eB,eB,fT,eK]
  simp_arith [wR,s,x,eq_self]
 have x:¬ ((f.length:Nat):Int)=0:=by lia
 by_cases I:60<f.length
 .have z:(60:Int)<((f.length:Nat):Int):=by lia
  rw[d0 I,ik,eB,fT,eK]
  simp_arith [wR,s,x,z]
 have z:¬ (60:Int)<((f.length:Nat):Int):=by lia
 rw[d4 H,d4 I,Bool.or_self,fc];cases J:Txt.startswith f "0" with
 |true=>
  rw[fT,eK]
  simp_arith [wR,s,x,z,J]
 |false=>
  rw[iM,gX]
  simp_arith [wR,s,x,z,J,E,t,u,B,G]
def Uj{w:Str}(hl:w.length<=500000):pd [.str w]=i4 (isW w):=by
 have lw:w.length<=pe:=oM (by lia)
 have s:=Txt.slice_le w (some 1) none;have t:(J7 w).length<=500000:=by unfold J7;split <;> lia
 have h:=aba (s0:=some (.sh (.str w))) t;unfold isW;generalize (!(decide ((J7 w).length=0) || decide (60<(J7 w).length) || Txt.startswith (J7 w) "0") && ((J7 w).cps.toList.all λc=>decide (c∈Ag)))=b at h ⊢
 cases c:Txt.startswith w "-" with
 |true=>
  have e:J7 w=Txt.slice w (some 1) none:=by unfold J7;rw[oa c]
  rw[e]at h
  simp_arith [pd,aaj,c,lw,h]
 |false=>
  have e:J7 w=w:=by unfold J7;rw[nY (by rw[c];decide)]
  rw[e]at h
  simp_arith [pd,aaj,c,h]
noncomputable def abU:("-" : Str)=⟨#[45]⟩:=by trivial
noncomputable def YV:("0" : Str)=⟨#[48]⟩:=by trivial
def XQ(w:Str):cs (J7 w)=AH (cs w):=by
 unfold J7;rw[abU,Qm];cases e:cs w with
 |nil=>rw[nY (by simp)];exact e
 |cons c r=>
  by_cases q:c=45
  .subst q;rw[oa (by simp),Uq,e]
   rfl
  .rw[nY (by simpa using q),zp q]
   exact e
def XG(w:Str):isW w=Aq (cs w):=by
 unfold isW Aq;rw[YV,Qm,←XQ,Dx];rfl
def We{w:Str}(hl:w.length<=500000):pd [.str w]=i4 (Aq (cs w)):=by rw[Uj hl,XG]
noncomputable def aS(ws:List Str):AV:=.ow (ws.map λw=>.sh (.str w))
def dS(ws:List Str):D:=.list (ws.map D.str)
def uC(ws:List Str):(ws.map λw=>AV.sh (.str w)).map nK=ws.map D.str:=by
 rw[mPq];exact mCq λw _=>by simp
def wA(ws:List Str):nK (aS ws)=dS ws:=by unfold aS dS;rw[qm,uC]
def Ee{x:Str}(hl:x.length<=400000):C1 (.str x) [.str " "]=some (Txt.split x " "):=
 qj ⟨rfl,oM (by lia),oM (by have:=Jf x;lia),oM (by have:=BC x;lia)⟩ _
def Ih(x:Str):Bool:=decide (x = ".") || (Txt.split x " ").all λw=>Aq (cs w)
def Ou(x:Str):Ϝ:=if x = "." then []else (Txt.split x " ").map λw=>numL (cs w)
def Ko{ws:List Str}(h:∀w∈ws,w.length<=500000):oy oH (kSc (oQ pd (nA (nB 0) nH))) [] (ws.map D.str)=some (ws.map λw=>.sh (.bl (Aq (cs w)))):=by
 rw[Z.oO (λd=>match d with|.str y=>.sh (.bl (Aq (cs y)))|_=>.sh .non)]
 .rw[mPq];rfl
 .intro d hd;obtain⟨c,s,rfl⟩:=mMq.mp hd;refine⟨[some (.sh (.str c))],?_⟩;have e:=We (h c s)
  simp_arith [e]
def Fk{x:Str}(hl:x.length<=400000):yE [.str x]=i4 (Ih x):=by
 unfold Ih
 by_cases c:x = "."
 .rw[d0 c,eB]
  simp_arith [yE,B8,c,eq_self]
 .rw[d4 c,fc];have s:=Ee hl;have t:=Ko (ws:=Txt.split x " ") λw hw=>by have:=Pp hw;lia
  have u:=uC (Txt.split x " ");have z:(Txt.split x " ").length<=pe:=oM (by have:=BC x;lia)
  have B:((Txt.split x " ").map λw=>AV.sh (.bl (Aq (cs w)))).map nK=((Txt.split x " ").map λw=>Aq (cs w)).map D.bl:=by
   rw[mPq,mPq];exact mCq λc _=>by simp
  have E:=yD ((Txt.split x " ").map λw=>Aq (cs w))
  have G:((Txt.split x " ").map λw=>Aq (cs w)).all id=(Txt.split x " ").all λw=>Aq (cs w):=by rw[iY];rfl
  simp_arith [yE,B8,c,s,t,u,z,B,E,G]
def Ob{ws:List Str}(h:∀w∈ws,Aq (cs w)=true):oy oH (kSc (rD Fz (nA (nB 0) nH))) [] (ws.map D.str)=some ((ws.map λw=>numL (cs w)).map λn=>.sh (.int n)):=by
 rw[Z.oO (λd=>match d with|.str y=>.sh (.int (numL (cs y)))|_=>.sh .non)]
 .rw[mPq,mPq];rfl
 .intro d hd;obtain⟨c,s,rfl⟩:=mMq.mp hd;refine⟨[some (.sh (.str c))],?_⟩;obtain⟨x,t⟩:=RC ((JG _).mp (h c s));have u:Fz [.str c]=some (.int (numL (cs c))):=by
   rw[Xx,t];exact qj (by lia) _
  simp_arith [u]
def Eb{x:Str}(hl:x.length<=400000)(h:Ih x=true):wF [.str x]=some (aI (Ou x)):=by
 unfold Ou
 by_cases c:x = "."
 .rw[oa c]
  simp_arith [wF,Ae,c,eq_self]
  rfl
 .rw[nY c];unfold Ih at h;rw[d4 c,fc,cQ]at h;have s:=Ee hl;have t:=Ob h;have u:=uC (Txt.split x " ");have z:(Txt.split x " ").length<=pe:=oM (by have:=BC x;lia)
  unfold aI
  simp_arith [wF,Ae,c,s,t,u,z]
def Dc(rs:Λ):nK (.ow (rs.map aI))=dM rs:=by
 rw[qm,mPq];unfold dM;congr 1;exact mCq λr _=>pD r
section
variable {rs:Λ}(hl:rs.flatten.length<=500000)
include hl
end
def W9{z:Int}(h:-(10 ^ 60)<z/\z<10 ^ 60):z.natAbs.log2<1920:=by
 by_cases c:z.natAbs=0
 .rw[c];decide
 .rw[Nat.log2_lt c];have s:z.natAbs<10 ^ 60:=by lia
  exact fu s (by decide)
def nX(r:Ϝ):Str:=if r=[]then "." else Txt.join " " (r.map oZ)
def D9{z:Int}(h:-(10 ^ 60)<z/\z<10 ^ 60):CK [.int z]=some (.str (oZ z)):=by
 rw[Z4];exact qj (W9 h) _
def JW{r:Ϝ}(h:∀z∈r,z≠0/\-(10 ^ 60)<z/\z<10 ^ 60):oy oH (kSc (rD CK (nA (nB 0) nH))) [] (r.map D.int)=some ((r.map oZ).map λs=>.sh (.str s)):=by
 rw[Z.oO (λd=>match d with|.int z=>.sh (.str (oZ z))|_=>.sh .non)]
 .rw[mPq,mPq];rfl
 .intro d hd;obtain⟨z,u,rfl⟩:=mMq.mp hd;have t:=D9 (h z u).2;refine⟨[i0 z],?_⟩
  simp_arith [t]
def G9{z:Int}(h:-(10 ^ 60)<z/\z<10 ^ 60):(oZ z).length<=61:=by
 by_cases c:z<0
 .obtain⟨n,hn⟩:∃n:Nat,z = -(n:Int):=⟨(-z).toNat,by lia⟩
  subst hn;show(Str.ofString (toString (-((n:Nat):Int)))).length<=61;rw[HN (by lia)]
  show(45::rV n).toArray.size<=61;rw[aq,lCq];have:=AE (n:=n) (by lia)
  lia
 .obtain⟨n,hn⟩:∃n:Nat,z=(n:Int):=⟨z.toNat,by lia⟩
  subst hn;show(Str.ofString (toString ((n:Nat):Int))).length<=61;rw[Dg];show(rV n).toArray.size<=61;rw[aq];have:=AE (n:=n) (by lia)
  lia
theorem GL:∀{r:Ϝ},(∀z∈r,z≠0/\-(10 ^ 60)<z/\z<10 ^ 60)->((r.map oZ).map (·.length)).sum<=61*r.length
 | [],_=>by simp
 |z::r,h=>by
  have:=GL (r:=r) λy s=>h y (mCo _ s)
  have t:=G9 (h z (by simp)).2
  simp only[ai,du,lCq];lia
noncomputable def C5:(" " : Str).length=1:=by trivial
def FQ{r:Ϝ}(h:∀z∈r,z≠0/\-(10 ^ 60)<z/\z<10 ^ 60)(hl:r.length<=1000):yC (.str " ") [.list ((r.map oZ).map D.str)]=some (.str (Txt.join " " (r.map oZ))):=by
 rw[Qx,EM];refine qj ?_ _;have:=GL h;rw[lMq,C5];lia
def Fe{r:Ϝ}(h:∀z∈r,z≠0/\-(10 ^ 60)<z/\z<10 ^ 60)(hl:r.length<=1000):wL [dI r]=some (.sh (.str (nX r))):=by
 unfold nX
 by_cases c:r=[]
 .subst c;have t:((0:Nat):Int)=0:=rfl
  simp_arith [wL,BR,t]
 .have s:¬ (r.length:Int)=0:=λz=>c (aZ.mp (by lia))
  have u:r.length<=pe:=oM (by lia)
  rw[nY c]
  simp_arith [wL,BR,s,u,JW h,uC,FQ h hl]
def TJ{r:Ϝ}(h:∀z∈r,z≠0/\-(10 ^ 60)<z/\z<10 ^ 60):(nX r).length<=62*r.length+1:=by
 unfold nX;split
 .have:(("." : Str)).length=1:=by trivial
  lia
 .have e:=PySem.size_glued " " (r.map oZ);have s:=GL h;show(Builtin.Str.glued " " (r.map oZ)).length<=_;rw[e,C5,lMq];lia
def A5(x:Str):Prop:=∀c∈cs x,c<1114112
def Ny{x y:Str}(s:A5 x)(t:A5 y):A5 (x++y):=by
 intro c u;have:c∈cs x++cs y:=by
  have e:cs (x++y)=cs x++cs y:=by
   show(x.cps++y.cps).toList=_;rw[aD];rfl
  rw[←e];exact u
 rcases mAq.mp this with h|h
 .exact s c h
 .exact t c h
theorem yH{s:Str}(t:A5 s):∀{ws:List Str},(∀w∈ws,A5 w)->A5 (Str.join s ws)
 | [],_=>by intro c u;cases u
 | [x],h=>h x (by simp)
 |x::y::r,h=>by
  show A5 (x++s++Str.join s (y::r));exact Ny (Ny (h x (by simp)) t) (yH t λw hw=>h w (mCo _ hw))
def JR(n:Nat):∀c∈rV n,c<1114112:=by
 intro c t;unfold rV at t;obtain⟨u,s,rfl⟩:=mMq.mp t;have r:=fZ (fJ (by decide) (by decide) s)
 lia
def Di(z:Int):A5 (oZ z):=by
 by_cases c:z<0
 .obtain⟨n,hn⟩:∃n:Nat,z = -(n:Int):=⟨(-z).toNat,by lia⟩
  subst hn;show A5 (Str.ofString (toString (-((n:Nat):Int))));rw[HN (by lia)]
  intro c s;rcases ag.mp (show c∈45::rV n from s)with h|h
  .lia
  .exact JR n c h
 .obtain⟨n,hn⟩:∃n:Nat,z=(n:Int):=⟨z.toNat,by lia⟩
  subst hn;show A5 (Str.ofString (toString ((n:Nat):Int)));rw[Dg];exact λc s=>JR n c s
def GD(r:Ϝ):A5 (nX r):=by
 unfold nX;split
 .show ∀c∈cs ".", c<1114112;decide +kernel
 .show A5 (Builtin.Str.glued " " (r.map oZ));rw[PySem.StrLaws.glued_eq_join];refine yH (show ∀c∈cs " ", c<1114112 by trivial) λw hw=>?_
  obtain⟨z,_,rfl⟩:=mMq.mp hw;exact Di z
end K08
namespace K07
open PySem PySem.NumText L2 Mr Z Xe Zl K08
noncomputable def Fo:List Θ->Θ
 | []=>[]
 | [x]=>x
 |x::y::r=>x++32::Fo (y::r)
def Sf(x y:Str):cs (x++y)=cs x++cs y:=by
 show(x.cps++y.cps).toList=_;rw[aD];rfl
theorem G3:∀(ws:List Str),cs (Str.join " " ws)=Fo (ws.map cs)
 | []=>rfl
 | [x]=>rfl
 |x::y::r=>by
  show cs (x ++ " " ++ Str.join " " (y::r))=_;rw[Sf,Sf,G3 (y::r),ak];rfl
theorem Md:∀{x y p q:Θ},32∉x->32∉y->x++32::p=y++32::q->x=y/\p=q
 | [],[],p,q,_,_,h=>⟨rfl,by simpa using h⟩
 | [],b::y,p,q,_,hy,h=>by
  simp at h;exact absurd (by rw[h.1];simp) hy
 |a::x,[],p,q,hx,_,h=>by
  simp at h;exact absurd (by rw[h.1];simp) hx
 |a::x,b::y,p,q,hx,hy,h=>by
  simp at h;obtain⟨s,t⟩:=Md (λm=>hx (mCo _ m)) (λm=>hy (mCo _ m)) h.2
  exact⟨by rw[h.1,s],t⟩
theorem FJ:∀{as bs:List Θ},as≠[]->bs≠[]->(∀x∈as,32∉x)->(∀x∈bs,32∉x)->Fo as=Fo bs->as=bs
 | [x],[y],_,_,_,_,h=>by rw[show x=y from h]
 | [x],y::z::r,_,_,hx,_,h=>by
  have t:x=y++32::Fo (z::r):=h;exact absurd (by rw[t];simp) (hx x (by simp))
 |x::y::r,[z],_,_,_,s,h=>by
  have t:x++32::Fo (y::r)=z:=h;exact absurd (by rw[←t];simp) (s z (by simp))
 |x::y::r,x'::y'::r',_,_,hx,hy,h=>by
  obtain⟨u,B⟩:=Md (hx x (by simp)) (hy x' (by simp)) h
  have E:=FJ (as:=y::r) (bs:=y'::r') (by simp) (by simp) (λz s=>hx z (mCo _ s)) (λz s=>hy z (mCo _ s)) B
  rw[u,E]
noncomputable def ZF:(" " : Str)=⟨#[32]⟩:=by trivial
def K0{ws:List Str}(z:ws≠[])(h:∀w∈ws,32∉cs w):Txt.split (Str.join " " ws) " " = ws:=by
 have e:=StrLaws.join_split (Str.join " " ws) " ";have u:=congrArg cs e;rw[G3,G3]at u;have B:∀p∈Txt.split (Str.join " " ws) " ", 32∉cs p:=by
  rw[ZF];exact StrLaws.split_free _ 32
 have:=FJ (as:=(Txt.split (Str.join " " ws) " ").map cs) (bs:=ws.map cs) (by simpa using IU _) (by simpa using z) (by
  intro x s;obtain⟨p,t,rfl⟩:=mMq.mp s;exact B p t) (by
  intro x s;obtain⟨p,t,rfl⟩:=mMq.mp s;exact h p t) u
 exact List.map_inj_right (λ_ _=>Vp) |>.mp this
def Ec(n:Nat):AllDigits (rV n):=by
 intro c t;unfold rV at t;obtain⟨u,s,rfl⟩:=mMq.mp t;exact fZ (fJ (by decide) (by decide) s)
def Bn(n:Nat):digitsVal (rV n)=n:=W.KIN.val_back n
def FA:∀(n:Nat),0<n->(rV n).head? ≠ some 48:=by
 intro n
 induction n using iI with
 |_ n s=>
  intro h
  by_cases c:n<10
  .rw[V7 c];simp;lia
  .rw[Vf (by lia)]
   have:=s (n / 10) (by lia) (by lia)
   cases e:rV (n / 10)with
   |nil=>
    exfalso;have v:=Bn (n / 10);rw[e]at v;have:digitsVal []=0:=rfl;lia
   |cons a r=>
    rw[e]at this;exact this
def Nd{n:Nat}(h:0<n):rV n≠[]:=by
 intro e;have v:=Bn n;rw[e]at v;have:digitsVal []=0:=rfl;lia
def AZ{z:Int}(h:z≠0/\-(10 ^ 60)<z/\z<10 ^ 60):Aq (cs (oZ z))=true/\numL (cs (oZ z))=z/\32∉cs (oZ z):=by
 rw[JG]
 by_cases c:z<0
 .obtain⟨n,hn⟩:∃n:Nat,z = -(n:Int):=⟨(-z).toNat,by lia⟩
  have e:cs (oZ z)=45::rV n:=by
   subst hn;show cs (Str.ofString (toString (-((n:Nat):Int))))=_;rw[HN (by lia)]
   rfl
  rw[e];refine⟨⟨Nd (by lia),AE (by lia),FA n (by lia),Ec n⟩,?_,?_⟩
  .unfold numL;rw[oa (show(45::rV n).head?=some 45 from rfl)]
   show -((digitsVal (rV n):Nat):Int)=z;rw[Bn,hn]
  .intro m;rcases ag.mp m with m|m
   .cases m
   .have:=Ec n 32 m;lia
 .obtain⟨n,hn⟩:∃n:Nat,z=(n:Int):=⟨z.toNat,by lia⟩
  have e:cs (oZ z)=rV n:=by
   subst hn;show cs (Str.ofString (toString ((n:Nat):Int)))=_;rw[Dg];rfl
  rw[e];have t:=Ec n;have s:AH (rV n)=rV n:=by
   cases q:rV n with
   |nil=>rfl
   |cons a r=>
    have:=t a (by rw[q];simp)
    exact zp (by lia)
  have hh:(rV n).head? ≠ some 45:=by
   cases q:rV n with
   |nil=>simp
   |cons a r=>
    have:=t a (by rw[q];simp)
    simp;lia
  refine⟨⟨by rw[s];exact Nd (by lia),by rw[s];exact AE (by lia),by rw[s];exact FA n (by lia),by rw[s];exact t⟩,?_,?_⟩
  .unfold numL;rw[nY hh,s,Bn,hn]
  .intro m;have:=t 32 m;lia
def Td{r:Ϝ}(h:∀z∈r,z≠0/\-(10 ^ 60)<z/\z<10 ^ 60):Ih (nX r)=true/\Ou (nX r)=r:=by
 by_cases c:r=[]
 .subst c;exact⟨by unfold Ih nX;rw[oa rfl,d0 rfl,eB],by unfold Ou nX;rw[oa rfl,oa rfl]⟩
 .have e:nX r=Str.join " " (r.map oZ):=by
   unfold nX;rw[nY c];exact StrLaws.glued_eq_join " " _
  have t:Txt.split (nX r) " " = r.map oZ:=by
   rw[e];refine K0 (by simpa using c) λw hw=>?_
   obtain⟨z,s,rfl⟩:=mMq.mp hw;exact(AZ (h z s)).2.2
  have hd:¬ nX r = "." := by
   intro q;rw[q]at t;have k:Txt.split "." " " = [("." : Str)]:=by trivial
   rw[k]at t;obtain⟨z,s,e⟩:∃z∈r,oZ z = "." := mMq.mp (by rw[←t];simp)
   have:=(AZ (h z s)).1;rw[e]at this;exact absurd this (by trivial)
  constructor
  .unfold Ih;rw[t,iH,cQ];refine .inr λw hw=>?_
   obtain⟨z,s,rfl⟩:=mMq.mp hw;exact(AZ (h z s)).1
  .unfold Ou;rw[nY hd,t,mPq];have:∀z∈r,((λw=>numL (cs w))∘oZ) z=id z:=λz s=>(AZ (h z s)).2.1
   rw[mCq this,de]
end K07
namespace K08
open PySem PySem.NumText L2 Mr Z Xe Zl
noncomputable def Wt(rows:List Str):Nat:=(rows.map λx=>x.length+1).sum
def RL{rows:List Str}{x:Str}(h:x∈rows):x.length+1<=Wt rows:=GR (λx:Str=>x.length) h
def RA(xs:List Str):Ij (xs.map .str)=some (xs.map PyData.str):=by
 induction xs with
 |nil=>simp[Ij]
 |cons n ns s=>simp[Ij,py,s]
theorem AJ:∀{xs:List Str},(∀x∈xs,A5 x)->PyData.canLayAll0 (xs.map .str)=true
 | [],_=>by simp[PyData.canLayAll0]
 |x::r,h=>by
  have s:PyData.strOk x=true:=by
   unfold PyData.strOk;rw[←Array.all_toList,cQ];exact λc t=>d0 (h x (by simp) c t)
  simp[PyData.canLayAll0,PyData.canLay0,AJ λy u=>h y (mCo _ u),s]
theorem xI:∀(xs:List Str),PyData.depthAll (xs.map .str)=0
 | []=>rfl
 |x::r=>by simp only[iZ,PyData.depthAll,PyData.depth,xI r,Nat.max_self]
theorem JU:∀(xs:List Str),SeqAt.noMixAll (xs.map .str) (xs.map .str)=true
 | []=>by simp[SeqAt.noMixAll]
 |_::r=>by simp[SeqAt.noMixAll,SeqAt.noMix,JU r]
theorem Fv:∀(xs:List Str),PySem.Spec.sameAll (xs.map .str) (xs.map .str)=true
 | []=>by simp[PySem.Spec.sameAll]
 |_::r=>by simp[PySem.Spec.sameAll,PySem.Spec.same,Fv r]
def VR{xs:List Str}(h:∀x∈xs,A5 x):CN (.list (xs.map .str)) (.list (xs.map .str))=some (.bl true):=by
 have t:py (.list (xs.map .str))=some (.list (xs.map .str)):=by
  simp only[py,RA];rfl
 have s:SeqAt.shaped (.list (xs.map .str))=true:=by
  show(PyData.canLay0 _ && decide (PyData.depth _<=64))=true;rw[cu];refine⟨by simp only[PyData.canLay0];exact AJ h,d0 ?_⟩
  simp only[PyData.depth,xI];decide
 unfold CN;rw[t];show(if _ then _ else _)=_
 rw[oa ⟨s,s,by simp only[SeqAt.noMix];exact JU xs⟩]
 simp only[PySem.Spec.same,Fv]
def VF{xs:List Str}(h:∀x∈xs,A5 x):TN (.list (xs.map .str)) (.list (xs.map .str))=some (.bl false):=by
 unfold TN;rw[VR h];rfl
def FC{rs:Λ}(h:∀r∈rs,∀z∈r,z≠0/\-(10 ^ 60)<z/\z<10 ^ 60)(hl:∀r∈rs,r.length<=1000):oy oH (kSc (oQ wL (nA (nB 0) nH))) [] (rs.map dI)=some ((rs.map nX).map λs=>.sh (.str s)):=by
 rw[Z.oO λd=>.sh (.str (nX (Aj d)))]
 .rw[yv λr=>AV.sh (.str (nX r)),mPq]
  rfl
 .intro d hd;obtain⟨r,hr,rfl⟩:=Ap hd;refine⟨[some (.sh (dI r))],?_⟩
  simp_arith [Fe (h r hr) (hl r hr),rK]
theorem GQ:∀{rs:Λ},(∀r∈rs,∀z∈r,z≠0/\-(10 ^ 60)<z/\z<10 ^ 60)->Wt (rs.map nX)<=62*rs.flatten.length+2*rs.length
 | [],_=>by simp[Wt]
 |r::rs,h=>by
  have t:=GQ (rs:=rs) λx s=>h x (mCo _ s)
  have u:=TJ (h r (by simp))
  rw[ai,fCq,lAq,lCq];have e:Wt (nX r::rs.map nX)=(nX r).length+1+Wt (rs.map nX):=by simp[Wt]
  rw[e];lia
end K08
namespace K07
open PySem PySem.NumText L2 Mr Z Xe Zl K08
noncomputable def Kk{R:Λ}(h:zG R):∀r∈R,∀z∈r,z≠0/\-(10 ^ 60)<z/\z<10 ^ 60:=λr hr z s=>h.ends z (mFq.mpr ⟨r,hr,s⟩)
def OI(rs:Λ):oy oH (CI (rW 0)) [] (rs.map dI)=some (rs.map aI):=by
 rw[Z.oO λd=>aI (Aj d)]
 .rw[yv aI]
 .intro d hd;obtain⟨r,hr,rfl⟩:=Ap hd;refine⟨[some (.sh (dI r))],?_⟩
  simp_arith [rK]
def LQ(ws:List Str):oy oH (kSc (rD G4 (nA (nB 0) (nA (rC (.ty "str")) nH)))) [] (ws.map D.str)=some (ws.map λ_=>.sh (.bl true)):=by
 rw[Z.oO λ_=>.sh (.bl true)]
 .rw[mPq];rfl
 .intro d hd;obtain⟨s,t,rfl⟩:=mMq.mp hd;refine⟨[some (.sh (.str s))],?_⟩
  simp_arith []
def Tq(ws:List Str):IW [.list ((ws.map λ_=>AV.sh (.bl true)).map nK)]=some (.bl true):=by
 have e:(ws.map λ_=>AV.sh (.bl true)).map nK=(ws.map λ_=>true).map D.bl:=by
  rw[mPq,mPq];exact mCq λc _=>by simp
 rw[e,W5,yD];have:(ws.map λ_=>true).all id=true:=by rw[cQ];intro b hb;obtain⟨_,_,rfl⟩:=mMq.mp hb;rfl
 rw[bR,this]
end K07
namespace K12
open PySem L2 Mr Z Xe Zl
abbrev aP(part:Λ):AV:=.ow (part.map aI)
structure Wd where
 P0:List Λ
 last:Λ
 t0:Θ
 h:Nat
 left:Ϝ
 used:Nat
abbrev cN(ks:Θ):Ϝ:=ks.map λn:Nat=>(n:Int)
def st(v0 v1:Option AV)(w:Wd)(v6 v7 s t:Option AV):AS:=[v0,v1,some (.ow ((w.P0++[w.last]).map aP)),some (aI (cN (w.t0++[w.h]))),some (aI w.left),i0 (w.used:Int),v6,v7,s,t]
noncomputable def both(nm:Ϝ)(k:Nat):Ϝ:=(nm.take k).flatMap λx=>[x, -x]
def nmk(st sh a b k:Int):Int:=st*((a*k+b) % 67+1)+sh
structure Nm (nm:Ϝ):Prop where
 len:nm.length=66
 nd:nm.Nodup
 lo:∀x∈nm,1<=x
 hi:∀x∈nm,x<10 ^ 60
end K12
namespace K51
open PySem L2 Mr Z Xe Zl
noncomputable def acz(x:String×Int):AV:=.sh (.tup [.str x.1,.int x.2])
def kd(ks:Θ):List (nT×D):=ks.map λk:Nat=>((aH (k:Int):nT),D.bl true)
noncomputable def wd(ws:Θ):List AV:=ws.map λk:Nat=>AV.sh (.int (k:Int))
def K7(ks:Θ)(t:Nat):(kd ks).any (λkv=>decide (kv.1=(aH (t:Int):nT)))=decide (t∈ks):=by
 induction ks with
 |nil=>simp[kd]
 |cons k ks s=>
  unfold kd at s ⊢;rw[ai,cX,s]
  by_cases h:t=k
  .subst h;simp
  .have u:¬ (aH (k:Int):nT)=aH (t:Int):=λq=>h (by have:=aH.inj q;lia)
   simp[u,h]
def Sx(ks:Θ)(t:Nat):(getD (kd ks) (aH (t:Int))).isSome=decide (t∈ks):=by
 unfold getD;rw[dA,←K7,cF,ir,cR]
def P5{ks:Θ}{t:Nat}(h:t∉ks):vh (kd ks) (aH (t:Int)) (.bl true)=kd (ks++[t]):=by
 unfold vh;rw[K7,d4 h,nY (by simp)]
 simp[kd]
def KS{kvs:List (nT×D)}{ks ws:Θ}{e:Int}{t:Nat}{v0 v1 v5 v7:Option AV}(x:getD kvs (aH (-e))=some (.int (t:Int)))(hk:ks.length<500000)(hw:ws.length<500000) :
  qY [v0,v1,some (.owd kvs),some (.owd (kd ks)),some (.ow (wd ws)),v5,i0 e,v7]=some (.nx [v0,v1,some (.owd kvs),some (.owd (kd (if t∈ks then ks else ks++[t]))),some (.ow (wd (if t∈ks then ws else ws++[t]))),v5,i0 e,i0 (t:Int)]):=by
 have z:(kd ks).length<pe:=by unfold kd;rw[lMq];show _<16777216;lia
 have B:(wd ws).length<pe:=by unfold wd;rw[lMq];show _<16777216;lia
 have s:=Sx ks t
 by_cases h:t∈ks
 .rw[d0 h]at s
  simp_arith [qY,x,s,h]
 .rw[d4 h]at s;have E:=P5 h;have u:wd ws++[.sh (.int (t:Int))]=wd (ws++[t]):=by simp[wd]
  simp_arith [qY,x,s,h,E,z,B,u]
noncomputable def C3(pl:Int->Nat)(x:List Nat×Θ)(e:Int):List Nat×Θ:=if pl (-e)∈x.1 then x else (x.1++[pl (-e)],x.2++[pl (-e)])
theorem M3(pl:Int->Nat):∀(r:Ϝ) (x:List Nat×Θ),(r.foldl (C3 pl) x).1.length<=x.1.length+r.length/\(r.foldl (C3 pl) x).2.length<=x.2.length+r.length
 | [],x=>⟨aa _,aa _⟩
 |e::r,x=>by
  obtain⟨s,t⟩:=M3 pl r (C3 pl x e);have u:(C3 pl x e).1.length<=x.1.length+1/\(C3 pl x e).2.length<=x.2.length+1:=by
   unfold C3;split
   .exact⟨bS _,bS _⟩
   .simp
  rw[cg,lCq];lia
def NK{kvs:List (nT×D)}{ks ws:Θ}{r:Ϝ}{pl:Int->Nat}{v0 v1 v5 v6 v7:Option AV}(E:∀e∈r,getD kvs (aH (-e))=some (.int (pl (-e):Int)))(hk:ks.length+r.length<500000)(hw:ws.length+r.length<500000) :
  ∃t s,qN 6 qY (r.map D.int) [v0,v1,some (.owd kvs),some (.owd (kd ks)),some (.ow (wd ws)),v5,v6,v7]=some (.nx [v0,v1,some (.owd kvs),some (.owd (kd (r.foldl (C3 pl) (ks,ws)).1)),some (.ow (wd (r.foldl (C3 pl) (ks,ws)).2)),v5,t,s]):=by
 have key:=rp (x:=6) (body:=qY) (λi S=>∃t s,S=[v0,v1,some (.owd kvs),some (.owd (kd ((r.take i).foldl (C3 pl) (ks,ws)).1)),some (.ow (wd ((r.take i).foldl (C3 pl) (ks,ws)).2)),v5,t,s]) (ds:=r.map D.int) (S:=[v0,v1,some (.owd kvs),some (.owd (kd ks)),some (.ow (wd ws)),v5,v6,v7])
  ⟨v6,v7,rfl⟩ (by
  rintro i d S hd ⟨t,s,rfl⟩;rw[gMq]at hd;obtain⟨e,u,rfl⟩:=oMq.mp hd;have hi:i<r.length:=(gSq.mp u).1;have G:e∈r:=mGq u;obtain⟨z,B⟩:=M3 pl (r.take i) (ks,ws);rw[lTq]at z B;have H:((r.take i).foldl (C3 pl) (ks,ws)).1.length<=ks.length+min i r.length:=z;have I:((r.take i).foldl (C3 pl) (ks,ws)).2.length<=ws.length+min i r.length:=B;have step:=KS (v0:=v0) (v1:=v1) (v5:=v5) (v7:=s) (E e G) (ks:=((r.take i).foldl (C3 pl) (ks,ws)).1) (ws:=((r.take i).foldl (C3 pl) (ks,ws)).2) (by lia) (by lia)
  have J:(r.take (i+1)).foldl (C3 pl) (ks,ws)=C3 pl ((r.take i).foldl (C3 pl) (ks,ws)) e:=by
   have:r[i]'hi=e:=by rw[gEg hi]at u;exact aL.inj u
   rw[eZ hi,fV,this];rfl
  refine⟨_,step,i0 e,i0 (pl (-e):Int),?_⟩;rw[J];unfold C3;split <;> rfl)
 obtain⟨L,e,t,s,rfl⟩:=key;rw[lMq,aE]at e;exact⟨t,s,e⟩
theorem ZC:∀(N:Nat) (l:Θ),l.Nodup->(∀x∈l,x<N)->l.length<=N
 |0,l,_,h=>by
  cases l with
  |nil=>exact aa _
  |cons x l=>exact absurd (h x (ax ..)) (bW _)
 |N+1,l,hn,h=>by
  have s:=ZC N (l.erase N) (hn.erase N) (λx t=>by
   have:=(hn.mem_erase_iff).mp t;have:=h x this.2;lia)
  rw[List.length_erase]at s;split at s <;> lia
noncomputable def plc(rs:Λ)(e:Int):Nat:=rs.findIdx λr=>decide (e∈r)
def same_place{rs:Λ}(hn:rs.flatten.Nodup){i j:Nat}{r s:Ϝ}{e:Int}(hi:rs[i]?=some r)(t:rs[j]?=some s)(u:e∈r)(x:e∈s):i=j:=by
 have a:=xy 0 hn hi u;have b:=xy 0 hn t x;rw[a]at b;have:=D.int.inj (aL.inj b);lia
def plc_eq{rs:Λ}(hn:rs.flatten.Nodup){i:Nat}{r:Ϝ}{e:Int}(hi:rs[i]?=some r)(s:e∈r):plc rs e=i:=by
 have hl:rs.findIdx (λr=>decide (e∈r))<rs.length:=eY ⟨r,mGq hi,d0 s⟩
 have t:=gN (xs:=rs) (p:=λr=>decide (e∈r)) (w:=hl)
 exact same_place hn (gEg hl) hi (of_decide_eq_true t) s
structure Mp (rs:Λ):Prop where
 hn:rs.flatten.Nodup
 hl:rs.flatten.length<=1000
 hr:rs.length<=1000
 hneg:∀e∈rs.flatten, -e∈rs.flatten
def Mp.at{rs:Λ}(h:Mp rs){e:Int}(u:e∈rs.flatten):∃r,rs[plc rs e]?=some r/\e∈r:=by
 obtain⟨r,x,s⟩:=mFq.mp u;obtain⟨i,t⟩:=bb.mp x;exact⟨r,by rw[plc_eq h.hn t s];exact t,s⟩
noncomputable def Mp.other{rs:Λ}(h:Mp rs){k:Nat}{r:Ϝ}{e:Int}(hk:rs[k]?=some r)(s:e∈r):-e∈rs.flatten:=h.hneg e (mFq.mpr ⟨r,mGq hk,s⟩)
def Mp.kv{rs:Λ}(h:Mp rs){e:Int}(s:e∈rs.flatten):getD (oh 0 rs) (aH e)=some (.int (plc rs e:Int)):=by
 obtain⟨r,t,u⟩:=h.at s;have:=xy 0 h.hn t u
 rwa [aQ]at this
def Mp.lt{rs:Λ}(h:Mp rs){e:Int}(s:e∈rs.flatten):plc rs e<rs.length:=by
 obtain⟨r,t,_⟩:=h.at s;exact(gSq.mp t).1
noncomputable def Mp.row{rs:Λ}(h:Mp rs){k:Nat}{r:Ϝ}(hk:rs[k]?=some r):r.length<=1000:=by
 have:=dG.length_le (bE (mGq hk));have:=h.hl;lia
inductive ye (rs:Λ)(s:Nat):Nat->Prop
 |base:ye rs s s
 |step {k:Nat}{r:Ϝ}{e:Int}:ye rs s k->rs[k]?=some r->e∈r->ye rs s (plc rs (-e))
theorem Ej(pl:Int->Nat):∀(r:Ϝ) (ks ws:Θ),∃a,r.foldl (C3 pl) (ks,ws)=(ks++a,ws++a)/\(∀k∈a,∃e∈r,k=pl (-e))/\(∀e∈r,pl (-e)∈ks++a)/\(ks.Nodup->(ks++a).Nodup)
 | [],ks,ws=>⟨[],by simp,by simp,by simp,by simp⟩
 |e::r,ks,ws=>by
  rw[cg]
  by_cases h:pl (-e)∈ks
  .have t:C3 pl (ks,ws) e=(ks,ws):=by unfold C3;rw[oa h]
   rw[t];obtain⟨a,u,z,B,E⟩:=Ej pl r ks ws;refine⟨a,u,λk hk=>?_,λx s=>?_,E⟩
   .obtain⟨x,s,q⟩:=z k hk;exact⟨x,mCo _ s,q⟩
   .rcases ag.mp s with rfl|s
    .exact mAq.mpr (.inl h)
    .exact B x s
  .have t:C3 pl (ks,ws) e=(ks++[pl (-e)],ws++[pl (-e)]):=by unfold C3;rw[nY h]
   rw[t];obtain⟨a,u,z,B,E⟩:=Ej pl r (ks++[pl (-e)]) (ws++[pl (-e)]);refine⟨pl (-e)::a,by rw[u,ak,ak];rfl,λk hk=>?_,λx s=>?_,λhn=>?_⟩
   .rcases ag.mp hk with rfl|hk
    .exact⟨e,ax ..,rfl⟩
    .obtain⟨x,s,q⟩:=z k hk;exact⟨x,mCo _ s,q⟩
   .rcases ag.mp s with rfl|s
    .exact mAq.mpr (.inr (ax ..))
    .have:=B x s
     rwa [ak]at this
   .have:=E (by
     rw[nAq];exact⟨hn,by simp,λx s y G q=>h (by rw[mSq.mp G]at q;rw[←q];exact s)⟩)
    rwa [ak]at this
structure Inv (rs:Λ)(s:Nat)(ks ws:Θ):Prop where
 nd:ks.Nodup
 lt:∀k∈ks,k<rs.length
 st:s∈ks
 rc:∀k∈ks,ye rs s k
 sub:∀w∈ws,w∈ks
 cl:∀k∈ks,k∉ws->∀r e,rs[k]?=some r->e∈r->plc rs (-e)∈ks
 few:2*(rs.length-ks.length)+ws.length<=2*rs.length+1
def Inv.go{rs:Λ}(x:Mp rs){s h:Nat}{ks ws:Θ}{r:Ϝ}(hi:Inv rs s ks (ws++[h]))(hr:rs[h]?=some r):∃a,r.foldl (C3 (plc rs)) (ks,ws)=(ks++a,ws++a)/\Inv rs s (ks++a) (ws++a)/\2*(rs.length-(ks++a).length)+(ws++a).length<2*(rs.length-ks.length)+(ws++[h]).length:=by
 obtain⟨a,E,B,G,H⟩:=Ej (plc rs) r ks ws;have hh:h∈ks:=hi.sub h (by simp)
 have nd:=H hi.nd;have lt:∀k∈ks++a,k<rs.length:=by
  intro k hk;rcases mAq.mp hk with q|q
  .exact hi.lt k q
  .obtain⟨e,u,rfl⟩:=B k q;exact x.lt (x.other hr u)
 have I:=ZC _ _ nd lt;have J:=hi.few;rw[lAq]at I;rw[lAq,lSq]at J;have key:2*(rs.length-(ks++a).length)+(ws++a).length<2*(rs.length-ks.length)+(ws++[h]).length:=by
  rw[lAq,lAq,lAq,lSq];lia
 refine⟨a,E,⟨nd,lt,mAq.mpr (.inl hi.st),λk hk=>?_,λw hw=>?_,λk hk hw=>?_,?_⟩,key⟩
 .rcases mAq.mp hk with q|q
  .exact hi.rc k q
  .obtain⟨e,u,rfl⟩:=B k q;exact .step (hi.rc h hh) hr u
 .rcases mAq.mp hw with q|q
  .exact mAq.mpr (.inl (hi.sub w (mAq.mpr (.inl q))))
  .exact mAq.mpr (.inr q)
 .intro L e t u;have M:k∈ks:=(mAq.mp hk).resolve_right λq=>hw (mAq.mpr (.inr q))
  by_cases q:k=h
  .subst q;rw[hr]at t;cases t;exact G e u
  .exact mAq.mpr (.inl (hi.cl k M (λz=>by
    rcases mAq.mp z with z|z
    .exact hw (mAq.mpr (.inl z))
    .exact q (mSq.mp z)) L e t u))
 .rw[lAq,lAq]at key ⊢;rw[lAq,lSq]at key;lia
def mu(N:Nat):AS->Nat
 | [_,_,_,some (.owd kv),some (.ow w),_,_,_]=>2*(N-kv.length)+w.length
 |_=>0
def LJ{rs:Λ}(u:Mp rs){s:Nat}(L:s<rs.length):∃S',rX (qC (oq J6 (rD qi (nA (nB 4) nH)) (rC (.int 0)))) uA 100000 [some (.sh (dM rs)),i0 (s:Int),some (.owd (oh 0 rs)),some (.owd (kd [s])),some (.ow (wd [s])),none,none,none]=some (.nx S') /\
  ∃ks v5 v6 v7,S'=[some (.sh (dM rs)),i0 (s:Int),some (.owd (oh 0 rs)),some (.owd (kd ks)),some (.ow (wd [])),v5,v6,v7]/\Inv rs s ks []:=by
 have x:=u.hr;refine yz (c:=qC (oq J6 (rD qi (nA (nB 4) nH)) (rC (.int 0)))) (body:=uA) (λS=>∃ks t v5 v6 v7,S=[some (.sh (dM rs)),i0 (s:Int),some (.owd (oh 0 rs)),some (.owd (kd ks)),some (.ow (wd t)),v5,v6,v7]/\Inv rs s ks t) (mu rs.length) (λS'=>∃ks v5 v6 v7,S'=[some (.sh (dM rs)),i0 (s:Int),some (.owd (oh 0 rs)),some (.owd (kd ks)),some (.ow (wd [])),v5,v6,v7]/\Inv rs s ks []) ?_ 100000 _ ⟨[s],[s],none,none,none,rfl,?_⟩ ?_
 .rintro S ⟨ks,t,v5,v6,v7,rfl,hi⟩;rcases List.eq_nil_or_concat t with rfl|⟨t,h,rfl⟩
  .refine⟨false,_,?_,λq=>(nomatch q),λ_=>⟨ks,v5,v6,v7,rfl,hi⟩⟩
   simp_arith [wd]
   rfl
  .rw[List.concat_eq_append]at hi ⊢;have z:h<rs.length:=hi.lt h (hi.sub h (by simp))
   have hr:rs[h]?=some rs[h]:=gEg z;obtain⟨a,M,B,E⟩:=hi.go u hr;have few:=hi.few;have U:=ZC _ _ hi.nd hi.lt;have X:=u.row hr;rw[lAq,lSq]at few;obtain⟨G,H,J⟩:=NK (kvs:=oh 0 rs) (ks:=ks) (ws:=t) (r:=rs[h]) (pl:=plc rs) (v0:=some (.sh (dM rs))) (v1:=i0 (s:Int)) (v5:=i0 (h:Int)) (v6:=v6) (v7:=v7) (λe O=>u.kv (u.other hr O)) (by lia) (by lia)
   rw[M]at J;have hw:wd (t++[h])=wd t++[.sh (.int (h:Int))]:=by simp[wd]
   have Y:(wd t).length=t.length:=by simp[wd]
   have P:(0:Int)<((wd t++[AV.sh (.int (h:Int))]).length:Int):=by
    rw[lAq,lSq];lia
   have Q:(wd t++[AV.sh (.int (h:Int))])[(wd t++[AV.sh (.int (h:Int))]).length-1]?=i0 (h:Int):=by
    rw[lAq,lSq,gYq (by lia)]
    simp
   have R:(wd t++[AV.sh (.int (h:Int))]).dropLast=wd t:=List.dropLast_concat;have I:atI (rs.map dI) (h:Int)=some (dI rs[h]):=vx (by rw[gMq,hr];rfl)
   refine⟨true,[some (.sh (dM rs)),i0 (s:Int),some (.owd (oh 0 rs)),some (.owd (kd ks)),some (.ow (wd t++[.sh (.int (h:Int))])),v5,v6,v7],?_,λ_=>⟨[some (.sh (dM rs)),i0 (s:Int),some (.owd (oh 0 rs)),some (.owd (kd (ks++a))),some (.ow (wd (t++a))),i0 (h:Int),G,H],?_,⟨_,_,_,_,_,rfl,B⟩,?_⟩,λq=>(nomatch q)⟩
   .simp_arith [hw,P]
   .simp_arith [uA,Q,R,dM,I,J]
   .show 2*(rs.length-(kd (ks++a)).length)+(wd (t++a)).length<2*(rs.length-(kd ks).length)+(wd (t++[h])).length;unfold kd wd;rw[lMq,lMq,lMq,lMq];exact E
 .refine⟨by simp,?_,by simp,?_,λw h=>h,?_,?_⟩
  .intro k hk;rw[mSq.mp hk];exact L
  .intro k hk;rw[mSq.mp hk];exact .base
  .intro k hk hn;exact absurd hk hn
  .simp only[lSq];lia
 .show 2*(rs.length-(kd [s]).length)+(wd [s]).length<100000;simp only[kd,wd,lMq,lSq];lia
def KO{rs:Λ}(t:Mp rs){s:Nat}(u:s<rs.length):∃ks,Inv rs s ks []/\tM [dM rs,.int (s:Int)]=some (aI (pZ (ks.map λk:Nat=>(k:Int)))):=by
 obtain⟨H,e,ks,I,J,L,rfl,hi⟩:=LJ t u;have hl:=t.hl;have x:=xT t.hn (by lia)
 have z:[((aH (s:Int):nT),D.bl true)]=kd [s]:=rfl;have B:[AV.sh (.int (s:Int))]=wd [s]:=rfl;have E:yM (kd ks)=some (ks.map λk:Nat=>(k:Int)):=Cg (λk:Nat=>(k:Int)) (λ_=>D.bl true) ks
 have G:(wd [s]).length<=pe:=by show 1<=16777216;decide
 refine⟨ks,hi,?_⟩
 simp_arith [tM,DN,x,z,B,e,E,G]
def VT(ks:Θ):∃ps:Θ,ps.Perm ks/\ps.Pairwise (·<=·)/\pZ (ks.map λk:Nat=>(k:Int))=ps.map λk:Nat=>(k:Int):=by
 have s:=pK (ks.map λk:Nat=>(k:Int))
 have t:=yK (ks.map λk:Nat=>(k:Int))
 have u:(pZ (ks.map λk:Nat=>(k:Int)))=((pZ (ks.map λk:Nat=>(k:Int))).map gK).map λk:Nat=>(k:Int):=by
  rw[mPq]
  conv=>lhs;rw[←de (pZ (ks.map λk:Nat=>(k:Int)))]
  refine mCq λz x=>?_
  obtain⟨k,_,rfl⟩:=mMq.mp (s.mem_iff.mp x);rfl
 refine⟨(pZ (ks.map λk:Nat=>(k:Int))).map gK,?_,?_,u⟩
 .have:=s.map gK;rw[mPq]at this;have e:ks.map (gK∘λk:Nat=>(k:Int))=ks:=by
   conv=>rhs;rw[←de ks]
   refine mCq λk _=>?_
   show gK (k:Int)=k;exact cG k
  rwa [e]at this
 .rw[bo];refine aV.imp (λh=>?_) t
  lia
structure Pc (rs:Λ)(s:Nat)(ps:Θ):Prop where
 nd:ps.Nodup
 so:ps.Pairwise (·<=·)
 lt:∀k∈ps,k<rs.length
 iff:∀k,k∈ps↔ye rs s k
def Av{rs:Λ}(u:Mp rs){s:Nat}(x:s<rs.length):∃ps,Pc rs s ps/\tM [dM rs,.int (s:Int)]=some (aI (ps.map λk:Nat=>(k:Int))):=by
 obtain⟨ks,hi,e⟩:=KO u x;obtain⟨ps,t,z,B⟩:=VT ks;rw[B]at e;refine⟨ps,⟨t.symm.nodup hi.nd,z,λk hk=>hi.lt k (t.mem_iff.mp hk),λk=>⟨λhk=>hi.rc k (t.mem_iff.mp hk),λhk=>t.mem_iff.mpr ?_⟩⟩,e⟩
 induction hk with
 |base=>exact hi.st
 |step _ a b c=>exact hi.cl _ c (cP) _ _ a b
noncomputable def wj(kn:Θ)(t:Nat):Θ:=if t∈kn then kn else kn++[t]
def U0(ks:Θ)(t:Nat):vh (kd ks) (aH (t:Int)) (.bl true)=kd (wj ks t):=by
 unfold wj
 by_cases h:t∈ks
 .rw[oa h];unfold vh;rw[K7,d0 h,oa rfl];unfold kd;rw[mPq];refine mCq λk _=>?_
  show(if _ then _ else _)=_
  split <;> rfl
 .rw[nY h];exact P5 h
def QY(kn:Θ)(t:Nat):(wj kn t).length<=kn.length+1:=by
 unfold wj;split
 .lia
 .simp
theorem Ju:∀(ps kn:Θ),(ps.foldl wj kn).length<=kn.length+ps.length
 | [],kn=>aa _
 |p::ps,kn=>by
  have s:=Ju ps (wj kn p);have t:=QY kn p;rw[cg,lCq];lia
def Qz{kn:Θ}{t k:Nat}:k∈wj kn t↔k∈kn∨k=t:=by
 unfold wj;split
 .rename_i h;exact⟨.inl,λq=>q.elim id λq=>q ▸ h⟩
 .simp
theorem vp:∀{ps kn:Θ}{k:Nat},k∈ps.foldl wj kn↔k∈kn∨k∈ps
 | [],kn,k=>by simp
 |p::ps,kn,k=>by
  rw[cg,vp,Qz,ag,or_assoc]
def T5{kn:Θ}{t:Nat}(h:kn.Nodup):(wj kn t).Nodup:=by
 unfold wj;split
 .exact h
 .rename_i q;rw[nAq];exact⟨h,by simp,λx s y u z=>q (by rw[mSq.mp u]at z;rw[←z];exact s)⟩
theorem MQ:∀{ps kn:Θ},kn.Nodup->(ps.foldl wj kn).Nodup
 | [],kn,h=>h
 |p::ps,kn,h=>by
  rw[cg];exact MQ (T5 h)
def NI{ps kn:Θ}{v0 v2 v3 v4 v5:Option AV}(hk:kn.length+ps.length<500000):∃s,qN 5 vI ((ps.map λk:Nat=>(k:Int)).map D.int) [v0,some (.owd (kd kn)),v2,v3,v4,v5]=some (.nx [v0,some (.owd (kd (ps.foldl wj kn))),v2,v3,v4,s]):=by
 have key:=rp (x:=5) (body:=vI) (λi S=>∃s,S=[v0,some (.owd (kd ((ps.take i).foldl wj kn))),v2,v3,v4,s]) (ds:=(ps.map λk:Nat=>(k:Int)).map D.int) (S:=[v0,some (.owd (kd kn)),v2,v3,v4,v5]) ⟨v5,rfl⟩ (by
  rintro i d S hd ⟨s,rfl⟩;rw[gMq,gMq]at hd;obtain⟨z,B,rfl⟩:=oMq.mp hd;obtain⟨k,t,rfl⟩:=oMq.mp B;have hi:i<ps.length:=(gSq.mp t).1;have E:=Ju (ps.take i) kn;rw[lTq]at E;have G:(kd ((ps.take i).foldl wj kn)).length<pe:=by unfold kd;rw[lMq];show _<16777216;lia
  have H:(ps.take (i+1)).foldl wj kn=wj ((ps.take i).foldl wj kn) k:=by
   have:ps[i]'hi=k:=by rw[gEg hi]at t;exact aL.inj t
   rw[eZ hi,fV,this];rfl
  have u:=U0 ((ps.take i).foldl wj kn) k;rw[←H]at u;refine⟨_,?_,i0 (k:Int),rfl⟩
  simp_arith [vI,G,u])
 obtain⟨I,e,s,rfl⟩:=key;rw[lMq,lMq,aE]at e;exact⟨s,e⟩
def LO{rs:Λ}{ps:Θ}(h:∀k∈ps,k<rs.length):oy oH (CI (lOf (Px (rW 1) (nB 0)))) [some (.sh (dM rs))] ((ps.map λk:Nat=>(k:Int)).map D.int)=some (ps.map λk=>aI (rs.getD k [])):=by
 have key:=oO (te:=CI (lOf (Px (rW 1) (nB 0)))) (cap:=[some (.sh (dM rs))]) (λd=>match d with|.int k=>aI (rs.getD k.toNat [])|_=>.sh .non) (ds:=(ps.map λk:Nat=>(k:Int)).map D.int) (by
  intro d hd;rw[mPq]at hd;obtain⟨k,hk,rfl⟩:=mMq.mp hd;have s:=WA (h k hk);refine⟨[i0 (k:Int),some (.sh (dM rs))],?_⟩
  simp_arith [dM,s,Function.comp,cG,dI,aI,mPq]
  rfl)
 rw[key,mPq,mPq];rfl
def pA(rs:Λ)(ps:Θ):AV:=.ow (ps.map λk=>aI (rs.getD k []))
def ye.trans{rs:Λ}{a b c:Nat}(h:ye rs a b)(s:ye rs b c):ye rs a c:=by
 induction s with
 |base=>exact h
 |step _ p q r=>exact .step r p q
def ye.symm{rs:Λ}(t:Mp rs){a b:Nat}(h:ye rs a b):ye rs b a:=by
 induction h with
 |base=>exact .base
 | @step k r e _ p q u=>
  obtain⟨B,x,z⟩:=t.at (t.other p q);have:=ye.step (s:=plc rs (-e)) .base x z;rw[gH,plc_eq t.hn p q]at this;exact this.trans u
structure Ps (rs:Λ)(i:Nat)(kn:Θ)(PS:List Θ):Prop where
 sub:∀ps∈PS,∀k∈ps,k∈kn
 dj:PS.Pairwise λa b=>∀k∈a,k∉b
 pc:∀ps∈PS,∃s,s<rs.length/\Pc rs s ps
 all:∀k,k<i->k∈kn
 mem:∀k,k∈kn->∃ps∈PS,k∈ps
 nd:kn.Nodup
 lt:∀k∈kn,k<rs.length
 len:PS.length<=i
def pieces_ok{rs:Λ}(L:Mp rs):∃kn PS,Ps rs rs.length kn PS/\A2 [dM rs]=some (.ow (PS.map (pA rs))):=by
 have M:=L.hr;have key:=rp (x:=3) (body:=vw) (λi S=>∃kn PS O I G,S=[some (.sh (dM rs)),some (.owd (kd kn)),some (.ow (PS.map (pA rs))),O,I,G]/\Ps rs i kn PS) (ds:=oK 0 rs.length) (S:=[some (.sh (dM rs)),some (.owd []),some (.ow []),none,none,none])
  ⟨[],[],none,none,none,rfl,⟨by simp,by simp,by simp,by simp,by simp,by simp,by simp,by simp⟩⟩ (by
  rintro i d S hd ⟨kn,PS,O,I,G,rfl,t⟩;have hi:i<rs.length:=by
   have:=(gSq.mp hd).1
   rwa [oT]at this
  rw[vj hi,fA]at hd;cases hd;have J:=Sx kn i
  by_cases c:i∈kn
  .rw[d0 c]at J;refine⟨[some (.sh (dM rs)),some (.owd (kd kn)),some (.ow (PS.map (pA rs))),i0 (i:Int),I,G],?_,kn,PS,_,_,_,rfl,t.sub,t.dj,t.pc,?_,t.mem,t.nd,t.lt,?_⟩
   .simp_arith [vw,J]
   .intro k hk;rcases bX.mp hk with q|rfl
    .exact t.all k q
    .exact c
   .have:=t.len;lia
  .rw[d4 c]at J;obtain⟨u,B,R⟩:=Av L hi;have p1:=ZC _ _ t.nd t.lt;have p2:=ZC _ _ B.nd B.lt;have p3:=t.len;have U:u.length<=pe:=by show _<=16777216;lia
   have X:PS.length<pe:=by show _<16777216;lia
   obtain⟨P,Y⟩:=NI (ps:=u) (kn:=kn) (v0:=some (.sh (dM rs))) (v2:=some (.ow (PS.map (pA rs)))) (v3:=i0 (i:Int)) (v4:=some (.sh (dI (u.map λk:Nat=>(k:Int))))) (v5:=G) (by lia)
   have e3:=LO B.lt;refine⟨[some (.sh (dM rs)),some (.owd (kd (u.foldl wj kn))),some (.ow ((PS++[u]).map (pA rs))),i0 (i:Int),some (.sh (dI (u.map λk:Nat=>(k:Int)))),P],?_,u.foldl wj kn,PS++[u],_,_,_,rfl,?_,?_,?_,?_,?_,MQ t.nd,?_,?_⟩
   .simp_arith [vw,J,R,Y,e3,U,X,mBq,pA]
   .intro z E k hk;rcases mAq.mp E with q|q
    .exact vp.mpr (.inl (t.sub z q k hk))
    .rw[mSq.mp q]at hk;exact vp.mpr (.inr hk)
   .rw[aB];refine⟨t.dj,gA ..,λz E b hb k hk H=>c ?_⟩
    rw[mSq.mp hb]at H;obtain⟨s,hs,Q⟩:=t.pc z E;exact t.sub z E i ((Q.iff i).mpr (((Q.iff k).mp hk).trans (((B.iff k).mp H).symm L)))
   .intro z E;rcases mAq.mp E with q|q
    .exact t.pc z q
    .rw[mSq.mp q];exact⟨i,hi,B⟩
   .intro k hk;rcases bX.mp hk with q|rfl
    .exact vp.mpr (.inl (t.all k q))
    .exact vp.mpr (.inr ((B.iff k).mpr .base))
   .intro k hk;rcases vp.mp hk with q|q
    .obtain⟨z,a,b⟩:=t.mem k q;exact⟨z,mAq.mpr (.inl a),b⟩
    .exact⟨u,mAq.mpr (.inr (mSq.mpr rfl)),q⟩
   .intro k hk;rcases vp.mp hk with q|q
    .exact t.lt k q
    .exact B.lt k q
   .rw[lAq,lSq];lia)
 obtain⟨S',e,kn,PS,O,I,G,rfl,t⟩:=key;rw[oT]at t;have r1:=zc (n:=rs.length) (by lia)
 refine⟨kn,PS,t,?_⟩
 simp_arith [A2,FL,dM,r1,e]
end K51
namespace K23
open PySem L2 Mr Z Xe Zl
noncomputable def Hs(z:Int)(t:Ϝ):Ϝ:=t.filter λe=>!decide (e∈[z, -z])
def C(z:Int)(rs:Λ):Λ:=rs.map (Hs z)
section
variable {rs:Λ}{z:Int}
def Kj:(C z rs).flatten=Hs z rs.flatten:=by
 unfold C Hs;rw[List.filter_flatten]
end
end K23
namespace K51
open PySem L2 Mr Z Xe Zl
noncomputable def rot(r:Ϝ):Ϝ:=r.drop 1++r.take 1
def qe(r:Ϝ):List (nT×Int):=(r.zip (rot r)).map λp=>(.inl p.1,p.2)
def oJ(rs:Λ):List (nT×Int):=(rs.map qe).flatten
noncomputable def xX(ps:List (nT×Int)):List (nT×D):=ps.map λp=>(p.1,D.int p.2)
def AD(r:Ϝ):(rot r).length=r.length:=by
 unfold rot;rw[lAq,ar,lTq];lia
def rot_perm(r:Ϝ):(rot r).Perm r:=by
 unfold rot;refine bz.trans ?_;rw[aM]
def yl(r:Ϝ):(qe r).length=r.length:=by
 unfold qe;rw[lMq,List.length_zip,AD,ij]
def Bb(r:Ϝ):(qe r).map (·.1)=r.map aH:=by
 unfold qe;rw[mPq];have:r.map aH=((r.zip (rot r)).map Prod.fst).map (aH:Int->nT):=by rw[List.map_fst_zip (by rw[AD];exact aa _)]
 rw[this,mPq];rfl
def GJ(r:Ϝ):(qe r).map (·.2)=rot r:=by
 unfold qe;rw[mPq];have:rot r=(r.zip (rot r)).map Prod.snd:=by rw[List.map_snd_zip (by rw[AD];exact aa _)]
 exact this.symm
theorem qS:∀(rs:Λ),(oJ rs).map (·.1)=rs.flatten.map aH
 | []=>rfl
 |r::rs=>by
  show(qe r++oJ rs).map (·.1)=_;rw[mBq,Bb,qS rs,fCq,mBq]
theorem zV:∀(rs:Λ),((oJ rs).map (·.2)).Perm rs.flatten
 | []=>.nil
 |r::rs=>by
  show((qe r++oJ rs).map (·.2)).Perm _;rw[mBq,GJ,fCq];exact(rot_perm r).append (zV rs)
def NL(rs:Λ):(oJ rs).length=rs.flatten.length:=by
 have:=congrArg bV (qS rs)
 rwa [lMq,lMq]at this
def Ey(rs:Λ)(r:Ϝ):oJ (rs++[r])=oJ rs++qe r:=by
 unfold oJ;rw[mBq,fAq];simp
def Wr(ps:List (nT×Int)):(xX ps).length=ps.length:=lMq _
def U5(a b:List (nT×Int)):xX (a++b)=xX a++xX b:=mBq
def QB(ps:List (nT×Int)):(xX ps).map (·.1)=ps.map (·.1):=by
 unfold xX;rw[mPq];rfl
def Lq{r:Ϝ}{j:Nat}{z y:Int}(h:r[j]?=some z)(s:(rot r)[j]?=some y):(qe r)[j]?=some (.inl z,y):=by
 unfold qe;rw[gMq,fS (z:=(z,y)).mpr ⟨h,s⟩];rfl
def JH{rs:Λ}{i j:Nat}{r:Ϝ}{z y:Int}(hn:rs.flatten.Nodup)(hr:rs[i]?=some r)(t:r[j]?=some z)(G:(rot r)[j]?=some y) :
  vh (xX (oJ (rs.take i)++(qe r).take j)) (.inl z) (.int y)=xX (oJ (rs.take i)++(qe r).take (j+1)):=by
 have u:=pI hr;have s:((rs.take i).flatten++r).Nodup:=by
  rw[←u];have H:rs.flatten=(rs.take (i+1)).flatten++(rs.drop (i+1)).flatten:=by rw[←fAq,aM]
  rw[H]at hn;exact(nAq.mp hn).1
 rw[Ay]
 .rw[og (Lq t G),←ak,U5 (_++_) [_]];rfl
 .rw[QB,mBq,qS,gU,Bb,←gU];intro m;rcases mAq.mp m with m|m
  .obtain⟨x,B,E⟩:=mMq.mp m;cases E;exact(nAq.mp s).2.2 _ B _ (mGq t) rfl
  .obtain⟨x,B,E⟩:=mMq.mp m;cases E;have:=aV.sublist (aT (j+1) r) (nAq.mp s).2.1;rw[og t]at this;exact(nAq.mp this).2.2 _ B _ (by simp) rfl
def Gj{rs:Λ}{i j:Nat}{r:Ϝ}(hl:rs.flatten.length<=1000)(hr:rs[i]?=some r):(xX (oJ (rs.take i)++(qe r).take j)).length<pe:=by
 refine zY ?_;have s:=qD rs (i+1);rw[pI hr,lAq]at s;rw[Wr,lAq,NL,lTq,yl];lia
def aci(r:Ϝ):zr (r.map D.int) (some 1) none=(r.drop 1).map D.int:=by
 rw[wV];cases r with
 |nil=>rfl
 |cons x r=>rw[show(some 1:Option Int)=some ((1:Nat):Int)from rfl,zf _ _ (by simp)]
def abX(r:Ϝ):zr (r.map D.int) none (some 1)=(r.take 1).map D.int:=by
 rw[wV];cases r with
 |nil=>rfl
 |cons x r=>rw[show(some 1:Option Int)=some ((1:Nat):Int)from rfl,Dm _ _ (by simp)]
def PB{rs:Λ}(hn:rs.flatten.Nodup)(hl:rs.flatten.length<=1000):Dh [dM rs]=some (.owd (xX (oJ rs))):=by
 have key:=rp (x:=2) (body:=zX) (λi S=>∃H s t,S=[some (.sh (dM rs)),some (.owd (xX (oJ (rs.take i)))),H,s,t]) (ds:=rs.map dI) (S:=[some (.sh (dM rs)),some (.owd []),none,none,none]) ⟨none,none,none,rfl⟩ (by
  rintro i d S hd ⟨H,s,t,rfl⟩;obtain⟨r,hr,rfl⟩:=xi hd;have L:r.length<=1000:=by
   have M:=qD rs (i+1);rw[pI hr,lAq]at M;lia
  have B:(r.map D.int).length=((rot r).map D.int).length:=by rw[lMq,lMq,AD]
  have O:=WC (x:=3) (y:=4) (k:=0) (body:=zU) (λj S=>∃s t,S=[some (.sh (dM rs)),some (.owd (xX (oJ (rs.take i)++(qe r).take j))),some (.sh (dI r)),s,t]) (ds:=r.map D.int) (es:=(rot r).map D.int) (S:=[some (.sh (dM rs)),some (.owd (xX (oJ (rs.take i)))),some (.sh (dI r)),s,t]) B ⟨s,t,by simp⟩ (by
   rintro j d e S hd P ⟨s,t,rfl⟩;obtain⟨z,Q,rfl⟩:=uM hd;obtain⟨y,R,rfl⟩:=uM P;rw[aQ]at *;have U:=Gj (j:=j) hl hr;have E:=JH hn hr Q R;refine⟨_,?_,i0 z,i0 y,rfl⟩
   simp_arith [zU,U,E])
  obtain⟨S2,J,X,Y,rfl⟩:=O;rw[aQ,lMq,←yl,aE]at J;refine⟨_,?_,some (.sh (dI r)),X,Y,rfl⟩;rw[og hr,Ey];have I:(r.drop 1).length+(r.take 1).length<=pe:=oM (by rw[ar,lTq];lia)
  have G:(r.drop 1).map D.int++(r.take 1).map D.int=(rot r).map D.int:=by unfold rot;rw[mBq]
  have u:r.length=(rot r).length:=(AD r).symm
  simp_arith [zX,aci,abX,I,G,u,J])
 obtain⟨S',e,H,s,t,rfl⟩:=key;rw[lMq,aE]at e
 simp_arith [Dh,HR,e]
end K51
namespace K15
open PySem L2 Mr Z Xe Zl
def EC{ps:List (nT×Int)}{k:nT}{n:Int}(hn:(ps.map (·.1)).Nodup)(h:(k,n)∈ps):Z.getD (K51.xX ps) k=some (.int n):=by
 induction ps with
 |nil=>cases h
 |cons p ps s=>
  rw[ai,aw]at hn;unfold Z.getD;show(((p.1,D.int p.2)::K51.xX ps).find? _).map _=_;rcases ag.mp h with e|e
  .rw[←e,bh (by simp)]
   rfl
  .rw[aW (by
    intro z;have t:p.1=k:=by simpa using z
    exact hn.1 (by rw[t];exact mMq.mpr ⟨_,e,rfl⟩))]
   exact s hn.2 e
def RB{ps:List (nT×Int)}{k t:nT}{n:Int}(hn:(ps.map (·.2)).Nodup)(h:(k,n)∈ps)(h':(t,n)∈ps):k=t:=by
 induction ps with
 |nil=>cases h
 |cons p ps u=>
  rw[ai,aw]at hn;rcases ag.mp h with e|e
  .rcases ag.mp h' with s|s
   .rw[←e]at s;exact(congrArg Prod.fst s).symm
   .exact absurd (mMq.mpr ⟨_,s,by rw[←e]⟩) hn.1
  .rcases ag.mp h' with s|s
   .exact absurd (mMq.mpr ⟨_,e,by rw[←s]⟩) hn.1
   .exact u hn.2 e s
def nx(rs:Λ)(e:Int):Int:=match Z.getD (K51.xX (K51.oJ rs)) (.inl e)with
 |some (.int n)=>n
 |_=>0
def fw(rs:Λ)(e:Int):Int:=nx rs (-e)
section
variable {rs:Λ}
def Mx(hn:rs.flatten.Nodup):((K51.oJ rs).map (·.1)).Nodup:=by
 rw[K51.qS,aX,bo];exact aV.imp (λh e=>h (aH.inj e)) (aX.mp hn)
def CV(hn:rs.flatten.Nodup){e:Int}(t:e∈rs.flatten):(aH e,nx rs e)∈K51.oJ rs:=by
 have hk:(aH e:nT)∈(K51.oJ rs).map (·.1):=by rw[K51.qS];exact mMq.mpr ⟨e,t,rfl⟩
 obtain⟨⟨k,n⟩,s,rfl⟩:=mMq.mp hk;have:=EC (Mx hn) s;unfold nx;rw[this];exact s
def Ed(hn:rs.flatten.Nodup){e:Int}(s:e∈rs.flatten):Z.getD (K51.xX (K51.oJ rs)) (.inl e)=some (.int (nx rs e)):=EC (Mx hn) (CV hn s)
def XX(hn:rs.flatten.Nodup){e:Int}(s:e∈rs.flatten):nx rs e∈rs.flatten:=(K51.zV rs).mem_iff.mp (mMq.mpr ⟨_,CV hn s,rfl⟩)
def Zj(hn:rs.flatten.Nodup){a b:Int}(ha:a∈rs.flatten)(hb:b∈rs.flatten)(h:nx rs a=nx rs b):a=b:=by
 have s:=CV hn ha;have t:=CV hn hb;rw[h]at s;exact aH.inj (RB ((K51.zV rs).symm.nodup hn) s t)
def yt(s:Mp rs):Pt (fw rs) rs.flatten:=⟨s.hn,λe t=>XX s.hn (s.hneg e t),λa ha b hb h=>by
 have:=Zj s.hn (s.hneg a ha) (s.hneg b hb) h;lia⟩
def stp(rs:Λ)(E:Ϝ):List (nT×D):=E.map λe=>(aH e,.int (fw rs e))
def Ug(hn:rs.flatten.Nodup){e:Int}(s:e∈rs.flatten):Z.getD (stp rs rs.flatten) (.inl e)=some (.int (fw rs e)):=by
 have h:=EC (ps:=rs.flatten.map λe=>(aH e,fw rs e)) (k:=.inl e) (n:=fw rs e) (by
  rw[mPq,aX,bo];exact aV.imp (λh e=>h (aH.inj e)) (aX.mp hn)) (mMq.mpr ⟨e,s,rfl⟩)
 unfold K51.xX at h;rw[mPq]at h;exact h
def QO(rs:Λ):(K51.xX (K51.oJ rs)).map (λp=>kD p.1)=rs.flatten.map D.int:=by
 have:(K51.xX (K51.oJ rs)).map (λp=>kD p.1)=((K51.oJ rs).map (·.1)).map kD:=by
  unfold K51.xX;rw[mPq,mPq];rfl
 rw[this,K51.qS,mPq];rfl
def LR(s:Mp rs):zj [dM rs]=some (.owd (stp rs rs.flatten)):=by
 have nk:=K51.PB s.hn s.hl;have hl:=s.hl;have key:=rp (x:=3) (body:=xS) (λi S=>∃u,S=[some (.sh (dM rs)),some (.sh (.fd (K51.xX (K51.oJ rs)))),some (.owd (stp rs (rs.flatten.take i))),u]) (ds:=rs.flatten.map D.int) (S:=[some (.sh (dM rs)),some (.sh (.fd (K51.xX (K51.oJ rs)))),some (.owd []),none]) ⟨none,rfl⟩ (by
  rintro i d S hd ⟨u,rfl⟩;rw[gMq]at hd;obtain⟨e,t,rfl⟩:=oMq.mp hd;have hi:=(gSq.mp t).1;have z:=mGq t;have G:=Ed s.hn (s.hneg e z);have H:(stp rs (rs.flatten.take i)).length<pe:=by unfold stp;rw[lMq,lTq];show _<16777216;lia
  have B:vh (stp rs (rs.flatten.take i)) (.inl e) (.int (nx rs (-e)))=stp rs (rs.flatten.take (i+1)):=by
   rw[Ay]
   .unfold stp;rw[og t,mBq];rfl
   .intro m;obtain⟨p,B,I⟩:=mMq.mp m;obtain⟨x,J,rfl⟩:=mMq.mp B;have L:x=e:=aH.inj I;subst L;have:=aV.sublist (aT (i+1) rs.flatten) s.hn;rw[og t]at this;exact(nAq.mp this).2.2 x J x (by simp) rfl
  refine⟨_,?_,i0 e,rfl⟩
  simp_arith [xS,G,H,B])
 obtain⟨O,e,u,rfl⟩:=key;rw[lMq,aE]at e;have M:=QO rs;have E:((3:Nat)≠1)=True:=by simp
 simp_arith [zj,Dr,nk,E,M,e]
noncomputable def mu(N:Nat):AS->Nat
 | [_,_,some (.ow l),_]=>N+1-l.length
 |_=>0
def UG(f:Int->Int)(e:Int)(n:Nat):((aU n).map λk=>itr f k e)++[itr f n e]=(aU (n+1)).map λk=>itr f k e:=by rw[List.range_succ,mBq];rfl
def VZ(u:Mp rs){e:Int}(E:e∈rs.flatten):∃l,Cy (fw rs) e l/\l.length<=rs.flatten.length/\ux [.dict (stp rs rs.flatten),.int e]=some (aI l):=by
 have one:=yt u;obtain⟨l,cy,x,s⟩:=one.cy E;have hl:=u.hl;refine⟨l,cy,x,?_⟩;have t:∀n,Z.getD (stp rs rs.flatten) (.inl (itr (fw rs) n e))=some (.int (itr (fw rs) (n+1) e)):=λn=>Ug u.hn (one.itr_mem E n)
 have key:=yz (c:=qC (oq W4 (nB 3) (nB 1))) (body:=um) (λS=>∃n,1<=n/\n<=l.length/\S=[some (.sh (.dict (stp rs rs.flatten))),i0 e,some (aI ((aU n).map λk=>itr (fw rs) k e)),i0 (itr (fw rs) n e)]) (mu l.length) (λS=>∃G,S=[some (.sh (.dict (stp rs rs.flatten))),i0 e,some (aI l),G]) (by
  rintro S ⟨n,Q,R,rfl⟩
  by_cases hn:n<l.length
  .have z:¬ itr (fw rs) n e=e:=s n (by lia) hn
   have H:=t n;have I:n<pe:=by show _<16777216;lia
   have J:((aU n).map λk=>itr (fw rs) k e).map (λn=>AV.sh (.int n))++[.sh (.int (itr (fw rs) n e))]=((aU (n+1)).map λk=>itr (fw rs) k e).map λn=>.sh (.int n):=by rw[←UG,mBq];rfl
   refine⟨true,[some (.sh (.dict (stp rs rs.flatten))),i0 e,some (aI ((aU n).map λk=>itr (fw rs) k e)),i0 (itr (fw rs) n e)],?_,λ_=>⟨[some (.sh (.dict (stp rs rs.flatten))),i0 e,some (aI ((aU (n+1)).map λk=>itr (fw rs) k e)),i0 (itr (fw rs) (n+1) e)],?_,⟨n+1,by lia,by lia,rfl⟩,?_⟩,λq=>(nomatch q)⟩
   .simp_arith [z]
   .simp_arith [um,aO,I,J,H]
   .show l.length+1-_<l.length+1-_;simp only[lMq,aO];lia
  .have L:n=l.length:=by lia
   subst L;have hb:=cy.back;have M:=cy.get;refine⟨false,[some (.sh (.dict (stp rs rs.flatten))),i0 e,some (aI ((aU l.length).map λk=>itr (fw rs) k e)),i0 (itr (fw rs) l.length e)],?_,λq=>(nomatch q),λ_=>⟨i0 (itr (fw rs) l.length e),by rw[←M]⟩⟩
   simp_arith [hb])
 have O:=t 0;have U:[AV.sh (.int e)]=((aU 1).map λk=>itr (fw rs) k e).map λn=>.sh (.int n):=rfl
 obtain⟨X,P,G,rfl⟩:=key 100000 [some (.sh (.dict (stp rs rs.flatten))),i0 e,some (.ow [.sh (.int e)]),i0 (itr (fw rs) (0+1) e)] ⟨1,aa _,cy.len,rfl⟩ (by
  show l.length+1-1<100000;lia)
 have B:Z.getD (stp rs rs.flatten) (.inl e)=some (.int (itr (fw rs) (0+1) e)):=O
 simp_arith [ux,zC,B,P]
end
def kI(ks:Ϝ):List (nT×D):=ks.map λk=>((aH k:nT),D.bl true)
def Sr(ks:Ϝ)(t:Int):(kI ks).any (λkv=>decide (kv.1=(aH t:nT)))=decide (t∈ks):=by
 induction ks with
 |nil=>simp[kI]
 |cons k ks s=>
  unfold kI at s ⊢;rw[ai,cX,s]
  by_cases h:t=k
  .subst h;simp
  .have u:¬ (aH k:nT)=aH t:=λq=>h (aH.inj q).symm
   simp[u,h]
def DP(ks:Ϝ)(t:Int):(Z.getD (kI ks) (aH t)).isSome=decide (t∈ks):=by
 unfold Z.getD;rw[dA,←Sr,cF,ir,cR]
def Hr{ks:Ϝ}{t:Int}(h:t∉ks):vh (kI ks) (aH t) (.bl true)=kI (ks++[t]):=by
 unfold vh;rw[Sr,d4 h,nY (by simp)]
 simp[kI]
def Ht(ks:Ϝ):(kI ks).length=ks.length:=by unfold kI;rw[lMq]
section
variable {rs:Λ}
structure Rd (f:Int->Int)(E:Ϝ)(kn:Ϝ)(L:Λ):Prop where
 cy:∀l∈L,∃e,Cy f e l
 fl:L.flatten=kn
 nd:kn.Nodup
 sub:∀x∈kn,x∈E
 cl:∀x∈kn,f x∈kn
theorem Rd.itr{f:Int->Int}{E kn:Ϝ}{L:Λ}(h:Rd f E kn L){x:Int}(s:x∈kn):∀n,itr f n x∈kn
 |0=>s
 |n+1=>h.cl _ (h.itr s n)
def Rd.out{f:Int->Int}{E kn:Ϝ}{L:Λ}(h:Rd f E kn L){e:Int}{l:Ϝ}(c:Cy f e l)(u:e∉kn):∀x∈l,x∉kn:=by
 intro x z hk;obtain⟨j,s⟩:=bb.mp z;have t:=(gSq.mp s).1;rw[c.at t]at s;have B:=aL.inj s;subst B;have:=h.itr hk (l.length-j);rw[←xN,show l.length-j+j=l.length by lia,c.back]at this
 exact u this
def Rd.add{f:Int->Int}{E kn:Ϝ}{L:Λ}(G:Pt f E)(h:Rd f E kn L){e:Int}{l:Ϝ}(c:Cy f e l)(s:e∈E)(H:e∉kn):Rd f E (kn++l) (L++[l]):=by
 have I:=h.out c H;refine⟨λm J=>?_,by rw[fAq,h.fl,dr],?_,λx t=>?_,λx t=>?_⟩
 .rcases mAq.mp J with q|q
  .exact h.cy m q
  .rw[mSq.mp q];exact⟨e,c⟩
 .rw[nAq];exact⟨h.nd,c.nd,λa ha b hb q=>I b hb (q ▸ ha)⟩
 .rcases mAq.mp t with q|q
  .exact h.sub x q
  .rw[c.get]at q;obtain⟨n,_,rfl⟩:=mMq.mp q;exact G.itr_mem s n
 .rcases mAq.mp t with q|q
  .exact mAq.mpr (.inl (h.cl x q))
  .refine mAq.mpr (.inr ?_);obtain⟨j,u⟩:=bb.mp q;have z:=(gSq.mp u).1;rw[c.at z]at u;rw[←aL.inj u];show Zl.itr f (j+1) e∈l
   by_cases B:j+1<l.length
   .exact mGq (c.at B)
   .rw[show j+1=l.length by lia,c.back]
    exact c.self
def Rd.orb{f:Int->Int}{E kn:Ϝ}{L:Λ}(h:Rd f E kn L)(s:∀x∈E,x∈kn):Mn f E L:=⟨h.cy,by rw[h.fl];exact h.nd,λx=>by rw[h.fl];exact⟨h.sub x,s x⟩⟩
noncomputable def tW(rs:Λ):Λ:=(rs.filter λr=>decide (r=[])).map λ_=>[]
def Ds(rs:Λ):oy (qC (oq Ax (rD qi (nA (nB 0) nH)) (rC (.int 0)))) (rq nZ) [] (rs.map dI)=some ((tW rs).map aI):=by
 rw[Z.qT (λd=>decide (Aj d=[])) (λ_=>.ow [])]
 .unfold tW;rw[dw,mPq,mPq];have:(λd=>decide (Aj d=[]))∘dI=λr=>decide (r=[]):=by funext r;show decide (Aj (dI r)=[])=_;rw[rK]
  rw[this];rfl
 .intro d hd;obtain⟨r,hr,rfl⟩:=Ap hd;rw[rK];refine⟨[some (.sh (dI r))],?_,λ_=>⟨[some (.sh (dI r))],?_⟩⟩
  .by_cases h:r=[]
   .subst h;have z:((0:Nat):Int)=0:=rfl
    simp_arith [dI,z]
   .have s:¬ ((r.length:Nat):Int)=0:=λq=>h (aZ.mp (by lia))
    simp_arith [dI,s,h]
  .simp_arith []
def NH{kn l:Ϝ}{v0 v1 v3 v4 v5 v6:Option AV}(hn:(kn++l).Nodup)(hl:kn.length+l.length<500000):∃s,qN 6 xA (l.map D.int) [v0,v1,some (.owd (kI kn)),v3,v4,v5,v6]=some (.nx [v0,v1,some (.owd (kI (kn++l))),v3,v4,v5,s]):=by
 have key:=rp (x:=6) (body:=xA) (λi S=>∃s,S=[v0,v1,some (.owd (kI (kn++l.take i))),v3,v4,v5,s]) (ds:=l.map D.int) (S:=[v0,v1,some (.owd (kI kn)),v3,v4,v5,v6]) ⟨v6,by simp⟩ (by
  rintro i d S hd ⟨s,rfl⟩;rw[gMq]at hd;obtain⟨e,u,rfl⟩:=oMq.mp hd;have hi:=(gSq.mp u).1;have t:e∉kn++l.take i:=λm=>by
   have z:(kn++l.take (i+1)).Nodup:=aV.sublist (dG.append (dG.refl kn) (aT (i+1) l)) hn;rw[og u,←ak]at z;exact(nAq.mp z).2.2 e m e (by simp) rfl
  have B:=Hr t;rw[ak,←og u]at B;have E:(kI (kn++l.take i)).length<pe:=by rw[Ht,lAq,lTq];show _<16777216;lia
  refine⟨_,?_,i0 e,rfl⟩
  simp_arith [xA,E,B])
 obtain⟨G,e,s,rfl⟩:=key;rw[lMq,aE]at e;exact⟨s,e⟩
def fnd(B L:Λ):AV:=.ow (B.map aI++L.map λl=>.sh (dI l))
def KH(I:Mp rs):∃v1 v2 v4 v5 v6 L,qN 4 uT ((pZ rs.flatten).map D.int) [some (.sh (dM rs)),some (.owd (stp rs rs.flatten)),some (.owd []),some (fnd (tW rs) []),none,none,none]=some (.nx [some (.sh (dM rs)),v1,v2,some (fnd (tW rs) L),v4,v5,v6])/\Mn (fw rs) rs.flatten L:=by
 have one:=yt I;have hl:=I.hl;have O:=I.hr;have P:=pK rs.flatten;have key:=rp (x:=4) (body:=uT) (λi S=>∃t L v1 v4 v5 v6,S=[some (.sh (dM rs)),some v1,some (.owd (kI t)),some (fnd (tW rs) L),v4,v5,v6]/\nK v1 = .dict (stp rs rs.flatten)/\(∀x,v1=x->(x = .owd (stp rs rs.flatten)∨x = .sh (.dict (stp rs rs.flatten))))/\Rd (fw rs) rs.flatten t L/\L.length<=i/\∀j x,j<i->(pZ rs.flatten)[j]?=some x->x∈t) (ds:=(pZ rs.flatten).map D.int) (S:=[some (.sh (dM rs)),some (.owd (stp rs rs.flatten)),some (.owd []),some (fnd (tW rs) []),none,none,none]) ⟨[],[],.owd (stp rs rs.flatten),none,none,none,rfl,rfl,λx h=>.inl h.symm,⟨by simp,rfl,bp,by simp,by simp⟩,aa _,λj x h=>absurd h (bW _)⟩ (by
  rintro i d S hd ⟨t,L,v1,v4,v5,v6,rfl,B,E,hr,X,s⟩;rw[gMq]at hd;obtain⟨e,J,rfl⟩:=oMq.mp hd;have Q:=(gSq.mp J).1;rw[P.length_eq]at Q;have G:e∈rs.flatten:=P.mem_iff.mp (mGq J);have M:=DP t e
  by_cases c:e∈t
  .rw[d0 c]at M;refine⟨[some (.sh (dM rs)),some v1,some (.owd (kI t)),some (fnd (tW rs) L),i0 e,v5,v6],?_,t,L,v1,_,_,_,rfl,B,E,hr,by lia,λj x z u=>?_⟩
   .simp_arith [uT,M]
   .rcases bX.mp z with q|rfl
    .exact s j x q u
    .rw[J]at u;cases u;exact c
  .rw[d4 c]at M;obtain⟨l,cy,Y,eg⟩:=VZ I G;have H:=hr.add one cy G c;have knl:=UB _ _ hr.nd hr.sub;obtain⟨R,U⟩:=NH (kn:=t) (l:=l) (v0:=some (.sh (dM rs))) (v1:=some (.sh (.dict (stp rs rs.flatten)))) (v3:=some (fnd (tW rs) L)) (v4:=i0 e) (v5:=some (.sh (dI l))) (v6:=v6) H.nd (by lia)
   have sl:=pD l;have lb:(tW rs).length<=rs.length:=by unfold tW;rw[lMq];exact bH _ _
   have l1:((tW rs).map aI++L.map λl=>AV.sh (dI l)).length<pe:=by rw[lAq,lMq,lMq];show _<16777216;lia
   have ea:((tW rs).map aI++L.map λl=>AV.sh (dI l))++[.sh (dI l)]=(tW rs).map aI++(L++[l]).map λl=>.sh (dI l):=by rw[ak,mBq];rfl
   refine⟨[some (.sh (dM rs)),some (.sh (.dict (stp rs rs.flatten))),some (.owd (kI (t++l))),some (fnd (tW rs) (L++[l])),i0 e,some (.sh (dI l)),R],?_,t++l,L++[l],.sh (.dict (stp rs rs.flatten)),_,_,_,rfl,rfl,λx h=>.inr h.symm,H,by rw[lAq,lSq];lia,λj x z u=>?_⟩
   .unfold fnd at U ⊢
    simp_arith [uT,M,B,eg,sl,U,l1,ea]
   .rcases bX.mp z with q|rfl
    .exact mAq.mpr (.inl (s j x q u))
    .rw[J]at u;cases u;exact mAq.mpr (.inr cy.self))
 obtain⟨S',e,t,L,v1,v4,v5,v6,rfl,_,_,hr,_,s⟩:=key;refine⟨_,_,_,_,_,L,e,hr.orb λx u=>?_⟩
 obtain⟨j,z⟩:=bb.mp (P.mem_iff.mpr u);exact s j x (by rw[lMq];exact(gSq.mp z).1) z
def DX(rs:Λ):(tW rs).length<=rs.length:=by unfold tW;rw[lMq];exact bH _ _
def BG(B L:Λ):nK (fnd B L)=dM (B++L):=by
 unfold fnd;rw[qm,mBq,mPq,mPq];show D.list _=D.list ((B++L).map dI);rw[mBq];congr 2
 .exact mCq λr _=>pD r
def Df(t:Mp rs){L:Λ}(h:Mn (fw rs) rs.flatten L):(∀l∈L,l.length<=1000)/\L.length<=1000:=by
 have p:L.flatten.Perm rs.flatten:=(cU h.dj t.hn).mpr h.all;have hl:=t.hl;refine⟨λl s=>?_,?_⟩
 .have:=dG.length_le (bE s);rw[p.length_eq]at this;lia
 .have:∀{L:Λ},(∀l∈L,1<=l.length)->L.length<=L.flatten.length:=λ{L} h=>by
   induction L with
   |nil=>exact aa _
   |cons a L u=>
    have x:=h a (ax ..);have z:=u λl hl=>h l (mCo _ hl)
    rw[lCq,fCq,lAq];lia
  have:=this (L:=L) λl hl=>by obtain⟨e,c⟩:=h.cy l hl;exact c.len
  rw[p.length_eq]at this;lia
def Dz(s:Mp rs):∃L,Mn (fw rs) rs.flatten L/\vS [dM rs]=some (.ow ((zH ((tW rs++L).map good)).map aI)):=by
 obtain⟨M,O,P,Q,R,L,e,u⟩:=KH s;have hl:=s.hl;have t:=s.hr;have ow:=LR s;have z:=Ds rs;have B:=MB (rs:=rs) (by lia)
 have E:rs.length<=pe:=by show _<=16777216;lia
 have G:AV.ow ((tW rs).map aI)=fnd (tW rs) []:=by unfold fnd;rw[cj,aNq]
 have st:=BG (tW rs) L;obtain⟨H,S⟩:=Df s u;have bl:=DX rs;have I:=wQ (rs:=tW rs++L) (λr hr=>by
  rcases mAq.mp hr with q|q
  .unfold tW at q;obtain⟨x,_,rfl⟩:=mMq.mp q;exact aJ _
  .have:=H r q;lia) (by rw[lAq];show _<=16777216;lia)
 refine⟨L,u,?_⟩;have J:=pD (pZ rs.flatten)
 simp_arith [vS,JM,ow,dM,z,E,G,B,J,dI,e,st,I]
end
section
variable {rs:Λ}
def RF{r:Ϝ}{j:Nat}(s:j<r.length):(K51.rot r)[j]?=r[(j+1) % r.length]?:=by
 unfold K51.rot
 by_cases h:j+1<r.length
 .rw[Nat.mod_eq_of_lt h,gZq (by rw[ar];lia),cz,eC]
 .have e:j+1=r.length:=by lia
  rw[e,Nat.mod_self,gYq (by rw[ar];lia),ar,cY (by lia)]
  congr 1;lia
end
end K15
namespace K16
open PySem L2 Mr Z Xe Zl
noncomputable def pm(l:Ϝ):Ϝ:=l.flatMap λx=>[x, -x]
noncomputable def kvI(M:List (Int×Int)):List (nT×D):=M.map λp=>(.inl p.1,.int p.2)
end K16
namespace K25
open PySem L2 Mr Z Xe Zl K15 K16
section
variable {rs:Λ}
def Rt(rs:Λ)(x:Int)(w:Ϝ):Prop:=∃u v,u++x::v∈rs/\w=v++u
noncomputable def pz(z e:Int):Bool:=!decide (e∈[z, -z])
def trg(z:Int)(f:Int->Int)(x:Int):Int:=if pz z (f x)=true then f x else if pz z (f (-f x))=true then f (-f x)else f (-f (-f x))
structure Due (rs:Λ)(z:Int)(D:Λ):Prop where
 nd:D.flatten.Nodup
 mem:∀x,x∈D.flatten↔x∈rs.flatten/\pz z x=true
 on:∀x∈D.flatten,nx D x=trg z (nx rs) x
 br:bare D=bare rs+((if nx rs (-z)=z then 1 else 0)+(if nx rs z = -z then 1 else 0)+(if nx rs (-z) = -z/\nx rs z=z then 1 else 0))
 len:D.length<=rs.length+2
end
end K25
namespace K43
open PySem L2 Mr Z Xe Zl
open K51 (ye Ps Pc)
section
variable {rs A B:Λ}
noncomputable def Pu(h:Mp rs):K51.Mp rs:=⟨h.hn,h.hl,h.hr,h.hneg⟩
structure Ind (rs:Λ)(l:Θ):Prop where
 lt:∀k∈l,k<rs.length
 pw:l.Pairwise λa b=>¬ ye rs a b
def Ind.nd{l:Θ}(h:Ind rs l):l.Nodup:=by
 rw[aX];exact h.pw.imp (λ{a b} n (e:a=b)=>n (e ▸ (.base:ye rs a a)))
def Yh{ps:Θ}(h:ps≠[]):ps.headD 0∈ps:=by
 cases ps with
 |nil=>exact absurd rfl h
 |cons a ps=>exact ax ..
def Ll(G:Mp rs){kn:Θ}{PS:List Θ}(x:Ps rs rs.length kn PS):∃l,Ind rs l/\l.length=PS.length/\∀k,k<rs.length->∃r∈l,ye rs k r:=by
 have u:∀t∈PS,t.headD 0∈t:=λt h=>Yh λe=>by
  obtain⟨s,_,pc⟩:=x.pc t h;have:=(pc.iff s).mpr .base;rw[e]at this;cases this
 have cls:∀t∈PS,∀a∈t,∀b,ye rs a b->b∈t:=λt h a ha b z=>by
  obtain⟨s,_,pc⟩:=x.pc t h;exact(pc.iff b).mpr (((pc.iff a).mp ha).trans z)
 refine⟨PS.map λt=>t.headD 0,⟨λk hk=>?_,?_⟩,lMq _,λk hk=>?_⟩
 .obtain⟨t,h,rfl⟩:=mMq.mp hk;exact x.lt _ (x.sub t h _ (u t h))
 .rw[bo];refine aV.imp_of_mem (λ{a b} ha hb d r=>?_) x.dj
  exact d _ (cls a ha _ (u a ha) _ r) (u b hb)
 .obtain⟨t,E,H⟩:=x.mem k (x.all k hk);refine⟨_,mMq.mpr ⟨t,E,rfl⟩,?_⟩;obtain⟨s,_,pc⟩:=x.pc t E;exact(K51.ye.symm (Pu G) ((pc.iff k).mp H)).trans ((pc.iff _).mp (u t E))
section
variable {M:Λ}{z:Int}
def VB{r:Ϝ}{e:Int}:e∈K23.Hs z r↔e∈r/\e≠z/\e ≠ -z:=by
 unfold K23.Hs;rw[cE];simp
def Wy{e:Int}:e∈(K23.C z M).flatten↔e∈M.flatten/\e≠z/\e ≠ -z:=by
 rw[K23.Kj];exact VB
def abY(s:Mp M):Mp (K23.C z M):=by
 have u:(K23.C z M).flatten.length<=M.flatten.length:=by rw[K23.Kj];exact bH _ _
 refine⟨by rw[K23.Kj];exact aV.sublist List.filter_sublist s.hn,by have:=s.hl;lia,by unfold K23.C;rw[lMq];exact s.hr,λe t=>?_⟩
 have h:=Wy.mp t;exact Wy.mpr ⟨s.hneg e h.1,by lia,by lia⟩
def aaD:(K23.C z M).length=M.length:=by unfold K23.C;rw[lMq]
end
def emp(B:Λ):Θ:=(aU B.length).filter λk=>decide (B.getD k []=[])
end
end K43
namespace K11
open PySem L2 Mr Z Xe Zl K12
def UQ(p:Λ):Prop:=∀k,0<k->k<p.length->∃j e,j<k/\e∈p.getD j []/\-e∈p.getD k []
structure Cn (p:Λ):Prop where
 ne:p≠[]
 clo:∀z∈p.flatten, -z∈p.flatten
 tr:UQ p
end K11
namespace K31
open PySem L2 Mr Z Xe Zl K12
structure Wd where
 T:Λ
 t0:Θ
 h:Nat
 loose:Ϝ
 left:Ϝ
def atL(s:Bool)(c:Int)(loose:Ϝ):Nat:=if s then (c / 8 % loose.length).toNat else loose.length-1
def sg(c x:Int):Int:=x*(1-2*(c / 4 % 2))
def ac8(s:Bool)(w:Wd)(c:Int):Wd:=
 let r:=w.T.getD w.h []
 if c % 4=1/\w.t0≠[]then { w with t0:=w.t0.dropLast,h:=w.t0.getLast?.getD 0 }
 else if c % 4=2/\w.loose≠[]then { w with T:=w.T.set w.h (r++[w.loose.getD (atL s c w.loose) 0]),loose:=w.loose.eraseIdx (atL s c w.loose) }
 else match w.left with
  | []=>w
  |x::left=>if c % 4=0 then { w with T:=w.T.set w.h (r++[sg c x])++[[-(sg c x)]],t0:=w.t0++[w.h],h:=w.T.length,left:=left }
   else { w with T:=w.T.set w.h (r++[sg c x]),loose:=w.loose++[-(sg c x)],left:=left }
def st(v0 v1:Option AV)(s:Bool)(w:Wd)(v7 u x t:Option AV):AS:=[v0,v1,i4 s,some (.ow (w.T.map aI)),some (aI (cN (w.t0++[w.h]))),some (aI w.loose),some (aI w.left),v7,u,x,t]
noncomputable def bth(l:Ϝ):Ϝ:=l.flatMap λx=>[x, -x]
structure WOk (nm:Ϝ)(w:Wd)(n:Nat):Prop where
 hh:w.h<w.T.length
 ht:∀k∈w.t0,k<w.T.length
 lw:w.t0.length<=n
 lT:w.T.length<=n+1
 lf:w.left.length<=nm.length
 cnt:∀a,w.T.flatten.count a+w.loose.count a+(bth w.left).count a=(bth nm).count a
 tr:K11.UQ w.T
noncomputable def w0(nm:Ϝ):Wd:=⟨[[]],[],0,[],nm⟩
end K31
namespace K31
open PySem L2 Mr Z Xe Zl
structure Nm (nm:Ϝ):Prop where
 len:nm.length<=100
 nd:nm.Nodup
 lo:∀x∈nm,1<=x
structure Wm (nm:Ϝ)(T:Λ):Prop where
 cnt:∃left,∀a,T.flatten.count a+(bth left).count a=(bth nm).count a
 tr:K11.UQ T
 pos:0<T.length
 len:T.length<=64
end K31
namespace K31
open PySem L2 Mr Z Xe Zl
open K12 (nmk)
def nmN(st sh a b:Int)(n:Nat):Ϝ:=(aU n).map λk:Nat=>nmk st sh a b k
end K31
namespace K43
open PySem L2 Mr Z Xe Zl
open K51 (ye Ps Pc)
section
variable {M:Λ}{z:Int}
def inL(i z:Int):Ke true (.int i) (.list [.int z,.int (-z)])=some (.bl (!decide (i∈[z, -z]))):=KU true i [z, -z]
def Vd(z:Int)(t:Ϝ):oy (qC (oq (Ke true) (nB 0) (nB 1))) (nP 0) [i3 [.int z,.int (-z)]] (t.map D.int)=some ((K23.Hs z t).map λn=>.sh (.int n)):=by
 rw[Z.qT (λd=>match d with|.int e=>!decide (e∈[z, -z])|_=>false) (λd=>.sh d)]
 .rw[dw,mPq];rfl
 .intro d hd;obtain⟨e,_,rfl⟩:=mMq.mp hd;have h:=inL e z;refine⟨[i0 e,i3 [.int z,.int (-z)]],?_,λ_=>⟨[i0 e,i3 [.int z,.int (-z)]],?_⟩⟩
  .simp_arith [h]
  .simp_arith []
def thin_ok(z:Int)(t:Ϝ)(ht:t.length<=1000):K23.rZ [dI t,.list [.int z,.int (-z)]]=some (aI (K23.Hs z t)):=by
 have h:=Vd z t;have s:t.length<=pe:=oM (by lia)
 simp_arith [K23.rZ,K23.Ah,dI,h,s]
def wo_comp(z:Int){rs:Λ}(hr:∀r∈rs,r.length<=1000):oy oH (oi K23.rZ (nJ (nP 0) (nJ (nP 1) nZ))) [i3 [.int z,.int (-z)]] (rs.map dI)=some ((K23.C z rs).map aI):=by
 rw[Z.oO λd=>aI (K23.Hs z (Aj d))]
 .rw[yv λr=>aI (K23.Hs z r)]
  unfold K23.C;rw[mPq];rfl
 .intro d hd;obtain⟨r,s,rfl⟩:=Ap hd;refine⟨[some (.sh (dI r)),i3 [.int z,.int (-z)]],?_⟩
  simp_arith [thin_ok z r (hr r s),rK]
def Og(z:Int):oy oH (kSc (J8 Am (nB 0))) [] [D.int z]=some [.sh (.int (-z))]:=by
 have:=Z.oO (te:=kSc (J8 Am (nB 0))) (cap:=[]) (λd=>match d with|.int i=>AV.sh (.int (-i))|_=>.sh .non) (ds:=[D.int z]) (by
  intro d hd;rw[mSq.mp hd];refine⟨[i0 z],?_⟩
  simp_arith [])
 exact this
def without_ok(s:Mp M):pP [dM M,.list [.int z]]=some (.ow ((K23.C z M).map aI)):=by
 have t:=Og z;have u:=wo_comp z (rs:=M) λr hr=>by have:=EN hr;have:=s.hl;lia
 have x:M.length<=pe:=oM (by have:=s.hr;lia)
 have B:1<=pe:=by decide
 simp_arith [pP,tP,t,u,x,B]
def TX(M:Λ)(z:Int):Bool:=@decide (¬ ye (K23.C z M) (plc M z) (plc M (-z))) (eI _)
def GS(t:Mp M)(x:z∈M.flatten):uh [dM M,.int z]=i4 (TX M z):=by
 have hl:=t.hl;have E:=xT (rs:=M) t.hn (by lia)
 have G:=t.kv x;have g2:=t.kv (t.hneg z x);have H:=without_ok (z:=z) t;have I:((K23.C z M).map aI).map nK=(K23.C z M).map dI:=by rw[mPq];exact mCq λr _=>pD r
 obtain⟨B,pc,J⟩:=K51.Av (Pu (abY (z:=z) t)) (s:=plc M z) (by rw[aaD];exact t.lt x)
 have L:=pD (B.map λk:Nat=>(k:Int))
 have u:=KU true (plc M (-z):Int) (B.map λk:Nat=>(k:Int))
 have e:(!decide ((plc M (-z):Int)∈B.map λk:Nat=>(k:Int)))=TX M z:=by
  unfold TX;rw[cF];simp only[eQ,decide_eq_false_iff_not,decide_eq_true_eq];rw[←pc.iff];constructor
  .intro h q;exact h (mMq.mpr ⟨_,q,rfl⟩)
  .intro h q;obtain⟨k,hk,O⟩:=mMq.mp q;have:k=plc M (-z):=by lia
   exact h (this ▸ hk)
 rw[oa rfl,e]at u
 simp_arith [uh,AA,E,G,g2,H,I,J,L,dI,u]
def Uu(s:Mp M){R:Ϝ}(t:∀z∈R,z∈M.flatten):oy (qC (oQ K43.uh (nA (nB 1) (nA (nB 0) nH)))) (nP 0) [some (.sh (dM M))] (R.map D.int)=some ((R.filter (TX M)).map λn=>.sh (.int n)):=by
 rw[Z.qT (λd=>match d with|.int e=>TX M e|_=>false) (λd=>.sh d)]
 .rw[dw,mPq];rfl
 .intro d hd;obtain⟨e,u,rfl⟩:=mMq.mp hd;have h:=GS s (t e u);refine⟨[i0 e,some (.sh (dM M))],?_,λ_=>⟨[i0 e,some (.sh (dM M))],?_⟩⟩
  .simp_arith [h]
  .simp_arith []
def Dy(M:Λ):Ϝ:=(pZ M.flatten).filter λz=>decide (0<z)
def Ng{x:Int}:x∈Dy M↔x∈M.flatten/\0<x:=by
 unfold Dy;rw[cE,(pK _).mem_iff];simp
def bridges_ok(s:Mp M):tJ [dM M]=some (aI ((Dy M).filter (TX M))):=by
 have hl:=s.hl;have t:rR [dM M]=some (aI (Dy M)):=Jr (rs:=M) (by lia)
 have u:=Uu s (R:=Dy M) λz h=>(Ng.mp h).1
 have x:=pD (Dy M);have B:(Dy M).length<=pe:=oM (by
  have:(Dy M).length<=(pZ M.flatten).length:=bH _ _;rw[(pK _).length_eq]at this;lia)
 simp_arith [tJ,Ef,t,x,dI,u,B]
end
end K43
namespace K17
open PySem L2 Mr Z Xe Zl
def Vr(rs:Λ):(rs.map λr=>AV.sh (dI r)).map nK=rs.map dI:=by rw[mPq];exact mCq λr _=>pT _
end K17
namespace K19
open PySem L2 Mr Z Xe Zl K15 K16
def Yl{t:Ϝ}(h:t.Nodup):(t.map λz=>-z).Nodup:=by
 rw[aX,bo];exact(aX.mp h).imp λq e=>q (by lia)
end K19
namespace K17
open PySem L2 Mr Z Xe Zl
open K43 (Pu Dy)
open K51 (ye Ps Pc)
section
variable {M:Λ}
def Wu(s:Mp M)(t:∀e∈M.flatten,e≠0):2*(Dy M).length=M.flatten.length:=by
 unfold Dy;rw[←List.countP_eq_length_filter,(pK _).countP_eq];have pm:(M.flatten.map λz=>-z).Perm M.flatten:=(cU (K19.Yl s.hn) s.hn).mpr λx=>by
  rw[mMq];constructor
  .rintro⟨z,h,rfl⟩;exact s.hneg z h
  .exact λh=>⟨-x,s.hneg x h,gH x⟩
 have u:=pm.countP_eq λz=>decide (0<z)
 rw[gF]at u;have E:M.flatten.countP ((λz=>decide (0<z))∘λz=>-z)=M.flatten.countP λa=>decide ¬ (decide (0<a)=true):=List.countP_congr λx B=>by
  have:=t x B;simp;lia
 have l:=List.length_eq_countP_add_countP (l:=M.flatten) λz=>decide (0<z)
 lia
def OB(s:Mp M){F:Λ}(t:K15.vS [dM M]=some (.ow (F.map aI))):∃kn PS,Ps M M.length kn PS/\K43.wG [dM M]=some (.sh (.tup [.int (M.length:Int),.int ((Dy M).length:Int),.int (F.length:Int),.int ((PS.length:Nat):Int),.int ((2*((PS.length:Nat):Int)-(M.length:Int)+((Dy M).length:Int)-(F.length:Int)) / 2)])):=by
 obtain⟨kn,PS,u,x⟩:=K51.pieces_ok (Pu s);have hl:=s.hl;have z:rR [dM M]=some (aI (Dy M)):=Jr (rs:=M) (by lia)
 have B:=pD (Dy M);have mu:∀i:Int,wa (.int 2) (.int i)=some (.int (2*i)):=λi=>Iw (by decide) (by decide)
 have E:=λi:Int=>Ew (i:=i) (j:=2) (by decide) (by decide)
 refine⟨kn,PS,u,?_⟩
 simp_arith [K43.wG,K43.FZ,z,B,dI,t,x,mu,E]
end
end K17
namespace K18
open PySem L2 Mr Z Xe Zl
noncomputable def pp:Ϝ->List (Int×Int)
 | []=>[]
 | [_]=>[]
 |x::y::r=>(x,y)::pp (y::r)
def cp:Ϝ->List (Int×Int)
 | []=>[]
 |x::r=>pp (x::r++[x])
def PC(X:Λ):List (Int×Int):=X.flatMap cp
noncomputable def ct(u v x y:Int):Nat:=[(u,v)].count (x,y)
structure Ln (C LL:Λ):Prop where
 cnt:∀x y,(PC LL).count (x,y)=(PC C).count (-x,y)
 ne:∀c∈LL,c≠[]
section
variable {C LL:Λ}{i:Nat}
def nL(C LL:Λ):Nat:=LL.length+C.count []
end
end K18
namespace K52
open PySem L2 Mr Z Xe Zl
open K15 (nx)
open K18 (pp cp PC)
open K43 (Pu)
open K51 (ye)
structure Fm where
 p:Nat
 a:Ϝ
 d:Ϝ
 r:Ϝ
structure Sw where
 st:List Fm
 cl:Θ
 cb:List (Nat×Int)
 th:List (String×Int)
noncomputable def Sw.ks(s:Sw):Θ:=0::s.cb.map (·.1)
noncomputable def Fm.c(f:Fm):Ϝ:=f.a++f.d++f.r
section
variable {M:Λ}{s:Sw}{f:Fm}{fs:List Fm}{x e:Int}
def PY(u:Mp M)(z:x∈M.flatten):plc M x<M.length/\x∈M.getD (plc M x) []:=by
 obtain⟨r,t,B⟩:=u.at z;refine⟨(gSq.mp t).1,?_⟩;rw[gDq,t];exact B
end
end K52
namespace K52
open PySem L2 Mr Z Xe Zl
open K15 (nx Ed)
open K18 (pp cp PC)
open K43 (Pu)
open K51 (ye acz)
section
variable {M:Λ}{s:Sw}{f:Fm}{fs:List Fm}{x e:Int}
def Sw.way(s:Sw):Ϝ:=(s.st.flatMap (·.a)).reverse
end
end K52
namespace K41
open PySem L2 Mr Z Xe Zl
def thn(g t:Ϝ):Ϝ:=t.filter λe=>!decide (e∈g)
def thin_ok(g t:Ϝ)(ht:t.length<=1000):K23.rZ [dI t,.list (g.map D.int)]=some (aI (thn g t)):=by
 have h:oy (qC (oq (Ke true) (nB 0) (nB 1))) (nP 0) [i3 (g.map D.int)] (t.map D.int)=some ((thn g t).map λn=>.sh (.int n)):=by
  rw[Z.qT (λd=>match d with|.int e=>!decide (e∈g)|_=>false) (λd=>.sh d)]
  .rw[dw,mPq];rfl
  .intro d hd;obtain⟨e,_,rfl⟩:=mMq.mp hd;have h:=KU true e g;rw[oa rfl]at h;refine⟨[i0 e,i3 (g.map D.int)],?_,λ_=>⟨[i0 e,i3 (g.map D.int)],?_⟩⟩
   .simp_arith [h]
   .simp_arith []
 have s:t.length<=pe:=oM (by lia)
 simp_arith [K23.rZ,K23.Ah,dI,h,s]
def pst(g:Ϝ)(M:Λ):Λ:=M.map (thn g)
def wo_comp(g:Ϝ){rs:Λ}(hr:∀r∈rs,r.length<=1000):oy oH (oi K23.rZ (nJ (nP 0) (nJ (nP 1) nZ))) [i3 (g.map D.int)] (rs.map dI)=some ((pst g rs).map aI):=by
 rw[Z.oO λd=>aI (thn g (Aj d))]
 .rw[yv λr=>aI (thn g r)]
  unfold pst;rw[mPq];rfl
 .intro d hd;obtain⟨r,s,rfl⟩:=Ap hd;refine⟨[some (.sh (dI r)),i3 (g.map D.int)],?_⟩
  simp_arith [thin_ok g r (hr r s),rK]
def Qv(R:Ϝ):oy oH (kSc (J8 Am (nB 0))) [] (R.map D.int)=some ((R.map λz=>-z).map λn=>.sh (.int n)):=by
 rw[Z.oO (λd=>match d with|.int i=>AV.sh (.int (-i))|_=>.sh .non)]
 .rw[mPq,mPq];rfl
 .intro d hd;obtain⟨e,_,rfl⟩:=mMq.mp hd;refine⟨[i0 e],?_⟩
  simp_arith []
variable {M:Λ}
def without_ok(s:Mp M)(R:Ϝ)(G:R.length<=1000):K43.pP [dM M,.list (R.map D.int)]=some (.ow ((pst (R++R.map λz=>-z) M).map aI)):=by
 have t:=Qv R;have u:=wo_comp (R++R.map λz=>-z) (rs:=M) λr hr=>by have:=EN hr;have:=s.hl;lia
 have x:M.length<=pe:=oM (by have:=s.hr;lia)
 have B:R.length<=pe:=oM (by lia)
 have E:R.length+R.length<=pe:=oM (by lia)
 have q:R.map D.int++(R.map λz=>-z).map D.int=(R++R.map λz=>-z).map D.int:=by rw[mBq]
 simp_arith [K43.pP,K43.tP,t,q,u,x,B,E]
def S8(g:Ϝ)(M:Λ):(pst g M).flatten=thn g M.flatten:=by
 unfold pst thn
 induction M with
 |nil=>rfl
 |cons r M s=>rw[ai,fCq,fCq,s,eA]
def Zp(s:Mp M){g:Ϝ}(x:∀e, -e∈g->e∈g):Mp (pst g M):=by
 have e:=S8 g M;refine⟨?_,?_,by unfold pst;rw[lMq];exact s.hr,λz t=>?_⟩
 .rw[e];exact s.hn.filter _
 .rw[e];exact bq (bH _ _) s.hl
 .rw[e]at t ⊢;obtain⟨B,u⟩:=cE.mp t;refine cE.mpr ⟨s.hneg z B,?_⟩;simp only[eQ,decide_eq_false_iff_not]at u ⊢;exact λh=>u (x z h)
def Ky:AV->Option (List (nT×Ϝ))
 | .owl k=>some k
 | .owd []=>some []
 |_=>none
def RT(S:AS)(i:Nat):tE S i=S[i]?.join.bind Ky:=by
 unfold tE;cases S[i]?.join with
 |none=>rfl
 |some a=>
  cases a with
  |owd k=>cases k <;> rfl
  |_=>rfl
def HU(k:List (nT×Ϝ)):Ky (.owl k)=some k:=rfl
noncomputable def zt(kvs:List (nT×Ϝ)):Λ:=kvs.map λx=>x.2
theorem HS{k:nT}{m:Int}:∀{kvs:List (nT×Ϝ)},(∃x∈kvs,x.1=k)->(zt (uk kvs k m)).flatten.Perm (m::(zt kvs).flatten)/\∀x∈uk kvs k m,x∈kvs∨∃l,x.2=l++[m]
 | [],h=>by obtain⟨x,s,_⟩:=h;cases s
 |y::r,h=>by
  by_cases c:y.1=k
  .rw[uk,oa c];refine⟨?_,λx s=>?_⟩
   .show((y.2++[m])++(zt r).flatten).Perm (m::(y.2++(zt r).flatten));rw[ak];exact cv
   .rcases ag.mp s with rfl|s
    .exact .inr ⟨_,rfl⟩
    .exact .inl (mCo _ s)
  .rw[uk,nY c];obtain⟨x,s,e⟩:=h;have t:x∈r:=by
    rcases ag.mp s with rfl|s
    .exact absurd e c
    .exact s
   obtain⟨u,z⟩:=HS (k:=k) (m:=m) ⟨x,t,e⟩;refine⟨?_,λx s=>?_⟩
   .show(y.2++(zt (uk r k m)).flatten).Perm (m::(y.2++(zt r).flatten));exact(bf.append_left _ u).trans cv
   .rcases ag.mp s with rfl|s
    .exact .inl (ax ..)
    .exact(z x s).imp (mCo _) id
theorem Hk{k:nT}{m:Int}{l:Ϝ}:∀{kvs:List (nT×Ϝ)},(∀x∈kvs,x.1≠k)->uk (kvs++[(k,l)]) k m=kvs++[(k,l++[m])]
 | [],_=>by simp[uk]
 |y::r,h=>by
  rw[bL,uk,nY (h y (ax ..)),Hk λx s=>h x (mCo _ s)]
  rfl
def put_ok{kvs:List (nT×Ϝ)}(k:nT)(m:Int)(ne:∀x∈kvs,x.2≠[]):(zt (uk (Hn kvs k) k m)).flatten.Perm (m::(zt kvs).flatten)/\(∀x∈uk (Hn kvs k) k m,x.2≠[])/\∀x∈Hn kvs k,x∈kvs∨x.2=[]:=by
 unfold Hn
 by_cases c:(kvs.any λx=>decide (x.1=k))=true
 .rw[oa c];obtain⟨x,s,e⟩:=cR.mp c;obtain⟨t,u⟩:=HS (m:=m) ⟨x,s,of_decide_eq_true e⟩;refine⟨t,λx s=>?_,λx s=>.inl s⟩
  rcases u x s with z|⟨l,z⟩
  .exact ne x z
  .rw[z];simp
 .rw[nY c];have nk:∀x∈kvs,x.1≠k:=λx s e=>c (cR.mpr ⟨x,s,d0 e⟩)
  rw[Hk nk];refine⟨?_,λx s=>?_,λx s=>?_⟩
  .unfold zt;rw[mBq,fAq];show((zt kvs).flatten++([]++[m])).Perm (m::(zt kvs).flatten);exact bz
  .rcases mAq.mp s with z|z
   .exact ne x z
   .rw[mSq.mp z];simp
  .rcases mAq.mp s with z|z
   .exact .inl z
   .rw[mSq.mp z];exact .inr rfl
theorem El:∀{kvs:List (nT×Ϝ)},(∀x∈kvs,x.2≠[])->kvs.length<=(zt kvs).flatten.length
 | [],_=>aa _
 |y::r,h=>by
  have i:=El λx s=>h x (mCo _ s)
  have:0<y.2.length:=gQ.mpr (h y (ax ..));show r.length+1<=(y.2++(zt r).flatten).length;rw[lAq];lia
def Ts{kvs:List (nT×Ϝ)}{x:nT×Ϝ}(h:x∈kvs):x.2.length<=(zt kvs).flatten.length:=EN (mMq.mpr ⟨x,h,rfl⟩)
end K41
namespace K41
open PySem L2 Mr Z Xe Zl
open K51 (ye Pc)
noncomputable def ab(i:Int):Int:=if i<0 then -i else i
def ab_(i:Int):(if i<0 then -i else i)=ab i:=rfl
def kp(M:Λ)(p:Nat)(e:Int):Bool:=decide (plc M (-e)≠p) || decide (0<e)
theorem MY{k:nT}{m:Int}:∀{kvs:List (nT×Ϝ)},(uk kvs k m).map (·.1)=kvs.map (·.1)/\∀x∈uk kvs k m,x∈kvs∨(x.1=k/\∃l,x.2=l++[m]/\(k,l)∈kvs)
 | []=>⟨rfl,λx h=>.inl h⟩
 |y::r=>by
  by_cases c:y.1=k
  .rw[uk,oa c];refine⟨rfl,λx s=>?_⟩
   rcases ag.mp s with rfl|s
   .refine .inr ⟨c,y.2,rfl,?_⟩;rw[←c];exact ax ..
   .exact .inl (mCo _ s)
  .rw[uk,nY c];obtain⟨t,u⟩:=MY (k:=k) (m:=m) (kvs:=r);refine⟨by rw[ai,t];rfl,λx s=>?_⟩
   rcases ag.mp s with rfl|s
   .exact .inl (ax ..)
   .rcases u x s with z|⟨z,l,B,E⟩
    .exact .inl (mCo _ z)
    .exact .inr ⟨z,l,B,mCo _ E⟩
def UF{kvs:List (nT×Ϝ)}(k:nT)(m:Int)(nk:(kvs.map (·.1)).Nodup):((uk (Hn kvs k) k m).map (·.1)).Nodup/\∀x∈uk (Hn kvs k) k m,x∈kvs∨(x.1=k/\∃l,x.2=l++[m]/\(l=[]∨(k,l)∈kvs)):=by
 obtain⟨B,u⟩:=MY (k:=k) (m:=m) (kvs:=Hn kvs k);rw[B];unfold Hn at u ⊢
 by_cases c:(kvs.any λx=>decide (x.1=k))=true
 .rw[oa c]at u ⊢;exact⟨nk,λx s=>(u x s).imp id λ⟨a,l,b,d⟩=>⟨a,l,b,.inr d⟩⟩
 .rw[nY c]at u ⊢;have t:∀x∈kvs,x.1≠k:=λx s e=>c (cR.mpr ⟨x,s,d0 e⟩)
  refine⟨?_,λx s=>?_⟩
  .rw[mBq];refine nAq.mpr ⟨nk,by simp,λa ha b hb q=>?_⟩
   obtain⟨x,s,rfl⟩:=mMq.mp ha;rw[ai,cj]at hb;exact t x s (q.trans (mSq.mp hb))
  .rw[Hk t]at s;rcases mAq.mp s with z|z
   .exact .inl z
   .rw[mSq.mp z];exact .inr ⟨rfl,[],rfl,.inl rfl⟩
structure Hd (P:Λ)(s h:Nat):Prop where
 rc:ye P s h
 le:∀k,ye P s k->h<=k
structure Gi (M P:Λ)(p:Nat)(r:Ϝ)(L:Ϝ)(kvs:List (nT×Ϝ)):Prop where
 per:(L++(zt kvs).flatten).Perm ((r.filter (kp M p)).map ab)
 ne:∀x∈kvs,x.2≠[]
 lo:∀e∈L,e∈r/\0<e/\plc M (-e)=p
 nk:(kvs.map (·.1)).Nodup
 ky:∀x∈kvs,∃h:Nat,x.1 = .inl (h:Int)/\∀z∈x.2,∃e∈r,ab e=z/\plc M (-e)≠p/\Hd P (plc M (-e)) h
section
variable {M P:Λ}{p:Nat}{r r' L:Ϝ}{kvs:List (nT×Ϝ)}
def Gi.len(h:Gi M P p r L kvs):L.length+(zt kvs).flatten.length<=r.length:=by
 have:=h.per.length_eq;rw[lAq,lMq]at this;have:=bH (kp M p) r;lia
def Gi.hang(h:Gi M P p r L kvs){e:Int}(hk:plc M (-e)≠p){k:Nat}(hd:Hd P (plc M (-e)) k):Gi M P p (r++[e]) L (uk (Hn kvs (.inl (k:Int))) (.inl (k:Int)) (ab e)):=by
 obtain⟨E,G,_⟩:=put_ok (.inl (k:Int)) (ab e) h.ne;obtain⟨H,I⟩:=UF (.inl (k:Int)) (ab e) h.nk;refine⟨?_,G,λe B=>⟨aY _ (h.lo e B).1,(h.lo e B).2⟩,H,λx J=>?_⟩
 rotate_left
 .rcases I x J with z|⟨z,l,O,s⟩
  .obtain⟨g,u,g2⟩:=h.ky x z;exact⟨g,u,λy t=>(g2 y t).imp λa b=>⟨aY _ b.1,b.2⟩⟩
  .refine⟨k,z,λy t=>?_⟩
   rw[O]at t;rcases mAq.mp t with w|w
   .rcases s with s|s
    .rw[s]at w;cases w
    .obtain⟨g,u,g2⟩:=h.ky _ s;have:k=g:=by have:=aH.inj u;lia
     subst this;exact(g2 y w).imp λa b=>⟨aY _ b.1,b.2⟩
   .rw[mSq.mp w];exact⟨e,au _ (mSq.mpr rfl),rfl,hk,hd⟩
 have:kp M p e=true:=by unfold kp;rw[d0 hk];rfl
 rw[eA,eJ this,gG,mBq];refine(bf.append_left L E).trans ?_;refine cv.trans ?_;refine((bf.cons _ h.per)).trans ?_;exact(bz (l₁:=[ab e]))
def Gi.loop(h:Gi M P p r L kvs){e:Int}(hk:plc M (-e)=p)(t:0<e):Gi M P p (r++[e]) (L++[e]) kvs:=by
 refine⟨?_,h.ne,λy s=>?_,h.nk,λx u=>?_⟩
 rotate_left
 .rcases mAq.mp s with w|w
  .exact⟨aY _ (h.lo y w).1,(h.lo y w).2⟩
  .rw[mSq.mp w];exact⟨au _ (mSq.mpr rfl),t,hk⟩
 .obtain⟨g,z,g2⟩:=h.ky x u;exact⟨g,z,λy s=>(g2 y s).imp λa b=>⟨aY _ b.1,b.2⟩⟩
 have:kp M p e=true:=by unfold kp;rw[d0 t,ik]
 rw[eA,eJ this,gG,mBq];have B:ab e=e:=nY (by lia)
 rw[ak];refine cv.trans ?_;refine((bf.cons _ h.per)).trans ?_;show(e::_).Perm (_++[ab e]);rw[B];exact(bz (l₁:=[e]))
def Gi.none(h:Gi M P p r L kvs){e:Int}(hk:plc M (-e)=p)(t:¬ 0<e):Gi M P p (r++[e]) L kvs:=by
 refine⟨?_,h.ne,λy s=>⟨aY _ (h.lo y s).1,(h.lo y s).2⟩,h.nk,λx u=>?_⟩
 rotate_left
 .obtain⟨g,z,g2⟩:=h.ky x u;exact⟨g,z,λy s=>(g2 y s).imp λa b=>⟨aY _ b.1,b.2⟩⟩
 have:¬ kp M p e=true:=by unfold kp;rw[d4 t,Bool.or_false];simp[hk]
 rw[eA,gn this,gG,aNq];exact h.per
end
variable {M:Λ}{p:Nat}{r:Ϝ}
def Tw(M:Λ)(p:Nat)(a3:AV)(L:Ϝ)(b:AV)(v6 v7:Option AV):AS:=[some (.sh (dM M)),i0 (p:Int),some (.owd (oh 0 M)),some a3,some (.ow ((L.map λe=>[e]).map aI)),some b,v6,v7]
def Vk(a b:Nat):W4 (.int (a:Int)) (.int (b:Int))=some (.bl (!decide (a=b))):=by
 rw[Nn];congr 3;exact decide_eq_decide.mpr Int.ofNat_inj
def Y4(x:Mp M)(hr:M[p]?=some r){P:Λ}(G:Mp P)(hP:P.length=M.length){i:Nat}{e:Int}(Y:r[i]?=some e){a3 b:AV}{L:Ϝ}{kvs:List (nT×Ϝ)}{v6 v7:Option AV}(I:nK a3=dM P)(hb:Ky b=some kvs)(hi:Gi M P p (r.take i) L kvs) :
  ∃B b' L' u J O,qU (Tw M p a3 L b (i0 e) v7)=some (.nx (Tw M p B L' b' J O))/\nK B=dM P/\Ky b'=some u/\Gi M P p (r.take (i+1)) L' u:=by
 have Q:e∈r:=mGq Y;have E:e∈M.flatten:=mFq.mpr ⟨r,mGq hr,Q⟩;have g:=x.kv (x.hneg e E);have et:r.take (i+1)=r.take i++[e]:=by rw[cK,Y];rfl
 rw[et];have rl:=x.row hr;have gl:=hi.len;have tl:(r.take i).length<=r.length:=by rw[lTq];lia
 have dn:=Vk (plc M (-e)) p
 by_cases c:plc M (-e)=p
 .rw[d0 c]at dn
  by_cases H:0<e
  .refine⟨a3,b,L++[e],kvs,i0 e,i0 (plc M (-e):Int),?_,I,hb,hi.loop c H⟩;have R:L.length<pe:=aF (show L.length<2000 by lia) (by decide)
   have q:(L.map λe=>[e]).map aI++[.ow [.sh (.int e)]]=((L++[e]).map λe=>[e]).map aI:=by rw[mBq,mBq];rfl
   simp_arith [qU,Tw,g,dn,H,R,q]
  .refine⟨a3,b,L,kvs,i0 e,i0 (plc M (-e):Int),?_,I,hb,hi.none c H⟩
   simp_arith [qU,Tw,g,dn,H]
 .rw[d4 c]at dn;have S:=x.lt (x.hneg e E);obtain⟨U,pc,re⟩:=K51.Av (rs:=P) ⟨G.hn,G.hl,G.hr,G.hneg⟩ (s:=plc M (-e)) (by rw[hP];exact S)
  have X:U≠[]:=λz=>by
   have:=(pc.iff (plc M (-e))).mpr .base;rw[z]at this;cases this
  obtain⟨h,t,rfl⟩:∃h t,U=h::t:=by
   cases U with
   |nil=>exact absurd rfl X
   |cons h t=>exact⟨h,t,rfl⟩
  have hd:Hd P (plc M (-e)) h:=⟨(pc.iff h).mp (ax ..),λk hk=>by
   rcases ag.mp ((pc.iff k).mpr hk)with z|z
   .lia
   .exact(ef.mp pc.so).1 k z⟩
  have ix:∀l:List D,atI (D.int (h:Int)::l) 0=some (.int (h:Int)):=λl=>vx (j:=0) rfl
  obtain⟨_,_,q3⟩:=put_ok (kvs:=kvs) (aH (h:Int)) (ab e) hi.ne;refine⟨.sh (dM P),.owl (uk (Hn kvs (.inl (h:Int))) (.inl (h:Int)) (ab e)),L,_,i0 e,i0 (plc M (-e):Int),?_,pT _,HU _,hi.hang c hd⟩;have R:kvs.length<pe:=aF (show kvs.length<2000 by have:=El hi.ne;lia) (by decide)
  have l2:∀l∈Hn kvs (.inl (h:Int)),l.2.length<pe:=λl hl=>aF (show l.2.length<2000 by
   rcases q3 l hl with z|z
   .have:=Ts z;lia
   .rw[z];decide) (by decide)
  simp_arith [qU,Tw,g,dn,aaK,RT,hb,I,re,ix,R,HU,ab_]
  rw[qj l2]
def XN(I:Mp M)(hr:M[p]?=some r){P:Λ}(J:Mp P)(O:P.length=M.length){a3 b:AV}(B:nK a3=dM P)(hb:Ky b=some []) :
  ∃s t L kvs v6 v7,qN 6 qU (r.map D.int) (Tw M p a3 [] b none none)=some (.nx (Tw M p s L t v6 v7))/\Ky t=some kvs/\Gi M P p r L kvs:=by
 have key:=rp (x:=6) (body:=qU) (λi S=>∃a3 b L kvs v6 v7,S=Tw M p a3 L b v6 v7/\nK a3=dM P/\Ky b=some kvs/\Gi M P p (r.take i) L kvs) (ds:=r.map D.int) (S:=Tw M p a3 [] b none none) ⟨a3,b,[],[],none,none,rfl,B,hb,by rw[fF];exact⟨.refl _,λx h=>(by cases h),λx h=>(by cases h),bp,λx h=>(by cases h)⟩⟩ (by
  rintro i d S hd ⟨a3,b,L,kvs,v6,v7,rfl,B,hb,hi⟩;rw[gMq]at hd;obtain⟨e,Q,rfl⟩:=oMq.mp hd;obtain⟨s,t,R,u,E,G,U,X,H,z⟩:=Y4 I hr J O Q (v6:=v6) (v7:=v7) B hb hi;exact⟨_,U,s,t,R,u,E,G,rfl,X,H,z⟩)
 obtain⟨Y,e,s,t,L,kvs,v6,v7,rfl,_,H,z⟩:=key;rw[lMq,aE]at z;exact⟨s,t,L,kvs,v6,v7,e,H,z⟩
def Qk(l:Ϝ):oy oH (kSc (rD Lf (nA (nB 0) nH))) [] (l.map D.int)=some ((l.map ab).map λn=>.sh (.int n)):=by
 rw[Z.oO (λd=>match d with|.int i=>AV.sh (.int (ab i))|_=>.sh .non)]
 .rw[mPq,mPq];rfl
 .intro d hd;obtain⟨e,_,rfl⟩:=mMq.mp hd;refine⟨[i0 e],?_⟩
  simp_arith [ab_]
def RQ(kvs:List (nT×Ϝ)):oy oH (B7 (rW 0)) [] (kvs.map λx=>D.list (x.2.map D.int))=some ((kvs.map λx=>pZ x.2).map aI):=by
 have h:=Z.oO (te:=B7 (rW 0)) (cap:=[]) (λd=>aI (pZ (Aj d))) (ds:=(kvs.map λx=>dI x.2)) (by
  intro d hd;obtain⟨x,_,rfl⟩:=mMq.mp hd;refine⟨[some (.sh (dI x.2))],?_⟩
  simp_arith [rK,dI])
 rw[mPq]at h ⊢;refine h.trans (congrArg some (mCq λx _=>?_))
 show aI (pZ (Aj (dI x.2)))=aI (pZ x.2);rw[rK]
def Kr(s:Mp M)(hr:M[p]?=some r):∃L kvs,uZ [dM M,.int (p:Int)]=some (.ow ((zH ((L.map λe=>[e])++kvs.map λx=>pZ x.2)).map aI))/\Gi M (pst ((r.map ab)++(r.map ab).map λz=>-z) M) p r L kvs:=by
 have hl:=s.hl;have I:=s.row hr;have J:=xT (rs:=M) s.hn (by lia)
 have O:=Qk r;have E:=without_ok s (r.map ab) (by rw[lMq];exact I)
 have G:=Zp s (g:=(r.map ab)++(r.map ab).map λz=>-z) (λe h=>by
  rcases mAq.mp h with z|z
  .exact au _ (mMq.mpr ⟨-e,z,by lia⟩)
  .obtain⟨y,Q,hz⟩:=mMq.mp z;have:y=e:=by lia
   exact aY _ (this ▸ Q))
 have H:(pst ((r.map ab)++(r.map ab).map λz=>-z) M).length=M.length:=lMq ..
 generalize pst ((r.map ab)++(r.map ab).map λz=>-z) M=P at E G H
 have R:(P.map aI).map nK=P.map dI:=by rw[mPq];exact mCq λr _=>pD r
 obtain⟨a3,b,L,kvs,v6,v7,t,hb,u⟩:=XN s hr G H (a3:=.ow (P.map aI)) (b:=.owd []) (by rw[qm,R]) rfl
 refine⟨L,kvs,?_,u⟩;have gl:=u.len;have kl:=El u.ne;have B:atI (M.map dI) (p:Int)=some (dI r):=vx (by rw[gMq,hr];rfl)
 have S:=RQ kvs;have U:r.length<=pe:=oM (by lia)
 have X:kvs.length<=pe:=oM (by lia)
 have Y:L.length+kvs.length<=pe:=oM (by lia)
 have q:(L.map λe=>[e]).map aI++(kvs.map λx=>pZ x.2).map aI=((L.map λe=>[e])++kvs.map λx=>pZ x.2).map aI:=by rw[mBq]
 unfold Tw at t;simp only[cj]at t
 simp_arith [uZ,FB,J,dM,dI,B,O,U,E,t,Xa,aaR,RT,hb,S,X,Y,q,true_and]
end K41
namespace K41
open PySem L2 Mr Z Xe Zl K31
variable {M:Λ}{p:Nat}{r:Ϝ}
def Zy(n:Nat)(g:Nat->Λ):Ϝ:=((aU n).filter λk=>decide (2<=(g k).length)).map λk:Nat=>(k:Int)
def doors_ok{g:Nat->Λ}(hl:M.length<=1000)(t:∀k,k<M.length->uZ [dM M,.int (k:Int)]=some (.ow ((g k).map aI))):xo [dM M]=some (aI (Zy M.length g)):=by
 have key:oy (qC (oq dGe (rD qi (nA (rOf (oi K41.uZ (nJ (nP 1) (nJ (nP 0) nZ)))) nH)) (rC (.int 2)))) (nP 0) [some (.sh (dM M))] (oK 0 M.length)=some ((Zy M.length g).map λn=>.sh (.int n)):=by
  rw[Z.qT (λd=>match d with|.int e=>decide (2<=(g e.toNat).length)|_=>false) (λd=>.sh d)]
  .unfold oK Zy;rw[dw,mPq,mPq];congr 1;have u:∀k:Nat,((λd=>match d with|D.int e=>decide (2<=(g e.toNat).length)|_=>false)∘λk:Nat=>D.int (0+(k:Int))) k=decide (2<=(g k).length):=λk=>by
    show decide (2<=(g (0+(k:Int)).toNat).length)=_;rw[show(0+(k:Int)).toNat=k by lia]
   rw[List.filter_congr λk _=>u k]
   refine mCq λk _=>?_
   show AV.sh (D.int (0+(k:Int)))=AV.sh (D.int (k:Int));rw[fA]
  .intro d hd;unfold oK at hd;obtain⟨k,hk,rfl⟩:=mMq.mp hd;have s:=cA.mp hk;rw[fA];have e:=t k s;have sg:((g k).map aI).map nK=(g k).map dI:=by rw[mPq];exact mCq λr _=>pD r
   have x:decide ((2:Int)<=((g k).length:Int))=decide (2<=(g k).length):=decide_eq_decide.mpr (by lia)
   refine⟨[i0 (k:Int),some (.sh (dM M))],?_,λ_=>⟨[i0 (k:Int),some (.sh (dM M))],?_⟩⟩
   .simp_arith [e,sg,x]
    rfl
   .simp_arith []
 have z:=zc (n:=M.length) (by lia)
 have B:(oK 0 M.length).length<=pe:=by rw[oT];exact oM (by lia)
 simp_arith [xo,IR,dM,z,B,key]
def V1(n:Nat)(g:Nat->Λ):(Zy n g).length<=n:=by
 unfold Zy;rw[lMq];exact bq (bH _ _) (by rw[aO];exact aa _)
end K41
namespace K45
open PySem L2 Mr Z Xe Zl K31 K41
open K51 (ye Pc)
def gr(r:Ϝ):Ϝ:=(r.map ab)++(r.map ab).map λz=>-z
def Tch(M:Λ)(z:Int)(a:Nat):Prop:=∃e row,M[a]?=some row/\e∈row/\ab e=z
variable {M:Λ}{p:Nat}{r:Ϝ}
def Lk(M:Λ)(r:Ϝ)(p:Nat)(z s:Int):Prop:=∃a b,a≠p/\b≠p/\Tch M z a/\Tch M s b/\ye (pst (gr r) M) a b
structure Fam (E:Int->Int->Prop)(U:Ϝ)(X:Λ):Prop where
 so:∀x∈X,pZ x=x
 ne:∀x∈X,x≠[]
 fl:X.flatten.Perm U
 eq:∀x∈X,∀z∈x,∀z'∈x,E z z'
 on:∀x∈X,∀y∈X,∀z∈x,∀z'∈y,E z z'->x=y
variable {M:Λ}{p:Nat}{r:Ϝ}
end K45
namespace K18
open PySem L2 Mr Z Xe Zl
open K12 (cN aP both Nm)
open K11 (UQ Cn)
def Wl(last:Λ):Nat->Θ->Prop
 |_,[]=>True
 |h,p::rest=>(p<h/\∃e s t,last[p]?=some (s++[e])/\last[h]?=some (-e::t))/\Wl last p rest
end K18
namespace K44
open PySem L2 Mr Z Xe Zl
open K15 (nx fw yt Ed Rd QO)
open K16 (kvI)
open K18 (Ln nL)
open K43 (TX)
open K51 (ye Ps Pc)
noncomputable def numL(L:Λ):List (Int×Int):=L.flatMap λl=>l.map λx=>(x,l.headD 0)
end K44
namespace K44
open PySem L2 Mr Z Xe Zl
open K15 (Rd kI DP Hr Ht)
open K16 (kvI pm)
open K18 (Ln nL)
def fl(P:List (Int×Int))(x:Int):Int:=match Z.getD (kvI P) (.inl x)with
 |some (.int y)=>y
 |_=>0
structure Mt (T:Λ):Prop where
 nd:T.flatten.Nodup
 ng:∀z∈T.flatten, -z∈T.flatten
 nz:∀z∈T.flatten,z≠0
 le:T.flatten.length<=60
 lt:T.length<=64
def Pn(T:Λ):Prop:=K11.Cn T/\∃s u,Ln T s/\nL T s+T.length=u+2/\T.flatten.length=2*u
end K44
namespace K52
open PySem L2 Mr Z Xe Zl
open K43 (Pu)
open K51 (ye)
section
variable {M:Λ}{g:Nat->Int}
structure Sj (M:Λ)(E:Ϝ)(g:Nat->Int):Prop where
 snd:∀a b,g a=g b->ye M a b
 cmp:∀e∈E,g (plc M e)=g (plc M (-e))
def GV(g:Nat->Int)(o1 o2:Int)(k:Nat):Int:=if g k=o2 then o1 else g k
theorem Sj.step(s:Mp M){E:Ϝ}(h:Sj M E g){e:Int}(B:e∈M.flatten):Sj M (E++[e]) (GV g (g (plc M e)) (g (plc M (-e)))):=by
 have G:ye M (plc M e) (plc M (-e)):=by
  obtain⟨r,t,u⟩:=s.at B;exact .step .base t u
 have one:∀a b,g a=g (plc M (-e))->g (plc M e)=g b->ye M a b:=λa b t u=>(h.snd _ _ t).trans ((G.symm (Pu s)).trans (h.snd _ _ u))
 refine⟨λa b q=>?_,λx H=>?_⟩
 .unfold GV at q
  by_cases c:g a=g (plc M (-e)) <;> by_cases d:g b=g (plc M (-e))
  .exact h.snd a b (c.trans d.symm)
  .rw[oa c,nY d]at q;exact one a b c q
  .rw[nY c,oa d]at q;exact(one b a d q.symm).symm (Pu s)
  .rw[nY c,nY d]at q;exact h.snd a b q
 .rcases mAq.mp H with z|z
  .unfold GV;rw[h.cmp x z]
  .rw[mSq.mp z];unfold GV;rw[oa (c:=g (plc M (-e))=g (plc M (-e))) rfl];split
   .rfl
   .rfl
def Sj.rch(t:Mp M)(h:Sj M M.flatten g){a b:Nat}(r:ye M a b):g a=g b:=by
 induction r with
 |base=>rfl
 | @step k row e _ hk s u=>
  have:=h.cmp e (mFq.mpr ⟨row,mGq hk,s⟩);rw[plc_eq t.hn hk s]at this;exact u.trans this
def marks(M:Λ)(g:Nat->Int):Ϝ:=(aU M.length).map g
def BI{k:Nat}(h:k<M.length):atI ((marks M g).map D.int) (k:Int)=some (.int (g k)):=vx (by
 unfold marks;rw[gMq,gMq,dg h];rfl)
def Pj{o1 o2:Int}:oy oH (kSc (oq FR (rOf (rq (nJ (nP 0) (nJ (nP 1) nZ)))) (rD Jl (nA (oq Ax (nB 0) (nB 2)) nH)))) [i0 o1,i0 o2] ((marks M g).map D.int)=some ((marks M (GV g o1 o2)).map λn=>.sh (.int n)):=by
 rw[Z.oO (λd=>match d with|.int i=>AV.sh (.int (if i=o2 then o1 else i))|_=>.sh .non)]
 .unfold marks;rw[mPq,mPq,mPq];rfl
 .intro d hd;obtain⟨i,hi,rfl⟩:=mMq.mp hd;refine⟨[i0 i,i0 o1,i0 o2],?_⟩;show _=some (AV.sh (.int (if i=o2 then o1 else i)),_)
  by_cases c:i=o2
  .have s:decide (i=o2)=true:=d0 c;have t:atI [D.int i,D.int o1] 1=some (.int o1):=vx (j:=1) rfl;rw[oa c]
   simp_arith [s,RK,t]
  .have s:decide (i=o2)=false:=d4 c;have u:atI [D.int i,D.int o1] 0=some (.int i):=vx (j:=0) rfl;rw[nY c]
   simp_arith [s,RK,u]
end
end K52
namespace K82
open PySem PySem.NumText L2 Mr Z Xe Zl
open K08 (aS dS nX Ih Ou uC wA Fe FC JW FQ Fk Eb Wt RL GQ A5 GD Di yH C5 D9 G9 Dc)
abbrev Bd(r:Ϝ):Prop:=∀z∈r, -(10 ^ 60)<z/\z<10 ^ 60
structure Rg (rs:Λ):Prop where
 e:∀r∈rs,∀z∈r,z≠0/\-(10 ^ 60)<z/\z<10 ^ 60
 l:∀r∈rs,r.length<=1000
 n:rs.length<=2000
def Kv(r:Ϝ):Str:=Txt.join " " (r.map oZ)
def Eg{r:Ϝ}(h:Bd r):oy oH (kSc (rD CK (nA (nB 0) nH))) [] (r.map D.int)=some ((r.map oZ).map λs=>.sh (.str s)):=by
 rw[Z.oO (λd=>match d with|.int z=>.sh (.str (oZ z))|_=>.sh .non)]
 .rw[mPq,mPq];rfl
 .intro d hd;obtain⟨z,t,rfl⟩:=mMq.mp hd;refine⟨[i0 z],?_⟩
  simp_arith [D9 (h z t)]
theorem Mb:∀{r:Ϝ},Bd r->((r.map oZ).map (·.length)).sum<=61*r.length
 | [],_=>by simp
 |z::r,h=>by
  have:=Mb (r:=r) λy s=>h y (mCo _ s)
  have t:=G9 (h z (by simp))
  simp only[ai,du,lCq];lia
def C7{r:Ϝ}(h:Bd r)(hl:r.length<=1000):yC (.str " ") [.list ((r.map oZ).map D.str)]=some (.str (Kv r)):=by
 rw[Qx,EM];refine qj ?_ _;have:=Mb h;rw[lMq,C5];lia
def Bj{r:Ϝ}(h:Bd r)(hl:r.length<=1000):wD [dI r]=some (.sh (.str (Kv r))):=by
 have s:r.length<=pe:=oM (by lia)
 simp_arith [wD,Gd,s,Eg h,uC,C7 h hl]
def Rw{r:Ϝ}(h:Bd r)(hl:r.length<=1000):uz [.tup (r.map D.int)]=some (.sh (.str (Kv r))):=by
 have s:r.length<=pe:=oM (by lia)
 simp_arith [uz,zN,abM,Kq,s,Eg h,uC,C7 h hl]
def Jp{rs:Λ}(h:Rg rs):A8 [dM rs]=some (aS (rs.map nX)):=by
 have t:=h.n;have key:=FC h.e h.l;have s:rs.length<=pe:=oM (by lia)
 unfold aS
 simp_arith [A8,HQ,s,key]
def MM{rs:Λ}(h:Rg rs):uY [dM rs]=some (aS (rs.map nX)):=by
 have t:=h.n;have key:=rp (x:=2) (body:=ug) (λi S=>∃u B,S=[some (.sh (dM rs)),some (aS ((rs.take i).map nX)),u,B]) (ds:=rs.map dI) (S:=[some (.sh (dM rs)),some (aS []),none,none]) ⟨none,none,rfl⟩ (by
  rintro i d S hd ⟨u,B,rfl⟩;obtain⟨r,s,rfl⟩:=xi hd;have E:=mGq s;have H:(rs.take i).length<pe:=by rw[lTq];exact zY (by lia)
  have I:r.length<=pe:=oM (by have:=h.l r E;lia)
  have hb:Bd r:=λz J=>(h.e r E z J).2
  refine⟨_,?_,some (.sh (dI r)),some (.sh (.str (nX r))),rfl⟩;rw[og s,mBq];unfold aS;rw[mBq]
  by_cases c:r=[]
  .subst c;have G:((0:Nat):Int)=0:=rfl;have t:nX [] = "." := rfl;have L:yC (.str " ") [.list []]=some (.str (Kv [])):=C7 (r:=[]) hb (aJ _);have M:oy oH (kSc (rD CK (nA (nB 0) nH))) [] []=some []:=rfl
   simp_arith [ug,G,t,L,M,H]
  .have G:¬ (r.length:Int)=0:=λz=>c (aZ.mp (by lia))
   have t:nX r=Kv r:=nY c
   simp_arith [ug,G,t,H,I,Eg hb,uC,C7 hb (h.l r E)])
 obtain⟨O,e,u,B,rfl⟩:=key;rw[lMq,aE]at e;unfold aS at e ⊢;have e:qN 2 ug (rs.map dI) [some (.sh (dM rs)),some (.ow []),none,none]=_:=e
 simp_arith [uY,Ft,e]
def Wq{R:Λ}(h:zG R):zP [dS (R.map nX)]=some (.ow ((zH (R.map good)).map aI)):=by
 have z:=K07.Kk h;have hw:=GQ z;have P:=h.most;have Q:=h.rows;have key:=FT (x:=2) (y:=3) (k:=0) (body:=Cb) (λi S=>∃t u,S=[some (.sh (dS (R.map nX))),some (.ow ((R.take i).map aI)),t,u]) (ds:=(R.map nX).map D.str) (S:=[some (.sh (dS (R.map nX))),some (.ow []),none,none]) ⟨none,none,rfl⟩ (by
  rintro i d S hd ⟨t,u,rfl⟩;rw[aQ]at *;rw[mPq,gMq]at hd;obtain⟨r,s,rfl⟩:=oMq.mp hd;have B:=mGq s;have E:(nX r).length<=400000:=by
   have:=RL (List.mem_map_of_mem (f:=nX) B);lia
  obtain⟨G,L⟩:=K07.Td (z r B);have H:=Fk E;rw[G]at H;have I:=Eb E G;rw[L]at I;have J:((R.take i).map aI).length<pe:=by rw[lMq,lTq];exact zY (by lia)
  refine⟨_,?_,i0 ((i:Nat):Int),some (.sh (.str (nX r))),rfl⟩;rw[og s,mBq];rw[lMq]at J
  simp_arith [Cb,Function.comp,H,I,J])
 obtain⟨U,e,t,u,rfl⟩:=key;rw[aQ,lMq,lMq,aE]at e;have M:=KM h;have O:=Dc R;unfold dS at e ⊢
 simp_arith [zP,Na,e,O,M]
end K82
namespace K82
open PySem L2 Mr Z Xe Zl
open K15 (nx fw yt Ed kI DP Hr Ht Rd tW Ds DX fnd BG Df Dz RF QO)
section
variable {rs:Λ}
def NM(u:Mp rs):∃v2 v3 v4,qN 2 uD (rs.map dI) [some (.sh (dM rs)),some (.owd []),none,none,none,none,none,none,none]=some (.nx [some (.sh (dM rs)),some (.owd (K51.xX (K51.oJ rs))),v2,v3,v4,none,none,none,none]):=by
 have hn:=u.hn;have hl:=u.hl;have key:=rp (x:=2) (body:=uD) (λi S=>∃v2 v3 v4,S=[some (.sh (dM rs)),some (.owd (K51.xX (K51.oJ (rs.take i)))),v2,v3,v4,none,none,none,none]) (ds:=rs.map dI) (S:=[some (.sh (dM rs)),some (.owd []),none,none,none,none,none,none,none]) ⟨none,none,none,rfl⟩ (by
  rintro i d S hd ⟨v2,v3,v4,rfl⟩;obtain⟨r,hr,rfl⟩:=xi hd;have H:=u.row hr;have I:=FT (x:=3) (y:=4) (k:=0) (body:=xf) (λj S=>∃v3 v4,S=[some (.sh (dM rs)),some (.owd (K51.xX (K51.oJ (rs.take i)++(K51.qe r).take j))),some (.sh (dI r)),v3,v4,none,none,none,none]) (ds:=r.map D.int) (S:=[some (.sh (dM rs)),some (.owd (K51.xX (K51.oJ (rs.take i)))),some (.sh (dI r)),v3,v4,none,none,none,none]) ⟨v3,v4,by simp⟩ (by
   rintro j d S hd ⟨v3,v4,rfl⟩;rw[aQ]at *;rw[gMq]at hd;obtain⟨z,B,rfl⟩:=oMq.mp hd;have J:j<r.length:=(gSq.mp B).1;have s:(j+1) % r.length<r.length:=Nat.mod_lt _ (by lia)
   have L:(K51.rot r)[j]?=some r[(j+1) % r.length]:=by rw[RF J];exact gEg s
   have M:=K51.Gj (j:=j) hl hr;have t:=K51.JH hn hr B L;have E:=rP (i:=(j:Int)+1) (j:=(r.length:Int)) (by lia)
   have O:((j:Int)+1) % (r.length:Int)=(((j+1) % r.length:Nat):Int):=by push_cast;rfl
   rw[O]at E;have P:atI (r.map D.int) (((j+1) % r.length:Nat):Int)=some (.int r[(j+1) % r.length]):=vx (by rw[gMq,gEg s];rfl)
   refine⟨_,?_,i0 (j:Int),i0 z,rfl⟩
   simp_arith [xf,dI,E,P,M,t])
  obtain⟨U,G,Q,R,rfl⟩:=I;rw[aQ,lMq,←K51.yl,aE]at G;refine⟨_,?_,some (.sh (dI r)),Q,R,rfl⟩;rw[og hr,K51.Ey]
  simp_arith [uD,dI,G])
 obtain⟨X,e,v2,v3,v4,rfl⟩:=key;rw[lMq,aE]at e;exact⟨v2,v3,v4,e⟩
noncomputable def mu2(N:Nat):AS->Nat
 | [_,_,_,_,_,_,_,some (.ow l),_]=>N+1-l.length
 |_=>0
abbrev lst(rs:Λ)(v2 v3:Option AV)(e:Int)(v5:Option AV)(s:Ϝ)(l:Ϝ)(t:Option AV):AS:=[some (.sh (dM rs)),some (.owd (K51.xX (K51.oJ rs))),v2,v3,i0 e,v5,some (.owd (kI s)),some (aI l),t]
def S7(E:Mp rs){s:Ϝ}{M:Λ}(hr:Rd (fw rs) rs.flatten s M){e:Int}(z:e∈rs.flatten){v2 v3 v5:Option AV}:∃l B,rX (qC (sO (nB 8) (nB 6))) qZ 100000 (lst rs v2 v3 e v5 s [] (i0 e))=some (.nx (lst rs v2 v3 e v5 (s++l) l B))/\((e∈s/\l=[])∨(e∉s/\Cy (fw rs) e l)):=by
 by_cases G:e∈s
 .have u:=DP s e;rw[d0 G]at u;have key:=yz (c:=qC (sO (nB 8) (nB 6))) (body:=qZ) (λS=>S=lst rs v2 v3 e v5 s [] (i0 e)) (λ_=>0) (λS=>S=lst rs v2 v3 e v5 s [] (i0 e)) (by
   rintro S rfl;refine⟨false,lst rs v2 v3 e v5 s [] (i0 e),?_,λq=>(nomatch q),λ_=>rfl⟩
   simp_arith [u])
  obtain⟨O,H,rfl⟩:=key 100000 _ rfl (by decide)
  exact⟨[],_,by rw[aNq];exact H,.inl ⟨G,rfl⟩⟩
 have one:=yt E;obtain⟨l,cy,P,J⟩:=one.cy z;have hl:=E.hl;have Q:=UB _ _ hr.nd hr.sub;have R:=hr.out cy G;have I:∀n,Z.getD (K51.xX (K51.oJ rs)) (.inl (-(itr (fw rs) n e)))=some (.int (itr (fw rs) (n+1) e)):=λn=>Ed E.hn (E.hneg _ (one.itr_mem z n))
 have key:=yz (c:=qC (sO (nB 8) (nB 6))) (body:=qZ) (λS=>∃n,n<=l.length/\S=lst rs v2 v3 e v5 (s++l.take n) (l.take n) (i0 (itr (fw rs) n e))) (mu2 l.length) (λS=>∃B,S=lst rs v2 v3 e v5 (s++l) l B) (by
  rintro S ⟨n,h2,rfl⟩;have u:=DP (s++l.take n) (itr (fw rs) n e)
  by_cases hn:n<l.length
  .have t:=cy.at hn;have x:itr (fw rs) n e∉s++l.take n:=λm=>by
    rcases mAq.mp m with q|q
    .exact R _ (mGq t) q
    .have:=aV.sublist (aT (n+1) l) cy.nd;rw[og t]at this;exact(nAq.mp this).2.2 _ q _ (by simp) rfl
   rw[d4 x]at u;have L:=Hr x;rw[ak,←og t]at L;have U:=I n;have X:(kI (s++l.take n)).length<pe:=by rw[Ht,lAq,lTq];show _<16777216;lia
   have Y:(l.take n).length<pe:=by rw[lTq];show _<16777216;lia
   have ap:(l.take n).map (λn=>AV.sh (.int n))++[.sh (.int (itr (fw rs) n e))]=(l.take (n+1)).map λn=>.sh (.int n):=by rw[og t,mBq];rfl
   refine⟨true,lst rs v2 v3 e v5 (s++l.take n) (l.take n) (i0 (itr (fw rs) n e)),?_,λ_=>⟨lst rs v2 v3 e v5 (s++l.take (n+1)) (l.take (n+1)) (i0 (itr (fw rs) (n+1) e)),?_,⟨n+1,by lia,rfl⟩,?_⟩,λq=>(nomatch q)⟩
   .simp_arith [u]
   .simp_arith [qZ,X,L,Y,ap,U]
   .show l.length+1-_<l.length+1-_;simp only[lMq,lTq];lia
  .have en:n=l.length:=by lia
   subst en;have hb:=cy.back;rw[hb,aE]at u ⊢;rw[d0 (mAq.mpr (.inr cy.self))]at u;refine⟨false,lst rs v2 v3 e v5 (s++l) l (i0 e),?_,λq=>(nomatch q),λ_=>⟨_,rfl⟩⟩
   simp_arith [u])
 obtain⟨O,H,B,rfl⟩:=key 100000 (lst rs v2 v3 e v5 s [] (i0 e)) ⟨0,aJ _,by simp[itr]⟩ (by
  show l.length+1-0<100000;lia)
 exact⟨l,B,H,.inr ⟨G,cy⟩⟩
structure Up (E:Ϝ)(i:Nat)(hv:Ϝ)(L:Λ):Prop where
 all:∀j x,j<i->E[j]?=some x->x∈hv
 hd:∀l∈L,∃j x t,j<i/\E[j]?=some x/\l=x::t
 gd:∀l∈L,good l=l
 up:L.Pairwise λa b=>HT.qO b a=false
def Vw{x:Int}{t:Ϝ}(h:∀y∈t,x<y):good (x::t)=x::t:=by
 obtain⟨s,_,u⟩:=qW (x::t) (x::t).length;have e:nV (x::t) (x::t).length=0:=by
  cases q:nV (x::t) (x::t).length with
  |zero=>rfl
  |succ k=>
   rw[q]at s u;have a:=u 0 (eG k);have b:k<t.length:=Nat.lt_of_succ_lt_succ (s (eG _));rw[List.getD_cons_succ,List.getD_cons_zero,gDq,gEg b]at a;have:=h _ (gRq b);exact absurd a (Int.lt_asymm this)
 unfold good;rw[e];unfold rot;rw[dB,fF,aNq]
def Up.add{E H:Ϝ}{L:Λ}{i:Nat}{e:Int}{l:Ϝ}{f:Int->Int}(h:Up E i H L)(Q:E.Pairwise (·<=·))(B:E[i]?=some e)(I:e∉H)(G:∀x∈l,x∈E/\x∉H)(cy:Cy f e l):Up E (i+1) (H++l) (L++[l]):=by
 obtain⟨t,rfl⟩:∃t,l=e::t:=by
  cases l with
  |nil=>exact absurd cy.len (cm _)
  |cons y t=>
   have:=cy.at (i:=0) (eG _);cases this;exact⟨t,rfl⟩
 have lt:∀j x,j<i->E[j]?=some x->x<e:=λj x s z=>by
  obtain⟨J,rfl⟩:=gSq.mp z;obtain⟨M,rfl⟩:=gSq.mp B;have:=bu.mp Q j i J M s;have ne:E[j]≠E[i]:=λq=>I (q ▸ h.all j _ s z)
  lia
 have nd:=cy.nd;rw[aw]at nd;have R:∀y∈t,e<y:=λy O=>by
  obtain⟨S,U⟩:=G y (mCo _ O);obtain⟨j,s⟩:=bb.mp S;have c:¬ j<i:=λc=>U (h.all j y c s)
  have X:j≠i:=λq=>by
   rw[q,B]at s;cases s;exact nd.1 O
  obtain⟨J,rfl⟩:=gSq.mp s;obtain⟨M,rfl⟩:=gSq.mp B;have:=bu.mp Q i j M J (by lia)
  have ne:E[i]≠E[j]:=λq=>nd.1 (q ▸ O)
  lia
 refine⟨λj x s z=>?_,λm P=>?_,λm P=>?_,?_⟩
 .rcases bX.mp s with q|rfl
  .exact mAq.mpr (.inl (h.all j x q z))
  .rw[B]at z;cases z;exact mAq.mpr (.inr (ax ..))
 .rcases mAq.mp P with q|q
  .obtain⟨j,x,t,s,z,rfl⟩:=h.hd m q;exact⟨j,x,t,by lia,z,rfl⟩
  .rw[mSq.mp q];exact⟨i,e,t,by lia,B,rfl⟩
 .rcases mAq.mp P with q|q
  .exact h.gd m q
  .rw[mSq.mp q];exact Vw R
 .rw[aB];refine⟨h.up,gA _ _,λa ha b hb=>?_⟩
  rw[mSq.mp hb];obtain⟨j,x,u,s,z,rfl⟩:=h.hd a ha;have:=lt j x s z;rw[HT.vc,nY (by lia)]
  exact d4 (by lia)
def Up.pass{E u:Ϝ}{L:Λ}{i:Nat}{e:Int}(h:Up E i u L)(G:E[i]?=some e)(z:e∈u):Up E (i+1) u L:=⟨λj x B s=>by
  rcases bX.mp B with q|rfl
  .exact h.all j x q s
  .rw[G]at s;cases s;exact z,λm z=>by
  obtain⟨j,x,t,B,s,e⟩:=h.hd m z;exact⟨j,x,t,by lia,s,e⟩,h.gd,h.up⟩
def U2(M:Λ):yM (K51.xX (K51.oJ M))=some M.flatten:=by
 have:=Cg (λp:nT×Int=>match p.1 with|.inl i=>i|_=>0) (λp:nT×Int=>D.int p.2) (K51.oJ M)
 have s:K51.xX (K51.oJ M)=(K51.oJ M).map λp=>((aH (match p.1 with|.inl i=>i|_=>0):nT),D.int p.2):=by
  unfold K51.xX;refine mCq λp t=>?_
  have:p.1∈(K51.oJ M).map (·.1):=mMq.mpr ⟨p,t,rfl⟩;rw[K51.qS]at this;obtain⟨x,_,e⟩:=mMq.mp this;rw[←e]
 rw[s,this];have u:(K51.oJ M).map (λp:nT×Int=>match p.1 with|.inl i=>i|_=>0)=((K51.oJ M).map (·.1)).map λk:nT=>match k with|.inl i=>i|_=>0:=by rw[mPq];rfl
 rw[u,K51.qS,mPq];exact congrArg some (List.map_id' _)
def NW(G:Mp rs):∃L,Mn (fw rs) rs.flatten L/\zH ((tW rs++L).map good)=tW rs++L/\∃x,uO [dM rs]=some x/\nK x=dM (tW rs++L):=by
 have one:=yt G;have hl:=G.hl;have Q:=G.hr;have lb:=DX rs;obtain⟨t,u,J,e1⟩:=NM G;have sI:=yK rs.flatten;have key:=rp (x:=4) (body:=uy) (λi S=>∃s L J R U,S=[some (.sh (dM rs)),some (.owd (K51.xX (K51.oJ rs))),t,u,J,some (fnd (tW rs) L),some (.owd (kI s)),R,U]/\Rd (fw rs) rs.flatten s L/\L.length<=i/\Up (pZ rs.flatten) i s L) (ds:=(pZ rs.flatten).map D.int) (S:=[some (.sh (dM rs)),some (.owd (K51.xX (K51.oJ rs))),t,u,J,some (fnd (tW rs) []),some (.owd []),none,none]) ⟨[],[],J,none,none,rfl,⟨by simp,rfl,bp,by simp,by simp⟩,aa _,λj x h=>absurd h (bW _),by simp,by simp,aV.nil⟩ (by
  rintro i d S hd ⟨s,L,w4,R,U,rfl,hr,hLl,B⟩;rw[gMq]at hd;obtain⟨e,M,rfl⟩:=oMq.mp hd;have hi:=(gSq.mp M).1;rw[(pK _).length_eq]at hi;have H:e∈rs.flatten:=(pK _).mem_iff.mp (mGq M);obtain⟨l,z,E,hc⟩:=S7 G hr H (v2:=t) (v3:=u) (v5:=some (fnd (tW rs) L));have E:rX (qC (sO (nB 8) (nB 6))) qZ 100000 [some (.sh (dM rs)),some (.owd (K51.xX (K51.oJ rs))),t,u,i0 e,some (fnd (tW rs) L),some (.owd (kI s)),some (.ow []),i0 e]=some (.nx [some (.sh (dM rs)),some (.owd (K51.xX (K51.oJ rs))),t,u,i0 e,some (fnd (tW rs) L),some (.owd (kI (s++l))),some (aI l),z]):=E;have sl:=pD l;rcases hc with⟨c,rfl⟩|⟨c,cy⟩
  .refine⟨[some (.sh (dM rs)),some (.owd (K51.xX (K51.oJ rs))),t,u,i0 e,some (fnd (tW rs) L),some (.owd (kI s)),some (aI []),z],?_,s,L,_,_,_,rfl,hr,by lia,B.pass M c⟩
   rw[aNq]at E;have X:¬ (0:Int)<((0:Nat):Int):=by decide
   simp_arith [uy,E,sl,dI,X]
  .have I:=hr.add one cy H c;have Y:=hr.out cy c;have hu2:=B.add sI M c (λx O=>⟨(pK _).mem_iff.mpr (I.sub x (mAq.mpr (.inr O))),Y x O⟩) cy
   have X:(0:Int)<(l.length:Int):=by have:=cy.len;lia
   have l1:((tW rs).map aI++L.map λl=>AV.sh (dI l)).length<pe:=by rw[lAq,lMq,lMq];show _<16777216;lia
   have ea:((tW rs).map aI++L.map λl=>AV.sh (dI l))++[.sh (dI l)]=(tW rs).map aI++(L++[l]).map λl=>.sh (dI l):=by rw[ak,mBq];rfl
   refine⟨[some (.sh (dM rs)),some (.owd (K51.xX (K51.oJ rs))),t,u,i0 e,some (fnd (tW rs) (L++[l])),some (.owd (kI (s++l))),some (.sh (dI l)),z],?_,s++l,L++[l],_,_,_,rfl,I,by rw[lAq,lSq];lia,hu2⟩
   unfold K15.fnd at E ⊢
   simp_arith [uy,E,sl,X,l1,ea])
 obtain⟨S',e,s,L,w4,R,U,rfl,hr,_,B⟩:=key;have Y:Mn (fw rs) rs.flatten L:=hr.orb λx O=>by
  obtain⟨j,hj⟩:=bb.mp ((pK _).mem_iff.mpr O);exact B.all j x (by rw[lMq];exact(gSq.mp hj).1) hj
 have bc:=Ds rs;have lr:rs.length<=pe:=by show _<=16777216;lia
 have e0:AV.ow ((tW rs).map aI)=fnd (tW rs) []:=by unfold K15.fnd;rw[cj,aNq]
 have kk:=U2 rs;refine⟨L,Y,?_,fnd (tW rs) L,?_,BG _ _⟩
 .have P:∀l∈tW rs,l=[]:=λl hl=>by
   unfold tW at hl;obtain⟨x,_,rfl⟩:=mMq.mp hl;rfl
  have eg:(tW rs++L).map good=tW rs++L:=by
   rw[mBq];congr 1
   .conv=>rhs;rw[←de (tW rs)]
    exact mCq λl hl=>by rw[P l hl];rfl
   .conv=>rhs;rw[←de L]
    exact mCq λl hl=>B.gd l hl
  rw[eg];refine(Hj (bf.refl _) ?_).symm;rw[aB];refine⟨?_,B.up,λa ha b _=>?_⟩
  .refine List.pairwise_iff_forall_sublist.mpr λ{a b} hs=>?_
   rw[P a (hs.subset (by simp)),P b (hs.subset (by simp))]
   rfl
  .rw[P a ha];cases b with
   |nil=>rfl
   |cons _ _=>rfl
 .have sA:=pD (pZ rs.flatten)
  simp_arith [uO,Dp,dM,e1,bc,lr,e0,kk,sA,e]
end
end K82
namespace K82
open PySem L2 Mr Z Xe Zl
open K43 (Pu Dy Ind Ll)
open K51 (ye Ps)
open K52 (Sj GV marks BI)
section
variable {M:Λ}{g:Nat->Int}
abbrev pst(M:Λ)(g:AV)(a:Option AV)(v3 v4 v5 v6 v7:Option AV):AS:=[some (.sh (dM M)),some g,a,v3,v4,v5,v6,v7]
def aar(hn:M.flatten.Nodup)(hl:M.flatten.length<=500000){G:AV}:∃v3 v4 v5,zZ 3 4 uc 0 (M.map dI) (pst M G (some (.owd [])) none none none none none)=some (.nx (pst M G (some (.owd (oh 0 M))) v3 v4 v5 none none)):=by
 have key:=FT (x:=3) (y:=4) (k:=0) (body:=uc) (λi S=>∃v3 v4 v5,S=pst M G (some (.owd (oh 0 (M.take i)))) v3 v4 v5 none none) (ds:=M.map dI) (S:=pst M G (some (.owd [])) none none none none none) ⟨none,none,none,rfl⟩ (by
  rintro i d S hd ⟨v3,v4,v5,rfl⟩;rw[aQ];obtain⟨r,hr,rfl⟩:=xi hd;have s:=pI hr;have B:=qD M (i+1);have E:((M.take i).flatten++r).Nodup:=by
   rw[←s];have O:M.flatten=(M.take (i+1)).flatten++(M.drop (i+1)).flatten:=by rw[←fAq,aM]
   rw[O]at hn;exact(nAq.mp hn).1
  rw[s,lAq]at B;have P:=rp (x:=5) (body:=vX) (λj S=>∃v5,S=pst M G (some (.owd (oh 0 (M.take i)++qG i (r.take j)))) (i0 i) (some (.sh (dI r))) v5 none none) (ds:=r.map D.int) (S:=pst M G (some (.owd (oh 0 (M.take i)))) (i0 i) (some (.sh (dI r))) v5 none none) ⟨v5,by simp[qG]⟩ (by
   rintro j d S hd ⟨v5,rfl⟩;obtain⟨z,H,rfl⟩:=uM hd;have X:j<r.length:=(gSq.mp H).1;have I:(oh 0 (M.take i)++qG i (r.take j)).map (·.1)=((M.take i).flatten++r.take j).map aH:=by
    rw[mBq,ud,mBq];unfold qG;rw[mPq];rfl
   have Q:(oh 0 (M.take i)++qG i (r.take j)).length<pe:=zY (by
    have:=congrArg bV I;simp only[lMq,lAq,lTq]at this ⊢;lia)
   have t:vh (oh 0 (M.take i)++qG i (r.take j)) (.inl z) (.int (i:Int))=oh 0 (M.take i)++qG i (r.take (j+1)):=by
    rw[Ay]
    .unfold qG;rw[og H,mBq,ak];rfl
    .rw[I];intro m;obtain⟨x,R,u⟩:=mMq.mp m;cases u;have J:=aV.sublist (dG.append (dG.refl (M.take i).flatten) (aT (j+1) r)) E;rw[og H,←ak]at J;exact(nAq.mp J).2.2 _ R _ (by simp) rfl
   refine⟨_,?_,i0 z,rfl⟩
   simp_arith [vX,Q,t])
  obtain⟨Y,u,U,rfl⟩:=P;rw[lMq,aE]at u;refine⟨_,?_,i0 i,some (.sh (dI r)),U,rfl⟩;have L:=yF r (M.take i) 0;rw[aQ,lTq,cJ (bZ (gSq.mp hr).1),←og hr]at L;rw[L]
  simp_arith [uc,dI,u])
 obtain⟨S',e,v3,v4,v5,rfl⟩:=key;rw[aQ,lMq,aE]at e;exact⟨v3,v4,v5,e⟩
def XF(s:Mp M){e:Int}(t:e∈M.flatten){v3 v4 v6 v7:Option AV}:rH (pst M (aI (marks M g)) (some (.sh (.fd (oh 0 M)))) v3 v4 (i0 e) v6 v7)=some (.nx (pst M (aI (marks M (GV g (g (plc M e)) (g (plc M (-e)))))) (some (.sh (.fd (oh 0 M)))) v3 v4 (i0 e) (i0 (g (plc M e))) (i0 (g (plc M (-e)))))):=by
 have x:Z.getD (oh 0 M) (.inl e)=some (.int (plc M e:Int)):=(Pu s).kv t;have z:Z.getD (oh 0 M) (.inl (-e))=some (.int (plc M (-e):Int)):=(Pu s).kv (s.hneg e t);have B:=BI (g:=g) (K52.PY s t).1;have E:=BI (g:=g) (K52.PY s (s.hneg e t)).1;generalize g (plc M e)=u at *;generalize g (plc M (-e))=G at *;have H:=K52.Pj (M:=M) (g:=g) (o1:=u) (o2:=G);have I:(marks M g).length<=pe:=oM (by unfold K52.marks;rw[lMq,aO];have:=s.hr;lia)
 by_cases c:u=G
 .subst c;have J:GV g u u=g:=funext λk=>by
   unfold GV;split
   .rename_i h;exact h.symm
   .rfl
  rw[J]
  simp_arith [rH,x,z,B,E]
 .simp_arith [rH,x,z,B,E,c,H,I]
def Yc(s:Mp M)(h:Sj M M.flatten g){kn:Θ}{PS:List Θ}(u:Ps M M.length kn PS):(Ms.dd (marks M g)).length=PS.length:=by
 obtain⟨l,t,hl,z⟩:=Ll s u;rw[←hl,←lMq (f:=g) (as:=l)];have nd:(l.map g).Nodup:=bo.mpr (t.pw.imp λ{a b} n q=>n (h.snd a b q))
 refine((cU (Ms.aaZ _) nd).mpr λx=>?_).length_eq
 rw[Ms.YO];unfold K52.marks;rw[mMq,mMq];constructor
 .rintro⟨k,hk,rfl⟩;obtain⟨r,hr,B⟩:=z k (cA.mp hk);exact⟨r,hr,(h.rch s B).symm⟩
 .rintro⟨k,hk,rfl⟩;exact⟨k,cA.mpr (t.lt k hk),rfl⟩
def pieces_ok(s:Mp M){kn:Θ}{PS:List Θ}(U:Ps M M.length kn PS):xP [dM M]=i0 ((PS.length:Nat):Int):=by
 have hl:=s.hl;have hr:=s.hr;obtain⟨L,O,z,P⟩:=aar s.hn (by lia) (G:=aI (marks M λk=>(k:Int)))
 have key:=rp (x:=5) (body:=rH) (λi S=>∃g z E H,S=pst M (aI (marks M g)) (some (.sh (.fd (oh 0 M)))) L O z E H/\Sj M (M.flatten.take i) g) (ds:=M.flatten.map D.int) (S:=pst M (aI (marks M λk=>(k:Int))) (some (.sh (.fd (oh 0 M)))) L O z none none) ⟨λk=>(k:Int),z,none,none,rfl,λa b q=>by
   have:a=b:=by exact_mod_cast q
   rw[this];exact .base,by simp⟩ (by
  rintro i d S hd ⟨g,X,E,H,rfl,B⟩;rw[gMq]at hd;obtain⟨e,Q,rfl⟩:=oMq.mp hd;have t:=mGq Q;have u:=B.step s t;rw[←og Q]at u;exact⟨_,XF s t,_,_,_,_,rfl,u⟩)
 obtain⟨S',R,g,X,E,H,rfl,B⟩:=key;rw[lMq,aE]at B;have Y:=Yc s B U;have rg:=zc (n:=M.length) (by lia)
 have r0:(oK 0 M.length).map AV.sh=(marks M λk=>(k:Int)).map λn=>.sh (.int n):=by
  rw[JJ];unfold K52.marks;rw[mPq,mPq];rfl
 have ll:(oK 0 M.length).length=M.length:=oT 0 M.length;have la:M.length<=pe:=oM (by lia)
 have lP:(marks M g).length=M.length:=by unfold K52.marks;rw[lMq,aO]
 have I:M.length<=4000:=by lia
 have kk:(oh 0 M).map (λp=>kD p.1)=M.flatten.map D.int:=by
  have:=congrArg (iZ kD) (ud M 0);rw[mPq,mPq]at this;exact this
 have J:((5:Nat)≠2)=True:=by simp
 unfold pst aI at P R
 simp_arith [xP,CA,rg,Vt,r0,ll,la,P,J,kk,R,Yb,lP,I,Y]
def QZ(rs:Λ):oy oH (kSc (rD qi (nA (nB 0) nH))) [] (rs.map dI)=some ((rs.map λr=>(r.length:Int)).map λn=>.sh (.int n)):=by
 rw[Z.oO (λd=>.sh (.int ((Aj d).length:Int)))]
 .rw[mPq,mPq];refine congrArg some (mCq λr _=>?_)
  show AV.sh (.int ((Aj (dI r)).length:Int))=_;rw[rK];rfl
 .intro d hd;obtain⟨r,hr,rfl⟩:=Ap hd;rw[rK];refine⟨[some (.sh (dI r))],?_⟩
  simp_arith [dI]
theorem Me:∀rs:Λ,(rs.map λr=>(r.length:Int)).sum=(rs.flatten.length:Int)
 | []=>rfl
 |r::rs=>by
  rw[ai,du,Me rs,fCq,lAq];lia
def K1(s:Mp M)(t:∀e∈M.flatten,e≠0){F:Λ}{x:AV}(I:K15.vS [dM M]=some (.ow (F.map aI)))(u:uO [dM M]=some x)(L:nK x=dM F)(U:F.length<=2000):∃c:Ϝ,K43.wG [dM M]=some (.sh (.tup (c.map D.int)))/\xq [dM M]=some (aI c)/\c.length=5/\Bd c:=by
 obtain⟨X,PS,B,O⟩:=K17.OB s I;have P:=pieces_ok s B;have hr:=s.hr;have hl:=s.hl;have Y:=K17.Wu s t;have E:=QZ M;have so:Gq (M.map λr=>(r.length:Int)):=⟨λn hn=>by
  obtain⟨r,hr,rfl⟩:=mMq.mp hn;have:=(bE hr).length_le;constructor <;> lia,by rw[lMq];lia⟩
 have Q:=Me M;have R:M.length<=pe:=oM (by lia)
 have mu:∀i:Int,wa (.int 2) (.int i)=some (.int (2*i)):=λi=>Iw (by decide) (by decide)
 have S:=λi:Int=>Ew (i:=i) (j:=2) (by decide) (by decide)
 have G:((M.map λr=>(r.length:Int)).map λn=>AV.sh (.int n)).map nK=(M.map λr=>(r.length:Int)).map D.int:=by rw[mPq];exact mCq λr _=>pT _
 have fs:=N6 (M.map λr=>(r.length:Int)) so
 rw[Q]at fs;have hd:(M.flatten.length:Int) / 2=((Dy M).length:Int):=by lia
 have lp:PS.length<=M.length:=by
  obtain⟨l,H,hl,_⟩:=Ll s B;rw[←hl];exact K51.ZC _ _ H.nd H.lt
 refine⟨[(M.length:Int),((Dy M).length:Int),(F.length:Int),((PS.length:Nat):Int),(2*((PS.length:Nat):Int)-(M.length:Int)+((Dy M).length:Int)-(F.length:Int)) / 2],O,?_,rfl,λz t=>?_⟩
 .generalize (M.map λr=>(r.length:Int))=J at E G fs
  rw[hd.symm]
  simp_arith [xq,Cw,dM,E,R,G,fs,mu,S,u,L,P,aI]
 .simp only[ag,cP,or_false]at t;rcases t with rfl|rfl|rfl|rfl|rfl <;> lia
end
end K82
namespace K82
open PySem L2 Mr Z Xe Zl
open K08 (aS dS nX uC wA A5 GD Di yH AJ xI)
open K43 (Dy TX)
open K15 (tW DX fw yt Df Dz)
def Ro{x y:Str}(z:A5 x)(s:A5 y):CN (.list [.str x]) (.list [.str y])=some (.bl (decide (x=y))):=by
 have t:∀x:Str,py (.list [.str x])=some (.list [.str x]):=λx=>by simp[py,Ij]
 have u:∀{x:Str},A5 x->SeqAt.shaped (.list [.str x])=true:=λ{x} h=>by
  show(PyData.canLay0 _ && decide (PyData.depth _<=64))=true;rw[cu];refine⟨by simp only[PyData.canLay0];exact AJ (xs:=[x]) λy s=>by rw[mSq.mp s];exact h,d0 ?_⟩
  have:=xI [x];simp only[PyData.depth];rw[show PyData.depthAll [PyData.str x]=0 from this]
  decide
 unfold CN;rw[t,t];show(if _ then _ else _)=_
 rw[oa ⟨u z,u s,by simp[SeqAt.noMix,SeqAt.noMixAll]⟩]
 have:PySem.Spec.same (.list [.str x]) (.list [.str y])=decide (x=y):=by
  simp[PySem.Spec.same,PySem.Spec.sameAll];rfl
 rw[this]
def Lk(x:Str):Prop:=(Txt.split x " " = [x]/\x.length<=400000/\A5 x)/\¬ x = "found" /\ ¬ x = "raze" /\ ¬ x = "undo" /\ ¬ x = "redo" /\ ¬ x = "over"
def TC(M:Λ):D:=.ins "Desk" [("ground", dM M),("deeds", .list []),("undone", .list [])]
section
variable {M:Λ}{x:Str}{a:AV}
def Oc(h:Lk x):vD [.list [.str x]]=some (.sh .non):=by
 obtain⟨⟨_,_,s⟩,t,u,_⟩:=h;have z:=Ro (y:= "found") s (by unfold A5;decide +kernel)
 have B:=Ro (y:= "raze") s (by unfold A5;decide +kernel)
 have E:¬ ((1:Nat):Int)=2:=by decide
 have G:¬ ((1:Nat):Int)=4:=by decide
 simp_arith [vD,A6,z,B,t,u,E,G]
def yN(h:Lk x)(ht:pX [dM M,.str x]=some a):qB [TC M,.str x]=some a:=by
 have t:=Oc h;obtain⟨⟨u,hl,_⟩,_,_,z,B,E⟩:=h;have s:=K08.Ee (x:=x) hl;rw[u]at s;have fl:V2 "Desk" "ground" (TC M)=some (dM M):=rfl;have G:Nh .non .non=some (.bl false):=rfl
 simp_arith [qB,zz,s,t,G,z,B,E,Yz,U8,fl,ht]
def Tg(h:Rg M):pX [dM M,.str "map"]=some (aS (M.map nX)):=by
 have e:=Jp h
 simp_arith [pX,tG,e]
def Kd{F:Λ}(s:K15.vS [dM M]=some (.ow (F.map aI)))(h:Rg F):pX [dM M,.str "lands"]=some (aS (F.map nX)):=by
 have e:=Jp h;have t:¬ ("lands" : Str) = "map" := by trivial
 have u:=K08.Dc F
 simp_arith [pX,tG,t,s,u,e]
def Jb{c:Ϝ}(s:K43.wG [dM M]=some (.sh (.tup (c.map D.int))))(h:Bd c)(hl:c.length<=1000):pX [dM M,.str "counts"]=some (aS [Kv c]):=by
 have e:=Rw h hl;have t:¬ ("counts" : Str) = "map" := by trivial
 have u:¬ ("counts" : Str) = "lands" := by trivial
 simp_arith [pX,tG,t,u,s,e,aS]
def Gy{c:Ϝ}(s:K43.tJ [dM M]=some (aI c))(h:Bd c)(hl:c.length<=1000):pX [dM M,.str "bridges"]=some (aS [Kv c]):=by
 have e:tq [dI c]=_:=Bj h hl;have t:¬ ("bridges" : Str) = "map" := by trivial
 have u:¬ ("bridges" : Str) = "lands" := by trivial
 have z:¬ ("bridges" : Str) = "counts" := by trivial
 have B:=pD c
 simp_arith [pX,tG,t,u,z,s,B,e,aS]
def Kh{c:Ϝ}(s:K41.xo [dM M]=some (aI c))(h:Bd c)(hl:c.length<=1000):pX [dM M,.str "doors"]=some (aS [Kv c]):=by
 have e:tq [dI c]=_:=Bj h hl;have t:¬ ("doors" : Str) = "map" := by trivial
 have u:¬ ("doors" : Str) = "lands" := by trivial
 have z:¬ ("doors" : Str) = "counts" := by trivial
 have B:¬ ("doors" : Str) = "bridges" := by trivial
 have E:=pD c
 simp_arith [pX,tG,t,u,z,B,s,E,e,aS]
theorem doors_ok(s:Mp M):∃c,K41.xo [dM M]=some (aI c)/\Bd c/\c.length<=1000:=by
 have hr:=s.hr;have:∀k:Nat,∃G:Λ,k<M.length->K41.uZ [dM M,.int (k:Int)]=some (.ow (G.map aI)):=λk=>by
  by_cases c:k<M.length
  .obtain⟨L,u,e,_⟩:=K41.Kr s (gEg c);exact⟨_,λ_=>e⟩
  .exact⟨[],λh=>absurd h c⟩
 obtain⟨g,B⟩:=Classical.skolem.mp this;refine⟨_,K41.doors_ok (by lia) B,λz t=>?_,by have:=K41.V1 M.length g;lia⟩
 unfold K41.Zy at t;obtain⟨k,hk,rfl⟩:=mMq.mp t;have:=cA.mp (cE.mp hk).1;lia
theorem bridges_ok(s:Mp M)(hb:∀z∈M.flatten, -(10 ^ 60)<z/\z<10 ^ 60):∃c,K43.tJ [dM M]=some (aI c)/\Bd c/\c.length<=1000:=by
 refine⟨_,K43.bridges_ok s,λz t=>hb z (K43.Ng.mp (cE.mp t).1).1,?_⟩
 have u:=bH (TX M) (Dy M);have B:(Dy M).length<=M.flatten.length:=by
  unfold Dy;have:=bH (λz=>decide (0<z)) (pZ M.flatten)
  rwa [(pK _).length_eq]at this
 have:=s.hl;lia
end
def Sb(c:Ϝ):∀x∈[Kv c],A5 x:=λx s=>by
 rw[mSq.mp s];show A5 (Builtin.Str.glued " " (c.map oZ));rw[PySem.StrLaws.glued_eq_join];refine yH (show ∀c∈K08.cs " ", c<1114112 by trivial) λw hw=>?_
 obtain⟨z,_,rfl⟩:=mMq.mp hw;exact Di z
def WB(M:Λ):∀x∈M.map nX,A5 x:=λx s=>by
 obtain⟨r,_,rfl⟩:=mMq.mp s;exact GD r
def O0(p:Str×List Str):D:=.tup [.str p.1,dS p.2]
abbrev lw(ns:Ϝ)(M:Λ)(u:AV)(s t:Int)(v6 v7 x z:Option AV):AS:=[some (.sh (.scr ns)),some (.sh (dM M)),some (.sh (TC M)),some u,i0 s,i0 t,v6,v7,x,z]
def Vg{ns:Ϝ}{M:Λ}{u:List (Str×List Str)}(Y:u.length=5)(hd:∀p∈u,qB [TC M,.str p.1]=some (aS p.2)/\(∀x∈p.2,A5 x)/\p.2.length<=5000){w7 w8 w9:Option AV}{s t k:Int}(ht:0<=t/\t<=4) :
  ∃v7 J L,By (lw ns M (.ow ((u.map O0).map .sh)) s t (i0 k) w7 w8 w9)=some (.nx (lw ns M (.ow ((u.map O0).map .sh)) s t (i0 k) v7 J L)):=by
 have mu:wa (.int t) (.int k)=some (.int (t*k)):=Iw (by lia) (by lia)
 have G:=rP (i:=s+t*k) (j:=5) (by decide)
 obtain⟨j,O⟩:∃j:Nat,(s+t*k) % 5=(j:Int):=⟨((s+t*k) % 5).toNat,by lia⟩
 rw[O]at G;have z:j<u.length:=by lia
 obtain⟨H,I,P⟩:=hd _ (gRq z);have B:atI (u.map O0) (j:Int)=some (O0 u[j]):=vx (by rw[gMq,gEg z];rfl)
 generalize u[j]=p at H I P B;have ne:=K08.VF I;have Q:=K07.LQ p.2;have E:=K07.Tq p.2;have R:=wA p.2;have S:p.2.length<=pe:=oM (by lia)
 have st:((u.map O0).map AV.sh).map nK=u.map O0:=by rw[mPq];exact(mCq λd _=>pT d).trans (de _)
 have hh:hlf (.ow ((u.map O0).map .sh)) = .ow ((u.map O0).map .sh):=by
  simp_arith [st]
 have U:RY "Desk" "asked" (.sh (TC M))=some (TC M):=rfl;generalize u.map O0=X at B st hh;refine⟨some (.sh (.str p.1)),some (.sh (dS p.2)),some (.sh (dS p.2)),?_⟩
 simp_arith [By,st,hh,mu,G,B,O0,Zg,Z9,Vz,Wv,aaT,U,H,R,dS,Q,E,ne,S]
def Wj(R F:List Str)(c b d:Str):List (Str×List Str):=[("map", R),("lands", F),("counts", [c]),("bridges", [b]),("doors", [d])]
def X9{ns:Ϝ}(hns:ns.length<=63):Sl [.scr ns]=i4 true:=by
 have R:=CF ns 3;have hP:tI [.scr ns,.int 3]=_:=OE ns 3;have H:=Jn ns 3;have I:0<((ns.drop 3).take 60).length->0<qo ns 3:=λh=>R.2 (by
  rw[lTq,ar]at h;lia)
 obtain⟨av,U,hs⟩:=RO (ns:=ns) (n:=qo ns 3) (start:=3) I (by lia) (by lia)
 have J:uP [.scr ns,.int (qo ns 3:Nat),.int 3]=some av:=U;generalize uI ns (qo ns 3) 3=T at H hs;have hr:∀{X:Λ},zG X->∀r∈X,r.length<=1000:=λhX r hr=>bq (EN hr) (bq hX.most (by decide))
 have hG:=U9 (rs:=T) (by have:=H.rows;lia) λr h=>bq (hr H r h) (by decide)
 have gd:=K8 H.once;have pG:(zH (T.map good)).flatten.Perm T.flatten:=(Hw (yO _)).trans (wB BB T);have t:zG (zH (T.map good)):=H.perm pG (by rw[LD,lMq])
 generalize zH (T.map good)=G at hG pG t gd;have h1:=t.rows;have h2:=t.most;have E:Mp G:=⟨t.once,by lia,by lia,t.both⟩
 have rG:Rg G:=⟨λr hr z u=>t.ends z (mFq.mpr ⟨r,hr,u⟩),hr t,by lia⟩
 have eR:=MM rG;have eD:=Wq t;rw[gd]at eD;obtain⟨L0,o0,Y⟩:=Dz E;obtain⟨L,o1,es,x,l1,l2⟩:=NW E;have pL:((tW G++L0).map good).Perm ((tW G++L).map good):=by
  rw[mBq,mBq];exact bf.append_left _ (o0.perm (yt E) o1)
 rw[OT pL,es]at Y;obtain⟨n1,n2⟩:=Df E o1;have bl:=DX G;have lF:(tW G++L).length<=2000:=by rw[lAq];lia
 have rF:Rg (tW G++L):=by
  have hb:∀r∈tW G,r=[]:=λr hr=>by
   unfold tW at hr;obtain⟨y,_,rfl⟩:=mMq.mp hr;rfl
  refine⟨λr hr z u=>?_,λr hr=>?_,lF⟩
  .rcases mAq.mp hr with q|q
   .rw[hb r q]at u;cases u
   .exact t.ends z ((o1.all z).mp (mFq.mpr ⟨r,q,u⟩))
  .rcases mAq.mp hr with q|q
   .rw[hb r q];exact aJ _
   .exact n1 r q
 obtain⟨c,c1,c2,c3,c4⟩:=K1 E (λe he=>(t.ends e he).1) Y l1 l2 lF
 obtain⟨b,b1,b2,b3⟩:=bridges_ok E λz u=>(t.ends z u).2
 obtain⟨d,d1,d2,d3⟩:=doors_ok E;have eF:=MM rF;have tc:=Bj c4 (by lia)
 have tb:=Bj b2 b3;have td:=Bj d2 d3;have lk:Lk "map" /\ Lk "lands" /\ Lk "counts" /\ Lk "bridges" /\ Lk "doors" := by
  unfold Lk A5;decide +kernel
 have hd:∀p∈Wj (G.map nX) ((tW G++L).map nX) (Kv c) (Kv b) (Kv d),qB [TC G,.str p.1]=some (aS p.2)/\(∀x∈p.2,A5 x)/\p.2.length<=5000:=λp hp=>by
  unfold Wj at hp;simp only[ag,cP,or_false]at hp;rcases hp with rfl|rfl|rfl|rfl|rfl
  .exact⟨yN lk.1 (Tg rG),WB _,by rw[lMq];lia⟩
  .exact⟨yN lk.2.1 (Kd Y rF),WB _,by rw[lMq];lia⟩
  .exact⟨yN lk.2.2.1 (Jb c1 c4 (by lia)),Sb _,cT rfl⟩
  .exact⟨yN lk.2.2.2.1 (Gy b1 b2 b3),Sb _,cT rfl⟩
  .exact⟨yN lk.2.2.2.2 (Kh d1 d2 d3),Sb _,cT rfl⟩
 have ce:oe [.scr ns,.int 1]=i0 (cell ns 1):=Dj ns (by decide)
 have q1:=Ew (i:=cell ns 1) (j:=5) (by decide) (by decide)
 have q2:=rP (i:=cell ns 1 / 5) (j:=5) (by decide)
 have q3:=Ew (i:=cell ns 1) (j:=25) (by decide) (by decide)
 have q4:=rP (i:=cell ns 1 / 25) (j:=4) (by decide)
 generalize hS:cell ns 1 / 5 % 5=sv at q2;have hT:0<=1+cell ns 1 / 25 % 4/\1+cell ns 1 / 25 % 4<=4:=by lia
 generalize B:Wj (G.map nX) ((tW G++L).map nX) (Kv c) (Kv b) (Kv d)=due at hd;have h5:due.length=5:=by rw[←B];rfl
 have key:=rp (x:=6) (body:=By) (λi S=>∃v6 O P Q,S=lw ns G (.ow ((due.map O0).map .sh)) sv (1+cell ns 1 / 25 % 4) v6 O P Q) (ds:=oK 0 10) (S:=lw ns G (.ow ((due.map O0).map .sh)) sv (1+cell ns 1 / 25 % 4) none none none none) ⟨none,none,none,none,rfl⟩ (by
  rintro i z S u ⟨v6,O,P,Q,rfl⟩;have hi:i<10:=by
   have:=(gSq.mp u).1
   rwa [oT]at this
  rw[vj hi]at u;cases u;obtain⟨w7,w8,w9,e⟩:=Vg (ns:=ns) (M:=G) h5 hd hT (s:=sv) (k:=0+(i:Int)) (w7:=O) (w8:=P) (w9:=Q);exact⟨_,e,_,_,_,_,rfl⟩)
 obtain⟨S',e,v6,O,P,Q,rfl⟩:=key;have rg:CQ [.int 10]=some (oK 0 10):=zc (n:=10) (by decide)
 have sG:nK (.ow (G.map λr=>.sh (dI r)))=dM G:=by rw[qm,K17.Vr]
 have sA:=K08.Dc G;have cc:=K07.OI G;have lG:G.length<=pe:=oM (by lia)
 have sc:=pD c;have sb:=pD b;have sd:=pD d;have mk:Vc "Desk" zP "ground" "deeds" "undone" (nJ (oi uY (nJ (nP 1) nZ)) nZ) [some (.sh (.scr ns)),some (.ow (G.map λr=>.sh (dI r))),none,none,none,none,none,none,none,none]=some (.sh (TC G),[some (.sh (.scr ns)),some (.sh (dM G)),none,none,none,none,none,none,none,none]):=by
  have sR:=wA (G.map nX)
  simp_arith [aaH,sG,eR,sR,eD,sA,TC]
 subst B;have sR:=wA (G.map nX);have sF:=wA ((tW G++L).map nX);simp only[lw,Wj,O0,dS,ai,cj]at e;have n3:3<pe:=by decide
 have n4:4<pe:=by decide
 generalize TC G=dk at mk e
 simp_arith [Sl,Tj,hP,J,hs,hG,mk,eR,sR,l1,l2,eF,sF,c2,sc,tc,b1,sb,tb,d1,sd,td,cc,lG,sA,ce,q1,q2,q3,q4,rg,n3,n4,e,dS]
end K82
namespace K82
open PySem L2 Mr Z Xe
def XW{l:W.OpenLaw}{w:ju}{K:Ζ}{h:Heap}{mg:Str->Υ}{fa:Addr}(X:K.In h)(G:h.Ns jr mg)(hfa:mg "law" = some (.ref fa))
  {I:Addr}
  {CZ:Addr}{Ur Ws Wn UL Nv Uy:Value}{Uh Wc:Option Addr}{TY:Array Υ}
  (a0:At K "is_end" AU f0 fd0)
  (a1:At K "turned" Bu f1 fd1)
  (a2:At K "told_ends" vC f2 fd2)
  (a3:At K "refuse_no_end" rO f3 fd3)
  (a4:At K "refuse_twice" sQ f4 fd4)
  (a5:At K "refuse_lone" tV f5 fd5)
  (a6:At K "refuse_too_many" qQ f6 fd6)
  (a7:At K "in_good_order" rN f7 fd7)
  (a8:At K "map_of" A9 f8 fd8)
  (a9:At K "ends_of" zb f9 fd9)
  (a10:At K "roads_of" xx f10 fd10)
  (a11:At K "places_at" vL f11 fd11)
  (a12:At K "nexts" C8 f12 fd12)
  (a13:At K "reached" zk f13 fd13)
  (a14:At K "pieces" Bo f14 fd14)
  (a15:At K "onwards" zg f15 fd15)
  (a16:At K "gone_round" uH f16 fd16)
  (a17:At K "lands" C0 f17 fd17)
  (a18:At K "counts" Bs f18 fd18)
  (a19:At K "thinned" za f19 fd19)
  (a20:At K "without_roads" rM f20 fd20)
  (a21:At K "is_bridge" vy f21 fd21)
  (a22:At K "bridges" zq f22 fd22)
  (a23:At K "groups" Br f23 fd23)
  (a24:At K "doors" CY f24 fd24)
  (a25:At K "row_of" AL f25 fd25)
  (a26:At K "shown" C2 f26 fd26)
  (a27:At K "is_written_end" rm f27 fd27)
  (a28:At K "is_row" A7 f28 fd28)
  (a29:At K "turn_in" yZ f29 fd29)
  (a30:At K "read" Hm f30 fd30)
  (a31:At K "is_road" BQ f31 fd31)
  (a32:At K "is_spot" BF f32 fd32)
  (a33:At K "change_in" vv f33 fd33)
  (L:At K "in_a_row" uE f34 fd34)
  (a36:At K "told_of" zd f36 fd36)
  (a37:At K "_law_cell_at" vA f37 fd37)
  (a38:At K "_law_road" A1 f38 fd38)
  (a39:At K "_law_put_in" xv f39 fd39)
  (a40:At K "_law_turns" zh f40 fd40)
  (a41:At K "_law_places" xw f41 fd41)
  (a42:At K "_law_good" Be f42 fd42)
  (a43:At K "_law_lands" zi f43 fd43)
  (a44:At K "_law_rows" AC f44 fd44)
  (a45:At K "_law_pieces" xJ f45 fd45)
  (a46:At K "_law_counts" xM f46 fd46)
  (a47:At K "_law_line" AK f47 fd47)
  (a49:W.nsIn K jr "law" = some (some (.ref f49))) (l49:K.lookup f49=some ⟨oc49,od49,.func (W.fnOf "law" "law" (vP zL) (sZ zL) (nD zL) .none kV49 dc49 pm49 an49 cd49 ct49),sl49⟩) (c49:W.codeIn K cd49 "law" = true) (k49:W.keepIn K (.ref f49)=true)
  (MJ:W.nsIn K jr "Desk" = some (some (.ref I))) (Wo:W.plainGet K I Str.empty=true) (VG:W.hasDictIn K I=true) (TU:W.plainOver K I=true) (Vi:W.findIn K (.ref I) "__setattr__" = some (some (.builtin "object.__setattr__")))
  (vo:W.findIn K (.ref I) "ground" = some none)
  (vY:W.findIn K (.ref I) "deeds" = some none)
  (vn:W.findIn K (.ref I) "undone" = some none)
  (V0:W.makesIn K I=true) (Wg:W.findIn K (.ref I) "__init__" = some (some (.ref CZ))) (Vh:W.isFn K (.ref CZ)=true) (V8:W.keepIn K (.ref I)=true)
  (Nu:K.lookup CZ=some ⟨Ur,Uh,.func (W.fnOf "__init__" "Desk.__init__" (vP AB) (sZ AB) (nD AB) .none Ws Wn UL Wc Nv Uy),TY⟩) (NB:W.codeIn K Nv "Desk.__init__" = true) (Mc:W.keepIn K (.ref CZ)=true)
  (J:AtM K I "asked" "Desk.asked" xl f48 fd48)
  (M:W.nsIn K jr "set" = some none)
  (O:W.nsIn K jr "sum" = some none)
  {Cj:Tok}(Ip:W.nsIn K jr "MOST_ENDS" = some (some (.int 128 Cj))) {vi:Tok}(Aa:W.nsIn K jr "MOST_BARE_PLACES" = some (some (.int 128 vi))) {u:Tok}(x:W.nsIn K jr "BARE_PLACE" = some (some (.str "." u))) {z:Tok}(E:W.nsIn K jr "FIGURES" = some (some (.str "0123456789" z))) {yk:Tok}(D1:W.nsIn K jr "MOST_FIGURES" = some (some (.int 60 yk)))
  (z0:W.nsIn K jr "len" = some none) (z1:W.nsIn K jr "min" = some none) (z2:W.nsIn K jr "max" = some none) (z3:W.nsIn K jr "abs" = some none) (z4:W.nsIn K jr "all" = some none) (z5:W.nsIn K jr "sorted" = some none) (z6:W.nsIn K jr "isinstance" = some none) (z7:W.nsIn K jr "list" = some none) (z8:W.nsIn K jr "int" = some none) (z9:W.nsIn K jr "bool" = some none) (z10:W.nsIn K jr "str" = some none) (z11:W.nsIn K jr "dict" = some none) (z12:W.nsIn K jr "zip" = some none) (z13:W.nsIn K jr "enumerate" = some none) (z14:W.nsIn K jr "range" = some none) (z15:W.nsIn K jr "reversed" = some none) :
  ∃fd:jx,(∀(s:Shared) (v:Value),lH s fd ⟨[v],[]⟩ [("_law_script", v)])/\∀base:Heap,K.In base->base.Ns jr mg->yG l.prog w K mg base S6 7 fa fd ["_law_script"] (Nq K):=by
 have e:=hfa.symm.trans (W.mg_of X G a49);cases e;have B:Bt mg:=⟨W.mg_none_of X G z0,W.mg_none_of X G z1,W.mg_none_of X G z2,W.mg_none_of X G z3,W.mg_none_of X G z4,W.mg_none_of X G z5,W.mg_none_of X G z6,W.mg_none_of X G z7,W.mg_none_of X G z8,W.mg_none_of X G z9,W.mg_none_of X G z10,W.mg_none_of X G z11,W.mg_none_of X G z12,W.mg_none_of X G z13,W.mg_none_of X G z14,W.mg_none_of X G z15⟩;have D49:tQ K mg "law" zL ["_law_script"] _ _:=⟨Hv l49 c49 k49,W.mg_of X G a49,b1 (Hv l49 c49 k49) λ_ _ _ _ _ _ _=>rfl⟩
 have yP:=W.mg_of X G Ip;have rS:=W.mg_of X G Aa;have t:=W.mg_of X G x;have H:=W.mg_of X G E;have uS:=W.mg_of X G D1;refine⟨W.fnOf "law" "law" (vP zL) (sZ zL) (nD zL) .none kV49 dc49 pm49 an49 cd49 ct49,λs v=>.of_eq rfl,λbase kb nb=>?_⟩
 have Q:=W.mg_none_of X G M;have R:=W.mg_none_of X G O;have uF:OU K "Desk" I:=⟨MJ,⟨Wo,VG,TU,Vi⟩⟩;have F0:=Pb (P:=l.prog) (w:=w) (base:=base) (uR X G a0 (b1 a0.F)) B
 have F1:=Oi (P:=l.prog) (w:=w) (base:=base) (uR X G a1 (b1 a1.F)) B
 have F2:=GU (P:=l.prog) (w:=w) (base:=base) (uR X G a2 (b1 a2.F)) B
 have F3:=B5 (uR X G a3 (b1 a3.F)) B F0
 have F4:=CO (P:=l.prog) (w:=w) (base:=base) (uR X G a4 (b1 a4.F)) B
 have F5:=DI (P:=l.prog) (w:=w) (base:=base) (uR X G a5 (b1 a5.F)) B
 have F6:=zO (uR X G a6 (b1 a6.F)) B yP rS F2
 have F7:=Cd (uR X G a7 (b1 a7.F)) B F1
 have F8:=N4 (uR X G a8 (b1 a8.F)) B F2 F3 F4 F5 F6 F7
 have F9:=KD (uR X G a9 (b1 a9.F)) B F2
 have F10:=IS (uR X G a10 (b1 a10.F)) B F9
 have S:=He (P:=l.prog) (w:=w) (base:=base) (uR X G a11 (b1 a11.F)) B
 have F12:=SY (P:=l.prog) (w:=w) (base:=base) (uR X G a12 (b1 a12.F)) B
 have U:=LH (uR X G a13 (b2 a13.F)) B S
 have F14:=O6 (uR X G a14 (b1 a14.F)) B U
 have F15:=Ks (uR X G a15 (b1 a15.F)) B F12
 have F16:=EZ (P:=l.prog) (w:=w) (base:=base) (uR X G a16 (b2 a16.F)) B
 have F17:=RZ (uR X G a17 (b1 a17.F)) B F15 F9 F7 F16
 have F18:=O1 (uR X G a18 (b1 a18.F)) B F10 F17 F14
 have F19:=Kw (P:=l.prog) (w:=w) (base:=base) (uR X G a19 (b2 a19.F)) B
 have F20:=BH (uR X G a20 (b2 a20.F)) B F19
 have F21:=GB (uR X G a21 (b2 a21.F)) B S U F20
 have F22:=LC (uR X G a22 (b1 a22.F)) B F10 F21
 have F23:=O8 (uR X G a23 (b2 a23.F)) B S F20 U
 have F24:=Sm (uR X G a24 (b1 a24.F)) B F23
 have F25:=Pl (P:=l.prog) (w:=w) (base:=base) (uR X G a25 (b1 a25.F)) B t
 have F26:=QI (uR X G a26 (b1 a26.F)) B F25
 have F27:=AM (P:=l.prog) (w:=w) (base:=base) (uR X G a27 (b1 a27.F)) B H uS
 have F28:=Ol (uR X G a28 (b1 a28.F)) B t F27
 have F29:=LM (P:=l.prog) (w:=w) (base:=base) (uR X G a29 (b1 a29.F)) B t
 have F30:=V4 (uR X G a30 (b1 a30.F)) B F8 F28 F29
 have F31:=Kb (P:=l.prog) (w:=w) (base:=base) (uR X G a31 (b1 a31.F)) B
 have F32:=KG (P:=l.prog) (w:=w) (base:=base) (uR X G a32 (b1 a32.F)) B
 have F33:=HL (uR X G a33 (b1 a33.F)) B F31 F32
 have F34:=E4 (P:=l.prog) (w:=w) (base:=base) (uR X G L (b1 L.F)) B
 have F35:=E2 (P:=l.prog) (w:=w) (base:=base) (uR X G L (b1 L.F)) B
 have F36:=Le (uR X G a36 (b2 a36.F)) B F26 F17 F34 F35 F18 F22 F24
 have Y:=Hg (P:=l.prog) (w:=w) (base:=base) (uR X G a37 (b2 a37.F)) B
 have F38:=N8 (uR X G a38 (b2 a38.F)) B Y
 have F39:=IX (P:=l.prog) (w:=w) (base:=base) (uR X G a39 (b3 a39.F)) B
 have F40:=Kz (uR X G a40 (b3 a40.F)) B F39 F38
 have F41:=JX (uR X G a41 (b2 a41.F)) B Y
 have F42:=OP (P:=l.prog) (w:=w) (base:=base) (uR X G a42 (b1 a42.F)) B
 have F43:=KA (P:=l.prog) (w:=w) (base:=base) (uR X G a43 (b1 a43.F)) B
 have F44:=Pf (P:=l.prog) (w:=w) (base:=base) (uR X G a44 (b1 a44.F)) B
 have F45:=JY (P:=l.prog) (w:=w) (base:=base) (uR X G a45 (b1 a45.F)) B Q
 have F46:=Ii (uR X G a46 (b1 a46.F)) B R F45 F43
 have F47:=NF (P:=l.prog) (w:=w) (base:=base) (uR X G a47 (b1 a47.F)) B
 have F48:=E3 J.F ⟨J.a,J.i,J.F.kp⟩ (b2 J.F) B F33 F36 uF vo vY vn
 have KB:=PN (P:=l.prog) (w:=w) (base:=base) F30 (Hv Nu NB Mc) (b2 (Hv Nu NB Mc)) ⟨V0,Wg,Vh,V8⟩ uF.cl vo vY vn (W.mg_of X G MJ)
 have F49:=Zi D49 B F42 F40 F44 F41 Y F43 F47 F46 F22 F24 uF vo vY vn KB F48;exact F49.ok.imp (T4 λns h=>X9 h)
def acg{l:W.OpenLaw}{q:jq}{loose:List Str}{G:(Str->Υ)->Heap->Prop}{B:ju->Heap->Prop}{d:DefRec}{K:Params->Ζ}(hn:l.most=some 63)(t:d.params.defaults=[])
  (H:∀(w:ju) (h:Heap),B w h->(K w.params).In h)
  (F:∀(w:ju) (mg:Str->Υ) (E:Addr) (h:Heap),(K w.params).In h->h.Ns jr mg->mg d.name=some (.ref E) ->
   ∃fd:jx,(∀(s:Shared) (u:Value),lH s fd ⟨[u],[]⟩ [("_law_script", u)])/\∀base:Heap,(K w.params).In base->base.Ns jr mg->yG l.prog w (K w.params) mg base S6 7 E fd ["_law_script"] (Nq (K w.params))) :
  W.WalkO q loose G B l.row.toRowW d [] (λf vs=>PySem.call f vs):=
 L2.UJ (n:=63) (k:=7) (x:= "_law_script") (CX:=λ_=>S6) (sp:=λw=>Nq (K w.params)) hn (by decide) t ⟨rfl,by decide,by decide⟩ H F (λ_ _ a ns hl _ I=>⟨a,ns,rfl,I,hl,λ_=>rfl⟩) λ_ _ _ _ _ z=>z
end K82
open PySem PySem.W PyProof.Rows
set_option maxRecDepth 100000 in
set_option maxHeartbeats 0 in
theorem PySem.Challenge.cw_mapround_k82_what_is_asked_holds : PySem.Challenge.rw_mapround_k82_what_is_asked.Holds := by
 refine hd82 ?_
 k_fill
 refine K82.acg (l:=PySem.Challenge.rw_mapround_k82_what_is_asked) rfl rfl (λw h Y=>W.km_in_of Y) ?F
 case F=>
  intro w mg fa h KX G hmg;apply K82.XW KX G hmg
  all_goals first|exact Mr.at_mk (by k_is) (by k_is) (by k_is) (by k_is)|exact Mr.atM_mk (by k_is) (by k_is) (by k_is) (by k_is) (by k_is)|k_is|kernel_rfl
