import PyProof.Rows.All
import Wide.All
import OpenK.AllK
import Wide.FinOn
import Lean
import PyProof.EqAt
import PyProof.EqKinds
import PyProof.TupleCall
import KE.KSortKey
import KE.KLam
import PySem.Challenge.RW_shortrows_k44_desk_runs
namespace PySem.W.Fast
def tw7932668216382338551:=0
noncomputable def tw14144531242909146513:=0
noncomputable def tw812447577853918272:=0
noncomputable def tw4124239415365850082:=0
noncomputable def tw15077483644622389122:=0
noncomputable def tw18408333386290614792:=0
noncomputable def tw11759771693432538263:=0
noncomputable def tw12750943919538130004:=0
noncomputable def tw1862956668285564615:=0
noncomputable def tw4599876588897359432:=0
noncomputable def tw3003921720277394116:=0
noncomputable def tw16488868079434482914:=0
noncomputable def tw18165556425559844005:=0
noncomputable def tw18038976277867553457:=0
noncomputable def tw4413690417101117378:=0
noncomputable def tw17723467442646891489:=0
noncomputable def tw10015661868250294696:=0
noncomputable def tw12851432793657225103:=0
noncomputable def tw4396248724025095182:=0
noncomputable def tw10690503127056111735:=0
noncomputable def tw4909806286954141881:=0
noncomputable def tw6221299346644829178:=0
noncomputable def tw17085821004842019961:=0
noncomputable def tw16730123346019778541:=0
noncomputable def tw17994897170661455859:=0
noncomputable def tw15859357903845241357:=0
noncomputable def tw16876707830260863867:=0
noncomputable def tw6533746091957813428:=0
noncomputable def tw16089146276193119012:=0
noncomputable def tw10306131754739539006:=0
noncomputable def tw8519571349861556125:=0
noncomputable def tw7887383882217047729:=0
noncomputable def tw14002564258503186326:=0
noncomputable def tw11992393114137714084:=0
noncomputable def tw1469997783660480603:=0
noncomputable def tw10472883205586429024:=0
noncomputable def tw12332892699377381286:=0
noncomputable def tw8308543031338944782:=0
noncomputable def tw7152327160603284983:=0
noncomputable def tw15995230735602450659:=0
noncomputable def tw11234421628264850159:=0
noncomputable def tw1913341622474558519:=0
noncomputable def tw12303536729539907232:=0
noncomputable def tw14360438336621089218:=0
noncomputable def tw12695036440455208824:=0
noncomputable def tw15548307934949401044:=0
noncomputable def tw17297148023480979964:=0
noncomputable def tw13464282936382339767:=0
noncomputable def tw1532583602203743223:=0
noncomputable def tw291644595211994872:=0
noncomputable def tw11045502917552958058:=0
noncomputable def tw2355440446550169183:=0
noncomputable def tw13680411171946863984:=0
noncomputable def tw1889384189173077250:=0
noncomputable def tw9745072868785099918:=0
noncomputable def tw12523867403553574321:=0
noncomputable def tw11167436132742928149:=0
noncomputable def tw17909591333736404829:=0
noncomputable def tw15806665160391774191:=0
noncomputable def tw14673391448580294561:=0
noncomputable def tw6607574535675533125:=0
noncomputable def tw3441618099973011137:=0
noncomputable def tw17479408476874733717:=0
noncomputable def tw1476641866815653639:=0
noncomputable def tw10917317810719331662:=0
noncomputable def tw6636220458796055776:=0
noncomputable def tw17250371409938622613:=0
noncomputable def tw12969666058724254453:=0
noncomputable def tw14763049409815226022:=0
noncomputable def tw16155242166051790815:=0
noncomputable def tw10169034636035169525:=0
noncomputable def tw9370152225485571985:=0
noncomputable def tw787732365811446499:=0
noncomputable def tw11483640473317092276:=0
noncomputable def tw12449658950707868043:=0
noncomputable def tw3417565756215878117:=0
noncomputable def tw2151135907341083578:=0
noncomputable def tw6758738188785950881:=0
noncomputable def tw2930857885308823644:=0
noncomputable def tw16764115810458173524:=0
noncomputable def tw4752864372796397870:=0
noncomputable def tw6314561179161290722:=0
noncomputable def tw9927188698980383956:=0
noncomputable def tw18203366695914637272:=0
noncomputable def tw17602668068942735307:=0
noncomputable def tw4186805162083130782:=0
noncomputable def tw13030336214426647447:=0
noncomputable def tw7551330530579689784:=0
noncomputable def tw6661534887373702313:=0
noncomputable def tw7208201000683158215:=0
noncomputable def tw11498282656801568751:=0
noncomputable def tw7393813430282513589:=0
noncomputable def tw2873219636337572105:=0
noncomputable def tw6129698758307241048:=0
noncomputable def tw14032892306231041561:=0
noncomputable def tw10424309965611618636:=0
noncomputable def tw16419319956846198466:=0
noncomputable def tw1601132075859390401:=0
noncomputable def tw15742277416133137562:=0
noncomputable def tw207074437235330173:=0
noncomputable def tw5218751785787065566:=0
noncomputable def tw4171900722671312470:=0
noncomputable def tw3445580301003788187:=0
noncomputable def tw11510836492636060423:=0
noncomputable def tw8692751306433073089:=0
noncomputable def tw4429455782163877268:=0
noncomputable def tw6826656987410893611:=0
noncomputable def tw4253153451395511349:=0
noncomputable def tw16216274526340010455:=0
noncomputable def tw2135596759898931434:=0
noncomputable def tw6284424915976944117:=0
noncomputable def tw7396479207586928814:=0
noncomputable def tw9840703245463899946:=0
noncomputable def tw3716693105118057558:=0
noncomputable def tw6504909204311445090:=0
noncomputable def tw8947196665364484827:=0
noncomputable def tw13850846948403944685:=0
noncomputable def tw18281516861081010307:=0
noncomputable def tw10428162179009362333:=0
noncomputable def tw3899928618733547597:=0
noncomputable def tw1839570390515915581:=0
noncomputable def tw5920062776507528877:=0
noncomputable def tw1968459396205844879:=0
noncomputable def tw4160003817547582144:=0
noncomputable def tw15422965526040845452:=0
noncomputable def tw16830063691672373381:=0
noncomputable def tw18003422240764375813:=0
noncomputable def tw4406373013983518099:=0
noncomputable def tw15755916302636018555:=0
noncomputable def tw16263081739199647771:=0
noncomputable def tw16245933434353586476:=0
noncomputable def tw11699479197482302977:=0
noncomputable def tw15797744435038366176:=0
noncomputable def tw17938921913656885818:=0
noncomputable def tw8240182531760209611:=0
noncomputable def tw11839806257441890548:=0
noncomputable def tw11868790161063846077:=0
noncomputable def tw18179115922057281818:=0
noncomputable def tw173302379079434906:=0
noncomputable def tw5488128274788443163:=0
noncomputable def tw7255645036387804304:=0
noncomputable def tw4663404213978645484:=0
noncomputable def tw18319850248285496504:=0
noncomputable def tw16060958101354411850:=0
noncomputable def tw4507397980707524994:=0
noncomputable def tw10454833167109155325:=0
noncomputable def tw3107672543507775180:=0
noncomputable def tw15034374399447977853:=0
noncomputable def tw8559514665846872835:=0
noncomputable def tw4935629822873742888:=0
noncomputable def tw14905183011272725914:=0
noncomputable def tw16854361053618915904:=0
noncomputable def tw6685143916953744427:=0
noncomputable def tw2825343824522838367:=0
noncomputable def tw10814611007991203868:=0
noncomputable def tw9412589493618173265:=0
noncomputable def tw13447214582669000957:=0
noncomputable def tw14558210391513197681:=0
noncomputable def tw18166480269086942085:=0
noncomputable def tw17224896937099880363:=0
noncomputable def tw1917546996208844556:=0
noncomputable def tw7441134065881176864:=0
noncomputable def tw10738811232207121130:=0
noncomputable def tw9999641804094623411:=0
noncomputable def tw1673713815086910845:=0
noncomputable def tw6871180609791189914:=0
noncomputable def tw6608684771261450337:=0
noncomputable def tw7680526243204529635:=0
noncomputable def tw4767918854884741469:=0
noncomputable def tw17706363558418152839:=0
noncomputable def tw16838455017786474958:=0
noncomputable def tw6955202367504643332:=0
noncomputable def tw12212982802824402976:=0
noncomputable def tw6960554123721738795:=0
noncomputable def tw9688181745890286560:=0
noncomputable def tw7851083367988064547:=0
noncomputable def tw18007032741215289698:=0
noncomputable def tw1966111949894904069:=0
noncomputable def tw6956650639348381072:=0
noncomputable def tw6445785656836836478:=0
noncomputable def tw11824495128331139602:=0
noncomputable def tw17909274838450043640:=0
noncomputable def tw4044020754202448217:=0
noncomputable def tw1468437507151555529:=0
noncomputable def tw7416714810053185340:=0
noncomputable def tw18238182890145991875:=0
noncomputable def tw4894543496055124708:=0
noncomputable def tw12379046201402860421:=0
noncomputable def tw220710300471842416:=0
noncomputable def tw2751910796926285943:=0
noncomputable def tw2695443058498980833:=0
noncomputable def tw12958834129264238820:=0
noncomputable def tw11540175814506669076:=0
noncomputable def tw11973856040166653239:=0
noncomputable def tw5294555538903463386:=0
noncomputable def tw14652215371313892837:=0
noncomputable def tw1772602603505372309:=0
noncomputable def tw9981869308647035504:=0
noncomputable def tw12113260747222878606:=0
noncomputable def tw9236685190202856505:=0
noncomputable def tw8980685614949091059:=0
noncomputable def tw6053654530854708280:=0
noncomputable def tw12580460643759087794:=0
noncomputable def tw5416327776230403155:=0
noncomputable def tw3192317259614892222:=0
noncomputable def tw9628340137793914377:=0
noncomputable def tw6379614668396685348:=0
noncomputable def tw18441614068292691303:=0
noncomputable def tw12664848092763617461:=0
noncomputable def tw9589707280259743676:=0
noncomputable def tw7462259907051003785:=0
noncomputable def tw4299340650685009649:=0
noncomputable def tw7237850350462374931:=0
noncomputable def tw16519000659401827741:=0
noncomputable def tw8367271106435227967:=0
noncomputable def tw14076788302088265855:=0
noncomputable def tw1706743493411244209:=0
noncomputable def tw15217982153708499601:=0
noncomputable def tw8153248668420207759:=0
noncomputable def tw4708704854474129344:=0
noncomputable def tw7514094188395786020:=0
noncomputable def tw8654603580660700351:=0
noncomputable def tw7872319006494522082:=0
noncomputable def tw1322172548831032578:=0
noncomputable def tw16052722706993067900:=0
noncomputable def tw9119133022772396994:=0
noncomputable def tw5104803949454722154:=0
noncomputable def tw11333361538162495202:=0
noncomputable def tw8517110785800684921:=0
noncomputable def tw16369328496866330496:=0
noncomputable def tw3594544630941992947:=0
noncomputable def tw16606048262768048642:=0
noncomputable def tw4209446112948988902:=0
noncomputable def tw18322468875076069393:=0
noncomputable def tw4344641626499693837:=0
noncomputable def tw16608810999774622542:=0
noncomputable def tw11047252359228293255:=0
noncomputable def tw4899530345196704694:=0
noncomputable def tw14126234912915913677:=0
noncomputable def tw11349082610297097929:=0
noncomputable def tw8262611211845200829:=0
noncomputable def tw899478639546665514:=0
noncomputable def tw16873483940190570931:=0
noncomputable def tw5866769466032503270:=0
noncomputable def tw8222971087405168679:=0
noncomputable def tw13174661281069747702:=0
noncomputable def tw1031904340428352842:=0
noncomputable def tw9024241986861648769:=0
noncomputable def tw10231655507600489368:=0
noncomputable def tw10147983063376972888:=0
noncomputable def tw16770820372938548369:=0
noncomputable def tw6621857362573399471:=0
noncomputable def tw4688782995104204949:=0
noncomputable def tw15695675062325554063:=0
noncomputable def tw14722387771609407401:=0
noncomputable def tw16968781587543718796:=0
noncomputable def tw17379399511990807502:=0
noncomputable def tw12784702532066781482:=0
noncomputable def tw12784510544701755847:=0
noncomputable def tw11292204963005401387:=0
noncomputable def tw7215797723942999558:=0
noncomputable def tw15488881138989539656:=0
noncomputable def tw15404917739143243638:=0
noncomputable def tw10012896663800488986:=0
noncomputable def tw3020506608228474136:=0
noncomputable def tw17570917510905714291:=0
noncomputable def tw14009963720038593995:=0
noncomputable def tw10075161040037340845:=0
noncomputable def tw13939184733217741797:=0
noncomputable def tw11179874691944668924:=0
noncomputable def tw9841526950862307874:=0
noncomputable def tw4200297967780421841:=0
noncomputable def tw3637094566821880171:=0
noncomputable def tw13591014636524148900:=0
noncomputable def tw4008786063051627446:=0
noncomputable def tw14499646016286428422:=0
noncomputable def tw793374800500962906:=0
noncomputable def tw4023390741206097831:=0
noncomputable def tw15481228155518763788:=0
noncomputable def tw8725645771196066935:=0
noncomputable def tw14261633196314301174:=0
noncomputable def tw285863100077448113:=0
noncomputable def tw8136641850167193764:=0
noncomputable def tw11992746879080821774:=0
noncomputable def tw6261792694696533170:=0
noncomputable def tw11276181976935038920:=0
noncomputable def tw2352102799079428280:=0
noncomputable def tw10496570167797371518:=0
noncomputable def tw17522642442050216259:=0
noncomputable def tw15528638176325118638:=0
noncomputable def tw10546114127858193280:=0
noncomputable def tw4215312888812532714:=0
noncomputable def tw15325069896188814478:=0
noncomputable def tw9555779515936122662:=0
noncomputable def tw15767254612616908033:=0
noncomputable def tw1840175682143261970:=0
noncomputable def tw943719379797844834:=0
noncomputable def tw13855684846544285046:=0
noncomputable def tw7535915164526040426:=0
noncomputable def tw16350096666936559989:=0
noncomputable def tw6700662807268559639:=0
noncomputable def tw16296332210704637434:=0
noncomputable def tw5310727311196269271:=0
noncomputable def tw8901136352695248421:=0
noncomputable def tw931562378172216267:=0
noncomputable def tw11272349389228517776:=0
noncomputable def tw5802395968832018058:=0
noncomputable def tw4738229359021777014:=0
noncomputable def tw5111141405551853460:=0
noncomputable def tw12477223156782327175:=0
noncomputable def tw17424523969900052582:=0
noncomputable def tw899318953616345342:=0
noncomputable def tw11273264196142916860:=0
noncomputable def tw8365132139060271927:=0
noncomputable def tw3852712647846925908:=0
noncomputable def tw16664824104944174112:=0
noncomputable def tw17411431805420928657:=0
noncomputable def tw6578126408362075063:=0
noncomputable def tw3572969591365270913:=0
noncomputable def tw16466263166738689492:=0
noncomputable def tw14750495139967579996:=0
noncomputable def tw16641453803032461183:=0
noncomputable def tw1953742363681954025:=0
noncomputable def tw18154851003474084387:=0
noncomputable def tw15449507691430936076:=0
noncomputable def tw3796509157428377003:=0
noncomputable def tw15062413595400117880:=0
noncomputable def tw2867189611481288988:=0
noncomputable def tw8437965472761394454:=0
noncomputable def tw2676211823195336153:=0
noncomputable def tw10238295089355392343:=0
noncomputable def tw4299277960334038153:=0
noncomputable def tw1334804935864052582:=0
noncomputable def tw3052084514036077647:=0
noncomputable def tw13019329302209441177:=0
noncomputable def tw4232321624604158791:=0
noncomputable def tw16224577856145465955:=0
noncomputable def tw9967297671357240515:=0
noncomputable def tw7909598042489290986:=0
noncomputable def tw18293846819910643204:=0
noncomputable def tw13755678653480023578:=0
noncomputable def tw16948341393399931812:=0
noncomputable def tw13088801393615571988:=0
noncomputable def tw12698928636019824290:=0
noncomputable def tw12432420623523763457:=0
noncomputable def tw12819294271059315305:=0
noncomputable def tw11510341123383126135:=0
noncomputable def tw2221664859173623781:=0
noncomputable def tw7963059315698861687:=0
noncomputable def tw309912231352602328:=0
noncomputable def tw3271449079915217650:=0
noncomputable def tw12276478788739443830:=0
noncomputable def tw5159326742916675099:=0
noncomputable def tw4075589372999750774:=0
noncomputable def tw9712774486001577778:=0
noncomputable def tw17966940152416363282:=0
noncomputable def tw8489637712357574531:=0
noncomputable def tw7215115634666732404:=0
noncomputable def tw18328535528477021312:=0
noncomputable def tw10552498242897351016:=0
noncomputable def tw7423991608311109366:=0
noncomputable def tw1237696076390810240:=0
noncomputable def tw5275318974860230405:=0
noncomputable def tw12911107662106737431:=0
noncomputable def tw6192273806894453179:=0
noncomputable def tw2629246002141283314:=0
noncomputable def tw7929428302751676508:=0
noncomputable def tw3377823677654871906:=0
noncomputable def tw16889199413418525100:=0
noncomputable def tw6425378458199674109:=0
noncomputable def tw11351933167987985893:=0
noncomputable def tw4782641589938597663:=0
noncomputable def tw15420564496605087657:=0
noncomputable def tw8074235870202104586:=0
noncomputable def tw13917994366672976931:=0
noncomputable def tw13609569232856519745:=0
noncomputable def tw1616008064195111000:=0
noncomputable def tw13751196147357851369:=0
noncomputable def tw13847470780127521004:=0
noncomputable def tw6810921738933886146:=0
noncomputable def tw185939228521125474:=0
noncomputable def tw14141517269678448333:=0
noncomputable def tw8342190818529781283:=0
noncomputable def tw5017940736317314130:=0
noncomputable def tw7398080795347538016:=0
noncomputable def tw1337723397660809469:=0
noncomputable def tw316851311830805624:=0
noncomputable def tw11635090990697238766:=0
noncomputable def tw9011642131130856250:=0
noncomputable def tw8480611357393574300:=0
noncomputable def tw5276908250086503207:=0
noncomputable def tw11816005471457299205:=0
noncomputable def tw9022756086221128563:=0
noncomputable def tw17689177185061781495:=0
noncomputable def tw1425882850871546900:=0
noncomputable def tw3637387681105821531:=0
noncomputable def tw17212525399913702333:=0
noncomputable def tw12219384327795100420:=0
noncomputable def tw9018991782416849571:=0
noncomputable def tw9550112761509265020:=0
noncomputable def tw7669682093161879495:=0
noncomputable def tw17342118836060213187:=0
noncomputable def tw6447215340728233480:=0
noncomputable def tw9278661548601626078:=0
noncomputable def tw7398556431976869222:=0
noncomputable def tw2207456151108545055:=0
noncomputable def tw16165411847626341331:=0
noncomputable def tw11325384654984778251:=0
noncomputable def tw17361079106527271036:=0
noncomputable def tw9426754981262964655:=0
noncomputable def tw15971132200437556488:=0
noncomputable def tw9814133304802250674:=0
noncomputable def tw13639320964995558949:=0
noncomputable def tw7371081708462838744:=0
noncomputable def tw9646905786503574818:=0
noncomputable def tw16921733628702377314:=0
noncomputable def tw13200886729558570141:=0
noncomputable def tw8100679612930481338:=0
noncomputable def tw12324306253949193580:=0
noncomputable def tw10018376413840799511:=0
noncomputable def tw8943030734162713367:=0
noncomputable def tw13375784600067874540:=0
noncomputable def tw360614864418773374:=0
noncomputable def tw8650515478704667830:=0
noncomputable def tw17675165334344380156:=0
noncomputable def tw7634455763371202077:=0
noncomputable def tw8635002412127395976:=0
noncomputable def tw16074201628481350437:=0
noncomputable def tw15606715268683943268:=0
noncomputable def tw4766515669337134213:=0
noncomputable def tw1785765625043272658:=0
noncomputable def tw11476742855104175995:=0
noncomputable def tw87807662124970613:=0
noncomputable def tw4691135897729819006:=0
noncomputable def tw4404315369201725541:=0
noncomputable def tw1383504483650759545:=0
noncomputable def tw7758297679533020615:=0
noncomputable def tw12054236358832455843:=0
noncomputable def tw13254111594934462873:=0
noncomputable def tw8841370473195618799:=0
noncomputable def tw17513239251375674158:=0
noncomputable def tw7569379276915053233:=0
noncomputable def tw18212153873213918878:=0
noncomputable def tw1051499962232020601:=0
noncomputable def tw16994310021213538363:=0
noncomputable def tw6173742662150374308:=0
noncomputable def tw14355974855961213003:=0
noncomputable def tw4332090170952686190:=0
noncomputable def tw5706349218357324801:=0
noncomputable def tw17551296842954468803:=0
noncomputable def tw4921902034258993647:=0
noncomputable def tw13532630050487878069:=0
noncomputable def tw8108555486081669231:=0
noncomputable def tw13800986238870163177:=0
noncomputable def tw8459943642979327555:=0
noncomputable def tw17023770903543198748:=0
noncomputable def tw2698468551696989819:=0
noncomputable def tw10851996464665746412:=0
noncomputable def tw1159113951581767237:=0
noncomputable def tw10570172281103006778:=0
noncomputable def tw4235941529444938468:=0
noncomputable def tw15164469654127688681:=0
noncomputable def tw12775174078937000575:=0
noncomputable def tw14545436448941826986:=0
noncomputable def tw5906008791817399127:=0
noncomputable def tw9659281039694980876:=0
noncomputable def tw2714637213488638276:=0
noncomputable def tw3728168126805668684:=0
noncomputable def tw7649558473785619799:=0
noncomputable def tw23528620415564147:=0
noncomputable def tw8292650600343624418:=0
noncomputable def tw10253026801386560381:=0
noncomputable def tw329490012222695928:=0
noncomputable def tw1345680837731622933:=0
noncomputable def tw5979865289575707610:=0
noncomputable def tw12706198689038458017:=0
noncomputable def tw14191034759543737344:=0
noncomputable def tw6478277272266683153:=0
noncomputable def tw1507115462819261513:=0
noncomputable def tw12051889106998316964:=0
noncomputable def tw17291240184931187225:=0
noncomputable def tw7530810332574515847:=0
noncomputable def tw1166240076109990644:=0
noncomputable def tw17824878267294088975:=0
noncomputable def tw11141145695140964072:=0
noncomputable def tw2837783891348427147:=0
noncomputable def tw16741161594832914471:=0
noncomputable def tw12670730655557845152:=0
noncomputable def tw9902555805558395141:=0
noncomputable def tw10538686485937424526:=0
noncomputable def tw7193889235323191419:=0
noncomputable def tw17958185047609073374:=0
noncomputable def tw2107650772952450657:=0
noncomputable def tw357945223662690996:=0
noncomputable def tw8455278565254691644:=0
noncomputable def tw2097404412599747727:=0
noncomputable def tw11544876269354953620:=0
noncomputable def tw14349261759970532765:=0
noncomputable def tw14714638304970438147:=0
noncomputable def tw6224754331165010783:=0
noncomputable def tw12116752298109283015:=0
noncomputable def tw3399628800093586120:=0
noncomputable def tw1817012632880751926:=0
noncomputable def tw12682424544066436137:=0
noncomputable def tw17725194025276889897:=0
noncomputable def tw9712317147829033415:=0
end PySem.W.Fast
set_option Elab.async false
set_option linter.all false
set_option maxRecDepth 100000
set_option maxHeartbeats 4000000
noncomputable section
set_option compiler.extract_closed false
theorem ℜz0(_:True:=by rfl):True:=⟨⟩
def ℜ0:Lean.Syntax:=ℜz0._auto_1
theorem ℜz1(_:True:=by decide):True:=⟨⟩
def ℜ1:Lean.Syntax:=ℜz1._auto_1
theorem ℜz2(_:True:=by first|exact .inl rfl|exact .inr rfl|assumption):True:=⟨⟩
def ℜ2:Lean.Syntax:=ℜz2._auto_1
theorem ℜz3(_:True:=by intro _;rfl):True:=⟨⟩
def ℜ3:Lean.Syntax:=ℜz3._auto_1
theorem ℜz4(_:True:=by first|exact Or.inl rfl|exact Or.inr (Or.inl rfl)|exact Or.inr (Or.inr rfl)):True:=⟨⟩
def ℜ4:Lean.Syntax:=ℜz4._auto_1
theorem ℜz6(_:True:=by decide +kernel):True:=⟨⟩
def ℜ6:Lean.Syntax:=ℜz6._auto_1
namespace L2
open PySem PySem.Spec PyProof.Rows
variable{us:List Value}{u:Value}{C a b:Addr}{base h:Heap}{items:Array Value}{P:Program}{w:World}{g':Array GenState}{ch fp:List Addr}{c e tg:Expr}{N:List Str}{i j k n:Nat}{M:Model}{E Q:Value->Shared->Prop}{s s':Shared}{pos:Pos}{pins:List (Addr×Obj)}{f:Value->Value->Sem Value}{es:List Expr}{body:List Stmt}{pl:Sem Bool}{mA mg:Str->Option Value}{kw:List (Str×Value)}{fd:FuncData}{outer:List Env}{kindOf:Str->Option NameKind}{scope:Scope}
noncomputable def Kb:=@PySem.wpAny_bind
noncomputable def Kc:=@List.length_map
noncomputable def Kd:=@List.getElem?_eq_getElem
noncomputable def Ke:=@PySem.Heap.get?_push_of_some
noncomputable def Kf:=@if_neg
noncomputable def Kg:=@List.size_toArray
noncomputable def Kh:=@if_pos
noncomputable def Ki:=@Bool.false_ne_true
noncomputable def Kj:=@Nat.le_trans
noncomputable def Kk:=@Nat.le_refl
noncomputable def Kl:=@PySem.Heap.lt_size
noncomputable def Km:=@PySem.wpAny_pure
noncomputable def Kn:=@List.mem_cons
noncomputable def Ko:=@List.mem_cons_of_mem
noncomputable def Kq:=@PySem.Heap.get?_push_size
noncomputable def Kr:=@Nat.lt_of_lt_of_le
noncomputable def Ks:=@List.length_cons
noncomputable def Kt:=@List.map_cons
noncomputable def Ku:=@List.getElem?_eq_some_iff
noncomputable def Kv:=@List.length_append
noncomputable def Kw:=@decide_eq_false
noncomputable def Kx:=@List.map_append
noncomputable def Ky:=@List.mem_cons_self
noncomputable def Kz:=@Nat.ne_of_lt
noncomputable def K0:=@List.getElem?_eq_none_iff
noncomputable def K1:=@congrArg
noncomputable def K2:=@List.getElem?_map
noncomputable def K3:=@beq_eq_false_iff_ne
noncomputable def K4:=@List.not_mem_nil
noncomputable def K5:=@Nat.lt_of_succ_lt
noncomputable def K6:=@List.mem_map
noncomputable def K7:=@Nat.zero_le
noncomputable def K8:=@List.take_of_length_le
noncomputable def K9:=@List.mem_singleton
noncomputable def KA:=@List.mem_append_right
noncomputable def KC:=@List.nodup_cons
noncomputable def KD:=@List.length_take
noncomputable def KG:=@Bool.and_eq_true
noncomputable def KH:=@List.mem_of_getElem?
noncomputable def KI:=@List.all_cons
noncomputable def KJ:=@List.all_eq_true
noncomputable def KL:=@PySem.wpAny_holding
noncomputable def KN:=@List.append_nil
noncomputable def KO:=@List.length_set
noncomputable def KP:=@Nat.lt_of_le_of_lt
noncomputable def KQ:=@beq_self_eq_true
noncomputable def KR:=@List.lookup_cons
noncomputable def KS:=@List.getElem_mem
noncomputable def KU:=@Nat.lt_or_ge
noncomputable def KW:=@List.nodup_nil
noncomputable def KY:=@PySem.wpAny_pyIter_list
noncomputable def KZ:=@List.replicate_succ
noncomputable def K_:=@List.length_replicate
noncomputable def La:=@Int.emod_lt_of_pos
noncomputable def Lb:=@PySem.wpAny_callSpecial?_slot
noncomputable def Lc:=@Int.toNat_natCast
noncomputable def Ld:=@List.length_nil
noncomputable def Le:=@List.getElem?_set_self
noncomputable def Lf:=@PySem.wpAny_field
noncomputable def Lg:=@Nat.lt_irrefl
noncomputable def Lh:=@PySem.wpAny_mono
noncomputable def Li:=@List.length_drop
noncomputable def Lj:=@decide_eq_true
noncomputable def Lk:=@PySem.wpAny_seqItems
noncomputable def Ll:=@List.drop_zero
noncomputable def Lm:=@PyProof.Rows.slot_tuple_getitem
noncomputable def Ln:=@List.mem_append
noncomputable def Lo:=@List.getElem?_set_ne
noncomputable def Lp:=@PySem.call_meets
noncomputable def Lq:=@Int.emod_nonneg
noncomputable def Lr:=@List.map_map
noncomputable def Ls:=@List.flatten_cons
noncomputable def Lu:=@List.any_cons
noncomputable def Lv:=@List.map_congr_left
noncomputable def Lw:=@PyProof.Rows.callWith_type1
noncomputable def Lx:=@PySem.wpAny_pyIter_tuple
noncomputable def Ly:=@PySem.wpAny_setField_rec
noncomputable def Lz:=@PySem.wpAny_passesOwn
noncomputable def L0:=@List.length_singleton
noncomputable def L1:=@List.getElem?_toArray
noncomputable def L3:=@or_false
noncomputable def L4:=@PySem.F.slot_tuple_iterator_next
noncomputable def L5:=@PySem.wpAny_truthy_bool
noncomputable def L6:=@List.getElem?_append_left
noncomputable def L7:=@PySem.wpAny_binaryOp_repeat_ref
noncomputable def L8:=@List.drop_eq_getElem_cons
noncomputable def L9:=@PySem.Heap.size_push
noncomputable def LA:=@Nat.ne_of_gt
noncomputable def LC:=@PySem.wpAny_call_entry
noncomputable def LD:=@decide_eq_decide
noncomputable def LF:=@List.set_eq_of_length_le
noncomputable def LG:=@PySem.F.slot_list_getattribute
noncomputable def LH:=@List.take_succ_eq_append_getElem
noncomputable def LI:=@List.getElem?_replicate
noncomputable def LJ:=@PySem.wpAny_getItem_str_slice
noncomputable def LK:=@Nat.toDigits_of_lt_base
noncomputable def LL:=@List.sum_cons
noncomputable def LM:=@Bool.eq_iff_iff
noncomputable def LN:=@PySem.wpAny_Call_Name_kw
noncomputable def LO:=@PySem.typeIs_int
noncomputable def LP:=@List.find?_cons
noncomputable def LQ:=@PySem.PassesOwn.never
noncomputable def LR:=@Nat.le_succ
noncomputable def LS:=@List.append_assoc
noncomputable def LU:=@PySem.wpAny_newObj_type
noncomputable def LV:=@decide_eq_true_eq
noncomputable def LW:=@List.map_nil
noncomputable def LX:=@beq_iff_eq
noncomputable def LY:=@List.take_length
noncomputable def LZ:=@List.getElem?_append_right
noncomputable def L_:=@Array.length_toList
noncomputable def Ma:=@Nat.lt_trans
noncomputable def Mb:=@Bool.false_eq_true
noncomputable def Mc:=@PySem.AutoSeq1.wpAny_loadPart'
noncomputable def Md:=@if_true
noncomputable def Me:=@PySem.SeqAt.eq_list_lengthsAt
noncomputable def Mf:=@List.length_eq_zero_iff
noncomputable def Mg:=@Nat.toDigits_of_base_le
noncomputable def Mh:=@List.getElem?_set
noncomputable def Mi:=@List.take_add_one
noncomputable def Mj:=@PySem.wpAny_pyNext_list_item
noncomputable def Ml:=@List.map_take
noncomputable def Mm:=@List.map_drop
noncomputable def Mn:=@Nat.le_add_right
noncomputable def Mo:=@PySem.wpAny_pyNext_list_end
noncomputable def Mp:=@PySem.wpAny_execs_nil
noncomputable def Mq:=@PySem.typeIs_str
noncomputable def Mr:=@Nat.min_self
noncomputable def Ms:=@PySem.wpAny_updateSeq_pair
noncomputable def Mt:=@PySem.post_val_or_str
noncomputable def Mv:=@Nat.pow_le_pow_right
noncomputable def Mw:=@Nat.min_eq_left
noncomputable def Mx:=@List.mem_of_mem_drop
noncomputable def My:=@List.filterMap_cons
noncomputable def Mz:=@List.getElem?_range
noncomputable def M0:=@ne_true_of_eq_false
noncomputable def M6:=@Array.toList_append
noncomputable def M7:=@PySem.F.args_tuple_iterator_next_1
noncomputable def M8:=@List.mem_filterMap
noncomputable def M9:=@PySem.F.entry_tuple_iterator_next
noncomputable def MB:=@PySem.SeqAt.EqAt.of_refs
noncomputable def MC:=@PySem.F.args_str_split_2
noncomputable def MD:=@Nat.eq_zero_or_pos
noncomputable def ME:=@PySem.Calls.Name_function_global
noncomputable def MG:=@PySem.wpAny_standAt
noncomputable def MH:=@PySem.wpAny_onRaise
noncomputable def MI:=@Array.size_append
noncomputable def MJ:=@PySem.F.entry_str_split
noncomputable def MK:=@PySem.wpAny_rule
noncomputable def ML:=@List.mem_or_eq_of_mem_set
noncomputable def MM:=@Nat.lt_succ_self
noncomputable def MN:=@Option.isSome_iff_exists
noncomputable def MO:=@if_false
noncomputable def MP:=@PySem.wpAny_comprehension_free
noncomputable def MQ:=@PySem.wpAny_typeOf
noncomputable def MR:=@Nat.sub_zero
noncomputable def MT:=@PySem.F.slot_str_split
noncomputable def MU:=@PyProof.Rows.part_short
noncomputable def MV:=@Nat.length_toDigits_pos
noncomputable def MW:=@List.of_mem_zip
noncomputable def MX:=@List.nil_append
noncomputable def MY:=@List.forIn_cons
noncomputable def MZ:=@PySem.SeqAt.eq_listAt
noncomputable def M_:=@PySem.sizeLine_eq
noncomputable def Nb:=@PySem.Heap.get?_update_other
noncomputable def Nc:=@PySem.Calls.callWith_builtin
noncomputable def Nd:=@Option.map_eq_some_iff
noncomputable def Nf:=@PyProof.Rows.split_pos
noncomputable def Ng:=@List.drop_of_length_le
noncomputable def Nh:=@PySem.NumText.digitsVal_snoc
noncomputable def Ni:=@Bool.false_and
noncomputable def Nk:=@PyProof.Rows.split_le
noncomputable def Nl:=@bne_iff_ne
noncomputable def Nm:=@Bool.true_and
noncomputable def Np:=@PySem.wpAny_attempt
noncomputable def Nq:=@Bool.and_true
noncomputable def Nr:=@Nat.le_of_lt
noncomputable def Nt:=@PySem.codeAny_mono
noncomputable def Nu:=@PySem.seqIndex_neg
abbrev Nv:=PySem.W.Frag
variable{K:Nv}
abbrev Key:=Sum Int Str
noncomputable def iq:Key->Value->Bool
 |.inl k,v=>Value.isInt k v
 |.inr x,v=>Value.isStrOf x v
noncomputable def Js(w:World):Key->Int
 |.inl k=>hashInt k
 |.inr x=>hashStr w x
theorem bF:∀{k:Key} {v:Value},iq k v=true->(∃ i t,k=Sum.inl i/\v=Value.int i t)\/(∃ x t,k=Sum.inr x/\v=Value.str x t)
 |.inl i,v,h=>by
  obtain⟨t,e⟩:=Value.isInt_shape (k:=i) (v:=v) h;exact .inl ⟨i,t,rfl,e⟩
 |.inr x,v,h=>by
  obtain⟨t,e⟩:=Value.isStrOf_shape (x:=x) (v:=v) h;exact .inr ⟨x,t,rfl,e⟩
theorem tF(i:Int)(t:Tok):iq (.inl i) (.int i t)=true:=by simp[iq,Value.isInt]
theorem uX(x:Str)(t:Tok):iq (.inr x) (.str x t)=true:=by simp[iq,Value.isStrOf]
theorem CQ(a b:Int):decide ((Sum.inl a:Key)=Sum.inl b)=(a == b):=by
 by_cases e:a=b
 ·subst e;simp
 ·have h:¬ (Sum.inl a:Key)=Sum.inl b:=fun q=>e (Sum.inl.inj q);rw[Kw h];exact (K3.mpr e).symm
theorem D0(a b:Str):decide ((Sum.inr a:Key)=Sum.inr b)=decide (a=b):=by
 by_cases e:a=b
 ·subst e;simp
 ·have h:¬ (Sum.inr a:Key)=Sum.inr b:=fun q=>e (Sum.inr.inj q);rw[Kw h,Kw e]
theorem DW(a:Int)(b:Str):decide ((Sum.inl a:Key)=Sum.inr b)=false:=Kw (fun q=>nomatch q)
theorem DZ(a:Str)(b:Int):decide ((Sum.inr a:Key)=Sum.inl b)=false:=Kw (fun q=>nomatch q)
noncomputable def bR(prog:Program)(w:World):PySem.KeyKind prog w Key where
 is:=iq
 hash:=Js w
 inj:=fun v a b ha hb=>by
  rcases bF ha with ⟨i,t,rfl,rfl⟩|⟨x,t,rfl,rfl⟩
  ·rcases bF hb with ⟨j,u,rfl,e⟩|⟨y,u,rfl,e⟩
   ·injection e with e1 _;rw[e1]
   ·exact nomatch e
  ·rcases bF hb with ⟨j,u,rfl,e⟩|⟨y,u,rfl,e⟩
   ·exact nomatch e
   ·injection e with e1 _;rw[e1]
 byValue:=fun k v h=>by
  rcases bF h with ⟨i,t,rfl,rfl⟩|⟨x,t,rfl,rfl⟩<;>rfl
 pyHash:=fun hv h=>by
  rcases bF hv with ⟨i,t,rfl,rfl⟩|⟨x,t,rfl,rfl⟩
  ·exact wpAny_pyHash_int h
  ·exact wpAny_pyHash_str h
 eqBool:=fun hu hv h=>by
  rcases bF hu with ⟨i,t,rfl,rfl⟩|⟨x,t,rfl,rfl⟩
  ·rcases bF hv with ⟨j,u,rfl,rfl⟩|⟨y,u,rfl,rfl⟩
   ·rw[CQ] at h;exact wpAny_eqBool_int h
   ·rw[DW] at h;exact SeqAt.EqAt.int_str i t y u _ _ _ _ h
  ·rcases bF hv with ⟨j,u,rfl,rfl⟩|⟨y,u,rfl,rfl⟩
   ·rw[DZ] at h;exact SeqAt.EqAt.str_int x t j u _ _ _ _ h
   ·rw[D0] at h;exact wpAny_eqBool_str h
 «strs»:=fun k x t v h=>by
  rcases bF h with ⟨i,u,rfl,e⟩|⟨y,u,rfl,e⟩
  ·exact nomatch e
  ·injection e with e1 _
   subst e1
   cases v<;>rfl
theorem pD(prog:Program)(w:World)(i:Int)(t:Tok):(bR prog w).is (.inl i) (.int i t)=true:=tF i t
theorem oU(prog:Program)(w:World)(x:Str)(t:Tok):(bR prog w).is (.inr x) (.str x t)=true:=uX x t
inductive V where
 |aE|bl (b:Bool)|int (i:Int)|str (x:Str)|pM (b:Array UInt8)|Dx (b:UInt64)|ref (a:Addr)|ty (n:String)
 deriving DecidableEq
variable{xs:List V}
noncomputable def RelV:V->Value->Prop
 |.aE,u=>u=Value.none
 |.bl b,u=>u=Value.bool b
 |.int i,u=>∃ t,u=Value.int i t
 |.str x,u=>∃ t,u=Value.str x t
 |.pM b,u=>∃ t,u=Value.bytes b t
 |.Dx b,u=>∃ t,u=Value.float b t
 |.ref a,u=>u=Value.ref a
 |.ty n,u=>u=Value.type n
abbrev Vals:List V->List Value->Prop:=Paired RelV
theorem Vals.length(r:Vals xs us):xs.length=us.length:=Paired.length r
theorem Vals.get:∀{xs:List V} {us:List Value} {i:Nat} {x:V},Vals xs us->xs[i]?=some x->∃ u,us[i]?=some u/\RelV x u
 |_,_,_,_,.nil,e=>by simp at e
 |_,_,0,_,.cons r _,e=>by simp at e;subst e;exact⟨_,rfl,r⟩
 |_,_,i+1,x,.cons _ t,e=>by
  obtain⟨u,h1,h2⟩:=Vals.get (i:=i) (x:=x) t (by simpa using e)
  exact⟨u,by simpa using h1,h2⟩
theorem Vals.set{x:V}(r:RelV x u):∀{xs:List V} {us:List Value} (i:Nat),Vals xs us->Vals (xs.set i x) (us.set i u)
 |_,_,_,.nil=>.nil
 |_,_,0,.cons _ t=>.cons r t
 |_,_,i+1,.cons q t=>.cons q (Vals.set r i t)
theorem Vals.append:∀{xs ys:List V} {us ws:List Value},Vals xs us->Vals ys ws->Vals (xs++ys) (us++ws)
 |_,_,_,_,.nil,s=>s
 |_,_,_,_,.cons r t,s=>.cons r (Vals.append t s)
theorem Vals.take:∀{xs:List V} {us:List Value} (n:Nat),Vals xs us->Vals (xs.take n) (us.take n)
 |_,_,0,_=>.nil
 |_,_,_+1,.nil=>.nil
 |_,_,n+1,.cons r t=>.cons r (Vals.take n t)
theorem Vals.drop:∀{xs:List V} {us:List Value} (n:Nat),Vals xs us->Vals (xs.drop n) (us.drop n)
 |_,_,0,r=>r
 |_,_,_+1,.nil=>.nil
 |_,_,n+1,.cons _ t=>Vals.drop n t
noncomputable def gz:Option V->Option Value->Prop
 |some v,some u=>RelV v u
 |none,none=>True
 |_,_=>False
noncomputable def KV{κ:Type}:List (κ×V)->List (κ×Value)->Prop:=Paired fun (p:κ×V) (q:κ×Value)=>p.1=q.1/\RelV p.2 q.2
noncomputable def kV:Key->V
 |.inl i=>.int i
 |.inr x=>.str x
inductive HO where
 |lst (xs:List V)
 |tup (xs:List V)
 |dK (kvs:List (Key×V))|dT (kvs:List (List Key×V))
 |set (S:Int->Bool) (n:Nat)
 |ins (C dx:Addr) (fs:List (Str×V))
 |own (x:Addr)
 |xd (fs:List (Str×V))
 |met (f x:Addr)
 |nM (lo hi:Int)
 |lQ (o:Obj) (u:HO)
 |xc (ps:Array Value)
 |ext (φ:Heap->Prop)
variable{o:HO}
abbrev Hp:=Addr->Option HO
variable{H:Hp}
noncomputable def upd(H:Hp)(a:Addr)(o:HO):Hp:=fun b=>if b=a then some o else H b
theorem ab:upd H a o a=some o:=by unfold upd;rw[Kh rfl]
theorem ae(h:b≠a):upd H a o b=H b:=by unfold upd;rw[Kf h]
theorem rH{u:HO}:upd (upd H a o) a u=upd H a u:=by
 funext b;unfold upd;split<;>rfl
theorem Fs{u:HO}(h:H a=some o)(h':H b=some u)(d:o≠u):a≠b:=by
 intro e;subst e;rw[h] at h';exact d (Option.some.inj h')
theorem af(h:H a=some o)(h':H b=none):a≠b:=by
 intro e;subst e;rw[h] at h';cases h'
noncomputable def Jv:List Value->Str
 |.str q _::_=>q
 |_=>Str.ofString ""
noncomputable def G0(ps:Array Value):Str:=Jv ps.toList
noncomputable def Hc(H:Hp)(q:Str)(cv:Value):Prop:=∃(c:Addr) (oc:Obj) (vs:Array Value) (t:Tok),cv=.ref c/\H c=some (.lQ oc (.own c))/\oc.data=.fields vs/\vs[1]?=some (.str q t)
noncomputable def d5(h:Heap)(a:Addr)(items:Array Value):Prop:=∃ o:Obj,h.get? a=some o/\o.cls=.type "tuple"/\∃ n,o.data=.seq items n/\o.dict=none
theorem d5.to(x:d5 h a items):IsTup h a items:=let ⟨o,e,c,n,d,_⟩:=x;⟨o,e,c,n,d⟩
theorem d5.new(h:Heap)(items:Array Value):d5 (h.push {cls:=.type "tuple",data:=.seq items}) h.objs.size items:=⟨_,Kq h rfl,rfl,_,rfl,rfl⟩
theorem d5.lt(x:d5 h a items):a<h.objs.size:=x.to.lt
section
variable (P:Program) (w:World)
noncomputable def bC(H:Hp)(h:Heap)(a:Addr):HO->Prop
 |.lst xs=>xs.length<=sizeLine/\∃(its:List Value) (n:Nat),Vals xs its/\h.get? a=some {cls:=.type "list",data:=.seq its.toArray n}
 |.tup xs=>xs.length<=sizeLine/\∃ its:List Value,Vals xs its/\d5 h a its.toArray
 |.dK kvs=>kvs.length<=sizeLine/\(a == sysModules)=false/\∃ vs,KV kvs vs/\h.DictOf (bR P w) a vs
 |.dT kvs=>kvs.length<=sizeLine/\(a == sysModules)=false/\∃ xs:List (List Key×Addr×Value),
   Paired (fun (p:List Key×V) (q:List Key×Addr×Value)=>p.1=q.1/\H q.2.1=some (.tup (p.1.map kV))/\RelV p.2 q.2.2) kvs xs /\
   ∃ o es ep,h.get? a=some o/\o.ExactDict/\o.data=.dict es ep/\es.toList=xs.map (entryOfKey (tupleKind (bR P w)))/\(xs.map (·.1)).Nodup
 |.set S n=>h.SetOf (intKind P w) a S n
 |.ins C dx fs=>H dx=some (.own a)/\fs.length<=1000/\dx≠a/\h.get? a=some (PySem.W.instObj C dx) /\
   ∃ mA,h.Ns1 dx mA/\(∀ f,gz (fs.lookup f) (mA f))/\PySem.Within mA (fs.map (·.1))
 |.own _=>∃ o,h.get? a=some o
 |.xd fs=>∃ mA,h.Ns1 a mA/\∀ f,gz (fs.lookup f) (mA f)
 |.nM lo hi=>∃ t u v,h.get? a=some {cls:=.type "range",data:=.fields #[.int lo t,.int hi u,.int 1 v]}
 |.lQ o u=>h.get? a=some o/\bC H h a u
 |.xc ps=>∃ qs:Array Value,h.get? a=some {cls:=.none,data:=.fields qs}/\TriplesOk qs.toList/\∀ pos cv,codeAmong pos qs.toList=some cv->Hc H (G0 ps) cv
 |.met f x=>h.get? a=some (PySem.W.methodObj (.ref f) (.ref x))
 |.ext φ=>φ h/\(∃ o,h.get? a=some o)/\∀ h1 h2:Heap,φ h1->(∀ o,h1.get? a=some o->h2.get? a=some o)->φ h2
noncomputable def hV(H:Hp)(h:Heap):Prop:=∀ a o,H a=some o->bC P w H h a o
end
section
variable {P:Program} {w:World} {H H':Hp} {h h':Heap} {a:Addr} {o:HO}
theorem bC.lt(x:bC P w H h a o):a<h.objs.size:=by
 cases o with
 |lst xs=>obtain⟨_,_,_,_,e⟩:=x;exact Kl e
 |tup xs=>obtain⟨_,_,_,p⟩:=x;exact p.lt
 |dK kvs=>obtain⟨_,_,_,_,o,_,_,e,_⟩:=x;exact Kl e
 |dT kvs=>obtain⟨_,_,_,_,o,_,_,e,_⟩:=x;exact Kl e
 |set S n=>obtain⟨o,_,_,_,e,_⟩:=x;exact Kl e
 |ins C dx fs=>obtain⟨_,_,_,e,_⟩:=x;exact Kl e
 |own y=>obtain⟨_,e⟩:=x;exact Kl e
 |xd fs=>obtain⟨_,⟨_,_,_,e,_⟩,_⟩:=x;exact Kl e
 |nM lo hi=>obtain⟨_,_,_,e⟩:=x;exact Kl e
 |lQ ob u=>obtain⟨e,_⟩:=x;exact Kl e
 |xc ps=>obtain⟨_,e,_⟩:=x;exact Kl e
 |met f y=>exact Kl (show h.get? a=some _ from x)
 |ext φ=>obtain⟨_,⟨_,e⟩,_⟩:=x;exact Kl e
theorem Paired.vf{α β:Type}{F G:α->β->Prop}:∀{l₁:List α} {l₂:List β},Paired F l₁ l₂->(∀ a b,F a b->G a b)->Paired G l₁ l₂
 |_,_,.nil,_=>.nil
 |_,_,.cons r t,f=>.cons (f _ _ r) (Paired.vf t f)
theorem bC.oM(x:bC P w H h a o)(k:∀ b u,(b=a\/H b=some (.own a))->h.get? b=some u->h'.get? b=some u)
  (ho:∀ b,H b=some (.own a)->H' b=some (.own a)) (ht:∀ b xs,H b=some (.tup xs)->H' b=some (.tup xs)) (hz:∀ b o u,H b=some (.lQ o u)->H' b=some (.lQ o u)):bC P w H' h' a o:=by
 induction o with
 |lst xs=>obtain⟨z,its,n,r,e⟩:=x;exact⟨z,its,n,r,k _ _ (.inl rfl) e⟩
 |tup xs=>obtain⟨z,its,r,ob,e,c⟩:=x;exact⟨z,its,r,ob,k _ _ (.inl rfl) e,c⟩
 |dK kvs=>obtain⟨z,y,vs,r,ob,es,ep,e,c⟩:=x;exact⟨z,y,vs,r,ob,es,ep,k _ _ (.inl rfl) e,c⟩
 |dT kvs =>
  obtain⟨z,y,xs,r,ob,es,ep,e,c⟩:=x;exact⟨z,y,xs,Paired.vf r fun p q z=>⟨z.1,ht _ _ z.2.1,z.2.2⟩,ob,es,ep,k _ _ (.inl rfl) e,c⟩
 |set S n=>obtain⟨ob,es,ep,t,e,c⟩:=x;exact⟨ob,es,ep,t,k _ _ (.inl rfl) e,c⟩
 |ins C dx fs =>
  obtain⟨d,z,ne,e,mA,⟨od,es,ep,e2,c⟩,r⟩:=x;exact⟨ho _ d,z,ne,k _ _ (.inl rfl) e,mA,⟨od,es,ep,k _ _ (.inr d) e2,c⟩,r⟩
 |own y=>obtain⟨ob,e⟩:=x;exact⟨ob,k _ _ (.inl rfl) e⟩
 |xd fs=>obtain⟨mA,⟨od,es,ep,e,c⟩,r⟩:=x;exact⟨mA,⟨od,es,ep,k _ _ (.inl rfl) e,c⟩,r⟩
 |nM lo hi=>obtain⟨t,u,v,e⟩:=x;exact⟨t,u,v,k _ _ (.inl rfl) e⟩
 |lQ ob u ih=>obtain⟨e,q⟩:=x;exact⟨k _ _ (.inl rfl) e,ih q⟩
 |xc ps =>
  obtain⟨qs,e,t,f⟩:=x;exact⟨qs,k a _ (.inl rfl) e,t,fun pos cv q=>let ⟨c,oc,vs,t',e1,e2,e3⟩:=f pos cv q;⟨c,oc,vs,t',e1,hz _ _ _ e2,e3⟩⟩
 |met f y =>
  have e:h.get? a=some (PySem.W.methodObj (.ref f) (.ref y)):=x;show h'.get? a=some (PySem.W.methodObj (.ref f) (.ref y));exact k a _ (.inl rfl) e
 |ext φ=>obtain⟨p,⟨o,e⟩,st⟩:=x;exact⟨st _ _ p fun o q=>k _ _ (.inl rfl) q,⟨o,k _ _ (.inl rfl) e⟩,st⟩
theorem hV.lt(x:hV P w H h)(e:H a=some o):a<h.objs.size:=(x a o e).lt
theorem hV.fresh(x:hV P w H h)(e:h.objs.size<=a):H a=none:=by
 cases q:H a with
 |none=>rfl
 |some u=>exact absurd (Kr (x.lt q) e) (Lg _)
theorem hV.kept(x:hV P w H h)(k:∀ b u,h.get? b=some u->h'.get? b=some u):hV P w H h':=fun a o e =>
 (x a o e).oM (fun b u _ q=>k b u q) (fun _ q=>q) (fun _ _ q=>q) fun _ _ _ q=>q
theorem hV.laid(x:hV P w H h)(k:∀ b u,h.get? b=some u->h'.get? b=some u)(hp:h.objs.size<=a)(new:bC P w (upd H a o) h' a o):hV P w (upd H a o) h':=fun b u e=>by
 have hn:=x.fresh hp;by_cases hb:b=a
 ·subst hb;rw[ab] at e;cases e;exact new
 ·rw[ae hb] at e;exact (x b u e).oM (fun c v _ q=>k c v q) (fun c q=>by rw[ae (af q hn)];exact q) (fun c xs q=>by rw[ae (af q hn)];exact q) fun c _ _ q=>by rw[ae (af q hn)];exact q
end
noncomputable def Rd(H:Hp)(a:Addr)(u:HO):Prop:=H a=some u\/∃ o,H a=some (.lQ o u)
theorem Rd.ok{u:HO}(r:Rd H a u)(x:hV P w H h):bC P w H h a u:=by
 rcases r with r|⟨o,r⟩
 ·exact x a u r
 ·obtain⟨_,q⟩:=x a _ r;exact q
noncomputable def GJ:Option HO->Prop
 |some (.lst _)=>True
 |some (.dK _)=>True
 |some (.dT _)=>True
 |some (.set _ _)=>True
 |some (.ins _ _ _)=>True
 |some (.ext _)=>True
 |_=>False
section
variable {P:Program} {w:World} {H:Hp} {h h':Heap} {x e:Addr} {o':HO}
theorem hV.write(ok:hV P w H h)(mu:GJ (H x))(he:e=x\/H e=some (.own x))(k:∀ b u,b≠e->h.get? b=some u->h'.get? b=some u)(heo:∃ u,h'.get? e=some u)
  (new:bC P w (upd H x o') h' x o'):hV P w (upd H x o') h':=fun b u q=>by
 have nown:∀ c y,H c=some (.own y)->c≠x:=fun c y r z=>by subst z;rw[r] at mu;exact mu
 have ntup:∀ c xs,H c=some (.tup xs)->c≠x:=fun c xs r z=>by subst z;rw[r] at mu;exact mu
 have nfrz:∀ c o1 u1,H c=some (.lQ o1 u1)->c≠x:=fun c _ _ r z=>by subst z;rw[r] at mu;exact mu
 by_cases hb:b=x
 ·subst hb;rw[ab] at q;cases q;exact new
 ·rw[ae hb] at q;by_cases hbe:b=e
  ·have q':H b=some (.own x):=by
    rcases he with z|z
    ·exact absurd (hbe.trans z) hb
    ·rw[hbe];exact z
   rw[q] at q';cases q';obtain⟨v,hv⟩:=heo;exact⟨v,by rw[hbe];exact hv⟩
  ·refine (ok b u q).oM (fun c v hc r=>k c v ?_ r) (fun c r=>by rw[ae (nown c b r)];exact r) (fun c xs r=>by rw[ae (ntup c xs r)];exact r) fun c _ _ r=>by rw[ae (nfrz c _ _ r)];exact r
   rcases hc with rfl|hc
   ·exact hbe
   ·rintro rfl;rcases he with z|z
    ·exact nown c b hc z
    ·rw[hc] at z;cases z;exact hb rfl
end
structure Un (fs ex:List Addr) (H H':Hp) (h h':Heap):Prop where
 keep:∀ b o,h.get? b=some o->H b=none->b∉fs->b∉ex->h'.get? b=some o
 slot:∀ b o,h.get? b=some o->H b=none->b∈fs->b∉ex->∃ sl,h'.get? b=some {o with slots:=sl}
 free:∀ b o,h.get? b=some o->H b=none->b∉ex->H' b=none
 there:∀ b o,h.get? b=some o->b∉ex->∃ o',h'.get? b=some o'
 mP:∀ b xs,H b=some (.tup xs)->H' b=some (.tup xs)
 lC:∀ b o u,H b=some (.lQ o u)->H' b=some (.lQ o u)
 kN:∀ b ps,H b=some (.xc ps)->∃ more,H' b=some (.xc (ps++more))
section
variable {fs fs' ex ex':List Addr} {H H1 H2:Hp} {h h1 h2 h':Heap} {a x e:Addr} {o:HO}
theorem Un.any(u:Un fs ex H H1 h h1){ob:Obj}(q:h.get? b=some ob)(n:H b=none)(hx:b∉ex):∃ sl,h1.get? b=some {ob with slots:=sl}:=by
 by_cases hb:b∈fs
 ·exact u.slot b ob q n hb hx
 ·exact⟨ob.slots,u.keep b ob q n hb hx⟩
theorem Un.kept(k:∀ b u,h.get? b=some u->h'.get? b=some u):Un fs ex H H h h':=
 ⟨fun b ob q _ _ _=>k b ob q,fun b ob q _ _ _=>⟨ob.slots,k b ob q⟩,fun _ _ _ n _=>n,fun b ob q _=>⟨ob,k b ob q⟩,fun _ _ q=>q,fun _ _ _ q=>q,fun _ ps q=>⟨#[],by rw[q];simp⟩⟩
theorem Un.refl:Un fs ex H H h h:=Un.kept fun _ _ q=>q
theorem Un.laid(k:∀ b u,h.get? b=some u->h'.get? b=some u)(hp:h.objs.size<=a)(hn:H a=none):Un fs ex H (upd H a o) h h' where
 keep:=fun b u q _ _ _=>k b u q
 slot:=fun b u q _ _ _=>⟨u.slots,k b u q⟩
 free:=fun b u q n _=>by rw[ae (Kz (Kr (Kl q) hp))];exact n
 there:=fun b u q _=>⟨u,k b u q⟩
 mP:=fun b xs q=>by rw[ae (af q hn)];exact q
 lC:=fun b u xs q=>by rw[ae (af q hn)];exact q
 kN:=fun b ps q=>⟨#[],by rw[ae (af q hn),q];simp⟩
theorem Un.write(mu:GJ (H x))(he:e=x\/H e=some (.own x))(k:∀ b u,b≠e->h.get? b=some u->h'.get? b=some u)(heo:∃ u,h'.get? e=some u):Un fs ex H (upd H x o) h h':=by
 have hx:∀ b,H b=none->b≠x:=fun b n z=>by subst z;rw[n] at mu;exact mu
 have hb:∀ b,H b=none->b≠e:=fun b n z=>by
  subst z;rcases he with r|r
  ·exact hx b n r
  ·rw[n] at r;cases r
 have hm:∀ b u,H b=some u->¬ GJ (some u)->b≠x:=fun b u q nm z=>by subst z;rw[q] at mu;exact nm mu
 refine⟨fun b u q n _ _=>k b u (hb b n) q,fun b u q n _ _=>⟨u.slots,k b u (hb b n) q⟩,fun b u q n _=>by rw[ae (hx b n)];exact n,fun b u q _=>?_,
  fun b xs q=>by rw[ae (hm b _ q fun z=>z)];exact q,fun b u xs q=>by rw[ae (hm b _ q fun z=>z)];exact q,fun b ps q=>⟨#[],by rw[ae (hm b _ q fun z=>z),q];simp⟩⟩
 by_cases hbe:b=e
 ·subst hbe;exact heo
 ·exact⟨u,k b u hbe q⟩
end
noncomputable def dW(h:Heap)(H:Hp):List Addr:=(List.range h.objs.size).filter fun a=>(H a).isSome
noncomputable def lF(h:Heap)(H:Hp):Heap:=PySem.W.hideAll h (dW h H)
theorem vj(h:Heap)(H:Hp):(lF h H).objs.size=h.objs.size:=PySem.W.hideAll_size _ _
theorem iH{o:Obj}(e:h.get? b=some o)(n:H b=none):(lF h H).get? b=some o:=
 PySem.W.hideAll_get _ e fun hm=>by
  have q:(H b).isSome=true:=(List.mem_filter.mp hm).2;rw[n] at q;simp at q
theorem zK{o:Obj}(e:(lF h H).get? b=some o):h.get? b=some o/\H b=none:=by
 have e':h.get? b=some o:=PySem.W.of_hideAll (dW h H) e;refine⟨e',?_⟩
 cases q:H b with
 |none=>rfl
 |some x =>
  have hm:b∈dW h H:=List.mem_filter.mpr ⟨List.mem_range.mpr (Kl e'),by simp[q]⟩
  have z:(lF h H).get? b=none:=PySem.W.hideAll_none (dW h H) hm;rw[z] at e;cases e
noncomputable def A8(g h:Heap)(L:Addr):List (Addr×Obj):=(List.range h.objs.size).filterMap fun a=>if a=L\/(g.get? a).isSome=true then none else (h.get? a).map fun o=>(a,o)
noncomputable def rest(g h:Heap)(L d:Addr):List (Addr×Obj):=(A8 g h L).filter fun p=>decide (p.1≠d)
noncomputable def hW:List Str:=["by_worth","by_weight","code_of"]
noncomputable def bV(K:Nv):List (Addr×Addr×Str):=hW.filterMap fun x=>(PySem.W.tabIn K x).map fun p=>(p.1,p.2,(x++".<locals>.")++"<lambda>")
noncomputable def TabsOk(K:Nv)(H:Hp):Prop:=∀ t∈bV K,∃ more,H t.2.1=some (.xc (#[.str t.2.2 0]++more))
theorem TabsOk.un{fs ex:List Addr}{H1:Hp}{h1:Heap}(x:TabsOk K H)(u:Un fs ex H H1 h h1):TabsOk K H1:=fun t ht=>by
 obtain⟨m,e⟩:=x t ht;obtain⟨m2,e2⟩:=u.kN _ _ e;exact⟨m++m2,by rw[e2,Array.append_assoc]⟩
noncomputable def DP(mg:Str->Option Value)(h:Heap):Prop:=∃ bm ob,mg "__builtins__"=some (.ref bm)/\bm≠builtinsNs/\h.get? bm=some ob/\ob.cls=.type "module"/\ob.dict=some builtinsNs/\ob.data=.plain
structure Mod (K:Nv) (mg:Str->Option Value) (base:Heap):Prop where
 Fn:K.In base
 glob:base.Ns mainGlobals mg
 blt:∃ mb,base.Ns builtinsNs mb/\∀ x:Str,x≠"__name__"->mb x=bootBuiltins x
 nolimit:base.NoLimit
 codes:∀ t∈bV K,PySem.W.CodeHd base t.1 t.2.1
 bm:DP mg base
structure Cx where
 prog:Program
 w:World
 K:Nv
 mg:Str->Option Value
 base:Heap
 A:Around
 N:List Str
 s₀:Shared
 H₀:Hp
 env:Env
 outer:List Env
 stack:List Env
 ex:List Addr
 fn:Str->Bool
 calm:Bool
 pn:List (Addr×Obj)
 xe:Value->Shared->Prop
variable{X:Cx}
noncomputable def wK(l:List Env):List Addr:=l.filterMap (·.frame)
abbrev Cx.fs(X:Cx):List Addr:=wK X.outer
noncomputable def ED(sc:Scope)(x:Str):Prop:=sc.names.lookup x=some .local\/sc.names.lookup x=some .cell\/sc.names.lookup x=some .free
noncomputable def Loc(sc:Scope)(x:Str):Prop:=sc.names.lookup x=some .local\/sc.names.lookup x=some .cell
noncomputable def Look(env:Env)(h:Heap)(m:Str->Option Value)(x:Str)(u:Value):Prop:=
 (env.kindOf x=some .local/\m x=some u)\/((env.kindOf x=some .cell\/env.kindOf x=some .free)/\∃ c,env.cells.lookup x=some c/\h.IsCell c (some u))
structure Cx.Ok (X:Cx):Prop where
 mod:Mod X.K X.mg X.base
 kind:X.env.scope.kind=.function
 glob:X.env.globals=mainGlobals
 blt:X.env.builtins=builtinsNs
 above:X.s₀.heap.objs.size<=X.env.locals
 inj:∀ x y c,X.env.cells.lookup x=some c->X.env.cells.lookup y=some c->x=y
 has:∀ x,(X.env.kindOf x=some .cell\/X.env.kindOf x=some .free)->∃ c,X.env.cells.lookup x=some c
 Gx:∀ x c,X.fn x=true->X.env.cells.lookup x=some c->X.s₀.heap.objs.size<=c
 hd:X.calm=true->X.A.handled=none
 frames:X.A.frames=some X.stack
 HW:X.stack=X.outer\/(X.stack=X.env::X.outer/\X.env.frame=some X.env.locals)
 JA:∀ b∈X.ex,b≠X.env.locals/\∀ x c,X.env.cells.lookup x=some c->c≠b
 bs:∀ b o,X.base.get? b=some o->X.s₀.heap.get? b=some o/\X.H₀ b=none
 yT:X.base.objs.size<=X.s₀.heap.objs.size
 wF:∀ b o,X.base.get? b=some o->b∉X.ex
 zw:∀ b∈X.ex,b∉X.fs
 jC:X.s₀.heap.FunFrames X.base X.outer
 E2:∀ b∈X.fs,X.H₀ b=none
 tabs:TabsOk X.K X.H₀
structure Inv (X:Cx) (pins:List (Addr×Obj)) (σ:List (Option V)) (H:Hp) (s:Shared):Prop where
 ok:X.Ok
 os:s.os=X.s₀.os
 bare:AllBare s.gens
 base:Un X.fs X.ex X.H₀ H X.s₀.heap s.heap
 loc:∃ m,s.heap.Ns X.env.locals m/\∀(i:Nat) (x:Str) (v:V),X.N[i]?=some x->σ[i]?=some (some v)->ED X.env.scope x->∃ u,RelV v u/\Look X.env s.heap m x u
 cell:∀ x c,X.env.cells.lookup x=some c->∃ v,s.heap.IsCell c v
 free:H X.env.locals=none
 fF:∀ x c,X.env.cells.lookup x=some c->H c=none
 pin:∀ p∈X.pn++pins,s.heap.get? p.1=some p.2/\H p.1=none/\p.1≠X.env.locals/\p.1∉X.fs/\∀ v,p.2.data≠.cell v
 aU:hV X.prog X.w H s.heap
 len:σ.length=X.N.length
section
variable {X:Cx} {pins:List (Addr×Obj)} {σ:List (Option V)} {H H':Hp} {s:Shared} {h':Heap}
theorem Cx.Ok.Jb(ok:X.Ok){o:Obj}(e:X.base.get? b=some o):b∉X.fs:=fun hb=>by
 have:=(ok.jC.mem hb).1;rw[e] at this;cases this
theorem Inv.bs(I:Inv X pins σ H s):∀ b o,X.base.get? b=some o->s.heap.get? b=some o/\H b=none:=fun b o e =>
 ⟨I.base.keep b o (I.ok.bs b o e).1 (I.ok.bs b o e).2 (I.ok.Jb e) (I.ok.wF b o e),I.base.free b o (I.ok.bs b o e).1 (I.ok.bs b o e).2 (I.ok.wF b o e)⟩
theorem Inv.bk(I:Inv X pins σ H s):∀ b o,X.base.get? b=some o->s.heap.get? b=some o:=fun b o e=>(I.bs b o e).1
theorem Inv.mod(I:Inv X pins σ H s):Mod X.K X.mg X.base:=I.ok.mod
theorem Inv.gW(I:Inv X pins σ H s):X.K.In s.heap:=I.ok.mod.Fn.keeps I.bk
theorem Inv.lt(I:Inv X pins σ H s):X.env.locals<s.heap.objs.size:=let ⟨_,hn,_⟩:=I.loc;hn.lt
theorem Inv.sz(I:Inv X pins σ H s):X.s₀.heap.objs.size<=s.heap.objs.size:=Kj I.ok.above (Nr I.lt)
theorem Inv.J0(I:Inv X pins σ H s)(h:s.heap.objs.size<=a):a∉X.fs:=fun hb=>by
 obtain⟨_,o,ho,_⟩:=I.ok.jC.mem hb;exact absurd (Kr (Kl ho) (Kj I.sz h)) (Lg _)
theorem Inv.Dt(I:Inv X pins σ H s):∀ x c,X.env.cells.lookup x=some c->c≠X.env.locals:=fun x c e z=>by
 obtain⟨v,o,ho,hd⟩:=I.cell x c e;obtain⟨m,⟨o',es,ep,ho',hd',_⟩,_⟩:=I.loc;rw[z,ho'] at ho;cases ho;rw[hd'] at hd;cases hd
theorem Inv.jC(I:Inv X pins σ H s):s.heap.FunFrames X.base X.outer:=by
 have all:∀(l:List Env),(∀ b∈wK l,b∈X.fs)->X.s₀.heap.FunFrames X.base l->s.heap.FunFrames X.base l:=by
  intro l
  induction l with
  |nil=>intro _ _;trivial
  |cons env r ih =>
   intro hs hl;obtain⟨hk,⟨L,o,hf,hn,ho,hd⟩,hr⟩:=hl;have hL:L∈X.fs:=hs L (by unfold wK;rw[My,hf];exact Ky)
   obtain⟨sl,e⟩:=I.base.slot L o ho (I.ok.E2 L hL) hL fun z=>I.ok.zw L z hL;exact⟨hk,⟨L,_,hf,hn,e,hd⟩,ih (fun b hb=>hs b (by unfold wK;rw[My,hf];exact Ko _ hb)) hr⟩
 exact all X.outer (fun _ hb=>hb) I.ok.jC
theorem Inv.stack(I:Inv X pins σ H s):s.heap.FunFrames X.base X.stack:=by
 rcases I.ok.HW with e|⟨e,hf⟩
 ·rw[e];exact I.jC
 ·rw[e];obtain⟨m,hn,_⟩:=I.loc;refine .cons (by rw[I.ok.kind];decide) hf hn ?_ I.jC
  exact Heap.get?_none_of_le (Kj I.ok.yT I.ok.above)
theorem Inv.nJ(I:Inv X pins σ H s):∀ b∈wK X.stack,b∈X.env.locals::X.fs:=fun b hb=>by
 rcases I.ok.HW with e|⟨e,hf⟩
 ·rw[e] at hb;exact Ko _ hb
 ·rw[e] at hb;unfold wK at hb;rw[My,hf] at hb;exact hb
theorem Inv.sY(I:Inv X pins σ H s):∀ b∈wK X.stack,H b=none:=fun b hb=>by
 rcases Kn.mp (I.nJ b hb) with e|hb
 ·rw[e];exact I.free
 ·obtain⟨_,o,ho,_⟩:=I.ok.jC.mem hb;exact I.base.free b o ho (I.ok.E2 b hb) fun z=>I.ok.zw b z hb
theorem Inv.step{t':Nat}{d':Drawn}(I:Inv X pins σ H s)
  (hch:∀ b∈ch,(b∈X.ex\/X.s₀.heap.objs.size<=b)/\b≠X.env.locals/\(∀ x c,X.env.cells.lookup x=some c->c≠b)/\∀ p∈X.pn++pins,p.1≠b)
  (keep:∀ b o,b≠X.env.locals->b∉X.fs->b∉ch->s.heap.get? b=some o->H b=none->h'.get? b=some o)
  (slot:∀ b o,b≠X.env.locals->b∈X.fs->b∉ch->s.heap.get? b=some o->H b=none->∃ sl,h'.get? b=some {o with slots:=sl}) (free:∀ b o,b∉ch->s.heap.get? b=some o->H b=none->H' b=none)
  (there:∀ b o,b∉ch->s.heap.get? b=some o->∃ o',h'.get? b=some o')
  (mP:∀ b xs,H b=some (.tup xs)->H' b=some (.tup xs)) (lC:∀ b o u,H b=some (.lQ o u)->H' b=some (.lQ o u)) (kN:∀ b ps,H b=some (.xc ps)->∃ more,H' b=some (.xc (ps++more)))
  (ns:∀ m,s.heap.Ns X.env.locals m->h'.Ns X.env.locals m) (aU:hV X.prog X.w H' h') (hg:AllBare g') :
  Inv X pins σ H' {s with heap:=h',gens:=g',drawn:=d',toks:=t'}:=by
 have neL:∀ b o,X.s₀.heap.get? b=some o->b≠X.env.locals:=fun b o e=>Kz (Kr (Kl e) I.ok.above);have neC:∀ b o,X.s₀.heap.get? b=some o->b∉X.ex->b∉ch:=fun b o e hx hb=>by
  rcases (hch b hb).1 with z|z
  ·exact hx z
  ·exact absurd (Kr (Kl e) z) (Lg _)
 have cellK:∀ x c,X.env.cells.lookup x=some c->∀ v,s.heap.IsCell c v->h'.IsCell c v:=fun x c e v ⟨o,ho,hd⟩=>by
  have nch:c∉ch:=fun z=>(hch c z).2.2.1 x c e rfl;by_cases hc:c∈X.fs
  ·obtain⟨sl,q⟩:=slot c o (I.Dt x c e) hc nch ho (I.fF x c e);exact⟨_,q,hd⟩
  ·exact⟨o,keep c o (I.Dt x c e) hc nch ho (I.fF x c e),hd⟩
 refine⟨I.ok,I.os,hg,⟨fun b o e n hb hx=>?_,fun b o e n hb hx=>?_,fun b o e n hx=>?_,fun b o e hx=>?_,fun b xs e=>mP b xs (I.base.mP b xs e),fun b o xs e=>lC b o xs (I.base.lC b o xs e),fun b ps e=>?_⟩,?_,fun x c e=>?_,?_,fun x c e=>?_,fun p hp=>?_,aU,I.len⟩
 ·exact keep b o (neL b o e) hb (neC b o e hx) (I.base.keep b o e n hb hx) (I.base.free b o e n hx)
 ·obtain⟨sl,e1⟩:=I.base.slot b o e n hb hx;obtain⟨sl',e2⟩:=slot b _ (neL b o e) hb (neC b o e hx) e1 (I.base.free b o e n hx);exact⟨sl',e2⟩
 ·obtain⟨o',e1⟩:=I.base.there b o e hx;exact free b o' (neC b o e hx) e1 (I.base.free b o e n hx)
 ·obtain⟨o',e1⟩:=I.base.there b o e hx;exact there b o' (neC b o e hx) e1
 ·obtain⟨m1,e1⟩:=I.base.kN b ps e;obtain⟨m2,e2⟩:=kN b _ e1;exact⟨m1++m2,by rw[e2,Array.append_assoc]⟩
 ·obtain⟨m,hn,hl⟩:=I.loc;refine⟨m,ns m hn,fun i x v e1 e2 e3=>?_⟩;obtain⟨u,r,l⟩:=hl i x v e1 e2 e3;refine⟨u,r,?_⟩;rcases l with l|⟨k,c,e,z⟩
  ·exact .inl l
  ·exact .inr ⟨k,c,e,cellK x c e _ z⟩
 ·obtain⟨v,z⟩:=I.cell x c e;exact⟨v,cellK x c e v z⟩
 ·obtain⟨m,⟨o,_,_,ho,_⟩,_⟩:=I.loc;exact free _ o (fun z=>(hch _ z).2.1 rfl) ho I.free
 ·obtain⟨v,o,ho,hd⟩:=I.cell x c e;exact free c o (fun z=>(hch c z).2.2.1 x c e rfl) ho (I.fF x c e)
 ·obtain⟨e,n,ne,nf,d⟩:=I.pin p hp;have nch:p.1∉ch:=fun z=>(hch p.1 z).2.2.2 p hp rfl;exact⟨keep p.1 p.2 ne nf nch e n,free p.1 p.2 nch e n,ne,nf,d⟩
theorem Inv.un{t':Nat}(I:Inv X pins σ H s)(u:Un X.fs [] H H' s.heap h')(aU:hV X.prog X.w H' h'):Inv X pins σ H' {s with heap:=h',toks:=t'}:=by
 obtain⟨m,⟨o,es,ep,ho,r⟩,_⟩:=id I.loc;obtain⟨sl,hL⟩:=u.any ho I.free (by simp)
 exact I.step (g':=s.gens) (d':=s.drawn) (ch:=[]) (fun _ z=>nomatch z) (fun b o _ hb _ e n=>u.keep b o e n hb (by simp)) (fun b o _ hb _ e n=>u.slot b o e n hb (by simp)) (fun b o _ e n=>u.free b o e n (by simp)) (fun b o _ e=>u.there b o e (by simp)) u.mP u.lC u.kN (fun m' hm=>by
  obtain⟨o',es',ep',ho',r'⟩:=hm;rw[ho] at ho';cases ho';exact⟨_,es',ep',hL,r'⟩) aU I.bare
theorem Inv.call{t':Nat}{d':Drawn}{ch:List Addr}(I:Inv X pins σ H s)(u:Un (wK X.stack) ch H H' s.heap h')(aU:hV X.prog X.w H' h')(hg:AllBare g')
  (hch:∀ b∈ch,(b∈X.ex\/X.s₀.heap.objs.size<=b)/\b≠X.env.locals/\(∀ x c,X.env.cells.lookup x=some c->c≠b)/\∀ p∈X.pn++pins,p.1≠b) :
  Inv X pins σ H' {s with heap:=h',gens:=g',drawn:=d',toks:=t'}:=by
 obtain⟨m,⟨o,es,ep,ho,r⟩,_⟩:=id I.loc;obtain⟨sl,hL⟩:=u.any ho I.free fun z=>(hch _ z).2.1 rfl;exact I.step (ch:=ch) hch (fun b o hL hb hc e n=>u.keep b o e n (fun z=>(Kn.mp (I.nJ b z)).elim hL hb) hc) (fun b o _ _ hc e n=>u.any e n hc) (fun b o hc e n=>u.free b o e n hc) (fun b o hc e=>u.there b o e hc) u.mP u.lC u.kN (fun m' hm=>by
  obtain⟨o',es',ep',ho',r'⟩:=hm;rw[ho] at ho';cases ho';exact⟨_,es',ep',hL,r'⟩) aU hg
theorem Inv.turned{t':Nat}{it:Addr}(I:Inv X pins σ H s)(k:∀ b o,b≠it->s.heap.get? b=some o->h'.get? b=some o)(hn:H it=none)(hL:it≠X.env.locals)
  (h1:it∈X.ex\/X.s₀.heap.objs.size<=it) (h2:∀ x c,X.env.cells.lookup x=some c->c≠it) (h3:∀ p∈X.pn++pins,p.1≠it):Inv X pins σ H {s with heap:=h',toks:=t'}:=by
 have nit:∀ b u,H b=some u->b≠it:=fun b u e z=>by rw[z,hn] at e;cases e
 refine I.step (g':=s.gens) (d':=s.drawn) (ch:=[it]) (fun b hb=>?_) (fun b o _ _ hc e _=>k b o (fun z=>hc (by simp[z])) e) (fun b o _ _ hc e _=>⟨o.slots,k b o (fun z=>hc (by simp[z])) e⟩) (fun _ _ _ _ n=>n)
  (fun b o hc e=>⟨o,k b o (fun z=>hc (by simp[z])) e⟩) (fun _ _ e=>e) (fun _ _ _ e=>e) (fun b ps e=>⟨#[],by rw[e];simp⟩) (fun m hm=>?_) (fun b u e=>?_) I.bare
 ·have e:b=it:=by simpa using hb
  subst e;exact⟨h1,hL,h2,h3⟩
 ·obtain⟨o,es,ep,ho,r⟩:=hm;exact⟨o,es,ep,k _ o (Ne.symm hL) ho,r⟩
 ·refine (I.aU b u e).oM (fun c v hc q=>k c v ?_ q) (fun _ q=>q) (fun _ _ q=>q) fun _ _ _ q=>q;rcases hc with z|z
  ·rw[z];exact nit b u e
  ·exact nit c _ z
theorem Inv.tok(I:Inv X pins σ H s)(t:Nat):Inv X pins σ H {s with toks:=t}:=I.un (h':=s.heap) (t':=t) Un.refl I.aU
theorem Inv.kept{t':Nat}(I:Inv X pins σ H s)(k:∀ b u,s.heap.get? b=some u->h'.get? b=some u):Inv X pins σ H {s with heap:=h',toks:=t'}:=I.un (Un.kept k) (I.aU.kept k)
theorem Inv.laid{t':Nat}(I:Inv X pins σ H s)(k:∀ b u,s.heap.get? b=some u->h'.get? b=some u)(hp:s.heap.objs.size<=a)(new:bC X.prog X.w (upd H a o) h' a o):
  Inv X pins σ (upd H a o) {s with heap:=h',toks:=t'}:=I.un (Un.laid k hp (I.aU.fresh hp)) (I.aU.laid k hp new)
theorem Inv.write{x e:Addr}{t':Nat}(I:Inv X pins σ H s)(mu:GJ (H x))(he:e=x\/H e=some (.own x))(k:∀ b u,b≠e->s.heap.get? b=some u->h'.get? b=some u)(heo:∃ u,h'.get? e=some u)
  (new:bC X.prog X.w (upd H x o) h' x o):Inv X pins σ (upd H x o) {s with heap:=h',toks:=t'}:=I.un (Un.write mu he k heo) (I.aU.write mu he k heo new)
theorem Inv.sx{pins':List (Addr×Obj)}(I:Inv X pins σ H s)(h:∀ p∈pins',s.heap.get? p.1=some p.2/\H p.1=none/\p.1≠X.env.locals/\p.1∉X.fs/\∀ v,p.2.data≠.cell v):Inv X pins' σ H s:=
 ⟨I.ok,I.os,I.bare,I.base,I.loc,I.cell,I.free,I.fF,fun p hp=>(Ln.mp hp).elim (fun z=>I.pin p (List.mem_append_left _ z)) (h p),I.aU,I.len⟩
theorem oC(hN:N.Nodup){x:Str}(a:N[i]?=some x)(b:N[j]?=some x):i=j:=by
 obtain⟨h1,e1⟩:=Ku.mp a;obtain⟨h2,e2⟩:=Ku.mp b;exact (List.getElem_inj hN).mp (e1.trans e2.symm)
theorem mE{A:Around}{x:Str}{v:V}{Q:Unit->Shared->Prop}(I:Inv X pins σ H s)(hN:X.N.Nodup)(hi:X.N[i]?=some x)(hx:Loc X.env.scope x)(r:RelV v u)
  (h:∀ s',Inv X pins (σ.set i (some v)) H s'->(∃ a,Heap.SameBut a s.heap s'.heap/\(a=X.env.locals\/X.env.cells.lookup x=some a))->Q () s') (hf:autoParam (X.fn x=true\/X.env.scope.names.lookup x=some .local) ℜ2):wpAny M A (storeName X.env x u) Q E s:=by
 obtain⟨m,hn,hl⟩:=id I.loc;have hcls:(X.env.scope.kind == .class || (X.env.scope.kind == .module && X.env.locals != X.env.globals))=false:=by rw[I.ok.kind];rfl
 have hiσ:i<σ.length:=by rw[I.len];exact (Ku.mp hi).1
 have Dt:=I.Dt;have tracked:∀{a:Addr} {h':Heap},(∃ o,s.heap.get? a=some o/\H a=none)->Heap.SameBut a s.heap h'->hV X.prog X.w H h':=fun {a h'} ha hs b ob e=>by
  obtain⟨_,_,hfree⟩:=ha;refine (I.aU b ob e).oM (fun c w' hc q=>(hs.2 c ?_).trans q) (fun _ q=>q) (fun _ _ q=>q) fun _ _ _ q=>q;rintro rfl;rcases hc with rfl|hc
  ·rw[hfree] at e;cases e
  ·rw[hfree] at hc;cases hc
 rcases hx with hk|hk
 ·refine wpAny_storeName_local hk hn (fun h' hn' hs=>?_) hcls;obtain⟨oL,_,_,hoL,_⟩:=id hn;refine h _ ⟨I.ok,I.os,I.bare,⟨fun b o e n hb hx=>?_,fun b o e n hb hx=>?_,I.base.free,fun b o e hx=>?_,I.base.mP,I.base.lC,I.base.kN⟩,⟨_,hn',fun j y v' e1 e2 e3=>?_⟩,fun y c e=>?_,I.free,I.fF,fun p hp=>?_,tracked ⟨oL,hoL,I.free⟩ hs,by simpa using I.len⟩ ⟨_,hs,.inl rfl⟩
  ·exact (hs.2 b (Kz (Kr (Kl e) I.ok.above))).trans (I.base.keep b o e n hb hx)
  ·obtain⟨sl,e1⟩:=I.base.slot b o e n hb hx;exact⟨sl,(hs.2 b (Kz (Kr (Kl e) I.ok.above))).trans e1⟩
  ·obtain⟨o',e1⟩:=I.base.there b o e hx;exact⟨o',(hs.2 b (Kz (Kr (Kl e) I.ok.above))).trans e1⟩
  ·by_cases hj:j=i
   ·subst hj;rw[hi] at e1;cases e1;rw[Le hiσ] at e2;cases e2;exact⟨u,r,.inl ⟨hk,by simp⟩⟩
   ·rw[Lo (Ne.symm hj)] at e2;obtain⟨u',r',q⟩:=hl j y v' e1 e2 e3;refine⟨u',r',?_⟩;rcases q with ⟨k,e⟩|⟨k,c,e,z⟩
    ·refine .inl ⟨k,?_⟩;have:y≠x:=fun e=>hj (oC hN e1 (e ▸ hi));simp[this,e]
    ·exact .inr ⟨k,c,e,z.sameBut hs (Dt y c e)⟩
  ·obtain⟨w',z⟩:=I.cell y c e;exact⟨w',z.sameBut hs (Dt y c e)⟩
  ·obtain⟨e,n,ne,nf,d⟩:=I.pin p hp;exact⟨(hs.2 p.1 ne).trans e,n,ne,nf,d⟩
 ·have hfn:X.fn x=true:=by
   rcases hf with z|z
   ·exact z
   ·rw[z] at hk;cases hk
  obtain⟨c,hc⟩:=I.ok.has x (.inl hk);obtain⟨w',z⟩:=I.cell x c hc;refine wpAny_storeName_cell I.ok.kind hk hc z (fun h' hc' hs=>?_);obtain⟨oc,hoc,hocd⟩:=id z;refine h {s with heap:=h'} ⟨I.ok,I.os,I.bare,⟨fun b o e n hb hx=>?_,fun b o e n hb hx=>?_,I.base.free,fun b o e hx=>?_,I.base.mP,I.base.lC,I.base.kN⟩,⟨m,hn.sameBut hs (Ne.symm (Dt x c hc)),fun j y v' e1 e2 e3=>?_⟩,fun y c' e=>?_,I.free,I.fF,fun p hp=>?_,tracked ⟨oc,hoc,I.fF x c hc⟩ hs,by simpa using I.len⟩ ⟨c,hs,.inr hc⟩
  ·exact (hs.2 b (Kz (Kr (Kl e) (I.ok.Gx x c hfn hc)))).trans (I.base.keep b o e n hb hx)
  ·obtain⟨sl,e1⟩:=I.base.slot b o e n hb hx;exact⟨sl,(hs.2 b (Kz (Kr (Kl e) (I.ok.Gx x c hfn hc)))).trans e1⟩
  ·obtain⟨o',e1⟩:=I.base.there b o e hx;exact⟨o',(hs.2 b (Kz (Kr (Kl e) (I.ok.Gx x c hfn hc)))).trans e1⟩
  ·by_cases hj:j=i
   ·subst hj;rw[hi] at e1;cases e1;rw[Le hiσ] at e2;cases e2;exact⟨u,r,.inr ⟨.inl hk,c,hc,hc'⟩⟩
   ·rw[Lo (Ne.symm hj)] at e2;obtain⟨u',r',q⟩:=hl j y v' e1 e2 e3;refine⟨u',r',?_⟩;rcases q with q|⟨k,c',e,z'⟩
    ·exact .inl q
    ·refine .inr ⟨k,c',e,z'.sameBut hs ?_⟩;rintro rfl;exact hj (oC hN e1 (I.ok.inj _ _ _ e hc ▸ hi))
  ·by_cases hcc:c'=c
   ·subst hcc;exact⟨_,hc'⟩
   ·obtain⟨w2,z2⟩:=I.cell y c' e;exact⟨w2,z2.sameBut hs hcc⟩
  ·obtain⟨e,n,ne,nf,d⟩:=I.pin p hp;refine⟨(hs.2 p.1 ?_).trans e,n,ne,nf,d⟩;intro q;rw[q,hoc] at e;have q':oc=p.2:=Option.some.inj e;exact d w' (by rw[<- q'];exact hocd)
theorem pC{A:Around}{x:Str}{v:V}{Q:Unit->Shared->Prop}(I:Inv X pins σ H s)(hN:X.N.Nodup)(hi:X.N[i]?=some x)(hx:Loc X.env.scope x)(r:RelV v u)
  (h:∀ s',Inv X pins (σ.set i (some v)) H s'->Q () s') (hf:autoParam (X.fn x=true\/X.env.scope.names.lookup x=some .local) ℜ2):wpAny M A (storeName X.env x u) Q E s:=
 mE I hN hi hx r (fun s' I' _=>h s' I') hf
theorem Inv.GW(I:Inv X pins σ H s)(ho:s'.os=s.os)(u:Un (wK X.stack) ch H H' s.heap s'.heap)(aU:hV X.prog X.w H' s'.heap)(hg:AllBare s'.gens)
  (hch:∀ b∈ch,(b∈X.ex\/X.s₀.heap.objs.size<=b)/\b≠X.env.locals/\(∀ x c,X.env.cells.lookup x=some c->c≠b)/\∀ p∈X.pn++pins,p.1≠b):Inv X pins σ H' s':=by
 obtain⟨h',g',d',t',o'⟩:=s';have e:o'=s.os:=ho;subst e;exact I.call (g':=g') (t':=t') (d':=d') u aU hg hch
end
abbrev XK:=Value->Option Addr->Hp->Prop
abbrev St:=List (Option V)
variable{σ:St}
abbrev VK:=V->Hp->Prop
abbrev TE:=St->Hp->VK->Prop
abbrev TT:=St->Hp->(Bool->Hp->Prop)->Prop
abbrev TA:=St->Hp->(List V->Hp->Prop)->Prop
structure Ends where
 nx:St->Hp->Prop
 rt:VK
 bk:St->Hp->Prop:=fun _ _=>False
 ct:St->Hp->Prop:=fun _ _=>False
abbrev TS:=Ends->St->Hp->Prop
variable{tb:TS}
noncomputable def EP(X:Cx)(pins:List (Addr×Obj))(σ:St)(Q:VK)(u:Value)(s':Shared):Prop:=∃ v H',Inv X pins σ H' s'/\RelV v u/\Q v H'
noncomputable def TP(X:Cx)(pins:List (Addr×Obj))(σ:St)(Q:Bool->Hp->Prop)(b:Bool)(s':Shared):Prop:=∃ H',Inv X pins σ H' s'/\Q b H'
noncomputable def AP(X:Cx)(pins:List (Addr×Obj))(σ:St)(Q:List V->Hp->Prop)(us:List Value)(s':Shared):Prop:=∃ vs H',Inv X pins σ H' s'/\Vals vs us/\Q vs H'
noncomputable def SP(X:Cx)(pins:List (Addr×Obj))(D:Ends)(f:Flow)(s':Shared):Prop:=
 match f with
 |.next=>∃ σ' H',Inv X pins σ' H' s'/\D.nx σ' H'
 |.brk=>∃ σ' H',Inv X pins σ' H' s'/\D.bk σ' H'
 |.cont=>∃ σ' H',Inv X pins σ' H' s'/\D.ct σ' H'
 |.ret u=>∃ v σ' H',Inv X pins σ' H' s'/\RelV v u/\D.rt v H'
noncomputable def PE(X:Cx)(e:Expr)(t:TE):Prop:=
 ∀(pins:List (Addr×Obj)) (s:Shared) (σ:St) (H:Hp) (Q:VK),Inv X pins σ H s->t σ H Q->wpAny (model X.prog X.w) X.A (eval e X.env) (EP X pins σ Q) X.xe s
noncomputable def PT(X:Cx)(e:Expr)(t:TT):Prop:=
 ∀(pins:List (Addr×Obj)) (s:Shared) (σ:St) (H:Hp) (Q:Bool->Hp->Prop),Inv X pins σ H s->t σ H Q->wpAny (model X.prog X.w) X.A (isTrue e X.env (eval e X.env)) (TP X pins σ Q) X.xe s
noncomputable def PW(X:Cx)(e:Expr)(t:TT):Prop:=
 ∀(whole:Sem Value) (pins:List (Addr×Obj)) (s:Shared) (σ:St) (H:Hp) (Q:Bool->Hp->Prop),Inv X pins σ H s->t σ H Q->wpAny (model X.prog X.w) X.A (isTrue e X.env whole) (TP X pins σ Q) X.xe s
theorem PW.pt{t:TT}(h:PW X e t):PT X e t:=h _
noncomputable def PA(X:Cx)(es:List Expr)(t:TA):Prop:=
 ∀(pos:Pos) (pins:List (Addr×Obj)) (s:Shared) (σ:St) (H:Hp) (Q:List V->Hp->Prop),Inv X pins σ H s->t σ H Q->wpAny (model X.prog X.w) X.A (spliced (backTo pos (starEach es X.env))) (AP X pins σ Q) X.xe s
noncomputable def PS(X:Cx)(st:Stmt)(t:TS):Prop:=
 ∀(pins:List (Addr×Obj)) (s:Shared) (σ:St) (H:Hp) (D:Ends),Inv X pins σ H s->t D σ H->wpAny (model X.prog X.w) X.A (exec st X.env) (SP X pins D) X.xe s
noncomputable def qU(X:Cx)(st:List Stmt)(t:TS):Prop:=
 ∀(pins:List (Addr×Obj)) (s:Shared) (σ:St) (H:Hp) (D:Ends),Inv X pins σ H s->t D σ H->wpAny (model X.prog X.w) X.A (execs st X.env) (SP X pins D) X.xe s
theorem bM{α:Type}{t:Sem α}{Q Q':α->Shared->Prop}{A:Around}(h:wpAny M A t Q E s)(hQ:∀ a s,Q a s->Q' a s):wpAny M A t Q' E s:=Lh h hQ fun _ _ x=>x
section
variable {X:Cx}
noncomputable def lE(i:Nat):TE:=fun σ H Q=>∃ v,σ[i]?=some (some v)/\Q v H
noncomputable def tC(v:V):TE:=fun _ H Q=>Q v H
theorem Cv{x:Str}(hN:X.N[i]?=some x)(hv:ED X.env.scope x)(hd:autoParam ((x ==("__debug__":Str))=false) ℜ1)(hcd:autoParam ((x ==("__classdict__":Str))=false) ℜ1):PE X (.Name x pos) (lE i):=by
 intro pins s σ H Q I h;obtain⟨v,e,h⟩:=h;obtain⟨m,hn,hl⟩:=I.loc;obtain⟨u,r,l⟩:=hl i x v hN e hv;have fin:EP X pins σ Q u s:=⟨v,H,I,r,h⟩;rcases l with ⟨hk,hm⟩|⟨hk,c,hc,hcell⟩
 ·exact wpAny_Name (wpAny_loadName_local I.ok.kind hk hn hm fin) hd
 ·rcases hk with hk|hk
  ·exact wpAny_Name (wpAny_loadName_cell I.ok.kind hk hc hcell fin) hd
  ·exact wpAny_Name (wpAny_loadName_free I.ok.kind hk hc hcell fin hcd) hd
theorem yu{i j pos}:PE X (.Constant (.int i) j pos) (tC (.int i)):=fun _ _ _ H _ I h=>wpAny_Constant_int ⟨.int i,H,I.tok _,⟨_,rfl⟩,h⟩
theorem BO{b j pos}:PE X (.Constant (.bool b) j pos) (tC (.bl b)):=fun _ _ _ H _ I h=>Constant_bool ⟨.bl b,H,I,rfl,h⟩
theorem vN{j pos}:PE X (.Constant .none j pos) (tC .aE):=fun _ _ _ H _ I h=>Constant_none ⟨.aE,H,I,rfl,h⟩
theorem vX{x j pos}:PE X (.Constant (.str x) j pos) (tC (.str x)):=fun _ _ _ H _ I h=>Calls.Constant_str ⟨.str x,H,I.tok _,⟨_,rfl⟩,h⟩
noncomputable def Gl(X:Cx)(x:Str):Prop:=X.env.kindOf x=some .globalImplicit
theorem jO{x:Str}(I:Inv X pins σ H s)(hg:Gl X x)(hm:X.mg x=some u)(h:Q u s)
  (hd:autoParam ((x ==("__debug__":Str))=false) ℜ1):wpAny (model X.prog X.w) X.A (eval (.Name x pos) X.env) Q E s:=
 ME I.ok.kind hg (Calls.loadGlobal_global (by rw[I.ok.glob];exact I.mod.glob.keeps I.bk) hm h) hd
theorem iW{x:Str}(I:Inv X pins σ H s)(hg:Gl X x)(hm:X.mg x=none)(hv:bootBuiltins x=some u)(h:Q u s)
  (hn:autoParam (x≠"__name__") ℜ1) (hd:autoParam ((x ==("__debug__":Str))=false) ℜ1):wpAny (model X.prog X.w) X.A (eval (.Name x pos) X.env) Q E s:=by
 obtain⟨mb,h1,h2⟩:=I.mod.blt;exact ME I.ok.kind hg (Calls.loadGlobal_builtin (by rw[I.ok.glob];exact I.mod.glob.keeps I.bk) hm (by rw[I.ok.blt];exact h1.keeps I.bk) ((h2 x hn).trans hv) h) hd
theorem nq{x:Str}{v:V}(hg:Gl X x)(hm:X.mg x=some u)(r:RelV v u)(hd:autoParam ((x ==("__debug__":Str))=false) ℜ1):PE X (.Name x pos) (tC v):=
 fun _ _ _ H _ I h=>jO I hg hm ⟨v,H,I,r,h⟩ hd
theorem AA{x:Str}{v:V}(hg:Gl X x)(hm:X.mg x=none)(hv:bootBuiltins x=some u)(r:RelV v u)(hn:autoParam (x≠"__name__") ℜ1)(hd:autoParam ((x ==("__debug__":Str))=false) ℜ1):PE X (.Name x pos) (tC v):=
 fun _ _ _ H _ I h=>iW I hg hm hv ⟨v,H,I,r,h⟩ hn hd
noncomputable def JI(ta tb:TE)(k:Int->Int->Hp->Prop):St->Hp->Prop:=fun σ H=>ta σ H fun x H1=>tb σ H1 fun y H2=>∃ i j,x=.int i/\y=.int j/\k i j H2
variable {a b:Expr} {ta tb:TE} {pos:Pos}
noncomputable def Ha(p:Int->Int->Bool)(ta tb:TE):TE:=fun σ H Q=>JI ta tb (fun i j H2=>Q (.bl (p i j)) H2) σ H
abbrev Gs:TE->TE->TE:=Ha fun i j=>decide (i=j)
abbrev EU:TE->TE->TE:=Ha fun i j=>!decide (i=j)
noncomputable def oh(ta:TE):TE:=fun σ H Q=>ta σ H fun x H1=>Q (.bl (decide (x=.aE))) H1
variable {tA tB':TT} {rest:List Expr}
noncomputable def tQ(t u:TT):TT:=fun σ H Q=>t σ H fun c H1=>if c=true then u σ H1 Q else Q false H1
noncomputable def Iz(t u:TT):TT:=fun σ H Q=>t σ H fun c H1=>if c=true then Q true H1 else u σ H1 Q
noncomputable def wI(t:TT):TT:=fun σ H Q=>t σ H fun c H1=>Q (!c) H1
theorem yO(ha:PT X a tA):PW X (.BoolOp .And [a] pos) tA:=by
 intro wh pins s σ H Q I h;refine isTrue_and (bM (ha pins s σ H Q I h) fun c s1 e=>?_)
 cases c with
 |true=>exact isTrue_and_nil e
 |false=>exact e
theorem C3(ha:PT X a tA):PW X (.BoolOp .Or [a] pos) tA:=by
 intro wh pins s σ H Q I h;refine isTrue_or (bM (ha pins s σ H Q I h) fun c s1 e=>?_)
 cases c with
 |false=>exact isTrue_or_nil e
 |true=>exact e
theorem Cg(ha:PT X a tA)(hb:PW X (.BoolOp .And (b::rest) pos) tB'):PW X (.BoolOp .And (a::b::rest) pos) (tQ tA tB'):=by
 intro wh pins s σ H Q I h;refine isTrue_and (bM (ha pins s σ H _ I h) fun c s1 hq7=>?_);obtain⟨H1,I1,q1⟩:=hq7
 cases c with
 |true=>exact hb wh pins s1 σ H1 Q I1 q1
 |false=>exact⟨H1,I1,q1⟩
theorem GB(ha:PT X a tA)(hb:PW X (.BoolOp .Or (b::rest) pos) tB'):PW X (.BoolOp .Or (a::b::rest) pos) (Iz tA tB'):=by
 intro wh pins s σ H Q I h;refine isTrue_or (bM (ha pins s σ H _ I h) fun c s1 hq8=>?_);obtain⟨H1,I1,q1⟩:=hq8
 cases c with
 |true=>exact⟨H1,I1,q1⟩
 |false=>exact hb wh pins s1 σ H1 Q I1 q1
theorem Dy(ha:PT X a tA):PT X (.UnaryOp .Not a pos) (wI tA):=by
 intro pins s σ H Q I h;exact isTrue_not (ha pins s σ H (fun c H1=>Q (!c) H1) I h)
noncomputable def pI(ta tb:TE):TE:=fun σ H Q=>ta σ H fun x H1=>∃ c,x=.bl c/\if c=true then tb σ H1 Q else Q (.bl false) H1
noncomputable def GU(ta tb:TE):TE:=fun σ H Q=>ta σ H fun x H1=>∃ c,x=.bl c/\if c=true then Q (.bl true) H1 else tb σ H1 Q
noncomputable def B6(ta:TE):TE:=fun σ H Q=>ta σ H fun x H1=>∃ c,x=.bl c/\Q (.bl (!c)) H1
theorem DM{op}{t:TE}(h:PE X a t):PE X (.BoolOp op [a] pos) t:=fun pins s σ H Q I hw=>BoolOp_one (h pins s σ H Q I hw)
theorem DC(ha:PE X a ta)(hb:PE X (.BoolOp .And (b::rest) pos) tb):PE X (.BoolOp .And (a::b::rest) pos) (pI ta tb):=by
 intro pins s σ H Q I h;refine BoolOp_and (bM (ha pins s σ H _ I h) fun v s1 hq9=>?_);obtain⟨x,H1,I1,r1,q1⟩:=hq9;obtain⟨c,rfl,q1⟩:=q1;cases r1;refine L5 ?_
 cases c with
 |true=>exact hb pins s1 σ H1 Q I1 q1
 |false=>exact⟨.bl false,H1,I1,rfl,q1⟩
theorem Ho(ha:PE X a ta)(hb:PE X (.BoolOp .Or (b::rest) pos) tb):PE X (.BoolOp .Or (a::b::rest) pos) (GU ta tb):=by
 intro pins s σ H Q I h;refine BoolOp_or (bM (ha pins s σ H _ I h) fun v s1 hq10=>?_);obtain⟨x,H1,I1,r1,q1⟩:=hq10;obtain⟨c,rfl,q1⟩:=q1;cases r1;refine L5 ?_
 cases c with
 |false=>exact hb pins s1 σ H1 Q I1 q1
 |true=>exact⟨.bl true,H1,I1,rfl,q1⟩
theorem C8(ha:PE X a ta):PE X (.UnaryOp .Not a pos) (B6 ta):=by
 intro pins s σ H Q I h;refine UnaryOp_ (bM (ha pins s σ H _ I h) fun v s1 hq11=>?_);obtain⟨x,H1,I1,r1,q1⟩:=hq11;obtain⟨c,rfl,q1⟩:=q1;cases r1;exact not_of (L5 ⟨.bl (!c),H1,I1,rfl,q1⟩)
noncomputable def FN(t:TT)(ta tb:TE):TE:=fun σ H Q=>t σ H fun c H1=>if c=true then ta σ H1 Q else tb σ H1 Q
theorem vM(hc:PT X c tA)(ha:PE X a ta)(hb:PE X b tb):PE X (.IfExp c a b pos) (FN tA ta tb):=by
 intro pins s σ H Q I h;refine wpAny_IfExp (bM (hc pins s σ H _ I h) fun d s1 hq12=>?_);obtain⟨H1,I1,q1⟩:=hq12
 cases d with
 |true=>exact ha pins s1 σ H1 Q I1 q1
 |false=>exact hb pins s1 σ H1 Q I1 q1
end
noncomputable def bA(K:Nv)(H:Hp)(a:Addr)(xs:List V):Prop:=
 Rd H a (.lst xs) \/
  ∃(o:Obj) (its:Array Value) (n:Nat),K.lookup a=some o/\o.cls=.type "list"/\o.dict=none/\o.data=.seq its n/\its.size<=sizeLine/\Vals xs its.toList
noncomputable def bO(K:Nv)(H:Hp)(a:Addr)(xs:List V):Prop:=
 Rd H a (.tup xs) \/
  ∃(o:Obj) (its:Array Value) (n:Nat),K.lookup a=some o/\o.cls=.type "tuple"/\o.data=.seq its n/\its.size<=sizeLine/\Vals xs its.toList
noncomputable def J4:Value->Option V
 |.none=>some .aE
 |.bool b=>some (.bl b)
 |.int i _=>some (.int i)
 |.str x _=>some (.str x)
 |.bytes b _=>some (.pM b)
 |.float b _=>some (.Dx b)
 |.ref a=>some (.ref a)
 |.type n=>some (.ty n)
 |_=>none
theorem RelV.abs{x:V}(r:RelV x u):J4 u=some x:=by
 cases x with
 |aE=>cases r;rfl
 |bl _=>cases r;rfl
 |int _=>obtain⟨t,rfl⟩:=r;rfl
 |str _=>obtain⟨t,rfl⟩:=r;rfl
 |pM _=>obtain⟨t,rfl⟩:=r;rfl
 |Dx _=>obtain⟨t,rfl⟩:=r;rfl
 |ref _=>cases r;rfl
 |ty _=>cases r;rfl
theorem RelV.inj{x y:V}(r:RelV x u)(q:RelV y u):x=y:=Option.some.inj (r.abs.symm.trans q.abs)
theorem Vals.inj:∀{xs ys:List V} {us:List Value},Vals xs us->Vals ys us->xs=ys
 |_,_,_,.nil,.nil=>rfl
 |_,_,_,.cons r t,.cons r' t'=>by rw[r.inj r',Vals.inj t t']
section
variable {X:Cx} {pins:List (Addr×Obj)} {σ:St} {H:Hp} {s:Shared} {a:Addr} {xs ys:List V}
theorem bA.of(h:H a=some (.lst xs)):bA K H a xs:=.inl (.inl h)
theorem bO.of(h:H a=some (.tup xs)):bO K H a xs:=.inl (.inl h)
theorem Inv.list(I:Inv X pins σ H s)(h:bA X.K H a xs):∃ its:List Value,Vals xs its/\PlainL s.heap a its.toArray/\xs.length<=sizeLine:=by
 rcases h with h|⟨o,its,n,hk,hc,hd,hs,hz,r⟩
 ·obtain⟨z,its,n,r,e⟩:=h.ok I.aU;exact⟨its,r,⟨_,n,e,rfl,rfl,rfl⟩,z⟩
 ·refine⟨its.toList,r,⟨o,n,I.gW a o hk,hc,hd,by simpa using hs⟩,?_⟩
  have e:=r.length;simp only[L_] at e;lia
theorem Inv.tuple(I:Inv X pins σ H s)(h:bO X.K H a xs):∃ its:List Value,Vals xs its/\IsTup s.heap a its.toArray/\xs.length<=sizeLine:=by
 rcases h with h|⟨o,its,n,hk,hc,hs,hz,r⟩
 ·obtain⟨z,its,r,p⟩:=h.ok I.aU;exact⟨its,r,p.to,z⟩
 ·refine⟨its.toList,r,⟨o,I.gW a o hk,hc,n,by simpa using hs⟩,?_⟩
  have e:=r.length;simp only[L_] at e;lia
theorem Inv.kY(I:Inv X pins σ H s)(h:bA X.K H a xs)(h':bA X.K H a ys):xs=ys:=by
 obtain⟨its,r,⟨o,n,e,_,_,d⟩,_⟩:=I.list h;obtain⟨its',r',⟨o',n',e',_,_,d'⟩,_⟩:=I.list h';rw[e] at e';cases e';rw[d] at d'
 injection d' with d1 _
 have:its=its':=by simpa using K1 Array.toList d1
 subst this;exact r.inj r'
theorem Inv.mG(I:Inv X pins σ H s)(h:bO X.K H a xs)(h':bO X.K H a ys):xs=ys:=by
 obtain⟨its,r,⟨o,e,_,n,d⟩,_⟩:=I.tuple h;obtain⟨its',r',⟨o',e',_,n',d'⟩,_⟩:=I.tuple h';rw[e] at e';cases e';rw[d] at d'
 injection d' with d1 _
 have:its=its':=by simpa using K1 Array.toList d1
 subst this;exact r.inj r'
end
abbrev Cx.lG(X:Cx)(E:Value->Shared->Prop):Cx:={X with xe:=E}
abbrev Cx.ig(X:Cx):Cx:=X.lG fun _ _=>False
theorem Cx.Ok.lG(ok:X.Ok)(E:Value->Shared->Prop):(X.lG E).Ok:=
 ⟨ok.mod,ok.kind,ok.glob,ok.blt,ok.above,ok.inj,ok.has,ok.Gx,ok.hd,ok.frames,ok.HW,ok.JA,ok.bs,ok.yT,ok.wF,ok.zw,ok.jC,ok.E2,ok.tabs⟩
theorem Cx.Ok.fP(ok:(X.lG E).Ok):X.Ok:=
 ⟨ok.mod,ok.kind,ok.glob,ok.blt,ok.above,ok.inj,ok.has,ok.Gx,ok.hd,ok.frames,ok.HW,ok.JA,ok.bs,ok.yT,ok.wF,ok.zw,ok.jC,ok.E2,ok.tabs⟩
section
variable {X:Cx} {pins:List (Addr×Obj)} {σ:St} {H:Hp} {s:Shared} {E:Value->Shared->Prop}
theorem Inv.lG(I:Inv X pins σ H s)(E:Value->Shared->Prop):Inv (X.lG E) pins σ H s:=⟨I.ok.lG E,I.os,I.bare,I.base,I.loc,I.cell,I.free,I.fF,I.pin,I.aU,I.len⟩
theorem Inv.fP(I:Inv (X.lG E) pins σ H s):Inv X pins σ H s:=⟨I.ok.fP,I.os,I.bare,I.base,I.loc,I.cell,I.free,I.fF,I.pin,I.aU,I.len⟩
theorem SP.fP{D:Ends}{f:Flow}(h:SP (X.lG E) pins D f s'):SP X pins D f s':=by
 cases f with
 |next=>obtain⟨σ',H',I,q⟩:=h;exact⟨σ',H',I.fP,q⟩
 |brk=>obtain⟨σ',H',I,q⟩:=h;exact⟨σ',H',I.fP,q⟩
 |cont=>obtain⟨σ',H',I,q⟩:=h;exact⟨σ',H',I.fP,q⟩
 |ret u=>obtain⟨v,σ',H',I,r,q⟩:=h;exact⟨v,σ',H',I.fP,r,q⟩
theorem qU.ig{st:List Stmt}{t:TS}(h:qU X.ig st t):qU X st t:=fun pins s σ H D I hw =>
 Lh (h pins s σ H D (I.lG _) hw) (fun _ _ q=>q.fP) fun _ _ z=>False.elim z
end
section
variable {X:Cx} {st:Stmt} {rest:List Stmt} {t u:TS} {e:Expr} {te:TE} {pos:Pos}
noncomputable def nY:TS:=fun D σ H=>D.nx σ H
noncomputable def tW(t u:TS):TS:=fun D σ H=>t {D with nx:=u D} σ H
theorem Aj:qU X [] nY:=fun _ _ σ H _ I h=>Mp ⟨σ,H,I,h⟩
theorem vU(h1:PS X st t)(h2:qU X rest u):qU X (st::rest) (tW t u):=by
 intro pins s σ H D I h;refine wpAny_execs_cons (bM (h1 pins s σ H {D with nx:=u D} I h) fun f s1 q=>?_)
 cases f with
 |next =>
  obtain⟨σ',H',I',q⟩:=q;exact h2 pins s1 σ' H' D I' q
 |ret v=>exact q
 |brk=>exact q
 |cont=>exact q
theorem yR(h1:PS X st t):qU X [st] t:=by
 intro pins s σ H D I h;refine wpAny_execs_cons (bM (h1 pins s σ H D I h) fun f s1 q=>?_)
 cases f with
 |next=>exact Mp q
 |ret v=>exact q
 |brk=>exact q
 |cont=>exact q
theorem Inv.quiet(I:Inv X pins σ H s):interactive X.env=false:=by simp[interactive,I.ok.kind]
noncomputable def nV(te:TE):TS:=fun D σ H=>te σ H fun _ H1=>D.nx σ H1
theorem zM(he:PE X e te)(hs:autoParam (swapsWith e none pos.line X.env=pure false) ℜ0):PS X (.Expr e pos) (nV te):=by
 intro pins s σ H D I h;exact wpAny_Expr_any (bM (he pins s σ H _ I h) fun v s1 ⟨x,H1,I1,r1,q1⟩=>⟨σ,H1,I1,q1⟩) I.quiet hs
noncomputable def xV(te:TE):TS:=fun D σ H=>te σ H D.rt
theorem Dh(he:PE X e te):PS X (.Return (some e) pos) (xV te):=by
 intro pins s σ H D I h;exact wpAny_Return_some (bM (he pins s σ H _ I h) fun v s1 ⟨x,H1,I1,r1,q1⟩=>⟨x,σ,H1,I1,r1,q1⟩)
noncomputable def vQ(c:TT)(t u:TS):TS:=fun D σ H=>c σ H fun b H1=>if b=true then t D σ H1 else u D σ H1
theorem Fl{a b:List Stmt}{tc:TT}(hc:PT X c tc)(ha:qU X a t)(hb:qU X b u):PS X (.If c a b pos) (vQ tc t u):=by
 intro pins s σ H D I h;refine wpAny_If (bM (hc pins s σ H _ I h) fun d s1 hq13=>?_);obtain⟨H1,I1,q1⟩:=hq13
 cases d with
 |true=>exact ha pins s1 σ H1 D I1 q1
 |false=>exact hb pins s1 σ H1 D I1 q1
end
abbrev TG:=V->St->Hp->(St->Hp->Prop)->Prop
abbrev rf:=List V->St->Hp->(St->Hp->Prop)->Prop
noncomputable def PG(X:Cx)(target:Expr)(t:TG):Prop:=
 ∀(pins:List (Addr×Obj)) (s:Shared) (σ:St) (H:Hp) (v:V) (u:Value) (Q:St->Hp->Prop),Inv X pins σ H s->RelV v u->t v σ H Q ->
  wpAny (model X.prog X.w) X.A (assign target X.env u) (fun _ s'=>∃ σ' H',Inv X pins σ' H' s'/\Q σ' H') X.xe s
noncomputable def EG(X:Cx)(ts:List Expr)(t:rf):Prop:=
 ∀(pins:List (Addr×Obj)) (s:Shared) (σ:St) (H:Hp) (vs:List V) (us:List Value) (Q:St->Hp->Prop),Inv X pins σ H s->Vals vs us->t vs σ H Q ->
  wpAny (model X.prog X.w) X.A (assignInOrder ((assignEach ts X.env).map (·.2)) us) (fun _ s'=>∃ σ' H',Inv X pins σ' H' s'/\Q σ' H') X.xe s
abbrev wZ:=V->V->V->Hp->(Hp->Prop)->Prop
noncomputable def Av(X:Cx)(t:wZ):Prop:=
 ∀(pins:List (Addr×Obj)) (s:Shared) (σ:St) (H:Hp) (o i v:V) (ov iv u:Value) (Q:Hp->Prop),Inv X pins σ H s->RelV o ov->RelV i iv->RelV v u->t o i v H Q ->
  wpAny (model X.prog X.w) X.A (setItem ov iv u) (fun _ s'=>∃ H',Inv X pins σ H' s'/\Q H') X.xe s
section
variable {X:Cx} {pos:Pos}
noncomputable def bJ(i:Nat):TG:=fun v σ H Q=>Q (σ.set i (some v)) H
theorem Bg{x:Str}(hN:X.N.Nodup)(hi:X.N[i]?=some x)(hx:Loc X.env.scope x)(hf:autoParam (X.fn x=true\/X.env.scope.names.lookup x=some .local) ℜ2):PG X (.Name x pos) (bJ i):=by
 intro pins s σ H v u Q I r h;exact wpAny_assign_Name (pC I hN hi hx r (fun s' I'=>⟨_,H,I',h⟩) hf)
noncomputable def oX:rf:=fun vs σ H Q=>vs=[]/\Q σ H
noncomputable def fR(t:TG)(u:rf):rf:=fun vs σ H Q=>∃ v r,vs=v::r/\t v σ H fun σ' H'=>u r σ' H' Q
theorem Af:EG X [] oX:=by
 intro pins s σ H vs us Q I r h;obtain⟨e,h⟩:=h;subst e;cases r;exact assignInOrder_nil ⟨σ,H,I,h⟩
theorem xr{t:TG}{u:rf}(h1:PG X e t)(h2:EG X es u)
  (hs:autoParam ((assignEach (e::es) X.env).map (·.2)=assign e X.env::(assignEach es X.env).map (·.2)) ℜ0):EG X (e::es) (fR t u):=by
 intro pins s σ H vs us Q I r h;obtain⟨v,vr,e1,h⟩:=h;subst e1
 cases r with
 |cons r rr =>
  rw[hs];refine assignInOrder_cons (bM (h1 pins s σ H _ _ _ I r h) fun _ s1 hq14=>?_);obtain⟨σ1,H1,I1,q1⟩:=hq14;exact h2 pins s1 σ1 H1 _ _ Q I1 rr q1
noncomputable def oF(K:Nv)(n:Nat)(t:rf):TG:=fun v σ H Q=>∃ a xs,v=.ref a/\bO K H a xs/\xs.length=n/\t xs σ H Q
theorem xO{t:rf}(hc:X.calm=true)(h:EG X es t)
  (hn:autoParam ((assignEach es X.env).length=n) ℜ0) (hst:autoParam ((assignEach es X.env).findIdx? (·.1)=none) ℜ0):PG X (.Tuple es k pos) (oF X.K n t):=by
 intro pins s σ H v u Q I r hw;obtain⟨a,xs,e1,hq,hl,hw⟩:=hw;subst e1;cases r;obtain⟨its,rv,ht,hz⟩:=I.tuple hq;refine assign_Tuple_tuple (I.ok.hd hc) ht (by simp[hn,<- hl,rv.length]) hst fun h' hx=>?_
 have I1:Inv X pins σ H {s with heap:=h'}:=I.kept (t':=s.toks) fun b o e=>hx b o (Kz (Kl e)) e
 exact h pins _ σ H xs _ Q I1 (by simpa using rv) hw
noncomputable def uL(to ti:TE)(t:wZ):TG:=fun v σ H Q=>to σ H fun o H1=>ti σ H1 fun i H2=>t o i v H2 fun H3=>Q σ H3
theorem xI{o i:Expr}{to ti:TE}{t:wZ}(ho:PE X o to)(hi:PE X i ti)(hs:Av X t)
  (ha:autoParam (∀ v,assign (.Subscript o i pos) X.env v=(do
   let ov <- holding [v] (eval o X.env)
   let iv <- holding [v,ov] (eval i X.env)
   standAt pos
   holding [v,ov,iv] (setItem ov iv v)
   release [v,ov,iv] [])) ℜ3):PG X (.Subscript o i pos) (uL to ti t):=by
 intro pins s σ H v u Q I r h;rw[ha];refine Kb (KL (bM (ho pins s σ H _ I h) fun ov s1 hq15=>?_));obtain⟨x,H1,I1,r1,q1⟩:=hq15;refine Kb (KL (bM (hi pins s1 σ H1 _ I1 q1) fun iv s2 hq16=>?_));obtain⟨y,H2,I2,r2,q2⟩:=hq16;refine Kb (MG (Kb (KL (bM (hs pins s2 σ H2 x y v ov iv u _ I2 r1 r2 r q2) fun _ s3 hq17=>?_))));obtain⟨H3,I3,q3⟩:=hq17;exact wpAny_release ⟨σ,H3,I3,q3⟩
noncomputable def lr(te:TE)(g:TG):TS:=fun D σ H=>te σ H fun x H1=>g x σ H1 D.nx
theorem C2{te:TE}{g:TG}(he:PE X e te)(hg:PG X tg g)(hs:autoParam (swapsWithSole [tg] e pos.line X.env=pure false) ℜ0)(hw:autoParam (swappedStores [tg] e X.env=pure none) ℜ0)
  (h1:autoParam ((assignEach [tg] X.env).map (·.2)=[assign tg X.env]) ℜ0):PS X (.Assign [tg] e pos) (lr te g):=by
 intro pins s σ H D I h;refine wpAny_Assign_stores (bM (he pins s σ H _ I h) fun v s1 hq18=>?_) hs hw;obtain⟨x,H1,I1,r1,q1⟩:=hq18;rw[h1];exact bM (hg pins s1 σ H1 x v _ I1 r1 q1) fun _ s2 q=>q
theorem Ej{x:Str}{te:TE}{pos':Pos}(hN:X.N.Nodup)(hi:X.N[i]?=some x)(hx:Loc X.env.scope x)(he:PE X e te)(hs:autoParam (swapsWith e (some (.Name x pos')) pos.line X.env=pure false) ℜ0)(hf:autoParam (X.fn x=true\/X.env.scope.names.lookup x=some .local) ℜ2):
  PS X (.Assign [.Name x pos'] e pos) (lr te (bJ i)):=by
 intro pins s σ H D I h;refine wpAny_Assign_Name (bM (he pins s σ H _ I h) fun v s1 hq19=>?_) hs;obtain⟨y,H1,I1,r1,q1⟩:=hq19;exact pC I1 hN hi hx r1 (fun s2 I2=>⟨_,H1,I2,q1⟩) hf
end
section
variable {X:Cx} {pos:Pos}
noncomputable def xy(c:TT)(tb:TS):TS:=fun D σ H=>∃ W:Nat->St->Hp->Prop,(∃ m,W m σ H)/\∀ m σ H,W m σ H ->
 c σ H fun b H1=>if b=true then ∃ N:St->Hp->Prop,(∀ σ' H',N σ' H'->∃ m',m'<m/\W m' σ' H')/\tb {D with nx:=N,ct:=N,bk:=D.nx} σ H1 else D.nx σ H1
theorem xX{tc:TT}(hp:PassesOwn (model X.prog X.w) X.A X.env X.xe)(hc:PT X c tc)(hb:qU X body tb):PS X (.While c body [] pos) (xy tc tb):=by
 intro pins s σ H D I h;obtain⟨W,⟨m0,w0⟩,turn⟩:=h;refine wpAny_While (codeAny_whileLoop (fun n s'=>∃ σ' H',Inv X pins σ' H' s'/\W n σ' H') ?_ m0 ⟨σ,H,I,w0⟩);rintro n s1 ⟨σ1,H1,I1,w1⟩;refine Lz hp (bM (hc pins s1 σ1 H1 _ I1 (turn n σ1 H1 w1)) fun b s2 hq28=>?_);obtain⟨H2,I2,q2⟩:=hq28
 cases b with
 |true =>
  obtain⟨N,hN,q2⟩:=q2;rw[Kh rfl];refine Lz hp (bM (hb pins s2 σ1 H2 _ I2 q2) fun f s3 q3=>?_)
  cases f with
  |next =>
   obtain⟨σ3,H3,I3,n3⟩:=q3;obtain⟨m',hm,w3⟩:=hN σ3 H3 n3;exact⟨m',hm,σ3,H3,I3,w3⟩
  |cont =>
   obtain⟨σ3,H3,I3,n3⟩:=q3;obtain⟨m',hm,w3⟩:=hN σ3 H3 n3;exact⟨m',hm,σ3,H3,I3,w3⟩
  |brk=>exact q3
  |ret v=>exact q3
 |false =>
  rw[Kf Ki];exact Mp ⟨σ1,H2,I2,q2⟩
end
structure It where
 go:Nat->Hp->Prop
 B7:Nat->Hp->V->Hp->Prop
 stop:Nat->Hp->Prop
noncomputable def jS(X:Cx)(pins:List (Addr×Obj))(H:Hp)(b:Addr):Prop:=
 H b=none/\b≠X.env.locals/\b∉X.fs/\(b∈X.ex\/X.s₀.heap.objs.size<=b)/\(∀ x c,X.env.cells.lookup x=some c->c≠b)/\∀ p∈X.pn++pins,p.1≠b
theorem Inv.oq{H':Hp}(I:Inv X pins σ H s)(hb:s.heap.objs.size<=b)(hn:H' b=none):jS X pins H' b:=by
 refine⟨hn,LA (Kr I.lt hb),I.J0 hb,.inr (Kj I.sz hb),fun x c e z=>?_,fun p hp z=>?_⟩
 ·obtain⟨v,q⟩:=I.cell x c e;exact absurd (Kr q.lt (by rw[z];exact hb)) (Lg _)
 ·exact absurd (Kr (Kl (I.pin p hp).1) (by rw[z];exact hb)) (Lg _)
structure Turn (P:Program) (w:World) (K:Nv) (tg:Expr) (J:It) (fp:List Addr) (it:Addr) (tn:Nat->Heap->Prop):Prop where
 mem:it∈fp
 obj:∀ i h,tn i h->∀ b∈fp,∃ o,h.get? b=some o/\∀ v,o.data≠.cell v
 keep:∀ i h h',tn i h->(∀ b∈fp,∀ o,h.get? b=some o->h'.get? b=some o)->tn i h'
 item:∀(X:Cx),X.prog=P->X.w=w->X.K=K->X.calm=true->∀(i:Nat) (pins:List (Addr×Obj)) (s:Shared) (σ:St) (H:Hp) (E:Value->Shared->Prop),Inv X pins σ H s->(∀ b∈fp,jS X pins H b)->tn i s.heap->J.go i H ->
  wpAny (model P w) X.A (pyNext (.ref it)) (fun r s1=>∃ u,r=some u /\
   wpAny (model P w) X.A (letOwnedTupleGo tg (.ref it) u) (fun _ s2=>∃ x H',Inv X pins σ H' s2/\RelV x u/\J.B7 i H x H'/\tn (i+1) s2.heap/\∀ b∈fp,H' b=none) E s1) E s
 done:∀(X:Cx),X.prog=P->X.w=w->X.K=K->X.calm=true->∀(i:Nat) (pins:List (Addr×Obj)) (s:Shared) (σ:St) (H:Hp) (E:Value->Shared->Prop),Inv X pins σ H s->(∀ b∈fp,jS X pins H b)->tn i s.heap->J.stop i H ->
  wpAny (model P w) X.A (pyNext (.ref it)) (fun r s1=>r=none/\Inv X pins σ H s1) E s
 self:∀(A:Around) (i:Nat) (s:Shared) (Q:Value->Shared->Prop) (E:Value->Shared->Prop),tn i s.heap->Q (.ref it) s->wpAny (model P w) A (pyIter (.ref it)) Q E s
abbrev TI:=St->Hp->(It->Hp->Prop)->Prop
noncomputable def J6(X:Cx)(pins:List (Addr×Obj))(σ:St)(tg:Expr)(R:It->Hp->Prop)(itv:Value)(s2:Shared):Prop:=
 ∃(it:Addr) (fp:List Addr) (tn:Nat->Heap->Prop) (J:It) (H':Hp),itv=.ref it/\Inv X pins σ H' s2/\Turn X.prog X.w X.K tg J fp it tn/\tn 0 s2.heap/\(∀ b∈fp,jS X pins H' b)/\R J H'
noncomputable def PI(X:Cx)(tg iter:Expr)(wi:TI):Prop:=
 ∀(pins:List (Addr×Obj)) (s:Shared) (σ:St) (H:Hp) (R:It->Hp->Prop),Inv X pins σ H s->wi σ H R ->
  wpAny (model X.prog X.w) X.A (eval iter X.env) (fun v s1=>wpAny (model X.prog X.w) X.A (pyIter v) (J6 X pins σ tg R) X.xe s1) X.xe s
theorem p0{A:Around}{it:Addr}{o:Obj}{n:String}{vs:Array Value}{Q:Unit->Shared->Prop}(ho:s.heap.get? it=some o)(hc:o.cls=.type n)(hd:o.data=.fields vs)
    (hn:["enumerate","zip","dict_itemiterator","dict_reverseitemiterator","odict_iterator","itertools.zip_longest","itertools.pairwise"].contains n=false) (hQ:Q () s):wpAny M A (letOwnedTupleGo tg (.ref it) u) Q E s:=by
  unfold letOwnedTupleGo
  cases tg<;>first
    |exact Km hQ
    | (cases u<;>first
        |exact Km hQ
        | (refine Kb (wpAny_load ho ?_)
           rw[hc,hd];show wpAny M A (if (["enumerate","zip","dict_itemiterator","dict_reverseitemiterator","odict_iterator","itertools.zip_longest","itertools.pairwise"].contains n && vs[0]? == some (rawInt _))=true then _ else _) Q E s
           rw[Kf (by intro h;rw[hn,Ni] at h;cases h)]
           exact Km hQ))
noncomputable def xN(K:Nv)(a:Addr):It:=
 ⟨fun i H=>∃ xs x,bA K H a xs/\xs[i]?=some x,fun i H x H'=>H'=H/\∀ xs,bA K H a xs->xs[i]?=some x,fun i H=>∃ xs,bA K H a xs/\xs.length<=i⟩
noncomputable def pT(K:Nv)(a:Addr):It:=
 ⟨fun i H=>∃ xs x,bO K H a xs/\xs[i]?=some x,fun i H x H'=>H'=H/\∀ xs,bO K H a xs->xs[i]?=some x,fun i H=>∃ xs,bO K H a xs/\xs.length<=i⟩
noncomputable def yF(lo:Int)(n:Nat):It:=⟨fun i _=>i<n,fun i H x H'=>H'=H/\x=.int (lo+i),fun i _=>n<=i⟩
theorem lW(a it:Addr):Turn P w K tg (xN K a) [it] it (fun i h=>h.IsListIter it a i) where
 mem:=by simp
 obj:=fun i h st b hb=>by
  have e:b=it:=by simpa using hb
  subst e;obtain⟨o,e,c,d⟩:=st;exact⟨o,e,fun v z=>by rw[d] at z;cases z⟩
 keep:=fun i h h' st k=>st.at fun o e=>k it (by simp) o e
 item:=by
  intro X hP hw hK hc i pins s σ H E I hf st hg;subst hP hw hK;obtain⟨xs,x,hq,hx⟩:=hg;obtain⟨its,rv,p,hz⟩:=I.list hq;obtain⟨u,hu,ru⟩:=rv.get hx;obtain⟨f0,f1,f2,f3,f4,f5⟩:=hf it (by simp)
  refine Mj st p.isList (x:=u) (by simpa using hu) fun h' st' sb=>?_
  have I1:Inv X pins σ H {s with heap:=h'}:=I.turned (t':=s.toks) (fun b o hb e=>(sb.2 b hb).trans e) f0 f1 f3 f4 f5
  obtain⟨o,e,c,d⟩:=id st';exact⟨u,rfl,p0 (s:={s with heap:=h'}) e c d (by decide) ⟨x,H,I1,ru,⟨rfl,fun ys hy=>by rw[I.kY hy hq];exact hx⟩,st',fun b hb=>(hf b hb).1⟩⟩
 done:=by
  intro X hP hw hK hc i pins s σ H E I hf st hg;subst hP hw hK;obtain⟨xs,hq,hx⟩:=hg;obtain⟨its,rv,p,hz⟩:=I.list hq;obtain⟨f0,f1,f2,f3,f4,f5⟩:=hf it (by simp)
  have hl:=rv.length;exact Mo (I.ok.hd hc) st p.isList (by simp;lia) fun h' eb=>⟨rfl,I.turned (t':=s.toks) (fun b o hb e=>eb b o hb e) f0 f1 f3 f4 f5⟩
 self:=fun _ _ _ _ _ st h=>wpAny_pyIter_listiter st h
theorem kz(a it:Addr):Turn P w K tg (pT K a) [it] it (fun i h=>h.IsTupleIter it a i) where
 mem:=by simp
 obj:=fun i h st b hb=>by
  have e:b=it:=by simpa using hb
  subst e;obtain⟨o,e,c,d⟩:=st;exact⟨o,e,fun v z=>by rw[d] at z;cases z⟩
 keep:=fun i h h' st k=>st.at fun o e=>k it (by simp) o e
 item:=by
  intro X hP hw hK hc i pins s σ H E I hf st hg;subst hP hw hK;obtain⟨xs,x,hq,hx⟩:=hg;obtain⟨its,rv,p,hz⟩:=I.tuple hq;obtain⟨u,hu,ru⟩:=rv.get hx;obtain⟨f0,f1,f2,f3,f4,f5⟩:=hf it (by simp)
  refine wpAny_pyNext_tuple_item st (show s.heap.IsTuple a its.toArray from p) (x:=u) (by simpa using hu) fun h' st' sb=>?_
  have I1:Inv X pins σ H {s with heap:=h'}:=I.turned (t':=s.toks) (fun b o hb e=>(sb.2 b hb).trans e) f0 f1 f3 f4 f5
  obtain⟨o,e,c,d⟩:=id st';exact⟨u,rfl,p0 (s:={s with heap:=h'}) e c d (by decide) ⟨x,H,I1,ru,⟨rfl,fun ys hy=>by rw[I.mG hy hq];exact hx⟩,st',fun b hb=>(hf b hb).1⟩⟩
 done:=by
  intro X hP hw hK hc i pins s σ H E I hf st hg;subst hP hw hK;obtain⟨xs,hq,hx⟩:=hg;obtain⟨its,rv,p,hz⟩:=I.tuple hq;obtain⟨f0,f1,f2,f3,f4,f5⟩:=hf it (by simp)
  have hl:=rv.length;exact wpAny_pyNext_tuple_end (I.ok.hd hc) st (show s.heap.IsTuple a its.toArray from p) (by simp;lia) fun h' eb=>⟨rfl,I.turned (t':=s.toks) (fun b o hb e=>eb b o hb e) f0 f1 f3 f4 f5⟩
 self:=fun _ _ _ _ _ st h=>wpAny_pyIter_tupleiter st h
theorem q_{w:World}(it:Addr)(lo:Int)(n:Nat):Turn P w K tg (yF lo n) [it] it (fun i h=>IsRangeIter h it (lo+(i:Nat)*1) ((n:Int)-(i:Nat)) 1) where
 mem:=by simp
 obj:=fun i h st b hb=>by
  have e:b=it:=by simpa using hb
  subst e;exact⟨_,st,fun v z=>by
   have z':Data.fields _=Data.cell v:=z
   cases z'⟩
 keep:=fun i h h' st k=>k it (by simp) _ st
 item:=by
  intro X hP hw hK hc i pins s σ H E I hf st hg;subst hP hw hK;obtain⟨f0,f1,f2,f3,f4,f5⟩:=hf it (by simp)
  have W:=Walks.range (prog:=X.prog) (w:=X.w) (I.ok.hd hc) it lo 1 n;refine W.item i s _ _ hg st fun v h' tk hv st' kk=>?_;obtain⟨t,rfl⟩:=hv;have I1:Inv X pins σ H {s with heap:=h',toks:=tk}:=I.turned (fun b o hb e=>kk b o (by simpa using hb) e) f0 f1 f3 f4 f5
  refine⟨_,rfl,p0 (s:={s with heap:=h',toks:=tk}) (n:="range_iterator") st' rfl rfl (by decide) ⟨.int (lo+i),H,I1,⟨t,?_⟩,⟨rfl,rfl⟩,st',fun b hb=>(hf b hb).1⟩⟩
  rw[Int.mul_one]
 done:=by
  intro X hP hw hK hc i pins s σ H E I hf st hg;subst hP hw hK;obtain⟨f0,f1,f2,f3,f4,f5⟩:=hf it (by simp)
  exact wpAny_pyNext_range_end (I.ok.hd hc) st (by have:n<=i:=hg;lia) fun h' eb=>⟨rfl,I.turned (t':=s.toks) (fun b o hb e=>eb b o hb e) f0 f1 f3 f4 f5⟩
 self:=fun _ _ _ _ _ st h=>wpAny_pyIter_rangeiter st h
section
variable {X:Cx} {tg:Expr}
theorem xn{R:It->Hp->Prop}{lo hi:Int}{t u v:Tok}{tk:Nat}(I:Inv X pins σ H s)(h1:-(2^62)<=lo)(h2:lo<2^62)(h3:-(2^62)<=hi)(h4:hi<2^62)
  (q:R (yF lo (hi-lo).toNat) H):wpAny (model X.prog X.w) X.A (pyIter (.ref s.heap.objs.size)) (J6 X pins σ tg R) E {s with heap:=s.heap.push {cls:=.type "range",data:=.fields #[.int lo t,.int hi u,.int 1 v]},toks:=tk}:=by
 refine wpAny_pyIter_range (IsRange.new ..) (small_one h1 h2 h3 h4) ?_;have I1:Inv X pins σ H {s with heap:=s.heap.push {cls:=.type "range",data:=.fields #[.int lo t,.int hi u,.int 1 v]},toks:=tk}:=I.kept fun b o e=>Ke _ e
 refine⟨(s.heap.push {cls:=.type "range",data:=.fields #[.int lo t,.int hi u,.int 1 v]}).objs.size,[(s.heap.push {cls:=.type "range",data:=.fields #[.int lo t,.int hi u,.int 1 v]}).objs.size],_,_,H,rfl,
  I1.kept (t':=tk) fun b o e=>Ke _ e,q_ _ lo (hi-lo).toNat,?_,fun b hb=>?_,q⟩
 ·have e1:lo+((0:Nat):Int)*1=lo:=by simp
  have e2:(((hi-lo).toNat:Nat):Int)-((0:Nat):Int)=Builtin.Range.rangeSize lo hi 1:=by rw[rangeSize_one];split<;>lia
  show IsRangeIter _ _ (lo+((0:Nat):Int)*1) ((((hi-lo).toNat:Nat):Int)-((0:Nat):Int)) 1;rw[e1,e2];exact Kq _ rfl
 ·have e:b=(s.heap.push {cls:=.type "range",data:=.fields #[.int lo t,.int hi u,.int 1 v]}).objs.size:=by simpa using hb
  subst e;exact I1.oq (Kk _) (I1.aU.fresh (Kk _))
noncomputable def mq(ta:TA):TI:=fun σ H R=>ta σ H fun vs H1=>∃ j:Int,vs=[.int j]/\-(2^62)<=j/\j<2^62/\R (yF 0 j.toNat) H1
theorem tT{a:Expr}{ta:TA}{p:Pos}(hg:Gl X "range")(hm:X.mg "range"=none)(ha:PA X [a] ta)(hs:autoParam (starEach [a] X.env=[(false,eval a X.env)]) ℜ0):PI X tg (.Call (.Name "range" p) [a] [] pos) (mq ta):=by
 intro pins s σ H R I h;refine Call_ (iW I hg hm boot_range (Lw (bM (ha pos pins s σ H _ I h) fun us s1 hq31=>?_) hs rfl));obtain⟨vs,H1,I1,r1,q1⟩:=hq31;obtain⟨j,e,q1,q2,q⟩:=q1;subst e
 cases r1 with
 |cons r rr =>
  cases rr;obtain⟨t,rfl⟩:=r;exact call_range_1 (xn I1 (by lia) (by lia) q1 q2 (by simpa using q))
noncomputable def Cq(wi:TI)(g:TG)(tb:TS):TS:=fun D σ H=>wi σ H fun J H1=>∃ W:Nat->Nat->St->Hp->Prop,(∃ m,W 0 m σ H1)/\∀ i m σ H,W i m σ H ->
 (J.stop i H/\D.nx σ H)\/(J.go i H/\∃ N:St->Hp->Prop,(∀ σ' H',N σ' H'->∃ m',m'<m/\W (i+1) m' σ' H')/\∀ x H',J.B7 i H x H'->g x σ H' fun σ2 H2=>tb {D with nx:=N,ct:=N,bk:=D.nx} σ2 H2)
noncomputable def ko(fp:List Addr)(h:Heap):List (Addr×Obj):=fp.filterMap fun b=>(h.get? b).map fun o=>(b,o)
theorem f9{o:Obj}(hb:b∈fp)(e:h.get? b=some o):(b,o)∈ko fp h:=M8.mpr ⟨b,hb,by rw[e];rfl⟩
theorem vk{p:Addr×Obj}(hp:p∈ko fp h):p.1∈fp/\h.get? p.1=some p.2:=by
 obtain⟨b,hb,e⟩:=M8.mp hp
 cases q:h.get? b with
 |none=>rw[q] at e;cases e
 |some o =>
  rw[q] at e;have e':(b,o)=p:=Option.some.inj e;subst e';exact⟨hb,q⟩
theorem Inv.pinned(I:Inv X pins σ H s)(hf:∀ b∈fp,jS X pins H b)(ho:∀ b∈fp,∃ o,s.heap.get? b=some o/\∀ v,o.data≠.cell v):Inv X (pins++ko fp s.heap) σ H s:=
 I.sx fun p hp=>(Ln.mp hp).elim (fun z=>I.pin p (KA _ z)) fun z=>by
  obtain⟨hb,e⟩:=vk z;obtain⟨f0,f1,f2,_⟩:=hf p.1 hb;obtain⟨o,e',d⟩:=ho p.1 hb;rw[e] at e';cases e';exact⟨e,f0,f1,f2,d⟩
theorem Inv.gf{pl:List (Addr×Obj)}(I:Inv X (pins++pl) σ H s):Inv X pins σ H s:=I.sx fun p hp=>I.pin p (KA _ (List.mem_append_left _ hp))
theorem DO{iter:Expr}{wi:TI}{g:TG}(hp:PassesOwn (model X.prog X.w) X.A X.env X.xe)(hc:X.calm=true)(hi:PI X tg iter wi)(hg:PG X tg g)(hb:qU X body tb)
  (hs:autoParam (∀ x,foldedSetIterable iter X.env x=pure x) ℜ3):PS X (.For tg iter body [] pos) (Cq wi g tb):=by
 intro pins s σ H D I h;refine wpAny_For (bM (hi pins s σ H _ I h) fun v s1 h1=>bM h1 fun itv s2 h2=>?_) hs;obtain⟨it,fp,tn,J,H2,e,I2,T,st2,f2,W,⟨m0,w0⟩,turn⟩:=h2;subst e;have stat:∀{H':Hp},(∀ b∈fp,H' b=none)->∀ b∈fp,jS X pins H' b:=fun hn b hb=>⟨hn b hb,(f2 b hb).2⟩;refine codeAny_forLoop_any (fun n s'=>∃ i σ' H',Inv X pins σ' H' s'/\tn i s'.heap/\(∀ b∈fp,H' b=none)/\W i n σ' H') ?_ m0 ⟨0,σ,H2,I2,st2,fun b hb=>(f2 b hb).1,w0⟩;rintro n s3 ⟨i,σ3,H3,I3,st3,fr3,w3⟩;rcases turn i n σ3 H3 w3 with ⟨stop,qn⟩|⟨go,N,hN,step⟩
 ·refine Lz hp (bM (T.done X rfl rfl rfl hc i pins s3 σ3 H3 X.xe I3 (stat fr3) st3 stop) fun r s4 hq33=>?_);obtain⟨hr,I4⟩:=hq33;subst hr;exact Mp ⟨σ3,H3,I4,qn⟩
 ·refine Lz hp (bM (T.item X rfl rfl rfl hc i pins s3 σ3 H3 X.xe I3 (stat fr3) st3 go) fun r s4 hq34=>?_);obtain⟨u,hr,h4⟩:=hq34;subst hr;refine Lz hp (bM h4 fun _ s5 hq35=>?_);obtain⟨x,H5,I5,r5,y5,st5,fr5⟩:=hq35;have I5':=I5.pinned (stat fr5) (T.obj _ _ st5);refine Lz hp (bM (hg _ s5 σ3 H5 x u _ I5' r5 (step x H5 y5)) fun _ s6 hq36=>?_);obtain⟨σ6,H6,I6,q6⟩:=hq36;refine Lz hp (bM (hb _ s6 σ6 H6 _ I6 q6) fun f s7 q7=>?_);have again:∀{σ7:St} {H7:Hp},Inv X (pins++ko fp s5.heap) σ7 H7 s7->N σ7 H7->∃ m,m<n/\∃ i σ' H',Inv X pins σ' H' s7/\tn i s7.heap/\(∀ b∈fp,H' b=none)/\W i m σ' H':=fun {σ7 H7} I7 n7=>by
   obtain⟨m',hm,w7⟩:=hN σ7 H7 n7;refine⟨m',hm,i+1,σ7,H7,I7.gf,T.keep _ _ _ st5 fun b hb o e=>(I7.pin (b,o) (KA _ (KA _ (f9 hb e)))).1,fun b hb=>?_,w7⟩;obtain⟨o,e,d⟩:=T.obj _ _ st5 b hb;exact (I7.pin (b,o) (KA _ (KA _ (f9 hb e)))).2.1
  cases f with
  |next=>obtain⟨σ7,H7,I7,n7⟩:=q7;exact again I7 n7
  |cont=>obtain⟨σ7,H7,I7,n7⟩:=q7;exact again I7 n7
  |brk=>obtain⟨σ7,H7,I7,q7⟩:=q7;exact⟨σ7,H7,I7.gf,q7⟩
  |ret v=>obtain⟨x7,σ7,H7,I7,r7,q7⟩:=q7;exact⟨x7,σ7,H7,I7.gf,r7,q7⟩
end
theorem ur{lo:Int}{g:TG}{D:Ends}(Pv:Nat->St->Hp->Prop)(h0:Pv 0 σ H)
  (hs:∀ i σ H,i<n->Pv i σ H->g (.int (lo+i)) σ H fun σ2 H2=>tb {D with nx:=Pv (i+1),ct:=Pv (i+1),bk:=D.nx} σ2 H2) (hd:∀ σ H,Pv n σ H->D.nx σ H) :
  ∃ W:Nat->Nat->St->Hp->Prop,(∃ m,W 0 m σ H)/\∀ i m σ H,W i m σ H ->
   ((yF lo n).stop i H/\D.nx σ H)\/((yF lo n).go i H/\∃ N:St->Hp->Prop,(∀ σ' H',N σ' H'->∃ m',m'<m/\W (i+1) m' σ' H')/\∀ x H',(yF lo n).B7 i H x H'->g x σ H' fun σ2 H2=>tb {D with nx:=N,ct:=N,bk:=D.nx} σ2 H2):=by
 refine⟨fun i m σ H=>m=n-i/\i<=n/\Pv i σ H,⟨n,by simp,K7 _,h0⟩,?_⟩
 rintro i m σ H ⟨rfl,hi,p⟩;by_cases hlt:i<n
 ·refine .inr ⟨hlt,Pv (i+1),fun σ' H' p'=>⟨n-(i+1),by lia,rfl,hlt,p'⟩,fun x H' y=>?_⟩
  obtain⟨e,y⟩:=y;subst e y;exact hs i σ _ hlt p
 ·have e:i=n:=by lia
  subst e;exact .inl ⟨Kk _,hd σ H p⟩
abbrev R2:=V->V->Hp->VK->Prop
variable{r:R2}
noncomputable def cU(X:Cx)(f:Value->Value->Sem Value)(r:R2):Prop:=
 ∀(pins:List (Addr×Obj)) (s:Shared) (σ:St) (H:Hp) (x y:V) (v u:Value) (Q:VK),Inv X pins σ H s->RelV x v->RelV y u->r x y H Q ->
  wpAny (model X.prog X.w) X.A (f v u) (EP X pins σ Q) X.xe s
noncomputable def HM(X:Cx)(f:Value->Sem Value)(r:V->Hp->VK->Prop):Prop:=
 ∀(pins:List (Addr×Obj)) (s:Shared) (σ:St) (H:Hp) (x:V) (v:Value) (Q:VK),Inv X pins σ H s->RelV x v->r x H Q ->
  wpAny (model X.prog X.w) X.A (f v) (EP X pins σ Q) X.xe s
noncomputable def bp(X:Cx)(f:Value)(r:List V->Hp->VK->Prop):Prop:=
 ∀(pins:List (Addr×Obj)) (s:Shared) (σ:St) (H:Hp) (xs:List V) (us:List Value) (Q:VK),Inv X pins σ H s->Vals xs us->r xs H Q ->
  wpAny (model X.prog X.w) X.A (call f us) (EP X pins σ Q) X.xe s
noncomputable def IB(X:Cx)(r:V->Hp->(Bool->Hp->Prop)->Prop):Prop:=
 ∀(pins:List (Addr×Obj)) (s:Shared) (σ:St) (H:Hp) (x:V) (v:Value) (Q:Bool->Hp->Prop),Inv X pins σ H s->RelV x v->r x H Q ->
  wpAny (model X.prog X.w) X.A (truthy v) (TP X pins σ Q) X.xe s
noncomputable def vt(r:R2)(ta tb:TE):TE:=fun σ H Q=>ta σ H fun x H1=>tb σ H1 fun y H2=>r x y H2 Q
noncomputable def J5(r:V->Hp->VK->Prop)(ta:TE):TE:=fun σ H Q=>ta σ H fun x H1=>r x H1 Q
noncomputable def rI(C:Int->Int->Prop)(g:Int->Int->V):R2:=fun x y H Q=>∃ i j,x=.int i/\y=.int j/\C i j/\Q (g i j) H
noncomputable def qT(g:Int->Int->V):R2:=fun x y H Q=>∃ i j,x=.int i/\y=.int j/\Q (g i j) H
noncomputable def rU(g:Int->V):V->Hp->VK->Prop:=fun x H Q=>∃ i,x=.int i/\Q (g i) H
section
variable {X:Cx} {a b c:Expr} {ta tb tc:TE} {pos:Pos}
theorem Ct(ha:PE X a ta)(hb:PE X b tb){R:V->V->Hp->Prop}(I:Inv X pins σ H s)
  (h:ta σ H fun x H1=>tb σ H1 fun y H2=>R x y H2)  
  (hf:∀ v u s2 x y H2,Inv X pins σ H2 s2->RelV x v->RelV y u->R x y H2->wpAny (model X.prog X.w) X.A (f v u) Q X.xe s2) :
  wpAny (model X.prog X.w) X.A (eval a X.env) (fun v s₁=>wpAny (model X.prog X.w) X.A (eval b X.env) (fun u s₂=>wpAny (model X.prog X.w) X.A (f v u) Q X.xe s₂) X.xe s₁) X.xe s:=by
 refine bM (ha pins s σ H _ I h) fun v s1 hq37=>?_;obtain⟨x,H1,I1,r1,q1⟩:=hq37;refine bM (hb pins s1 σ H1 _ I1 q1) fun u s2 hq38=>?_;obtain⟨y,H2,I2,r2,q2⟩:=hq38;exact hf v u s2 x y H2 I2 r1 r2 q2
theorem Hx{op:Operator}(ho:cU X (binaryOp op) r)(ha:PE X a ta)(hb:PE X b tb):PE X (.BinOp a op b pos) (vt r ta tb):=by
 intro pins s σ H Q I h;exact wpAny_BinOp (Ct ha hb I h fun v u s2 x y H2 I2 rx ry q=>ho pins s2 σ H2 x y v u Q I2 rx ry q)
theorem Fo{op:UnaryOp}{r:V->Hp->VK->Prop}(ho:HM X (unaryOp op) r)(ha:PE X a ta):PE X (.UnaryOp op a pos) (J5 r ta):=by
 intro pins s σ H Q I h;exact UnaryOp_ (bM (ha pins s σ H _ I h) fun v s1 ⟨x,H1,I1,r1,q1⟩=>ho pins s1 σ H1 x v Q I1 r1 q1)
theorem FR{C:Int->Int->Prop}{g:Int->Int->Int}
  (rule:∀(i j:Int) (t u:Tok) (s:Shared) (Q:Value->Shared->Prop) (E:Value->Shared->Prop),C i j->Q (.int (g i j) s.toks) {s with toks:=s.toks+1}->wpAny (model X.prog X.w) X.A (f (.int i t) (.int j u)) Q E s) :
  cU X f (rI C fun i j=>.int (g i j)):=by
 intro pins s σ H x y v u Q I rx ry h;obtain⟨i,j,rfl,rfl,hc,q⟩:=h;obtain⟨t,rfl⟩:=rx;obtain⟨t',rfl⟩:=ry;exact rule i j t t' s _ _ hc ⟨.int (g i j),H,I.tok _,⟨_,rfl⟩,q⟩
theorem GA{g:Int->Int->Int}
  (rule:∀(i j:Int) (t u:Tok) (s:Shared) (Q:Value->Shared->Prop) (E:Value->Shared->Prop),Q (.int (g i j) s.toks) {s with toks:=s.toks+1}->wpAny (model X.prog X.w) X.A (f (.int i t) (.int j u)) Q E s) :
  cU X f (qT fun i j=>.int (g i j)):=by
 intro pins s σ H x y v u Q I rx ry h;obtain⟨i,j,rfl,rfl,q⟩:=h;obtain⟨t,rfl⟩:=rx;obtain⟨t',rfl⟩:=ry;exact rule i j t t' s _ _ ⟨.int (g i j),H,I.tok _,⟨_,rfl⟩,q⟩
theorem AZ{g:Int->Int->Bool}
  (rule:∀(i j:Int) (t u:Tok) (s:Shared) (Q:Value->Shared->Prop) (E:Value->Shared->Prop),Q (.bool (g i j)) s->wpAny (model X.prog X.w) X.A (f (.int i t) (.int j u)) Q E s) :
  cU X f (qT fun i j=>.bl (g i j)):=by
 intro pins s σ H x y v u Q I rx ry h;obtain⟨i,j,rfl,rfl,q⟩:=h;obtain⟨t,rfl⟩:=rx;obtain⟨t',rfl⟩:=ry;exact rule i j t t' s _ _ ⟨.bl (g i j),H,I,rfl,q⟩
noncomputable def FV(i j:Int):Prop:=0<=j/\j<=1000000/\i.natAbs<2^64
noncomputable def nN(i j:Int):Prop:=(-(2^64)<i/\i<2^64)\/(-(2^64)<j/\j<2^64)
theorem nN.ok{i j:Int}(h:nN i j):IntMulOk i j:=by
 rcases h with ⟨h1,h2⟩|⟨h1,h2⟩
 ·exact .of_left (intBits_le_64 h1 h2)
 ·exact .of_right (intBits_le_64 h1 h2)
theorem yp:cU X (binaryOp .Add) (qT fun i j=>.int (i+j)):=GA fun _ _ _ _ _ _ _ q=>add_int q
theorem kC:cU X (binaryOp .Sub) (qT fun i j=>.int (i-j)):=GA fun _ _ _ _ _ _ _ q=>sub_int q
theorem E8:cU X (binaryOp .Mult) (rI nN fun i j=>.int (i*j)):=FR fun _ _ _ _ _ _ _ hc q=>mul_int q hc.ok
theorem cG:cU X (binaryOp .Mod) (rI (fun _ j=>0<j) fun i j=>.int (i % j)):=FR fun i j _ _ _ _ _ hc q=>by
 have h1:(0:Int)<j:=hc;exact mod_int' (by lia) (by rw[Int.fmod_eq_emod_of_nonneg i (by lia)];exact q)
theorem qr:cU X (binaryOp .Pow) (rI FV fun i j=>.int (i^j.toNat)):=FR fun _ _ _ _ _ _ _ hc q=>pow_int_small hc.1 hc.2.1 hc.2.2 q
theorem CG:cU X (binaryOp .LShift) (rI FV fun i j=>.int (i*2^j.toNat)):=FR fun _ _ _ _ _ _ _ hc q=>lshift_int_small hc.1 hc.2.1 hc.2.2 q
theorem JH{f:Value->Sem Value}{g:Int->Int}
  (rule:∀(i:Int) (t:Tok) (s:Shared) (Q:Value->Shared->Prop) (E:Value->Shared->Prop),Q (.int (g i) s.toks) {s with toks:=s.toks+1}->wpAny (model X.prog X.w) X.A (f (.int i t)) Q E s) :
  HM X f (rU fun i=>.int (g i)):=by
 intro pins s σ H x v Q I rx h;obtain⟨i,rfl,q⟩:=h;obtain⟨t,rfl⟩:=rx;exact rule i t s _ _ ⟨.int (g i),H,I.tok _,⟨_,rfl⟩,q⟩
theorem BY:HM X (unaryOp .USub) (rU fun i=>.int (-i)):=JH fun _ _ _ _ _ q=>neg_int q
end
noncomputable def FD:V->V->Bool
 |.aE,.aE=>true|.aE,.int _=>true|.int _,.aE=>true|.aE,.bl _=>true|.bl _,.aE=>true|.aE,.str _=>true|.str _,.aE=>true
 |.int _,.int _=>true|.bl _,.bl _=>true|.str _,.str _=>true|.pM _,.pM _=>true
 |.int _,.str _=>true|.str _,.int _=>true|.bl _,.str _=>true|.str _,.bl _=>true
 |_,_=>false
noncomputable def Bo:R2:=fun x y H Q=>FD x y=true/\Q (.bl (decide (x=y))) H
noncomputable def CV:R2:=fun x y H Q=>FD x y=true/\Q (.bl (!decide (x=y))) H
theorem sO{i j:Int}:decide (V.int i=V.int j)=(i == j):=by
 rw[LM];simp
theorem vC{i j:Bool}:decide (V.bl i=V.bl j)=(i == j):=by
 rw[LM];simp
theorem rM{i j:Str}:decide (V.str i=V.str j)=(i == j):=by
 rw[LM];simp
theorem rA{i j:Array UInt8}:decide (V.pM i=V.pM j)=(i.toList == j.toList):=by
 rw[LM];cases i;cases j;simp
section
variable {X:Cx} {a b c:Expr} {ta tb tc:TE} {pos:Pos}
theorem aT{Q:VK}{k k':Bool}(I:Inv X pins σ H s)(q:Q (.bl k) H)(e:k=k'):EP X pins σ Q (.bool k') s:=by
 subst e;exact⟨.bl k,H,I,rfl,q⟩
theorem Bm:cU X (compareOp .Eq) Bo:=by
 intro pins s σ H x y v u Q I rx ry h;obtain⟨hs,q⟩:=h
 cases x with
 |aE =>
  cases rx
  cases y with
  |aE=>cases ry;exact PySem.EqNone.eq_none_none (aT I q (by simp))
  |bl j=>cases ry;exact PySem.EqNone.eq_none_bool (aT I q (by simp))
  |int j=>obtain⟨t',rfl⟩:=ry;exact PySem.EqNone.eq_none_int (aT I q (by simp))
  |str j=>obtain⟨t',rfl⟩:=ry;exact PySem.EqNone.eq_none_str (aT I q (by simp))
  |_=>exact absurd (show false=true from hs) Ki
 |bl i =>
  cases rx
  cases y with
  |aE=>cases ry;exact PySem.EqNone.eq_bool_none (aT I q (by simp))
  |bl j=>cases ry;exact eq_bool (aT I q vC)
  |str j=>obtain⟨t',rfl⟩:=ry;exact PySem.EqMixed.eq_bool_str (aT I q (by simp))
  |_=>exact absurd (show false=true from hs) Ki
 |int i =>
  obtain⟨t,rfl⟩:=rx
  cases y with
  |aE=>cases ry;exact PySem.EqNone.eq_int_none (aT I q (by simp))
  |int j=>obtain⟨t',rfl⟩:=ry;exact eq_int (aT I q sO)
  |str j=>obtain⟨t',rfl⟩:=ry;exact PySem.EqMixed.eq_int_str (aT I q (by simp))
  |_=>exact absurd (show false=true from hs) Ki
 |str i =>
  obtain⟨t,rfl⟩:=rx
  cases y with
  |aE=>cases ry;exact PySem.EqNone.eq_str_none (aT I q (by simp))
  |bl j=>cases ry;exact PySem.EqMixed.eq_str_bool (aT I q (by simp))
  |int j=>obtain⟨t',rfl⟩:=ry;exact PySem.EqMixed.eq_str_int (aT I q (by simp))
  |str j=>obtain⟨t',rfl⟩:=ry;exact eq_str (aT I q rM)
  |_=>exact absurd (show false=true from hs) Ki
 |pM i =>
  obtain⟨t,rfl⟩:=rx
  cases y with
  |pM j=>obtain⟨t',rfl⟩:=ry;exact PySem.W.eq_bytes (aT I q rA)
  |_=>exact absurd (show false=true from hs) Ki
 |_=>cases y<;>exact absurd (show false=true from hs) Ki
theorem BI:cU X (compareOp .NotEq) CV:=by
 intro pins s σ H x y v u Q I rx ry h;obtain⟨hs,q⟩:=h
 cases x with
 |aE =>
  cases rx
  cases y with
  |aE=>cases ry;exact PySem.EqNone.ne_none_none (aT I q (by simp))
  |bl j=>cases ry;exact PySem.EqNone.ne_none_bool (aT I q (by simp))
  |int j=>obtain⟨t',rfl⟩:=ry;exact PySem.EqNone.ne_none_int (aT I q (by simp))
  |str j=>obtain⟨t',rfl⟩:=ry;exact PySem.EqNone.ne_none_str (aT I q (by simp))
  |_=>exact absurd (show false=true from hs) Ki
 |bl i =>
  cases rx
  cases y with
  |aE=>cases ry;exact PySem.EqNone.ne_bool_none (aT I q (by simp))
  |bl j=>cases ry;exact ne_bool (aT I q (K1 not vC))
  |str j=>obtain⟨t',rfl⟩:=ry;exact PySem.EqMixed.ne_bool_str (aT I q (by simp))
  |_=>exact absurd (show false=true from hs) Ki
 |int i =>
  obtain⟨t,rfl⟩:=rx
  cases y with
  |aE=>cases ry;exact PySem.EqNone.ne_int_none (aT I q (by simp))
  |int j=>obtain⟨t',rfl⟩:=ry;exact ne_int (aT I q (K1 not sO))
  |str j=>obtain⟨t',rfl⟩:=ry;exact PySem.EqMixed.ne_int_str (aT I q (by simp))
  |_=>exact absurd (show false=true from hs) Ki
 |str i =>
  obtain⟨t,rfl⟩:=rx
  cases y with
  |aE=>cases ry;exact PySem.EqNone.ne_str_none (aT I q (by simp))
  |bl j=>cases ry;exact PySem.EqMixed.ne_str_bool (aT I q (by simp))
  |int j=>obtain⟨t',rfl⟩:=ry;exact PySem.EqMixed.ne_str_int (aT I q (by simp))
  |str j=>obtain⟨t',rfl⟩:=ry;exact ne_str (aT I q (K1 not rM))
  |_=>exact absurd (show false=true from hs) Ki
 |pM i =>
  obtain⟨t,rfl⟩:=rx
  cases y with
  |pM j=>obtain⟨t',rfl⟩:=ry;exact PySem.W.ne_bytes (aT I q (K1 not rA))
  |_=>exact absurd (show false=true from hs) Ki
 |_=>cases y<;>exact absurd (show false=true from hs) Ki
theorem iI:cU X (compareOp .Lt) (qT fun i j=>.bl (decide (i<j))):=AZ fun _ _ _ _ _ _ _ q=>lt_int q
theorem GX:cU X (compareOp .LtE) (qT fun i j=>.bl (decide (i<=j))):=AZ fun _ _ _ _ _ _ _ q=>le_int q
theorem rK:cU X (compareOp .Gt) (qT fun i j=>.bl (decide (j<i))):=AZ fun _ _ _ _ _ _ _ q=>gt_int q
theorem wQ:cU X (compareOp .GtE) (qT fun i j=>.bl (decide (j<=i))):=AZ fun _ _ _ _ _ _ _ q=>ge_int q
theorem vg:cU X (compareOp .In) (fun x y H Q=>∃ i j,x=.str i/\y=.str j/\Q (.bl (!(Builtin.Str.occurrences j i 0 j.length 1).isEmpty)) H):=by
 intro pins s σ H x y v u Q I rx ry h;obtain⟨i,j,rfl,rfl,q⟩:=h;obtain⟨t,rfl⟩:=rx;obtain⟨t',rfl⟩:=ry;exact in_str (aT I q rfl)
theorem ky:cU X (compareOp .Is) (fun x y H Q=>y=.aE/\Q (.bl (decide (x=.aE))) H):=by
 intro pins s σ H x y v u Q I rx ry h;obtain⟨rfl,q⟩:=h;cases ry;refine is_none_gen (aT I q ?_)
 cases x<;>first
  | (cases rx;rfl)
  | (obtain⟨t,rfl⟩:=rx;rfl)
theorem zL:cU X (compareOp .IsNot) (fun x y H Q=>y=.aE/\Q (.bl (!decide (x=.aE))) H):=by
 intro pins s σ H x y v u Q I rx ry h;obtain⟨rfl,q⟩:=h;cases ry;refine isnot_none_gen (aT I q ?_)
 cases x<;>first
  | (cases rx;rfl)
  | (obtain⟨t,rfl⟩:=rx;rfl)
theorem cU.or{r':R2}(h:cU X f r)(h':cU X f r'):cU X f (fun x y H Q=>r x y H Q\/r' x y H Q):=by
 intro pins s σ H x y v u Q I rx ry q;rcases q with q|q
 ·exact h pins s σ H x y v u Q I rx ry q
 ·exact h' pins s σ H x y v u Q I rx ry q
theorem AM{op:CmpOp}(ho:cU X (compareOp op) r)(ha:PE X a ta)(hb:PE X b tb)(hm:behindInMarks op b=false):PE X (.Compare a [op] [b] pos) (vt r ta tb):=by
 intro pins s σ H Q I h;exact wpAny_Compare1 (Ct ha hb I h fun v u s2 x y H2 I2 rx ry q=>ho pins s2 σ H2 x y v u Q I2 rx ry q) hm
noncomputable def lX(t:TE):TT:=fun σ H Q=>t σ H fun x H'=>∃ k,x=.bl k/\Q k H'
theorem zj{op:CmpOp}(ho:cU X (compareOp op) r)(ha:PE X a ta)(hb:PE X b tb)(hm:behindInMarks op b=false):PT X (.Compare a [op] [b] pos) (lX (vt r ta tb)):=by
 intro pins s σ H Q I h;refine wpAny_isTrue_Compare1 (bM (ha pins s σ H _ I h) fun v s1 ⟨x,H1,I1,r1,q1⟩=>bM (hb pins s1 σ H1 _ I1 q1) fun u s2 ⟨y,H2,I2,r2,q2⟩=>
  bM (ho pins s2 σ H2 x y v u _ I2 r1 r2 q2) fun c s3 ⟨z,H3,I3,r3,k,e,q3⟩=>?_) hm
 subst e;cases r3;exact L5 ⟨H3,I3,q3⟩
noncomputable def tE(K:Nv)(x:V)(H:Hp)(k:Bool):Prop:=
 match x with
 |.aE=>k=false
 |.bl b=>k=b
 |.int i=>k=(i != 0)
 |.str y=>y.length<=sizeLine/\k=((y.length:Int) != 0)
 |.pM y=>y.size<=sizeLine/\k=((y.size:Int) != 0)
 |.ref p=>(∃ xs,bA K H p xs/\k=!xs.isEmpty)\/(∃ xs,bO K H p xs/\k=!xs.isEmpty)\/∃ kvs,H p=some (.dK kvs)/\k=!kvs.isEmpty
 |_=>False
theorem pX{κ:Type}{kvs:List (κ×V)}{vs:List (κ×Value)}(r:KV kvs vs):(!vs.isEmpty)=!kvs.isEmpty:=by
 cases r<;>rfl
theorem jX{its:List Value}(r:Vals xs its):(!its.toArray.isEmpty)=!xs.isEmpty:=by
 cases r<;>simp
theorem fN:(sizeLine:Nat)<2^63:=by rw[M_];decide
theorem E7:IB X (fun x H Q=>∃ k,tE X.K x H k/\Q k H):=by
 intro pins s σ H x v Q I rx h;obtain⟨k,e,q⟩:=h;have hl:=fN;have hs:sizeLine=16777216:=M_
 cases x with
 |aE =>
  cases rx;have e':k=false:=e;subst e';exact truthy_none ⟨H,I,q⟩
 |bl b =>
  cases rx;have e':k=b:=e;subst e';exact L5 ⟨H,I,q⟩
 |int i =>
  obtain⟨t,rfl⟩:=rx;have e':k=(i != 0):=e;subst e';exact PySem.P.truthy_int ⟨H,I,q⟩
 |str y =>
  obtain⟨t,rfl⟩:=rx;obtain⟨hy,e'⟩:y.length<=sizeLine/\k=((y.length:Int) != 0):=e;subst e';exact PySem.P.truthy_str (by lia) ⟨H,I.tok _,q⟩
 |pM y =>
  obtain⟨t,rfl⟩:=rx;obtain⟨hy,e'⟩:y.size<=sizeLine/\k=((y.size:Int) != 0):=e;subst e';exact PySem.W.truthy_bytes (by lia) ⟨H,I.tok _,q⟩
 |ref p =>
  cases rx;have e':(∃ xs,bA X.K H p xs/\k=!xs.isEmpty)\/(∃ xs,bO X.K H p xs/\k=!xs.isEmpty)\/∃ kvs,H p=some (.dK kvs)/\k=!kvs.isEmpty:=e;rcases e' with ⟨xs,hx,e'⟩|⟨xs,hx,e'⟩|⟨kvs,hx,e'⟩
  ·subst e';obtain⟨its,r,pl,hz⟩:=I.list hx;have hlen:=r.length;exact wpAny_truthy_list pl.isList (by simp only[Kg];lia) ⟨H,I.tok _,by rw[jX r];exact q⟩
  ·subst e';obtain⟨its,r,pl,hz⟩:=I.tuple hx;have hlen:=r.length;exact truthy_tuple pl (by simp only[Kg];lia) ⟨H,I.tok _,by rw[jX r];exact q⟩
  ·subst e';obtain⟨hz,hS,vs,r,m⟩:kvs.length<=sizeLine/\(p == sysModules)=false/\∃ vs,KV kvs vs/\s.heap.DictOf (bR X.prog X.w) p vs:=I.aU p _ hx;have hlen:kvs.length=vs.length:=Paired.length r;exact wpAny_truthy_dict hS m (by lia) ⟨H,I.tok _,by rw[pX r];exact q⟩
 |_=>exact (show False from e).elim
theorem xp(ha:PE X a ta)(he:∀ whole,isTrue a X.env whole=(do let v <- whole;standAt a.pos;holding [v] (truthy v))):
  PT X a (fun σ H Q=>ta σ H fun x H'=>∃ k,tE X.K x H' k/\Q k H'):=by
 intro pins s σ H Q I h;exact isTrue_plain (bM (ha pins s σ H _ I h) fun v s1 ⟨x,H1,I1,r1,q1⟩=>E7 pins s1 σ H1 x v Q I1 r1 q1) (he _)
theorem kG:cU X (binaryOp .Add) (fun x y H Q=>∃ i j,x=.str i/\y=.str j/\i.length+j.length<=sizeLine/\Q (.str (i++j)) H):=by
 intro pins s σ H x y v u Q I rx ry h;obtain⟨i,j,rfl,rfl,hz,q⟩:=h;obtain⟨t,rfl⟩:=rx;obtain⟨t',rfl⟩:=ry;exact add_str (fun t' tk=>⟨.str (i++j),H,I.tok _,⟨_,rfl⟩,q⟩) hz
theorem vals1{x:V}(r:Vals [x] us):∃ u,us=[u]/\RelV x u:=by
 cases r with
 |cons r1 r2=>cases r2;exact⟨_,rfl,r1⟩
theorem vals2{x y:V}(r:Vals [x,y] us):∃ u w',us=[u,w']/\RelV x u/\RelV y w':=by
 cases r with
 |cons r1 r2 =>
  cases r2 with
  |cons r3 r4=>cases r4;exact⟨_,_,rfl,r1,r3⟩
theorem y1:bp X (.builtin "abs") (fun xs H Q=>∃ i,xs=[.int i]/\Q (.int (if i<0 then -i else i)) H):=by
 intro pins s σ H xs us Q I r h;obtain⟨i,rfl,q⟩:=h;obtain⟨u,rfl,t,rfl⟩:=vals1 r;exact call_abs_int fun u tk=>⟨.int (if i<0 then -i else i),H,I.tok _,⟨_,rfl⟩,q⟩
theorem uf(hc:X.calm=true):bp X (.builtin "min") (fun xs H Q=>∃ i j,xs=[.int i,.int j]/\Q (.int (if j<i then j else i)) H):=by
 intro pins s σ H xs us Q I r h;obtain⟨i,j,rfl,q⟩:=h;obtain⟨u,w',rfl,⟨t,rfl⟩,⟨t',rfl⟩⟩:=vals2 r;refine min_two_ints (I.ok.hd hc) fun h' tk k=>⟨_,H,I.kept k,?_,q⟩;by_cases hj:j<i
 ·rw[Kh hj,Kh hj];exact⟨_,rfl⟩
 ·rw[Kf hj,Kf hj];exact⟨_,rfl⟩
theorem lT:bp X (.type "int") (fun xs H Q=>(∃ i,xs=[.int i]/\Q (.int i) H)\/∃ k,xs=[.bl k]/\Q (.int (if k then 1 else 0)) H):=by
 intro pins s σ H xs us Q I r h;rcases h with ⟨i,rfl,q⟩|⟨k,rfl,q⟩
 ·obtain⟨u,rfl,t,rfl⟩:=vals1 r;exact call_int_int ⟨.int i,H,I,⟨_,rfl⟩,q⟩
 ·obtain⟨u,rfl,r1⟩:=vals1 r;cases r1;exact call_int_bool ⟨.int (if k then 1 else 0),H,I.tok _,⟨_,rfl⟩,q⟩
theorem nD:bp X (.type "str") (fun xs H Q=>∃ i,xs=[.int i]/\i.natAbs.log2<1920/\Q (.str (toString i)) H):=by
 intro pins s σ H xs us Q I r h;obtain⟨i,rfl,hz,q⟩:=h;obtain⟨u,rfl,t,rfl⟩:=vals1 r;exact PySem.P.str_of_int hz ⟨.str _,H,I.tok _,⟨_,rfl⟩,q⟩
noncomputable def FE(K:Nv)(x:V)(H:Hp)(n:Nat):Prop:=
 match x with
 |.str y=>y.length<=sizeLine/\n=y.length
 |.pM y=>y.size<=sizeLine/\n=y.size
 |.ref p=>(∃ xs,bA K H p xs/\n=xs.length)\/∃ xs,bO K H p xs/\n=xs.length
 |_=>False
theorem ik:bp X (.builtin "len") (fun xs H Q=>∃ x n,xs=[x]/\FE X.K x H n/\Q (.int n) H):=by
 intro pins s σ H xs us Q I r h;obtain⟨x,n,rfl,e,q⟩:=h;obtain⟨u,rfl,rx⟩:=vals1 r;have hl:=fN;have hs:sizeLine=16777216:=M_
 cases x with
 |str y =>
  obtain⟨t,rfl⟩:=rx;obtain⟨hy,e'⟩:y.length<=sizeLine/\n=y.length:=e;subst e';exact len_str (by lia) ⟨.int _,H,I.tok _,⟨_,rfl⟩,q⟩
 |pM y =>
  obtain⟨t,rfl⟩:=rx;obtain⟨hy,e'⟩:y.size<=sizeLine/\n=y.size:=e;subst e';exact PySem.W.len_bytes (by lia) ⟨.int _,H,I.tok _,⟨_,rfl⟩,q⟩
 |ref p =>
  cases rx;have e':(∃ xs,bA X.K H p xs/\n=xs.length)\/∃ xs,bO X.K H p xs/\n=xs.length:=e;rcases e' with ⟨xs,hx,e'⟩|⟨xs,hx,e'⟩
  ·subst e';obtain⟨its,r',pl,hz⟩:=I.list hx;have hlen:=r'.length;exact Calls.call_len_list pl.isList (by simp only[Kg];lia) ⟨.int xs.length,H,I.tok _,⟨_,by simp only[Kg];rw[hlen]⟩,q⟩
  ·subst e';obtain⟨its,r',pl,hz⟩:=I.tuple hx;have hlen:=r'.length;exact len_tuple pl (by simp only[Kg];lia) ⟨.int xs.length,H,I.tok _,⟨_,by simp only[Kg];rw[hlen]⟩,q⟩
 |_=>exact (show False from e).elim
end
structure qp (h:Heap) (x dx C:Addr) (mA:Str->Option Value):Prop where
 obj:h.get? x=some (PySem.W.instObj C dx)
 ns:h.Ns1 dx mA
 ne:dx≠x
theorem uz{dx:Addr}(n:h.Ns1 dx mA):∃ od,h.get? dx=some od/\∀ name,PySem.W.lookIn name od=some (mA name):=by
 obtain⟨o,es,ep,ho,hd,hk,_,hm⟩:=n;refine⟨o,ho,fun name=>?_⟩;have e:=hm name;unfold nsFind findBy at e;rw[<- Array.find?_toList] at e;unfold PySem.W.lookIn;rw[hd];dsimp only;split
 ·rename_i y q;rw[q] at e;exact K1 some e
 ·rename_i q;rw[q] at e;have a:es.toList.any (·.refKey)=false:=by
   rw[List.any_eq_false];intro y hy;obtain⟨z,t,hkey⟩:=hk y (Array.mem_toList_iff.mp hy);simp[DictEntry.refKey,hkey]
  have a':¬ es.toList.any (·.refKey)=true:=by rw[a];exact Ki
  rw[Kf a'];exact K1 some e
theorem qp.look{x dx:Addr}(I:qp h x dx C mA):∃ od,PySem.W.InstAt h x (PySem.W.instObj C dx) C (some od)/\∀ name,PySem.W.lookIn name od=some (mA name):=
 let ⟨od,ho,hl⟩:=uz I.ns
 ⟨od,⟨I.obj,rfl,rfl,ho⟩,hl⟩
section
variable {prog:Program} {w:World} {A:Around} {E:Value->Shared->Prop} {s:Shared} {K:Nv} {x dx C f:Addr} {mA:Str->Option Value} {name:Str} {v:Value}
theorem get_map{expr:Bool}(X:K.In s.heap)(I:qp s.heap x dx C mA)(hg:PySem.W.plainGet K C name=true)(hh:PySem.W.hasDictIn K C=true)
  (ha:PySem.W.findIn K (.ref C) name=some none) (hv:mA name=some v) (hv':PySem.W.handedIn v=true) (h:Q v {s with toks:=s.toks+1}) :
  wpAny (model prog w) A (getAttr (.ref x) name expr) Q E s:=by
 obtain⟨od,J,hl⟩:=I.look;exact PySem.W.get_value X J (PySem.W.plainGet_of hg).1 (PySem.W.findObj_own hh ha rfl (by rw[hl,hv])) hv' h
theorem xT{Q:Value×List Value->Shared->Prop}(X:K.In s.heap)(I:qp s.heap x dx C mA)(hg:PySem.W.plainGet K C name=true)
  (hf:PySem.W.findIn K (.ref C) name=some (some (.ref f))) (ht:PySem.W.isFn K (.ref f)=true) (hv:mA name=none) (h:Q (.ref f,[.ref x]) s) :
  wpAny (model prog w) A (getMethod (.ref x) name pl) Q E s:=by
 obtain⟨od,J,hl⟩:=I.look;exact PySem.W.method_fn X J (PySem.W.plainGet_of hg).1 (PySem.W.plainGet_of hg).2 hf (LX.mp ht) (by show (PySem.W.lookIn name od).map (·.isSome)=some false;rw[hl,hv];rfl) h
theorem A9{ns:List Str}{Q:Unit->Shared->Prop}(X:K.In s.heap)(I:qp s.heap x dx C mA)
  (hs:PySem.W.findIn K (.ref C) "__setattr__"=some (some (.builtin "object.__setattr__"))) (hp:PySem.W.plainOver K C=true) (ht:PySem.W.takerIn K C name=some none) (hh:PySem.W.hasDictIn K C=true)
  (hw:PySem.Within mA ns) (hsz:ns.length<=sizeLine)
  (h:∀ h',qp h' x dx C (fun y=>if y=name then some v else mA y)->Heap.SameBut dx s.heap h'->Q () {s with heap:=h',toks:=s.toks+2}) :
  wpAny (model prog w) A (setAttr (.ref x) name v) Q E s:=by
 obtain⟨od,J,hl⟩:=I.look;refine PySem.W.set_plain X J hs (PySem.W.osa_open (s:={s with toks:=s.toks+1}) (r:=none) X J hp ht fun b=>?_)
 obtain⟨cd,hc,hd'⟩:=PySem.W.any_some hh;have hx:s.heap.get? x=some ⟨.ref C,some dx,.plain,#[]⟩:=I.obj;refine Kb (Km (Kb (Kb (wpAny_loadPart hx (Kb (PySem.W.Looks.here (s:={s with toks:=s.toks+1}) (PySem.W.looks_clsIn X hc) ?_))))))
 rw[hd'];refine Km (a:=some dx) (Kb (Km (Kb ?_)));refine wpAny_nsSet1 (s:={s with toks:=s.toks+1}) I.ns fun h' hn2 hs2=>?_
 obtain⟨oD,esD,epD,hoD,hdD,hcD⟩:=hn2.count (PySem.Within.cons name v hw);refine Kb (wpAny_lookBehind hoD (by rw[hdD];exact pastItsLine_dict (Kj hcD (by rw[Ks];lia))) ?_)
 exact Km (h _ ⟨(hs2.2 _ (Ne.symm I.ne)).trans I.obj,hn2,I.ne⟩ hs2)
theorem xA{R:Result->Shared->Prop}{vs:List Value}(X:K.In s.heap)(hm:PySem.W.makesIn K C=true)
  (hi:PySem.W.findIn K (.ref C) "__init__"=some (some (.ref f))) (hf:PySem.W.typeIn K (.ref f)=some (.type "function"))
  (h:codeAny (model prog w) (A.under (.builtin "type.__call__" ⟨.ref C::vs,kw⟩)) (.call (.ref f) ⟨.ref (s.heap.objs.size+1)::vs,kw⟩) (PySem.W.InitBack (s.heap.objs.size+1) R)
   {s with heap:=(s.heap.push PySem.W.emptyDict).push (PySem.W.instObj C s.heap.objs.size)}) :
  codeAny (model prog w) A (.call (.ref C) ⟨vs,kw⟩) R s:=by
 obtain⟨hh,g,d,t,os⟩:=s;exact PySem.W.make_core (PySem.W.makes_of X hm) (PySem.W.looks_findIn X hi) (fun self=>PySem.W.bind_fn X self hf) (.inl rfl) h
end
noncomputable def cR(f:Str)(v:V):List (Str×V)->List (Str×V)
 |[]=>[(f,v)]
 | (g,x)::r=>if g=f then (g,v)::r else (g,x)::cR f v r
theorem ju(f g:Str)(v:V):∀ fs:List (Str×V),(cR f v fs).lookup g=if g=f then some v else fs.lookup g
 |[]=>by
  show List.lookup g [(f,v)]=_;by_cases h:g=f
  ·have hb:(g == f)=true:=LX.mpr h;simp only[List.lookup,hb,Kh h]
  ·have hb:(g == f)=false:=K3.mpr h;simp only[List.lookup,hb,Kf h]
 | (k,x)::r=>by
  have ih:=ju f g v r;rw[show cR f v ((k,x)::r)=(if k=f then (k,v)::r else (k,x)::cR f v r) from rfl]
  by_cases hk:k=f
  ·rw[Kh hk];by_cases h:g=k
   ·have hb:(g == k)=true:=LX.mpr h;simp only[List.lookup,hb,Kh (h.trans hk)]
   ·have hb:(g == k)=false:=K3.mpr h;simp only[List.lookup,hb,Kf (fun e:g=f=>h (e.trans hk.symm))]
  ·rw[Kf hk];by_cases h:g=k
   ·have hb:(g == k)=true:=LX.mpr h;simp only[List.lookup,hb,Kf (fun e:g=f=>hk (h.symm.trans e))]
   ·have hb:(g == k)=false:=K3.mpr h;simp only[List.lookup,hb];exact ih
theorem ja(f:Str)(v:V):∀ fs:List (Str×V),f∈(cR f v fs).map (·.1)/\∀ g,g∈fs.map (·.1)->g∈(cR f v fs).map (·.1)
 |[]=>⟨by simp[cR],fun g h=>by simp at h⟩
 | (k,x)::r=>by
  obtain⟨i1,i2⟩:=ja f v r;rw[show cR f v ((k,x)::r)=(if k=f then (k,v)::r else (k,x)::cR f v r) from rfl]
  by_cases hk:k=f
  ·rw[Kh hk];subst hk;exact⟨by simp,fun g h=>by simpa using h⟩
  ·rw[Kf hk];refine⟨?_,fun g h=>?_⟩
   ·rw[Kt];exact Ko _ i1
   ·rw[Kt] at h ⊢;rcases Kn.mp h with e|e
    ·exact Kn.mpr (.inl e)
    ·exact Ko _ (i2 g e)
theorem j8(f:Str)(v:V):∀ fs:List (Str×V),(cR f v fs).length<=fs.length+1
 |[]=>by simp[cR]
 | (k,x)::r=>by
  have ih:=j8 f v r;rw[show cR f v ((k,x)::r)=(if k=f then (k,v)::r else (k,x)::cR f v r) from rfl]
  by_cases hk:k=f
  ·rw[Kh hk,Ks,Ks];lia
  ·rw[Kf hk,Ks,Ks];lia
theorem gz.some_of{v:V}{o:Option Value}(r:gz (some v) o):∃ u,o=some u/\RelV v u:=by
 cases o with
 |none=>exact (show False from r).elim
 |some u=>exact⟨u,rfl,r⟩
theorem gz.none_of{o:Option Value}(r:gz none o):o=none:=by
 cases o with
 |none=>rfl
 |some u=>exact (show False from r).elim
theorem uR{v:V}(r:RelV v u):PySem.W.handedIn u=true:=by
 cases v with
 |aE=>cases (show u=Value.none from r);rfl
 |bl b=>cases (show u=Value.bool b from r);rfl
 |int i=>obtain⟨t,e⟩:=(show ∃ t,u=Value.int i t from r);cases e;rfl
 |str x=>obtain⟨t,e⟩:=(show ∃ t,u=Value.str x t from r);cases e;rfl
 |pM b=>obtain⟨t,e⟩:=(show ∃ t,u=Value.bytes b t from r);cases e;rfl
 |Dx b=>obtain⟨t,e⟩:=(show ∃ t,u=Value.float b t from r);cases e;rfl
 |ref a=>cases (show u=Value.ref a from r);rfl
 |ty n=>cases (show u=Value.type n from r);rfl
section
variable {P:Program} {w:World} {H H':Hp} {h h':Heap} {a C dx:Addr} {fs fs':List (Str×V)}
theorem jN(aU:hV P w H h)(e:H a=some (.ins C dx fs)):∃ mA,qp h a dx C mA/\(∀ f,gz (fs.lookup f) (mA f))/\PySem.Within mA (fs.map (·.1))/\fs.length<=1000/\H dx=some (.own a):=by
 obtain⟨d,z,ne,ob,mA,n,r,q⟩:=(show bC P w H h a (.ins C dx fs) from aU a _ e);exact⟨mA,⟨ob,n,ne⟩,r,q,z,d⟩
end
structure fu (K:Nv) (C:Addr):Prop where
 pg:PySem.W.plainGet K C Str.empty=true
 hd:PySem.W.hasDictIn K C=true
 po:PySem.W.plainOver K C=true
 sa:PySem.W.findIn K (.ref C) "__setattr__"=some (some (.builtin "object.__setattr__"))
theorem fu.get(c:fu K C)(f:Str):PySem.W.plainGet K C f=true:=c.pg
noncomputable def aK(K:Nv)(C:Addr)(f:Str):Prop:=PySem.W.findIn K (.ref C) f=some none
theorem aK.Gd{f:Str}(n:aK K C f):PySem.W.takerIn K C f=some none:=by
 unfold PySem.W.takerIn;rw[show PySem.W.findIn K (.ref C) f=some none from n];rfl
structure Meth (K:Nv) (C:Addr) (m:Str) (f:Addr):Prop where
 at_:PySem.W.findIn K (.ref C) m=some (some (.ref f))
 fn:PySem.W.isFn K (.ref f)=true
 kp:PySem.W.keepIn K (.ref f)=true
section
variable {X:Cx} {pins:List (Addr×Obj)} {σ:St} {H:Hp} {s:Shared} {a C dx:Addr} {fs:List (Str×V)} {f:Str} {v:V} {A:Around} {E:Value->Shared->Prop}
theorem qF{b:Bool}(I:Inv X pins σ H s)(e:H a=some (.ins C dx fs))(c:fu X.K C)(n:aK X.K C f)(l:fs.lookup f=some v)
  (h:∀ u s',Inv X pins σ H s'->RelV v u->Q u s'):wpAny (model X.prog X.w) A (getAttr (.ref a) f b) Q E s:=by
 obtain⟨mA,O,r,_,_,_⟩:=jN I.aU e;obtain⟨u,hu,ru⟩:=gz.some_of (v:=v) (o:=mA f) (by rw[<- l];exact r f)
 exact get_map I.gW O (c.get f) c.hd n hu (uR ru) (h u _ (I.tok _) ru)
theorem lg{m:Str}{g:Addr}{Q:Value×List Value->Shared->Prop}(I:Inv X pins σ H s)(e:H a=some (.ins C dx fs))(c:fu X.K C)(k:Meth X.K C m g)(l:fs.lookup m=none)
  (h:Q (.ref g,[.ref a]) s):wpAny (model X.prog X.w) A (getMethod (.ref a) m pl) Q E s:=by
 obtain⟨mA,O,r,_,_,_⟩:=jN I.aU e;have hn:mA m=none:=gz.none_of (by rw[<- l];exact r m)
 exact xT I.gW O (c.get m) k.at_ k.fn hn h
theorem pR{y:V}{Q:Unit->Shared->Prop}(I:Inv X pins σ H s)(e:H a=some (.ins C dx fs))(c:fu X.K C)(n:aK X.K C f)(hl:fs.length<1000)(ry:RelV y u)
  (h:∀ s',Inv X pins σ (upd H a (.ins C dx (cR f y fs))) s'->Q () s'):wpAny (model X.prog X.w) A (setAttr (.ref a) f u) Q E s:=by
 obtain⟨mA,O,r,wi,_,ho⟩:=jN I.aU e;have hz:(fs.map (·.1)).length<=sizeLine:=by rw[Kc,M_];lia
 refine A9 I.gW O c.sa c.po n.Gd c.hd wi hz fun h' O' sb=>h _ ?_;have hd:∃ o,h'.get? dx=some o:=let ⟨o,_,_,e',_⟩:=O'.ns;⟨o,e'⟩
 refine I.write (x:=a) (e:=dx) (by rw[e];exact True.intro) (.inr ho) (fun b q hb z=>(sb.2 b hb).trans z) hd ?_
 refine⟨by rw[ae O.ne];exact ho,?_,O.ne,O'.obj,_,O'.ns,fun g=>?_,fun g hg=>?_⟩
 ·have:=j8 f y fs;lia
 ·show gz ((cR f y fs).lookup g) (if g=f then some u else mA g)
  rw[ju];by_cases q:g=f
  ·rw[Kh q,Kh q];exact ry
  ·rw[Kf q,Kf q];exact r g
 ·by_cases q:g=f
  ·rw[q];exact (ja f y fs).1
  ·refine (ja f y fs).2 g (wi g fun z=>hg ?_);show (if g=f then some u else mA g)=none
   rw[Kf q];exact z
theorem Inv.made(I:Inv X pins σ H s):Inv X pins σ (upd (upd H s.heap.objs.size (.own (s.heap.objs.size+1))) (s.heap.objs.size+1) (.ins C s.heap.objs.size []))
  {s with heap:=(s.heap.push PySem.W.emptyDict).push (PySem.W.instObj C s.heap.objs.size)}:=by
 have e1:(s.heap.push PySem.W.emptyDict).get? s.heap.objs.size=some PySem.W.emptyDict:=Kq s.heap rfl;have e2:((s.heap.push PySem.W.emptyDict).push (PySem.W.instObj C s.heap.objs.size)).get? (s.heap.objs.size+1)=some (PySem.W.instObj C s.heap.objs.size):=by
  have:=Kq (s.heap.push PySem.W.emptyDict) (o:=PySem.W.instObj C s.heap.objs.size) rfl
  rwa [L9] at this
 have e3:(s.heap.push PySem.W.emptyDict).Ns s.heap.objs.size (fun _=>none):=⟨PySem.W.emptyDict,#[],_,e1,rfl,(fun e he=>absurd he (by simp)),fun _=>rfl⟩
 have I1:=I.laid (a:=s.heap.objs.size) (o:=.own (s.heap.objs.size+1)) (h':=s.heap.push PySem.W.emptyDict) (t':=s.toks) (fun b u q=>Ke _ q) (Kk _) ⟨_,e1⟩;refine I1.laid (a:=s.heap.objs.size+1) (o:=.ins C s.heap.objs.size []) (t':=s.toks) (fun b u q=>Ke _ q) (Nat.le_of_eq (L9 _ _)) ?_;have ne:s.heap.objs.size≠s.heap.objs.size+1:=Kz (MM _);refine⟨by rw[ae ne,ab],K7 _,ne,e2,fun _=>none,(Heap.Ns1.of_empty e3).at fun o q=>Ke _ q,fun _=>True.intro,fun y hy=>absurd rfl hy⟩
theorem Ah{prog:Program}{env:Env}{f:Str}(hb:attributeBase e f env (eval e env)=eval e env)
  (h:wpAny (model prog w) A (eval e env) (fun o s₁=>wpAny (model prog w) A (getAttr o f true) Q E s₁) E s):wpAny (model prog w) A (eval (.Attribute e f pos) env) Q E s:=
 Attribute_any_ h (by rw[arm_eval_Attribute,hb])
end
noncomputable def y2(K:Nv)(ta:TE)(f:Str):TE:=fun σ H Q=>ta σ H fun x H1=>∃ a C dx fs v,x=.ref a/\H1 a=some (.ins C dx fs)/\fu K C/\aK K C f/\fs.lookup f=some v/\Q v H1
noncomputable def u_(K:Nv)(ta tv:TE)(f:Str):TS:=fun D σ H=>tv σ H fun y H1=>ta σ H1 fun x H2=>∃ a C dx fs,x=.ref a/\H2 a=some (.ins C dx fs)/\fu K C/\aK K C f/\fs.length<1000 /\
 D.nx σ (upd H2 a (.ins C dx (cR f y fs)))
section
variable {X:Cx} {o e value:Expr} {f:Str} {pos pos' tpos:Pos} {ta tv:TE}
theorem Eu(he:PE X e ta)(hb:attributeBase e f X.env (eval e X.env)=eval e X.env):PE X (.Attribute e f pos) (y2 X.K ta f):=by
 intro pins s σ H Q I h;refine Ah hb (bM (he pins s σ H _ I h) fun u s1 hq40=>?_);obtain⟨x,H1,I1,rx,a,C,dx,fs,v,ex,ea,c,n,l,q⟩:=hq40;subst ex;obtain rfl:u=Value.ref a:=rx;exact qF I1 ea c n l fun u' s2 I2 ru=>⟨v,H1,I2,ru,q⟩
theorem En(ha:PE X o ta)(hv:PE X value tv)(hs:swapsWith value (some (.Attribute o f pos')) pos.line X.env=pure false):PS X (.Assign [.Attribute o f pos'] value pos) (u_ X.K ta tv f):=by
 intro pins s σ H D I h;refine plainObj_wpAny_Assign_Attribute (bM (hv pins s σ H _ I h) fun u s1 ⟨y,H1,I1,ry,q⟩=>bM (ha pins s1 σ H1 _ I1 q) fun ov s2 hq42=>?_) hs;obtain⟨x,H2,I2,rx,a,C,dx,fs,ex,ea,c,n,l,q2⟩:=hq42;subst ex;obtain rfl:ov=Value.ref a:=rx;exact pR I2 ea c n l ry fun s3 I3=>⟨σ,_,I3,q2⟩
end
section
variable {X:Cx} {pins:List (Addr×Obj)} {σ:St} {H:Hp} {s:Shared} {A:Around} {E:Value->Shared->Prop} {Q:Value->Shared->Prop} {c:Value} {b:Bool}
inductive i3 (K:Nv) (H:Hp):V->Value->Prop where
 |aE:i3 K H .aE (.type "NoneType")
 |bl (x:Bool):i3 K H (.bl x) (.type "bool")
 |int (i:Int):i3 K H (.int i) (.type "int")
 |str (x:Str):i3 K H (.str x) (.type "str")
 |Dx (x:UInt64):i3 K H (.Dx x) (.type "float")
 |lst {a:Addr} {xs:List V} (e:H a=some (.lst xs)):i3 K H (.ref a) (.type "list")
 |lQ {a:Addr} {o:Obj} {xs:List V} (e:H a=some (.lQ o (.lst xs))):i3 K H (.ref a) (.type "list")
 |tup {a:Addr} {xs:List V} (e:H a=some (.tup xs)):i3 K H (.ref a) (.type "tuple")
 |dK {a:Addr} {kvs:List (Key×V)} (e:H a=some (.dK kvs)):i3 K H (.ref a) (.type "dict")
 |dT {a:Addr} {kvs:List (List Key×V)} (e:H a=some (.dT kvs)):i3 K H (.ref a) (.type "dict")
 |ins {a C dx:Addr} {fs:List (Str×V)} (e:H a=some (.ins C dx fs)) (cl:fu K C) (ha:PySem.W.findIn K (.ref C) "__class__"=some (some (.builtin "object.__class__")))
   (hn:PySem.W.specialIn K (.builtin "object.__class__") "__get__"=some (some (.builtin "getset_descriptor.__get__"))) (htk:PySem.W.takesIn K (.builtin "object.__class__")=some true)
   (hm:PySem.W.mroIn K C (.type "object")=some true):i3 K H (.ref a) (.ref C)
theorem lV{x:V}{t:Value}(I:Inv X pins σ H s)(rx:RelV x u)(ty:i3 X.K H x t)(e:PySem.W.kitOne X.K t c=some b)(h:∀ tk,Q (.bool b) {s with toks:=tk}):
  wpAny (model X.prog X.w) A (call (.builtin "isinstance") [u,c]) Q E s:=by
 cases ty with
 |aE=>cases (show u=Value.none from rx);exact PySem.W.kia_one PySem.W.kitx_none I.gW True.intro e (fun z=>nomatch z) h
 |bl y=>cases (show u=Value.bool y from rx);exact PySem.W.kia_one PySem.W.kitx_bool I.gW True.intro e (fun z=>nomatch z) h
 |int i=>obtain⟨t,q⟩:=(show ∃ t,u=Value.int i t from rx);cases q;exact PySem.W.kia_one PySem.W.kitx_int I.gW True.intro e (fun z=>nomatch z) h
 |str y=>obtain⟨t,q⟩:=(show ∃ t,u=Value.str y t from rx);cases q;exact PySem.W.kia_one PySem.W.kitx_str I.gW True.intro e (fun z=>nomatch z) h
 |Dx y=>obtain⟨t,q⟩:=(show ∃ t,u=Value.float y t from rx);cases q;exact PySem.W.kia_one PySem.W.kitx_float I.gW True.intro e (fun z=>nomatch z) h
 |@lst a xs ea =>
  cases (show u=Value.ref a from rx)
  obtain⟨_,_,n,_,h1⟩:=(show bC X.prog X.w H s.heap a (.lst xs) from I.aU a _ ea);exact PySem.W.kia_one PySem.W.kitx_list I.gW ⟨_,h1,rfl⟩ e (fun z=>nomatch z) h
 |@lQ a ob xs ea =>
  cases (show u=Value.ref a from rx)
  obtain⟨_,_,_,n,_,h1⟩:=(show bC X.prog X.w H s.heap a (.lQ ob (.lst xs)) from I.aU a _ ea);exact PySem.W.kia_one PySem.W.kitx_list I.gW ⟨_,h1,rfl⟩ e (fun z=>nomatch z) h
 |@tup a xs ea =>
  cases (show u=Value.ref a from rx)
  obtain⟨_,_,_,p⟩:=(show bC X.prog X.w H s.heap a (.tup xs) from I.aU a _ ea);obtain⟨o,h1,h2,_⟩:=p;exact PySem.W.kia_one PySem.W.kitx_tuple I.gW ⟨o,h1,h2⟩ e (fun z=>nomatch z) h
 |@dK a kvs ea =>
  cases (show u=Value.ref a from rx)
  obtain⟨_,_,vs,_,p⟩:=(show bC X.prog X.w H s.heap a (.dK kvs) from I.aU a _ ea);obtain⟨o,es,ep,h1,h2,_⟩:=p;exact PySem.W.kia_one PySem.W.kitx_dict I.gW ⟨o,h1,h2.1⟩ e (fun z=>nomatch z) h
 |@dT a kvs ea =>
  cases (show u=Value.ref a from rx)
  obtain⟨_,_,xs,_,o,es,ep,h1,h2,_⟩:=(show bC X.prog X.w H s.heap a (.dT kvs) from I.aU a _ ea);exact PySem.W.kia_one PySem.W.kitx_dict I.gW ⟨o,h1,h2.1⟩ e (fun z=>nomatch z) h
 |@ins a C dx fs ea cl ha hn htk hm =>
  cases (show u=Value.ref a from rx)
  obtain⟨mA,O,_⟩:=jN I.aU ea;obtain⟨od,J,_⟩:=O.look;exact PySem.W.kia_one (PySem.W.kitx_own (cl.get _) cl.hd ha hn htk hm) I.gW J e (fun z=>nomatch z) h
end
structure bP (k:Nat) (A:Around):Prop where
 hd:A.handled=none
 dp:A.depth+3*k+5<recursionLimit
 un:A.units+16*k+200<cLine
 gd:A.guards=some []
theorem bP.mono{A:Around}(r:bP k A)(h:j<=k):bP j A:=⟨r.hd,by have:=r.dp;lia,by have:=r.un;lia,r.gd⟩
theorem bP.deeper{A:Around}(r:bP (k+1) A)(env:Env):bP k (A.deeper env):=
 ⟨r.hd,by have:=r.dp;show A.depth+1+3*k+5<_;lia,by have:=r.un;show A.units+3+16*k+200<_;lia,r.gd⟩
theorem qC{A:Around}:(A.under (.builtin "type.__call__" ⟨.ref C::us,kw⟩)).depth=A.depth+1:=by
 first|rfl|simp[Around.under,Code.weight,Code.isCreation,Code.isGuard,Code.isCaller,Code.frames,Code.isFrame,guardIds]
theorem qP{A:Around}:(A.under (.builtin "type.__call__" ⟨.ref C::us,kw⟩)).units=A.units+1:=by
 first|rfl|simp[Around.under,Code.cUnits,Code.frames,Code.isFrame]
theorem bP.make{A:Around}(r:bP (k+1) A)(C:Addr)(us:List Value)(kw:List (Str×Value)):bP k (A.under (.builtin "type.__call__" ⟨.ref C::us,kw⟩)):=
 ⟨r.hd,by have:=r.dp;rw[qC];lia,by have:=r.un;rw[qP];lia,by have h:=r.gd;first|exact h | (simp[Around.under,Code.guards,Code.isGuard,guardIds];exact h)⟩
theorem bP.depth{A:Around}(r:bP k A):A.depth<recursionLimit:=by have:=r.dp;lia
theorem bP.units{A:Around}(r:bP k A):A.units+64<cLine:=by have:=r.un;lia
noncomputable def jo:TA:=fun _ H Q=>Q [] H
noncomputable def fW(ta:TE)(tr:TA):TA:=fun σ H Q=>ta σ H fun x H1=>tr σ H1 fun xs H2=>Q (x::xs) H2
section
variable {X:Cx} {e:Expr} {es:List Expr} {te:TE} {t:TA} {pos:Pos}
theorem yy:PA X [] jo:=fun _ _ _ _ H Q I h=>Calls.spliced_nil ⟨[],H,I,.nil,h⟩
theorem sN(ha:PE X e te)(hr:PA X es t)(hs:autoParam (starEach (e::es) X.env=(false,eval e X.env)::starEach es X.env) ℜ0):PA X (e::es) (fW te t):=by
 intro pos pins s σ H Q I h;rw[hs];show wpAny _ _ (spliced ((false,eval e X.env)::backTo pos (starEach es X.env))) _ _ s;refine Calls.spliced_cons (bM (ha pins s σ H _ I h) fun u s1 hq46=>?_);obtain⟨x,H1,I1,r1,q1⟩:=hq46;exact bM (hr pos pins s1 σ H1 _ I1 q1) fun us s2 ⟨xs,H2,I2,r2,q2⟩=>⟨x::xs,H2,I2,.cons r1 r2,q2⟩
noncomputable def xC(t:TA):TE:=fun σ H Q=>t σ H fun xs H1=>xs.length<=sizeLine/\∀ p,H1 p=none->Q (.ref p) (upd H1 p (.tup xs))
noncomputable def tD(t:TA):TE:=fun σ H Q=>t σ H fun xs H1=>xs.length<=sizeLine/\∀ p,H1 p=none->Q (.ref p) (upd H1 p (.lst xs))
theorem Df{x1}(h:PA X es t):PE X (.Tuple es x1 pos) (xC t):=by
 intro pins s σ H Q I hq;refine wpAny_Tuple_spliced (bM (h pos pins s σ H _ I hq) fun us s1 ⟨xs,H1,I1,r,z,q⟩=>⟨by rw[<- r.length];exact z,?_⟩)
 have hf:H1 s1.heap.objs.size=none:=I1.aU.fresh (Kk _);refine⟨.ref s1.heap.objs.size,upd H1 s1.heap.objs.size (.tup xs),I1.laid (t':=s1.toks) (fun b u e=>Ke _ e) (Kk _) ?_,rfl,q _ hf⟩;exact⟨z,us,r,⟨_,Kq _ rfl,rfl,_,rfl,rfl⟩⟩
theorem DA(h:PA X es t):PE X (.List es pos) (tD t):=by
 intro pins s σ H Q I hq;refine wpAny_List_spliced (bM (h pos pins s σ H _ I hq) fun us s1 ⟨xs,H1,I1,r,z,q⟩=>⟨by rw[<- r.length];exact z,?_⟩)
 have hf:H1 s1.heap.objs.size=none:=I1.aU.fresh (Kk _);refine⟨.ref s1.heap.objs.size,upd H1 s1.heap.objs.size (.lst xs),I1.laid (t':=s1.toks) (fun b u e=>Ke _ e) (Kk _) ?_,rfl,q _ hf⟩;exact⟨z,us,0,r,Kq _ rfl⟩
end
abbrev Sp:=List V->Hp->VK->XK->Prop
abbrev nU:=List Env->Hp->Shared->XK->Value->Shared->Prop
variable{CX:nU}
structure qZ (P:Program) (w:World) (K:Nv) (mg:Str->Option Value) (base:Heap) (A:Around) (outer:List Env) (s:Shared) (H:Hp):Prop where
 frames:A.frames=some outer
 mod:Mod K mg base
 bs:∀ b o,base.get? b=some o->s.heap.get? b=some o/\H b=none
 yT:base.objs.size<=s.heap.objs.size
 jC:s.heap.FunFrames base outer
 E2:∀ b∈wK outer,H b=none
 aU:hV P w H s.heap
 bare:AllBare s.gens
 tabs:TabsOk K H
noncomputable def CE(outer:List Env)(P:Program)(w:World)(H:Hp)(s:Shared)(Q:VK)(u:Value)(s':Shared):Prop:=
 ∃ v H',s'.os=s.os/\AllBare s'.gens/\Un (wK outer) [] H H' s.heap s'.heap/\hV P w H' s'.heap/\RelV v u/\Q v H'
noncomputable def CR(CX:nU)(outer:List Env)(P:Program)(w:World)(H:Hp)(s:Shared)(Q:VK)(E:XK)(r:Result)(s':Shared):Prop:=
 match r with
 |.ok (.ret u)=>CE outer P w H s Q u s'
 |.ok _=>False
 |.error e=>CX outer H s E e s'
structure a_ (P:Program) (w:World) (K:Nv) (mg:Str->Option Value) (base:Heap) (CX:nU) (k:Nat) (f:Addr) (fd:FuncData) (ps:List Str) (sp:Sp):Prop where
 len:∀ vs H Q E,sp vs H Q E->vs.length=ps.length
 run:∀(A:Around) (outer:List Env) (s:Shared) (H:Hp) (args:Args) (us:List Value) (vs:List V) (Q:VK) (E:XK),bP k A->qZ P w K mg base A outer s H->BindsTo s fd args (ps.zip us)->Vals vs us->sp vs H Q E ->
  codeAny (model P w) A (.call (.ref f) args) (CR CX outer P w H s Q E) s
theorem a_.mono{f:Addr}{ps:List Str}{sp:Sp}(F:a_ P w K mg base CX j f fd ps sp)(h:j<=k):
  a_ P w K mg base CX k f fd ps sp:=⟨F.len,fun A outer s H args us vs Q E hr=>F.run A outer s H args us vs Q E (hr.mono h)⟩
theorem qZ.make{A:Around}(e:qZ P w K mg base A outer s H)(C:Addr)(us:List Value)(kw:List (Str×Value)):
  qZ P w K mg base (A.under (.builtin "type.__call__" ⟨.ref C::us,kw⟩)) outer s H:=⟨by first|exact e.frames | (simpa[Around.under,Code.envs,Code.isFrame,pushEnvs] using e.frames),e.mod,e.bs,e.yT,e.jC,e.E2,e.aU,e.bare,e.tabs⟩
section
variable {X:Cx} {pins:List (Addr×Obj)} {σ:St} {H:Hp} {s s':Shared}
theorem Inv.GI(I:Inv X pins σ H s):qZ X.prog X.w X.K X.mg X.base X.A X.stack s H:=
 ⟨I.ok.frames,I.ok.mod,I.bs,Kj I.ok.yT I.sz,I.stack,I.sY,I.aU,I.bare,I.ok.tabs.un I.base⟩
theorem Inv.after{Q:VK}(I:Inv X pins σ H s)(h:CE X.stack X.prog X.w H s Q u s'):EP X pins σ Q u s':=by
 obtain⟨v,H',os,bare,un,aU,r,q⟩:=h;obtain⟨hh,g,d,t,os'⟩:=s';obtain rfl:os'=s.os:=os;exact⟨v,H',I.call (h':=hh) (g':=g) (d':=d) (t':=t) (ch:=[]) un aU bare (fun b z=>absurd z (by simp)),r,q⟩
end
noncomputable def gL(sp:Sp)(dvs:List V)(E:XK)(t:TA):TE:=fun σ H Q=>t σ H fun vs H1=>sp (vs++dvs) H1 Q E
noncomputable def kg(C:Addr)(m:Str)(sp:Sp)(dvs:List V)(E:XK)(ta:TE)(t:TA):TE:=fun σ H Q=>ta σ H fun x H1=>∃ a dx fs,x=.ref a/\H1 a=some (.ins C dx fs)/\fs.lookup m=none /\
 t σ H1 fun vs H2=>sp (x::(vs++dvs)) H2 Q E
noncomputable def jq(C:Addr)(sp:Sp)(dvs:List V)(E:XK)(t:TA):TE:=fun σ H Q=>t σ H fun vs H1=>∀ x dx,H1 x=none->H1 dx=none->dx≠x ->
 sp (.ref x::(vs++dvs)) (upd (upd H1 dx (.own x)) x (.ins C dx [])) (fun v H2=>v=.aE/\Q (.ref x) H2) E
noncomputable def Binds(K:Nv)(fd:FuncData)(ps:List Str)(ds:List Value):Prop:=
 ∀(s:Shared) (us:List Value),K.In s.heap->(us++ds).length=ps.length->BindsTo s fd ⟨us,[]⟩ (ps.zip (us++ds))
theorem Binds.all{ps:List Str}(h:∀ us:List Value,us.length=ps.length->bindArgs fd ⟨us,[]⟩=pure (ps.zip us)):Binds K fd ps []:=fun s us _ hl=>by
 rw[KN] at hl ⊢;exact .of_eq (h us hl)
noncomputable def Passes(CX:nU)(X:Cx)(E:XK):Prop:=∀(pins:List (Addr×Obj)) (σ:St) (H:Hp) (s:Shared) (e:Value) (s':Shared),Inv X pins σ H s->CX X.stack H s E e s'->X.xe e s'
section
variable {X:Cx} {CX:nU} {k:Nat} {f C:Addr} {fd:FuncData} {ps:List Str} {sp:Sp} {dvs:List V} {ds:List Value} {E:XK} {x m:Str} {p pos apos:Pos} {e o:Expr} {es:List Expr} {ta:TE} {t:TA}
theorem qL{Q:VK}{vs:List V}(F:a_ X.prog X.w X.K X.mg X.base CX k f fd ps sp)(hr:bP k X.A)(hb:Binds X.K fd ps ds)(hd:Vals dvs ds)(hx:Passes CX X E)
  (I:Inv X pins σ H s) (r:Vals vs us) (h:sp (vs++dvs) H Q E):wpAny (model X.prog X.w) X.A (call (.ref f) us) (EP X pins σ Q) X.xe s:=by
 have r2:Vals (vs++dvs) (us++ds):=r.append hd;have hl:(us++ds).length=ps.length:=by rw[<- r2.length];exact F.len _ _ _ _ h
 refine wpAny_call (Nt (F.run X.A X.stack s H ⟨us,[]⟩ (us++ds) (vs++dvs) Q E hr I.GI (hb s us I.gW hl) r2 h) fun r s' hq=>?_)
 cases r with
 |error e=>exact hx pins σ H s e s' I hq
 |ok fl =>
  cases fl with
  |ret u=>exact I.after hq
  |next=>exact False.elim hq
  |brk=>exact False.elim hq
  |cont=>exact False.elim hq
theorem Bi(F:a_ X.prog X.w X.K X.mg X.base CX k f fd ps sp)(hr:bP k X.A)(hg:Gl X x)(hm:X.mg x=some (.ref f))(hk:PySem.W.keepIn X.K (.ref f)=true)(hb:Binds X.K fd ps ds)(hd:Vals dvs ds)(hx:Passes CX X E)
  (ha:PA X (e::es) t) (hdb:autoParam ((x ==("__debug__":Str))=false) ℜ1) (he:autoParam (starEach (e::es) X.env=(false,eval e X.env)::starEach es X.env) ℜ0) (hpl:autoParam ((backTo pos (starEach es X.env)).any (·.1)=false) ℜ0) :
  PE X (.Call (.Name x p) (e::es) [] pos) (gL sp dvs E t):=by
 intro pins s σ H Q I h;refine LN (jO I hg hm ?_ hdb);refine PySem.W.callWith_K (h₀:=X.base) I.ok.mod.Fn hk (bM (ha pos pins s σ H _ I h) fun us s1 ⟨vs,H1,I1,r,q⟩=>⟨I1.gW,?_⟩) he hpl;exact qL F hr hb hd hx I1 r q
theorem zp{pl:Sem Bool}(he:PE X o ta)(c:fu X.K C)(hm:Meth X.K C m f)(F:a_ X.prog X.w X.K X.mg X.base CX k f fd ps sp)(hr:bP k X.A)(hb:Binds X.K fd ps ds)(hd:Vals dvs ds)(hx:Passes CX X E)(ha:PA X (e::es) t)
  (hst:autoParam (starEach (e::es) X.env=(false,eval e X.env)::starEach es X.env) ℜ0) (hpl:autoParam ((backTo pos (starEach es X.env)).any (·.1)=false) ℜ0)
  (ht:autoParam (eval (.Call (.Attribute o m apos) (e::es) [] pos) X.env=(do
   let ov <- eval o X.env
   standAt apos.atName
   let (f,first) <- holding [ov] (getMethod ov m pl)
   callWith pos f first (backTo pos (starEach (e::es) X.env)) (backToKw pos (keywordEach [] X.env)))) ℜ0) :
  PE X (.Call (.Attribute o m apos) (e::es) [] pos) (kg C m sp dvs E ta t):=by
 intro pins s σ H Q I h;refine PySem.W.methodCall_KW (pl:=pl) (bM (he pins s σ H _ I h) fun u s1 hq47=>?_) ht;obtain⟨x,H1,I1,rx,a,dx,fs,ex,ea,l,q⟩:=hq47;subst ex;obtain rfl:u=Value.ref a:=rx;refine lg I1 ea c hm l ?_;refine PySem.W.callWith_K (first:=[.ref a]) (h₀:=X.base) I.ok.mod.Fn hm.kp (bM (ha pos pins s1 σ H1 _ I1 q) fun us s2 ⟨vs,H2,I2,r,q2⟩=>⟨I2.gW,?_⟩) hst hpl
 exact qL (us:=.ref a::us) (vs:=.ref a::vs) F hr hb hd hx I2 (.cons rfl r) q2
theorem vZ{pl:Sem Bool}(he:PE X o ta)(c:fu X.K C)(hm:Meth X.K C m f)(F:a_ X.prog X.w X.K X.mg X.base CX k f fd ps sp)(hr:bP k X.A)(hb:Binds X.K fd ps ds)(hd:Vals dvs ds)(hx:Passes CX X E)
  (ht:autoParam (eval (.Call (.Attribute o m apos) [] [] pos) X.env=(do
   let ov <- eval o X.env
   standAt apos.atName
   let (f,first) <- holding [ov] (getMethod ov m pl)
   callWith pos f first (backTo pos (starEach [] X.env)) (backToKw pos (keywordEach [] X.env)))) ℜ0) :
  PE X (.Call (.Attribute o m apos) [] [] pos) (kg C m sp dvs E ta jo):=by
 intro pins s σ H Q I h;refine PySem.W.methodCall_KW (pl:=pl) (bM (he pins s σ H _ I h) fun u s1 hq48=>?_) ht;obtain⟨x,H1,I1,rx,a,dx,fs,ex,ea,l,q⟩:=hq48;subst ex;obtain rfl:u=Value.ref a:=rx;refine lg I1 ea c hm l ?_;exact PySem.W.callWith_K0 (first:=[.ref a]) I1.gW hm.kp (qL (us:=[.ref a]) (vs:=[.ref a]) F hr hb hd hx I1 (.cons rfl .nil) q)
structure Mk (K:Nv) (C f:Addr):Prop where
 makes:PySem.W.makesIn K C=true
 init:PySem.W.findIn K (.ref C) "__init__"=some (some (.ref f))
 fn:PySem.W.isFn K (.ref f)=true
 kp:PySem.W.keepIn K (.ref C)=true
theorem oi{Q:VK}{vs:List V}(M:Mk X.K C f)(F:a_ X.prog X.w X.K X.mg X.base CX k f fd ps sp)(hr:bP (k+1) X.A)(hb:Binds X.K fd ps ds)(hd:Vals dvs ds)
  (hx:Passes CX X E) (I:Inv X pins σ H s) (r:Vals vs us)
  (h:∀ x dx,H x=none->H dx=none->dx≠x->sp (.ref x::(vs++dvs)) (upd (upd H dx (.own x)) x (.ins C dx [])) (fun v H2=>v=.aE/\Q (.ref x) H2) E) :
  wpAny (model X.prog X.w) X.A (call (.ref C) us) (EP X pins σ Q) X.xe s:=by
 have hq:=h (s.heap.objs.size+1) s.heap.objs.size (I.aU.fresh (LR _)) (I.aU.fresh (Kk _)) (Kz (MM _));have I2:=Inv.made (C:=C) I;have r2:Vals (V.ref (s.heap.objs.size+1)::(vs++dvs)) (Value.ref (s.heap.objs.size+1)::(us++ds)):=.cons rfl (r.append hd);have hl:(Value.ref (s.heap.objs.size+1)::us++ds).length=ps.length:=by
  have e:=r2.length;rw[F.len _ _ _ _ hq] at e;exact e.symm
 refine wpAny_call (xA (f:=f) I.gW M.makes M.init (LX.mp M.fn) (Nt (F.run _ X.stack _ _ ⟨Value.ref (s.heap.objs.size+1)::us,[]⟩ (Value.ref (s.heap.objs.size+1)::(us++ds)) _ _ E (hr.make C us [])
  (I2.GI.make C us []) (hb _ (Value.ref (s.heap.objs.size+1)::us) I2.gW hl) r2 hq) fun r s' hq'=>?_))
 cases r with
 |error e=>exact hx pins σ _ _ e s' I2 hq'
 |ok fl =>
  cases fl with
  |ret u =>
   obtain⟨v,H',I3,rv,ev,q3⟩:=I2.after hq';subst ev;exact⟨rv,⟨V.ref (s.heap.objs.size+1),H',I3,rfl,q3⟩⟩
  |next=>exact False.elim hq'
  |brk=>exact False.elim hq'
  |cont=>exact False.elim hq'
theorem zk(M:Mk X.K C f)(F:a_ X.prog X.w X.K X.mg X.base CX k f fd ps sp)(hr:bP (k+1) X.A)(hg:Gl X x)(hm:X.mg x=some (.ref C))(hb:Binds X.K fd ps ds)(hd:Vals dvs ds)(hx:Passes CX X E)
  (ha:PA X (e::es) t) (hdb:autoParam ((x ==("__debug__":Str))=false) ℜ1) (he:autoParam (starEach (e::es) X.env=(false,eval e X.env)::starEach es X.env) ℜ0) (hpl:autoParam ((backTo pos (starEach es X.env)).any (·.1)=false) ℜ0) :
  PE X (.Call (.Name x p) (e::es) [] pos) (jq C sp dvs E t):=by
 intro pins s σ H Q I h;refine LN (jO I hg hm ?_ hdb);refine PySem.W.callWith_K (h₀:=X.base) I.ok.mod.Fn M.kp (bM (ha pos pins s σ H _ I h) fun us s1 ⟨vs,H1,I1,r,q⟩=>⟨I1.gW,?_⟩) he hpl;exact oi M F hr hb hd hx I1 r q
theorem xZ(M:Mk X.K C f)(F:a_ X.prog X.w X.K X.mg X.base CX k f fd ps sp)(hr:bP (k+1) X.A)(hg:Gl X x)(hm:X.mg x=some (.ref C))(hb:Binds X.K fd ps ds)(hd:Vals dvs ds)(hx:Passes CX X E)
  (hdb:autoParam ((x ==("__debug__":Str))=false) ℜ1):PE X (.Call (.Name x p) [] [] pos) (jq C sp dvs E jo):=by
 intro pins s σ H Q I h;refine LN (jO I hg hm ?_ hdb);exact PySem.W.callWith_K0 I.gW M.kp (oi (us:=[]) M F hr hb hd hx I .nil h)
end
structure aj (N P:List Str) (sc:Scope):Prop where
 kind:sc.kind=.function
 co:sc.isCoroutine=false
 gen:sc.isGenerator=false
 nd:N.Nodup
 pre:N.take P.length=P
 par:∀ x∈P,sc.names.lookup x=some .local\/sc.names.lookup x=some .cell
 Cj:∀ y∈sc.names,y.2≠.free
theorem lM{x:Str}:∀{binds:List (Str×Value)} {m:Str->Option Value},(∀ v,(x,v)∉binds)->bindL kindOf binds m x=m x
 |[],_,_=>rfl
 | (n,v)::r,m,h=>by
  unfold bindL;rw[lM fun w hw=>h w (Ko _ hw)];split
  ·have:x≠n:=by rintro rfl;exact h v Ky
   simp[this]
  ·rfl
theorem l_{x:Str}:∀{binds:List (Str×Value)} {m:Str->Option Value},(∀ v,(x,v)∉binds)->bindC kindOf binds m x=m x
 |[],_,_=>rfl
 | (n,v)::r,m,h=>by
  unfold bindC;rw[l_ fun w hw=>h w (Ko _ hw)];split
  ·rfl
  ·have:x≠n:=by rintro rfl;exact h v Ky
   simp[this]
theorem m7{x:Str}{v:Value}:∀{P:List Str} {vs:List Value} {i:Nat} {m:Str->Option Value},P.Nodup->P[i]?=some x->vs[i]?=some v->kindOf x=some .local ->
  bindL kindOf (P.zip vs) m x=some v
 |[],_,_,_,_,h,_,_=>by simp at h
 |_::_,[],_,_,_,_,h,_=>by simp at h
 |p::P,w::vs,0,m,nd,h1,h2,hk=>by
  simp at h1 h2;subst h1;subst h2;show bindL kindOf ((p,w)::P.zip vs) m p=_;unfold bindL;rw[lM fun v hv=>(KC.mp nd).1 (MW hv).1,Kh hk];simp
 |p::P,w::vs,i+1,m,nd,h1,h2,hk=>by
  show bindL kindOf ((p,w)::P.zip vs) m x=_;unfold bindL;exact m7 (i:=i) (KC.mp nd).2 (by simpa using h1) (by simpa using h2) hk
theorem lU{x:Str}{v:Value}:∀{P:List Str} {vs:List Value} {i:Nat} {m:Str->Option Value},P.Nodup->P[i]?=some x->vs[i]?=some v->kindOf x≠some .local ->
  bindC kindOf (P.zip vs) m x=some v
 |[],_,_,_,_,h,_,_=>by simp at h
 |_::_,[],_,_,_,_,h,_=>by simp at h
 |p::P,w::vs,0,m,nd,h1,h2,hk=>by
  simp at h1 h2;subst h1;subst h2;show bindC kindOf ((p,w)::P.zip vs) m p=_;unfold bindC;rw[l_ fun v hv=>(KC.mp nd).1 (MW hv).1,Kf hk];simp
 |p::P,w::vs,i+1,m,nd,h1,h2,hk=>by
  show bindC kindOf ((p,w)::P.zip vs) m x=_;unfold bindC;exact lU (i:=i) (KC.mp nd).2 (by simpa using h1) (by simpa using h2) hk
noncomputable def start(N:List Str)(vs:List V):St:=vs.map some++List.replicate (N.length-vs.length) none
noncomputable def cF(CX:nU)(P:Program)(w:World)(K:Nv)(mg:Str->Option Value)(base:Heap)(N:List Str)(qual:Str)(scope:Scope)(f:Addr)(cd:Value)(A:Around)(outer:List Env)(s:Shared)(H:Hp)(E:XK):Cx where
 prog:=P
 w:=w
 K:=K
 mg:=mg
 base:=base
 A:=A.deeper (envOfC qual scope s.heap.objs.size f cd)
 N:=N
 s₀:=s
 H₀:=H
 env:=envOfC qual scope s.heap.objs.size f cd
 outer:=outer
 stack:=envOfC qual scope s.heap.objs.size f cd::outer
 ex:=[]
 calm:=true
 fn:=fun _=>true
 pn:=[]
 xe:=fun e s'=>wpAny (model P w) (A.deeper (envOfC qual scope s.heap.objs.size f cd)) (leaving (envOfC qual scope s.heap.objs.size f cd) e) (fun _ s''=>CX outer H s E e s'') (fun e' s''=>CX outer H s E e' s'') s'
theorem oE{sc:Scope}{x:Str}(h:sc.names.lookup x=some .cell):∃ c,(cellsFrom n sc.names []).lookup x=some c:=by
 have q:=PySem.W.cellsFrom_some sc.names n [] (.inl h);exact MN.mp q
theorem tJ{ps:List Str}{qual:Str}{f:Addr}{cd:Value}{A:Around}{s1:Shared}{E:XK}{vs:List V}
  (S:aj N ps scope) (hd:A.handled=none) (e0:qZ P w K mg base A outer s H) (hl:vs.length=ps.length) (r:Vals vs us)
  (x:InCallC s s.heap.objs.size (bindL (envOfC qual scope s.heap.objs.size f cd).kindOf (ps.zip us) fun _=>none) (cellsFrom (s.heap.objs.size+1) scope.names []) (bindC (envOfC qual scope s.heap.objs.size f cd).kindOf (ps.zip us) fun _=>none) s1) :
  Inv (cF CX P w K mg base N qual scope f cd A outer s H E) [] (start N vs) H s1:=by
 have hpl:ps.length<=N.length:=by have:=K1 List.length S.pre;rw[KD] at this;lia
 obtain⟨h1,tk,rfl,hk⟩:=x.done;have noA:∀ b:Addr,b∉(cF CX P w K mg base N qual scope f cd A outer s H E).ex:=fun b z=>absurd (show b∈([]:List Addr) from z) (by simp)
 refine⟨⟨e0.mod,S.kind,rfl,rfl,Kk _,fun y z c h1 h2=>?_,fun y hy=>?_,fun y c _ h=>?_,fun _=>hd,Around.frames_deeper e0.frames,.inr ⟨rfl,rfl⟩,fun b z=>absurd z (noA b),e0.bs,e0.yT,fun b _ _=>noA b,fun b z=>absurd z (noA b),e0.jC,e0.E2,e0.tabs⟩,
  rfl,e0.bare,Un.kept hk,⟨_,x.toInCall.ns,fun i y v h1 h2 h3=>?_⟩,fun y c h=>⟨_,x.cell y c h⟩,e0.aU.fresh (Kk _),fun y c h=>?_,fun p hp=>absurd (show p∈([]:List (Addr×Obj)) from hp) (by simp),e0.aU.kept hk,?_⟩
 ·exact name_of_addr x.apart (PySem.mem_of_lookup h1) (PySem.mem_of_lookup h2)
 ·have hy:scope.names.lookup y=some .cell\/scope.names.lookup y=some .free:=hy;rcases hy with hy|hy
  ·exact oE hy
  ·exact absurd rfl (S.Cj _ (PySem.mem_of_lookup hy))
 ·exact Nr (x.above y c (PySem.mem_of_lookup h))
 ·have hi:i<vs.length:=by
   unfold start at h2;by_cases hi:i<vs.length
   ·exact hi
   ·rw[LZ (by simpa using hi)] at h2
    rw[LI] at h2
    split at h2<;>cases h2
  have ha:vs[i]?=some v:=by
   unfold start at h2;rw[L6 (by simpa using hi),K2] at h2
   cases e:vs[i]? with
   |none=>rw[e] at h2;cases h2
   |some a=>rw[e] at h2;cases h2;rfl
  obtain⟨u,hu,rv⟩:=r.get ha;have hp:ps[i]?=some y:=by
   rw[<- S.pre,List.getElem?_take_of_lt (by lia)];exact h1
  have ndP:ps.Nodup:=by rw[<- S.pre];exact S.nd.sublist (List.take_sublist _ _)
  refine⟨u,rv,?_⟩;rcases S.par y (KH hp) with k|k
  ·exact .inl ⟨k,m7 ndP hp hu k⟩
  ·obtain⟨c,e⟩:=oE (n:=s.heap.objs.size+1) k;refine .inr ⟨.inl k,c,e,?_⟩;have q:=x.cell y c e;rw[lU ndP hp hu (by show scope.names.lookup y≠_;rw[k];decide)] at q
   exact q
 ·exact e0.aU.fresh (Nr (x.above y c (PySem.mem_of_lookup h)))
 ·unfold start;show _=N.length;rw[Kv,Kc,K_];lia
theorem Bk{f:Addr}{name qual:Str}{params:Arguments}{dV kV doc pm cdv ct oc:Value}{an od:Option Addr}
  {osl:Array (Option Value)} {ps:List Str} {sp:Sp} (lk:K.lookup f=some ⟨oc,od,.func (PySem.W.fnOf name qual params body scope dV kV doc pm an cdv ct),osl⟩) (hcd:PySem.W.codeIn K cdv qual=true) (S:aj N ps scope)
  (len:∀ vs H Q E,sp vs H Q E->vs.length=ps.length)
  (hbody:∀(A:Around) (outer:List Env) (s:Shared) (H:Hp) (vs:List V) (Q:VK) (E:XK),bP k (A.deeper (envOfC qual scope s.heap.objs.size f cdv))->sp vs H Q E ->
   ∃ t,qU (cF CX P w K mg base N qual scope f cdv A outer s H E) body t/\t {nx:=fun _ H'=>Q .aE H',rt:=Q} (start N vs) H) :
  a_ P w K mg base CX (k+1) f (PySem.W.fnOf name qual params body scope dV kV doc pm an cdv ct) ps sp:=by
 refine⟨len,fun A outer s H args us vs Q E hr e0 hb r hsp=>?_⟩;have hl:=len _ _ _ _ hsp;have KX:K.In s.heap:=e0.mod.Fn.keeps fun b o e=>(e0.bs b o e).1;have lim:s.heap.NoLimit:=e0.mod.nolimit.keeps fun b o e=>(e0.bs b o e).1;have hkind:∀ y∈ps.zip us,scope.names.lookup y.1=some .local\/(scope.names.lookup y.1=some .cell/\((cellsFrom (s.heap.objs.size+1) scope.names []).lookup y.1).isSome=true):=fun⟨n,v⟩ hy=>by
  rcases S.par n (MW hy).1 with q|q
  ·exact .inl q
  ·exact .inr ⟨q,PySem.W.cellsFrom_some _ _ _ (.inl q)⟩
 refine codeAny_call_function hr.depth (KX _ _ lk) rfl S.co S.gen rfl (PySem.W.codeRec_of KX hcd) (hb _ _ _ _ ?_);refine wpAny_newFunctionEnv_cells S.kind hkind fun env he s1 x=>?_;subst he;refine⟨lim.keeps x.toInCall.keep,codeAny_func ?_⟩;obtain⟨t,ht,hq⟩:=hbody A outer s H vs Q E (hr.deeper _) hsp;have I:Inv (cF CX P w K mg base N qual scope f cdv A outer s H E) [] (start N vs) H s1:=tJ S hr.hd e0 hl r x;refine Lh (ht [] s1 (start N vs) H _ I hq) (fun fl s' hs=>?_) fun e s' hs=>hs;have fin:∀{σ':St} {H':Hp} {v:V} {u:Value},Inv (cF CX P w K mg base N qual scope f cdv A outer s H E) [] σ' H' s'->RelV v u->Q v H'->CE outer P w H s Q u s':=
  fun {σ' H' v u} J rv q=>⟨v,H',J.os,J.bare,J.base,J.aU,rv,q⟩
 cases fl with
 |ret u =>
  obtain⟨v,σ',H',J,rv,q⟩:=hs;exact fin J rv q
 |next =>
  obtain⟨σ',H',J,q⟩:=hs;exact fin (v:=V.aE) (u:=Value.none) J rfl q
 |brk =>
  obtain⟨_,_,_,q⟩:=hs;exact False.elim q
 |cont =>
  obtain⟨_,_,_,q⟩:=hs;exact False.elim q
section
variable {X:Cx} {x:Str} {p pos:Pos} {e:Expr} {es:List Expr} {t:TA} {id T:String} {r:List V->Hp->VK->Prop}
noncomputable def xY(r:List V->Hp->VK->Prop)(t:TA):TE:=fun σ H Q=>t σ H fun vs H1=>r vs H1 Q
theorem wu(hc:bp X (.builtin id) r)(hg:Gl X x)(hm:X.mg x=none)(hv:bootBuiltins x=some (.builtin id))(ha:PA X (e::es) t)(hn:autoParam (x≠"__name__") ℜ1)(hdb:autoParam ((x ==("__debug__":Str))=false) ℜ1)
  (he:autoParam (starEach (e::es) X.env=(false,eval e X.env)::starEach es X.env) ℜ0) (hpl:autoParam ((backTo pos (starEach es X.env)).any (·.1)=false) ℜ0):PE X (.Call (.Name x p) (e::es) [] pos) (xY r t):=by
 intro pins s σ H Q I h;refine LN (iW I hg hm hv ?_ hn hdb);exact PyProof.Rows.callWith_builtin1 (bM (ha pos pins s σ H _ I h) fun us s1 ⟨vs,H1,I1,r1,q1⟩=>hc pins s1 σ H1 vs us Q I1 r1 q1) he hpl
theorem uN(hc:bp X (.type T) r)(hg:Gl X x)(hm:X.mg x=none)(hv:bootBuiltins x=some (.type T))(ha:PA X (e::es) t)(hn:autoParam (x≠"__name__") ℜ1)(hdb:autoParam ((x ==("__debug__":Str))=false) ℜ1)
  (he:autoParam (starEach (e::es) X.env=(false,eval e X.env)::starEach es X.env) ℜ0) (hpl:autoParam ((backTo pos (starEach es X.env)).any (·.1)=false) ℜ0):PE X (.Call (.Name x p) (e::es) [] pos) (xY r t):=by
 intro pins s σ H Q I h;refine LN (iW I hg hm hv ?_ hn hdb);exact Lw (bM (ha pos pins s σ H _ I h) fun us s1 ⟨vs,H1,I1,r1,q1⟩=>hc pins s1 σ H1 vs us Q I1 r1 q1) he hpl
end
end L2
namespace HT
open PySem PyProof.Rows
section
variable {prog:Program} {w:World} {A:Around} {E:Value->Shared->Prop} {s:Shared}
theorem zQ{t b:Addr}{vs ws:List Value}{Q:Value->Shared->Prop}(ht:IsTup s.heap t vs.toArray)(hb:IsTup s.heap b ws.toArray)(hv:vs≠[])
  (h1:ws=[]->Q (.ref t) s) (h2:ws≠[]->Q (.ref s.heap.objs.size) {s with heap:=s.heap.push {cls:=.type "tuple",data:=.seq (vs++ws).toArray}})
  (hsz:vs.length+ws.length<=sizeLine):wpAny (model prog w) A (binaryOp .Add (.ref t) (.ref b)) Q E s:=by
 obtain⟨⟨cls,dd,data,sl⟩,ho,hc,n,hd⟩:=id ht;obtain⟨⟨cls2,dd2,data2,sl2⟩,ho2,hc2,n2,hd2⟩:=id hb;simp only at hc hd hc2 hd2;subst hc hd hc2 hd2;have e:vs.toArray++ws.toArray=(vs++ws).toArray:=by simp
 by_cases hw:ws=[]
 ·exact concat_meets ⟨_,ho,rfl⟩ ⟨_,ho2,rfl⟩ noFill_tuple_add seq_tuple_add PySem.F.slot_tuple_add PySem.F.entry_tuple_add (PySem.F.args_tuple_add_2 _ _)
   (tuple_addW1 t b vs.toArray ws.toArray n n2 dd dd2 sl sl2 (by simpa using hv) (by simp[hw])) ⟨ho,ho2,h1 hw⟩
 ·refine concat_meets ⟨_,ho,rfl⟩ ⟨_,ho2,rfl⟩ noFill_tuple_add seq_tuple_add PySem.F.slot_tuple_add PySem.F.entry_tuple_add (PySem.F.args_tuple_add_2 _ _)
   (tuple_addW2 t b vs.toArray ws.toArray n n2 dd dd2 sl sl2 (by simpa using hv) (by simpa using hw) (by rw[List.size_toArray,List.size_toArray];exact hsz)) ⟨ho,ho2,?_⟩
  rw[e];exact h2 hw
noncomputable def bK(n d:Nat):Option Int->Nat
 |none=>d
 |some v=>if v<0 then (v+(n:Int)).toNat else min v.toNat n
theorem dy(n d:Nat):bK n d none=d:=rfl
theorem gx(n d k:Nat):bK n d (some (k:Int))=min k n:=by
 show (if (k:Int)<0 then ((k:Int)+(n:Int)).toNat else min (k:Int).toNat n)=min k n
 rw[if_neg (by lia),Int.toNat_natCast]
theorem rk(n d:Nat)(hd:d<=n)(o:Option Int):bK n d o<=n:=by
 cases o with
 |none=>exact hd
 |some v =>
  show (if v<0 then (v+(n:Int)).toNat else min v.toNat n)<=n
  by_cases hv:v<0
  ·rw[if_pos hv];lia
  ·rw[if_neg hv];exact Nat.min_le_right _ _
theorem r8(v:Int)(n d:Nat):(if v<0 then max (v+(n:Int)) 0 else min v (n:Int))=((bK n d (some v):Nat):Int):=by
 show (if v<0 then max (v+(n:Int)) 0 else min v (n:Int))=(((if v<0 then (v+(n:Int)).toNat else min v.toNat n):Nat):Int)
 by_cases hv:v<0
 ·simp only[if_pos hv];lia
 ·simp only[if_neg hv];lia
theorem qj(lo hi:Option Int)(n:Nat):Builtin.Slice.sliceAdjust lo hi 1 (n:Int)=(((bK n 0 lo:Nat):Int),((bK n n hi:Nat):Int)):=by
 have h1:¬ ((1:Int)<0):=by lia
 unfold Builtin.Slice.sliceAdjust;simp only[h1,if_false];refine Prod.ext ?_ ?_
 ·cases lo with
  |none=>rfl
  |some v=>exact r8 v n 0
 ·cases hi with
  |none=>rfl
  |some v=>exact r8 v n n
theorem pN(i j:Nat):Builtin.Slice.slicePlaces (i:Int) (j:Int) 1=j-i:=by
 unfold Builtin.Slice.slicePlaces;have h1:(1:Int) > 0:=by lia
 simp only[h1,if_true,Int.ediv_one]
 split<;>lia
theorem kX{v:Value}{o:Option Int}{Q:Option Int->Shared->Prop}(p:IsPart v o)(h:Q o s):wpAny (model prog w) A (Builtin.Slice.slicePartIndex v) Q E s:=by
 cases p with
 |none=>exact slicePart_none h
 |int i t=>exact slicePart_int h
theorem eZ{sl:Addr}{vl vu:Value}{lo hi:Option Int}{n:Nat}{Q:Int×Int×Nat->Shared->Prop}(hs:s.heap.IsSliceOf sl vl vu .none)(pl:IsPart vl lo)(pu:IsPart vu hi)
  (h:Q (((bK n 0 lo:Nat):Int),1,bK n n hi-bK n 0 lo) s):wpAny (model prog w) A (Builtin.Slice.sliceApplied (.ref sl) (pure (n:Int))) Q E s:=by
 obtain⟨os,hos,hcs,hds⟩:=id hs;unfold Builtin.Slice.sliceApplied Builtin.Slice.sliceFields;refine wpAny_bind (wpAny_bind (wpAny_field hos hds (x:=vl) rfl (wpAny_bind (wpAny_field hos hds (x:=vu) rfl (wpAny_bind (wpAny_field hos hds (x:=.none) rfl (wpAny_pure ?_)))))));refine wpAny_bind (slicePart_none ?_);show wpAny _ _ (if ((1:Int) == 0)=true then _ else _) _ _ s
 rw[if_neg (by decide)]
 refine wpAny_bind (kX pl (wpAny_bind (kX pu (wpAny_bind (wpAny_pure ?_)))));show wpAny _ _ (match Builtin.Slice.sliceAdjust lo hi 1 (n:Int) with | (lo,hi)=>pure (lo,(1:Int),Builtin.Slice.slicePlaces lo hi 1)) _ _ s
 rw[qj lo hi n];show wpAny _ _ (pure (((bK n 0 lo:Nat):Int),(1:Int),Builtin.Slice.slicePlaces ((bK n 0 lo:Nat):Int) ((bK n n hi:Nat):Int) 1)) _ _ s;rw[pN];exact wpAny_pure h
theorem xK(xs:Array Value)(i k:Nat):((List.range k).filterMap fun (m:Nat)=>xs[((i:Int)+(m:Int)*1).toNat]?).toArray=((xs.toList.drop i).take k).toArray:=by
 have e:(fun (m:Nat)=>xs[((i:Int)+(m:Int)*1).toNat]?)=fun m=>xs[i+m]?:=by
  funext m
  have:((i:Int)+(m:Int)*1).toNat=i+m:=by lia
  rw[this]
 rw[e];have:=pick_run xs i k;rw[List.filterMap_map] at this;have e2:((fun x=>xs[x]?) ∘ fun x=>i+x)=fun m=>xs[i+m]?:=rfl;rw[e2] at this;rw[this]
theorem iC{t sl:Addr}{items:Array Value}{vl vu:Value}{lo hi:Option Int}{Q:Value->Shared->Prop}(ht:IsTup s.heap t items)(hs:s.heap.IsSliceOf sl vl vu .none)(pl:IsPart vl lo)(pu:IsPart vu hi)
  (hw:¬ (bK items.size 0 lo=0/\bK items.size items.size hi=items.size))
  (h:Q (.ref s.heap.objs.size) {s with heap:=s.heap.push {cls:=.type "tuple",data:=.seq ((items.toList.drop (bK items.size 0 lo)).take (bK items.size items.size hi-bK items.size 0 lo)).toArray}})
  (hsz:items.size<=sizeLine):wpAny (model prog w) A (getItem (.ref t) (.ref sl)) Q E s:=by
 have htake:sizeOk (.seq ((items.toList.drop (bK items.size 0 lo)).take (bK items.size items.size hi-bK items.size 0 lo)).toArray):=by
  show ((items.toList.drop (bK items.size 0 lo)).take (bK items.size items.size hi-bK items.size 0 lo)).toArray.size<=sizeLine;rw[List.size_toArray,List.length_take,List.length_drop,Array.length_toList];exact Nat.le_trans (Nat.min_le_right _ _) (Nat.le_trans (Nat.sub_le _ _) hsz)
 have hj:bK items.size items.size hi<=items.size:=rk _ _ (Nat.le_refl _) hi;obtain⟨os,hos,hcs,hds⟩:=id hs;have hTs:s.TypeIs (.ref sl) "slice":=⟨os,hos,hcs⟩;unfold getItem
 try with_reducible refine wpAny_holding ?_
 first|refine wpAny_bind (wpAny_pure ?_)|skip
 refine wpAny_bind (wpAny_sequenceKey ht.typeIs (by decide) ?_)
 refine wpAny_bind (wpAny_callSpecial?_slot (name:=Str.ofString "__getitem__") ht.typeIs PyProof.Rows.slot_tuple_getitem
  (wpAny_call_entry PyProof.Rows.slot_tuple_getitem ht.typeIs entry_tuple_getitem ?_ (args_tuple_getitem _ _)))
 show wpAny _ _ (Builtin.Tuple.tupleItemsOf (.ref t) >>= _) _ _ s;refine wpAny_bind (tupleItemsOf_ ht ?_);refine wpAny_bind (wpAny_typeOf hTs ?_);rw[if_pos (by decide)]
 refine wpAny_bind (eZ hs pl pu ?_);have hno:¬ ((((bK items.size 0 lo:Nat):Int) == 0 && (1:Int) == 1 && (bK items.size items.size hi-bK items.size 0 lo) == items.size)=true):=by
  intro q;rw[Bool.and_eq_true,Bool.and_eq_true] at q;have q1:((bK items.size 0 lo:Nat):Int)=0:=eq_of_beq q.1.1;have q2:bK items.size items.size hi-bK items.size 0 lo=items.size:=eq_of_beq q.2;exact hw ⟨by lia,by lia⟩
 show wpAny _ _ (if (((bK items.size 0 lo:Nat):Int) == 0 && (1:Int) == 1 && (bK items.size items.size hi-bK items.size 0 lo) == items.size)=true then _ else _) _ _ s
 rw[if_neg hno,xK]
 first
  |exact wpAny_bind (m:=Builtin.Tuple.tupleExact _) (wpAny_newObj_type (wpAny_pure ⟨_,rfl,wpAny_pure h⟩) htake)
  |exact wpAny_bind (m:=Builtin.Tuple.tupleExact _) (wpAny_newObj_type (wpAny_bind (wpAny_pure (wpAny_pure ⟨_,rfl,wpAny_pure h⟩))) htake)
  |exact wpAny_bind (wpAny_bind (m:=Builtin.Tuple.tupleExact _) (wpAny_newObj_type (wpAny_pure (wpAny_pure ⟨_,rfl,wpAny_pure h⟩)) htake))
  |exact wpAny_bind (wpAny_bind (m:=Builtin.Tuple.tupleExact _) (wpAny_newObj_type (wpAny_pure ⟨_,rfl,wpAny_pure h⟩) htake))
end
end HT
namespace L2
open PySem PySem.Spec PyProof.Rows
variable{r:V->Option Int->Option Int->Hp->VK->Prop}{xs:List (List Key×Addr×Value)}{its its' us:List Value}{α:Type}{n:Nat}{pins:List (Addr×Obj)}{σ:St}{H H':Hp}{s:Shared}{y:V}{u:Value}{o:Option V}{P:Program}{w:World}{kvs:List (List Key×V)}{Q:Value->Shared->Prop}
abbrev TO:=St->Hp->(Option Int->Hp->Prop)->Prop
noncomputable def PO(X:Cx)(e:Option Expr)(t:TO):Prop:=
 ∀(pins:List (Addr×Obj)) (s:Shared) (σ:St) (H:Hp) (Q:Option Int->Hp->Prop),Inv X pins σ H s->t σ H Q ->
  wpAny (model X.prog X.w) X.A (evalPart e X.env) (fun u s'=>∃ o H',Inv X pins σ H' s'/\IsPart u o/\Q o H') X.xe s
noncomputable def iy:TO:=fun _ H Q=>Q none H
noncomputable def pF(t:TE):TO:=fun σ H Q=>t σ H fun x H1=>∃ i,x=.int i/\Q (some i) H1
theorem intsAre_of{ns:List Int}:∀{us:List Value},Vals (ns.map V.int) us->IntsAre us ns:=by
 induction ns with
 |nil=>intro us r;rw[LW] at r;cases r;exact .nil
 |cons n ns ih =>
  intro us r;rw[Kt] at r
  cases r with
  |cons r1 r2 =>
   obtain⟨t,e⟩:=r1;subst e;exact .cons n t (ih r2)
section
variable {X:Cx} {e:Expr} {te:TE} {lo hi:Option Expr} {tl th:TO} {pos p2:Pos}
theorem zS:PO X none iy:=by
 intro pins s σ H Q I h;rw[evalPart_none];exact Km ⟨none,H,I,.none,h⟩
theorem As(h:PE X e te):PO X (some e) (pF te):=by
 intro pins s σ H Q I hw;rw[evalPart_some];refine bM (h pins s σ H _ I hw) fun u s1 hq50=>?_;obtain⟨x,H1,I1,r1,q1⟩:=hq50;obtain⟨i,rfl,q⟩:=q1;obtain⟨t,rfl⟩:=r1;exact⟨some i,H1,I1,.int i t,q⟩
noncomputable def su(X:Cx)(r:V->Option Int->Option Int->Hp->VK->Prop):Prop:=
 ∀(pins:List (Addr×Obj)) (s:Shared) (σ:St) (H:Hp) (x:V) (v vl vu:Value) (lo hi:Option Int) (sl:Addr) (Q:VK),Inv X pins σ H s->RelV x v->s.heap.IsSliceOf sl vl vu .none->IsPart vl lo->IsPart vu hi->r x lo hi H Q ->
  ∃ T id,typeLookup (.type T) "__getitem__"=pure (some (.builtin id))/\s.TypeIs v T/\wpAny (model X.prog X.w) X.A (getItem v (.ref sl)) (EP X pins σ Q) X.xe s
theorem su.or{r':V->Option Int->Option Int->Hp->VK->Prop}(h:su X r)(h':su X r'):su X (fun x lo hi H Q=>r x lo hi H Q\/r' x lo hi H Q):=by
 intro pins s σ H x v vl vu lo hi sl Q I rx hs pl pu q;rcases q with q|q
 ·exact h pins s σ H x v vl vu lo hi sl Q I rx hs pl pu q
 ·exact h' pins s σ H x v vl vu lo hi sl Q I rx hs pl pu q
noncomputable def Fw(r:V->Option Int->Option Int->Hp->VK->Prop)(te:TE)(tl th:TO):TE:=fun σ H Q=>te σ H fun x H1=>tl σ H1 fun l H2=>th σ H2 fun u H3=>r x l u H3 Q
theorem wa(hr:su X r)(he:PE X e te)(hl:PO X lo tl)(hu:PO X hi th):PE X (.Subscript e (.Slice lo hi none p2) pos) (Fw r te tl th):=by
 intro pins s σ H Q I h;refine Subscript_ (bM (he pins s σ H _ I h) fun v s1 hq51=>?_);obtain⟨x,H1,I1,r1,q1⟩:=hq51;refine wpAny_Slice (bM (hl pins s1 σ H1 _ I1 q1) fun vl s2 ⟨l,H2,I2,pl,q2⟩=>bM (hu pins s2 σ H2 _ I2 q2) fun vu s3 hq52=>?_);obtain⟨u,H3,I3,pu,q3⟩:=hq52;rw[evalPart_none];refine Km ?_;have I4:Inv X pins σ H3 {s3 with heap:=s3.heap.push {cls:=.type "slice",data:=.fields #[vl,vu,.none]}}:=I3.kept (t':=s3.toks) fun b ob q=>Ke _ q
 obtain⟨T,id,hT,ht,hg⟩:=hr pins {s3 with heap:=s3.heap.push {cls:=.type "slice",data:=.fields #[vl,vu,.none]}} σ H3 x v vl vu l u s3.heap.objs.size Q I4 r1 (Heap.IsSliceOf.new ..) pl pu q3
 show wpAny (model X.prog X.w) X.A (subscriptTail e (.Slice lo hi none p2) v (.ref s3.heap.objs.size)) (EP X pins σ Q) X.xe {s3 with heap:=s3.heap.push {cls:=.type "slice",data:=.fields #[vl,vu,.none]}}
 exact tail_any (ops:=[.ref s3.heap.objs.size,v]) ht hT hg (by with_unfolding_all rfl)
noncomputable def jG(xs:List V)(lo hi:Option Int):List V:=(xs.drop (HT.bK xs.length 0 lo)).take (HT.bK xs.length xs.length hi-HT.bK xs.length 0 lo)
theorem j6(xs:List V)(lo hi:Option Int):(jG xs lo hi).length<=xs.length:=by
 unfold jG;rw[KD,Li];exact Kj (Nat.min_le_right _ _) (Nat.sub_le _ _)
noncomputable def uO(K:Nv):V->Option Int->Option Int->Hp->VK->Prop:=fun x lo hi H Q=>∃ a xs,x=.ref a/\bO K H a xs /\
 ¬ (HT.bK xs.length 0 lo=0/\HT.bK xs.length xs.length hi=xs.length)/\∀ p,H p=none->Q (.ref p) (upd H p (.tup (jG xs lo hi)))
theorem pU:su X (uO X.K):=by
 intro pins s σ H x v vl vu lo hi sl Q I rx hs pl pu h;obtain⟨a,xs,rfl,hx,hw,q⟩:=h;cases rx;obtain⟨its,r,ht,hz⟩:=I.tuple hx;have hlen:its.toArray.size=xs.length:=by rw[Kg];exact r.length.symm
 refine⟨"tuple",_,Lm.lookup,ht.typeIs,?_⟩;refine HT.iC ht hs pl pu (by rw[hlen];exact hw) ?_ (by rw[hlen];exact hz)
 rw[hlen];refine⟨.ref s.heap.objs.size,_,I.laid (t':=s.toks) (o:=.tup (jG xs lo hi)) (fun b ob q=>Ke _ q) (Kk _) ?_,rfl,q _ (I.aU.fresh (Kk _))⟩;exact⟨Kj (j6 xs lo hi) hz,_,(r.drop (HT.bK xs.length 0 lo)).take (HT.bK xs.length xs.length hi-HT.bK xs.length 0 lo),d5.new _ _⟩
noncomputable def ER(K:Nv):R2:=fun x y H Q=>∃ a b xs ys,x=.ref a/\y=.ref b/\bO K H a xs/\bO K H b ys/\xs≠[]/\xs.length+ys.length<=sizeLine /\
 (ys=[]->Q (.ref a) H)/\(ys≠[]->∀ p,H p=none->Q (.ref p) (upd H p (.tup (xs++ys))))
theorem Vals.ni{xs:List V}(r:Vals xs us):us=[] ↔ xs=[]:=by
 cases r with
 |nil=>simp
 |cons _ _=>simp
theorem sf:cU X (binaryOp .Add) (ER X.K):=by
 intro pins s σ H x y v u Q I rx ry h;obtain⟨a,b,xs,ys,rfl,rfl,ha,hb,hx,hz,q1,q2⟩:=h;cases rx;cases ry;obtain⟨its,r1,p1,_⟩:=I.tuple ha;obtain⟨its2,r2,p2,_⟩:=I.tuple hb;refine HT.zQ p1 p2 (fun z=>hx (r1.ni.mp z)) (fun z=>⟨.ref a,H,I,rfl,q1 (r2.ni.mp z)⟩) (fun z=>?_) (by rw[<- r1.length,<- r2.length];exact hz)
 refine⟨.ref s.heap.objs.size,_,I.laid (t':=s.toks) (o:=.tup (xs++ys)) (fun b ob q=>Ke _ q) (Kk _) ?_,rfl,q2 (fun w=>z (r2.ni.mpr w)) _ (I.aU.fresh (Kk _))⟩;exact⟨by rw[Kv];exact hz,_,r1.append r2,d5.new _ _⟩
end
noncomputable def mx(n:Nat)(i:Int):Option Nat:=if 0<=i then (if i<n then some i.toNat else none) else if -(n:Int)<=i then some (i+n).toNat else none
noncomputable def c_(xs:List α)(i:Int):Option α:=(mx xs.length i).bind fun j=>xs[j]?
theorem sG{i:Int}{j:Nat}(h:mx n i=some j):seqIndex? i n=some j/\j<n/\-(n:Int)<=i/\i<n:=by
 unfold mx at h;by_cases h0:0<=i
 ·rw[Kh h0] at h;by_cases h1:i<n
  ·rw[Kh h1] at h;have e:i.toNat=j:=Option.some.inj h;exact⟨by rw[seqIndex_of h0 h1,e],by lia,by lia,h1⟩
  ·rw[Kf h1] at h;cases h
 ·rw[Kf h0] at h;by_cases h1:-(n:Int)<=i
  ·rw[Kh h1] at h;have e:(i+n).toNat=j:=Option.some.inj h;exact⟨by rw[Nu (by lia) h1,e],by lia,h1,by lia⟩
  ·rw[Kf h1] at h;cases h
theorem nL{xs:List α}{i:Int}{v:α}(h:c_ xs i=some v):∃ j,seqIndex? i xs.length=some j/\xs[j]?=some v/\j<xs.length/\-(xs.length:Int)<=i/\i<xs.length:=by
 unfold c_ at h
 cases e:mx xs.length i with
 |none=>rw[e] at h;cases h
 |some j =>
  rw[e] at h;obtain⟨h1,h2,h3,h4⟩:=sG e;exact⟨j,h1,h,h2,h3,h4⟩
theorem dA{xs:List α}{j:Nat}{v:α}(h:xs[j]?=some v):c_ xs (j:Int)=some v:=by
 have hj:j<xs.length:=(Ku.mp h).1;have e:mx xs.length (j:Int)=some j:=by
  unfold mx;rw[Kh (by lia),Kh (by lia)];simp
 unfold c_;rw[e];exact h
noncomputable def sC(b:Expr):Prop:=∀ o i,subscripted b false o i=operate [o,i] (getItem o i)
noncomputable def rm(X:Cx)(r:R2):Prop:=
 ∀(value slice:Expr) (pins:List (Addr×Obj)) (s:Shared) (σ:St) (H:Hp) (x y:V) (v u:Value) (Q:VK),Inv X pins σ H s->RelV x v->RelV y u->r x y H Q ->
  subscripted slice false v u=operate [v,u] (getItem v u)->wpAny (model X.prog X.w) X.A (subscriptTail value slice v u) (EP X pins σ Q) X.xe s
noncomputable def xm(X:Cx)(id:String)(r:V->List V->Hp->VK->Prop):Prop:=
 ∀(pins:List (Addr×Obj)) (s:Shared) (σ:St) (H:Hp) (x:V) (xs:List V) (v:Value) (us:List Value) (Q:VK),Inv X pins σ H s->RelV x v->Vals xs us->r x xs H Q ->
  wpAny (model X.prog X.w) X.A (call (.builtin id) (v::us)) (EP X pins σ Q) X.xe s
section
variable {X:Cx} {a b:Expr} {ta tb:TE} {pos:Pos}
theorem rm.or{r r':R2}(h:rm X r)(h':rm X r'):rm X (fun x y H Q=>r x y H Q\/r' x y H Q):=by
 intro value slice pins s σ H x y v u Q I rx ry q hs;rcases q with q|q
 ·exact h value slice pins s σ H x y v u Q I rx ry q hs
 ·exact h' value slice pins s σ H x y v u Q I rx ry q hs
theorem ES{r:R2}(hr:rm X r)(ha:PE X a ta)(hb:PE X b tb)(hs:sC b):PE X (.Subscript a b pos) (vt r ta tb):=by
 intro pins s σ H Q I h;exact Subscript_ (Ct ha hb I h fun v u s2 x y H2 I2 rx ry q=>hr a b pins s2 σ H2 x y v u Q I2 rx ry q (hs _ _))
noncomputable def Hm(K:Nv):R2:=fun x y H Q=>∃ p xs i v,x=.ref p/\y=.int i/\bA K H p xs/\c_ xs i=some v/\Q v H
noncomputable def FA(K:Nv):R2:=fun x y H Q=>∃ p xs i v,x=.ref p/\y=.int i/\bO K H p xs/\c_ xs i=some v/\Q v H
noncomputable def GY:R2:=fun x y H Q=>∃ z i c,x=.str z/\y=.int i/\z.length<=sizeLine/\c_ z.cps.toList i=some c/\Q (.str ⟨#[c]⟩) H
theorem rR:rm X (Hm X.K):=by
 intro value slice pins s σ H x y v u Q I rx ry h hs;obtain⟨p,xs,i,z,rfl,rfl,hq,he,q⟩:=h;cases rx;obtain⟨t,rfl⟩:=ry;obtain⟨its,r,pl,hz⟩:=I.list hq;obtain⟨j,h1,h2,h3,h4,h5⟩:=nL he;obtain⟨w,ew,rw'⟩:=r.get h2;have hl:=r.length;have hn:=fN;have fin:EP X pins σ Q w s:=⟨z,H,I,rw',q⟩;by_cases h0:0<=i
 ·have hj:i.toNat=j:=by
   rw[seqIndex_of h0 h5] at h1;exact Option.some.inj h1
  exact item_listR pl.isList h0 (by lia) (by rw[hj];simpa using ew) fin hs
 ·have hj:(i+(its.toArray.size:Int)).toNat=j:=by
   rw[Nu (by lia) h4] at h1
   rw[Kg,<- hl];exact Option.some.inj h1
  exact subscriptTail_builtinR (x:=w) pl.isList.typeIs slot_list_getitem.lookup
   (wpAny_getItem_list_neg (Q:=fun r s'=>r=w/\EP X pins σ Q r s') pl.isList (by lia) (by rw[Kg]<;>lia) (by lia) (by rw[hj];simpa using ew) ⟨rfl,fin⟩) hs
theorem Dm:rm X (FA X.K):=by
 intro value slice pins s σ H x y v u Q I rx ry h hs;obtain⟨p,xs,i,z,rfl,rfl,hq,he,q⟩:=h;cases rx;obtain⟨t,rfl⟩:=ry;obtain⟨its,r,pl,hz⟩:=I.tuple hq;obtain⟨j,h1,h2,h3,h4,h5⟩:=nL he;obtain⟨w,ew,rw'⟩:=r.get h2;have hl:=r.length;have hn:=fN;have fin:EP X pins σ Q w s:=⟨z,H,I,rw',q⟩;exact subscriptTail_builtinR (x:=w) pl.typeIs slot_tuple_getitem.lookup
  (getItem_tuple (j:=j) (Q:=fun r s'=>r=w/\EP X pins σ Q r s') pl (by lia) (by lia) (by rw[Kg,<- hl];exact h1) (by simpa using ew) ⟨rfl,fin⟩) hs
theorem C1:rm X GY:=by
 intro value slice pins s σ H x y v u Q I rx ry h hs;obtain⟨z,i,c,rfl,rfl,hz,he,q⟩:=h;obtain⟨t,rfl⟩:=rx;obtain⟨t',rfl⟩:=ry;obtain⟨j,h1,h2,h3,h4,h5⟩:=nL he;have hl:z.cps.toList.length=z.length:=by simp[Str.length]
 rw[hl] at h1 h4 h5;have hn:=fN;exact tail_any (Mq s z t) slot_str_getitem.lookup (getItem_str (c:=c) (by
  have e1:decide (i < -(2^63:Int))=false:=Kw (by lia)
  have e2:decide (i >= 2^63)=false:=Kw (by lia)
  rw[e1,e2,Bool.or_false]) (by rw[h1];simpa using h2) ⟨.str ⟨#[c]⟩,H,I.tok _,⟨_,rfl⟩,q⟩) hs
noncomputable def Ij(K:Nv):R2:=fun x y H Q=>Hm K x y H Q\/FA K x y H Q\/GY x y H Q
theorem w_:rm X (Ij X.K):=rR.or (Dm.or C1)
theorem qz(its:List Value)(n j:Nat)(u:Value):Obj.mapSeq (·.setIfInBounds j u) {cls:=.type "list",data:=.seq its.toArray n}={cls:=.type "list",data:=.seq (its.set j u).toArray n}:=by
 simp[Obj.mapSeq]
theorem Inv.lst{p:Addr}{xs:List V}(I:Inv X pins σ H s)(h:H p=some (.lst xs)):
  ∃(its:List Value) (n:Nat),Vals xs its/\s.heap.get? p=some {cls:=.type "list",data:=.seq its.toArray n}/\xs.length<=sizeLine:=by
 obtain⟨z,its,n,r,e⟩:=I.aU p _ h;exact⟨its,n,r,e,z⟩
theorem Inv.CM{p:Addr}{xs ys:List V}{n':Nat}{f:Obj->Obj}(I:Inv X pins σ H s)(h:H p=some (.lst xs))
  (ho:s.heap.get? p=some {cls:=.type "list",data:=.seq its.toArray n}) (hf:f {cls:=.type "list",data:=.seq its.toArray n}={cls:=.type "list",data:=.seq its'.toArray n'}) (r:Vals ys its') (hz:ys.length<=sizeLine) (t:Nat) :
  Inv X pins σ (upd H p (.lst ys)) {s with heap:=s.heap.update p f,toks:=t}:=by
 have e:(s.heap.update p f).get? p=some {cls:=.type "list",data:=.seq its'.toArray n'}:=by
  rw[Heap.get?_update_self f ho (by rw[hf]<;>rfl),hf]
 refine I.write (x:=p) (e:=p) (by rw[h];trivial) (.inl rfl) (fun b u hb q=>(Nb _ _ (Ne.symm hb)).trans q) ⟨_,e⟩ ?_
 exact⟨hz,its',n',r,e⟩
noncomputable def Hn:V->V->V->Hp->(Hp->Prop)->Prop:=fun o i v H Q=>∃ p xs k j,o=.ref p/\i=.int k/\H p=some (.lst xs)/\mx xs.length k=some j/\Q (upd H p (.lst (xs.set j v)))
theorem set_list:Av X Hn:=by
 intro pins s σ H o i v ov iv u Q I ro ri rv h;obtain⟨p,xs,k,j,rfl,rfl,hp,hj,q⟩:=h;cases ro;obtain⟨t,rfl⟩:=ri;obtain⟨its,n,r,ho,hz⟩:=I.lst hp;obtain⟨h1,h2,h3,h4⟩:=sG hj;have hl:=r.length;have hn:=fN;have I':Inv X pins σ (upd H p (.lst (xs.set j v))) {s with heap:=s.heap.update p (Obj.mapSeq (·.setIfInBounds j u))}:=
  I.CM hp ho (qz its n j u) (r.set rv j) (by rw[KO];exact hz) s.toks
 by_cases h0:0<=k
 ·have hk:k.toNat=j:=by
   rw[seqIndex_of h0 h4] at h1;exact Option.some.inj h1
  exact PySem.W.ki_setAt ho h0 (by lia) (by rw[Kg,<- hl];exact h4) (by rw[hk];exact⟨_,I',q⟩)
 ·have hk:(k+(its.toArray.size:Int)).toNat=j:=by
   rw[Nu (by lia) h3] at h1
   rw[Kg,<- hl];exact Option.some.inj h1
  exact PySem.W.ki_setBack ho (by lia) (by rw[Kg,<- hl];exact h3) (by lia) (by rw[hk];exact⟨_,I',q⟩)
theorem nK(lo hi:Option Int)(n:Nat):(sliceBounds lo hi none n).1=((HT.bK n 0 lo:Nat):Int)/\(sliceBounds lo hi none n).2.1=((HT.bK n n hi:Nat):Int)/\(sliceBounds lo hi none n).2.2=1:=by
 refine⟨?_,?_,rfl⟩
 ·cases lo with
  |none=>simp[sliceBounds,HT.bK]
  |some i =>
   simp only[sliceBounds,HT.bK,Option.getD_none,show (1:Int) > 0 by decide,Md]
   by_cases h:i<0
   ·simp only[h,Md]<;>lia
   ·simp only[h,MO]<;>lia
 ·cases hi with
  |none=>simp[sliceBounds,HT.bK]
  |some i =>
   simp only[sliceBounds,HT.bK,Option.getD_none,show (1:Int) > 0 by decide,Md]
   by_cases h:i<0
   ·simp only[h,Md]<;>lia
   ·simp only[h,MO]<;>lia
theorem lz(its:List Value)(lo hi:Option Int):slicePick its.toArray lo hi none=((its.drop (HT.bK its.length 0 lo)).take (HT.bK its.length its.length hi-HT.bK its.length 0 lo)).toArray:=by
 obtain⟨h1,h2,h3⟩:=nK lo hi its.toArray.size;unfold slicePick;rw[h1,h2,h3];simp only[sliceRange_one,pick_run,Kg]<;>rfl
noncomputable def Gf(K:Nv):V->Option Int->Option Int->Hp->VK->Prop:=fun x lo hi H Q=>∃ a xs,x=.ref a/\bA K H a xs/\∀ p,H p=none->Q (.ref p) (upd H p (.lst (jG xs lo hi)))
theorem rF:su X (Gf X.K):=by
 intro pins s σ H x v vl vu lo hi sl Q I rx hs pl pu h;obtain⟨a,xs,rfl,hx,q⟩:=h;cases rx;obtain⟨its,r,ht,hz⟩:=I.list hx;have hlen:=r.length;refine⟨"list",_,slot_list_getitem.lookup,ht.isList.typeIs,?_⟩;refine wpAny_getItem_list_slice ht.isList hs pl pu .none (by simp) ?_ (by rw[Kg]<;>lia)
 rw[lz,<- hlen];refine⟨.ref s.heap.objs.size,_,I.laid (t':=s.toks) (o:=.lst (jG xs lo hi)) (fun b ob q=>Ke _ q) (Kk _) ?_,rfl,q _ (I.aU.fresh (Kk _))⟩;exact⟨Kj (j6 xs lo hi) hz,_,0,(r.drop (HT.bK xs.length 0 lo)).take (HT.bK xs.length xs.length hi-HT.bK xs.length 0 lo),Kq _ rfl⟩
noncomputable def d9:V->Bool
 |.aE=>true
 |.bl _=>true
 |.int _=>true
 |.str _=>true
 |_=>false
noncomputable def rO:V->V->Bool
 |.aE,.aE=>true
 |.bl a,.bl b=>a == b
 |.bl a,.int b=>(if a then 1 else 0) == b
 |.int a,.bl b=>a ==(if b then 1 else 0)
 |.int a,.int b=>a == b
 |.str a,.str b=>a == b
 |_,_=>false
theorem mY{A:Around}{x:V}{v:Value}(ry:RelV y u)(rx:RelV x v)(fy:d9 y=true)(fx:d9 x=true):SeqAt.EqAt A s u v (rO y x):=by
 cases y with
 |aE =>
  cases ry
  cases x with
  |aE=>cases rx;exact SeqAt.EqAt.same _
  |bl b=>cases rx;exact SeqAt.EqAt.none_bool b
  |int b=>obtain⟨t,rfl⟩:=rx;exact SeqAt.EqAt.none_int b t
  |str b=>obtain⟨t,rfl⟩:=rx;exact SeqAt.EqAt.none_str b t
  |_=>exact absurd (show false=true from fx) Ki
 |bl a =>
  cases ry
  cases x with
  |aE=>cases rx;exact SeqAt.EqAt.bool_none a
  |bl b=>cases rx;exact SeqAt.EqAt.bool_bool a b
  |int b=>obtain⟨t,rfl⟩:=rx;exact SeqAt.EqAt.bool_int a b t
  |str b=>obtain⟨t,rfl⟩:=rx;exact SeqAt.EqAt.bool_str a b t
  |_=>exact absurd (show false=true from fx) Ki
 |int a =>
  obtain⟨t',rfl⟩:=ry
  cases x with
  |aE=>cases rx;exact SeqAt.EqAt.int_none a t'
  |bl b=>cases rx;exact SeqAt.EqAt.int_bool a t' b
  |int b=>obtain⟨t,rfl⟩:=rx;exact SeqAt.EqAt.int_int a t' b t
  |str b=>obtain⟨t,rfl⟩:=rx;exact SeqAt.EqAt.int_str a t' b t
  |_=>exact absurd (show false=true from fx) Ki
 |str a =>
  obtain⟨t',rfl⟩:=ry
  cases x with
  |aE=>cases rx;exact SeqAt.EqAt.str_none a t'
  |bl b=>cases rx;exact SeqAt.EqAt.str_bool a t' b
  |int b=>obtain⟨t,rfl⟩:=rx;exact SeqAt.EqAt.str_int a t' b t
  |str b=>obtain⟨t,rfl⟩:=rx;exact SeqAt.EqAt.str_str a t' b t
  |_=>exact absurd (show false=true from fx) Ki
 |_=>exact absurd (show false=true from fy) Ki
noncomputable def zF(x:V)(u:Value):Bool:=match u with
 |.none=>rO .aE x
 |.bool b=>rO (.bl b) x
 |.int i _=>rO (.int i) x
 |.str z _=>rO (.str z) x
 |_=>false
theorem yf{x:V}(r:RelV y u)(f:d9 y=true):zF x u=rO y x:=by
 cases y with
 |aE=>cases r;rfl
 |bl b=>cases r;rfl
 |int i=>obtain⟨t,rfl⟩:=r;rfl
 |str z=>obtain⟨t,rfl⟩:=r;rfl
 |_=>exact absurd (show false=true from f) Ki
theorem nA{x:V}:∀{xs:List V} {us:List Value},Vals xs us->xs.all d9=true->us.any (zF x)=xs.any fun y=>rO y x
 |_,_,.nil,_=>rfl
 |y::xs,u::us,.cons r t,f=>by
  rw[KI,KG] at f;rw[Lu,Lu,yf r f.1,nA t f.2]
theorem lb{A:Around}{x:V}{v:Value}(rx:RelV x v)(fx:d9 x=true):∀{xs:List V} {us:List Value},Vals xs us->xs.all d9=true->∀ u∈us,SeqAt.EqAt A s u v (zF x u)
 |_,_,.nil,_=>fun u hu=>by cases hu
 |y::xs,u::us,.cons r t,f=>fun u' hu=>by
  rw[KI,KG] at f;rcases Kn.mp hu with rfl|hu
  ·rw[yf r f.1];exact mY r rx f.1 fx
  ·exact lb rx fx t f.2 u' hu
noncomputable def HY(x:V)(xs:List V):Bool:=xs.any fun y=>rO y x
noncomputable def J9(K:Nv)(neg:Bool):R2:=fun x y H Q=>∃ p xs,y=.ref p/\(bA K H p xs\/bO K H p xs)/\d9 x=true/\xs.all d9=true/\Q (.bl (if neg then !HY x xs else HY x xs)) H
theorem uj:cU X (compareOp .In) (J9 X.K false):=by
 intro pins s σ H x y v u Q I rx ry h;obtain⟨p,xs,rfl,hq,fx,fs,q⟩:=h;cases ry;rcases hq with hq|hq
 ·obtain⟨its,r,pl,hz⟩:=I.list hq;refine SeqAt.in_listAt (zF x) pl.isList (fun w hw=>lb rx fx r fs w (by simpa using hw)) ⟨.bl _,H,I,rfl,?_⟩
  rw[show its.toArray.any (zF x)=its.any (zF x) by simp,nA r fs]
  exact q
 ·obtain⟨its,r,pl,hz⟩:=I.tuple hq;refine SeqAt.in_tupleAt (zF x) pl (fun w hw=>lb rx fx r fs w (by simpa using hw)) ⟨.bl _,H,I,rfl,?_⟩
  rw[show its.toArray.any (zF x)=its.any (zF x) by simp,nA r fs]
  exact q
theorem ic:bp X (.builtin "len") (fun xs H Q=>∃ p ys,xs=[.ref p]/\(bA X.K H p ys\/bO X.K H p ys)/\Q (.int ys.length) H):=by
 intro pins s σ H xs us Q I r h;obtain⟨p,ys,rfl,hq,q⟩:=h;obtain⟨u,rfl,rx⟩:=vals1 r;cases rx;have hn:=fN;rcases hq with hq|hq
 ·obtain⟨its,r',pl,hz⟩:=I.list hq;have hlen:=r'.length;exact Calls.call_len_list pl.isList (by simp only[Kg]<;>lia) ⟨.int ys.length,H,I.tok _,⟨s.toks+1,by rw[Kg,hlen]⟩,q⟩
 ·obtain⟨its,r',pl,hz⟩:=I.tuple hq;have hlen:=r'.length;exact len_tuple pl (by simp only[Kg]<;>lia) ⟨.int ys.length,H,I.tok _,⟨s.toks+1,by rw[Kg,hlen]⟩,q⟩
theorem mT:bp X (.builtin "len") (fun xs H Q=>∃ z,xs=[.str z]/\z.length<=sizeLine/\Q (.int z.length) H):=by
 intro pins s σ H xs us Q I r h;obtain⟨z,rfl,hz,q⟩:=h;obtain⟨u,rfl,t,rfl⟩:=vals1 r;have hn:=fN;exact len_str (by lia) ⟨.int z.length,H,I.tok _,⟨_,rfl⟩,q⟩
theorem bp.or{f:Value}{r r':List V->Hp->VK->Prop}(h:bp X f r)(h':bp X f r'):bp X f (fun xs H Q=>r xs H Q\/r' xs H Q):=by
 intro pins s σ H xs us Q I rs q;rcases q with q|q
 ·exact h pins s σ H xs us Q I rs q
 ·exact h' pins s σ H xs us Q I rs q
theorem cZ:bp X (.type "tuple") (fun xs H Q=>∃ p ys,xs=[.ref p]/\((bA X.K H p ys/\∀ l,H l=none->Q (.ref l) (upd H l (.tup ys)))\/(bO X.K H p ys/\Q (.ref p) H))):=by
 intro pins s σ H xs us Q I r h;obtain⟨p,ys,rfl,h⟩:=h;obtain⟨u,rfl,rx⟩:=vals1 r;cases rx;rcases h with ⟨hq,q⟩|⟨hq,q⟩
 ·obtain⟨its,r',pl,hz⟩:=I.list hq;have hlen:=r'.length;refine call_tuple_list pl.isList (fun h' kp=>?_) (by simp only[Kg]<;>lia)
  have I1:Inv X pins σ H {s with heap:=h'}:=I.kept (t':=s.toks) kp
  have I2:Inv X pins σ (upd H h'.objs.size (.tup ys)) {s with heap:=h'.push {cls:=.type "tuple",data:=.seq its.toArray}}:=
   I1.laid (t':=s.toks) (fun b o e=>Ke _ e) (Kk _) (show bC X.prog X.w _ _ _ (.tup ys) from⟨hz,its,r',d5.new _ _⟩)
  exact⟨.ref h'.objs.size,_,I2,rfl,q _ (I1.aU.fresh (Kk _))⟩
 ·obtain⟨its,r',pl,hz⟩:=I.tuple hq;exact call_tuple_same pl ⟨.ref p,H,I,rfl,q⟩
noncomputable def Jn(K:Nv)(T:String)(x:V)(H:Hp):Prop:=match x with
 |.str _=>T="str"
 |.int _=>T="int"
 |.ref p=>(T="list"/\∃ xs,bA K H p xs)\/(T="tuple"/\∃ o,K.lookup p=some o/\o.cls=.type "tuple"/\o.dict=none) \/
   (T="dict"/\((∃ kvs,H p=some (.dK kvs))\/∃ kvs,H p=some (.dT kvs)))\/(T="set"/\∃ S n,H p=some (.set S n))
 |_=>False
theorem CL{T:String}{x:V}{v:Value}(I:Inv X pins σ H s)(r:RelV x v)(ty:Jn X.K T x H):
  s.TypeIs v T/\∀ a,v=.ref a->∃ ob,s.heap.get? a=some ob/\ob.dict=none:=by
 cases x with
 |str z =>
  obtain⟨t,rfl⟩:=r
  cases (show T="str" from ty)
  exact⟨Mq s z t,fun _ e=>nomatch e⟩
 |int i =>
  obtain⟨t,rfl⟩:=r
  cases (show T="int" from ty)
  exact⟨LO s i t,fun _ e=>nomatch e⟩
 |ref p =>
  cases r;rcases ty with ⟨rfl,xs,hq⟩|⟨rfl,o,hk,hc,hd⟩|⟨rfl,hk⟩|⟨rfl,S,n,hk⟩
  ·obtain⟨its,_,pl,_⟩:=I.list hq;refine⟨pl.isList.typeIs,fun a e=>?_⟩;cases e;obtain⟨o,n,e,c,hd,_⟩:=pl;exact⟨o,e,hd⟩
  ·refine⟨⟨o,I.gW p o hk,hc⟩,fun a e=>?_⟩;cases e;exact⟨o,I.gW _ o hk,hd⟩
  ·have z:∃ o,s.heap.get? p=some o/\o.ExactDict:=by
    rcases hk with ⟨kvs,hk⟩|⟨kvs,hk⟩
    ·obtain⟨_,_,_,_,o,_,_,e,ex,_⟩:=I.aU p _ hk;exact⟨o,e,ex⟩
    ·obtain⟨_,_,_,_,o,_,_,e,ex,_⟩:=I.aU p _ hk;exact⟨o,e,ex⟩
   obtain⟨o,e,ex⟩:=z;refine⟨⟨o,e,ex.1⟩,fun a e2=>?_⟩;cases e2;exact⟨o,e,ex.2.1⟩
  ·obtain⟨o,_,_,_,e,ex,_⟩:=I.aU p _ hk;refine⟨⟨o,e,ex.1⟩,fun a e2=>?_⟩;cases e2;exact⟨o,e,ex.2.1⟩
 |_=>exact False.elim ty
noncomputable def EL(K:Nv)(T:String)(r:V->List V->Hp->VK->Prop)(to:TE)(t:TA):TE:=fun σ H Q=>to σ H fun x H1=>Jn K T x H1/\t σ H1 fun xs H2=>r x xs H2 Q
variable {o e:Expr} {es:List Expr} {to:TE} {t:TA} {name:Str} {apos cpos:Pos} {T id:String} {r:V->List V->Hp->VK->Prop}
theorem Hf(pa:PlainAttrs T)(slot:Slot T name id)(hty:typeOf (.builtin id)=pure (.type "method_descriptor"))(hm:xm X id r)(ho:PE X o to)(ha:PA X (e::es) t)
  (hbase:autoParam (attributeBase o name X.env (eval o X.env)=eval o X.env) ℜ0)
  (hfew:autoParam (((backTo cpos (starEach (e::es) X.env)).all (fun x=>!x.1) && (backToKw cpos (keywordEach [] X.env)).all (fun x=>x.1.isSome)
   && decide ((e::es).length+([]:List Keyword).length+(if ([]:List Keyword).isEmpty then 0 else 1)<30))=true) ℜ0)
  (hline:autoParam ((apos.endLine == cpos.line)=true) ℜ0) (hs:autoParam (starEach (e::es) X.env=(false,eval e X.env)::starEach es X.env) ℜ0) (hplain:autoParam ((backTo cpos (starEach es X.env)).any (·.1)=false) ℜ0) :
  PE X (.Call (.Attribute o name apos) (e::es) [] cpos) (EL X.K T r to t):=by
 intro pins s σ H Q I h;refine wpAny_Call_method_late hbase hfew hline rfl (bM (ho pins s σ H _ I h) fun v s1 hq54=>?_);obtain⟨x,H1,I1,r1,ty,q1⟩:=hq54;obtain⟨h1,h2⟩:=CL I1 r1 ty;refine⟨T,id,pa,slot,hty,h1,h2,?_⟩;have hA:=ha cpos pins s1 σ H1 _ I1 q1;rw[hs] at hA ⊢;refine Nc (by show (false || (backTo cpos (starEach es X.env)).any (·.1))=false;rw[hplain]<;>rfl) (Calls.evalArgs_plain ?_)
 exact bM hA fun us s2 ⟨vs,H2,I2,r2,q2⟩=>hm pins s2 σ H2 x vs v us Q I2 r1 r2 q2
/- xs.append(e),list.index on a module's tuple .. are xm facts of 06m -/
end
noncomputable def JL(X:Cx)(id:String)(r:V->List V->Hp->VK->Prop):Prop:=
 ∀(pins:List (Addr×Obj)) (s:Shared) (σ:St) (H:Hp) (x:V) (xs:List V) (v:Value) (us:List Value) (Q:VK),Inv X pins σ H s->RelV x v->Vals xs us->r x xs H Q ->
  wpAny (model X.prog X.w) X.A (call (.builtin id) (v::us)) (EP X pins σ Q) X.xe s
theorem Vals.one:∀{x:V} {us:List Value},Vals [x] us->∃ u,us=[u]/\RelV x u
 |_,_,.cons r .nil=>⟨_,rfl,r⟩
theorem Vals.rep{xs:List V}(h:Vals xs us):∀ k:Nat,Vals (List.replicate k xs).flatten (List.replicate k us).flatten
 |0=>.nil
 |k+1=>by
  rw[KZ,KZ,Ls,Ls];exact Vals.append h (Vals.rep h k)
theorem foldl_rep(its:List Value):∀(k:Nat) (acc:List Value),
  List.foldl (fun x1 x2=>x1++x2) acc.toArray (List.replicate k its.toArray)=(acc++(List.replicate k its).flatten).toArray
 |0,acc=>by simp
 |k+1,acc=>by
  have e:acc.toArray++its.toArray=(acc++its).toArray:=by simp
  have e2:(acc++its)++(List.replicate k its).flatten=acc++(List.replicate (k+1) its).flatten:=by
   rw[KZ,Ls,LS]
  rw[<- e2,<- foldl_rep its k (acc++its),<- e,KZ,List.foldl_cons]
section
variable {X:Cx} {pins:List (Addr×Obj)} {σ:St} {H:Hp} {s:Shared} {l b:Addr} {xs ys zs:List V}
theorem Inv.IA{f:Array Value->Array Value}{t':Nat}(I:Inv X pins σ H s)(hH:H l=some (.lst xs))
  (e:s.heap.get? l=some {cls:=.type "list",data:=.seq its.toArray n}) (hf:f its.toArray=its'.toArray) (hv:Vals ys its') (hz:ys.length<=sizeLine) :
  Inv X pins σ (upd H l (.lst ys)) {s with heap:=s.heap.update l (Obj.mapSeq f),toks:=t'}:=by
 have q:=PySem.IsL.update e f;rw[hf] at q;refine I.write (x:=l) (e:=l) (by rw[hH];exact trivial) (.inl rfl) (fun b' u hb hu=>(Nb s.heap (Obj.mapSeq f) (Ne.symm hb)).trans hu) ⟨_,q⟩ ?_
 exact⟨hz,its',_,hv,q⟩
theorem Inv.CU{t':Nat}(I:Inv X pins σ H s)(hv:Vals ys its)(hz:ys.length<=sizeLine):
  Inv X pins σ (upd H s.heap.objs.size (.lst ys)) {s with heap:=s.heap.push {cls:=.type "list",data:=.seq its.toArray},toks:=t'}:=
 I.laid (fun _ _ q=>Ke _ q) (Kk _) ⟨hz,its,0,hv,Kq _ rfl⟩
theorem Inv.fresh(I:Inv X pins σ H s):H s.heap.objs.size=none:=I.aU.fresh (Kk _)
theorem Inv.Ab(I:Inv X pins σ H s)(hH:H l=some (.lst xs)):xs.length<=sizeLine/\∃(its:List Value) (n:Nat),Vals xs its/\xs.length=its.length/\s.heap.get? l=some {cls:=.type "list",data:=.seq its.toArray n}:=by
 obtain⟨z,its,n,r,e⟩:=I.aU l _ hH;exact⟨z,its,n,r,r.length,e⟩
theorem yD(h:n<=sizeLine):Builtin.List.listTooLong n=false:=by
 unfold Builtin.List.listTooLong;exact Kw (by lia)
end
section
variable {X:Cx}
noncomputable def r_:V->List V->Hp->VK->Prop:=fun x vs H Q=>∃ l xs y,x=.ref l/\vs=[y]/\H l=some (.lst xs)/\xs.length<sizeLine/\Q .aE (upd H l (.lst (xs++[y])))
theorem fk:JL X "list.append" r_:=by
 intro pins s σ H x vs v us Q I rx rv h;obtain⟨l,xs,y,rfl,rfl,hH,hz,q⟩:=h;cases rx;obtain⟨u,rfl,ru⟩:=rv.one;obtain⟨z,its,n,r,hl,e⟩:=I.Ab hH;refine Lp F.slot_list_append ⟨_,e,rfl⟩ F.entry_list_append (F.args_list_append_2 _ _) (PySem.list_append l its.toArray n u (by rw[Kg];lia)) ⟨e,?_⟩
 refine⟨.aE,_,I.IA (its':=its++[u]) hH e (by simp) (r.append (.cons ru .nil)) ?_,rfl,q⟩
 rw[Kv,L0];lia
noncomputable def FK:R2:=fun x y H Q=>∃ l b xs zs,x=.ref l/\y=.ref b/\H l=some (.lst xs)/\H b=some (.lst zs)/\xs.length+zs.length<=sizeLine/\∀ p,H p=none->Q (.ref p) (upd H p (.lst (xs++zs)))
theorem wW:cU X (binaryOp .Add) FK:=by
 intro pins s σ H x y v u Q I rx ry h;obtain⟨l,b,xs,zs,rfl,rfl,hH,hB,hz,q⟩:=h;cases rx;cases ry;obtain⟨z,its,n,r,hl,e⟩:=I.Ab hH;obtain⟨z2,its2,n2,r2,hl2,e2⟩:=I.Ab hB;refine PySem.P.add_list e e2 ?_ (by rw[Kg,Kg];lia)
 have ea:its.toArray++its2.toArray=(its++its2).toArray:=by simp
 rw[ea];exact⟨.ref _,_,I.CU (t':=s.toks) (r.append r2) (by rw[Kv];lia),rfl,q _ I.fresh⟩
noncomputable def FJ:R2:=fun x y H Q=>∃ l k xs,x=.ref l/\y=.int k/\H l=some (.lst xs)/\-(2^63)<=k/\k<2^63/\xs.length*k.toNat<=sizeLine /\
 ∀ p,H p=none->Q (.ref p) (upd H p (.lst (List.replicate k.toNat xs).flatten))
theorem len_rep(xs:List α)(k:Nat):(List.replicate k xs).flatten.length=k*xs.length:=by
 induction k with
 |zero=>simp
 |succ k ih=>rw[KZ,Ls,Kv,ih,Nat.succ_mul,Nat.add_comm]
theorem DD:cU X (binaryOp .Mult) FJ:=by
 intro pins s σ H x y v u Q I rx ry h;obtain⟨l,k,xs,rfl,rfl,hH,h1,h2,hz,q⟩:=h;cases rx;obtain⟨t,rfl⟩:=ry;obtain⟨z,its,n,r,hl,e⟩:=I.Ab hH;have hlen:its.toArray.size*k.toNat<=sizeLine:=by rw[Kg,<- hl];exact hz
 have hcap:¬ its.toArray.size*k.toNat >(2^63-1) / 8:=by
  have:(sizeLine:Nat)<=(2^63-1) / 8:=by decide
  lia
 have hfit:¬ (!Builtin.List.listFitsIndex k)=true:=by
  rw[fitsIndex_both h1 h2];exact Ki
 have hlong:¬ Builtin.List.listTooLong (its.toArray.size*k.toNat)=true:=by
  rw[yD hlen];exact Ki
 have hnew:List.foldl (fun x1 x2=>x1++x2) #[] (List.replicate (if its.toArray.isEmpty=true then 0 else k.toNat) its.toArray)=(List.replicate k.toNat its).flatten.toArray:=by
  have f0:∀ m:Nat,List.foldl (fun x1 x2=>x1++x2) #[] (List.replicate m its.toArray)=(List.replicate m its).flatten.toArray:=fun m=>by
   have:=foldl_rep its m [];rw[MX] at this;exact this
  rw[f0]
  cases its with
  |nil=>simp
  |cons a r'=>rw[Kf (by simp)]
 refine L7 (T:="list") (U:="int") (by decide) ⟨_,e,rfl⟩ (fun s'=>LO s' k t) noFill_list_mul F.fills_int_mul F.slot_int_rmul repeat_list F.slot_int_index.lookup
  (Lp F.slot_int_rmul (LO s k t) F.entry_int_rmul (F.args_int_rmul_2 _ _) (int___rmul___int_list k t l its.toArray n)
   ⟨e,rfl,⟨_,e,rfl⟩,Lp F.slot_list_mul ⟨_,e,rfl⟩ F.entry_list_mul (F.args_list_mul_2 _ _) (AutoListH.list___mul___list_int_3 l its.toArray n k t hfit hcap hlong) ⟨e,?_⟩⟩)
 rw[hnew];exact⟨.ref _,_,I.CU (t':=s.toks) (r.rep k.toNat) (by rw[len_rep,Nat.mul_comm];exact hz),rfl,q _ I.fresh⟩
end
section
variable {κ:Type} [DecidableEq κ]
noncomputable def hG(kvs:List (κ×V))(k:κ):Option V:=(kvs.find? fun kv=>decide (kv.1=k)).map (·.2)
noncomputable def putK(kvs:List (κ×V))(k:κ)(v:V):List (κ×V):=
 if (kvs.any fun kv=>decide (kv.1=k))=true then kvs.map (fun kv=>if kv.1=k then (kv.1,v) else kv) else kvs++[(k,v)]
theorem kK{p:κ×V}{r:List (κ×V)}{k:κ}(e:p.1=k):hG (p::r) k=some p.2:=by simp[hG,LP,e]
theorem jZ{p:κ×V}{r:List (κ×V)}{k:κ}(e:¬ p.1=k):hG (p::r) k=hG r k:=by simp[hG,LP,e]
theorem iG(k:κ):∀ kvs:List (κ×V),(kvs.any fun kv=>decide (kv.1=k))=(hG kvs k).isSome
 |[]=>rfl
 |p::r=>by
  rw[Lu];by_cases e:p.1=k
  ·simp only[kK e,Lj e,Bool.true_or,Option.isSome_some]
  ·rw[jZ e,Kw e,Bool.false_or];exact iG k r
theorem fU(kvs:List (κ×V))(k:κ)(v:V):(putK kvs k v).length<=kvs.length+1:=by
 unfold putK;split
 ·rw[Kc];lia
 ·rw[Kv,Ks,Ld];lia
theorem y3{kvs:List (κ×V)}{k:κ}(v:V)(h:hG kvs k=none):putK kvs k v=kvs++[(k,v)]:=by
 unfold putK;rw[iG,h];exact Kf (by decide)
theorem gz.tI{u:Option Value}(r:gz o u):o.isSome=u.isSome:=by
 cases o with
 |none=>cases u with
  |none=>rfl
  |some _=>exact (show False from r).elim
 |some _=>cases u with
  |none=>exact (show False from r).elim
  |some _=>rfl
theorem KV.val{kvs:List (κ×V)}{vs:List (κ×Value)}(r:KV kvs vs)(k:κ):gz (hG kvs k) (valueAt vs k):=by
 unfold KV at r
 induction r with
 |nil=>exact True.intro
 |@cons p q ps qs h t ih =>
  obtain⟨h1,h2⟩:=h;by_cases e:p.1=k
  ·have e':q.1=k:=h1.symm.trans e;have b:valueAt (q::qs) k=some q.2:=by simp[valueAt,LP,e']
   rw[kK e,b];exact h2
  ·have e':¬ q.1=k:=fun z=>e (h1.trans z);have b:valueAt (q::qs) k=valueAt qs k:=by simp[valueAt,LP,e']
   rw[jZ e,b];exact ih
theorem KV.any{kvs:List (κ×V)}{vs:List (κ×Value)}(r:KV kvs vs)(k:κ):(kvs.any fun kv=>decide (kv.1=k))=vs.any fun kv=>decide (kv.1=k):=by
 unfold KV at r
 induction r with
 |nil=>rfl
 |cons h t ih=>rw[Lu,Lu,ih,h.1]
theorem KV.Dv{kvs:List (κ×V)}{vs:List (κ×Value)}(r:KV kvs vs)(k:κ)(ry:RelV y u):
  KV (kvs.map fun kv=>if kv.1=k then (kv.1,y) else kv) (vs.map fun kv=>if kv.1=k then (kv.1,u) else kv):=by
 unfold KV at r ⊢
 induction r with
 |nil=>exact .nil
 |@cons p q ps qs h t ih =>
  rw[Kt,Kt];refine .cons ?_ ih;obtain⟨h1,h2⟩:=h;by_cases e:p.1=k
  ·rw[Kh e,Kh (h1.symm.trans e)];exact⟨h1,ry⟩
  ·rw[Kf e,Kf (fun z=>e (h1.trans z))];exact⟨h1,h2⟩
theorem KV.put{kvs:List (κ×V)}{vs:List (κ×Value)}(r:KV kvs vs)(k:κ)(ry:RelV y u):KV (putK kvs k y) (stored vs k u):=by
 unfold putK stored;rw[r.any k];by_cases e:(vs.any fun kv=>decide (kv.1=k))=true
 ·rw[Kh e,Kh e];exact r.Dv k ry
 ·rw[Kf e,Kf e];exact Paired.snoc r ⟨rfl,ry⟩
theorem KV.length{kvs:List (κ×V)}{vs:List (κ×Value)}(r:KV kvs vs):kvs.length=vs.length:=Paired.length r
end
theorem sF{k:Key}(r:RelV (kV k) u):(bR P w).is k u=true:=by
 cases k with
 |inl i=>obtain⟨t,e⟩:=(show ∃ t,u=Value.int i t from r);subst e;exact pD P w i t
 |inr x=>obtain⟨t,e⟩:=(show ∃ t,u=Value.str x t from r);subst e;exact oU P w x t
theorem my:∀{ks:List Key} {us:List Value},Vals (ks.map kV) us->ItemsAre (bR P w) ks us
 |[],_,r=>by rw[LW] at r;cases r;exact .nil
 |k::ks,_,r=>by
  rw[Kt] at r
  cases r with
  |cons h t=>exact .cons (sF h) (my t)
abbrev KT(H:Hp):List (List Key×V)->List (List Key×Addr×Value)->Prop:=Paired fun p q=>p.1=q.1/\H q.2.1=some (.tup (p.1.map kV))/\RelV p.2 q.2.2
theorem KT.val(r:KT H kvs xs)(k:List Key):gz (hG kvs k) ((atKey xs k).map (·.2)):=by
 induction r with
 |nil=>exact True.intro
 |@cons p q ps qs h t ih =>
  obtain⟨h1,_,h2⟩:=h;by_cases e:p.1=k
  ·have e':q.1=k:=h1.symm.trans e;have b:atKey (q::qs) k=some q.2:=by simp[atKey,LP,e']
   rw[kK e,b];exact h2
  ·have e':¬ q.1=k:=fun z=>e (h1.trans z);have b:atKey (q::qs) k=atKey qs k:=by simp[atKey,LP,e']
   rw[jZ e,b];exact ih
theorem KT.Dv(r:KT H kvs xs)(k:List Key)(ry:RelV y u):
  KT H (kvs.map fun kv=>if kv.1=k then (kv.1,y) else kv) (xs.map (putAt k u)):=by
 induction r with
 |nil=>exact .nil
 |@cons p q ps qs h t ih =>
  rw[Kt,Kt];refine .cons ?_ ih;obtain⟨h1,h2,h3⟩:=h;unfold putAt;by_cases e:p.1=k
  ·rw[Kh e,Kh (h1.symm.trans e)];exact⟨h1,h2,ry⟩
  ·rw[Kf e,Kf (fun z=>e (h1.trans z))];exact⟨h1,h2,h3⟩
theorem KT.put(r:KT H kvs xs)(k:List Key){b:Addr}(hb:H b=some (.tup (k.map kV)))(ry:RelV y u):
  KT H (putK kvs k y) (storedH xs k b u):=by
 have e:(kvs.any fun kv=>decide (kv.1=k))=(atKey xs k).isSome:=by
  rw[iG,(r.val k).tI,Option.isSome_map]
 unfold putK storedH;rw[e];by_cases q:(atKey xs k).isSome=true
 ·rw[Kh q,Kh q];exact r.Dv k ry
 ·rw[Kf q,Kf q];exact Paired.snoc r ⟨rfl,hb,ry⟩
theorem KT.keeps(r:KT H kvs xs)(ht:∀ b ys,H b=some (.tup ys)->H' b=some (.tup ys)):KT H' kvs xs:=
 Paired.vf r fun _ _ z=>⟨z.1,ht _ _ z.2.1,z.2.2⟩
section
variable {P:Program} {w:World} {H:Hp} {h:Heap} {a:Addr}
theorem BH{u:HO}(ok:hV P w H h)(e:Rd H a u):bC P w H h a u:=e.ok ok
theorem wz{kvs:List (Key×V)}(ok:hV P w H h)(e:Rd H a (.dK kvs)):kvs.length<=sizeLine/\(a == sysModules)=false/\∃ vs,KV kvs vs/\h.DictOf (bR P w) a vs:=
 show bC P w H h a (.dK kvs) from BH ok e
theorem GD{kvs:List (Key×V)}(ok:hV P w H h)(e:H a=some (.dK kvs)):kvs.length<=sizeLine/\(a == sysModules)=false/\∃ vs,KV kvs vs/\h.DictOf (bR P w) a vs:=wz ok (.inl e)
theorem p_{ks:List Key}(ok:hV P w H h)(e:H a=some (.tup (ks.map kV))):(tupleKind (bR P w)).is h ks a:=by
 obtain⟨_,its,r,o,h1,h2,n,h3,_⟩:=(show bC P w H h a (.tup (ks.map kV)) from ok a _ e);exact⟨o,its.toArray,n,h1,h2,h3,by simpa using my r⟩
theorem yv(ok:hV P w H h)(e:Rd H a (.dT kvs)):kvs.length<=sizeLine/\(a == sysModules)=false /\
  ∃ xs,KT H kvs xs/\h.DictOfH (tupleKind (bR P w)) a xs:=by
 obtain⟨z,y,xs,r,o,es,ep,h1,h2,h3,h4,h5⟩:=(show bC P w H h a (.dT kvs) from BH ok e);refine⟨z,y,xs,r,o,es,ep,h1,h2,h3,h4,fun x hx=>?_,h5⟩;have all:∀{l:List (List Key×V)} {m:List (List Key×Addr×Value)},KT H l m->∀ x∈m,(tupleKind (bR P w)).is h x.1 x.2.1:=by
  intro l m q
  induction q with
  |nil=>intro x hx;exact nomatch hx
  |@cons p q ps qs hq t ih =>
   intro x hx;rcases Kn.mp hx with e|hx
   ·subst e;exact p_ ok (by rw[<- hq.1];exact hq.2.1)
   ·exact ih x hx
 exact all r x hx
theorem FI(ok:hV P w H h)(e:H a=some (.dT kvs)):kvs.length<=sizeLine/\(a == sysModules)=false /\
  ∃ xs,KT H kvs xs/\h.DictOfH (tupleKind (bR P w)) a xs:=yv ok (.inl e)
end
noncomputable def uv(H:Hp)(a:Addr)(y:V)(r:Option V):Prop:=
 (∃ kvs k,Rd H a (.dK kvs)/\y=kV k/\r=hG kvs k)\/∃ kvs k b,Rd H a (.dT kvs)/\y=.ref b/\H b=some (.tup (k.map kV))/\r=hG kvs k
noncomputable def Eb(H:Hp)(a:Addr)(y v:V)(H':Hp):Prop:=
 (∃ kvs k,H a=some (.dK kvs)/\y=kV k/\kvs.length<sizeLine/\H'=upd H a (.dK (putK kvs k v))) \/
 ∃ kvs k b,H a=some (.dT kvs)/\y=.ref b/\H b=some (.tup (k.map kV))/\kvs.length<sizeLine/\H'=upd H a (.dT (putK kvs k v))
section
variable {X:Cx} {pins:List (Addr×Obj)} {σ:St} {H:Hp} {s:Shared} {a:Addr} {y v:V} {u r:Value} {o:Option V} {A:Around} {E:Value->Shared->Prop}
theorem Inv.big(I:Inv X pins σ H s):sysModules<s.heap.objs.size:=by
 have h:mainGlobals<s.heap.objs.size:=(I.mod.glob.keeps I.bk).lt;exact Ma (by decide) h
theorem va(hu:A.units+1<cLine)(I:Inv X pins σ H s)(g:uv H a y (some v))(ry:RelV y u)(h:∀ w' s',Inv X pins σ H s'->RelV v w'->Q w' s'):
  wpAny (model X.prog X.w) A (getItem (.ref a) u) Q E s:=by
 rcases g with ⟨kvs,k,e,ey,l⟩|⟨kvs,k,b,e,ey,eb,l⟩
 ·subst ey;obtain⟨z,hd,vs,rel,dd⟩:=wz I.aU e;obtain⟨w',hw,rw'⟩:=gz.some_of (v:=v) (o:=valueAt vs k) (by rw[l];exact rel.val k)
  exact wpAny_getItem_of (sF ry) dd.mapOf hw (h w' _ (I.tok _) rw')
 ·subst ey
  cases (show u=Value.ref b from ry)
  obtain⟨z,hd,xs,rel,dd⟩:=yv I.aU e;obtain⟨w',hw,rw'⟩:=gz.some_of (v:=v) (o:=(atKey xs k).map (·.2)) (by rw[l];exact rel.val k)
  obtain⟨p,hp,hp2⟩:=Nd.mp hw;refine wpAny_getItem_heap (tupleKind_room_in1 hu) (p_ I.aU eb) dd hp ?_;rw[hp2];exact h w' _ (I.tok _) rw'
theorem si{h':Heap}{t':Nat}{ob:HO}(I:Inv X pins σ H s)(mu:GJ (H a))(hs:Heap.SameBut a s.heap h')(he:∃ q,h'.get? a=some q)(new:bC X.prog X.w (upd H a ob) h' a ob):
  Inv X pins σ (upd H a ob) {s with heap:=h',toks:=t'}:=
 I.write (x:=a) (e:=a) mu (.inl rfl) (fun b q hb z=>(hs.2 b hb).trans z) he new
theorem yc{h':Heap}{kvs:List (Key×V)}{vs:List (Key×Value)}(z:kvs.length<=sizeLine)(hd:(a == sysModules)=false)(rel:KV kvs vs)(dd:h'.DictOf (bR P w) a vs):
  bC P w H' h' a (.dK kvs):=⟨z,hd,vs,rel,dd⟩
theorem uw{Q:Unit->Shared->Prop}(hu:A.units+1<cLine)(I:Inv X pins σ H s)(g:Eb H a y v H')(ry:RelV y u)(rv:RelV v r)(h:∀ s',Inv X pins σ H' s'->Q () s'):
  wpAny (model X.prog X.w) A (setItem (.ref a) u r) Q E s:=by
 rcases g with ⟨kvs,k,e,ey,l,eH⟩|⟨kvs,k,b,e,ey,eb,l,eH⟩
 ·subst ey eH;obtain⟨z,hd,vs,rel,dd⟩:=GD I.aU e;have hz:vs.length<=sizeLine:=by rw[<- rel.length];exact z
  have hl:(putK kvs k v).length<=sizeLine:=by have:=fU kvs k v;lia
  refine wpAny_setItem_pairs (hsz:=hz) (sF ry) dd fun h' dd' hs=>h _ ?_;have he:∃ q,h'.get? a=some q:=let ⟨q,_,_,hq,_⟩:=dd';⟨q,hq⟩
  exact si I (by rw[e];exact True.intro) hs he (yc hl hd (rel.put k rv) dd')
 ·subst ey eH
  cases (show u=Value.ref b from ry)
  obtain⟨z,hd,xs,rel,dd⟩:=FI I.aU e;have hz:xs.length<=sizeLine:=by rw[<- Paired.length rel];exact z
  have hl:(putK kvs k v).length<=sizeLine:=by have:=fU kvs k v;lia
  refine wpAny_setItem_heap (hsz:=hz) (tupleKind_room_in1 hu) (p_ I.aU eb) dd fun h' dd' hs=>h _ ?_;obtain⟨q,es,ep,hq,h2,h3,h4,_,h5⟩:=dd';refine si I (by rw[e];exact True.intro) hs ⟨q,hq⟩ ⟨hl,hd,_,(rel.put k eb rv).keeps fun c ys ec=>?_,q,es,ep,hq,h2,h3,h4,h5⟩
  rw[ae (Fs ec e (fun z=>nomatch z))];exact ec
end
noncomputable def we(i:Expr):Prop:=∀ ov iv,subscripted i false ov iv=operate [ov,iv] (getItem ov iv)
theorem rV{prog:Program}{A:Around}{E:Value->Shared->Prop}{env:Env}{value slice:Expr}{pos:Pos}{T id:String}
  (hl:typeLookup (.type T) "__getitem__"=pure (some (.builtin id))) (hs:we slice)
  (h:wpAny (model prog w) A (eval value env) (fun o s₁=>wpAny (model prog w) A (eval slice env) (fun i s₂=>s₂.TypeIs o T/\wpAny (model prog w) A (getItem o i) Q E s₂) E s₁) E s) :
  wpAny (model prog w) A (eval (.Subscript value slice pos) env) Q E s:=by
 refine Subscript_ (Lh h (fun o s₁ h₁=>Lh h₁ (fun i s₂ h₂=>?_) fun _ _ x=>x) fun _ _ x=>x);obtain⟨hT,h₂⟩:=h₂;unfold subscriptTail;refine Kb ?_;rw[getitemInPython_of_ne hT.not_modules];refine Kb (wpAny_specialOf hT hl ?_);have fin:wpAny (model prog w) A (subscripted slice false o i) (fun r s₃=>wpAny (model prog w) A (letTemporaryGo value o r >>= fun _=>pure r) Q E s₃) E s₂:=by
  rw[hs o i];exact wpAny_operating (Lh h₂ (fun r s₃ h₃=>Kb (wpAny_letTemporaryGo (Km h₃))) fun _ _ x=>x)
 first
  |exact Km (Kb fin)
  |exact Kb (Km (Kb fin))
  |exact Kb fin
theorem nO{X:Cx}{a:Addr}(I:Inv X pins σ H s)(g:uv H a y o):s.TypeIs (.ref a) "dict":=by
 rcases g with ⟨kvs,k,e,_,_⟩|⟨kvs,k,b,e,_,_,_⟩
 ·obtain⟨_,_,vs,_,dd⟩:=wz I.aU e;exact dd.typeIs
 ·obtain⟨_,_,xs,_,dd⟩:=yv I.aU e;exact dd.typeIs
noncomputable def pq(td ty:TE):TE:=fun σ H Q=>td σ H fun x H1=>ty σ H1 fun y H2=>∃ a v,x=.ref a/\uv H2 a y (some v)/\Q v H2
noncomputable def pK(td ty tv:TE):TS:=fun D σ H=>tv σ H fun v H1=>td σ H1 fun x H2=>ty σ H2 fun y H3=>∃ a H4,x=.ref a/\Eb H3 a y v H4/\D.nx σ H4
section
variable {X:Cx} {o i e value:Expr} {pos pos' tpos:Pos} {td ty tv:TE}
theorem yI(hu:X.A.units+1<cLine)(ho:PE X o td)(hi:PE X i ty)(hs:we i):PE X (.Subscript o i pos) (pq td ty):=by
 intro pins s σ H Q I h;refine rV PySem.F.slot_dict_getitem.lookup hs (bM (ho pins s σ H _ I h) fun u s1 ⟨x,H1,I1,rx,q1⟩=>bM (hi pins s1 σ H1 _ I1 q1) fun iv s2 hq55=>?_);obtain⟨y,H2,I2,ry,a,v,ex,g,q2⟩:=hq55;subst ex;obtain rfl:u=Value.ref a:=rx;exact⟨nO I2 g,va hu I2 g ry fun w' s3 I3 rw'=>⟨v,H2,I3,rw',q2⟩⟩
theorem yH(hu:X.A.units+1<cLine)(ho:PE X o td)(hi:PE X i ty)(hv:PE X value tv)(hs:swapsWith value (some (.Subscript o i pos')) pos.line X.env=pure false):
  PS X (.Assign [.Subscript o i pos'] value pos) (pK td ty tv):=by
 intro pins s σ H D I h;refine wpAny_Assign_Subscript (bM (hv pins s σ H _ I h) fun r s1 ⟨v,H1,I1,rv,q1⟩=>bM (ho pins s1 σ H1 _ I1 q1) fun u s2 ⟨x,H2,I2,rx,q2⟩=>bM (hi pins s2 σ H2 _ I2 q2) fun iv s3 hq58=>?_) hs;obtain⟨y,H3,I3,ry,a,H4,ex,g,q3⟩:=hq58;subst ex;obtain rfl:u=Value.ref a:=rx;exact uw hu I3 g ry rv fun s4 I4=>⟨σ,H4,I4,q3⟩
end
noncomputable def fY(kvs more:List (Key×V)):List (Key×V):=more.foldl (fun acc kv=>putK acc kv.1 kv.2) kvs
theorem KV.merge:∀{more:List (Key×V)} {rs:List (Key×Value)} {kvs:List (Key×V)} {vs:List (Key×Value)},KV more rs->KV kvs vs->KV (fY kvs more) (merged vs rs):=by
 intro more rs kvs vs r;unfold KV at r
 induction r generalizing kvs vs with
 |nil=>intro q;exact q
 |@cons p q ps qs h t ih =>
  intro r0;have e:KV (putK kvs p.1 p.2) (stored vs q.1 q.2):=by
   have:=r0.put p.1 h.2;rw[<- h.1];exact this
  exact ih e
theorem gE:∀(more kvs:List (Key×V)),(fY kvs more).length<=kvs.length+more.length
 |[],kvs=>by show kvs.length<=kvs.length+0;lia
 |p::r,kvs=>by
  have h1:=gE r (putK kvs p.1 p.2);have h2:=fU kvs p.1 p.2;show (fY (putK kvs p.1 p.2) r).length<=_;rw[Ks];lia
structure M1 (X:Cx) (o:Expr) (m:Str) (apos:Pos) (e:Expr) (cpos:Pos):Prop where
 base:attributeBase o m X.env (eval o X.env)=eval o X.env
 JQ:((backTo cpos (starEach [e] X.env)).all (fun x=>!x.1) && (backToKw cpos (keywordEach [] X.env)).all (fun x=>x.1.isSome)
  && decide (([e]:List Expr).length+([]:List Keyword).length+(if ([]:List Keyword).isEmpty then 0 else 1)<30))=true
 line:(apos.endLine == cpos.line)=true
 trees:backTo cpos (starEach [e] X.env)=[(false,eval e X.env)]
end L2
namespace Att
open PySem PySem.W PySem.Calls PyProof.Rows
variable{l:OpenLaw}
theorem jE{P:Params}{h:Heap}:∀(ns:List Int) (vs:List Value),WellAll P h vs (ns.map WData.int)->IntsAre vs ns:=by
 intro ns
 induction ns with
 |nil =>
  intro vs w;rw[List.map_nil] at w;cases w;exact .nil
 |cons n ns ih =>
  intro vs w;rw[List.map_cons] at w
  cases w with
  |cons a b =>
   cases a;exact .cons _ _ (ih _ b)
theorem uk{n:Nat}(hn:l.most=some n){P:Params}{h:Heap}{args:List WData}{vals:List Value}
  (hpre:l.row.toRowW.claim.pre args=true) (hwl:WellAll P h vals args) :
  ∃ a vs ns,vals=[Value.ref a]/\args=[WData.list (ns.map WData.int)]/\h.get? a=some {cls:=.type "list",data:=.seq vs.toArray}/\IntsAre vs ns/\ns.length<=n:=by
 have hsh:WShape.hasAll [] args [.list .int]=true:=(pre_splitW hpre).1;have hc:l.pre.holds [] {args:=args}=true:=(pre_splitW hpre).2;obtain⟨d,r,rfl,h1,h2⟩:=hasAllW_cons hsh;obtain rfl:=hasAllW_nil h2;obtain⟨xs,rfl,h3⟩:=hasW_list h1;obtain⟨ns,rfl⟩:=items_int h3;have hlen:ns.length<=n:=by
  unfold OpenLaw.pre at hc;have h4:(WTm.not (.lt (.lit (.int (n:Int))) (.len (.arg 0)))).holds [] {args:=[.list (ns.map .int)]}=true:=by
   have h4:=(holds_andW hc).1;rw[hn] at h4;exact h4
  have h5:=condW_of h4 (w_not (w_lt w_lit (w_len_list (w_arg rfl))));rw[List.length_map] at h5;refine Nat.le_of_not_lt fun q=>?_;have q':(n:Int)<((ns.length:Nat):Int):=by lia
  first
   | (rw[decide_eq_true q'] at h5;exact absurd h5 (by decide))
   | (simp at h5;lia)
 cases hwl with
 |cons w1 w2 =>
  cases w2
  cases w1 with
  |list ho hall=>exact⟨_,_,ns,rfl,rfl,ho,jE ns _ hall,hlen⟩
theorem uQ(l:OpenLaw)(args:List WData):l.row.toRowW.claim.post args (.bool true) args=true:=
 postW_of (r:=l.row.toRowW) (X:=(true == true))
  (show WShape.has [] (.bool true) .bool=true by first|rfl|decide|simp[WShape.has,WShape.arms,WShape.armsAll])
  (show (WTm.eq .res (.lit (.bool true))).value [] {args:=args,res:=some (.bool true),after:=args}=some (.bool (true == true)) from w_eq_bool (w_res rfl) w_lit) rfl
theorem oP{n:Nat}{q:Program}{loose:List Str}{XP:(Str->Option Value)->Heap->Prop}{YP:World->Heap->Prop}{d:DefRec}
  (hn:l.most=some n) (hdf:d.params.defaults=[])
  (call:∀(w:World) (s₀ s₁:Shared) (mg mb:Str->Option Value) (fa:Addr) (o:Obj) (pm cd doc:Value) (a:Addr) (vs:List Value) (ns:List Int),
   Ground q loose [] XP w s₀ mg mb s₁.heap->YP w s₁.heap ->
   s₁.heap.get? fa=some o->o.data=.func (docDef d.name d.params d.body d.scope pm cd doc)->s₁.heap.CodeRec cd d.name->mg d.name=some (.ref fa) ->
   s₁.heap.get? a=some {cls:=.type "list",data:=.seq vs.toArray}->IntsAre vs ns->ns.length<=n->s₁.gens=#[] ->
   codeAny (model l.prog w) callerA (.call (.ref fa) ⟨[.ref a],[]⟩) (fun r s'=>r=.ok (.ret (.bool true))/\OldK s₁.heap s'.heap/\s'.os=s₁.os/\AllBare s'.gens) s₁) :
  WalkO q loose XP YP l.row.toRowW d [] (fun f vs=>PySem.call f vs):=by
 intro w s₀ s₁ mg mb G Y fa o pm cd doc dV kV ho hd hcd hD hmg hg args vals as hpre hlay hrd hwl hlo;obtain rfl:dV=.none:=Dflts.none hD hdf;obtain rfl:kV=.none:=Dflts.noKw hD;obtain⟨a,vs,ns,rfl,rfl,hobj,hints,hlen⟩:=uk hn hpre hwl;refine enter_call (codeAny_mono (call w s₀ s₁ mg mb fa o pm cd doc a vs ns G Y ho (fd_plain hd) hcd hmg hobj hints hlen hg) fun r s' hq=>?_);obtain⟨rfl,h2,h3,h4⟩:=hq;exact⟨.inl ⟨.bool true,.bool true,[],rfl,fun _=>rfl,.bool true,uQ l _,fun _=>⟨List.Pairwise.nil,fun _ hm=>(nomatch hm)⟩⟩,h2,h3,h4⟩
end Att
namespace L2
open PySem PySem.Spec PyProof.Rows
variable{P prog q:Program}{K:Nv}{N ON loose:List Str}{mb mg:Str->Option Value}{base h:Heap}{b:Bool}{o:HO}{w:World}{i j k n:Nat}{a f i1 i2 it l1 l2 p z:Addr}{fd:FuncData}{sp:Sp}{e elt iter l tg:Expr}{X:Cx}{name qual:Str}{st:Stmt}{apos pos:Pos}{osc scope:Scope}{env:Env}{cells:List (Str×Addr)}{s:Shared}{es ifs:List Expr}{wi:TI}{tc:TT}{te tl:TE}{pins:List (Addr×Obj)}{σ:St}{H H' H1:Hp}{E Q:Value->Shared->Prop}{r:List V->Hp->VK->Prop}{ws xs ys:List V}{items:Array Value}{ex fp:List Addr}{hi lo:Option Expr}{α β:Type}{D:Ends}{ad:Nat->Addr}{shA:(Nat->Addr)->Nat->Addr}{md:List Bool}{P1 P2:Nat->Value->Prop}{S1 S2:Nat->Heap->Prop}{its its2:List Value}
theorem lH:∀{vs:List Value} {ns:List Int},IntsAre vs ns->Vals (ns.map V.int) vs
 |_,_,.nil=>.nil
 |_,_,.cons n t h=>.cons ⟨t,rfl⟩ (lH h)
structure iu (q:Program) (K:Nv):Prop where
 nt:PySem.W.noTabs K=true
 nd:((bV K).map (·.2.1)).Nodup
 fd:∀ x∈hW,PySem.W.tabIn K x=none\/((recsOf q).find? (fun e=>e.name == x)).isSome=true
theorem iu.at{mean:ExcName->Option Value}(L:iu q K)(T:Top q loose mean mg mb h)(X:K.In h):∀ t∈bV K,PySem.W.CodeHd h t.1 t.2.1/\h.get? t.2.1=some (PySem.W.tabObj #[]):=fun t ht=>by
 unfold bV at ht;obtain⟨x,hx,e⟩:=M8.mp ht;obtain⟨p,e1,e2⟩:=Nd.mp e;obtain⟨c,Pt⟩:=p;subst e2;rcases L.fd x hx with z|z
 ·rw[z] at e1;cases e1
 ·obtain⟨d,hd⟩:=MN.mp z;exact PySem.W.tab_of T X hd e1
noncomputable def m_:List (Addr×Addr×Str)->Addr->Option HO
 |[],_=>none
 |t::r,b=>if b=t.2.1 then some (.xc #[.str t.2.2 0]) else m_ r b
theorem gq{b:Addr}:∀{l:List (Addr×Addr×Str)},m_ l b=some o->∃ t∈l,b=t.2.1/\o=.xc #[.str t.2.2 0]
 |t::r,e=>by
  unfold m_ at e;by_cases z:b=t.2.1
  ·rw[Kh z] at e;cases e;exact⟨t,.head _,z,rfl⟩
  ·rw[Kf z] at e;obtain⟨u,hu,q⟩:=gq e;exact⟨u,.tail _ hu,q⟩
theorem oz{t:Addr×Addr×Str}:∀{l:List (Addr×Addr×Str)},(l.map (·.2.1)).Nodup->t∈l->m_ l t.2.1=some (.xc #[.str t.2.2 0])
 |u::r,nd,m=>by
  obtain⟨n1,n2⟩:=KC.mp nd;unfold m_;rcases Kn.mp m with rfl|m
  ·rw[Kh rfl]
  ·rw[Kf fun z=>n1 (K6.mpr ⟨t,m,z⟩)];exact oz n2 m
theorem xg{CX:nU}{fa:Addr}{x:Str}{s₁:Shared}{vs:List Value}{ns:List Int}
  (KX:K.In s₁.heap) (hns:s₁.heap.Ns mainGlobals mg) (hb:s₁.heap.Ns builtinsNs mb) (hbb:∀ x:Str,x≠"__name__"->mb x=bootBuiltins x) (hlim:s₁.heap.NoLimit) (hbm:DP mg s₁.heap)
  (hT:∀ t∈bV K,PySem.W.CodeHd s₁.heap t.1 t.2.1/\s₁.heap.get? t.2.1=some (PySem.W.tabObj #[])) (L:iu q K) (hg:s₁.gens=#[])
  (ha:s₁.heap.get? a=some {cls:=.type "list",data:=.seq vs.toArray}) (hi:IntsAre vs ns) (hl:ns.length<=sizeLine) (hr:bP k callerA)
  (F:∀ base:Heap,K.In base->base.Ns mainGlobals mg->a_ P w K mg base CX k fa fd [x] sp) (hbind:∀(s:Shared) (u:Value),BindsTo s fd ⟨[u],[]⟩ [(x,u)])
  (hsp:∀ H:Hp,True->bA K H a (ns.map V.int)->sp [.ref a] H (fun v _=>v=.bl true) fun _ _ _=>False)
  (hCX:∀ H e s',CX [] H s₁ (fun _ _ _=>False) e s'->False) :
  codeAny (model P w) callerA (.call (.ref fa) ⟨[.ref a],[]⟩) (fun r s'=>r=.ok (.ret (.bool true))/\OldK s₁.heap s'.heap/\s'.os=s₁.os/\AllBare s'.gens) s₁:=by
 have rv:=lH hi;have lenV:=hi.length;have naT:∀ t∈bV K,t.2.1≠a:=fun t ht z=>by
  have e:=(hT t ht).2;rw[z,ha] at e;cases e
 let oS:Obj:={cls:=.type "list",data:=.seq vs.toArray}
 have core:∀ S:Option HO,(S=none\/S=some (.lQ oS (.lst (ns.map V.int))))->(S≠none->K.lookup a=none)->bA K (fun b=>if b=a then S else m_ (bV K) b) a (ns.map V.int) ->
   codeAny (model P w) callerA (.call (.ref fa) ⟨[.ref a],[]⟩) (fun r s'=>r=.ok (.ret (.bool true))/\OldK s₁.heap s'.heap/\s'.os=s₁.os/\AllBare s'.gens) s₁:=by
  intro S hS hK hSq;generalize hH:(fun b=>if b=a then S else m_ (bV K) b)=H at hSq
  have hA:H a=S:=by rw[<- hH];exact Kh rfl
  have hB:∀ b,b≠a->H b=m_ (bV K) b:=fun b z=>by rw[<- hH];exact Kf z
  have free:∀{b:Addr} {o:Obj},s₁.heap.get? b=some o->o≠PySem.W.tabObj #[]->(b=a->S=none)->H b=none:=fun {b o} e hn hz=>by
   by_cases z:b=a
   ·rw[z,hA];exact hz z
   ·rw[hB b z]
    cases q:m_ (bV K) b with
    |none=>rfl
    |some u =>
     obtain⟨t,ht,e1,_⟩:=gq q;have e2:=(hT t ht).2;rw[<- e1,e] at e2;exact absurd (Option.some.inj e2) hn
  have nsK:∀{b:Addr} {m:Str->Option Value},s₁.heap.Ns b m->(lF s₁.heap H).Ns b m:=fun {b m} ⟨o,es,ep,e,d,r⟩=>⟨o,es,ep,iH e (free e (fun z=>by rw[z] at d;cases d) fun z=>by rw[z,ha] at e;cases e;cases d),d,r⟩
  have hKb:K.In (lF s₁.heap H):=fun b o e=>iH (KX b o e) (free (KX b o e) (fun z=>by
    have h2:=KJ.mp L.nt (b,o) (PySem.W.mem_of_lookupK e);subst z;exact absurd (show false=true from h2) Ki) fun z=>by
    cases q:S with
    |none=>rfl
    |some u=>rw[z,hK (by rw[q];simp)] at e;cases e)
  have hcd:∀ t∈bV K,PySem.W.CodeHd (lF s₁.heap H) t.1 t.2.1:=fun t ht=>by
   obtain⟨o,us,fl,tf,fg,tg,gA,tx,tt,e1,e2,r⟩:=(hT t ht).1;exact⟨o,us,fl,tf,fg,tg,gA,tx,tt,iH e1 (free e1 (fun z=>by rw[z] at e2;cases e2) fun z=>by rw[z,ha] at e1;cases e1;exact absurd (Value.type.inj e2) (by decide)),e2,r⟩
  have hbm':DP mg (lF s₁.heap H):=by
   obtain⟨bm,ob,b1,b2,b3,b4,b5⟩:=hbm;exact⟨bm,ob,b1,b2,iH b3 (free b3 (fun z=>by rw[z] at b4;cases b4) fun z=>by rw[z,ha] at b3;cases b3;exact absurd (Value.type.inj b4) (by decide)),b4,b5⟩
  have aU:hV P w H s₁.heap:=fun b u e=>by
   by_cases z:b=a
   ·rw[z,hA] at e;rcases hS with h0|h0
    ·rw[h0] at e;cases e
    ·rw[h0] at e;cases e;subst z;exact⟨ha,by rw[Kc];exact hl,vs,_,rv,ha⟩
   ·rw[hB b z] at e;obtain⟨t,ht,e1,e2⟩:=gq e;subst e2;exact⟨#[],by rw[e1];exact (hT t ht).2,trivial,fun pos cv c=>by cases (show (none:Option Value)=some cv from c)⟩
  have hM:Mod K mg (lF s₁.heap H):=⟨hKb,nsK hns,⟨mb,nsK hb,hbb⟩,let ⟨mc,h1,h2⟩:=hlim;⟨mc,nsK h1,h2⟩,hcd,hbm'⟩
  have e0:qZ P w K mg (lF s₁.heap H) callerA [] s₁ H:=⟨rfl,hM,fun b o e=>zK e,Nat.le_of_eq (vj _ _),trivial,fun b hb=>absurd (show b∈([]:List Addr) from hb) (by simp),aU,.of_eq hg,fun t ht=>⟨#[],by
   rw[hB _ (naT t ht),oz L.nd ht,Array.append_empty]⟩⟩
  refine Nt ((F _ hKb (nsK hns)).run callerA [] s₁ H ⟨[.ref a],[]⟩ [.ref a] [.ref a] _ _ hr e0 (hbind s₁ (.ref a)) (.cons rfl .nil) (hsp H trivial hSq)) fun r s' h=>?_
  cases r with
  |error e=>exact (hCX H e s' h).elim
  |ok fl =>
   cases fl with
   |next=>exact False.elim h
   |brk=>exact False.elim h
   |cont=>exact False.elim h
   |ret u =>
    obtain⟨v,H',os,bare,un,hok',r',qv⟩:=h;have q':v=.bl true:=qv;subst q';obtain rfl:u=Value.bool true:=r';have each:∀ b o,s₁.heap.get? b=some o->s'.heap.get? b=some o\/∃ c,PySem.W.CodeHd s₁.heap c b/\o=PySem.W.tabObj #[]/\∃ ps,s'.heap.get? b=some (PySem.W.tabObj ps):=fun b o e=>by
     cases qb:H b with
     |none=>exact .inl (un.keep b o e qb (by intro z;exact absurd (show b∈([]:List Addr) from z) (by simp)) (by simp))
     |some u =>
      by_cases z:b=a
      ·rw[z,hA] at qb;rcases hS with h0|h0
       ·rw[h0] at qb;cases qb
       ·have z2:=un.lC a oS _ (by rw[hA,h0])
        obtain⟨e2,_⟩:=hok' a _ z2;rw[z,ha] at e;cases e;exact .inl (by rw[z];exact e2)
      ·have qt:=qb;rw[hB b z] at qt;obtain⟨t,ht,e1,e2⟩:=gq qt;obtain⟨h1,h2⟩:=hT t ht;rw[<- e1] at h1 h2;rw[e] at h2;cases h2;subst e2;obtain⟨more,e3⟩:=un.kN b _ qb;obtain⟨qs,e4,_⟩:=hok' b _ e3;exact .inr ⟨_,h1,rfl,qs,e4⟩
    refine⟨rfl,⟨fun b o e=>?_,fun b o e=>?_⟩,os,bare⟩
    ·rcases each b o e with z|⟨c,hc,z,ps,hp⟩
     ·exact .inl z
     ·subst z;exact .inr (.inl ⟨(hc.tab e).isCodeTable,rfl,#[],ps,rfl,by rw[Array.empty_append];exact hp⟩)
    ·rcases each b o e with z|⟨c,hc,z,ps,hp⟩
     ·exact⟨o,z⟩
     ·exact⟨_,hp⟩
 cases hk:K.lookup a with
 |some o =>
  have e:=KX a o hk;rw[ha] at e;cases e;exact core none (.inl rfl) (fun z=>absurd rfl z) (.inr ⟨_,vs.toArray,_,hk,rfl,rfl,rfl,by rw[Kg,lenV];exact hl,by simpa using rv⟩)
 |none=>exact core (some (.lQ oS (.lst (ns.map V.int)))) (.inr rfl) (fun _=>hk) (.inl (.inr ⟨oS,Kh rfl⟩))
theorem zc{l:PySem.W.OpenLaw}{XP:(Str->Option Value)->Heap->Prop}{YP:World->Heap->Prop}{d:DefRec}{K:Params->Nv}{CX:World->nU}{sp:World->Sp}{x:Str}
  (hn:l.most=some n) (hn2:n<=sizeLine) (hdf:d.params.defaults=[]) (hr:bP k callerA)
  (hY:∀(w:World) (h:Heap),YP w h->(K w.params).In h)
  (F:∀(w:World) (mg:Str->Option Value) (fa:Addr) (h:Heap),(K w.params).In h->h.Ns mainGlobals mg->mg d.name=some (.ref fa) ->
   ∃ fd:FuncData,(∀(s:Shared) (u:Value),BindsTo s fd ⟨[u],[]⟩ [(x,u)]) /\
    ∀ base:Heap,(K w.params).In base->base.Ns mainGlobals mg->a_ l.prog w (K w.params) mg base (CX w) k fa fd [x] (sp w))
  (hsp:∀(w:World) (H:Hp) (a:Addr) (ns:List Int),ns.length<=n->True->bA (K w.params) H a (ns.map V.int)->sp w [.ref a] H (fun v _=>v=.bl true) fun _ _ _=>False)
  (hCX:∀(w:World) (H:Hp) (s:Shared) (e:Value) (s':Shared),CX w [] H s (fun _ _ _=>False) e s'->False) (hL:∀(w:World) (h:Heap),(K w.params).In h->iu q (K w.params)) :
  PySem.W.WalkO q loose XP YP l.row.toRowW d [] (fun f vs=>PySem.call f vs):=by
 refine Att.oP hn hdf fun w s₀ s₁ mg mb fa o pm cd doc a vs ns G Y ho hd hcd hmg hobj hints hlen hg=>?_;have KX:=hY w _ Y;obtain⟨fd,hb,hF⟩:=F w mg fa _ KX G.T.g hmg;have L:=hL w _ KX;exact xg KX G.T.g G.T.b G.T.builtins G.T.nolimit G.T.bmain (L.at G.T KX) L hg hobj hints (Kj hlen hn2) hr hF hb (fun H hO hS=>hsp w H a ns hlen hO hS) fun H e s'=>hCX w H s₁ e s'
noncomputable def inClass(s:Stmt)(j:Nat):Stmt:=match s with
 |.ClassDef _ _ _ body _ _ _ _ _ _ _=>body.getD j (.Pass ⟨0,0,0,0⟩)
 |_=>.Pass ⟨0,0,0,0⟩
noncomputable def aM(s:Stmt):Arguments:=match s with
 |.FunctionDef _ a _ _ _ _ _ _ _ _=>a
 |_=>{posonlyargs:=[],args:=[],vararg:=none,kwonlyargs:=[],kw_defaults:=[],kwarg:=none,defaults:=[]}
noncomputable def aq(s:Stmt):List Stmt:=match s with
 |.FunctionDef _ _ b _ _ _ _ _ _ _=>b
 |_=>[]
noncomputable def aa(s:Stmt):Scope:=match s with
 |.FunctionDef _ _ _ _ _ _ sc _ _ _=>sc
 |_=>{kind:=.function,names:=[],isGenerator:=false,isCoroutine:=false}
abbrev aN:nU:=fun _ _ _ _ _ _=>False
abbrev E0:XK:=fun _ _ _=>False
theorem au:Passes aN X E0:=fun _ _ _ _ _ _ _ h=>h.elim
structure e7 (K:Nv) (x qual:Str) (st:Stmt) (f:Addr) (fd:FuncData):Prop where
 ex:∃(oc:Value) (od:Option Addr) (kV doc pm:Value) (an:Option Addr) (cdv ct:Value) (osl:Array (Option Value)),
  fd=PySem.W.fnOf x qual (aM st) (aq st) (aa st) .none kV doc pm an cdv ct/\K.lookup f=some ⟨oc,od,.func fd,osl⟩/\PySem.W.codeIn K cdv qual=true
 kp:PySem.W.keepIn K (.ref f)=true
section
variable {P:Program} {w:World} {K:Nv} {mg:Str->Option Value} {base:Heap}
theorem e7.ok{x:Str}{ps:List Str}(F:e7 K x qual st f fd)(S:aj N ps (aa st))(len:∀ vs H Q E,sp vs H Q E->vs.length=ps.length)
  (hbody:∀(cdv:Value) (A:Around) (outer:List Env) (s:Shared) (H:Hp) (vs:List V) (Q:VK) (E:XK),bP k (A.deeper (envOfC qual (aa st) s.heap.objs.size f cdv))->sp vs H Q E ->
   ∃ t,qU (cF aN P w K mg base N qual (aa st) f cdv A outer s H E).ig (aq st) t/\t {nx:=fun _ H'=>Q .aE H',rt:=Q} (start N vs) H):a_ P w K mg base aN (k+1) f fd ps sp:=by
 obtain⟨oc,od,kV,doc,pm,an,cdv,ct,osl,rfl,lk,hcd⟩:=F.ex;refine Bk lk hcd S len fun A outer s H vs Q E hr hsp=>?_;obtain⟨t,h,q⟩:=hbody cdv A outer s H vs Q E hr hsp;exact⟨t,h.ig,q⟩
theorem e7.binds{x:Str}{ps:List Str}(F:e7 K x qual st f fd)
  (h:∀(kV doc pm:Value) (an:Option Addr) (cdv ct:Value) (us:List Value),us.length=ps.length->bindArgs (PySem.W.fnOf x qual (aM st) (aq st) (aa st) .none kV doc pm an cdv ct) ⟨us,[]⟩=pure (ps.zip us)):Binds K fd ps []:=by
 obtain⟨oc,od,kV,doc,pm,an,cdv,ct,osl,rfl,lk,hcd⟩:=F.ex;exact .all (h kV doc pm an cdv ct)
theorem aJ{x:Str}{oc:Value}{od an:Option Addr}{osl:Array (Option Value)}{kV doc pm cdv ct:Value}(l:K.lookup f=some ⟨oc,od,.func (PySem.W.fnOf x qual (aM st) (aq st) (aa st) .none kV doc pm an cdv ct),osl⟩)
  (c:PySem.W.codeIn K cdv qual=true) (k:PySem.W.keepIn K (.ref f)=true):e7 K x qual st f (PySem.W.fnOf x qual (aM st) (aq st) (aa st) .none kV doc pm an cdv ct):=⟨⟨oc,od,kV,doc,pm,an,cdv,ct,osl,rfl,l,c⟩,k⟩
end
theorem aS{A:Around}(hr:bP k A):A.units+1<cLine:=KP (Nat.add_le_add_left (by decide:1<=64) _) hr.units
section
variable {X:Cx}
theorem pv(i:Nat){x:Str}(hN:autoParam (X.N[i]?=some x) ℜ0)(hv:autoParam (ED X.env.scope x) ℜ4)(hd:autoParam ((x ==("__debug__":Str))=false) ℜ1)
  (hcd:autoParam ((x ==("__classdict__":Str))=false) ℜ1):PE X (.Name x pos) (lE i):=Cv hN hv hd hcd
end
noncomputable def cQ(H H':Hp):Prop:=∀ b o,H b=some o->H' b=some o
theorem cQ.refl(H:Hp):cQ H H:=fun _ _ h=>h
section
variable {κ:Type} [DecidableEq κ]
theorem zz{kvs:List (κ×V)}{k:κ}{v:V}(h:hG kvs k=some v):k∈kvs.map (·.1):=by
 have q:(kvs.any fun kv=>decide (kv.1=k))=true:=by
  rw[iG,h]
  all_goals rfl
 obtain⟨p,hp,e⟩:=List.any_eq_true.mp q;exact K6.mpr ⟨p,hp,of_decide_eq_true e⟩
end
noncomputable def eE(cells:List (Str×Addr)):List (Str×NameKind)->List (Str×Addr)->List (Str×Addr)
 |[],acc=>acc
 | (n,k)::r,acc=>if k=.free then eE cells r ((n,(cells.lookup n).getD 0)::acc) else eE cells r acc
theorem gK(h:∀ x∈scope.names,x.2=.free->∃ c,env.cells.lookup x.1=some c):closureFor scope env=pure (eE env.cells scope.names []):=by
 have all:∀(l:List (Str×NameKind)) (acc:List (Str×Addr)),(∀ x∈l,x.2=.free->∃ c,env.cells.lookup x.1=some c) ->
   (forIn l acc fun (x:Str×NameKind) (cs:List (Str×Addr))=>(match x with | (name,kind)=>if (kind == NameKind.free)=true then (do let c <- cellOf env name;pure (ForInStep.yield ((name,c)::cs))) else pure (ForInStep.yield cs):Sem (ForInStep (List (Str×Addr)))))=(pure (eE env.cells l acc):Sem (List (Str×Addr))):=by
  intro l
  induction l with
  |nil=>intro acc _;rfl
  |cons x r ih =>
   intro acc hl;obtain⟨n,k⟩:=x;rw[MY];by_cases hk:k=.free
   ·subst hk;obtain⟨c,hc⟩:=hl (n,.free) Ky rfl;have e:cellOf env n=pure c:=by unfold cellOf;rw[hc]
    simp only[KQ,Md,e,eE,pure_bind];rw[ih _ fun y hy=>hl y (Ko _ hy),hc];rfl
   ·have hb:(k == NameKind.free)=false:=by simpa using hk
    simp only[hb,Mb,MO,eE,hk,pure_bind];exact ih _ fun y hy=>hl y (Ko _ hy)
 unfold closureFor;simp only[bind_pure];exact all scope.names [] h
theorem jh:∀{l:List (Str×NameKind)} {acc:List (Str×Addr)},(∀ x∈l,x.2=.free->∃ c,cells.lookup x.1=some c)->(∀ x c,acc.lookup x=some c->cells.lookup x=some c) ->
  ∀ x c,(eE cells l acc).lookup x=some c->cells.lookup x=some c
 |[],_,_,h,x,c,e=>h x c e
 | (n,k)::r,acc,hl,h,x,c,e=>by
  unfold eE at e;have hr:∀ y∈r,y.2=.free->∃ c,cells.lookup y.1=some c:=fun y hy=>hl y (Ko _ hy)
  split at e
  ·rename_i hk;refine jh hr (fun y d q=>?_) x c e;rw[KR] at q
   split at q
   ·rename_i hy;obtain⟨c',hc'⟩:=hl (n,k) Ky hk;have hy':y=n:=by simpa using hy
    subst hy';simp only[] at hc';rw[hc'] at q ⊢;exact q
   ·exact h y d q
  ·exact jh hr h x c e
theorem iR{x:Str}:∀{l:List (Str×NameKind)} {acc:List (Str×Addr)},(∃ c,acc.lookup x=some c)->∃ c,(eE cells l acc).lookup x=some c
 |[],_,h=>h
 | (n,k)::r,acc,h=>by
  unfold eE;split
  ·refine iR ?_;rw[KR];split
   ·exact⟨_,rfl⟩
   ·exact h
  ·exact iR h
theorem gu{x:Str}:∀{l:List (Str×NameKind)} {acc:List (Str×Addr)},(x,NameKind.free)∈l->∃ c,(eE cells l acc).lookup x=some c
 |[],_,h=>by simp at h
 | (n,k)::r,acc,h=>by
  unfold eE;rcases Kn.mp h with e|h
  ·cases e;rw[Kh rfl];exact iR ⟨(cells.lookup x).getD 0,by rw[KR];simp⟩
  ·split
   ·exact gu h
   ·exact gu h
noncomputable def aY(X:Cx)(scope:Scope)(N:List Str)(C:Addr)(s:Shared)(H:Hp)(fp:List Addr):Cx where
 prog:=X.prog
 w:=X.w
 K:=X.K
 mg:=X.mg
 base:=X.base
 A:=X.A
 N:=N
 s₀:=s
 H₀:=H
 env:=compEnvC scope (eE X.env.cells scope.names []) C X.env
 outer:=X.stack
 stack:=X.stack
 ex:=fp
 calm:=X.calm
 fn:=fun _=>false
 pn:=[]
 xe:=fun _ _=>False
structure cD (osc:Scope) (ON:List Str) (scope:Scope) (own N:List Str):Prop where
 kind:scope.kind=.function
 nd:N.Nodup
 len:N.length=own.length+ON.length
 lh:∀ y∈scope.names,y.2≠.cell
 loc:∀ y∈scope.names,y.2=.local->scope.names.lookup y.1=some .local
 free:∀ y∈scope.names,y.2=.free->osc.names.lookup y.1=some .cell\/osc.names.lookup y.1=some .free
 out:∀ p∈ON.zip (N.drop own.length),p.1=p.2\/scope.names.lookup p.2=none
 own:∀ x∈N.drop own.length,scope.names.lookup x≠some .local
theorem cI(x:Str)(hn:∀ y∈scope.names,y.2≠.cell):((relabel scope env).names.lookup x=some .local->scope.names.lookup x=some .local) /\
  ((relabel scope env).names.lookup x=some .cell\/(relabel scope env).names.lookup x=some .free->scope.names.lookup x=some .free):=by
 unfold relabel;simp only;revert hn;generalize scope.names=l;intro hn
 induction l with
 |nil=>simp
 |cons y r ih =>
  obtain⟨n,k⟩:=y;have ih:=ih fun y hy=>hn y (Ko _ hy);have hk:k≠.cell:=hn (n,k) Ky;rw[Kt];simp only;by_cases hc:(k == NameKind.free && env.scope.kind == ScopeKind.function && env.kindOf n == some NameKind.cell)=true
  ·rw[Kh hc,KR,KR];have hf:k=.free:=by
    simp only[KG] at hc
    simpa using hc.1.1
   split
   ·subst hf;simp
   ·exact ih
  ·rw[Kf hc,KR,KR];split
   ·constructor
    ·exact fun h=>h
    ·rintro (h|h)
     ·exact absurd (Option.some.inj h) hk
     ·exact h
   ·exact ih
noncomputable def EH(X:Cx)(ifs:List Expr)(t:TT):Prop:=
 ∀(pins:List (Addr×Obj)) (s:Shared) (σ:St) (H:Hp) (Q:Bool->Hp->Prop),Inv X pins σ H s->t σ H Q ->
  wpAny (model X.prog X.w) X.A (forIn ifs true fun c r=>if r=true then do let ok <- isTrue c X.env (eval c X.env);pure (ForInStep.yield ok) else pure (ForInStep.yield r)) (TP X pins σ Q) X.xe s
noncomputable def gP:TT:=fun _ H Q=>Q true H
theorem Ax:EH X [] gP:=fun _ _ _ H _ I h=>wpAny_tests_nil ⟨H,I,h⟩
theorem Ba{c:Expr}{t:TT}(h:PT X c t):EH X [c] t:=fun pins s σ H Q I hw=>wpAny_tests_one (h pins s σ H Q I hw)
theorem nu{A:Around}{R:Result->Shared->Prop}{target:Expr}{it acc:Value}(I:Nat->Shared->Prop)
  (turn:∀ n s,I n s->wpAny (model prog w) A (pyNext it) (fun r s₁=>match r with
   |none=>R (.ok .next) s₁
   |some v=>wpAny (model prog w) A (letOwnedTupleGo target it v) (fun _ s₁'=>wpAny (model prog w) A (assign target env v) (fun _ s₂ =>
     wpAny (model prog w) A (forIn ifs true fun c r=>if r=true then do let ok <- isTrue c env (eval c env);pure (ForInStep.yield ok) else pure (ForInStep.yield r)) (fun ok s₃ =>
      if ok=true then wpAny (model prog w) A (eval elt env) (fun x s₄ =>
       wpAny (model prog w) A (call (.builtin "list.append") [acc,x]) (fun _ s₅=>∃ m,m<n/\I m s₅) (fun _ _=>False) s₄) (fun _ _=>False) s₃
      else ∃ m,m<n/\I m s₃) (fun _ _=>False) s₂) (fun _ _=>False) s₁') (fun _ _=>False) s₁) (fun _ _=>False) s)
  (n:Nat) (h:I n s):codeAny (model prog w) A (.compLoop (.ListComp elt [⟨target,iter,ifs,0⟩] scope pos) 0 it acc env) R s:=by
 refine codeAny_loop rfl I (fun n s hI=>?_) n h;show wpAny _ A ((compTurn (.ListComp elt [⟨target,iter,ifs,0⟩] scope pos) 0 it acc env).onRaise (fun x=>do noteFrame x env;theTreesLotGoes x)) _ _ s
 refine wpAny_noted ?_;rw[compTurn_list];refine Kb (MG (Kb (Lh (turn n s hI) (fun r s₁ h₁=>?_) fun _ _ h'=>h'.elim)))
 cases r with
 |none=>exact Km h₁
 |some v =>
  refine Kb (Lh h₁ (fun _ s₁' h₁'=>?_) fun _ _ h'=>h'.elim);refine Kb (Lh h₁' (fun _ s₂ h₂=>Kb (Lh h₂ (fun ok s₃ h₃=>?_) fun _ _ h'=>h'.elim)) fun _ _ h'=>h'.elim)
  cases ok with
  |false=>exact Km ⟨rfl,h₃⟩
  |true =>
   exact Kb (Kb (Lh h₃ (fun x s₄ h₄=>Kb (Lh h₄ (fun _ s₅ h₅=>Km (Km ⟨rfl,h₅⟩)) fun _ _ h'=>h'.elim)) fun _ _ h'=>h'.elim))
noncomputable def j3(wi:TI)(k:Nat)(g:TG)(tc:TT)(te:TE):TE:=fun σ H Q=>wi σ H fun J H1=>∀ D,H1 D=none ->
 ∃ W:Nat->Nat->List V->St->Hp->Prop,(∃ m,W 0 m [] (List.replicate k none++σ) (upd H1 D (.lst [])))/\∀ i m ys σ' H',W i m ys σ' H'->H' D=some (.lst ys) /\
  ((J.stop i H'/\Q (.ref D) H')\/(J.go i H'/\ys.length<sizeLine/\∀ x H2,J.B7 i H' x H2->g x σ' H2 fun σ3 H3=>tc σ3 H3 fun b H4 =>
   if b=true then te σ3 H4 fun v H5=>H5 D=some (.lst ys)/\∃ m',m'<m/\W (i+1) m' (ys++[v]) σ3 (upd H5 D (.lst (ys++[v])))
   else ∃ m',m'<m/\W (i+1) m' ys σ3 H4))
theorem lZ{own:List Str}{g:TG}(S:cD osc ON scope own N)(hosc:X.env.scope=osc)(hON:X.N=ON)(hc:X.calm=true)(hi:PI X tg iter wi)
  (hg:∀ C s H fp,PG (aY X scope N C s H fp) tg g) (ht:∀ C s H fp,EH (aY X scope N C s H fp) ifs tc) (he:∀ C s H fp,PE (aY X scope N C s H fp) elt te)
      {Q:VK} (I:Inv X pins σ H s) (h:j3 wi own.length g tc te σ H Q) {RR:Value->Addr->Result->Shared->Prop}
  (fin:∀(D C:Addr) (H':Hp) (s':Shared) (m:Str->Option Value),Inv X pins σ H' s'->Q (.ref D) H'->H' C=none->X.s₀.heap.objs.size<=C->C≠X.env.locals->(∀ x c,X.env.cells.lookup x=some c->c≠C)->(∀ p∈X.pn++pins,p.1≠C) ->
   s'.heap.Ns C m->RR (.ref D) C (.ok .next) s') :
  wpAny (model X.prog X.w) X.A (eval iter X.env) (fun x s₁=>wpAny (model X.prog X.w) X.A (pyIter x) (fun it s₂=>wpAny (model X.prog X.w) X.A (newList []) (fun acc s₃ =>
   wpAny (model X.prog X.w) X.A (newFunctionEnv scope X.env.globals (eE X.env.cells scope.names []) [] X.env.qual none .none (some X.env)) (fun cenv s₄ =>
    codeAny (model X.prog X.w) X.A (.compStart (.ListComp elt [⟨tg,iter,ifs,0⟩] scope pos) 0 it acc {cenv with scope:=relabel scope X.env}) (RR acc cenv.locals) s₄) X.xe s₃) X.xe s₂) X.xe s₁) X.xe s:=by
 refine bM (hi pins s σ H _ I h) fun v s1 h1=>bM h1 fun itv s2 h2=>?_;obtain⟨it,fp,tn,J,H2,e,I2,T,st2,f2,q⟩:=h2;subst e;refine LU (wpAny_newFunctionEnv S.lh (by intro y hy;simp at hy) (fun h₁ hns₁ hsb₁=>?_) S.kind)
 dsimp only at hns₁ hsb₁ ⊢;have I3:Inv X pins σ (upd H2 s2.heap.objs.size (.lst [])) {s2 with heap:=s2.heap.push {cls:=.type "list",data:=.seq ([]:List Value).toArray},toks:=s2.toks}:=I2.CU (t':=s2.toks) .nil (Nat.zero_le _)
 have hD2:H2 s2.heap.objs.size=none:=I2.fresh;obtain⟨W,⟨m0,w0⟩,turn⟩:=q _ hD2;generalize hs3:({s2 with heap:=s2.heap.push {cls:=.type "list",data:=.seq ([]:List Value).toArray},toks:=s2.toks}:Shared)=s3 at I3
 have eh3:s3.heap=s2.heap.push {cls:=.type "list",data:=.seq ([]:List Value).toArray}:=by rw[<- hs3]
 generalize hD:s2.heap.objs.size=D at I3 turn w0 hD2 ⊢;generalize hH3:upd H2 D (.lst [])=H3 at I3 w0;rw[<- eh3] at hns₁ hsb₁ ⊢;have hC3:H3 s3.heap.objs.size=none:=I3.fresh;have hsz3:s3.heap.objs.size=D+1:=by rw[eh3,L9,hD]
 have fp2:∀ b∈fp,b<s2.heap.objs.size:=fun b hb=>by
  obtain⟨o,e,_⟩:=T.obj _ _ st2 b hb;exact Kl e
 have f3:∀ b∈fp,jS X pins H3 b:=fun b hb=>by
  obtain⟨g0,g1⟩:=f2 b hb;refine⟨?_,g1⟩;rw[<- hH3,ae (by rw[<- hD];exact Kz (fp2 b hb))]
  exact g0
 have neC:∀ b o,s3.heap.get? b=some o->b≠s3.heap.objs.size:=fun b o e=>Kz (Kl e);have old:∀ b o,s3.heap.get? b=some o->h₁.get? b=some o:=fun b o e=>hsb₁.extBut b o (neC b o e) (Ke _ e);have hk:=S.kind;have hfr:∀ y∈scope.names,y.2=.free->∃ c,X.env.cells.lookup y.1=some c:=fun y hy hf=>I3.ok.has _ (by subst hosc;exact S.free y hy hf)
 have sub:=jh (acc:=[]) hfr (by intro x c e;simp at e)
 have JB:∀ tk,Inv (aY X scope N s3.heap.objs.size s3 H3 fp) [] (List.replicate own.length none++σ) H3 {s3 with heap:=h₁,toks:=tk}:=fun tk=>by
  refine⟨⟨I3.ok.mod,S.kind,I3.ok.glob,I3.ok.blt,Kk _,fun x y c e1 e2=>I3.ok.inj x y c (sub x c e1) (sub y c e2),fun x hx=>?_,fun x c hf _=>(by cases hf),I3.ok.hd,I3.ok.frames,.inl rfl,fun b hb=>?_,I3.bs,Kj I3.ok.yT I3.sz,fun b o e hb=>?_,fun b hb hf=>?_,I3.stack,I3.sY,I3.ok.tabs.un I3.base⟩,
   rfl,I3.bare,Un.kept old,⟨_,hns₁,fun i x v e1 e2 e3=>?_⟩,fun x c e=>?_,hC3,fun x c e=>I3.fF x c (sub x c e),fun p hp=>absurd (show p∈([]:List (Addr×Obj)) from hp) (by simp),I3.aU.kept old,?_⟩
  ·have q:=(cI (env:=X.env) x S.lh).2 hx;exact gu (PySem.mem_of_lookup q)
  ·have hb:b∈fp:=hb;obtain⟨_,g1,g2,g3,g4,g5⟩:=f3 b hb;refine⟨?_,fun x c e=>g4 x c (sub x c e)⟩;have:=fp2 b hb;show b≠s3.heap.objs.size;rw[hsz3,<- hD];exact Kz (Nat.lt_succ_of_lt this)
  ·have hb:b∈fp:=hb;obtain⟨_,g1,g2,g3,g4,g5⟩:=f3 b hb;rcases g3 with g3|g3
   ·exact I3.ok.wF b o e g3
   ·exact absurd (Kr (Kl e) (Kj I3.ok.yT g3)) (Lg _)
  ·have hb:b∈fp:=hb;obtain⟨_,g1,g2,g3,g4,g5⟩:=f3 b hb;rcases Kn.mp (I3.nJ b hf) with z|z
   ·exact g1 z
   ·exact g2 z
  ·have hi:own.length<=i:=by
    rcases KU i own.length with hlt|hge
    ·rw[L6 (by simpa using hlt),LI] at e2
     split at e2<;>cases e2
    ·exact hge
   rw[LZ (by simpa using hi),K_] at e2
   have e1:N[own.length+(i-own.length)]?=some x:=by rw[Nat.add_sub_cancel' hi];exact e1
   have e1d:(N.drop own.length)[i-own.length]?=some x:=by rw[List.getElem?_drop];exact e1
   have nl:scope.names.lookup x≠some .local:=S.own x (KH e1d);have vis:scope.names.lookup x=some .free:=by
    rcases e3 with z|z
    ·exact absurd ((cI (env:=X.env) x S.lh).1 z) nl
    ·exact (cI (env:=X.env) x S.lh).2 z
   have hlen:=I3.len;have hlt:i-own.length<X.N.length:=by
    rw[<- hlen];exact (Ku.mp e2).1
   have hxN:X.N[i-own.length]?=some x:=by
    rw[Kd hlt];have mz:(X.N[i-own.length],x)∈ON.zip (N.drop own.length):=by
     rw[<- hON];refine KH (i:=i-own.length) ?_;rw[List.getElem?_zip_eq_some];exact⟨Kd hlt,e1d⟩
    rcases S.out _ mz with z|z
    ·exact K1 some z
    ·exact absurd z (by rw[vis];simp)
   have hko:X.env.scope.names.lookup x=some .cell\/X.env.scope.names.lookup x=some .free:=by subst hosc;exact S.free _ (PySem.mem_of_lookup vis) rfl
   obtain⟨m,hn,hl⟩:=I3.loc;have hv:ED X.env.scope x:=by
    rcases hko with z|z
    ·exact .inr (.inl z)
    ·exact .inr (.inr z)
   obtain⟨u,ru,lk⟩:=hl _ x v hxN e2 hv;refine⟨u,ru,.inr ⟨?_,?_⟩⟩
   ·rcases e3 with z|z
    ·exact absurd ((cI (env:=X.env) x S.lh).1 z) nl
    ·exact z
   ·rcases lk with ⟨k,_⟩|⟨_,c,ec,hcell⟩
    ·exfalso
     have k':X.env.scope.names.lookup x=some .local:=k;rcases hko with z|z
     ·rw[k'] at z;cases z
     ·rw[k'] at z;cases z
    ·obtain⟨c',ec'⟩:=gu (cells:=X.env.cells) (acc:=[]) (PySem.mem_of_lookup vis);have:=sub x c' ec';rw[ec] at this;cases this;obtain⟨o,ho,hd⟩:=hcell;exact⟨c,ec',o,old c o ho,hd⟩
  ·obtain⟨v,o,ho,hd⟩:=I3.cell x c (sub x c e);exact⟨v,o,old c o ho,hd⟩
  ·show (List.replicate own.length none++σ).length=N.length;rw[S.len,Kv,K_,I3.len,hON]
 have stat:∀{H':Hp},(∀ b∈fp,H' b=none)->∀ b∈fp,jS (aY X scope N s3.heap.objs.size s3 H3 fp) [] H' b:=fun {H'} hn b hb=>by
  obtain⟨_,g1,g2,g3,g4,g5⟩:=f3 b hb;refine⟨hn b hb,?_,fun hf=>?_,.inl hb,fun x c e=>g4 x c (sub x c e),fun p hp=>absurd (show p∈([]:List (Addr×Obj)) from hp) (by simp)⟩
  ·have:=fp2 b hb;show b≠s3.heap.objs.size;rw[hsz3,<- hD];exact Kz (Nat.lt_succ_of_lt this)
  ·rcases Kn.mp (I3.nJ b hf) with z|z
   ·exact g1 z
   ·exact g2 z
 have st4:tn 0 h₁:=T.keep _ _ _ st2 fun b hb o e=>old b o (by rw[eh3];exact Ke _ e)
 have loop:∀ s4:Shared,s4={s3 with heap:=h₁,toks:=s2.toks+([]:List (Str×Value)).length} ->
   codeAny (model X.prog X.w) X.A (.compLoop (.ListComp elt [⟨tg,iter,ifs,0⟩] scope pos) 0 (.ref it) (.ref D) (aY X scope N s3.heap.objs.size s3 H3 fp).env) (RR (.ref D) s3.heap.objs.size) s4:=by
  rintro s4 rfl;refine nu (fun n s'=>∃ i ys σ' H',Inv (aY X scope N s3.heap.objs.size s3 H3 fp) [] σ' H' s'/\tn i s'.heap/\(∀ b∈fp,H' b=none)/\W i n ys σ' H') ?_ m0 ⟨0,[],_,H3,JB _,st4,fun b hb=>(f3 b hb).1,w0⟩;rintro n s5 ⟨i,ys,σ5,H5,I5,st5,fr5,w5⟩;obtain⟨hD5,ways⟩:=turn i n ys σ5 H5 w5;rcases ways with ⟨stop,qn⟩|⟨go,hys,step⟩
  ·refine bM (T.done (aY X scope N s3.heap.objs.size s3 H3 fp) rfl rfl rfl hc i [] s5 σ5 H5 _ I5 (stat fr5) st5 stop) fun r s6 hq1=>?_;obtain⟨hr,I6⟩:=hq1;subst hr;obtain⟨m,hn,_⟩:=I6.loc;refine fin D _ H5 s6 m ?_ qn I6.free (Kj I3.sz (Kk _)) ?_ (fun x c e z=>?_) (fun p hp z=>?_) hn
   ·refine I3.GW (ch:=fp) I6.os I6.base I6.aU I6.bare fun b hb=>?_;obtain⟨_,g1,g2,g3,g4,g5⟩:=f3 b hb;exact⟨g3,g1,g4,g5⟩
   ·exact LA I3.lt
   ·obtain⟨v,o,ho,_⟩:=I3.cell x c e;exact absurd (Kl ho) (by rw[z];exact Lg _)
   ·exact absurd (Kl (I3.pin p hp).1) (by rw[z];exact Lg _)
  ·refine bM (T.item (aY X scope N s3.heap.objs.size s3 H3 fp) rfl rfl rfl hc i [] s5 σ5 H5 _ I5 (stat fr5) st5 go) fun r s6 hq2=>?_;obtain⟨u,hr,h6⟩:=hq2;subst hr;refine bM h6 fun _ s7 hq3=>?_;obtain⟨x,H7,I7,r7,y7,st7,fr7⟩:=hq3;have I7':=I7.pinned (stat fr7) (T.obj _ _ st7);have back:∀{σ8:St} {H8:Hp} {s8:Shared},Inv (aY X scope N s3.heap.objs.size s3 H3 fp) ([]++ko fp s7.heap) σ8 H8 s8->tn (i+1) s8.heap/\∀ b∈fp,H8 b=none:=fun {σ8 H8 s8} I8=>by
    refine⟨T.keep _ _ _ st7 fun b hb o e=>(I8.pin (b,o) (KA _ (KA _ (f9 hb e)))).1,fun b hb=>?_⟩;obtain⟨o,e,d⟩:=T.obj _ _ st7 b hb;exact (I8.pin (b,o) (KA _ (KA _ (f9 hb e)))).2.1
   refine bM (hg _ _ _ _ _ s7 σ5 H7 x u _ I7' r7 (step x H7 y7)) fun _ s8 hq4=>?_;obtain⟨σ8,H8,I8,q8⟩:=hq4;refine bM (ht _ _ _ _ _ s8 σ8 H8 _ I8 q8) fun ok s9 hq5=>?_;obtain⟨H9,I9,q9⟩:=hq5
   cases ok with
   |false =>
    rw[Kf (by simp)] at q9 ⊢
    obtain⟨m',hm,w9⟩:=q9;exact⟨m',hm,i+1,ys,σ8,H9,I9.gf,(back I9).1,(back I9).2,w9⟩
   |true =>
    rw[Kh rfl] at q9 ⊢;refine bM (he _ _ _ _ _ s9 σ8 H9 _ I9 q9) fun y s10 hq6=>?_;obtain⟨v10,H10,I10,r10,hD10,m',hm,w10⟩:=hq6;refine bM (fk _ s10 σ8 H10 (.ref D) [v10] (.ref D) [y] (fun r H11=>r=.aE/\H11=upd H10 D (.lst (ys++[v10]))) I10 rfl (.cons r10 .nil) ⟨D,ys,v10,rfl,rfl,hD10,hys,rfl,rfl⟩) fun _ s11 hq7=>?_;obtain⟨_,H11,I11,_,_,e11⟩:=hq7;subst e11;exact⟨m',hm,i+1,_,σ8,_,I11.gf,(back I11).1,(back I11).2,w10⟩
 have start:=codeAny_compStart_list (R:=RR (.ref D) s3.heap.objs.size) (loop _ rfl) (T.self X.A 0 _ _ _ st4 (loop _ rfl));subst hs3;exact start
theorem Al{own:List Str}{g:TG}(S:cD osc ON scope own N)(hosc:X.env.scope=osc)(hON:X.N=ON)(hc:X.calm=true)(hi:PI X tg iter wi)
  (hg:∀ C s H fp,PG (aY X scope N C s H fp) tg g) (ht:∀ C s H fp,EH (aY X scope N C s H fp) ifs tc) (he:∀ C s H fp,PE (aY X scope N C s H fp) elt te)
  (hs:autoParam (∀ x,foldedSetIterable iter X.env x=pure x) ℜ3) :
  PE X (.ListComp elt [⟨tg,iter,ifs,0⟩] scope pos) (j3 wi own.length g tc te):=by
 intro pins s σ H Q I h;have hfr:∀ y∈scope.names,y.2=.free->∃ c,X.env.cells.lookup y.1=some c:=fun y hy hf=>I.ok.has _ (by subst hosc;exact S.free y hy hf)
 rw[eval_ListComp];refine MP (use:=none) rfl hs (gK hfr) S.kind S.loc ?_;refine lZ S hosc hON hc hi hg ht he I h (RR:=fun acc C=>compPost (model X.prog X.w) X.A X.xe none (EP X pins σ Q) acc C) ?_;intro D C H' s' m I' q h1 h2 h3 h4 h5 hn;exact⟨m,hn,fun h'' hs''=>⟨.ref D,H',I'.turned (t':=s'.toks) (fun b o hb e=>(hs''.2 b hb).trans e) h1 h3 (.inr h2) h4 h5,rfl,q⟩⟩
theorem qI{own:List Str}{spos py:Pos}{g:TG}{y:Str}(hN:X.N.Nodup)(hj:X.N[j]?=some y)(hx:Loc X.env.scope y)(S:cD osc ON scope own N)(hosc:X.env.scope=osc)(hON:X.N=ON)(hc:X.calm=true)(hi:PI X tg iter wi)
  (hg:∀ C s H fp,PG (aY X scope N C s H fp) tg g) (ht:∀ C s H fp,EH (aY X scope N C s H fp) ifs tc) (he:∀ C s H fp,PE (aY X scope N C s H fp) elt te)
  (hsw:autoParam (swapsWith (.ListComp elt [⟨tg,iter,ifs,0⟩] scope pos) (some (.Name y py)) spos.line X.env=pure true) ℜ0)
  (hf:autoParam (X.fn y=true\/X.env.scope.names.lookup y=some .local) ℜ2)
  (hs:autoParam (∀ x,foldedSetIterable iter X.env x=pure x) ℜ3) :
  PS X (.Assign [.Name y py] (.ListComp elt [⟨tg,iter,ifs,0⟩] scope pos) spos) (lr (j3 wi own.length g tc te) (bJ j)):=by
 intro pins s σ H Dn I h;have hfr:∀ y∈scope.names,y.2=.free->∃ c,X.env.cells.lookup y.1=some c:=fun y hy hf=>I.ok.has _ (by subst hosc;exact S.free y hy hf)
 rw[exec_Assign_Name_used _ _ _ _ hsw];refine Kb (MG (Kb ?_));show wpAny _ X.A (do let _ <- comprehension (.ListComp elt [⟨tg,iter,ifs,0⟩] scope pos) scope X.env _ (newList []) false (eval iter X.env) (some (assign (.Name y py) X.env))) _ _ s
 refine Kb (Lh (MP (use:=some (assign (.Name y py) X.env)) (Q:=fun _ s'=>SP X pins Dn .next s') rfl hs (gK hfr) S.kind S.loc ?_) (fun _ s' hq=>Km (Km hq)) fun _ _ e=>e);refine lZ S hosc hON hc hi hg ht he I h (RR:=fun acc C=>compPost (model X.prog X.w) X.A X.xe (some (assign (.Name y py) X.env)) (fun _ s'=>SP X pins Dn .next s') acc C) ?_;intro D C H' s' m I' q h1 h2 h3 h4 h5 hn;show wpAny _ X.A (assign (.Name y py) X.env (.ref D)) _ _ _;refine wpAny_assign_Name (mE I' hN hj hx (v:=.ref D) rfl (fun s'' I'' hsb=>?_) hf);obtain⟨a,sb,ha⟩:=hsb;have nC:C≠a:=by
  rcases ha with ha|ha
  ·rw[ha];exact h3
  ·exact (h4 y a ha).symm
 exact⟨m,hn.sameBut sb nC,fun h'' hs''=>⟨_,H',I''.turned (t':=s''.toks) (fun b o hb e=>(hs''.2 b hb).trans e) h1 h3 (.inr h2) h4 h5,q⟩⟩
noncomputable def fo(e:Expr):Bool:=match e with
 |.Starred ..=>false
 |_=>true
theorem fH(h:fo e=true):starEach (e::es) env=(false,eval e env)::starEach es env:=by
 cases e<;>first|rfl|cases h
theorem plain_any:∀{es:List Expr},es.all fo=true->(backTo pos (starEach es env)).any (·.1)=false
 |[],_=>rfl
 |e::es,h=>by
  rw[KI,KG] at h;rw[fH h.1];show (false || (backTo pos (starEach es env)).any (·.1))=false;rw[plain_any h.2];rfl
theorem plain_all:∀{es:List Expr},es.all fo=true->(backTo pos (starEach es env)).all (fun x=>!x.1)=true
 |[],_=>rfl
 |e::es,h=>by
  rw[KI,KG] at h;rw[fH h.1];show (true && (backTo pos (starEach es env)).all (fun x=>!x.1))=true;rw[plain_all h.2];rfl
theorem E4{cpos:Pos}(h:(e::es).all fo=true)(hl:(e::es).length<30):
  ((backTo cpos (starEach (e::es) env)).all (fun x=>!x.1) && (backToKw cpos (keywordEach [] env)).all (fun x=>x.1.isSome) && decide ((e::es).length+([]:List Keyword).length+(if ([]:List Keyword).isEmpty then 0 else 1)<30))=true:=by
 rw[plain_all h];have e2:(backToKw cpos (keywordEach [] env)).all (fun x=>x.1.isSome)=true:=rfl;rw[e2];have e3:(e::es).length+([]:List Keyword).length+(if ([]:List Keyword).isEmpty then 0 else 1)<30:=hl
 rw[Lj e3];rfl
section
variable {X:Cx} {e:Expr} {es:List Expr} {te:TE} {t:TA}
theorem Jl(ha:PE X e te)(hr:PA X es t)(h:autoParam (fo e=true) ℜ0):PA X (e::es) (fW te t):=sN ha hr (fH h)
theorem Gj{id:String}{x:Str}{p:Pos}(hc:bp X (.builtin id) r)(hg:Gl X x)(hm:X.mg x=none)(hv:bootBuiltins x=some (.builtin id))(ha:PA X (e::es) t)(h1:autoParam (fo e=true) ℜ0)(h2:autoParam (es.all fo=true) ℜ0)(hn:autoParam (x≠"__name__") ℜ1)(hdb:autoParam ((x ==("__debug__":Str))=false) ℜ1):
  PE X (.Call (.Name x p) (e::es) [] pos) (xY r t):=wu hc hg hm hv ha hn hdb (fH h1) (plain_any h2)
theorem FZ{T:String}{x:Str}{p:Pos}(hc:bp X (.type T) r)(hg:Gl X x)(hm:X.mg x=none)(hv:bootBuiltins x=some (.type T))(ha:PA X (e::es) t)(h1:autoParam (fo e=true) ℜ0)(h2:autoParam (es.all fo=true) ℜ0)(hn:autoParam (x≠"__name__") ℜ1)(hdb:autoParam ((x ==("__debug__":Str))=false) ℜ1):
  PE X (.Call (.Name x p) (e::es) [] pos) (xY r t):=uN hc hg hm hv ha hn hdb (fH h1) (plain_any h2)
theorem CO{o:Expr}{to:TE}{cpos:Pos}{T id:String}{r:V->List V->Hp->VK->Prop}(pa:PlainAttrs T)(slot:Slot T name id)(hty:typeOf (.builtin id)=pure (.type "method_descriptor"))(hm:xm X id r)(ho:PE X o to)(ha:PA X (e::es) t)
  (hbase:attributeBase o name X.env (eval o X.env)=eval o X.env) (hline:(apos.endLine == cpos.line)=true) (h:(e::es).all fo=true) (hl:(e::es).length<30):PE X (.Call (.Attribute o name apos) (e::es) [] cpos) (EL X.K T r to t):=by
 have h':=h;rw[KI,KG] at h';exact Hf pa slot hty hm ho ha hbase (E4 h hl) hline (fH h'.1) (plain_any h'.2)
theorem pQ{a:Expr}{ta:TA}{p:Pos}(hg:Gl X "range")(hm:X.mg "range"=none)(ha:PA X [a] ta)(h:autoParam (fo a=true) ℜ0):PI X tg (.Call (.Name "range" p) [a] [] pos) (mq ta):=tT hg hm ha (fH h)
end
structure HasFn (K:Nv) (mg:Str->Option Value) (x:Str) (st:Stmt) (ps:List Str):Prop where
 ex:∃(f:Addr) (fd:FuncData),e7 K x x st f fd/\Binds K fd ps []/\mg x=some (.ref f)
structure ai (P:Program) (w:World) (K:Nv) (mg:Str->Option Value) (base:Heap) (CX:nU) (k:Nat) (x:Str) (ps:List Str) (sp:Sp):Prop where
 ex:∃(f:Addr) (fd:FuncData),mg x=some (.ref f)/\PySem.W.keepIn K (.ref f)=true/\Binds K fd ps []/\a_ P w K mg base CX k f fd ps sp
section
variable {P:Program} {w:World} {K:Nv} {mg:Str->Option Value} {base:Heap}
theorem HasFn.ok{x:Str}{ps:List Str}(F:HasFn K mg x st ps)(S:aj N ps (aa st))(len:∀ vs H Q E,sp vs H Q E->vs.length=ps.length)
  (hbody:∀(f:Addr) (cdv:Value) (A:Around) (outer:List Env) (s:Shared) (H:Hp) (vs:List V) (Q:VK) (E:XK),bP k (A.deeper (envOfC x (aa st) s.heap.objs.size f cdv))->sp vs H Q E ->
   ∃ t,qU (cF aN P w K mg base N x (aa st) f cdv A outer s H E).ig (aq st) t/\t {nx:=fun _ H'=>Q .aE H',rt:=Q} (start N vs) H):ai P w K mg base aN (k+1) x ps sp:=by
 obtain⟨f,fd,F1,b,m⟩:=F.ex;exact⟨f,fd,m,F1.kp,b,F1.ok S len fun cdv A outer s H vs Q E hr h=>hbody f cdv A outer s H vs Q E hr h⟩
end
section
variable {X:Cx} {CX:nU} {k:Nat} {ps:List Str} {sp:Sp} {E:XK} {x:Str} {p pos:Pos} {e:Expr} {es:List Expr} {t:TA}
theorem GQ(F:ai X.prog X.w X.K X.mg X.base CX k x ps sp)(hr:bP k X.A)(hg:Gl X x)(hx:Passes CX X E)(ha:PA X (e::es) t)(h1:autoParam (fo e=true) ℜ0)(h2:autoParam (es.all fo=true) ℜ0)(hdb:autoParam ((x ==("__debug__":Str))=false) ℜ1):
  PE X (.Call (.Name x p) (e::es) [] pos) (gL sp [] E t):=by
 obtain⟨f,fd,m,kp,b,G⟩:=F.ex;exact Bi G hr hg m kp b .nil hx ha hdb (fH h1) (plain_any h2)
end
noncomputable def DN:Expr->Option V
 |.Constant (.int i) _ _=>some (.int i)
 |.Constant (.str x) _ _=>some (.str x)
 |.Constant (.bool b) _ _=>some (.bl b)
 |.Constant .none _ _=>some .aE
 |_=>none
noncomputable def lK:List Expr->Option (List V)
 |[]=>some []
 |e::es=>match DN e,lK es with
  |some v,some vs=>some (v::vs)
  |_,_=>none
noncomputable def tK(vs:List V):TA:=fun _ H Q=>Q vs H
theorem Ex{v:V}(h:DN e=some v):PE X e (tC v)/\∀ es,starEach (e::es) X.env=(false,eval e X.env)::starEach es X.env:=by
 unfold DN at h
 split at h
 ·cases h;exact⟨yu,fun _=>rfl⟩
 ·cases h;exact⟨vX,fun _=>rfl⟩
 ·cases h;exact⟨BO,fun _=>rfl⟩
 ·cases h;exact⟨vN,fun _=>rfl⟩
 ·cases h
theorem mh{X:Cx}:∀{es:List Expr} {vs:List V},lK es=some vs->PA X es (tK vs)
 |[],vs,h=>by cases h;exact yy
 |e::es,vs,h=>by
  unfold lK at h
  split at h
  ·rename_i v ws e1 e2;cases h;have p:=Ex (X:=X) e1;exact sN (te:=tC v) (t:=tK ws) p.1 (mh e2) (p.2 es)
  ·cases h
noncomputable def sq(H:Hp)(p:Addr):Option (Bool×List V):=match H p with
 |some (.lst xs)=>some (true,xs)
 |some (.tup xs)=>some (false,xs)
 |some (.lQ _ (.lst xs))=>some (true,xs)
 |some (.lQ _ (.tup xs))=>some (false,xs)
 |_=>none
theorem h_(h:sq H p=some (true,xs)):bA K H p xs:=by
 unfold sq at h
 split at h
 ·rename_i e;cases h;exact .inl (.inl e)
 ·cases h
 ·rename_i e;cases h;exact .inl (.inr ⟨_,e⟩)
 ·cases h
 ·cases h
theorem iM(h:sq H p=some (false,xs)):bO K H p xs:=by
 unfold sq at h
 split at h
 ·cases h
 ·rename_i e;cases h;exact .inl (.inl e)
 ·cases h
 ·rename_i e;cases h;exact .inl (.inr ⟨_,e⟩)
 ·cases h
theorem bG(h:H p=some (.lst xs)):sq H p=some (true,xs):=by unfold sq;rw[h]
theorem cz(h:H p=some (.tup xs)):sq H p=some (false,xs):=by unfold sq;rw[h]
section
variable {X:Cx}
noncomputable def iA(K:Nv):R2:=fun x y H Q=>match x,y with
 |.int i,.int j=>Q (.int (i+j)) H
 |.str i,.str j=>i.length+j.length<=sizeLine/\Q (.str (i++j)) H
 |.ref a,.ref b=>match H a,H b with
  |some (.lst xs),some (.lst ys)=>xs.length+ys.length<=sizeLine/\∀ p,H p=none->Q (.ref p) (upd H p (.lst (xs++ys)))
  |some (.tup xs),some (.tup ys)=>xs≠[]/\ys≠[]/\xs.length+ys.length<=sizeLine/\∀ p,H p=none->Q (.ref p) (upd H p (.tup (xs++ys)))
  |_,_=>False
 |_,_=>False
theorem AH:cU X (binaryOp .Add) (iA X.K):=by
 intro pins s σ H x y v u Q I rx ry h
 cases x with
 |int i=>cases y with
  |int j=>exact yp pins s σ H _ _ v u Q I rx ry ⟨i,j,rfl,rfl,h⟩
  |_=>exact (show False from h).elim
 |str i=>cases y with
  |str j=>exact kG pins s σ H _ _ v u Q I rx ry ⟨i,j,rfl,rfl,h.1,h.2⟩
  |_=>exact (show False from h).elim
 |ref a=>cases y with
  |ref b =>
   unfold iA at h;simp only at h
   split at h
   ·rename_i xs ys e1 e2;exact wW pins s σ H _ _ v u Q I rx ry ⟨a,b,xs,ys,rfl,rfl,e1,e2,h.1,h.2⟩
   ·rename_i xs ys e1 e2;obtain⟨h1,h2,h3,h4⟩:=h;exact sf pins s σ H _ _ v u Q I rx ry ⟨a,b,xs,ys,rfl,rfl,bO.of e1,bO.of e2,h1,h3,fun z=>absurd z h2,fun _=>h4⟩
   ·exact h.elim
  |_=>exact (show False from h).elim
 |_=>exact (show False from h).elim
noncomputable def Cz:R2:=fun x y H Q=>match x,y with
 |.int i,.int j=>nN i j/\Q (.int (i*j)) H
 |.ref a,.int j=>FJ (.ref a) (.int j) H Q
 |_,_=>False
theorem zy:cU X (binaryOp .Mult) Cz:=by
 intro pins s σ H x y v u Q I rx ry h
 cases x with
 |int i=>cases y with
  |int j=>exact E8 pins s σ H _ _ v u Q I rx ry ⟨i,j,rfl,rfl,h.1,h.2⟩
  |_=>exact (show False from h).elim
 |ref a=>cases y with
  |int j=>exact DD pins s σ H _ _ v u Q I rx ry h
  |_=>exact (show False from h).elim
 |_=>exact (show False from h).elim
theorem bH:cU X (compareOp .Eq) Bo:=Bm
theorem yr:cU X (compareOp .NotEq) CV:=BI
noncomputable def EJ(K:Nv):R2:=fun x y H Q=>match x,y with
 |.str z,.int i=>z.length<=sizeLine/\(match c_ z.cps.toList i with|some c=>Q (.str ⟨#[c]⟩) H|none=>False)
 |.ref p,.int i=>match sq H p with
  |some (_,xs)=>(match c_ xs i with|some v=>Q v H|none=>False)
  |none=>∃ xs v,bO K H p xs/\c_ xs i=some v/\Q v H
 |_,_=>False
theorem JY(hu:k<cLine):rm X (EJ X.K):=by
 intro value slice pins s σ H x y v u Q I rx ry h hs;refine w_ value slice pins s σ H x y v u Q I rx ry ?_ hs
 cases x with
 |str z=>cases y with
  |int i =>
   obtain⟨hz,h⟩:=h
   split at h
   ·rename_i c e;exact .inr (.inr ⟨z,i,c,rfl,rfl,hz,e,h⟩)
   ·exact h.elim
  |_=>exact (show False from h).elim
 |ref p=>cases y with
  |int i =>
   unfold EJ at h;simp only at h
   split at h
   ·rename_i b xs e
    split at h
    ·rename_i w' e'
     cases b with
     |true=>exact .inl ⟨p,xs,i,w',rfl,rfl,h_ e,e',h⟩
     |false=>exact .inr (.inl ⟨p,xs,i,w',rfl,rfl,iM e,e',h⟩)
    ·exact h.elim
   ·obtain⟨xs,w',hq,e',h⟩:=h;exact .inr (.inl ⟨p,xs,i,w',rfl,rfl,hq,e',h⟩)
  |_=>exact (show False from h).elim
 |_=>exact (show False from h).elim
noncomputable def Ck(K:Nv):V->Option Int->Option Int->Hp->VK->Prop:=fun x lo hi H Q=>match x with
 |.ref p=>match sq H p with
  |some (true,xs)=>∀ q,H q=none->Q (.ref q) (upd H q (.lst (jG xs lo hi)))
  |some (false,xs)=>uO K (.ref p) lo hi H Q
  |none=>uO K (.ref p) lo hi H Q
 |_=>False
theorem zu:su X (Ck X.K):=by
 intro pins s σ H x v vl vu lo hi sl Q I rx hs pl pu h
 match x,h with
 |.ref p,h =>
  unfold Ck at h;simp only at h
  split at h
  ·rename_i xs e;exact rF pins s σ H _ v vl vu lo hi sl Q I rx hs pl pu ⟨p,xs,rfl,h_ e,h⟩
  ·exact pU pins s σ H _ v vl vu lo hi sl Q I rx hs pl pu h
  ·exact pU pins s σ H _ v vl vu lo hi sl Q I rx hs pl pu h
noncomputable def wR:V->V->V->Hp->(Hp->Prop)->Prop:=fun o i v H Q=>match o,i with
 |.ref p,.int k=>match H p with
  |some (.lst xs)=>(match mx xs.length k with|some j=>Q (upd H p (.lst (xs.set j v)))|none=>False)
  |_=>False
 |_,_=>False
theorem uset:Av X wR:=by
 intro pins s σ H o i v ov iv u Q I ro ri rv h
 cases o with
 |ref p=>cases i with
  |int k =>
   unfold wR at h;simp only at h
   split at h
   ·rename_i xs e
    split at h
    ·rename_i j e';exact set_list pins s σ H _ _ v ov iv u Q I ro ri rv ⟨p,xs,k,j,rfl,rfl,e,e',h⟩
    ·exact h.elim
   ·exact h.elim
  |_=>exact (show False from h).elim
 |_=>exact (show False from h).elim
noncomputable def zJ(K:Nv):List V->Hp->VK->Prop:=fun xs H Q=>match xs with
 |[.str y]=>y.length<=sizeLine/\Q (.int y.length) H
 |[.ref p]=>match sq H p with
  |some (_,ys)=>Q (.int ys.length) H
  |none=>∃ ys,bO K H p ys/\Q (.int ys.length) H
 |_=>False
theorem tN:bp X (.builtin "len") (zJ X.K):=by
 intro pins s σ H xs us Q I r h;rcases xs with _|⟨x,_|⟨y,xs⟩⟩
 ·exact (show False from h).elim
 rotate_left
 ·cases x<;>exact (show False from h).elim
 cases x with
 |str y=>exact ik pins s σ H _ us Q I r ⟨.str y,_,rfl,⟨h.1,rfl⟩,h.2⟩
 |ref p =>
  unfold zJ at h;simp only at h
  split at h
  ·rename_i b ys e;refine ik pins s σ H _ us Q I r ⟨.ref p,ys.length,rfl,?_,h⟩
   cases b with
   |true=>exact .inl ⟨ys,h_ e,rfl⟩
   |false=>exact .inr ⟨ys,iM e,rfl⟩
  ·obtain⟨ys,hq,h⟩:=h;exact ik pins s σ H _ us Q I r ⟨.ref p,ys.length,rfl,.inr ⟨ys,hq,rfl⟩,h⟩
 |_=>exact (show False from h).elim
noncomputable def HE:List V->Hp->VK->Prop:=fun xs H Q=>match xs with
 |[.int i,.int j]=>Q (.int (if j<i then j else i)) H
 |_=>False
theorem vd(hc:X.calm=true):bp X (.builtin "min") HE:=by
 intro pins s σ H xs us Q I r h;rcases xs with _|⟨x,_|⟨y,_|⟨z,xs⟩⟩⟩
 ·exact (show False from h).elim
 ·cases x<;>exact (show False from h).elim
 ·cases x with
  |int i=>cases y with
   |int j=>exact uf hc pins s σ H _ us Q I r ⟨i,j,rfl,h⟩
   |_=>exact (show False from h).elim
  |_=>exact (show False from h).elim
 ·cases x with
  |int i=>cases y<;>exact (show False from h).elim
  |_=>exact (show False from h).elim
noncomputable def eU(K:Nv):List V->Hp->VK->Prop:=fun xs H Q=>match xs with
 |[.ref p]=>match sq H p with
  |some (true,ys)=>∀ l,H l=none->Q (.ref l) (upd H l (.tup ys))
  |some (false,_)=>Q (.ref p) H
  |none=>∃ ys,bO K H p ys/\Q (.ref p) H
 |_=>False
theorem oZ:bp X (.type "tuple") (eU X.K):=by
 intro pins s σ H xs us Q I r h;rcases xs with _|⟨x,_|⟨y,xs⟩⟩
 ·exact (show False from h).elim
 rotate_left
 ·cases x<;>exact (show False from h).elim
 cases x with
 |ref p =>
  unfold eU at h;simp only at h
  split at h
  ·rename_i ys e;exact cZ pins s σ H _ us Q I r ⟨p,ys,rfl,.inl ⟨h_ e,h⟩⟩
  ·rename_i ys e;exact cZ pins s σ H _ us Q I r ⟨p,ys,rfl,.inr ⟨iM e,h⟩⟩
  ·obtain⟨ys,hq,h⟩:=h;exact cZ pins s σ H _ us Q I r ⟨p,ys,rfl,.inr ⟨hq,h⟩⟩
 |_=>exact (show False from h).elim
noncomputable def yW:List V->Hp->VK->Prop:=fun xs H Q=>match xs with
 |[.int i]=>Q (.int i) H
 |[.bl k]=>Q (.int (if k=true then 1 else 0)) H
 |_=>False
theorem jm:bp X (.type "int") yW:=by
 intro pins s σ H xs us Q I r h;rcases xs with _|⟨x,_|⟨y,ys⟩⟩
 ·exact (show False from h).elim
 ·cases x with
  |int i=>exact lT pins s σ H _ us Q I r (.inl ⟨i,rfl,h⟩)
  |bl k=>exact lT pins s σ H _ us Q I r (.inr ⟨k,rfl,h⟩)
  |_=>exact (show False from h).elim
 ·cases x<;>exact (show False from h).elim
noncomputable def yd:List V->Hp->VK->Prop:=fun xs H Q=>match xs with
 |[.int i]=>i.natAbs.log2<1920/\Q (.str (toString i)) H
 |[.str z]=>Q (.str z) H
 |_=>False
theorem bZ:bp X (.type "str") yd:=by
 intro pins s σ H xs us Q I r h
 match xs,h with
 |[.int i],h=>exact nD pins s σ H _ us Q I r ⟨i,rfl,h.1,h.2⟩
 |[.str z],h =>
  obtain⟨u,rfl,t,rfl⟩:=vals1 r;exact PySem.P.str_of_str ⟨.str z,H,I,⟨_,rfl⟩,h⟩
theorem tO(hc:X.calm=true):bp X (.builtin "sum") (fun xs H Q=>∃(p:Addr) (ns:List Int),xs=[.ref p]/\bA X.K H p (ns.map V.int)/\Q (.int ns.sum) H):=by
 intro pins s σ H xs us Q I r h;obtain⟨p,ns,rfl,hq,q⟩:=h;obtain⟨u,rfl,ru⟩:=vals1 r;cases ru;obtain⟨its,rv,pl,hz⟩:=I.list hq;have hi:=intsAre_of rv;obtain⟨xs,hx⟩:=hi.allInts.items;have hl':s.heap.IsList p (intItems xs):=by rw[<- hx];exact pl.isList
 refine sum_intListG (I.ok.hd hc) hl' fun h' tk t' hk=>?_;have e1:ns=xs.toList.map (·.1):=by rw[<- nums_intItems,<- hx];exact hi.numsOf.symm
 have e2:preSum (numAt xs) xs.size=ns.sum:=by rw[preSum_eq,K8 (by simp),e1]
 rw[e2];exact⟨.int ns.sum,H,I.kept hk,⟨_,rfl⟩,q⟩
noncomputable def BB(H:Hp):V->Option String
 |.aE=>some "NoneType"
 |.bl _=>some "bool"
 |.int _=>some "int"
 |.str _=>some "str"
 |.ref a=>match H a with
  |some (.lst _)=>some "list"
  |some (.tup _)=>some "tuple"
  |some (.dK _)=>some "dict"
  |_=>none
 |_=>none
theorem Cc{x:V}{t:String}(h:BB H x=some t):i3 K H x (.type t):=by
 unfold BB at h
 split at h
 ·cases h;exact .aE
 ·cases h;exact .bl _
 ·cases h;exact .int _
 ·cases h;exact .str _
 ·split at h
  ·rename_i e;cases h;exact .lst e
  ·rename_i e;cases h;exact .tup e
  ·rename_i e;cases h;exact .dK e
  ·cases h
 ·cases h
noncomputable def ke(t c:String):Bool:=decide (t=c) || (t == "bool" && c == "int")
theorem yg{t c:String}(ht:t∈["NoneType","bool","int","str","list","tuple","dict"])(hc:c∈["bool","int","str","list","tuple","dict"]):PySem.W.kitOne K (.type t) (.type c)=some (ke t c):=by
 simp only[Kn,K4,L3] at ht hc;rcases ht with rfl|rfl|rfl|rfl|rfl|rfl|rfl<;>rcases hc with rfl|rfl|rfl|rfl|rfl|rfl<;>rfl
theorem B_{x:V}{t:String}(h:BB H x=some t):t∈["NoneType","bool","int","str","list","tuple","dict"]:=by
 unfold BB at h
 split at h
 ·cases h;decide
 ·cases h;decide
 ·cases h;decide
 ·cases h;decide
 ·split at h
  ·cases h;decide
  ·cases h;decide
  ·cases h;decide
  ·cases h
 ·cases h
noncomputable def p8(K:Nv):List V->Hp->VK->Prop:=fun xs H Q=>match xs with
 |[x,.ty T]=>T∈["bool","int","str","list","tuple","dict"]/\match BB H x with
  |some t=>Q (.bl (ke t T)) H
  |none=>∃ t b,i3 K H x t/\PySem.W.kitOne K t (.type T)=some b/\Q (.bl b) H
 |_=>False
theorem uM:bp X (.builtin "isinstance") (p8 X.K):=by
 intro pins s σ H xs us Q I r h;rcases xs with _|⟨x,_|⟨y,_|⟨z,xs⟩⟩⟩
 ·exact (show False from h).elim
 ·exact (show False from h).elim
 rotate_left
 ·cases y<;>exact (show False from h).elim
 cases y with
 |ty T =>
  obtain⟨u,w',rfl,r1,r2⟩:=vals2 r;cases r2;obtain⟨hT,h⟩:=h
  split at h
  ·rename_i t e;exact lV I r1 (Cc e) (yg (B_ e) hT) fun tk=>⟨.bl _,H,I.tok _,rfl,h⟩
  ·obtain⟨t,b,ty,k,q⟩:=h;exact lV I r1 ty k fun tk=>⟨.bl b,H,I.tok _,rfl,q⟩
 |_=>exact (show False from h).elim
theorem Dj{x:Str}{T:String}(hg:Gl X x)(hm:X.mg x=none)(hv:bootBuiltins x=some (.type T))(hn:autoParam (x≠"__name__") ℜ1)(hd:autoParam ((x ==("__debug__":Str))=false) ℜ1):PE X (.Name x pos) (tC (.ty T)):=AA hg hm hv rfl hn hd
noncomputable def rJoin(K:Nv):V->List V->Hp->VK->Prop:=fun x vs H Q=>∃ z l ys,x=.str z/\vs=[.ref l]/\bA K H l (ys.map V.str)/\(ys.map (·.length)).sum+ys.length*z.length<=16777216/\Q (.str (Str.join z ys)) H
theorem kh:∀{ys:List Str} {us:List Value},Vals (ys.map V.str) us->StrsAre us ys
 |[],_,.nil=>.nil
 |y::ys,_,.cons r t=>by
  obtain⟨k,rfl⟩:=r;exact .cons y k (kh t)
theorem rP:xm X "str.join" (rJoin X.K):=by
 intro pins s σ H x xs v us Q I rx rs h;obtain⟨z,l,ys,rfl,rfl,hq,hz,q⟩:=h;obtain⟨t,rfl⟩:=rx;obtain⟨u,rfl,ru⟩:=vals1 rs;cases ru;obtain⟨its,rv,pl,_⟩:=I.list hq;refine join_list pl.isList (by simpa using kh rv) hz fun t' k=>?_
 have e:Txt.join z ys=Str.join z ys:=StrLaws.glued_eq_join z ys;rw[e];exact⟨.str _,H,I.tok _,⟨_,rfl⟩,q⟩
end
open AutoSeq1 (wpAny_loadPart')
section
variable {prog:Program} {w:World} {A:Around} {E:Value->Shared->Prop} {s:Shared}
theorem jH{l:Addr}{x:Value}(hit:s.heap.IsTupleIter it l i)(hl:s.heap.IsTuple l items)(hx:items[i]?=some x)
  (hQ:∀ h',h'.IsTupleIter it l (i+1)->Heap.SameBut it s.heap h'->Q x {s with heap:=h'}):wpAny (model prog w) A (Builtin.SmallTypes.nextOf (.ref it)) Q E s:=by
 obtain⟨o,ho,hc,hd⟩:=id hit;obtain⟨ol,hol,_,nl,hdl⟩:=hl;unfold Builtin.SmallTypes.nextOf;refine Kb (Lb (name:=Str.ofString "__next__") hit.typeIs L4 (LC L4 hit.typeIs M9 ?_ (M7 _)));show wpAny _ _ (field (.ref it) 0 >>= _) _ _ s;refine Kb (Lf ho hd (x:=.ref l) rfl ?_);show wpAny _ _ (if (Value.ref l == Value.none)=true then _ else _) _ _ s
 rw[Kf (show ¬ ((Value.ref l == Value.none)=true) from Ki)];show wpAny _ _ (field (.ref it) 1 >>= _) _ _ s;refine Kb (Lf ho hd (x:=.int i 0) rfl ?_);show wpAny _ _ (seqItems? (.ref l) >>= _) _ _ s;refine Kb (Lk hol hdl ?_);simp only[Lc,hx];refine Kb (wpAny_setField ho hd (by simp) (Km ⟨x,rfl,Km (hQ _ ?_ (Heap.SameBut.update ..))⟩))
 exact⟨_,Heap.get?_update_self _ ho (Obj.isFreed_of_fields (Obj.data_mapFields hd _)),(Obj.cls_mapFields ..).trans hc,by rw[Obj.data_mapFields hd];simp[rawInt]⟩
theorem j_{l:Addr}(hh:A.handled=none)(hit:s.heap.IsTupleIter it l i)(hl:s.heap.IsTuple l items)(hx:items[i]?=none)
  (hE:∀ h' e,Heap.ExtBut it s.heap h'->(∃ o,h'.get? e=some o/\o.cls=.type "StopIteration")->E (.ref e) {s with heap:=h'}):wpAny (model prog w) A (Builtin.SmallTypes.nextOf (.ref it)) Q E s:=by
 obtain⟨o,ho,hc,hd⟩:=id hit;obtain⟨ol,hol,_,nl,hdl⟩:=hl;unfold Builtin.SmallTypes.nextOf;refine Kb (Lb (name:=Str.ofString "__next__") hit.typeIs L4 (LC L4 hit.typeIs M9 ?_ (M7 _)));show wpAny _ _ (field (.ref it) 0 >>= _) _ _ s;refine Kb (Lf ho hd (x:=.ref l) rfl ?_);show wpAny _ _ (if (Value.ref l == Value.none)=true then _ else _) _ _ s
 rw[Kf (show ¬ ((Value.ref l == Value.none)=true) from Ki)];show wpAny _ _ (field (.ref it) 1 >>= _) _ _ s;refine Kb (Lf ho hd (x:=.int i 0) rfl ?_);show wpAny _ _ (seqItems? (.ref l) >>= _) _ _ s;refine Kb (Lk hol hdl ?_);simp only[Lc,hx];refine Kb (MK (Kb (wpAny_setField ho hd (by simp) ?_)))
 show wpAny _ _ (newExc (.type "StopIteration") [] >>= _) _ _ _;refine Kb ?_;simp only[newExc,newTuple];refine Kb (LU ?_ (by size_fits))
 refine Kb (m:=firstArgMember _ _) (wpAny_of_eq (a:=Value.none) (by first|rfl | (simp only[firstArgMember];rfl)) ?_)
 refine LU ?_ (by size_fits)
 simp only[raiseNew];refine Kb (wpAny_handled ?_)
 first|rw[show A.in1.handled=none from hh]|rw[hh]
 refine Kb (Km (wpAny_throw ?_));exact hE _ _ (((Heap.SameBut.update ..).extBut.push _).push _) ⟨_,Kq _ rfl,rfl⟩
theorem uu(hh:A.handled=none)(it l:Addr)(hne:l≠it)(items:Array Value):
  Draws prog w A it [it,l] items.size (fun i v=>items[i]?=some v) (fun i h=>h.IsTupleIter it l i/\h.IsTuple l items) where
 live:=fun _ _ st=>let ⟨o,ho,_⟩:=st.1;⟨o,ho⟩
 frame:=fun _ _ _ st hk=>⟨let ⟨o,e,r⟩:=st.1;⟨o,hk it (by simp) o e,r⟩,let ⟨o,e,r⟩:=st.2;⟨o,hk l (by simp) o e,r⟩⟩
 item:=fun i s Q E hi st hQ=>by
  refine jH st.1 st.2 (x:=items[i]) (by simp[hi]) fun h' hit' hs'=>?_
  exact hQ _ h' s.toks (by simp[hi]) ⟨hit',st.2.extBut hs'.extBut hne⟩ hs'
 done:=fun s Q E st hE=>j_ hh st.1 st.2 (by simp) hE
end
section
variable {X:Cx} {pins:List (Addr×Obj)} {σ:St} {H:Hp} {s:Shared} {h':Heap}
theorem Inv.turns{t':Nat}(I:Inv X pins σ H s)(hf:∀ b∈fp,jS X pins H b)(k:∀ b o,b∉fp->s.heap.get? b=some o->h'.get? b=some o):Inv X pins σ H {s with heap:=h',toks:=t'}:=by
 have nf:∀ b u,H b=some u->b∉fp:=fun b u e z=>by rw[(hf b z).1] at e;cases e
 refine I.step (g':=s.gens) (d':=s.drawn) (ch:=fp) (fun b hb=>?_) (fun b o _ _ hc e _=>k b o hc e) (fun b o _ _ hc e _=>⟨o.slots,k b o hc e⟩) (fun _ _ _ _ n=>n)
  (fun b o hc e=>⟨o,k b o hc e⟩) (fun _ _ e=>e) (fun _ _ _ e=>e) (fun b ps e=>⟨#[],by rw[e];simp⟩) (fun m hm=>?_) (fun b u e=>?_) I.bare
 ·obtain⟨_,g1,g2,g3,g4,g5⟩:=hf b hb;exact⟨g3,g1,g4,g5⟩
 ·obtain⟨o,es,ep,ho,r⟩:=hm;exact⟨o,es,ep,k _ o (fun z=>(hf _ z).2.1 rfl) ho,r⟩
 ·refine (I.aU b u e).oM (fun c v hc q=>k c v ?_ q) (fun _ q=>q) (fun _ _ q=>q) fun _ _ _ q=>q;rcases hc with z|z
  ·rw[z];exact nf b u e
  ·exact nf c _ z
theorem Inv.sH{t':Nat}(I:Inv X pins σ H s)(hf:∀ b∈fp,jS X pins H b)(hp:s.heap.objs.size<=p)(k:∀ b o,b∉fp->s.heap.get? b=some o->h'.get? b=some o)
  (new:bC X.prog X.w (upd H p o) h' p o):Inv X pins σ (upd H p o) {s with heap:=h',toks:=t'}:=by
 have nf:∀ b u,H b=some u->b∉fp:=fun b u e z=>by rw[(hf b z).1] at e;cases e
 have fr:H p=none:=I.aU.fresh hp;have np:∀ b u,H b=some u->b≠p:=fun b u e=>af e fr;have ne:∀ b o,s.heap.get? b=some o->b≠p:=fun b o e z=>by rw[z] at e;exact absurd (Kr (Kl e) hp) (Lg _)
 refine I.step (g':=s.gens) (d':=s.drawn) (ch:=fp) (fun b hb=>?_) (fun b o _ _ hc e _=>k b o hc e) (fun b o _ _ hc e _=>⟨o.slots,k b o hc e⟩) (fun b o _ e n=>by rw[ae (ne b o e)];exact n)
  (fun b o hc e=>⟨o,k b o hc e⟩) (fun b xs e=>by rw[ae (np b _ e)];exact e) (fun b o u e=>by rw[ae (np b _ e)];exact e) (fun b ps e=>⟨#[],by rw[ae (np b _ e),e];simp⟩) (fun m hm=>?_) (fun b u e=>?_) I.bare
 ·obtain⟨_,g1,g2,g3,g4,g5⟩:=hf b hb;exact⟨g3,g1,g4,g5⟩
 ·obtain⟨o,es,ep,ho,r⟩:=hm;exact⟨o,es,ep,k _ o (fun z=>(hf _ z).2.1 rfl) ho,r⟩
 ·by_cases hb:b=p
  ·subst hb;rw[ab] at e;cases e;exact new
  ·rw[ae hb] at e;refine (I.aU b u e).oM (fun c v hc q=>k c v ?_ q) (fun c q=>by rw[ae (np c _ q)];exact q) (fun c xs q=>by rw[ae (np c _ q)];exact q) fun c _ _ q=>by rw[ae (np c _ q)];exact q
   rcases hc with z|z
   ·rw[z];exact nf b u e
   ·exact nf c _ z
end
noncomputable def getL(K:Nv)(a:Addr):Nat->Hp->V->Prop:=fun i H x=>∃ xs,bA K H a xs/\xs[i]?=some x
noncomputable def Ju(K:Nv)(a:Addr):Nat->Hp->Prop:=fun i H=>∃ xs,bA K H a xs/\xs.length=i
section
variable {X:Cx} {es:List Expr} {tk:Nat} {tp:Pos}
noncomputable def uE(K:Nv)(tl:TE):TI:=fun σ H R=>tl σ H fun x H1=>match x with
 |.ref a=>match sq H1 a with
  |some (true,_)=>R (xN K a) H1
  |some (false,_)=>R (pT K a) H1
  |none=>(∃ xs,bO K H1 a xs)/\R (pT K a) H1
 |_=>False
theorem C4(hl:PE X l tl):PI X tg l (uE X.K tl):=by
 intro pins s σ H R I h;refine bM (hl pins s σ H _ I h) fun v s1 hq2=>?_;obtain⟨x,H1,I1,r1,q1⟩:=hq2;obtain⟨a,rfl,q⟩:∃ a,x=V.ref a/\(((∃ xs,bA X.K H1 a xs)/\R (xN X.K a) H1)\/((∃ xs,bO X.K H1 a xs)/\R (pT X.K a) H1)):=by
  match x,q1 with
  |.ref a,q1 =>
   simp only at q1
   split at q1
   ·rename_i xs e;exact⟨a,rfl,.inl ⟨⟨xs,h_ e⟩,q1⟩⟩
   ·rename_i xs e;exact⟨a,rfl,.inr ⟨⟨xs,iM e⟩,q1⟩⟩
   ·exact⟨a,rfl,.inr q1⟩
 cases r1;rcases q with ⟨⟨xs,hq⟩,q⟩|⟨⟨xs,hq⟩,q⟩
 ·obtain⟨its,rv,p,hz⟩:=I1.list hq;refine KY p.isList ?_;refine⟨s1.heap.objs.size,[s1.heap.objs.size],_,_,H1,rfl,I1.kept (t':=s1.toks) fun b o e=>Ke _ e,lW a _,⟨_,Kq _ rfl,rfl,rfl⟩,fun b hb=>?_,q⟩;have e:b=s1.heap.objs.size:=by simpa using hb
  subst e;exact I1.oq (Kk _) (I1.aU.fresh (Kk _))
 ·obtain⟨its,rv,p,hz⟩:=I1.tuple hq;refine Lx (show s1.heap.IsTuple a its.toArray from p) ?_;refine⟨s1.heap.objs.size,[s1.heap.objs.size],_,_,H1,rfl,I1.kept (t':=s1.toks) fun b o e=>Ke _ e,kz a _,⟨_,Kq _ rfl,rfl,rfl⟩,fun b hb=>?_,q⟩;have e:b=s1.heap.objs.size:=by simpa using hb
  subst e;exact I1.oq (Kk _) (I1.aU.fresh (Kk _))
end
noncomputable def Hb(J:It)(g:TG)(tb:TS)(D:Ends)(σ:St)(H:Hp):Prop:=∃ W:Nat->Nat->St->Hp->Prop,(∃ m,W 0 m σ H)/\∀ i m σ H,W i m σ H ->
 (J.stop i H/\D.nx σ H)\/(J.go i H/\∃ N:St->Hp->Prop,(∀ σ' H',N σ' H'->∃ m',m'<m/\W (i+1) m' σ' H')/\∀ x H',J.B7 i H x H'->g x σ H' fun σ2 H2=>tb {D with nx:=N,ct:=N,bk:=D.nx} σ2 H2)
theorem Ad(wi:TI)(g:TG)(tb:TS)(D:Ends)(σ:St)(H:Hp):Cq wi g tb D σ H=wi σ H fun J H1=>Hb J g tb D σ H1:=rfl
noncomputable def kr(J:It)(k:Nat)(g:TG)(tc:TT)(te:TE)(Q:VK)(σ:St)(H1:Hp):Prop:=∀ D,H1 D=none ->
 ∃ W:Nat->Nat->List V->St->Hp->Prop,(∃ m,W 0 m [] (List.replicate k none++σ) (upd H1 D (.lst [])))/\∀ i m ys σ' H',W i m ys σ' H'->H' D=some (.lst ys) /\
  ((J.stop i H'/\Q (.ref D) H')\/(J.go i H'/\ys.length<sizeLine/\∀ x H2,J.B7 i H' x H2->g x σ' H2 fun σ3 H3=>tc σ3 H3 fun b H4 =>
   if b=true then te σ3 H4 fun v H5=>H5 D=some (.lst ys)/\∃ m',m'<m/\W (i+1) m' (ys++[v]) σ3 (upd H5 D (.lst (ys++[v])))
   else ∃ m',m'<m/\W (i+1) m' ys σ3 H4))
theorem xb(wi:TI)(k:Nat)(g:TG)(tc:TT)(te:TE)(σ:St)(H:Hp)(Q:VK):j3 wi k g tc te σ H Q=wi σ H fun J H1=>kr J k g tc te Q σ H1:=rfl
section
variable {K:Nv} {g:TG} {tb:TS} {D:Ends} {σ:St} {H:Hp} {te:TE} {Q:VK}
theorem gY{lo:Int}(Pv:Nat->St->Hp->Prop)(h0:Pv 0 σ H)
  (hs:∀ i σ H,i<n->Pv i σ H->g (.int (lo+i)) σ H fun σ2 H2=>tb {D with nx:=Pv (i+1),ct:=Pv (i+1),bk:=D.nx} σ2 H2) (hd:∀ σ H,Pv n σ H->D.nx σ H):Hb (yF lo n) g tb D σ H:=ur Pv h0 hs hd
theorem fb(hn:xs.length<=sizeLine)(Pv:Addr->Nat->List V->Hp->Prop)(h0:∀ D,H D=none->Pv D 0 [] (upd H D (.lst [])))(hD:∀ D i ys H',Pv D i ys H'->H' D=some (.lst ys)/\ys.length=i)
  (hl:∀ D i ys H',Pv D i ys H'->bO K H' a xs)
  (hs:∀ D i ys H' x (R:VK),xs[i]?=some x->Pv D i ys H'->(∀ v H5,H5 D=some (.lst ys)->Pv D (i+1) (ys++[v]) (upd H5 D (.lst (ys++[v])))->R v H5)->te (some x::σ) H' R) (hd:∀ D ys H',Pv D xs.length ys H'->Q (.ref D) H') :
  kr (pT K a) 1 (bJ 0) gP te Q σ H:=by
 intro D hD0;refine⟨fun i m ys σ' H'=>m=xs.length-i/\i<=xs.length/\Pv D i ys H'/\∃ o,σ'=o::σ,⟨xs.length,by simp,K7 _,h0 D hD0,none,rfl⟩,?_⟩
 rintro i m ys σ' H' ⟨rfl,hi,p,o,rfl⟩;obtain⟨hDi,hly⟩:=hD _ _ _ _ p;have q:=hl _ _ _ _ p;refine⟨hDi,?_⟩;by_cases hlt:i<xs.length
 ·refine .inr ⟨⟨xs,xs[i],q,by simp[hlt]⟩,by lia,fun x H2 y=>?_⟩
  obtain⟨rfl,y⟩:=y;unfold bJ gP;dsimp only;rw[if_pos rfl];exact hs D i ys H2 x _ (y xs q) p fun v H5 q1 q2=>⟨q1,xs.length-(i+1),by lia,rfl,hlt,q2,_,rfl⟩
 ·have e:i=xs.length:=by lia
  subst e;exact .inl ⟨⟨xs,q,Kk _⟩,hd D ys H' p⟩
end
namespace Ap
theorem lE(i:Nat)(σ:St)(H:Hp)(Q:VK):L2.lE i σ H Q=∃ v,σ[i]?=some (some v)/\Q v H:=rfl
theorem tC(v:V)(σ:St)(H:Hp)(Q:VK):L2.tC v σ H Q=Q v H:=rfl
theorem vt(r:R2)(ta tb:TE)(σ:St)(H:Hp)(Q:VK):L2.vt r ta tb σ H Q=ta σ H fun x H1=>tb σ H1 fun y H2=>r x y H2 Q:=rfl
theorem lX(t:TE)(σ:St)(H:Hp)(Q:Bool->Hp->Prop):L2.lX t σ H Q=t σ H fun x H'=>∃ k,x=.bl k/\Q k H':=rfl
theorem FN(t:TT)(ta tb:TE)(σ:St)(H:Hp)(Q:VK):L2.FN t ta tb σ H Q=t σ H fun c H1=>if c=true then ta σ H1 Q else tb σ H1 Q:=rfl
theorem tQ(t u:TT)(σ:St)(H:Hp)(Q:Bool->Hp->Prop):L2.tQ t u σ H Q=t σ H fun c H1=>if c=true then u σ H1 Q else Q false H1:=rfl
theorem wI(t:TT)(σ:St)(H:Hp)(Q:Bool->Hp->Prop):L2.wI t σ H Q=t σ H fun c H1=>Q (!c) H1:=rfl
theorem pI(ta tb:TE)(σ:St)(H:Hp)(Q:VK):L2.pI ta tb σ H Q=ta σ H fun x H1=>∃ c,x=.bl c/\if c=true then tb σ H1 Q else Q (.bl false) H1:=rfl
theorem tK(vs:List V)(σ:St)(H:Hp)(Q:List V->Hp->Prop):L2.tK vs σ H Q=Q vs H:=rfl
theorem jo(σ:St)(H:Hp)(Q:List V->Hp->Prop):L2.jo σ H Q=Q [] H:=rfl
theorem fW(ta:TE)(tr:TA)(σ:St)(H:Hp)(Q:List V->Hp->Prop):L2.fW ta tr σ H Q=ta σ H fun x H1=>tr σ H1 fun xs H2=>Q (x::xs) H2:=rfl
theorem xC(t:TA)(σ:St)(H:Hp)(Q:VK):L2.xC t σ H Q=t σ H fun xs H1=>xs.length<=sizeLine/\∀ p,H1 p=none->Q (.ref p) (upd H1 p (.tup xs)):=rfl
theorem tD(t:TA)(σ:St)(H:Hp)(Q:VK):L2.tD t σ H Q=t σ H fun xs H1=>xs.length<=sizeLine/\∀ p,H1 p=none->Q (.ref p) (upd H1 p (.lst xs)):=rfl
theorem gL(sp:Sp)(dvs:List V)(E:XK)(t:TA)(σ:St)(H:Hp)(Q:VK):L2.gL sp dvs E t σ H Q=t σ H fun vs H1=>sp (vs++dvs) H1 Q E:=rfl
theorem xY(r:List V->Hp->VK->Prop)(t:TA)(σ:St)(H:Hp)(Q:VK):L2.xY r t σ H Q=t σ H fun vs H1=>r vs H1 Q:=rfl
theorem EL(K:Nv)(T:String)(r:V->List V->Hp->VK->Prop)(to:TE)(t:TA)(σ:St)(H:Hp)(Q:VK):L2.EL K T r to t σ H Q=to σ H fun x H1=>Jn K T x H1/\t σ H1 fun xs H2=>r x xs H2 Q:=rfl
theorem Fw(r:V->Option Int->Option Int->Hp->VK->Prop)(te:TE)(tl th:TO)(σ:St)(H:Hp)(Q:VK):L2.Fw r te tl th σ H Q=te σ H fun x H1=>tl σ H1 fun l H2=>th σ H2 fun u H3=>r x l u H3 Q:=rfl
theorem iy(σ:St)(H:Hp)(Q:Option Int->Hp->Prop):L2.iy σ H Q=Q none H:=rfl
theorem pF(t:TE)(σ:St)(H:Hp)(Q:Option Int->Hp->Prop):L2.pF t σ H Q=t σ H fun x H1=>∃ i,x=.int i/\Q (some i) H1:=rfl
theorem tW(t u:TS)(D:Ends)(σ:St)(H:Hp):L2.tW t u D σ H=t {D with nx:=u D} σ H:=rfl
theorem lr(te:TE)(g:TG)(D:Ends)(σ:St)(H:Hp):L2.lr te g D σ H=te σ H fun x H1=>g x σ H1 D.nx:=rfl
theorem bJ(i:Nat)(v:V)(σ:St)(H:Hp)(Q:St->Hp->Prop):L2.bJ i v σ H Q=Q (σ.set i (some v)) H:=rfl
theorem uL(to ti:TE)(t:wZ)(v:V)(σ:St)(H:Hp)(Q:St->Hp->Prop):L2.uL to ti t v σ H Q=to σ H fun o H1=>ti σ H1 fun i H2=>t o i v H2 fun H3=>Q σ H3:=rfl
theorem oF(K:Nv)(n:Nat)(t:rf)(v:V)(σ:St)(H:Hp)(Q:St->Hp->Prop):L2.oF K n t v σ H Q=∃ a xs,v=.ref a/\bO K H a xs/\xs.length=n/\t xs σ H Q:=rfl
theorem fR(t:TG)(u:rf)(v:V)(vs:List V)(σ:St)(H:Hp)(Q:St->Hp->Prop):L2.fR t u (v::vs) σ H Q=t v σ H fun σ' H'=>u vs σ' H' Q:=by
 refine propext ⟨fun hq1=>?_,fun h=>⟨v,vs,rfl,h⟩⟩;obtain⟨a,b,e,h⟩:=hq1
 cases e;exact h
theorem oX(σ:St)(H:Hp)(Q:St->Hp->Prop):L2.oX [] σ H Q=Q σ H:=propext ⟨fun h=>h.2,fun h=>⟨rfl,h⟩⟩
theorem xV(te:TE)(D:Ends)(σ:St)(H:Hp):L2.xV te D σ H=te σ H D.rt:=rfl
theorem nV(te:TE)(D:Ends)(σ:St)(H:Hp):L2.nV te D σ H=te σ H fun _ H1=>D.nx σ H1:=rfl
theorem vQ(c:TT)(t u:TS)(D:Ends)(σ:St)(H:Hp):L2.vQ c t u D σ H=c σ H fun b H1=>if b=true then t D σ H1 else u D σ H1:=rfl
theorem nY(D:Ends)(σ:St)(H:Hp):L2.nY D σ H=D.nx σ H:=rfl
theorem mq(ta:TA)(σ:St)(H:Hp)(R:It->Hp->Prop):L2.mq ta σ H R=ta σ H fun vs H1=>∃ j:Int,vs=[.int j]/\-(2^62)<=j/\j<2^62/\R (yF 0 j.toNat) H1:=rfl
theorem uE(K:Nv)(tl:TE)(σ:St)(H:Hp)(R:It->Hp->Prop):L2.uE K tl σ H R=tl σ H fun x H1=>match x with
 |.ref a=>match sq H1 a with
  |some (true,_)=>R (xN K a) H1
  |some (false,_)=>R (pT K a) H1
  |none=>(∃ xs,bO K H1 a xs)/\R (pT K a) H1
 |_=>False:=rfl
theorem rI(C:Int->Int->Prop)(g:Int->Int->V)(i j:Int)(H:Hp)(Q:VK):L2.rI C g (.int i) (.int j) H Q=(C i j/\Q (g i j) H):=by
 refine propext ⟨fun hq2=>?_,fun h=>⟨i,j,rfl,rfl,h⟩⟩;obtain⟨a,b,e1,e2,h⟩:=hq2
 cases e1;cases e2;exact h
theorem qT(g:Int->Int->V)(i j:Int)(H:Hp)(Q:VK):L2.qT g (.int i) (.int j) H Q=Q (g i j) H:=by
 refine propext ⟨fun hq3=>?_,fun h=>⟨i,j,rfl,rfl,h⟩⟩;obtain⟨a,b,e1,e2,h⟩:=hq3
 cases e1;cases e2;exact h
theorem BA(K:Nv)(i j:Int)(H:Hp)(Q:VK):iA K (.int i) (.int j) H Q=Q (.int (i+j)) H:=rfl
theorem kQ(K:Nv)(i j:Str)(H:Hp)(Q:VK):iA K (.str i) (.str j) H Q=(i.length+j.length<=sizeLine/\Q (.str (i++j)) H):=rfl
theorem Ar(i j:Int)(H:Hp)(Q:VK):Bo (.int i) (.int j) H Q=Q (.bl (decide (i=j))) H:=by
 have e:decide (V.int i=V.int j)=decide (i=j):=by rw[LD];constructor<;>intro h<;>(try cases h)<;>(try rw[h])<;>rfl
 unfold Bo;rw[e];exact propext ⟨fun h=>h.2,fun h=>⟨rfl,h⟩⟩
theorem uJ(i j:Str)(H:Hp)(Q:VK):Bo (.str i) (.str j) H Q=Q (.bl (decide (i=j))) H:=by
 have e:decide (V.str i=V.str j)=decide (i=j):=by rw[LD];constructor<;>intro h<;>(try cases h)<;>(try rw[h])<;>rfl
 unfold Bo;rw[e];exact propext ⟨fun h=>h.2,fun h=>⟨rfl,h⟩⟩
theorem Gy(i j:Int)(H:Hp)(Q:VK):CV (.int i) (.int j) H Q=Q (.bl (!decide (i=j))) H:=by
 have e:decide (V.int i=V.int j)=decide (i=j):=by rw[LD];constructor<;>intro h<;>(try cases h)<;>(try rw[h])<;>rfl
 unfold CV;rw[e];exact propext ⟨fun h=>h.2,fun h=>⟨rfl,h⟩⟩
theorem Jq(i j:Str)(H:Hp)(Q:VK):CV (.str i) (.str j) H Q=Q (.bl (!decide (i=j))) H:=by
 have e:decide (V.str i=V.str j)=decide (i=j):=by rw[LD];constructor<;>intro h<;>(try cases h)<;>(try rw[h])<;>rfl
 unfold CV;rw[e];exact propext ⟨fun h=>h.2,fun h=>⟨rfl,h⟩⟩
theorem FC(K:Nv)(b:Bool)(H:Hp)(k:Bool):tE K (.bl b) H k=(k=b):=rfl
theorem ID(K:Nv)(i:Int)(H:Hp)(k:Bool):tE K (.int i) H k=(k=(i != 0)):=rfl
end Ap
noncomputable def KB(ex:List Addr)(H H':Hp):Prop:=∀ b o,H b=some o->b∉ex->H' b=some o
theorem KB.refl(ex:List Addr)(H:Hp):KB ex H H:=fun _ _ e _=>e
theorem KB.trans{H2:Hp}(a:KB ex H H1)(b:KB ex H1 H2):KB ex H H2:=fun c o e n=>b c o (a c o e n) n
theorem KB.mono{ex':List Addr}(h:KB ex H H')(s:∀ b∈ex,b∈ex'):KB ex' H H':=fun b o e n=>h b o e fun z=>n (s b z)
theorem KB.all(h:KB [] H H'):KB ex H H':=h.mono (by simp)
theorem KB.new(h:H p=none):KB ex H (upd H p o):=fun b u e _=>by rw[ae (af e h)];exact e
theorem KB.set(h:p∈ex):KB ex H (upd H p o):=fun b u e n=>by rw[ae (fun (z:b=p)=>n (by rw[z];exact h))];exact e
theorem KB.free(h:KB ex H H'){b:Addr}(n:b∉ex)(e:H' b=none):H b=none:=by
 cases q:H b with
 |none=>rfl
 |some o=>rw[h b o q n] at e;cases e
theorem KB.Ik(h:KB ex H H')(n:a∉ex)(q:bA K H a xs):bA K H' a xs:=by
 rcases q with (q|⟨o,q⟩)|q
 ·exact .inl (.inl (h _ _ q n))
 ·exact .inl (.inr ⟨o,h _ _ q n⟩)
 ·exact .inr q
theorem Bh(x:α)(r:List α):c_ (x::r) 0=some x:=dA (j:=0) rfl
theorem zC(a x:α)(r:List α):c_ (a::x::r) 1=some x:=dA (j:=1) rfl
theorem FU(a b x:α)(r:List α):c_ (a::b::x::r) 2=some x:=dA (j:=2) rfl
theorem GF(a b c x:α)(r:List α):c_ (a::b::c::x::r) 3=some x:=dA (j:=3) rfl
theorem Et{i:Int}(h0:0<=i)(h:i<n):mx n i=some i.toNat:=by unfold mx;rw[Kh h0,Kh h]
namespace Ap
theorem fe(K:Nv)(p:Addr)(i:Int)(H:Hp)(Q:VK):EJ K (.ref p) (.int i) H Q=(match sq H p with
  |some (_,xs)=>(match c_ xs i with|some v=>Q v H|none=>False)
  |none=>∃ xs v,bO K H p xs/\c_ xs i=some v/\Q v H):=rfl
theorem setRef(p:Addr)(k:Int)(v:V)(H:Hp)(Q:Hp->Prop):wR (.ref p) (.int k) v H Q=(match H p with
  |some (.lst xs)=>(match mx xs.length k with|some j=>Q (upd H p (.lst (xs.set j v)))|none=>False)
  |_=>False):=rfl
theorem kB(K:Nv)(p:Addr)(H:Hp)(Q:VK):zJ K [.ref p] H Q=(match sq H p with
  |some (_,ys)=>Q (.int ys.length) H
  |none=>∃ ys,bO K H p ys/\Q (.int ys.length) H):=rfl
theorem Hh(i j:Int)(H:Hp)(Q:VK):HE [.int i,.int j] H Q=Q (.int (if j<i then j else i)) H:=rfl
theorem IK(k:Bool)(H:Hp)(Q:VK):yW [.bl k] H Q=Q (.int (if k=true then 1 else 0)) H:=rfl
theorem dm(i:Int)(H:Hp)(Q:VK):yd [.int i] H Q=(i.natAbs.log2<1920/\Q (.str (toString i)) H):=rfl
theorem kj(K:Nv)(p:Addr)(H:Hp)(Q:VK):eU K [.ref p] H Q=(match sq H p with
  |some (true,ys)=>∀ l,H l=none->Q (.ref l) (upd H l (.tup ys))
  |some (false,_)=>Q (.ref p) H
  |none=>∃ ys,bO K H p ys/\Q (.ref p) H):=rfl
theorem Gv(K:Nv)(p:Addr)(lo hi:Option Int)(H:Hp)(Q:VK):Ck K (.ref p) lo hi H Q=(match sq H p with
  |some (true,xs)=>∀ q,H q=none->Q (.ref q) (upd H q (.lst (jG xs lo hi)))
  |some (false,xs)=>uO K (.ref p) lo hi H Q
  |none=>uO K (.ref p) lo hi H Q):=rfl
theorem addRef(K:Nv)(a b:Addr)(H:Hp)(Q:VK):iA K (.ref a) (.ref b) H Q=(match H a,H b with
  |some (.lst xs),some (.lst ys)=>xs.length+ys.length<=sizeLine/\∀ p,H p=none->Q (.ref p) (upd H p (.lst (xs++ys)))
  |some (.tup xs),some (.tup ys)=>xs≠[]/\ys≠[]/\xs.length+ys.length<=sizeLine/\∀ p,H p=none->Q (.ref p) (upd H p (.tup (xs++ys)))
  |_,_=>False):=rfl
theorem DG(H:Hp)(p:Addr)(xs:List V):sq (upd H p (.lst xs)) p=some (true,xs):=bG ab
theorem yG(H:Hp)(p:Addr)(o:HO):upd H p o p=some o:=ab
end Ap
theorem aI{t u:TS}(h:∀ N,N=u D->t {D with nx:=N} σ H):tW t u D σ H:=h _ rfl
structure QE (X:Cx) (e:Expr) (t:TE):Prop where h:PE X e t
structure QT (X:Cx) (e:Expr) (t:TT):Prop where h:PT X e t
structure QW (X:Cx) (e:Expr) (t:TT):Prop where h:PW X e t
structure QA (X:Cx) (es:List Expr) (t:TA):Prop where h:PA X es t
structure QS (X:Cx) (st:Stmt) (t:TS):Prop where h:PS X st t
structure QB (X:Cx) (sts:List Stmt) (t:TS):Prop where h:qU X sts t
structure QI (X:Cx) (tg it:Expr) (t:TI):Prop where h:PI X tg it t
structure QG (X:Cx) (e:Expr) (t:TG):Prop where h:PG X e t
structure HG (X:Cx) (es:List Expr) (t:rf):Prop where h:EG X es t
structure QO (X:Cx) (e:Option Expr) (t:TO):Prop where h:PO X e t
structure EI (X:Cx) (es:List Expr) (t:TT):Prop where h:EH X es t
namespace Z
noncomputable def sim(b:Expr):Bool:=match b with
 |.Name .. |.Constant .. |.Call .. |.BinOp .. |.Subscript .. |.Attribute .. |.UnaryOp .. |.Compare .. |.IfExp ..=>true
 |_=>false
theorem JK{b:Expr}(h:sim b=true):sC b:=by
 cases b<;>first | (intro _ _;rfl)|cases h
noncomputable def HU(b:Expr):Bool:=match b with
 |.Name .. |.Call .. |.Subscript .. |.Attribute ..=>true
 |_=>false
theorem ptr{b:Expr}(h:HU b=true):∀ whole,isTrue b env whole=(do let v <- whole;standAt b.pos;holding [v] (truthy v)):=by
 cases b<;>first | (intro _;rfl)|cases h
noncomputable def EK(b:Expr):Bool:=match b with
 |.ListComp .. |.SetComp .. |.DictComp ..=>false
 |_=>true
theorem J7{b:Expr}{tg:Option Expr}{l:Nat}(h:EK b=true):swapsWith b tg l env=pure false:=by
 cases b<;>first|rfl|cases h
section
variable {X:Cx}
theorem cf(K:Nv)(hK:X.K=K):cU X (binaryOp .Add) (iA K):=by subst hK;exact AH
theorem eS(K:Nv)(hK:X.K=K)(hu:k<cLine):rm X (EJ K):=by subst hK;exact JY hu
theorem zU(K:Nv)(hK:X.K=K):su X (Ck K):=by subst hK;exact zu
theorem jW(K:Nv)(hK:X.K=K):bp X (.builtin "len") (zJ K):=by subst hK;exact tN
theorem Ci(K:Nv)(hK:X.K=K):bp X (.builtin "len") (fun xs H Q=>∃ x n,xs=[x]/\FE K x H n/\Q (.int n) H):=by subst hK;exact ik
theorem Ff(K:Nv)(hK:X.K=K):bp X (.builtin "isinstance") (p8 K):=by subst hK;exact uM
theorem ie(K:Nv)(hK:X.K=K):bp X (.type "tuple") (eU K):=by subst hK;exact oZ
theorem yn(K:Nv)(hK:X.K=K):xm X "str.join" (rJoin K):=by subst hK;exact rP
end
section
variable {X:Cx} {a b c e o:Expr} {es:List Expr} {ta tb tc te to:TE} {t:TA} {pos p p2:Pos} {tA tB':TT} {rest:List Expr} {x:Str}
theorem int{i:Int}:QE X (.Constant (.int i) j pos) (tC (.int i)):=⟨yu⟩
theorem bl{i:Bool}:QE X (.Constant (.bool i) j pos) (tC (.bl i)):=⟨BO⟩
theorem aE:QE X (.Constant .none j pos) (tC .aE):=⟨vN⟩
theorem str{i:Str}:QE X (.Constant (.str i) j pos) (tC (.str i)):=⟨vX⟩
theorem v(i:Nat)(hN:autoParam (X.N[i]?=some x) ℜ0)(hv:autoParam (ED X.env.scope x) ℜ4)(hd:autoParam ((x ==("__debug__":Str))=false) ℜ1)
  (hcd:autoParam ((x ==("__classdict__":Str))=false) ℜ1):QE X (.Name x pos) (lE i):=⟨pv i hN hv hd hcd⟩
theorem glob{w:V}{u:Value}(hg:Gl X x)(hm:X.mg x=some u)(r:RelV w u)(hd:autoParam ((x ==("__debug__":Str))=false) ℜ1):QE X (.Name x pos) (tC w):=⟨nq hg hm r hd⟩
theorem op{o:Operator}{r:R2}(ho:cU X (binaryOp o) r)(ha:QE X a ta)(hb:QE X b tb):QE X (.BinOp a o b pos) (vt r ta tb):=⟨Hx ho ha.h hb.h⟩
theorem un{o:UnaryOp}{r:V->Hp->VK->Prop}(ho:HM X (unaryOp o) r)(ha:QE X a ta):QE X (.UnaryOp o a pos) (J5 r ta):=⟨Fo ho ha.h⟩
theorem cmp{o:CmpOp}{r:R2}(ho:cU X (compareOp o) r)(ha:QE X a ta)(hb:QE X b tb)(hm:autoParam (behindInMarks o b=false) ℜ0):QE X (.Compare a [o] [b] pos) (vt r ta tb):=⟨AM ho ha.h hb.h hm⟩
theorem and(ha:QE X a ta)(hb:QE X (.BoolOp .And (b::rest) pos) tb):QE X (.BoolOp .And (a::b::rest) pos) (pI ta tb):=⟨DC ha.h hb.h⟩
theorem or(ha:QE X a ta)(hb:QE X (.BoolOp .Or (b::rest) pos) tb):QE X (.BoolOp .Or (a::b::rest) pos) (GU ta tb):=⟨Ho ha.h hb.h⟩
theorem one{o:BoolOp}(ha:QE X a ta):QE X (.BoolOp o [a] pos) ta:=⟨DM ha.h⟩
theorem not(ha:QE X a ta):QE X (.UnaryOp .Not a pos) (B6 ta):=⟨C8 ha.h⟩
theorem wB(hc:QT X c tA)(ha:QE X a ta)(hb:QE X b tb):QE X (.IfExp c a b pos) (FN tA ta tb):=⟨vM hc.h ha.h hb.h⟩
theorem slice{r:V->Option Int->Option Int->Hp->VK->Prop}{tl th:TO}(hr:su X r)(he:QE X e te)(hl:QO X lo tl)(hu:QO X hi th):QE X (.Subscript e (.Slice lo hi none p2) pos) (Fw r te tl th):=⟨wa hr he.h hl.h hu.h⟩
theorem nT:QO X none iy:=⟨zS⟩
theorem oG(he:QE X e te):QO X (some e) (pF te):=⟨As he.h⟩
theorem ix{r:R2}(hr:rm X r)(ha:QE X a ta)(hb:QE X b tb)(hs:autoParam (sim b=true) ℜ0):QE X (.Subscript a b pos) (vt r ta tb):=⟨ES hr ha.h hb.h (JK hs)⟩
theorem tup(h:QA X es t):QE X (.Tuple es k pos) (xC t):=⟨Df h.h⟩
theorem lst(h:QA X es t):QE X (.List es pos) (tD t):=⟨DA h.h⟩
theorem nil:QA X [] jo:=⟨yy⟩
theorem cons(ha:QE X e te)(hr:QA X es t)(h:autoParam (fo e=true) ℜ0):QA X (e::es) (fW te t):=⟨Jl ha.h hr.h h⟩
theorem consts{vs:List V}(h:lK es=some vs):QA X es (tK vs):=⟨mh h⟩
theorem cb{id:String}(hc:bp X (.builtin id) r)(hg:Gl X x)(hm:X.mg x=none)(hv:bootBuiltins x=some (.builtin id))(ha:QA X (e::es) t)(h1:autoParam (fo e=true) ℜ0)(h2:autoParam (es.all fo=true) ℜ0)(hn:autoParam (x≠"__name__") ℜ1)(hdb:autoParam ((x ==("__debug__":Str))=false) ℜ1):
  QE X (.Call (.Name x p) (e::es) [] pos) (xY r t):=⟨Gj hc hg hm hv ha.h h1 h2 hn hdb⟩
theorem ct{T:String}(hc:bp X (.type T) r)(hg:Gl X x)(hm:X.mg x=none)(hv:bootBuiltins x=some (.type T))(ha:QA X (e::es) t)(h1:autoParam (fo e=true) ℜ0)(h2:autoParam (es.all fo=true) ℜ0)(hn:autoParam (x≠"__name__") ℜ1)(hdb:autoParam ((x ==("__debug__":Str))=false) ℜ1):
  QE X (.Call (.Name x p) (e::es) [] pos) (xY r t):=⟨FZ hc hg hm hv ha.h h1 h2 hn hdb⟩
theorem JW{T:String}(hg:Gl X x)(hm:X.mg x=none)(hv:bootBuiltins x=some (.type T))(hn:autoParam (x≠"__name__") ℜ1)(hd:autoParam ((x ==("__debug__":Str))=false) ℜ1):QE X (.Name x pos) (tC (.ty T)):=⟨Dj hg hm hv hn hd⟩
theorem fn{CX:nU}{ps:List Str}{E:XK}(F:ai X.prog X.w X.K X.mg X.base CX k x ps sp)(hr:bP k X.A)(hg:Gl X x)(hx:Passes CX X E)(ha:QA X (e::es) t)(h1:autoParam (fo e=true) ℜ0)(h2:autoParam (es.all fo=true) ℜ0)(hdb:autoParam ((x ==("__debug__":Str))=false) ℜ1):
  QE X (.Call (.Name x p) (e::es) [] pos) (gL sp [] E t):=⟨GQ F hr hg hx ha.h h1 h2 hdb⟩
theorem bm(K:Nv)(hK:X.K=K){T id:String}{r:V->List V->Hp->VK->Prop}(pa:PlainAttrs T)(slot:Slot T name id)(hty:typeOf (.builtin id)=pure (.type "method_descriptor"))(hm:xm X id r)(ho:QE X o to)(ha:QA X (e::es) t)
  (hbase:autoParam (attributeBase o name X.env (eval o X.env)=eval o X.env) ℜ0) (hline:autoParam ((apos.endLine == pos.line)=true) ℜ0) (h:autoParam ((e::es).all fo=true) ℜ0) (hl:autoParam ((e::es).length<30) ℜ1):QE X (.Call (.Attribute o name apos) (e::es) [] pos) (EL K T r to t):=by
 subst hK;exact⟨CO pa slot hty hm ho.h ha.h hbase hline h hl⟩
theorem comp{own:List Str}{g:TG}{tc:TT}(S:cD osc ON scope own N)(hosc:X.env.scope=osc)(hON:X.N=ON)(hc:X.calm=true)(hi:QI X tg iter wi)
  (hg:∀ C s H fp,QG (aY X scope N C s H fp) tg g) (ht:∀ C s H fp,EI (aY X scope N C s H fp) ifs tc) (he:∀ C s H fp,QE (aY X scope N C s H fp) elt te) (hs:autoParam (∀ x,foldedSetIterable iter X.env x=pure x) ℜ3) :
  QE X (.ListComp elt [⟨tg,iter,ifs,0⟩] scope pos) (j3 wi own.length g tc te):=⟨Al S hosc hON hc hi.h (fun C s H fp=>(hg C s H fp).h) (fun C s H fp=>(ht C s H fp).h) (fun C s H fp=>(he C s H fp).h) hs⟩
theorem aZ{o:CmpOp}{r:R2}(ho:cU X (compareOp o) r)(ha:QE X a ta)(hb:QE X b tb)(hm:autoParam (behindInMarks o b=false) ℜ0):QT X (.Compare a [o] [b] pos) (lX (vt r ta tb)):=⟨zj ho ha.h hb.h hm⟩
theorem tw(h:QW X e tA):QT X e tA:=⟨h.h.pt⟩
theorem qO(ha:QT X a tA):QT X (.UnaryOp .Not a pos) (wI tA):=⟨Dy ha.h⟩
noncomputable def AF(K:Nv)(ta:TE):TT:=fun σ H Q=>ta σ H fun x H'=>∃ k,tE K x H' k/\Q k H'
theorem wU(K:Nv)(hK:X.K=K)(ha:QE X a ta)(he:autoParam (HU a=true) ℜ0):QT X a (AF K ta):=by subst hK;exact⟨xp ha.h (ptr he)⟩
theorem n_(ha:QT X a tA):QW X (.BoolOp .And [a] pos) tA:=⟨yO ha.h⟩
theorem mL(ha:QT X a tA):QW X (.BoolOp .Or [a] pos) tA:=⟨C3 ha.h⟩
theorem wC(ha:QT X a tA)(hb:QW X (.BoolOp .And (b::rest) pos) tB'):QW X (.BoolOp .And (a::b::rest) pos) (tQ tA tB'):=⟨Cg ha.h hb.h⟩
theorem zY(ha:QT X a tA)(hb:QW X (.BoolOp .Or (b::rest) pos) tB'):QW X (.BoolOp .Or (a::b::rest) pos) (Iz tA tB'):=⟨GB ha.h hb.h⟩
theorem bB(hN:X.N.Nodup)(hi:X.N[i]?=some x)(hx:Loc X.env.scope x)(hf:autoParam (X.fn x=true\/X.env.scope.names.lookup x=some .local) ℜ2):QG X (.Name x pos) (bJ i):=⟨Bg hN hi hx hf⟩
theorem xo(K:Nv)(hK:X.K=K){tg:rf}(hc:X.calm=true)(h:HG X es tg)(hn:autoParam ((assignEach es X.env).length=n) ℜ0)(hst:autoParam ((assignEach es X.env).findIdx? (·.1)=none) ℜ0):QG X (.Tuple es k pos) (oF K n tg):=by subst hK;exact⟨xO hc h.h hn hst⟩
theorem mi:HG X [] oX:=⟨Af⟩
theorem d6{g:TG}{u:rf}(h1:QG X e g)(h2:HG X es u)(hs:autoParam ((assignEach (e::es) X.env).map (·.2)=assign e X.env::(assignEach es X.env).map (·.2)) ℜ0):HG X (e::es) (fR g u):=⟨xr h1.h h2.h hs⟩
theorem vV{i:Expr}{ti:TE}(ho:QE X o to)(hi:QE X i ti)
  (ha:autoParam (∀ v,assign (.Subscript o i pos) X.env v=(do
   let ov <- holding [v] (eval o X.env)
   let iv <- holding [v,ov] (eval i X.env)
   standAt pos
   holding [v,ov,iv] (setItem ov iv v)
   release [v,ov,iv] [])) ℜ3):QG X (.Subscript o i pos) (uL to ti wR):=⟨xI ho.h hi.h uset ha⟩
theorem uY{ta:TA}(hg:Gl X "range")(hm:X.mg "range"=none)(ha:QA X [a] ta)(h:autoParam (fo a=true) ℜ0):QI X tg (.Call (.Name "range" p) [a] [] pos) (mq ta):=⟨pQ hg hm ha.h h⟩
theorem any(K:Nv)(hK:X.K=K)(hl:QE X l tl):QI X tg l (uE K tl):=by subst hK;exact⟨C4 hl.h⟩
theorem nW:EI X [] gP:=⟨Ax⟩
theorem Jj(h:QT X c tA):EI X [c] tA:=⟨Ba h.h⟩
end
section
variable {X:Cx} {e o tg:Expr} {te to:TE} {st:Stmt} {sts xs ys:List Stmt} {t u:TS} {pos pos':Pos} {x:Str}
theorem bL:QB X [] nY:=⟨Aj⟩
theorem az(h:QS X st t):QB X [st] t:=⟨yR h.h⟩
theorem ah(h:QS X st t)(h2:QB X sts u):QB X (st::sts) (tW t u):=⟨vU h.h h2.h⟩
theorem set(hN:X.N.Nodup)(hi:X.N[i]?=some x)(hx:Loc X.env.scope x)(he:QE X e te)(hs:autoParam (EK e=true) ℜ0)(hf:autoParam (X.fn x=true\/X.env.scope.names.lookup x=some .local) ℜ2):
  QS X (.Assign [.Name x pos'] e pos) (lr te (bJ i)):=⟨Ej hN hi hx he.h (J7 hs) hf⟩
theorem setC{own:List Str}{p2:Pos}{g:TG}(hN:X.N.Nodup)(hj:X.N[j]?=some x)(hx:Loc X.env.scope x)(S:cD osc ON scope own N)(hosc:X.env.scope=osc)(hON:X.N=ON)(hc:X.calm=true)(hi:QI X tg iter wi)
  (hg:∀ C s H fp,QG (aY X scope N C s H fp) tg g) (ht:∀ C s H fp,EI (aY X scope N C s H fp) ifs tc) (he:∀ C s H fp,QE (aY X scope N C s H fp) elt te)
  (hsw:autoParam (swapsWith (.ListComp elt [⟨tg,iter,ifs,0⟩] scope p2) (some (.Name x pos')) pos.line X.env=pure true) ℜ0)
  (hf:autoParam (X.fn x=true\/X.env.scope.names.lookup x=some .local) ℜ2) (hs:autoParam (∀ x,foldedSetIterable iter X.env x=pure x) ℜ3) :
  QS X (.Assign [.Name x pos'] (.ListComp elt [⟨tg,iter,ifs,0⟩] scope p2) pos) (lr (j3 wi own.length g tc te) (bJ j)):=⟨qI hN hj hx S hosc hON hc hi.h (fun C s H fp=>(hg C s H fp).h) (fun C s H fp=>(ht C s H fp).h) (fun C s H fp=>(he C s H fp).h) hsw hf hs⟩
theorem asg{g:TG}(he:QE X e te)(hg:QG X tg g)(hs:autoParam (swapsWithSole [tg] e pos.line X.env=pure false) ℜ0)(hw:autoParam (swappedStores [tg] e X.env=pure none) ℜ0)
  (h1:autoParam ((assignEach [tg] X.env).map (·.2)=[assign tg X.env]) ℜ0):QS X (.Assign [tg] e pos) (lr te g):=⟨C2 he.h hg.h hs hw h1⟩
theorem ret(he:QE X e te):QS X (.Return (some e) pos) (xV te):=⟨Dh he.h⟩
theorem expr(he:QE X e te)(hs:autoParam (EK e=true) ℜ0):QS X (.Expr e pos) (nV te):=⟨zM he.h (J7 hs)⟩
theorem dJ{c:Expr}(hc:QT X c tc)(ha:QB X xs t)(hb:QB X ys u):QS X (.If c xs ys pos) (vQ tc t u):=⟨Fl hc.h ha.h hb.h⟩
theorem qD{g:TG}(hp:PassesOwn (model X.prog X.w) X.A X.env X.xe)(hc:X.calm=true)(hi:QI X tg iter wi)(hg:QG X tg g)(hb:QB X xs t)(hs:autoParam (∀ x,foldedSetIterable iter X.env x=pure x) ℜ3):QS X (.For tg iter xs [] pos) (Cq wi g t):=⟨DO hp hc hi.h hg.h hb.h hs⟩
theorem DK{c:Expr}(hp:PassesOwn (model X.prog X.w) X.A X.env X.xe)(hc:QT X c tc)(hb:QB X xs t):QS X (.While c xs [] pos) (xy tc t):=⟨xX hp hc.h hb.h⟩
end
end Z
namespace Ap
theorem AF(K:Nv)(ta:TE)(σ:St)(H:Hp)(Q:Bool->Hp->Prop):L2.Z.AF K ta σ H Q=ta σ H fun x H'=>∃ k,tE K x H' k/\Q k H':=rfl
end Ap
theorem HasFn.Ic{x:Str}{ps:List Str}(F:HasFn K mg x st ps)(S:aj N ps (aa st))(len:∀ vs H Q E,sp vs H Q E->vs.length=ps.length)
  (hbody:∀(f:Addr) (cdv:Value) (A:Around) (outer:List Env) (s:Shared) (H:Hp) (vs:List V) (Q:VK) (E:XK),bP k (A.deeper (envOfC x (aa st) s.heap.objs.size f cdv))->sp vs H Q E ->
   ∃ t,QB (cF aN P w K mg base N x (aa st) f cdv A outer s H E).ig (aq st) t/\t {nx:=fun _ H'=>Q .aE H',rt:=Q} (start N vs) H):ai P w K mg base aN (k+1) x ps sp:=
 F.ok S len fun f cdv A outer s H vs Q E hr h=>let ⟨t,q,r⟩:=hbody f cdv A outer s H vs Q E hr h;⟨t,q.h,r⟩
theorem zP{x:Str}{ps:List Str}(F:e7 K x x st f fd)(S:aj N ps (aa st))(len:∀ vs H Q E,sp vs H Q E->vs.length=ps.length)
  (hbody:∀(cdv:Value) (A:Around) (outer:List Env) (s:Shared) (H:Hp) (vs:List V) (Q:VK) (E:XK),bP k (A.deeper (envOfC x (aa st) s.heap.objs.size f cdv))->sp vs H Q E ->
   ∃ t,QB (cF aN P w K mg base N x (aa st) f cdv A outer s H E).ig (aq st) t/\t {nx:=fun _ H'=>Q .aE H',rt:=Q} (start N vs) H):a_ P w K mg base aN (k+1) f fd ps sp:=
 F.ok S len fun cdv A outer s H vs Q E hr h=>let ⟨t,q,r⟩:=hbody cdv A outer s H vs Q E hr h;⟨t,q.h,r⟩
noncomputable def HJ(e:Addr)(cls:Value)(d:Option Addr)(h:Heap):Prop:=∃ o vs,h.get? e=some o/\o.cls=cls/\o.dict=d/\o.data=.fields vs
noncomputable def iL(c:Addr)(n:Nat)(h:Heap):Prop:=∃(its:List Value) (m:Nat),h.get? c=some {cls:=.type "list",data:=.seq its.toArray m}/\its.length=n/\∀ v∈its,∃(i:Int) (t:Tok),v=.int i t/\0<=i
inductive T where
 |il (n:Nat)|aE|bl (b:Bool)|int (i:Int)|str (x:Str)|tup (ts:List T)|lst (ts:List T)|gp (ts:List T)|nM (lo hi:Int)|cT (ts:List T)|pk (ks:List Key) (ts:List T)|exc (c:Value) (f:Option (Str×Int))|adr (a:Addr)|ins (a c:Addr) (ks:List Str) (ts:List T)
variable{c:T}{ts us:List T}
abbrev ba:=Addr->Prop
variable{B B':ba}
noncomputable def yE(K:Nv)(a:Addr)(xs:List V):Prop:=∃(o:Obj) (its:Array Value) (n:Nat),K.lookup a=some o/\o.cls=.type "tuple"/\o.data=.seq its n/\its.size<=sizeLine/\Vals xs its.toList
noncomputable def JJ(K:Nv)(a:Addr)(xs:List V):Prop:=∃(o:Obj) (its:Array Value) (n:Nat),K.lookup a=some o/\o.cls=.type "list"/\o.dict=none/\o.data=.seq its n/\its.size<=sizeLine/\Vals xs its.toList
noncomputable def LB(K:Nv)(H:Hp)(B:ba)(a:Addr)(xs:List V):Prop:=(¬ B a/\Rd H a (.lst xs))\/JJ K a xs
mutual
inductive Rep (K:Nv) (H:Hp) (B:ba):V->T->Prop
 |aE:Rep K H B .aE .aE
 |bl (b:Bool):Rep K H B (.bl b) (.bl b)
 |int (i:Int):Rep K H B (.int i) (.int i)
 |str (x:Str):Rep K H B (.str x) (.str x)
 |tup {a:Addr} {vs:List V} {ts:List T} (n:¬ B a) (h:H a=some (.tup vs)) (r:av K H B vs ts):Rep K H B (.ref a) (.tup ts)
 |cT {a:Addr} {vs:List V} {ts:List T} (h:yE K a vs) (r:av K H B vs ts):Rep K H B (.ref a) (.cT ts)
 |lst {a:Addr} {vs:List V} {ts:List T} (n:¬ B a) (h:H a=some (.lst vs)) (r:av K H B vs ts):Rep K H B (.ref a) (.lst ts)
 |gp {a:Addr} {vs:List V} {ts:List T} (h:LB K H B a vs) (r:av K H B vs ts):Rep K H B (.ref a) (.gp ts)
 |nM {a:Addr} {lo hi:Int} (n:¬ B a) (h:H a=some (.nM lo hi)):Rep K H B (.ref a) (.nM lo hi)
 |pk {a:Addr} {ks:List Key} {vs:List V} {ts:List T} (n:¬ B a) (h:Rd H a (.dK (ks.zip vs))) (l:ks.length=vs.length) (r:av K H B vs ts):Rep K H B (.ref a) (.pk ks ts)
 |exc {a:Addr} {c:Value} (n:¬ B a) (h:H a=some (.ext (HJ a c none))):Rep K H B (.ref a) (.exc c none)
 |BQ {a d:Addr} {c:Value} {x:Str} {i:Int} (n:¬ B a) (h:H a=some (.ext (HJ a c (some d)))) (m:¬ B d) (g:H d=some (.xd [(x,.int i)])):Rep K H B (.ref a) (.exc c (some (x,i)))
 |il {a:Addr} {n:Nat} (m:¬ B a) (h:H a=some (.ext (iL a n))):Rep K H B (.ref a) (.il n)
 |adr (a:Addr):Rep K H B (.ref a) (.adr a)
 |ins {a dx c:Addr} {ks:List Str} {vs:List V} {ts:List T} (n:¬ B a) (h:H a=some (.ins c dx (ks.zip vs))) (l:ks.length=vs.length) (r:av K H B vs ts):Rep K H B (.ref a) (.ins a c ks ts)
inductive av (K:Nv) (H:Hp) (B:ba):List V->List T->Prop
 |nil:av K H B [] []
 |cons {v:V} {t:T} {vs:List V} {ts:List T} (h:Rep K H B v t) (r:av K H B vs ts):av K H B (v::vs) (t::ts)
end
section
variable {K:Nv} {H:Hp} {B:ba} {v:V}
theorem Rep.tV(h:Rep K H B v (.bl b)):v=.bl b:=by cases h;rfl
theorem Rep.bT{i:Int}(h:Rep K H B v (.int i)):v=.int i:=by cases h;rfl
theorem Rep.dm{x:Str}(h:Rep K H B v (.str x)):v=.str x:=by cases h;rfl
theorem Rep.tupI(h:Rep K H B v (.tup ts)):∃ a vs,v=.ref a/\¬ B a/\H a=some (.tup vs)/\av K H B vs ts:=by cases h with|tup n h r=>exact⟨_,_,rfl,n,h,r⟩
theorem Rep.uT(h:Rep K H B v (.cT ts)):∃ a vs,v=.ref a/\yE K a vs/\av K H B vs ts:=by cases h with|cT h r=>exact⟨_,_,rfl,h,r⟩
theorem Rep.e8(h:Rep K H B v (.lst ts)):∃ a vs,v=.ref a/\¬ B a/\H a=some (.lst vs)/\av K H B vs ts:=by cases h with|lst n h r=>exact⟨_,_,rfl,n,h,r⟩
theorem Rep.vH(h:Rep K H B v (.gp ts)):∃ a vs,v=.ref a/\LB K H B a vs/\av K H B vs ts:=by cases h with|gp h r=>exact⟨_,_,rfl,h,r⟩
theorem Rep.nZ(h:Rep K H B (.ref a) (.tup ts)):∃ vs,¬ B a/\H a=some (.tup vs)/\av K H B vs ts:=by obtain⟨_,vs,e,r⟩:=h.tupI;cases e;exact⟨vs,r⟩
theorem Rep.CY(h:Rep K H B (.ref a) (.lst ts)):∃ vs,¬ B a/\H a=some (.lst vs)/\av K H B vs ts:=by obtain⟨_,vs,e,r⟩:=h.e8;cases e;exact⟨vs,r⟩
theorem Rep.Jx(h:Rep K H B (.ref a) (.cT ts)):∃ vs,yE K a vs/\av K H B vs ts:=by obtain⟨_,vs,e,r⟩:=h.uT;cases e;exact⟨vs,r⟩
theorem Rep.IL(h:Rep K H B (.ref a) (.gp ts)):∃ vs,LB K H B a vs/\av K H B vs ts:=by obtain⟨_,vs,e,r⟩:=h.vH;cases e;exact⟨vs,r⟩
theorem av.dD{vs:List V}(h:av K H B vs []):vs=[]:=by cases h;rfl
theorem av.aO{vs:List V}{t:T}(h:av K H B vs (t::ts)):∃ v ws,vs=v::ws/\Rep K H B v t/\av K H B ws ts:=by cases h with|cons h r=>exact⟨_,_,rfl,h,r⟩
end
theorem Paired.dD{P:α->β->Prop}{xs:List α}(h:Paired P xs []):xs=[]:=by cases h;rfl
theorem Paired.aO{P:α->β->Prop}{xs:List α}{y:β}{ys:List β}(h:Paired P xs (y::ys)):∃ x zs,xs=x::zs/\P x y/\Paired P zs ys:=by cases h with|cons h r=>exact⟨_,_,rfl,h,r⟩
theorem Paired.GR{P:α->β->Prop}{ys:List β}(h:Paired P [] ys):ys=[]:=by cases h;rfl
noncomputable def Fr(B:ba)(H:Hp)(B':ba)(H':Hp):Prop:=∀ b o,H b=some o->¬ B b->H' b=some o/\¬ B' b
theorem Fr.refl:Fr B H B H:=fun _ _ h n=>⟨h,n⟩
theorem Fr.trans{B1 B2:ba}{H2:Hp}(a:Fr B H B1 H1)(b:Fr B1 H1 B2 H2):Fr B H B2 H2:=fun c o h n=>let ⟨h1,n1⟩:=a c o h n;b c o h1 n1
theorem Fr.same(s:cQ H H'):Fr B H B H':=fun b o h n=>⟨s b o h,n⟩
theorem Fr.less(s:∀ b,B' b->B b):Fr B H B' H:=fun b o h n=>⟨h,fun z=>n (s b z)⟩
theorem Fr.set(h:B a):Fr B H B (upd H a o):=fun b u e n=>⟨by rw[ae (by rintro rfl;exact n h)];exact e,n⟩
theorem cQ.new(h:H p=none):cQ H (upd H p o):=fun b u e=>by rw[ae (af e h)];exact e
theorem Fr.more(h:H p=none):Fr B H (fun b=>b=p\/B b) (upd H p o):=fun b u e n=>⟨cQ.new h b u e,fun z=>z.elim (af e h) n⟩
theorem Rd.fr{u:HO}(f:Fr B H B' H')(n:¬ B a)(h:Rd H a u):¬ B' a/\Rd H' a u:=by
 rcases h with h|⟨o,h⟩
 ·exact⟨(f a _ h n).2,.inl (f a _ h n).1⟩
 ·exact⟨(f a _ h n).2,.inr ⟨o,(f a _ h n).1⟩⟩
section
variable {K:Nv} {H H':Hp} {B B':ba}
theorem LB.fr(f:Fr B H B' H')(h:LB K H B a xs):LB K H' B' a xs:=h.elim (fun z=>.inl (z.2.fr f z.1)) .inr
theorem LB.sq(h:LB K H B a xs):bA K H a xs:=h.elim (fun z=>.inl z.2) .inr
theorem Rep.fr(f:Fr B H B' H'){v:V}{t:T}(h:Rep K H B v t):Rep K H' B' v t:=
 Rep.rec (motive_1:=fun v t _=>Rep K H' B' v t) (motive_2:=fun vs ts _=>av K H' B' vs ts) .aE .bl .int .str (fun n h _ r=>.tup (f _ _ h n).2 (f _ _ h n).1 r) (fun h _ r=>.cT h r) (fun n h _ r=>.lst (f _ _ h n).2 (f _ _ h n).1 r) (fun h _ r=>.gp (h.fr f) r)
  (fun n h=>.nM (f _ _ h n).2 (f _ _ h n).1) (fun n h l _ r=>.pk (Rd.fr f n h).1 (Rd.fr f n h).2 l r) (fun n h=>.exc (f _ _ h n).2 (f _ _ h n).1) (fun n h m g=>.BQ (f _ _ h n).2 (f _ _ h n).1 (f _ _ g m).2 (f _ _ g m).1) (fun n h=>.il (f _ _ h n).2 (f _ _ h n).1) .adr (fun n h l _ r=>.ins (f _ _ h n).2 (f _ _ h n).1 l r) .nil (fun _ _ h r=>.cons h r) h
theorem av.fr(f:Fr B H B' H'){vs:List V}(r:av K H B vs ts):av K H' B' vs ts:=by
 induction ts generalizing vs with
 |nil=>rw[r.dD];exact .nil
 |cons t ts ih=>obtain⟨v,vs,rfl,h,r⟩:=r.aO;exact .cons (h.fr f) (ih r)
theorem av.length{vs:List V}(r:av K H B vs ts):vs.length=ts.length:=by
 induction ts generalizing vs with
 |nil=>obtain rfl:=r.dD;rfl
 |cons t ts ih=>obtain⟨v,ws,rfl,_,r⟩:=r.aO;exact K1 (·+1) (ih r)
theorem av.get{vs:List V}{i:Nat}{t:T}(r:av K H B vs ts)(e:ts[i]?=some t):∃ v,vs[i]?=some v/\Rep K H B v t:=by
 induction ts generalizing vs i with
 |nil=>cases e
 |cons u ts ih =>
  obtain⟨v,ws,rfl,h,r⟩:=r.aO
  cases i with
  |zero=>cases e;exact⟨_,rfl,h⟩
  |succ i=>exact ih (vs:=ws) (i:=i) r e
theorem av.append{vs:List V}(r:av K H B vs ts)(s:av K H B ws us):av K H B (vs++ws) (ts++us):=by
 induction ts generalizing vs with
 |nil=>rw[r.dD];exact s
 |cons t ts ih=>obtain⟨v,vs,rfl,h,r⟩:=r.aO;exact .cons h (ih r)
theorem av.take{vs:List V}(n:Nat)(r:av K H B vs ts):av K H B (vs.take n) (ts.take n):=by
 induction ts generalizing vs n with
 |nil=>rw[r.dD,List.take_nil,List.take_nil];exact .nil
 |cons t ts ih =>
  obtain⟨v,vs,rfl,h,r⟩:=r.aO
  cases n with
  |zero=>exact .nil
  |succ n=>exact .cons h (ih n r)
theorem av.drop{vs:List V}(n:Nat)(r:av K H B vs ts):av K H B (vs.drop n) (ts.drop n):=by
 induction n generalizing vs ts with
 |zero=>exact r
 |succ n ih =>
  cases ts with
  |nil=>rw[r.dD];exact .nil
  |cons t ts=>obtain⟨v,vs,rfl,h,r⟩:=r.aO;exact ih r
theorem av.set{vs:List V}{v:V}{t:T}(i:Nat)(h:Rep K H B v t)(r:av K H B vs ts):av K H B (vs.set i v) (ts.set i t):=by
 induction ts generalizing vs i with
 |nil=>rw[r.dD];exact .nil
 |cons u ts ih =>
  obtain⟨w,vs,rfl,q,r⟩:=r.aO
  cases i with
  |zero=>exact .cons h r
  |succ i=>exact .cons q (ih i r)
theorem av.rep{vs:List V}(r:av K H B vs ts):∀ n:Nat,av K H B (List.replicate n vs).flatten (List.replicate n ts).flatten
 |0=>.nil
 |n+1=>by rw[KZ,KZ,Ls,Ls];exact r.append (av.rep r n)
theorem av.c_{vs:List V}{i:Int}{t:T}(r:av K H B vs ts)(e:L2.c_ ts i=some t):∃ v,L2.c_ vs i=some v/\Rep K H B v t:=by
 unfold L2.c_ at e ⊢;rw[r.length]
 cases q:mx ts.length i with
 |none=>rw[q] at e;cases e
 |some j=>rw[q] at e;exact r.get e
end
noncomputable def aF:T->Bool
 |.aE|.bl _|.int _|.str _=>true
 |_=>false
theorem Rep.flat{v:V}{t:T}(h:Rep K H B v t)(f:aF t=true):Rep K H' B' v t:=by
 cases h with
 |aE=>exact .aE
 |bl b=>exact .bl b
 |int i=>exact .int i
 |str x=>exact .str x
 |tup=>cases f
 |cT=>cases f
 |lst=>cases f
 |gp=>cases f
 |nM=>cases f
 |pk=>cases f
 |exc=>cases f
 |BQ=>cases f
 |il=>cases f
 |adr=>cases f
 |ins=>cases f
theorem av.flat{vs:List V}(r:av K H B vs ts)(f:ts.all aF=true):av K H' B' vs ts:=by
 induction ts generalizing vs with
 |nil=>rw[r.dD];exact .nil
 |cons t ts ih =>
  obtain⟨v,vs,rfl,h,r⟩:=r.aO;rw[KI,KG] at f;exact .cons (h.flat f.1) (ih r f.2)
noncomputable def Bx(K:Nv)(H:Hp)(B:ba)(a:Addr)(c:T):Prop:=match c with
 |.lst ts=>∃ vs,H a=some (.lst vs)/\av K H B vs ts
 |.pk ks ts=>∃ vs,H a=some (.dK (ks.zip vs))/\ks.length=vs.length/\av K H B vs ts
 |_=>False
theorem Bx.dW(h:Bx K H B a c):∃ o,H a=some o:=by
 unfold Bx at h
 split at h
 ·obtain⟨vs,e,_⟩:=h;exact⟨_,e⟩
 ·obtain⟨vs,e,_⟩:=h;exact⟨_,e⟩
 ·exact h.elim
theorem Bx.of(h:Bx K H B a c)(e:H' a=H a)(f:Fr B H B' H'):Bx K H' B' a c:=by
 unfold Bx at h ⊢
 split at h
 ·obtain⟨vs,q,r⟩:=h;exact⟨vs,e.trans q,r.fr f⟩
 ·obtain⟨vs,q,l,r⟩:=h;exact⟨vs,e.trans q,l,r.fr f⟩
 ·exact h.elim
theorem Bx.is(h:Bx K H B a c):(∃ ts vs,c=.lst ts/\H a=some (.lst vs)/\av K H B vs ts)\/∃ ks ts vs,c=.pk ks ts/\H a=some (.dK (ks.zip vs))/\ks.length=vs.length/\av K H B vs ts:=by
 unfold Bx at h
 split at h
 ·obtain⟨vs,q,r⟩:=h;exact .inl ⟨_,vs,rfl,q,r⟩
 ·obtain⟨vs,q,l,r⟩:=h;exact .inr ⟨_,_,vs,rfl,q,l,r⟩
 ·exact h.elim
theorem Bx.rep(h:Bx K H B a c)(n:¬ B a):Rep K H B (.ref a) c:=by
 rcases h.is with ⟨ts,vs,rfl,e,r⟩|⟨ks,ts,vs,rfl,e,l,r⟩
 ·exact .lst n e r
 ·exact .pk n (.inl e) l r
inductive Sl where
 |un|tr (t:T)|bx (c:T)|pb (c:T)
abbrev Mu:=List Sl
variable{μ μ':Mu}{dr:Mu->Mu}
inductive R where
 |tr (t:T)|br (i:Nat)|fr (c:T)
structure Fx where
 K:Nv
 H0:Hp
 P:Nat->Option Addr
 Bc:ba
 bh:∀ b,Bc b->∃ o,H0 b=some o
 G:Addr->Option HO
variable{F:Fx}{shF:Fx->Fx}
noncomputable def ji(F:Fx)(ad:Nat->Addr)(B:ba)(H:Hp)(i:Nat)(s:Sl)(x:Option (Option V)):Prop:=match s with
 |.un=>True
 |.tr t=>∃ v,x=some (some v)/\Rep F.K H B v t
 |.bx c=>x=some (some (.ref (ad i)))/\B (ad i)/\F.H0 (ad i)=none/\F.P i=none/\Bx F.K H B (ad i) c
 |.pb c=>x=some (some (.ref (ad i)))/\B (ad i)/\F.P i=some (ad i)/\Bx F.K H B (ad i) c
noncomputable def Sl.box:Sl->Option T
 |.bx c=>some c
 |.pb c=>some c
 |_=>none
structure Rl (F:Fx) (ad:Nat->Addr) (B:ba) (σ:St) (H:Hp) (μ:Mu):Prop where
 len:μ.length=σ.length
 slot:∀ i s,μ[i]?=some s->ji F ad B H i s σ[i]?
 inj:∀ i j s u c d,μ[i]?=some s->μ[j]?=some u->s.box=some c->u.box=some d->ad i=ad j->i=j
 par:∀ i a,F.P i=some a->(∃ c,μ[i]?=some (.pb c))/\ad i=a
 bc:∀ b,F.Bc b->B b
 dW:∀ b,B b->∃ o,H b=some o
 old:∀ b o,F.H0 b=some o->(∀ i,F.P i≠some b)->H b=some o
 gh:∀ a vs,F.G a=some vs->H a=some vs/\B a/\∀(i:Nat) (s:Sl) (c:T),μ[i]?=some s->s.box=some c->ad i≠a
theorem ji.boxed{s:Sl}{x:Option (Option V)}(h:ji F ad B H i s x)(e:s.box=some c):x=some (some (.ref (ad i)))/\B (ad i)/\Bx F.K H B (ad i) c/\(F.P i=some (ad i)\/F.H0 (ad i)=none):=by
 unfold ji at h
 split at h
 ·cases e
 ·cases e
 ·cases e;exact⟨h.1,h.2.1,h.2.2.2.2,.inr h.2.2.1⟩
 ·cases e;exact⟨h.1,h.2.1,h.2.2.2,.inl h.2.2.1⟩
noncomputable def Hv(F:Fx)(ad:Nat->Addr)(B:ba)(H:Hp)(μ:Mu)(v:V)(r:R):Prop:=match r with
 |.tr t=>Rep F.K H B v t
 |.br i=>v=.ref (ad i)/\∃ s c,μ[i]?=some s/\s.box=some c
 |.fr _=>False
noncomputable def more(B:ba)(a:Addr):ba:=fun b=>b=a\/B b
noncomputable def Vr(F:Fx)(ad:Nat->Addr)(B:ba)(σ:St)(H:Hp)(μ:Mu)(v:V)(r:R):Prop:=match r with
 |.fr c=>Rl F ad B σ H μ/\∃ a,v=.ref a/\¬ B a/\F.H0 a=none/\Rl F ad (more B a) σ H μ/\Bx F.K H (more B a) a c
 |r=>Rl F ad B σ H μ/\Hv F ad B H μ v r
noncomputable def R.d:R->R
 |.fr c=>.tr c
 |r=>r
section
variable {F:Fx} {ad:Nat->Addr} {B B':ba} {σ:St} {H H':Hp} {μ:Mu} {v:V} {r:R}
theorem Rl.zV(h:Rl F ad B σ H μ)(e:H p=none):F.H0 p=none:=by
 cases q:F.H0 p with
 |none=>rfl
 |some o =>
  by_cases z:∃ i,F.P i=some p
  ·obtain⟨i,z⟩:=z;obtain⟨⟨c,hc⟩,ha⟩:=h.par i p z;have:=(h.slot i _ hc).boxed (c:=c) rfl;obtain⟨o',e'⟩:=h.dW _ this.2.1;rw[ha,e] at e';cases e'
  ·have:=h.old p o q fun i zi=>z ⟨i,zi⟩;rw[e] at this;cases this
theorem Rl.AS(h:Rl F ad B σ H μ)(e:H p=none):¬ B p:=fun z=>by
 obtain⟨o,q⟩:=h.dW p z;rw[e] at q;cases q
theorem Rl.fr(h:Rl F ad B σ H μ)(s:cQ H H')(hB:∀ b,B b->B' b)(hT:∀ b,B' b->∃ o,H' b=some o)(f:Fr B H B' H'):Rl F ad B' σ H' μ:=by
 refine⟨h.len,fun i s' e=>?_,h.inj,h.par,fun b z=>hB b (h.bc b z),hT,fun b o e n=>s b o (h.old b o e n),fun a vs e=>let ⟨g1,g2,g3⟩:=h.gh a vs e;⟨s a _ g1,hB a g2,g3⟩⟩
 have k:=h.slot i s' e;unfold ji at k ⊢
 split at k
 ·trivial
 ·obtain⟨v,e1,r⟩:=k;exact⟨v,e1,r.fr f⟩
 ·obtain⟨e1,b,z,p,x⟩:=k;obtain⟨o,q⟩:=x.dW;exact⟨e1,hB _ b,z,p,x.of ((s _ _ q).trans q.symm) f⟩
 ·obtain⟨e1,b,p,x⟩:=k;obtain⟨o,q⟩:=x.dW;exact⟨e1,hB _ b,p,x.of ((s _ _ q).trans q.symm) f⟩
theorem Rl.same(h:Rl F ad B σ H μ)(s:cQ H H'):Rl F ad B σ H' μ:=h.fr s (fun _ z=>z) (fun b z=>let ⟨o,e⟩:=h.dW b z;⟨o,s b o e⟩) (Fr.same s)
theorem Rl.new(h:Rl F ad B σ H μ)(e:H p=none):Rl F ad (more B p) σ (upd H p o) μ:=
 h.fr (cQ.new e) (fun _ z=>.inr z) (fun b z=>z.elim (fun q=>by subst q;exact⟨o,ab⟩) fun q=>let ⟨u,w⟩:=h.dW b q;⟨u,cQ.new e b u w⟩) (Fr.more e)
theorem Rl.less(h:Rl F ad B σ H μ)(s:∀ b,B' b->B b)(hb:∀ b,F.Bc b->B' b)(own:∀ i s' c,μ[i]?=some s'->s'.box=some c->B' (ad i))(hg:∀ a vs,F.G a=some vs->B' a):Rl F ad B' σ H μ:=by
 refine⟨h.len,fun i s' e=>?_,h.inj,h.par,hb,fun b z=>h.dW b (s b z),h.old,fun a vs e=>let ⟨g1,g2,g3⟩:=h.gh a vs e;⟨g1,hg a vs e,g3⟩⟩
 have k:=h.slot i s' e;unfold ji at k ⊢
 split at k
 ·trivial
 ·obtain⟨v,e1,r⟩:=k;exact⟨v,e1,r.fr (Fr.less s)⟩
 ·obtain⟨e1,b,z,p,x⟩:=k;exact⟨e1,own i _ _ e rfl,z,p,x.of rfl (Fr.less s)⟩
 ·obtain⟨e1,b,p,x⟩:=k;exact⟨e1,own i _ _ e rfl,p,x.of rfl (Fr.less s)⟩
theorem Vr.rl(h:Vr F ad B σ H μ v r):Rl F ad B σ H μ:=by
 cases r with
 |tr t=>exact h.1
 |br i=>exact h.1
 |fr c=>exact h.1
theorem Vr.hv(h:Vr F ad B σ H μ v r):Hv F ad B H μ v r.d:=by
 cases r with
 |tr t=>exact h.2
 |br i=>exact h.2
 |fr c =>
  obtain⟨_,a,rfl,n,_,_,x⟩:=h;exact (x.of rfl (Fr.less fun _ z=>.inr z)).rep n
noncomputable def Kp(μ μ':Mu):Prop:=∀ i:Nat,((μ[i]?).bind Sl.box).isSome=((μ'[i]?).bind Sl.box).isSome
theorem Kp.refl(μ:Mu):Kp μ μ:=fun i=>rfl
theorem Kp.trans{μ1 μ2:Mu}(a:Kp μ μ1)(b:Kp μ1 μ2):Kp μ μ2:=fun i=>(a i).trans (b i)
theorem Kp.symm{μ1:Mu}(a:Kp μ μ1):Kp μ1 μ:=fun i=>(a i).symm
theorem Kp.fwd(k:Kp μ μ'):∀(i:Nat) (s:Sl) (c:T),μ[i]?=some s->s.box=some c->∃(s':Sl) (c':T),μ'[i]?=some s'/\s'.box=some c':=fun i s c e b=>by
 have h:=k i;rw[e] at h;have h1:(s.box).isSome=((μ'[i]?).bind Sl.box).isSome:=h;rw[b] at h1
 cases q:μ'[i]? with
 |none=>rw[q] at h1;cases h1
 |some s' =>
  rw[q] at h1;have h2:true=(s'.box).isSome:=h1
  cases q2:s'.box with
  |none=>rw[q2] at h2;cases h2
  |some c'=>exact⟨s',c',rfl,q2⟩
theorem Kp.set{s s':Sl}{d:T}(e:μ[i]?=some s)(b:s.box=some c)(b':s'.box=some d):Kp μ (μ.set i s'):=fun j=>by
 have hi:i<μ.length:=(Ku.mp e).1;by_cases z:i=j
 ·subst z;rw[Le hi,e];show (s.box).isSome=(s'.box).isSome;rw[b,b'];rfl
 ·rw[Lo z]
theorem Hv.fr(h:Hv F ad B H μ v r)(f:Fr B H B' H')(k:Kp μ μ'):Hv F ad B' H' μ' v r:=by
 cases r with
 |tr t=>exact Rep.fr f h
 |br i=>obtain⟨e,s,c,h1,h2⟩:=h;exact⟨e,k.fwd i s c h1 h2⟩
 |fr c=>exact h.elim
noncomputable def cont(μ:Mu):R->Option T
 |.tr t=>some t
 |.br i=>(μ[i]?).bind Sl.box
 |.fr c=>some c
inductive Vw (K:Nv) (H:Hp) (B:ba):V->T->Prop
 |aE:Vw K H B .aE .aE
 |bl (b:Bool):Vw K H B (.bl b) (.bl b)
 |int (i:Int):Vw K H B (.int i) (.int i)
 |str (x:Str):Vw K H B (.str x) (.str x)
 |tup {a:Addr} {vs:List V} {ts:List T} (h:H a=some (.tup vs)) (r:av K H B vs ts):Vw K H B (.ref a) (.tup ts)
 |cT {a:Addr} {vs:List V} {ts:List T} (h:yE K a vs) (r:av K H B vs ts):Vw K H B (.ref a) (.cT ts)
 |lst {a:Addr} {vs:List V} {ts:List T} (h:H a=some (.lst vs)) (r:av K H B vs ts):Vw K H B (.ref a) (.lst ts)
 |gp {a:Addr} {vs:List V} {ts:List T} (h:bA K H a vs) (r:av K H B vs ts):Vw K H B (.ref a) (.gp ts)
 |nM {a:Addr} {lo hi:Int} (h:H a=some (.nM lo hi)):Vw K H B (.ref a) (.nM lo hi)
 |pk {a:Addr} {ks:List Key} {vs:List V} {ts:List T} (h:Rd H a (.dK (ks.zip vs))) (l:ks.length=vs.length) (r:av K H B vs ts):Vw K H B (.ref a) (.pk ks ts)
 |exc {a:Addr} {c:Value} (h:H a=some (.ext (HJ a c none))):Vw K H B (.ref a) (.exc c none)
 |BQ {a d:Addr} {c:Value} {x:Str} {i:Int} (h:H a=some (.ext (HJ a c (some d)))) (g:H d=some (.xd [(x,.int i)])):Vw K H B (.ref a) (.exc c (some (x,i)))
 |il {a:Addr} {n:Nat} (h:H a=some (.ext (iL a n))):Vw K H B (.ref a) (.il n)
 |adr (a:Addr):Vw K H B (.ref a) (.adr a)
 |ins {a dx c:Addr} {ks:List Str} {vs:List V} {ts:List T} (h:H a=some (.ins c dx (ks.zip vs))) (l:ks.length=vs.length) (r:av K H B vs ts):Vw K H B (.ref a) (.ins a c ks ts)
theorem Rep.vw{t:T}(h:Rep K H B v t):Vw K H B v t:=by
 cases h with
 |aE=>exact .aE
 |bl b=>exact .bl b
 |int i=>exact .int i
 |str x=>exact .str x
 |tup n h r=>exact .tup h r
 |cT h r=>exact .cT h r
 |lst n h r=>exact .lst h r
 |gp h r=>exact .gp h.sq r
 |nM n h=>exact .nM h
 |pk n h l r=>exact .pk h l r
 |exc n h=>exact .exc h
 |BQ n h m g=>exact .BQ h g
 |il n h=>exact .il h
 |adr a=>exact .adr a
 |ins n h l r=>exact .ins h l r
theorem Hv.vw{t:T}(l:Rl F ad B σ H μ)(h:Hv F ad B H μ v r)(e:cont μ r=some t):Vw F.K H B v t:=by
 cases r with
 |tr u=>cases e;exact Rep.vw h
 |br i =>
  obtain⟨rfl,s,c,h1,h2⟩:=h;have e2:(μ[i]?).bind Sl.box=some t:=e;rw[h1] at e2;have e':s.box=some t:=e2;rcases ((l.slot i s h1).boxed e').2.2.1.is with ⟨ts,vs,rfl,q,rr⟩|⟨ks,ts,vs,rfl,q,ll,rr⟩
  ·exact .lst q rr
  ·exact .pk (.inl q) ll rr
 |fr c=>exact h.elim
noncomputable def Sl.put:Sl->T->Sl
 |.bx _,c=>.bx c
 |.pb _,c=>.pb c
 |s,_=>s
theorem Sl.r9{s:Sl}{d:T}(e:s.box=some c):(s.put d).box=some d:=by
 cases s<;>first|rfl|cases e
theorem Rl.put{s:Sl}{vs:List V}(l:Rl F ad B σ H μ)(e:μ[i]?=some s)(hb:s.box=some c)(r:av F.K H B vs ts):Rl F ad B σ (upd H (ad i) (.lst vs)) (μ.set i (s.put (.lst ts))):=by
 have k0:=(l.slot i s e).boxed hb;have hi:i<μ.length:=(Ku.mp e).1;have f:Fr B H B (upd H (ad i) (.lst vs)):=Fr.set k0.2.1;have get:∀ j,(μ.set i (s.put (.lst ts)))[j]?=if j=i then some (s.put (.lst ts)) else μ[j]?:=fun j=>by
  rw[Mh];by_cases z:i=j
  ·subst z;simp[hi]
  ·rw[Kf z,Kf (fun q=>z q.symm)]
 refine⟨by rw[KO];exact l.len,fun j s' e'=>?_,fun j k s1 s2 c1 c2 e1 e2 b1 b2 q=>?_,fun j a p=>?_,l.bc,fun b z=>?_,fun b o e' n=>?_,fun a ws ga=>?_⟩
 ·rw[get] at e';by_cases z:j=i
  ·subst z;rw[Kh rfl] at e';cases e';have k:=l.slot j s e
   cases s with
   |un=>cases hb
   |tr t=>cases hb
   |bx d=>exact⟨k.1,k.2.1,k.2.2.1,k.2.2.2.1,vs,ab,r.fr f⟩
   |pb d=>exact⟨k.1,k.2.1,k.2.2.1,vs,ab,r.fr f⟩
  ·rw[Kf z] at e';have k:=l.slot j s' e';have ne:∀ d,s'.box=some d->ad j≠ad i:=fun d hd q=>z (l.inj j i s' s d c e' e hd hb q);unfold ji at k ⊢
   split at k
   ·trivial
   ·obtain⟨v,e1,r1⟩:=k;exact⟨v,e1,r1.fr f⟩
   ·obtain⟨e1,b,z0,p,x⟩:=k;exact⟨e1,b,z0,p,x.of (ae (ne _ rfl)) f⟩
   ·obtain⟨e1,b,p,x⟩:=k;exact⟨e1,b,p,x.of (ae (ne _ rfl)) f⟩
 ·rw[get] at e1 e2;have h1:∃ u d,μ[j]?=some u/\u.box=some d:=by
   by_cases z:j=i
   ·subst z;exact⟨s,c,e,hb⟩
   ·rw[Kf z] at e1;exact⟨_,_,e1,b1⟩
  have h2:∃ u d,μ[k]?=some u/\u.box=some d:=by
   by_cases z:k=i
   ·subst z;exact⟨s,c,e,hb⟩
   ·rw[Kf z] at e2;exact⟨_,_,e2,b2⟩
  obtain⟨u1,d1,g1,g2⟩:=h1;obtain⟨u2,d2,g3,g4⟩:=h2;exact l.inj j k u1 u2 d1 d2 g1 g3 g2 g4 q
 ·obtain⟨⟨d,hd⟩,ha⟩:=l.par j a p;refine⟨?_,ha⟩;rw[get];by_cases z:j=i
  ·subst z;rw[e] at hd;cases hd;rw[Kh rfl];exact⟨_,rfl⟩
  ·rw[Kf z];exact⟨d,hd⟩
 ·by_cases z':b=ad i
  ·subst z';exact⟨_,ab⟩
  ·rw[ae z'];exact l.dW b z
 ·have ne:b≠ad i:=by
   rintro rfl;rcases k0.2.2.2 with z|z
   ·exact n i z
   ·rw[z] at e';cases e'
  rw[ae ne];exact l.old b o e' n
 ·obtain⟨g1,g2,g3⟩:=l.gh a ws ga;refine⟨by rw[ae (fun z=>g3 i s c e hb z.symm)];exact g1,g2,fun j s' d e' b'=>?_⟩
  rw[get] at e';by_cases z:j=i
  ·subst z;exact g3 j s c e hb
  ·rw[Kf z] at e';exact g3 j s' d e' b'
theorem Rl.Cm{t:T}(l:Rl F ad B σ H μ)(hp:∀ c,μ[i]?≠some (.pb c))(h:Rep F.K H B v t):Rl F ad B (σ.set i (some v)) H (μ.set i (.tr t)):=by
 have get:∀ j,i<μ.length->(μ.set i (.tr t))[j]?=if j=i then some (.tr t) else μ[j]?:=fun j hi=>by
  rw[Mh];by_cases z:i=j
  ·subst z;simp[hi]
  ·rw[Kf z,Kf (fun q=>z q.symm)]
 by_cases hi:i<μ.length
 ·refine⟨by rw[KO,KO];exact l.len,fun j s' e'=>?_,fun j k s1 s2 c1 c2 e1 e2 b1 b2 q=>?_,fun j a p=>?_,l.bc,l.dW,l.old,fun a ws ga=>?_⟩
  ·rw[get j hi] at e';by_cases z:j=i
   ·subst z;rw[Kh rfl] at e';cases e';exact⟨v,by rw[Le (by rw[<- l.len];exact hi)],h⟩
   ·rw[Kf z] at e';rw[Lo (Ne.symm z)];exact l.slot j s' e'
  ·rw[get j hi] at e1;rw[get k hi] at e2;by_cases z:j=i
   ·rw[Kh z] at e1;cases e1;cases b1
   ·by_cases z2:k=i
    ·rw[Kh z2] at e2;cases e2;cases b2
    ·rw[Kf z] at e1;rw[Kf z2] at e2;exact l.inj j k _ _ _ _ e1 e2 b1 b2 q
  ·obtain⟨⟨d,hd⟩,ha⟩:=l.par j a p;refine⟨⟨d,?_⟩,ha⟩;rw[get j hi];by_cases z:j=i
   ·subst z;exact absurd hd (hp d)
   ·rw[Kf z];exact hd
  ·obtain⟨g1,g2,g3⟩:=l.gh a ws ga;refine⟨g1,g2,fun j s' d e' b'=>?_⟩;rw[get j hi] at e';by_cases z:j=i
   ·rw[Kh z] at e';cases e';cases b'
   ·rw[Kf z] at e';exact g3 j s' d e' b'
 ·have hs:σ.length<=i:=by rw[<- l.len];lia
  rw[LF (show μ.length<=i by lia),LF hs]
  exact l
theorem Rl.setB(l:Rl F ad (more B a) σ H μ)(hp:∀ c,μ[i]?≠some (.pb c))(h0:F.H0 a=none)(n:¬ B a)(own:∀ j s c,μ[j]?=some s->s.box=some c->B (ad j))(gB:∀ b vs,F.G b=some vs->B b)(x:Bx F.K H (more B a) a c):
  Rl F (fun j=>if j=i then a else ad j) (more B a) (σ.set i (some (.ref a))) H (μ.set i (.bx c)):=by
 have get:∀ j,i<μ.length->(μ.set i (.bx c))[j]?=if j=i then some (.bx c) else μ[j]?:=fun j hi=>by
  rw[Mh];by_cases z:i=j
  ·subst z;simp[hi]
  ·rw[Kf z,Kf (fun q=>z q.symm)]
 have pi:F.P i=none:=by
  cases q:F.P i with
  |none=>rfl
  |some b =>
   obtain⟨⟨d,hd⟩,_⟩:=l.par i b q;exact absurd hd (hp d)
 by_cases hi:i<μ.length
 ·refine⟨by rw[KO,KO];exact l.len,fun j s' e'=>?_,fun j k s1 s2 c1 c2 e1 e2 b1 b2 q=>?_,fun j a' p=>?_,l.bc,l.dW,l.old,fun b ws ga=>?_⟩
  ·rw[get j hi] at e';by_cases z:j=i
   ·subst z;rw[Kh rfl] at e';cases e';show _/\_;simp only[Kh];exact⟨by rw[Le (by rw[<- l.len];exact hi)],.inl rfl,h0,pi,x⟩
   ·rw[Kf z] at e';rw[Lo (Ne.symm z)];have k:=l.slot j s' e';unfold ji at k ⊢;simp only[Kf z];exact k
  ·rw[get j hi] at e1;rw[get k hi] at e2;by_cases z:j=i
   ·by_cases z2:k=i
    ·rw[z,z2]
    ·rw[Kh z,Kf z2] at q;rw[Kf z2] at e2;exact absurd (own k _ _ e2 b2) (by rw[<- q];exact n)
   ·by_cases z2:k=i
    ·rw[Kh z2,Kf z] at q;rw[Kf z] at e1;exact absurd (own j _ _ e1 b1) (by rw[q];exact n)
    ·rw[Kf z] at e1;rw[Kf z2] at e2;rw[Kf z,Kf z2] at q;exact l.inj j k _ _ _ _ e1 e2 b1 b2 q
  ·obtain⟨⟨d,hd⟩,ha⟩:=l.par j a' p;have z:j≠i:=by rintro rfl;exact hp d hd
   rw[get j hi,Kf z];exact⟨⟨d,hd⟩,by simp only[Kf z];exact ha⟩
  ·obtain⟨g1,g2,g3⟩:=l.gh b ws ga;refine⟨g1,g2,fun j s' d e' b'=>?_⟩;rw[get j hi] at e';by_cases z:j=i
   ·simp only[Kh z];rintro rfl;exact n (gB _ ws ga)
   ·rw[Kf z] at e';simp only[Kf z];exact g3 j s' d e' b'
 ·have hs:σ.length<=i:=by rw[<- l.len];lia
  rw[LF (show μ.length<=i by lia),LF hs]
  have ne:∀ j s,μ[j]?=some s->j≠i:=fun j s e q=>by
   have:=(Ku.mp e).1;lia
  refine⟨l.len,fun j s' e'=>?_,fun j k s1 s2 c1 c2 e1 e2 b1 b2 q=>?_,fun j a' p=>?_,l.bc,l.dW,l.old,fun b ws ga=>?_⟩
  ·have k:=l.slot j s' e';unfold ji at k ⊢;simp only[Kf (ne j s' e')];exact k
  ·simp only[Kf (ne j _ e1),Kf (ne k _ e2)] at q;exact l.inj j k _ _ _ _ e1 e2 b1 b2 q
  ·obtain⟨⟨d,hd⟩,ha⟩:=l.par j a' p;exact⟨⟨d,hd⟩,by simp only[Kf (ne j _ hd)];exact ha⟩
  ·obtain⟨g1,g2,g3⟩:=l.gh b ws ga;refine⟨g1,g2,fun j s' d e' b'=>?_⟩;simp only[Kf (ne j _ e')];exact g3 j s' d e' b'
theorem Rl.gB(l:Rl F ad B σ H μ):∀ b vs,F.G b=some vs->B b:=fun b vs e=>(l.gh b vs e).2.1
theorem Rl.own(l:Rl F ad B σ H μ):∀ j s c,μ[j]?=some s->s.box=some c->B (ad j):=fun j s c e b=>((l.slot j s e).boxed b).2.1
theorem Rl.freeze(l:Rl F ad B σ H μ)(e:μ[i]?=some (.bx c))(hc:¬ F.Bc (ad i)):Rl F ad (fun b=>B b/\b≠ad i) σ H (μ.set i (.tr c))/\Rep F.K H (fun b=>B b/\b≠ad i) (.ref (ad i)) c:=by
 have k0:=l.slot i _ e;have hi:i<μ.length:=(Ku.mp e).1;have rp:Rep F.K H (fun b=>B b/\b≠ad i) (.ref (ad i)) c:=((k0.2.2.2.2).of rfl (Fr.less fun _ z=>z.1)).rep (fun z=>z.2 rfl);have get:∀ j,(μ.set i (.tr c))[j]?=if j=i then some (.tr c) else μ[j]?:=fun j=>by
  rw[Mh];by_cases z:i=j
  ·subst z;simp[hi]
  ·rw[Kf z,Kf (fun q=>z q.symm)]
 have pi:F.P i=none:=k0.2.2.2.1;refine⟨⟨by rw[KO];exact l.len,fun j s' e'=>?_,fun j k s1 s2 c1 c2 e1 e2 b1 b2 q=>?_,fun j a p=>?_,fun b z=>⟨l.bc b z,by rintro rfl;exact hc z⟩,fun b z=>l.dW b z.1,l.old,fun a ws ga=>?_⟩,rp⟩
 ·rw[get] at e';by_cases z:j=i
  ·subst z;rw[Kh rfl] at e';cases e';exact⟨_,k0.1,rp⟩
  ·rw[Kf z] at e';have k:=l.slot j s' e';have ne:∀ d,s'.box=some d->ad j≠ad i:=fun d hd q=>z (l.inj j i s' _ d c e' e hd rfl q);unfold ji at k ⊢
   split at k
   ·trivial
   ·obtain⟨v,e1,r1⟩:=k;exact⟨v,e1,r1.fr (Fr.less fun _ z=>z.1)⟩
   ·obtain⟨e1,b,z0,p,x⟩:=k;exact⟨e1,⟨b,ne _ rfl⟩,z0,p,x.of rfl (Fr.less fun _ z=>z.1)⟩
   ·obtain⟨e1,b,p,x⟩:=k;exact⟨e1,⟨b,ne _ rfl⟩,p,x.of rfl (Fr.less fun _ z=>z.1)⟩
 ·rw[get] at e1 e2;by_cases z:j=i
  ·rw[Kh z] at e1;cases e1;cases b1
  ·by_cases z2:k=i
   ·rw[Kh z2] at e2;cases e2;cases b2
   ·rw[Kf z] at e1;rw[Kf z2] at e2;exact l.inj j k _ _ _ _ e1 e2 b1 b2 q
 ·obtain⟨⟨d,hd⟩,ha⟩:=l.par j a p;refine⟨⟨d,?_⟩,ha⟩;rw[get];by_cases z:j=i
  ·subst z;rw[pi] at p;cases p
  ·rw[Kf z];exact hd
 ·obtain⟨g1,g2,g3⟩:=l.gh a ws ga;refine⟨g1,⟨g2,(g3 i _ c e rfl).symm⟩,fun j s' d e' b'=>?_⟩;rw[get] at e';by_cases z:j=i
  ·rw[Kh z] at e';cases e';cases b'
  ·rw[Kf z] at e';exact g3 j s' d e' b'
end
section
variable {K:Nv} {H:Hp} {B:ba} {v:V}
theorem Vw.GH(h:Vw K H B v .aE):v=.aE:=by cases h;rfl
theorem Vw.tV(h:Vw K H B v (.bl b)):v=.bl b:=by cases h;rfl
theorem Vw.bT{i:Int}(h:Vw K H B v (.int i)):v=.int i:=by cases h;rfl
theorem Vw.dm{x:Str}(h:Vw K H B v (.str x)):v=.str x:=by cases h;rfl
theorem Vw.tupI(h:Vw K H B v (.tup ts)):∃ a vs,v=.ref a/\H a=some (.tup vs)/\av K H B vs ts:=by cases h with|tup h r=>exact⟨_,_,rfl,h,r⟩
theorem Vw.uT(h:Vw K H B v (.cT ts)):∃ a vs,v=.ref a/\yE K a vs/\av K H B vs ts:=by cases h with|cT h r=>exact⟨_,_,rfl,h,r⟩
theorem Vw.e8(h:Vw K H B v (.lst ts)):∃ a vs,v=.ref a/\H a=some (.lst vs)/\av K H B vs ts:=by cases h with|lst h r=>exact⟨_,_,rfl,h,r⟩
theorem Vw.vH(h:Vw K H B v (.gp ts)):∃ a vs,v=.ref a/\bA K H a vs/\av K H B vs ts:=by cases h with|gp h r=>exact⟨_,_,rfl,h,r⟩
end
abbrev UE:=Mu->(R->Mu->Prop)->Prop
variable{ue:UE}
abbrev UT:=Mu->(Bool->Mu->Prop)->Prop
variable{ut:UT}
abbrev UA:=Mu->(List R->Mu->Prop)->Prop
abbrev UO:=Mu->(Option Int->Mu->Prop)->Prop
abbrev U2:=R->R->Mu->(R->Mu->Prop)->Prop
variable{u:U2}
abbrev UC:=List R->Mu->(R->Mu->Prop)->Prop
structure Ed where
 nx:Mu->Prop
 rt:R->Mu->Prop
 bk:Mu->Prop:=fun _=>False
 ct:Mu->Prop:=fun _=>False
abbrev US:=Ed->Mu->Prop
noncomputable def Bv(B:ba)(v:V):R->ba
 |.fr _=>(match v with|.ref a=>more B a|_=>B)
 |_=>B
theorem Fr.d{v:V}{r:R}(f:Fr B H (Bv B v r) H'):Fr B H B H':=fun b o h n=>⟨(f b o h n).1,n⟩
noncomputable def RE(K:Nv)(te:TE)(ue:UE):Prop:=∀(F:Fx) (ad:Nat->Addr) (B:ba) (σ:St) (H:Hp) (μ:Mu) (Q:VK) (Qt:R->Mu->Prop),F.K=K->Rl F ad B σ H μ->ue μ Qt ->
 (∀ v H' r μ',Vr F ad B σ H' μ' v r->Fr B H (Bv B v r) H'->Kp μ μ'->Qt r μ'->Q v H')->te σ H Q
noncomputable def RT(K:Nv)(tt:TT)(ut:UT):Prop:=∀(F:Fx) (ad:Nat->Addr) (B:ba) (σ:St) (H:Hp) (μ:Mu) (Q:Bool->Hp->Prop) (Qt:Bool->Mu->Prop),F.K=K->Rl F ad B σ H μ->ut μ Qt ->
 (∀ b H' μ',Rl F ad B σ H' μ'->Fr B H B H'->Kp μ μ'->Qt b μ'->Q b H')->tt σ H Q
noncomputable def RA(K:Nv)(ta:TA)(ua:UA):Prop:=∀(F:Fx) (ad:Nat->Addr) (B:ba) (σ:St) (H:Hp) (μ:Mu) (Q:List V->Hp->Prop) (Qt:List R->Mu->Prop),F.K=K->Rl F ad B σ H μ->ua μ Qt ->
 (∀ vs H' rs μ',Rl F ad B σ H' μ'->Paired (Hv F ad B H' μ') vs rs->Fr B H B H'->Kp μ μ'->Qt rs μ'->Q vs H')->ta σ H Q
noncomputable def RO(K:Nv)(tt:TO)(ut:UO):Prop:=∀(F:Fx) (ad:Nat->Addr) (B:ba) (σ:St) (H:Hp) (μ:Mu) (Q:Option Int->Hp->Prop) (Qt:Option Int->Mu->Prop),F.K=K->Rl F ad B σ H μ->ut μ Qt ->
 (∀ b H' μ',Rl F ad B σ H' μ'->Fr B H B H'->Kp μ μ'->Qt b μ'->Q b H')->tt σ H Q
noncomputable def lI(K:Nv)(r:R2)(u:U2):Prop:=∀(F:Fx) (ad:Nat->Addr) (B:ba) (σ:St) (H:Hp) (μ:Mu) (Q:VK) (Qt:R->Mu->Prop) (x y:V) (r1 r2:R),F.K=K->Rl F ad B σ H μ->Hv F ad B H μ x r1->Hv F ad B H μ y r2->u r1 r2 μ Qt ->
 (∀ v H' r μ',Vr F ad B σ H' μ' v r->Fr B H (Bv B v r) H'->Kp μ μ'->Qt r μ'->Q v H')->r x y H Q
noncomputable def RC(K:Nv)(r:List V->Hp->VK->Prop)(u:UC):Prop:=∀(F:Fx) (ad:Nat->Addr) (B:ba) (σ:St) (H:Hp) (μ:Mu) (Q:VK) (Qt:R->Mu->Prop) (xs:List V) (rs:List R),F.K=K->Rl F ad B σ H μ->Paired (Hv F ad B H μ) xs rs->u rs μ Qt ->
 (∀ v H' r μ',Vr F ad B σ H' μ' v r->Fr B H (Bv B v r) H'->Kp μ μ'->Qt r μ'->Q v H')->r xs H Q
section
variable {F:Fx} {ad:Nat->Addr} {B:ba} {σ:St} {H:Hp} {μ:Mu} {Q:VK} {Qt:R->Mu->Prop}
theorem Vr.flat{v:V}{t:T}(l:Rl F ad B σ H μ)(r:Rep F.K H B v t):Vr F ad B σ H μ v (.tr t):=⟨l,r⟩
theorem Vr.uy{vs:List V}(l:Rl F ad B σ H μ)(r:av F.K H B vs ts)(e:H p=none):Vr F ad B σ (upd H p (.lst vs)) μ (.ref p) (.fr (.lst ts)):=
 ⟨l.same (cQ.new e),p,rfl,l.AS e,l.zV e,l.new e,vs,ab,r.fr (Fr.more e)⟩
theorem Vr.tU{vs:List V}(l:Rl F ad B σ H μ)(r:av F.K H B vs ts)(e:H p=none):Vr F ad B σ (upd H p (.tup vs)) μ (.ref p) (.tr (.tup ts)):=
 ⟨l.same (cQ.new e),.tup (l.AS e) ab (r.fr (Fr.same (cQ.new e)))⟩
end
structure YE (X:Cx) (e:Expr) (u:UE):Prop where
 ex:∃ t,QE X e t/\RE X.K t u
structure YT (X:Cx) (e:Expr) (u:UT):Prop where
 ex:∃ t,QT X e t/\RT X.K t u
structure YW (X:Cx) (e:Expr) (u:UT):Prop where
 ex:∃ t,QW X e t/\RT X.K t u
structure YA (X:Cx) (es:List Expr) (u:UA):Prop where
 ex:∃ t,QA X es t/\RA X.K t u
structure YO (X:Cx) (e:Option Expr) (u:UO):Prop where
 ex:∃ t,QO X e t/\RO X.K t u
structure Ef (X:Cx) (es:List Expr) (u:UT):Prop where
 ex:∃ t,EI X es t/\RT X.K t u
namespace Y
noncomputable def uC(t:T):UE:=fun μ Q=>Q (.tr t) μ
noncomputable def BU(u:U2)(ua ub:UE):UE:=fun μ Q=>ua μ fun r1 μ1=>ub μ1 fun r2 μ2=>u r1.d r2.d μ2 Q
section
variable {X:Cx} {a b c e o:Expr} {es rest:List Expr} {ua ub uc ue uo:UE} {uA uB:UT} {us:UA} {pos p p2:Pos} {x:Str}
theorem y9{v:V}{t:T}(h:∀ H B,Rep K H B v t):RE K (tC v) (uC t):=fun F ad B σ H μ Q Qt hK l q k=>k v H (.tr t) μ ⟨l,show Rep F.K H B v t from hK ▸ h H B⟩ Fr.refl (Kp.refl μ) q
theorem int{i:Int}:YE X (.Constant (.int i) j pos) (uC (.int i)):=⟨_,Z.int,y9 fun _ _=>.int i⟩
theorem bl{i:Bool}:YE X (.Constant (.bool i) j pos) (uC (.bl i)):=⟨_,Z.bl,y9 fun _ _=>.bl i⟩
theorem aE:YE X (.Constant .none j pos) (uC .aE):=⟨_,Z.aE,y9 fun _ _=>.aE⟩
theorem str{i:Str}:YE X (.Constant (.str i) j pos) (uC (.str i)):=⟨_,Z.str,y9 fun _ _=>.str i⟩
theorem glob{w:V}{u:Value}{t:T}(hg:Gl X x)(hm:X.mg x=some u)(r:RelV w u)(h:∀ H B,Rep X.K H B w t)(hd:autoParam ((x ==("__debug__":Str))=false) ℜ1):YE X (.Name x pos) (uC t):=⟨_,Z.glob hg hm r hd,y9 h⟩
theorem rZ{r:R2}{ta tb:TE}(h:lI K r u)(ha:RE K ta ua)(hb:RE K tb ub):RE K (vt r ta tb) (BU u ua ub):=fun F ad B σ H μ Q Qt hK l q k =>
 ha F ad B σ H μ _ _ hK l q fun x H1 r1 μ1 v1 f1 k1 q1=>hb F ad B σ H1 μ1 _ _ hK v1.rl q1 fun y H2 r2 μ2 v2 f2 k2 q2 =>
  h F ad B σ H2 μ2 _ _ x y r1.d r2.d hK v2.rl (v1.hv.fr f2.d k2) v2.hv q2 fun v H' r μ' v3 f3 k3 q3=>k v H' r μ' v3 ((f1.d.trans f2.d).trans f3) ((k1.trans k2).trans k3) q3
theorem op{o:Operator}{r:R2}(ho:cU X (binaryOp o) r)(h:lI X.K r u)(ha:YE X a ua)(hb:YE X b ub):YE X (.BinOp a o b pos) (BU u ua ub):=by
 obtain⟨ta,qa,ra⟩:=ha;obtain⟨tb,qb,rb⟩:=hb;exact⟨_,Z.op ho qa qb,rZ h ra rb⟩
theorem cmp{o:CmpOp}{r:R2}(ho:cU X (compareOp o) r)(h:lI X.K r u)(ha:YE X a ua)(hb:YE X b ub)(hm:autoParam (behindInMarks o b=false) ℜ0):YE X (.Compare a [o] [b] pos) (BU u ua ub):=by
 obtain⟨ta,qa,ra⟩:=ha;obtain⟨tb,qb,rb⟩:=hb;exact⟨_,Z.cmp ho qa qb hm,rZ h ra rb⟩
theorem ix{r:R2}(hr:rm X r)(h:lI X.K r u)(ha:YE X a ua)(hb:YE X b ub)(hs:autoParam (Z.sim b=true) ℜ0):YE X (.Subscript a b pos) (BU u ua ub):=by
 obtain⟨ta,qa,ra⟩:=ha;obtain⟨tb,qb,rb⟩:=hb;exact⟨_,Z.ix hr qa qb hs,rZ h ra rb⟩
noncomputable def oJ(ue:UE):UT:=fun μ Q=>ue μ fun r μ'=>match r with
 |.tr (.bl b)=>Q b μ'
 |_=>False
theorem Aw{t:TE}(h:RE K t ue):RT K (lX t) (oJ ue):=fun F ad B σ H μ Q Qt hK l q k =>
 h F ad B σ H μ _ _ hK l q fun v H' r μ' v1 f k1 q1=>by
  split at q1
  ·rename_i b;have rp:=v1.2;obtain rfl:=Rep.tV rp;exact⟨b,rfl,k b H' μ' v1.rl f.d k1 q1⟩
  ·exact q1.elim
theorem aZ{o:CmpOp}{r:R2}(ho:cU X (compareOp o) r)(h:lI X.K r u)(ha:YE X a ua)(hb:YE X b ub)(hm:autoParam (behindInMarks o b=false) ℜ0):YT X (.Compare a [o] [b] pos) (oJ (BU u ua ub)):=by
 obtain⟨ta,qa,ra⟩:=ha;obtain⟨tb,qb,rb⟩:=hb;exact⟨_,Z.aZ ho qa qb hm,Aw (rZ h ra rb)⟩
noncomputable def Ai(ut:UT):UT:=fun μ Q=>ut μ fun b μ'=>Q (!b) μ'
theorem qO(ha:YT X a uA):YT X (.UnaryOp .Not a pos) (Ai uA):=by
 obtain⟨ta,qa,ra⟩:=ha;exact⟨_,Z.qO qa,fun F ad B σ H μ Q Qt hK l q k=>ra F ad B σ H μ _ _ hK l q fun b H' μ' l' f k1 q1=>k _ H' μ' l' f k1 q1⟩
theorem tw(h:YW X e uA):YT X e uA:=by
 obtain⟨t,q,r⟩:=h;exact⟨t,Z.tw q,r⟩
theorem n_(ha:YT X a uA):YW X (.BoolOp .And [a] pos) uA:=by obtain⟨t,q,r⟩:=ha;exact⟨t,Z.n_ q,r⟩
theorem mL(ha:YT X a uA):YW X (.BoolOp .Or [a] pos) uA:=by obtain⟨t,q,r⟩:=ha;exact⟨t,Z.mL q,r⟩
noncomputable def vP(u w:UT):UT:=fun μ Q=>u μ fun b μ'=>if b=true then w μ' Q else Q false μ'
noncomputable def HC(u w:UT):UT:=fun μ Q=>u μ fun b μ'=>if b=true then Q true μ' else w μ' Q
theorem Cn{t u:TT}(ha:RT K t uA)(hb:RT K u uB):RT K (tQ t u) (vP uA uB):=fun F ad B σ H μ Q Qt hK l q k=>ha F ad B σ H μ _ _ hK l q fun b H' μ' l' f k1 q1=>by
 cases b with
 |true=>rw[Kh rfl] at q1 ⊢;exact hb F ad B σ H' μ' _ _ hK l' q1 fun b2 H2 μ2 l2 f2 k2 q2=>k b2 H2 μ2 l2 (f.trans f2) (k1.trans k2) q2
 |false=>rw[Kf Ki] at q1 ⊢;exact k _ H' μ' l' f k1 q1
theorem He{t u:TT}(ha:RT K t uA)(hb:RT K u uB):RT K (Iz t u) (HC uA uB):=fun F ad B σ H μ Q Qt hK l q k=>ha F ad B σ H μ _ _ hK l q fun b H' μ' l' f k1 q1=>by
 cases b with
 |false=>rw[Kf Ki] at q1 ⊢;exact hb F ad B σ H' μ' _ _ hK l' q1 fun b2 H2 μ2 l2 f2 k2 q2=>k b2 H2 μ2 l2 (f.trans f2) (k1.trans k2) q2
 |true=>rw[Kh rfl] at q1 ⊢;exact k _ H' μ' l' f k1 q1
theorem wC(ha:YT X a uA)(hb:YW X (.BoolOp .And (b::rest) pos) uB):YW X (.BoolOp .And (a::b::rest) pos) (vP uA uB):=by
 obtain⟨t,q,r⟩:=ha;obtain⟨t',q',r'⟩:=hb;exact⟨_,Z.wC q q',Cn r r'⟩
theorem zY(ha:YT X a uA)(hb:YW X (.BoolOp .Or (b::rest) pos) uB):YW X (.BoolOp .Or (a::b::rest) pos) (HC uA uB):=by
 obtain⟨t,q,r⟩:=ha;obtain⟨t',q',r'⟩:=hb;exact⟨_,Z.zY q q',He r r'⟩
noncomputable def oN(ue:UE):UT:=fun μ Q=>ue μ fun r μ'=>match r with
 |.tr (.bl b)=>Q b μ'
 |.tr (.int i)=>Q (i != 0) μ'
 |_=>False
theorem wU(K:Nv)(hK:X.K=K)(ha:YE X a ua)(he:autoParam (Z.HU a=true) ℜ0):YT X a (oN ua):=by
 obtain⟨t,q,r⟩:=ha;refine⟨_,Z.wU K hK q he,fun F ad B σ H μ Q Qt hK l q k=>r F ad B σ H μ _ _ hK l q fun v H' r1 μ' v1 f k1 q1=>?_⟩
 split at q1
 ·have rp:=v1.2;obtain rfl:=Rep.tV rp;exact⟨_,(Ap.FC ..).symm ▸ rfl,k _ H' μ' v1.rl f.d k1 q1⟩
 ·have rp:=v1.2;obtain rfl:=Rep.bT rp;exact⟨_,(Ap.ID ..).symm ▸ rfl,k _ H' μ' v1.rl f.d k1 q1⟩
 ·exact q1.elim
noncomputable def s_(ue:UE):UE:=fun μ Q=>ue μ fun r μ'=>match r with
 |.tr (.bl b)=>Q (.tr (.bl (!b))) μ'
 |_=>False
theorem not(ha:YE X a ua):YE X (.UnaryOp .Not a pos) (s_ ua):=by
 obtain⟨t,q,r⟩:=ha;refine⟨_,Z.not q,fun F ad B σ H μ Q Qt hK l q k=>r F ad B σ H μ _ _ hK l q fun v H' r1 μ' v1 f k1 q1=>?_⟩
 split at q1
 ·have rp:=v1.2;obtain rfl:=Rep.tV rp;exact⟨_,rfl,k _ H' _ μ' (Vr.flat v1.rl (.bl _)) f.d k1 q1⟩
 ·exact q1.elim
noncomputable def sS(ua ub:UE):UE:=fun μ Q=>ua μ fun r μ'=>match r with
 |.tr (.bl true)=>ub μ' Q
 |.tr (.bl false)=>Q (.tr (.bl false)) μ'
 |_=>False
noncomputable def yP(ua ub:UE):UE:=fun μ Q=>ua μ fun r μ'=>match r with
 |.tr (.bl false)=>ub μ' Q
 |.tr (.bl true)=>Q (.tr (.bl true)) μ'
 |_=>False
theorem and(ha:YE X a ua)(hb:YE X (.BoolOp .And (b::rest) pos) ub):YE X (.BoolOp .And (a::b::rest) pos) (sS ua ub):=by
 obtain⟨t,q,r⟩:=ha;obtain⟨t',q',r'⟩:=hb;refine⟨_,Z.and q q',fun F ad B σ H μ Q Qt hK l q k=>r F ad B σ H μ _ _ hK l q fun v H' r1 μ' v1 f k1 q1=>?_⟩
 split at q1
 ·have rp:=v1.2;obtain rfl:=Rep.tV rp;refine⟨_,rfl,?_⟩;rw[Kh rfl];exact r' F ad B σ H' μ' _ _ hK v1.rl q1 fun v2 H2 r2 μ2 v3 f2 k2 q2=>k v2 H2 r2 μ2 v3 (f.d.trans f2) (k1.trans k2) q2
 ·have rp:=v1.2;obtain rfl:=Rep.tV rp;refine⟨_,rfl,?_⟩;rw[Kf Ki];exact k _ H' _ μ' (Vr.flat v1.rl (.bl _)) f.d k1 q1
 ·exact q1.elim
theorem or(ha:YE X a ua)(hb:YE X (.BoolOp .Or (b::rest) pos) ub):YE X (.BoolOp .Or (a::b::rest) pos) (yP ua ub):=by
 obtain⟨t,q,r⟩:=ha;obtain⟨t',q',r'⟩:=hb;refine⟨_,Z.or q q',fun F ad B σ H μ Q Qt hK l q k=>r F ad B σ H μ _ _ hK l q fun v H' r1 μ' v1 f k1 q1=>?_⟩
 split at q1
 ·have rp:=v1.2;obtain rfl:=Rep.tV rp;refine⟨_,rfl,?_⟩;rw[Kf Ki];exact r' F ad B σ H' μ' _ _ hK v1.rl q1 fun v2 H2 r2 μ2 v3 f2 k2 q2=>k v2 H2 r2 μ2 v3 (f.d.trans f2) (k1.trans k2) q2
 ·have rp:=v1.2;obtain rfl:=Rep.tV rp;refine⟨_,rfl,?_⟩;rw[Kh rfl];exact k _ H' _ μ' (Vr.flat v1.rl (.bl _)) f.d k1 q1
 ·exact q1.elim
theorem one{o:BoolOp}(ha:YE X a ua):YE X (.BoolOp o [a] pos) ua:=by obtain⟨t,q,r⟩:=ha;exact⟨t,Z.one q,r⟩
noncomputable def HQ(uc:UT)(ua ub:UE):UE:=fun μ Q=>uc μ fun b μ'=>if b=true then ua μ' Q else ub μ' Q
theorem wB(hc:YT X c uA)(ha:YE X a ua)(hb:YE X b ub):YE X (.IfExp c a b pos) (HQ uA ua ub):=by
 obtain⟨tc,qc,rc⟩:=hc;obtain⟨t,q,r⟩:=ha;obtain⟨t',q',r'⟩:=hb;refine⟨_,Z.wB qc q q',fun F ad B σ H μ Q Qt hK l q k=>rc F ad B σ H μ _ _ hK l q fun b H' μ' l1 f k1 q1=>?_⟩
 cases b with
 |true=>rw[Kh rfl] at q1 ⊢;exact r F ad B σ H' μ' _ _ hK l1 q1 fun v2 H2 r2 μ2 v3 f2 k2 q2=>k v2 H2 r2 μ2 v3 (f.trans f2) (k1.trans k2) q2
 |false=>rw[Kf Ki] at q1 ⊢;exact r' F ad B σ H' μ' _ _ hK l1 q1 fun v2 H2 r2 μ2 v3 f2 k2 q2=>k v2 H2 r2 μ2 v3 (f.trans f2) (k1.trans k2) q2
noncomputable def yN(ue:UE):UE:=fun μ Q=>ue μ fun r μ'=>match r with
 |.tr (.int i)=>Q (.tr (.int (-i))) μ'
 |_=>False
theorem neg(ha:YE X a ua):YE X (.UnaryOp .USub a pos) (yN ua):=by
 obtain⟨t,q,r⟩:=ha;refine⟨_,Z.un BY q,fun F ad B σ H μ Q Qt hK l q k=>r F ad B σ H μ _ _ hK l q fun v H' r1 μ' v1 f k1 q1=>?_⟩
 split at q1
 ·have rp:=v1.2;obtain rfl:=Rep.bT rp;exact⟨_,rfl,k _ H' _ μ' (Vr.flat v1.rl (.int _)) f.d k1 q1⟩
 ·exact q1.elim
noncomputable def yL:UA:=fun μ Q=>Q [] μ
noncomputable def oY(ue:UE)(us:UA):UA:=fun μ Q=>ue μ fun r μ1=>us μ1 fun rs μ2=>Q (r.d::rs) μ2
noncomputable def uK(ts:List T):UA:=fun μ Q=>Q (ts.map R.tr) μ
theorem nil:YA X [] yL:=⟨_,Z.nil,fun F ad B σ H μ Q Qt hK l q k=>k [] H [] μ l .nil Fr.refl (Kp.refl μ) q⟩
theorem cons(ha:YE X e ue)(hr:YA X es us)(h:autoParam (fo e=true) ℜ0):YA X (e::es) (oY ue us):=by
 obtain⟨t,q,r⟩:=ha;obtain⟨t',q',r'⟩:=hr;exact⟨_,Z.cons q q' h,fun F ad B σ H μ Q Qt hK l q k=>r F ad B σ H μ _ _ hK l q fun v H' r1 μ' v1 f k1 q1=>r' F ad B σ H' μ' _ _ hK v1.rl q1 fun vs H2 rs μ2 l2 ps f2 k2 q2 =>
  k (v::vs) H2 (r1.d::rs) μ2 l2 (.cons (v1.hv.fr f2 k2) ps) (f.d.trans f2) (k1.trans k2) q2⟩
noncomputable def yA:V->Option T
 |.aE=>some .aE
 |.bl b=>some (.bl b)
 |.int i=>some (.int i)
 |.str x=>some (.str x)
 |_=>none
theorem yh{v:V}{t:T}(h:yA v=some t):Rep K H B v t:=by
 unfold yA at h
 split at h
 ·cases h;exact .aE
 ·cases h;exact .bl _
 ·cases h;exact .int _
 ·cases h;exact .str _
 ·cases h
theorem consts{vs:List V}(h:lK es=some vs)(h2:vs.map yA=ts.map some):YA X es (uK ts):=by
 refine⟨_,Z.consts h,fun F ad B σ H μ Q Qt hK l q k=>k vs H _ μ l ?_ Fr.refl (Kp.refl μ) q⟩;clear h q k
 induction vs generalizing ts with
 |nil=>cases ts with
  |nil=>exact .nil
  |cons t ts=>cases h2
 |cons v vs ih=>cases ts with
  |nil=>cases h2
  |cons t ts =>
   rw[Kt,Kt] at h2
   injection h2 with e1 e2
   exact .cons (yh e1) (ih e2)
noncomputable def trees:List R->Option (List T)
 |[]=>some []
 |.tr t::rs=>(trees rs).map (t::·)
 |_=>none
theorem jQ:∀{vs:List V} {rs:List R} {ts:List T},Paired (Hv F ad B H μ) vs rs->trees rs=some ts->av F.K H B vs ts
 |_,_,_,.nil,e=>by cases e;exact .nil
 |_,r::rs,ts,.cons h p,e=>by
  cases r with
  |tr t =>
   unfold trees at e
   cases q:trees rs with
   |none=>rw[q] at e;cases e
   |some us=>rw[q] at e;cases e;exact .cons h (jQ p q)
  |br i=>cases e
  |fr c=>cases e
noncomputable def AV(us:UA):UE:=fun μ Q=>us μ fun rs μ'=>match trees rs with
 |some ts=>ts.length<=sizeLine/\Q (.tr (.tup ts)) μ'
 |none=>False
noncomputable def yZ(us:UA):UE:=fun μ Q=>us μ fun rs μ'=>match trees rs with
 |some ts=>ts.length<=sizeLine/\Q (.fr (.lst ts)) μ'
 |none=>False
theorem tup(h:YA X es us):YE X (.Tuple es k pos) (AV us):=by
 obtain⟨t,q,r⟩:=h;refine⟨_,Z.tup q,fun F ad B σ H μ Q Qt hK l q k=>r F ad B σ H μ _ _ hK l q fun vs H' rs μ' l1 ps f k1 q1=>?_⟩
 split at q1
 ·rename_i ts e;have rp:=jQ ps e;exact⟨by rw[rp.length];exact q1.1,fun p hp=>k _ _ _ μ' (Vr.tU l1 rp hp) (f.trans (Fr.same (cQ.new hp))) k1 q1.2⟩
 ·exact q1.elim
theorem lst(h:YA X es us):YE X (.List es pos) (yZ us):=by
 obtain⟨t,q,r⟩:=h;refine⟨_,Z.lst q,fun F ad B σ H μ Q Qt hK l q k=>r F ad B σ H μ _ _ hK l q fun vs H' rs μ' l1 ps f k1 q1=>?_⟩
 split at q1
 ·rename_i ts e;have rp:=jQ ps e;exact⟨by rw[rp.length];exact q1.1,fun p hp=>k _ _ _ μ' (Vr.uy l1 rp hp) (f.trans (Fr.more hp)) k1 q1.2⟩
 ·exact q1.elim
noncomputable def EF(u:UC)(us:UA):UE:=fun μ Q=>us μ fun rs μ'=>u rs μ' Q
theorem BS{u:UC}{t:TA}(h:RC K r u)(ha:RA K t us):RE K (xY r t) (EF u us):=fun F ad B σ H μ Q Qt hK l q k =>
 ha F ad B σ H μ _ _ hK l q fun vs H' rs μ' l1 ps f k1 q1=>h F ad B σ H' μ' _ _ vs rs hK l1 ps q1 fun v H2 r2 μ2 v2 f2 k2 q2=>k v H2 r2 μ2 v2 (f.trans f2) (k1.trans k2) q2
theorem cb{id:String}{u:UC}(hc:bp X (.builtin id) r)(h:RC X.K r u)(hg:Gl X x)(hm:X.mg x=none)(hv:bootBuiltins x=some (.builtin id))(ha:YA X (e::es) us)(h1:autoParam (fo e=true) ℜ0)(h2:autoParam (es.all fo=true) ℜ0)(hn:autoParam (x≠"__name__") ℜ1)(hdb:autoParam ((x ==("__debug__":Str))=false) ℜ1):
  YE X (.Call (.Name x p) (e::es) [] pos) (EF u us):=by
 obtain⟨t,q,rr⟩:=ha;exact⟨_,Z.cb hc hg hm hv q h1 h2 hn hdb,BS h rr⟩
theorem ct{T:String}{u:UC}(hc:bp X (.type T) r)(h:RC X.K r u)(hg:Gl X x)(hm:X.mg x=none)(hv:bootBuiltins x=some (.type T))(ha:YA X (e::es) us)(h1:autoParam (fo e=true) ℜ0)(h2:autoParam (es.all fo=true) ℜ0)(hn:autoParam (x≠"__name__") ℜ1)(hdb:autoParam ((x ==("__debug__":Str))=false) ℜ1):
  YE X (.Call (.Name x p) (e::es) [] pos) (EF u us):=by
 obtain⟨t,q,rr⟩:=ha;exact⟨_,Z.ct hc hg hm hv q h1 h2 hn hdb,BS h rr⟩
noncomputable def jR:UO:=fun μ Q=>Q none μ
noncomputable def sQ(ue:UE):UO:=fun μ Q=>ue μ fun r μ'=>match r with
 |.tr (.int i)=>Q (some i) μ'
 |_=>False
theorem nT:YO X none jR:=⟨_,Z.nT,fun F ad B σ H μ Q Qt hK l q k=>k none H μ l Fr.refl (Kp.refl μ) q⟩
theorem oG(he:YE X e ue):YO X (some e) (sQ ue):=by
 obtain⟨t,q,r⟩:=he;refine⟨_,Z.oG q,fun F ad B σ H μ Q Qt hK l q k=>r F ad B σ H μ _ _ hK l q fun v H' r1 μ' v1 f k1 q1=>?_⟩
 split at q1
 ·have rp:=v1.2;obtain rfl:=Rep.bT rp;exact⟨_,rfl,k _ H' μ' v1.rl f.d k1 q1⟩
 ·exact q1.elim
end
noncomputable def uG(f:T->T->Mu->(R->Mu->Prop)->Prop):U2:=fun r1 r2 μ Q=>match cont μ r1,cont μ r2 with
 |some t,some u=>f t u μ Q
 |_,_=>False
theorem gi{r:R2}{f:T->T->Mu->(R->Mu->Prop)->Prop}
  (h:∀(F:Fx) (ad:Nat->Addr) (B:ba) (σ:St) (H:Hp) (μ:Mu) (Q:VK) (Qt:R->Mu->Prop) (x y:V) (t u:T),F.K=K->Rl F ad B σ H μ->Vw F.K H B x t->Vw F.K H B y u->f t u μ Qt ->
   (∀ v H' r,Vr F ad B σ H' μ v r->Fr B H (Bv B v r) H'->Qt r μ->Q v H')->r x y H Q):lI K r (uG f):=by
 intro F ad B σ H μ Q Qt x y r1 r2 hK l h1 h2 q k;unfold uG at q
 split at q
 ·rename_i t u e1 e2;exact h F ad B σ H μ Q Qt x y t u hK l (h1.vw l e1) (h2.vw l e2) q fun v H' r v1 s q1=>k v H' r μ v1 s (Kp.refl μ) q1
 ·exact q.elim
noncomputable def yB(C:Int->Int->Prop)(g:Int->Int->Int):T->T->Mu->(R->Mu->Prop)->Prop:=fun t u μ Q=>match t,u with
 |.int i,.int j=>C i j/\Q (.tr (.int (g i j))) μ
 |_,_=>False
theorem cc{C:Int->Int->Prop}{g:Int->Int->Int}:lI K (rI C fun i j=>.int (g i j)) (uG (yB C g)):=gi fun F ad B σ H μ Q Qt x y t u hK l v1 v2 q k=>by
 unfold yB at q
 split at q
 ·obtain rfl:=Vw.bT v1;obtain rfl:=Vw.bT v2;exact⟨_,_,rfl,rfl,q.1,k _ H _ (Vr.flat l (.int _)) Fr.refl q.2⟩
 ·exact q.elim
theorem rW{g:Int->Int->Int}:lI K (qT fun i j=>.int (g i j)) (uG (yB (fun _ _=>True) g)):=gi fun F ad B σ H μ Q Qt x y t u hK l v1 v2 q k=>by
 unfold yB at q
 split at q
 ·obtain rfl:=Vw.bT v1;obtain rfl:=Vw.bT v2;exact⟨_,_,rfl,rfl,k _ H _ (Vr.flat l (.int _)) Fr.refl q.2⟩
 ·exact q.elim
noncomputable def Iv(g:Int->Int->Bool):T->T->Mu->(R->Mu->Prop)->Prop:=fun t u μ Q=>match t,u with
 |.int i,.int j=>Q (.tr (.bl (g i j))) μ
 |_,_=>False
theorem gM{g:Int->Int->Bool}:lI K (qT fun i j=>.bl (g i j)) (uG (Iv g)):=gi fun F ad B σ H μ Q Qt x y t u hK l v1 v2 q k=>by
 unfold Iv at q
 split at q
 ·obtain rfl:=Vw.bT v1;obtain rfl:=Vw.bT v2;exact⟨_,_,rfl,rfl,k _ H _ (Vr.flat l (.bl _)) Fr.refl q⟩
 ·exact q.elim
noncomputable def BE(K:Nv):R2:=fun x y H Q=>∃ a b xs ys,x=.ref a/\y=.ref b/\bO K H a xs/\bO K H b ys/\xs.length+ys.length<=sizeLine /\
 (xs=[]->Q (.ref b) H)/\(xs≠[]->ys=[]->Q (.ref a) H)/\(xs≠[]->ys≠[]->∀ p,H p=none->Q (.ref p) (upd H p (.tup (xs++ys))))
theorem wo{A:Around}{t b:Addr}{ws:List Value}(ht:IsTup s.heap t ([]:List Value).toArray)(hb:IsTup s.heap b ws.toArray)(h0:Q (.ref b) s):wpAny (model prog w) A (binaryOp .Add (.ref t) (.ref b)) Q E s:=by
 obtain⟨⟨cls,dd,data,sl⟩,ho,hc,n,hd⟩:=id ht;obtain⟨⟨cls2,dd2,data2,sl2⟩,ho2,hc2,n2,hd2⟩:=id hb;simp only at hc hd hc2 hd2;subst hc hd hc2 hd2;exact concat_meets ⟨_,ho,rfl⟩ ⟨_,ho2,rfl⟩ noFill_tuple_add seq_tuple_add PySem.F.slot_tuple_add PySem.F.entry_tuple_add (PySem.F.args_tuple_add_2 _ _)
   (tuple_addW0 t b _ ws.toArray n n2 dd dd2 sl sl2 (by simp)) ⟨ho,ho2,h0⟩
theorem Aq:cU X (binaryOp .Add) (BE X.K):=by
 intro pins s σ H x y v u Q I rx ry h;obtain⟨a,b,xs,ys,rfl,rfl,ha,hb,hz,q0,q1,q2⟩:=h;by_cases hx:xs=[]
 ·subst hx
  cases rx;cases ry
  obtain⟨its,r1,p1,_⟩:=I.tuple ha;obtain⟨its2,r2,p2,_⟩:=I.tuple hb;obtain rfl:=Paired.GR r1;exact wo p1 p2 ⟨.ref b,H,I,rfl,q0 rfl⟩
 ·exact sf pins s σ H _ _ v u Q I rx ry ⟨a,b,xs,ys,rfl,rfl,ha,hb,hx,hz,q1 hx,q2 hx⟩
noncomputable def Bn(K:Nv):R2:=fun x y H Q=>(∃ i j,x=.int i/\y=.int j/\Q (.int (i+j)) H)\/(∃ i j,x=.str i/\y=.str j/\i.length+j.length<=sizeLine/\Q (.str (i++j)) H)\/FK x y H Q\/BE K x y H Q
theorem bt(K:Nv)(hK:X.K=K):cU X (binaryOp .Add) (Bn K):=by subst hK;exact yp.or (kG.or (wW.or Aq))
noncomputable def cB{v:V}{t:T}(h:Hv F ad B H μ v (.tr t)):Rep F.K H B v t:=h
noncomputable def iA:U2:=fun r1 r2 μ Q=>match cont μ r1,cont μ r2 with
 |some (.int i),some (.int j)=>Q (.tr (.int (i+j))) μ
 |some (.str i),some (.str j)=>i.length+j.length<=sizeLine/\Q (.tr (.str (i++j))) μ
 |some (.lst xs),some (.lst ys)=>xs.length+ys.length<=sizeLine/\Q (.fr (.lst (xs++ys))) μ
 |some (.tup xs),some (.tup ys)=>xs.length+ys.length<=sizeLine/\Q (.tr (.tup (xs++ys))) μ
 |_,_=>False
theorem Hv.nZ{v:V}{r:R}{xs:List T}(l:Rl F ad B σ H μ)(h:Hv F ad B H μ v r)(e:cont μ r=some (.tup xs)):Rep F.K H B v (.tup xs):=by
 cases r with
 |tr t=>cases e;exact h
 |br i =>
  obtain⟨rfl,s,c,h1,h2⟩:=h;have e2:(μ[i]?).bind Sl.box=some (.tup xs):=e;rw[h1] at e2;have e':s.box=some (.tup xs):=e2;rcases ((l.slot i s h1).boxed e').2.2.1.is with ⟨ts,vs,z,_⟩|⟨ks,ts,vs,z,_⟩<;>cases z
 |fr c=>exact h.elim
noncomputable def sU:U2:=fun r1 r2 μ Q=>match cont μ r1,cont μ r2 with
 |some (.int i),some (.int j)=>nN i j/\Q (.tr (.int (i*j))) μ
 |some (.lst xs),some (.int k)=>-(2^63)<=k/\k<2^63/\xs.length*k.toNat<=sizeLine/\Q (.fr (.lst (List.replicate k.toNat xs).flatten)) μ
 |_,_=>False
theorem vF:lI K Cz sU:=by
 intro F ad B σ H μ Q Qt x y r1 r2 hK l h1 h2 q k;unfold sU at q
 split at q
 ·rename_i i j e1 e2;have a:=h1.vw l e1;have b:=h2.vw l e2;obtain rfl:=Vw.bT a;obtain rfl:=Vw.bT b;exact⟨q.1,k _ H _ μ (Vr.flat l (.int _)) Fr.refl (Kp.refl μ) q.2⟩
 ·rename_i xs j e1 e2;have a:=h1.vw l e1;have b:=h2.vw l e2;obtain rfl:=Vw.bT b;obtain⟨_,_,rfl,ha,ra⟩:=Vw.e8 a;exact⟨_,_,_,rfl,rfl,ha,q.1,q.2.1,by rw[ra.length];exact q.2.2.1,fun p hp=>k _ _ _ μ (Vr.uy l (ra.rep _) hp) (Fr.more hp) (Kp.refl μ) q.2.2.2⟩
 ·exact q.elim
theorem dR(K:Nv)(hK:X.K=K):rm X (Ij K):=by subst hK;exact w_
noncomputable def oh(neg:Bool):T->T->Mu->(R->Mu->Prop)->Prop:=fun t u μ Q=>match u with
 |.aE=>Q (.tr (.bl (match t with|.aE=>!neg|_=>neg))) μ
 |_=>False
theorem qS:lI K (fun x y H Q=>y=.aE/\Q (.bl (decide (x=.aE))) H) (uG (oh false)):=gi fun F ad B σ H μ Q Qt x y t u hK l v1 v2 q k=>by
 unfold oh at q
 split at q
 ·obtain rfl:=Vw.GH v2;refine⟨rfl,?_⟩
  cases v1<;>exact k _ H _ (Vr.flat l (.bl _)) Fr.refl q
 ·exact q.elim
theorem AO:lI K (fun x y H Q=>y=.aE/\Q (.bl (!decide (x=.aE))) H) (uG (oh true)):=gi fun F ad B σ H μ Q Qt x y t u hK l v1 v2 q k=>by
 unfold oh at q
 split at q
 ·obtain rfl:=Vw.GH v2;refine⟨rfl,?_⟩
  cases v1<;>exact k _ H _ (Vr.flat l (.bl _)) Fr.refl q
 ·exact q.elim
noncomputable def BK:T->T->Bool
 |.aE,.aE=>true
 |.bl a,.bl b=>a == b
 |.bl a,.int b=>(if a then 1 else 0) == b
 |.int a,.bl b=>a ==(if b then 1 else 0)
 |.int a,.int b=>a == b
 |.str a,.str b=>a == b
 |_,_=>false
noncomputable def qJ(xs ys:List T):Bool:=xs.length == ys.length && (List.range (min xs.length ys.length)).all fun j=>match xs[j]?,ys[j]? with
 |some x,some y=>BK x y
 |_,_=>true
theorem vT{x y:V}{t u:T}(h1:Rep K H B x t)(h2:Rep K H B y u)(f1:aF t=true)(f2:aF u=true):d9 x=true/\d9 y=true/\rO x y=BK t u:=by
 cases h1<;>first | (cases f1;done) | (cases h2<;>first | (cases f2;done)|exact⟨rfl,rfl,rfl⟩)
noncomputable def zZ(K:Nv)(neg:Bool):R2:=fun x y H Q=>∃ a b xs ys,x=.ref a/\y=.ref b/\((bA K H a xs/\bA K H b ys)\/(bO K H a xs/\bO K H b ys))/\xs.all d9=true/\ys.all d9=true /\
 ∀ c,c=(xs.length == ys.length && (List.range (min xs.length ys.length)).all fun j=>match xs[j]?,ys[j]? with|some x,some y=>rO x y|_,_=>true)->Q (.bl (if neg then !c else c)) H
theorem Dl(hu:X.A.units<cLine):cU X (compareOp .Eq) (zZ X.K false):=by
 intro pins s σ H x y v u Q I rx ry h;obtain⟨a,b,xs,ys,rfl,rfl,hq,fx,fy,q⟩:=h
 cases rx;cases ry
 have item:∀(its its2:List Value),Vals xs its->Vals ys its2->∀ j (h1:j<its.toArray.size) (h2:j<its2.toArray.size),SeqAt.EqAt X.A.in1 s its.toArray[j] its2.toArray[j] (match xs[j]?,ys[j]? with|some x,some y=>rO x y|_,_=>true):=fun its its2 r1 r2 j h1 h2=>by
  have l1:=r1.length;have l2:=r2.length;rw[Kg] at h1 h2;obtain⟨u1,e1,g1⟩:=r1.get (i:=j) (x:=xs[j]) (Kd (by lia))
  obtain⟨u2,e2,g2⟩:=r2.get (i:=j) (x:=ys[j]) (Kd (by lia))
  rw[Kd (show j<xs.length by lia),Kd (show j<ys.length by lia)]
  have z1:its.toArray[j]=u1:=by
   rw[Kd h1] at e1;simpa using e1
  have z2:its2.toArray[j]=u2:=by
   rw[Kd h2] at e2;simpa using e2
  rw[z1,z2];exact mY g1 g2 (KJ.mp fx _ (KS _)) (KJ.mp fy _ (KS _))
 rcases hq with ⟨ha,hb⟩|⟨ha,hb⟩
 ·obtain⟨its,r1,p1,_⟩:=I.list ha;obtain⟨its2,r2,p2,_⟩:=I.list hb;have l1:=r1.length;have l2:=r2.length;by_cases e:xs.length=ys.length
  ·refine MZ p1.isList p2.isList (by rw[Kg,Kg];lia) hu (item its its2 r1 r2) ⟨.bl _,H,I,rfl,q _ ?_⟩
   rw[Kg,<- l1,<- e,Mr,KQ,Nm]
  ·refine Me p1.isList p2.isList (by rw[Kg,Kg,Nl];lia) hu ⟨.bl _,H,I,rfl,q _ ?_⟩
   rw[K3.mpr e,Ni]
 ·obtain⟨its,r1,p1,_⟩:=I.tuple ha;obtain⟨its2,r2,p2,_⟩:=I.tuple hb;have l1:=r1.length;have l2:=r2.length;refine SeqAt.eq_tupleAt p1 p2 hu (item its its2 r1 r2) ⟨.bl _,H,I,rfl,q _ ?_⟩;rw[Kg,Kg,<- l1,<- l2,Bool.and_comm];rfl
theorem b_:∀{xs:List V} {ts:List T},av K H B xs ts->ts.all aF=true->xs.all d9=true
 |_,_,.nil,_=>rfl
 |_,_,.cons h r,f=>by
  rw[KI,KG] at f ⊢;refine⟨?_,b_ r f.2⟩;have f1:=f.1
  cases h<;>first|rfl|cases f1
theorem mO(h1:av K H B xs ts)(h2:av K H B ys us)(f1:ts.all aF=true)(f2:us.all aF=true):
  qJ ts us=(xs.length == ys.length && (List.range (min xs.length ys.length)).all fun j=>match xs[j]?,ys[j]? with|some x,some y=>rO x y|_,_=>true):=by
 unfold qJ;have l1:=h1.length;have l2:=h2.length;rw[l1,l2];congr 1;refine List.all_congr rfl ?_ |>.symm;intro j
 cases a1:ts[j]? with
 |none =>
  have:xs[j]?=none:=K0.mpr (by have:=K0.mp a1;lia)
  rw[this]
 |some t =>
  obtain⟨v1,e1,r1⟩:=h1.get a1;rw[e1]
  cases a2:us[j]? with
  |none =>
   have:ys[j]?=none:=K0.mpr (by have:=K0.mp a2;lia)
   rw[this]
  |some u =>
   obtain⟨v2,e2,r2⟩:=h2.get a2;rw[e2];exact (vT r1 r2 (KJ.mp f1 _ (KH a1)) (KJ.mp f2 _ (KH a2))).2.2
noncomputable def Cd(K:Nv):R2:=fun x y H Q=>Bo x y H Q\/zZ K false x y H Q
theorem cY(K:Nv)(hK:X.K=K)(hu:X.A.units<cLine):cU X (compareOp .Eq) (Cd K):=by subst hK;exact Bm.or (Dl hu)
noncomputable def HB(neg:Bool):T->T->Mu->(R->Mu->Prop)->Prop:=fun t u μ Q=>match t,u with
 |.int i,.int j=>Q (.tr (.bl (if neg then !decide (i=j) else decide (i=j)))) μ
 |.str i,.str j=>Q (.tr (.bl (if neg then !decide (i=j) else decide (i=j)))) μ
 |.bl i,.bl j=>Q (.tr (.bl (if neg then !decide (i=j) else decide (i=j)))) μ
 |.lst xs,.lst ys=>neg=false/\xs.all aF=true/\ys.all aF=true/\Q (.tr (.bl (qJ xs ys))) μ
 |.tup xs,.tup ys=>neg=false/\xs.all aF=true/\ys.all aF=true/\Q (.tr (.bl (qJ xs ys))) μ
 |_,_=>False
theorem dV[DecidableEq α]{f:α->V}(hf:∀ a b,f a=f b->a=b)(a b:α):decide (f a=f b)=decide (a=b):=by
 rw[LD];exact⟨hf a b,fun h=>by rw[h]⟩
theorem fQ:lI K (Cd K) (uG (HB false)):=gi fun F ad B σ H μ Q Qt x y t u hK l v1 v2 q k=>by
 subst hK;unfold HB at q
 split at q
 ·obtain rfl:=Vw.bT v1;obtain rfl:=Vw.bT v2;refine .inl ⟨rfl,?_⟩;rw[dV (f:=V.int) (fun a b h=>by injection h)]
  exact k _ H _ (Vr.flat l (.bl _)) Fr.refl q
 ·obtain rfl:=Vw.dm v1;obtain rfl:=Vw.dm v2;refine .inl ⟨rfl,?_⟩;rw[dV (f:=V.str) (fun a b h=>by injection h)]
  exact k _ H _ (Vr.flat l (.bl _)) Fr.refl q
 ·obtain rfl:=Vw.tV v1;obtain rfl:=Vw.tV v2;refine .inl ⟨rfl,?_⟩;rw[dV (f:=V.bl) (fun a b h=>by injection h)]
  exact k _ H _ (Vr.flat l (.bl _)) Fr.refl q
 ·obtain⟨_,_,rfl,ha,ra⟩:=Vw.e8 v1;obtain⟨_,_,rfl,hb,rb⟩:=Vw.e8 v2;exact .inr ⟨_,_,_,_,rfl,rfl,.inl ⟨bA.of ha,bA.of hb⟩,b_ ra q.2.1,b_ rb q.2.2.1,fun c hc=>by
   rw[<- mO ra rb q.2.1 q.2.2.1] at hc;subst hc;exact k _ H _ (Vr.flat l (.bl _)) Fr.refl q.2.2.2⟩
 ·obtain⟨_,_,rfl,ha,ra⟩:=Vw.tupI v1;obtain⟨_,_,rfl,hb,rb⟩:=Vw.tupI v2;exact .inr ⟨_,_,_,_,rfl,rfl,.inr ⟨bO.of ha,bO.of hb⟩,b_ ra q.2.1,b_ rb q.2.2.1,fun c hc=>by
   rw[<- mO ra rb q.2.1 q.2.2.1] at hc;subst hc;exact k _ H _ (Vr.flat l (.bl _)) Fr.refl q.2.2.2⟩
 ·exact q.elim
noncomputable def Br(f:T->Mu->(R->Mu->Prop)->Prop):UC:=fun rs μ Q=>match rs with
 |[r]=>(match cont μ r with|some t=>f t μ Q|none=>False)
 |_=>False
theorem rq{f:T->Mu->(R->Mu->Prop)->Prop}
  (h:∀(F:Fx) (ad:Nat->Addr) (B:ba) (σ:St) (H:Hp) (μ:Mu) (Q:VK) (Qt:R->Mu->Prop) (x:V) (t:T),F.K=K->Rl F ad B σ H μ->Vw F.K H B x t->f t μ Qt ->
   (∀ v H' r,Vr F ad B σ H' μ v r->Fr B H (Bv B v r) H'->Qt r μ->Q v H')->r [x] H Q):RC K r (Br f):=by
 intro F ad B σ H μ Q Qt xs rs hK l p q k;unfold Br at q
 split at q
 ·split at q
  ·rename_i r0 _ t e;obtain⟨_,_,rfl,h1,p⟩:=Paired.aO p
   cases p;exact h F ad B σ H μ Q Qt _ t hK l (h1.vw l e) q fun v H' r v1 s q1=>k v H' r μ v1 s (Kp.refl μ) q1
  ·exact q.elim
 ·exact q.elim
noncomputable def ye(K:Nv):List V->Hp->VK->Prop:=fun xs H Q=>(∃ p ys,xs=[.ref p]/\(bA K H p ys\/bO K H p ys)/\Q (.int ys.length) H)\/(∃ z,xs=[.str z]/\z.length<=sizeLine/\Q (.int z.length) H)
theorem cE(K:Nv)(hK:X.K=K):bp X (.builtin "len") (ye K):=by subst hK;exact ic.or mT
noncomputable def eU:UC:=fun rs μ Q=>match rs with
 |[r]=>(match cont μ r with
  |some (.lst xs)=>Q (.tr (.tup xs)) μ
  |some (.tup xs)=>Q (.tr (.tup xs)) μ
  |_=>False)
 |_=>False
noncomputable def BP(K:Nv):List V->Hp->VK->Prop:=fun xs H Q=>∃ p ys,xs=[.ref p]/\((bA K H p ys/\∀ l,H l=none->Q (.ref l) (upd H l (.tup ys)))\/(bO K H p ys/\Q (.ref p) H))
theorem gr(K:Nv)(hK:X.K=K):bp X (.type "tuple") (BP K):=by subst hK;exact cZ
theorem iD:RC K (BP K) eU:=by
 intro F ad B σ H μ Q Qt xs rs hK l p q k;subst hK;unfold eU at q
 split at q
 ·obtain⟨_,_,rfl,h1,p⟩:=Paired.aO p;obtain rfl:=Paired.dD p
  split at q
  ·rename_i e;have v1:=h1.vw l e;obtain⟨_,_,rfl,ha,ra⟩:=Vw.e8 v1;exact⟨_,_,rfl,.inl ⟨bA.of ha,fun p hp=>k _ _ _ μ (Vr.tU l ra hp) (Fr.same (cQ.new hp)) (Kp.refl μ) q⟩⟩
  ·rename_i e;have rp:=Hv.nZ l h1 e;have rp':=rp;obtain⟨_,_,rfl,na,ha,ra⟩:=Rep.tupI rp;exact⟨_,_,rfl,.inr ⟨bO.of ha,k _ H _ μ (Vr.flat l rp') Fr.refl (Kp.refl μ) q⟩⟩
  ·exact q.elim
 ·exact q.elim
noncomputable def xq:UC:=fun rs μ Q=>match rs with
 |[.tr (.int i)]=>Q (.tr (.int i)) μ
 |[.tr (.bl k)]=>Q (.tr (.int (if k=true then 1 else 0))) μ
 |_=>False
theorem CW:RC K yW xq:=by
 intro F ad B σ H μ Q Qt xs rs hK l p q k;unfold xq at q
 split at q
 ·obtain⟨_,_,rfl,h1,p⟩:=Paired.aO p
  cases p;cases cB h1;exact k _ H _ μ (Vr.flat l (.int _)) Fr.refl (Kp.refl μ) q
 ·obtain⟨_,_,rfl,h1,p⟩:=Paired.aO p
  cases p;cases cB h1;exact k _ H _ μ (Vr.flat l (.int _)) Fr.refl (Kp.refl μ) q
 ·exact q.elim
noncomputable def zg:T->String->Option Bool
 |.aE,c=>some (ke "NoneType" c)
 |.bl _,c=>some (ke "bool" c)
 |.int _,c=>some (ke "int" c)
 |.str _,c=>some (ke "str" c)
 |.lst _,c=>some (ke "list" c)
 |.tup _,c=>some (ke "tuple" c)
 |_,_=>none
noncomputable def p8(ue:UE)(c:String):UE:=fun μ Q=>ue μ fun r μ'=>match cont μ' r with
 |some t=>(match zg t c with|some b=>Q (.tr (.bl b)) μ'|none=>False)
 |none=>False
theorem Vw.ty{v:V}{t:T}{c:String}(h:Vw K H B v t)(e:zg t c=some b):∃ s,BB H v=some s/\ke s c=b:=by
 cases h with
 |aE=>cases e;exact⟨_,rfl,rfl⟩
 |bl=>cases e;exact⟨_,rfl,rfl⟩
 |int=>cases e;exact⟨_,rfl,rfl⟩
 |str=>cases e;exact⟨_,rfl,rfl⟩
 |tup h r=>cases e;exact⟨_,by unfold BB;simp only[h],rfl⟩
 |lst h r=>cases e;exact⟨_,by unfold BB;simp only[h],rfl⟩
 |gp=>cases e
 |nM=>cases e
 |pk=>cases e
 |exc=>cases e
 |BQ=>cases e
 |il=>cases e
 |adr=>cases e
 |ins=>cases e
 |cT=>cases e
theorem Vr.vw{v:V}{r:R}{t:T}(h:Vr F ad B σ H μ v r)(e:cont μ r=some t):Vw F.K H B v t:=by
 have e':cont μ r.d=some t:=by cases r<;>exact e
 exact h.hv.vw h.rl e'
section
variable {X:Cx} {a b c e o:Expr} {es rest:List Expr} {ua ub uc ue uo:UE} {uA uB:UT} {us:UA} {pos p p2 p3:Pos} {x:Str}
theorem JD{C:String}(K:Nv)(hK:X.K=K)(hg:Gl X "isinstance")(hm:X.mg "isinstance"=none)(ha:YE X a ua)(hgc:Gl X x)(hmc:X.mg x=none)(hvc:bootBuiltins x=some (.type C))(hc:autoParam (C∈["bool","int","str","list","tuple","dict"]) ℜ1)(h1:autoParam (fo a=true) ℜ0)
  (hnx:autoParam (x≠"__name__") ℜ1) (hdx:autoParam ((x ==("__debug__":Str))=false) ℜ1):YE X (.Call (.Name "isinstance" p) [a,.Name x p3] [] pos) (p8 ua C):=by
 obtain⟨t,q,r⟩:=ha;refine⟨_,Z.cb (Z.Ff K hK) hg hm PyProof.Rows.boot_isinstance (Z.cons q (Z.cons (Z.JW hgc hmc hvc hnx hdx) Z.nil) h1) h1,fun F ad B σ H μ Q Qt hK l q k=>r F ad B σ H μ _ _ hK l q fun v H' r1 μ' v1 f k1 q1=>?_⟩;show L2.p8 K [v,.ty C] H' Q;refine⟨hc,?_⟩
 split at q1
 ·rename_i t e
  split at q1
  ·rename_i b e2;obtain⟨s,e3,e4⟩:=Vw.ty (Vr.vw v1 e) e2;rw[e3];subst e4;exact k _ H' (.tr (.bl _)) μ' (Vr.flat v1.rl (.bl _)) f.d k1 q1
  ·exact q1.elim
 ·exact q1.elim
noncomputable def bS(xs:List α)(lo hi:Option Int):List α:=(xs.drop (HT.bK xs.length 0 lo)).take (HT.bK xs.length xs.length hi-HT.bK xs.length 0 lo)
theorem av.cut{vs:List V}(r:av K H B vs ts)(lo hi:Option Int):av K H B (jG vs lo hi) (bS ts lo hi):=by
 unfold jG bS;rw[r.length];exact (r.drop _).take _
noncomputable def GL(K:Nv):V->Option Int->Option Int->Hp->VK->Prop:=fun x lo hi H Q=>∃ a xs,x=.ref a/\bO K H a xs/\HT.bK xs.length 0 lo=0/\HT.bK xs.length xs.length hi=xs.length/\Q (.ref a) H
theorem hZ{A:Around}{t sl:Addr}{vl vu:Value}{lo hi:Option Int}(ht:IsTup s.heap t items)(hs:s.heap.IsSliceOf sl vl vu .none)(pl:IsPart vl lo)(pu:IsPart vu hi)
  (h1:HT.bK items.size 0 lo=0) (h2:HT.bK items.size items.size hi=items.size) (h:Q (.ref t) s):wpAny (model prog w) A (getItem (.ref t) (.ref sl)) Q E s:=by
 obtain⟨os,hos,hcs,hds⟩:=id hs;have hTs:s.TypeIs (.ref sl) "slice":=⟨os,hos,hcs⟩;unfold getItem
 try with_reducible refine KL ?_
 first|refine Kb (Km ?_)|skip
 refine Kb (wpAny_sequenceKey ht.typeIs (by decide) ?_)
 refine Kb (Lb (name:=Str.ofString "__getitem__") ht.typeIs Lm
  (LC Lm ht.typeIs entry_tuple_getitem ?_ (args_tuple_getitem _ _)))
 show wpAny _ _ (Builtin.Tuple.tupleItemsOf (.ref t) >>= _) _ _ s;refine Kb (tupleItemsOf_ ht ?_);refine Kb (MQ hTs ?_);rw[Kh (by decide)]
 refine Kb (HT.eZ hs pl pu ?_);show wpAny _ _ (if (((HT.bK items.size 0 lo:Nat):Int) == 0 && (1:Int) == 1 && (HT.bK items.size items.size hi-HT.bK items.size 0 lo) == items.size)=true then _ else _) _ _ s
 rw[Kh (by rw[h1,h2];simp)]
 unfold Builtin.Tuple.tupleIsExact;refine Kb ?_;refine Kb (MQ ht.typeIs (Km ?_));rw[Kh (by decide)]
 exact Kb (MK (Km ⟨_,rfl,Km h⟩))
theorem DV:su X (GL X.K):=by
 intro pins s σ H x v vl vu lo hi sl Q I rx hs pl pu h;obtain⟨a,xs,rfl,hx,h1,h2,q⟩:=h;cases rx;obtain⟨its,r,ht,hz⟩:=I.tuple hx;have hlen:its.toArray.size=xs.length:=by rw[Kg];exact r.length.symm
 exact⟨"tuple",_,Lm.lookup,ht.typeIs,hZ ht hs pl pu (by rw[hlen];exact h1) (by rw[hlen];exact h2) ⟨.ref a,H,I,rfl,q⟩⟩
noncomputable def Fe(K:Nv):V->Option Int->Option Int->Hp->VK->Prop:=fun x lo hi H Q=>Gf K x lo hi H Q\/uO K x lo hi H Q\/GL K x lo hi H Q
theorem Ja(K:Nv)(hK:X.K=K):su X (Fe K):=by subst hK;exact rF.or (pU.or DV)
noncomputable def Ck(ue:UE)(ul uh:UO):UE:=fun μ Q=>ue μ fun r μ1=>ul μ1 fun lo μ2=>uh μ2 fun hi μ3=>match cont μ3 r.d with
 |some (.lst xs)=>Q (.fr (.lst (bS xs lo hi))) μ3
 |some (.gp xs)=>Q (.fr (.lst (bS xs lo hi))) μ3
 |some (.tup xs)=>Q (.tr (.tup (bS xs lo hi))) μ3
 |_=>False
end
end Y
structure tZ (F:Fx) (B:ba) (H:Hp) (D:Ends) (E:Ed):Prop where
 nx:∀ ad' B' σ' H' μ',Rl F ad' B' σ' H' μ'->Fr B H B' H'->E.nx μ'->D.nx σ' H'
 rt:∀ ad' B' σ' H' μ' v r,Vr F ad' B' σ' H' μ' v r->E.rt r μ'->D.rt v H'
 bk:∀ ad' B' σ' H' μ',Rl F ad' B' σ' H' μ'->Fr B H B' H'->E.bk μ'->D.bk σ' H'
 ct:∀ ad' B' σ' H' μ',Rl F ad' B' σ' H' μ'->Fr B H B' H'->E.ct μ'->D.ct σ' H'
theorem tZ.step{B1:ba}{E:Ed}(h:tZ F B H D E)(f:Fr B H B1 H1):tZ F B1 H1 D E:=
 ⟨fun ad' B' σ' H' μ' l g q=>h.nx ad' B' σ' H' μ' l (f.trans g) q,h.rt,fun ad' B' σ' H' μ' l g q=>h.bk ad' B' σ' H' μ' l (f.trans g) q,fun ad' B' σ' H' μ' l g q=>h.ct ad' B' σ' H' μ' l (f.trans g) q⟩
noncomputable def RS(K:Nv)(ts:TS)(us:US):Prop:=∀(F:Fx) (D:Ends) (E:Ed) (ad:Nat->Addr) (B:ba) (σ:St) (H:Hp) (μ:Mu),F.K=K->Rl F ad B σ H μ->us E μ->tZ F B H D E->ts D σ H
abbrev UG:=R->Mu->(Mu->Prop)->Prop
abbrev rD:=List T->Mu->(Mu->Prop)->Prop
noncomputable def RG(K:Nv)(g:TG)(ug:UG):Prop:=∀(F:Fx) (ad:Nat->Addr) (B:ba) (σ:St) (H:Hp) (μ:Mu) (v:V) (r:R) (B0:ba) (H0:Hp) (Q:St->Hp->Prop) (Qt:Mu->Prop),F.K=K->Vr F ad B σ H μ v r->Fr B0 H0 (Bv B v r) H->ug r μ Qt ->
 (∀ ad' B' σ' H' μ',Rl F ad' B' σ' H' μ'->Fr B0 H0 B' H'->Qt μ'->Q σ' H')->g v σ H Q
noncomputable def JT(K:Nv)(g:rf)(ug:rD):Prop:=∀(F:Fx) (ad:Nat->Addr) (B:ba) (σ:St) (H:Hp) (μ:Mu) (vs:List V) (ts:List T) (B0:ba) (H0:Hp) (Q:St->Hp->Prop) (Qt:Mu->Prop),F.K=K->Rl F ad B σ H μ->av F.K H B vs ts->Fr B0 H0 B H->ug ts μ Qt ->
 (∀ ad' B' σ' H' μ',Rl F ad' B' σ' H' μ'->Fr B0 H0 B' H'->Qt μ'->Q σ' H')->g vs σ H Q
structure YG (X:Cx) (e:Expr) (u:UG):Prop where
 ex:∃ t,QG X e t/\RG X.K t u
structure EX (X:Cx) (es:List Expr) (u:rD):Prop where
 ex:∃ t,HG X es t/\JT X.K t u
structure YS (X:Cx) (st:Stmt) (u:US):Prop where
 ex:∃ t,QS X st t/\RS X.K t u
structure YB (X:Cx) (sts:List Stmt) (u:US):Prop where
 ex:∃ t,QB X sts t/\RS X.K t u
namespace Y
noncomputable def vp(μ:Mu)(i:Nat):Prop:=match μ[i]? with
 |some (.pb _)=>False
 |_=>True
theorem mQ(h:vp μ i):∀ c,μ[i]?≠some (.pb c):=fun c e=>by unfold vp at h;rw[e] at h;exact h
noncomputable def gN(i:Nat):UG:=fun r μ Q=>match r with
 |.tr t=>vp μ i/\Q (μ.set i (.tr t))
 |.fr c=>vp μ i/\Q (μ.set i (.bx c))
 |.br _=>False
section
variable {X:Cx} {a b c e o tg:Expr} {es rest:List Expr} {ua ub uc ue uo:UE} {uA uB:UT} {us:UA} {pos pos' p p2 p3:Pos} {x:Str} {st:Stmt} {sts xs ys:List Stmt} {u w:US}
theorem mS:RG K (bJ i) (gN i):=fun F ad B σ H μ v r B0 H0 Q Qt hK h f q k=>by
 cases r with
 |tr t=>exact k ad B _ H _ (h.1.Cm (mQ q.1) h.2) f q.2
 |br i=>exact q.elim
 |fr c =>
  obtain⟨l,a,rfl,n,h0,l2,x⟩:=h;exact k _ _ _ H _ (l2.setB (mQ q.1) h0 n l.own l.gB x) f q.2
theorem bB(hN:X.N.Nodup)(hi:X.N[i]?=some x)(hx:Loc X.env.scope x)(hf:autoParam (X.fn x=true\/X.env.scope.names.lookup x=some .local) ℜ2):YG X (.Name x pos) (gN i):=⟨_,Z.bB hN hi hx hf,mS⟩
noncomputable def HV:rD:=fun ts μ Q=>match ts with
 |[]=>Q μ
 |_=>False
noncomputable def HL(g:UG)(gs:rD):rD:=fun ts μ Q=>match ts with
 |[]=>False
 |t::ts=>g (.tr t) μ fun μ'=>gs ts μ' Q
theorem mi:EX X [] HV:=⟨_,Z.mi,fun F ad B σ H μ vs ts B0 H0 Q Qt hK l r f q k=>by
 cases r with
 |nil=>exact⟨rfl,k ad B σ H μ l f q⟩
 |cons=>exact q.elim⟩
theorem d6{g:UG}{gs:rD}(h1:YG X e g)(h2:EX X es gs)(hs:autoParam ((assignEach (e::es) X.env).map (·.2)=assign e X.env::(assignEach es X.env).map (·.2)) ℜ0):EX X (e::es) (HL g gs):=by
 obtain⟨t,q,r⟩:=h1;obtain⟨t',q',r'⟩:=h2;refine⟨_,Z.d6 q q' hs,fun F ad B σ H μ vs ts B0 H0 Q Qt hK l rs f q k=>?_⟩
 cases rs with
 |nil=>exact q.elim
 |cons h hr=>exact⟨_,_,rfl,r F ad B σ H μ _ (.tr _) B H _ _ hK ⟨l,h⟩ Fr.refl q fun ad' B' σ' H' μ' l' f' q'=>r' F ad' B' σ' H' μ' _ _ B0 H0 _ _ hK l' (hr.fr f') (f.trans f') q' k⟩
noncomputable def gT(n:Nat)(gs:rD):UG:=fun r μ Q=>match cont μ r.d with
 |some (.tup ts)=>ts.length=n/\gs ts μ Q
 |some (.lst ts)=>ts.length=n/\gs ts μ Q
 |_=>False
noncomputable def GS(K:Nv)(n:Nat)(t:rf):TG:=fun v σ H Q=>∃ a xs,v=.ref a/\(bO K H a xs\/bA K H a xs)/\xs.length=n/\t xs σ H Q
theorem mD{prog:Program}{w:World}{A:Around}{E:Value->Shared->Prop}{t:Addr}(hne:t≠it):∀(n i:Nat) (s:Shared) (Q:List Value->Shared->Prop),s.heap.IsListIter it t i->s.heap.IsList t items->i+n<=items.size ->
  (∀ h',h'.IsListIter it t (i+n)->Heap.SameBut it s.heap h'->Q ((items.toList.drop i).take n) {s with heap:=h'})->wpAny (model prog w) A (draw (.ref it) n) Q E s
 |0,i,s,Q,hit,_,_,hQ=>by
  show wpAny _ _ (pure []) Q E s;exact Km (by simpa using hQ s.heap hit (Heap.SameBut.refl ..))
 |n+1,i,s,Q,hit,ht,hle,hQ=>by
  have hlt:i<items.size:=by lia
  show wpAny _ _ (pyNext (.ref it) >>= _) Q E s;refine Kb (Mj hit ht (x:=items[i]) (by simp[hlt]) fun h₁ hit₁ hs₁=>?_)
  refine Kb (KL (mD hne n (i+1) _ _ hit₁ (ht.extBut hs₁.extBut hne) (by lia) fun h₂ hit₂ hs₂=>Km ?_))
  have hd:items.toList.drop i=items[i]::items.toList.drop (i+1):=by simp[L8,hlt]
  have:=hQ h₂ (by rw[show i+(n+1)=i+1+n by lia];exact hit₂) (hs₁.trans hs₂)
  rw[hd,List.take_succ_cons] at this;exact this
theorem je{w:World}{A:Around}{t:Addr}{Q:List Value->Shared->Prop}(hh:A.handled=none)(ht:s.heap.IsList t items)
  (hQ:∀ h',Heap.ExtBut s.heap.objs.size s.heap h'->Q items.toList {s with heap:=h'}):wpAny (model prog w) A (unpackItems (.ref t) items.size none) Q E s:=by
 have hlt:t≠s.heap.objs.size:=by obtain⟨o,ho,_⟩:=ht;exact Kz (Kl ho)
 unfold unpackItems;refine Kb ?_
 ·unfold notIterableAtAll;refine Kb (wpAny_specialOf ht.typeIs F.slot_list_iter.lookup ?_);refine Km ?_;simp only[Mb,MO];refine Kb (KL (KY ht ?_));refine Kb (KL (mD hlt items.size 0 _ _ ⟨_,Kq _ rfl,rfl,rfl⟩ (ht.push _) (by lia) fun h₁ hit₁ hs₁=>?_))
  have hall:List.take items.size (List.drop 0 items.toList)=items.toList:=by
   rw[Ll];exact K8 (by simp)
  rw[hall];rw[Kf (by simp)]
  have ht₁:h₁.IsList t items:=(ht.push _).extBut hs₁.extBut hlt;refine Kb (KL (Mo hh hit₁ ht₁ (by simp) fun h₂ he₂=>?_))
  simp only[Option.isSome_none,Mb,MO];refine Km (hQ h₂ fun b o hb e=>he₂ b o hb (hs₁.extBut b o hb (Ke _ e)))
theorem AN{t:rf}(hc:X.calm=true)(h:EG X es t)
  (hn:autoParam ((assignEach es X.env).length=n) ℜ0) (hst:autoParam ((assignEach es X.env).findIdx? (·.1)=none) ℜ0):PG X (.Tuple es k pos) (GS X.K n t):=by
 intro pins s σ H v u Q I r hw;obtain⟨a,xs,e1,hq,hl,hw⟩:=hw;rcases hq with hq|hq
 ·exact xO hc h hn hst pins s σ H v u Q I r ⟨a,xs,e1,hq,hl,hw⟩
 ·subst e1;cases r;obtain⟨its,rv,ht,hz⟩:=I.list hq;rw[assign_Tuple];refine Kb (MG ?_);unfold unpack;have hsz:(assignEach es X.env).length=its.toArray.size:=by rw[hn,<- hl,rv.length];simp
  rw[hsz,hst];refine Kb (KL (je (I.ok.hd hc) ht.isList fun h' hx=>?_));have I1:Inv X pins σ H {s with heap:=h'}:=I.kept (t':=s.toks) fun b o e=>hx b o (Kz (Kl e)) e
  exact h pins _ σ H xs _ Q I1 (by simpa using rv) hw
theorem xo(K:Nv)(hK:X.K=K){gs:rD}(hc:X.calm=true)(h:EX X es gs)(hn:autoParam ((assignEach es X.env).length=n) ℜ0)(hst:autoParam ((assignEach es X.env).findIdx? (·.1)=none) ℜ0):YG X (.Tuple es k pos) (gT n gs):=by
 obtain⟨t,q,r⟩:=h;subst hK;refine⟨_,⟨AN hc q.h hn hst⟩,fun F ad B σ H μ v rr B0 H0 Q Qt hF h f q k=>?_⟩;have l:=h.rl;have f':Fr B0 H0 B H:=fun b o h n=>⟨(f b o h n).1,fun z=>(f b o h n).2 (by cases rr<;>first|exact z | (cases v<;>first|exact z|exact .inr z))⟩
 unfold gT at q
 split at q
 ·rename_i ts e;have w:=h.hv.vw l e;rw[hF] at w;obtain⟨_,_,rfl,ha,ra⟩:=Vw.tupI w;exact⟨_,_,rfl,.inl (bO.of ha),by rw[ra.length];exact q.1,r F ad B σ H μ _ ts B0 H0 Q Qt hF l (by rw[hF];exact ra) f' q.2 k⟩
 ·rename_i ts e;have w:=h.hv.vw l e;rw[hF] at w;obtain⟨_,_,rfl,ha,ra⟩:=Vw.e8 w;exact⟨_,_,rfl,.inr (bA.of ha),by rw[ra.length];exact q.1,r F ad B σ H μ _ ts B0 H0 Q Qt hF l (by rw[hF];exact ra) f' q.2 k⟩
 ·exact q.elim
theorem bL:YB X [] (fun E μ=>E.nx μ):=⟨_,Z.bL,fun F D E ad B σ H μ hK l q h=>h.nx ad B σ H μ l Fr.refl q⟩
theorem az(h:YS X st u):YB X [st] u:=by obtain⟨t,q,r⟩:=h;exact⟨t,Z.az q,r⟩
noncomputable def zR(u w:US):US:=fun E μ=>u {E with nx:=w E} μ
theorem ah(h:YS X st u)(h2:YB X sts w):YB X (st::sts) (zR u w):=by
 obtain⟨t,q,r⟩:=h;obtain⟨t',q',r'⟩:=h2;exact⟨_,Z.ah q q',fun F D E ad B σ H μ hK l q h=>r F {D with nx:=t' D} {E with nx:=w E} ad B σ H μ hK l q
  ⟨fun ad1 B1 σ1 H1 μ1 l1 f1 q1=>r' F D E ad1 B1 σ1 H1 μ1 hK l1 q1 (h.step f1),h.rt,h.bk,h.ct⟩⟩
noncomputable def lu(ue:UE)(g:UG):US:=fun E μ=>ue μ fun r μ'=>g r μ' E.nx
theorem mW{tg:TG}{g:UG}(he:RE K te ue)(hg:RG K tg g):RS K (lr te tg) (lu ue g):=fun F D E ad B σ H μ hK l q h =>
 he F ad B σ H μ _ _ hK l q fun v H' r μ' v1 f k1 q1=>hg F ad B σ H' μ' v r B H _ _ hK v1 f q1 fun ad' B' σ' H2 μ2 l2 f2 q2=>h.nx ad' B' σ' H2 μ2 l2 f2 q2
theorem set(hN:X.N.Nodup)(hi:X.N[i]?=some x)(hx:Loc X.env.scope x)(he:YE X e ue)(hs:autoParam (Z.EK e=true) ℜ0)(hf:autoParam (X.fn x=true\/X.env.scope.names.lookup x=some .local) ℜ2):
  YS X (.Assign [.Name x pos'] e pos) (lu ue (gN i)):=by
 obtain⟨t,q,r⟩:=he;exact⟨_,Z.set hN hi hx q hs hf,mW r mS⟩
theorem asg{g:UG}(he:YE X e ue)(hg:YG X tg g)(hs:autoParam (swapsWithSole [tg] e pos.line X.env=pure false) ℜ0)(hw:autoParam (swappedStores [tg] e X.env=pure none) ℜ0)
  (h1:autoParam ((assignEach [tg] X.env).map (·.2)=[assign tg X.env]) ℜ0):YS X (.Assign [tg] e pos) (lu ue g):=by
 obtain⟨t,q,r⟩:=he;obtain⟨t',q',r'⟩:=hg;exact⟨_,Z.asg q q' hs hw h1,mW r r'⟩
noncomputable def AB(ue:UE):US:=fun E μ=>ue μ E.rt
theorem ret(he:YE X e ue):YS X (.Return (some e) pos) (AB ue):=by
 obtain⟨t,q,r⟩:=he;exact⟨_,Z.ret q,fun F D E ad B σ H μ hK l q h=>r F ad B σ H μ _ _ hK l q fun v H' r1 μ' v1 f k1 q1=>h.rt ad B σ H' μ' v r1 v1 q1⟩
noncomputable def sJ(ue:UE):US:=fun E μ=>ue μ fun _ μ'=>E.nx μ'
theorem expr(he:YE X e ue)(hs:autoParam (Z.EK e=true) ℜ0):YS X (.Expr e pos) (sJ ue):=by
 obtain⟨t,q,r⟩:=he;exact⟨_,Z.expr q hs,fun F D E ad B σ H μ hK l q h=>r F ad B σ H μ _ _ hK l q fun v H' r1 μ' v1 f k1 q1=>h.nx ad B σ H' μ' v1.rl f.d q1⟩
noncomputable def zd(c:UT)(u w:US):US:=fun E μ=>c μ fun b μ'=>if b=true then u E μ' else w E μ'
theorem dJ(hc:YT X c uA)(ha:YB X xs u)(hb:YB X ys w):YS X (.If c xs ys pos) (zd uA u w):=by
 obtain⟨tc,qc,rc⟩:=hc;obtain⟨t,q,r⟩:=ha;obtain⟨t',q',r'⟩:=hb;refine⟨_,Z.dJ qc q q',fun F D E ad B σ H μ hK l q h=>rc F ad B σ H μ _ _ hK l q fun b H' μ' l1 f k1 q1=>?_⟩
 cases b with
 |true=>rw[Kh rfl] at q1 ⊢;exact r F D E ad B σ H' μ' hK l1 q1 (h.step f)
 |false=>rw[Kf Ki] at q1 ⊢;exact r' F D E ad B σ H' μ' hK l1 q1 (h.step f)
end
end Y
structure kO (K:Nv) (J:It) (Src:Hp->ba->Prop) (items:List T):Prop where
 step:∀ H B i t,(∀ b,B b->∃ o,H b=some o)->Src H B->items[i]?=some t->J.go i H/\∀ x H2,J.B7 i H x H2->cQ H H2/\Rep K H2 B x t
 stop:∀ H B,Src H B->J.stop items.length H
theorem kO.imp{J:It}{Src Src':Hp->ba->Prop}{items:List T}(h:kO K J Src items)(f:∀ H B,Src' H B->Src H B):kO K J Src' items:=⟨fun H B i t hb s e=>h.step H B i t hb (f H B s) e,fun H B s=>h.stop H B (f H B s)⟩
noncomputable def FP(F:Fx)(ad:Nat->Addr)(Src:Hp->ba->Prop):Option (Nat×List T)->Prop
 |none=>∀ B1 H1 B2 H2,Fr B1 H1 B2 H2->Src H1 B1->Src H2 B2
 |some (j,ls)=>(∀ B' σ' H' μ',Rl F ad B' σ' H' μ'->cont μ' (.br j)=some (.lst ls)->Src H' B')/\∀ B' H',Rep F.K H' B' (.ref (ad j)) (.lst ls)->Src H' B'
abbrev UI:=Mu->(List T->Option (Nat×List T)->Mu->Prop)->Prop
variable{ui:UI}
noncomputable def RI(K:Nv)(wi:TI)(ui:UI):Prop:=∀(F:Fx) (ad:Nat->Addr) (B:ba) (σ:St) (H:Hp) (μ:Mu) (R:It->Hp->Prop) (Rt:List T->Option (Nat×List T)->Mu->Prop),F.K=K->Rl F ad B σ H μ->ui μ Rt ->
 (∀ J H' μ' items gd Src,Rl F ad B σ H' μ'->Fr B H B H'->Kp μ μ'->kO K J Src items->Src H' B->FP F ad Src gd->(∀ j ls,gd=some (j,ls)->cont μ' (.br j)=some (.lst ls))->Rt items gd μ'->R J H')->wi σ H R
structure YI (X:Cx) (tg it:Expr) (u:UI):Prop where
 ex:∃ t,QI X tg it t/\RI X.K t u
theorem xh:kO K (xN K a) (fun H B=>∃ vs,bA K H a vs/\av K H B vs ts) ts:=
 ⟨fun H B i t hb ⟨vs,h,r⟩ e=>by
  obtain⟨v,e1,rv⟩:=r.get e;refine⟨⟨vs,v,h,e1⟩,fun x H2 y=>?_⟩;obtain⟨rfl,y⟩:=y;have:=y vs h;rw[e1] at this;cases this;exact⟨cQ.refl _,rv⟩,fun H B ⟨vs,h,r⟩=>⟨vs,h,by rw[r.length];exact Kk _⟩⟩
theorem DL:kO K (pT K a) (fun H B=>∃ vs,bO K H a vs/\av K H B vs ts) ts:=
 ⟨fun H B i t hb ⟨vs,h,r⟩ e=>by
  obtain⟨v,e1,rv⟩:=r.get e;refine⟨⟨vs,v,h,e1⟩,fun x H2 y=>?_⟩;obtain⟨rfl,y⟩:=y;have:=y vs h;rw[e1] at this;cases this;exact⟨cQ.refl _,rv⟩,fun H B ⟨vs,h,r⟩=>⟨vs,h,by rw[r.length];exact Kk _⟩⟩
noncomputable def pairs(ts:List T):List T:=(List.range ts.length).map fun i=>.tup [.int (i:Nat),(ts[i]?).getD .aE]
theorem Du{lo:Int}:kO K (yF lo n) (fun _ _=>True) ((List.range n).map fun k=>T.int (lo+(k:Nat))):=
 ⟨fun H B i t hb _ e=>by
  rw[K2] at e;have hi:i<n:=by
   rcases KU i n with z|z
   ·exact z
   ·rw[K0.mpr (by simpa using z)] at e;cases e
  rw[Mz hi] at e;refine⟨hi,fun x H2 y=>?_⟩;obtain⟨rfl,rfl⟩:=y;cases e;exact⟨cQ.refl _,.int _⟩,fun H B _=>by simp[yF]⟩
noncomputable def wL(K:Nv)(tl:TE):TI:=fun σ H R=>tl σ H fun x H1=>∃ a,x=V.ref a/\(((∃ xs,bA K H1 a xs)/\R (xN K a) H1)\/((∃ xs,bO K H1 a xs)/\R (pT K a) H1))
theorem ym(hl:PE X l tl):PI X tg l (wL X.K tl):=by
 intro pins s σ H R I h;refine bM (hl pins s σ H _ I h) fun v s1 hq2=>?_;obtain⟨x,H1,I1,r1,q1⟩:=hq2;obtain⟨a,rfl,q⟩:=q1;cases r1;rcases q with ⟨⟨xs,hq⟩,q⟩|⟨⟨xs,hq⟩,q⟩
 ·obtain⟨its,rv,p,hz⟩:=I1.list hq;refine KY p.isList ?_;refine⟨s1.heap.objs.size,[s1.heap.objs.size],_,_,H1,rfl,I1.kept (t':=s1.toks) fun b o e=>Ke _ e,lW a _,⟨_,Kq _ rfl,rfl,rfl⟩,fun b hb=>?_,q⟩;have e:b=s1.heap.objs.size:=by simpa using hb
  subst e;exact I1.oq (Kk _) (I1.aU.fresh (Kk _))
 ·obtain⟨its,rv,p,hz⟩:=I1.tuple hq;refine Lx (show s1.heap.IsTuple a its.toArray from p) ?_;refine⟨s1.heap.objs.size,[s1.heap.objs.size],_,_,H1,rfl,I1.kept (t':=s1.toks) fun b o e=>Ke _ e,kz a _,⟨_,Kq _ rfl,rfl,rfl⟩,fun b hb=>?_,q⟩;have e:b=s1.heap.objs.size:=by simpa using hb
  subst e;exact I1.oq (Kk _) (I1.aU.fresh (Kk _))
namespace Y
section
variable {X:Cx} {a b c e o tg it:Expr} {es rest:List Expr} {ua ub uc ue uo:UE} {uA uB:UT} {us:UA} {pos pos' p p2 p3:Pos} {x:Str} {st:Stmt} {sts xs ys:List Stmt} {u w:US}
noncomputable def BD(ue:UE):UI:=fun μ Rt=>ue μ fun r μ'=>match r with
 |.br j=>(match cont μ' (.br j) with|some (.lst ts)=>Rt ts (some (j,ts)) μ'|_=>False)
 |.tr (.lst ts)=>Rt ts none μ'
 |.fr (.lst ts)=>Rt ts none μ'
 |.tr (.tup ts)=>Rt ts none μ'
 |.tr (.gp ts)=>Rt ts none μ'
 |.tr (.cT ts)=>Rt ts none μ'
 |_=>False
theorem any(K:Nv)(hK:X.K=K)(he:YE X e ue):YI X tg e (BD ue):=by
 obtain⟨t,q,r⟩:=he;subst hK;refine⟨_,⟨ym q.h⟩,fun F ad B σ H μ R Rt hF l q k=>r F ad B σ H μ _ _ hF l q fun v H' r1 μ' v1 f k1 q1=>?_⟩;have hv:=v1.hv;have l1:=v1.rl;have go:∀(ts:List T) (a:Addr) (t:T),v=.ref a->Rep F.K H' B (.ref a) t->(t=.lst ts\/t=.gp ts)->Rt ts none μ'->∃ a,v=V.ref a/\(((∃ xs,bA X.K H' a xs)/\R (xN X.K a) H')\/((∃ xs,bO X.K H' a xs)/\R (pT X.K a) H')):=fun ts a t ev rp et q=>by
  have sr:∀ H B,Rep F.K H B (.ref a) t->∃ vs,bA X.K H a vs/\av X.K H B vs ts:=fun H B h=>by
   rw[hF] at h;rcases et with rfl|rfl
   ·obtain⟨_,n,h,r⟩:=Rep.CY h;exact⟨_,bA.of h,r⟩
   ·obtain⟨_,h,r⟩:=Rep.IL h;exact⟨_,h.sq,r⟩
  obtain⟨vs,h1,_⟩:=sr _ _ rp;exact⟨a,ev,.inl ⟨⟨vs,h1⟩,k _ H' μ' ts none (fun H B=>Rep F.K H B (.ref a) t) l1 f.d k1 (xh.imp sr) rp (fun B1 H1 B2 H2 f h=>h.fr f) (fun j ls z=>by cases z) q⟩⟩
 have goT:∀(ts:List T) (a:Addr) (t:T),v=.ref a->Rep F.K H' B (.ref a) t->(t=.tup ts\/t=.cT ts)->Rt ts none μ'->∃ a,v=V.ref a/\(((∃ xs,bA X.K H' a xs)/\R (xN X.K a) H')\/((∃ xs,bO X.K H' a xs)/\R (pT X.K a) H')):=fun ts a t ev rp et q=>by
  have sr:∀ H B,Rep F.K H B (.ref a) t->∃ vs,bO X.K H a vs/\av X.K H B vs ts:=fun H B h=>by
   rw[hF] at h;rcases et with rfl|rfl
   ·obtain⟨_,n,h,r⟩:=Rep.nZ h;exact⟨_,bO.of h,r⟩
   ·obtain⟨_,h,r⟩:=Rep.Jx h;exact⟨_,.inr h,r⟩
  obtain⟨vs,h1,_⟩:=sr _ _ rp;exact⟨a,ev,.inr ⟨⟨vs,h1⟩,k _ H' μ' ts none (fun H B=>Rep F.K H B (.ref a) t) l1 f.d k1 (DL.imp sr) rp (fun B1 H1 B2 H2 f h=>h.fr f) (fun j ls z=>by cases z) q⟩⟩
 split at q1
 ·rename_i j
  split at q1
  ·rename_i ts e;obtain⟨ev,s,c,e1,e2⟩:=hv;have src:∀ B' σ' H' μ',Rl F ad B' σ' H' μ'->cont μ' (.br j)=some (.lst ts)->∃ vs,bA X.K H' (ad j) vs/\av X.K H' B' vs ts:=fun B' σ' H' μ' l e=>by
    have e3:(μ'[j]?).bind Sl.box=some (.lst ts):=e
    cases q:μ'[j]? with
    |none=>rw[q] at e3;cases e3
    |some s' =>
     rw[q] at e3;have bx:=((l.slot j s' q).boxed (c:=.lst ts) e3).2.2.1;rw[hF] at bx;obtain⟨vs,h1,h2⟩:=bx;exact⟨vs,bA.of h1,h2⟩
   obtain⟨vs,h1,h2⟩:=src _ _ _ _ l1 e;refine⟨ad j,ev,.inl ⟨⟨vs,h1⟩,k _ H' μ' ts (some (j,ts)) _ l1 f.d k1 xh ⟨vs,h1,h2⟩ ⟨src,fun B' H' h=>?_⟩ (fun j' ls z=>by cases z;exact e) q1⟩⟩
   rw[hF] at h;obtain⟨_,n,h,r⟩:=Rep.CY h;exact⟨_,bA.of h,r⟩
  ·exact q1.elim
 ·have rp:Rep F.K H' B v _:=hv;obtain⟨_,_,rfl,n,h,r⟩:=Rep.e8 rp;exact go _ _ _ rfl (.lst n h r) (.inl rfl) q1
 ·have rp:Rep F.K H' B v _:=hv;obtain⟨_,_,rfl,n,h,r⟩:=Rep.e8 rp;exact go _ _ _ rfl (.lst n h r) (.inl rfl) q1
 ·have rp:Rep F.K H' B v _:=hv;obtain⟨_,_,rfl,n,h,r⟩:=Rep.tupI rp;exact goT _ _ _ rfl (.tup n h r) (.inl rfl) q1
 ·have rp:Rep F.K H' B v _:=hv;obtain⟨_,_,rfl,h,r⟩:=Rep.vH rp;exact go _ _ _ rfl (.gp h r) (.inr rfl) q1
 ·have rp:Rep F.K H' B v _:=hv;obtain⟨_,_,rfl,h,r⟩:=Rep.uT rp;exact goT _ _ _ rfl (.cT h r) (.inr rfl) q1
 ·exact q1.elim
noncomputable def HP(us:UA):UI:=fun μ Rt=>us μ fun rs μ'=>match rs with
 |[.tr (.int j)]=>-(2^62)<=j/\j<2^62/\Rt ((List.range j.toNat).map fun k=>T.int (0+(k:Nat))) none μ'
 |_=>False
theorem uY(hg:Gl X "range")(hm:X.mg "range"=none)(ha:YA X [a] us)(h:autoParam (fo a=true) ℜ0):YI X tg (.Call (.Name "range" p) [a] [] pos) (HP us):=by
 obtain⟨t,q,r⟩:=ha;refine⟨_,Z.uY hg hm q h,fun F ad B σ H μ R Rt hF l q k=>r F ad B σ H μ _ _ hF l q fun vs H' rs μ' l1 ps f k1 q1=>?_⟩
 split at q1
 ·obtain⟨_,_,rfl,h1,ps⟩:=Paired.aO ps
  cases ps;cases cB h1;exact⟨_,rfl,q1.1,q1.2.1,k _ H' μ' _ none _ l1 f k1 Du trivial (fun _ _ _ _ _ _=>trivial) (fun j ls z=>by cases z) q1.2.2⟩
 ·exact q1.elim
noncomputable def gD(g:UG)(body:US)(E:Ed):List T->Mu->Prop
 |[],μ=>E.nx μ
 |t::ts,μ=>g (.tr t) μ fun μ1=>body {E with nx:=gD g body E ts,ct:=gD g body E ts,bk:=E.nx} μ1
noncomputable def xW(ui:UI)(g:UG)(body:US):US:=fun E μ=>ui μ fun items gd μ'=>match gd with
 |none=>gD g body E items μ'
 |some (j,_)=>(match μ'[j]? with
  |some (.bx c)=>gD g body E items (μ'.set j (.tr c))
  |_=>False)
theorem pG{g:TG}{ug:UG}{tb:TS}{body:US}{E:Ed}{J:It}{Src:Hp->ba->Prop}{items:List T}{B0:ba}{H0:Hp}(hF:F.K=K)(hg:RG K g ug)(hb:RS K tb body)(it:kO K J Src items)
  (pe:∀ B1 H1 B2 H2,Fr B1 H1 B2 H2->Src H1 B1->Src H2 B2) (hE:tZ F B0 H0 D E)      (l:Rl F ad B σ H μ) (f:Fr B0 H0 B H) (sr:Src H B) (q:gD ug body E items μ) :
  ∃ W:Nat->Nat->St->Hp->Prop,(∃ m,W 0 m σ H)/\∀ i m σ H,W i m σ H ->
   (J.stop i H/\D.nx σ H)\/(J.go i H/\∃ N:St->Hp->Prop,(∀ σ' H',N σ' H'->∃ m',m'<m/\W (i+1) m' σ' H')/\∀ x H',J.B7 i H x H'->g x σ H' fun σ2 H2=>tb {D with nx:=N,ct:=N,bk:=D.nx} σ2 H2):=by
 refine⟨fun i m σ H=>m=items.length-i/\i<=items.length/\∃ ad B μ,Rl F ad B σ H μ/\Fr B0 H0 B H/\Src H B/\gD ug body E (items.drop i) μ,⟨items.length,by simp,K7 _,ad,B,μ,l,f,sr,q⟩,?_⟩
 rintro i m σ H ⟨rfl,hi,ad,B,μ,l,f,sr,q⟩;by_cases hlt:i<items.length
 ·have ei:items[i]?=some items[i]:=Kd hlt;rw[L8 hlt] at q;obtain⟨go,yl⟩:=it.step H B i _ l.dW sr ei;refine .inr ⟨go,fun σ' H'=>∃ ad' B' μ',Rl F ad' B' σ' H' μ'/\Fr B0 H0 B' H'/\Src H' B'/\gD ug body E (items.drop (i+1)) μ',fun σ' H' h=>⟨items.length-(i+1),by lia,rfl,hlt,h⟩,fun x H2 y=>?_⟩
  obtain⟨sm,rp⟩:=yl x H2 y;refine hg F ad B σ H2 μ x (.tr _) B H2 _ _ hF ⟨l.same sm,by show Rep F.K H2 B x _;rw[hF];exact rp⟩ Fr.refl q fun ad3 B3 σ3 H3 μ3 l3 f3 q3=>?_
  have f03:Fr B0 H0 B3 H3:=(f.trans (Fr.same sm)).trans f3;have s3:Src H3 B3:=pe _ _ _ _ ((Fr.same sm).trans f3) sr;exact hb F _ _ ad3 B3 σ3 H3 μ3 hF l3 q3 ⟨fun ad' B' σ' H' μ' l' f' q'=>⟨ad',B',μ',l',f03.trans f',pe _ _ _ _ f' s3,q'⟩,hE.rt,fun ad' B' σ' H' μ' l' f' q'=>hE.nx ad' B' σ' H' μ' l' (f03.trans f') q',fun ad' B' σ' H' μ' l' f' q'=>⟨ad',B',μ',l',f03.trans f',pe _ _ _ _ f' s3,q'⟩⟩
 ·have e:i=items.length:=by lia
  subst e;rw[List.drop_length] at q;exact .inl ⟨it.stop H B sr,hE.nx ad B σ H μ l f q⟩
theorem qD{g:UG}(hp:PassesOwn (model X.prog X.w) X.A X.env X.xe)(hc:X.calm=true)(hi:YI X tg it ui)(hg:YG X tg g)(hb:YB X xs u)(hs:autoParam (∀ x,foldedSetIterable it X.env x=pure x) ℜ3):YS X (.For tg it xs [] pos) (xW ui g u):=by
 obtain⟨ti,qi,ri⟩:=hi;obtain⟨tg',qg,rg⟩:=hg;obtain⟨t,q,r⟩:=hb;refine⟨_,Z.qD hp hc qi qg q hs,fun F D E ad B σ H μ hF l q h=>ri F ad B σ H μ _ _ hF l q fun J H' μ' items gd Src l1 f1 k1 it sr so gok q1=>?_⟩
 split at q1
 ·exact pG hF rg r it so h l1 f1 sr q1
 ·rename_i j ls
  split at q1
  ·rename_i c ej;have bx:=l1.slot j _ ej;have hc:¬ F.Bc (ad j):=fun z=>by
    obtain⟨o,e⟩:=F.bh _ z;rw[bx.2.2.1] at e;cases e
   obtain⟨l2,rp⟩:=l1.freeze ej hc;have ec:c=.lst ls:=by
    have:=gok j ls rfl;have e2:(μ'[j]?).bind Sl.box=some (.lst ls):=this;rw[ej] at e2;exact Option.some.inj e2
   subst ec;exact pG (Src:=fun H B=>Rep F.K H B (.ref (ad j)) (.lst ls)) hF rg r (it.imp fun H B h=>so.2 B H h) (fun B1 H1 B2 H2 f h=>h.fr f) h l2 (f1.trans (Fr.less fun b z=>z.1)) rp q1
  ·exact q1.elim
end
end Y
noncomputable def wV(K:Nv)(u:UE):TE:=fun σ H Q=>∃(F:Fx) (ad:Nat->Addr) (B:ba) (μ:Mu) (Qt:R->Mu->Prop),F.K=K/\Rl F ad B σ H μ/\u μ Qt/\∀ v H' r μ',Vr F ad B σ H' μ' v r->Fr B H (Bv B v r) H'->Kp μ μ'->Qt r μ'->Q v H'
noncomputable def xv(K:Nv)(u:UT):TT:=fun σ H Q=>∃(F:Fx) (ad:Nat->Addr) (B:ba) (μ:Mu) (Qt:Bool->Mu->Prop),F.K=K/\Rl F ad B σ H μ/\u μ Qt/\∀ b H' μ',Rl F ad B σ H' μ'->Fr B H B H'->Kp μ μ'->Qt b μ'->Q b H'
theorem YE.mV{u:UE}(h:YE X e u):QE X e (wV X.K u):=⟨fun pins s σ H Q I hh=>by
 obtain⟨F,ad,B,μ,Qt,hF,l,q,k⟩:=hh;obtain⟨t,qe,r⟩:=h;exact qe.h pins s σ H Q I (r F ad B σ H μ Q Qt hF l q k)⟩
theorem Ef.mV{e:List Expr}{u:UT}(h:Ef X e u):EI X e (xv X.K u):=⟨fun pins s σ H Q I hh=>by
 obtain⟨F,ad,B,μ,Qt,hF,l,q,k⟩:=hh;obtain⟨t,qe,r⟩:=h;exact qe.h pins s σ H Q I (r F ad B σ H μ Q Qt hF l q k)⟩
theorem vB{u:UE}:RE K (wV K u) u:=fun F ad B σ H μ Q Qt hF l q k=>⟨F,ad,B,μ,Qt,hF,l,q,k⟩
theorem xD{u:UT}:RT K (xv K u) u:=fun F ad B σ H μ Q Qt hF l q k=>⟨F,ad,B,μ,Qt,hF,l,q,k⟩
noncomputable def Fx.sh(F:Fx):Fx:={F with P:=fun i=>match i with|0=>none|i+1=>F.P i}
noncomputable def Hz(ad:Nat->Addr):Nat->Addr:=fun i=>match i with|0=>0|i+1=>ad i
theorem Rl.push{x:V}{t:T}(l:Rl F ad B σ H μ)(h:Rep F.K H B x t):Rl F.sh (Hz ad) B (some x::σ) H (.tr t::μ):=by
 refine⟨K1 (·+1) l.len,fun i s e=>?_,fun i j s u c d e1 e2 b1 b2 q=>?_,fun i a p=>?_,l.bc,l.dW,fun b o e n=>l.old b o e fun i z=>n (i+1) z,fun a ws ga=>?_⟩
 ·cases i with
  |zero =>
   have e':Sl.tr t=s:=by simpa using e
   subst e';exact⟨x,rfl,h⟩
  |succ i=>exact l.slot i s (by simpa using e)
 ·cases i with
  |zero =>
   have e':Sl.tr t=s:=by simpa using e1
   subst e';cases b1
  |succ i=>cases j with
   |zero =>
    have e':Sl.tr t=u:=by simpa using e2
    subst e';cases b2
   |succ j=>exact K1 (·+1) (l.inj i j s u c d (by simpa using e1) (by simpa using e2) b1 b2 q)
 ·cases i with
  |zero=>cases p
  |succ i=>obtain⟨⟨c,e⟩,z⟩:=l.par i a p;exact⟨⟨c,by simpa using e⟩,z⟩
 ·obtain⟨g1,g2,g3⟩:=l.gh a ws ga;refine⟨g1,g2,fun i s c e b=>?_⟩
  cases i with
  |zero =>
   have e':Sl.tr t=s:=by simpa using e
   subst e';cases b
  |succ i=>exact g3 i s c (by simpa using e) b
theorem Rl.DI{y:Option V}(l:Rl F.sh (Hz ad) B (y::σ) H μ):Rl F ad B σ H μ.tail:=by
 have get:∀ i,μ.tail[i]?=μ[i+1]?:=fun i=>by cases μ<;>simp
 refine⟨?_,fun i s e=>?_,fun i j s u c d e1 e2 b1 b2 q=>?_,fun i a p=>?_,l.bc,l.dW,fun b o e n=>l.old b o e fun i z=>?_,fun a ws ga=>let ⟨g1,g2,g3⟩:=l.gh a ws ga;⟨g1,g2,fun i s c e b=>g3 (i+1) s c (by rw[<- get];exact e) b⟩⟩
 ·have:=l.len;rw[List.length_tail,this];rfl
 ·rw[get] at e;exact l.slot (i+1) s e
 ·rw[get] at e1 e2;exact Nat.succ.inj (l.inj (i+1) (j+1) s u c d e1 e2 b1 b2 q)
 ·obtain⟨⟨c,e⟩,z⟩:=l.par (i+1) a p;exact⟨⟨c,by rw[get];exact e⟩,z⟩
 ·cases i with
  |zero=>cases z
  |succ i=>exact n i z
theorem Kp.tail{s:Sl}(k:Kp (s::μ) μ'):Kp μ μ'.tail:=fun i=>by
 have:=k (i+1);rw[List.getElem?_cons_succ] at this;rw[this]
 cases μ'<;>simp
noncomputable def Fx.g(F:Fx)(D:Addr)(ys:List V):Fx:={F with G:=fun b=>if b=D then some (.lst ys) else F.G b}
section
variable {F:Fx} {ad:Nat->Addr} {B:ba} {σ:St} {H:Hp} {μ:Mu} {D:Addr} {ys zs:List V}
theorem Rl.IY(l:Rl F ad B σ H μ)(h:H D=some (.lst ys))(hb:B D)(n:∀(i:Nat) (s:Sl) (c:T),μ[i]?=some s->s.box=some c->ad i≠D):Rl (F.g D ys) ad B σ H μ:=by
 refine⟨l.len,l.slot,l.inj,l.par,l.bc,l.dW,l.old,fun a vs e=>?_⟩;have e':(if a=D then some (HO.lst ys) else F.G a)=some vs:=e
 by_cases z:a=D
 ·rw[Kh z] at e';cases e';subst z;exact⟨h,hb,n⟩
 ·rw[Kf z] at e';exact l.gh a vs e'
theorem Rl.Jy(l:Rl (F.g D ys) ad B σ H μ):H D=some (.lst ys)/\B D/\∀(i:Nat) (s:Sl) (c:T),μ[i]?=some s->s.box=some c->ad i≠D:=l.gh D (.lst ys) (show (if D=D then some (HO.lst ys) else F.G D)=some (.lst ys) from Kh rfl)
theorem Rl.Bw(l:Rl (F.g D ys) ad B σ H μ)(hg:F.G D=none):Rl F ad B σ H μ:=by
 refine⟨l.len,l.slot,l.inj,l.par,l.bc,l.dW,l.old,fun a vs e=>l.gh a vs ?_⟩;show (if a=D then some (HO.lst ys) else F.G a)=some vs
 rw[Kf (by rintro rfl;rw[hg] at e;cases e)]
 exact e
theorem Rl.setG(l:Rl (F.g D ys) ad B σ H μ)(h0:F.H0 D=none):Rl (F.g D zs) ad B σ (upd H D (.lst zs)) μ:=by
 obtain⟨g1,g2,g3⟩:=l.Jy;have f:Fr B H B (upd H D (.lst zs)):=Fr.set g2;refine⟨l.len,fun i s e=>?_,l.inj,l.par,l.bc,fun b z=>?_,fun b o e n=>?_,fun a vs e=>?_⟩
 ·have k:=l.slot i s e;unfold ji at k ⊢
  split at k
  ·trivial
  ·obtain⟨v,e1,r1⟩:=k;exact⟨v,e1,r1.fr f⟩
  ·obtain⟨e1,b,z0,p,x⟩:=k;exact⟨e1,b,z0,p,x.of (ae (g3 i _ _ e rfl)) f⟩
  ·obtain⟨e1,b,p,x⟩:=k;exact⟨e1,b,p,x.of (ae (g3 i _ _ e rfl)) f⟩
 ·by_cases z':b=D
  ·subst z';exact⟨_,ab⟩
  ·rw[ae z'];exact l.dW b z
 ·rw[ae (by rintro rfl;have e':F.H0 _=some o:=e;rw[h0] at e';cases e')]
  exact l.old b o e n
 ·have e':(if a=D then some (HO.lst zs) else F.G a)=some vs:=e
  by_cases z:a=D
  ·rw[Kh z] at e';cases e';subst z;exact⟨ab,g2,g3⟩
  ·rw[Kf z] at e';obtain⟨a1,a2,a3⟩:=l.gh a vs (show (if a=D then some (HO.lst ys) else F.G a)=some vs by rw[Kf z];exact e')
   exact⟨by rw[ae z];exact a1,a2,a3⟩
end
namespace Y
noncomputable def GG:Option (Nat×List T)->Mu->Prop
 |none,_=>True
 |some (j,ls),μ=>cont μ (.br j)=some (.lst ls)
noncomputable def pj(gd:Option (Nat×List T))(own:T->Mu->Option Mu)(dr:Mu->Mu)(ut:UT)(ue:UE)(Q:R->Mu->Prop):List T->List T->Mu->Prop
 |[],acc,μ=>GG gd μ/\Q (.fr (.lst acc)) μ
 |t::r,acc,μ=>GG gd μ/\acc.length<sizeLine/\(match own t μ with
  |none=>False
  |some μ1=>ut μ1 fun b μ2=>if b=true then ue μ2 fun rr μ3=>(match rr.d with
    |.tr t'=>pj gd own dr ut ue Q r (acc++[t']) (dr μ3)
    |_=>False) else pj gd own dr ut ue Q r acc (dr μ2))
noncomputable def D_(t:T)(μ:Mu):Option Mu:=some (.tr t::μ)
noncomputable def vh(t:T)(μ:Mu):Option Mu:=match t with
 |.tup [a,b]=>some (.tr a::.tr b::μ)
 |_=>none
noncomputable def Iw(μ:Mu):Mu:=μ.tail
noncomputable def Ig(μ:Mu):Mu:=μ.tail.tail
noncomputable def j4(own:T->Mu->Option Mu)(dr:Mu->Mu)(ui:UI)(ut:UT)(ue:UE):UE:=fun μ Q=>ui μ fun items gd μ'=>pj gd own dr ut ue Q items [] μ'
structure sy (K:Nv) (k:Nat) (g:TG) (own:T->Mu->Option Mu) (dr:Mu->Mu) (shF:Fx->Fx) (shA:(Nat->Addr)->Nat->Addr):Prop where
 fK:∀ F,(shF F).K=F.K
 step:∀(F:Fx) (ad:Nat->Addr) (B:ba) (σ:St) (H:Hp) (μ μ1:Mu) (x:V) (t:T) (σ':St) (Q:St->Hp->Prop),F.K=K->Rl F ad B σ H μ->Rep F.K H B x t->own t μ=some μ1->σ'.length=k->(∀ σ1,σ1.length=k->Rl (shF F) (shA ad) B (σ1++σ) H μ1->Q (σ1++σ) H)->g x (σ'++σ) H Q
 back:∀(F:Fx) (ad:Nat->Addr) (B:ba) (σ σ1:St) (H:Hp) (μ:Mu),σ1.length=k->Rl (shF F) (shA ad) B (σ1++σ) H μ->Rl F ad B σ H (dr μ)
 kp:∀(μ μ1 μ2:Mu) (t:T),own t μ=some μ1->Kp μ1 μ2->Kp μ (dr μ2)
theorem lD{α:Type _}{l:List α}(h:l.length=1):∃ y,l=[y]:=by
 rcases l with _|⟨a,_|⟨b,t⟩⟩
 ·cases h
 ·exact⟨a,rfl⟩
 ·cases h
theorem ip{α:Type _}{l:List α}(h:l.length=2):∃ y z,l=[y,z]:=by
 rcases l with _|⟨a,t⟩
 ·cases h
 ·obtain⟨b,rfl⟩:=lD (Nat.succ.inj h);exact⟨a,b,rfl⟩
theorem v_{α:Type _}{l:List α}(h:l.length=3):∃ x y z,l=[x,y,z]:=by
 rcases l with _|⟨a,t⟩
 ·cases h
 ·obtain⟨b,c,rfl⟩:=ip (Nat.succ.inj h);exact⟨a,b,c,rfl⟩
theorem Gw{α:Type _}{l:List α}(h:l.length=4):∃ w x y z,l=[w,x,y,z]:=by
 rcases l with _|⟨a,t⟩
 ·cases h
 ·obtain⟨b,c,d,rfl⟩:=v_ (Nat.succ.inj h);exact⟨a,b,c,d,rfl⟩
theorem zD:sy K 1 (bJ 0) D_ Iw Fx.sh Hz where
 fK:=fun F=>rfl
 step:=fun F ad B σ H μ μ1 x t σ' Q hF l r e hk h=>by
  cases e;obtain⟨y,rfl⟩:∃ y,σ'=[y]:=by
   exact lD hk
  exact h [some x] rfl (l.push r)
 back:=fun F ad B σ σ1 H μ hk l=>by
  obtain⟨y,rfl⟩:∃ y,σ1=[y]:=by
   exact lD hk
  exact l.DI
 kp:=fun μ μ1 μ2 t e k=>by cases e;exact k.tail
theorem sW:sy K 2 (oF K 2 (fR (bJ 0) (fR (bJ 1) oX))) vh Ig (fun F=>F.sh.sh) (fun ad=>Hz (Hz ad)) where
 fK:=fun F=>rfl
 step:=fun F ad B σ H μ μ1 x t σ' Q hF l r e hk h=>by
  unfold vh at e
  split at e
  ·rename_i a b;cases e;obtain⟨y,z,rfl⟩:∃ y z,σ'=[y,z]:=by
    exact ip hk
   obtain⟨_,_,rfl,n,hh,rr⟩:=Rep.tupI r;obtain⟨_,_,rfl,r1,rr⟩:=av.aO rr;obtain⟨_,_,rfl,r2,rr⟩:=av.aO rr;obtain rfl:=av.dD rr;exact⟨_,_,rfl,bO.of hh,rfl,_,_,rfl,_,_,rfl,rfl,h [some _,some _] rfl ((l.push r2).push (F:=F.sh) r1)⟩
  ·cases e
 back:=fun F ad B σ σ1 H μ hk l=>by
  obtain⟨y,z,rfl⟩:∃ y z,σ1=[y,z]:=by
   exact ip hk
  exact (Rl.DI (F:=F.sh) l).DI
 kp:=fun μ μ1 μ2 t e k=>by
  unfold vh at e
  split at e
  ·cases e;exact k.tail.tail
  ·cases e
theorem yb{g:TG}{own:T->Mu->Option Mu}{Q:VK}{Qt:R->Mu->Prop}(O:sy K k g own dr shF shA)(hi:RI K wi ui)(ht:RT K tc ut)
  (he:∀(D:Addr) (ys:List V) (σ1:St) (H':Hp) (μ':Mu) (Q:VK) (Qt:R->Mu->Prop),F.G D=none->σ1.length=k->Fr B H (more B D) H'->(∀ μ2,Kp μ' μ2->Kp μ (dr μ2))->Rl (shF (F.g D ys)) (shA ad) (more B D) (σ1++σ) H' μ'->ue μ' Qt->(∀ v H2 r μ2,Vr (shF (F.g D ys)) (shA ad) (more B D) (σ1++σ) H2 μ2 v r->Fr (more B D) H' (Bv (more B D) v r) H2->Kp μ' μ2->Qt r μ2->Q v H2)->te (σ1++σ) H' Q)
  (hF:F.K=K) (l:Rl F ad B σ H μ) (q:j4 own dr ui ut ue μ Qt) (kk:∀ v H' r μ',Vr F ad B σ H' μ' v r->Fr B H (Bv B v r) H'->Kp μ μ'->Qt r μ'->Q v H'):j3 wi k g tc te σ H Q:=by
 refine hi F ad B σ H μ _ _ hF l q fun J H1 μ1 items gd Src l1 f1 k1 it sr so gk q1=>?_;intro D hD;have hnB:=l1.AS hD;have h0D:=l1.zV hD;have hGD:F.G D=none:=by
  cases q:F.G D with
  |none=>rfl
  |some vs=>have:=(l1.gh D vs q).1;rw[hD] at this;cases this
 have nbx:∀(μ':Mu),Kp μ μ'->∀(i:Nat) (s:Sl) (c:T),μ'[i]?=some s->s.box=some c->B (ad i):=fun μ' k i s c e b=>by
  obtain⟨s',c',e',b'⟩:=k.symm.fwd i s c e b;exact l.own i s' c' e' b'
 refine⟨fun i m ys σ' H'=>m=items.length-i/\i<=items.length/\∃ σ1 μ' acc,σ'=σ1++σ/\σ1.length=k/\Rl (F.g D ys) ad (more B D) σ H' μ'/\av F.K H' (more B D) ys acc/\Fr B H (more B D) H'/\Kp μ μ'/\(gd=none->Src H' (more B D))/\pj gd own dr ut ue Qt (items.drop i) acc μ',
  ⟨items.length,by simp,K7 _,_,μ1,[],rfl,K_,(l1.new hD).IY ab (.inl rfl) (fun i s c e b z=>hnB (z ▸ nbx μ1 k1 i s c e b)),.nil,f1.trans (Fr.more hD),k1,fun z=>?_,q1⟩,?_⟩
 ·subst z;exact so _ _ _ _ (Fr.more hD) sr
 rintro i m ys σ' H' ⟨rfl,hi',σ1,μ',acc,rfl,hk,l2,ra,f2,k2,s2,q2⟩;have hD2:=l2.Jy.1;refine⟨hD2,?_⟩;have src:GG gd μ'->Src H' (more B D):=fun hg=>by
  cases gd with
  |none=>exact s2 rfl
  |some jl=>obtain⟨j,ls⟩:=jl;exact so.1 _ _ _ _ (l2.Bw hGD) hg
 by_cases hlt:i<items.length
 ·have ei:items[i]?=some items[i]:=Kd hlt;rw[L8 hlt] at q2;obtain⟨hg,hz,q2⟩:=q2;have sr2:=src hg;obtain⟨go,yl⟩:=it.step H' (more B D) i _ l2.dW sr2 ei;refine .inr ⟨go,by rw[ra.length];exact hz,fun x H3 y=>?_⟩
  obtain⟨sm,rp⟩:=yl x H3 y
  split at q2
  ·exact q2.elim
  ·rename_i μ3 eo;have f3:Fr (more B D) H' (more B D) H3:=Fr.same sm;have hF2:(F.g D ys).K=K:=hF;refine O.step (F.g D ys) ad (more B D) σ H3 μ' μ3 x _ σ1 _ hF2 (l2.same sm) (by rw[hF2];exact rp) eo hk fun σ4 hk4 l4=>?_
   refine ht (shF (F.g D ys)) (shA ad) (more B D) _ H3 μ3 _ _ ((O.fK _).trans hF2) l4 q2 fun b H5 μ5 l5 f5 k5 q5=>?_
   cases b with
   |true =>
    rw[Kh rfl] at q5 ⊢;refine he D ys σ4 H5 μ5 _ _ hGD hk4 (f2.trans (f3.trans f5)) (fun μ2 k7=>k2.trans (O.kp μ' μ3 μ2 _ eo (k5.trans k7))) l5 q5 fun v H6 r6 μ6 v6 f6 k6 q6=>?_;have l6:=O.back (F.g D ys) ad (more B D) σ σ4 H6 μ6 hk4 v6.rl;refine⟨l6.Jy.1,?_⟩;have hv:=v6.hv
    split at q6
    ·rename_i t' e6;rw[e6] at hv;have rv:Rep F.K H6 (more B D) v t':=by have:=hv;unfold Hv at this;rw[O.fK] at this;exact this
     have fa:=(f3.trans f5).trans f6.d;have fs:Fr (more B D) H6 (more B D) (upd H6 D (.lst (ys++[v]))):=Fr.set (.inl rfl);refine⟨items.length-(i+1),by lia,rfl,hlt,σ4,dr μ6,acc++[t'],rfl,hk4,l6.setG h0D,((ra.fr fa).append (.cons rv .nil)).fr fs,(f2.trans fa).trans fs,k2.trans (O.kp μ' μ3 μ6 _ eo (k5.trans k6)),fun z=>?_,q6⟩
     subst z;exact so _ _ _ _ (fa.trans fs) (s2 rfl)
    ·exact q6.elim
   |false =>
    rw[Kf Ki] at q5 ⊢;have l6:=O.back (F.g D ys) ad (more B D) σ σ4 H5 μ5 hk4 l5;have fa:=f3.trans f5;refine⟨items.length-(i+1),by lia,rfl,hlt,σ4,dr μ5,acc,rfl,hk4,l6,ra.fr fa,f2.trans fa,k2.trans (O.kp μ' μ3 μ5 _ eo k5),fun z=>?_,q5⟩
    subst z;exact so _ _ _ _ fa (s2 rfl)
 ·have e:i=items.length:=by lia
  subst e;rw[List.drop_length] at q2;obtain⟨hg,q2⟩:=q2;have l3:=l2.Bw hGD;refine .inl ⟨it.stop H' (more B D) (src hg),kk (.ref D) H' (.fr (.lst acc)) μ' ⟨l3.less (fun b z=>.inr z) l.bc (nbx μ' k2) (fun a vs ga=>?_),D,rfl,hnB,h0D,l3,ys,hD2,ra⟩ f2 k2 q2⟩;exact l.gB a vs ga
theorem nj{g:TG}{own:T->Mu->Option Mu}(O:sy K k g own dr shF shA)(hi:RI K wi ui)(ht:RT K tc ut)(he:RE K te ue):RE K (j3 wi k g tc te) (j4 own dr ui ut ue):=
 fun F ad B σ H μ Q Qt hF l q kk=>yb O hi ht (fun D ys σ1 H' μ' Q' Qt' _ _ _ _ l' q' k'=>he (shF (F.g D ys)) _ _ _ _ _ _ _ ((O.fK _).trans (show (F.g D ys).K=K from hF)) l' q' k') hF l q kk
section
variable {X:Cx} {elt tg iter:Expr} {ifs:List Expr} {ue:UE} {ut:UT} {ui:UI} {pos pos' p2:Pos} {x:Str} {osc scope:Scope} {ON own N:List Str}
theorem jT(S:cD osc ON scope own N)(hosc:X.env.scope=osc)(hON:X.N=ON)(hc:X.calm=true)(ho:own.length=1)(hi:YI X tg iter ui)
  (hg:∀ C s H fp,QG (aY X scope N C s H fp) tg (bJ 0)) (ht:∀ C s H fp,Ef (aY X scope N C s H fp) ifs ut) (he:∀ C s H fp,YE (aY X scope N C s H fp) elt ue) (hs:autoParam (∀ x,foldedSetIterable iter X.env x=pure x) ℜ3) :
  YE X (.ListComp elt [⟨tg,iter,ifs,0⟩] scope pos) (j4 D_ Iw ui ut ue):=by
 obtain⟨t,q,r⟩:=hi;have h:=Z.comp (pos:=pos) (tc:=xv X.K ut) (te:=wV X.K ue) S hosc hON hc q hg (fun C s H fp=>(ht C s H fp).mV) (fun C s H fp=>(he C s H fp).mV) hs;rw[ho] at h;exact⟨_,h,nj zD r xD vB⟩
theorem Fc(K:Nv)(hK:X.K=K)(S:cD osc ON scope own N)(hosc:X.env.scope=osc)(hON:X.N=ON)(hc:X.calm=true)(ho:own.length=2)(hi:YI X tg iter ui)
  (hg:∀ C s H fp,QG (aY X scope N C s H fp) tg (oF K 2 (fR (bJ 0) (fR (bJ 1) oX)))) (ht:∀ C s H fp,Ef (aY X scope N C s H fp) ifs ut) (he:∀ C s H fp,YE (aY X scope N C s H fp) elt ue) (hs:autoParam (∀ x,foldedSetIterable iter X.env x=pure x) ℜ3) :
  YE X (.ListComp elt [⟨tg,iter,ifs,0⟩] scope pos) (j4 vh Ig ui ut ue):=by
 obtain⟨t,q,r⟩:=hi;subst hK;have h:=Z.comp (pos:=pos) (tc:=xv X.K ut) (te:=wV X.K ue) S hosc hON hc q hg (fun C s H fp=>(ht C s H fp).mV) (fun C s H fp=>(he C s H fp).mV) hs;rw[ho] at h;exact⟨_,h,nj sW r xD vB⟩
theorem nW:Ef X [] (fun μ Q=>Q true μ):=⟨_,Z.nW,fun F ad B σ H μ Q Qt hK l q k=>k true H μ l Fr.refl (Kp.refl μ) q⟩
theorem Jj{c:Expr}(h:YT X c ut):Ef X [c] ut:=by obtain⟨t,q,r⟩:=h;exact⟨t,Z.Jj q,r⟩
end
end Y
noncomputable def gC(μ:Mu)(j:Nat)(c:T):Mu:=match μ[j]? with
 |some s=>μ.set j (s.put c)
 |none=>μ
namespace Y
section
variable {X:Cx} {a b c e o tg it i:Expr} {es rest:List Expr} {ua ub uc ue uo ui:UE} {uA uB:UT} {us:UA} {pos pos' p p2 p3 apos:Pos} {x:Str} {st:Stmt} {sts xs ys:List Stmt} {u w:US}
noncomputable def gS(uo ui:UE):UG:=fun r μ Q=>match r.d with
 |.tr t=>uo μ fun ro μ1=>ui μ1 fun ri μ2=>(match ro,ri with
  |.br j,.tr (.int k)=>(match (μ2[j]?).bind Sl.box with
   |some (.lst ts)=>(match mx ts.length k with
    |some n=>Q (gC μ2 j (.lst (ts.set n t)))
    |none=>False)
   |_=>False)
  |_,_=>False)
 |_=>False
theorem vV(ho:YE X o uo)(hi:YE X i ui)
  (ha:autoParam (∀ v,assign (.Subscript o i pos) X.env v=(do
   let ov <- holding [v] (eval o X.env)
   let iv <- holding [v,ov] (eval i X.env)
   standAt pos
   holding [v,ov,iv] (setItem ov iv v)
   release [v,ov,iv] [])) ℜ3):YG X (.Subscript o i pos) (gS uo ui):=by
 obtain⟨t,q,r⟩:=ho;obtain⟨t',q',r'⟩:=hi;refine⟨_,Z.vV q q' ha,fun F ad B σ H μ v rr B0 H0 Q Qt hF h f q k=>?_⟩;unfold gS at q;have f0:Fr B0 H0 B H:=fun b o h n=>⟨(f b o h n).1,fun z=>(f b o h n).2 (by cases rr<;>first|exact z | (cases v<;>first|exact z|exact .inr z))⟩
 have hv:=h.hv
 split at q
 ·rename_i t0 e0;rw[e0] at hv;refine r F ad B σ H μ _ _ hF h.rl q fun ov H1 r1 μ1 v1 f1 k1 q1=>r' F ad B σ H1 μ1 _ _ hF v1.rl q1 fun iv H2 r2 μ2 v2 f2 k2 q2=>?_
  split at q2
  ·rename_i j kk;have rp:=v2.2;obtain rfl:=Rep.bT rp;obtain⟨rfl,_⟩:=(v1.hv.fr f2.d k2)
   split at q2
   ·rename_i ts e
    split at q2
    ·rename_i n en
     cases ej:μ2[j]? with
     |none=>rw[ej] at e;cases e
     |some s =>
      rw[ej] at e;have e':s.box=some (.lst ts):=e;have l2:=v2.rl;obtain⟨vs,hl,rs⟩:=((l2.slot j s ej).boxed e').2.2.1;have rv:Rep F.K H2 B v t0:=(show Rep F.K H B v t0 from hv).fr (f1.d.trans f2.d);have l3:=l2.put ej e' (rs.set n rv);show wR (.ref (ad j)) (.int kk) v H2 _;rw[Ap.setRef,hl];simp only;rw[rs.length,en];simp only;unfold gC at q2;rw[ej] at q2;exact k ad B σ _ _ l3 ((f0.trans (f1.d.trans f2.d)).trans (Fr.set ((l2.slot j s ej).boxed e').2.1)) q2
    ·exact q2.elim
   ·exact q2.elim
  ·exact q2.elim
 ·exact q.elim
abbrev UM:=Nat->List R->Mu->(R->Mu->Prop)->Prop
noncomputable def HR:Option T->Prop->Prop
 |some (.lst _),p=>p
 |_,_=>False
noncomputable def Ie(um:UM)(uo:UE)(us:UA):UE:=fun μ Q=>uo μ fun ro μ1=>match ro with
 |.br j=>HR ((μ1[j]?).bind Sl.box) (us μ1 fun rs μ2=>um j rs μ2 Q)
 |_=>False
noncomputable def RM(K:Nv)(r:V->List V->Hp->VK->Prop)(um:UM):Prop:=∀(F:Fx) (ad:Nat->Addr) (B:ba) (σ:St) (H:Hp) (μ:Mu) (Q:VK) (Qt:R->Mu->Prop) (j:Nat) (s:Sl) (c:T) (xs:List V) (rs:List R),F.K=K->Rl F ad B σ H μ->μ[j]?=some s->s.box=some c->Paired (Hv F ad B H μ) xs rs->um j rs μ Qt ->
 (∀ v H' r μ',Vr F ad B σ H' μ' v r->Fr B H (Bv B v r) H'->Kp μ μ'->Qt r μ'->Q v H')->r (.ref (ad j)) xs H Q
theorem bm(K:Nv)(hK:X.K=K){id:String}{r:V->List V->Hp->VK->Prop}{um:UM}(slot:Slot "list" name id)(hty:typeOf (.builtin id)=pure (.type "method_descriptor"))(hm:xm X id r)(hr:RM X.K r um)(ho:YE X o uo)(ha:YA X (e::es) us)
  (hbase:autoParam (attributeBase o name X.env (eval o X.env)=eval o X.env) ℜ0) (hline:autoParam ((apos.endLine == pos.line)=true) ℜ0) (h:autoParam ((e::es).all fo=true) ℜ0) (hl:autoParam ((e::es).length<30) ℜ1):YE X (.Call (.Attribute o name apos) (e::es) [] pos) (Ie um uo us):=by
 obtain⟨t,q,rr⟩:=ho;obtain⟨t',q',r'⟩:=ha;refine⟨_,Z.bm K hK PySem.F.plainAttrs_list slot hty hm q q' hbase hline h hl,fun F ad B σ H μ Q Qt hF l q k=>rr F ad B σ H μ _ _ hF l q fun v H1 r1 μ1 v1 f1 k1 q1=>?_⟩
 split at q1
 ·rename_i j;obtain⟨l1,rfl,s,c,e1,e2⟩:=v1;rw[e1] at q1;have q1':HR s.box _:=q1;rw[e2] at q1';rcases ((l1.slot j s e1).boxed e2).2.2.1.is with ⟨ts,vs,rfl,hl,_⟩|⟨_,_,_,rfl,_⟩
  case inr=>exact q1'.elim
  have q1:=(show us μ1 _ from q1');refine⟨.inl ⟨rfl,vs,bA.of hl⟩,?_⟩;refine r' F ad B σ H1 μ1 _ _ hF l1 q1 fun xs H2 rs μ2 l2 ps f2 k2 q2=>?_;obtain⟨s',c',e3,e4⟩:=k2.fwd j s _ e1 e2;exact hr F ad B σ H2 μ2 _ _ j s' c' xs rs hF l2 e3 e4 ps q2 fun v H3 r3 μ3 v3 f3 k3 q3=>k v H3 r3 μ3 v3 ((f1.d.trans f2).trans f3) ((k1.trans k2).trans k3) q3
 ·exact q1.elim
noncomputable def iN:UM:=fun j rs μ Q=>match rs with
 |[.tr t]=>(match (μ[j]?).bind Sl.box with
  |some (.lst ts)=>ts.length<sizeLine/\Q (.tr .aE) (gC μ j (.lst (ts++[t])))
  |_=>False)
 |_=>False
theorem lS:RM K r_ iN:=by
 intro F ad B σ H μ Q Qt j s c xs rs hF l e b ps q k;unfold iN at q
 split at q
 ·obtain⟨_,_,rfl,h,ps⟩:=Paired.aO ps;obtain rfl:=Paired.dD ps;rw[e] at q;have q':(match s.box with|some (.lst ts)=>ts.length<sizeLine/\Qt (.tr .aE) (gC μ j (.lst (ts++[_])))|_=>False):=q
  rw[b] at q';rcases ((l.slot j s e).boxed b).2.2.1.is with ⟨ts,vs,rfl,hl,rv⟩|⟨_,_,_,rfl,_⟩
  case inr=>exact q'.elim
  simp only at q';refine⟨_,_,_,rfl,rfl,hl,by rw[rv.length];exact q'.1,?_⟩
  have l3:=l.put e b (rv.append (.cons (cB h) .nil));have q2:=q'.2;unfold gC at q2;rw[e] at q2;exact k _ _ (.tr .aE) _ (Vr.flat l3 .aE) (Fr.set ((l.slot j s e).boxed b).2.1) (Kp.set e b (Sl.r9 b)) q2
 ·exact q.elim
end
end Y
noncomputable def mU:List Bool->List V->List Addr
 |true::md,.ref a::vs=>a::mU md vs
 |_::md,_::vs=>mU md vs
 |_,_=>[]
noncomputable def fA(K:Nv)(H:Hp)(B:ba):List Bool->List V->List T->Prop
 |[],[],[]=>True
 |false::md,v::vs,t::ts=>Rep K H B v t/\fA K H B md vs ts
 |true::md,v::vs,t::ts=>(∃ a,v=.ref a/\B a/\Bx K H B a t)/\fA K H B md vs ts
 |_,_,_=>False
abbrev gj:=List T->(R->List T->Prop)->Prop
variable{tsp:gj}
noncomputable def Hs(K:Nv)(H H':Hp)(B:ba)(as:List Addr)(v:V)(outs:List T):R->Prop
 |.tr t=>Rep K H' B v t/\Paired (Bx K H' B) as outs
 |.fr c=>∃ a,v=.ref a/\H a=none/\¬ B a/\Bx K H' (more B a) a c/\Paired (Bx K H' (more B a)) as outs
 |.br _=>False
noncomputable def spT(K:Nv)(md:List Bool)(tsp:gj):Sp:=fun vs H Q _=>∃(B:ba) (args:List T) (Qt:R->List T->Prop),fA K H B md vs args/\(∀ b,B b->∃ o,H b=some o)/\(mU md vs).Nodup/\tsp args Qt /\
 ∀ v H' r outs,Qt r outs->(∀ b o,H b=some o->b∉mU md vs->H' b=some o)->Hs K H H' B (mU md vs) v outs r->Q v H'
theorem fA.len:∀{md:List Bool} {vs:List V} {ts:List T},fA K H B md vs ts->vs.length=md.length/\ts.length=md.length
 |[],[],[],_=>⟨rfl,rfl⟩
 |false::md,v::vs,t::ts,h=>⟨K1 (·+1) (fA.len h.2).1,K1 (·+1) (fA.len h.2).2⟩
 |true::md,v::vs,t::ts,h=>⟨K1 (·+1) (fA.len h.2).1,K1 (·+1) (fA.len h.2).2⟩
theorem fA.get:∀{md:List Bool} {vs:List V} {ts:List T} {i:Nat} {b:Bool},fA K H B md vs ts->md[i]?=some b->∃ v t,vs[i]?=some v/\ts[i]?=some t/\(if b=true then ∃ a,v=.ref a/\B a/\Bx K H B a t else Rep K H B v t)
 |[],[],[],i,b,_,e=>by simp at e
 |c::md,[],_,_,_,h,_=>by cases c<;>exact h.elim
 |c::md,v::vs,[],_,_,h,_=>by cases c<;>exact h.elim
 |c::md,v::vs,t::ts,0,b,h,e=>by
  have e':c=b:=by simpa using e
  subst e'
  cases c with
  |false=>exact⟨v,t,rfl,rfl,by rw[Kf Ki];exact h.1⟩
  |true=>exact⟨v,t,rfl,rfl,by rw[Kh rfl];exact h.1⟩
 |c::md,v::vs,t::ts,i+1,b,h,e=>by
  have h2:fA K H B md vs ts:=by cases c<;>exact h.2
  obtain⟨v',t',e1,e2,q⟩:=fA.get h2 (show md[i]?=some b by simpa using e)
  exact⟨v',t',by simpa using e1,by simpa using e2,q⟩
theorem jK:∀{md:List Bool} {vs:List V} {i:Nat} {a:Addr},md[i]?=some true->vs[i]?=some (.ref a)->a∈mU md vs
 |[],_,_,_,e,_=>by simp at e
 |c::md,[],_,_,_,e=>by simp at e
 |c::md,v::vs,0,a,e1,e2=>by
  have e1':c=true:=by simpa using e1
  have e2':v=.ref a:=by simpa using e2
  subst e1' e2';exact Ky
 |c::md,v::vs,i+1,a,e1,e2=>by
  have:=jK (md:=md) (vs:=vs) (i:=i) (a:=a) (by simpa using e1) (by simpa using e2)
  cases c with
  |false=>exact this
  |true=>cases v<;>first|exact Ko _ this|exact this
theorem sv:∀{md:List Bool} {vs:List V} {i j:Nat} {a:Addr},(mU md vs).Nodup->md[i]?=some true->md[j]?=some true->vs[i]?=some (.ref a)->vs[j]?=some (.ref a)->i=j
 |[],_,_,_,_,_,e,_,_,_=>by simp at e
 |c::md,[],_,_,_,_,_,_,e,_=>by simp at e
 |c::md,v::vs,i,j,a,nd,e1,e2,e3,e4=>by
  have tl:(mU md vs).Nodup:=by
   cases c with
   |false=>exact nd
   |true=>cases v<;>first|exact (KC.mp nd).2|exact nd
  cases i with
  |zero =>
   have e1':c=true:=by simpa using e1
   have e3':v=.ref a:=by simpa using e3
   subst e1' e3'
   cases j with
   |zero=>rfl
   |succ j=>exact absurd (jK (md:=md) (vs:=vs) (i:=j) (a:=a) (by simpa using e2) (by simpa using e4)) (KC.mp nd).1
  |succ i=>cases j with
   |zero =>
    have e1':c=true:=by simpa using e2
    have e3':v=.ref a:=by simpa using e4
    subst e1' e3';exact absurd (jK (md:=md) (vs:=vs) (i:=i) (a:=a) (by simpa using e1) (by simpa using e3)) (KC.mp nd).1
   |succ j=>exact K1 (·+1) (sv tl (by simpa using e1) (by simpa using e2) (by simpa using e3) (by simpa using e4))
noncomputable def cV:List Bool->Nat->Mu->List T
 |[],_,_=>[]
 |true::md,i,μ=>(match μ[i]? with
  |some (.pb c)=>c::cV md (i+1) μ
  |_=>cV md (i+1) μ)
 |false::md,i,μ=>cV md (i+1) μ
theorem zA{P:Addr->T->Prop}:∀{md:List Bool} {vs:List V} {i:Nat},vs.length=md.length->(∀ n,md[n]?=some true->∃ a c,vs[n]?=some (.ref a)/\μ[i+n]?=some (.pb c)/\P a c)->Paired P (mU md vs) (cV md i μ)
 :=by
  intro md
  induction md with
  |nil =>
    intro vs i hl h
    cases vs with
    |nil=>exact .nil
    |cons v vs=>cases hl
  |cons b md ih =>
    intro vs i hl h
    cases vs with
    |nil=>cases hl
    |cons v vs =>
      have rest:=ih (vs:=vs) (i:=i+1) (Nat.succ.inj hl) fun n e=>by
        obtain⟨a,c,e1,e2,p⟩:=h (n+1) e;exact⟨a,c,e1,by rw[Nat.add_assoc,Nat.add_comm 1 n];exact e2,p⟩
      cases b with
      |false=>exact rest
      |true =>
        obtain⟨a,c,e1,e2,p⟩:=h 0 rfl;have e1':v=.ref a:=Option.some.inj e1;subst e1';rw[Nat.add_zero] at e2;show Paired P (a::mU md vs) (match μ[i]? with|some (.pb c)=>c::cV md (i+1) μ|_=>cV md (i+1) μ)
        rw[e2];exact .cons p rest
noncomputable def startM:List Bool->List T->Nat->Mu
 |b::md,t::ts,n=>(if b=true then .pb t else .tr t)::startM md ts (n-1)
 |_,_,n=>List.replicate n .un
noncomputable def z_(md:List Bool)(Qt:R->List T->Prop):Ed where
 nx:=fun μ=>Qt (.tr .aE) (cV md 0 μ)
 rt:=fun r μ=>match r with
  |.tr t=>Qt (.tr t) (cV md 0 μ)
  |.fr c=>Qt (.fr c) (cV md 0 μ)
  |.br i=>(match μ[i]? with
   |some (.bx c)=>Qt (.fr c) (cV md 0 μ)
   |_=>False)
theorem kT:∀{md:List Bool} {ts:List T} {n:Nat},ts.length=md.length->md.length<=n->(startM md ts n).length=n
 |[],[],n,_,_=>K_
 |b::md,t::ts,n,h,hn=>by
  cases n with
  |zero=>simp at hn
  |succ n=>exact K1 (·+1) (kT (by simpa using h) (by simpa using hn))
theorem hU:∀{md:List Bool} {ts:List T} {n i:Nat} {s:Sl},(startM md ts n)[i]?=some s->s=.un\/∃ b t,md[i]?=some b/\ts[i]?=some t/\s=(if b=true then .pb t else .tr t)
 |[],ts,n,i,s,e=>by
  have e':(List.replicate n Sl.un)[i]?=some s:=by cases ts<;>exact e
  rw[LI] at e'
  split at e'
  ·exact .inl (Option.some.inj e').symm
  ·cases e'
 |b::md,[],n,i,s,e=>by
  have e':(List.replicate n Sl.un)[i]?=some s:=e;rw[LI] at e'
  split at e'
  ·exact .inl (Option.some.inj e').symm
  ·cases e'
 |b::md,t::ts,n,0,s,e=>.inr ⟨b,t,rfl,rfl,by have e':some (if b=true then Sl.pb t else .tr t)=some s:=e;exact (Option.some.inj e').symm⟩
 |b::md,t::ts,n,i+1,s,e=>by
  rcases hU (md:=md) (ts:=ts) (n:=n-1) (i:=i) (s:=s) (by simpa[startM] using e) with h|⟨b',t',h1,h2,h3⟩
  ·exact .inl h
  ·exact .inr ⟨b',t',by simpa using h1,by simpa using h2,h3⟩
theorem lP:∀{md:List Bool} {ts:List T} {n i:Nat} {b:Bool} {t:T},md[i]?=some b->ts[i]?=some t->(startM md ts n)[i]?=some (if b=true then .pb t else .tr t)
 |[],_,_,_,_,_,e,_=>by simp at e
 |b::md,[],_,_,_,_,_,e=>by simp at e
 |b::md,t::ts,n,0,b',t',e1,e2=>by
  have e1':b=b':=by simpa using e1
  have e2':t=t':=by simpa using e2
  subst e1' e2';rfl
 |b::md,t::ts,n,i+1,b',t',e1,e2=>by
  have:=lP (md:=md) (ts:=ts) (n:=n-1) (i:=i) (b:=b') (t:=t') (by simpa using e1) (by simpa using e2)
  simpa[startM] using this
noncomputable def rd(vs:List V)(i:Nat):Addr:=match vs[i]? with
 |some (.ref a)=>a
 |_=>0
noncomputable def GZ(md:List Bool)(vs:List V)(i:Nat):Option Addr:=match md[i]?,vs[i]? with
 |some true,some (.ref a)=>some a
 |_,_=>none
theorem qo{vs:List V}(h:GZ md vs i=some a):md[i]?=some true/\vs[i]?=some (.ref a):=by
 unfold GZ at h
 split at h
 ·rename_i e1 e2;cases h;exact⟨e1,e2⟩
 ·cases h
theorem wM{vs:List V}(h1:md[i]?=some true)(h2:vs[i]?=some (.ref a)):GZ md vs i=some a:=by
 unfold GZ;rw[h1,h2]
noncomputable def qy(K:Nv)(H:Hp)(md:List Bool)(vs:List V)(B:ba)(bh:∀ b,B b->∃ o,H b=some o):Fx:=⟨K,H,GZ md vs,B,bh,fun _=>none⟩
theorem iw{vs:List V}{args:List T}(ag:fA K H B md vs args)(bh:∀ b,B b->∃ o,H b=some o)(nd:(mU md vs).Nodup)(hN:md.length<=N.length):
  Rl (qy K H md vs B bh) (rd vs) B (start N vs) H (startM md args N.length):=by
 obtain⟨l1,l2⟩:=ag.len;have sget:∀ i v,vs[i]?=some v->(start N vs)[i]?=some (some v):=fun i v e=>by
  have hi:=(Ku.mp e).1;unfold start;rw[L6 (by simpa using hi),K2,e];rfl
 refine⟨?_,fun i s e=>?_,fun i j s u c d e1 e2 b1 b2 q=>?_,fun i a p=>?_,fun b z=>z,bh,fun b o e n=>e,fun a ws ga=>by cases ga⟩
 ·rw[kT l2 hN];unfold start;rw[Kv,Kc,K_];lia
 ·rcases hU e with rfl|⟨b,t,h1,h2,rfl⟩
  ·trivial
  ·obtain⟨v,t',e1,e2,q⟩:=ag.get h1;rw[h2] at e2;cases e2
   cases b with
   |false =>
    rw[Kf Ki] at q;rw[Kf Ki];exact⟨v,sget i v e1,q⟩
   |true =>
    rw[Kh rfl] at q;rw[Kh rfl];obtain⟨a,rfl,hb,x⟩:=q;have ea:rd vs i=a:=by unfold rd;rw[e1]
    show _/\_/\_/\_;rw[ea];exact⟨sget i _ e1,hb,wM h1 e1,x⟩
 ·have one:∀{i:Nat} {s:Sl} {c:T},(startM md args N.length)[i]?=some s->s.box=some c->md[i]?=some true/\∃ a,vs[i]?=some (.ref a)/\rd vs i=a:=fun {i s c} e b=>by
   rcases hU e with rfl|⟨b',t,h1,h2,rfl⟩
   ·cases b
   ·cases b' with
    |false=>rw[Kf Ki] at b;cases b
    |true =>
     obtain⟨v,t',e1,e2,q⟩:=ag.get h1;rw[Kh rfl] at q;obtain⟨a,rfl,_⟩:=q;exact⟨h1,a,e1,by unfold rd;rw[e1]⟩
  obtain⟨m1,a1,v1,z1⟩:=one e1 b1;obtain⟨m2,a2,v2,z2⟩:=one e2 b2;rw[z1,z2] at q;subst q;exact sv nd m1 m2 v1 v2
 ·obtain⟨h1,h2⟩:=qo p;obtain⟨v,t',e1,e2,q⟩:=ag.get h1;refine⟨⟨t',?_⟩,by unfold rd;rw[h2]⟩
  have:=lP (n:=N.length) h1 e2;rw[Kh rfl] at this;exact this
noncomputable def tj(K:Nv)(f:Addr)(cdv:Value):Prop:=∃(o:Obj) (fd:FuncData),K.lookup f=some o/\o.data=.func fd/\fd.code=cdv
theorem vA{x:Str}{N ps:List Str}(F:e7 K x x st f fd)(S:aj N ps (aa st))(md:List Bool)(hm:md.length=ps.length)(hN:md.length<=N.length)
  (hbody:∀(args:List T) (Qt:R->List T->Prop),args.length=ps.length->tsp args Qt->∀(cdv:Value) (A:Around) (outer:List Env) (s:Shared) (H:Hp) (E:XK),bP k (A.deeper (envOfC x (aa st) s.heap.objs.size f cdv))->tj K f cdv ->
   ∃ us,YB (cF aN P w K mg base N x (aa st) f cdv A outer s H E).ig (aq st) us/\us (z_ md Qt) (startM md args N.length)):a_ P w K mg base aN (k+1) f fd ps (spT K md tsp):=by
 obtain⟨oc,od,kV,doc,pm,an,cdv,ct,osl,rfl,lk,hcd⟩:=F.ex;refine Bk (CX:=aN) lk hcd S (fun vs H Q E h=>?_) (fun A outer s H vs Q E hr h=>?_)
 ·obtain⟨B,args,Qt,ag,_⟩:=h;rw[ag.len.1,hm]
 ·obtain⟨B,args,Qt,ag,bh,nd,ht,fin⟩:=h;obtain⟨us,⟨t,q,r⟩,hu⟩:=hbody args Qt (by rw[ag.len.2,hm]) ht cdv A outer s H E hr ⟨_,_,lk,rfl,rfl⟩
  refine⟨t,q.h.ig,?_⟩;have l0:=iw (N:=N) ag bh nd hN;have outs:∀ ad' B' σ' H' μ' (B2:ba),Rl (qy K H md vs B bh) ad' B' σ' H' μ'->(∀ b,B2 b->B' b)->Paired (Bx K H' B2) (mU md vs) (cV md 0 μ'):=fun ad' B' σ' H' μ' B2 l hB=>by
   refine zA (ag.len.1) fun n e=>?_;obtain⟨v,t',e1,e2,q⟩:=ag.get e;rw[Kh rfl] at q;obtain⟨a,rfl,_⟩:=q;obtain⟨⟨c,hc⟩,ha⟩:=l.par n a (wM e e1);have sl:=l.slot n _ hc;refine⟨a,c,e1,by rw[Nat.zero_add];exact hc,?_⟩
   rw[<- ha];exact (sl.2.2.2).of rfl (Fr.less hB)
  have keep:∀ ad' B' σ' H' μ',Rl (qy K H md vs B bh) ad' B' σ' H' μ'->∀ b o,H b=some o->b∉mU md vs->H' b=some o:=fun ad' B' σ' H' μ' l b o e n=>l.old b o e fun i z=>n (jK (qo z).1 (qo z).2);refine r (qy K H md vs B bh) _ _ (rd vs) B (start N vs) H _ rfl l0 hu ⟨fun ad' B' σ' H' μ' l _ q=>?_,fun ad' B' σ' H' μ' v rr h q=>?_,fun _ _ _ _ _ _ _ z=>z.elim,fun _ _ _ _ _ _ _ z=>z.elim⟩
  ·exact fin .aE H' (.tr .aE) _ q (keep _ _ _ _ _ l) ⟨.aE,outs _ _ _ _ _ _ l l.bc⟩
  ·cases rr with
   |tr t=>exact fin v H' (.tr t) _ q (keep _ _ _ _ _ h.1) ⟨(show Rep K H' B' v t from h.2).fr (Fr.less h.1.bc),outs _ _ _ _ _ _ h.1 h.1.bc⟩
   |fr c =>
    obtain⟨l,a,rfl,n,h0,l2,x⟩:=h;have sub:∀ b,more B a b->more B' a b:=fun b z=>z.imp id (l.bc b);exact fin _ H' (.fr c) _ q (keep _ _ _ _ _ l) ⟨a,rfl,h0,fun z=>n (l.bc a z),x.of rfl (Fr.less sub),outs _ _ _ _ _ _ l2 sub⟩
   |br i =>
    have q':(match μ'[i]? with|some (.bx c)=>Qt (.fr c) (cV md 0 μ')|_=>False):=q
    obtain⟨l,rfl,s',c',e1,e2⟩:=h
    split at q'
    ·rename_i c ec;have sl:=l.slot i _ ec;have sub:∀ b,more B (ad' i) b->B' b:=fun b z=>z.elim (fun z=>by rw[z];exact sl.2.1) (l.bc b)
     refine fin _ H' (.fr c) _ q' (keep _ _ _ _ _ l) ⟨ad' i,rfl,sl.2.2.1,fun z=>?_,(sl.2.2.2.2).of rfl (Fr.less sub),outs _ _ _ _ _ _ l sub⟩;obtain⟨o,e⟩:=bh _ z;have:H (ad' i)=none:=sl.2.2.1;rw[this] at e;cases e
    ·exact q'.elim
theorem HasFn.Ih{x:Str}{ps:List Str}(F:HasFn K mg x st ps)(S:aj N ps (aa st))(md:List Bool)(hm:md.length=ps.length)(hN:md.length<=N.length)
  (hbody:∀(args:List T) (Qt:R->List T->Prop),args.length=ps.length->tsp args Qt->∀(f:Addr) (cdv:Value) (A:Around) (outer:List Env) (s:Shared) (H:Hp) (E:XK),bP k (A.deeper (envOfC x (aa st) s.heap.objs.size f cdv))->mg x=some (.ref f)->tj K f cdv ->
   ∃ us,YB (cF aN P w K mg base N x (aa st) f cdv A outer s H E).ig (aq st) us/\us (z_ md Qt) (startM md args N.length)):ai P w K mg base aN (k+1) x ps (spT K md tsp):=by
 obtain⟨f,fd,F1,bnd,m⟩:=F.ex;exact⟨f,fd,m,F1.kp,bnd,vA F1 S md hm hN fun args Qt hl h cdv A outer s H E hr c=>hbody args Qt hl h f cdv A outer s H E hr m c⟩
theorem HasFn.jP{x:Str}{ps:List Str}(F:HasFn K mg x st ps)(S:aj N ps (aa st))(md:List Bool)(hm:md.length=ps.length)(hN:md.length<=N.length)
  (hbody:∀(args:List T) (Qt:R->List T->Prop),args.length=ps.length->tsp args Qt->∀(f:Addr) (cdv:Value) (A:Around) (outer:List Env) (s:Shared) (H:Hp) (E:XK),bP k (A.deeper (envOfC x (aa st) s.heap.objs.size f cdv)) ->
   ∃ us,YB (cF aN P w K mg base N x (aa st) f cdv A outer s H E).ig (aq st) us/\us (z_ md Qt) (startM md args N.length)):ai P w K mg base aN (k+1) x ps (spT K md tsp):=
 F.Ih S md hm hN fun args Qt hl h f cdv A outer s H E hr _ _=>hbody args Qt hl h f cdv A outer s H E hr
noncomputable def BV(μ:Mu):List Bool->List R->Option (List T)
 |[],[]=>some []
 |false::md,r::rs=>(match cont μ r,BV μ md rs with
  |some t,some ts=>some (t::ts)
  |_,_=>none)
 |true::md,.br j::rs=>(match cont μ (.br j),BV μ md rs with
  |some t,some ts=>some (t::ts)
  |_,_=>none)
 |_,_=>none
noncomputable def oo:List Bool->List R->List Nat
 |true::md,.br j::rs=>j::oo md rs
 |_::md,_::rs=>oo md rs
 |_,_=>[]
noncomputable def qV:List Bool->List R->List Nat
 |false::md,.br j::rs=>j::qV md rs
 |_::md,_::rs=>qV md rs
 |_,_=>[]
noncomputable def o9:T->Bool
 |.lst ts=>ts.all aF
 |.pk _ ts=>ts.all aF
 |t=>aF t
noncomputable def mI:R->Bool
 |.tr t=>aF t
 |.fr c=>o9 c
 |.br _=>false
noncomputable def putAll:List Nat->List T->Mu->Mu
 |j::js,c::cs,μ=>putAll js cs (gC μ j c)
 |_,_,μ=>μ
theorem rN(h:i≠j):(gC μ j c)[i]?=μ[i]?:=by
 unfold gC;split
 ·rw[Lo (Ne.symm h)]
 ·rfl
theorem zO{s:Sl}(e:μ[j]?=some s):(gC μ j c)[j]?=some (s.put c):=by
 unfold gC;rw[e];exact Le (Ku.mp e).1
theorem yt:(gC μ j c).length=μ.length:=by
 unfold gC;split
 ·exact KO
 ·rfl
theorem ki:∀{js:List Nat} {cs:List T} {μ:Mu},(putAll js cs μ).length=μ.length
 |[],_,_=>rfl
 |_::_,[],_=>rfl
 |j::js,c::cs,μ=>(ki (js:=js)).trans yt
theorem eY:∀{js:List Nat} {cs:List T} {μ:Mu} {i:Nat},i∉js->(putAll js cs μ)[i]?=μ[i]?
 |[],_,_,_,_=>rfl
 |_::_,[],_,_,_=>rfl
 |j::js,c::cs,μ,i,h=>(eY (js:=js) (fun z=>h (Ko _ z))).trans (rN fun z=>h (z ▸ Ky))
theorem dQ{P:Addr->T->Prop}:∀{js:List Nat} {cs:List T} {μ:Mu} {i:Nat} {s:Sl},js.Nodup->Paired P (js.map ad) cs->i∈js->μ[i]?=some s->∃ c,(putAll js cs μ)[i]?=some (s.put c)/\P (ad i) c
 |[],_,_,_,_,_,_,h,_=>by cases h
 |j::js,c::cs,μ,i,s,nd,.cons p ps,h,e=>by
  rw[KC] at nd;by_cases z:i=j
  ·subst z;refine⟨c,?_,p⟩;show (putAll js cs (gC μ i c))[i]?=_;rw[eY nd.1];exact zO e
  ·rcases Kn.mp h with z'|z'
   ·exact absurd z' z
   ·exact dQ (js:=js) nd.2 ps z' (by rw[rN z];exact e)
theorem Rl.call{B2:ba}{js:List Nat}{outs:List T}(l:Rl F ad B σ H μ)(hb:∀ j∈js,∃(s:Sl) (c:T),μ[j]?=some s/\s.box=some c)(nd:js.Nodup)
  (keep:∀ b o,H b=some o->b∉js.map ad->H' b=some o) (sB:∀ b,B b->B2 b) (nB:∀ b o,H b=some o->¬ B b->¬ B2 b) (tB:∀ b,B2 b->¬ B b->∃ o,H' b=some o) (ps:Paired (Bx F.K H' B2) (js.map ad) outs) :
  Rl F ad B2 σ H' (putAll js outs μ)/\Kp μ (putAll js outs μ)/\Fr B H B2 H':=by
 have inB:∀ b∈js.map ad,B b:=fun b hb'=>by
  obtain⟨j,hj,rfl⟩:=K6.mp hb';obtain⟨s,c,e,q⟩:=hb j hj;exact l.own j s c e q
 have f:Fr B H B2 H':=fun b o e n=>⟨keep b o e fun z=>n (inB b z),nB b o e n⟩;have cases':∀ i s,(putAll js outs μ)[i]?=some s->(i∉js/\μ[i]?=some s)\/(i∈js/\∃ s0 c0 c,μ[i]?=some s0/\s0.box=some c0/\s=s0.put c/\Bx F.K H' B2 (ad i) c):=fun i s e=>by
  by_cases z:i∈js
  ·obtain⟨s0,c0,e0,q0⟩:=hb i z;obtain⟨c,e1,p⟩:=dQ nd ps z e0;rw[e1] at e;exact .inr ⟨z,s0,c0,c,e0,q0,(Option.some.inj e).symm,p⟩
  ·rw[eY z] at e;exact .inl ⟨z,e⟩
 have boxOld:∀(i:Nat) (s:Sl) (c:T),(putAll js outs μ)[i]?=some s->s.box=some c->∃(s0:Sl) (c0:T),μ[i]?=some s0/\s0.box=some c0:=fun i s c e b=>by
  rcases cases' i s e with ⟨_,e'⟩|⟨_,s0,c0,_,e0,q0,_⟩
  ·exact⟨s,c,e',b⟩
  ·exact⟨s0,c0,e0,q0⟩
 have ne:∀(i:Nat) (s:Sl) (c:T),i∉js->μ[i]?=some s->s.box=some c->ad i∉js.map ad:=fun i s c z e b hm=>by
  obtain⟨j,hj,q⟩:=K6.mp hm;obtain⟨s0,c0,e0,q0⟩:=hb j hj;exact z (l.inj i j s s0 c c0 e e0 b q0 q.symm ▸ hj)
 refine⟨⟨by rw[ki];exact l.len,fun i s e=>?_,fun i j s u c d e1 e2 b1 b2 q=>?_,fun i a p=>?_,fun b z=>sB b (l.bc b z),fun b z=>?_,fun b o e n=>?_,fun a ws ga=>?_⟩,fun i=>?_,f⟩
 ·rcases cases' i s e with ⟨z,e'⟩|⟨z,s0,c0,c,e0,q0,rfl,x⟩
  ·have k:=l.slot i s e';unfold ji at k ⊢
   split at k
   ·trivial
   ·obtain⟨v,e1,r1⟩:=k;exact⟨v,e1,r1.fr f⟩
   ·obtain⟨e1,b,z0,p,x⟩:=k;obtain⟨o,eo⟩:=x.dW;exact⟨e1,sB _ b,z0,p,x.of ((keep _ o eo (ne i _ _ z e' rfl)).trans eo.symm) f⟩
   ·obtain⟨e1,b,p,x⟩:=k;obtain⟨o,eo⟩:=x.dW;exact⟨e1,sB _ b,p,x.of ((keep _ o eo (ne i _ _ z e' rfl)).trans eo.symm) f⟩
  ·have k:=l.slot i s0 e0
   cases s0 with
   |un=>cases q0
   |tr t=>cases q0
   |bx d=>exact⟨k.1,sB _ k.2.1,k.2.2.1,k.2.2.2.1,x⟩
   |pb d=>exact⟨k.1,sB _ k.2.1,k.2.2.1,x⟩
 ·obtain⟨s1,c1,g1,g2⟩:=boxOld i s c e1 b1;obtain⟨s2,c2,g3,g4⟩:=boxOld j u d e2 b2;exact l.inj i j s1 s2 c1 c2 g1 g3 g2 g4 q
 ·obtain⟨⟨c,e⟩,ha⟩:=l.par i a p;refine⟨?_,ha⟩;by_cases z:i∈js
  ·obtain⟨c',e1,_⟩:=dQ nd ps z e;exact⟨c',e1⟩
  ·exact⟨c,by rw[eY z];exact e⟩
 ·by_cases zb:B b
  ·obtain⟨o,e⟩:=l.dW b zb;by_cases z2:b∈js.map ad
   ·obtain⟨j,hj,rfl⟩:=K6.mp z2;obtain⟨s0,c0,e0,q0⟩:=hb j hj;obtain⟨c,_,x⟩:=dQ nd ps hj e0;exact x.dW
   ·exact⟨o,keep b o e z2⟩
  ·exact tB b z zb
 ·have e2:=l.old b o e n;refine keep b o e2 fun hm=>?_;obtain⟨j,hj,rfl⟩:=K6.mp hm;obtain⟨s0,c0,e0,q0⟩:=hb j hj;rcases ((l.slot j s0 e0).boxed q0).2.2.2 with z|z
  ·exact n j z
  ·rw[z] at e;cases e
 ·obtain⟨g1,g2,g3⟩:=l.gh a ws ga;refine⟨keep a _ g1 fun hm=>?_,sB a g2,fun i s c e b=>?_⟩
  ·obtain⟨j,hj,q⟩:=K6.mp hm;obtain⟨s0,c0,e0,q0⟩:=hb j hj;exact g3 j s0 c0 e0 q0 q
  ·obtain⟨s0,c0,e0,q0⟩:=boxOld i s c e b;exact g3 i s0 c0 e0 q0
 ·by_cases z:i∈js
  ·obtain⟨s0,c0,e0,q0⟩:=hb i z;obtain⟨c,e1,_⟩:=dQ nd ps z e0;rw[e0,e1];show (s0.box).isSome=((s0.put c).box).isSome;rw[q0,Sl.r9 q0];rfl
  ·rw[eY z]
theorem Fb(l:Rl F ad B σ H μ)(ro:List Nat):∀{md:List Bool} {xs:List V} {rs:List R} {args:List T},Paired (Hv F ad B H μ) xs rs->BV μ md rs=some args->(∀ j∈qV md rs,j∈ro)->(∀ j∈oo md rs,j∉ro) ->
  (∀ j∈ro,∃(s:Sl) (c:T),μ[j]?=some s/\s.box=some c) ->
  fA F.K H (fun b=>B b/\∀ j∈ro,b≠ad j) md xs args/\mU md xs=(oo md rs).map ad/\∀ j∈oo md rs,∃(s:Sl) (c:T),μ[j]?=some s/\s.box=some c:=by
 intro md
 induction md with
 |nil =>
  intro xs rs args p e _ _ _
  cases p with
  |nil=>cases e;exact⟨trivial,rfl,fun j h=>by cases h⟩
  |cons h p=>cases e
 |cons bb md ih =>
  intro xs rs args pp e h1 h2 h3
  cases pp with
  |nil=>cases bb<;>cases e
  |cons h p =>
   rename_i x r xs2 rs
   cases bb with
   |false =>
    unfold BV at e
    split at e
    ·rename_i t ts e1 e2;cases e;have sub:∀ j∈qV md rs,j∈ro:=fun j hj=>h1 j (by cases r<;>first|exact hj|exact Ko _ hj)
     obtain⟨g1,g2,g3⟩:=ih p e2 sub h2 h3;refine⟨⟨?_,g1⟩,?_,g3⟩
     ·cases r with
      |tr t' =>
       have e1':t'=t:=Option.some.inj e1;subst e1';exact (show Rep F.K H B x t' from h).fr (Fr.less fun _ z=>z.1)
      |br j =>
       obtain⟨rfl,s,c,q1,q2⟩:=h;have e1':(μ[j]?).bind Sl.box=some t:=e1;rw[q1] at e1';have bx:=((l.slot j s q1).boxed (c:=t) e1').2.2.1;exact (bx.of rfl (Fr.less fun _ z=>z.1)).rep fun z=>z.2 j (h1 j Ky) rfl
      |fr c=>exact h.elim
     ·show mU (false::md) (_::_)=_;rw[show oo (false::md) (r::rs)=oo md rs by cases r<;>rfl]
      exact g2
    ·cases e
   |true =>
    cases r with
    |tr t=>cases e
    |fr c=>cases e
    |br j =>
     unfold BV at e
     split at e
     ·rename_i t ts e1 e2;cases e;obtain⟨g1,g2,g3⟩:=ih p e2 h1 (fun i hi=>h2 i (Ko _ hi)) h3;obtain⟨rfl,s,c,q1,q2⟩:=h;have e1':(μ[j]?).bind Sl.box=some t:=e1;rw[q1] at e1';have bx:=(l.slot j s q1).boxed (c:=t) e1';refine⟨⟨⟨ad j,rfl,⟨bx.2.1,fun i hi z=>?_⟩,bx.2.2.1.of rfl (Fr.less fun _ z=>z.1)⟩,g1⟩,K1 (ad j::·) g2,fun i hi=>?_⟩
      ·obtain⟨s',c',q3,q4⟩:=h3 i hi;have:=l.inj j i s s' t c' q1 q3 e1' q4 z;subst this;exact h2 j Ky hi
      ·rcases Kn.mp hi with z|z
       ·subst z;exact⟨s,t,q1,e1'⟩
       ·exact g3 i z
     ·cases e
theorem mR:∀{md:List Bool} {xs:List V} {rs:List R},Paired (Hv F ad B H μ) xs rs->∀ j∈qV md rs,∃(s:Sl) (c:T),μ[j]?=some s/\s.box=some c
 |[],_,_,_,j,h=>by cases h
 |b::md,_,_,.nil,j,h=>by cases b<;>cases h
 |b::md,_,r::rs,.cons h p,j,hj=>by
  cases b with
  |true=>exact mR (md:=md) p j (by cases r<;>exact hj)
  |false =>
   cases r with
   |tr t=>exact mR (md:=md) p j hj
   |fr c=>exact h.elim
   |br i =>
    rcases Kn.mp hj with z|z
    ·subst z;exact h.2
    ·exact mR (md:=md) p j z
theorem Bx.flat(h:Bx K H B a c)(f:o9 c=true):Bx K H B' a c:=by
 rcases h.is with ⟨ts,vs,rfl,e,r⟩|⟨ks,ts,vs,rfl,e,l,r⟩
 ·exact⟨vs,e,r.flat f⟩
 ·exact⟨vs,e,l,r.flat f⟩
theorem Paired.vD:∀{as:List Addr} {outs:List T},Paired (Bx K H B) as outs->outs.all o9=true->Paired (Bx K H B') as outs
 |_,_,.nil,_=>.nil
 |_,_,.cons h p,f=>by
  rw[KI,KG] at f;exact .cons (h.flat f.1) (Paired.vD p f.2)
namespace Y
noncomputable def Hk(md:List Bool)(tsp:gj)(us:UA):UE:=fun μ Q=>us μ fun rs μ1=>match BV μ1 md rs with
 |some args=>(oo md rs).Nodup/\(∀ j∈oo md rs,j∉qV md rs)/\tsp args fun r outs=>(qV md rs=[]\/(mI r=true/\outs.all o9=true))/\Q r (putAll (oo md rs) outs μ1)
 |none=>False
theorem Ft{md:List Bool}{E:XK}{t:TA}{us:UA}(ha:RA K t us):RE K (gL (spT K md tsp) [] E t) (Hk md tsp us):=by
 intro F ad B σ H μ Q Qt hF l q k;refine ha F ad B σ H μ _ _ hF l q fun vs H1 rs μ1 l1 ps f1 k1 q1=>?_
 split at q1
 ·rename_i args ea;obtain⟨nd,dj,q1⟩:=q1;have hro:=mR (md:=md) ps;obtain⟨ag,eb,hb⟩:=Fb l1 (qV md rs) ps ea (fun j h=>h) dj hro;rw[hF] at ag;show spT K md tsp (vs++[]) H1 Q E;rw[KN];have inj:∀{js:List Nat},js.Nodup->(∀ j∈js,∃(s:Sl) (c:T),μ1[j]?=some s/\s.box=some c)->(js.map ad).Nodup:=fun {js}=>by
   induction js with
   |nil=>exact fun _ _=>KW
   |cons j js ih =>
    intro nd hb;rw[KC] at nd;rw[Kt,KC];refine⟨fun hm=>?_,ih nd.2 fun i hi=>hb i (Ko _ hi)⟩;obtain⟨i,hi,z⟩:=K6.mp hm;obtain⟨s1,c1,e1,b1⟩:=hb j Ky;obtain⟨s2,c2,e2,b2⟩:=hb i (Ko _ hi);exact nd.1 (l1.inj i j s2 s1 c2 c1 e2 e1 b2 b1 z ▸ hi)
  refine⟨_,args,_,ag,fun b z=>l1.dW b z.1,by rw[eb];exact inj nd hb,q1,fun v H2 r outs hq keep res=>?_⟩
  rw[eb] at keep res;obtain⟨hfl,hq⟩:=hq;have nro:∀{b:Addr},qV md rs=[]->B b->B b/\∀ j∈qV md rs,b≠ad j:=fun {b} z h=>⟨h,fun j hj=>by rw[z] at hj;cases hj⟩
  cases r with
  |br i=>exact res.elim
  |tr t =>
   obtain⟨rv,po⟩:=res;have rv':Rep F.K H2 B v t:=by
    rw[hF];rcases hfl with z|z
    ·exact rv.fr (Fr.less fun b h=>nro z h)
    ·exact rv.flat z.1
   have po':Paired (Bx F.K H2 B) ((oo md rs).map ad) outs:=by
    rw[hF];rcases hfl with z|z
    ·exact Paired.vf po fun a c h=>h.of rfl (Fr.less fun b h=>nro z h)
    ·exact Paired.vD po z.2
   obtain⟨l2,k2,f2⟩:=l1.call hb nd keep (fun _ z=>z) (fun _ _ _ z=>z) (fun b z n=>absurd z n) po';exact k v H2 (.tr t) _ ⟨l2,rv'⟩ (f1.trans f2) (k1.trans k2) hq
  |fr c =>
   obtain⟨a,rfl,ha0,nBa,x,po⟩:=res;have nBa':¬ B a:=l1.AS ha0;have sub:qV md rs=[]->∀ b,more B a b->more (fun b=>B b/\∀ j∈qV md rs,b≠ad j) a b:=fun z b h=>h.imp id fun h=>nro z h;have x':Bx F.K H2 (more B a) a c:=by
    rw[hF];rcases hfl with z|z
    ·exact x.of rfl (Fr.less (sub z))
    ·exact x.flat z.1
   have po':Paired (Bx F.K H2 (more B a)) ((oo md rs).map ad) outs:=by
    rw[hF];rcases hfl with z|z
    ·exact Paired.vf po fun a' c h=>h.of rfl (Fr.less (sub z))
    ·exact Paired.vD po z.2
   have po2:Paired (Bx F.K H2 B) ((oo md rs).map ad) outs:=Paired.vf po' fun a' c h=>h.of rfl (Fr.less fun _ z=>.inr z);obtain⟨l2,k2,f2⟩:=l1.call hb nd keep (fun _ z=>z) (fun _ _ _ z=>z) (fun b z n=>absurd z n) po2;obtain⟨l3,_,f3⟩:=l1.call (B2:=more B a) hb nd keep (fun _ z=>.inr z) (fun b o e n z=>z.elim (fun z=>by rw[z,ha0] at e;cases e) n) (fun b z n=>z.elim (fun z=>by rw[z];exact x'.dW) fun z=>absurd z n) po'
   exact k _ H2 (.fr c) _ ⟨l2,a,rfl,nBa',l1.zV ha0,l3,x'⟩ (f1.trans f3) (k1.trans k2) hq
 ·exact q1.elim
section
variable {X:Cx} {e:Expr} {es:List Expr} {us:UA} {pos p:Pos} {x:Str} {k:Nat} {ps:List Str} {md:List Bool} {tsp:gj} {E:XK}
theorem fn(K:Nv)(hK:X.K=K)(F:ai X.prog X.w X.K X.mg X.base aN k x ps (spT K md tsp))(hr:bP k X.A)(hg:Gl X x)(hx:Passes aN X E)(ha:YA X (e::es) us)(h1:autoParam (fo e=true) ℜ0)(h2:autoParam (es.all fo=true) ℜ0)(hdb:autoParam ((x ==("__debug__":Str))=false) ℜ1):
  YE X (.Call (.Name x p) (e::es) [] pos) (Hk md tsp us):=by
 obtain⟨t,q,r⟩:=ha;subst hK;exact⟨_,Z.fn F hr hg hx q h1 h2 hdb,Ft r⟩
end
end Y
section
variable {prog:Program} {w:World} {A:Around} {E:Value->Shared->Prop} {s:Shared}
structure ZA (z TI TO i1 i2 l1 l2:Addr):Prop where
 a1:TI≠z
 a2:TO≠z
 a3:i1≠z
 a4:i2≠z
 a5:TO≠i1
 a6:TO≠i2
 a7:i1≠i2
 a8:l1≠z/\l1≠TO/\l1≠i1/\l1≠i2
 a9:l2≠z/\l2≠TO/\l2≠i1/\l2≠i2
 b1:TI≠TO/\TI≠i1/\TI≠i2
theorem ZA.f1{TI TO:Addr}(D:ZA z TI TO i1 i2 l1 l2){e:Addr}(he:e=z\/e=TO\/e=i2):∀ b∈[i1,l1],b≠e:=fun b hb=>by
 rcases Kn.mp hb with rfl|hb
 ·rcases he with rfl|rfl|rfl
  ·exact D.a3
  ·exact D.a5.symm
  ·exact D.a7
 ·have hb:b=l1:=by simpa using hb
  subst hb;rcases he with rfl|rfl|rfl
  ·exact D.a8.1
  ·exact D.a8.2.1
  ·exact D.a8.2.2.2
theorem ZA.f2{TI TO:Addr}(D:ZA z TI TO i1 i2 l1 l2){e:Addr}(he:e=z\/e=TO\/e=i1):∀ b∈[i2,l2],b≠e:=fun b hb=>by
 rcases Kn.mp hb with rfl|hb
 ·rcases he with rfl|rfl|rfl
  ·exact D.a4
  ·exact D.a6.symm
  ·exact D.a7.symm
 ·have hb:b=l2:=by simpa using hb
  subst hb;rcases he with rfl|rfl|rfl
  ·exact D.a9.1
  ·exact D.a9.2.1
  ·exact D.a9.2.2.1
theorem eX{l:Addr}{P:Nat->Value->Prop}{S:Nat->Heap->Prop}{A':Around}(D:Draws prog w A' it [it,l] n P S){h':Heap}{e:Addr}(st:S i h)(hs:Heap.ExtBut e h h')(ne:∀ b∈[it,l],b≠e):S i h':=D.frame i h h' st fun b hb o q=>hs b o (ne b hb) q
theorem t_{TI TO:Addr}{n1 n2:Nat}{a b:Value}(D:ZA z TI TO i1 i2 l1 l2)(D1:Draws prog w A i1 [i1,l1] n1 P1 S1)(D2:Draws prog w A i2 [i2,l2] n2 P2 S2)
  (hz:IsZip s.heap z TI TO .none) (hTI:IsPair s.heap TI (.ref i1) (.ref i2)) (hTO:IsPair s.heap TO a b) (st1:S1 k s.heap) (st2:S2 k s.heap) (hk1:k<n1) (hk2:k<n2)
  (hQ:∀ x y h' tk,P1 k x->P2 k y->IsZip h' z TI TO (rawInt s.heap.objs.size)->IsPair h' TO x y->S1 (k+1) h'->S2 (k+1) h'->IsPair h' s.heap.objs.size x y ->
   (∀ c o,c≠z->c≠TO->c≠i1->c≠i2->s.heap.get? c=some o->h'.get? c=some o)->Q (.ref s.heap.objs.size) {s with heap:=h',toks:=tk}) :
  wpAny (model prog w) A (Builtin.«zip.__next__» ⟨[.ref z],[]⟩) (fun fin s'=>∃ v,fin=.done (.ret v)/\Q v s') E s:=by
 have zrec:=hz;show wpAny _ _ (field (.ref z) 2 >>= _) _ _ _;refine Kb (Lf zrec rfl (x:=.bool false) rfl ?_);show wpAny _ _ (field (.ref z) 3 >>= _) _ _ _;refine Kb (Lf zrec rfl (x:=.ref TI) rfl ?_);have tirec:=hTI;refine Kb (Lk tirec rfl ?_);show wpAny _ _ (Builtin.SmallTypes.ownedTupleIsFree (.ref z) >>= _) _ _ _;refine Kb ?_;unfold Builtin.SmallTypes.ownedTupleIsFree;refine Kb (Lf zrec rfl (x:=.none) rfl (Km ?_));simp only[Md];refine Kb (MK ?_);refine Kb (Lf zrec rfl (x:=.ref TO) rfl ?_);refine Kb (Ly zrec (by simp) fun g1 zr1 sb1=>?_)
 replace zr1:IsZip g1 z TI TO .ellipsis:=zr1
 refine Kb ?_;simp only[List.zipIdx_cons,List.zipIdx_nil,MY,List.forIn_nil];refine Kb (Kb (MH ?_));show wpAny _ _ (Builtin.SmallTypes.nextOf (.ref i1) >>= _) _ _ _;refine Kb (D1.item k _ _ _ hk1 (eX D1 st1 sb1.extBut (D.f1 (.inl rfl))) fun x g2 tk2 px st1b sb2=>Km ?_);have to2:IsPair g2 TO a b:=sb2.extBut _ _ D.a5 (sb1.extBut _ _ D.a2 hTO);refine Kb (Lk to2 rfl ?_);refine Kb (Ms to2 fun g3 to3 sb3=>?_)
 replace to3:IsPair g3 TO x b:=to3
 refine Kb (wpAny_letGo (Km ?_));refine Kb (Kb (MH ?_));show wpAny _ _ (Builtin.SmallTypes.nextOf (.ref i2) >>= _) _ _ _;have st2c:S2 k g3:=eX D2 (eX D2 (eX D2 st2 sb1.extBut (D.f2 (.inl rfl))) sb2.extBut (D.f2 (.inr (.inr rfl)))) sb3.extBut (D.f2 (.inr (.inl rfl)));refine Kb (D2.item k _ _ _ hk2 st2c fun y g4 tk4 py st2d sb4=>Km ?_);have to4:IsPair g4 TO x b:=sb4.extBut _ _ D.a6 to3;refine Kb (Lk to4 rfl ?_);refine Kb (Ms to4 fun g5 to5 sb5=>?_)
 replace to5:IsPair g5 TO x y:=to5
 refine Kb (wpAny_letGo (Km (Km ?_)));refine Kb (Lk to5 rfl ?_);refine Kb (wpAny_newTuple ?_);have size5:g5.objs.size=s.heap.objs.size:=by rw[sb5.1,sb4.1,sb3.1,sb2.1,sb1.1]
 have zr5:IsZip g5 z TI TO .ellipsis:=sb5.extBut _ _ D.a2.symm (sb4.extBut _ _ D.a4.symm (sb3.extBut _ _ D.a2.symm (sb2.extBut _ _ D.a3.symm zr1)));have keep5:∀ c o,c≠z->c≠TO->c≠i1->c≠i2->s.heap.get? c=some o->g5.get? c=some o:=fun c o e1 e2 e3 e4 q =>
  sb5.extBut _ _ e2 (sb4.extBut _ _ e4 (sb3.extBut _ _ e2 (sb2.extBut _ _ e3 (sb1.extBut _ _ e1 q))))
 have s1e:S1 (k+1) g5:=eX D1 (eX D1 (eX D1 st1b sb3.extBut (D.f1 (.inr (.inl rfl)))) sb4.extBut (D.f1 (.inr (.inr rfl)))) sb5.extBut (D.f1 (.inr (.inl rfl)));have s2e:S2 (k+1) g5:=eX D2 st2d sb5.extBut (D.f2 (.inr (.inl rfl)));have zlt:z<g5.objs.size:=Kl zr5;show wpAny _ _ (Builtin.SmallTypes.ownedTupleHandOut (.ref z) (.ref g5.objs.size) >>= _) _ _ _;refine Kb ?_;unfold Builtin.SmallTypes.ownedTupleHandOut;have zr6:IsZip (g5.push {cls:=.type "tuple",data:=.seq #[x,y]}) z TI TO .ellipsis:=Ke _ zr5;refine Kb (Ly zr6 (by simp) fun g7 zr7 sb7=>?_)
 replace zr7:IsZip g7 z TI TO (rawInt g5.objs.size):=zr7
 refine Ly zr7 (by simp) fun g8 zr8 sb8=>?_
 replace zr8:IsZip g8 z TI TO (rawInt g5.objs.size):=zr8
 have up:∀ c o,c≠z->g5.get? c=some o->g8.get? c=some o:=fun c o e1 q=>sb8.extBut _ _ e1 (sb7.extBut _ _ e1 (Ke _ q));have pr8:IsPair g8 g5.objs.size x y:=sb8.extBut _ _ (LA zlt) (sb7.extBut _ _ (LA zlt) (Kq _ rfl));rw[size5] at zr8 pr8;refine Km ⟨_,rfl,?_⟩;show Q (.ref g5.objs.size) _;rw[size5];exact hQ x y g8 _ px py zr8 (up _ _ D.a2 to5) (D1.frame _ _ _ s1e fun b hb o q=>up b o (D.f1 (.inl rfl) b hb) q) (D2.frame _ _ _ s2e fun b hb o q=>up b o (D.f2 (.inl rfl) b hb) q) pr8 fun c o e1 e2 e3 e4 q=>up c o e1 (keep5 c o e1 e2 e3 e4 q)
theorem vx{TI TO:Addr}{n1 n2:Nat}{a b:Value}{Q:Fin->Shared->Prop}(D:ZA z TI TO i1 i2 l1 l2)(D1:Draws prog w A i1 [i1,l1] n1 P1 S1)(D2:Draws prog w A i2 [i2,l2] n2 P2 S2)
  (hz:IsZip s.heap z TI TO .none) (hTI:IsPair s.heap TI (.ref i1) (.ref i2)) (hTO:IsPair s.heap TO a b) (st1:S1 k s.heap) (st2:S2 k s.heap) (hk:k=n1\/(k<n1/\k=n2))
  (hE:∀ h' e tk,(∀ c o,c≠z->c≠TO->c≠i1->c≠i2->s.heap.get? c=some o->h'.get? c=some o)->(∃ o,h'.get? e=some o/\o.cls=.type "StopIteration")->E (.ref e) {s with heap:=h',toks:=tk}) :
  wpAny (model prog w) A (Builtin.«zip.__next__» ⟨[.ref z],[]⟩) Q E s:=by
 have zrec:=hz;show wpAny _ _ (field (.ref z) 2 >>= _) _ _ _;refine Kb (Lf zrec rfl (x:=.bool false) rfl ?_);show wpAny _ _ (field (.ref z) 3 >>= _) _ _ _;refine Kb (Lf zrec rfl (x:=.ref TI) rfl ?_);have tirec:=hTI;refine Kb (Lk tirec rfl ?_);show wpAny _ _ (Builtin.SmallTypes.ownedTupleIsFree (.ref z) >>= _) _ _ _;refine Kb ?_;unfold Builtin.SmallTypes.ownedTupleIsFree;refine Kb (Lf zrec rfl (x:=.none) rfl (Km ?_));simp only[Md];refine Kb (MK ?_);refine Kb (Lf zrec rfl (x:=.ref TO) rfl ?_);refine Kb (Ly zrec (by simp) fun g1 zr1 sb1=>?_)
 replace zr1:IsZip g1 z TI TO .ellipsis:=zr1
 refine Kb ?_;simp only[List.zipIdx_cons,List.zipIdx_nil,MY,List.forIn_nil];refine Kb (Kb (MH ?_));show wpAny _ _ (Builtin.SmallTypes.nextOf (.ref i1) >>= _) _ _ _;rcases hk with hk|⟨hk1,hk2⟩
 ·subst hk;refine Kb (D1.done _ _ _ (eX D1 st1 sb1.extBut (D.f1 (.inl rfl))) fun g2 e sb2 he=>?_);obtain⟨oe,hoe,hce⟩:=he;have zr2:IsZip g2 z TI TO .ellipsis:=sb2 _ _ D.a3.symm zr1;have nez:e≠z:=fun q=>by subst q;rw[zr2] at hoe;cases hoe;simp at hce
  refine Ly zr2 (by simp) fun g3 _ sb3=>hE g3 e _ (fun c o e1 _ e3 _ q=>sb3.extBut _ _ e1 (sb2 _ _ e3 (sb1.extBut _ _ e1 q))) ⟨oe,sb3.extBut _ _ nez hoe,hce⟩
 ·subst hk2;refine Kb (D1.item k _ _ _ hk1 (eX D1 st1 sb1.extBut (D.f1 (.inl rfl))) fun x g2 tk2 px st1b sb2=>Km ?_);have to2:IsPair g2 TO a b:=sb2.extBut _ _ D.a5 (sb1.extBut _ _ D.a2 hTO);refine Kb (Lk to2 rfl ?_);refine Kb (Ms to2 fun g3 to3 sb3=>?_);refine Kb (wpAny_letGo (Km ?_));refine Kb (Kb (MH ?_));show wpAny _ _ (Builtin.SmallTypes.nextOf (.ref i2) >>= _) _ _ _;have st2c:S2 k g3:=eX D2 (eX D2 (eX D2 st2 sb1.extBut (D.f2 (.inl rfl))) sb2.extBut (D.f2 (.inr (.inr rfl)))) sb3.extBut (D.f2 (.inr (.inl rfl)));refine Kb (D2.done _ _ _ st2c fun g4 e sb4 he=>?_);obtain⟨oe,hoe,hce⟩:=he;have zr4:IsZip g4 z TI TO .ellipsis:=sb4 _ _ D.a4.symm (sb3.extBut _ _ D.a2.symm (sb2.extBut _ _ D.a3.symm zr1));have nez:e≠z:=fun q=>by subst q;rw[zr4] at hoe;cases hoe;simp at hce
  refine Ly zr4 (by simp) fun g5 _ sb5=>hE g5 e _ (fun c o e1 e2 e3 e4 q=>sb5.extBut _ _ e1 (sb4 _ _ e4 (sb3.extBut _ _ e2 (sb2.extBut _ _ e3 (sb1.extBut _ _ e1 q))))) ⟨oe,sb5.extBut _ _ nez hoe,hce⟩
end
noncomputable def tm(K:Nv)(k:Bool)(H:Hp)(a:Addr)(xs:List V):Prop:=if k=true then bA K H a xs else bO K H a xs
noncomputable def jw(k:Bool)(h:Heap)(it a:Addr)(i:Nat):Prop:=if k=true then h.IsListIter it a i else h.IsTupleIter it a i
noncomputable def jx(k:Bool)(h:Heap)(a:Addr)(items:Array Value):Prop:=if k=true then h.IsList a items else h.IsTuple a items
theorem jL{A:Around}(k:Bool)(hh:A.handled=none)(it l:Addr)(hne:l≠it)(items:Array Value):Draws prog w A it [it,l] items.size (fun i v=>items[i]?=some v) (fun i h=>jw k h it l i/\jx k h l items):=by
 cases k with
 |true=>exact Draws.list hh it l hne items
 |false=>exact uu hh it l hne items
theorem Inv.uV{k:Bool}(I:Inv X pins σ H s)(h:tm X.K k H a xs):∃ its:List Value,Vals xs its/\jx k s.heap a its.toArray:=by
 cases k with
 |true=>obtain⟨its,r,p,_⟩:=I.list h;exact⟨its,r,p.isList⟩
 |false=>obtain⟨its,r,p,_⟩:=I.tuple h;exact⟨its,r,p⟩
theorem Inv.p9{k:Bool}(I:Inv X pins σ H s)(h:tm X.K k H a xs)(h':tm X.K k H a ys):xs=ys:=by
 cases k with
 |true=>exact I.kY h h'
 |false=>exact I.mG h h'
noncomputable def Ea(K:Nv)(k1 k2:Bool)(a b:Addr):It:=
  ⟨fun i H=>∃ xs ys x y,tm K k1 H a xs/\tm K k2 H b ys/\xs[i]?=some x/\ys[i]?=some y,
   fun i H v H'=>∃ p x y,(∀ xs,tm K k1 H a xs->xs[i]?=some x)/\(∀ ys,tm K k2 H b ys->ys[i]?=some y)/\H p=none/\v=.ref p/\H'=upd H p (.tup [x,y]),
   fun i H=>∃ xs ys,tm K k1 H a xs/\tm K k2 H b ys/\i=min xs.length ys.length⟩
theorem jx.ty{k:Bool}(x:jx k h a items):∃ o,h.get? a=some o/\(o.cls=.type "list"\/o.cls=.type "tuple")/\∃ n,o.data=.seq items n:=by
 cases k with
 |true=>obtain⟨o,e,c,n,d⟩:=(show h.IsList a items from x);exact⟨o,e,.inl c,n,d⟩
 |false=>obtain⟨o,e,c,n,d⟩:=(show h.IsTuple a items from x);exact⟨o,e,.inr c,n,d⟩
theorem jw.ty{k:Bool}(x:jw k h it a i):∃ o,h.get? it=some o/\(o.cls=.type "list_iterator"\/o.cls=.type "tuple_iterator")/\o.data=.fields #[.ref a,.int i 0]:=by
 cases k with
 |true=>obtain⟨o,e,c,d⟩:=(show h.IsListIter it a i from x);exact⟨o,e,.inl c,d⟩
 |false=>obtain⟨o,e,c,d⟩:=(show h.IsTupleIter it a i from x);exact⟨o,e,.inr c,d⟩
noncomputable def IH(k:Bool):String:=if k=true then "list_iterator" else "tuple_iterator"
abbrev H_(h:Heap)(k1:Bool)(a:Addr):Heap:=h.push {cls:=.type (IH k1),data:=.fields #[.ref a,.int 0 0]}
abbrev HI(h:Heap)(k1 k2:Bool)(a b:Addr):Heap:=(H_ h k1 a).push {cls:=.type (IH k2),data:=.fields #[.ref b,.int 0 0]}
abbrev Ib(h:Heap)(k1 k2:Bool)(a b:Addr):Heap:=(HI h k1 k2 a b).push {cls:=.type "tuple",data:=.seq #[.ref h.objs.size,.ref (H_ h k1 a).objs.size]}
abbrev HS(h:Heap)(k1 k2:Bool)(a b:Addr):Heap:=(Ib h k1 k2 a b).push {cls:=.type "tuple",data:=.seq #[.none,.none]}
abbrev EC(h:Heap)(k1 k2:Bool)(a b:Addr):Heap:=(HS h k1 k2 a b).push {cls:=.type "zip",data:=.fields #[.none,.bool false,.bool false,.ref (HI h k1 k2 a b).objs.size,.ref (Ib h k1 k2 a b).objs.size]}
theorem ow(x:h.IsTuple a items)(o:Obj):(h.push o).IsTuple a items:=by
 obtain⟨ob,e,r⟩:=x;exact⟨ob,Ke _ e,r⟩
theorem qG(k1 k2:Bool)(a b:Addr)(xs ys:Array Value):
  Meets (Builtin.«zip.__new__» ⟨[.type "zip",.ref a,.ref b],[]⟩) (fun _ R s=>jx k1 s.heap a xs/\jx k2 s.heap b ys /\
   R (.ok (.ret (.ref (HS s.heap k1 k2 a b).objs.size))) {s with heap:=EC s.heap k1 k2 a b}):=
 .of_wp fun prog w A R s h=>by
  obtain⟨hp,g,d,tk,os⟩:=s;obtain⟨q1,q2,h⟩:=h;have hsub:=sub_zip
  cases k1 with
  |true =>
   have w1:Heap.IsList (Shared.heap ⟨hp,g,d,tk,os⟩) a xs:=q1
   cases k2 with
   |true =>
    have w2:Heap.IsList (Shared.heap ⟨hp.push {cls:=.type "list_iterator",data:=.fields #[.ref a,.int 0 0]},g,d,tk,os⟩) b ys:=Heap.IsList.push q2 _;wp_walk using KY w1,KY w2;exact⟨_,rfl,h⟩
   |false =>
    have w2:Heap.IsTuple (Shared.heap ⟨hp.push {cls:=.type "list_iterator",data:=.fields #[.ref a,.int 0 0]},g,d,tk,os⟩) b ys:=ow q2 _;wp_walk using KY w1,Lx w2;exact⟨_,rfl,h⟩
  |false =>
   have w1:Heap.IsTuple (Shared.heap ⟨hp,g,d,tk,os⟩) a xs:=q1
   cases k2 with
   |true =>
    have w2:Heap.IsList (Shared.heap ⟨hp.push {cls:=.type "tuple_iterator",data:=.fields #[.ref a,.int 0 0]},g,d,tk,os⟩) b ys:=Heap.IsList.push q2 _;wp_walk using Lx w1,KY w2;exact⟨_,rfl,h⟩
   |false =>
    have w2:Heap.IsTuple (Shared.heap ⟨hp.push {cls:=.type "tuple_iterator",data:=.fields #[.ref a,.int 0 0]},g,d,tk,os⟩) b ys:=ow q2 _;wp_walk using Lx w1,Lx w2;exact⟨_,rfl,h⟩
theorem BN{k:Bool}(e:h.get? it=some {cls:=.type (IH k),data:=.fields #[.ref a,.int 0 0]}):jw k h it a 0:=by
 cases k with
 |true=>exact⟨_,e,rfl,rfl⟩
 |false=>exact⟨_,e,rfl,rfl⟩
section
variable {prog:Program} {w:World} {A:Around} {E:Value->Shared->Prop} {s:Shared}
theorem uF{k1 k2:Bool}{b:Addr}{xs ys:Array Value}(h1:jx k1 s.heap a xs)(h2:jx k2 s.heap b ys)
  (h:∀ h',IsZip h' (s.heap.objs.size+4) (s.heap.objs.size+2) (s.heap.objs.size+3) .none->IsPair h' (s.heap.objs.size+2) (.ref s.heap.objs.size) (.ref (s.heap.objs.size+1))->IsPair h' (s.heap.objs.size+3) .none .none ->
   jw k1 h' s.heap.objs.size a 0->jw k2 h' (s.heap.objs.size+1) b 0->(∀ c o,s.heap.get? c=some o->h'.get? c=some o)->Q (.ref (s.heap.objs.size+4)) {s with heap:=h'}) :
  wpAny (model prog w) A (call (.type "zip") [.ref a,.ref b]) Q E s:=by
 refine callType_new F.called_zip (by decide) (F.typeCall_zip_2 _ _) (F.newCall_zip_2 _ _) (fun obj=>F.args_object_init_3 obj _ _) F.entry_zip_new (qG k1 k2 a b xs ys) ⟨h1,h2,?_⟩
 have e1:(H_ s.heap k1 a).objs.size=s.heap.objs.size+1:=L9 ..;have e2:(HI s.heap k1 k2 a b).objs.size=s.heap.objs.size+2:=by rw[L9,e1]
 have e3:(Ib s.heap k1 k2 a b).objs.size=s.heap.objs.size+3:=by rw[L9,e2]
 have e4:(HS s.heap k1 k2 a b).objs.size=s.heap.objs.size+4:=by rw[L9,e3]
 have p5:(EC s.heap k1 k2 a b).get? (HS s.heap k1 k2 a b).objs.size=some _:=Kq _ rfl;have p4:(EC s.heap k1 k2 a b).get? (Ib s.heap k1 k2 a b).objs.size=some _:=Ke _ (Kq _ rfl);have p3:(EC s.heap k1 k2 a b).get? (HI s.heap k1 k2 a b).objs.size=some _:=Ke _ (Ke _ (Kq _ rfl));have p2:(EC s.heap k1 k2 a b).get? (H_ s.heap k1 a).objs.size=some _:=Ke _ (Ke _ (Ke _ (Kq _ rfl)));have p1:(EC s.heap k1 k2 a b).get? s.heap.objs.size=some _:=Ke _ (Ke _ (Ke _ (Ke _ (Kq _ rfl))));show _/\_;rw[e2,e3,e4] at p5;rw[e1,e2] at p3;rw[e3] at p4;rw[e1] at p2;rw[e4];exact⟨⟨_,p5,rfl⟩,h _ p5 p3 p4 (BN p1) (BN p2) fun c o x=>Ke _ (Ke _ (Ke _ (Ke _ (Ke _ x))))⟩
end
theorem tM{w:World}{tk:Nat}{tp:Pos}(k1 k2:Bool)(a b z TI TO i1 i2:Addr)(D:ZA z TI TO i1 i2 a b):
  Turn P w K (.Tuple es tk tp) (Ea K k1 k2 a b) [z,TI,TO,i1,i2] z (fun i h=>IsZip h z TI TO .none/\IsPair h TI (.ref i1) (.ref i2)/\(∃ x y,IsPair h TO x y)/\jw k1 h i1 a i/\jw k2 h i2 b i) where
 mem:=by simp
 obj:=fun i h st c hc=>by
  obtain⟨s1,s2,⟨x,y,s3⟩,s4,s5⟩:=st;simp only[Kn,K4,L3] at hc;rcases hc with rfl|rfl|rfl|rfl|rfl
  ·exact⟨_,s1,fun v q=>by cases q⟩
  ·exact⟨_,s2,fun v q=>by cases q⟩
  ·exact⟨_,s3,fun v q=>by cases q⟩
  ·obtain⟨o,e,_,d⟩:=s4.ty;exact⟨o,e,fun v q=>by rw[d] at q;cases q⟩
  ·obtain⟨o,e,_,d⟩:=s5.ty;exact⟨o,e,fun v q=>by rw[d] at q;cases q⟩
 keep:=fun i h h' st k=>by
  obtain⟨s1,s2,⟨x,y,s3⟩,s4,s5⟩:=st;refine⟨k z (by simp) _ s1,k TI (by simp) _ s2,⟨x,y,k TO (by simp) _ s3⟩,?_,?_⟩
  ·cases k1 with
   |true=>obtain⟨o,e,r⟩:=(show h.IsListIter i1 a i from s4);exact⟨o,k i1 (by simp) o e,r⟩
   |false=>obtain⟨o,e,r⟩:=(show h.IsTupleIter i1 a i from s4);exact⟨o,k i1 (by simp) o e,r⟩
  ·cases k2 with
   |true=>obtain⟨o,e,r⟩:=(show h.IsListIter i2 b i from s5);exact⟨o,k i2 (by simp) o e,r⟩
   |false=>obtain⟨o,e,r⟩:=(show h.IsTupleIter i2 b i from s5);exact⟨o,k i2 (by simp) o e,r⟩
 item:=by
  intro X hP hw hK hc i pins s σ H E I hf st hg;subst hP hw hK;obtain⟨xs,ys,x,y,q1,q2,ex,ey⟩:=hg;obtain⟨s1,s2,⟨x0,y0,s3⟩,s4,s5⟩:=st;obtain⟨its1,rv1,p1⟩:=I.uV q1;obtain⟨its2,rv2,p2⟩:=I.uV q2;obtain⟨u1,hu1,ru1⟩:=rv1.get ex;obtain⟨u2,hu2,ru2⟩:=rv2.get ey;have lt1:i<its1.toArray.size:=by have:=(Ku.mp hu1).1;simpa using this
  have lt2:i<its2.toArray.size:=by have:=(Ku.mp hu2).1;simpa using this
  have hT:s.TypeIs (.ref z) "zip":=⟨_,s1,rfl⟩;have D1:=jL (prog:=X.prog) (w:=X.w) (A:=X.A.in1) k1 (I.ok.hd hc) i1 a D.a8.2.2.1 its1.toArray;have D2:=jL (prog:=X.prog) (w:=X.w) (A:=X.A.in1) k2 (I.ok.hd hc) i2 b D.a9.2.2.2 its2.toArray;unfold pyNext;refine Kb (Np (Lb (name:=Str.ofString "__next__") hT PySem.F.slot_zip_next (LC PySem.F.slot_zip_next hT PySem.F.entry_zip_next
   (t_ D D1 D2 s1 s2 s3 ⟨s4,p1⟩ ⟨s5,p2⟩ lt1 lt2 fun v1 v2 h' tk' px py z1 t1 w1 w2 pr kp=>Km ?_) (PySem.F.args_zip_next_1 _))))
  have fr:H s.heap.objs.size=none:=I.aU.fresh (Kk _);have ev1:v1=u1:=by rw[L1,hu1] at px;exact (Option.some.inj px).symm
  have ev2:v2=u2:=by rw[L1,hu2] at py;exact (Option.some.inj py).symm
  subst ev1 ev2;have lt:∀{c o},s.heap.get? c=some o->s.heap.objs.size≠c:=fun e=>LA (Kl e);refine⟨.ref s.heap.objs.size,rfl,wpAny_letOwnedTupleGo_zip z1 fun h2 z2 sb2=>?_⟩;have pr2:IsPair h2 s.heap.objs.size v1 v2:=sb2.extBut _ _ (lt s1) pr;have I2:Inv X pins σ (upd H s.heap.objs.size (.tup [x,y])) {s with heap:=h2,toks:=tk'}:=by
   refine I.sH (fp:=[z,TI,TO,i1,i2]) hf (Kk _) (fun c o hcm ec=>?_) ⟨by show 2<=sizeLine;decide,[v1,v2],.cons ru1 (.cons ru2 .nil),⟨_,pr2,rfl,_,rfl,rfl⟩⟩
   simp only[Kn,K4,L3,not_or] at hcm;exact sb2.extBut _ _ hcm.1 (kp c o hcm.1 hcm.2.2.1 hcm.2.2.2.1 hcm.2.2.2.2 ec)
  refine⟨.ref s.heap.objs.size,_,I2,rfl,⟨s.heap.objs.size,x,y,fun zs hz=>by rw[I.p9 hz q1];exact ex,fun zs hz=>by rw[I.p9 hz q2];exact ey,fr,rfl,rfl⟩,⟨z2,?_,⟨v1,v2,?_⟩,?_,?_⟩,fun c hcm=>?_⟩
  ·exact sb2.extBut _ _ D.a1 (kp _ _ D.a1 D.b1.1 D.b1.2.1 D.b1.2.2 s2)
  ·exact sb2.extBut _ _ D.a2 t1
  ·have:=D1.frame (i+1) h' h2 w1 fun c hcm o q=>sb2.extBut _ _ (D.f1 (.inl rfl) c hcm) q;exact this.1
  ·have:=D2.frame (i+1) h' h2 w2 fun c hcm o q=>sb2.extBut _ _ (D.f2 (.inl rfl) c hcm) q;exact this.1
  ·have hn:=(hf c hcm).1;rw[ae]
   ·exact hn
   ·simp only[Kn,K4,L3] at hcm;rcases hcm with rfl|rfl|rfl|rfl|rfl
    ·exact (lt s1).symm
    ·exact (lt s2).symm
    ·exact (lt s3).symm
    ·obtain⟨o,e,_⟩:=s4.ty;exact (lt e).symm
    ·obtain⟨o,e,_⟩:=s5.ty;exact (lt e).symm
 done:=by
  intro X hP hw hK hc i pins s σ H E I hf st hg;subst hP hw hK;obtain⟨xs,ys,q1,q2,hi⟩:=hg;obtain⟨s1,s2,⟨x0,y0,s3⟩,s4,s5⟩:=st;obtain⟨its1,rv1,p1⟩:=I.uV q1;obtain⟨its2,rv2,p2⟩:=I.uV q2;have n1:its1.toArray.size=xs.length:=by rw[Kg];exact rv1.length.symm
  have n2:its2.toArray.size=ys.length:=by rw[Kg];exact rv2.length.symm
  have hT:s.TypeIs (.ref z) "zip":=⟨_,s1,rfl⟩;have D1:=jL (prog:=X.prog) (w:=X.w) (A:=X.A.in1) k1 (I.ok.hd hc) i1 a D.a8.2.2.1 its1.toArray;have D2:=jL (prog:=X.prog) (w:=X.w) (A:=X.A.in1) k2 (I.ok.hd hc) i2 b D.a9.2.2.2 its2.toArray;unfold pyNext;refine Kb (Np (Lb (name:=Str.ofString "__next__") hT PySem.F.slot_zip_next (LC PySem.F.slot_zip_next hT PySem.F.entry_zip_next
   (vx D D1 D2 s1 s2 s3 ⟨s4,p1⟩ ⟨s5,p2⟩ (by rw[n1,n2];lia) fun h' e tk' kp he=>?_) (PySem.F.args_zip_next_1 _))))
  obtain⟨o,ho,hcl⟩:=he;refine Kb (wpAny_isInstance (T:="StopIteration") (b:=true) ⟨o,ho,hcl⟩ isSubtype_stop (Km ⟨rfl,?_⟩));refine I.turns (t':=tk') hf fun c o hcm ec=>?_;simp only[Kn,K4,L3,not_or] at hcm;exact kp c o hcm.1 hcm.2.2.1 hcm.2.2.2.1 hcm.2.2.2.2 ec
 self:=fun A i s Q E st h=>wpAny_pyIter_zip st.1 h
section
variable {X:Cx} {es:List Expr} {tk:Nat} {tp:Pos}
noncomputable def Gz(K:Nv)(ta:TA):TI:=fun σ H R=>ta σ H fun vs H1=>∃ a b k1 k2,vs=[.ref a,.ref b]/\(∃ xs,tm K k1 H1 a xs)/\(∃ ys,tm K k2 H1 b ys)/\R (Ea K k1 k2 a b) H1
theorem A_{e1 e2:Expr}{ta:TA}{p:Pos}(hg:Gl X "zip")(hm:X.mg "zip"=none)(ha:PA X [e1,e2] ta)(h1:autoParam (fo e1=true) ℜ0)(h2:autoParam (fo e2=true) ℜ0)(hv:autoParam (bootBuiltins "zip"=some (.type "zip")) ℜ6):
  PI X (.Tuple es tk tp) (.Call (.Name "zip" p) [e1,e2] [] pos) (Gz X.K ta):=by
 intro pins s σ H R I h;refine Call_ (iW I hg hm hv (Lw (bM (ha pos pins s σ H _ I h) fun us s1 hq1=>?_) (by rw[fH h1,fH h2]) (by rw[fH h2];rfl)))
 obtain⟨vs,H1,I1,r1,q1⟩:=hq1;obtain⟨a,b,k1,k2,e,⟨xs,hx⟩,⟨ys,hy⟩,q⟩:=q1;subst e;obtain⟨u,w',rfl,ru,rw'⟩:=vals2 r1
 cases ru;cases rw'
 obtain⟨its1,rv1,p1⟩:=I1.uV hx;obtain⟨its2,rv2,p2⟩:=I1.uV hy;obtain⟨o1,eo1,_⟩:=p1.ty;obtain⟨o2,eo2,_⟩:=p2.ty;have l1:a<s1.heap.objs.size:=Kl eo1;have l2:b<s1.heap.objs.size:=Kl eo2;refine uF p1 p2 fun h' z1 z2 z3 z4 z5 kp=>wpAny_pyIter_zip z1 ?_;have I2:Inv X pins σ H1 {s1 with heap:=h'}:=I1.kept (t':=s1.toks) kp
 have ne:∀(m n c:Nat),m≠n->c+m≠c+n:=fun m n c h=>by lia
 have nl:∀(x c m:Nat),x<c->x≠c+m:=fun x c m h=>by lia
 have D:ZA (s1.heap.objs.size+4) (s1.heap.objs.size+2) (s1.heap.objs.size+3) s1.heap.objs.size (s1.heap.objs.size+1) a b:=
  ⟨ne 2 4 _ (by decide),ne 3 4 _ (by decide),ne 0 4 _ (by decide),ne 1 4 _ (by decide),ne 3 0 _ (by decide),ne 3 1 _ (by decide),ne 0 1 _ (by decide),⟨nl _ _ 4 l1,nl _ _ 3 l1,nl _ _ 0 l1,nl _ _ 1 l1⟩,⟨nl _ _ 4 l2,nl _ _ 3 l2,nl _ _ 0 l2,nl _ _ 1 l2⟩,ne 2 3 _ (by decide),ne 2 0 _ (by decide),ne 2 1 _ (by decide)⟩
 refine⟨s1.heap.objs.size+4,[s1.heap.objs.size+4,s1.heap.objs.size+2,s1.heap.objs.size+3,s1.heap.objs.size,s1.heap.objs.size+1],_,_,H1,rfl,I2,tM k1 k2 a b _ _ _ _ _ D,⟨z1,z2,⟨_,_,z3⟩,z4,z5⟩,fun c hc=>?_,q⟩;have hc':s1.heap.objs.size<=c:=by
  simp only[Kn,K4,L3] at hc;rcases hc with rfl|rfl|rfl|rfl|rfl
  ·exact Mn _ _
  ·exact Mn _ _
  ·exact Mn _ _
  ·exact Kk _
  ·exact Mn _ _
 exact I1.oq hc' (I1.aU.fresh hc')
end
noncomputable def ph(ts us:List T):List T:=List.zipWith (fun t u=>.tup [t,u]) ts us
noncomputable def qN:T->Option (List T)
 |.lst ts=>some ts
 |.tup ts=>some ts
 |.gp ts=>some ts
 |.cT ts=>some ts
 |_=>none
noncomputable def kdOf:T->Bool
 |.lst _=>true
 |.gp _=>true
 |_=>false
theorem Vw.sq{v:V}{t:T}(h:Vw K H B v t)(e:qN t=some ts):∃ a vs,v=.ref a/\tm K (kdOf t) H a vs/\av K H B vs ts:=by
 cases h with
 |aE=>cases e
 |bl=>cases e
 |int=>cases e
 |str=>cases e
 |nM=>cases e
 |pk=>cases e
 |exc=>cases e
 |BQ=>cases e
 |il=>cases e
 |adr=>cases e
 |ins=>cases e
 |tup h r=>cases e;exact⟨_,_,rfl,bO.of h,r⟩
 |cT h r=>cases e;exact⟨_,_,rfl,.inr h,r⟩
 |lst h r=>cases e;exact⟨_,_,rfl,bA.of h,r⟩
 |gp h r=>cases e;exact⟨_,_,rfl,h,r⟩
theorem D7{k1 k2:Bool}{b:Addr}:kO K (Ea K k1 k2 a b) (fun H B=>(∃ vs,tm K k1 H a vs/\av K H B vs ts)/\∃ ws,tm K k2 H b ws/\av K H B ws us) (ph ts us):=by
 refine⟨fun H B i t hb hq2 e=>?_,fun H B ⟨⟨vs,h1,r1⟩,ws,h2,r2⟩=>⟨vs,ws,h1,h2,by rw[r1.length,r2.length];simp[ph]⟩⟩
 obtain⟨⟨vs,h1,r1⟩,ws,h2,r2⟩:=hq2;unfold ph at e;rw[List.getElem?_zipWith] at e
 cases e1:ts[i]? with
 |none=>rw[e1] at e;cases e
 |some t1=>cases e2:us[i]? with
  |none=>rw[e1,e2] at e;cases e
  |some t2 =>
   rw[e1,e2] at e;have e':T.tup [t1,t2]=t:=Option.some.inj e;subst e';obtain⟨v1,g1,rv1⟩:=r1.get e1;obtain⟨v2,g2,rv2⟩:=r2.get e2;refine⟨⟨vs,ws,v1,v2,h1,h2,g1,g2⟩,fun x H2 y=>?_⟩;obtain⟨p,x',y',hx,hy,hp,rfl,rfl⟩:=y;have z1:=hx vs h1;have z2:=hy ws h2;rw[g1] at z1;rw[g2] at z2
   cases z1;cases z2
   have fs:Fr B H B (upd H p (.tup [v1,v2])):=Fr.same (cQ.new hp);refine⟨cQ.new hp,.tup (fun z=>?_) ab (.cons (rv1.fr fs) (.cons (rv2.fr fs) .nil))⟩;obtain⟨o,q⟩:=hb p z;rw[hp] at q;cases q
namespace Y
section
variable {X:Cx} {e1 e2:Expr} {es:List Expr} {us:UA} {pos p tp:Pos} {k:Nat}
noncomputable def iZ(us:UA):UI:=fun μ Rt=>us μ fun rs μ'=>match rs with
 |[.tr t1,.tr t2]=>(match qN t1,qN t2 with
  |some ts,some vs=>Rt (ph ts vs) none μ'
  |_,_=>False)
 |_=>False
theorem zip(K:Nv)(hK:X.K=K)(hg:Gl X "zip")(hm:X.mg "zip"=none)(ha:YA X [e1,e2] us)(h1:autoParam (fo e1=true) ℜ0)(h2:autoParam (fo e2=true) ℜ0):YI X (.Tuple es k tp) (.Call (.Name "zip" p) [e1,e2] [] pos) (iZ us):=by
 obtain⟨t,q,r⟩:=ha;subst hK;refine⟨_,⟨A_ hg hm q.h h1 h2⟩,fun F ad B σ H μ R Rt hF l q k=>r F ad B σ H μ _ _ hF l q fun vs H' rs μ' l1 ps f k1 q1=>?_⟩
 split at q1
 ·rename_i t1 t2;obtain⟨_,_,rfl,h1,ps⟩:=Paired.aO ps;obtain⟨_,_,rfl,h2,ps⟩:=Paired.aO ps;obtain rfl:=Paired.dD ps;have r1:=cB h1;have r2:=cB h2
  split at q1
  ·rename_i ts us e1 e2;obtain⟨a,vs,rfl,s1,_⟩:=Vw.sq r1.vw e1;obtain⟨b,ws,rfl,s2,_⟩:=Vw.sq r2.vw e2;rw[hF] at s1 s2;refine⟨a,b,kdOf t1,kdOf t2,rfl,⟨vs,s1⟩,⟨ws,s2⟩,k _ H' μ' _ none (fun H B=>Rep F.K H B (.ref a) t1/\Rep F.K H B (.ref b) t2) l1 f k1 (D7.imp fun H B h=>?_) ⟨r1,r2⟩ (fun B1 H1 B2 H2 f h=>⟨h.1.fr f,h.2.fr f⟩) (fun j ls z=>by cases z) q1⟩
   obtain⟨g1,g2⟩:=h;obtain⟨a',vs',ea,sa,ra⟩:=Vw.sq g1.vw e1;obtain⟨b',ws',eb,sb,rb⟩:=Vw.sq g2.vw e2
   cases ea;cases eb
   rw[hF] at sa sb ra rb;exact⟨⟨vs',sa,ra⟩,ws',sb,rb⟩
  ·exact q1.elim
 ·exact q1.elim
end
section
variable {X:Cx} {es:List Expr} {pos:Pos} {x:Str}
theorem pw{t:T}(hg:Gl X x)(h:∃ w u,X.mg x=some u/\RelV w u/\∀ H B,Rep X.K H B w t)(hd:autoParam ((x ==("__debug__":Str))=false) ℜ1):YE X (.Name x pos) (uC t):=by
 obtain⟨w,u,hm,r,h⟩:=h;exact glob hg hm r h hd
noncomputable def sX:List V->Option (List T)
 |[]=>some []
 |v::vs=>match yA v,sX vs with
  |some t,some ts=>some (t::ts)
  |_,_=>none
theorem mw:∀{vs:List V} {ts:List T},sX vs=some ts->vs.map yA=ts.map some
 |[],ts,h=>by cases h;rfl
 |v::vs,ts,h=>by
  unfold sX at h
  split at h
  ·rename_i t us e1 e2;cases h;rw[Kt,Kt,e1,mw e2]
  ·cases h
theorem fw{vs:List V}(h:lK es=some vs)(h2:sX vs=some ts):YA X es (uK ts):=consts h (mw h2)
end
end Y
theorem h7{u w:US}{E:Ed}(h:∀ N,N=w E->u {E with nx:=N} μ):Y.zR u w E μ:=h _ rfl
noncomputable def Hl(o:Option (Prop×R))(Q:R->Prop):Prop:=match o with
 |some (C,r)=>C/\Q r
 |none=>False
noncomputable def Hi(o:Option (List T×Option (Nat×List T)))(Q:List T->Option (Nat×List T)->Prop):Prop:=match o with
 |some (ts,g)=>Q ts g
 |none=>False
noncomputable def nb:Option Sl->Prop
 |some (.pb _)=>False
 |_=>True
noncomputable def sl:Option T->Sl
 |none=>.un
 |some t=>.tr t
noncomputable def wc:R->Option Bool
 |.tr (.bl b)=>some b
 |.tr (.int i)=>some (i != 0)
 |_=>none
noncomputable def JN(a b:Option T):Option (Prop×R):=match a,b with
 |some (.int i),some (.int j)=>some (True,.tr (.int (i+j)))
 |some (.str i),some (.str j)=>some (i.length+j.length<=sizeLine,.tr (.str (i++j)))
 |some (.lst xs),some (.lst ys)=>some (xs.length+ys.length<=sizeLine,.fr (.lst (xs++ys)))
 |some (.tup xs),some (.tup ys)=>some (xs.length+ys.length<=sizeLine,.tr (.tup (xs++ys)))
 |_,_=>none
noncomputable def oT(o:Option T):Option (Prop×R):=match o with
 |some t=>some (True,.tr t)
 |none=>none
noncomputable def Ka(a b:Option T):Option (Prop×R):=match a,b with
 |some (.lst xs),some (.int i)=>oT (c_ xs i)
 |some (.tup xs),some (.int i)=>oT (c_ xs i)
 |some (.cT xs),some (.int i)=>oT (c_ xs i)
 |some (.str z),some (.int i)=>(match c_ z.cps.toList i with|some c=>some (z.length<=sizeLine,.tr (.str ⟨#[c]⟩))|none=>none)
 |_,_=>none
noncomputable def qm(a:Option T):Option (Prop×R):=match a with
 |some (.lst xs)=>some (True,.tr (.tup xs))
 |some (.tup xs)=>some (True,.tr (.tup xs))
 |_=>none
noncomputable def wm(a:Option T):Option (List T):=match a with
 |some (.tup ts)=>some ts
 |some (.lst ts)=>some ts
 |_=>none
noncomputable def Ce(r:R)(μ:Mu):Option (List T×Option (Nat×List T)):=match r with
 |.br j=>(match cont μ (.br j) with|some (.lst ts)=>some (ts,some (j,ts))|_=>none)
 |.tr (.lst ts)=>some (ts,none)
 |.fr (.lst ts)=>some (ts,none)
 |.tr (.tup ts)=>some (ts,none)
 |.tr (.gp ts)=>some (ts,none)
 |.tr (.cT ts)=>some (ts,none)
 |_=>none
namespace A
open Y
theorem uC(t:T)(μ:Mu)(Q:R->Mu->Prop):Y.uC t μ Q=Q (.tr t) μ:=rfl
theorem oJ(ue:UE)(μ:Mu)(Q:Bool->Mu->Prop):Y.oJ ue μ Q=ue μ fun r μ'=>match r with|.tr (.bl b)=>Q b μ'|_=>False:=rfl
theorem Ai(ut:UT)(μ:Mu)(Q:Bool->Mu->Prop):Y.Ai ut μ Q=ut μ fun b μ'=>Q (!b) μ':=rfl
theorem vP(u w:UT)(μ:Mu)(Q:Bool->Mu->Prop):Y.vP u w μ Q=u μ fun b μ'=>if b=true then w μ' Q else Q false μ':=rfl
theorem HC(u w:UT)(μ:Mu)(Q:Bool->Mu->Prop):Y.HC u w μ Q=u μ fun b μ'=>if b=true then Q true μ' else w μ' Q:=rfl
theorem oN(ue:UE)(μ:Mu)(Q:Bool->Mu->Prop):Y.oN ue μ Q=ue μ fun r μ'=>match wc r with|some b=>Q b μ'|none=>False:=by
 unfold Y.oN wc;congr 1
 funext r μ'
 cases r with
 |tr t=>cases t<;>rfl
 |br i=>rfl
 |fr c=>rfl
theorem s_(ue:UE)(μ:Mu)(Q:R->Mu->Prop):Y.s_ ue μ Q=ue μ fun r μ'=>match r with|.tr (.bl b)=>Q (.tr (.bl (!b))) μ'|_=>False:=rfl
theorem sS(ua ub:UE)(μ:Mu)(Q:R->Mu->Prop):Y.sS ua ub μ Q=ua μ fun r μ'=>match r with|.tr (.bl true)=>ub μ' Q|.tr (.bl false)=>Q (.tr (.bl false)) μ'|_=>False:=rfl
theorem yP(ua ub:UE)(μ:Mu)(Q:R->Mu->Prop):Y.yP ua ub μ Q=ua μ fun r μ'=>match r with|.tr (.bl false)=>ub μ' Q|.tr (.bl true)=>Q (.tr (.bl true)) μ'|_=>False:=rfl
theorem HQ(uc:UT)(ua ub:UE)(μ:Mu)(Q:R->Mu->Prop):Y.HQ uc ua ub μ Q=uc μ fun b μ'=>if b=true then ua μ' Q else ub μ' Q:=rfl
theorem yN(ue:UE)(μ:Mu)(Q:R->Mu->Prop):Y.yN ue μ Q=ue μ fun r μ'=>match r with|.tr (.int i)=>Q (.tr (.int (-i))) μ'|_=>False:=rfl
theorem yL(μ:Mu)(Q:List R->Mu->Prop):Y.yL μ Q=Q [] μ:=rfl
theorem uK(ts:List T)(μ:Mu)(Q:List R->Mu->Prop):Y.uK ts μ Q=Q (ts.map R.tr) μ:=rfl
theorem AV(us:UA)(μ:Mu)(Q:R->Mu->Prop):Y.AV us μ Q=us μ fun rs μ'=>match trees rs with|some ts=>ts.length<=sizeLine/\Q (.tr (.tup ts)) μ'|none=>False:=rfl
theorem yZ(us:UA)(μ:Mu)(Q:R->Mu->Prop):Y.yZ us μ Q=us μ fun rs μ'=>match trees rs with|some ts=>ts.length<=sizeLine/\Q (.fr (.lst ts)) μ'|none=>False:=rfl
theorem EF(u:UC)(us:UA)(μ:Mu)(Q:R->Mu->Prop):Y.EF u us μ Q=us μ fun rs μ'=>u rs μ' Q:=rfl
theorem jR(μ:Mu)(Q:Option Int->Mu->Prop):Y.jR μ Q=Q none μ:=rfl
theorem sQ(ue:UE)(μ:Mu)(Q:Option Int->Mu->Prop):Y.sQ ue μ Q=ue μ fun r μ'=>match r with|.tr (.int i)=>Q (some i) μ'|_=>False:=rfl
theorem uG(f:T->T->Mu->(R->Mu->Prop)->Prop)(r1 r2:R)(μ:Mu)(Q:R->Mu->Prop):Y.uG f r1 r2 μ Q=(match cont μ r1,cont μ r2 with|some t,some u=>f t u μ Q|_,_=>False):=rfl
theorem Fd(C:Int->Int->Prop)(g:Int->Int->Int)(i j:Int)(μ:Mu)(Q:R->Mu->Prop):yB C g (.int i) (.int j) μ Q=(C i j/\Q (.tr (.int (g i j))) μ):=rfl
theorem Ji(g:Int->Int->Bool)(i j:Int)(μ:Mu)(Q:R->Mu->Prop):Iv g (.int i) (.int j) μ Q=Q (.tr (.bl (g i j))) μ:=rfl
theorem oh(neg:Bool)(t:T)(μ:Mu)(Q:R->Mu->Prop):Y.oh neg t .aE μ Q=Q (.tr (.bl (match t with|.aE=>!neg|_=>neg))) μ:=rfl
theorem Gs(neg:Bool)(i j:Int)(μ:Mu)(Q:R->Mu->Prop):Y.HB neg (.int i) (.int j) μ Q=Q (.tr (.bl (if neg then !decide (i=j) else decide (i=j)))) μ:=rfl
theorem Iq(neg:Bool)(i j:Str)(μ:Mu)(Q:R->Mu->Prop):Y.HB neg (.str i) (.str j) μ Q=Q (.tr (.bl (if neg then !decide (i=j) else decide (i=j)))) μ:=rfl
theorem IZ(neg:Bool)(xs ys:List T)(μ:Mu)(Q:R->Mu->Prop):Y.HB neg (.lst xs) (.lst ys) μ Q=(neg=false/\xs.all aF=true/\ys.all aF=true/\Q (.tr (.bl (qJ xs ys))) μ):=rfl
theorem Br(f:T->Mu->(R->Mu->Prop)->Prop)(r:R)(μ:Mu)(Q:R->Mu->Prop):Y.Br f [r] μ Q=(match cont μ r with|some t=>f t μ Q|none=>False):=rfl
theorem eU(r:R)(μ:Mu)(Q:R->Mu->Prop):Y.eU [r] μ Q=Hl (qm (cont μ r)) fun r=>Q r μ:=by
 show (match cont μ r with|some (.lst xs)=>Q (.tr (.tup xs)) μ|some (.tup xs)=>Q (.tr (.tup xs)) μ|_=>False)=_
 unfold qm
 cases cont μ r with
 |none=>rfl
 |some t=>cases t<;>first|rfl|exact propext ⟨fun h=>⟨trivial,h⟩,fun h=>h.2⟩
theorem Fy(k:Bool)(μ:Mu)(Q:R->Mu->Prop):Y.xq [.tr (.bl k)] μ Q=Q (.tr (.int (if k=true then 1 else 0))) μ:=rfl
theorem p8(ue:UE)(c:String)(μ:Mu)(Q:R->Mu->Prop):Y.p8 ue c μ Q=ue μ fun r μ'=>match cont μ' r with|some t=>(match zg t c with|some b=>Q (.tr (.bl b)) μ'|none=>False)|none=>False:=rfl
theorem lu(ue:UE)(g:UG)(E:Ed)(μ:Mu):Y.lu ue g E μ=ue μ fun r μ'=>g r μ' E.nx:=rfl
theorem JE(i:Nat)(t:T)(μ:Mu)(Q:Mu->Prop):Y.gN i (.tr t) μ Q=(vp μ i/\Q (μ.set i (.tr t))):=rfl
theorem JX(i:Nat)(t:T)(μ:Mu)(Q:Mu->Prop):Y.gN i (.fr t) μ Q=(vp μ i/\Q (μ.set i (.bx t))):=rfl
theorem vp(μ:Mu)(i:Nat):Y.vp μ i=nb μ[i]?:=rfl
theorem FT(t:T):nb (some (.tr t))=True:=rfl
theorem GV:nb (some .un)=True:=rfl
theorem Fi(o:Option T):nb (some (sl o))=True:=by cases o<;>rfl
theorem gT(n:Nat)(gs:rD)(r:R)(μ:Mu)(Q:Mu->Prop):Y.gT n gs r μ Q=(match wm (cont μ r.d) with|some ts=>ts.length=n/\gs ts μ Q|none=>False):=by
 unfold Y.gT wm
 cases cont μ r.d with
 |none=>rfl
 |some t=>cases t<;>rfl
theorem HL(g:UG)(gs:rD)(t:T)(ts:List T)(μ:Mu)(Q:Mu->Prop):Y.HL g gs (t::ts) μ Q=g (.tr t) μ fun μ'=>gs ts μ' Q:=rfl
theorem HV(μ:Mu)(Q:Mu->Prop):Y.HV [] μ Q=Q μ:=rfl
theorem gS(uo ui:UE)(t:T)(μ:Mu)(Q:Mu->Prop):Y.gS uo ui (.tr t) μ Q=uo μ fun ro μ1=>ui μ1 fun ri μ2=>(match ro,ri with
  |.br j,.tr (.int k)=>(match (μ2[j]?).bind Sl.box with
   |some (.lst ts)=>(match mx ts.length k with
    |some n=>Q (gC μ2 j (.lst (ts.set n t)))
    |none=>False)
   |_=>False)
  |_,_=>False):=rfl
theorem AB(ue:UE)(E:Ed)(μ:Mu):Y.AB ue E μ=ue μ E.rt:=rfl
theorem sJ(ue:UE)(E:Ed)(μ:Mu):Y.sJ ue E μ=ue μ fun _ μ'=>E.nx μ':=rfl
theorem zd(c:UT)(u w:US)(E:Ed)(μ:Mu):Y.zd c u w E μ=c μ fun b μ'=>if b=true then u E μ' else w E μ':=rfl
theorem BD(ue:UE)(μ:Mu)(Rt:List T->Option (Nat×List T)->Mu->Prop):Y.BD ue μ Rt=ue μ fun r μ'=>Hi (Ce r μ') fun ts g=>Rt ts g μ':=by
 unfold Y.BD Ce;congr 1
 funext r μ'
 cases r with
 |tr t=>cases t<;>rfl
 |br j =>
  show (match cont μ' (.br j) with|some (.lst ts)=>Rt ts (some (j,ts)) μ'|_=>False)=Hi (match cont μ' (.br j) with|some (.lst ts)=>some (ts,some (j,ts))|_=>none) fun ts g=>Rt ts g μ'
  cases cont μ' (.br j) with
  |none=>rfl
  |some t=>cases t<;>rfl
 |fr c=>cases c<;>rfl
theorem HP(us:UA)(μ:Mu)(Rt:List T->Option (Nat×List T)->Mu->Prop):Y.HP us μ Rt=us μ fun rs μ'=>match rs with
 |[.tr (.int j)]=>-(2^62)<=j/\j<2^62/\Rt ((List.range j.toNat).map fun k=>T.int (0+(k:Nat))) none μ'
 |_=>False:=rfl
theorem iZ(us:UA)(μ:Mu)(Rt:List T->Option (Nat×List T)->Mu->Prop):Y.iZ us μ Rt=us μ fun rs μ'=>match rs with
 |[.tr t1,.tr t2]=>(match qN t1,qN t2 with|some ts,some vs=>Rt (ph ts vs) none μ'|_,_=>False)
 |_=>False:=rfl
theorem xW(ui:UI)(g:UG)(body:US)(E:Ed)(μ:Mu):Y.xW ui g body E μ=ui μ fun items gd μ'=>match gd with
 |none=>gD g body E items μ'
 |some (j,_)=>(match μ'[j]? with
  |some (.bx c)=>gD g body E items (μ'.set j (.tr c))
  |_=>False):=rfl
theorem j4(own:T->Mu->Option Mu)(dr:Mu->Mu)(ui:UI)(ut:UT)(ue:UE)(μ:Mu)(Q:R->Mu->Prop):Y.j4 own dr ui ut ue μ Q=ui μ fun items gd μ'=>pj gd own dr ut ue Q items [] μ':=rfl
theorem Ie(um:UM)(uo:UE)(us:UA)(μ:Mu)(Q:R->Mu->Prop):Y.Ie um uo us μ Q=uo μ fun ro μ1=>match ro with|.br j=>Y.HR ((μ1[j]?).bind Sl.box) (us μ1 fun rs μ2=>um j rs μ2 Q)|_=>False:=rfl
theorem iN(j:Nat)(t:T)(μ:Mu)(Q:R->Mu->Prop):Y.iN j [.tr t] μ Q=(match (μ[j]?).bind Sl.box with|some (.lst ts)=>ts.length<sizeLine/\Q (.tr .aE) (gC μ j (.lst (ts++[t])))|_=>False):=rfl
theorem Hk(md:List Bool)(tsp:gj)(us:UA)(μ:Mu)(Q:R->Mu->Prop):Y.Hk md tsp us μ Q=us μ fun rs μ1=>match BV μ1 md rs with
 |some args=>(oo md rs).Nodup/\(∀ j∈oo md rs,j∉qV md rs)/\tsp args fun r outs=>(qV md rs=[]\/(mI r=true/\outs.all o9=true))/\Q r (putAll (oo md rs) outs μ1)
 |none=>False:=rfl
theorem J_(ts:List T):qN (.lst ts)=some ts:=rfl
theorem Jz(xs:List T):qm (some (.lst xs))=some (True,.tr (.tup xs)):=rfl
theorem IW(xs:List T):wm (some (.tup xs))=some xs:=rfl
theorem Gi(ts:List T)(μ:Mu):Ce (.tr (.lst ts)) μ=some (ts,none):=rfl
theorem F_(ts:List T)(μ:Mu):Ce (.fr (.lst ts)) μ=some (ts,none):=rfl
theorem FH(ts:List T)(μ:Mu):Ce (.tr (.tup ts)) μ=some (ts,none):=rfl
theorem IP(μ:Mu)(t:T):cont μ (.tr t)=some t:=rfl
theorem I_(μ:Mu)(i:Nat):cont μ (.br i)=(μ[i]?).bind Sl.box:=rfl
theorem IU(t:T):R.d (.tr t)=.tr t:=rfl
theorem IG(i:Nat):R.d (.br i)=.br i:=rfl
theorem Jg(b:Bool):wc (.tr (.bl b))=some b:=rfl
end A
theorem sP{g:UG}{body:US}{E:Ed}(I:List T->Mu->Prop){items:List T}(h0:I items μ)(hn:∀ μ,I [] μ->E.nx μ)
  (hs:∀ t ts μ (N:Mu->Prop),I (t::ts) μ->(∀ μ',I ts μ'->N μ')->g (.tr t) μ fun μ1=>body {E with nx:=N,ct:=N,bk:=E.nx} μ1):Y.gD g body E items μ:=by
 induction items generalizing μ with
 |nil=>exact hn μ h0
 |cons t ts ih=>exact hs t ts μ _ h0 fun μ' h=>ih h
theorem eN{gd:Option (Nat×List T)}{own:T->Mu->Option Mu}{Q:R->Mu->Prop}(I:List T->List T->Mu->Prop){items acc:List T}(h0:I items acc μ)(hn:∀ acc μ,I [] acc μ->Y.GG gd μ/\Q (.fr (.lst acc)) μ)
  (hs:∀ t r acc μ (N:List T->Mu->Prop),I (t::r) acc μ->(∀ acc' μ',I r acc' μ'->N acc' μ')->Y.GG gd μ/\acc.length<sizeLine/\(match own t μ with
   |none=>False
   |some μ1=>ut μ1 fun b μ2=>if b=true then ue μ2 fun rr μ3=>(match rr.d with
     |.tr t'=>N (acc++[t']) (dr μ3)
     |_=>False) else N acc (dr μ2))):Y.pj gd own dr ut ue Q items acc μ:=by
 induction items generalizing μ acc with
 |nil=>exact hn acc μ h0
 |cons t ts ih=>exact hs t ts acc μ (fun a m=>Y.pj gd own dr ut ue Q ts a m) h0 fun a' μ' h=>ih h
noncomputable def nS(K:Nv):Sp:=fun vs H Q _=>∃(a:Addr) (ns:List Int),vs=[.ref a]/\bA K H a (ns.map V.int)/\ns.length<=63/\∀ H',Q (.bl true) H'
theorem ma:∀ ns:List Int,av K H B (ns.map V.int) (ns.map T.int)
 |[]=>.nil
 |n::ns=>.cons (.int n) (ma ns)
namespace Y
theorem C_(hu:X.A.units<cLine):cU X (compareOp .NotEq) (zZ X.K true):=by
 intro pins s σ H x y v u Q I rx ry h;obtain⟨a,b,xs,ys,rfl,rfl,hq,fx,fy,q⟩:=h
 cases rx;cases ry
 have item:∀(its its2:List Value),Vals xs its->Vals ys its2->∀ j (h1:j<its.toArray.size) (h2:j<its2.toArray.size),SeqAt.EqAt X.A.in1 s its.toArray[j] its2.toArray[j] (match xs[j]?,ys[j]? with|some x,some y=>rO x y|_,_=>true):=fun its its2 r1 r2 j h1 h2=>by
  have l1:=r1.length;have l2:=r2.length;rw[Kg] at h1 h2;obtain⟨u1,e1,g1⟩:=r1.get (i:=j) (x:=xs[j]) (Kd (by lia))
  obtain⟨u2,e2,g2⟩:=r2.get (i:=j) (x:=ys[j]) (Kd (by lia))
  rw[Kd (show j<xs.length by lia),Kd (show j<ys.length by lia)]
  have z1:its.toArray[j]=u1:=by
   rw[Kd h1] at e1;simpa using e1
  have z2:its2.toArray[j]=u2:=by
   rw[Kd h2] at e2;simpa using e2
  rw[z1,z2];exact mY g1 g2 (KJ.mp fx _ (KS _)) (KJ.mp fy _ (KS _))
 rcases hq with ⟨ha,hb⟩|⟨ha,hb⟩
 ·obtain⟨its,r1,p1,_⟩:=I.list ha;obtain⟨its2,r2,p2,_⟩:=I.list hb;have l1:=r1.length;have l2:=r2.length;by_cases e:xs.length=ys.length
  ·refine SeqAt.RcNeAt.lists p1.isList p2.isList (by rw[Kg,Kg];lia) hu (item its its2 r1 r2) X.prog X.w X.xe _ ⟨.bl _,H,I,rfl,q _ ?_⟩
   rw[Kg,<- l1,<- e,Mr,KQ,Nm]
   try rfl
  ·refine SeqAt.RcNeAt.lists_lengths p1.isList p2.isList (by rw[Kg,Kg,Nl];lia) hu X.prog X.w X.xe _ ⟨.bl true,H,I,rfl,?_⟩
   exact q false (by rw[K3.mpr e,Ni])
 ·obtain⟨its,r1,p1,_⟩:=I.tuple ha;obtain⟨its2,r2,p2,_⟩:=I.tuple hb;have l1:=r1.length;have l2:=r2.length;refine SeqAt.RcNeAt.tuples p1 p2 hu (item its its2 r1 r2) X.prog X.w X.xe _ ⟨.bl _,H,I,rfl,q _ ?_⟩;rw[Kg,Kg,<- l1,<- l2,Bool.and_comm]
  try rfl
noncomputable def Gq(K:Nv):R2:=fun x y H Q=>CV x y H Q\/zZ K true x y H Q
theorem C0(K:Nv)(hK:X.K=K)(hu:X.A.units<cLine):cU X (compareOp .NotEq) (Gq K):=by subst hK;exact BI.or (C_ hu)
noncomputable def II:T->T->Mu->(R->Mu->Prop)->Prop:=fun t u μ Q=>match t,u with
 |.int i,.int j=>Q (.tr (.bl (!decide (i=j)))) μ
 |.str i,.str j=>Q (.tr (.bl (!decide (i=j)))) μ
 |.bl i,.bl j=>Q (.tr (.bl (!decide (i=j)))) μ
 |.lst xs,.lst ys=>xs.all aF=true/\ys.all aF=true/\Q (.tr (.bl (!qJ xs ys))) μ
 |.tup xs,.tup ys=>xs.all aF=true/\ys.all aF=true/\Q (.tr (.bl (!qJ xs ys))) μ
 |_,_=>False
theorem DY:lI K (Gq K) (uG II):=gi fun F ad B σ H μ Q Qt x y t u hK l v1 v2 q k=>by
 subst hK;unfold II at q
 split at q
 ·obtain rfl:=Vw.bT v1;obtain rfl:=Vw.bT v2;refine .inl ⟨rfl,?_⟩;rw[dV (f:=V.int) (fun a b h=>by injection h)]
  exact k _ H _ (Vr.flat l (.bl _)) Fr.refl q
 ·obtain rfl:=Vw.dm v1;obtain rfl:=Vw.dm v2;refine .inl ⟨rfl,?_⟩;rw[dV (f:=V.str) (fun a b h=>by injection h)]
  exact k _ H _ (Vr.flat l (.bl _)) Fr.refl q
 ·obtain rfl:=Vw.tV v1;obtain rfl:=Vw.tV v2;refine .inl ⟨rfl,?_⟩;rw[dV (f:=V.bl) (fun a b h=>by injection h)]
  exact k _ H _ (Vr.flat l (.bl _)) Fr.refl q
 ·obtain⟨_,_,rfl,ha,ra⟩:=Vw.e8 v1;obtain⟨_,_,rfl,hb,rb⟩:=Vw.e8 v2;exact .inr ⟨_,_,_,_,rfl,rfl,.inl ⟨bA.of ha,bA.of hb⟩,b_ ra q.1,b_ rb q.2.1,fun c hc=>by
   rw[<- mO ra rb q.1 q.2.1] at hc;subst hc;exact k _ H _ (Vr.flat l (.bl _)) Fr.refl q.2.2⟩
 ·obtain⟨_,_,rfl,ha,ra⟩:=Vw.tupI v1;obtain⟨_,_,rfl,hb,rb⟩:=Vw.tupI v2;exact .inr ⟨_,_,_,_,rfl,rfl,.inr ⟨bO.of ha,bO.of hb⟩,b_ ra q.1,b_ rb q.2.1,fun c hc=>by
   rw[<- mO ra rb q.1 q.2.1] at hc;subst hc;exact k _ H _ (Vr.flat l (.bl _)) Fr.refl q.2.2⟩
 ·exact q.elim
theorem ee:fillsNumberSlot (.type "tuple") "mul"=pure false:=
 PySem.fillsNumberSlot_seq (id:="tuple.__mul__") (r:=some (.builtin "tuple.__rmul__")) PySem.F.slot_tuple_mul.lookup (by decide +kernel) PySem.F.slot_tuple_rmul.lookup (by decide +kernel)
theorem h9:seqRepeat? (.type "tuple")=pure (some (.builtin "tuple.__mul__")):=by
 unfold seqRepeat?;rw[PySem.seqSlot_of (T:="tuple") (name:="__mul__") (id:="tuple.__mul__") PySem.F.slot_tuple_mul.lookup (by decide +kernel),PySem.seqSlot_of (T:="tuple") (name:="__rmul__") (id:="tuple.__rmul__") PySem.F.slot_tuple_rmul.lookup (by decide +kernel)];rfl
theorem kl(a:Int)(t:Tok)(l:Addr)(ob:Obj)(items:Array Value)(n:Nat)(hc:ob.cls=.type "tuple")(hd:ob.data=.seq items n):
  Meets (Builtin.«int.__rmul__» ⟨[.int a t,.ref l],[]⟩) (fun _ R s=>s.heap.get? l=some ob/\R (.ok (.ret Value.notImplemented)) s):=
 .of_wp fun prog w A R s h=>by
  obtain⟨hp,g,d,tk,os⟩:=s;obtain⟨hl,h⟩:=h;obtain⟨c,dd,da,sl⟩:=ob;simp only at hc hd;subst hc hd
  wp_walk
  exact⟨_,rfl,h⟩
theorem zx(l:Addr)(items:Array Value)(ob:Obj)(n:Nat)(k:Int)(t:Tok)(hc:ob.cls=.type "tuple")(hd:ob.data=.seq items n)(hne:items.isEmpty=false)(h1:1<k)(h2:k<=1000)(hsz:items.size<=1000):
  Meets (Builtin.«tuple.__mul__» ⟨[.ref l,.int k t],[]⟩) (fun _ R s=>s.heap.get? l=some ob/\R (.ok (.ret (.ref s.heap.objs.size))) {s with heap:=s.heap.push {cls:=.type "tuple",data:=.seq ((List.replicate k.toNat items).foldl (·++·) #[])}}):=
 .of_wp fun prog w A R s h=>by
  obtain⟨hp,g,d,tk,os⟩:=s;obtain⟨hl,h⟩:=h;obtain⟨c,dd,da,sl⟩:=ob;simp only at hc hd;subst hc hd;have e1:(decide (k < -(2^63)) || decide (k >= 2^63))=false:=by rw[Kw (by lia),Kw (by lia)];rfl
  have e2:(items.isEmpty || k == 1)=false:=by rw[hne,K3.mpr (by lia)];rfl
  have e3:(decide (k<=0) || items.isEmpty)=false:=by rw[hne,Kw (by lia)];rfl
  wp_walk using Mc hl;rw[Kf (by rw[e1];exact Ki)]
  have ht:IsTup (Shared.heap ⟨hp,g,d,tk,os⟩) l items:=⟨_,hl,rfl,n,rfl⟩;show wpAny _ _ (Builtin.Tuple.tupleItemsOf (.ref l) >>= _) _ _ _;refine Kb (tupleItemsOf_ ht ?_);rw[Kf (by rw[e2];exact Ki)]
  show wpAny _ _ (if (decide (k<=0) || items.isEmpty)=true then _ else _) _ _ _
  rw[Kf (by rw[e3];exact Ki)]
  have hm:(items.size:Int)*k<=1000*1000:=Int.mul_le_mul (by lia) h2 (by lia) (by lia)
  show wpAny _ _ (if (items.size:Int)*k >(2^63-1) / 8 then _ else _) _ _ _
  rw[Kf (by lia)]
  show wpAny _ _ (if Builtin.Tuple.tupleTooMany ((items.size:Int)*k)=true then _ else _) _ _ _
  have e4:Builtin.Tuple.tupleTooMany ((items.size:Int)*k)=false:=Kw (by
   have:((sizeLine:Nat):Int) >= 1000000:=by decide
   lia)
  rw[Kf (by rw[e4];exact Ki)]
  have hl2:((List.replicate k.toNat items).foldl (·++·) #[]).size<=sizeLine:=by
   have fs:∀(m:Nat) (acc:Array Value),((List.replicate m items).foldl (·++·) acc).size=acc.size+m*items.size:=fun m=>by
    induction m with
    |zero=>intro acc;simp
    |succ m ih=>intro acc;rw[KZ,List.foldl_cons,ih,MI,Nat.succ_mul];lia
   rw[fs];have h3:k.toNat*items.size<=1000*1000:=Nat.mul_le_mul (by lia) hsz
   have h4:(1000000:Nat)<=sizeLine:=by decide
   simp;lia
  exact Kb (m:=Builtin.Tuple.tupleExact _) (LU (Km ⟨_,rfl,h⟩) hl2)
theorem uU(its:List Value):∀(m:Nat) (acc:List Value),(List.replicate m its.toArray).foldl (·++·) acc.toArray=(acc++(List.replicate m its).flatten).toArray:=fun m acc=>foldl_rep its m acc
noncomputable def Bp(K:Nv):R2:=fun x y H Q=>∃ a k xs,x=.ref a/\y=.int k/\bO K H a xs/\xs≠[]/\xs.length<=1000/\1<k/\k<=1000/\∀ p,H p=none->Q (.ref p) (upd H p (.tup (List.replicate k.toNat xs).flatten))
theorem zE:cU X (binaryOp .Mult) (Bp X.K):=by
 intro pins s σ H x y v u Q I rx ry h;obtain⟨a,k,xs,rfl,rfl,hx,hne,hsz,h1,h2,q⟩:=h;cases rx;obtain⟨t,rfl⟩:=ry;obtain⟨its,r,p,hz⟩:=I.tuple hx;obtain⟨ob,ho,hc,n,hd⟩:=id p;have hlen:=r.length;have hemp:its.toArray.isEmpty=false:=by
  cases its with
  |nil=>cases r;exact absurd rfl hne
  |cons a b=>rfl
 refine L7 (T:="tuple") (U:="int") (by decide) ⟨_,ho,hc⟩ (fun s'=>LO s' k t) ee PySem.F.fills_int_mul PySem.F.slot_int_rmul h9 PySem.F.slot_int_index.lookup
  (Lp PySem.F.slot_int_rmul (LO s k t) PySem.F.entry_int_rmul (PySem.F.args_int_rmul_2 _ _) (kl k t a ob its.toArray n hc hd)
   ⟨ho,rfl,⟨_,ho,hc⟩,Lp PySem.F.slot_tuple_mul ⟨_,ho,hc⟩ PySem.F.entry_tuple_mul (PySem.F.args_tuple_mul_2 _ _) (zx a its.toArray ob n k t hc hd hemp h1 h2 (by rw[Kg];lia)) ⟨ho,?_⟩⟩)
 have e0:=uU its k.toNat [];rw[MX] at e0;have e0':(List.replicate k.toNat its.toArray).foldl (·++·) #[]=(List.replicate k.toNat its).flatten.toArray:=e0;rw[e0'];refine⟨.ref s.heap.objs.size,_,I.laid (t':=s.toks) (o:=.tup (List.replicate k.toNat xs).flatten) (fun b ob q=>Ke _ q) (Kk _) ?_,rfl,q _ (I.aU.fresh (Kk _))⟩;refine⟨?_,_,r.rep k.toNat,d5.new _ _⟩;rw[len_rep];have h3:k.toNat*xs.length<=1000*1000:=Nat.mul_le_mul (by lia) hsz
 exact Kj h3 (by decide)
noncomputable def xf(K:Nv):R2:=fun x y H Q=>Cz x y H Q\/Bp K x y H Q
theorem eC(K:Nv)(hK:X.K=K):cU X (binaryOp .Mult) (xf K):=by subst hK;exact zy.or zE
noncomputable def lO:U2:=fun r1 r2 μ Q=>match cont μ r1,cont μ r2 with
 |some (.int i),some (.int j)=>nN i j/\Q (.tr (.int (i*j))) μ
 |some (.lst xs),some (.int k)=>-(2^63)<=k/\k<2^63/\xs.length*k.toNat<=sizeLine/\Q (.fr (.lst (List.replicate k.toNat xs).flatten)) μ
 |some (.tup xs),some (.int k)=>(xs≠[]/\xs.length<=1000/\1<k/\k<=1000)/\Q (.tr (.tup (List.replicate k.toNat xs).flatten)) μ
 |_,_=>False
theorem dc:lI K (xf K) lO:=by
 intro F ad B σ H μ Q Qt x y r1 r2 hK l h1 h2 q k;unfold lO at q
 split at q
 ·rename_i i j e1 e2;exact .inl (vF F ad B σ H μ Q Qt x y r1 r2 hK l h1 h2 (by unfold sU;rw[e1,e2];exact q) k)
 ·rename_i xs j e1 e2;exact .inl (vF F ad B σ H μ Q Qt x y r1 r2 hK l h1 h2 (by unfold sU;rw[e1,e2];exact q) k)
 ·rename_i xs j e1 e2;have a:=h1.vw l e1;have b:=h2.vw l e2;subst hK;obtain rfl:=Vw.bT b;obtain⟨_,_,rfl,ha,ra⟩:=Vw.tupI a;refine .inr ⟨_,_,_,rfl,rfl,bO.of ha,?_,by rw[ra.length];exact q.1.2.1,q.1.2.2.1,q.1.2.2.2,fun p hp=>k _ _ _ μ (Vr.tU l (ra.rep _) hp) (Fr.same (cQ.new hp)) (Kp.refl μ) q.2⟩
  rintro rfl;cases ra;exact q.1.1 rfl
 ·exact q.elim
end Y
namespace A
theorem E3(i j:Int)(μ:Mu)(Q:R->Mu->Prop):Y.lO (.tr (.int i)) (.tr (.int j)) μ Q=(nN i j/\Q (.tr (.int (i*j))) μ):=rfl
theorem EU(i j:Int)(μ:Mu)(Q:R->Mu->Prop):Y.II (.int i) (.int j) μ Q=Q (.tr (.bl (!decide (i=j)))) μ:=rfl
end A
open PySem PySem.Spec PyProof PyProof.Rows
namespace Y
theorem iY:∀{ns:List Int} {vs:List V},av K H B vs (ns.map T.int)->vs=ns.map V.int
 |[],_,.nil=>rfl
 |n::ns,_,.cons h r=>by cases h;rw[iY r];rfl
noncomputable def GP(K:Nv):List V->Hp->VK->Prop:=fun xs H Q=>∃(p:Addr) (ns:List Int),xs=[.ref p]/\bA K H p (ns.map V.int)/\Q (.int ns.sum) H
theorem tY(K:Nv)(hK:X.K=K)(hc:X.calm=true):bp X (.builtin "sum") (GP K):=by subst hK;exact tO hc
noncomputable def Ew:T->Mu->(R->Mu->Prop)->Prop:=fun t μ Q=>match t with
 |.lst xs=>∃ ns:List Int,xs=ns.map T.int/\Q (.tr (.int ns.sum)) μ
 |_=>False
theorem Dr:RC K (GP K) (Br Ew):=rq fun F ad B σ H μ Q Qt x t hK l v1 q k=>by
 subst hK;unfold Ew at q
 split at q
 ·obtain⟨ns,rfl,q⟩:=q;obtain⟨_,_,rfl,ha,ra⟩:=Vw.e8 v1;exact⟨_,ns,rfl,by rw[<- iY ra];exact bA.of ha,k _ _ _ (Vr.flat l (.int _)) Fr.refl q⟩
 ·exact q.elim
noncomputable def Hg(i j:Int):Prop:=0<j/\j<4611686018427387904
theorem nR:cU X (binaryOp .FloorDiv) (rI Hg fun i j=>.int (i / j)):=FR fun i j _ _ _ _ _ hc q=>by
 have h1:(0:Int)<j:=hc.1;have h2:j<4611686018427387904:=hc.2;exact floordiv_int (by lia) (by rw[Int.fdiv_eq_ediv_of_nonneg i (by lia)];exact q) (.inl (PyProof.noPylong_of_log2 (Ma ((Nat.log2_lt (k:=62) (by lia)).mpr (by lia)) (by decide))))
end Y
namespace A
theorem Ga(xs:List T)(μ:Mu)(Q:R->Mu->Prop):Y.Ew (.lst xs) μ Q=(∃ ns:List Int,xs=ns.map T.int/\Q (.tr (.int ns.sum)) μ):=rfl
end A
namespace Y
theorem gw:∀ ns:List Str,av K H B (ns.map V.str) (ns.map T.str)
 |[]=>.nil
 |n::ns=>.cons (.str _) (gw ns)
theorem ml:∀{ns:List Str} {vs:List V},av K H B vs (ns.map T.str)->vs=ns.map V.str
 |[],_,.nil=>rfl
 |n::ns,_,.cons h r=>by cases h;rw[ml r];rfl
theorem kf:∀{bs:List Bool} {vs:List V},av K H B vs (bs.map T.bl)->vs=bs.map V.bl
 |[],_,.nil=>rfl
 |n::ns,_,.cons h r=>by cases h;rw[kf r];rfl
abbrev DT:=Str->List R->Mu->(R->Mu->Prop)->Prop
noncomputable def Ia(um:DT)(uo:UE)(us:UA):UE:=fun μ Q=>uo μ fun ro μ1=>match ro with
 |.tr (.str z)=>us μ1 fun rs μ2=>um z rs μ2 Q
 |_=>False
noncomputable def HN(K:Nv)(r:V->List V->Hp->VK->Prop)(um:DT):Prop:=∀(F:Fx) (ad:Nat->Addr) (B:ba) (σ:St) (H:Hp) (μ:Mu) (Q:VK) (Qt:R->Mu->Prop) (z:Str) (xs:List V) (rs:List R),F.K=K->Rl F ad B σ H μ->Paired (Hv F ad B H μ) xs rs->um z rs μ Qt ->
 (∀ v H' r μ',Vr F ad B σ H' μ' v r->Fr B H (Bv B v r) H'->Kp μ μ'->Qt r μ'->Q v H')->r (.str z) xs H Q
theorem sm{o:Expr}{uo:UE}{us:UA}(K:Nv)(hK:X.K=K){id:String}{r:V->List V->Hp->VK->Prop}{um:DT}(slot:Slot "str" name id)(hty:typeOf (.builtin id)=pure (.type "method_descriptor"))(hm:xm X id r)(hr:HN X.K r um)(ho:YE X o uo)(ha:YA X (e::es) us)
  (hbase:autoParam (attributeBase o name X.env (eval o X.env)=eval o X.env) ℜ0) (hline:autoParam ((apos.endLine == pos.line)=true) ℜ0) (h:autoParam ((e::es).all fo=true) ℜ0) (hl:autoParam ((e::es).length<30) ℜ1):YE X (.Call (.Attribute o name apos) (e::es) [] pos) (Ia um uo us):=by
 obtain⟨t,q,rr⟩:=ho;obtain⟨t',q',r'⟩:=ha;refine⟨_,Z.bm K hK PySem.F.plainAttrs_str slot hty hm q q' hbase hline h hl,fun F ad B σ H μ Q Qt hF l q k=>rr F ad B σ H μ _ _ hF l q fun v H1 r1 μ1 v1 f1 k1 q1=>?_⟩
 split at q1
 ·rename_i z;obtain⟨l1,rp⟩:=v1;obtain rfl:=Rep.dm rp;refine⟨rfl,?_⟩;refine r' F ad B σ H1 μ1 _ _ hF l1 q1 fun xs H2 rs μ2 l2 ps f2 k2 q2=>?_;exact hr F ad B σ H2 μ2 _ _ z xs rs hF l2 ps q2 fun v H3 r3 μ3 v3 f3 k3 q3=>k v H3 r3 μ3 v3 ((f1.d.trans f2).trans f3) ((k1.trans k2).trans k3) q3
 ·exact q1.elim
noncomputable def rE:V->List V->Hp->VK->Prop:=fun x vs H Q=>∃ z y,x=.str z/\vs=[.str y]/\Q (.bl (Txt.startswith z y)) H
theorem uS:xm X "str.startswith" rE:=by
 intro pins s σ H x xs v us Q I rx rs h;obtain⟨z,y,rfl,rfl,q⟩:=h;obtain⟨t,rfl⟩:=rx;obtain⟨u,rfl,k,rfl⟩:=vals1 rs;exact SC.startswith ⟨.bl _,H,I,rfl,q⟩
noncomputable def iE:DT:=fun z rs μ Q=>match rs with
 |[.tr (.str y)]=>Q (.tr (.bl (Txt.startswith z y))) μ
 |_=>False
theorem uH:HN K rE iE:=by
 intro F ad B σ H μ Q Qt z xs rs hF l ps q k;unfold iE at q
 split at q
 ·obtain⟨_,_,rfl,h,ps⟩:=Paired.aO ps;obtain rfl:=Paired.dD ps
  cases cB h
  exact⟨z,_,rfl,rfl,k _ H _ μ (Vr.flat l (.bl _)) Fr.refl (Kp.refl μ) q⟩
 ·exact q.elim
theorem xa(l:List Nat):∀(n a:Nat),((List.range n).map (fun k=>a+k)).filterMap (l[·]?)=(l.drop a).take n
 |0,_=>by simp
 |n+1,a=>by
  rw[List.range_succ,Kx,List.filterMap_append,xa l n a,Mi,List.getElem?_drop]
  cases h:l[a+n]?<;>simp[h]
theorem oR(lo hi:Option Int)(n:Nat):Builtin.Str.strSliceIndices lo hi 1 n=(List.range (HT.bK n n hi-HT.bK n 0 lo)).map (fun k=>HT.bK n 0 lo+k):=by
 have ea:∀(v:Int),max 0 (min (if v<0 then v+(n:Int) else v) (n:Int))=(((if v<0 then (v+(n:Int)).toNat else min v.toNat n):Nat):Int):=by
  intro v;split<;>lia
 have e:Builtin.Str.strSliceIndices lo hi 1 n=sliceRange (HT.bK n 0 lo) (HT.bK n n hi) 1:=by
  cases lo with
  |none=>cases hi with
   |none=>rfl
   |some j=>show sliceRange 0 (max 0 (min (if j<0 then j+(n:Int) else j) (n:Int))) 1=_;rw[ea];rfl
  |some i=>cases hi with
   |none=>show sliceRange (max 0 (min (if i<0 then i+(n:Int) else i) (n:Int))) n 1=_;rw[ea];rfl
   |some j=>show sliceRange (max 0 (min (if i<0 then i+(n:Int) else i) (n:Int))) (max 0 (min (if j<0 then j+(n:Int) else j) (n:Int))) 1=_;rw[ea,ea];rfl
 rw[e];generalize HT.bK n 0 lo=a;generalize HT.bK n n hi=b;unfold sliceRange;simp only[show ((1:Int) > 0)=True from by simp,Md,Int.one_mul]
 have c:(if (a:Int)<(b:Int) then ((b:Int)-a+1-1) / 1 else 0).toNat=b-a:=by split<;>lia
 rw[c];refine Lv fun k _=>?_;lia
theorem qR(z:Str)(lo hi:Option Int):Txt.slice z lo hi=⟨((z.cps.toList.drop (HT.bK z.cps.toList.length 0 lo)).take (HT.bK z.cps.toList.length z.cps.toList.length hi-HT.bK z.cps.toList.length 0 lo)).toArray⟩:=by
 have hl:z.cps.toList.length=z.length:=L_;rw[hl];have hp:(Builtin.Str.strSliceIndices lo hi 1 z.length).filterMap (z.cps[·]?)=(z.cps.toList.drop (HT.bK z.length 0 lo)).take (HT.bK z.length z.length hi-HT.bK z.length 0 lo):=by
  rw[oR];have:=xa z.cps.toList (HT.bK z.length z.length hi-HT.bK z.length 0 lo) (HT.bK z.length 0 lo)
  simpa using this
 unfold Txt.slice;split
 ·rename_i h;rw[oR] at h;simp at h;have h2:=HT.rk z.length z.length (Kk _) hi;have h3:=HT.rk z.length 0 (K7 _) lo;have a0:HT.bK z.length 0 lo=0:=by lia
  have b0:HT.bK z.length z.length hi=z.length:=by lia
  rw[a0,b0,Ll,MR,<- hl,LY]
 ·rw[hp]
noncomputable def lA(z:Str)(lo hi:Option Int):Str:=⟨(bS z.cps.toList lo hi).toArray⟩
theorem tH(z:Str)(lo hi:Option Int):Txt.slice z lo hi=lA z lo hi:=qR z lo hi
noncomputable def GO:V->Option Int->Option Int->Hp->VK->Prop:=fun x lo hi H Q=>∃ z,x=.str z/\z.length<=sizeLine/\Q (.str (lA z lo hi)) H
theorem Dc:su X GO:=by
 intro pins s σ H x v vl vu lo hi sl Q I rx hs pl pu h;obtain⟨z,rfl,hz,q⟩:=h;rw[<- tH] at q;obtain⟨t,rfl⟩:=rx;refine⟨"str",_,PySem.F.slot_str_getitem.lookup,Mq _ _ _,?_⟩
 cases pl<;>cases pu
 ·exact LJ (l:=none) (u:=none) (st:=none) hs rfl (Mt ⟨Kj (Txt.slice_le z _ _) hz,fun t' k=>⟨.str _,H,I.tok _,⟨_,rfl⟩,q⟩⟩)
 ·exact LJ (l:=none) (u:=some (_,_)) (st:=none) hs rfl (Mt ⟨Kj (Txt.slice_le z _ _) hz,fun t' k=>⟨.str _,H,I.tok _,⟨_,rfl⟩,q⟩⟩)
 ·exact LJ (l:=some (_,_)) (u:=none) (st:=none) hs rfl (Mt ⟨Kj (Txt.slice_le z _ _) hz,fun t' k=>⟨.str _,H,I.tok _,⟨_,rfl⟩,q⟩⟩)
 ·exact LJ (l:=some (_,_)) (u:=some (_,_)) (st:=none) hs rfl (Mt ⟨Kj (Txt.slice_le z _ _) hz,fun t' k=>⟨.str _,H,I.tok _,⟨_,rfl⟩,q⟩⟩)
noncomputable def Io(K:Nv):V->Option Int->Option Int->Hp->VK->Prop:=fun x lo hi H Q=>Fe K x lo hi H Q\/GO x lo hi H Q
theorem Jk(K:Nv)(hK:X.K=K):su X (Io K):=(Ja K hK).or Dc
noncomputable def CT(a:Option T)(lo hi:Option Int):Option (Prop×R):=match a with
 |some (.lst xs)=>some (True,.fr (.lst (bS xs lo hi)))
 |some (.gp xs)=>some (True,.fr (.lst (bS xs lo hi)))
 |some (.tup xs)=>some (True,.tr (.tup (bS xs lo hi)))
 |some (.str z)=>some (z.length<=sizeLine,.tr (.str (lA z lo hi)))
 |_=>none
noncomputable def CH(ue:UE)(ul uh:UO):UE:=fun μ Q=>ue μ fun r μ1=>ul μ1 fun lo μ2=>uh μ2 fun hi μ3=>Hl (CT (cont μ3 r.d) lo hi) fun r=>Q r μ3
theorem Cs{p2:Pos}{ul uh:UO}(K:Nv)(hK:X.K=K)(he:YE X e ue)(hl:YO X lo ul)(hu:YO X hi uh):YE X (.Subscript e (.Slice lo hi none p2) pos) (CH ue ul uh):=by
 obtain⟨t,q,r⟩:=he;obtain⟨tl,ql,rl⟩:=hl;obtain⟨th,qh,rh⟩:=hu;refine⟨_,Z.slice (Jk K hK) q ql qh,fun F ad B σ H μ Q Qt hF l q k=>r F ad B σ H μ _ _ hF l q fun v H1 r1 μ1 v1 f1 k1 q1=>rl F ad B σ H1 μ1 _ _ hF v1.rl q1 fun i H2 μ2 l2 f2 k2 q2=>rh F ad B σ H2 μ2 _ _ hF l2 q2 fun j H3 μ3 l3 f3 k3 q3=>?_⟩;have hF':F.K=K:=hF.trans hK;clear hF;subst hF';have hv:=v1.hv.fr (f2.trans f3) (k2.trans k3);have ff:=(f1.d.trans f2).trans f3;have kk:=(k1.trans k2).trans k3;generalize eo:cont μ3 r1.d=o at q3;unfold CT Hl at q3
 cases o with
 |none=>exact q3.elim
 |some o=>cases o with
  |il n=>exact q3.elim
  |adr a=>exact q3.elim
  |ins a c ks ts=>exact q3.elim
  |lst xs =>
   have w:=hv.vw l3 eo;obtain⟨_,_,rfl,ha,ra⟩:=Vw.e8 w;exact .inl (.inl ⟨_,_,rfl,bA.of ha,fun p hp=>k _ _ _ μ3 (Vr.uy l3 (av.cut ra i j) hp) (ff.trans (Fr.more hp)) kk q3.2⟩)
  |gp xs =>
   have w:=hv.vw l3 eo;obtain⟨_,_,rfl,ha,ra⟩:=Vw.vH w;exact .inl (.inl ⟨_,_,rfl,ha,fun p hp=>k _ _ _ μ3 (Vr.uy l3 (av.cut ra i j) hp) (ff.trans (Fr.more hp)) kk q3.2⟩)
  |tup xs =>
   have w:=Hv.nZ l3 hv eo;have w':=w;obtain⟨_,_,rfl,na,ha,ra⟩:=Rep.tupI w;by_cases z:HT.bK xs.length 0 i=0/\HT.bK xs.length xs.length j=xs.length
   ·have e0:bS xs i j=xs:=by unfold bS;rw[z.1,z.2,MR,Ll,LY]
    have q4:=q3.2;rw[e0] at q4;exact .inl (.inr (.inr ⟨_,_,rfl,bO.of ha,by rw[ra.length];exact z.1,by rw[ra.length];exact z.2,k _ H3 _ μ3 (Vr.flat l3 w') ff kk q4⟩))
   ·exact .inl (.inr (.inl ⟨_,_,rfl,bO.of ha,by rw[ra.length];exact z,fun p hp=>k _ _ _ μ3 (Vr.tU l3 (av.cut ra i j) hp) (ff.trans (Fr.same (cQ.new hp))) kk q3.2⟩))
  |str z =>
   have w:=hv.vw l3 eo;obtain rfl:=Vw.dm w;exact .inr ⟨z,rfl,q3.1,k _ H3 _ μ3 (Vr.flat l3 (.str _)) ff kk q3.2⟩
  |aE=>exact q3.elim
  |bl b=>exact q3.elim
  |int n=>exact q3.elim
  |nM a b=>exact q3.elim
  |pk a b=>exact q3.elim
  |exc a b=>exact q3.elim
  |cT xs=>exact q3.elim
noncomputable def p6:DT:=fun z rs μ Q=>match rs with
 |[r]=>(match cont μ r with
  |some (.lst xs)=>∃ ys:List Str,xs=ys.map T.str/\(ys.map (·.length)).sum+ys.length*z.length<=16777216/\Q (.tr (.str (Str.join z ys))) μ
  |_=>False)
 |_=>False
theorem kE(K:Nv)(hK:X.K=K):xm X "str.join" (rJoin K):=by subst hK;exact rP
theorem nr:HN K (rJoin K) p6:=by
 intro F ad B σ H μ Q Qt z xs rs hF l ps q k;subst hF;unfold p6 at q
 split at q
 ·rename_i r;obtain⟨_,_,rfl,h,ps⟩:=Paired.aO ps;obtain rfl:=Paired.dD ps
  split at q
  ·rename_i ts e;obtain⟨ys,rfl,hz,q⟩:=q;have w:=h.vw l e;obtain⟨_,_,rfl,ha,ra⟩:=Vw.e8 w;exact⟨z,_,ys,rfl,rfl,by rw[<- ml ra];exact bA.of ha,hz,k _ H _ μ (Vr.flat l (.str _)) Fr.refl (Kp.refl μ) q⟩
  ·exact q.elim
 ·exact q.elim
noncomputable def Im(i:Nat):UG:=fun r μ Q=>match r with
 |.tr t=>vp μ i/\Q (μ.set i (.tr t))
 |.fr t=>vp μ i/\Q (μ.set i (.tr t))
 |.br _=>False
theorem wj:RG K (bJ i) (Im i):=fun F ad B σ H μ v r B0 H0 Q Qt hK h f q k=>by
 cases r with
 |tr t=>exact k ad B _ H _ (h.1.Cm (mQ q.1) h.2) f q.2
 |br i=>exact q.elim
 |fr c =>
  refine k ad B _ H _ (h.rl.Cm (mQ q.1) h.hv) (f.trans (Fr.less fun b z=>?_)) q.2;obtain⟨_,a,rfl,_⟩:=h;exact Or.inr z
section
variable {X:Cx} {e elt tg iter:Expr} {ifs:List Expr} {ue:UE} {ut:UT} {ui:UI} {pos pos' p2:Pos} {x:Str} {osc scope:Scope} {ON own N:List Str}
theorem IC(hN:X.N.Nodup)(hi:X.N[i]?=some x)(hx:Loc X.env.scope x)(he:YE X e ue)(hs:autoParam (Z.EK e=true) ℜ0)(hf:autoParam (X.fn x=true\/X.env.scope.names.lookup x=some .local) ℜ2):
  YS X (.Assign [.Name x pos'] e pos) (lu ue (Im i)):=by
 obtain⟨t,q,r⟩:=he;exact⟨_,Z.set hN hi hx q hs hf,mW r wj⟩
theorem Hd(K:Nv)(hK:X.K=K)(hN:X.N.Nodup)(hj:X.N[j]?=some x)(hx:Loc X.env.scope x)(S:cD osc ON scope own N)(hosc:X.env.scope=osc)(hON:X.N=ON)(hc:X.calm=true)(ho:own.length=2)(hi:YI X tg iter ui)
  (hg:∀ C s H fp,QG (aY X scope N C s H fp) tg (oF K 2 (fR (bJ 0) (fR (bJ 1) oX)))) (ht:∀ C s H fp,Ef (aY X scope N C s H fp) ifs ut) (he:∀ C s H fp,YE (aY X scope N C s H fp) elt ue)
  (hsw:autoParam (swapsWith (.ListComp elt [⟨tg,iter,ifs,0⟩] scope p2) (some (.Name x pos')) pos.line X.env=pure true) ℜ0)
  (hf:autoParam (X.fn x=true\/X.env.scope.names.lookup x=some .local) ℜ2) (hs:autoParam (∀ x,foldedSetIterable iter X.env x=pure x) ℜ3) :
  YS X (.Assign [.Name x pos'] (.ListComp elt [⟨tg,iter,ifs,0⟩] scope p2) pos) (lu (j4 vh Ig ui ut ue) (gN j)):=by
 obtain⟨t,q,r⟩:=hi;subst hK;have h:=Z.setC (tc:=xv X.K ut) (te:=wV X.K ue) hN hj hx S hosc hON hc q hg (fun C s H fp=>(ht C s H fp).mV) (fun C s H fp=>(he C s H fp).mV) hsw hf hs;rw[ho] at h;exact⟨_,h,mW (nj sW r xD vB) mS⟩
end
end Y
namespace A
theorem Ia(um:Y.DT)(uo:UE)(us:UA)(μ:Mu)(Q:R->Mu->Prop):Y.Ia um uo us μ Q=uo μ fun ro μ1=>match ro with|.tr (.str z)=>us μ1 fun rs μ2=>um z rs μ2 Q|_=>False:=rfl
theorem iE(z y:Str)(μ:Mu)(Q:R->Mu->Prop):Y.iE z [.tr (.str y)] μ Q=Q (.tr (.bl (Txt.startswith z y))) μ:=rfl
theorem p6(z:Str)(r:R)(μ:Mu)(Q:R->Mu->Prop):Y.p6 z [r] μ Q=(match cont μ r with
  |some (.lst xs)=>∃ ys:List Str,xs=ys.map T.str/\(ys.map (·.length)).sum+ys.length*z.length<=16777216/\Q (.tr (.str (Str.join z ys))) μ
  |_=>False):=rfl
theorem Il(i:Nat)(t:T)(μ:Mu)(Q:Mu->Prop):Y.Im i (.fr t) μ Q=(Y.vp μ i/\Q (μ.set i (.tr t))):=rfl
end A
namespace Y
theorem xP(l:Addr)(items:Array Value)(ob:Obj)(n:Nat)(k:Int)(t:Tok)(hc:ob.cls=.type "tuple")(hd:ob.data=.seq items n)(h1:k=1):
  Meets (Builtin.«tuple.__mul__» ⟨[.ref l,.int k t],[]⟩) (fun _ R s=>s.heap.get? l=some ob/\R (.ok (.ret (.ref l))) s):=
 .of_wp fun prog w A R s h=>by
  obtain⟨hp,g,d,tk,os⟩:=s;obtain⟨hl,h⟩:=h;obtain⟨c,dd,da,sl⟩:=ob;simp only at hc hd;subst hc hd;have e1:(decide (k < -(2^63)) || decide (k >= 2^63))=false:=by rw[Kw (by lia),Kw (by lia)];rfl
  have e2:(items.isEmpty || k == 1)=true:=by rw[LX.mpr h1,Bool.or_true]
  wp_walk using Mc hl;exact⟨_,rfl,h⟩
theorem vz(l:Addr)(items:Array Value)(ob:Obj)(n:Nat)(k:Int)(t:Tok)(hc:ob.cls=.type "tuple")(hd:ob.data=.seq items n)(hne:items.isEmpty=false)(h1:k<=0)(h2:-(2^63)<=k):
  Meets (Builtin.«tuple.__mul__» ⟨[.ref l,.int k t],[]⟩) (fun _ R s=>s.heap.get? l=some ob/\R (.ok (.ret (.ref s.heap.objs.size))) {s with heap:=s.heap.push {cls:=.type "tuple",data:=.seq #[]}}):=
 .of_wp fun prog w A R s h=>by
  obtain⟨hp,g,d,tk,os⟩:=s;obtain⟨hl,h⟩:=h;obtain⟨c,dd,da,sl⟩:=ob;simp only at hc hd;subst hc hd;have e1:(decide (k < -(2^63)) || decide (k >= 2^63))=false:=by rw[Kw (by lia),Kw (by lia)];rfl
  have e2:(items.isEmpty || k == 1)=false:=by rw[hne,K3.mpr (by lia)];rfl
  have e3:(decide (k<=0) || items.isEmpty)=true:=by rw[Lj h1];rfl
  wp_walk using Mc hl;rw[Kf (by rw[e1];exact Ki)]
  have ht:IsTup (Shared.heap ⟨hp,g,d,tk,os⟩) l items:=⟨_,hl,rfl,n,rfl⟩;show wpAny _ _ (Builtin.Tuple.tupleItemsOf (.ref l) >>= _) _ _ _;refine Kb (tupleItemsOf_ ht ?_);rw[Kf (by rw[e2];exact Ki)]
  show wpAny _ _ (if (decide (k<=0) || items.isEmpty)=true then _ else _) _ _ _
  rw[Kh e3];exact Kb (m:=Builtin.Tuple.tupleExact _) (LU (Km ⟨_,rfl,h⟩) (show (#[]:Array Value).size<=sizeLine by decide))
noncomputable def BC(K:Nv):R2:=fun x y H Q=>∃ a k xs,x=.ref a/\y=.int k/\bO K H a xs/\xs≠[]/\k<=1/\-(2^63)<=k/\(k=1->Q (.ref a) H)/\(k<=0->∀ p,H p=none->Q (.ref p) (upd H p (.tup [])))
theorem AE:cU X (binaryOp .Mult) (BC X.K):=by
 intro pins s σ H x y v u Q I rx ry h;obtain⟨a,k,xs,rfl,rfl,hx,hne,h1,h2,q1,q0⟩:=h;cases rx;obtain⟨t,rfl⟩:=ry;obtain⟨its,r,p,hz⟩:=I.tuple hx;obtain⟨ob,ho,hc,n,hd⟩:=id p;have hlen:=r.length;have hemp:its.toArray.isEmpty=false:=by
  cases its with
  |nil=>cases r;exact absurd rfl hne
  |cons a b=>rfl
 by_cases c:k=1
 ·exact L7 (T:="tuple") (U:="int") (by decide) ⟨_,ho,hc⟩ (fun s'=>LO s' k t) ee PySem.F.fills_int_mul PySem.F.slot_int_rmul h9 PySem.F.slot_int_index.lookup
   (Lp PySem.F.slot_int_rmul (LO s k t) PySem.F.entry_int_rmul (PySem.F.args_int_rmul_2 _ _) (kl k t a ob its.toArray n hc hd)
    ⟨ho,rfl,⟨_,ho,hc⟩,Lp PySem.F.slot_tuple_mul ⟨_,ho,hc⟩ PySem.F.entry_tuple_mul (PySem.F.args_tuple_mul_2 _ _) (xP a its.toArray ob n k t hc hd c) ⟨ho,⟨.ref a,H,I,rfl,q1 c⟩⟩⟩)
 ·refine L7 (T:="tuple") (U:="int") (by decide) ⟨_,ho,hc⟩ (fun s'=>LO s' k t) ee PySem.F.fills_int_mul PySem.F.slot_int_rmul h9 PySem.F.slot_int_index.lookup
   (Lp PySem.F.slot_int_rmul (LO s k t) PySem.F.entry_int_rmul (PySem.F.args_int_rmul_2 _ _) (kl k t a ob its.toArray n hc hd)
    ⟨ho,rfl,⟨_,ho,hc⟩,Lp PySem.F.slot_tuple_mul ⟨_,ho,hc⟩ PySem.F.entry_tuple_mul (PySem.F.args_tuple_mul_2 _ _) (vz a its.toArray ob n k t hc hd hemp (by lia) h2) ⟨ho,?_⟩⟩)
  refine⟨.ref s.heap.objs.size,_,I.laid (t':=s.toks) (o:=.tup []) (fun b ob q=>Ke _ q) (Kk _) ?_,rfl,q0 (by lia) _ (I.aU.fresh (Kk _))⟩
  exact⟨K7 _,[],.nil,d5.new _ _⟩
noncomputable def BM(K:Nv):R2:=fun x y H Q=>xf K x y H Q\/BC K x y H Q
theorem An(K:Nv)(hK:X.K=K):cU X (binaryOp .Mult) (BM K):=by subst hK;exact (eC X.K rfl).or AE
noncomputable def wY:U2:=fun r1 r2 μ Q=>match cont μ r1,cont μ r2 with
 |some (.int i),some (.int j)=>nN i j/\Q (.tr (.int (i*j))) μ
 |some (.lst xs),some (.int k)=>-(2^63)<=k/\k<2^63/\xs.length*k.toNat<=sizeLine/\Q (.fr (.lst (List.replicate k.toNat xs).flatten)) μ
 |some (.tup xs),some (.int k)=>(xs≠[]/\xs.length<=1000/\-(2^63)<=k/\k<=1000)/\Q (.tr (.tup (List.replicate k.toNat xs).flatten)) μ
 |_,_=>False
theorem AR:lI K (BM K) wY:=by
 intro F ad B σ H μ Q Qt x y r1 r2 hK l h1 h2 q k;unfold wY at q
 split at q
 ·rename_i i j e1 e2;exact .inl (dc F ad B σ H μ Q Qt x y r1 r2 hK l h1 h2 (by unfold lO;rw[e1,e2];exact q) k)
 ·rename_i xs j e1 e2;exact .inl (dc F ad B σ H μ Q Qt x y r1 r2 hK l h1 h2 (by unfold lO;rw[e1,e2];exact q) k)
 ·rename_i xs j e1 e2;by_cases c:1<j
  ·exact .inl (dc F ad B σ H μ Q Qt x y r1 r2 hK l h1 h2 (by unfold lO;rw[e1,e2];exact⟨⟨q.1.1,q.1.2.1,c,q.1.2.2.2⟩,q.2⟩) k)
  ·have a:=Hv.nZ l h1 e1;have b:=h2.vw l e2;subst hK;obtain rfl:=Vw.bT b;have a':=a;obtain⟨_,_,rfl,na,ha,ra⟩:=Rep.tupI a;refine .inr ⟨_,_,_,rfl,rfl,bO.of ha,?_,by lia,q.1.2.2.1,fun e=>?_,fun e p hp=>?_⟩
   ·rintro rfl;cases ra;exact q.1.1 rfl
   ·subst e;have q2:=q.2;rw[show (1:Int).toNat=1 from rfl] at q2;simp only[List.replicate,Ls,List.flatten_nil,KN] at q2;exact k _ H _ μ (Vr.flat l a') Fr.refl (Kp.refl μ) q2
   ·have q2:=q.2;rw[show j.toNat=0 by lia] at q2
    exact k _ _ _ μ (Vr.tU l .nil hp) (Fr.same (cQ.new hp)) (Kp.refl μ) q2
 ·exact q.elim
theorem iF{e c:Option Expr}:YS X (.Raise e c pos) (fun _ _=>False):=⟨fun _ _ _=>False,⟨fun _ _ _ _ _ _ h=>h.elim⟩,fun _ _ _ _ _ _ _ _ _ _ h _=>h⟩
end Y
namespace A
theorem Di(xs:List T)(k:Int)(μ:Mu)(Q:R->Mu->Prop):Y.wY (.tr (.tup xs)) (.tr (.int k)) μ Q=((xs≠[]/\xs.length<=1000/\-(2^63)<=k/\k<=1000)/\Q (.tr (.tup (List.replicate k.toNat xs).flatten)) μ):=rfl
end A
abbrev Xw:=T->Mu->Prop
abbrev UX:=Mu->(R->Mu->Prop)->Xw->Prop
abbrev JR:=Ed->Xw->Mu->Prop
noncomputable def DH(K:Nv)(mg:Str->Option Value)(x:Str)(f:Addr)(cdv:Value):Prop:=mg x=some (.ref f)/\∃(o:Obj) (fd:FuncData),K.lookup f=some o/\o.data=.func fd/\fd.code=cdv
abbrev UJ:=Mu->(Mu->Prop)->Prop
namespace Y
noncomputable def gA(t:T)(xs:List T):Bool:=xs.any fun y=>BK y t
theorem sR{x:V}{t:T}(h:Rep K H B x t)(f:aF t=true):∀{ys:List V} {us:List T},av K H B ys us->us.all aF=true->d9 x=true/\ys.all d9=true/\HY x ys=gA t us
 |_,_,.nil,_=>by
  refine⟨?_,rfl,rfl⟩
  cases h<;>first|rfl|cases f
 |_,_,.cons h2 r,f2=>by
  rw[KI,KG] at f2;obtain⟨a1,a2,a3⟩:=sR h f r f2.2;obtain⟨b1,b2,b3⟩:=vT h2 h f2.1 f;refine⟨a1,by rw[KI,b1,a2];rfl,?_⟩
  unfold HY gA at a3 ⊢;rw[Lu,Lu,b3,a3]
noncomputable def G_(K:Nv)(neg:Bool):R2:=fun x y H Q=>J9 K neg x y H Q\/∃ i j,x=.str i/\y=.str j/\Q (.bl (if neg then !(!(Builtin.Str.occurrences j i 0 j.length 1).isEmpty) else !(Builtin.Str.occurrences j i 0 j.length 1).isEmpty)) H
theorem gX(K:Nv)(hK:X.K=K):cU X (compareOp .In) (G_ K false):=by subst hK;exact uj.or vg
noncomputable def EO(i j:Str):Bool:=!(Builtin.Str.occurrences j i 0 j.length 1).isEmpty
noncomputable def EA(neg:Bool):T->T->Mu->(R->Mu->Prop)->Prop:=fun t u μ Q=>match u with
 |.tup xs=>aF t=true/\xs.all aF=true/\Q (.tr (.bl (if neg then !gA t xs else gA t xs))) μ
 |.lst xs=>aF t=true/\xs.all aF=true/\Q (.tr (.bl (if neg then !gA t xs else gA t xs))) μ
 |.cT xs=>aF t=true/\xs.all aF=true/\Q (.tr (.bl (if neg then !gA t xs else gA t xs))) μ
 |.str j=>(match t with|.str i=>Q (.tr (.bl (if neg then !EO i j else EO i j))) μ|_=>False)
 |_=>False
theorem Vw.mI{v:V}{t:T}(h:Vw K H B v t)(f:aF t=true):Rep K H B v t:=by
 cases h with
 |aE=>exact .aE
 |bl b=>exact .bl b
 |int i=>exact .int i
 |str x=>exact .str x
 |tup=>cases f
 |cT=>cases f
 |lst=>cases f
 |gp=>cases f
 |nM=>cases f
 |pk=>cases f
 |exc=>cases f
 |BQ=>cases f
 |il=>cases f
 |adr=>cases f
 |ins=>cases f
theorem lp{neg:Bool}:lI K (G_ K neg) (uG (EA neg)):=gi fun F ad B σ H μ Q Qt x y t u hK l v1 v2 q k=>by
 subst hK;unfold EA at q
 split at q
 ·obtain⟨f1,f2,q⟩:=q;obtain⟨_,_,rfl,ha,ra⟩:=Vw.tupI v2;obtain⟨a1,a2,a3⟩:=sR (Vw.mI v1 f1) f1 ra f2;exact .inl ⟨_,_,rfl,.inr (bO.of ha),a1,a2,by rw[a3];exact k _ H _ (Vr.flat l (.bl _)) Fr.refl q⟩
 ·obtain⟨f1,f2,q⟩:=q;obtain⟨_,_,rfl,ha,ra⟩:=Vw.e8 v2;obtain⟨a1,a2,a3⟩:=sR (Vw.mI v1 f1) f1 ra f2;exact .inl ⟨_,_,rfl,.inl (bA.of ha),a1,a2,by rw[a3];exact k _ H _ (Vr.flat l (.bl _)) Fr.refl q⟩
 ·obtain⟨f1,f2,q⟩:=q;obtain⟨_,_,rfl,ha,ra⟩:=Vw.uT v2;obtain⟨a1,a2,a3⟩:=sR (Vw.mI v1 f1) f1 ra f2;exact .inl ⟨_,_,rfl,.inr (.inr ha),a1,a2,by rw[a3];exact k _ H _ (Vr.flat l (.bl _)) Fr.refl q⟩
 ·split at q
  ·obtain rfl:=Vw.dm v1;obtain rfl:=Vw.dm v2;exact .inr ⟨_,_,rfl,rfl,k _ H _ (Vr.flat l (.bl _)) Fr.refl q⟩
  ·exact q.elim
 ·exact q.elim
end Y
namespace A
theorem Ip(neg:Bool)(t:T)(xs:List T)(μ:Mu)(Q:R->Mu->Prop):Y.EA neg t (.tup xs) μ Q=(aF t=true/\xs.all aF=true/\Q (.tr (.bl (if neg then !Y.gA t xs else Y.gA t xs))) μ):=rfl
theorem Jw(neg:Bool)(t:T)(xs:List T)(μ:Mu)(Q:R->Mu->Prop):Y.EA neg t (.lst xs) μ Q=(aF t=true/\xs.all aF=true/\Q (.tr (.bl (if neg then !Y.gA t xs else Y.gA t xs))) μ):=rfl
theorem Jf(neg:Bool)(t:T)(xs:List T)(μ:Mu)(Q:R->Mu->Prop):Y.EA neg t (.cT xs) μ Q=(aF t=true/\xs.all aF=true/\Q (.tr (.bl (if neg then !Y.gA t xs else Y.gA t xs))) μ):=rfl
theorem J1(neg:Bool)(i j:Str)(μ:Mu)(Q:R->Mu->Prop):Y.EA neg (.str i) (.str j) μ Q=Q (.tr (.bl (if neg then !Y.EO i j else Y.EO i j))) μ:=rfl
end A
noncomputable def kd(n m:Nat)(e:Nat->Bool):Bool:=(List.range (min n m)).all e && n == m
inductive o_:Nat->T->T->Bool->Prop
 |flat {n:Nat} {t u:T} (f1:aF t=true) (f2:aF u=true):o_ n t u (Y.BK t u)
 |tup {n:Nat} {xs ys:List T} (e:Nat->Bool) (h:∀(j:Nat) (x y:T),xs[j]?=some x->ys[j]?=some y->o_ n x y (e j)):o_ (n+1) (.tup xs) (.tup ys) (kd xs.length ys.length e)
 |lst {n:Nat} {xs ys:List T} (e:Nat->Bool) (h:∀(j:Nat) (x y:T),xs[j]?=some x->ys[j]?=some y->o_ n x y (e j)):o_ (n+1) (.lst xs) (.lst ys) (kd xs.length ys.length e)
theorem xj{t u:T}{v:V}(h1:Rep K H B v t)(h2:Rep K H B v u)(f1:aF t=true)(f2:aF u=true):Y.BK t u=true:=by
 cases h1<;>first | (cases f1;done) | (cases h2<;>first | (cases f2;done)|simp[Y.BK])
theorem iT{m:Nat}{e:Nat->Bool}(h:n=m)(h2:∀ j,j<n->e j=true):kd n m e=true:=by
 subst h;unfold kd;rw[Mr,KQ,Nq,KJ];intro j hj;exact h2 j (by simpa using hj)
theorem o_.same{t u:T}(d:o_ n t u b):∀{K:Nv} {H:Hp} {B:ba} {v:V},Rep K H B v t->Rep K H B v u->b=true:=by
 induction d with
 |flat f1 f2=>exact fun h1 h2=>xj h1 h2 f1 f2
 |tup e h ih =>
  rename_i nn xs ys;intro K H B v h1 h2
  cases h1 with
  |tup n1 a1 r1=>cases h2 with
   |tup n2 a2 r2 =>
    rw[a1] at a2;cases a2;refine iT (r1.length.symm.trans r2.length) fun j hj=>?_;have hx:=Kd hj;have hj2:j<ys.length:=by rw[<- r2.length,r1.length];exact hj
    have hy:=Kd hj2;obtain⟨v1,g1,p1⟩:=r1.get hx;obtain⟨v2,g2,p2⟩:=r2.get hy;rw[g1] at g2;cases g2;exact ih j _ _ hx hy p1 p2
 |lst e h ih =>
  rename_i nn xs ys;intro K H B v h1 h2
  cases h1 with
  |lst n1 a1 r1=>cases h2 with
   |lst n2 a2 r2 =>
    rw[a1] at a2;cases a2;refine iT (r1.length.symm.trans r2.length) fun j hj=>?_;have hx:=Kd hj;have hj2:j<ys.length:=by rw[<- r2.length,r1.length];exact hj
    have hy:=Kd hj2;obtain⟨v1,g1,p1⟩:=r1.get hx;obtain⟨v2,g2,p2⟩:=r2.get hy;rw[g1] at g2;cases g2;exact ih j _ _ hx hy p1 p2
section
variable {X:Cx} {pins:List (Addr×Obj)} {σ:St} {H:Hp} {s:Shared} {B:ba}
theorem iz{A:Around}{n:Nat}{xs ys:List T}{vs:List V}{e:Nat->Bool}(r1:av X.K H B vs xs)(r2:av X.K H B ws ys)(g1:Vals vs its)(g2:Vals ws its2)
  (ih:∀(j:Nat) (x y:T),xs[j]?=some x->ys[j]?=some y->∀(v w:V) (a b:Value),Rep X.K H B v x->Rep X.K H B w y->RelV v a->RelV w b->SeqAt.EqAt A s a b (e j)) :
  ∀ j (h1:j<its.toArray.size) (h2:j<its2.toArray.size),SeqAt.EqAt A s its.toArray[j] its2.toArray[j] (e j):=by
 intro j h1 h2;have l1:=g1.length;have l2:=g2.length;have l3:=r1.length;have l4:=r2.length;rw[Kg] at h1 h2;have hx:=Kd (show j<xs.length by lia)
 have hy:=Kd (show j<ys.length by lia)
 obtain⟨v1,q1,p1⟩:=r1.get hx;obtain⟨v2,q2,p2⟩:=r2.get hy;obtain⟨u1,e1,f1⟩:=g1.get q1;obtain⟨u2,e2,f2⟩:=g2.get q2;have z1:its.toArray[j]=u1:=by
  rw[Kd h1] at e1;simpa using e1
 have z2:its2.toArray[j]=u2:=by
  rw[Kd h2] at e2;simpa using e2
 rw[z1,z2];exact ih j _ _ hx hy v1 v2 u1 u2 p1 p2 f1 f2
theorem iJ{vs:List V}{xs ys:List T}(e:Nat->Bool)(r1:av X.K H B vs xs)(r2:av X.K H B ws ys)(g1:Vals vs its)(g2:Vals ws its2):((List.range (min its.toArray.size its2.toArray.size)).all e && its.toArray.size == its2.toArray.size)=kd xs.length ys.length e:=by
 have l1:=g1.length;have l2:=g2.length;have l3:=r1.length;have l4:=r2.length;unfold kd;rw[Kg,Kg,<- l1,<- l2,l3,l4]
theorem Ez{n:Nat}{t u:T}(d:o_ n t u b):∀(I:Inv X pins σ H s) {A:Around} (hu:A.units+n<cLine) (v w:V) (a c:Value),Rep X.K H B v t->Rep X.K H B w u->RelV v a->RelV w c->SeqAt.EqAt A s a c b:=by
 induction d with
 |flat f1 f2 =>
  intro I A hu v w a c h1 h2 r1 r2;obtain⟨z1,z2,z3⟩:=Y.vT h1 h2 f1 f2;rw[<- z3];exact mY r1 r2 z1 z2
 |tup e h ih =>
  intro I A hu v w a c h1 h2 r1 r2;rename_i n xs ys;have h1':=h1;have h2':=h2
  cases h1 with
  |tup n1 a1 q1=>cases h2 with
   |tup n2 a2 q2 =>
    rename_i p1 vs p2 ws
    cases r1;cases r2
    by_cases z:p1=p2
    ·subst z;rw[(o_.tup (n:=n) e h).same h1' h2'];exact SeqAt.EqAt.same _
    ·obtain⟨its,g1,pl1,_⟩:=I.tuple (bO.of a1);obtain⟨its2,g2,pl2,_⟩:=I.tuple (bO.of a2);rw[<- iJ (X:=X) e q1 q2 g1 g2];exact MB z (SeqAt.RcAt.tuples pl1 pl2 (by lia) (iz (n:=n) q1 q2 g1 g2 fun j x y hx hy v w a c=>ih j x y hx hy I (A:=A.in1) (by show A.units+1+n<cLine;lia) v w a c))
 |lst e h ih =>
  intro I A hu v w a c h1 h2 r1 r2;rename_i n xs ys;have h1':=h1;have h2':=h2
  cases h1 with
  |lst n1 a1 q1=>cases h2 with
   |lst n2 a2 q2 =>
    rename_i p1 vs p2 ws
    cases r1;cases r2
    by_cases z:p1=p2
    ·subst z;rw[(o_.lst (n:=n) e h).same h1' h2'];exact SeqAt.EqAt.same _
    ·obtain⟨its,g1,pl1,_⟩:=I.list (bA.of a1);obtain⟨its2,g2,pl2,_⟩:=I.list (bA.of a2);have sz:=iJ (X:=X) e q1 q2 g1 g2;rw[<- sz];by_cases hs:its.toArray.size=its2.toArray.size
     ·rw[hs,Mr,KQ,Nq,<- hs];exact MB z (SeqAt.RcAt.lists pl1.isList pl2.isList hs (by lia) (iz (n:=n) q1 q2 g1 g2 fun j x y hx hy v w a c=>ih j x y hx hy I (A:=A.in1) (by show A.units+1+n<cLine;lia) v w a c))
     ·rw[K3.mpr hs,Bool.and_false];exact MB z (SeqAt.RcAt.lists_lengths pl1.isList pl2.isList (Nl.mpr hs) (by lia))
end
namespace Y
noncomputable def EV(K:Nv)(n:Nat)(neg:Bool):R2:=fun x y H Q=>∃(B:ba) (a b:Addr) (vs ws:List V) (xs ys:List T) (e:Nat->Bool),x=.ref a/\y=.ref b/\((bO K H a vs/\bO K H b ws)\/(bA K H a vs/\bA K H b ws))/\av K H B vs xs/\av K H B ws ys /\
 (∀(j:Nat) (x y:T),xs[j]?=some x->ys[j]?=some y->o_ n x y (e j))/\Q (.bl (if neg then !kd xs.length ys.length e else kd xs.length ys.length e)) H
theorem AX{X:Cx}{n:Nat}(hu:X.A.units+n+1<cLine):cU X (compareOp .Eq) (EV X.K n false):=by
 intro pins s σ H x y v u Q I rx ry h;obtain⟨B,a,b,vs,ws,xs,ys,e,rfl,rfl,hq,r1,r2,ih,q⟩:=h
 cases rx;cases ry
 have it:∀(j:Nat) (x y:T),xs[j]?=some x->ys[j]?=some y->∀(v w:V) (a b:Value),Rep X.K H B v x->Rep X.K H B w y->RelV v a->RelV w b->SeqAt.EqAt X.A.in1 s a b (e j):=fun j x y hx hy v w a c=>Ez (ih j x y hx hy) I (A:=X.A.in1) (by show X.A.units+1+n<cLine;lia) v w a c
 rcases hq with ⟨ha,hb⟩|⟨ha,hb⟩
 ·obtain⟨its,g1,p1,_⟩:=I.tuple ha;obtain⟨its2,g2,p2,_⟩:=I.tuple hb;refine SeqAt.eq_tupleAt p1 p2 (by lia) (iz (n:=n) r1 r2 g1 g2 it) ⟨.bl _,H,I,rfl,?_⟩
  rw[iJ (X:=X) e r1 r2 g1 g2];exact q
 ·obtain⟨its,g1,p1,_⟩:=I.list ha;obtain⟨its2,g2,p2,_⟩:=I.list hb;have sz:=iJ (X:=X) e r1 r2 g1 g2;by_cases hs:its.toArray.size=its2.toArray.size
  ·rw[hs,Mr,KQ,Nq,<- hs] at sz;refine MZ p1.isList p2.isList hs (by lia) (iz (n:=n) r1 r2 g1 g2 it) ⟨.bl _,H,I,rfl,?_⟩
   rw[sz];exact q
  ·rw[K3.mpr hs,Bool.and_false] at sz;refine Me p1.isList p2.isList (Nl.mpr hs) (by lia) ⟨.bl _,H,I,rfl,?_⟩
   rw[sz];exact q
end Y
theorem CI{A:Around}(hr:bP k A):A.units+4+1<cLine:=KP (Nat.add_le_add_left (by decide:4+1<=64) _) hr.units
namespace Y
noncomputable def J2(K:Nv):R2:=fun x y H Q=>Cd K x y H Q\/EV K 4 false x y H Q
theorem CB(K:Nv)(hK:X.K=K)(hu:X.A.units+4+1<cLine):cU X (compareOp .Eq) (J2 K):=by subst hK;exact (cY X.K rfl (by lia)).or (AX hu)
end Y
open Builtin Builtin.Str
theorem gO:∀{l:List (Str×Tok)},Vals ((l.map (·.1)).map V.str) (strValues l)
 |[]=>.nil
 | (x,t)::l=>.cons ⟨t,rfl⟩ (gO (l:=l))
noncomputable def x_:V->List V->Hp->VK->Prop:=fun x vs H Q=>∃ z y,x=.str z/\vs=[.str y]/\(y.length == 0)=false/\z.length<=sizeLine/\(Txt.split z y).length<=sizeLine/\∀ p,H p=none->Q (.ref p) (upd H p (.lst ((Txt.split z y).map V.str)))
theorem kF:xm X "str.split" x_:=by
 intro pins s σ H x xs v us Q I rx rs h;obtain⟨z,y,rfl,rfl,hy,hz,hn,q⟩:=h;obtain⟨t,rfl⟩:=rx;obtain⟨u,rfl,k,rfl⟩:=vals1 rs;have fin:∀(l:List (Str×Tok)) (tk:Nat),l.map (·.1)=Txt.split z y->∃ v' H',Inv X pins σ H' {s with heap:=s.heap.push {cls:=.type "list",data:=.seq (strValues l).toArray},toks:=tk}/\RelV v' (.ref s.heap.objs.size)/\Q v' H':=fun l tk e=>by
  refine⟨.ref s.heap.objs.size,_,I.laid (t':=tk) (fun b ob q=>Ke _ q) (Kk _) (show bC X.prog X.w _ _ _ (.lst ((Txt.split z y).map V.str)) from⟨by rw[Kc];exact hn,strValues l,0,by rw[<- e];exact gO,Kq _ rfl⟩),rfl,q _ (I.aU.fresh (Kk _))⟩
 cases h1:(decide (z.length<y.length) || decide (strKind z<strKind y))
 ·cases hf:(occurrences z y 0 z.length (z.length+1)).isEmpty
  ·have es:Txt.split z y=partsBetween z (occurrences z y 0 z.length (z.length+1)) y.length:=(Kf (M0 h1)).trans (Kf (M0 hf));refine Lp MT (Mq _ _ _) MJ (MC _ _) (meets_str_split_sep z y t k h1 hy hf hz (by rw[<- es];exact hn)) ?_
   show wants _ _ _ {s with toks:=_,heap:=s.heap.push {cls:=.type "list",data:=.seq (strsFrom s.toks (partsBetween z (occurrences z y 0 z.length (z.length+1)) y.length)).toArray}}
   rw[strsFrom_eq];exact fin (numbered s.toks _) _ ((numbered_texts _ _).trans es.symm)
  ·exact Lp MT (Mq _ _ _) MJ (MC _ _) (meets_str_split_not_found z y t k h1 hy hf) (fin [(z,t)] s.toks ((Kf (M0 h1)).trans (Kh hf)).symm)
 ·exact Lp MT (Mq _ _ _) MJ (MC _ _) (meets_str_split_cannot_occur z y t k h1) (fin [(z,t)] s.toks (Kh h1).symm)
namespace Y
noncomputable def pP:DT:=fun z rs μ Q=>match rs with
 |[.tr (.str y)]=>(y.length == 0)=false/\z.length<=sizeLine/\(Txt.split z y).length<=sizeLine/\Q (.fr (.lst ((Txt.split z y).map T.str))) μ
 |_=>False
theorem nQ:HN K x_ pP:=by
 intro F ad B σ H μ Q Qt z xs rs hF l ps q k;unfold pP at q
 split at q
 ·obtain⟨_,_,rfl,h,ps⟩:=Paired.aO ps;obtain rfl:=Paired.dD ps
  cases cB h
  exact⟨z,_,rfl,rfl,q.1,q.2.1,q.2.2.1,fun p hp=>k _ _ _ μ (Vr.uy l (gw _) hp) (Fr.more hp) (Kp.refl μ) q.2.2.2⟩
 ·exact q.elim
noncomputable def w8:UC:=fun rs μ Q=>match rs with
 |[.tr (.int i)]=>i.natAbs.log2<1920/\Q (.tr (.str (toString i))) μ
 |[.tr (.str z)]=>Q (.tr (.str z)) μ
 |_=>False
theorem mX:RC K yd w8:=by
 intro F ad B σ H μ Q Qt xs rs hK l p q k;unfold w8 at q
 split at q
 ·obtain⟨_,_,rfl,h1,p⟩:=Paired.aO p
  cases p;cases cB h1;exact⟨q.1,k _ H _ μ (Vr.flat l (.str _)) Fr.refl (Kp.refl μ) q.2⟩
 ·obtain⟨_,_,rfl,h1,p⟩:=Paired.aO p
  cases p;cases cB h1;exact k _ H _ μ (Vr.flat l (.str _)) Fr.refl (Kp.refl μ) q
 ·exact q.elim
noncomputable def BJ:List V->Hp->VK->Prop:=fun xs H Q=>yW xs H Q\/∃(z:Str) (n:Int),xs=[.str z]/\PySem.intText? z=some n/\z.length<=640/\Q (.int n) H
theorem i_:bp X (.type "int") BJ:=by
 refine jm.or ?_;intro pins s σ H xs us Q I r h;obtain⟨z,n,rfl,h0,h1,q⟩:=h;obtain⟨u,rfl,t,rfl⟩:=vals1 r;exact PySem.W.KIN.call_text h0 h1 ⟨.int n,H,I.tok _,⟨_,rfl⟩,q⟩
noncomputable def vJ:UC:=fun rs μ Q=>match rs with
 |[.tr (.int i)]=>Q (.tr (.int i)) μ
 |[.tr (.bl k)]=>Q (.tr (.int (if k=true then 1 else 0))) μ
 |[.tr (.str z)]=>∃ n:Int,PySem.intText? z=some n/\z.length<=640/\Q (.tr (.int n)) μ
 |_=>False
theorem nE:RC K BJ vJ:=by
 intro F ad B σ H μ Q Qt xs rs hK l p q k;unfold vJ at q
 split at q
 ·obtain⟨_,_,rfl,h1,p⟩:=Paired.aO p
  cases p;cases cB h1;exact .inl (k _ H _ μ (Vr.flat l (.int _)) Fr.refl (Kp.refl μ) q)
 ·obtain⟨_,_,rfl,h1,p⟩:=Paired.aO p
  cases p;cases cB h1;exact .inl (k _ H _ μ (Vr.flat l (.int _)) Fr.refl (Kp.refl μ) q)
 ·obtain⟨_,_,rfl,h1,p⟩:=Paired.aO p;obtain rfl:=Paired.dD p
  cases cB h1
  obtain⟨n,h0,h1,q⟩:=q;exact .inr ⟨_,n,rfl,h0,h1,k _ H _ μ (Vr.flat l (.int _)) Fr.refl (Kp.refl μ) q⟩
 ·exact q.elim
theorem xR:∀(bs:List Bool),(List.range bs.length).all (fun i=>(bs[i]?).getD false)=bs.all id
 |[]=>rfl
 |b::bs=>by
  rw[Ks,List.range_succ_eq_map,KI,List.all_map,KI,<- xR bs];rfl
noncomputable def HF(K:Nv):List V->Hp->VK->Prop:=fun xs H Q=>∃(p:Addr) (bs:List Bool),xs=[.ref p]/\bA K H p (bs.map V.bl)/\Q (.bl (bs.all id)) H
theorem vc(K:Nv)(hK:X.K=K)(hc:X.calm=true):bp X (.builtin "all") (HF K):=by
 subst hK;intro pins s σ H xs us Q I r h;obtain⟨p,bs,rfl,hq,q⟩:=h;obtain⟨u,rfl,ru⟩:=vals1 r;cases ru;obtain⟨its,rv,pl,hz⟩:=I.list hq;have ht:s.heap.IsList p its.toArray:=pl.isList;have hlt:p<s.heap.objs.size:=by obtain⟨o,ho,_⟩:=id ht;exact Kl ho
 have hlen:its.length=bs.length:=by have:=rv.length;rw[Kc] at this;lia
 refine call_all_walk (KY ht ?_);refine⟨_,[_,p],[_],_,_,_,fun i=>(bs[i]?).getD false,rfl,Walks.list (A:=X.A.in1) (I.ok.hd hc) _ p (Kz hlt) its.toArray,⟨⟨_,Kq _ rfl,rfl,rfl⟩,ht.push _⟩,fun i v s' Q' E' hP hQ=>?_,fun h' tk hk=>?_⟩
 ·have hP':its[i]?=some v:=by rw[<- L1];exact hP
  have hi:i<bs.length:=by have:=(Ku.mp hP').1;lia
  obtain⟨v',e',rr⟩:=rv.get (i:=i) (x:=V.bl bs[i]) (by rw[K2,Kd hi];rfl)
  have e2:its[i]?=some v':=e';rw[hP'] at e2;cases e2;cases rr;simp only[Kd hi,Option.getD_some] at hQ;exact L5 hQ
 ·have e:((List.range its.toArray.size).all fun i=>(bs[i]?).getD false)=bs.all id:=by
   rw[Kg,hlen];exact xR bs
  rw[e];refine⟨.bl (bs.all id),H,I.kept fun b o e=>hk b o (fun hm=>?_) (Ke _ e),rfl,q⟩;rcases Kn.mp hm with rfl|hm
  ·exact absurd (Kl e) (Lg _)
  ·cases hm
noncomputable def Eo:T->Mu->(R->Mu->Prop)->Prop:=fun t μ Q=>match t with
 |.lst xs=>∃ bs:List Bool,xs=bs.map T.bl/\Q (.tr (.bl (bs.all id))) μ
 |_=>False
theorem Ei:RC K (HF K) (Br Eo):=rq fun F ad B σ H μ Q Qt x t hK l v1 q k=>by
 subst hK;unfold Eo at q
 split at q
 ·obtain⟨bs,rfl,q⟩:=q;obtain⟨_,_,rfl,ha,ra⟩:=Vw.e8 v1;exact⟨_,bs,rfl,by rw[<- kf ra];exact bA.of ha,k _ _ _ (Vr.flat l (.bl _)) Fr.refl q⟩
 ·exact q.elim
end Y
noncomputable def Hy(z:Str):It:=⟨fun i _=>i<z.cps.size,fun i H x H'=>H'=H/\∃ c,z.cps[i]?=some c/\x=.str ⟨#[c]⟩,fun i _=>z.cps.size<=i⟩
theorem uq(z:Str)(t:Tok)(it:Addr):Turn P w K tg (Hy z) [it] it (fun i h=>h.IsStrIter it "str_ascii_iterator" z t i) where
 mem:=by simp
 obj:=fun i h st b hb=>by
  have e:b=it:=by simpa using hb
  subst e;obtain⟨o,e,c,d⟩:=st;exact⟨o,e,fun v z=>by rw[d] at z;cases z⟩
 keep:=fun i h h' st k=>let ⟨o,e,r⟩:=st;⟨o,k it (by simp) o e,r⟩
 item:=by
  intro X hP hw hK hc i pins s σ H E I hf st hg;subst hP hw hK;obtain⟨f0,f1,f2,f3,f4,f5⟩:=hf it (by simp)
  have hi:i<z.cps.size:=hg;refine wpAny_pyNext_ascii_item st (c:=z.cps[i]) (by simp[hi]) fun h' st' sb=>?_
  have I1:Inv X pins σ H {s with heap:=h',toks:=s.toks+1}:=I.turned (t':=s.toks+1) (fun b o hb e=>(sb.2 b hb).trans e) f0 f1 f3 f4 f5
  obtain⟨o,e,c,d⟩:=id st';exact⟨_,rfl,p0 (s:={s with heap:=h',toks:=s.toks+1}) e c d (by decide) ⟨.str ⟨#[z.cps[i]]⟩,H,I1,⟨_,rfl⟩,⟨rfl,_,by simp[hi],rfl⟩,st',fun b hb=>(hf b hb).1⟩⟩
 done:=by
  intro X hP hw hK hc i pins s σ H E I hf st hg;subst hP hw hK;obtain⟨f0,f1,f2,f3,f4,f5⟩:=hf it (by simp)
  have hi:z.cps.size<=i:=hg;exact wpAny_pyNext_ascii_end (I.ok.hd hc) st (by simpa using hi) fun h' eb=>⟨rfl,I.turned (t':=s.toks) (fun b o hb e=>eb b o hb e) f0 f1 f3 f4 f5⟩
 self:=fun _ _ _ _ _ st h=>wpAny_pyIter_striter_ascii st h
theorem u5(z:Str)(t:Tok)(it:Addr):Turn P w K tg (Hy z) [it] it (fun i h=>h.IsStrIter it "str_iterator" z t i) where
 mem:=by simp
 obj:=fun i h st b hb=>by
  have e:b=it:=by simpa using hb
  subst e;obtain⟨o,e,c,d⟩:=st;exact⟨o,e,fun v z=>by rw[d] at z;cases z⟩
 keep:=fun i h h' st k=>let ⟨o,e,r⟩:=st;⟨o,k it (by simp) o e,r⟩
 item:=by
  intro X hP hw hK hc i pins s σ H E I hf st hg;subst hP hw hK;obtain⟨f0,f1,f2,f3,f4,f5⟩:=hf it (by simp)
  have hi:i<z.cps.size:=hg;refine wpAny_pyNext_wide_item st (c:=z.cps[i]) (by simp[hi]) fun h' st' sb=>?_
  have I1:Inv X pins σ H {s with heap:=h',toks:=s.toks+1}:=I.turned (t':=s.toks+1) (fun b o hb e=>(sb.2 b hb).trans e) f0 f1 f3 f4 f5
  obtain⟨o,e,c,d⟩:=id st';exact⟨_,rfl,p0 (s:={s with heap:=h',toks:=s.toks+1}) e c d (by decide) ⟨.str ⟨#[z.cps[i]]⟩,H,I1,⟨_,rfl⟩,⟨rfl,_,by simp[hi],rfl⟩,st',fun b hb=>(hf b hb).1⟩⟩
 done:=by
  intro X hP hw hK hc i pins s σ H E I hf st hg;subst hP hw hK;obtain⟨f0,f1,f2,f3,f4,f5⟩:=hf it (by simp)
  have hi:z.cps.size<=i:=hg;exact wpAny_pyNext_wide_end (I.ok.hd hc) st (by simpa using hi) fun h' eb=>⟨rfl,I.turned (t':=s.toks) (fun b o hb e=>eb b o hb e) f0 f1 f3 f4 f5⟩
 self:=fun _ _ _ _ _ st h=>wpAny_pyIter_striter_wide st h
noncomputable def Jp(tl:TE):TI:=fun σ H R=>tl σ H fun x H1=>∃ z,x=V.str z/\R (Hy z) H1
theorem Dg(hl:PE X l tl):PI X tg l (Jp tl):=by
 intro pins s σ H R I h;refine bM (hl pins s σ H _ I h) fun v s1 hq1=>?_;obtain⟨x,H1,I1,r1,q1⟩:=hq1;obtain⟨z,rfl,q⟩:=q1;obtain⟨t,rfl⟩:=r1;have fr:∀ b∈[s1.heap.objs.size],jS X pins H1 b:=fun b hb=>by
  have e:b=s1.heap.objs.size:=by simpa using hb
  subst e;exact I1.oq (Kk _) (I1.aU.fresh (Kk _))
 cases ha:z.cps.all (· < 128)
 ·refine wpAny_pyIter_wide ha ?_;exact⟨s1.heap.objs.size,[s1.heap.objs.size],_,_,H1,rfl,I1.kept (t':=s1.toks) fun b o e=>Ke _ e,u5 z t _,⟨_,Kq _ rfl,rfl,rfl⟩,fr,q⟩
 ·refine wpAny_pyIter_ascii ha ?_;exact⟨s1.heap.objs.size,[s1.heap.objs.size],_,_,H1,rfl,I1.kept (t':=s1.toks) fun b o e=>Ke _ e,uq z t _,⟨_,Kq _ rfl,rfl,rfl⟩,fr,q⟩
noncomputable def iS(z:Str):List T:=z.cps.toList.map fun c=>T.str ⟨#[c]⟩
theorem Dd{z:Str}:kO K (Hy z) (fun _ _=>True) (iS z):=
 ⟨fun H B i t hb _ e=>by
  unfold iS at e;rw[K2] at e;have hi:i<z.cps.size:=by
   rcases KU i z.cps.size with q|q
   ·exact q
   ·rw[K0.mpr (by simpa using q)] at e;cases e
  refine⟨hi,fun x H2 y=>?_⟩;obtain⟨rfl,c,hc,rfl⟩:=y;rw[Array.getElem?_toList,hc] at e;cases e;exact⟨cQ.refl _,.str _⟩,fun H B _=>by simp[Hy,iS]⟩
namespace Y
noncomputable def zm(ue:UE):UI:=fun μ Rt=>ue μ fun r μ'=>match r with
 |.tr (.str z)=>Rt (iS z) none μ'
 |_=>False
theorem JZ(he:YE X e ue):YI X tg e (zm ue):=by
 obtain⟨t,q,r⟩:=he;refine⟨_,⟨Dg q.h⟩,fun F ad B σ H μ R Rt hF l q k=>r F ad B σ H μ _ _ hF l q fun v H' r1 μ' v1 f k1 q1=>?_⟩
 split at q1
 ·rename_i z;obtain⟨l1,rp⟩:=v1;obtain rfl:=Rep.dm rp;exact⟨z,rfl,k _ H' μ' _ none _ l1 f k1 Dd trivial (fun _ _ _ _ _ _=>trivial) (fun j ls z=>by cases z) q1⟩
 ·exact q1.elim
end Y
namespace A
theorem Fz(xs:List T)(μ:Mu)(Q:R->Mu->Prop):Y.Eo (.lst xs) μ Q=(∃ bs:List Bool,xs=bs.map T.bl/\Q (.tr (.bl (bs.all id))) μ):=rfl
theorem EW(i:Int)(μ:Mu)(Q:R->Mu->Prop):Y.w8 [.tr (.int i)] μ Q=(i.natAbs.log2<1920/\Q (.tr (.str (toString i))) μ):=rfl
theorem FG(z:Str)(μ:Mu)(Q:R->Mu->Prop):Y.vJ [.tr (.str z)] μ Q=(∃ n:Int,PySem.intText? z=some n/\z.length<=640/\Q (.tr (.int n)) μ):=rfl
theorem CZ(z y:Str)(μ:Mu)(Q:R->Mu->Prop):Y.pP z [.tr (.str y)] μ Q=((y.length == 0)=false/\z.length<=sizeLine/\(Txt.split z y).length<=sizeLine/\Q (.fr (.lst ((Txt.split z y).map T.str))) μ):=rfl
theorem zm(ue:UE)(μ:Mu)(Rt:List T->Option (Nat×List T)->Mu->Prop):Y.zm ue μ Rt=ue μ fun r μ'=>match r with
 |.tr (.str z)=>Rt (iS z) none μ'
 |_=>False:=rfl
end A
open PySem PySem.Spec PyProof PyProof.Rows
variable{es:List Expr}{e:Expr}{p pos:Pos}{X:Cx}
noncomputable def AG(K:Nv)(a:Addr):It:=
 ⟨fun i H=>∃ x,getL K a i H x,fun i H x H'=>∃ p y,(∀ xs,bA K H a xs->xs[i]?=some y)/\H p=none/\x=.ref p/\H'=upd H p (.tup [.int i,y]),Ju K a⟩
theorem pZ{P:Program}{w:World}{K:Nv}{tk:Nat}{tp:Pos}(a it e:Addr)(hne:e≠it):Turn P w K (.Tuple es tk tp) (AG K a) [e,it] e (fun i h=>(∃ old,IsEnum h e it i old)/\h.IsListIter it a i) where
 mem:=by simp
 obj:=fun i h st b hb=>by
  obtain⟨⟨old,he⟩,o,eo,c,d⟩:=st;rcases Kn.mp hb with z|z
  ·subst z;exact⟨_,he,fun v z=>by cases z⟩
  ·have z:b=it:=by simpa using z
   subst z;exact⟨o,eo,fun v z=>by rw[d] at z;cases z⟩
 keep:=fun i h h' st k=>by
  obtain⟨⟨old,he⟩,o,eo,r⟩:=st;exact⟨⟨old,k e (by simp) _ he⟩,o,k it (by simp) o eo,r⟩
 item:=by
  intro X hP hw hK hc i pins s σ H E I hf st hg;subst hP hw hK;obtain⟨x,xs,hq,hx⟩:=hg;obtain⟨⟨old,he⟩,hit⟩:=st;obtain⟨its,rv,p,hz⟩:=I.list hq;obtain⟨u,hu,ru⟩:=rv.get hx;obtain⟨g0,g1,g2,g3,g4,g5⟩:=hf e (by simp)
  obtain⟨f0,f1,f2,f3,f4,f5⟩:=hf it (by simp)
  have ht:s.heap.IsList a its.toArray:=p.isList;have ha:a≠it:=by
   rintro rfl;obtain⟨o,e1,c1,_⟩:=hit;obtain⟨o',e2,c2,_⟩:=ht;rw[e1] at e2;cases e2;rw[c1] at c2;exact absurd (Value.type.inj c2) (by decide)
  have hea:e≠a:=by
   rintro rfl;obtain⟨o',e2,c2,_⟩:=ht;have e1:s.heap.get? e=some _:=he;rw[e1] at e2;cases e2;exact absurd (Value.type.inj c2) (by decide)
  have hi:i<its.toArray.size:=by
   have:=(Ku.mp hu).1
   simpa using this
  refine wpAny_pyNext_enum_itemD (Draws.list (A:=X.A.in1) (I.ok.hd hc) it a ha its.toArray) he ⟨hit,ht⟩ hi hne (by simp[hne,hea]) fun x' h' tk' hP ho hs' hT hsz hk=>?_
  have ex:x'=u:=by
   have hP':its.toArray[i]?=some x':=hP;rw[L1,hu] at hP';exact (Option.some.inj hP').symm
  subst ex;refine⟨.ref s.heap.objs.size,rfl,wpAny_letOwnedTupleGo_enum ho fun h2 he2 hs2=>?_⟩;have fr:H s.heap.objs.size=none:=I.aU.fresh (Kk _);have hle:e≠s.heap.objs.size:=Kz (Kl he);have hT2:h2.get? s.heap.objs.size=some {cls:=.type "tuple",data:=.seq #[.int i tk',x']}:=(hs2.2 _ (Ne.symm hle)).trans hT;have I2:Inv X pins σ (upd H s.heap.objs.size (.tup [.int i,x])) {s with heap:=h2,toks:=tk'+1}:=by
   refine I.sH (fp:=[e,it]) hf (Kk _) (fun b o hb eb=>?_) ⟨by show 2<=sizeLine;decide,[.int i tk',x'],.cons ⟨_,rfl⟩ (.cons ru .nil),⟨_,hT2,rfl,_,rfl,rfl⟩⟩
   have n1:b≠e:=fun z=>hb (by simp[z])
   have n2:b≠it:=fun z=>hb (by simp[z])
   exact (hs2.2 b n1).trans (hk b o n1 n2 eb)
  refine⟨.ref s.heap.objs.size,_,I2,rfl,⟨s.heap.objs.size,x,fun ys hy=>by rw[I.kY hy hq];exact hx,fr,rfl,rfl⟩,⟨⟨x',?_⟩,?_⟩,fun b hb=>?_⟩
  ·have e:(((i+1:Nat)):Int)=(i:Int)+1:=by lia
   rw[e];exact he2
  ·obtain⟨o,e1,r⟩:=hs'.1;exact⟨o,(hs2.2 it (Ne.symm hne)).trans e1,r⟩
  ·have n:b≠s.heap.objs.size:=by
    rcases Kn.mp hb with z|z
    ·subst z;exact hle
    ·have z:b=it:=by simpa using z
     subst z;obtain⟨o,e1,_⟩:=hit;exact Kz (Kl e1)
   rw[ae n];exact (hf b hb).1
 done:=by
  intro X hP hw hK hc i pins s σ H E I hf st hg;subst hP hw hK;obtain⟨xs,hq,hx⟩:=hg;obtain⟨⟨old,he⟩,hit⟩:=st;obtain⟨its,rv,p,hz⟩:=I.list hq;have ht:s.heap.IsList a its.toArray:=p.isList;have ha:a≠it:=by
   rintro rfl;obtain⟨o,e1,c1,_⟩:=hit;obtain⟨o',e2,c2,_⟩:=ht;rw[e1] at e2;cases e2;rw[c1] at c2;exact absurd (Value.type.inj c2) (by decide)
  have hl:=rv.length;have hsz:its.toArray.size=i:=by simp;lia
  refine wpAny_pyNext_enum_endD (Draws.list (A:=X.A.in1) (I.ok.hd hc) it a ha its.toArray) he (by rw[hsz];exact⟨hit,ht⟩) fun h' eb=>⟨rfl,?_⟩
  exact I.turns (t':=s.toks) hf fun b o hb e1=>eb b o (fun z=>hb (by simp[z])) e1
 self:=fun A i s Q E st h=>by
  obtain⟨⟨old,he⟩,_⟩:=st;exact wpAny_pyIter_enum he h
section
variable {X:Cx} {es:List Expr} {tk:Nat} {tp:Pos}
noncomputable def El(K:Nv)(ta:TA):TI:=fun σ H R=>ta σ H fun vs H1=>∃ a,vs=[.ref a]/\(∃ xs,bA K H1 a xs)/\R (AG K a) H1
theorem xS{ta:TA}(hg:Gl X "enumerate")(hm:X.mg "enumerate"=none)(ha:PA X [e] ta)(h1:autoParam (fo e=true) ℜ0)(hv:autoParam (bootBuiltins "enumerate"=some (.type "enumerate")) ℜ6):
  PI X (.Tuple es tk tp) (.Call (.Name "enumerate" p) [e] [] pos) (El X.K ta):=by
 intro pins s σ H R I h;refine Call_ (iW I hg hm hv (Lw (bM (ha pos pins s σ H _ I h) fun us s1 hq1=>?_) (fH h1) rfl));obtain⟨vs,H1,I1,r1,q1⟩:=hq1;obtain⟨a,e,⟨xs,hq⟩,q⟩:=q1;subst e;obtain⟨u,rfl,ru⟩:=vals1 r1;cases ru;obtain⟨its,rv,pt,hz⟩:=I1.list hq;refine call_enumerate_list pt.isList fun h' he hit hsz hk=>?_;refine wpAny_pyIter_enum he ?_;have I2:Inv X pins σ H1 {s1 with heap:=h'}:=I1.kept (t':=s1.toks) hk
 refine⟨s1.heap.objs.size+1,[s1.heap.objs.size+1,s1.heap.objs.size],_,_,H1,rfl,I2,pZ a s1.heap.objs.size (s1.heap.objs.size+1) (LA (MM _)),⟨⟨_,he⟩,hit⟩,fun b hb=>?_,q⟩;have hb':s1.heap.objs.size<=b:=by
  rcases Kn.mp hb with z|z
  ·rw[z];exact LR _
  ·have z:b=s1.heap.objs.size:=by simpa using z
   rw[z];exact Kk _
 exact I1.oq hb' (I1.aU.fresh hb')
end
theorem yV{K:Nv}{a:Addr}{ts:List T}:kO K (AG K a) (fun H B=>∃ vs,bA K H a vs/\av K H B vs ts) (pairs ts):=by
 refine⟨fun H B i t hb hq2 e=>?_,fun H B ⟨vs,h,r⟩=>⟨vs,h,by rw[r.length];simp[pairs]⟩⟩
 obtain⟨vs,h,r⟩:=hq2;unfold pairs at e;rw[K2] at e;have hi:i<ts.length:=by
  rcases KU i ts.length with z|z
  ·exact z
  ·rw[K0.mpr (by simpa using z)] at e;cases e
 rw[Mz hi] at e;have e':T.tup [.int (i:Nat),(ts[i]?).getD .aE]=t:=Option.some.inj e;have et:ts[i]?=some ts[i]:=Kd hi;obtain⟨v,e1,rv⟩:=r.get et;refine⟨⟨v,vs,h,e1⟩,fun x H2 y=>?_⟩;obtain⟨p,y,hy,hp,rfl,rfl⟩:=y;have:=hy vs h;rw[e1] at this;cases this;subst e';rw[et];refine⟨cQ.new hp,.tup (fun z=>?_) ab (.cons (.int _) (.cons (rv.fr (Fr.same (cQ.new hp))) .nil))⟩;obtain⟨o,q⟩:=hb p z;rw[hp] at q;cases q
namespace Y
noncomputable def yS(us:UA):UI:=fun μ Rt=>us μ fun rs μ'=>match rs with
 |[.tr (.lst ts)]=>Rt (pairs ts) none μ'
 |_=>False
theorem Fj{us:UA}(K:Nv)(hK:X.K=K){k:Nat}{tp:Pos}(hg:Gl X "enumerate")(hm:X.mg "enumerate"=none)(ha:YA X [e] us)(h1:autoParam (fo e=true) ℜ0):YI X (.Tuple es k tp) (.Call (.Name "enumerate" p) [e] [] pos) (yS us):=by
 obtain⟨t,q,r⟩:=ha;subst hK;refine⟨_,⟨xS hg hm q.h h1⟩,fun F ad B σ H μ R Rt hF l q k=>r F ad B σ H μ _ _ hF l q fun vs H' rs μ' l1 ps f k1 q1=>?_⟩
 split at q1
 ·rename_i ts;obtain⟨_,_,rfl,h1,ps⟩:=Paired.aO ps;obtain rfl:=Paired.dD ps;have rp:=cB h1
  cases rp with
  |@lst a vs _ n h rr =>
   have sr:∀ H B,Rep F.K H B (.ref a) (.lst ts)->∃ vs,bA X.K H a vs/\av X.K H B vs ts:=fun H B h=>by
    rw[hF] at h;obtain⟨_,n,h,r⟩:=Rep.CY h;exact⟨_,bA.of h,r⟩
   exact⟨a,rfl,⟨vs,bA.of h⟩,k (AG X.K a) H' μ' (pairs ts) none (fun H B=>Rep F.K H B (.ref a) (.lst ts)) l1 f k1 (yV.imp sr) (.lst n h rr) (fun B1 H1 B2 H2 f h=>h.fr f) (fun j ls z=>by cases z) q1⟩
 ·exact q1.elim
end Y
namespace A
theorem yS(us:UA)(μ:Mu)(Rt:List T->Option (Nat×List T)->Mu->Prop):Y.yS us μ Rt=us μ fun rs μ'=>match rs with
 |[.tr (.lst ts)]=>Rt (pairs ts) none μ'
 |_=>False:=rfl
end A
noncomputable def A2(K:Nv)(ws:List Str)(v:Value):Prop:=∃ p,v=.ref p/\yE K p (ws.map V.str)
structure ly (K:Nv) (a:Addr) (D:List (Str×List Str)):Prop where
 low:(a == sysModules)=false
 ex:∃ o es ep,K.lookup a=some o/\o.ExactDict/\o.data=.dict es ep/\KTD.Rows (A2 K) es.toList D
section
variable {prog:Program} {w:World} {A:Around} {E:Value->Shared->Prop} {s:Shared} {K:Nv} {a:Addr} {D:List (Str×List Str)} {k:Str} {tk:Tok}
theorem ly.typeIs(T:ly K a D)(X:K.In s.heap):s.TypeIs (.ref a) "dict":=let ⟨o,_,_,ho,hc,_⟩:=T.ex;⟨o,X _ _ ho,hc.1⟩
theorem pJ{Q:Option Value->Shared->Prop}(T:ly K a D)(X:K.In s.heap)(h1:∀ d v,KTD.datumAt k D=some d->A2 K d v->Q (some v) {s with toks:=s.toks+1})(h2:KTD.datumAt k D=none->Q none {s with toks:=s.toks+1}):
  wpAny (model prog w) A (dictGet a (.str k tk)) Q E s:=by
 obtain⟨o,es,ep,ho,hc,hd,hr⟩:=T.ex;have ho:=X _ _ ho;unfold dictGet
 try with_reducible refine KL ?_
 refine Kb (wpAny_pyHash_str (Kb (KTD.kt_dictFind_strs (s:={s with toks:=s.toks+1}) ho hd (by obtain⟨l⟩:=es;simpa using hr.exact) ?_)))
 have hq:Q (findBy (fun k v=>v.isStr k) es k) {s with toks:=s.toks+1}:=by
  have hf:findBy (fun k v=>v.isStr k) es k=(es.toList.find? fun e=>e.key.isStr k).map (·.val):=by
   obtain⟨l⟩:=es;simp[findBy]
  rw[hf]
  cases hat:KTD.datumAt k D with
  |some d=>obtain⟨v,hv,hfl⟩:=hr.find_some hat;rw[hv];exact h1 d v hat hfl
  |none=>rw[hr.find_none hat];exact h2 hat
 rw[findBy_of_findIdx?] at hq
 cases hi:es.findIdx? fun e=>e.key.isStr k with
 |none=>rw[hi] at hq;exact Km hq
 |some i=>rw[hi] at hq;exact Kb (wpAny_dictEntries (s:={s with toks:=s.toks+1}) ho hd (Km hq))
theorem qw:MeetsIn prog w (Builtin.«dict.get» ⟨[.ref a,.str k tk],[]⟩) (fun _ R s=>(ly K a D/\K.In s.heap)/\(∀ d v,KTD.datumAt k D=some d->A2 K d v->R (.ok (.ret v)) {s with toks:=s.toks+1})/\(KTD.datumAt k D=none->R (.ok (.ret .none)) {s with toks:=s.toks+1})):=
 .of_wp fun A R s ⟨T,h1,h2⟩=>by
  show wpAny _ _ (dictGet a (.str k tk) >>= _) _ _ s;refine Kb (pJ T.1 T.2 (fun d v ha hv=>Km ⟨v,rfl,h1 d v ha hv⟩) fun hn=>?_);show wpAny _ _ (Builtin.Dict.missed a (.str k tk) >>= _) _ _ _;exact Kb (wpAny_missed_other T.1.low (Km ⟨.none,rfl,h2 hn⟩))
end
noncomputable def Fh(K:Nv)(D:List (Str×List Str))(te:TE):TE:=fun σ H Q=>te σ H fun y H1=>∃ k,y=.str k/\(∀ ws p,KTD.datumAt k D=some ws->yE K p (ws.map V.str)->Q (.ref p) H1)/\(KTD.datumAt k D=none->Q .aE H1)
theorem AD{o:Expr}{te:TE}{apos cpos:Pos}{d:Addr}{D:List (Str×List Str)}(ho:PE X o (tC (.ref d)))(hD:ly X.K d D)(he:PE X e te)(m:M1 X o "get" apos e cpos):PE X (.Call (.Attribute o "get" apos) [e] [] cpos) (Fh X.K D te):=by
 intro pins s σ H Q I h;refine wpAny_Call_method m.base m.JQ m.line PySem.F.plainAttrs_dict PySem.F.slot_dict_get PySem.F.type_dict_get (bM (ho pins s σ H (fun v H'=>v=.ref d/\H'=H) I ⟨rfl,rfl⟩) fun u s1 hq1=>?_);obtain⟨x,H1,I1,rx,ex,eh⟩:=hq1;subst ex eh;obtain rfl:u=Value.ref d:=rx;refine⟨hD.typeIs I1.gW,fun b q=>?_,?_⟩
 ·cases q;obtain⟨ob,_,_,h1,h2,_⟩:=hD.ex;exact⟨ob,I1.gW _ _ h1,h2.2.1⟩
 rw[m.trees];refine Nc rfl (Calls.evalArgs_plain (Calls.spliced_cons (bM (he pins s1 σ H1 _ I1 h) fun iv s2 ⟨y,H2,I2,ry,k,ek,q1,q2⟩=>Calls.spliced_nil ?_)));subst ek;obtain⟨t,rfl⟩:=ry;refine call_meetsIn PySem.F.slot_dict_get (hD.typeIs I2.gW) PySem.F.entry_dict_get (PySem.F.args_dict_get_2 _ _) (qw (D:=D)) ⟨⟨hD,I2.gW⟩,fun ws v e r=>?_,fun e=>?_⟩
 ·obtain⟨p,rfl,r⟩:=r;exact⟨.ref p,H2,I2.tok _,rfl,q1 ws p e r⟩
 ·exact⟨.aE,H2,I2.tok _,rfl,q2 e⟩
namespace Y
noncomputable def rS(D:List (Str×List Str))(ue:UE):UE:=fun μ Q=>ue μ fun r μ'=>match r with
 |.tr (.str k)=>(match KTD.datumAt k D with
  |some ws=>Q (.tr (.cT (ws.map T.str))) μ'
  |none=>Q (.tr .aE) μ')
 |_=>False
theorem IQ{ue:UE}{x:Str}{apos:Pos}{D:List (Str×List Str)}(K:Nv)(hK:X.K=K)(hg:Gl X x)(hd:∃ d,X.mg x=some (.ref d)/\ly K d D)(he:YE X e ue)(h1:autoParam (fo e=true) ℜ0)
  (hbase:autoParam (attributeBase (.Name x p) "get" X.env (eval (.Name x p) X.env)=eval (.Name x p) X.env) ℜ0) (hline:autoParam ((apos.endLine == pos.line)=true) ℜ0) (hs:autoParam (starEach [e] X.env=(false,eval e X.env)::starEach [] X.env) ℜ0) (hdb:autoParam ((x ==("__debug__":Str))=false) ℜ1) :
  YE X (.Call (.Attribute (.Name x p) "get" apos) [e] [] pos) (rS D ue):=by
 obtain⟨t,q,r⟩:=he;obtain⟨d,hm,hd⟩:=hd;subst hK;refine⟨_,⟨AD (nq hg hm rfl hdb) hd q.h ⟨hbase,by rw[hs];rfl,hline,by rw[hs];rfl⟩⟩,fun F ad B σ H μ Q Qt hF l q k=>r F ad B σ H μ _ _ hF l q fun v H' r1 μ' v1 f k1 q1=>?_⟩
 split at q1
 ·rename_i z;obtain⟨l1,rp⟩:=v1;obtain rfl:=Rep.dm rp;refine⟨z,rfl,fun ws p e kt=>?_,fun e=>?_⟩
  ·rw[e] at q1;exact k _ H' (.tr (.cT (ws.map T.str))) μ' ⟨l1,.cT (by rw[hF];exact kt) (gw ws)⟩ f.d k1 q1
  ·rw[e] at q1;exact k _ H' (.tr .aE) μ' (Vr.flat l1 .aE) f.d k1 q1
 ·exact q1.elim
end Y
namespace A
theorem rS(D:List (Str×List Str))(ue:UE)(μ:Mu)(Q:R->Mu->Prop):Y.rS D ue μ Q=ue μ fun r μ'=>match r with
 |.tr (.str k)=>(match KTD.datumAt k D with
  |some ws=>Q (.tr (.cT (ws.map T.str))) μ'
  |none=>Q (.tr .aE) μ')
 |_=>False:=rfl
end A
namespace Y
theorem lJ:∀(more kvs:List (Key×V)),((kvs++more).map (·.1)).Nodup->fY kvs more=kvs++more
 |[],kvs,_=>by rw[KN];rfl
 |p::r,kvs,h=>by
  have hn:hG kvs p.1=none:=by
   cases hv:hG kvs p.1 with
   |none=>rfl
   |some v =>
    have hm:=zz hv;rw[Kx,Kt] at h;have:=List.nodup_append.mp h;exact absurd rfl (this.2.2 _ hm _ Ky)
  show fY (putK kvs p.1 p.2) r=_;rw[y3 p.2 hn,lJ r _ (by rw[LS];exact h),LS]
  rfl
end Y
open Builtin Builtin.Str
open PySem PySem.Spec PyProof PyProof.Rows
variable{X:Cx}{pos:Pos}{a b:Option T}{Q:Value->Shared->Prop}{K:Nv}{name:Str}{tk:Tok}
inductive Ou where
 |no
 |ok (r:R)
 |ck (c:Prop) (r:R)
noncomputable def oB(o:Ou)(Q:R->Prop):Prop:=match o with
 |.no=>False
 |.ok r=>Q r
 |.ck c r=>c/\Q r
noncomputable def wG(o:Option Sl)(i:Nat):Ou:=match o with
 |some (.tr t)=>.ok (.tr t)
 |some (.bx _)=>.ok (.br i)
 |some (.pb _)=>.ok (.br i)
 |_=>.no
noncomputable def vo(a b:Option T):Ou:=match a,b with
 |some (.int i),some (.int j)=>.ok (.tr (.int (i+j)))
 |some (.str i),some (.str j)=>.ck (i.length+j.length<=sizeLine) (.tr (.str (i++j)))
 |some (.lst xs),some (.lst ys)=>.ck (xs.length+ys.length<=sizeLine) (.fr (.lst (xs++ys)))
 |some (.tup xs),some (.tup ys)=>.ck (xs.length+ys.length<=sizeLine) (.tr (.tup (xs++ys)))
 |_,_=>.no
noncomputable def oQ(o:Option T):Ou:=match o with
 |some t=>.ok (.tr t)
 |none=>.no
noncomputable def EN(a b:Option T):Ou:=match a,b with
 |some (.lst xs),some (.int i)=>oQ (c_ xs i)
 |some (.tup xs),some (.int i)=>oQ (c_ xs i)
 |some (.cT xs),some (.int i)=>oQ (c_ xs i)
 |some (.str z),some (.int i)=>(match c_ z.cps.toList i with|some c=>.ck (z.length<=sizeLine) (.tr (.str ⟨#[c]⟩))|none=>.no)
 |_,_=>.no
noncomputable def qY(a:T):Ou:=match a with
 |.lst xs=>.ok (.tr (.int xs.length))
 |.tup xs=>.ok (.tr (.int xs.length))
 |.gp xs=>.ok (.tr (.int xs.length))
 |.cT xs=>.ok (.tr (.int xs.length))
 |.str z=>.ck (z.length<=sizeLine) (.tr (.int z.length))
 |_=>.no
noncomputable def E6(a:Option T)(lo hi:Option Int):Ou:=match a with
 |some (.lst xs)=>.ok (.fr (.lst (Y.bS xs lo hi)))
 |some (.gp xs)=>.ok (.fr (.lst (Y.bS xs lo hi)))
 |some (.tup xs)=>.ok (.tr (.tup (Y.bS xs lo hi)))
 |some (.str z)=>.ck (z.length<=sizeLine) (.tr (.str (Y.lA z lo hi)))
 |_=>.no
theorem Er(p:Prop):(True/\p)=p:=propext ⟨fun h=>h.2,fun h=>⟨trivial,h⟩⟩
theorem JU(a:Option T)(lo hi:Option Int)(Q:R->Prop):Hl (Y.CT a lo hi) Q=oB (E6 a lo hi) Q:=by
 cases a with
 |none=>rfl
 |some a=>cases a<;>first|rfl|exact Er _
namespace Y
noncomputable def v9(i:Nat):UE:=fun μ Q=>oB (wG μ[i]? i) fun r=>Q r μ
noncomputable def kQ:U2:=fun r1 r2 μ Q=>oB (vo (cont μ r1) (cont μ r2)) fun r=>Q r μ
noncomputable def HD:U2:=fun r1 r2 μ Q=>oB (EN (cont μ r1) (cont μ r2)) fun r=>Q r μ
noncomputable def BL(t:T)(μ:Mu)(Q:R->Mu->Prop):Prop:=oB (qY t) fun r=>Q r μ
noncomputable def zG(ue:UE)(ul uh:UO):UE:=fun μ Q=>ue μ fun r μ1=>ul μ1 fun lo μ2=>uh μ2 fun hi μ3=>oB (E6 (cont μ3 r.d) lo hi) fun r=>Q r μ3
noncomputable def y6(ue:UE):UI:=fun μ Rt=>ue μ fun r μ'=>Hi (Ce r μ') fun ts g=>Rt ts g μ'
noncomputable def IF(n:Nat)(gs:rD):UG:=fun r μ Q=>match wm (cont μ r.d) with|some ts=>ts.length=n/\gs ts μ Q|none=>False
noncomputable def vy(ue:UE):UT:=fun μ Q=>ue μ fun r μ'=>match wc r with|some b=>Q b μ'|none=>False
theorem JP(ue:UE)(ul uh:UO):CH ue ul uh=zG ue ul uh:=funext fun μ=>funext fun Q=>by
 unfold CH zG;congr 1;funext r μ1;congr 1;funext lo μ2;congr 1;funext hi μ3;exact JU _ _ _ _
theorem JV(ue:UE):BD ue=y6 ue:=funext fun μ=>funext fun Rt=>A.BD ue μ Rt
theorem eT(n:Nat)(gs:rD):gT n gs=IF n gs:=funext fun r=>funext fun μ=>funext fun Q=>A.gT n gs r μ Q
theorem Jd(ue:UE):oN ue=vy ue:=funext fun μ=>funext fun Q=>A.oN ue μ Q
theorem vS{x:Str}(i:Nat)(hN:autoParam (X.N[i]?=some x) ℜ0)(hv:autoParam (ED X.env.scope x) ℜ4)(hd:autoParam ((x ==("__debug__":Str))=false) ℜ1)
  (hcd:autoParam ((x ==("__classdict__":Str))=false) ℜ1):YE X (.Name x pos) (v9 i):=by
 refine⟨_,Z.v i hN hv hd hcd,fun F ad B σ H μ Q Qt hK l q k=>?_⟩;unfold v9 at q
 cases e:μ[i]? with
 |none=>rw[e] at q;exact (show False from q).elim
 |some z =>
  rw[e] at q
  cases z with
  |un=>exact (show False from q).elim
  |tr t =>
   obtain⟨v,e1,r⟩:=l.slot i _ e;exact⟨v,e1,k v H (.tr t) μ ⟨l,r⟩ Fr.refl (Kp.refl μ) q⟩
  |bx t=>exact⟨_,(l.slot i _ e).1,k _ H (.br i) μ ⟨l,rfl,_,_,e,rfl⟩ Fr.refl (Kp.refl μ) q⟩
  |pb t=>exact⟨_,(l.slot i _ e).1,k _ H (.br i) μ ⟨l,rfl,_,_,e,rfl⟩ Fr.refl (Kp.refl μ) q⟩
theorem A1{Q:R->Prop}(h:oB (vo a b) Q):(∃ i j,a=some (.int i)/\b=some (.int j)/\Q (.tr (.int (i+j))))\/(∃ i j,a=some (.str i)/\b=some (.str j)/\i.length+j.length<=sizeLine/\Q (.tr (.str (i++j)))) \/
  (∃ xs ys,a=some (.lst xs)/\b=some (.lst ys)/\xs.length+ys.length<=sizeLine/\Q (.fr (.lst (xs++ys))))\/∃ xs ys,a=some (.tup xs)/\b=some (.tup ys)/\xs.length+ys.length<=sizeLine/\Q (.tr (.tup (xs++ys))):=by
 cases a with
 |none=>exact (show False from h).elim
 |some a =>
  cases b with
  |none=>cases a<;>exact (show False from h).elim
  |some b =>
   cases a with
   |int i=>cases b<;>first|exact (show False from h).elim|exact .inl ⟨_,_,rfl,rfl,h⟩
   |str i=>cases b<;>first|exact (show False from h).elim|exact .inr (.inl ⟨_,_,rfl,rfl,h⟩)
   |lst i=>cases b<;>first|exact (show False from h).elim|exact .inr (.inr (.inl ⟨_,_,rfl,rfl,h⟩))
   |tup i=>cases b<;>first|exact (show False from h).elim|exact .inr (.inr (.inr ⟨_,_,rfl,rfl,h⟩))
   |_=>exact (show False from h).elim
theorem bq:lI K (Bn K) kQ:=by
 intro F ad B σ H μ Q Qt x y r1 r2 hK l h1 h2 q k;subst hK;rcases A1 q with ⟨i,j,e1,e2,q⟩|⟨i,j,e1,e2,q0,q⟩|⟨xs,ys,e1,e2,q0,q⟩|⟨xs,ys,e1,e2,q0,q⟩
 ·obtain rfl:=Vw.bT (h1.vw l e1);obtain rfl:=Vw.bT (h2.vw l e2);exact .inl ⟨_,_,rfl,rfl,k _ H _ μ (Vr.flat l (.int _)) Fr.refl (Kp.refl μ) q⟩
 ·obtain rfl:=Vw.dm (h1.vw l e1);obtain rfl:=Vw.dm (h2.vw l e2);exact .inr (.inl ⟨_,_,rfl,rfl,q0,k _ H _ μ (Vr.flat l (.str _)) Fr.refl (Kp.refl μ) q⟩)
 ·obtain⟨_,_,rfl,ha,ra⟩:=Vw.e8 (h1.vw l e1);obtain⟨_,_,rfl,hb,rb⟩:=Vw.e8 (h2.vw l e2);exact .inr (.inr (.inl ⟨_,_,_,_,rfl,rfl,ha,hb,by rw[ra.length,rb.length];exact q0,fun p hp=>k _ _ _ μ (Vr.uy l (ra.append rb) hp) (Fr.more hp) (Kp.refl μ) q⟩))
 ·have a:=Hv.nZ l h1 e1;have b:=Hv.nZ l h2 e2;have a':=a;have b':=b;obtain⟨_,_,rfl,na,ha,ra⟩:=Rep.tupI a;obtain⟨_,_,rfl,nb,hb,rb⟩:=Rep.tupI b;refine .inr (.inr (.inr ⟨_,_,_,_,rfl,rfl,bO.of ha,bO.of hb,by rw[ra.length,rb.length];exact q0,fun z=>?_,fun z1 z2=>?_,fun z1 z2 p hp=>k _ _ _ μ (Vr.tU l (ra.append rb) hp) (Fr.same (cQ.new hp)) (Kp.refl μ) q⟩))
  ·subst z;have e:xs=[]:=Mf.mp ra.length.symm;subst e;exact k _ H _ μ (Vr.flat l b') Fr.refl (Kp.refl μ) q
  ·subst z2;have e:ys=[]:=Mf.mp rb.length.symm;subst e;rw[KN] at q;exact k _ H _ μ (Vr.flat l a') Fr.refl (Kp.refl μ) q
theorem x8{o:Option T}{Q:R->Prop}(h:oB (oQ o) Q):∃ t,o=some t/\Q (.tr t):=by
 cases o with
 |none=>exact (show False from h).elim
 |some t=>exact⟨t,rfl,h⟩
theorem DB{Q:R->Prop}(h:oB (EN a b) Q):(∃ xs i t,a=some (.lst xs)/\b=some (.int i)/\c_ xs i=some t/\Q (.tr t))\/(∃ xs i t,(a=some (.tup xs)\/a=some (.cT xs))/\b=some (.int i)/\c_ xs i=some t/\Q (.tr t)) \/
  ∃ z i c,a=some (.str z)/\b=some (.int i)/\z.length<=sizeLine/\c_ z.cps.toList i=some c/\Q (.tr (.str ⟨#[c]⟩)):=by
 cases a with
 |none=>exact (show False from h).elim
 |some a =>
  cases b with
  |none=>cases a<;>exact (show False from h).elim
  |some b =>
   cases a with
   |lst xs=>cases b<;>first|exact (show False from h).elim | (obtain⟨t,e,q⟩:=x8 h;exact .inl ⟨_,_,t,rfl,rfl,e,q⟩)
   |tup xs=>cases b<;>first|exact (show False from h).elim | (obtain⟨t,e,q⟩:=x8 h;exact .inr (.inl ⟨_,_,t,.inl rfl,rfl,e,q⟩))
   |cT xs=>cases b<;>first|exact (show False from h).elim | (obtain⟨t,e,q⟩:=x8 h;exact .inr (.inl ⟨_,_,t,.inr rfl,rfl,e,q⟩))
   |str z =>
    cases b with
    |int i =>
     cases c:c_ z.cps.toList i with
     |none =>
      have h':oB (match c_ z.cps.toList i with|some c=>.ck (z.length<=sizeLine) (.tr (.str ⟨#[c]⟩))|none=>.no) Q:=h
      rw[c] at h';exact (show False from h').elim
     |some c' =>
      have h':oB (match c_ z.cps.toList i with|some c=>.ck (z.length<=sizeLine) (.tr (.str ⟨#[c]⟩))|none=>.no) Q:=h
      rw[c] at h';exact .inr (.inr ⟨_,_,c',rfl,rfl,h'.1,c,h'.2⟩)
    |_=>exact (show False from h).elim
   |_=>exact (show False from h).elim
theorem bz:lI K (Ij K) HD:=by
 intro F ad B σ H μ Q Qt x y r1 r2 hK l h1 h2 q k;subst hK;rcases DB q with ⟨xs,i,t,e1,e2,e3,q⟩|⟨xs,i,t,e1,e2,e3,q⟩|⟨z,i,c,e1,e2,q0,e3,q⟩
 ·obtain rfl:=Vw.bT (h2.vw l e2);obtain⟨_,_,rfl,ha,ra⟩:=Vw.e8 (h1.vw l e1);obtain⟨v,e4,rv⟩:=ra.c_ e3;exact .inl ⟨_,_,_,v,rfl,rfl,bA.of ha,e4,k _ H _ μ (Vr.flat l rv) Fr.refl (Kp.refl μ) q⟩
 ·obtain rfl:=Vw.bT (h2.vw l e2);have hh:∃ a vs,x=.ref a/\bO F.K H a vs/\av F.K H B vs xs:=by
   rcases e1 with e1|e1
   ·obtain⟨a,vs,e,ha,ra⟩:=Vw.tupI (h1.vw l e1);exact⟨a,vs,e,bO.of ha,ra⟩
   ·obtain⟨a,vs,e,ha,ra⟩:=Vw.uT (h1.vw l e1);exact⟨a,vs,e,.inr ha,ra⟩
  obtain⟨a,vs,rfl,ha,ra⟩:=hh;obtain⟨v,e4,rv⟩:=ra.c_ e3;exact .inr (.inl ⟨_,_,_,v,rfl,rfl,ha,e4,k _ H _ μ (Vr.flat l rv) Fr.refl (Kp.refl μ) q⟩)
 ·obtain rfl:=Vw.bT (h2.vw l e2);obtain rfl:=Vw.dm (h1.vw l e1);exact .inr (.inr ⟨_,_,_,rfl,rfl,q0,e3,k _ H _ μ (Vr.flat l (.str _)) Fr.refl (Kp.refl μ) q⟩)
theorem eQ:RC K (ye K) (Br BL):=rq fun F ad B σ H μ Q Qt x t hK l v1 q k=>by
 subst hK;have go:∀(a:Addr) (vs:List V) (xs:List T),x=.ref a->(bA F.K H a vs\/bO F.K H a vs)->av F.K H B vs xs->Qt (.tr (.int xs.length)) μ->ye F.K [x] H Q:=fun a vs xs e ha ra q=>by
  subst e;exact .inl ⟨_,_,rfl,ha,by rw[ra.length];exact k _ H _ (Vr.flat l (.int _)) Fr.refl q⟩
 cases t with
 |lst xs=>obtain⟨a,vs,e,ha,ra⟩:=Vw.e8 v1;exact go a vs xs e (.inl (bA.of ha)) ra q
 |tup xs=>obtain⟨a,vs,e,ha,ra⟩:=Vw.tupI v1;exact go a vs xs e (.inr (bO.of ha)) ra q
 |gp xs=>obtain⟨a,vs,e,ha,ra⟩:=Vw.vH v1;exact go a vs xs e (.inl ha) ra q
 |cT xs=>obtain⟨a,vs,e,ha,ra⟩:=Vw.uT v1;exact go a vs xs e (.inr (.inr ha)) ra q
 |str z =>
  obtain rfl:=Vw.dm v1;have q':_/\_:=q;exact .inr ⟨_,rfl,q'.1,k _ H _ (Vr.flat l (.int _)) Fr.refl q'.2⟩
 |_=>exact (show False from q).elim
theorem dU{e:Expr}{ue:UE}{p2:Pos}{lo hi:Option Expr}{ul uh:UO}(K:Nv)(hK:X.K=K)(he:YE X e ue)(hl:YO X lo ul)(hu:YO X hi uh):YE X (.Subscript e (.Slice lo hi none p2) pos) (zG ue ul uh):=JP ue ul uh ▸ Cs K hK he hl hu
theorem anyS{tg e:Expr}{ue:UE}(K:Nv)(hK:X.K=K)(he:YE X e ue):YI X tg e (y6 ue):=JV ue ▸ any K hK he
theorem HA{es:List Expr}(K:Nv)(hK:X.K=K){k n:Nat}{gs:rD}(hc:X.calm=true)(h:EX X es gs)(hn:autoParam ((assignEach es X.env).length=n) ℜ0)(hst:autoParam ((assignEach es X.env).findIdx? (·.1)=none) ℜ0):YG X (.Tuple es k pos) (IF n gs):=eT n gs ▸ xo K hK hc h hn hst
theorem sZ{a:Expr}{ua:UE}(K:Nv)(hK:X.K=K)(ha:YE X a ua)(he:autoParam (Z.HU a=true) ℜ0):YT X a (vy ua):=Jd ua ▸ wU K hK ha he
end Y
namespace A3
theorem AU(t:T):oQ (some t)=.ok (.tr t):=rfl
theorem Jm(i:Nat)(μ:Mu)(Q:R->Mu->Prop):Y.v9 i μ Q=oB (wG μ[i]? i) fun r=>Q r μ:=rfl
theorem iA(r1 r2:R)(μ:Mu)(Q:R->Mu->Prop):Y.kQ r1 r2 μ Q=oB (vo (cont μ r1) (cont μ r2)) fun r=>Q r μ:=rfl
theorem EJ(r1 r2:R)(μ:Mu)(Q:R->Mu->Prop):Y.HD r1 r2 μ Q=oB (EN (cont μ r1) (cont μ r2)) fun r=>Q r μ:=rfl
theorem Ii(t:T)(μ:Mu)(Q:R->Mu->Prop):Y.BL t μ Q=oB (qY t) fun r=>Q r μ:=rfl
theorem Ck(ue:UE)(ul uh:UO)(μ:Mu)(Q:R->Mu->Prop):Y.zG ue ul uh μ Q=ue μ fun r μ1=>ul μ1 fun lo μ2=>uh μ2 fun hi μ3=>oB (E6 (cont μ3 r.d) lo hi) fun r=>Q r μ3:=rfl
theorem BD(ue:UE)(μ:Mu)(Rt:List T->Option (Nat×List T)->Mu->Prop):Y.y6 ue μ Rt=ue μ fun r μ'=>Hi (Ce r μ') fun ts g=>Rt ts g μ':=rfl
theorem gT(n:Nat)(gs:rD)(r:R)(μ:Mu)(Q:Mu->Prop):Y.IF n gs r μ Q=(match wm (cont μ r.d) with|some ts=>ts.length=n/\gs ts μ Q|none=>False):=rfl
theorem oN(ue:UE)(μ:Mu)(Q:Bool->Mu->Prop):Y.vy ue μ Q=ue μ fun r μ'=>match wc r with|some b=>Q b μ'|none=>False:=rfl
theorem I0(t:T)(i:Nat):wG (some (.tr t)) i=.ok (.tr t):=rfl
theorem Ir(t:T)(i:Nat):wG (some (.bx t)) i=.ok (.br i):=rfl
theorem Je(t:T)(i:Nat):wG (some (.pb t)) i=.ok (.br i):=rfl
theorem Gm(i j:Int):vo (some (.int i)) (some (.int j))=.ok (.tr (.int (i+j))):=rfl
theorem add_l(xs ys:List T):vo (some (.lst xs)) (some (.lst ys))=.ck (xs.length+ys.length<=sizeLine) (.fr (.lst (xs++ys))):=rfl
theorem EZ(xs ys:List T):vo (some (.tup xs)) (some (.tup ys))=.ck (xs.length+ys.length<=sizeLine) (.tr (.tup (xs++ys))):=rfl
theorem IV(xs:List T)(i:Int):EN (some (.lst xs)) (some (.int i))=oQ (c_ xs i):=rfl
theorem Jc(xs:List T)(i:Int):EN (some (.tup xs)) (some (.int i))=oQ (c_ xs i):=rfl
theorem IT(z:Str)(i:Int):EN (some (.str z)) (some (.int i))=(match c_ z.cps.toList i with|some c=>.ck (z.length<=sizeLine) (.tr (.str ⟨#[c]⟩))|none=>.no):=rfl
theorem EY(xs:List T):qY (.lst xs)=.ok (.tr (.int xs.length)):=rfl
theorem HH(xs:List T):qY (.tup xs)=.ok (.tr (.int xs.length)):=rfl
theorem Gh(xs:List T):qY (.gp xs)=.ok (.tr (.int xs.length)):=rfl
theorem Fm(xs:List T):qY (.cT xs)=.ok (.tr (.int xs.length)):=rfl
theorem Hr(z:Str):qY (.str z)=.ck (z.length<=sizeLine) (.tr (.int z.length)):=rfl
theorem IM(xs:List T)(lo hi:Option Int):E6 (some (.lst xs)) lo hi=.ok (.fr (.lst (Y.bS xs lo hi))):=rfl
theorem IJ(xs:List T)(lo hi:Option Int):E6 (some (.gp xs)) lo hi=.ok (.fr (.lst (Y.bS xs lo hi))):=rfl
theorem IS(xs:List T)(lo hi:Option Int):E6 (some (.tup xs)) lo hi=.ok (.tr (.tup (Y.bS xs lo hi))):=rfl
theorem Jo(z:Str)(lo hi:Option Int):E6 (some (.str z)) lo hi=.ck (z.length<=sizeLine) (.tr (.str (Y.lA z lo hi))):=rfl
end A3
open Builtin Builtin.Str
section
variable {prog:Program} {w:World} {A:Around} {E:Value->Shared->Prop} {h:Heap} {g:Array GenState} {d:Drawn} {t:Nat} {os:OsState} {a:Addr} {items:Array Value} {cn:Nat}
theorem yM:typeLookup (.type "list") "keys"=pure none:=am_miss_of_fast (by kernel_rfl)
theorem qd:typeLookup (.type "list") "__getattr__"=pure none:=by rw[typeLookup_type,builtinLookup_eq_fast];kernel_rfl
theorem xG{Q:Fin->Shared->Prop}(hx:h.get? a=some {cls:=.type "list",dict:=none,data:=.seq items cn,slots:=#[]})(hmiss:typeLookup (.type "list") name=pure none)(hnc:(["__module__","__name__","__qualname__","__doc__","__annotations__"]:List Str).contains name=false)(hh:A.handled=none)
  (hq:∀ h' tk' e,Heap.NewAttrErr h h' e (.ref a) name->E (.ref e) ⟨h',g,d,tk',os⟩) (hsz:name.length+100<=sizeLine:=by size_fits) :
  wpAny (model prog w) A (Builtin.«object.__getattribute__» ⟨[.ref a,.str name tk],[]⟩) Q E ⟨h,g,d,t,os⟩:=by
 have hT:(⟨h,g,d,t,os⟩:Shared).TypeIs (.ref a) "list":=⟨_,hx,rfl⟩;unfold Builtin.«object.__getattribute__»
 repeat (any_goals (first|assumption|wp_step))
 rw[Kf (by rw[hnc];decide)]
 repeat (any_goals (first|assumption|wp_step))
 exact wpAny_raiseAttrError hh hq (attrMsg_fits (by decide +kernel) hsz)
theorem Bb{R:Result->Shared->Prop}(hx:h.get? a=some {cls:=.type "list",dict:=none,data:=.seq items cn,slots:=#[]})(hmiss:typeLookup (.type "list") name=pure none)(hnc:(["__module__","__name__","__qualname__","__doc__","__annotations__"]:List Str).contains name=false)(hh:A.handled=none)
  (hq:∀ h' tk' e,Heap.NewAttrErr h h' e (.ref a) name->R (.error (.ref e)) ⟨h',g,d,tk',os⟩) (hsz:name.length+100<=sizeLine:=by size_fits) :
  codeAny (model prog w) A (.call (.builtin "list.__getattribute__") ⟨[.ref a,.str name tk],[]⟩) R ⟨h,g,d,t,os⟩:=
 codeAny_call_builtin LG.plain F.entry_list_ga (LG.check _ _ _ _ _ _ _ _ (show (⟨h,g,d,t,os⟩:Shared).TypeIs (.ref a) "list" from⟨_,hx,rfl⟩) (F.args_list_getattribute_2 _ _) (xG hx hmiss hnc hh hq hsz))
theorem Fv(hx:h.get? a=some {cls:=.type "list",dict:=none,data:=.seq items cn,slots:=#[]})(hmiss:typeLookup (.type "list") name=pure none)(hnc:(["__module__","__name__","__qualname__","__doc__","__annotations__"]:List Str).contains name=false)(hh:A.handled=none)
  (hq:∀ h' tk' e,Heap.NewAttrErr h h' e (.ref a) name->E (.ref e) ⟨h',g,d,tk',os⟩) (hsz:name.length+100<=sizeLine:=by size_fits) :
  wpAny (model prog w) A (getAttrBy (.ref a) (.str name tk) false) Q E ⟨h,g,d,t,os⟩:=by
 have hT:(⟨h,g,d,t,os⟩:Shared).TypeIs (.ref a) "list":=⟨_,hx,rfl⟩;have f1:=sub_AttributeError;have f2:=LG.lookup;have f3:=LG.bind (.ref a);have f5:=qd
 repeat (any_goals (first|assumption|wp_step))
 refine Bb hx hmiss hnc hh (fun h' tk' e x=>?_) hsz;obtain⟨t',u',he⟩:=x.there;show wpAny _ _ (getattributeRaised _ _ _ _ _ _ _) _ _ _;unfold getattributeRaised
 repeat (any_goals (first|assumption|wp_step))
 exact hq _ _ _ x
theorem yX{Q:Option Value->Shared->Prop}(hx:h.get? a=some {cls:=.type "list",dict:=none,data:=.seq items cn,slots:=#[]})(hmiss:typeLookup (.type "list") name=pure none)(hnc:(["__module__","__name__","__qualname__","__doc__","__annotations__"]:List Str).contains name=false)(hh:A.handled=none)
  (hq:∀ h' tk',(∀ b o,h.get? b=some o->h'.get? b=some o)->Q none ⟨h',g,d,tk',os⟩) (hsz:name.length+100<=sizeLine:=by size_fits) :
  wpAny (model prog w) A (getAttr? (.ref a) name) Q E ⟨h,g,d,t,os⟩:=by
 have f1:=sub_AttributeError;unfold getAttr? getAttrBy?;refine Kb (wpAny_mkText (Kb (Np (Fv hx hmiss hnc hh (fun h' tk' e x=>?_) hsz))));obtain⟨t',u',he⟩:=x.there;have k:=x.keeps
 repeat (any_goals (first|assumption|wp_step))
 exact hq _ _ x.keeps
end
section
variable {prog:Program} {w:World} {K:Type} [DecidableEq K] {knd:KeyKind prog w K} {A:Around} {R:Result->Shared->Prop}
theorem i6:plainId "dict.update.loop"=true:=by decide +kernel
theorem gF:entryFor table "dict.update.loop"=some Builtin.«dict.update.loop»:=entryFor_of_fast (by kernel_rfl)
theorem pO(kvs:List (K×Value))(k:K)(v:Value):(stored kvs k v).length<=kvs.length+1:=by
 unfold stored;split
 ·rw[Kc];lia
 ·rw[Kv];simp
theorem kR:∀(more kvs:List (K×Value)),(merged kvs more).length<=kvs.length+more.length
 |[],kvs=>by unfold merged;simp
 |p::more,kvs=>by
  have h1:=kR more (stored kvs p.1 p.2);have h2:=pO kvs p.1 p.2;have e:merged kvs (p::more)=merged (stored kvs p.1 p.2) more:=rfl;rw[e,Ks];lia
theorem Am{it l dd:Addr}{items:Array Value}{more:List (K×Value)}(hh:A.handled=none)(hn:more.length=items.size)(h1:dd≠it)(h2:dd≠l)(h3:it≠l)(ps:Nat->Addr)(hps:∀ i,i<items.size->items[i]?=some (.ref (ps i))/\ps i≠it/\ps i≠dd)(hsz:more.length<=20000):
  ∀(k i:Nat) (s:Shared),items.size-i=k->i<=items.size->s.heap.IsListIter it l i->s.heap.IsList l items->s.heap.DictOf knd dd (merged [] (more.take i)) ->
  (∀ j,j<items.size->∃ key v,s.heap.IsTuple (ps j) #[key,v]/\∃ kk,more[j]?=some (kk,v)/\knd.is kk key=true) ->
  (∀ h' tk,h'.DictOf knd dd (merged [] more)->(∀ b o,b≠it->b≠dd->s.heap.get? b=some o->h'.get? b=some o)->R (.ok (.ret .none)) {s with heap:=h',toks:=tk}) ->
  codeAny (model prog w) A (.builtin "dict.update.loop" ⟨[.ref dd,.ref it,rawInt i,.none],[]⟩) R s:=by
 intro k
 induction k with
 |zero =>
  intro i s hk hi hit hl hd hp hR;have hin:i=items.size:=by lia
  subst hin;refine codeAny_builtin gF ?_;rw[Around.under_plainId i6 _];show wpAny _ A.in1 (pyNext (.ref it) >>= _) _ _ s;refine Kb (Mo hh hit hl (by simp) fun h' he=>?_)
  refine Kb (Km (Km ?_));refine hR h' s.toks ?_ fun b o b1 b2 e=>he b o b1 e;rw[K8 (by lia)] at hd
  exact hd.extBut he h1
 |succ k ih =>
  intro i s hk hi hit hl hd hp hR;have hlt:i<items.size:=by lia
  refine codeAny_builtin gF ?_;rw[Around.under_plainId i6 _];show wpAny _ A.in1 (pyNext (.ref it) >>= _) _ _ s;obtain⟨e1,e2,e3⟩:=hps i hlt;refine Kb (Mj hit hl e1 fun h' hit' hs'=>?_);obtain⟨key,v,ht,kk,em,hkk⟩:=hp i hlt;have ht':h'.IsTuple (ps i) #[key,v]:=by obtain⟨o,ho,r⟩:=ht;exact⟨o,(hs'.2 _ e2).trans ho,r⟩
  have hd':h'.DictOf knd dd (merged [] (more.take i)):=by obtain⟨o,es,ep,ho,r⟩:=hd;exact⟨o,es,ep,(hs'.2 _ h1).trans ho,r⟩
  refine Kb (KL (Kb (wpAny_tryCatch ?_)));unfold Dict.pairItems;refine Kb (MQ ht'.typeIs ?_);rw[Kh (by decide)]
  obtain⟨o,ho,hoc,nn,hod⟩:=id ht';refine Kb (Lk ho hod (Km ?_));show wpAny _ A.in1 (holding [key,v] (dictSet dd key v)) _ _ _;refine KL (wpAny_dictSet_pairs hkk hd' (fun h2' hd2 hs2=>?_) ?_)
  rotate_left
  ·exact Kj (kR _ _) (Kj (by rw[Ld,Nat.zero_add,KD];exact Kj (Nat.min_le_right _ _) hsz) (by decide))
  have et:merged [] (more.take (i+1))=stored (merged [] (more.take i)) kk v:=by
   have hlt':i<more.length:=by lia
   have:more[i]=(kk,v):=by rw[Kd hlt'] at em;exact Option.some.inj em
   rw[LH hlt',this];unfold merged;rw[List.foldl_append];rfl
  refine Km ⟨plainId_quiet i6 _,?_⟩;have:=ih (i+1) {s with heap:=h2',toks:=s.toks+1} (by lia) hlt (by obtain⟨o,ho,r⟩:=hit';exact⟨o,(hs2.2 _ (Ne.symm h1)).trans ho,r⟩) (by obtain⟨o,ho,r⟩:=hl;exact⟨o,(hs2.2 _ (Ne.symm h2)).trans ((hs'.2 _ (Ne.symm h3)).trans ho),r⟩) (by rw[et];exact hd2) (fun j hj=>by
   obtain⟨key,v,⟨o,ho,r⟩,rr⟩:=hp j hj;obtain⟨f1,f2,f3⟩:=hps j hj;exact⟨key,v,⟨o,(hs2.2 _ f3).trans ((hs'.2 _ f2).trans ho),r⟩,rr⟩) (fun h3' tk hd3 hk3=>hR h3' tk hd3 fun b o b1 b2 e=>hk3 b o b1 b2 ((hs2.2 _ b2).trans ((hs'.2 _ b1).trans e)))
  exact this
theorem qQ{E:Value->Shared->Prop}{s:Shared}{l:Addr}{items:Array Value}{cn:Nat}{more:List (K×Value)}(hl:s.heap.get? l=some {cls:=.type "list",dict:=none,data:=.seq items cn,slots:=#[]})(hh:A.handled=none)(hn:more.length=items.size)(hsz:more.length<=20000)
  (ps:Nat->Addr) (hps:∀ i,i<items.size->items[i]?=some (.ref (ps i))) (hp:∀ j,j<items.size->∃ key v,s.heap.IsTuple (ps j) #[key,v]/\∃ kk,more[j]?=some (kk,v)/\knd.is kk key=true)
  (h:∀ h' tk,h'.DictOf knd s.heap.objs.size (merged [] more)->(∀ b o,s.heap.get? b=some o->h'.get? b=some o)->Q (.ref s.heap.objs.size) {s with heap:=h',toks:=tk}) :
  wpAny (model prog w) A (call (.type "dict") [.ref l]) Q E s:=by
 refine callType_codes (Q₁:=fun obj s₁=>obj=.ref s.heap.objs.size/\s₁={s with heap:=s.heap.push {cls:=.type "dict",data:=.dict #[]}}) F.kt_called_dict (F.kt_typeCall_dict_1 _) F.entry_dict_init (kt_code_dict_new _ ⟨rfl,rfl⟩) ?_
 rintro obj s₁ ⟨rfl,rfl⟩;have hnew:(s.heap.push {cls:=.type "dict",data:=.dict #[]}).DictOf knd s.heap.objs.size []:=Heap.DictOf.new s.heap;refine⟨hnew.typeIs,F.args_dict_init_2 _ _,?_⟩;unfold Builtin.«dict.__init__»;refine Kb ?_;unfold Builtin.Dict.selfAndRest;refine Kb (wpAny_notOrdered_dict hnew.typeIs ?_);show wpAny _ _ (pure (s.heap.objs.size,[Value.ref l])) _ _ _;refine Km ?_;show wpAny _ _ (Builtin.Dict.updateFrom "dict.__init__" s.heap.objs.size (.ref l) [] .none) _ _ _;unfold Builtin.Dict.updateFrom;have hl1:(s.heap.push {cls:=.type "dict",data:=.dict #[]}).get? l=some {cls:=.type "list",dict:=none,data:=.seq items cn,slots:=#[]}:=Ke _ hl;have hT:({s with heap:=s.heap.push {cls:=.type "dict",data:=.dict #[]}}:Shared).TypeIs (.ref l) "list":=⟨_,hl1,rfl⟩
 refine Kb (MQ hT ?_);rw[Kh (by decide)]
 refine Kb ?_;refine yX hl1 yM (by decide +kernel) hh (fun h1 tk1 k1=>?_)
 rw[Kh (show (none:Option Value).isNone=true from rfl)];have hl2:h1.IsList l items:=⟨_,k1 _ _ hl1,rfl,cn,rfl⟩;have up:∀ b o,s.heap.get? b=some o->h1.get? b=some o:=fun b o e=>k1 b o (Ke _ e);obtain⟨od,es,ep,hod,hor⟩:=hnew;have hdl:s.heap.objs.size<h1.objs.size:=Kl (k1 _ _ hod);have hll:l<s.heap.objs.size:=Kl hl;have hpl:∀ j,j<items.size->ps j<s.heap.objs.size:=fun j hj=>by obtain⟨key,v,⟨o,ho,_⟩,_⟩:=hp j hj;exact Kl ho
 refine Kb (MK (Kb (KY hl2 (Km ⟨plainId_quiet i6 _,?_⟩))));refine Am (knd:=knd) (it:=h1.objs.size) (l:=l) (items:=items) (more:=more) (A:=A.in1) hh hn (Kz hdl) (LA hll) (LA (Ma hll hdl)) ps (fun i hi=>⟨hps i hi,Kz (Ma (hpl i hi) hdl),Kz (hpl i hi)⟩) hsz _ 0 _ rfl (K7 _) ⟨_,Kq _ rfl,rfl,rfl⟩ ?_ ⟨od,es,ep,Ke _ (k1 _ _ hod),hor⟩ (fun j hj=>?_) (fun h' tk hd hk=>⟨rfl,h h' tk hd fun b o e=>hk b o ?_ ?_ (Ke _ (up b o e))⟩)
 ·obtain⟨o,ho,r⟩:=hl2;exact⟨o,Ke _ ho,r⟩
 ·obtain⟨key,v,⟨o,ho,r⟩,rr⟩:=hp j hj;exact⟨key,v,⟨o,Ke _ (up _ _ ho),r⟩,rr⟩
 ·exact Kz (Ma (Kl e) hdl)
 ·exact Kz (Kl e)
end
theorem mJ{α β:Type}{F:α->β->Prop}:∀{l₁:List α} {l₂:List β},l₁.length=l₂.length->(∀(j:Nat) a b,l₁[j]?=some a->l₂[j]?=some b->F a b)->Paired F l₁ l₂
 |[],[],_,_=>.nil
 |[],_::_,h,_=>by cases h
 |_::_,[],h,_=>by cases h
 |a::l₁,b::l₂,h,f=>.cons (f 0 a b rfl rfl) (mJ (Nat.succ.inj h) fun j x y hx hy=>f (j+1) x y (by simpa using hx) (by simpa using hy))
noncomputable def Au(K:Nv)(H:Hp)(vs:List V)(kvs:List (Key×V)):Prop:=vs.length=kvs.length/\∀(j:Nat) (k:Key) (x:V),kvs[j]?=some (k,x)->∃ p,vs[j]?=some (.ref p)/\H p=some (.tup [kV k,x])
noncomputable def Dk(K:Nv):List V->Hp->VK->Prop:=fun xs H Q=>∃ l vs kvs,xs=[.ref l]/\H l=some (.lst vs)/\Au K H vs kvs/\kvs.length<=20000/\∀ p,H p=none->Q (.ref p) (upd H p (.dK (fY [] kvs)))
theorem ou(K:Nv)(hc:X.calm=true):bp X (.type "dict") (Dk K):=by
 intro pins s σ H xs us Q I r h;obtain⟨l,vs,kvs,rfl,hl,hp,hk,q⟩:=h;obtain⟨u,rfl,e0⟩:=vals1 r;have e1:u=.ref l:=e0;subst e1;obtain⟨hlen,its,n,hv,hget⟩:=(show bC X.prog X.w H s.heap l (.lst vs) from I.aU l _ hl);have hsz:its.toArray.size=kvs.length:=by rw[<- hp.1,Kg,<- Paired.length hv]
 have key:∀ j,j<kvs.length->∃ p k x,kvs[j]?=some (k,x)/\its[j]?=some (.ref p)/\∃ ku xu,s.heap.IsTuple p #[ku,xu]/\iq k ku=true/\RelV x xu:=fun j hj=>by
  obtain⟨p,e1,e2⟩:=hp.2 j kvs[j].1 kvs[j].2 (Kd hj);obtain⟨u,e3,e4⟩:=Vals.get hv e1;have e5:u=.ref p:=e4;subst e5;obtain⟨_,ts,tv,hT⟩:=(show bC X.prog X.w H s.heap p (.tup [kV kvs[j].1,kvs[j].2]) from I.aU p _ e2);obtain⟨ku,xu,rfl,r1,r2⟩:=vals2 tv;exact⟨p,_,_,Kd hj,e3,ku,xu,hT.to,sF (P:=X.prog) (w:=X.w) r1,r2⟩
 obtain⟨f,hf⟩:=Classical.axiomOfChoice (r:=fun (j:Nat) (y:Addr×Value×Value)=>∀ hj:j<kvs.length,s.heap.IsTuple y.1 #[y.2.1,y.2.2]/\iq kvs[j].1 y.2.1=true/\RelV kvs[j].2 y.2.2/\its[j]?=some (.ref y.1)) (fun j=>by
  by_cases hj:j<kvs.length
  ·obtain⟨p,k,x,e1,e2,ku,xu,hT,h1,h2⟩:=key j hj;rw[Kd hj] at e1;have e1':kvs[j]=(k,x):=Option.some.inj e1;exact⟨(p,ku,xu),fun _=>⟨hT,by rw[e1'];exact h1,by rw[e1'];exact h2,e2⟩⟩
  ·exact⟨(0,.none,.none),fun h=>absurd h hj⟩)
 let mv:List (Key×Value):=(List.range kvs.length).map fun j=>((kvs[j]?.getD (.inl 0,.aE)).1,(f j).2.2)
 have hmv:mv.length=kvs.length:=by simp[mv]
 have hmj:∀ j (hj:j<kvs.length),mv[j]?=some (kvs[j].1,(f j).2.2):=fun j hj=>by
  simp only[mv,K2,Mz hj,Option.map_some,Kd hj,Option.getD_some]
 have at':∀ j (hj:j<kvs.length),∃ ku xu,s.heap.IsTuple (f j).1 #[ku,xu]/\iq kvs[j].1 ku=true/\RelV kvs[j].2 xu/\its[j]?=some (.ref (f j).1)/\mv[j]?=some (kvs[j].1,xu):=fun j hj=>by
  obtain⟨h1,h2,h3,h4⟩:=hf j hj;exact⟨_,_,h1,h2,h3,h4,hmj j hj⟩
 have hKV:KV kvs mv:=by
  refine mJ (by rw[hmv]) fun j a b ha hb=>?_
  have hj:j<kvs.length:=by
   rcases KU j kvs.length with c|c
   ·exact c
   ·rw[K0.mpr c] at ha;cases ha
  obtain⟨ku,xu,_,_,h2,_,h3⟩:=at' j hj;rw[Kd hj] at ha;cases ha;rw[h3] at hb;cases hb;exact⟨rfl,h2⟩
 refine qQ (knd:=bR X.prog X.w) hget (I.ok.hd hc) (by rw[hmv,hsz]) (by rw[hmv];exact hk) (fun j=>(f j).1) (fun i hi=>?_) (fun j hj=>?_) (fun h' tk hd hkp=>?_)
 ·rw[hsz] at hi;obtain⟨_,_,_,_,_,e,_⟩:=at' i hi;rw[L1];exact e
 ·rw[hsz] at hj;obtain⟨ku,xu,hT,h1,_,_,h3⟩:=at' j hj;exact⟨ku,xu,hT,_,h3,h1⟩
 ·have hz:(fY [] kvs).length<=sizeLine:=by
   have h1:=gE kvs [];rw[Ld] at h1;exact Kj (show _<=20000 by lia) (by decide)
  exact⟨.ref s.heap.objs.size,_,I.laid (t':=tk) hkp (Kk _) (yc hz (K3.mpr (Ne.symm (Kz I.big))) (hKV.merge .nil) hd),rfl,q _ (I.aU.fresh (Kk _))⟩
open PySem PySem.Spec PyProof PyProof.Rows
namespace Z
section
variable {X:Cx} {CX:nU} {k:Nat} {f C:Addr} {fd:FuncData} {ps:List Str} {sp:Sp} {E:XK} {x m nm:Str} {p pos pos' apos:Pos} {e o i value:Expr} {es:List Expr} {ta tv td ty:TE} {t:TA}
theorem fld(K:Nv)(hK:X.K=K)(he:QE X e ta)(hb:autoParam (attributeBase e nm X.env (eval e X.env)=eval e X.env) ℜ0):QE X (.Attribute e nm pos) (y2 K ta nm):=by subst hK;exact⟨Eu he.h hb⟩
theorem lx(K:Nv)(hK:X.K=K)(ha:QE X o ta)(hv:QE X value tv)(hs:autoParam (swapsWith value (some (.Attribute o nm pos')) pos.line X.env=pure false) ℜ0):QS X (.Assign [.Attribute o nm pos'] value pos) (u_ K ta tv nm):=by subst hK;exact⟨En ha.h hv.h hs⟩
theorem g_(K:Nv)(hK:X.K=K){pl:Sem Bool}(he:QE X o ta)(c:fu K C)(hm:Meth K C m f)(F:a_ X.prog X.w K X.mg X.base CX k f fd ps sp)(hr:bP k X.A)(hb:Binds K fd ps [])(hx:Passes CX X E)(ha:QA X (e::es) t)
  (hst:autoParam (starEach (e::es) X.env=(false,eval e X.env)::starEach es X.env) ℜ0) (hpl:autoParam ((backTo pos (starEach es X.env)).any (·.1)=false) ℜ0)
  (ht:autoParam (eval (.Call (.Attribute o m apos) (e::es) [] pos) X.env=(do
   let ov <- eval o X.env
   standAt apos.atName
   let (f,first) <- holding [ov] (getMethod ov m pl)
   callWith pos f first (backTo pos (starEach (e::es) X.env)) (backToKw pos (keywordEach [] X.env)))) ℜ0) :
  QE X (.Call (.Attribute o m apos) (e::es) [] pos) (kg C m sp [] E ta t):=by subst hK;exact⟨zp (pl:=pl) he.h c hm F hr hb .nil hx ha.h hst hpl ht⟩
theorem mF(K:Nv)(hK:X.K=K){pl:Sem Bool}(he:QE X o ta)(c:fu K C)(hm:Meth K C m f)(F:a_ X.prog X.w K X.mg X.base CX k f fd ps sp)(hr:bP k X.A)(hb:Binds K fd ps [])(hx:Passes CX X E)
  (ht:autoParam (eval (.Call (.Attribute o m apos) [] [] pos) X.env=(do
   let ov <- eval o X.env
   standAt apos.atName
   let (f,first) <- holding [ov] (getMethod ov m pl)
   callWith pos f first (backTo pos (starEach [] X.env)) (backToKw pos (keywordEach [] X.env)))) ℜ0) :
  QE X (.Call (.Attribute o m apos) [] [] pos) (kg C m sp [] E ta jo):=by subst hK;exact⟨vZ (pl:=pl) he.h c hm F hr hb .nil hx ht⟩
theorem make(K:Nv)(hK:X.K=K)(M:Mk K C f)(F:a_ X.prog X.w K X.mg X.base CX k f fd ps sp)(hr:bP (k+1) X.A)(hg:Gl X x)(hm:X.mg x=some (.ref C))(hb:Binds K fd ps [])(hx:Passes CX X E)
  (ha:QA X (e::es) t) (hdb:autoParam ((x ==("__debug__":Str))=false) ℜ1) (he:autoParam (starEach (e::es) X.env=(false,eval e X.env)::starEach es X.env) ℜ0) (hpl:autoParam ((backTo pos (starEach es X.env)).any (·.1)=false) ℜ0) :
  QE X (.Call (.Name x p) (e::es) [] pos) (jq C sp [] E t):=by subst hK;exact⟨zk M F hr hg hm hb .nil hx ha.h hdb he hpl⟩
theorem yx(hu:X.A.units+1<cLine)(ho:QE X o td)(hi:QE X i ty)(hs:we i:=by exact fun _ _=>rfl):QE X (.Subscript o i pos) (pq td ty):=⟨yI hu ho.h hi.h hs⟩
theorem dput(hu:X.A.units+1<cLine)(ho:QE X o td)(hi:QE X i ty)(hv:QE X value tv)(hs:autoParam (swapsWith value (some (.Subscript o i pos')) pos.line X.env=pure false) ℜ0):QS X (.Assign [.Subscript o i pos'] value pos) (pK td ty tv):=⟨yH hu ho.h hi.h hv.h hs⟩
end
end Z
namespace Ap
theorem y2(K:Nv)(ta:TE)(f:Str)(σ:St)(H:Hp)(Q:VK):L2.y2 K ta f σ H Q=ta σ H fun x H1=>∃ a C dx fs v,x=.ref a/\H1 a=some (.ins C dx fs)/\fu K C/\aK K C f/\fs.lookup f=some v/\Q v H1:=rfl
theorem u_(K:Nv)(ta tv:TE)(f:Str)(D:Ends)(σ:St)(H:Hp):L2.u_ K ta tv f D σ H=tv σ H fun y H1=>ta σ H1 fun x H2=>∃ a C dx fs,x=.ref a/\H2 a=some (.ins C dx fs)/\fu K C/\aK K C f/\fs.length<1000/\D.nx σ (upd H2 a (.ins C dx (cR f y fs))):=rfl
theorem kg(C:Addr)(m:Str)(sp:Sp)(dvs:List V)(E:XK)(ta:TE)(t:TA)(σ:St)(H:Hp)(Q:VK):L2.kg C m sp dvs E ta t σ H Q=ta σ H fun x H1=>∃ a dx fs,x=.ref a/\H1 a=some (.ins C dx fs)/\fs.lookup m=none/\t σ H1 fun vs H2=>sp (x::(vs++dvs)) H2 Q E:=rfl
theorem jq(C:Addr)(sp:Sp)(dvs:List V)(E:XK)(t:TA)(σ:St)(H:Hp)(Q:VK):L2.jq C sp dvs E t σ H Q=t σ H fun vs H1=>∀ x dx,H1 x=none->H1 dx=none->dx≠x->sp (.ref x::(vs++dvs)) (upd (upd H1 dx (.own x)) x (.ins C dx [])) (fun v H2=>v=.aE/\Q (.ref x) H2) E:=rfl
theorem pq(td ty:TE)(σ:St)(H:Hp)(Q:VK):L2.pq td ty σ H Q=td σ H fun x H1=>ty σ H1 fun y H2=>∃ a v,x=.ref a/\uv H2 a y (some v)/\Q v H2:=rfl
theorem pK(td ty tv:TE)(D:Ends)(σ:St)(H:Hp):L2.pK td ty tv D σ H=tv σ H fun v H1=>td σ H1 fun x H2=>ty σ H2 fun y H3=>∃ a H4,x=.ref a/\Eb H3 a y v H4/\D.nx σ H4:=rfl
end Ap
section
variable {prog:Program} {w:World} {A:Around} {E:Value->Shared->Prop} {s:Shared} {K:Nv} {a:Addr} {D:List (Str×List Str)} {k:Str} {tk:Tok}
theorem uZ{ws:List Str}{Q:Value->Shared->Prop}(T:ly K a D)(X:K.In s.heap)(hk:KTD.datumAt k D=some ws)(h:∀ v,A2 K ws v->Q v {s with toks:=s.toks+1}):wpAny (model prog w) A (getItem (.ref a) (.str k tk)) Q E s:=by
 have hT:=T.typeIs X;unfold getItem
 try with_reducible refine KL ?_
 refine Kb (wpAny_sequenceKey hT (by decide) ?_)
 refine Kb (Lb (name:=Str.ofString "__getitem__") hT PySem.F.slot_dict_getitem
  (LC PySem.F.slot_dict_getitem hT PySem.F.entry_dict_getitem ?_ (args_dict_getitem _ _)))
 show wpAny _ _ (dictGet a (.str k tk) >>= _) _ _ s;refine Kb (pJ T X (fun d v e r=>?_) fun e=>?_)
 ·rw[hk] at e;cases e;exact Km ⟨v,rfl,Km (h v r)⟩
 ·rw[hk] at e;cases e
end
variable{X:Cx}{D:List (Str×List Str)}{K:Nv}
noncomputable def Jh(K:Nv)(D:List (Str×List Str))(te:TE):TE:=fun σ H Q=>te σ H fun y H1=>∃ k ws,y=.str k/\KTD.datumAt k D=some ws/\∀ p,yE K p (ws.map V.str)->Q (.ref p) H1
theorem Es{o e:Expr}{te:TE}{pos:Pos}{d:Addr}(ho:PE X o (tC (.ref d)))(hD:ly X.K d D)(he:PE X e te)(hs:we e):PE X (.Subscript o e pos) (Jh X.K D te):=by
 intro pins s σ H Q I h;refine rV PySem.F.slot_dict_getitem.lookup hs (bM (ho pins s σ H (fun v H'=>v=.ref d/\H'=H) I ⟨rfl,rfl⟩) fun u s1 hq1=>?_);obtain⟨x,H1,I1,rx,ex,eh⟩:=hq1;subst ex eh;obtain rfl:u=Value.ref d:=rx;refine bM (he pins s1 σ H1 _ I1 h) fun iv s2 hq2=>?_;obtain⟨y,H2,I2,ry,k,ws,ek,e1,q⟩:=hq2;subst ek;obtain⟨t,rfl⟩:=ry;refine⟨hD.typeIs I2.gW,uZ hD I2.gW e1 fun v r=>?_⟩;obtain⟨p,rfl,r⟩:=r;exact⟨.ref p,H2,I2.tok _,rfl,q p r⟩
theorem Z.seq{tg l:Expr}{tl:TE}(K:Nv)(hK:X.K=K)(hl:QE X l tl):QI X tg l (wL K tl):=by subst hK;exact⟨ym hl.h⟩
theorem Ap.wL(K:Nv)(tl:TE)(σ:St)(H:Hp)(R:It->Hp->Prop):L2.wL K tl σ H R=tl σ H fun x H1=>∃ a,x=V.ref a/\(((∃ xs,bA K H1 a xs)/\R (xN K a) H1)\/((∃ xs,bO K H1 a xs)/\R (pT K a) H1)):=rfl
namespace Y
noncomputable def zo(D:List (Str×List Str))(ue:UE):UE:=fun μ Q=>ue μ fun r μ'=>match r with
 |.tr (.str k)=>(match KTD.datumAt k D with
  |some ws=>Q (.tr (.cT (ws.map T.str))) μ'
  |none=>False)
 |_=>False
theorem J8{e:Expr}{ue:UE}{x:Str}{pos p:Pos}(K:Nv)(hK:X.K=K)(hg:Gl X x)(hd:∃ d,X.mg x=some (.ref d)/\ly K d D)(he:YE X e ue)(hs:we e:=by exact fun _ _=>rfl)(hdb:autoParam ((x ==("__debug__":Str))=false) ℜ1):
  YE X (.Subscript (.Name x p) e pos) (zo D ue):=by
 obtain⟨t,q,r⟩:=he;obtain⟨d,hm,hd⟩:=hd;subst hK;refine⟨_,⟨Es (nq hg hm rfl hdb) hd q.h hs⟩,fun F ad B σ H μ Q Qt hF l q k=>r F ad B σ H μ _ _ hF l q fun v H' r1 μ' v1 f k1 q1=>?_⟩
 split at q1
 ·rename_i z;obtain⟨l1,rp⟩:=v1;obtain rfl:=Rep.dm rp
  cases e1:KTD.datumAt z D with
  |none=>rw[e1] at q1;exact q1.elim
  |some ws =>
   rw[e1] at q1;exact⟨z,ws,rfl,e1,fun p kt=>k _ H' (.tr (.cT (ws.map T.str))) μ' ⟨l1,.cT (by rw[hF];exact kt) (gw ws)⟩ f.d k1 q1⟩
 ·exact q1.elim
end Y
namespace A
theorem zo(D:List (Str×List Str))(ue:UE)(μ:Mu)(Q:R->Mu->Prop):Y.zo D ue μ Q=ue μ fun r μ'=>match r with
 |.tr (.str k)=>(match KTD.datumAt k D with
  |some ws=>Q (.tr (.cT (ws.map T.str))) μ'
  |none=>False)
 |_=>False:=rfl
end A
open PySem PySem.Spec PyProof PyProof.Rows PySem.W
namespace SP
section
variable (k:Nat->Int)
noncomputable def R(i j:Nat):Prop:=k i<k j\/(k i=k j/\i<j)
variable {k}
end
end SP
structure m9 (K:Nv) (mg:Str->Option Value) (x:Str):Prop where
 ex:∃ c P,PySem.W.tabIn K x=some (c,P)/\∀ f cdv,DH K mg x f cdv->cdv=.ref c
theorem hX{x:Str}{f c P:Addr}{oc oc':Value}{od od':Option Addr}{sl sl':Array (Option Value)}{fd:FuncData}{vs:Array Value}(a:PySem.W.nsIn K mainGlobals x=some (some (.ref f)))(l:K.lookup f=some ⟨oc,od,.func fd,sl⟩)(hc:fd.code=.ref c)
  (lc:K.lookup c=some ⟨oc',od',.fields vs,sl'⟩) (hv:vs[11]?=some (.ref P)):PySem.W.tabIn K x=some (c,P):=by
 unfold PySem.W.tabIn;rw[a];dsimp only;rw[l];dsimp only;rw[hc];dsimp only;rw[lc];dsimp only;rw[hv]
theorem qH{x:Str}(a:PySem.W.nsIn K mainGlobals x=some none):PySem.W.tabIn K x=none:=by
 unfold PySem.W.tabIn;rw[a]
theorem m9.mk'{h:Heap}{mg:Str->Option Value}{x:Str}{c P:Addr}(X:K.In h)(G:h.Ns mainGlobals mg)(ht:PySem.W.tabIn K x=some (c,P)):m9 K mg x:=
 ⟨c,P,ht,fun f cdv ⟨m,o,fd,lk,hd,e⟩=>by rw[<- e];exact PySem.W.law_code X G ht m (X _ _ lk) hd⟩
theorem iu.of{q:Program}{o1 o2 o3:Option (Addr×Addr)}(nt:PySem.W.noTabs K=true)(t1:PySem.W.tabIn K "by_worth"=o1)(t2:PySem.W.tabIn K "by_weight"=o2)(t3:PySem.W.tabIn K "code_of"=o3)(nd:((o1.toList++(o2.toList++o3.toList)).map (·.2)).Nodup)
  (f1:o1=none\/((recsOf q).find? (fun e=>e.name ==("by_worth":Str))).isSome=true) (f2:o2=none\/((recsOf q).find? (fun e=>e.name ==("by_weight":Str))).isSome=true) (f3:o3=none\/((recsOf q).find? (fun e=>e.name ==("code_of":Str))).isSome=true):iu q K:=by
 refine⟨nt,?_,fun x hx=>?_⟩
 ·have e:(bV K).map (·.2.1)=(o1.toList++(o2.toList++o3.toList)).map (·.2):=by
   unfold bV hW
   cases o1<;>cases o2<;>cases o3<;>simp[List.filterMap,t1,t2,t3]
  rw[e];exact nd
 ·unfold hW at hx;rcases Kn.mp hx with rfl|hx
  ·rw[t1];exact f1
  ·rcases Kn.mp hx with rfl|hx
   ·rw[t2];exact f2
   ·rw[K9.mp hx,t3];exact f3
theorem cW{u w:US}{E:Ed}{μ:Mu}(h:∀ N:Mu->Prop,(∀ μ',w E μ'->N μ')->u {E with nx:=N} μ):Y.zR u w E μ:=h _ fun _ z=>z
namespace Y
noncomputable def J3(K:Nv):R2:=fun x y H Q=>∃ a b xs,x=.ref a/\y=.ref b/\bA K H a xs/\bA K H b []/\Q (.bl xs.isEmpty) H
theorem xk(K:Nv)(hK:X.K=K)(hu:X.A.units<cLine):cU X (compareOp .Eq) (J3 K):=by
 subst hK;intro pins s σ H x y v u Q I rx ry h;obtain⟨a,b,xs,rfl,rfl,ha,hb,q⟩:=h
 cases rx;cases ry
 obtain⟨its,r1,p1,_⟩:=I.list ha;obtain⟨its2,r2,p2,_⟩:=I.list hb;obtain rfl:=Paired.GR r2
 cases r1 with
 |nil=>exact MZ (e:=fun _=>true) p1.isList p2.isList rfl hu (fun j h1=>absurd h1 (Nat.not_lt_zero _)) ⟨.bl true,H,I,rfl,q⟩
 |cons h r=>exact Me p1.isList p2.isList (by simp) hu ⟨.bl false,H,I,rfl,q⟩
end Y
section
variable {K:Nv} {g:TG} {tb:TS} {D:Ends} {σ:St} {H:Hp} {te:TE} {Q:VK}
theorem qk{a:Addr}{xs:List V}(hn:xs.length<=sizeLine)(Pv:Addr->Nat->List V->Hp->Prop)(h0:∀ D,H D=none->Pv D 0 [] (upd H D (.lst [])))(hD:∀ D i ys H',Pv D i ys H'->H' D=some (.lst ys)/\ys.length=i)
  (hl:∀ D i ys H',Pv D i ys H'->bA K H' a xs)
  (hs:∀ D i ys H' x (R:VK),xs[i]?=some x->Pv D i ys H'->(∀ v H5,H5 D=some (.lst ys)->Pv D (i+1) (ys++[v]) (upd H5 D (.lst (ys++[v])))->R v H5)->te (some x::σ) H' R) (hd:∀ D ys H',Pv D xs.length ys H'->Q (.ref D) H') :
  kr (xN K a) 1 (bJ 0) gP te Q σ H:=by
 intro D hD0;refine⟨fun i m ys σ' H'=>m=xs.length-i/\i<=xs.length/\Pv D i ys H'/\∃ o,σ'=o::σ,⟨xs.length,by simp,K7 _,h0 D hD0,none,rfl⟩,?_⟩
 rintro i m ys σ' H' ⟨rfl,hi,p,o,rfl⟩;obtain⟨hDi,hly⟩:=hD _ _ _ _ p;have q:=hl _ _ _ _ p;refine⟨hDi,?_⟩;by_cases hlt:i<xs.length
 ·refine .inr ⟨⟨xs,xs[i],q,by simp[hlt]⟩,by lia,fun x H2 y=>?_⟩
  obtain⟨rfl,y⟩:=y;unfold bJ gP;dsimp only;rw[if_pos rfl];exact hs D i ys H2 x _ (y xs q) p fun v H5 q1 q2=>⟨q1,xs.length-(i+1),by lia,rfl,hlt,q2,_,rfl⟩
 ·have e:i=xs.length:=by lia
  subst e;exact .inl ⟨⟨xs,q,Kk _⟩,hd D ys H' p⟩
end
noncomputable def but(B:ba)(a:Addr):ba:=fun b=>B b/\b≠a
noncomputable def IX(K:Nv)(mg:Str->Option Value)(x:Str):Prop:=∃ p o,mg x=some (.ref p)/\K.lookup p=some o/\o.dict=none
open Builtin Builtin.Str
open PySem PySem.Spec PyProof PyProof.Rows
open Builtin Builtin.Str
open PySem PySem.Spec PyProof PyProof.Rows
open PySem PySem.Spec PyProof PyProof.Rows PySem.W
namespace A4
noncomputable def lt(r:R)(k:R->Prop):Prop:=k r
theorem JM(t:T)(k:R->Prop):lt (R.d (.tr t)) k=k (.tr t):=rfl
theorem JF(t:T)(k:R->Prop):lt (R.d (.fr t)) k=k (.tr t):=rfl
theorem JG(i:Nat)(k:R->Prop):lt (R.d (.br i)) k=k (.br i):=rfl
theorem Gu(o:Ou)(Q:R->Prop):oB o Q=(match o with|.no=>False|.ok r=>Q r|.ck c r=>c/\Q r):=rfl
theorem Fp(o:Option (Prop×R))(Q:R->Prop):Hl o Q=(match o with|some (C,r)=>C/\Q r|none=>False):=rfl
theorem FF(o:Option (List T×Option (Nat×List T)))(Q:List T->Option (Nat×List T)->Prop):Hi o Q=(match o with|some (ts,g)=>Q ts g|none=>False):=rfl
theorem ET(o:Option T)(p:Prop):Y.HR o p=(match o with|some (.lst _)=>p|_=>False):=by
 cases o with|none=>rfl|some t=>cases t<;>rfl
theorem BU(u:U2)(ua ub:UE)(μ:Mu)(Q:R->Mu->Prop):Y.BU u ua ub μ Q=ua μ fun r1 μ1=>ub μ1 fun r2 μ2=>lt r1.d fun x=>lt r2.d fun y=>u x y μ2 Q:=rfl
theorem oY(ue:UE)(us:UA)(μ:Mu)(Q:List R->Mu->Prop):Y.oY ue us μ Q=ue μ fun r μ1=>us μ1 fun rs μ2=>lt r.d fun x=>Q (x::rs) μ2:=rfl
end A4
section
variable {X:Cx} {pins:List (Addr×Obj)} {σ:List (Option V)} {H:Hp} {s:Shared}
noncomputable def soft:HO->Bool
 |.lst _=>true
 |.ext _=>true
 |_=>false
theorem Inv.alter(I:Inv X pins σ H s){c:Addr}{o1 o2:HO}(h1:H c=some o1)(k1:soft o1=true)(ok:bC X.prog X.w (upd H c o2) s.heap c o2):Inv X pins σ (upd H c o2) s:=by
 have ne:∀{b o},H b=some o->soft o=false->b≠c:=fun {b o} e k z=>by
  subst z;rw[h1] at e;cases e;rw[k1] at k;cases k
 have nn:∀{b},H b=none->b≠c:=fun {b} e z=>by subst z;rw[h1] at e;cases e
 refine⟨I.ok,I.os,I.bare,⟨I.base.keep,I.base.slot,fun b o e e2 n=>?_,I.base.there,fun b xs e=>?_,fun b o u e=>?_,fun b ps e=>?_⟩,I.loc,I.cell,?_,fun x d e=>?_,fun p hp=>?_,fun b o e=>?_,I.len⟩
 ·have:=I.base.free b o e e2 n;rw[ae (nn this)];exact this
 ·have:=I.base.mP b xs e;rw[ae (ne this rfl)];exact this
 ·have:=I.base.lC b o u e;rw[ae (ne this rfl)];exact this
 ·obtain⟨m,this⟩:=I.base.kN b ps e;exact⟨m,by rw[ae (ne this rfl)];exact this⟩
 ·rw[ae (nn I.free)];exact I.free
 ·rw[ae (nn (I.fF x d e))];exact I.fF x d e
 ·obtain⟨p1,p2,p3⟩:=I.pin p hp;exact⟨p1,by rw[ae (nn p2)];exact p2,p3⟩
 ·by_cases z:b=c
  ·subst z;rw[ab] at e;cases e;exact ok
  ·rw[ae z] at e;exact (I.aU b o e).oM (fun _ _ _ q=>q) (fun b' q=>by rw[ae (ne q rfl)];exact q) (fun b' xs q=>by rw[ae (ne q rfl)];exact q) (fun b' o' u q=>by rw[ae (ne q rfl)];exact q)
noncomputable def intOf:Value->Int
 |.int i _=>i
 |_=>0
theorem sI:∀{its:List Value},(∀ v∈its,∃(i:Int) (t:Tok),v=.int i t/\0<=i)->Vals ((its.map intOf).map V.int) its/\∀ z∈its.map intOf,0<=z
 |[],_=>⟨.nil,fun z hz=>by cases hz⟩
 |v::its,h=>by
  obtain⟨i,t,rfl,h0⟩:=h v Ky;obtain⟨r,q⟩:=sI fun w hw=>h w (Ko _ hw);refine⟨.cons ⟨t,rfl⟩ r,fun z hz=>?_⟩;rcases Kn.mp hz with rfl|hz
  ·exact h0
  ·exact q z hz
theorem hC:∀{ns:List Int} {its:List Value},Vals (ns.map V.int) its->(∀ z∈ns,0<=z)->its.length=ns.length/\∀ v∈its,∃(i:Int) (t:Tok),v=.int i t/\0<=i
 |[],[],_,_=>⟨rfl,fun v hv=>by cases hv⟩
 |[],_::_,r,_=>by cases r
 |_::_,[],r,_=>by cases r
 |n::ns,v::its,.cons h r,hz=>by
  obtain⟨e,q⟩:=hC r fun z hz'=>hz z (Ko _ hz');refine⟨K1 (·+1) e,fun w hw=>?_⟩;rcases Kn.mp hw with rfl|hw
  ·obtain⟨t,rfl⟩:=(show RelV (.int n) w from h);exact⟨n,t,rfl,hz n Ky⟩
  ·exact q w hw
theorem rY(c:Addr)(n:Nat):∀ h1 h2:Heap,iL c n h1->(∀ o,h1.get? c=some o->h2.get? c=some o)->iL c n h2:=fun h1 h2 ⟨its,m,e,q⟩ k=>⟨its,m,k _ e,q⟩
theorem Inv.IE(I:Inv X pins σ H s){c:Addr}{n:Nat}(hc:H c=some (.ext (iL c n)))(hn:n<=sizeLine):∃ ns:List Int,ns.length=n/\(∀ z∈ns,0<=z)/\Inv X pins σ (upd H c (.lst (ns.map V.int))) s:=by
 obtain⟨⟨its,m,e,hl,q⟩,_,_⟩:=I.aU c _ hc;obtain⟨r,h0⟩:=sI q;refine⟨its.map intOf,by rw[Kc];exact hl,h0,I.alter hc rfl ⟨by rw[Kc,Kc,hl];exact hn,its,m,r,e⟩⟩
theorem wN{H:Hp}{c:Addr}{o o':HO}(h:H c=some o):upd (upd H c o') c o=H:=by
 funext b
 unfold upd;split
 ·rename_i z;rw[z,h]
 ·rfl
theorem Inv.Jr{c:Addr}{n:Nat}{ns:List Int}(I:Inv X pins σ (upd H c (.lst (ns.map V.int))) s)(hc:H c=some (.ext (iL c n)))(hl:ns.length=n)(h0:∀ z∈ns,0<=z):Inv X pins σ H s:=by
 obtain⟨z,its,m,r,e⟩:=I.aU c _ ab;obtain⟨el,q⟩:=hC r h0;have:=I.alter (o2:=.ext (iL c n)) ab rfl ⟨⟨its,m,e,el.trans hl,q⟩,⟨_,e⟩,rY c n⟩;rw[wN hc] at this;exact this
end
variable{X:Cx}{e:Expr}{K:Nv}{pos:Pos}{es:List Expr}{ue:UE}
noncomputable def FY:R2:=fun x y H Q=>∃(c:Addr) (n:Nat) (i:Int),x=.ref c/\y=.int i/\H c=some (.ext (iL c n))/\n<=1000/\0<=i/\i<n/\∀ v:Int,0<=v->Q (.int v) H
theorem GK:rm X FY:=by
 intro value slice pins s σ H x y v u Q I rx ry h hsub;obtain⟨c,n,i,rfl,rfl,hc,hn,i0,i1,q⟩:=h;obtain⟨ns,hl,h0,I2⟩:=I.IE hc (Kj hn (by decide))
 obtain⟨j,rfl⟩:∃ j:Nat,i=j:=⟨i.toNat,by lia⟩
 have hj:j<ns.length:=by lia
 refine bM (rR value slice pins s σ _ _ _ v u (fun v H'=>H'=upd H c (.lst (ns.map V.int))/\v=.int ns[j]) I2 rx ry ⟨c,_,j,.int ns[j],rfl,rfl,bA.of ab,dA (by rw[K2,Kd hj];rfl),rfl,rfl⟩ hsub) fun u' s' ⟨v',H',I',rv,e1,e2⟩=>?_
 subst e1 e2;exact⟨_,H,I'.Jr hc hl h0,rv,q _ (h0 _ (KS hj))⟩
noncomputable def By:wZ:=fun o i v H Q=>∃(c:Addr) (n:Nat) (k z:Int),o=.ref c/\i=.int k/\v=.int z/\H c=some (.ext (iL c n))/\n<=1000/\0<=k/\k<n/\0<=z/\Q H
theorem Dz:Av X By:=by
 intro pins s σ H o i v ov iv u Q I ro ri rv h;obtain⟨c,n,k,z,rfl,rfl,rfl,hc,hn,k0,k1,z0,q⟩:=h;obtain⟨ns,hl,h0,I2⟩:=I.IE hc (Kj hn (by decide))
 obtain⟨j,rfl⟩:∃ j:Nat,k=j:=⟨k.toNat,by lia⟩
 have hj:j<ns.length:=by lia
 refine bM (set_list pins s σ _ _ _ _ ov iv u (fun H'=>H'=upd H c (.lst ((ns.set j z).map V.int))) I2 ro ri rv ⟨c,_,j,j,rfl,rfl,ab,by rw[Kc];unfold mx;rw[Kh (by lia),Kh (by lia)];simp,?_⟩) fun _ s' ⟨H',I',e⟩=>?_
 ·funext b
  unfold upd;split
  ·rw[List.map_set]
  ·rfl
 ·subst e;refine⟨H,I'.Jr hc (by rw[KO];exact hl) fun w hw=>?_,q⟩
  rcases ML hw with hw|rfl
  ·exact h0 w hw
  ·exact z0
noncomputable def BF:List V->Hp->VK->Prop:=fun xs H Q=>∃(c:Addr) (n:Nat),xs=[.ref c]/\H c=some (.ext (iL c n))/\n<=1000/\Q (.int (n:Nat)) H
theorem tS:bp X (.builtin "len") BF:=by
 intro pins s σ H xs us Q I r h;obtain⟨c,n,rfl,hc,hn,q⟩:=h;obtain⟨ns,hl,h0,I2⟩:=I.IE hc (Kj hn (by decide))
 refine bM (ic pins s σ _ _ us (fun v H'=>H'=upd H c (.lst (ns.map V.int))/\v=.int (n:Nat)) I2 r ⟨c,_,rfl,.inl (bA.of ab),rfl,by rw[Kc,hl]⟩) fun u' s' hq1=>?_
 obtain⟨v',H',I',rv,e1,e2⟩:=hq1;subst e1 e2;exact⟨_,H,I'.Jr hc hl h0,rv,q⟩
noncomputable def Ht(t:TE):TE:=fun σ H Q=>t σ H fun v H'=>∃(c:Addr) (ns:List Int),H' c=some (.lst (ns.map V.int))/\(∀ z∈ns,0<=z)/\Q v (upd H' c (.ext (iL c ns.length)))
theorem BZ{t:TE}(h:PE X e t):PE X e (Ht t):=by
 intro pins s σ H Q I q;refine bM (h pins s σ H _ I q) fun u s' hq2=>?_;obtain⟨v,H',I',rv,c,ns,hc,h0,q'⟩:=hq2;obtain⟨z,its,m,r,e⟩:=I'.aU c _ hc;obtain⟨el,qq⟩:=hC r h0;exact⟨v,_,I'.alter (o2:=.ext (iL c ns.length)) hc rfl ⟨⟨its,m,e,el,qq⟩,⟨_,e⟩,rY c _⟩,rv,q'⟩
namespace Y
noncomputable def vK:U2:=fun r1 r2 μ Q=>match r1,r2 with
 |.tr (.il n),.tr (.int i)=>n<=1000/\0<=i/\i<n/\∀ v:Int,0<=v->Q (.tr (.int v)) μ
 |_,_=>False
theorem Ee:lI K FY vK:=by
 intro F ad B σ H μ Q Qt x y r1 r2 hF l h1 h2 q k;unfold vK at q
 split at q
 ·cases h1 with
  |il m h =>
   obtain rfl:=Rep.bT h2;obtain⟨hn,i0,i1,q⟩:=q;exact⟨_,_,_,rfl,rfl,h,hn,i0,i1,fun v hv=>k _ H _ μ (Vr.flat l (.int _)) Fr.refl (Kp.refl μ) (q v hv)⟩
 ·exact q.elim
noncomputable def oK:UC:=fun rs μ Q=>match rs with
 |[.tr (.il n)]=>n<=1000/\Q (.tr (.int (n:Nat))) μ
 |_=>False
theorem zv:RC K BF oK:=by
 intro F ad B σ H μ Q Qt xs rs hF l ps q k;unfold oK at q
 split at q
 ·obtain⟨_,_,rfl,h,ps⟩:=Paired.aO ps;obtain rfl:=Paired.dD ps
  cases h with
  |il m h=>exact⟨_,_,rfl,h,q.1,k _ H _ μ (Vr.flat l (.int _)) Fr.refl (Kp.refl μ) q.2⟩
 ·exact q.elim
noncomputable def Fg(uo ui:UE):UG:=fun r μ Q=>match r.d with
 |.tr (.int z)=>uo μ fun ro μ1=>ui μ1 fun ri μ2=>(match ro,ri with
  |.tr (.il n),.tr (.int k)=>n<=1000/\0<=k/\k<n/\0<=z/\Q μ2
  |_,_=>False)
 |_=>False
theorem FL{o i:Expr}{uo ui:UE}(ho:YE X o uo)(hi:YE X i ui)
  (ha:autoParam (∀ v,assign (.Subscript o i pos) X.env v=(do
   let ov <- holding [v] (eval o X.env)
   let iv <- holding [v,ov] (eval i X.env)
   standAt pos
   holding [v,ov,iv] (setItem ov iv v)
   release [v,ov,iv] [])) ℜ3):YG X (.Subscript o i pos) (Fg uo ui):=by
 obtain⟨t,q,r⟩:=ho;obtain⟨t',q',r'⟩:=hi;refine⟨_,(⟨xI q.h q'.h Dz ha⟩:QG X (.Subscript o i pos) (uL t t' By)),fun F ad B σ H μ v rr B0 H0 Q Qt hF h f q k=>?_⟩;unfold Fg at q;have f0:Fr B0 H0 B H:=fun b o h n=>⟨(f b o h n).1,fun z=>(f b o h n).2 (by cases rr<;>first|exact z | (cases v<;>first|exact z|exact .inr z))⟩
 have hv:=h.hv
 split at q
 ·rename_i z e0;rw[e0] at hv
  cases (show Rep F.K H B v (.int z) from hv)
  refine r F ad B σ H μ _ _ hF h.rl q fun ov H1 r1 μ1 v1 f1 k1 q1=>r' F ad B σ H1 μ1 _ _ hF v1.rl q1 fun iv H2 r2 μ2 v2 f2 k2 q2=>?_
  split at q2
  ·rename_i n kk;have rp:=v2.2;obtain rfl:=Rep.bT rp;have ro:=(v1.hv.fr f2.d k2)
   cases (show Rep F.K H2 B ov (.il n) from ro) with
   |il m hc =>
    obtain⟨hn,k0,k1',z0,q3⟩:=q2;exact⟨_,n,kk,z,rfl,rfl,rfl,hc,hn,k0,k1',z0,k ad B σ _ _ v2.rl (f0.trans (f1.d.trans f2.d)) q3⟩
  ·exact q2.elim
 ·exact q.elim
noncomputable def vE:UC:=fun rs μ Q=>match rs with
 |[.tr (.int i)]=>Q (.tr (.int (if i<0 then -i else i))) μ
 |_=>False
theorem CA:RC K (fun xs H Q=>∃ i,xs=[.int i]/\Q (.int (if i<0 then -i else i)) H) vE:=by
 intro F ad B σ H μ Q Qt xs rs hF l ps q k;unfold vE at q
 split at q
 ·obtain⟨_,_,rfl,h,ps⟩:=Paired.aO ps;obtain rfl:=Paired.dD ps
  cases cB h
  exact⟨_,rfl,k _ H _ μ (Vr.flat l (.int _)) Fr.refl (Kp.refl μ) q⟩
 ·exact q.elim
noncomputable def t7(ue:UE)(us:UA):UE:=fun μ Q=>ue μ fun r μ1=>match r with
 |.fr (.lst ts)=>us μ1 fun rs μ2=>(match trees rs with
  |some us'=>(∃ ms:List Int,ts=ms.map T.int/\∀ z∈ms,0<=z)/\us'.length<1000/\Q (.fr (.lst (.il ts.length::us'))) μ2
  |none=>False)
 |_=>False
theorem xx{F:Fx}{ad:Nat->Addr}{B B':ba}{σ:St}{H:Hp}{μ:Mu}{c p:Addr}{o o':HO}{vs0:List V}(l:Rl {F with G:=fun a=>if a=c then some (HO.lst vs0) else F.G a} ad (more B c) σ H μ)(hc:¬ B c)(h0:F.H0 c=none)(hg:∀ a vs,F.G a=some vs->B a)(hp:H p=none)
  (b1:∀ b,B b->B' b) (b2:∀ b,B' b->b=p\/B b):Rl F ad B' σ (upd (upd H p o) c o') μ/\Fr (more B c) H B' (upd (upd H p o) c o'):=by
 obtain⟨gc1,_,gc3⟩:=l.gh c (.lst vs0) (Kh rfl);have cp:c≠p:=fun z=>by rw[z,hp] at gc1;cases gc1
 have st:∀{b u},H b=some u->b≠c->upd (upd H p o) c o' b=some u:=fun {b u} e n=>by
  rw[ae n,ae (fun z=>by rw[z,hp] at e;cases e)];exact e
 have f:Fr (more B c) H B' (upd (upd H p o) c o'):=fun b u e n=>⟨st e fun z=>n (.inl z),fun z=>(b2 b z).elim (fun z=>by rw[z,hp] at e;cases e) fun z=>n (.inr z)⟩
 refine⟨⟨l.len,fun i s e=>?_,l.inj,l.par,fun b z=>?_,fun b z=>?_,fun b u e n=>?_,fun a vs e=>?_⟩,f⟩
 ·have k:=l.slot i s e;have nb:∀ d,s.box=some d->ad i≠c:=fun d hd=>gc3 i s d e hd;have bb:∀ d,s.box=some d->more B c (ad i)->B' (ad i):=fun d hd z=>z.elim (fun z=>absurd z (nb d hd)) (b1 _);unfold ji at k ⊢
  split at k
  ·trivial
  ·obtain⟨v,e1,r⟩:=k;exact⟨v,e1,r.fr f⟩
  ·obtain⟨e1,b,z,pp,x⟩:=k;obtain⟨u,q⟩:=x.dW;exact⟨e1,bb _ rfl b,z,pp,x.of ((st q (nb _ rfl)).trans q.symm) f⟩
  ·obtain⟨e1,b,pp,x⟩:=k;obtain⟨u,q⟩:=x.dW;exact⟨e1,bb _ rfl b,pp,x.of ((st q (nb _ rfl)).trans q.symm) f⟩
 ·rcases l.bc b z with rfl|z'
  ·obtain⟨u,e⟩:=F.bh _ z;rw[h0] at e;cases e
  ·exact b1 b z'
 ·rcases b2 b z with rfl|z
  ·exact⟨o,by rw[ae (Ne.symm cp),ab]⟩
  ·obtain⟨u,e⟩:=l.dW b (.inr z);exact⟨u,st e fun z'=>hc (z' ▸ z)⟩
 ·exact st (l.old b u e n) fun z=>by rw[z,h0] at e;cases e
 ·have ac:a≠c:=fun z=>hc (z ▸ hg a vs e);obtain⟨g1,g2,g3⟩:=l.gh a vs (show (if a=c then some (HO.lst vs0) else F.G a)=some vs by rw[Kf ac];exact e)
  exact⟨st g1 ac,b1 _ (g2.elim (fun z=>absurd z ac) id),g3⟩
theorem e8{us:UA}{pos:Pos}(he:YE X e ue)(hs:YA X es us)(h1:autoParam (fo e=true) ℜ0):YE X (.List (e::es) pos) (t7 ue us):=by
 obtain⟨t,q,r⟩:=he;obtain⟨t',q',r'⟩:=hs;refine⟨_,⟨BZ (Z.lst (pos:=pos) (Z.cons q q' h1)).h⟩,fun F ad B σ H μ Q Qt hF l q k=>?_⟩;unfold Ht;rw[Ap.tD,Ap.fW];refine r F ad B σ H μ _ _ hF l q fun x H1 r1 μ1 v1 f1 k1 q1=>?_
 split at q1
 ·rename_i ts;obtain⟨l1,c,rfl,nc,h0,l2,vs0,hc,rp0⟩:=v1;have gh0:=l.gh;have l3:Rl {F with G:=fun a=>if a=c then some (HO.lst vs0) else F.G a} ad (more B c) σ H1 μ1:=⟨l2.len,l2.slot,l2.inj,l2.par,l2.bc,l2.dW,l2.old,fun a vs e=>by
   have e:(if a=c then some (HO.lst vs0) else F.G a)=some vs:=e
   by_cases z:a=c
   ·subst z;rw[Kh rfl] at e;cases e;exact⟨hc,.inl rfl,fun i s d e1 e2 z=>nc (z ▸ ((l1.slot i s e1).boxed e2).2.1)⟩
   ·rw[Kf z] at e;exact l2.gh a vs e⟩
  refine r' {F with G:=fun a=>if a=c then some (HO.lst vs0) else F.G a} ad (more B c) σ H1 μ1 _ _ hF l3 q1 fun vs H2 rs μ2 l4 ps f2 k2 q2=>?_
  split at q2
  ·rename_i us' e;obtain⟨⟨ms,rfl,hz⟩,hl,q3⟩:=q2;have rp:=jQ ps e;have e0:vs0=ms.map V.int:=iY rp0;refine⟨by rw[Ks,rp.length];exact Kj (show _<=1000 by lia) (by decide),fun p hp=>?_⟩
   obtain⟨g1,_,_⟩:=l4.gh c (.lst vs0) (Kh rfl);have cp:c≠p:=fun z=>by rw[z,hp] at g1;cases g1
   refine⟨c,ms,by rw[ae cp,g1,e0],hz,?_⟩
   have hg:∀ a vs,F.G a=some vs->B a:=fun a vs e=>(l.gh a vs e).2.1;obtain⟨m1,_⟩:=xx (o:=.lst (.ref c::vs)) (o':=.ext (iL c ms.length)) (B':=B) l4 nc h0 hg hp (fun _ z=>z) (fun _ z=>.inr z);obtain⟨m2,f3⟩:=xx (o:=.lst (.ref c::vs)) (o':=.ext (iL c ms.length)) (B':=more B p) l4 nc h0 hg hp (fun _ z=>.inr z) (fun _ z=>z);have np:¬ B p:=fun z=>by
    obtain⟨u,e⟩:=l4.dW p (.inr z);rw[hp] at e;cases e
   have hp0:=Rl.zV l4 hp;rw[Kc] at q3;refine k (.ref p) _ (.fr (.lst (.il ms.length::us'))) μ2 ⟨m1,p,rfl,np,hp0,m2,.ref c::vs,by rw[ae (Ne.symm cp),ab],.cons (.il (fun z=>z.elim cp nc) ab) (rp.fr f3)⟩ ((f1.trans f2).trans f3) (k1.trans k2) q3
  ·exact q2.elim
 ·exact q1.elim
end Y
namespace A
theorem vE(i:Int)(μ:Mu)(Q:R->Mu->Prop):Y.vE [.tr (.int i)] μ Q=Q (.tr (.int (if i<0 then -i else i))) μ:=rfl
theorem t7(ue:UE)(us:UA)(μ:Mu)(Q:R->Mu->Prop):Y.t7 ue us μ Q=ue μ fun r μ1=>match r with
 |.fr (.lst ts)=>us μ1 fun rs μ2=>(match Y.trees rs with
  |some us'=>(∃ ms:List Int,ts=ms.map T.int/\∀ z∈ms,0<=z)/\us'.length<1000/\Q (.fr (.lst (.il ts.length::us'))) μ2
  |none=>False)
 |_=>False:=rfl
theorem vK(n:Nat)(i:Int)(μ:Mu)(Q:R->Mu->Prop):Y.vK (.tr (.il n)) (.tr (.int i)) μ Q=(n<=1000/\0<=i/\i<n/\∀ v:Int,0<=v->Q (.tr (.int v)) μ):=rfl
theorem oK(n:Nat)(μ:Mu)(Q:R->Mu->Prop):Y.oK [.tr (.il n)] μ Q=(n<=1000/\Q (.tr (.int (n:Nat))) μ):=rfl
theorem Fg(uo ui:UE)(z:Int)(μ:Mu)(Q:Mu->Prop):Y.Fg uo ui (.tr (.int z)) μ Q=uo μ fun ro μ1=>ui μ1 fun ri μ2=>(match ro,ri with
  |.tr (.il n),.tr (.int k)=>n<=1000/\0<=k/\k<n/\0<=z/\Q μ2
  |_,_=>False):=rfl
end A
open PySem PySem.Calls PySem.NumText PySem.Spec PyProof PyProof.Rows
abbrev Src:=Bool×Addr×Addr
theorem rC{α:Type}{own:T->Mu->Option Mu}{dr:Mu->Mu}{ut:UT}{Q:R->Mu->Prop}(g f:α->T)(xs:List α){μ:Mu}(hl:xs.length<=20000)
  (hs:∀ x∈xs,∀(acc:List T) (N:List T->Mu->Prop),N (acc++[f x]) μ->(match own (g x) μ with
   |none=>False
   |some μ1=>ut μ1 fun b μ2=>if b=true then ue μ2 fun rr μ3=>(match rr.d with
     |.tr t'=>N (acc++[t']) (dr μ3)
     |_=>False) else N acc (dr μ2))) (fin:Q (.fr (.lst (xs.map f))) μ):Y.pj none own dr ut ue Q (xs.map g) [] μ:=by
 refine eN (fun rest acc μ'=>∃ done todo:List α,done++todo=xs/\rest=todo.map g/\acc=done.map f/\μ'=μ) ⟨[],xs,rfl,rfl,rfl,rfl⟩ ?_ ?_
 ·rintro acc μ' ⟨done,todo,e1,e2,rfl,rfl⟩;have e3:todo=[]:=List.map_eq_nil_iff.mp e2.symm;subst e3;rw[KN] at e1;subst e1;exact⟨trivial,fin⟩
 ·rintro t r acc μ' M ⟨done,todo,e1,e2,rfl,rfl⟩ k
  cases todo with
  |nil=>cases e2
  |cons x todo =>
   obtain⟨rfl,rfl⟩:=List.cons.inj e2;refine⟨trivial,?_,hs x (by rw[<- e1];simp) (done.map f) M (k _ _ ⟨done++[x],todo,by rw[<- e1];simp,rfl,by rw[Kx];rfl,rfl⟩)⟩
   rw[Kc];have:=K1 List.length e1;rw[Kv] at this;exact KP (show done.length<=20000 by lia) (by decide)
noncomputable def Fq(K:Nv)(u:US):TS:=fun D σ H=>∃(F:Fx) (E:Ed) (ad:Nat->Addr) (B:ba) (μ:Mu),F.K=K/\Rl F ad B σ H μ/\u E μ/\tZ F B H D E
noncomputable def Jt(K:Nv)(u:UA):TA:=fun σ H Q=>∃(F:Fx) (ad:Nat->Addr) (B:ba) (μ:Mu) (Qt:List R->Mu->Prop),F.K=K/\Rl F ad B σ H μ/\u μ Qt/\∀ vs H' rs μ',Rl F ad B σ H' μ'->Paired (Hv F ad B H' μ') vs rs->Fr B H B H'->Kp μ μ'->Qt rs μ'->Q vs H'
theorem YS.mV{st:Stmt}{u:US}(h:YS X st u):QS X st (Fq X.K u):=⟨fun pins s σ H D I hh=>by
 obtain⟨F,E,ad,B,μ,hF,l,q,k⟩:=hh;obtain⟨t,qe,r⟩:=h;exact qe.h pins s σ H D I (r F D E ad B σ H μ hF l q k)⟩
theorem YA.mV{u:UA}(h:YA X es u):QA X es (Jt X.K u):=⟨fun pos pins s σ H Q I hh=>by
 obtain⟨F,ad,B,μ,Qt,hF,l,q,k⟩:=hh;obtain⟨t,qe,r⟩:=h;exact qe.h pos pins s σ H Q I (r F ad B σ H μ Q Qt hF l q k)⟩
section
variable {K:Nv} {F:Fx} {ad:Nat->Addr} {B:ba} {σ:St} {H H':Hp} {μ:Mu}
theorem kW{u:US}{D:Ends}(hF:F.K=K)(l:Rl F ad B σ H μ)(N:Mu->Prop)(q:u {nx:=N,rt:=fun _ _=>False} μ)(k:∀ ad' B' σ' H' μ',Rl F ad' B' σ' H' μ'->Fr B H B' H'->N μ'->D.nx σ' H'):Fq K u D σ H:=
 ⟨F,_,ad,B,μ,hF,l,q,k,fun _ _ _ _ _ _ _ _ z=>z.elim,fun _ _ _ _ _ _ _ z=>z.elim,fun _ _ _ _ _ _ _ z=>z.elim⟩
end
namespace Y
noncomputable def jt(f:Str):List Str->List T->Option T
 |k::ks,t::ts=>if k=f then some t else jt f ks ts
 |_,_=>none
theorem uP{f:Str}{H:Hp}{B:ba}{t:T}{ks:List Str}{vs:List V}{ts:List T}(r:av K H B vs ts)(e:jt f ks ts=some t):∃ v,(ks.zip vs).lookup f=some v/\Rep K H B v t:=by
 induction ks generalizing vs ts with
 |nil=>cases e
 |cons k ks ih=>cases ts with
  |nil=>cases e
  |cons u ts =>
   obtain⟨v,ws,rfl,h,r⟩:=r.aO;rw[List.zip_cons_cons,KR];by_cases c:k=f
   ·have e':(if k=f then some u else jt f ks ts)=some t:=e
    rw[Kh c] at e';cases e';rw[show (f == k)=true from LX.mpr c.symm];exact⟨v,rfl,h⟩
   ·have e':(if k=f then some u else jt f ks ts)=some t:=e
    rw[Kf c] at e';rw[show (f == k)=false from K3.mpr fun z=>c z.symm];exact ih r e'
noncomputable def A6(C:Addr)(f:Str)(ue:UE):UE:=fun μ Q=>ue μ fun r μ'=>match r with
 |.tr (.ins _ c ks ts)=>c=C/\(match jt f ks ts with
  |some t=>Q (.tr t) μ'
  |none=>False)
 |_=>False
theorem vG{nm:Str}{C:Addr}(K:Nv)(hK:X.K=K)(cM:fu K C)(na:aK K C nm)(he:YE X e ue)(hb:autoParam (attributeBase e nm X.env (eval e X.env)=eval e X.env) ℜ0):YE X (.Attribute e nm pos) (A6 C nm ue):=by
 obtain⟨t,q,r⟩:=he;refine⟨_,Z.fld K hK q hb,fun F ad B σ H μ Q Qt hF l q k=>r F ad B σ H μ _ _ hF l q fun v H1 r1 μ1 v1 f1 k1 q1=>?_⟩
 split at q1
 ·rename_i a0 c ks ts;obtain⟨rfl,q1⟩:=q1
  split at q1
  ·rename_i t e1;have rp:Rep F.K H1 B v (.ins a0 c ks ts):=v1.2
   cases rp with
   |ins n h ll rr =>
    obtain⟨w,e2,rw'⟩:=uP rr e1;exact⟨_,_,_,_,w,rfl,h,cM,na,e2,k w H1 (.tr t) μ1 ⟨v1.rl,rw'⟩ f1.d k1 q1⟩
  ·exact q1.elim
 ·exact q1.elim
end Y
namespace A
theorem A6(C:Addr)(f:Str)(ue:UE)(μ:Mu)(Q:R->Mu->Prop):Y.A6 C f ue μ Q=ue μ fun r μ'=>match r with
 |.tr (.ins _ c ks ts)=>c=C/\(match Y.jt f ks ts with
  |some t=>Q (.tr t) μ'
  |none=>False)
 |_=>False:=rfl
end A
namespace Z
theorem FW{CX:nU}{k:Nat}{f C:Addr}{fd:FuncData}{ps:List Str}{sp:Sp}{E:XK}{x:Str}{p:Pos}(K:Nv)(hK:X.K=K)(M:Mk K C f)(F:a_ X.prog X.w K X.mg X.base CX k f fd ps sp)(hr:bP (k+1) X.A)(hg:Gl X x)(hm:X.mg x=some (.ref C))(hb:Binds K fd ps [])(hx:Passes CX X E)(hdb:autoParam ((x ==("__debug__":Str))=false) ℜ1):
  QE X (.Call (.Name x p) [] [] pos) (jq C sp [] E jo):=by subst hK;exact⟨xZ M F hr hg hm hb .nil hx hdb⟩
theorem wb{st:Stmt}:QS X st (fun _ _ _=>False):=⟨fun _ _ _ _ _ _ h=>h.elim⟩
end Z
end L2
namespace G
local macro_rules|`(tactic|and_intros)=>`(tactic|exact ⟨rfl,rfl,rfl,by decide +kernel,rfl,by decide +kernel,by decide +kernel⟩)
open PySem L2 PySem.Spec PyProof.Rows
variable{b c n:Nat}{α:Type}{a z:Str}{ks ws xs:List Str}{C CD CK dd dk f f_a lc_by_worth lc_code_of lp_by_worth lp_code_of:Addr}{H H':Hp}{d_a d_i fd:FuncData}{B:ba}{Q:VK}{E:XK}{ex:List Addr}{K:Nv}{h:Heap}{mg:Str->Option Value}{l:PySem.W.OpenLaw}{lO_by_worth lO_code_of:Value}{lD_by_worth lD_code_of:Option Addr}{lv_by_worth lv_code_of:Array Value}{lS_by_worth lS_code_of:Array (Option Value)}{q:Program}
noncomputable def top(i:Nat):Stmt:=PySem.Challenge.pw_shortrows_k44_desk_runs.main.body.getD i (.Pass ⟨0,0,0,0⟩)
abbrev fq:Stmt:=top 12
theorem kU:aj ["row"] ["row"] (aa fq):=by and_intros
abbrev eI:Stmt:=top 13
theorem mK:aj ["row","goal"] ["row","goal"] (aa eI):=by and_intros
abbrev pH:Stmt:=top 15
abbrev fG:Stmt:=top 16
abbrev fI:Stmt:=top 17
abbrev eu:Stmt:=top 18
abbrev kc:Stmt:=top 19
abbrev eW:Stmt:=top 21
abbrev gQ:Stmt:=top 22
abbrev kM:Stmt:=top 23
abbrev gg:Stmt:=top 29
abbrev dY:Stmt:=top 30
abbrev jz:Stmt:=top 31
abbrev dS:Stmt:=top 32
abbrev wk:Stmt:=top 33
abbrev gJ:Stmt:=top 34
abbrev ij:Stmt:=top 35
abbrev jV:Stmt:=top 36
abbrev lN:Stmt:=top 43
abbrev f_:Stmt:=top 44
abbrev kL:Stmt:=top 45
abbrev j9:Stmt:=top 46
abbrev dz:Stmt:=top 47
abbrev cP:Stmt:=top 48
abbrev fM:Stmt:=top 49
abbrev fV:Stmt:=top 50
abbrev aQ:Stmt:=inClass (top 52) 0
theorem jk:aj ["self","book"] ["self","book"] (aa aQ):=by and_intros
abbrev bo:Stmt:=inClass (top 52) 1
theorem cL:aj ["self","place","row","many","goal","moved"] ["self","place","row"] (aa bo):=by and_intros
abbrev aP:Stmt:=inClass (top 52) 2
theorem e_:aj ["self","place","many"] ["self","place"] (aa aP):=by and_intros
abbrev aW:Stmt:=inClass (top 52) 3
theorem jA:aj ["self"] ["self"] (aa aW):=by and_intros
abbrev cm:Stmt:=top 53
theorem kP:aj ["rows","first","by"] ["rows","first","by"] (aa cm):=by and_intros
abbrev dF:Stmt:=top 54
theorem gG:aj ["row","first","by","goal"] ["row","first","by"] (aa dF):=by and_intros
abbrev aC:Stmt:=inClass (top 56) 0
theorem gy:aj ["self","given"] ["self","given"] (aa aC):=by and_intros
abbrev aB:Stmt:=inClass (top 56) 1
theorem cS:aj ["self","row","behind","end","goes"] ["self","row","behind","end"] (aa aB):=by and_intros
abbrev aD:Stmt:=inClass (top 56) 2
theorem dn:aj ["self","row","word"] ["self","row"] (aa aD):=by and_intros
abbrev aA:Stmt:=inClass (top 56) 3
theorem b8:aj ["self","row","word","old","other"] ["self","row"] (aa aA):=by and_intros
abbrev ay:Stmt:=inClass (top 56) 4
theorem ft:aj ["self"] ["self"] (aa ay):=by and_intros
abbrev ax:Stmt:=inClass (top 56) 5
theorem fi:aj ["self"] ["self"] (aa ax):=by and_intros
abbrev aw:Stmt:=inClass (top 56) 6
theorem fz:aj ["self"] ["self"] (aa aw):=by and_intros
abbrev ed:Stmt:=top 57
theorem bQ:aj ["program","given","most","machine","turns","at","done","how"] ["program","given","most"] (aa ed):=by and_intros
abbrev cJ:Stmt:=top 60
theorem bD:aj ["text","lines","rows","number","line","row"] ["text"] (aa cJ):=by and_intros
abbrev dw:Stmt:=top 61
theorem nv:aj ["row"] ["row"] (aa dw):=by and_intros
abbrev dP:Stmt:=top 62
theorem eK:aj ["line","greatest_goal","parts","shape","values"] ["line","greatest_goal"] (aa dP):=by and_intros
abbrev eA:Stmt:=top 63
theorem nk:aj ["kind","part","greatest_goal"] ["kind","part","greatest_goal"] (aa eA):=by and_intros
abbrev dh:Stmt:=top 64
theorem gc:aj ["text","greatest","number"] ["text","greatest"] (aa dh):=by and_intros
abbrev dt:Stmt:=top 65
theorem nH:aj ["text"] ["text"] (aa dt):=by and_intros
abbrev jy:Stmt:=top 67
abbrev fE:Stmt:=top 68
abbrev oH:Stmt:=top 69
abbrev kZ:Stmt:=top 70
abbrev lR:Stmt:=top 71
abbrev j2:Stmt:=top 72
abbrev mj:Stmt:=top 73
abbrev aL:Stmt:=inClass (top 78) 0
theorem jg:aj ["self"] ["self"] (aa aL):=by and_intros
abbrev b7:Stmt:=inClass (top 78) 1
theorem j7:aj ["self","line","parts"] ["self","line"] (aa b7):=by and_intros
abbrev bg:Stmt:=inClass (top 78) 2
theorem jY:aj ["self","word","parts"] ["self","word","parts"] (aa bg):=by and_intros
abbrev aX:Stmt:=inClass (top 78) 3
theorem d7:aj ["self","parts","place","row"] ["self","parts"] (aa aX):=by and_intros
abbrev aR:Stmt:=inClass (top 78) 4
theorem jc:aj ["self","parts"] ["self","parts"] (aa aR):=by and_intros
abbrev aG:Stmt:=inClass (top 78) 7
theorem eL:aj ["self","parts","run"] ["self","parts"] (aa aG):=by and_intros
abbrev aH:Stmt:=inClass (top 78) 8
theorem eM:aj ["self","parts","most"] ["self","parts"] (aa aH):=by and_intros
abbrev df:Stmt:=top 79
theorem kH:aj ["text"] ["text"] (aa df):=by and_intros
abbrev cK:Stmt:=top 80
theorem jI:aj ["text"] ["text"] (aa cK):=by and_intros
abbrev cw:Stmt:=top 81
theorem jj:aj ["text"] ["text"] (aa cw):=by and_intros
abbrev mf:Stmt:=top 82
abbrev d0:Stmt:=top 83
theorem tP:aj ["numbers"] ["numbers"] (aa d0):=by and_intros
abbrev di:Stmt:=top 85
theorem mM:aj ["script"] ["script"] (aa di):=by and_intros
abbrev fB:Stmt:=top 86
theorem fZ:aj ["number","turn","one"] ["number","turn"] (aa fB):=by and_intros
abbrev e9:Stmt:=top 87
theorem ia:aj ["deck","most","number"] ["deck","most"] (aa e9):=by and_intros
abbrev i8:Stmt:=top 88
theorem lB:aj [] [] (aa i8):=by and_intros
abbrev de:Stmt:=top 93
theorem ef:aj ["deck","size","top"] ["deck"] (aa de):=by and_intros
abbrev fv:Stmt:=top 94
theorem eO:aj ["deck","goals","some","word","box"] ["deck","goals"] (aa fv):=by and_intros
abbrev dv:Stmt:=top 96
theorem nF:aj ["row"] ["row"] (aa dv):=by and_intros
abbrev cq:Stmt:=top 97
theorem kS:aj ["numbers"] ["numbers"] (aa cq):=by and_intros
abbrev bN:Stmt:=top 98
theorem iK:aj ["found"] ["found"] (aa bN):=by and_intros
abbrev dB:Stmt:=top 99
theorem eV:aj ["desk","line","due","found","good"] ["desk","line","due"] (aa dB):=by and_intros
abbrev cN:Stmt:=top 100
theorem cx:aj ["deck","found","k","number"] ["deck"] (aa cN):=by and_intros
abbrev bU:Stmt:=top 101
theorem dO:aj ["desk","lines"] ["desk"] (aa bU):=by and_intros
abbrev cO:Stmt:=top 102
theorem bj:aj ["deck","desk","program","given","most","how","told","turns","boxes","line","due"] ["deck","desk"] (aa cO):=by and_intros
abbrev gR:Stmt:=top 103
theorem fC:aj ["script","deck","turn","desk","many","k","again"] ["script"] (aa gR):=by and_intros
structure Txt (K:Nv) (mg:Str->Option Value):Prop where
 Hq:mg "abs"=none
 FQ:mg "all"=none
 Eh:mg "dict"=none
 pB:mg "enumerate"=none
 oV:mg "int"=none
 i9:mg "isinstance"=none
 dq:mg "len"=none
 E5:mg "list"=none
 Fu:mg "min"=none
 jJ:mg "range"=none
 Hj:mg "sorted"=none
 gU:mg "str"=none
 Hw:mg "sum"=none
 dC:mg "tuple"=none
 Bt:mg "zip"=none
 mZ:∃ w u,mg "BOXES"=some u/\RelV w u/\∀ H B,Rep K H B w (.cT [.str "a",.str "b",.str "c",.str "d",.str "e",.str "f",.str "g",.str "h"])
 jD:∃ w u,mg "EQUAL_LENGTHS"=some u/\RelV w u/\∀ H B,Rep K H B w (.cT [.int 4,.int 5,.int 3])
 tL:∃ w u,mg "FIGURES"=some u/\RelV w u/\∀ H B,Rep K H B w (.str "0123456789")
 Gb:∃ w u,mg "HALVES"=some u/\RelV w u/\∀ H B,Rep K H B w (.cT [.int 8,.int 128,.int 32768])
 HZ:∃ w u,mg "HEADS"=some u/\RelV w u/\∀ H B,Rep K H B w (.cT [.str "0",.str "10",.str "11"])
 qW:∃ w u,mg "HOW_MANY"=some u/\RelV w u/\∀ H B,Rep K H B w (.cT [.int 9,.int 17,.int 8])
 E9:∃ w u,mg "LONGEST"=some u/\RelV w u/\∀ H B,Rep K H B w (.int 12)
 gZ:∃ w u,mg "MOST_CARRIED_OUT"=some u/\RelV w u/\∀ H B,Rep K H B w (.int 400)
 oA:∃ w u,mg "MOST_ROWS"=some u/\RelV w u/\∀ H B,Rep K H B w (.int 60)
 E1:∃ w u,mg "OF_BOXES"=some u/\RelV w u/\∀ H B,Rep K H B w (.int 2)
 zT:∃ w u,mg "OF_CLASSES"=some u/\RelV w u/\∀ H B,Rep K H B w (.int 1)
 Cw:∃ w u,mg "OF_WORDS"=some u/\RelV w u/\∀ H B,Rep K H B w (.int 0)
 rG:∃ w u,mg "WHOLE"=some u/\RelV w u/\∀ H B,Rep K H B w (.int 65536)
 FO:∃ w u,mg "WIDEST"=some u/\RelV w u/\∀ H B,Rep K H B w (.int 2)
 FX:∃ w u,mg "WIDTHS"=some u/\RelV w u/\∀ H B,Rep K H B w (.cT [.int 4,.int 8,.int 16])
 HX:IX K mg "BOXES"
 kI:∃ d,mg "SHAPES"=some (.ref d)/\ly K d [("put",["box","number"]),("add",["box","box"]),("sub",["box","box"]),("copy",["box","box"]),("tell",["box"]),("hear",["box"]),("jump",["goal"]),("zero",["box","goal"]),("halt",[])]
 mc:∃(C_Machine f___init__ f_place_next f_carry_out f_number_for f_heard_number f_told_numbers f_box_numbers:Addr) (d___init__ d_place_next d_carry_out d_number_for d_heard_number d_told_numbers d_box_numbers:FuncData),mg "Machine"=some (.ref C_Machine)/\fu K C_Machine/\aK K C_Machine "given"/\aK K C_Machine "heard"/\aK K C_Machine "told"/\aK K C_Machine "boxes"/\Mk K C_Machine f___init__/\e7 K "__init__" "Machine.__init__" aC f___init__ d___init__/\Binds K d___init__ ["self","given"] []/\Meth K C_Machine "place_next" f_place_next/\e7 K "place_next" "Machine.place_next" aB f_place_next d_place_next/\Binds K d_place_next ["self","row","behind","end"] []/\Meth K C_Machine "carry_out" f_carry_out/\e7 K "carry_out" "Machine.carry_out" aD f_carry_out d_carry_out/\Binds K d_carry_out ["self","row"] []/\Meth K C_Machine "number_for" f_number_for/\e7 K "number_for" "Machine.number_for" aA f_number_for d_number_for/\Binds K d_number_for ["self","row"] []/\Meth K C_Machine "heard_number" f_heard_number/\e7 K "heard_number" "Machine.heard_number" ay f_heard_number d_heard_number/\Binds K d_heard_number ["self"] []/\Meth K C_Machine "told_numbers" f_told_numbers/\e7 K "told_numbers" "Machine.told_numbers" ax f_told_numbers d_told_numbers/\Binds K d_told_numbers ["self"] []/\Meth K C_Machine "box_numbers" f_box_numbers/\e7 K "box_numbers" "Machine.box_numbers" aw f_box_numbers d_box_numbers/\Binds K d_box_numbers ["self"] []
 JS:∃(C_Kept f___init__ f_put_in f_take_out f_program:Addr) (d___init__ d_put_in d_take_out d_program:FuncData),mg "Kept"=some (.ref C_Kept)/\fu K C_Kept/\aK K C_Kept "book"/\aK K C_Kept "rows"/\Mk K C_Kept f___init__/\e7 K "__init__" "Kept.__init__" aQ f___init__ d___init__/\Binds K d___init__ ["self","book"] []/\Meth K C_Kept "put_in" f_put_in/\e7 K "put_in" "Kept.put_in" bo f_put_in d_put_in/\Binds K d_put_in ["self","place","row"] []/\Meth K C_Kept "take_out" f_take_out/\e7 K "take_out" "Kept.take_out" aP f_take_out d_take_out/\Binds K d_take_out ["self","place"] []/\Meth K C_Kept "program" f_program/\e7 K "program" "Kept.program" aW f_program d_program/\Binds K d_program ["self"] []
 JO:∃(C_Desk f___init__ f_ask f_change f_put_row f_take_row f_run_shown f_asked_run:Addr) (d___init__ d_ask d_change d_put_row d_take_row d_run_shown d_asked_run:FuncData),mg "Desk"=some (.ref C_Desk)/\fu K C_Desk/\aK K C_Desk "kept"/\Mk K C_Desk f___init__/\e7 K "__init__" "Desk.__init__" aL f___init__ d___init__/\Binds K d___init__ ["self"] []/\Meth K C_Desk "ask" f_ask/\e7 K "ask" "Desk.ask" b7 f_ask d_ask/\Binds K d_ask ["self","line"] []/\Meth K C_Desk "change" f_change/\e7 K "change" "Desk.change" bg f_change d_change/\Binds K d_change ["self","word","parts"] []/\Meth K C_Desk "put_row" f_put_row/\e7 K "put_row" "Desk.put_row" aX f_put_row d_put_row/\Binds K d_put_row ["self","parts"] []/\Meth K C_Desk "take_row" f_take_row/\e7 K "take_row" "Desk.take_row" aR f_take_row d_take_row/\Binds K d_take_row ["self","parts"] []/\Meth K C_Desk "run_shown" f_run_shown/\e7 K "run_shown" "Desk.run_shown" aG f_run_shown d_run_shown/\Binds K d_run_shown ["self","parts"] []/\Meth K C_Desk "asked_run" f_asked_run/\e7 K "asked_run" "Desk.asked_run" aH f_asked_run d_asked_run/\Binds K d_asked_run ["self","parts"] []
 Ak:m9 K mg "by_worth"
 BG:m9 K mg "code_of"
section
variable {P:Program} {w:World} {K:Nv} {mg:Str->Option Value} {base:Heap}
local macro_rules | `(tactic| walk_at "lc") => `(tactic| first | exact Or.inl rfl | exact Or.inr rfl)
local macro_rules | `(tactic| wp_walk using $ts,*) => do
  let ids := ("L2.A.A6 L2.A.vK L2.A.oK L2.A.Fg L2.A.vE L2.A.t7 L2.A.zo L2.A3.AU L2.A3.Jm L2.A3.iA L2.A3.EJ L2.A3.Ii L2.A3.Ck L2.A3.BD L2.A3.gT L2.A3.oN L2.A3.I0 L2.A3.Ir L2.A3.Je L2.A3.Gm L2.A3.add_l L2.A3.EZ L2.A3.IV L2.A3.Jc L2.A3.IT L2.A3.EY L2.A3.HH L2.A3.Gh L2.A3.Fm L2.A3.Hr L2.A3.IM L2.A3.IJ L2.A3.IS L2.A3.Jo L2.A.Fz L2.A.EW L2.A.FG L2.A.CZ L2.A.zm L2.A.yS L2.A.rS L2.A.uC L2.A.oJ L2.A.Ai L2.A.vP L2.A.HC L2.A.s_ L2.A.sS L2.A.yP L2.A.HQ L2.A.yN L2.A.yL L2.A.uK L2.A.AV L2.A.yZ L2.A.EF L2.A.jR L2.A.sQ L2.A.uG L2.A.Fd L2.A.Ji L2.A.E3 L2.A.Ga L2.A.EU L2.A.oh L2.A.Gs L2.A.Iq L2.A.IZ L2.A.Br L2.A.eU L2.A.Fy L2.A.p8 L2.A.Il L2.A.Ia L2.A.iE L2.A.Ip L2.A.Jw L2.A.Jf L2.A.J1 L2.A.Di L2.A.p6 L2.A.lu L2.A.JE L2.A.JX L2.A.vp L2.A.FT L2.A.GV L2.A.Fi L2.A.HL L2.A.HV L2.A.gS L2.A.AB L2.A.sJ L2.A.zd L2.A.HP L2.A.iZ L2.A.xW L2.A.j4 L2.A.Ie L2.A.iN L2.A.Hk L2.A.J_ L2.A.Jz L2.A.IW L2.A.Gi L2.A.F_ L2.A.FH L2.A.IP L2.A.I_ L2.A.IU L2.A.IG L2.A.Jg Sl.box Sl.put gC L2.putAll BV oo qV L2.Y.trees L2.Y.zg L2.Y.D_ L2.Y.vh L2.Y.Iw L2.Y.Ig List.tail_cons Nat.zero_le startM z_ cV Option.bind_some Option.map_some List.map_cons List.map_nil List.length_cons List.length_nil List.length_map List.replicate List.cons_append List.nil_append List.append_nil List.getElem?_cons_zero List.getElem?_cons_succ List.set_cons_zero List.set_cons_succ List.nodup_nil List.nodup_cons List.not_mem_nil List.mem_cons not_false_eq_true false_implies implies_true forall_eq or_false and_true true_and and_self true_or Bh zC FU GF Nat.reduceAdd Nat.reduceSub Nat.reduceLeDiff Nat.reduceLT Bool.false_eq_true Bool.not_true Bool.not_false decide_eq_true_eq Bool.not_eq_true' decide_eq_false_iff_not Int.reduceToNat Int.reducePow reduceCtorEq exists_eq_left exists_eq_left' L2.A4.JM L2.A4.JF L2.A4.JG L2.A4.Gu L2.A4.Fp L2.A4.FF L2.A4.ET L2.A4.BU L2.A4.oY".splitOn " ").toArray.map fun n => Lean.mkIdent n.toName
  let pre:=ids.filter fun n=>n.getId.toString.startsWith "L2.A"
  `(tactic| simp only [↓reduceIte, $[↓$ts:term],*, $[↓$pre:term],*, $[$ids:ident],*, $[$ts:term],*])
local macro_rules | `(tactic| walk_at "rt") => `(tactic| wp_walk using and_self)
local macro_rules|`(tactic|rfl')=>`(tactic|wp_walk using and_self)
local macro_rules|`(tactic|symm)=>do
  let n:=Lean.mkIdent `N
  let h:=Lean.mkIdent `hN
  `(tactic|(refine $h _ ?_;clear $h $n;refine aI fun $n $h=>?_))
local macro_rules|`(tactic|ac_rfl)=>do
  let n:=Lean.mkIdent `N
  let h:=Lean.mkIdent `hN
  `(tactic|(refine $h _ ?_;clear $h $n))
local macro_rules|`(tactic|right)=>`(tactic|walk_at "lc")
local macro_rules|`(tactic|exists $ts,*)=>`(tactic|wp_walk using $ts,*)
local macro_rules|`(tactic|left)=>do
  let i:=#[`args,`Qt,`hl,`h,`f,`cdv,`A,`outer,`s,`H,`E,`hr].map Lean.mkIdent
  let u:=Lean.mkIdent `hu
  `(tactic|(intro $[$i:ident]*;have $u:ident:=aS $(Lean.mkIdent `hr)))
noncomputable def nI:List Int->List L2.T:=List.map L2.T.int
theorem xM(xs:List Int):(nI xs).length=xs.length:=Kc ..
theorem Cr(xs ys:List Int):nI (xs++ys)=nI xs++nI ys:=Kx
theorem yU(xs:List Int)(a b:Option Int):Y.bS (nI xs) a b=nI (Y.bS xs a b):=by
 unfold Y.bS nI;rw[Kc,Ml,Mm]
noncomputable def fJ(n:Nat)(d:L2.T):Prop:=∃(m:Nat) (i t z:Int),d=.lst [.il m,.int i,.int t,.int z]/\0<=i/\i<=m/\m<=63/\0<=t/\t<=n
theorem fJ.mono{m:Nat}{d:L2.T}(h:fJ n d)(hm:n<=m):fJ m d:=by
 obtain⟨k,i,t,z,h1,h2,h3,h4,h5,h6⟩:=h;exact⟨k,i,t,z,h1,h2,h3,h4,h5,by lia⟩
noncomputable def E_:gj:=fun args Q=>∃ c k:Int,args=[.int c,.int k]/\0<=k/\k<2^60/\∀ v:Int,Q (.tr (.int v)) []
abbrev k12z(P w K mg base):=ai P w K mg base aN 1 "_law_mix" ["number","turn"] (spT K [false,false] E_)
theorem Eg(T:Txt K mg)(F:HasFn K mg "_law_mix" fB ["number","turn"]):k12z P w K mg base:=by
 refine F.jP fZ [false,false] rfl (by decide) ?_;left;obtain⟨c,k,rfl,h0,h1,q⟩:=h;refine⟨_,(Y.ah (Y.set (i:=2) fZ.nd rfl (by right) (Y.op cG Y.cc (Y.op (Y.bt K rfl) Y.bq (Y.op (Y.bt K rfl) Y.bq (Y.op (Y.bt K rfl) Y.bq (Y.op cG Y.cc (Y.vS 0) Y.int) (Y.op (Y.eC K rfl) Y.dc (Y.op (Y.eC K rfl) Y.dc Y.int (Y.vS 1)) (Y.vS 1))) (Y.op (Y.eC K rfl) Y.dc Y.int (Y.vS 1))) Y.int) Y.int))
   (Y.ah (Y.set (i:=2) fZ.nd rfl (by right) (Y.op cG Y.cc (Y.op (Y.eC K rfl) Y.dc (Y.vS 2) (Y.vS 2)) Y.int))
   (Y.az (Y.ret (Y.op Y.nR Y.cc (Y.op cG Y.cc (Y.op (Y.bt K rfl) Y.bq (Y.op (Y.eC K rfl) Y.dc (Y.vS 2) Y.int) (Y.vS 1)) Y.int) Y.int))))),?_⟩
 refine cW fun N hN=>?_;rfl';refine⟨by decide,.inl (by decide),.inr ⟨by lia,by lia⟩,.inl (by decide),by decide,?_⟩
 ac_rfl;generalize hx:(c % 1999999927+7001*k*k+40009*k+17) % 2147483629=x;have hx1:0<=x/\x<2147483629:=by rw[<- hx];exact⟨Lq _ (by decide),La _ (by decide)⟩
 refine cW fun N hN=>?_;rfl';refine⟨.inl ⟨by lia,by lia⟩,by decide,?_⟩
 ac_rfl;generalize hy:x*x % 2147483587=y;have hy1:0<=y/\y<2147483587:=by rw[<- hy];exact⟨Lq _ (by decide),La _ (by decide)⟩
 rfl';exact⟨.inr (by decide),by decide,⟨by decide,by decide⟩,q _⟩
noncomputable def wD:gj:=fun args Q=>∃ ns:List Int,args=[.gp (nI ns)]/\∀ d,fJ 0 d->Q (.fr d) []
theorem Az(T:Txt K mg)(F:HasFn K mg "_law_deck" di ["script"]):ai P w K mg base aN 1 "_law_deck" ["script"] (spT K [false] wD):=by
 refine F.jP mM [false] rfl (by decide) ?_;left;obtain⟨ns,rfl,q⟩:=h;refine⟨_,(Y.az (Y.ret (Y.e8 (Y.jT (osc:=aa di) (ON:=["script"]) (own:=["cell"]) (N:=["cell","script"]) ⟨rfl,by decide +kernel,rfl,by decide +kernel,by decide +kernel,by decide +kernel,by decide +kernel,by decide +kernel⟩ rfl rfl rfl rfl (Y.anyS K rfl (Y.dU K rfl (Y.vS 0) Y.nT (Y.oG Y.int))) (fun _ _ _ _=>(Z.bB (i:=0) (show List.Nodup (["cell","script"]:List Str) by decide +kernel) rfl (by right))) (fun _ _ _ _=>Y.nW) (fun _ _ _ _=>(Y.cb y1 Y.CA rfl T.Hq (by decide +kernel) (Y.cons (Y.vS 0) Y.nil)))) (Y.cons Y.int (Y.cons Y.int (Y.cons (Y.op cG Y.cc (Y.op (Y.bt K rfl) Y.bq (Y.cb (Y.tY K rfl rfl) Y.Dr rfl T.Hw (by decide +kernel) (Y.cons (Y.dU K rfl (Y.vS 0) Y.nT (Y.oG Y.int)) Y.nil)) (Y.op (Y.eC K rfl) Y.dc Y.int (Y.cb (Y.cE K rfl) Y.eQ rfl T.dq (by decide +kernel) (Y.cons (Y.vS 0) Y.nil)))) Y.int) Y.nil)))))),?_⟩
 obtain⟨ms,ec,hm⟩:∃ ms:List Int,Y.bS (nI ns) none (some 63)=nI ms/\ms.length<=63:=by
  refine⟨Y.bS ns none (some 63),yU _ _ _,?_⟩;unfold Y.bS;rw[show (some (63:Int))=some ((63:Nat):Int) from rfl,HT.dy,HT.gx,KD];lia
 exists ec;refine eN (fun rest acc μ=>∃(as bs:List Int),rest=nI as/\acc=nI bs/\bs.length+as.length=ms.length/\(∀ z∈bs,0<=z)/\μ=[.tr (.gp (nI ns))]) ⟨ms,[],rfl,rfl,by simp,fun z hz=>(nomatch hz),rfl⟩ ?_ ?_
 ·rintro acc μ ⟨as,bs,e,rfl,h1,h2,rfl⟩;refine⟨trivial,?_⟩;exists ec;exact⟨ms,rfl,.inl (by decide),by decide,⟨bs,rfl,h2⟩,q _ ⟨bs.length,0,0,_,by rw[xM],by decide,by lia,by lia,by decide,by decide⟩⟩
 ·rintro t r acc μ M ⟨as,bs,e,rfl,h1,h2,rfl⟩ k
  cases as with
  |nil=>cases e
  |cons a as =>
   cases e;refine⟨trivial,?_,?_⟩
   ·rw[xM];exact Kr (show bs.length<64 by rw[Ks] at h1;lia) (by decide)
   ·rfl';refine k _ _ ⟨as,bs++[if a<0 then -a else a],rfl,(Cr bs [if a<0 then -a else a]).symm,?_,fun z hz=>?_,rfl⟩
    ·rw[Kv,<- h1];simp only[Ks,Ld];lia
    ·rcases Ln.mp hz with hz|hz
     ·exact h2 z hz
     ·rw[K9.mp hz];split<;>lia
noncomputable def jv:gj:=fun args Q=>∃(d:L2.T) (m:Int) (n:Nat),args=[d,.int m]/\fJ n d/\n<2^50/\0<m/\m<2^50/\∀(v:Int) (d':L2.T),0<=v->v<m->fJ (n+1) d'->Q (.tr (.int v)) [d']
abbrev k0z(P w K mg base):=ai P w K mg base aN 2 "_law_draw" ["deck","most"] (spT K [true,false] jv)
theorem za(T:Txt K mg)(F:HasFn K mg "_law_draw" e9 ["deck","most"])(h_law_mix:k12z P w K mg base):k0z P w K mg base:=by
 refine F.jP ia [true,false] rfl (by decide) ?_;left;obtain⟨_,m,n,rfl,⟨k,i,t,z,rfl,i0,i1,k63,t0,t1⟩,hn,hm0,hm1,q⟩:=h;refine⟨_,(Y.ah (Y.asg (Y.op (Y.bt K rfl) Y.bq (Y.ix (Y.dR K rfl) Y.bz (Y.vS 0) Y.int) Y.int) (Y.vV (Y.vS 0) Y.int))
   (Y.ah (Y.dJ (Y.aZ (Y.cY K rfl (K5 hu)) Y.fQ (Y.ix (Y.dR K rfl) Y.bz (Y.vS 0) Y.int) (Y.cb tS Y.zv rfl T.dq (by decide +kernel) (Y.cons (Y.ix (Y.dR K rfl) Y.bz (Y.vS 0) Y.int) Y.nil))) (Y.az (Y.ret (Y.op cG Y.cc (Y.fn K rfl h_law_mix (hr.mono (by decide)) rfl au (Y.cons (Y.ix (Y.dR K rfl) Y.bz (Y.vS 0) Y.int) (Y.cons (Y.ix (Y.dR K rfl) Y.bz (Y.vS 0) Y.int) Y.nil))) (Y.vS 1)))) Y.bL)
   (Y.ah (Y.set (i:=2) ia.nd rfl (by right) (Y.ix GK Y.Ee (Y.ix (Y.dR K rfl) Y.bz (Y.vS 0) Y.int) (Y.ix (Y.dR K rfl) Y.bz (Y.vS 0) Y.int)))
   (Y.ah (Y.dJ (Y.aZ iI Y.gM (Y.vS 2) (Y.op qr Y.cc Y.int Y.int)) (Y.ah (Y.asg (Y.op (Y.bt K rfl) Y.bq (Y.ix (Y.dR K rfl) Y.bz (Y.vS 0) Y.int) Y.int) (Y.vV (Y.vS 0) Y.int))
   (Y.az (Y.ret (Y.op cG Y.cc (Y.fn K rfl h_law_mix (hr.mono (by decide)) rfl au (Y.cons (Y.vS 2) (Y.cons (Y.ix (Y.dR K rfl) Y.bz (Y.vS 0) Y.int) Y.nil))) (Y.vS 1))))) Y.bL)
   (Y.ah (Y.asg (Y.op Y.nR Y.cc (Y.vS 2) (Y.vS 1)) (Y.FL (Y.ix (Y.dR K rfl) Y.bz (Y.vS 0) Y.int) (Y.ix (Y.dR K rfl) Y.bz (Y.vS 0) Y.int)))
   (Y.az (Y.ret (Y.op cG Y.cc (Y.vS 2) (Y.vS 1))))))))),?_⟩
 have x1:mx 4 1=some 1:=by decide
 have x2:mx 4 2=some 2:=by decide
 refine cW fun N hN=>?_;exists x2;ac_rfl;refine cW fun N hN=>?_;rfl';by_cases e1:i=k
 ·exists Kh e1;refine⟨by lia,_,_,rfl,by lia,by lia,fun v=>?_⟩
  rfl';exact⟨hm0,q _ _ (Lq _ (by lia)) (La _ hm0) ⟨k,i,t+1,z,rfl,i0,i1,k63,by lia,by lia⟩⟩
 ·exists Kf e1;refine⟨by lia,hN _ ?_⟩;clear hN N
  refine cW fun N hN=>?_;rfl';refine⟨by lia,i0,by lia,fun v v0=>hN _ ?_⟩;clear hN N
  refine cW fun N hN=>?_;rfl';refine⟨⟨by decide,by decide,by decide⟩,?_⟩
  by_cases e2:v<1000000000000000000
  ·rw[Kh e2];refine cW fun M hM=>?_;exists x1;refine hM _ ?_;clear hM M;rfl';refine⟨_,_,rfl,by lia,by lia,fun v=>?_⟩
   rfl';exact⟨hm0,q _ _ (Lq _ (by lia)) (La _ hm0) ⟨k,i+1,t+1,z,rfl,by lia,by lia,k63,by lia,by lia⟩⟩
  ·rw[Kf e2];ac_rfl;refine cW fun M hM=>?_;rfl';refine⟨⟨hm0,by lia⟩,by lia,i0,by lia,Int.ediv_nonneg v0 (by lia),hM _ ?_⟩;clear hM M
   rfl';exact⟨hm0,q _ _ (Lq _ (by lia)) (La _ hm0) ⟨k,i,t+1,z,rfl,i0,i1,k63,by lia,by lia⟩⟩
theorem pz(u:_root_.Fin 2):u=0\/u=1:=by revert u;decide
theorem AK(u:_root_.Fin 3):u=0\/u=1\/u=2:=by revert u;decide
theorem EM(h:b<8):b=0\/b=1\/b=2\/b=3\/b=4\/b=5\/b=6\/b=7:=by lia
theorem Gn{l:List α}(h:l.length=8):∃ a b c d e f g i,l=[a,b,c,d,e,f,g,i]:=by
 rcases l with _|⟨a,_|⟨b,_|⟨c,_|⟨d,_|⟨e,_|⟨f,_|⟨g,_|⟨i,_|⟨j,l⟩⟩⟩⟩⟩⟩⟩⟩⟩<;>first|exact⟨_,_,_,_,_,_,_,_,rfl⟩ | (exfalso;revert h;simp)
inductive Row where
 |put (b n:Nat)|two (w:Fin 3) (a b:Nat)|one (w:Fin 2) (b:Nat)|jump (g:Nat)|zero (b g:Nat)|halt
 deriving DecidableEq
noncomputable def bE(i:Nat):Str:=⟨#[97+i]⟩
noncomputable def w2:Fin 3->Str
 |0=>"add"
 |1=>"sub"
 |2=>"copy"
noncomputable def w1:Fin 2->Str
 |0=>"tell"
 |1=>"hear"
inductive cX where
 |s (z:Str)|n (k:Nat)
noncomputable def cX.t:cX->L2.T
 |.s z=>.str z
 |.n k=>.int (k:Nat)
noncomputable def Row.ps:Row->List cX
 |.put b n=>[.s "put",.s (bE b),.n n]
 |.two w a b=>[.s (w2 w),.s (bE a),.s (bE b)]
 |.one w b=>[.s (w1 w),.s (bE b)]
 |.jump g=>[.s "jump",.n g]
 |.zero b g=>[.s "zero",.s (bE b),.n g]
 |.halt=>[.s "halt"]
noncomputable def Row.t(r:Row):L2.T:=.tup (r.ps.map cX.t)
noncomputable def Row.Ok(size:Nat):Row->Prop
 |.put b n=>b<8/\n<65536
 |.two _ a b=>a<8/\b<8
 |.one _ b=>b<8
 |.jump g=>g<=size
 |.zero b g=>b<8/\g<=size
 |.halt=>True
theorem Row.Ok.mono{a:Nat}{r:Row}(h:r.Ok a)(hm:a<=b):r.Ok b:=by
 cases r<;>simp only[Row.Ok] at h ⊢<;>lia
theorem yC{k:Int}(h0:0<=k)(h1:k<8):c_ (Str.ofString "abcdefgh").cps.toList k=some (97+k.toNat):=by
 have e:(Str.ofString "abcdefgh").cps.toList=[97,98,99,100,101,102,103,104]:=by decide +kernel
 rw[e];obtain⟨n,rfl⟩:∃ n:Nat,k=n:=⟨k.toNat,by lia⟩
 unfold c_ mx;have hn:n<8:=by lia
 rw[Kh (by lia),Kh (by simp;lia)]
 show [97,98,99,100,101,102,103,104][((n:Nat):Int).toNat]?=some (97+((n:Nat):Int).toNat);rw[Lc];rcases EM hn with rfl|rfl|rfl|rfl|rfl|rfl|rfl|rfl<;>rfl
theorem CN{xs:List L2.T}{i:Int}(h0:0<=i)(h1:i<xs.length):∃ t,t∈xs/\c_ xs i=some t:=by
 obtain⟨n,rfl⟩:∃ n:Nat,i=n:=⟨i.toNat,by lia⟩
 have hn:n<xs.length:=by lia
 exact⟨xs[n],KS hn,dA (Kd hn)⟩
noncomputable def y_:gj:=fun args Q=>args=[]/\Q (.fr (.lst [.str "put",.str "add",.str "sub",.str "copy",.str "tell",.str "hear",.str "jump",.str "zero",.str "halt"])) []
theorem EE(T:Txt K mg)(F:HasFn K mg "_law_words" i8 []):ai P w K mg base aN 1 "_law_words" [] (spT K [] y_):=by
 refine F.jP lB [] rfl (by decide) (fun args Qt hl h f cdv A outer s H E hr=>?_)
 obtain⟨rfl,q⟩:=h;refine⟨_,(Y.az (Y.ret (Y.lst (Y.fw rfl rfl)))),?_⟩;rfl';exact⟨by decide,q⟩
noncomputable def rT:gj:=fun args Q=>∃(d:L2.T) (n:Nat),args=[d]/\fJ n d/\n<2^40/\∀(v:Nat) (d':L2.T),fJ (n+2) d'->v<65536->Q (.tr (.int (v:Int))) [d']
theorem uD(T:Txt K mg)(F:HasFn K mg "_law_number" de ["deck"])(h_law_draw:k0z P w K mg base):ai P w K mg base aN 3 "_law_number" ["deck"] (spT K [true] rT):=by
 refine F.jP ef [true] rfl (by decide) ?_;left;obtain⟨sd,n,rfl,hs,hn,q⟩:=h;refine⟨_,(Y.ah (Y.set (i:=1) ef.nd rfl (by right) (Y.fn K rfl h_law_draw (hr.mono (by decide)) rfl au (Y.cons (Y.vS 0) (Y.cons Y.int Y.nil))))
   (Y.ah (Y.dJ (Y.aZ (Y.cY K rfl (K5 hu)) Y.fQ (Y.vS 1) Y.int) (Y.az (Y.ret Y.int)) Y.bL)
   (Y.ah (Y.set (i:=2) ef.nd rfl (by right) (Y.op CG Y.cc Y.int (Y.op kC Y.rW (Y.vS 1) Y.int)))
   (Y.az (Y.ret (Y.op (Y.bt K rfl) Y.bq (Y.vS 2) (Y.fn K rfl h_law_draw (hr.mono (by decide)) rfl au (Y.cons (Y.vS 0) (Y.cons (Y.vS 2) Y.nil))))))))),?_⟩
 refine cW fun N hN=>?_;rfl';refine⟨sd,17,n,rfl,hs,by lia,by decide,by decide,fun z s1 z0 z1 hs1=>?_⟩
 rfl';ac_rfl;refine cW fun N hN=>?_;by_cases a0:z=0
 ·exists Kh a0;exact q 0 s1 (hs1.mono (by lia)) (by decide)
 ·exists Kf a0;ac_rfl;refine cW fun N hN=>?_;rfl';refine⟨⟨by lia,by lia,by decide⟩,hN _ ?_⟩;clear hN N
  obtain⟨j,ej,hj⟩:∃ j:Nat,(z-1).toNat=j/\j<=15:=⟨_,rfl,by lia⟩
  rw[ej,Int.one_mul];have p1:(0:Int)<2^j:=Int.pow_pos (by decide)
  have p2:(2:Int)^j<=2^15:=by
   have:2^j<=2^15:=Mv (by decide) hj
   exact_mod_cast this
  generalize (2:Int)^j=p at p1 p2;rfl';refine⟨s1,p,n+1,rfl,hs1,by lia,p1,by lia,fun v s2 v0 v1 hs2=>?_⟩
  rfl';obtain⟨k,ek⟩:∃ k:Nat,p+v=k:=⟨(p+v).toNat,by lia⟩
  rw[ek];exact q k s2 hs2 (by lia)
theorem two8{c:Int}(h0:0<=c)(h1:c<2):∃ m:Int,c_ [L2.T.int 2,.int 8] c=some (.int m)/\0<m/\m<=8:=by
 have:c=0\/c=1:=by lia
 rcases this with rfl|rfl
 ·exact⟨2,rfl,by decide,by decide⟩
 ·exact⟨8,rfl,by decide,by decide⟩
noncomputable def yY:gj:=fun args Q=>∃(d:L2.T) (many n:Nat),args=[d,.int (many:Int)]/\fJ n d/\n<2^38/\many<1000/\∀(r:Row) (d':L2.T),r.Ok many->fJ (n+5) d'->Q (.tr r.t) [d']
abbrev k13z(P w K mg base):=ai P w K mg base aN 4 "_law_row" ["deck","goals"] (spT K [true,false] yY)
theorem DJ(T:Txt K mg)(F:HasFn K mg "_law_row" fv ["deck","goals"])(h_law_draw:k0z P w K mg base)(h_law_number:ai P w K mg base aN 3 "_law_number" ["deck"] (spT K [true] rT)):
  k13z P w K mg base:=by
 refine F.jP eO [true,false] rfl (by decide) ?_;left;obtain⟨sd,many,n,rfl,hs,hn,hmy,q⟩:=h;refine⟨_,(Y.ah (Y.set (i:=2) eO.nd rfl (by right) (Y.lst (Y.fw rfl rfl)))
   (Y.ah (Y.set (i:=3) eO.nd rfl (by right) (Y.ix (Y.dR K rfl) Y.bz (Y.vS 2) (Y.fn K rfl h_law_draw (hr.mono (by decide)) rfl au (Y.cons (Y.vS 0) (Y.cons Y.int Y.nil)))))
   (Y.ah (Y.set (i:=4) eO.nd rfl (by right) (Y.ix (Y.dR K rfl) Y.bz Y.str (Y.fn K rfl h_law_draw (hr.mono (by decide)) rfl au (Y.cons (Y.vS 0) (Y.cons (Y.ix (Y.dR K rfl) Y.bz (Y.lst (Y.fw rfl rfl)) (Y.fn K rfl h_law_draw (hr.mono (by decide)) rfl au (Y.cons (Y.vS 0) (Y.cons Y.int Y.nil)))) Y.nil)))))
   (Y.ah (Y.dJ (Y.aZ (Y.cY K rfl (K5 hu)) Y.fQ (Y.vS 3) Y.str) (Y.az (Y.ret (Y.tup (Y.cons (Y.vS 3) (Y.cons (Y.vS 4) (Y.cons (Y.fn K rfl h_law_number (hr.mono (by decide)) rfl au (Y.cons (Y.vS 0) Y.nil)) Y.nil)))))) Y.bL)
   (Y.ah (Y.dJ (Y.aZ (Y.gX K rfl) Y.lp (Y.vS 3) (Y.tup (Y.fw rfl rfl))) (Y.az (Y.ret (Y.tup (Y.cons (Y.vS 3) (Y.cons (Y.vS 4) (Y.cons (Y.ix (Y.dR K rfl) Y.bz Y.str (Y.fn K rfl h_law_draw (hr.mono (by decide)) rfl au (Y.cons (Y.vS 0) (Y.cons (Y.ix (Y.dR K rfl) Y.bz (Y.lst (Y.fw rfl rfl)) (Y.fn K rfl h_law_draw (hr.mono (by decide)) rfl au (Y.cons (Y.vS 0) (Y.cons Y.int Y.nil)))) Y.nil)))) Y.nil)))))) Y.bL)
   (Y.ah (Y.dJ (Y.aZ (Y.gX K rfl) Y.lp (Y.vS 3) (Y.tup (Y.fw rfl rfl))) (Y.az (Y.ret (Y.tup (Y.cons (Y.vS 3) (Y.cons (Y.vS 4) Y.nil))))) Y.bL)
   (Y.ah (Y.dJ (Y.aZ (Y.cY K rfl (K5 hu)) Y.fQ (Y.vS 3) Y.str) (Y.az (Y.ret (Y.tup (Y.cons (Y.vS 3) (Y.cons (Y.fn K rfl h_law_draw (hr.mono (by decide)) rfl au (Y.cons (Y.vS 0) (Y.cons (Y.op (Y.bt K rfl) Y.bq (Y.vS 1) Y.int) Y.nil))) Y.nil))))) Y.bL)
   (Y.ah (Y.dJ (Y.aZ (Y.cY K rfl (K5 hu)) Y.fQ (Y.vS 3) Y.str) (Y.az (Y.ret (Y.tup (Y.cons (Y.vS 3) (Y.cons (Y.vS 4) (Y.cons (Y.fn K rfl h_law_draw (hr.mono (by decide)) rfl au (Y.cons (Y.vS 0) (Y.cons (Y.op (Y.bt K rfl) Y.bq (Y.vS 1) Y.int) Y.nil))) Y.nil)))))) Y.bL)
   (Y.az (Y.ret (Y.tup (Y.cons (Y.vS 3) Y.nil)))))))))))),?_⟩
 refine cW fun N hN=>?_;rfl';refine⟨by decide,hN _ ?_⟩;clear hN N
 refine cW fun N hN=>?_;rfl';refine⟨sd,12,n,rfl,hs,by lia,by decide,by decide,fun c s1 c0 c1 hs1=>?_⟩
 obtain⟨v,hv,ha⟩:=CN (xs:=[.str "put",.str "put",.str "add",.str "sub",.str "copy",.str "tell",.str "tell",.str "hear",.str "jump",.str "zero",.str "zero",.str "halt"]) c0 c1;exists ha;clear ha c0 c1;ac_rfl;refine cW fun N hN=>?_;rfl';refine⟨by decide,s1,2,n+1,rfl,hs1,by lia,by decide,by decide,fun c s2 c0 c1 hs2=>?_⟩
 obtain⟨m,em,m0,m8⟩:=two8 c0 c1;exists em;refine⟨s2,m,n+2,rfl,hs2,by lia,m0,by lia,fun b s3 b0 b1 hs3=>?_⟩
 have hb:=yC b0 (by lia)
 exists hb;refine⟨by decide +kernel,?_⟩
 refine hN _ ?_;clear hN N em c0 c1;obtain⟨bn,rfl⟩:∃ bn:Nat,b=bn:=⟨b.toNat,by lia⟩
 have hb8:bn<8:=by lia
 rw[Lc];generalize hS:Sl.bx _=S0;show Y.zR _ _ _ [.pb s3,.tr (.int (many:Int)),S0,.tr v,.tr (.str (bE bn))];have hv6:v=.str "put"\/(∃ w,v=.str (w2 w))\/(∃ w,v=.str (w1 w))\/v=.str "jump"\/v=.str "zero"\/v=.str "halt":=by
  simp only[Kn,K4,L3] at hv;rcases hv with h|h|h|h|h|h|h|h|h|h|h|h<;>subst h<;>first|exact .inl rfl|exact .inr (.inl ⟨0,rfl⟩)|exact .inr (.inl ⟨1,rfl⟩)|exact .inr (.inl ⟨2,rfl⟩)|exact .inr (.inr (.inl ⟨0,rfl⟩))|exact .inr (.inr (.inl ⟨1,rfl⟩))|exact .inr (.inr (.inr (.inl rfl)))|exact .inr (.inr (.inr (.inr (.inl rfl))))|exact .inr (.inr (.inr (.inr (.inr rfl))))
 clear hv;refine cW fun N hN=>?_;rcases hv6 with rfl|⟨u,rfl⟩|⟨u,rfl⟩|hv
 ·exists (show (Str.ofString "put"=Str.ofString "put")=True from eq_true rfl),Md;refine⟨s3,n+3,rfl,hs3,by lia,fun k s4 hs4 k1=>?_⟩
  rfl';exact⟨by decide,q (.put bn k) s4 ⟨hb8,k1⟩ hs4⟩
 ·have n1:∀ u,w2 u≠"put":=by decide +kernel
  have i1:∀ u,Y.gA (.str (w2 u)) [.str "add",.str "sub",.str "copy"]=true:=by decide +kernel
  exists Kf (n1 u);ac_rfl;refine cW fun N hN=>?_;exists i1 u;refine⟨by decide,rfl,rfl,by decide,s3,2,n+3,rfl,hs3,by lia,by decide,by decide,fun c s4 c0 c1 hs4=>?_⟩
  obtain⟨m,em,m0,m8⟩:=two8 c0 c1;exists em;refine⟨s4,m,n+4,rfl,hs4,by lia,m0,by lia,fun b s5 b0 b1 hs5=>?_⟩
  have hb:=yC b0 (by lia)
  exists hb;exact⟨by decide +kernel,by decide,q (.two u bn b.toNat) s5 ⟨hb8,by lia⟩ hs5⟩
 ·have n1:∀ u,w1 u≠"put":=by decide +kernel
  have i1:∀ u,Y.gA (.str (w1 u)) [.str "add",.str "sub",.str "copy"]=false:=by decide +kernel
  have i2:∀ u,Y.gA (.str (w1 u)) [.str "tell",.str "hear"]=true:=by decide +kernel
  exists Kf (n1 u);ac_rfl;refine cW fun N hN=>?_;exists i1 u;refine⟨by decide,rfl,rfl,?_⟩
  ac_rfl;refine cW fun N hN=>?_;exists i2 u;exact⟨by decide,rfl,rfl,by decide,q (.one u bn) s3 hb8 (hs3.mono (by lia))⟩
 ·have n1:∀ z∈([("jump"),("zero"),("halt")]:List Str),z≠"put"/\Y.gA (.str z) [.str "add",.str "sub",.str "copy"]=false/\Y.gA (.str z) [.str "tell",.str "hear"]=false:=by decide +kernel
  obtain⟨z,hz,rfl⟩:∃ z∈([("jump"),("zero"),("halt")]:List Str),v=.str z:=by rcases hv with rfl|rfl|rfl<;>exact⟨_,by simp,rfl⟩
  obtain⟨e1,e2,e3⟩:=n1 z hz;exists Kf e1;ac_rfl;refine cW fun N hN=>?_;exists e2;refine⟨by decide,rfl,rfl,?_⟩
  ac_rfl;refine cW fun N hN=>?_;exists e3;refine⟨by decide,rfl,rfl,?_⟩
  ac_rfl;refine cW fun N hN=>?_;rcases hv with hv|hv
  ·cases hv;exists Kh (rfl:Str.ofString "jump"=Str.ofString "jump");refine⟨s3,(many:Int)+1,n+3,rfl,hs3,by lia,by lia,by lia,fun g s4 g0 g1 hs4=>?_⟩
   obtain⟨gn,rfl⟩:∃ gn:Nat,g=gn:=⟨g.toNat,by lia⟩
   rfl';exact⟨by decide,q (.jump gn) s4 (show gn<=many by lia) (hs4.mono (by lia))⟩
  ·have nh:z≠"jump":=by rcases hv with hv|hv<;>cases hv<;>decide +kernel
   exists Kf nh;ac_rfl;refine cW fun N hN=>?_;rcases hv with hv|hv
   ·cases hv;exists Kh (rfl:Str.ofString "zero"=Str.ofString "zero");refine⟨s3,(many:Int)+1,n+3,rfl,hs3,by lia,by lia,by lia,fun g s4 g0 g1 hs4=>?_⟩
    obtain⟨gn,rfl⟩:∃ gn:Nat,g=gn:=⟨g.toNat,by lia⟩
    rfl';exact⟨by decide,q (.zero bn gn) s4 ⟨hb8,(show gn<=many by lia)⟩ (hs4.mono (by lia))⟩
   ·cases hv;have nz:Str.ofString "halt"≠Str.ofString "zero":=by decide +kernel
    exists Kf nz;ac_rfl;rfl';exact⟨by decide,q .halt s3 trivial (hs3.mono (by lia))⟩
noncomputable def sT:List Str->List L2.T:=List.map L2.T.str
theorem fT(xs:List Str):(sT xs).length=xs.length:=Kc ..
noncomputable def cp(z:Str):List Nat:=z.cps.toList
theorem bY(z:Str):(cp z).length=z.length:=L_
theorem iP{b:Str}(h:cp a=cp b):a=b:=by
 cases a with|mk a=>cases b with|mk b=>exact K1 _ (Array.toList_inj.mp h)
theorem B9(l:List Nat):cp ⟨l.toArray⟩=l:=List.toList_toArray
noncomputable def jn(c:Nat):List (List Nat)->List Nat
 |[]=>[]
 |[a]=>a
 |a::b::r=>a++c::jn c (b::r)
theorem dE(c:Nat):∀ xs:List Str,cp (Str.join ⟨#[c]⟩ xs)=jn c (xs.map cp)
 |[]=>rfl
 |[a]=>rfl
 |a::b::r=>by
  show cp (a++⟨#[c]⟩++Str.join ⟨#[c]⟩ (b::r))=cp a++c::jn c ((b::r).map cp);rw[<- dE c (b::r)];show ((a.cps++#[c])++(Str.join ⟨#[c]⟩ (b::r)).cps).toList=_;simp[cp]
theorem tw_free:∀{a r:List Nat},c∉a->(r=[]\/∃ s,r=c::s)->(a++r).takeWhile (· != c)=a
 |[],r,_,h=>by
  rcases h with rfl|⟨s,rfl⟩
  ·rfl
  ·simp
 |x::a,r,n,h=>by
  have hx:x≠c:=fun e=>n (by rw[e];exact Ky)
  rw[List.cons_append,List.takeWhile_cons_of_pos (by simpa using hx),tw_free (fun m=>n (Ko _ m)) h]
theorem sA(c:Nat)(a:List Nat):∀ r:List (List Nat),∃ s,jn c (a::r)=a++s/\((r=[]/\s=[])\/(r≠[]/\s=c::jn c r))
 |[]=>⟨[],by simp[jn],.inl ⟨rfl,rfl⟩⟩
 |b::r=>⟨c::jn c (b::r),rfl,.inr ⟨by simp,rfl⟩⟩
theorem wH:∀{as bs:List (List Nat)},as≠[]->bs≠[]->(∀ a∈as,c∉a)->(∀ b∈bs,c∉b)->jn c as=jn c bs->as=bs
 |[],_,h,_,_,_,_=>absurd rfl h
 |_::_,[],_,h,_,_,_=>absurd rfl h
 |a::as,b::bs,_,_,h1,h2,e=>by
  obtain⟨s,es,cs⟩:=sA c a as;obtain⟨t,et,ct⟩:=sA c b bs;rw[es,et] at e;have ss:s=[]\/∃ u,s=c::u:=cs.imp (·.2) fun z=>⟨_,z.2⟩;have st:t=[]\/∃ u,t=c::u:=ct.imp (·.2) fun z=>⟨_,z.2⟩;have eab:a=b:=by
   have:=K1 (List.takeWhile (· != c)) e
   rwa [tw_free (h1 a Ky) ss,tw_free (h2 b Ky) st] at this
  subst eab;have est:s=t:=List.append_cancel_left e;rcases cs with ⟨r1,s1⟩|⟨r1,s1⟩<;>rcases ct with ⟨r2,s2⟩|⟨r2,s2⟩
  ·rw[r1,r2]
  ·rw[s1,s2] at est;cases est
  ·rw[s1,s2] at est;cases est
  ·rw[s1,s2] at est;rw[wH r1 r2 (fun x hx=>h1 x (Ko _ hx)) (fun x hx=>h2 x (Ko _ hx)) (List.cons.inj est).2]
theorem fD{c:Nat}(h:xs≠[])(hf:∀ x∈xs,c∉cp x):Txt.split (Str.join ⟨#[c]⟩ xs) ⟨#[c]⟩=xs:=by
 have e:=StrLaws.join_split (Str.join ⟨#[c]⟩ xs) ⟨#[c]⟩;have e2:=K1 cp e;rw[dE,dE] at e2;have n:Txt.split (Str.join ⟨#[c]⟩ xs) ⟨#[c]⟩≠[]:=fun z=>by
  have:=Nf (Str.join ⟨#[c]⟩ xs) ⟨#[c]⟩;rw[z] at this;exact absurd this (by decide)
 have:=wH (c:=c) (by simpa using n) (by simpa using h) (fun a ha=>by obtain⟨z,hz,rfl⟩:=K6.mp ha;exact StrLaws.split_free _ c z hz) (fun a ha=>by obtain⟨z,hz,rfl⟩:=K6.mp ha;exact hf z hz) e2
 have inj:Function.Injective cp:=fun a b h=>iP h;exact (List.map_inj_right fun a b h=>inj h).mp this
noncomputable def Ca:List Nat:=[48,49,50,51,52,53,54,55,56,57]
theorem Bd:(Str.ofString "0123456789").cps.toList=Ca:=by decide +kernel
theorem Ay(c:Nat):Y.EO ⟨#[c]⟩ "0123456789"=decide (48<=c/\c<=57):=by
 unfold Y.EO;rw[StrLaws.found_one];refine LD.mpr ?_;rw[show ("0123456789":Str).cps.toList=Ca from Bd];unfold Ca;simp only[Kn,K4,L3]
 omega
noncomputable def qx(z:Str):Bool:=(cp z).all fun c=>decide (48<=c/\c<=57)
noncomputable def iU(z:Str):Bool:=!decide (z="") && qx z && (decide (z="0") || !Txt.startswith z "0")
theorem oO:qx z=true ↔ NumText.AllDigits (cp z):=by
 unfold qx NumText.AllDigits;rw[KJ];exact⟨fun h c hc=>by simpa using h c hc,fun h c hc=>by simpa using h c hc⟩
noncomputable def valN(z:Str):Nat:=NumText.digitsVal (cp z)
theorem Cp(h:z≠""):cp z≠[]:=fun e=>h (iP (by rw[e];rfl))
theorem sk(h:iU z=true)(hl:z.length<=4300):PySem.intText? z=some ((valN z:Nat):Int):=by
 unfold iU at h;simp only[KG,Bool.not_eq_true',decide_eq_false_iff_not] at h;exact PySem.intText_digits (oO.mp h.1.2) (Cp h.1.1) hl
noncomputable def fO(z:Str)(g:Nat):Option Nat:=if iU z=true/\z.length<=(Str.ofString (toString (g:Int))).length then (if valN z<=g then some (valN z) else none) else none
noncomputable def oI:Option Nat->L2.T
 |some n=>.int (n:Nat)
 |none=>.aE
noncomputable def qM:gj:=fun args Q=>∃ z:Str,args=[.str z]/\z.length<=100000/\Q (.tr (.bl (iU z))) []
theorem vO(z:Str):iS z=(cp z).map fun c=>L2.T.str ⟨#[c]⟩:=rfl
theorem d_:200000<=sizeLine:=by decide
abbrev k8z(P w K mg base):=ai P w K mg base aN 1 "is_number" ["text"] (spT K [false] qM)
theorem y4(T:Txt K mg)(F:HasFn K mg "is_number" dt ["text"]):k8z P w K mg base:=by
 refine F.jP nH [false] rfl (by decide) ?_;left;obtain⟨z,rfl,hz,q⟩:=h;refine⟨_,(Y.ah (Y.dJ (Y.tw (Y.zY (Y.aZ (Y.cY K rfl (K5 hu)) Y.fQ (Y.vS 0) Y.str) (Y.mL (Y.qO (Y.sZ K rfl (Y.cb (Y.vc K rfl rfl) Y.Ei rfl T.FQ (by decide +kernel) (Y.cons (Y.jT (osc:=aa dt) (ON:=["text"]) (own:=["sign"]) (N:=["sign","text"]) ⟨rfl,by decide +kernel,rfl,by decide +kernel,by decide +kernel,by decide +kernel,by decide +kernel,by decide +kernel⟩ rfl rfl rfl rfl (Y.JZ (Y.vS 0)) (fun _ _ _ _=>(Z.bB (i:=0) (show List.Nodup (["sign","text"]:List Str) by decide +kernel) rfl (by right))) (fun _ _ _ _=>Y.nW) (fun _ _ _ _=>(Y.cmp (Y.gX K rfl) Y.lp (Y.vS 0) (Y.pw rfl T.tL)))) Y.nil))))))) (Y.az (Y.ret Y.bl)) Y.bL)
   (Y.az (Y.ret (Y.or (Y.cmp (Y.cY K rfl (K5 hu)) Y.fQ (Y.vS 0) Y.str) (Y.one (Y.not (Y.sm K rfl PySem.F.slot_str_startswith PySem.F.type_str_startswith Y.uS Y.uH (Y.vS 0) (Y.cons Y.str Y.nil)))))))),?_⟩
 have q2:∀ b,iU z=b->Qt (.tr (.bl b)) []:=fun b e=>by rw[<- e];exact q
 refine h7 fun N hN=>?_;by_cases h0:z=""
 ·exists Kh h0;exact q2 _ (by unfold iU;rw[Lj h0];rfl)
 ·exists Kf h0;refine eN (fun rest acc μ=>∃ a b:List Nat,cp z=a++b/\(rest=b.map fun c=>L2.T.str ⟨#[c]⟩)/\acc=(a.map fun c=>decide (48<=c/\c<=57)).map L2.T.bl/\μ=[.tr (.str z)]) ⟨[],cp z,rfl,vO z,rfl,rfl⟩ ?_ ?_
  ·rintro acc μ ⟨a,b,e,e2,rfl,rfl⟩;have hb:b=[]:=by simpa using e2.symm
   subst hb;rw[KN] at e;refine⟨trivial,?_⟩;rfl';refine⟨_,rfl,?_⟩;have hd:((a.map fun c=>decide (48<=c/\c<=57)).all id)=qx z:=by
    unfold qx;rw[e,List.all_map];rfl
   rw[hd]
   cases hdz:qx z with
   |false =>
    rfl';exact q2 _ (by unfold iU;rw[hdz];simp)
   |true =>
    rfl';rw[hN];clear hN N;have hn:iU z=(decide (z="0") || !Txt.startswith z "0"):=by unfold iU;rw[hdz,Kw h0];simp
    by_cases h1:z="0"
    ·exists Lj h1,Kh h1;exact q2 _ (by rw[hn,Lj h1];rfl)
    ·exists Kw h1,Kf h1;exact q2 _ (by rw[hn,Kw h1];rfl)
  ·rintro t r acc μ M ⟨a,b,e,e2,rfl,rfl⟩ k
   cases b with
   |nil=>cases e2
   |cons c b =>
    have e2':t=L2.T.str ⟨#[c]⟩/\r=b.map fun c=>L2.T.str ⟨#[c]⟩:=by simpa using e2
    obtain⟨rfl,rfl⟩:=e2';refine⟨trivial,?_,?_⟩
    ·have:=K1 List.length e;rw[bY] at this;simp at this ⊢;exact Kr (by omega) d_
    ·exists Ay;refine k _ _ ⟨a++[c],b,by rw[e];simp,rfl,by simp,rfl⟩
noncomputable def qf:gj:=fun args Q=>∃(z:Str) (g:Nat),args=[.str z,.int (g:Nat)]/\z.length<=100000/\g<=100000/\Q (.tr (oI (fO z g))) []
theorem dM{g:Nat}(h:g<=100000):((g:Nat):Int).natAbs.log2<1920:=by
 rw[Int.natAbs_natCast];rcases MD g with rfl|h0
 ·decide
 ·exact (Nat.log2_lt (by omega)).mpr (KP h (Kr (by decide:100000<2^17) (Mv (by decide) (by decide))))
theorem mH{g:Nat}(h:g<=100000):(Str.ofString (toString ((g:Nat):Int))).length<=10:=by
 have:=PySem.W.KT.len_num (n:=(g:Int)) (by omega) (by omega)
 exact this
abbrev k4z(P w K mg base):=ai P w K mg base aN 2 "read_number" ["text","greatest"] (spT K [false,false] qf)
theorem wg(T:Txt K mg)(F:HasFn K mg "read_number" dh ["text","greatest"])(his_number:k8z P w K mg base):k4z P w K mg base:=by
 refine F.jP gc [false,false] rfl (by decide) ?_;left;obtain⟨z,g,rfl,hz,hg,q⟩:=h;refine⟨_,(Y.ah (Y.dJ (Y.tw (Y.zY (Y.qO (Y.sZ K rfl (Y.fn K rfl his_number (hr.mono (by decide)) rfl au (Y.cons (Y.vS 0) Y.nil)))) (Y.mL (Y.aZ rK Y.gM (Y.cb (Y.cE K rfl) Y.eQ rfl T.dq (by decide +kernel) (Y.cons (Y.vS 0) Y.nil)) (Y.cb (Y.cE K rfl) Y.eQ rfl T.dq (by decide +kernel) (Y.cons (Y.ct bZ Y.mX rfl T.gU (by decide +kernel) (Y.cons (Y.vS 1) Y.nil)) Y.nil)))))) (Y.az (Y.ret Y.aE)) Y.bL)
   (Y.ah (Y.set (i:=2) gc.nd rfl (by right) (Y.ct Y.i_ Y.nE rfl T.oV (by decide +kernel) (Y.cons (Y.vS 0) Y.nil)))
   (Y.az (Y.ret (Y.wB (Y.aZ GX Y.gM (Y.vS 2) (Y.vS 1)) (Y.vS 2) Y.aE))))),?_⟩
 have hl:=mH hg;refine h7 fun N hN=>?_;rfl';refine⟨z,rfl,hz,?_⟩
 cases hn:iU z with
 |false =>
  rfl';have:fO z g=none:=by unfold fO;rw[Kf (by rw[hn];simp)]
  rw[this] at q;exact q
 |true =>
  exists (show ¬ (false=true) from Ki);refine⟨Kj hz (Kj (by decide) d_),dM hg,Kj hl (by decide),?_⟩
  by_cases h1:((Str.ofString (toString ((g:Nat):Int))).length:Int)<(z.length:Int)
  ·exists Kh h1;have:fO z g=none:=by unfold fO;rw[Kf (by omega)]
   rw[this] at q;exact q
  ·exists Kf h1;have e:fO z g=if valN z<=g then some (valN z) else none:=by unfold fO;rw[Kh ⟨hn,by omega⟩]
   rw[e] at q;rw[hN];clear hN N;refine h7 fun N hN=>?_;rfl';refine⟨_,sk hn (by omega),by omega,?_⟩
   rw[hN];clear hN N;by_cases h2:valN z<=g
   ·exists Kh (show ((valN z:Nat):Int)<=(g:Int) by omega)
    rw[Kh h2] at q;exact q
   ·exists Kf (show ¬ ((valN z:Nat):Int)<=(g:Int) by omega)
    rw[Kf h2] at q;exact q
noncomputable def Ec(z:Str):Bool:=Y.gA (.str z) [.str "a",.str "b",.str "c",.str "d",.str "e",.str "f",.str "g",.str "h"]
noncomputable def cy(k z:Str)(g:Nat):L2.T:=if k="box" then (if Ec z=true then .str z else .aE) else oI (fO z (if k="number" then 65535 else g))
noncomputable def rJ:gj:=fun args Q=>∃(k z:Str) (g:Nat),args=[.str k,.str z,.int (g:Nat)]/\z.length<=100000/\g<=100000/\Q (.tr (cy k z g)) []
abbrev k6z(P w K mg base):=ai P w K mg base aN 3 "read_part" ["kind","part","greatest_goal"] (spT K [false,false,false] rJ)
theorem tR(T:Txt K mg)(F:HasFn K mg "read_part" eA ["kind","part","greatest_goal"])(hread_number:k4z P w K mg base):k6z P w K mg base:=by
 refine F.jP nk [false,false,false] rfl (by decide) ?_;left;obtain⟨k,z,g,rfl,hz,hg,q⟩:=h;refine⟨_,(Y.ah (Y.dJ (Y.aZ (Y.cY K rfl (K5 hu)) Y.fQ (Y.vS 0) Y.str) (Y.az (Y.ret (Y.wB (Y.aZ (Y.gX K rfl) Y.lp (Y.vS 1) (Y.pw rfl T.mZ)) (Y.vS 1) Y.aE))) Y.bL)
   (Y.az (Y.ret (Y.fn K rfl hread_number (hr.mono (by decide)) rfl au (Y.cons (Y.vS 1) (Y.cons (Y.wB (Y.aZ (Y.cY K rfl (K5 hu)) Y.fQ (Y.vS 0) Y.str) (Y.op kC Y.rW (Y.pw rfl T.rG) Y.int) (Y.vS 2)) Y.nil)))))),?_⟩
 refine h7 fun N hN=>?_;unfold cy at q;by_cases h0:k="box"
 ·rw[Kh h0] at q;exists Kh h0;refine⟨rfl,rfl,?_⟩;show (if Ec z=true then _ else _)
  split
  ·rename_i hb;rw[Kh hb] at q;rfl';exact q
  ·rename_i hb;rw[Kf hb] at q;rfl';exact q
 ·rw[Kf h0] at q;exists Kf h0;rw[hN];clear hN N;by_cases h1:k="number"
  ·rw[Kh h1] at q;exists Kh h1;exact⟨z,65535,rfl,hz,by decide,q⟩
  ·rw[Kf h1] at q;exists Kf h1;exact⟨z,g,rfl,hz,hg,q⟩
noncomputable def shapes:List (Str×List Str):=[("put",["box","number"]),("add",["box","box"]),("sub",["box","box"]),("copy",["box","box"]),("tell",["box"]),("hear",["box"]),("jump",["goal"]),("zero",["box","goal"]),("halt",[])]
noncomputable def vals(g:Nat):List Str->List Str->List L2.T:=List.zipWith fun k z=>cy k z g
noncomputable def CJ:L2.T->Bool
 |.aE=>true
 |_=>false
noncomputable def cu(g:Nat)(ws:List Str):L2.T:=match ws with
 |[]=>.aE
 |w::ps=>(match KTD.datumAt w shapes with
  |none=>.aE
  |some ks=>if ps.length=ks.length then (if (vals g ks ps).any CJ=true then .aE else .tup (.str w::vals g ks ps)) else .aE)
noncomputable def eG(z:Str)(g:Nat):L2.T:=cu g (Txt.split z " ")
theorem oj(k z:Str)(g:Nat):aF (cy k z g)=true:=by
 unfold cy;split
 ·split<;>rfl
 ·cases fO z (if k="number" then 65535 else g)<;>rfl
theorem mB(g:Nat):∀(ks ps:List Str),(vals g ks ps).all aF=true
 |[],_=>rfl
 |_::_,[]=>rfl
 |k::ks,p::ps=>by
  show (cy k p g::vals g ks ps).all aF=true;rw[KI,oj,mB g ks ps];rfl
theorem sM:∀{xs:List L2.T},xs.all aF=true->Y.gA .aE xs=xs.any CJ
 |[],_=>rfl
 |x::xs,h=>by
  rw[KI,KG] at h;unfold Y.gA;rw[Lu,Lu];have ih:=sM h.2;unfold Y.gA at ih;rw[ih]
  cases x<;>first|rfl|cases h.1
theorem qu{w:Str}(h:KTD.datumAt w shapes=some ks):ks.length<=2:=by
 unfold shapes at h;simp only[KTD.datumAt] at h
 repeat' split at h
 all_goals first | (cases h;decide)|cases h
theorem yo{g:Nat}{w:Str}{ps:List Str}(h:KTD.datumAt w shapes=none):cu g (w::ps)=.aE:=by unfold cu;simp only[h]
theorem dZ{g:Nat}{w:Str}{ps:List Str}(h:KTD.datumAt w shapes=some ks):cu g (w::ps)=if ps.length=ks.length then (if (vals g ks ps).any CJ=true then .aE else .tup (.str w::vals g ks ps)) else .aE:=by unfold cu;simp only[h]
noncomputable def pS:gj:=fun args Q=>∃(z:Str) (g:Nat),args=[.str z,.int (g:Nat)]/\z.length<=90000/\g<=100000/\Q (.tr (eG z g)) []
abbrev k3z(P w K mg base):=ai P w K mg base aN 4 "read_row" ["line","greatest_goal"] (spT K [false,false] pS)
theorem xU(T:Txt K mg)(F:HasFn K mg "read_row" dP ["line","greatest_goal"])(hread_part:k6z P w K mg base):k3z P w K mg base:=by
 refine F.jP eK [false,false] rfl (by decide) ?_;left;obtain⟨z,g,rfl,hz,hg,q⟩:=h;refine⟨_,(Y.ah (Y.set (i:=2) eK.nd rfl (by right) (Y.sm K rfl PySem.F.slot_str_split PySem.F.type_str_split kF Y.nQ (Y.vS 0) (Y.cons Y.str Y.nil)))
   (Y.ah (Y.set (i:=3) eK.nd rfl (by right) (Y.IQ K rfl rfl T.kI (Y.ix (Y.dR K rfl) Y.bz (Y.vS 2) Y.int)))
   (Y.ah (Y.dJ (Y.tw (Y.zY (Y.aZ ky Y.qS (Y.vS 3) Y.aE) (Y.mL (Y.aZ (Y.C0 K rfl (K5 hu)) Y.DY (Y.cb (Y.cE K rfl) Y.eQ rfl T.dq (by decide +kernel) (Y.cons (Y.vS 2) Y.nil)) (Y.op (Y.bt K rfl) Y.bq Y.int (Y.cb (Y.cE K rfl) Y.eQ rfl T.dq (by decide +kernel) (Y.cons (Y.vS 3) Y.nil))))))) (Y.az (Y.ret Y.aE)) Y.bL)
   (Y.ah (Y.Hd (j:=4) K rfl eK.nd rfl (by right) (osc:=aa dP) (ON:=["line","greatest_goal","parts","shape","values"]) (own:=["kind","part"]) (N:=["kind","part","line","greatest_goal","parts","shape","values"]) ⟨rfl,by decide +kernel,rfl,by decide +kernel,by decide +kernel,by decide +kernel,by decide +kernel,by decide +kernel⟩ rfl rfl rfl rfl (Y.zip K rfl rfl T.Bt (Y.cons (Y.vS 3) (Y.cons (Y.dU K rfl (Y.vS 2) (Y.oG Y.int) Y.nT) Y.nil))) (fun _ _ _ _=>(Z.xo (n:=2) K rfl rfl (Z.d6 (Z.bB (i:=0) (show List.Nodup (["kind","part","line","greatest_goal","parts","shape","values"]:List Str) by decide +kernel) rfl (by right)) (Z.d6 (Z.bB (i:=1) (show List.Nodup (["kind","part","line","greatest_goal","parts","shape","values"]:List Str) by decide +kernel) rfl (by right)) Z.mi)))) (fun _ _ _ _=>Y.nW) (fun _ _ _ _=>(Y.fn K rfl hread_part (hr.mono (by decide)) rfl au (Y.cons (Y.vS 0) (Y.cons (Y.vS 1) (Y.cons (Y.vS 3) Y.nil))))))
   (Y.ah (Y.dJ (Y.aZ (Y.gX K rfl) Y.lp Y.aE (Y.vS 4)) (Y.az (Y.ret Y.aE)) Y.bL)
   (Y.az (Y.ret (Y.ct (Y.gr K rfl) Y.iD rfl T.dC (by decide +kernel) (Y.cons (Y.op (Y.bt K rfl) Y.bq (Y.dU K rfl (Y.vS 2) Y.nT (Y.oG Y.int)) (Y.vS 4)) Y.nil))))))))),?_⟩
 refine h7 fun N hN=>?_;rfl';have hsl:=Nk z " ";refine⟨by decide,Kj hz (by decide),Kj hsl (Kj (by omega) d_),?_⟩
 have hpl:∀ p∈Txt.split z " ",p.length<=90000:=fun p hp=>Kj (MU hp) hz;have hne:=Nf z " ";unfold eG at q;generalize Txt.split z " "=ws at *
 cases ws with
 |nil=>exact absurd hne (by decide)
 |cons w ps =>
  rw[hN];clear hN N;refine h7 fun N hN=>?_;have a0:∀ xs:List L2.T,c_ (.str w::xs) 0=some (.str w):=fun xs=>by unfold c_ mx;simp
  exists a0;show (match KTD.datumAt w shapes with|some ws=>N [.tr (.str z),.tr (.int (g:Nat)),.bx (.lst (.str w::sT ps)),.tr (.cT (sT ws)),.un]|none=>N [.tr (.str z),.tr (.int (g:Nat)),.bx (.lst (.str w::sT ps)),.tr .aE,.un])
  have hpl2:∀ p∈ps,p.length<=90000:=fun p hp=>hpl p (Ko _ hp)
  cases hd:KTD.datumAt w shapes with
  |none =>
   rw[yo hd] at q;show N _;rw[hN];clear hN N;refine h7 fun N hN=>?_;rfl';exact q
  |some ks =>
   have q':=q;rw[dZ hd] at q';clear q;have hk2:=qu hd;show N _;rw[hN];clear hN N;refine h7 fun N hN=>?_;have e2:(((sT ks:List L2.T)).length:Int)=(ks.length:Int):=by rw[fT]
   by_cases hl:ps.length=ks.length
   ·rw[Kh hl] at q';exists e2;rw[Kf (by rw[fT];omega),hN];clear hN N
    refine h7 fun N hN=>?_;have e3:Y.bS (.str w::sT ps:List L2.T) (some 1) none=sT ps:=by
     show Y.bS (sT (w::ps)) (some 1) none=sT ps;unfold Y.bS;rw[HT.dy,show (some (1:Int))=some ((1:Nat):Int) from rfl,HT.gx];simp only[sT,Kt,Ks,Kc];rw[Mw (by omega)]
     exact K8 (by simp)
    exists e3,(show qN (.cT (sT ks))=some (sT ks) from rfl);refine eN (fun rest acc μ=>∃(ks1 ps1 ks2 ps2:List Str),ks=ks1++ks2/\ps=ps1++ps2/\ks1.length=ps1.length/\ks2.length=ps2.length/\rest=ph (sT ks2) (sT ps2)/\acc=vals g ks1 ps1/\μ=[.tr (.str z),.tr (.int (g:Nat)),.bx (.lst (.str w::sT ps)),.tr (.cT (sT ks)),.un]) ⟨[],[],ks,ps,rfl,rfl,rfl,hl.symm,rfl,rfl,rfl⟩ ?_ ?_
    ·rintro acc μ ⟨ks1,ps1,ks2,ps2,ek,ep,l1,l2,er,rfl,rfl⟩;have h2:ks2=[]/\ps2=[]:=by
      cases ks2 with
      |nil=>exact⟨rfl,by cases ps2 with|nil=>rfl|cons=>cases l2⟩
      |cons k ks2=>cases ps2 with
       |nil=>cases l2
       |cons p ps2=>cases er
     obtain⟨rfl,rfl⟩:=h2;rw[KN] at ek ep;subst ek ep;refine⟨trivial,?_⟩;rfl';rw[hN];clear hN N;refine h7 fun N hN=>?_;have fl:=mB g ks ps;exists sM fl;refine⟨rfl,fl,?_⟩;have vl:(vals g ks ps).length<=2:=by unfold vals;rw[List.length_zipWith];omega
     split
     ·rename_i hn;rw[Kh hn] at q';exact q'
     ·rename_i hn;rw[Kf hn] at q';rw[hN];clear hN N;have e4:Y.bS (.str w::sT ps:List L2.T) none (some 1)=[.str w]:=by
       unfold Y.bS;rw[HT.dy,show (some (1:Int))=some ((1:Nat):Int) from rfl,HT.gx];simp only[Ks,Ll];rw[Mw (by omega)]
       rfl
      exists e4;refine⟨?_,q'⟩;exact Kj (show 1+(vals g ks ps).length<=200000 by omega) d_
    ·rintro t r acc μ M ⟨ks1,ps1,ks2,ps2,ek,ep,l1,l2,er,rfl,rfl⟩ k
     cases ks2 with
     |nil=>cases ps2 with
      |nil=>cases er
      |cons=>cases l2
     |cons k2 ks2=>cases ps2 with
      |nil=>cases l2
      |cons p2 ps2 =>
       have er':t=.tup [.str k2,.str p2]/\r=ph (sT ks2) (sT ps2):=by
        have:t::r=.tup [.str k2,.str p2]::ph (sT ks2) (sT ps2):=er;exact⟨(List.cons.inj this).1,(List.cons.inj this).2⟩
       obtain⟨rfl,rfl⟩:=er';have vl:(vals g ks1 ps1).length<=2:=by
        unfold vals;rw[List.length_zipWith];have:=K1 List.length ek;simp at this
        omega
       refine⟨trivial,Kr (show (vals g ks1 ps1).length<200000 by omega) d_,?_⟩
       rfl';refine⟨k2,p2,g,rfl,Kj (hpl2 p2 (by rw[ep];simp)) (by decide),hg,?_⟩
       show M _ _;refine k _ _ ⟨ks1++[k2],ps1++[p2],ks2,ps2,by rw[ek];simp,by rw[ep];simp,by simp[l1],Nat.succ.inj l2,rfl,?_,rfl⟩
       unfold vals;rw[List.zipWith_append l1];rfl
   ·rw[Kf hl] at q';exists e2;rw[Kh (by rw[fT];omega)]
    exact q'
theorem xw(z:Str)(g:Nat):eG z g=.aE\/∃ xs,eG z g=.tup xs:=by
 unfold eG cu;split
 ·exact .inl rfl
 ·split
  ·exact .inl rfl
  ·split
   ·split
    ·exact .inl rfl
    ·exact .inr ⟨_,rfl⟩
   ·exact .inl rfl
noncomputable def gH(z:Str):List Str:=Txt.split z "\n"
noncomputable def Bj:gj:=fun args Q=>∃ z:Str,args=[.str z]/\z.length<=80000/\(∀ l∈gH z,eG l (gH z).length≠.aE)/\Q (.tr (.tup ((gH z).map fun l=>eG l (gH z).length))) []
theorem pairs_at(i:Nat)(h:i<xs.length):(pairs (sT xs)).drop i=.tup [.int (i:Nat),.str xs[i]]::(pairs (sT xs)).drop (i+1):=by
 have hl:i<(pairs (sT xs)).length:=by unfold pairs;simp[fT,h]
 rw[L8 hl];congr 1;unfold pairs;simp[sT,Kd h]
theorem uI(i:Nat)(h:xs.length<=i):(pairs (sT xs)).drop i=[]:=Ng (by unfold pairs;simp[fT,h])
theorem zh(T:Txt K mg)(F:HasFn K mg "read_program" cJ ["text"])(hread_row:k3z P w K mg base):ai P w K mg base aN 5 "read_program" ["text"] (spT K [false] Bj):=by
 refine F.jP bD [false] rfl (by decide) ?_;left;obtain⟨z,rfl,hz,hrd,q⟩:=h;refine⟨_,(Y.ah (Y.IC (i:=1) bD.nd rfl (by right) (Y.sm K rfl PySem.F.slot_str_split PySem.F.type_str_split kF Y.nQ (Y.vS 0) (Y.cons Y.str Y.nil)))
   (Y.ah (Y.set (i:=2) bD.nd rfl (by right) (Y.lst Y.nil))
   (Y.ah (Y.qD LQ rfl (Y.Fj K rfl rfl T.pB (Y.cons (Y.vS 1) Y.nil)) (Y.HA (n:=2) K rfl rfl (Y.d6 (Y.bB (i:=3) bD.nd rfl (by right)) (Y.d6 (Y.bB (i:=4) bD.nd rfl (by right)) Y.mi))) (Y.ah (Y.set (i:=5) bD.nd rfl (by right) (Y.fn K rfl hread_row (hr.mono (by decide)) rfl au (Y.cons (Y.vS 4) (Y.cons (Y.cb (Y.cE K rfl) Y.eQ rfl T.dq (by decide +kernel) (Y.cons (Y.vS 1) Y.nil)) Y.nil))))
   (Y.ah (Y.dJ (Y.aZ ky Y.qS (Y.vS 5) Y.aE) (Y.az Y.iF) Y.bL)
   (Y.az (Y.expr (Y.bm K rfl PySem.F.slot_list_append PySem.F.type_list_append fk Y.lS (Y.vS 2) (Y.cons (Y.vS 5) Y.nil)))))))
   (Y.az (Y.ret (Y.ct (Y.gr K rfl) Y.iD rfl T.dC (by decide +kernel) (Y.cons (Y.vS 2) Y.nil))))))),?_⟩
 refine h7 fun N hN=>?_;rfl';have hsl:(gH z).length<=z.length+2:=Nk z "\n";refine⟨by decide,Kj hz (by decide),Kj hsl (Kj (by omega) d_),?_⟩
 have hpl:∀ p∈gH z,p.length<=80000:=fun p hp=>Kj (MU hp) hz;rw[hN];clear hN N;refine h7 fun N hN=>?_;rfl';rw[hN];clear hN N;refine h7 fun N hN=>?_;show Y.xW _ _ _ _ [.tr (.str z),.tr (.lst (sT (gH z))),.bx (.lst []),.un,.un,.un];rfl';refine sP (fun rest μ=>∃(i:Nat) (s3 s4 s5:Option L2.T),i<=(gH z).length/\rest=(pairs (sT (gH z))).drop i/\μ=[.tr (.str z),.tr (.lst (sT (gH z))),.bx (.lst (((gH z).take i).map fun l=>eG l (gH z).length)),sl s3,sl s4,sl s5]) ⟨0,none,none,none,K7 _,rfl,rfl⟩ ?_ ?_
 ·rintro μ ⟨i,s3,s4,s5,hi,e,rfl⟩;have:i=(gH z).length:=by
   rcases KU i (gH z).length with c|c
   ·rw[pairs_at i c] at e;cases e
   ·omega
  subst this;show N _;rw[hN];clear hN N;rfl';rw[K8 (Kk _)];exact q
 ·rintro t ts μ M ⟨i,s3,s4,s5,hi,e,rfl⟩ k;rcases KU i (gH z).length with c|c
  ·rw[pairs_at i c] at e;obtain⟨rfl,rfl⟩:=List.cons.inj e;rfl';have hm:(gH z)[i]∈gH z:=KS c;refine h7 fun M' hM=>?_;exists fT;refine⟨(gH z)[i],(gH z).length,rfl,Kj (hpl _ hm) (by decide),by omega,?_⟩
   obtain⟨xs,ex⟩:=(xw (gH z)[i] (gH z).length).resolve_left (hrd _ hm);rw[ex];rfl';rw[hM];clear hM M';refine h7 fun M' hM=>?_;rfl';rw[hM];clear hM M';exists Kc,KD;refine⟨Kr (show min i (gH z).length<200000 by omega) d_,?_⟩
   have e3:((gH z).take i).map (fun l=>eG l (gH z).length)++[.tup xs]=((gH z).take (i+1)).map fun l=>eG l (gH z).length:=by
    rw[LH c,Kx,Kt,LW,ex]
   rw[e3];exact k _ ⟨i+1,some _,some _,some _,c,rfl,rfl⟩
  ·rw[uI i c] at e;cases e
noncomputable def ao(n:Nat):Str:=Str.ofString (toString ((n:Nat):Int))
noncomputable def cX.x:cX->Str
 |.s z=>z
 |.n k=>ao k
noncomputable def Row.line(r:Row):Str:=Str.join " " (r.ps.map cX.x)
theorem eR(n:Nat):cp (ao n)=(Nat.toDigits 10 n).map Char.toNat:=PySem.W.KIN.signs_num n
theorem eP:∀(g n:Nat),n<=g->(Nat.toDigits 10 n).length<=(Nat.toDigits 10 g).length:=by
 intro g
 induction g using Nat.strongRecOn with
 |_ g ih =>
  intro n hn;by_cases h:g<10
  ·rw[LK h,LK (show n<10 by omega)];exact Kk _
  ·rw[Mg (b:=10) (by decide) (by omega:10<=g),Kv]
   by_cases h2:n<10
   ·rw[LK h2];simp
   ·rw[Mg (b:=10) (by decide) (by omega:10<=n),Kv]
    have:=ih (g / 10) (by omega) (n / 10) (by omega)
    simp only[Ks,Ld]
    omega
theorem zI:∀ n:Nat,0<n->∃ c r,Nat.toDigits 10 n=c::r/\c.toNat≠48:=by
 intro n
 induction n using Nat.strongRecOn with
 |_ n ih =>
  intro h0;by_cases h:n<10
  ·rw[LK h];have e:=PySem.W.KIN.digit_back n h;exact⟨_,[],rfl,by omega⟩
  ·obtain⟨c,r,e,hc⟩:=ih (n / 10) (by omega) (by omega)
   rw[Mg (b:=10) (by decide) (by omega),e]
   exact⟨c,r++_,rfl,hc⟩
theorem pW(h:c∈cp (ao n)):48<=c/\c<=57:=by
 rw[eR] at h;obtain⟨ch,hch,rfl⟩:=K6.mp h;exact digit_range (Nat.isDigit_of_mem_toDigits (by decide) (by decide) hch)
theorem yw:ao 0="0":=by decide +kernel
theorem zH(z:Str):Txt.startswith z "0"=true ↔ ∃ r,cp z=48::r:=by
 have e:Txt.startswith z "0"=decide ([48] <+: cp z):=by
  unfold Txt.startswith;have e0:cp ("0":Str)=[48]:=by decide +kernel
  have e:Builtin.Str.subAt z "0" 0=decide ((cp z).take 1=[48]):=by
   unfold Builtin.Str.subAt;rw[LM,LX,LV,<- Array.toList_inj,Array.toList_extract,List.extract_eq_take_drop,Ll,<- e0];rfl
  rw[e,LM,KG,LV,LV,LV,List.prefix_iff_eq_take];refine⟨fun h=>h.2.symm,fun h=>⟨?_,h.symm⟩⟩;have:=K1 List.length h;rw[KD,bY] at this;have:("0":Str).length=1:=by decide +kernel
  simp at *
  omega
 rw[e,LV];exact⟨fun⟨r,h⟩=>⟨r,h.symm⟩,fun⟨r,h⟩=>⟨r,h.symm⟩⟩
theorem i7(n:Nat):iU (ao n)=true:=by
 have hne:ao n≠"":=fun e=>by
  have:=K1 cp e;rw[eR] at this;exact absurd (List.map_eq_nil_iff.mp this) (fun z=>by
   have h:=MV (b:=10) (n:=n);rw[z] at h;exact absurd h (by decide))
 have hd:qx (ao n)=true:=oO.mpr fun c hc=>pW hc;unfold iU;rw[Kw hne,hd];rcases MD n with rfl|h0
 ·rw[yw];decide +kernel
 ·have:Txt.startswith (ao n) "0"=false:=by
   refine Bool.eq_false_iff.mpr fun hs=>?_;obtain⟨r,e⟩:=(zH _).mp hs;obtain⟨c,t,e2,hc⟩:=zI n h0;rw[eR,e2] at e;exact hc (List.cons.inj e).1
  rw[this];simp
theorem kA(n:Nat):valN (ao n)=n:=by unfold valN;rw[eR];exact PySem.W.KIN.val_back n
theorem iQ{g:Nat}(h:n<=g):fO (ao n) g=some n:=by
 have hl:(ao n).length<=(ao g).length:=by
  rw[<- bY,<- bY,eR,eR,Kc,Kc];exact eP g n h
 unfold fO;rw[Kh ⟨i7 n,hl⟩,kA,Kh h]
theorem Em:∀ b,b<8->Ec (bE b)=true:=by decide +kernel
theorem fX(n:Nat)(h:c<48):c∉cp (ao n):=fun m=>by have:=pW m;omega
theorem wt(b:Nat)(h:c<97):c∉cp (bE b):=by
 intro m;have m':c∈[97+b]:=m;have:=K9.mp m'
 omega
theorem xt:∀ z∈(["put","add","sub","copy","tell","hear","jump","zero","halt"]:List Str),∀ c∈cp z,97<=c:=by decide +kernel
theorem Dq:∀ u,w2 u∈(["put","add","sub","copy","tell","hear","jump","zero","halt"]:List Str):=by decide +kernel
theorem Dw:∀ u,w1 u∈(["put","add","sub","copy","tell","hear","jump","zero","halt"]:List Str):=by decide +kernel
theorem parts_free(r:Row)(h:c<48):∀ z∈r.ps.map cX.x,c∉cp z:=by
 have lf:∀ z∈(["put","add","sub","copy","tell","hear","jump","zero","halt"]:List Str),c∉cp z:=fun z hz m=>by have:=xt z hz c m;omega
 have bf:∀ b,c∉cp (bE b):=fun b=>wt b (by omega)
 have nf:∀ n,c∉cp (ao n):=fun n=>fX n h;intro z hz
 cases r<;>simp only[Row.ps,Kt,LW,cX.x,Kn,K4,L3] at hz
 case put b n=>rcases hz with rfl|rfl|rfl;(exact lf _ (by simp));(exact bf _);exact nf _
 case two u a b=>rcases hz with rfl|rfl|rfl;(exact lf _ (Dq u));(exact bf _);exact bf _
 case one u b=>rcases hz with rfl|rfl;(exact lf _ (Dw u));exact bf _
 case jump g=>rcases hz with rfl|rfl;(exact lf _ (by simp));exact nf _
 case zero b g=>rcases hz with rfl|rfl|rfl;(exact lf _ (by simp));(exact bf _);exact nf _
 case halt=>rcases hz with rfl;exact lf _ (by simp)
theorem blank:(" ":Str)=⟨#[32]⟩:=by decide +kernel
theorem sg:("\n":Str)=⟨#[10]⟩:=by decide +kernel
theorem rj(r:Row):Txt.split r.line " "=r.ps.map cX.x:=by
 unfold Row.line;rw[blank];exact fD (by cases r<;>simp[Row.ps]) fun z hz=>parts_free r (by decide) z hz
theorem Gk:∀ u,KTD.datumAt (w2 u) shapes=some ([("box":Str),("box":Str)]):=by decide +kernel
theorem Gg:∀ u,KTD.datumAt (w1 u) shapes=some ([("box":Str)]):=by decide +kernel
theorem lj{g:Nat}(h:b<8):cy "box" (bE b) g=.str (bE b):=by unfold cy;rw[Kh rfl,Kh (Em b h)]
theorem CS{g:Nat}(h:n<65536):cy "number" (ao n) g=.int (n:Nat):=by
 unfold cy;rw[Kf (by decide +kernel),Kh rfl,iQ (show n<=65535 by omega)];rfl
theorem t8{g:Nat}(h:n<=g):cy "goal" (ao n) g=.int (n:Nat):=by
 unfold cy;rw[Kf (by decide +kernel),Kf (by decide +kernel),iQ h];rfl
theorem pf(g:Nat)(k p:Str):vals g [k] [p]=[cy k p g]:=rfl
theorem kq(g:Nat)(k p l q:Str):vals g [k,l] [p,q]=[cy k p g,cy l q g]:=rfl
theorem nG{r:Row}{g:Nat}(h:r.Ok g):eG r.line g=r.t:=by
 unfold eG;rw[rj]
 cases r with
 |put b n =>
  show cu g ["put",bE b,ao n]=_;rw[dZ (show KTD.datumAt ("put":Str) shapes=some (["box","number"]:List Str) by decide +kernel)]
  have e:vals g ["box","number"] [bE b,ao n]=[.str (bE b),.int (n:Nat)]:=by rw[kq,lj h.1,CS h.2]
  rw[e];rfl
 |two u a b =>
  show cu g [w2 u,bE a,bE b]=_;rw[dZ (Gk u)];have e:vals g ["box","box"] [bE a,bE b]=[.str (bE a),.str (bE b)]:=by rw[kq,lj h.1,lj h.2]
  rw[e];rfl
 |one u b =>
  show cu g [w1 u,bE b]=_;rw[dZ (Gg u)];have e:vals g ["box"] [bE b]=[.str (bE b)]:=by rw[pf,lj h]
  rw[e];rfl
 |jump n =>
  show cu g ["jump",ao n]=_;rw[dZ (show KTD.datumAt ("jump":Str) shapes=some (["goal"]:List Str) by decide +kernel)]
  have e:vals g ["goal"] [ao n]=[.int (n:Nat)]:=by rw[pf,t8 h]
  rw[e];rfl
 |zero b n =>
  show cu g ["zero",bE b,ao n]=_;rw[dZ (show KTD.datumAt ("zero":Str) shapes=some (["box","goal"]:List Str) by decide +kernel)]
  have e:vals g ["box","goal"] [bE b,ao n]=[.str (bE b),.int (n:Nat)]:=by rw[kq,lj h.1,t8 h.2]
  rw[e];rfl
 |halt =>
  show cu g ["halt"]=_;rw[dZ (show KTD.datumAt ("halt":Str) shapes=some ([]:List Str) by decide +kernel)]
  rfl
theorem yq(c:Nat):∀ ls:List (List Nat),(jn c ls).length<=(ls.map List.length).sum+ls.length
 |[]=>Kk _
 |[a]=>by simp[jn]
 |a::b::r=>by
  have ih:=yq c (b::r);show (a++c::jn c (b::r)).length<=_;rw[Kv,Ks,Kt,LL,Ks]
  omega
theorem fS(c:Nat)(xs:List Str):(Str.join ⟨#[c]⟩ xs).length<=(xs.map (·.length)).sum+xs.length:=by
 rw[<- bY,dE];have:=yq c (xs.map cp);have e:(xs.map cp).map List.length=xs.map (·.length):=by rw[Lr];exact Lv fun z _=>bY z
 rw[e,Kc] at this;exact this
theorem CC:∀ u,(w2 u).length<=4:=by decide +kernel
theorem Cy:∀ u,(w1 u).length<=4:=by decide +kernel
theorem eB(h:n<=100000):(ao n).length<=10:=mH h
theorem dG{r:Row}(h:r.Ok 100000):((r.ps.map cX.x).map (·.length)).sum<=20/\r.ps.length<=3:=by
 have b1:∀ b,(bE b).length=1:=fun b=>rfl;have l1:(Str.ofString "put").length=3/\(Str.ofString "jump").length=4/\(Str.ofString "zero").length=4/\(Str.ofString "halt").length=4:=by decide +kernel
 cases r<;>simp only[Row.ps,Kt,LW,cX.x,LL,List.sum_nil,b1,Ks,Ld,Row.Ok] at h ⊢
 case put b n=>have:=eB (show n<=100000 by omega);omega
 case two u a b=>have:=CC u;omega
 case one u b=>have:=Cy u;omega
 case jump g=>have:=eB h;omega
 case zero b g=>have:=eB h.2;omega
 case halt=>omega
theorem lq{r:Row}(h:r.Ok 100000):r.line.length<=40:=by
 unfold Row.line;rw[blank];have:=fS 32 (r.ps.map cX.x);obtain⟨h1,h2⟩:=dG h;rw[Kc] at this
 omega
noncomputable def gI(rs:List Row):Str:=Str.join "\n" (rs.map Row.line)
theorem me{rs:List Row}(h:∀ r∈rs,r.Ok 100000):((rs.map Row.line).map (·.length)).sum<=40*rs.length:=by
 induction rs with
 |nil=>exact Kk _
 |cons r rs ih =>
  have h1:=lq (h r Ky);have h2:=ih fun x hx=>h x (Ko _ hx);rw[Kt,Kt,LL,Ks]
  omega
theorem ud{rs:List Row}(h:∀ r∈rs,r.Ok 100000):(gI rs).length<=41*rs.length:=by
 unfold gI;rw[sg];have h1:=fS 10 (rs.map Row.line);have h2:=me h;rw[Kc] at h1
 omega
theorem u7(r:Row):10∉cp r.line:=by
 intro m;have m':10∈(Str.join " " (r.ps.map cX.x)).cps.toList:=m;rcases (mem_join " " 10 (r.ps.map cX.x)).mp m' with ⟨t,ht,hc⟩|⟨_,hc⟩
 ·exact parts_free r (by decide) t ht hc
 ·rw[blank] at hc;have:(10:Nat)=32:=by simpa using hc
  omega
theorem xH{rs:List Row}(h:rs≠[]):gH (gI rs)=rs.map Row.line:=by
 unfold gH gI;rw[sg];exact fD (by simpa using h) fun z hz=>by obtain⟨r,_,rfl⟩:=K6.mp hz;exact u7 r
theorem uW{rs:List Row}(h:rs≠[])(ok:∀ r∈rs,r.Ok rs.length):(gH (gI rs)).map (fun l=>eG l (gH (gI rs)).length)=rs.map Row.t/\∀ l∈gH (gI rs),eG l (gH (gI rs)).length≠.aE:=by
 rw[xH h,Kc];constructor
 ·rw[Lr];exact Lv fun r hr=>nG (ok r hr)
 ·intro l hl;obtain⟨r,hr,rfl⟩:=K6.mp hl;rw[nG (ok r hr)];intro e;cases e
noncomputable def jr:gj:=fun args Q=>∃ r:Row,args=[r.t]/\r.Ok 100000/\Q (.tr (.str r.line)) []
theorem Ae(T:Txt K mg)(F:HasFn K mg "_law_line" dv ["row"]):ai P w K mg base aN 1 "_law_line" ["row"] (spT K [false] jr):=by
 refine F.jP nF [false] rfl (by decide) ?_;left;obtain⟨r,rfl,aU,q⟩:=h;refine⟨_,(Y.az (Y.ret (Y.sm K rfl PySem.F.slot_str_join PySem.F.type_str_join (Y.kE K rfl) Y.nr Y.str (Y.cons (Y.jT (osc:=aa dv) (ON:=["row"]) (own:=["part"]) (N:=["part","row"]) ⟨rfl,by decide +kernel,rfl,by decide +kernel,by decide +kernel,by decide +kernel,by decide +kernel,by decide +kernel⟩ rfl rfl rfl rfl (Y.anyS K rfl (Y.vS 0)) (fun _ _ _ _=>(Z.bB (i:=0) (show List.Nodup (["part","row"]:List Str) by decide +kernel) rfl (by right))) (fun _ _ _ _=>Y.nW) (fun _ _ _ _=>(Y.ct bZ Y.mX rfl T.gU (by decide +kernel) (Y.cons (Y.vS 0) Y.nil)))) Y.nil)))),?_⟩
 have hb:∀ k,cX.n k∈r.ps->k<=100000:=fun k hk=>by
  cases r<;>simp only[Row.ps,Row.Ok,Kn,K4,L3,cX.n.injEq,reduceCtorEq,false_or] at hk aU<;>omega
 obtain⟨p1,p2⟩:=dG aU;unfold Row.t;rfl';refine eN (fun rest acc μ=>∃ a b:List cX,r.ps=a++b/\rest=b.map cX.t/\acc=sT (a.map cX.x)/\μ=[.tr r.t]) ⟨[],r.ps,rfl,rfl,rfl,rfl⟩ ?_ ?_
 ·rintro acc μ ⟨a,b,e,e2,rfl,rfl⟩;have:b=[]:=by simpa using e2.symm
  subst this;rw[KN] at e;subst e;refine⟨trivial,?_⟩;rfl';refine⟨r.ps.map cX.x,rfl,?_,q⟩;have:(Str.ofString " ").length=1:=by decide +kernel
  rw[this,Kc]
  omega
 ·rintro t rr acc μ M ⟨a,b,e,e2,rfl,rfl⟩ k
  cases b with
  |nil=>cases e2
  |cons x b =>
   have e2':t=x.t/\rr=b.map cX.t:=by simpa using e2
   obtain⟨rfl,rfl⟩:=e2';have hl:=K1 List.length e;simp at hl;refine⟨trivial,by rw[fT,Kc];exact Kr (show a.length<200000 by omega) d_,?_⟩
   have go:M (sT (a.map cX.x)++[.str x.x]) [.tr r.t]:=k _ _ ⟨a++[x],b,by rw[e];simp,rfl,by simp[sT],rfl⟩
   cases x with
   |s z =>
    rfl';exact go
   |n m =>
    rfl';exact⟨dM (hb m (by rw[e];simp)),go⟩
theorem wX(T:Txt K mg)(F:HasFn K mg "row_shown" dw ["row"]):ai P w K mg base aN 1 "row_shown" ["row"] (spT K [false] jr):=by
 refine F.jP nv [false] rfl (by decide) ?_;left;obtain⟨r,rfl,aU,q⟩:=h;refine⟨_,(Y.az (Y.ret (Y.sm K rfl PySem.F.slot_str_join PySem.F.type_str_join (Y.kE K rfl) Y.nr Y.str (Y.cons (Y.jT (osc:=aa dw) (ON:=["row"]) (own:=["part"]) (N:=["part","row"]) ⟨rfl,by decide +kernel,rfl,by decide +kernel,by decide +kernel,by decide +kernel,by decide +kernel,by decide +kernel⟩ rfl rfl rfl rfl (Y.anyS K rfl (Y.vS 0)) (fun _ _ _ _=>(Z.bB (i:=0) (show List.Nodup (["part","row"]:List Str) by decide +kernel) rfl (by right))) (fun _ _ _ _=>Y.nW) (fun _ _ _ _=>(Y.ct bZ Y.mX rfl T.gU (by decide +kernel) (Y.cons (Y.vS 0) Y.nil)))) Y.nil)))),?_⟩
 have hb:∀ k,cX.n k∈r.ps->k<=100000:=fun k hk=>by
  cases r<;>simp only[Row.ps,Row.Ok,Kn,K4,L3,cX.n.injEq,reduceCtorEq,false_or] at hk aU<;>omega
 obtain⟨p1,p2⟩:=dG aU;unfold Row.t;rfl';refine eN (fun rest acc μ=>∃ a b:List cX,r.ps=a++b/\rest=b.map cX.t/\acc=sT (a.map cX.x)/\μ=[.tr r.t]) ⟨[],r.ps,rfl,rfl,rfl,rfl⟩ ?_ ?_
 ·rintro acc μ ⟨a,b,e,e2,rfl,rfl⟩;have:b=[]:=by simpa using e2.symm
  subst this;rw[KN] at e;subst e;refine⟨trivial,?_⟩;rfl';refine⟨r.ps.map cX.x,rfl,?_,q⟩;have:(Str.ofString " ").length=1:=by decide +kernel
  rw[this,Kc]
  omega
 ·rintro t rr acc μ M ⟨a,b,e,e2,rfl,rfl⟩ k
  cases b with
  |nil=>cases e2
  |cons x b =>
   have e2':t=x.t/\rr=b.map cX.t:=by simpa using e2
   obtain⟨rfl,rfl⟩:=e2';have hl:=K1 List.length e;simp at hl;refine⟨trivial,by rw[fT,Kc];exact Kr (show a.length<200000 by omega) d_,?_⟩
   have go:M (sT (a.map cX.x)++[.str x.x]) [.tr r.t]:=k _ _ ⟨a++[x],b,by rw[e];simp,rfl,by simp[sT],rfl⟩
   cases x with
   |s z =>
    rfl';exact go
   |n m =>
    rfl';exact⟨dM (hb m (by rw[e];simp)),go⟩
local macro_rules | `(tactic| walk_at "rz") => do
  let ids := ("Nat.reduceAdd Nat.reduceSub Nat.reduceLeDiff L2.Ap.lE L2.Ap.tC L2.Ap.vt L2.Ap.lX L2.Ap.FN L2.Ap.tQ L2.Ap.wI L2.Ap.pI L2.Ap.jo L2.Ap.tK L2.Ap.AF L2.Ap.fW L2.Ap.xC L2.Ap.tD L2.Ap.gL L2.Ap.xY L2.Ap.EL L2.Ap.Fw L2.Ap.iy L2.Ap.pF L2.Ap.tW L2.Ap.lr L2.Ap.bJ L2.Ap.uL L2.Ap.oF L2.Ap.fR L2.Ap.oX L2.Ap.xV L2.Ap.nV L2.Ap.vQ L2.Ap.nY L2.Ap.mq L2.Ap.uE Ad xb L2.Ap.rI L2.Ap.qT L2.Ap.BA L2.Ap.addRef L2.Ap.Ar L2.Ap.uJ L2.Ap.Gy L2.Ap.Jq L2.Ap.FC L2.Ap.fe L2.Ap.setRef L2.Ap.kB L2.Ap.Hh L2.Ap.dm L2.Ap.kj L2.Ap.Gv L2.Ap.DG L2.Ap.yG L2.start Bh zC FU GF List.map_cons List.map_nil List.length_cons List.length_nil List.replicate List.cons_append List.nil_append List.append_nil List.getElem?_cons_zero List.getElem?_cons_succ List.set_cons_zero List.set_cons_succ Option.some.injEq exists_eq_left exists_eq_left' V.int.injEq V.bl.injEq V.ref.injEq List.cons.injEq and_true true_and decide_eq_true_eq Bool.not_eq_true' decide_eq_false_iff_not Bool.false_eq_true L2.Ap.wL L2.Ap.u_ L2.Ap.kg L2.Ap.jq L2.Ap.pq L2.Ap.pK L2.Ap.y2".splitOn " ").toArray.map fun n => Lean.mkIdent n.toName
  `(tactic| simp only [↓reduceIte, $[$ids:ident],*])
noncomputable def Bz:List Key:=[.inr "a",.inr "b",.inr "c",.inr "d",.inr "e",.inr "f",.inr "g",.inr "h"]
structure jB where
 given:List Int
 heard:Nat
 told:List Int
 bs:List Int
noncomputable def iV(xs:List Int):List V:=xs.map V.int
structure MA where
 m:Addr
 dx:Addr
 gv:Addr
 tl:Addr
 bx:Addr
noncomputable def zf(a:MA)(h:Nat):List (Str×V):=[("given",.ref a.gv),("heard",.int (h:Nat)),("told",.ref a.tl),("boxes",.ref a.bx)]
structure MS (K:Nv) (C:Addr) (H:Hp) (a:MA) (st:jB):Prop where
 om:H a.m=some (.ins C a.dx (zf a st.heard))
 od:H a.dx=some (.own a.m)
 og:H a.gv=some (.tup (iV st.given))
 ot:H a.tl=some (.lst (iV st.told))
 ob:H a.bx=some (.dK (Bz.zip (iV st.bs)))
 l8:st.bs.length=8
 hh:st.heard<=st.given.length
noncomputable def MF(a:MA):List Addr:=[a.m,a.tl,a.bx]
theorem nX(a:MA)(h:Nat):(zf a h).lookup ("given":Str)=some (.ref a.gv):=rfl
theorem kx(a:MA)(h:Nat):(zf a h).lookup ("heard":Str)=some (.int (h:Nat)):=rfl
theorem sL(a:MA)(h:Nat):(zf a h).lookup ("told":Str)=some (.ref a.tl):=rfl
theorem fj(a:MA)(h:Nat):(zf a h).lookup ("boxes":Str)=some (.ref a.bx):=rfl
theorem vn(a:MA)(h k:Nat):cR "heard" (.int (k:Nat)) (zf a h)=zf a k:=rfl
theorem MS.ne1{a:MA}{st:jB}(M:MS K C H a st):a.tl≠a.m/\a.bx≠a.m/\a.gv≠a.m/\a.dx≠a.m/\a.bx≠a.tl/\a.gv≠a.tl/\a.dx≠a.tl/\a.gv≠a.bx/\a.dx≠a.bx:=by
 have h1:=M.om;have h2:=M.od;have h3:=M.og;have h4:=M.ot;have h5:=M.ob;have ap:∀{x y:Addr} {o o':HO},H x=some o->H y=some o'->o≠o'->x≠y:=fun h h' n e=>n (by rw[e] at h;exact Option.some.inj (h.symm.trans h'))
 exact⟨ap h4 h1 (by simp),ap h5 h1 (by simp),ap h3 h1 (by simp),ap h2 h1 (by simp),ap h5 h4 (by simp),ap h3 h4 (by simp),ap h2 h4 (by simp),ap h3 h5 (by simp),ap h2 h5 (by simp)⟩
noncomputable def tq(K:Nv)(C:Addr):Sp:=fun vs H Q _=>∃(a:MA) (st:jB),vs=[.ref a.m]/\MS K C H a st /\
 (st.given.length<=st.heard->Q (.int 0) H)/\∀ x,st.given[st.heard]?=some x->∀ H',MS K C H' a {st with heard:=st.heard+1}->KB (MF a) H H'->Q (.int x) H'
theorem wA(T:Txt K mg)(cM:fu K C)(na_given:aK K C "given")(na_heard:aK K C "heard")(F:e7 K "heard_number" "Machine.heard_number" ay f fd):a_ P w K mg base aN 1 f fd ["self"] (tq K C):=by
 refine F.ok ft (fun vs H Q E h=>?_) (fun cdv A outer s H vs Q E hr h=>?_)
 ·obtain⟨a,st,rfl,_⟩:=h;rfl
 ·obtain⟨a,st,rfl,M,q1,q2⟩:=h;have hu:=aS hr;have key:∃ t,QB (cF aN P w K mg base ["self"] "Machine.heard_number" (aa ay) f cdv A outer s H E).ig (aq ay) t/\t {nx:=fun _ H'=>Q .aE H',rt:=Q} (start ["self"] [.ref a.m]) H:=by
   refine⟨_,(Z.ah (Z.dJ (Z.aZ wQ (Z.fld K rfl (Z.v 0)) (Z.cb (Z.jW K rfl) rfl T.dq (by decide +kernel) (Z.cons (Z.fld K rfl (Z.v 0)) Z.nil))) (Z.az (Z.ret Z.int)) Z.bL)
   (Z.ah (Z.lx K rfl (Z.v 0) (Z.op (Z.cf K rfl) (Z.fld K rfl (Z.v 0)) Z.int))
   (Z.az (Z.ret (Z.ix (Z.eS K rfl hu) (Z.fld K rfl (Z.v 0)) (Z.op kC (Z.fld K rfl (Z.v 0)) Z.int)))))),?_⟩
   have e1:sq H a.gv=some (false,iV st.given):=cz M.og;have hl:(iV st.given).length=st.given.length:=Kc ..;refine aI fun N hN=>?_;walk_at "rz";refine⟨a.m,C,a.dx,_,_,rfl,M.om,cM,na_heard,kx a _,a.m,C,a.dx,_,_,rfl,M.om,cM,na_given,nX a _,?_⟩;simp only[L2.Ap.kB,e1,hl];walk_at "rz";by_cases h1:st.given.length<=st.heard
   ·rw[Kh (by omega)]
    exact q1 h1
   ·rw[Kf (by omega),hN];clear hN N
    have h2:st.heard<st.given.length:=by omega
    obtain⟨n1,n2,n3,n4,n5,n6,n7,n8,n9⟩:=M.ne1;have M':MS K C (upd H a.m (.ins C a.dx (zf a (st.heard+1)))) a {st with heard:=st.heard+1}:=⟨ab,by rw[ae n4];exact M.od,by rw[ae n3];exact M.og,by rw[ae n1];exact M.ot,by rw[ae n2];exact M.ob,M.l8,h2⟩
    refine aI fun N hN=>?_;walk_at "rz";refine⟨a.m,C,a.dx,_,_,rfl,M.om,cM,na_heard,kx a _,?_⟩;walk_at "rz";refine⟨a.m,C,a.dx,_,rfl,M.om,cM,na_heard,(show 4<1000 by decide),?_⟩
    rw[show ((st.heard:Nat):Int)+1=((st.heard+1:Nat):Int) from rfl,vn,hN];clear hN N;walk_at "rz";refine⟨a.m,C,a.dx,_,_,rfl,M'.om,cM,na_given,nX a _,a.m,C,a.dx,_,_,rfl,M'.om,cM,na_heard,kx a _,?_⟩;have e2:sq (upd H a.m (.ins C a.dx (zf a (st.heard+1)))) a.gv=some (false,iV st.given):=cz M'.og;have e3:c_ (iV st.given) (((st.heard+1:Nat):Int)-1)=some (V.int st.given[st.heard]):=by
     rw[show ((st.heard+1:Nat):Int)-1=((st.heard:Nat):Int) by omega]
     exact dA (by unfold iV;rw[K2,Kd h2];rfl)
    simp only[L2.Ap.qT,L2.Ap.fe,e2,e3];exact q2 _ (Kd h2) _ M' (KB.set (by unfold MF;simp))
  obtain⟨t,hb,ht⟩:=key;exact⟨t,hb.h,ht⟩
noncomputable def cX.v:cX->V
 |.s z=>.str z
 |.n k=>.int (k:Nat)
noncomputable def Row.vs(r:Row):List V:=r.ps.map cX.v
noncomputable def mN(bs:List Int)(b:Nat):Int:=bs[b]?.getD 0
theorem qX:∀(b:Nat),b<8->∀ bs:List Int,bs.length=8->hG (Bz.zip (iV bs)) (.inr (bE b))=some (.int (mN bs b)):=by
 intro b hb bs hl;obtain⟨x0,x1,x2,x3,x4,x5,x6,x7,rfl⟩:=Gn hl;rcases EM hb with rfl|rfl|rfl|rfl|rfl|rfl|rfl|rfl<;>rfl
theorem Ep:∀(b:Nat),b<8->∀(bs:List Int) (x:Int),bs.length=8->putK (Bz.zip (iV bs)) (.inr (bE b)) (.int x)=Bz.zip (iV (bs.set b x)):=by
 intro b hb bs x hl;obtain⟨x0,x1,x2,x3,x4,x5,x6,x7,rfl⟩:=Gn hl;rcases EM hb with rfl|rfl|rfl|rfl|rfl|rfl|rfl|rfl<;>rfl
noncomputable def cC(st:jB):Int×jB:=match st.given[st.heard]? with
 |some x=>(x,{st with heard:=st.heard+1})
 |none=>(0,st)
noncomputable def bI(st:jB):Row->Int×jB
 |.put _ n=>((n:Nat),st)
 |.two w a b=>((match w with
  |0=>(mN st.bs a+mN st.bs b) % 65536
  |1=>(mN st.bs a-mN st.bs b) % 65536
  |2=>mN st.bs b % 65536),st)
 |.one _ _=>((cC st).1 % 65536,(cC st).2)
 |_=>(0,st)
noncomputable def isNum:Row->Bool
 |.put _ _=>true
 |.two _ _ _=>true
 |.one 1 _=>true
 |_=>false
noncomputable def Bl(K:Nv)(C:Addr):Sp:=fun vs H Q _=>∃(a:MA) (st:jB) (p:Addr) (r:Row),vs=[.ref a.m,.ref p]/\MS K C H a st/\H p=some (.tup r.vs)/\r.Ok 100000/\isNum r=true /\
 ∀ H',MS K C H' a (bI st r).2->KB (MF a) H H'->Q (.int (bI st r).1) H'
theorem DR{fh:Addr}{d_heard_number:FuncData}(T:Txt K mg)(cM:fu K C)(na_boxes:aK K C "boxes")(mm_heard_number:Meth K C "heard_number" fh)(bm_heard_number:Binds K d_heard_number ["self"] [])(FO_heard_number:a_ P w K mg base aN 1 fh d_heard_number ["self"] (tq K C))(F:e7 K "number_for" "Machine.number_for" aA f fd):a_ P w K mg base aN 2 f fd ["self","row"] (Bl K C):=by
 obtain⟨w_WHOLE,u_WHOLE,hg_WHOLE,hr_WHOLE,rp_WHOLE⟩:=T.rG;have ew:w_WHOLE=.int 65536:=by
  have:=rp_WHOLE (fun _=>none) (fun _=>False)
  cases this;rfl
 subst ew;refine F.ok b8 (fun vs H Q E h=>?_) (fun cdv A outer s H vs Q E hr h=>?_)
 ·obtain⟨a,st,p,r,rfl,_⟩:=h;rfl
 ·obtain⟨a,st,p,r,rfl,M,hp,aU,hi,q⟩:=h;have hu:=aS hr;have key:∃ t,QB (cF aN P w K mg base ["self","row","word","old","other"] "Machine.number_for" (aa aA) f cdv A outer s H E).ig (aq aA) t/\t {nx:=fun _ H'=>Q .aE H',rt:=Q} (start ["self","row","word","old","other"] [.ref a.m,.ref p]) H:=by
   refine⟨_,(Z.ah (Z.set (i:=2) b8.nd rfl (by right) (Z.ix (Z.eS K rfl hu) (Z.v 1) Z.int))
   (Z.ah (Z.dJ (Z.aZ bH (Z.v 2) Z.str) (Z.az (Z.ret (Z.ix (Z.eS K rfl hu) (Z.v 1) Z.int))) Z.bL)
   (Z.ah (Z.dJ (Z.aZ bH (Z.v 2) Z.str) (Z.az (Z.ret (Z.op cG (Z.mF K rfl (Z.v 0) cM mm_heard_number FO_heard_number (hr.mono (by decide)) bm_heard_number au) (Z.glob rfl hg_WHOLE hr_WHOLE)))) Z.bL)
   (Z.ah (Z.set (i:=3) b8.nd rfl (by right) (Z.yx hu (Z.fld K rfl (Z.v 0)) (Z.ix (Z.eS K rfl hu) (Z.v 1) Z.int)))
   (Z.ah (Z.set (i:=4) b8.nd rfl (by right) (Z.yx hu (Z.fld K rfl (Z.v 0)) (Z.ix (Z.eS K rfl hu) (Z.v 1) Z.int)))
   (Z.ah (Z.dJ (Z.aZ bH (Z.v 2) Z.str) (Z.az (Z.ret (Z.op cG (Z.op (Z.cf K rfl) (Z.v 3) (Z.v 4)) (Z.glob rfl hg_WHOLE hr_WHOLE)))) Z.bL)
   (Z.ah (Z.dJ (Z.aZ bH (Z.v 2) Z.str) (Z.az (Z.ret (Z.op cG (Z.op kC (Z.v 3) (Z.v 4)) (Z.glob rfl hg_WHOLE hr_WHOLE)))) Z.bL)
   (Z.az (Z.ret (Z.op cG (Z.v 4) (Z.glob rfl hg_WHOLE hr_WHOLE))))))))))),?_⟩
   have e1:sq H p=some (false,r.vs):=cz hp;refine aI fun N hN=>?_;walk_at "rz";simp only[L2.Ap.fe,e1];have dg:∀ b,b<8->uv H a.bx (.str (bE b)) (some (.int (mN st.bs b))):=fun b hb=>.inl ⟨_,.inr (bE b),.inl M.ob,rfl,(qX b hb st.bs M.l8).symm⟩;have sD:∀{x y:Str} {P1 P2:Prop},x≠y->P2->(if x=y then P1 else P2):=fun h h2=>by rw[Kf h];exact h2
   cases r with
   |put b n =>
    show N [some (.ref a.m),some (.ref p),some (.str "put"),none,none] H;rw[hN];clear hN N;refine aI fun N hN=>?_;walk_at "rz";simp only[L2.Ap.fe,e1];exact q H M (KB.refl _ _)
   |two u b c =>
    show N [some (.ref a.m),some (.ref p),some (.str (w2 u)),none,none] H;have hput:w2 u≠"put":=(show ∀ u,w2 u≠"put" by decide +kernel) u
    have hhear:w2 u≠"hear":=(show ∀ u,w2 u≠"hear" by decide +kernel) u
    rw[hN];clear hN N;refine aI fun N hN=>?_;walk_at "rz";refine sD hput ?_;rw[hN];clear hN N;refine aI fun N hN=>?_;walk_at "rz";refine sD hhear ?_;rw[hN];clear hN N;refine aI fun N hN=>?_;walk_at "rz";refine⟨a.m,C,a.dx,_,_,rfl,M.om,cM,na_boxes,fj a _,?_⟩;simp only[L2.Ap.fe,e1];refine⟨a.bx,_,rfl,dg b aU.1,?_⟩;rw[hN];clear hN N;refine aI fun N hN=>?_;walk_at "rz";refine⟨a.m,C,a.dx,_,_,rfl,M.om,cM,na_boxes,fj a _,?_⟩;simp only[L2.Ap.fe,e1];refine⟨a.bx,_,rfl,dg c aU.2,?_⟩;rw[hN];clear hN N;have fin:=q H M (KB.refl _ _);have hs:w2 1="sub":=rfl;refine aI fun N hN=>?_;walk_at "rz";rcases AK u with rfl|rfl|rfl
    ·rw[Kh (show w2 0="add" from rfl)];exact⟨by decide,fin⟩
    ·refine sD (by decide +kernel) ?_
     rw[hN];clear hN N;refine aI fun N hN=>?_;walk_at "rz";rw[Kh (show w2 1="sub" from rfl)];exact⟨by decide,fin⟩
    ·refine sD (by decide +kernel) ?_
     rw[hN];clear hN N;refine aI fun N hN=>?_;walk_at "rz";refine sD (by decide +kernel) ?_
     rw[hN];clear hN N;walk_at "rz";exact⟨by decide,fin⟩
   |one u b =>
    have hu1:u=1:=by
     rcases pz u with h|h
     ·rw[h] at hi;cases hi
     ·exact h
    subst hu1;show N [some (.ref a.m),some (.ref p),some (.str "hear"),none,none] H;rw[hN];clear hN N;refine aI fun N hN=>?_;walk_at "rz";refine sD (by decide +kernel) ?_
    rw[hN];clear hN N;refine aI fun N hN=>?_;walk_at "rz";refine⟨a.m,a.dx,_,rfl,M.om,rfl,a,st,rfl,M,fun h=>?_,fun x hx H' M' kb=>?_⟩
    ·have e0:cC st=(0,st):=by unfold cC;rw[K0.mpr h]
     have e2:bI st (.one 1 b)=(0 % 65536,st):=by unfold bI;rw[e0]
     rw[e2] at q;walk_at "rz";exact⟨by decide,q H M (KB.refl _ _)⟩
    ·have e0:cC st=(x,{st with heard:=st.heard+1}):=by unfold cC;rw[hx]
     have e2:bI st (.one 1 b)=(x % 65536,{st with heard:=st.heard+1}):=by unfold bI;rw[e0]
     rw[e2] at q;walk_at "rz";exact⟨by decide,q H' M' kb⟩
   |jump g=>cases hi
   |zero b g=>cases hi
   |halt=>cases hi
  obtain⟨t,hb,ht⟩:=key;exact⟨t,hb.h,ht⟩
noncomputable def carry(st:jB):Row->Bool×jB
 |.jump _=>(true,st)
 |.zero b _=>(decide (mN st.bs b=0),st)
 |.one 0 b=>(false,{st with told:=st.told++[mN st.bs b]})
 |.halt=>(false,st)
 |.put b n=>(false,{(bI st (.put b n)).2 with bs:=(bI st (.put b n)).2.bs.set b (bI st (.put b n)).1})
 |.two w a b=>(false,{(bI st (.two w a b)).2 with bs:=(bI st (.two w a b)).2.bs.set a (bI st (.two w a b)).1})
 |.one 1 b=>(false,{(bI st (.one 1 b)).2 with bs:=(bI st (.one 1 b)).2.bs.set b (bI st (.one 1 b)).1})
noncomputable def rX(K:Nv)(C:Addr):Sp:=fun vs H Q _=>∃(a:MA) (st:jB) (p:Addr) (r:Row),vs=[.ref a.m,.ref p]/\MS K C H a st/\H p=some (.tup r.vs)/\r.Ok 100000/\st.told.length<100000 /\
 ∀ H',MS K C H' a (carry st r).2->KB (MF a) H H'->Q (.bl (carry st r).1) H'
theorem yz{fn:Addr}{d_number_for:FuncData}(T:Txt K mg)(cM:fu K C)(na_boxes:aK K C "boxes")(na_told:aK K C "told")(mm_number_for:Meth K C "number_for" fn)(bm_number_for:Binds K d_number_for ["self","row"] [])(FO_number_for:a_ P w K mg base aN 2 fn d_number_for ["self","row"] (Bl K C))(F:e7 K "carry_out" "Machine.carry_out" aD f fd):a_ P w K mg base aN 3 f fd ["self","row"] (rX K C):=by
 refine F.ok dn (fun vs H Q E h=>?_) (fun cdv A outer s H vs Q E hr h=>?_)
 ·obtain⟨a,st,p,r,rfl,_⟩:=h;rfl
 ·obtain⟨a,st,p,r,rfl,M,hp,aU,htl,q⟩:=h;have hu:=aS hr;have key:∃ t,QB (cF aN P w K mg base ["self","row","word"] "Machine.carry_out" (aa aD) f cdv A outer s H E).ig (aq aD) t/\t {nx:=fun _ H'=>Q .aE H',rt:=Q} (start ["self","row","word"] [.ref a.m,.ref p]) H:=by
   refine⟨_,(Z.ah (Z.set (i:=2) dn.nd rfl (by right) (Z.ix (Z.eS K rfl hu) (Z.v 1) Z.int))
   (Z.ah (Z.dJ (Z.aZ bH (Z.v 2) Z.str) (Z.az (Z.ret Z.bl)) Z.bL)
   (Z.ah (Z.dJ (Z.aZ bH (Z.v 2) Z.str) (Z.az (Z.ret (Z.cmp bH (Z.yx hu (Z.fld K rfl (Z.v 0)) (Z.ix (Z.eS K rfl hu) (Z.v 1) Z.int)) Z.int))) Z.bL)
   (Z.ah (Z.dJ (Z.aZ bH (Z.v 2) Z.str) (Z.az (Z.expr (Z.bm K rfl PySem.F.plainAttrs_list PySem.F.slot_list_append PySem.F.type_list_append fk (Z.fld K rfl (Z.v 0)) (Z.cons (Z.yx hu (Z.fld K rfl (Z.v 0)) (Z.ix (Z.eS K rfl hu) (Z.v 1) Z.int)) Z.nil)))) (Z.az (Z.dJ (Z.aZ yr (Z.v 2) Z.str) (Z.az (Z.dput hu (Z.fld K rfl (Z.v 0)) (Z.ix (Z.eS K rfl hu) (Z.v 1) Z.int) (Z.g_ K rfl (Z.v 0) cM mm_number_for FO_number_for (hr.mono (by decide)) bm_number_for au (Z.cons (Z.v 1) Z.nil)))) Z.bL)))
   (Z.az (Z.ret Z.bl)))))),?_⟩
   have e1:sq H p=some (false,r.vs):=cz hp;obtain⟨n1,n2,n3,n4,n5,n6,n7,n8,n9⟩:=M.ne1;refine aI fun N hN=>?_;walk_at "rz";simp only[L2.Ap.fe,e1];have dg:∀ b,b<8->uv H a.bx (.str (bE b)) (some (.int (mN st.bs b))):=fun b hb=>.inl ⟨_,.inr (bE b),.inl M.ob,rfl,(qX b hb st.bs M.l8).symm⟩;have sD:∀{x y:Str} {P1 P2:Prop},x≠y->P2->(if x=y then P1 else P2):=fun h h2=>by rw[Kf h];exact h2
   have go:∀(r':Row) (wd:Str) (b:Nat),r.vs=.str wd::.str (bE b)::(r.vs.drop 2)->b<8->isNum r=true->wd≠"jump"->wd≠"zero"->wd≠"tell"->wd≠"halt"->carry st r=(false,{(bI st r).2 with bs:=(bI st r).2.bs.set b (bI st r).1})->N [some (.ref a.m),some (.ref p),some (.str wd)] H:=by
    intro r' wd b ev hb hi w1 w2 w3 w4 ec;rw[hN];clear hN N;refine aI fun N hN=>?_;walk_at "rz";refine sD w1 ?_;rw[hN];clear hN N;refine aI fun N hN=>?_;walk_at "rz";refine sD w2 ?_;rw[hN];clear hN N;refine aI fun N hN=>?_;walk_at "rz";refine sD w3 ?_;rw[Kh (show ¬ wd="halt" from w4)];refine⟨a.m,a.dx,_,rfl,M.om,rfl,a,st,p,r,rfl,M,hp,aU,hi,fun H1 M1 kb=>?_⟩;have hp1:H1 p=some (.tup r.vs):=kb _ _ hp (by
     unfold MF;simp only[Kn,K4,L3,not_or];exact⟨fun e=>(by rw[e,M.om] at hp;cases hp),fun e=>(by rw[e,M.ot] at hp;cases hp),fun e=>(by rw[e,M.ob] at hp;cases hp)⟩)
    have e2:sq H1 p=some (false,r.vs):=cz hp1;refine⟨a.m,C,a.dx,_,_,rfl,M1.om,cM,na_boxes,fj a _,?_⟩;rw[e2,ev];simp only[zC];obtain⟨k1,k2,k3,k4,k5,k6,k7,k8,k9⟩:=M1.ne1;refine⟨a.bx,_,rfl,.inl ⟨_,.inr (bE b),M1.ob,rfl,?_,rfl⟩,?_⟩
    ·have l8:=M1.l8;rw[List.length_zip];exact KP (Nat.min_le_left _ _) (by decide)
    rw[Ep b hb _ _ M1.l8,hN];clear hN N;walk_at "rz";rw[ec] at q;refine q _ ⟨by rw[ae k2.symm];exact M1.om,by rw[ae k9];exact M1.od,by rw[ae k8];exact M1.og,by rw[ae k5.symm];exact M1.ot,ab,by rw[KO];exact M1.l8,M1.hh⟩ (kb.trans (KB.set (by unfold MF;simp)))
   cases r with
   |put b n=>exact go (.put b n) "put" b rfl aU.1 rfl (by decide +kernel) (by decide +kernel) (by decide +kernel) (by decide +kernel) rfl
   |two u b c=>exact go (.two u b c) (w2 u) b rfl aU.1 rfl ((show ∀ u,w2 u≠"jump" by decide +kernel) u) ((show ∀ u,w2 u≠"zero" by decide +kernel) u) ((show ∀ u,w2 u≠"tell" by decide +kernel) u) ((show ∀ u,w2 u≠"halt" by decide +kernel) u) rfl
   |one u b =>
    rcases pz u with rfl|rfl
    rotate_left
    ·exact go (.one 1 b) "hear" b rfl aU rfl (by decide +kernel) (by decide +kernel) (by decide +kernel) (by decide +kernel) rfl
    ·show N [some (.ref a.m),some (.ref p),some (.str "tell")] H;rw[hN];clear go hN N;refine aI fun N hN=>?_;walk_at "rz";refine sD (by decide +kernel) ?_
     rw[hN];clear hN N;refine aI fun N hN=>?_;walk_at "rz";refine sD (by decide +kernel) ?_
     rw[hN];clear hN N;refine aI fun N hN=>?_;walk_at "rz";refine⟨a.m,C,a.dx,_,_,rfl,M.om,cM,na_told,sL a _,Or.inl ⟨rfl,_,bA.of M.ot⟩,a.m,C,a.dx,_,_,rfl,M.om,cM,na_boxes,fj a _,?_⟩;simp only[L2.Ap.fe,e1];refine⟨a.bx,_,rfl,dg b aU,?_⟩;refine⟨a.tl,_,_,rfl,rfl,M.ot,?_,?_⟩
     ·unfold iV;rw[Kc];exact Ma htl (Kr (by decide) d_)
     rw[hN];clear hN N;walk_at "rz";refine q _ ⟨by rw[ae n1.symm];exact M.om,by rw[ae n7];exact M.od,by rw[ae n6];exact M.og,?_,by rw[ae n5];exact M.ob,M.l8,M.hh⟩ (KB.set (by unfold MF;simp))
     rw[ab];show some (HO.lst (iV st.told++[V.int (mN st.bs b)]))=some (.lst (iV (st.told++[mN st.bs b])));unfold iV;rw[Kx];rfl
   |jump g =>
    show N [some (.ref a.m),some (.ref p),some (.str "jump")] H;rw[hN];clear go hN N;refine aI fun N hN=>?_;walk_at "rz";exact q H M (KB.refl _ _)
   |zero b g =>
    show N [some (.ref a.m),some (.ref p),some (.str "zero")] H;rw[hN];clear go hN N;refine aI fun N hN=>?_;walk_at "rz";refine sD (by decide +kernel) ?_
    rw[hN];clear hN N;refine aI fun N hN=>?_;walk_at "rz";refine⟨a.m,C,a.dx,_,_,rfl,M.om,cM,na_boxes,fj a _,?_⟩;simp only[L2.Ap.fe,e1];refine⟨a.bx,_,rfl,dg b aU.1,?_⟩;walk_at "rz";exact q H M (KB.refl _ _)
   |halt =>
    show N [some (.ref a.m),some (.ref p),some (.str "halt")] H;rw[hN];clear go hN N;refine aI fun N hN=>?_;walk_at "rz";refine sD (by decide +kernel) ?_
    rw[hN];clear hN N;refine aI fun N hN=>?_;walk_at "rz";refine sD (by decide +kernel) ?_
    rw[hN];clear hN N;refine aI fun N hN=>?_;walk_at "rz";refine sD (by decide +kernel) ?_
    rw[Kf (by simp),hN];clear hN N
    walk_at "rz";exact q H M (KB.refl _ _)
  obtain⟨t,hb,ht⟩:=key;exact⟨t,hb.h,ht⟩
noncomputable def sE:Row->Option Nat
 |.jump g=>some g
 |.zero _ g=>some g
 |_=>none
noncomputable def t9(r:Row):L2.T:=match sE r with
 |some g=>.int (g:Nat)
 |none=>.aE
noncomputable def vL:gj:=fun args Q=>∃ r:Row,args=[r.t]/\Q (.tr (t9 r)) []
abbrev k9z(P w K mg base):=ai P w K mg base aN 1 "goal_of" ["row"] (spT K [false] vL)
theorem AW(T:Txt K mg)(F:HasFn K mg "goal_of" fq ["row"]):k9z P w K mg base:=by
 refine F.jP kU [false] rfl (by decide) ?_;left;obtain⟨r,rfl,q⟩:=h;refine⟨_,(Y.az (Y.ret (Y.wB (Y.aZ (Y.gX K rfl) Y.lp Y.str (Y.J8 K rfl rfl T.kI (Y.ix (Y.dR K rfl) Y.bz (Y.vS 0) Y.int))) (Y.ix (Y.dR K rfl) Y.bz (Y.vS 0) (Y.neg Y.int)) Y.aE))),?_⟩;unfold Row.t;have yes:∀{ws:List L2.T} {P1 P2:Prop},ws.all aF=true->Y.gA (.str "goal") ws=true->P1->aF (.str "goal")=true/\ws.all aF=true/\(if Y.gA (.str "goal") ws=true then P1 else P2):=fun h1 h2 p=>⟨rfl,h1,by rw[Kh h2];exact p⟩
 have no:∀{ws:List L2.T} {P1 P2:Prop},ws.all aF=true->Y.gA (.str "goal") ws=false->P2->aF (.str "goal")=true/\ws.all aF=true/\(if Y.gA (.str "goal") ws=true then P1 else P2):=fun h1 h2 p=>⟨rfl,h1,by rw[Kf (by rw[h2];decide)];exact p⟩
 cases r with
 |jump g=>rfl';exact yes rfl (by decide +kernel) q
 |zero b g=>rfl';exact yes rfl (by decide +kernel) q
 |put b n=>rfl';exact no rfl (by decide +kernel) q
 |two u b c =>
  rfl';rcases AK u with rfl|rfl|rfl<;>exact no rfl (by decide +kernel) q
 |one u b =>
  rfl';rcases pz u with rfl|rfl<;>exact no rfl (by decide +kernel) q
 |halt=>rfl';exact no rfl (by decide +kernel) q
theorem AL{p:Addr}{r:Row}(h:H p=some (.tup r.vs)):Rep K H (fun _=>False) (.ref p) r.t:=by
 refine .tup (fun z=>z) h ?_;unfold Row.vs;generalize r.ps=ps
 induction ps with
 |nil=>exact .nil
 |cons x ps ih =>
  refine .cons ?_ ih
  cases x with
  |s z=>exact .str z
  |n k=>exact .int _
noncomputable def place(st:jB)(r:Row)(bh en:Int):Int:=match r with
 |.halt=>en
 |r=>if (carry st r).1=true then ((sE r).getD 0:Nat) else bh
noncomputable def ze(K:Nv)(C:Addr):Sp:=fun vs H Q _=>∃(a:MA) (st:jB) (p:Addr) (r:Row) (bh en:Int),vs=[.ref a.m,.ref p,.int bh,.int en]/\MS K C H a st/\H p=some (.tup r.vs)/\r.Ok 100000/\st.told.length<100000 /\
 ∀ H',MS K C H' a (carry st r).2->KB (MF a) H H'->Q (.int (place st r bh en)) H'
theorem xE{fc:Addr}{d_carry_out:FuncData}(T:Txt K mg)(hgoal_of:k9z P w K mg base)(cM:fu K C)(mm_carry_out:Meth K C "carry_out" fc)(bm_carry_out:Binds K d_carry_out ["self","row"] [])(FO_carry_out:a_ P w K mg base aN 3 fc d_carry_out ["self","row"] (rX K C))(F:e7 K "place_next" "Machine.place_next" aB f fd):a_ P w K mg base aN 4 f fd ["self","row","behind","end"] (ze K C):=by
 refine F.ok cS (fun vs H Q E h=>?_) (fun cdv A outer s H vs Q E hr h=>?_)
 ·obtain⟨a,st,p,r,bh,en,rfl,_⟩:=h;rfl
 ·obtain⟨a,st,p,r,bh,en,rfl,M,hp,aU,htl,q⟩:=h;have hu:=aS hr;have key:∃ t,QB (cF aN P w K mg base ["self","row","behind","end","goes"] "Machine.place_next" (aa aB) f cdv A outer s H E).ig (aq aB) t/\t {nx:=fun _ H'=>Q .aE H',rt:=Q} (start ["self","row","behind","end","goes"] [.ref a.m,.ref p,.int bh,.int en]) H:=by
   refine⟨_,(Z.ah (Z.set (i:=4) cS.nd rfl (by right) (Z.g_ K rfl (Z.v 0) cM mm_carry_out FO_carry_out (hr.mono (by decide)) bm_carry_out au (Z.cons (Z.v 1) Z.nil)))
   (Z.ah (Z.dJ (Z.aZ bH (Z.ix (Z.eS K rfl hu) (Z.v 1) Z.int) Z.str) (Z.az (Z.ret (Z.v 3))) Z.bL)
   (Z.az (Z.ret (Z.wB (Z.wU K rfl (Z.v 4)) (Z.fn hgoal_of (hr.mono (by decide)) rfl au (Z.cons (Z.v 1) Z.nil)) (Z.v 2)))))),?_⟩
   refine aI fun N hN=>?_;walk_at "rz";refine⟨a.m,a.dx,_,rfl,M.om,rfl,a,st,p,r,rfl,M,hp,aU,htl,fun H1 M1 kb=>?_⟩;have hp1:H1 p=some (.tup r.vs):=kb _ _ hp (by
    unfold MF;simp only[Kn,K4,L3,not_or];exact⟨fun e=>(by rw[e,M.om] at hp;cases hp),fun e=>(by rw[e,M.ot] at hp;cases hp),fun e=>(by rw[e,M.ob] at hp;cases hp)⟩)
   have e2:sq H1 p=some (false,r.vs):=cz hp1;walk_at "rz";rw[hN];clear hN N;refine aI fun N hN=>?_;walk_at "rz";simp only[L2.Ap.fe,e2];have fin:=q H1 M1 kb;by_cases hh:r=.halt
   ·subst hh;show Bo (.str "halt") (.str "halt") H1 _;simp only[L2.Ap.uJ];exact⟨_,rfl,by rw[Kh (by simp)];exact fin⟩
   ·obtain⟨wd,hw,hne⟩:∃ wd,c_ r.vs 0=some (.str wd)/\wd≠"halt":=by
     cases r with
     |put b n=>exact⟨_,rfl,by decide +kernel⟩
     |two u b c=>exact⟨_,rfl,(show ∀ u,w2 u≠"halt" by decide +kernel) u⟩
     |one u b=>exact⟨_,rfl,(show ∀ u,w1 u≠"halt" by decide +kernel) u⟩
     |jump g=>exact⟨_,rfl,by decide +kernel⟩
     |zero b g=>exact⟨_,rfl,by decide +kernel⟩
     |halt=>exact absurd rfl hh
    have ep:place st r bh en=if (carry st r).1=true then (((sE r).getD 0:Nat):Int) else bh:=by
     cases r<;>first|rfl|exact absurd rfl hh
    rw[hw];simp only[L2.Ap.uJ];refine⟨_,rfl,?_⟩;rw[Kf (by simpa using hne),hN];clear hN N
    walk_at "rz"
    cases hc:(carry st r).1 with
    |false =>
     rw[Kf (by decide)]
     rw[ep,hc] at fin;exact fin
    |true =>
     rw[Kh rfl];obtain⟨g,hg⟩:∃ g,sE r=some g:=by
      cases r with
      |put b n=>cases hc
      |two u b c=>cases hc
      |one u b =>
       rcases pz u with rfl|rfl<;>cases hc
      |jump g=>exact⟨g,rfl⟩
      |zero b g=>exact⟨g,rfl⟩
      |halt=>cases hc
     refine⟨fun _=>False,[r.t],fun rr outs=>rr=.tr (t9 r),⟨AL hp1,trivial⟩,fun b z=>z.elim,KW,⟨r,rfl,rfl⟩,fun v H' rr outs hq kp res=>?_⟩;subst hq;have hT:t9 r=.int (g:Nat):=by unfold t9;rw[hg]
     rw[hT] at res;have rp:=res.1;cases rp;have sm:∀ b o,H1 b=some o->H' b=some o:=fun b o e=>kp b o e (by simp[mU])
     have:=q H' ⟨sm _ _ M1.om,sm _ _ M1.od,sm _ _ M1.og,sm _ _ M1.ot,sm _ _ M1.ob,M1.l8,M1.hh⟩ (kb.trans fun b o e _=>sm b o e);rw[ep,hc,hg] at this;exact this
  obtain⟨t,hb,ht⟩:=key;exact⟨t,hb.h,ht⟩
noncomputable def Cu(K:Nv)(C:Addr):Sp:=fun vs H Q _=>∃(a:MA) (st:jB),vs=[.ref a.m]/\MS K C H a st/\∀ p,H p=none->Q (.ref p) (upd H p (.tup (iV st.told)))
theorem Be(T:Txt K mg)(cM:fu K C)(na_told:aK K C "told")(F:e7 K "told_numbers" "Machine.told_numbers" ax f fd):a_ P w K mg base aN 1 f fd ["self"] (Cu K C):=by
 refine F.ok fi (fun vs H Q E h=>?_) (fun cdv A outer s H vs Q E hr h=>?_)
 ·obtain⟨a,st,rfl,_⟩:=h;rfl
 ·obtain⟨a,st,rfl,M,q⟩:=h;have hu:=aS hr;have key:∃ t,QB (cF aN P w K mg base ["self"] "Machine.told_numbers" (aa ax) f cdv A outer s H E).ig (aq ax) t/\t {nx:=fun _ H'=>Q .aE H',rt:=Q} (start ["self"] [.ref a.m]) H:=by
   refine⟨_,(Z.az (Z.ret (Z.ct (Z.ie K rfl) rfl T.dC (by decide +kernel) (Z.cons (Z.fld K rfl (Z.v 0)) Z.nil)))),?_⟩
   have e1:sq H a.tl=some (true,iV st.told):=bG M.ot;walk_at "rz";refine⟨a.m,C,a.dx,_,_,rfl,M.om,cM,na_told,sL a _,?_⟩;simp only[L2.Ap.kj,e1];exact fun p hp=>q p hp
  obtain⟨t,hb,ht⟩:=key;exact⟨t,hb.h,ht⟩
noncomputable def Bu:List Str:=["a","b","c","d","e","f","g","h"]
theorem jU:∀{xs:List Str} {vs:List V},av K H B vs (xs.map L2.T.str)->vs=xs.map V.str
 |[],_,r=>by cases r;rfl
 |x::xs,_,r=>by
  cases r with
  |cons h r=>cases h;rw[jU r];rfl
noncomputable def A0(K:Nv)(C:Addr):Sp:=fun vs H Q _=>∃(a:MA) (st:jB),vs=[.ref a.m]/\MS K C H a st/\∀ p H',H p=none->H' p=some (.tup (iV st.bs))->KB [] H H'->Q (.ref p) H'
theorem yj(T:Txt K mg)(cM:fu K C)(na_boxes:aK K C "boxes")(F:e7 K "box_numbers" "Machine.box_numbers" aw f fd):a_ P w K mg base aN 1 f fd ["self"] (A0 K C):=by
 obtain⟨w_BOXES,u_BOXES,hg_BOXES,hr_BOXES,rp_BOXES⟩:=T.mZ;refine F.ok fz (fun vs H Q E h=>?_) (fun cdv A outer s H vs Q E hr h=>?_)
 ·obtain⟨a,st,rfl,_⟩:=h;rfl
 ·obtain⟨a,st,rfl,M,q⟩:=h;have hu:=aS hr;have key:∃ t,QB (cF aN P w K mg base ["self"] "Machine.box_numbers" (aa aw) f cdv A outer s H E).ig (aq aw) t/\t {nx:=fun _ H'=>Q .aE H',rt:=Q} (start ["self"] [.ref a.m]) H:=by
   refine⟨_,(Z.az (Z.ret (Z.ct (Z.ie K rfl) rfl T.dC (by decide +kernel) (Z.cons (Z.comp (osc:=aa aw) (ON:=["self"]) (own:=["box"]) (N:=["box","self"]) ⟨rfl,by decide +kernel,rfl,by decide +kernel,by decide +kernel,by decide +kernel,by decide +kernel,by decide +kernel⟩ rfl rfl rfl (Z.seq K rfl (Z.glob rfl hg_BOXES hr_BOXES)) (fun _ _ _ _=>(Z.bB (i:=0) (show List.Nodup (["box","self"]:List Str) by decide +kernel) rfl (by right))) (fun _ _ _ _=>Z.nW) (fun _ _ _ _=>(Z.yx hu (Z.fld K rfl (Z.v 1)) (Z.v 0)))) Z.nil)))),?_⟩
   obtain⟨b,rfl,kt⟩:∃ b,w_BOXES=.ref b/\yE K b (Bu.map V.str):=by
    have:=rp_BOXES (fun _=>none) (fun _=>False)
    cases this with
    |cT h r =>
     have e:=jU (xs:=Bu) r;subst e;exact⟨_,rfl,h⟩
   walk_at "rz";refine .inr ⟨⟨_,.inr kt⟩,?_⟩;have l8:=M.l8;refine fb (xs:=Bu.map V.str) (by decide) (fun D i ys H'=>H D=none/\KB [] H H'/\H' D=some (.lst ys)/\ys=iV (st.bs.take i)/\i<=8) (fun D hD=>⟨hD,KB.new hD,ab,by simp[iV],by decide⟩) (fun D i ys H' ⟨h1,h2,h3,h4,h5⟩=>⟨h3,by rw[h4];unfold iV;rw[Kc,KD];omega⟩) (fun D i ys H' _=>.inr kt) ?_ ?_
   ·rintro D i ys H' x R hx ⟨h1,h2,h3,h4,h5⟩ k;have hi:i<8:=by
     rcases KU i 8 with c|c
     ·exact c
     ·rw[K0.mpr (by exact c)] at hx;cases hx
    have ex:x=.str (bE i):=by
     rcases EM hi with rfl|rfl|rfl|rfl|rfl|rfl|rfl|rfl<;>exact (Option.some.inj hx).symm
    subst ex;have om':=h2 _ _ M.om (by simp)
    have ob':=h2 _ _ M.ob (by simp)
    walk_at "rz";refine⟨a.m,C,a.dx,_,_,rfl,om',cM,na_boxes,fj a _,a.bx,_,rfl,.inl ⟨_,.inr (bE i),.inl ob',rfl,(qX i hi st.bs l8).symm⟩,?_⟩;refine k _ H' h3 ⟨h1,fun b o e _=>?_,ab,?_,by omega⟩
    ·rw[ae (af e h1)];exact h2 b o e (by simp)
    ·have hb:i<st.bs.length:=by omega
     rw[h4,LH hb];unfold iV mN;rw[Kx,Kd hb];rfl
   ·rintro D ys H' ⟨h1,h2,h3,h4,h5⟩;have e1:sq H' D=some (true,ys):=bG h3;simp only[L2.Ap.kj,e1];refine fun p hp=>q p _ (h2.free (by simp) hp) ?_ (h2.trans (KB.new hp))
    rw[ab,h4];have:st.bs.take (Bu.map V.str).length=st.bs:=K8 (by rw[l8];decide)
    rw[this]
  obtain⟨t,hb,ht⟩:=key;exact⟨t,hb.h,ht⟩
noncomputable def EB(g:List Int):jB:=⟨g,0,[],[0,0,0,0,0,0,0,0]⟩
noncomputable def C6(K:Nv)(C:Addr):Sp:=fun vs H Q _=>∃(x dx gv:Addr) (g:List Int),vs=[.ref x,.ref gv]/\H x=some (.ins C dx [])/\H dx=some (.own x)/\H gv=some (.tup (iV g)) /\
 ∀ H' tl bx,H tl=none->H bx=none->MS K C H' ⟨x,dx,gv,tl,bx⟩ (EB g)->KB [x] H H'->Q .aE H'
theorem A7(T:Txt K mg)(cM:fu K C)(na_given:aK K C "given")(na_heard:aK K C "heard")(na_told:aK K C "told")(na_boxes:aK K C "boxes")(F:e7 K "__init__" "Machine.__init__" aC f fd):a_ P w K mg base aN 1 f fd ["self","given"] (C6 K C):=by
 obtain⟨w_BOXES,u_BOXES,hg_BOXES,hr_BOXES,rp_BOXES⟩:=T.mZ;refine F.ok gy (fun vs H Q E h=>?_) (fun cdv A outer s H vs Q E hr h=>?_)
 ·obtain⟨x,dx,gv,g,rfl,_⟩:=h;rfl
 ·obtain⟨x,dx,gv,g,rfl,ox,od,og,q⟩:=h;have hu:=aS hr;have key:∃ t,QB (cF aN P w K mg base ["self","given"] "Machine.__init__" (aa aC) f cdv A outer s H E).ig (aq aC) t/\t {nx:=fun _ H'=>Q .aE H',rt:=Q} (start ["self","given"] [.ref x,.ref gv]) H:=by
   refine⟨_,(Z.ah (Z.lx K rfl (Z.v 0) (Z.v 1))
   (Z.ah (Z.lx K rfl (Z.v 0) Z.int)
   (Z.ah (Z.lx K rfl (Z.v 0) (Z.lst Z.nil))
   (Z.az (Z.lx K rfl (Z.v 0) (Z.ct (ou K rfl) rfl T.Eh (by decide +kernel) (Z.cons (Z.comp (osc:=aa aC) (ON:=["self","given"]) (own:=["box"]) (N:=["box","self","given"]) ⟨rfl,by decide +kernel,rfl,by decide +kernel,by decide +kernel,by decide +kernel,by decide +kernel,by decide +kernel⟩ rfl rfl rfl (Z.seq K rfl (Z.glob rfl hg_BOXES hr_BOXES)) (fun _ _ _ _=>(Z.bB (i:=0) (show List.Nodup (["box","self","given"]:List Str) by decide +kernel) rfl (by right))) (fun _ _ _ _=>Z.nW) (fun _ _ _ _=>(Z.tup (Z.cons (Z.v 0) (Z.cons Z.int Z.nil))))) Z.nil))))))),?_⟩
   obtain⟨b,rfl,kt⟩:∃ b,w_BOXES=.ref b/\yE K b (Bu.map V.str):=by
    have:=rp_BOXES (fun _=>none) (fun _=>False)
    cases this with
    |cT h r =>
     have e:=jU (xs:=Bu) r;subst e;exact⟨_,rfl,h⟩
   have ndx:dx≠x:=by rintro rfl;rw[ox] at od;cases od
   have ngx:gv≠x:=by rintro rfl;rw[ox] at og;cases og
   refine aI fun N hN=>?_;walk_at "rz";refine⟨x,C,dx,_,rfl,ox,cM,na_given,by decide,?_⟩
   rw[hN];clear hN N;refine aI fun N hN=>?_;walk_at "rz";refine⟨x,C,dx,_,rfl,ab,cM,na_heard,(show 1<1000 by decide),?_⟩
   rw[hN];clear hN N;rw[rH];refine aI fun N hN=>?_;walk_at "rz";refine⟨by decide,fun tl htl=>?_⟩
   have ntl:tl≠x:=by rintro rfl;rw[ab] at htl;cases htl
   have htl0:H tl=none:=by rw[ae ntl] at htl;exact htl
   refine⟨x,C,dx,cR "heard" (.int 0) (cR "given" (.ref gv) []),rfl,by rw[ae ntl.symm];exact ab,cM,na_told,(show 2<1000 by decide),?_⟩
   rw[hN];clear hN N;have ntd:tl≠dx:=fun e=>by rw[e,od] at htl0;cases htl0
   have ntg:tl≠gv:=fun e=>by rw[e,og] at htl0;cases htl0
   obtain⟨H3,e3⟩:∃ H3,H3=upd (upd (upd H x (.ins C dx (cR "heard" (.int 0) (cR "given" (.ref gv) [])))) tl (.lst [])) x (.ins C dx (cR "told" (.ref tl) (cR "heard" (.int 0) (cR "given" (.ref gv) [])))):=⟨_,rfl⟩;rw[<- e3];have x3:H3 x=some (.ins C dx [("given",.ref gv),("heard",.int 0),("told",.ref tl)]):=by rw[e3];exact ab
   have t3:H3 tl=some (.lst []):=by rw[e3,ae ntl];exact ab
   have d3:H3 dx=some (.own x):=by rw[e3,ae ndx,ae ntd.symm,ae ndx];exact od
   have g3:H3 gv=some (.tup (iV g)):=by rw[e3,ae ngx,ae ntg.symm,ae ngx];exact og
   have k3:KB [x] H H3:=by
    rw[e3];exact ((KB.set (by simp)).trans (KB.new htl)).trans (KB.set (by simp))
   clear e3;walk_at "rz";refine .inr ⟨⟨_,.inr kt⟩,?_⟩;refine fb (xs:=Bu.map V.str) (by decide) (fun D i ys H'=>H3 D=none/\KB [] H3 H'/\H' D=some (.lst ys)/\ys.length=i/\i<=8/\∀ j,j<i->∃ p,ys[j]?=some (.ref p)/\H' p=some (.tup [.str (bE j),.int 0])) (fun D hD=>⟨hD,KB.new hD,ab,rfl,by decide,fun j hj=>absurd hj (Nat.not_lt_zero _)⟩) (fun D i ys H' ⟨h1,h2,h3,h4,h5⟩=>⟨h3,h4⟩) (fun D i ys H' _=>.inr kt) ?_ ?_
   ·rintro D i ys H' z R hx ⟨h1,h2,h3,h4,h5,h6⟩ k;have hi:i<8:=by
     rcases KU i 8 with c|c
     ·exact c
     ·rw[K0.mpr (by exact c)] at hx;cases hx
    have ex:z=.str (bE i):=by
     rcases EM hi with rfl|rfl|rfl|rfl|rfl|rfl|rfl|rfl<;>exact (Option.some.inj hx).symm
    subst ex;walk_at "rz";refine⟨by decide,fun p hp=>?_⟩
    have npD:p≠D:=by rintro rfl;rw[h3] at hp;cases hp
    refine k _ _ (by rw[ae npD.symm];exact h3) ⟨h1,fun c o e _=>?_,ab,by rw[Kv,h4];rfl,by omega,fun j hj=>?_⟩
    ·have hc:=h2 c o e (by simp)
     rw[ae (af e h1),ae (af hc hp)];exact hc
    ·rcases KU j i with c|c
     ·obtain⟨p',e1,e2⟩:=h6 j c;have n1:p'≠D:=by rintro rfl;rw[h3] at e2;cases e2
      exact⟨p',by rw[L6 (by omega)];exact e1,by rw[ae n1,ae (af e2 hp)];exact e2⟩
     ·have:j=i:=by omega
      subst this;exact⟨p,by rw[LZ (by omega),h4];simp,by rw[ae npD];exact ab⟩
   ·rintro D ys H' ⟨h1,h2,h3,h4,h5,h6⟩;have hl:(Bu.map V.str).length=8:=rfl;rw[hl] at h4 h6;refine⟨D,ys,Bz.zip (iV (EB g).bs),rfl,h3,⟨h4,fun j k z e=>?_⟩,(show 8<=20000 by decide),fun p hp=>?_⟩
    ·have hj:j<8:=by
      rcases KU j 8 with c|c
      ·exact c
      ·rw[K0.mpr (by exact c)] at e;cases e
     obtain⟨p,e1,e2⟩:=h6 j hj;refine⟨p,e1,?_⟩;rw[e2];rcases EM hj with rfl|rfl|rfl|rfl|rfl|rfl|rfl|rfl<;>(cases e;rfl)
    ·have hm:fY [] (Bz.zip (iV (EB g).bs))=Bz.zip (iV (EB g).bs):=by
      rw[Y.lJ _ [] ?_,MX];show (Bz.map fun k=>k).Nodup
      decide +kernel
     rw[hm];have x4:=h2 _ _ x3 (by simp)
     have t4:=h2 _ _ t3 (by simp)
     have d4:=h2 _ _ d3 (by simp)
     have g4:=h2 _ _ g3 (by simp)
     have px:p≠x:=fun e=>by rw[e,x4] at hp;cases hp
     have pt:p≠tl:=fun e=>by rw[e,t4] at hp;cases hp
     have pd:p≠dx:=fun e=>by rw[e,d4] at hp;cases hp
     have pg:p≠gv:=fun e=>by rw[e,g4] at hp;cases hp
     have hp3:H3 p=none:=h2.free (by simp) hp
     have hp0:H p=none:=k3.free (by simpa using px) hp3
     refine⟨x,C,dx,[("given",.ref gv),("heard",.int 0),("told",.ref tl)],rfl,by rw[ae px.symm];exact x4,cM,na_boxes,(show 3<1000 by decide),?_⟩
     refine q _ tl p htl0 hp0 ⟨ab,by rw[ae ndx,ae pd.symm];exact d4,by rw[ae ngx,ae pg.symm];exact g4,by rw[ae ntl,ae pt.symm];exact t4,by rw[ae px];exact ab,rfl,K7 _⟩ ?_
     exact ((k3.trans h2.all).trans (KB.new hp)).trans (KB.set (by simp))
  obtain⟨t,hb,ht⟩:=key;exact⟨t,hb.h,ht⟩
noncomputable def pL(rs:List Row):List L2.T:=rs.map Row.t
structure RS where
 st:jB
 turns:List Int
 at_:Nat
noncomputable def ve(rows:List Row)(i:Nat):Row:=rows[i]?.getD .halt
noncomputable def d8(rows:List Row)(c:RS):RS:=
 ⟨(carry c.st (ve rows c.at_)).2,c.turns.set c.at_ (c.turns[c.at_]?.getD 0+1),(place c.st (ve rows c.at_) ((c.at_:Int)+1) rows.length).toNat⟩
noncomputable def runs(rows:List Row):Nat->RS->RS
 |0,c=>c
 |n+1,c=>if c.at_<rows.length then runs rows n (d8 rows c) else c
noncomputable def jb(rows:List Row)(g:List Int):RS:=⟨EB g,rows.map fun _=>0,0⟩
noncomputable def hJ(rows:List Row)(c:RS):L2.T:=.tup [.str (if c.at_<rows.length then "more" else "halt"),.tup (nI c.st.told),.tup (nI c.turns),.tup (nI c.st.bs)]
noncomputable def Ey:gj:=fun args Q=>∃(rows:List Row) (g:List Int) (most:Nat),args=[.tup (pL rows),.tup (nI g),.int (most:Nat)]/\rows.length<=1000/\(∀ r∈rows,r.Ok 100000)/\g.length<=1000/\most<=10000/\Q (.tr (hJ rows (runs rows most (jb rows g)))) []
theorem gb:∀{xs:List Int} {vs:List V},av K H B vs (nI xs)->vs=iV xs
 |[],_,r=>by cases r;rfl
 |x::xs,_,r=>by
  cases r with
  |cons h r=>cases h;rw[gb r];rfl
theorem oW:∀{ps:List cX} {vs:List V},av K H B vs (ps.map cX.t)->vs=ps.map cX.v
 |[],_,r=>by cases r;rfl
 |x::ps,_,r=>by
  cases r with
  |cons h r =>
   rw[oW r]
   cases x with
   |s z=>cases h;rfl
   |n k=>cases h;rfl
theorem xF{v:V}{r:Row}(h:Rep K H B v r.t):∃ p,v=.ref p/\H p=some (.tup r.vs):=by
 unfold Row.t at h
 cases h with
 |tup n h r=>exact⟨_,rfl,by rw[h,oW r];rfl⟩
theorem lL:∀{rs:List Row} {vs:List V},av K H B vs (pL rs)->vs.length=rs.length/\∀(i:Nat) r,rs[i]?=some r->∃ p,vs[i]?=some (.ref p)/\H p=some (.tup r.vs)
 |[],_,r=>by cases r;exact⟨rfl,fun i r e=>by simp at e⟩
 |x::rs,_,r=>by
  cases r with
  |cons h r =>
   obtain⟨h1,h2⟩:=lL r;refine⟨by simp[h1],fun i r e=>?_⟩
   cases i with
   |zero =>
    cases e;obtain⟨p,rfl,hp⟩:=xF h;exact⟨p,rfl,hp⟩
   |succ i=>exact h2 i r (by simpa using e)
theorem dN:∀ xs:List Int,av K H B (iV xs) (nI xs)
 |[]=>.nil
 |x::xs=>.cons (.int x) (dN xs)
theorem se(st:jB)(r:Row):(carry st r).2.told.length<=st.told.length+1:=by
 have hh:(cC st).2.told=st.told:=by unfold cC;split<;>rfl
 cases r with
 |put b n=>exact LR _
 |two u a b=>exact LR _
 |one u b =>
  rcases pz u with rfl|rfl
  ·show (st.told++[mN st.bs b]).length<=_;rw[Kv];exact Kk _
  ·show (cC st).2.told.length<=_;rw[hh];exact LR _
 |jump g=>exact LR _
 |zero b g=>exact LR _
 |halt=>exact LR _
abbrev k1z(P w K mg base):=ai P w K mg base aN 6 "run_rows" ["program","given","most"] (spT K [false,false,false] Ey)
theorem Co(T:Txt K mg)(hgoal_of:k9z P w K mg base)(F:HasFn K mg "run_rows" ed ["program","given","most"]):k1z P w K mg base:=by
 obtain⟨C_Machine,f___init__,f_place_next,f_carry_out,f_number_for,f_heard_number,f_told_numbers,f_box_numbers,d___init__,d_place_next,d_carry_out,d_number_for,d_heard_number,d_told_numbers,d_box_numbers,hC_Machine,cM,na_given,na_heard,na_told,na_boxes,mm___init__,FM___init__,bm___init__,mm_place_next,FM_place_next,bm_place_next,mm_carry_out,FM_carry_out,bm_carry_out,mm_number_for,FM_number_for,bm_number_for,mm_heard_number,FM_heard_number,bm_heard_number,mm_told_numbers,FM_told_numbers,bm_told_numbers,mm_box_numbers,FM_box_numbers,bm_box_numbers⟩:=T.mc;have FO_heard_number:=wA (P:=P) (w:=w) (mg:=mg) (base:=base) T cM na_given na_heard FM_heard_number;have FO_number_for:=DR (P:=P) (w:=w) (mg:=mg) (base:=base) T cM na_boxes mm_heard_number bm_heard_number FO_heard_number FM_number_for;have FO_carry_out:=yz (P:=P) (w:=w) (mg:=mg) (base:=base) T cM na_boxes na_told mm_number_for bm_number_for FO_number_for FM_carry_out;have FO_place_next:=xE T hgoal_of cM mm_carry_out bm_carry_out FO_carry_out FM_place_next;have FO_told_numbers:=Be (P:=P) (w:=w) (mg:=mg) (base:=base) T cM na_told FM_told_numbers;have FO_box_numbers:=yj (P:=P) (w:=w) (mg:=mg) (base:=base) T cM na_boxes FM_box_numbers;have FO___init__:=A7 (P:=P) (w:=w) (mg:=mg) (base:=base) T cM na_given na_heard na_told na_boxes FM___init__;refine F.Ic bQ (fun vs H Q E h=>?_) (fun f cdv A outer s H vs Q E hr h=>?_)
 ·obtain⟨B,args,Qt,ag,_⟩:=h;exact ag.len.1
 ·obtain⟨B,args,Qt,ag,hB,hnd,⟨rows,g,most,rfl,hrl,aU,hgl,hmo,hq⟩,q⟩:=h;have hu:=aS hr;obtain⟨v1,v2,v3,rfl⟩:=Y.v_ ag.len.1;obtain⟨r1,r2,r3,_⟩:=ag;cases r3
  cases r2 with
  |@tup gv vsg _ ng og rg =>
   have eg:=gb rg;subst eg
   cases r1 with
   |@tup pv pvs _ np op rp =>
    obtain⟨hl,hrow⟩:=lL rp;refine⟨_,(Z.ah (Z.set (i:=3) bQ.nd rfl (by right) (Z.make K rfl mm___init__ FO___init__ (hr.mono (by decide)) rfl hC_Machine bm___init__ au (Z.cons (Z.v 1) Z.nil)))
   (Z.ah (Z.setC (j:=4) bQ.nd rfl (by right) (osc:=aa ed) (ON:=["program","given","most","machine","turns","at","done","how"]) (own:=["row"]) (N:=["row","program","given","most","machine","turns","at","done","how"]) ⟨rfl,by decide +kernel,rfl,by decide +kernel,by decide +kernel,by decide +kernel,by decide +kernel,by decide +kernel⟩ rfl rfl rfl (Z.any K rfl (Z.v 0)) (fun _ _ _ _=>(Z.bB (i:=0) (show List.Nodup (["row","program","given","most","machine","turns","at","done","how"]:List Str) by decide +kernel) rfl (by right))) (fun _ _ _ _=>Z.nW) (fun _ _ _ _=>Z.int))
   (Z.ah (Z.set (i:=5) bQ.nd rfl (by right) Z.int)
   (Z.ah (Z.set (i:=6) bQ.nd rfl (by right) Z.int)
   (Z.ah (Z.DK LQ (Z.tw (Z.wC (Z.aZ iI (Z.v 5) (Z.cb (Z.jW K rfl) rfl T.dq (by decide +kernel) (Z.cons (Z.v 0) Z.nil))) (Z.n_ (Z.aZ iI (Z.v 6) (Z.v 2))))) (Z.ah (Z.asg (Z.op (Z.cf K rfl) (Z.ix (Z.eS K rfl hu) (Z.v 4) (Z.v 5)) Z.int) (Z.vV (Z.v 4) (Z.v 5)))
   (Z.ah (Z.set (i:=6) bQ.nd rfl (by right) (Z.op (Z.cf K rfl) (Z.v 6) Z.int))
   (Z.az (Z.set (i:=5) bQ.nd rfl (by right) (Z.g_ K rfl (Z.v 3) cM mm_place_next FO_place_next (hr.mono (by decide)) bm_place_next au (Z.cons (Z.ix (Z.eS K rfl hu) (Z.v 0) (Z.v 5)) (Z.cons (Z.op (Z.cf K rfl) (Z.v 5) Z.int) (Z.cons (Z.cb (Z.jW K rfl) rfl T.dq (by decide +kernel) (Z.cons (Z.v 0) Z.nil)) Z.nil)))))))))
   (Z.ah (Z.set (i:=7) bQ.nd rfl (by right) (Z.wB (Z.aZ iI (Z.v 5) (Z.cb (Z.jW K rfl) rfl T.dq (by decide +kernel) (Z.cons (Z.v 0) Z.nil))) Z.str Z.str))
   (Z.az (Z.ret (Z.tup (Z.cons (Z.v 7) (Z.cons (Z.mF K rfl (Z.v 3) cM mm_told_numbers FO_told_numbers (hr.mono (by decide)) bm_told_numbers au) (Z.cons (Z.ct (Z.ie K rfl) rfl T.dC (by decide +kernel) (Z.cons (Z.v 4) Z.nil)) (Z.cons (Z.mF K rfl (Z.v 3) cM mm_box_numbers FO_box_numbers (hr.mono (by decide)) bm_box_numbers au) Z.nil))))))))))))),?_⟩
    refine aI fun N hN=>?_;walk_at "rz";intro x dx hx hdx nd;have ngx:gv≠x:=fun e=>by rw[e,hx] at og;cases og
    have ngd:gv≠dx:=fun e=>by rw[e,hdx] at og;cases og
    refine⟨x,dx,gv,g,rfl,ab,by rw[ae nd];exact ab,by rw[ae ngx,ae ngd];exact og,fun H1 tl bx htl hbx M1 kb=>⟨rfl,?_⟩⟩
    have k1:KB [] H H1:=fun b o e _=>kb b o (by
     rw[ae (af e hx),ae (af e hdx)];exact e) (by simpa using af e hx)
    rw[hN];clear hN N;refine aI fun N hN=>?_;have op1:=k1 _ _ op (by simp)
    have es:sq H1 pv=some (false,pvs):=cz op1;walk_at "rz";simp only[L2.Ap.uE,es];have szp:pvs.length<=sizeLine:=Kj (show pvs.length<=200000 by omega) d_
    refine fb (xs:=pvs) szp (fun D i ys H'=>H1 D=none/\KB [] H1 H'/\H' D=some (.lst ys)/\ys=iV (List.replicate i 0)) (fun D hD=>⟨hD,KB.new hD,ab,rfl⟩) (fun D i ys H' ⟨h1,h2,h3,h4⟩=>⟨h3,by rw[h4];unfold iV;rw[Kc,K_]⟩) (fun D i ys H' ⟨h1,h2,h3,h4⟩=>bO.of (h2 _ _ op1 (by simp))) ?_ ?_
    ·rintro D i ys H' z R hz ⟨h1,h2,h3,h4⟩ k;walk_at "rz";refine k _ H' h3 ⟨h1,fun c o e _=>?_,ab,?_⟩
     ·rw[ae (af e h1)];exact h2 c o e (by simp)
     ·rw[h4,List.replicate_succ'];unfold iV;rw[Kx];rfl
    rintro D ys H2 ⟨hD1,k2,oD,eys⟩;have etz:List.replicate pvs.length (0:Int)=rows.map fun _=>0:=by rw[List.map_const',hl]
    rw[eys,etz] at oD;have M2:MS K C_Machine H2 ⟨x,dx,gv,tl,bx⟩ (EB g):=⟨k2 _ _ M1.om (by simp),k2 _ _ M1.od (by simp),k2 _ _ M1.og (by simp),k2 _ _ M1.ot (by simp),k2 _ _ M1.ob (by simp),M1.l8,M1.hh⟩
    have k02:KB [] H H2:=k1.trans k2;rw[hN];clear hN N;refine aI fun N hN=>?_;walk_at "rz";rw[hN];clear hN N;refine aI fun N hN=>?_;walk_at "rz";rw[hN];clear hN N;refine aI fun N hN=>?_;refine⟨fun m σ H'=>∃(n:Nat) (c:RS),n<=most/\m=most-n/\runs rows most (jb rows g)=runs rows (most-n) c/\MS K C_Machine H' ⟨x,dx,gv,tl,bx⟩ c.st/\H' D=some (.lst (iV c.turns))/\c.turns.length=rows.length/\c.st.told.length<=n/\KB [] H H'/\σ=[some (.ref pv),some (.ref gv),some (.int (most:Nat)),some (.ref x),some (.ref D),some (.int (c.at_:Nat)),some (.int (n:Nat)),none],⟨most,0,jb rows g,K7 _,rfl,rfl,M2,oD,by simp[jb],K7 _,k02,rfl⟩,?_⟩
    rintro m σ H3 ⟨n,c,hn,rfl,hrun,M3,oD3,htl3,hto,k03,rfl⟩;have op3:=k03 _ _ op (by simp)
    have es3:sq H3 pv=some (false,pvs):=cz op3;have nDx:D≠x:=fun e=>by rw[e,M1.om] at hD1;cases hD1
    have nDt:D≠tl:=fun e=>by rw[e,M1.ot] at hD1;cases hD1
    have nDb:D≠bx:=fun e=>by rw[e,M1.ob] at hD1;cases hD1
    have htl0:H tl=none:=by
     cases z:H tl with
     |none=>rfl
     |some o=>rw[ae (af z hx),ae (af z hdx),z] at htl;cases htl
    have hbx0:H bx=none:=by
     cases z:H bx with
     |none=>rfl
     |some o=>rw[ae (af z hx),ae (af z hdx),z] at hbx;cases hbx
    have fin:(¬ c.at_<rows.length\/¬ n<most)->N [some (.ref pv),some (.ref gv),some (.int (most:Nat)),some (.ref x),some (.ref D),some (.int (c.at_:Nat)),some (.int (n:Nat)),none] H3:=by
     intro hstop;have er:runs rows (most-n) c=c:=by
      rcases hstop with h|h
      ·cases most-n with
       |zero=>rfl
       |succ k=>show (if c.at_<rows.length then _ else c)=c;rw[Kf h]
      ·rw[show most-n=0 by omega];rfl
     rw[hN];clear hN N;refine aI fun N hN=>?_;walk_at "rz";simp only[L2.Ap.kB,es3,hl];have ew:∀ hw:Str,hw=(if c.at_<rows.length then ("more":Str) else "halt")->N [some (.ref pv),some (.ref gv),some (.int (most:Nat)),some (.ref x),some (.ref D),some (.int (c.at_:Nat)),some (.int (n:Nat)),some (.str hw)] H3:=by
      intro hw ehw;rw[hN];clear hN N;walk_at "rz";refine⟨x,dx,_,rfl,M3.om,rfl,⟨x,dx,gv,tl,bx⟩,c.st,rfl,M3,fun p1 hp1=>?_⟩;have k4:KB [] H3 (upd H3 p1 (.tup (iV c.st.told))):=KB.new hp1;have eD:sq (upd H3 p1 (.tup (iV c.st.told))) D=some (true,iV c.turns):=bG (k4 _ _ oD3 (by simp))
      walk_at "rz";simp only[L2.Ap.kj,eD];intro p2 hp2;have k5:=k4.trans (KB.new (o:=.tup (iV c.turns)) hp2);refine⟨x,dx,_,rfl,k5 _ _ M3.om (by simp),rfl,⟨x,dx,gv,tl,bx⟩,c.st,rfl,⟨k5 _ _ M3.om (by simp),k5 _ _ M3.od (by simp),k5 _ _ M3.og (by simp),k5 _ _ M3.ot (by simp),k5 _ _ M3.ob (by simp),M3.l8,M3.hh⟩,fun p3 H6 hp3 o3 k6=>?_⟩
      refine⟨by decide,fun p4 hp4=>?_⟩
      have o1:H6 p1=some (.tup (iV c.st.told)):=k6 _ _ ((KB.new (ex:=[]) hp2) _ _ ab (by simp)) (by simp)
      have o2:H6 p2=some (.tup (iV c.turns)):=k6 _ _ ab (by simp)
      have k36:KB [] H H6:=(k03.trans k5).trans k6;have nB:∀ z,H z=none->¬ B z:=fun z hz hb=>by obtain⟨o,ho⟩:=hB z hb;rw[hz] at ho;cases ho
      have f1:H p1=none:=k03.free (by simp) hp1
      have f2:H p2=none:=(k03.trans k4).free (by simp) hp2
      have f3:H p3=none:=(k03.trans k5).free (by simp) hp3
      have f4:H p4=none:=k36.free (by simp) hp4
      rw[hrun,er] at hq;refine q (.ref p4) _ _ [] hq (fun b o e _=>(KB.new (ex:=[]) hp4) _ _ (k36 b o e (by simp)) (by simp)) ⟨?_,.nil⟩
      have up4:∀ z o,H6 z=some o->upd H6 p4 (.tup [.str hw,.ref p1,.ref p2,.ref p3]) z=some o:=fun z o e=>(KB.new (ex:=[]) hp4) _ _ e (by simp)
      unfold hJ;rw[<- ehw];exact .tup (nB _ f4) ab (.cons (.str _) (.cons (.tup (nB _ f1) (up4 _ _ o1) (dN _)) (.cons (.tup (nB _ f2) (up4 _ _ o2) (dN _)) (.cons (.tup (nB _ f3) (up4 _ _ o3) (dN _)) .nil))))
     by_cases h1:c.at_<rows.length
     ·rw[Kh (by omega)]
      exact ew _ (by rw[Kh h1])
     ·rw[Kf (by omega)]
      exact ew _ (by rw[Kf h1])
    walk_at "rz";simp only[L2.Ap.kB,es3,hl];have eD:sq H3 D=some (true,iV c.turns):=bG oD3;by_cases h1:c.at_<rows.length
    ·rw[Kh (by omega)]
     by_cases h2:n<most
     ·rw[Kh (by omega)]
      have hat:c.at_<c.turns.length:=by omega
      have e1:c_ (iV c.turns) ((c.at_:Nat):Int)=some (V.int c.turns[c.at_]):=dA (by unfold iV;rw[K2,Kd hat];rfl)
      refine⟨fun σ' H'=>∃ m',m'<most-n/\∃(n:Nat) (c:RS),n<=most/\m'=most-n/\runs rows most (jb rows g)=runs rows (most-n) c/\MS K C_Machine H' ⟨x,dx,gv,tl,bx⟩ c.st/\H' D=some (.lst (iV c.turns))/\c.turns.length=rows.length/\c.st.told.length<=n/\KB [] H H'/\σ'=[some (.ref pv),some (.ref gv),some (.int (most:Nat)),some (.ref x),some (.ref D),some (.int (c.at_:Nat)),some (.int (n:Nat)),none],fun σ' H' h=>h,?_⟩;rw[eD];simp only[e1,L2.Ap.BA,oD3];have ei:mx (iV c.turns).length ((c.at_:Nat):Int)=some c.at_:=by
       rw[Et (by omega) (by unfold iV;rw[Kc];omega)];simp
      have eset:(iV c.turns).set c.at_ (V.int (c.turns[c.at_]+1))=iV (c.turns.set c.at_ (c.turns[c.at_]+1)):=by unfold iV;rw[List.map_set]
      simp only[ei,eset];have nDd:D≠dx:=fun e=>by rw[e,M1.od] at hD1;cases hD1
      have nDg:D≠gv:=fun e=>by rw[e,M1.og] at hD1;cases hD1
      have nDp:D≠pv:=fun e=>by rw[e,op1] at hD1;cases hD1
      have HD0:H D=none:=k1.free (by simp) hD1
      obtain⟨H4,e4⟩:∃ H4,H4=upd H3 D (.lst (iV (c.turns.set c.at_ (c.turns[c.at_]+1)))):=⟨_,rfl⟩;rw[<- e4];have D4:H4 D=some (.lst (iV (c.turns.set c.at_ (c.turns[c.at_]+1)))):=by rw[e4];exact ab
      have sm4:∀ z o,z≠D->H3 z=some o->H4 z=some o:=fun z o nz e=>by rw[e4,ae nz];exact e
      have M4:MS K C_Machine H4 ⟨x,dx,gv,tl,bx⟩ c.st:=⟨sm4 _ _ nDx.symm M3.om,sm4 _ _ nDd.symm M3.od,sm4 _ _ nDg.symm M3.og,sm4 _ _ nDt.symm M3.ot,sm4 _ _ nDb.symm M3.ob,M3.l8,M3.hh⟩;have p4:=sm4 _ _ nDp.symm op3;have es4:sq H4 pv=some (false,pvs):=cz p4;clear e4;obtain⟨p,ep,orow⟩:=hrow c.at_ (ve rows c.at_) (by unfold ve;rw[Kd h1];rfl)
      have e5:c_ pvs ((c.at_:Nat):Int)=some (.ref p):=dA ep;have hrok:(ve rows c.at_).Ok 100000:=by
       unfold ve;rw[Kd h1];exact aU _ (KS h1)
      refine⟨x,dx,_,rfl,M4.om,rfl,?_⟩;rw[es4];simp only[e5,hl];have npD:p≠D:=fun e=>by rw[e,HD0] at orow;cases orow
      refine⟨⟨x,dx,gv,tl,bx⟩,c.st,p,ve rows c.at_,_,_,rfl,M4,sm4 _ _ npD (k03 _ _ orow (by simp)),hrok,by omega,fun H5 M5 k5=>?_⟩
      have nn:0<=place c.st (ve rows c.at_) ((c.at_:Int)+1) (rows.length:Int):=by
       unfold place;split
       ·omega
       ·split<;>omega
      have kD:H5 D=some (.lst (iV (c.turns.set c.at_ (c.turns[c.at_]+1)))):=k5 _ _ D4 (by unfold MF;simp[nDx,nDt,nDb])
      have tle:=se c.st (ve rows c.at_);refine⟨most-(n+1),by omega,n+1,d8 rows c,by omega,rfl,?_,M5,?_,?_,?_,?_,?_⟩
      ·rw[hrun,show most-n=(most-(n+1))+1 by omega]
       show (if c.at_<rows.length then runs rows (most-(n+1)) (d8 rows c) else c)=_
       rw[Kh h1]
      ·rw[kD];unfold d8;rw[Kd hat];rfl
      ·unfold d8;rw[KO];exact htl3
      ·show (carry c.st (ve rows c.at_)).2.told.length<=n+1
       omega
      ·intro b o e _;have nb:b≠D:=af e HD0;exact k5 _ _ (sm4 _ _ nb (k03 b o e (by simp))) (by unfold MF;simp[af e hx,af e htl0,af e hbx0])
      ·unfold d8;rw[Int.toNat_of_nonneg nn];rfl
     ·rw[Kf (by omega)]
      exact fin (.inr h2)
    ·rw[Kf (by omega)]
     exact fin (.inl h1)
noncomputable def BW:gj:=fun args Q=>∃(ts:List L2.T) (g:Int),args=[.tup ts,.int g]/\ts≠[]/\ts.length<=100/\Q (.tr (.tup (ts.dropLast++[.int g]))) []
theorem wq(ts:List α):Y.bS ts none (some (-1))=ts.dropLast:=by
 unfold Y.bS;rw[HT.dy,Ll,MR,List.dropLast_eq_take];congr 1;unfold HT.bK;simp only[show ((-1:Int)<0)=True from eq_true (by decide),Md]
 lia
abbrev k14z(P w K mg base):=ai P w K mg base aN 1 "with_goal" ["row","goal"] (spT K [false,false] BW)
theorem zB(T:Txt K mg)(F:HasFn K mg "with_goal" eI ["row","goal"]):k14z P w K mg base:=by
 refine F.jP mK [false,false] rfl (by decide) ?_;left;obtain⟨ts,g,rfl,h0,h1,q⟩:=h;refine⟨_,(Y.az (Y.ret (Y.op (Y.bt K rfl) Y.bq (Y.dU K rfl (Y.vS 0) Y.nT (Y.oG (Y.neg Y.int))) (Y.tup (Y.cons (Y.vS 1) Y.nil))))),?_⟩;exists wq;exact⟨by decide,by rw[List.length_dropLast];exact Kj (show _<=101 by lia) (by decide),q⟩
inductive aV where
 |put (b n:Nat)|two (w:Fin 3) (a b:Nat)|one (w:Fin 2) (b:Nat)|jump (g:Int)|zero (b:Nat) (g:Int)|halt
inductive AI where
 |s (z:Str)|n (k:Int)
noncomputable def AI.t:AI->L2.T
 |.s z=>.str z
 |.n k=>.int k
noncomputable def aV.ps:aV->List AI
 |.put b n=>[.s "put",.s (bE b),.n (n:Nat)]
 |.two w a b=>[.s (w2 w),.s (bE a),.s (bE b)]
 |.one w b=>[.s (w1 w),.s (bE b)]
 |.jump g=>[.s "jump",.n g]
 |.zero b g=>[.s "zero",.s (bE b),.n g]
 |.halt=>[.s "halt"]
noncomputable def aV.t(r:aV):L2.T:=.tup (r.ps.map AI.t)
noncomputable def aV.Ok:aV->Prop
 |.put b _=>b<8
 |.two _ a b=>a<8/\b<8
 |.one _ b=>b<8
 |.jump _=>True
 |.zero b _=>b<8
 |.halt=>True
noncomputable def bW:Row->aV
 |.put b n=>.put b n
 |.two w a b=>.two w a b
 |.one w b=>.one w b
 |.jump g=>.jump (g:Nat)
 |.zero b g=>.zero b (g:Nat)
 |.halt=>.halt
theorem kJ(r:Row):r.t=(bW r).t:=by cases r<;>rfl
noncomputable def pA:aV->Option Int
 |.jump g=>some g
 |.zero _ g=>some g
 |_=>none
noncomputable def h8(r:aV):L2.T:=match pA r with
 |some g=>.int g
 |none=>.aE
noncomputable def qE:gj:=fun args Q=>∃ r:aV,args=[r.t]/\Q (.tr (h8 r)) []
abbrev k10z(P w K mg base):=ai P w K mg base aN 1 "goal_of" ["row"] (spT K [false] qE)
theorem vY(T:Txt K mg)(F:HasFn K mg "goal_of" fq ["row"]):k10z P w K mg base:=by
 refine F.jP kU [false] rfl (by decide) ?_;left;obtain⟨r,rfl,q⟩:=h;refine⟨_,(Y.az (Y.ret (Y.wB (Y.aZ (Y.gX K rfl) Y.lp Y.str (Y.J8 K rfl rfl T.kI (Y.ix (Y.dR K rfl) Y.bz (Y.vS 0) Y.int))) (Y.ix (Y.dR K rfl) Y.bz (Y.vS 0) (Y.neg Y.int)) Y.aE))),?_⟩;unfold aV.t;have yes:∀{ws:List L2.T} {P1 P2:Prop},ws.all aF=true->Y.gA (.str "goal") ws=true->P1->aF (.str "goal")=true/\ws.all aF=true/\(if Y.gA (.str "goal") ws=true then P1 else P2):=fun h1 h2 p=>⟨rfl,h1,by rw[Kh h2];exact p⟩
 have no:∀{ws:List L2.T} {P1 P2:Prop},ws.all aF=true->Y.gA (.str "goal") ws=false->P2->aF (.str "goal")=true/\ws.all aF=true/\(if Y.gA (.str "goal") ws=true then P1 else P2):=fun h1 h2 p=>⟨rfl,h1,by rw[Kf (by rw[h2];decide)];exact p⟩
 cases r with
 |jump g=>rfl';exact yes rfl (by decide +kernel) q
 |zero b g=>rfl';exact yes rfl (by decide +kernel) q
 |put b n=>rfl';exact no rfl (by decide +kernel) q
 |two u b c =>
  rfl';rcases AK u with rfl|rfl|rfl<;>exact no rfl (by decide +kernel) q
 |one u b =>
  rfl';rcases pz u with rfl|rfl<;>exact no rfl (by decide +kernel) q
 |halt=>rfl';exact no rfl (by decide +kernel) q
noncomputable def aV.to(g:Int):aV->aV
 |.jump _=>.jump g
 |.zero b _=>.zero b g
 |r=>r
noncomputable def mv(first by':Int)(r:aV):aV:=match pA r with
 |none=>r
 |some g=>if g<first then r else r.to (g+by')
noncomputable def JC:gj:=fun args Q=>∃(r:aV) (first by':Int),args=[r.t,.int first,.int by']/\Q (.tr (mv first by' r).t) []
abbrev k11z(P w K mg base):=ai P w K mg base aN 2 "goal_moved" ["row","first","by"] (spT K [false,false,false] JC)
theorem Gr(T:Txt K mg)(F:HasFn K mg "goal_moved" dF ["row","first","by"])(hgoal_of:k10z P w K mg base)(hwith_goal:k14z P w K mg base):k11z P w K mg base:=by
 refine F.jP gG [false,false,false] rfl (by decide) ?_;left;obtain⟨r,first,by',rfl,q⟩:=h
 refine⟨_,(Y.ah (Y.set (i:=3) gG.nd rfl (by right) (Y.fn K rfl hgoal_of (hr.mono (by decide)) rfl au (Y.cons (Y.vS 0) Y.nil)))
   (Y.az (Y.ret (Y.wB (Y.tw (Y.zY (Y.aZ ky Y.qS (Y.vS 3) Y.aE) (Y.mL (Y.aZ iI Y.gM (Y.vS 3) (Y.vS 1))))) (Y.vS 0) (Y.fn K rfl hwith_goal (hr.mono (by decide)) rfl au (Y.cons (Y.vS 0) (Y.cons (Y.op (Y.bt K rfl) Y.bq (Y.vS 3) (Y.vS 2)) Y.nil))))))),?_⟩
 refine cW fun N hN=>?_;rfl';refine⟨r,rfl,?_⟩;rfl';ac_rfl;unfold mv at q;unfold h8
 cases hg:pA r with
 |none =>
  rw[hg] at q;rfl';exact q
 |some g =>
  rw[hg] at q;dsimp only at q ⊢;by_cases c:g<first
  ·rw[Kh c] at q;exists Lj c;exact q
  ·rw[Kf c] at q;exists Kw c
   cases r with
   |jump g'=>cases hg;exact⟨_,g+by',rfl,by simp[aV.ps],(show 2<=100 by decide),q⟩
   |zero b g'=>cases hg;exact⟨_,g+by',rfl,by simp[aV.ps],(show 3<=100 by decide),q⟩
   |put b n=>cases hg
   |two u a b=>cases hg
   |one u b=>cases hg
   |halt=>cases hg
noncomputable def DU:gj:=fun args Q=>∃(rows:List aV) (first by':Int),args=[.tup (rows.map aV.t),.int first,.int by']/\rows.length<=1000/\Q (.tr (.tup ((rows.map (mv first by')).map aV.t))) []
abbrev k2z(P w K mg base):=ai P w K mg base aN 3 "goals_moved" ["rows","first","by"] (spT K [false,false,false] DU)
theorem DF(T:Txt K mg)(F:HasFn K mg "goals_moved" cm ["rows","first","by"])(hgoal_moved:k11z P w K mg base):k2z P w K mg base:=by
 refine F.jP kP [false,false,false] rfl (by decide) ?_;left;obtain⟨rows,first,by',rfl,hl,q⟩:=h
 refine⟨_,(Y.az (Y.ret (Y.ct (Y.gr K rfl) Y.iD rfl T.dC (by decide +kernel) (Y.cons (Y.jT (osc:=aa cm) (ON:=["rows","first","by"]) (own:=["row"]) (N:=["row","rows","first","by"]) ⟨rfl,by decide +kernel,rfl,by decide +kernel,by decide +kernel,by decide +kernel,by decide +kernel,by decide +kernel⟩ rfl rfl rfl rfl (Y.anyS K rfl (Y.vS 0)) (fun _ _ _ _=>(Z.bB (i:=0) (show List.Nodup (["row","rows","first","by"]:List Str) by decide +kernel) rfl (by right))) (fun _ _ _ _=>Y.nW) (fun _ _ _ _=>(Y.fn K rfl hgoal_moved (hr.mono (by decide)) rfl au (Y.cons (Y.vS 0) (Y.cons (Y.vS 2) (Y.cons (Y.vS 3) Y.nil)))))) Y.nil)))),?_⟩
 rfl';refine rC aV.t (fun r=>(mv first by' r).t) rows (by lia) (fun r hr' acc M hM=>?_) ?_
 ·rfl';refine⟨r,first,by',rfl,?_⟩
  rfl';exact hM
 rfl';rw[Lr] at q;exact q
noncomputable def bX(rows:List aV):L2.T:=.tup (rows.map aV.t)
theorem ib{B':ba}{v:V}{r:aV}(hk:∀ a vs,H a=some (.tup vs)->H' a=some (.tup vs)/\¬ B' a)(h:Rep K H B v r.t):Rep K H' B' v r.t:=by
 obtain⟨a,vs,rfl,n,ha,rr⟩:=Rep.tupI h;refine .tup (hk a vs ha).2 (hk a vs ha).1 ?_;clear h ha n;generalize r.ps=ps at rr ⊢
 induction ps generalizing vs with
 |nil=>rw[rr.dD];exact .nil
 |cons x ps ih =>
  obtain⟨v,ws,rfl,h,rr⟩:=rr.aO;refine .cons ?_ (ih ws rr)
  cases x with
  |s z=>rw[Rep.dm h];exact .str z
  |n k=>rw[Rep.bT h];exact .int k
theorem bw{B':ba}{v:V}{rows:List aV}(hk:∀ a vs,H a=some (.tup vs)->H' a=some (.tup vs)/\¬ B' a)(h:Rep K H B v (bX rows)):Rep K H' B' v (bX rows):=by
 obtain⟨a,vs,rfl,n,ha,rr⟩:=Rep.tupI h;refine .tup (hk a vs ha).2 (hk a vs ha).1 ?_;clear h ha n
 induction rows generalizing vs with
 |nil=>rw[rr.dD];exact .nil
 |cons x ps ih =>
  obtain⟨v,ws,rfl,h,rr⟩:=rr.aO;exact .cons (ib hk h) (ih ws rr)
noncomputable def Ge(rows:List aV)(place:Int)(r:aV):Prop:=0<=place/\place<=rows.length/\∀ g,pA r=some g->0<=g/\g<=(rows.length:Int)+1
noncomputable def pE(rows:List aV)(p:Nat)(r:aV):List aV:=(rows.map (mv (p:Nat) 1)).take p++[r]++(rows.map (mv (p:Nat) 1)).drop p
noncomputable def B8(K:Nv)(C:Addr):Sp:=fun vs H Q _=>∃(k dx b:Addr) (vr vrow:V) (rows:List aV) (place:Int) (r:aV),vs=[.ref k,.int place,vrow]/\H k=some (.ins C dx [("book",.ref b),("rows",vr)])/\Rep K H (fun _=>False) vr (bX rows)/\Rep K H (fun _=>False) vrow r.t/\rows.length<=100/\Ge rows place r /\
 ∀ H' vr',H' k=some (.ins C dx [("book",.ref b),("rows",vr')])->Rep K H' (fun _=>False) vr' (bX (pE rows place.toNat r))->(∀ c o,H c=some o->c≠k->H' c=some o)->Q .aE H'
noncomputable def v8(k C b:Addr)(rows:List aV)(place:Int)(r:aV)(m g mo:Sl):Mu:=[.tr (.ins k C ["book","rows"] [.adr b,bX rows]),.tr (.int place),.tr r.t,m,g,mo]
theorem jM(x y:L2.T):Y.jt "rows" ["book","rows"] [x,y]=some y:=by
 have h:∀{f a b:Str} {x y:L2.T},a≠f->b=f->Y.jt f [a,b] [x,y]=some y:=fun n e=>by subst e;exact (Kf n).trans (Kh rfl)
 exact h (by decide +kernel) rfl
theorem jd(xs:List α)(n:Nat):Y.bS xs none (some (n:Int))=xs.take n:=by
 unfold Y.bS;rw[HT.dy,HT.gx,Ll,MR];exact (List.take_eq_take_min ..).symm
theorem lY(xs:List α)(n:Nat):Y.bS xs (some (n:Int)) none=xs.drop n:=by
 unfold Y.bS;rw[HT.dy,HT.gx];rcases KU n xs.length with z|z
 ·rw[Mw (by lia),K8 (by rw[Li];exact Kk _)]
 ·rw[Nat.min_eq_right z,Nat.sub_self,List.take_zero,List.drop_eq_nil_of_le z]
theorem C7(T:Txt K mg)(cM:fu K C)(bu:aK K C "rows")(hgoal_of:k10z P w K mg base)(hgoals_moved:k2z P w K mg base)(F:e7 K "put_in" "Kept.put_in" bo f fd):a_ P w K mg base aN 4 f fd ["self","place","row"] (B8 K C):=by
 refine F.ok cL (fun vs H Q E h=>?_) (fun cdv A outer s H vs Q E hr h=>?_)
 ·obtain⟨k,dx,b,vr,vrow,rows,place,r,rfl,_⟩:=h;rfl
 ·obtain⟨k,dx,b,vr,vrow,rows,place,r,rfl,hk,rr,rv,hl,aU,q⟩:=h;have hu:=aS hr;have ag:fA K H (fun _=>False) [false,false,false] [.ref k,.int place,vrow] [.ins k C ["book","rows"] [.adr b,bX rows],.int place,r.t]:=⟨.ins (vs:=[.ref b,vr]) (fun z=>z) hk rfl (.cons (.adr b) (.cons rr .nil)),.int _,rv,trivial⟩;have l0:=iw (N:=["self","place","row","many","goal","moved"]) ag (fun b z=>z.elim) (by show List.Nodup [];exact KW) (by decide)
  have key:∃ t,QB (cF aN P w K mg base ["self","place","row","many","goal","moved"] "Kept.put_in" (aa bo) f cdv A outer s H E).ig (aq bo) t/\t {nx:=fun _ H'=>Q .aE H',rt:=Q} (start ["self","place","row","many","goal","moved"] [.ref k,.int place,vrow]) H:=by
   refine⟨_,(Z.ah (YS.mV (Y.set (i:=3) cL.nd rfl (by right) (Y.cb (Y.cE K rfl) Y.eQ rfl T.dq (by decide +kernel) (Y.cons (Y.vG K rfl cM bu (Y.vS 0)) Y.nil))))
   (Z.ah (YS.mV (Y.dJ (Y.tw (Y.zY (Y.aZ iI Y.gM (Y.vS 1) Y.int) (Y.mL (Y.aZ rK Y.gM (Y.vS 1) (Y.vS 3))))) (Y.az Y.iF) Y.bL))
   (Z.ah (YS.mV (Y.set (i:=4) cL.nd rfl (by right) (Y.fn K rfl hgoal_of (hr.mono (by decide)) rfl au (Y.cons (Y.vS 2) Y.nil))))
   (Z.ah (YS.mV (Y.dJ (Y.tw (Y.wC (Y.aZ zL Y.AO (Y.vS 4) Y.aE) (Y.n_ (Y.tw (Y.zY (Y.aZ iI Y.gM (Y.vS 4) Y.int) (Y.mL (Y.aZ rK Y.gM (Y.vS 4) (Y.op (Y.bt K rfl) Y.bq (Y.vS 3) Y.int)))))))) (Y.az Y.iF) Y.bL))
   (Z.ah (YS.mV (Y.set (i:=5) cL.nd rfl (by right) (Y.fn K rfl hgoals_moved (hr.mono (by decide)) rfl au (Y.cons (Y.vG K rfl cM bu (Y.vS 0)) (Y.cons (Y.vS 1) (Y.cons Y.int Y.nil))))))
   (Z.az (Z.lx K rfl (Z.v 0) (YE.mV (Y.op (Y.bt K rfl) Y.bq (Y.op (Y.bt K rfl) Y.bq (Y.dU K rfl (Y.vS 5) Y.nT (Y.oG (Y.vS 1))) (Y.tup (Y.cons (Y.vS 2) Y.nil))) (Y.dU K rfl (Y.vS 5) (Y.oG (Y.vS 1)) Y.nT)))))))))),?_⟩
   obtain⟨F0,eF⟩:∃ F0,F0=qy K H [false,false,false] [.ref k,.int place,vrow] (fun _=>False) (fun b z=>z.elim):=⟨_,rfl⟩;rw[<- eF] at l0;have hK:F0.K=K:=by rw[eF];rfl
   have old:∀{ad:Nat->Addr} {B:ba} {σ:L2.St} {H':Hp} {μ:Mu},Rl F0 ad B σ H' μ->∀ c o,H c=some o->H' c=some o:=fun l c o e=>l.old c o (by rw[eF];exact e) (fun i zi=>by rw[eF] at zi;rcases i with _|_|_|i<;>cases zi)
   have hrl:(rows.map aV.t).length=rows.length:=Kc ..;obtain⟨ok1,ok2,ok3⟩:=aU;refine aI fun N hN=>?_;refine kW hK l0 (fun μ=>μ=v8 k C b rows place r (.tr (.int (rows.length:Nat))) .un .un) ?_ fun ad1 B1 σ1 H1 μ1 l1 f1 e1=>?_
   ·show Y.lu _ _ _ [.tr (.ins k C ["book","rows"] [.adr b,bX rows]),.tr (.int place),.tr r.t,.un,.un,.un];exists jM;unfold bX;exists hrl;rfl
   subst e1;show N _ _;rw[hN];clear hN N;refine aI fun N hN=>?_;refine kW hK l1 (fun μ=>μ=v8 k C b rows place r (.tr (.int (rows.length:Nat))) .un .un) ?_ fun ad2 B2 σ2 H2 μ2 l2 f2 e2=>?_
   ·unfold v8;exists Kw (show ¬ place<0 by lia),Kw (show ¬ ((rows.length:Nat):Int)<place by lia)<;>rfl
   subst e2;show N _ _;rw[hN];clear hN N;refine aI fun N hN=>?_;refine kW hK l2 (fun μ=>μ=v8 k C b rows place r (.tr (.int (rows.length:Nat))) (.tr (h8 r)) .un) (by unfold v8;rfl';refine⟨r,rfl,?_⟩;rfl'<;>rfl) fun ad3 B3 σ3 H3 μ3 l3 f3 e3=>?_
   subst e3;show N _ _;rw[hN];clear hN N;refine aI fun N hN=>?_;obtain⟨p,ep⟩:∃ p:Nat,place=(p:Int):=⟨place.toNat,by lia⟩
   refine kW hK l3 (fun μ=>μ=v8 k C b rows place r (.tr (.int (rows.length:Nat))) (.tr (h8 r)) .un) ?_ fun ad4 B4 σ4 H4 μ4 l4 f4 e4=>?_
   ·unfold v8 h8
    cases hgo:pA r with
    |none=>rfl'<;>rfl
    |some g =>
     have:=ok3 g hgo;dsimp only;exists decide_eq_false (show ¬ g<0 by lia),decide_eq_false (show ¬ ((rows.length:Nat):Int)+1<g by lia)<;>rfl
   subst e4;show N _ _;rw[hN];clear hN N;refine aI fun N hN=>?_;refine kW hK l4 (fun μ=>μ=v8 k C b rows place r (.tr (.int (rows.length:Nat))) (.tr (h8 r)) (.tr (.tup ((rows.map (mv place 1)).map aV.t)))) (by unfold v8;exists jM;refine⟨rows,place,1,rfl,by lia,?_⟩;rfl'<;>rfl) fun ad5 B5 σ5 H5 μ5 l5 f5 e5=>?_
   subst e5;show N _ _;rw[hN];clear hN N;refine⟨F0,ad5,B5,_,fun r' μ=>r'=.tr (bX (pE rows p r))/\μ=v8 k C b rows place r (.tr (.int (rows.length:Nat))) (.tr (h8 r)) (.tr (.tup ((rows.map (mv place 1)).map aV.t))),by exact hK,l5,?_,?_⟩
   ·unfold v8;rfl';have hpl:p<=rows.length:=by lia
    rw[ep,jd,lY];refine⟨by decide,?_,?_,?_⟩
    ·exact Kj (show _<=1000 by rw[KD,Kc,Kc];lia) (by decide)
    ·exact Kj (show _<=1000 by rw[Kv,KD,Li,Kc,Kc,L0];lia) (by decide)
    ·unfold bX pE;rw[Kx,Kx,Ml,Mm];rfl
   rintro v H6 _ _ w6 f6 k6 ⟨rfl,rfl⟩;have l6:=w6.1;have rv6:=w6.2;obtain⟨v0,e0,r0⟩:=l6.slot 0 _ rfl
   cases r0 with
   |ins n0 h0 ll rr0 =>
   have hk6:=old l6 k _ hk;refine⟨_,e0,k,C,dx,_,rfl,hk6,cM,bu,(show 2<1000 by decide),?_⟩
   have tu:∀ a' vs',H6 a'=some (.tup vs')->upd H6 k (.ins C dx (cR "rows" v [("book",.ref b),("rows",vr)])) a'=some (.tup vs')/\¬ (fun _:Addr=>False) a':=fun a' vs' e=>⟨by rw[ae (fun z=>by rw[z,hk6] at e;cases e)];exact e,id⟩
   refine q _ v (by rw[ab];rfl) ?_ (fun c' o' e' n'=>by rw[ae n'];exact old l6 c' o' e')
   have h:Rep F0.K H6 B5 v (bX (pE rows p r)):=rv6;rw[hK] at h;rw[ep,Lc];exact bw tu h
  obtain⟨t,hb,ht⟩:=key;exact⟨t,hb.h,ht⟩
noncomputable def j5(rows:List aV)(p:Nat):List aV:=(rows.take p++rows.drop (p+1)).map (mv ((p:Int)+1) (-1))
noncomputable def ya(K:Nv)(C:Addr):Sp:=fun vs H Q _=>∃(k dx b:Addr) (vr:V) (rows:List aV) (place:Int),vs=[.ref k,.int place]/\H k=some (.ins C dx [("book",.ref b),("rows",vr)])/\Rep K H (fun _=>False) vr (bX rows)/\rows.length<=100/\0<=place/\place<rows.length /\
 ∀ H' vr',H' k=some (.ins C dx [("book",.ref b),("rows",vr')])->Rep K H' (fun _=>False) vr' (bX (j5 rows place.toNat))->(∀ c o,H c=some o->c≠k->H' c=some o)->Q .aE H'
noncomputable def Hu(k C b:Addr)(rows:List aV)(place:Int)(m:Sl):Mu:=[.tr (.ins k C ["book","rows"] [.adr b,bX rows]),.tr (.int place),m]
theorem yJ(T:Txt K mg)(cM:fu K C)(bu:aK K C "rows")(hgoals_moved:k2z P w K mg base)(F:e7 K "take_out" "Kept.take_out" aP f fd):a_ P w K mg base aN 4 f fd ["self","place"] (ya K C):=by
 refine F.ok e_ (fun vs H Q E h=>?_) (fun cdv A outer s H vs Q E hr h=>?_)
 ·obtain⟨k,dx,b,vr,rows,place,rfl,_⟩:=h;rfl
 ·obtain⟨k,dx,b,vr,rows,place,rfl,hk,rr,hl,hp0,hp1,q⟩:=h;have hu:=aS hr;have ag:fA K H (fun _=>False) [false,false] [.ref k,.int place] [.ins k C ["book","rows"] [.adr b,bX rows],.int place]:=⟨.ins (vs:=[.ref b,vr]) (fun z=>z) hk rfl (.cons (.adr b) (.cons rr .nil)),.int _,trivial⟩;have l0:=iw (N:=["self","place","many"]) ag (fun b z=>z.elim) (by show List.Nodup [];exact KW) (by decide)
  have key:∃ t,QB (cF aN P w K mg base ["self","place","many"] "Kept.take_out" (aa aP) f cdv A outer s H E).ig (aq aP) t/\t {nx:=fun _ H'=>Q .aE H',rt:=Q} (start ["self","place","many"] [.ref k,.int place]) H:=by
   refine⟨_,(Z.ah (YS.mV (Y.set (i:=2) e_.nd rfl (by right) (Y.cb (Y.cE K rfl) Y.eQ rfl T.dq (by decide +kernel) (Y.cons (Y.vG K rfl cM bu (Y.vS 0)) Y.nil))))
   (Z.ah (YS.mV (Y.dJ (Y.tw (Y.zY (Y.aZ iI Y.gM (Y.vS 1) Y.int) (Y.mL (Y.aZ wQ Y.gM (Y.vS 1) (Y.vS 2))))) (Y.az Y.iF) Y.bL))
   (Z.az (Z.lx K rfl (Z.v 0) (YE.mV (Y.fn K rfl hgoals_moved (hr.mono (by decide)) rfl au (Y.cons (Y.op (Y.bt K rfl) Y.bq (Y.dU K rfl (Y.vG K rfl cM bu (Y.vS 0)) Y.nT (Y.oG (Y.vS 1))) (Y.dU K rfl (Y.vG K rfl cM bu (Y.vS 0)) (Y.oG (Y.op (Y.bt K rfl) Y.bq (Y.vS 1) Y.int)) Y.nT)) (Y.cons (Y.op (Y.bt K rfl) Y.bq (Y.vS 1) Y.int) (Y.cons (Y.neg Y.int) Y.nil))))))))),?_⟩
   obtain⟨F0,eF⟩:∃ F0,F0=qy K H [false,false] [.ref k,.int place] (fun _=>False) (fun b z=>z.elim):=⟨_,rfl⟩;rw[<- eF] at l0;have hK:F0.K=K:=by rw[eF];rfl
   have old:∀{ad:Nat->Addr} {B:ba} {σ:L2.St} {H':Hp} {μ:Mu},Rl F0 ad B σ H' μ->∀ c o,H c=some o->H' c=some o:=fun l c o e=>l.old c o (by rw[eF];exact e) (fun i zi=>by rw[eF] at zi;rcases i with _|_|i<;>cases zi)
   have hrl:(rows.map aV.t).length=rows.length:=Kc ..;refine aI fun N hN=>?_;refine kW hK l0 (fun μ=>μ=Hu k C b rows place (.tr (.int (rows.length:Nat)))) ?_ fun ad1 B1 σ1 H1 μ1 l1 f1 e1=>?_
   ·show Y.lu _ _ _ [.tr (.ins k C ["book","rows"] [.adr b,bX rows]),.tr (.int place),.un];exists jM;unfold bX;exists hrl;rfl
   subst e1;show N _ _;rw[hN];clear hN N;refine aI fun N hN=>?_;refine kW hK l1 (fun μ=>μ=Hu k C b rows place (.tr (.int (rows.length:Nat)))) ?_ fun ad2 B2 σ2 H2 μ2 l2 f2 e2=>?_
   ·unfold Hu;exists Kw (show ¬ place<0 by lia),Kw (show ¬ ((rows.length:Nat):Int)<=place by lia)<;>rfl
   subst e2;show N _ _;rw[hN];clear hN N;obtain⟨p,ep⟩:∃ p:Nat,place=(p:Int):=⟨place.toNat,by lia⟩
   refine⟨F0,ad2,B2,_,fun r' μ=>r'=.tr (bX (j5 rows p))/\μ=Hu k C b rows place (.tr (.int (rows.length:Nat))),by exact hK,l2,?_,?_⟩
   ·unfold Hu;exists jM;unfold bX;rfl';have hpl:p<rows.length:=by lia
    have h1:Y.bS (rows.map aV.t) none (some place)=(rows.take p).map aV.t:=by rw[ep,jd,Ml]
    have h2:Y.bS (rows.map aV.t) (some (place+1)) none=(rows.drop (p+1)).map aV.t:=by rw[ep,show ((p:Nat):Int)+1=((p+1:Nat):Int) from rfl,lY,Mm]
    rw[h1,h2];refine⟨Kj (show _<=1000 by rw[Kc,Kc,KD,Li];lia) (by decide),rows.take p++rows.drop (p+1),place+1,-1,by rw[Kx],by rw[Kv,KD,Li];lia,?_⟩
    unfold j5;rw[ep]
   rintro v H6 _ _ w6 f6 k6 ⟨rfl,rfl⟩;have l6:=w6.1;obtain⟨v0,e0,r0⟩:=l6.slot 0 _ rfl
   cases r0 with
   |ins n0 h0 ll rr0 =>
   have hk6:=old l6 k _ hk;refine⟨_,e0,k,C,dx,_,rfl,hk6,cM,bu,(show 2<1000 by decide),?_⟩
   have tu:∀ a' vs',H6 a'=some (.tup vs')->upd H6 k (.ins C dx (cR "rows" v [("book",.ref b),("rows",vr)])) a'=some (.tup vs')/\¬ (fun _:Addr=>False) a':=fun a' vs' e=>⟨by rw[ae (fun z=>by rw[z,hk6] at e;cases e)];exact e,id⟩
   refine q _ v (by rw[ab];rfl) ?_ (fun c' o' e' n'=>by rw[ae n'];exact old l6 c' o' e')
   have h:Rep F0.K H6 B2 v (bX (j5 rows p)):=w6.2;rw[hK] at h;rw[ep,Lc];exact bw tu h
  obtain⟨t,hb,ht⟩:=key;exact⟨t,hb.h,ht⟩
noncomputable def xi(K:Nv)(C:Addr):Sp:=fun vs H Q _=>∃(k dx b:Addr) (vr:V),vs=[.ref k]/\H k=some (.ins C dx [("book",.ref b),("rows",vr)])/\Q vr H
theorem AJ(T:Txt K mg)(cM:fu K C)(bu:aK K C "rows")(F:e7 K "program" "Kept.program" aW f fd):a_ P w K mg base aN 1 f fd ["self"] (xi K C):=by
 refine F.ok jA (fun vs H Q E h=>?_) (fun cdv A outer s H vs Q E hr h=>?_)
 ·obtain⟨k,dx,b,vr,rfl,_⟩:=h;rfl
 ·obtain⟨k,dx,b,vr,rfl,hk,q⟩:=h;have hu:=aS hr;have key:∃ t,QB (cF aN P w K mg base ["self"] "Kept.program" (aa aW) f cdv A outer s H E).ig (aq aW) t/\t {nx:=fun _ H'=>Q .aE H',rt:=Q} (start ["self"] [.ref k]) H:=by
   refine⟨_,(Z.az (Z.ret (Z.fld K rfl (Z.v 0)))),?_⟩;walk_at "rz";exact⟨k,C,dx,_,_,rfl,hk,cM,bu,rfl,q⟩
  obtain⟨t,hb,ht⟩:=key;exact⟨t,hb.h,ht⟩
noncomputable def ny(K:Nv)(C:Addr):Sp:=fun vs H Q _=>∃(x dx:Addr) (vb:V),vs=[.ref x,vb]/\H x=some (.ins C dx [])/\∀ p H',H p=none->H' p=some (.tup [])->H' x=some (.ins C dx [("book",vb),("rows",.ref p)])->(∀ c o,H c=some o->c≠x->H' c=some o)->Q .aE H'
theorem vR(T:Txt K mg)(cM:fu K C)(i4:aK K C "book")(bu:aK K C "rows")(F:e7 K "__init__" "Kept.__init__" aQ f fd):a_ P w K mg base aN 1 f fd ["self","book"] (ny K C):=by
 refine F.ok jk (fun vs H Q E h=>?_) (fun cdv A outer s H vs Q E hr h=>?_)
 ·obtain⟨x,dx,vb,rfl,_⟩:=h;rfl
 ·obtain⟨x,dx,vb,rfl,ox,q⟩:=h;have hu:=aS hr;have key:∃ t,QB (cF aN P w K mg base ["self","book"] "Kept.__init__" (aa aQ) f cdv A outer s H E).ig (aq aQ) t/\t {nx:=fun _ H'=>Q .aE H',rt:=Q} (start ["self","book"] [.ref x,vb]) H:=by
   refine⟨_,(Z.ah (Z.lx K rfl (Z.v 0) (Z.v 1))
   (Z.az (Z.lx K rfl (Z.v 0) (Z.tup Z.nil)))),?_⟩
   refine aI fun N hN=>?_;walk_at "rz";refine⟨x,C,dx,_,rfl,ox,cM,i4,by decide,?_⟩
   rw[hN];clear hN N;walk_at "rz";refine⟨by decide,fun p hp=>?_⟩
   have np:p≠x:=by rintro rfl;rw[ab] at hp;cases hp
   have hp0:H p=none:=by rw[ae np] at hp;exact hp
   refine⟨x,C,dx,cR "book" vb [],rfl,by rw[ae np.symm];exact ab,cM,bu,(show 1<1000 by decide),?_⟩
   refine q p _ hp0 (by rw[ae np];exact ab) ab (fun c o e n=>?_)
   have nc:c≠p:=fun z=>by rw[z,hp0] at e;cases e
   rw[ae n,ae nc,ae n];exact e
  obtain⟨t,hb,ht⟩:=key;exact⟨t,hb.h,ht⟩
theorem Dp(a b:List Nat):NumText.digitsVal (a++b)=NumText.digitsVal a*10^b.length+NumText.digitsVal b:=by
 generalize hn:b.length=n
 induction n generalizing b with
 |zero =>
  obtain rfl:=Mf.mp hn;rw[KN,Nat.pow_zero,Nat.mul_one];rfl
 |succ n ih =>
  obtain⟨b',c,rfl⟩:∃ b' c,b=b'++[c]:=⟨b.dropLast,b.getLast (fun z=>by rw[z] at hn;cases hn),(List.dropLast_concat_getLast _).symm⟩
  have hl:b'.length=n:=by rw[Kv,L0] at hn;lia
  rw[<- LS,Nh,Nh,ih b' hl,Nat.pow_succ,Nat.add_mul,<- Nat.mul_assoc];lia
noncomputable def vI:gj:=fun args Q=>∃ z:Str,args=[.str z]/\z.length<=100000/\iU z=true/\Q (.tr (.str z)) []
abbrev k5z(P w K mg base):=ai P w K mg base aN 2 "asked_figures" ["text"] (spT K [false] vI)
theorem Bf(T:Txt K mg)(F:HasFn K mg "asked_figures" cw ["text"])(his_number:k8z P w K mg base):k5z P w K mg base:=by
 refine F.jP jj [false] rfl (by decide) ?_;left;obtain⟨z,rfl,hz,hn,q⟩:=h;refine⟨_,(Y.ah (Y.dJ (Y.qO (Y.sZ K rfl (Y.fn K rfl his_number (hr.mono (by decide)) rfl au (Y.cons (Y.vS 0) Y.nil)))) (Y.az Y.iF) Y.bL)
   (Y.az (Y.ret (Y.vS 0)))),?_⟩
 refine cW fun N hN=>?_;rfl';refine⟨z,rfl,hz,?_⟩;rw[hn];rfl';ac_rfl;rfl';exact q
noncomputable def qB:gj:=fun args Q=>∃ n:Nat,args=[.str (ao n)]/\n<=100000/\Q (.tr (.int (n:Nat))) []
abbrev k7z(P w K mg base):=ai P w K mg base aN 3 "asked_place" ["text"] (spT K [false] qB)
theorem A5(T:Txt K mg)(F:HasFn K mg "asked_place" df ["text"])(hasked_figures:k5z P w K mg base):k7z P w K mg base:=by
 refine F.jP kH [false] rfl (by decide) ?_;left;obtain⟨n,rfl,hn,q⟩:=h;refine⟨_,(Y.az (Y.ret (Y.ct Y.i_ Y.nE rfl T.oV (by decide +kernel) (Y.cons (Y.dU K rfl (Y.fn K rfl hasked_figures (hr.mono (by decide)) rfl au (Y.cons (Y.vS 0) Y.nil)) Y.nT (Y.oG Y.int)) Y.nil)))),?_⟩
 have hl:(ao n).length<=9:=by
  rw[<- bY,eR,Kc];exact Kj (eP 100000 n hn) (by decide +kernel)
 have ec:Y.lA (ao n) none (some 9)=ao n:=by
  refine iP ?_;show cp ⟨(Y.bS (cp (ao n)) none (some ((9:Nat):Int))).toArray⟩=_;rw[B9,jd,K8 (by rw[bY];exact hl)]
 rfl';refine⟨ao n,rfl,by lia,i7 n,?_⟩
 exists ec;refine⟨Kj hl (by decide),n,?_,by lia,q⟩
 rw[sk (i7 n) (by lia),kA]
noncomputable def wJ:gj:=fun args Q=>∃ n:Nat,args=[.str (ao n)]/\n<10^30/\∀ m:Nat,m % 65536=n % 65536->Q (.tr (.int (m:Nat))) []
theorem zq(T:Txt K mg)(F:HasFn K mg "asked_number" cK ["text"])(hasked_figures:k5z P w K mg base):ai P w K mg base aN 3 "asked_number" ["text"] (spT K [false] wJ):=by
 refine F.jP jI [false] rfl (by decide) ?_;left;obtain⟨n,rfl,hn,q⟩:=h;refine⟨_,(Y.az (Y.ret (Y.ct Y.i_ Y.nE rfl T.oV (by decide +kernel) (Y.cons (Y.dU K rfl (Y.fn K rfl hasked_figures (hr.mono (by decide)) rfl au (Y.cons (Y.vS 0) Y.nil)) (Y.oG (Y.neg Y.int)) Y.nT) Y.nil)))),?_⟩
 have hl:(ao n).length<=31:=by
  rw[<- bY,eR,Kc];exact Kj (eP (10^30) n (by lia)) (by decide +kernel)
 rfl';refine⟨ao n,rfl,by lia,i7 n,?_⟩
 rfl';have e1:cp (Y.lA (ao n) (some (-16)) none)=(cp (ao n)).drop ((ao n).length-16):=by
  show cp ⟨(Y.bS (cp (ao n)) (some (-16)) none).toArray⟩=_;rw[B9];unfold Y.bS;rw[HT.dy,bY];have:HT.bK (ao n).length 0 (some (-16))=(ao n).length-16:=by
   show (if (-16:Int)<0 then ((-16:Int)+((ao n).length:Int)).toNat else min (-16:Int).toNat (ao n).length)=_
   rw[Kh (by decide)];lia
  rw[this,K8 (by rw[Li,bY];exact Kk _)]
 have e2:(Y.lA (ao n) (some (-16)) none).length=(ao n).length-((ao n).length-16):=by rw[<- bY,e1,Li,bY]
 have pos:0<(ao n).length:=by
  rw[<- bY,eR,Kc];exact MV
 refine⟨Kj hl (by decide),((NumText.digitsVal ((cp (ao n)).drop ((ao n).length-16)):Nat):Int),?_,by lia,q _ ?_⟩
 ·have:=PySem.intText_digits (x:=Y.lA (ao n) (some (-16)) none) (fun c hc=>?_) (fun z=>?_) (by lia)
  ·rw[this];congr 2;exact K1 NumText.digitsVal e1
  ·have hc':c∈(cp (ao n)).drop ((ao n).length-16):=by rw[<- e1];exact hc
   exact pW (Mx hc')
  ·have:=K1 List.length (show cp (Y.lA (ao n) (some (-16)) none)=[] from z);rw[bY,e2] at this;simp at this;lia
 ·have hv:NumText.digitsVal (cp (ao n))=n:=kA n;have ha:=Dp ((cp (ao n)).take ((ao n).length-16)) ((cp (ao n)).drop ((ao n).length-16));rw[List.take_append_drop,hv,Li,bY] at ha;rcases KU 16 (ao n).length with c|c
  ·rw[show (ao n).length-((ao n).length-16)=16 by lia] at ha
   generalize NumText.digitsVal ((cp (ao n)).drop ((ao n).length-16))=m at *;generalize NumText.digitsVal ((cp (ao n)).take ((ao n).length-16))=t at *;lia
  ·rw[show (ao n).length-16=0 by lia,Ll,hv]
theorem fL{md:List Bool}{tsp:gj}{vs:List V}{args:List L2.T}{t:L2.T}(ag:fA K H (fun _=>False) md vs args)(hb:mU md vs=[])(h:tsp args fun r _=>r=.tr t)(q:∀(v:V) (H':Hp),KB [] H H'->Rep K H' (fun _=>False) v t->Q v H'):spT K md tsp vs H Q E:=by
 refine⟨fun _=>False,args,fun r _=>r=.tr t,ag,fun _ z=>z.elim,by rw[hb];exact KW,h,?_⟩
 rintro v H' _ _ rfl kp ⟨rv,_⟩;exact q v H' (fun b o e _=>kp b o e (by rw[hb];simp)) rv
structure DS (K:Nv) (CD CK:Addr) (H:Hp) (dd k dx dxk b:Addr) (vr:V) (rows:List aV):Prop where
 d:H dd=some (.ins CD dx [("kept",.ref k)])
 kp:H k=some (.ins CK dxk [("book",.ref b),("rows",vr)])
 rp:Rep K H (fun _=>False) vr (bX rows)
theorem DS.ne{k dx dxk b:Addr}{vr:V}{rows:List aV}(D:DS K CD CK H dd k dx dxk b vr rows):dd≠k:=fun z=>by
 have:=D.d;rw[z,D.kp] at this;cases this
noncomputable def DX(K:Nv)(CD CK:Addr)(H:Hp)(dd k:Addr)(rows:List aV):Prop:=∃ dx dxk b vr,DS K CD CK H dd k dx dxk b vr rows
theorem DX.keep{k:Addr}{rows:List aV}(h:DX K CD CK H dd k rows)(kb:KB ex H H')(nx:∀ a∈ex,∃ xs,H a=some (.lst xs)):DX K CD CK H' dd k rows:=by
 obtain⟨dx,dxk,b,vr,h⟩:=h;have out:∀{a:Addr} {o:HO},H a=some o->(∀ xs,o≠.lst xs)->a∉ex:=fun e n z=>by
  obtain⟨xs,e'⟩:=nx _ z;rw[e'] at e;cases e;exact n _ rfl
 exact⟨dx,dxk,b,vr,kb _ _ h.d (out h.d fun _ z=>nomatch z),kb _ _ h.kp (out h.kp fun _ z=>nomatch z),bw (fun a vs e=>⟨kb _ _ e (out e fun _ z=>nomatch z),id⟩) h.rp⟩
structure KM (P:Program) (w:World) (K:Nv) (mg:Str->Option Value) (base:Heap) (C:Addr):Prop where
 cM:fu K C
 i4:aK K C "book"
 bu:aK K C "rows"
 put:∃ f fd,Meth K C "put_in" f/\a_ P w K mg base aN 4 f fd ["self","place","row"] (B8 K C)/\Binds K fd ["self","place","row"] []
 take:∃ f fd,Meth K C "take_out" f/\a_ P w K mg base aN 4 f fd ["self","place"] (ya K C)/\Binds K fd ["self","place"] []
 prog:∃ f fd,Meth K C "program" f/\a_ P w K mg base aN 1 f fd ["self"] (xi K C)/\Binds K fd ["self"] []
theorem vq{m:Str}{x:V}(h1:m≠a):List.lookup m [(a,x)]=none:=by
 rw[KR,K3.mpr h1];rfl
theorem i5{m b:Str}{x y:V}(h1:m≠a)(h2:m≠b):List.lookup m [(a,x),(b,y)]=none:=by
 rw[KR,K3.mpr h1];exact vq h2
noncomputable def sV(xs:List Str):List V:=xs.map V.str
noncomputable def fm(K:Nv)(CD CK:Addr):Sp:=fun vs H Q _=>∃(dd k pa:Addr) (rows:List aV) (p:Nat) (r:Row),vs=[.ref dd,.ref pa]/\DX K CD CK H dd k rows/\H pa=some (.lst (sV (ao p::r.ps.map cX.x)))/\p<=rows.length/\rows.length<60/\r.Ok (rows.length+1)/\∀ H',DX K CD CK H' dd k (pE rows p (bW r))->KB [k] H H'->Q .aE H'
theorem vv(r:Row):1<=r.ps.length:=by cases r<;>simp[Row.ps]
theorem oy(z:Str)(zs:List Str):c_ (sV (z::zs)) 0=some (.str z):=Bh ..
theorem y8(z:Str)(zs:List Str):jG (sV (z::zs)) (some 1) none=sV zs:=by
 unfold jG;rw[HT.dy,show (some (1:Int))=some ((1:Nat):Int) from rfl,HT.gx];unfold sV;simp only[Kt,Ks,Kc];rw[Mw (by lia),List.drop_succ_cons,Ll,K8 (by rw[Kc];lia)]
theorem vi(T:Txt K mg)(M:KM P w K mg base CK)(cM_Desk:fu K CD)(na_kept:aK K CD "kept")(hasked_place:k7z P w K mg base)(hread_row:k3z P w K mg base)(F:e7 K "put_row" "Desk.put_row" aX f fd):a_ P w K mg base aN 6 f fd ["self","parts"] (fm K CD CK):=by
 obtain⟨w_MOST_ROWS,u_MOST_ROWS,hg_MOST_ROWS,hr_MOST_ROWS,rp_MOST_ROWS⟩:=T.oA;obtain⟨f_p,d_p,mm_put_in,FO_put_in,bm_put_in⟩:=M.put;obtain⟨f_q,d_q,mm_program,FO_program,bm_program⟩:=M.prog;have cM_Kept:=M.cM;obtain rfl:=Rep.bT (rp_MOST_ROWS (fun _=>none) fun _=>False);refine F.ok d7 (fun vs H Q E h=>?_) (fun cdv A outer s H vs Q E hr h=>?_)
 ·obtain⟨dd,k,pa,rows,p,r,rfl,_⟩:=h;rfl
 ·obtain⟨dd,k,pa,rows,p,r,rfl,dX,hpa,hp,h60,hro,q⟩:=h;have hu:=aS hr;have key:∃ t,QB (cF aN P w K mg base ["self","parts","place","row"] "Desk.put_row" (aa aX) f cdv A outer s H E).ig (aq aX) t/\t {nx:=fun _ H'=>Q .aE H',rt:=Q} (start ["self","parts","place","row"] [.ref dd,.ref pa]) H:=by
   refine⟨_,(Z.ah (Z.dJ (Z.aZ iI (Z.cb (Z.jW K rfl) rfl T.dq (by decide +kernel) (Z.cons (Z.v 1) Z.nil)) Z.int) (Z.az Z.wb) Z.bL)
   (Z.ah (Z.set (i:=2) d7.nd rfl (by right) (Z.fn hasked_place (hr.mono (by decide)) rfl au (Z.cons (Z.ix (Z.eS K rfl hu) (Z.v 1) Z.int) Z.nil)))
   (Z.ah (Z.set (i:=3) d7.nd rfl (by right) (Z.fn hread_row (hr.mono (by decide)) rfl au (Z.cons (Z.bm K rfl PySem.F.plainAttrs_str PySem.F.slot_str_join PySem.F.type_str_join (Z.yn K rfl) Z.str (Z.cons (Z.slice (Z.zU K rfl) (Z.v 1) (Z.oG Z.int) Z.nT) Z.nil)) (Z.cons (Z.glob rfl hg_MOST_ROWS hr_MOST_ROWS) Z.nil))))
   (Z.ah (Z.dJ (Z.aZ ky (Z.v 3) Z.aE) (Z.az Z.wb) Z.bL)
   (Z.ah (Z.dJ (Z.aZ wQ (Z.cb (Z.jW K rfl) rfl T.dq (by decide +kernel) (Z.cons (Z.mF K rfl (Z.fld K rfl (Z.v 0)) cM_Kept mm_program FO_program (hr.mono (by decide)) bm_program au) Z.nil)) (Z.glob rfl hg_MOST_ROWS hr_MOST_ROWS)) (Z.az Z.wb) Z.bL)
   (Z.az (Z.expr (Z.g_ K rfl (Z.fld K rfl (Z.v 0)) cM_Kept mm_put_in FO_put_in (hr.mono (by decide)) bm_put_in au (Z.cons (Z.v 2) (Z.cons (Z.v 3) Z.nil)))))))))),?_⟩
   refine aI fun N hN=>?_;walk_at "rz";simp only[bG hpa];have hps:=vv r;rw[Kf (show ¬ ((sV (ao p::r.ps.map cX.x)).length:Int)<2 by unfold sV;rw[Kc,Ks,Kc];lia)]
   rw[hN];clear hN N;refine aI fun N hN=>?_;walk_at "rz";simp only[bG hpa,oy];refine fL (args:=[.str (ao p)]) (t:=.int (p:Nat)) ⟨.str _,trivial⟩ rfl ⟨p,rfl,by lia,rfl⟩ fun v H1 k1 r1=>?_
   obtain rfl:=Rep.bT r1;rw[hN];clear hN N;have pa1:=k1 _ _ hpa (by simp)
   have d1:=dX.keep k1 (by simp)
   refine aI fun N hN=>?_;walk_at "rz";simp only[bG pa1];refine⟨rfl,fun l hl=>?_⟩;rw[y8];have l2:upd H1 l (.lst (sV (r.ps.map cX.x))) l=some (.lst (sV (r.ps.map cX.x))):=ab;have k2:KB [] H1 (upd H1 l (.lst (sV (r.ps.map cX.x)))):=KB.new hl;generalize upd H1 l (.lst (sV (r.ps.map cX.x)))=H2 at *;have rok:r.Ok 60:=hro.mono (by lia)
   have pl:=dG (rok.mono (show 60<=100000 by decide))
   refine⟨_,l,r.ps.map cX.x,rfl,rfl,bA.of l2,?_,?_⟩
   ·rw[show (Str.ofString " ").length=1 by decide +kernel,Kc];lia
   refine fL (args:=[.str r.line,.int ((60:Nat):Int)]) (t:=r.t) ⟨.str _,.int _,trivial⟩ rfl ⟨r.line,60,rfl,?_,by decide,by rw[nG rok]⟩ fun v H3 k3 r3=>?_
   ·have:=lq (rok.mono (show 60<=100000 by decide));lia
   rw[hN];clear hN N;have d3:=d1.keep (k2.trans k3) (by simp)
   rw[kJ] at r3;obtain⟨ra,_,rfl,_⟩:=Rep.tupI r3;refine aI fun N hN=>?_;walk_at "rz";rw[Kf (show ¬ V.ref ra=V.aE from fun z=>nomatch z),hN];clear hN N;obtain⟨dx,dxk,b,vr,D⟩:=d3;refine aI fun N hN=>?_;walk_at "rz";refine⟨dd,CD,dx,_,_,rfl,D.d,cM_Desk,na_kept,rfl,k,dxk,_,rfl,D.kp,i5 (by decide +kernel) (by decide +kernel),k,dxk,b,vr,rfl,D.kp,?_⟩
   obtain⟨a0,vs0,rfl,_,o0,rr0⟩:=Rep.tupI D.rp;have hl0:vs0.length=rows.length:=by rw[rr0.length,Kc]
   simp only[L2.Ap.kB,cz o0,hl0,L2.Ap.qT];refine⟨_,rfl,?_⟩;rw[Kf (by simp;lia),hN];clear hN N
   walk_at "rz";refine⟨dd,CD,dx,_,_,rfl,D.d,cM_Desk,na_kept,rfl,k,dxk,_,rfl,D.kp,i5 (by decide +kernel) (by decide +kernel),?_⟩
   refine⟨k,dxk,b,_,_,rows,(p:Int),bW r,rfl,D.kp,D.rp,r3,by lia,⟨by lia,by lia,fun g e=>?_⟩,fun H4 vr' h4 r4 k4=>?_⟩
   ·cases r<;>cases e
    ·have:_<=rows.length+1:=hro;lia
    ·have:=hro.2;lia
   ·exact q H4 ⟨dx,dxk,b,vr',k4 _ _ D.d D.ne,h4,r4⟩ (((k1.trans (k2.trans k3)).all).trans fun c o e n=>k4 c o e (by simpa using n))
  obtain⟨t,hb,ht⟩:=key;exact⟨t,hb.h,ht⟩
noncomputable def dI(K:Nv)(CD CK:Addr):Sp:=fun vs H Q _=>∃(dd k pa:Addr) (rows:List aV) (p:Nat),vs=[.ref dd,.ref pa]/\DX K CD CK H dd k rows/\H pa=some (.lst (sV [ao p]))/\p<rows.length/\rows.length<=60/\∀ H',DX K CD CK H' dd k (j5 rows p)->KB [k] H H'->Q .aE H'
theorem pY(T:Txt K mg)(M:KM P w K mg base CK)(cM_Desk:fu K CD)(na_kept:aK K CD "kept")(hasked_place:k7z P w K mg base)(F:e7 K "take_row" "Desk.take_row" aR f fd):a_ P w K mg base aN 6 f fd ["self","parts"] (dI K CD CK):=by
 obtain⟨f_p,d_p,mm_take_out,FO_take_out,bm_take_out⟩:=M.take;have cM_Kept:=M.cM;refine F.ok jc (fun vs H Q E h=>?_) (fun cdv A outer s H vs Q E hr h=>?_)
 ·obtain⟨dd,k,pa,rows,p,rfl,_⟩:=h;rfl
 ·obtain⟨dd,k,pa,rows,p,rfl,dX,hpa,hp,h60,q⟩:=h;have hu:=aS hr;have key:∃ t,QB (cF aN P w K mg base ["self","parts"] "Desk.take_row" (aa aR) f cdv A outer s H E).ig (aq aR) t/\t {nx:=fun _ H'=>Q .aE H',rt:=Q} (start ["self","parts"] [.ref dd,.ref pa]) H:=by
   refine⟨_,(Z.ah (Z.dJ (Z.aZ yr (Z.cb (Z.jW K rfl) rfl T.dq (by decide +kernel) (Z.cons (Z.v 1) Z.nil)) Z.int) (Z.az Z.wb) Z.bL)
   (Z.az (Z.expr (Z.g_ K rfl (Z.fld K rfl (Z.v 0)) cM_Kept mm_take_out FO_take_out (hr.mono (by decide)) bm_take_out au (Z.cons (Z.fn hasked_place (hr.mono (by decide)) rfl au (Z.cons (Z.ix (Z.eS K rfl hu) (Z.v 1) Z.int) Z.nil)) Z.nil))))),?_⟩
   obtain⟨dx,dxk,b,vr,D⟩:=dX;refine aI fun N hN=>?_;walk_at "rz";simp only[bG hpa,L2.Ap.Gy];rw[show ((sV [ao p]).length:Int)=1 from rfl];simp only[decide_true,Bool.not_true,Mb,not_true_eq_false,MO];rw[hN];clear hN N;walk_at "rz";refine⟨dd,CD,dx,_,_,rfl,D.d,cM_Desk,na_kept,rfl,k,dxk,_,rfl,D.kp,i5 (by decide +kernel) (by decide +kernel),?_⟩
   simp only[bG hpa,oy];refine fL (args:=[.str (ao p)]) (t:=.int (p:Nat)) ⟨.str _,trivial⟩ rfl ⟨p,rfl,by lia,rfl⟩ fun v H1 k1 r1=>?_
   obtain rfl:=Rep.bT r1;refine⟨k,dxk,b,vr,rows,(p:Int),rfl,k1 _ _ D.kp (by simp),bw (fun a vs e=>⟨k1 _ _ e (by simp),id⟩) D.rp,by lia,by lia,by lia,fun H4 vr' h4 r4 k4=>?_⟩
   exact q H4 ⟨dx,dxk,b,vr',k4 _ _ (k1 _ _ D.d (by simp)) D.ne,h4,r4⟩ (k1.all.trans fun c o e n=>k4 c o e (by simpa using n))
  obtain⟨t,hb,ht⟩:=key;exact⟨t,hb.h,ht⟩
noncomputable def DQ(g g':List Int):Prop:=∀ i:Nat,(g[i]?).map (· % 65536)=(g'[i]?).map (· % 65536)
structure Rm (s s':jB):Prop where
 hd:s'.heard=s.heard
 tl:s'.told=s.told
 bs:s'.bs=s.bs
 cg:DQ s.given s'.given
theorem Rm.hear{s s':jB}(h:Rm s s'):(cC s').1 % 65536=(cC s).1 % 65536/\Rm (cC s).2 (cC s').2:=by
 have c:=h.cg s.heard;unfold cC;rw[h.hd]
 cases e:s.given[s.heard]? with
 |none =>
  rw[e] at c
  cases e':s'.given[s.heard]? with
  |none=>exact⟨rfl,h⟩
  |some y=>rw[e'] at c;cases c
 |some x =>
  rw[e] at c
  cases e':s'.given[s.heard]? with
  |none=>rw[e'] at c;cases c
  |some y =>
   rw[e'] at c;exact⟨(Option.some.inj c).symm,⟨rfl,h.tl,h.bs,h.cg⟩⟩
theorem Rm.carry{s s':jB}(h:Rm s s')(r:Row):(carry s' r).1=(carry s r).1/\Rm (carry s r).2 (carry s' r).2:=by
 cases r with
 |put b n=>exact⟨rfl,⟨h.hd,h.tl,by show s'.bs.set _ _=s.bs.set _ _;rw[h.bs];rfl,h.cg⟩⟩
 |two u a b=>exact⟨rfl,⟨h.hd,h.tl,by show s'.bs.set _ _=s.bs.set _ _;unfold bI;rw[h.bs],h.cg⟩⟩
 |one u b =>
  rcases pz u with rfl|rfl
  ·exact⟨rfl,⟨h.hd,by show s'.told++[_]=s.told++[_];rw[h.tl,h.bs],h.bs,h.cg⟩⟩
  ·obtain⟨h1,h2⟩:=h.hear;exact⟨rfl,⟨h2.hd,h2.tl,by show (cC s').2.bs.set _ ((cC s').1 % 65536)=(cC s).2.bs.set _ ((cC s).1 % 65536);rw[h1,h2.bs],h2.cg⟩⟩
 |jump g=>exact⟨rfl,h⟩
 |zero b g=>exact⟨by show decide (mN s'.bs b=0)=decide (mN s.bs b=0);rw[h.bs],h⟩
 |halt=>exact⟨rfl,h⟩
theorem Rm.runs{rows:List Row}:∀(n:Nat) {c c':RS},Rm c.st c'.st->c'.turns=c.turns->c'.at_=c.at_->hJ rows (G.runs rows n c')=hJ rows (G.runs rows n c):=by
 intro n
 induction n with
 |zero =>
  intro c c' h ht ha;show hJ rows c'=hJ rows c;unfold hJ;rw[ha,ht,h.tl,h.bs]
 |succ n ih =>
  intro c c' h ht ha;show hJ rows (if c'.at_<rows.length then _ else c')=hJ rows (if c.at_<rows.length then _ else c)
  rw[ha];split
  ·obtain⟨h1,h2⟩:=h.carry (ve rows c.at_);refine ih (c:=d8 rows c) (c':=d8 rows c') ?_ ?_ ?_
   ·unfold d8;rw[ha];exact h2
   ·unfold d8;rw[ha,ht]
   ·unfold d8 place;rw[ha];split
    ·rfl
    ·rw[h1]
  ·unfold hJ;rw[ha,ht,h.tl,h.bs]
theorem yk{rows:List Row}{g g':List Int}(h:DQ g g'):hJ rows (G.runs rows n (jb rows g'))=hJ rows (G.runs rows n (jb rows g)):=
 Rm.runs n (c:=jb rows g) (c':=jb rows g') ⟨rfl,rfl,rfl,h⟩ rfl rfl
noncomputable def Sm(s:jB):Prop:=(∀ x∈s.bs,0<=x/\x<65536)/\∀ x∈s.told,0<=x/\x<65536
theorem Sm.at'{s:jB}(h:Sm s)(b:Nat):0<=mN s.bs b/\mN s.bs b<65536:=by
 unfold mN
 cases e:s.bs[b]? with
 |none=>exact⟨by decide,by decide⟩
 |some x=>exact h.1 x (KH e)
theorem Sm.carry{s:jB}{r:Row}(h:Sm s)(ok:r.Ok 100000):Sm (carry s r).2:=by
 have set:∀{s:jB} (b:Nat) (x:Int),Sm s->0<=x->x<65536->Sm {s with bs:=s.bs.set b x}:=fun b x h h0 h1=>⟨fun y hy=>by
  rcases ML hy with hy|rfl
  ·exact h.1 y hy
  ·exact⟨h0,h1⟩,h.2⟩
 have md:∀ x:Int,0<=x % 65536/\x % 65536<65536:=fun x=>⟨Lq _ (by decide),La _ (by decide)⟩
 cases r with
 |put b n=>exact set b _ h (by show (0:Int)<=(n:Nat);lia) (by have:=ok.2;show ((n:Nat):Int)<65536;lia)
 |two u a b =>
  have:0<=(bI s (.two u a b)).1/\(bI s (.two u a b)).1<65536:=by
   rcases AK u with rfl|rfl|rfl<;>exact md _
  exact set a _ h this.1 this.2
 |one u b =>
  rcases pz u with rfl|rfl
  ·refine⟨h.1,fun x hx=>?_⟩;rcases Ln.mp hx with hx|hx
   ·exact h.2 x hx
   ·rw[K9.mp hx];exact h.at' b
  ·have hh:Sm (cC s).2:=by
    unfold cC
    split<;>exact h
   exact set b _ hh (md _).1 (md _).2
 |jump g=>exact h
 |zero b g=>exact h
 |halt=>exact h
theorem Sm.runs{rows:List Row}(ok:∀ r∈rows,r.Ok 100000):∀(n:Nat) {c:RS},Sm c.st->Sm (G.runs rows n c).st:=by
 intro n
 induction n with
 |zero=>intro c h;exact h
 |succ n ih =>
  intro c h;show Sm (if c.at_<rows.length then G.runs rows n (d8 rows c) else c).st
  split
  ·rename_i hl;refine ih (c:=d8 rows c) (h.carry ?_);unfold ve;rw[Kd hl];exact ok _ (KS hl)
  ·exact h
theorem xB{rows:List Row}(ok:∀ r∈rows,r.Ok 100000)(n:Nat)(g:List Int):∀ x∈(G.runs rows n (jb rows g)).st.told,0<=x/\x<65536:=
 (Sm.runs ok n (c:=jb rows g) ⟨by show ∀ x∈[0,0,0,0,0,0,0,0],_;decide,fun x hx=>nomatch hx⟩).2
theorem iO{rows:List Row}:∀(n:Nat) (c:RS),(G.runs rows n c).st.told.length<=c.st.told.length+n:=by
 intro n
 induction n with
 |zero=>intro c;exact Kk _
 |succ n ih =>
  intro c;show (if c.at_<rows.length then G.runs rows n (d8 rows c) else c).st.told.length<=_
  split
  ·have h1:=ih (d8 rows c);have h2:(d8 rows c).st.told.length<=c.st.told.length+1:=se c.st (ve rows c.at_);lia
  ·lia
theorem Ac(hn:n<10^30)(q:∀(m:Nat) (H':Hp),m % 65536=n % 65536->KB [] H H'->Q (.int (m:Nat)) H'):spT K [false] wJ [.str (ao n)] H Q E:=by
 refine⟨fun _=>False,[.str (ao n)],fun r _=>∃ m:Nat,m % 65536=n % 65536/\r=.tr (.int (m:Nat)),⟨.str _,trivial⟩,fun _ z=>z.elim,KW,⟨n,rfl,hn,fun m hm=>⟨m,hm,rfl⟩⟩,?_⟩;rintro v H' _ _ ⟨m,hm,rfl⟩ kp ⟨rv,_⟩;obtain rfl:=Rep.bT rv;exact q m H' hm (fun b o e _=>kp b o e (by simp[mU]))
noncomputable def zN(gs:List Nat):List Int:=gs.map fun g:Nat=>(g:Int)
theorem gm(rs:List Row):bX (rs.map bW)=.tup (pL rs):=by
 unfold bX pL;rw[Lr];exact K1 L2.T.tup (Lv fun r _=>(kJ r).symm)
noncomputable def yi(K:Nv)(CD CK:Addr):Sp:=fun vs H Q _=>∃(dd k pa:Addr) (rs:List Row) (most:Nat) (gs:List Nat),vs=[.ref dd,.ref pa]/\DX K CD CK H dd k (rs.map bW)/\(∀ r∈rs,r.Ok 100000)/\rs.length<=60/\H pa=some (.lst (sV (ao most::gs.map ao)))/\most<=400/\gs.length<=100/\(∀ g∈gs,g<10^30)/\∀ v H',Rep K H' (fun _=>False) v (hJ rs (runs rs most (jb rs (zN gs))))->KB [] H H'->Q v H'
theorem Ag(T:Txt K mg)(M:KM P w K mg base CK)(cM_Desk:fu K CD)(na_kept:aK K CD "kept")(hread_number:k4z P w K mg base)(hasked_number:ai P w K mg base aN 3 "asked_number" ["text"] (spT K [false] wJ))(hrun_rows:k1z P w K mg base)(F:e7 K "asked_run" "Desk.asked_run" aH f fd):a_ P w K mg base aN 7 f fd ["self","parts"] (yi K CD CK):=by
 obtain⟨w_MOST_CARRIED_OUT,u_MOST_CARRIED_OUT,hg_MOST_CARRIED_OUT,hr_MOST_CARRIED_OUT,rp_MOST_CARRIED_OUT⟩:=T.gZ;obtain⟨f_q,d_q,mm_program,FO_program,bm_program⟩:=M.prog;have cM_Kept:=M.cM;obtain rfl:=Rep.bT (rp_MOST_CARRIED_OUT (fun _=>none) fun _=>False);refine F.ok eM (fun vs H Q E h=>?_) (fun cdv A outer s H vs Q E hr h=>?_)
 ·obtain⟨dd,k,pa,rs,most,gs,rfl,_⟩:=h;rfl
 ·obtain⟨dd,k,pa,rs,most,gs,rfl,dX,aU,h60,hpa,hm,hgl,hg,q⟩:=h;have hu:=aS hr;have key:∃ t,QB (cF aN P w K mg base ["self","parts","most"] "Desk.asked_run" (aa aH) f cdv A outer s H E).ig (aq aH) t/\t {nx:=fun _ H'=>Q .aE H',rt:=Q} (start ["self","parts","most"] [.ref dd,.ref pa]) H:=by
   refine⟨_,(Z.ah (Z.set (i:=2) eM.nd rfl (by right) (Z.wB (Z.aZ (Y.xk K rfl (K5 hu)) (Z.v 1) (Z.lst Z.nil)) Z.aE (Z.fn hread_number (hr.mono (by decide)) rfl au (Z.cons (Z.ix (Z.eS K rfl hu) (Z.v 1) Z.int) (Z.cons (Z.glob rfl hg_MOST_CARRIED_OUT hr_MOST_CARRIED_OUT) Z.nil)))))
   (Z.ah (Z.dJ (Z.aZ ky (Z.v 2) Z.aE) (Z.az Z.wb) Z.bL)
   (Z.az (Z.ret (Z.fn hrun_rows (hr.mono (by decide)) rfl au (Z.cons (Z.mF K rfl (Z.fld K rfl (Z.v 0)) cM_Kept mm_program FO_program (hr.mono (by decide)) bm_program au) (Z.cons (Z.ct (Z.ie K rfl) rfl T.dC (by decide +kernel) (Z.cons (Z.comp (osc:=aa aH) (ON:=["self","parts","most"]) (own:=["part"]) (N:=["part","self","parts","most"]) ⟨rfl,by decide +kernel,rfl,by decide +kernel,by decide +kernel,by decide +kernel,by decide +kernel,by decide +kernel⟩ rfl rfl rfl (Z.any K rfl (Z.slice (Z.zU K rfl) (Z.v 1) (Z.oG Z.int) Z.nT)) (fun _ _ _ _=>(Z.bB (i:=0) (show List.Nodup (["part","self","parts","most"]:List Str) by decide +kernel) rfl (by right))) (fun _ _ _ _=>Z.nW) (fun _ _ _ _=>(Z.fn hasked_number (hr.mono (by decide)) rfl au (Z.cons (Z.v 0) Z.nil)))) Z.nil)) (Z.cons (Z.v 2) Z.nil)))))))),?_⟩
   refine aI fun N hN=>?_;walk_at "rz";refine⟨K7 _,fun e0 he0=>?_⟩;have k1:KB [] H (upd H e0 (.lst [])):=KB.new he0;have z1:upd H e0 (.lst []) e0=some (.lst []):=ab;generalize upd H e0 (.lst [])=H1 at *;have pa1:=k1 _ _ hpa (by simp)
   refine⟨pa,e0,_,rfl,rfl,bA.of pa1,bA.of z1,_,rfl,?_⟩;rw[Kf (show ¬ (sV (ao most::gs.map ao)).isEmpty=true from Ki)];simp only[L2.Ap.fe,bG pa1,oy];have d1:=dX.keep k1 (by simp)
   refine fL (args:=[.str (ao most),.int ((400:Nat):Int)]) (t:=.int (most:Nat)) ⟨.str _,.int _,trivial⟩ rfl ⟨ao most,400,rfl,?_,by decide,by rw[iQ hm];rfl⟩ fun v H2 k2 r2=>?_
   ·have:=eB (show most<=100000 by lia);lia
   obtain rfl:=Rep.bT r2;rw[hN];clear hN N;have pa2:=k2 _ _ pa1 (by simp)
   obtain⟨dx,dxk,b,vr,D⟩:=d1.keep k2 (by simp)
   refine aI fun N hN=>?_;walk_at "rz";rw[Kf (show ¬ V.int ((most:Nat):Int)=V.aE from fun z=>nomatch z),hN];clear hN N;walk_at "rz";refine⟨dd,CD,dx,_,_,rfl,D.d,cM_Desk,na_kept,rfl,k,dxk,_,rfl,D.kp,i5 (by decide +kernel) (by decide +kernel),k,dxk,b,vr,rfl,D.kp,?_⟩
   simp only[bG pa2];intro l hl;rw[y8];have l3:upd H2 l (.lst (sV (gs.map ao))) l=some (.lst (sV (gs.map ao))):=ab;have k3:KB [] H2 (upd H2 l (.lst (sV (gs.map ao)))):=KB.new hl;generalize upd H2 l (.lst (sV (gs.map ao)))=H3 at *;have sl:(sV (gs.map ao)).length=gs.length:=by unfold sV;rw[Kc,Kc]
   refine qk (xs:=sV (gs.map ao)) (Kj (show _<=100 by rw[sl];exact hgl) (by decide)) (fun D' i ys H'=>H3 D'=none/\H' D'=some (.lst ys)/\KB [] H3 H'/\∃ ms:List Nat,ms.length=i/\ys=iV (zN ms)/\ms.map (· % 65536)=(gs.take i).map (· % 65536)) (fun D' hD=>⟨hD,ab,KB.new hD,[],rfl,rfl,rfl⟩) ?_ ?_ ?_ ?_
   ·rintro D' i ys H' ⟨h1,h2,h3,ms,h4,rfl,h5⟩;exact⟨h2,by unfold iV zN;rw[Kc,Kc];exact h4⟩
   ·rintro D' i ys H' ⟨h1,h2,h3,_⟩;exact bA.of (h3 _ _ l3 (by simp))
   ·rintro D' i ys H' x R ex ⟨h1,h2,h3,ms,h4,rfl,h5⟩ kk;unfold sV at ex;rw[K2,K2] at ex
    cases eg:gs[i]? with
    |none=>rw[eg] at ex;cases ex
    |some g =>
    rw[eg] at ex;cases ex;walk_at "rz";refine Ac (hg g (KH eg)) fun m H5 hm' k5=>kk _ _ (k5 _ _ h2 (by simp)) ⟨h1,ab,fun c o e _=>?_,ms++[m],by rw[Kv,h4];rfl,?_,?_⟩
    ·rw[ae (af e h1)];exact k5 _ _ (h3 _ _ e (by simp)) (by simp)
    ·unfold iV zN;rw[Kx,Kx];rfl
    ·rw[Kx,h5,Mi,eg,Kx];exact K1 (_++[·]) hm'
   rintro D' ys H4 ⟨h1,h2,h3,ms,h4,rfl,h5⟩;rw[sl] at h4 h5;rw[LY] at h5;simp only[L2.Ap.kj,bG h2];intro tp htp;have k5:KB [] H4 (upd H4 tp (.tup (iV (zN ms)))):=KB.new htp;have t5:upd H4 tp (.tup (iV (zN ms))) tp=some (.tup (iV (zN ms))):=ab;generalize upd H4 tp (.tup (iV (zN ms)))=H5 at *;have k25:KB [] H2 H5:=k3.trans (h3.trans k5);have rp:=D.rp;have cg:DQ (zN gs) (zN ms):=fun i=>by
    have e:=K1 (fun l=>(l[i]?).map fun x:Nat=>(x:Int)) h5;simp only[K2,Option.map_map] at e;unfold zN;simp only[K2,Option.map_map];have hh:((fun x:Int=>x % 65536) ∘ fun g:Nat=>(g:Int))=((fun x:Nat=>(x:Int)) ∘ fun x=>x % 65536):=by funext x;simp
    rw[hh];exact e.symm
   rw[gm] at rp;have rp5:Rep K H5 (fun _=>False) vr (.tup (pL rs)):=by
    rw[<- gm] at rp ⊢;exact bw (fun a vs e=>⟨k25 _ _ e (by simp),id⟩) rp
   refine fL (args:=[.tup (pL rs),.tup (nI (zN ms)),.int (most:Nat)]) (t:=hJ rs (runs rs most (jb rs (zN gs)))) ⟨rp5,.tup id t5 (dN _),.int _,trivial⟩ rfl ⟨rs,zN ms,most,rfl,by lia,aU,?_,by lia,?_⟩ fun v H6 k6 r6=>?_
   ·unfold zN;rw[Kc];lia
   ·rw[yk cg]
   ·exact q v H6 r6 (k1.trans (k2.trans (k25.trans k6)))
  obtain⟨t,hb,ht⟩:=key;exact⟨t,hb.h,ht⟩
noncomputable def tG(rs:List Row)(c:RS):List Str:=(if c.at_<rs.length then "more" else "halt")::c.st.told.map fun x=>Str.ofString (toString x)
noncomputable def xJ(K:Nv)(CD CK:Addr):Sp:=fun vs H Q _=>∃(dd k pa:Addr) (rs:List Row) (most:Nat) (gs:List Nat),vs=[.ref dd,.ref pa]/\DX K CD CK H dd k (rs.map bW)/\(∀ r∈rs,r.Ok 100000)/\rs.length<=60/\H pa=some (.lst (sV (ao most::gs.map ao)))/\most<=400/\gs.length<=100/\(∀ g∈gs,g<10^30)/\∀ l H',H l=none->H' l=some (.lst (sV (tG rs (runs rs most (jb rs (zN gs))))))->KB [] H H'->Q (.ref l) H'
theorem tX{x:Int}(h:0<=x/\x<65536):x.natAbs.log2<1920:=by
 obtain⟨n,rfl⟩:∃ n:Nat,x=n:=⟨x.toNat,by lia⟩
 exact dM (by lia)
theorem mr{σ:L2.St}{ta:Addr}{xs:List Int}(o:H ta=some (.tup (iV xs)))(hl:xs.length<=400)(sm:∀ x∈xs,0<=x/\x<65536)(q:∀ D,H D=none->Q (.ref D) (upd H D (.lst (sV (xs.map fun x=>Str.ofString (toString x)))))):kr (pT K ta) 1 (bJ 0) gP (xY yd (fW (lE 0) jo)) Q σ H:=by
 have il:(iV xs).length=xs.length:=Kc ..;refine fb (xs:=iV xs) (Kj (show _<=400 by rw[il];exact hl) (by decide)) (fun D' i ys H'=>H D'=none/\H'=upd H D' (.lst ys)/\ys=sV ((xs.take i).map fun x=>Str.ofString (toString x))/\i<=xs.length) (fun D' hD=>⟨hD,rfl,rfl,K7 _⟩) ?_ ?_ ?_ ?_
 ·rintro D' i ys H' ⟨h1,rfl,rfl,h4⟩;exact⟨ab,by unfold sV;rw[Kc,Kc,KD];lia⟩
 ·rintro D' i ys H' ⟨h1,rfl,_⟩;exact bO.of (by rw[ae (af o h1)];exact o)
 ·rintro D' i ys H' x R ex ⟨h1,rfl,rfl,h4⟩ kk;unfold iV at ex;rw[K2] at ex
  cases eg:xs[i]? with
  |none=>rw[eg] at ex;cases ex
  |some g =>
  rw[eg] at ex;cases ex;walk_at "rz";refine⟨tX (sm g (KH eg)),kk _ _ ab ⟨h1,rH,?_,(Ku.mp eg).1⟩⟩;unfold sV;rw[Mi,eg,Kx,Kx];rfl
 ·rintro D' ys H3 ⟨h1,rfl,rfl,_⟩;rw[il,LY];exact q D' h1
theorem zt(T:Txt K mg)(cM_Desk:fu K CD)(mm_asked_run:Meth K CD "asked_run" f_a)(FO_asked_run:a_ P w K mg base aN 7 f_a d_a ["self","parts"] (yi K CD CK))(bm_asked_run:Binds K d_a ["self","parts"] [])(F:e7 K "run_shown" "Desk.run_shown" aG f fd):a_ P w K mg base aN 8 f fd ["self","parts"] (xJ K CD CK):=by
 refine F.ok eL (fun vs H Q E h=>?_) (fun cdv A outer s H vs Q E hr h=>?_)
 ·obtain⟨dd,k,pa,rs,most,gs,rfl,_⟩:=h;rfl
 ·obtain⟨dd,k,pa,rs,most,gs,rfl,dX,aU,h60,hpa,hm,hgl,hg,q⟩:=h;have hu:=aS hr;have key:∃ t,QB (cF aN P w K mg base ["self","parts","run"] "Desk.run_shown" (aa aG) f cdv A outer s H E).ig (aq aG) t/\t {nx:=fun _ H'=>Q .aE H',rt:=Q} (start ["self","parts","run"] [.ref dd,.ref pa]) H:=by
   refine⟨_,(Z.ah (Z.set (i:=2) eL.nd rfl (by right) (Z.g_ K rfl (Z.v 0) cM_Desk mm_asked_run FO_asked_run (hr.mono (by decide)) bm_asked_run au (Z.cons (Z.v 1) Z.nil)))
   (Z.az (Z.ret (Z.op (Z.cf K rfl) (Z.lst (Z.cons (Z.ix (Z.eS K rfl hu) (Z.v 2) Z.int) Z.nil)) (Z.comp (osc:=aa aG) (ON:=["self","parts","run"]) (own:=["number"]) (N:=["number","self","parts","run"]) ⟨rfl,by decide +kernel,rfl,by decide +kernel,by decide +kernel,by decide +kernel,by decide +kernel,by decide +kernel⟩ rfl rfl rfl (Z.any K rfl (Z.ix (Z.eS K rfl hu) (Z.v 2) Z.int)) (fun _ _ _ _=>(Z.bB (i:=0) (show List.Nodup (["number","self","parts","run"]:List Str) by decide +kernel) rfl (by right))) (fun _ _ _ _=>Z.nW) (fun _ _ _ _=>(Z.ct bZ rfl T.gU (by decide +kernel) (Z.cons (Z.v 0) Z.nil)))))))),?_⟩
   obtain⟨dx,dxk,b,vr,D⟩:=id dX;refine aI fun N hN=>?_;walk_at "rz";refine⟨dd,dx,_,rfl,D.d,vq (by decide +kernel),dd,k,pa,rs,most,gs,rfl,dX,aU,h60,hpa,hm,hgl,hg,fun v H1 r1 k1=>?_⟩
   rw[hN];clear hN N;generalize hc:runs rs most (jb rs (zN gs))=c at *;have sm:=xB aU most (zN gs);rw[hc] at sm;obtain⟨ra,vs1,rfl,_,o1,rr⟩:=Rep.tupI r1;obtain⟨v0,ws,rfl,h0,rr⟩:=rr.aO;obtain⟨v1,ws,rfl,h1,rr⟩:=rr.aO;obtain rfl:=Rep.dm h0;obtain⟨ta,vs2,rfl,_,o2,rr2⟩:=Rep.tupI h1;have e2:=gb rr2;subst e2;walk_at "rz";simp only[cz o1,Bh];refine⟨by decide,fun l hl=>?_⟩
   have k2:KB [] H1 (upd H1 l (.lst [.str (if c.at_<rs.length then "more" else "halt")])):=KB.new hl
   have l2:upd H1 l (.lst [.str (if c.at_<rs.length then "more" else "halt")]) l=some (.lst [.str (if c.at_<rs.length then "more" else "halt")]):=ab
   generalize upd H1 l (.lst [.str (if c.at_<rs.length then "more" else "halt")])=H2 at *
   simp only[cz (k2 _ _ o1 (by simp)),zC,cz (k2 _ _ o2 (by simp))]
   have tl:c.st.told.length<=400:=by
    have:=iO (rows:=rs) most (jb rs (zN gs));rw[hc] at this;have e:(jb rs (zN gs)).st.told.length=0:=rfl;lia
   refine mr (k2 _ _ o2 (by simp)) tl sm fun D' h1=>?_
   have l3:upd H2 D' (.lst (sV (c.st.told.map fun x=>Str.ofString (toString x)))) l=some (.lst [.str (if c.at_<rs.length then "more" else "halt")]):=by rw[ae (af l2 h1)];exact l2
   have d3:upd H2 D' (.lst (sV (c.st.told.map fun x=>Str.ofString (toString x)))) D'=some (.lst (sV (c.st.told.map fun x=>Str.ofString (toString x)))):=ab;have k3:KB [] H2 (upd H2 D' (.lst (sV (c.st.told.map fun x=>Str.ofString (toString x))))):=KB.new h1;generalize upd H2 D' (.lst (sV (c.st.told.map fun x=>Str.ofString (toString x))))=H3 at *;simp only[L2.Ap.addRef,l3,d3];refine⟨Kj (show _<=1000 by unfold sV;rw[Kc,Kc];simp;lia) (by decide),fun a ha=>?_⟩
   have k13:=k1.trans (k2.trans k3);exact q a _ (k13.free (by simp) ha) ab (k13.trans (KB.new ha))
  obtain⟨t,hb,ht⟩:=key;exact⟨t,hb.h,ht⟩
noncomputable def Bs(K:Nv)(CD CK:Addr):Sp:=fun vs H Q E=>∃ dd pa,(vs=[.ref dd,.str "put",.ref pa]/\fm K CD CK [.ref dd,.ref pa] H Q E)\/(vs=[.ref dd,.str "take",.ref pa]/\dI K CD CK [.ref dd,.ref pa] H Q E)
theorem GC{pa:Addr}(h:fm K CD CK [.ref dd,.ref pa] H Q E):∃ dx k,H dd=some (.ins CD dx [("kept",.ref k)]):=by
 obtain⟨dd',k,pa',rows,p,r,e,⟨dx,dxk,b,vr,D⟩,_⟩:=h
 cases e;exact⟨dx,k,D.d⟩
theorem Gp{pa:Addr}(h:dI K CD CK [.ref dd,.ref pa] H Q E):∃ dx k,H dd=some (.ins CD dx [("kept",.ref k)]):=by
 obtain⟨dd',k,pa',rows,p,e,⟨dx,dxk,b,vr,D⟩,_⟩:=h
 cases e;exact⟨dx,k,D.d⟩
theorem Iu{vs:List V}{Q':VK}{E':XK}(h:fm K CD CK vs H Q E)(hq:∀ H',Q .aE H'->Q' .aE H'):fm K CD CK vs H Q' E':=by
 obtain⟨dd,k,pa,rows,p,r,e,h1,h2,h3,h4,h5,q⟩:=h;exact⟨dd,k,pa,rows,p,r,e,h1,h2,h3,h4,h5,fun H' a b=>hq H' (q H' a b)⟩
theorem Iy{vs:List V}{Q':VK}{E':XK}(h:dI K CD CK vs H Q E)(hq:∀ H',Q .aE H'->Q' .aE H'):dI K CD CK vs H Q' E':=by
 obtain⟨dd,k,pa,rows,p,e,h1,h2,h3,h4,q⟩:=h;exact⟨dd,k,pa,rows,p,e,h1,h2,h3,h4,fun H' a b=>hq H' (q H' a b)⟩
theorem D8{f_p f_t:Addr}{d_p d_t:FuncData}(T:Txt K mg)(cM_Desk:fu K CD)(mm_put_row:Meth K CD "put_row" f_p)(FO_put_row:a_ P w K mg base aN 6 f_p d_p ["self","parts"] (fm K CD CK))(bm_put_row:Binds K d_p ["self","parts"] [])(mm_take_row:Meth K CD "take_row" f_t)(FO_take_row:a_ P w K mg base aN 6 f_t d_t ["self","parts"] (dI K CD CK))(bm_take_row:Binds K d_t ["self","parts"] [])(F:e7 K "change" "Desk.change" bg f fd):a_ P w K mg base aN 7 f fd ["self","word","parts"] (Bs K CD CK):=by
 refine F.ok jY (fun vs H Q E h=>?_) (fun cdv A outer s H vs Q E hr h=>?_)
 ·obtain⟨dd,pa,h⟩:=h;rcases h with ⟨rfl,_⟩|⟨rfl,_⟩<;>rfl
 ·have hu:=aS hr;obtain⟨dd,pa,h⟩:=h;have key:∀ z:Str,vs=[.ref dd,.str z,.ref pa]->∃ t,QB (cF aN P w K mg base ["self","word","parts"] "Desk.change" (aa bg) f cdv A outer s H E).ig (aq bg) t/\t {nx:=fun _ H'=>Q .aE H',rt:=Q} (start ["self","word","parts"] [.ref dd,.str z,.ref pa]) H:=by
   intro z hz;refine⟨_,(Z.az (Z.dJ (Z.aZ bH (Z.v 1) Z.str) (Z.az (Z.expr (Z.g_ K rfl (Z.v 0) cM_Desk mm_put_row FO_put_row (hr.mono (by decide)) bm_put_row au (Z.cons (Z.v 2) Z.nil)))) (Z.az (Z.dJ (Z.aZ bH (Z.v 1) Z.str) (Z.az (Z.expr (Z.g_ K rfl (Z.v 0) cM_Desk mm_take_row FO_take_row (hr.mono (by decide)) bm_take_row au (Z.cons (Z.v 2) Z.nil)))) (Z.az (Z.dJ (Z.aZ bH (Z.v 1) Z.str) (Z.az Z.wb) (Z.az (Z.dJ (Z.aZ bH (Z.v 1) Z.str) (Z.az Z.wb) (Z.az Z.wb))))))))),?_⟩
   rcases h with ⟨rfl,h⟩|⟨rfl,h⟩
   ·cases hz;obtain⟨dx,k,hd⟩:=GC h;walk_at "rz";exact⟨dd,dx,_,rfl,hd,vq (by decide +kernel),Iu h fun H' q=>q⟩
   ·cases hz;obtain⟨dx,k,hd⟩:=Gp h;walk_at "rz";rw[Kf (by decide +kernel)]
    exact⟨dd,dx,_,rfl,hd,vq (by decide +kernel),Iy h fun H' q=>q⟩
  rcases h with ⟨rfl,h⟩|⟨rfl,h⟩
  ·obtain⟨t,hb,ht⟩:=key _ rfl;exact⟨t,hb.h,ht⟩
  ·obtain⟨t,hb,ht⟩:=key _ rfl;exact⟨t,hb.h,ht⟩
noncomputable def putL(p:Nat)(r:Row):Str:=Str.join " " ("put"::ao p::r.ps.map cX.x)
noncomputable def p7(p:Nat):Str:=Str.join " " ["take",ao p]
noncomputable def qA(most:Nat)(gs:List Nat):Str:=Str.join " " ("run"::ao most::gs.map ao)
noncomputable def jf(z:Str)(ws:List Str):Prop:=z=Str.join " " ws/\ws≠[]/\∀ x∈ws,32∉cp x
theorem cA(h:jf z ws):Txt.split z " "=ws:=by
 obtain⟨rfl,h1,h2⟩:=h;rw[blank];exact fD h1 h2
theorem iB{w:Str}(h:jf z (w::ws))(h0:ws≠[]){y:Str}(hy:32∉cp y):z≠y:=fun e=>by
 have hs:=cA h;rw[e] at hs;have h1:=fD (c:=32) (xs:=[y]) (by simp) (by simpa using hy)
 rw[blank,show y=Str.join ⟨#[32]⟩ [y] from rfl,h1] at hs
 cases ws with
 |nil=>exact h0 rfl
 |cons a ws=>cases hs
theorem km(p:Nat)(r:Row):jf (putL p r) ("put"::ao p::r.ps.map cX.x):=⟨rfl,by simp,fun x hx=>by
 rcases Kn.mp hx with rfl|hx
 ·decide +kernel
 ·rcases Kn.mp hx with rfl|hx
  ·exact fX p (by decide)
  ·exact parts_free r (by decide) x hx⟩
theorem iX(p:Nat):jf (p7 p) ["take",ao p]:=⟨rfl,by simp,fun x hx=>by
 rcases Kn.mp hx with rfl|hx
 ·decide +kernel
 ·rw[K9.mp hx];exact fX p (by decide)⟩
theorem k_(most:Nat)(gs:List Nat):jf (qA most gs) ("run"::ao most::gs.map ao):=⟨rfl,by simp,fun x hx=>by
 rcases Kn.mp hx with rfl|hx
 ·decide +kernel
 ·rcases Kn.mp hx with rfl|hx
  ·exact fX most (by decide)
  ·obtain⟨g,_,rfl⟩:=K6.mp hx;exact fX g (by decide)⟩
noncomputable def nP(K:Nv)(CD CK:Addr):Sp:=fun vs H Q _=>∃(dd k:Addr) (rs:List Row) (z:Str),vs=[.ref dd,.str z]/\DX K CD CK H dd k (rs.map bW)/\(∀ r∈rs,r.Ok 100000)/\rs.length<=60 /\
  ((z="rows"/\∀ l H',H l=none->H' l=some (.lst (sV (rs.map Row.line)))->KB [] H H'->Q (.ref l) H') \/
   (∃(p:Nat) (r:Row),z=putL p r/\p<=rs.length/\rs.length<60/\r.Ok (rs.length+1)/\∀ l H',H l=none->H' l=some (.lst [])->DX K CD CK H' dd k (pE (rs.map bW) p (bW r))->KB [k] H H'->Q (.ref l) H') \/
   (∃ p:Nat,z=p7 p/\p<rs.length/\∀ l H',H l=none->H' l=some (.lst [])->DX K CD CK H' dd k (j5 (rs.map bW) p)->KB [k] H H'->Q (.ref l) H') \/
   (∃(most:Nat) (gs:List Nat),z=qA most gs/\z.length<=100000/\most<=400/\gs.length<=100/\(∀ g∈gs,g<10^30)/\∀ l H',H l=none->H' l=some (.lst (sV (tG rs (runs rs most (jb rs (zN gs))))))->KB [] H H'->Q (.ref l) H'))
theorem De{f_r f_c:Addr}{d_r d_c:FuncData}(T:Txt K mg)(M:KM P w K mg base CK)(cM_Desk:fu K CD)(na_kept:aK K CD "kept")(hrow_shown:ai P w K mg base aN 1 "row_shown" ["row"] (spT K [false] jr))(mm_run_shown:Meth K CD "run_shown" f_r)(FO_run_shown:a_ P w K mg base aN 8 f_r d_r ["self","parts"] (xJ K CD CK))(bm_run_shown:Binds K d_r ["self","parts"] [])(mm_change:Meth K CD "change" f_c)(FO_change:a_ P w K mg base aN 7 f_c d_c ["self","word","parts"] (Bs K CD CK))(bm_change:Binds K d_c ["self","word","parts"] [])(F:e7 K "ask" "Desk.ask" b7 f fd):a_ P w K mg base aN 9 f fd ["self","line"] (nP K CD CK):=by
 obtain⟨f_q,d_q,mm_program,FO_program,bm_program⟩:=M.prog;have cM_Kept:=M.cM;refine F.ok j7 (fun vs H Q E h=>?_) (fun cdv A outer s H vs Q E hr h=>?_)
 ·obtain⟨dd,k,rs,z,rfl,_⟩:=h;rfl
 ·have hu:=aS hr;obtain⟨dd,k,rs,z,rfl,dX,aU,h60,h⟩:=h;obtain⟨dx,dxk,b,vr,D⟩:=id dX;have key:∃ t,QB (cF aN P w K mg base ["self","line","parts"] "Desk.ask" (aa b7) f cdv A outer s H E).ig (aq b7) t/\t {nx:=fun _ H'=>Q .aE H',rt:=Q} (start ["self","line","parts"] [.ref dd,.str z]) H:=by
   refine⟨_,(Z.ah (Z.dJ (Z.aZ bH (Z.v 1) Z.str) (Z.az (Z.ret (Z.comp (osc:=aa b7) (ON:=["self","line","parts"]) (own:=["row"]) (N:=["row","self","line","parts"]) ⟨rfl,by decide +kernel,rfl,by decide +kernel,by decide +kernel,by decide +kernel,by decide +kernel,by decide +kernel⟩ rfl rfl rfl (Z.any K rfl (Z.mF K rfl (Z.fld K rfl (Z.v 0)) cM_Kept mm_program FO_program (hr.mono (by decide)) bm_program au)) (fun _ _ _ _=>(Z.bB (i:=0) (show List.Nodup (["row","self","line","parts"]:List Str) by decide +kernel) rfl (by right))) (fun _ _ _ _=>Z.nW) (fun _ _ _ _=>(Z.fn hrow_shown (hr.mono (by decide)) rfl au (Z.cons (Z.v 0) Z.nil)))))) Z.bL)
   (Z.ah (Z.dJ (Z.aZ bH (Z.v 1) Z.str) (Z.az Z.wb) Z.bL)
   (Z.ah (Z.dJ (Z.aZ bH (Z.v 1) Z.str) (Z.az Z.wb) Z.bL)
   (Z.ah (Z.dJ (Z.aZ bH (Z.v 1) Z.str) (Z.az Z.wb) Z.bL)
   (Z.ah (Z.set (i:=2) j7.nd rfl (by right) (Z.bm K rfl PySem.F.plainAttrs_str PySem.F.slot_str_split PySem.F.type_str_split kF (Z.v 1) (Z.cons Z.str Z.nil)))
   (Z.ah (Z.dJ (Z.aZ bH (Z.ix (Z.eS K rfl hu) (Z.v 2) Z.int) Z.str) (Z.az (Z.ret (Z.g_ K rfl (Z.v 0) cM_Desk mm_run_shown FO_run_shown (hr.mono (by decide)) bm_run_shown au (Z.cons (Z.slice (Z.zU K rfl) (Z.v 2) (Z.oG Z.int) Z.nT) Z.nil)))) Z.bL)
   (Z.ah (Z.expr (Z.g_ K rfl (Z.v 0) cM_Desk mm_change FO_change (hr.mono (by decide)) bm_change au (Z.cons (Z.ix (Z.eS K rfl hu) (Z.v 2) Z.int) (Z.cons (Z.slice (Z.zU K rfl) (Z.v 2) (Z.oG Z.int) Z.nT) Z.nil))))
   (Z.az (Z.ret (Z.lst Z.nil)))))))))),?_⟩
   rcases h with ⟨rfl,q⟩|h
   ·refine aI fun N hN=>?_;walk_at "rz";refine⟨dd,CD,dx,_,_,rfl,D.d,cM_Desk,na_kept,rfl,k,dxk,_,rfl,D.kp,i5 (by decide +kernel) (by decide +kernel),k,dxk,b,vr,rfl,D.kp,?_⟩
    have rp:=D.rp;rw[gm] at rp;obtain⟨ra,vs1,rfl,_,o1,rr⟩:=Rep.tupI rp;have sq1:=cz o1;show (match sq H ra with
     |some (true,_)=>kr (xN K ra) 1 (bJ 0) gP (gL (L2.spT K [false] jr) [] E0 (fW (lE 0) jo)) Q [some (V.ref dd),some (V.str (Str.ofString "rows")),none] H
     |some (false,_)=>kr (pT K ra) 1 (bJ 0) gP (gL (L2.spT K [false] jr) [] E0 (fW (lE 0) jo)) Q [some (V.ref dd),some (V.str (Str.ofString "rows")),none] H
     |none=>(∃ xs,bO K H ra xs)/\kr (pT K ra) 1 (bJ 0) gP (gL (L2.spT K [false] jr) [] E0 (fW (lE 0) jo)) Q [some (V.ref dd),some (V.str (Str.ofString "rows")),none] H)
    simp only[sq1];have hl1:vs1.length=rs.length:=by rw[rr.length];exact Kc ..
    refine fb (xs:=vs1) (Kj (show _<=100 by lia) (by decide)) (fun D' i ys H'=>H D'=none/\H' D'=some (.lst ys)/\KB [] H H'/\ys=sV ((rs.take i).map Row.line)/\i<=rs.length) (fun D' hD=>⟨hD,ab,KB.new hD,rfl,K7 _⟩) ?_ ?_ ?_ ?_
    ·rintro D' i ys H' ⟨h1,h2,h3,rfl,h4⟩;exact⟨h2,by unfold sV;rw[Kc,Kc,KD];lia⟩
    ·rintro D' i ys H' ⟨h1,h2,h3,_⟩;exact bO.of (h3 _ _ o1 (by simp))
    ·rintro D' i ys H' x R ex ⟨h1,h2,h3,rfl,h4⟩ kk;have hi:i<rs.length:=by have:=(Ku.mp ex).1;lia
     obtain⟨x',ex',rt⟩:=rr.get (i:=i) (t:=rs[i].t) (by unfold pL;rw[K2,Kd hi];rfl)
     rw[ex] at ex';cases ex';walk_at "rz";have rt':Rep K H' (fun _=>False) x rs[i].t:=by
      rw[kJ] at rt ⊢;exact ib (fun a vs e=>⟨h3 _ _ e (by simp),id⟩) rt
     refine fL (args:=[rs[i].t]) (t:=.str rs[i].line) ⟨rt',trivial⟩ rfl ⟨_,rfl,aU _ (KS hi),rfl⟩ fun v H5 k5 r5=>?_;obtain rfl:=Rep.dm r5;refine kk _ _ (k5 _ _ h2 (by simp)) ⟨h1,ab,fun c o e _=>?_,?_,hi⟩
     ·rw[ae (af e h1)];exact k5 _ _ (h3 _ _ e (by simp)) (by simp)
     ·unfold sV;rw[Mi,Kd hi,Kx,Kx];rfl
    rintro D' ys H' ⟨h1,h2,h3,rfl,_⟩;rw[hl1,LY] at h2;exact q D' H' h1 h2 h3
   have n4:∀ y∈(["rows","bits","places","book"]:List Str),32∉cp y:=by decide +kernel
   have b1:(Str.ofString " ").length=1:=by decide +kernel
   have small:z≠"rows"/\z≠"bits"/\z≠"places"/\z≠"book"/\z.length<=100000/\(Txt.split z " ").length<=200:=by
    have no:∀{w:Str} {ws:List Str},jf z (w::ws)->ws≠[]->z≠"rows"/\z≠"bits"/\z≠"places"/\z≠"book":=fun h h0=>⟨iB h h0 (n4 _ (by simp)),iB h h0 (n4 _ (by simp)),iB h h0 (n4 _ (by simp)),iB h h0 (n4 _ (by simp))⟩
    rcases h with ⟨p,r,rfl,hp,h59,hro,_⟩|⟨p,rfl,hp,_⟩|⟨most,gs,rfl,hz,hm,hgl,hg,_⟩
    ·have:=no (km p r) (by simp)
     refine⟨this.1,this.2.1,this.2.2.1,this.2.2.2,?_,?_⟩
     ·have pl:=dG (hro.mono (show rs.length+1<=100000 by lia))
      have:=fS 32 ("put"::ao p::r.ps.map cX.x);have n1:=eB (show p<=100000 by lia)
      rw[Kt,Kt,LL,LL,Ks,Ks,Kc] at this;have e3:(Str.ofString "put").length=3:=by decide +kernel
      unfold putL;rw[blank];lia
     ·rw[cA (km p r)];have pl:=dG (hro.mono (show rs.length+1<=100000 by lia))
      simp;lia
    ·have:=no (iX p) (by simp)
     refine⟨this.1,this.2.1,this.2.2.1,this.2.2.2,?_,?_⟩
     ·have:=fS 32 ["take",ao p];have n1:=eB (show p<=100000 by lia)
      simp only[Kt,LW,LL,List.sum_nil,Ks,Ld] at this;have e3:(Str.ofString "take").length=4:=by decide +kernel
      unfold p7;rw[blank];lia
     ·rw[cA (iX p)];simp
    ·have:=no (k_ most gs) (by simp)
     refine⟨this.1,this.2.1,this.2.2.1,this.2.2.2,hz,?_⟩;rw[cA (k_ most gs)];simp;lia
   obtain⟨m1,m2,m3,m4,m5,m6⟩:=small;refine aI fun N hN=>?_;walk_at "rz";rw[Kf m1,hN];clear hN N;refine aI fun N hN=>?_;walk_at "rz";rw[Kf m2,hN];clear hN N;refine aI fun N hN=>?_;walk_at "rz";rw[Kf m3,hN];clear hN N;refine aI fun N hN=>?_;walk_at "rz";rw[Kf m4,hN];clear hN N;refine aI fun N hN=>?_;walk_at "rz";refine⟨rfl,z,_,rfl,rfl,by rw[b1];rfl,Kj m5 (by decide),Kj m6 (by decide),fun l hl=>?_⟩
   have k1:KB [] H (upd H l (.lst ((Txt.split z " ").map V.str))):=KB.new hl;have l1:upd H l (.lst ((Txt.split z " ").map V.str)) l=some (.lst (sV (Txt.split z " "))):=ab;generalize upd H l (.lst ((Txt.split z " ").map V.str))=H1 at *;rw[hN];clear hN N;have d1:=dX.keep k1 (by simp)
   have D1:=k1 _ _ D.d (by simp)
   refine aI fun N hN=>?_;walk_at "rz";rcases h with ⟨p,r,rfl,hp,h59,hro,q⟩|⟨p,rfl,hp,q⟩|⟨most,gs,rfl,hz,hm,hgl,hg,q⟩
   ·rw[cA (km p r)] at l1;simp only[bG l1,oy,L2.Ap.uJ];refine⟨_,rfl,?_⟩;rw[Kf (by decide +kernel),hN];clear hN N
    refine aI fun N hN=>?_;walk_at "rz";simp only[bG l1,oy];refine⟨dd,dx,_,rfl,D1,vq (by decide +kernel),fun l2 hl2=>?_⟩
    rw[y8];have k2:KB [] H1 (upd H1 l2 (.lst (sV (ao p::r.ps.map cX.x)))):=KB.new hl2;have e2:upd H1 l2 (.lst (sV (ao p::r.ps.map cX.x))) l2=some (.lst (sV (ao p::r.ps.map cX.x))):=ab;generalize upd H1 l2 (.lst (sV (ao p::r.ps.map cX.x)))=H2 at *;have ln:(rs.map bW).length=rs.length:=Kc ..;refine⟨dd,l2,.inl ⟨rfl,dd,k,l2,rs.map bW,p,r,rfl,d1.keep k2 (by simp),e2,by lia,by lia,by rw[ln];exact hro,fun H3 d3 k3=>?_⟩⟩
    rw[hN];clear hN N;walk_at "rz";refine⟨K7 _,fun a ha=>?_⟩;have k12:=k1.trans k2;obtain⟨_,_,_,_,D3⟩:=id d3;have kn:a≠k:=fun z=>by rw[z,D3.kp] at ha;cases ha
    have h3:H2 a=none:=k3.free (by simpa using kn) ha
    exact q a _ (k12.free (by simp) h3) ab (d3.keep (KB.new (ex:=[]) ha) (by simp)) (k12.all.trans (k3.trans (KB.new ha)))
   ·rw[cA (iX p)] at l1;simp only[bG l1,oy,L2.Ap.uJ];refine⟨_,rfl,?_⟩;rw[Kf (by decide +kernel),hN];clear hN N
    refine aI fun N hN=>?_;walk_at "rz";simp only[bG l1,oy];refine⟨dd,dx,_,rfl,D1,vq (by decide +kernel),fun l2 hl2=>?_⟩
    rw[y8];have k2:KB [] H1 (upd H1 l2 (.lst (sV [ao p]))):=KB.new hl2;have e2:upd H1 l2 (.lst (sV [ao p])) l2=some (.lst (sV [ao p])):=ab;generalize upd H1 l2 (.lst (sV [ao p]))=H2 at *;have ln:(rs.map bW).length=rs.length:=Kc ..;refine⟨dd,l2,.inr ⟨rfl,dd,k,l2,rs.map bW,p,rfl,d1.keep k2 (by simp),e2,by lia,by lia,fun H3 d3 k3=>?_⟩⟩
    rw[hN];clear hN N;walk_at "rz";refine⟨K7 _,fun a ha=>?_⟩;have k12:=k1.trans k2;obtain⟨_,_,_,_,D3⟩:=id d3;have kn:a≠k:=fun z=>by rw[z,D3.kp] at ha;cases ha
    have h3:H2 a=none:=k3.free (by simpa using kn) ha
    exact q a _ (k12.free (by simp) h3) ab (d3.keep (KB.new (ex:=[]) ha) (by simp)) (k12.all.trans (k3.trans (KB.new ha)))
   ·rw[cA (k_ most gs)] at l1;simp only[bG l1,oy,L2.Ap.uJ];refine⟨_,rfl,?_⟩;rw[Kh (by decide)]
    refine⟨dd,dx,_,rfl,D1,vq (by decide +kernel),fun l2 hl2=>?_⟩
    rw[y8];have k2:KB [] H1 (upd H1 l2 (.lst (sV (ao most::gs.map ao)))):=KB.new hl2;have e2:upd H1 l2 (.lst (sV (ao most::gs.map ao))) l2=some (.lst (sV (ao most::gs.map ao))):=ab;generalize upd H1 l2 (.lst (sV (ao most::gs.map ao)))=H2 at *;have k12:=k1.trans k2;exact⟨dd,k,l2,rs,most,gs,rfl,d1.keep k2 (by simp),aU,h60,e2,hm,hgl,hg,fun a H3 ha h3 k3=>q a H3 (k12.free (by simp) ha) h3 (k12.trans k3)⟩
  obtain⟨t,hb,ht⟩:=key;exact⟨t,hb.h,ht⟩
noncomputable def rL(K:Nv)(CD CK:Addr):Sp:=fun vs H Q _=>∃(x dx:Addr),vs=[.ref x]/\H x=some (.ins CD dx [])/\∀ H' k,H k=none->DX K CD CK H' x k []->KB [x] H H'->Q .aE H'
theorem vW{f_i:Addr}(T:Txt K mg)(cM_Desk:fu K CD)(na_kept:aK K CD "kept")(hC_Kept:mg "Kept"=some (.ref CK))(mm___init__:Mk K CK f_i)(FO___init__:a_ P w K mg base aN 1 f_i d_i ["self","book"] (ny K CK))(bm___init__:Binds K d_i ["self","book"] [])(F:e7 K "__init__" "Desk.__init__" aL f fd):a_ P w K mg base aN 3 f fd ["self"] (rL K CD CK):=by
 refine F.ok jg (fun vs H Q E h=>?_) (fun cdv A outer s H vs Q E hr h=>?_)
 ·obtain⟨x,dx,rfl,_⟩:=h;rfl
 ·obtain⟨x,dx,rfl,ox,q⟩:=h;have hu:=aS hr;have ag:fA K H (fun _=>False) [false] [.ref x] [.adr x]:=⟨.adr x,trivial⟩;have l0:=iw (N:=["self"]) ag (fun b z=>z.elim) (by show List.Nodup [];exact KW) (by decide)
  have key:∃ t,QB (cF aN P w K mg base ["self"] "Desk.__init__" (aa aL) f cdv A outer s H E).ig (aq aL) t/\t {nx:=fun _ H'=>Q .aE H',rt:=Q} (start ["self"] [.ref x]) H:=by
   refine⟨_,(Z.az (Z.lx K rfl (Z.v 0) (Z.make K rfl mm___init__ FO___init__ (hr.mono (by decide)) rfl hC_Kept bm___init__ au (YA.mV (Y.cons (Y.ct (Y.gr K rfl) Y.iD rfl T.dC (by decide +kernel) (Y.cons (Y.Fc K rfl (osc:=aa aL) (ON:=["self"]) (own:=["length","many"]) (N:=["length","many","self"]) ⟨rfl,by decide +kernel,rfl,by decide +kernel,by decide +kernel,by decide +kernel,by decide +kernel,by decide +kernel⟩ rfl rfl rfl rfl (Y.zip K rfl rfl T.Bt (Y.cons (Y.pw rfl T.jD) (Y.cons (Y.pw rfl T.qW) Y.nil))) (fun _ _ _ _=>(Z.xo (n:=2) K rfl rfl (Z.d6 (Z.bB (i:=0) (show List.Nodup (["length","many","self"]:List Str) by decide +kernel) rfl (by right)) (Z.d6 (Z.bB (i:=1) (show List.Nodup (["length","many","self"]:List Str) by decide +kernel) rfl (by right)) Z.mi)))) (fun _ _ _ _=>Y.nW) (fun _ _ _ _=>(Y.op (Y.An K rfl) Y.AR (Y.tup (Y.cons (Y.vS 0) Y.nil)) (Y.vS 1)))) Y.nil)) Y.nil))))),?_⟩
   obtain⟨F0,eF⟩:∃ F0,F0=qy K H [false] [.ref x] (fun _=>False) (fun b z=>z.elim):=⟨_,rfl⟩;rw[<- eF] at l0;have hK:F0.K=K:=by rw[eF];rfl
   simp only[L2.Ap.u_,L2.Ap.jq];refine⟨F0,_,_,_,fun rs μ=>∃ ts,rs=[.tr (.tup ts)]/\μ=[.tr (.adr x)],by exact hK,l0,?_,?_⟩
   ·show Y.oY _ _ [.tr (.adr x)] _;rfl';refine eN (fun rest acc μ=>∃ n:Nat,acc.length=n/\rest=([.tup [.int 4,.int 9],.tup [.int 5,.int 17],.tup [.int 3,.int 8]]:List L2.T).drop n/\n<=3/\μ=[.tr (.adr x)]) ⟨0,rfl,rfl,by decide,rfl⟩ ?_ ?_
    ·rintro acc μ ⟨n,e1,e2,hn,rfl⟩;refine⟨trivial,?_⟩;rfl';exact⟨acc,rfl⟩
    ·rintro t r acc μ M' ⟨n,e1,e2,hn,rfl⟩ k;have sz:acc.length<sizeLine:=KP (show _<=3 by lia) (by decide)
     have nx:∀ t',r=([.tup [.int 4,.int 9],.tup [.int 5,.int 17],.tup [.int 3,.int 8]]:List L2.T).drop (n+1)->n<3->M' (acc++[t']) [.tr (.adr x)]:=fun t' e h=>k _ _ ⟨n+1,by rw[Kv,e1];rfl,e,h,rfl⟩
     rcases n with _|_|_|n
     ·obtain⟨rfl,rfl⟩:=List.cons.inj e2;refine⟨trivial,sz,?_⟩;rfl';exact⟨by decide,⟨by simp,by decide,by decide⟩,nx _ rfl (by decide)⟩
     ·obtain⟨rfl,rfl⟩:=List.cons.inj e2;refine⟨trivial,sz,?_⟩;rfl';exact⟨by decide,⟨by simp,by decide,by decide⟩,nx _ rfl (by decide)⟩
     ·obtain⟨rfl,rfl⟩:=List.cons.inj e2;refine⟨trivial,sz,?_⟩;rfl';exact⟨by decide,⟨by simp,by decide,by decide⟩,nx _ rfl (by decide)⟩
     ·exfalso
      rw[Ng (by simp)] at e2
      cases e2
   rintro vs H1 rs μ l1 pr f1 k1 ⟨ts,rfl,rfl⟩;obtain⟨v,_,rfl,hv,pr⟩:=Paired.aO pr;obtain rfl:=Paired.dD pr;have hv':Rep F0.K H1 (fun _=>False) v (.tup ts):=hv;obtain⟨b,_,rfl,_⟩:=Rep.tupI hv';have k01:KB [] H H1:=fun c o e _=>(f1 c o e id).1;intro k dxk hk0 hdx hne;have ox1:=k01 _ _ ox (by simp)
   refine⟨k,dxk,.ref b,rfl,ab,fun p H2 hp hp' hk kp=>⟨rfl,?_⟩⟩;have nxk:x≠k:=af ox1 hk0;have nxd:x≠dxk:=af ox1 hdx;have k12:KB [] H1 H2:=fun c o e _=>kp c o (by rw[ae (af e hk0),ae (af e hdx)];exact e) (af e hk0)
   have ox2:=k12 _ _ ox1 (by simp)
   have np:p≠x:=fun z=>by rw[z,ox2] at hp';cases hp'
   refine⟨_,rfl,x,CD,dx,[],rfl,ox2,cM_Desk,na_kept,(show 0<1000 by decide),?_⟩
   refine q _ k (k01.free (by simp) hk0) ⟨dx,dxk,b,.ref p,ab,by rw[ae nxk.symm];exact hk,.tup id (by rw[ae np];exact hp') .nil⟩ ((k01.trans k12).all.trans (KB.set (by simp)))
  obtain⟨t,hb,ht⟩:=key;exact⟨t,hb.h,ht⟩
theorem Aa(h:n<10^30):((n:Nat):Int).natAbs.log2<1920:=by
 rw[Int.natAbs_natCast];rcases MD n with rfl|h0
 ·decide
 ·exact (Nat.log2_lt (by lia)).mpr (Kr h (Kj (show 10^30<=2^100 by decide) (Mv (by decide) (by decide))))
theorem AY(h:n<10^30):(ao n).length<=31:=by
 rw[<- bY,eR,Kc];exact Kj (eP (10^30) n (by lia)) (by decide +kernel)
theorem rB{zs:List Nat}(h:∀ z∈zs,z<10^30):((zs.map ao).map (·.length)).sum<=31*zs.length:=by
 induction zs with
 |nil=>exact Kk _
 |cons a zs ih =>
  have h1:=AY (h a Ky);have h2:=ih fun x hx=>h x (Ko _ hx);rw[Kt,Kt,LL,Ks];lia
noncomputable def sj:gj:=fun args Q=>∃ zs:List Nat,args=[.lst (nI (zN zs))]/\zs.length<=200/\(∀ z∈zs,z<10^30)/\Q (.tr (.str (Str.join " " (zs.map ao)))) []
theorem vm(T:Txt K mg)(F:HasFn K mg "_law_spaced" cq ["numbers"]):ai P w K mg base aN 1 "_law_spaced" ["numbers"] (spT K [false] sj):=by
 refine F.jP kS [false] rfl (by decide) ?_;left;obtain⟨zs,rfl,hn,hz,q⟩:=h;refine⟨_,(Y.az (Y.ret (Y.sm K rfl PySem.F.slot_str_join PySem.F.type_str_join (Y.kE K rfl) Y.nr Y.str (Y.cons (Y.jT (osc:=aa cq) (ON:=["numbers"]) (own:=["number"]) (N:=["number","numbers"]) ⟨rfl,by decide +kernel,rfl,by decide +kernel,by decide +kernel,by decide +kernel,by decide +kernel,by decide +kernel⟩ rfl rfl rfl rfl (Y.anyS K rfl (Y.vS 0)) (fun _ _ _ _=>(Z.bB (i:=0) (show List.Nodup (["number","numbers"]:List Str) by decide +kernel) rfl (by right))) (fun _ _ _ _=>Y.nW) (fun _ _ _ _=>(Y.ct bZ Y.mX rfl T.gU (by decide +kernel) (Y.cons (Y.vS 0) Y.nil)))) Y.nil)))),?_⟩
 rfl';have e1:nI (zN zs)=zs.map fun z:Nat=>L2.T.int (z:Int):=by unfold nI zN;rw[Lr];rfl
 rw[e1];refine rC (fun z:Nat=>L2.T.int (z:Int)) (fun z=>.str (ao z)) zs (by lia) (fun z hz' acc M' hM=>?_) ?_
 ·rfl';exact⟨Aa (hz z hz'),hM⟩
 rfl';refine⟨zs.map ao,by rw[Lr];rfl,?_,q⟩
 have:=rB hz;rw[show (Str.ofString " ").length=1 by decide +kernel,Kc]
 lia
noncomputable def wO:gj:=fun args Q=>∃ xs:List Str,args=[.lst (sT xs)]/\xs.length<=1000/\Q (.tr (.bl true)) []
theorem wx(T:Txt K mg)(F:HasFn K mg "_law_are_texts" bN ["found"]):ai P w K mg base aN 1 "_law_are_texts" ["found"] (spT K [false] wO):=by
 refine F.jP iK [false] rfl (by decide) ?_;left;obtain⟨xs,rfl,hn,q⟩:=h;refine⟨_,(Y.az (Y.ret (Y.and (Y.JD (C:="list") K rfl rfl T.i9 (Y.vS 0) rfl T.E5 (by decide +kernel)) (Y.one (Y.cmp (Y.cY K rfl (K5 hu)) Y.fQ (Y.jT (osc:=aa bN) (ON:=["found"]) (own:=["one"]) (N:=["one","found"]) ⟨rfl,by decide +kernel,rfl,by decide +kernel,by decide +kernel,by decide +kernel,by decide +kernel,by decide +kernel⟩ rfl rfl rfl rfl (Y.anyS K rfl (Y.vS 0)) (fun _ _ _ _=>(Z.bB (i:=0) (show List.Nodup (["one","found"]:List Str) by decide +kernel) rfl (by right))) (fun _ _ _ _=>(Y.Jj (Y.qO (Y.sZ K rfl (Y.JD (C:="str") K rfl rfl T.i9 (Y.vS 0) rfl T.gU (by decide +kernel)))))) (fun _ _ _ _=>(Y.vS 0))) (Y.lst Y.nil)))))),?_⟩
 have i1:ke "list" "list"=true:=by decide
 have i2:ke "str" "str"=true:=by decide
 exists i1;refine eN (fun rest acc μ=>∃ ys:List Str,rest=sT ys/\acc=[]/\μ=[.tr (.lst (sT xs))]) ⟨xs,rfl,rfl,rfl⟩ ?_ ?_
 ·rintro acc μ ⟨ys,e,rfl,rfl⟩;refine⟨trivial,?_⟩;rfl';exact⟨rfl,rfl,q⟩
 ·rintro t r acc μ M' ⟨ys,e,rfl,rfl⟩ k
  cases ys with
  |nil=>cases e
  |cons y ys =>
   obtain⟨rfl,rfl⟩:=List.cons.inj e;refine⟨trivial,by decide,?_⟩
   exists i2;exact k _ _ ⟨ys,rfl,rfl,rfl⟩
noncomputable def ka:gj:=fun args Q=>∃(d:L2.T) (n:Nat),args=[d]/\fJ n d/\n<2^30/\∀(zs:List Nat) (d':L2.T),zs.length<=40->(∀ z∈zs,z<10^30)->fJ (n+100) d'->Q (.fr (.lst (nI (zN zs)))) [d']
theorem qK(T:Txt K mg)(F:HasFn K mg "_law_numbers" cN ["deck"])(h_law_draw:k0z P w K mg base):ai P w K mg base aN 3 "_law_numbers" ["deck"] (spT K [true] ka):=by
 refine F.jP cx [true] rfl (by decide) ?_;left;obtain⟨sd,n,rfl,hs,hn,q⟩:=h;refine⟨_,(Y.ah (Y.set (i:=1) cx.nd rfl (by right) (Y.lst Y.nil))
   (Y.ah (Y.qD LQ rfl (Y.uY rfl T.jJ (Y.cons (Y.fn K rfl h_law_draw (hr.mono (by decide)) rfl au (Y.cons (Y.vS 0) (Y.cons (Y.ix (Y.dR K rfl) Y.bz (Y.lst (Y.fw rfl rfl)) (Y.ct jm Y.CW rfl T.oV (by decide +kernel) (Y.cons (Y.cmp (Y.cY K rfl (K5 hu)) Y.fQ (Y.fn K rfl h_law_draw (hr.mono (by decide)) rfl au (Y.cons (Y.vS 0) (Y.cons Y.int Y.nil))) Y.int) Y.nil))) Y.nil))) Y.nil)) (Y.bB (i:=2) cx.nd rfl (by right)) (Y.ah (Y.set (i:=3) cx.nd rfl (by right) (Y.fn K rfl h_law_draw (hr.mono (by decide)) rfl au (Y.cons (Y.vS 0) (Y.cons (Y.op qr Y.cc Y.int Y.int) Y.nil))))
   (Y.az (Y.expr (Y.bm K rfl PySem.F.slot_list_append PySem.F.type_list_append fk Y.lS (Y.vS 1) (Y.cons (Y.ix (Y.dR K rfl) Y.bz (Y.lst (Y.cons (Y.op cG Y.cc (Y.vS 3) Y.int) (Y.cons (Y.op cG Y.cc (Y.vS 3) Y.int) (Y.cons (Y.vS 3) (Y.cons (Y.op (Y.bt K rfl) Y.bq (Y.op (Y.eC K rfl) Y.dc (Y.vS 3) (Y.op qr Y.cc Y.int Y.int)) Y.int) Y.nil))))) (Y.fn K rfl h_law_draw (hr.mono (by decide)) rfl au (Y.cons (Y.vS 0) (Y.cons Y.int Y.nil)))) Y.nil))))))
   (Y.az (Y.ret (Y.vS 1))))),?_⟩
 refine cW fun N hN=>?_;rfl';ac_rfl;refine cW fun N hN=>?_;rfl';refine⟨by decide,sd,6,n,rfl,hs,by lia,by decide,by decide,fun v d1 v0 v1 hd1=>?_⟩
 obtain⟨m,em,m0,m1⟩:∃ m:Int,c_ [L2.T.int 6,.int 41] (if v=0 then 1 else 0)=some (.int m)/\0<m/\m<=41:=by
  by_cases c:v=0
  ·rw[Kh c];exact⟨41,rfl,by decide,by decide⟩
  ·rw[Kf c];exact⟨6,rfl,by decide,by decide⟩
 exists em;refine⟨d1,m,n+1,rfl,hd1,by lia,m0,by lia,fun j d2 j0 j1 hd2=>?_⟩
 rfl';refine⟨by lia,by lia,?_⟩
 refine sP (fun rest μ=>∃(zs:List Nat) (d:L2.T) (o2 o3:Option L2.T),zs.length+rest.length=j.toNat/\(∀ z∈zs,z<10^30)/\fJ (n+2+2*zs.length) d/\μ=[.pb d,.bx (.lst (nI (zN zs))),sl o2,sl o3]) ⟨[],d2,none,none,by simp,fun z h=>(nomatch h),hd2,rfl⟩ ?_ ?_
 ·rintro μ ⟨zs,d,o2,o3,hl,hz,hd,rfl⟩;rw[Ld,Nat.add_zero] at hl;show N _;ac_rfl;rfl';exact q zs d (by lia) hz (hd.mono (by lia))
 ·rintro t r μ M' ⟨zs,d,o2,o3,hl,hz,hd,rfl⟩ k;rw[Ks] at hl;rfl';refine cW fun M2 h2=>?_;rfl';refine⟨⟨by decide,by decide,by decide⟩,d,_,_,rfl,hd,by lia,by decide,by decide,fun u d3 u0 u1 hd3=>?_⟩
  rfl';refine h2 _ ?_;clear h2 M2;rfl';refine⟨by decide,by decide,⟨by decide,by decide,by decide⟩,?_,by decide,d3,4,_,rfl,hd3,by lia,by decide,by decide,fun v d4 v0 v1 hd4=>?_⟩
  ·exact .inr ⟨by decide,by decide⟩
  obtain⟨z,ez,hz1⟩:∃ z:Nat,c_ [L2.T.int (u % 3),.int (u % 65537),.int u,.int (u*1000000000000+1)] v=some (.int (z:Nat))/\z<10^30:=by
   have:v=0\/v=1\/v=2\/v=3:=by lia
   have x1:0<=u % 3/\u % 3<3:=⟨Lq _ (by decide),La _ (by decide)⟩
   have x2:0<=u % 65537/\u % 65537<65537:=⟨Lq _ (by decide),La _ (by decide)⟩
   rcases this with rfl|rfl|rfl|rfl
   ·exact⟨(u % 3).toNat,by rw[show (((u % 3).toNat:Nat):Int)=u % 3 by lia];rfl,by lia⟩
   ·exact⟨(u % 65537).toNat,by rw[show (((u % 65537).toNat:Nat):Int)=u % 65537 by lia];rfl,by lia⟩
   ·exact⟨u.toNat,by rw[show ((u.toNat:Nat):Int)=u by lia];rfl,by lia⟩
   ·exact⟨(u*1000000000000+1).toNat,by rw[show (((u*1000000000000+1).toNat:Nat):Int)=u*1000000000000+1 by lia];rfl,by lia⟩
  exists ez;refine⟨KP (show _<=100 by unfold nI zN;rw[Kc,Kc];lia) (by decide),k _ ⟨zs++[z],d4,some _,some _,by rw[Kv,L0];lia,fun y hy=>?_,hd4.mono (by rw[Kv,L0];lia),by unfold nI zN;rw[Kx,Kx];rfl⟩⟩
  rcases Ln.mp hy with hy|hy
  ·exact hz y hy
  ·rw[K9.mp hy];exact hz1
noncomputable def BR(K:Nv)(CD CK:Addr):Sp:=fun vs H Q _=>∃(dd k:Addr) (rs:List Row),vs=[.ref dd]/\DX K CD CK H dd k (rs.map bW)/\(∀ r∈rs,r.Ok rs.length)/\rs.length<=60/\∀ v H',Rep K H' (fun _=>False) v (.tup (pL rs))->KB [] H H'->Q v H'
theorem C5(T:Txt K mg)(cM_Desk:fu K CD)(mm_ask:Meth K CD "ask" f_a)(FO_ask:a_ P w K mg base aN 9 f_a d_a ["self","line"] (nP K CD CK))(bm_ask:Binds K d_a ["self","line"] [])(hread_program:ai P w K mg base aN 5 "read_program" ["text"] (spT K [false] Bj))(F:HasFn K mg "_law_program_of" bU ["desk"]):ai P w K mg base aN 10 "_law_program_of" ["desk"] (BR K CD CK):=by
 refine F.Ic dO (fun vs H Q E h=>?_) (fun f cdv A outer s H vs Q E hr h=>?_)
 ·obtain⟨dd,k,rs,rfl,_⟩:=h;rfl
 ·obtain⟨dd,k,rs,rfl,dX,aU,h60,q⟩:=h;have hu:=aS hr;obtain⟨dx,dxk,b,vr,D⟩:=id dX;have ok5:∀ r∈rs,r.Ok 100000:=fun r hr=>(aU r hr).mono (by lia)
  refine⟨_,(Z.ah (Z.set (i:=1) dO.nd rfl (by right) (Z.g_ K rfl (Z.v 0) cM_Desk mm_ask FO_ask (hr.mono (by decide)) bm_ask au (Z.cons Z.str Z.nil)))
   (Z.ah (Z.dJ (Z.aZ (Y.xk K rfl (K5 hu)) (Z.v 1) (Z.lst Z.nil)) (Z.az (Z.ret (Z.tup Z.nil))) Z.bL)
   (Z.az (Z.ret (Z.fn hread_program (hr.mono (by decide)) rfl au (Z.cons (Z.bm K rfl PySem.F.plainAttrs_str PySem.F.slot_str_join PySem.F.type_str_join (Z.yn K rfl) Z.str (Z.cons (Z.v 1) Z.nil)) Z.nil)))))),?_⟩
  refine aI fun N hN=>?_;walk_at "rz";refine⟨dd,dx,_,rfl,D.d,vq (by decide +kernel),dd,k,rs,_,rfl,dX,ok5,h60,.inl ⟨rfl,fun l H1 hl l1 k1=>?_⟩⟩
  rw[hN];clear hN N;refine aI fun N hN=>?_;walk_at "rz";refine⟨K7 _,fun e0 he0=>?_⟩;have k2:KB [] H1 (upd H1 e0 (.lst [])):=KB.new he0;have z2:upd H1 e0 (.lst []) e0=some (.lst []):=ab;generalize upd H1 e0 (.lst [])=H2 at *;have l2:=k2 _ _ l1 (by simp)
  refine⟨l,e0,_,rfl,rfl,bA.of l2,bA.of z2,_,rfl,?_⟩;by_cases c:rs=[]
  ·subst c;rw[Kh (by rfl)]
   refine⟨K7 _,fun t ht=>?_⟩;exact q _ _ (.tup id ab .nil) ((k1.trans k2).trans (KB.new ht))
  ·rw[Kf (by cases rs with|nil=>exact absurd rfl c|cons=>exact Ki),hN];clear hN N
   walk_at "rz";refine⟨rfl,_,l,rs.map Row.line,rfl,rfl,bA.of l2,?_,?_⟩
   ·have:=me ok5;rw[show (Str.ofString "\n").length=1 by decide +kernel,Kc]
    lia
   ·have rt:=uW c aU;refine fL (args:=[.str (gI rs)]) (t:=.tup (pL rs)) ⟨.str _,trivial⟩ rfl ⟨gI rs,rfl,?_,rt.2,?_⟩ fun v H3 k3 r3=>q v H3 r3 ((k1.trans k2).trans k3)
    ·have:=ud ok5;lia
    ·rw[rt.1];rfl
theorem xQ(xs:List Str):av K H B (sV xs) (sT xs):=by
 induction xs with
 |nil=>exact .nil
 |cons x xs ih=>exact .cons (.str x) ih
theorem rQ(xs:List Str):(sV xs).all d9=true:=KJ.mpr fun t ht=>by
 obtain⟨z,_,rfl⟩:=K6.mp ht;rfl
theorem AQ(xs:List Str):((sV xs).length ==(sV xs).length && (List.range (min (sV xs).length (sV xs).length)).all fun j=>match (sV xs)[j]?,(sV xs)[j]? with|some x,some y=>rO x y|_,_=>true)=true:=by
 rw[KQ,Nm];refine KJ.mpr fun j hj=>?_;have:(sV xs)[j]?=(xs[j]?).map V.str:=K2 ..;rw[this]
 cases xs[j]? with
 |none=>rfl
 |some z=>exact KQ z
noncomputable def x9(K:Nv)(CD CK:Addr):Sp:=fun vs H Q _=>∃(dd k du:Addr) (rs:List Row) (most:Nat) (gs:List Nat),vs=[.ref dd,.str (qA most gs),.ref du]/\DX K CD CK H dd k (rs.map bW)/\(∀ r∈rs,r.Ok 100000)/\rs.length<=60/\(qA most gs).length<=100000/\most<=400/\gs.length<=100/\(∀ g∈gs,g<10^30)/\H du=some (.lst (sV (tG rs (runs rs most (jb rs (zN gs))))))/\∀ H',KB [] H H'->Q (.bl true) H'
theorem yQ(T:Txt K mg)(cM_Desk:fu K CD)(mm_ask:Meth K CD "ask" f_a)(FO_ask:a_ P w K mg base aN 9 f_a d_a ["self","line"] (nP K CD CK))(bm_ask:Binds K d_a ["self","line"] [])(h_law_are_texts:ai P w K mg base aN 1 "_law_are_texts" ["found"] (spT K [false] wO))(F:HasFn K mg "_law_asked" dB ["desk","line","due"]):ai P w K mg base aN 10 "_law_asked" ["desk","line","due"] (x9 K CD CK):=by
 refine F.Ic eV (fun vs H Q E h=>?_) (fun f cdv A outer s H vs Q E hr h=>?_)
 ·obtain⟨dd,k,du,rs,most,gs,rfl,_⟩:=h;rfl
 ·obtain⟨dd,k,du,rs,most,gs,rfl,dX,aU,h60,hz,hm,hgl,hg,hdu,q⟩:=h;have hu:=aS hr;obtain⟨dx,dxk,b,vr,D⟩:=id dX;refine⟨_,(Z.ah (Z.set (i:=3) eV.nd rfl (by right) (Z.g_ K rfl (Z.v 0) cM_Desk mm_ask FO_ask (hr.mono (by decide)) bm_ask au (Z.cons (Z.v 1) Z.nil)))
   (Z.ah (Z.set (i:=4) eV.nd rfl (by right) (Z.and (Z.fn h_law_are_texts (hr.mono (by decide)) rfl au (Z.cons (Z.v 3) Z.nil)) (Z.one (Z.cmp (Y.cY K rfl (K5 hu)) (Z.v 3) (Z.v 2)))))
   (Z.ah (Z.expr (Z.bm K rfl PySem.F.plainAttrs_list PySem.F.slot_list_append PySem.F.type_list_append fk (Z.v 3) (Z.cons Z.str Z.nil)))
   (Z.az (Z.ret (Z.v 4)))))),?_⟩
  refine aI fun N hN=>?_;walk_at "rz";refine⟨dd,dx,_,rfl,D.d,vq (by decide +kernel),dd,k,rs,_,rfl,dX,aU,h60,.inr (.inr (.inr ⟨most,gs,rfl,hz,hm,hgl,hg,fun l H1 hl l1 k1=>?_⟩))⟩
  rw[hN];clear hN N;have du1:=k1 _ _ hdu (by simp)
  generalize ho:tG rs (runs rs most (jb rs (zN gs)))=xs at *;have xl:xs.length<=401:=by
   rw[<- ho];unfold tG;have:=iO (rows:=rs) most (jb rs (zN gs));have e:(jb rs (zN gs)).st.told.length=0:=rfl;rw[Ks,Kc];lia
  refine aI fun N hN=>?_;walk_at "rz";refine fL (args:=[.lst (sT xs)]) (t:=.bl true) ⟨.lst id l1 (xQ xs),trivial⟩ rfl ⟨xs,rfl,by lia,rfl⟩ fun v H2 k2 r2=>?_
  obtain rfl:=Rep.tV r2;refine⟨true,rfl,?_⟩;rw[Kh rfl];have l2:=k2 _ _ l1 (by simp)
  refine .inr ⟨l,du,sV xs,sV xs,rfl,rfl,.inl ⟨bA.of l2,bA.of (k2 _ _ du1 (by simp))⟩,rQ xs,rQ xs,fun c ec=>?_⟩
  have ec':c=true:=ec.trans (AQ xs);subst ec';rw[hN];clear hN N;refine aI fun N hN=>?_;walk_at "rz";refine⟨.inl ⟨rfl,_,bA.of l2⟩,l,_,_,rfl,rfl,l2,KP (show _<=401 by unfold sV;rw[Kc];exact xl) (by decide),?_⟩
  rw[hN];clear hN N;walk_at "rz";exact q _ fun c o e _=>by rw[ae (af e hl)];exact k2 _ _ (k1 _ _ e (by simp)) (by simp)
noncomputable def jF(K:Nv)(H:Hp)(dk:Addr)(n:Nat):Prop:=∃ d,fJ n d/\Bx K H (fun a=>a=dk) dk d
theorem jF.mono{m:Nat}(h:jF K H dk n)(hm:n<=m):jF K H dk m:=by
 obtain⟨d,hd,hb⟩:=h;exact⟨d,hd.mono hm,hb⟩
theorem jF.dW(h:jF K H dk n):∃ xs,H dk=some (.lst xs):=by
 obtain⟨d,⟨m,i,t,z,rfl,_⟩,hb⟩:=h;obtain⟨vs,e,_⟩:=hb;exact⟨vs,e⟩
theorem jF.keep(h:jF K H dk n)(k:KB ex H H')(n1:dk∉ex)(nx:∀ a∈ex,∀ P,H a≠some (.ext P)):jF K H' dk n:=by
 obtain⟨d,hd,hb⟩:=h;obtain⟨m,i,t,z,rfl,h2⟩:=hd;obtain⟨vs,e,r⟩:=hb;refine⟨_,⟨m,i,t,z,rfl,h2⟩,vs,k _ _ e n1,?_⟩;obtain⟨v0,ws,rfl,r0,r⟩:=r.aO;obtain⟨v1,ws,rfl,r1,r⟩:=r.aO;obtain⟨v2,ws,rfl,r2,r⟩:=r.aO;obtain⟨v3,ws,rfl,r3,r⟩:=r.aO;obtain rfl:=r.dD;obtain rfl:=Rep.bT r1;obtain rfl:=Rep.bT r2;obtain rfl:=Rep.bT r3;refine .cons ?_ (.cons (.int _) (.cons (.int _) (.cons (.int _) .nil)))
 cases r0 with
 |il nb ho=>exact .il nb (k _ _ ho fun z=>nx _ z _ ho)
theorem eJ{m:Int}(h:jF K H dk n)(hn:n<2^50)(m0:0<m)(m1:m<2^50)(q:∀(v:Int) (H':Hp),0<=v->v<m->KB [dk] H H'->jF K H' dk (n+1)->Q (.int v) H'):spT K [true,false] jv [.ref dk,.int m] H Q E:=by
 obtain⟨d,hd,hb⟩:=h;refine⟨fun a=>a=dk,[d,.int m],fun r outs=>∃(v:Int) (d':L2.T),r=.tr (.int v)/\outs=[d']/\0<=v/\v<m/\fJ (n+1) d',⟨⟨dk,rfl,rfl,hb⟩,.int m,trivial⟩,fun b z=>by subst z;exact hb.dW,KC.mpr ⟨K4,KW⟩,⟨d,m,n,rfl,hd,hn,m0,m1,fun v d' v0 v1 hd'=>⟨v,d',rfl,rfl,v0,v1,hd'⟩⟩,?_⟩
 rintro v H' _ _ ⟨i,d',rfl,rfl,v0,v1,hd'⟩ kp ⟨rv,pr⟩;obtain rfl:=Rep.bT rv;obtain⟨_,_,e,hb',_⟩:=Paired.aO pr;cases e;exact q i H' v0 v1 kp ⟨d',hd',hb'⟩
theorem Ds{many:Nat}(h:jF K H dk n)(hn:n<2^38)(m1:many<1000)(q:∀(r:Row) (v:V) (H':Hp),r.Ok many->KB [dk] H H'->jF K H' dk (n+5)->Rep K H' (fun _=>False) v (bW r).t->Q v H'):spT K [true,false] yY [.ref dk,.int (many:Int)] H Q E:=by
 obtain⟨d,hd,hb⟩:=h;refine⟨fun a=>a=dk,[d,.int (many:Int)],fun x outs=>∃(r:Row) (d':L2.T),x=.tr r.t/\outs=[d']/\r.Ok many/\fJ (n+5) d',⟨⟨dk,rfl,rfl,hb⟩,.int _,trivial⟩,fun b z=>by subst z;exact hb.dW,KC.mpr ⟨K4,KW⟩,⟨d,many,n,rfl,hd,hn,m1,fun r d' hr hd'=>⟨r,d',rfl,rfl,hr,hd'⟩⟩,?_⟩
 rintro v H' _ _ ⟨r,d',rfl,rfl,hr,hd'⟩ kp ⟨rv,pr⟩;obtain⟨_,_,e,hb',_⟩:=Paired.aO pr;cases e;rw[kJ] at rv;exact q r v H' hr kp ⟨d',hd',hb'⟩ (Rep.fr (Fr.less fun b z=>z.elim) rv)
theorem zr{a:Addr}{ns:List Int}(hs:bA K H a (ns.map V.int))(q:∀(dk:Addr) (H':Hp),H dk=none->KB [] H H'->jF K H' dk 0->Q (.ref dk) H'):spT K [false] wD [.ref a] H Q E:=by
 refine⟨fun _=>False,[.gp (nI ns)],fun r _=>∃ d,r=.fr d/\fJ 0 d,⟨.gp ?_ (ma ns),trivial⟩,fun _ z=>z.elim,KW,⟨ns,rfl,fun d hd=>⟨d,rfl,hd⟩⟩,?_⟩
 ·rcases hs with hs|hs
  ·exact .inl ⟨fun z=>z,hs⟩
  ·exact .inr hs
 ·rintro v H' _ _ ⟨d,rfl,hd⟩ kp ⟨dk,rfl,h0,_,hb,_⟩;exact q dk H' h0 (fun b o e _=>kp b o e (by simp[mU])) ⟨d,hd,hb.of rfl (Fr.less fun b z=>.inl z)⟩
theorem pV(h:jF K H dk n)(hn:n<2^30)(q:∀(l:Addr) (zs:List Nat) (H':Hp),H l=none->l≠dk->zs.length<=40->(∀ z∈zs,z<10^30)->KB [dk] H H'->jF K H' dk (n+100)->H' l=some (.lst (iV (zN zs)))->Q (.ref l) H'):spT K [true] ka [.ref dk] H Q E:=by
 have ld:=h.dW;obtain⟨d,hd,hb⟩:=h;refine⟨fun a=>a=dk,[d],fun x outs=>∃(zs:List Nat) (d':L2.T),x=.fr (.lst (nI (zN zs)))/\outs=[d']/\zs.length<=40/\(∀ z∈zs,z<10^30)/\fJ (n+100) d',⟨⟨dk,rfl,rfl,hb⟩,trivial⟩,fun b z=>by subst z;exact hb.dW,KC.mpr ⟨K4,KW⟩,⟨d,n,rfl,hd,hn,fun zs d' h1 h2 hd'=>⟨zs,d',rfl,rfl,h1,h2,hd'⟩⟩,?_⟩
 rintro v H' _ _ ⟨zs,d',rfl,rfl,h1,h2,hd'⟩ kp ⟨l,rfl,hl,hnl,hx,pr⟩;obtain⟨_,_,e,hb',_⟩:=Paired.aO pr;cases e;obtain⟨vs,el,rr⟩:=hx;have:=gb rr;subst this;exact q l zs H' hl hnl h1 h2 kp ⟨d',hd',hb'.of rfl (Fr.less fun b z=>.inr z)⟩ el
theorem yK{n:Nat}{xs:List L2.T}(h:∀ x∈xs,o_ n x x true):o_ (n+1) (.tup xs) (.tup xs) true:=by
 have:=o_.tup (n:=n) (xs:=xs) (ys:=xs) (fun _=>true) fun j x y e1 e2=>by
  rw[e1] at e2;cases e2;exact h x (KH e1)
 rw[iT rfl fun _ _=>rfl] at this;exact this
theorem zX(n:Nat)(i:Int):o_ n (.int i) (.int i) true:=by
 have h:=o_.flat (n:=n) (t:=.int i) (u:=.int i) rfl rfl;rw[show Y.BK (.int i) (.int i)=true from KQ i] at h;exact h
theorem wy(m:Nat)(zs:List Nat):Str.ofString "run "++Str.join " " ((m::zs).map ao)=qA m zs:=by
 refine iP ?_;unfold qA;rw[blank,dE,Kt,Kt,Kt];show ((Str.ofString "run ").cps++(Str.join ⟨#[32]⟩ (ao m::zs.map ao)).cps).toList=cp (Str.ofString "run")++32::jn 32 (cp (ao m)::(zs.map ao).map cp);rw[M6];have h:=dE 32 (ao m::zs.map ao);unfold cp at h ⊢;rw[h];rw[show (Str.ofString "run ").cps.toList=(Str.ofString "run").cps.toList++[32] by decide +kernel,LS]
 rfl
noncomputable def BX(K:Nv)(CD CK:Addr):Sp:=fun vs H Q _=>∃(dk dd k:Addr) (rs:List Row) (n:Nat),vs=[.ref dk,.ref dd]/\jF K H dk n/\n<2^29/\DX K CD CK H dd k (rs.map bW)/\(∀ r∈rs,r.Ok rs.length)/\rs.length<=60/\∀ H',KB [dk] H H'->jF K H' dk (n+110)->Q (.bl true) H'
theorem Ek(T:Txt K mg)(h_law_draw:k0z P w K mg base)(h_law_program_of:ai P w K mg base aN 10 "_law_program_of" ["desk"] (BR K CD CK))(h_law_numbers:ai P w K mg base aN 3 "_law_numbers" ["deck"] (spT K [true] ka))(hrun_rows:k1z P w K mg base)(h_law_spaced:ai P w K mg base aN 1 "_law_spaced" ["numbers"] (spT K [false] sj))(h_law_asked:ai P w K mg base aN 10 "_law_asked" ["desk","line","due"] (x9 K CD CK))(F:HasFn K mg "_law_right" cO ["deck","desk"]):ai P w K mg base aN 12 "_law_right" ["deck","desk"] (BX K CD CK):=by
 refine F.Ic bj (fun vs H Q E h=>?_) (fun f cdv A outer s H vs Q E hr h=>?_)
 ·obtain⟨dk,dd,k,rs,n,rfl,_⟩:=h;rfl
 ·obtain⟨dk,dd,k,rs,n,rfl,dH,hn,dX,aU,h60,q⟩:=h;have hu:=aS hr;have ok5:∀ r∈rs,r.Ok 100000:=fun r hr=>(aU r hr).mono (by lia)
  refine⟨_,(Z.ah (Z.set (i:=2) bj.nd rfl (by right) (Z.fn h_law_program_of (hr.mono (by decide)) rfl au (Z.cons (Z.v 1) Z.nil)))
   (Z.ah (Z.set (i:=3) bj.nd rfl (by right) (Z.fn h_law_numbers (hr.mono (by decide)) rfl au (Z.cons (Z.v 0) Z.nil)))
   (Z.ah (Z.set (i:=4) bj.nd rfl (by right) (Z.ix (Z.eS K rfl hu) (Z.lst (Z.cons (Z.fn h_law_draw (hr.mono (by decide)) rfl au (Z.cons (Z.v 0) (Z.cons Z.int Z.nil))) (Z.cons Z.int Z.nil))) (Z.ct jm rfl T.oV (by decide +kernel) (Z.cons (Z.cmp bH (Z.fn h_law_draw (hr.mono (by decide)) rfl au (Z.cons (Z.v 0) (Z.cons Z.int Z.nil))) Z.int) Z.nil))))
   (Z.ah (Z.asg (Z.fn hrun_rows (hr.mono (by decide)) rfl au (Z.cons (Z.v 2) (Z.cons (Z.ct (Z.ie K rfl) rfl T.dC (by decide +kernel) (Z.cons (Z.v 3) Z.nil)) (Z.cons (Z.v 4) Z.nil)))) (Z.xo (n:=4) K rfl rfl (Z.d6 (Z.bB (i:=5) bj.nd rfl (by right)) (Z.d6 (Z.bB (i:=6) bj.nd rfl (by right)) (Z.d6 (Z.bB (i:=7) bj.nd rfl (by right)) (Z.d6 (Z.bB (i:=8) bj.nd rfl (by right)) Z.mi))))))
   (Z.ah (Z.set (i:=9) bj.nd rfl (by right) (Z.op (Z.cf K rfl) Z.str (Z.fn h_law_spaced (hr.mono (by decide)) rfl au (Z.cons (Z.op (Z.cf K rfl) (Z.lst (Z.cons (Z.v 4) Z.nil)) (Z.v 3)) Z.nil))))
   (Z.ah (Z.set (i:=10) bj.nd rfl (by right) (Z.op (Z.cf K rfl) (Z.lst (Z.cons (Z.v 5) Z.nil)) (Z.comp (osc:=aa cO) (ON:=["deck","desk","program","given","most","how","told","turns","boxes","line","due"]) (own:=["number"]) (N:=["number","deck","desk","program","given","most","how","told","turns","boxes","line","due"]) ⟨rfl,by decide +kernel,rfl,by decide +kernel,by decide +kernel,by decide +kernel,by decide +kernel,by decide +kernel⟩ rfl rfl rfl (Z.any K rfl (Z.v 6)) (fun _ _ _ _=>(Z.bB (i:=0) (show List.Nodup (["number","deck","desk","program","given","most","how","told","turns","boxes","line","due"]:List Str) by decide +kernel) rfl (by right))) (fun _ _ _ _=>Z.nW) (fun _ _ _ _=>(Z.ct bZ rfl T.gU (by decide +kernel) (Z.cons (Z.v 0) Z.nil))))))
   (Z.az (Z.ret (Z.and (Z.fn h_law_asked (hr.mono (by decide)) rfl au (Z.cons (Z.v 1) (Z.cons (Z.v 9) (Z.cons (Z.v 10) Z.nil)))) (Z.and (Z.fn h_law_asked (hr.mono (by decide)) rfl au (Z.cons (Z.v 1) (Z.cons (Z.v 9) (Z.cons (Z.v 10) Z.nil)))) (Z.one (Z.cmp (Y.CB K rfl (CI hr)) (Z.fn h_law_program_of (hr.mono (by decide)) rfl au (Z.cons (Z.v 1) Z.nil)) (Z.v 2))))))))))))),?_⟩
  refine aI fun N hN=>?_;walk_at "rz";refine⟨dd,k,rs,rfl,dX,aU,h60,fun v H1 r1 k1=>?_⟩;rw[hN];clear hN N;obtain⟨pa,vs1,rfl,_,o1,rr1⟩:=Rep.tupI r1;have dH1:=dH.keep k1 (by simp) (by simp)
  have dX1:=dX.keep k1 (by simp)
  refine aI fun N hN=>?_;walk_at "rz";refine pV dH1 (by lia) fun gl zs H2 hgl gnd hzl hz k2 dH2 l2=>?_
  rw[hN];clear hN N;have ld1:∀ a∈[dk],∃ xs,H1 a=some (.lst xs):=fun a ha=>by rw[K9.mp ha];exact dH1.dW
  have dX2:=dX1.keep k2 ld1;refine aI fun N hN=>?_;walk_at "rz";refine eJ dH2 (by lia) (by decide) (by decide) fun m1 H3 m10 m11 k3 dH3=>?_
  refine⟨by decide,fun e0 he0=>?_⟩
  have u4:KB [] H3 (upd H3 e0 (.lst [.int m1,.int 400])):=KB.new he0;have s4:upd H3 e0 (.lst [.int m1,.int 400]) e0=some (.lst [.int m1,.int 400]):=ab;generalize upd H3 e0 (.lst [.int m1,.int 400])=H4 at *;have dH4:=dH3.keep u4 (by simp) (by simp)
  have ne0:e0≠dk:=fun z=>by
   obtain⟨xs,e⟩:=dH3.dW;rw[z,e] at he0;cases he0
  refine eJ dH4 (by lia) (by decide) (by decide) fun v5 H5 v50 v51 k5 dH5=>?_
  simp only[L2.Ap.Ar,L2.Ap.IK];obtain⟨mst,em,hmst⟩:∃ mst:Nat,c_ [V.int m1,V.int 400] (if decide (v5=0)=true then 1 else 0)=some (.int (mst:Nat))/\mst<=400:=by
   by_cases c:v5=0
   ·rw[Kh (Lj c)];exact⟨400,rfl,Kk _⟩
   ·rw[Kf (by simpa using c)];exact⟨m1.toNat,by rw[show ((m1.toNat:Nat):Int)=m1 by lia];rfl,by lia⟩
  simp only[L2.Ap.fe,bG (k5 _ _ s4 (by simpa using ne0)),em]
  rw[hN];clear hN N;have k15:KB [dk] H1 H5:=k2.trans (k3.trans (u4.all.trans k5));have nl:∀{a:Addr} {vs:List V},H1 a=some (.tup vs)->H5 a=some (.tup vs):=fun {a vs} e=>k15 _ _ e (fun z=>by
   obtain⟨xs,e'⟩:=dH1.dW;rw[K9.mp z,e'] at e;cases e)
  have r15:Rep K H5 (fun _=>False) (.ref pa) (.tup (pL rs)):=by
   rw[<- gm] at r1 ⊢;exact bw (fun a vs e=>⟨nl e,id⟩) r1
  have gl5:H5 gl=some (.lst (iV (zN zs))):=k5 _ _ (u4 _ _ (k3 _ _ l2 (by simpa using gnd)) (by simp)) (by simpa using gnd)
  have dX5:DX K CD CK H5 dd k (rs.map bW):=dX1.keep k15 ld1;clear em s4 ne0 he0 dH4 dH3 k2 k3 u4 k5 dH2 dX2;refine aI fun N hN=>?_;walk_at "rz";simp only[bG gl5];intro tp htp;have u6:KB [] H5 (upd H5 tp (.tup (iV (zN zs)))):=KB.new htp;have t6:upd H5 tp (.tup (iV (zN zs))) tp=some (.tup (iV (zN zs))):=ab;generalize upd H5 tp (.tup (iV (zN zs)))=H6 at *;have r16:Rep K H6 (fun _=>False) (.ref pa) (.tup (pL rs)):=by
   rw[<- gm] at r15 ⊢;exact bw (fun a vs e=>⟨u6 _ _ e (by simp),id⟩) r15
  have zl:(zN zs).length<=1000:=by unfold zN;rw[Kc];lia
  refine fL (args:=[.tup (pL rs),.tup (nI (zN zs)),.int (mst:Nat)]) (t:=hJ rs (runs rs mst (jb rs (zN zs)))) ⟨r16,.tup id t6 (dN _),.int _,trivial⟩ rfl ⟨rs,zN zs,mst,rfl,by lia,ok5,zl,by lia,rfl⟩ fun v7 H7 k7 r7=>?_
  generalize hc:runs rs mst (jb rs (zN zs))=c at *;have sm:=xB ok5 mst (zN zs);rw[hc] at sm;obtain⟨oa,vs7,rfl,_,o7,rr⟩:=Rep.tupI r7;obtain⟨x0,ws,rfl,h0,rr⟩:=rr.aO;obtain⟨x1,ws,rfl,h1,rr⟩:=rr.aO;obtain⟨x2,ws,rfl,h2,rr⟩:=rr.aO;obtain⟨x3,ws,rfl,h3,rr⟩:=rr.aO;obtain rfl:=rr.dD;obtain rfl:=Rep.dm h0;obtain⟨ta,vs8,rfl,_,o8,rr2⟩:=Rep.tupI h1;have e2:=gb rr2;subst e2;refine⟨oa,_,rfl,bO.of o7,rfl,?_⟩;walk_at "rz";rw[hN];clear hN N;have u57:KB [] H5 H7:=u6.trans k7;have gl7:=u57 _ _ gl5 (by simp)
  refine aI fun N hN=>?_;walk_at "rz";refine⟨by decide,fun e1 he1=>?_⟩
  have u8:KB [] H7 (upd H7 e1 (.lst [.int (mst:Nat)])):=KB.new he1;have s8:upd H7 e1 (.lst [.int (mst:Nat)]) e1=some (.lst [.int (mst:Nat)]):=ab;generalize upd H7 e1 (.lst [.int (mst:Nat)])=H8 at *;simp only[s8,u8 _ _ gl7 (by simp)]
  refine⟨Kj (show _<=100 by unfold iV zN;rw[Kc,Kc];simp;lia) (by decide),fun e2 he2=>?_⟩
  have u9:KB [] H8 (upd H8 e2 (.lst ([.int (mst:Nat)]++iV (zN zs)))):=KB.new he2;have s9:upd H8 e2 (.lst ([.int (mst:Nat)]++iV (zN zs))) e2=some (.lst (iV (zN (mst::zs)))):=ab;generalize upd H8 e2 (.lst ([.int (mst:Nat)]++iV (zN zs)))=H9 at *;have hz':∀ z∈mst::zs,z<10^30:=fun z hz'=>by
   rcases Kn.mp hz' with rfl|h
   ·exact KP hmst (by decide)
   ·exact hz z h
  refine fL (args:=[.lst (nI (zN (mst::zs)))]) (t:=.str (Str.join " " ((mst::zs).map ao))) ⟨.lst id s9 (dN _),trivial⟩ rfl ⟨mst::zs,rfl,by simp;lia,hz',rfl⟩ fun v10 H10 k10 r10=>?_
  obtain rfl:=Rep.dm r10;have jl:(Str.join " " ((mst::zs).map ao)).length<=5000:=by
   have h1:=fS 32 ((mst::zs).map ao);have h2:=rB hz';rw[Kc] at h1;rw[blank];rw[Ks] at h1 h2;lia
  simp only[L2.Ap.kQ];refine⟨Kj (show _<=6000 by rw[show (Str.ofString "run ").length=4 by decide +kernel];lia) (by decide),?_⟩
  rw[wy];rw[hN];clear hN N;have u710:KB [] H7 H10:=u8.trans (u9.trans k10);have tl:c.st.told.length<=400:=by
   have:=iO (rows:=rs) mst (jb rs (zN zs));rw[hc] at this;have e:(jb rs (zN zs)).st.told.length=0:=rfl;lia
  have o10:=u710 _ _ o8 (by simp)
  refine aI fun N hN=>?_;walk_at "rz";refine⟨by decide,fun h1 hh1=>?_⟩
  have u11:KB [] H10 (upd H10 h1 (.lst [.str (if c.at_<rs.length then "more" else "halt")])):=KB.new hh1
  have s11:upd H10 h1 (.lst [.str (if c.at_<rs.length then "more" else "halt")]) h1=some (.lst [.str (if c.at_<rs.length then "more" else "halt")]):=ab
  generalize upd H10 h1 (.lst [.str (if c.at_<rs.length then "more" else "halt")])=H11 at *
  have o11:=u11 _ _ o10 (by simp)
  simp only[cz o11];refine mr o11 tl sm fun D' hD=>?_;have u12:KB [] H11 (upd H11 D' (.lst (sV (c.st.told.map fun x=>Str.ofString (toString x))))):=KB.new hD;have s12:upd H11 D' (.lst (sV (c.st.told.map fun x=>Str.ofString (toString x)))) D'=some (.lst (sV (c.st.told.map fun x=>Str.ofString (toString x)))):=ab;generalize upd H11 D' (.lst (sV (c.st.told.map fun x=>Str.ofString (toString x))))=H12 at *;simp only[L2.Ap.addRef,s12,u12 _ _ s11 (by simp)]
  refine⟨Kj (show _<=1000 by unfold sV;rw[Kc,Kc];simp;lia) (by decide),fun du hdu=>?_⟩
  have u13:KB [] H12 (upd H12 du (.lst ([.str (if c.at_<rs.length then "more" else "halt")]++sV (c.st.told.map fun x=>Str.ofString (toString x))))):=KB.new hdu
  have s13:upd H12 du (.lst ([.str (if c.at_<rs.length then "more" else "halt")]++sV (c.st.told.map fun x=>Str.ofString (toString x)))) du=some (.lst (sV (tG rs (runs rs mst (jb rs (zN zs)))))):=by rw[hc];exact ab
  generalize upd H12 du (.lst ([.str (if c.at_<rs.length then "more" else "halt")]++sV (c.st.told.map fun x=>Str.ofString (toString x))))=H13 at *
  rw[hN];clear hN N;have u513:KB [] H5 H13:=u57.trans (u710.trans (u11.trans (u12.trans u13)));have dX13:=dX5.keep u513 (by simp)
  have rl:(qA mst zs).length<=100000:=by
   rw[<- wy];show ((Str.ofString "run ").cps++(Str.join " " ((mst::zs).map ao)).cps).size<=100000;rw[MI];have e4:(Str.ofString "run ").cps.size=4:=by decide +kernel
   have jl':(Str.join " " ((mst::zs).map ao)).cps.size<=5000:=jl;lia
  walk_at "rz";refine⟨dd,k,du,rs,mst,zs,rfl,dX13,ok5,h60,rl,hmst,by lia,hz,s13,fun H14 k14=>⟨true,rfl,?_⟩⟩
  rw[Kh rfl];refine⟨dd,k,du,rs,mst,zs,rfl,dX13.keep k14 (by simp),ok5,h60,rl,hmst,by lia,hz,k14 _ _ s13 (by simp),fun H15 k15'=>⟨true,rfl,?_⟩⟩
  rw[Kh rfl];have u515:KB [] H5 H15:=u513.trans (k14.trans k15');refine⟨dd,k,rs,rfl,dX5.keep u515 (by simp),aU,h60,fun v16 H16 r16' k16=>?_⟩
  obtain⟨qa,vs16,rfl,_,o16,rr16⟩:=Rep.tupI r16';have u516:=u515.trans k16;have rp:Rep K H16 (fun _=>False) (.ref pa) (.tup (pL rs)):=by
   rw[<- gm] at r15 ⊢;exact bw (fun a vs e=>⟨u516 _ _ e (by simp),id⟩) r15
  obtain⟨vs17,_,o17,rr17⟩:=Rep.nZ rp;refine .inr ⟨fun _=>False,qa,pa,vs16,vs17,pL rs,pL rs,fun _=>true,rfl,rfl,.inl ⟨bO.of o16,bO.of o17⟩,rr16,rr17,fun j x y ex ey=>?_,?_⟩
  ·rw[ex] at ey;cases ey;obtain⟨r,_,rfl⟩:=K6.mp (KH ex);exact yK fun x hx=>by
    obtain⟨y,_,rfl⟩:=K6.mp hx
    cases y with
    |s z=>have h:=o_.flat (n:=3) (t:=.str z) (u:=.str z) rfl rfl;rw[show Y.BK (.str z) (.str z)=true from KQ z] at h;exact h
    |n m=>exact zX 3 _
  ·have ea:(if false=true then !kd (pL rs).length (pL rs).length (fun _=>true) else kd (pL rs).length (pL rs).length fun _=>true)=true:=by
    rw[Kf Ki];unfold kd;simp
   rw[ea];refine q H16 (k1.all.trans (k15.trans u516.all)) ?_;exact (dH5.keep u516 (by simp) (by simp)).mono (by lia)
noncomputable def Bq(p:Nat):Row->Row
 |.jump g=>.jump (if g<p then g else g+1)
 |.zero b g=>.zero b (if g<p then g else g+1)
 |r=>r
noncomputable def HK(p:Nat):Row->Row
 |.jump g=>.jump (if g<p+1 then g else g-1)
 |.zero b g=>.zero b (if g<p+1 then g else g-1)
 |r=>r
theorem C9(p:Nat)(r:Row):bW (Bq p r)=mv (p:Nat) 1 (bW r):=by
 cases r with
 |jump g =>
  show aV.jump _=(if ((g:Nat):Int)<(p:Nat) then _ else _)
  by_cases c:g<p
  ·rw[Kh c,Kh (by lia)];rfl
  ·rw[Kf c,Kf (by lia)];rfl
 |zero b g =>
  show aV.zero b _=(if ((g:Nat):Int)<(p:Nat) then _ else _)
  by_cases c:g<p
  ·rw[Kh c,Kh (by lia)];rfl
  ·rw[Kf c,Kf (by lia)];rfl
 |put b n=>rfl
 |two u a b=>rfl
 |one u b=>rfl
 |halt=>rfl
theorem D5(p:Nat)(r:Row):bW (HK p r)=mv ((p:Int)+1) (-1) (bW r):=by
 cases r with
 |jump g =>
  show aV.jump _=(if ((g:Nat):Int)<(p:Int)+1 then _ else _)
  by_cases c:g<p+1
  ·rw[Kh c,Kh (by lia)];rfl
  ·rw[Kf c,Kf (by lia)];show aV.jump _=aV.jump _;congr 1;lia
 |zero b g =>
  show aV.zero b _=(if ((g:Nat):Int)<(p:Int)+1 then _ else _)
  by_cases c:g<p+1
  ·rw[Kh c,Kh (by lia)];rfl
  ·rw[Kf c,Kf (by lia)];show aV.zero b _=aV.zero b _;congr 1;lia
 |put b n=>rfl
 |two u a b=>rfl
 |one u b=>rfl
 |halt=>rfl
theorem CP{rs:List Row}{p:Nat}{r:Row}(hp:p<=rs.length)(aU:∀ x∈rs,x.Ok rs.length)(hr:r.Ok (rs.length+1)):∃ rs':List Row,rs'.map bW=pE (rs.map bW) p (bW r)/\rs'.length=rs.length+1/\∀ x∈rs',x.Ok rs'.length:=by
 have e:(rs.map (Bq p)).map bW=(rs.map bW).map (mv (p:Nat) 1):=by
  rw[Lr,Lr];exact Lv fun x _=>C9 p x
 have hl:((rs.map (Bq p)).take p++[r]++(rs.map (Bq p)).drop p).length=rs.length+1:=by simp;lia
 refine⟨(rs.map (Bq p)).take p++[r]++(rs.map (Bq p)).drop p,?_,hl,fun x hx=>?_⟩
 ·unfold pE;rw[<- e];simp only[Kx,Ml,Mm,Kt,LW]
 ·rw[hl];have mvd:∀ y∈rs.map (Bq p),y.Ok (rs.length+1):=fun y hy=>by
   obtain⟨z,hz,rfl⟩:=K6.mp hy;have:=aU z hz
   cases z<;>simp only[Bq,Row.Ok] at this ⊢<;>first|exact this|lia | (split<;>lia)|trivial
  rcases Ln.mp hx with hx|hx
  ·rcases Ln.mp hx with hx|hx
   ·exact mvd x (List.mem_of_mem_take hx)
   ·rw[K9.mp hx];exact hr
  ·exact mvd x (Mx hx)
theorem Ao{rs:List Row}{p:Nat}(hp:p<rs.length)(aU:∀ x∈rs,x.Ok rs.length):∃ rs':List Row,rs'.map bW=j5 (rs.map bW) p/\rs'.length=rs.length-1/\∀ x∈rs',x.Ok rs'.length:=by
 have hl:((rs.take p++rs.drop (p+1)).map (HK p)).length=rs.length-1:=by simp;lia
 refine⟨(rs.take p++rs.drop (p+1)).map (HK p),?_,hl,fun x hx=>?_⟩
 ·unfold j5;rw[Lr,<- Ml,<- Mm,<- Kx,Lr];exact Lv fun x _=>D5 p x
 ·rw[hl];obtain⟨z,hz,rfl⟩:=K6.mp hx;have hz':z∈rs:=by
   rcases Ln.mp hz with h|h
   ·exact List.mem_of_mem_take h
   ·exact Mx h
  have:=aU z hz'
  cases z<;>simp only[HK,Row.Ok] at this ⊢<;>first|exact this|lia | (split<;>lia)|trivial
theorem Cf(p:Nat)(r:Row):Str.ofString "put "++ao p++Str.ofString " "++r.line=putL p r:=by
 refine iP ?_;unfold putL Row.line;rw[blank,dE,Kt,Kt];have h:=dE 32 (r.ps.map cX.x);obtain⟨a,as,ea⟩:∃ a as,(r.ps.map cX.x).map cp=a::as:=by
  cases e:(r.ps.map cX.x).map cp with
  |nil=>have h1:=K1 List.length e;rw[Kc,Kc,Ld] at h1;have h2:=vv r;lia
  |cons a as=>exact⟨a,as,rfl⟩
 rw[ea] at h ⊢;show (((Str.ofString "put ").cps++(ao p).cps)++#[32]++(Str.join ⟨#[32]⟩ (r.ps.map cX.x)).cps).toList=cp (Str.ofString "put")++32::(cp (ao p)++32::jn 32 (a::as));rw[<- h];simp only[M6];rw[show (Str.ofString "put ").cps.toList=(Str.ofString "put").cps.toList++[32] by decide +kernel]
 unfold cp;simp
theorem zW(p:Nat):Str.ofString "take "++ao p=p7 p:=by
 refine iP ?_;unfold p7;rw[blank,dE];show ((Str.ofString "take ").cps++(ao p).cps).toList=cp (Str.ofString "take")++32::cp (ao p);rw[M6,show (Str.ofString "take ").cps.toList=(Str.ofString "take").cps.toList++[32] by decide +kernel]
 unfold cp;simp
theorem CF{f_i:Addr}(T:Txt K mg)(F:e7 K "law" "law" gR f fd)(hC_Desk:mg "Desk"=some (.ref CD))(cM_Desk:fu K CD)(mm___init__:Mk K CD f_i)(FO___init__:a_ P w K mg base aN 3 f_i d_i ["self"] (rL K CD CK))(bm___init__:Binds K d_i ["self"] [])(mm_ask:Meth K CD "ask" f_a)(FO_ask:a_ P w K mg base aN 9 f_a d_a ["self","line"] (nP K CD CK))(bm_ask:Binds K d_a ["self","line"] [])
  (h_law_deck:ai P w K mg base aN 1 "_law_deck" ["script"] (spT K [false] wD)) (h_law_draw:k0z P w K mg base) (h_law_row:k13z P w K mg base) (h_law_line:ai P w K mg base aN 1 "_law_line" ["row"] (spT K [false] jr)) (h_law_right:ai P w K mg base aN 12 "_law_right" ["deck","desk"] (BX K CD CK)):a_ P w K mg base aN 14 f fd ["script"] (nS K):=by
 refine zP F fC (fun vs H Q E h=>?_) (fun cdv A outer s H vs Q E hr h=>?_)
 ·obtain⟨a,ns,rfl,_⟩:=h;rfl
 ·obtain⟨a,ns,rfl,hS,hl,q⟩:=h;have hu:=aS hr;refine⟨_,(Z.ah (Z.set (i:=1) fC.nd rfl (by right) (Z.fn h_law_deck (hr.mono (by decide)) rfl au (Z.cons (Z.v 0) Z.nil)))
   (Z.ah (Z.qD LQ rfl (Z.uY rfl T.jJ (Z.cons Z.int Z.nil)) (Z.bB (i:=2) fC.nd rfl (by right)) (Z.ah (Z.set (i:=3) fC.nd rfl (by right) (Z.FW K rfl mm___init__ FO___init__ (hr.mono (by decide)) rfl hC_Desk bm___init__ au))
   (Z.ah (Z.set (i:=4) fC.nd rfl (by right) (Z.fn h_law_draw (hr.mono (by decide)) rfl au (Z.cons (Z.v 1) (Z.cons (Z.ix (Z.eS K rfl hu) (Z.lst (Z.consts rfl)) (Z.fn h_law_draw (hr.mono (by decide)) rfl au (Z.cons (Z.v 1) (Z.cons Z.int Z.nil)))) Z.nil))))
   (Z.ah (Z.qD LQ rfl (Z.uY rfl T.jJ (Z.cons (Z.v 4) Z.nil)) (Z.bB (i:=5) fC.nd rfl (by right)) (Z.az (Z.expr (Z.g_ K rfl (Z.v 3) cM_Desk mm_ask FO_ask (hr.mono (by decide)) bm_ask au (Z.cons (Z.op (Z.cf K rfl) (Z.op (Z.cf K rfl) (Z.op (Z.cf K rfl) Z.str (Z.ct bZ rfl T.gU (by decide +kernel) (Z.cons (Z.fn h_law_draw (hr.mono (by decide)) rfl au (Z.cons (Z.v 1) (Z.cons (Z.op (Z.cf K rfl) (Z.v 5) Z.int) Z.nil))) Z.nil))) Z.str) (Z.fn h_law_line (hr.mono (by decide)) rfl au (Z.cons (Z.fn h_law_row (hr.mono (by decide)) rfl au (Z.cons (Z.v 1) (Z.cons (Z.op (Z.cf K rfl) (Z.v 5) Z.int) Z.nil))) Z.nil))) Z.nil)))))
   (Z.az (Z.qD LQ rfl (Z.uY rfl T.jJ (Z.cons (Z.op (Z.cf K rfl) Z.int (Z.cb (vd rfl) rfl T.Fu (by decide +kernel) (Z.cons (Z.cb (Z.Ci K rfl) rfl T.dq (by decide +kernel) (Z.cons (Z.v 0) Z.nil)) (Z.cons Z.int Z.nil)))) Z.nil)) (Z.bB (i:=6) fC.nd rfl (by right)) (Z.ah (Z.dJ (Z.qO (Z.wU K rfl (Z.fn h_law_right (hr.mono (by decide)) rfl au (Z.cons (Z.v 1) (Z.cons (Z.v 3) Z.nil))))) (Z.az (Z.ret Z.bl)) Z.bL)
   (Z.az (Z.dJ (Z.tw (Z.wC (Z.aZ bH (Z.fn h_law_draw (hr.mono (by decide)) rfl au (Z.cons (Z.v 1) (Z.cons Z.int Z.nil))) Z.int) (Z.n_ (Z.aZ rK (Z.v 4) Z.int)))) (Z.ah (Z.set (i:=4) fC.nd rfl (by right) (Z.op kC (Z.v 4) Z.int))
   (Z.az (Z.expr (Z.g_ K rfl (Z.v 3) cM_Desk mm_ask FO_ask (hr.mono (by decide)) bm_ask au (Z.cons (Z.op (Z.cf K rfl) Z.str (Z.ct bZ rfl T.gU (by decide +kernel) (Z.cons (Z.fn h_law_draw (hr.mono (by decide)) rfl au (Z.cons (Z.v 1) (Z.cons (Z.op (Z.cf K rfl) (Z.v 4) Z.int) Z.nil))) Z.nil))) Z.nil))))) (Z.az (Z.dJ (Z.aZ bH (Z.fn h_law_draw (hr.mono (by decide)) rfl au (Z.cons (Z.v 1) (Z.cons Z.int Z.nil))) Z.int) (Z.ah (Z.set (i:=4) fC.nd rfl (by right) (Z.op (Z.cf K rfl) (Z.v 4) Z.int))
   (Z.az (Z.expr (Z.g_ K rfl (Z.v 3) cM_Desk mm_ask FO_ask (hr.mono (by decide)) bm_ask au (Z.cons (Z.op (Z.cf K rfl) (Z.op (Z.cf K rfl) (Z.op (Z.cf K rfl) Z.str (Z.ct bZ rfl T.gU (by decide +kernel) (Z.cons (Z.fn h_law_draw (hr.mono (by decide)) rfl au (Z.cons (Z.v 1) (Z.cons (Z.v 4) Z.nil))) Z.nil))) Z.str) (Z.fn h_law_line (hr.mono (by decide)) rfl au (Z.cons (Z.fn h_law_row (hr.mono (by decide)) rfl au (Z.cons (Z.v 1) (Z.cons (Z.v 4) Z.nil))) Z.nil))) Z.nil))))) Z.bL)))))))))))
   (Z.az (Z.ret Z.bl)))),?_⟩
  refine aI fun N hN=>?_;walk_at "rz";refine zr hS fun dk H1 dk0 k1 d1=>?_;rw[hN];clear hN N;refine aI fun N hN=>?_;walk_at "rz";refine⟨by decide,by decide,?_⟩
  refine gY (n:=2) (fun i σ G=>∃(o2 o3 o4 o5 o6:Option V),KB [] H G/\jF K G dk (5000*i)/\σ=[some (V.ref a),some (V.ref dk),o2,o3,o4,o5,o6]) ⟨none,none,none,none,none,k1,d1,rfl⟩ ?_ ?_
  rotate_left
  ·rintro σ G ⟨o2,o3,o4,o5,o6,_,_,rfl⟩;show N _ _;rw[hN];clear hN N;walk_at "rz";exact q _
  rintro i σ G1 hi ⟨o2,o3,o4,o5,o6,old1,dH1,rfl⟩;unfold bJ;refine aI fun M hM=>?_;walk_at "rz";intro dd dxd hdd hdx hne;refine⟨dd,dxd,rfl,ab,fun G2 k hk dX2 kb2=>⟨rfl,?_⟩⟩;rw[hM];clear hM M;have k12:KB [] G1 G2:=fun c o e _=>kb2 c o (by rw[ae (af e hdd),ae (af e hdx)];exact e) (by simpa using af e hdd)
  have k0:H k=none:=by
   have n1:k≠dd:=fun z=>by rw[z,ab] at hk;cases hk
   have n2:k≠dxd:=fun z=>by rw[ae n1,z,ab] at hk;cases hk
   rw[ae n1,ae n2] at hk;exact old1.free (by simp) hk
  have old2:=old1.trans k12;have dH2:=dH1.keep k12 (by simp) (by simp)
  have od:∀{G G':Hp},KB [] H G->KB [dk] G G'->KB [] H G':=fun o1 o2 c o e _=>o2 _ _ (o1 _ _ e (by simp)) (by simpa using af e dk0)
  have ok':∀{G G':Hp},KB [] H G->KB [k] G G'->KB [] H G':=fun o1 o2 c o e _=>o2 _ _ (o1 _ _ e (by simp)) (by simpa using af e k0)
  have xd:∀{G G':Hp} {rows:List aV} {n:Nat},DX K CD CK G dd k rows->jF K G dk n->KB [dk] G G'->DX K CD CK G' dd k rows:=fun x d o=>x.keep o fun a ha=>by rw[K9.mp ha];exact d.dW
  have dx':∀{G G':Hp} {rows:List aV} {n:Nat},DX K CD CK G dd k rows->jF K G dk n->KB [k] G G'->jF K G' dk n:=fun x d o=>d.keep o (fun z=>by
   obtain⟨_,_,_,_,D⟩:=x;obtain⟨xs,e⟩:=d.dW;rw[K9.mp z,D.kp] at e;cases e) fun a ha P e=>by
   obtain⟨_,_,_,_,D⟩:=x;rw[K9.mp ha,D.kp] at e;cases e
  clear dH1 old1 k12 hk kb2 hdd hdx hne;refine aI fun M hM=>?_;walk_at "rz";refine⟨by decide,fun e0 he0=>?_⟩
  have u3:KB [] G2 (upd G2 e0 (.lst [.int 9,.int 9,.int 9,.int 41])):=KB.new he0;have s3:upd G2 e0 (.lst [.int 9,.int 9,.int 9,.int 41]) e0=some (.lst [.int 9,.int 9,.int 9,.int 41]):=ab;have n3:e0≠dk:=fun z=>by
   obtain⟨xs,e⟩:=dH2.dW;rw[z,e] at he0;cases he0
  generalize upd G2 e0 (.lst [.int 9,.int 9,.int 9,.int 41])=G3 at *;have dH3:=dH2.keep u3 (by simp) (by simp)
  refine eJ dH3 (by lia) (by decide) (by decide) fun v4 G4 v40 v41 k4 dH4=>?_
  obtain⟨mm,em,mm0,mm1⟩:∃ mm:Int,c_ [V.int 9,V.int 9,V.int 9,V.int 41] v4=some (.int mm)/\0<mm/\mm<=41:=by
   have:v4=0\/v4=1\/v4=2\/v4=3:=by lia
   rcases this with rfl|rfl|rfl|rfl
   ·exact⟨9,rfl,by decide,by decide⟩
   ·exact⟨9,rfl,by decide,by decide⟩
   ·exact⟨9,rfl,by decide,by decide⟩
   ·exact⟨41,rfl,by decide,by decide⟩
  simp only[L2.Ap.fe,bG (k4 _ _ s3 (by simpa using n3)),em]
  refine eJ dH4 (by lia) mm0 (by lia) fun many G5 many0 many1 k5 dH5=>?_
  obtain⟨m,rfl⟩:∃ m:Nat,many=m:=⟨many.toNat,by lia⟩
  have hm40:m<=40:=by lia
  have old5:KB [] H G5:=od (od (old2.trans u3) k4) k5;have dX5:DX K CD CK G5 dd k ([]:List aV):=xd (xd (dX2.keep u3 (by simp)) dH3 k4) dH4 k5
  clear dH2 dH3 dH4 k4 k5 u3 s3 n3 he0 em mm0 mm1 many0 many1 v40 v41 old2 dX2;rw[hM];clear hM M;refine aI fun M hM=>?_;walk_at "rz";refine⟨by lia,by lia,?_⟩
  rw[Lc];have putG:∀{G:Hp} {rs:List Row} {n:Nat} {L:Int} {R:Hp->Prop},L=(rs.length:Int)+1->rs.length<60->n<2^29->(∀ r∈rs,r.Ok rs.length)->DX K CD CK G dd k (rs.map bW)->KB [] H G->jF K G dk n->(∀(G':Hp) (rs':List Row),rs'.length=rs.length+1->(∀ r∈rs',r.Ok rs'.length)->DX K CD CK G' dd k (rs'.map bW)->KB [] H G'->jF K G' dk (n+10)->R G')->L2.spT K [true,false] jv [.ref dk,.int L] G (fun x H1=>yd [x] H1 fun y H2=>iA K (.str (Str.ofString "put ")) y H2 fun x H1=>iA K x (.str (Str.ofString " ")) H1 fun x H1=>L2.spT K [true,false] yY [.ref dk,.int L] H1 (fun x_1 H1=>L2.spT K [false] jr [x_1] H1 (fun y H2=>iA K x y H2 fun x H1=>nP K CD CK [.ref dd,x] H1 (fun _ H1=>R H1) E0) E0) E0) E0:=by
   intro G rs n L R hL h60 hn hro dX old dH hR;refine eJ dH (by lia) (by lia) (by lia) fun v G' v0 v1 k' dH'=>?_
   obtain⟨p,rfl⟩:∃ p:Nat,v=p:=⟨v.toNat,by lia⟩
   simp only[L2.Ap.dm];refine⟨dM (by lia),?_⟩
   have np:=eB (show p<=100000 by lia)
   have e4:(Str.ofString "put ").length=4/\(Str.ofString " ").length=1:=by decide +kernel
   show iA K (.str (Str.ofString "put ")) (.str (ao p)) G' _;simp only[L2.Ap.kQ];have sl:∀ x y:Str,(x++y).length=x.length+y.length:=fun x y=>MI ..;refine⟨Kj (show _<=100 by lia) (by decide),Kj (show _<=100 by rw[sl];lia) (by decide),?_⟩
   subst hL;rw[show ((rs.length:Nat):Int)+1=((rs.length+1:Nat):Int) from rfl];refine Ds dH' (by lia) (by lia) fun r vrow G'' hr k'' dH'' rr=>?_
   rw[<- kJ] at rr;have r5:r.Ok 100000:=hr.mono (by lia)
   refine fL (args:=[r.t]) (t:=.str r.line) ⟨rr,trivial⟩ rfl ⟨r,rfl,r5,rfl⟩ fun vl G3 k3 r3=>?_;obtain rfl:=Rep.dm r3;simp only[L2.Ap.kQ];have ll:=lq r5;refine⟨Kj (show _<=100 by rw[sl,sl];lia) (by decide),?_⟩
   rw[Cf];have dX3:DX K CD CK G3 dd k (rs.map bW):=(xd (xd dX dH k') dH' k'').keep k3 (by simp)
   have old3:KB [] H G3:=(od (od old k') k'').trans k3;have dH3:=dH''.keep k3 (by simp) (by simp)
   refine⟨dd,k,rs,_,rfl,dX3,fun x hx=>(hro x hx).mono (by lia),by lia,.inr (.inl ⟨p,r,rfl,by lia,h60,hr,fun l G4 hl l4 dX4 k4=>?_⟩)⟩
   obtain⟨rs',e1,e2,e3⟩:=CP (rs:=rs) (p:=p) (r:=r) (by lia) hro hr
   rw[<- e1] at dX4;exact hR G4 rs' e2 e3 dX4 (ok' old3 k4) ((dx' dX3 dH3 k4).mono (by lia))
  refine gY (fun j σ G=>∃(rs:List Row) (o5:Option V),rs.length=j/\(∀ r∈rs,r.Ok rs.length)/\DX K CD CK G dd k (rs.map bW)/\KB [] H G/\jF K G dk (5000*i+10+10*j)/\σ=[some (V.ref a),some (V.ref dk),some (V.int (0+(i:Nat))),some (V.ref dd),some (V.int (m:Nat)),o5,o6]) ⟨[],o5,rfl,(fun r h=>(nomatch h)),dX5,old5,dH5.mono (by lia),rfl⟩ ?_ ?_
  ·rintro j σ G6 hj ⟨rs,o5,hrl,hro,dX6,old6,dH6,rfl⟩;walk_at "rz";obtain⟨dx6,dxk6,b6,vr6,D6⟩:=id dX6;refine⟨dd,dx6,_,rfl,D6.d,vq (by decide +kernel),?_⟩
   refine putG (rs:=rs) (by lia) (by lia) (by lia) hro dX6 old6 dH6 fun G' rs' e2 e3 dX' old' dH'=>⟨rs',_,by lia,e3,dX',old',dH'.mono (by lia),rfl⟩
  rintro σ G6 ⟨rs,o5,hrl,hro,dX6,old6,dH6,rfl⟩;show M _ _;rw[hM];clear hM M;walk_at "rz";refine⟨_,ns.length,rfl,?_,?_⟩
  ·exact .inl ⟨_,old6.Ik (by simp) hS,by rw[Kc]⟩
  obtain⟨t,et,ht⟩:∃ t:Nat,(3+if (8:Int)<(ns.length:Nat) then 8 else ((ns.length:Nat):Int))=(t:Nat)/\t<=11:=by
   by_cases cl:(8:Int)<(ns.length:Nat)
   ·rw[Kh cl];exact⟨11,rfl,Kk _⟩
   ·rw[Kf cl];exact⟨3+ns.length,by lia,by lia⟩
  rw[et];refine⟨by lia,by lia,?_⟩
  rw[Lc];refine gY (fun j σ G=>∃(rs:List Row) (o5 o6:Option V),rs.length<=40+j/\(∀ r∈rs,r.Ok rs.length)/\DX K CD CK G dd k (rs.map bW)/\KB [] H G/\jF K G dk (5000*i+500+200*j)/\σ=[some (V.ref a),some (V.ref dk),some (V.int (0+(i:Nat))),some (V.ref dd),some (V.int (rs.length:Nat)),o5,o6]) ⟨rs,o5,o6,by lia,hro,dX6,old6,dH6.mono (by lia),by rw[hrl]⟩ ?_ ?_
  ·clear et dX6 old6 dH6 hro hrl rs o5;rintro j σ G7 hj ⟨rs,o5,o6,hrl,hro,dX7,old7,dH7,rfl⟩;refine aI fun M hM=>?_;walk_at "rz";refine⟨dk,dd,k,rs,_,rfl,dH7,by lia,dX7,hro,by lia,fun G8 k8 dH8=>⟨true,rfl,?_⟩⟩
   rw[Kf (by decide),hM];clear hM M
   have dX8:=xd dX7 dH7 k8;have old8:=od old7 k8;walk_at "rz";refine eJ dH8 (by lia) (by decide) (by decide) fun v G9 v0 v1 k9 dH9=>?_
   have dX9:=xd dX8 dH8 k9;have old9:=od old8 k9;obtain⟨dx9,dxk9,b9,vr9,D9⟩:=id dX9;simp only[L2.Ap.Ar];refine⟨_,rfl,?_⟩;have key:∀{A B:Prop},(0<(rs.length:Int)->A)->B->(if decide (v=0)=true then (if 0<(rs.length:Int) then A else B) else B):=fun {A B} h1 h2=>by
    by_cases cv:decide (v=0)=true
    ·rw[Kh cv];by_cases cl:0<(rs.length:Int)
     ·rw[Kh cl];exact h1 cl
     ·rw[Kf cl];exact h2
    ·rw[Kf cv];exact h2
   refine key (fun cl=>?_) ?_
   ·refine⟨dd,dx9,_,rfl,D9.d,vq (by decide +kernel),?_⟩
    refine eJ dH9 (by lia) (by lia) (by lia) fun v2 G10 v20 v21 k10 dH10=>?_
    obtain⟨p,rfl⟩:∃ p:Nat,v2=p:=⟨v2.toNat,by lia⟩
    simp only[L2.Ap.dm];refine⟨dM (by lia),?_⟩
    have np:=eB (show p<=100000 by lia)
    have e4:(Str.ofString "take ").length=5:=by decide +kernel
    show iA K (.str (Str.ofString "take ")) (.str (ao p)) G10 _;simp only[L2.Ap.kQ];refine⟨Kj (show _<=100 by lia) (by decide),?_⟩
    rw[zW];have dX10:=xd dX9 dH9 k10;have old10:=od old9 k10;refine⟨dd,k,rs,_,rfl,dX10,fun x hx=>(hro x hx).mono (by lia),by lia,.inr (.inr (.inl ⟨p,rfl,by lia,fun l G11 hl l11 dX11 k11=>?_⟩))⟩
    obtain⟨rs',e1,e2,e3⟩:=Ao (rs:=rs) (p:=p) (by lia) hro
    rw[<- e1] at dX11;exact⟨rs',_,_,by lia,e3,dX11,ok' old10 k11,(dx' dX10 dH10 k11).mono (by lia),by lia,rfl,rfl⟩
   ·refine eJ dH9 (by lia) (by decide) (by decide) fun v2 G10 v20 v21 k10 dH10=>?_
    have dX10:=xd dX9 dH9 k10;have old10:=od old9 k10;simp only[L2.Ap.Ar];refine⟨_,rfl,?_⟩;by_cases c2:v2=0
    ·rw[Kh (Lj c2)];obtain⟨dx10,dxk10,b10,vr10,D10⟩:=id dX10;refine⟨dd,dx10,_,rfl,D10.d,vq (by decide +kernel),?_⟩
     refine putG (rs:=rs) rfl (by lia) (by lia) hro dX10 old10 dH10 fun G' rs' e2 e3 dX' old' dH'=>⟨rs',_,_,by lia,e3,dX',old',dH'.mono (by lia),by lia,rfl,rfl⟩
    ·rw[Kf (by simpa using c2)]
     exact⟨rs,_,_,by lia,hro,dX10,old10,dH10.mono (by lia),rfl,rfl,rfl⟩
  ·rintro σ G7 ⟨rs,o5,o6,_,_,dX7,old7,dH7,rfl⟩;exact⟨_,_,_,_,_,old7,dH7.mono (by lia),rfl⟩
theorem DE(T:Txt K mg)(f_goal_of:HasFn K mg "goal_of" fq ["row"])(f_with_goal:HasFn K mg "with_goal" eI ["row","goal"])(f_can_be:HasFn K mg "can_be" pH ["lengths"])(f_least_lengths:HasFn K mg "least_lengths" fG ["counts","bound"])(f_chosen_things:HasFn K mg "chosen_things" fI ["counts","bound"])(f_by_worth:HasFn K mg "by_worth" eu ["shelf"])(f_packs_of:HasFn K mg "packs_of" kc ["shelf"])(f_code_of:HasFn K mg "code_of" eW ["lengths"])(f_word_behind:HasFn K mg "word_behind" gQ ["ahead","length"])(f_thing_at:HasFn K mg "thing_at" kM ["code","bits","place"])(f_least_widths:HasFn K mg "least_widths" gg ["sizes","goals"])(f_raised_till_good:HasFn K mg "raised_till_good" dY ["sizes","goals"])(f_narrowest:HasFn K mg "narrowest" jz ["goals"])(f_first_too_narrow:HasFn K mg "first_too_narrow" dS ["sizes","goals","widths"])(f_fits:HasFn K mg "fits" wk ["starts","goals","widths","row"])(f_distance_of:HasFn K mg "distance_of" gJ ["starts","goals","row"])(f_row_starts:HasFn K mg "row_starts" ij ["sizes","widths"])(f_own_part:HasFn K mg "own_part" jV ["width"])(f_book_of:HasFn K mg "book_of" lN ["program","counts"])(f_coded_things:HasFn K mg "coded_things" f_ ["row"])(f_codes_of:HasFn K mg "codes_of" kL ["book"])(f_pack_rows:HasFn K mg "pack_rows" j9 ["program","book"])(f_bits_ahead_of_goal:HasFn K mg "bits_ahead_of_goal" dz ["row","codes"])(f_figures_behind_first:HasFn K mg "figures_behind_first" cP ["number"])(f_jump_written:HasFn K mg "jump_written" fM ["width","distance"])(f_last_figures:HasFn K mg "last_figures" fV ["number","many"])(f_goals_moved:HasFn K mg "goals_moved" cm ["rows","first","by"])(f_goal_moved:HasFn K mg "goal_moved" dF ["row","first","by"])(f_run_rows:HasFn K mg "run_rows" ed ["program","given","most"])(f_read_program:HasFn K mg "read_program" cJ ["text"])(f_row_shown:HasFn K mg "row_shown" dw ["row"])(f_read_row:HasFn K mg "read_row" dP ["line","greatest_goal"])(f_read_part:HasFn K mg "read_part" eA ["kind","part","greatest_goal"])(f_read_number:HasFn K mg "read_number" dh ["text","greatest"])(f_is_number:HasFn K mg "is_number" dt ["text"])(f_read_rows:HasFn K mg "read_rows" jy ["bits","book"])(f_goal_numbered:HasFn K mg "goal_numbered" fE ["row","start","numbers"])(f_row_at:HasFn K mg "row_at" oH ["codes","bits","place"])(f_coded_at:HasFn K mg "coded_at" kZ ["code","bits","place"])(f_part_at:HasFn K mg "part_at" lR ["kind","codes","bits","place"])(f_number_at:HasFn K mg "number_at" j2 ["code","bits","place"])(f_goal_at:HasFn K mg "goal_at" mj ["bits","place"])(f_asked_place:HasFn K mg "asked_place" df ["text"])(f_asked_number:HasFn K mg "asked_number" cK ["text"])(f_asked_figures:HasFn K mg "asked_figures" cw ["text"])(f_is_bits:HasFn K mg "is_bits" mf ["text"])(f_numbers_shown:HasFn K mg "numbers_shown" d0 ["numbers"])(l_deck:HasFn K mg "_law_deck" di ["script"])(l_mix:HasFn K mg "_law_mix" fB ["number","turn"])(l_draw:HasFn K mg "_law_draw" e9 ["deck","most"])(l_number:HasFn K mg "_law_number" de ["deck"])(l_row:HasFn K mg "_law_row" fv ["deck","goals"])(l_line:HasFn K mg "_law_line" dv ["row"])(l_spaced:HasFn K mg "_law_spaced" cq ["numbers"])(l_are_texts:HasFn K mg "_law_are_texts" bN ["found"])(l_asked:HasFn K mg "_law_asked" dB ["desk","line","due"])(l_numbers:HasFn K mg "_law_numbers" cN ["deck"])(l_program_of:HasFn K mg "_law_program_of" bU ["desk"])(l_right:HasFn K mg "_law_right" cO ["deck","desk"])(F:e7 K "law" "law" gR f fd):a_ P w K mg base aN 14 f fd ["script"] (nS K):=by
 have dr:=za (P:=P) (w:=w) (base:=base) T l_draw (Eg T l_mix);have ro:=DJ (P:=P) (w:=w) (base:=base) T l_row dr (uD T l_number dr);have go:=vY (P:=P) (w:=w) (base:=base) T f_goal_of;have mv:=DF (P:=P) (w:=w) (base:=base) T f_goals_moved (Gr T f_goal_moved go (zB T f_with_goal));have isn:=y4 (P:=P) (w:=w) (base:=base) T f_is_number;have rn:=wg (P:=P) (w:=w) (base:=base) T f_read_number isn;have rr:=xU (P:=P) (w:=w) (base:=base) T f_read_row (tR T f_read_part rn);have fg:=Bf (P:=P) (w:=w) (base:=base) T f_asked_figures isn;have ap:=A5 (P:=P) (w:=w) (base:=base) T f_asked_place fg;have an:=zq (P:=P) (w:=w) (base:=base) T f_asked_number fg;have run:=Co (P:=P) (w:=w) (base:=base) T (AW T f_goal_of) f_run_rows;obtain⟨CK,hCK,f_ki,d_ki,mk_ki,fo_ki,bm_ki,M⟩:∃ CK,mg "Kept"=some (.ref CK)/\∃ f_i d_i,Mk K CK f_i/\a_ P w K mg base aN 1 f_i d_i ["self","book"] (ny K CK)/\Binds K d_i ["self","book"] []/\KM P w K mg base CK:=by
  obtain⟨C_Kept,f___init__,f_put_in,f_take_out,f_program,d___init__,d_put_in,d_take_out,d_program,hC_Kept,cM,i4,bu,mm___init__,FM___init__,bm___init__,mm_put_in,FM_put_in,bm_put_in,mm_take_out,FM_take_out,bm_take_out,mm_program,FM_program,bm_program⟩:=T.JS;exact⟨C_Kept,hC_Kept,f___init__,d___init__,mm___init__,vR T cM i4 bu FM___init__,bm___init__,cM,i4,bu,⟨_,_,mm_put_in,C7 T cM bu go mv FM_put_in,bm_put_in⟩,⟨_,_,mm_take_out,yJ T cM bu mv FM_take_out,bm_take_out⟩,⟨_,_,mm_program,AJ T cM bu FM_program,bm_program⟩⟩
 obtain⟨C_Desk,f___init__,f_ask,f_change,f_put_row,f_take_row,f_run_shown,f_asked_run,d___init__,d_ask,d_change,d_put_row,d_take_row,d_run_shown,d_asked_run,hC_Desk,cM,na_kept,mm___init__,FM___init__,bm___init__,mm_ask,FM_ask,bm_ask,mm_change,FM_change,bm_change,mm_put_row,FM_put_row,bm_put_row,mm_take_row,FM_take_row,bm_take_row,mm_run_shown,FM_run_shown,bm_run_shown,mm_asked_run,FM_asked_run,bm_asked_run⟩:=T.JO;have pr:=vi (P:=P) (w:=w) (base:=base) T M cM na_kept ap rr FM_put_row;have tr:=pY (P:=P) (w:=w) (base:=base) T M cM na_kept ap FM_take_row;have ar:=Ag (P:=P) (w:=w) (base:=base) T M cM na_kept rn an run FM_asked_run;have rs:=zt (P:=P) (w:=w) (base:=base) T cM mm_asked_run ar bm_asked_run FM_run_shown;have ch:=D8 (P:=P) (w:=w) (base:=base) T cM mm_put_row pr bm_put_row mm_take_row tr bm_take_row FM_change;have ak:=De (P:=P) (w:=w) (base:=base) T M cM na_kept (wX T f_row_shown) mm_run_shown rs bm_run_shown mm_change ch bm_change FM_ask;have po:=C5 (P:=P) (w:=w) (base:=base) T cM mm_ask ak bm_ask (zh T f_read_program rr) l_program_of;have la:=yQ (P:=P) (w:=w) (base:=base) T cM mm_ask ak bm_ask (wx T l_are_texts) l_asked;exact CF T F hC_Desk cM mm___init__ (vW T cM na_kept hCK mk_ki fo_ki bm_ki FM___init__) bm___init__ mm_ask ak bm_ask (Az T l_deck) dr ro (Ae T l_line) (Ek T dr po (qK T l_numbers dr) run (vm T l_spaced) la l_right)
local macro_rules | `(tactic| walk_at "b1") => `(tactic| (intro _ _ _ _ _ _ us hl; obtain ⟨_, e⟩ := L2.Y.lD hl; subst e; rfl))
theorem cH{x:Str}{st:Stmt}{ps:List Str}{oc:Value}{od an:Option Addr}{osl:Array (Option Value)}{kV doc pm cdv ct:Value}(X:K.In h)(G:h.Ns mainGlobals mg)(a:PySem.W.nsIn K mainGlobals x=some (some (.ref f)))
  (l:K.lookup f=some ⟨oc,od,.func (PySem.W.fnOf x x (aM st) (aq st) (aa st) .none kV doc pm an cdv ct),osl⟩) (c:PySem.W.codeIn K cdv x=true) (k:PySem.W.keepIn K (.ref f)=true)
  (hb:∀(kV doc pm:Value) (an:Option Addr) (cdv ct:Value) (us:List Value),us.length=ps.length->bindArgs (PySem.W.fnOf x x (aM st) (aq st) (aa st) .none kV doc pm an cdv ct) ⟨us,[]⟩=pure (ps.zip us)):HasFn K mg x st ps:=
 ⟨f,_,aJ l c k,(aJ l c k).binds hb,PySem.W.mg_of X G a⟩
theorem all_mk{w:World}{fa:Addr}(X:K.In h)(G:h.Ns mainGlobals mg)(hfa:mg "law"=some (.ref fa))
  {f5 f7 f59:Addr} {od5 an5 od7 an7 od59 an59:Option Addr} {sl5 sl7 sl59:Array (Option Value)} {oc5 kV5 dc5 pm5 cd5 ct5 oc7 kV7 dc7 pm7 cd7 ct7 oc59 kV59 dc59 pm59 cd59 ct59:Value}
  {q0:Addr} {qn0:Nat} {qs0:Array (Option Value)} {w0_0 w0_1 w0_2 w0_3 w0_4 w0_5 w0_6 w0_7:Tok}
  {q1:Addr} {qd1:Option Addr} {qn1:Nat} {qs1:Array (Option Value)} {w1_0 w1_1 w1_2:Tok}
  {w2_0:Tok}
  {q3:Addr} {qd3:Option Addr} {qn3:Nat} {qs3:Array (Option Value)} {w3_0 w3_1 w3_2:Tok}
  {q4:Addr} {qd4:Option Addr} {qn4:Nat} {qs4:Array (Option Value)} {w4_0 w4_1 w4_2:Tok}
  {q5:Addr} {qd5:Option Addr} {qn5:Nat} {qs5:Array (Option Value)} {w5_0 w5_1 w5_2:Tok}
  {w6_0:Tok}
  {w7_0:Tok}
  {w8_0:Tok}
  {w9_0:Tok}
  {w10_0:Tok}
  {w11_0:Tok}
  {w12_0:Tok}
  {w13_0:Tok}
  {q14:Addr} {qd14:Option Addr} {qn14:Nat} {qs14:Array (Option Value)} {w14_0 w14_1 w14_2:Tok}
  {dd0:Addr} {dh0_ep:Nat} {dh0_0 dh0_1 dh0_2 dh0_3 dh0_4 dh0_5 dh0_6 dh0_7 dh0_8:Int} {dp0_0 dp0_1 dp0_2 dp0_3 dp0_4 dp0_5 dp0_6 dp0_7 dp0_8:Addr} {do0_0 do0_1 do0_2 do0_3 do0_4 do0_5 do0_6 do0_7 do0_8:Option Addr} {dn0_0 dn0_1 dn0_2 dn0_3 dn0_4 dn0_5 dn0_6 dn0_7 dn0_8:Nat} {ds0_0 ds0_1 ds0_2 ds0_3 ds0_4 ds0_5 ds0_6 ds0_7 ds0_8:Array (Option Value)} {dt0_0 dt0_1 dt0_2 dt0_3 dt0_4 dt0_5 dt0_6 dt0_7 dt0_8 dw0_0_0 dw0_0_1 dw0_1_0 dw0_1_1 dw0_2_0 dw0_2_1 dw0_3_0 dw0_3_1 dw0_4_0 dw0_5_0 dw0_6_0 dw0_7_0 dw0_7_1:Tok}
  {mC mf0 mf1 mf2 mf3 mf4 mf5 mf6:Addr} {mod0 man0 mod1 man1 mod2 man2 mod3 man3 mod4 man4 mod5 man5 mod6 man6:Option Addr} {msl0 msl1 msl2 msl3 msl4 msl5 msl6:Array (Option Value)} {moc0 mkV0 mdc0 mpm0 mcd0 mct0 moc1 mkV1 mdc1 mpm1 mcd1 mct1 moc2 mkV2 mdc2 mpm2 mcd2 mct2 moc3 mkV3 mdc3 mpm3 mcd3 mct3 moc4 mkV4 mdc4 mpm4 mcd4 mct4 moc5 mkV5 mdc5 mpm5 mcd5 mct5 moc6 mkV6 mdc6 mpm6 mcd6 mct6:Value}
  {mC_1 mf0_1 mf1_1 mf2_1 mf3_1:Addr} {mod0_1 man0_1 mod1_1 man1_1 mod2_1 man2_1 mod3_1 man3_1:Option Addr} {msl0_1 msl1_1 msl2_1 msl3_1:Array (Option Value)} {moc0_1 mkV0_1 mdc0_1 mpm0_1 mcd0_1 mct0_1 moc1_1 mkV1_1 mdc1_1 mpm1_1 mcd1_1 mct1_1 moc2_1 mkV2_1 mdc2_1 mpm2_1 mcd2_1 mct2_1 moc3_1 mkV3_1 mdc3_1 mpm3_1 mcd3_1 mct3_1:Value}
  {mC_2 mf0_2 mf1_2 mf2_2 mf3_2 mf4_2 mf5_2 mf6_2:Addr} {mod0_2 man0_2 mod1_2 man1_2 mod2_2 man2_2 mod3_2 man3_2 mod4_2 man4_2 mod5_2 man5_2 mod6_2 man6_2:Option Addr} {msl0_2 msl1_2 msl2_2 msl3_2 msl4_2 msl5_2 msl6_2:Array (Option Value)} {moc0_2 mkV0_2 mdc0_2 mpm0_2 mcd0_2 mct0_2 moc1_2 mkV1_2 mdc1_2 mpm1_2 mcd1_2 mct1_2 moc2_2 mkV2_2 mdc2_2 mpm2_2 mcd2_2 mct2_2 moc3_2 mkV3_2 mdc3_2 mpm3_2 mcd3_2 mct3_2 moc4_2 mkV4_2 mdc4_2 mpm4_2 mcd4_2 mct4_2 moc5_2 mkV5_2 mdc5_2 mpm5_2 mcd5_2 mct5_2 moc6_2 mkV6_2 mdc6_2 mpm6_2 mcd6_2 mct6_2:Value}
      
      
  (F0:HasFn K mg "goal_of" fq ["row"])
  (F1:HasFn K mg "with_goal" eI ["row","goal"])
  (F2:HasFn K mg "can_be" pH ["lengths"])
  (F3:HasFn K mg "least_lengths" fG ["counts","bound"])
  (F4:HasFn K mg "chosen_things" fI ["counts","bound"])
  (a5:PySem.W.nsIn K mainGlobals "by_worth"=some (some (.ref f5))) (l5:K.lookup f5=some ⟨oc5,od5,.func (PySem.W.fnOf "by_worth" "by_worth" (aM eu) (aq eu) (aa eu) .none kV5 dc5 pm5 an5 cd5 ct5),sl5⟩) (c5:PySem.W.codeIn K cd5 "by_worth"=true) (k5:PySem.W.keepIn K (.ref f5)=true)
  (F6:HasFn K mg "packs_of" kc ["shelf"])
  (a7:PySem.W.nsIn K mainGlobals "code_of"=some (some (.ref f7))) (l7:K.lookup f7=some ⟨oc7,od7,.func (PySem.W.fnOf "code_of" "code_of" (aM eW) (aq eW) (aa eW) .none kV7 dc7 pm7 an7 cd7 ct7),sl7⟩) (c7:PySem.W.codeIn K cd7 "code_of"=true) (k7:PySem.W.keepIn K (.ref f7)=true)
  (F8:HasFn K mg "word_behind" gQ ["ahead","length"])
  (F9:HasFn K mg "thing_at" kM ["code","bits","place"])
  (F10:HasFn K mg "least_widths" gg ["sizes","goals"])
  (F11:HasFn K mg "raised_till_good" dY ["sizes","goals"])
  (F12:HasFn K mg "narrowest" jz ["goals"])
  (F13:HasFn K mg "first_too_narrow" dS ["sizes","goals","widths"])
  (F14:HasFn K mg "fits" wk ["starts","goals","widths","row"])
  (F15:HasFn K mg "distance_of" gJ ["starts","goals","row"])
  (F16:HasFn K mg "row_starts" ij ["sizes","widths"])
  (F17:HasFn K mg "own_part" jV ["width"])
  (F18:HasFn K mg "book_of" lN ["program","counts"])
  (F19:HasFn K mg "coded_things" f_ ["row"])
  (F20:HasFn K mg "codes_of" kL ["book"])
  (F21:HasFn K mg "pack_rows" j9 ["program","book"])
  (F22:HasFn K mg "bits_ahead_of_goal" dz ["row","codes"])
  (F23:HasFn K mg "figures_behind_first" cP ["number"])
  (F24:HasFn K mg "jump_written" fM ["width","distance"])
  (F25:HasFn K mg "last_figures" fV ["number","many"])
  (F26:HasFn K mg "goals_moved" cm ["rows","first","by"])
  (F27:HasFn K mg "goal_moved" dF ["row","first","by"])
  (F28:HasFn K mg "run_rows" ed ["program","given","most"])
  (F29:HasFn K mg "read_program" cJ ["text"])
  (F30:HasFn K mg "row_shown" dw ["row"])
  (F31:HasFn K mg "read_row" dP ["line","greatest_goal"])
  (F32:HasFn K mg "read_part" eA ["kind","part","greatest_goal"])
  (F33:HasFn K mg "read_number" dh ["text","greatest"])
  (F34:HasFn K mg "is_number" dt ["text"])
  (F35:HasFn K mg "read_rows" jy ["bits","book"])
  (F36:HasFn K mg "goal_numbered" fE ["row","start","numbers"])
  (F37:HasFn K mg "row_at" oH ["codes","bits","place"])
  (F38:HasFn K mg "coded_at" kZ ["code","bits","place"])
  (F39:HasFn K mg "part_at" lR ["kind","codes","bits","place"])
  (F40:HasFn K mg "number_at" j2 ["code","bits","place"])
  (F41:HasFn K mg "goal_at" mj ["bits","place"])
  (F42:HasFn K mg "asked_place" df ["text"])
  (F43:HasFn K mg "asked_number" cK ["text"])
  (F44:HasFn K mg "asked_figures" cw ["text"])
  (F45:HasFn K mg "is_bits" mf ["text"])
  (F46:HasFn K mg "numbers_shown" d0 ["numbers"])
  (F47:HasFn K mg "_law_deck" di ["script"])
  (F48:HasFn K mg "_law_mix" fB ["number","turn"])
  (F49:HasFn K mg "_law_draw" e9 ["deck","most"])
  (F50:HasFn K mg "_law_number" de ["deck"])
  (F51:HasFn K mg "_law_row" fv ["deck","goals"])
  (F52:HasFn K mg "_law_line" dv ["row"])
  (F53:HasFn K mg "_law_spaced" cq ["numbers"])
  (F54:HasFn K mg "_law_are_texts" bN ["found"])
  (F55:HasFn K mg "_law_asked" dB ["desk","line","due"])
  (F56:HasFn K mg "_law_numbers" cN ["deck"])
  (F57:HasFn K mg "_law_program_of" bU ["desk"])
  (F58:HasFn K mg "_law_right" cO ["deck","desk"])
  (a59:PySem.W.nsIn K mainGlobals "law"=some (some (.ref f59))) (l59:K.lookup f59=some ⟨oc59,od59,.func (PySem.W.fnOf "law" "law" (aM gR) (aq gR) (aa gR) .none kV59 dc59 pm59 an59 cd59 ct59),sl59⟩) (c59:PySem.W.codeIn K cd59 "law"=true) (k59:PySem.W.keepIn K (.ref f59)=true)
  (z0:PySem.W.nsIn K mainGlobals "abs"=some none)
  (z1:PySem.W.nsIn K mainGlobals "all"=some none)
  (z2:PySem.W.nsIn K mainGlobals "dict"=some none)
  (z3:PySem.W.nsIn K mainGlobals "enumerate"=some none)
  (z4:PySem.W.nsIn K mainGlobals "int"=some none)
  (z5:PySem.W.nsIn K mainGlobals "isinstance"=some none)
  (z6:PySem.W.nsIn K mainGlobals "len"=some none)
  (z7:PySem.W.nsIn K mainGlobals "list"=some none)
  (z8:PySem.W.nsIn K mainGlobals "min"=some none)
  (z9:PySem.W.nsIn K mainGlobals "range"=some none)
  (z10:PySem.W.nsIn K mainGlobals "sorted"=some none)
  (z11:PySem.W.nsIn K mainGlobals "str"=some none)
  (z12:PySem.W.nsIn K mainGlobals "sum"=some none)
  (z13:PySem.W.nsIn K mainGlobals "tuple"=some none)
  (z14:PySem.W.nsIn K mainGlobals "zip"=some none)
  (g0:PySem.W.nsIn K mainGlobals "BOXES"=some (some (.ref q0))) (m0:K.lookup q0=some ⟨.type "tuple",none,.seq #[.str "a" w0_0,.str "b" w0_1,.str "c" w0_2,.str "d" w0_3,.str "e" w0_4,.str "f" w0_5,.str "g" w0_6,.str "h" w0_7] qn0,qs0⟩)
  (g1:PySem.W.nsIn K mainGlobals "EQUAL_LENGTHS"=some (some (.ref q1))) (m1:K.lookup q1=some ⟨.type "tuple",qd1,.seq #[.int 4 w1_0,.int 5 w1_1,.int 3 w1_2] qn1,qs1⟩)
  (g2:PySem.W.nsIn K mainGlobals "FIGURES"=some (some (.str "0123456789" w2_0)))
  (g3:PySem.W.nsIn K mainGlobals "HALVES"=some (some (.ref q3))) (m3:K.lookup q3=some ⟨.type "tuple",qd3,.seq #[.int 8 w3_0,.int 128 w3_1,.int 32768 w3_2] qn3,qs3⟩)
  (g4:PySem.W.nsIn K mainGlobals "HEADS"=some (some (.ref q4))) (m4:K.lookup q4=some ⟨.type "tuple",qd4,.seq #[.str "0" w4_0,.str "10" w4_1,.str "11" w4_2] qn4,qs4⟩)
  (g5:PySem.W.nsIn K mainGlobals "HOW_MANY"=some (some (.ref q5))) (m5:K.lookup q5=some ⟨.type "tuple",qd5,.seq #[.int 9 w5_0,.int 17 w5_1,.int 8 w5_2] qn5,qs5⟩)
  (g6:PySem.W.nsIn K mainGlobals "LONGEST"=some (some (.int 12 w6_0)))
  (g7:PySem.W.nsIn K mainGlobals "MOST_CARRIED_OUT"=some (some (.int 400 w7_0)))
  (g8:PySem.W.nsIn K mainGlobals "MOST_ROWS"=some (some (.int 60 w8_0)))
  (g9:PySem.W.nsIn K mainGlobals "OF_BOXES"=some (some (.int 2 w9_0)))
  (g10:PySem.W.nsIn K mainGlobals "OF_CLASSES"=some (some (.int 1 w10_0)))
  (g11:PySem.W.nsIn K mainGlobals "OF_WORDS"=some (some (.int 0 w11_0)))
  (g12:PySem.W.nsIn K mainGlobals "WHOLE"=some (some (.int 65536 w12_0)))
  (g13:PySem.W.nsIn K mainGlobals "WIDEST"=some (some (.int 2 w13_0)))
  (g14:PySem.W.nsIn K mainGlobals "WIDTHS"=some (some (.ref q14))) (m14:K.lookup q14=some ⟨.type "tuple",qd14,.seq #[.int 4 w14_0,.int 8 w14_1,.int 16 w14_2] qn14,qs14⟩)
  (dg0:PySem.W.nsIn K mainGlobals "SHAPES"=some (some (.ref dd0))) (dz0:(dd0 == sysModules)=false) (dl0:K.lookup dd0=some ⟨.type "dict",none,.dict #[⟨dh0_0,.str "put" dt0_0,.ref dp0_0⟩,⟨dh0_1,.str "add" dt0_1,.ref dp0_1⟩,⟨dh0_2,.str "sub" dt0_2,.ref dp0_2⟩,⟨dh0_3,.str "copy" dt0_3,.ref dp0_3⟩,⟨dh0_4,.str "tell" dt0_4,.ref dp0_4⟩,⟨dh0_5,.str "hear" dt0_5,.ref dp0_5⟩,⟨dh0_6,.str "jump" dt0_6,.ref dp0_6⟩,⟨dh0_7,.str "zero" dt0_7,.ref dp0_7⟩,⟨dh0_8,.str "halt" dt0_8,.ref dp0_8⟩] dh0_ep,#[]⟩)
  (dm0_0:K.lookup dp0_0=some ⟨.type "tuple",do0_0,.seq #[.str "box" dw0_0_0,.str "number" dw0_0_1] dn0_0,ds0_0⟩)
  (dm0_1:K.lookup dp0_1=some ⟨.type "tuple",do0_1,.seq #[.str "box" dw0_1_0,.str "box" dw0_1_1] dn0_1,ds0_1⟩)
  (dm0_2:K.lookup dp0_2=some ⟨.type "tuple",do0_2,.seq #[.str "box" dw0_2_0,.str "box" dw0_2_1] dn0_2,ds0_2⟩)
  (dm0_3:K.lookup dp0_3=some ⟨.type "tuple",do0_3,.seq #[.str "box" dw0_3_0,.str "box" dw0_3_1] dn0_3,ds0_3⟩)
  (dm0_4:K.lookup dp0_4=some ⟨.type "tuple",do0_4,.seq #[.str "box" dw0_4_0] dn0_4,ds0_4⟩)
  (dm0_5:K.lookup dp0_5=some ⟨.type "tuple",do0_5,.seq #[.str "box" dw0_5_0] dn0_5,ds0_5⟩)
  (dm0_6:K.lookup dp0_6=some ⟨.type "tuple",do0_6,.seq #[.str "goal" dw0_6_0] dn0_6,ds0_6⟩)
  (dm0_7:K.lookup dp0_7=some ⟨.type "tuple",do0_7,.seq #[.str "box" dw0_7_0,.str "goal" dw0_7_1] dn0_7,ds0_7⟩)
  (dm0_8:K.lookup dp0_8=some ⟨.type "tuple",do0_8,.seq #[] dn0_8,ds0_8⟩)
  (mq0:PySem.W.nsIn K mainGlobals "Machine"=some (some (.ref mC)))
  (mq1:PySem.W.plainGet K mC Str.empty=true)
  (mq2:PySem.W.hasDictIn K mC=true)
  (mq3:PySem.W.plainOver K mC=true)
  (mq4:PySem.W.findIn K (.ref mC) "__setattr__"=some (some (.builtin "object.__setattr__")))
  (mq5:PySem.W.findIn K (.ref mC) "given"=some none)
  (mq6:PySem.W.findIn K (.ref mC) "heard"=some none)
  (mq7:PySem.W.findIn K (.ref mC) "told"=some none)
  (mq8:PySem.W.findIn K (.ref mC) "boxes"=some none)
  (mq9:PySem.W.findIn K (.ref mC) "__init__"=some (some (.ref mf0)))
  (mq10:PySem.W.isFn K (.ref mf0)=true)
  (mq11:PySem.W.keepIn K (.ref mf0)=true)
  (mq12:K.lookup mf0=some ⟨moc0,mod0,.func (PySem.W.fnOf "__init__" "Machine.__init__" (aM aC) (aq aC) (aa aC) .none mkV0 mdc0 mpm0 man0 mcd0 mct0),msl0⟩)
  (mq13:PySem.W.codeIn K mcd0 "Machine.__init__"=true)
  (mq14:PySem.W.makesIn K mC=true)
  (mq15:PySem.W.keepIn K (.ref mC)=true)
  (mq16:PySem.W.findIn K (.ref mC) "place_next"=some (some (.ref mf1)))
  (mq17:PySem.W.isFn K (.ref mf1)=true)
  (mq18:PySem.W.keepIn K (.ref mf1)=true)
  (mq19:K.lookup mf1=some ⟨moc1,mod1,.func (PySem.W.fnOf "place_next" "Machine.place_next" (aM aB) (aq aB) (aa aB) .none mkV1 mdc1 mpm1 man1 mcd1 mct1),msl1⟩)
  (mq20:PySem.W.codeIn K mcd1 "Machine.place_next"=true)
  (mq21:PySem.W.findIn K (.ref mC) "carry_out"=some (some (.ref mf2)))
  (mq22:PySem.W.isFn K (.ref mf2)=true)
  (mq23:PySem.W.keepIn K (.ref mf2)=true)
  (mq24:K.lookup mf2=some ⟨moc2,mod2,.func (PySem.W.fnOf "carry_out" "Machine.carry_out" (aM aD) (aq aD) (aa aD) .none mkV2 mdc2 mpm2 man2 mcd2 mct2),msl2⟩)
  (mq25:PySem.W.codeIn K mcd2 "Machine.carry_out"=true)
  (mq26:PySem.W.findIn K (.ref mC) "number_for"=some (some (.ref mf3)))
  (mq27:PySem.W.isFn K (.ref mf3)=true)
  (mq28:PySem.W.keepIn K (.ref mf3)=true)
  (mq29:K.lookup mf3=some ⟨moc3,mod3,.func (PySem.W.fnOf "number_for" "Machine.number_for" (aM aA) (aq aA) (aa aA) .none mkV3 mdc3 mpm3 man3 mcd3 mct3),msl3⟩)
  (mq30:PySem.W.codeIn K mcd3 "Machine.number_for"=true)
  (mq31:PySem.W.findIn K (.ref mC) "heard_number"=some (some (.ref mf4)))
  (mq32:PySem.W.isFn K (.ref mf4)=true)
  (mq33:PySem.W.keepIn K (.ref mf4)=true)
  (mq34:K.lookup mf4=some ⟨moc4,mod4,.func (PySem.W.fnOf "heard_number" "Machine.heard_number" (aM ay) (aq ay) (aa ay) .none mkV4 mdc4 mpm4 man4 mcd4 mct4),msl4⟩)
  (mq35:PySem.W.codeIn K mcd4 "Machine.heard_number"=true)
  (mq36:PySem.W.findIn K (.ref mC) "told_numbers"=some (some (.ref mf5)))
  (mq37:PySem.W.isFn K (.ref mf5)=true)
  (mq38:PySem.W.keepIn K (.ref mf5)=true)
  (mq39:K.lookup mf5=some ⟨moc5,mod5,.func (PySem.W.fnOf "told_numbers" "Machine.told_numbers" (aM ax) (aq ax) (aa ax) .none mkV5 mdc5 mpm5 man5 mcd5 mct5),msl5⟩)
  (mq40:PySem.W.codeIn K mcd5 "Machine.told_numbers"=true)
  (mq41:PySem.W.findIn K (.ref mC) "box_numbers"=some (some (.ref mf6)))
  (mq42:PySem.W.isFn K (.ref mf6)=true)
  (mq43:PySem.W.keepIn K (.ref mf6)=true)
  (mq44:K.lookup mf6=some ⟨moc6,mod6,.func (PySem.W.fnOf "box_numbers" "Machine.box_numbers" (aM aw) (aq aw) (aa aw) .none mkV6 mdc6 mpm6 man6 mcd6 mct6),msl6⟩)
  (mq45:PySem.W.codeIn K mcd6 "Machine.box_numbers"=true)
  (mq0_1:PySem.W.nsIn K mainGlobals "Kept"=some (some (.ref mC_1)))
  (mq1_1:PySem.W.plainGet K mC_1 Str.empty=true)
  (mq2_1:PySem.W.hasDictIn K mC_1=true)
  (mq3_1:PySem.W.plainOver K mC_1=true)
  (mq4_1:PySem.W.findIn K (.ref mC_1) "__setattr__"=some (some (.builtin "object.__setattr__")))
  (mq5_1:PySem.W.findIn K (.ref mC_1) "book"=some none)
  (mq6_1:PySem.W.findIn K (.ref mC_1) "rows"=some none)
  (mq7_1:PySem.W.findIn K (.ref mC_1) "__init__"=some (some (.ref mf0_1)))
  (mq8_1:PySem.W.isFn K (.ref mf0_1)=true)
  (mq9_1:PySem.W.keepIn K (.ref mf0_1)=true)
  (mq10_1:K.lookup mf0_1=some ⟨moc0_1,mod0_1,.func (PySem.W.fnOf "__init__" "Kept.__init__" (aM aQ) (aq aQ) (aa aQ) .none mkV0_1 mdc0_1 mpm0_1 man0_1 mcd0_1 mct0_1),msl0_1⟩)
  (mq11_1:PySem.W.codeIn K mcd0_1 "Kept.__init__"=true)
  (mq12_1:PySem.W.makesIn K mC_1=true)
  (mq13_1:PySem.W.keepIn K (.ref mC_1)=true)
  (mq14_1:PySem.W.findIn K (.ref mC_1) "put_in"=some (some (.ref mf1_1)))
  (mq15_1:PySem.W.isFn K (.ref mf1_1)=true)
  (mq16_1:PySem.W.keepIn K (.ref mf1_1)=true)
  (mq17_1:K.lookup mf1_1=some ⟨moc1_1,mod1_1,.func (PySem.W.fnOf "put_in" "Kept.put_in" (aM bo) (aq bo) (aa bo) .none mkV1_1 mdc1_1 mpm1_1 man1_1 mcd1_1 mct1_1),msl1_1⟩)
  (mq18_1:PySem.W.codeIn K mcd1_1 "Kept.put_in"=true)
  (mq19_1:PySem.W.findIn K (.ref mC_1) "take_out"=some (some (.ref mf2_1)))
  (mq20_1:PySem.W.isFn K (.ref mf2_1)=true)
  (mq21_1:PySem.W.keepIn K (.ref mf2_1)=true)
  (mq22_1:K.lookup mf2_1=some ⟨moc2_1,mod2_1,.func (PySem.W.fnOf "take_out" "Kept.take_out" (aM aP) (aq aP) (aa aP) .none mkV2_1 mdc2_1 mpm2_1 man2_1 mcd2_1 mct2_1),msl2_1⟩)
  (mq23_1:PySem.W.codeIn K mcd2_1 "Kept.take_out"=true)
  (mq24_1:PySem.W.findIn K (.ref mC_1) "program"=some (some (.ref mf3_1)))
  (mq25_1:PySem.W.isFn K (.ref mf3_1)=true)
  (mq26_1:PySem.W.keepIn K (.ref mf3_1)=true)
  (mq27_1:K.lookup mf3_1=some ⟨moc3_1,mod3_1,.func (PySem.W.fnOf "program" "Kept.program" (aM aW) (aq aW) (aa aW) .none mkV3_1 mdc3_1 mpm3_1 man3_1 mcd3_1 mct3_1),msl3_1⟩)
  (mq28_1:PySem.W.codeIn K mcd3_1 "Kept.program"=true)
  (mq0_2:PySem.W.nsIn K mainGlobals "Desk"=some (some (.ref mC_2)))
  (mq1_2:PySem.W.plainGet K mC_2 Str.empty=true)
  (mq2_2:PySem.W.hasDictIn K mC_2=true)
  (mq3_2:PySem.W.plainOver K mC_2=true)
  (mq4_2:PySem.W.findIn K (.ref mC_2) "__setattr__"=some (some (.builtin "object.__setattr__")))
  (mq5_2:PySem.W.findIn K (.ref mC_2) "kept"=some none)
  (mq6_2:PySem.W.findIn K (.ref mC_2) "__init__"=some (some (.ref mf0_2)))
  (mq7_2:PySem.W.isFn K (.ref mf0_2)=true)
  (mq8_2:PySem.W.keepIn K (.ref mf0_2)=true)
  (mq9_2:K.lookup mf0_2=some ⟨moc0_2,mod0_2,.func (PySem.W.fnOf "__init__" "Desk.__init__" (aM aL) (aq aL) (aa aL) .none mkV0_2 mdc0_2 mpm0_2 man0_2 mcd0_2 mct0_2),msl0_2⟩)
  (mq10_2:PySem.W.codeIn K mcd0_2 "Desk.__init__"=true)
  (mq11_2:PySem.W.makesIn K mC_2=true)
  (mq12_2:PySem.W.keepIn K (.ref mC_2)=true)
  (mq13_2:PySem.W.findIn K (.ref mC_2) "ask"=some (some (.ref mf1_2)))
  (mq14_2:PySem.W.isFn K (.ref mf1_2)=true)
  (mq15_2:PySem.W.keepIn K (.ref mf1_2)=true)
  (mq16_2:K.lookup mf1_2=some ⟨moc1_2,mod1_2,.func (PySem.W.fnOf "ask" "Desk.ask" (aM b7) (aq b7) (aa b7) .none mkV1_2 mdc1_2 mpm1_2 man1_2 mcd1_2 mct1_2),msl1_2⟩)
  (mq17_2:PySem.W.codeIn K mcd1_2 "Desk.ask"=true)
  (mq18_2:PySem.W.findIn K (.ref mC_2) "change"=some (some (.ref mf2_2)))
  (mq19_2:PySem.W.isFn K (.ref mf2_2)=true)
  (mq20_2:PySem.W.keepIn K (.ref mf2_2)=true)
  (mq21_2:K.lookup mf2_2=some ⟨moc2_2,mod2_2,.func (PySem.W.fnOf "change" "Desk.change" (aM bg) (aq bg) (aa bg) .none mkV2_2 mdc2_2 mpm2_2 man2_2 mcd2_2 mct2_2),msl2_2⟩)
  (mq22_2:PySem.W.codeIn K mcd2_2 "Desk.change"=true)
  (mq23_2:PySem.W.findIn K (.ref mC_2) "put_row"=some (some (.ref mf3_2)))
  (mq24_2:PySem.W.isFn K (.ref mf3_2)=true)
  (mq25_2:PySem.W.keepIn K (.ref mf3_2)=true)
  (mq26_2:K.lookup mf3_2=some ⟨moc3_2,mod3_2,.func (PySem.W.fnOf "put_row" "Desk.put_row" (aM aX) (aq aX) (aa aX) .none mkV3_2 mdc3_2 mpm3_2 man3_2 mcd3_2 mct3_2),msl3_2⟩)
  (mq27_2:PySem.W.codeIn K mcd3_2 "Desk.put_row"=true)
  (mq28_2:PySem.W.findIn K (.ref mC_2) "take_row"=some (some (.ref mf4_2)))
  (mq29_2:PySem.W.isFn K (.ref mf4_2)=true)
  (mq30_2:PySem.W.keepIn K (.ref mf4_2)=true)
  (mq31_2:K.lookup mf4_2=some ⟨moc4_2,mod4_2,.func (PySem.W.fnOf "take_row" "Desk.take_row" (aM aR) (aq aR) (aa aR) .none mkV4_2 mdc4_2 mpm4_2 man4_2 mcd4_2 mct4_2),msl4_2⟩)
  (mq32_2:PySem.W.codeIn K mcd4_2 "Desk.take_row"=true)
  (mq33_2:PySem.W.findIn K (.ref mC_2) "run_shown"=some (some (.ref mf5_2)))
  (mq34_2:PySem.W.isFn K (.ref mf5_2)=true)
  (mq35_2:PySem.W.keepIn K (.ref mf5_2)=true)
  (mq36_2:K.lookup mf5_2=some ⟨moc5_2,mod5_2,.func (PySem.W.fnOf "run_shown" "Desk.run_shown" (aM aG) (aq aG) (aa aG) .none mkV5_2 mdc5_2 mpm5_2 man5_2 mcd5_2 mct5_2),msl5_2⟩)
  (mq37_2:PySem.W.codeIn K mcd5_2 "Desk.run_shown"=true)
  (mq38_2:PySem.W.findIn K (.ref mC_2) "asked_run"=some (some (.ref mf6_2)))
  (mq39_2:PySem.W.isFn K (.ref mf6_2)=true)
  (mq40_2:PySem.W.keepIn K (.ref mf6_2)=true)
  (mq41_2:K.lookup mf6_2=some ⟨moc6_2,mod6_2,.func (PySem.W.fnOf "asked_run" "Desk.asked_run" (aM aH) (aq aH) (aa aH) .none mkV6_2 mdc6_2 mpm6_2 man6_2 mcd6_2 mct6_2),msl6_2⟩)
  (mq42_2:PySem.W.codeIn K mcd6_2 "Desk.asked_run"=true)
  (le_by_worth:cd5=.ref lc_by_worth) (lk_by_worth:K.lookup lc_by_worth=some ⟨lO_by_worth,lD_by_worth,.fields lv_by_worth,lS_by_worth⟩) (lw_by_worth:lv_by_worth[11]?=some (.ref lp_by_worth))
  (le_code_of:cd7=.ref lc_code_of) (lk_code_of:K.lookup lc_code_of=some ⟨lO_code_of,lD_code_of,.fields lv_code_of,lS_code_of⟩) (lw_code_of:lv_code_of[11]?=some (.ref lp_code_of))
  : ∃ fd:FuncData,(∀(s:Shared) (v:Value),BindsTo s fd ⟨[v],[]⟩ [("script",v)])/\∀ base:Heap,K.In base->base.Ns mainGlobals mg->a_ l.prog w K mg base aN 30 fa fd ["script"] (nS K):=by
 have e:=hfa.symm.trans (PySem.W.mg_of X G a59);cases e
 have T:Txt K mg:=⟨PySem.W.mg_none_of X G z0,PySem.W.mg_none_of X G z1,PySem.W.mg_none_of X G z2,PySem.W.mg_none_of X G z3,PySem.W.mg_none_of X G z4,PySem.W.mg_none_of X G z5,PySem.W.mg_none_of X G z6,PySem.W.mg_none_of X G z7,PySem.W.mg_none_of X G z8,PySem.W.mg_none_of X G z9,PySem.W.mg_none_of X G z10,PySem.W.mg_none_of X G z11,PySem.W.mg_none_of X G z12,PySem.W.mg_none_of X G z13,PySem.W.mg_none_of X G z14,⟨.ref q0,_,PySem.W.mg_of X G g0,rfl,fun H B=>.cT (vs:=[.str "a",.str "b",.str "c",.str "d",.str "e",.str "f",.str "g",.str "h"]) ⟨_,_,_,m0,rfl,rfl,(by show 8<=sizeLine;decide),(.cons ⟨w0_0,rfl⟩ (.cons ⟨w0_1,rfl⟩ (.cons ⟨w0_2,rfl⟩ (.cons ⟨w0_3,rfl⟩ (.cons ⟨w0_4,rfl⟩ (.cons ⟨w0_5,rfl⟩ (.cons ⟨w0_6,rfl⟩ (.cons ⟨w0_7,rfl⟩ .nil))))))))⟩ (.cons (.str _) (.cons (.str _) (.cons (.str _) (.cons (.str _) (.cons (.str _) (.cons (.str _) (.cons (.str _) (.cons (.str _) .nil))))))))⟩,⟨.ref q1,_,PySem.W.mg_of X G g1,rfl,fun H B=>.cT (vs:=[.int 4,.int 5,.int 3]) ⟨_,_,_,m1,rfl,rfl,(by show 3<=sizeLine;decide),(.cons ⟨w1_0,rfl⟩ (.cons ⟨w1_1,rfl⟩ (.cons ⟨w1_2,rfl⟩ .nil)))⟩ (.cons (.int _) (.cons (.int _) (.cons (.int _) .nil)))⟩,⟨.str "0123456789",_,PySem.W.mg_of X G g2,⟨_,rfl⟩,fun H B=>.str _⟩,⟨.ref q3,_,PySem.W.mg_of X G g3,rfl,fun H B=>.cT (vs:=[.int 8,.int 128,.int 32768]) ⟨_,_,_,m3,rfl,rfl,(by show 3<=sizeLine;decide),(.cons ⟨w3_0,rfl⟩ (.cons ⟨w3_1,rfl⟩ (.cons ⟨w3_2,rfl⟩ .nil)))⟩ (.cons (.int _) (.cons (.int _) (.cons (.int _) .nil)))⟩,⟨.ref q4,_,PySem.W.mg_of X G g4,rfl,fun H B=>.cT (vs:=[.str "0",.str "10",.str "11"]) ⟨_,_,_,m4,rfl,rfl,(by show 3<=sizeLine;decide),(.cons ⟨w4_0,rfl⟩ (.cons ⟨w4_1,rfl⟩ (.cons ⟨w4_2,rfl⟩ .nil)))⟩ (.cons (.str _) (.cons (.str _) (.cons (.str _) .nil)))⟩,⟨.ref q5,_,PySem.W.mg_of X G g5,rfl,fun H B=>.cT (vs:=[.int 9,.int 17,.int 8]) ⟨_,_,_,m5,rfl,rfl,(by show 3<=sizeLine;decide),(.cons ⟨w5_0,rfl⟩ (.cons ⟨w5_1,rfl⟩ (.cons ⟨w5_2,rfl⟩ .nil)))⟩ (.cons (.int _) (.cons (.int _) (.cons (.int _) .nil)))⟩,⟨.int 12,_,PySem.W.mg_of X G g6,⟨_,rfl⟩,fun H B=>.int _⟩,⟨.int 400,_,PySem.W.mg_of X G g7,⟨_,rfl⟩,fun H B=>.int _⟩,⟨.int 60,_,PySem.W.mg_of X G g8,⟨_,rfl⟩,fun H B=>.int _⟩,⟨.int 2,_,PySem.W.mg_of X G g9,⟨_,rfl⟩,fun H B=>.int _⟩,⟨.int 1,_,PySem.W.mg_of X G g10,⟨_,rfl⟩,fun H B=>.int _⟩,⟨.int 0,_,PySem.W.mg_of X G g11,⟨_,rfl⟩,fun H B=>.int _⟩,⟨.int 65536,_,PySem.W.mg_of X G g12,⟨_,rfl⟩,fun H B=>.int _⟩,⟨.int 2,_,PySem.W.mg_of X G g13,⟨_,rfl⟩,fun H B=>.int _⟩,⟨.ref q14,_,PySem.W.mg_of X G g14,rfl,fun H B=>.cT (vs:=[.int 4,.int 8,.int 16]) ⟨_,_,_,m14,rfl,rfl,(by show 3<=sizeLine;decide),(.cons ⟨w14_0,rfl⟩ (.cons ⟨w14_1,rfl⟩ (.cons ⟨w14_2,rfl⟩ .nil)))⟩ (.cons (.int _) (.cons (.int _) (.cons (.int _) .nil)))⟩,⟨q0,_,PySem.W.mg_of X G g0,m0,rfl⟩,⟨dd0,PySem.W.mg_of X G dg0,dz0,_,_,_,dl0,⟨rfl,rfl,rfl⟩,rfl,(.cons rfl ⟨dp0_0,rfl,⟨_,_,_,dm0_0,rfl,rfl,(by show 2<=sizeLine;decide),(.cons ⟨dw0_0_0,rfl⟩ (.cons ⟨dw0_0_1,rfl⟩ .nil))⟩⟩ (.cons rfl ⟨dp0_1,rfl,⟨_,_,_,dm0_1,rfl,rfl,(by show 2<=sizeLine;decide),(.cons ⟨dw0_1_0,rfl⟩ (.cons ⟨dw0_1_1,rfl⟩ .nil))⟩⟩ (.cons rfl ⟨dp0_2,rfl,⟨_,_,_,dm0_2,rfl,rfl,(by show 2<=sizeLine;decide),(.cons ⟨dw0_2_0,rfl⟩ (.cons ⟨dw0_2_1,rfl⟩ .nil))⟩⟩ (.cons rfl ⟨dp0_3,rfl,⟨_,_,_,dm0_3,rfl,rfl,(by show 2<=sizeLine;decide),(.cons ⟨dw0_3_0,rfl⟩ (.cons ⟨dw0_3_1,rfl⟩ .nil))⟩⟩ (.cons rfl ⟨dp0_4,rfl,⟨_,_,_,dm0_4,rfl,rfl,(by show 1<=sizeLine;decide),(.cons ⟨dw0_4_0,rfl⟩ .nil)⟩⟩ (.cons rfl ⟨dp0_5,rfl,⟨_,_,_,dm0_5,rfl,rfl,(by show 1<=sizeLine;decide),(.cons ⟨dw0_5_0,rfl⟩ .nil)⟩⟩ (.cons rfl ⟨dp0_6,rfl,⟨_,_,_,dm0_6,rfl,rfl,(by show 1<=sizeLine;decide),(.cons ⟨dw0_6_0,rfl⟩ .nil)⟩⟩ (.cons rfl ⟨dp0_7,rfl,⟨_,_,_,dm0_7,rfl,rfl,(by show 2<=sizeLine;decide),(.cons ⟨dw0_7_0,rfl⟩ (.cons ⟨dw0_7_1,rfl⟩ .nil))⟩⟩ (.cons rfl ⟨dp0_8,rfl,⟨_,_,_,dm0_8,rfl,rfl,(by show 0<=sizeLine;decide),.nil⟩⟩ .nil)))))))))⟩,⟨_,_,_,_,_,_,_,_,_,_,_,_,_,_,_,PySem.W.mg_of X G mq0,⟨mq1,mq2,mq3,mq4⟩,mq5,mq6,mq7,mq8,⟨mq14,mq9,mq10,mq15⟩,aJ (st:=aC) mq12 mq13 mq11,(aJ (st:=aC) mq12 mq13 mq11).binds (ps:=["self","given"]) (fun _ _ _ _ _ _ us hl=>by obtain⟨_,_,rfl⟩:=Y.ip hl;rfl),⟨mq16,mq17,mq18⟩,aJ (st:=aB) mq19 mq20 mq18,(aJ (st:=aB) mq19 mq20 mq18).binds (ps:=["self","row","behind","end"]) (fun _ _ _ _ _ _ us hl=>by obtain⟨_,_,_,_,rfl⟩:=Y.Gw hl;rfl),⟨mq21,mq22,mq23⟩,aJ (st:=aD) mq24 mq25 mq23,(aJ (st:=aD) mq24 mq25 mq23).binds (ps:=["self","row"]) (fun _ _ _ _ _ _ us hl=>by obtain⟨_,_,rfl⟩:=Y.ip hl;rfl),⟨mq26,mq27,mq28⟩,aJ (st:=aA) mq29 mq30 mq28,(aJ (st:=aA) mq29 mq30 mq28).binds (ps:=["self","row"]) (fun _ _ _ _ _ _ us hl=>by obtain⟨_,_,rfl⟩:=Y.ip hl;rfl),⟨mq31,mq32,mq33⟩,aJ (st:=ay) mq34 mq35 mq33,(aJ (st:=ay) mq34 mq35 mq33).binds (ps:=["self"]) (fun _ _ _ _ _ _ us hl=>by obtain⟨_,rfl⟩:=Y.lD hl;rfl),⟨mq36,mq37,mq38⟩,aJ (st:=ax) mq39 mq40 mq38,(aJ (st:=ax) mq39 mq40 mq38).binds (ps:=["self"]) (fun _ _ _ _ _ _ us hl=>by obtain⟨_,rfl⟩:=Y.lD hl;rfl),⟨mq41,mq42,mq43⟩,aJ (st:=aw) mq44 mq45 mq43,(aJ (st:=aw) mq44 mq45 mq43).binds (ps:=["self"]) (fun _ _ _ _ _ _ us hl=>by obtain⟨_,rfl⟩:=Y.lD hl;rfl)⟩,⟨_,_,_,_,_,_,_,_,_,PySem.W.mg_of X G mq0_1,⟨mq1_1,mq2_1,mq3_1,mq4_1⟩,mq5_1,mq6_1,⟨mq12_1,mq7_1,mq8_1,mq13_1⟩,aJ (st:=aQ) mq10_1 mq11_1 mq9_1,(aJ (st:=aQ) mq10_1 mq11_1 mq9_1).binds (ps:=["self","book"]) (fun _ _ _ _ _ _ us hl=>by obtain⟨_,_,rfl⟩:=Y.ip hl;rfl),⟨mq14_1,mq15_1,mq16_1⟩,aJ (st:=bo) mq17_1 mq18_1 mq16_1,(aJ (st:=bo) mq17_1 mq18_1 mq16_1).binds (ps:=["self","place","row"]) (fun _ _ _ _ _ _ us hl=>by obtain⟨_,_,_,rfl⟩:=Y.v_ hl;rfl),⟨mq19_1,mq20_1,mq21_1⟩,aJ (st:=aP) mq22_1 mq23_1 mq21_1,(aJ (st:=aP) mq22_1 mq23_1 mq21_1).binds (ps:=["self","place"]) (fun _ _ _ _ _ _ us hl=>by obtain⟨_,_,rfl⟩:=Y.ip hl;rfl),⟨mq24_1,mq25_1,mq26_1⟩,aJ (st:=aW) mq27_1 mq28_1 mq26_1,(aJ (st:=aW) mq27_1 mq28_1 mq26_1).binds (ps:=["self"]) (fun _ _ _ _ _ _ us hl=>by obtain⟨_,rfl⟩:=Y.lD hl;rfl)⟩,⟨_,_,_,_,_,_,_,_,_,_,_,_,_,_,_,PySem.W.mg_of X G mq0_2,⟨mq1_2,mq2_2,mq3_2,mq4_2⟩,mq5_2,⟨mq11_2,mq6_2,mq7_2,mq12_2⟩,aJ (st:=aL) mq9_2 mq10_2 mq8_2,(aJ (st:=aL) mq9_2 mq10_2 mq8_2).binds (ps:=["self"]) (fun _ _ _ _ _ _ us hl=>by obtain⟨_,rfl⟩:=Y.lD hl;rfl),⟨mq13_2,mq14_2,mq15_2⟩,aJ (st:=b7) mq16_2 mq17_2 mq15_2,(aJ (st:=b7) mq16_2 mq17_2 mq15_2).binds (ps:=["self","line"]) (fun _ _ _ _ _ _ us hl=>by obtain⟨_,_,rfl⟩:=Y.ip hl;rfl),⟨mq18_2,mq19_2,mq20_2⟩,aJ (st:=bg) mq21_2 mq22_2 mq20_2,(aJ (st:=bg) mq21_2 mq22_2 mq20_2).binds (ps:=["self","word","parts"]) (fun _ _ _ _ _ _ us hl=>by obtain⟨_,_,_,rfl⟩:=Y.v_ hl;rfl),⟨mq23_2,mq24_2,mq25_2⟩,aJ (st:=aX) mq26_2 mq27_2 mq25_2,(aJ (st:=aX) mq26_2 mq27_2 mq25_2).binds (ps:=["self","parts"]) (fun _ _ _ _ _ _ us hl=>by obtain⟨_,_,rfl⟩:=Y.ip hl;rfl),⟨mq28_2,mq29_2,mq30_2⟩,aJ (st:=aR) mq31_2 mq32_2 mq30_2,(aJ (st:=aR) mq31_2 mq32_2 mq30_2).binds (ps:=["self","parts"]) (fun _ _ _ _ _ _ us hl=>by obtain⟨_,_,rfl⟩:=Y.ip hl;rfl),⟨mq33_2,mq34_2,mq35_2⟩,aJ (st:=aG) mq36_2 mq37_2 mq35_2,(aJ (st:=aG) mq36_2 mq37_2 mq35_2).binds (ps:=["self","parts"]) (fun _ _ _ _ _ _ us hl=>by obtain⟨_,_,rfl⟩:=Y.ip hl;rfl),⟨mq38_2,mq39_2,mq40_2⟩,aJ (st:=aH) mq41_2 mq42_2 mq40_2,(aJ (st:=aH) mq41_2 mq42_2 mq40_2).binds (ps:=["self","parts"]) (fun _ _ _ _ _ _ us hl=>by obtain⟨_,_,rfl⟩:=Y.ip hl;rfl)⟩,m9.mk' X G (hX a5 l5 le_by_worth lk_by_worth lw_by_worth),m9.mk' X G (hX a7 l7 le_code_of lk_code_of lw_code_of)⟩
 have F5:HasFn K mg "by_worth" eu ["shelf"]:=cH X G a5 l5 c5 k5 (by walk_at "b1")
 have F7:HasFn K mg "code_of" eW ["lengths"]:=cH X G a7 l7 c7 k7 (by walk_at "b1")
 exact⟨PySem.W.fnOf "law" "law" (aM gR) (aq gR) (aa gR) .none kV59 dc59 pm59 an59 cd59 ct59,fun s v=>.of_eq rfl,fun base _ _=>(DE T F0 F1 F2 F3 F4 F5 F6 F7 F8 F9 F10 F11 F12 F13 F14 F15 F16 F17 F18 F19 F20 F21 F22 F23 F24 F25 F26 F27 F28 F29 F30 F31 F32 F33 F34 F35 F36 F37 F38 F39 F40 F41 F42 F43 F44 F45 F46 F47 F48 F49 F50 F51 F52 F53 F54 F55 F56 F57 F58 (aJ (st:=gR) l59 c59 k59)).mono (by decide)⟩
theorem walk{loose:List Str}{XP:(Str->Option Value)->Heap->Prop}{YP:World->Heap->Prop}{d:DefRec}{K:Params->Nv}(hn:l.most=some 63)(hdf:d.params.defaults=[])
  (hY:∀(w:World) (h:Heap),YP w h->(K w.params).In h)
  (F:∀(w:World) (mg:Str->Option Value) (fa:Addr) (h:Heap),(K w.params).In h->h.Ns mainGlobals mg->mg d.name=some (.ref fa)->∃ fd:FuncData,(∀(s:Shared) (u:Value),BindsTo s fd ⟨[u],[]⟩ [("script",u)])/\∀ base:Heap,(K w.params).In base->base.Ns mainGlobals mg->a_ l.prog w (K w.params) mg base aN 30 fa fd ["script"] (nS (K w.params))) (hL:∀(w:World) (h:Heap),(K w.params).In h->iu q (K w.params)) :
  PySem.W.WalkO q loose XP YP l.row.toRowW d [] (fun f vs=>PySem.call f vs):=
 L2.zc (n:=63) (k:=30) (x:="script") (CX:=fun _=>aN) (sp:=fun w=>nS (K w.params)) hn (by decide) hdf ⟨rfl,by decide,by decide,rfl⟩ hY F (fun _ _ a ns hl _ hS=>⟨a,ns,rfl,hS,hl,fun _=>rfl⟩) (fun _ _ _ _ _ z=>z) hL
theorem Cb(_:K.In h){la_by_worth:Addr}{lo_by_worth:Value}{ld_by_worth:Option Addr}{lfd_by_worth:FuncData}{ls_by_worth:Array (Option Value)}{la_code_of:Addr}{lo_code_of:Value}{ld_code_of:Option Addr}{lfd_code_of:FuncData}{ls_code_of:Array (Option Value)}(nt:PySem.W.noTabs K=true)
  (ma_by_worth:PySem.W.nsIn K mainGlobals "by_worth"=some (some (.ref la_by_worth))) (ml_by_worth:K.lookup la_by_worth=some ⟨lo_by_worth,ld_by_worth,.func lfd_by_worth,ls_by_worth⟩) (mc_by_worth:lfd_by_worth.code=.ref lc_by_worth) (mk_by_worth:K.lookup lc_by_worth=some ⟨lO_by_worth,lD_by_worth,.fields lv_by_worth,lS_by_worth⟩) (mw_by_worth:lv_by_worth[11]?=some (.ref lp_by_worth)) (mr_by_worth:((recsOf q).find? (fun e=>e.name ==("by_worth":Str))).isSome=true)
  (ma_by_weight:PySem.W.nsIn K mainGlobals "by_weight"=some none)
  (ma_code_of:PySem.W.nsIn K mainGlobals "code_of"=some (some (.ref la_code_of))) (ml_code_of:K.lookup la_code_of=some ⟨lo_code_of,ld_code_of,.func lfd_code_of,ls_code_of⟩) (mc_code_of:lfd_code_of.code=.ref lc_code_of) (mk_code_of:K.lookup lc_code_of=some ⟨lO_code_of,lD_code_of,.fields lv_code_of,lS_code_of⟩) (mw_code_of:lv_code_of[11]?=some (.ref lp_code_of)) (mr_code_of:((recsOf q).find? (fun e=>e.name ==("code_of":Str))).isSome=true)
  (mn:[lp_by_worth,lp_code_of].Nodup)
  : iu q K:=iu.of nt (hX ma_by_worth ml_by_worth mc_by_worth mk_by_worth mw_by_worth) (qH ma_by_weight) (hX ma_code_of ml_code_of mc_code_of mk_code_of mw_code_of) (by first|exact mn|simp) (.inr mr_by_worth) (.inl rfl) (.inr mr_code_of)
end
end G
open PySem PySem.W PyProof.Rows
local macro_rules | `(tactic| walk_at "b1") => `(tactic| (intro _ _ _ _ _ _ us hl; obtain ⟨_, e⟩ := L2.Y.lD hl; subst e; rfl))
local macro_rules | `(tactic| walk_at "b2") => `(tactic| (intro _ _ _ _ _ _ us hl; obtain ⟨_, _, e⟩ := L2.Y.ip hl; subst e; rfl))
local macro_rules | `(tactic| walk_at "b3") => `(tactic| (intro _ _ _ _ _ _ us hl; obtain ⟨_, _, _, e⟩ := L2.Y.v_ hl; subst e; rfl))
local macro_rules | `(tactic| walk_at "b4") => `(tactic| (intro _ _ _ _ _ _ us hl; obtain ⟨_, _, _, _, e⟩ := L2.Y.Gw hl; subst e; rfl))
set_option maxRecDepth 100000 in
set_option maxHeartbeats 0 in
theorem PySem.Challenge.cw_shortrows_k44_desk_runs_holds : PySem.Challenge.rw_shortrows_k44_desk_runs.Holds := by
 w_on;o_law;k_head;(case hw=>w_witness2)
 k_fill
 refine G.walk (l:=PySem.Challenge.rw_shortrows_k44_desk_runs) rfl rfl (fun w h Y=>by first|exact PySem.W.kIn_of Y|exact PySem.W.km_in_of Y) ?F ?L
 case F =>
  intro w mg fa h KX GN hmg
  refine' G.all_mk KX GN hmg (G.cH KX GN ?a0 ?l0 ?c0 ?k0 (by walk_at "b1")) (G.cH KX GN ?a1 ?l1 ?c1 ?k1 (by walk_at "b2")) (G.cH KX GN ?a2 ?l2 ?c2 ?k2 (by walk_at "b1")) (G.cH KX GN ?a3 ?l3 ?c3 ?k3 (by walk_at "b2")) (G.cH KX GN ?a4 ?l4 ?c4 ?k4 (by walk_at "b2")) ?a5 ?l5 ?c5 ?k5 (G.cH KX GN ?a6 ?l6 ?c6 ?k6 (by walk_at "b1")) ?a7 ?l7 ?c7 ?k7 (G.cH KX GN ?a8 ?l8 ?c8 ?k8 (by walk_at "b2")) (G.cH KX GN ?a9 ?l9 ?c9 ?k9 (by walk_at "b3")) (G.cH KX GN ?a10 ?l10 ?c10 ?k10 (by walk_at "b2")) (G.cH KX GN ?a11 ?l11 ?c11 ?k11 (by walk_at "b2")) (G.cH KX GN ?a12 ?l12 ?c12 ?k12 (by walk_at "b1")) (G.cH KX GN ?a13 ?l13 ?c13 ?k13 (by walk_at "b3")) (G.cH KX GN ?a14 ?l14 ?c14 ?k14 (by walk_at "b4")) (G.cH KX GN ?a15 ?l15 ?c15 ?k15 (by walk_at "b3")) (G.cH KX GN ?a16 ?l16 ?c16 ?k16 (by walk_at "b2")) (G.cH KX GN ?a17 ?l17 ?c17 ?k17 (by walk_at "b1")) (G.cH KX GN ?a18 ?l18 ?c18 ?k18 (by walk_at "b2")) (G.cH KX GN ?a19 ?l19 ?c19 ?k19 (by walk_at "b1")) (G.cH KX GN ?a20 ?l20 ?c20 ?k20 (by walk_at "b1")) (G.cH KX GN ?a21 ?l21 ?c21 ?k21 (by walk_at "b2")) (G.cH KX GN ?a22 ?l22 ?c22 ?k22 (by walk_at "b2")) (G.cH KX GN ?a23 ?l23 ?c23 ?k23 (by walk_at "b1")) (G.cH KX GN ?a24 ?l24 ?c24 ?k24 (by walk_at "b2")) (G.cH KX GN ?a25 ?l25 ?c25 ?k25 (by walk_at "b2")) (G.cH KX GN ?a26 ?l26 ?c26 ?k26 (by walk_at "b3")) (G.cH KX GN ?a27 ?l27 ?c27 ?k27 (by walk_at "b3")) (G.cH KX GN ?a28 ?l28 ?c28 ?k28 (by walk_at "b3")) (G.cH KX GN ?a29 ?l29 ?c29 ?k29 (by walk_at "b1")) (G.cH KX GN ?a30 ?l30 ?c30 ?k30 (by walk_at "b1")) (G.cH KX GN ?a31 ?l31 ?c31 ?k31 (by walk_at "b2")) (G.cH KX GN ?a32 ?l32 ?c32 ?k32 (by walk_at "b3")) (G.cH KX GN ?a33 ?l33 ?c33 ?k33 (by walk_at "b2")) (G.cH KX GN ?a34 ?l34 ?c34 ?k34 (by walk_at "b1")) (G.cH KX GN ?a35 ?l35 ?c35 ?k35 (by walk_at "b2")) (G.cH KX GN ?a36 ?l36 ?c36 ?k36 (by walk_at "b3")) (G.cH KX GN ?a37 ?l37 ?c37 ?k37 (by walk_at "b3")) (G.cH KX GN ?a38 ?l38 ?c38 ?k38 (by walk_at "b3")) (G.cH KX GN ?a39 ?l39 ?c39 ?k39 (by walk_at "b4")) (G.cH KX GN ?a40 ?l40 ?c40 ?k40 (by walk_at "b3")) (G.cH KX GN ?a41 ?l41 ?c41 ?k41 (by walk_at "b2")) (G.cH KX GN ?a42 ?l42 ?c42 ?k42 (by walk_at "b1")) (G.cH KX GN ?a43 ?l43 ?c43 ?k43 (by walk_at "b1")) (G.cH KX GN ?a44 ?l44 ?c44 ?k44 (by walk_at "b1")) (G.cH KX GN ?a45 ?l45 ?c45 ?k45 (by walk_at "b1")) (G.cH KX GN ?a46 ?l46 ?c46 ?k46 (by walk_at "b1")) (G.cH KX GN ?a47 ?l47 ?c47 ?k47 (by walk_at "b1")) (G.cH KX GN ?a48 ?l48 ?c48 ?k48 (by walk_at "b2")) (G.cH KX GN ?a49 ?l49 ?c49 ?k49 (by walk_at "b2")) (G.cH KX GN ?a50 ?l50 ?c50 ?k50 (by walk_at "b1")) (G.cH KX GN ?a51 ?l51 ?c51 ?k51 (by walk_at "b2")) (G.cH KX GN ?a52 ?l52 ?c52 ?k52 (by walk_at "b1")) (G.cH KX GN ?a53 ?l53 ?c53 ?k53 (by walk_at "b1")) (G.cH KX GN ?a54 ?l54 ?c54 ?k54 (by walk_at "b1")) (G.cH KX GN ?a55 ?l55 ?c55 ?k55 (by walk_at "b3")) (G.cH KX GN ?a56 ?l56 ?c56 ?k56 (by walk_at "b1")) (G.cH KX GN ?a57 ?l57 ?c57 ?k57 (by walk_at "b1")) (G.cH KX GN ?a58 ?l58 ?c58 ?k58 (by walk_at "b2")) ?a59 ?l59 ?c59 ?k59 ?z0 ?z1 ?z2 ?z3 ?z4 ?z5 ?z6 ?z7 ?z8 ?z9 ?z10 ?z11 ?z12 ?z13 ?z14 ?gq0 ?mq0 ?gq1 ?mq1 ?gq2 ?gq3 ?mq3 ?gq4 ?mq4 ?gq5 ?mq5 ?gq6 ?gq7 ?gq8 ?gq9 ?gq10 ?gq11 ?gq12 ?gq13 ?gq14 ?mq14 ?dg0 ?dz0 ?dl0 ?dm0_0 ?dm0_1 ?dm0_2 ?dm0_3 ?dm0_4 ?dm0_5 ?dm0_6 ?dm0_7 ?dm0_8 ?mq_0 ?mq_1 ?mq_2 ?mq_3 ?mq_4 ?mq_5 ?mq_6 ?mq_7 ?mq_8 ?mq_9 ?mq_10 ?mq_11 ?mq_12 ?mq_13 ?mq_14 ?mq_15 ?mq_16 ?mq_17 ?mq_18 ?mq_19 ?mq_20 ?mq_21 ?mq_22 ?mq_23 ?mq_24 ?mq_25 ?mq_26 ?mq_27 ?mq_28 ?mq_29 ?mq_30 ?mq_31 ?mq_32 ?mq_33 ?mq_34 ?mq_35 ?mq_36 ?mq_37 ?mq_38 ?mq_39 ?mq_40 ?mq_41 ?mq_42 ?mq_43 ?mq_44 ?mq_45 ?mq_0_1 ?mq_1_1 ?mq_2_1 ?mq_3_1 ?mq_4_1 ?mq_5_1 ?mq_6_1 ?mq_7_1 ?mq_8_1 ?mq_9_1 ?mq_10_1 ?mq_11_1 ?mq_12_1 ?mq_13_1 ?mq_14_1 ?mq_15_1 ?mq_16_1 ?mq_17_1 ?mq_18_1 ?mq_19_1 ?mq_20_1 ?mq_21_1 ?mq_22_1 ?mq_23_1 ?mq_24_1 ?mq_25_1 ?mq_26_1 ?mq_27_1 ?mq_28_1 ?mq_0_2 ?mq_1_2 ?mq_2_2 ?mq_3_2 ?mq_4_2 ?mq_5_2 ?mq_6_2 ?mq_7_2 ?mq_8_2 ?mq_9_2 ?mq_10_2 ?mq_11_2 ?mq_12_2 ?mq_13_2 ?mq_14_2 ?mq_15_2 ?mq_16_2 ?mq_17_2 ?mq_18_2 ?mq_19_2 ?mq_20_2 ?mq_21_2 ?mq_22_2 ?mq_23_2 ?mq_24_2 ?mq_25_2 ?mq_26_2 ?mq_27_2 ?mq_28_2 ?mq_29_2 ?mq_30_2 ?mq_31_2 ?mq_32_2 ?mq_33_2 ?mq_34_2 ?mq_35_2 ?mq_36_2 ?mq_37_2 ?mq_38_2 ?mq_39_2 ?mq_40_2 ?mq_41_2 ?mq_42_2 ?le_by_worth ?lk_by_worth ?lw_by_worth ?le_code_of ?lk_code_of ?lw_code_of
  (case a0|l0|c0|k0|a1|l1|c1|k1|a2|l2|c2|k2|a3|l3|c3|k3|a4|l4|c4|k4|a5|l5|c5|k5|a6|l6|c6|k6|a7|l7|c7|k7|a8|l8|c8|k8|a9|l9|c9|k9|a10|l10|c10|k10|a11|l11|c11|k11|a12|l12|c12|k12|a13|l13|c13|k13|a14|l14|c14|k14|a15|l15|c15|k15|a16|l16|c16|k16|a17|l17|c17|k17|a18|l18|c18|k18|a19|l19|c19|k19|a20|l20|c20|k20|a21|l21|c21|k21|a22|l22|c22|k22|a23|l23|c23|k23|a24|l24|c24|k24|a25|l25|c25|k25|a26|l26|c26|k26|a27|l27|c27|k27|a28|l28|c28|k28|a29|l29|c29|k29|a30|l30|c30|k30|a31|l31|c31|k31|a32|l32|c32|k32|a33|l33|c33|k33|a34|l34|c34|k34|a35|l35|c35|k35|a36|l36|c36|k36|a37|l37|c37|k37|a38|l38|c38|k38|a39|l39|c39|k39|a40|l40|c40|k40|a41|l41|c41|k41|a42|l42|c42|k42|a43|l43|c43|k43|a44|l44|c44|k44|a45|l45|c45|k45|a46|l46|c46|k46|a47|l47|c47|k47|a48|l48|c48|k48|a49|l49|c49|k49|a50|l50|c50|k50|a51|l51|c51|k51|a52|l52|c52|k52|a53|l53|c53|k53|a54|l54|c54|k54|a55|l55|c55|k55|a56|l56|c56|k56|a57|l57|c57|k57|a58|l58|c58|k58|a59|l59|c59|k59=>k_is)
  (case z0=>k_is)
  (case z1=>k_is)
  (case z2=>k_is)
  (case z3=>k_is)
  (case z4=>k_is)
  (case z5=>k_is)
  (case z6=>k_is)
  (case z7=>k_is)
  (case z8=>k_is)
  (case z9=>k_is)
  (case z10=>k_is)
  (case z11=>k_is)
  (case z12=>k_is)
  (case z13=>k_is)
  (case z14=>k_is)
  (case gq0=>k_is)
  (case mq0=>k_is)
  (case gq1=>k_is)
  (case mq1=>k_is)
  (case gq2=>k_is)
  (case gq3=>k_is)
  (case mq3=>k_is)
  (case gq4=>k_is)
  (case mq4=>k_is)
  (case gq5=>k_is)
  (case mq5=>k_is)
  (case gq6=>k_is)
  (case gq7=>k_is)
  (case gq8=>k_is)
  (case gq9=>k_is)
  (case gq10=>k_is)
  (case gq11=>k_is)
  (case gq12=>k_is)
  (case gq13=>k_is)
  (case gq14=>k_is)
  (case mq14=>k_is)
  (case dg0=>k_is)
  (case dl0=>k_is)
  (case dm0_0=>k_is)
  (case dm0_1=>k_is)
  (case dm0_2=>k_is)
  (case dm0_3=>k_is)
  (case dm0_4=>k_is)
  (case dm0_5=>k_is)
  (case dm0_6=>k_is)
  (case dm0_7=>k_is)
  (case dm0_8=>k_is)
  (case dz0=>rfl)
  (case mq_0=>k_is)
  (case mq_1=>k_is)
  (case mq_2=>k_is)
  (case mq_3=>k_is)
  (case mq_4=>k_is)
  (case mq_5=>k_is)
  (case mq_6=>k_is)
  (case mq_7=>k_is)
  (case mq_8=>k_is)
  (case mq_9=>k_is)
  (case mq_10=>k_is)
  (case mq_11=>k_is)
  (case mq_12=>k_is)
  (case mq_13=>k_is)
  (case mq_14=>k_is)
  (case mq_15=>k_is)
  (case mq_16=>k_is)
  (case mq_17=>k_is)
  (case mq_18=>k_is)
  (case mq_19=>k_is)
  (case mq_20=>k_is)
  (case mq_21=>k_is)
  (case mq_22=>k_is)
  (case mq_23=>k_is)
  (case mq_24=>k_is)
  (case mq_25=>k_is)
  (case mq_26=>k_is)
  (case mq_27=>k_is)
  (case mq_28=>k_is)
  (case mq_29=>k_is)
  (case mq_30=>k_is)
  (case mq_31=>k_is)
  (case mq_32=>k_is)
  (case mq_33=>k_is)
  (case mq_34=>k_is)
  (case mq_35=>k_is)
  (case mq_36=>k_is)
  (case mq_37=>k_is)
  (case mq_38=>k_is)
  (case mq_39=>k_is)
  (case mq_40=>k_is)
  (case mq_41=>k_is)
  (case mq_42=>k_is)
  (case mq_43=>k_is)
  (case mq_44=>k_is)
  (case mq_45=>k_is)
  (case mq_0_1=>k_is)
  (case mq_1_1=>k_is)
  (case mq_2_1=>k_is)
  (case mq_3_1=>k_is)
  (case mq_4_1=>k_is)
  (case mq_5_1=>k_is)
  (case mq_6_1=>k_is)
  (case mq_7_1=>k_is)
  (case mq_8_1=>k_is)
  (case mq_9_1=>k_is)
  (case mq_10_1=>k_is)
  (case mq_11_1=>k_is)
  (case mq_12_1=>k_is)
  (case mq_13_1=>k_is)
  (case mq_14_1=>k_is)
  (case mq_15_1=>k_is)
  (case mq_16_1=>k_is)
  (case mq_17_1=>k_is)
  (case mq_18_1=>k_is)
  (case mq_19_1=>k_is)
  (case mq_20_1=>k_is)
  (case mq_21_1=>k_is)
  (case mq_22_1=>k_is)
  (case mq_23_1=>k_is)
  (case mq_24_1=>k_is)
  (case mq_25_1=>k_is)
  (case mq_26_1=>k_is)
  (case mq_27_1=>k_is)
  (case mq_28_1=>k_is)
  (case mq_0_2=>k_is)
  (case mq_1_2=>k_is)
  (case mq_2_2=>k_is)
  (case mq_3_2=>k_is)
  (case mq_4_2=>k_is)
  (case mq_5_2=>k_is)
  (case mq_6_2=>k_is)
  (case mq_7_2=>k_is)
  (case mq_8_2=>k_is)
  (case mq_9_2=>k_is)
  (case mq_10_2=>k_is)
  (case mq_11_2=>k_is)
  (case mq_12_2=>k_is)
  (case mq_13_2=>k_is)
  (case mq_14_2=>k_is)
  (case mq_15_2=>k_is)
  (case mq_16_2=>k_is)
  (case mq_17_2=>k_is)
  (case mq_18_2=>k_is)
  (case mq_19_2=>k_is)
  (case mq_20_2=>k_is)
  (case mq_21_2=>k_is)
  (case mq_22_2=>k_is)
  (case mq_23_2=>k_is)
  (case mq_24_2=>k_is)
  (case mq_25_2=>k_is)
  (case mq_26_2=>k_is)
  (case mq_27_2=>k_is)
  (case mq_28_2=>k_is)
  (case mq_29_2=>k_is)
  (case mq_30_2=>k_is)
  (case mq_31_2=>k_is)
  (case mq_32_2=>k_is)
  (case mq_33_2=>k_is)
  (case mq_34_2=>k_is)
  (case mq_35_2=>k_is)
  (case mq_36_2=>k_is)
  (case mq_37_2=>k_is)
  (case mq_38_2=>k_is)
  (case mq_39_2=>k_is)
  (case mq_40_2=>k_is)
  (case mq_41_2=>k_is)
  (case mq_42_2=>k_is)
  (case le_by_worth=>exact rfl)
  (case lk_by_worth=>k_is)
  (case lw_by_worth=>exact rfl)
  (case le_code_of=>exact rfl)
  (case lk_code_of=>k_is)
  (case lw_code_of=>exact rfl)
 case L =>
  intro w h KX
  refine' G.Cb KX (by kernel_rfl) ?ma_by_worth ?ml_by_worth ?mc_by_worth ?mk_by_worth ?mw_by_worth ?mr_by_worth ?ma_by_weight ?ma_code_of ?ml_code_of ?mc_code_of ?mk_code_of ?mw_code_of ?mr_code_of ?mn
  (case ma_by_worth=>k_is)
  (case ml_by_worth=>k_is)
  (case mc_by_worth=>exact rfl)
  (case mk_by_worth=>k_is)
  (case mw_by_worth=>exact rfl)
  (case mr_by_worth=>exact rfl)
  (case ma_by_weight=>k_is)
  (case ma_code_of=>k_is)
  (case ml_code_of=>k_is)
  (case mc_code_of=>exact rfl)
  (case mk_code_of=>k_is)
  (case mw_code_of=>exact rfl)
  (case mr_code_of=>exact rfl)
  (case mn=>decide)
end
