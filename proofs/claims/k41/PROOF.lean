import PyProof.Rows.All
import Wide.All
import OpenK.AllK
import Wide.FinOn
import HandS.Lambda
import HandS.ForMost
import HandS.ForExc
import HandS.ExcInit
import HandS.ExcField
import HandS.EndTab
import HandS.Defaults
import HandS.Wide
import HandS.IsInst
import HandS.ClsMeth
import HandS.Zip
import HandS.Codes
import HandS.CallSlots
import HandS.FStr
import HandS.FStrTup
import HandS.DictComp
import HandS.More
import HandS.Strs
import HandS.SortInts
import KE.SortData
import HandS.TupSets
import HandS.Walk
import HandS.Style
import HandS.TupAny
import HandS.TupLe
import HandS.Deep
import KE.DataMinMax
import HandS.Ends
import HandS.Exc
import KE.KItem
import PyProof.TupleOfSeq
import HandS.ExcValue
import KE.KExcInit
import PyProof.ExcBaseAll.LookupError
import PyProof.ReprLen
import PyProof.Rows.NestShow
import PyProof.Rows.ReprR
import PyProof.Rows.RegStrFacts
import PyProof.Seq
import PyProof.Rows.TupIter
import HandS.Text
import HandS.StrMore
import HandS.Star
import HandS.Conv
import HandS.MakeKwOnly
import HandS.OwnEq
import OpenK.KOps
import HandS.List
import HandS.EndOwn
import KE.KNestM
import PySem.Challenge.RW_doubtwell_k41_invalid_query_text
set_option Elab.async false
set_option linter.all false
set_option maxRecDepth 100000
set_option maxHeartbeats 4000000
set_option exponentiation.threshold 9000
section
open PySem PySem.W PyProof.Rows
set_option maxHeartbeats 0
def PySem.W.Fast.tw1039454869178304066 : Unit := ()
def PySem.W.Fast.tw18139326135824129473 : Unit := ()
def PySem.W.Fast.tw6698386531196389229 : Unit := ()
def PySem.W.Fast.tw3195603611561366417 : Unit := ()
def PySem.W.Fast.tw11160832360739093452 : Unit := ()
def PySem.W.Fast.tw563532150887524920 : Unit := ()
def PySem.W.Fast.tw17605648875959401957 : Unit := ()
def PySem.W.Fast.tw12838935836511343406 : Unit := ()
def PySem.W.Fast.tw2983964758862829441 : Unit := ()
def PySem.W.Fast.tw3807790404398938085 : Unit := ()
def PySem.W.Fast.tw5172362332129155765 : Unit := ()
def PySem.W.Fast.tw10576976516692246803 : Unit := ()
def PySem.W.Fast.tw1943856230345356909 : Unit := ()
def PySem.W.Fast.tw1825204691822353257 : Unit := ()
def PySem.W.Fast.tw5436355071810748032 : Unit := ()
def PySem.W.Fast.tw17350237667126794072 : Unit := ()
def PySem.W.Fast.tw17466706966794875128 : Unit := ()
def PySem.W.Fast.tw17918531657354386235 : Unit := ()
def PySem.W.Fast.tw5246339097896074020 : Unit := ()
def PySem.W.Fast.tw1453788786958927200 : Unit := ()
def PySem.W.Fast.tw7815962478202041022 : Unit := ()
def PySem.W.Fast.tw12121721849089362642 : Unit := ()
def PySem.W.Fast.tw17921034054288919746 : Unit := ()
def PySem.W.Fast.tw7357444548464653620 : Unit := ()
def PySem.W.Fast.tw6159879709204853219 : Unit := ()
def PySem.W.Fast.tw11586019265082173504 : Unit := ()
def PySem.W.Fast.tw4980154498802139664 : Unit := ()
def PySem.W.Fast.tw1833125346594626287 : Unit := ()
def PySem.W.Fast.tw7879527967910843773 : Unit := ()
def PySem.W.Fast.tw16368693024618442697 : Unit := ()
def PySem.W.Fast.tw17296377821792173929 : Unit := ()
def PySem.W.Fast.tw15397338281463833548 : Unit := ()
def PySem.W.Fast.tw4853029729908327841 : Unit := ()
def PySem.W.Fast.tw12371277595074857813 : Unit := ()
def PySem.W.Fast.tw885639342041059159 : Unit := ()
def PySem.W.Fast.tw7007761060559616996 : Unit := ()
def PySem.W.Fast.tw18416872899705153731 : Unit := ()
def PySem.W.Fast.tw17253313942751820975 : Unit := ()
def PySem.W.Fast.tw1672753863179491340 : Unit := ()
def PySem.W.Fast.tw18395328778567734920 : Unit := ()
def PySem.W.Fast.tw4367688524178884432 : Unit := ()
def PySem.W.Fast.tw6712884580360973204 : Unit := ()
def PySem.W.Fast.tw9266298405977446861 : Unit := ()
def PySem.W.Fast.tw888666666395994298 : Unit := ()
def PySem.W.Fast.tw10058232802336475509 : Unit := ()
def PySem.W.Fast.tw14801928753699803278 : Unit := ()
def PySem.W.Fast.tw11487111287063066737 : Unit := ()
def PySem.W.Fast.tw13498958425397685000 : Unit := ()
def PySem.W.Fast.tw10526892228954856835 : Unit := ()
def PySem.W.Fast.tw2956975771751656685 : Unit := ()
def PySem.W.Fast.tw12296246476691936215 : Unit := ()
def PySem.W.Fast.tw8427028245199625513 : Unit := ()
def PySem.W.Fast.tw6949888077547565228 : Unit := ()
def PySem.W.Fast.tw6866974233039659421 : Unit := ()
def PySem.W.Fast.tw6224838576328480578 : Unit := ()
def PySem.W.Fast.tw9315390403945525641 : Unit := ()
def PySem.W.Fast.tw4146999299721700494 : Unit := ()
def PySem.W.Fast.tw12709836964901627588 : Unit := ()
def PySem.W.Fast.tw3273185355340470769 : Unit := ()
def PySem.W.Fast.tw9873288176020651124 : Unit := ()
def PySem.W.Fast.tw14555798560900494194 : Unit := ()
def PySem.W.Fast.tw12288784278648411313 : Unit := ()
def PySem.W.Fast.tw7604971434870457619 : Unit := ()
def PySem.W.Fast.tw10327078402308768299 : Unit := ()
def PySem.W.Fast.tw10720537909545121090 : Unit := ()
def PySem.W.Fast.tw12173492228117009520 : Unit := ()
def PySem.W.Fast.tw16942220196670109228 : Unit := ()
def PySem.W.Fast.tw4767486096289122237 : Unit := ()
def PySem.W.Fast.tw17476913118807956767 : Unit := ()
def PySem.W.Fast.tw11083102076697437103 : Unit := ()
def PySem.W.Fast.tw8731950983652473925 : Unit := ()
def PySem.W.Fast.tw6422746472254002652 : Unit := ()
def PySem.W.Fast.tw10679766926002642942 : Unit := ()
def PySem.W.Fast.tw8753880666565739699 : Unit := ()
def PySem.W.Fast.tw11386642568402661028 : Unit := ()
def PySem.W.Fast.tw4693631130481632962 : Unit := ()
def PySem.W.Fast.tw6542336352448163544 : Unit := ()
def PySem.W.Fast.tw6105180097049662775 : Unit := ()
def PySem.W.Fast.tw323445549700867825 : Unit := ()
def PySem.W.Fast.tw10959690414686534594 : Unit := ()
def PySem.W.Fast.tw9400496659538523061 : Unit := ()
def PySem.W.Fast.tw16196503542340851952 : Unit := ()
def PySem.W.Fast.tw17959941984012237330 : Unit := ()
def PySem.W.Fast.tw7409470154003343927 : Unit := ()
def PySem.W.Fast.tw3494268570096630793 : Unit := ()
def PySem.W.Fast.tw10181176989561659864 : Unit := ()
def PySem.W.Fast.tw10234405245953415005 : Unit := ()
def PySem.W.Fast.tw5835842734425748580 : Unit := ()
def PySem.W.Fast.tw12612093214685045404 : Unit := ()
def PySem.W.Fast.tw4010894749665837442 : Unit := ()
def PySem.W.Fast.tw3456847426371729397 : Unit := ()
def PySem.W.Fast.tw9836417009237931701 : Unit := ()
def PySem.W.Fast.tw9232216911542173927 : Unit := ()
def PySem.W.Fast.tw16925887835908949565 : Unit := ()
def PySem.W.Fast.tw12359986572831255476 : Unit := ()
def PySem.W.Fast.tw16002892270921868034 : Unit := ()
def PySem.W.Fast.tw15081052595035508832 : Unit := ()
def PySem.W.Fast.tw1084933613331348036 : Unit := ()
def PySem.W.Fast.tw7165789520336029501 : Unit := ()
def PySem.W.Fast.tw16116076995100796129 : Unit := ()
def PySem.W.Fast.tw12090217850560309288 : Unit := ()
def PySem.W.Fast.tw6586462901859080031 : Unit := ()
def PySem.W.Fast.tw17658556913038555989 : Unit := ()
def PySem.W.Fast.tw10802526997759192154 : Unit := ()
def PySem.W.Fast.tw4659968994764554915 : Unit := ()
def PySem.W.Fast.tw4970019255623206018 : Unit := ()
def PySem.W.Fast.tw10550414027402314561 : Unit := ()
def PySem.W.Fast.tw12180902131597515429 : Unit := ()
def PySem.W.Fast.tw17492361311315983036 : Unit := ()
def PySem.W.Fast.tw5135724140327201710 : Unit := ()
def PySem.W.Fast.tw13545232827291543173 : Unit := ()
def PySem.W.Fast.tw5115010225367865639 : Unit := ()
def PySem.W.Fast.tw271328732425147722 : Unit := ()
def PySem.W.Fast.tw3104321521999639069 : Unit := ()
def PySem.W.Fast.tw11504137551649097933 : Unit := ()
def PySem.W.Fast.tw125522924728318881 : Unit := ()
def PySem.W.Fast.tw17385870598678853198 : Unit := ()
def PySem.W.Fast.tw11331621965254088255 : Unit := ()
def PySem.W.Fast.tw6244260478290993033 : Unit := ()
def PySem.W.Fast.tw7055107845009837716 : Unit := ()
def PySem.W.Fast.tw9172798711923834037 : Unit := ()
def PySem.W.Fast.tw2814475303121653820 : Unit := ()
def PySem.W.Fast.tw8241945182522260772 : Unit := ()
def PySem.W.Fast.tw11521255972381460690 : Unit := ()
def PySem.W.Fast.tw16002051096530894980 : Unit := ()
def PySem.W.Fast.tw10111823683361542137 : Unit := ()
def PySem.W.Fast.tw6420499203465947586 : Unit := ()
def PySem.W.Fast.tw18118226536325385204 : Unit := ()
def PySem.W.Fast.tw14660907906971979283 : Unit := ()
def PySem.W.Fast.tw2550734010130329735 : Unit := ()
def PySem.W.Fast.tw13646700503510936444 : Unit := ()
def PySem.W.Fast.tw5061011682621566590 : Unit := ()
def PySem.W.Fast.tw4029572214169051841 : Unit := ()
def PySem.W.Fast.tw3395449344083328415 : Unit := ()
def PySem.W.Fast.tw3911484086290558900 : Unit := ()
def PySem.W.Fast.tw9865058622868480545 : Unit := ()
def PySem.W.Fast.tw4465048506186041340 : Unit := ()
def PySem.W.Fast.tw1114883791802931719 : Unit := ()
def PySem.W.Fast.tw17064390172454543651 : Unit := ()
def PySem.W.Fast.tw5582292743603914003 : Unit := ()
def PySem.W.Fast.tw4142234268142190804 : Unit := ()
def PySem.W.Fast.tw17014631851831871574 : Unit := ()
def PySem.W.Fast.tw859757749168813257 : Unit := ()
def PySem.W.Fast.tw14093270642159174646 : Unit := ()
def PySem.W.Fast.tw17337416253178843854 : Unit := ()
def PySem.W.Fast.tw8738388378277587873 : Unit := ()
def PySem.W.Fast.tw11780082447361860393 : Unit := ()
def PySem.W.Fast.tw15866185140289855737 : Unit := ()
def PySem.W.Fast.tw3187641653228303045 : Unit := ()
def PySem.W.Fast.tw12832126196293389657 : Unit := ()
def PySem.W.Fast.tw12675590001656893180 : Unit := ()
def PySem.W.Fast.tw7110265026848050828 : Unit := ()
def PySem.W.Fast.tw14615640191373625177 : Unit := ()
def PySem.W.Fast.tw12398608640307350644 : Unit := ()
def PySem.W.Fast.tw690418233074615987 : Unit := ()
def PySem.W.Fast.tw4595746069805255367 : Unit := ()
def PySem.W.Fast.tw17626121376838057700 : Unit := ()
def PySem.W.Fast.tw2093018599955044064 : Unit := ()
def PySem.W.Fast.tw6377659051780657687 : Unit := ()
def PySem.W.Fast.tw9569225507470867748 : Unit := ()
def PySem.W.Fast.tw12482211349072346025 : Unit := ()
def PySem.W.Fast.tw16025375222330403253 : Unit := ()
def PySem.W.Fast.tw11166946453066169874 : Unit := ()
def PySem.W.Fast.tw1334950874883818711 : Unit := ()
def PySem.W.Fast.tw11348158003565904160 : Unit := ()
def PySem.W.Fast.tw10102408961297760843 : Unit := ()
def PySem.W.Fast.tw5346583038108115148 : Unit := ()
def PySem.W.Fast.tw2277248879066567370 : Unit := ()
def PySem.W.Fast.tw17325556153675091760 : Unit := ()
def PySem.W.Fast.tw1994657664779952430 : Unit := ()
def PySem.W.Fast.tw9117130391600178595 : Unit := ()
def PySem.W.Fast.tw15486658828031725618 : Unit := ()
def PySem.W.Fast.tw12830810220684777375 : Unit := ()
def PySem.W.Fast.tw16441519797598016090 : Unit := ()
def PySem.W.Fast.tw2603285776591437718 : Unit := ()
def PySem.W.Fast.tw8098725108104513698 : Unit := ()
def PySem.W.Fast.tw7820895167653502360 : Unit := ()
def PySem.W.Fast.tw14731584815353984417 : Unit := ()
def PySem.W.Fast.tw12737663264561602618 : Unit := ()
def PySem.W.Fast.tw14423323913315001576 : Unit := ()
def PySem.W.Fast.tw14574258659412761315 : Unit := ()
def PySem.W.Fast.tw8023095777088581215 : Unit := ()
def PySem.W.Fast.tw5955742320926800643 : Unit := ()
def PySem.W.Fast.tw7184476651800612664 : Unit := ()
def PySem.W.Fast.tw15075898542166732552 : Unit := ()
def PySem.W.Fast.tw6269782528402429989 : Unit := ()
def PySem.W.Fast.tw10774043815669007323 : Unit := ()
def PySem.W.Fast.tw5404964055286031432 : Unit := ()
def PySem.W.Fast.tw9732431786650915541 : Unit := ()
def PySem.W.Fast.tw8636044311863504274 : Unit := ()
def PySem.W.Fast.tw17592551984705546246 : Unit := ()
def PySem.W.Fast.tw14229639595385728775 : Unit := ()
def PySem.W.Fast.tw6214156532590779015 : Unit := ()
def PySem.W.Fast.tw9120743730747503050 : Unit := ()
def PySem.W.Fast.tw4046735638739527377 : Unit := ()
def PySem.W.Fast.tw10396291085608543798 : Unit := ()
def PySem.W.Fast.tw13053532177392646418 : Unit := ()
def PySem.W.Fast.tw4039903285840614041 : Unit := ()
def PySem.W.Fast.tw7776729623583040090 : Unit := ()
def PySem.W.Fast.tw10561255461980285161 : Unit := ()
def PySem.W.Fast.tw2670393935266674216 : Unit := ()
def PySem.W.Fast.tw5811959455923819908 : Unit := ()
def PySem.W.Fast.tw16134636029745017640 : Unit := ()
def PySem.W.Fast.tw1105140046839191846 : Unit := ()
def PySem.W.Fast.tw17355430316087974750 : Unit := ()
def PySem.W.Fast.tw13928514844921281127 : Unit := ()
def PySem.W.Fast.tw2174019953002756831 : Unit := ()
def PySem.W.Fast.tw3699169760803139623 : Unit := ()
def PySem.W.Fast.tw17278525250755848874 : Unit := ()
def PySem.W.Fast.tw12467143053613324781 : Unit := ()
def PySem.W.Fast.tw16372498798732334164 : Unit := ()
def PySem.W.Fast.tw9756808383599847377 : Unit := ()
def PySem.W.Fast.tw9705566310075025840 : Unit := ()
def PySem.W.Fast.tw157430061679298494 : Unit := ()
def PySem.W.Fast.tw5995243953676393426 : Unit := ()
def PySem.W.Fast.tw3287520931699360707 : Unit := ()
def PySem.W.Fast.tw18249300359495389403 : Unit := ()
def PySem.W.Fast.tw813255586857978634 : Unit := ()
def PySem.W.Fast.tw4323162717108832716 : Unit := ()
def PySem.W.Fast.tw4748692785504536370 : Unit := ()
def PySem.W.Fast.tw7227389724130725998 : Unit := ()
def PySem.W.Fast.tw1760049898574338507 : Unit := ()
def PySem.W.Fast.tw11521463686614908372 : Unit := ()
def PySem.W.Fast.tw5244286947117776107 : Unit := ()
def PySem.W.Fast.tw18319505820309930173 : Unit := ()
def PySem.W.Fast.tw5465970294022778235 : Unit := ()
def PySem.W.Fast.tw463254314778056776 : Unit := ()
def PySem.W.Fast.tw4251133759506174358 : Unit := ()
def PySem.W.Fast.tw6759220440962474094 : Unit := ()
def PySem.W.Fast.tw3351025245487475841 : Unit := ()
def PySem.W.Fast.tw12764770032931155873 : Unit := ()
def PySem.W.Fast.tw8922794314366607463 : Unit := ()
def PySem.W.Fast.tw14735649493806626541 : Unit := ()
def PySem.W.Fast.tw14799988796487511958 : Unit := ()
def PySem.W.Fast.tw6521036792544509375 : Unit := ()
def PySem.W.Fast.tw10984214126558942966 : Unit := ()
def PySem.W.Fast.tw16147948660493996359 : Unit := ()
def PySem.W.Fast.tw9540309567254272472 : Unit := ()
def PySem.W.Fast.tw2344496615460664156 : Unit := ()
def PySem.W.Fast.tw9622135166583110908 : Unit := ()
def PySem.W.Fast.tw13494970397085999267 : Unit := ()
def PySem.W.Fast.tw15291990502610980005 : Unit := ()
def PySem.W.Fast.tw5586369396400567790 : Unit := ()
def PySem.W.Fast.tw5248274420536062686 : Unit := ()
def PySem.W.Fast.tw6302669392229400573 : Unit := ()
def PySem.W.Fast.tw8673825059053865605 : Unit := ()
def PySem.W.Fast.tw13790895512721573653 : Unit := ()
def PySem.W.Fast.tw928818613326770403 : Unit := ()
def PySem.W.Fast.tw8336407150568947164 : Unit := ()
def PySem.W.Fast.tw3461240660764468619 : Unit := ()
def PySem.W.Fast.tw11065729765906999887 : Unit := ()
def PySem.W.Fast.tw6903675275475726501 : Unit := ()
def PySem.W.Fast.tw1110103474531678191 : Unit := ()
def PySem.W.Fast.tw10046977590532170375 : Unit := ()
def PySem.W.Fast.tw10773322219859377449 : Unit := ()
def PySem.W.Fast.tw13286913899458654268 : Unit := ()
def PySem.W.Fast.tw15499539086775429026 : Unit := ()
def PySem.W.Fast.tw17174509350543036136 : Unit := ()
def PySem.W.Fast.tw3138453192045271772 : Unit := ()
def PySem.W.Fast.tw11328351692613519507 : Unit := ()
def PySem.W.Fast.tw14457724290608792583 : Unit := ()
def PySem.W.Fast.tw4781966360533335228 : Unit := ()
def PySem.W.Fast.tw12579332975047376655 : Unit := ()
def PySem.W.Fast.tw10472799160954491 : Unit := ()
def PySem.W.Fast.tw9509261853318834091 : Unit := ()
def PySem.W.Fast.tw7442464318984904540 : Unit := ()
def PySem.W.Fast.tw14948402560881819231 : Unit := ()
def PySem.W.Fast.tw17382341510945117390 : Unit := ()
def PySem.W.Fast.tw5860600930688934763 : Unit := ()
def PySem.W.Fast.tw6955773223170651909 : Unit := ()
def PySem.W.Fast.tw8035670849788597757 : Unit := ()
def PySem.W.Fast.tw71427401615484497 : Unit := ()
def PySem.W.Fast.tw13439709586870321499 : Unit := ()
def PySem.W.Fast.tw17836263018609423893 : Unit := ()
def PySem.W.Fast.tw6192694807179614446 : Unit := ()
def PySem.W.Fast.tw5979575736681333845 : Unit := ()
def PySem.W.Fast.tw4971232440582915198 : Unit := ()
def PySem.W.Fast.tw2499602826522967356 : Unit := ()
def PySem.W.Fast.tw16238974211889437990 : Unit := ()
def PySem.W.Fast.tw15916938603531006498 : Unit := ()
def PySem.W.Fast.tw10242502979202952437 : Unit := ()
def PySem.W.Fast.tw3616287630402743873 : Unit := ()
def PySem.W.Fast.tw16283217953242104520 : Unit := ()
def PySem.W.Fast.tw14036488919188368898 : Unit := ()
def PySem.W.Fast.tw6670876950571734317 : Unit := ()
def PySem.W.Fast.tw8796108279797375266 : Unit := ()
def PySem.W.Fast.tw5273383312660415582 : Unit := ()
def PySem.W.Fast.tw448905734957748104 : Unit := ()
def PySem.W.Fast.tw9100195876463522845 : Unit := ()
def PySem.W.Fast.tw15203588971696596241 : Unit := ()
def PySem.W.Fast.tw10477626248787848055 : Unit := ()
def PySem.W.Fast.tw18121553930300144752 : Unit := ()
def PySem.W.Fast.tw1758980593405739226 : Unit := ()
def PySem.W.Fast.tw12483047089321887093 : Unit := ()
def PySem.W.Fast.tw15804064388944549628 : Unit := ()
def PySem.W.Fast.tw7180189539593570182 : Unit := ()
def PySem.W.Fast.tw12746838889407116090 : Unit := ()
def PySem.W.Fast.tw5812305859769792227 : Unit := ()
def PySem.W.Fast.tw2971479273347520091 : Unit := ()
def PySem.W.Fast.tw4162175423957718861 : Unit := ()
def PySem.W.Fast.tw13036410381912120971 : Unit := ()
def PySem.W.Fast.tw7143089249750945142 : Unit := ()
def PySem.W.Fast.tw3663245186081045345 : Unit := ()
def PySem.W.Fast.tw14114391308269273416 : Unit := ()
def PySem.W.Fast.tw6253122044518046335 : Unit := ()
def PySem.W.Fast.tw616521745085984471 : Unit := ()
def PySem.W.Fast.tw13510676716704808345 : Unit := ()
def PySem.W.Fast.tw13903466503220908709 : Unit := ()
def PySem.W.Fast.tw9229211234023132660 : Unit := ()
def PySem.W.Fast.tw8722506902101961692 : Unit := ()
def PySem.W.Fast.tw6901705553764142812 : Unit := ()
def PySem.W.Fast.tw14575608536108071702 : Unit := ()
def PySem.W.Fast.tw10922162992407168794 : Unit := ()
def PySem.W.Fast.tw4287280512446332634 : Unit := ()
def PySem.W.Fast.tw12474093069462094588 : Unit := ()
def PySem.W.Fast.tw6568110869983616816 : Unit := ()
def PySem.W.Fast.tw14249347996007126570 : Unit := ()
def PySem.W.Fast.tw14586917197404863409 : Unit := ()
def PySem.W.Fast.tw16644338068925828007 : Unit := ()
def PySem.W.Fast.tw15266131853276855077 : Unit := ()
def PySem.W.Fast.tw3790598460838209277 : Unit := ()
def PySem.W.Fast.tw5770471439663268509 : Unit := ()
def PySem.W.Fast.tw10505023725999950786 : Unit := ()
def PySem.W.Fast.tw14770025869387870541 : Unit := ()
def PySem.W.Fast.tw15780923183855956866 : Unit := ()
def PySem.W.Fast.tw16526486956825267942 : Unit := ()
def PySem.W.Fast.tw8639511477075146893 : Unit := ()
def PySem.W.Fast.tw17531569725755176611 : Unit := ()
def PySem.W.Fast.tw7924885634398642404 : Unit := ()
def PySem.W.Fast.tw17907890011629840239 : Unit := ()
def PySem.W.Fast.tw18032542678782230401 : Unit := ()
def PySem.W.Fast.tw5925390881335382088 : Unit := ()
def PySem.W.Fast.tw818977597595050078 : Unit := ()
def PySem.W.Fast.tw2785803096471560637 : Unit := ()
def PySem.W.Fast.tw10206535535184795463 : Unit := ()
def PySem.W.Fast.tw18416679176505804360 : Unit := ()
def PySem.W.Fast.tw5924130015229207550 : Unit := ()
def PySem.W.Fast.tw18254061965575513488 : Unit := ()
def PySem.W.Fast.tw1796049066312610865 : Unit := ()
def PySem.W.Fast.tw13160934262200825073 : Unit := ()
def PySem.W.Fast.tw5771798170459206956 : Unit := ()
def PySem.W.Fast.tw3049810030715799845 : Unit := ()
def PySem.W.Fast.tw8902728159850309710 : Unit := ()
def PySem.W.Fast.tw15871599131992930903 : Unit := ()
def PySem.W.Fast.tw5071328917119246338 : Unit := ()
def PySem.W.Fast.tw9834888823388008053 : Unit := ()
def PySem.W.Fast.tw7251972643941953581 : Unit := ()
def PySem.W.Fast.tw10199240778889127624 : Unit := ()
def PySem.W.Fast.tw11537786676355626350 : Unit := ()
def PySem.W.Fast.tw17955662050334906029 : Unit := ()
def PySem.W.Fast.tw7997842753928941037 : Unit := ()
def PySem.W.Fast.tw6094851424298295874 : Unit := ()
def PySem.W.Fast.tw13342086632713338495 : Unit := ()
def PySem.W.Fast.tw2554282631920970038 : Unit := ()
def PySem.W.Fast.tw3762877482170831966 : Unit := ()
def PySem.W.Fast.tw11045728662115200308 : Unit := ()
def PySem.W.Fast.tw14193629410022737036 : Unit := ()
def PySem.W.Fast.tw6131768407884713781 : Unit := ()
def PySem.W.Fast.tw5049830263479039676 : Unit := ()
def PySem.W.Fast.tw2554473727005525423 : Unit := ()
def PySem.W.Fast.tw11728110609792841837 : Unit := ()
def PySem.W.Fast.tw13439289048070596184 : Unit := ()
def PySem.W.Fast.tw13362941427274524954 : Unit := ()
def PySem.W.Fast.tw606845485869610941 : Unit := ()
def PySem.W.Fast.tw17050967965643057513 : Unit := ()
def PySem.W.Fast.tw8335729867640177039 : Unit := ()
def PySem.W.Fast.tw2307177307649596850 : Unit := ()
def PySem.W.Fast.tw14308108946099220844 : Unit := ()
def PySem.W.Fast.tw1271508835679109863 : Unit := ()
def PySem.W.Fast.tw9076505837434565412 : Unit := ()
def PySem.W.Fast.tw1401315167731356218 : Unit := ()
def PySem.W.Fast.tw6128744391086752357 : Unit := ()
def PySem.W.Fast.tw17118287613999405989 : Unit := ()
def PySem.W.Fast.tw14142111205205215572 : Unit := ()
def PySem.W.Fast.tw2892611962005724829 : Unit := ()
def PySem.W.Fast.tw4862013033461047019 : Unit := ()
def PySem.W.Fast.tw12300141291001322216 : Unit := ()
def PySem.W.Fast.tw1949103203320536142 : Unit := ()
def PySem.W.Fast.tw9155290991652399563 : Unit := ()
def PySem.W.Fast.tw9506107876472025413 : Unit := ()
def PySem.W.Fast.tw374326123686248464 : Unit := ()
def PySem.W.Fast.tw16143050351401240262 : Unit := ()
def PySem.W.Fast.tw7783427984992245018 : Unit := ()
def PySem.W.Fast.tw13796295906619586569 : Unit := ()
def PySem.W.Fast.tw2815414905494619961 : Unit := ()
def PySem.W.Fast.tw13992539610593256844 : Unit := ()
def PySem.W.Fast.tw17480163129767138936 : Unit := ()
def PySem.W.Fast.tw16351471716323894800 : Unit := ()
def PySem.W.Fast.tw4048931985649956530 : Unit := ()
def PySem.W.Fast.tw3108978079414005447 : Unit := ()
def PySem.W.Fast.tw18070897373293546562 : Unit := ()
def PySem.W.Fast.tw14706239258102368249 : Unit := ()
def PySem.W.Fast.tw109457695051871168 : Unit := ()
def PySem.W.Fast.tw15290562004865416587 : Unit := ()
def PySem.W.Fast.tw8913196016829096637 : Unit := ()
def PySem.W.Fast.tw1785686406541612744 : Unit := ()
def PySem.W.Fast.tw1683282260426973162 : Unit := ()
def PySem.W.Fast.tw16972811518450586626 : Unit := ()
def PySem.W.Fast.tw2337070560167873760 : Unit := ()
def PySem.W.Fast.tw3840722305449159181 : Unit := ()
def PySem.W.Fast.tw14564254166001792817 : Unit := ()
def PySem.W.Fast.tw6616733092465217667 : Unit := ()
def PySem.W.Fast.tw11023008289529999059 : Unit := ()
def PySem.W.Fast.tw9273321060889466382 : Unit := ()
def PySem.W.Fast.tw3612023546323014660 : Unit := ()
def PySem.W.Fast.tw5207908571004945778 : Unit := ()
def PySem.W.Fast.tw10268972269616534184 : Unit := ()
def PySem.W.Fast.tw17698908465169384081 : Unit := ()
def PySem.W.Fast.tw18373231440390050372 : Unit := ()
def PySem.W.Fast.tw14508241879996730140 : Unit := ()
def PySem.W.Fast.tw13143436404017307243 : Unit := ()
def PySem.W.Fast.tw3124849007900842439 : Unit := ()
def PySem.W.Fast.tw18282077319303947446 : Unit := ()
def PySem.W.Fast.tw9713395734982508307 : Unit := ()
def PySem.W.Fast.tw16812421881052563588 : Unit := ()
def PySem.W.Fast.tw6065643291443216506 : Unit := ()
def PySem.W.Fast.tw16290024216236185372 : Unit := ()
def PySem.W.Fast.tw12984952345820083972 : Unit := ()
def PySem.W.Fast.tw1199006133967705745 : Unit := ()
def PySem.W.Fast.tw10820717488385830485 : Unit := ()
def PySem.W.Fast.tw8364899790666425609 : Unit := ()
def PySem.W.Fast.tw3535115611265455452 : Unit := ()
def PySem.W.Fast.tw832718170844727172 : Unit := ()
def PySem.W.Fast.tw11463957623726246292 : Unit := ()
def PySem.W.Fast.tw15964780127562780524 : Unit := ()
def PySem.W.Fast.tw6022330298383781667 : Unit := ()
def PySem.W.Fast.tw2250879260346658959 : Unit := ()
def PySem.W.Fast.tw13751846335522273052 : Unit := ()
def PySem.W.Fast.tw5411549404177520809 : Unit := ()
def PySem.W.Fast.tw3634460853101075486 : Unit := ()
def PySem.W.Fast.tw6697620621826235377 : Unit := ()
def PySem.W.Fast.tw5463277373020822617 : Unit := ()
def PySem.W.Fast.tw11546660811374318739 : Unit := ()
def PySem.W.Fast.tw14432242310130012339 : Unit := ()
def PySem.W.Fast.tw16686395124719627699 : Unit := ()
def PySem.W.Fast.tw15745472169641436930 : Unit := ()
def PySem.W.Fast.tw9455811755293054684 : Unit := ()
def PySem.W.Fast.tw6728453580738416600 : Unit := ()
def PySem.W.Fast.tw5320803990175236000 : Unit := ()
def PySem.W.Fast.tw12236288531006021468 : Unit := ()
def PySem.W.Fast.tw1768486215923544320 : Unit := ()
def PySem.W.Fast.tw6285514429018683662 : Unit := ()
def PySem.W.Fast.tw15299271045888370705 : Unit := ()
def PySem.W.Fast.tw8134264067881172815 : Unit := ()
def PySem.W.Fast.tw9111317798748004559 : Unit := ()
def PySem.W.Fast.tw14200055941851694595 : Unit := ()
def PySem.W.Fast.tw16883653298294665741 : Unit := ()
def PySem.W.Fast.tw6724187628016940909 : Unit := ()
def PySem.W.Fast.tw13220624910523705875 : Unit := ()
def PySem.W.Fast.tw11007227525076472050 : Unit := ()
def PySem.W.Fast.tw16414714770870941292 : Unit := ()
def PySem.W.Fast.tw4762295769285353747 : Unit := ()
def PySem.W.Fast.tw7104602844539332151 : Unit := ()
def PySem.W.Fast.tw1684309743009052875 : Unit := ()
def PySem.W.Fast.tw10400437313788643815 : Unit := ()
def PySem.W.Fast.tw17091553095439984200 : Unit := ()
def PySem.W.Fast.tw4973913577862083025 : Unit := ()
def PySem.W.Fast.tw5924367829676843667 : Unit := ()
def PySem.W.Fast.tw16735592532363679852 : Unit := ()
def PySem.W.Fast.tw14047344847455905749 : Unit := ()
def PySem.W.Fast.tw9736510119815512512 : Unit := ()
def PySem.W.Fast.tw6454082650700152474 : Unit := ()
def PySem.W.Fast.tw264923438145906585 : Unit := ()
def PySem.W.Fast.tw2656890787731357548 : Unit := ()
def PySem.W.Fast.tw17966754864255386087 : Unit := ()
def PySem.W.Fast.tw5616085856600044626 : Unit := ()
def PySem.W.Fast.tw12492960703335025407 : Unit := ()
def PySem.W.Fast.tw5026036230440334058 : Unit := ()
def PySem.W.Fast.tw3014748618230801222 : Unit := ()
def PySem.W.Fast.tw2970070469491507009 : Unit := ()
def PySem.W.Fast.tw14629084209572172225 : Unit := ()
def PySem.W.Fast.tw16062671615190324385 : Unit := ()
def PySem.W.Fast.tw37468098519037529 : Unit := ()
def PySem.W.Fast.tw4826056668103908409 : Unit := ()
def PySem.W.Fast.tw5770860249160226188 : Unit := ()
def PySem.W.Fast.tw15667181444919345445 : Unit := ()
def PySem.W.Fast.tw17835760693786853638 : Unit := ()
def PySem.W.Fast.tw16450023054956616284 : Unit := ()
def PySem.W.Fast.tw1003093498261182228 : Unit := ()
def PySem.W.Fast.tw12739623294503087479 : Unit := ()
def PySem.W.Fast.tw4705700896929591168 : Unit := ()
def PySem.W.Fast.tw1902547497162344938 : Unit := ()
def PySem.W.Fast.tw1151874279421118699 : Unit := ()
def PySem.W.Fast.tw12423631872579132193 : Unit := ()
def PySem.W.Fast.tw8818491856657079819 : Unit := ()
def PySem.W.Fast.tw17934235362330408252 : Unit := ()
def PySem.W.Fast.tw15069514633318898090 : Unit := ()
def PySem.W.Fast.tw9922024489425381719 : Unit := ()
def PySem.W.Fast.tw12984267846475762693 : Unit := ()
def PySem.W.Fast.tw12414417001375929012 : Unit := ()
def PySem.W.Fast.tw3596599745267602910 : Unit := ()
def PySem.W.Fast.tw501728530030662161 : Unit := ()
def PySem.W.Fast.tw6092996435930506253 : Unit := ()
def PySem.W.Fast.tw6127756888875149457 : Unit := ()
def PySem.W.Fast.tw1411587886757196609 : Unit := ()
def PySem.W.Fast.tw8079215535260257827 : Unit := ()
def PySem.W.Fast.tw2310590994743554895 : Unit := ()
def PySem.W.Fast.tw7467715412023551541 : Unit := ()
def PySem.W.Fast.tw12747586499321591203 : Unit := ()
def PySem.W.Fast.tw7422147213897066625 : Unit := ()
def PySem.W.Fast.tw13001717139101468372 : Unit := ()
def PySem.W.Fast.tw3971324031059482769 : Unit := ()
def PySem.W.Fast.tw4925632145158339733 : Unit := ()
def PySem.W.Fast.tw9985313944239896614 : Unit := ()
def PySem.W.Fast.tw15225244375567395703 : Unit := ()
def PySem.W.Fast.tw6227410742745812620 : Unit := ()
def PySem.W.Fast.tw4156267881373246577 : Unit := ()
def PySem.W.Fast.tw5161346118697309188 : Unit := ()
def PySem.W.Fast.tw13860813378145786253 : Unit := ()
def PySem.W.Fast.tw18406002339260089021 : Unit := ()
def PySem.W.Fast.tw17593850759419505583 : Unit := ()
def PySem.W.Fast.tw8051119393851368535 : Unit := ()
def PySem.W.Fast.tw13210652911656954288 : Unit := ()
def PySem.W.Fast.tw1611782399239055601 : Unit := ()
def PySem.W.Fast.tw2129126339595712701 : Unit := ()
def PySem.W.Fast.tw113591015684005322 : Unit := ()
def PySem.W.Fast.tw3538172417957579570 : Unit := ()
def PySem.W.Fast.tw2078761757360339112 : Unit := ()
def PySem.W.Fast.tw611354559277086020 : Unit := ()
def PySem.W.Fast.tw463431566187518761 : Unit := ()
def PySem.W.Fast.tw16281716224508974708 : Unit := ()
def PySem.W.Fast.tw34495639488965207 : Unit := ()
def PySem.W.Fast.tw1861975598065424251 : Unit := ()
def PySem.W.Fast.tw8339526616777311715 : Unit := ()
def PySem.W.Fast.tw16721579755727248122 : Unit := ()
def PySem.W.Fast.tw12536318413160533677 : Unit := ()
def PySem.W.Fast.tw17431833175338347435 : Unit := ()
def PySem.W.Fast.tw17499271757966160 : Unit := ()
def PySem.W.Fast.tw2629650280583268234 : Unit := ()
def PySem.W.Fast.tw9812357749850616995 : Unit := ()
def PySem.W.Fast.tw1233767251569497394 : Unit := ()
def PySem.W.Fast.tw9984944143552542688 : Unit := ()
def PySem.W.Fast.tw6169444825729448866 : Unit := ()
def PySem.W.Fast.tw4234194541201141076 : Unit := ()
def PySem.W.Fast.tw10263275246299775353 : Unit := ()
def PySem.W.Fast.tw17226304252692818184 : Unit := ()
def PySem.W.Fast.tw7001036798613710116 : Unit := ()
def PySem.W.Fast.tw15239586844233339886 : Unit := ()
def PySem.W.Fast.tw359950486880986013 : Unit := ()
def PySem.W.Fast.tw11448440722039378 : Unit := ()
def PySem.W.Fast.tw11359279758298301779 : Unit := ()
def PySem.W.Fast.tw14821918467331854386 : Unit := ()
def PySem.W.Fast.tw7364216605131947494 : Unit := ()
def PySem.W.Fast.tw8940911788988950664 : Unit := ()
def PySem.W.Fast.tw1412325147716187055 : Unit := ()
def PySem.W.Fast.tw17186247961263190187 : Unit := ()
def PySem.W.Fast.tw4767954958495424398 : Unit := ()
def PySem.W.Fast.tw8289959130046417880 : Unit := ()
def PySem.W.Fast.tw4743588283350370132 : Unit := ()
def PySem.W.Fast.tw6419190353943496980 : Unit := ()
def PySem.W.Fast.tw709136677934061623 : Unit := ()
def PySem.W.Fast.tw13210643284328838141 : Unit := ()
def PySem.W.Fast.tw8343625366337411817 : Unit := ()
def PySem.W.Fast.tw17199923235650429935 : Unit := ()
def PySem.W.Fast.tw16974459578680784497 : Unit := ()
def PySem.W.Fast.tw13809592784284653935 : Unit := ()
def PySem.W.Fast.tw13377318695600710011 : Unit := ()
def PySem.W.Fast.tw504723768414162084 : Unit := ()
def PySem.W.Fast.tw16270808610737015877 : Unit := ()
def PySem.W.Fast.tw17411010186393623832 : Unit := ()
def PySem.W.Fast.tw8407813399451897709 : Unit := ()
def PySem.W.Fast.tw11648821626311725675 : Unit := ()
def PySem.W.Fast.tw17137219782487945038 : Unit := ()
def PySem.W.Fast.tw2301312750153329930 : Unit := ()
def PySem.W.Fast.tw11182471847531205911 : Unit := ()
def PySem.W.Fast.tw16041386110707827877 : Unit := ()
def PySem.W.Fast.tw2465695611549845440 : Unit := ()
def PySem.W.Fast.tw12872256316242981990 : Unit := ()
def PySem.W.Fast.tw13808911368073106948 : Unit := ()
def PySem.W.Fast.tw7202912875345395696 : Unit := ()
def PySem.W.Fast.tw14824241331645367475 : Unit := ()
def PySem.W.Fast.tw1275767510162367145 : Unit := ()
def PySem.W.Fast.tw9931500026055752143 : Unit := ()
def PySem.W.Fast.tw5885158114064545587 : Unit := ()
def PySem.W.Fast.tw3352751168713938184 : Unit := ()
def PySem.W.Fast.tw9580277566822328234 : Unit := ()
def PySem.W.Fast.tw3324858224330989359 : Unit := ()
def PySem.W.Fast.tw16945193680861396422 : Unit := ()
def PySem.W.Fast.tw17395812974799331425 : Unit := ()
def PySem.W.Fast.tw2273228046041092046 : Unit := ()
def PySem.W.Fast.tw14565024770055070962 : Unit := ()
def PySem.W.Fast.tw13658252263302005407 : Unit := ()
def PySem.W.Fast.tw17276549455895848163 : Unit := ()
def PySem.W.Fast.tw7979251049956660091 : Unit := ()
def PySem.W.Fast.tw8896026974768875049 : Unit := ()
def PySem.W.Fast.tw10277037022463967552 : Unit := ()
def PySem.W.Fast.tw2353728464779941630 : Unit := ()
def PySem.W.Fast.tw12938940613158628908 : Unit := ()
def PySem.W.Fast.tw10347040451302194350 : Unit := ()
def PySem.W.Fast.tw5023152499650320951 : Unit := ()
def PySem.W.Fast.tw3336124462163062185 : Unit := ()
def PySem.W.Fast.tw13857695129056753233 : Unit := ()
def PySem.W.Fast.tw6349286399345698269 : Unit := ()
def PySem.W.Fast.tw5353496043498001707 : Unit := ()
def PySem.W.Fast.tw928225655244795123 : Unit := ()
def PySem.W.Fast.tw9897437069874212923 : Unit := ()
def PySem.W.Fast.tw6559546804696589898 : Unit := ()
def PySem.W.Fast.tw18164201011175997286 : Unit := ()
def PySem.W.Fast.tw18257838761356350875 : Unit := ()
def PySem.W.Fast.tw10177010420499065466 : Unit := ()
def PySem.W.Fast.tw6344226439865441692 : Unit := ()
def PySem.W.Fast.tw5566964497145034458 : Unit := ()
def PySem.W.Fast.tw13137610274717832760 : Unit := ()
def PySem.W.Fast.tw11073258966998269344 : Unit := ()
def PySem.W.Fast.tw5092914954976269716 : Unit := ()
def PySem.W.Fast.tw10615951249299570711 : Unit := ()
def PySem.W.Fast.tw15765563374305283063 : Unit := ()
def PySem.W.Fast.tw18195117541539284976 : Unit := ()
def PySem.W.Fast.tw2769952350647252320 : Unit := ()
def PySem.W.Fast.tw12942458791525111774 : Unit := ()
def PySem.W.Fast.tw3981182645792832182 : Unit := ()
def PySem.W.Fast.tw7820906637494582731 : Unit := ()
def PySem.W.Fast.tw3079360886026134877 : Unit := ()
def PySem.W.Fast.tw6982056635295095618 : Unit := ()
def PySem.W.Fast.tw10827178540743914285 : Unit := ()
def PySem.W.Fast.tw14554149135985776486 : Unit := ()
def PySem.W.Fast.tw8875494172292814482 : Unit := ()
def PySem.W.Fast.tw6135290959772741991 : Unit := ()
def PySem.W.Fast.tw14762804376502426771 : Unit := ()
def PySem.W.Fast.tw14728512008785317263 : Unit := ()
def PySem.W.Fast.tw2344019208298449137 : Unit := ()
def PySem.W.Fast.tw16324962521240241726 : Unit := ()
def PySem.W.Fast.tw1418404745237456097 : Unit := ()
def PySem.W.Fast.tw5226560176946036692 : Unit := ()
def PySem.W.Fast.tw24430515835215544 : Unit := ()
def PySem.W.Fast.tw9744393287905810947 : Unit := ()
def PySem.W.Fast.tw15601979641939077739 : Unit := ()
def PySem.W.Fast.tw11155357895988086353 : Unit := ()
def PySem.W.Fast.tw16047544938260229273 : Unit := ()
def PySem.W.Fast.tw1388705389348054628 : Unit := ()
def PySem.W.Fast.tw10280977470799694137 : Unit := ()
def PySem.W.Fast.tw17282052873411405633 : Unit := ()
def PySem.W.Fast.tw1993743564990494688 : Unit := ()
def PySem.W.Fast.tw11015726471090638679 : Unit := ()
def PySem.W.Fast.tw11264056270451853971 : Unit := ()
def PySem.W.Fast.tw14240254211877003965 : Unit := ()
def PySem.W.Fast.tw6764882973596363281 : Unit := ()
def PySem.W.Fast.tw1902381798974771506 : Unit := ()
def PySem.W.Fast.tw7662235225398911432 : Unit := ()
def PySem.W.Fast.tw366036134915044759 : Unit := ()
def PySem.W.Fast.tw5577983513752932092 : Unit := ()
def PySem.W.Fast.tw15120084144155774633 : Unit := ()
def PySem.W.Fast.tw8823515066204327342 : Unit := ()
def PySem.W.Fast.tw6326630872605561666 : Unit := ()
def PySem.W.Fast.tw9763256144037573743 : Unit := ()
def PySem.W.Fast.tw8298297290805012698 : Unit := ()
def PySem.W.Fast.tw4961556308529538514 : Unit := ()
def PySem.W.Fast.tw15804002930192616016 : Unit := ()
def PySem.W.Fast.tw7521717021826909649 : Unit := ()
def PySem.W.Fast.tw16663532459316644227 : Unit := ()
def PySem.W.Fast.tw17030900105576639754 : Unit := ()
def PySem.W.Fast.tw3651503077327975126 : Unit := ()
def PySem.W.Fast.tw5519692135524869680 : Unit := ()
def PySem.W.Fast.tw13456413614153553909 : Unit := ()
def PySem.W.Fast.tw126966830053521916 : Unit := ()
def PySem.W.Fast.tw4778648352938053793 : Unit := ()
def PySem.W.Fast.tw2399788703105320865 : Unit := ()
def PySem.W.Fast.tw16160089177154879576 : Unit := ()
def PySem.W.Fast.tw945717316927884235 : Unit := ()
def PySem.W.Fast.tw12964970353776902303 : Unit := ()
def PySem.W.Fast.tw5468431088271898091 : Unit := ()
def PySem.W.Fast.tw17869262961831863967 : Unit := ()
def PySem.W.Fast.tw14814286283770258099 : Unit := ()
def PySem.W.Fast.tw6474645555347103251 : Unit := ()
def PySem.W.Fast.tw16969989046233346062 : Unit := ()
def PySem.W.Fast.tw1028110700343146070 : Unit := ()
def PySem.W.Fast.tw12423160997587728260 : Unit := ()
def PySem.W.Fast.tw605216362374108399 : Unit := ()
def PySem.W.Fast.tw18404574795056729499 : Unit := ()
def PySem.W.Fast.tw5740667065977851421 : Unit := ()
def PySem.W.Fast.tw7770384221704258166 : Unit := ()
def PySem.W.Fast.tw15805158418278946771 : Unit := ()
def PySem.W.Fast.tw3603520365730956119 : Unit := ()
def PySem.W.Fast.tw5880670679088380256 : Unit := ()
def PySem.W.Fast.tw2331017738017110326 : Unit := ()
def PySem.W.Fast.tw2697090916362897360 : Unit := ()
def PySem.W.Fast.tw14172256128418766149 : Unit := ()
def PySem.W.Fast.tw10241332493825237592 : Unit := ()
def PySem.W.Fast.tw14041504044200074776 : Unit := ()
def PySem.W.Fast.tw3121989629313816272 : Unit := ()
def PySem.W.Fast.tw17562979339862439282 : Unit := ()
def PySem.W.Fast.tw6726220350430733495 : Unit := ()
def PySem.W.Fast.tw15383912613233779955 : Unit := ()
def PySem.W.Fast.tw8670016601240966952 : Unit := ()
def PySem.W.Fast.tw3627778472742322146 : Unit := ()
def PySem.W.Fast.tw907767778063978721 : Unit := ()
def PySem.W.Fast.tw6129719634634855152 : Unit := ()
def PySem.W.Fast.tw8889542367779112556 : Unit := ()
def PySem.W.Fast.tw7179987270950320321 : Unit := ()
def PySem.W.Fast.tw15081701208472384154 : Unit := ()
def PySem.W.Fast.tw7294561860486022393 : Unit := ()
def PySem.W.Fast.tw14934962804370891868 : Unit := ()
def PySem.W.Fast.tw13676920969234635747 : Unit := ()
def PySem.W.Fast.tw3762944536733913460 : Unit := ()
def PySem.W.Fast.tw2159845995402962439 : Unit := ()
def PySem.W.Fast.tw13002587819720977178 : Unit := ()
def PySem.W.Fast.tw6179763420872434352 : Unit := ()
def PySem.W.Fast.tw6990266518734264655 : Unit := ()
def PySem.W.Fast.tw295912545693811120 : Unit := ()
def PySem.W.Fast.tw12698459422139075680 : Unit := ()
def PySem.W.Fast.tw8984945805821841452 : Unit := ()
def PySem.W.Fast.tw12818392074752177365 : Unit := ()
def PySem.W.Fast.tw2225772716094368289 : Unit := ()
def PySem.W.Fast.tw7974050246040669261 : Unit := ()
def PySem.W.Fast.tw5418887743331400503 : Unit := ()
def PySem.W.Fast.tw1972984480533145277 : Unit := ()
def PySem.W.Fast.tw7052472423553594636 : Unit := ()
def PySem.W.Fast.tw901942013003735541 : Unit := ()
def PySem.W.Fast.tw9802500990099804518 : Unit := ()
def PySem.W.Fast.tw15649407882695686745 : Unit := ()
def PySem.W.Fast.tw4617672605415938211 : Unit := ()
def PySem.W.Fast.tw2333012176710410339 : Unit := ()
def PySem.W.Fast.tw11668159416032728577 : Unit := ()
def PySem.W.Fast.tw11702324716473554185 : Unit := ()
def PySem.W.Fast.tw16796651338349631663 : Unit := ()
def PySem.W.Fast.tw13446759190513510915 : Unit := ()
def PySem.W.Fast.tw2694229017709211774 : Unit := ()
def PySem.W.Fast.tw3252182112791717757 : Unit := ()
def PySem.W.Fast.tw2341943904429454660 : Unit := ()
def PySem.W.Fast.tw15034585439407617796 : Unit := ()
def PySem.W.Fast.tw14746249415836644181 : Unit := ()
def PySem.W.Fast.tw18070353361863083698 : Unit := ()
def PySem.W.Fast.tw15138098190320937701 : Unit := ()
def PySem.W.Fast.tw6073053933793178075 : Unit := ()
def PySem.W.Fast.tw16354322701079235582 : Unit := ()
def PySem.W.Fast.tw14941351422349616806 : Unit := ()
def PySem.W.Fast.tw1246942706488405419 : Unit := ()
def PySem.W.Fast.tw12315861363102783434 : Unit := ()
def PySem.W.Fast.tw14540418103517393094 : Unit := ()
def PySem.W.Fast.tw16216566300725673591 : Unit := ()
def PySem.W.Fast.tw3972172731370525468 : Unit := ()
def PySem.W.Fast.tw12116970202414119180 : Unit := ()
def PySem.W.Fast.tw13559928568510591068 : Unit := ()
def PySem.W.Fast.tw15078512496099119315 : Unit := ()
def PySem.W.Fast.tw3001854545426916264 : Unit := ()
def PySem.W.Fast.tw12535375353610705449 : Unit := ()
def PySem.W.Fast.tw225998230422983597 : Unit := ()
def PySem.W.Fast.tw6300758412926186862 : Unit := ()
def PySem.W.Fast.tw12284747904830480036 : Unit := ()
def PySem.W.Fast.tw5832693046483839750 : Unit := ()
def PySem.W.Fast.tw10861668782522578439 : Unit := ()
def PySem.W.Fast.tw17495393198076675573 : Unit := ()
def PySem.W.Fast.tw14999430587075540883 : Unit := ()
def PySem.W.Fast.tw12442341991510021840 : Unit := ()
def PySem.W.Fast.tw9464708394483872230 : Unit := ()
def PySem.W.Fast.tw3865310691291758881 : Unit := ()
def PySem.W.Fast.tw14535450130550481372 : Unit := ()
def PySem.W.Fast.tw11797823251108344878 : Unit := ()
def PySem.W.Fast.tw1897934393991987660 : Unit := ()
def PySem.W.Fast.tw7298391691320565022 : Unit := ()
def PySem.W.Fast.tw4921261540560148203 : Unit := ()
def PySem.W.Fast.tw4825943692427053649 : Unit := ()
def PySem.W.Fast.tw15636407744763004507 : Unit := ()
def PySem.W.Fast.tw16081670789477045126 : Unit := ()
def PySem.W.Fast.tw16024683497360942438 : Unit := ()
def PySem.W.Fast.tw15597318524195925478 : Unit := ()
def PySem.W.Fast.tw6219039905273242435 : Unit := ()
def PySem.W.Fast.tw6635101291270514548 : Unit := ()
def PySem.W.Fast.tw9961998803228889047 : Unit := ()
def PySem.W.Fast.tw6128739860318631951 : Unit := ()
def PySem.W.Fast.tw4920666591404046237 : Unit := ()
def PySem.W.Fast.tw17355435767269440679 : Unit := ()
def PySem.W.Fast.tw14012368646911049889 : Unit := ()
def PySem.W.Fast.tw8911990025347318498 : Unit := ()
def PySem.W.Fast.tw14827333687169841414 : Unit := ()
def PySem.W.Fast.tw9690395079298144666 : Unit := ()
def PySem.W.Fast.tw4133247192927935167 : Unit := ()
def PySem.W.Fast.tw4027682921054782644 : Unit := ()
def PySem.W.Fast.tw3218770279923402738 : Unit := ()
def PySem.W.Fast.tw14956787987581626371 : Unit := ()
def PySem.W.Fast.tw3183699736120541394 : Unit := ()
def PySem.W.Fast.tw17155885172740818269 : Unit := ()
def PySem.W.Fast.tw2692454338061036427 : Unit := ()
def PySem.W.Fast.tw1267210167099450814 : Unit := ()
def PySem.W.Fast.tw14282940895282366477 : Unit := ()
def PySem.W.Fast.tw5750003199647040069 : Unit := ()
def PySem.W.Fast.tw9413959295823092687 : Unit := ()
def PySem.W.Fast.tw15521948216483942730 : Unit := ()
def PySem.W.Fast.tw14863851483954667982 : Unit := ()
def PySem.W.Fast.tw8996203752942983946 : Unit := ()
def PySem.W.Fast.tw7346084662902493402 : Unit := ()
def PySem.W.Fast.tw14682823842859401455 : Unit := ()
def PySem.W.Fast.tw619052195933295452 : Unit := ()
def PySem.W.Fast.tw16559533355569727694 : Unit := ()
def PySem.W.Fast.tw13055473543004638370 : Unit := ()
def PySem.W.Fast.tw8987429550707978533 : Unit := ()
def PySem.W.Fast.tw16061332143674562317 : Unit := ()
def PySem.W.Fast.tw15989864536541329714 : Unit := ()
def PySem.W.Fast.tw16818455708538013456 : Unit := ()
def PySem.W.Fast.tw9984532971948765157 : Unit := ()
def PySem.W.Fast.tw5046259862339976435 : Unit := ()
def PySem.W.Fast.tw6836314113818172904 : Unit := ()
def PySem.W.Fast.tw14008950537125689585 : Unit := ()
def PySem.W.Fast.tw11030031756214203289 : Unit := ()
def PySem.W.Fast.tw11072882812984760044 : Unit := ()
def PySem.W.Fast.tw5208482417644041009 : Unit := ()
def PySem.W.Fast.tw861764255917964746 : Unit := ()
def PySem.W.Fast.tw11365097321146612531 : Unit := ()
def PySem.W.Fast.tw4367000052448474159 : Unit := ()
def PySem.W.Fast.tw11924279203944298272 : Unit := ()
def PySem.W.Fast.tw347203357355556702 : Unit := ()
def PySem.W.Fast.tw13026737720322377536 : Unit := ()
def PySem.W.Fast.tw17093930138447900642 : Unit := ()
def PySem.W.Fast.tw9100375156961754283 : Unit := ()
def PySem.W.Fast.tw11018778915966586000 : Unit := ()
def PySem.W.Fast.tw12867839838257282219 : Unit := ()
def PySem.W.Fast.tw9975615265057177564 : Unit := ()
def PySem.W.Fast.tw6288671896904220762 : Unit := ()
def PySem.W.Fast.tw18343146497618819127 : Unit := ()
def PySem.W.Fast.tw16051489911760325110 : Unit := ()
def PySem.W.Fast.tw12171216593088073837 : Unit := ()
def PySem.W.Fast.tw13820370205992992864 : Unit := ()
def PySem.W.Fast.tw1356651821031250414 : Unit := ()
def PySem.W.Fast.tw13696498287075742155 : Unit := ()
def PySem.W.Fast.tw14165815035350039669 : Unit := ()
def PySem.W.Fast.tw258331692756232758 : Unit := ()
def PySem.W.Fast.tw13260393600761129692 : Unit := ()
def PySem.W.Fast.tw2128688896341792945 : Unit := ()
def PySem.W.Fast.tw9933379757517426930 : Unit := ()
def PySem.W.Fast.tw13407041145752677455 : Unit := ()
def PySem.W.Fast.tw5815014546905339222 : Unit := ()
def PySem.W.Fast.tw8205841408657823762 : Unit := ()
def PySem.W.Fast.tw13113057377246576954 : Unit := ()
def PySem.W.Fast.tw16555633784214385395 : Unit := ()
def PySem.W.Fast.tw7495751996169564099 : Unit := ()
def PySem.W.Fast.tw5303771839728500302 : Unit := ()
def PySem.W.Fast.tw12631094934265050822 : Unit := ()
def PySem.W.Fast.tw3655937749241865168 : Unit := ()
def PySem.W.Fast.tw7845825899419388998 : Unit := ()
def PySem.W.Fast.tw13498062853822336169 : Unit := ()
def PySem.W.Fast.tw5039368417874581164 : Unit := ()
def PySem.W.Fast.tw7872506511108510118 : Unit := ()
def PySem.W.Fast.tw3750080559576861344 : Unit := ()
def PySem.W.Fast.tw16733562197608659651 : Unit := ()
def PySem.W.Fast.tw10053441356022686652 : Unit := ()
def PySem.W.Fast.tw14865580391078332417 : Unit := ()
def PySem.W.Fast.tw12253545874574750200 : Unit := ()
def PySem.W.Fast.tw17564144248503990485 : Unit := ()
def PySem.W.Fast.tw15694892448789398396 : Unit := ()
def PySem.W.Fast.tw15890568421423826186 : Unit := ()
def PySem.W.Fast.tw17681812389078213354 : Unit := ()
def PySem.W.Fast.tw3356304090597489836 : Unit := ()
def PySem.W.Fast.tw13210001764654869831 : Unit := ()
def PySem.W.Fast.tw15506210805340011368 : Unit := ()
def PySem.W.Fast.tw18213380105614711078 : Unit := ()
def PySem.W.Fast.tw11650279016282942954 : Unit := ()
def PySem.W.Fast.tw5532351117486261360 : Unit := ()
def PySem.W.Fast.tw8892931303476173336 : Unit := ()
def PySem.W.Fast.tw12860602979901514111 : Unit := ()
def PySem.W.Fast.tw4953689453596316555 : Unit := ()
def PySem.W.Fast.tw16853851579605378129 : Unit := ()
def PySem.W.Fast.tw17504695873938176113 : Unit := ()
def PySem.W.Fast.tw7868540995035877457 : Unit := ()
def PySem.W.Fast.tw736685196140585370 : Unit := ()
def PySem.W.Fast.tw5668111738841867139 : Unit := ()
def PySem.W.Fast.tw4205452133300893970 : Unit := ()
def PySem.W.Fast.tw2577941773815689463 : Unit := ()
def PySem.W.Fast.tw14656365539284943154 : Unit := ()
def PySem.W.Fast.tw7522515905752540554 : Unit := ()
def PySem.W.Fast.tw18126718035055077628 : Unit := ()
def PySem.W.Fast.tw1121153801919629466 : Unit := ()
def PySem.W.Fast.tw13499481660863813704 : Unit := ()
def PySem.W.Fast.tw4360760038349316077 : Unit := ()
def PySem.W.Fast.tw17191204071946245764 : Unit := ()
def PySem.W.Fast.tw3654004061877261300 : Unit := ()
def PySem.W.Fast.tw9576797286855622398 : Unit := ()
def PySem.W.Fast.tw15177217708283912093 : Unit := ()
def PySem.W.Fast.tw7338332631067684050 : Unit := ()
def PySem.W.Fast.tw503809757896394364 : Unit := ()
def PySem.W.Fast.tw11011560679200901961 : Unit := ()
def PySem.W.Fast.tw8723419613574960187 : Unit := ()
def PySem.W.Fast.tw14335992033183044894 : Unit := ()
def PySem.W.Fast.tw1608338596299685040 : Unit := ()
def PySem.W.Fast.tw17812598587686480493 : Unit := ()
def PySem.W.Fast.tw1374699810402580445 : Unit := ()
def PySem.W.Fast.tw9946056512062980598 : Unit := ()
def PySem.W.Fast.tw14460341466397454616 : Unit := ()
def PySem.W.Fast.tw12508217535071359004 : Unit := ()
def PySem.W.Fast.tw10466852456769724177 : Unit := ()
def PySem.W.Fast.tw6702535673349038882 : Unit := ()
def PySem.W.Fast.tw8101774365976578227 : Unit := ()
def PySem.W.Fast.tw12359730427646301820 : Unit := ()
def PySem.W.Fast.tw5008882113922719135 : Unit := ()
def PySem.W.Fast.tw15868638954500457850 : Unit := ()
def PySem.W.Fast.tw16884523522804067112 : Unit := ()
def PySem.W.Fast.tw3294530111758826596 : Unit := ()
def PySem.W.Fast.tw12934370717097463485 : Unit := ()
def PySem.W.Fast.tw5042892295348787959 : Unit := ()
def PySem.W.Fast.tw6782848982230785689 : Unit := ()
def PySem.W.Fast.tw8640261300698903820 : Unit := ()
def PySem.W.Fast.tw1228458063399300041 : Unit := ()
def PySem.W.Fast.tw14589770548967669463 : Unit := ()
def PySem.W.Fast.tw69912953097988163 : Unit := ()
def PySem.W.Fast.tw12709428300637477441 : Unit := ()
def PySem.W.Fast.tw9024717869473591931 : Unit := ()
def PySem.W.Fast.tw13206435410586539595 : Unit := ()
def PySem.W.Fast.tw12399760610374040153 : Unit := ()
def PySem.W.Fast.tw8424376203860143918 : Unit := ()
def PySem.W.Fast.tw8680082805853021404 : Unit := ()
def PySem.W.Fast.tw8988993893397466095 : Unit := ()
def PySem.W.Fast.tw14240380692270506378 : Unit := ()
def PySem.W.Fast.tw2451541587425900435 : Unit := ()
def PySem.W.Fast.tw8723842477523957079 : Unit := ()
def PySem.W.Fast.tw8344755398938754891 : Unit := ()
def PySem.W.Fast.tw17355066064049209262 : Unit := ()
def PySem.W.Fast.tw14459289560732772866 : Unit := ()
def PySem.W.Fast.tw3161445003921685278 : Unit := ()
def PySem.W.Fast.tw14016532308762882636 : Unit := ()
def PySem.W.Fast.tw17835789063016851558 : Unit := ()
def PySem.W.Fast.tw6311455647510076485 : Unit := ()
def PySem.W.Fast.tw5834102959827399412 : Unit := ()
def PySem.W.Fast.tw9779291463639384731 : Unit := ()
def PySem.W.Fast.tw5897089397837345089 : Unit := ()
def PySem.W.Fast.tw516731478571327610 : Unit := ()
def PySem.W.Fast.tw5350900140868551550 : Unit := ()
def PySem.W.Fast.tw16537596071317290406 : Unit := ()
def PySem.W.Fast.tw17511613067332103110 : Unit := ()
def PySem.W.Fast.tw15867647999063259214 : Unit := ()
def PySem.W.Fast.tw16168327222253159228 : Unit := ()
def PySem.W.Fast.tw17169214398246873329 : Unit := ()
def PySem.W.Fast.tw6389279812886262467 : Unit := ()
def PySem.W.Fast.tw17091403356544766378 : Unit := ()
def PySem.W.Fast.tw5877536705019867245 : Unit := ()
def PySem.W.Fast.tw11365997419757112732 : Unit := ()
def PySem.W.Fast.tw7701261193872163011 : Unit := ()
def PySem.W.Fast.tw12356028473570554855 : Unit := ()
def PySem.W.Fast.tw14250574803417086066 : Unit := ()
def PySem.W.Fast.tw16557045908711480965 : Unit := ()
def PySem.W.Fast.tw4237129785759244155 : Unit := ()
def PySem.W.Fast.tw10241396156208088744 : Unit := ()
def PySem.W.Fast.tw5172847769745072124 : Unit := ()
def PySem.W.Fast.tw13516251170299734197 : Unit := ()
def PySem.W.Fast.tw7237728220808028053 : Unit := ()
def PySem.W.Fast.tw17762415303083822513 : Unit := ()
def PySem.W.Fast.tw3931122462517550861 : Unit := ()
def PySem.W.Fast.tw15298186117742515892 : Unit := ()
def PySem.W.Fast.tw9000367421133617384 : Unit := ()
def PySem.W.Fast.tw581362486831333319 : Unit := ()
def PySem.W.Fast.tw12413685635319975602 : Unit := ()
def PySem.W.Fast.tw17814313539104548322 : Unit := ()
def PySem.W.Fast.tw7442722784009460837 : Unit := ()
def PySem.W.Fast.tw14918192234019014971 : Unit := ()
def PySem.W.Fast.tw1823109228354588983 : Unit := ()
def PySem.W.Fast.tw2961072128697574733 : Unit := ()
def PySem.W.Fast.tw5246726680363968944 : Unit := ()
def PySem.W.Fast.tw2214945442492028291 : Unit := ()
def PySem.W.Fast.tw8133643318667689481 : Unit := ()
def PySem.W.Fast.tw232106389229022003 : Unit := ()
def PySem.W.Fast.tw15266883657828885409 : Unit := ()
def PySem.W.Fast.tw14260499967715898285 : Unit := ()
def PySem.W.Fast.tw810956885592998775 : Unit := ()
def PySem.W.Fast.tw1074137115262971306 : Unit := ()
def PySem.W.Fast.tw10591851876333606303 : Unit := ()
def PySem.W.Fast.tw16362286285694414644 : Unit := ()
def PySem.W.Fast.tw8935193093873306050 : Unit := ()
def PySem.W.Fast.tw1353886841102790651 : Unit := ()
def PySem.W.Fast.tw3113792489001341202 : Unit := ()
def PySem.W.Fast.tw3258398447666288355 : Unit := ()
def PySem.W.Fast.tw12919503075295861681 : Unit := ()
def PySem.W.Fast.tw9400082522698937737 : Unit := ()
def PySem.W.Fast.tw9477369157473527961 : Unit := ()
def PySem.W.Fast.tw14277610662599167718 : Unit := ()
def PySem.W.Fast.tw7125384788463538024 : Unit := ()
def PySem.W.Fast.tw2473251418386027067 : Unit := ()
def PySem.W.Fast.tw152547924176273005 : Unit := ()
def PySem.W.Fast.tw9397405630981598158 : Unit := ()
def PySem.W.Fast.tw255141969175945396 : Unit := ()
def PySem.W.Fast.tw11447472828872607152 : Unit := ()
def PySem.W.Fast.tw15709774443680580396 : Unit := ()
def PySem.W.Fast.tw9788090106751809715 : Unit := ()
def PySem.W.Fast.tw16897998253937062887 : Unit := ()
def PySem.W.Fast.tw6948701364649778878 : Unit := ()
def PySem.W.Fast.tw8086985744038073786 : Unit := ()
def PySem.W.Fast.tw9809642656478467494 : Unit := ()
def PySem.W.Fast.tw8287889281982299229 : Unit := ()
def PySem.W.Fast.tw9749722271547872936 : Unit := ()
def PySem.W.Fast.tw10059084623959392263 : Unit := ()
def PySem.W.Fast.tw18270295526428015894 : Unit := ()
def PySem.W.Fast.tw11645704757697016369 : Unit := ()
def PySem.W.Fast.tw16249671004696197060 : Unit := ()
def PySem.W.Fast.tw18157390933600787823 : Unit := ()
def PySem.W.Fast.tw6413792244561554129 : Unit := ()
def PySem.W.Fast.tw11627834098725117683 : Unit := ()
def PySem.W.Fast.tw16121796592246303528 : Unit := ()
def PySem.W.Fast.tw7758919164302552886 : Unit := ()
def PySem.W.Fast.tw10949399566008739826 : Unit := ()
def PySem.W.Fast.tw6564140863353601335 : Unit := ()
def PySem.W.Fast.tw4196223172488689527 : Unit := ()
def PySem.W.Fast.tw5707704224499797507 : Unit := ()
def PySem.W.Fast.tw17295026700385838650 : Unit := ()
def PySem.W.Fast.tw7429504189745305839 : Unit := ()
def PySem.W.Fast.tw1577244065087521134 : Unit := ()
def PySem.W.Fast.tw3978372065878789692 : Unit := ()
def PySem.W.Fast.tw7160944995659206714 : Unit := ()
def PySem.W.Fast.tw13460203502858609755 : Unit := ()
def PySem.W.Fast.tw5821743431982672038 : Unit := ()
def PySem.W.Fast.tw4130733420310541740 : Unit := ()
def PySem.W.Fast.tw962884073630762862 : Unit := ()
def PySem.W.Fast.tw11116283295064777104 : Unit := ()
def PySem.W.Fast.tw1421347925314408938 : Unit := ()
def PySem.W.Fast.tw7222744997574640646 : Unit := ()
def PySem.W.Fast.tw8187055308697783915 : Unit := ()
def PySem.W.Fast.tw598598270537389317 : Unit := ()
def PySem.W.Fast.tw7328951530522570076 : Unit := ()
def PySem.W.Fast.tw2955826552195827400 : Unit := ()
def PySem.W.Fast.tw9763362790259733650 : Unit := ()
def PySem.W.Fast.tw17975643532964915912 : Unit := ()
def PySem.W.Fast.tw17957143155937683618 : Unit := ()
def PySem.W.Fast.tw4057055863283085241 : Unit := ()
def PySem.W.Fast.tw2626253160522045746 : Unit := ()
def PySem.W.Fast.tw10536104327649881417 : Unit := ()
def PySem.W.Fast.tw15612433203948316211 : Unit := ()
def PySem.W.Fast.tw196724801652564734 : Unit := ()
def PySem.W.Fast.tw10645146161370546260 : Unit := ()
def PySem.W.Fast.tw2548103576665271538 : Unit := ()
def PySem.W.Fast.tw3277306882843844427 : Unit := ()
def PySem.W.Fast.tw7459234415089055272 : Unit := ()
def PySem.W.Fast.tw5837415561895988126 : Unit := ()
def PySem.W.Fast.tw17520962577555898221 : Unit := ()
def PySem.W.Fast.tw2306228620216114302 : Unit := ()
def PySem.W.Fast.tw12090463208711152907 : Unit := ()
def PySem.W.Fast.tw2027194280506838515 : Unit := ()
def PySem.W.Fast.tw13199927524506045204 : Unit := ()
def PySem.W.Fast.tw13599891406199474443 : Unit := ()
def PySem.W.Fast.tw13264294380908971545 : Unit := ()
def PySem.W.Fast.tw13858817992625382922 : Unit := ()
def PySem.W.Fast.tw13811403735889905552 : Unit := ()
def PySem.W.Fast.tw4262684034896691825 : Unit := ()
def PySem.W.Fast.tw3723449490479842821 : Unit := ()
def PySem.W.Fast.tw14863033028301343311 : Unit := ()
def PySem.W.Fast.tw16996410674001962205 : Unit := ()
def PySem.W.Fast.tw1891330143957695803 : Unit := ()
def PySem.W.Fast.tw1456054815514573797 : Unit := ()
def PySem.W.Fast.tw1446582165635411037 : Unit := ()
def PySem.W.Fast.tw5469815475541837787 : Unit := ()
def PySem.W.Fast.tw6419698080880066307 : Unit := ()
def PySem.W.Fast.tw8643508315270758033 : Unit := ()
def PySem.W.Fast.tw5208721751483920531 : Unit := ()
def PySem.W.Fast.tw952701489874191590 : Unit := ()
def PySem.W.Fast.tw13565684306749819297 : Unit := ()
def PySem.W.Fast.tw223316092221536413 : Unit := ()
def PySem.W.Fast.tw2861393057260091879 : Unit := ()
def PySem.W.Fast.tw11704786115067494540 : Unit := ()
def PySem.W.Fast.tw5908065508294330747 : Unit := ()
def PySem.W.Fast.tw11276487498235310991 : Unit := ()
def PySem.W.Fast.tw10055860857119193362 : Unit := ()
def PySem.W.Fast.tw11723841996881980140 : Unit := ()
def PySem.W.Fast.tw7247775818145291473 : Unit := ()
def PySem.W.Fast.tw3091346827045956496 : Unit := ()
def PySem.W.Fast.tw12867943685934439170 : Unit := ()
def PySem.W.Fast.tw9484666876877923090 : Unit := ()
def PySem.W.Fast.tw3064728943534682538 : Unit := ()
def PySem.W.Fast.tw11444536412305614001 : Unit := ()
def PySem.W.Fast.tw17382909296793107087 : Unit := ()
def PySem.W.Fast.tw5603663110882345978 : Unit := ()
def PySem.W.Fast.tw2342906600856650923 : Unit := ()
def PySem.W.Fast.tw10154485653053432244 : Unit := ()
def PySem.W.Fast.tw9086366583784623215 : Unit := ()
def PySem.W.Fast.tw5499790887274186044 : Unit := ()
def PySem.W.Fast.tw8013026522677338670 : Unit := ()
def PySem.W.Fast.tw11581088235471878845 : Unit := ()
def PySem.W.Fast.tw5949105894343370909 : Unit := ()
def PySem.W.Fast.tw6861796703315622176 : Unit := ()
def PySem.W.Fast.tw16171418680292539152 : Unit := ()
def PySem.W.Fast.tw6451912510432579011 : Unit := ()
def PySem.W.Fast.tw9617229600862089855 : Unit := ()
def PySem.W.Fast.tw9669638894795881683 : Unit := ()
def PySem.W.Fast.tw15620502614217839533 : Unit := ()
def PySem.W.Fast.tw14151082263252884663 : Unit := ()
def PySem.W.Fast.tw11890849923125584841 : Unit := ()
def PySem.W.Fast.tw4701111477486762222 : Unit := ()
def PySem.W.Fast.tw4948298782701653999 : Unit := ()
def PySem.W.Fast.tw15833744480393842240 : Unit := ()
def PySem.W.Fast.tw2581181781533892458 : Unit := ()
def PySem.W.Fast.tw11270619491366608688 : Unit := ()
def PySem.W.Fast.tw16925901067345507713 : Unit := ()
def PySem.W.Fast.tw16716807214172470963 : Unit := ()
def PySem.W.Fast.tw7097410784757440949 : Unit := ()
def PySem.W.Fast.tw6150771239678001902 : Unit := ()
def PySem.W.Fast.tw2897561346648024633 : Unit := ()
def PySem.W.Fast.tw15014648370480552162 : Unit := ()
def PySem.W.Fast.tw11501355479538893338 : Unit := ()
def PySem.W.Fast.tw14583021482250043076 : Unit := ()
def PySem.W.Fast.tw16150833820682041332 : Unit := ()
def PySem.W.Fast.tw18158062773520680735 : Unit := ()
def PySem.W.Fast.tw9535107910785261885 : Unit := ()
def PySem.W.Fast.tw16549461054882700945 : Unit := ()
def PySem.W.Fast.tw17989137472407139794 : Unit := ()
def PySem.W.Fast.tw1906923357246364558 : Unit := ()
def PySem.W.Fast.tw2936903502692516835 : Unit := ()
def PySem.W.Fast.tw17884718320974837317 : Unit := ()
def PySem.W.Fast.tw621174354104388963 : Unit := ()
def PySem.W.Fast.tw2696622960341212406 : Unit := ()
def PySem.W.Fast.tw6990677334353030247 : Unit := ()
def PySem.W.Fast.tw15303758928301481389 : Unit := ()
def PySem.W.Fast.tw2213047314678122552 : Unit := ()
def PySem.W.Fast.tw11979576131040170319 : Unit := ()
def PySem.W.Fast.tw1709734934502110273 : Unit := ()
def PySem.W.Fast.tw8272472306961418930 : Unit := ()
def PySem.W.Fast.tw12398049076255723996 : Unit := ()
def PySem.W.Fast.tw1019669600465092807 : Unit := ()
def PySem.W.Fast.tw1635471715680335775 : Unit := ()
def PySem.W.Fast.tw3252362845014425024 : Unit := ()
def PySem.W.Fast.tw984331207265703347 : Unit := ()
def PySem.W.Fast.tw10178370099060490622 : Unit := ()
def PySem.W.Fast.tw609041559280118759 : Unit := ()
def PySem.W.Fast.tw6772679072195065367 : Unit := ()
def PySem.W.Fast.tw15074428487254541280 : Unit := ()
def PySem.W.Fast.tw10019420338034463269 : Unit := ()
def PySem.W.Fast.tw17110608073913142583 : Unit := ()
def PySem.W.Fast.tw4109146796791123511 : Unit := ()
def PySem.W.Fast.tw14282294654277995638 : Unit := ()
def PySem.W.Fast.tw8289838362609123781 : Unit := ()
def PySem.W.Fast.tw8652181635273334754 : Unit := ()
def PySem.W.Fast.tw633738368527637309 : Unit := ()
def PySem.W.Fast.tw3032470090721389605 : Unit := ()
def PySem.W.Fast.tw2768811706587731762 : Unit := ()
def PySem.W.Fast.tw9876496401647811124 : Unit := ()
def PySem.W.Fast.tw10676796975566752765 : Unit := ()
def PySem.W.Fast.tw10015791077887438575 : Unit := ()
def PySem.W.Fast.tw416772891959887938 : Unit := ()
def PySem.W.Fast.tw2507480419658045649 : Unit := ()
def PySem.W.Fast.tw6795138131185635988 : Unit := ()
def PySem.W.Fast.tw10198445688529290325 : Unit := ()
def PySem.W.Fast.tw3029440585854038760 : Unit := ()
def PySem.W.Fast.tw16424229865849715387 : Unit := ()
def PySem.W.Fast.tw10001776672849946609 : Unit := ()
def PySem.W.Fast.tw13953869950044713793 : Unit := ()
def PySem.W.Fast.tw7959604391284778197 : Unit := ()
def PySem.W.Fast.tw12928580297005272058 : Unit := ()
def PySem.W.Fast.tw16593485574541533109 : Unit := ()
def PySem.W.Fast.tw12285589790119204530 : Unit := ()
def PySem.W.Fast.tw2218768381797621150 : Unit := ()
def PySem.W.Fast.tw5792544036025042922 : Unit := ()
def PySem.W.Fast.tw8618555258500300066 : Unit := ()
def PySem.W.Fast.tw5258084500741751466 : Unit := ()
def PySem.W.Fast.tw16960098902245928934 : Unit := ()
def PySem.W.Fast.tw14400429308880055023 : Unit := ()
def PySem.W.Fast.tw4549380525366427448 : Unit := ()
def PySem.W.Fast.tw14648422231553887353 : Unit := ()
def PySem.W.Fast.tw13970126739478804185 : Unit := ()
def PySem.W.Fast.tw12850751843007090953 : Unit := ()
def PySem.W.Fast.tw16628144167442157194 : Unit := ()
def PySem.W.Fast.tw9170079757764538435 : Unit := ()
def PySem.W.Fast.tw17177119770620181789 : Unit := ()
def PySem.W.Fast.tw14082326504831179563 : Unit := ()
def PySem.W.Fast.tw10637505007501233884 : Unit := ()
def PySem.W.Fast.tw2966314985763204080 : Unit := ()
def PySem.W.Fast.tw5863836186508611244 : Unit := ()
def PySem.W.Fast.tw1196498073123779020 : Unit := ()
def PySem.W.Fast.tw15741413883653346719 : Unit := ()
def PySem.W.Fast.tw7959866038504581963 : Unit := ()
def PySem.W.Fast.tw9421375002133840882 : Unit := ()
def PySem.W.Fast.tw543132089494652985 : Unit := ()
def PySem.W.Fast.tw14176124662350595648 : Unit := ()
def PySem.W.Fast.tw18337554316167917173 : Unit := ()
def PySem.W.Fast.tw5807021837507706529 : Unit := ()
def PySem.W.Fast.tw9704679387160201584 : Unit := ()
def PySem.W.Fast.tw7368512709563340725 : Unit := ()
def PySem.W.Fast.tw4063548284881244145 : Unit := ()
def PySem.W.Fast.tw12248668665718756048 : Unit := ()
def PySem.W.Fast.tw4457525762897432536 : Unit := ()
def PySem.W.Fast.tw14272200919441219155 : Unit := ()
def PySem.W.Fast.tw5604578202076853416 : Unit := ()
def PySem.W.Fast.tw6224657361139615924 : Unit := ()
def PySem.W.Fast.tw15736328621874788927 : Unit := ()
def PySem.W.Fast.tw6406336284156608876 : Unit := ()
def PySem.W.Fast.tw993672328387012453 : Unit := ()
def PySem.W.Fast.tw14535341320624880041 : Unit := ()
def PySem.W.Fast.tw9263194798540503894 : Unit := ()
def PySem.W.Fast.tw14529080333915357131 : Unit := ()
def PySem.W.Fast.tw15934705848243049877 : Unit := ()
def PySem.W.Fast.tw9929650077256136345 : Unit := ()
def PySem.W.Fast.tw7434803125942538636 : Unit := ()
def PySem.W.Fast.tw3929877621778891034 : Unit := ()
def PySem.W.Fast.tw14423316163719075909 : Unit := ()
def PySem.W.Fast.tw14737363013836226637 : Unit := ()
def PySem.W.Fast.tw17632708537752958452 : Unit := ()
def PySem.W.Fast.tw9204367305684637025 : Unit := ()
def PySem.W.Fast.tw9934854059184521544 : Unit := ()
def PySem.W.Fast.tw15359077763772225052 : Unit := ()
def PySem.W.Fast.tw5472972618053548153 : Unit := ()
def PySem.W.Fast.tw5959618267677541091 : Unit := ()
def PySem.W.Fast.tw593645552734367471 : Unit := ()
def PySem.W.Fast.tw17404842794363784913 : Unit := ()
def PySem.W.Fast.tw10318220814056463557 : Unit := ()
def PySem.W.Fast.tw17389226128556349813 : Unit := ()
def PySem.W.Fast.tw6509499778153066801 : Unit := ()
def PySem.W.Fast.tw8365846554912120926 : Unit := ()
def PySem.W.Fast.tw10320942497956722733 : Unit := ()
def PySem.W.Fast.tw2822828649985000441 : Unit := ()
def PySem.W.Fast.tw111052457718140526 : Unit := ()
def PySem.W.Fast.tw429145519805221564 : Unit := ()
def PySem.W.Fast.tw6285655313752125106 : Unit := ()
def PySem.W.Fast.tw3246443030565226674 : Unit := ()
def PySem.W.Fast.tw2548741224879608420 : Unit := ()
def PySem.W.Fast.tw16615642126287616063 : Unit := ()
def PySem.W.Fast.tw17887354851723907245 : Unit := ()
def PySem.W.Fast.tw3531672193804375228 : Unit := ()
def PySem.W.Fast.tw5462115669142303275 : Unit := ()
def PySem.W.Fast.tw18374822977250792310 : Unit := ()
def PySem.W.Fast.tw1176076534609244887 : Unit := ()
def PySem.W.Fast.tw5027661255832644716 : Unit := ()
def PySem.W.Fast.tw18198945057304636069 : Unit := ()
def PySem.W.Fast.tw7012002612999716837 : Unit := ()
def PySem.W.Fast.tw3779029951453419887 : Unit := ()
def PySem.W.Fast.tw8622959827037873453 : Unit := ()
def PySem.W.Fast.tw16723690685804782365 : Unit := ()
def PySem.W.Fast.tw10190454141857586150 : Unit := ()
def PySem.W.Fast.tw4429035605464035916 : Unit := ()
def PySem.W.Fast.tw1044775693897569660 : Unit := ()
def PySem.W.Fast.tw3525206057711435105 : Unit := ()
def PySem.W.Fast.tw15323781796117404864 : Unit := ()
def PySem.W.Fast.tw17658246146517480545 : Unit := ()
def PySem.W.Fast.tw17030434198697022490 : Unit := ()
def PySem.W.Fast.tw5139874837580137205 : Unit := ()
def PySem.W.Fast.tw8852830013985426784 : Unit := ()
def PySem.W.Fast.tw7068176830170719147 : Unit := ()
def PySem.W.Fast.tw7011384228432389448 : Unit := ()
def PySem.W.Fast.tw4737757252296219444 : Unit := ()
def PySem.W.Fast.tw8594647995000773202 : Unit := ()
def PySem.W.Fast.tw8669457276142089108 : Unit := ()
def PySem.W.Fast.tw16029360471505807402 : Unit := ()
def PySem.W.Fast.tw17444606325302946158 : Unit := ()
def PySem.W.Fast.tw6304585626679647813 : Unit := ()
def PySem.W.Fast.tw2008603592153279830 : Unit := ()
def PySem.W.Fast.tw9522315892684217810 : Unit := ()
def PySem.W.Fast.tw8260755128598417909 : Unit := ()
def PySem.W.Fast.tw14240246298493720619 : Unit := ()
def PySem.W.Fast.tw16378605764726886902 : Unit := ()
def PySem.W.Fast.tw5754985279622331733 : Unit := ()
def PySem.W.Fast.tw7908927713595136474 : Unit := ()
def PySem.W.Fast.tw10711345922425181686 : Unit := ()
def PySem.W.Fast.tw13184829984205389817 : Unit := ()
def PySem.W.Fast.tw3620299235205660705 : Unit := ()
def PySem.W.Fast.tw13770514056981906504 : Unit := ()
def PySem.W.Fast.tw6457695026590712407 : Unit := ()
def PySem.W.Fast.tw8358412340321125833 : Unit := ()
def PySem.W.Fast.tw14377677091534762760 : Unit := ()
def PySem.W.Fast.tw17828804392219934866 : Unit := ()
def PySem.W.Fast.tw13471366112088368199 : Unit := ()
def PySem.W.Fast.tw15386854644150312997 : Unit := ()
def PySem.W.Fast.tw1083231612287051344 : Unit := ()
def PySem.W.Fast.tw12304499527275107242 : Unit := ()
def PySem.W.Fast.tw15301099522170188245 : Unit := ()
def PySem.W.Fast.tw12116035151790611373 : Unit := ()
def PySem.W.Fast.tw10801793491722703770 : Unit := ()
def PySem.W.Fast.tw12322767557604360187 : Unit := ()
def PySem.W.Fast.tw14897132762066474654 : Unit := ()
def PySem.W.Fast.tw6325207882498153456 : Unit := ()
def PySem.W.Fast.tw15825081816643270754 : Unit := ()
def PySem.W.Fast.tw1673473029716819390 : Unit := ()
def PySem.W.Fast.tw3342328314112553420 : Unit := ()
def PySem.W.Fast.tw5159393022498336034 : Unit := ()
def PySem.W.Fast.tw9838184717665708284 : Unit := ()
def PySem.W.Fast.tw8170817215562393512 : Unit := ()
def PySem.W.Fast.tw3006862852613271515 : Unit := ()
def PySem.W.Fast.tw1358532061499016341 : Unit := ()
def PySem.W.Fast.tw8563314730134290871 : Unit := ()
def PySem.W.Fast.tw16857713013307859343 : Unit := ()
def PySem.W.Fast.tw2047088525994136576 : Unit := ()
def PySem.W.Fast.tw7139345797541294874 : Unit := ()
def PySem.W.Fast.tw2906059432832807071 : Unit := ()
def PySem.W.Fast.tw10457328901183304924 : Unit := ()
def PySem.W.Fast.tw15346330186593840218 : Unit := ()
def PySem.W.Fast.tw461171862552106459 : Unit := ()
def PySem.W.Fast.tw15733193035538410945 : Unit := ()
def PySem.W.Fast.tw14602196194071496589 : Unit := ()
def PySem.W.Fast.tw2671207359258050281 : Unit := ()
def PySem.W.Fast.tw6348905075849550789 : Unit := ()
def PySem.W.Fast.tw11605885026302037336 : Unit := ()
def PySem.W.Fast.tw9359856584492077284 : Unit := ()
def PySem.W.Fast.tw7402609126321582285 : Unit := ()
def PySem.W.Fast.tw6578579264122377638 : Unit := ()
def PySem.W.Fast.tw13587971652481200584 : Unit := ()
def PySem.W.Fast.tw3233529879378095618 : Unit := ()
def PySem.W.Fast.tw57268070490774084 : Unit := ()
def PySem.W.Fast.tw3643981347359511904 : Unit := ()
def PySem.W.Fast.tw15220046721374392940 : Unit := ()
def PySem.W.Fast.tw10467318339230580387 : Unit := ()
def PySem.W.Fast.tw15535562888028049255 : Unit := ()
def PySem.W.Fast.tw17786560827649834696 : Unit := ()
def PySem.W.Fast.tw4330861532575998739 : Unit := ()
def PySem.W.Fast.tw8946370482134587092 : Unit := ()
def PySem.W.Fast.tw7664365170294878378 : Unit := ()
def PySem.W.Fast.tw5569328772498691917 : Unit := ()
def PySem.W.Fast.tw14469777904159221898 : Unit := ()
def PySem.W.Fast.tw15052286253488181885 : Unit := ()
def PySem.W.Fast.tw17116791422897430252 : Unit := ()
def PySem.W.Fast.tw6362858437316556249 : Unit := ()
def PySem.W.Fast.tw15762491571367054490 : Unit := ()
def PySem.W.Fast.tw16083677974091057055 : Unit := ()
def PySem.W.Fast.tw16703286655025009411 : Unit := ()
def PySem.W.Fast.tw17512978784201731555 : Unit := ()
def PySem.W.Fast.tw17532951267502362782 : Unit := ()
def PySem.W.Fast.tw16089370567734621859 : Unit := ()
def PySem.W.Fast.tw7588462994377260343 : Unit := ()
def PySem.W.Fast.tw14952135817778295803 : Unit := ()
def PySem.W.Fast.tw768817605760918517 : Unit := ()
def PySem.W.Fast.tw16923092850002212232 : Unit := ()
def PySem.W.Fast.tw8691394962567046845 : Unit := ()
def PySem.W.Fast.tw8038171258611344244 : Unit := ()
def PySem.W.Fast.tw17035649300596139874 : Unit := ()
def PySem.W.Fast.tw10079059400924176405 : Unit := ()
def PySem.W.Fast.tw9028406659008126485 : Unit := ()
def PySem.W.Fast.tw5407443348327268533 : Unit := ()
def PySem.W.Fast.tw6534280128626751043 : Unit := ()
def PySem.W.Fast.tw15872259087042360511 : Unit := ()
def PySem.W.Fast.tw13675284710783283543 : Unit := ()
def PySem.W.Fast.tw5075152930509689844 : Unit := ()
def PySem.W.Fast.tw577422057629022990 : Unit := ()
def PySem.W.Fast.tw14472222952249182581 : Unit := ()
def PySem.W.Fast.tw11867774879097804954 : Unit := ()
def PySem.W.Fast.tw2932601906010064816 : Unit := ()
def PySem.W.Fast.tw726750314434409169 : Unit := ()
def PySem.W.Fast.tw6372541442175224435 : Unit := ()
def PySem.W.Fast.tw9319761751991300023 : Unit := ()
def PySem.W.Fast.tw17942476479958815296 : Unit := ()
def PySem.W.Fast.tw15090935221428931119 : Unit := ()
def PySem.W.Fast.tw8819068112584372876 : Unit := ()
def PySem.W.Fast.tw16774383346900587791 : Unit := ()
def PySem.W.Fast.tw16775383065372668654 : Unit := ()
def PySem.W.Fast.tw2651292545100218429 : Unit := ()
def PySem.W.Fast.tw15679023118238844746 : Unit := ()
def PySem.W.Fast.tw14485742228663068182 : Unit := ()
def PySem.W.Fast.tw17476423712783760696 : Unit := ()
def PySem.W.Fast.tw17091500197193523972 : Unit := ()
def PySem.W.Fast.tw9957205533250318279 : Unit := ()
def PySem.W.Fast.tw11403265625703649120 : Unit := ()
def PySem.W.Fast.tw11244981265404260549 : Unit := ()
def PySem.W.Fast.tw10304852574944482310 : Unit := ()
def PySem.W.Fast.tw4647576681823511468 : Unit := ()
def PySem.W.Fast.tw1924649385696616501 : Unit := ()
def PySem.W.Fast.tw10093984905886717519 : Unit := ()
def PySem.W.Fast.tw7550261256152403977 : Unit := ()
def PySem.W.Fast.tw12529212123413380911 : Unit := ()
def PySem.W.Fast.tw11956249504598733959 : Unit := ()
def PySem.W.Fast.tw5247606235759783830 : Unit := ()
def PySem.W.Fast.tw13343703235840247460 : Unit := ()
def PySem.W.Fast.tw11325085372335403301 : Unit := ()
open_top Dd.theTop for PySem.Challenge.rw_doubtwell_k41_invalid_query_text
end
namespace Dd
open PySem PySem.Spec PyProof.Rows L2
def lamNames : List Str := []
def codeTab (vs : Array Value) : Addr :=
  match vs[11]? with
  | some (Value.ref P) => P
  | _ => 0
def tabOf (K : PySem.W.Frag) (x : Str) : Addr :=
  match PySem.W.nsIn K mainGlobals x with
  | some (some (Value.ref fa)) =>
    match K.lookup fa with
    | some ⟨_, _, .func fd, _⟩ =>
      match fd.code with
      | Value.ref c =>
        match K.lookup c with
        | some ⟨_, _, .fields vs, _⟩ => codeTab vs
        | _ => 0
      | _ => 0
    | _ => 0
  | _ => 0
def theTab (K : PySem.W.Frag) : List (Addr × Str) := lamNames.map fun x => (tabOf K x, x ++ ".<locals>." ++ "<lambda>")
end Dd
namespace Dw
open PySem PySem.Spec PyProof.Rows L2
def CDivZ (_ y : Int) : Prop := y ≠ 0 ∧ y.natAbs.log2 < 9000
theorem op_fdivZ {X : Cx} : OpR X (binaryOp .FloorDiv) (rI CDivZ fun x y => .int (x.fdiv y)) :=
  opI fun _ _ _ _ _ _ _ ok want => floordiv_int ok.1 want (.inl (PyProof.noPylong_of_log2 ok.2))
theorem pe_clsfn {X : Cx} {CX : CXT} {k : Nat} {f C : Addr} {fd : FuncData} {ps : List Str} {sp : Sp} {dvs : List V} {ds : List Value} {E : XK} {x m : Str} {mc : Value}
    {p1 p2 pos : Pos} {e : Expr} {es : List Expr} {t : TA} {pl : Sem Bool} (G : FnOk X.prog X.w X.K X.mg X.base CX k f fd ps sp) (room : Room k X.A) (gl : Gl X x) (isC : X.mg x = some (.ref C))
    (rd : ClX.CRead X.K C mc) (fnd : PySem.W.findCls X.K (.ref C) mc m = some (.val (.ref f))) (kp : PySem.W.keepIn X.K (.ref f) = true) (bn : L2.Binds X.K fd ps ds) (dv : Vals dvs ds) (pas : Passes CX X E)
    (ha : PA X (e :: es) t) (nd : (x == ("__debug__" : Str)) = false := by decide)
    (ev : eval (.Call (.Attribute (.Name x p1) m p2) (e :: es) [] pos) X.env = (do
        let who ← eval (.Name x p1) X.env
        standAt p2.atName
        let (fn, fst) ← holding [who] (getMethod who m pl)
        callWith pos fn fst (backTo pos (starEach (e :: es) X.env)) (backToKw pos (keywordEach [] X.env))) := by rfl)
    (st : starEach (e :: es) X.env = (false, eval e X.env) :: starEach es X.env := by rfl) (ns : (backTo pos (starEach es X.env)).any (·.1) = false := by rfl) :
    PE X (.Call (.Attribute (.Name x p1) m p2) (e :: es) [] pos) (tCall sp dvs E t) := by
  refine ⟨fun pins s σ H Q J rd0 => ?_⟩
  refine PySem.W.methodCall_KW (ld_glob J gl isC ?_ nd) ev
  refine PySem.W.method_cls J.kIn rd.ga (PySem.W.cls_value J.kIn rd.rd fnd rfl ?_)
  have J1 := J.tok (s.toks + 1)
  refine PySem.W.callWith_K (h₀ := X.base) J.ok.mod.kin kp ?_ st ns
  refine thn (ha.run pos pins _ σ H _ J1 rd0) fun us s1 got => ?_
  obtain ⟨vs, H1, J2, rv, q⟩ := got
  exact ⟨J2.kIn, run_fn G room bn dv pas J2 rv q⟩
theorem pe_xfE {X : Cx} {a : Addr} {oe : Obj} {cls : Value} {d : Option Addr} {pn : List (Addr × Obj)} {e : Expr} {te : TE} {pos : Pos} {n : Str} (hz : Zc cls d oe) (hf : ∃ vs, oe.data = .fields vs)
    (he : PE (X.suite a ((a, oe) :: pn)) e te) (hb : attributeBase e n X.env (eval e X.env) = eval e X.env := by rfl) :
    PE (X.suite a ((a, oe) :: pn)) (.Attribute e n pos) (fun σ H Q => ∃ C, XfC X.K C ∧ PySem.W.findIn X.K (.ref C) n = some none ∧ tXf a cls d C n te σ H Q) :=
  ⟨fun pins s σ H Q J ⟨_, xf, nf, z⟩ => (pe_xf xf nf hz hf he hb).run pins s σ H Q J z⟩
abbrev Suite := Addr → Value → Option Addr → TS
def endAs (i : Nat) (D : Ends) : Ends where
  nx := fun σ H => D.nx (σ.set i none) H
  rt := D.rt
  bk := fun σ H => D.bk (σ.set i none) H
  ct := fun σ H => D.ct (σ.set i none) H
def wAll (K : PySem.W.Frag) (i : Nat) (out : WX) (D : Ends) : List (Value × Suite) → WX
  | [] => out
  | (c, ts) :: more => fun cls d σ H => ∃ b, PySem.W.exmOne K cls c = some b ∧ (b = true → ∀ a, H a = none → ts a cls d (endAs i D) (σ.set i (some (.ref a))) H) ∧ (b = false → wAll K i out D more cls d σ H)
inductive Clauses (X : Cx) (n : Str) : List ExceptHandler → List (Value × Suite) → Prop
  | none : Clauses X n [] []
  | one {x : Str} {c : Value} {ts : Suite} {st : Stmt} {su : List Stmt} {q1 q2 : Pos} {more : List ExceptHandler} {l : List (Value × Suite)} (nm : Names X x c)
      (run : ∀ (a : Addr) (oe : Obj) (cls : Value) (d : Option Addr) (pn : List (Addr × Obj)), Zc cls d oe → (∃ vs, oe.data = .fields vs) → PSs (X.suite a ((a, oe) :: pn)) (st :: su) (ts a cls d))
      (rest : Clauses X n more l) : Clauses X n (.ExceptHandler (some (.Name x q1)) (some n) (st :: su) q2 :: more) ((c, ts) :: l)
section
variable {X : Cx} {n : Str} {i : Nat} {body : List Stmt} {hd : ExceptHandler} {more : List ExceptHandler} {l : List (Value × Suite)} {pos : Pos} {tb : WX → TS} {out : WX}
theorem ps_try_all (hs : X.stack = X.env :: X.outer) (hf : X.env.frame = some X.env.locals) (hN : X.N.Nodup) (hi : X.N[i]? = some n) (hln : X.env.kindOf n = some .local) (tk : Takes X out)
    (hb : ∀ (W : WX) (pn : List (Addr × Obj)) (xe : Value → Shared → Prop), Takes (X.tr pn xe) W → PassesOwn (model X.prog X.w) X.A X.env xe → PSs (X.tr pn xe) body (tb W))
    (cl : Clauses X n (hd :: more) l) : PS X (.Try body (hd :: more) [] [] pos) (fun D σ H => tb (wAll X.K i out D l) D σ H) := by
  refine ⟨fun pins s σ H D J0 h => ?_⟩
  have ok := J0.ok
  have frm : X.A.frames = some (X.env :: X.outer) := by rw [ok.frames, hs]
  have isLoc : Loc X.env.scope n := .inl hln
  refine wpAny_Try_except (wpAny_mono ((hb (wAll X.K i out D l) (X.pn ++ pins)
    (fun e s₁ => wpAny (model X.prog X.w) X.A (noteFrame e X.env) (fun _ s₂ => wpAny (model X.prog X.w) X.A (setFlight e none)
      (fun _ s₃ => wpAny (model X.prog X.w) X.A (handleBy e X.env (hd :: more)) (SP X pins D) X.xe s₃) X.xe s₂) X.xe s₁)
    (fun u s' air => ?_) PassesOwn.looking).run [] s σ H D (J0.toTry _) h) (fun f s1 sp => ?_) (fun _ _ z => z))
  · obtain ⟨a, B, sI, _, σ', H', cls, d, rfl, Jt, nb, up, sky, na, os, ag, wish⟩ := air
    have J : Inv X pins σ' H' sI := Jt.ofTry ok
    show wpAny (model X.prog X.w) X.A (noteFrame (.ref a) X.env) _ _ _
    refine Sky.land Zc.steady frm hf (by rw [← hs]; exact sky) fun h3 fl3 up3 => ?_
    have J3 : Inv X pins σ' H' { s' with heap := h3 } := J.landed nb fl3.1 (up.trans up3) os ag
    obtain ⟨oe3, vs3, at3, zc3, da3⟩ := fl3.there
    have off : a ∉ frs (X.env :: X.outer) := fun mem => by
      obtain ⟨_, o', at', no⟩ := fl3.2.2.1.mem mem
      rw [at3] at at'
      cases at'
      exact no _ da3
    have nL : a ≠ X.env.locals := fun z => off (List.mem_filterMap.mpr ⟨X.env, List.mem_cons_self, by rw [hf, z]⟩)
    have nF : a ∉ X.fs := fun mem => by
      obtain ⟨e, he, q⟩ := List.mem_filterMap.mp mem
      exact off (List.mem_filterMap.mpr ⟨e, List.mem_cons_of_mem _ he, q⟩)
    have S3 := J3.suite at3 da3 na nL nF
    have go : ∀ {hs' : List ExceptHandler} {l' : List (Value × Suite)}, Clauses X n hs' l' → wAll X.K i out D l' cls d σ' H' →
        wpAny (model X.prog X.w) X.A (handleBy (.ref a) X.env hs') (SP X pins D) X.xe { s' with heap := h3 } := by
      intro hs' l' cs
      induction cs with
      | none =>
        intro wsh
        refine wpAny_handleBy_nil ?_
        obtain ⟨_, _, _, oe, vs, T, oT, ts', he, hz, hdd, h1, hr⟩ := id fl3
        unfold PySem.passOn
        refine wpAny_bind (wpAny_field he hdd h1 ?_)
        rw [if_neg (show ¬ ((Value.ref T == Value.none) = true) from by simp)]
        have last : wpAny (model X.prog X.w) X.A (setFlight (.ref a) X.env.frame) (fun _ s4 => wpAny (model X.prog X.w) X.A (throw (.ref a) : Sem Flow) (SP X pins D) X.xe s4) X.xe { s' with heap := h3 } := by
          rw [hf]
          refine HandSPX.setFlight_upZ fl3 fun h4 held up4 => wpAny_throw (tk _ _ ⟨a, B, sI, pins, σ', H', cls, d, rfl, J, nb, (up.trans up3).trans up4, .inr (.inr (by rw [hs]; exact held)), na, os, ag, wsh⟩)
        first
          | exact wpAny_bind (wpAny_pure (wpAny_bind last))
          | exact wpAny_bind last
      | @one x c ts st su q1 q2 more2 l2 nm run rest ih =>
        intro wsh
        obtain ⟨b, is, yes, no⟩ := wsh
        refine wpAny_handleBy_cons (codeAny_handlers_test ?_) (by intro z; cases z)
        have LT : PySem.W.Looks (model X.prog X.w) h3 (typeOf (.ref a)) cls := fun A Q E s k q => wpAny_typeOf_ref (k _ _ at3) (by rw [zc3.1]; exact q)
        have LM := PySem.W.exm_one (M := model X.prog X.w) J3.kIn LT is
        have look : ∀ {Q : Value → Shared → Prop} {E : Value → Shared → Prop}, Q c { s' with heap := h3 } →
            wpAny (model X.prog X.w) (X.A.mark (some (.ref a))) (eval (.Name x q1) X.env) Q E { s' with heap := h3 } := fun {Q E} q => by
          obtain ⟨g1, g2, g3 | ⟨g3, g4, g5⟩⟩ := nm
          · exact ld_glob (X := X.suite a ((a, oe3) :: (X.pn ++ pins))) S3 g1 g3 q g2
          · exact ld_blt (X := X.suite a ((a, oe3) :: (X.pn ++ pins))) S3 g1 g3 g4 q g5 g2
        refine look (LM.here ?_)
        cases b with
        | true =>
          refine codeAny_handlers_suite_as (HandSPX.lands_againZ fl3 fun h4 fl4 up4 => ?_)
          have J4 : Inv X pins σ' H' { s' with heap := h4 } := J.landed nb fl4.1 ((up.trans up3).trans up4) os ag
          obtain ⟨oe4, vs4, at4, zc4, da4⟩ := fl4.there
          refine store_ok (X := X.suite a ((a, oe4) :: (X.pn ++ pins))) (v := .ref a) (J4.suite at4 da4 na nL nF) hN hi isLoc rfl (fun s5 S5 => ?_) (.inr hln)
          refine wpAny_mono ((run a oe4 cls d (X.pn ++ pins) zc4 ⟨_, da4⟩).run [] s5 _ H' _ S5 (yes rfl a na)) (fun f s6 sp => ?_) (fun _ _ z => z.elim)
          have fin : ∀ {σ6 : L2.St} {H6 : Hp} {Q : Shared → Prop}, Inv (X.suite a ((a, oe4) :: (X.pn ++ pins))) [] σ6 H6 s6 → (∀ s7, Inv X pins (σ6.set i none) H6 s7 → Q s7) →
              wpAny (model X.prog X.w) X.A (do bindName X.env n .none; unbindBehindTheSuite X.env n q2) (fun _ s7 => Q s7) X.xe s6 := fun {σ6 H6 Q} S6 hq => gone_ok (S6.unsuite ok) hN hi hln hq
          cases f with
          | next => exact let ⟨σ6, H6, S6, q6⟩ := sp; fin S6 fun s7 J7 => ⟨_, _, J7, q6⟩
          | brk => exact let ⟨σ6, H6, S6, q6⟩ := sp; fin S6 fun s7 J7 => ⟨_, _, J7, q6⟩
          | cont => exact let ⟨σ6, H6, S6, q6⟩ := sp; fin S6 fun s7 J7 => ⟨_, _, J7, q6⟩
          | ret u => exact let ⟨v6, σ6, H6, S6, r6, q6⟩ := sp; fin S6 fun s7 J7 => ⟨_, _, _, J7, r6, q6⟩
        | false =>
          show wpAny _ X.A (handleBy (.ref a) X.env more2) _ _ _
          exact ih (no rfl)
    exact go cl wish
  · cases f with
    | next => exact let ⟨σ', H', J', q⟩ := sp; wpAny_execs_nil ⟨σ', H', J'.ofTry ok, q⟩
    | brk => exact let ⟨σ', H', J', q⟩ := sp; ⟨σ', H', J'.ofTry ok, q⟩
    | cont => exact let ⟨σ', H', J', q⟩ := sp; ⟨σ', H', J'.ofTry ok, q⟩
    | ret u => exact let ⟨v, σ', H', J', r, q⟩ := sp; ⟨v, σ', H', J'.ofTry ok, r, q⟩
end
theorem pss_imp {X : Cx} {b : List Stmt} {t u : TS} (h : PSs X b t) (i : ∀ D σ H, u D σ H → t D σ H) : PSs X b u := ⟨fun pins s σ H D J q => h.run pins s σ H D J (i D σ H q)⟩
theorem pe_imp {X : Cx} {e : Expr} {t u : TE} (h : PE X e t) (i : ∀ σ H Q, u σ H Q → t σ H Q) : PE X e u := ⟨fun pins s σ H Q J q => h.run pins s σ H Q J (i σ H Q q)⟩
def rGetL (K : PySem.W.Frag) : V → V → Hp → VK → Prop := fun o i H Q => ∃ p xs j v, o = .ref p ∧ i = .int ((j : Nat) : Int) ∧ SqL K H p xs ∧ xs[j]? = some v ∧ Q v H
theorem get_list {X : Cx} : PGet X (rGetL X.K) := by
  intro pins s σ H o i ov iv Q J ro ri h
  obtain ⟨p, xs, j, v, rfl, rfl, hq, hx, q⟩ := h
  cases ro
  obtain ⟨t, rfl⟩ := ri
  obtain ⟨its, r, pl, hz⟩ := J.list hq
  obtain ⟨u, eu, ru⟩ := r.get hx
  have hj : j < xs.length := (List.getElem?_eq_some_iff.mp hx).1
  have hn := line63
  exact wpAny_getItem_list pl.isList (by omega) (by omega) (by simpa using eu) ⟨v, H, J, ru, q⟩
end Dw
namespace Dw
open PySem PySem.Spec PyProof.Rows L2
def tFmtP (K : PySem.W.Frag) (te : TE) : TE := fun σ H Q => te σ H fun x H1 => ∃ (a : Addr) (i j : Int), x = .ref a ∧ SqT K H1 a [.int i, .int j] ∧ i.natAbs < 10 ^ 500 ∧ j.natAbs < 10 ^ 500 ∧ ∀ m : Str, m.length ≤ 2000 → Q (.str m) H1
theorem txt_len {i : Int} (h : i.natAbs < 10 ^ 500) : (Str.ofString (toString i)).length ≤ 501 := by
  rw [PySem.ofString_length]
  exact int_text_length_le10 (by decide) h
open PySem.W in
def rSortData (K : PySem.W.Frag) : List V → Hp → VK → Prop := fun vs H Q => ∃ (a : Addr) (bs : List (V × PyData)), vs = [.ref a] ∧ SqL K H a (bs.map (·.1)) ∧ (∀ b ∈ bs, Dp K H b.1 b.2) ∧ AllAlike (bs.map (·.2)) ∧ Sortable (bs.map (·.2)) ∧ (∀ b ∈ bs, b.2.depth ≤ 30) ∧
  ∀ p, H p = none → Q (.ref p) (upd H p (.lst ((bs.mergeSort (dataLe false (·.2))).map (·.1))))
theorem each_vals {α : Type} {f : α → V} : ∀ {bs : List α} {its : List Value}, Vals (bs.map f) its → PySem.W.EachIs (fun v b => RelV (f b) v) its bs
  | [], _, r => by
    cases r
    exact .nil
  | b :: bs, _, r => by
    cases r with
    | cons r1 r2 => exact .cons r1 (each_vals r2)
theorem vals_each {α : Type} {f : α → V} : ∀ {bs : List α} {its : List Value}, PySem.W.EachIs (fun v b => RelV (f b) v) its bs → Vals (bs.map f) its
  | [], _, r => by
    cases r
    exact .nil
  | b :: bs, _, r => by
    cases r with
    | cons r1 r2 => exact .cons r1 (vals_each r2)
theorem each_reads {X : Cx} {pins : List (Addr × Obj)} {σ : L2.St} {H : Hp} {s : Shared} (J : Inv X pins σ H s) : ∀ {bs : List (V × PyData)} {its : List Value}, Vals (bs.map (·.1)) its → (∀ b ∈ bs, Dp X.K H b.1 b.2) → PySem.W.EachIs (fun v b => ∃ as, Reads s.heap v b.2 as) its bs
  | [], _, r, _ => by
    cases r
    exact .nil
  | b :: bs, _, r, h => by
    cases r with
    | cons r1 r2 => exact .cons (Dp.reads J b.2 b.1 _ (h b List.mem_cons_self) r1) (each_reads J r2 fun c hc => h c (List.mem_cons_of_mem _ hc))
theorem cr_sortData {X : Cx} (hu : X.A.units + 64 < cLine) : CallR X (.builtin "sorted") (rSortData X.K) := by
  intro pins s σ H vs us Q J r h
  obtain ⟨a, bs, rfl, hs, hd, al, so, dp, q⟩ := h
  obtain ⟨its, rv, hl, hz⟩ := J.list hs
  rw [Vals.ref1 r]
  rw [List.length_map] at hz
  refine PySem.W.sorted_data (R := fun v (b : V × PyData) => RelV b.1 v) (enc := fun b : V × PyData => b.2) hl.isList (each_vals rv) (each_reads J rv hd) al so hz (fun b hb => by have := dp b hb; omega) fun out lo eo => ?_
  obtain ⟨ep, at'⟩ := PyProof.Rows.sortedAll_at s.heap its out.toArray
  refine ⟨.ref _, upd H (s.heap.objs.size + 1) (.lst ((bs.mergeSort (PySem.W.dataLe false (·.2))).map (·.1))), J.laid (t' := s.toks) (fun _ _ => PyProof.Rows.sortedAll_old) (Nat.le_succ _) ⟨?_, out, ep, vals_each eo, at'⟩, rfl, q _ (J.hok.fresh (Nat.le_succ _))⟩
  rw [List.length_map, List.length_mergeSort]
  exact hz
end Dw
namespace Dw
open PySem PySem.Spec PyProof.Rows L2
end Dw
namespace Dw
open PySem PySem.Spec PyProof.Rows L2
structure SrcIs (H : Hp) (a l : Addr) (ms : List Int) (i r s : Int) : Prop where
  ne : l ≠ a
  at_ : H a = some (.lst [.ref l, .int i, .int r, .int s])
  cells : H l = some (.lst (ms.map V.int))
  i0 : 0 ≤ i
  r0 : 0 ≤ r
  s0 : 0 ≤ s
  s1 : s < 2147483587
def Src (H : Hp) (a l : Addr) : Prop := ∃ ms i r s, SrcIs H a l ms i r s
def But (a : Addr) (H H' : Hp) : Prop := ∀ b, b ≠ a → H' b = H b
theorem But.refl (a : Addr) (H : Hp) : But a H H := fun _ _ => rfl
theorem But.trans {a : Addr} {H H1 H2 : Hp} (x : But a H H1) (y : But a H1 H2) : But a H H2 := fun b h => (y b h).trans (x b h)
theorem But.upd {a : Addr} {H H' : Hp} {o : HO} (x : But a H H') : But a H (L2.upd H' a o) := fun b h => (upd_ne h).trans (x b h)
theorem cut_ints (ns : List Int) (lo hi : Option Int) : ∃ ms : List Int, cutV (ns.map V.int) lo hi = ms.map V.int := by
  unfold cutV
  exact ⟨_, by rw [← List.map_drop, ← List.map_take]⟩
theorem same_new {H : Hp} {p : Addr} {o : HO} (h : H p = none) : Same H (upd H p o) := fun b x e => by
  rw [upd_ne (ne_of_none e h)]
  exact e
def Keep (a : Addr) (H H' : Hp) : Prop := ∀ b o, b ≠ a → H b = some o → H' b = some o
theorem Keep.refl (a : Addr) (H : Hp) : Keep a H H := fun _ _ _ h => h
theorem Keep.trans {a : Addr} {H H1 H2 : Hp} (x : Keep a H H1) (y : Keep a H1 H2) : Keep a H H2 := fun b o n h => y b o n (x b o n h)
theorem But.keep {a : Addr} {H H' : Hp} (x : But a H H') : Keep a H H' := fun b o n h => (x b n).trans h
theorem Keep.of {a : Addr} {H H' : Hp} (x : Same H H') : Keep a H H' := fun b o _ h => x b o h
theorem Keep.seq {K : PySem.W.Frag} {a c : Addr} {H H' : Hp} {xs : List V} (x : Keep a H H') (n : c ≠ a) (h : SqL K H c xs) : SqL K H' c xs := by
  rcases h with (h | ⟨o, h⟩) | h
  · exact .inl (.inl (x _ _ n h))
  · exact .inl (.inr ⟨o, x _ _ n h⟩)
  · exact .inr h
theorem Src.put {H : Hp} {a l p : Addr} {o : HO} (h : Src H a l) (n1 : p ≠ a) (n2 : p ≠ l) : Src (upd H p o) a l := by
  obtain ⟨ms, i, r, s, S⟩ := h
  exact ⟨ms, i, r, s, S.ne, by rw [upd_ne n1.symm]; exact S.at_, by rw [upd_ne n2.symm]; exact S.cells, S.i0, S.r0, S.s0, S.s1⟩
theorem same_upd {H H' : Hp} {p : Addr} {o : HO} (s : Same H H') (h : H p = none) : Same H (upd H' p o) := fun b x e => by
  rw [upd_ne (ne_of_none e h)]
  exact s b x e
def spSrc (K : PySem.W.Frag) : Sp := fun vs H Q _ => ∃ (a : Addr) (ns : List Int), vs = [.ref a] ∧ SqL K H a (ns.map V.int) ∧ ∀ H' p l, Same H H' → H p = none → H l = none → Src H' p l → Q (.ref p) H'
def spDraw : Sp := fun vs H Q _ => ∃ (a l : Addr) (c : Int), vs = [.ref a, .int c] ∧ Src H a l ∧ 0 < c ∧ c.natAbs < 2 ^ 8000 ∧ ∀ H' v, But a H H' → Src H' a l → 0 ≤ v → v < c → Q (.int v) H'
end Dw
namespace Dw
open PySem PySem.Spec PyProof.Rows L2 LamX
section
variable {X : Cx} {pins : List (Addr × Obj)} {σ : L2.St} {H : Hp} {s : Shared}
abbrev gotCx (X : Cx) (Ng : List Str) (qg : Str) (sg : Scope) (g : Addr) (cdg : Value) (s : Shared) (H : Hp) : Cx := cxOf C8.CX0 X.prog X.w X.K X.mg X.base Ng qg sg g cdg X.A X.stack s H C8.E0
def GivesS (X : Cx) (Ng : List Str) (x : Str) (sg : Scope) (g : Addr) (cdg : Value) (bg : List Stmt) (a q : Str) (TT : (XK → Hp → VK → Prop) → Hp → VK → Prop) : Prop :=
  ∀ (f c : Addr) (s : Shared) (H : Hp) (Q : VK) (tl : XK → Hp → VK → Prop),
    (∀ (W : WX) (pn : List (Addr × Obj)) (xe : Value → Shared → Prop) (E : XK) (σ0 : L2.St) (p1 p2 : Pos), Takes ((gotCx X Ng x sg g cdg s H).tr pn xe) W → (∀ cls d H', E cls d H' → W cls d σ0 H') →
      PE ((gotCx X Ng x sg g cdg s H).tr pn xe) (.Call (.Name a p1) [] [] p2) (fun σZ HZ Q => σZ = σ0 ∧ σZ[0]? = some (some (.ref f)) ∧ HZ c = some (CodeO c q) ∧ tl E HZ Q)) →
    H c = some (CodeO c q) → TT tl H Q → ∃ t, PSs (gotCx X Ng x sg g cdg s H).nox bg t ∧ t { nx := fun _ H' => Q .non H', rt := Q } (L2.start Ng [.ref f]) H
end
end Dw
namespace Dd
open PySem PySem.Spec PyProof.Rows L2
structure Exn where
  C : Str
  fs : List (Str × PyData)
structure M (α : Type) where
  run : (α → Prop) → (Exn → Prop) → Prop
  mono : ∀ {P P' : α → Prop} {E E' : Exn → Prop}, (∀ a, P a → P' a) → (∀ e, E e → E' e) → run P E → run P' E'
namespace M
protected def pure {α : Type} (a : α) : M α := ⟨fun P _ => P a, fun h _ p => h _ p⟩
protected def bind {α β : Type} (m : M α) (f : α → M β) : M β := ⟨fun P E => m.run (fun a => (f a).run P E) E, fun h g p => m.mono (fun a q => (f a).mono h g q) g p⟩
instance : Monad M where
  pure := M.pure
  bind := M.bind
def fail {α : Type} : M α := ⟨fun _ _ => False, fun _ _ p => p⟩
def throw {α : Type} (e : Exn) : M α := ⟨fun _ E => E e, fun _ g p => g _ p⟩
def lift {α : Type} : Option α → M α
  | some a => M.pure a
  | none => M.fail
def anyI (c : Int) : M Int := ⟨fun P _ => ∀ v : Int, 0 ≤ v → v < c → P v, fun h _ p v a b => h _ (p v a b)⟩
def calm {α : Type} (m : M α) : M α := ⟨fun P _ => m.run P (fun _ => False), fun h _ p => m.mono h (fun _ z => z) p⟩
def when {α : Type} (b : Bool) (m : M α) : M α := if b = true then m else M.fail
def need (p : Prop) : M Unit := ⟨fun P _ => p ∧ P (), fun h _ q => ⟨q.1, h _ q.2⟩⟩
end M
theorem run_bind {α β : Type} {m : M α} {f : α → M β} {P : β → Prop} {E : Exn → Prop} : (m >>= f).run P E ↔ m.run (fun a => (f a).run P E) E := Iff.rfl
theorem run_lift {α : Type} {o : Option α} {P : α → Prop} {E : Exn → Prop} : (M.lift o).run P E ↔ ∃ a, o = some a ∧ P a := by
  cases o with
  | none => exact ⟨fun h => h.elim, fun ⟨_, h, _⟩ => nomatch h⟩
  | some a => exact ⟨fun h => ⟨a, rfl, h⟩, fun ⟨_, h, p⟩ => by cases h; exact p⟩
theorem run_when {α : Type} {b : Bool} {m : M α} {P : α → Prop} {E : Exn → Prop} : (M.when b m).run P E ↔ b = true ∧ m.run P E := by
  unfold M.when
  cases b with
  | true => simp
  | false => exact ⟨fun h => h.elim, fun h => Bool.noConfusion h.1⟩
inductive Cap where
  | live (cs : List (Str × Addr))
  | dead (fr : List Str) (ds : List PyData)
structure Lm where
  ar : Arguments
  body : Expr
  scope : Scope
  q : Str
  cap : Cap
inductive SX where
  | ob (c : Str) (fs : List (Str × PyData))
  | obp (c : Str) (fs : List (Str × PyData)) (d : PyData)
  | hdl (a : Addr)
  | hls (l : List Addr)
  | ex (a dx : Addr) (fs : List (Str × PyData))
  /-- a store that is only read: where it is, its capacity, its state -/
  | sto (a : Addr) (cap : PyData) (now : List (Str × PyData))
  /-- a pair of an object of the caller's and data -/
  | hpr (a : Addr) (d : PyData)
  /-- a lambda, a list of such -/
  | lam (L : Lm)
  | lams (l : List Lm)
inductive SD where
  | no
  | d (x : PyData)
  /-- the source of the draws -/
  | src
  /-- a list, a dict, that this def alone holds -/
  | own (xs : List PyData)
  | ownD (kvs : List (Key × PyData))
  /-- a dict, at this address, that was handed over to be changed -/
  | mutD (p : Addr) (kvs : List (Key × PyData))
  /-- a list of lambdas that this def alone holds -/
  | ownL (ls : List Lm)
  /-- a built-in class -/
  | ty (n : String)
  | x (e : SX)
def keyD : Key → PyData
  | .inl i => .int i
  | .inr x => .str x
def NT (o : HO) : Prop := ∀ ps, o ≠ .tbl ps
theorem nt_lst {xs : List V} : NT (.lst xs) := fun _ z => nomatch z
theorem nt_tup {xs : List V} : NT (.tup xs) := fun _ z => nomatch z
theorem nt_frz {o : Obj} {u : HO} : NT (.frz o u) := fun _ z => nomatch z
theorem nt_dK {xs : List (Key × V)} : NT (.dK xs) := fun _ z => nomatch z
def Fr0 (H : Hp) (b : Addr) : Prop := ∀ o, H b = some o → ¬ NT o
theorem Fr0.of {H : Hp} {b : Addr} (h : H b = none) : Fr0 H b := fun o e => by rw [h] at e; cases e
theorem nt_ins {C dx : Addr} {xs : List (Str × V)} : NT (.ins C dx xs) := fun _ z => nomatch z
theorem nt_xd {xs : List (Str × V)} : NT (.xd xs) := fun _ z => nomatch z
def Fix : HO → Prop
  | .tup _ => True
  | .ext _ => True
  | .frz _ _ => True
  | _ => False
def LsAt (S : List Addr) (H : Hp) (a : Addr) (xs : List V) : Prop := H a = some (.lst xs) ∧ a ∉ S
theorem LsAt.sq {K : PySem.W.Frag} {S : List Addr} {H : Hp} {a : Addr} {xs : List V} (h : LsAt S H a xs) : SqL K H a xs := .inl (.inl h.1)
mutual
inductive Rp (K : PySem.W.Frag) (S : List Addr) (H : Hp) : V → PyData → Prop
  | non : Rp K S H .non .none
  | bl (b : Bool) : Rp K S H (.bl b) (.bool b)
  | int (i : Int) : Rp K S H (.int i) (.int i)
  | str (x : Str) : Rp K S H (.str x) (.str x)
  | lst {a : Addr} {xs : List V} {ds : List PyData} : LsAt S H a xs → RpAll K S H xs ds → Rp K S H (.ref a) (.list ds)
  | tup {a : Addr} {xs : List V} {ds : List PyData} : SqT K H a xs → RpAll K S H xs ds → Rp K S H (.ref a) (.tuple ds)
  | dct {a : Addr} {kvs : List (Key × V)} {ds : List (PyData × PyData)} : Rd H a (.dK kvs) → a ∉ S → RpKV K S H kvs ds → Rp K S H (.ref a) (.dict ds)
inductive RpAll (K : PySem.W.Frag) (S : List Addr) (H : Hp) : List V → List PyData → Prop
  | nil : RpAll K S H [] []
  | cons {v : V} {vs : List V} {d : PyData} {ds : List PyData} : Rp K S H v d → RpAll K S H vs ds → RpAll K S H (v :: vs) (d :: ds)
inductive RpKV (K : PySem.W.Frag) (S : List Addr) (H : Hp) : List (Key × V) → List (PyData × PyData) → Prop
  | nil : RpKV K S H [] []
  | cons {k : Key} {v : V} {vs : List (Key × V)} {d : PyData} {ds : List (PyData × PyData)} : Rp K S H v d → RpKV K S H vs ds → RpKV K S H ((k, v) :: vs) ((keyD k, d) :: ds)
end
structure Stp (S S' : List Addr) (H H' : Hp) : Prop where
  keep : ∀ b o, H b = some o → NT o → b ∉ S ∨ Fix o → H' b = some o
  news : ∀ b ∈ S', b ∈ S ∨ Fr0 H b
theorem Stp.rd {S S' : List Addr} {H H' : Hp} (s : Stp S S' H H') {a : Addr} {u : HO} (nt : NT u) (h : Rd H a u) (n : a ∉ S) : Rd H' a u ∧ a ∉ S' := by
  have no : ∀ o, H a = some o → NT o → a ∉ S' := fun o e t z => by
    rcases s.news a z with q | q
    · exact n q
    · exact q o e t
  rcases h with h | ⟨o, h⟩
  · exact ⟨.inl (s.keep _ _ h nt (.inl n)), no _ h nt⟩
  · exact ⟨.inr ⟨o, s.keep _ _ h nt_frz (.inl n)⟩, no _ h nt_frz⟩
theorem Stp.tp {K : PySem.W.Frag} {S S' : List Addr} {H H' : Hp} (s : Stp S S' H H') {a : Addr} {xs : List V} (h : SqT K H a xs) : SqT K H' a xs := by
  rcases h with (h | ⟨o, h⟩) | h
  · exact .inl (.inl (s.keep _ _ h nt_tup (.inr trivial)))
  · exact .inl (.inr ⟨o, s.keep _ _ h nt_frz (.inr trivial)⟩)
  · exact .inr h
theorem Stp.ls {S S' : List Addr} {H H' : Hp} (s : Stp S S' H H') {a : Addr} {xs : List V} (h : LsAt S H a xs) : LsAt S' H' a xs := by
  refine ⟨s.keep _ _ h.1 nt_lst (.inl h.2), fun z => ?_⟩
  rcases s.news a z with q | q
  · exact h.2 q
  · exact q _ h.1 nt_lst
mutual
theorem Rp.step {K : PySem.W.Frag} {S S' : List Addr} {H H' : Hp} (s : Stp S S' H H') : ∀ {v : V} {d : PyData}, Rp K S H v d → Rp K S' H' v d
  | _, _, .non => .non
  | _, _, .bl b => .bl b
  | _, _, .int i => .int i
  | _, _, .str x => .str x
  | _, _, .lst h t => .lst (s.ls h) (RpAll.step s t)
  | _, _, .tup h t => .tup (s.tp h) (RpAll.step s t)
  | _, _, .dct h n t => .dct (s.rd nt_dK h n).1 (s.rd nt_dK h n).2 (RpKV.step s t)
theorem RpAll.step {K : PySem.W.Frag} {S S' : List Addr} {H H' : Hp} (s : Stp S S' H H') : ∀ {v : List V} {d : List PyData}, RpAll K S H v d → RpAll K S' H' v d
  | _, _, .nil => .nil
  | _, _, .cons h t => .cons (Rp.step s h) (RpAll.step s t)
theorem RpKV.step {K : PySem.W.Frag} {S S' : List Addr} {H H' : Hp} (s : Stp S S' H H') : ∀ {v : List (Key × V)} {d : List (PyData × PyData)}, RpKV K S H v d → RpKV K S' H' v d
  | _, _, .nil => .nil
  | _, _, .cons h t => .cons (Rp.step s h) (RpKV.step s t)
end
theorem paired_mono {α β : Type} {F G : α → β → Prop} (h : ∀ a b, F a b → G a b) : ∀ {l₁ : List α} {l₂ : List β}, Paired F l₁ l₂ → Paired G l₁ l₂
  | _, _, .nil => .nil
  | _, _, .cons r t => .cons (h _ _ r) (paired_mono h t)
def PFs (K : PySem.W.Frag) (S : List Addr) (H : Hp) (vs : List (Str × V)) (fs : List (Str × PyData)) : Prop := Paired (fun (a : Str × V) (b : Str × PyData) => a.1 = b.1 ∧ Rp K S H a.2 b.2) vs fs
def ObAt (K : PySem.W.Frag) (S : List Addr) (H : Hp) (c : Str) (a : Addr) (fs : List (Str × PyData)) : Prop := ∃ C dx vs, PySem.W.nsIn K mainGlobals c = some (some (.ref C)) ∧ H a = some (.ins C dx vs) ∧ a ∉ S ∧ PFs K S H vs fs ∧ vs.lookup ("capacity" : Str) = none
theorem Stp.fr {S S' : List Addr} {H H' : Hp} (s : Stp S S' H H') {a : Addr} {o : HO} (nt : NT o) (h : H a = some o) (n : a ∉ S) : H' a = some o ∧ a ∉ S' := by
  refine ⟨s.keep _ _ h nt (.inl n), fun z => ?_⟩
  rcases s.news a z with q | q
  · exact n q
  · exact q o h nt
theorem PFs.step {K : PySem.W.Frag} {S S' : List Addr} {H H' : Hp} (s : Stp S S' H H') {vs : List (Str × V)} {fs : List (Str × PyData)} (h : PFs K S H vs fs) : PFs K S' H' vs fs := paired_mono (fun _ _ z => ⟨z.1, Rp.step s z.2⟩) h
theorem ObAt.step {K : PySem.W.Frag} {S S' : List Addr} {H H' : Hp} (s : Stp S S' H H') {c : Str} {a : Addr} {fs : List (Str × PyData)} : ObAt K S H c a fs → ObAt K S' H' c a fs
  | ⟨C, dx, vs, h1, h2, h3, h4, h5⟩ => ⟨C, dx, vs, h1, (s.fr nt_ins h2 h3).1, (s.fr nt_ins h2 h3).2, PFs.step s h4, h5⟩
def srFs (vc : V) (s p q : Addr) : List (Str × V) := [("capacity", vc), ("now", .ref s), ("past", .ref p), ("future", .ref q)]
def LamO (f : Addr) (L : Lm) (cl : List (Str × Addr)) (c : Addr) : HO := .ext fun h => ∃ pm ctv : Value, h.get? f = some (PySem.W.kla_obj "<lambda>" L.q L.ar L.body L.scope cl pm c ctv)
def CellO (ob : Obj) : HO := .frz ob (.own 0)
def CellAt (H : Hp) (a : Addr) (v : V) : Prop := ∃ (ob : Obj) (u : Value), H a = some (CellO ob) ∧ ob.data = .cell (some u) ∧ L2.RelV v u
def At1 (_ : List Addr) (H : Hp) (a : Addr) (o : HO) : Prop := H a = some o
structure CellsD (S : List Addr) (H : Hp) (cl : List (Str × Addr)) (fr : List Str) (vs : List V) : Prop where
  all : ∀ y a, cl.lookup y = some a → ∃ (i : Nat) (v : V), fr[i]? = some y ∧ vs[i]? = some v ∧ CellAt H a v
  has : ∀ (i : Nat) (y : Str), fr[i]? = some y → ∃ a v, cl.lookup y = some a ∧ vs[i]? = some v ∧ CellAt H a v
  inj : ∀ x y a, cl.lookup x = some a → cl.lookup y = some a → x = y
def CapAt (K : PySem.W.Frag) (S : List Addr) (H : Hp) (cl : List (Str × Addr)) : Cap → Prop
  | .live cs => cl = cs
  | .dead fr ds => ∃ vs, RpAll K S H vs ds ∧ vs.length = fr.length ∧ CellsD S H cl fr vs
def CloAt (K : PySem.W.Frag) (S : List Addr) (H : Hp) (v : V) (L : Lm) : Prop := ∃ f c cl, v = .ref f ∧ At1 S H f (LamO f L cl c) ∧ At1 S H c (LamX.CodeO c L.q) ∧ CapAt K S H cl L.cap
def Stay : HO → Prop
  | .ext _ => True
  | .frz _ (.own _) => True
  | _ => False
theorem Stay.nt {o : HO} (h : Stay o) : NT o := fun ps e => by subst e; exact h
theorem Stay.fix {o : HO} (h : Stay o) : Fix o := by
  cases o with
  | ext f => trivial
  | frz w u => trivial
  | _ => exact h.elim
theorem CellAt.mono {H H' : Hp} (k : ∀ a o, Stay o → H a = some o → H' a = some o) {a : Addr} {v : V} : CellAt H a v → CellAt H' a v
  | ⟨ob, u, h1, h2, h3⟩ => ⟨ob, u, k _ _ trivial h1, h2, h3⟩
theorem CellsD.mono {S S' : List Addr} {H H' : Hp} (k : ∀ a o, Stay o → H a = some o → H' a = some o) {cl : List (Str × Addr)} {fr : List Str} {vs : List V} (h : CellsD S H cl fr vs) : CellsD S' H' cl fr vs :=
  ⟨fun y a e => let ⟨i, v, h1, h2, h3⟩ := h.all y a e; ⟨i, v, h1, h2, h3.mono k⟩, fun i y e => let ⟨a, v, h1, h2, h3⟩ := h.has i y e; ⟨a, v, h1, h2, h3.mono k⟩, h.inj⟩
theorem CloAt.mono {K : PySem.W.Frag} {S S' : List Addr} {H H' : Hp} (k : ∀ a o, Stay o → H a = some o → H' a = some o) (r : ∀ vs ds, RpAll K S H vs ds → RpAll K S' H' vs ds) {v : V} {L : Lm} : CloAt K S H v L → CloAt K S' H' v L := by
  rintro ⟨f, c, cl, e, h1, h2, h3⟩
  refine ⟨f, c, cl, e, k _ _ trivial h1, k _ _ trivial h2, ?_⟩
  cases hc : L.cap with
  | live cs => rw [hc] at h3; exact h3
  | dead fr ds =>
    rw [hc] at h3
    obtain ⟨vs, h4, h5, h6⟩ := h3
    exact ⟨vs, r _ _ h4, h5, h6.mono k⟩
theorem CloAt.step {K : PySem.W.Frag} {S S' : List Addr} {H H' : Hp} (s : Stp S S' H H') {v : V} {L : Lm} (h : CloAt K S H v L) : CloAt K S' H' v L :=
  h.mono (fun _ _ e q => s.keep _ _ q e.nt (.inr e.fix)) fun _ _ q => RpAll.step s q
def RX (K : PySem.W.Frag) (S : List Addr) (H : Hp) (v : V) : SX → Prop
  | .ob c fs => ∃ a, v = .ref a ∧ ObAt K S H c a fs
  | .obp c fs d => ∃ p a w, v = .ref p ∧ SqT K H p [.ref a, w] ∧ ObAt K S H c a fs ∧ Rp K S H w d
  | .hdl a => v = .ref a
  | .hls l => ∃ p, v = .ref p ∧ LsAt S H p (l.map V.ref)
  | .ex a dx fs => v = .ref a ∧ ∃ vs, H dx = some (.xd vs) ∧ dx ∉ S ∧ PFs K S H vs fs
  | .sto a cap now => v = .ref a ∧ ∃ C dx vc s p q, PySem.W.nsIn K mainGlobals "Store" = some (some (.ref C)) ∧ H a = some (.ins C dx (srFs vc s p q)) ∧ a ∉ S ∧ Rp K S H vc cap ∧ ObAt K S H "State" s now
  | .hpr a d => ∃ p w, v = .ref p ∧ SqT K H p [.ref a, w] ∧ Rp K S H w d
  | .lam L => CloAt K S H v L
  | .lams l => ∃ p vs, v = .ref p ∧ LsAt S H p vs ∧ Paired (CloAt K S H) vs l
theorem RX.step {K : PySem.W.Frag} {S S' : List Addr} {H H' : Hp} (s : Stp S S' H H') {v : V} : ∀ {e : SX}, RX K S H v e → RX K S' H' v e
  | .ob _ _, ⟨a, h1, h2⟩ => ⟨a, h1, h2.step s⟩
  | .obp _ _ _, ⟨p, a, w, h1, h2, h3, h4⟩ => ⟨p, a, w, h1, s.tp h2, h3.step s, Rp.step s h4⟩
  | .hdl _, h => h
  | .hls _, ⟨p, h1, h2⟩ => ⟨p, h1, s.ls h2⟩
  | .ex _ _ _, ⟨h1, vs, h2, h3, h4⟩ => ⟨h1, vs, (s.fr nt_xd h2 h3).1, (s.fr nt_xd h2 h3).2, PFs.step s h4⟩
  | .sto _ _ _, ⟨h1, C, dx, vc, n, p, q, h2, h3, h4, h5, h6⟩ => ⟨h1, C, dx, vc, n, p, q, h2, (s.fr nt_ins h3 h4).1, (s.fr nt_ins h3 h4).2, Rp.step s h5, h6.step s⟩
  | .hpr _ _, ⟨p, w, h1, h2, h4⟩ => ⟨p, w, h1, s.tp h2, Rp.step s h4⟩
  | .lam _, h => CloAt.step s h
  | .lams _, ⟨p, vs, h1, h2, h3⟩ => ⟨p, vs, h1, s.ls h2, paired_mono (fun _ _ z => CloAt.step s z) h3⟩
theorem RpAll.length {K : PySem.W.Frag} {S : List Addr} {H : Hp} : ∀ {vs : List V} {ds : List PyData}, RpAll K S H vs ds → vs.length = ds.length
  | _, _, .nil => rfl
  | _, _, .cons _ t => by rw [List.length_cons, List.length_cons, RpAll.length t]
theorem RpAll.get {K : PySem.W.Frag} {S : List Addr} {H : Hp} : ∀ {vs : List V} {ds : List PyData} {i : Nat} {d : PyData}, RpAll K S H vs ds → ds[i]? = some d → ∃ v, vs[i]? = some v ∧ Rp K S H v d
  | _, _, _, _, .nil, h => by simp at h
  | _, _, 0, _, .cons r _, h => by simp at h; subst h; exact ⟨_, rfl, r⟩
  | _, _, i + 1, _, .cons _ t, h => by
    obtain ⟨v, h1, h2⟩ := RpAll.get (i := i) t (by simpa using h)
    exact ⟨v, by simpa using h1, h2⟩
theorem RpAll.get' {K : PySem.W.Frag} {S : List Addr} {H : Hp} : ∀ {vs : List V} {ds : List PyData} {i : Nat} {v : V}, RpAll K S H vs ds → vs[i]? = some v → ∃ d, ds[i]? = some d ∧ Rp K S H v d
  | _, _, _, _, .nil, h => by simp at h
  | _, _, 0, _, .cons r _, h => by simp at h; subst h; exact ⟨_, rfl, r⟩
  | _, _, i + 1, _, .cons _ t, h => by
    obtain ⟨v, h1, h2⟩ := RpAll.get' (i := i) t (by simpa using h)
    exact ⟨v, by simpa using h1, h2⟩
theorem RpAll.append {K : PySem.W.Frag} {S : List Addr} {H : Hp} : ∀ {vs ws : List V} {ds es : List PyData}, RpAll K S H vs ds → RpAll K S H ws es → RpAll K S H (vs ++ ws) (ds ++ es)
  | _, _, _, _, .nil, s => s
  | _, _, _, _, .cons r t, s => .cons r (RpAll.append t s)
theorem RpAll.take {K : PySem.W.Frag} {S : List Addr} {H : Hp} : ∀ {vs : List V} {ds : List PyData} (n : Nat), RpAll K S H vs ds → RpAll K S H (vs.take n) (ds.take n)
  | _, _, 0, _ => .nil
  | _, _, _ + 1, .nil => .nil
  | _, _, n + 1, .cons r t => .cons r (RpAll.take n t)
theorem RpAll.drop {K : PySem.W.Frag} {S : List Addr} {H : Hp} : ∀ {vs : List V} {ds : List PyData} (n : Nat), RpAll K S H vs ds → RpAll K S H (vs.drop n) (ds.drop n)
  | _, _, 0, r => r
  | _, _, _ + 1, .nil => .nil
  | _, _, n + 1, .cons _ t => RpAll.drop n t
structure Wd where
  S : List Addr
  src : Option (Addr × Addr)
  /-- the tables of lambdas' code -/
  tab : List (Addr × Str) := []
structure Wd.Ok (W : Wd) (H : Hp) : Prop where
  there : ∀ b ∈ W.S, ∃ o, H b = some o ∧ ¬ Fix o ∧ NT o
  draw : ∀ a l, W.src = some (a, l) → a ∈ W.S ∧ l ∉ W.S ∧ Dw.Src H a l
  tabs : LamX.Tabs W.tab H
def Kp (W : Wd) (H H' : Hp) : Prop := ∀ b o, H b = some o → (∀ l, W.src ≠ some (b, l)) → NT o → H' b = some o
theorem Kp.refl (W : Wd) (H : Hp) : Kp W H H := fun _ _ h _ _ => h
theorem Kp.trans {W : Wd} {H H1 H2 : Hp} (x : Kp W H H1) (y : Kp W H1 H2) : Kp W H H2 := fun b o h n t => y b o (x b o h n t) n t
theorem Kp.same {W : Wd} {H H' : Hp} (s : Same H H') : Kp W H H' := fun b o h _ _ => s b o h
theorem Kp.stp {W : Wd} {H H' : Hp} (ok : W.Ok H) (k : Kp W H H') : Stp W.S W.S H H' where
  keep := fun b o h t c => k b o h (fun l z => by
    have h1 := (ok.draw b l z).1
    rcases c with c | c
    · exact c h1
    · obtain ⟨o', e, nf, _⟩ := ok.there b h1
      rw [h] at e; cases e
      exact nf c) t
  news := fun b h => .inl h
theorem Src.same {H H' : Hp} {a l : Addr} (s : Same H H') (h : Dw.Src H a l) : Dw.Src H' a l := by
  obtain ⟨ms, i, r, sd, S⟩ := h
  exact ⟨ms, i, r, sd, S.ne, s _ _ S.at_, s _ _ S.cells, S.i0, S.r0, S.s0, S.s1⟩
theorem Wd.Ok.same {W : Wd} {H H' : Hp} (ok : W.Ok H) (s : Same H H') : W.Ok H' :=
  ⟨fun b h => let ⟨o, e, n⟩ := ok.there b h; ⟨o, s _ _ e, n⟩, fun a l e => let ⟨h1, h2, h3⟩ := ok.draw a l e; ⟨h1, h2, Src.same s h3⟩, fun p hp => (ok.tabs p hp).ext s⟩
def RV (K : PySem.W.Frag) (W : Wd) (H : Hp) (v : V) : SD → Prop
  | .no => True
  | .d x => Rp K W.S H v x
  | .src => ∃ a l, W.src = some (a, l) ∧ v = .ref a
  | .ty n => v = .ty n
  | .x e => RX K W.S H v e
  | .own ds => ∃ p xs, v = .ref p ∧ p ∈ W.S ∧ (∀ l, W.src ≠ some (p, l)) ∧ H p = some (.lst xs) ∧ RpAll K W.S H xs ds
  | .ownD ds => ∃ p kvs, v = .ref p ∧ p ∈ W.S ∧ (∀ l, W.src ≠ some (p, l)) ∧ H p = some (.dK kvs) ∧ Paired (fun (a : Key × V) (b : Key × PyData) => a.1 = b.1 ∧ Rp K W.S H a.2 b.2) kvs ds
  | .mutD q ds => ∃ p kvs, v = .ref p ∧ p ∈ W.S ∧ (∀ l, W.src ≠ some (p, l)) ∧ H p = some (.dK kvs) ∧ Paired (fun (a : Key × V) (b : Key × PyData) => a.1 = b.1 ∧ Rp K W.S H a.2 b.2) kvs ds ∧ p = q
  | .ownL ls => ∃ p xs, v = .ref p ∧ p ∈ W.S ∧ (∀ l, W.src ≠ some (p, l)) ∧ H p = some (.lst xs) ∧ Paired (CloAt K W.S H) xs ls
theorem RV.keep {K : PySem.W.Frag} {W : Wd} {H H' : Hp} (ok : W.Ok H) (k : Kp W H H') {v : V} : ∀ {x : SD}, RV K W H v x → RV K W H' v x
  | .no, _ => trivial
  | .d _, h => Rp.step (k.stp ok) h
  | .src, h => h
  | .ty _, h => h
  | .x _, h => RX.step (k.stp ok) h
  | .own _, ⟨p, xs, e, m, ns, hp, r⟩ => ⟨p, xs, e, m, ns, k _ _ hp ns nt_lst, RpAll.step (k.stp ok) r⟩
  | .ownD _, ⟨p, xs, e, m, ns, hp, r⟩ => ⟨p, xs, e, m, ns, k _ _ hp ns nt_dK, paired_mono (fun _ _ z => ⟨z.1, Rp.step (k.stp ok) z.2⟩) r⟩
  | .mutD _ _, ⟨p, xs, e, m, ns, hp, r, eq⟩ => ⟨p, xs, e, m, ns, k _ _ hp ns nt_dK, paired_mono (fun _ _ z => ⟨z.1, Rp.step (k.stp ok) z.2⟩) r, eq⟩
  | .ownL _, ⟨p, xs, e, m, ns, hp, r⟩ => ⟨p, xs, e, m, ns, k _ _ hp ns nt_lst, paired_mono (fun _ _ z => CloAt.step (k.stp ok) z) r⟩
def isOwn : SD → Bool
  | .own _ => true
  | .ownD _ => true
  | .mutD _ _ => true
  | .ownL _ => true
  | _ => false
structure Rel (K : PySem.W.Frag) (W : Wd) (H : Hp) (σ : L2.St) (ρ : List SD) : Prop where
  len : σ.length = ρ.length
  get : ∀ (i : Nat) (x : SD), ρ[i]? = some x → x ≠ .no → ∃ v, σ[i]? = some (some v) ∧ RV K W H v x
  sep : ∀ (i j : Nat) (x y : SD) (p : Addr), i ≠ j → ρ[i]? = some x → ρ[j]? = some y → isOwn x = true → isOwn y = true → σ[i]? = some (some (.ref p)) → σ[j]? ≠ some (some (.ref p))
  tab : W.tab = theTab K
theorem Rel.keep {K : PySem.W.Frag} {W : Wd} {H H' : Hp} (ok : W.Ok H) (k : Kp W H H') {σ : L2.St} {ρ : List SD} (r : Rel K W H σ ρ) : Rel K W H' σ ρ :=
  ⟨r.len, fun i x e n => let ⟨v, h1, h2⟩ := r.get i x e n; ⟨v, h1, h2.keep ok k⟩, r.sep, r.tab⟩
def Post (K : PySem.W.Frag) (W : Wd) (H : Hp) (Q : VK) (d : SD) : Prop := ∀ v H', Kp W H H' → W.Ok H' → RV K W H' v d → Q v H'
def XP (K : PySem.W.Frag) (W : Wd) (H : Hp) (E : XK) (e : Exn) : Prop := ∀ C dx H' fs, PySem.W.nsIn K mainGlobals e.C = some (some (.ref C)) → Kp W H H' → W.Ok H' → Fr0 H dx → H' dx = some (.xd fs) → dx ∉ W.S →
  Paired (fun (a : Str × V) (b : Str × PyData) => a.1 = b.1 ∧ Rp K W.S H' a.2 b.2) fs e.fs → E (.ref C) (some dx) H'
theorem Kp.free {W : Wd} {H H' : Hp} (k : Kp W H H') (ok : W.Ok H) {p : Addr} (h : Fr0 H' p) (ok' : W.Ok H') : Fr0 H p := fun o e t => by
  by_cases z : ∃ l, W.src = some (p, l)
  · obtain ⟨l, z⟩ := z
    obtain ⟨o', e', _, t'⟩ := ok'.there p (ok'.draw p l z).1
    exact h _ e' t'
  · exact h _ (k p o e (fun l q => z ⟨l, q⟩) t) t
theorem Post.trans {K : PySem.W.Frag} {W : Wd} {H H1 : Hp} {Q : VK} (k : Kp W H H1) {d : SD} (h : Post K W H Q d) : Post K W H1 Q d := fun v H' k' ok r => h v H' (k.trans k') ok r
theorem XP.trans {K : PySem.W.Frag} {W : Wd} {H H1 : Hp} {E : XK} (ok : W.Ok H) (k : Kp W H H1) (ok1 : W.Ok H1) {e : Exn} (h : XP K W H E e) : XP K W H1 E e := fun C dx H' fs hC k' ok' n hd nS r => h C dx H' fs hC (k.trans k') ok' (k.free ok n ok1) hd nS r
def dt (K : PySem.W.Frag) (EX : L2.St → XK) (T : List SD → M SD) : TE := fun σ H Q => ∃ W ρ, W.Ok H ∧ Rel K W H σ ρ ∧ (T ρ).run (Post K W H Q) (XP K W H (EX σ))
def dta (K : PySem.W.Frag) (EX : L2.St → XK) (T : List SD → M (List SD)) : TA := fun σ H Q => ∃ W ρ, W.Ok H ∧ Rel K W H σ ρ ∧
  (T ρ).run (fun ds => ∀ vs H', Kp W H H' → W.Ok H' → Paired (RV K W H') vs ds → Q vs H') (XP K W H (EX σ))
def dtt (K : PySem.W.Frag) (EX : L2.St → XK) (T : List SD → M Bool) : TT := fun σ H Q => ∃ W ρ, W.Ok H ∧ Rel K W H σ ρ ∧ (T ρ).run (fun b => ∀ H', Kp W H H' → W.Ok H' → Q b H') (XP K W H (EX σ))
abbrev DE (X : Cx) (EX : L2.St → XK) (e : Expr) (T : List SD → M SD) : Prop := PE X e (dt X.K EX T)
abbrev DA (X : Cx) (EX : L2.St → XK) (es : List Expr) (T : List SD → M (List SD)) : Prop := PA X es (dta X.K EX T)
abbrev DT (X : Cx) (EX : L2.St → XK) (e : Expr) (T : List SD → M Bool) : Prop := PT X e (dtt X.K EX T)
abbrev DW (X : Cx) (EX : L2.St → XK) (e : Expr) (T : List SD → M Bool) : Prop := PW X e (dtt X.K EX T)
theorem pe_imp {X : Cx} {e : Expr} {t t' : TE} (h : PE X e t) (i : ∀ σ H Q, t' σ H Q → t σ H Q) : PE X e t' := ⟨fun pins s σ H Q J q => h.run pins s σ H Q J (i σ H Q q)⟩
theorem pa_imp {X : Cx} {e : List Expr} {t t' : TA} (h : PA X e t) (i : ∀ σ H Q, t' σ H Q → t σ H Q) : PA X e t' := ⟨fun pos pins s σ H Q J q => h.run pos pins s σ H Q J (i σ H Q q)⟩
theorem pt_imp {X : Cx} {e : Expr} {t t' : TT} (h : PT X e t) (i : ∀ σ H Q, t' σ H Q → t σ H Q) : PT X e t' := ⟨fun pins s σ H Q J q => h.run pins s σ H Q J (i σ H Q q)⟩
theorem pw_imp {X : Cx} {e : Expr} {t t' : TT} (h : PW X e t) (i : ∀ σ H Q, t' σ H Q → t σ H Q) : PW X e t' := ⟨fun wh pins s σ H Q J q => h.run wh pins s σ H Q J (i σ H Q q)⟩
def getS (ρ : List SD) (i : Nat) : Option SD := match ρ[i]? with
  | some .no => none
  | o => o
theorem getS_eq {ρ : List SD} {i : Nat} {x : SD} (h : getS ρ i = some x) : ρ[i]? = some x ∧ x ≠ .no := by
  unfold getS at h
  split at h
  · cases h
  · rename_i o ne
    refine ⟨h, ?_⟩
    intro z
    subst z
    exact ne h
section
variable {X : Cx} {EX : L2.St → XK} {e a b : Expr} {es : List Expr} {pos : Pos} {T Ta Tb : List SD → M SD} {Ts : List SD → M (List SD)}
theorem de_var (i : Nat) (h : PE X e (tVar i)) : DE X EX e (fun ρ => M.lift (getS ρ i)) := pe_imp h fun σ H Q ⟨W, ρ, ok, rel, r⟩ => by
  obtain ⟨x, hx, p⟩ := run_lift.mp r
  obtain ⟨h1, h2⟩ := getS_eq hx
  obtain ⟨v, h3, h4⟩ := rel.get i x h1 h2
  exact ⟨v, h3, p v H (Kp.refl W H) ok h4⟩
theorem de_c {v : V} {d : PyData} (h : PE X e (tC v)) (r : ∀ S H, Rp X.K S H v d) : DE X EX e (fun _ => pure (.d d)) := pe_imp h fun σ H Q ⟨W, ρ, ok, rel, p⟩ => p v H (Kp.refl W H) ok (r _ _)
theorem de_int {i : Int} {j p} : DE X EX (.Constant (.int i) j p) (fun _ => pure (.d (.int i))) := de_c pe_int fun _ _ => .int i
theorem de_bl {i : Bool} {j p} : DE X EX (.Constant (.bool i) j p) (fun _ => pure (.d (.bool i))) := de_c pe_bl fun _ _ => .bl i
theorem de_non {j p} : DE X EX (.Constant .none j p) (fun _ => pure (.d .none)) := de_c pe_non fun _ _ => .non
theorem de_str {i : Str} {j p} : DE X EX (.Constant (.str i) j p) (fun _ => pure (.d (.str i))) := de_c pe_str fun _ _ => .str i
theorem bin_imp {r : R2} {g : SD → SD → Option SD} (hr : ∀ {W : Wd} {H : Hp} {v w : V} {x y z : SD} {Q : VK}, W.Ok H → RV X.K W H v x → RV X.K W H w y → g x y = some z → Post X.K W H Q z → r v w H Q) (σ : L2.St) (H : Hp) (Q : VK)
    (h : dt X.K EX (fun ρ => do let x ← Ta ρ; let y ← Tb ρ; M.lift (g x y)) σ H Q) : tOp r (dt X.K EX Ta) (dt X.K EX Tb) σ H Q := by
  obtain ⟨W, ρ, ok, rel, h⟩ := h
  refine ⟨W, ρ, ok, rel, (Ta ρ).mono (fun x h1 v H1 k1 ok1 r1 => ?_) (fun e h => h) h⟩
  refine ⟨W, ρ, ok1, rel.keep ok k1, (Tb ρ).mono (fun y h2 w H2 k2 ok2 r2 => ?_) (fun e h => XP.trans ok k1 ok1 h) h1⟩
  obtain ⟨z, hz, p⟩ := run_lift.mp h2
  exact hr ok2 (r1.keep ok1 k2) r2 hz (Post.trans (k1.trans k2) p)
theorem da_nil : DA X EX [] (fun _ => pure []) := pa_imp pa_nil fun σ H Q ⟨W, ρ, ok, rel, p⟩ => p [] H (Kp.refl W H) ok .nil
theorem paired_keep {K : PySem.W.Frag} {W : Wd} {H H' : Hp} (ok : W.Ok H) (k : Kp W H H') {vs : List V} {ds : List SD} (h : Paired (RV K W H) vs ds) : Paired (RV K W H') vs ds := paired_mono (fun _ _ z => z.keep ok k) h
theorem da_cons (ha : DE X EX e T) (hr : DA X EX es Ts) (hs : starEach (e :: es) X.env = (false, eval e X.env) :: starEach es X.env := by rfl) : DA X EX (e :: es) (fun ρ => do let x ← T ρ; let xs ← Ts ρ; pure (x :: xs)) := by
  refine pa_imp (pa_cons ha hr hs) fun σ H Q ⟨W, ρ, ok, rel, h⟩ => ?_
  refine ⟨W, ρ, ok, rel, (T ρ).mono (fun x h1 v H1 k1 ok1 r1 => ?_) (fun e h => h) h⟩
  refine ⟨W, ρ, ok1, rel.keep ok k1, (Ts ρ).mono (fun y h2 w H2 k2 ok2 r2 => ?_) (fun e h => XP.trans ok k1 ok1 h) h1⟩
  exact h2 (v :: w) H2 (k1.trans k2) ok2 (.cons (r1.keep ok1 k2) r2)
theorem arg_imp {r : List V → Hp → VK → Prop} {g : List SD → Option SD} (hr : ∀ {W : Wd} {H : Hp} {vs : List V} {xs : List SD} {z : SD} {Q : VK}, W.Ok H → Paired (RV X.K W H) vs xs → g xs = some z → Post X.K W H Q z → r vs H Q) (σ : L2.St) (H : Hp) (Q : VK)
    (h : dt X.K EX (fun ρ => do let xs ← Ts ρ; M.lift (g xs)) σ H Q) : tCB r (dta X.K EX Ts) σ H Q := by
  obtain ⟨W, ρ, ok, rel, h⟩ := h
  refine ⟨W, ρ, ok, rel, (Ts ρ).mono (fun x h1 v H1 k1 ok1 r1 => ?_) (fun e h => h) h⟩
  obtain ⟨z, hz, p⟩ := run_lift.mp h1
  exact hr ok1 r1 hz (Post.trans k1 p)
end
end Dd
namespace Dd
open PySem PySem.Spec PyProof.Rows L2
abbrev dI (i : Int) : SD := .d (.int i)
abbrev dB (b : Bool) : SD := .d (.bool b)
abbrev dS (x : Str) : SD := .d (.str x)
def ltS (a b : Str) : Bool := decide (a.cps.toList < b.cps.toList)
def szOk (n : Nat) : Bool := decide (n ≤ 100000)
theorem szOk.le {n : Nat} (h : szOk n = true) : n ≤ sizeLine := Nat.le_trans (of_decide_eq_true h) (by decide)
theorem szOk.lt {n : Nat} (h : szOk (n + 1) = true) : n < sizeLine := Nat.lt_of_lt_of_le (Nat.lt_of_succ_le (of_decide_eq_true h)) (by decide)
section
variable {K : PySem.W.Frag} {W : Wd} {H : Hp}
theorem Wd.Ok.notin (ok : W.Ok H) {p : Addr} (h : H p = none) : p ∉ W.S := fun z => by
  obtain ⟨o, e, _⟩ := ok.there p z
  rw [h] at e; cases e
theorem Wd.Ok.notinF (ok : W.Ok H) {p : Addr} (h : Fr0 H p) : p ∉ W.S := fun z => by
  obtain ⟨o, e, _, t⟩ := ok.there p z
  exact h o e t
theorem stp_new (ok : W.Ok H) {p : Addr} {o : HO} (h : H p = none) : Stp W.S W.S H (upd H p o) := (Kp.same (Dw.same_new h)).stp ok
theorem new_lst (ok : W.Ok H) {p : Addr} {xs : List V} {ds : List PyData} (h : H p = none) (r : RpAll K W.S H xs ds) {Q : VK} (q : Post K W H Q (.d (.list ds))) : Q (.ref p) (upd H p (.lst xs)) :=
  q _ _ (Kp.same (Dw.same_new h)) (ok.same (Dw.same_new h)) (.lst ⟨upd_same, ok.notin h⟩ (RpAll.step (stp_new ok h) r))
theorem new_tup (ok : W.Ok H) {p : Addr} {xs : List V} {ds : List PyData} (h : H p = none) (r : RpAll K W.S H xs ds) {Q : VK} (q : Post K W H Q (.d (.tuple ds))) : Q (.ref p) (upd H p (.tup xs)) :=
  q _ _ (Kp.same (Dw.same_new h)) (ok.same (Dw.same_new h)) (.tup (.inl (.inl upd_same)) (RpAll.step (stp_new ok h) r))
theorem Post.here {Q : VK} {v : V} {x : SD} (ok : W.Ok H) (q : Post K W H Q x) (r : RV K W H v x) : Q v H := q v H (Kp.refl W H) ok r
mutual
theorem Rp.dp {S : List Addr} : ∀ {v : V} {d : PyData}, d.canLay0 = true → Rp K S H v d → Dp K H v d
  | _, _, _, .non => .non
  | _, _, _, .bl b => .bl b
  | _, _, _, .int i => .int i
  | _, _, _, .str x => .str x
  | _, _, c, .lst h t => .lst h.sq (RpAll.dp (by simpa [PyData.canLay0] using c) t)
  | _, _, c, .tup h t => .tup h (RpAll.dp (by simpa [PyData.canLay0] using c) t)
  | _, _, c, .dct _ _ _ => by simp [PyData.canLay0] at c
theorem RpAll.dp {S : List Addr} : ∀ {v : List V} {d : List PyData}, PyData.canLayAll0 d = true → RpAll K S H v d → DpAll K H v d
  | _, _, _, .nil => .nil
  | _, d :: ds, c, .cons h t => by
    have c' : d.canLay0 = true ∧ PyData.canLayAll0 ds = true := by simpa [PyData.canLayAll0] using c
    exact .cons (Rp.dp c'.1 h) (RpAll.dp c'.2 t)
end
end
def gAdd : SD → SD → Option SD
  | .d (.int i), .d (.int j) => some (dI (i + j))
  | .d (.str a), .d (.str b) => if szOk (a.length + b.length) then some (dS (a ++ b)) else none
  | .d (.list a), .d (.list b) => if szOk (a.length + b.length) then some (.d (.list (a ++ b))) else none
  | .d (.tuple a), .d (.tuple b) => if !a.isEmpty && !b.isEmpty && szOk (a.length + b.length) then some (.d (.tuple (a ++ b))) else none
  | _, _ => none
def gSub : SD → SD → Option SD
  | .d (.int i), .d (.int j) => some (dI (i - j))
  | _, _ => none
def gMul : SD → SD → Option SD
  | .d (.int i), .d (.int j) => if decide (i.natAbs.log2 + j.natAbs.log2 < 1000000) then some (dI (i * j)) else none
  | _, _ => none
def gDiv : SD → SD → Option SD
  | .d (.int i), .d (.int j) => if decide (j ≠ 0) && decide (j.natAbs.log2 < 9000) then some (dI (i.fdiv j)) else none
  | _, _ => none
def gMod : SD → SD → Option SD
  | .d (.int i), .d (.int j) => if decide (j ≠ 0) then some (dI (i.fmod j)) else none
  | _, _ => none
def gPow : SD → SD → Option SD
  | .d (.int i), .d (.int j) => if decide (0 ≤ j) && decide (j ≤ 1000000) && decide (i.natAbs < 2 ^ 64) then some (dI (i ^ j.toNat)) else none
  | _, _ => none
section
variable {X : Cx} {EX : L2.St → XK} {a b c : Expr} {pos : Pos} {T Ta Tb Tc : List SD → M SD} {Ts : List SD → M (List SD)}
theorem de_add (ha : DE X EX a Ta) (hb : DE X EX b Tb) : DE X EX (.BinOp a .Add b pos) (fun ρ => do let x ← Ta ρ; let y ← Tb ρ; M.lift (gAdd x y)) := by
  refine pe_imp (pe_op (op_add.or (op_add_str.or (op_cat.or op_catT))) ha hb) (bin_imp fun {W H v w x y z Q} ok r1 r2 h q => ?_)
  unfold gAdd at h
  split at h
  · cases r1; cases r2; cases h
    exact .inl ⟨_, _, rfl, rfl, q.here ok (.int _)⟩
  · split at h
    · rename_i s
      cases r1; cases r2; cases h
      exact .inr (.inl ⟨_, _, rfl, rfl, szOk.le s, q.here ok (.str _)⟩)
    · cases h
  · split at h
    · rename_i s
      cases h
      cases r1 with | lst l1 t1 =>
      cases r2 with | lst l2 t2 =>
      exact .inr (.inr (.inl ⟨_, _, _, _, rfl, rfl, l1.1, l2.1, by rw [t1.length, t2.length]; exact szOk.le s, fun p hp => new_lst ok hp (t1.append t2) q⟩))
    · cases h
  · split at h
    · rename_i s
      cases h
      cases r1 with | tup l1 t1 =>
      cases r2 with | tup l2 t2 =>
      have s' := Bool.and_eq_true_iff.mp s
      have s'' := Bool.and_eq_true_iff.mp s'.1
      refine .inr (.inr (.inr ⟨_, _, _, _, rfl, rfl, l1, l2, ?_, by rw [t1.length, t2.length]; exact szOk.le s'.2, ?_, ?_⟩))
      · rintro rfl; cases t1; simp at s''
      · rintro rfl; cases t2; simp at s''
      · exact fun _ p hp => new_tup ok hp (t1.append t2) q
    · cases h
  · cases h
theorem de_sub (ha : DE X EX a Ta) (hb : DE X EX b Tb) : DE X EX (.BinOp a .Sub b pos) (fun ρ => do let x ← Ta ρ; let y ← Tb ρ; M.lift (gSub x y)) := by
  refine pe_imp (pe_op op_sub ha hb) (bin_imp fun {W H v w x y z Q} ok r1 r2 h q => ?_)
  unfold gSub at h
  split at h
  · cases r1; cases r2; cases h
    exact ⟨_, _, rfl, rfl, q.here ok (.int _)⟩
  · cases h
theorem de_mul (ha : DE X EX a Ta) (hb : DE X EX b Tb) : DE X EX (.BinOp a .Mult b pos) (fun ρ => do let x ← Ta ρ; let y ← Tb ρ; M.lift (gMul x y)) := by
  refine pe_imp (pe_op op_mulW ha hb) (bin_imp fun {W H v w x y z Q} ok r1 r2 h q => ?_)
  unfold gMul at h
  split at h
  · split at h
    · rename_i s
      cases r1; cases r2; cases h
      exact ⟨_, _, rfl, rfl, (of_decide_eq_true s : _ + _ < 1000000), q.here ok (.int _)⟩
    · cases h
  · cases h
theorem de_div (ha : DE X EX a Ta) (hb : DE X EX b Tb) : DE X EX (.BinOp a .FloorDiv b pos) (fun ρ => do let x ← Ta ρ; let y ← Tb ρ; M.lift (gDiv x y)) := by
  refine pe_imp (pe_op Dw.op_fdivZ ha hb) (bin_imp fun {W H v w x y z Q} ok r1 r2 h q => ?_)
  unfold gDiv at h
  split at h
  · split at h
    · rename_i s
      cases r1; cases r2; cases h
      have s' := Bool.and_eq_true_iff.mp s
      exact ⟨_, _, rfl, rfl, ⟨of_decide_eq_true s'.1, of_decide_eq_true s'.2⟩, q.here ok (.int _)⟩
    · cases h
  · cases h
theorem de_mod (ha : DE X EX a Ta) (hb : DE X EX b Tb) : DE X EX (.BinOp a .Mod b pos) (fun ρ => do let x ← Ta ρ; let y ← Tb ρ; M.lift (gMod x y)) := by
  refine pe_imp (pe_op op_modN ha hb) (bin_imp fun {W H v w x y z Q} ok r1 r2 h q => ?_)
  unfold gMod at h
  split at h
  · split at h
    · rename_i s
      cases r1; cases r2; cases h
      exact ⟨_, _, rfl, rfl, of_decide_eq_true s, q.here ok (.int _)⟩
    · cases h
  · cases h
def gNeg : SD → Option SD
  | .d (.int i) => some (dI (-i))
  | _ => none
def gCmp (fi : Int → Int → Bool) (fs : Str → Str → Bool) : SD → SD → Option SD
  | .d (.int i), .d (.int j) => some (dB (fi i j))
  | .d (.str i), .d (.str j) => some (dB (fs i j))
  | _, _ => none
abbrev gLt : SD → SD → Option SD := gCmp (fun i j => decide (i < j)) ltS
abbrev gLe : SD → SD → Option SD := gCmp (fun i j => decide (i ≤ j)) (fun a b => !ltS b a)
abbrev gGt : SD → SD → Option SD := gCmp (fun i j => decide (j < i)) (fun a b => ltS b a)
abbrev gGe : SD → SD → Option SD := gCmp (fun i j => decide (j ≤ i)) (fun a b => !ltS a b)
def CmpR (X : Cx) (op : CmpOp) (g : SD → SD → Option SD) : Prop := ∃ r, OpR X (compareOp op) r ∧ ∀ {W : Wd} {H : Hp} {v w : V} {x y z : SD} {Q : VK}, W.Ok H → RV X.K W H v x → RV X.K W H w y → g x y = some z → Post X.K W H Q z → r v w H Q
theorem cmp_two {op : CmpOp} {fi : Int → Int → Bool} {fs : Str → Str → Bool} (h1 : OpR X (compareOp op) (rI0 fun i j => .bl (fi i j)))
    (h2 : OpR X (compareOp op) (fun x y H Q => ∃ i j, x = .str i ∧ y = .str j ∧ Q (.bl (fs i j)) H)) : CmpR X op (gCmp fi fs) := by
  refine ⟨_, h1.or h2, fun {W H v w x y z Q} ok r1 r2 h q => ?_⟩
  unfold gCmp at h
  split at h
  · cases r1; cases r2; cases h
    exact .inl ⟨_, _, rfl, rfl, q.here ok (.bl _)⟩
  · cases r1; cases r2; cases h
    exact .inr ⟨_, _, rfl, rfl, q.here ok (.bl _)⟩
  · cases h
theorem c_lt : CmpR X .Lt gLt := cmp_two op_lt op_lt_str
theorem c_le : CmpR X .LtE gLe := cmp_two op_le op_le_str
theorem c_gt : CmpR X .Gt gGt := cmp_two op_gt op_gt_str
theorem c_ge : CmpR X .GtE gGe := cmp_two op_ge op_ge_str
def gEq : SD → SD → Option SD
  | .d x, .d y => if SeqAt.shaped x && SeqAt.shaped y then some (dB (PyData.eqv x y)) else none
  | _, _ => none
def gNe : SD → SD → Option SD
  | .d x, .d y => if SeqAt.shaped x && SeqAt.shaped y then some (dB (!PyData.eqv x y)) else none
  | _, _ => none
theorem c_eq {k : Nat} (hr : Room k X.A) : CmpR X .Eq gEq := by
  refine ⟨_, op_eqD hr.units, fun {W H v w x y z Q} ok r1 r2 h q => ?_⟩
  unfold gEq at h
  split at h
  · split at h
    · rename_i s
      have s' := Bool.and_eq_true_iff.mp s
      cases h
      exact ⟨_, _, Rp.dp (SeqAt.canLay_of_shaped s'.1) r1, Rp.dp (SeqAt.canLay_of_shaped s'.2) r2, s'.1, s'.2, q.here ok (.bl _)⟩
    · cases h
  · cases h
theorem c_ne {k : Nat} (hr : Room k X.A) : CmpR X .NotEq gNe := by
  refine ⟨_, op_neD hr.units, fun {W H v w x y z Q} ok r1 r2 h q => ?_⟩
  unfold gNe at h
  split at h
  · split at h
    · rename_i s
      have s' := Bool.and_eq_true_iff.mp s
      cases h
      exact ⟨_, _, Rp.dp (SeqAt.canLay_of_shaped s'.1) r1, Rp.dp (SeqAt.canLay_of_shaped s'.2) r2, s'.1, s'.2, q.here ok (.bl _)⟩
    · cases h
  · cases h
def isNone : SD → Bool
  | .d .none => true
  | _ => false
def gIs : SD → SD → Option SD
  | .d x, .d .none => some (dB (isNone (.d x)))
  | _, _ => none
def gIsNot : SD → SD → Option SD
  | .d x, .d .none => some (dB (!isNone (.d x)))
  | _, _ => none
theorem isNone_rep {K : PySem.W.Frag} {S : List Addr} {H : Hp} {v : V} {d : PyData} (h : Rp K S H v d) : decide (v = .non) = isNone (.d d) := by
  cases h <;> first | rfl | exact decide_eq_false (by intro z; cases z)
theorem c_isNot : CmpR X .IsNot gIsNot := by
  refine ⟨_, op_notN, fun {W H v w x y z Q} ok r1 r2 h q => ?_⟩
  unfold gIsNot at h
  split at h
  · cases r2; cases h
    refine ⟨rfl, ?_⟩
    rw [isNone_rep r1]
    exact q.here ok (.bl _)
  · cases h
theorem de_cmp {op : CmpOp} {g : SD → SD → Option SD} (hc : CmpR X op g) (ha : DE X EX a Ta) (hb : DE X EX b Tb) (hm : behindInMarks op b = false) : DE X EX (.Compare a [op] [b] pos) (fun ρ => do let x ← Ta ρ; let y ← Tb ρ; M.lift (g x y)) := by
  obtain ⟨r, h1, h2⟩ := hc
  exact pe_imp (pe_cmpR h1 ha hb hm) (bin_imp h2)
end
end Dd
namespace Dd
open PySem PySem.Spec PyProof.Rows L2
def asB : SD → Option Bool
  | .d (.bool b) => some b
  | _ => none
def truD : SD → Option Bool
  | .d .none => some false
  | .d (.bool b) => some b
  | .d (.int i) => some (i != 0)
  | .d (.str x) => if szOk x.length then some ((x.length : Int) != 0) else none
  | .d (.list xs) => some (!xs.isEmpty)
  | .d (.tuple xs) => some (!xs.isEmpty)
  | .own xs => some (!xs.isEmpty)
  | _ => none
section
variable {X : Cx} {EX : L2.St → XK} {a b c e : Expr} {es rest : List Expr} {pos : Pos} {T Ta Tb Tc : List SD → M SD} {Ts : List SD → M (List SD)} {B B1 B2 : List SD → M Bool}
theorem isEmpty_rp {K : PySem.W.Frag} {S : List Addr} {H : Hp} {xs : List V} {ds : List PyData} (h : RpAll K S H xs ds) : (!ds.isEmpty) = !xs.isEmpty := by cases h <;> rfl
theorem tru_rv {W : Wd} {H : Hp} {v : V} {x : SD} {k : Bool} (r : RV X.K W H v x) (h : truD x = some k) : TruV X.K v H k := by
  unfold truD at h
  split at h
  · cases r; cases h; rfl
  · cases r; cases h; rfl
  · cases r; cases h; rfl
  · split at h
    · rename_i s
      cases r; cases h; exact ⟨szOk.le s, rfl⟩
    · cases h
  · cases h
    cases r with | lst l t => exact .inl ⟨_, l.sq, isEmpty_rp t⟩
  · cases h
    cases r with | tup l t => exact .inr (.inl ⟨_, l, isEmpty_rp t⟩)
  · cases h
    obtain ⟨p, xs, rfl, _, _, hp, t⟩ := r
    exact .inl ⟨_, .inl (.inl hp), isEmpty_rp t⟩
  · cases h
theorem dt_truth (h : DE X EX e T) (he : ∀ whole, isTrue e X.env whole = (do let v ← whole; standAt e.pos; holding [v] (truthy v)) := by intro _; rfl) : DT X EX e (fun ρ => do let x ← T ρ; M.lift (truD x)) := by
  refine pt_imp (pt_truth h he) fun σ H Q ⟨W, ρ, ok, rel, h⟩ => ?_
  refine ⟨W, ρ, ok, rel, (T ρ).mono (fun x h1 v H1 k1 ok1 r1 => ?_) (fun e h => h) h⟩
  obtain ⟨z, hz, p⟩ := run_lift.mp h1
  exact ⟨z, tru_rv r1 hz, p H1 k1 ok1⟩
theorem dt_cmp {op : CmpOp} {g : SD → SD → Option SD} (hc : CmpR X op g) (ha : DE X EX a Ta) (hb : DE X EX b Tb) (hm : behindInMarks op b = false) : DT X EX (.Compare a [op] [b] pos) (fun ρ => do let x ← Ta ρ; let y ← Tb ρ; let z ← M.lift (g x y); M.lift (asB z)) := by
  obtain ⟨r, h1, h2⟩ := hc
  refine pt_imp (pt_cmpR h1 ha hb hm) fun σ H Q h => ?_
  refine bin_imp (EX := EX) (Ta := Ta) (Tb := Tb) (g := g) h2 σ H _ ?_
  obtain ⟨W, ρ, ok, rel, h⟩ := h
  refine ⟨W, ρ, ok, rel, (Ta ρ).mono (fun x h1 => (Tb ρ).mono (fun y h2 => (M.lift (g x y)).mono (fun z hz v H' k' ok' r' => ?_) (fun _ h => h) h2) (fun _ h => h) h1) (fun _ h => h) h⟩
  obtain ⟨t, ht, p⟩ := run_lift.mp hz
  unfold asB at ht
  split at ht
  · cases r'; cases ht
    exact ⟨_, rfl, p H' k' ok'⟩
  · cases ht
theorem dt_not (h : DT X EX e B) : DT X EX (.UnaryOp .Not e pos) (fun ρ => do let b ← B ρ; pure (!b)) := by
  refine pt_imp (pt_not h) fun σ H Q ⟨W, ρ, ok, rel, h⟩ => ?_
  exact ⟨W, ρ, ok, rel, (B ρ).mono (fun x h1 H1 k1 ok1 => h1 H1 k1 ok1) (fun e h => h) h⟩
theorem dw_and1 (h : DT X EX e B) : DW X EX (.BoolOp .And [e] pos) B := pw_and1 h
theorem dw_or1 (h : DT X EX e B) : DW X EX (.BoolOp .Or [e] pos) B := pw_or1 h
theorem dw_and (h1 : DT X EX a B1) (h2 : DW X EX (.BoolOp .And (b :: rest) pos) B2) : DW X EX (.BoolOp .And (a :: b :: rest) pos) (fun ρ => do if ← B1 ρ then B2 ρ else pure false) := by
  refine pw_imp (pw_and h1 h2) fun σ H Q ⟨W, ρ, ok, rel, h⟩ => ?_
  refine ⟨W, ρ, ok, rel, (B1 ρ).mono (fun x h1 H1 k1 ok1 => ?_) (fun e h => h) h⟩
  cases x with
  | true => exact ⟨W, ρ, ok1, rel.keep ok k1, (B2 ρ).mono (fun y h2 H2 k2 ok2 => h2 H2 (k1.trans k2) ok2) (fun e h => XP.trans ok k1 ok1 h) h1⟩
  | false => exact h1 H1 k1 ok1
theorem dw_or (h1 : DT X EX a B1) (h2 : DW X EX (.BoolOp .Or (b :: rest) pos) B2) : DW X EX (.BoolOp .Or (a :: b :: rest) pos) (fun ρ => do if ← B1 ρ then pure true else B2 ρ) := by
  refine pw_imp (pw_or h1 h2) fun σ H Q ⟨W, ρ, ok, rel, h⟩ => ?_
  refine ⟨W, ρ, ok, rel, (B1 ρ).mono (fun x h1 H1 k1 ok1 => ?_) (fun e h => h) h⟩
  cases x with
  | false => exact ⟨W, ρ, ok1, rel.keep ok k1, (B2 ρ).mono (fun y h2 H2 k2 ok2 => h2 H2 (k1.trans k2) ok2) (fun e h => XP.trans ok k1 ok1 h) h1⟩
  | true => exact h1 H1 k1 ok1
theorem dw_pt (h : DW X EX e B) : DT X EX e B := PW.pt h
theorem de_one {op} (h : DE X EX a T) : DE X EX (.BoolOp op [a] pos) T := pe_one h
theorem de_and (h1 : DE X EX a Ta) (h2 : DE X EX (.BoolOp .And (b :: rest) pos) Tb) : DE X EX (.BoolOp .And (a :: b :: rest) pos) (fun ρ => do let x ← Ta ρ; let k ← M.lift (asB x); if k then Tb ρ else pure (dB false)) := by
  refine pe_imp (pe_and h1 h2) fun σ H Q ⟨W, ρ, ok, rel, h⟩ => ?_
  refine ⟨W, ρ, ok, rel, (Ta ρ).mono (fun x h1 v H1 k1 ok1 r1 => ?_) (fun e h => h) h⟩
  obtain ⟨z, hz, p⟩ := run_lift.mp h1
  unfold asB at hz
  split at hz
  · cases r1; cases hz
    refine ⟨_, rfl, ?_⟩
    cases z with
    | true => exact ⟨W, ρ, ok1, rel.keep ok k1, (Tb ρ).mono (fun y h2 => Post.trans k1 h2) (fun e h => XP.trans ok k1 ok1 h) p⟩
    | false => exact p (.bl false) H1 k1 ok1 (Rp.bl false)
  · cases hz
theorem de_if (h0 : DT X EX c B) (h1 : DE X EX a Ta) (h2 : DE X EX b Tb) : DE X EX (.IfExp c a b pos) (fun ρ => do if ← B ρ then Ta ρ else Tb ρ) := by
  refine pe_imp (pe_ifExp h0 h1 h2) fun σ H Q ⟨W, ρ, ok, rel, h⟩ => ?_
  refine ⟨W, ρ, ok, rel, (B ρ).mono (fun x h1 H1 k1 ok1 => ?_) (fun e h => h) h⟩
  cases x with
  | true => exact ⟨W, ρ, ok1, rel.keep ok k1, (Ta ρ).mono (fun y h2 => Post.trans k1 h2) (fun e h => XP.trans ok k1 ok1 h) h1⟩
  | false => exact ⟨W, ρ, ok1, rel.keep ok k1, (Tb ρ).mono (fun y h2 => Post.trans k1 h2) (fun e h => XP.trans ok k1 ok1 h) h1⟩
def allD : List SD → Option (List PyData)
  | [] => some []
  | .d x :: r => (allD r).map (x :: ·)
  | _ => none
theorem allD_rp {K : PySem.W.Frag} {W : Wd} {H : Hp} : ∀ {vs : List V} {xs : List SD} {ds : List PyData}, Paired (RV K W H) vs xs → allD xs = some ds → RpAll K W.S H vs ds
  | _, _, _, .nil, h => by cases h; exact .nil
  | _, .d x :: r, ds, .cons r1 t, h => by
    unfold allD at h
    obtain ⟨ds', h1, rfl⟩ := Option.map_eq_some_iff.mp h
    exact .cons r1 (allD_rp t h1)
  | _, .no :: _, _, .cons _ _, h => by cases h
  | _, .src :: _, _, .cons _ _, h => by cases h
  | _, .own _ :: _, _, .cons _ _, h => by cases h
  | _, .ownD _ :: _, _, .cons _ _, h => by cases h
  | _, .mutD _ _ :: _, _, .cons _ _, h => by cases h
  | _, .ownL _ :: _, _, .cons _ _, h => by cases h
  | _, .ty _ :: _, _, .cons _ _, h => by cases h
  | _, .x _ :: _, _, .cons _ _, h => by cases h
def gTup (xs : List SD) : Option SD := (allD xs).bind fun ds => if szOk ds.length then some (.d (.tuple ds)) else none
def gLst (xs : List SD) : Option SD := (allD xs).bind fun ds => if szOk ds.length then some (.d (.list ds)) else none
theorem de_tup {x1} (h : DA X EX es Ts) : DE X EX (.Tuple es x1 pos) (fun ρ => do let xs ← Ts ρ; M.lift (gTup xs)) := by
  refine pe_imp (pe_tup h) (arg_imp (r := fun xs H Q => xs.length ≤ sizeLine ∧ ∀ p, H p = none → Q (.ref p) (upd H p (.tup xs))) fun {W H vs xs z Q} ok r h q => ?_)
  obtain ⟨ds, h1, h2⟩ := Option.bind_eq_some_iff.mp h
  split at h2
  · rename_i s
    cases h2
    have t := allD_rp r h1
    exact ⟨by rw [t.length]; exact szOk.le s, fun p hp => new_tup ok hp t q⟩
  · cases h2
theorem de_lst (h : DA X EX es Ts) : DE X EX (.List es pos) (fun ρ => do let xs ← Ts ρ; M.lift (gLst xs)) := by
  refine pe_imp (pe_lst h) (arg_imp (r := fun xs H Q => xs.length ≤ sizeLine ∧ ∀ p, H p = none → Q (.ref p) (upd H p (.lst xs))) fun {W H vs xs z Q} ok r h q => ?_)
  obtain ⟨ds, h1, h2⟩ := Option.bind_eq_some_iff.mp h
  split at h2
  · rename_i s
    cases h2
    have t := allD_rp r h1
    exact ⟨by rw [t.length]; exact szOk.le s, fun p hp => new_lst ok hp t q⟩
  · cases h2
def keyOf : PyData → Option Key
  | .int i => some (.inl i)
  | .str x => some (.inr x)
  | _ => none
def valD : List (PyData × PyData) → Key → Option PyData
  | [], _ => none
  | (k, v) :: r, q => if keyOf k = some q then some v else valD r q
def gIx : SD → SD → Option SD
  | .d (.list xs), .d (.int i) => (atI xs i).map .d
  | .d (.tuple xs), .d (.int i) => (atI xs i).map .d
  | .d (.str z), .d (.int i) => if szOk z.length then (atI z.cps.toList i).map fun c => dS ⟨#[c]⟩ else none
  | .d (.dict kvs), .d k => (keyOf k).bind fun q => (valD kvs q).map .d
  | .own xs, .d (.int i) => (atI xs i).map .d
  | .ownD kvs, .d k => (keyOf k).bind fun q => ((kvs.find? fun p => decide (p.1 = q)).map (·.2)).map .d
  | .mutD _ kvs, .d k => (keyOf k).bind fun q => ((kvs.find? fun p => decide (p.1 = q)).map (·.2)).map .d
  | _, _ => none
theorem keyOf_keyD (k : Key) : keyOf (keyD k) = some k := by cases k <;> rfl
theorem keyOf_rp {K : PySem.W.Frag} {S : List Addr} {H : Hp} {v : V} {d : PyData} {k : Key} (h : Rp K S H v d) (e : keyOf d = some k) : v = kV k := by
  cases h <;> first | (cases e; rfl) | cases e
theorem valD_rp {K : PySem.W.Frag} {S : List Addr} {H : Hp} {q : Key} : ∀ {kvs : List (Key × V)} {ds : List (PyData × PyData)} , RpKV K S H kvs ds → match valD ds q with
    | some d => ∃ v, valV kvs q = some v ∧ Rp K S H v d
    | none => valV kvs q = none
  | _, _, .nil => rfl
  | (k, v) :: kvs, (_, d) :: ds, .cons h t => by
    have ih := valD_rp (q := q) t
    unfold valD
    rw [keyOf_keyD]
    by_cases e : k = q
    · subst e
      rw [if_pos rfl]
      exact ⟨v, by simp [valV, List.find?_cons], h⟩
    · rw [if_neg (fun z => e (Option.some.inj z))]
      have e2 : valV ((k, v) :: kvs) q = valV kvs q := by simp [valV, List.find?_cons, e]
      rw [e2]
      exact ih
theorem findD_rp {R : V → PyData → Prop} {q : Key} : ∀ {kvs : List (Key × V)} {ds : List (Key × PyData)}, Paired (fun (a : Key × V) (b : Key × PyData) => a.1 = b.1 ∧ R a.2 b.2) kvs ds → match (ds.find? fun p => decide (p.1 = q)).map (·.2) with
    | some d => ∃ v, valV kvs q = some v ∧ R v d
    | none => valV kvs q = none
  | _, _, .nil => rfl
  | (k, v) :: kvs, (k', d) :: ds, .cons h t => by
    have ih := findD_rp (q := q) t
    obtain ⟨h1, h2⟩ := h
    simp only at h1
    subst h1
    by_cases e : k = q
    · subst e
      simp [valV, List.find?_cons, h2]
    · have e2 : valV ((k, v) :: kvs) q = valV kvs q := by simp [valV, List.find?_cons, e]
      rw [e2]
      simpa [List.find?_cons, e] using ih
theorem atI_rp {K : PySem.W.Frag} {S : List Addr} {H : Hp} {xs : List V} {ds : List PyData} {i : Int} {d : PyData} (t : RpAll K S H xs ds) (h : atI ds i = some d) : ∃ v, atI xs i = some v ∧ Rp K S H v d := by
  unfold atI at h ⊢
  rw [t.length]
  obtain ⟨j, h1, h2⟩ := Option.bind_eq_some_iff.mp h
  obtain ⟨v, h3, h4⟩ := t.get h2
  exact ⟨v, by rw [h1]; exact h3, h4⟩
theorem ix_dict (hu : X.A.units + 1 < cLine) : IxR X (fun x y H Q => ∃ a v, x = .ref a ∧ DGet H a y (some v) ∧ Q v H) := by
  intro value slice pins s σ H x y v u Q I rx ry h hs
  obtain ⟨a, r, rfl, g, q⟩ := h
  obtain rfl : v = Value.ref a := rx
  exact tail_any (dict_typeIs I g) slot_dict_getitem.lookup (d_getItem hu I g ry fun w' s' I' rw' => ⟨r, H, I', rw', q⟩) hs
theorem de_ix {k : Nat} (hr : Room k X.A) (ha : DE X EX a Ta) (hb : DE X EX b Tb) (hs : PlainIx b) : DE X EX (.Subscript a b pos) (fun ρ => do let x ← Ta ρ; let y ← Tb ρ; M.lift (gIx x y)) := by
  refine pe_imp (pe_ix (ix_seq.or (ix_dict (hu_of hr))) ha hb hs) (bin_imp fun {W H v w x y z Q} ok r1 r2 h q => ?_)
  unfold gIx at h
  split at h
  · obtain ⟨d, h1, rfl⟩ := Option.map_eq_some_iff.mp h
    cases r2
    cases r1 with | lst l t =>
    obtain ⟨v, h2, h3⟩ := atI_rp t h1
    exact .inl (.inl ⟨_, _, _, v, rfl, rfl, l.sq, h2, q.here ok h3⟩)
  · obtain ⟨d, h1, rfl⟩ := Option.map_eq_some_iff.mp h
    cases r2
    cases r1 with | tup l t =>
    obtain ⟨v, h2, h3⟩ := atI_rp t h1
    exact .inl (.inr (.inl ⟨_, _, _, v, rfl, rfl, l, h2, q.here ok h3⟩))
  · split at h
    · rename_i s
      obtain ⟨c, h1, rfl⟩ := Option.map_eq_some_iff.mp h
      cases r1; cases r2
      exact .inl (.inr (.inr ⟨_, _, c, rfl, rfl, szOk.le s, h1, q.here ok (.str _)⟩))
    · cases h
  · obtain ⟨kk, h1, h2⟩ := Option.bind_eq_some_iff.mp h
    obtain ⟨d, h3, rfl⟩ := Option.map_eq_some_iff.mp h2
    have e := keyOf_rp r2 h1
    subst e
    cases r1 with | dct l n t =>
    have z := valD_rp (q := kk) t
    rw [h3] at z
    obtain ⟨v, h4, h5⟩ := z
    exact .inr ⟨_, v, rfl, .inl ⟨_, kk, l, rfl, h4.symm⟩, q.here ok h5⟩
  · obtain ⟨d, h1, rfl⟩ := Option.map_eq_some_iff.mp h
    cases r2
    obtain ⟨p, xs, rfl, _, _, hp, t⟩ := r1
    obtain ⟨v, h2, h3⟩ := atI_rp t h1
    exact .inl (.inl ⟨_, _, _, v, rfl, rfl, .inl (.inl hp), h2, q.here ok h3⟩)
  · obtain ⟨kk, h1, h2⟩ := Option.bind_eq_some_iff.mp h
    obtain ⟨d, h3, rfl⟩ := Option.map_eq_some_iff.mp h2
    have e := keyOf_rp r2 h1
    subst e
    obtain ⟨p, xs, rfl, _, _, hp, t⟩ := r1
    have z := findD_rp (q := kk) t
    rw [h3] at z
    obtain ⟨v, h4, h5⟩ := z
    exact .inr ⟨_, v, rfl, .inl ⟨_, kk, .inl hp, rfl, h4.symm⟩, q.here ok h5⟩
  · obtain ⟨kk, h1, h2⟩ := Option.bind_eq_some_iff.mp h
    obtain ⟨d, h3, rfl⟩ := Option.map_eq_some_iff.mp h2
    have e := keyOf_rp r2 h1
    subst e
    obtain ⟨p, xs, rfl, _, _, hp, t, _⟩ := r1
    have z := findD_rp (q := kk) t
    rw [h3] at z
    obtain ⟨v, h4, h5⟩ := z
    exact .inr ⟨_, v, rfl, .inl ⟨_, kk, .inl hp, rfl, h4.symm⟩, q.here ok h5⟩
  · cases h
end
end Dd
namespace Dd
open PySem PySem.Spec PyProof.Rows L2
section
variable {X : Cx} {EX : L2.St → XK} {a b c e : Expr} {es rest : List Expr} {pos p p2 : Pos} {T Ta Tb Tc : List SD → M SD} {Ts : List SD → M (List SD)} {B B1 B2 : List SD → M Bool}
def asI : SD → Option Int
  | .d (.int i) => some i
  | _ => none
def dto (K : PySem.W.Frag) (EX : L2.St → XK) (T : List SD → M (Option Int)) : TO := fun σ H Q => ∃ W ρ, W.Ok H ∧ Rel K W H σ ρ ∧ (T ρ).run (fun o => ∀ H', Kp W H H' → W.Ok H' → Q o H') (XP K W H (EX σ))
abbrev DO (X : Cx) (EX : L2.St → XK) (e : Option Expr) (T : List SD → M (Option Int)) : Prop := PO X e (dto X.K EX T)
theorem po_imp {X : Cx} {e : Option Expr} {t t' : TO} (h : PO X e t) (i : ∀ σ H Q, t' σ H Q → t σ H Q) : PO X e t' := ⟨fun pins s σ H Q J q => h.run pins s σ H Q J (i σ H Q q)⟩
theorem do_none : DO X EX none (fun _ => pure none) := po_imp po_none fun σ H Q ⟨W, ρ, ok, rel, p⟩ => p H (Kp.refl W H) ok
theorem do_some (h : DE X EX e T) : DO X EX (some e) (fun ρ => do let x ← T ρ; let i ← M.lift (asI x); pure (some i)) := by
  refine po_imp (po_some h) fun σ H Q ⟨W, ρ, ok, rel, h⟩ => ?_
  refine ⟨W, ρ, ok, rel, (T ρ).mono (fun x h1 v H1 k1 ok1 r1 => ?_) (fun e h => h) h⟩
  obtain ⟨z, hz, p⟩ := run_lift.mp h1
  unfold asI at hz
  split at hz
  · cases r1; cases hz
    exact ⟨_, rfl, p H1 k1 ok1⟩
  · cases hz
def cutD {α : Type} (xs : List α) (lo hi : Option Int) : List α := (xs.drop (HT.sIx xs.length 0 lo)).take (HT.sIx xs.length xs.length hi - HT.sIx xs.length 0 lo)
def gSl (x : SD) (lo hi : Option Int) : Option SD := match x with
  | .d (.list xs) => some (.d (.list (cutD xs lo hi)))
  | .d (.tuple xs) => some (.d (.tuple (cutD xs lo hi)))
  | .d (.str z) => if szOk z.length then some (dS (cutS z lo hi)) else none
  | .own xs => some (.d (.list (cutD xs lo hi)))
  | _ => none
theorem cut_rp {K : PySem.W.Frag} {S : List Addr} {H : Hp} {xs : List V} {ds : List PyData} (t : RpAll K S H xs ds) (lo hi : Option Int) : RpAll K S H (cutV xs lo hi) (cutD ds lo hi) := by
  unfold cutV cutD
  rw [t.length]
  exact (t.drop _).take _
theorem de_slice {lo hi : Option Expr} {Tl Th : List SD → M (Option Int)} (he : DE X EX e T) (hl : DO X EX lo Tl) (hh : DO X EX hi Th) : DE X EX (.Subscript e (.Slice lo hi none p2) pos) (fun ρ => do let x ← T ρ; let l ← Tl ρ; let h ← Th ρ; M.lift (gSl x l h)) := by
  refine pe_imp (pe_slice (sl_list.or (sl_tupA.or sl_str)) he hl hh) fun σ H Q ⟨W, ρ, ok, rel, h⟩ => ?_
  refine ⟨W, ρ, ok, rel, (T ρ).mono (fun x h1 v H1 k1 ok1 r1 => ?_) (fun e h => h) h⟩
  refine ⟨W, ρ, ok1, rel.keep ok k1, (Tl ρ).mono (fun l h2 H2 k2 ok2 => ?_) (fun e h => XP.trans ok k1 ok1 h) h1⟩
  have k12 := k1.trans k2
  refine ⟨W, ρ, ok2, (rel.keep ok k1).keep ok1 k2, (Th ρ).mono (fun u h3 H3 k3 ok3 => ?_) (fun e h => XP.trans ok k12 ok2 h) h2⟩
  obtain ⟨z, hz, q⟩ := run_lift.mp h3
  have q := Post.trans (k12.trans k3) q
  have r1 := (r1.keep ok1 k2).keep ok2 k3
  unfold gSl at hz
  split at hz
  · cases hz
    cases r1 with | lst l1 t1 => exact .inl ⟨_, _, rfl, l1.sq, fun p hp => new_lst ok3 hp (cut_rp t1 _ _) q⟩
  · cases hz
    cases r1 with | tup l1 t1 =>
    refine .inr (.inl ⟨_, _, rfl, l1, fun w => ?_, fun _ p hp => new_tup ok3 hp (cut_rp t1 _ _) q⟩)
    have e1 := cut_rp t1 l u
    have e2 : cutV _ l u = _ := show (_ : List V) = _ from by
      unfold cutV
      rw [w.1, w.2, List.drop_zero, Nat.sub_zero, List.take_length]
    rw [e2] at e1
    exact q.here ok3 (.tup l1 e1)
  · split at hz
    · rename_i s
      cases r1; cases hz
      exact .inr (.inr ⟨_, rfl, szOk.le s, q.here ok3 (.str _)⟩)
    · cases hz
  · cases hz
    obtain ⟨p, xs, rfl, _, _, hp, t⟩ := r1
    exact .inl ⟨_, _, rfl, .inl (.inl hp), fun p hp => new_lst ok3 hp (cut_rp t _ _) q⟩
  · cases hz
def flatD : PyData → Bool
  | .none => true
  | .bool _ => true
  | .int _ => true
  | .str _ => true
  | _ => false
def inD (x : PyData) (ds : List PyData) : Bool := ds.any fun y => PyData.eqv y x
theorem flat_rp {K : PySem.W.Frag} {S : List Addr} {H : Hp} {v : V} {d : PyData} (r : Rp K S H v d) (f : flatD d = true) : flatV v = true := by
  cases r <;> first | rfl | cases f
theorem eq_rp {K : PySem.W.Frag} {S : List Addr} {H : Hp} {v w : V} {d e : PyData} (r : Rp K S H v d) (f : flatD d = true) (r2 : Rp K S H w e) (f2 : flatD e = true) : eqV v w = PyData.eqv d e := by
  cases r <;> cases r2 <;> first | exact Bool.noConfusion f | exact Bool.noConfusion f2 | (simp [eqV, PyData.eqv]; done)
theorem all_rp {K : PySem.W.Frag} {S : List Addr} {H : Hp} : ∀ {vs : List V} {ds : List PyData}, RpAll K S H vs ds → ds.all flatD = true → vs.all flatV = true
  | _, _, .nil, _ => rfl
  | _, d :: ds, .cons r t, f => by
    have f' : flatD d = true ∧ ds.all flatD = true := by simpa using f
    simp only [List.all_cons, Bool.and_eq_true]
    exact ⟨flat_rp r f'.1, all_rp t f'.2⟩
theorem in_rp {K : PySem.W.Frag} {S : List Addr} {H : Hp} {v : V} {d : PyData} (r : Rp K S H v d) (f : flatD d = true) : ∀ {vs : List V} {ds : List PyData}, RpAll K S H vs ds → ds.all flatD = true → inV v vs = inD d ds
  | _, _, .nil, _ => rfl
  | _, e :: ds, .cons r2 t, f2 => by
    have f' : flatD e = true ∧ ds.all flatD = true := by simpa using f2
    have ih := in_rp r f t f'.2
    unfold inV inD at ih ⊢
    rw [List.any_cons, List.any_cons, ih, eq_rp r2 f'.1 r f]
def gIn0 (neg : Bool) : SD → SD → Option SD
  | .d x, .d (.list ds) => if flatD x && ds.all flatD then some (dB (if neg then !inD x ds else inD x ds)) else if SeqAt.shaped x && SeqAt.shaped (.list ds) then some (dB (if neg then !inD x ds else inD x ds)) else none
  | .d x, .d (.tuple ds) => if flatD x && ds.all flatD then some (dB (if neg then !inD x ds else inD x ds)) else none
  | .d x, .d (.dict ds) => (keyOf x).map fun q => dB (if neg then !(valD ds q).isSome else (valD ds q).isSome)
  | .d x, .own ds => if flatD x && ds.all flatD then some (dB (if neg then !inD x ds else inD x ds)) else none
  | .d x, .ownD ds => (keyOf x).map fun q => dB (if neg then !(ds.find? fun p => decide (p.1 = q)).isSome else (ds.find? fun p => decide (p.1 = q)).isSome)
  | _, _ => none
theorem op_inDict (hu : X.A.units + 1 < cLine) : OpR X (compareOp .In) (fun y x H Q => ∃ a o, x = .ref a ∧ DGet H a y o ∧ Q (.bl o.isSome) H) := by
  intro pins s σ H x y v u Q I rx ry h
  obtain ⟨a, o, rfl, g, q⟩ := h
  obtain rfl : u = Value.ref a := ry
  exact d_in hu I g rx fun s3 I3 => ⟨.bl o.isSome, H, I3, rfl, q⟩
theorem isSome_rp {K : PySem.W.Frag} {S : List Addr} {H : Hp} {q : Key} {kvs : List (Key × V)} {ds : List (PyData × PyData)} (t : RpKV K S H kvs ds) : (valV kvs q).isSome = (valD ds q).isSome := by
  have z := valD_rp (q := q) t
  cases e : valD ds q with
  | none => rw [e] at z; rw [z]; rfl
  | some d => rw [e] at z; obtain ⟨v, z, _⟩ := z; rw [z]; rfl
theorem isSome_rp2 {R : V → PyData → Prop} {q : Key} {kvs : List (Key × V)} {ds : List (Key × PyData)} (t : Paired (fun (a : Key × V) (b : Key × PyData) => a.1 = b.1 ∧ R a.2 b.2) kvs ds) : (valV kvs q).isSome = (ds.find? fun p => decide (p.1 = q)).isSome := by
  have z := findD_rp (q := q) t
  cases e : ds.find? fun p => decide (p.1 = q) with
  | none => rw [e] at z; have z : valV kvs q = none := z; rw [z]; rfl
  | some d => rw [e] at z; obtain ⟨v, z, _⟩ := z; rw [z]; rfl
theorem c_in0 {neg : Bool} {op : CmpOp} (h1 : OpR X (compareOp op) (rIn X.K neg)) (h2 : OpR X (compareOp op) (fun y x H Q => ∃ a o, x = .ref a ∧ DGet H a y o ∧ Q (.bl (if neg then !o.isSome else o.isSome)) H))
    (h3 : OpR X (compareOp op) (fun x y H Q => ∃ d ds, Dp X.K H x d ∧ Dp X.K H y (.list ds) ∧ SeqAt.shaped d = true ∧ SeqAt.shaped (.list ds) = true ∧ Q (.bl (if neg then !inD d ds else inD d ds)) H)) : CmpR X op (gIn0 neg) := by
  refine ⟨_, h1.or (h2.or h3), fun {W H v w x y z Q} ok r1 r2 h q => ?_⟩
  unfold gIn0 at h
  split at h
  · split at h
    · rename_i s
      have s' := Bool.and_eq_true_iff.mp s
      cases h
      cases r2 with | lst l t =>
      refine .inl ⟨_, _, rfl, .inl l.sq, flat_rp r1 s'.1, all_rp t s'.2, ?_⟩
      rw [in_rp r1 s'.1 t s'.2]
      exact q.here ok (.bl _)
    · split at h
      · rename_i s
        have s' := Bool.and_eq_true_iff.mp s
        cases h
        exact .inr (.inr ⟨_, _, Rp.dp (SeqAt.canLay_of_shaped s'.1) r1, Rp.dp (SeqAt.canLay_of_shaped s'.2) r2, s'.1, s'.2, q.here ok (.bl _)⟩)
      · cases h
  · split at h
    · rename_i s
      have s' := Bool.and_eq_true_iff.mp s
      cases h
      cases r2 with | tup l t =>
      refine .inl ⟨_, _, rfl, .inr l, flat_rp r1 s'.1, all_rp t s'.2, ?_⟩
      rw [in_rp r1 s'.1 t s'.2]
      exact q.here ok (.bl _)
    · cases h
  · obtain ⟨kk, h1, rfl⟩ := Option.map_eq_some_iff.mp h
    have e := keyOf_rp r1 h1
    subst e
    cases r2 with | dct l n t =>
    refine .inr (.inl ⟨_, _, rfl, .inl ⟨_, kk, l, rfl, rfl⟩, ?_⟩)
    rw [isSome_rp t]
    exact q.here ok (.bl _)
  · split at h
    · rename_i s
      have s' := Bool.and_eq_true_iff.mp s
      cases h
      obtain ⟨p, xs, rfl, _, _, hp, t⟩ := r2
      refine .inl ⟨_, _, rfl, .inl (.inl (.inl hp)), flat_rp r1 s'.1, all_rp t s'.2, ?_⟩
      rw [in_rp r1 s'.1 t s'.2]
      exact q.here ok (.bl _)
    · cases h
  · obtain ⟨kk, h1, rfl⟩ := Option.map_eq_some_iff.mp h
    have e := keyOf_rp r1 h1
    subst e
    obtain ⟨p, xs, rfl, _, _, hp, t⟩ := r2
    refine .inr (.inl ⟨_, _, rfl, .inl ⟨_, kk, .inl hp, rfl, rfl⟩, ?_⟩)
    rw [isSome_rp2 t]
    exact q.here ok (.bl _)
  · cases h
abbrev gIn : SD → SD → Option SD := gIn0 false
abbrev gNotIn : SD → SD → Option SD := gIn0 true
theorem c_in {k : Nat} (hr : Room k X.A) : CmpR X .In gIn := c_in0 op_in_seq (op_inDict (hu_of hr)) (op_inD (by have := hr.un; omega))
theorem chain_imp {r r' : R2} {g g' : SD → SD → Option SD} (hr : ∀ {W : Wd} {H : Hp} {v w : V} {x y z : SD} {Q : VK}, W.Ok H → RV X.K W H v x → RV X.K W H w y → g x y = some z → Post X.K W H Q z → r v w H Q)
    (hr' : ∀ {W : Wd} {H : Hp} {v w : V} {x y z : SD} {Q : VK}, W.Ok H → RV X.K W H v x → RV X.K W H w y → g' x y = some z → Post X.K W H Q z → r' v w H Q) (σ : L2.St) (H : Hp) (Q : VK)
    (h : dt X.K EX (fun ρ => do let x ← Ta ρ; let y ← Tb ρ; let z ← M.lift (g x y); let k ← M.lift (asB z); if k then do let w ← Tc ρ; M.lift (g' y w) else pure (dB false)) σ H Q) : tChain r r' (dt X.K EX Ta) (dt X.K EX Tb) (dt X.K EX Tc) σ H Q := by
  obtain ⟨W, ρ, ok, rel, h⟩ := h
  refine ⟨W, ρ, ok, rel, (Ta ρ).mono (fun x h1 v H1 k1 ok1 r1 => ?_) (fun e h => h) h⟩
  refine ⟨W, ρ, ok1, rel.keep ok k1, (Tb ρ).mono (fun y h2 w H2 k2 ok2 r2 => ?_) (fun e h => XP.trans ok k1 ok1 h) h1⟩
  have k12 := k1.trans k2
  have rel2 := (rel.keep ok k1).keep ok1 k2
  obtain ⟨z, hz, p⟩ := run_lift.mp h2
  obtain ⟨kk, hk, p⟩ := run_lift.mp p
  refine hr ok2 (r1.keep ok1 k2) r2 hz fun v' H3 k3 ok3 r3 => ?_
  unfold asB at hk
  split at hk
  · cases r3; cases hk
    refine ⟨_, rfl, ?_⟩
    cases kk with
    | false => exact p (.bl false) H3 (k12.trans k3) ok3 (Rp.bl false)
    | true =>
      refine ⟨W, ρ, ok3, rel2.keep ok2 k3, (Tc ρ).mono (fun u h4 w' H4 k4 ok4 r4 => ?_) (fun e h => XP.trans ok (k12.trans k3) ok3 h) p⟩
      obtain ⟨z', hz', p'⟩ := run_lift.mp h4
      exact hr' ok4 ((r2.keep ok2 k3).keep ok3 k4) r4 hz' (Post.trans ((k12.trans k3).trans k4) p')
  · cases hk
theorem de_chain {op op' : CmpOp} {g g' : SD → SD → Option SD} (h1 : CmpR X op g) (h2 : CmpR X op' g') (ha : DE X EX a Ta) (hb : DE X EX b Tb) (hc : DE X EX c Tc) (hm : lastMarks [op, op'] [b, c] = false := by with_unfolding_all rfl) :
    DE X EX (.Compare a [op, op'] [b, c] pos) (fun ρ => do let x ← Ta ρ; let y ← Tb ρ; let z ← M.lift (g x y); let k ← M.lift (asB z); if k then do let w ← Tc ρ; M.lift (g' y w) else pure (dB false)) := by
  obtain ⟨r, i1, i2⟩ := h1
  obtain ⟨r', j1, j2⟩ := h2
  exact pe_imp (pe_chain i1 j1 ha hb hc hm) (chain_imp i2 j2)
theorem dt_chain {op op' : CmpOp} {g g' : SD → SD → Option SD} (h1 : CmpR X op g) (h2 : CmpR X op' g') (ha : DE X EX a Ta) (hb : DE X EX b Tb) (hc : DE X EX c Tc) (hm : lastMarks [op, op'] [b, c] = false := by with_unfolding_all rfl) :
    DT X EX (.Compare a [op, op'] [b, c] pos) (fun ρ => do let x ← (do let x ← Ta ρ; let y ← Tb ρ; let z ← M.lift (g x y); let k ← M.lift (asB z); if k then do let w ← Tc ρ; M.lift (g' y w) else pure (dB false)); M.lift (asB x)) := by
  obtain ⟨r, i1, i2⟩ := h1
  obtain ⟨r', j1, j2⟩ := h2
  refine pt_imp (pt_chain i1 j1 ha hb hc hm) fun σ H Q h => ?_
  refine chain_imp (EX := EX) (Ta := Ta) (Tb := Tb) (Tc := Tc) i2 j2 σ H _ ?_
  obtain ⟨W, ρ, ok, rel, h⟩ := h
  refine ⟨W, ρ, ok, rel, M.mono _ (fun x hz v H' k' ok' r' => ?_) (fun _ h => h) h⟩
  obtain ⟨t, ht, p⟩ := run_lift.mp hz
  unfold asB at ht
  split at ht
  · cases r'; cases ht
    exact ⟨_, rfl, p H' k' ok'⟩
  · cases ht
end
end Dd
namespace Dd
open PySem PySem.Spec PyProof.Rows L2
def BR (X : Cx) (f : Value) (g : List SD → M SD) : Prop := ∃ r, CallR X f r ∧ ∀ {W : Wd} {H : Hp} {vs : List V} {xs : List SD} {Q : VK} {E : Exn → Prop}, W.Ok H → Paired (RV X.K W H) vs xs → (g xs).run (Post X.K W H Q) E → r vs H Q
section
variable {X : Cx} {EX : L2.St → XK} {a b c e : Expr} {es rest : List Expr} {x : Str} {pos p p2 : Pos} {T Ta Tb Tc : List SD → M SD} {Ts : List SD → M (List SD)} {B B1 B2 : List SD → M Bool} {g : List SD → M SD} {bid : String}
theorem BR.imp {r : List V → Hp → VK → Prop} (h2 : ∀ {W : Wd} {H : Hp} {vs : List V} {xs : List SD} {Q : VK} {E : Exn → Prop}, W.Ok H → Paired (RV X.K W H) vs xs → (g xs).run (Post X.K W H Q) E → r vs H Q) (σ : L2.St) (H : Hp) (Q : VK)
    (h : dt X.K EX (fun ρ => do let xs ← Ts ρ; g xs) σ H Q) : tCB r (dta X.K EX Ts) σ H Q := by
  obtain ⟨W, ρ, ok, rel, h⟩ := h
  refine ⟨W, ρ, ok, rel, (Ts ρ).mono (fun x h1 v H1 k1 ok1 r1 => ?_) (fun e h => h) h⟩
  exact h2 ok1 r1 ((g x).mono (fun z p => Post.trans k1 p) (fun _ h => h) h1)
theorem de_b (hc : BR X (.builtin bid) g) (hg : Gl X x) (hm : X.mg x = none) (hv : bootBuiltins x = some (.builtin bid)) (ha : DA X EX (e :: es) Ts) (hn : x ≠ "__name__" := by decide) (hdb : (x == ("__debug__" : Str)) = false := by decide)
    (he : starEach (e :: es) X.env = (false, eval e X.env) :: starEach es X.env := by rfl) (hpl : (backTo pos (starEach es X.env)).any (·.1) = false := by rfl) : DE X EX (.Call (.Name x p) (e :: es) [] pos) (fun ρ => do let xs ← Ts ρ; g xs) := by
  obtain ⟨r, h1, h2⟩ := hc
  exact pe_imp (pe_callB h1 hg hm hv ha hn hdb he hpl) (BR.imp h2)
theorem de_bty (hc : BR X (.type bid) g) (hg : Gl X x) (hm : X.mg x = none) (hv : bootBuiltins x = some (.type bid)) (ha : DA X EX (e :: es) Ts) (hn : x ≠ "__name__" := by decide) (hdb : (x == ("__debug__" : Str)) = false := by decide)
    (he : starEach (e :: es) X.env = (false, eval e X.env) :: starEach es X.env := by rfl) (hpl : (backTo pos (starEach es X.env)).any (·.1) = false := by rfl) : DE X EX (.Call (.Name x p) (e :: es) [] pos) (fun ρ => do let xs ← Ts ρ; g xs) := by
  obtain ⟨r, h1, h2⟩ := hc
  exact pe_imp (pe_callTy h1 hg hm hv ha hn hdb he hpl) (BR.imp h2)
theorem de_ty {n : String} (hg : Gl X x) (hm : X.mg x = none) (hv : bootBuiltins x = some (.type n)) (hn : x ≠ "__name__" := by decide) (hd : (x == ("__debug__" : Str)) = false := by decide) : DE X EX (.Name x pos) (fun _ => pure (.ty n)) :=
  pe_imp (pe_bltn (v := .ty n) hg hm hv rfl hn hd) fun σ H Q ⟨W, ρ, ok, rel, p⟩ => p _ H (Kp.refl W H) ok rfl
theorem de_glob {v : V} {u : Value} {d : PyData} (hg : Gl X x) (hm : X.mg x = some u) (r : RelV v u) (rd : ∀ S H, Rp X.K S H v d) (hd : (x == ("__debug__" : Str)) = false := by decide) : DE X EX (.Name x pos) (fun _ => pure (.d d)) := de_c (pe_glob hg hm r hd) rd
theorem pair1 {α β : Type} {R : α → β → Prop} {vs : List α} {x : β} (h : Paired R vs [x]) : ∃ v, vs = [v] ∧ R v x := by
  cases h with | cons h t => cases t; exact ⟨_, rfl, h⟩
theorem pair2 {α β : Type} {R : α → β → Prop} {vs : List α} {x y : β} (h : Paired R vs [x, y]) : ∃ v w, vs = [v, w] ∧ R v x ∧ R w y := by
  cases h with | cons h t => cases t with | cons h2 t => cases t; exact ⟨_, _, rfl, h, h2⟩
def lenD : SD → Option Int
  | .d (.list xs) => some xs.length
  | .d (.tuple xs) => some xs.length
  | .d (.str z) => if szOk z.length then some z.length else none
  | .own xs => some xs.length
  | .ownD xs => some xs.length
  | _ => none
def bLen : List SD → M SD
  | [x] => do let n ← M.lift (lenD x); pure (dI n)
  | _ => M.fail
theorem br_len : BR X (.builtin "len") bLen := by
  refine ⟨_, call_len_seq.or (call_len_str.or call_lenD), fun {W H vs xs Q E} ok r h => ?_⟩
  unfold bLen at h
  split at h
  · obtain ⟨v, rfl, r1⟩ := pair1 r
    replace r := r1
    obtain ⟨n, hn, q⟩ := run_lift.mp h
    unfold lenD at hn
    split at hn
    · cases hn
      cases r with | lst l t => exact .inl ⟨_, _, rfl, .inl l.sq, by rw [t.length]; exact q.here ok (.int _)⟩
    · cases hn
      cases r with | tup l t => exact .inl ⟨_, _, rfl, .inr l, by rw [t.length]; exact q.here ok (.int _)⟩
    · split at hn
      · rename_i s
        cases r; cases hn
        exact .inr (.inl ⟨_, rfl, szOk.le s, q.here ok (.int _)⟩)
      · cases hn
    · cases hn
      obtain ⟨p, xs, rfl, _, _, hp, t⟩ := r
      exact .inl ⟨_, _, rfl, .inl (.inl (.inl hp)), by rw [t.length]; exact q.here ok (.int _)⟩
    · cases hn
      obtain ⟨p, xs, rfl, _, _, hp, t⟩ := r
      exact .inr (.inr ⟨_, _, rfl, hp, by rw [Paired.length t]; exact q.here ok (.int _)⟩)
    · cases hn
  · exact h.elim
def bAbs : List SD → M SD
  | [.d (.int i)] => pure (dI (if i < 0 then -i else i))
  | _ => M.fail
theorem br_abs : BR X (.builtin "abs") bAbs := by
  refine ⟨_, call_abs, fun {W H vs xs Q E} ok r h => ?_⟩
  unfold bAbs at h
  split at h
  · obtain ⟨v, rfl, r1⟩ := pair1 r
    replace r := r1
    cases r
    exact ⟨_, rfl, Post.here (K := X.K) ok h (.int _)⟩
  · exact h.elim
def bools : List PyData → Option (List Bool)
  | [] => some []
  | .bool b :: r => (bools r).map (b :: ·)
  | _ => none
theorem bools_rp {K : PySem.W.Frag} {S : List Addr} {H : Hp} : ∀ {vs : List V} {ds : List PyData} {bs : List Bool}, RpAll K S H vs ds → bools ds = some bs → vs = bs.map V.bl
  | _, _, _, .nil, h => by cases h; rfl
  | _, .bool b :: r, bs, .cons r1 t, h => by
    unfold bools at h
    obtain ⟨ds', h1, rfl⟩ := Option.map_eq_some_iff.mp h
    cases r1
    rw [bools_rp t h1]
    rfl
  | _, .none :: _, _, .cons _ _, h => by cases h
  | _, .int _ :: _, _, .cons _ _, h => by cases h
  | _, .str _ :: _, _, .cons _ _, h => by cases h
  | _, .list _ :: _, _, .cons _ _, h => by cases h
  | _, .tuple _ :: _, _, .cons _ _, h => by cases h
  | _, .dict _ :: _, _, .cons _ _, h => by cases h
def bBools (f : List Bool → Bool) : List SD → M SD
  | [.d (.list ds)] => do let bs ← M.lift (bools ds); pure (dB (f bs))
  | _ => M.fail
abbrev bAll : List SD → M SD := bBools (fun bs => bs.all (fun b => b))
abbrev bAny : List SD → M SD := bBools (fun bs => bs.any (fun b => b))
theorem br_all (hc : X.calm = true) : BR X (.builtin "all") bAll := by
  refine ⟨_, cr_all hc, fun {W H vs xs Q E} ok r h => ?_⟩
  unfold bAll bBools at h
  split at h
  · obtain ⟨v, rfl, r1⟩ := pair1 r
    replace r := r1
    obtain ⟨n, hn, q⟩ := run_lift.mp h
    cases r with | lst l t =>
    refine ⟨_, n, rfl, ?_, Post.here (K := X.K) ok q (.bl _)⟩
    rw [← bools_rp t hn]
    exact l.sq
  · exact h.elim
def intsD : List PyData → Option (List Int)
  | [] => some []
  | .int b :: r => (intsD r).map (b :: ·)
  | _ => none
def bSum : List SD → M SD
  | [.d (.list ds)] => do let bs ← M.lift (intsD ds); pure (dI bs.sum)
  | _ => M.fail
def strsOf : List (PyData × PyData) → List PyData := List.map (·.1)
theorem keys_rp {K : PySem.W.Frag} {S : List Addr} {H : Hp} : ∀ {kvs : List (Key × V)} {ds : List (PyData × PyData)}, RpKV K S H kvs ds → RpAll K S H (kvs.map fun kv => kV kv.1) (ds.map (·.1))
  | _, _, .nil => .nil
  | (k, _) :: _, _, .cons _ t => by
    refine .cons ?_ (keys_rp t)
    cases k with
    | inl i => exact .int i
    | inr z => exact .str z
def bList : List SD → M SD
  | [.d (.list ds)] => pure (.d (.list ds))
  | [.d (.tuple ds)] => pure (.d (.list ds))
  | [.d (.dict ds)] => pure (.d (.list (ds.map (·.1))))
  | [.own ds] => pure (.d (.list ds))
  | _ => M.fail
theorem br_list (hc : X.calm = true) : BR X (.type "list") bList := by
  refine ⟨_, call_list_of.or (call_listD hc), fun {W H vs xs Q E} ok r h => ?_⟩
  unfold bList at h
  split at h
  · obtain ⟨v, rfl, r1⟩ := pair1 r
    replace r := r1
    cases r with | lst l t => exact .inl ⟨_, _, rfl, .inl l.sq, fun p hp => new_lst ok hp t h⟩
  · obtain ⟨v, rfl, r1⟩ := pair1 r
    replace r := r1
    cases r with | tup l t => exact .inl ⟨_, _, rfl, .inr l, fun p hp => new_lst ok hp t h⟩
  · obtain ⟨v, rfl, r1⟩ := pair1 r
    replace r := r1
    cases r with | dct l n t => exact .inr ⟨_, _, rfl, l, fun p hp => new_lst ok hp (keys_rp t) h⟩
  · obtain ⟨v, rfl, r1⟩ := pair1 r
    replace r := r1
    obtain ⟨p, xs, rfl, _, _, hp, t⟩ := r
    exact .inl ⟨_, _, rfl, .inl (.inl (.inl hp)), fun p hp => new_lst ok hp t h⟩
  · exact h.elim
def bTuple : List SD → M SD
  | [.d (.list ds)] => pure (.d (.tuple ds))
  | [.d (.tuple ds)] => pure (.d (.tuple ds))
  | [.own ds] => pure (.d (.tuple ds))
  | _ => M.fail
theorem br_tuple : BR X (.type "tuple") bTuple := by
  refine ⟨_, call_tuple_of, fun {W H vs xs Q E} ok r h => ?_⟩
  unfold bTuple at h
  split at h
  · obtain ⟨v, rfl, r1⟩ := pair1 r
    replace r := r1
    cases r with | lst l t => exact ⟨_, _, rfl, .inl ⟨l.sq, fun p hp => new_tup ok hp t h⟩⟩
  · obtain ⟨v, rfl, r1⟩ := pair1 r
    replace r := r1
    cases r with | tup l t => exact ⟨_, _, rfl, .inr ⟨l, Post.here (K := X.K) ok h (.tup l t)⟩⟩
  · obtain ⟨v, rfl, r1⟩ := pair1 r
    replace r := r1
    obtain ⟨p, xs, rfl, _, _, hp, t⟩ := r
    exact ⟨_, _, rfl, .inl ⟨.inl (.inl hp), fun p hp => new_tup ok hp t h⟩⟩
  · exact h.elim
def pairsD : List PyData → Option (List (Key × PyData))
  | [] => some []
  | .tuple [k, v] :: r => (keyOf k).bind fun q => (pairsD r).map ((q, v) :: ·)
  | _ => none
def putD (kvs : List (Key × PyData)) (k : Key) (v : PyData) : List (Key × PyData) := if (kvs.any fun p => decide (p.1 = k)) = true then kvs.map fun p => if p.1 = k then (p.1, v) else p else kvs ++ [(k, v)]
def mergeD (kvs more : List (Key × PyData)) : List (Key × PyData) := more.foldl (fun acc kv => putD acc kv.1 kv.2) kvs
def dictOf (kvs : List (Key × PyData)) : PyData := .dict (kvs.map fun p => (keyD p.1, p.2))
abbrev PKV (K : PySem.W.Frag) (S : List Addr) (H : Hp) : List (Key × V) → List (Key × PyData) → Prop := Paired fun (a : Key × V) (b : Key × PyData) => a.1 = b.1 ∧ Rp K S H a.2 b.2
theorem pkv_kv {K : PySem.W.Frag} {S : List Addr} {H : Hp} : ∀ {kvs : List (Key × V)} {ds : List (Key × PyData)}, PKV K S H kvs ds → RpKV K S H kvs (ds.map fun p => (keyD p.1, p.2))
  | _, _, .nil => .nil
  | (k, v) :: _, (k', d) :: _, .cons h t => by
    obtain ⟨h1, h2⟩ := h
    simp only at h1
    subst h1
    exact .cons h2 (pkv_kv t)
def bDict : List SD → M SD
  | [.d (.list ds)] => do let es ← M.lift (pairsD ds); pure (.d (dictOf (mergeD [] es)))
  | [.d (.dict ds)] => pure (.d (.dict ds))
  | _ => M.fail
def tyName : PyData → String
  | .none => "NoneType"
  | .bool _ => "bool"
  | .int _ => "int"
  | .str _ => "str"
  | .list _ => "list"
  | .tuple _ => "tuple"
  | .dict _ => "dict"
theorem ty_rp {K : PySem.W.Frag} {S : List Addr} {H : Hp} {v : V} {d : PyData} (r : Rp K S H v d) : TyX K H v (.type (tyName d)) := by
  cases r with
  | non => exact .base .non
  | bl b => exact .base (.bl b)
  | int i => exact .base (.int i)
  | str x => exact .base (.str x)
  | lst l t => exact .base (.lst l.1)
  | tup l t =>
    rcases l with (l | ⟨o, l⟩) | ⟨o, its, n, h1, h2, _⟩
    · exact .base (.tup l)
    · exact .fTuple l
    · exact .kTuple h1 h2
  | dct l n t =>
    rcases l with l | ⟨o, l⟩
    · exact .base (.dK l)
    · exact .fDict l
def bIsi : List SD → M SD
  | [.d x, .ty n] => do let b ← M.lift (kitB (tyName x) n); pure (dB b)
  | _ => M.fail
theorem br_isi : BR X (.builtin "isinstance") bIsi := by
  refine ⟨_, call_isi, fun {W H vs xs Q E} ok r h => ?_⟩
  unfold bIsi at h
  split at h
  · obtain ⟨v, w, rfl, r1, r2⟩ := pair2 r
    obtain ⟨es, h1, q⟩ := run_lift.mp h
    cases r2
    exact ⟨_, _, _, _, _, rfl, .ty _, ty_rp r1, kit_ty h1, Post.here (K := X.K) ok q (.bl _)⟩
  · exact h.elim
def bSorted : List SD → M SD
  | [.d (.list ds)] => do M.need (PySem.W.AllAlike ds ∧ PySem.W.Sortable ds ∧ (∀ d ∈ ds, d.canLay0 = true ∧ d.depth ≤ 30)); pure (.d (.list (ds.mergeSort (PySem.W.dataLe false (fun d => d)))))
  | _ => M.fail
theorem zip_rp {K : PySem.W.Frag} {S : List Addr} {H : Hp} : ∀ {vs : List V} {ds : List PyData}, RpAll K S H vs ds → ∃ bs : List (V × PyData), bs.map (·.1) = vs ∧ bs.map (·.2) = ds ∧ ∀ b ∈ bs, Rp K S H b.1 b.2
  | _, _, .nil => ⟨[], rfl, rfl, fun _ h => nomatch h⟩
  | _, _, .cons (v := v) (d := d) r t => by
    obtain ⟨bs, h1, h2, h3⟩ := zip_rp t
    refine ⟨(v, d) :: bs, by rw [← h1]; rfl, by rw [← h2]; rfl, fun b hb => ?_⟩
    rcases List.mem_cons.mp hb with rfl | hb
    · exact r
    · exact h3 b hb
theorem rp_zip {K : PySem.W.Frag} {S : List Addr} {H : Hp} : ∀ {bs : List (V × PyData)}, (∀ b ∈ bs, Rp K S H b.1 b.2) → RpAll K S H (bs.map (·.1)) (bs.map (·.2))
  | [], _ => .nil
  | b :: bs, h => .cons (h b List.mem_cons_self) (rp_zip fun c hc => h c (List.mem_cons_of_mem _ hc))
theorem br_sorted {k : Nat} (hr : Room k X.A) : BR X (.builtin "sorted") bSorted := by
  refine ⟨_, Dw.cr_sortData hr.units, fun {W H vs xs Q E} ok r h => ?_⟩
  unfold bSorted at h
  split at h
  · obtain ⟨v, rfl, r1⟩ := pair1 r
    obtain ⟨⟨al, so, dp⟩, q⟩ := h
    cases r1 with | lst l t =>
    obtain ⟨bs, e1, e2, e3⟩ := zip_rp t
    subst e1 e2
    refine ⟨_, bs, rfl, l.sq, fun b hb => Rp.dp (dp _ (List.mem_map_of_mem hb)).1 (e3 b hb), al, so, fun b hb => (dp _ (List.mem_map_of_mem hb)).2, fun p hp => ?_⟩
    have e4 : (bs.mergeSort (PySem.W.dataLe false (·.2))).map (·.2) = (bs.map (·.2)).mergeSort (PySem.W.dataLe false (fun d => d)) := List.map_mergeSort (fun a _ b _ => rfl)
    have t2 : RpAll X.K W.S H _ _ := rp_zip (bs := bs.mergeSort (PySem.W.dataLe false (·.2))) fun b hb => e3 b (List.mem_mergeSort.mp hb)
    rw [e4] at t2
    exact new_lst ok hp t2 q
  · exact h.elim
end
end Dd
namespace Dd
open PySem PySem.Spec PyProof.Rows L2
def spX (K : PySem.W.Frag) (n : Nat) (f : List SD → M SD) : Sp := fun vs H Q E => ∃ W xs, W.Ok H ∧ Paired (RV K W H) vs xs ∧ (∀ x ∈ xs, isOwn x = false) ∧ xs.length = n ∧ (f xs).run (Post K W H Q) (XP K W H E) ∧ W.tab = theTab K
mutual
def noMut : PyData → Bool
  | .list _ => false
  | .dict _ => false
  | .tuple xs => noMutAll xs
  | _ => true
def noMutAll : List PyData → Bool
  | [] => true
  | x :: r => noMut x && noMutAll r
end
def noMutS : SD → Bool
  | .d x => noMut x
  | .ty _ => true
  | _ => false
mutual
theorem Rp.noMut {K : PySem.W.Frag} {S S' : List Addr} {H : Hp} : ∀ {v : V} {d : PyData}, Dd.noMut d = true → Rp K S H v d → Rp K S' H v d
  | _, _, _, .non => .non
  | _, _, _, .bl b => .bl b
  | _, _, _, .int i => .int i
  | _, _, _, .str x => .str x
  | _, _, c, .lst h t => by simp [Dd.noMut] at c
  | _, _, c, .tup h t => .tup h (RpAll.noMut (by simpa [Dd.noMut] using c) t)
  | _, _, c, .dct _ _ _ => by simp [Dd.noMut] at c
theorem RpAll.noMut {K : PySem.W.Frag} {S S' : List Addr} {H : Hp} : ∀ {v : List V} {d : List PyData}, noMutAll d = true → RpAll K S H v d → RpAll K S' H v d
  | _, _, _, .nil => .nil
  | _, d :: ds, c, .cons h t => by
    have c' : Dd.noMut d = true ∧ noMutAll ds = true := by simpa [noMutAll] using c
    exact .cons (Rp.noMut c'.1 h) (RpAll.noMut c'.2 t)
end
def frzS : SD → SD
  | .own ds => .d (.list ds)
  | .ownD ds => .d (dictOf ds)
  | .mutD _ ds => .d (dictOf ds)
  | .ownL ls => .x (.lams ls)
  | x => x
def guardM (m : M SD) : M SD := ⟨fun P E => m.run (fun r => noMutS r = true ∧ P r) (fun e => (∀ p ∈ e.fs, noMut p.2 = true) ∧ E e), fun h g p => m.mono (fun _ q => ⟨q.1, h _ q.2⟩) (fun _ q => ⟨q.1, g _ q.2⟩) p⟩
def callM (n : Nat) (f : List SD → M SD) (xs : List SD) : M SD := if xs.length = n then (if (xs.any isOwn) = true then guardM (f (xs.map frzS)) else f xs) else M.fail
def ownsOf : List V → List SD → List Addr
  | .ref p :: vs, x :: xs => if isOwn x = true then p :: ownsOf vs xs else ownsOf vs xs
  | _ :: vs, _ :: xs => ownsOf vs xs
  | _, _ => []
def Wd.less (W : Wd) (l : List Addr) : Wd := ⟨W.S.filter fun b => decide (b ∉ l), W.src, W.tab⟩
section
variable {K : PySem.W.Frag} {W : Wd} {H H' : Hp}
theorem owns_src : ∀ {vs : List V} {xs : List SD}, Paired (RV K W H) vs xs → ∀ p ∈ ownsOf vs xs, p ∈ W.S ∧ ∀ l, W.src ≠ some (p, l)
  | _, _, .nil, p, h => by simp [ownsOf] at h
  | v :: vs, x :: xs, .cons r t, p, h => by
    have ih := owns_src t
    cases v with
    | ref q =>
      unfold ownsOf at h
      split at h
      · rename_i e
        rcases List.mem_cons.mp h with rfl | h
        · cases x with
          | own ds => obtain ⟨p', ys, e', m, ns, _⟩ := r; cases e'; exact ⟨m, ns⟩
          | ownD ds => obtain ⟨p', ys, e', m, ns, _⟩ := r; cases e'; exact ⟨m, ns⟩
          | mutD _ ds => obtain ⟨p', ys, e', m, ns, _⟩ := r; cases e'; exact ⟨m, ns⟩
          | ownL ds => obtain ⟨p', ys, e', m, ns, _⟩ := r; cases e'; exact ⟨m, ns⟩
          | _ => cases e
        · exact ih p h
      · exact ih p h
    | _ => exact ih p h
theorem Wd.Ok.less (ok : W.Ok H) {l : List Addr} (hl : ∀ p ∈ l, ∀ q, W.src ≠ some (p, q)) : (W.less l).Ok H := by
  refine ⟨fun b h => ok.there b (List.mem_filter.mp h).1, fun a q e => ?_, ok.tabs⟩
  obtain ⟨h1, h2, h3⟩ := ok.draw a q e
  refine ⟨List.mem_filter.mpr ⟨h1, decide_eq_true fun z => hl a z q e⟩, fun z => h2 (List.mem_filter.mp z).1, h3⟩
theorem less_stp {l : List Addr} : Stp W.S (W.less l).S H H := ⟨fun _ _ h _ _ => h, fun b h => .inl (List.mem_filter.mp h).1⟩
theorem frz_rv {l : List Addr} {v : V} : ∀ {x : SD}, RV K W H v x → (∀ p, v = .ref p → isOwn x = true → p ∈ l) → RV K (W.less l) H v (frzS x)
  | .no, _, _ => trivial
  | .d _, h, _ => Rp.step less_stp h
  | .src, h, _ => h
  | .ty _, h, _ => h
  | .x _, h, _ => RX.step less_stp h
  | .own ds, ⟨p, xs, e, m, ns, hp, t⟩, hl => by
    subst e
    exact Rp.lst ⟨hp, fun z => (of_decide_eq_true (List.mem_filter.mp z).2) (hl p rfl rfl)⟩ (RpAll.step less_stp t)
  | .ownL ds, ⟨p, xs, e, m, ns, hp, t⟩, hl => by
    subst e
    exact ⟨p, xs, rfl, ⟨hp, fun z => (of_decide_eq_true (List.mem_filter.mp z).2) (hl p rfl rfl)⟩, paired_mono (fun _ _ z => CloAt.step less_stp z) t⟩
  | .ownD ds, ⟨p, xs, e, m, ns, hp, t⟩, hl => by
    subst e
    exact Rp.dct (.inl hp) (fun z => (of_decide_eq_true (List.mem_filter.mp z).2) (hl p rfl rfl)) (pkv_kv (paired_mono (fun _ _ z => ⟨z.1, Rp.step less_stp z.2⟩) t))
  | .mutD _ ds, ⟨p, xs, e, m, ns, hp, t, _⟩, hl => by
    subst e
    exact Rp.dct (.inl hp) (fun z => (of_decide_eq_true (List.mem_filter.mp z).2) (hl p rfl rfl)) (pkv_kv (paired_mono (fun _ _ z => ⟨z.1, Rp.step less_stp z.2⟩) t))
theorem frz_all {l : List Addr} : ∀ {vs : List V} {xs : List SD}, Paired (RV K W H) vs xs → (∀ p ∈ ownsOf vs xs, p ∈ l) → Paired (RV K (W.less l) H) vs (xs.map frzS)
  | _, _, .nil, _ => .nil
  | v :: vs, x :: xs, .cons r t, h => by
    refine .cons (frz_rv r fun p e o => h p ?_) (frz_all t fun p hp => h p ?_)
    · subst e
      unfold ownsOf
      rw [if_pos o]
      exact List.mem_cons_self
    · cases v with
      | ref q =>
        unfold ownsOf
        split
        · exact List.mem_cons_of_mem _ hp
        · exact hp
      | _ => exact hp
theorem frz_own : ∀ (x : SD), isOwn (frzS x) = false
  | .no => rfl
  | .d _ => rfl
  | .src => rfl
  | .ty _ => rfl
  | .x _ => rfl
  | .own _ => rfl
  | .ownD _ => rfl
  | .mutD _ _ => rfl
  | .ownL _ => rfl
theorem Wd.Ok.more {l : List Addr} (ok : W.Ok H) (ok' : (W.less l).Ok H') (k : Kp W H H') (hl : ∀ p ∈ l, ∀ q, W.src ≠ some (p, q)) : W.Ok H' := by
  refine ⟨fun b h => ?_, fun a q e => ?_, ok'.tabs⟩
  · by_cases z : b ∈ l
    · obtain ⟨o, h1, h2⟩ := ok.there b h
      exact ⟨o, k b o h1 (hl b z) h2.2, h2⟩
    · exact ok'.there b (List.mem_filter.mpr ⟨h, decide_eq_true z⟩)
  · obtain ⟨h1, h2, h3⟩ := ok.draw a q e
    exact ⟨h1, h2, (ok'.draw a q e).2.2⟩
theorem call_sp {n : Nat} {f : List SD → M SD} {vs : List V} {xs : List SD} {Q : VK} {E : XK} (ok : W.Ok H) (r : Paired (RV K W H) vs xs) (tb : W.tab = theTab K) (h : (callM n f xs).run (Post K W H Q) (XP K W H E)) : spX K n f vs H Q E := by
  unfold callM at h
  split at h
  · rename_i hn
    split at h
    · have ho := owns_src r
      have hl : ∀ p ∈ ownsOf vs xs, ∀ q, W.src ≠ some (p, q) := fun p hp => (ho p hp).2
      refine ⟨W.less (ownsOf vs xs), xs.map frzS, ok.less hl, frz_all r fun _ h => h, fun x hx => ?_, by rw [List.length_map]; exact hn, M.mono _ (fun z q v H' k' ok' rv => ?_) (fun e q C dx H' fs hC k' ok' hn' hd ns rf => ?_) h, tb⟩
      · obtain ⟨y, _, rfl⟩ := List.mem_map.mp hx
        exact frz_own y
      · have k2 : Kp W H H' := k'
        refine q.2 v H' k2 (ok.more ok' k2 hl) ?_
        have nm := q.1
        cases z with
        | d x => exact Rp.noMut nm rv
        | ty n => exact rv
        | _ => cases nm
      · have k2 : Kp W H H' := k'
        refine q.2 C dx H' fs hC k2 (ok.more ok' k2 hl) hn' hd (fun z => ?_) ?_
        · obtain ⟨o, h1, _, t1⟩ := ok.there dx z
          exact hn' o h1 t1
        · have go : ∀ {fs : List (Str × V)} {gs : List (Str × PyData)}, (∀ p ∈ gs, noMut p.2 = true) → Paired (fun (a : Str × V) (b : Str × PyData) => a.1 = b.1 ∧ Rp K (W.less (ownsOf vs xs)).S H' a.2 b.2) fs gs → Paired (fun (a : Str × V) (b : Str × PyData) => a.1 = b.1 ∧ Rp K W.S H' a.2 b.2) fs gs := by
            intro fs gs hg t
            induction t with
            | nil => exact .nil
            | cons h t ih => exact .cons ⟨h.1, Rp.noMut (hg _ List.mem_cons_self) h.2⟩ (ih fun p hp => hg p (List.mem_cons_of_mem _ hp))
          exact go q.1 rf
    · rename_i ho
      refine ⟨W, xs, ok, r, fun x hx => ?_, hn, h, tb⟩
      cases e : isOwn x with
      | false => rfl
      | true => exact absurd (List.any_eq_true.mpr ⟨x, hx, e⟩) ho
  · exact h.elim
end
section
variable {X : Cx} {EX : L2.St → XK} {a b c e : Expr} {es rest : List Expr} {x : Str} {pos p p2 : Pos} {T Ta Tb Tc : List SD → M SD} {Ts : List SD → M (List SD)} {f : Addr} {fd : FuncData} {n k : Nat} {g : List SD → M SD} {ps : List Str}
theorem de_call (G : FnOk X.prog X.w X.K X.mg X.base (L2.CX X.prog X.w) k f fd ps (spX X.K n g)) (room : Room k X.A) (hg : Gl X x) (hm : X.mg x = some (.ref f)) (hk : PySem.W.keepIn X.K (.ref f) = true) (hb : L2.Binds X.K fd ps []) (hx : ∀ σ, PassesAt (L2.CX X.prog X.w) X σ (EX σ))
    (ha : DA X EX (e :: es) Ts) (hdb : (x == ("__debug__" : Str)) = false := by decide) (he : starEach (e :: es) X.env = (false, eval e X.env) :: starEach es X.env := by rfl) (hpl : (backTo pos (starEach es X.env)).any (·.1) = false := by rfl) :
    DE X EX (.Call (.Name x p) (e :: es) [] pos) (fun ρ => do let xs ← Ts ρ; callM n g xs) := by
  refine pe_imp (pe_callSD (dvs := []) (ds := []) G room hg hm hk hb .nil hx ha hdb he hpl) fun σ H Q ⟨W, ρ, ok, rel, h⟩ => ?_
  refine ⟨W, ρ, ok, rel, (Ts ρ).mono (fun xs h1 vs H1 k1 ok1 r1 => ?_) (fun e h => h) h⟩
  show spX X.K n g (vs ++ []) H1 Q (EX σ)
  rw [List.append_nil]
  exact call_sp ok1 r1 rel.tab (M.mono _ (fun z q => Post.trans k1 q) (fun e q => XP.trans ok k1 ok1 q) h1)
theorem FnOk.calm {P : Program} {w : World} {K : PySem.W.Frag} {mg : Str → Option Value} {base : Heap} (G : FnOk P w K mg base (L2.CX P w) k f fd ps (spX K n g)) : FnOk P w K mg base CX0 k f fd ps (spX K n fun xs => M.calm (g xs)) := by
  refine ⟨fun vs H Q E h => ?_, fun A outer s H args us vs Q E hr e0 hb hv hs => ?_⟩
  · obtain ⟨W, xs, ok, r, h1, h2, h3, tb⟩ := h
    exact G.len vs H Q E0 ⟨W, xs, ok, r, h1, h2, (g xs).mono (fun _ z => z) (fun _ z => z.elim) h3, tb⟩
  · obtain ⟨W, xs, ok, r, h1, h2, h3, tb⟩ := hs
    refine codeAny_mono (G.run A outer s H args us vs Q E0 hr e0 hb hv ⟨W, xs, ok, r, h1, h2, (g xs).mono (fun _ z => z) (fun _ z => z.elim) h3, tb⟩) fun r s' hq => ?_
    cases r with
    | ok fl => cases fl <;> exact hq
    | error e =>
      obtain ⟨_, _, _, _, _, _, _, _, _, _, _, _, z⟩ := hq
      exact z.elim
theorem de_calm (G : FnOk X.prog X.w X.K X.mg X.base (L2.CX X.prog X.w) k f fd ps (spX X.K n g)) (room : Room k X.A) (hg : Gl X x) (hm : X.mg x = some (.ref f)) (hk : PySem.W.keepIn X.K (.ref f) = true) (hb : L2.Binds X.K fd ps [])
    (ha : DA X (fun _ => E0) (e :: es) Ts) (hdb : (x == ("__debug__" : Str)) = false := by decide) (he : starEach (e :: es) X.env = (false, eval e X.env) :: starEach es X.env := by rfl) (hpl : (backTo pos (starEach es X.env)).any (·.1) = false := by rfl) :
    DE X (fun _ => E0) (.Call (.Name x p) (e :: es) [] pos) (fun ρ => do let xs ← Ts ρ; callM n (fun xs => M.calm (g xs)) xs) := by
  refine pe_imp (pe_call (dvs := []) (ds := []) (FnOk.calm G) room hg hm hk hb .nil pass0 ha hdb he hpl) fun σ H Q ⟨W, ρ, ok, rel, h⟩ => ?_
  refine ⟨W, ρ, ok, rel, (Ts ρ).mono (fun xs h1 vs H1 k1 ok1 r1 => ?_) (fun e h => h) h⟩
  show spX X.K n (fun xs => M.calm (g xs)) (vs ++ []) H1 Q E0
  rw [List.append_nil]
  exact call_sp ok1 r1 rel.tab (M.mono _ (fun z q => Post.trans k1 q) (fun e q => XP.trans ok k1 ok1 q) h1)
end
end Dd
namespace Dd
open PySem PySem.Spec PyProof.Rows L2
inductive Out where
  | nx (ρ : List SD)
  | rt (x : SD)
  | bk (ρ : List SD)
  | ct (ρ : List SD)
structure SSt (K : PySem.W.Frag) (W0 : Wd) (H0 : Hp) (W : Wd) (H : Hp) (σ : L2.St) (ρ : List SD) : Prop where
  ok : W.Ok H
  rel : Rel K W H σ ρ
  src : W.src = W0.src
  sub : ∀ b ∈ W0.S, b ∈ W.S
  frm : Kp W0 H0 H
  mine : ∀ b ∈ W.S, b ∈ W0.S ∨ Fr0 H0 b
  own : ∀ (i : Nat) (x : SD) (p : Addr), ρ[i]? = some x → isOwn x = true → σ[i]? = some (some (.ref p)) → Fr0 H0 p
  ok0 : W0.Ok H0
  tab : W.tab = W0.tab
def SXP (K : PySem.W.Frag) (W0 : Wd) (H0 : Hp) (E : XK) (e : Exn) : Prop := XP K W0 H0 E e
def OutP (K : PySem.W.Frag) (W0 : Wd) (H0 : Hp) (W : Wd) (H : Hp) (D : Ends) : Out → Prop
  | .nx ρ => ∀ W' σ' H', Stp W.S W'.S H H' → SSt K W0 H0 W' H' σ' ρ → D.nx σ' H'
  | .bk ρ => ∀ W' σ' H', Stp W.S W'.S H H' → SSt K W0 H0 W' H' σ' ρ → D.bk σ' H'
  | .ct ρ => ∀ W' σ' H', Stp W.S W'.S H H' → SSt K W0 H0 W' H' σ' ρ → D.ct σ' H'
  | .rt x => ∀ v H', Kp W0 H0 H' → W0.Ok H' → RV K W0 H' v x → D.rt v H'
def ds (K : PySem.W.Frag) (E : XK) (T : List SD → M Out) : TS := fun D σ H => ∃ W0 H0 W ρ, SSt K W0 H0 W H σ ρ ∧ (T ρ).run (OutP K W0 H0 W H D) (XP K W0 H0 E)
abbrev DS (X : Cx) (E : XK) (st : Stmt) (T : List SD → M Out) : Prop := PS X st (ds X.K E T)
abbrev DSs (X : Cx) (E : XK) (st : List Stmt) (T : List SD → M Out) : Prop := PSs X st (ds X.K E T)
theorem ps_imp {X : Cx} {e : Stmt} {t t' : TS} (h : PS X e t) (i : ∀ D σ H, t' D σ H → t D σ H) : PS X e t' := ⟨fun pins s σ H Q J q => h.run pins s σ H Q J (i Q σ H q)⟩
theorem pss_imp {X : Cx} {e : List Stmt} {t t' : TS} (h : PSs X e t) (i : ∀ D σ H, t' D σ H → t D σ H) : PSs X e t' := ⟨fun pins s σ H Q J q => h.run pins s σ H Q J (i Q σ H q)⟩
section
variable {K : PySem.W.Frag} {W0 W : Wd} {H0 H H' : Hp} {σ : L2.St} {ρ : List SD}
theorem Stp.refl (S : List Addr) (H : Hp) : Stp S S H H := ⟨fun _ _ h _ _ => h, fun _ h => .inl h⟩
theorem Stp.trans {S S1 S2 : List Addr} {H H1 H2 : Hp} (a : Stp S S1 H H1) (b : Stp S1 S2 H1 H2) : Stp S S2 H H2 := by
  refine ⟨fun c o h t n => ?_, fun c h => ?_⟩
  · refine b.keep c o (a.keep c o h t n) t ?_
    rcases n with n | n
    · refine .inl fun z => ?_
      rcases a.news c z with q | q
      · exact n q
      · exact q o h t
    · exact .inr n
  · rcases b.news c h with q | q
    · exact a.news c q
    · by_cases z : c ∈ S
      · exact .inl z
      · exact .inr fun o e t => q o (a.keep c o e t (.inl z)) t
theorem Kp.to (s : SSt K W0 H0 W H σ ρ) (k : Kp W H H') : Kp W0 H H' := fun b o h n t => k b o h (by rw [s.src]; exact n) t
theorem SSt.ok0' (s : SSt K W0 H0 W H σ ρ) (ok : W.Ok H') : W0.Ok H' := by
  refine ⟨fun b h => ok.there b (s.sub b h), fun a l e => ?_, s.tab ▸ ok.tabs⟩
  have q := ok.draw a l (by rw [s.src]; exact e)
  exact ⟨(s.ok0.draw a l e).1, (s.ok0.draw a l e).2.1, q.2.2⟩
theorem SSt.back (s : SSt K W0 H0 W H σ ρ) (H' : Hp) : Stp W.S W0.S H' H' := ⟨fun _ _ h _ _ => h, fun b h => .inl (s.sub b h)⟩
theorem SSt.xp (s : SSt K W0 H0 W H σ ρ) {E : XK} {e : Exn} (h : XP K W0 H0 E e) : XP K W H E e := fun C dx H' fs hC k ok n hd ns r => by
  refine h C dx H' fs hC (s.frm.trans (Kp.to s k)) (s.ok0' ok) (s.frm.free s.ok0 n (s.ok0' s.ok)) hd (fun z => ns (s.sub dx z)) (paired_mono (fun _ _ z => ⟨z.1, Rp.step (s.back H') z.2⟩) r)
theorem SSt.keep (s : SSt K W0 H0 W H σ ρ) (k : Kp W H H') (ok : W.Ok H') : SSt K W0 H0 W H' σ ρ :=
  ⟨ok, s.rel.keep s.ok k, s.src, s.sub, s.frm.trans (Kp.to s k), s.mine, s.own, s.ok0, s.tab⟩
theorem RV.back (s : SSt K W0 H0 W H σ ρ) {H' : Hp} {v : V} : ∀ {x : SD}, isOwn x = false → RV K W H' v x → RV K W0 H' v x
  | .no, _, _ => trivial
  | .d _, _, h => Rp.step (s.back H') h
  | .src, _, ⟨a, l, e, q⟩ => ⟨a, l, by rw [← s.src]; exact e, q⟩
  | .ty _, _, h => h
  | .x _, _, h => RX.step (s.back H') h
theorem Rel.set (r : Rel K W H σ ρ) {i : Nat} {v : V} {x : SD} (h : RV K W H v x) (no : isOwn x = false) : Rel K W H (σ.set i (some v)) (ρ.set i x) := by
  refine ⟨by rw [List.length_set, List.length_set, r.len], fun j y e n => ?_, fun j k y z p ne e1 e2 o1 o2 s1 => ?_, r.tab⟩
  · by_cases z : i = j
    · subst z
      have lt : i < ρ.length := by
        have := (List.getElem?_eq_some_iff.mp e).1
        rwa [List.length_set] at this
      rw [List.getElem?_set_self lt] at e
      cases e
      exact ⟨v, List.getElem?_set_self (by rw [r.len]; exact lt), h⟩
    · rw [List.getElem?_set_ne z] at e ⊢
      exact r.get j y e n
  · have ne1 : i ≠ j := fun z => by
      subst z
      have lt : i < ρ.length := by
        have := (List.getElem?_eq_some_iff.mp e1).1
        rwa [List.length_set] at this
      rw [List.getElem?_set_self lt] at e1
      cases e1
      rw [no] at o1; cases o1
    have ne2 : i ≠ k := fun z => by
      subst z
      have lt : i < ρ.length := by
        have := (List.getElem?_eq_some_iff.mp e2).1
        rwa [List.length_set] at this
      rw [List.getElem?_set_self lt] at e2
      cases e2
      rw [no] at o2; cases o2
    rw [List.getElem?_set_ne ne1] at e1 s1
    rw [List.getElem?_set_ne ne2] at e2 ⊢
    exact r.sep j k y z p ne e1 e2 o1 o2 s1
theorem SSt.set (s : SSt K W0 H0 W H σ ρ) {i : Nat} {v : V} {x : SD} (h : RV K W H v x) (no : isOwn x = false) : SSt K W0 H0 W H (σ.set i (some v)) (ρ.set i x) := by
  refine ⟨s.ok, s.rel.set h no, s.src, s.sub, s.frm, s.mine, fun j y p e o q => ?_, s.ok0, s.tab⟩
  have ne : i ≠ j := fun z => by
    subst z
    have lt : i < ρ.length := by
      have := (List.getElem?_eq_some_iff.mp e).1
      rwa [List.length_set] at this
    rw [List.getElem?_set_self lt] at e
    cases e
    rw [no] at o; cases o
  rw [List.getElem?_set_ne ne] at e q
  exact s.own j y p e o q
end
def plain (x : SD) : Option SD := if isOwn x = true then none else some x
theorem plain_eq {x y : SD} (h : plain x = some y) : x = y ∧ isOwn x = false := by
  unfold plain at h
  split at h
  · cases h
  · rename_i e
    cases h
    exact ⟨rfl, by simpa using e⟩
def seqM (m : M Out) (f : List SD → M Out) : M Out := do
  match ← m with
  | .nx ρ => f ρ
  | o => pure o
section
variable {X : Cx} {E : XK} {st : Stmt} {sts a b : List Stmt} {e c : Expr} {es : List Expr} {x : Str} {pos p p2 : Pos} {T : List SD → M SD} {Ts : List SD → M (List SD)} {B : List SD → M Bool} {U U1 U2 : List SD → M Out}
theorem dss_nil : DSs X E [] (fun ρ => pure (.nx ρ)) := pss_imp pss_nil fun D σ H ⟨W0, H0, W, ρ, s, h⟩ => h W σ H (Stp.refl _ _) s
theorem dss_cons (h1 : DS X E st U1) (h2 : DSs X E sts U2) : DSs X E (st :: sts) (fun ρ => seqM (U1 ρ) U2) := by
  refine pss_imp (pss_cons h1 h2) fun D σ H ⟨W0, H0, W, ρ, s, h⟩ => ?_
  refine ⟨W0, H0, W, ρ, s, (U1 ρ).mono (fun o q => ?_) (fun _ h => h) h⟩
  cases o with
  | nx ρ' =>
    intro W' σ' H' st' s'
    refine ⟨W0, H0, W', ρ', s', (U2 ρ').mono (fun o q => ?_) (fun _ h => h) q⟩
    cases o with
    | nx ρ2 => exact fun W2 σ2 H2 st2 s2 => q W2 σ2 H2 (st'.trans st2) s2
    | bk ρ2 => exact fun W2 σ2 H2 st2 s2 => q W2 σ2 H2 (st'.trans st2) s2
    | ct ρ2 => exact fun W2 σ2 H2 st2 s2 => q W2 σ2 H2 (st'.trans st2) s2
    | rt y => exact q
  | bk ρ' => exact q
  | ct ρ' => exact q
  | rt y => exact q
theorem dss_one (h1 : DS X E st U1) : DSs X E [st] U1 := pss_one h1
theorem ex_run {W0 W : Wd} {H0 H : Hp} {σ : L2.St} {ρ : List SD} (s : SSt X.K W0 H0 W H σ ρ) {P : SD → Prop} {Q : VK} (h : (T ρ).run P (XP X.K W0 H0 E)) (i : ∀ x, P x → ∀ v H', Kp W H H' → W.Ok H' → RV X.K W H' v x → Q v H') : dt X.K (fun _ => E) T σ H Q :=
  ⟨W, ρ, s.ok, s.rel, (T ρ).mono (fun x q v H' k ok r => i x q v H' k ok r) (fun _ q => s.xp q) h⟩
theorem ds_ret (h : DE X (fun _ => E) e T) : DS X E (.Return (some e) pos) (fun ρ => do let x ← T ρ; let y ← M.lift (plain x); pure (.rt y)) := by
  refine ps_imp (ps_ret h) fun D σ H ⟨W0, H0, W, ρ, s, h⟩ => ?_
  refine ex_run s h fun x q v H' k ok r => ?_
  obtain ⟨y, hy, q⟩ := run_lift.mp q
  obtain ⟨rfl, no⟩ := plain_eq hy
  have s' := s.keep k ok
  exact q v H' s'.frm (s'.ok0' ok) (RV.back s' no r)
theorem ds_retO (i : Nat) (h : PE X e (tVar i)) : DS X E (.Return (some e) pos) (fun ρ => do let x ← M.lift (getS ρ i); pure (.rt (frzS x))) := by
  refine ps_imp (ps_ret h) fun D σ H ⟨W0, H0, W, ρ, s, h⟩ => ?_
  obtain ⟨x, hx, q⟩ := run_lift.mp h
  obtain ⟨h1, h2⟩ := getS_eq hx
  obtain ⟨v, h3, h4⟩ := s.rel.get i x h1 h2
  refine ⟨v, h3, q v H s.frm (s.ok0' s.ok) ?_⟩
  cases x with
  | own ds =>
    obtain ⟨p, xs, rfl, m, ns, hp, t⟩ := h4
    exact Rp.lst ⟨hp, s.ok0.notinF (s.own i _ p h1 rfl h3)⟩ (RpAll.step (s.back H) t)
  | ownL ds =>
    obtain ⟨p, xs, rfl, m, ns, hp, t⟩ := h4
    exact ⟨p, xs, rfl, ⟨hp, s.ok0.notinF (s.own i _ p h1 rfl h3)⟩, paired_mono (fun _ _ z => CloAt.step (s.back H) z) t⟩
  | ownD ds =>
    obtain ⟨p, xs, rfl, m, ns, hp, t⟩ := h4
    exact Rp.dct (.inl hp) (s.ok0.notinF (s.own i _ p h1 rfl h3)) (pkv_kv (paired_mono (fun _ _ z => ⟨z.1, Rp.step (s.back H) z.2⟩) t))
  | mutD _ ds =>
    obtain ⟨p, xs, rfl, m, ns, hp, t, _⟩ := h4
    exact Rp.dct (.inl hp) (s.ok0.notinF (s.own i _ p h1 rfl h3)) (pkv_kv (paired_mono (fun _ _ z => ⟨z.1, Rp.step (s.back H) z.2⟩) t))
  | no => exact absurd rfl h2
  | d x => exact RV.back s (x := .d x) rfl h4
  | src => exact RV.back s (x := .src) rfl h4
  | ty n => exact RV.back s (x := .ty n) rfl h4
  | x e => exact RV.back s (x := .x e) rfl h4
theorem ds_if (hc : DT X (fun _ => E) c B) (ha : DSs X E a U1) (hb : DSs X E b U2) : DS X E (.If c a b pos) (fun ρ => do if ← B ρ then U1 ρ else U2 ρ) := by
  refine ps_imp (ps_if hc ha hb) fun D σ H ⟨W0, H0, W, ρ, s, h⟩ => ?_
  refine ⟨W, ρ, s.ok, s.rel, (B ρ).mono (fun x q H' k ok => ?_) (fun _ q => s.xp q) h⟩
  have st := k.stp s.ok
  have go : ∀ {U : List SD → M Out}, (U ρ).run (OutP X.K W0 H0 W H D) (XP X.K W0 H0 E) → ds X.K E U D σ H' := fun {U} q => by
    refine ⟨W0, H0, W, ρ, s.keep k ok, (U ρ).mono (fun o q => ?_) (fun _ h => h) q⟩
    cases o with
    | nx ρ2 => exact fun W2 σ2 H2 st2 s2 => q W2 σ2 H2 (st.trans st2) s2
    | bk ρ2 => exact fun W2 σ2 H2 st2 s2 => q W2 σ2 H2 (st.trans st2) s2
    | ct ρ2 => exact fun W2 σ2 H2 st2 s2 => q W2 σ2 H2 (st.trans st2) s2
    | rt y => exact q
  cases x with
  | true => exact go q
  | false => exact go q
theorem ds_set {i : Nat} {pos' : Pos} (hN : X.N.Nodup) (hi : X.N[i]? = some x) (hx : Loc X.env.scope x) (he : DE X (fun _ => E) e T) (hs : swapsWith e (some (.Name x pos')) pos.line X.env = pure false := by rfl)
    (hf : X.fn x = true ∨ X.env.scope.names.lookup x = some .local := by first | exact .inl rfl | exact .inr rfl | assumption) : DS X E (.Assign [.Name x pos'] e pos) (fun ρ => do let v ← T ρ; let y ← M.lift (plain v); pure (.nx (ρ.set i y))) := by
  refine ps_imp (ps_set hN hi hx he hs hf) fun D σ H ⟨W0, H0, W, ρ, s, h⟩ => ?_
  refine ex_run s h fun x q v H' k ok r => ?_
  obtain ⟨y, hy, q⟩ := run_lift.mp q
  obtain ⟨rfl, no⟩ := plain_eq hy
  exact q W _ H' (k.stp s.ok) ((s.keep k ok).set r no)
end
end Dd
namespace Dd
open PySem PySem.Spec PyProof.Rows L2
section
variable {K : PySem.W.Frag} {W0 W : Wd} {H0 H H' H2 : Hp} {σ : L2.St} {ρ : List SD} {p : Addr} {i : Nat}
def bigI (i : Int) : Bool := Nat.blt i.natAbs (2 ^ 62)
theorem bigI.nat {i : Int} (h : bigI i = true) : i.natAbs < 2 ^ 62 := by
  unfold bigI at h
  exact Nat.le_of_ble_eq_true h
theorem bigI.lo {i : Int} (h : bigI i = true) : -(2 ^ 62) ≤ i := by have := bigI.nat h; omega
theorem bigI.hi {i : Int} (h : bigI i = true) : i < 2 ^ 62 := by have := bigI.nat h; omega
def Wd.add (W : Wd) (p : Addr) : Wd := ⟨p :: W.S, W.src, W.tab⟩
theorem add_stp (ok : W.Ok H) (k : Kp W H H2) (hp : H p = none) : Stp W.S (W.add p).S H H2 := by
  refine ⟨(k.stp ok).keep, fun b h => ?_⟩
  rcases List.mem_cons.mp h with rfl | h
  · exact .inr (Fr0.of hp)
  · exact .inl h
theorem lt_set {α : Type} {l : List α} {i : Nat} {x y : α} (h : (l.set i x)[i]? = some y) : i < l.length := by
  have := (List.getElem?_eq_some_iff.mp h).1
  rwa [List.length_set] at this
theorem RV.add (ok : W.Ok H) (k : Kp W H H2) (hp : H p = none) {v : V} : ∀ {x : SD}, RV K W H v x → RV K (W.add p) H2 v x
  | .no, _ => trivial
  | .d _, h => Rp.step (add_stp ok k hp) h
  | .src, h => h
  | .ty _, h => h
  | .x _, h => RX.step (add_stp ok k hp) h
  | .own _, ⟨q, xs, e, m, ns, hq, r⟩ => ⟨q, xs, e, List.mem_cons_of_mem _ m, ns, k _ _ hq ns nt_lst, RpAll.step (add_stp ok k hp) r⟩
  | .ownL _, ⟨q, xs, e, m, ns, hq, r⟩ => ⟨q, xs, e, List.mem_cons_of_mem _ m, ns, k _ _ hq ns nt_lst, paired_mono (fun _ _ z => CloAt.step (add_stp ok k hp) z) r⟩
  | .ownD _, ⟨q, xs, e, m, ns, hq, r⟩ => ⟨q, xs, e, List.mem_cons_of_mem _ m, ns, k _ _ hq ns nt_dK, paired_mono (fun _ _ z => ⟨z.1, Rp.step (add_stp ok k hp) z.2⟩) r⟩
  | .mutD _ _, ⟨q, xs, e, m, ns, hq, r, eq⟩ => ⟨q, xs, e, List.mem_cons_of_mem _ m, ns, k _ _ hq ns nt_dK, paired_mono (fun _ _ z => ⟨z.1, Rp.step (add_stp ok k hp) z.2⟩) r, eq⟩
theorem own_there {v : V} {x : SD} (r : RV K W H v x) (o : isOwn x = true) : ∃ q u, v = .ref q ∧ H q = some u ∧ q ∈ W.S ∧ (∀ l, W.src ≠ some (q, l)) ∧ NT u ∧ ∀ f, u ≠ .ext f := by
  cases x with
  | own ds => obtain ⟨q, xs, e, m, ns, hq, _⟩ := r; exact ⟨q, _, e, hq, m, ns, nt_lst, (fun f z => nomatch z)⟩
  | ownL ds => obtain ⟨q, xs, e, m, ns, hq, _⟩ := r; exact ⟨q, _, e, hq, m, ns, nt_lst, (fun f z => nomatch z)⟩
  | ownD ds => obtain ⟨q, xs, e, m, ns, hq, _⟩ := r; exact ⟨q, _, e, hq, m, ns, nt_dK, (fun f z => nomatch z)⟩
  | mutD _ ds => obtain ⟨q, xs, e, m, ns, hq, _⟩ := r; exact ⟨q, _, e, hq, m, ns, nt_dK, (fun f z => nomatch z)⟩
  | _ => cases o
theorem own_ne {x : SD} (o : isOwn x = true) : x ≠ .no := by rintro rfl; cases o
theorem tabs_upd {T : List (Addr × Str)} {u o : HO} (t : LamX.Tabs T H) (hp : H p = some u) (n1 : NT u) (n2 : ∀ f, u ≠ .ext f) : LamX.Tabs T (upd H p o) := fun q hq => by
  obtain ⟨ps, h1, h2, h3⟩ := t q hq
  have e1 : q.1 ≠ p := fun z => by
    rw [z, hp] at h1
    exact n1 ps (Option.some.inj h1)
  refine ⟨ps, by rw [upd_ne e1]; exact h1, h2, fun pos cv hc => ?_⟩
  obtain ⟨c, e2, e3⟩ := h3 pos cv hc
  have e4 : c ≠ p := fun z => by
    rw [z, hp] at e3
    exact n2 _ (Option.some.inj e3)
  exact ⟨c, e2, by rw [upd_ne e4]; exact e3⟩
theorem tabs_but {T : List (Addr × Str)} {u : HO} (t : LamX.Tabs T H) (hp : H p = some u) (n1 : NT u) (n2 : ∀ f, u ≠ .ext f) (B : ∀ b, b ≠ p → H2 b = H b) : LamX.Tabs T H2 := fun q hq => by
  obtain ⟨ps, h1, h2, h3⟩ := t q hq
  have e1 : q.1 ≠ p := fun z => by
    rw [z, hp] at h1
    exact n1 ps (Option.some.inj h1)
  refine ⟨ps, by rw [B _ e1]; exact h1, h2, fun pos cv hc => ?_⟩
  obtain ⟨c, e2, e3⟩ := h3 pos cv hc
  have e4 : c ≠ p := fun z => by
    rw [z, hp] at e3
    exact n2 _ (Option.some.inj e3)
  exact ⟨c, e2, by rw [B _ e4]; exact e3⟩
theorem SSt.new (s : SSt K W0 H0 W H σ ρ) (k : Kp W H H2) (hp : H p = none) (ok2 : (W.add p).Ok H2) {x : SD} (ox : isOwn x = true) (r : RV K (W.add p) H2 (.ref p) x) : SSt K W0 H0 (W.add p) H2 (σ.set i (some (.ref p))) (ρ.set i x) := by
  have p0 : Fr0 H0 p := s.frm.free s.ok0 (Fr0.of hp) (s.ok0' s.ok)
  have apart : ∀ (j : Nat) (y : SD), ρ[j]? = some y → isOwn y = true → σ[j]? ≠ some (some (.ref p)) := fun j y e o z => by
    obtain ⟨v, h1, h2⟩ := s.rel.get j y e (own_ne o)
    obtain ⟨q, u, e1, e2, _⟩ := own_there h2 o
    rw [h1] at z
    cases z
    cases e1
    rw [hp] at e2; cases e2
  refine ⟨ok2, ⟨by rw [List.length_set, List.length_set, s.rel.len], fun j y e n => ?_, fun j l y z q ne e1 e2 o1 o2 q1 => ?_, s.rel.tab⟩, s.src, fun b h => List.mem_cons_of_mem _ (s.sub b h), s.frm.trans (Kp.to s k), fun b h => ?_, fun j y q e o e1 => ?_, s.ok0, s.tab⟩
  · by_cases z : i = j
    · subst z
      have lt := lt_set e
      rw [List.getElem?_set_self lt] at e
      cases e
      exact ⟨.ref p, List.getElem?_set_self (by rw [s.rel.len]; exact lt), r⟩
    · rw [List.getElem?_set_ne z] at e ⊢
      obtain ⟨v, h1, h2⟩ := s.rel.get j y e n
      exact ⟨v, h1, RV.add s.ok k hp h2⟩
  · by_cases z1 : i = j
    · subst z1
      rw [List.getElem?_set_ne ne] at e2 ⊢
      have lt : i < σ.length := by rw [s.rel.len]; exact lt_set e1
      rw [List.getElem?_set_self lt] at q1
      cases q1
      exact apart l z e2 o2
    · rw [List.getElem?_set_ne z1] at e1 q1
      by_cases z2 : i = l
      · subst z2
        have lt : i < σ.length := by rw [s.rel.len]; exact lt_set e2
        rw [List.getElem?_set_self lt]
        intro z
        cases z
        exact apart j y e1 o1 q1
      · rw [List.getElem?_set_ne z2] at e2 ⊢
        exact s.rel.sep j l y z q ne e1 e2 o1 o2 q1
  · rcases List.mem_cons.mp h with rfl | h
    · exact .inr p0
    · exact s.mine b h
  · by_cases z : i = j
    · subst z
      have lt : i < σ.length := by rw [s.rel.len]; exact lt_set e
      rw [List.getElem?_set_self lt] at e1
      cases e1
      exact p0
    · rw [List.getElem?_set_ne z] at e e1
      exact s.own j y q e o e1
theorem add_ok (ok : W.Ok H) (hp : H p = none) {o : HO} (nf : ¬ Fix o ∧ NT o) : (W.add p).Ok (upd H p o) := by
  have sm := Dw.same_new (o := o) hp
  refine ⟨fun b h => ?_, fun a l e => ?_, fun q hq => (ok.tabs q hq).ext sm⟩
  · rcases List.mem_cons.mp h with rfl | h
    · exact ⟨o, upd_same, nf⟩
    · obtain ⟨u, e, n⟩ := ok.there b h
      exact ⟨u, sm _ _ e, n⟩
  · obtain ⟨h1, h2, h3⟩ := ok.draw a l e
    refine ⟨List.mem_cons_of_mem _ h1, fun z => ?_, Src.same sm h3⟩
    rcases List.mem_cons.mp z with rfl | z
    · obtain ⟨ms, i, r, sd, S⟩ := h3
      rw [S.cells] at hp; cases hp
    · exact h2 z
theorem SSt.mut (s : SSt K W0 H0 W H σ ρ) {y x : SD} {o : HO} (e : ρ[i]? = some y) (oy : isOwn y = true) (es : σ[i]? = some (some (.ref p))) (nf : ¬ Fix o ∧ NT o) (ox : isOwn x = true)
    (r : Stp W.S W.S H (upd H p o) → p ∈ W.S → (∀ l, W.src ≠ some (p, l)) → RV K W (upd H p o) (.ref p) x) : Stp W.S W.S H (upd H p o) ∧ SSt K W0 H0 W (upd H p o) σ (ρ.set i x) := by
  obtain ⟨v, h1, h2⟩ := s.rel.get i y e (own_ne oy)
  rw [es] at h1
  cases h1
  obtain ⟨q, u, e1, e2, mem, ns, nt1, nx1⟩ := own_there h2 oy
  cases e1
  have p0 := s.own i y p e oy es
  have ne : ∀ b o', H b = some o' → b ∉ W.S ∨ Fix o' → b ≠ p := fun b o' hb c z => by
    subst z
    rcases c with c | c
    · exact c mem
    · obtain ⟨o2, e3, nf2, _⟩ := s.ok.there b mem
      rw [hb] at e3; cases e3
      exact nf2 c
  have st : Stp W.S W.S H (upd H p o) := ⟨fun b o' hb _ c => by rw [upd_ne (ne b o' hb c)]; exact hb, fun b h => .inl h⟩
  have rp := r st mem ns
  have lt : i < ρ.length := (List.getElem?_eq_some_iff.mp e).1
  refine ⟨st, ⟨fun b h => ?_, fun a l e' => ?_, tabs_upd s.ok.tabs e2 nt1 nx1⟩, ⟨by rw [List.length_set]; exact s.rel.len, fun j z ej n => ?_, fun j l z z' q' ne' f1 f2 o1 o2 q1 => ?_, s.rel.tab⟩, s.src, s.sub, fun b o' hb n t => ?_, s.mine, fun j z q' ej oz eq => ?_, s.ok0, s.tab⟩
  · by_cases z : b = p
    · subst z; exact ⟨o, upd_same, nf⟩
    · rw [upd_ne z]; exact s.ok.there b h
  · obtain ⟨g1, g2, g3⟩ := s.ok.draw a l e'
    exact ⟨g1, g2, Dw.Src.put g3 (fun z => ns l (by rw [z]; exact e')) (fun z => g2 (by rw [← z]; exact mem))⟩
  · by_cases z' : i = j
    · subst z'
      rw [List.getElem?_set_self lt] at ej
      cases ej
      exact ⟨_, es, rp⟩
    · rw [List.getElem?_set_ne z'] at ej
      obtain ⟨v, g1, g2⟩ := s.rel.get j z ej n
      refine ⟨v, g1, ?_⟩
      cases z with
      | no => trivial
      | d x => exact Rp.step st g2
      | src => exact g2
      | ty n => exact g2
      | x e => exact RX.step st g2
      | own ds =>
        obtain ⟨q2, xs, rfl, m2, ns2, hq2, t2⟩ := g2
        have nq : q2 ≠ p := fun z => by subst z; exact s.rel.sep i j y _ q2 z' e ej oy rfl es g1
        exact ⟨q2, xs, rfl, m2, ns2, by rw [upd_ne nq]; exact hq2, RpAll.step st t2⟩
      | ownL ds =>
        obtain ⟨q2, xs, rfl, m2, ns2, hq2, t2⟩ := g2
        have nq : q2 ≠ p := fun z => by subst z; exact s.rel.sep i j y _ q2 z' e ej oy rfl es g1
        exact ⟨q2, xs, rfl, m2, ns2, by rw [upd_ne nq]; exact hq2, paired_mono (fun _ _ z => CloAt.step st z) t2⟩
      | ownD ds =>
        obtain ⟨q2, xs, rfl, m2, ns2, hq2, t2⟩ := g2
        have nq : q2 ≠ p := fun z => by subst z; exact s.rel.sep i j y _ q2 z' e ej oy rfl es g1
        exact ⟨q2, xs, rfl, m2, ns2, by rw [upd_ne nq]; exact hq2, paired_mono (fun _ _ z => ⟨z.1, Rp.step st z.2⟩) t2⟩
      | mutD _ ds =>
        obtain ⟨q2, xs, rfl, m2, ns2, hq2, t2, e2⟩ := g2
        have nq : q2 ≠ p := fun z => by subst z; exact s.rel.sep i j y _ q2 z' e ej oy rfl es g1
        exact ⟨q2, xs, rfl, m2, ns2, by rw [upd_ne nq]; exact hq2, paired_mono (fun _ _ z => ⟨z.1, Rp.step st z.2⟩) t2, e2⟩
  · have back : ∀ (j : Nat) (z : SD), (ρ.set i x)[j]? = some z → isOwn z = true → ∃ z0, ρ[j]? = some z0 ∧ isOwn z0 = true := fun j z ej oz => by
      by_cases zj : i = j
      · subst zj; exact ⟨y, e, oy⟩
      · rw [List.getElem?_set_ne zj] at ej; exact ⟨z, ej, oz⟩
    obtain ⟨z1, g1, g2⟩ := back j z f1 o1
    obtain ⟨z2, g3, g4⟩ := back l z' f2 o2
    exact s.rel.sep j l z1 z2 q' ne' g1 g3 g2 g4 q1
  · have nb : b ≠ p := fun z => by subst z; exact p0 o' hb t
    rw [upd_ne nb]
    exact s.frm b o' hb n t
  · by_cases zj : i = j
    · subst zj; rw [es] at eq; cases eq; exact p0
    · rw [List.getElem?_set_ne zj] at ej; exact s.own j z q' ej oz eq
end
section
variable {X : Cx} {E : XK} {st : Stmt} {sts a b : List Stmt} {e e2 c o : Expr} {es : List Expr} {x : Str} {pos p p2 apos cpos : Pos} {T T2 : List SD → M SD} {Ts : List SD → M (List SD)} {B : List SD → M Bool} {U U1 U2 : List SD → M Out}
theorem ds_setL {i : Nat} {pos' : Pos} (hN : X.N.Nodup) (hi : X.N[i]? = some x) (hx : Loc X.env.scope x) (he : DA X (fun _ => E) es Ts) (hs : swapsWith (.List es p) (some (.Name x pos')) pos.line X.env = pure false := by rfl)
    (hf : X.fn x = true ∨ X.env.scope.names.lookup x = some .local := by first | exact .inl rfl | exact .inr rfl | assumption) : DS X E (.Assign [.Name x pos'] (.List es p) pos) (fun ρ => do let vs ← Ts ρ; let ds ← M.lift (allD vs); M.when (szOk ds.length) (pure (.nx (ρ.set i (.own ds))))) := by
  refine ps_imp (ps_set hN hi hx (pe_lst he) hs hf) fun D σ H ⟨W0, H0, W, ρ, s, h⟩ => ?_
  refine ⟨W, ρ, s.ok, s.rel, (Ts ρ).mono (fun xs q vs H' k ok r => ?_) (fun _ q => s.xp q) h⟩
  obtain ⟨ds, hd, q⟩ := run_lift.mp q
  have t := allD_rp r hd
  obtain ⟨sz, q⟩ := run_when.mp q
  refine ⟨by rw [t.length]; exact szOk.le sz, fun p hp => ?_⟩
  have s' := s.keep k ok
  have sm := Dw.same_new (o := .lst vs) hp
  have k2 : Kp W H' (upd H' p (.lst vs)) := Kp.same sm
  refine q (W.add p) _ _ ((k.stp s.ok).trans (add_stp ok k2 hp)) (s'.new k2 hp (add_ok ok hp ⟨(fun z => z), nt_lst⟩) rfl ⟨p, vs, rfl, List.mem_cons_self, fun l z => ?_, upd_same, RpAll.step (add_stp ok k2 hp) t⟩)
  obtain ⟨o, e, _⟩ := ok.there p (ok.draw p l z).1
  rw [hp] at e; cases e
def asDict : SD → Option (List (Key × PyData))
  | .d (.dict ds) => ds.mapM fun p => (keyOf p.1).map fun k => (k, p.2)
  | .ownD ds => some ds
  | _ => none
def ownL (ρ : List SD) (i : Nat) : Option (List PyData) := match getS ρ i with
  | some (.own ds) => some ds
  | _ => none
def ownK (ρ : List SD) (i : Nat) : Option (List (Key × PyData)) := match getS ρ i with
  | some (.ownD ds) => some ds
  | _ => none
theorem ownL_eq {ρ : List SD} {i : Nat} {ds : List PyData} (h : ownL ρ i = some ds) : ρ[i]? = some (.own ds) := by
  unfold ownL at h
  split at h
  · rename_i e
    cases h
    exact (getS_eq e).1
  · cases h
def asD : SD → Option PyData
  | .d x => some x
  | _ => none
theorem asD_eq {x : SD} {d : PyData} (h : asD x = some d) : x = .d d := by
  cases x with
  | d y => cases h; rfl
  | _ => cases h
theorem ds_append (i : Nat) (ho : PE X o (tVar i)) (he : DE X (fun _ => E) e T) (hbase : attributeBase o "append" X.env (eval o X.env) = eval o X.env := by rfl)
    (hfew : ((backTo cpos (starEach [e] X.env)).all (fun x => !x.1) && (backToKw cpos (keywordEach [] X.env)).all (fun x => x.1.isSome) && decide (([e] : List Expr).length + ([] : List Keyword).length + (if ([] : List Keyword).isEmpty then 0 else 1) < 30)) = true := by rfl)
    (hline : (apos.endLine == cpos.line) = true := by rfl) (hs : starEach [e] X.env = (false, eval e X.env) :: starEach [] X.env := by rfl) (hplain : (backTo cpos (starEach [] X.env)).any (·.1) = false := by rfl)
    (hsw : swapsWith (.Call (.Attribute o "append" apos) [e] [] cpos) none pos.line X.env = pure false := by rfl) :
    DS X E (.Expr (.Call (.Attribute o "append" apos) [e] [] cpos) pos) (fun ρ => do let ds ← M.lift (ownL ρ i); let y ← T ρ; let z ← M.lift (asD y); M.when (szOk (ds.length + 1)) (pure (.nx (ρ.set i (.own (ds ++ [z])))))) := by
  refine ps_imp (ps_expr (pe_bm PySem.F.plainAttrs_list PySem.F.slot_list_append PySem.F.type_list_append mt_append ho (pa_cons he pa_nil hs) hbase hfew hline hs hplain) hsw) fun D σ H ⟨W0, H0, W, ρ, s, h⟩ => ?_
  obtain ⟨ds, hg, h⟩ := run_lift.mp h
  have h1 := ownL_eq hg
  obtain ⟨v, h3, h4⟩ := s.rel.get i _ h1 (fun z => nomatch z)
  obtain ⟨q, xs, rfl, mem, ns, hq, t⟩ := h4
  refine ⟨.ref q, h3, .inl ⟨rfl, xs, .inl (.inl hq)⟩, ?_⟩
  refine ex_run (T := T) s h fun y q' v H' k ok r => ?_
  obtain ⟨z, hz, q'⟩ := run_lift.mp q'
  obtain rfl := asD_eq hz
  obtain ⟨sz, q'⟩ := run_when.mp q'
  have hq' : H' q = some (.lst xs) := k q _ hq ns nt_lst
  have t' := RpAll.step (k.stp s.ok) t
  have s' := s.keep k ok
  have m := s'.mut (x := .own (ds ++ [z])) (o := .lst (xs ++ [v])) h1 rfl h3 ⟨(fun z => z), nt_lst⟩ rfl fun st mem ns => ⟨q, _, rfl, mem, ns, upd_same, RpAll.append (RpAll.step st t') (.cons (Rp.step st r) .nil)⟩
  exact ⟨q, xs, v, rfl, rfl, hq', szOk.lt (by rw [t.length]; exact sz), q' W σ _ ((k.stp s.ok).trans m.1) m.2⟩
theorem ds_insert (i : Nat) (ho : PE X o (tVar i)) (h1 : DE X (fun _ => E) e T) (h2 : DE X (fun _ => E) e2 T2) (hbase : attributeBase o "insert" X.env (eval o X.env) = eval o X.env := by rfl)
    (hfew : ((backTo cpos (starEach [e, e2] X.env)).all (fun x => !x.1) && (backToKw cpos (keywordEach [] X.env)).all (fun x => x.1.isSome) && decide (([e, e2] : List Expr).length + ([] : List Keyword).length + (if ([] : List Keyword).isEmpty then 0 else 1) < 30)) = true := by rfl)
    (hline : (apos.endLine == cpos.line) = true := by rfl) (hs : starEach [e, e2] X.env = (false, eval e X.env) :: starEach [e2] X.env := by rfl) (hs2 : starEach [e2] X.env = (false, eval e2 X.env) :: starEach [] X.env := by rfl) (hplain : (backTo cpos (starEach [e2] X.env)).any (·.1) = false := by rfl)
    (hsw : swapsWith (.Call (.Attribute o "insert" apos) [e, e2] [] cpos) none pos.line X.env = pure false := by rfl) :
    DS X E (.Expr (.Call (.Attribute o "insert" apos) [e, e2] [] cpos) pos) (fun ρ => do let ds ← M.lift (ownL ρ i); let w ← T ρ; let j ← M.lift (asI w); let y ← T2 ρ; let z ← M.lift (asD y); M.when (szOk (ds.length + 1) && decide (0 ≤ j) && bigI j) (pure (.nx (ρ.set i (.own (ds.take j.toNat ++ [z] ++ ds.drop j.toNat)))))) := by
  refine ps_imp (ps_expr (pe_bm PySem.F.plainAttrs_list PySem.F.slot_list_insert PySem.F.type_list_insert mt_insert ho (pa_cons h1 (pa_cons h2 pa_nil hs2) hs) hbase hfew hline hs hplain) hsw) fun D σ H ⟨W0, H0, W, ρ, s, h⟩ => ?_
  obtain ⟨ds, hg, h⟩ := run_lift.mp h
  have h1 := ownL_eq hg
  obtain ⟨v, h3, h4⟩ := s.rel.get i _ h1 (fun z => nomatch z)
  obtain ⟨q, xs, rfl, mem, ns, hq, t⟩ := h4
  refine ⟨.ref q, h3, .inl ⟨rfl, xs, .inl (.inl hq)⟩, ?_⟩
  refine ex_run (T := T) s h fun w h vw H1 k1 ok1 r1 => ?_
  obtain ⟨j, hj, h⟩ := run_lift.mp h
  have s1 := s.keep k1 ok1
  refine ex_run (T := T2) s1 h fun y q' v H' k ok r => ?_
  obtain ⟨z, hz, q'⟩ := run_lift.mp q'
  obtain rfl := asD_eq hz
  obtain ⟨sz, q'⟩ := run_when.mp q'
  obtain ⟨sz, c2⟩ := Bool.and_eq_true_iff.mp sz
  obtain ⟨sz, c1⟩ := Bool.and_eq_true_iff.mp sz
  have hq' : H' q = some (.lst xs) := k q _ (k1 q _ hq ns nt_lst) ns nt_lst
  have t' := RpAll.step (k.stp ok1) (RpAll.step (k1.stp s.ok) t)
  have s' := s1.keep k ok
  have ev : vw = .int j := by
    unfold asI at hj
    split at hj
    · cases r1; cases hj; rfl
    · cases hj
  subst ev
  have m := s'.mut (x := .own (ds.take j.toNat ++ [z] ++ ds.drop j.toNat)) (o := .lst (xs.take j.toNat ++ [v] ++ xs.drop j.toNat)) h1 rfl h3 ⟨(fun z => z), nt_lst⟩ rfl fun st mem ns => ⟨q, _, rfl, mem, ns, upd_same, RpAll.append (RpAll.append ((RpAll.step st t').take _) (.cons (Rp.step st r) .nil)) ((RpAll.step st t').drop _)⟩
  exact ⟨q, xs, j, v, rfl, rfl, hq', szOk.lt (by rw [t.length]; exact sz), of_decide_eq_true c1, (by have := bigI.hi c2; omega), q' W σ _ (((k1.stp s.ok).trans (k.stp ok1)).trans m.1) m.2⟩
end
end Dd
namespace Dd
open PySem PySem.Spec PyProof.Rows L2
inductive Tg where
  | nm (i : Nat)
  | tp (is : List Nat)
  | en (i : Nat) (is : List Nat)
def gNames : List Nat → TGs
  | [] => gNil
  | i :: r => gCons (gName i) (gNames r)
def gOf (K : PySem.W.Frag) : Tg → TG
  | .nm i => gName i
  | .tp is => L2.gTup K is.length (gNames is)
  | .en i is => L2.gTup K 2 (gCons (gName i) (gCons (L2.gTup K is.length (gNames is)) gNil))
def setsD (ρ : List SD) : List Nat → List PyData → List SD
  | i :: r, x :: xs => setsD (ρ.set i (.d x)) r xs
  | _, _ => ρ
def kEn (i : Nat) (is : List Nat) : SD → List SD → Option (List SD)
  | .d (.tuple [x, .tuple xs]), ρ => if xs.length = is.length then some (setsD (ρ.set i (.d x)) is xs) else none
  | _, _ => none
def kOf : Tg → SD → List SD → Option (List SD)
  | .nm i, x, ρ => (plain x).map fun y => ρ.set i y
  | .tp is, .d (.tuple xs), ρ => if xs.length = is.length then some (setsD ρ is xs) else none
  | .en i is, x, ρ => kEn i is x ρ
  | _, _, _ => none
def setsV (σ : L2.St) : List Nat → List V → L2.St
  | i :: r, x :: xs => setsV (σ.set i (some x)) r xs
  | _, _ => σ
section
variable {K : PySem.W.Frag} {W0 W : Wd} {H0 H : Hp}
theorem gNames_run {H : Hp} {Q : L2.St → Hp → Prop} : ∀ {is : List Nat} {vs : List V} {σ : L2.St}, vs.length = is.length → Q (setsV σ is vs) H → gNames is vs σ H Q
  | [], [], _, _, h => ⟨rfl, h⟩
  | i :: r, v :: vs, σ, e, h => ⟨v, vs, rfl, gNames_run (by simpa using e) h⟩
theorem sets_rel : ∀ {is : List Nat} {vs : List V} {ds : List PyData} {σ : L2.St} {ρ : List SD}, RpAll K W.S H vs ds → Rel K W H σ ρ → Rel K W H (setsV σ is vs) (setsD ρ is ds)
  | [], _, _, _, _, _, r => r
  | _ :: _, _, _, _, _, .nil, r => r
  | i :: is, _, _, σ, ρ, .cons (v := v) (d := d) h t, r => by
    show Rel K W H (setsV (σ.set i (some v)) is _) (setsD (ρ.set i (.d d)) is _)
    exact sets_rel t (r.set (x := .d d) h rfl)
theorem sets_sst : ∀ {is : List Nat} {vs : List V} {ds : List PyData} {σ : L2.St} {ρ : List SD}, RpAll K W.S H vs ds → SSt K W0 H0 W H σ ρ → SSt K W0 H0 W H (setsV σ is vs) (setsD ρ is ds)
  | [], _, _, _, _, _, r => r
  | _ :: _, _, _, _, _, .nil, r => r
  | i :: is, _, _, σ, ρ, .cons (v := v) (d := d) h t, r => by
    show SSt K W0 H0 W H (setsV (σ.set i (some v)) is _) (setsD (ρ.set i (.d d)) is _)
    exact sets_sst t (r.set (x := .d d) h rfl)
theorem tg_sst {tg : Tg} {σ : L2.St} {ρ ρ' : List SD} {v : V} {x : SD} {Q : L2.St → Hp → Prop} (s : SSt K W0 H0 W H σ ρ) (r : RV K W H v x) (e : kOf tg x ρ = some ρ') (q : ∀ σ', SSt K W0 H0 W H σ' ρ' → Q σ' H) : gOf K tg v σ H Q := by
  cases tg with
  | nm i =>
    obtain ⟨y, h1, rfl⟩ := Option.map_eq_some_iff.mp e
    obtain ⟨rfl, no⟩ := plain_eq h1
    exact q _ (s.set r no)
  | en i is =>
    have e : kEn i is x ρ = some ρ' := e
    unfold kEn at e
    split at e
    · split at e
      · rename_i hl
        cases e
        cases r with | tup l t =>
        cases t with | cons ha t =>
        cases t with | cons hb t =>
        cases t
        cases hb with | tup l2 t2 =>
        exact ⟨_, _, rfl, l, rfl, _, _, rfl, _, _, rfl, ⟨_, _, rfl, l2, by rw [t2.length]; exact hl, gNames_run (by rw [t2.length]; exact hl) ⟨rfl, q _ (sets_sst t2 (s.set ha rfl))⟩⟩⟩
      · cases e
    · cases e
  | tp is =>
    cases x with
    | d y =>
      cases y with
      | tuple xs =>
        simp only [kOf] at e
        split at e
        · rename_i hl
          cases e
          cases r with | tup l t =>
          exact ⟨_, _, rfl, l, by rw [t.length]; exact hl, gNames_run (by rw [t.length]; exact hl) (q _ (sets_sst t s))⟩
        · cases e
      | _ => cases e
    | _ => cases e
end
def WalkD (K : PySem.W.Frag) (W : Wd) (H : Hp) (J : It) (items : List SD) : Prop := ∃ G Y, Walk J items.length G Y ∧ (∀ (W' : Wd) (H' : Hp), Stp W.S W'.S H H' → G H') ∧
  ∀ (i : Nat) (W' : Wd) (H1 : Hp) (x : V) (H2 : Hp), Stp W.S W'.S H H1 → W'.Ok H1 → Y i H1 x H2 → i < items.length → Same H1 H2 ∧ ∃ it, items[i]? = some it ∧ RV K W' H2 x it ∧ isOwn it = false
def dti (K : PySem.W.Frag) (EX : L2.St → XK) (T : List SD → M (List SD)) : TI := fun σ H R => ∃ W ρ, W.Ok H ∧ Rel K W H σ ρ ∧ (T ρ).run (fun items => ∀ J H', Kp W H H' → W.Ok H' → WalkD K W H' J items → R J H') (XP K W H (EX σ))
abbrev DI (X : Cx) (EX : L2.St → XK) (tg e : Expr) (T : List SD → M (List SD)) : Prop := PI X tg e (dti X.K EX T)
theorem pi_imp {X : Cx} {tg e : Expr} {t t' : TI} (h : PI X tg e t) (i : ∀ σ H Q, t' σ H Q → t σ H Q) : PI X tg e t' := ⟨fun pins s σ H Q J q => h.run pins s σ H Q J (i σ H Q q)⟩
section
variable {X : Cx} {EX : L2.St → XK} {tg e e2 : Expr} {T T2 : List SD → M SD} {Ts : List SD → M (List SD)} {p pos : Pos}
def iSeq (K : PySem.W.Frag) (tl : TE) : TI := fun σ H R => tl σ H fun x H1 => (∃ a, x = .ref a ∧ (∃ xs, SqL K H1 a xs) ∧ R (Itl K a) H1) ∨ (∃ a, x = .ref a ∧ (∃ xs, SqT K H1 a xs) ∧ R (Itt K a) H1) ∨ ∃ z, x = .str z ∧ R (Its z) H1
theorem pi_seq {tl : TE} (hl : PE X e tl) : PI X tg e (iSeq X.K tl) := by
  refine ⟨fun pins s σ H R I h => ?_⟩
  refine thn (hl.run pins s σ H _ I h) fun v s1 ⟨x, H1, I1, r1, q1⟩ => ?_
  rcases q1 with ⟨a, e, ⟨xs, hq⟩, q⟩ | ⟨a, e, ⟨xs, hq⟩, q⟩ | ⟨z, e, q⟩
  · subst e
    cases r1
    obtain ⟨its, rv, p, hz⟩ := I1.list hq
    refine wpAny_pyIter_list p.isList ?_
    refine ⟨s1.heap.objs.size, [s1.heap.objs.size], _, _, H1, rfl, I1.kept (t' := s1.toks) fun b o e => Heap.get?_push_of_some _ e, turn_list a _, ⟨_, Heap.get?_push_size _ rfl, rfl, rfl⟩, fun b hb => ?_, q⟩
    have e : b = s1.heap.objs.size := by simpa using hb
    subst e
    exact I1.fpOk (Nat.le_refl _) (I1.hok.fresh (Nat.le_refl _))
  · subst e
    cases r1
    obtain ⟨its, rv, p, hz⟩ := I1.tuple hq
    refine wpAny_pyIter_tuple (show s1.heap.IsTuple a its.toArray from p) ?_
    refine ⟨s1.heap.objs.size, [s1.heap.objs.size], _, _, H1, rfl, I1.kept (t' := s1.toks) fun b o e => Heap.get?_push_of_some _ e, turn_tuple a _, ⟨_, Heap.get?_push_size _ rfl, rfl, rfl⟩, fun b hb => ?_, q⟩
    have e : b = s1.heap.objs.size := by simpa using hb
    subst e
    exact I1.fpOk (Nat.le_refl _) (I1.hok.fresh (Nat.le_refl _))
  · subst e
    obtain ⟨t, rfl⟩ := r1
    cases ha : z.cps.all (· < 128)
    · exact wpAny_pyIter_wide ha (pi_one (tk := s1.toks) I1 _ (turn_str _ z t "str_iterator" (.inr rfl)) ⟨_, Heap.get?_push_size _ rfl, rfl, rfl⟩ q)
    · exact wpAny_pyIter_ascii ha (pi_one (tk := s1.toks) I1 _ (turn_str _ z t "str_ascii_iterator" (.inl rfl)) ⟨_, Heap.get?_push_size _ rfl, rfl, rfl⟩ q)
def itemsD : SD → Option (List SD)
  | .d (.list ds) => some (ds.map .d)
  | .d (.tuple ds) => some (ds.map .d)
  | .d (.str z) => some (z.cps.toList.map fun c => dS ⟨#[c]⟩)
  | _ => none
theorem get_items {K : PySem.W.Frag} {W : Wd} {H : Hp} {xs : List V} {ds : List PyData} {i : Nat} {x : V} (t : RpAll K W.S H xs ds) (h : xs[i]? = some x) : ∃ it, (ds.map SD.d)[i]? = some it ∧ RV K W H x it ∧ isOwn it = false := by
  obtain ⟨d, h1, h2⟩ := t.get' h
  exact ⟨.d d, by rw [List.getElem?_map, h1]; rfl, h2, rfl⟩
theorem di_seq (h : DE X EX e T) : DI X EX tg e (fun ρ => do let x ← T ρ; M.lift (itemsD x)) := by
  refine pi_imp (pi_seq h) fun σ H R ⟨W, ρ, ok, rel, h⟩ => ?_
  refine ⟨W, ρ, ok, rel, (T ρ).mono (fun x q v H' k ok' r => ?_) (fun _ q => q) h⟩
  obtain ⟨its, hi, q⟩ := run_lift.mp q
  unfold itemsD at hi
  split at hi
  · cases hi
    cases r with | lst l t =>
    refine .inl ⟨_, rfl, ⟨_, l.sq⟩, q _ H' k ok' ?_⟩
    refine ⟨_, _, (by rw [List.length_map, ← t.length]; exact walk_list), fun W' H2 st => (st.ls l).sq, fun i W' H1 x H2 st ok1 y lt => ?_⟩
    obtain ⟨rfl, y⟩ := y
    exact ⟨Same.refl _, get_items (RpAll.step st t) y⟩
  · cases hi
    cases r with | tup l t =>
    refine .inr (.inl ⟨_, rfl, ⟨_, l⟩, q _ H' k ok' ?_⟩)
    refine ⟨_, _, (by rw [List.length_map, ← t.length]; exact walk_tup), fun W' H2 st => st.tp l, fun i W' H1 x H2 st ok1 y lt => ?_⟩
    obtain ⟨rfl, y⟩ := y
    exact ⟨Same.refl _, get_items (RpAll.step st t) y⟩
  · cases hi
    cases r
    rename_i z
    refine .inr (.inr ⟨_, rfl, q _ H' k ok' ?_⟩)
    refine ⟨_, _, (by rw [List.length_map]; exact walk_str), fun W' H2 st => trivial, fun i W' H1 x H2 st ok1 y lt => ?_⟩
    obtain ⟨rfl, c, hc, rfl⟩ := y
    refine ⟨Same.refl _, dS ⟨#[c]⟩, ?_, Rp.str _, rfl⟩
    rw [List.getElem?_map, Array.getElem?_toList, hc]
    rfl
  · cases hi
def rangeD (lo : Int) (n : Nat) : List SD := (List.range n).map fun i : Nat => dI (lo + (i : Int))
theorem rangeD_walk {K : PySem.W.Frag} {W : Wd} {H : Hp} (lo : Int) (n : Nat) : WalkD K W H (Itr lo n) (rangeD lo n) := by
  refine ⟨_, _, (by unfold rangeD; rw [List.length_map, List.length_range]; exact walk_range), fun _ _ _ => trivial, fun i W' H1 x H2 st ok1 y lt => ?_⟩
  obtain ⟨rfl, rfl⟩ := y
  refine ⟨Same.refl _, dI (lo + i), ?_, Rp.int _, rfl⟩
  unfold rangeD at lt ⊢
  rw [List.length_map, List.length_range] at lt
  rw [List.getElem?_map, List.getElem?_range lt]
  rfl
theorem di_range1 (hg : Gl X "range") (hm : X.mg "range" = none) (h : DE X EX e T) (hs : starEach [e] X.env = [(false, eval e X.env)] := by rfl) : DI X EX tg (.Call (.Name "range" p) [e] [] pos) (fun ρ => do let x ← T ρ; let j ← M.lift (asI x); M.when (bigI j) (pure (rangeD 0 j.toNat))) := by
  refine pi_imp (pi_range1 hg hm (pa_cons h pa_nil hs) hs) fun σ H R ⟨W, ρ, ok, rel, h⟩ => ?_
  refine ⟨W, ρ, ok, rel, (T ρ).mono (fun x q v H' k ok' r => ?_) (fun _ q => q) h⟩
  obtain ⟨j, hj, qa⟩ := run_lift.mp q
  obtain ⟨c, qb⟩ := run_when.mp qa
  unfold asI at hj
  split at hj
  · cases r; cases hj
    exact ⟨j, rfl, bigI.lo c, bigI.hi c, qb _ H' k ok' (rangeD_walk 0 _)⟩
  · cases hj
def pairD (x y : PyData) : SD := .d (.tuple [x, y])
theorem pair_walk {K : PySem.W.Frag} {W' : Wd} {H1 H2 : Hp} {v x y : V} {T : Addr} {a b : PyData} (ok1 : W'.Ok H1) (hT : H1 T = none) (e : H2 = upd H1 T (.tup [x, y])) (ra : Rp K W'.S H1 x a) (rb : Rp K W'.S H1 y b) : Same H1 H2 ∧ RV K W' H2 (.ref T) (pairD a b) := by
  subst e
  exact ⟨Dw.same_new hT, .tup (.inl (.inl upd_same)) (.cons (Rp.step (stp_new ok1 hT) ra) (.cons (Rp.step (stp_new ok1 hT) rb) .nil))⟩
def enumD (ds : List PyData) : List SD := (List.range ds.length).map fun i : Nat => pairD (.int (i : Int)) (ds.getD i .none)
def enumS : SD → Option (List SD)
  | .d (.list ds) => some (enumD ds)
  | _ => none
theorem di_enum {elts : List Expr} {kk : Nat} {tpos : Pos} (hg : Gl X "enumerate") (hm : X.mg "enumerate" = none) (h : DE X EX e T) (hs : starEach [e] X.env = [(false, eval e X.env)] := by rfl) :
    DI X EX (.Tuple elts kk tpos) (.Call (.Name "enumerate" p) [e] [] pos) (fun ρ => do let x ← T ρ; M.lift (enumS x)) := by
  refine pi_imp (pi_enum hg hm (pa_cons h pa_nil hs) hs) fun σ H R ⟨W, ρ, ok, rel, h⟩ => ?_
  refine ⟨W, ρ, ok, rel, (T ρ).mono (fun x q v H' k ok' r => ?_) (fun _ q => q) h⟩
  obtain ⟨its, hi, q⟩ := run_lift.mp q
  unfold enumS at hi
  split at hi
  · cases hi
    cases r with | lst l t =>
    refine ⟨_, _, rfl, l.sq, q _ H' k ok' ?_⟩
    refine ⟨_, _, (by unfold enumD; rw [List.length_map, List.length_range, ← t.length]; exact walk_enum), fun W' H2 st => (st.ls l).sq, fun i W' H1 x H2 st ok1 y lt => ?_⟩
    obtain ⟨T', a, b, rfl, hT, e, ha, hb⟩ := y
    cases ha
    obtain ⟨d, hd, rd⟩ := (RpAll.step st t).get' hb
    obtain ⟨sm, rv⟩ := pair_walk (v := .ref T') ok1 hT e (.int (i : Int)) rd
    refine ⟨sm, _, ?_, rv, rfl⟩
    unfold enumD at lt ⊢
    rw [List.length_map, List.length_range] at lt
    rw [List.getElem?_map, List.getElem?_range lt]
    simp [List.getD, hd]
  · cases hi
def zipS : SD → SD → Option (List SD)
  | .d (.list ds), .d (.list es) => some ((ds.zip es).map fun p => pairD p.1 p.2)
  | _, _ => none
end
def forM (tg : Tg) (U : List SD → M Out) : List SD → List SD → M Out
  | [], ρ => pure (.nx ρ)
  | x :: r, ρ => do
    let ρ1 ← M.lift (kOf tg x ρ)
    match ← U ρ1 with
    | .nx ρ2 => forM tg U r ρ2
    | .ct ρ2 => forM tg U r ρ2
    | .bk ρ2 => pure (.nx ρ2)
    | .rt y => pure (.rt y)
section
variable {X : Cx} {E : XK} {tg iter c : Expr} {body : List Stmt} {pos : Pos} {Ti : List SD → M (List SD)} {U : List SD → M Out} {B : List SD → M Bool}
theorem OutP.trans {K : PySem.W.Frag} {W0 W W1 : Wd} {H0 H H1 : Hp} {D : Ends} (st : Stp W.S W1.S H H1) : ∀ {o : Out}, OutP K W0 H0 W H D o → OutP K W0 H0 W1 H1 D o
  | .nx _, q => fun W2 σ2 H2 st2 s2 => q W2 σ2 H2 (st.trans st2) s2
  | .bk _, q => fun W2 σ2 H2 st2 s2 => q W2 σ2 H2 (st.trans st2) s2
  | .ct _, q => fun W2 σ2 H2 st2 s2 => q W2 σ2 H2 (st.trans st2) s2
  | .rt _, q => q
theorem ds_for {t : Tg} (hp : PassesOwn (model X.prog X.w) X.A X.env X.xe) (hc : X.calm = true) (hi : DI X (fun _ => E) tg iter Ti) (hg : PG X tg (gOf X.K t)) (hb : DSs X E body U) (hs : ∀ x, foldedSetIterable iter X.env x = pure x := by intro _; rfl) :
    DS X E (.For tg iter body [] pos) (fun ρ => do let its ← Ti ρ; forM t U its ρ) := by
  refine ps_imp (ps_for hp hc hi hg hb hs) fun D σ H ⟨W0, H0, W, ρ, s, h⟩ => ?_
  refine ⟨W, ρ, s.ok, s.rel, (Ti ρ).mono (fun its q J H1 k1 ok1 w => ?_) (fun _ q => s.xp q) h⟩
  obtain ⟨G, Y, walk, hG, hY⟩ := w
  have s1 := s.keep k1 ok1
  have st1 := k1.stp s.ok
  refine for_it walk (fun i σ' H' => ∃ W' ρ', SSt X.K W0 H0 W' H' σ' ρ' ∧ Stp W.S W'.S H1 H' ∧ (forM t U (its.drop i) ρ').run (OutP X.K W0 H0 W' H' D) (XP X.K W0 H0 E)) ?_ ?_ ?_ ?_
  · exact ⟨W, ρ, s1, Stp.refl _ _, (forM t U its ρ).mono (fun o q => OutP.trans st1 q) (fun _ h => h) q⟩
  · rintro i σ' H' _ ⟨W', ρ', s', st', _⟩
    exact hG W' H' st'
  · rintro i x σ' H' H2 lt ⟨W', ρ', s', st', run⟩ y
    obtain ⟨sm, it, e1, rv, no⟩ := hY i W' H' x H2 st' s'.ok y lt
    have e2 : its.drop i = it :: its.drop (i + 1) := by
      obtain ⟨lt', e3⟩ := List.getElem?_eq_some_iff.mp e1
      rw [List.drop_eq_getElem_cons lt', e3]
    rw [e2] at run
    obtain ⟨ρ1, hk, run⟩ := run_lift.mp run
    have kk : Kp W' H' H2 := Kp.same sm
    have s2 := s'.keep kk (s'.ok.same sm)
    have st2 := st'.trans (kk.stp s'.ok)
    refine tg_sst s2 rv hk fun σ2 s3 => ⟨W0, H0, W', ρ1, s3, (U ρ1).mono (fun o q => ?_) (fun _ h => h) run⟩
    cases o with
    | nx ρ2 => exact fun W4 σ4 H4 st4 s4 => ⟨W4, ρ2, s4, st2.trans st4, M.mono _ (fun o q => OutP.trans ((kk.stp s'.ok).trans st4) q) (fun _ h => h) q⟩
    | ct ρ2 => exact fun W4 σ4 H4 st4 s4 => ⟨W4, ρ2, s4, st2.trans st4, M.mono _ (fun o q => OutP.trans ((kk.stp s'.ok).trans st4) q) (fun _ h => h) q⟩
    | bk ρ2 => exact fun W4 σ4 H4 st4 s4 => q W4 σ4 H4 ((kk.stp s'.ok).trans st4) s4
    | rt y => exact q
  · rintro σ' H' ⟨W', ρ', s', st', run⟩
    rw [List.drop_length] at run
    exact run W' σ' H' (Stp.refl _ _) s'
def whileM (B : List SD → M Bool) (U : List SD → M Out) (ρ : List SD) : M Out where
  run := fun P E => ∃ I : Nat → List SD → Prop, (∃ m, I m ρ) ∧ ∀ m ρ, I m ρ → (B ρ).run (fun b => if b = true then (U ρ).run (fun o => match o with
    | .nx ρ2 => ∃ m', m' < m ∧ I m' ρ2
    | .ct ρ2 => ∃ m', m' < m ∧ I m' ρ2
    | .bk ρ2 => P (.nx ρ2)
    | .rt y => P (.rt y)) E else P (.nx ρ)) E
  mono := fun {P P' E E'} h g ⟨I, i0, p⟩ => ⟨I, i0, fun m ρ i => (B ρ).mono (fun b q => by
    cases b with
    | true => exact (U ρ).mono (fun o q => by
        cases o with
        | nx _ => exact q
        | ct _ => exact q
        | bk _ => exact h _ q
        | rt _ => exact h _ q) g q
    | false => exact h _ q) g (p m ρ i)⟩
theorem ds_while (hp : PassesOwn (model X.prog X.w) X.A X.env X.xe) (hc : DT X (fun _ => E) c B) (hb : DSs X E body U) : DS X E (.While c body [] pos) (fun ρ => whileM B U ρ) := by
  refine ps_imp (ps_while hp hc hb) fun D σ H ⟨W0, H0, W, ρ, s, h⟩ => ?_
  obtain ⟨I, ⟨m0, i0⟩, turn⟩ := h
  refine ⟨fun m σ' H' => ∃ W' ρ', SSt X.K W0 H0 W' H' σ' ρ' ∧ Stp W.S W'.S H H' ∧ I m ρ', ⟨m0, W, ρ, s, Stp.refl _ _, i0⟩, ?_⟩
  rintro m σ' H' ⟨W', ρ', s', st', i'⟩
  refine ⟨W', ρ', s'.ok, s'.rel, (B ρ').mono (fun b q H1 k1 ok1 => ?_) (fun _ q => s'.xp q) (turn m ρ' i')⟩
  have s1 := s'.keep k1 ok1
  have st1 := st'.trans (k1.stp s'.ok)
  cases b with
  | true =>
    refine ⟨fun σ2 H2 => ∃ m', m' < m ∧ ∃ W2 ρ2, SSt X.K W0 H0 W2 H2 σ2 ρ2 ∧ Stp W.S W2.S H H2 ∧ I m' ρ2, fun σ2 H2 z => z, ?_⟩
    refine ⟨W0, H0, W', ρ', s1, (U ρ').mono (fun o q => ?_) (fun _ h => h) q⟩
    cases o with
    | nx ρ2 => exact fun W4 σ4 H4 st4 s4 => let ⟨m', h1, h2⟩ := q; ⟨m', h1, W4, ρ2, s4, st1.trans st4, h2⟩
    | ct ρ2 => exact fun W4 σ4 H4 st4 s4 => let ⟨m', h1, h2⟩ := q; ⟨m', h1, W4, ρ2, s4, st1.trans st4, h2⟩
    | bk ρ2 => exact fun W4 σ4 H4 st4 s4 => q W4 σ4 H4 (st1.trans st4) s4
    | rt y => exact q
  | false => exact q W' σ' H1 st1 s1
end
end Dd
namespace Dd
open PySem PySem.Spec PyProof.Rows L2
def wipeD (ρ : List SD) : List Nat → List SD
  | [] => ρ
  | v :: vs => (wipeD ρ vs).set v .no
theorem wipeD_len (ρ : List SD) : ∀ vs : List Nat, (wipeD ρ vs).length = ρ.length
  | [] => rfl
  | v :: vs => by unfold wipeD; rw [List.length_set, wipeD_len ρ vs]
theorem wipeD_get {ρ : List SD} {i : Nat} {x : SD} : ∀ {vs : List Nat}, (wipeD ρ vs)[i]? = some x → x ≠ .no → ρ[i]? = some x ∧ i ∉ vs
  | [], h, _ => ⟨h, by simp⟩
  | v :: vs, h, n => by
    unfold wipeD at h
    by_cases hi : v = i
    · subst hi
      rw [List.getElem?_set_self (lt_set h)] at h
      cases h
      exact absurd rfl n
    · rw [List.getElem?_set_ne hi] at h
      obtain ⟨h1, h2⟩ := wipeD_get h n
      exact ⟨h1, by simp only [List.mem_cons, not_or]; exact ⟨fun e => hi e.symm, h2⟩⟩
theorem wipe_get {σ : L2.St} {i : Nat} : ∀ {vs : List Nat}, i ∉ vs → (wipe σ vs)[i]? = σ[i]?
  | [], _ => rfl
  | v :: vs, h => by
    unfold wipe
    rw [List.getElem?_set_ne (fun e => h (by rw [e]; exact List.mem_cons_self)), wipe_get fun z => h (List.mem_cons_of_mem _ z)]
theorem wipe_set {σ : L2.St} {y : Option V} {i : Nat} : ∀ {vs : List Nat}, i ∈ vs → wipe (σ.set i y) vs = wipe σ vs
  | [], h => nomatch h
  | v :: vs, h => by
    unfold wipe
    by_cases e : i ∈ vs
    · rw [wipe_set e]
    · rcases List.mem_cons.mp h with rfl | h
      · have : ∀ {ws : List Nat}, i ∉ ws → wipe (σ.set i y) ws = (wipe σ ws).set i y := by
          intro ws
          induction ws with
          | nil => intro _; rfl
          | cons w ws ih =>
            intro hn
            unfold wipe
            rw [ih fun z => hn (List.mem_cons_of_mem _ z), List.set_comm _ _ (fun z => hn (by rw [z]; exact List.mem_cons_self))]
        rw [this e, List.set_set]
      · exact absurd h e
theorem wipe_wipe (σ : L2.St) : ∀ vs ws : List Nat, (∀ i ∈ ws, i ∈ vs) → wipe (wipe σ ws) vs = wipe σ vs
  | vs, [], _ => rfl
  | vs, w :: ws, h => by
    show wipe ((wipe σ ws).set w none) vs = _
    rw [wipe_set (h w List.mem_cons_self), wipe_wipe σ vs ws fun i hi => h i (List.mem_cons_of_mem _ hi)]
theorem wipe_sets {vs : List Nat} : ∀ {is : List Nat} {xs : List V} {σ : L2.St}, (∀ i ∈ is, i ∈ vs) → wipe (setsV σ is xs) vs = wipe σ vs
  | [], _, _, _ => rfl
  | _ :: _, [], _, _ => rfl
  | i :: is, x :: xs, σ, h => by
    show wipe (setsV (σ.set i (some x)) is xs) vs = _
    rw [wipe_sets fun j hj => h j (List.mem_cons_of_mem _ hj), wipe_set (h i List.mem_cons_self)]
def tgIn : Tg → List Nat → Bool
  | .nm i, vs => decide (i ∈ vs)
  | .tp is, vs => is.all fun i => decide (i ∈ vs)
  | .en i is, vs => decide (i ∈ vs) && is.all fun i => decide (i ∈ vs)
section
variable {K : PySem.W.Frag} {W : Wd} {H : Hp}
theorem Rel.wipe {σ : L2.St} {ρ : List SD} (r : Rel K W H σ ρ) (vs : List Nat) : Rel K W H (L2.wipe σ vs) (wipeD ρ vs) := by
  refine ⟨by rw [wipe_length, wipeD_len]; exact r.len, fun i x e n => ?_, fun i j x y p ne e1 e2 o1 o2 s1 => ?_, r.tab⟩
  · obtain ⟨h1, h2⟩ := wipeD_get e n
    rw [wipe_get h2]
    exact r.get i x h1 n
  · obtain ⟨h1, h2⟩ := wipeD_get e1 (own_ne o1)
    obtain ⟨h3, h4⟩ := wipeD_get e2 (own_ne o2)
    rw [wipe_get h2] at s1
    rw [wipe_get h4]
    exact r.sep i j x y p ne h1 h3 o1 o2 s1
theorem tg_rel {tg : Tg} {vs : List Nat} {σ : L2.St} {ρ ρ' : List SD} {v : V} {x : SD} {Q : L2.St → Hp → Prop} (s : Rel K W H σ ρ) (hin : tgIn tg vs = true) (r : RV K W H v x) (e : kOf tg x ρ = some ρ') (q : ∀ σ', Rel K W H σ' ρ' → L2.wipe σ' vs = L2.wipe σ vs → Q σ' H) : gOf K tg v σ H Q := by
  cases tg with
  | nm i =>
    obtain ⟨y, h1, rfl⟩ := Option.map_eq_some_iff.mp e
    obtain ⟨rfl, no⟩ := plain_eq h1
    exact q _ (s.set r no) (wipe_set (of_decide_eq_true hin))
  | en i is =>
    have e : kEn i is x ρ = some ρ' := e
    unfold kEn at e
    split at e
    · split at e
      · rename_i hl
        cases e
        cases r with | tup l t =>
        cases t with | cons ha t =>
        cases t with | cons hb t =>
        cases t
        cases hb with | tup l2 t2 =>
        obtain ⟨h1, h2⟩ := Bool.and_eq_true_iff.mp (show (decide (i ∈ vs) && is.all fun i => decide (i ∈ vs)) = true from hin)
        exact ⟨_, _, rfl, l, rfl, _, _, rfl, _, _, rfl, ⟨_, _, rfl, l2, by rw [t2.length]; exact hl, gNames_run (by rw [t2.length]; exact hl) ⟨rfl, q _ (sets_rel t2 (s.set ha rfl)) ((wipe_sets fun j hj => of_decide_eq_true (List.all_eq_true.mp h2 j hj)).trans (wipe_set (of_decide_eq_true h1)))⟩⟩⟩
      · cases e
    · cases e
  | tp is =>
    cases x with
    | d y =>
      cases y with
      | tuple xs =>
        simp only [kOf] at e
        split at e
        · rename_i hl
          cases e
          cases r with | tup l t =>
          exact ⟨_, _, rfl, l, by rw [t.length]; exact hl, gNames_run (by rw [t.length]; exact hl) (q _ (sets_rel t s) (wipe_sets fun i hi => of_decide_eq_true (List.all_eq_true.mp hin i hi)))⟩
        · cases e
      | _ => cases e
    | _ => cases e
def PostN (K : PySem.W.Frag) (W : Wd) (H : Hp) (Q : VK) (ds : List PyData) : Prop := ∀ p xs H', Kp W H H' → (W.add p).Ok H' → Fr0 H p → H' p = some (.lst xs) → RpAll K (W.add p).S H' xs ds → Q (.ref p) H'
theorem add_back {p : Addr} {H0 H' : Hp} (ok0 : W.Ok H0) (hp : Fr0 H0 p) (ok : (W.add p).Ok H') : W.Ok H' := by
  refine ⟨fun b h => ok.there b (List.mem_cons_of_mem _ h), fun a l e => ?_, ok.tabs⟩
  obtain ⟨h1, h2, h3⟩ := ok.draw a l e
  exact ⟨(ok0.draw a l e).1, (ok0.draw a l e).2.1, h3⟩
theorem PostN.of {Q : VK} {ds : List PyData} (ok0 : W.Ok H) (q : Post K W H Q (.d (.list ds))) : PostN K W H Q ds := fun p xs H' k ok hp e r =>
  q _ H' k (add_back ok0 hp ok) (.lst ⟨e, ok0.notinF hp⟩ (RpAll.step ⟨fun _ _ h _ _ => h, fun b h => .inl (List.mem_cons_of_mem _ h)⟩ r))
end
def dtn (K : PySem.W.Frag) (EX : L2.St → XK) (T : List SD → M (List PyData)) : TE := fun σ H Q => ∃ W ρ, W.Ok H ∧ Rel K W H σ ρ ∧ (T ρ).run (PostN K W H Q) (XP K W H (EX σ))
def lcM (tg : Tg) (B : List SD → M Bool) (T : List SD → M SD) (ρ : List SD) : List SD → List PyData → M (List PyData)
  | [], acc => pure acc
  | x :: r, acc => do
    let ρ1 ← M.lift (kOf tg x ρ)
    let b ← M.calm (B ρ1)
    if b then do
      let y ← M.calm (T ρ1)
      let d ← M.lift (asD y)
      M.when (szOk (acc.length + 1)) (lcM tg B T ρ r (acc ++ [d]))
    else lcM tg B T ρ r acc
theorem lc_turn {K : PySem.W.Frag} {W : Wd} {D : Addr} {H3 : Hp} {σ2 : L2.St} {ρ1 : List SD} {tt : List SD → M Bool} {te : List SD → M SD} {acc : List PyData} {accV : List V} {Nx : Hp → Prop} {P : List PyData → Prop} {E : Exn → Prop} {nxt : List PyData → M (List PyData)}
    (nD : ∀ l, W.src ≠ some (D, l)) (ok : (W.add D).Ok H3) (rel : Rel K (W.add D) H3 σ2 ρ1) (hD : H3 D = some (.lst accV)) (t : RpAll K (W.add D).S H3 accV acc)
    (run : (do let b ← M.calm (tt ρ1); if b then do { let y ← M.calm (te ρ1); let d ← M.lift (asD y); M.when (szOk (acc.length + 1)) (nxt (acc ++ [d])) } else nxt acc : M (List PyData)).run P E)
    (go : ∀ H4 accV' acc', Kp (W.add D) H3 H4 ∨ (∃ H5 o, Kp (W.add D) H3 H5 ∧ H4 = upd H5 D o) → (W.add D).Ok H4 → H4 D = some (.lst accV') → RpAll K (W.add D).S H4 accV' acc' → (nxt acc').run P E → Nx H4) :
    dtt K (fun _ => E0) tt σ2 H3 fun b H4 => if b = true then dt K (fun _ => E0) te σ2 H4 fun y H5 => ∃ a, H5 D = some (.lst a) ∧ a.length < sizeLine ∧ Nx (upd H5 D (.lst (a ++ [y]))) else Nx H4 := by
  refine ⟨W.add D, ρ1, ok, rel, (tt ρ1).mono (fun b q H4 k4 ok4 => ?_) (fun _ z => z.elim) run⟩
  have hD4 : H4 D = some (.lst accV) := k4 D _ hD nD nt_lst
  have t4 := RpAll.step (k4.stp ok) t
  cases b with
  | false => exact go H4 accV acc (.inl k4) ok4 hD4 t4 q
  | true =>
    refine ⟨W.add D, ρ1, ok4, rel.keep ok k4, (te ρ1).mono (fun y q v H5 k5 ok5 r5 => ?_) (fun _ z => z.elim) q⟩
    obtain ⟨d, hd, q⟩ := run_lift.mp q
    obtain rfl := asD_eq hd
    obtain ⟨sz, q⟩ := run_when.mp q
    have hD5 : H5 D = some (.lst accV) := k5 D _ hD4 nD nt_lst
    have t5 := RpAll.step (k5.stp ok4) t4
    have ne : ∀ b o', H5 b = some o' → b ∉ (W.add D).S ∨ Fix o' → b ≠ D := fun b o' hb c z => by
      subst z
      rcases c with c | c
      · exact c List.mem_cons_self
      · rw [hD5] at hb; cases hb; exact c
    have st : Stp (W.add D).S (W.add D).S H5 (upd H5 D (.lst (accV ++ [v]))) := ⟨fun b o' hb _ c => by rw [upd_ne (ne b o' hb c)]; exact hb, fun b h => .inl h⟩
    refine ⟨accV, hD5, szOk.lt (by rw [t.length]; exact sz), go _ (accV ++ [v]) (acc ++ [d]) (.inr ⟨H5, _, k4.trans k5, rfl⟩) ⟨fun b h => ?_, fun a l e => ?_, tabs_upd ok5.tabs hD5 nt_lst (fun f z => nomatch z)⟩ upd_same (RpAll.append (RpAll.step st t5) (.cons (Rp.step st r5) .nil)) q⟩
    · by_cases z : b = D
      · subst z; exact ⟨_, upd_same, (fun z => z), nt_lst⟩
      · rw [upd_ne z]; exact ok5.there b h
    · obtain ⟨g1, g2, g3⟩ := ok5.draw a l e
      exact ⟨g1, g2, Dw.Src.put g3 (fun z => nD l (by rw [z]; exact e)) (fun z => g2 (by rw [← z]; exact List.mem_cons_self))⟩
section
variable {X : Cx} {EX : L2.St → XK} {elt tg iter : Expr} {ifs : List Expr} {scope : Scope} {own : List (Str × Nat)} {pos : Pos} {Ti : List SD → M (List SD)} {B : List SD → M Bool} {T : List SD → M SD} {t : Tg}
abbrev DTs (X : Cx) (ifs : List Expr) (B : List SD → M Bool) : Prop := PTs X ifs (dtt X.K (fun _ => E0) B)
theorem dts_nil : DTs X [] (fun _ => pure true) := ⟨fun pins s σ H Q I ⟨W, ρ, ok, rel, h⟩ => pts_nil.run pins s σ H Q I (h H (Kp.refl W H) ok)⟩
theorem dts_one {c : Expr} (h : DT X (fun _ => E0) c B) : DTs X [c] B := pts_one h
theorem lc_imp {wi : TI} (hin : tgIn t (own.map (·.2)) = true) (hwi : ∀ σ H R, dti X.K EX Ti σ H R → wi σ H R) (σ : L2.St) (H : Hp) (Q : VK) (h : dtn X.K EX (fun ρ => do let its ← Ti ρ; lcM t B T (wipeD ρ (own.map (·.2))) its []) σ H Q) :
    tLc wi (gOf X.K t) (dtt X.K (fun _ => E0) B) (dt X.K (fun _ => E0) T) (own.map (·.2)) σ H Q := by
  obtain ⟨W, ρ, ok, rel, h⟩ := h
  refine hwi σ H _ ⟨W, ρ, ok, rel, (Ti ρ).mono (fun its q J H1 k1 ok1 w D hD => ?_) (fun _ z => z) h⟩
  obtain ⟨G, Y, walk, hG, hY⟩ := w
  generalize hvs : own.map (·.2) = vs at *
  have nD : ∀ l, W.src ≠ some (D, l) := fun l z => by
    obtain ⟨o, e, _⟩ := ok1.there D (ok1.draw D l z).1
    rw [hD] at e; cases e
  have kD : Kp W H1 (upd H1 D (.lst [])) := Kp.same (Dw.same_new hD)
  have okD : (W.add D).Ok (upd H1 D (.lst [])) := add_ok ok1 hD ⟨(fun z => z), nt_lst⟩
  have hn0 : Fr0 H D := k1.free ok (Fr0.of hD) ok1
  refine lc_it walk (fun i H' => ∃ accV acc, (W.add D).Ok H' ∧ Rel X.K (W.add D) H' (L2.wipe σ vs) (wipeD ρ vs) ∧ Kp W H1 H' ∧ Stp W.S (W.add D).S H1 H' ∧ H' D = some (.lst accV) ∧ RpAll X.K (W.add D).S H' accV acc ∧
    (lcM t B T (wipeD ρ vs) (its.drop i) acc).run (PostN X.K W H Q) (XP X.K W H (EX σ))) ?_ ?_ ?_ ?_
  · refine ⟨[], [], okD, ?_, kD, add_stp ok1 kD hD, upd_same, .nil, q⟩
    exact (⟨(rel.keep ok k1).len, fun i x e n => let ⟨v, h1, h2⟩ := (rel.keep ok k1).get i x e n; ⟨v, h1, RV.add ok1 kD hD h2⟩, rel.sep, rel.tab⟩ : Rel X.K (W.add D) _ σ ρ).wipe vs
  · rintro i H' _ ⟨_, _, _, _, _, st, _⟩
    exact hG _ H' st
  · rintro i x H' H2 lt ⟨accV, acc, ok', rel', k', st', hD', t', run⟩ y
    obtain ⟨sm, it, e1, rv, no⟩ := hY i (W.add D) H' x H2 st' ok' y lt
    have e2 : its.drop i = it :: its.drop (i + 1) := by
      obtain ⟨lt', e3⟩ := List.getElem?_eq_some_iff.mp e1
      rw [List.drop_eq_getElem_cons lt', e3]
    rw [e2] at run
    obtain ⟨ρ1, hk, run⟩ := run_lift.mp run
    have kk : Kp (W.add D) H' H2 := Kp.same sm
    have ok2 := ok'.same sm
    refine tg_rel (rel'.keep ok' kk) hin rv hk fun σ2 rel2 ew => ⟨by rw [ew]; exact wipe_wipe σ vs vs (fun _ h => h), ?_⟩
    refine lc_turn nD ok2 rel2 (sm _ _ hD') (RpAll.step (kk.stp ok') t') run fun H4 accV' acc' hk4 ok4 hD4 t4 run4 => ?_
    have st24 : Stp (W.add D).S (W.add D).S H2 H4 := by
      rcases hk4 with hk4 | ⟨H5, o, hk5, rfl⟩
      · exact hk4.stp ok2
      · refine (hk5.stp ok2).trans ⟨fun b o' hb _ c => ?_, fun b h => .inl h⟩
        rw [upd_ne]
        · exact hb
        · intro z
          subst z
          rcases c with c | c
          · exact c List.mem_cons_self
          · rw [hk5 b _ (sm _ _ hD') nD nt_lst] at hb; cases hb; exact c
    have kp4 : Kp W H1 H4 := fun b o hb n nt => by
      have nb : b ≠ D := fun z => by rw [z, hD] at hb; cases hb
      have h2 : H2 b = some o := sm b o (k' b o hb n nt)
      rcases hk4 with hk4 | ⟨H5, o5, hk5, rfl⟩
      · exact hk4 b o h2 n nt
      · rw [upd_ne nb]; exact hk5 b o h2 n nt
    have relw : Rel X.K (W.add D) H4 (L2.wipe σ vs) (wipeD ρ vs) := by
      refine ⟨rel'.len, fun j z ej n => ?_, rel'.sep, rel'.tab⟩
      obtain ⟨v, g1, g2⟩ := rel'.get j z ej n
      refine ⟨v, g1, ?_⟩
      have stt := (kk.stp ok').trans st24
      cases z with
      | no => trivial
      | d x => exact Rp.step stt g2
      | src => exact g2
      | ty n => exact g2
      | x e => exact RX.step stt g2
      | own ds =>
        obtain ⟨q2, xs, rfl, m2, ns2, hq2, t2⟩ := g2
        refine ⟨q2, xs, rfl, m2, ns2, ?_, RpAll.step stt t2⟩
        have h0 := wipeD_get ej n
        obtain ⟨v', g3, g4⟩ := rel.get j _ h0.1 n
        obtain ⟨q3, xs3, rfl, m3, ns3, hq3, t3⟩ := g4
        rw [wipe_get h0.2, g3] at g1
        cases g1
        have e5 := kp4 q2 _ (k1 q2 _ hq3 ns3 nt_lst) ns3 nt_lst
        have e6 := k' q2 _ (k1 q2 _ hq3 ns3 nt_lst) ns3 nt_lst
        rw [hq2] at e6
        rw [e5, ← e6]
      | ownL ds =>
        obtain ⟨q2, xs, rfl, m2, ns2, hq2, t2⟩ := g2
        refine ⟨q2, xs, rfl, m2, ns2, ?_, paired_mono (fun _ _ z => CloAt.step stt z) t2⟩
        have h0 := wipeD_get ej n
        obtain ⟨v', g3, g4⟩ := rel.get j _ h0.1 n
        obtain ⟨q3, xs3, rfl, m3, ns3, hq3, t3⟩ := g4
        rw [wipe_get h0.2, g3] at g1
        cases g1
        have e5 := kp4 q2 _ (k1 q2 _ hq3 ns3 nt_lst) ns3 nt_lst
        have e6 := k' q2 _ (k1 q2 _ hq3 ns3 nt_lst) ns3 nt_lst
        rw [hq2] at e6
        rw [e5, ← e6]
      | ownD ds =>
        obtain ⟨q2, xs, rfl, m2, ns2, hq2, t2⟩ := g2
        refine ⟨q2, xs, rfl, m2, ns2, ?_, paired_mono (fun _ _ z => ⟨z.1, Rp.step stt z.2⟩) t2⟩
        have h0 := wipeD_get ej n
        obtain ⟨v', g3, g4⟩ := rel.get j _ h0.1 n
        obtain ⟨q3, xs3, rfl, m3, ns3, hq3, t3⟩ := g4
        rw [wipe_get h0.2, g3] at g1
        cases g1
        have e5 := kp4 q2 _ (k1 q2 _ hq3 ns3 nt_dK) ns3 nt_dK
        have e6 := k' q2 _ (k1 q2 _ hq3 ns3 nt_dK) ns3 nt_dK
        rw [hq2] at e6
        rw [e5, ← e6]
      | mutD _ ds =>
        obtain ⟨q2, xs, rfl, m2, ns2, hq2, t2, e2⟩ := g2
        refine ⟨q2, xs, rfl, m2, ns2, ?_, paired_mono (fun _ _ z => ⟨z.1, Rp.step stt z.2⟩) t2, e2⟩
        have h0 := wipeD_get ej n
        obtain ⟨v', g3, g4⟩ := rel.get j _ h0.1 n
        obtain ⟨q3, xs3, rfl, m3, ns3, hq3, t3, _⟩ := g4
        rw [wipe_get h0.2, g3] at g1
        cases g1
        have e5 := kp4 q2 _ (k1 q2 _ hq3 ns3 nt_dK) ns3 nt_dK
        have e6 := k' q2 _ (k1 q2 _ hq3 ns3 nt_dK) ns3 nt_dK
        rw [hq2] at e6
        rw [e5, ← e6]
    exact ⟨accV', acc', ok4, relw, kp4, (st'.trans (kk.stp ok')).trans st24, hD4, t4, run4⟩
  · rintro H' ⟨accV, acc, ok', rel', k', st', hD', t', run⟩
    rw [List.drop_length] at run
    exact run D accV H' (k1.trans k') ok' hn0 hD' t'
theorem de_lc (hc : X.calm = true) (hN : X.N.Nodup) (hi : DI X EX tg iter Ti) (ok : BlkOk X.N X.env.scope scope own) (hin : tgIn t (own.map (·.2)) = true)
    (hg : ∀ (s : Shared) (H : Hp) (C : Addr) (cl : List (Str × Addr)) (fp : List Addr), PG (X.blk s H scope (compEnvC scope cl C X.env) fp) tg (gOf X.K t)) (ht : ∀ (s : Shared) (H : Hp) (C : Addr) (cl : List (Str × Addr)) (fp : List Addr), DTs (X.blk s H scope (compEnvC scope cl C X.env) fp) ifs B)
    (he : ∀ (s : Shared) (H : Hp) (C : Addr) (cl : List (Str × Addr)) (fp : List Addr), DE (X.blk s H scope (compEnvC scope cl C X.env) fp) (fun _ => E0) elt T) (hs : ∀ x, foldedSetIterable iter X.env x = pure x := by intro _; rfl) :
    DE X EX (.ListComp elt [⟨tg, iter, ifs, 0⟩] scope pos) (fun ρ => do let its ← Ti ρ; let ds ← lcM t B T (wipeD ρ (own.map (·.2))) its []; pure (.d (.list ds))) := by
  refine pe_imp (pe_lc (tt := dtt X.K (fun _ => E0) B) (te := dt X.K (fun _ => E0) T) hc hN hi ok hg ht he hs) fun σ H Q ⟨W, ρ, ok, rel, h⟩ => ?_
  refine lc_imp (EX := EX) (Ti := Ti) hin (fun _ _ _ h => h) σ H Q ⟨W, ρ, ok, rel, M.mono _ (fun ds q => PostN.of ok q) (fun _ z => z) ?_⟩
  exact h
theorem ds_setLc {E : XK} {i : Nat} {y : Str} {py spos : Pos} (hc : X.calm = true) (hN : X.N.Nodup) (hy : X.N[i]? = some y) (hyl : X.env.scope.names.lookup y = some .local)
    (hsw : swapsWith (.ListComp elt [⟨tg, iter, ifs, 0⟩] scope pos) (some (.Name y py)) spos.line X.env = pure true) (hi : DI X (fun _ => E) tg iter Ti) (ok : BlkOk X.N X.env.scope scope own) (hin : tgIn t (own.map (·.2)) = true)
    (hg : ∀ (s : Shared) (H : Hp) (C : Addr) (cl : List (Str × Addr)) (fp : List Addr), PG (X.blk s H scope (compEnvC scope cl C X.env) fp) tg (gOf X.K t)) (ht : ∀ (s : Shared) (H : Hp) (C : Addr) (cl : List (Str × Addr)) (fp : List Addr), DTs (X.blk s H scope (compEnvC scope cl C X.env) fp) ifs B)
    (he : ∀ (s : Shared) (H : Hp) (C : Addr) (cl : List (Str × Addr)) (fp : List Addr), DE (X.blk s H scope (compEnvC scope cl C X.env) fp) (fun _ => E0) elt T) (hs : ∀ x, foldedSetIterable iter X.env x = pure x := by intro _; rfl) :
    DS X E (.Assign [.Name y py] (.ListComp elt [⟨tg, iter, ifs, 0⟩] scope pos) spos) (fun ρ => do let its ← Ti ρ; let ds ← lcM t B T (wipeD ρ (own.map (·.2))) its []; pure (.nx (ρ.set i (.d (.list ds))))) := by
  refine ps_imp (ps_setLc (tt := dtt X.K (fun _ => E0) B) (te := dt X.K (fun _ => E0) T) hc hN hy hyl hsw hi ok hg ht he hs) fun D σ H ⟨W0, H0, W, ρ, s, h⟩ => ?_
  refine lc_imp (EX := fun _ => E) (Ti := Ti) hin (fun _ _ _ h => h) σ H _ ⟨W, ρ, s.ok, s.rel, M.mono _ (fun ds q => PostN.of s.ok fun v H' k ok' r => ?_) (fun _ z => s.xp z) h⟩
  exact q W _ H' (k.stp s.ok) ((s.keep k ok').set r rfl)
end
end Dd
namespace Dw
open PySem PySem.Spec PyProof.Rows L2
def tyName : PyData → String
  | .none => "NoneType" | .bool _ => "bool" | .int _ => "int" | .str _ => "str" | .list _ => "list" | .tuple _ => "tuple" | .dict _ => "dict"
def isL : PyData → Bool | .list _ => true | _ => false
def isT : PyData → Bool | .tuple _ => true | _ => false
def isN : PyData → Bool | .none => true | _ => false
def isB : PyData → Bool | .bool _ => true | _ => false
def isI : PyData → Bool | .int _ => true | .bool _ => true | _ => false
def isM : PyData → Bool | .dict _ => true | _ => false
def isS : PyData → Bool | .str _ => true | _ => false
theorem kitL (d : PyData) : kitB (tyName d) "list" = some (isL d) := by
  cases d <;> (dsimp only [tyName, isL]; decide +kernel)
theorem kitT (d : PyData) : kitB (tyName d) "tuple" = some (isT d) := by
  cases d <;> (dsimp only [tyName, isT]; decide +kernel)
theorem kitBo (d : PyData) : kitB (tyName d) "bool" = some (isB d) := by
  cases d <;> (dsimp only [tyName, isB]; decide +kernel)
theorem kitI (d : PyData) : kitB (tyName d) "int" = some (isI d) := by
  cases d <;> (dsimp only [tyName, isI]; decide +kernel)
theorem kitM (d : PyData) : kitB (tyName d) "dict" = some (isM d) := by
  cases d <;> (dsimp only [tyName, isM]; decide +kernel)
theorem kitS (d : PyData) : kitB (tyName d) "str" = some (isS d) := by
  cases d <;> (dsimp only [tyName, isS]; decide +kernel)
def sameS : PyData → PyData → Bool
  | .none, .none => true
  | .bool a, .bool b => a == b
  | .int a, .int b => a == b
  | .str a, .str b => a == b
  | _, _ => false
def sameD : Nat → PyData → PyData → Bool
  | 0, d, e => sameS d e
  | n + 1, .list ds, .list es => decide (ds.length = es.length) && (List.zipWith (sameD n) ds es).all id
  | n + 1, .tuple ds, .tuple es => decide (ds.length = es.length) && (List.zipWith (sameD n) ds es).all id
  | _ + 1, d, e => sameS d e
def fits : Nat → PyData → Prop
  | 0, d => isL d = false ∧ isT d = false ∧ isM d = false
  | n + 1, .list ds => ds.length ≤ 1000 ∧ ∀ x ∈ ds, fits n x
  | n + 1, .tuple ds => ds.length ≤ 1000 ∧ ∀ x ∈ ds, fits n x
  | _ + 1, d => isM d = false
theorem SqT.same {K : PySem.W.Frag} {H H' : Hp} {a : Addr} {xs : List V} (e : Same H H') (h : SqT K H a xs) : SqT K H' a xs := by
  rcases h with (h | ⟨o, h⟩) | h
  · exact .inl (.inl (e _ _ h))
  · exact .inl (.inr ⟨o, e _ _ h⟩)
  · exact .inr h
mutual
theorem dp_same {K : PySem.W.Frag} {H H' : Hp} (e : Same H H') : ∀ {d : PyData} {v : V}, Dp K H v d → Dp K H' v d
  | .none, _, h => by cases h; exact .non
  | .bool b, _, h => by cases h; exact .bl b
  | .int i, _, h => by cases h; exact .int i
  | .str x, _, h => by cases h; exact .str x
  | .list ds, _, h => by
    cases h with
    | lst hs ha => exact .lst (e.seq hs) (dps_same e ha)
  | .tuple ds, _, h => by
    cases h with
    | tup hs ha => exact .tup (SqT.same e hs) (dps_same e ha)
  | .dict _, _, h => by cases h
theorem dps_same {K : PySem.W.Frag} {H H' : Hp} (e : Same H H') : ∀ {ds : List PyData} {vs : List V}, DpAll K H vs ds → DpAll K H' vs ds
  | [], _, h => by cases h; exact .nil
  | d :: ds, _, h => by
    cases h with
    | cons h1 h2 => exact .cons (dp_same e h1) (dps_same e h2)
end
theorem dps_len {K : PySem.W.Frag} {H : Hp} : ∀ {ds : List PyData} {vs : List V}, DpAll K H vs ds → vs.length = ds.length
  | [], _, h => by cases h; rfl
  | d :: ds, _, h => by
    cases h with
    | cons h1 h2 => exact congrArg Nat.succ (dps_len h2)
theorem dps_get {K : PySem.W.Frag} {H : Hp} : ∀ {ds : List PyData} {vs : List V} {i : Nat} {v : V}, DpAll K H vs ds → vs[i]? = some v → ∃ d, ds[i]? = some d ∧ Dp K H v d
  | [], _, i, v, h, e => by cases h; simp at e
  | d :: ds, _, 0, v, h, e => by
    cases h with
    | cons h1 h2 =>
      have e' := Option.some.inj e
      subst e'
      exact ⟨d, rfl, h1⟩
  | d :: ds, _, i + 1, v, h, e => by
    cases h with
    | cons h1 h2 => exact dps_get (i := i) h2 (by simpa using e)
theorem dp_ty {K : PySem.W.Frag} {H : Hp} {v : V} {d : PyData} (h : Dp K H v d) : TyX K H v (.type (tyName d)) := by
  cases h with
  | non => exact .base .non
  | bl b => exact .base (.bl b)
  | int i => exact .base (.int i)
  | str x => exact .base (.str x)
  | lst hs ha =>
    rcases hs with (h | ⟨o, h⟩) | ⟨o, its, n, h1, h2, _⟩
    · exact .base (.lst h)
    · exact .base (.frz h)
    · exact .kList h1 h2
  | tup hs ha =>
    rcases hs with (h | ⟨o, h⟩) | ⟨o, its, n, h1, h2, _⟩
    · exact .base (.tup h)
    · exact .fTuple h
    · exact .kTuple h1 h2
theorem dp_non {K : PySem.W.Frag} {H : Hp} {v : V} {d : PyData} (h : Dp K H v d) : decide (v = .non) = isN d := by
  cases h with
  | non => exact decide_eq_true rfl
  | _ => exact decide_eq_false fun z => nomatch z
theorem lc_pairs {J : It} {xs ys : List V} {g : TG} {tt : TT} {te : TE} {vs : List Nat} {σ : L2.St} {H1 : Hp} {D : Addr} {Qd : Hp → Prop} (hl : xs.length = ys.length) (Pv : Nat → Hp → Prop) (h0 : Pv 0 (upd H1 D (.lst [])))
    (go : ∀ i H, Pv i H → i < xs.length → J.go i H) (stop : ∀ H, Pv xs.length H → J.stop xs.length H)
    (yl : ∀ i H v H', Pv i H → J.yld i H v H' → ∃ T x y, v = .ref T ∧ H T = none ∧ H' = upd H T (.tup [x, y]) ∧ xs[i]? = some x ∧ ys[i]? = some y)
    (hs : ∀ (i : Nat) (x y : V) (T : Addr) (H : Hp), xs[i]? = some x → ys[i]? = some y → Pv i H → H T = none → g (.ref T) (wipe σ vs) (upd H T (.tup [x, y])) fun σ2 H2 => wipe σ2 vs = wipe σ vs ∧ tt σ2 H2 fun b H3 =>
      if b = true then te σ2 H3 fun y H4 => ∃ acc, H4 D = some (.lst acc) ∧ acc.length < sizeLine ∧ Pv (i + 1) (upd H4 D (.lst (acc ++ [y]))) else Pv (i + 1) H3) (hd : ∀ H, Pv xs.length H → Qd H) :
    ∃ W : Nat → Nat → Hp → Prop, (∃ m, W 0 m (upd H1 D (.lst []))) ∧ ∀ i m H, W i m H →
      (J.stop i H ∧ Qd H) ∨ (J.go i H ∧ ∃ Nx : Hp → Prop, (∀ H', Nx H' → ∃ m', m' < m ∧ W (i + 1) m' H') ∧ ∀ x H', J.yld i H x H' → g x (wipe σ vs) H' fun σ2 H2 => wipe σ2 vs = wipe σ vs ∧ tt σ2 H2 fun b H3 =>
        if b = true then te σ2 H3 fun y H4 => ∃ acc, H4 D = some (.lst acc) ∧ acc.length < sizeLine ∧ Nx (upd H4 D (.lst (acc ++ [y]))) else Nx H3) := by
  refine ⟨fun i m H => m + i = xs.length ∧ Pv i H, ⟨xs.length, rfl, h0⟩, ?_⟩
  rintro i m H ⟨hm, p⟩
  by_cases lt : i < xs.length
  · refine .inr ⟨go i H p lt, Pv (i + 1), fun H' p' => ⟨m - 1, by omega, by omega, p'⟩, fun v H' y => ?_⟩
    obtain ⟨T, a, b, rfl, nT, rfl, ex, ey⟩ := yl i H v H' p y
    exact hs i a b T H ex ey p nT
  · obtain rfl : i = xs.length := by omega
    exact .inl ⟨stop H p, hd H p⟩
def spSame (K : PySem.W.Frag) (n : Nat) : Sp := fun vs H Q _ => ∃ (x y : V) (d e : PyData), vs = [x, y] ∧ Dp K H x d ∧ Dp K H y e ∧ fits n e ∧ ∀ H', Same H H' → Q (.bl (sameD n d e)) H'
end Dw
namespace Dd
open PySem PySem.Spec PyProof.Rows L2
def defM (m : Nat) (U : List SD → M Out) (xs : List SD) : M SD := do
  match ← U (xs ++ List.replicate (m - xs.length) .no) with
  | .rt y => pure y
  | .nx _ => pure (.d .none)
  | _ => M.fail
section
variable {P : Program} {w : World} {K : PySem.W.Frag} {mg : Str → Option Value} {base : Heap}
theorem start_rel {W : Wd} {H : Hp} {N : List Str} {vs : List V} {xs : List SD} (r : Paired (RV K W H) vs xs) (hl : xs.length ≤ N.length) (no : ∀ x ∈ xs, isOwn x = false) (tb : W.tab = theTab K) : Rel K W H (L2.start N vs) (xs ++ List.replicate (N.length - xs.length) .no) := by
  have hv := Paired.length r
  have gt : ∀ {vs : List V} {xs : List SD}, Paired (RV K W H) vs xs → ∀ (i : Nat) (x : SD), xs[i]? = some x → ∃ v, vs[i]? = some v ∧ RV K W H v x := by
    intro vs xs h
    induction h with
    | nil => intro i x e; simp at e
    | cons h t ih =>
      intro i x e
      cases i with
      | zero => simp at e; subst e; exact ⟨_, rfl, h⟩
      | succ j => obtain ⟨v, h1, h2⟩ := ih j x (by simpa using e); exact ⟨v, by simpa using h1, h2⟩
  have back : ∀ (i : Nat) (x : SD), (xs ++ List.replicate (N.length - xs.length) SD.no)[i]? = some x → x ≠ .no → xs[i]? = some x := fun i x e n => by
    by_cases lt : i < xs.length
    · rwa [List.getElem?_append_left lt] at e
    · rw [List.getElem?_append_right (by omega), List.getElem?_replicate] at e
      split at e
      · cases e; exact absurd rfl n
      · cases e
  refine ⟨?_, fun i x e n => ?_, fun i j x y p ne e1 e2 o1 o2 s1 => ?_, tb⟩
  · unfold L2.start
    rw [List.length_append, List.length_append, List.length_map, List.length_replicate, List.length_replicate]
    omega
  · obtain ⟨v, h1, h2⟩ := gt r i x (back i x e n)
    have lt : i < vs.length := (List.getElem?_eq_some_iff.mp h1).1
    refine ⟨v, ?_, h2⟩
    unfold L2.start
    rw [List.getElem?_append_left (by simpa using lt), List.getElem?_map, h1]
    rfl
  · have := no x (List.mem_of_getElem? (back i x e1 (own_ne o1)))
    rw [o1] at this; cases this
theorem ok_def {x qual : Str} {st : Stmt} {f : Addr} {fd : FuncData} {N ps : List Str} {k n : Nat} {U : List SD → M Out} (F : Fun K x qual st f fd) (S : FnScope N ps (defScope st)) (hn : ps.length = n) (hN : n ≤ N.length)
    (hb : ∀ (cdv : Value) (A : Around) (outer : List Env) (s : Shared) (H : Hp) (E : XK), Room k (A.deeper (envOfC qual (defScope st) s.heap.objs.size f cdv)) → DSs (cxOf (L2.CX P w) P w K mg base N qual (defScope st) f cdv A outer s H E) E (defBody st) U) :
    FnOk P w K mg base (L2.CX P w) (k + 1) f fd ps (spX K n (defM N.length U)) := by
  refine F.okX S (fun vs H Q E h => ?_) (fun cdv A outer s H vs Q E hr h => ⟨_, hb cdv A outer s H E hr, ?_⟩)
  · obtain ⟨W, xs, ok, r, _, hl, _⟩ := h
    rw [Paired.length r, hl, hn]
  · obtain ⟨W, xs, ok, r, no, hl, run, tb⟩ := h
    refine ⟨W, H, W, _, ⟨ok, start_rel r (by rw [hl]; exact hN) no tb, rfl, fun _ h => h, Kp.refl W H, fun _ h => .inl h, fun i x p e o _ => ?_, ok, rfl⟩, M.mono _ (fun o q => ?_) (fun _ h => h) run⟩
    · by_cases lt : i < xs.length
      · rw [List.getElem?_append_left lt] at e
        rw [no x (List.mem_of_getElem? e)] at o; cases o
      · rw [List.getElem?_append_right (by omega), List.getElem?_replicate] at e
        split at e
        · cases e; cases o
        · cases e
    · cases o with
      | rt y => exact fun v H' k ok' rv => q v H' k ok' rv
      | nx ρ => exact fun W' σ' H' st s' => q .non H' s'.frm (s'.ok0' s'.ok) .non
      | bk ρ => exact (show False from q).elim
      | ct ρ => exact (show False from q).elim
theorem fnok_cx {k : Nat} {f : Addr} {fd : FuncData} {ps : List Str} {sp : Sp} (G : FnOk P w K mg base CX0 k f fd ps sp) : FnOk P w K mg base (L2.CX P w) k f fd ps sp := by
  refine ⟨G.len, fun A outer s H args us vs Q E hr e0 hb hv hs => codeAny_mono (G.run A outer s H args us vs Q E hr e0 hb hv hs) fun r s' hq => ?_⟩
  cases r with
  | ok fl => cases fl <;> exact hq
  | error e => exact (show False from hq).elim
def drawOk (c : Int) : Bool := decide (0 < c) && decide (c.natAbs.log2 < 8000)
def drawD : List SD → M SD
  | [.src, .d (.int c)] => M.when (drawOk c) (do let v ← M.anyI c; pure (dI v))
  | _ => M.fail
theorem ok_drawD {k : Nat} {f : Addr} {fd : FuncData} {ps : List Str} (G : FnOk P w K mg base CX0 k f fd ps Dw.spDraw) (hn : ps.length = 2) : FnOk P w K mg base (L2.CX P w) k f fd ps (spX K 2 drawD) := by
  refine FnOk.imp (fnok_cx G) fun vs H Q E h => ?_
  obtain ⟨W, xs, ok, r, no, hl, run, tb⟩ := h
  unfold drawD at run
  split at run
  · rename_i c
    obtain ⟨v, u, rfl, r1, r2⟩ := pair2 r
    obtain ⟨cc, run⟩ := run_when.mp run
    obtain ⟨c1, c2⟩ := Bool.and_eq_true_iff.mp cc
    obtain ⟨a, l, e, rfl⟩ := r1
    cases r2
    obtain ⟨h1, h2, h3⟩ := ok.draw a l e
    have srcA : ∃ xs, H a = some (.lst xs) := by obtain ⟨ms, i, r, sd, S⟩ := h3; exact ⟨_, S.at_⟩
    obtain ⟨xsA, hA⟩ := srcA
    refine ⟨a, l, c, rfl, h3, of_decide_eq_true c1, ?_, fun H' v B S' v0 v1 => run v v0 v1 (.int v) H' (fun b o hb n _ => ?_) ⟨fun b hb => ?_, fun a' l' e' => ?_, tabs_but ok.tabs hA nt_lst (fun f z => nomatch z) B⟩ (.int v)⟩
    · have c1 := of_decide_eq_true c1
      exact (Nat.log2_lt (by omega)).mp (of_decide_eq_true c2)
    · by_cases z : b = a
      · subst z; exact absurd e (n l)
      · rw [B b z]; exact hb
    · by_cases z : b = a
      · subst z
        obtain ⟨ms, i, r, sd, S⟩ := S'
        exact ⟨_, S.at_, (fun z => z), nt_lst⟩
      · rw [B b z]; exact ok.there b hb
    · rw [e] at e'
      cases e'
      exact ⟨h1, h2, S'⟩
  · exact run.elim
def sameM (n : Nat) : List SD → M SD
  | [.d x, .d y] => do M.need (Dw.fits n y ∧ x.canLay0 = true ∧ y.canLay0 = true); pure (dB (Dw.sameD n x y))
  | _ => M.fail
theorem ok_sameD {k n : Nat} {f : Addr} {fd : FuncData} {ps : List Str} (G : FnOk P w K mg base CX0 k f fd ps (Dw.spSame K n)) : FnOk P w K mg base (L2.CX P w) k f fd ps (spX K 2 (sameM n)) := by
  refine FnOk.imp (fnok_cx G) fun vs H Q E h => ?_
  obtain ⟨W, xs, ok, r, no, hl, run, tb⟩ := h
  unfold sameM at run
  split at run
  · obtain ⟨v, u, rfl, r1, r2⟩ := pair2 r
    obtain ⟨⟨h1, h2, h3⟩, q⟩ := run
    exact ⟨v, u, _, _, rfl, Rp.dp h2 r1, Rp.dp h3 r2, h1, fun H' sm => q _ H' (Kp.same sm) (ok.same sm) (.bl _)⟩
  · exact run.elim
def spLawD (K : PySem.W.Frag) : Sp := fun vs H Q _ => ∃ (a : Addr) (ns : List Int), vs = [.ref a] ∧ SqL K H a (ns.map V.int) ∧ LamX.Tabs (theTab K) H ∧ ∀ H', Q (.bl true) H'
theorem law_read {N : List Str} {m : Nat} {U : List SD → M Out} {E : XK} {vs : List V} {H : Hp} {Q : VK} (hm : N.length = m + 2) (run : (U (.no :: .src :: List.replicate m .no)).run (fun o => o = .rt (dB true)) (fun _ => False)) (h : spLawD K vs H Q E) :
    tSeq (tAsg (tCall (Dw.spSrc K) [] E0 (tCons (tVar 0) tNil)) (gName 1)) (ds K E U) { nx := fun _ H' => Q .non H', rt := Q } (L2.start N vs) H := by
  obtain ⟨a, ns, rfl, hS, tbs, q⟩ := h
  have e0 : (L2.start N [V.ref a])[0]? = some (some (.ref a)) := by
    unfold L2.start
    rfl
  refine ⟨_, e0, a, ns, rfl, hS, fun H' p l sm np nl src => ?_⟩
  have sl : (L2.start N [V.ref a]).length = m + 2 := by
    unfold L2.start
    rw [List.length_append, List.length_map, List.length_replicate, hm]
    show 1 + _ = _
    rw [List.length_singleton]
    omega
  obtain ⟨ms, i, r, sd, SI⟩ := id src
  have ok : (Wd.mk [p] (some (p, l)) (theTab K)).Ok H' := by
    refine ⟨fun b hb => ?_, fun a' l' e' => ?_, tbs.ext sm⟩
    · have e : b = p := by simpa using hb
      subst e
      exact ⟨_, SI.at_, (fun z => z), nt_lst⟩
    · cases e'
      exact ⟨List.mem_cons_self, fun z => SI.ne (by simpa using z), src⟩
  refine ⟨⟨[p], some (p, l), theTab K⟩, H', ⟨[p], some (p, l), theTab K⟩, .no :: .src :: List.replicate m .no, ⟨ok, ⟨by rw [List.length_set, sl]; simp, fun j x e n => ?_, fun j j' x y p' ne e1 e2 o1 o2 s1 => ?_, rfl⟩, rfl, fun _ h => h, Kp.refl _ _, fun _ h => .inl h, fun j x p' e o _ => ?_, ok, rfl⟩, M.mono _ (fun o e => ?_) (fun _ z => z.elim) run⟩
  · match j, e with
    | 0, e => cases e; exact absurd rfl n
    | 1, e => cases e; exact ⟨.ref p, List.getElem?_set_self (by rw [sl]; omega), p, l, rfl, rfl⟩
    | j + 2, e =>
      simp only [List.getElem?_cons_succ, List.getElem?_replicate] at e
      split at e
      · cases e; exact absurd rfl n
      · cases e
  · have nn : ∀ (j : Nat) (x : SD), (SD.no :: SD.src :: List.replicate m SD.no)[j]? = some x → isOwn x = false := fun j x e => by
      match j, e with
      | 0, e => cases e; rfl
      | 1, e => cases e; rfl
      | j + 2, e =>
        simp only [List.getElem?_cons_succ, List.getElem?_replicate] at e
        split at e
        · cases e; rfl
        · cases e
    rw [nn j x e1] at o1; cases o1
  · match j, e with
    | 0, e => cases e; cases o
    | 1, e => cases e; cases o
    | j + 2, e =>
      simp only [List.getElem?_cons_succ, List.getElem?_replicate] at e
      split at e
      · cases e; cases o
      · cases e
  · subst e
    exact fun v H2 k2 ok2 rv => by cases rv; exact q H2
theorem ok_lawD {st st1 : Stmt} {rest : List Stmt} {f : Addr} {fd : FuncData} {N : List Str} {k m : Nat} {U : List SD → M Out} (F : Fun K "law" "law" st f fd) (S : FnScope N ["_law_script"] (defScope st)) (hb : defBody st = st1 :: rest) (hm : N.length = m + 2)
    (h1 : ∀ (cdv : Value) (A : Around) (outer : List Env) (s : Shared) (H : Hp) (E : XK), Room k (A.deeper (envOfC "law" (defScope st) s.heap.objs.size f cdv)) → PS (cxOf (L2.CX P w) P w K mg base N "law" (defScope st) f cdv A outer s H E) st1 (tAsg (tCall (Dw.spSrc K) [] E0 (tCons (tVar 0) tNil)) (gName 1)))
    (h2 : ∀ (cdv : Value) (A : Around) (outer : List Env) (s : Shared) (H : Hp) (E : XK), Room k (A.deeper (envOfC "law" (defScope st) s.heap.objs.size f cdv)) → DSs (cxOf (L2.CX P w) P w K mg base N "law" (defScope st) f cdv A outer s H E) E rest U)
    (run : (U (.no :: .src :: List.replicate m .no)).run (fun o => o = .rt (dB true)) (fun _ => False)) : FnOk P w K mg base (L2.CX P w) (k + 1) f fd ["_law_script"] (spLawD K) := by
  refine F.okX S (fun vs H Q E h => ?_) (fun cdv A outer s H vs Q E hr h => ⟨_, by rw [hb]; exact pss_cons (h1 cdv A outer s H E hr) (h2 cdv A outer s H E hr), law_read hm run h⟩)
  obtain ⟨a, ns, rfl, _⟩ := h
  rfl
end
end Dd
namespace Dd
open PySem PySem.Spec PyProof.Rows L2
section
variable {X : Cx} {E : XK} {st : Stmt} {sts a b : List Stmt} {e e1 e2 e3 c o : Expr} {es : List Expr} {x y z : Str} {pos p p2 apos cpos : Pos} {T T1 T2 T3 : List SD → M SD} {Ts : List SD → M (List SD)} {B : List SD → M Bool} {U U1 U2 : List SD → M Out}
theorem ds_unp {t : Tg} {tg : Expr} (he : DE X (fun _ => E) e T) (hg : PG X tg (gOf X.K t)) (hs : swapsWithSole [tg] e pos.line X.env = pure false := by rfl) (hw : swappedStores [tg] e X.env = pure none := by rfl)
    (h1 : (assignEach [tg] X.env).map (·.2) = [assign tg X.env] := by rfl) : DS X E (.Assign [tg] e pos) (fun ρ => do let v ← T ρ; let ρ' ← M.lift (kOf t v ρ); pure (.nx ρ')) := by
  refine ps_imp (ps_asg he hg hs hw h1) fun D σ H ⟨W0, H0, W, ρ, s, h⟩ => ?_
  refine ex_run s h fun v q vv H' k ok r => ?_
  obtain ⟨ρ', hk, q⟩ := run_lift.mp q
  exact tg_sst (s.keep k ok) r hk fun σ' s' => q W σ' H' (k.stp s.ok) s'
theorem ds_par {i j : Nat} {px py pt : Pos} {kt k2 pt2} (hc : X.calm = true) (hN : X.N.Nodup) (hi : X.N[i]? = some x) (hj : X.N[j]? = some y) (hij : i ≠ j)
    (hx : X.env.scope.names.lookup x = some .local) (hy : X.env.scope.names.lookup y = some .local) (h1 : DE X (fun _ => E) e1 T1) (h2 : DE X (fun _ => E) e2 T2)
    (hw : swappedStores [.Tuple [.Name x px, .Name y py] kt pt] (.Tuple [e1, e2] k2 pt2) X.env = pure (some [x, y])) (hst : starEach [e1, e2] X.env = (false, eval e1 X.env) :: starEach [e2] X.env := by rfl) (hst2 : starEach [e2] X.env = (false, eval e2 X.env) :: starEach [] X.env := by rfl)
    (hs : swapsWithSole [.Tuple [.Name x px, .Name y py] kt pt] (.Tuple [e1, e2] k2 pt2) pos.line X.env = pure false := by rfl) :
    DS X E (.Assign [.Tuple [.Name x px, .Name y py] kt pt] (.Tuple [e1, e2] k2 pt2) pos) (fun ρ => do let v ← T1 ρ; let v ← M.lift (plain v); let w ← T2 ρ; let w ← M.lift (plain w); pure (.nx ((ρ.set i v).set j w))) := by
  refine ps_imp (ps_par hc hN hi hj hij hx hy (pa_cons h1 (pa_cons h2 pa_nil hst2) hst) hw hs) fun D σ H ⟨W0, H0, W, ρ, s, h⟩ => ?_
  refine ex_run (T := T1) s h fun v q vv H1 k1 ok1 r1 => ?_
  obtain ⟨v', e1, q⟩ := run_lift.mp q
  obtain ⟨rfl, n1⟩ := plain_eq e1
  have s1 := s.keep k1 ok1
  refine ex_run (T := T2) s1 q fun w q ww H2 k2 ok2 r2 => ?_
  obtain ⟨w', e2, q⟩ := run_lift.mp q
  obtain ⟨rfl, n2⟩ := plain_eq e2
  exact ⟨vv, ww, rfl, q W _ H2 ((k1.stp s.ok).trans (k2.stp ok1)) (((s1.keep k2 ok2).set (r1.keep ok1 k2) n1).set r2 n2)⟩
end
section
variable (P : Program) (w : World) (K : PySem.W.Frag) (mg : Str → Option Value) (base : Heap)
def At (x : Str) (st : Stmt) : Prop := ∃ f fd, Fun K x x st f fd ∧ mg x = some (.ref f)
def Ok (k : Nat) (x : Str) (n : Nat) (g : List SD → M SD) : Prop := ∃ f fd ps, mg x = some (.ref f) ∧ PySem.W.keepIn K (.ref f) = true ∧ L2.Binds K fd ps [] ∧ FnOk P w K mg base (L2.CX P w) k f fd ps (spX K n g)
def OkD (k : Nat) (x : Str) (n : Nat) (dvs : List V) (dds : List PyData) (g : List SD → M SD) : Prop := ∃ f fd ps ds, mg x = some (.ref f) ∧ PySem.W.keepIn K (.ref f) = true ∧ L2.Binds K fd ps ds ∧ Vals dvs ds ∧ (∀ S H, RpAll K S H dvs dds) ∧ FnOk P w K mg base (L2.CX P w) k f fd ps (spX K n g)
def OkK (k : Nat) (x : Str) (n : Nat) (ks : List Str) (perm : {α : Type} → List α → List α) (g : List SD → M SD) : Prop := ∃ f fd ps, mg x = some (.ref f) ∧ PySem.W.keepIn K (.ref f) = true ∧ KBn K fd ps 0 ks (fun _ ws => perm ws) (fun _ zs => perm zs) ∧
  (∀ {α β : Type} {R : α → β → Prop} {xs : List α} {ys : List β}, Paired R xs ys → Paired R (perm xs) (perm ys)) ∧ FnOk P w K mg base (L2.CX P w) k f fd ps (spX K n g)
end
section
variable {P : Program} {w : World} {K : PySem.W.Frag} {mg : Str → Option Value} {base : Heap}
theorem okOf {x : Str} {st : Stmt} {N ps : List Str} {k n : Nat} {U : List SD → M Out} (A : At K mg x st) (S : FnScope N ps (defScope st)) (hn : ps.length = n) (hN : n ≤ N.length)
    (hbd : ∀ (kV doc pm : Value) (an : Option Addr) (cdv ct : Value) (us : List Value), us.length = ps.length → bindArgs (PySem.W.fnOf x x (defArgs st) (defBody st) (defScope st) .none kV doc pm an cdv ct) ⟨us, []⟩ = pure (ps.zip us))
    (hb : ∀ (f : Addr) (cdv : Value) (A : Around) (outer : List Env) (s : Shared) (H : Hp) (E : XK), Room k (A.deeper (envOfC x (defScope st) s.heap.objs.size f cdv)) → DSs (cxOf (L2.CX P w) P w K mg base N x (defScope st) f cdv A outer s H E) E (defBody st) U) :
    Ok P w K mg base (k + 1) x n (defM N.length U) := by
  obtain ⟨f, fd, F, hm⟩ := A
  exact ⟨f, fd, ps, hm, F.kp, F.binds hbd, ok_def F S hn hN (hb f)⟩
end
section
variable {X : Cx} {EX : L2.St → XK} {e : Expr} {es : List Expr} {x : Str} {pos p : Pos} {Ts : List SD → M (List SD)} {n k : Nat} {g : List SD → M SD}
theorem de_callO (G : Ok X.prog X.w X.K X.mg X.base k x n g) (room : Room k X.A) (hg : Gl X x) (hx : ∀ σ, PassesAt (L2.CX X.prog X.w) X σ (EX σ)) (ha : DA X EX (e :: es) Ts) (hdb : (x == ("__debug__" : Str)) = false := by decide)
    (he : starEach (e :: es) X.env = (false, eval e X.env) :: starEach es X.env := by rfl) (hpl : (backTo pos (starEach es X.env)).any (·.1) = false := by rfl) : DE X EX (.Call (.Name x p) (e :: es) [] pos) (fun ρ => do let xs ← Ts ρ; callM n g xs) := by
  obtain ⟨f, fd, ps, hm, hk, hb, F⟩ := G
  exact de_call F room hg hm hk hb hx ha hdb he hpl
theorem de_calmO (G : Ok X.prog X.w X.K X.mg X.base k x n g) (room : Room k X.A) (hg : Gl X x) (ha : DA X (fun _ => E0) (e :: es) Ts) (hdb : (x == ("__debug__" : Str)) = false := by decide)
    (he : starEach (e :: es) X.env = (false, eval e X.env) :: starEach es X.env := by rfl) (hpl : (backTo pos (starEach es X.env)).any (·.1) = false := by rfl) : DE X (fun _ => E0) (.Call (.Name x p) (e :: es) [] pos) (fun ρ => do let xs ← Ts ρ; callM n (fun xs => M.calm (g xs)) xs) := by
  obtain ⟨f, fd, ps, hm, hk, hb, F⟩ := G
  exact de_calm F room hg hm hk hb ha hdb he hpl
abbrev DK (X : Cx) (EX : L2.St → XK) (kws : List Keyword) (T : List SD → M (List SD)) : Prop := PK X kws (dta X.K EX T)
end
end Dd
namespace Dd
open PySem PySem.Spec PyProof.Rows L2
def lcM2 (tg tg1 : Tg) (B : List SD → M Bool) (Ti1 : List SD → M (List SD)) (B1 : List SD → M Bool) (T : List SD → M SD) (vs1 : List Nat) (ρ : List SD) : List SD → List PyData → M (List PyData)
  | [], acc => pure acc
  | x :: r, acc => do
    let ρ1 ← M.lift (kOf tg x ρ)
    let b ← M.calm (B ρ1)
    if b then do
      let its ← M.calm (Ti1 ρ1)
      let acc' ← lcM tg1 B1 T (wipeD ρ1 vs1) its acc
      lcM2 tg tg1 B Ti1 B1 T vs1 ρ r acc'
    else lcM2 tg tg1 B Ti1 B1 T vs1 ρ r acc
section
variable {K : PySem.W.Frag} {W : Wd} {D : Addr}
structure LcI (K : PySem.W.Frag) (W : Wd) (D : Addr) (H1 : Hp) (σ : L2.St) (ρ : List SD) (H' : Hp) (accV : List V) (acc : List PyData) : Prop where
  ok : (W.add D).Ok H'
  rel : Rel K (W.add D) H' σ ρ
  kp : Kp W H1 H'
  stp : Stp W.S (W.add D).S H1 H'
  at_ : H' D = some (.lst accV)
  rep : RpAll K (W.add D).S H' accV acc
theorem LcI.next {H1 H2 H4 : Hp} {σ : L2.St} {ρ : List SD} {accV accV' : List V} {acc acc' : List PyData} (i : LcI K W D H1 σ ρ H2 accV acc) (hD : H1 D = none) (nD : ∀ l, W.src ≠ some (D, l)) (hk : Kp (W.add D) H2 H4 ∨ ∃ H5 o, Kp (W.add D) H2 H5 ∧ H4 = upd H5 D o)
    (hown : ∀ (j : Nat) (x : SD) (q : Addr), ρ[j]? = some x → isOwn x = true → σ[j]? = some (some (.ref q)) → ∃ o, H1 q = some o)
    (ok4 : (W.add D).Ok H4) (hD4 : H4 D = some (.lst accV')) (t4 : RpAll K (W.add D).S H4 accV' acc') : LcI K W D H1 σ ρ H4 accV' acc' := by
  have st24 : Stp (W.add D).S (W.add D).S H2 H4 := by
    rcases hk with hk4 | ⟨H5, o, hk5, rfl⟩
    · exact hk4.stp i.ok
    · refine (hk5.stp i.ok).trans ⟨fun b o' hb _ c => ?_, fun b h => .inl h⟩
      rw [upd_ne]
      · exact hb
      · intro z
        subst z
        rcases c with c | c
        · exact c List.mem_cons_self
        · rw [hk5 b _ i.at_ nD nt_lst] at hb; cases hb; exact c
  have kp24 : ∀ b o, b ≠ D → H2 b = some o → (∀ l, W.src ≠ some (b, l)) → NT o → H4 b = some o := fun b o nb h2 n nt => by
    rcases hk with hk4 | ⟨H5, o5, hk5, rfl⟩
    · exact hk4 b o h2 n nt
    · rw [upd_ne nb]; exact hk5 b o h2 n nt
  refine ⟨ok4, ⟨i.rel.len, fun j z ej n => ?_, i.rel.sep, i.rel.tab⟩, fun b o hb n nt => ?_, i.stp.trans st24, hD4, t4⟩
  · obtain ⟨v, g1, g2⟩ := i.rel.get j z ej n
    refine ⟨v, g1, ?_⟩
    cases z with
    | no => trivial
    | d x => exact Rp.step st24 g2
    | src => exact g2
    | ty n => exact g2
    | x e => exact RX.step st24 g2
    | own ds =>
      obtain ⟨q2, xs, rfl, m2, ns2, hq2, t2⟩ := g2
      obtain ⟨o, ho⟩ := hown j _ q2 ej rfl g1
      exact ⟨q2, xs, rfl, m2, ns2, kp24 q2 _ (fun z => by rw [z, hD] at ho; cases ho) hq2 ns2 nt_lst, RpAll.step st24 t2⟩
    | ownL ds =>
      obtain ⟨q2, xs, rfl, m2, ns2, hq2, t2⟩ := g2
      obtain ⟨o, ho⟩ := hown j _ q2 ej rfl g1
      exact ⟨q2, xs, rfl, m2, ns2, kp24 q2 _ (fun z => by rw [z, hD] at ho; cases ho) hq2 ns2 nt_lst, paired_mono (fun _ _ z => CloAt.step st24 z) t2⟩
    | ownD ds =>
      obtain ⟨q2, xs, rfl, m2, ns2, hq2, t2⟩ := g2
      obtain ⟨o, ho⟩ := hown j _ q2 ej rfl g1
      exact ⟨q2, xs, rfl, m2, ns2, kp24 q2 _ (fun z => by rw [z, hD] at ho; cases ho) hq2 ns2 nt_dK, paired_mono (fun _ _ z => ⟨z.1, Rp.step st24 z.2⟩) t2⟩
    | mutD _ ds =>
      obtain ⟨q2, xs, rfl, m2, ns2, hq2, t2, e2⟩ := g2
      obtain ⟨o, ho⟩ := hown j _ q2 ej rfl g1
      exact ⟨q2, xs, rfl, m2, ns2, kp24 q2 _ (fun z => by rw [z, hD] at ho; cases ho) hq2 ns2 nt_dK, paired_mono (fun _ _ z => ⟨z.1, Rp.step st24 z.2⟩) t2, e2⟩
  · exact kp24 b o (fun z => by rw [z, hD] at hb; cases hb) (i.kp b o hb n nt) n nt
end
section
variable {X : Cx} {EX : L2.St → XK} {elt tg iter tg1 iter1 : Expr} {ifs ifs1 : List Expr} {scope : Scope} {own : List (Str × Nat)} {vs1 : List Nat} {pos : Pos} {Ti Ti1 : List SD → M (List SD)} {B B1 : List SD → M Bool} {T : List SD → M SD} {t t1 : Tg}
def OwnOld (H1 : Hp) (σ : L2.St) (ρ : List SD) : Prop := ∀ (j : Nat) (x : SD) (q : Addr), ρ[j]? = some x → isOwn x = true → σ[j]? = some (some (.ref q)) → ∃ o, H1 q = some o
theorem OwnOld.wipe {H1 : Hp} {σ : L2.St} {ρ : List SD} (h : OwnOld H1 σ ρ) (vs : List Nat) : OwnOld H1 (L2.wipe σ vs) (wipeD ρ vs) := fun j x q e o s => by
  obtain ⟨h1, h2⟩ := wipeD_get e (own_ne o)
  rw [wipe_get h2] at s
  exact h j x q h1 o s
theorem OwnOld.of {K : PySem.W.Frag} {W : Wd} {H : Hp} {σ : L2.St} {ρ : List SD} (r : Rel K W H σ ρ) : OwnOld H σ ρ := fun j x q e o s => by
  obtain ⟨v, h1, h2⟩ := r.get j x e (own_ne o)
  obtain ⟨q', u, e1, e2, _⟩ := own_there h2 o
  rw [h1] at s
  cases s
  cases e1
  exact ⟨u, e2⟩
end
end Dd
namespace Dd
open PySem PySem.Spec PyProof.Rows L2
def pairsT : List ((List SD → M SD) × (List SD → M SD)) → List SD → M (List (Key × PyData))
  | [], _ => pure []
  | (Tk, Tv) :: r, ρ => do
    let k ← Tk ρ
    let kd ← M.lift (asD k)
    let kk ← M.lift (keyOf kd)
    let v ← Tv ρ
    let d ← M.lift (asD v)
    let more ← pairsT r ρ
    pure ((kk, d) :: more)
section
variable {X : Cx} {EX : L2.St → XK} {e e2 o : Expr} {es : List Expr} {x : Str} {pos p apos cpos : Pos} {T T2 T3 : List SD → M SD} {Ts : List SD → M (List SD)}
def dcM (tg : Tg) (B : List SD → M Bool) (Tk Tv : List SD → M SD) (ρ : List SD) : List SD → List (Key × PyData) → M (List (Key × PyData))
  | [], acc => pure acc
  | x :: r, acc => do
    let ρ1 ← M.lift (kOf tg x ρ)
    let b ← M.calm (B ρ1)
    if b then do
      let y ← M.calm (Tk ρ1)
      let kd ← M.lift (asD y)
      let kk ← M.lift (keyOf kd)
      let z ← M.calm (Tv ρ1)
      let d ← M.lift (asD z)
      M.when (szOk (acc.length + 1)) (dcM tg B Tk Tv ρ r (putD acc kk d))
    else dcM tg B Tk Tv ρ r acc
def pickD (mx : Bool) : List PyData → Option PyData
  | [] => none
  | x :: xs => some (if mx then PySem.W.maxD x xs else PySem.W.minD x xs)
end
end Dd
namespace Dd
open PySem PySem.Spec PyProof.Rows L2
section
variable {X : Cx}
def rPick (mx : Bool) (K : PySem.W.Frag) : List V → Hp → VK → Prop := fun vs H Q => ∃ (a : Addr) (ws : List V) (x : PyData) (xs : List PyData), vs = [.ref a] ∧ SqL K H a ws ∧ DpAll K H ws (x :: xs) ∧ PySem.W.AlikeAll (x :: xs) ∧ PyData.canLayAll0 (x :: xs) = true ∧ PyData.depthAll (x :: xs) ≤ 30 ∧
  ∀ (i : Nat) (w : V), ws[i]? = some w → (x :: xs)[i]? = some (if mx then PySem.W.maxD x xs else PySem.W.minD x xs) → Q w H
theorem vals_get' : ∀ {xs : List V} {us : List Value} {i : Nat} {u : Value}, Vals xs us → us[i]? = some u → ∃ x, xs[i]? = some x ∧ RelV x u
  | _, _, _, _, .nil, e => by simp at e
  | _, _, 0, _, .cons r _, e => by simp at e; subst e; exact ⟨_, rfl, r⟩
  | _, _, i + 1, x, .cons _ t, e => by
    obtain ⟨u, h1, h2⟩ := vals_get' (i := i) t (by simpa using e)
    exact ⟨u, by simpa using h1, h2⟩
theorem dps_at {K : PySem.W.Frag} {H : Hp} : ∀ {ds : List PyData} {vs : List V} {i : Nat} {v : V}, DpAll K H vs ds → vs[i]? = some v → ∃ d, ds[i]? = some d ∧ Dp K H v d
  | _, _, _, _, .nil, e => by simp at e
  | _, _, 0, _, .cons h _, e => by simp at e; subst e; exact ⟨_, rfl, h⟩
  | _, _, i + 1, _, .cons _ t, e => by
    obtain ⟨d, h1, h2⟩ := dps_at (i := i) t (by simpa using e)
    exact ⟨d, by simpa using h1, h2⟩
theorem lay_at : ∀ {ds : List PyData} {i : Nat} {d : PyData}, PyData.canLayAll0 ds = true → ds[i]? = some d → d.canLay0 = true
  | [], _, _, _, e => by simp at e
  | x :: xs, 0, _, c, e => by
    have c' : x.canLay0 = true ∧ PyData.canLayAll0 xs = true := by simpa [PyData.canLayAll0] using c
    simp at e; subst e; exact c'.1
  | x :: xs, i + 1, _, c, e => by
    have c' : x.canLay0 = true ∧ PyData.canLayAll0 xs = true := by simpa [PyData.canLayAll0] using c
    exact lay_at (i := i) c'.2 (by simpa using e)
theorem cr_pick (mx : Bool) {k : Nat} (room : Room k X.A) (hc : X.calm = true) : CallR X (.builtin (if mx then "max" else "min")) (rPick mx X.K) := by
  intro pins s σ H vs us Q J r h
  obtain ⟨a, ws, x, xs, rfl, hs, hd, al, cl, dp, q⟩ := h
  obtain ⟨its, rv, hl, hz⟩ := J.list hs
  rw [Vals.ref1 r]
  obtain ⟨as, hr⟩ := Dp.readsAll J (x :: xs) ws its hd rv
  have hu := room.units
  have fin : ∀ (i : Nat) (v : Value) (h' : Heap) (tk : Nat) (bs : List Addr) (m : PyData), its.toArray[i]? = some v → Reads h' v m bs → m = (if mx then PySem.W.maxD x xs else PySem.W.minD x xs) → (∀ b o, s.heap.get? b = some o → h'.get? b = some o) → EP X pins σ Q v { s with heap := h', toks := tk } := by
    intro i v h' tk bs m hi hm em kp
    have hi' : its[i]? = some v := by simpa using hi
    obtain ⟨w, hw, rw'⟩ := vals_get' rv hi'
    obtain ⟨d, hd1, hd2⟩ := dps_at hd hw
    obtain ⟨bs', hr'⟩ := Dp.reads J d w v hd2 rw'
    have e := SeqAt.Reads.unique d m v bs' bs (lay_at cl hd1) (Reads.keeps kp hr') hm
    subst e
    exact ⟨w, H, J.kept kp, rw', q i w hw (by rw [hd1, em])⟩
  cases mx with
  | true => exact PySem.W.max_list_data (J.ok.hd hc) hl.isList (by simpa using hr) al (by omega) fun i v h' tk bs hi hm kp => fin i v h' tk bs _ hi hm rfl kp
  | false => exact PySem.W.min_list_data (J.ok.hd hc) hl.isList (by simpa using hr) al (by omega) fun i v h' tk bs hi hm kp => fin i v h' tk bs _ hi hm rfl kp
def bPick (mx : Bool) : List SD → M SD
  | [.d (.list (x :: xs))] => do M.need (PySem.W.AlikeAll (x :: xs) ∧ PyData.canLayAll0 (x :: xs) = true ∧ PyData.depthAll (x :: xs) ≤ 30); pure (.d (if mx then PySem.W.maxD x xs else PySem.W.minD x xs))
  | [.d (.int i), .d (.int j)] => pure (dI (if mx then (if j > i then j else i) else (if j < i then j else i)))
  | _ => M.fail
theorem br_pick (mx : Bool) {k : Nat} (room : Room k X.A) (hc : X.calm = true) : BR X (.builtin (if mx then "max" else "min")) (bPick mx) := by
  have two : CallR X (.builtin (if mx then "max" else "min")) (fun xs H Q => ∃ i j, xs = [.int i, .int j] ∧ Q (.int (if mx then (if j > i then j else i) else (if j < i then j else i))) H) := by
    cases mx with
    | true => exact call_max2 hc
    | false => exact call_min2 hc
  refine ⟨_, (cr_pick mx room hc).or two, fun {W H vs xs Q E} ok r h => ?_⟩
  unfold bPick at h
  split at h
  · rename_i x xs
    obtain ⟨v, rfl, r1⟩ := pair1 r
    obtain ⟨⟨al, cl, dp⟩, q⟩ := h
    cases r1 with | lst l t =>
    refine .inl ⟨_, _, x, xs, rfl, l.sq, RpAll.dp cl t, al, cl, dp, fun i w hw he => ?_⟩
    obtain ⟨d, h1, h2⟩ := t.get' hw
    rw [he] at h1
    cases h1
    exact Post.here (K := X.K) ok q h2
  · obtain ⟨v, w, rfl, r1, r2⟩ := pair2 r
    cases r1; cases r2
    exact .inr ⟨_, _, rfl, Post.here (K := X.K) ok h (.int _)⟩
  · exact h.elim
def gIsB : SD → SD → Option SD
  | .d (.bool a), .d (.bool b) => some (dB (decide (a = b)))
  | .d x, .d .none => some (dB (isNone (.d x)))
  | _, _ => none
theorem c_isB : CmpR X .Is gIsB := by
  refine ⟨_, op_isN.or op_is_bl, fun {W H v w x y z Q} ok r1 r2 h q => ?_⟩
  unfold gIsB at h
  split at h
  · cases r1; cases r2; cases h
    exact .inr ⟨_, _, rfl, rfl, q.here ok (.bl _)⟩
  · cases r2; cases h
    refine .inl ⟨rfl, ?_⟩
    rw [isNone_rep r1]
    exact q.here ok (.bl _)
  · cases h
end
section
variable {X : Cx} {EX : L2.St → XK} {e e2 o : Expr} {es : List Expr} {x : Str} {pos p p2 q2 apos cpos : Pos} {T T2 T3 : List SD → M SD}
def lenSetD : SD → Option Int
  | .d (.list []) => some 0
  | .d (.tuple []) => some 0
  | .d (.list [.str _]) => some 1
  | .d (.tuple [.str _]) => some 1
  | _ => none
def getD1 : SD → SD → Option SD
  | .d (.dict ds), .d k => (keyOf k).map fun q => .d ((valD ds q).getD .none)
  | _, _ => none
def getD2 : SD → SD → SD → Option SD
  | .d (.dict ds), .d k, .d z => (keyOf k).map fun q => .d ((valD ds q).getD z)
  | _, _, _ => none
def isDict : SD → Bool
  | .d (.dict _) => true
  | _ => false
def GetK (K : PySem.W.Frag) (w : World) (d : Addr) (tbl : List (Str × PyData)) : Prop := (∃ es n, KDict K w d es n) ∧ ∀ z y, tbl.lookup z = some y → ∃ r : Option Value, PySem.W.nsIn K d z = some r ∧ ∃ v : V, RelV v (r.getD .none) ∧ ∀ S H, Rp K S H v y
def getKD (tbl : List (Str × PyData)) : SD → Option SD
  | .d (.str z) => (tbl.lookup z).map .d
  | _ => none
end
end Dd
namespace Dd
open PySem PySem.Spec PyProof.Rows L2
section
variable {X : Cx} {EX : L2.St → XK} {kx vx tg iter : Expr} {ifs : List Expr} {scope : Scope} {own : List (Str × Nat)} {pos : Pos} {Ti : List SD → M (List SD)} {B : List SD → M Bool} {Tk Tv : List SD → M SD} {t : Tg}
structure DcI (K : PySem.W.Frag) (W : Wd) (D : Addr) (H1 : Hp) (σ : L2.St) (ρ : List SD) (H' : Hp) (kvs : List (Key × V)) (ds : List (Key × PyData)) : Prop where
  ok : (W.add D).Ok H'
  rel : Rel K (W.add D) H' σ ρ
  kp : Kp W H1 H'
  stp : Stp W.S (W.add D).S H1 H'
  at_ : H' D = some (.dK kvs)
  rep : PKV K (W.add D).S H' kvs ds
theorem pkv_step {K : PySem.W.Frag} {S S' : List Addr} {H H' : Hp} (s : Stp S S' H H') {kvs : List (Key × V)} {ds : List (Key × PyData)} (h : PKV K S H kvs ds) : PKV K S' H' kvs ds := paired_mono (fun _ _ z => ⟨z.1, Rp.step s z.2⟩) h
theorem DcI.next {K : PySem.W.Frag} {W : Wd} {D : Addr} {H1 H2 H4 : Hp} {σ : L2.St} {ρ : List SD} {kvs kvs' : List (Key × V)} {ds ds' : List (Key × PyData)} (i : DcI K W D H1 σ ρ H2 kvs ds) (hD : H1 D = none) (nD : ∀ l, W.src ≠ some (D, l)) (hk : Kp (W.add D) H2 H4 ∨ ∃ H5 o, Kp (W.add D) H2 H5 ∧ H4 = upd H5 D o)
    (hown : OwnOld H1 σ ρ) (ok4 : (W.add D).Ok H4) (hD4 : H4 D = some (.dK kvs')) (t4 : PKV K (W.add D).S H4 kvs' ds') : DcI K W D H1 σ ρ H4 kvs' ds' := by
  have st24 : Stp (W.add D).S (W.add D).S H2 H4 := by
    rcases hk with hk4 | ⟨H5, o, hk5, rfl⟩
    · exact hk4.stp i.ok
    · refine (hk5.stp i.ok).trans ⟨fun b o' hb _ c => ?_, fun b h => .inl h⟩
      rw [upd_ne]
      · exact hb
      · intro z
        subst z
        rcases c with c | c
        · exact c List.mem_cons_self
        · rw [hk5 b _ i.at_ nD nt_dK] at hb; cases hb; exact c
  have kp24 : ∀ b o, b ≠ D → H2 b = some o → (∀ l, W.src ≠ some (b, l)) → NT o → H4 b = some o := fun b o nb h2 n nt => by
    rcases hk with hk4 | ⟨H5, o5, hk5, rfl⟩
    · exact hk4 b o h2 n nt
    · rw [upd_ne nb]; exact hk5 b o h2 n nt
  refine ⟨ok4, ⟨i.rel.len, fun j z ej n => ?_, i.rel.sep, i.rel.tab⟩, fun b o hb n nt => ?_, i.stp.trans st24, hD4, t4⟩
  · obtain ⟨v, g1, g2⟩ := i.rel.get j z ej n
    refine ⟨v, g1, ?_⟩
    cases z with
    | no => trivial
    | d x => exact Rp.step st24 g2
    | src => exact g2
    | ty n => exact g2
    | x e => exact RX.step st24 g2
    | own ds =>
      obtain ⟨q2, xs, rfl, m2, ns2, hq2, t2⟩ := g2
      obtain ⟨o, ho⟩ := hown j _ q2 ej rfl g1
      exact ⟨q2, xs, rfl, m2, ns2, kp24 q2 _ (fun z => by rw [z, hD] at ho; cases ho) hq2 ns2 nt_lst, RpAll.step st24 t2⟩
    | ownL ds =>
      obtain ⟨q2, xs, rfl, m2, ns2, hq2, t2⟩ := g2
      obtain ⟨o, ho⟩ := hown j _ q2 ej rfl g1
      exact ⟨q2, xs, rfl, m2, ns2, kp24 q2 _ (fun z => by rw [z, hD] at ho; cases ho) hq2 ns2 nt_lst, paired_mono (fun _ _ z => CloAt.step st24 z) t2⟩
    | ownD ds =>
      obtain ⟨q2, xs, rfl, m2, ns2, hq2, t2⟩ := g2
      obtain ⟨o, ho⟩ := hown j _ q2 ej rfl g1
      exact ⟨q2, xs, rfl, m2, ns2, kp24 q2 _ (fun z => by rw [z, hD] at ho; cases ho) hq2 ns2 nt_dK, pkv_step st24 t2⟩
    | mutD _ ds =>
      obtain ⟨q2, xs, rfl, m2, ns2, hq2, t2, e2⟩ := g2
      obtain ⟨o, ho⟩ := hown j _ q2 ej rfl g1
      exact ⟨q2, xs, rfl, m2, ns2, kp24 q2 _ (fun z => by rw [z, hD] at ho; cases ho) hq2 ns2 nt_dK, pkv_step st24 t2, e2⟩
  · exact kp24 b o (fun z => by rw [z, hD] at hb; cases hb) (i.kp b o hb n nt) n nt
def PostK (K : PySem.W.Frag) (W : Wd) (H : Hp) (Q : VK) (ds : List (Key × PyData)) : Prop := ∀ p kvs H', Kp W H H' → (W.add p).Ok H' → Fr0 H p → H' p = some (.dK kvs) → PKV K (W.add p).S H' kvs ds → Q (.ref p) H'
theorem PostK.of {K : PySem.W.Frag} {W : Wd} {H : Hp} {Q : VK} {ds : List (Key × PyData)} (ok0 : W.Ok H) (q : Post K W H Q (.d (dictOf ds))) : PostK K W H Q ds := fun p kvs H' k ok hp e r =>
  q _ H' k (add_back ok0 hp ok) (.dct (.inl e) (ok0.notinF hp) (pkv_kv (pkv_step ⟨fun _ _ h _ _ => h, fun b h => .inl (List.mem_cons_of_mem _ h)⟩ r)))
end
end Dd
namespace Dd
open PySem PySem.Spec PyProof.Rows L2
section
variable {X : Cx} {E : XK} {e : Expr} {pos : Pos} {T : List SD → M SD}
theorem SSt.frozen {K : PySem.W.Frag} {W0 W : Wd} {H0 H : Hp} {σ : L2.St} {ρ : List SD} (s : SSt K W0 H0 W H σ ρ) : Rel K W0 H σ (ρ.map frzS) := by
  refine ⟨by rw [List.length_map]; exact s.rel.len, fun i x e n => ?_, fun i j x y p ne e1 e2 o1 o2 s1 => ?_, by rw [← s.tab]; exact s.rel.tab⟩
  · rw [List.getElem?_map] at e
    obtain ⟨y, hy, rfl⟩ := Option.map_eq_some_iff.mp e
    have ny : y ≠ .no := by rintro rfl; exact n rfl
    obtain ⟨v, h3, h4⟩ := s.rel.get i y hy ny
    refine ⟨v, h3, ?_⟩
    cases y with
    | own ds =>
      obtain ⟨p, xs, rfl, m, ns, hp, t⟩ := h4
      exact Rp.lst ⟨hp, s.ok0.notinF (s.own i _ p hy rfl h3)⟩ (RpAll.step (s.back H) t)
    | ownL ds =>
      obtain ⟨p, xs, rfl, m, ns, hp, t⟩ := h4
      exact ⟨p, xs, rfl, ⟨hp, s.ok0.notinF (s.own i _ p hy rfl h3)⟩, paired_mono (fun _ _ z => CloAt.step (s.back H) z) t⟩
    | ownD ds =>
      obtain ⟨p, xs, rfl, m, ns, hp, t⟩ := h4
      exact Rp.dct (.inl hp) (s.ok0.notinF (s.own i _ p hy rfl h3)) (pkv_kv (pkv_step (s.back H) t))
    | mutD _ ds =>
      obtain ⟨p, xs, rfl, m, ns, hp, t, _⟩ := h4
      exact Rp.dct (.inl hp) (s.ok0.notinF (s.own i _ p hy rfl h3)) (pkv_kv (pkv_step (s.back H) t))
    | no => exact absurd rfl ny
    | d x => exact RV.back s (x := .d x) rfl h4
    | src => exact RV.back s (x := .src) rfl h4
    | ty nm => exact RV.back s (x := .ty nm) rfl h4
    | x ee => exact RV.back s (x := .x ee) rfl h4
  · rw [List.getElem?_map] at e1
    obtain ⟨z, _, rfl⟩ := Option.map_eq_some_iff.mp e1
    rw [frz_own z] at o1; cases o1
theorem ds_retF (h : DE X (fun _ => E) e T) : DS X E (.Return (some e) pos) (fun ρ => do let x ← T (ρ.map frzS); let y ← M.lift (plain x); pure (.rt y)) := by
  refine ps_imp (ps_ret h) fun D σ H ⟨W0, H0, W, ρ, s, h⟩ => ?_
  refine ⟨W0, ρ.map frzS, s.ok0' s.ok, s.frozen, (T _).mono (fun x q v H' k ok r => ?_) (fun _ q => XP.trans s.ok0 s.frm (s.ok0' s.ok) q) h⟩
  obtain ⟨y, hy, q⟩ := run_lift.mp q
  obtain ⟨rfl, no⟩ := plain_eq hy
  exact q v H' (s.frm.trans k) ok r
structure DP (X : Cx) (EX : L2.St → XK) (pos : Pos) (keys : List (Option Expr)) (values : List Expr) (l : List ((List SD → M SD) × (List SD → M SD))) : Prop where
  pps : PPs X pos keys values (l.map fun p => (dt X.K EX p.1, dt X.K EX p.2))
end
end Dd
namespace Dd
open PySem PySem.Spec PyProof.Rows L2
section
variable {X : Cx} {EX : L2.St → XK} {kx vx tg iter : Expr} {ifs : List Expr} {scope : Scope} {own : List (Str × Nat)} {pos : Pos} {Ti : List SD → M (List SD)} {B : List SD → M Bool} {Tk Tv : List SD → M SD} {t : Tg}
def bInt : List SD → M SD
  | [.d (.int i)] => pure (dI i)
  | [.d (.bool k)] => pure (dI (if k then 1 else 0))
  | _ => M.fail
def keysS : List (PyData × PyData) → Option (List Str)
  | [] => some []
  | (.str k, _) :: r => (keysS r).map (k :: ·)
  | _ => none
def M.sortedS (ks : List Str) : M (List Str) := ⟨fun P _ => ∀ ys : List Str, ys.Perm ks → PyProof.Rows.sortedS ys = true → P ys, fun h _ p ys h1 h2 => h _ (p ys h1 h2)⟩
def bSorted2 : List SD → M SD
  | [.d (.dict ds)] => do let ks ← M.lift (keysS ds); M.when (decide (ks.length < 64)) (do let ys ← M.sortedS ks; pure (.d (.list (ys.map PyData.str))))
  | xs => bSorted xs
theorem keysS_rp {K : PySem.W.Frag} {S : List Addr} {H : Hp} : ∀ {kvs : List (Key × V)} {ds : List (PyData × PyData)} {ks : List Str}, RpKV K S H kvs ds → keysS ds = some ks → kvs.map (·.1) = ks.map Sum.inr
  | _, _, _, .nil, h => by cases h; rfl
  | (k, v) :: kvs, _, ks, .cons (d := d) (ds := ds) r t, h => by
    cases k with
    | inl i => cases h
    | inr x =>
      have h : (keysS ds).map (x :: ·) = some ks := h
      obtain ⟨l, h1, rfl⟩ := Option.map_eq_some_iff.mp h
      rw [List.map_cons, List.map_cons, keysS_rp t h1]
theorem str_rp {K : PySem.W.Frag} {S : List Addr} {H : Hp} : ∀ ys : List Str, RpAll K S H (ys.map V.str) (ys.map PyData.str)
  | [] => .nil
  | y :: r => .cons (.str y) (str_rp r)
theorem br_sorted2 {k : Nat} (hc : X.calm = true) (hr : Room k X.A) : BR X (.builtin "sorted") bSorted2 := by
  obtain ⟨r1, c1, h1⟩ := br_sorted (X := X) hr
  refine ⟨fun xs H Q => r1 xs H Q ∨ _, fun pins s σ H xs us Q J rv h => h.elim (c1 pins s σ H xs us Q J rv) (call_sortedD hc pins s σ H xs us Q J rv), fun {W H vs xs Q E} ok r h => ?_⟩
  unfold bSorted2 at h
  split at h
  · obtain ⟨v, rfl, rv⟩ := pair1 r
    obtain ⟨ks, hk, h⟩ := run_lift.mp h
    obtain ⟨sz, h⟩ := run_when.mp h
    cases rv with | dct rd n t =>
    exact .inr ⟨_, _, ks, rfl, rd, keysS_rp t hk, of_decide_eq_true sz, fun ys p h1 h2 hp => new_lst ok hp (str_rp ys) (h ys h1 h2)⟩
  · exact .inl (h1 ok r h)
@[simp] theorem sorted2_l (xs : List PyData) : bSorted2 [.d (.list xs)] = bSorted [.d (.list xs)] := rfl
end
end Dd
namespace Dd
open PySem PySem.Spec PyProof.Rows L2
section
variable {P : Program} {w : World} {K : PySem.W.Frag} {mg : Str → Option Value} {base : Heap}
theorem cx_never {P : Program} : ∀ (w : World) (H : Hp) (s : Shared) (e : Value) (s' : Shared), L2.CX P w [] H s (fun _ _ _ => False) e s' → False := fun w H s e s' h => by
  obtain ⟨_, _, _, _, _, _, _, _, _, _, _, _, h⟩ := h
  exact h
end
end Dd
namespace Dd
open PySem PySem.Spec PyProof.Rows L2
def M.anyS : M Str := ⟨fun P _ => ∀ x : Str, x.length ≤ 30000 → P x, fun h _ p x l => h _ (p x l)⟩
section
variable {X : Cx} {EX : L2.St → XK} {e : Expr} {es : List Expr} {pos : Pos} {T : List SD → M SD} {Tu : List SD → M Unit}
def DJ (X : Cx) (EX : L2.St → XK) (es : List Expr) (T : List SD → M Unit) : Prop := ∃ ts, PJ X es ts ∧ ∀ {W : Wd} {ρ : List SD} {σ : L2.St} {H : Hp} (acc : Str) (Q : Str → Hp → Prop), W.Ok H → Rel X.K W H σ ρ → acc.length + 3000 * es.length ≤ 30000 →
  (T ρ).run (fun _ => ∀ x H', x.length ≤ acc.length + 3000 * es.length → Kp W H H' → W.Ok H' → Q x H') (XP X.K W H (EX σ)) → tJs ts acc σ H Q
theorem acc_sz {acc y : Str} {n : Nat} (h : acc.length + 3000 * (n + 1) ≤ 30000) (hy : y.length ≤ 3000) : (acc ++ y).length ≤ sizeLine ∧ (acc ++ y).length + 3000 * n ≤ 30000 ∧ (acc ++ y).length + 3000 * n ≤ acc.length + 3000 * (n + 1) := by
  rw [strLen_append, sizeLine_eq]
  omega
def fmtOk : SD → Bool
  | .d (.str y) => decide (y.length ≤ 3000)
  | .d (.int i) => decide (i.natAbs.log2 < 1600)
  | _ => false
theorem int_text {i : Int} (h : i.natAbs.log2 < 1600) : i.natAbs < 10 ^ 500 := by
  have h1 : i.natAbs < 2 ^ 1600 := Nat.lt_of_lt_of_le (Nat.lt_log2_self) (Nat.pow_le_pow_right (by decide) h)
  exact Nat.lt_trans h1 (by decide +kernel)
def reprOk : SD → Bool
  | .d (.str y) => decide (y.length ≤ 200) && PyData.canLay0 (.str y)
  | .d (.int i) => decide (i.natAbs.log2 < 1600)
  | .d (.tuple [.int i, .int j]) => decide (i.natAbs.log2 < 1600) && decide (j.natAbs.log2 < 1600)
  | _ => false
end
end Dd
namespace Dd
open PySem PySem.Spec PyProof.Rows L2
structure EC where
  code : Str
  attr : Option Str
  num : Bool
def argV (c : EC) : V → Bool
  | .str y => !c.num && (c.attr.isNone || (decide (y.length ≤ 200) && PyData.canLay0 (.str y)))
  | .int i => c.num && decide (i.natAbs.log2 < 1600)
  | _ => false
def argD (c : EC) : SD → Option PyData
  | .d (.str y) => if !c.num && (c.attr.isNone || (decide (y.length ≤ 200) && PyData.canLay0 (.str y))) then some (.str y) else none
  | .d (.int i) => if c.num && decide (i.natAbs.log2 < 1600) then some (.int i) else none
  | _ => none
def fldV (c : EC) (x : V) : List (Str × V) := match c.attr with
  | none => [("code", .str c.code)]
  | some n => [(n, x), ("code", .str c.code)]
def fldD (c : EC) (x : PyData) : List (Str × PyData) := match c.attr with
  | none => [("code", .str c.code)]
  | some n => [(n, x), ("code", .str c.code)]
theorem arg_rv {K : PySem.W.Frag} {W : Wd} {H : Hp} {c : EC} {v : V} {x : SD} {d : PyData} (r : RV K W H v x) (h : argD c x = some d) : argV c v = true ∧ ∀ S H', Rp K S H' v d := by
  unfold argD at h
  split at h
  · split at h
    · rename_i hc
      cases h
      cases r
      exact ⟨hc, fun _ _ => .str _⟩
    · cases h
  · split at h
    · rename_i hc
      cases h
      cases r
      exact ⟨hc, fun _ _ => .int _⟩
    · cases h
  · cases h
theorem fld_rp {K : PySem.W.Frag} {S : List Addr} {H : Hp} {c : EC} {v : V} {d : PyData} (r : Rp K S H v d) : Paired (fun (a : Str × V) (b : Str × PyData) => a.1 = b.1 ∧ Rp K S H a.2 b.2) (fldV c v) (fldD c d) := by
  unfold fldV fldD
  cases c.attr with
  | none => exact .cons ⟨rfl, .str _⟩ .nil
  | some n => exact .cons ⟨rfl, r⟩ (.cons ⟨rfl, .str _⟩ .nil)
def spErr (C : Addr) (c : EC) : Sp := fun vs H Q _ => ∃ (a : Addr) (x : V), vs = [.ref a, x] ∧ H a = some (exo a C none) ∧ argV c x = true ∧ ∀ H' dx, Same H H' → H' dx = none → dx ≠ a → Q .non (upd (upd H' dx (exd dx (fldV c x))) a (exo a C (some dx)))
section
variable (P : Program) (w : World) (K : PySem.W.Frag) (mg : Str → Option Value) (base : Heap)
def ErrOk (k : Nat) (x : Str) (c : EC) : Prop := ∃ C fI fd p, mg x = some (.ref C) ∧ PySem.W.nsIn K mainGlobals x = some (some (.ref C)) ∧ OexC K C ∧ PySem.W.findIn K (.ref C) "__init__" = some (some (.ref fI)) ∧ PySem.W.typeIn K (.ref fI) = some (.type "function") ∧
  L2.Binds K fd ["self", p] [] ∧ FnOk P w K mg base CX0 k fI fd ["self", p] (spErr C c)
end
section
variable {X : Cx} {E : XK} {e : Expr} {x : Str} {p pos pos' : Pos} {T : List SD → M SD} {k : Nat} {c : EC}
theorem ds_raise (hc : X.calm = true) (tk : Takes X (fun cls d _ H => E cls d H)) (G : ErrOk X.prog X.w X.K X.mg X.base k x c) (room : Room (k + 1) X.A) (hg : Gl X x) (h : DE X (fun _ => E) e T)
    (hdb : (x == ("__debug__" : Str)) = false := by decide) (hs : starEach [e] X.env = (false, eval e X.env) :: starEach [] X.env := by rfl) (hpl : (backTo pos (starEach [] X.env)).any (·.1) = false := by rfl) :
    DS X E (.Raise (some (.Call (.Name x p) [e] [] pos)) none pos') (fun ρ => do let v ← T ρ; let d ← M.lift (argD c v); M.throw ⟨x, fldD c d⟩) := by
  obtain ⟨C, fI, fd, pn, hm, hn, oe, iC, tI, bn, F⟩ := G
  refine ps_imp (ps_raise hc tk (pmk_oex oe iC tI F room bn .nil pass0 hg hm (da_cons h da_nil hs) hdb hs hpl)) fun D σ H ⟨W0, H0, W, ρ, s, run⟩ => ?_
  refine ⟨W, ρ, s.ok, s.rel, (T ρ).mono (fun y q vs H1 k1 ok1 r1 => ?_) (fun er q => s.xp q) run⟩
  obtain ⟨v, rfl, rv⟩ := pair1 r1
  obtain ⟨d, hd, q⟩ := run_lift.mp q
  obtain ⟨av, rd⟩ := arg_rv rv hd
  refine ⟨Nat.le_of_ble_eq_true rfl, fun a na => ⟨a, v, rfl, upd_same, av, fun H' dx sm0 h1 h2 => ?_⟩⟩
  have up : Same H1 (upd H1 a (exo a C none)) := Dw.same_new na
  have n1 : H1 dx = none := Same.free (up.trans sm0) h1
  refine ⟨rfl, dx, fldV c v, upd_same, by rw [upd_ne h2, upd_same], n1, ?_⟩
  have sm : Same H1 (upd (del (upd (upd H' dx (exd dx (fldV c v))) a (exo a C (some dx))) a) dx (.xd (fldV c v))) := fun b o eb => by
    have nb : b ≠ dx := ne_of_none eb n1
    have na' : b ≠ a := ne_of_none eb na
    rw [upd_ne nb, del_ne na', upd_ne na', upd_ne nb]
    exact sm0 b o (up b o eb)
  refine (s.xp q) C dx _ (fldV c v) hn (k1.trans (Kp.same sm)) (ok1.same sm) (k1.free s.ok (Fr0.of n1) ok1) upd_same (ok1.notin n1) (fld_rp (rd _ _))
end
def spQE (K : PySem.W.Frag) : Sp := fun vs H Q _ => ∃ (a C : Addr) (m c : V), vs = [.ref a, m, c] ∧ OexC K C ∧ PySem.W.findIn K (.ref C) "code" = some none ∧ H a = some (exo a C none) ∧
  ∀ dx, H dx = none → dx ≠ a → Q .non (upd (upd H dx (exd dx [("code", c)])) a (exo a C (some dx)))
theorem upd_twice {H : Hp} {dx a : Addr} {o1 o2 o3 : HO} (ne : dx ≠ a) : upd (upd (upd H dx o1) a o2) dx o3 = upd (upd H dx o3) a o2 := by
  funext b
  by_cases h1 : b = dx
  · subst h1
    rw [upd_same, upd_ne ne, upd_same]
  · rw [upd_ne h1]
    by_cases h2 : b = a
    · subst h2
      rw [upd_same, upd_same]
    · rw [upd_ne h2, upd_ne h2, upd_ne h1, upd_ne h1]
def DJ0 (X : Cx) (x : V) (es : List Expr) : Prop := ∃ ts, PJ X es ts ∧ ∀ {σ : L2.St} {H : Hp} (acc : Str) (Q : Str → Hp → Prop), σ[1]? = some (some x) → acc.length + 3000 * es.length ≤ 30000 → (∀ m : Str, Q m H) → tJs ts acc σ H Q
section
variable {X : Cx} {x : V} {e : Expr} {es : List Expr} {pos : Pos}
theorem dj0_nil : DJ0 X x [] := ⟨[], .nil, fun acc Q _ _ h => h acc⟩
theorem dj0_str {z : Str} {j : Nat} (hz : z.length ≤ 3000) (r : DJ0 X x es) : DJ0 X x (.Constant (.str z) j pos :: es) := by
  obtain ⟨ts, h1, h2⟩ := r
  refine ⟨_, .cons pe_str h1, fun acc Q hx hl h => ?_⟩
  rw [List.length_cons] at hl
  obtain ⟨a1, a2, a3⟩ := acc_sz hl hz
  exact ⟨z, rfl, a1, h2 _ Q hx a2 h⟩
theorem dj0_fmt {i : Int} (hi : fmtOk (.d (.int i)) = true) (he : PE X e (tVar 1)) (r : DJ0 X (.int i) es) : DJ0 X (.int i) (.FormattedValue e (-1) none pos :: es) := by
  obtain ⟨ts, h1, h2⟩ := r
  refine ⟨_, .cons (pe_fmt he) h1, fun acc Q hx hl h => ?_⟩
  rw [List.length_cons] at hl
  have li : i.natAbs.log2 < 1600 := of_decide_eq_true hi
  have hy : (Str.ofString (toString i)).length ≤ 3000 := Nat.le_trans (Dw.txt_len (int_text li)) (by decide)
  obtain ⟨a1, a2, a3⟩ := acc_sz hl hy
  exact ⟨_, hx, .inr ⟨i, rfl, by omega, _, rfl, a1, h2 _ Q hx a2 h⟩⟩
theorem pe_js0 {v1 v2 : Expr} {rest : List Expr} (h : DJ0 X x (v1 :: v2 :: rest)) (hl : rest.length ≤ 7 := by decide) : PE X (.JoinedStr (v1 :: v2 :: rest) pos) (fun σ H Q => σ[1]? = some (some x) ∧ ∀ m : Str, Q (.str m) H) := by
  obtain ⟨ts, h1, h2⟩ := h
  refine pe_imp (pe_joined h1) fun σ H Q ⟨hx, q⟩ => ?_
  refine h2 Str.empty _ hx ?_ q
  show 0 + 3000 * (rest.length + 2) ≤ _
  omega
end
theorem arg_int {c : EC} {x : V} (h : argV c x = true) (hn : c.num = true) : ∃ i : Int, x = .int i ∧ fmtOk (.d (.int i)) = true := by
  cases x with
  | int i =>
    refine ⟨i, rfl, ?_⟩
    unfold argV at h
    simp only [hn, Bool.true_and] at h
    exact h
  | str y => simp [argV, hn] at h
  | _ => cases h
end Dd
namespace Dd
open PySem PySem.Spec PyProof.Rows L2
section
variable {K : PySem.W.Frag} {W0 W : Wd} {H0 H H' : Hp} {σ : L2.St} {ρ : List SD}
theorem set_self {α : Type} {l : List α} {i : Nat} {x y : α} (h : (l.set i x)[i]? = some y) : y = x := by
  have lt : i < l.length := by
    have := (List.getElem?_eq_some_iff.mp h).1
    rwa [List.length_set] at this
  rw [List.getElem?_set_self lt] at h
  exact (Option.some.inj h).symm
theorem SSt.gone (s : SSt K W0 H0 W H σ ρ) (i : Nat) (o : Option V) : SSt K W0 H0 W H (σ.set i o) (ρ.set i .no) := by
  have ne : ∀ {j : Nat} {y : SD}, (ρ.set i .no)[j]? = some y → y ≠ .no → i ≠ j := fun {j y} e n z => by
    subst z
    exact n (set_self e)
  have own_no : ∀ {y : SD}, isOwn y = true → y ≠ .no := fun {y} o z => by subst z; cases o
  refine ⟨s.ok, ⟨by rw [List.length_set, List.length_set, s.rel.len], fun j y e n => ?_, fun j k y z p nq e1 e2 o1 o2 s1 => ?_, s.rel.tab⟩, s.src, s.sub, s.frm, s.mine, fun j y p e oo q => ?_, s.ok0, s.tab⟩
  · have h := ne e n
    rw [List.getElem?_set_ne h] at e ⊢
    exact s.rel.get j y e n
  · have h1 := ne e1 (own_no o1)
    have h2 := ne e2 (own_no o2)
    rw [List.getElem?_set_ne h1] at e1 s1
    rw [List.getElem?_set_ne h2] at e2 ⊢
    exact s.rel.sep j k y z p nq e1 e2 o1 o2 s1
  · have h := ne e (own_no oo)
    rw [List.getElem?_set_ne h] at e q
    exact s.own j y p e oo q
end
structure HK where
  cls : Str
  j : Nat
  attr : Str
  word : Option Str
def HK.val (h : HK) (d : PyData) : PyData := match h.word with
  | none => d
  | some z => .tuple [.str z, d]
structure ErrF (K : PySem.W.Frag) (errs : List Str) (isA : Str → Str → Bool) (hs : List Str) : Prop where
  sub : ∀ n C m D, PySem.W.nsIn K mainGlobals n = some (some (.ref C)) → PySem.W.nsIn K mainGlobals m = some (some (.ref D)) → n ∈ errs → m ∈ hs → PySem.W.exmOne K (.ref C) (.ref D) = some (isA n m)
  xf : ∀ n C, PySem.W.nsIn K mainGlobals n = some (some (.ref C)) → n ∈ errs → XfC K C ∧ PySem.W.findIn K (.ref C) "code" = some none ∧ PySem.W.findIn K (.ref C) "name" = some none ∧ PySem.W.findIn K (.ref C) "index" = some none ∧ PySem.W.findIn K (.ref C) "count" = some none
def attrs : List Str := ["code", "name", "index", "count"]
def handle (isA : Str → Str → Bool) (i : Nat) (ρ : List SD) (P : Out → Prop) (E : Exn → Prop) (e : Exn) : List HK → Prop
  | [] => E e
  | h :: r => if isA e.C h.cls = true then ∃ d, e.fs.lookup h.attr = some d ∧ P (.nx ((ρ.set h.j (.d (h.val d))).set i .no)) else handle isA i ρ P E e r
theorem handle_mono {isA : Str → Str → Bool} {i : Nat} {ρ : List SD} {P P' : Out → Prop} {E E' : Exn → Prop} {e : Exn} (hp : ∀ o, P o → P' o) (he : ∀ e, E e → E' e) : ∀ {l : List HK}, handle isA i ρ P E e l → handle isA i ρ P' E' e l
  | [], h => he e h
  | k :: r, h => by
    unfold handle at h ⊢
    split at h
    · rename_i c
      rw [if_pos c]
      obtain ⟨d, h1, h2⟩ := h
      exact ⟨d, h1, hp _ h2⟩
    · rename_i c
      rw [if_neg c]
      exact handle_mono hp he h
def tryM (errs : List Str) (isA : Str → Str → Bool) (i : Nat) (l : List HK) (m : M (List SD)) (ρ : List SD) : M Out :=
  ⟨fun P E => i < ρ.length ∧ m.run (fun ρ' => P (.nx ρ')) (fun e => e.C ∈ errs ∧ handle isA i ρ P E e l), fun h g p => ⟨p.1, m.mono (fun _ q => h _ q) (fun e q => ⟨q.1, handle_mono h g q.2⟩) p.2⟩⟩
section
variable {X : Cx} {E : XK} {e : Expr} {n : Str} {i : Nat} {T : List SD → M SD} {errs hs : List Str} {isA : Str → Str → Bool}
inductive DCl (X : Cx) (n : Str) (i : Nat) : List ExceptHandler → List HK → Prop
  | none : DCl X n i [] []
  | one {x y a : Str} {j : Nat} {p1 p2 p3 p4 p5 q2 : Pos} {more : List ExceptHandler} {l : List HK} (hg : Gl X x) (hd : (x == ("__debug__" : Str)) = false) (hN : X.N.Nodup) (hi : X.N[i]? = some n) (hv : Vis X.env.scope n) (hj : X.N[j]? = some y) (hy : Loc X.env.scope y) (hyl : X.fn y = true ∨ X.env.scope.names.lookup y = some .local) (ha : a ∈ attrs)
      (hs : ∀ a0 pn, swapsWith (.Attribute (.Name n p3) a p4) (some (.Name y p2)) p5.line (X.suite a0 pn).env = pure false) (hb : attributeBase (.Name n p3) a X.env (eval (.Name n p3) X.env) = eval (.Name n p3) X.env) (nd : (n == ("__debug__" : Str)) = false) (nc : (n == ("__classdict__" : Str)) = false)
      (rest : DCl X n i more l) : DCl X n i (.ExceptHandler (some (.Name x p1)) (some n) [.Assign [.Name y p2] (.Attribute (.Name n p3) a p4) p5] q2 :: more) (⟨x, j, a, Option.none⟩ :: l)
  | two {z x y a : Str} {j k1 k2 : Nat} {p1 p2 p3 p4 p5 p6 p7 q2 : Pos} {more : List ExceptHandler} {l : List HK} (hg : Gl X x) (hd : (x == ("__debug__" : Str)) = false) (hN : X.N.Nodup) (hi : X.N[i]? = some n) (hv : Vis X.env.scope n) (hj : X.N[j]? = some y) (hy : Loc X.env.scope y) (hyl : X.fn y = true ∨ X.env.scope.names.lookup y = some .local) (ha : a ∈ attrs)
      (hs : ∀ a0 pn, swapsWith (.Tuple [.Constant (.str z) k1 p6, .Attribute (.Name n p3) a p4] k2 p7) (some (.Name y p2)) p5.line (X.suite a0 pn).env = pure false) (hb : attributeBase (.Name n p3) a X.env (eval (.Name n p3) X.env) = eval (.Name n p3) X.env) (nd : (n == ("__debug__" : Str)) = false) (nc : (n == ("__classdict__" : Str)) = false)
      (he1 : ∀ a0 pn, starEach [.Constant (.str z) k1 p6, .Attribute (.Name n p3) a p4] (X.suite a0 pn).env = (false, eval (.Constant (.str z) k1 p6) (X.suite a0 pn).env) :: starEach [.Attribute (.Name n p3) a p4] (X.suite a0 pn).env)
      (he2 : ∀ a0 pn, starEach [.Attribute (.Name n p3) a p4] (X.suite a0 pn).env = (false, eval (.Attribute (.Name n p3) a p4) (X.suite a0 pn).env) :: starEach [] (X.suite a0 pn).env)
      (rest : DCl X n i more l) : DCl X n i (.ExceptHandler (some (.Name x p1)) (some n) [.Assign [.Name y p2] (.Tuple [.Constant (.str z) k1 p6, .Attribute (.Name n p3) a p4] k2 p7) p5] q2 :: more) (⟨x, j, a, some z⟩ :: l)
theorem lookup_pair {S : List Addr} {H : Hp} {a : Str} : ∀ {fs : List (Str × V)} {gs : List (Str × PyData)} {d : PyData}, Paired (fun (x : Str × V) (y : Str × PyData) => x.1 = y.1 ∧ Rp X.K S H x.2 y.2) fs gs → gs.lookup a = some d → ∃ v, fs.lookup a = some v ∧ Rp X.K S H v d
  | _, _, d, .nil, h => by simp at h
  | (f, v) :: fs, (g, w) :: gs, d, .cons r t, h => by
    obtain ⟨r1, r2⟩ := r
    have r1 : f = g := r1
    subst r1
    rw [List.lookup_cons] at h ⊢
    split at h
    · cases h
      exact ⟨v, rfl, r2⟩
    · exact lookup_pair t h
def teXf (K : PySem.W.Frag) (a : Addr) (cls : Value) (d : Option Addr) (n : Str) (i : Nat) : TE := fun σ H Q => ∃ C, XfC K C ∧ PySem.W.findIn K (.ref C) n = some none ∧ tXf a cls d C n (tVar i) σ H Q
def teHK (K : PySem.W.Frag) (i : Nat) (h : HK) (a : Addr) (cls : Value) (d : Option Addr) : TE := match h.word with
  | none => teXf K a cls d h.attr i
  | some z => fun σ H Q => teXf K a cls d h.attr i σ H fun v H1 => ∀ p, H1 p = none → Q (.ref p) (upd H1 p (.tup [.str z, v]))
def suiteOf (K : PySem.W.Frag) (i : Nat) (h : HK) : Dw.Suite := fun a cls d => tAsg (teHK K i h a cls d) (gName h.j)
def ClR (K : PySem.W.Frag) (i : Nat) (hs : List Str) (h : HK) (p : Value × Dw.Suite) : Prop := ∃ D, PySem.W.nsIn K mainGlobals h.cls = some (some (.ref D)) ∧ h.cls ∈ hs ∧ h.attr ∈ attrs ∧ p = (.ref D, suiteOf K i h)
theorem pair_te {K : PySem.W.Frag} {a : Addr} {cls : Value} {d : Option Addr} {n z : Str} {i j : Nat} {x : Str} {σ : L2.St} {H : Hp} {Q : VK} (q : teHK K i ⟨x, j, n, some z⟩ a cls d σ H Q) : tTup (tCons (tC (.str z)) (tCons (teXf K a cls d n i) tNil)) σ H Q := by
  have q : teXf K a cls d n i σ H fun v H1 => ∀ p, H1 p = none → Q (.ref p) (upd H1 p (.tup [.str z, v])) := q
  obtain ⟨C, h1, h2, v, h3, h4, h5, dd, fs, w, h6, h7, h8, h9⟩ := q
  exact ⟨C, h1, h2, v, h3, h4, h5, dd, fs, w, h6, h7, h8, (by show 2 ≤ sizeLine; rw [sizeLine_eq]; decide), h9⟩
theorem cl_of {cs : List ExceptHandler} {l : List HK} (cl : DCl X n i cs l) (mgs : ∀ h ∈ l, ∃ D, X.mg h.cls = some (.ref D) ∧ PySem.W.nsIn X.K mainGlobals h.cls = some (some (.ref D)) ∧ h.cls ∈ hs) : ∃ l', Dw.Clauses X n cs l' ∧ Paired (ClR X.K i hs) l l' := by
  induction cl with
  | none => exact ⟨[], .none, .nil⟩
  | one hg hd hN hi hv hj hy hyl ha hsw hb nd nc rest ih =>
    obtain ⟨l', c', p'⟩ := ih fun h hh => mgs h (List.mem_cons_of_mem _ hh)
    obtain ⟨D, m1, m2, m3⟩ := mgs _ List.mem_cons_self
    exact ⟨_, .one (c := .ref D) ⟨hg, hd, .inl m1⟩ (fun a oe cls d pn hz hf => pss_one (ps_set hN hj hy (Dw.pe_xfE hz hf (pe_var hi hv nd nc) hb) (hsw a _) hyl)) c', .cons ⟨D, m2, m3, ha, rfl⟩ p'⟩
  | two hg hd hN hi hv hj hy hyl ha hsw hb nd nc he1 he2 rest ih =>
    obtain ⟨l', c', p'⟩ := ih fun h hh => mgs h (List.mem_cons_of_mem _ hh)
    obtain ⟨D, m1, m2, m3⟩ := mgs _ List.mem_cons_self
    exact ⟨_, .one (c := .ref D) ⟨hg, hd, .inl m1⟩ (fun a oe cls d pn hz hf => pss_one (ps_set hN hj hy (pe_imp (pe_tup (pa_cons pe_str (pa_cons (Dw.pe_xfE hz hf (pe_var hi hv nd nc) hb) pa_nil (he2 a _)) (he1 a _))) (fun σ H Q q => pair_te q)) (hsw a _) hyl)) c', .cons ⟨D, m2, m3, ha, rfl⟩ p'⟩
theorem set_back {α : Type} (l : List α) (i j : Nat) (x o : α) : ((l.set i o).set j x).set i o = (l.set j x).set i o := by
  by_cases h : i = j
  · subst h
    rw [List.set_set, List.set_set, List.set_set]
  · rw [List.set_comm _ _ h, List.set_set]
theorem handle_all {W0 W : Wd} {H0 H H' : Hp} {σ : L2.St} {ρ : List SD} {D : Ends} {ex : Exn} {C dx : Addr} {fs : List (Str × V)} (F : ErrF X.K errs isA hs) (s : SSt X.K W0 H0 W H σ ρ) (li : i < ρ.length) (he : ex.C ∈ errs) (hC : PySem.W.nsIn X.K mainGlobals ex.C = some (some (.ref C)))
    (k : Kp W H H') (ok : W.Ok H') (nn : Fr0 H dx) (hd : H' dx = some (.xd fs)) (ns : dx ∉ W.S) (r : Paired (fun (a : Str × V) (b : Str × PyData) => a.1 = b.1 ∧ Rp X.K W.S H' a.2 b.2) fs ex.fs) :
    ∀ {l : List HK} {l' : List (Value × Dw.Suite)}, Paired (ClR X.K i hs) l l' → handle isA i ρ (OutP X.K W0 H0 W H D) (XP X.K W0 H0 E) ex l → Dw.wAll X.K i (fun cls d _ H => E cls d H) D l' (.ref C) (some dx) σ H'
  | _, _, .nil, q => (s.xp q) C dx H' fs hC k ok nn hd ns r
  | h :: l, _, .cons cr t, q => by
    obtain ⟨Dc, c1, c2, c3, rfl⟩ := cr
    refine ⟨isA ex.C h.cls, F.sub _ _ _ _ hC c1 he c2, fun hb a na => ?_, fun hb => ?_⟩
    · unfold handle at q
      rw [if_pos hb] at q
      obtain ⟨d, hl, q⟩ := q
      obtain ⟨v, hv, rv⟩ := lookup_pair (X := X) r hl
      obtain ⟨x1, x2, x3, x4, x5⟩ := F.xf _ _ hC he
      have xn : PySem.W.findIn X.K (.ref C) h.attr = some none := by
        have c3 := c3
        unfold attrs at c3
        simp only [List.mem_cons, List.not_mem_nil, or_false] at c3
        rcases c3 with z | z | z | z <;> rw [z] <;> assumption
      have ls : i < σ.length := by rw [s.rel.len]; exact li
      obtain ⟨hcls, hj, hattr, hword⟩ := h
      cases hword with
      | none =>
        refine ⟨C, x1, xn, .ref a, List.getElem?_set_self ls, rfl, rfl, dx, fs, v, rfl, hd, hv, ?_⟩
        have q : OutP X.K W0 H0 W H D (.nx ((ρ.set hj (.d d)).set i .no)) := q
        have s1 := (((s.keep k ok).gone i (some (.ref a))).set (i := hj) (x := .d d) (v := v) rv rfl).gone i none
        rw [set_back] at s1
        exact q W _ H' (k.stp s.ok) s1
      | some z =>
        refine ⟨C, x1, xn, .ref a, List.getElem?_set_self ls, rfl, rfl, dx, fs, v, rfl, hd, hv, fun p hp => ?_⟩
        have q : OutP X.K W0 H0 W H D (.nx ((ρ.set hj (.d (.tuple [.str z, d]))).set i .no)) := q
        have sm := Dw.same_new (o := .tup [.str z, v]) hp
        have k2 : Kp W H' (upd H' p (.tup [.str z, v])) := Kp.same sm
        have rt : Rp X.K W.S (upd H' p (.tup [.str z, v])) (.ref p) (.tuple [.str z, d]) := .tup (.inl (.inl upd_same)) (.cons (.str z) (.cons (Rp.step (k2.stp ok) rv) .nil))
        have s1 := ((((s.keep k ok).keep k2 (ok.same sm)).gone i (some (.ref a))).set (i := hj) (x := .d (.tuple [.str z, d])) (v := .ref p) rt rfl).gone i none
        rw [set_back] at s1
        exact q W _ _ ((k.stp s.ok).trans (k2.stp ok)) s1
    · unfold handle at q
      rw [if_neg (by rw [hb]; decide)] at q
      exact handle_all F s li he hC k ok nn hd ns r t q
end
end Dd
namespace Dd
open PySem PySem.Spec PyProof.Rows L2 LamX
def TTd (K : PySem.W.Frag) (G : M SD → M SD) (tl : XK → Hp → VK → Prop) (H : Hp) (Q : VK) : Prop :=
  ∃ (W : Wd) (act : M SD), W.Ok H ∧ W.tab = theTab K ∧ (∀ (E : XK) (Q' : VK), act.run (Post K W H Q') (XP K W H E) → tl E H Q') ∧ (G act).run (Post K W H Q) (fun _ => False)
section
variable {X : Cx} {EX : L2.St → XK}
end
end Dd
namespace Dd
open PySem PySem.Spec PyProof.Rows L2 LamX
def retM (m : M Out) : M SD := m >>= fun o => match o with
  | .rt y => pure y
  | .nx _ => pure (.d .none)
  | _ => M.fail
def ActR (Y : Cx) (ec : Expr) (f c : Addr) (q : Str) (tl : XK → Hp → VK → Prop) : Prop :=
  ∀ (W : WX) (pn : List (Addr × Obj)) (xe : Value → Shared → Prop) (E : XK) (σ0 : L2.St), Takes (Y.tr pn xe) W → (∀ cls d H', E cls d H' → W cls d σ0 H') →
    PE (Y.tr pn xe) ec (fun σZ HZ Q => σZ = σ0 ∧ σZ[0]? = some (some (.ref f)) ∧ HZ c = some (CodeO c q) ∧ tl E HZ Q)
def AtTry (K : PySem.W.Frag) (f c : Addr) (q : Str) (tl : XK → Hp → VK → Prop) (G : M SD → List SD → M Out) : TS := fun D σ H => ∃ (W : Wd) (ρ : List SD) (act : M SD), SSt K W H W H σ ρ ∧ σ[0]? = some (some (.ref f)) ∧ H c = some (CodeO c q) ∧
  (∀ (E : XK) (Q' : VK), act.run (Post K W H Q') (XP K W H E) → tl E H Q') ∧ (G act ρ).run (OutP K W H W H D) (fun _ => False)
section
variable {Y : Cx} {ec : Expr} {f c : Addr} {q n : Str} {i : Nat} {tl : XK → Hp → VK → Prop} {errs hs : List Str} {isA : Str → Str → Bool}
end
section
variable {K : PySem.W.Frag} {W : Wd} {H : Hp} {σ : L2.St} {ρ : List SD}
end
end Dd
namespace Dd
open PySem PySem.Spec PyProof.Rows L2 LamX
def LamAt (K : PySem.W.Frag) (mg : Str → Option Value) (x a : Str) (st : Stmt) : Prop := ∃ (g : Addr) (oc : Value) (od : Option Addr) (dV kV doc pm : Value) (an : Option Addr) (cdv ct : Value) (osl : Array (Option Value)),
  mg x = some (.ref g) ∧ PySem.W.keepIn K (.ref g) = true ∧ K.lookup g = some ⟨oc, od, .func (PySem.W.fnOf x x (defArgs st) (defBody st) (defScope st) dV kV doc pm an cdv ct), osl⟩ ∧ PySem.W.codeIn K cdv x = true ∧
  L2.Binds K (PySem.W.fnOf x x (defArgs st) (defBody st) (defScope st) dV kV doc pm an cdv ct) [a] []
def CodeTab (K : PySem.W.Frag) (mg : Str → Option Value) (base : Heap) (nm : Str) (cdv : Value) : Prop := ∃ c, cdv = .ref c ∧ LamX.TabB base mg c (tabOf K nm) ∧ nm ∈ lamNames ∧ ∀ z ∈ lamNames, tabOf K z = tabOf K nm → z = nm
section
variable {X : Cx} {EX : L2.St → XK}
end
section
variable {P : Program} {w : World} {K : PySem.W.Frag} {mg : Str → Option Value} {base : Heap}
end
end Dd
namespace Dd
open PySem PySem.Spec PyProof.Rows L2
section
variable {X : Cx} {EX : L2.St → XK} {pos : Pos}
end
end Dd
namespace Dd
open PySem PySem.Spec PyProof.Rows L2
theorem vals_set : ∀ {xs : List V} {us : List Value} {v : V} {u : Value} (j : Nat), Vals xs us → RelV v u → Vals (xs.set j v) (us.set j u)
  | [], [], _, _, _, .nil, _ => .nil
  | x :: xs, y :: us, v, u, 0, .cons a b, r => .cons r b
  | x :: xs, y :: us, v, u, j + 1, .cons a b, r => .cons a (vals_set j b r)
section
variable {X : Cx} {o i value : Expr} {to ti tv : TE} {pos pos' : Pos}
def sLPut (to ti tv : TE) : TS := fun D σ H => tv σ H fun v H1 => to σ H1 fun x H2 => ti σ H2 fun y H3 => ∃ (l : Addr) (xs : List V) (j : Nat), x = .ref l ∧ y = .int (j : Int) ∧ H3 l = some (.lst xs) ∧ j < xs.length ∧ xs.length < 2 ^ 60 ∧ D.nx σ (upd H3 l (.lst (xs.set j v)))
theorem ps_lput (ho : PE X o to) (hi : PE X i ti) (hv : PE X value tv) (hs : swapsWith value (some (.Subscript o i pos')) pos.line X.env = pure false) : PS X (.Assign [.Subscript o i pos'] value pos) (sLPut to ti tv) := by
  refine ⟨fun pins s σ H D I h => wpAny_Assign_Subscript (thn (hv.run pins s σ H _ I h) fun r s1 ⟨v, H1, I1, rv, q1⟩ => thn (ho.run pins s1 σ H1 _ I1 q1) fun u s2 ⟨x, H2, I2, rx, q2⟩ => thn (hi.run pins s2 σ H2 _ I2 q2) fun iv s3 ⟨y, H3, I3, ry, l, xs, j, ex, ey, hH, hj, hz, q3⟩ => ?_) hs⟩
  subst ex
  subst ey
  cases (show u = Value.ref l from rx)
  obtain ⟨t, rfl⟩ := (show ∃ t, iv = Value.int (j : Int) t from ry)
  obtain ⟨z, its, n, rl, hl, e⟩ := I3.lstM hH
  refine PySem.W.ki_setAt (items := its.toArray) e (Int.natCast_nonneg j) (by omega) (by rw [List.size_toArray]; omega) ⟨σ, _, I3.lset (its' := its.set j r) (ys := xs.set j v) hH e ?_ (vals_set j rl rv) (by rw [List.length_set]; exact z), q3⟩
  rw [Int.toNat_natCast, List.setIfInBounds_toArray]
end
section
variable {X : Cx} {E : XK} {e e2 o : Expr} {x : Str} {pos p p2 : Pos} {T T2 : List SD → M SD}
theorem rpAll_set {K : PySem.W.Frag} {S : List Addr} {H : Hp} {xs : List V} {ds : List PyData} {v : V} {d : PyData} (j : Nat) (h : RpAll K S H xs ds) (r : Rp K S H v d) : RpAll K S H (xs.set j v) (ds.set j d) := by
  by_cases hj : j < xs.length
  · rw [List.set_eq_take_append_cons_drop, List.set_eq_take_append_cons_drop, if_pos hj, if_pos (by rw [← h.length]; exact hj)]
    exact RpAll.append (h.take j) (.cons r (h.drop (j + 1)))
  · rw [List.set_eq_of_length_le (by omega), List.set_eq_of_length_le (by rw [← h.length]; omega)]
    exact h
theorem ds_putL (i : Nat) {pos' : Pos} (ho : PE X o (tVar i)) (h1 : DE X (fun _ => E) e T) (h2 : DE X (fun _ => E) e2 T2) (hs : swapsWith e2 (some (.Subscript o e pos')) pos.line X.env = pure false := by rfl) :
    DS X E (.Assign [.Subscript o e pos'] e2 pos) (fun ρ => do let y ← T2 ρ; let z ← M.lift (asD y); let ds ← M.lift (ownL ρ i); let w ← T ρ; let j ← M.lift (asI w); M.when (decide (0 ≤ j) && decide (j.toNat < ds.length) && szOk ds.length) (pure (.nx (ρ.set i (.own (ds.set j.toNat z)))))) := by
  refine ps_imp (ps_lput ho h1 h2 hs) fun D σ H ⟨W0, H0, W, ρ, s, h⟩ => ?_
  refine ex_run (T := T2) s h fun y h v H1 k1 ok1 r1 => ?_
  obtain ⟨z, hz, h⟩ := run_lift.mp h
  obtain rfl := asD_eq hz
  have s1 := s.keep k1 ok1
  obtain ⟨ds, hg, h⟩ := run_lift.mp h
  have hi := ownL_eq hg
  obtain ⟨u, h3, h4⟩ := s1.rel.get i _ hi (fun z => nomatch z)
  obtain ⟨q, xs, rfl, mem, ns, hq, t⟩ := h4
  refine ⟨.ref q, h3, ?_⟩
  refine ex_run (T := T) s1 h fun w h vw H' k ok r => ?_
  obtain ⟨j, hj, h⟩ := run_lift.mp h
  obtain ⟨c, h⟩ := run_when.mp h
  obtain ⟨c, c3⟩ := Bool.and_eq_true_iff.mp c
  obtain ⟨c1, c2⟩ := Bool.and_eq_true_iff.mp c
  have ev : vw = .int j := by
    unfold asI at hj
    split at hj
    · cases r; cases hj; rfl
    · cases hj
  subst ev
  obtain ⟨jn, rfl⟩ := Int.eq_ofNat_of_zero_le (of_decide_eq_true c1)
  have hq' : H' q = some (.lst xs) := k q _ hq ns nt_lst
  have t' := RpAll.step (k.stp ok1) t
  have r1' := Rp.step (k.stp ok1) r1
  have s' := s1.keep k ok
  have m := s'.mut (x := .own (ds.set jn z)) (o := .lst (xs.set jn v)) hi rfl h3 ⟨(fun z => z), nt_lst⟩ rfl fun st mem ns => ⟨q, _, rfl, mem, ns, upd_same, rpAll_set jn (RpAll.step st t') (Rp.step st r1')⟩
  have hl := of_decide_eq_true c2
  rw [Int.toNat_natCast] at hl
  exact ⟨q, xs, jn, rfl, rfl, hq', by rw [t.length]; exact hl, by have := szOk.le c3; rw [← t.length] at this; unfold sizeLine at this; omega, h W σ _ (((k1.stp s.ok).trans (k.stp ok1)).trans m.1) m.2⟩
def asList : SD → Option (List PyData)
  | .d (.list ds) => some ds
  | .d (.tuple ds) => some ds
  | .own ds => some ds
  | _ => none
end
section
variable {X : Cx} {EX : L2.St → XK} {a b : Expr} {pos : Pos} {Ta Tb : List SD → M SD}
def gRep : SD → SD → Option SD
  | .d (.list ds), .d (.int k) => if (decide (0 ≤ k) && decide (k ≤ 1000) && szOk (ds.length * k.toNat)) = true then some (.d (.list (List.replicate k.toNat ds).flatten)) else none
  | _, _ => none
theorem rpAll_rep {K : PySem.W.Frag} {S : List Addr} {H : Hp} {xs : List V} {ds : List PyData} (h : RpAll K S H xs ds) : ∀ n : Nat, RpAll K S H (List.replicate n xs).flatten (List.replicate n ds).flatten
  | 0 => .nil
  | n + 1 => by
    rw [List.replicate_succ, List.replicate_succ, List.flatten_cons, List.flatten_cons]
    exact h.append (rpAll_rep h n)
theorem de_rep (ha : DE X EX a Ta) (hb : DE X EX b Tb) : DE X EX (.BinOp a .Mult b pos) (fun ρ => do let x ← Ta ρ; let y ← Tb ρ; M.lift (gRep x y)) := by
  refine pe_imp (pe_op op_rep ha hb) (bin_imp fun {W H v w x y z Q} ok r1 r2 h q => ?_)
  unfold gRep at h
  split at h
  · split at h
    · rename_i s
      cases h
      cases r2
      cases r1 with | lst l1 t1 =>
      obtain ⟨s, s3⟩ := Bool.and_eq_true_iff.mp s
      obtain ⟨s1, s2⟩ := Bool.and_eq_true_iff.mp s
      have s1 := of_decide_eq_true s1
      have s2 := of_decide_eq_true s2
      exact ⟨_, _, _, rfl, rfl, l1.1, by omega, by omega, by rw [t1.length]; exact szOk.le s3, fun p hp => new_lst ok hp (rpAll_rep t1 _) q⟩
    · cases h
  · cases h
end
end Dd
namespace Dd
open PySem PySem.Spec PyProof.Rows L2
structure RK (P : Program) (w : World) (κ : Type) [DecidableEq κ] where
  at_ : Heap → κ → Addr → Prop
  hsh : κ → Int
  keep : ∀ {h h' : Heap} {k : κ} {a : Addr}, at_ h k a → (∀ o, h.get? a = some o → h'.get? a = some o) → at_ h' k a
  noSet : ∀ {h : Heap} {k : κ} {a : Addr} {o : Obj} {es : Array (Int × Value)} {ep : Nat} {t : SetTable}, at_ h k a → h.get? a = some o → o.data ≠ .set es ep t
  eqv : ∀ {A : Around} {E : Value → Shared → Prop} {s : Shared} {k j : κ} {a b : Addr} {Q : Bool → Shared → Prop}, A.units < cLine → at_ s.heap k a → at_ s.heap j b → Q (decide (k = j)) s → wpAny (model P w) A (eqBool (.ref a) (.ref b)) Q E s
  seen : ∀ {A : Around} {E : Value → Shared → Prop} {s : Shared} {k : κ} {a : Addr} {ys : List Value} {Q : Bool → Shared → Prop}, at_ s.heap k a → (∀ y ∈ ys, ∃ j b, y = Value.ref b ∧ at_ s.heap j b) → Q false s → wpAny (model P w) A (searchCouldBeSeen (.ref a) ys) Q E s
  byVal : ∀ {A : Around} {E : Value → Shared → Prop} {s : Shared} {k : κ} {a : Addr} {Q : Bool → Shared → Prop}, at_ s.heap k a → (∀ b, Q b s) → wpAny (model P w) A (hashByValue 8 (.ref a)) Q E s
  pyh : ∀ {A : Around} {E : Value → Shared → Prop} {s : Shared} {k : κ} {a : Addr} {Q : Int → Shared → Prop}, A.units < cLine → at_ s.heap k a → (∀ n : Nat, Q (hsh k) { s with toks := s.toks + n }) → wpAny (model P w) A (pyHash (.ref a)) Q E s
section
variable {P : Program} {w : World} {κ : Type} [DecidableEq κ] {R : RK P w κ} {A : Around} {E : Value → Shared → Prop} {s : Shared} {a : Addr} {L : List (Addr × κ)} {es : Array (Int × Value)} {ep : Nat} {t : SetTable}
abbrev RK.ent (R : RK P w κ) (p : Addr × κ) : Int × Value := (R.hsh p.2, .ref p.1)
structure SP (R : RK P w κ) (h : Heap) (a : Addr) (L : List (Addr × κ)) (es : Array (Int × Value)) (ep : Nat) (t : SetTable) : Prop where
  obj : ∃ o, h.get? a = some o ∧ o.ExactSet ∧ o.data = .set es ep t
  row : es.toList = L.map R.ent
  tab : TabOk t (L.map fun p => R.hsh p.2)
  dis : (L.map fun p => p.2).Nodup
  key : ∀ p ∈ L, R.at_ h p.2 p.1
  led : w.params.followText "set-order" = true ∨ t.led = true
  free : L.length * 5 < t.mask * 3
  few : L.length < 64
theorem SP.len (S : SP R s.heap a L es ep t) : es.size = L.length := by
  rw [← Array.length_toList, S.row, List.length_map]
theorem SP.plc (S : SP R s.heap a L es ep t) : t.place.size = L.length := by
  have := S.tab.sz
  rwa [List.length_map] at this
theorem SP.fit (S : SP R s.heap a L es ep t) : t.fits es.size = true := by
  have := S.free
  unfold SetTable.fits SetTable.fill
  rw [S.tab.dm, S.len, S.plc, Bool.and_eq_true, beq_iff_eq, decide_eq_true_eq]
  exact ⟨rfl, show L.length + 0 ≤ t.mask by omega⟩
theorem SP.ent (S : SP R s.heap a L es ep t) {i : Nat} {p : Addr × κ} (h : L[i]? = some p) : es[i]? = some (R.ent p) := by
  rw [← Array.getElem?_toList, S.row, List.getElem?_map, h]
  rfl
abbrev prb (t : SetTable) (g : Int) (n : Nat) : SetTable.Probe := nth t.mask (runAt t.mask (SetTable.bits g % (t.mask + 1)) (SetTable.bits g)) n
end
end Dd
namespace Dd
open PySem PySem.Spec PyProof.Rows L2
section
variable {P : Program} {w : World} {κ : Type} [DecidableEq κ] {R : RK P w κ} {A : Around} {E : Value → Shared → Prop} {s : Shared} {a : Addr} {L : List (Addr × κ)} {es : Array (Int × Value)} {ep : Nat} {t : SetTable}
end
end Dd
namespace Dd
open PySem PySem.Spec PyProof.Rows L2
section
variable {P : Program} {w : World} {κ : Type} [DecidableEq κ] {R : RK P w κ} {A : Around} {E : Value → Shared → Prop} {s : Shared} {a : Addr} {L : List (Addr × κ)} {es : Array (Int × Value)} {ep : Nat} {t : SetTable}
end
end Dd
namespace Dd
open PySem PySem.Spec PyProof.Rows L2
def dst : List Str → List Str → Nat
  | _, [] => 0
  | a, x :: r => if x ∈ a then dst a r else dst (x :: a) r + 1
theorem dst_snoc : ∀ (l a : List Str) (x : Str), dst a (l ++ [x]) = if x ∈ a ∨ x ∈ l then dst a l else dst a l + 1
  | [], a, x => by
    by_cases h : x ∈ a <;> simp [dst, h]
  | y :: l, a, x => by
    show dst a (y :: (l ++ [x])) = _
    unfold dst
    by_cases h : y ∈ a
    · rw [if_pos h, if_pos h, dst_snoc l a x]
      by_cases z : x ∈ a ∨ x ∈ l
      · rw [if_pos z, if_pos (by rcases z with z | z <;> simp [z])]
      · rw [if_neg z, if_neg (fun q => z (by
          rcases q with q | q
          · exact .inl q
          · rcases List.mem_cons.mp q with rfl | q
            · exact .inl h
            · exact .inr q))]
    · rw [if_neg h, if_neg h, dst_snoc l (y :: a) x]
      by_cases z : x ∈ y :: a ∨ x ∈ l
      · rw [if_pos z, if_pos (by
          rcases z with z | z
          · rcases List.mem_cons.mp z with rfl | z
            · exact .inr List.mem_cons_self
            · exact .inl z
          · exact .inr (List.mem_cons_of_mem _ z))]
      · rw [if_neg z, if_neg (fun q => z (by
          rcases q with q | q
          · exact .inl (List.mem_cons_of_mem _ q)
          · rcases List.mem_cons.mp q with rfl | q
            · exact .inl List.mem_cons_self
            · exact .inr q))]
theorem dst_le : ∀ (l a : List Str), dst a l ≤ l.length
  | [], _ => Nat.le_refl 0
  | x :: r, a => by
    unfold dst
    rw [List.length_cons]
    split
    · exact Nat.le_succ_of_le (dst_le r a)
    · exact Nat.succ_le_succ (dst_le r _)
theorem dst_nodup : ∀ (l a : List Str), l.Nodup → (∀ x ∈ l, x ∉ a) → dst a l = l.length
  | [], _, _, _ => rfl
  | x :: r, a, h, d => by
    obtain ⟨h1, h2⟩ := List.nodup_cons.mp h
    unfold dst
    rw [if_neg (d x List.mem_cons_self), dst_nodup r (x :: a) h2 (fun y hy z => by
      rcases List.mem_cons.mp z with rfl | z
      · exact h1 hy
      · exact d y (List.mem_cons_of_mem _ hy) z)]
    rfl
section
variable {P : Program} {w : World} {A : Around} {R : Result → Shared → Prop} {it : Addr} {fp wr : List Addr} {G : Array GenState → Array GenState → Prop} {Pv : Nat → Value → Prop} {St : Nat → Shared → Prop} {xs : List Str}
abbrev Has (P : Program) (w : World) (h : Heap) (D : Addr) (xs : List Str) (i : Nat) : Prop := h.SetOf (strKind P w) D (fun z => decide (z ∈ xs.take i)) (dst [] (xs.take i))
theorem Has.moved {h h' : Heap} {D : Addr} {i : Nat} (H : Has P w h D xs i) (k : ∀ o, h.get? D = some o → h'.get? D = some o) : Has P w h' D xs i := by
  obtain ⟨o, es, ep, t, e, r⟩ := H
  exact ⟨o, es, ep, t, k o e, r⟩
theorem fill_loop (W : WalksS P w A.in1 it fp wr G xs.length Pv St) {D : Addr} (hD : D ∉ fp) (small : xs.length < 4000) (hv : ∀ i v, Pv i v → ∃ z t, xs[i]? = some z ∧ v = .str z t) :
    ∀ (m i : Nat) (s : Shared), m + i = xs.length → St i s → Has P w s.heap D xs i → (∀ s', Moved (D :: wr) G s s' → Has P w s'.heap D xs xs.length → R (.ok (.ret .none)) s') →
      codeAny (model P w) A (.builtin "set.update.loop" ⟨[.ref D, .ref it], []⟩) R s := by
  have nw : D ∉ wr := fun z => hD (W.sub D z)
  have up : ∀ b ∈ wr, b ∈ D :: wr := fun b hb => List.mem_cons_of_mem D hb
  intro m
  induction m with
  | zero =>
    intro i s e st hs q
    obtain rfl : i = xs.length := by omega
    refine codeAny_builtin PyProof.Rows.F.entry_set_update_loop ?_
    rw [Around.under_plainId PyProof.Rows.F.plain_set_update_loop _]
    refine (show wpAny _ A.in1 (pyNext (.ref it) >>= _) _ _ s from wpAny_bind (W.done s _ _ st fun s1 mv => ?_))
    exact (show wpAny _ A.in1 (ret Value.none) _ _ s1 from wpAny_pure (q s1 (mv.mono up) (hs.moved fun o e => mv.heap D o nw e)))
  | succ m ih =>
    intro i s e st hs q
    refine codeAny_builtin PyProof.Rows.F.entry_set_update_loop ?_
    rw [Around.under_plainId PyProof.Rows.F.plain_set_update_loop _]
    refine (show wpAny _ A.in1 (pyNext (.ref it) >>= _) _ _ s from wpAny_bind (W.item i s _ _ (by omega) st fun v s1 pv st1 mv => ?_))
    obtain ⟨z, t, hz, rfl⟩ := hv i v pv
    have hs1 : Has P w s1.heap D xs i := hs.moved fun o e => mv.heap D o nw e
    refine (show wpAny _ A.in1 (holding [Value.str z t] (setAdd D (.str z t)) >>= _) _ _ s1 from wpAny_bind (wpAny_holding ?_))
    unfold setAdd
    refine wpAny_holding (wpAny_bind ((strKind P w).pyHash (k := z) (strKind_is P w z t) ?_))
    have le := dst_le (xs.take i) []
    rw [List.length_take] at le
    refine wpAny_setAddHashed_of (knd := strKind P w) (s := { s1 with toks := s1.toks + 1 }) (strKind_is P w z t) rfl hs1 (by unfold scanBound; omega) fun h2 sb hs2 => ?_
    have tk : xs.take (i + 1) = xs.take i ++ [z] := by rw [List.take_add_one, hz]; rfl
    have hs3 : Has P w h2 D xs (i + 1) := by
      unfold Has
      rw [tk, dst_snoc]
      refine SetOf_congr hs2 (fun y => ?_) ?_
      · simp only [List.mem_append, List.mem_singleton, Bool.decide_or]
      · simp only [List.not_mem_nil, false_or, decide_eq_true_eq]
    refine wpAny_pure ⟨plainId_quiet PyProof.Rows.F.plain_set_update_loop _, ih (i + 1) _ (by omega) (W.frame _ s1 _ _ st1 (Nat.le_succ _) fun b hb o e => ?_) hs3 fun s2 mv2 hs4 => ?_⟩
    · rw [sb.2 b fun y => hD (y ▸ hb)]
      exact e
    · refine q s2 (Moved.trans W.gtrans ((mv.mono up).then_heap (Nat.le_succ _) fun b o hb e => ?_) mv2) hs4
      rw [sb.2 b fun y => hb (y ▸ List.mem_cons_self)]
      exact e
end
section
variable {P : Program} {w : World} {A : Around} {E : Value → Shared → Prop} {s : Shared} {xs : List Str}
theorem texts_at {us : List Value} (r : StrsAre us xs) {i : Nat} {v : Value} (e : us[i]? = some v) : ∃ z t, xs[i]? = some z ∧ v = .str z t := by
  induction r generalizing i with
  | nil => simp at e
  | cons y t r ih =>
    cases i with
    | zero => exact ⟨y, t, rfl, (Option.some.inj e).symm⟩
    | succ i => exact ih (i := i) (by simpa using e)
abbrev oNew (led : Bool) : Obj := { cls := .type "set", dict := none, data := .set #[] 0 (.fresh 0 0 led) }
theorem set_listT {l : Addr} {its : Array Value} {Q : Value → Shared → Prop} (quiet : A.handled = none) (src : s.heap.IsList l its) (r : StrsAre its.toList xs) (small : xs.length < 4000)
    (q : ∀ (h1 : Heap) (k : Nat), Has P w h1 s.heap.objs.size xs xs.length → (∀ b o, s.heap.get? b = some o → h1.get? b = some o) → Q (.ref s.heap.objs.size) { s with heap := h1, toks := k }) :
    wpAny (model P w) A (call (.type "set") [.ref l]) Q E s := by
  have len : its.size = xs.length := by rw [← Array.length_toList, StrsAre.len_eq r]
  obtain ⟨m1, m2, m3⟩ := PySem.F.called_set.mro
  have m4 := PySem.F.called_set.made
  have m5 := PySem.F.called_set.sub
  refine wpAny_call (codeAny_of_tree (show wpAny _ _ (callAny (.type "set") _) _ _ _ from wpAny_pure ⟨Code.quiet_builtin _ (by decide +kernel), codeAny_builtin PySem.F.entry_type_call ?_⟩))
  rw [Around.under_plain (weight_type_call_type "set" [.ref l] []) rfl]
  have m6 := PySem.F.called_set.notType
  have m7 := PySem.F.called_set.canCreate
  have m8 := PySem.F.typeCall_set_1 (.ref l)
  repeat (any_goals (first | assumption | wp_step))
  refine codeAny_mono (code_set_new_1 (.ref l) (E := E) (Q₁ := fun x s1 => ∃ led : Bool, x = .ref s.heap.objs.size ∧ s1 = { s with heap := s.heap.push (oNew led) }) fun led => ⟨led, rfl, rfl⟩) fun z s1 hz => ?_
  cases z with
  | error e => exact hz
  | ok fl =>
    cases fl with
    | ret x =>
      obtain ⟨led, rfl, rfl⟩ := hz
      have atD : (s.heap.push (oNew led)).get? s.heap.objs.size = some (oNew led) := Heap.get?_push_size _ rfl
      have isS : Shared.TypeIs { s with heap := s.heap.push (oNew led) } (.ref s.heap.objs.size) "set" := ⟨_, atD, rfl⟩
      have m9 := PySem.F.called_set.init.lookup
      have m0 := PySem.F.called_set.init.bind (.ref s.heap.objs.size)
      repeat (any_goals (first | assumption | wp_step))
      refine codeAny_mono (codeAny_call_builtin (R := wants (fun y s2 => y = .none ∧ ∃ h1 k, s2 = { s with heap := h1, toks := k } ∧ Has P w h1 s.heap.objs.size xs xs.length ∧
          ∀ b o, s.heap.get? b = some o → h1.get? b = some o) E) PySem.F.called_set.init.plain PySem.F.entry_set_init (check_set_init_1 isS ?_)) fun y s2 hy => ?_
      · obtain ⟨⟨c0, d0, dt, sl⟩, hl, hc, n, hd⟩ := src
        simp only at hc hd
        subst hc
        subst hd
        have lS : l < s.heap.objs.size := Heap.lt_size hl
        have hl1 : (s.heap.push (oNew led)).get? l = some { cls := .type "list", dict := d0, data := .seq its n, slots := sl } := Heap.get?_push_of_some _ hl
        have u1 := PySem.F.sub_list_set
        have u2 := PySem.F.sub_list_frozenset
        have u3 : (Value.type "list" == Value.type "dict") = false := by decide
        have src1 : (s.heap.push (oNew led)).IsList l its := ⟨_, hl1, rfl, n, rfl⟩
        unfold Builtin.«set.__init__» noKeywords Builtin.Frozenset.updateFrom
        generalize ei : pyIter = pI
        wp_walk
        subst ei
        refine wpAny_pyIter_list src1 (wpAny_bind (wpAny_runValue ?_))
        have q3 : A.in1.in1.in1.handled = none := by simp [quiet]
        have sz : (s.heap.push (oNew led)).objs.size = s.heap.objs.size + 1 := by rw [Heap.size_push]
        have n1 : l ≠ (s.heap.push (oNew led)).objs.size := fun z => Nat.ne_of_lt (Nat.lt_succ_of_lt lS) (z.trans sz)
        have n2 : s.heap.objs.size ∉ [(s.heap.push (oNew led)).objs.size, l] := fun z => by
          simp only [List.mem_cons, List.not_mem_nil, or_false] at z
          rcases z with z | z
          · exact Nat.ne_of_lt (Nat.lt_succ_self _) (z.trans sz)
          · exact Nat.ne_of_gt lS z
        have W := (Walks.list (prog := P) (w := w) q3 _ l n1 its).toS
        rw [len] at W
        refine fill_loop (xs := xs) W n2 small (fun i v e => texts_at r (by rw [Array.getElem?_toList]; exact e)) xs.length 0 _ rfl ⟨⟨_, Heap.get?_push_size _ rfl, rfl, rfl⟩, src1.push _⟩ ?_ fun s3 mv hs => ?_
        · exact SetOf_congr ((setObjOf_fresh (knd := strKind P w) led).setOf (Heap.get?_push_of_some _ atD) (by unfold scanBound; omega)) (fun _ => rfl) rfl
        · obtain ⟨h1, g1, d1, k1, o1⟩ := s3
          obtain ⟨mh, mg, md, mo, mt⟩ := mv
          have mg : g1 = s.gens := mg
          have md : d1 = s.drawn := md
          have mo : o1 = s.os := mo
          subst mg
          subst md
          subst mo
          refine (show wpAny _ _ _ _ _ _ from wpAny_pure (show wpAny _ _ (ret Value.none) _ _ _ from wpAny_pure ⟨rfl, h1, k1, rfl, hs, fun b o e => ?_⟩))
          have bS : b < s.heap.objs.size := Heap.lt_size e
          refine mh b o (fun z => ?_) (Heap.get?_push_of_some _ (Heap.get?_push_of_some _ e))
          simp only [List.mem_cons, List.not_mem_nil, or_false] at z
          rcases z with z | z
          · exact Nat.ne_of_lt bS z
          · exact Nat.ne_of_lt (Nat.lt_succ_of_lt bS) (z.trans sz)
      · cases y with
        | error e => exact hy
        | ok f2 =>
          cases f2 with
          | ret y =>
            obtain ⟨rfl, h1, k1, rfl, a1, a2⟩ := hy
            repeat (any_goals (first | assumption | wp_step))
            exact q h1 k1 a1 a2
          | _ => exact hy.elim
    | _ => exact hz.elim
theorem set_tupleT {l : Addr} {its : Array Value} {Q : Value → Shared → Prop} (quiet : A.handled = none) (src : s.heap.IsTuple l its) (r : StrsAre its.toList xs) (small : xs.length < 4000)
    (q : ∀ (h1 : Heap) (k : Nat), Has P w h1 s.heap.objs.size xs xs.length → (∀ b o, s.heap.get? b = some o → h1.get? b = some o) → Q (.ref s.heap.objs.size) { s with heap := h1, toks := k }) :
    wpAny (model P w) A (call (.type "set") [.ref l]) Q E s := by
  have len : its.size = xs.length := by rw [← Array.length_toList, StrsAre.len_eq r]
  obtain ⟨m1, m2, m3⟩ := PySem.F.called_set.mro
  have m4 := PySem.F.called_set.made
  have m5 := PySem.F.called_set.sub
  refine wpAny_call (codeAny_of_tree (show wpAny _ _ (callAny (.type "set") _) _ _ _ from wpAny_pure ⟨Code.quiet_builtin _ (by decide +kernel), codeAny_builtin PySem.F.entry_type_call ?_⟩))
  rw [Around.under_plain (weight_type_call_type "set" [.ref l] []) rfl]
  have m6 := PySem.F.called_set.notType
  have m7 := PySem.F.called_set.canCreate
  have m8 := PySem.F.typeCall_set_1 (.ref l)
  repeat (any_goals (first | assumption | wp_step))
  refine codeAny_mono (code_set_new_1 (.ref l) (E := E) (Q₁ := fun x s1 => ∃ led : Bool, x = .ref s.heap.objs.size ∧ s1 = { s with heap := s.heap.push (oNew led) }) fun led => ⟨led, rfl, rfl⟩) fun z s1 hz => ?_
  cases z with
  | error e => exact hz
  | ok fl =>
    cases fl with
    | ret x =>
      obtain ⟨led, rfl, rfl⟩ := hz
      have atD : (s.heap.push (oNew led)).get? s.heap.objs.size = some (oNew led) := Heap.get?_push_size _ rfl
      have isS : Shared.TypeIs { s with heap := s.heap.push (oNew led) } (.ref s.heap.objs.size) "set" := ⟨_, atD, rfl⟩
      have m9 := PySem.F.called_set.init.lookup
      have m0 := PySem.F.called_set.init.bind (.ref s.heap.objs.size)
      repeat (any_goals (first | assumption | wp_step))
      refine codeAny_mono (codeAny_call_builtin (R := wants (fun y s2 => y = .none ∧ ∃ h1 k, s2 = { s with heap := h1, toks := k } ∧ Has P w h1 s.heap.objs.size xs xs.length ∧
          ∀ b o, s.heap.get? b = some o → h1.get? b = some o) E) PySem.F.called_set.init.plain PySem.F.entry_set_init (check_set_init_1 isS ?_)) fun y s2 hy => ?_
      · obtain ⟨⟨c0, d0, dt, sl⟩, hl, hc, n, hd⟩ := src
        simp only at hc hd
        subst hc
        subst hd
        have lS : l < s.heap.objs.size := Heap.lt_size hl
        have hl1 : (s.heap.push (oNew led)).get? l = some { cls := .type "tuple", dict := d0, data := .seq its n, slots := sl } := Heap.get?_push_of_some _ hl
        have u1 := PySem.F.sub_tuple_set
        have u2 := PySem.F.sub_tuple_frozenset
        have u3 : (Value.type "tuple" == Value.type "dict") = false := by decide
        have src1 : (s.heap.push (oNew led)).IsTuple l its := ⟨_, hl1, rfl, n, rfl⟩
        unfold Builtin.«set.__init__» noKeywords Builtin.Frozenset.updateFrom
        generalize ei : pyIter = pI
        wp_walk
        subst ei
        refine wpAny_pyIter_tuple src1 (wpAny_bind (wpAny_runValue ?_))
        have q3 : A.in1.in1.in1.handled = none := by simp [quiet]
        have sz : (s.heap.push (oNew led)).objs.size = s.heap.objs.size + 1 := by rw [Heap.size_push]
        have n1 : l ≠ (s.heap.push (oNew led)).objs.size := fun z => Nat.ne_of_lt (Nat.lt_succ_of_lt lS) (z.trans sz)
        have n2 : s.heap.objs.size ∉ [(s.heap.push (oNew led)).objs.size, l] := fun z => by
          simp only [List.mem_cons, List.not_mem_nil, or_false] at z
          rcases z with z | z
          · exact Nat.ne_of_lt (Nat.lt_succ_self _) (z.trans sz)
          · exact Nat.ne_of_gt lS z
        have W := (Walks.tuple (prog := P) (w := w) q3 _ l n1 its).toS
        rw [len] at W
        refine fill_loop (xs := xs) W n2 small (fun i v e => texts_at r (by rw [Array.getElem?_toList]; exact e)) xs.length 0 _ rfl ⟨⟨_, Heap.get?_push_size _ rfl, rfl, rfl⟩, src1.push _⟩ ?_ fun s3 mv hs => ?_
        · exact SetOf_congr ((setObjOf_fresh (knd := strKind P w) led).setOf (Heap.get?_push_of_some _ atD) (by unfold scanBound; omega)) (fun _ => rfl) rfl
        · obtain ⟨h1, g1, d1, k1, o1⟩ := s3
          obtain ⟨mh, mg, md, mo, mt⟩ := mv
          have mg : g1 = s.gens := mg
          have md : d1 = s.drawn := md
          have mo : o1 = s.os := mo
          subst mg
          subst md
          subst mo
          refine (show wpAny _ _ _ _ _ _ from wpAny_pure (show wpAny _ _ (ret Value.none) _ _ _ from wpAny_pure ⟨rfl, h1, k1, rfl, hs, fun b o e => ?_⟩))
          have bS : b < s.heap.objs.size := Heap.lt_size e
          refine mh b o (fun z => ?_) (Heap.get?_push_of_some _ (Heap.get?_push_of_some _ e))
          simp only [List.mem_cons, List.not_mem_nil, or_false] at z
          rcases z with z | z
          · exact Nat.ne_of_lt bS z
          · exact Nat.ne_of_lt (Nat.lt_succ_of_lt bS) (z.trans sz)
      · cases y with
        | error e => exact hy
        | ok f2 =>
          cases f2 with
          | ret y =>
            obtain ⟨rfl, h1, k1, rfl, a1, a2⟩ := hy
            repeat (any_goals (first | assumption | wp_step))
            exact q h1 k1 a1 a2
          | _ => exact hy.elim
    | _ => exact hz.elim
end
end Dd
namespace Dd
open PySem PySem.Spec PyProof.Rows L2
def strsD : List PyData → Option (List Str)
  | [] => some []
  | .str x :: r => (strsD r).map (x :: ·)
  | _ => none
theorem strs_rp {K : PySem.W.Frag} {S : List Addr} {H : Hp} : ∀ {vs : List V} {ds : List PyData} {ss : List Str}, RpAll K S H vs ds → strsD ds = some ss → vs = ss.map V.str
  | _, _, ss, .nil, e => by
    cases e
    rfl
  | _, d :: ds, ss, .cons (v := v) h t, e => by
    cases d with
    | str x =>
      obtain ⟨r, e1, rfl⟩ := Option.map_eq_some_iff.mp (show (strsD ds).map (x :: ·) = some ss from e)
      cases h
      rw [strs_rp t e1]
      rfl
    | _ => cases (show (none : Option (List Str)) = some ss from e)
def lenSetN : SD → Option Int
  | .d (.list ds) => (strsD ds).bind fun ss => if ss.length < 4000 then some ((dst [] ss : Nat) : Int) else none
  | .d (.tuple ds) => (strsD ds).bind fun ss => if ss.length < 4000 then some ((dst [] ss : Nat) : Int) else none
  | _ => none
section
variable {X : Cx} {EX : L2.St → XK} {e : Expr} {p p2 q2 pos : Pos} {T : List SD → M SD}
def tLenSetT (K : PySem.W.Frag) (ta : TE) : TE := fun σ H Q => ta σ H fun x H1 => ∃ l, ∃ xs : List Str, x = .ref l ∧ (SqL K H1 l (xs.map V.str) ∨ SqT K H1 l (xs.map V.str)) ∧ xs.length < 4000 ∧ Q (.int (dst [] xs : Nat)) H1
theorem pe_lenSetT {ta : TE} (hc : X.calm = true) (hg : Gl X "len") (hm : X.mg "len" = none) (hg2 : Gl X "set") (hm2 : X.mg "set" = none) (ha : PE X e ta)
    (na : starEach [e] X.env = (false, eval e X.env) :: starEach [] X.env := by rfl) : PE X (.Call (.Name "len" p) [.Call (.Name "set" p2) [e] [] q2] [] pos) (tLenSetT X.K ta) := by
  refine ⟨fun pins s σ H Q I h => Call_ (ld_blt I hg hm boot_len (callWith_builtin1 (args_cons (Call_ (ld_blt I hg2 hm2 boot_set ?_)) rfl) rfl rfl))⟩
  refine callWith_type1 (args_cons (thn (ha.run pins s σ H _ I h) fun v s1 ⟨x, H1, I1, r1, l, xs, e1, sq, small, q1⟩ => args_nil ?_) na) na rfl
  subst e1
  cases r1
  have fin : ∀ (h1 : Heap) (k : Nat), Has X.prog X.w h1 s1.heap.objs.size xs xs.length → (∀ b o, s1.heap.get? b = some o → h1.get? b = some o) →
      wpAny (model X.prog X.w) X.A (spliced (backTo pos (starEach [] X.env))) (fun vs s₂ => wpAny (model X.prog X.w) X.A (call (.builtin "len") (Value.ref s1.heap.objs.size :: vs)) (EP X pins σ Q) X.xe s₂) X.xe { s1 with heap := h1, toks := k } := fun h1 k hs kp => by
    refine args_nil ?_
    unfold Has at hs
    rw [List.take_length] at hs
    have le := dst_le xs []
    obtain ⟨o, es, ep, t, ho, hex, hd, _, _, _, hf, hn⟩ := hs
    exact call_len_set ho hex hd hf (by rw [hn]; omega) ⟨.int (dst [] xs : Nat), H1, (I1.kept kp).tok _, ⟨_, by rw [hn]⟩, q1⟩
  rcases sq with sq | sq
  · obtain ⟨its, r, pl, _⟩ := I1.list sq
    exact set_listT (I1.ok.hd hc) pl.isList (by simpa using strsAre_of r) small fin
  · obtain ⟨its, r, pl, _⟩ := I1.tuple sq
    exact set_tupleT (I1.ok.hd hc) pl (by simpa using strsAre_of r) small fin
theorem de_lenSetN (hc : X.calm = true) (hg : Gl X "len") (hm : X.mg "len" = none) (hg2 : Gl X "set") (hm2 : X.mg "set" = none) (ha : DE X EX e T) (na : starEach [e] X.env = (false, eval e X.env) :: starEach [] X.env := by rfl) :
    DE X EX (.Call (.Name "len" p) [.Call (.Name "set" p2) [e] [] q2] [] pos) (fun ρ => do let x ← T ρ; let n ← M.lift (lenSetN x); pure (dI n)) := by
  refine pe_imp (pe_lenSetT hc hg hm hg2 hm2 ha na) fun σ H Q ⟨W, ρ, ok, rel, h⟩ => ?_
  refine ⟨W, ρ, ok, rel, (T ρ).mono (fun x h1 v H1 k1 ok1 r1 => ?_) (fun e h => h) h⟩
  obtain ⟨z, hz, q⟩ := run_lift.mp h1
  unfold lenSetN at hz
  split at hz
  · obtain ⟨ss, e1, e2⟩ := Option.bind_eq_some_iff.mp hz
    split at e2
    · rename_i small
      cases e2
      cases r1 with
      | lst l t =>
        obtain rfl := strs_rp t e1
        exact ⟨_, ss, rfl, .inl l.sq, small, q _ H1 k1 ok1 (.int _)⟩
    · cases e2
  · obtain ⟨ss, e1, e2⟩ := Option.bind_eq_some_iff.mp hz
    split at e2
    · rename_i small
      cases e2
      cases r1 with
      | tup l t =>
        obtain rfl := strs_rp t e1
        exact ⟨_, ss, rfl, .inr l, small, q _ H1 k1 ok1 (.int _)⟩
    · cases e2
  · cases hz
end
end Dd
namespace Dd
open PySem PySem.Spec PyProof.Rows L2
section
variable {P : Program} {w : World} {κ : Type} [DecidableEq κ] {R : RK P w κ} {a : Addr} {L : List (Addr × κ)} {es : Array (Int × Value)} {ep : Nat} {t : SetTable}
theorem SP.kept {h h' : Heap} (S : SP R h a L es ep t) (ka : ∀ o, h.get? a = some o → h'.get? a = some o) (kk : ∀ p ∈ L, R.at_ h' p.2 p.1) : SP R h' a L es ep t := by
  obtain ⟨⟨o, e, r⟩, s2, s3, s4, _, s7, s8, s9⟩ := S
  exact ⟨⟨o, ka o e, r⟩, s2, s3, s4, kk, s7, s8, s9⟩
structure Mm (ks : List (Addr × κ)) (i : Nat) (L : List (Addr × κ)) : Prop where
  sub : ∀ p ∈ L, p ∈ ks
  iff : ∀ k, k ∈ L.map (fun p => p.2) ↔ k ∈ (ks.take i).map fun p => p.2
  len : L.length ≤ i
theorem Mm.zero (ks : List (Addr × κ)) : Mm ks 0 [] := ⟨fun p h => absurd h List.not_mem_nil, fun k => by simp, Nat.le_refl _⟩
theorem Mm.next {ks : List (Addr × κ)} {i : Nat} {L' : List (Addr × κ)} {p : Addr × κ} (m : Mm ks i L) (hp : ks[i]? = some p) (c1 : p.2 ∈ L.map (fun p => p.2) → L' = L) (c2 : p.2 ∉ L.map (fun p => p.2) → L'.Perm ((p.1, p.2) :: L)) : Mm ks (i + 1) L' := by
  have tk : ks.take (i + 1) = ks.take i ++ [p] := by rw [List.take_add_one, hp]; rfl
  by_cases c : p.2 ∈ L.map fun p => p.2
  · rw [c1 c]
    refine ⟨m.sub, fun k => ?_, Nat.le_succ_of_le m.len⟩
    rw [tk, List.map_append, List.mem_append, m.iff k]
    refine ⟨.inl, fun z => z.elim id fun z => ?_⟩
    rw [List.map_cons, List.map_nil, List.mem_singleton] at z
    rw [z, ← m.iff]
    exact c
  · have pm := c2 c
    refine ⟨fun q hq => ?_, fun k => ?_, by rw [pm.length_eq, List.length_cons]; exact Nat.succ_le_succ m.len⟩
    · rcases List.mem_cons.mp (pm.mem_iff.mp hq) with z | z
      · rw [z]; exact List.mem_of_getElem? hp
      · exact m.sub q z
    · rw [tk, List.map_append, List.mem_append, (pm.map fun p => p.2).mem_iff, List.map_cons, List.mem_cons, m.iff k, List.map_cons, List.map_nil, List.mem_singleton]
      exact Or.comm
end
section
variable {P : Program} {w : World} {κ : Type} [DecidableEq κ] {R : RK P w κ} {A : Around} {Z : Result → Shared → Prop} {it D : Addr} {fp wr : List Addr} {G : Array GenState → Array GenState → Prop} {Pv : Nat → Value → Prop} {St : Nat → Shared → Prop} {ks : List (Addr × κ)} {h0 : Heap}
abbrev Kps (h h' : Heap) : Prop := ∀ b o, h.get? b = some o → h'.get? b = some o
end
section
variable {P : Program} {w : World} {κ : Type} [DecidableEq κ] {R : RK P w κ} {A : Around} {E : Value → Shared → Prop} {s : Shared} {ks : List (Addr × κ)}
end
end Dd
namespace Dd
open PySem PySem.Spec PyProof.Rows L2
section
variable {P : Program} {w : World} {A : Around} {E : Value → Shared → Prop} {s : Shared}
theorem items_txt {k : List Str} {vs : List Value} (h : ItemsAre (strKind P w) k vs) : ∀ v ∈ vs, ∃ x t, v = Value.str x t := by
  induction h with
  | nil => exact fun v hv => absurd hv List.not_mem_nil
  | cons h1 _ ih =>
    intro v hv
    rcases List.mem_cons.mp hv with rfl | hv
    · obtain ⟨t, rfl⟩ := Value.isStrOf_shape h1
      exact ⟨_, t, rfl⟩
    · exact ih v hv
theorem cls_txt (n : Nat) (x : Str) (t : Tok) : ofAClassStatement n (.str x t) = pure false := by cases n <;> rfl
theorem val_txt (n : Nat) (x : Str) (t : Tok) : hashByValue n (.str x t) = pure false := by cases n <;> rfl
theorem cls_tup {k : List Str} {b : Addr} {Q : Bool → Shared → Prop} (hk : IsTupleKey (strKind P w) s.heap k b) (q : Q false s) : wpAny (model P w) A (ofAClassStatement 8 (.ref b)) Q E s := by
  have ty := hk.typeIs
  obtain ⟨o, its, n, get, _, dat, hi⟩ := hk
  unfold ofAClassStatement
  refine wpAny_bind (wpAny_typeOf ty ?_)
  simp only [show (("tuple" : String) == "tuple") = true by decide, if_true, Bool.not_true, Bool.false_eq_true, if_false]
  try apply wpAny_bind; apply wpAny_pure
  try simp only [Bool.not_true, Bool.false_eq_true, if_false]
  refine wpAny_bind (wpAny_seqItems get dat (wpAny_bind ?_))
  change wpAny _ _ (forIn its _ _) _ _ s
  rw [← Array.forIn_toList]
  refine wpAny_forIn_list _ (fun rest r u => r.1 = none ∧ u = s ∧ ∀ v ∈ rest, ∃ x t, v = Value.str x t) _ (fun v rest r u hr => ?_) (fun r u hr => ?_) _ _ ⟨rfl, rfl, items_txt hi⟩
  · obtain ⟨_, rfl, all⟩ := hr
    obtain ⟨x, t, rfl⟩ := all v List.mem_cons_self
    rw [cls_txt]
    refine wpAny_bind (wpAny_pure ?_)
    simp only [Bool.false_eq_true, if_false]
    exact wpAny_pure ⟨rfl, rfl, fun y hy => all y (List.mem_cons_of_mem _ hy)⟩
  · obtain ⟨r1, r2⟩ := r
    obtain ⟨h1, rfl, _⟩ := hr
    simp only at h1
    subst h1
    exact wpAny_pure q
theorem val_tup {k : List Str} {b : Addr} {Q : Bool → Shared → Prop} (hk : IsTupleKey (strKind P w) s.heap k b) (q : ∀ c, Q c s) : wpAny (model P w) A (hashByValue 8 (.ref b)) Q E s := by
  have ty := hk.typeIs
  obtain ⟨o, its, n, get, _, dat, hi⟩ := hk
  unfold hashByValue
  refine wpAny_bind (wpAny_specialOf ty F.slot_tuple_hash.lookup ?_)
  change wpAny _ _ (seqItems? (.ref b) >>= _) _ _ s
  refine wpAny_bind (wpAny_seqItems get dat (wpAny_bind ?_))
  change wpAny _ _ (forIn its _ _) _ _ s
  rw [← Array.forIn_toList]
  refine wpAny_forIn_list _ (fun rest r u => u = s ∧ ∀ v ∈ rest, ∃ x t, v = Value.str x t) _ (fun v rest r u hr => ?_) (fun r u hr => ?_) _ _ ⟨rfl, items_txt hi⟩
  · obtain ⟨rfl, all⟩ := hr
    obtain ⟨x, t, rfl⟩ := all v List.mem_cons_self
    rw [val_txt]
    refine wpAny_bind (wpAny_pure ?_)
    simp only [Bool.not_false, if_true]
    exact wpAny_pure (wpAny_pure (q false))
  · obtain ⟨r1, r2⟩ := r
    obtain ⟨rfl, _⟩ := hr
    cases r1 with
    | none => exact wpAny_pure (q true)
    | some c => exact wpAny_pure (q c)
theorem seen_txt {k : List Str} {b : Addr} {Q : Bool → Shared → Prop} (hk : IsTupleKey (strKind P w) s.heap k b) {ys : List Value} (hy : ∀ y ∈ ys, ∃ j c, y = Value.ref c ∧ IsTupleKey (strKind P w) s.heap j c) (q : Q false s) : wpAny (model P w) A (searchCouldBeSeen (.ref b) ys) Q E s := by
  unfold searchCouldBeSeen
  refine wpAny_bind (wpAny_forIn_list _ (fun rest r u => r.1 = none ∧ u = s ∧ ∀ y ∈ rest, ∃ j c, y = Value.ref c ∧ IsTupleKey (strKind P w) s.heap j c) _ (fun v rest r u hr => ?_) (fun r u hr => ?_) _ _ ⟨rfl, rfl, hy⟩)
  · obtain ⟨_, rfl, all⟩ := hr
    obtain ⟨j, c, rfl, hc⟩ := all v List.mem_cons_self
    have more : ∀ y ∈ rest, ∃ j c, y = Value.ref c ∧ IsTupleKey (strKind P w) u.heap j c := fun y hy => all y (List.mem_cons_of_mem _ hy)
    dsimp only
    by_cases z : (b == c || (carriedByValue (.ref b) && carriedByValue (.ref c))) = true
    · exact wp_if_pos z (wpAny_pure ⟨rfl, rfl, more⟩)
    · refine wp_if_neg z (wpAny_bind (wpAny_eqIsQuiet_tuple hk ?_))
      simp only [Bool.not_true, Bool.false_eq_true, if_false]
      refine wpAny_bind (wpAny_eqIsQuiet_tuple hc ?_)
      simp only [Bool.not_true, Bool.false_eq_true, if_false]
      refine wpAny_bind (cls_tup hk ?_)
      simp only [Bool.false_eq_true, if_false]
      refine wpAny_bind (cls_tup hc ?_)
      simp only [Bool.false_eq_true, if_false]
      exact wpAny_pure ⟨rfl, rfl, more⟩
  · obtain ⟨r1, r2⟩ := r
    obtain ⟨h1, rfl, _⟩ := hr
    simp only at h1
    subst h1
    exact wpAny_pure q
end
def rkT (P : Program) (w : World) : RK P w (List Str) where
  at_ := IsTupleKey (strKind P w)
  hsh := tupleKeyHash (strKind P w)
  keep := fun {h h' k a} ⟨o, its, n, e, r⟩ kp => ⟨o, its, n, kp o e, r⟩
  noSet := fun {h k a o es ep t} ⟨o', its, n, e, _, d, _⟩ g z => by
    rw [g] at e
    cases e
    rw [z] at d
    cases d
  eqv := fun hu hx hy q => wpAny_eqBool_tuple hu hx hy q
  seen := fun hk hy q => seen_txt hk hy q
  byVal := fun hk q => val_tup hk q
  pyh := fun hu hk q => wpAny_pyHash_tuple hu hk (q _)
section
variable {P : Program} {w : World} {κ : Type} [DecidableEq κ] {R : RK P w κ} {A : Around} {E : Value → Shared → Prop} {s : Shared} {a : Addr} {L : List (Addr × κ)} {es : Array (Int × Value)} {ep : Nat} {t : SetTable}
end
end Dd
namespace Dd
open PySem PySem.Spec PyProof.Rows L2
abbrev encT (k : List Str) : PyData := .tuple (k.map .str)
section
variable {X : Cx} {EX : L2.St → XK} {e : Expr} {p p2 q2 pos : Pos} {T : List SD → M SD}
def tSortSet (K : PySem.W.Frag) (ta : TE) : TE := fun σ H Q => ta σ H fun x H1 => ∃ (l : Addr) (ks : List (Addr × List Str)), x = .ref l ∧ SqL K H1 l (ks.map fun p => V.ref p.1) ∧ (∀ p ∈ ks, SqT K H1 p.1 (p.2.map V.str)) ∧ (∀ p ∈ ks, p.2.length = 2) ∧ ks.length < 64 ∧
  ∀ (M : List (Addr × List Str)) p, (∀ q ∈ M, q ∈ ks) → (M.map fun q => q.2).Nodup → (∀ k, k ∈ (M.map fun q => q.2) ↔ k ∈ ks.map fun q => q.2) → M.Pairwise (fun x y => PySem.W.dataLt (encT y.2) (encT x.2) = false) → H1 p = none → Q (.ref p) (upd H1 p (.lst (M.map fun q => V.ref q.1)))
def pairD2 : PyData → Option (List Str)
  | .tuple [.str x, .str y] => some [x, y]
  | _ => none
def keysD : List PyData → Option (List (List Str))
  | [] => some []
  | d :: r => (pairD2 d).bind fun k => (keysD r).map (k :: ·)
def bSortSet (x : SD) : M SD := ⟨fun P _ => ∃ ds ss, x = .d (.list ds) ∧ keysD ds = some ss ∧ ss.length < 64 ∧ ∀ out : List (List Str), out.Nodup → (∀ k, k ∈ out ↔ k ∈ ss) → out.Pairwise (fun a b => PySem.W.dataLt (encT b) (encT a) = false) → P (.d (.list (out.map encT))),
  fun h _ ⟨ds, ss, e1, e2, e3, q⟩ => ⟨ds, ss, e1, e2, e3, fun out a b c => h _ (q out a b c)⟩⟩
end
end Dd
namespace Dd
open PySem PySem.Spec PyProof.Rows L2
section
variable {P : Program} {w : World} {A : Around} {E : Value → Shared → Prop} {s : Shared}
def wAt (x y : Str) (i : Nat) : Str := if i = 0 then x else y
theorem two_at {x y : Str} {t u : Tok} {i : Nat} {v : Value} (h : (#[Value.str x t, .str y u] : Array Value)[i]? = some v) : ∃ k, v = .str (wAt x y i) k := by
  match i, h with
  | 0, h => exact ⟨t, (Option.some.inj h).symm⟩
  | 1, h => exact ⟨u, (Option.some.inj h).symm⟩
theorem pick_two {x y : Str} {t u : Tok} {Q : Value → Shared → Prop} (mx : Bool) (quiet : A.handled = none)
    (q : ∀ h' tk k, (∀ c o, s.heap.get? c = some o → h'.get? c = some o) → Q (.str (if mx then (if x.cps.toList < y.cps.toList then y else x) else (if y.cps.toList < x.cps.toList then y else x)) k) { s with heap := h', toks := tk }) :
    wpAny (model P w) A (call (.builtin (if mx then "max" else "min")) [.str x t, .str y u]) Q E s := by
  have tup : (s.heap.push { cls := .type "tuple", data := .seq #[.str x t, .str y u] }).IsTuple s.heap.objs.size #[.str x t, .str y u] := ⟨_, Heap.get?_push_size _ rfl, rfl, 0, rfl⟩
  have sz : (s.heap.push { cls := .type "tuple", data := .seq #[.str x t, .str y u] }).objs.size = s.heap.objs.size + 1 := Heap.size_push ..
  have below : ∀ c ∈ [(s.heap.push { cls := .type "tuple", data := .seq #[.str x t, .str y u] }).objs.size, s.heap.objs.size], ∀ o : Obj, c < ((s.heap.push { cls := .type "tuple", data := .seq #[.str x t, .str y u] }).push o).objs.size := fun c hc o => by
    rw [Heap.size_push, sz]
    simp only [List.mem_cons, List.not_mem_nil, or_false, sz] at hc
    rcases hc with rfl | rfl
    · exact Nat.lt_succ_self _
    · exact Nat.lt_succ_of_lt (Nat.lt_succ_self _)
  have old : ∀ {h' : Heap} {it : Obj}, (∀ b o, b ∉ [(s.heap.push { cls := .type "tuple", data := .seq #[.str x t, .str y u] }).objs.size] → ((s.heap.push { cls := .type "tuple", data := .seq #[.str x t, .str y u] }).push it).get? b = some o → h'.get? b = some o) → ∀ c o, s.heap.get? c = some o → h'.get? c = some o := fun hk c o e => by
    refine hk c o (fun z => ?_) (Heap.get?_push_of_some _ (Heap.get?_push_of_some _ e))
    have l1 := Heap.lt_size e
    rw [List.mem_singleton.mp z, sz] at l1
    exact Nat.lt_irrefl _ (Nat.lt_of_succ_lt l1)
  cases mx with
  | true =>
    refine call_max_two (wpAny_pyIter_tuple tup ⟨_, _, _, _, _, _, fun i j => decide ((wAt x y j).cps.toList < (wAt x y i).cps.toList), rfl, Walks.tuple (A := A.in1) quiet _ s.heap.objs.size (by rw [sz]; exact Nat.ne_of_lt (Nat.lt_succ_self _)) #[.str x t, .str y u], ⟨⟨_, Heap.get?_push_size _ rfl, rfl, rfl⟩, tup.push _⟩, fun c hc => below c hc _, Nat.succ_pos _, fun i j vi vj s2 Q2 E2 hi hj hq => ?_, fun v h' tk hP hk => ?_⟩)
    · obtain ⟨k1, rfl⟩ := two_at hi
      obtain ⟨k2, rfl⟩ := two_at hj
      exact richCompare_gives (op := .Gt) (typeIs_str s2 _ k1) (typeIs_str s2 _ k2) PySem.F.slot_str_gt PySem.F.entry_str_gt (PySem.F.args_str_gt_2 _ _) (gives_str_gt _ _ k1 k2) (fun z => nomatch z) hq
    · have hP : (#[Value.str x t, .str y u] : Array Value)[if decide (x.cps.toList < y.cps.toList) = true then 1 else 0]? = some v := hP
      by_cases z : x.cps.toList < y.cps.toList
      · rw [decide_eq_true z] at hP
        cases (show some (Value.str y u) = some v from hP)
        have := q h' tk u (old hk)
        rwa [if_pos rfl, if_pos z] at this
      · rw [decide_eq_false z] at hP
        cases (show some (Value.str x t) = some v from hP)
        have := q h' tk t (old hk)
        rwa [if_pos rfl, if_neg z] at this
  | false =>
    refine call_min_two (wpAny_pyIter_tuple tup ⟨_, _, _, _, _, _, fun i j => decide ((wAt x y i).cps.toList < (wAt x y j).cps.toList), rfl, Walks.tuple (A := A.in1) quiet _ s.heap.objs.size (by rw [sz]; exact Nat.ne_of_lt (Nat.lt_succ_self _)) #[.str x t, .str y u], ⟨⟨_, Heap.get?_push_size _ rfl, rfl, rfl⟩, tup.push _⟩, fun c hc => below c hc _, Nat.succ_pos _, fun i j vi vj s2 Q2 E2 hi hj hq => ?_, fun v h' tk hP hk => ?_⟩)
    · obtain ⟨k1, rfl⟩ := two_at hi
      obtain ⟨k2, rfl⟩ := two_at hj
      exact richCompare_gives (op := .Lt) (typeIs_str s2 _ k1) (typeIs_str s2 _ k2) PySem.F.slot_str_lt PySem.F.entry_str_lt (PySem.F.args_str_lt_2 _ _) (gives_str_lt _ _ k1 k2) (fun z => nomatch z) hq
    · have hP : (#[Value.str x t, .str y u] : Array Value)[if decide (y.cps.toList < x.cps.toList) = true then 1 else 0]? = some v := hP
      by_cases z : y.cps.toList < x.cps.toList
      · rw [decide_eq_true z] at hP
        cases (show some (Value.str y u) = some v from hP)
        have := q h' tk u (old hk)
        rwa [if_neg (by decide), if_pos z] at this
      · rw [decide_eq_false z] at hP
        cases (show some (Value.str x t) = some v from hP)
        have := q h' tk t (old hk)
        rwa [if_neg (by decide), if_neg z] at this
end
section
variable {X : Cx}
def bPick2 (mx : Bool) : List SD → M SD
  | [.d (.str x), .d (.str y)] => pure (.d (.str (if mx then (if x.cps.toList < y.cps.toList then y else x) else (if y.cps.toList < x.cps.toList then y else x))))
  | xs => bPick mx xs
theorem br_pick2 (mx : Bool) {k : Nat} (room : Room k X.A) (hc : X.calm = true) : BR X (.builtin (if mx then "max" else "min")) (bPick2 mx) := by
  obtain ⟨r1, c1, h1⟩ := br_pick (X := X) mx room hc
  have two : CallR X (.builtin (if mx then "max" else "min")) (fun xs H Q => ∃ x y : Str, xs = [.str x, .str y] ∧ Q (.str (if mx then (if x.cps.toList < y.cps.toList then y else x) else (if y.cps.toList < x.cps.toList then y else x))) H) := by
    intro pins s σ H xs us Q I r h
    obtain ⟨x, y, rfl, q⟩ := h
    obtain ⟨u, w', rfl, ⟨t, rfl⟩, ⟨t', rfl⟩⟩ := vals2 r
    exact pick_two mx (I.ok.hd hc) fun h' tk k kp => ⟨.str _, H, I.kept kp, ⟨k, rfl⟩, q⟩
  refine ⟨fun xs H Q => r1 xs H Q ∨ _, fun pins s σ H xs us Q J rv h => h.elim (c1 pins s σ H xs us Q J rv) (two pins s σ H xs us Q J rv), fun {W H vs xs Q E} ok r h => ?_⟩
  unfold bPick2 at h
  split at h
  · obtain ⟨v, w, rfl, q1, q2⟩ := pair2 r
    cases q1; cases q2
    exact .inr ⟨_, _, rfl, Post.here (K := X.K) ok h (.str _)⟩
  · exact .inl (h1 ok r h)
@[simp] theorem bPick2_l (mx : Bool) (ds : List PyData) : bPick2 mx [.d (.list ds)] = bPick mx [.d (.list ds)] := rfl
end
end Dd
namespace Dd
open PySem PySem.Spec PyProof.Rows L2
section
variable {K : PySem.W.Frag} {S : List Addr} {H : Hp} {p : Addr} {kvs : List (Key × V)} {od : Obj}
mutual
theorem Rp.lock (hp : H p = some (.dK kvs)) : ∀ {v : V} {d : PyData}, Rp K S H v d → Rp K S (upd H p (.frz od (.dK kvs))) v d
  | _, _, .non => .non
  | _, _, .bl b => .bl b
  | _, _, .int i => .int i
  | _, _, .str x => .str x
  | _, _, .lst (a := a) l t => .lst ⟨by
      have ne : a ≠ p := fun z => by
        have := l.1
        rw [z, hp] at this
        cases this
      rw [upd_ne ne]
      exact l.1, l.2⟩ (RpAll.lock hp t)
  | _, _, .tup (a := a) l t => .tup (by
      rcases l with (h | ⟨o, h⟩) | h
      · have ne : a ≠ p := fun z => by rw [z, hp] at h; cases h
        exact .inl (.inl (by rw [upd_ne ne]; exact h))
      · have ne : a ≠ p := fun z => by rw [z, hp] at h; cases h
        exact .inl (.inr ⟨o, by rw [upd_ne ne]; exact h⟩)
      · exact .inr h) (RpAll.lock hp t)
  | _, _, .dct (a := a) l n t => .dct (by
      by_cases z : a = p
      · subst z
        rcases l with h | ⟨o, h⟩
        · rw [hp] at h
          cases h
          exact .inr ⟨od, upd_same⟩
        · rw [hp] at h
          cases h
      · rcases l with h | ⟨o, h⟩
        · exact .inl (by rw [upd_ne z]; exact h)
        · exact .inr ⟨o, by rw [upd_ne z]; exact h⟩) n (RpKV.lock hp t)
theorem RpAll.lock (hp : H p = some (.dK kvs)) : ∀ {v : List V} {d : List PyData}, RpAll K S H v d → RpAll K S (upd H p (.frz od (.dK kvs))) v d
  | _, _, .nil => .nil
  | _, _, .cons h t => .cons (Rp.lock hp h) (RpAll.lock hp t)
theorem RpKV.lock (hp : H p = some (.dK kvs)) : ∀ {v : List (Key × V)} {d : List (PyData × PyData)}, RpKV K S H v d → RpKV K S (upd H p (.frz od (.dK kvs))) v d
  | _, _, .nil => .nil
  | _, _, .cons h t => .cons (Rp.lock hp h) (RpKV.lock hp t)
end
mutual
theorem Rp.open_ (hp : H p = some (.frz od (.dK kvs))) : ∀ {v : V} {d : PyData}, Rp K S H v d → Rp K S (upd H p (.dK kvs)) v d
  | _, _, .non => .non
  | _, _, .bl b => .bl b
  | _, _, .int i => .int i
  | _, _, .str x => .str x
  | _, _, .lst (a := a) l t => .lst ⟨by
      have ne : a ≠ p := fun z => by
        have := l.1
        rw [z, hp] at this
        cases this
      rw [upd_ne ne]
      exact l.1, l.2⟩ (RpAll.open_ hp t)
  | _, _, .tup (a := a) l t => .tup (by
      rcases l with (h | ⟨o, h⟩) | h
      · have ne : a ≠ p := fun z => by rw [z, hp] at h; cases h
        exact .inl (.inl (by rw [upd_ne ne]; exact h))
      · have ne : a ≠ p := fun z => by rw [z, hp] at h; cases h
        exact .inl (.inr ⟨o, by rw [upd_ne ne]; exact h⟩)
      · exact .inr h) (RpAll.open_ hp t)
  | _, _, .dct (a := a) l n t => .dct (by
      by_cases z : a = p
      · subst z
        rcases l with h | ⟨o, h⟩
        · rw [hp] at h
          cases h
        · rw [hp] at h
          cases h
          exact .inl upd_same
      · rcases l with h | ⟨o, h⟩
        · exact .inl (by rw [upd_ne z]; exact h)
        · exact .inr ⟨o, by rw [upd_ne z]; exact h⟩) n (RpKV.open_ hp t)
theorem RpAll.open_ (hp : H p = some (.frz od (.dK kvs))) : ∀ {v : List V} {d : List PyData}, RpAll K S H v d → RpAll K S (upd H p (.dK kvs)) v d
  | _, _, .nil => .nil
  | _, _, .cons h t => .cons (Rp.open_ hp h) (RpAll.open_ hp t)
theorem RpKV.open_ (hp : H p = some (.frz od (.dK kvs))) : ∀ {v : List (Key × V)} {d : List (PyData × PyData)}, RpKV K S H v d → RpKV K S (upd H p (.dK kvs)) v d
  | _, _, .nil => .nil
  | _, _, .cons h t => .cons (Rp.open_ hp h) (RpKV.open_ hp t)
end
end
section
variable {K : PySem.W.Frag} {W : Wd} {H : Hp} {p : Addr} {kvs : List (Key × V)} {od : Obj}
theorem RpAll.map {K : PySem.W.Frag} {S S' : List Addr} {H H' : Hp} (k : ∀ v d, Rp K S H v d → Rp K S' H' v d) : ∀ {vs : List V} {ds : List PyData}, RpAll K S H vs ds → RpAll K S' H' vs ds
  | _, _, .nil => .nil
  | _, _, .cons a t => .cons (k _ _ a) (RpAll.map k t)
theorem CloAt.put {S : List Addr} {u o : HO} (hp : H p = some u) (n6 : ¬ Stay u) (kr : ∀ v d, Rp K S H v d → Rp K S (upd H p o) v d) {v : V} {L : Lm} (h : CloAt K S H v L) : CloAt K S (upd H p o) v L :=
  h.mono (fun a w e q => by
    have ne : a ≠ p := fun z => by
      rw [z, hp] at q
      cases q
      exact n6 e
    exact (upd_ne ne).trans q) fun _ _ q => RpAll.map kr q
theorem RX.put {S : List Addr} {u o : HO} (hp : H p = some u) (n1 : ∀ xs, u ≠ .lst xs) (n2 : ∀ xs, u ≠ .tup xs) (n3 : ∀ w xs, u ≠ .frz w (.tup xs)) (n4 : ∀ C dx vs, u ≠ .ins C dx vs) (n5 : ∀ vs, u ≠ .xd vs) (n6 : ¬ Stay u) (kr : ∀ v d, Rp K S H v d → Rp K S (upd H p o) v d) {v : V} : ∀ {e : SX}, RX K S H v e → RX K S (upd H p o) v e := by
  have ne : ∀ {a : Addr} {w : HO}, H a = some w → u ≠ w → upd H p o a = some w := fun {a w} e z => by
    have : a ≠ p := fun q => by rw [q, hp] at e; exact z (Option.some.inj e)
    rw [upd_ne this]; exact e
  have kf : ∀ {vs : List (Str × V)} {fs : List (Str × PyData)}, PFs K S H vs fs → PFs K S (upd H p o) vs fs := fun h => paired_mono (fun _ _ z => ⟨z.1, kr _ _ z.2⟩) h
  have ob : ∀ {c : Str} {a : Addr} {fs : List (Str × PyData)}, ObAt K S H c a fs → ObAt K S (upd H p o) c a fs := fun ⟨C, dx, vs, h1, h2, h3, h4, h5⟩ => ⟨C, dx, vs, h1, ne h2 (n4 _ _ _), h3, kf h4, h5⟩
  intro e h
  cases e with
  | ob c fs => obtain ⟨a, h1, h2⟩ := h; exact ⟨a, h1, ob h2⟩
  | obp c fs d =>
    obtain ⟨q, a, w, h1, h2, h3, h4⟩ := h
    refine ⟨q, a, w, h1, ?_, ob h3, kr _ _ h4⟩
    rcases h2 with (h | ⟨o', h⟩) | h
    · exact .inl (.inl (ne h (n2 _)))
    · exact .inl (.inr ⟨o', ne h (n3 _ _)⟩)
    · exact .inr h
  | hdl a => exact h
  | hpr a d =>
    obtain ⟨q, w, h1, h2, h4⟩ := h
    refine ⟨q, w, h1, ?_, kr _ _ h4⟩
    rcases h2 with (h | ⟨o', h⟩) | h
    · exact .inl (.inl (ne h (n2 _)))
    · exact .inl (.inr ⟨o', ne h (n3 _ _)⟩)
    · exact .inr h
  | hls l => obtain ⟨q, h1, h2, h3⟩ := h; exact ⟨q, h1, ne h2 (n1 _), h3⟩
  | lam L => exact CloAt.put hp n6 kr h
  | lams l => obtain ⟨q, vs, h1, ⟨h2, h3⟩, h4⟩ := h; exact ⟨q, vs, h1, ⟨ne h2 (n1 _), h3⟩, paired_mono (fun _ _ z => CloAt.put hp n6 kr z) h4⟩
  | ex a dx fs => obtain ⟨h1, vs, h2, h3, h4⟩ := h; exact ⟨h1, vs, ne h2 (n5 _), h3, kf h4⟩
  | sto a cap now => obtain ⟨h1, C, dx, vc, n, p', q', h2, h3, h4, h5, h6⟩ := h; exact ⟨h1, C, dx, vc, n, p', q', h2, ne h3 (n4 _ _ _), h4, kr _ _ h5, ob h6⟩
theorem RV.lock (hp : H p = some (.dK kvs)) (no : p ∉ W.S) {v : V} : ∀ {x : SD}, RV K W H v x → RV K W (upd H p (.frz od (.dK kvs))) v x
  | .no, _ => trivial
  | .d x, h => Rp.lock hp h
  | .src, h => h
  | .ty n, h => h
  | .x e, h => RX.put hp (fun _ z => nomatch z) (fun _ z => nomatch z) (fun _ _ z => nomatch z) (fun _ _ _ z => nomatch z) (fun _ z => nomatch z) (fun z => z) (fun _ _ r => Rp.lock hp r) h
  | .own ds, ⟨q, xs, e, m, n, hq, t⟩ => ⟨q, xs, e, m, n, (upd_ne (show q ≠ p from fun z => no (z ▸ m))).trans hq, RpAll.lock hp t⟩
  | .ownL ds, ⟨q, xs, e, m, n, hq, t⟩ => ⟨q, xs, e, m, n, (upd_ne (show q ≠ p from fun z => no (z ▸ m))).trans hq, paired_mono (fun _ _ z => CloAt.put hp (fun z => z) (fun _ _ r => Rp.lock hp r) z) t⟩
  | .ownD ds, ⟨q, xs, e, m, n, hq, t⟩ => ⟨q, xs, e, m, n, (upd_ne (show q ≠ p from fun z => no (z ▸ m))).trans hq, paired_mono (fun _ _ z => ⟨z.1, Rp.lock hp z.2⟩) t⟩
  | .mutD _ ds, ⟨q, xs, e, m, n, hq, t, eq⟩ => ⟨q, xs, e, m, n, (upd_ne (show q ≠ p from fun z => no (z ▸ m))).trans hq, paired_mono (fun _ _ z => ⟨z.1, Rp.lock hp z.2⟩) t, eq⟩
theorem Rel.lock {σ : L2.St} {ρ : List SD} (hp : H p = some (.dK kvs)) (no : p ∉ W.S) (r : Rel K W H σ ρ) : Rel K W (upd H p (.frz od (.dK kvs))) σ ρ :=
  ⟨r.len, fun i x e n => let ⟨v, h1, h2⟩ := r.get i x e n; ⟨v, h1, RV.lock hp no h2⟩, r.sep, r.tab⟩
end
def keysIt : SD → Option (List SD)
  | .d (.dict ds) => some (ds.map fun p => .d p.1)
  | _ => none
section
variable {X : Cx} {EX : L2.St → XK} {elt tg iter : Expr} {ifs : List Expr} {scope : Scope} {own : List (Str × Nat)} {pos : Pos} {t : Tg} {B : List SD → M Bool} {T : List SD → M SD}
end
end Dd
namespace Dd
open PySem PySem.Spec PyProof.Rows L2
def hideH (D : Addr → Bool) (H : Hp) : Hp := fun b => if D b = true then none else H b
def backH (D : Addr → Bool) (H H' : Hp) : Hp := fun b => if D b = true then H b else H' b
section
variable {X : Cx} {pins pins2 : List (Addr × Obj)} {σ σ' : L2.St} {H H' : Hp} {s s' : Shared} {D : Addr → Bool}
def tHide (t : TE) : TE := fun σ H Q => ∃ D : Addr → Bool, (∀ b, D b = true → ∃ xs, H b = some (.lst xs)) ∧ t σ (hideH D H) fun v H' => (∀ b, D b = true → H' b = none) → Q v (backH D H H')
end
end Dd
namespace Dd
open PySem PySem.Spec PyProof.Rows L2
mutual
def noL : PyData → Bool
  | .tuple ds => noLA ds
  | .none => true
  | .bool _ => true
  | .int _ => true
  | .str _ => true
  | _ => false
def noLA : List PyData → Bool
  | [] => true
  | d :: r => noL d && noLA r
end
section
variable {K : PySem.W.Frag} {S : List Addr} {H H2 : Hp}
mutual
theorem Rp.noL (k : ∀ b o, H b = some o → (∀ xs, o ≠ .lst xs) → H2 b = some o) : ∀ {v : V} {d : PyData}, Dd.noL d = true → Rp K S H v d → Rp K [] H2 v d
  | _, _, _, .non => .non
  | _, _, _, .bl b => .bl b
  | _, _, _, .int i => .int i
  | _, _, _, .str x => .str x
  | _, _, c, .lst l t => by
    unfold Dd.noL at c
    cases c
  | _, _, c, .tup l t => .tup (by
      rcases l with (h | ⟨o, h⟩) | h
      · exact .inl (.inl (k _ _ h fun _ z => nomatch z))
      · exact .inl (.inr ⟨o, k _ _ h fun _ z => nomatch z⟩)
      · exact .inr h) (RpAll.noL k (by unfold Dd.noL at c; exact c) t)
  | _, _, c, .dct l n t => by
    unfold Dd.noL at c
    cases c
theorem RpAll.noL (k : ∀ b o, H b = some o → (∀ xs, o ≠ .lst xs) → H2 b = some o) : ∀ {v : List V} {d : List PyData}, Dd.noLA d = true → RpAll K S H v d → RpAll K [] H2 v d
  | _, _, _, .nil => .nil
  | _, _, c, .cons h t => by
    unfold Dd.noLA at c
    obtain ⟨c1, c2⟩ := Bool.and_eq_true_iff.mp c
    exact .cons (Rp.noL k c1 h) (RpAll.noL k c2 t)
end
end
def argS : SD → Bool
  | .d (.list (.tuple ds :: r)) => noLA ds && noLA r
  | .d d => noL d
  | _ => false
def isLs : SD → Bool
  | .d (.list _) => true
  | _ => false
def maskS (is : List Nat) : Nat → List SD → List SD
  | _, [] => []
  | k, x :: r => (if is.contains k = true then x else .no) :: maskS is (k + 1) r
def keepS (is : List Nat) (ρ : List SD) : Option (List SD) := if (is.all fun i => match ρ[i]? with | some x => argS x | none => false) = true then some (maskS is 0 ρ) else none
def isTx : PyData → Bool
  | .str _ => true
  | _ => false
def textsL : SD → Option (List PyData)
  | .d (.list ds) => if ds.all isTx = true then some ds else none
  | _ => none
section
variable {K : PySem.W.Frag} {W0 W : Wd} {H0 H H' H2 : Hp} {σ : L2.St} {ρ : List SD} {p : Addr} {i : Nat}
theorem add_stpF (ok : W.Ok H) (k : Kp W H H2) (hp : Fr0 H p) : Stp W.S (W.add p).S H H2 := by
  refine ⟨(k.stp ok).keep, fun b h => ?_⟩
  rcases List.mem_cons.mp h with rfl | h
  · exact .inr hp
  · exact .inl h
theorem RV.addF (ok : W.Ok H) (k : Kp W H H2) (hp : Fr0 H p) {v : V} : ∀ {x : SD}, RV K W H v x → RV K (W.add p) H2 v x
  | .no, _ => trivial
  | .d _, h => Rp.step (add_stpF ok k hp) h
  | .src, h => h
  | .ty _, h => h
  | .x _, h => RX.step (add_stpF ok k hp) h
  | .own _, ⟨q, xs, e, m, ns, hq, r⟩ => ⟨q, xs, e, List.mem_cons_of_mem _ m, ns, k _ _ hq ns nt_lst, RpAll.step (add_stpF ok k hp) r⟩
  | .ownL _, ⟨q, xs, e, m, ns, hq, r⟩ => ⟨q, xs, e, List.mem_cons_of_mem _ m, ns, k _ _ hq ns nt_lst, paired_mono (fun _ _ z => CloAt.step (add_stpF ok k hp) z) r⟩
  | .ownD _, ⟨q, xs, e, m, ns, hq, r⟩ => ⟨q, xs, e, List.mem_cons_of_mem _ m, ns, k _ _ hq ns nt_dK, paired_mono (fun _ _ z => ⟨z.1, Rp.step (add_stpF ok k hp) z.2⟩) r⟩
  | .mutD _ _, ⟨q, xs, e, m, ns, hq, r, eq⟩ => ⟨q, xs, e, List.mem_cons_of_mem _ m, ns, k _ _ hq ns nt_dK, paired_mono (fun _ _ z => ⟨z.1, Rp.step (add_stpF ok k hp) z.2⟩) r, eq⟩
theorem SSt.newF (s : SSt K W0 H0 W H σ ρ) (k : Kp W H H2) (hp : Fr0 H p) (ok2 : (W.add p).Ok H2) {x : SD} (ox : isOwn x = true) (r : RV K (W.add p) H2 (.ref p) x) : SSt K W0 H0 (W.add p) H2 (σ.set i (some (.ref p))) (ρ.set i x) := by
  have p0 : Fr0 H0 p := s.frm.free s.ok0 hp (s.ok0' s.ok)
  have apart : ∀ (j : Nat) (y : SD), ρ[j]? = some y → isOwn y = true → σ[j]? ≠ some (some (.ref p)) := fun j y e o z => by
    obtain ⟨v, h1, h2⟩ := s.rel.get j y e (own_ne o)
    obtain ⟨q, u, e1, e2, _, _, nt, _⟩ := own_there h2 o
    rw [h1] at z
    cases z
    cases e1
    exact hp _ e2 nt
  refine ⟨ok2, ⟨by rw [List.length_set, List.length_set, s.rel.len], fun j y e n => ?_, fun j l y z q ne e1 e2 o1 o2 q1 => ?_, s.rel.tab⟩, s.src, fun b h => List.mem_cons_of_mem _ (s.sub b h), s.frm.trans (Kp.to s k), fun b h => ?_, fun j y q e o e1 => ?_, s.ok0, s.tab⟩
  · by_cases z : i = j
    · subst z
      have lt := lt_set e
      rw [List.getElem?_set_self lt] at e
      cases e
      exact ⟨.ref p, List.getElem?_set_self (by rw [s.rel.len]; exact lt), r⟩
    · rw [List.getElem?_set_ne z] at e ⊢
      obtain ⟨v, h1, h2⟩ := s.rel.get j y e n
      exact ⟨v, h1, RV.addF s.ok k hp h2⟩
  · by_cases z1 : i = j
    · subst z1
      rw [List.getElem?_set_ne ne] at e2 ⊢
      have lt : i < σ.length := by rw [s.rel.len]; exact lt_set e1
      rw [List.getElem?_set_self lt] at q1
      cases q1
      exact apart l z e2 o2
    · rw [List.getElem?_set_ne z1] at e1 q1
      by_cases z2 : i = l
      · subst z2
        have lt : i < σ.length := by rw [s.rel.len]; exact lt_set e2
        rw [List.getElem?_set_self lt]
        intro z
        cases z
        exact apart j y e1 o1 q1
      · rw [List.getElem?_set_ne z2] at e2 ⊢
        exact s.rel.sep j l y z q ne e1 e2 o1 o2 q1
  · rcases List.mem_cons.mp h with rfl | h
    · exact .inr p0
    · exact s.mine b h
  · by_cases z : i = j
    · subst z
      have lt : i < σ.length := by rw [s.rel.len]; exact lt_set e
      rw [List.getElem?_set_self lt] at e1
      cases e1
      exact p0
    · rw [List.getElem?_set_ne z] at e e1
      exact s.own j y q e o e1
end
section
variable {X : Cx} {E : XK} {e : Expr} {x : Str} {pos : Pos} {T : List SD → M SD}
def away (is : List Nat) (σ : L2.St) (ρ : List SD) (H : Hp) (b : Addr) : Bool := (match H b with | some (.lst _) => true | _ => false) && !(is.any fun i => decide (σ[i]? = some (some (.ref b))) && match ρ[i]? with | some x => isLs x | none => false)
end
end Dd
namespace Dd
open PySem PySem.Spec PyProof.Rows L2
def txtOf (v : Value) : Str := match v with
  | .str x _ => x
  | _ => ""
def TxE (P : Program) (w : World) (e : Int × Value) : Prop := ∃ x tk, e.2 = Value.str x tk ∧ e.1 = (strKind P w).hash x
abbrev tx2 (e : Int × Value) : Str := txtOf e.2
def TxSet (P : Program) (w : World) (h : Heap) (a : Addr) (zs : List Str) : Prop :=
  ∃ o es ep t, h.get? a = some o ∧ o.ExactSet ∧ o.data = .set es ep t ∧ (∀ e ∈ es.toList, TxE P w e) ∧ (es.toList.map tx2).Perm zs ∧ zs.Nodup ∧ es.size < scanBound ∧ t.fits es.size = true ∧ Ris t.place.toList ∧ (w.params.followText "set-order" = true ∨ t.led = true)
section
variable {P : Program} {w : World} {h h' : Heap} {a : Addr} {zs : List Str}
theorem TxSet.kept (T : TxSet P w h a zs) (k : ∀ o, h.get? a = some o → h'.get? a = some o) : TxSet P w h' a zs := by
  obtain ⟨o, es, ep, t, e, r⟩ := T
  exact ⟨o, es, ep, t, k o e, r⟩
theorem TxE.hit {e : Int × Value} (g : TxE P w e) (x : Str) : (strKind P w).is x e.2 = true ↔ tx2 e = x := by
  obtain ⟨y, tk, e1, _⟩ := g
  have hy : tx2 e = y := by unfold tx2 txtOf; rw [e1]
  rw [hy, e1]
  constructor
  · intro z
    exact (strKind P w).inj _ y x (strKind_is P w y tk) z
  · rintro rfl
    exact strKind_is P w _ tk
theorem TxE.has {l : List (Int × Value)} (g : ∀ e ∈ l, TxE P w e) (x : Str) : x ∈ l.map tx2 ↔ ∃ e ∈ l, (strKind P w).is x e.2 = true := by
  rw [List.mem_map]
  exact ⟨fun ⟨e, he, q⟩ => ⟨e, he, ((g e he).hit x).2 q⟩, fun ⟨e, he, q⟩ => ⟨e, he, ((g e he).hit x).1 q⟩⟩
end
section
variable {P : Program} {w : World} {A : Around} {E : Value → Shared → Prop} {s : Shared} {a : Addr} {zs : List Str}
def withT (zs : List Str) (x : Str) : List Str := if x ∈ zs then zs else x :: zs
end
def firstT (xs : List Str) (i : Nat) : List Str := (xs.take i).foldl withT []
section
variable {P : Program} {w : World} {A : Around} {Z : Result → Shared → Prop} {it : Addr} {fp wr : List Addr} {G : Array GenState → Array GenState → Prop} {Pv : Nat → Value → Prop} {St : Nat → Shared → Prop} {xs : List Str}
end
end Dd
namespace Dd
open PySem PySem.Spec PyProof.Rows L2
section
variable {P : Program} {w : World} {A : Around} {E : Value → Shared → Prop} {s : Shared} {xs : List Str}
end
end Dd
namespace Dd
open PySem PySem.Spec PyProof.Rows L2
section
variable {P : Program} {w : World} {A : Around} {E : Value → Shared → Prop} {s : Shared} {xs : List Str}
end
section
variable {X : Cx} {EX : L2.St → XK} {e : Expr} {p p2 q2 pos : Pos} {T : List SD → M SD}
def tSortTx (K : PySem.W.Frag) (ta : TE) : TE := fun σ H Q => ta σ H fun x H1 => ∃ (l : Addr) (xs : List Str), x = .ref l ∧ SqL K H1 l (xs.map V.str) ∧ xs.length < 64 ∧
  ∀ (out : List Str) p, out.Nodup → (∀ k, k ∈ out ↔ k ∈ xs) → out.Pairwise (fun x y => PySem.W.dataLt (.str y) (.str x) = false) → H1 p = none → Q (.ref p) (upd H1 p (.lst (out.map V.str)))
def bSortTx (x : SD) : M SD := ⟨fun P _ => ∃ ds ss, x = .d (.list ds) ∧ strsD ds = some ss ∧ ss.length < 64 ∧ ∀ out : List Str, out.Nodup → (∀ k, k ∈ out ↔ k ∈ ss) → out.Pairwise (fun a b => PySem.W.dataLt (.str b) (.str a) = false) → P (.d (.list (out.map .str))),
  fun h _ ⟨ds, ss, e1, e2, e3, q⟩ => ⟨ds, ss, e1, e2, e3, fun out a b c => h _ (q out a b c)⟩⟩
end
end Dd
namespace Dd
open PySem PySem.Spec PyProof.Rows L2
def ownTx : SD → Bool
  | .own ds => ds.all isTx
  | .ownD _ => false
  | .mutD _ _ => false
  | .ownL _ => false
  | _ => true
def rowsS : SD → Bool
  | .d (.list (.tuple ds :: r)) => noMutAll ds && noMutAll r
  | _ => false
def guardT (m : M SD) : M SD := ⟨fun P E => m.run (fun r => rowsS r = true ∧ P r) (fun _ => False), fun h g p => m.mono (fun _ q => ⟨q.1, h _ q.2⟩) (fun _ q => q) p⟩
def callT (n : Nat) (f : List SD → M SD) (xs : List SD) : M SD := if xs.length = n then (if xs.all ownTx = true then guardT (f (xs.map frzS)) else M.fail) else M.fail
section
variable {K : PySem.W.Frag} {W : Wd} {H H' : Hp}
end
section
variable {X : Cx} {EX : L2.St → XK} {e : Expr} {es : List Expr} {x : Str} {pos p : Pos} {Ts : List SD → M (List SD)} {n k : Nat} {g : List SD → M SD}
end
end Dd
namespace Dd
open PySem PySem.Spec PyProof.Rows L2
section
variable {P : Program} {w : World} {A : Around} {E : Value → Shared → Prop} {s : Shared}
end
section
variable {X : Cx}
def rSortT (K : PySem.W.Frag) : List V → Hp → VK → Prop := fun vs H Q => ∃ (l : Addr) (xs : List Str), vs = [.ref l] ∧ SqT K H l (xs.map V.str) ∧ xs.length < 64 ∧
  ∀ (out : List Str) p, out.Perm xs → out.Pairwise (fun x y => PySem.W.dataLt (.str y) (.str x) = false) → H p = none → Q (.ref p) (upd H p (.lst (out.map V.str)))
def M.sortT (ks : List Str) : M (List Str) := ⟨fun P _ => ∀ ys : List Str, ys.Perm ks → ys.Pairwise (fun x y => PySem.W.dataLt (.str y) (.str x) = false) → P ys, fun h _ p ys h1 h2 => h _ (p ys h1 h2)⟩
def bSorted3 : List SD → M SD
  | [.d (.tuple ds)] => do let ks ← M.lift (strsD ds); M.when (decide (ks.length < 64)) (do let ys ← M.sortT ks; pure (.d (.list (ys.map PyData.str))))
  | xs => bSorted2 xs
@[simp] theorem sorted3_l (xs : List PyData) : bSorted3 [.d (.list xs)] = bSorted [.d (.list xs)] := rfl
@[simp] theorem sorted3_d (xs : List (PyData × PyData)) : bSorted3 [.d (.dict xs)] = bSorted2 [.d (.dict xs)] := rfl
end
end Dd
namespace Dd
open PySem PySem.Spec PyProof.Rows L2
def OkN (P : Program) (w : World) (K : PySem.W.Frag) (mg : Str → Option Value) (base : Heap) (k : Nat) (x : Str) (n np : Nat) (ks : List Str) (g : List SD → M SD) : Prop := ∃ f fd ps, mg x = some (.ref f) ∧ PySem.W.keepIn K (.ref f) = true ∧ KBn K fd ps np ks (fun us ws => us ++ ws) (fun vs zs => vs ++ zs) ∧ FnOk P w K mg base (L2.CX P w) k f fd ps (spX K n g)
section
variable {X : Cx} {E : XK} {e : Expr} {es : List Expr} {x : Str} {pos p : Pos} {Ts Tk : List SD → M (List SD)} {n np k : Nat} {g : List SD → M SD}
end
section
variable {K : PySem.W.Frag} {x qual : Str} {params : Arguments} {body : List Stmt} {scope : Scope} {kws : List (Str × V)} {f : Addr} {fd : FuncData} {ps ks : List Str} {np : Nat}
end
end Dd
namespace Dd
open PySem PySem.Spec PyProof.Rows L2
def intAt (ds : List (Key × PyData)) (k : Key) : Option Int := match ((ds.find? fun p => decide (p.1 = k)).map (·.2) : Option PyData) with
  | some (PyData.int a) => some a
  | _ => none
section
variable {X : Cx} {E : XK} {o e e2 : Expr} {pos : Pos} {T T2 : List SD → M SD}
def rOpI (f : Int → Int → Int) : V → V → Hp → VK → Prop := fun x y H Q => ∃ i j, x = .int i ∧ y = .int j ∧ Q (.int (f i j)) H
end
end Dd
namespace Dd
open PySem PySem.Spec PyProof.Rows L2
structure OexG (K : PySem.W.Frag) (newId : String) (bmB : List Value) (C : Addr) : Prop where
  cls : ∃ nm q N bs bm sn sub ab col dd k0 k1 k2 k3 k5, K.lookup C = some (excClassObj nm q C N bs bm true sn sub ab col dd k0 k1 k2 k3 k5 newId) ∧ PySem.W.excTail bmB bm = true
  sa : PySem.W.findIn K (.ref C) "__setattr__" = some (some (.builtin "object.__setattr__"))
  exC : PySem.W.subIn K (.ref C) (.type "BaseException") = some true
  tyC : PySem.W.typeIn K (.ref C) = some (.type "type")
  kC : PySem.W.keepIn K (.ref C) = true
theorem OexG.over {K : PySem.W.Frag} {newId : String} {bmB : List Value} {C : Addr} (T : OexG K newId bmB C) : PySem.W.excOver K C bmB = true ∧ ∃ cd, PySem.W.clsIn K C = some cd ∧ cd.hasDict = true := by
  obtain ⟨nm, q, N, bs, bm, sn, sub, ab, col, dd, k0, k1, k2, k3, k5, hC, hbm⟩ := T.cls
  have c : PySem.W.clsIn K C = some { name := nm, bases := bs, mro := .ref C :: bm, ns := N, qualname := q, hasDict := true, slotNames := sn, subclasses := sub, abstract := ab, collection := col, hasDel := false } := by
    unfold PySem.W.clsIn
    rw [hC] <;> rfl
  refine ⟨?_, _, c, rfl⟩
  unfold PySem.W.excOver
  rw [c]
  show ((C == C) && PySem.W.excTail bmB bm) = true
  rw [hbm]
  simp
end Dd
namespace Dd
open PySem PySem.Spec PyProof.Rows L2
section
open Builtin Builtin.ObjectAttr PySem.HandSPX PySem.W
variable {prog : Program} {w : World} {A : Around} {R : Result → Shared → Prop} {h0 : Heap} {gs : Array GenState} {dw : Drawn} {tn : Nat} {os : OsState} {K : PySem.W.Frag} {B newId : String} {bmB : List Value} {x C : Addr} {fv : Array Value} {f : Str} {tk : Tok} {v : Value}
end
section
variable {X : Cx} {pins : List (Addr × Obj)} {σ : L2.St} {H : Hp} {s : Shared} {a C dx : Addr} {f : Str} {y : V} {u : Value} {fs : List (Str × V)} {Q : Unit → Shared → Prop} {E : Value → Shared → Prop} {A : Around} {B newId initId : String} {bmB : List Value}
end
end Dd
namespace Dd
open PySem PySem.Spec PyProof.Rows L2
abbrev leTail : List Value := [.type "LookupError", .type "Exception", .type "BaseException", .type "object"]
abbrev OexL (K : PySem.W.Frag) (C : Addr) : Prop := OexG K "LookupError.__new__" leTail C
def tLeI (K : PySem.W.Frag) (ta : TA) : TE := fun σ H Q => ta σ H fun vs H1 => ∃ (a C : Addr) (ws : List V), vs = .ref a :: ws ∧ ws.length ≤ 1000 ∧ OexL K C ∧ H1 a = some (exo a C none) ∧ Q .non H1
def tLst (K : PySem.W.Frag) (f : Str) (to te : TE) : TS := fun D σ H => te σ H fun y H1 => to σ H1 fun x H2 => ∃ a C : Addr, x = .ref a ∧ OexL K C ∧ PySem.W.findIn K (.ref C) f = some none ∧
  ((H2 a = some (exo a C none) ∧ ∀ dx, H2 dx = none → dx ≠ a → D.nx σ (upd (upd H2 dx (exd dx [(f, y)])) a (exo a C (some dx)))) ∨ ∃ (dx : Addr) (fs : List (Str × V)), H2 a = some (exo a C (some dx)) ∧ H2 dx = some (exd dx fs) ∧ fs.length ≤ 900 ∧ D.nx σ (upd H2 dx (exd dx ((f, y) :: fs))))
section
variable {X : Cx} {o e : Expr} {es : List Expr} {to te : TE} {ta : TA} {f : Str} {p p' p1 p2 pos : Pos}
end
end Dd
namespace Dd
open PySem PySem.Spec PyProof.Rows L2
section
variable (P : Program) (w : World) (K : PySem.W.Frag) (mg : Str → Option Value) (base : Heap)
def ErrOkL (k : Nat) (x : Str) (c : EC) : Prop := ∃ C fI fd p, mg x = some (.ref C) ∧ PySem.W.nsIn K mainGlobals x = some (some (.ref C)) ∧ OexL K C ∧ PySem.W.findIn K (.ref C) "__init__" = some (some (.ref fI)) ∧ PySem.W.typeIn K (.ref fI) = some (.type "function") ∧
  L2.Binds K fd ["self", p] [] ∧ FnOk P w K mg base CX0 k fI fd ["self", p] (spErr C c)
end
section
variable {X : Cx} {E : XK} {e : Expr} {x : Str} {p pos pos' : Pos} {T : List SD → M SD} {k : Nat} {c : EC}
end
def spNF (K : PySem.W.Frag) : Sp := fun vs H Q _ => ∃ (a C : Addr) (m c : V), vs = [.ref a, m, c] ∧ OexL K C ∧ PySem.W.findIn K (.ref C) "code" = some none ∧ H a = some (exo a C none) ∧
  ∀ dx, H dx = none → dx ≠ a → Q .non (upd (upd H dx (exd dx [("code", c)])) a (exo a C (some dx)))
end Dd
namespace Dd
open PySem PySem.Spec PyProof.Rows L2
abbrev KVD := List (Key × PyData)
abbrev RM := Addr × PyData × KVD
def hid1 (H : Hp) (p : Addr) : Hp := fun b => if b = p then none else H b
def M.anyA : M Addr := ⟨fun P _ => ∀ a, P a, fun h _ p a => h _ (p a)⟩
def RetP (K : PySem.W.Frag) (W0 : Wd) (H0 : Hp) (Q : VK) (r : RM) : Prop := ∀ v H', Kp W0 H0 H' → W0.Ok H' → Rp K W0.S H' v r.2.1 → (∃ kvs, H' r.1 = some (.dK kvs) ∧ PKV K W0.S H' kvs r.2.2) → Q v H'
def dsr (K : PySem.W.Frag) (E : XK) (T : List SD → M RM) : TS := fun D σ H => ∃ W0 H0 W ρ, SSt K W0 H0 W H σ ρ ∧ (T ρ).run (RetP K W0 H0 D.rt) (XP K W0 H0 E)
abbrev DSR (X : Cx) (E : XK) (st : List Stmt) (T : List SD → M RM) : Prop := PSs X st (dsr X.K E T)
def mutK (ρ : List SD) (i : Nat) : Option (Addr × KVD) := match getS ρ i with
  | some (.mutD p ds) => some (p, ds)
  | _ => none
def goR (o : Out) (T : List SD → M RM) : M RM := match o with
  | .nx ρ => T ρ
  | _ => M.fail
section
variable {X : Cx} {E : XK} {st : Stmt} {sts a : List Stmt} {e e2 c o : Expr} {es : List Expr} {x : Str} {pos p p2 : Pos} {T T2 : List SD → M SD} {Ts : List SD → M (List SD)} {B : List SD → M Bool} {U : List SD → M Out} {R R1 R2 : List SD → M RM}
end
def spM (K : PySem.W.Frag) (n : Nat) (g : List SD → M RM) : Sp := fun vs H Q E => ∃ W xs ws p ds, W.Ok H ∧ vs = ws ++ [.ref p] ∧ Paired (RV K W H) ws xs ∧ RV K W H (.ref p) (.mutD p ds) ∧ (∀ x ∈ xs, isOwn x = false) ∧ xs.length + 1 = n ∧ W.tab = theTab K ∧
  (g (xs ++ [.mutD p ds])).run (RetP K (W.less [p]) (hid1 H p) Q) (fun _ => False)
def defR (m : Nat) (T : List SD → M RM) (xs : List SD) : M RM := T (xs ++ List.replicate (m - xs.length) .no)
section
variable {P : Program} {w : World} {K : PySem.W.Frag} {mg : Str → Option Value} {base : Heap}
end
section
variable (P : Program) (w : World) (K : PySem.W.Frag) (mg : Str → Option Value) (base : Heap)
def OkM (k : Nat) (x : Str) (n : Nat) (g : List SD → M RM) : Prop := ∃ f fd ps, mg x = some (.ref f) ∧ PySem.W.keepIn K (.ref f) = true ∧ L2.Binds K fd ps [] ∧ FnOk P w K mg base (L2.CX P w) k f fd ps (spM K n g)
end
section
variable {P : Program} {w : World} {K : PySem.W.Frag} {mg : Str → Option Value} {base : Heap}
end
def dtam (K : PySem.W.Frag) (EX : L2.St → XK) (j : Nat) (T : List SD → M (List SD)) : TA := fun σ H Q => ∃ W ρ, W.Ok H ∧ Rel K W H σ ρ ∧
  (T ρ).run (fun ds => ∀ vs H' v, Kp W H H' → W.Ok H' → Paired (RV K W H') vs ds → σ[j]? = some (some v) → Q (vs ++ [v]) H') (XP K W H (EX σ))
abbrev DAM (X : Cx) (EX : L2.St → XK) (j : Nat) (es : List Expr) (T : List SD → M (List SD)) : Prop := PA X es (dtam X.K EX j T)
section
variable {X : Cx} {EX : L2.St → XK} {e : Expr} {es : List Expr} {x : Str} {pos p : Pos} {T : List SD → M SD} {Ts : List SD → M (List SD)} {n k : Nat} {g : List SD → M RM}
end
def noOwn (xs : List SD) : Bool := xs.all fun x => !isOwn x
def callR (n : Nat) (g : List SD → M RM) (xs : List SD) (p : Addr) (ds : KVD) : M RM := M.when (noOwn xs && decide (xs.length + 1 = n)) (do let r ← M.calm (g (xs ++ [.mutD p ds])); M.when (decide (r.1 = p)) (pure r))
section
variable {X : Cx} {E : XK} {e : Expr} {es : List Expr} {x y : Str} {pos pos' p p2 : Pos} {Ts : List SD → M (List SD)} {n k : Nat} {g : List SD → M RM}
end
end Dd
namespace Dd
open PySem PySem.Spec PyProof.Rows L2
def dsf (K : PySem.W.Frag) (E : XK) (T : List SD → M KVD) : TS := fun D σ H => ∃ W ρ, W.Ok H ∧ Rel K W H σ ρ ∧ (T ρ).run (PostK K W H D.rt) (fun _ => False)
abbrev DSF (X : Cx) (E : XK) (st : List Stmt) (T : List SD → M KVD) : Prop := PSs X st (dsf X.K E T)
section
variable {X : Cx} {E : XK} {kx vx tg iter : Expr} {ifs : List Expr} {scope : Scope} {own : List (Str × Nat)} {pos pos2 : Pos} {Ti : List SD → M (List SD)} {B : List SD → M Bool} {Tk Tv : List SD → M SD} {t : Tg}
end
def spF (K : PySem.W.Frag) (n : Nat) (g : List SD → M KVD) : Sp := fun vs H Q E => ∃ W xs, W.Ok H ∧ Paired (RV K W H) vs xs ∧ (∀ x ∈ xs, isOwn x = false) ∧ xs.length = n ∧ (g xs).run (PostK K W H Q) (fun _ => False) ∧ W.tab = theTab K
def defF (m : Nat) (T : List SD → M KVD) (xs : List SD) : M KVD := T (xs ++ List.replicate (m - xs.length) .no)
section
variable (P : Program) (w : World) (K : PySem.W.Frag) (mg : Str → Option Value) (base : Heap)
def OkF (k : Nat) (x : Str) (n : Nat) (g : List SD → M KVD) : Prop := ∃ f fd ps, mg x = some (.ref f) ∧ PySem.W.keepIn K (.ref f) = true ∧ L2.Binds K fd ps [] ∧ FnOk P w K mg base (L2.CX P w) k f fd ps (spF K n g)
end
section
variable {P : Program} {w : World} {K : PySem.W.Frag} {mg : Str → Option Value} {base : Heap}
end
def callF (n : Nat) (g : List SD → M KVD) (xs : List SD) : M KVD := M.when (noOwn xs && decide (xs.length = n)) (M.calm (g xs))
section
variable {X : Cx} {E : XK} {e : Expr} {es : List Expr} {x y : Str} {pos pos' p p2 : Pos} {Ts : List SD → M (List SD)} {n k : Nat} {g : List SD → M KVD}
end
end Dd
namespace Dd
open PySem PySem.Spec PyProof.Rows L2
section
variable {X : Cx} {E : XK} {x : Str} {pos pos' p : Pos}
end
end Dd
namespace Dd
open PySem PySem.Spec PyProof.Rows L2
def gIsNotB : SD → SD → Option SD
  | .d (.bool a), .d (.bool b) => some (dB (!decide (a = b)))
  | _, _ => none
end Dd
namespace Dd
open PySem PySem.Spec PyProof.Rows L2
def asPairs : SD → Option (List (Key × PyData))
  | .d (.list ds) => pairsD ds
  | _ => none
section
variable {X : Cx} {E : XK} {e : Expr} {x : Str} {pos p p2 : Pos} {T : List SD → M SD}
end
end Dd
namespace Dd
open PySem PySem.Spec PyProof.Rows L2
def bLen2 : List SD → M SD
  | [.d (.dict ds)] => pure (dI ds.length)
  | xs => bLen xs
end Dd
namespace Dd
open PySem PySem.Spec PyProof.Rows L2
def guardX (m : M SD) : M SD := ⟨fun P E => m.run (fun _ => P .no) (fun e => (∀ p ∈ e.fs, noMut p.2 = true) ∧ E e), fun h g p => m.mono (fun _ q => h _ q) (fun _ q => ⟨q.1, g _ q.2⟩) p⟩
def callX (n : Nat) (f : List SD → M SD) (xs : List SD) : M SD := if xs.length = n then guardX (f (xs.map frzS)) else M.fail
section
variable {K : PySem.W.Frag} {W : Wd} {H H' : Hp}
end
section
variable {X : Cx} {EX : L2.St → XK} {e : Expr} {es : List Expr} {x : Str} {pos p : Pos} {Ts : List SD → M (List SD)} {n k : Nat} {g : List SD → M SD}
end
end Dd
namespace Dd
open PySem PySem.Spec PyProof.Rows L2
section
variable {X : Cx}
def ltOk (d e : PyData) : Bool := PySem.W.alike d e && PyData.canLay0 d && PyData.canLay0 e && decide (d.depth ≤ 64) && (match d with | .tuple _ => true | .list _ => true | _ => false)
def rLtD (K : PySem.W.Frag) : R2 := fun x y H Q => ∃ d e, Dp K H x d ∧ Dp K H y e ∧ ltOk d e = true ∧ Q (.bl (PySem.W.dataLt d e)) H
def gLtD : SD → SD → Option SD
  | .d x, .d y => if ltOk x y then some (dB (PySem.W.dataLt x y)) else none
  | _, _ => none
end
end Dd
namespace Dd
open PySem PySem.Spec PyProof.Rows L2
section
variable {X : Cx} {EX : L2.St → XK} {tg e : Expr} {T : List SD → M SD} {p pos : Pos}
def revS : SD → Option (List SD)
  | .d (.list ds) => some (ds.map SD.d).reverse
  | _ => none
end
section
variable {X : Cx} {o : Expr} {p pos apos mpos : Pos} {td : TE}
def tListVals (td : TE) : TE := fun σ H Q => td σ H fun x H1 => ∃ a kvs, x = V.ref a ∧ Rd H1 a (.dK kvs) ∧ ∀ q, H1 q = none → Q (.ref q) (upd H1 q (.lst (kvs.map (·.2))))
def valsD : SD → Option SD
  | .d (.dict ds) => some (.d (.list (ds.map (·.2))))
  | _ => none
end
end Dd
namespace Dd
open PySem PySem.Spec PyProof.Rows L2
section
variable {X : Cx} {EX : L2.St → XK} {e : Expr} {T : List SD → M SD} {k : Nat} {p1 p2 p3 pos : Pos}
def revL : SD → Option SD
  | .d (.list ds) => some (.d (.list ds.reverse))
  | _ => none
end
section
variable {X : Cx} {e : Expr} {es : List Expr} {x : Str} {pos p : Pos} {Ts Tk : List SD → M (List SD)} {n np k : Nat} {g : List SD → M SD}
end
end Dd
namespace Dd
open PySem PySem.Spec PyProof.Rows L2
def frzAt (ρ : List SD) (i : Nat) : List SD := ρ.set i (frzS (ρ.getD i .no))
section
variable {K : PySem.W.Frag} {W0 W : Wd} {H0 H : Hp} {σ : L2.St} {ρ : List SD}
end
section
variable {X : Cx} {E : XK} {b : List Stmt} {U : List SD → M Out}
end
end Dd
namespace Dd
open PySem PySem.Spec PyProof.Rows L2
section
variable {K : PySem.W.Frag} {W : Wd} {H : Hp} {σ : L2.St} {ρ : List SD}
def Wd.mine (W : Wd) : List Addr := W.S.filter fun b => match W.src with
  | some (a, _) => decide (b ≠ a)
  | none => true
theorem mine_src : ∀ p ∈ W.mine, ∀ q, W.src ≠ some (p, q) := fun p hp q e => by
  have h := (List.mem_filter.mp hp).2
  rw [e] at h
  exact of_decide_eq_true h rfl
theorem mem_mine {p : Addr} (m : p ∈ W.S) (ns : ∀ l, W.src ≠ some (p, l)) : p ∈ W.mine := by
  refine List.mem_filter.mpr ⟨m, ?_⟩
  cases e : W.src with
  | none => rfl
  | some q => exact decide_eq_true fun z => ns q.2 (by rw [e, z])
theorem own_mine {x : SD} {p : Addr} (r : RV K W H (.ref p) x) (o : isOwn x = true) : p ∈ W.mine := by
  cases x with
  | own ds => obtain ⟨p', ys, e', m, ns, _⟩ := r; cases e'; exact mem_mine m ns
  | ownL ds => obtain ⟨p', ys, e', m, ns, _⟩ := r; cases e'; exact mem_mine m ns
  | ownD ds => obtain ⟨p', ys, e', m, ns, _⟩ := r; cases e'; exact mem_mine m ns
  | mutD _ ds => obtain ⟨p', ys, e', m, ns, _⟩ := r; cases e'; exact mem_mine m ns
  | _ => cases o
theorem Rel.frz (r : Rel K W H σ ρ) : Rel K (W.less W.mine) H σ (ρ.map frzS) := by
  refine ⟨by rw [List.length_map]; exact r.len, fun i x e n => ?_, fun i j x y p ne e1 e2 o1 o2 s1 => ?_, r.tab⟩
  · rw [List.getElem?_map] at e
    obtain ⟨y, hy, rfl⟩ := Option.map_eq_some_iff.mp e
    obtain ⟨v, h1, h2⟩ := r.get i y hy (fun z => n (by rw [z]; rfl))
    exact ⟨v, h1, frz_rv h2 fun p e o => by subst e; exact own_mine h2 o⟩
  · rw [List.getElem?_map] at e1
    obtain ⟨z, _, rfl⟩ := Option.map_eq_some_iff.mp e1
    rw [frz_own z] at o1
    cases o1
end
section
variable {X : Cx} {EX : L2.St → XK} {e : Expr} {T : List SD → M Bool}
theorem dt_flat (h : DT X EX e T) : DT X EX e (fun ρ => M.calm (T (ρ.map frzS))) := by
  refine pt_imp h fun σ H Q ⟨W, ρ, ok, rel, h⟩ => ?_
  refine ⟨W.less W.mine, ρ.map frzS, ok.less mine_src, rel.frz, ?_⟩
  have h : (T (ρ.map frzS)).run (fun b => ∀ H', Kp W H H' → W.Ok H' → Q b H') (fun _ => False) := h
  exact (T _).mono (fun b q H' k ok' => q H' k (ok.more ok' k mine_src)) (fun _ z => z.elim) h
def flatS : SD → Option SD
  | .d (.int i) => some (dI i)
  | .d (.bool b) => some (dB b)
  | .d (.str z) => some (.d (.str z))
  | .d .none => some (.d .none)
  | _ => none
end
end Dd
namespace Dd
open PySem PySem.Spec PyProof.Rows L2
section
variable {X : Cx} {E : XK} {kx vx tg iter : Expr} {ifs : List Expr} {scope : Scope} {own : List (Str × Nat)} {y : Str} {pos pos' p2 : Pos} {Ti : List SD → M (List SD)} {B : List SD → M Bool} {Tk Tv : List SD → M SD} {t : Tg}
end
end Dd
namespace Dd
open PySem PySem.Spec PyProof.Rows L2
mutual
theorem short_of : ∀ d : PyData, d.showable = true → d.intsShort 1921 = true
  | .none, _ => rfl
  | .bool _, _ => rfl
  | .str _, _ => rfl
  | .dict _, _ => rfl
  | .int i, h => by
    have h : decide (i.natAbs.log2 < 1920) = true := by simpa only [PyData.showable] using h
    exact decide_eq_true (int_text_len_1921 (of_decide_eq_true h))
  | .list xs, h => short_all xs (by simpa only [PyData.showable] using h)
  | .tuple xs, h => short_all xs (by simpa only [PyData.showable] using h)
theorem short_all : ∀ xs : List PyData, PyData.showableAll xs = true → PyData.intsShortAll 1921 xs = true
  | [], _ => rfl
  | x :: r, h => by
    have h := Bool.and_eq_true_iff.mp (show (PyData.showable x && PyData.showableAll r) = true from h)
    exact Bool.and_eq_true_iff.mpr ⟨short_of x h.1, short_all r h.2⟩
end
def isSeqD : PyData → Bool
  | .list _ => true
  | .tuple _ => true
  | _ => false
def reprG (d : PyData) : Bool := PyData.layable0 d && d.showable && decide (d.weight ≤ 8000) && isSeqD d
structure RG (d : PyData) : Prop where
  lay : PyData.layable0 d = true
  sh : d.showable = true
  wt : d.weight ≤ 8000
  sq : isSeqD d = true
theorem RG.can {d : PyData} (g : RG d) : d.canLay0 = true := by
  have h := g.lay
  unfold PyData.layable0 at h
  simp only [Bool.and_eq_true] at h
  exact h.1.1
theorem RG.size {d : PyData} (g : RG d) : d.shown.length ≤ sizeLine := by
  have h := PyData.shown_le 1921 (by decide) d (PyData.leavesShort_of_canLay0 1921 d g.can (short_of d g.sh))
  have e : (1921 + 2) * d.weight ≤ (1921 + 2) * 8000 := Nat.mul_le_mul_left _ g.wt
  have e2 : sizeLine = 16777216 := by decide
  omega
section
variable {X : Cx}
def rRepr (K : PySem.W.Frag) : List V → Hp → VK → Prop := fun xs H Q => ∃ v d, xs = [v] ∧ Dp K H v d ∧ reprG d = true ∧ Q (.str d.shown) H
def bRepr : List SD → M SD
  | [.d x] => M.when (reprG x) (pure (dS x.shown))
  | _ => M.fail
def gNeS : SD → SD → Option SD
  | .d (.str a), .d (.str b) => some (dB (!decide (a = b)))
  | _, _ => none
def gEqS : SD → SD → Option SD
  | .d (.str a), .d (.str b) => some (dB (decide (a = b)))
  | _, _ => none
end
end Dd
namespace Dd
open PySem PySem.Spec PyProof.Rows L2
def keysO : List (Key × PyData) → Option (List Str)
  | [] => some []
  | (.inr k, _) :: r => (keysO r).map (k :: ·)
  | _ => none
def bSorted4 : List SD → M SD
  | [.ownD ds] => do let ks ← M.lift (keysO ds); M.when (decide (ks.length < 64)) (do let ys ← M.sortedS ks; pure (.d (.list (ys.map PyData.str))))
  | xs => bSorted2 xs
section
variable {X : Cx}
end
end Dd
namespace Dd
open PySem PySem.Spec PyProof.Rows L2
section
variable {prog : Program} {w : World} {A : Around} {E : Value → Shared → Prop} {s : Shared}
theorem drawn_list {it l : Addr} {xs : Array Value} (ne : l ≠ it) : ∀ (n k : Nat) (s : Shared) (Q : List Value → Shared → Prop), s.heap.IsListIter it l k → s.heap.IsList l xs → k + n ≤ xs.size →
    (∀ g, g.IsListIter it l (k + n) → Heap.SameBut it s.heap g → Q ((xs.toList.drop k).take n) { s with heap := g }) → wpAny (model prog w) A (draw (.ref it) n) Q E s
  | 0, k, s, Q, hi, _, _, q => wpAny_pure (by simpa using q s.heap hi (Heap.SameBut.refl ..))
  | n + 1, k, s, Q, hi, hl, le, q => by
    have lt : k < xs.size := by omega
    refine wpAny_bind (m := pyNext (.ref it)) (wpAny_pyNext_list_item hi hl (x := xs[k]) (by simp [lt]) fun g1 i1 s1 => wpAny_bind (wpAny_holding ?_))
    refine drawn_list ne n (k + 1) _ _ i1 (hl.extBut s1.extBut ne) (by omega) fun g2 i2 s2 => wpAny_pure ?_
    have z := q g2 (by rw [show k + (n + 1) = k + 1 + n by omega]; exact i2) (s1.trans s2)
    have e : xs.toList.drop k = xs[k] :: xs.toList.drop (k + 1) := by simp [List.drop_eq_getElem_cons, lt]
    rw [e, List.take_succ_cons] at z
    exact z
theorem unpacked_list {l : Addr} {xs : Array Value} {Q : List Value → Shared → Prop} (hh : A.handled = none) (hl : s.heap.IsList l xs) (q : ∀ g, Heap.ExtBut s.heap.objs.size s.heap g → Q xs.toList { s with heap := g }) : wpAny (model prog w) A (unpackItems (.ref l) xs.size none) Q E s := by
  have ne : l ≠ s.heap.objs.size := by
    obtain ⟨o, ho, _⟩ := hl
    exact Nat.ne_of_lt (Heap.lt_size ho)
  unfold unpackItems notIterableAtAll
  refine wpAny_bind (wpAny_bind (wpAny_specialOf hl.typeIs slot_list_iter.lookup (wpAny_pure ?_)))
  simp only [Bool.false_eq_true, if_false]
  refine wpAny_bind (wpAny_holding (wpAny_pyIter_list hl (wpAny_bind (wpAny_holding ?_))))
  refine drawn_list ne xs.size 0 _ _ ⟨_, Heap.get?_push_size _ rfl, rfl, rfl⟩ (hl.push _) (by omega) fun g1 i1 s1 => ?_
  rw [List.drop_zero, List.take_of_length_le (by simp), if_neg (by simp)]
  refine wpAny_bind (wpAny_holding (wpAny_pyNext_list_end hh i1 ((hl.push _).extBut s1.extBut ne) (by simp) fun g2 e2 => ?_))
  simp only [Option.isSome_none, Bool.false_eq_true, if_false]
  exact wpAny_pure (q g2 fun b o hb e => e2 b o hb (s1.extBut b o hb (Heap.get?_push_of_some _ e)))
end
section
variable {X : Cx} {E : XK} {e : Expr} {pos : Pos} {T : List SD → M SD}
def gLstT (K : PySem.W.Frag) (n : Nat) (t : TGs) : TG := fun v σ H Q => ∃ a xs, v = .ref a ∧ SqL K H a xs ∧ xs.length = n ∧ t xs σ H Q
theorem pg_lstT {es : List Expr} {k : Nat} {t : TGs} {n : Nat} (hc : X.calm = true) (h : PGs X es t) (hn : (assignEach es X.env).length = n := by rfl) (hst : (assignEach es X.env).findIdx? (·.1) = none := by rfl) : PG X (.Tuple es k pos) (gLstT X.K n t) := by
  refine ⟨fun pins s σ H v u Q I r ⟨a, xs, ev, sq, len, q⟩ => ?_⟩
  cases ev
  cases r
  obtain ⟨its, rv, ⟨o, m, ho, hcl, _, hd⟩, _⟩ := I.list sq
  rw [assign_Tuple]
  refine wpAny_bind (wpAny_standAt ?_)
  unfold unpack
  rw [hst, show (assignEach es X.env).length = its.toArray.size by rw [hn, ← len, rv.length]; simp]
  refine wpAny_bind (wpAny_holding (unpacked_list (I.ok.hd hc) ⟨o, ho, hcl, m, hd⟩ fun g hx => ?_))
  exact h.run pins _ σ H xs _ Q (I.kept (t' := s.toks) fun b o e => hx b o (Nat.ne_of_lt (Heap.lt_size e)) e) (by simpa using rv) q
def kOfL (is : List Nat) : SD → List SD → Option (List SD)
  | .d (.list xs), ρ => if xs.length = is.length then some (setsD ρ is xs) else none
  | _, _ => none
theorem ds_unpL {is : List Nat} {tg : Expr} (he : DE X (fun _ => E) e T) (hg : PG X tg (gLstT X.K is.length (gNames is))) (hs : swapsWithSole [tg] e pos.line X.env = pure false := by rfl) (hw : swappedStores [tg] e X.env = pure none := by rfl)
    (h1 : (assignEach [tg] X.env).map (·.2) = [assign tg X.env] := by rfl) : DS X E (.Assign [tg] e pos) (fun ρ => do let v ← T ρ; let ρ' ← M.lift (kOfL is v ρ); pure (.nx ρ')) := by
  refine ps_imp (ps_asg he hg hs hw h1) fun D σ H ⟨W0, H0, W, ρ, s, h⟩ => ?_
  refine ex_run s h fun v q vv H' k ok r => ?_
  obtain ⟨ρ', hk, q⟩ := run_lift.mp q
  unfold kOfL at hk
  split at hk
  · split at hk
    · rename_i hl
      cases hk
      cases r with | lst sq t =>
      have lv := t.length
      exact ⟨_, _, rfl, sq.sq, by rw [lv, hl], gNames_run (by rw [lv, hl]) (q W _ H' (k.stp s.ok) (sets_sst t (s.keep k ok)))⟩
    · cases hk
  · cases hk
@[simp] theorem kOfL2 (i j : Nat) (x y : PyData) (ρ : List SD) : kOfL [i, j] (.d (.list [x, y])) ρ = some ((ρ.set i (.d x)).set j (.d y)) := rfl
@[simp] theorem kOfL3 (i j l : Nat) (x y z : PyData) (ρ : List SD) : kOfL [i, j, l] (.d (.list [x, y, z])) ρ = some (((ρ.set i (.d x)).set j (.d y)).set l (.d z)) := rfl
end
end Dd
namespace Dd
open PySem PySem.Spec PyProof.Rows L2
def gInT : SD → SD → Option SD
  | .d x, .d (.tuple ds) => if SeqAt.shaped x && SeqAt.shaped (.tuple ds) && ds.all (fun y => SeqAt.noMix y x) then some (dB (decide (countIn x ds ≠ 0))) else none
  | _, _ => none
section
variable {X : Cx}
end
end Dd
namespace Dw
theorem gcd_fmod (x y : Int) : Int.gcd y (x.fmod y) = Int.gcd x y := by
  rw [Int.fmod_def, Int.gcd_comm y, Int.mul_comm, Int.gcd_sub_mul_right_left]
theorem fmod_less (x y : Int) (h : y ≠ 0) : (x.fmod y).natAbs < y.natAbs := by
  rcases Int.lt_or_lt_of_ne h with h | h
  · have e : x.fmod y = -((-x).fmod (-y)) := by
      rw [Int.fmod_def, Int.fmod_def, Int.neg_fdiv_neg]
      simp only [Int.neg_mul]
      omega
    have h1 := Int.fmod_nonneg_of_pos (-x) (b := -y) (by omega)
    have h2 := Int.fmod_lt_of_pos (-x) (b := -y) (by omega)
    omega
  · have h1 := Int.fmod_nonneg_of_pos x h
    have h2 := Int.fmod_lt_of_pos x h
    omega
def gd (n d : Int) : Int := if d < 0 then -(Int.gcd n d : Int) else (Int.gcd n d : Int)
def rn (n d : Int) : Int := n.fdiv (gd n d)
def rd (n d : Int) : Int := d.fdiv (gd n d)
theorem gd_dvd (n d : Int) : gd n d ∣ n ∧ gd n d ∣ d := by
  have h1 := Int.gcd_dvd_left n d
  have h2 := Int.gcd_dvd_right n d
  unfold gd
  split
  · exact ⟨(Int.neg_dvd).mpr h1, (Int.neg_dvd).mpr h2⟩
  · exact ⟨h1, h2⟩
theorem gd_ne {n d : Int} (h : d ≠ 0) : gd n d ≠ 0 := by
  have h1 : 0 < Int.gcd n d := Int.gcd_pos_of_ne_zero_right n h
  unfold gd
  split <;> omega
theorem gd_abs (n d : Int) : (gd n d).natAbs = Int.gcd n d := by
  unfold gd
  split <;> omega
theorem rn_eq {n d : Int} (h : d ≠ 0) : gd n d * rn n d = n := by
  unfold rn
  rw [Int.fdiv_eq_ediv_of_dvd (gd_dvd n d).1]
  exact Int.mul_ediv_cancel' (gd_dvd n d).1
theorem rd_eq {n d : Int} (h : d ≠ 0) : gd n d * rd n d = d := by
  unfold rd
  rw [Int.fdiv_eq_ediv_of_dvd (gd_dvd n d).2]
  exact Int.mul_ediv_cancel' (gd_dvd n d).2
theorem rd_pos {n d : Int} (h : d ≠ 0) : 0 < rd n d := by
  have e := rd_eq (n := n) h
  have g := gd_ne (n := n) h
  have hs : (d < 0 ∧ gd n d < 0) ∨ (0 < d ∧ 0 < gd n d) := by
    have h1 : 0 < Int.gcd n d := Int.gcd_pos_of_ne_zero_right n h
    unfold gd
    split <;> omega
  rcases hs with ⟨h1, h2⟩ | ⟨h1, h2⟩
  · rcases Int.lt_trichotomy (rd n d) 0 with z | z | z
    · have := Int.mul_pos_of_neg_of_neg h2 z
      omega
    · rw [z, Int.mul_zero] at e
      omega
    · exact z
  · rcases Int.lt_trichotomy (rd n d) 0 with z | z | z
    · have := Int.mul_neg_of_pos_of_neg h2 z
      omega
    · rw [z, Int.mul_zero] at e
      omega
    · exact z
theorem r_gcd {n d : Int} (h : d ≠ 0) : Int.gcd (rn n d) (rd n d) = 1 := by
  have e : Int.gcd (gd n d * rn n d) (gd n d * rd n d) = Int.gcd n d := by rw [rn_eq h, rd_eq h]
  rw [Int.gcd_mul_left, gd_abs] at e
  have h1 : 0 < Int.gcd n d := Int.gcd_pos_of_ne_zero_right n h
  exact Nat.eq_of_mul_eq_mul_left h1 (by rw [e, Nat.mul_one])
theorem abs_if (i : Int) : (if i < 0 then -i else i) = (i.natAbs : Int) := by
  split <;> omega
end Dw
namespace Dd
open PySem PySem.Spec PyProof.Rows L2
theorem M.ext {α : Type} {m n : M α} (h : ∀ P E, m.run P E ↔ n.run P E) : m = n := by
  obtain ⟨r1, m1⟩ := m
  obtain ⟨r2, m2⟩ := n
  have e : r1 = r2 := by
    funext P E
    exact propext (h P E)
  subst e
  rfl
theorem pure_bnd {α β : Type} (a : α) (f : α → M β) : ((pure a : M α) >>= f) = f a := rfl
theorem lift_some {α : Type} (a : α) : M.lift (some a) = (pure a : M α) := rfl
theorem when_of {α : Type} {b : Bool} (m : M α) (h : b = true) : M.when b m = m := by subst h; rfl
theorem need_of {p : Prop} (h : p) : M.need p = (pure () : M Unit) := M.ext fun P E => ⟨fun q => q.2, fun q => ⟨h, q⟩⟩
theorem while_go {B : List SD → M Bool} {U : List SD → M Out} {ρ ρ' : List SD} (hb : B ρ = pure true) (hu : U ρ = pure (.nx ρ')) : whileM B U ρ = whileM B U ρ' := M.ext fun P E => by
  constructor
  · rintro ⟨I, ⟨m, i⟩, turn⟩
    have t := turn m ρ i
    rw [hb] at t
    have t : (U ρ).run _ E := t
    rw [hu] at t
    obtain ⟨m', _, i'⟩ := t
    exact ⟨I, ⟨m', i'⟩, turn⟩
  · rintro ⟨I, ⟨m, i⟩, turn⟩
    refine ⟨fun k σ => I k σ ∨ (σ = ρ ∧ ∃ j, j < k ∧ I j ρ'), ⟨m + 1, .inr ⟨rfl, m, Nat.lt_succ_self m, i⟩⟩, ?_⟩
    rintro k σ (h | ⟨rfl, j, lt, h⟩)
    · refine (B σ).mono (fun b q => ?_) (fun _ z => z) (turn k σ h)
      cases b with
      | true =>
        refine (U σ).mono (fun o q => ?_) (fun _ z => z) q
        cases o with
        | nx ρ2 => obtain ⟨m', l, z⟩ := q; exact ⟨m', l, .inl z⟩
        | ct ρ2 => obtain ⟨m', l, z⟩ := q; exact ⟨m', l, .inl z⟩
        | bk ρ2 => exact q
        | rt y => exact q
      | false => exact q
    · rw [hb]
      show (U σ).run _ E
      rw [hu]
      exact ⟨j, lt, .inl h⟩
theorem while_end {B : List SD → M Bool} {U : List SD → M Out} {ρ : List SD} (hb : B ρ = pure false) : whileM B U ρ = pure (.nx ρ) := M.ext fun P E => by
  constructor
  · rintro ⟨I, ⟨m, i⟩, turn⟩
    have t := turn m ρ i
    rw [hb] at t
    exact t
  · intro h
    refine ⟨fun _ σ => σ = ρ, ⟨0, rfl⟩, ?_⟩
    rintro _ _ rfl
    rw [hb]
    exact h
abbrev Fr := Int × Int
def fr (p : Fr) : PyData := .tuple [.int p.1, .int p.2]
abbrev dF (p : Fr) : SD := .d (fr p)
def lessF (p q : Fr) : Bool := decide (p.1 * q.2 < q.1 * p.2)
def isFr (p : Fr) : Bool := decide (1 ≤ p.2) && decide (Int.gcd p.1 p.2 = 1)
def SmI (i : Int) : Prop := i.natAbs < 2 ^ 2000
def Sm (p : Fr) : Prop := SmI p.1 ∧ SmI p.2
theorem log_le {i : Int} {n : Nat} (h : i.natAbs < 2 ^ n) : i.natAbs.log2 ≤ n := by
  by_cases z : i.natAbs = 0
  · rw [z]; exact Nat.zero_le _
  · exact Nat.le_of_lt ((Nat.log2_lt z).mpr h)
theorem mul_ok {i j : Int} {n m : Nat} (h1 : i.natAbs < 2 ^ n) (h2 : j.natAbs < 2 ^ m) (h : n + m < 1000000) : gMul (dI i) (dI j) = some (dI (i * j)) := by
  have a := log_le h1
  have b := log_le h2
  show (if _ then _ else _) = _
  rw [if_pos (decide_eq_true (by omega))]
end Dd
namespace Dd
open PySem PySem.Spec PyProof.Rows L2
@[simp] theorem sp_pure_bnd {α β : Type} (a : α) (f : α → M β) : ((pure a : M α) >>= f) = f a := rfl
@[simp] theorem sp_bnd_assoc {α β γ : Type} (m : M α) (f : α → M β) (g : β → M γ) : ((m >>= f) >>= g) = (m >>= fun a => f a >>= g) := rfl
@[simp] theorem sp_lift_some {α : Type} (a : α) : M.lift (some a) = (pure a : M α) := rfl
@[simp] theorem sp_when_true {α : Type} (m : M α) : M.when true m = m := rfl
@[simp] theorem sp_calm_pure {α : Type} (a : α) : M.calm (pure a : M α) = pure a := rfl
@[simp] theorem sp_calm_bnd {α β : Type} (m : M α) (f : α → M β) : M.calm (m >>= f) = (M.calm m >>= fun a => M.calm (f a)) := rfl
@[simp] theorem sp_calm_any (c : Int) : M.calm (M.anyI c) = M.anyI c := rfl
@[simp] theorem sp_seq_nx (ρ : List SD) (f : List SD → M Out) : seqM (pure (.nx ρ)) f = f ρ := rfl
@[simp] theorem sp_seq_rt (x : SD) (f : List SD → M Out) : seqM (pure (.rt x)) f = pure (.rt x) := rfl
@[simp] theorem sp_seq_bnd {α : Type} (m : M α) (g : α → M Out) (f : List SD → M Out) : seqM (m >>= g) f = (m >>= fun a => seqM (g a) f) := rfl
@[simp] theorem sp_get0 (x : PyData) (r : List SD) : getS (.d x :: r) 0 = some (.d x) := rfl
@[simp] theorem sp_get0s (r : List SD) : getS (.src :: r) 0 = some .src := rfl
@[simp] theorem sp_get0o (x : List PyData) (r : List SD) : getS (.own x :: r) 0 = some (.own x) := rfl
@[simp] theorem sp_getS (x : SD) (r : List SD) (i : Nat) : getS (x :: r) (i + 1) = getS r i := rfl
@[simp] theorem sp_get1 (a : SD) (r : List SD) : getS (a :: r) 1 = getS r 0 := rfl
@[simp] theorem sp_get2 (a b : SD) (r : List SD) : getS (a :: b :: r) 2 = getS r 0 := rfl
@[simp] theorem sp_get3 (a b c : SD) (r : List SD) : getS (a :: b :: c :: r) 3 = getS r 0 := rfl
@[simp] theorem sp_get4 (a b c d : SD) (r : List SD) : getS (a :: b :: c :: d :: r) 4 = getS r 0 := rfl
@[simp] theorem sp_get5 (a b c d e : SD) (r : List SD) : getS (a :: b :: c :: d :: e :: r) 5 = getS r 0 := rfl
@[simp] theorem sp_get6 (a b c d e f : SD) (r : List SD) : getS (a :: b :: c :: d :: e :: f :: r) 6 = getS r 0 := rfl
@[simp] theorem sp_get7 (a b c d e f g : SD) (r : List SD) : getS (a :: b :: c :: d :: e :: f :: g :: r) 7 = getS r 0 := rfl
@[simp] theorem sp_get8 (a b c d e f g h : SD) (r : List SD) : getS (a :: b :: c :: d :: e :: f :: g :: h :: r) 8 = getS r 0 := rfl
@[simp] theorem sp_get9 (a b c d e f g h i : SD) (r : List SD) : getS (a :: b :: c :: d :: e :: f :: g :: h :: i :: r) 9 = getS r 0 := rfl
@[simp] theorem sp_at0 {α : Type} (x : α) (xs : List α) : atI (x :: xs) 0 = some x := by simp [atI, ixN]
@[simp] theorem sp_at1 {α : Type} (x y : α) (xs : List α) : atI (x :: y :: xs) 1 = some y := by
  unfold atI ixN
  rw [if_pos (by omega), if_pos (by simp only [List.length_cons]; omega)]
  rfl
@[simp] theorem sp_at2 {α : Type} (x y z : α) (xs : List α) : atI (x :: y :: z :: xs) 2 = some z := by
  unfold atI ixN
  rw [if_pos (by omega), if_pos (by simp only [List.length_cons]; omega)]
  rfl
@[simp] theorem sp_at3 {α : Type} (x y z w : α) (xs : List α) : atI (x :: y :: z :: w :: xs) 3 = some w := by
  unfold atI ixN
  rw [if_pos (by omega), if_pos (by simp only [List.length_cons]; omega)]
  rfl
@[simp] theorem sp_ixT (xs : List PyData) (i : Int) : gIx (.d (.tuple xs)) (.d (.int i)) = (atI xs i).map SD.d := rfl
@[simp] theorem sp_ixL (xs : List PyData) (i : Int) : gIx (.d (.list xs)) (.d (.int i)) = (atI xs i).map SD.d := rfl
@[simp] theorem sp_ixO (xs : List PyData) (i : Int) : gIx (.own xs) (.d (.int i)) = (atI xs i).map SD.d := rfl
@[simp] theorem sp_ixF0 (p : Fr) : gIx (dF p) (.d (.int 0)) = some (dI p.1) := rfl
@[simp] theorem sp_ixF1 (p : Fr) : gIx (dF p) (.d (.int 1)) = some (dI p.2) := by simp [dF, fr]
@[simp] theorem sp_plain (x : PyData) : plain (.d x) = some (.d x) := rfl
@[simp] theorem sp_plainS : plain .src = some .src := rfl
@[simp] theorem sp_asB (b : Bool) : asB (.d (.bool b)) = some b := rfl
@[simp] theorem sp_asI (i : Int) : asI (.d (.int i)) = some i := rfl
@[simp] theorem sp_asD (x : PyData) : asD (.d x) = some x := rfl
@[simp] theorem sp_truB (b : Bool) : truD (.d (.bool b)) = some b := rfl
@[simp] theorem sp_truI (i : Int) : truD (.d (.int i)) = some (i != 0) := rfl
@[simp] theorem sp_truL (xs : List PyData) : truD (.d (.list xs)) = some (!xs.isEmpty) := rfl
@[simp] theorem sp_add (i j : Int) : gAdd (.d (.int i)) (.d (.int j)) = some (dI (i + j)) := rfl
@[simp] theorem sp_sub (i j : Int) : gSub (.d (.int i)) (.d (.int j)) = some (dI (i - j)) := rfl
@[simp] theorem sp_neg (i : Int) : gNeg (.d (.int i)) = some (dI (-i)) := rfl
@[simp] theorem sp_lt (i j : Int) : gLt (.d (.int i)) (.d (.int j)) = some (dB (decide (i < j))) := rfl
@[simp] theorem sp_le (i j : Int) : gLe (.d (.int i)) (.d (.int j)) = some (dB (decide (i ≤ j))) := rfl
@[simp] theorem sp_gt (i j : Int) : gGt (.d (.int i)) (.d (.int j)) = some (dB (decide (j < i))) := rfl
@[simp] theorem sp_ge (i j : Int) : gGe (.d (.int i)) (.d (.int j)) = some (dB (decide (j ≤ i))) := rfl
@[simp] theorem sp_leS (i j : Str) : gLe (.d (.str i)) (.d (.str j)) = some (dB (!ltS j i)) := rfl
@[simp] theorem sp_abs (i : Int) : bAbs [.d (.int i)] = pure (dI (if i < 0 then -i else i)) := rfl
@[simp] theorem sp_len_l (xs : List PyData) : bLen [.d (.list xs)] = pure (dI xs.length) := rfl
@[simp] theorem sp_len_t (xs : List PyData) : bLen [.d (.tuple xs)] = pure (dI xs.length) := rfl
@[simp] theorem sp_len_o (xs : List PyData) : bLen [.own xs] = pure (dI xs.length) := rfl
@[simp] theorem sp_call1 (g : List SD → M SD) (x : PyData) : callM 1 g [.d x] = g [.d x] := rfl
@[simp] theorem sp_call2 (g : List SD → M SD) (x y : PyData) : callM 2 g [.d x, .d y] = g [.d x, .d y] := rfl
@[simp] theorem sp_call2s (g : List SD → M SD) (y : PyData) : callM 2 g [.src, .d y] = g [.src, .d y] := rfl
@[simp] theorem sp_call3 (g : List SD → M SD) (x y z : PyData) : callM 3 g [.d x, .d y, .d z] = g [.d x, .d y, .d z] := rfl
@[simp] theorem sp_call3s (g : List SD → M SD) (y z : PyData) : callM 3 g [.src, .d y, .d z] = g [.src, .d y, .d z] := rfl
@[simp] theorem sp_call4 (g : List SD → M SD) (x y z w : PyData) : callM 4 g [.d x, .d y, .d z, .d w] = g [.d x, .d y, .d z, .d w] := rfl
@[simp] theorem sp_call1s (g : List SD → M SD) : callM 1 g [.src] = g [.src] := rfl
@[simp] theorem sp_allD_nil : allD [] = some [] := rfl
@[simp] theorem sp_allD_cons (x : PyData) (r : List SD) : allD (.d x :: r) = (allD r).map (x :: ·) := rfl
@[simp] theorem sp_eqI (i j : Int) : gEq (.d (.int i)) (.d (.int j)) = some (dB (decide (i = j))) := rfl
@[simp] theorem sp_neI (i j : Int) : gNe (.d (.int i)) (.d (.int j)) = some (dB (!decide (i = j))) := rfl
@[simp] theorem sp_defM (m : Nat) (U : List SD → M Out) (xs : List SD) : defM m U xs = (U (xs ++ List.replicate (m - xs.length) .no) >>= fun o => match o with
  | .rt y => pure y
  | .nx _ => pure (.d .none)
  | _ => M.fail) := rfl
end Dd
namespace Dd
open PySem PySem.Spec PyProof.Rows L2
def asTx : SD → Option Str
  | .d (.str a) => some a
  | _ => none
theorem asTx_eq {x : SD} {a : Str} (h : asTx x = some a) : x = .d (.str a) := by
  unfold asTx at h
  split at h
  · cases h; rfl
  · cases h
theorem rp_strs {K : PySem.W.Frag} {S : List Addr} {H : Hp} : ∀ ys : List Str, RpAll K S H (ys.map V.str) (ys.map PyData.str)
  | [] => .nil
  | y :: ys => .cons (.str y) (rp_strs ys)
section
variable {X : Cx} {EX : L2.St → XK} {o e : Expr} {apos pos : Pos} {To Te : List SD → M SD}
theorem m1_imp {r : V → List V → Hp → VK → Prop} {g : Str → SD → Option SD} (hr : ∀ {W : Wd} {H : Hp} {w : V} {a : Str} {y z : SD} {Q : VK}, W.Ok H → RV X.K W H w y → g a y = some z → Post X.K W H Q z → r (.str a) [w] H Q) (σ : L2.St) (H : Hp) (Q : VK)
    (h : dt X.K EX (fun ρ => do let x ← To ρ; let a ← M.lift (asTx x); let y ← Te ρ; M.lift (g a y)) σ H Q) : tM1 r (dt X.K EX To) (dt X.K EX Te) σ H Q := by
  obtain ⟨W, ρ, ok, rel, h⟩ := h
  refine ⟨W, ρ, ok, rel, (To ρ).mono (fun x h1 v H1 k1 ok1 r1 => ?_) (fun e h => h) h⟩
  obtain ⟨a, ha, h1⟩ := run_lift.mp h1
  obtain rfl := asTx_eq ha
  cases r1
  refine ⟨⟨a, rfl⟩, W, ρ, ok1, rel.keep ok k1, (Te ρ).mono (fun y h2 w H2 k2 ok2 r2 => ?_) (fun e h => XP.trans ok k1 ok1 h) h1⟩
  obtain ⟨z, hz, p⟩ := run_lift.mp h2
  exact hr ok2 r2 hz (Post.trans (k1.trans k2) p)
def gSplit (a : Str) : SD → Option SD
  | .d (.str b) => if !(b.length == 0) && decide (a.length + 2 ≤ sizeLine) then some (.d (.list ((Txt.split a b).map PyData.str))) else none
  | _ => none
theorem de_split (ho : DE X EX o To) (he : DE X EX e Te) (hs : starEach [e] X.env = [(false, eval e X.env)] := by rfl) (hb : attributeBase o "split" X.env (eval o X.env) = eval o X.env := by rfl) (hl : (apos.endLine == pos.line) = true := by rfl) :
    DE X EX (.Call (.Attribute o "split" apos) [e] [] pos) (fun ρ => do let x ← To ρ; let a ← M.lift (asTx x); let y ← Te ρ; M.lift (gSplit a y)) := by
  refine pe_imp (pe_split ho he hs hb hl) (m1_imp fun {W H w a y z Q} ok r2 h q => ?_)
  unfold gSplit at h
  split at h
  · split at h
    · rename_i c
      cases h; cases r2
      obtain ⟨c1, c2⟩ := Bool.and_eq_true_iff.mp c
      refine ⟨_, _, rfl, rfl, by simpa using c1, of_decide_eq_true c2, fun p hp => new_lst ok hp (rp_strs _) q⟩
    · cases h
  · cases h
def gPart (a : Str) : SD → Option SD
  | .d (.str b) => if !(b.length == 0) && decide (a.length ≤ sizeLine) then some (.d (.tuple [.str (Txt.partition a b).1, .str (Txt.partition a b).2.1, .str (Txt.partition a b).2.2])) else none
  | _ => none
theorem de_part (ho : DE X EX o To) (he : DE X EX e Te) (hs : starEach [e] X.env = [(false, eval e X.env)] := by rfl) (hb : attributeBase o "partition" X.env (eval o X.env) = eval o X.env := by rfl) (hl : (apos.endLine == pos.line) = true := by rfl) :
    DE X EX (.Call (.Attribute o "partition" apos) [e] [] pos) (fun ρ => do let x ← To ρ; let a ← M.lift (asTx x); let y ← Te ρ; M.lift (gPart a y)) := by
  refine pe_imp (pe_partition ho he hs hb hl) (m1_imp fun {W H w a y z Q} ok r2 h q => ?_)
  unfold gPart at h
  split at h
  · split at h
    · rename_i c
      cases h; cases r2
      obtain ⟨c1, c2⟩ := Bool.and_eq_true_iff.mp c
      exact ⟨_, _, rfl, rfl, by simpa using c1, of_decide_eq_true c2, fun p hp => new_tup ok hp (.cons (.str _) (.cons (.str _) (.cons (.str _) .nil))) q⟩
    · cases h
  · cases h
def gJoin (a : Str) : SD → Option SD
  | .d (.list ds) => (strsD ds).bind fun ys => if decide ((ys.map (·.length)).sum + ys.length * a.length ≤ 16777216) then some (.d (.str (Txt.join a ys))) else none
  | .d (.tuple ds) => (strsD ds).bind fun ys => if decide ((ys.map (·.length)).sum + ys.length * a.length ≤ 16777216) then some (.d (.str (Txt.join a ys))) else none
  | _ => none
theorem de_join (ho : DE X EX o To) (he : DE X EX e Te) (hs : starEach [e] X.env = [(false, eval e X.env)] := by rfl) (hb : attributeBase o "join" X.env (eval o X.env) = eval o X.env := by rfl) (hl : (apos.endLine == pos.line) = true := by rfl) :
    DE X EX (.Call (.Attribute o "join" apos) [e] [] pos) (fun ρ => do let x ← To ρ; let a ← M.lift (asTx x); let y ← Te ρ; M.lift (gJoin a y)) := by
  refine pe_imp (pe_join ho he hs hb hl) (m1_imp fun {W H w a y z Q} ok r2 h q => ?_)
  unfold gJoin at h
  split at h
  · obtain ⟨ys, hy, h⟩ := Option.bind_eq_some_iff.mp h
    split at h
    · rename_i c
      cases h
      cases r2 with | lst l t =>
      have e := strs_rp t hy
      subst e
      exact ⟨_, _, ys, rfl, rfl, .inl l.sq, of_decide_eq_true c, q.here ok (.str _)⟩
    · cases h
  · obtain ⟨ys, hy, h⟩ := Option.bind_eq_some_iff.mp h
    split at h
    · rename_i c
      cases h
      cases r2 with | tup l t =>
      have e := strs_rp t hy
      subst e
      exact ⟨_, _, ys, rfl, rfl, .inr l, of_decide_eq_true c, q.here ok (.str _)⟩
    · cases h
  · cases h
def gRmPre (a : Str) : SD → Option SD
  | .d (.str b) => if decide (a.length ≤ sizeLine) then some (.d (.str (Txt.removeprefix a b))) else none
  | _ => none
theorem de_rmpre (ho : DE X EX o To) (he : DE X EX e Te) (hs : starEach [e] X.env = [(false, eval e X.env)] := by rfl) (hb : attributeBase o "removeprefix" X.env (eval o X.env) = eval o X.env := by rfl) (hl : (apos.endLine == pos.line) = true := by rfl) :
    DE X EX (.Call (.Attribute o "removeprefix" apos) [e] [] pos) (fun ρ => do let x ← To ρ; let a ← M.lift (asTx x); let y ← Te ρ; M.lift (gRmPre a y)) := by
  refine pe_imp (pe_m1 PySem.F.slot_str_removeprefix PySem.F.type_str_removeprefix mt_removeprefix ho he hs hb hl) (m1_imp fun {W H w a y z Q} ok r2 h q => ?_)
  unfold gRmPre at h
  split at h
  · split at h
    · rename_i c
      cases h; cases r2
      exact ⟨_, _, rfl, rfl, of_decide_eq_true c, q.here ok (.str _)⟩
    · cases h
  · cases h
end
def bIntT : List SD → M SD
  | [.d (.str a)] => do let n ← M.lift (PySem.intText? a); M.when (decide (a.length ≤ 640)) (pure (.d (.int n)))
  | _ => M.fail
theorem br_intT {X : Cx} : BR X (.type "int") bIntT := by
  refine ⟨_, call_int_str, fun {W H vs xs Q E} ok r h => ?_⟩
  unfold bIntT at h
  split at h
  · obtain ⟨v, rfl, rv⟩ := pair1 r
    cases rv
    obtain ⟨n, hn, h⟩ := run_lift.mp h
    obtain ⟨c, h⟩ := run_when.mp h
    exact ⟨_, n, rfl, hn, of_decide_eq_true c, Post.here (K := X.K) ok h (.int _)⟩
  · exact h.elim
def bStrI : List SD → M SD
  | [.d (.int i)] => M.when (decide (i.natAbs.log2 < 1920)) (pure (.d (.str (Str.ofString (toString i)))))
  | _ => M.fail
theorem br_strI {X : Cx} : BR X (.type "str") bStrI := by
  refine ⟨_, call_str_int, fun {W H vs xs Q E} ok r h => ?_⟩
  unfold bStrI at h
  split at h
  · obtain ⟨v, rfl, rv⟩ := pair1 r
    cases rv
    obtain ⟨c, h⟩ := run_when.mp h
    exact ⟨_, rfl, of_decide_eq_true c, Post.here (K := X.K) ok h (.str _)⟩
  · exact h.elim
end Dd
namespace Dd
open PySem PySem.Spec PyProof.Rows L2
def seqD : SD → Option (List PyData)
  | .d (.list ds) => some ds
  | .d (.tuple ds) => some ds
  | _ => none
theorem pr_dat {K : PySem.W.Frag} {W : Wd} {H : Hp} : ∀ {vs : List V} {ds : List PyData}, RpAll K W.S H vs ds → Paired (RV K W H) vs (ds.map SD.d)
  | _, _, .nil => .nil
  | _, _, .cons a t => .cons a (pr_dat t)
theorem pr_app {α β : Type} {R : α → β → Prop} : ∀ {a : List α} {b : List β} {c : List α} {d : List β}, Paired R a b → Paired R c d → Paired R (a ++ c) (b ++ d)
  | _, _, _, _, .nil, h => h
  | _, _, _, _, .cons x t, h => .cons x (pr_app t h)
section
variable {X : Cx} {EX : L2.St → XK} {e : Expr} {es : List Expr} {p : Pos} {T : List SD → M SD} {Ts : List SD → M (List SD)}
theorem da_star (he : DE X EX e T) (hr : DA X EX es Ts) : DA X EX (.Starred e p :: es) (fun ρ => do let x ← T ρ; let ds ← M.lift (seqD x); let xs ← Ts ρ; pure (ds.map SD.d ++ xs)) := by
  refine pa_imp (StX.pa_star he hr) fun σ H Q ⟨W, ρ, ok, rel, h⟩ => ?_
  refine ⟨W, ρ, ok, rel, (T ρ).mono (fun x h1 v H1 k1 ok1 r1 => ?_) (fun e h => h) h⟩
  obtain ⟨ds, hd, h1⟩ := run_lift.mp h1
  obtain ⟨a, xs, rfl, sq, t⟩ : ∃ a xs, v = V.ref a ∧ (SqT X.K H1 a xs ∨ SqL X.K H1 a xs) ∧ RpAll X.K W.S H1 xs ds := by
    unfold seqD at hd
    split at hd
    · cases hd
      cases r1 with | lst l t => exact ⟨_, _, rfl, .inr l.sq, t⟩
    · cases hd
      cases r1 with | tup l t => exact ⟨_, _, rfl, .inl l, t⟩
    · cases hd
  refine ⟨a, xs, rfl, sq, W, ρ, ok1, rel.keep ok k1, (Ts ρ).mono (fun ys h2 ws H2 k2 ok2 r2 => ?_) (fun e h => XP.trans ok k1 ok1 h) h1⟩
  exact h2 (xs ++ ws) H2 (k1.trans k2) ok2 (pr_app (paired_keep ok1 k2 (pr_dat t)) r2)
end
end Dd
namespace Dd
open PySem PySem.Spec PyProof.Rows L2
section
variable {X : Cx} {EX : L2.St → XK} {elt tg iter : Expr} {ifs : List Expr} {scope : Scope} {own : List (Str × Nat)} {pos : Pos} {Ti : List SD → M (List SD)} {B : List SD → M Bool} {T : List SD → M SD} {t : Tg}
theorem ds_setLO {E : XK} {i : Nat} {y : Str} {py spos : Pos} (hc : X.calm = true) (hN : X.N.Nodup) (hy : X.N[i]? = some y) (hyl : X.env.scope.names.lookup y = some .local)
    (hsw : swapsWith (.ListComp elt [⟨tg, iter, ifs, 0⟩] scope pos) (some (.Name y py)) spos.line X.env = pure true) (hi : DI X (fun _ => E) tg iter Ti) (ok : BlkOk X.N X.env.scope scope own) (hin : tgIn t (own.map (·.2)) = true)
    (hg : ∀ (s : Shared) (H : Hp) (C : Addr) (cl : List (Str × Addr)) (fp : List Addr), PG (X.blk s H scope (compEnvC scope cl C X.env) fp) tg (gOf X.K t)) (ht : ∀ (s : Shared) (H : Hp) (C : Addr) (cl : List (Str × Addr)) (fp : List Addr), DTs (X.blk s H scope (compEnvC scope cl C X.env) fp) ifs B)
    (he : ∀ (s : Shared) (H : Hp) (C : Addr) (cl : List (Str × Addr)) (fp : List Addr), DE (X.blk s H scope (compEnvC scope cl C X.env) fp) (fun _ => E0) elt T) (hs : ∀ x, foldedSetIterable iter X.env x = pure x := by intro _; rfl) :
    DS X E (.Assign [.Name y py] (.ListComp elt [⟨tg, iter, ifs, 0⟩] scope pos) spos) (fun ρ => do let its ← Ti ρ; let ds ← lcM t B T (wipeD ρ (own.map (·.2))) its []; pure (.nx (ρ.set i (.own ds)))) := by
  refine ps_imp (ps_setLc (tt := dtt X.K (fun _ => E0) B) (te := dt X.K (fun _ => E0) T) hc hN hy hyl hsw hi ok hg ht he hs) fun D σ H ⟨W0, H0, W, ρ, s, h⟩ => ?_
  refine lc_imp (EX := fun _ => E) (Ti := Ti) hin (fun _ _ _ h => h) σ H _ ⟨W, ρ, s.ok, s.rel, M.mono _ (fun ds q => ?_) (fun _ z => s.xp z) h⟩
  intro p xs H' k' ok' fr e' r'
  refine q (W.add p) _ H' (add_stpF s.ok k' fr) (s.newF k' fr ok' rfl ⟨p, xs, rfl, List.mem_cons_self, fun l z => ?_, e', r'⟩)
  obtain ⟨o, e2, _, nt⟩ := s.ok.there p (s.ok.draw p l z).1
  exact fr o e2 nt
end
end Dd
namespace PySem
open Sem (wp)
section
variable {prog : Program} {w : World} {K : Type} [DecidableEq K] {kd : KeyKind prog w K} {A : Around} {E : Value → Shared → Prop} {s : Shared}
end
end PySem
namespace Dd
open PySem PySem.Spec PyProof.Rows L2
def tMrg (tm tk tv : TE) : TE := fun σ H Q => ∀ p, H p = none → tm σ (upd H p (.dK [])) fun x H1 => ∃ (a : Addr) (kvs : List (Key × V)), x = .ref a ∧ a ≠ p ∧ H1 p = some (.dK []) ∧ Rd H1 a (.dK kvs) ∧ kvs.length + 16 ≤ sizeLine ∧
  ∀ p2, p2 ≠ p → upd H1 p (.dK (mergeK [] kvs)) p2 = none → tPairs [(tk, tv)] σ (upd (upd H1 p (.dK (mergeK [] kvs))) p2 (.dK [])) fun ps H2 => ∃ kv2 : List (Key × V), ps = kv2.map (fun kv => (kV kv.1, kv.2)) ∧ kv2.length ≤ 15 ∧ H2 p2 = some (.dK []) ∧ H2 p = some (.dK (mergeK [] kvs)) ∧
    Q (.ref p) (upd (upd H2 p2 (.dK (mergeK [] kv2))) p (.dK (mergeK (mergeK [] kvs) (mergeK [] kv2))))
def kvsOf : List (PyData × PyData) → Option (List (Key × PyData))
  | [] => some []
  | (k, d) :: r => (keyOf k).bind fun q => (kvsOf r).map fun t => (q, d) :: t
def kvS : SD → Option (List (Key × PyData))
  | .d (.dict ds) => kvsOf ds
  | _ => none
section
variable {K : PySem.W.Frag} {W : Wd} {H H1 : Hp} {p : Addr}
end
section
variable {X : Cx} {EX : L2.St → XK} {m k v : Expr} {pos : Pos} {Tm Tk Tv : List SD → M SD}
end
end Dd
namespace Dd
open PySem PySem.Spec PyProof.Rows L2
def asLs : SD → Option (List PyData)
  | .d (.list l) => some l
  | _ => none
section
variable {X : Cx} {E : XK} {o e : Expr} {pos apos cpos : Pos} {T : List SD → M SD} {x : Str}
end
end Dd
namespace Dd
open PySem PySem.Spec PyProof.Rows L2
def gAddE : SD → SD → Option SD
  | .d (.tuple a), .d (.tuple b) => if szOk (a.length + b.length) then some (.d (.tuple (a ++ b))) else none
  | _, _ => none
def rCat0 (K : PySem.W.Frag) : R2 := fun x y H Q => ∃ a b ys, x = .ref a ∧ y = .ref b ∧ SqT K H a [] ∧ SqT K H b ys ∧ ys.length ≤ sizeLine ∧ Q (.ref b) H
section
variable {X : Cx} {EX : L2.St → XK} {a b : Expr} {pos : Pos} {Ta Tb : List SD → M SD}
end
end Dd
namespace Dd
open PySem PySem.Spec PyProof.Rows L2
def RO (K : PySem.W.Frag) (W0 : Wd) (H0 H' : Hp) (v : V) : SD → Prop
  | .own ds => ∃ q xs, v = .ref q ∧ Fr0 H0 q ∧ H' q = some (.lst xs) ∧ RpAll K (W0.add q).S H' xs ds
  | .ownD ds => ∃ q kvs, v = .ref q ∧ Fr0 H0 q ∧ H' q = some (.dK kvs) ∧ PKV K (W0.add q).S H' kvs ds
  | .mutD _ _ => False
  | .ownL _ => False
  | x => RV K W0 H' v x
def OutO (K : PySem.W.Frag) (W0 : Wd) (H0 : Hp) (Q : VK) (r : SD) : Prop := ∀ v H', Kp W0 H0 H' → W0.Ok H' → RO K W0 H0 H' v r → Q v H'
def dso (K : PySem.W.Frag) (E : XK) (T : List SD → M SD) : TS := fun D σ H => ∃ W0 H0 W ρ, SSt K W0 H0 W H σ ρ ∧ (T ρ).run (OutO K W0 H0 D.rt) (XP K W0 H0 E)
abbrev DSO (X : Cx) (E : XK) (st : List Stmt) (T : List SD → M SD) : Prop := PSs X st (dso X.K E T)
def goO (o : Out) (T : List SD → M SD) : M SD := match o with
  | .nx ρ => T ρ
  | _ => M.fail
section
variable {X : Cx} {E : XK} {st : Stmt} {sts : List Stmt} {c e1 e2 : Expr} {pos p : Pos} {B : List SD → M Bool} {U : List SD → M Out} {R : List SD → M SD}
end
def spO (K : PySem.W.Frag) (n : Nat) (g : List SD → M SD) : Sp := fun vs H Q E => ∃ W xs, W.Ok H ∧ Paired (RV K W H) vs xs ∧ (∀ x ∈ xs, isOwn x = false) ∧ xs.length = n ∧ (g xs).run (OutO K W H Q) (XP K W H E) ∧ W.tab = theTab K
def defO (m : Nat) (T : List SD → M SD) (xs : List SD) : M SD := T (xs ++ List.replicate (m - xs.length) .no)
section
variable (P : Program) (w : World) (K : PySem.W.Frag) (mg : Str → Option Value) (base : Heap)
def OkO (k : Nat) (x : Str) (n : Nat) (g : List SD → M SD) : Prop := ∃ f fd ps, mg x = some (.ref f) ∧ PySem.W.keepIn K (.ref f) = true ∧ L2.Binds K fd ps [] ∧ FnOk P w K mg base (L2.CX P w) k f fd ps (spO K n g)
end
section
variable {P : Program} {w : World} {K : PySem.W.Frag} {mg : Str → Option Value} {base : Heap}
end
def callO (n : Nat) (g : List SD → M SD) (xs : List SD) : M SD := M.when (noOwn xs && decide (xs.length = n)) (M.calm (g xs))
def ownOnly : SD → Option SD
  | .own ds => some (.own ds)
  | .d x => some (.d x)
  | .ownD ds => some (.ownD ds)
  | _ => none
section
variable {X : Cx} {E : XK} {e : Expr} {es : List Expr} {x y : Str} {pos pos' p p2 : Pos} {Ts : List SD → M (List SD)} {n k : Nat} {g : List SD → M SD}
end
section
variable {X : Cx}
def gIsNotO : SD → SD → Option SD
  | .own _, .d .none => some (dB true)
  | .d x, .d .none => some (dB (!isNone (.d x)))
  | _, _ => none
end
end Dd
namespace Dd
open PySem PySem.Spec PyProof.Rows L2
section
variable {X : Cx} {elt tg iter : Expr} {ifs : List Expr} {scope : Scope} {own : List (Str × Nat)} {pos pos2 : Pos} {Ti : List SD → M (List SD)} {B : List SD → M Bool} {T : List SD → M SD} {t : Tg}
end
def gCatO : SD → SD → Option (List PyData)
  | .own a, .d (.list b) => if szOk (a.length + b.length) then some (a ++ b) else none
  | _, _ => none
section
variable {X : Cx} {E : XK} {e1 e2 : Expr} {x : Str} {pos p : Pos} {T1 T2 : List SD → M SD}
end
end Dd
namespace Dd
open PySem PySem.Spec PyProof.Rows L2
def gRepO : SD → SD → Option (List PyData)
  | .d (.list ds), .d (.int k) => if (decide (0 ≤ k) && decide (k ≤ 1000) && szOk (ds.length * k.toNat)) = true then some (List.replicate k.toNat ds).flatten else none
  | _, _ => none
section
variable {X : Cx} {E : XK} {e1 e2 : Expr} {x : Str} {pos p : Pos} {T1 T2 : List SD → M SD}
theorem ds_repO {i : Nat} {pos' : Pos} (hN : X.N.Nodup) (hi : X.N[i]? = some x) (hx : Loc X.env.scope x) (ha : DE X (fun _ => E) e1 T1) (hb : DE X (fun _ => E) e2 T2) (hs : swapsWith (.BinOp e1 .Mult e2 p) (some (.Name x pos')) pos.line X.env = pure false := by rfl)
    (hf : X.fn x = true ∨ X.env.scope.names.lookup x = some .local := by first | exact .inl rfl | exact .inr rfl | assumption) : DS X E (.Assign [.Name x pos'] (.BinOp e1 .Mult e2 p) pos) (fun ρ => do let x ← T1 ρ; let y ← T2 ρ; let ds ← M.lift (gRepO x y); pure (.nx (ρ.set i (.own ds)))) := by
  refine ps_imp (ps_set hN hi hx (pe_op op_rep ha hb) hs hf) fun D σ H ⟨W0, H0, W, ρ, s, h⟩ => ?_
  refine ⟨W, ρ, s.ok, s.rel, M.mono _ (fun y h1 v H1 k1 ok1 r1 => ?_) (fun _ z => s.xp z) h⟩
  have s1 := s.keep k1 ok1
  refine ⟨W, ρ, ok1, s1.rel, M.mono _ (fun z h2 w H2 k2 ok2 r2 => ?_) (fun _ z => s1.xp z) h1⟩
  have s2 := s1.keep k2 ok2
  obtain ⟨ds, hz, q⟩ := run_lift.mp h2
  have r1 := r1.keep ok1 k2
  unfold gRepO at hz
  split at hz
  · rename_i dsX kX _
    split at hz
    · rename_i s'
      cases hz
      cases r2
      cases r1 with | @lst _ xs _ l1 t1 =>
      obtain ⟨s', s3⟩ := Bool.and_eq_true_iff.mp s'
      obtain ⟨c1, c2⟩ := Bool.and_eq_true_iff.mp s'
      have c1 := of_decide_eq_true c1
      have c2 := of_decide_eq_true c2
      refine ⟨_, _, _, rfl, rfl, l1.1, by omega, by omega, by rw [t1.length]; exact szOk.le s3, fun p hp => ?_⟩
      have sm := Dw.same_new (o := .lst (List.replicate kX.toNat xs).flatten) hp
      have k3 := Kp.same (W := W) sm
      refine q (W.add p) _ _ (((k1.stp s.ok).trans (k2.stp ok1)).trans (add_stp ok2 k3 hp)) (s2.new k3 hp (add_ok ok2 hp ⟨(fun z => z), nt_lst⟩) rfl ⟨p, _, rfl, List.mem_cons_self, fun l z => ?_, upd_same, RpAll.step (add_stp ok2 k3 hp) (rpAll_rep t1 _)⟩)
      obtain ⟨o, e, _⟩ := ok2.there p (ok2.draw p l z).1
      rw [hp] at e; cases e
    · cases hz
  · cases hz
end
end Dd
namespace Dd
open PySem PySem.Spec PyProof.Rows L2
def dsw (K : PySem.W.Frag) (Wx : WX) (T : List SD → M Out) : TS := fun D σ H => ∃ W0 H0 W ρ, SSt K W0 H0 W H σ ρ ∧ (T ρ).run (OutP K W0 H0 W H D) (XP K W H (WE Wx σ))
abbrev DSW (X : Cx) (Wx : WX) (st : Stmt) (T : List SD → M Out) : Prop := PS X st (dsw X.K Wx T)
abbrev DSWs (X : Cx) (Wx : WX) (st : List Stmt) (T : List SD → M Out) : Prop := PSs X st (dsw X.K Wx T)
section
variable {X : Cx} {Wx : WX} {st : Stmt} {rest : List Stmt} {e c : Expr} {a b : List Stmt} {pos : Pos} {T : List SD → M SD} {U1 U2 : List SD → M Out} {B : List SD → M Bool}
theorem OutP.stp {K : PySem.W.Frag} {W0 W : Wd} {H0 H H' : Hp} {D : Ends} {o : Out} (st : Stp W.S W.S H H') (q : OutP K W0 H0 W H D o) : OutP K W0 H0 W H' D o := by
  cases o with
  | nx ρ => exact fun W' σ' H2 st2 s2 => q W' σ' H2 (st.trans st2) s2
  | bk ρ => exact fun W' σ' H2 st2 s2 => q W' σ' H2 (st.trans st2) s2
  | ct ρ => exact fun W' σ' H2 st2 s2 => q W' σ' H2 (st.trans st2) s2
  | rt x => exact q
theorem dsw_expr (h : DE X (WE Wx) e T) (hs : swapsWith e none pos.line X.env = pure false := by rfl) : DSW X Wx (.Expr e pos) (fun ρ => do let _ ← T ρ; pure (.nx ρ)) := by
  refine ps_imp (ps_expr h hs) fun D σ H ⟨W0, H0, W, ρ, s, run⟩ => ?_
  refine ⟨W, ρ, s.ok, s.rel, (T ρ).mono (fun x q v H' k ok r => ?_) (fun _ q => q) run⟩
  exact q W _ H' (k.stp s.ok) (s.keep k ok)
theorem dsws_one (h : DSW X Wx st U1) : DSWs X Wx [st] U1 := pss_one h
def seqC (m : M Out) (f : List SD → M Out) : M Out := do
  let o ← m
  match o with
  | .nx ρ => M.calm (f ρ)
  | o => pure o
end
def tryS (errs : List Str) (isA : Str → Str → Bool) (i : Nat) (l : List HK) (m : M Out) (ρ : List SD) : M Out :=
  ⟨fun P E => i < ρ.length ∧ m.run P (fun e => e.C ∈ errs ∧ handle isA i ρ P E e l), fun h g p => ⟨p.1, m.mono h (fun e q => ⟨q.1, handle_mono h g q.2⟩) p.2⟩⟩
section
variable {X : Cx} {E : XK} {n : Str} {i : Nat} {errs hs : List Str} {isA : Str → Str → Bool} {body : List Stmt} {U : List SD → M Out}
theorem ds_tryS {c0 : ExceptHandler} {more : List ExceptHandler} {l : List HK} {pos : Pos} (F : ErrF X.K errs isA hs) (hstk : X.stack = X.env :: X.outer) (hfr : X.env.frame = some X.env.locals) (hN : X.N.Nodup) (hi : X.N[i]? = some n) (hln : X.env.kindOf n = some .local) (tk : Takes X (fun cls d _ H => E cls d H))
    (mgs : ∀ h ∈ l, ∃ D, X.mg h.cls = some (.ref D) ∧ PySem.W.nsIn X.K mainGlobals h.cls = some (some (.ref D)) ∧ h.cls ∈ hs)
    (hb : ∀ (W : WX) (pn : List (Addr × Obj)) (xe : Value → Shared → Prop), Takes (X.tr pn xe) W → PassesOwn (model X.prog X.w) X.A X.env xe → DSWs (X.tr pn xe) W body U) (cl : DCl X n i (c0 :: more) l) :
    DS X E (.Try body (c0 :: more) [] [] pos) (fun ρ => tryS errs isA i l (U ρ) ρ) := by
  obtain ⟨l', c', p'⟩ := cl_of cl mgs
  refine ps_imp (Dw.ps_try_all (tb := fun W => dsw X.K W U) hstk hfr hN hi hln tk hb c') fun D σ H ⟨W0, H0, W, ρ, s, run⟩ => ?_
  obtain ⟨li, run⟩ := run
  refine ⟨W0, H0, W, ρ, s, (U ρ).mono (fun o q => q) (fun ex q => ?_) run⟩
  intro C dx H' fs hC k ok nn hd ns r
  exact handle_all F s li q.1 hC k ok nn hd ns r p' q.2
end
end Dd
namespace Dd
open PySem PySem.Spec PyProof.Rows L2
section
variable {X : Cx} {EX : L2.St → XK} {e : Expr} {p p2 pos pos2 : Pos} {T : List SD → M SD}
theorem rp_range {K : PySem.W.Frag} {S : List Addr} {H : Hp} : ∀ (l : List Nat), RpAll K S H (l.map fun i : Nat => V.int (0 + (i : Int))) (l.map fun i : Nat => PyData.int (i : Int))
  | [] => .nil
  | i :: r => by
    rw [List.map_cons, List.map_cons]
    refine .cons ?_ (rp_range r)
    rw [Int.zero_add]
    exact .int _
theorem de_listRg (hc : X.calm = true) (hg : Gl X "list") (hm : X.mg "list" = none) (hg2 : Gl X "range") (hm2 : X.mg "range" = none) (he : DE X EX e T)
    (na : starEach [.Call (.Name "range" p2) [e] [] pos2] X.env = (false, eval (.Call (.Name "range" p2) [e] [] pos2) X.env) :: starEach [] X.env := by rfl) (na2 : starEach [e] X.env = (false, eval e X.env) :: starEach [] X.env := by rfl) :
    DE X EX (.Call (.Name "list" p) [.Call (.Name "range" p2) [e] [] pos2] [] pos) (fun ρ => do let x ← T ρ; let j ← M.lift (asI x); M.when (decide (0 ≤ j) && decide (j ≤ 100000)) (pure (.d (.list ((List.range j.toNat).map fun i : Nat => PyData.int (i : Int)))))) := by
  refine pe_imp (pe_listRg hc hg hm (prg_1 hg2 hm2 he na2) na) fun σ H Q ⟨W, ρ, ok, rel, h⟩ => ?_
  refine ⟨W, ρ, ok, rel, (T ρ).mono (fun x h1 v H1 k1 ok1 r1 => ?_) (fun e h => h) h⟩
  obtain ⟨j, hj, h1⟩ := run_lift.mp h1
  obtain ⟨c, h1⟩ := run_when.mp h1
  obtain ⟨c1, c2⟩ := Bool.and_eq_true_iff.mp c
  have c1 := of_decide_eq_true c1
  have c2 := of_decide_eq_true c2
  have ev : v = .int j := by
    unfold asI at hj
    split at hj
    · cases r1; cases hj; rfl
    · cases hj
  refine ⟨j, ev, RgOk.of_le (by decide) (by omega) (by decide) c1, fun q hq => ?_⟩
  have t : RpAll X.K W.S H1 (rgV 0 j) ((List.range j.toNat).map fun i : Nat => PyData.int (i : Int)) := by
    unfold rgV
    rw [Int.sub_zero]
    exact rp_range _
  exact new_lst ok1 hq t fun v H' k ok' r => h1 v H' (k1.trans k) ok' r
end
end Dd
namespace Dd
open PySem PySem.Spec PyProof.Rows L2
mutual
def noD : PyData → Bool
  | .tuple ds => noDA ds
  | .list ds => noDA ds
  | .dict _ => false
  | .none => true
  | .bool _ => true
  | .int _ => true
  | .str _ => true
def noDA : List PyData → Bool
  | [] => true
  | d :: r => noD d && noDA r
end
section
variable {K : PySem.W.Frag} {S0 S : List Addr} {H H2 : Hp}
mutual
theorem Rp.unh (kl : ∀ a xs, H a = some (.lst xs) → H2 a = some (.lst xs) ∧ a ∉ S) (kt : ∀ a o, H a = some o → Fix o → H2 a = some o) : ∀ {v : V} {d : PyData}, Dd.noD d = true → Rp K S0 H v d → Rp K S H2 v d
  | _, _, _, .non => .non
  | _, _, _, .bl b => .bl b
  | _, _, _, .int i => .int i
  | _, _, _, .str x => .str x
  | _, _, c, .lst l t => .lst (kl _ _ l.1) (RpAll.unh kl kt (by unfold Dd.noD at c; exact c) t)
  | _, _, c, .tup l t => .tup (by
      rcases l with (h | ⟨o, h⟩) | h
      · exact .inl (.inl (kt _ _ h trivial))
      · exact .inl (.inr ⟨o, kt _ _ h trivial⟩)
      · exact .inr h) (RpAll.unh kl kt (by unfold Dd.noD at c; exact c) t)
  | _, _, c, .dct l n t => by
    unfold Dd.noD at c
    cases c
theorem RpAll.unh (kl : ∀ a xs, H a = some (.lst xs) → H2 a = some (.lst xs) ∧ a ∉ S) (kt : ∀ a o, H a = some o → Fix o → H2 a = some o) : ∀ {v : List V} {d : List PyData}, Dd.noDA d = true → RpAll K S0 H v d → RpAll K S H2 v d
  | _, _, _, .nil => .nil
  | _, _, c, .cons h t => by
    unfold Dd.noDA at c
    obtain ⟨c1, c2⟩ := Bool.and_eq_true_iff.mp c
    exact .cons (Rp.unh kl kt c1 h) (RpAll.unh kl kt c2 t)
end
end
def tup0L : SD → Option (List PyData × List PyData)
  | .d (.tuple (.list l :: r)) => if (noDA l && noDA r) = true then some (l, r) else none
  | _ => none
def keepI (i : Nat) (is : List Nat) (ρ : List SD) : Option (List SD) := if (decide (i < ρ.length) && is.all fun i => match ρ[i]? with | some (.d d) => noL d | _ => false) = true then some (maskS is 0 ρ) else none
def away0 (H : Hp) (b : Addr) : Bool := match H b with | some (.lst _) => true | _ => false
def rtOnly (o : Out) : M Out := match o with
  | .rt y => pure (.rt y)
  | _ => M.fail
section
variable {X : Cx} {E : XK} {e o c : Expr} {x : Str} {pos pos' sp apos cpos p2 p3 ip : Pos} {kd : Nat} {T : List SD → M SD} {B : List SD → M Bool} {a sts : List Stmt} {V0 U : List SD → M Out}
end
section
variable {X : Cx} {E : XK} {x : Str} {pos p : Pos} {n k : Nat} {g : List SD → M SD}
end
end Dd
namespace Dd
open PySem PySem.Spec PyProof.Rows L2
abbrev Ob := List (Str × PyData)
structure SrD where
  cap : PyData
  now : Ob
  past : List Ob
  future : List Ob
abbrev Mem := List (Addr × SrD)
abbrev Ms := Mem × Bool
abbrev N (α : Type) := Ms → M (α × Ms)
def nPure {α : Type} (a : α) : N α := fun m => pure (a, m)
def nBind {α β : Type} (x : N α) (f : α → N β) : N β := fun m => x m >>= fun r => f r.1 r.2
def nLift {α : Type} (x : M α) : N α := fun m => (if m.2 = true then M.calm x else x) >>= fun a => pure (a, m)
def obNames : List Str := ["capacity", "now", "past", "future"]
def Obs (K : PySem.W.Frag) (S : List Addr) (H : Hp) (bs : List Addr) (os : List Ob) : Prop := Paired (fun b o => ObAt K S H "State" b o) bs os
def SrAt (K : PySem.W.Frag) (S : List Addr) (H : Hp) (a p q : Addr) (c : SrD) : Prop := ∃ C dx vc s ps qs, PySem.W.nsIn K mainGlobals "Store" = some (some (.ref C)) ∧ H a = some (.ins C dx (srFs vc s p q)) ∧ Rp K S H vc c.cap ∧ ObAt K S H "State" s c.now ∧
  H p = some (.lst (ps.map V.ref)) ∧ Obs K S H ps c.past ∧ H q = some (.lst (qs.map V.ref)) ∧ Obs K S H qs c.future
def MemL (K : PySem.W.Frag) (S : List Addr) (H : Hp) : Mem → List Addr → Prop
  | [], [] => True
  | (a, c) :: μ, a' :: p :: q :: F => a' = a ∧ SrAt K S H a p q c ∧ MemL K S H μ F
  | _, _ => False
structure MemOk (K : PySem.W.Frag) (W : Wd) (H : Hp) (μ : Mem) (F : List Addr) : Prop where
  at_ : MemL K W.S H μ F
  nd : F.Nodup
  inS : ∀ b ∈ F, b ∈ W.S
  ns : ∀ b ∈ F, ∀ l, W.src ≠ some (b, l)
  hld : ∀ b ∈ F, ∃ o, H b = some o ∧ ¬ Fix o ∧ NT o ∧ ∀ f, o ≠ .ext f
theorem obs_step {K : PySem.W.Frag} {S S' : List Addr} {H H' : Hp} (s : Stp S S' H H') {bs : List Addr} {os : List Ob} (h : Obs K S H bs os) : Obs K S' H' bs os := paired_mono (fun _ _ z => z.step s) h
theorem SrAt.step {K : PySem.W.Frag} {S S' : List Addr} {H H' : Hp} (s : Stp S S' H H') {a p q : Addr} {c : SrD} (ha : H' a = H a) (hp : H' p = H p) (hq : H' q = H q) : SrAt K S H a p q c → SrAt K S' H' a p q c
  | ⟨C, dx, vc, n, ps, qs, h1, h2, h3, h4, h5, h6, h7, h8⟩ => ⟨C, dx, vc, n, ps, qs, h1, ha.trans h2, Rp.step s h3, h4.step s, hp.trans h5, obs_step s h6, hq.trans h7, obs_step s h8⟩
theorem MemL.step {K : PySem.W.Frag} {S S' : List Addr} {H H' : Hp} (s : Stp S S' H H') : ∀ {μ : Mem} {F : List Addr}, (∀ b ∈ F, H' b = H b) → MemL K S H μ F → MemL K S' H' μ F
  | [], [], _, h => h
  | (a, c) :: μ, a' :: p :: q :: F, e, ⟨h1, h2, h3⟩ => by
    subst h1
    exact ⟨rfl, h2.step s (e _ (by simp)) (e _ (by simp)) (e _ (by simp)), MemL.step s (fun b hb => e b (by simp [hb])) h3⟩
  | [], _ :: _, _, h => h.elim
  | _ :: _, [], _, h => h.elim
  | _ :: _, [_], _, h => h.elim
  | _ :: _, [_, _], _, h => h.elim
structure Lnk (W00 : Wd) (H00 : Hp) (F00 : List Addr) (W0 : Wd) (H0 : Hp) (F : List Addr) (d : Bool) : Prop where
  same : d = false → W0 = W00 ∧ H0 = H00 ∧ F = F00
  src : W0.src = W00.src
  tab : W0.tab = W00.tab
  sub : ∀ b ∈ W00.S, b ∈ W0.S
  stp : Stp W00.S W0.S H00 H0
  frm : ∀ b o, H00 b = some o → (∀ l, W00.src ≠ some (b, l)) → b ∉ F00 → NT o → H0 b = some o
  foot : ∀ b ∈ F, b ∈ F00 ∨ Fr0 H00 b
theorem Lnk.refl (W : Wd) (H : Hp) (F : List Addr) : Lnk W H F W H F false := ⟨fun _ => ⟨rfl, rfl, rfl⟩, rfl, rfl, fun _ h => h, Stp.refl _ _, fun _ _ h _ _ _ => h, fun _ h => .inl h⟩
structure S2 (K : PySem.W.Frag) (W00 : Wd) (H00 : Hp) (F00 : List Addr) (W : Wd) (H : Hp) (σ : L2.St) (ρ : List SD) (m : Ms) (F : List Addr) : Prop where
  ex : ∃ W0 H0, SSt K W0 H0 W H σ ρ ∧ MemOk K W H m.1 F ∧ (∀ b ∈ F, b ∈ W0.S ∧ H0 b = H b) ∧ Lnk W00 H00 F00 W0 H0 F m.2
structure Sp2 (K : PySem.W.Frag) (W : Wd) (H : Hp) (F : List Addr) (W' : Wd) (H' : Hp) (F' : List Addr) (μ : Mem) : Prop where
  stp : Stp W.S W'.S H H'
  sub : ∀ b ∈ W.S, b ∈ W'.S
  src : W'.src = W.src
  tab : W'.tab = W.tab
  ok : W'.Ok H'
  frm : ∀ b o, H b = some o → (∀ l, W.src ≠ some (b, l)) → b ∉ F → NT o → H' b = some o
  mem : MemOk K W' H' μ F'
  foot : ∀ b ∈ F', b ∈ F ∨ Fr0 H b
structure Ret2 (K : PySem.W.Frag) (W : Wd) (H : Hp) (F : List Addr) (W' : Wd) (H' : Hp) (v : V) (y : SD) (μ : Mem) : Prop where
  ex : ∃ F', Sp2 K W H F W' H' F' μ
  rv : RV K W' H' v y
  no : isOwn y = false
section
variable {K : PySem.W.Frag} {W00 W0 W W' W1 : Wd} {H00 H0 H H' H1 : Hp} {F00 F F' F1 : List Addr} {σ : L2.St} {ρ : List SD} {m : Ms} {μ0 μ μ1 : Mem} {v : V} {y : SD}
theorem Sp2.trans (a : Sp2 K W H F W1 H1 F1 μ1) (b : Sp2 K W1 H1 F1 W' H' F' μ) : Sp2 K W H F W' H' F' μ := by
  refine ⟨a.stp.trans b.stp, fun x hx => b.sub x (a.sub x hx), b.src.trans a.src, b.tab.trans a.tab, b.ok, fun x o h n nf t => ?_, b.mem, fun x hx => ?_⟩
  · have h1 := a.frm x o h n nf t
    refine b.frm x o h1 (fun l => by rw [a.src]; exact n l) (fun z => ?_) t
    rcases a.foot x z with q | q
    · exact nf q
    · exact q o h t
  · rcases b.foot x hx with q | q
    · exact a.foot x q
    · by_cases z : x ∈ F
      · exact .inl z
      · refine .inr fun o e t => ?_
        by_cases w : ∃ l, W.src = some (x, l)
        · obtain ⟨l, w⟩ := w
          exact b.mem.ns x hx l (by rw [b.src, a.src]; exact w)
        · exact q o (a.frm x o e (fun l y => w ⟨l, y⟩) z t) t
theorem SSt.stp (s : SSt K W0 H0 W H σ ρ) : Stp W0.S W.S H0 H := by
  refine ⟨fun b o h t c => s.frm b o h (fun l z => ?_) t, s.mine⟩
  have h1 := (s.ok0.draw b l z).1
  rcases c with c | c
  · exact c h1
  · obtain ⟨o', e, nf, _⟩ := s.ok0.there b h1
    rw [h] at e; cases e
    exact nf c
theorem MemOk.step (M : MemOk K W H μ0 F) (e : ∀ b ∈ F, b ∈ W0.S ∧ H0 b = H b) {σ' : L2.St} {ρ' : List SD} (s' : SSt K W0 H0 W' H' σ' ρ') (hs : W'.src = W.src) (st : Stp W.S W'.S H H') : MemOk K W' H' μ0 F ∧ ∀ b ∈ F, b ∈ W0.S ∧ H0 b = H' b := by
  have same : ∀ b ∈ F, H' b = H b := fun b hb => by
    obtain ⟨o, h1, _, h2, _⟩ := M.hld b hb
    rw [h1]
    refine s'.frm b o (by rw [(e b hb).2]; exact h1) (fun l => ?_) h2
    rw [← s'.src, hs]
    exact M.ns b hb l
  exact ⟨⟨M.at_.step st same, M.nd, fun b hb => s'.sub b (e b hb).1, fun b hb l => by rw [hs]; exact M.ns b hb l, fun b hb => by rw [same b hb]; exact M.hld b hb⟩, fun b hb => ⟨(e b hb).1, by rw [same b hb]; exact (e b hb).2⟩⟩
theorem S2.ok (s : S2 K W00 H00 F00 W H σ ρ m F) : W.Ok H := by
  obtain ⟨W0, H0, s, _, _, _⟩ := s.ex
  exact s.ok
theorem S2.mem (s : S2 K W00 H00 F00 W H σ ρ m F) : MemOk K W H m.1 F := by
  obtain ⟨W0, H0, s, M0, _, _⟩ := s.ex
  exact M0
theorem S2.rel (s : S2 K W00 H00 F00 W H σ ρ m F) : Rel K W H σ ρ := by
  obtain ⟨W0, H0, s, _, _, _⟩ := s.ex
  exact s.rel
theorem S2.src (s : S2 K W00 H00 F00 W H σ ρ m F) : W.src = W00.src := by
  obtain ⟨W0, H0, s, _, _, l⟩ := s.ex
  exact s.src.trans l.src
theorem S2.keep (s : S2 K W00 H00 F00 W H σ ρ m F) (k : Kp W H H') (ok : W.Ok H') : S2 K W00 H00 F00 W H' σ ρ m F := by
  obtain ⟨W0, H0, s, M, e, l⟩ := s.ex
  have s' := s.keep k ok
  obtain ⟨M', e'⟩ := M.step e s' rfl (k.stp s.ok)
  exact ⟨W0, H0, s', M', e', l⟩
theorem S2.sp (s : S2 K W00 H00 F00 W H σ ρ m F) (k : Kp W H H') (ok : W.Ok H') : Sp2 K W H F W H' F m.1 :=
  ⟨k.stp s.ok, fun _ h => h, rfl, rfl, ok, fun b o h n _ t => k b o h n t, (s.keep k ok).mem, fun _ h => .inl h⟩
theorem S2.sp0 (s : S2 K W00 H00 F00 W H σ ρ m F) : Sp2 K W H F W H F m.1 := s.sp (Kp.refl W H) s.ok
theorem S2.set (s : S2 K W00 H00 F00 W H σ ρ m F) {i : Nat} {v : V} {x : SD} (h : RV K W H v x) (no : isOwn x = false) : S2 K W00 H00 F00 W H (σ.set i (some v)) (ρ.set i x) m F := by
  obtain ⟨W0, H0, s, M, e, l⟩ := s.ex
  exact ⟨W0, H0, s.set h no, M, e, l⟩
theorem RV.stp (st : Stp W.S W'.S H H') (hs : W'.src = W.src) {v : V} : ∀ {x : SD}, isOwn x = false → RV K W H v x → RV K W' H' v x
  | .no, _, _ => trivial
  | .d _, _, h => Rp.step st h
  | .src, _, ⟨a, l, e, q⟩ => ⟨a, l, by rw [hs]; exact e, q⟩
  | .ty _, _, h => h
  | .x _, _, h => RX.step st h
theorem S2.xp (s : S2 K W00 H00 F00 W H σ ρ m F) (nd : m.2 = false) {E : XK} {e : Exn} (h : XP K W00 H00 E e) : XP K W H E e := by
  obtain ⟨W0, H0, s, M, _, l⟩ := s.ex
  obtain ⟨e1, e2, _⟩ := l.same nd
  rw [e1, e2] at s
  exact SSt.xp s h
open Classical in
noncomputable def rebase (F F' : List Addr) (H0 H' : Hp) : Hp := fun b => if b ∈ F ∨ b ∈ F' then H' b else H0 b
end
section
variable {K : PySem.W.Frag} {S S' : List Addr} {H : Hp}
def InsS (H : Hp) (b : Addr) : Prop := ∃ C dx vc s p q, H b = some (.ins C dx (srFs vc s p q))
mutual
theorem Rp.more (h : ∀ b ∈ S', b ∈ S ∨ InsS H b) : ∀ {v : V} {d : PyData}, Rp K S H v d → Rp K S' H v d
  | _, _, .non => .non
  | _, _, .bl b => .bl b
  | _, _, .int i => .int i
  | _, _, .str x => .str x
  | _, _, .lst l t => .lst ⟨l.1, fun z => by
      rcases h _ z with q | ⟨_, _, _, _, _, _, q⟩
      · exact l.2 q
      · rw [l.1] at q; cases q⟩ (RpAll.more h t)
  | _, _, .tup l t => .tup l (RpAll.more h t)
  | _, _, .dct l n t => .dct l (fun z => by
      rcases h _ z with q | ⟨_, _, _, _, _, _, q⟩
      · exact n q
      · rcases l with l | ⟨o, l⟩
        · rw [l] at q; cases q
        · rw [l] at q; cases q) (RpKV.more h t)
theorem RpAll.more (h : ∀ b ∈ S', b ∈ S ∨ InsS H b) : ∀ {v : List V} {d : List PyData}, RpAll K S H v d → RpAll K S' H v d
  | _, _, .nil => .nil
  | _, _, .cons a t => .cons (Rp.more h a) (RpAll.more h t)
theorem RpKV.more (h : ∀ b ∈ S', b ∈ S ∨ InsS H b) : ∀ {v : List (Key × V)} {d : List (PyData × PyData)}, RpKV K S H v d → RpKV K S' H v d
  | _, _, .nil => .nil
  | _, _, .cons a t => .cons (Rp.more h a) (RpKV.more h t)
end
theorem PFs.more (h : ∀ b ∈ S', b ∈ S ∨ InsS H b) {vs : List (Str × V)} {fs : List (Str × PyData)} (r : PFs K S H vs fs) : PFs K S' H vs fs := paired_mono (fun _ _ z => ⟨z.1, Rp.more h z.2⟩) r
theorem ObAt.more (h : ∀ b ∈ S', b ∈ S ∨ InsS H b) {c : Str} {a : Addr} {fs : List (Str × PyData)} : ObAt K S H c a fs → ObAt K S' H c a fs
  | ⟨C, dx, vs, h1, h2, h3, h4, h5⟩ => by
    refine ⟨C, dx, vs, h1, h2, fun z => ?_, PFs.more h h4, h5⟩
    rcases h _ z with q | ⟨C', dx', vc, s, p, q', q⟩
    · exact h3 q
    · rw [h2] at q
      cases q
      cases h5
theorem CloAt.more (h : ∀ b ∈ S', b ∈ S ∨ InsS H b) {v : V} {L : Lm} (q : CloAt K S H v L) : CloAt K S' H v L := q.mono (S := S) (S' := S') (H := H) (H' := H) (fun _ _ _ z => z) fun _ _ z => RpAll.more h z
def unvS : SD → SD
  | .x (.sto a _ _) => .x (.hdl a)
  | x => x
theorem RX.more (h : ∀ b ∈ S', b ∈ S ∨ InsS H b) {W W' : Wd} (e1 : W.S = S) (e2 : W'.S = S') {v : V} : ∀ {e : SX}, RX K S H v e → RV K W' H v (unvS (.x e))
  | .ob c fs, ⟨a, h1, h2⟩ => by
    subst e2
    exact ⟨a, h1, h2.more h⟩
  | .obp c fs d, ⟨p, a, w, h1, h2, h3, h4⟩ => by
    subst e2
    exact ⟨p, a, w, h1, h2, h3.more h, Rp.more h h4⟩
  | .hdl a, r => r
  | .hpr a d, ⟨p, w, h1, h2, h4⟩ => by
    subst e2
    exact ⟨p, w, h1, h2, Rp.more h h4⟩
  | .hls l, ⟨p, h1, h2, h3⟩ => by
    subst e2
    refine ⟨p, h1, h2, fun z => ?_⟩
    rcases h _ z with q | ⟨_, _, _, _, _, _, q⟩
    · exact h3 q
    · rw [h2] at q; cases q
  | .lam L, q => by
    subst e2
    exact CloAt.more h q
  | .lams l, ⟨p, vs, h1, h2, h3⟩ => by
    subst e2
    refine ⟨p, vs, h1, ⟨h2.1, fun z => ?_⟩, paired_mono (fun _ _ z => CloAt.more h z) h3⟩
    rcases h _ z with q | ⟨_, _, _, _, _, _, q⟩
    · exact h2.2 q
    · rw [h2.1] at q; cases q
  | .ex a dx fs, ⟨h1, vs, h2, h3, h4⟩ => by
    subst e2
    refine ⟨h1, vs, h2, fun z => ?_, PFs.more h h4⟩
    rcases h _ z with q | ⟨_, _, _, _, _, _, q⟩
    · exact h3 q
    · rw [h2] at q; cases q
  | .sto a _ _, ⟨r, _⟩ => r
theorem RV.more {W W' : Wd} (h : ∀ b ∈ W'.S, b ∈ W.S ∨ InsS H b) (sub : ∀ b ∈ W.S, b ∈ W'.S) (hs : W'.src = W.src) {v : V} : ∀ {x : SD}, RV K W H v x → RV K W' H v (unvS x)
  | .no, _ => trivial
  | .d _, r => Rp.more h r
  | .src, ⟨a, l, e, q⟩ => ⟨a, l, by rw [hs]; exact e, q⟩
  | .ty _, r => r
  | .x _, r => RX.more h rfl rfl r
  | .own _, ⟨p, xs, e, m, ns, hp, r⟩ => ⟨p, xs, e, sub _ m, by rw [hs]; exact ns, hp, RpAll.more h r⟩
  | .ownL _, ⟨p, xs, e, m, ns, hp, r⟩ => ⟨p, xs, e, sub _ m, by rw [hs]; exact ns, hp, paired_mono (fun _ _ z => CloAt.more h z) r⟩
  | .ownD _, ⟨p, xs, e, m, ns, hp, r⟩ => ⟨p, xs, e, sub _ m, by rw [hs]; exact ns, hp, paired_mono (fun _ _ z => ⟨z.1, Rp.more h z.2⟩) r⟩
  | .mutD _ _, ⟨p, xs, e, m, ns, hp, r, q⟩ => ⟨p, xs, e, sub _ m, by rw [hs]; exact ns, hp, paired_mono (fun _ _ z => ⟨z.1, Rp.more h z.2⟩) r, q⟩
end
def viewS (μ : Mem) : SD → SD
  | .x (.hdl a) => match μ.lookup a with
    | some c => .x (.sto a c.cap c.now)
    | none => .x (.hdl a)
  | x => x
theorem MemL.get {K : PySem.W.Frag} {S : List Addr} {H : Hp} {a : Addr} {c : SrD} : ∀ {μ : Mem} {F : List Addr}, MemL K S H μ F → μ.lookup a = some c → ∃ p q, SrAt K S H a p q c ∧ a ∈ F ∧ p ∈ F ∧ q ∈ F
  | [], [], _, e => by simp at e
  | (b, d) :: μ, b' :: p :: q :: F, ⟨h1, h2, h3⟩, e => by
    subst h1
    rw [List.lookup_cons] at e
    split at e
    · rename_i z
      have z : a = b' := by simpa using z
      subst z
      cases e
      exact ⟨p, q, h2, by simp, by simp, by simp⟩
    · obtain ⟨p', q', g1, g2, g3, g4⟩ := MemL.get h3 e
      exact ⟨p', q', g1, by simp [g2], by simp [g3], by simp [g4]⟩
  | [], _ :: _, h, _ => h.elim
  | _ :: _, [], h, _ => h.elim
  | _ :: _, [_], h, _ => h.elim
  | _ :: _, [_, _], h, _ => h.elim
theorem MemL.keys {K : PySem.W.Frag} {S : List Addr} {H : Hp} : ∀ {μ : Mem} {F : List Addr}, MemL K S H μ F → ∀ b ∈ μ.map (·.1), b ∈ F ∧ InsS H b
  | [], [], _, b, hb => by simp at hb
  | (b, d) :: μ, b' :: p :: q :: F, ⟨h1, h2, h3⟩, a, ha => by
    subst h1
    rw [List.map_cons] at ha
    rcases List.mem_cons.mp ha with rfl | ha
    · obtain ⟨C, dx, vc, s, ps, qs, _, g, _⟩ := h2
      exact ⟨by simp, C, dx, vc, s, p, q, g⟩
    · obtain ⟨g1, g2⟩ := MemL.keys h3 a ha
      exact ⟨by simp [g1], g2⟩
  | [], _ :: _, h, _, _ => h.elim
  | _ :: _, [], h, _, _ => h.elim
  | _ :: _, [_], h, _, _ => h.elim
  | _ :: _, [_, _], h, _, _ => h.elim
section
variable {K : PySem.W.Frag} {W00 W0 W W' : Wd} {H00 H0 H H' : Hp} {F00 F F' : List Addr} {σ σ' : L2.St} {ρ ρ' : List SD} {m : Ms} {μ0 μ : Mem} {v : V} {y : SD} {E : XK}
def keysA (μ : Mem) : List Addr := μ.map (·.1)
end
end Dd
namespace Dd
open PySem PySem.Spec PyProof.Rows L2
structure Nx (K : PySem.W.Frag) (W00 : Wd) (H00 : Hp) (F00 : List Addr) (W : Wd) (H : Hp) (F : List Addr) (σ : L2.St) (ρ : List SD) (m m' : Ms) (W' : Wd) (H' : Hp) (F' : List Addr) : Prop where
  sp : Sp2 K W H F W' H' F' m'.1
  st : S2 K W00 H00 F00 W' H' σ ρ m' F'
  cl : m'.2 = false → m.2 = false ∧ W' = W ∧ Kp W H H'
def XC (K : PySem.W.Frag) (E : XK) (W : Wd) (H : Hp) (m : Ms) (Ex : Exn → Prop) : Prop := m.2 = false → ∀ e, Ex e → XP K W H E e
def d2 (K : PySem.W.Frag) (E : XK) (T : List SD → N SD) : TE := fun σ H Q => ∃ W00 H00 F00 W ρ m F Ex, S2 K W00 H00 F00 W H σ ρ m F ∧ XC K E W H m Ex ∧
  (T ρ m).run (fun r => ∀ W' v H' F', Nx K W00 H00 F00 W H F σ ρ m r.2 W' H' F' → RV K W' H' v r.1 → isOwn r.1 = false → Q v H') Ex
def a2 (K : PySem.W.Frag) (E : XK) (T : List SD → N (List SD)) : TA := fun σ H Q => ∃ W00 H00 F00 W ρ m F Ex, S2 K W00 H00 F00 W H σ ρ m F ∧ XC K E W H m Ex ∧
  (T ρ m).run (fun r => ∀ W' vs H' F', Nx K W00 H00 F00 W H F σ ρ m r.2 W' H' F' → Paired (RV K W' H') vs r.1 → (∀ x ∈ r.1, isOwn x = false) → Q vs H') Ex
def t2 (K : PySem.W.Frag) (E : XK) (T : List SD → N Bool) : TT := fun σ H Q => ∃ W00 H00 F00 W ρ m F Ex, S2 K W00 H00 F00 W H σ ρ m F ∧ XC K E W H m Ex ∧
  (T ρ m).run (fun r => ∀ W' H' F', Nx K W00 H00 F00 W H F σ ρ m r.2 W' H' F' → Q r.1 H') Ex
def Out2 (K : PySem.W.Frag) (W00 : Wd) (H00 : Hp) (F00 : List Addr) (W : Wd) (H : Hp) (D : Ends) : Out × Ms → Prop
  | (.nx ρ, m) => ∀ W' σ' H' F', Stp W.S W'.S H H' → S2 K W00 H00 F00 W' H' σ' ρ m F' → D.nx σ' H'
  | (.bk ρ, m) => ∀ W' σ' H' F', Stp W.S W'.S H H' → S2 K W00 H00 F00 W' H' σ' ρ m F' → D.bk σ' H'
  | (.ct ρ, m) => ∀ W' σ' H' F', Stp W.S W'.S H H' → S2 K W00 H00 F00 W' H' σ' ρ m F' → D.ct σ' H'
  | (.rt y, m) => ∀ W' v H', Ret2 K W00 H00 F00 W' H' v y m.1 → D.rt v H'
def ds2 (K : PySem.W.Frag) (E : XK) (U : List SD → N Out) : TS := fun D σ H => ∃ W00 H00 F00 W ρ m F, S2 K W00 H00 F00 W H σ ρ m F ∧ (U ρ m).run (Out2 K W00 H00 F00 W H D) (XP K W00 H00 E)
abbrev D2 (X : Cx) (E : XK) (e : Expr) (T : List SD → N SD) : Prop := PE X e (d2 X.K E T)
abbrev A2 (X : Cx) (E : XK) (es : List Expr) (T : List SD → N (List SD)) : Prop := PA X es (a2 X.K E T)
abbrev T2 (X : Cx) (E : XK) (e : Expr) (T : List SD → N Bool) : Prop := PT X e (t2 X.K E T)
abbrev W2 (X : Cx) (E : XK) (e : Expr) (T : List SD → N Bool) : Prop := PW X e (t2 X.K E T)
abbrev DS2 (X : Cx) (E : XK) (st : Stmt) (U : List SD → N Out) : Prop := PS X st (ds2 X.K E U)
abbrev DSs2 (X : Cx) (E : XK) (st : List Stmt) (U : List SD → N Out) : Prop := PSs X st (ds2 X.K E U)
section
variable {K : PySem.W.Frag} {W00 W0 W W' : Wd} {H00 H0 H H' : Hp} {F00 F F' : List Addr} {σ σ' : L2.St} {ρ ρ' : List SD} {m : Ms} {E : XK}
theorem Nx.refl (s : S2 K W00 H00 F00 W H σ ρ m F) : Nx K W00 H00 F00 W H F σ ρ m m W H F := ⟨s.sp0, s, fun h => ⟨h, rfl, Kp.refl W H⟩⟩
theorem Nx.keep (s : S2 K W00 H00 F00 W H σ ρ m F) (k : Kp W H H') (ok : W.Ok H') : Nx K W00 H00 F00 W H F σ ρ m m W H' F := ⟨s.sp k ok, s.keep k ok, fun h => ⟨h, rfl, k⟩⟩
theorem Nx.trans {W1 : Wd} {H1 : Hp} {F1 : List Addr} {m1 m2 : Ms} (a : Nx K W00 H00 F00 W H F σ ρ m m1 W1 H1 F1) (b : Nx K W00 H00 F00 W1 H1 F1 σ ρ m1 m2 W' H' F') : Nx K W00 H00 F00 W H F σ ρ m m2 W' H' F' := by
  refine ⟨a.sp.trans b.sp, b.st, fun h => ?_⟩
  obtain ⟨h1, e1, k1⟩ := b.cl h
  obtain ⟨h2, e2, k2⟩ := a.cl h1
  subst e2
  exact ⟨h2, e1, k2.trans k1⟩
theorem XC.next {W1 : Wd} {H1 : Hp} {F1 : List Addr} {m1 : Ms} {Ex : Exn → Prop} (x : XC K E W H m Ex) (s : S2 K W00 H00 F00 W H σ ρ m F) (a : Nx K W00 H00 F00 W H F σ ρ m m1 W1 H1 F1) : XC K E W1 H1 m1 Ex := fun d e z => by
  obtain ⟨h, e1, k⟩ := a.cl d
  have ok := a.st.ok
  subst e1
  exact XP.trans s.ok k ok (x h e z)
theorem S2.post (s : S2 K W00 H00 F00 W H σ ρ m F) {z : SD} (no : isOwn z = false) {Q : VK} (q : ∀ W' v H' F', Nx K W00 H00 F00 W H F σ ρ m m W' H' F' → RV K W' H' v z → isOwn z = false → Q v H') : Post K W H Q z := fun v H' k ok r => q W v H' F (Nx.keep s k ok) r no
theorem XC.lift {α : Type} {x : M α} {P : α × Ms → Prop} {Ex : Exn → Prop} (xc : XC K E W H m Ex) (h : (nLift x m).run P Ex) : x.run (fun a => P (a, m)) (XP K W H E) := by
  have h : ((if m.2 = true then M.calm x else x) >>= fun a => (pure (a, m) : M (α × Ms))).run P Ex := h
  have h := run_bind.mp h
  cases d : m.2 with
  | true =>
    rw [d, if_pos rfl] at h
    have h : x.run (fun a => P (a, m)) (fun _ => False) := h
    exact x.mono (fun _ z => z) (fun _ z => z.elim) h
  | false =>
    rw [d, if_neg (by decide)] at h
    have h : x.run (fun a => P (a, m)) Ex := h
    exact x.mono (fun _ z => z) (fun e z => xc d e z) h
theorem S2.xc (s : S2 K W00 H00 F00 W H σ ρ m F) : XC K E W H m (XP K W00 H00 E) := fun d _ z => s.xp d z
end
def plM (x : M SD) : M SD := do let z ← x; M.lift (plain z)
def eLift (T : List SD → M SD) (ρ : List SD) : N SD := fun m => nLift (do let z ← plM (T (ρ.map (viewS m.1))); pure (unvS z)) m
def tLift (T : List SD → M Bool) (ρ : List SD) : N Bool := fun m => nLift (T (ρ.map (viewS m.1))) m
def unvO : Out → Out
  | .nx ρ => .nx (ρ.map unvS)
  | .bk ρ => .bk (ρ.map unvS)
  | .ct ρ => .ct (ρ.map unvS)
  | .rt y => .rt y
section
variable {X : Cx} {E : XK} {a b c e : Expr} {es rest : List Expr} {pos p p2 : Pos} {x : Str} {T0 : List SD → M SD} {B0 : List SD → M Bool} {T Ta Tb Tc : List SD → N SD} {Ts : List SD → N (List SD)} {B B1 B2 : List SD → N Bool} {n k : Nat}
def ix0F (i : Int) : SD → Option SD
  | .d (.tuple ds) => (atI ds i).map SD.d
  | .d (.list ds) => (atI ds i).map SD.d
  | _ => none
end
def noRet (r : Out × Ms) : M (Out × Ms) := match r.1 with
  | .rt _ => M.fail
  | _ => pure r
def uLift (U : List SD → M Out) (ρ : List SD) : N Out := fun m => nLift (U (ρ.map (viewS m.1))) m >>= fun r => noRet (unvO r.1, r.2)
def seq2 (u : N Out) (f : List SD → N Out) : N Out := fun m => u m >>= fun r => match r.1 with
  | .nx ρ => f ρ r.2
  | o => pure (o, r.2)
section
variable {K : PySem.W.Frag} {W00 W0 W W' : Wd} {H00 H0 H H' : Hp} {F00 F F' : List Addr} {σ σ' : L2.St} {ρ ρ' : List SD} {m : Ms} {E : XK} {D : Ends}
theorem Out2.trans (st : Stp W.S W'.S H H') : ∀ {r : Out × Ms}, Out2 K W00 H00 F00 W H D r → Out2 K W00 H00 F00 W' H' D r
  | (.nx _, _), q => fun W2 σ2 H2 F2 st2 s2 => q W2 σ2 H2 F2 (st.trans st2) s2
  | (.bk _, _), q => fun W2 σ2 H2 F2 st2 s2 => q W2 σ2 H2 F2 (st.trans st2) s2
  | (.ct _, _), q => fun W2 σ2 H2 F2 st2 s2 => q W2 σ2 H2 F2 (st.trans st2) s2
  | (.rt _, _), q => q
theorem S2.ret (s : S2 K W00 H00 F00 W H σ ρ m F) {v : V} {y : SD} (r : RV K W H v y) (no : isOwn y = false) : Ret2 K W00 H00 F00 W H v y m.1 := by
  obtain ⟨W0, H0, s, M0, e0, l⟩ := s.ex
  have st0 := s.stp
  refine ⟨⟨F, l.stp.trans st0, fun b hb => s.sub b (l.sub b hb), s.src.trans l.src, s.tab.trans l.tab, s.ok, fun b o h n nf t => s.frm b o (l.frm b o h n nf t) (fun l' => by rw [l.src]; exact n l') t, M0, l.foot⟩, r, no⟩
end
section
variable {X : Cx} {E : XK} {st : Stmt} {sts body body2 : List Stmt} {c e : Expr} {pos : Pos} {U : List SD → M Out} {U1 U2 : List SD → N Out} {T : List SD → N SD} {B : List SD → N Bool}
def for2 (tg : Tg) (U : List SD → N Out) : List SD → List SD → N Out
  | [], ρ => nPure (.nx ρ)
  | x :: r, ρ => nBind (nLift (M.lift (kOf tg x ρ))) fun ρ1 => nBind (U ρ1) fun o => match o with
    | .nx ρ2 => for2 tg U r ρ2
    | .ct ρ2 => for2 tg U r ρ2
    | .bk ρ2 => nPure (.nx ρ2)
    | .rt y => nPure (.rt y)
end
end Dd
namespace Dd
open PySem PySem.Spec PyProof.Rows L2
def sp2 (K : PySem.W.Frag) (n : Nat) (g : List SD → N SD) : Sp := fun vs H Q E => ∃ W xs μ F, W.Ok H ∧ Paired (RV K W H) vs xs ∧ (∀ x ∈ xs, isOwn x = false) ∧ xs.length = n ∧ W.tab = theTab K ∧ MemOk K W H μ F ∧
  (g xs (μ, false)).run (fun r => ∀ W' v H', Ret2 K W H F W' H' v r.1 r.2.1 → Q v H') (XP K W H E)
def def2 (m : Nat) (U : List SD → N Out) (xs : List SD) : N SD := fun μ => U (xs ++ List.replicate (m - xs.length) .no) μ >>= fun r => match r.1 with
  | .rt y => pure (y, r.2)
  | .nx _ => pure (.d .none, r.2)
  | _ => M.fail
def call2 (n : Nat) (g : List SD → N SD) (xs : List SD) : N SD := fun m => M.when (decide (xs.length = n)) ((if m.2 = true then M.calm (g xs (m.1, false)) else g xs (m.1, false)) >>= fun r => pure (r.1, (r.2.1, true)))
section
variable {P : Program} {w : World} {K : PySem.W.Frag} {mg : Str → Option Value} {base : Heap}
end
section
variable {X : Cx} {W00 W W' : Wd} {H00 H H' : Hp} {F00 F : List Addr} {σ : L2.St} {ρ : List SD} {m : Ms} {E : XK}
end
def hdlA : SD → Option Addr
  | .x (.hdl a) => some a
  | _ => none
def nGet {α : Type} (x : SD) (f : SrD → M α) : N α := fun m => M.lift (hdlA x) >>= fun a => M.lift (m.1.lookup a) >>= fun c => nLift (f c) m
structure StoreC (K : PySem.W.Frag) (C : Addr) : Prop where
  nm : PySem.W.nsIn K mainGlobals "Store" = some (some (.ref C))
  cl : Cls K C
  na : ∀ f ∈ obNames, NoAttr K C f
def stNames : List Str := ["rows", "costs", "paid", "entries"]
structure StateC (K : PySem.W.Frag) (C : Addr) : Prop where
  nm : PySem.W.nsIn K mainGlobals "State" = some (some (.ref C))
  cl : Cls K C
  na : ∀ f ∈ stNames, NoAttr K C f
section
variable {X : Cx} {E : XK} {e o : Expr} {es : List Expr} {x f : Str} {pos p apos : Pos} {T To : List SD → N SD} {Ts Tk : List SD → N (List SD)} {T0 : List SD → M SD} {n k : Nat} {g : List SD → M SD} {g2 : List SD → N SD}
def OkS (P : Program) (w : World) (K : PySem.W.Frag) (mg : Str → Option Value) (base : Heap) (k : Nat) (x : Str) (n : Nat) (g : List SD → N SD) : Prop := ∃ f fd ps, mg x = some (.ref f) ∧ PySem.W.keepIn K (.ref f) = true ∧ L2.Binds K fd ps [] ∧ FnOk P w K mg base (L2.CX P w) k f fd ps (sp2 K n g)
def OkMt (P : Program) (w : World) (K : PySem.W.Frag) (mg : Str → Option Value) (base : Heap) (k : Nat) (x : Str) (n : Nat) (dvs : List V) (dds : List PyData) (g : List SD → N SD) : Prop := ∃ C f fd ps ds, StoreC K C ∧ Meth K C x f ∧ L2.Binds K fd ps ds ∧ Vals dvs ds ∧ (∀ S H, RpAll K S H dvs dds) ∧ FnOk P w K mg base (L2.CX P w) k f fd ps (sp2 K n g)
def nowF : SD → Option SD
  | .x (.sto _ _ now) => some (.x (.ob "State" now))
  | _ => none
def capF : SD → Option SD
  | .x (.sto _ cap _) => some (.d cap)
  | _ => none
def OkMr (P : Program) (w : World) (K : PySem.W.Frag) (mg : Str → Option Value) (base : Heap) (k : Nat) (x : Str) (n : Nat) (g : List SD → M SD) : Prop := ∃ C f fd ps, StoreC K C ∧ Meth K C x f ∧ L2.Binds K fd ps [] ∧ FnOk P w K mg base (L2.CX P w) k f fd ps (spX K n g)
def isSto : SD → Bool
  | .x (.sto _ _ _) => true
  | _ => false
def obF (x : SD) (f : Str) : Option SD := match x with
  | .x (.ob c fs) => if c = "State" then (fs.lookup f).map SD.d else none
  | _ => none
end
end Dd
namespace Dd
open PySem PySem.Spec PyProof.Rows L2
def stFs {α : Type} (a b c d : α) : List (Str × α) := [("rows", a), ("costs", b), ("paid", c), ("entries", d)]
def spSt (C : Addr) : Sp := fun vs H Q _ => ∃ x dx a b c d, vs = [.ref x, a, b, c, d] ∧ H x = some (.ins C dx []) ∧ Q .non (upd H x (.ins C dx (stFs a b c d)))
def OkState (P : Program) (w : World) (K : PySem.W.Frag) (mg : Str → Option Value) (base : Heap) (k : Nat) : Prop := ∃ C f fd ps, StateC K C ∧ Mk K C f ∧ mg "State" = some (.ref C) ∧ L2.Binds K fd ps [] ∧ FnOk P w K mg base (L2.CX P w) k f fd ps (spSt C)
def stMk : List SD → Option SD
  | [.d a, .d b, .d c, .d d] => some (.x (.ob "State" (stFs a b c d)))
  | _ => none
section
variable {X : Cx} {E : XK} {e : Expr} {es : List Expr} {p pos : Pos} {Ts : List SD → M (List SD)} {k : Nat}
end
def putM : Mem → Addr → SrD → Mem
  | [], _, _ => []
  | (b, d) :: μ, a, c => if a = b then (b, c) :: μ else (b, d) :: putM μ a c
def putT : Mem → List Addr → Addr → Addr → Addr → List Addr
  | (b, _) :: μ, b' :: p :: q :: F, a, p', q' => if a = b then b' :: p' :: q' :: F else b' :: p :: q :: putT μ F a p' q'
  | _, F, _, _, _ => F
section
variable {K : PySem.W.Frag} {S S' : List Addr} {H H' : Hp} {a : Addr} {c : SrD}
theorem MemL.put : ∀ {μ : Mem} {F : List Addr}, MemL K S H μ F → F.Nodup → μ.lookup a = some c → ∃ p q, SrAt K S H a p q c ∧ a ∈ F ∧ p ∈ F ∧ q ∈ F ∧ a ≠ p ∧ a ≠ q ∧ p ≠ q ∧
    ∀ (p' q' : Addr) (c' : SrD), ((p' = p ∨ p' ∉ F) → (q' = q ∨ q' ∉ F) → p' ≠ q' → (∀ b ∈ putT μ F a p' q', b ∈ F ∨ b = p' ∨ b = q') ∧ (putT μ F a p' q').Nodup ∧
      ∀ {S' : List Addr} {H' : Hp}, Stp S S' H H' → (∀ b ∈ F, b ≠ a → b ≠ p → b ≠ q → H' b = H b) → SrAt K S' H' a p' q' c' → MemL K S' H' (putM μ a c') (putT μ F a p' q'))
  | [], [], _, _, e => by simp at e
  | (b, d) :: μ, b' :: p :: q :: F, ⟨h1, h2, h3⟩, nd, e => by
    subst h1
    obtain ⟨n1, n2⟩ := List.nodup_cons.mp nd
    obtain ⟨n2, n3⟩ := List.nodup_cons.mp n2
    obtain ⟨n3, n4⟩ := List.nodup_cons.mp n3
    rw [List.lookup_cons] at e
    by_cases z : a = b'
    · subst z
      simp at e
      subst e
      refine ⟨p, q, h2, by simp, by simp, by simp, fun z => n1 (by simp [z]), fun z => n1 (by simp [z]), fun z => n2 (by simp [z]), fun p' q' c' hp hq ne => ?_⟩
      unfold putT putM
      rw [if_pos rfl, if_pos rfl]
      refine ⟨fun b hb => ?_, ?_, fun {S' H'} st same sr => ⟨rfl, sr, h3.step st fun b hb => same b (by simp [hb]) (fun z => n1 (by subst z; simp [hb])) (fun z => n2 (by subst z; simp [hb])) (fun z => n3 (by subst z; exact hb))⟩⟩
      · simp only [List.mem_cons] at hb ⊢
        rcases hb with rfl | rfl | rfl | hb
        · exact .inl (.inl rfl)
        · exact .inr (.inl rfl)
        · exact .inr (.inr rfl)
        · exact .inl (.inr (.inr (.inr hb)))
      · have a1 : p' ∉ F := fun z => by
          rcases hp with w | w
          · rw [w] at z; exact n2 (by simp [z])
          · exact w (by simp [z])
        have a2 : q' ∉ F := fun z => by
          rcases hq with w | w
          · rw [w] at z; exact n3 z
          · exact w (by simp [z])
        have a3 : a ≠ p' := fun z => by
          rcases hp with w | w
          · exact n1 (by rw [z, w]; simp)
          · exact w (by rw [← z]; simp)
        have a4 : a ≠ q' := fun z => by
          rcases hq with w | w
          · exact n1 (by rw [z, w]; simp)
          · exact w (by rw [← z]; simp)
        refine List.nodup_cons.mpr ⟨fun z => ?_, List.nodup_cons.mpr ⟨fun z => ?_, List.nodup_cons.mpr ⟨a2, n4⟩⟩⟩
        · simp only [List.mem_cons] at z
          rcases z with z | z | z
          · exact a3 z
          · exact a4 z
          · exact n1 (by simp [z])
        · simp only [List.mem_cons] at z
          rcases z with z | z
          · exact ne z
          · exact a1 z
    · have zb : (a == b') = false := beq_eq_false_iff_ne.mpr z
      rw [zb] at e
      obtain ⟨p1, q1, g1, g2, g3, g4, g5, g6, g7, g8⟩ := MemL.put h3 n4 e
      refine ⟨p1, q1, g1, by simp [g2], by simp [g3], by simp [g4], g5, g6, g7, fun p' q' c' hp hq ne => ?_⟩
      obtain ⟨k1, k2, k3⟩ := g8 p' q' c' (hp.imp id fun w z => w (by simp [z])) (hq.imp id fun w z => w (by simp [z])) ne
      unfold putT putM
      rw [if_neg z, if_neg z]
      have out : ∀ {b : Addr}, b ∈ b' :: p :: q :: F → b ∉ F → b ∉ putT μ F a p' q' := fun {b} hb nb w => by
        rcases k1 b w with w | w | w
        · exact nb w
        · rcases hp with y | y
          · rw [w, y] at nb; exact nb g3
          · exact y (w ▸ hb)
        · rcases hq with y | y
          · rw [w, y] at nb; exact nb g4
          · exact y (w ▸ hb)
      refine ⟨fun b hb => ?_, ?_, fun {S' H'} st same sr => ⟨rfl, h2.step st (same _ (by simp) (fun w => z w.symm) (fun w => n1 (by rw [w]; simp [g3])) fun w => n1 (by rw [w]; simp [g4])) (same _ (by simp) (fun w => n2 (by rw [w]; simp [g2])) (fun w => n2 (by rw [w]; simp [g3])) fun w => n2 (by rw [w]; simp [g4])) (same _ (by simp) (fun w => n3 (by rw [w]; simp [g2])) (fun w => n3 (by rw [w]; simp [g3])) fun w => n3 (by rw [w]; simp [g4])), k3 st (fun b hb => same b (by simp [hb])) sr⟩⟩
      · simp only [List.mem_cons] at hb ⊢
        rcases hb with rfl | rfl | rfl | hb
        · exact .inl (.inl rfl)
        · exact .inl (.inr (.inl rfl))
        · exact .inl (.inr (.inr (.inl rfl)))
        · exact (k1 b hb).imp (fun w => .inr (.inr (.inr w))) id
      · refine List.nodup_cons.mpr ⟨fun w => ?_, List.nodup_cons.mpr ⟨fun w => ?_, List.nodup_cons.mpr ⟨out (by simp) n3, k2⟩⟩⟩
        · simp only [List.mem_cons] at w
          rcases w with w | w | w
          · exact n1 (by simp [w])
          · exact n1 (by simp [w])
          · exact out (by simp) (fun y => n1 (by simp [y])) w
        · simp only [List.mem_cons] at w
          rcases w with w | w
          · exact n2 (by simp [w])
          · exact out (by simp) (fun y => n2 (by simp [y])) w
  | [], _ :: _, h, _, _ => h.elim
  | _ :: _, [], h, _, _ => h.elim
  | _ :: _, [_], h, _, _ => h.elim
  | _ :: _, [_, _], h, _, _ => h.elim
end
end Dd
namespace Dd
open PySem PySem.Spec PyProof.Rows L2
section
variable {K : PySem.W.Frag} {W00 W0 W W' : Wd} {H00 H0 H H' : Hp} {F00 F : List Addr} {σ : L2.St} {ρ : List SD} {m : Ms} {a : Addr} {c : SrD}
end
section
variable {X : Cx} {E : XK} {o o2 e : Expr} {f : Str} {pos pos' p1 p2 p3 ap apos cpos : Pos} {i j : Nat} {C : Addr}
def nAt (i : Nat) (ρ : List SD) : N (Addr × SrD) := fun m => M.lift ((getS ρ i).bind hdlA) >>= fun a => M.lift (m.1.lookup a) >>= fun c => pure ((a, c), m)
def nPut (a : Addr) (c : SrD) : N Unit := fun m => pure ((), (putM m.1 a c, true))
def appF (f : Str) (c : SrD) (s : Ob) : Option SrD := if f = "past" then some { c with past := c.past ++ [s] } else if f = "future" then some { c with future := c.future ++ [s] } else none
def isSt : SD → Option Ob
  | .x (.ob c fs) => if c = "State" then some fs else none
  | _ => none
end
end Dd
namespace Dd
open PySem PySem.Spec PyProof.Rows L2 LamX
def tMethN (m : Str) (n nk : Nat) (sp : Sp) (gV : List V → List V → List V) (C : Addr) (E : XK) (ta : TE) (t tk : TA) : TE := fun σ H Q => ta σ H fun x H1 => ∃ a dx fs, x = .ref a ∧ H1 a = some (.ins C dx fs) ∧ fs.lookup m = none ∧
  t σ H1 fun vs H2 => tk σ H2 fun zs H3 => vs.length = n ∧ zs.length = nk ∧ sp (gV (x :: vs) zs) H3 Q E
abbrev K2 (X : Cx) (E : XK) (kws : List Keyword) (T : List SD → N (List SD)) : Prop := PK X kws (a2 X.K E T)
section
variable {X : Cx} {E : XK} {e o : Expr} {es : List Expr} {kws : List Keyword} {ks : List Str} {x : Str} {pos p apos kpos : Pos} {T To : List SD → N SD} {Ts Tk : List SD → N (List SD)} {n np k : Nat} {g2 : List SD → N SD}
def OkMtN (P : Program) (w : World) (K : PySem.W.Frag) (mg : Str → Option Value) (base : Heap) (k : Nat) (x : Str) (n np : Nat) (ks : List Str) (g : List SD → N SD) : Prop := ∃ C f fd ps, StoreC K C ∧ Meth K C x f ∧ KBn K fd ps (np + 1) ks (fun us ws => us ++ ws) (fun vs zs => vs ++ zs) ∧ FnOk P w K mg base (L2.CX P w) k f fd ps (sp2 K n g)
end
end Dd
namespace Dd
open PySem PySem.Spec PyProof.Rows L2
def M.pick (C : Addr → Prop) : M Addr := ⟨fun P _ => ∀ a, C a → P a, fun h _ p a c => h a (p a c)⟩
def emptyOb : Ob := stFs (.list []) (dictOf []) (.int 0) (.list [])
def chkU (u : List SD → M Out) (x : Addr) (cap : PyData) : M Unit := u [.x (.hdl x), .d cap] >>= fun o => M.need (o = .nx [.x (.hdl x), .d cap])
def spSr (K : PySem.W.Frag) (C : Addr) (u : List SD → M Out) : Sp := fun vs H Q E => ∃ W x dx v cap, vs = [.ref x, v] ∧ W.Ok H ∧ x ∈ W.S ∧ H x = some (.ins C dx []) ∧ (∀ l, W.src ≠ some (x, l)) ∧ W.tab = theTab K ∧ Rp K W.S H v cap ∧
  (chkU u x cap).run (fun _ => ∀ (W' : Wd) (H' : Hp) (n p q : Addr) (v' : V), W'.src = W.src → W'.tab = W.tab → W'.Ok H' → (∀ b ∈ W.S, b ∈ W'.S) → Stp W.S W'.S H H' → (∀ b o, b ≠ x → H b = some o → (∀ l, W.src ≠ some (b, l)) → NT o → H' b = some o) →
    H' x = some (.ins C dx (srFs v' n p q)) → Rp K W'.S H' v' cap → ObAt K W'.S H' "State" n emptyOb → H' p = some (.lst []) → H' q = some (.lst []) → Fr0 H p → Fr0 H q → p ≠ q → p ∈ W'.S → q ∈ W'.S → Q .non H') (XP K W H E)
section
variable {X : Cx} {E : XK} {C : Addr} {o1 o2 o3 o4 e1 es : Expr} {T : List SD → M SD}
end
section
variable {P : Program} {w : World} {K : PySem.W.Frag} {mg : Str → Option Value} {base : Heap}
end
end Dd
namespace Dd
open PySem PySem.Spec PyProof.Rows L2
def nNew (u : List SD → M Out) (cap : PyData) : N SD := fun m => M.pick (fun a => m.1.lookup a = none) >>= fun a => nLift (chkU u a cap) m >>= fun _ => pure (.x (.hdl a), ((a, ⟨cap, emptyOb, [], []⟩) :: m.1, true))
def OkSto (P : Program) (w : World) (K : PySem.W.Frag) (mg : Str → Option Value) (base : Heap) (k : Nat) (dvs : List V) (dds : List PyData) (u : List SD → M Out) : Prop := ∃ C f fd ds, StoreC K C ∧ Mk K C f ∧ mg "Store" = some (.ref C) ∧ L2.Binds K fd ["self", "capacity"] ds ∧ Vals dvs ds ∧ (∀ S H, RpAll K S H dvs dds) ∧
  KBn K fd ["self", "capacity"] 1 ["capacity"] (fun us ws => us ++ ws) (fun vs zs => vs ++ zs) ∧ FnOk P w K mg base (L2.CX P w) k f fd ["self", "capacity"] (spSr K C u)
section
variable {K : PySem.W.Frag} {W00 W : Wd} {H00 H : Hp} {F00 F : List Addr} {σ : L2.St} {ρ : List SD} {m : Ms} {E : XK} {Ex : Exn → Prop}
end
section
variable {X : Cx} {E : XK} {e : Expr} {p pos kpos : Pos} {T : List SD → N SD} {k : Nat} {u : List SD → M Out}
end
end Dd
namespace Dd
open PySem PySem.Spec PyProof.Rows L2
section
variable {X : Cx} {E : XK} {o o2 : Expr} {pos pos' p1 p2 p3 : Pos} {i j : Nat} {C : Addr}
end
end Dd
namespace Dd
open PySem PySem.Spec PyProof.Rows L2 LamX
def TT2 (K : PySem.W.Frag) (G : N SD → N SD) (tl : XK → Hp → VK → Prop) (H : Hp) (Q : VK) : Prop :=
  ∃ (W : Wd) (μ : Mem) (F : List Addr) (act : N SD), W.Ok H ∧ W.tab = theTab K ∧ MemOk K W H μ F ∧
    (∀ (E : XK) (Q' : VK), (act (μ, false)).run (fun r => ∀ W' v H', Ret2 K W H F W' H' v r.1 r.2.1 → Q' v H') (XP K W H E) → tl E H Q') ∧
    (G act (μ, false)).run (fun r => ∀ W' v H', Ret2 K W H F W' H' v r.1 r.2.1 → Q v H') (fun _ => False)
def callL (G : N SD → N SD) (a : N SD) : N SD := fun m => M.calm (G a (m.1, false)) >>= fun r => pure (r.1, (r.2.1, true))
def plS (x : SD) : SD := if isOwn x = true then .no else x
def callLam (G : N SD → N SD) (T : List SD → N SD) (ρ : List SD) : N SD := callL G (T (ρ.map plS))
section
variable {K : PySem.W.Frag} {W : Wd} {H H1 : Hp} {σ : L2.St} {ρ : List SD}
end
section
variable {X : Cx} {E0' : XK}
end
def tryN (errs : List Str) (isA : Str → Str → Bool) (i : Nat) (l : List HK) (x : N (List SD)) (ρ : List SD) : N Out := fun m =>
  ⟨fun P E => i < ρ.length ∧ (x m).run (fun r => P (.nx r.1, r.2)) (fun e => e.C ∈ errs ∧ handle isA i ρ (fun o => P (o, m)) E e l), fun h g p => ⟨p.1, M.mono _ (fun _ q => h _ q) (fun e q => ⟨q.1, handle_mono (fun _ => h _) g q.2⟩) p.2⟩⟩
def retN (x : N Out) : N SD := fun m => x m >>= fun r => match r.1 with
  | .rt y => pure (y, r.2)
  | .nx _ => pure (.d .none, r.2)
  | _ => M.fail
def AtTry2 (K : PySem.W.Frag) (f c : Addr) (q : Str) (tl : XK → Hp → VK → Prop) (G : N SD → List SD → N Out) : TS := fun D σ H => ∃ (W : Wd) (ρ : List SD) (μ : Mem) (F : List Addr) (act : N SD), SSt K W H W H σ ρ ∧ MemOk K W H μ F ∧ σ[0]? = some (some (.ref f)) ∧ H c = some (CodeO c q) ∧
  (∀ (E : XK) (Q' : VK), (act (μ, false)).run (fun r => ∀ W' v H', Ret2 K W H F W' H' v r.1 r.2.1 → Q' v H') (XP K W H E) → tl E H Q') ∧ (G act ρ (μ, false)).run (Out2 K W H F W H D) (fun _ => False)
theorem S2.start {K : PySem.W.Frag} {W : Wd} {H : Hp} {F : List Addr} {σ : L2.St} {ρ : List SD} {μ : Mem} (s : SSt K W H W H σ ρ) (M0 : MemOk K W H μ F) : S2 K W H F W H σ ρ (μ, false) F := ⟨W, H, s, M0, fun b hb => ⟨M0.inS b hb, rfl⟩, Lnk.refl W H F⟩
section
variable {Y : Cx} {ec : Expr} {f c : Addr} {q n : Str} {i : Nat} {tl : XK → Hp → VK → Prop} {errs hs : List Str} {isA : Str → Str → Bool}
end
section
variable {K : PySem.W.Frag} {W : Wd} {H : Hp} {σ : L2.St} {ρ : List SD}
end
end Dd
namespace Dd
open PySem PySem.Spec PyProof.Rows L2
section
variable {X : Cx} {CX : CXT} {n : Nat} {C f : Addr} {fd : FuncData} {ps : List Str} {sp : Sp}
end
def OkDun (P : Program) (w : World) (K : PySem.W.Frag) (mg : Str → Option Value) (base : Heap) (k : Nat) (nm : Str) (g : List SD → M SD) : Prop := ∃ C f fd ps, StoreC K C ∧ PySem.W.findIn K (.ref C) nm = some (some (.ref f)) ∧ PySem.W.isFn K (.ref f) = true ∧ L2.Binds K fd ps [] ∧ FnOk P w K mg base (L2.CX P w) k f fd ps (spX K 1 g)
section
variable {X : Cx} {E : XK} {o : Expr} {p pos : Pos} {T0 : List SD → M SD} {k : Nat} {g : List SD → M SD}
end
end Dd
namespace Dd
open PySem PySem.Spec PyProof.Rows L2
def txS : SD → Option Str
  | .d (.str y) => if y.length ≤ 3000 then some y else none
  | .d (.int i) => if i.natAbs.log2 < 1600 then some (Str.ofString (toString i)) else none
  | _ => none
def jsM : List (List SD → M SD) → List SD → Str → M SD
  | [], _, acc => pure (dS acc)
  | t :: ts, ρ, acc => do let x ← t ρ; let y ← M.lift (txS x); M.when (szOk (acc ++ y).length) (jsM ts ρ (acc ++ y))
def DJ2 (X : Cx) (EX : L2.St → XK) (es : List Expr) (Ts : List (List SD → M SD)) : Prop := ∃ ts, PJ X es ts ∧ ∀ {W : Wd} {ρ : List SD} {σ : L2.St} {H : Hp} (acc : Str) (Q : Str → Hp → Prop), W.Ok H → Rel X.K W H σ ρ →
  (jsM Ts ρ acc).run (fun z => ∀ y H', z = dS y → Kp W H H' → W.Ok H' → Q y H') (XP X.K W H (EX σ)) → tJs ts acc σ H Q
section
variable {X : Cx} {EX : L2.St → XK} {e : Expr} {es : List Expr} {pos p : Pos} {T : List SD → M SD} {Ts : List (List SD → M SD)}
theorem dj2_nil : DJ2 X EX [] [] := ⟨[], .nil, fun {W ρ σ H} acc Q ok rel h => h acc H rfl (Kp.refl W H) ok⟩
theorem dj2_str {z : Str} {j : Nat} (hz : z.length ≤ 3000) (r : DJ2 X EX es Ts) : DJ2 X EX (.Constant (.str z) j pos :: es) ((fun _ => pure (dS z)) :: Ts) := by
  obtain ⟨ts, h1, h2⟩ := r
  refine ⟨_, .cons pe_str h1, fun {W ρ σ H} acc Q ok rel h => ?_⟩
  obtain ⟨y, hy, h⟩ := run_lift.mp h
  have hy : (if z.length ≤ 3000 then some z else none) = some y := hy
  rw [if_pos hz] at hy
  cases hy
  obtain ⟨c, h⟩ := run_when.mp h
  exact ⟨z, rfl, szOk.le c, h2 (acc ++ z) Q ok rel h⟩
theorem dj2_fmt (h : DE X EX e T) (r : DJ2 X EX es Ts) : DJ2 X EX (.FormattedValue e (-1) none pos :: es) (T :: Ts) := by
  obtain ⟨ts, h1, h2⟩ := r
  refine ⟨_, .cons (pe_fmt h) h1, fun {W ρ σ H} acc Q ok rel q => ?_⟩
  refine ⟨W, ρ, ok, rel, (T ρ).mono (fun x q v H1 k1 ok1 r1 => ?_) (fun _ q => q) q⟩
  obtain ⟨y, hy, q⟩ := run_lift.mp q
  obtain ⟨c, q⟩ := run_when.mp q
  have go : (acc ++ y).length ≤ sizeLine ∧ tJs ts (acc ++ y) σ H1 Q :=
    ⟨szOk.le c, h2 (acc ++ y) Q ok1 (rel.keep ok k1) (M.mono _ (fun z q w H' e k' ok' => q w H' e (k1.trans k') ok') (fun e q => XP.trans ok k1 ok1 q) q)⟩
  unfold txS at hy
  split at hy
  · split at hy
    · rename_i hl
      cases hy
      cases r1
      exact .inl ⟨_, rfl, by rw [sizeLine_eq]; omega, _, rfl, go.1, go.2⟩
    · cases hy
  · split at hy
    · rename_i hl
      cases hy
      cases r1
      exact .inr ⟨_, rfl, by omega, _, rfl, go.1, go.2⟩
    · cases hy
  · cases hy
theorem de_jsx {v1 v2 : Expr} {rest : List Expr} (h : DJ2 X EX (v1 :: v2 :: rest) Ts) : DE X EX (.JoinedStr (v1 :: v2 :: rest) pos) (fun ρ => jsM Ts ρ Str.empty) := by
  obtain ⟨ts, h1, h2⟩ := h
  refine pe_imp (pe_joined h1) fun σ H Q ⟨W, ρ, ok, rel, h⟩ => ?_
  have key : ∀ (Ts : List (List SD → M SD)) (acc : Str) {E : Exn → Prop} {P : SD → Prop}, (jsM Ts ρ acc).run P E → (jsM Ts ρ acc).run (fun z => P z ∧ ∃ y, z = dS y) E := by
    intro Ts
    induction Ts with
    | nil => exact fun acc {E P} h => ⟨h, acc, rfl⟩
    | cons t ts ih =>
      intro acc E P h
      refine M.mono (t ρ) (fun x q => ?_) (fun _ z => z) (run_bind.mp h)
      obtain ⟨y, hy, q⟩ := run_lift.mp q
      obtain ⟨c, q⟩ := run_when.mp q
      exact run_lift.mpr ⟨y, hy, run_when.mpr ⟨c, ih _ q⟩⟩
  refine h2 Str.empty _ ok rel (M.mono _ (fun z q y H' e k ok' => ?_) (fun _ q => q) h)
  subst e
  exact q (.str y) H' k ok' (.str y)
def bStr : List SD → M SD
  | [.d (.int i)] => M.when (decide (i.natAbs.log2 < 1600)) (pure (dS (Str.ofString (toString i))))
  | _ => M.fail
def gObp : SD → SD → Option SD
  | .x (.ob c fs), .d d => some (.x (.obp c fs d))
  | _, _ => none
def gObpL : List SD → Option SD
  | [x, y] => gObp x y
  | _ => none
end
def kObp (i j : Nat) : SD → List SD → Option (List SD)
  | .x (.obp c fs d), ρ => some ((ρ.set i (.x (.ob c fs))).set j (.d d))
  | _, _ => none
section
variable {X : Cx} {E : XK} {e o : Expr} {x : Str} {pos p apos cpos : Pos} {T : List SD → M SD}
def dropD (ds : List (Key × PyData)) (k : Key) : List (Key × PyData) := ds.filter fun p => decide (p.1 ≠ k)
def getK (ds : List (Key × PyData)) (k : Key) : Option PyData := (ds.find? fun p => decide (p.1 = k)).map (·.2)
end
section
variable {X : Cx} {E : XK} {e o : Expr} {pos apos cpos : Pos} {T : List SD → N SD}
end
end Dd
namespace Dd
open PySem PySem.Spec PyProof.Rows L2
def lstLen : SD → Option Nat
  | .d (.list xs) => some xs.length
  | .own xs => some xs.length
  | _ => none
def isE : SD → Bool
  | .d (.list []) => true
  | _ => false
def gNeL (x y : SD) : Option SD := if isE y = true then (lstLen x).map fun n => dB (decide (n ≠ 0)) else none
def gEqL (x y : SD) : Option SD := if isE y = true then (lstLen x).map fun n => dB (decide (n = 0)) else none
section
variable {X : Cx}
def rNeL (K : PySem.W.Frag) : R2 := fun x y H Q => ∃ a b xs, x = .ref a ∧ y = .ref b ∧ SqL K H a xs ∧ SqL K H b [] ∧ Q (.bl (decide (xs.length ≠ 0))) H
def rEqL (K : PySem.W.Frag) : R2 := fun x y H Q => ∃ a b xs, x = .ref a ∧ y = .ref b ∧ SqL K H a xs ∧ SqL K H b [] ∧ Q (.bl (decide (xs.length = 0))) H
theorem vals_len {xs : List V} {us : List Value} (h : Vals xs us) : xs.length = us.length := by
  induction h with
  | nil => rfl
  | cons _ _ ih => rw [List.length_cons, List.length_cons, ih]
theorem op_neL (hu : X.A.units < cLine) : OpR X (compareOp .NotEq) (rNeL X.K) := by
  intro pins s σ H x y v u Q I rx ry h
  obtain ⟨a, b, xs, rfl, rfl, ha, hb, q⟩ := h
  cases rx
  cases ry
  obtain ⟨its, rv, ⟨o, n, ho, hc, _, hd⟩, _⟩ := I.list ha
  obtain ⟨its2, rv2, ⟨o2, n2, ho2, hc2, _, hd2⟩, _⟩ := I.list hb
  have l1 := vals_len rv
  have l2 := vals_len rv2
  by_cases z : xs.length = 0
  · refine SeqAt.RcNeAt.lists (items := its.toArray) (items2 := its2.toArray) (e := fun _ => true) ⟨o, ho, hc, n, hd⟩ ⟨o2, ho2, hc2, n2, hd2⟩ (by simp; rw [← l1, ← l2, z]; rfl) hu (fun j h1 _ => absurd h1 (by simp; omega)) _ _ _ _ ?_
    have e : (List.range its.toArray.size) = [] := by
      rw [show its.toArray.size = 0 from l1.symm.trans z]
      rfl
    rw [e]
    refine ⟨.bl _, H, I, ?_, q⟩
    rw [decide_eq_false (fun w => w z)]
    rfl
  · refine SeqAt.RcNeAt.lists_lengths (items := its.toArray) (items2 := its2.toArray) ⟨o, ho, hc, n, hd⟩ ⟨o2, ho2, hc2, n2, hd2⟩ (by
      have e2 : its2.length = 0 := l2.symm
      simp [e2]
      intro w
      rw [w] at l1
      exact z l1) hu _ _ _ _ ?_
    refine ⟨.bl _, H, I, ?_, q⟩
    rw [decide_eq_true z]
    rfl
theorem lst_rv {K : PySem.W.Frag} {W : Wd} {H : Hp} {v : V} {x : SD} {n : Nat} (h : lstLen x = some n) (r : RV K W H v x) : ∃ a xs, v = .ref a ∧ SqL K H a xs ∧ xs.length = n := by
  unfold lstLen at h
  split at h
  · cases h
    cases r with
    | lst l t => exact ⟨_, _, rfl, l.sq, t.length⟩
  · cases h
    obtain ⟨p, xs, rfl, _, _, hp, t⟩ := r
    exact ⟨p, xs, rfl, .inl (.inl hp), t.length⟩
  · cases h
theorem emp_rv {K : PySem.W.Frag} {W : Wd} {H : Hp} {v : V} {x : SD} (h : isE x = true) (r : RV K W H v x) : ∃ a, v = .ref a ∧ SqL K H a [] := by
  unfold isE at h
  split at h
  · cases r with
    | lst l t =>
      cases t
      exact ⟨_, rfl, l.sq⟩
  · cases h
theorem c_neL {k : Nat} (hr : Room k X.A) : CmpR X .NotEq gNeL := by
  have hu : X.A.units < cLine := by have := hr.units; omega
  refine ⟨_, op_neL hu, fun {W H v w x y z Q} ok r1 r2 h q => ?_⟩
  unfold gNeL at h
  split at h
  · rename_i ye
    obtain ⟨n, hn, rfl⟩ := Option.map_eq_some_iff.mp h
    obtain ⟨a, xs, rfl, sa, rfl⟩ := lst_rv hn r1
    obtain ⟨b, rfl, sb⟩ := emp_rv ye r2
    exact ⟨a, b, xs, rfl, rfl, sa, sb, q.here ok (.bl _)⟩
  · cases h
end
end Dd
namespace Dw
open PySem PySem.Spec PyProof.Rows L2
def topS (i : Nat) : Stmt := PySem.Challenge.pw_doubtwell_k41_invalid_query_text.main.body.getD i (.Pass ⟨0, 0, 0, 0⟩)
abbrev sSrc : Stmt := topS 23
abbrev sDraw : Stmt := topS 24
theorem scSrc : FnScope ["_law_script"] ["_law_script"] (defScope sSrc) := ⟨rfl, rfl, rfl, by decide +kernel, rfl, by decide +kernel, by decide +kernel⟩
theorem scDraw : FnScope ["_law_source_here", "_law_count", "_law_cell", "_law_rest", "_law_twice"] ["_law_source_here", "_law_count"] (defScope sDraw) := ⟨rfl, rfl, rfl, by decide +kernel, rfl, by decide +kernel, by decide +kernel⟩
section
variable {P : Program} {w : World} {K : PySem.W.Frag} {mg : Str → Option Value} {base : Heap}
theorem ok_src {f : Addr} {fd : FuncData} {k : Nat} (F : Fun K "_law_source" "_law_source" sSrc f fd) (mL : mg "list" = none) : FnOk P w K mg base CX0 (k + 1) f fd ["_law_script"] (spSrc K) := by
  refine F.ok scSrc (fun vs H Q E h => ?_) (fun cdv A outer s H vs Q E hr h => ?_)
  · obtain ⟨a, ns, rfl, _⟩ := h
    rfl
  · obtain ⟨a, ns, rfl, hS, q⟩ := h
    refine ⟨_, pss_one (ps_ret (pe_lst (pa_cons (pe_callTy call_list_of (by rfl) mL (by decide +kernel) (pa_cons (pe_slice sl_list (pv 0) po_none (po_some pe_int)) pa_nil)) (pa_cons pe_int (pa_cons pe_int (pa_cons pe_int pa_nil)))))), ?_⟩
    obtain ⟨ms, hms⟩ := cut_ints ns none (some 63)
    refine ⟨_, rfl, 63, rfl, a, _, rfl, hS, fun c nc => ⟨c, _, rfl, .inl (.inl (.inl upd_same)), fun l nl => ⟨Nat.le_of_ble_eq_true rfl, fun p np => ?_⟩⟩⟩
    rw [hms] at nl np ⊢
    have s1 : Same H (upd H c (.lst (ms.map V.int))) := same_new nc
    have s2 : Same (upd H c (.lst (ms.map V.int))) (upd (upd H c (.lst (ms.map V.int))) l (.lst (ms.map V.int))) := same_new nl
    have s3 := same_new (o := .lst [.ref l, .int 0, .int 0, .int 4711]) np
    have nlp : l ≠ p := fun z => by
      rw [z, upd_same] at np
      cases np
    refine q _ p l ((s1.trans s2).trans s3) ((s1.trans s2).free np) (s1.free nl) ⟨ms, 0, 0, 4711, nlp, upd_same, ?_, by decide, by decide, by decide, by decide⟩
    rw [upd_ne nlp, upd_same]
theorem ok_draw {f : Addr} {fd : FuncData} {k : Nat} (F : Fun K "_law_draw" "_law_draw" sDraw f fd) (mL : mg "len" = none) (mA : mg "abs" = none) : FnOk P w K mg base CX0 (k + 1) f fd ["_law_source_here", "_law_count"] spDraw := by
  refine F.ok scDraw (fun vs H Q E h => ?_) (fun cdv A outer s H vs Q E hr h => ?_)
  · obtain ⟨a, l, c, rfl, _⟩ := h
    rfl
  · obtain ⟨a, l, c, rfl, ⟨ms, i, r, sd, S⟩, hc, hc2, q⟩ := h
    refine ⟨_, C8.pss_cut (ps_if (PW.pt (pw_and (pt_cmpR op_eq (pe_ix ix_list (pv 0) pe_int (fun _ _ => rfl)) pe_int (nomark _))
          (pw_and1 (pt_cmpR op_lt (pe_ix ix_list (pv 0) pe_int (fun _ _ => rfl)) (pe_callB call_len_seq (by rfl) mL PySem.boot_len (pa_cons (pe_ix ix_list (pv 0) pe_int (fun _ _ => rfl)) pa_nil)) (nomark _)))))
        (pss_cons (ps_set (i := 2) scDraw.nd rfl (.inl rfl) (pe_ix ix_list (pe_ix ix_list (pv 0) pe_int (fun _ _ => rfl)) (pe_ix ix_list (pv 0) pe_int (fun _ _ => rfl)) (fun _ _ => rfl)))
        (pss_cons (ps_augS (pv 0) pe_int get_list pe_int ip_add set_list)
        (pss_one (ps_if (pt_cmpR op_ge (pe_callB call_abs (by rfl) mA (by decide +kernel) (pa_cons (pv 2) pa_nil)) (pe_op op_pow pe_int pe_int) (nomark _))
          (pss_one (ps_asg (pe_callB call_abs (by rfl) mA (by decide +kernel) (pa_cons (pv 2) pa_nil)) (pg_sub (pv 0) pe_int set_list)))
          (pss_one (ps_asg (pe_op op_mod (pe_op op_add (pe_op op_add (pe_op op_mul (pe_ix ix_list (pv 0) pe_int (fun _ _ => rfl)) pe_int) (pe_op op_mul (pe_op op_mod (pv 2) pe_int) pe_int)) pe_int) pe_int) (pg_sub (pv 0) pe_int set_list)))))))
        pss_nil)
      (C8.pss_cut (ps_if (pt_cmpR op_gt (pe_ix ix_list (pv 0) pe_int (fun _ _ => rfl)) pe_int (nomark _))
        (pss_cons (ps_set (i := 3) scDraw.nd rfl (.inl rfl) (pe_ix ix_list (pv 0) pe_int (fun _ _ => rfl)))
        (pss_cons (ps_asg (pe_op op_fdivW (pv 3) (pv 1)) (pg_sub (pv 0) pe_int set_list))
        (pss_one (ps_ret (pe_op op_mod (pv 3) (pv 1)))))) pss_nil)
      (pss_cons (ps_set (i := 4) scDraw.nd rfl (.inl rfl) (pe_op op_mod (pe_op op_mul (pe_ix ix_list (pv 0) pe_int (fun _ _ => rfl)) (pe_ix ix_list (pv 0) pe_int (fun _ _ => rfl))) pe_int))
      (pss_cons (ps_asg (pe_op op_mod (pe_op op_add (pe_op op_add (pe_op op_mul (pv 4) pe_int) (pe_op op_mul (pe_ix ix_list (pv 0) pe_int (fun _ _ => rfl)) pe_int)) pe_int) pe_int) (pg_sub (pv 0) pe_int set_list))
      (pss_one (ps_ret (pe_op op_mod (pe_op op_fdiv (pe_ix ix_list (pv 0) pe_int (fun _ _ => rfl)) pe_int) (pv 1))))))), ?_⟩
    refine ⟨fun σ' H' => ∃ y2 i' r' s', σ' = [some (.ref a), some (.int c), y2, none, none] ∧ But a H H' ∧ SrcIs H' a l ms i' r' s', ?_, ?_⟩
    · refine ⟨_, rfl, a, _, _, _, rfl, rfl, SqL.of S.at_, rfl, rfl, _, rfl, ite2 (fun e => ?_) (fun e => iteF ⟨none, i, r, sd, rfl, But.refl a H, S⟩)⟩
      refine ⟨_, rfl, a, _, _, _, rfl, rfl, SqL.of S.at_, rfl, _, rfl, a, _, _, _, rfl, rfl, SqL.of S.at_, rfl, l, _, rfl, .inl (SqL.of S.cells), _, _, rfl, rfl, _, rfl, ite2 (fun e2 => ?_) (fun e2 => ⟨none, i, r, sd, rfl, But.refl a H, S⟩)⟩
      have hi : i < ((ms.map V.int).length : Int) := of_decide_eq_true e2
      have i0 := S.i0
      rw [List.length_map] at hi
      obtain ⟨j, rfl⟩ : ∃ j : Nat, i = (j : Int) := ⟨i.toNat, by omega⟩
      have hj : j < ms.length := by omega
      have gx : (ms.map V.int)[j]? = some (.int ms[j]) := by
        rw [List.getElem?_map, List.getElem?_eq_getElem hj]
        rfl
      refine ⟨_, rfl, a, _, _, _, rfl, rfl, SqL.of S.at_, rfl, _, rfl, a, _, _, _, rfl, rfl, SqL.of S.at_, rfl, l, _, _, _, rfl, rfl, SqL.of S.cells, atI_nat gx, ?_⟩
      refine ⟨_, rfl, a, _, 1, _, rfl, rfl, SqL.of S.at_, rfl, _, _, rfl, rfl, a, _, _, 1, rfl, rfl, S.at_, rfl, ?_⟩
      have S1 : SrcIs (upd H a (.lst [.ref l, .int ((j : Int) + 1), .int r, .int sd])) a l ms ((j : Int) + 1) r sd := ⟨S.ne, upd_same, by rw [upd_ne S.ne]; exact S.cells, by omega, S.r0, S.s0, S.s1⟩
      have B1 : But a H (upd H a (.lst [.ref l, .int ((j : Int) + 1), .int r, .int sd])) := (But.refl a H).upd
      refine ⟨_, rfl, _, rfl, 10, 18, rfl, rfl, ⟨by decide, by decide, by decide⟩, _, _, rfl, rfl, _, rfl, ite2 (fun e3 => ?_) (fun e3 => ?_)⟩
      · refine ⟨_, rfl, _, rfl, _, rfl, a, _, _, 2, rfl, rfl, S1.at_, rfl, _, _, _, _, rfl, B1.upd, S.ne, upd_same, ?_, ?_, ?_, S.s0, S.s1⟩
        · rw [upd_ne S.ne]; exact S1.cells
        · exact S1.i0
        · rw [abs_if]; omega
      · refine ⟨_, rfl, a, _, _, _, rfl, rfl, SqL.of S1.at_, rfl, _, _, rfl, rfl, .inr ⟨by decide, by decide⟩, _, rfl, _, _, rfl, rfl, (by show (0 : Int) < 1000033; decide), _, _, rfl, rfl, .inr ⟨by decide, by decide⟩, _, _, rfl, rfl, _, _, rfl, rfl, _, _, rfl, rfl, (by show (0 : Int) < 2147483587; decide), _, rfl, a, _, _, 3, rfl, rfl, S1.at_, rfl, _, _, _, _, rfl, B1.upd, S.ne, upd_same, ?_, ?_, ?_, ?_, ?_⟩
        · rw [upd_ne S.ne]; exact S1.cells
        · exact S1.i0
        · exact S.r0
        · exact Int.emod_nonneg _ (by decide)
        · exact Int.emod_lt_of_pos _ (by decide)
    · rintro σ' H' ⟨y2, i', r', s', rfl, B, S'⟩
      refine ⟨fun σ'' H'' => σ'' = [some (.ref a), some (.int c), y2, none, none] ∧ H'' = H', ?_, ?_⟩
      · refine ⟨_, rfl, a, _, _, _, rfl, rfl, SqL.of S'.at_, rfl, _, _, rfl, rfl, _, rfl, ite2 (fun e => ?_) (fun e => ⟨rfl, rfl⟩)⟩
        have hr0 : 0 < r' := of_decide_eq_true e
        refine ⟨_, rfl, a, _, _, _, rfl, rfl, SqL.of S'.at_, rfl, _, rfl, _, rfl, r', c, rfl, rfl, wide_div (b := 8000) hc hc2 (by decide) (by decide), _, rfl, a, _, _, 2, rfl, rfl, S'.at_, rfl, _, rfl, _, rfl, r', c, rfl, rfl, hc, ?_⟩
        refine q _ _ B.upd ⟨ms, i', r' / c, s', S.ne, upd_same, ?_, S'.i0, Int.ediv_nonneg S'.r0 (by omega), S'.s0, S'.s1⟩ (Int.emod_nonneg _ (by omega)) (Int.emod_lt_of_pos _ hc)
        rw [upd_ne S.ne]; exact S'.cells
      · rintro σ'' H'' ⟨rfl, rfl⟩
        have h0 := S'.s0
        have h1 := S'.s1
        refine ⟨_, rfl, a, _, _, _, rfl, rfl, SqL.of S'.at_, rfl, _, rfl, a, _, _, _, rfl, rfl, SqL.of S'.at_, rfl, _, _, rfl, rfl, .inl ⟨by omega, by omega⟩, _, _, rfl, rfl, (by show (0 : Int) < 2147483587; decide), ?_⟩
        refine ⟨_, rfl, _, _, rfl, rfl, .inr ⟨by decide, by decide⟩, _, rfl, a, _, _, _, rfl, rfl, SqL.of S'.at_, rfl, _, _, rfl, rfl, .inr ⟨by decide, by decide⟩, _, _, rfl, rfl, _, _, rfl, rfl, _, _, rfl, rfl, (by show (0 : Int) < 2147483587; decide), _, rfl, a, _, _, 3, rfl, rfl, S'.at_, rfl, ?_⟩
        refine ⟨_, rfl, a, _, _, _, rfl, rfl, SqL.of upd_same, rfl, _, _, rfl, rfl, ⟨by decide, by decide⟩, _, rfl, _, c, rfl, rfl, hc, ?_⟩
        refine q _ _ B.upd ⟨ms, i', r', _, S.ne, upd_same, ?_, S'.i0, S'.r0, Int.emod_nonneg _ (by decide), Int.emod_lt_of_pos _ (by decide)⟩ (Int.emod_nonneg _ (by omega)) (Int.emod_lt_of_pos _ hc)
        rw [upd_ne S.ne]; exact S'.cells
end
end Dw
namespace Dw
open PySem PySem.Spec PyProof.Rows L2
abbrev sSame : Stmt := topS 27
abbrev nSame : List Str := ["_law_found", "_law_expected", "_law_x", "_law_y"]
theorem scSame : FnScope nSame ["_law_found", "_law_expected"] (defScope sSame) := ⟨rfl, rfl, rfl, by decide +kernel, rfl, by decide +kernel, by decide +kernel⟩
structure BltS (mg : Str → Option Value) : Prop where
  isi : mg "isinstance" = none
  lst : mg "list" = none
  tup : mg "tuple" = none
  len : mg "len" = none
  all : mg "all" = none
  zip : mg "zip" = none
  bl : mg "bool" = none
  int : mg "int" = none
  dict : mg "dict" = none
  str : mg "str" = none
section
variable {P : Program} {w : World} {K : PySem.W.Frag} {mg : Str → Option Value} {base : Heap}
def spPrev (K : PySem.W.Frag) : Nat → Sp
  | 0 => fun _ _ _ _ => False
  | n + 1 => spSame K n
theorem kitLT {K : PySem.W.Frag} (d : PyData) : PySem.W.kitAny K (.type (tyName d)) [.type "list", .type "tuple"] = some (isL d || isT d) := by
  refine kitAny_cons (kit_ty (kitL d)) (fun h => kitAny_cons (kit_ty (kitT d)) (fun h2 => ?_) (fun h2 => ?_)) (fun h => ?_)
  · rw [h, h2]
    exact kitAny_nil
  · rw [h2, Bool.or_true]
  · rw [h, Bool.true_or]
theorem same_tags {n : Nat} {d e : PyData} (h : sameD n d e = true) : isL d = isL e ∧ isT d = isT e ∧ isN d = isN e ∧ isB d = isB e ∧ isI d = isI e ∧ isM d = isM e ∧ isS d = isS e := by
  cases n <;> cases d <;> cases e <;> first | exact ⟨rfl, rfl, rfl, rfl, rfl, rfl, rfl⟩ | (exact absurd h (by simp [sameD, sameS]))
theorem same_scal {n : Nat} {d e : PyData} (nL : isL e = false) (nT : isT e = false) : sameD n d e = sameS d e := by
  cases n <;> cases e <;> first | rfl | (cases d <;> rfl) | exact Bool.noConfusion (show true = false from nL) | exact Bool.noConfusion (show true = false from nT)
theorem tag_ne {n : Nat} {d e : PyData} {a b : Bool} (hp : sameD n d e = true → a = b) (c : (!decide (V.bl a = V.bl b)) = true) : sameD n d e = false := by
  cases z : sameD n d e with
  | false => rfl
  | true =>
    rw [hp z, decide_eq_true rfl] at c
    cases c
theorem tag_eq {a b : Bool} (c : ¬ (!decide (V.bl a = V.bl b)) = true) : a = b := by
  cases a <;> cases b <;> first | rfl | exact absurd rfl c
theorem zip_get {α β γ : Type} {f : α → β → γ} {as : List α} {bs : List β} {i : Nat} {a : α} {b : β} (h1 : as[i]? = some a) (h2 : bs[i]? = some b) : (List.zipWith f as bs)[i]? = some (f a b) := by
  rw [List.getElem?_zipWith, h1, h2]
theorem same_turns {J : It} {n : Nat} {xs ys : List V} {ds es : List PyData} {H H1 : Hp} {D : Addr} {Qd : Hp → Prop} {σ : L2.St} (h1 : Same H H1) (hx : DpAll K H xs ds) (hy : DpAll K H ys es) (hl : ds.length = es.length) (sh : ds.length ≤ 1000) (fit : ∀ e ∈ es, fits n e) (nD : H1 D = none)
    (sσ : σ.length = 4)
    (go : ∀ i H', Same H1 H' → i < xs.length → J.go i H') (stop : ∀ H', Same H1 H' → J.stop xs.length H')
    (yl : ∀ i H' v H'', Same H1 H' → J.yld i H' v H'' → ∃ T x y, v = .ref T ∧ H' T = none ∧ H'' = upd H' T (.tup [x, y]) ∧ xs[i]? = some x ∧ ys[i]? = some y)
    (hd : ∀ H', Same H1 H' → H' D = some (.lst ((List.zipWith (sameD n) ds es).map V.bl)) → Qd H') :
    ∃ W : Nat → Nat → Hp → Prop, (∃ m, W 0 m (upd H1 D (.lst []))) ∧ ∀ i m H, W i m H →
      (J.stop i H ∧ Qd H) ∨ (J.go i H ∧ ∃ Nx : Hp → Prop, (∀ H', Nx H' → ∃ m', m' < m ∧ W (i + 1) m' H') ∧ ∀ x H', J.yld i H x H' → gTup K 2 (gCons (gName 2) (gCons (gName 3) gNil)) x (wipe σ [2, 3]) H' fun σ2 H2 => wipe σ2 [2, 3] = wipe σ [2, 3] ∧ tYes σ2 H2 fun b H3 =>
        if b = true then tCall (spSame K n) [] E0 (tCons (tVar 2) (tCons (tVar 3) tNil)) σ2 H3 fun y H4 => ∃ acc, H4 D = some (.lst acc) ∧ acc.length < sizeLine ∧ Nx (upd H4 D (.lst (acc ++ [y]))) else Nx H3) := by
  have lx := dps_len hx
  have ly := dps_len hy
  obtain ⟨s0, s1, s2, s3, rfl⟩ : ∃ s0 s1 s2 s3, σ = [s0, s1, s2, s3] := by
    match σ, sσ with
    | [a, b, c, d], _ => exact ⟨a, b, c, d, rfl⟩
  refine lc_pairs (xs := xs) (ys := ys) (by omega) (fun i H' => Same H1 H' ∧ H' D = some (.lst (((List.zipWith (sameD n) ds es).take i).map V.bl))) ⟨same_new nD, upd_same⟩ (fun i H' p => go i H' p.1) (fun H' p => stop H' p.1) (fun i H' v H'' p y => yl i H' v H'' p.1 y) ?_ ?_
  · rintro i x y T H' ex ey ⟨sm, eD⟩ nT
    have sT : Same H' (upd H' T (.tup [x, y])) := same_new nT
    have sA : Same H (upd H' T (.tup [x, y])) := (h1.trans sm).trans sT
    obtain ⟨d, ed, dd⟩ := dps_get hx ex
    obtain ⟨e, ee, de⟩ := dps_get hy ey
    refine ⟨T, [x, y], rfl, SqT.of upd_same, rfl, x, [y], rfl, y, [], rfl, rfl, rfl, ?_⟩
    refine ⟨x, rfl, y, rfl, x, y, d, e, rfl, dp_same sA dd, dp_same sA de, fit e (List.mem_of_getElem? ee), fun H4 s4 => ?_⟩
    have zg : (List.zipWith (sameD n) ds es)[i]? = some (sameD n d e) := zip_get ed ee
    refine ⟨_, s4 _ _ (sT _ _ eD), ?_, same_upd ((sm.trans sT).trans s4) nD, ?_⟩
    · rw [List.length_map, List.length_take, List.length_zipWith]
      exact small1000 (by omega)
    · rw [upd_same, List.take_add_one, zg, List.map_append]
      rfl
  · rintro H' ⟨sm, eD⟩
    rw [List.take_of_length_le (by rw [List.length_zipWith]; omega)] at eD
    exact hd H' sm eD
theorem same_step {f : Addr} {fd : FuncData} {n : Nat} (F : Fun K "_law_same" "_law_same" sSame f fd) (g : mg "_law_same" = some (.ref f)) (bn : L2.Binds K fd ["_law_found", "_law_expected"] []) (B : BltS mg)
    (ih : FnOk P w K mg base CX0 (n + 1) f fd ["_law_found", "_law_expected"] (spPrev K n)) : FnOk P w K mg base CX0 (n + 2) f fd ["_law_found", "_law_expected"] (spSame K n) := by
  refine F.ok scSame (fun vs H Q E h => ?_) (fun cdv A outer s H vs Q E hr h => ?_)
  · obtain ⟨x, y, d, e, rfl, _⟩ := h
    rfl
  · obtain ⟨x, y, d, e, rfl, hd, he, hf, q⟩ := h
    refine ⟨_, pss_cons (ps_if (pt_val (pe_callB call_isiT (by rfl) B.isi (by decide +kernel) (pa_cons (pv 1) (pa_cons (pe_tup (pa_cons (pe_bltn (v := .ty "list") (by rfl) B.lst (by decide +kernel) rfl) (pa_cons (pe_bltn (v := .ty "tuple") (by rfl) B.tup (by decide +kernel) rfl) pa_nil))) pa_nil))))
        (pss_cons (ps_if (PW.pt (pw_or (pt_cmpR op_ne (pe_callB call_isi (by rfl) B.isi (by decide +kernel) (pa_cons (pv 0) (pa_cons (pe_bltn (v := .ty "list") (by rfl) B.lst (by decide +kernel) rfl) pa_nil)))
              (pe_callB call_isi (by rfl) B.isi (by decide +kernel) (pa_cons (pv 1) (pa_cons (pe_bltn (v := .ty "list") (by rfl) B.lst (by decide +kernel) rfl) pa_nil))) (nomark _))
            (pw_or1 (pt_cmpR op_ne (pe_callB call_isi (by rfl) B.isi (by decide +kernel) (pa_cons (pv 0) (pa_cons (pe_bltn (v := .ty "tuple") (by rfl) B.tup (by decide +kernel) rfl) pa_nil)))
              (pe_callB call_isi (by rfl) B.isi (by decide +kernel) (pa_cons (pv 1) (pa_cons (pe_bltn (v := .ty "tuple") (by rfl) B.tup (by decide +kernel) rfl) pa_nil))) (nomark _)))))
            (pss_one (ps_ret pe_bl)) pss_nil)
          (pss_one (ps_ret (pe_and (pe_cmpR op_eq (pe_callB call_len_seq (by rfl) B.len PySem.boot_len (pa_cons (pv 0) pa_nil)) (pe_callB call_len_seq (by rfl) B.len PySem.boot_len (pa_cons (pv 1) pa_nil)) (nomark _))
            (pe_one (pe_callB (cr_all rfl) (by rfl) B.all (by decide +kernel) (pa_cons (pe_lc (own := [("_law_x", 2), ("_law_y", 3)]) (g := gTup K 2 (gCons (gName 2) (gCons (gName 3) gNil))) (tt := tYes) (te := tCall (spPrev K n) [] E0 (tCons (tVar 2) (tCons (tVar 3) tNil))) rfl scSame.nd
                (RZ.pi_zipA (by rfl) B.zip (pa_cons (pv 0) (pa_cons (pv 1) pa_nil))) (blkOk_by (N := nSame) (sc := defScope sSame) (by decide +kernel))
                (fun _ _ _ _ _ => pg_tup rfl (pgs_cons (pg_name (i := 2) scSame.nd rfl (Or.inl rfl)) (pgs_cons (pg_name (i := 3) scSame.nd rfl (Or.inl rfl)) pgs_nil))) (fun _ _ _ _ _ => pts_nil)
                (fun _ _ _ _ _ => pe_call ih hr (by rfl) g F.kp bn .nil pass0 (pa_cons (pv 2) (pa_cons (pv 3) pa_nil)))) pa_nil)))))))
        pss_nil)
      (pss_cons (ps_if (PW.pt (pw_or (pt_cmpR op_ne (pe_cmp (pc_isN (pv 0))) (pe_cmp (pc_isN (pv 1))) (nomark _))
            (pw_or1 (pt_cmpR op_ne (pe_callB call_isi (by rfl) B.isi (by decide +kernel) (pa_cons (pv 0) (pa_cons (pe_bltn (v := .ty "bool") (by rfl) B.bl (by decide +kernel) rfl) pa_nil)))
              (pe_callB call_isi (by rfl) B.isi (by decide +kernel) (pa_cons (pv 1) (pa_cons (pe_bltn (v := .ty "bool") (by rfl) B.bl (by decide +kernel) rfl) pa_nil))) (nomark _)))))
            (pss_one (ps_ret pe_bl)) pss_nil)
      (pss_cons (ps_if (PW.pt (pw_or (pt_cmpR op_ne (pe_callB call_isi (by rfl) B.isi (by decide +kernel) (pa_cons (pv 0) (pa_cons (pe_bltn (v := .ty "int") (by rfl) B.int (by decide +kernel) rfl) pa_nil)))
              (pe_callB call_isi (by rfl) B.isi (by decide +kernel) (pa_cons (pv 1) (pa_cons (pe_bltn (v := .ty "int") (by rfl) B.int (by decide +kernel) rfl) pa_nil))) (nomark _))
            (pw_or1 (pt_cmpR op_ne (pe_callB call_isi (by rfl) B.isi (by decide +kernel) (pa_cons (pv 0) (pa_cons (pe_bltn (v := .ty "dict") (by rfl) B.dict (by decide +kernel) rfl) pa_nil)))
              (pe_callB call_isi (by rfl) B.isi (by decide +kernel) (pa_cons (pv 1) (pa_cons (pe_bltn (v := .ty "dict") (by rfl) B.dict (by decide +kernel) rfl) pa_nil))) (nomark _)))))
            (pss_one (ps_ret pe_bl)) pss_nil)
      (pss_one (ps_ret (pe_and (pe_cmpR op_eq (pe_callB call_isi (by rfl) B.isi (by decide +kernel) (pa_cons (pv 0) (pa_cons (pe_bltn (v := .ty "str") (by rfl) B.str (by decide +kernel) rfl) pa_nil)))
              (pe_callB call_isi (by rfl) B.isi (by decide +kernel) (pa_cons (pv 1) (pa_cons (pe_bltn (v := .ty "str") (by rfl) B.str (by decide +kernel) rfl) pa_nil))) (nomark _))
            (pe_one (pe_cmpR op_eq (pv 0) (pv 1) (nomark _)))))))), ?_⟩
    refine ⟨y, rfl, Nat.le_of_ble_eq_true rfl, fun tp ntp => ?_⟩
    have s1 : Same H (upd H tp (.tup [.ty "list", .ty "tuple"])) := same_new ntp
    have tpe : (upd H tp (.tup [.ty "list", .ty "tuple"])) tp = some (.tup [.ty "list", .ty "tuple"]) := upd_same
    generalize (upd H tp (.tup [.ty "list", .ty "tuple"])) = H1 at s1 tpe
    have hd1 := dp_same s1 hd
    have he1 := dp_same s1 he
    have tags := @same_tags n d e
    refine ⟨y, tp, _, _, _, isL e || isT e, rfl, tpe, .cons (.ty "list") (.cons (.ty "tuple") .nil), dp_ty he1, kitLT e, _, rfl, ite2 (fun c => ?_) (fun c => ?_)⟩
    · refine ⟨x, rfl, _, _, _, _, isL d, rfl, .ty "list", dp_ty hd1, kit_ty (kitL d), y, rfl, _, _, _, _, isL e, rfl, .ty "list", dp_ty he1, kit_ty (kitL e), rfl, _, rfl, ite2 (fun c1 => ?_) (fun c1 => ?_)⟩
      · have z := q _ s1
        rw [tag_ne (fun t => (tags t).1) c1] at z
        exact z
      · refine ⟨x, rfl, _, _, _, _, isT d, rfl, .ty "tuple", dp_ty hd1, kit_ty (kitT d), y, rfl, _, _, _, _, isT e, rfl, .ty "tuple", dp_ty he1, kit_ty (kitT e), rfl, _, rfl, ite2 (fun c2 => ?_) (fun c2 => ?_)⟩
        · have z := q _ s1
          rw [tag_ne (fun t => (tags t).2.1) c2] at z
          exact z
        · have eL := tag_eq c1
          have eT := tag_eq c2
          cases he1 with
          | @lst b ys es hb hes =>
            cases hd1 with
            | @lst a xs ds ha hds =>
              cases n with
              | zero => exact absurd hf.1 (by simp [isL])
              | succ m =>
                obtain ⟨f1, f2⟩ := hf
                have lx := dps_len hds
                have ly := dps_len hes
                refine ⟨_, rfl, a, xs, rfl, .inl ha, _, rfl, b, ys, rfl, .inl hb, rfl, _, rfl, ite2 (fun c3 => ?_) (fun c3 => ?_)⟩
                · have l3 : ds.length = es.length := by
                    have := V.int.inj (of_decide_eq_true c3)
                    omega
                  refine ⟨_, rfl, _, rfl, a, b, xs, ys, rfl, .inl ⟨ha, hb, fun D nD => same_turns (Same.refl H1) hds hes l3 (by omega) f2 nD rfl (fun i H' sm lt => ⟨xs, ys, xs[i], ys[i]'(by omega), sm.seq ha, sm.seq hb, List.getElem?_eq_getElem lt, List.getElem?_eq_getElem (by omega)⟩)
                    (fun H' sm => ⟨xs, ys, sm.seq ha, sm.seq hb, .inl (Nat.le_refl _)⟩) (fun i H' v H'' sm y => ?_) (fun H' sm eD => ?_)⟩⟩
                  · obtain ⟨T, x', y', e1, e2, e3, g1, g2⟩ := y
                    exact ⟨T, x', y', e1, e2, e3, g1 _ (sm.seq ha), g2 _ (sm.seq hb)⟩
                  · refine ⟨D, _, rfl, SqL.of eD, ?_⟩
                    have z := q _ (s1.trans sm)
                    have e4 : sameD (m + 1) (.list ds) (.list es) = (List.zipWith (sameD m) ds es).all id := by
                      show (decide (ds.length = es.length) && _) = _
                      rw [decide_eq_true l3, Bool.true_and]
                    rw [e4] at z
                    exact z
                · have z := q _ s1
                  have e4 : sameD (m + 1) (.list ds) (.list es) = false := by
                    show (decide (ds.length = es.length) && _) = false
                    rw [decide_eq_false (fun l3 => c3 (decide_eq_true (by rw [lx, ly, l3]))), Bool.false_and]
                  rw [e4] at z
                  exact z
            | _ => exact absurd eL (by simp [isL])
          | @tup b ys es hb hes =>
            cases hd1 with
            | @tup a xs ds ha hds =>
              cases n with
              | zero => exact absurd hf.2.1 (by simp [isT])
              | succ m =>
                obtain ⟨f1, f2⟩ := hf
                have lx := dps_len hds
                have ly := dps_len hes
                refine ⟨_, rfl, a, xs, rfl, .inr ha, _, rfl, b, ys, rfl, .inr hb, rfl, _, rfl, ite2 (fun c3 => ?_) (fun c3 => ?_)⟩
                · have l3 : ds.length = es.length := by
                    have := V.int.inj (of_decide_eq_true c3)
                    omega
                  refine ⟨_, rfl, _, rfl, a, b, xs, ys, rfl, .inr ⟨ha, hb, fun D nD => same_turns (Same.refl H1) hds hes l3 (by omega) f2 nD rfl (fun i H' sm lt => ⟨xs, ys, xs[i], ys[i]'(by omega), SqT.same sm ha, SqT.same sm hb, List.getElem?_eq_getElem lt, List.getElem?_eq_getElem (by omega)⟩)
                    (fun H' sm => ⟨xs, ys, SqT.same sm ha, SqT.same sm hb, .inl (Nat.le_refl _)⟩) (fun i H' v H'' sm y => ?_) (fun H' sm eD => ?_)⟩⟩
                  · obtain ⟨T, x', y', e1, e2, e3, g1, g2⟩ := y
                    exact ⟨T, x', y', e1, e2, e3, g1 _ (SqT.same sm ha), g2 _ (SqT.same sm hb)⟩
                  · refine ⟨D, _, rfl, SqL.of eD, ?_⟩
                    have z := q _ (s1.trans sm)
                    have e4 : sameD (m + 1) (.tuple ds) (.tuple es) = (List.zipWith (sameD m) ds es).all id := by
                      show (decide (ds.length = es.length) && _) = _
                      rw [decide_eq_true l3, Bool.true_and]
                    rw [e4] at z
                    exact z
                · have z := q _ s1
                  have e4 : sameD (m + 1) (.tuple ds) (.tuple es) = false := by
                    show (decide (ds.length = es.length) && _) = false
                    rw [decide_eq_false (fun l3 => c3 (decide_eq_true (by rw [lx, ly, l3]))), Bool.false_and]
                  rw [e4] at z
                  exact z
            | _ => exact absurd eT (by simp [isT])
          | _ => exact absurd c (by simp [isL, isT])
    · have nL : isL e = false := by
        cases z : isL e with
        | false => rfl
        | true => exact absurd (by rw [z, Bool.true_or]) c
      have nT : isT e = false := by
        cases z : isT e with
        | false => rfl
        | true => exact absurd (by rw [z, Bool.or_true]) c
      refine ⟨x, rfl, y, rfl, rfl, _, rfl, ite2 (fun c1 => ?_) (fun c1 => ?_)⟩
      · rw [dp_non hd1, dp_non he1] at c1
        have z := q _ s1
        rw [tag_ne (fun t => (tags t).2.2.1) c1] at z
        exact z
      rw [dp_non hd1, dp_non he1] at c1
      refine ⟨x, rfl, _, _, _, _, isB d, rfl, .ty "bool", dp_ty hd1, kit_ty (kitBo d), y, rfl, _, _, _, _, isB e, rfl, .ty "bool", dp_ty he1, kit_ty (kitBo e), rfl, _, rfl, ite2 (fun c2 => ?_) (fun c2 => ?_)⟩
      · have z := q _ s1
        rw [tag_ne (fun t => (tags t).2.2.2.1) c2] at z
        exact z
      refine ⟨x, rfl, _, _, _, _, isI d, rfl, .ty "int", dp_ty hd1, kit_ty (kitI d), y, rfl, _, _, _, _, isI e, rfl, .ty "int", dp_ty he1, kit_ty (kitI e), rfl, _, rfl, ite2 (fun c3 => ?_) (fun c3 => ?_)⟩
      · have z := q _ s1
        rw [tag_ne (fun t => (tags t).2.2.2.2.1) c3] at z
        exact z
      refine ⟨x, rfl, _, _, _, _, isM d, rfl, .ty "dict", dp_ty hd1, kit_ty (kitM d), y, rfl, _, _, _, _, isM e, rfl, .ty "dict", dp_ty he1, kit_ty (kitM e), rfl, _, rfl, ite2 (fun c4 => ?_) (fun c4 => ?_)⟩
      · have z := q _ s1
        rw [tag_ne (fun t => (tags t).2.2.2.2.2.1) c4] at z
        exact z
      refine ⟨x, rfl, _, _, _, _, isS d, rfl, .ty "str", dp_ty hd1, kit_ty (kitS d), y, rfl, _, _, _, _, isS e, rfl, .ty "str", dp_ty he1, kit_ty (kitS e), rfl, _, rfl, ite2 (fun c5 => ?_) (fun c5 => ?_)⟩
      · have eN := tag_eq c1
        have eB := tag_eq c2
        have eI := tag_eq c3
        have eS : isS d = isS e := V.bl.inj (of_decide_eq_true c5)
        have z := q _ s1
        have e0 : sameD n d e = sameS d e := same_scal nL nT
        rw [e0] at z
        cases he1 with
        | non =>
          cases hd1 with
          | non => exact ⟨_, rfl, _, rfl, rfl, z⟩
          | _ => exact absurd eN (by simp [isN])
        | bl b =>
          cases hd1 with
          | bl a => exact ⟨_, rfl, _, rfl, rfl, by rw [dec_bl]; exact z⟩
          | _ => exact absurd eB (by simp [isB])
        | int b =>
          cases hd1 with
          | int a => exact ⟨_, rfl, _, rfl, rfl, by rw [dec_int]; exact z⟩
          | bl a => exact absurd eB (by simp [isB])
          | _ => exact absurd eI (by simp [isI])
        | str b =>
          cases hd1 with
          | str a => exact ⟨_, rfl, _, rfl, rfl, by rw [dec_str]; exact z⟩
          | _ => exact absurd eS (by simp [isS])
        | lst _ _ => exact absurd nL (by simp [isL])
        | tup _ _ => exact absurd nT (by simp [isT])
      · have z := q _ s1
        have c5' : (!decide (V.bl (isS d) = V.bl (isS e))) = true := by
          cases zz : decide (V.bl (isS d) = V.bl (isS e)) with
          | false => rfl
          | true => exact absurd zz c5
        rw [tag_ne (fun t => (tags t).2.2.2.2.2.2) c5'] at z
        exact z
theorem ok_same {f : Addr} {fd : FuncData} (F : Fun K "_law_same" "_law_same" sSame f fd) (g : mg "_law_same" = some (.ref f)) (bn : L2.Binds K fd ["_law_found", "_law_expected"] []) (B : BltS mg) :
    ∀ n, FnOk P w K mg base CX0 (n + 2) f fd ["_law_found", "_law_expected"] (spSame K n)
  | 0 => same_step F g bn B ⟨fun _ _ _ _ h => h.elim, fun _ _ _ _ _ _ _ _ _ _ _ _ _ h => h.elim⟩
  | n + 1 => same_step F g bn B (ok_same F g bn B n)
end
end Dw
namespace Dd
open PySem PySem.Spec PyProof.Rows L2
structure Blt (mg : Str → Option Value) : Prop where
  abs_ : mg "abs" = none
  all_ : mg "all" = none
  enumerate_ : mg "enumerate" = none
  int_ : mg "int" = none
  isinstance_ : mg "isinstance" = none
  len_ : mg "len" = none
  list_ : mg "list" = none
  min_ : mg "min" = none
  range_ : mg "range" = none
  set_ : mg "set" = none
  sorted_ : mg "sorted" = none
  str_ : mg "str" = none
  tuple_ : mg "tuple" = none
structure Cst (K : PySem.W.Frag) (w : World) (mg : Str → Option Value) : Prop where
  MAX_DIGITS_ : ∃ t, mg "MAX_DIGITS" = some (.int 12 t)
  MAX_LETTERS_ : ∃ t, mg "MAX_LETTERS" = some (.int 6 t)
  MAX_QUERIES_ : ∃ t, mg "MAX_QUERIES" = some (.int 8 t)
  SEPARATOR_ : ∃ t, mg "SEPARATOR" = some (.str "; " t)
def errsL : List Str := ["InvalidText"]
def isaT : List (Str × List Str) := [("InvalidText", ["InvalidText", "QueryError"])]
def isAL (n m : Str) : Bool := match isaT.lookup n with | some l => l.contains m | none => false
def hsL : List Str := ["InvalidText"]
section
variable {P : Program} {w : World} {K : PySem.W.Frag} {mg : Str → Option Value} {base : Heap}
abbrev s__law_shuffled : Stmt := Dw.topS 26
theorem sc__law_shuffled : FnScope ["_law_source_here", "_law_chosen", "_law_found", "_law_one"] ["_law_source_here", "_law_chosen"] (defScope s__law_shuffled) := ⟨rfl, rfl, rfl, by decide +kernel, rfl, by decide +kernel, by decide +kernel⟩
def u__law_shuffled (ρ : List SD) : M Out := seqM ((do let vs ← pure []; let ds ← M.lift (allD vs); M.when (szOk ds.length) (pure (.nx (ρ.set 2 (.own ds)))))) (fun ρ => seqM ((do let its ← (do let x ← M.lift (getS ρ 1); M.lift (itemsD x)); forM (.nm 3) (fun ρ => (do let ds ← M.lift (ownL ρ 2); let w ← (do let xs ← (do let x ← M.lift (getS ρ 0); let xs ← (do let x ← (do let x ← (do let xs ← (do let x ← M.lift (getS ρ 2); let xs ← pure []; pure (x :: xs)); bLen xs); let y ← pure (.d (PyData.int 1)); M.lift (gAdd x y)); let xs ← pure []; pure (x :: xs)); pure (x :: xs)); callM 2 drawD xs); let j ← M.lift (asI w); let y ← M.lift (getS ρ 3); let z ← M.lift (asD y); M.when (szOk (ds.length + 1) && decide (0 ≤ j) && bigI j) (pure (.nx (ρ.set 2 (.own (ds.take j.toNat ++ [z] ++ ds.drop j.toNat))))))) its ρ)) (fun ρ => (do let x ← M.lift (getS ρ 2); pure (.rt (frzS x)))))
def d__law_shuffled : List SD → M SD := defM 4 u__law_shuffled
abbrev s__law_gcd : Stmt := Dw.topS 28
theorem sc__law_gcd : FnScope ["_law_one", "_law_two", "_law_rest"] ["_law_one", "_law_two"] (defScope s__law_gcd) := ⟨rfl, rfl, rfl, by decide +kernel, rfl, by decide +kernel, by decide +kernel⟩
def u__law_gcd (ρ : List SD) : M Out := seqM (whileM (fun ρ => (do let x ← M.lift (getS ρ 1); let y ← pure (.d (PyData.int 0)); let z ← M.lift (gNe x y); M.lift (asB z))) (fun ρ => seqM ((do let v ← (do let x ← M.lift (getS ρ 0); let y ← M.lift (getS ρ 1); M.lift (gMod x y)); let y ← M.lift (plain v); pure (.nx (ρ.set 2 y)))) (fun ρ => seqM ((do let v ← M.lift (getS ρ 1); let y ← M.lift (plain v); pure (.nx (ρ.set 0 y)))) (fun ρ => (do let v ← M.lift (getS ρ 2); let y ← M.lift (plain v); pure (.nx (ρ.set 1 y)))))) ρ) (fun ρ => (do let x ← (do let xs ← (do let x ← M.lift (getS ρ 0); let xs ← pure []; pure (x :: xs)); bAbs xs); let y ← M.lift (plain x); pure (.rt y)))
def d__law_gcd : List SD → M SD := defM 3 u__law_gcd
abbrev s__law_reduced : Stmt := Dw.topS 29
theorem sc__law_reduced : FnScope ["_law_numerator", "_law_denominator", "_law_divisor"] ["_law_numerator", "_law_denominator"] (defScope s__law_reduced) := ⟨rfl, rfl, rfl, by decide +kernel, rfl, by decide +kernel, by decide +kernel⟩
def u__law_reduced (ρ : List SD) : M Out := seqM ((do let v ← (do let xs ← (do let x ← M.lift (getS ρ 0); let xs ← (do let x ← M.lift (getS ρ 1); let xs ← pure []; pure (x :: xs)); pure (x :: xs)); callM 2 d__law_gcd xs); let y ← M.lift (plain v); pure (.nx (ρ.set 2 y)))) (fun ρ => seqM ((do if ← (do let x ← M.lift (getS ρ 1); let y ← pure (.d (PyData.int 0)); let z ← M.lift (gLt x y); M.lift (asB z)) then ((do let v ← (do let x ← pure (.d (PyData.int 0)); let y ← M.lift (getS ρ 2); M.lift (gSub x y)); let y ← M.lift (plain v); pure (.nx (ρ.set 2 y)))) else (pure (.nx ρ)))) (fun ρ => (do let x ← (do let xs ← (do let x ← (do let x ← M.lift (getS ρ 0); let y ← M.lift (getS ρ 2); M.lift (gDiv x y)); let xs ← (do let x ← (do let x ← M.lift (getS ρ 1); let y ← M.lift (getS ρ 2); M.lift (gDiv x y)); let xs ← pure []; pure (x :: xs)); pure (x :: xs)); M.lift (gTup xs)); let y ← M.lift (plain x); pure (.rt y))))
def d__law_reduced : List SD → M SD := defM 3 u__law_reduced
abbrev s__law_bound : Stmt := Dw.topS 31
theorem sc__law_bound : FnScope ["_law_source_here", "_law_spread"] ["_law_source_here", "_law_spread"] (defScope s__law_bound) := ⟨rfl, rfl, rfl, by decide +kernel, rfl, by decide +kernel, by decide +kernel⟩
def u__law_bound (ρ : List SD) : M Out := seqM ((do if ← (do let x ← (do let xs ← (do let x ← M.lift (getS ρ 0); let xs ← (do let x ← pure (.d (PyData.int 4)); let xs ← pure []; pure (x :: xs)); pure (x :: xs)); callM 2 drawD xs); let y ← pure (.d (PyData.int 0)); let z ← M.lift (gEq x y); M.lift (asB z)) then ((do let x ← (do let xs ← (do let x ← (do let x ← (do let xs ← (do let x ← M.lift (getS ρ 0); let xs ← (do let x ← (do let x ← (do let x ← pure (.d (PyData.int 4)); let y ← M.lift (getS ρ 1); M.lift (gMul x y)); let y ← pure (.d (PyData.int 1)); M.lift (gAdd x y)); let xs ← pure []; pure (x :: xs)); pure (x :: xs)); callM 2 drawD xs); let y ← (do let x ← pure (.d (PyData.int 2)); let y ← M.lift (getS ρ 1); M.lift (gMul x y)); M.lift (gSub x y)); let xs ← (do let x ← (do let x ← pure (.d (PyData.int 2)); let y ← (do let xs ← (do let x ← M.lift (getS ρ 0); let xs ← (do let x ← pure (.d (PyData.int 3)); let xs ← pure []; pure (x :: xs)); pure (x :: xs)); callM 2 drawD xs); M.lift (gAdd x y)); let xs ← pure []; pure (x :: xs)); pure (x :: xs)); callM 2 d__law_reduced xs); let y ← M.lift (plain x); pure (.rt y))) else (pure (.nx ρ)))) (fun ρ => (do let x ← (do let xs ← (do let x ← (do let x ← (do let xs ← (do let x ← M.lift (getS ρ 0); let xs ← (do let x ← (do let x ← M.lift (getS ρ 1); let y ← pure (.d (PyData.int 1)); M.lift (gAdd x y)); let xs ← pure []; pure (x :: xs)); pure (x :: xs)); callM 2 drawD xs); let y ← (do let x ← M.lift (getS ρ 1); let y ← pure (.d (PyData.int 2)); M.lift (gDiv x y)); M.lift (gSub x y)); let xs ← (do let x ← pure (.d (PyData.int 1)); let xs ← pure []; pure (x :: xs)); pure (x :: xs)); M.lift (gTup xs)); let y ← M.lift (plain x); pure (.rt y)))
def d__law_bound : List SD → M SD := defM 2 u__law_bound
abbrev s__law_less : Stmt := Dw.topS 30
theorem sc__law_less : FnScope ["_law_one", "_law_two"] ["_law_one", "_law_two"] (defScope s__law_less) := ⟨rfl, rfl, rfl, by decide +kernel, rfl, by decide +kernel, by decide +kernel⟩
def u__law_less (ρ : List SD) : M Out := (do let x ← (do let x ← (do let x ← (do let x ← M.lift (getS ρ 0); let y ← pure (.d (PyData.int 0)); M.lift (gIx x y)); let y ← (do let x ← M.lift (getS ρ 1); let y ← pure (.d (PyData.int 1)); M.lift (gIx x y)); M.lift (gMul x y)); let y ← (do let x ← (do let x ← M.lift (getS ρ 1); let y ← pure (.d (PyData.int 0)); M.lift (gIx x y)); let y ← (do let x ← M.lift (getS ρ 0); let y ← pure (.d (PyData.int 1)); M.lift (gIx x y)); M.lift (gMul x y)); M.lift (gLt x y)); let y ← M.lift (plain x); pure (.rt y))
def d__law_less : List SD → M SD := defM 2 u__law_less
abbrev s__law_choice : Stmt := Dw.topS 25
theorem sc__law_choice : FnScope ["_law_source_here", "_law_chosen"] ["_law_source_here", "_law_chosen"] (defScope s__law_choice) := ⟨rfl, rfl, rfl, by decide +kernel, rfl, by decide +kernel, by decide +kernel⟩
def u__law_choice (ρ : List SD) : M Out := (do let x ← (do let x ← M.lift (getS ρ 1); let y ← (do let xs ← (do let x ← M.lift (getS ρ 0); let xs ← (do let x ← (do let xs ← (do let x ← M.lift (getS ρ 1); let xs ← pure []; pure (x :: xs)); bLen xs); let xs ← pure []; pure (x :: xs)); pure (x :: xs)); callM 2 drawD xs); M.lift (gIx x y)); let y ← M.lift (plain x); pure (.rt y))
def d__law_choice : List SD → M SD := defM 2 u__law_choice
abbrev s__law_interval : Stmt := Dw.topS 32
theorem sc__law_interval : FnScope ["_law_source_here", "_law_spread", "_law_previous", "_law_low", "_law_high", "_law_way"] ["_law_source_here", "_law_spread", "_law_previous"] (defScope s__law_interval) := ⟨rfl, rfl, rfl, by decide +kernel, rfl, by decide +kernel, by decide +kernel⟩
def u__law_interval (ρ : List SD) : M Out := seqM ((do let v ← (do let xs ← (do let x ← M.lift (getS ρ 0); let xs ← (do let x ← M.lift (getS ρ 1); let xs ← pure []; pure (x :: xs)); pure (x :: xs)); callM 2 d__law_bound xs); let y ← M.lift (plain v); pure (.nx (ρ.set 3 y)))) (fun ρ => seqM ((do let v ← (do let xs ← (do let x ← M.lift (getS ρ 0); let xs ← (do let x ← M.lift (getS ρ 1); let xs ← pure []; pure (x :: xs)); pure (x :: xs)); callM 2 d__law_bound xs); let y ← M.lift (plain v); pure (.nx (ρ.set 4 y)))) (fun ρ => seqM ((do let v ← (do let xs ← (do let x ← M.lift (getS ρ 0); let xs ← (do let x ← pure (.d (PyData.int 6)); let xs ← pure []; pure (x :: xs)); pure (x :: xs)); callM 2 drawD xs); let y ← M.lift (plain v); pure (.nx (ρ.set 5 y)))) (fun ρ => seqM ((do if ← (do if ← (do let x ← M.lift (getS ρ 2); let y ← (do let xs ← pure []; M.lift (gLst xs)); let z ← M.lift (gNe x y); M.lift (asB z)) then (do let x ← M.lift (getS ρ 5); let y ← pure (.d (PyData.int 0)); let z ← M.lift (gEq x y); M.lift (asB z)) else pure false) then ((do let x ← (do let xs ← (do let x ← M.lift (getS ρ 0); let xs ← (do let x ← M.lift (getS ρ 2); let xs ← pure []; pure (x :: xs)); pure (x :: xs)); callM 2 d__law_choice xs); let y ← M.lift (plain x); pure (.rt y))) else (pure (.nx ρ)))) (fun ρ => seqM ((do if ← (do if ← (do let x ← M.lift (getS ρ 2); let y ← (do let xs ← pure []; M.lift (gLst xs)); let z ← M.lift (gNe x y); M.lift (asB z)) then (do let x ← M.lift (getS ρ 5); let y ← pure (.d (PyData.int 1)); let z ← M.lift (gEq x y); M.lift (asB z)) else pure false) then ((do let v ← (do let x ← (do let xs ← (do let x ← M.lift (getS ρ 0); let xs ← (do let x ← M.lift (getS ρ 2); let xs ← pure []; pure (x :: xs)); pure (x :: xs)); callM 2 d__law_choice xs); let y ← (do let xs ← (do let x ← M.lift (getS ρ 0); let xs ← (do let x ← pure (.d (PyData.int 2)); let xs ← pure []; pure (x :: xs)); pure (x :: xs)); callM 2 drawD xs); M.lift (gIx x y)); let y ← M.lift (plain v); pure (.nx (ρ.set 3 y)))) else (pure (.nx ρ)))) (fun ρ => seqM ((do if ← (do let x ← (do let xs ← (do let x ← M.lift (getS ρ 4); let xs ← (do let x ← M.lift (getS ρ 3); let xs ← pure []; pure (x :: xs)); pure (x :: xs)); callM 2 d__law_less xs); M.lift (truD x)) then ((do let x ← (do let xs ← (do let x ← M.lift (getS ρ 4); let xs ← (do let x ← M.lift (getS ρ 3); let xs ← pure []; pure (x :: xs)); pure (x :: xs)); M.lift (gTup xs)); let y ← M.lift (plain x); pure (.rt y))) else (pure (.nx ρ)))) (fun ρ => seqM ((do if ← (do if ← (do let x ← M.lift (getS ρ 4); let y ← M.lift (getS ρ 3); let z ← M.lift (gEq x y); M.lift (asB z)) then (do let x ← M.lift (getS ρ 5); let y ← pure (.d (PyData.int 2)); let z ← M.lift (gGt x y); M.lift (asB z)) else pure false) then ((do let x ← (do let xs ← (do let x ← M.lift (getS ρ 3); let xs ← (do let x ← (do let xs ← (do let x ← (do let x ← (do let x ← M.lift (getS ρ 3); let y ← pure (.d (PyData.int 0)); M.lift (gIx x y)); let y ← (do let x ← M.lift (getS ρ 3); let y ← pure (.d (PyData.int 1)); M.lift (gIx x y)); M.lift (gAdd x y)); let xs ← (do let x ← (do let x ← M.lift (getS ρ 3); let y ← pure (.d (PyData.int 1)); M.lift (gIx x y)); let xs ← pure []; pure (x :: xs)); pure (x :: xs)); M.lift (gTup xs)); let xs ← pure []; pure (x :: xs)); pure (x :: xs)); M.lift (gTup xs)); let y ← M.lift (plain x); pure (.rt y))) else (pure (.nx ρ)))) (fun ρ => (do let x ← (do let xs ← (do let x ← M.lift (getS ρ 3); let xs ← (do let x ← M.lift (getS ρ 4); let xs ← pure []; pure (x :: xs)); pure (x :: xs)); M.lift (gTup xs)); let y ← M.lift (plain x); pure (.rt y)))))))))
def d__law_interval : List SD → M SD := defM 6 u__law_interval
abbrev s__law_intervals : Stmt := Dw.topS 33
theorem sc__law_intervals : FnScope ["_law_source_here", "_law_most", "_law_spread", "_law_names_here", "_law_many", "_law_chosen", "_law_previous", "_law_name", "_law_at"] ["_law_source_here", "_law_most", "_law_spread"] (defScope s__law_intervals) := ⟨rfl, rfl, rfl, by decide +kernel, rfl, by decide +kernel, by decide +kernel⟩
def u__law_intervals (ρ : List SD) : M Out := seqM ((do let v ← (do let xs ← (do let x ← pure (.d (PyData.str "a")); let xs ← (do let x ← pure (.d (PyData.str "b")); let xs ← (do let x ← pure (.d (PyData.str "bb")); let xs ← (do let x ← pure (.d (PyData.str "item")); let xs ← (do let x ← pure (.d (PyData.str "d")); let xs ← (do let x ← pure (.d (PyData.str "xyzxyz")); let xs ← (do let x ← pure (.d (PyData.str "z")); let xs ← pure []; pure (x :: xs)); pure (x :: xs)); pure (x :: xs)); pure (x :: xs)); pure (x :: xs)); pure (x :: xs)); pure (x :: xs)); M.lift (gLst xs)); let y ← M.lift (plain v); pure (.nx (ρ.set 3 y)))) (fun ρ => seqM ((do let v ← (do let x ← pure (.d (PyData.int 1)); let y ← (do let xs ← (do let x ← M.lift (getS ρ 0); let xs ← (do let x ← M.lift (getS ρ 1); let xs ← pure []; pure (x :: xs)); pure (x :: xs)); callM 2 drawD xs); M.lift (gAdd x y)); let y ← M.lift (plain v); pure (.nx (ρ.set 4 y)))) (fun ρ => seqM ((do let v ← (do let x ← (do let xs ← (do let x ← M.lift (getS ρ 0); let xs ← (do let x ← M.lift (getS ρ 3); let xs ← pure []; pure (x :: xs)); pure (x :: xs)); callM 2 d__law_shuffled xs); let l ← pure none; let h ← (do let x ← M.lift (getS ρ 4); let i ← M.lift (asI x); pure (some i)); M.lift (gSl x l h)); let y ← M.lift (plain v); pure (.nx (ρ.set 5 y)))) (fun ρ => seqM ((do let vs ← pure []; let ds ← M.lift (allD vs); M.when (szOk ds.length) (pure (.nx (ρ.set 6 (.own ds)))))) (fun ρ => seqM ((do let its ← (do let x ← M.lift (getS ρ 5); M.lift (itemsD x)); forM (.nm 7) (fun ρ => (do let ds ← M.lift (ownL ρ 6); let y ← (do let xs ← (do let x ← M.lift (getS ρ 0); let xs ← (do let x ← M.lift (getS ρ 2); let xs ← (do let x ← M.lift (getS ρ 6); let xs ← pure []; pure (x :: xs)); pure (x :: xs)); pure (x :: xs)); callM 3 d__law_interval xs); let z ← M.lift (asD y); M.when (szOk (ds.length + 1)) (pure (.nx (ρ.set 6 (.own (ds ++ [z]))))))) its ρ)) (fun ρ => (do let x ← (fun ρ => (do let xs ← (do let x ← (do let its ← (do let x ← M.lift (getS ρ 4); let j ← M.lift (asI x); M.when (bigI j) (pure (rangeD 0 j.toNat))); let ds ← lcM (.nm 8) (fun ρ => pure true) (fun ρ => (do let xs ← (do let x ← (do let x ← M.lift (getS ρ 5); let y ← M.lift (getS ρ 8); M.lift (gIx x y)); let xs ← (do let x ← (do let x ← (do let x ← M.lift (getS ρ 6); let y ← M.lift (getS ρ 8); M.lift (gIx x y)); let y ← pure (.d (PyData.int 0)); M.lift (gIx x y)); let xs ← (do let x ← (do let x ← (do let x ← M.lift (getS ρ 6); let y ← M.lift (getS ρ 8); M.lift (gIx x y)); let y ← pure (.d (PyData.int 1)); M.lift (gIx x y)); let xs ← pure []; pure (x :: xs)); pure (x :: xs)); pure (x :: xs)); M.lift (gTup xs))) (wipeD ρ [8]) its []; pure (.d (.list ds))); let xs ← pure []; pure (x :: xs)); bSorted2 xs)) (ρ.map frzS); let y ← M.lift (plain x); pure (.rt y)))))))
def d__law_intervals : List SD → M SD := defM 9 u__law_intervals
abbrev s_format_fraction : Stmt := Dw.topS 15
theorem sc_format_fraction : FnScope ["value", "numerator", "denominator"] ["value"] (defScope s_format_fraction) := ⟨rfl, rfl, rfl, by decide +kernel, rfl, by decide +kernel, by decide +kernel⟩
def u_format_fraction (ρ : List SD) : M Out := seqM ((do let v ← M.lift (getS ρ 0); let ρ' ← M.lift (kOf (.tp [1, 2]) v ρ); pure (.nx ρ'))) (fun ρ => (do let x ← (do if ← (do let x ← M.lift (getS ρ 2); let y ← pure (.d (PyData.int 1)); let z ← M.lift (gEq x y); M.lift (asB z)) then (do let xs ← (do let x ← M.lift (getS ρ 1); let xs ← pure []; pure (x :: xs)); bStrI xs) else (jsM [(fun ρ => M.lift (getS ρ 1)), (fun _ => pure (dS "/")), (fun ρ => M.lift (getS ρ 2))] ρ Str.empty)); let y ← M.lift (plain x); pure (.rt y)))
def d_format_fraction : List SD → M SD := defM 3 u_format_fraction
abbrev s_names_of : Stmt := Dw.topS 11
theorem sc_names_of : FnScope ["query"] ["query"] (defScope s_names_of) := ⟨rfl, rfl, rfl, by decide +kernel, rfl, by decide +kernel, by decide +kernel⟩
def u_names_of (ρ : List SD) : M Out := (do let x ← (do if ← (do let x ← (do let x ← M.lift (getS ρ 0); let y ← pure (.d (PyData.int 0)); M.lift (gIx x y)); let y ← pure (.d (PyData.str "compare")); let z ← M.lift (gEq x y); M.lift (asB z)) then (do let x ← M.lift (getS ρ 0); let l ← (do let x ← pure (.d (PyData.int 1)); let i ← M.lift (asI x); pure (some i)); let h ← pure none; M.lift (gSl x l h)) else (do let x ← M.lift (getS ρ 0); let y ← pure (.d (PyData.int 1)); M.lift (gIx x y))); let y ← M.lift (plain x); pure (.rt y))
def d_names_of : List SD → M SD := defM 1 u_names_of
abbrev s_format_query : Stmt := Dw.topS 16
theorem sc_format_query : FnScope ["query", "words"] ["query"] (defScope s_format_query) := ⟨rfl, rfl, rfl, by decide +kernel, rfl, by decide +kernel, by decide +kernel⟩
def u_format_query (ρ : List SD) : M Out := seqM ((do let vs ← (do let x ← (do let x ← M.lift (getS ρ 0); let y ← pure (.d (PyData.int 0)); M.lift (gIx x y)); let xs ← pure []; pure (x :: xs)); let ds ← M.lift (allD vs); M.when (szOk ds.length) (pure (.nx (ρ.set 1 (.own ds)))))) (fun ρ => seqM ((do if ← (do let x ← (do let x ← M.lift (getS ρ 0); let y ← pure (.d (PyData.int 0)); M.lift (gIx x y)); let y ← pure (.d (PyData.str "above")); let z ← M.lift (gEq x y); M.lift (asB z)) then ((do let ds ← M.lift (ownL ρ 1); let y ← (do let xs ← (do let x ← (do let x ← M.lift (getS ρ 0); let y ← pure (.d (PyData.int 2)); M.lift (gIx x y)); let xs ← pure []; pure (x :: xs)); callM 1 d_format_fraction xs); let z ← M.lift (asD y); M.when (szOk (ds.length + 1)) (pure (.nx (ρ.set 1 (.own (ds ++ [z]))))))) else (pure (.nx ρ)))) (fun ρ => (do let x ← (fun ρ => (do let x ← pure (.d (PyData.str " ")); let a ← M.lift (asTx x); let y ← (do let x ← M.lift (getS ρ 1); let y ← (do let xs ← (do let x ← (do let xs ← (do let x ← M.lift (getS ρ 0); let xs ← pure []; pure (x :: xs)); callM 1 d_names_of xs); let xs ← pure []; pure (x :: xs)); bList xs); M.lift (gAdd x y)); M.lift (gJoin a y))) (ρ.map frzS); let y ← M.lift (plain x); pure (.rt y))))
def d_format_query : List SD → M SD := defM 2 u_format_query
abbrev s_is_short_number : Stmt := Dw.topS 17
theorem sc_is_short_number : FnScope ["text", "letter"] ["text"] (defScope s_is_short_number) := ⟨rfl, rfl, rfl, by decide +kernel, rfl, by decide +kernel, by decide +kernel⟩
def u_is_short_number (ρ : List SD) : M Out := (do let x ← (do let x ← (do let x ← pure (.d (PyData.int 1)); let y ← (do let xs ← (do let x ← M.lift (getS ρ 0); let xs ← pure []; pure (x :: xs)); bLen xs); let z ← M.lift (gLe x y); let k ← M.lift (asB z); if k then (do let w ← pure (.d (.int 12)); M.lift (gLe y w)) else pure (dB false)); let k ← M.lift (asB x); if k then (do let xs ← (do let x ← (do let its ← (do let x ← M.lift (getS ρ 0); M.lift (itemsD x)); let ds ← lcM (.nm 1) (fun ρ => pure true) (fun ρ => (do let x ← pure (.d (PyData.str "0")); let y ← M.lift (getS ρ 1); let z ← M.lift (gLe x y); let k ← M.lift (asB z); if k then (do let w ← pure (.d (PyData.str "9")); M.lift (gLe y w)) else pure (dB false))) (wipeD ρ [1]) its []; pure (.d (.list ds))); let xs ← pure []; pure (x :: xs)); bAll xs) else pure (dB false)); let y ← M.lift (plain x); pure (.rt y))
def d_is_short_number : List SD → M SD := defM 2 u_is_short_number
abbrev s_greatest_divisor : Stmt := Dw.topS 4
theorem sc_greatest_divisor : FnScope ["first", "second"] ["first", "second"] (defScope s_greatest_divisor) := ⟨rfl, rfl, rfl, by decide +kernel, rfl, by decide +kernel, by decide +kernel⟩
def u_greatest_divisor (ρ : List SD) : M Out := seqM ((do let v ← (do let xs ← (do let x ← M.lift (getS ρ 0); let xs ← pure []; pure (x :: xs)); bAbs xs); let v ← M.lift (plain v); let w ← (do let xs ← (do let x ← M.lift (getS ρ 1); let xs ← pure []; pure (x :: xs)); bAbs xs); let w ← M.lift (plain w); pure (.nx ((ρ.set 0 v).set 1 w)))) (fun ρ => seqM (whileM (fun ρ => (do let x ← M.lift (getS ρ 1); M.lift (truD x))) (fun ρ => (do let v ← M.lift (getS ρ 1); let v ← M.lift (plain v); let w ← (do let x ← M.lift (getS ρ 0); let y ← M.lift (getS ρ 1); M.lift (gMod x y)); let w ← M.lift (plain w); pure (.nx ((ρ.set 0 v).set 1 w)))) ρ) (fun ρ => (do let x ← M.lift (getS ρ 0); let y ← M.lift (plain x); pure (.rt y))))
def d_greatest_divisor : List SD → M SD := defM 2 u_greatest_divisor
abbrev s_is_fraction : Stmt := Dw.topS 5
theorem sc_is_fraction : FnScope ["value", "numerator", "denominator"] ["value"] (defScope s_is_fraction) := ⟨rfl, rfl, rfl, by decide +kernel, rfl, by decide +kernel, by decide +kernel⟩
def u_is_fraction (ρ : List SD) : M Out := seqM ((do if ← (do if ← (do let b ← (do let x ← (do let xs ← (do let x ← M.lift (getS ρ 0); let xs ← (do let x ← pure (.ty "tuple"); let xs ← pure []; pure (x :: xs)); pure (x :: xs)); bIsi xs); M.lift (truD x)); pure (!b)) then pure true else (do let x ← (do let xs ← (do let x ← M.lift (getS ρ 0); let xs ← pure []; pure (x :: xs)); bLen xs); let y ← pure (.d (PyData.int 2)); let z ← M.lift (gNe x y); M.lift (asB z))) then ((do let x ← pure (.d (PyData.bool false)); let y ← M.lift (plain x); pure (.rt y))) else (pure (.nx ρ)))) (fun ρ => seqM ((do let v ← M.lift (getS ρ 0); let ρ' ← M.lift (kOf (.tp [1, 2]) v ρ); pure (.nx ρ'))) (fun ρ => seqM ((do if ← (do if ← (do let b ← (do let x ← (do let xs ← (do let x ← M.lift (getS ρ 1); let xs ← (do let x ← pure (.ty "int"); let xs ← pure []; pure (x :: xs)); pure (x :: xs)); bIsi xs); M.lift (truD x)); pure (!b)) then pure true else (do let b ← (do let x ← (do let xs ← (do let x ← M.lift (getS ρ 2); let xs ← (do let x ← pure (.ty "int"); let xs ← pure []; pure (x :: xs)); pure (x :: xs)); bIsi xs); M.lift (truD x)); pure (!b))) then ((do let x ← pure (.d (PyData.bool false)); let y ← M.lift (plain x); pure (.rt y))) else (pure (.nx ρ)))) (fun ρ => (do let x ← (do let x ← (do let x ← M.lift (getS ρ 2); let y ← pure (.d (PyData.int 1)); M.lift (gGe x y)); let k ← M.lift (asB x); if k then (do let x ← (do let xs ← (do let x ← M.lift (getS ρ 1); let xs ← (do let x ← M.lift (getS ρ 2); let xs ← pure []; pure (x :: xs)); pure (x :: xs)); callM 2 d_greatest_divisor xs); let y ← pure (.d (PyData.int 1)); M.lift (gEq x y)) else pure (dB false)); let y ← M.lift (plain x); pure (.rt y)))))
def d_is_fraction : List SD → M SD := defM 3 u_is_fraction
abbrev s_parse_fraction : Stmt := Dw.topS 18
theorem sc_parse_fraction : FnScope ["word", "numerator", "slash", "denominator", "value"] ["word"] (defScope s_parse_fraction) := ⟨rfl, rfl, rfl, by decide +kernel, rfl, by decide +kernel, by decide +kernel⟩
def u_parse_fraction (ρ : List SD) : M Out := seqM ((do let v ← (do let x ← M.lift (getS ρ 0); let a ← M.lift (asTx x); let y ← pure (.d (PyData.str "/")); M.lift (gPart a y)); let ρ' ← M.lift (kOf (.tp [1, 2, 3]) v ρ); pure (.nx ρ'))) (fun ρ => seqM ((do if ← (do let b ← (do let x ← (do let xs ← (do let x ← (do let x ← M.lift (getS ρ 1); let a ← M.lift (asTx x); let y ← pure (.d (PyData.str "-")); M.lift (gRmPre a y)); let xs ← pure []; pure (x :: xs)); callM 1 d_is_short_number xs); M.lift (truD x)); pure (!b)) then ((do let x ← pure (.d PyData.none); let y ← M.lift (plain x); pure (.rt y))) else (pure (.nx ρ)))) (fun ρ => seqM ((do if ← (do if ← (do let x ← M.lift (getS ρ 2); M.lift (truD x)) then (do let b ← (do let x ← (do let xs ← (do let x ← M.lift (getS ρ 3); let xs ← pure []; pure (x :: xs)); callM 1 d_is_short_number xs); M.lift (truD x)); pure (!b)) else pure false) then ((do let x ← pure (.d PyData.none); let y ← M.lift (plain x); pure (.rt y))) else (pure (.nx ρ)))) (fun ρ => seqM ((do let v ← (do let xs ← (do let x ← (do let xs ← (do let x ← M.lift (getS ρ 1); let xs ← pure []; pure (x :: xs)); bIntT xs); let xs ← (do let x ← (do if ← (do let x ← M.lift (getS ρ 2); M.lift (truD x)) then (do let xs ← (do let x ← M.lift (getS ρ 3); let xs ← pure []; pure (x :: xs)); bIntT xs) else pure (.d (PyData.int 1))); let xs ← pure []; pure (x :: xs)); pure (x :: xs)); M.lift (gTup xs)); let y ← M.lift (plain v); pure (.nx (ρ.set 4 y)))) (fun ρ => (do let x ← (do if ← (do if ← (do let x ← (do let xs ← (do let x ← M.lift (getS ρ 4); let xs ← pure []; pure (x :: xs)); callM 1 d_is_fraction xs); M.lift (truD x)) then (do let x ← (do let xs ← (do let x ← M.lift (getS ρ 4); let xs ← pure []; pure (x :: xs)); callM 1 d_format_fraction xs); let y ← M.lift (getS ρ 0); let z ← M.lift (gEq x y); M.lift (asB z)) else pure false) then M.lift (getS ρ 4) else pure (.d PyData.none)); let y ← M.lift (plain x); pure (.rt y))))))
def d_parse_fraction : List SD → M SD := defM 5 u_parse_fraction
abbrev s_is_name : Stmt := Dw.topS 8
theorem sc_is_name : FnScope ["name", "letter"] ["name"] (defScope s_is_name) := ⟨rfl, rfl, rfl, by decide +kernel, rfl, by decide +kernel, by decide +kernel⟩
def u_is_name (ρ : List SD) : M Out := seqM ((do if ← (do if ← (do let b ← (do let x ← (do let xs ← (do let x ← M.lift (getS ρ 0); let xs ← (do let x ← pure (.ty "str"); let xs ← pure []; pure (x :: xs)); pure (x :: xs)); bIsi xs); M.lift (truD x)); pure (!b)) then pure true else (do let b ← (do let x ← (do let x ← pure (.d (PyData.int 1)); let y ← (do let xs ← (do let x ← M.lift (getS ρ 0); let xs ← pure []; pure (x :: xs)); bLen xs); let z ← M.lift (gLe x y); let k ← M.lift (asB z); if k then (do let w ← pure (.d (.int 6)); M.lift (gLe y w)) else pure (dB false)); M.lift (asB x)); pure (!b))) then ((do let x ← pure (.d (PyData.bool false)); let y ← M.lift (plain x); pure (.rt y))) else (pure (.nx ρ)))) (fun ρ => (do let x ← (do let xs ← (do let x ← (do let its ← (do let x ← M.lift (getS ρ 0); M.lift (itemsD x)); let ds ← lcM (.nm 1) (fun ρ => pure true) (fun ρ => (do let x ← pure (.d (PyData.str "a")); let y ← M.lift (getS ρ 1); let z ← M.lift (gLe x y); let k ← M.lift (asB z); if k then (do let w ← pure (.d (PyData.str "z")); M.lift (gLe y w)) else pure (dB false))) (wipeD ρ [1]) its []; pure (.d (.list ds))); let xs ← pure []; pure (x :: xs)); bAll xs); let y ← M.lift (plain x); pure (.rt y)))
def d_is_name : List SD → M SD := defM 2 u_is_name
abbrev s_are_text_names : Stmt := Dw.topS 19
theorem sc_are_text_names : FnScope ["names", "name"] ["names"] (defScope s_are_text_names) := ⟨rfl, rfl, rfl, by decide +kernel, rfl, by decide +kernel, by decide +kernel⟩
def u_are_text_names (ρ : List SD) : M Out := (do let x ← (do let x ← (do let x ← (do let xs ← (do let x ← M.lift (getS ρ 0); let xs ← pure []; pure (x :: xs)); bLen xs); let y ← pure (.d (PyData.int 0)); M.lift (gGt x y)); let k ← M.lift (asB x); if k then (do let x ← (do let xs ← (do let x ← (do let its ← (do let x ← M.lift (getS ρ 0); M.lift (itemsD x)); let ds ← lcM (.nm 1) (fun ρ => pure true) (fun ρ => (do let xs ← (do let x ← M.lift (getS ρ 1); let xs ← pure []; pure (x :: xs)); callM 1 (fun xs => M.calm (d_is_name xs)) xs)) (wipeD ρ [1]) its []; pure (.d (.list ds))); let xs ← pure []; pure (x :: xs)); bAll xs); let k ← M.lift (asB x); if k then (do let x ← (do let x ← M.lift (getS ρ 0); let n ← M.lift (lenSetN x); pure (dI n)); let y ← (do let xs ← (do let x ← M.lift (getS ρ 0); let xs ← pure []; pure (x :: xs)); bLen xs); M.lift (gEq x y)) else pure (dB false)) else pure (dB false)); let y ← M.lift (plain x); pure (.rt y))
def d_are_text_names : List SD → M SD := defM 2 u_are_text_names
abbrev s_parse_query : Stmt := Dw.topS 20
theorem sc_parse_query : FnScope ["text", "words", "kind", "threshold", "names"] ["text"] (defScope s_parse_query) := ⟨rfl, rfl, rfl, by decide +kernel, rfl, by decide +kernel, by decide +kernel⟩
def u_parse_query (ρ : List SD) : M Out := seqM ((do let v ← (do let x ← M.lift (getS ρ 0); let a ← M.lift (asTx x); let y ← pure (.d (PyData.str " ")); M.lift (gSplit a y)); let y ← M.lift (plain v); pure (.nx (ρ.set 1 y)))) (fun ρ => seqM ((do let v ← (do let x ← M.lift (getS ρ 1); let y ← pure (.d (PyData.int 0)); M.lift (gIx x y)); let y ← M.lift (plain v); pure (.nx (ρ.set 2 y)))) (fun ρ => seqM ((do let v ← (do if ← (do if ← (do let x ← M.lift (getS ρ 2); let y ← pure (.d (PyData.str "above")); let z ← M.lift (gEq x y); M.lift (asB z)) then (do let x ← (do let xs ← (do let x ← M.lift (getS ρ 1); let xs ← pure []; pure (x :: xs)); bLen xs); let y ← pure (.d (PyData.int 1)); let z ← M.lift (gGt x y); M.lift (asB z)) else pure false) then (do let xs ← (do let x ← (do let x ← M.lift (getS ρ 1); let y ← pure (.d (PyData.int 1)); M.lift (gIx x y)); let xs ← pure []; pure (x :: xs)); callM 1 d_parse_fraction xs) else pure (.d PyData.none)); let y ← M.lift (plain v); pure (.nx (ρ.set 3 y)))) (fun ρ => seqM ((do let v ← (do let xs ← (do let x ← (do if ← (do let x ← M.lift (getS ρ 2); let y ← pure (.d (PyData.str "above")); let z ← M.lift (gEq x y); M.lift (asB z)) then (do let x ← M.lift (getS ρ 1); let l ← (do let x ← pure (.d (PyData.int 2)); let i ← M.lift (asI x); pure (some i)); let h ← pure none; M.lift (gSl x l h)) else (do let x ← M.lift (getS ρ 1); let l ← (do let x ← pure (.d (PyData.int 1)); let i ← M.lift (asI x); pure (some i)); let h ← pure none; M.lift (gSl x l h))); let xs ← pure []; pure (x :: xs)); bTuple xs); let y ← M.lift (plain v); pure (.nx (ρ.set 4 y)))) (fun ρ => seqM ((do if ← (do let b ← (do let x ← (do let xs ← (do let x ← M.lift (getS ρ 4); let xs ← pure []; pure (x :: xs)); callM 1 d_are_text_names xs); M.lift (truD x)); pure (!b)) then ((do let x ← pure (.d PyData.none); let y ← M.lift (plain x); pure (.rt y))) else (pure (.nx ρ)))) (fun ρ => seqM ((do if ← (do let x ← M.lift (getS ρ 2); let y ← pure (.d (PyData.str "above")); let z ← M.lift (gEq x y); M.lift (asB z)) then ((do let x ← (do if ← (do let x ← M.lift (getS ρ 3); let y ← pure (.d PyData.none); let z ← M.lift (gIsB x y); M.lift (asB z)) then pure (.d PyData.none) else (do let xs ← (do let x ← M.lift (getS ρ 2); let xs ← (do let x ← M.lift (getS ρ 4); let xs ← (do let x ← M.lift (getS ρ 3); let xs ← pure []; pure (x :: xs)); pure (x :: xs)); pure (x :: xs)); M.lift (gTup xs))); let y ← M.lift (plain x); pure (.rt y))) else (pure (.nx ρ)))) (fun ρ => seqM ((do if ← (do let x ← M.lift (getS ρ 2); let y ← pure (.d (PyData.str "compare")); let z ← M.lift (gEq x y); M.lift (asB z)) then ((do let x ← (do if ← (do let x ← (do let xs ← (do let x ← M.lift (getS ρ 4); let xs ← pure []; pure (x :: xs)); bLen xs); let y ← pure (.d (PyData.int 2)); let z ← M.lift (gEq x y); M.lift (asB z)) then (do let xs ← (do let x ← M.lift (getS ρ 2); let xs ← (do let x ← M.lift (getS ρ 4); let ds ← M.lift (seqD x); let xs ← pure []; pure (ds.map SD.d ++ xs)); pure (x :: xs)); M.lift (gTup xs)) else pure (.d PyData.none)); let y ← M.lift (plain x); pure (.rt y))) else (pure (.nx ρ)))) (fun ρ => (do let x ← (do if ← (do let x ← M.lift (getS ρ 2); let y ← (do let xs ← (do let x ← pure (.d (PyData.str "sort")); let xs ← (do let x ← pure (.d (PyData.str "min")); let xs ← (do let x ← pure (.d (PyData.str "max")); let xs ← pure []; pure (x :: xs)); pure (x :: xs)); pure (x :: xs)); M.lift (gTup xs)); let z ← M.lift (gIn x y); M.lift (asB z)) then (do let xs ← (do let x ← M.lift (getS ρ 2); let xs ← (do let x ← M.lift (getS ρ 4); let xs ← pure []; pure (x :: xs)); pure (x :: xs)); M.lift (gTup xs)) else pure (.d PyData.none)); let y ← M.lift (plain x); pure (.rt y)))))))))
def d_parse_query : List SD → M SD := defM 5 u_parse_query
abbrev s_parse_queries : Stmt := Dw.topS 21
theorem sc_parse_queries : FnScope ["text", "found", "index", "part", "query"] ["text"] (defScope s_parse_queries) := ⟨rfl, rfl, rfl, by decide +kernel, rfl, by decide +kernel, by decide +kernel⟩
def u_parse_queries (ρ : List SD) : M Out := seqM ((do if ← (do let x ← M.lift (getS ρ 0); let y ← pure (.d (PyData.str "")); let z ← M.lift (gEq x y); M.lift (asB z)) then ((do let x ← (fun ρ => (do let xs ← pure []; M.lift (gLst xs))) (ρ.map frzS); let y ← M.lift (plain x); pure (.rt y))) else (pure (.nx ρ)))) (fun ρ => seqM ((do let vs ← pure []; let ds ← M.lift (allD vs); M.when (szOk ds.length) (pure (.nx (ρ.set 1 (.own ds)))))) (fun ρ => seqM ((do let its ← (do let x ← (do let x ← M.lift (getS ρ 0); let a ← M.lift (asTx x); let y ← pure (.d (.str "; ")); M.lift (gSplit a y)); M.lift (enumS x)); forM (.tp [2, 3]) (fun ρ => seqM ((do let v ← (do let xs ← (do let x ← M.lift (getS ρ 3); let xs ← pure []; pure (x :: xs)); callM 1 d_parse_query xs); let y ← M.lift (plain v); pure (.nx (ρ.set 4 y)))) (fun ρ => seqM ((do if ← (do if ← (do let x ← M.lift (getS ρ 4); let y ← pure (.d PyData.none); let z ← M.lift (gIsB x y); M.lift (asB z)) then pure true else (do let x ← M.lift (getS ρ 2); let y ← pure (.d (.int 8)); let z ← M.lift (gGe x y); M.lift (asB z))) then ((do let v ← M.lift (getS ρ 2); let d ← M.lift (argD ⟨"text", some "index", true⟩ v); (M.throw ⟨"InvalidText", fldD ⟨"text", some "index", true⟩ d⟩ : M Out))) else (pure (.nx ρ)))) (fun ρ => (do let ds ← M.lift (ownL ρ 1); let y ← M.lift (getS ρ 4); let z ← M.lift (asD y); M.when (szOk (ds.length + 1)) (pure (.nx (ρ.set 1 (.own (ds ++ [z]))))))))) its ρ)) (fun ρ => (do let x ← M.lift (getS ρ 1); pure (.rt (frzS x))))))
def d_parse_queries : List SD → M SD := defM 5 u_parse_queries
abbrev s__law_index : Stmt := Dw.topS 38
theorem sc__law_index : FnScope ["_law_text", "_law_result", "e"] ["_law_text"] (defScope s__law_index) := ⟨rfl, rfl, rfl, by decide +kernel, rfl, by decide +kernel, by decide +kernel⟩
def u__law_index (ρ : List SD) : M Out := seqM ((do let v ← pure (.d PyData.none); let y ← M.lift (plain v); pure (.nx (ρ.set 1 y)))) (fun ρ => seqM (tryS errsL isAL 2 [⟨"InvalidText", 1, "index", none⟩] ((do let _ ← (do let xs ← (do let x ← M.lift (getS ρ 0); let xs ← pure []; pure (x :: xs)); callM 1 d_parse_queries xs); pure (.nx ρ))) ρ) (fun ρ => (do let x ← M.lift (getS ρ 1); let y ← M.lift (plain x); pure (.rt y))))
def d__law_index : List SD → M SD := defM 3 u__law_index
abbrev s__law_names : Stmt := Dw.topS 35
theorem sc__law_names : FnScope ["_law_source_here", "_law_intervals_here", "_law_names_here", "_law_chosen", "_law_name", "_law_low", "_law_high"] ["_law_source_here", "_law_intervals_here"] (defScope s__law_names) := ⟨rfl, rfl, rfl, by decide +kernel, rfl, by decide +kernel, by decide +kernel⟩
def u__law_names (ρ : List SD) : M Out := seqM ((do let its ← (do let x ← M.lift (getS ρ 1); M.lift (itemsD x)); let ds ← lcM (.tp [4, 5, 6]) (fun ρ => pure true) (fun ρ => M.lift (getS ρ 4)) (wipeD ρ [4, 5, 6]) its []; pure (.nx (ρ.set 2 (.d (.list ds)))))) (fun ρ => seqM ((do let its ← (do let x ← (do let xs ← (do let x ← M.lift (getS ρ 0); let xs ← (do let x ← M.lift (getS ρ 2); let xs ← pure []; pure (x :: xs)); pure (x :: xs)); callM 2 d__law_shuffled xs); M.lift (itemsD x)); let ds ← lcM (.nm 4) (fun ρ => (do let x ← (do let xs ← (do let x ← M.lift (getS ρ 0); let xs ← (do let x ← pure (.d (PyData.int 4)); let xs ← pure []; pure (x :: xs)); pure (x :: xs)); callM 2 (fun xs => M.calm (drawD xs)) xs); let y ← pure (.d (PyData.int 0)); let z ← M.lift (gGt x y); M.lift (asB z))) (fun ρ => M.lift (getS ρ 4)) (wipeD ρ [4]) its []; pure (.nx (ρ.set 3 (.d (.list ds)))))) (fun ρ => (do let x ← (do let xs ← (do let x ← (do if ← (do let x ← M.lift (getS ρ 3); let y ← (do let xs ← pure []; M.lift (gLst xs)); let z ← M.lift (gNe x y); M.lift (asB z)) then M.lift (getS ρ 3) else (do let x ← M.lift (getS ρ 2); let l ← pure none; let h ← (do let x ← pure (.d (PyData.int 1)); let i ← M.lift (asI x); pure (some i)); M.lift (gSl x l h))); let xs ← pure []; pure (x :: xs)); bTuple xs); let y ← M.lift (plain x); pure (.rt y))))
def d__law_names : List SD → M SD := defM 7 u__law_names
abbrev s__law_all_bounds : Stmt := Dw.topS 34
theorem sc__law_all_bounds : FnScope ["_law_intervals_here", "_law_name", "_law_low", "_law_high"] ["_law_intervals_here"] (defScope s__law_all_bounds) := ⟨rfl, rfl, rfl, by decide +kernel, rfl, by decide +kernel, by decide +kernel⟩
def u__law_all_bounds (ρ : List SD) : M Out := (do let x ← (do let x ← (do let its ← (do let x ← M.lift (getS ρ 0); M.lift (itemsD x)); let ds ← lcM (.tp [1, 2, 3]) (fun ρ => pure true) (fun ρ => M.lift (getS ρ 2)) (wipeD ρ [1, 2, 3]) its []; pure (.d (.list ds))); let y ← (do let its ← (do let x ← M.lift (getS ρ 0); M.lift (itemsD x)); let ds ← lcM (.tp [1, 2, 3]) (fun ρ => pure true) (fun ρ => M.lift (getS ρ 3)) (wipeD ρ [1, 2, 3]) its []; pure (.d (.list ds))); M.lift (gAdd x y)); let y ← M.lift (plain x); pure (.rt y))
def d__law_all_bounds : List SD → M SD := defM 4 u__law_all_bounds
abbrev s__law_query : Stmt := Dw.topS 36
theorem sc__law_query : FnScope ["_law_source_here", "_law_intervals_here", "_law_code", "_law_names_here", "_law_pair", "_law_name", "_law_low", "_law_high"] ["_law_source_here", "_law_intervals_here"] (defScope s__law_query) := ⟨rfl, rfl, rfl, by decide +kernel, rfl, by decide +kernel, by decide +kernel⟩
def u__law_query (ρ : List SD) : M Out := seqM ((do let v ← (do let xs ← (do let x ← M.lift (getS ρ 0); let xs ← (do let x ← (do let xs ← (do let x ← pure (.d (PyData.str "sort")); let xs ← (do let x ← pure (.d (PyData.str "min")); let xs ← (do let x ← pure (.d (PyData.str "max")); let xs ← (do let x ← pure (.d (PyData.str "above")); let xs ← (do let x ← pure (.d (PyData.str "compare")); let xs ← (do let x ← pure (.d (PyData.str "sort")); let xs ← (do let x ← pure (.d (PyData.str "min")); let xs ← pure []; pure (x :: xs)); pure (x :: xs)); pure (x :: xs)); pure (x :: xs)); pure (x :: xs)); pure (x :: xs)); pure (x :: xs)); M.lift (gLst xs)); let xs ← pure []; pure (x :: xs)); pure (x :: xs)); callM 2 d__law_choice xs); let y ← M.lift (plain v); pure (.nx (ρ.set 2 y)))) (fun ρ => seqM ((do let v ← (do let xs ← (do let x ← M.lift (getS ρ 0); let xs ← (do let x ← M.lift (getS ρ 1); let xs ← pure []; pure (x :: xs)); pure (x :: xs)); callM 2 d__law_names xs); let y ← M.lift (plain v); pure (.nx (ρ.set 3 y)))) (fun ρ => seqM ((do if ← (do if ← (do let x ← M.lift (getS ρ 2); let y ← pure (.d (PyData.str "compare")); let z ← M.lift (gEq x y); M.lift (asB z)) then (do let x ← (do let xs ← (do let x ← M.lift (getS ρ 1); let xs ← pure []; pure (x :: xs)); bLen xs); let y ← pure (.d (PyData.int 1)); let z ← M.lift (gGt x y); M.lift (asB z)) else pure false) then (seqM ((do let v ← (do let x ← (do let xs ← (do let x ← M.lift (getS ρ 0); let xs ← (do let x ← (do let its ← (do let x ← M.lift (getS ρ 1); M.lift (itemsD x)); let ds ← lcM (.tp [5, 6, 7]) (fun ρ => pure true) (fun ρ => M.lift (getS ρ 5)) (wipeD ρ [5, 6, 7]) its []; pure (.d (.list ds))); let xs ← pure []; pure (x :: xs)); pure (x :: xs)); callM 2 d__law_shuffled xs); let l ← pure none; let h ← (do let x ← pure (.d (PyData.int 2)); let i ← M.lift (asI x); pure (some i)); M.lift (gSl x l h)); let y ← M.lift (plain v); pure (.nx (ρ.set 4 y)))) (fun ρ => (do let x ← (do let xs ← (do let x ← pure (.d (PyData.str "compare")); let xs ← (do let x ← (do let x ← M.lift (getS ρ 4); let y ← pure (.d (PyData.int 0)); M.lift (gIx x y)); let xs ← (do let x ← (do let x ← M.lift (getS ρ 4); let y ← pure (.d (PyData.int 1)); M.lift (gIx x y)); let xs ← pure []; pure (x :: xs)); pure (x :: xs)); pure (x :: xs)); M.lift (gTup xs)); let y ← M.lift (plain x); pure (.rt y)))) else (pure (.nx ρ)))) (fun ρ => seqM ((do if ← (do let x ← M.lift (getS ρ 2); let y ← pure (.d (PyData.str "above")); let z ← M.lift (gEq x y); M.lift (asB z)) then ((do let x ← (do let xs ← (do let x ← pure (.d (PyData.str "above")); let xs ← (do let x ← M.lift (getS ρ 3); let xs ← (do let x ← (do let xs ← (do let x ← M.lift (getS ρ 0); let xs ← (do let x ← (do let x ← (do let xs ← (do let x ← M.lift (getS ρ 1); let xs ← pure []; pure (x :: xs)); callM 1 d__law_all_bounds xs); let y ← (do let xs ← (do let x ← (do let xs ← (do let x ← M.lift (getS ρ 0); let xs ← (do let x ← pure (.d (PyData.int 8)); let xs ← pure []; pure (x :: xs)); pure (x :: xs)); callM 2 d__law_bound xs); let xs ← pure []; pure (x :: xs)); M.lift (gLst xs)); M.lift (gAdd x y)); let xs ← pure []; pure (x :: xs)); pure (x :: xs)); callM 2 d__law_choice xs); let xs ← pure []; pure (x :: xs)); pure (x :: xs)); pure (x :: xs)); M.lift (gTup xs)); let y ← M.lift (plain x); pure (.rt y))) else (pure (.nx ρ)))) (fun ρ => (do let x ← (do let xs ← (do let x ← (do if ← (do let x ← M.lift (getS ρ 2); let y ← pure (.d (PyData.str "compare")); let z ← M.lift (gEq x y); M.lift (asB z)) then pure (.d (PyData.str "sort")) else M.lift (getS ρ 2)); let xs ← (do let x ← M.lift (getS ρ 3); let xs ← pure []; pure (x :: xs)); pure (x :: xs)); M.lift (gTup xs)); let y ← M.lift (plain x); pure (.rt y))))))
def d__law_query : List SD → M SD := defM 8 u__law_query
abbrev s__law_queries : Stmt := Dw.topS 37
theorem sc__law_queries : FnScope ["_law_source_here", "_law_intervals_here", "_law_most", "_law_k"] ["_law_source_here", "_law_intervals_here", "_law_most"] (defScope s__law_queries) := ⟨rfl, rfl, rfl, by decide +kernel, rfl, by decide +kernel, by decide +kernel⟩
def u__law_queries (ρ : List SD) : M Out := (do let x ← (do let its ← (do let x ← (do let xs ← (do let x ← M.lift (getS ρ 0); let xs ← (do let x ← (do let x ← M.lift (getS ρ 2); let y ← pure (.d (PyData.int 1)); M.lift (gAdd x y)); let xs ← pure []; pure (x :: xs)); pure (x :: xs)); callM 2 drawD xs); let j ← M.lift (asI x); M.when (bigI j) (pure (rangeD 0 j.toNat))); let ds ← lcM (.nm 3) (fun ρ => pure true) (fun ρ => (do let xs ← (do let x ← M.lift (getS ρ 0); let xs ← (do let x ← M.lift (getS ρ 1); let xs ← pure []; pure (x :: xs)); pure (x :: xs)); callM 2 (fun xs => M.calm (d__law_query xs)) xs)) (wipeD ρ [3]) its []; pure (.d (.list ds))); let y ← M.lift (plain x); pure (.rt y))
def d__law_queries : List SD → M SD := defM 4 u__law_queries
abbrev s_law : Stmt := Dw.topS 39
theorem sc_law : FnScope ["_law_script", "_law_source_here", "_law_invalid", "_law_k", "_law_intervals_here", "_law_parts", "_law_index_here", "_law_bad", "_law_first", "_law_second", "_law_nine", "_law_query_here"] ["_law_script"] (defScope s_law) := ⟨rfl, rfl, rfl, by decide +kernel, rfl, by decide +kernel, by decide +kernel⟩
def u_law (ρ : List SD) : M Out := seqM ((do let v ← (do let xs ← (do let x ← pure (.d (PyData.str "")); let xs ← (do let x ← pure (.d (PyData.str "sort")); let xs ← (do let x ← pure (.d (PyData.str "min ")); let xs ← (do let x ← pure (.d (PyData.str "max A")); let xs ← (do let x ← pure (.d (PyData.str "order a b")); let xs ← (do let x ← pure (.d (PyData.str "sort a a")); let xs ← (do let x ← pure (.d (PyData.str "sort a  b")); let xs ← pure []; pure (x :: xs)); pure (x :: xs)); pure (x :: xs)); pure (x :: xs)); pure (x :: xs)); pure (x :: xs)); pure (x :: xs)); M.lift (gLst xs)); let y ← M.lift (plain v); pure (.nx (ρ.set 2 y)))) (fun ρ => seqM ((do let v ← (do let x ← M.lift (getS ρ 2); let y ← (do let xs ← (do let x ← pure (.d (PyData.str "compare a")); let xs ← (do let x ← pure (.d (PyData.str "compare a b c")); let xs ← (do let x ← pure (.d (PyData.str "compare a a")); let xs ← pure []; pure (x :: xs)); pure (x :: xs)); pure (x :: xs)); M.lift (gLst xs)); M.lift (gAdd x y)); let y ← M.lift (plain v); pure (.nx (ρ.set 2 y)))) (fun ρ => seqM ((do let v ← (do let x ← M.lift (getS ρ 2); let y ← (do let xs ← (do let x ← pure (.d (PyData.str "above a")); let xs ← (do let x ← pure (.d (PyData.str "above 1")); let xs ← (do let x ← pure (.d (PyData.str "above 1/1 a")); let xs ← (do let x ← pure (.d (PyData.str "above 2/4 a")); let xs ← pure []; pure (x :: xs)); pure (x :: xs)); pure (x :: xs)); pure (x :: xs)); M.lift (gLst xs)); M.lift (gAdd x y)); let y ← M.lift (plain v); pure (.nx (ρ.set 2 y)))) (fun ρ => seqM ((do let v ← (do let x ← M.lift (getS ρ 2); let y ← (do let xs ← (do let x ← pure (.d (PyData.str "above 01 a")); let xs ← (do let x ← pure (.d (PyData.str "above -0 a")); let xs ← (do let x ← pure (.d (PyData.str "above 1/-2 a")); let xs ← pure []; pure (x :: xs)); pure (x :: xs)); pure (x :: xs)); M.lift (gLst xs)); M.lift (gAdd x y)); let y ← M.lift (plain v); pure (.nx (ρ.set 2 y)))) (fun ρ => seqM ((do let v ← (do let x ← M.lift (getS ρ 2); let y ← (do let xs ← (do let x ← pure (.d (PyData.str "above 1/0 a")); let xs ← (do let x ← pure (.d (PyData.str "above +1 a")); let xs ← (do let x ← pure (.d (PyData.str "above 1/ a")); let xs ← (do let x ← pure (.d (PyData.str "above /2 a")); let xs ← pure []; pure (x :: xs)); pure (x :: xs)); pure (x :: xs)); pure (x :: xs)); M.lift (gLst xs)); M.lift (gAdd x y)); let y ← M.lift (plain v); pure (.nx (ρ.set 2 y)))) (fun ρ => seqM ((do let v ← (do let x ← M.lift (getS ρ 2); let y ← (do let xs ← (do let x ← pure (.d (PyData.str "above - a")); let xs ← (do let x ← pure (.d (PyData.str "above 1.5 a")); let xs ← (do let x ← pure (.d (PyData.str "above 1 a a")); let xs ← pure []; pure (x :: xs)); pure (x :: xs)); pure (x :: xs)); M.lift (gLst xs)); M.lift (gAdd x y)); let y ← M.lift (plain v); pure (.nx (ρ.set 2 y)))) (fun ρ => seqM ((do let v ← (do let x ← M.lift (getS ρ 2); let y ← (do let xs ← (do let x ← pure (.d (PyData.str "min abcdefg")); let xs ← (do let x ← pure (.d (PyData.str "min a1")); let xs ← (do let x ← pure (.d (PyData.str "Sort a")); let xs ← (do let x ← pure (.d (PyData.str " sort a")); let xs ← (do let x ← pure (.d (PyData.str "sort a;")); let xs ← pure []; pure (x :: xs)); pure (x :: xs)); pure (x :: xs)); pure (x :: xs)); pure (x :: xs)); M.lift (gLst xs)); M.lift (gAdd x y)); let y ← M.lift (plain v); pure (.nx (ρ.set 2 y)))) (fun ρ => seqM ((do let v ← (do let x ← M.lift (getS ρ 2); let y ← (do let xs ← (do let x ← pure (.d (PyData.str "above 1234567890123 a")); let xs ← (do let x ← pure (.d (PyData.str "above 1/1234567890123 a")); let xs ← pure []; pure (x :: xs)); pure (x :: xs)); M.lift (gLst xs)); M.lift (gAdd x y)); let y ← M.lift (plain v); pure (.nx (ρ.set 2 y)))) (fun ρ => seqM ((do let its ← (do let x ← pure (.d (PyData.int 5)); let j ← M.lift (asI x); M.when (bigI j) (pure (rangeD 0 j.toNat))); forM (.nm 3) (fun ρ => seqM ((do let v ← (do let xs ← (do let x ← M.lift (getS ρ 1); let xs ← (do let x ← pure (.d (PyData.int 5)); let xs ← (do let x ← pure (.d (PyData.int 6)); let xs ← pure []; pure (x :: xs)); pure (x :: xs)); pure (x :: xs)); callM 3 d__law_intervals xs); let y ← M.lift (plain v); pure (.nx (ρ.set 4 y)))) (fun ρ => seqM ((do let its ← (do let x ← (do let xs ← (do let x ← M.lift (getS ρ 1); let xs ← (do let x ← M.lift (getS ρ 4); let xs ← (do let x ← pure (.d (PyData.int 6)); let xs ← pure []; pure (x :: xs)); pure (x :: xs)); pure (x :: xs)); callM 3 d__law_queries xs); M.lift (itemsD x)); let ds ← lcM (.nm 11) (fun ρ => pure true) (fun ρ => (do let xs ← (do let x ← M.lift (getS ρ 11); let xs ← pure []; pure (x :: xs)); callM 1 (fun xs => M.calm (d_format_query xs)) xs)) (wipeD ρ [11]) its []; pure (.nx (ρ.set 5 (.own ds))))) (fun ρ => seqM ((do if ← (M.calm ((fun ρ => (do let x ← (do let xs ← (do let x ← (do let x ← pure (.d (PyData.str "; ")); let a ← M.lift (asTx x); let y ← M.lift (getS ρ 5); M.lift (gJoin a y)); let xs ← pure []; pure (x :: xs)); callM 1 d__law_index xs); let y ← pure (.d PyData.none); let z ← M.lift (gIsNot x y); M.lift (asB z))) (ρ.map frzS))) then ((do let x ← (fun ρ => pure (.d (PyData.bool false))) (ρ.map frzS); let y ← M.lift (plain x); pure (.rt y))) else (pure (.nx ρ)))) (fun ρ => seqM ((do let v ← (do let xs ← (do let x ← M.lift (getS ρ 1); let xs ← (do let x ← (do let x ← (do let xs ← (do let x ← M.lift (getS ρ 5); let xs ← pure []; pure (x :: xs)); bLen xs); let y ← pure (.d (PyData.int 1)); M.lift (gAdd x y)); let xs ← pure []; pure (x :: xs)); pure (x :: xs)); callM 2 drawD xs); let y ← M.lift (plain v); pure (.nx (ρ.set 6 y)))) (fun ρ => seqM ((do let v ← (do let xs ← (do let x ← M.lift (getS ρ 1); let xs ← (do let x ← (do if ← (do let x ← M.lift (getS ρ 5); let y ← (do let xs ← pure []; M.lift (gLst xs)); let z ← M.lift (gNeL x y); M.lift (asB z)) then M.lift (getS ρ 2) else (do let x ← M.lift (getS ρ 2); let l ← (do let x ← pure (.d (PyData.int 1)); let i ← M.lift (asI x); pure (some i)); let h ← pure none; M.lift (gSl x l h))); let xs ← pure []; pure (x :: xs)); pure (x :: xs)); callM 2 d__law_choice xs); let y ← M.lift (plain v); pure (.nx (ρ.set 7 y)))) (fun ρ => seqM ((do let ds ← M.lift (ownL ρ 5); let w ← M.lift (getS ρ 6); let j ← M.lift (asI w); let y ← M.lift (getS ρ 7); let z ← M.lift (asD y); M.when (szOk (ds.length + 1) && decide (0 ≤ j) && bigI j) (pure (.nx (ρ.set 5 (.own (ds.take j.toNat ++ [z] ++ ds.drop j.toNat))))))) (fun ρ => (do if ← (M.calm ((fun ρ => (do let b ← (do let x ← (do let xs ← (do let x ← (do let xs ← (do let x ← (do let x ← pure (.d (PyData.str "; ")); let a ← M.lift (asTx x); let y ← M.lift (getS ρ 5); M.lift (gJoin a y)); let xs ← pure []; pure (x :: xs)); callM 1 d__law_index xs); let xs ← (do let x ← M.lift (getS ρ 6); let xs ← pure []; pure (x :: xs)); pure (x :: xs)); callM 2 (sameM 3) xs); M.lift (truD x)); pure (!b))) (ρ.map frzS))) then ((do let x ← (fun ρ => pure (.d (PyData.bool false))) (ρ.map frzS); let y ← M.lift (plain x); pure (.rt y))) else (pure (.nx ρ)))))))))) its ρ)) (fun ρ => seqM ((do let x ← (do let xs ← (do let x ← pure (.d (PyData.str "min a")); let xs ← pure []; pure (x :: xs)); M.lift (gLst xs)); let y ← (do let x ← pure (.d (PyData.int 2)); let y ← (do let xs ← (do let x ← M.lift (getS ρ 1); let xs ← (do let x ← pure (.d (PyData.int 9)); let xs ← pure []; pure (x :: xs)); pure (x :: xs)); callM 2 drawD xs); M.lift (gAdd x y)); let ds ← M.lift (gRepO x y); pure (.nx (ρ.set 5 (.own ds))))) (fun ρ => seqM ((do let v ← (do let x ← (do let xs ← (do let x ← M.lift (getS ρ 1); let xs ← (do let x ← (do let x ← (do let xs ← (do let x ← M.lift (getS ρ 5); let xs ← pure []; pure (x :: xs)); bLen xs); let j ← M.lift (asI x); M.when (decide (0 ≤ j) && decide (j ≤ 100000)) (pure (.d (.list ((List.range j.toNat).map fun i : Nat => PyData.int (i : Int)))))); let xs ← pure []; pure (x :: xs)); pure (x :: xs)); callM 2 d__law_shuffled xs); let l ← pure none; let h ← (do let x ← pure (.d (PyData.int 2)); let i ← M.lift (asI x); pure (some i)); M.lift (gSl x l h)); let ρ' ← M.lift (kOfL [8, 9] v ρ); pure (.nx ρ'))) (fun ρ => seqM ((do let y ← pure (.d (PyData.str "sort")); let z ← M.lift (asD y); let ds ← M.lift (ownL ρ 5); let w ← M.lift (getS ρ 8); let j ← M.lift (asI w); M.when (decide (0 ≤ j) && decide (j.toNat < ds.length) && szOk ds.length) (pure (.nx (ρ.set 5 (.own (ds.set j.toNat z))))))) (fun ρ => seqM ((do let y ← pure (.d (PyData.str "above 2/2 a")); let z ← M.lift (asD y); let ds ← M.lift (ownL ρ 5); let w ← M.lift (getS ρ 9); let j ← M.lift (asI w); M.when (decide (0 ≤ j) && decide (j.toNat < ds.length) && szOk ds.length) (pure (.nx (ρ.set 5 (.own (ds.set j.toNat z))))))) (fun ρ => seqM ((do if ← (M.calm ((fun ρ => (do let b ← (do let x ← (do let xs ← (do let x ← (do let xs ← (do let x ← (do let x ← pure (.d (PyData.str "; ")); let a ← M.lift (asTx x); let y ← M.lift (getS ρ 5); M.lift (gJoin a y)); let xs ← pure []; pure (x :: xs)); callM 1 d__law_index xs); let xs ← (do let x ← (do let xs ← (do let x ← (do let xs ← (do let x ← M.lift (getS ρ 8); let xs ← (do let x ← M.lift (getS ρ 9); let xs ← (do let x ← pure (.d (PyData.int 8)); let xs ← pure []; pure (x :: xs)); pure (x :: xs)); pure (x :: xs)); M.lift (gLst xs)); let xs ← pure []; pure (x :: xs)); (bPick2 false) xs); let xs ← pure []; pure (x :: xs)); pure (x :: xs)); callM 2 (sameM 3) xs); M.lift (truD x)); pure (!b))) (ρ.map frzS))) then ((do let x ← (fun ρ => pure (.d (PyData.bool false))) (ρ.map frzS); let y ← M.lift (plain x); pure (.rt y))) else (pure (.nx ρ)))) (fun ρ => seqM ((do let v ← (do let x ← (do let xs ← (do let x ← pure (.d (PyData.str "min a")); let xs ← pure []; pure (x :: xs)); M.lift (gLst xs)); let y ← pure (.d (PyData.int 9)); M.lift (gRep x y)); let y ← M.lift (plain v); pure (.nx (ρ.set 10 y)))) (fun ρ => seqM ((do if ← (do let b ← (do let x ← (do let xs ← (do let x ← (do let xs ← (do let x ← (do let x ← pure (.d (PyData.str "; ")); let a ← M.lift (asTx x); let y ← M.lift (getS ρ 10); M.lift (gJoin a y)); let xs ← pure []; pure (x :: xs)); callM 1 d__law_index xs); let xs ← (do let x ← pure (.d (PyData.int 8)); let xs ← pure []; pure (x :: xs)); pure (x :: xs)); callM 2 (sameM 3) xs); M.lift (truD x)); pure (!b)) then ((do let x ← (fun ρ => pure (.d (PyData.bool false))) (ρ.map frzS); let y ← M.lift (plain x); pure (.rt y))) else (pure (.nx ρ)))) (fun ρ => (do let x ← (fun ρ => (do let x ← (do let xs ← (do let x ← (do let xs ← (do let x ← (do let x ← pure (.d (PyData.str "; ")); let a ← M.lift (asTx x); let y ← (do let x ← M.lift (getS ρ 10); let l ← pure none; let h ← (do let x ← pure (.d (PyData.int 8)); let i ← M.lift (asI x); pure (some i)); M.lift (gSl x l h)); M.lift (gJoin a y)); let xs ← pure []; pure (x :: xs)); callM 1 d_parse_queries xs); let xs ← pure []; pure (x :: xs)); bLen xs); let y ← pure (.d (PyData.int 8)); M.lift (gEq x y))) (ρ.map frzS); let y ← M.lift (plain x); pure (.rt y))))))))))))))))))
def d_law : List SD → M SD := defM 12 u_law
end
end Dd
namespace Dd
open PySem PySem.Spec PyProof.Rows L2
section
variable {P : Program} {w : World} {K : PySem.W.Frag} {mg : Str → Option Value} {base : Heap}
abbrev s_QueryError : Stmt := inClass (Dw.topS 1) 0
theorem sc_QueryError : FnScope ["self", "message", "code"] ["self", "message", "code"] (defScope s_QueryError) := ⟨rfl, rfl, rfl, by decide +kernel, rfl, by decide +kernel, by decide +kernel⟩
theorem ok_QueryError {f : Addr} {fd : FuncData} {k : Nat} (F : FunD K "__init__" "QueryError.__init__" (defArgs s_QueryError) (defBody s_QueryError) (defScope s_QueryError) [.str "", .str ""] [] f fd) (mV : mg "ValueError" = none) (vV : PySem.W.findCls K (.type "ValueError") (.type "type") "__init__" = some (.val (.builtin "ValueError.__init__"))) :
    FnOk P w K mg base CX0 (k + 1) f fd ["self", "message", "code"] (spQE K) := by
  refine F.ok sc_QueryError (fun vs H Q E h => ?_) (fun cdv A outer s H vs Q E hr h => ?_)
  · obtain ⟨a, C, m, c, rfl, _⟩ := h
    rfl
  · obtain ⟨a, C, m, c, rfl, oe, nf, ha, q⟩ := h
    refine ⟨_, pss_cons (ps_expr (pe_veinit (by rfl) mV vV (pa_cons (pv 0) (pa_cons (pv 1) pa_nil)))) (pss_one (ps_ost (pv 0) (pv 2))), ?_⟩
    refine ⟨_, rfl, _, rfl, a, C, [m], rfl, Nat.le_of_ble_eq_true rfl, oe, ha, ?_⟩
    exact ⟨_, rfl, _, rfl, a, C, rfl, oe, nf, .inl ⟨ha, fun dx h1 h2 => q dx h1 h2⟩⟩
abbrev s_InvalidText : Stmt := inClass (Dw.topS 2) 0
theorem sc_InvalidText : FnScope ["self", "index"] ["self", "index"] (defScope s_InvalidText) := ⟨rfl, rfl, rfl, by decide +kernel, rfl, by decide +kernel, by decide +kernel⟩
theorem ok_InvalidText {f fQ CQ C : Addr} {fd fdQ : FuncData} {k : Nat} {mc : Value} (F : Fun K "__init__" "InvalidText.__init__" s_InvalidText f fd) (GQ : FnOk P w K mg base CX0 (k + 1) fQ fdQ ["self", "message", "code"] (spQE K)) (gQ : mg "QueryError" = some (.ref CQ)) (rdQ : ClX.CRead K CQ mc) (fnd : PySem.W.findCls K (.ref CQ) mc "__init__" = some (.val (.ref fQ))) (kp : PySem.W.keepIn K (.ref fQ) = true) (bQ : L2.Binds K fdQ ["self", "message", "code"] []) (oe : OexC K C) (nc : PySem.W.findIn K (.ref C) "code" = some none) (na : PySem.W.findIn K (.ref C) "index" = some none) : FnOk P w K mg base CX0 (k + 2) f fd ["self", "index"] (spErr C ⟨"text", some "index", true⟩) := by
  refine F.ok sc_InvalidText (fun vs H Q E h => ?_) (fun cdv A outer s H vs Q E hr h => ?_)
  · obtain ⟨a, x, rfl, _⟩ := h
    rfl
  · obtain ⟨a, x, rfl, ha, av, q⟩ := h
    obtain ⟨i, rfl, hi⟩ := arg_int av rfl
    refine ⟨_, pss_cons (ps_expr (Dw.pe_clsfn GQ hr (by rfl) gQ rdQ fnd kp bQ .nil pass0 (pa_cons (pv 0) (pa_cons (pe_js0 (dj0_str (by decide +kernel) (dj0_fmt hi (pv 1) (dj0_str (by decide +kernel) dj0_nil)))) (pa_cons pe_str pa_nil))))) (pss_one (ps_ost (pv 0) (pv 1))), ?_⟩
    refine ⟨_, rfl, rfl, fun m => ?_⟩
    refine ⟨a, C, .str m, _, rfl, oe, nc, ha, fun dx h1 h2 => ?_⟩
    refine ⟨_, rfl, _, rfl, a, C, rfl, oe, na, .inr ⟨dx, _, upd_same, by rw [upd_ne h2, upd_same], Nat.le_of_ble_eq_true rfl, ?_⟩⟩
    have eq : upd (upd (upd H dx (exd dx [("code", .str "text")])) a (exo a C (some dx))) dx (exd dx [("index", (V.int i)), ("code", .str "text")]) = upd (upd H dx (exd dx (fldV ⟨"text", some "index", true⟩ (V.int i)))) a (exo a C (some dx)) := upd_twice h2
    rw [eq]
    exact q H dx (fun _ _ h => h) h1 h2
end
end Dd
namespace Dd
open PySem PySem.Spec PyProof.Rows L2
section
variable {P : Program} {w : World} {K : PySem.W.Frag} {mg : Str → Option Value} {base : Heap}
theorem o__law_shuffled (AT : At K mg "_law_shuffled" s__law_shuffled) (G__law_draw : Ok P w K mg base 1 "_law_draw" 2 drawD) (B : Blt mg) : Ok P w K mg base 2 "_law_shuffled" 2 d__law_shuffled :=
  okOf AT sc__law_shuffled rfl (by decide) (fun _ _ _ _ _ _ us hl => match us, hl with | [_, _], _ => rfl) fun f cdv A outer s H E hr =>
  (dss_cons (ds_setL (i := 2) sc__law_shuffled.nd rfl (by first | exact Or.inl rfl | exact Or.inr rfl) da_nil)
  (dss_cons (ds_for (t := (.nm 3)) (passes_of rfl) rfl (di_seq (de_var 1 (pv 1))) (pg_name (i := 3) sc__law_shuffled.nd rfl (by first | exact Or.inl rfl | exact Or.inr rfl)) (dss_one (ds_insert 2 (pv 2) (de_callO G__law_draw (hr.mono (by decide)) (by rfl) (fun σ => passAt (takes_of rfl rfl rfl rfl) σ) (da_cons (de_var 0 (pv 0)) (da_cons (de_add (de_b br_len (by rfl) B.len_ (by decide +kernel) (da_cons (de_var 2 (pv 2)) da_nil)) de_int) da_nil))) (de_var 3 (pv 3)))))
  (dss_one (ds_retO 2 (pv 2)))))
end
end Dd
namespace Dd
open PySem PySem.Spec PyProof.Rows L2
section
variable {P : Program} {w : World} {K : PySem.W.Frag} {mg : Str → Option Value} {base : Heap}
theorem o__law_gcd (AT : At K mg "_law_gcd" s__law_gcd)  (B : Blt mg) : Ok P w K mg base 1 "_law_gcd" 2 d__law_gcd :=
  okOf AT sc__law_gcd rfl (by decide) (fun _ _ _ _ _ _ us hl => match us, hl with | [_, _], _ => rfl) fun f cdv A outer s H E hr =>
  (dss_cons (ds_while (passes_of rfl) (dt_cmp (c_ne hr) (de_var 1 (pv 1)) de_int (nomark _)) (dss_cons (ds_set (i := 2) sc__law_gcd.nd rfl (by first | exact Or.inl rfl | exact Or.inr rfl) (de_mod (de_var 0 (pv 0)) (de_var 1 (pv 1))))
  (dss_cons (ds_set (i := 0) sc__law_gcd.nd rfl (by first | exact Or.inl rfl | exact Or.inr rfl) (de_var 1 (pv 1)))
  (dss_one (ds_set (i := 1) sc__law_gcd.nd rfl (by first | exact Or.inl rfl | exact Or.inr rfl) (de_var 2 (pv 2)))))))
  (dss_one (ds_ret (de_b br_abs (by rfl) B.abs_ (by decide +kernel) (da_cons (de_var 0 (pv 0)) da_nil)))))
end
end Dd
namespace Dd
open PySem PySem.Spec PyProof.Rows L2
section
variable {P : Program} {w : World} {K : PySem.W.Frag} {mg : Str → Option Value} {base : Heap}
theorem o__law_reduced (AT : At K mg "_law_reduced" s__law_reduced) (G__law_gcd : Ok P w K mg base 1 "_law_gcd" 2 d__law_gcd) : Ok P w K mg base 2 "_law_reduced" 2 d__law_reduced :=
  okOf AT sc__law_reduced rfl (by decide) (fun _ _ _ _ _ _ us hl => match us, hl with | [_, _], _ => rfl) fun f cdv A outer s H E hr =>
  (dss_cons (ds_set (i := 2) sc__law_reduced.nd rfl (by first | exact Or.inl rfl | exact Or.inr rfl) (de_callO G__law_gcd (hr.mono (by decide)) (by rfl) (fun σ => passAt (takes_of rfl rfl rfl rfl) σ) (da_cons (de_var 0 (pv 0)) (da_cons (de_var 1 (pv 1)) da_nil))))
  (dss_cons (ds_if (dt_cmp c_lt (de_var 1 (pv 1)) de_int (nomark _)) (dss_one (ds_set (i := 2) sc__law_reduced.nd rfl (by first | exact Or.inl rfl | exact Or.inr rfl) (de_sub de_int (de_var 2 (pv 2))))) dss_nil)
  (dss_one (ds_ret (de_tup (da_cons (de_div (de_var 0 (pv 0)) (de_var 2 (pv 2))) (da_cons (de_div (de_var 1 (pv 1)) (de_var 2 (pv 2))) da_nil)))))))
end
end Dd
namespace Dd
open PySem PySem.Spec PyProof.Rows L2
section
variable {P : Program} {w : World} {K : PySem.W.Frag} {mg : Str → Option Value} {base : Heap}
theorem o__law_bound (AT : At K mg "_law_bound" s__law_bound) (G__law_draw : Ok P w K mg base 1 "_law_draw" 2 drawD) (G__law_reduced : Ok P w K mg base 2 "_law_reduced" 2 d__law_reduced) : Ok P w K mg base 3 "_law_bound" 2 d__law_bound :=
  okOf AT sc__law_bound rfl (by decide) (fun _ _ _ _ _ _ us hl => match us, hl with | [_, _], _ => rfl) fun f cdv A outer s H E hr =>
  (dss_cons (ds_if (dt_cmp (c_eq hr) (de_callO G__law_draw (hr.mono (by decide)) (by rfl) (fun σ => passAt (takes_of rfl rfl rfl rfl) σ) (da_cons (de_var 0 (pv 0)) (da_cons de_int da_nil))) de_int (nomark _)) (dss_one (ds_ret (de_callO G__law_reduced (hr.mono (by decide)) (by rfl) (fun σ => passAt (takes_of rfl rfl rfl rfl) σ) (da_cons (de_sub (de_callO G__law_draw (hr.mono (by decide)) (by rfl) (fun σ => passAt (takes_of rfl rfl rfl rfl) σ) (da_cons (de_var 0 (pv 0)) (da_cons (de_add (de_mul de_int (de_var 1 (pv 1))) de_int) da_nil))) (de_mul de_int (de_var 1 (pv 1)))) (da_cons (de_add de_int (de_callO G__law_draw (hr.mono (by decide)) (by rfl) (fun σ => passAt (takes_of rfl rfl rfl rfl) σ) (da_cons (de_var 0 (pv 0)) (da_cons de_int da_nil)))) da_nil))))) dss_nil)
  (dss_one (ds_ret (de_tup (da_cons (de_sub (de_callO G__law_draw (hr.mono (by decide)) (by rfl) (fun σ => passAt (takes_of rfl rfl rfl rfl) σ) (da_cons (de_var 0 (pv 0)) (da_cons (de_add (de_var 1 (pv 1)) de_int) da_nil))) (de_div (de_var 1 (pv 1)) de_int)) (da_cons de_int da_nil))))))
end
end Dd
namespace Dd
open PySem PySem.Spec PyProof.Rows L2
section
variable {P : Program} {w : World} {K : PySem.W.Frag} {mg : Str → Option Value} {base : Heap}
theorem o__law_less (AT : At K mg "_law_less" s__law_less)  : Ok P w K mg base 1 "_law_less" 2 d__law_less :=
  okOf AT sc__law_less rfl (by decide) (fun _ _ _ _ _ _ us hl => match us, hl with | [_, _], _ => rfl) fun f cdv A outer s H E hr =>
  (dss_one (ds_ret (de_cmp c_lt (de_mul (de_ix hr (de_var 0 (pv 0)) de_int (fun _ _ => rfl)) (de_ix hr (de_var 1 (pv 1)) de_int (fun _ _ => rfl))) (de_mul (de_ix hr (de_var 1 (pv 1)) de_int (fun _ _ => rfl)) (de_ix hr (de_var 0 (pv 0)) de_int (fun _ _ => rfl))) (nomark _))))
end
end Dd
namespace Dd
open PySem PySem.Spec PyProof.Rows L2
section
variable {P : Program} {w : World} {K : PySem.W.Frag} {mg : Str → Option Value} {base : Heap}
theorem o__law_choice (AT : At K mg "_law_choice" s__law_choice) (G__law_draw : Ok P w K mg base 1 "_law_draw" 2 drawD) (B : Blt mg) : Ok P w K mg base 2 "_law_choice" 2 d__law_choice :=
  okOf AT sc__law_choice rfl (by decide) (fun _ _ _ _ _ _ us hl => match us, hl with | [_, _], _ => rfl) fun f cdv A outer s H E hr =>
  (dss_one (ds_ret (de_ix hr (de_var 1 (pv 1)) (de_callO G__law_draw (hr.mono (by decide)) (by rfl) (fun σ => passAt (takes_of rfl rfl rfl rfl) σ) (da_cons (de_var 0 (pv 0)) (da_cons (de_b br_len (by rfl) B.len_ (by decide +kernel) (da_cons (de_var 1 (pv 1)) da_nil)) da_nil))) (fun _ _ => rfl))))
end
end Dd
namespace Dd
open PySem PySem.Spec PyProof.Rows L2
section
variable {P : Program} {w : World} {K : PySem.W.Frag} {mg : Str → Option Value} {base : Heap}
theorem o__law_interval (AT : At K mg "_law_interval" s__law_interval) (G__law_bound : Ok P w K mg base 3 "_law_bound" 2 d__law_bound) (G__law_choice : Ok P w K mg base 2 "_law_choice" 2 d__law_choice) (G__law_draw : Ok P w K mg base 1 "_law_draw" 2 drawD) (G__law_less : Ok P w K mg base 1 "_law_less" 2 d__law_less) : Ok P w K mg base 4 "_law_interval" 3 d__law_interval :=
  okOf AT sc__law_interval rfl (by decide) (fun _ _ _ _ _ _ us hl => match us, hl with | [_, _, _], _ => rfl) fun f cdv A outer s H E hr =>
  (dss_cons (ds_set (i := 3) sc__law_interval.nd rfl (by first | exact Or.inl rfl | exact Or.inr rfl) (de_callO G__law_bound (hr.mono (by decide)) (by rfl) (fun σ => passAt (takes_of rfl rfl rfl rfl) σ) (da_cons (de_var 0 (pv 0)) (da_cons (de_var 1 (pv 1)) da_nil))))
  (dss_cons (ds_set (i := 4) sc__law_interval.nd rfl (by first | exact Or.inl rfl | exact Or.inr rfl) (de_callO G__law_bound (hr.mono (by decide)) (by rfl) (fun σ => passAt (takes_of rfl rfl rfl rfl) σ) (da_cons (de_var 0 (pv 0)) (da_cons (de_var 1 (pv 1)) da_nil))))
  (dss_cons (ds_set (i := 5) sc__law_interval.nd rfl (by first | exact Or.inl rfl | exact Or.inr rfl) (de_callO G__law_draw (hr.mono (by decide)) (by rfl) (fun σ => passAt (takes_of rfl rfl rfl rfl) σ) (da_cons (de_var 0 (pv 0)) (da_cons de_int da_nil))))
  (dss_cons (ds_if (dw_pt (dw_and (dt_cmp (c_ne hr) (de_var 2 (pv 2)) (de_lst da_nil) (nomark _)) (dw_and1 (dt_cmp (c_eq hr) (de_var 5 (pv 5)) de_int (nomark _))))) (dss_one (ds_ret (de_callO G__law_choice (hr.mono (by decide)) (by rfl) (fun σ => passAt (takes_of rfl rfl rfl rfl) σ) (da_cons (de_var 0 (pv 0)) (da_cons (de_var 2 (pv 2)) da_nil))))) dss_nil)
  (dss_cons (ds_if (dw_pt (dw_and (dt_cmp (c_ne hr) (de_var 2 (pv 2)) (de_lst da_nil) (nomark _)) (dw_and1 (dt_cmp (c_eq hr) (de_var 5 (pv 5)) de_int (nomark _))))) (dss_one (ds_set (i := 3) sc__law_interval.nd rfl (by first | exact Or.inl rfl | exact Or.inr rfl) (de_ix hr (de_callO G__law_choice (hr.mono (by decide)) (by rfl) (fun σ => passAt (takes_of rfl rfl rfl rfl) σ) (da_cons (de_var 0 (pv 0)) (da_cons (de_var 2 (pv 2)) da_nil))) (de_callO G__law_draw (hr.mono (by decide)) (by rfl) (fun σ => passAt (takes_of rfl rfl rfl rfl) σ) (da_cons (de_var 0 (pv 0)) (da_cons de_int da_nil))) (fun _ _ => rfl)))) dss_nil)
  (dss_cons (ds_if (dt_truth (de_callO G__law_less (hr.mono (by decide)) (by rfl) (fun σ => passAt (takes_of rfl rfl rfl rfl) σ) (da_cons (de_var 4 (pv 4)) (da_cons (de_var 3 (pv 3)) da_nil)))) (dss_one (ds_ret (de_tup (da_cons (de_var 4 (pv 4)) (da_cons (de_var 3 (pv 3)) da_nil))))) dss_nil)
  (dss_cons (ds_if (dw_pt (dw_and (dt_cmp (c_eq hr) (de_var 4 (pv 4)) (de_var 3 (pv 3)) (nomark _)) (dw_and1 (dt_cmp c_gt (de_var 5 (pv 5)) de_int (nomark _))))) (dss_one (ds_ret (de_tup (da_cons (de_var 3 (pv 3)) (da_cons (de_tup (da_cons (de_add (de_ix hr (de_var 3 (pv 3)) de_int (fun _ _ => rfl)) (de_ix hr (de_var 3 (pv 3)) de_int (fun _ _ => rfl))) (da_cons (de_ix hr (de_var 3 (pv 3)) de_int (fun _ _ => rfl)) da_nil))) da_nil))))) dss_nil)
  (dss_one (ds_ret (de_tup (da_cons (de_var 3 (pv 3)) (da_cons (de_var 4 (pv 4)) da_nil))))))))))))
end
end Dd
namespace Dd
open PySem PySem.Spec PyProof.Rows L2
section
variable {P : Program} {w : World} {K : PySem.W.Frag} {mg : Str → Option Value} {base : Heap}
theorem o__law_intervals (AT : At K mg "_law_intervals" s__law_intervals) (G__law_draw : Ok P w K mg base 1 "_law_draw" 2 drawD) (G__law_interval : Ok P w K mg base 4 "_law_interval" 3 d__law_interval) (G__law_shuffled : Ok P w K mg base 2 "_law_shuffled" 2 d__law_shuffled) (B : Blt mg) : Ok P w K mg base 5 "_law_intervals" 3 d__law_intervals :=
  okOf AT sc__law_intervals rfl (by decide) (fun _ _ _ _ _ _ us hl => match us, hl with | [_, _, _], _ => rfl) fun f cdv A outer s H E hr =>
  (dss_cons (ds_set (i := 3) sc__law_intervals.nd rfl (by first | exact Or.inl rfl | exact Or.inr rfl) (de_lst (da_cons de_str (da_cons de_str (da_cons de_str (da_cons de_str (da_cons de_str (da_cons de_str (da_cons de_str da_nil)))))))))
  (dss_cons (ds_set (i := 4) sc__law_intervals.nd rfl (by first | exact Or.inl rfl | exact Or.inr rfl) (de_add de_int (de_callO G__law_draw (hr.mono (by decide)) (by rfl) (fun σ => passAt (takes_of rfl rfl rfl rfl) σ) (da_cons (de_var 0 (pv 0)) (da_cons (de_var 1 (pv 1)) da_nil)))))
  (dss_cons (ds_set (i := 5) sc__law_intervals.nd rfl (by first | exact Or.inl rfl | exact Or.inr rfl) (de_slice (de_callO G__law_shuffled (hr.mono (by decide)) (by rfl) (fun σ => passAt (takes_of rfl rfl rfl rfl) σ) (da_cons (de_var 0 (pv 0)) (da_cons (de_var 3 (pv 3)) da_nil))) do_none (do_some (de_var 4 (pv 4)))))
  (dss_cons (ds_setL (i := 6) sc__law_intervals.nd rfl (by first | exact Or.inl rfl | exact Or.inr rfl) da_nil)
  (dss_cons (ds_for (t := (.nm 7)) (passes_of rfl) rfl (di_seq (de_var 5 (pv 5))) (pg_name (i := 7) sc__law_intervals.nd rfl (by first | exact Or.inl rfl | exact Or.inr rfl)) (dss_one (ds_append 6 (pv 6) (de_callO G__law_interval (hr.mono (by decide)) (by rfl) (fun σ => passAt (takes_of rfl rfl rfl rfl) σ) (da_cons (de_var 0 (pv 0)) (da_cons (de_var 2 (pv 2)) (da_cons (de_var 6 (pv 6)) da_nil)))))))
  (dss_one (ds_retF (de_b (br_sorted2 rfl hr) (by rfl) B.sorted_ (by decide +kernel) (da_cons (de_lc (own := [("_law_at", 8)]) (t := (.nm 8)) rfl sc__law_intervals.nd (di_range1 (by rfl) B.range_ (de_var 4 (pv 4))) (blkOk_by (by kernel_rfl)) rfl (fun _ _ _ _ _ => (pg_name (i := 8) sc__law_intervals.nd rfl (by first | exact Or.inl rfl | exact Or.inr rfl))) (fun _ _ _ _ _ => dts_nil) (fun _ _ _ _ _ => (de_tup (da_cons (de_ix hr (de_var 5 (pv 5)) (de_var 8 (pv 8)) (fun _ _ => rfl)) (da_cons (de_ix hr (de_ix hr (de_var 6 (pv 6)) (de_var 8 (pv 8)) (fun _ _ => rfl)) de_int (fun _ _ => rfl)) (da_cons (de_ix hr (de_ix hr (de_var 6 (pv 6)) (de_var 8 (pv 8)) (fun _ _ => rfl)) de_int (fun _ _ => rfl)) da_nil)))))) da_nil)))))))))
end
end Dd
namespace Dd
open PySem PySem.Spec PyProof.Rows L2
section
variable {P : Program} {w : World} {K : PySem.W.Frag} {mg : Str → Option Value} {base : Heap}
theorem o_format_fraction (AT : At K mg "format_fraction" s_format_fraction)  (B : Blt mg) : Ok P w K mg base 1 "format_fraction" 1 d_format_fraction :=
  okOf AT sc_format_fraction rfl (by decide) (fun _ _ _ _ _ _ us hl => match us, hl with | [_], _ => rfl) fun f cdv A outer s H E hr =>
  (dss_cons (ds_unp (t := (.tp [1, 2])) (de_var 0 (pv 0)) (pg_tup rfl (pgs_cons (pg_name (i := 1) sc_format_fraction.nd rfl (by first | exact Or.inl rfl | exact Or.inr rfl)) (pgs_cons (pg_name (i := 2) sc_format_fraction.nd rfl (by first | exact Or.inl rfl | exact Or.inr rfl)) pgs_nil))))
  (dss_one (ds_ret (de_if (dt_cmp (c_eq hr) (de_var 2 (pv 2)) de_int (nomark _)) (de_bty br_strI (by rfl) B.str_ (by decide +kernel) (da_cons (de_var 1 (pv 1)) da_nil)) (de_jsx (dj2_fmt (de_var 1 (pv 1)) (dj2_str (by decide +kernel) (dj2_fmt (de_var 2 (pv 2)) dj2_nil))))))))
end
end Dd
namespace Dd
open PySem PySem.Spec PyProof.Rows L2
section
variable {P : Program} {w : World} {K : PySem.W.Frag} {mg : Str → Option Value} {base : Heap}
theorem o_names_of (AT : At K mg "names_of" s_names_of)  : Ok P w K mg base 1 "names_of" 1 d_names_of :=
  okOf AT sc_names_of rfl (by decide) (fun _ _ _ _ _ _ us hl => match us, hl with | [_], _ => rfl) fun f cdv A outer s H E hr =>
  (dss_one (ds_ret (de_if (dt_cmp (c_eq hr) (de_ix hr (de_var 0 (pv 0)) de_int (fun _ _ => rfl)) de_str (nomark _)) (de_slice (de_var 0 (pv 0)) (do_some de_int) do_none) (de_ix hr (de_var 0 (pv 0)) de_int (fun _ _ => rfl)))))
end
end Dd
namespace Dd
open PySem PySem.Spec PyProof.Rows L2
section
variable {P : Program} {w : World} {K : PySem.W.Frag} {mg : Str → Option Value} {base : Heap}
theorem o_format_query (AT : At K mg "format_query" s_format_query) (G_format_fraction : Ok P w K mg base 1 "format_fraction" 1 d_format_fraction) (G_names_of : Ok P w K mg base 1 "names_of" 1 d_names_of) (B : Blt mg) : Ok P w K mg base 2 "format_query" 1 d_format_query :=
  okOf AT sc_format_query rfl (by decide) (fun _ _ _ _ _ _ us hl => match us, hl with | [_], _ => rfl) fun f cdv A outer s H E hr =>
  (dss_cons (ds_setL (i := 1) sc_format_query.nd rfl (by first | exact Or.inl rfl | exact Or.inr rfl) (da_cons (de_ix hr (de_var 0 (pv 0)) de_int (fun _ _ => rfl)) da_nil))
  (dss_cons (ds_if (dt_cmp (c_eq hr) (de_ix hr (de_var 0 (pv 0)) de_int (fun _ _ => rfl)) de_str (nomark _)) (dss_one (ds_append 1 (pv 1) (de_callO G_format_fraction (hr.mono (by decide)) (by rfl) (fun σ => passAt (takes_of rfl rfl rfl rfl) σ) (da_cons (de_ix hr (de_var 0 (pv 0)) de_int (fun _ _ => rfl)) da_nil)))) dss_nil)
  (dss_one (ds_retF (de_join de_str (de_add (de_var 1 (pv 1)) (de_bty (br_list rfl) (by rfl) B.list_ (by decide +kernel) (da_cons (de_callO G_names_of (hr.mono (by decide)) (by rfl) (fun σ => passAt (takes_of rfl rfl rfl rfl) σ) (da_cons (de_var 0 (pv 0)) da_nil)) da_nil))))))))
end
end Dd
namespace Dd
open PySem PySem.Spec PyProof.Rows L2
section
variable {P : Program} {w : World} {K : PySem.W.Frag} {mg : Str → Option Value} {base : Heap}
theorem o_is_short_number (AT : At K mg "is_short_number" s_is_short_number)  (B : Blt mg) (C : Cst K w mg) : Ok P w K mg base 1 "is_short_number" 1 d_is_short_number :=
  okOf AT sc_is_short_number rfl (by decide) (fun _ _ _ _ _ _ us hl => match us, hl with | [_], _ => rfl) fun f cdv A outer s H E hr =>
  (dss_one (ds_ret (de_and (de_chain c_le c_le de_int (de_b br_len (by rfl) B.len_ (by decide +kernel) (da_cons (de_var 0 (pv 0)) da_nil)) (de_glob (v := .int 12) (by rfl) C.MAX_DIGITS_.choose_spec ⟨_, rfl⟩ (fun _ _ => .int _))) (de_one (de_b (br_all rfl) (by rfl) B.all_ (by decide +kernel) (da_cons (de_lc (own := [("letter", 1)]) (t := (.nm 1)) rfl sc_is_short_number.nd (di_seq (de_var 0 (pv 0))) (blkOk_by (by kernel_rfl)) rfl (fun _ _ _ _ _ => (pg_name (i := 1) sc_is_short_number.nd rfl (by first | exact Or.inl rfl | exact Or.inr rfl))) (fun _ _ _ _ _ => dts_nil) (fun _ _ _ _ _ => (de_chain c_le c_le de_str (de_var 1 (pv 1)) de_str))) da_nil))))))
end
end Dd
namespace Dd
open PySem PySem.Spec PyProof.Rows L2
section
variable {P : Program} {w : World} {K : PySem.W.Frag} {mg : Str → Option Value} {base : Heap}
theorem o_greatest_divisor (AT : At K mg "greatest_divisor" s_greatest_divisor)  (B : Blt mg) : Ok P w K mg base 1 "greatest_divisor" 2 d_greatest_divisor :=
  okOf AT sc_greatest_divisor rfl (by decide) (fun _ _ _ _ _ _ us hl => match us, hl with | [_, _], _ => rfl) fun f cdv A outer s H E hr =>
  (dss_cons (ds_par (i := 0) (j := 1) rfl sc_greatest_divisor.nd rfl rfl (by decide) rfl rfl (de_b br_abs (by rfl) B.abs_ (by decide +kernel) (da_cons (de_var 0 (pv 0)) da_nil)) (de_b br_abs (by rfl) B.abs_ (by decide +kernel) (da_cons (de_var 1 (pv 1)) da_nil)) rfl)
  (dss_cons (ds_while (passes_of rfl) (dt_truth (de_var 1 (pv 1))) (dss_one (ds_par (i := 0) (j := 1) rfl sc_greatest_divisor.nd rfl rfl (by decide) rfl rfl (de_var 1 (pv 1)) (de_mod (de_var 0 (pv 0)) (de_var 1 (pv 1))) rfl)))
  (dss_one (ds_ret (de_var 0 (pv 0))))))
end
end Dd
namespace Dd
open PySem PySem.Spec PyProof.Rows L2
section
variable {P : Program} {w : World} {K : PySem.W.Frag} {mg : Str → Option Value} {base : Heap}
theorem o_is_fraction (AT : At K mg "is_fraction" s_is_fraction) (G_greatest_divisor : Ok P w K mg base 1 "greatest_divisor" 2 d_greatest_divisor) (B : Blt mg) : Ok P w K mg base 2 "is_fraction" 1 d_is_fraction :=
  okOf AT sc_is_fraction rfl (by decide) (fun _ _ _ _ _ _ us hl => match us, hl with | [_], _ => rfl) fun f cdv A outer s H E hr =>
  (dss_cons (ds_if (dw_pt (dw_or (dt_not (dt_truth (de_b br_isi (by rfl) B.isinstance_ (by decide +kernel) (da_cons (de_var 0 (pv 0)) (da_cons (de_ty (by rfl) B.tuple_ (by decide +kernel)) da_nil))))) (dw_or1 (dt_cmp (c_ne hr) (de_b br_len (by rfl) B.len_ (by decide +kernel) (da_cons (de_var 0 (pv 0)) da_nil)) de_int (nomark _))))) (dss_one (ds_ret de_bl)) dss_nil)
  (dss_cons (ds_unp (t := (.tp [1, 2])) (de_var 0 (pv 0)) (pg_tup rfl (pgs_cons (pg_name (i := 1) sc_is_fraction.nd rfl (by first | exact Or.inl rfl | exact Or.inr rfl)) (pgs_cons (pg_name (i := 2) sc_is_fraction.nd rfl (by first | exact Or.inl rfl | exact Or.inr rfl)) pgs_nil))))
  (dss_cons (ds_if (dw_pt (dw_or (dt_not (dt_truth (de_b br_isi (by rfl) B.isinstance_ (by decide +kernel) (da_cons (de_var 1 (pv 1)) (da_cons (de_ty (by rfl) B.int_ (by decide +kernel)) da_nil))))) (dw_or1 (dt_not (dt_truth (de_b br_isi (by rfl) B.isinstance_ (by decide +kernel) (da_cons (de_var 2 (pv 2)) (da_cons (de_ty (by rfl) B.int_ (by decide +kernel)) da_nil)))))))) (dss_one (ds_ret de_bl)) dss_nil)
  (dss_one (ds_ret (de_and (de_cmp c_ge (de_var 2 (pv 2)) de_int (nomark _)) (de_one (de_cmp (c_eq hr) (de_callO G_greatest_divisor (hr.mono (by decide)) (by rfl) (fun σ => passAt (takes_of rfl rfl rfl rfl) σ) (da_cons (de_var 1 (pv 1)) (da_cons (de_var 2 (pv 2)) da_nil))) de_int (nomark _)))))))))
end
end Dd
namespace Dd
open PySem PySem.Spec PyProof.Rows L2
section
variable {P : Program} {w : World} {K : PySem.W.Frag} {mg : Str → Option Value} {base : Heap}
theorem o_parse_fraction (AT : At K mg "parse_fraction" s_parse_fraction) (G_format_fraction : Ok P w K mg base 1 "format_fraction" 1 d_format_fraction) (G_is_fraction : Ok P w K mg base 2 "is_fraction" 1 d_is_fraction) (G_is_short_number : Ok P w K mg base 1 "is_short_number" 1 d_is_short_number) (B : Blt mg) : Ok P w K mg base 3 "parse_fraction" 1 d_parse_fraction :=
  okOf AT sc_parse_fraction rfl (by decide) (fun _ _ _ _ _ _ us hl => match us, hl with | [_], _ => rfl) fun f cdv A outer s H E hr =>
  (dss_cons (ds_unp (t := (.tp [1, 2, 3])) (de_part (de_var 0 (pv 0)) de_str) (pg_tup rfl (pgs_cons (pg_name (i := 1) sc_parse_fraction.nd rfl (by first | exact Or.inl rfl | exact Or.inr rfl)) (pgs_cons (pg_name (i := 2) sc_parse_fraction.nd rfl (by first | exact Or.inl rfl | exact Or.inr rfl)) (pgs_cons (pg_name (i := 3) sc_parse_fraction.nd rfl (by first | exact Or.inl rfl | exact Or.inr rfl)) pgs_nil)))))
  (dss_cons (ds_if (dt_not (dt_truth (de_callO G_is_short_number (hr.mono (by decide)) (by rfl) (fun σ => passAt (takes_of rfl rfl rfl rfl) σ) (da_cons (de_rmpre (de_var 1 (pv 1)) de_str) da_nil)))) (dss_one (ds_ret de_non)) dss_nil)
  (dss_cons (ds_if (dw_pt (dw_and (dt_truth (de_var 2 (pv 2))) (dw_and1 (dt_not (dt_truth (de_callO G_is_short_number (hr.mono (by decide)) (by rfl) (fun σ => passAt (takes_of rfl rfl rfl rfl) σ) (da_cons (de_var 3 (pv 3)) da_nil))))))) (dss_one (ds_ret de_non)) dss_nil)
  (dss_cons (ds_set (i := 4) sc_parse_fraction.nd rfl (by first | exact Or.inl rfl | exact Or.inr rfl) (de_tup (da_cons (de_bty br_intT (by rfl) B.int_ (by decide +kernel) (da_cons (de_var 1 (pv 1)) da_nil)) (da_cons (de_if (dt_truth (de_var 2 (pv 2))) (de_bty br_intT (by rfl) B.int_ (by decide +kernel) (da_cons (de_var 3 (pv 3)) da_nil)) de_int) da_nil))))
  (dss_one (ds_ret (de_if (dw_pt (dw_and (dt_truth (de_callO G_is_fraction (hr.mono (by decide)) (by rfl) (fun σ => passAt (takes_of rfl rfl rfl rfl) σ) (da_cons (de_var 4 (pv 4)) da_nil))) (dw_and1 (dt_cmp (c_eq hr) (de_callO G_format_fraction (hr.mono (by decide)) (by rfl) (fun σ => passAt (takes_of rfl rfl rfl rfl) σ) (da_cons (de_var 4 (pv 4)) da_nil)) (de_var 0 (pv 0)) (nomark _))))) (de_var 4 (pv 4)) de_non)))))))
end
end Dd
namespace Dd
open PySem PySem.Spec PyProof.Rows L2
section
variable {P : Program} {w : World} {K : PySem.W.Frag} {mg : Str → Option Value} {base : Heap}
theorem o_is_name (AT : At K mg "is_name" s_is_name)  (B : Blt mg) (C : Cst K w mg) : Ok P w K mg base 1 "is_name" 1 d_is_name :=
  okOf AT sc_is_name rfl (by decide) (fun _ _ _ _ _ _ us hl => match us, hl with | [_], _ => rfl) fun f cdv A outer s H E hr =>
  (dss_cons (ds_if (dw_pt (dw_or (dt_not (dt_truth (de_b br_isi (by rfl) B.isinstance_ (by decide +kernel) (da_cons (de_var 0 (pv 0)) (da_cons (de_ty (by rfl) B.str_ (by decide +kernel)) da_nil))))) (dw_or1 (dt_not (dt_chain c_le c_le de_int (de_b br_len (by rfl) B.len_ (by decide +kernel) (da_cons (de_var 0 (pv 0)) da_nil)) (de_glob (v := .int 6) (by rfl) C.MAX_LETTERS_.choose_spec ⟨_, rfl⟩ (fun _ _ => .int _))))))) (dss_one (ds_ret de_bl)) dss_nil)
  (dss_one (ds_ret (de_b (br_all rfl) (by rfl) B.all_ (by decide +kernel) (da_cons (de_lc (own := [("letter", 1)]) (t := (.nm 1)) rfl sc_is_name.nd (di_seq (de_var 0 (pv 0))) (blkOk_by (by kernel_rfl)) rfl (fun _ _ _ _ _ => (pg_name (i := 1) sc_is_name.nd rfl (by first | exact Or.inl rfl | exact Or.inr rfl))) (fun _ _ _ _ _ => dts_nil) (fun _ _ _ _ _ => (de_chain c_le c_le de_str (de_var 1 (pv 1)) de_str))) da_nil)))))
end
end Dd
namespace Dd
open PySem PySem.Spec PyProof.Rows L2
section
variable {P : Program} {w : World} {K : PySem.W.Frag} {mg : Str → Option Value} {base : Heap}
theorem o_are_text_names (AT : At K mg "are_text_names" s_are_text_names) (G_is_name : Ok P w K mg base 1 "is_name" 1 d_is_name) (B : Blt mg) : Ok P w K mg base 2 "are_text_names" 1 d_are_text_names :=
  okOf AT sc_are_text_names rfl (by decide) (fun _ _ _ _ _ _ us hl => match us, hl with | [_], _ => rfl) fun f cdv A outer s H E hr =>
  (dss_one (ds_ret (de_and (de_cmp c_gt (de_b br_len (by rfl) B.len_ (by decide +kernel) (da_cons (de_var 0 (pv 0)) da_nil)) de_int (nomark _)) (de_and (de_b (br_all rfl) (by rfl) B.all_ (by decide +kernel) (da_cons (de_lc (own := [("name", 1)]) (t := (.nm 1)) rfl sc_are_text_names.nd (di_seq (de_var 0 (pv 0))) (blkOk_by (by kernel_rfl)) rfl (fun _ _ _ _ _ => (pg_name (i := 1) sc_are_text_names.nd rfl (by first | exact Or.inl rfl | exact Or.inr rfl))) (fun _ _ _ _ _ => dts_nil) (fun _ _ _ _ _ => (de_calmO G_is_name (hr.mono (by decide)) (by rfl) (da_cons (de_var 1 (pv 1)) da_nil)))) da_nil)) (de_one (de_cmp (c_eq hr) (de_lenSetN rfl (by rfl) B.len_ (by rfl) B.set_ (de_var 0 (pv 0))) (de_b br_len (by rfl) B.len_ (by decide +kernel) (da_cons (de_var 0 (pv 0)) da_nil)) (nomark _)))))))
end
end Dd
namespace Dd
open PySem PySem.Spec PyProof.Rows L2
section
variable {P : Program} {w : World} {K : PySem.W.Frag} {mg : Str → Option Value} {base : Heap}
theorem o_parse_query (AT : At K mg "parse_query" s_parse_query) (G_are_text_names : Ok P w K mg base 2 "are_text_names" 1 d_are_text_names) (G_parse_fraction : Ok P w K mg base 3 "parse_fraction" 1 d_parse_fraction) (B : Blt mg) : Ok P w K mg base 4 "parse_query" 1 d_parse_query :=
  okOf AT sc_parse_query rfl (by decide) (fun _ _ _ _ _ _ us hl => match us, hl with | [_], _ => rfl) fun f cdv A outer s H E hr =>
  (dss_cons (ds_set (i := 1) sc_parse_query.nd rfl (by first | exact Or.inl rfl | exact Or.inr rfl) (de_split (de_var 0 (pv 0)) de_str))
  (dss_cons (ds_set (i := 2) sc_parse_query.nd rfl (by first | exact Or.inl rfl | exact Or.inr rfl) (de_ix hr (de_var 1 (pv 1)) de_int (fun _ _ => rfl)))
  (dss_cons (ds_set (i := 3) sc_parse_query.nd rfl (by first | exact Or.inl rfl | exact Or.inr rfl) (de_if (dw_pt (dw_and (dt_cmp (c_eq hr) (de_var 2 (pv 2)) de_str (nomark _)) (dw_and1 (dt_cmp c_gt (de_b br_len (by rfl) B.len_ (by decide +kernel) (da_cons (de_var 1 (pv 1)) da_nil)) de_int (nomark _))))) (de_callO G_parse_fraction (hr.mono (by decide)) (by rfl) (fun σ => passAt (takes_of rfl rfl rfl rfl) σ) (da_cons (de_ix hr (de_var 1 (pv 1)) de_int (fun _ _ => rfl)) da_nil)) de_non))
  (dss_cons (ds_set (i := 4) sc_parse_query.nd rfl (by first | exact Or.inl rfl | exact Or.inr rfl) (de_bty br_tuple (by rfl) B.tuple_ (by decide +kernel) (da_cons (de_if (dt_cmp (c_eq hr) (de_var 2 (pv 2)) de_str (nomark _)) (de_slice (de_var 1 (pv 1)) (do_some de_int) do_none) (de_slice (de_var 1 (pv 1)) (do_some de_int) do_none)) da_nil)))
  (dss_cons (ds_if (dt_not (dt_truth (de_callO G_are_text_names (hr.mono (by decide)) (by rfl) (fun σ => passAt (takes_of rfl rfl rfl rfl) σ) (da_cons (de_var 4 (pv 4)) da_nil)))) (dss_one (ds_ret de_non)) dss_nil)
  (dss_cons (ds_if (dt_cmp (c_eq hr) (de_var 2 (pv 2)) de_str (nomark _)) (dss_one (ds_ret (de_if (dt_cmp c_isB (de_var 3 (pv 3)) de_non (nomark _)) de_non (de_tup (da_cons (de_var 2 (pv 2)) (da_cons (de_var 4 (pv 4)) (da_cons (de_var 3 (pv 3)) da_nil))))))) dss_nil)
  (dss_cons (ds_if (dt_cmp (c_eq hr) (de_var 2 (pv 2)) de_str (nomark _)) (dss_one (ds_ret (de_if (dt_cmp (c_eq hr) (de_b br_len (by rfl) B.len_ (by decide +kernel) (da_cons (de_var 4 (pv 4)) da_nil)) de_int (nomark _)) (de_tup (da_cons (de_var 2 (pv 2)) (da_star (de_var 4 (pv 4)) da_nil))) de_non))) dss_nil)
  (dss_one (ds_ret (de_if (dt_cmp (c_in hr) (de_var 2 (pv 2)) (de_tup (da_cons de_str (da_cons de_str (da_cons de_str da_nil)))) (by rfl)) (de_tup (da_cons (de_var 2 (pv 2)) (da_cons (de_var 4 (pv 4)) da_nil))) de_non))))))))))
end
end Dd
namespace Dd
open PySem PySem.Spec PyProof.Rows L2
section
variable {P : Program} {w : World} {K : PySem.W.Frag} {mg : Str → Option Value} {base : Heap}
theorem o_parse_queries (AT : At K mg "parse_queries" s_parse_queries) (G_parse_query : Ok P w K mg base 4 "parse_query" 1 d_parse_query) (R_InvalidText : ErrOk P w K mg base 2 "InvalidText" ⟨"text", some "index", true⟩) (B : Blt mg) (C : Cst K w mg) : Ok P w K mg base 5 "parse_queries" 1 d_parse_queries :=
  okOf AT sc_parse_queries rfl (by decide) (fun _ _ _ _ _ _ us hl => match us, hl with | [_], _ => rfl) fun f cdv A outer s H E hr =>
  (dss_cons (ds_if (dt_cmp (c_eq hr) (de_var 0 (pv 0)) de_str (nomark _)) (dss_one (ds_retF (de_lst da_nil))) dss_nil)
  (dss_cons (ds_setL (i := 1) sc_parse_queries.nd rfl (by first | exact Or.inl rfl | exact Or.inr rfl) da_nil)
  (dss_cons (ds_for (t := (.tp [2, 3])) (passes_of rfl) rfl (di_enum (by rfl) B.enumerate_ (de_split (de_var 0 (pv 0)) (de_glob (v := .str "; ") (by rfl) C.SEPARATOR_.choose_spec ⟨_, rfl⟩ (fun _ _ => .str _)))) (pg_tup rfl (pgs_cons (pg_name (i := 2) sc_parse_queries.nd rfl (by first | exact Or.inl rfl | exact Or.inr rfl)) (pgs_cons (pg_name (i := 3) sc_parse_queries.nd rfl (by first | exact Or.inl rfl | exact Or.inr rfl)) pgs_nil))) (dss_cons (ds_set (i := 4) sc_parse_queries.nd rfl (by first | exact Or.inl rfl | exact Or.inr rfl) (de_callO G_parse_query (hr.mono (by decide)) (by rfl) (fun σ => passAt (takes_of rfl rfl rfl rfl) σ) (da_cons (de_var 3 (pv 3)) da_nil)))
  (dss_cons (ds_if (dw_pt (dw_or (dt_cmp c_isB (de_var 4 (pv 4)) de_non (nomark _)) (dw_or1 (dt_cmp c_ge (de_var 2 (pv 2)) (de_glob (v := .int 8) (by rfl) C.MAX_QUERIES_.choose_spec ⟨_, rfl⟩ (fun _ _ => .int _)) (nomark _))))) (dss_one (ds_raise rfl (takes_of rfl rfl rfl rfl) R_InvalidText (hr.mono (by decide)) (by rfl) (de_var 2 (pv 2)))) dss_nil)
  (dss_one (ds_append 1 (pv 1) (de_var 4 (pv 4)))))))
  (dss_one (ds_retO 1 (pv 1))))))
end
end Dd
namespace Dd
open PySem PySem.Spec PyProof.Rows L2
section
variable {P : Program} {w : World} {K : PySem.W.Frag} {mg : Str → Option Value} {base : Heap}
theorem o__law_index (AT : At K mg "_law_index" s__law_index) (G_parse_queries : Ok P w K mg base 5 "parse_queries" 1 d_parse_queries) (EF : ErrF K errsL isAL hsL) (MG : ∀ x ∈ hsL, ∃ D, mg x = some (.ref D) ∧ PySem.W.nsIn K mainGlobals x = some (some (.ref D))) : Ok P w K mg base 6 "_law_index" 1 d__law_index :=
  okOf AT sc__law_index rfl (by decide) (fun _ _ _ _ _ _ us hl => match us, hl with | [_], _ => rfl) fun f cdv A outer s H E hr =>
  (dss_cons (ds_set (i := 1) sc__law_index.nd rfl (by first | exact Or.inl rfl | exact Or.inr rfl) de_non)
  (dss_cons (ds_tryS (i := 2) (l := [⟨"InvalidText", 1, "index", none⟩]) EF rfl rfl sc__law_index.nd rfl rfl (takes_of rfl rfl rfl rfl) (fun h hh => by
    have hl : h.cls ∈ hsL := by
      simp only [List.mem_cons, List.not_mem_nil, or_false] at hh
      rcases hh with rfl <;> decide +kernel
    obtain ⟨D, m1, m2⟩ := MG _ hl
    exact ⟨D, m1, m2, hl⟩) (fun W pn xe tkW pwW => (dsws_one (dsw_expr (de_callO G_parse_queries (hr.mono (by decide)) (by rfl) (fun σ => passAt (tkW) σ) (da_cons (de_var 0 (pv 0)) da_nil))))) (.one (by rfl) (by decide) sc__law_index.nd rfl (.inl rfl) rfl (.inl rfl) (.inr rfl) (by decide +kernel) (fun _ _ => rfl) rfl (by decide) (by decide) .none))
  (dss_one (ds_ret (de_var 1 (pv 1))))))
end
end Dd
namespace Dd
open PySem PySem.Spec PyProof.Rows L2
section
variable {P : Program} {w : World} {K : PySem.W.Frag} {mg : Str → Option Value} {base : Heap}
theorem o__law_names (AT : At K mg "_law_names" s__law_names) (G__law_draw : Ok P w K mg base 1 "_law_draw" 2 drawD) (G__law_shuffled : Ok P w K mg base 2 "_law_shuffled" 2 d__law_shuffled) (B : Blt mg) : Ok P w K mg base 3 "_law_names" 2 d__law_names :=
  okOf AT sc__law_names rfl (by decide) (fun _ _ _ _ _ _ us hl => match us, hl with | [_, _], _ => rfl) fun f cdv A outer s H E hr =>
  (dss_cons (ds_setLc (i := 2) (own := [("_law_name", 4), ("_law_low", 5), ("_law_high", 6)]) (t := (.tp [4, 5, 6])) rfl sc__law_names.nd rfl rfl (sw_true rfl rfl rfl (by decide +kernel)) (di_seq (de_var 1 (pv 1))) (blkOk_by (by kernel_rfl)) rfl (fun _ _ _ _ _ => (pg_tup rfl (pgs_cons (pg_name (i := 4) sc__law_names.nd rfl (by first | exact Or.inl rfl | exact Or.inr rfl)) (pgs_cons (pg_name (i := 5) sc__law_names.nd rfl (by first | exact Or.inl rfl | exact Or.inr rfl)) (pgs_cons (pg_name (i := 6) sc__law_names.nd rfl (by first | exact Or.inl rfl | exact Or.inr rfl)) pgs_nil))))) (fun _ _ _ _ _ => dts_nil) (fun _ _ _ _ _ => (de_var 4 (pv 4))))
  (dss_cons (ds_setLc (i := 3) (own := [("_law_name", 4)]) (t := (.nm 4)) rfl sc__law_names.nd rfl rfl (sw_true rfl rfl rfl (by decide +kernel)) (di_seq (de_callO G__law_shuffled (hr.mono (by decide)) (by rfl) (fun σ => passAt (takes_of rfl rfl rfl rfl) σ) (da_cons (de_var 0 (pv 0)) (da_cons (de_var 2 (pv 2)) da_nil)))) (blkOk_by (by kernel_rfl)) rfl (fun _ _ _ _ _ => (pg_name (i := 4) sc__law_names.nd rfl (by first | exact Or.inl rfl | exact Or.inr rfl))) (fun _ _ _ _ _ => (dts_one (dt_cmp c_gt (de_calmO G__law_draw (hr.mono (by decide)) (by rfl) (da_cons (de_var 0 (pv 0)) (da_cons de_int da_nil))) de_int (nomark _)))) (fun _ _ _ _ _ => (de_var 4 (pv 4))))
  (dss_one (ds_ret (de_bty br_tuple (by rfl) B.tuple_ (by decide +kernel) (da_cons (de_if (dt_cmp (c_ne hr) (de_var 3 (pv 3)) (de_lst da_nil) (nomark _)) (de_var 3 (pv 3)) (de_slice (de_var 2 (pv 2)) do_none (do_some de_int))) da_nil))))))
end
end Dd
namespace Dd
open PySem PySem.Spec PyProof.Rows L2
section
variable {P : Program} {w : World} {K : PySem.W.Frag} {mg : Str → Option Value} {base : Heap}
theorem o__law_all_bounds (AT : At K mg "_law_all_bounds" s__law_all_bounds)  : Ok P w K mg base 1 "_law_all_bounds" 1 d__law_all_bounds :=
  okOf AT sc__law_all_bounds rfl (by decide) (fun _ _ _ _ _ _ us hl => match us, hl with | [_], _ => rfl) fun f cdv A outer s H E hr =>
  (dss_one (ds_ret (de_add (de_lc (own := [("_law_name", 1), ("_law_low", 2), ("_law_high", 3)]) (t := (.tp [1, 2, 3])) rfl sc__law_all_bounds.nd (di_seq (de_var 0 (pv 0))) (blkOk_by (by kernel_rfl)) rfl (fun _ _ _ _ _ => (pg_tup rfl (pgs_cons (pg_name (i := 1) sc__law_all_bounds.nd rfl (by first | exact Or.inl rfl | exact Or.inr rfl)) (pgs_cons (pg_name (i := 2) sc__law_all_bounds.nd rfl (by first | exact Or.inl rfl | exact Or.inr rfl)) (pgs_cons (pg_name (i := 3) sc__law_all_bounds.nd rfl (by first | exact Or.inl rfl | exact Or.inr rfl)) pgs_nil))))) (fun _ _ _ _ _ => dts_nil) (fun _ _ _ _ _ => (de_var 2 (pv 2)))) (de_lc (own := [("_law_name", 1), ("_law_low", 2), ("_law_high", 3)]) (t := (.tp [1, 2, 3])) rfl sc__law_all_bounds.nd (di_seq (de_var 0 (pv 0))) (blkOk_by (by kernel_rfl)) rfl (fun _ _ _ _ _ => (pg_tup rfl (pgs_cons (pg_name (i := 1) sc__law_all_bounds.nd rfl (by first | exact Or.inl rfl | exact Or.inr rfl)) (pgs_cons (pg_name (i := 2) sc__law_all_bounds.nd rfl (by first | exact Or.inl rfl | exact Or.inr rfl)) (pgs_cons (pg_name (i := 3) sc__law_all_bounds.nd rfl (by first | exact Or.inl rfl | exact Or.inr rfl)) pgs_nil))))) (fun _ _ _ _ _ => dts_nil) (fun _ _ _ _ _ => (de_var 3 (pv 3)))))))
end
end Dd
namespace Dd
open PySem PySem.Spec PyProof.Rows L2
section
variable {P : Program} {w : World} {K : PySem.W.Frag} {mg : Str → Option Value} {base : Heap}
theorem o__law_query (AT : At K mg "_law_query" s__law_query) (G__law_all_bounds : Ok P w K mg base 1 "_law_all_bounds" 1 d__law_all_bounds) (G__law_bound : Ok P w K mg base 3 "_law_bound" 2 d__law_bound) (G__law_choice : Ok P w K mg base 2 "_law_choice" 2 d__law_choice) (G__law_names : Ok P w K mg base 3 "_law_names" 2 d__law_names) (G__law_shuffled : Ok P w K mg base 2 "_law_shuffled" 2 d__law_shuffled) (B : Blt mg) : Ok P w K mg base 4 "_law_query" 2 d__law_query :=
  okOf AT sc__law_query rfl (by decide) (fun _ _ _ _ _ _ us hl => match us, hl with | [_, _], _ => rfl) fun f cdv A outer s H E hr =>
  (dss_cons (ds_set (i := 2) sc__law_query.nd rfl (by first | exact Or.inl rfl | exact Or.inr rfl) (de_callO G__law_choice (hr.mono (by decide)) (by rfl) (fun σ => passAt (takes_of rfl rfl rfl rfl) σ) (da_cons (de_var 0 (pv 0)) (da_cons (de_lst (da_cons de_str (da_cons de_str (da_cons de_str (da_cons de_str (da_cons de_str (da_cons de_str (da_cons de_str da_nil)))))))) da_nil))))
  (dss_cons (ds_set (i := 3) sc__law_query.nd rfl (by first | exact Or.inl rfl | exact Or.inr rfl) (de_callO G__law_names (hr.mono (by decide)) (by rfl) (fun σ => passAt (takes_of rfl rfl rfl rfl) σ) (da_cons (de_var 0 (pv 0)) (da_cons (de_var 1 (pv 1)) da_nil))))
  (dss_cons (ds_if (dw_pt (dw_and (dt_cmp (c_eq hr) (de_var 2 (pv 2)) de_str (nomark _)) (dw_and1 (dt_cmp c_gt (de_b br_len (by rfl) B.len_ (by decide +kernel) (da_cons (de_var 1 (pv 1)) da_nil)) de_int (nomark _))))) (dss_cons (ds_set (i := 4) sc__law_query.nd rfl (by first | exact Or.inl rfl | exact Or.inr rfl) (de_slice (de_callO G__law_shuffled (hr.mono (by decide)) (by rfl) (fun σ => passAt (takes_of rfl rfl rfl rfl) σ) (da_cons (de_var 0 (pv 0)) (da_cons (de_lc (own := [("_law_name", 5), ("_law_low", 6), ("_law_high", 7)]) (t := (.tp [5, 6, 7])) rfl sc__law_query.nd (di_seq (de_var 1 (pv 1))) (blkOk_by (by kernel_rfl)) rfl (fun _ _ _ _ _ => (pg_tup rfl (pgs_cons (pg_name (i := 5) sc__law_query.nd rfl (by first | exact Or.inl rfl | exact Or.inr rfl)) (pgs_cons (pg_name (i := 6) sc__law_query.nd rfl (by first | exact Or.inl rfl | exact Or.inr rfl)) (pgs_cons (pg_name (i := 7) sc__law_query.nd rfl (by first | exact Or.inl rfl | exact Or.inr rfl)) pgs_nil))))) (fun _ _ _ _ _ => dts_nil) (fun _ _ _ _ _ => (de_var 5 (pv 5)))) da_nil))) do_none (do_some de_int)))
  (dss_one (ds_ret (de_tup (da_cons de_str (da_cons (de_ix hr (de_var 4 (pv 4)) de_int (fun _ _ => rfl)) (da_cons (de_ix hr (de_var 4 (pv 4)) de_int (fun _ _ => rfl)) da_nil))))))) dss_nil)
  (dss_cons (ds_if (dt_cmp (c_eq hr) (de_var 2 (pv 2)) de_str (nomark _)) (dss_one (ds_ret (de_tup (da_cons de_str (da_cons (de_var 3 (pv 3)) (da_cons (de_callO G__law_choice (hr.mono (by decide)) (by rfl) (fun σ => passAt (takes_of rfl rfl rfl rfl) σ) (da_cons (de_var 0 (pv 0)) (da_cons (de_add (de_callO G__law_all_bounds (hr.mono (by decide)) (by rfl) (fun σ => passAt (takes_of rfl rfl rfl rfl) σ) (da_cons (de_var 1 (pv 1)) da_nil)) (de_lst (da_cons (de_callO G__law_bound (hr.mono (by decide)) (by rfl) (fun σ => passAt (takes_of rfl rfl rfl rfl) σ) (da_cons (de_var 0 (pv 0)) (da_cons de_int da_nil))) da_nil))) da_nil))) da_nil)))))) dss_nil)
  (dss_one (ds_ret (de_tup (da_cons (de_if (dt_cmp (c_eq hr) (de_var 2 (pv 2)) de_str (nomark _)) de_str (de_var 2 (pv 2))) (da_cons (de_var 3 (pv 3)) da_nil)))))))))
end
end Dd
namespace Dd
open PySem PySem.Spec PyProof.Rows L2
section
variable {P : Program} {w : World} {K : PySem.W.Frag} {mg : Str → Option Value} {base : Heap}
theorem o__law_queries (AT : At K mg "_law_queries" s__law_queries) (G__law_draw : Ok P w K mg base 1 "_law_draw" 2 drawD) (G__law_query : Ok P w K mg base 4 "_law_query" 2 d__law_query) (B : Blt mg) : Ok P w K mg base 5 "_law_queries" 3 d__law_queries :=
  okOf AT sc__law_queries rfl (by decide) (fun _ _ _ _ _ _ us hl => match us, hl with | [_, _, _], _ => rfl) fun f cdv A outer s H E hr =>
  (dss_one (ds_ret (de_lc (own := [("_law_k", 3)]) (t := (.nm 3)) rfl sc__law_queries.nd (di_range1 (by rfl) B.range_ (de_callO G__law_draw (hr.mono (by decide)) (by rfl) (fun σ => passAt (takes_of rfl rfl rfl rfl) σ) (da_cons (de_var 0 (pv 0)) (da_cons (de_add (de_var 2 (pv 2)) de_int) da_nil)))) (blkOk_by (by kernel_rfl)) rfl (fun _ _ _ _ _ => (pg_name (i := 3) sc__law_queries.nd rfl (by first | exact Or.inl rfl | exact Or.inr rfl))) (fun _ _ _ _ _ => dts_nil) (fun _ _ _ _ _ => (de_calmO G__law_query (hr.mono (by decide)) (by rfl) (da_cons (de_var 0 (pv 0)) (da_cons (de_var 1 (pv 1)) da_nil)))))))
end
end Dd
namespace Dd
open PySem PySem.Spec PyProof.Rows L2
section
variable {P : Program} {w : World} {K : PySem.W.Frag} {mg : Str → Option Value} {base : Heap}
theorem o_law (G__law_choice : Ok P w K mg base 2 "_law_choice" 2 d__law_choice) (G__law_draw : Ok P w K mg base 1 "_law_draw" 2 drawD) (G__law_index : Ok P w K mg base 6 "_law_index" 1 d__law_index) (G__law_intervals : Ok P w K mg base 5 "_law_intervals" 3 d__law_intervals) (G__law_queries : Ok P w K mg base 5 "_law_queries" 3 d__law_queries) (G__law_same : Ok P w K mg base 5 "_law_same" 2 (sameM 3)) (G__law_shuffled : Ok P w K mg base 2 "_law_shuffled" 2 d__law_shuffled) (G_format_query : Ok P w K mg base 2 "format_query" 1 d_format_query) (G_parse_queries : Ok P w K mg base 5 "parse_queries" 1 d_parse_queries) (B : Blt mg) : ∀ (f : Addr) (cdv : Value) (A : Around) (outer : List Env) (s : Shared) (H : Hp) (E : XK), Room 6 (A.deeper (envOfC "law" (defScope s_law) s.heap.objs.size f cdv)) → DSs (cxOf (L2.CX P w) P w K mg base ["_law_script", "_law_source_here", "_law_invalid", "_law_k", "_law_intervals_here", "_law_parts", "_law_index_here", "_law_bad", "_law_first", "_law_second", "_law_nine", "_law_query_here"] "law" (defScope s_law) f cdv A outer s H E) E (defBody s_law).tail u_law :=
  fun f cdv A outer s H E hr =>
  (dss_cons (ds_set (i := 2) sc_law.nd rfl (by first | exact Or.inl rfl | exact Or.inr rfl) (de_lst (da_cons de_str (da_cons de_str (da_cons de_str (da_cons de_str (da_cons de_str (da_cons de_str (da_cons de_str da_nil)))))))))
  (dss_cons (ds_set (i := 2) sc_law.nd rfl (by first | exact Or.inl rfl | exact Or.inr rfl) (de_add (de_var 2 (pv 2)) (de_lst (da_cons de_str (da_cons de_str (da_cons de_str da_nil))))))
  (dss_cons (ds_set (i := 2) sc_law.nd rfl (by first | exact Or.inl rfl | exact Or.inr rfl) (de_add (de_var 2 (pv 2)) (de_lst (da_cons de_str (da_cons de_str (da_cons de_str (da_cons de_str da_nil)))))))
  (dss_cons (ds_set (i := 2) sc_law.nd rfl (by first | exact Or.inl rfl | exact Or.inr rfl) (de_add (de_var 2 (pv 2)) (de_lst (da_cons de_str (da_cons de_str (da_cons de_str da_nil))))))
  (dss_cons (ds_set (i := 2) sc_law.nd rfl (by first | exact Or.inl rfl | exact Or.inr rfl) (de_add (de_var 2 (pv 2)) (de_lst (da_cons de_str (da_cons de_str (da_cons de_str (da_cons de_str da_nil)))))))
  (dss_cons (ds_set (i := 2) sc_law.nd rfl (by first | exact Or.inl rfl | exact Or.inr rfl) (de_add (de_var 2 (pv 2)) (de_lst (da_cons de_str (da_cons de_str (da_cons de_str da_nil))))))
  (dss_cons (ds_set (i := 2) sc_law.nd rfl (by first | exact Or.inl rfl | exact Or.inr rfl) (de_add (de_var 2 (pv 2)) (de_lst (da_cons de_str (da_cons de_str (da_cons de_str (da_cons de_str (da_cons de_str da_nil))))))))
  (dss_cons (ds_set (i := 2) sc_law.nd rfl (by first | exact Or.inl rfl | exact Or.inr rfl) (de_add (de_var 2 (pv 2)) (de_lst (da_cons de_str (da_cons de_str da_nil)))))
  (dss_cons (ds_for (t := (.nm 3)) (passes_of rfl) rfl (di_range1 (by rfl) B.range_ de_int) (pg_name (i := 3) sc_law.nd rfl (by first | exact Or.inl rfl | exact Or.inr rfl)) (dss_cons (ds_set (i := 4) sc_law.nd rfl (by first | exact Or.inl rfl | exact Or.inr rfl) (de_callO G__law_intervals (hr.mono (by decide)) (by rfl) (fun σ => passAt (takes_of rfl rfl rfl rfl) σ) (da_cons (de_var 1 (pv 1)) (da_cons de_int (da_cons de_int da_nil)))))
  (dss_cons (ds_setLO (i := 5) (own := [("_law_query_here", 11)]) (t := (.nm 11)) rfl sc_law.nd rfl rfl (sw_true rfl rfl rfl (by decide +kernel)) (di_seq (de_callO G__law_queries (hr.mono (by decide)) (by rfl) (fun σ => passAt (takes_of rfl rfl rfl rfl) σ) (da_cons (de_var 1 (pv 1)) (da_cons (de_var 4 (pv 4)) (da_cons de_int da_nil))))) (blkOk_by (by kernel_rfl)) rfl (fun _ _ _ _ _ => (pg_name (i := 11) sc_law.nd rfl (by first | exact Or.inl rfl | exact Or.inr rfl))) (fun _ _ _ _ _ => dts_nil) (fun _ _ _ _ _ => (de_calmO G_format_query (hr.mono (by decide)) (by rfl) (da_cons (de_var 11 (pv 11)) da_nil))))
  (dss_cons (ds_if (dt_flat (dt_cmp c_isNot (de_callO G__law_index (hr.mono (by decide)) (by rfl) (fun σ => passAt (takes_of rfl rfl rfl rfl) σ) (da_cons (de_join de_str (de_var 5 (pv 5))) da_nil)) de_non (nomark _))) (dss_one (ds_retF de_bl)) dss_nil)
  (dss_cons (ds_set (i := 6) sc_law.nd rfl (by first | exact Or.inl rfl | exact Or.inr rfl) (de_callO G__law_draw (hr.mono (by decide)) (by rfl) (fun σ => passAt (takes_of rfl rfl rfl rfl) σ) (da_cons (de_var 1 (pv 1)) (da_cons (de_add (de_b br_len (by rfl) B.len_ (by decide +kernel) (da_cons (de_var 5 (pv 5)) da_nil)) de_int) da_nil))))
  (dss_cons (ds_set (i := 7) sc_law.nd rfl (by first | exact Or.inl rfl | exact Or.inr rfl) (de_callO G__law_choice (hr.mono (by decide)) (by rfl) (fun σ => passAt (takes_of rfl rfl rfl rfl) σ) (da_cons (de_var 1 (pv 1)) (da_cons (de_if (dt_cmp (c_neL hr) (de_var 5 (pv 5)) (de_lst da_nil) (nomark _)) (de_var 2 (pv 2)) (de_slice (de_var 2 (pv 2)) (do_some de_int) do_none)) da_nil))))
  (dss_cons (ds_insert 5 (pv 5) (de_var 6 (pv 6)) (de_var 7 (pv 7)))
  (dss_one (ds_if (dt_flat (dt_not (dt_truth (de_callO G__law_same (hr.mono (by decide)) (by rfl) (fun σ => passAt (takes_of rfl rfl rfl rfl) σ) (da_cons (de_callO G__law_index (hr.mono (by decide)) (by rfl) (fun σ => passAt (takes_of rfl rfl rfl rfl) σ) (da_cons (de_join de_str (de_var 5 (pv 5))) da_nil)) (da_cons (de_var 6 (pv 6)) da_nil)))))) (dss_one (ds_retF de_bl)) dss_nil)))))))))
  (dss_cons (ds_repO (i := 5) sc_law.nd rfl (by first | exact Or.inl rfl | exact Or.inr rfl) (de_lst (da_cons de_str da_nil)) (de_add de_int (de_callO G__law_draw (hr.mono (by decide)) (by rfl) (fun σ => passAt (takes_of rfl rfl rfl rfl) σ) (da_cons (de_var 1 (pv 1)) (da_cons de_int da_nil)))))
  (dss_cons (ds_unpL (is := [8, 9]) (de_slice (de_callO G__law_shuffled (hr.mono (by decide)) (by rfl) (fun σ => passAt (takes_of rfl rfl rfl rfl) σ) (da_cons (de_var 1 (pv 1)) (da_cons (de_listRg rfl (by rfl) B.list_ (by rfl) B.range_ (de_b br_len (by rfl) B.len_ (by decide +kernel) (da_cons (de_var 5 (pv 5)) da_nil))) da_nil))) do_none (do_some de_int)) (pg_lstT rfl (pgs_cons (pg_name (i := 8) sc_law.nd rfl (by first | exact Or.inl rfl | exact Or.inr rfl)) (pgs_cons (pg_name (i := 9) sc_law.nd rfl (by first | exact Or.inl rfl | exact Or.inr rfl)) pgs_nil))))
  (dss_cons (ds_putL 5 (pv 5) (de_var 8 (pv 8)) de_str)
  (dss_cons (ds_putL 5 (pv 5) (de_var 9 (pv 9)) de_str)
  (dss_cons (ds_if (dt_flat (dt_not (dt_truth (de_callO G__law_same (hr.mono (by decide)) (by rfl) (fun σ => passAt (takes_of rfl rfl rfl rfl) σ) (da_cons (de_callO G__law_index (hr.mono (by decide)) (by rfl) (fun σ => passAt (takes_of rfl rfl rfl rfl) σ) (da_cons (de_join de_str (de_var 5 (pv 5))) da_nil)) (da_cons (de_b (br_pick2 false hr rfl) (by rfl) B.min_ (by decide +kernel) (da_cons (de_lst (da_cons (de_var 8 (pv 8)) (da_cons (de_var 9 (pv 9)) (da_cons de_int da_nil)))) da_nil)) da_nil)))))) (dss_one (ds_retF de_bl)) dss_nil)
  (dss_cons (ds_set (i := 10) sc_law.nd rfl (by first | exact Or.inl rfl | exact Or.inr rfl) (de_rep (de_lst (da_cons de_str da_nil)) de_int))
  (dss_cons (ds_if (dt_not (dt_truth (de_callO G__law_same (hr.mono (by decide)) (by rfl) (fun σ => passAt (takes_of rfl rfl rfl rfl) σ) (da_cons (de_callO G__law_index (hr.mono (by decide)) (by rfl) (fun σ => passAt (takes_of rfl rfl rfl rfl) σ) (da_cons (de_join de_str (de_var 10 (pv 10))) da_nil)) (da_cons de_int da_nil))))) (dss_one (ds_retF de_bl)) dss_nil)
  (dss_one (ds_retF (de_cmp (c_eq hr) (de_b br_len (by rfl) B.len_ (by decide +kernel) (da_cons (de_callO G_parse_queries (hr.mono (by decide)) (by rfl) (fun σ => passAt (takes_of rfl rfl rfl rfl) σ) (da_cons (de_join de_str (de_slice (de_var 10 (pv 10)) do_none (do_some de_int))) da_nil)) da_nil)) de_int (nomark _))))))))))))))))))))
end
end Dd
namespace Dd
open PySem PySem.Spec PyProof.Rows L2
theorem exm_of {K : PySem.W.Frag} {C S : Addr} {v : Bool} (b : PySem.W.subIn K (.ref S) (.type "BaseException") = some true) (i : PySem.W.isClsIn K S = true) (t : PySem.W.typeIn K (.ref S) = some (.type "type")) (s : PySem.W.subIn K (.ref C) (.ref S) = some v) :
    PySem.W.exmOne K (.ref C) (.ref S) = some v := by
  have i' : (PySem.W.clsIn K S).isSome = true := i
  show (if (PySem.W.subIn K (.ref S) (.type "BaseException") == some true) = true then
    (if ((PySem.W.clsIn K S).isSome && PySem.W.typeIn K (.ref S) == some (.type "type")) = true then PySem.W.subIn K (.ref C) (.ref S) else none) else none) = _
  rw [b, i', t, s]
  rfl
theorem at_then {G' : Prop} {K : PySem.W.Frag} {h : Heap} {mg : Str → Option Value} {x : Str} {st : Stmt} {f : Addr} {od an : Option Addr} {sl : Array (Option Value)} {oc kV dc pm cd ct : Value} (X : K.In h) (G : h.Ns mainGlobals mg) (a : PySem.W.nsIn K mainGlobals x = some (some (.ref f)))
    (l : K.lookup f = some ⟨oc, od, .func (PySem.W.fnOf x x (defArgs st) (defBody st) (defScope st) .none kV dc pm an cd ct), sl⟩) (c : PySem.W.codeIn K cd x = true) (k : PySem.W.keepIn K (.ref f) = true) (q : At K mg x st → G') : G' := q ⟨_, _, fun_mk l c k, PySem.W.mg_of X G a⟩
def ErrPack (l : PySem.W.OpenLaw) (w : World) (K : PySem.W.Frag) (mg : Str → Option Value) : Prop := (ErrF K errsL isAL hsL ∧ (∀ x ∈ hsL, ∃ D, mg x = some (.ref D) ∧ PySem.W.nsIn K mainGlobals x = some (some (.ref D)))) ∧ ∀ base : Heap, (ErrOk l.prog w K mg base 2 "InvalidText" ⟨"text", some "index", true⟩)
theorem errs_then {G' : Prop} {l : PySem.W.OpenLaw} {w : World} {K : PySem.W.Frag} {h : Heap} {mg : Str → Option Value} {C_QueryError C_InvalidText f_QueryError f_InvalidText T_QueryError : Addr} (X : K.In h) (G : h.Ns mainGlobals mg)
    {nm_InvalidText q_InvalidText : Str} {N_InvalidText : Addr} {bs_InvalidText bm_InvalidText : List Value} {sn_InvalidText : List Str} {su_InvalidText : List Value} {ab_InvalidText : Bool} {co_InvalidText : Option Bool} {dd_InvalidText : Option Addr} {m0_InvalidText m1_InvalidText m2_InvalidText m3_InvalidText m5_InvalidText : Option Value}
    {od_QueryError an_QueryError : Option Addr} {sl_QueryError : Array (Option Value)} {oc_QueryError kV_QueryError dc_QueryError pm_QueryError cd_QueryError ct_QueryError : Value}
    {oD_QueryError : Option Addr} {sD_QueryError : Array (Option Value)} {oC_QueryError : Value} {nD_QueryError : Nat} {t0_QueryError t1_QueryError : Tok}
    {od_InvalidText an_InvalidText : Option Addr} {sl_InvalidText : Array (Option Value)} {oc_InvalidText kV_InvalidText dc_InvalidText pm_InvalidText cd_InvalidText ct_InvalidText : Value}
    (b_ValueError : PySem.W.nsIn K mainGlobals "ValueError" = some none)
    (b_LookupError : PySem.W.nsIn K mainGlobals "LookupError" = some none)
    (g_QueryError : PySem.W.nsIn K mainGlobals "QueryError" = some (some (.ref C_QueryError)))
    (g_InvalidText : PySem.W.nsIn K mainGlobals "InvalidText" = some (some (.ref C_InvalidText)))
    (zb_InvalidText : PySem.W.subIn K (.ref C_InvalidText) (.type "BaseException") = some true) (zi_InvalidText : PySem.W.isClsIn K C_InvalidText = true) (zt_InvalidText : PySem.W.typeIn K (.ref C_InvalidText) = some (.type "type"))
    (zb_QueryError : PySem.W.subIn K (.ref C_QueryError) (.type "BaseException") = some true) (zi_QueryError : PySem.W.isClsIn K C_QueryError = true) (zt_QueryError : PySem.W.typeIn K (.ref C_QueryError) = some (.type "type"))
    (fQi : PySem.W.findCls K (.ref C_QueryError) (.type "type") "__init__" = some (.val (.ref f_QueryError))) (rQ : PySem.W.readsIn K C_QueryError (.type "type") = true) (gQ : PySem.W.specialIn K (.ref C_QueryError) "__getattribute__" = some (some (.builtin "type.__getattribute__"))) (vV : PySem.W.findCls K (.type "ValueError") (.type "type") "__init__" = some (.val (.builtin "ValueError.__init__")))
    (x_InvalidText : K.lookup C_InvalidText = some (excClassObj nm_InvalidText q_InvalidText C_InvalidText N_InvalidText bs_InvalidText bm_InvalidText true sn_InvalidText su_InvalidText ab_InvalidText co_InvalidText dd_InvalidText m0_InvalidText m1_InvalidText m2_InvalidText m3_InvalidText m5_InvalidText "ValueError.__new__")) (r_InvalidText : PySem.HandSPX.refsVE bm_InvalidText = true) (s_InvalidText_ : PySem.W.findIn K (.ref C_InvalidText) "__setattr__" = some (some (.builtin "object.__setattr__"))) (e_InvalidText : PySem.W.subIn K (.ref C_InvalidText) (.type "BaseException") = some true) (y_InvalidText : PySem.W.typeIn K (.ref C_InvalidText) = some (.type "type")) (p_InvalidText : PySem.W.keepIn K (.ref C_InvalidText) = true)
    (i_InvalidText : PySem.W.findIn K (.ref C_InvalidText) "__init__" = some (some (.ref f_InvalidText))) (u_InvalidText_ : PySem.W.typeIn K (.ref f_InvalidText) = some (.type "function")) (wg_InvalidText : PySem.W.findIn K (.ref C_InvalidText) "__getattribute__" = some (some (.builtin "BaseException.__getattribute__"))) (wh_InvalidText : PySem.W.findIn K (.ref C_InvalidText) "__getattr__" = some none) (we_InvalidText : PySem.W.hasDictIn K C_InvalidText = true)
    (ncode_InvalidText : PySem.W.findIn K (.ref C_InvalidText) "code" = some none)
    (nname_InvalidText : PySem.W.findIn K (.ref C_InvalidText) "name" = some none)
    (nindex_InvalidText : PySem.W.findIn K (.ref C_InvalidText) "index" = some none)
    (ncount_InvalidText : PySem.W.findIn K (.ref C_InvalidText) "count" = some none)
    (zs_InvalidText_InvalidText : PySem.W.subIn K (.ref C_InvalidText) (.ref C_InvalidText) = some true)
    (l_QueryError : K.lookup f_QueryError = some ⟨oc_QueryError, od_QueryError, .func (PySem.W.fnOf "__init__" "QueryError.__init__" (defArgs s_QueryError) (defBody s_QueryError) (defScope s_QueryError) (.ref T_QueryError) kV_QueryError dc_QueryError pm_QueryError an_QueryError cd_QueryError ct_QueryError), sl_QueryError⟩) (c_QueryError : PySem.W.codeIn K cd_QueryError "QueryError.__init__" = true) (k_QueryError : PySem.W.keepIn K (.ref f_QueryError) = true)
    (d_QueryError_ : K.lookup T_QueryError = some ⟨oC_QueryError, oD_QueryError, .seq #[.str "" t0_QueryError, .str "" t1_QueryError] nD_QueryError, sD_QueryError⟩)
    (l_InvalidText : K.lookup f_InvalidText = some ⟨oc_InvalidText, od_InvalidText, .func (PySem.W.fnOf "__init__" "InvalidText.__init__" (defArgs s_InvalidText) (defBody s_InvalidText) (defScope s_InvalidText) .none kV_InvalidText dc_InvalidText pm_InvalidText an_InvalidText cd_InvalidText ct_InvalidText), sl_InvalidText⟩) (c_InvalidText : PySem.W.codeIn K cd_InvalidText "InvalidText.__init__" = true) (k_InvalidText : PySem.W.keepIn K (.ref f_InvalidText) = true)
    (qq : ErrPack l w K mg → G') : G' := by
  refine qq ?_
  have F_QueryError : FunD K "__init__" "QueryError.__init__" (defArgs s_QueryError) (defBody s_QueryError) (defScope s_QueryError) [.str "", .str ""] [] f_QueryError _ := ⟨⟨_, _, _, _, _, _, _, _, _, _, rfl, l_QueryError, c_QueryError, .inr ⟨by simp, T_QueryError, _, _, _, rfl, d_QueryError_, rfl, (.cons ⟨_, rfl⟩ (.cons ⟨_, rfl⟩ .nil))⟩, .inl rfl⟩, k_QueryError⟩
  obtain ⟨ds_QueryError, v_QueryError, B_QueryError⟩ := F_QueryError.binds1 (ps := ["self", "message", "code"]) 3 2 (by simp) rfl (fun T kV doc pm an cdv ct us its h1 h2 => match us, h1, its, h2 with | [_, _, _], _, [_, _], _ => ⟨_, rfl, rfl⟩)
  cases v_QueryError
  have F_InvalidText := fun_mk (st := s_InvalidText) l_InvalidText c_InvalidText k_InvalidText
  have B_InvalidText := F_InvalidText.binds (ps := ["self", "index"]) fun _ _ _ _ _ _ us hl => match us, hl with | [_, _], _ => rfl
  have oe_InvalidText : OexC K C_InvalidText := ⟨⟨_, _, _, _, _, _, _, _, _, _, _, _, _, _, _, x_InvalidText, r_InvalidText⟩, s_InvalidText_, e_InvalidText, y_InvalidText, p_InvalidText⟩
  have EF : ErrF K errsL isAL hsL := by
    refine ⟨fun n C m D hC hD hn hm => ?_, fun n C hC hn => ?_⟩
    · simp only [errsL, hsL, List.mem_cons, List.not_mem_nil, or_false] at hn hm
      rcases hn with rfl <;> rcases hm with rfl
      · cases hC.symm.trans g_InvalidText; cases hD.symm.trans g_InvalidText; exact (exm_of zb_InvalidText zi_InvalidText zt_InvalidText zs_InvalidText_InvalidText).trans (by decide +kernel)
    · simp only [errsL, List.mem_cons, List.not_mem_nil, or_false] at hn
      rcases hn with rfl
      · cases hC.symm.trans g_InvalidText; exact ⟨⟨wg_InvalidText, wh_InvalidText, e_InvalidText, we_InvalidText⟩, ncode_InvalidText, nname_InvalidText, nindex_InvalidText, ncount_InvalidText⟩
  have MG : ∀ x ∈ hsL, ∃ D, mg x = some (.ref D) ∧ PySem.W.nsIn K mainGlobals x = some (some (.ref D)) := fun x hx => by
    simp only [hsL, List.mem_cons, List.not_mem_nil, or_false] at hx
    rcases hx with rfl
    · exact ⟨_, PySem.W.mg_of X G g_InvalidText, g_InvalidText⟩
  refine ⟨⟨EF, MG⟩, fun base => ?_⟩
  have GQ : FnOk l.prog w K mg base CX0 1 f_QueryError _ ["self", "message", "code"] (spQE K) := ok_QueryError F_QueryError (PySem.W.mg_none_of X G b_ValueError) vV
  have R_InvalidText : ErrOk l.prog w K mg base 2 "InvalidText" ⟨"text", some "index", true⟩ := ⟨_, _, _, _, PySem.W.mg_of X G g_InvalidText, g_InvalidText, oe_InvalidText, i_InvalidText, u_InvalidText_, B_InvalidText, ok_InvalidText F_InvalidText GQ (PySem.W.mg_of X G g_QueryError) ⟨rQ, gQ⟩ fQi k_QueryError B_QueryError oe_InvalidText ncode_InvalidText nindex_InvalidText⟩
  exact R_InvalidText
def RunOk : Prop := (u_law (.no :: .src :: List.replicate 10 .no)).run (fun o => o = .rt (dB true)) (fun _ => False)
theorem all_mk {l : PySem.W.OpenLaw} {w : World} {K : PySem.W.Frag} {h : Heap} {mg : Str → Option Value} {fa f0 f1 f2 f27 : Addr} (X : K.In h) (G : h.Ns mainGlobals mg) (hfa : mg "law" = some (.ref fa)) (lawRun : RunOk)
    {od0 an0 : Option Addr} {sl0 : Array (Option Value)} {oc0 kV0 dc0 pm0 cd0 ct0 : Value}
    {od1 an1 : Option Addr} {sl1 : Array (Option Value)} {oc1 kV1 dc1 pm1 cd1 ct1 : Value}
    {od2 an2 : Option Addr} {sl2 : Array (Option Value)} {oc2 kV2 dc2 pm2 cd2 ct2 : Value}
    {od27 an27 : Option Addr} {sl27 : Array (Option Value)} {oc27 kV27 dc27 pm27 cd27 ct27 : Value}
    {tc0 : Tok}
    {tc1 : Tok}
    {tc2 : Tok}
    {tc3 : Tok}
    (a0 : PySem.W.nsIn K mainGlobals "_law_source" = some (some (.ref f0))) (l0 : K.lookup f0 = some ⟨oc0, od0, .func (PySem.W.fnOf "_law_source" "_law_source" (defArgs Dw.sSrc) (defBody Dw.sSrc) (defScope Dw.sSrc) .none kV0 dc0 pm0 an0 cd0 ct0), sl0⟩) (c0 : PySem.W.codeIn K cd0 "_law_source" = true) (k0 : PySem.W.keepIn K (.ref f0) = true)
    (a1 : PySem.W.nsIn K mainGlobals "_law_draw" = some (some (.ref f1))) (l1 : K.lookup f1 = some ⟨oc1, od1, .func (PySem.W.fnOf "_law_draw" "_law_draw" (defArgs Dw.sDraw) (defBody Dw.sDraw) (defScope Dw.sDraw) .none kV1 dc1 pm1 an1 cd1 ct1), sl1⟩) (c1 : PySem.W.codeIn K cd1 "_law_draw" = true) (k1 : PySem.W.keepIn K (.ref f1) = true)
    (a2 : PySem.W.nsIn K mainGlobals "_law_same" = some (some (.ref f2))) (l2 : K.lookup f2 = some ⟨oc2, od2, .func (PySem.W.fnOf "_law_same" "_law_same" (defArgs Dw.sSame) (defBody Dw.sSame) (defScope Dw.sSame) .none kV2 dc2 pm2 an2 cd2 ct2), sl2⟩) (c2 : PySem.W.codeIn K cd2 "_law_same" = true) (k2 : PySem.W.keepIn K (.ref f2) = true)
    (A3 : At K mg "_law_shuffled" s__law_shuffled)
    (A4 : At K mg "_law_gcd" s__law_gcd)
    (A5 : At K mg "_law_reduced" s__law_reduced)
    (A6 : At K mg "_law_bound" s__law_bound)
    (A7 : At K mg "_law_less" s__law_less)
    (A8 : At K mg "_law_choice" s__law_choice)
    (A9 : At K mg "_law_interval" s__law_interval)
    (A10 : At K mg "_law_intervals" s__law_intervals)
    (A11 : At K mg "format_fraction" s_format_fraction)
    (A12 : At K mg "names_of" s_names_of)
    (A13 : At K mg "format_query" s_format_query)
    (A14 : At K mg "is_short_number" s_is_short_number)
    (A15 : At K mg "greatest_divisor" s_greatest_divisor)
    (A16 : At K mg "is_fraction" s_is_fraction)
    (A17 : At K mg "parse_fraction" s_parse_fraction)
    (A18 : At K mg "is_name" s_is_name)
    (A19 : At K mg "are_text_names" s_are_text_names)
    (A20 : At K mg "parse_query" s_parse_query)
    (A21 : At K mg "parse_queries" s_parse_queries)
    (A22 : At K mg "_law_index" s__law_index)
    (A23 : At K mg "_law_names" s__law_names)
    (A24 : At K mg "_law_all_bounds" s__law_all_bounds)
    (A25 : At K mg "_law_query" s__law_query)
    (A26 : At K mg "_law_queries" s__law_queries)
    (a27 : PySem.W.nsIn K mainGlobals "law" = some (some (.ref f27))) (l27 : K.lookup f27 = some ⟨oc27, od27, .func (PySem.W.fnOf "law" "law" (defArgs s_law) (defBody s_law) (defScope s_law) .none kV27 dc27 pm27 an27 cd27 ct27), sl27⟩) (c27 : PySem.W.codeIn K cd27 "law" = true) (k27 : PySem.W.keepIn K (.ref f27) = true)
    (v0 : PySem.W.nsIn K mainGlobals "MAX_DIGITS" = some (some (.int 12 tc0)))
    (v1 : PySem.W.nsIn K mainGlobals "MAX_LETTERS" = some (some (.int 6 tc1)))
    (v2 : PySem.W.nsIn K mainGlobals "MAX_QUERIES" = some (some (.int 8 tc2)))
    (v3 : PySem.W.nsIn K mainGlobals "SEPARATOR" = some (some (.str "; " tc3)))
    (ER : ErrPack l w K mg)
    (b_abs : PySem.W.nsIn K mainGlobals "abs" = some none)
    (b_all : PySem.W.nsIn K mainGlobals "all" = some none)
    (b_bool : PySem.W.nsIn K mainGlobals "bool" = some none)
    (b_dict : PySem.W.nsIn K mainGlobals "dict" = some none)
    (b_enumerate : PySem.W.nsIn K mainGlobals "enumerate" = some none)
    (b_int : PySem.W.nsIn K mainGlobals "int" = some none)
    (b_isinstance : PySem.W.nsIn K mainGlobals "isinstance" = some none)
    (b_len : PySem.W.nsIn K mainGlobals "len" = some none)
    (b_list : PySem.W.nsIn K mainGlobals "list" = some none)
    (b_min : PySem.W.nsIn K mainGlobals "min" = some none)
    (b_range : PySem.W.nsIn K mainGlobals "range" = some none)
    (b_set : PySem.W.nsIn K mainGlobals "set" = some none)
    (b_sorted : PySem.W.nsIn K mainGlobals "sorted" = some none)
    (b_str : PySem.W.nsIn K mainGlobals "str" = some none)
    (b_tuple : PySem.W.nsIn K mainGlobals "tuple" = some none)
    (b_zip : PySem.W.nsIn K mainGlobals "zip" = some none) :
    ∃ fd : FuncData, (∀ (s : Shared) (u : Value), BindsTo s fd ⟨[u], []⟩ [("_law_script", u)]) ∧ ∀ base : Heap, K.In base → base.Ns mainGlobals mg → FnOk l.prog w K mg base (L2.CX l.prog w) 7 fa fd ["_law_script"] (spLawD K) := by
  have ee := hfa.symm.trans (PySem.W.mg_of X G a27)
  cases ee
  have F0 := fun_mk (st := Dw.sSrc) l0 c0 k0
  have A0 : At K mg "_law_source" Dw.sSrc := ⟨_, _, F0, PySem.W.mg_of X G a0⟩
  have F1 := fun_mk (st := Dw.sDraw) l1 c1 k1
  have A1 : At K mg "_law_draw" Dw.sDraw := ⟨_, _, F1, PySem.W.mg_of X G a1⟩
  have F2 := fun_mk (st := Dw.sSame) l2 c2 k2
  have A2 : At K mg "_law_same" Dw.sSame := ⟨_, _, F2, PySem.W.mg_of X G a2⟩
  have F27 := fun_mk (st := s_law) l27 c27 k27
  refine ⟨PySem.W.fnOf "law" "law" (defArgs s_law) (defBody s_law) (defScope s_law) .none kV27 dc27 pm27 an27 cd27 ct27, fun s v => .of_eq rfl, fun base _ _ => ?_⟩
  have B : Blt mg := ⟨(PySem.W.mg_none_of X G b_abs), (PySem.W.mg_none_of X G b_all), (PySem.W.mg_none_of X G b_enumerate), (PySem.W.mg_none_of X G b_int), (PySem.W.mg_none_of X G b_isinstance), (PySem.W.mg_none_of X G b_len), (PySem.W.mg_none_of X G b_list), (PySem.W.mg_none_of X G b_min), (PySem.W.mg_none_of X G b_range), (PySem.W.mg_none_of X G b_set), (PySem.W.mg_none_of X G b_sorted), (PySem.W.mg_none_of X G b_str), (PySem.W.mg_none_of X G b_tuple)⟩
  have C : Cst K w mg := ⟨⟨_, PySem.W.mg_of X G v0⟩, ⟨_, PySem.W.mg_of X G v1⟩, ⟨_, PySem.W.mg_of X G v2⟩, ⟨_, PySem.W.mg_of X G v3⟩⟩
  obtain ⟨⟨EF, MG⟩, ER⟩ := ER
  obtain R_InvalidText := ER base
  have BS := F0.binds (ps := ["_law_script"]) fun _ _ _ _ _ _ us hl => match us, hl with | [_], _ => rfl
  have GS : FnOk l.prog w K mg base CX0 1 f0 _ ["_law_script"] (Dw.spSrc K) := Dw.ok_src F0 (PySem.W.mg_none_of X G b_list)
  have G__law_draw : Ok l.prog w K mg base 1 "_law_draw" 2 drawD := ⟨_, _, _, PySem.W.mg_of X G a1, k1, F1.binds (ps := ["_law_source_here", "_law_count"]) (fun _ _ _ _ _ _ us hl => match us, hl with | [_, _], _ => rfl), ok_drawD (Dw.ok_draw F1 (PySem.W.mg_none_of X G b_len) (PySem.W.mg_none_of X G b_abs)) rfl⟩
  have BM := F2.binds (ps := ["_law_found", "_law_expected"]) fun _ _ _ _ _ _ us hl => match us, hl with | [_, _], _ => rfl
  have G__law_same : Ok l.prog w K mg base 5 "_law_same" 2 (sameM 3) := ⟨_, _, _, PySem.W.mg_of X G a2, k2, BM, ok_sameD (Dw.ok_same F2 (PySem.W.mg_of X G a2) BM ⟨(PySem.W.mg_none_of X G b_isinstance), (PySem.W.mg_none_of X G b_list), (PySem.W.mg_none_of X G b_tuple), (PySem.W.mg_none_of X G b_len), (PySem.W.mg_none_of X G b_all), (PySem.W.mg_none_of X G b_zip), (PySem.W.mg_none_of X G b_bool), (PySem.W.mg_none_of X G b_int), (PySem.W.mg_none_of X G b_dict), (PySem.W.mg_none_of X G b_str)⟩ 3)⟩
  have G__law_shuffled := o__law_shuffled (P := l.prog) (w := w) (base := base) A3 G__law_draw B
  have G__law_gcd := o__law_gcd (P := l.prog) (w := w) (base := base) A4 B
  have G__law_reduced := o__law_reduced (P := l.prog) (w := w) (base := base) A5 G__law_gcd
  have G__law_bound := o__law_bound (P := l.prog) (w := w) (base := base) A6 G__law_draw G__law_reduced
  have G__law_less := o__law_less (P := l.prog) (w := w) (base := base) A7 
  have G__law_choice := o__law_choice (P := l.prog) (w := w) (base := base) A8 G__law_draw B
  have G__law_interval := o__law_interval (P := l.prog) (w := w) (base := base) A9 G__law_bound G__law_choice G__law_draw G__law_less
  have G__law_intervals := o__law_intervals (P := l.prog) (w := w) (base := base) A10 G__law_draw G__law_interval G__law_shuffled B
  have G_format_fraction := o_format_fraction (P := l.prog) (w := w) (base := base) A11 B
  have G_names_of := o_names_of (P := l.prog) (w := w) (base := base) A12 
  have G_format_query := o_format_query (P := l.prog) (w := w) (base := base) A13 G_format_fraction G_names_of B
  have G_is_short_number := o_is_short_number (P := l.prog) (w := w) (base := base) A14 B C
  have G_greatest_divisor := o_greatest_divisor (P := l.prog) (w := w) (base := base) A15 B
  have G_is_fraction := o_is_fraction (P := l.prog) (w := w) (base := base) A16 G_greatest_divisor B
  have G_parse_fraction := o_parse_fraction (P := l.prog) (w := w) (base := base) A17 G_format_fraction G_is_fraction G_is_short_number B
  have G_is_name := o_is_name (P := l.prog) (w := w) (base := base) A18 B C
  have G_are_text_names := o_are_text_names (P := l.prog) (w := w) (base := base) A19 G_is_name B
  have G_parse_query := o_parse_query (P := l.prog) (w := w) (base := base) A20 G_are_text_names G_parse_fraction B
  have G_parse_queries := o_parse_queries (P := l.prog) (w := w) (base := base) A21 G_parse_query R_InvalidText B C
  have G__law_index := o__law_index (P := l.prog) (w := w) (base := base) A22 G_parse_queries EF MG
  have G__law_names := o__law_names (P := l.prog) (w := w) (base := base) A23 G__law_draw G__law_shuffled B
  have G__law_all_bounds := o__law_all_bounds (P := l.prog) (w := w) (base := base) A24 
  have G__law_query := o__law_query (P := l.prog) (w := w) (base := base) A25 G__law_all_bounds G__law_bound G__law_choice G__law_names G__law_shuffled B
  have G__law_queries := o__law_queries (P := l.prog) (w := w) (base := base) A26 G__law_draw G__law_query B
  exact ok_lawD (k := 6) (m := 10) F27 sc_law rfl rfl 
    (fun cdv A outer s H E hr => ps_set (i := 1) sc_law.nd rfl (by first | exact .inl rfl | exact .inr rfl) (pe_call (E := E0) (CX := CX0) GS (hr.mono (by decide)) (by rfl) (PySem.W.mg_of X G a0) k0 BS .nil pass0 (pa_cons (pv 0) pa_nil)))
    (fun cdv A outer s H E hr => o_law G__law_choice G__law_draw G__law_index G__law_intervals G__law_queries G__law_same G__law_shuffled G_format_query G_parse_queries B _ cdv A outer s H E hr) lawRun
end Dd
namespace Dd
open PySem PySem.Spec PyProof.Rows L2
class Ln {α : Type} (n : outParam Nat) (xs : List α) : Prop where
  le : xs.length ≤ n
instance ln_nil {α : Type} : Ln 0 ([] : List α) := ⟨Nat.le_refl 0⟩
instance ln_cons {α : Type} {n : Nat} {x : α} {xs : List α} [h : Ln n xs] : Ln (n + 1) (x :: xs) := ⟨by have := h.le; simp only [List.length_cons]; omega⟩
instance ln_filter {α : Type} {n : Nat} {p : α → Bool} {xs : List α} [h : Ln n xs] : Ln n (xs.filter p) := ⟨Nat.le_trans (List.length_filter_le _ _) h.le⟩
instance ln_map {α β : Type} {n : Nat} {f : α → β} {xs : List α} [h : Ln n xs] : Ln n (xs.map f) := ⟨by rw [List.length_map]; exact h.le⟩
instance ln_app {α : Type} {n m : Nat} {xs ys : List α} [h : Ln n xs] [g : Ln m ys] : Ln (n + m) (xs ++ ys) := ⟨by have := h.le; have := g.le; rw [List.length_append]; omega⟩
instance ln_drop {α : Type} {n k : Nat} {xs : List α} [h : Ln n xs] : Ln n (xs.drop k) := ⟨by have := h.le; rw [List.length_drop]; omega⟩
instance ln_take {α : Type} {n k : Nat} {xs : List α} [h : Ln n xs] : Ln n (xs.take k) := ⟨by have := h.le; rw [List.length_take]; omega⟩
instance ln_sort {α : Type} {n : Nat} {le : α → α → Bool} {xs : List α} [h : Ln n xs] : Ln n (xs.mergeSort le) := ⟨by rw [List.length_mergeSort]; exact h.le⟩
instance ln_rev {α : Type} {n : Nat} {xs : List α} [h : Ln n xs] : Ln n xs.reverse := ⟨by rw [List.length_reverse]; exact h.le⟩
theorem ln_flat_le {α β : Type} {m : Nat} {f : α → List β} : ∀ {xs : List α}, (∀ x ∈ xs, (f x).length ≤ m) → (xs.flatMap f).length ≤ xs.length * m
  | [], _ => by simp
  | x :: r, h => by
    have h1 := h x List.mem_cons_self
    have h2 := ln_flat_le (f := f) (xs := r) fun y hy => h y (List.mem_cons_of_mem _ hy)
    rw [List.flatMap_cons, List.length_append, List.length_cons, Nat.succ_mul]
    omega
instance ln_flat {α β : Type} {n m : Nat} {f : α → List β} {xs : List α} [h : Ln n xs] [g : ∀ x, Ln m (f x)] : Ln (n * m) (xs.flatMap f) :=
  ⟨Nat.le_trans (ln_flat_le fun x _ => (g x).le) (Nat.mul_le_mul_right _ h.le)⟩
@[simp] theorem sp_fail_bnd {α β : Type} (f : α → M β) : ((M.fail : M α) >>= f) = M.fail := rfl
@[simp] theorem sp_calm_fail {α : Type} : M.calm (M.fail : M α) = M.fail := rfl
@[simp] theorem sp_lift_none {α : Type} : (M.lift none : M α) = M.fail := rfl
@[simp] theorem sp_when_false {α : Type} (m : M α) : M.when false m = M.fail := rfl
@[simp] theorem sp_seq_fail (f : List SD → M Out) : seqM M.fail f = M.fail := rfl
@[simp] theorem sp_seq_bk (ρ : List SD) (f : List SD → M Out) : seqM (pure (.bk ρ)) f = pure (.bk ρ) := rfl
@[simp] theorem sp_seq_ct (ρ : List SD) (f : List SD → M Out) : seqM (pure (.ct ρ)) f = pure (.ct ρ) := rfl
@[simp] theorem sp_seq_if {c : Prop} [Decidable c] (a b : M Out) (f : List SD → M Out) : seqM (if c then a else b) f = if c then seqM a f else seqM b f := by split <;> rfl
@[simp] theorem sp_calm_lift {α : Type} (o : Option α) : M.calm (M.lift o) = M.lift o := by cases o <;> rfl
@[simp] theorem sp_calm_if {α : Type} {c : Prop} [Decidable c] (a b : M α) : M.calm (if c then a else b) = if c then M.calm a else M.calm b := by split <;> rfl
@[simp] theorem sp_it_l (xs : List PyData) : itemsD (.d (.list xs)) = some (xs.map SD.d) := rfl
@[simp] theorem sp_it_t (xs : List PyData) : itemsD (.d (.tuple xs)) = some (xs.map SD.d) := rfl
@[simp] theorem sp_k_nm (i : Nat) (x : PyData) (ρ : List SD) : kOf (.nm i) (.d x) ρ = some (ρ.set i (.d x)) := rfl
@[simp] theorem sp_k_tp3 (i j l : Nat) (x y z : PyData) (ρ : List SD) : kOf (.tp [i, j, l]) (.d (.tuple [x, y, z])) ρ = some (((ρ.set i (.d x)).set j (.d y)).set l (.d z)) := rfl
@[simp] theorem sp_k_tp2 (i j : Nat) (x y : PyData) (ρ : List SD) : kOf (.tp [i, j]) (.d (.tuple [x, y])) ρ = some ((ρ.set i (.d x)).set j (.d y)) := rfl
@[simp] theorem sp_for_nil (tg : Tg) (U : List SD → M Out) (ρ : List SD) : forM tg U [] ρ = pure (.nx ρ) := rfl
theorem sp_for_cons (tg : Tg) (U : List SD → M Out) (x : SD) (r ρ : List SD) : forM tg U (x :: r) ρ = (M.lift (kOf tg x ρ) >>= fun ρ1 => U ρ1 >>= fun o => match o with
    | .nx ρ2 => forM tg U r ρ2
    | .ct ρ2 => forM tg U r ρ2
    | .bk ρ2 => pure (.nx ρ2)
    | .rt y => pure (.rt y)) := rfl
@[simp] theorem sp_wipe0 (ρ : List SD) : wipeD ρ [] = ρ := rfl
@[simp] theorem sp_wipe1 (ρ : List SD) (v : Nat) (vs : List Nat) : wipeD ρ (v :: vs) = (wipeD ρ vs).set v .no := rfl
@[simp] theorem sz0 : szOk 0 = true := rfl
@[simp] theorem sz1 : szOk 1 = true := rfl
@[simp] theorem sz2 : szOk 2 = true := rfl
@[simp] theorem sz3 : szOk 3 = true := rfl
@[simp] theorem sz4 : szOk 4 = true := rfl
@[simp] theorem sz5 : szOk 5 = true := rfl
@[simp] theorem sz6 : szOk 6 = true := rfl
@[simp] theorem sz7 : szOk 7 = true := rfl
@[simp] theorem gTup1 (a : PyData) : gTup [.d a] = some (.d (.tuple [a])) := rfl
@[simp] theorem gTup2 (a b : PyData) : gTup [.d a, .d b] = some (.d (.tuple [a, b])) := rfl
@[simp] theorem gTup3 (a b c : PyData) : gTup [.d a, .d b, .d c] = some (.d (.tuple [a, b, c])) := rfl
@[simp] theorem gTup4 (a b c d : PyData) : gTup [.d a, .d b, .d c, .d d] = some (.d (.tuple [a, b, c, d])) := rfl
@[simp] theorem gTup5 (a b c d e : PyData) : gTup [.d a, .d b, .d c, .d d, .d e] = some (.d (.tuple [a, b, c, d, e])) := rfl
@[simp] theorem gTup6 (a b c d e f : PyData) : gTup [.d a, .d b, .d c, .d d, .d e, .d f] = some (.d (.tuple [a, b, c, d, e, f])) := rfl
@[simp] theorem gLst0 : gLst [] = some (.d (.list [])) := rfl
@[simp] theorem gLst1 (a : PyData) : gLst [.d a] = some (.d (.list [a])) := rfl
@[simp] theorem gLst2 (a b : PyData) : gLst [.d a, .d b] = some (.d (.list [a, b])) := rfl
@[simp] theorem gLst3 (a b c : PyData) : gLst [.d a, .d b, .d c] = some (.d (.list [a, b, c])) := rfl
@[simp] theorem gLst7 (a b c d e f g : PyData) : gLst [.d a, .d b, .d c, .d d, .d e, .d f, .d g] = some (.d (.list [a, b, c, d, e, f, g])) := rfl
@[simp] theorem sp_isN : gIsNot (.d .none) (.d .none) = some (dB false) := rfl
def lcF {α : Type} (B : α → M Bool) (T : α → M SD) : List α → List PyData → M (List PyData)
  | [], acc => pure acc
  | x :: r, acc => do
    let b ← B x
    if b then do
      let y ← T x
      let d ← M.lift (asD y)
      M.when (szOk (acc.length + 1)) (lcF B T r (acc ++ [d]))
    else lcF B T r acc
theorem lcM_map {α : Type} {tg : Tg} {B : List SD → M Bool} {T : List SD → M SD} {ρ : List SD} (g : α → SD) : ∀ (xs : List α) (acc : List PyData),
    lcM tg B T ρ (xs.map g) acc = lcF (fun x => M.lift (kOf tg (g x) ρ) >>= fun ρ1 => M.calm (B ρ1)) (fun x => M.lift (kOf tg (g x) ρ) >>= fun ρ1 => M.calm (T ρ1)) xs acc
  | [], acc => rfl
  | x :: r, acc => by
    have ih := lcM_map (tg := tg) (B := B) (T := T) (ρ := ρ) g r
    show (M.lift (kOf tg (g x) ρ) >>= fun ρ1 => M.calm (B ρ1) >>= fun b => if b = true then (M.calm (T ρ1) >>= fun y => M.lift (asD y) >>= fun d => M.when (szOk (acc.length + 1)) (lcM tg B T ρ (r.map g) (acc ++ [d]))) else lcM tg B T ρ (r.map g) acc) =
      ((M.lift (kOf tg (g x) ρ) >>= fun ρ1 => M.calm (B ρ1)) >>= fun b => if b = true then ((M.lift (kOf tg (g x) ρ) >>= fun ρ1 => M.calm (T ρ1)) >>= fun y => M.lift (asD y) >>= fun d => M.when (szOk (acc.length + 1)) (lcF _ _ r (acc ++ [d]))) else lcF _ _ r acc)
    cases e : kOf tg (g x) ρ with
    | none => rfl
    | some ρ1 => simp only [ih, e, sp_lift_some, sp_pure_bnd]
theorem lcF_pure {α : Type} {b : α → Bool} {f : α → PyData} : ∀ {xs : List α} {acc : List PyData}, acc.length + xs.length ≤ 100000 → lcF (fun x => pure (b x)) (fun x => pure (.d (f x))) xs acc = pure (acc ++ (xs.filter b).map f)
  | [], acc, _ => by rw [List.filter_nil, List.map_nil, List.append_nil]; rfl
  | x :: r, acc, h => by
    rw [List.length_cons] at h
    show (if b x = true then M.when (szOk (acc.length + 1)) (lcF _ _ r (acc ++ [f x])) else lcF _ _ r acc) = _
    cases e : b x with
    | true => rw [if_pos rfl, when_of _ (show szOk (acc.length + 1) = true from decide_eq_true (by omega)), lcF_pure (by simp; omega), List.filter_cons_of_pos e, List.map_cons, List.append_assoc]; rfl
    | false => rw [if_neg (by decide), lcF_pure (by omega), List.filter_cons_of_neg (by simp [e])]
@[simp] theorem sp_lcF {α : Type} {n : Nat} {b : α → Bool} {f : α → PyData} {xs : List α} [h : Ln n xs] (hn : n ≤ 100000 := by decide) : lcF (fun x => pure (b x)) (fun x => pure (.d (f x))) xs [] = pure ((xs.filter b).map f) := by
  rw [lcF_pure (by have := h.le; simp; omega), List.nil_append]
@[simp] theorem sp_lcT {α : Type} {n : Nat} {f : α → PyData} {xs : List α} [h : Ln n xs] (hn : n ≤ 100000 := by decide) : lcF (fun _ => pure true) (fun x => pure (.d (f x))) xs [] = pure (xs.map f) := by
  rw [sp_lcF (b := fun _ => true) (n := n) hn, List.filter_eq_self.mpr (fun _ _ => rfl)]
theorem lcF_congr {α : Type} {B B' : α → M Bool} {T T' : α → M SD} : ∀ {xs : List α} {acc : List PyData}, (∀ x ∈ xs, B x = B' x) → (∀ x ∈ xs, T x = T' x) → lcF B T xs acc = lcF B' T' xs acc
  | [], _, _, _ => rfl
  | x :: r, acc, h, g => by
    have ih := fun acc' => lcF_congr (B := B) (B' := B') (T := T) (T' := T') (xs := r) (acc := acc') (fun y hy => h y (List.mem_cons_of_mem _ hy)) (fun y hy => g y (List.mem_cons_of_mem _ hy))
    unfold lcF
    rw [h x List.mem_cons_self, g x List.mem_cons_self]
    simp only [ih]
@[simp] theorem lcF_map {α β : Type} {B : β → M Bool} {T : β → M SD} (f : α → β) : ∀ (xs : List α) (acc : List PyData), lcF B T (xs.map f) acc = lcF (fun x => B (f x)) (fun x => T (f x)) xs acc
  | [], acc => rfl
  | x :: r, acc => by
    rw [List.map_cons]
    unfold lcF
    simp only [lcF_map f r]
def lcF2 {α : Type} (B : α → M Bool) (T : α → List PyData → M (List PyData)) : List α → List PyData → M (List PyData)
  | [], acc => pure acc
  | x :: r, acc => do
    let b ← B x
    if b then do
      let acc' ← T x acc
      lcF2 B T r acc'
    else lcF2 B T r acc
theorem lcF2_pure {α : Type} {m : Nat} {b : α → Bool} {f : α → List PyData} : ∀ {xs : List α} {acc : List PyData} {T : α → List PyData → M (List PyData)}, (∀ x acc, acc.length + m ≤ 100000 → T x acc = pure (acc ++ f x)) → (∀ x, (f x).length ≤ m) → acc.length + (xs.length + 1) * m ≤ 100000 → lcF2 (fun x => pure (b x)) T xs acc = pure (acc ++ (xs.filter b).flatMap f)
  | [], acc, T, _, _, _ => by rw [List.filter_nil, List.flatMap_nil, List.append_nil]; rfl
  | x :: r, acc, T, h, hm, hl => by
    rw [List.length_cons, Nat.succ_mul, Nat.succ_mul] at hl
    show (if b x = true then (T x acc >>= fun acc' => lcF2 _ T r acc') else lcF2 _ T r acc) = _
    cases e : b x with
    | true =>
      have := hm x
      rw [if_pos rfl, h x acc (by omega), sp_pure_bnd, lcF2_pure h hm (by rw [List.length_append, Nat.succ_mul]; omega), List.filter_cons_of_pos e, List.flatMap_cons, List.append_assoc]
    | false => rw [if_neg (by decide), lcF2_pure h hm (by rw [Nat.succ_mul]; omega), List.filter_cons_of_neg (by simp [e])]
@[simp] theorem sp_lcF2 {α β : Type} {n m : Nat} {b : α → Bool} {b1 : α → β → Bool} {g : α → List β} {f : α → β → PyData} {xs : List α} [h : Ln n xs] [h1 : ∀ x, Ln m (g x)] (hn : (n + 1) * m ≤ 100000 := by decide) :
    lcF2 (fun x => pure (b x)) (fun x acc => lcF (fun y => pure (b1 x y)) (fun y => pure (.d (f x y))) (g x) acc) xs [] = pure ((xs.filter b).flatMap fun x => ((g x).filter (b1 x)).map (f x)) := by
  rw [lcF2_pure (m := m) (f := fun x => ((g x).filter (b1 x)).map (f x)), List.nil_append]
  · intro x acc hl
    rw [lcF_pure (by have := (h1 x).le; omega)]
  · intro x
    rw [List.length_map]
    exact Nat.le_trans (List.length_filter_le _ _) (h1 x).le
  · have := Nat.mul_le_mul_right m (Nat.succ_le_succ h.le)
    rw [List.length_nil]
    simp only [Nat.succ_eq_add_one] at this
    omega
@[simp] theorem sp_lcF2T {α β : Type} {n m : Nat} {b : α → Bool} {g : α → List β} {f : α → β → PyData} {xs : List α} [h : Ln n xs] [h1 : ∀ x, Ln m (g x)] (hn : (n + 1) * m ≤ 100000 := by decide) :
    lcF2 (fun x => pure (b x)) (fun x acc => lcF (fun y => pure true) (fun y => pure (.d (f x y))) (g x) acc) xs [] = pure ((xs.filter b).flatMap fun x => (g x).map (f x)) := by
  have e := sp_lcF2 (b := b) (b1 := fun _ _ => true) (g := g) (f := f) (xs := xs) (n := n) (m := m) hn
  rw [e]
  refine congrArg pure (congrArg (fun h => List.flatMap h (xs.filter b)) (funext fun x => ?_))
  rw [List.filter_eq_self.mpr (fun _ _ => rfl)]
@[simp] theorem filter_tt {α : Type} (xs : List α) : xs.filter (fun _ => true) = xs := List.filter_eq_self.mpr fun _ _ => rfl
theorem bools_map {α : Type} (f : α → Bool) : ∀ xs : List α, bools (xs.map fun x => PyData.bool (f x)) = some (xs.map f)
  | [] => rfl
  | x :: r => by rw [List.map_cons, List.map_cons]; show (bools (r.map _)).map _ = _; rw [bools_map f r]; rfl
@[simp] theorem sp_all {α : Type} (f : α → Bool) (xs : List α) : bAll [.d (.list (xs.map fun x => .bool (f x)))] = pure (dB (xs.all f)) := by
  show (M.lift (bools _) >>= _) = _
  rw [bools_map, lift_some, pure_bnd]
  simp [List.all_map]
  rfl
@[simp] theorem sp_any {α : Type} (f : α → Bool) (xs : List α) : bAny [.d (.list (xs.map fun x => .bool (f x)))] = pure (dB (xs.any f)) := by
  show (M.lift (bools _) >>= _) = _
  rw [bools_map, lift_some, pure_bnd]
  simp [List.any_map]
  rfl
@[simp] theorem sp_all0 : bAll [.d (.list [])] = pure (dB true) := rfl
@[simp] theorem sp_any0 : bAny [.d (.list [])] = pure (dB false) := rfl
theorem intsD_map {α : Type} (f : α → Int) : ∀ xs : List α, intsD (xs.map fun x => PyData.int (f x)) = some (xs.map f)
  | [] => rfl
  | x :: r => by rw [List.map_cons, List.map_cons]; show (intsD (r.map _)).map _ = _; rw [intsD_map f r]; rfl
@[simp] theorem sp_sum {α : Type} (f : α → Int) (xs : List α) : bSum [.d (.list (xs.map fun x => .int (f x)))] = pure (dI (xs.map f).sum) := by
  show (M.lift (intsD _) >>= _) = _
  rw [intsD_map, lift_some, pure_bnd]
end Dd
namespace Dd
open PySem PySem.Spec PyProof.Rows L2
def GF (k : Nat) (p : Fr) : Prop := p.1.natAbs < 2 ^ k ∧ p.2.natAbs < 2 ^ k ∧ 0 < p.2 ∧ isFr p = true
theorem GF.up {k m : Nat} {p : Fr} (h : GF k p) (hk : k ≤ m) : GF m p := ⟨Nat.lt_of_lt_of_le h.1 (Nat.pow_le_pow_right (by decide) hk), Nat.lt_of_lt_of_le h.2.1 (Nat.pow_le_pow_right (by decide) hk), h.2.2⟩
structure Fq where
  p : Fr
  ok : GF 1000 p
theorem Fq.ext {a b : Fq} (h : a.p = b.p) : a = b := by cases a; cases b; cases h; rfl
instance : DecidableEq Fq := fun a b => if h : a.p = b.p then isTrue (Fq.ext h) else isFalse fun e => h (e ▸ rfl)
theorem Fq.pos (a : Fq) : 0 < a.p.2 := a.ok.2.2.1
theorem Fq.cop (a : Fq) : Int.gcd a.p.1 a.p.2 = 1 := of_decide_eq_true (Bool.and_eq_true_iff.mp a.ok.2.2.2).2
def R (a : Fq) : Rat where
  num := a.p.1
  den := a.p.2.toNat
  den_nz := by have := a.pos; omega
  reduced := by
    have h := a.cop
    have h2 : a.p.2.toNat = a.p.2.natAbs := by have := a.pos; omega
    rw [h2]
    exact h
theorem less_R (a b : Fq) : lessF a.p b.p = decide (R a < R b) := by
  unfold lessF
  refine decide_eq_decide.mpr ?_
  rw [Rat.lt_iff]
  have h1 : ((R b).den : Int) = b.p.2 := by show (b.p.2.toNat : Int) = _; have := b.pos; omega
  have h2 : ((R a).den : Int) = a.p.2 := by show (a.p.2.toNat : Int) = _; have := a.pos; omega
  rw [h1, h2]
  exact Iff.rfl
def fq (a : Fq) : PyData := fr a.p
@[simp] theorem ixq0 (a : Fq) : gIx (.d (fq a)) (.d (.int 0)) = some (dI a.p.1) := rfl
@[simp] theorem ixq1 (a : Fq) : gIx (.d (fq a)) (.d (.int 1)) = some (dI a.p.2) := sp_ixF1 a.p
theorem sm_q (a : Fq) : SmI a.p.1 ∧ SmI a.p.2 := ⟨Nat.lt_of_lt_of_le a.ok.1 (Nat.pow_le_pow_right (by decide) (by decide)), Nat.lt_of_lt_of_le a.ok.2.1 (Nat.pow_le_pow_right (by decide) (by decide))⟩
@[simp] theorem mulq (a b : Fq) : gMul (.d (.int a.p.1)) (.d (.int b.p.2)) = some (dI (a.p.1 * b.p.2)) := mul_ok (sm_q a).1 (sm_q b).2 (by decide)
theorem cross_R (a b : Fq) : decide (a.p.1 * b.p.2 < b.p.1 * a.p.2) = decide (R a < R b) := less_R a b
theorem lay_q (a : Fq) : (fq a).canLay0 = true := rfl
theorem depth_q (a : Fq) : (fq a).depth = 1 := by simp [fq, fr, PyData.depth, PyData.depthAll]
theorem shaped_q (a : Fq) : SeqAt.shaped (fq a) = true := by
  show ((fq a).canLay0 && decide ((fq a).depth ≤ 64)) = true
  rw [lay_q, depth_q]
  rfl
theorem eqv_q (a b : Fq) : PyData.eqv (fq a) (fq b) = decide (a = b) := by
  have e : PyData.eqv (fq a) (fq b) = (a.p.1 == b.p.1 && (a.p.2 == b.p.2 && true)) := rfl
  rw [e, Bool.eq_iff_iff]
  simp only [Bool.and_true, Bool.and_eq_true, beq_iff_eq, decide_eq_true_eq]
  exact ⟨fun h => Fq.ext (Prod.ext h.1 h.2), fun h => h ▸ ⟨rfl, rfl⟩⟩
@[simp] theorem eqq (a b : Fq) : gEq (.d (fq a)) (.d (fq b)) = some (dB (decide (a = b))) := by
  show (if (SeqAt.shaped (fq a) && SeqAt.shaped (fq b)) = true then some (dB (PyData.eqv (fq a) (fq b))) else none) = _
  rw [shaped_q, shaped_q, eqv_q]
  rfl
@[simp] theorem neq (a b : Fq) : gNe (.d (fq a)) (.d (fq b)) = some (dB (!decide (a = b))) := by
  show (if (SeqAt.shaped (fq a) && SeqAt.shaped (fq b)) = true then some (dB (!PyData.eqv (fq a) (fq b))) else none) = _
  rw [shaped_q, shaped_q, eqv_q]
  rfl
theorem d__law_less_eq (a b : Fq) : d__law_less [.d (fq a), .d (fq b)] = pure (dB (decide (R a < R b))) := by
  simp [d__law_less, u__law_less, cross_R]
theorem isFr_neg {p : Fr} (h : isFr p = true) : isFr (-p.1, p.2) = true := by
  unfold isFr at h ⊢
  rw [Int.neg_gcd]
  exact h
def negq (a : Fq) : Fq := ⟨(-a.p.1, a.p.2), by have := a.ok.1; show (-a.p.1).natAbs < _; rw [Int.natAbs_neg]; exact this, a.ok.2.1, a.ok.2.2.1, isFr_neg a.ok.2.2.2⟩
theorem R_neg (a : Fq) : R (negq a) = - R a := Rat.ext rfl rfl
def nmOk (x : Str) : Bool := decide (1 ≤ x.length) && decide (x.length ≤ 6) && x.cps.toList.all fun c => decide (97 ≤ c) && decide (c ≤ 122)
structure Nm where
  s : Str
  ok : nmOk s = true
theorem Nm.ext {a b : Nm} (h : a.s = b.s) : a = b := by cases a; cases b; cases h; rfl
instance : DecidableEq Nm := fun a b => if h : a.s = b.s then isTrue (Nm.ext h) else isFalse fun e => h (e ▸ rfl)
instance : LT Nm := ⟨fun a b => a.s.cps.toList < b.s.cps.toList⟩
instance (a b : Nm) : Decidable (a < b) := inferInstanceAs (Decidable (a.s.cps.toList < b.s.cps.toList))
theorem nm_irrefl (a : Nm) : ¬ a < a := List.lt_irrefl a.s.cps.toList
theorem nm_trans {a b c : Nm} (h : a < b) (g : b < c) : a < c := List.lt_trans h g
theorem nm_tri {a b : Nm} (h : ¬ a < b) (g : ¬ b < a) : a = b := by
  have e := List.le_antisymm (List.not_lt.mp g) (List.not_lt.mp h)
  refine Nm.ext ?_
  have : a.s.cps = b.s.cps := Array.toList_inj.mp e
  cases ha : a.s
  cases hb : b.s
  rw [ha, hb] at this
  cases this
  rfl
theorem str_ext {a b : Str} (h : a.cps.toList = b.cps.toList) : a = b := by
  have : a.cps = b.cps := Array.toList_inj.mp h
  cases a; cases b; cases this; rfl
abbrev nS (a : Nm) : PyData := .str a.s
theorem Nm.len (a : Nm) : 1 ≤ a.s.length ∧ a.s.length ≤ 6 := by
  have h := a.ok
  unfold nmOk at h
  simp only [Bool.and_eq_true, decide_eq_true_eq] at h
  exact h.1
theorem Nm.lay (a : Nm) : PyData.canLay0 (.str a.s) = true := by
  have h := a.ok
  unfold nmOk at h
  simp only [Bool.and_eq_true, List.all_eq_true] at h
  have h2 := h.2
  show a.s.cps.all (· < 0x110000) = true
  rw [← Array.all_toList, List.all_eq_true]
  intro c hc
  have := h2 c hc
  simp only [decide_eq_true_eq] at this ⊢
  omega
theorem shaped_n (a : Nm) : SeqAt.shaped (nS a) = true := by
  show (PyData.canLay0 (.str a.s) && decide (PyData.depth (.str a.s) ≤ 64)) = true
  rw [a.lay]
  rfl
theorem eqv_str (a b : Str) : PyData.eqv (.str a) (.str b) = decide (a = b) := by
  show (a == b) = _
  rw [Bool.eq_iff_iff]
  simp
theorem eqv_n (a b : Nm) : PyData.eqv (nS a) (nS b) = decide (a = b) := by
  rw [eqv_str]
  exact decide_eq_decide.mpr ⟨Nm.ext, fun h => h ▸ rfl⟩
@[simp] theorem eqn (a b : Nm) : gEq (.d (.str a.s)) (.d (.str b.s)) = some (dB (decide (a = b))) := by
  show (if (SeqAt.shaped (nS a) && SeqAt.shaped (nS b)) = true then some (dB (PyData.eqv (nS a) (nS b))) else none) = _
  rw [shaped_n, shaped_n, eqv_n]
  rfl
@[simp] theorem nen (a b : Nm) : gNe (.d (.str a.s)) (.d (.str b.s)) = some (dB (!decide (a = b))) := by
  show (if (SeqAt.shaped (nS a) && SeqAt.shaped (nS b)) = true then some (dB (!PyData.eqv (nS a) (nS b))) else none) = _
  rw [shaped_n, shaped_n, eqv_n]
  rfl
theorem inD_n (a : Nm) : ∀ ns : List Nm, inD (nS a) (ns.map nS) = decide (a ∈ ns)
  | [] => rfl
  | b :: r => by
    show (PyData.eqv (nS b) (nS a) || inD (nS a) (r.map nS)) = _
    rw [eqv_n, inD_n a r, Bool.eq_iff_iff, Bool.or_eq_true, decide_eq_true_eq, decide_eq_true_eq, decide_eq_true_eq, List.mem_cons]
    exact or_congr_left ⟨Eq.symm, Eq.symm⟩
theorem flat_n : ∀ ns : List Nm, (ns.map nS).all flatD = true
  | [] => rfl
  | _ :: r => flat_n r
@[simp] theorem inN (a : Nm) (ns : List Nm) : gIn (.d (.str a.s)) (.d (.list (ns.map nS))) = some (dB (decide (a ∈ ns))) := by
  show (if (flatD (nS a) && (ns.map nS).all flatD) = true then some (dB (inD (nS a) (ns.map nS))) else _) = _
  rw [flat_n, inD_n]
  rfl
@[simp] theorem inNT (a : Nm) (ns : List Nm) : gIn (.d (.str a.s)) (.d (.tuple (ns.map nS))) = some (dB (decide (a ∈ ns))) := by
  show (if (flatD (nS a) && (ns.map nS).all flatD) = true then some (dB (inD (nS a) (ns.map nS))) else _) = _
  rw [flat_n, inD_n]
  rfl
@[simp] theorem notInN (a : Nm) (ns : List Nm) : gNotIn (.d (.str a.s)) (.d (.list (ns.map nS))) = some (dB (!decide (a ∈ ns))) := by
  show (if (flatD (nS a) && (ns.map nS).all flatD) = true then some (dB (!inD (nS a) (ns.map nS))) else _) = _
  rw [flat_n, inD_n]
  rfl
@[simp] theorem inNT1 (a b : Nm) : gIn (.d (.str a.s)) (.d (.tuple [.str b.s])) = some (dB (decide (a = b))) := by
  have := inNT a [b]
  simpa using this
@[simp] theorem inNT2 (a b c : Nm) : gIn (.d (.str a.s)) (.d (.tuple [.str b.s, .str c.s])) = some (dB (decide (a = b ∨ a = c))) := by
  have := inNT a [b, c]
  simpa using this
structure Row where
  nm : Nm
  lo : Fq
  hi : Fq
  le : R lo ≤ R hi
theorem Row.ext {a b : Row} (h : a.nm = b.nm) (g : a.lo = b.lo) (l : a.hi = b.hi) : a = b := by cases a; cases b; cases h; cases g; cases l; rfl
instance : DecidableEq Row := fun a b => if h : a.nm = b.nm ∧ a.lo = b.lo ∧ a.hi = b.hi then isTrue (Row.ext h.1 h.2.1 h.2.2) else isFalse fun e => h (e ▸ ⟨rfl, rfl, rfl⟩)
def rw' (r : Row) : PyData := .tuple [nS r.nm, fq r.lo, fq r.hi]
@[simp] theorem ixr0 (r : Row) : gIx (.d (rw' r)) (.d (.int 0)) = some (.d (.str r.nm.s)) := by simp [rw']
@[simp] theorem ixr1 (r : Row) : gIx (.d (rw' r)) (.d (.int 1)) = some (.d (fq r.lo)) := by simp [rw']
@[simp] theorem ixr2 (r : Row) : gIx (.d (rw' r)) (.d (.int 2)) = some (.d (fq r.hi)) := by simp [rw']
@[simp] theorem kr3 (i j l : Nat) (r : Row) (ρ : List SD) : kOf (.tp [i, j, l]) (.d (rw' r)) ρ = some (((ρ.set i (.d (.str r.nm.s))).set j (.d (fq r.lo))).set l (.d (fq r.hi))) := rfl
end Dd
namespace Dd
open PySem PySem.Spec PyProof.Rows L2
theorem enum_map {α : Type} (enc : α → PyData) (xs : List α) : enumS (.d (.list (xs.map enc))) = some (xs.zipIdx.map fun p => .d (.tuple [.int (p.2 : Int), enc p.1])) := by
  show some (enumD (xs.map enc)) = _
  refine congrArg some (List.ext_getElem? fun i => ?_)
  unfold enumD
  rw [List.length_map, List.getElem?_map, List.getElem?_map, List.getElem?_zipIdx]
  by_cases h : i < xs.length
  · rw [List.getElem?_range h, List.getElem?_eq_getElem h]
    simp [pairD, h]
  · rw [List.getElem?_eq_none (by rw [List.length_range]; omega), List.getElem?_eq_none (by omega)]
    rfl
theorem cut_from {α : Type} (xs : List α) (k : Nat) : cutD xs (some (k : Int)) none = xs.drop k := by
  unfold cutD
  rw [HT.sIx_nat, HT.sIx_none]
  by_cases h : k ≤ xs.length
  · rw [Nat.min_eq_left h, List.take_of_length_le (by rw [List.length_drop]; omega)]
  · rw [Nat.min_eq_right (by omega), List.drop_of_length_le (by omega), List.drop_of_length_le (by omega), List.take_nil]
@[simp] theorem sl_from {α : Type} (enc : α → PyData) (xs : List α) (k : Nat) : gSl (.d (.list (xs.map enc))) (some ((k : Int) + 1)) none = some (.d (.list ((xs.drop (k + 1)).map enc))) := by
  show some (SD.d (.list (cutD (xs.map enc) (some (((k + 1 : Nat) : Nat) : Int)) none))) = _
  rw [cut_from, List.map_drop]
theorem cut_to {α : Type} (xs : List α) (k : Nat) : cutD xs none (some (k : Int)) = xs.take k := by
  unfold cutD
  rw [HT.sIx_nat, HT.sIx_none, List.drop_zero, Nat.sub_zero]
  by_cases h : k ≤ xs.length
  · rw [Nat.min_eq_left h]
  · rw [Nat.min_eq_right (by omega), List.take_of_length_le (by omega), List.take_of_length_le (by omega)]
instance ln_zip {α : Type} {n k : Nat} {xs : List α} [h : Ln n xs] : Ln n (xs.zipIdx k) := ⟨by rw [List.length_zipIdx]; exact h.le⟩
def prs {α : Type} : List α → List (α × α)
  | [] => []
  | x :: r => r.map (fun y => (x, y)) ++ prs r
theorem mem_prs {α : Type} {p : α × α} : ∀ {xs : List α}, p ∈ prs xs → p.1 ∈ xs ∧ p.2 ∈ xs
  | x :: r, h => by
    rw [prs, List.mem_append] at h
    rcases h with h | h
    · obtain ⟨y, hy, rfl⟩ := List.mem_map.mp h
      exact ⟨List.mem_cons_self, List.mem_cons_of_mem _ hy⟩
    · obtain ⟨a, b⟩ := mem_prs h
      exact ⟨List.mem_cons_of_mem _ a, List.mem_cons_of_mem _ b⟩
theorem ln_prs_le {α : Type} : ∀ (xs : List α) (n : Nat), xs.length ≤ n → (prs xs).length ≤ xs.length * n
  | [], n, _ => by simp [prs]
  | x :: r, n, h => by
    rw [List.length_cons] at h
    have := ln_prs_le r n (by omega)
    rw [prs, List.length_append, List.length_map, List.length_cons, Nat.succ_mul]
    omega
instance ln_prs {α : Type} {n : Nat} {xs : List α} [h : Ln n xs] : Ln (n * n) (prs xs) := ⟨Nat.le_trans (ln_prs_le xs n h.le) (Nat.mul_le_mul_right n h.le)⟩
def sepd (a b : Row) : Bool := !decide (R b.lo < R a.hi) || !decide (R a.lo < R b.hi)
def mirr (r : Row) : Row := ⟨r.nm, negq r.hi, negq r.lo, by rw [R_neg, R_neg]; exact Rat.neg_le_neg r.le⟩
def least (r : Row) (rs : List Row) : Bool := (rs.filter fun o => !decide (o.nm = r.nm)).all fun o => !decide (R o.lo < R r.hi)
end Dd
namespace Dd
open PySem PySem.Spec PyProof.Rows L2
theorem eqw {a b : Str} {k : Bool} (ha : PyData.canLay0 (.str a) = true) (hb : PyData.canLay0 (.str b) = true) (h : decide (a = b) = k) : gEq (.d (.str a)) (.d (.str b)) = some (dB k) := by
  have s : ∀ {z : Str}, PyData.canLay0 (.str z) = true → SeqAt.shaped (.str z) = true := fun {z} h => by
    show (PyData.canLay0 (.str z) && decide (PyData.depth (.str z) ≤ 64)) = true
    rw [h]
    rfl
  show (if (SeqAt.shaped (.str a) && SeqAt.shaped (.str b)) = true then some (dB (PyData.eqv (.str a) (.str b))) else none) = _
  rw [s ha, s hb, eqv_str, h]
  rfl
theorem inw {a : Str} {ds : List PyData} {k : Bool} (f : ds.all flatD = true) (h : inD (.str a) ds = k) : gIn (.d (.str a)) (.d (.tuple ds)) = some (dB k) := by
  show (if (flatD (.str a) && ds.all flatD) = true then some (dB (inD (.str a) ds)) else _) = _
  rw [f, h]
  rfl
@[simp] theorem w_sort_sort : gEq (.d (.str "sort")) (.d (.str "sort")) = some (dB true) := eqw (by decide +kernel) (by decide +kernel) (by decide +kernel)
@[simp] theorem w_sort_min : gEq (.d (.str "sort")) (.d (.str "min")) = some (dB false) := eqw (by decide +kernel) (by decide +kernel) (by decide +kernel)
@[simp] theorem w_sort_max : gEq (.d (.str "sort")) (.d (.str "max")) = some (dB false) := eqw (by decide +kernel) (by decide +kernel) (by decide +kernel)
@[simp] theorem w_sort_above : gEq (.d (.str "sort")) (.d (.str "above")) = some (dB false) := eqw (by decide +kernel) (by decide +kernel) (by decide +kernel)
@[simp] theorem w_sort_compare : gEq (.d (.str "sort")) (.d (.str "compare")) = some (dB false) := eqw (by decide +kernel) (by decide +kernel) (by decide +kernel)
@[simp] theorem w_min_sort : gEq (.d (.str "min")) (.d (.str "sort")) = some (dB false) := eqw (by decide +kernel) (by decide +kernel) (by decide +kernel)
@[simp] theorem w_min_min : gEq (.d (.str "min")) (.d (.str "min")) = some (dB true) := eqw (by decide +kernel) (by decide +kernel) (by decide +kernel)
@[simp] theorem w_min_max : gEq (.d (.str "min")) (.d (.str "max")) = some (dB false) := eqw (by decide +kernel) (by decide +kernel) (by decide +kernel)
@[simp] theorem w_min_above : gEq (.d (.str "min")) (.d (.str "above")) = some (dB false) := eqw (by decide +kernel) (by decide +kernel) (by decide +kernel)
@[simp] theorem w_min_compare : gEq (.d (.str "min")) (.d (.str "compare")) = some (dB false) := eqw (by decide +kernel) (by decide +kernel) (by decide +kernel)
@[simp] theorem w_max_sort : gEq (.d (.str "max")) (.d (.str "sort")) = some (dB false) := eqw (by decide +kernel) (by decide +kernel) (by decide +kernel)
@[simp] theorem w_max_min : gEq (.d (.str "max")) (.d (.str "min")) = some (dB false) := eqw (by decide +kernel) (by decide +kernel) (by decide +kernel)
@[simp] theorem w_max_max : gEq (.d (.str "max")) (.d (.str "max")) = some (dB true) := eqw (by decide +kernel) (by decide +kernel) (by decide +kernel)
@[simp] theorem w_max_above : gEq (.d (.str "max")) (.d (.str "above")) = some (dB false) := eqw (by decide +kernel) (by decide +kernel) (by decide +kernel)
@[simp] theorem w_max_compare : gEq (.d (.str "max")) (.d (.str "compare")) = some (dB false) := eqw (by decide +kernel) (by decide +kernel) (by decide +kernel)
@[simp] theorem w_above_sort : gEq (.d (.str "above")) (.d (.str "sort")) = some (dB false) := eqw (by decide +kernel) (by decide +kernel) (by decide +kernel)
@[simp] theorem w_above_min : gEq (.d (.str "above")) (.d (.str "min")) = some (dB false) := eqw (by decide +kernel) (by decide +kernel) (by decide +kernel)
@[simp] theorem w_above_max : gEq (.d (.str "above")) (.d (.str "max")) = some (dB false) := eqw (by decide +kernel) (by decide +kernel) (by decide +kernel)
@[simp] theorem w_above_above : gEq (.d (.str "above")) (.d (.str "above")) = some (dB true) := eqw (by decide +kernel) (by decide +kernel) (by decide +kernel)
@[simp] theorem w_above_compare : gEq (.d (.str "above")) (.d (.str "compare")) = some (dB false) := eqw (by decide +kernel) (by decide +kernel) (by decide +kernel)
@[simp] theorem w_compare_sort : gEq (.d (.str "compare")) (.d (.str "sort")) = some (dB false) := eqw (by decide +kernel) (by decide +kernel) (by decide +kernel)
@[simp] theorem w_compare_min : gEq (.d (.str "compare")) (.d (.str "min")) = some (dB false) := eqw (by decide +kernel) (by decide +kernel) (by decide +kernel)
@[simp] theorem w_compare_max : gEq (.d (.str "compare")) (.d (.str "max")) = some (dB false) := eqw (by decide +kernel) (by decide +kernel) (by decide +kernel)
@[simp] theorem w_compare_above : gEq (.d (.str "compare")) (.d (.str "above")) = some (dB false) := eqw (by decide +kernel) (by decide +kernel) (by decide +kernel)
@[simp] theorem w_compare_compare : gEq (.d (.str "compare")) (.d (.str "compare")) = some (dB true) := eqw (by decide +kernel) (by decide +kernel) (by decide +kernel)
@[simp] theorem wi_sort : gIn (.d (.str "sort")) (.d (.tuple [.str "min", .str "max"])) = some (dB false) := inw rfl (by decide +kernel)
@[simp] theorem wj_sort : gIn (.d (.str "sort")) (.d (.tuple [.str "sort", .str "compare"])) = some (dB true) := inw rfl (by decide +kernel)
@[simp] theorem wi_min : gIn (.d (.str "min")) (.d (.tuple [.str "min", .str "max"])) = some (dB true) := inw rfl (by decide +kernel)
@[simp] theorem wj_min : gIn (.d (.str "min")) (.d (.tuple [.str "sort", .str "compare"])) = some (dB false) := inw rfl (by decide +kernel)
@[simp] theorem wi_max : gIn (.d (.str "max")) (.d (.tuple [.str "min", .str "max"])) = some (dB true) := inw rfl (by decide +kernel)
@[simp] theorem wj_max : gIn (.d (.str "max")) (.d (.tuple [.str "sort", .str "compare"])) = some (dB false) := inw rfl (by decide +kernel)
@[simp] theorem wi_above : gIn (.d (.str "above")) (.d (.tuple [.str "min", .str "max"])) = some (dB false) := inw rfl (by decide +kernel)
@[simp] theorem wj_above : gIn (.d (.str "above")) (.d (.tuple [.str "sort", .str "compare"])) = some (dB false) := inw rfl (by decide +kernel)
@[simp] theorem wi_compare : gIn (.d (.str "compare")) (.d (.tuple [.str "min", .str "max"])) = some (dB false) := inw rfl (by decide +kernel)
@[simp] theorem wj_compare : gIn (.d (.str "compare")) (.d (.tuple [.str "sort", .str "compare"])) = some (dB true) := inw rfl (by decide +kernel)
theorem mod_ok {a b : Int} (z : b ≠ 0) : gMod (dI a) (dI b) = some (dI (a.fmod b)) := by
  show (if (decide (b ≠ 0)) = true then some (dI (a.fmod b)) else none) = _
  rw [if_pos (decide_eq_true z)]
theorem div_ok {a b : Int} {n : Nat} (z : b ≠ 0) (h : b.natAbs < 2 ^ n) (hn : n < 9000) : gDiv (dI a) (dI b) = some (dI (a.fdiv b)) := by
  have := log_le h
  show (if (decide (b ≠ 0) && decide (b.natAbs.log2 < 9000)) = true then some (dI (a.fdiv b)) else none) = _
  rw [if_pos (by rw [Bool.and_eq_true]; exact ⟨decide_eq_true z, decide_eq_true (by omega)⟩)]
theorem gd_while : ∀ (n : Nat) (a b : Int), b.natAbs = n → 0 ≤ a → 0 ≤ b → whileM (fun ρ => (do let x ← M.lift (getS ρ 1); M.lift (truD x))) (fun ρ => (do let v ← M.lift (getS ρ 1); let v ← M.lift (plain v); let w ← (do let x ← M.lift (getS ρ 0); let y ← M.lift (getS ρ 1); M.lift (gMod x y)); let w ← M.lift (plain w); pure (.nx ((ρ.set 0 v).set 1 w)))) [dI a, dI b] = pure (.nx [dI (Int.gcd a b), dI 0]) := by
  intro n
  induction n using Nat.strongRecOn with
  | _ n ih =>
    intro a b hn ha hb
    by_cases z : b = 0
    · subst z
      rw [while_end (by simp)]
      have : (Int.gcd a 0 : Int) = a := by rw [Int.gcd_zero_right]; omega
      rw [this]
    · have hz : (b != 0) = true := by simpa using z
      rw [while_go (ρ' := [dI b, dI (a.fmod b)]) (by simp [hz]) (by simp [mod_ok z])]
      have e : a.fmod b = a % b := Int.fmod_eq_emod_of_nonneg a hb
      have h1 : 0 ≤ a % b := Int.emod_nonneg _ z
      have h2 : a % b < b := Int.emod_lt_of_pos _ (by omega)
      rw [ih (a.fmod b).natAbs (by rw [e]; omega) b (a.fmod b) rfl hb (by rw [e]; exact h1)]
      have e2 := Dw.gcd_fmod a b
      rw [e2]
theorem d_greatest_divisor_eq (a b : Int) : d_greatest_divisor [dI a, dI b] = pure (dI (Int.gcd a b)) := by
  simp only [d_greatest_divisor, sp_defM]
  show (u_greatest_divisor [dI a, dI b] >>= _) = _
  unfold u_greatest_divisor
  simp only [sp_get0, sp_get1, sp_lift_some, sp_pure_bnd, sp_abs, sp_plain, sp_seq_nx, List.set_cons_zero, List.set_cons_succ]
  rw [gd_while _ _ _ rfl (by split <;> omega) (by split <;> omega), Dw.abs_if, Dw.abs_if]
  rfl
theorem kit_tt : kitB "tuple" "tuple" = some true := by decide +kernel
theorem kit_ii : kitB "int" "int" = some true := by decide +kernel
theorem kit_ss : kitB "str" "str" = some true := by decide +kernel
@[simp] theorem isi_t (xs : List PyData) : bIsi [.d (.tuple xs), .ty "tuple"] = pure (dB true) := by
  show (M.lift (kitB "tuple" "tuple") >>= _) = _
  rw [kit_tt]; rfl
@[simp] theorem isi_q (a : Fq) : bIsi [.d (fq a), .ty "tuple"] = pure (dB true) := isi_t _
@[simp] theorem isi_i (i : Int) : bIsi [.d (.int i), .ty "int"] = pure (dB true) := by
  show (M.lift (kitB "int" "int") >>= _) = _
  rw [kit_ii]; rfl
@[simp] theorem isi_s (i : Str) : bIsi [.d (.str i), .ty "str"] = pure (dB true) := by
  show (M.lift (kitB "str" "str") >>= _) = _
  rw [kit_ss]; rfl
@[simp] theorem len_q (a : Fq) : bLen [.d (fq a)] = pure (dI 2) := rfl
@[simp] theorem k_q2 (i j : Nat) (a : Fq) (ρ : List SD) : kOf (.tp [i, j]) (.d (fq a)) ρ = some ((ρ.set i (dI a.p.1)).set j (dI a.p.2)) := rfl
theorem d_is_fraction_eq (a : Fq) : d_is_fraction [.d (fq a)] = pure (dB true) := by
  have h : 1 ≤ a.p.2 := a.pos
  have e : Int.gcd a.p.1 a.p.2 = 1 := a.cop
  simp [d_is_fraction, u_is_fraction, d_greatest_divisor_eq, h, e]
@[simp] theorem it_s (x : Str) : itemsD (.d (.str x)) = some (x.cps.toList.map fun c => dS ⟨#[c]⟩) := rfl
theorem ltS_one (a b : Nat) : ltS ⟨#[a]⟩ ⟨#[b]⟩ = decide (a < b) := by
  unfold ltS
  exact decide_eq_decide.mpr (by simp [List.cons_lt_cons_iff])
theorem chr_a : ("a" : Str) = ⟨#[97]⟩ := by decide +kernel
theorem chr_z : ("z" : Str) = ⟨#[122]⟩ := by decide +kernel
@[simp] theorem len_s (x : Nm) : bLen [.d (.str x.s)] = pure (dI x.s.length) := by
  have h := x.len.2
  show M.lift (if szOk x.s.length = true then _ else _) >>= _ = _
  rw [if_pos (show szOk x.s.length = true from decide_eq_true (by omega))]
  rfl
theorem d_is_name_eq (x : Nm) : d_is_name [.d (.str x.s)] = pure (dB true) := by
  have h := x.len
  have hk := x.ok
  haveI : Ln 6 x.s.cps.toList := ⟨h.2⟩
  have h1 : (1 : Int) ≤ (x.s.length : Int) := by omega
  have h2 : (x.s.length : Int) ≤ 6 := by omega
  unfold nmOk at hk
  simp only [Bool.and_eq_true, List.all_eq_true, decide_eq_true_eq] at hk
  simp [d_is_name, u_is_name, h1, h2, lcM_map, chr_a, chr_z, ltS_one]
  rw [lcF_congr (B' := fun _ => pure true) (T' := fun _ => pure (dB true)) (fun _ _ => rfl) (fun c hc => ?_)]
  · have e : (x.s.cps.all fun _ => true) = true := by
      rw [← Array.all_toList]
      exact List.all_eq_true.mpr fun _ _ => rfl
    simp [e]
  · have := hk.2 c hc
    simp [show ¬ c < 97 by omega, show ¬ 122 < c by omega]
inductive Qy where
  | sort (ns : List Nm)
  | mn (ns : List Nm)
  | mx (ns : List Nm)
  | above (ns : List Nm) (t : Fq)
  | cmp (a b : Nm)
def Qy.ns : Qy → List Nm
  | .sort ns => ns
  | .mn ns => ns
  | .mx ns => ns
  | .above ns _ => ns
  | .cmp a b => [a, b]
def qD : Qy → PyData
  | .sort ns => .tuple [.str "sort", .tuple (ns.map nS)]
  | .mn ns => .tuple [.str "min", .tuple (ns.map nS)]
  | .mx ns => .tuple [.str "max", .tuple (ns.map nS)]
  | .above ns t => .tuple [.str "above", .tuple (ns.map nS), fq t]
  | .cmp a b => .tuple [.str "compare", .str a.s, .str b.s]
structure Qy.Ok (q : Qy) (all : List Nm) : Prop where
  ne : q.ns ≠ []
  nd : q.ns.Nodup
  inn : ∀ n ∈ q.ns, n ∈ all
  len : q.ns.length ≤ 24
@[simp] theorem sl_1 (x y z : PyData) : gSl (.d (.tuple [x, y, z])) (some 1) none = some (.d (.tuple [y, z])) := rfl
theorem d_names_of_eq (q : Qy) : d_names_of [.d (qD q)] = pure (.d (.tuple (q.ns.map nS))) := by
  cases q <;> simp [d_names_of, u_names_of, qD, Qy.ns]
theorem strsD_n : ∀ ns : List Nm, strsD (ns.map nS) = some (ns.map fun n => n.s)
  | [] => rfl
  | n :: r => by
    show (strsD (r.map nS)).map _ = _
    rw [strsD_n r]
    rfl
theorem nodup_s {ns : List Nm} (h : ns.Nodup) : (ns.map fun n => n.s).Nodup := by
  unfold List.Nodup at h ⊢
  rw [List.pairwise_map]
  exact h.imp fun hne e => hne (Nm.ext e)
theorem lenSet_n {ns : List Nm} (h : ns.Nodup) (hl : ns.length ≤ 24) : lenSetN (.d (.tuple (ns.map nS))) = some (ns.length : Int) := by
  show (strsD (ns.map nS)).bind _ = _
  rw [strsD_n]
  show (if (ns.map fun n => n.s).length < 4000 then _ else _) = _
  rw [if_pos (by rw [List.length_map]; omega), dst_nodup _ _ (nodup_s h) (by simp), List.length_map]
end Dd
namespace Dd
open PySem PySem.Spec PyProof.Rows L2
abbrev Asc (rs : List Row) : Prop := rs.Pairwise fun a b => a.nm < b.nm
structure IvOk (rs : List Row) : Prop where
  asc : Asc rs
  len : rs.length ≤ 24
abbrev nms (rs : List Row) : List Nm := rs.map fun r => r.nm
theorem IvOk.ln {rs : List Row} (h : IvOk rs) : Ln 24 rs := ⟨h.len⟩
def asked (rs : List Row) (q : Qy) : List Row := rs.filter fun r => decide (r.nm ∈ q.ns)
def qrows (rs : List Row) : Qy → List Row
  | .mx ns => (asked rs (.mx ns)).map mirr
  | q => asked rs q
instance ln_asked {n : Nat} {rs : List Row} {q : Qy} [h : Ln n rs] : Ln n (asked rs q) := ln_filter
instance ln_qrows {n : Nat} {rs : List Row} {q : Qy} [h : Ln n rs] : Ln n (qrows rs q) := by
  cases q with
  | mx ns => exact ln_map
  | _ => exact ln_asked
def certB (rs : List Row) (q : Qy) : Bool := match q with
  | .above _ t => !(qrows rs q).any fun r => decide (R r.lo < R t) && decide (R t < R r.hi)
  | .mn _ => (qrows rs q).any fun r => least r (qrows rs q)
  | .mx _ => (qrows rs q).any fun r => least r (qrows rs q)
  | _ => (prs (qrows rs q)).all fun p => sepd p.1 p.2
end Dd
namespace Dd
open PySem PySem.Spec PyProof.Rows L2
theorem bnd_run {α β : Type} {m : M α} {f : α → M β} {S : α → Prop} {P : β → Prop} {E : Exn → Prop} (h : m.run S E) (i : ∀ a, S a → (f a).run P E) : (m >>= f).run P E := m.mono i (fun _ z => z) h
theorem any_run {c : Int} {β : Type} {f : Int → M β} {P : β → Prop} {E : Exn → Prop} (h : ∀ v, 0 ≤ v → v < c → (f v).run P E) : (M.anyI c >>= f).run P E := h
theorem drawOk_of {c : Int} (h0 : 0 < c) (h : c.natAbs < 2 ^ 1000) : drawOk c = true := by
  have := log_le h
  unfold drawOk
  rw [Bool.and_eq_true]
  exact ⟨decide_eq_true h0, decide_eq_true (by omega)⟩
theorem draw_eq {c : Int} (h : drawOk c = true) : drawD [.src, dI c] = (M.anyI c >>= fun v => pure (dI v)) := by
  show M.when (drawOk c) _ = _
  rw [h]; rfl
theorem draw_run {c : Int} {β : Type} {f : SD → M β} {P : β → Prop} {E : Exn → Prop} (h0 : 0 < c) (hc : c.natAbs < 2 ^ 1000) (h : ∀ v, 0 ≤ v → v < c → (f (dI v)).run P E) : (drawD [.src, .d (.int c)] >>= f).run P E := by
  rw [draw_eq (drawOk_of h0 hc)]
  exact any_run h
theorem b1000 {c : Int} (c0 : 0 ≤ c) (c1 : c ≤ 1000000) : c.natAbs < 2 ^ 1000 := Nat.lt_of_le_of_lt (by omega : _ ≤ 1000000) (by decide +kernel)
theorem drawS {c : Int} {β : Type} {f : SD → M β} {P : β → Prop} {E : Exn → Prop} (h0 : 0 < c) (hc : c ≤ 1000000) (h : ∀ v, 0 ≤ v → v < c → (f (dI v)).run P E) : (drawD [.src, .d (.int c)] >>= f).run P E := draw_run h0 (b1000 (by omega) hc) h
theorem calm_run {α : Type} {m : M α} {P : α → Prop} {E : Exn → Prop} (h : m.run P (fun _ => False)) : (M.calm m).run P E := h
theorem run_bind_pure {α : Type} {m : M α} {P : α → Prop} {E : Exn → Prop} (h : (m >>= pure).run P E) : m.run P E := h
theorem def_run {m : Nat} {U : List SD → M Out} {xs : List SD} {P : SD → Prop} {E : Exn → Prop} (h : (U (xs ++ List.replicate (m - xs.length) .no)).run (fun o => match o with
    | .rt y => P y
    | .nx _ => P (.d .none)
    | _ => False) E) : (defM m U xs).run P E := by
  rw [sp_defM]
  refine bnd_run h fun o q => ?_
  cases o with
  | rt y => exact q
  | nx _ => exact q
  | bk _ => exact q.elim
  | ct _ => exact q.elim
theorem seq_runX {m : M Out} {f : List SD → M Out} {P : Out → Prop} {E : Exn → Prop} (h : m.run (fun o => match o with
    | .nx ρ => (f ρ).run P E
    | o => P o) E) : (seqM m f).run P E := by
  refine m.mono (fun o q => ?_) (fun _ z => z) h
  cases o <;> exact q
theorem for_runX0 {α : Type} {tg : Tg} {U : List SD → M Out} (g : α → SD) (I : List α → List SD → Prop) {P : Out → Prop} {E : Exn → Prop} (all : List α) (hd : ∀ ρ, I all ρ → P (.nx ρ))
    (h : ∀ done x rest ρ, done ++ x :: rest = all → I done ρ → (M.lift (kOf tg (g x) ρ) >>= U).run (fun o => match o with
      | .nx ρ2 => I (done ++ [x]) ρ2
      | .ct ρ2 => I (done ++ [x]) ρ2
      | .bk ρ2 => P (.nx ρ2)
      | .rt y => P (.rt y)) E) : ∀ (xs done : List α) (ρ : List SD), done ++ xs = all → I done ρ → (forM tg U (xs.map g) ρ).run P E
  | [], done, ρ, e, i => hd ρ (by rw [← e, List.append_nil]; exact i)
  | x :: r, done, ρ, e, i => by
    rw [List.map_cons, sp_for_cons, ← sp_bnd_assoc]
    refine bnd_run (h done x r ρ e i) fun o q => ?_
    have go := fun ρ2 (i2 : I (done ++ [x]) ρ2) => for_runX0 g I all hd h r (done ++ [x]) ρ2 (by rw [List.append_assoc]; exact e) i2
    cases o with
    | nx ρ2 => exact go ρ2 q
    | ct ρ2 => exact go ρ2 q
    | bk ρ2 => exact q
    | rt y => exact q
theorem for_runX {α : Type} {tg : Tg} {U : List SD → M Out} (g : α → SD) (I : List α → List SD → Prop) {P : Out → Prop} {E : Exn → Prop} (all : List α) {ρ : List SD} (i : I [] ρ) (hd : ∀ ρ, I all ρ → P (.nx ρ))
    (h : ∀ done x rest ρ, done ++ x :: rest = all → I done ρ → (M.lift (kOf tg (g x) ρ) >>= U).run (fun o => match o with
      | .nx ρ2 => I (done ++ [x]) ρ2
      | .ct ρ2 => I (done ++ [x]) ρ2
      | .bk ρ2 => P (.nx ρ2)
      | .rt y => P (.rt y)) E) : (forM tg U (all.map g) ρ).run P E := for_runX0 g I all hd h all [] ρ rfl i
theorem lcF_run {α β : Type} {B : α → M Bool} {T : α → M SD} {E : Exn → Prop} (enc : β → PyData) (Post : α → β → Prop) : ∀ (xs : List α) (acc : List β) {Q : List PyData → Prop}, acc.length + xs.length ≤ 100000 → (∀ x ∈ xs, B x = pure true) → (∀ x ∈ xs, ∀ S : SD → Prop, (∀ b, Post x b → S (.d (enc b))) → (T x).run S E) →
    (∀ bs : List β, Paired Post xs bs → Q ((acc ++ bs).map enc)) → (lcF B T xs (acc.map enc)).run Q E
  | [], acc, Q, _, _, _, hq => by have := hq [] .nil; rw [List.append_nil] at this; exact this
  | x :: r, acc, Q, hl, hb, ht, hq => by
    rw [List.length_cons] at hl
    show (B x >>= fun b => if b = true then (T x >>= fun y => M.lift (asD y) >>= fun d => M.when (szOk ((acc.map enc).length + 1)) (lcF B T r (acc.map enc ++ [d]))) else lcF B T r (acc.map enc)).run Q E
    rw [hb x List.mem_cons_self, sp_pure_bnd, if_pos rfl]
    refine ht x List.mem_cons_self _ fun b hb1 => ?_
    show (M.when (szOk ((acc.map enc).length + 1)) (lcF B T r (acc.map enc ++ [enc b]))).run Q E
    rw [when_of _ (show szOk ((acc.map enc).length + 1) = true from decide_eq_true (by rw [List.length_map]; omega))]
    have e : acc.map enc ++ [enc b] = (acc ++ [b]).map enc := by rw [List.map_append]; rfl
    rw [e]
    refine lcF_run enc Post r (acc ++ [b]) (by simp; omega) (fun y hy => hb y (List.mem_cons_of_mem _ hy)) (fun y hy => ht y (List.mem_cons_of_mem _ hy)) fun bs pb => ?_
    have := hq (b :: bs) (.cons hb1 pb)
    rw [List.append_assoc]
    exact this
theorem lcF_sub {α β : Type} {B : α → M Bool} {T : α → M SD} {E : Exn → Prop} (f : α → PyData) : ∀ (xs : List α) (acc : List PyData) {Q : List PyData → Prop}, acc.length + xs.length ≤ 100000 → (∀ x ∈ xs, ∀ S : Bool → Prop, S true → S false → (B x).run S E) → (∀ x ∈ xs, T x = pure (.d (f x))) →
    (∀ ys : List α, ys.Sublist xs → Q (acc ++ ys.map f)) → (lcF B T xs acc).run Q E
  | [], acc, Q, _, _, _, hq => by have := hq [] (List.Sublist.slnil); rw [List.map_nil, List.append_nil] at this; exact this
  | x :: r, acc, Q, hl, hb, ht, hq => by
    rw [List.length_cons] at hl
    refine hb x List.mem_cons_self _ ?_ ?_
    · show (T x >>= fun y => M.lift (asD y) >>= fun d => M.when (szOk (acc.length + 1)) (lcF B T r (acc ++ [d]))).run Q E
      rw [ht x List.mem_cons_self]
      show (M.when (szOk (acc.length + 1)) (lcF B T r (acc ++ [f x]))).run Q E
      rw [when_of _ (show szOk (acc.length + 1) = true from decide_eq_true (by omega))]
      refine lcF_sub (β := β) f r _ (by simp; omega) (fun y hy => hb y (List.mem_cons_of_mem _ hy)) (fun y hy => ht y (List.mem_cons_of_mem _ hy)) fun ys sl => ?_
      have := hq (x :: ys) (sl.cons₂ x)
      rw [List.append_assoc]
      exact this
    · show (lcF B T r acc).run Q E
      exact lcF_sub (β := β) f r acc (by omega) (fun y hy => hb y (List.mem_cons_of_mem _ hy)) (fun y hy => ht y (List.mem_cons_of_mem _ hy)) fun ys sl => hq ys (sl.cons x)
theorem choice_run {α : Type} (enc : α → PyData) (xs : List α) (ne : xs ≠ []) (hl : xs.length ≤ 100000) {β : Type} {f : SD → M β} {P : β → Prop} {E : Exn → Prop} (h : ∀ x ∈ xs, (f (.d (enc x))).run P E) : (d__law_choice [.src, .d (.list (xs.map enc))] >>= f).run P E := by
  have l0 : 0 < xs.length := List.length_pos_iff.mpr ne
  have e : d__law_choice [.src, .d (.list (xs.map enc))] = (M.anyI (xs.length : Int) >>= fun v => M.lift ((atI (xs.map enc) v).map SD.d) >>= fun y => M.lift (plain y)) := by
    have dk := drawOk_of (c := (xs.length : Int)) (by omega) (b1000 (by omega) (by omega))
    simp [d__law_choice, u__law_choice, draw_eq dk]
    rfl
  rw [e]
  refine any_run fun v v0 v1 => ?_
  obtain ⟨j, rfl⟩ : ∃ j : Nat, v = (j : Int) := ⟨v.toNat, by omega⟩
  have hj : j < xs.length := by omega
  have e2 : atI (xs.map enc) (j : Int) = some (enc xs[j]) := atI_nat (by rw [List.getElem?_map, List.getElem?_eq_getElem hj]; rfl)
  rw [e2]
  exact h _ (List.getElem_mem hj)
@[simp] theorem ownL0 (x : List PyData) (r : List SD) : ownL (.own x :: r) 0 = some x := rfl
@[simp] theorem ownLs (a : SD) (r : List SD) (i : Nat) : ownL (a :: r) (i + 1) = ownL r i := rfl
@[simp] theorem ownL1 (a : SD) (r : List SD) : ownL (a :: r) 1 = ownL r 0 := rfl
@[simp] theorem ownL2 (a b : SD) (r : List SD) : ownL (a :: b :: r) 2 = ownL r 0 := rfl
@[simp] theorem ownL3 (a b c : SD) (r : List SD) : ownL (a :: b :: c :: r) 3 = ownL r 0 := rfl
@[simp] theorem ownL4 (a b c d : SD) (r : List SD) : ownL (a :: b :: c :: d :: r) 4 = ownL r 0 := rfl
@[simp] theorem ownL5 (a b c d e : SD) (r : List SD) : ownL (a :: b :: c :: d :: e :: r) 5 = ownL r 0 := rfl
@[simp] theorem ownL6 (a b c d e f : SD) (r : List SD) : ownL (a :: b :: c :: d :: e :: f :: r) 6 = ownL r 0 := rfl
theorem insert_perm {α : Type} (ds : List α) (j : Nat) (z : α) : (ds.take j ++ [z] ++ ds.drop j).Perm (ds ++ [z]) := by
  have h1 : (ds.take j ++ [z] ++ ds.drop j).Perm ([z] ++ (ds.take j ++ ds.drop j)) := by
    rw [List.append_assoc]
    refine (List.perm_append_comm_assoc _ _ _).trans ?_
    exact List.Perm.refl _
  rw [List.take_append_drop] at h1
  exact h1.trans List.perm_append_comm
theorem big_of {i : Int} (h0 : 0 ≤ i) (h : i < 100000) : bigI i = true := by
  unfold bigI
  exact Nat.ble_eq_true_of_le (by omega)
theorem guard_run {m : M SD} {β : Type} {f : SD → M β} {P : β → Prop} {E : Exn → Prop} (h : m.run (fun r => noMutS r = true ∧ (f r).run P E) (fun _ => False)) : (guardM m >>= f).run P E := m.mono (fun _ q => q) (fun _ z => z.elim) h
@[simp] theorem callM3o (f : List SD → M SD) (x : PyData) (ds : List PyData) : callM 3 f [.src, .d x, .own ds] = guardM (f [.src, .d x, .d (.list ds)]) := rfl
theorem shuffled_run {α : Type} (enc : α → PyData) (xs : List α) (hl : xs.length ≤ 5000) {β : Type} {f : SD → M β} {P : β → Prop} {E : Exn → Prop} (h : ∀ ys : List α, ys.Perm xs → (f (.d (.list (ys.map enc)))).run P E) : (d__law_shuffled [.src, .d (.list (xs.map enc))] >>= f).run P E := by
  suffices key : (d__law_shuffled [.src, .d (.list (xs.map enc))]).run (fun y => ∃ ys : List α, y = .d (.list (ys.map enc)) ∧ ys.Perm xs) E from bnd_run key fun o q => by
    obtain ⟨ys, rfl, p⟩ := q
    exact h ys p
  refine def_run ?_
  simp [u__law_shuffled]
  refine seq_runX ?_
  refine for_runX (fun x => .d (enc x)) (fun done ρ => ∃ (ds : List α) (a : SD), ρ = [.src, .d (.list (xs.map enc)), .own (ds.map enc), a] ∧ ds.Perm done) xs ⟨[], .no, rfl, .nil⟩ (fun ρ hi => ?_) fun done x rest ρ ed hi => ?_
  · obtain ⟨ds, a, rfl, p⟩ := hi
    exact ⟨ds, rfl, p⟩
  · obtain ⟨ds, a, rfl, p⟩ := hi
    have ld : ds.length < xs.length := by rw [p.length_eq, ← ed]; simp
    simp
    refine drawS (by omega) (by omega) fun v v0 v1 => ?_
    have ok1 : szOk (ds.length + 1) = true := decide_eq_true (by omega)
    have ok2 : bigI v = true := big_of v0 (by omega)
    simp [ok1, ok2, v0]
    refine ⟨ds.take v.toNat ++ [x] ++ ds.drop v.toNat, ?_, (insert_perm ds v.toNat x).trans (List.Perm.append_right _ p)⟩
    simp
end Dd
namespace Dd
open PySem PySem.Spec PyProof.Rows L2
theorem lg_while : ∀ (n : Nat) (a b : Int) (c : SD), b.natAbs = n → ∃ (g : Int) (c' : SD), g.natAbs = Int.gcd a b ∧ whileM (fun ρ => (do let x ← M.lift (getS ρ 1); let y ← pure (.d (PyData.int 0)); let z ← M.lift (gNe x y); M.lift (asB z))) (fun ρ => seqM ((do let v ← (do let x ← M.lift (getS ρ 0); let y ← M.lift (getS ρ 1); M.lift (gMod x y)); let y ← M.lift (plain v); pure (.nx (ρ.set 2 y)))) (fun ρ => seqM ((do let v ← M.lift (getS ρ 1); let y ← M.lift (plain v); pure (.nx (ρ.set 0 y)))) (fun ρ => (do let v ← M.lift (getS ρ 2); let y ← M.lift (plain v); pure (.nx (ρ.set 1 y)))))) [dI a, dI b, c] = pure (.nx [dI g, dI 0, c']) := by
  intro n
  induction n using Nat.strongRecOn with
  | _ n ih =>
    intro a b c hn
    by_cases z : b = 0
    · subst z
      exact ⟨a, c, by rw [Int.gcd_zero_right], by rw [while_end (by simp)]⟩
    · have lt := Dw.fmod_less a b z
      obtain ⟨g, c', h1, h2⟩ := ih (a.fmod b).natAbs (by omega) b (a.fmod b) (dI (a.fmod b)) rfl
      refine ⟨g, c', by rw [h1, Dw.gcd_fmod], ?_⟩
      rw [while_go (ρ' := [dI b, dI (a.fmod b), dI (a.fmod b)]) (by simp [z]) (by simp [mod_ok z]), h2]
theorem d__law_gcd_eq (a b : Int) : d__law_gcd [dI a, dI b] = pure (dI (Int.gcd a b)) := by
  simp only [d__law_gcd, sp_defM]
  show (u__law_gcd [dI a, dI b, .no] >>= _) = _
  unfold u__law_gcd
  obtain ⟨g, c, h1, h2⟩ := lg_while _ a b .no rfl
  rw [h2]
  simp
  rw [Dw.abs_if, h1]
def rat (n d : Int) : Fr := (Dw.rn n d, Dw.rd n d)
theorem gd_lt {n d : Int} {k : Nat} (h : d ≠ 0) (hd : d.natAbs < 2 ^ k) : (Dw.gd n d).natAbs < 2 ^ k := by
  rw [Dw.gd_abs]
  have h1 : Int.gcd n d ≤ d.natAbs := Nat.le_of_dvd (by omega) (Nat.gcd_dvd_right _ _)
  omega
theorem rat_gf {n d : Int} {k : Nat} (h : d ≠ 0) (hn : n.natAbs < 2 ^ k) (hd : d.natAbs < 2 ^ k) : GF k (rat n d) := by
  have g0 := Dw.gd_ne (n := n) h
  have le : ∀ a b c : Int, a ≠ 0 → a * b = c → b.natAbs ≤ c.natAbs := fun a b c z e => by
    rw [← e, Int.natAbs_mul]
    exact Nat.le_mul_of_pos_left _ (by omega)
  have h1 := le _ _ _ g0 (Dw.rn_eq (n := n) h)
  have h2 := le _ _ _ g0 (Dw.rd_eq (n := n) h)
  refine ⟨by simp only [rat]; omega, by simp only [rat]; omega, Dw.rd_pos h, ?_⟩
  have h1 := Dw.rd_pos (n := n) h
  have h2 := Dw.r_gcd (n := n) h
  simp only [isFr, rat, h2, decide_true, Bool.and_true]
  exact decide_eq_true (by omega)
def ratq (n d : Int) (h : d ≠ 0) (hn : n.natAbs < 2 ^ 1000) (hd : d.natAbs < 2 ^ 1000) : Fq := ⟨rat n d, rat_gf h hn hd⟩
theorem d__law_reduced_eq {n d : Int} (h : d ≠ 0) (hn : n.natAbs < 2 ^ 1000) (hd : d.natAbs < 2 ^ 1000) : d__law_reduced [dI n, dI d] = pure (.d (fq (ratq n d h hn hd))) := by
  have e1 : (0 : Int) - (Int.gcd n d : Int) = -(Int.gcd n d : Int) := by omega
  have g0 := Dw.gd_ne (n := n) h
  have d1 := div_ok (a := n) g0 (gd_lt (n := n) h hd) (by decide)
  have d2 := div_ok (a := d) g0 (gd_lt (n := n) h hd) (by decide)
  by_cases z : d < 0
  · have eg : Dw.gd n d = -(Int.gcd n d : Int) := if_pos z
    rw [eg] at d1 d2
    simp [d__law_reduced, u__law_reduced, d__law_gcd_eq, z, d1, d2]
    simp [fq, ratq, fr, rat, Dw.rn, Dw.rd, eg]
  · have eg : Dw.gd n d = (Int.gcd n d : Int) := if_neg z
    rw [eg] at d1 d2
    simp [d__law_reduced, u__law_reduced, d__law_gcd_eq, z, d1, d2]
    simp [fq, ratq, fr, rat, Dw.rn, Dw.rd, eg]
def intq (i : Int) (h : i.natAbs < 2 ^ 1000) : Fq := ⟨(i, 1), h, by show (1 : Int).natAbs < _; exact Nat.one_lt_two_pow (by decide), by show (0 : Int) < 1; decide, by
  show (decide ((1 : Int) ≤ 1) && decide (Int.gcd i 1 = 1)) = true
  rw [Int.gcd_one_right]
  rfl⟩
theorem fq_int (i : Int) (h : i.natAbs < 2 ^ 1000) : PyData.tuple [.int i, .int 1] = fq (intq i h) := rfl
theorem p1000 {k : Nat} {i : Int} (h : i.natAbs < 2 ^ k) (hk : k ≤ 1000 := by decide) : i.natAbs < 2 ^ 1000 := Nat.lt_of_lt_of_le h (Nat.pow_le_pow_right (by decide) hk)
theorem bound_run {s : Int} (s0 : 1 ≤ s) (s1 : s ≤ 1000) {β : Type} {f : SD → M β} {P : β → Prop} {E : Exn → Prop} (h : ∀ a : Fq, GF 20 a.p → (f (.d (fq a))).run P E) : (d__law_bound [.src, .d (.int s)] >>= f).run P E := by
  suffices key : (d__law_bound [.src, .d (.int s)]).run (fun y => ∃ a : Fq, y = .d (fq a) ∧ GF 20 a.p) E from bnd_run key fun o q => by
    obtain ⟨a, rfl, g⟩ := q
    exact h a g
  refine def_run ?_
  have m4 : gMul (.d (.int 4)) (.d (.int s)) = some (dI (4 * s)) := mul_ok (n := 3) (m := 10) (by decide) (by omega) (by decide)
  have m2 : gMul (.d (.int 2)) (.d (.int s)) = some (dI (2 * s)) := mul_ok (n := 3) (m := 10) (by decide) (by omega) (by decide)
  have dv : gDiv (.d (.int s)) (.d (.int 2)) = some (dI (s.fdiv 2)) := div_ok (n := 2) (by decide) (by decide) (by decide)
  have f1 : s.fdiv 2 = s / 2 := Int.fdiv_eq_ediv_of_nonneg s (by decide)
  simp [u__law_bound]
  refine drawS (by decide) (by decide) fun v v0 v1 => ?_
  by_cases vz : v = 0
  · simp [vz, m4, m2]
    refine drawS (by omega) (by omega) fun x x0 x1 => ?_
    simp
    refine drawS (by decide) (by decide) fun y y0 y1 => ?_
    have d0 : 2 + y ≠ 0 := by omega
    have n1 : (x - 2 * s).natAbs < 2 ^ 20 := by omega
    have n2 : (2 + y).natAbs < 2 ^ 20 := by omega
    simp [d__law_reduced_eq d0 (p1000 n1) (p1000 n2)]
    exact ⟨_, rfl, rat_gf d0 n1 n2⟩
  · simp [vz, dv]
    refine drawS (by omega) (by omega) fun x x0 x1 => ?_
    have n1 : (x - s.fdiv 2).natAbs < 2 ^ 20 := by omega
    simp [fq_int _ (p1000 n1)]
    exact ⟨_, rfl, n1, by show (1 : Int).natAbs < _; decide, (intq _ (p1000 n1)).ok.2.2⟩
def prD (x : Fq × Fq) : PyData := .tuple [fq x.1, fq x.2]
@[simp] theorem ixp0 (x : Fq × Fq) : gIx (.d (prD x)) (.d (.int 0)) = some (.d (fq x.1)) := by simp [prD]
@[simp] theorem ixp1 (x : Fq × Fq) : gIx (.d (prD x)) (.d (.int 1)) = some (.d (fq x.2)) := by simp [prD]
def PrOk (k : Nat) (x : Fq × Fq) : Prop := GF k x.1.p ∧ GF k x.2.p ∧ R x.1 ≤ R x.2
theorem PrOk.up {k m : Nat} {x : Fq × Fq} (h : PrOk k x) (hk : k ≤ m) : PrOk m x := ⟨h.1.up hk, h.2.1.up hk, h.2.2⟩
theorem lay_map {α : Type} {enc : α → PyData} {d : Nat} (h : ∀ x, (enc x).canLay0 = true ∧ (enc x).depth ≤ d) : ∀ xs : List α, PyData.canLayAll0 (xs.map enc) = true ∧ PyData.depthAll (xs.map enc) ≤ d
  | [] => by simp [PyData.canLayAll0, PyData.depthAll]
  | x :: r => by
    obtain ⟨h1, h2⟩ := lay_map h r
    obtain ⟨h3, h4⟩ := h x
    simp [PyData.canLayAll0, PyData.depthAll, h1, h3]
    omega
theorem shaped_map {α : Type} {enc : α → PyData} {d : Nat} (h : ∀ x, (enc x).canLay0 = true ∧ (enc x).depth ≤ d) (hd : d ≤ 60) (xs : List α) : SeqAt.shaped (.list (xs.map enc)) = true ∧ SeqAt.shaped (.tuple (xs.map enc)) = true := by
  obtain ⟨h1, h2⟩ := lay_map h xs
  constructor
  · show (PyData.canLay0 (.list (xs.map enc)) && decide (PyData.depth (.list (xs.map enc)) ≤ 64)) = true
    simp [PyData.canLay0, PyData.depth, h1]
    omega
  · show (PyData.canLay0 (.tuple (xs.map enc)) && decide (PyData.depth (.tuple (xs.map enc)) ≤ 64)) = true
    simp [PyData.canLay0, PyData.depth, h1]
    omega
theorem lay_pr (x : Fq × Fq) : (prD x).canLay0 = true ∧ (prD x).depth ≤ 2 := by
  simp [prD, PyData.canLay0, PyData.canLayAll0, PyData.depth, PyData.depthAll, lay_q, depth_q]
theorem neNil {α : Type} {enc : α → PyData} {d : Nat} (h : ∀ x, (enc x).canLay0 = true ∧ (enc x).depth ≤ d) (hd : d ≤ 60) (xs : List α) : gNe (.d (.list (xs.map enc))) (.d (.list [])) = some (dB (!xs.isEmpty)) := by
  have s1 := (shaped_map h hd xs).1
  have s2 : SeqAt.shaped (.list []) = true := by decide +kernel
  have e : PyData.eqv (.list (xs.map enc)) (.list []) = xs.isEmpty := by cases xs <;> rfl
  show (if (SeqAt.shaped (.list (xs.map enc)) && SeqAt.shaped (.list [])) = true then some (dB (!PyData.eqv (.list (xs.map enc)) (.list []))) else none) = _
  rw [s1, s2, e]
  rfl
theorem gf_one {k : Nat} {p : Fr} (h : GF k p) : GF (k + 1) (p.1 + p.2, p.2) := by
  obtain ⟨h1, h2, h3, h4⟩ := h
  refine ⟨by show (p.1 + p.2).natAbs < _; rw [Nat.pow_succ]; omega, Nat.lt_of_lt_of_le h2 (Nat.pow_le_pow_right (by decide) (Nat.le_succ k)), h3, ?_⟩
  obtain ⟨f1, f2⟩ := Bool.and_eq_true_iff.mp h4
  have g : Int.gcd (p.1 + p.2) p.2 = Int.gcd p.1 p.2 := by simp
  show (decide (1 ≤ p.2) && decide (Int.gcd (p.1 + p.2) p.2 = 1)) = true
  rw [g, f1, f2]
  rfl
def oneq (a : Fq) (h : GF 999 a.p) : Fq := ⟨(a.p.1 + a.p.2, a.p.2), gf_one h⟩
theorem R_one (a : Fq) (h : GF 999 a.p) : R a < R (oneq a h) := by
  have := a.pos
  have e := less_R a (oneq a h)
  refine of_decide_eq_true (e.symm.trans (decide_eq_true ?_))
  show a.p.1 * a.p.2 < (a.p.1 + a.p.2) * a.p.2
  rw [Int.add_mul]
  have := Int.mul_pos this this
  omega
theorem interval_run {s : Int} (s0 : 1 ≤ s) (s1 : s ≤ 1000) {k : Nat} (k0 : 20 ≤ k) (k1 : k ≤ 900) {ps : List (Fq × Fq)} (hp : ∀ x ∈ ps, PrOk k x) (hl : ps.length ≤ 1000) {β : Type} {f : SD → M β} {P : β → Prop} {E : Exn → Prop} (h : ∀ x : Fq × Fq, PrOk (k + 1) x → (f (.d (prD x))).run P E) :
    (d__law_interval [.src, .d (.int s), .d (.list (ps.map prD))] >>= f).run P E := by
  suffices key : (d__law_interval [.src, .d (.int s), .d (.list (ps.map prD))]).run (fun y => ∃ x : Fq × Fq, y = .d (prD x) ∧ PrOk (k + 1) x) E from bnd_run key fun o q => by
    obtain ⟨a, rfl, g⟩ := q
    exact h a g
  refine def_run ?_
  have ne := neNil lay_pr (by decide) ps
  simp [u__law_interval, ne]
  refine bound_run s0 s1 fun lo g1 => ?_
  simp
  refine bound_run s0 s1 fun hi g2 => ?_
  simp
  refine drawS (by decide) (by decide) fun way w0 w1 => ?_
  have hk : ∀ {a : Fq}, GF k a.p → GF (k + 1) a.p := fun g => g.up (by omega)
  have tail : ∀ lo : Fq, GF k lo.p → (d__law_less [SD.d (fq hi), SD.d (fq lo)] >>= fun a => M.lift (truD a) >>= fun a => if a = true then (pure (Out.rt (SD.d (PyData.tuple [fq hi, fq lo]))) : M Out) else
      ((if hi = lo then pure (decide (2 < way)) else pure false : M Bool) >>= fun a => if a = true then pure (Out.rt (SD.d (PyData.tuple [fq lo, PyData.tuple [PyData.int (lo.p.fst + lo.p.snd), PyData.int lo.p.snd]]))) else pure (Out.rt (SD.d (PyData.tuple [fq lo, fq hi]))))).run
    (fun o => match o with
      | Out.rt y => ∃ a b, y = SD.d (prD (a, b)) ∧ PrOk (k + 1) (a, b)
      | Out.nx ρ => ∃ a b, PyData.none = prD (a, b) ∧ PrOk (k + 1) (a, b)
      | x => False) E := by
    intro lo gl
    have gh : GF k hi.p := g2.up k0
    by_cases c1 : R hi < R lo
    · simp [d__law_less_eq, c1]
      exact ⟨hi, lo, rfl, hk gh, hk gl, Rat.le_of_lt c1⟩
    · have c3 : R lo ≤ R hi := Rat.not_lt.mp c1
      by_cases c2 : hi = lo
      · by_cases c4 : 2 < way
        · simp [d__law_less_eq, c1, c2, c4]
          have g9 : GF 999 lo.p := gl.up (by omega)
          exact ⟨lo, oneq lo g9, rfl, hk gl, gf_one gl, Rat.le_of_lt (R_one lo g9)⟩
        · subst c2
          simp [d__law_less_eq, c4]
          exact ⟨hi, hi, rfl, hk gl, hk gl, c3⟩
      · simp [d__law_less_eq, c1, c2]
        exact ⟨lo, hi, rfl, hk gl, hk gh, c3⟩
  by_cases pn : ps = []
  · simp [pn]
    exact tail lo (g1.up k0)
  · by_cases wz : way = 0
    · simp [pn, wz]
      refine choice_run prD ps pn (by omega) fun x hx => ?_
      exact ⟨x.1, x.2, rfl, (hp x hx).up (by omega)⟩
    · by_cases wo : way = 1
      · simp [pn, wo]
        refine choice_run prD ps pn (by omega) fun x hx => ?_
        refine drawS (by decide) (by decide) fun v v0 v1 => ?_
        have : v = 0 ∨ v = 1 := by omega
        rcases this with rfl | rfl
        · simp
          subst wo
          have t := tail x.1 (hp x hx).1
          simp at t
          exact t
        · simp
          subst wo
          have t := tail x.2 (hp x hx).2.1
          simp at t
          exact t
      · simp [pn, wz, wo]
        exact tail lo (g1.up k0)
end Dd
namespace Dd
open PySem PySem.Spec PyProof.Rows L2
def srt {α : Type} (enc : α → PyData) (xs : List α) : List α := xs.mergeSort fun a b => !PySem.W.dataLt (enc b) (enc a)
instance ln_srt {α : Type} {n : Nat} {enc : α → PyData} {xs : List α} [h : Ln n xs] : Ln n (srt enc xs) := ln_sort
theorem sorted_eq {α : Type} {enc : α → PyData} (xs : List α) (al : ∀ a b, PySem.W.alike (enc a) (enc b) = true) (so : (∀ a, ∃ x r, enc a = .tuple (x :: r)) ∨ ∀ a, enc a ≠ .none ∧ ∀ xs, enc a ≠ .tuple xs) (ly : ∀ a, (enc a).canLay0 = true ∧ (enc a).depth ≤ 30) :
    bSorted [.d (.list (xs.map enc))] = pure (.d (.list ((srt enc xs).map enc))) := by
  have hn : PySem.W.AllAlike (xs.map enc) ∧ PySem.W.Sortable (xs.map enc) ∧ (∀ d ∈ xs.map enc, d.canLay0 = true ∧ d.depth ≤ 30) := by
    refine ⟨fun d hd d' hd' => ?_, ?_, fun d hd => ?_⟩
    · obtain ⟨a, _, rfl⟩ := List.mem_map.mp hd
      obtain ⟨b, _, rfl⟩ := List.mem_map.mp hd'
      exact al a b
    · rcases so with so | so
      · exact .inl fun d hd => by obtain ⟨a, _, rfl⟩ := List.mem_map.mp hd; exact so a
      · exact .inr fun d hd => by obtain ⟨a, _, rfl⟩ := List.mem_map.mp hd; exact so a
    · obtain ⟨a, _, rfl⟩ := List.mem_map.mp hd
      exact ly a
  show (M.need _ >>= _) = _
  rw [need_of hn, sp_pure_bnd]
  unfold srt
  rw [List.map_mergeSort (r := fun a b => !PySem.W.dataLt (enc b) (enc a)) (s := PySem.W.dataLe false (fun d => d)) (fun a _ b _ => rfl)]
theorem srt_perm {α : Type} (enc : α → PyData) (xs : List α) : (srt enc xs).Perm xs := List.mergeSort_perm _ _
theorem srt_pw {α : Type} (enc : α → PyData) (xs : List α) : (srt enc xs).Pairwise fun a b => PySem.W.dataLt (enc b) (enc a) = false := by
  have t := PySem.W.sortLe_total (listOrd itemOrd) false fun a : α => PySem.W.keyToks (enc a)
  have h := List.pairwise_mergeSort (le := fun a b : α => !PySem.W.dataLt (enc b) (enc a)) t.trans (fun a b => by
    rcases t.total a b with h | h
    · exact Bool.or_eq_true_iff.mpr (.inl h)
    · exact Bool.or_eq_true_iff.mpr (.inr h)) xs
  exact h.imp fun h => by simpa using h
theorem mem_srt {α : Type} {enc : α → PyData} {xs : List α} {x : α} : x ∈ srt enc xs ↔ x ∈ xs := (srt_perm enc xs).mem_iff
theorem lt_n (a b : Nm) : PySem.W.dataLt (nS a) (nS b) = decide (a < b) := by
  show lexLt itemOrd [.inr a.s.cps.toList] [.inr b.s.cps.toList] = _
  rw [lex_cons]
  show (strKind.blt _ _ || (!strKind.blt _ _ && false)) = _
  rw [Bool.and_false, Bool.or_false]
  rfl
theorem lt_r {a b : Row} (h : a.nm ≠ b.nm) : PySem.W.dataLt (rw' a) (rw' b) = decide (a.nm < b.nm) := by
  show lexLt itemOrd (.inl 1 :: .inr a.nm.s.cps.toList :: _) (.inl 1 :: .inr b.nm.s.cps.toList :: _) = _
  rw [lex_self, lex_diff (by intro z; exact h (Nm.ext (str_ext (Sum.inr.inj z))))]
  rfl
theorem lay_n (a : Nm) : (nS a).canLay0 = true ∧ (nS a).depth ≤ 0 := ⟨a.lay, Nat.le_refl 0⟩
theorem lay_r (r : Row) : (rw' r).canLay0 = true ∧ (rw' r).depth ≤ 2 := by
  simp [rw', PyData.canLay0, PyData.canLayAll0, PyData.depth, PyData.depthAll, lay_q, depth_q]
  exact r.nm.lay
theorem sorted_r (rs : List Row) : bSorted [.d (.list (rs.map rw'))] = pure (.d (.list ((srt rw' rs).map rw'))) :=
  sorted_eq rs (fun _ _ => rfl) (.inl fun a => ⟨_, _, rfl⟩) fun a => ⟨(lay_r a).1, by have := (lay_r a).2; omega⟩
theorem srt_r_asc {rs : List Row} (h : (nms rs).Nodup) : Asc (srt rw' rs) := by
  have nd : (nms (srt rw' rs)).Nodup := ((srt_perm rw' rs).map _).nodup_iff.mpr h
  have nd' : (srt rw' rs).Pairwise fun a b => a.nm ≠ b.nm := List.pairwise_map.mp nd
  refine (List.pairwise_and_iff.mpr ⟨srt_pw rw' rs, nd'⟩).imp fun {a b} ⟨h1, h2⟩ => ?_
  rw [lt_r h2.symm] at h1
  have h1 := of_decide_eq_false h1
  by_cases z : a.nm < b.nm
  · exact z
  · exact absurd (nm_tri z h1) h2
@[irreducible] def nm7 : List Nm := [⟨"a", by decide +kernel⟩, ⟨"b", by decide +kernel⟩, ⟨"bb", by decide +kernel⟩, ⟨"item", by decide +kernel⟩, ⟨"d", by decide +kernel⟩, ⟨"xyzxyz", by decide +kernel⟩, ⟨"z", by decide +kernel⟩]
theorem nm7_eq : [PyData.str "a", .str "b", .str "bb", .str "item", .str "d", .str "xyzxyz", .str "z"] = nm7.map nS := by with_unfolding_all rfl
theorem nm7_len : nm7.length = 7 := by with_unfolding_all rfl
theorem nm7_nodup : nm7.Nodup := by
  unfold nm7
  decide +kernel
structure Gen (m : Int) (rs : List Row) : Prop where
  iv : IvOk rs
  ne : rs ≠ []
  len : (rs.length : Int) ≤ m
  gf : ∀ r ∈ rs, GF 30 r.lo.p ∧ GF 30 r.hi.p
  inn : ∀ r ∈ rs, r.nm ∈ nm7
theorem rows_of {k : Nat} : ∀ (ns : List Nm) (ps : List (Fq × Fq)), ns.length = ps.length → (∀ x ∈ ps, PrOk k x) → ∃ rs : List Row, rs.map rw' = (ns.zip ps).map (fun p => .tuple [nS p.1, fq p.2.1, fq p.2.2]) ∧ nms rs = ns ∧ ∀ r ∈ rs, GF k r.lo.p ∧ GF k r.hi.p
  | [], [], _, _ => ⟨[], rfl, rfl, by simp⟩
  | n :: ns, x :: ps, h, hp => by
    obtain ⟨rs, h1, h2, h3⟩ := rows_of ns ps (by simpa using h) fun y hy => hp y (List.mem_cons_of_mem _ hy)
    obtain ⟨g1, g2, g3⟩ := hp x List.mem_cons_self
    refine ⟨⟨n, x.1, x.2, g3⟩ :: rs, ?_, ?_, ?_⟩
    · rw [List.zip_cons_cons, List.map_cons, List.map_cons, h1]
      rfl
    · show n :: nms rs = _
      rw [h2]
    · intro r hr
      rcases List.mem_cons.mp hr with rfl | hr
      · exact ⟨g1, g2⟩
      · exact h3 r hr
theorem range_zip {ns : List Nm} {ps : List (Fq × Fq)} (h : ns.length = ps.length) : (List.range ns.length).map (fun i => PyData.tuple [(ns.map nS).getD i .none, ((ps.map fun x => fq x.1).getD i .none), ((ps.map fun x => fq x.2).getD i .none)]) = (ns.zip ps).map (fun p => .tuple [nS p.1, fq p.2.1, fq p.2.2]) := by
  refine List.ext_getElem? fun i => ?_
  rw [List.getElem?_map, List.getElem?_map]
  by_cases hi : i < ns.length
  · rw [List.getElem?_range hi, List.getElem?_eq_getElem (by rw [List.length_zip]; omega), List.getElem_zip]
    simp [List.getElem?_eq_getElem hi, List.getElem?_eq_getElem (h ▸ hi : i < ps.length)]
  · rw [List.getElem?_eq_none (by rw [List.length_range]; omega), List.getElem?_eq_none (by rw [List.length_zip]; omega)]
    rfl
@[simp] theorem sl_to {α : Type} (enc : α → PyData) (xs : List α) (k : Nat) : gSl (.d (.list (xs.map enc))) none (some (k : Int)) = some (.d (.list ((xs.take k).map enc))) := by
  show some (SD.d (.list (cutD (xs.map enc) none (some (k : Int))))) = _
  rw [cut_to, List.map_take]
theorem intervals_run {m s : Int} (m0 : 1 ≤ m) (m1 : m ≤ 7) (s0 : 1 ≤ s) (s1 : s ≤ 1000) {β : Type} {f : SD → M β} {P : β → Prop} {E : Exn → Prop} (h : ∀ rs : List Row, Gen m rs → (f (.d (.list (rs.map rw')))).run P E) :
    (d__law_intervals [.src, .d (.int m), .d (.int s)] >>= f).run P E := by
  suffices key : (d__law_intervals [.src, .d (.int m), .d (.int s)]).run (fun y => ∃ rs : List Row, y = .d (.list (rs.map rw')) ∧ Gen m rs) E from bnd_run key fun o q => by
    obtain ⟨a, rfl, g⟩ := q
    exact h a g
  refine def_run ?_
  simp [u__law_intervals]
  refine drawS (by omega) (by omega) fun v v0 v1 => ?_
  simp
  rw [nm7_eq]
  refine shuffled_run nS nm7 (by rw [nm7_len]; decide) fun ys py => ?_
  obtain ⟨k, hk⟩ : ∃ k : Nat, 1 + v = (k : Int) := ⟨(1 + v).toNat, by omega⟩
  have kl : k ≤ 7 := by omega
  have yl : ys.length = 7 := py.length_eq.trans nm7_len
  have tl : (ys.take k).length = k := by rw [List.length_take]; omega
  simp [hk, -List.map_take]
  generalize PyData.list (nm7.map nS) = c3
  refine seq_runX ?_
  refine for_runX (fun n : Nm => .d (nS n)) (fun done ρ => ∃ (ps : List (Fq × Fq)) (a : SD), ρ = [.src, .d (.int m), .d (.int s), .d c3, .d (.int k), .d (.list ((ys.take k).map nS)), .own (ps.map prD), a, .no] ∧ ps.length = done.length ∧ ∀ x ∈ ps, PrOk (20 + done.length) x) (ys.take k) ⟨[], .no, rfl, rfl, by simp⟩ (fun ρ hi => ?_) fun done x rest ρ ed hi => ?_
  · obtain ⟨ps, a, e, pl, hp⟩ := hi
    rw [tl] at pl hp
    subst e
    have bg : bigI (k : Int) = true := big_of (by omega) (by omega)
    simp [bg, rangeD, lcM_map, frzS, -List.map_take]
    have el : (ys.take k).length = ps.length := by rw [tl, pl]
    obtain ⟨rs, e1, e2, e3⟩ := rows_of (ys.take k) ps el hp
    rw [lcF_congr (B' := fun _ => pure true) (T' := fun i => pure (.d (.tuple [((ys.take k).map nS).getD i .none, ((ps.map fun x => fq x.1).getD i .none), ((ps.map fun x => fq x.2).getD i .none)]))) (fun _ _ => rfl) (fun i hi => ?_)]
    · haveI : Ln 7 (List.range k) := ⟨by rw [List.length_range]; exact kl⟩
      rw [sp_lcT (n := 7) (by decide)]
      have rz := range_zip el
      rw [tl] at rz
      rw [rz, ← e1, sp_pure_bnd, sorted_r]
      have nd : (nms rs).Nodup := by
        rw [e2]
        exact (py.nodup_iff.mpr nm7_nodup).sublist (List.take_sublist _ _)
      have rl : rs.length = k := by
        have := congrArg List.length e2
        rw [List.length_map, tl] at this
        exact this
      have sl : (srt rw' rs).length = k := by rw [(srt_perm rw' rs).length_eq, rl]
      refine ⟨srt rw' rs, rfl, ⟨srt_r_asc nd, by omega⟩, ?_, by omega, fun r hr => ?_, fun r hr => ?_⟩
      · intro z
        rw [z] at sl
        simp at sl
        omega
      · have := e3 r (mem_srt.mp hr)
        exact ⟨this.1.up (by omega), this.2.up (by omega)⟩
      · have : r.nm ∈ nms rs := List.mem_map_of_mem (mem_srt.mp hr)
        rw [e2] at this
        exact py.mem_iff.mp (List.mem_of_mem_take this)
    · have hi := List.mem_range.mp hi
      have h1 : atI ((ys.take k).map nS) (i : Int) = some (((ys.take k).map nS).getD i .none) := atI_nat (by rw [List.getD_eq_getElem?_getD, List.getElem?_eq_getElem (by rw [List.length_map, tl]; exact hi)]; rfl)
      have h2 : atI (ps.map prD) (i : Int) = some (prD ps[i]) := atI_nat (by rw [List.getElem?_map, List.getElem?_eq_getElem (by omega)]; rfl)
      rw [h1, h2]
      have h3 : i < ps.length := by omega
      simp [List.getElem?_eq_getElem h3]
  · obtain ⟨ps, a, e, pl, hp⟩ := hi
    subst e
    have dl : done.length < 7 := by
      have := congrArg List.length ed
      rw [tl, List.length_append, List.length_cons] at this
      omega
    have sz : szOk (ps.length + 1) = true := decide_eq_true (by omega)
    simp [-List.map_take, sz]
    refine guard_run ?_
    refine run_bind_pure (interval_run s0 s1 (k := 20 + done.length) (by omega) (by omega) hp (by omega) fun y hy => ⟨?_, ?_⟩)
    · rfl
    · refine ⟨ps ++ [y], ⟨.d (nS x), ?_⟩, by simp [pl], ?_⟩
      · simp
      · intro a b hab
        rcases List.mem_append.mp hab with h1 | h1
        · exact (hp _ h1).up (by omega)
        · rw [List.mem_singleton.mp h1]
          exact hy
end Dd
namespace Dd
open PySem PySem.Spec PyProof.Rows L2
def dN {α : Type} (enc : α → PyData) (kvs : List (Nm × α)) : PyData := .dict (kvs.map fun p => (nS p.1, enc p.2))
def lkN {α : Type} (kvs : List (Nm × α)) (n : Nm) : Option α := (kvs.find? fun p => decide (p.1 = n)).map (·.2)
theorem valD_n {α : Type} (enc : α → PyData) (n : Nm) : ∀ kvs : List (Nm × α), valD (kvs.map fun p => (nS p.1, enc p.2)) (.inr n.s) = (lkN kvs n).map enc
  | [] => rfl
  | (k, v) :: r => by
    rw [List.map_cons]
    show (if keyOf (nS k) = some (.inr n.s) then some (enc v) else valD (r.map fun p => (nS p.1, enc p.2)) (.inr n.s)) = _
    unfold lkN
    by_cases h : k = n
    · subst h
      rw [if_pos (show keyOf (nS k) = some (.inr k.s) from rfl), List.find?_cons_of_pos (by simp)]
      rfl
    · rw [if_neg (by intro z; exact h (Nm.ext (Sum.inr.inj (Option.some.inj z)))), List.find?_cons_of_neg (by simpa using h), valD_n enc n r]
      rfl
@[simp] theorem ix_dN {α : Type} (enc : α → PyData) (kvs : List (Nm × α)) (n : Nm) : gIx (.d (dN enc kvs)) (.d (.str n.s)) = (lkN kvs n).map fun v => .d (enc v) := by
  show (keyOf (nS n)).bind (fun q => (valD _ q).map SD.d) = _
  show (valD (kvs.map fun p => (nS p.1, enc p.2)) (.inr n.s)).map SD.d = _
  rw [valD_n, Option.map_map]
  rfl
@[simp] theorem in_dN {α : Type} (enc : α → PyData) (kvs : List (Nm × α)) (n : Nm) : gIn (.d (.str n.s)) (.d (dN enc kvs)) = some (dB (lkN kvs n).isSome) := by
  show (keyOf (nS n)).map (fun q => dB (valD (kvs.map fun p => (nS p.1, enc p.2)) q).isSome) = _
  show some (dB (valD (kvs.map fun p => (nS p.1, enc p.2)) (.inr n.s)).isSome) = _
  rw [valD_n, Option.isSome_map]
@[simp] theorem notIn_dN {α : Type} (enc : α → PyData) (kvs : List (Nm × α)) (n : Nm) : gNotIn (.d (.str n.s)) (.d (dN enc kvs)) = some (dB (!(lkN kvs n).isSome)) := by
  show (keyOf (nS n)).map (fun q => dB (!(valD (kvs.map fun p => (nS p.1, enc p.2)) q).isSome)) = _
  show some (dB (!(valD (kvs.map fun p => (nS p.1, enc p.2)) (.inr n.s)).isSome)) = _
  rw [valD_n, Option.isSome_map]
def putN {α : Type} (kvs : List (Nm × α)) (k : Nm) (v : α) : List (Nm × α) := if (kvs.any fun p => decide (p.1 = k)) = true then kvs.map (fun p => if p.1 = k then (p.1, v) else p) else kvs ++ [(k, v)]
abbrev kvD {α : Type} (enc : α → PyData) (kvs : List (Nm × α)) : List (Key × PyData) := kvs.map fun p => (.inr p.1.s, enc p.2)
def ivs (rs : List Row) : List (Nm × (Fq × Fq)) := rs.map fun r => (r.nm, (r.lo, r.hi))
abbrev tblD (rs : List Row) : PyData := dN prD (ivs rs)
theorem asc_nodup {rs : List Row} (h : Asc rs) : (nms rs).Nodup := List.pairwise_map.mpr (h.imp fun {a b} (hlt : a.nm < b.nm) (e : a.nm = b.nm) => nm_irrefl a.nm (by rw [← e] at hlt; exact hlt))
instance : Inhabited Row := ⟨⟨⟨"a", by decide +kernel⟩, intq 0 (by decide +kernel), intq 0 (by decide +kernel), Rat.le_refl⟩⟩
def rowAt (rs : List Row) (n : Nm) : Row := (rs.find? fun r => decide (r.nm = n)).getD default
theorem rowAt_mem {rs : List Row} {n : Nm} (h : n ∈ nms rs) : rowAt rs n ∈ rs ∧ (rowAt rs n).nm = n := by
  unfold rowAt
  cases e : rs.find? fun r => decide (r.nm = n) with
  | none =>
    obtain ⟨r, h1, h2⟩ := List.mem_map.mp h
    have := List.find?_eq_none.mp e r h1
    simp at this
    exact absurd h2 this
  | some r =>
    have h1 := List.find?_some e
    exact ⟨List.mem_of_find?_eq_some e, by simpa using h1⟩
theorem asc_inj {rs : List Row} (h : Asc rs) {a b : Row} (ha : a ∈ rs) (hb : b ∈ rs) (e : a.nm = b.nm) : a = b := by
  induction rs with
  | nil => cases ha
  | cons x r ih =>
    have h := List.pairwise_cons.mp h
    rcases List.mem_cons.mp ha with e1 | h1
    · rcases List.mem_cons.mp hb with e2 | h2
      · rw [e1, e2]
      · exact absurd (h.1 b h2) (by rw [← e, e1]; exact nm_irrefl _)
    · rcases List.mem_cons.mp hb with e2 | h2
      · exact absurd (h.1 a h1) (by rw [e, e2]; exact nm_irrefl _)
      · exact ih h.2 h1 h2
theorem rowAt_self {rs : List Row} (h : Asc rs) {r : Row} (hr : r ∈ rs) : rowAt rs r.nm = r := by
  obtain ⟨h1, h2⟩ := rowAt_mem (List.mem_map_of_mem hr : r.nm ∈ nms rs)
  exact asc_inj h h1 hr h2
theorem d__law_all_bounds_eq {rs : List Row} (h : IvOk rs) : d__law_all_bounds [.d (.list (rs.map rw'))] = pure (.d (.list ((rs.map (fun r => r.lo) ++ rs.map fun r => r.hi).map fq))) := by
  haveI := h.ln
  have sz : szOk (rs.length + rs.length) = true := decide_eq_true (by have := h.len; omega)
  simp [d__law_all_bounds, u__law_all_bounds, lcM_map, gAdd, sz]
  rfl
theorem neNil_n (ns : List Nm) : gNe (.d (.list (ns.map nS))) (.d (.list [])) = some (dB (!ns.isEmpty)) := neNil lay_n (by decide) ns
@[simp] theorem tuple_l (ds : List PyData) : bTuple [.d (.list ds)] = pure (.d (.tuple ds)) := rfl
structure NsOk (ns : List Nm) (rs : List Row) : Prop where
  ne : ns ≠ []
  nd : ns.Nodup
  inn : ∀ n ∈ ns, n ∈ nms rs
  len : ns.length ≤ rs.length
theorem names_run {rs : List Row} (h : IvOk rs) (rne : rs ≠ []) {β : Type} {f : SD → M β} {P : β → Prop} {E : Exn → Prop} (k : ∀ ns : List Nm, NsOk ns rs → (f (.d (.tuple (ns.map nS)))).run P E) :
    (d__law_names [.src, .d (.list (rs.map rw'))] >>= f).run P E := by
  suffices key : (d__law_names [.src, .d (.list (rs.map rw'))]).run (fun y => ∃ ns : List Nm, y = .d (.tuple (ns.map nS)) ∧ NsOk ns rs) E from bnd_run key fun o q => by
    obtain ⟨a, rfl, g⟩ := q
    exact k a g
  haveI := h.ln
  have nd := asc_nodup h.asc
  have hl : (nms rs).length = rs.length := List.length_map ..
  refine def_run ?_
  simp [u__law_names, lcM_map]
  have e0 : rs.map (fun x => PyData.str x.nm.s) = (nms rs).map nS := by rw [List.map_map]; rfl
  rw [e0]
  refine shuffled_run nS (nms rs) (by have := h.len; omega) fun ys py => ?_
  simp [lcM_map]
  have yl : ys.length = rs.length := by rw [py.length_eq, hl]
  refine bnd_run (S := fun ds => ∃ zs : List Nm, ds = zs.map nS ∧ zs.Sublist ys) (lcF_sub (β := Nat) nS ys [] (by have := h.len; simp; omega) (fun x _ S s1 s2 => ?_) (fun x _ => rfl) fun zs hz => ⟨zs, by simp, hz⟩) fun ds hds => ?_
  · rw [draw_eq (c := 4) (by decide +kernel)]
    simp
    refine any_run fun v v0 v1 => ?_
    by_cases z : 0 < v
    · rw [decide_eq_true z]; exact s1
    · rw [decide_eq_false z]; exact s2
  · obtain ⟨zs, rfl, sl⟩ := hds
    have one : gSl (SD.d (PyData.list ((nms rs).map nS))) none (some 1) = some (.d (.list (((nms rs).take 1).map nS))) := sl_to nS (nms rs) 1
    by_cases z : zs = []
    · subst z
      have e1 : gNe (.d (.list [])) (.d (.list [])) = some (dB false) := neNil_n []
      simp only [List.map_map] at one
      simp [e1, one]
      refine ⟨(nms rs).take 1, ?_, ?_, ?_, ?_, ?_⟩
      · simp
      · cases rs with
        | nil => exact absurd rfl rne
        | cons r t => simp
      · exact nd.sublist (List.take_sublist _ _)
      · exact fun n hn => List.mem_of_mem_take hn
      · rw [List.length_take]; omega
    · have e1 := neNil_n zs
      have e2 : zs.isEmpty = false := by cases zs with | nil => exact absurd rfl z | cons => rfl
      rw [e2] at e1
      simp [e1]
      refine ⟨zs, rfl, z, ?_, ?_, ?_⟩
      · exact (py.nodup_iff.mpr nd).sublist sl
      · exact fun n hn => py.mem_iff.mp (sl.subset hn)
      · have := sl.length_le; omega
def words7 : List PyData := [.str "sort", .str "min", .str "max", .str "above", .str "compare", .str "sort", .str "min"]
structure QGen (q : Qy) (rs : List Row) (w : Nat := 30) : Prop where
  ok : q.Ok (nms rs)
  gf : ∀ ns t, q = .above ns t → GF w t.p
theorem NsOk.qy {ns : List Nm} {rs : List Row} (h : NsOk ns rs) (l : rs.length ≤ 24) {q : Qy} (e : q.ns = ns) : q.Ok (nms rs) := ⟨e ▸ h.ne, e ▸ h.nd, e ▸ h.inn, by rw [e]; exact Nat.le_trans h.len l⟩
theorem query_run {wd : Nat} {rs : List Row} (h : IvOk rs) (rne : rs ≠ []) (gf : ∀ r ∈ rs, GF wd r.lo.p ∧ GF wd r.hi.p) {β : Type} {f : SD → M β} {P : β → Prop} {E : Exn → Prop} (k : ∀ q : Qy, QGen q rs wd → (f (.d (qD q))).run P E) (hw : 30 ≤ wd := by decide) :
    (d__law_query [.src, .d (.list (rs.map rw'))] >>= f).run P E := by
  suffices key : (d__law_query [.src, .d (.list (rs.map rw'))]).run (fun y => ∃ q : Qy, y = .d (qD q) ∧ QGen q rs wd) E from bnd_run key fun o q => by
    obtain ⟨a, rfl, g⟩ := q
    exact k a g
  haveI := h.ln
  have nd := asc_nodup h.asc
  have hl : (nms rs).length = rs.length := List.length_map ..
  have e0 : rs.map (fun x => PyData.str x.nm.s) = (nms rs).map nS := by rw [List.map_map]; rfl
  refine def_run ?_
  simp [u__law_query]
  have ew : [PyData.str "sort", .str "min", .str "max", .str "above", .str "compare", .str "sort", .str "min"] = words7.map id := by simp [words7]
  rw [ew]
  refine choice_run id words7 (by simp [words7]) (by simp [words7]) fun w hw => ?_
  simp
  have plainq : ∀ ns : List Nm, NsOk ns rs → ∀ (P : Qy → Prop), True := fun _ _ _ => trivial
  simp only [words7, List.mem_cons, List.not_mem_nil, or_false] at hw
  have same : ∀ ns : List Nm, NsOk ns rs → QGen (.sort ns) rs wd ∧ QGen (.mn ns) rs wd ∧ QGen (.mx ns) rs wd := fun ns hn => ⟨⟨hn.qy h.len rfl, fun _ _ z => nomatch z⟩, ⟨hn.qy h.len rfl, fun _ _ z => nomatch z⟩, ⟨hn.qy h.len rfl, fun _ _ z => nomatch z⟩⟩
  rcases hw with rfl | rfl | rfl | rfl | rfl | rfl | rfl
  · refine names_run h rne fun ns hn => ?_
    simp
    exact ⟨_, rfl, (same ns hn).1⟩
  · refine names_run h rne fun ns hn => ?_
    simp
    exact ⟨_, rfl, (same ns hn).2.1⟩
  · refine names_run h rne fun ns hn => ?_
    simp
    exact ⟨_, rfl, (same ns hn).2.2⟩
  · refine names_run h rne fun ns hn => ?_
    simp [d__law_all_bounds_eq h]
    refine bound_run (by decide) (by decide) fun a ga => ?_
    have sz : szOk (rs.length + rs.length + 1) = true := decide_eq_true (by have := h.len; omega)
    simp [gAdd, sz]
    have ec : rs.map (fq ∘ fun r => r.lo) ++ (rs.map (fq ∘ fun r => r.hi) ++ [fq a]) = (rs.map (fun r => r.lo) ++ (rs.map (fun r => r.hi) ++ [a])).map fq := by simp
    rw [ec]
    refine choice_run fq _ (by simp) (by have := h.len; simp; omega) fun t ht => ?_
    refine ⟨.above ns t, rfl, hn.qy h.len rfl, fun ns' t' e => ?_⟩
    cases e
    simp at ht
    rcases ht with ⟨r, hr, rfl⟩ | ⟨r, hr, rfl⟩ | rfl
    · exact (gf r hr).1
    · exact (gf r hr).2
    · exact ga.up (by omega)
  · refine names_run h rne fun ns hn => ?_
    by_cases l1 : 1 < rs.length
    · have l1' : (1 : Int) < (rs.length : Int) := by omega
      simp [l1', l1, lcM_map]
      rw [e0]
      refine shuffled_run nS (nms rs) (by have := h.len; omega) fun ys py => ?_
      have yl : ys.length = rs.length := by rw [py.length_eq, hl]
      rcases ys with _ | ⟨a, _ | ⟨b, r⟩⟩
      · simp at yl; omega
      · simp at yl; omega
      · have two : gSl (SD.d (PyData.list ((a :: b :: r).map nS))) none (some 2) = some (.d (.list [nS a, nS b])) := sl_to nS (a :: b :: r) 2
        simp only [List.map_cons] at two
        simp [two]
        refine ⟨.cmp a b, rfl, ⟨by simp [Qy.ns], ?_, ?_, by simp [Qy.ns]⟩, fun _ _ z => nomatch z⟩
        · have := (py.nodup_iff.mpr nd)
          simp [Qy.ns] at this ⊢
          exact this.1.1
        · intro n hn
          simp [Qy.ns] at hn
          refine py.mem_iff.mp ?_
          rcases hn with rfl | rfl <;> simp
    · have l1' : ¬ (1 : Int) < (rs.length : Int) := by omega
      simp [l1', l1]
      exact ⟨_, rfl, (same ns hn).1⟩
  · refine names_run h rne fun ns hn => ?_
    simp
    exact ⟨_, rfl, (same ns hn).1⟩
  · refine names_run h rne fun ns hn => ?_
    simp
    exact ⟨_, rfl, (same ns hn).2.1⟩
theorem paired_mem {α β : Type} {F : α → β → Prop} : ∀ {xs : List α} {ys : List β}, Paired F xs ys → ∀ y ∈ ys, ∃ x, F x y
  | _, _, .nil, y, h => by cases h
  | _, _, .cons r t, y, h => by
    rcases List.mem_cons.mp h with rfl | h
    · exact ⟨_, r⟩
    · exact paired_mem t y h
theorem queries_run {rs : List Row} (h : IvOk rs) (rne : rs ≠ []) (gf : ∀ r ∈ rs, GF 30 r.lo.p ∧ GF 30 r.hi.p) {m : Int} (m0 : 0 ≤ m) (m1 : m ≤ 100) {β : Type} {f : SD → M β} {P : β → Prop} {E : Exn → Prop} (k : ∀ qs : List Qy, (∀ q ∈ qs, QGen q rs) → (qs.length : Int) ≤ m → (f (.d (.list (qs.map qD)))).run P E) :
    (d__law_queries [.src, .d (.list (rs.map rw')), .d (.int m)] >>= f).run P E := by
  suffices key : (d__law_queries [.src, .d (.list (rs.map rw')), .d (.int m)]).run (fun y => ∃ qs : List Qy, y = .d (.list (qs.map qD)) ∧ (∀ q ∈ qs, QGen q rs) ∧ (qs.length : Int) ≤ m) E from bnd_run key fun o q => by
    obtain ⟨a, rfl, g1, g2⟩ := q
    exact k a g1 g2
  refine def_run ?_
  simp [u__law_queries]
  refine drawS (by omega) (by omega) fun v v0 v1 => ?_
  have bg : bigI v = true := big_of v0 (by omega)
  simp [bg, rangeD, lcM_map]
  refine bnd_run (S := fun ds => ∃ qs : List Qy, ds = qs.map qD ∧ (∀ q ∈ qs, QGen q rs) ∧ (qs.length : Int) ≤ m) (lcF_run qD (fun _ q => QGen q rs) (List.range v.toNat) [] (by simp; omega) (fun _ _ => rfl) (fun x _ S hs => ?_) fun qs hq => ?_) fun ds hds => ?_
  · show (M.calm (d__law_query [.src, .d (.list (rs.map rw'))])).run S E
    have := query_run (f := pure) (P := S) (E := fun _ => False) h rne gf fun q hq => hs q hq
    exact this
  · refine ⟨qs, by simp, ?_, ?_⟩
    · intro q hq1
      obtain ⟨x, hx⟩ := paired_mem hq q hq1
      exact hx
    · have := hq.length
      simp at this
      omega
  · obtain ⟨qs, rfl, g1, g2⟩ := hds
    exact ⟨qs, rfl, g1, g2⟩
end Dd
namespace Dd
open PySem PySem.Spec PyProof.Rows L2
def numT (i : Int) : Str := Str.ofString (toString i)
theorem tl_nat (n : Nat) : TL.tl (numT (n : Int)) = TL.numL n := TL.tl_num n
theorem tl_neg (n : Nat) : TL.tl (numT (-((n + 1 : Nat) : Int))) = 45 :: TL.numL (n + 1) := by
  have e : numT (-((n + 1 : Nat) : Int)) = Str.ofString ("-" ++ toString (((n + 1 : Nat) : Int))) := rfl
  rw [e, TL.tl_ofString, String.toList_append, List.map_append, ← tl_nat, numT, TL.tl_ofString]
  rfl
theorem num_cases (i : Int) : (∃ n : Nat, i = n ∧ TL.tl (numT i) = TL.numL n) ∨ ∃ n : Nat, i = -((n + 1 : Nat) : Int) ∧ TL.tl (numT i) = 45 :: TL.numL (n + 1) := by
  by_cases h : 0 ≤ i
  · refine .inl ⟨i.toNat, (Int.toNat_of_nonneg h).symm, ?_⟩
    have := tl_nat i.toNat
    rwa [Int.toNat_of_nonneg h] at this
  · refine .inr ⟨(-i).toNat - 1, by omega, ?_⟩
    have e : i = -(((-i).toNat - 1 + 1 : Nat) : Int) := by omega
    have := tl_neg ((-i).toNat - 1)
    rwa [← e] at this
theorem num_signs (i : Int) : ∀ c ∈ TL.tl (numT i), c = 45 ∨ (48 ≤ c ∧ c ≤ 57) := fun c hc => by
  rcases num_cases i with ⟨n, _, e⟩ | ⟨n, _, e⟩
  · rw [e] at hc
    exact .inr (TL.numL_digits n c hc)
  · rw [e] at hc
    rcases List.mem_cons.mp hc with rfl | hc
    · exact .inl rfl
    · exact .inr (TL.numL_digits _ c hc)
def Sh (i : Int) : Prop := i.natAbs < 10 ^ 12
theorem num_len {i : Int} (h : Sh i) : 1 ≤ (numT i).length ∧ (numT i).length ≤ 13 := by
  unfold Sh at h
  rw [TL.len_tl]
  rcases num_cases i with ⟨n, e1, e⟩ | ⟨n, e1, e⟩
  · rw [e]
    have := TL.numL_len (k := 12) (n := n) (by decide) (by omega)
    have := List.length_pos_iff.mpr (TL.numL_ne n)
    omega
  · rw [e, List.length_cons]
    have := TL.numL_len (k := 12) (n := n + 1) (by decide) (by omega)
    omega
theorem int_neg {n : Nat} (h : n + 1 < 10 ^ 12) : intText? (numT (-((n + 1 : Nat) : Int))) = some (-((n + 1 : Nat) : Int)) := by
  have := intText_neg (x := numT (-((n + 1 : Nat) : Int))) (cs := TL.numL (n + 1)) (tl_neg n) (TL.numL_digits _) (TL.numL_ne _) (by
    have := (num_len (i := -((n + 1 : Nat) : Int)) (by unfold Sh; omega)).2
    omega)
  rw [TL.numL_val] at this
  exact this
theorem int_back {i : Int} (h : Sh i) : intText? (numT i) = some i := by
  unfold Sh at h
  rcases num_cases i with ⟨n, rfl, _⟩ | ⟨n, rfl, _⟩
  · have := TL.numL_len (k := 12) (n := n) (by decide) (by omega)
    exact TL.int_num (by omega)
  · exact int_neg (by omega)
abbrev slash : Str := "/"
abbrev blank : Str := " "
abbrev semi : Str := "; "
theorem tl_slash : TL.tl slash = [47] := by decide +kernel
theorem tl_blank : TL.tl blank = [32] := by decide +kernel
theorem tl_semi : TL.tl semi = [59, 32] := by decide +kernel
def fracT (a : Fq) : Str := if a.p.2 = 1 then numT a.p.1 else numT a.p.1 ++ slash ++ numT a.p.2
theorem frac_signs (a : Fq) : ∀ c ∈ TL.tl (fracT a), 45 ≤ c ∧ c ≤ 57 := fun c hc => by
  unfold fracT at hc
  split at hc
  · have := num_signs _ c hc
    omega
  · rw [TL.tl_append, TL.tl_append, tl_slash] at hc
    simp only [List.mem_append, List.mem_singleton] at hc
    rcases hc with (hc | hc) | hc
    · have := num_signs _ c hc
      omega
    · omega
    · have := num_signs _ c hc
      omega
structure ShF (a : Fq) : Prop where
  top : Sh a.p.1
  bot : Sh a.p.2
theorem frac_len {a : Fq} (h : ShF a) : 1 ≤ (fracT a).length ∧ (fracT a).length ≤ 27 := by
  have h1 := num_len h.top
  have h2 := num_len h.bot
  unfold fracT
  split
  · omega
  · simp only [TL.len_tl, TL.tl_append, tl_slash, List.length_append, List.length_cons, List.length_nil] at h1 h2 ⊢
    omega
def wordsQ : Qy → List Str
  | .sort ns => ("sort" : Str) :: ns.map fun n => n.s
  | .mn ns => ("min" : Str) :: ns.map fun n => n.s
  | .mx ns => ("max" : Str) :: ns.map fun n => n.s
  | .above ns t => ("above" : Str) :: fracT t :: ns.map fun n => n.s
  | .cmp a b => [("compare" : Str), a.s, b.s]
def textQ (q : Qy) : Str := Txt.join blank (wordsQ q)
theorem nm_signs (n : Nm) : ∀ c ∈ TL.tl n.s, 97 ≤ c ∧ c ≤ 122 := fun c hc => by
  have hk := n.ok
  unfold nmOk at hk
  simp only [Bool.and_eq_true, List.all_eq_true, decide_eq_true_eq] at hk
  exact hk.2 c hc
theorem word_signs (q : Qy) : ∀ w ∈ wordsQ q, ∀ c ∈ TL.tl w, 45 ≤ c ∧ c ≤ 122 ∧ c ≠ 59 := fun w hw c hc => by
  have nm : ∀ ns : List Nm, w ∈ (ns.map fun n => n.s) → 45 ≤ c ∧ c ≤ 122 ∧ c ≠ 59 := fun ns h => by
    obtain ⟨n, _, rfl⟩ := List.mem_map.mp h
    have := nm_signs n c hc
    omega
  have k1 : ∀ c ∈ TL.tl "sort", 97 ≤ c ∧ c ≤ 122 := by decide +kernel
  have k2 : ∀ c ∈ TL.tl "min", 97 ≤ c ∧ c ≤ 122 := by decide +kernel
  have k3 : ∀ c ∈ TL.tl "max", 97 ≤ c ∧ c ≤ 122 := by decide +kernel
  have k4 : ∀ c ∈ TL.tl "above", 97 ≤ c ∧ c ≤ 122 := by decide +kernel
  have k5 : ∀ c ∈ TL.tl "compare", 97 ≤ c ∧ c ≤ 122 := by decide +kernel
  cases q with
  | sort ns =>
    rcases List.mem_cons.mp hw with rfl | hw
    · have := k1 c hc; omega
    · exact nm ns hw
  | mn ns =>
    rcases List.mem_cons.mp hw with rfl | hw
    · have := k2 c hc; omega
    · exact nm ns hw
  | mx ns =>
    rcases List.mem_cons.mp hw with rfl | hw
    · have := k3 c hc; omega
    · exact nm ns hw
  | above ns t =>
    rcases List.mem_cons.mp hw with rfl | hw
    · have := k4 c hc; omega
    · rcases List.mem_cons.mp hw with rfl | hw
      · have := frac_signs t c hc; omega
      · exact nm ns hw
  | cmp a b =>
    simp only [wordsQ, List.mem_cons, List.not_mem_nil, or_false] at hw
    rcases hw with rfl | rfl | rfl
    · have := k5 c hc; omega
    · have := nm_signs a c hc; omega
    · have := nm_signs b c hc; omega
theorem words_ne (q : Qy) : wordsQ q ≠ [] := by cases q <;> simp [wordsQ]
theorem words_back (q : Qy) : Txt.split (textQ q) blank = wordsQ q :=
  TL.split_join (s := 32) (S := []) tl_blank (by decide +kernel) (words_ne q) fun p hp z => by
    have := word_signs q p hp 32 z
    omega
theorem text_no (q : Qy) : 59 ∉ TL.tl (textQ q) := fun z => by
  unfold textQ at z
  rw [TL.join_eq, TL.tl_join] at z
  have key : ∀ ps : List (List Nat), (∀ p ∈ ps, 59 ∉ p) → 59 ∉ TL.joinL [32] ps := by
    intro ps
    induction ps with
    | nil => exact fun _ z => by simp [TL.joinL] at z
    | cons p ps ih =>
      intro h z
      cases ps with
      | nil => exact h p List.mem_cons_self z
      | cons q r =>
        have e : TL.joinL [32] (p :: q :: r) = p ++ ([32] ++ TL.joinL [32] (q :: r)) := rfl
        rw [e] at z
        rcases List.mem_append.mp z with z | z
        · exact h p List.mem_cons_self z
        · rcases List.mem_append.mp z with z | z
          · simp at z
          · exact ih (fun x hx => h x (List.mem_cons_of_mem _ hx)) z
  rw [tl_blank] at z
  refine key _ (fun p hp hz => ?_) z
  obtain ⟨w, hw, rfl⟩ := List.mem_map.mp hp
  have := word_signs q w hw 59 hz
  omega
theorem qtexts_back {qs : List Qy} (ne : qs ≠ []) : Txt.split (Txt.join semi (qs.map textQ)) semi = qs.map textQ :=
  TL.split_join (s := 59) (S := [32]) tl_semi (by decide +kernel) (by simpa using ne) fun p hp z => by
    obtain ⟨q, _, rfl⟩ := List.mem_map.mp hp
    exact text_no q z
end Dd
namespace Dd
open PySem PySem.Spec PyProof.Rows L2
theorem sh_log {i : Int} (h : Sh i) : i.natAbs.log2 < 1600 := by
  unfold Sh at h
  have : i.natAbs.log2 < 40 := by
    by_cases z : i.natAbs = 0
    · rw [z]; decide
    · exact (Nat.log2_lt z).mpr (by omega)
  omega
theorem str_i {i : Int} (h : Sh i) : bStrI [.d (.int i)] = pure (.d (.str (numT i))) := by
  show M.when (decide (i.natAbs.log2 < 1920)) _ = _
  rw [show decide (i.natAbs.log2 < 1920) = true from decide_eq_true (by have := sh_log h; omega), sp_when_true]
  rfl
theorem tx_i {i : Int} (h : Sh i) : txS (.d (.int i)) = some (numT i) := by
  show (if i.natAbs.log2 < 1600 then _ else _) = _
  rw [if_pos (sh_log h)]
  rfl
theorem emp_app (x : Str) : Str.empty ++ x = x := TL.ext_tl (by rw [TL.tl_append]; rfl)
theorem d_format_fraction_eq {a : Fq} (h : ShF a) : d_format_fraction [.d (fq a)] = pure (.d (.str (fracT a))) := by
  have l1 := num_len h.top
  have l2 := num_len h.bot
  have g1 : gEq (.d (.int a.p.2)) (.d (.int 1)) = some (dB (decide (a.p.2 = 1))) := by simp
  have k : kOf (.tp [1, 2]) (.d (fq a)) [.d (fq a), .no, .no] = some [.d (fq a), .d (.int a.p.1), .d (.int a.p.2)] := rfl
  by_cases e : a.p.2 = 1
  · simp [d_format_fraction, u_format_fraction, k, e, str_i h.top, fracT]
  · have t1 := tx_i h.top
    have t2 := tx_i h.bot
    have t3 : txS (.d (.str slash)) = some slash := by kernel_rfl
    have s1 : (numT a.p.1 ++ slash).length = (numT a.p.1).length + 1 := by
      rw [TL.len_tl, TL.tl_append, tl_slash, List.length_append, TL.len_tl]
      rfl
    have s2 : (numT a.p.1 ++ slash ++ numT a.p.2).length = (numT a.p.1).length + 1 + (numT a.p.2).length := by
      rw [TL.len_tl, TL.tl_append, List.length_append, ← TL.len_tl, ← TL.len_tl, s1]
    have w1 : szOk (numT a.p.1).length = true := decide_eq_true (by omega)
    have w2 : szOk (numT a.p.1 ++ slash).length = true := decide_eq_true (by omega)
    have w3 : szOk (numT a.p.1 ++ slash ++ numT a.p.2).length = true := decide_eq_true (by omega)
    simp [d_format_fraction, u_format_fraction, k, e, jsM, t1, t2, t3, emp_app, fracT, w1, w2, w3]
theorem d_is_short_number_eq {x : Str} (h : NumText.AllDigits (TL.tl x)) (h0 : 1 ≤ x.length) (h1 : x.length ≤ 12) : d_is_short_number [.d (.str x)] = pure (dB true) := by
  haveI : Ln 12 x.cps.toList := ⟨by have := TL.len_tl x; rw [← this]; exact h1⟩
  have a1 : (1 : Int) ≤ (x.length : Int) := by omega
  have a2 : (x.length : Int) ≤ 12 := by omega
  have bl : bLen [.d (.str x)] = pure (dI x.length) := by
    show M.lift (if szOk x.length = true then _ else _) >>= _ = _
    rw [if_pos (show szOk x.length = true from decide_eq_true (by omega))]
    rfl
  have c0 : ("0" : Str) = ⟨#[48]⟩ := by decide +kernel
  have c9 : ("9" : Str) = ⟨#[57]⟩ := by decide +kernel
  simp [d_is_short_number, u_is_short_number, bl, a1, a2, lcM_map, c0, c9, ltS_one]
  rw [lcF_congr (B' := fun _ => pure true) (T' := fun _ => pure (dB true)) (fun _ _ => rfl) (fun c hc => ?_)]
  · have e : (x.cps.all fun _ => true) = true := by
      rw [← Array.all_toList]
      exact List.all_eq_true.mpr fun _ _ => rfl
    simp [e]
  · have := h c hc
    simp [show ¬ c < 48 by omega, show ¬ 57 < c by omega]
abbrev minus : Str := "-"
theorem tl_minus : TL.tl minus = [45] := by decide +kernel
theorem rmpre_digits {x : Str} (h : NumText.AllDigits (TL.tl x)) : Txt.removeprefix x minus = x := by
  rw [StrLaws.removeprefix_eq]
  refine if_neg fun z => ?_
  obtain ⟨_, z⟩ := Bool.and_eq_true_iff.mp z
  rw [StrLaws.subAt_eq] at z
  have z := eq_of_beq z
  rw [show minus.cps.toList = [45] from tl_minus, show minus.length = 1 from by decide +kernel, List.drop_zero] at z
  have e : TL.tl x = x.cps.toList := rfl
  cases hx : x.cps.toList with
  | nil => rw [hx] at z; cases z
  | cons c r =>
    rw [hx] at z
    have z : [c] = [45] := z
    cases z
    have := h 45 (by rw [e, hx]; exact List.mem_cons_self)
    omega
theorem rmpre_neg {x : Str} {cs : List Nat} (h : TL.tl x = 45 :: cs) : TL.tl (Txt.removeprefix x minus) = cs := by
  rw [StrLaws.removeprefix_eq]
  have l1 : minus.length = 1 := by decide +kernel
  have lx : x.length = cs.length + 1 := by rw [TL.len_tl, h]; rfl
  have h : x.cps.toList = 45 :: cs := h
  rw [if_pos]
  · show ((x.cps.toList.drop minus.length).take (x.length - minus.length)) = cs
    rw [l1, h, lx]
    simp
  · refine Bool.and_eq_true_iff.mpr ⟨decide_eq_true (by omega), ?_⟩
    rw [StrLaws.subAt_eq, h, l1, show minus.cps.toList = [45] from tl_minus]
    rfl
theorem short_top {i : Int} (h : Sh i) : d_is_short_number [.d (.str (Txt.removeprefix (numT i) minus))] = pure (dB true) := by
  unfold Sh at h
  rcases num_cases i with ⟨n, e1, e⟩ | ⟨n, e1, e⟩
  · have d : NumText.AllDigits (TL.tl (numT i)) := by rw [e]; exact TL.numL_digits n
    have l := TL.numL_len (k := 12) (n := n) (by decide) (by omega)
    have l0 := List.length_pos_iff.mpr (TL.numL_ne n)
    rw [rmpre_digits d]
    exact d_is_short_number_eq d (by rw [TL.len_tl, e]; omega) (by rw [TL.len_tl, e]; exact l)
  · have r := rmpre_neg e
    have l := TL.numL_len (k := 12) (n := n + 1) (by decide) (by omega)
    have l0 := List.length_pos_iff.mpr (TL.numL_ne (n + 1))
    exact d_is_short_number_eq (by rw [r]; exact TL.numL_digits _) (by rw [TL.len_tl, r]; omega) (by rw [TL.len_tl, r]; exact l)
theorem short_bot {i : Int} (h : Sh i) (h0 : 0 < i) : d_is_short_number [.d (.str (numT i))] = pure (dB true) := by
  have := short_top h
  rcases num_cases i with ⟨n, e1, e⟩ | ⟨n, e1, e⟩
  · rwa [rmpre_digits (by rw [e]; exact TL.numL_digits n)] at this
  · omega
theorem int_t {i : Int} (h : Sh i) : bIntT [.d (.str (numT i))] = pure (.d (.int i)) := by
  show (M.lift (intText? (numT i)) >>= _) = _
  have := (num_len h).2
  rw [int_back h, sp_lift_some, sp_pure_bnd, show decide ((numT i).length ≤ 640) = true from decide_eq_true (by omega), sp_when_true]
theorem len_sizeLine {x : Str} (h : x.length ≤ 3000) : decide (x.length ≤ sizeLine) = true := decide_eq_true (by rw [sizeLine_eq]; omega)
theorem slash_free (i : Int) : 47 ∉ TL.tl (numT i) := fun z => by
  have := num_signs i 47 z
  omega
theorem part_frac {a : Fq} (h : ShF a) : gPart (fracT a) (.d (.str slash)) = some (.d (.tuple [.str (numT a.p.1), .str (if a.p.2 = 1 then Str.empty else slash), .str (if a.p.2 = 1 then Str.empty else numT a.p.2)])) := by
  have l := frac_len h
  have c : (!(slash.length == 0) && decide ((fracT a).length ≤ sizeLine)) = true := by
    rw [len_sizeLine (by omega)]
    decide +kernel
  show (if _ then _ else _) = _
  rw [if_pos c]
  unfold fracT
  split
  · rw [TL.partition_none (s := 47) (S := []) tl_slash (slash_free _)]
  · rw [TL.partition_app (s := 47) (S := []) tl_slash (slash_free _)]
theorem tru_e : truD (.d (.str Str.empty)) = some false := by kernel_rfl
theorem tru_s : truD (.d (.str slash)) = some true := by kernel_rfl
theorem lay_of {x : Str} (h : ∀ c ∈ TL.tl x, c ≤ 122) : PyData.canLay0 (.str x) = true := by
  show x.cps.all (· < 0x110000) = true
  rw [← Array.all_toList, List.all_eq_true]
  intro c hc
  have := h c hc
  exact decide_eq_true (by omega)
theorem gEqT {x : Str} (h : ∀ c ∈ TL.tl x, c ≤ 122) : gEq (.d (.str x)) (.d (.str x)) = some (dB true) := eqw (lay_of h) (lay_of h) (decide_eq_true rfl)
theorem d_parse_fraction_eq {a : Fq} (h : ShF a) : d_parse_fraction [.d (.str (fracT a))] = pure (.d (fq a)) := by
  have p := part_frac h
  have st := short_top h.top
  have sb := short_bot h.bot a.pos
  have rm : gRmPre (numT a.p.1) (.d (.str minus)) = some (.d (.str (Txt.removeprefix (numT a.p.1) minus))) := by
    show (if _ then _ else _) = _
    rw [if_pos (len_sizeLine (by have := (num_len h.top).2; omega))]
  have ef : PyData.tuple [.int a.p.1, .int a.p.2] = fq a := rfl
  have f1 := d_is_fraction_eq a
  have f2 := d_format_fraction_eq h
  have tx : ∀ x : Str, asTx (.d (.str x)) = some x := fun _ => rfl
  by_cases e : a.p.2 = 1
  · rw [if_pos e, if_pos e] at p
    have ef1 : PyData.tuple [.int a.p.1, .int 1] = fq a := by rw [← e]; exact ef
    simp [d_parse_fraction, u_parse_fraction, tx, p, rm, st, tru_e, int_t h.top, ef1, f1, f2, gEqT fun c hc => Nat.le_trans (frac_signs a c hc).2 (by decide)]
  · rw [if_neg e, if_neg e] at p
    simp [d_parse_fraction, u_parse_fraction, tx, p, rm, st, sb, tru_s, int_t h.top, int_t h.bot, ef, f1, f2, gEqT fun c hc => Nat.le_trans (frac_signs a c hc).2 (by decide)]
end Dd
namespace Dd
open PySem PySem.Spec PyProof.Rows L2
def ShQ (q : Qy) : Prop := ∀ ns t, q = .above ns t → ShF t
theorem nm_len (n : Nm) : n.s.length ≤ 6 := n.len.2
theorem words_len {q : Qy} (h : ShQ q) : ∀ w ∈ wordsQ q, w.length ≤ 27 := fun w hw => by
  have nm : ∀ ns : List Nm, w ∈ (ns.map fun n => n.s) → w.length ≤ 27 := fun ns h => by
    obtain ⟨n, _, rfl⟩ := List.mem_map.mp h
    have := nm_len n
    omega
  have k1 : ("sort" : Str).length ≤ 27 := by decide +kernel
  have k2 : ("min" : Str).length ≤ 27 := by decide +kernel
  have k3 : ("max" : Str).length ≤ 27 := by decide +kernel
  have k4 : ("above" : Str).length ≤ 27 := by decide +kernel
  have k5 : ("compare" : Str).length ≤ 27 := by decide +kernel
  cases q with
  | sort ns =>
    rcases List.mem_cons.mp hw with rfl | hw
    · exact k1
    · exact nm ns hw
  | mn ns =>
    rcases List.mem_cons.mp hw with rfl | hw
    · exact k2
    · exact nm ns hw
  | mx ns =>
    rcases List.mem_cons.mp hw with rfl | hw
    · exact k3
    · exact nm ns hw
  | above ns t =>
    rcases List.mem_cons.mp hw with rfl | hw
    · exact k4
    · rcases List.mem_cons.mp hw with rfl | hw
      · exact (frac_len (h ns t rfl)).2
      · exact nm ns hw
  | cmp a b =>
    simp only [wordsQ, List.mem_cons, List.not_mem_nil, or_false] at hw
    rcases hw with rfl | rfl | rfl
    · exact k5
    · have := nm_len a; omega
    · have := nm_len b; omega
theorem sum_le {ys : List Str} {k : Nat} (h : ∀ y ∈ ys, y.length ≤ k) : (ys.map (·.length)).sum ≤ ys.length * k := by
  induction ys with
  | nil => simp
  | cons y ys ih =>
    have h1 := h y List.mem_cons_self
    have h2 := ih fun z hz => h z (List.mem_cons_of_mem _ hz)
    rw [List.map_cons, List.sum_cons, List.length_cons, Nat.add_mul]
    omega
theorem joinL_len (S : List Nat) : ∀ ps : List (List Nat), (TL.joinL S ps).length ≤ (ps.map (·.length)).sum + ps.length * S.length
  | [] => by simp [TL.joinL]
  | [p] => by
    show p.length ≤ _
    simp
  | p :: q :: r => by
    have h := joinL_len S (q :: r)
    show (p ++ (S ++ TL.joinL S (q :: r))).length ≤ _
    rw [List.length_append, List.length_append, List.map_cons, List.sum_cons, List.length_cons (a := p), Nat.add_mul]
    omega
theorem join_len (y : Str) (ys : List Str) : (Txt.join y ys).length ≤ (ys.map (·.length)).sum + ys.length * y.length := by
  have h := joinL_len (TL.tl y) (ys.map TL.tl)
  rw [TL.len_tl, TL.join_eq, TL.tl_join, TL.len_tl y]
  rw [List.map_map, List.length_map] at h
  have e : ys.map (fun x => x.length) = ys.map ((fun x => x.length) ∘ TL.tl) := List.map_congr_left fun x _ => TL.len_tl x
  rw [e]
  exact h
theorem words_count {q : Qy} (h : q.ns.length ≤ 24) : (wordsQ q).length ≤ 26 := by
  cases q with
  | sort ns => show (ns.map _).length + 1 ≤ 26; rw [List.length_map]; have : ns.length ≤ 24 := h; omega
  | mn ns => show (ns.map _).length + 1 ≤ 26; rw [List.length_map]; have : ns.length ≤ 24 := h; omega
  | mx ns => show (ns.map _).length + 1 ≤ 26; rw [List.length_map]; have : ns.length ≤ 24 := h; omega
  | above ns t => show (ns.map _).length + 1 + 1 ≤ 26; rw [List.length_map]; have : ns.length ≤ 24 := h; omega
  | cmp a b => show 3 ≤ 26; omega
theorem text_len {q : Qy} (h : ShQ q) (hl : q.ns.length ≤ 24) : (textQ q).length ≤ 800 := by
  have h1 := join_len blank (wordsQ q)
  have h2 := sum_le (words_len h)
  have h3 := words_count hl
  have h4 : blank.length = 1 := by decide +kernel
  rw [h4] at h1
  have h5 : (wordsQ q).length * 27 ≤ 26 * 27 := Nat.mul_le_mul_right _ h3
  show (Txt.join blank (wordsQ q)).length ≤ 800
  omega
theorem join_q {q : Qy} (h : ShQ q) (hl : q.ns.length ≤ 24) : gJoin blank (.d (.list ((wordsQ q).map PyData.str))) = some (.d (.str (textQ q))) := by
  have s : ∀ ys : List Str, strsD (ys.map PyData.str) = some ys := fun ys => by
    induction ys with
    | nil => rfl
    | cons y ys ih =>
      show (strsD (ys.map PyData.str)).map (y :: ·) = _
      rw [ih]
      rfl
  have h2 := sum_le (words_len h)
  have h3 := words_count hl
  have h4 : blank.length = 1 := by decide +kernel
  have h5 : (wordsQ q).length * 27 ≤ 26 * 27 := Nat.mul_le_mul_right _ h3
  show (strsD ((wordsQ q).map PyData.str)).bind _ = _
  rw [s, Option.bind_some, if_pos (decide_eq_true (by rw [h4]; omega))]
  rfl
theorem nS_map (ns : List Nm) : ns.map nS = (ns.map fun n => n.s).map PyData.str := by rw [List.map_map]; rfl
theorem d_format_query_eq {q : Qy} (h : ShQ q) (hl : q.ns.length ≤ 24) : d_format_query [.d (qD q)] = pure (.d (.str (textQ q))) := by
  have j := join_q h hl
  have n := d_names_of_eq q
  have tx : ∀ x : Str, asTx (.d (.str x)) = some x := fun _ => rfl
  have bl : ∀ ds : List PyData, bList [.d (.tuple ds)] = pure (.d (.list ds)) := fun ds => rfl
  cases q with
  | sort ns =>
    have sz : szOk (1 + ns.length) = true := decide_eq_true (by have : ns.length ≤ 24 := hl; omega)
    rw [show (wordsQ (.sort ns)).map PyData.str = .str "sort" :: ns.map nS from by rw [nS_map]; rfl] at j
    simp [d_format_query, u_format_query, n, qD, bl, tx, frzS, Qy.ns, gAdd, sz] at *
    simp [n, bl, sz, j]
  | mn ns =>
    have sz : szOk (1 + ns.length) = true := decide_eq_true (by have : ns.length ≤ 24 := hl; omega)
    rw [show (wordsQ (.mn ns)).map PyData.str = .str "min" :: ns.map nS from by rw [nS_map]; rfl] at j
    simp [d_format_query, u_format_query, n, qD, bl, tx, frzS, Qy.ns, gAdd, sz] at *
    simp [n, bl, sz, j]
  | mx ns =>
    have sz : szOk (1 + ns.length) = true := decide_eq_true (by have : ns.length ≤ 24 := hl; omega)
    rw [show (wordsQ (.mx ns)).map PyData.str = .str "max" :: ns.map nS from by rw [nS_map]; rfl] at j
    simp [d_format_query, u_format_query, n, qD, bl, tx, frzS, Qy.ns, gAdd, sz] at *
    simp [n, bl, sz, j]
  | above ns t =>
    have sz : szOk (2 + ns.length) = true := decide_eq_true (by have : ns.length ≤ 24 := hl; omega)
    have sz0 : szOk 2 = true := rfl
    have ff := d_format_fraction_eq (h ns t rfl)
    rw [show (wordsQ (.above ns t)).map PyData.str = .str "above" :: .str (fracT t) :: ns.map nS from by rw [nS_map]; rfl] at j
    simp [d_format_query, u_format_query, n, qD, bl, tx, frzS, Qy.ns, gAdd, sz, ff, sz0] at *
    simp [n, bl, sz, j]
  | cmp a b =>
    have e1 : bList [.d (.tuple [nS a, nS b])] = pure (.d (.list [.str a.s, .str b.s])) := rfl
    have e2 : gAdd (.d (.list [.str "compare"])) (.d (.list [.str a.s, .str b.s])) = some (.d (.list [.str "compare", .str a.s, .str b.s])) := rfl
    rw [show (wordsQ (.cmp a b)).map PyData.str = [.str "compare", .str a.s, .str b.s] from rfl] at j
    simp [qD, Qy.ns] at n
    simp [d_format_query, u_format_query, n, qD, tx, frzS, e1, e2, j]
end Dd
namespace Dd
open PySem PySem.Spec PyProof.Rows L2
theorem d_are_text_names_eq {ns : List Nm} (ne : ns ≠ []) (nd : ns.Nodup) (hl : ns.length ≤ 24) : d_are_text_names [.d (.tuple (ns.map nS))] = pure (dB true) := by
  haveI : Ln 24 ns := ⟨hl⟩
  have z : (0 : Int) < (ns.length : Int) := by have := List.length_pos_iff.mpr ne; omega
  have z2 : 0 < ns.length := List.length_pos_iff.mpr ne
  simp [d_are_text_names, u_are_text_names, z, z2, lcM_map, lenSet_n nd hl, ne, d_is_name_eq]
theorem split_q {q : Qy} (h : ShQ q) (hl : q.ns.length ≤ 24) : gSplit (textQ q) (.d (.str blank)) = some (.d (.list ((wordsQ q).map PyData.str))) := by
  have l := text_len h hl
  have c : (!(blank.length == 0) && decide ((textQ q).length + 2 ≤ sizeLine)) = true := by
    rw [show decide ((textQ q).length + 2 ≤ sizeLine) = true from decide_eq_true (by rw [sizeLine_eq]; omega)]
    decide +kernel
  show (if _ then _ else _) = _
  rw [if_pos c, words_back]
theorem sl_one (x : PyData) (l : List PyData) : gSl (.d (.list (x :: l))) (some 1) none = some (.d (.list l)) := by
  show some (SD.d (.list (cutD (x :: l) (some ((1 : Nat) : Int)) none))) = _
  rw [cut_from]
  rfl
theorem sl_two (x y : PyData) (l : List PyData) : gSl (.d (.list (x :: y :: l))) (some 2) none = some (.d (.list l)) := by
  show some (SD.d (.list (cutD (x :: y :: l) (some ((2 : Nat) : Int)) none))) = _
  rw [cut_from]
  rfl
theorem d_parse_query_eq {q : Qy} (h : ShQ q) (ne : q.ns ≠ []) (nd : q.ns.Nodup) (hl : q.ns.length ≤ 24) : d_parse_query [.d (.str (textQ q))] = pure (.d (qD q)) := by
  have s := split_q h hl
  have tn := d_are_text_names_eq ne nd hl
  have tx : ∀ x : Str, asTx (.d (.str x)) = some x := fun _ => rfl
  have bt : ∀ ds : List PyData, bTuple [.d (.list ds)] = pure (.d (.tuple ds)) := fun ds => rfl
  have gi : ∀ w : Str, w ∈ (["sort", "min", "max"] : List Str) → gIn (.d (.str w)) (.d (.tuple [.str "sort", .str "min", .str "max"])) = some (dB true) := fun w hw => by
    simp only [List.mem_cons, List.not_mem_nil, or_false] at hw
    rcases hw with rfl | rfl | rfl <;> kernel_rfl
  have g3 : ∀ (w : Str) (a b : PyData), gTup [.d (.str w), .d a, .d b] = some (.d (.tuple [.str w, a, b])) := fun _ _ _ => rfl
  cases q with
  | sort ns =>
    rw [show (wordsQ (.sort ns)).map PyData.str = .str "sort" :: ns.map nS from by rw [nS_map]; rfl] at s
    generalize textQ (.sort ns) = x at *
    simp [Qy.ns] at tn
    have gj := gi "sort" (by simp)
    simp [d_parse_query, u_parse_query, tx, s, bt, sl_one, tn, qD, gj]
  | mn ns =>
    rw [show (wordsQ (.mn ns)).map PyData.str = .str "min" :: ns.map nS from by rw [nS_map]; rfl] at s
    generalize textQ (.mn ns) = x at *
    simp [Qy.ns] at tn
    have gj := gi "min" (by simp)
    simp [d_parse_query, u_parse_query, tx, s, bt, sl_one, tn, qD, gj]
  | mx ns =>
    rw [show (wordsQ (.mx ns)).map PyData.str = .str "max" :: ns.map nS from by rw [nS_map]; rfl] at s
    generalize textQ (.mx ns) = x at *
    simp [Qy.ns] at tn
    have gj := gi "max" (by simp)
    simp [d_parse_query, u_parse_query, tx, s, bt, sl_one, tn, qD, gj]
  | above ns t =>
    have pf := d_parse_fraction_eq (h ns t rfl)
    rw [show (wordsQ (.above ns t)).map PyData.str = .str "above" :: .str (fracT t) :: ns.map nS from by rw [nS_map]; rfl] at s
    generalize textQ (.above ns t) = x at *
    simp [Qy.ns] at tn
    have c : (1 : Int) < (ns.length : Int) + 1 + 1 := by omega
    have gn : gIsB (.d (fq t)) (.d .none) = some (dB false) := rfl
    simp [d_parse_query, u_parse_query, tx, s, bt, sl_two, tn, qD, pf, c, gn, g3]
  | cmp a b =>
    rw [show (wordsQ (.cmp a b)).map PyData.str = [.str "compare", nS a, nS b] from rfl] at s
    generalize textQ (.cmp a b) = x at *
    simp [Qy.ns] at tn
    have sq : seqD (.d (.tuple [nS a, nS b])) = some [nS a, nS b] := rfl
    have g4 : gTup [.d (.str "compare"), .d (nS a), .d (nS b)] = some (.d (.tuple [.str "compare", .str a.s, .str b.s])) := rfl
    simp [d_parse_query, u_parse_query, tx, s, bt, sl_one, tn, qD, sq, g4]
end Dd
namespace Dd
open PySem PySem.Spec PyProof.Rows L2
structure Tq (q : Qy) : Prop where
  sh : ShQ q
  ne : q.ns ≠ []
  nd : q.ns.Nodup
  len : q.ns.length ≤ 24
theorem strsD_str : ∀ ys : List Str, strsD (ys.map PyData.str) = some ys
  | [] => rfl
  | y :: ys => by
    show (strsD (ys.map PyData.str)).map (y :: ·) = _
    rw [strsD_str ys]
    rfl
theorem texts_len {qs : List Qy} (h : ∀ q ∈ qs, Tq q) : ((qs.map textQ).map (·.length)).sum ≤ qs.length * 800 := by
  have := sum_le (ys := qs.map textQ) (k := 800) fun y hy => by
    obtain ⟨q, hq, rfl⟩ := List.mem_map.mp hy
    exact text_len (h q hq).sh (h q hq).len
  rwa [List.length_map] at this
theorem mem_joinL {S : List Nat} {c : Nat} : ∀ {ps : List (List Nat)}, c ∈ TL.joinL S ps → c ∈ S ∨ ∃ p ∈ ps, c ∈ p
  | [], h => by simp [TL.joinL] at h
  | [p], h => .inr ⟨p, List.mem_cons_self, h⟩
  | p :: q :: r, h => by
    rcases List.mem_append.mp (show c ∈ p ++ (S ++ TL.joinL S (q :: r)) from h) with h | h
    · exact .inr ⟨p, List.mem_cons_self, h⟩
    · rcases List.mem_append.mp h with h | h
      · exact .inl h
      · rcases mem_joinL h with h | ⟨x, hx, h⟩
        · exact .inl h
        · exact .inr ⟨x, List.mem_cons_of_mem _ hx, h⟩
theorem joinL_ne {S p : List Nat} (h : p ≠ []) (r : List (List Nat)) : TL.joinL S (p :: r) ≠ [] := by
  cases r with
  | nil => exact h
  | cons q r =>
    show p ++ _ ≠ []
    exact fun z => h (List.append_eq_nil_iff.mp z).1
theorem text_signs (q : Qy) : ∀ c ∈ TL.tl (textQ q), c ≤ 122 := fun c hc => by
  unfold textQ at hc
  rw [TL.join_eq, TL.tl_join, tl_blank] at hc
  rcases mem_joinL hc with h | ⟨p, hp, h⟩
  · simp at h; omega
  · obtain ⟨w, hw, rfl⟩ := List.mem_map.mp hp
    exact (word_signs q w hw c h).2.1
theorem texts_signs (qs : List Qy) : ∀ c ∈ TL.tl (Txt.join semi (qs.map textQ)), c ≤ 122 := fun c hc => by
  rw [TL.join_eq, TL.tl_join, tl_semi] at hc
  rcases mem_joinL hc with h | ⟨p, hp, h⟩
  · simp at h; omega
  · obtain ⟨w, hw, rfl⟩ := List.mem_map.mp hp
    obtain ⟨q, _, rfl⟩ := List.mem_map.mp hw
    exact text_signs q c h
theorem text_ne (q : Qy) : TL.tl (textQ q) ≠ [] := by
  unfold textQ
  rw [TL.join_eq, TL.tl_join]
  cases q with
  | sort ns => exact joinL_ne (by decide +kernel) _
  | mn ns => exact joinL_ne (by decide +kernel) _
  | mx ns => exact joinL_ne (by decide +kernel) _
  | above ns t => exact joinL_ne (by decide +kernel) _
  | cmp a b => exact joinL_ne (by decide +kernel) _
theorem texts_ne {qs : List Qy} (h : qs ≠ []) : Txt.join semi (qs.map textQ) ≠ ("" : Str) := fun z => by
  have e : TL.tl (Txt.join semi (qs.map textQ)) = [] := by rw [z]; decide +kernel
  rw [TL.join_eq, TL.tl_join] at e
  cases qs with
  | nil => exact h rfl
  | cons q r => exact joinL_ne (text_ne q) _ e
theorem parse_run {qs : List Qy} (h : ∀ q ∈ qs, Tq q) (ne : qs ≠ []) (hl : qs.length ≤ 8) {β : Type} {f : SD → M β} {P : β → Prop} {E : Exn → Prop} (k : (f (.d (.list (qs.map qD)))).run P E) : (d_parse_queries [.d (.str (Txt.join semi (qs.map textQ)))] >>= f).run P E := by
  suffices key : (d_parse_queries [.d (.str (Txt.join semi (qs.map textQ)))]).run (fun y => y = .d (.list (qs.map qD))) E from bnd_run key fun o q => by
    subst q
    exact k
  have g1 : gEq (.d (.str (Txt.join semi (qs.map textQ)))) (.d (.str "")) = some (dB false) := eqw (lay_of (texts_signs qs)) (by decide +kernel) (decide_eq_false (texts_ne ne))
  have len := join_len semi (qs.map textQ)
  have h4 : semi.length = 2 := by decide +kernel
  have h5 := texts_len h
  rw [h4, List.length_map] at len
  have c : (!(semi.length == 0) && decide ((Txt.join semi (qs.map textQ)).length + 2 ≤ sizeLine)) = true := by
    rw [show decide ((Txt.join semi (qs.map textQ)).length + 2 ≤ sizeLine) = true from decide_eq_true (by rw [sizeLine_eq]; omega)]
    decide +kernel
  have g2 : gSplit (Txt.join semi (qs.map textQ)) (.d (.str semi)) = some (.d (.list ((qs.map textQ).map PyData.str))) := by
    show (if _ then _ else _) = _
    rw [if_pos c, qtexts_back ne]
  have tx : ∀ x : Str, asTx (.d (.str x)) = some x := fun _ => rfl
  have en : enumS (.d (.list ((qs.map textQ).map PyData.str))) = some (qs.zipIdx.map fun p => .d (.tuple [.int (p.2 : Int), .str (textQ p.1)])) := by
    have e := enum_map (fun q => PyData.str (textQ q)) qs
    rw [List.map_map]
    exact e
  generalize Txt.join semi (qs.map textQ) = x at *
  refine def_run ?_
  simp [u_parse_queries, g1, tx, -List.map_map]
  rw [g2, sp_lift_some, sp_pure_bnd, en, sp_lift_some, sp_pure_bnd]
  refine seq_runX ?_
  refine for_runX (fun p : Qy × Nat => SD.d (.tuple [.int (p.2 : Int), .str (textQ p.1)])) (fun done ρ => ∃ a b c, ρ = [.d (.str x), .own (done.map fun p => qD p.1), a, b, c]) qs.zipIdx ⟨.no, .no, .no, rfl⟩ (fun ρ hi => ?_) fun done p rest ρ ed hi => ?_
  · obtain ⟨a, b, c, rfl⟩ := hi
    simp [frzS]
    have z := congrArg (List.map qD) (List.zipIdx_map_fst 0 qs)
    rw [List.map_map] at z
    show SD.d (.list (qs.zipIdx.map (qD ∘ Prod.fst))) = _
    rw [z]
  · obtain ⟨a, b, c, rfl⟩ := hi
    have hp : p ∈ qs.zipIdx := by rw [← ed]; simp
    obtain ⟨q, i⟩ := p
    have hq : q ∈ qs := (List.mem_zipIdx hp).2.2 ▸ List.getElem_mem _
    have pq := d_parse_query_eq (h q hq).sh (h q hq).ne (h q hq).nd (h q hq).len
    have hi : i < qs.length := by have := (List.mem_zipIdx hp).2.1; omega
    have ld : done.length < qs.length := by
      have := congrArg List.length ed
      rw [List.length_zipIdx] at this
      simp at this
      omega
    have sz : szOk (done.length + 1) = true := decide_eq_true (by omega)
    have gi : gIsB (.d (qD q)) (.d .none) = some (dB false) := by cases q <;> rfl
    have g8 : ¬ (8 : Int) ≤ (i : Int) := by omega
    simp [pq, gi, g8, sz]
    exact ⟨_, _, _, rfl⟩
end Dd
namespace Dd
open PySem PySem.Spec PyProof.Rows L2
def lastD {α : Type} (f : α → SD) (done : List α) : SD := match done.getLast? with
  | none => .no
  | some x => f x
@[simp] theorem lastD_nil {α : Type} (f : α → SD) : lastD f [] = .no := rfl
@[simp] theorem lastD_snoc {α : Type} (f : α → SD) (done : List α) (x : α) : lastD f (done ++ [x]) = f x := by
  unfold lastD
  rw [List.getLast?_concat]
def prsTo {α : Type} (xs : List α) (k : Nat) : List (α × α) := (List.range k).flatMap fun i => match xs[i]? with
  | some x => (xs.drop (i + 1)).map fun y => (x, y)
  | none => []
def at' (rs : List Row) (n : Nm) : Fq × Fq := ((rowAt rs n).lo, (rowAt rs n).hi)
def neverAbove (x y : Fq × Fq) : Bool := !decide (R y.1 < R x.2)
def extr (rs : List Row) (ns : List Nm) (mx : Bool) (n : Nm) : Bool := (ns.filter fun o => !decide (o = n)).all fun o => if mx then neverAbove (at' rs o) (at' rs n) else neverAbove (at' rs n) (at' rs o)
def wMM (mx : Bool) : Str := if mx then "max" else "min"
@[simp] theorem wn_1 : gNe (.d (.str "max")) (.d (.str "max")) = some (dB false) := by
  have h : PyData.eqv (.str "max") (.str "max") = true := by decide +kernel
  show (if (SeqAt.shaped (.str "max") && SeqAt.shaped (.str "max")) = true then some (dB (!PyData.eqv (.str "max") (.str "max"))) else none) = _
  rw [h, if_pos (by decide +kernel)]
  rfl
@[simp] theorem wn_2 : gNe (.d (.str "min")) (.d (.str "max")) = some (dB true) := by
  have h : PyData.eqv (.str "min") (.str "max") = false := by decide +kernel
  show (if (SeqAt.shaped (.str "min") && SeqAt.shaped (.str "max")) = true then some (dB (!PyData.eqv (.str "min") (.str "max"))) else none) = _
  rw [h, if_pos (by decide +kernel)]
  rfl
end Dd
namespace Dd
open PySem PySem.Spec PyProof.Rows L2
def lawCert (rs : List Row) (q : Qy) : Bool := match q with
  | .above ns t => !ns.any fun n => decide (R (at' rs n).1 < R t) && decide (R t < R (at' rs n).2)
  | .mn ns => !((srt nS ns).filter (extr rs ns false)).isEmpty
  | .mx ns => !((srt nS ns).filter (extr rs ns true)).isEmpty
  | q => (prs q.ns).all fun p => !decide (R (at' rs p.2).1 < R (at' rs p.1).2) || !decide (R (at' rs p.1).1 < R (at' rs p.2).2)
theorem same_refl : ∀ (n : Nat) (d : PyData), Dw.fits n d → Dw.sameD n d d = true := by
  intro n
  induction n with
  | zero =>
    intro d h
    obtain ⟨h1, h2, h3⟩ := h
    cases d with
    | list => cases h1
    | tuple => cases h2
    | dict => cases h3
    | _ => simp [Dw.sameD, Dw.sameS]
  | succ n ih =>
    have all : ∀ ds : List PyData, (∀ x ∈ ds, Dw.fits n x) → (List.zipWith (Dw.sameD n) ds ds).all id = true := by
      intro ds
      induction ds with
      | nil => intro _; rfl
      | cons x r ihr =>
        intro h
        rw [List.zipWith_cons_cons, List.all_cons, ih x (h x List.mem_cons_self), ihr fun y hy => h y (List.mem_cons_of_mem _ hy)]
        rfl
    intro d h
    cases d with
    | list ds => obtain ⟨_, h2⟩ := h; simp only [Dw.sameD, decide_true, Bool.true_and]; exact all ds h2
    | tuple ds => obtain ⟨_, h2⟩ := h; simp only [Dw.sameD, decide_true, Bool.true_and]; exact all ds h2
    | dict ds => cases (show true = false from h)
    | _ => simp [Dw.sameD, Dw.sameS]
theorem same_eq {n : Nat} {y : PyData} (h : Dw.fits n y) (c : y.canLay0 = true) : sameM n [.d y, .d y] = pure (dB true) := by
  show (M.need _ >>= _) = _
  rw [need_of ⟨h, c, c⟩, same_refl n y h]
  rfl
@[simp] theorem same_b (b : Bool) : sameM 3 [.d (.bool b), .d (.bool b)] = pure (dB true) := same_eq rfl rfl
end Dd
namespace Dd
open PySem PySem.Spec PyProof.Rows L2
theorem eqvAll_map {α : Type} [DecidableEq α] {enc : α → PyData} (h : ∀ a b, PyData.eqv (enc a) (enc b) = decide (a = b)) : ∀ xs ys : List α, PyData.eqvAll (xs.map enc) (ys.map enc) = decide (xs = ys)
  | [], [] => rfl
  | [], _ :: _ => by simp [PyData.eqvAll]
  | _ :: _, [] => by simp [PyData.eqvAll]
  | x :: xs, y :: ys => by
    rw [List.map_cons, List.map_cons, PyData.eqvAll, h, eqvAll_map h xs ys, Bool.eq_iff_iff]
    simp
theorem eqL {α : Type} [DecidableEq α] {enc : α → PyData} {d : Nat} (h : ∀ a b, PyData.eqv (enc a) (enc b) = decide (a = b)) (ly : ∀ x, (enc x).canLay0 = true ∧ (enc x).depth ≤ d) (hd : d ≤ 60) (xs ys : List α) : gEq (.d (.list (xs.map enc))) (.d (.list (ys.map enc))) = some (dB (decide (xs = ys))) := by
  show (if (SeqAt.shaped (.list (xs.map enc)) && SeqAt.shaped (.list (ys.map enc))) = true then some (dB (PyData.eqv (.list (xs.map enc)) (.list (ys.map enc)))) else none) = _
  rw [(shaped_map ly hd xs).1, (shaped_map ly hd ys).1, PyData.eqv, eqvAll_map h]
  rfl
theorem neL {α : Type} [DecidableEq α] {enc : α → PyData} {d : Nat} (h : ∀ a b, PyData.eqv (enc a) (enc b) = decide (a = b)) (ly : ∀ x, (enc x).canLay0 = true ∧ (enc x).depth ≤ d) (hd : d ≤ 60) (xs ys : List α) : gNe (.d (.list (xs.map enc))) (.d (.list (ys.map enc))) = some (dB (!decide (xs = ys))) := by
  show (if (SeqAt.shaped (.list (xs.map enc)) && SeqAt.shaped (.list (ys.map enc))) = true then some (dB (!PyData.eqv (.list (xs.map enc)) (.list (ys.map enc)))) else none) = _
  rw [(shaped_map ly hd xs).1, (shaped_map ly hd ys).1, PyData.eqv, eqvAll_map h]
  rfl
theorem eqv_r (a b : Row) : PyData.eqv (rw' a) (rw' b) = decide (a = b) := by
  have e : PyData.eqv (rw' a) (rw' b) = (PyData.eqv (nS a.nm) (nS b.nm) && (PyData.eqv (fq a.lo) (fq b.lo) && (PyData.eqv (fq a.hi) (fq b.hi) && true))) := rfl
  rw [e, eqv_n, eqv_q, eqv_q, Bool.eq_iff_iff]
  simp only [Bool.and_true, Bool.and_eq_true, decide_eq_true_eq]
  exact ⟨fun h => Row.ext h.1 h.2.1 h.2.2, fun h => h ▸ ⟨rfl, rfl, rfl⟩⟩
@[simp] theorem eqRows (xs ys : List Row) : gEq (.d (.list (xs.map rw'))) (.d (.list (ys.map rw'))) = some (dB (decide (xs = ys))) := eqL eqv_r lay_r (by decide) xs ys
@[simp] theorem neRows (xs ys : List Row) : gNe (.d (.list (xs.map rw'))) (.d (.list (ys.map rw'))) = some (dB (!decide (xs = ys))) := neL eqv_r lay_r (by decide) xs ys
@[simp] theorem eqNms (xs ys : List Nm) : gEq (.d (.list (xs.map nS))) (.d (.list (ys.map nS))) = some (dB (decide (xs = ys))) := eqL eqv_n lay_n (by decide) xs ys
@[simp] theorem neNms (xs ys : List Nm) : gNe (.d (.list (xs.map nS))) (.d (.list (ys.map nS))) = some (dB (!decide (xs = ys))) := neL eqv_n lay_n (by decide) xs ys
@[simp] theorem sp_list_l (ds : List PyData) : bList [.d (.list ds)] = pure (.d (.list ds)) := rfl
@[simp] theorem sp_list_t (ds : List PyData) : bList [.d (.tuple ds)] = pure (.d (.list ds)) := rfl
end Dd
namespace Dd
open PySem PySem.Spec PyProof.Rows L2
theorem thr_bnd {α β : Type} {m : M α} {f : α → M β} {P : β → Prop} {E : Exn → Prop} (h : m.run (fun _ => False) E) : (m >>= f).run P E := m.mono (fun _ z => z.elim) (fun _ z => z) h
theorem thr_seq {m : M Out} {f : List SD → M Out} {P : Out → Prop} {E : Exn → Prop} (h : m.run (fun _ => False) E) : (seqM m f).run P E := m.mono (fun _ z => z.elim) (fun _ z => z) h
def exQ (i : Int) : Exn := ⟨"InvalidQuery", fldD ⟨"query", some "index", true⟩ (.int i)⟩
def exF : Exn := ⟨"InvalidFraction", [("code", .str "fraction")]⟩
def Thr (m : M SD) (e : Exn) : Prop := m.run (fun _ => False) (fun x => x = e)
@[simp] theorem callM2o (f : List SD → M SD) (x : PyData) (ds : List PyData) : callM 2 f [.d x, .own ds] = guardM (f [.d x, .d (.list ds)]) := rfl
end Dd
namespace Dd
open PySem PySem.Spec PyProof.Rows L2
def SepFree (p : List Nat) : Prop := (∀ rest, ∀ i, i < p.length → TL.pre [59, 32] ((p ++ ([59, 32] ++ rest)).drop i) = false) ∧ ∀ i, i < p.length → TL.pre [59, 32] (p.drop i) = false
theorem sep_no {p : List Nat} (h : 59 ∉ p) : SepFree p := ⟨fun rest => TL.free_of h, fun i hi => by
  have z := TL.free_of (S := [32]) (q := []) h i hi
  rwa [List.append_nil] at z⟩
theorem sep_end {p : List Nat} (h : 59 ∉ p) : SepFree (p ++ [59]) := by
  refine ⟨fun rest i hi => ?_, fun i hi => ?_⟩
  · rw [List.append_assoc]
    by_cases c : i < p.length
    · exact TL.free_of h i c
    · have e : i = p.length := by simp at hi; omega
      subst e
      rw [List.drop_left]
      rfl
  · by_cases c : i < p.length
    · exact TL.free_of h i c
    · have e : i = p.length := by simp at hi; omega
      subst e
      rw [List.drop_left]
      rfl
theorem spl_parts : ∀ {parts : List (List Nat)}, parts ≠ [] → (∀ p ∈ parts, SepFree p) → TL.spl [59, 32] 0 [] (TL.joinL [59, 32] parts) = parts
  | [], h, _ => absurd rfl h
  | [p], _, hp => by
    show TL.spl [59, 32] 0 [] p = [p]
    rw [TL.spl_last (hp p (List.mem_singleton.mpr rfl)).2, List.nil_append]
  | p :: q :: r, _, hp => by
    show TL.spl [59, 32] 0 [] (p ++ ([59, 32] ++ TL.joinL [59, 32] (q :: r))) = p :: q :: r
    rw [TL.spl_part (by simp) ((hp p List.mem_cons_self).1 _), List.nil_append, spl_parts (by simp) fun z hz => hp z (List.mem_cons_of_mem _ hz)]
structure Pt (w : Str) : Prop where
  free : SepFree (TL.tl w)
  sg : ∀ c ∈ TL.tl w, c ≤ 122
  len : w.length ≤ 800
theorem parts_back {ws : List Str} (ne : ws ≠ []) (h : ∀ w ∈ ws, Pt w) : Txt.split (Txt.join semi ws) semi = ws := by
  refine TL.map_tl_inj ?_
  rw [TL.split_spl _ semi (by rw [tl_semi]; simp) (TL.kind_ok (by decide +kernel)), TL.join_eq, TL.tl_join, tl_semi]
  refine spl_parts (fun e => ne (List.map_eq_nil_iff.mp e)) fun p hp => ?_
  obtain ⟨w, hw, rfl⟩ := List.mem_map.mp hp
  exact (h w hw).free
theorem pt_q {q : Qy} (h : Tq q) : Pt (textQ q) := ⟨sep_no (text_no q), text_signs q, text_len h.sh h.len⟩
theorem parts_len {ws : List Str} (h : ∀ w ∈ ws, Pt w) : (ws.map (·.length)).sum ≤ ws.length * 800 := sum_le fun w hw => (h w hw).len
theorem parts_signs {ws : List Str} (h : ∀ w ∈ ws, Pt w) : ∀ c ∈ TL.tl (Txt.join semi ws), c ≤ 122 := fun c hc => by
  rw [TL.join_eq, TL.tl_join, tl_semi] at hc
  rcases mem_joinL hc with h1 | ⟨p, hp, h1⟩
  · simp at h1; omega
  · obtain ⟨w, hw, rfl⟩ := List.mem_map.mp hp
    exact (h w hw).sg c h1
theorem join_parts {ws : List Str} (h : ∀ w ∈ ws, Pt w) (hl : ws.length ≤ 20) : gJoin semi (.d (.list (ws.map PyData.str))) = some (.d (.str (Txt.join semi ws))) := by
  have h1 := parts_len h
  have h4 : semi.length = 2 := by decide +kernel
  show (strsD (ws.map PyData.str)).bind _ = _
  rw [strsD_str, Option.bind_some, if_pos (decide_eq_true (by rw [h4]; omega))]
theorem parts_ne : ∀ {ws : List Str}, ws ≠ [] → ws ≠ [("" : Str)] → Txt.join semi ws ≠ ("" : Str)
  | [], h, _ => absurd rfl h
  | [w], _, h => fun z => h (by
    have e : Txt.join semi [w] = w := by rw [TL.join_eq]; rfl
    rw [e] at z; rw [z])
  | w :: v :: r, _, _ => fun z => by
    have e : TL.tl (Txt.join semi (w :: v :: r)) = [] := by rw [z]; decide +kernel
    rw [TL.join_eq, TL.tl_join, tl_semi] at e
    have e : TL.tl w ++ ([59, 32] ++ TL.joinL [59, 32] (TL.tl v :: r.map TL.tl)) = [] := e
    have := congrArg List.length e
    simp at this
def exT (i : Int) : Exn := ⟨"InvalidText", fldD ⟨"text", some "index", true⟩ (.int i)⟩
theorem arg_txt {i : Int} (h0 : 0 ≤ i) (h1 : i ≤ 100) : argD ⟨"text", some "index", true⟩ (.d (.int i)) = some (.int i) := by
  have : i.natAbs.log2 < 1600 := Nat.lt_of_le_of_lt (Nat.log2_le_self _) (by omega)
  simp [argD, this]
theorem parse_thr {pre post : List Str} {x : Str} {o : PyData} (hp : ∀ w ∈ pre, Pt w ∧ ∃ d : PyData, d_parse_query [.d (.str w)] = pure (.d d) ∧ gIsB (.d d) (.d .none) = some (dB false)) (hx : Pt x) (ho : d_parse_query [.d (.str x)] = pure (.d o)) (hn : o = .none ∨ (pre.length = 8 ∧ gIsB (.d o) (.d .none) = some (dB false))) (h8 : pre.length ≤ 8)
    (hq : ∀ w ∈ post, Pt w) (ne : pre ++ x :: post ≠ [("" : Str)]) (hl : (pre ++ x :: post).length ≤ 20) : Thr (d_parse_queries [.d (.str (Txt.join semi (pre ++ x :: post)))]) (exT (pre.length : Int)) := by
  have pt : ∀ w ∈ pre ++ x :: post, Pt w := fun w hw => by
    rcases List.mem_append.mp hw with h | h
    · exact (hp w h).1
    · rcases List.mem_cons.mp h with rfl | h
      · exact hx
      · exact hq w h
  have nn : pre ++ x :: post ≠ [] := by simp
  have g1 : gEq (.d (.str (Txt.join semi (pre ++ x :: post)))) (.d (.str "")) = some (dB false) := eqw (lay_of (parts_signs pt)) (by decide +kernel) (decide_eq_false (parts_ne nn ne))
  have len := join_len semi (pre ++ x :: post)
  have h4 : semi.length = 2 := by decide +kernel
  have h5 := parts_len pt
  rw [h4] at len
  have c : (!(semi.length == 0) && decide ((Txt.join semi (pre ++ x :: post)).length + 2 ≤ sizeLine)) = true := by
    rw [show decide ((Txt.join semi (pre ++ x :: post)).length + 2 ≤ sizeLine) = true from decide_eq_true (by rw [sizeLine_eq]; omega)]
    decide +kernel
  have g2 : gSplit (Txt.join semi (pre ++ x :: post)) (.d (.str semi)) = some (.d (.list ((pre ++ x :: post).map PyData.str))) := by
    show (if _ then _ else _) = _
    rw [if_pos c, parts_back nn pt]
  have tx : ∀ x : Str, asTx (.d (.str x)) = some x := fun _ => rfl
  have en : enumS (.d (.list ((pre ++ x :: post).map PyData.str))) = some ((pre ++ x :: post).zipIdx.map fun p => .d (.tuple [.int (p.2 : Int), .str p.1])) := enum_map PyData.str _
  have z : (pre ++ x :: post).zipIdx = pre.zipIdx ++ (x, pre.length) :: post.zipIdx (pre.length + 1) := by
    rw [List.zipIdx_append, List.zipIdx_cons]
    simp
  generalize Txt.join semi (pre ++ x :: post) = t at *
  refine def_run ?_
  simp [u_parse_queries, g1, tx, -List.map_map, -List.map_append, -List.map_cons]
  rw [g2, sp_lift_some, sp_pure_bnd, en, sp_lift_some, sp_pure_bnd]
  refine thr_seq ?_
  refine for_runX (fun p : Str × Nat => SD.d (.tuple [.int (p.2 : Int), .str p.1])) (fun done ρ => done.length ≤ pre.length ∧ ∃ ds a b c, ds.length = done.length ∧ ρ = [.d (.str t), .own ds, a, b, c]) (pre ++ x :: post).zipIdx ⟨by simp, [], .no, .no, .no, rfl, rfl⟩ (fun ρ hi => ?_) fun done p rest ρ ed hi => ?_
  · have := hi.1
    simp at this
    omega
  · obtain ⟨dl, ds, a, b, c, el, rfl⟩ := hi
    obtain ⟨w, i⟩ := p
    have hw : (pre ++ x :: post).zipIdx[done.length]? = some (w, i) := by rw [← ed]; simp
    rw [List.getElem?_zipIdx, Nat.zero_add] at hw
    by_cases lt : done.length < pre.length
    · rw [List.getElem?_append_left lt, List.getElem?_eq_getElem lt] at hw
      cases hw
      obtain ⟨_, d, pd, nd⟩ := hp _ (List.getElem_mem lt)
      have g8 : ¬ (8 : Int) ≤ (done.length : Int) := by omega
      have sz : szOk (ds.length + 1) = true := decide_eq_true (by omega)
      simp [pd, nd, g8, sz]
      exact ⟨by omega, _, by simp; omega, _, _, _, rfl⟩
    · have e : done.length = pre.length := by omega
      rw [e, List.getElem?_append_right (Nat.le_refl _), Nat.sub_self] at hw
      cases hw
      rcases hn with rfl | ⟨e8, nd⟩
      · have gn : gIsB (.d .none) (.d .none) = some (dB true) := rfl
        simp [ho, gn, arg_txt (show (0 : Int) ≤ (pre.length : Int) by omega) (by omega)]
        exact rfl
      · have g8 : (8 : Int) ≤ (pre.length : Int) := by omega
        simp [ho, nd, g8, arg_txt (show (0 : Int) ≤ (pre.length : Int) by omega) (by omega)]
        exact rfl
theorem index_run {x : Str} {i : Int} (t : Thr (d_parse_queries [.d (.str x)]) (exT i)) {β : Type} {F : SD → M β} {P : β → Prop} {E : Exn → Prop} (h : (F (.d (.int i))).run P E) : (d__law_index [.d (.str x)] >>= F).run P E := by
  suffices key : (d__law_index [.d (.str x)]).run (fun y => y = .d (.int i)) E from bnd_run key fun o q => by
    subst q
    exact h
  refine def_run ?_
  simp [u__law_index]
  refine seq_runX ⟨show 2 < 3 by decide, thr_bnd (M.mono _ (fun _ z => z.elim) (fun e z => ?_) t)⟩
  subst z
  refine ⟨show ("InvalidText" : Str) ∈ errsL by decide +kernel, ?_⟩
  unfold handle
  split
  · exact ⟨.int i, rfl, rfl⟩
  · rename_i n
    exact absurd (show isAL ("InvalidText" : Str) "InvalidText" = true by decide +kernel) n
theorem index_ok {x : Str} (t : (d_parse_queries [.d (.str x)]).run (fun _ => True) (fun _ => False)) {β : Type} {F : SD → M β} {P : β → Prop} {E : Exn → Prop} (h : (F (.d .none)).run P E) : (d__law_index [.d (.str x)] >>= F).run P E := by
  suffices key : (d__law_index [.d (.str x)]).run (fun y => y = .d .none) E from bnd_run key fun o q => by
    subst q
    exact h
  refine def_run ?_
  simp [u__law_index]
  refine seq_runX ⟨show 2 < 3 by decide, bnd_run (M.mono _ (fun _ z => z) (fun e z => z.elim) t) fun o q => rfl⟩
theorem index_runC {x : Str} {i : Int} (t : Thr (d_parse_queries [.d (.str x)]) (exT i)) {β : Type} {F : SD → M β} {P : β → Prop} {E : Exn → Prop} (h : (F (.d (.int i))).run P E) : (M.calm (d__law_index [.d (.str x)]) >>= F).run P E :=
  bnd_run (calm_run (index_run (F := pure) (P := fun y => y = .d (.int i)) t rfl)) fun o q => by subst q; exact h
theorem index_okC {x : Str} (t : (d_parse_queries [.d (.str x)]).run (fun _ => True) (fun _ => False)) {β : Type} {F : SD → M β} {P : β → Prop} {E : Exn → Prop} (h : (F (.d .none)).run P E) : (M.calm (d__law_index [.d (.str x)]) >>= F).run P E :=
  bnd_run (calm_run (index_ok (F := pure) (P := fun y => y = .d .none) t rfl)) fun o q => by subst q; exact h
end Dd
namespace Dd
open PySem PySem.Spec PyProof.Rows L2
theorem fr_gen {a b : Int} (h : 1 ≤ b) : d_is_fraction [.d (.tuple [.int a, .int b])] = pure (dB (decide (Int.gcd a b = 1))) := by
  have l : bLen [.d (.tuple [.int a, .int b])] = pure (dI 2) := rfl
  have k : kOf (.tp [1, 2]) (.d (.tuple [.int a, .int b])) [.d (.tuple [.int a, .int b]), .no, .no] = some [.d (.tuple [.int a, .int b]), .d (.int a), .d (.int b)] := rfl
  simp [d_is_fraction, u_is_fraction, d_greatest_divisor_eq, h, l, k]
  exact congrArg (fun b : Bool => (pure (SD.d (.bool b)) : M SD)) (decide_eq_decide.mpr (by omega))
def easyT : List Str := ["", "sort", "min ", "max A", "order a b", "sort a a", "sort a  b", "compare a", "compare a b c", "compare a a", "above a", "above 1/-2 a", "above 1/0 a", "above +1 a", "above 1/ a", "above /2 a", "above - a", "above 1.5 a", "min abcdefg", "min a1", "Sort a", " sort a", "sort a;", "above 1234567890123 a", "above 1/1234567890123 a"]
theorem ez_0 : d_parse_query [.d (.str "")] = pure (.d .none) := by kernel_rfl
theorem ez_1 : d_parse_query [.d (.str "sort")] = pure (.d .none) := by kernel_rfl
theorem ez_2 : d_parse_query [.d (.str "min ")] = pure (.d .none) := by kernel_rfl
theorem ez_3 : d_parse_query [.d (.str "max A")] = pure (.d .none) := by kernel_rfl
theorem ez_4 : d_parse_query [.d (.str "order a b")] = pure (.d .none) := by kernel_rfl
theorem ez_5 : d_parse_query [.d (.str "sort a a")] = pure (.d .none) := by kernel_rfl
theorem ez_6 : d_parse_query [.d (.str "sort a  b")] = pure (.d .none) := by kernel_rfl
theorem ez_7 : d_parse_query [.d (.str "compare a")] = pure (.d .none) := by kernel_rfl
theorem ez_8 : d_parse_query [.d (.str "compare a b c")] = pure (.d .none) := by kernel_rfl
theorem ez_9 : d_parse_query [.d (.str "compare a a")] = pure (.d .none) := by kernel_rfl
theorem ez_10 : d_parse_query [.d (.str "above a")] = pure (.d .none) := by kernel_rfl
theorem ez_11 : d_parse_query [.d (.str "above 1/-2 a")] = pure (.d .none) := by kernel_rfl
theorem ez_12 : d_parse_query [.d (.str "above 1/0 a")] = pure (.d .none) := by kernel_rfl
theorem ez_13 : d_parse_query [.d (.str "above +1 a")] = pure (.d .none) := by kernel_rfl
theorem ez_14 : d_parse_query [.d (.str "above 1/ a")] = pure (.d .none) := by kernel_rfl
theorem ez_15 : d_parse_query [.d (.str "above /2 a")] = pure (.d .none) := by kernel_rfl
theorem ez_16 : d_parse_query [.d (.str "above - a")] = pure (.d .none) := by kernel_rfl
theorem ez_17 : d_parse_query [.d (.str "above 1.5 a")] = pure (.d .none) := by kernel_rfl
theorem ez_18 : d_parse_query [.d (.str "min abcdefg")] = pure (.d .none) := by kernel_rfl
theorem ez_19 : d_parse_query [.d (.str "min a1")] = pure (.d .none) := by kernel_rfl
theorem ez_20 : d_parse_query [.d (.str "Sort a")] = pure (.d .none) := by kernel_rfl
theorem ez_21 : d_parse_query [.d (.str " sort a")] = pure (.d .none) := by kernel_rfl
theorem ez_22 : d_parse_query [.d (.str "sort a;")] = pure (.d .none) := by kernel_rfl
theorem ez_23 : d_parse_query [.d (.str "above 1234567890123 a")] = pure (.d .none) := by kernel_rfl
theorem ez_24 : d_parse_query [.d (.str "above 1/1234567890123 a")] = pure (.d .none) := by kernel_rfl
theorem pf_s0 : d_parse_fraction [.d (.str "1/1")] = pure (.d .none) := by
  have p : gPart "1/1" (.d (.str "/")) = some (.d (.tuple [.str "1", .str "/", .str "1"])) := by kernel_rfl
  have rm : gRmPre "1" (.d (.str "-")) = some (.d (.str "1")) := by kernel_rfl
  have s1 : d_is_short_number [.d (.str "1")] = pure (dB true) := by kernel_rfl
  have s2 : d_is_short_number [.d (.str "1")] = pure (dB true) := by kernel_rfl
  have t : truD (.d (.str "/")) = some true := by kernel_rfl
  have i1 : bIntT [.d (.str "1")] = pure (.d (.int 1)) := by kernel_rfl
  have i2 : bIntT [.d (.str "1")] = pure (.d (.int 1)) := by kernel_rfl
  have f := fr_gen (a := 1) (b := 1) (by decide)
  rw [show decide (Int.gcd 1 1 = 1) = true from by decide] at f
  have ff : d_format_fraction [.d (.tuple [.int 1, .int 1])] = pure (.d (.str "1")) := by kernel_rfl
  have g : gEq (.d (.str "1")) (.d (.str "1/1")) = some (dB false) := by kernel_rfl
  have tx : ∀ x : Str, asTx (.d (.str x)) = some x := fun _ => rfl
  simp [d_parse_fraction, u_parse_fraction, tx, p, rm, s1, s2, t, i1, i2, f, ff, g]
theorem pf_s1 : d_parse_fraction [.d (.str "2/4")] = pure (.d .none) := by
  have p : gPart "2/4" (.d (.str "/")) = some (.d (.tuple [.str "2", .str "/", .str "4"])) := by kernel_rfl
  have rm : gRmPre "2" (.d (.str "-")) = some (.d (.str "2")) := by kernel_rfl
  have s1 : d_is_short_number [.d (.str "2")] = pure (dB true) := by kernel_rfl
  have s2 : d_is_short_number [.d (.str "4")] = pure (dB true) := by kernel_rfl
  have t : truD (.d (.str "/")) = some true := by kernel_rfl
  have i1 : bIntT [.d (.str "2")] = pure (.d (.int 2)) := by kernel_rfl
  have i2 : bIntT [.d (.str "4")] = pure (.d (.int 4)) := by kernel_rfl
  have f := fr_gen (a := 2) (b := 4) (by decide)
  rw [show decide (Int.gcd 2 4 = 1) = false from by decide] at f
  have ff : d_format_fraction [.d (.tuple [.int 2, .int 4])] = pure (.d (.str "2/4")) := by kernel_rfl
  have g : gEq (.d (.str "2/4")) (.d (.str "2/4")) = some (dB true) := by kernel_rfl
  have tx : ∀ x : Str, asTx (.d (.str x)) = some x := fun _ => rfl
  simp [d_parse_fraction, u_parse_fraction, tx, p, rm, s1, s2, t, i1, i2, f, ff, g]
theorem pf_s2 : d_parse_fraction [.d (.str "2/2")] = pure (.d .none) := by
  have p : gPart "2/2" (.d (.str "/")) = some (.d (.tuple [.str "2", .str "/", .str "2"])) := by kernel_rfl
  have rm : gRmPre "2" (.d (.str "-")) = some (.d (.str "2")) := by kernel_rfl
  have s1 : d_is_short_number [.d (.str "2")] = pure (dB true) := by kernel_rfl
  have s2 : d_is_short_number [.d (.str "2")] = pure (dB true) := by kernel_rfl
  have t : truD (.d (.str "/")) = some true := by kernel_rfl
  have i1 : bIntT [.d (.str "2")] = pure (.d (.int 2)) := by kernel_rfl
  have i2 : bIntT [.d (.str "2")] = pure (.d (.int 2)) := by kernel_rfl
  have f := fr_gen (a := 2) (b := 2) (by decide)
  rw [show decide (Int.gcd 2 2 = 1) = false from by decide] at f
  have ff : d_format_fraction [.d (.tuple [.int 2, .int 2])] = pure (.d (.str "2/2")) := by kernel_rfl
  have g : gEq (.d (.str "2/2")) (.d (.str "2/2")) = some (dB true) := by kernel_rfl
  have tx : ∀ x : Str, asTx (.d (.str x)) = some x := fun _ => rfl
  simp [d_parse_fraction, u_parse_fraction, tx, p, rm, s1, s2, t, i1, i2, f, ff, g]
theorem pf_w0 : d_parse_fraction [.d (.str "01")] = pure (.d .none) := by
  have p : gPart "01" (.d (.str "/")) = some (.d (.tuple [.str "01", .str "", .str ""])) := by kernel_rfl
  have rm : gRmPre "01" (.d (.str "-")) = some (.d (.str "01")) := by kernel_rfl
  have s1 : d_is_short_number [.d (.str "01")] = pure (dB true) := by kernel_rfl
  have t : truD (.d (.str "")) = some false := by kernel_rfl
  have i1 : bIntT [.d (.str "01")] = pure (.d (.int 1)) := by kernel_rfl
  have f := fr_gen (a := 1) (b := 1) (by decide)
  rw [show decide (Int.gcd 1 1 = 1) = true from by decide] at f
  have ff : d_format_fraction [.d (.tuple [.int 1, .int 1])] = pure (.d (.str "1")) := by kernel_rfl
  have g : gEq (.d (.str "1")) (.d (.str "01")) = some (dB false) := by kernel_rfl
  have tx : ∀ x : Str, asTx (.d (.str x)) = some x := fun _ => rfl
  simp [d_parse_fraction, u_parse_fraction, tx, p, rm, s1, t, i1, f, ff, g]
theorem pf_w1 : d_parse_fraction [.d (.str "-0")] = pure (.d .none) := by
  have p : gPart "-0" (.d (.str "/")) = some (.d (.tuple [.str "-0", .str "", .str ""])) := by kernel_rfl
  have rm : gRmPre "-0" (.d (.str "-")) = some (.d (.str "0")) := by kernel_rfl
  have s1 : d_is_short_number [.d (.str "0")] = pure (dB true) := by kernel_rfl
  have t : truD (.d (.str "")) = some false := by kernel_rfl
  have i1 : bIntT [.d (.str "-0")] = pure (.d (.int 0)) := by kernel_rfl
  have f := fr_gen (a := 0) (b := 1) (by decide)
  rw [show decide (Int.gcd 0 1 = 1) = true from by decide] at f
  have ff : d_format_fraction [.d (.tuple [.int 0, .int 1])] = pure (.d (.str "0")) := by kernel_rfl
  have g : gEq (.d (.str "0")) (.d (.str "-0")) = some (dB false) := by kernel_rfl
  have tx : ∀ x : Str, asTx (.d (.str x)) = some x := fun _ => rfl
  simp [d_parse_fraction, u_parse_fraction, tx, p, rm, s1, t, i1, f, ff, g]
theorem pf_one : d_parse_fraction [.d (.str "1")] = pure (.d (.tuple [.int 1, .int 1])) := by
  have p : gPart "1" (.d (.str "/")) = some (.d (.tuple [.str "1", .str "", .str ""])) := by kernel_rfl
  have rm : gRmPre "1" (.d (.str "-")) = some (.d (.str "1")) := by kernel_rfl
  have s1 : d_is_short_number [.d (.str "1")] = pure (dB true) := by kernel_rfl
  have t : truD (.d (.str "")) = some false := by kernel_rfl
  have i1 : bIntT [.d (.str "1")] = pure (.d (.int 1)) := by kernel_rfl
  have f := fr_gen (a := 1) (b := 1) (by decide)
  rw [show decide (Int.gcd 1 1 = 1) = true from by decide] at f
  have ff : d_format_fraction [.d (.tuple [.int 1, .int 1])] = pure (.d (.str "1")) := by kernel_rfl
  have g : gEq (.d (.str "1")) (.d (.str "1")) = some (dB true) := by kernel_rfl
  have tx : ∀ x : Str, asTx (.d (.str x)) = some x := fun _ => rfl
  simp [d_parse_fraction, u_parse_fraction, tx, p, rm, s1, t, i1, f, ff, g]
theorem pq_th {t x : Str} (s : gSplit t (.d (.str " ")) = some (.d (.list [.str "above", .str x, .str "a"]))) (pf : d_parse_fraction [.d (.str x)] = pure (.d .none)) : d_parse_query [.d (.str t)] = pure (.d .none) := by
  have tn : d_are_text_names [.d (.tuple [.str "a"])] = pure (dB true) := by kernel_rfl
  have tx : ∀ x : Str, asTx (.d (.str x)) = some x := fun _ => rfl
  have bt : ∀ ds : List PyData, bTuple [.d (.list ds)] = pure (.d (.tuple ds)) := fun ds => rfl
  have gn : gIsB (.d .none) (.d .none) = some (dB true) := rfl
  simp [d_parse_query, u_parse_query, tx, s, bt, sl_two, tn, pf, gn]
theorem pq_nm {t x : Str} {ns : List PyData} {d : PyData} (s : gSplit t (.d (.str " ")) = some (.d (.list (.str "above" :: .str x :: ns)))) (pf : d_parse_fraction [.d (.str x)] = pure (.d d)) (tn : d_are_text_names [.d (.tuple ns)] = pure (dB false)) : d_parse_query [.d (.str t)] = pure (.d .none) := by
  have tx : ∀ x : Str, asTx (.d (.str x)) = some x := fun _ => rfl
  have bt : ∀ ds : List PyData, bTuple [.d (.list ds)] = pure (.d (.tuple ds)) := fun ds => rfl
  have c : (1 : Int) < (ns.length : Int) + 1 + 1 := by omega
  simp [d_parse_query, u_parse_query, tx, s, bt, sl_two, tn, pf, c]
theorem bad_22 : d_parse_query [.d (.str "above 2/2 a")] = pure (.d .none) := pq_th (by kernel_rfl) pf_s2
theorem pq_min : d_parse_query [.d (.str "min a")] = pure (.d (.tuple [.str "min", .tuple [.str "a"]])) := by kernel_rfl
def badT : List Str := ["", "sort", "min ", "max A", "order a b", "sort a a", "sort a  b", "compare a", "compare a b c", "compare a a", "above a", "above 1", "above 1/1 a", "above 2/4 a", "above 01 a", "above -0 a", "above 1/-2 a", "above 1/0 a", "above +1 a", "above 1/ a", "above /2 a", "above - a", "above 1.5 a", "above 1 a a", "min abcdefg", "min a1", "Sort a", " sort a", "sort a;", "above 1234567890123 a", "above 1/1234567890123 a"]
theorem bad_pq : ∀ w ∈ badT, d_parse_query [.d (.str w)] = pure (.d .none) := fun w hw => by
  simp only [badT, List.mem_cons, List.not_mem_nil, or_false] at hw
  rcases hw with rfl | rfl | rfl | rfl | rfl | rfl | rfl | rfl | rfl | rfl | rfl | rfl | rfl | rfl | rfl | rfl | rfl | rfl | rfl | rfl | rfl | rfl | rfl | rfl | rfl | rfl | rfl | rfl | rfl | rfl | rfl
  · exact ez_0
  · exact ez_1
  · exact ez_2
  · exact ez_3
  · exact ez_4
  · exact ez_5
  · exact ez_6
  · exact ez_7
  · exact ez_8
  · exact ez_9
  · exact ez_10
  · exact pq_nm (ns := []) (by kernel_rfl) pf_one (by kernel_rfl)
  · exact pq_th (by kernel_rfl) pf_s0
  · exact pq_th (by kernel_rfl) pf_s1
  · exact pq_th (by kernel_rfl) pf_w0
  · exact pq_th (by kernel_rfl) pf_w1
  · exact ez_11
  · exact ez_12
  · exact ez_13
  · exact ez_14
  · exact ez_15
  · exact ez_16
  · exact ez_17
  · exact pq_nm (ns := [.str "a", .str "a"]) (by kernel_rfl) pf_one (by kernel_rfl)
  · exact ez_18
  · exact ez_19
  · exact ez_20
  · exact ez_21
  · exact ez_22
  · exact ez_23
  · exact ez_24
theorem bad_pt : ∀ w ∈ badT, Pt w := fun w hw => by
  have k : ∀ w ∈ badT, (w = "sort a;" ∨ 59 ∉ TL.tl w) ∧ (∀ c ∈ TL.tl w, c ≤ 122) ∧ w.length ≤ 800 := by decide +kernel
  obtain ⟨k1, k2, k3⟩ := k w hw
  refine ⟨?_, k2, k3⟩
  rcases k1 with rfl | k1
  · have e : TL.tl "sort a;" = TL.tl "sort a" ++ [59] := by decide +kernel
    rw [e]
    exact sep_end (by decide +kernel)
  · exact sep_no k1
theorem pt_22 : Pt "above 2/2 a" := ⟨sep_no (by decide +kernel), by decide +kernel, by decide +kernel⟩
theorem pt_min : Pt "min a" := ⟨sep_no (by decide +kernel), by decide +kernel, by decide +kernel⟩
theorem pt_sort : Pt "sort" := ⟨sep_no (by decide +kernel), by decide +kernel, by decide +kernel⟩
theorem bad_sort : d_parse_query [.d (.str "sort")] = pure (.d .none) := ez_1
end Dd
namespace Dd
open PySem PySem.Spec PyProof.Rows L2
def Poss (x : Fq × Fq) (v : Fq) : Prop := (x.1 = x.2 ∧ v = x.1) ∨ (R x.1 < R v ∧ R v < R x.2)
def known (n : Nm) (v : Fq) : Row := ⟨n, v, v, Rat.le_refl⟩
def revR (rs : List Row) (g : Nm → Fq) (sub : List Nm) : List Row := rs.map fun r => if r.nm ∈ sub then known r.nm (g r.nm) else r
end Dd
namespace Dd
open PySem PySem.Spec PyProof.Rows L2
end Dd
namespace Dd
open PySem PySem.Spec PyProof.Rows L2
def abv (x : Fq × Fq) (t : Fq) : Bool := if x.1 = x.2 then decide (R t < R x.1) else !decide (R x.1 < R t)
end Dd
namespace Dd
open PySem PySem.Spec PyProof.Rows L2
def kn (r : Row) : Bool := decide (r.lo = r.hi)
abbrev unk (rs : List Row) : List Row := rs.filter fun r => !kn r
def lw (o r : Row) : Bool := if kn o = true then decide (R r.lo < R o.lo) && decide (R o.lo < R r.hi) else !decide (R o.lo < R r.lo) && !decide (R r.hi < R o.hi)
def reqS (rs : List Row) : List Row := (unk rs).filter fun r => (rs.filter fun o => !decide (o.nm = r.nm)).any fun o => lw o r
def npD (p : Nm × Nm) : PyData := .tuple [nS p.1, nS p.2]
def prsS (rs : List Row) : List (Nm × Nm) := ((prs (unk rs)).filter fun p => !sepd p.1 p.2).map fun p => (p.1.nm, p.2.nm)
def kff (o r : Row) : Bool := if kn o = true then !decide (R r.lo < R o.lo) else decide (R o.lo < R r.lo)
def frn (rs : List Row) : List Row := (unk rs).filter fun r => !rs.any fun o => kff o r
def eb (o r : Row) : Bool := if kn o = true then decide (R o.lo < R r.hi) else !decide (R r.hi < R o.hi)
def reqM (rs : List Row) : List Row := (frn rs).filter fun r => (rs.filter fun o => !decide (o.nm = r.nm)).any fun o => eb o r
instance ln_frn {n : Nat} {rs : List Row} [h : Ln n rs] : Ln n (frn rs) := inferInstanceAs (Ln n ((unk rs).filter _))
instance ln_reqS {n : Nat} {rs : List Row} [h : Ln n rs] : Ln n (reqS rs) := inferInstanceAs (Ln n ((unk rs).filter _))
instance ln_reqM {n : Nat} {rs : List Row} [h : Ln n rs] : Ln n (reqM rs) := inferInstanceAs (Ln n ((frn rs).filter _))
def npair (a b : Nm) : Nm × Nm := if b < a then (b, a) else (a, b)
def prsM (rs : List Row) : List (Nm × Nm) := (frn rs).flatMap fun r => ((unk rs).filter fun o => !decide (o.nm = r.nm) && decide (R o.lo < R r.hi)).map fun o => npair r.nm o.nm
def reqN (rs : List Row) : Qy → List Nm
  | .above ns t => nms ((qrows rs (.above ns t)).filter fun r => decide (R r.lo < R t) && decide (R t < R r.hi))
  | .mn ns => nms (reqM (qrows rs (.mn ns)))
  | .mx ns => nms (reqM (qrows rs (.mx ns)))
  | .sort ns => nms (reqS (qrows rs (.sort ns)))
  | .cmp a b => nms (reqS (qrows rs (.cmp a b)))
def npK (p : Nm × Nm) : List Str := [p.1.s, p.2.s]
def WP (rs : List Row) (q : Qy) (ps : List (Nm × Nm)) : Prop := match q with
  | .above _ _ => ps = []
  | .sort _ => ps = prsS (qrows rs q)
  | .cmp _ _ => ps = prsS (qrows rs q)
  | _ => ps.Nodup ∧ (∀ p, p ∈ ps ↔ p ∈ prsM (qrows rs q)) ∧ ps.Pairwise fun a b => PySem.W.dataLt (npD b) (npD a) = false
theorem lay_np (p : Nm × Nm) : (npD p).canLay0 = true ∧ (npD p).depth ≤ 1 := by
  simp [npD, PyData.canLay0, PyData.canLayAll0, PyData.depth, PyData.depthAll]
  exact ⟨p.1.lay, p.2.lay⟩
theorem eqv_np (p q : Nm × Nm) : PyData.eqv (npD p) (npD q) = decide (p = q) := by
  have e : PyData.eqv (npD p) (npD q) = (PyData.eqv (nS p.1) (nS q.1) && (PyData.eqv (nS p.2) (nS q.2) && true)) := rfl
  rw [e, eqv_n, eqv_n, Bool.eq_iff_iff]
  simp only [Bool.and_true, Bool.and_eq_true, decide_eq_true_eq]
  exact ⟨fun h => Prod.ext h.1 h.2, fun h => h ▸ ⟨rfl, rfl⟩⟩
@[simp] theorem eqNps (xs ys : List (Nm × Nm)) : gEq (.d (.list (xs.map npD))) (.d (.list (ys.map npD))) = some (dB (decide (xs = ys))) := eqL eqv_np lay_np (by decide) xs ys
@[simp] theorem eqNps0 (xs : List (Nm × Nm)) : gEq (.d (.list (xs.map npD))) (.d (.list [])) = some (dB (decide (xs = []))) := eqNps xs []
@[simp] theorem eqNms0 (xs : List Nm) : gEq (.d (.list (xs.map nS))) (.d (.list [])) = some (dB (decide (xs = []))) := eqNms xs []
end Dd
namespace Dd
open PySem PySem.Spec PyProof.Rows L2
theorem filter_nil {α : Type} {p : α → Bool} {l : List α} : l.filter p = [] ↔ ∀ x ∈ l, p x = false := by
  rw [List.filter_eq_nil_iff]
  exact ⟨fun h x hx => by simpa using h x hx, fun h x hx => by rw [h x hx]; decide⟩
end Dd
namespace Dd
open PySem PySem.Spec PyProof.Rows L2
abbrev ask (rs : List Row) (ns : List Nm) : List Row := rs.filter fun r => decide (r.nm ∈ ns)
end Dd
namespace Dd
open PySem PySem.Spec PyProof.Rows L2
def cm (A : List Row) (p : Row × Row) : Bool := (decide (p.1.nm ∈ nms (frn A)) && decide (R p.2.lo < R p.1.hi)) || (decide (p.2.nm ∈ nms (frn A)) && decide (R p.1.lo < R p.2.hi))
def pn2 (p : Row × Row) : Nm × Nm := (p.1.nm, p.2.nm)
def lawM (A : List Row) : List (Nm × Nm) := ((prs (unk A)).filter (cm A)).map pn2
end Dd
namespace Dd
open PySem PySem.Spec PyProof.Rows L2
def lex2 (p q : Nm × Nm) : Prop := p.1 < q.1 ∨ (p.1 = q.1 ∧ p.2 < q.2)
theorem lt_np (p q : Nm × Nm) : PySem.W.dataLt (npD p) (npD q) = true ↔ lex2 p q := by
  show PySem.W.dataLt (.tuple [nS p.1, nS p.2]) (.tuple [nS q.1, nS q.2]) = true ↔ _
  rw [PySem.W.dataLt_pair rfl rfl, eqv_n, eqv_n, lt_n, lt_n]
  unfold lex2
  by_cases h1 : p.1 = q.1 <;> by_cases h2 : p.2 = q.2 <;> simp [h1, h2, nm_irrefl]
theorem lex2_irrefl (p : Nm × Nm) : ¬ lex2 p p := fun h => by
  rcases h with h | ⟨_, h⟩
  · exact nm_irrefl _ h
  · exact nm_irrefl _ h
theorem lex2_asymm {p q : Nm × Nm} (h : lex2 p q) : ¬ lex2 q p := fun g => by
  rcases h with h | ⟨e, h⟩ <;> rcases g with g | ⟨e', g⟩
  · exact nm_irrefl _ (nm_trans h g)
  · rw [e'] at h
    exact nm_irrefl _ h
  · rw [e] at g
    exact nm_irrefl _ g
  · exact nm_irrefl _ (nm_trans h g)
theorem lex2_tri {p q : Nm × Nm} (h : ¬ lex2 p q) (g : ¬ lex2 q p) : p = q := by
  have e1 : p.1 = q.1 := nm_tri (fun z => h (.inl z)) (fun z => g (.inl z))
  exact Prod.ext e1 (nm_tri (fun z => h (.inr ⟨e1, z⟩)) (fun z => g (.inr ⟨e1.symm, z⟩)))
theorem prs_lex : ∀ {xs : List Row}, Asc xs → (prs xs).Pairwise fun p q => lex2 (pn2 p) (pn2 q)
  | [], _ => List.Pairwise.nil
  | x :: r, h => by
    obtain ⟨h1, h2⟩ := List.pairwise_cons.mp h
    rw [prs, List.pairwise_append]
    refine ⟨List.pairwise_map.mpr (h2.imp fun {a b} z => .inr ⟨rfl, z⟩), prs_lex h2, fun p hp q hq => ?_⟩
    obtain ⟨y, hy, rfl⟩ := List.mem_map.mp hp
    exact .inl (h1 _ (mem_prs hq).1)
theorem mem_prs_asc {x y : Row} : ∀ {xs : List Row}, Asc xs → ((x, y) ∈ prs xs ↔ x ∈ xs ∧ y ∈ xs ∧ x.nm < y.nm)
  | [], _ => by simp [prs]
  | z :: r, h => by
    obtain ⟨h1, h2⟩ := List.pairwise_cons.mp h
    rw [prs, List.mem_append, mem_prs_asc h2, List.mem_map]
    constructor
    · rintro (⟨w, hw, e⟩ | ⟨a, b, c⟩)
      · cases e
        exact ⟨List.mem_cons_self, List.mem_cons_of_mem _ hw, h1 _ hw⟩
      · exact ⟨List.mem_cons_of_mem _ a, List.mem_cons_of_mem _ b, c⟩
    · rintro ⟨a, b, c⟩
      rcases List.mem_cons.mp a with rfl | a
      · rcases List.mem_cons.mp b with rfl | b
        · exact absurd c (nm_irrefl _)
        · exact .inl ⟨y, b, rfl⟩
      · rcases List.mem_cons.mp b with rfl | b
        · exact absurd (nm_trans c (h1 _ ‹x ∈ r›)) (nm_irrefl _)
        · exact .inr ⟨a, b, c⟩
theorem asc_same {A : List Row} (h : Asc A) {a b : Row} (ha : a ∈ A) (hb : b ∈ A) (e : a.nm = b.nm) : a = b := by
  have h1 := rowAt_self h ha
  have h2 := rowAt_self h hb
  rw [← h1, ← h2, e]
theorem memN_frn {A : List Row} (h : Asc A) {x : Row} (hx : x ∈ unk A) : x.nm ∈ nms (frn A) ↔ x ∈ frn A := by
  constructor
  · intro z
    obtain ⟨y, hy, e⟩ := List.mem_map.mp z
    have hy' : y ∈ A := (List.mem_filter.mp (List.mem_filter.mp hy).1).1
    rw [asc_same h (List.mem_filter.mp hx).1 hy' e.symm]
    exact hy
  · exact fun z => List.mem_map_of_mem z
theorem mem_lawM {A : List Row} (h : Asc A) (p : Nm × Nm) : p ∈ lawM A ↔ p ∈ prsM A := by
  have hu : Asc (unk A) := List.Pairwise.filter _ h
  have lt_n : ∀ {a b : Nm}, a < b → ¬ b < a := fun z w => nm_irrefl _ (nm_trans z w)
  constructor
  · intro z
    obtain ⟨⟨x, y⟩, z1, rfl⟩ := List.mem_map.mp z
    obtain ⟨z1, z2⟩ := List.mem_filter.mp z1
    obtain ⟨hx, hy, lt⟩ := (mem_prs_asc hu).mp z1
    have ne : y.nm ≠ x.nm := fun e => nm_irrefl _ (show x.nm < x.nm by rw [e] at lt; exact lt)
    unfold cm at z2
    rw [Bool.or_eq_true, Bool.and_eq_true, Bool.and_eq_true, decide_eq_true_eq, decide_eq_true_eq, decide_eq_true_eq, decide_eq_true_eq] at z2
    rcases z2 with ⟨f, l⟩ | ⟨f, l⟩
    · refine List.mem_flatMap.mpr ⟨x, (memN_frn h hx).mp f, List.mem_map.mpr ⟨y, List.mem_filter.mpr ⟨hy, ?_⟩, ?_⟩⟩
      · simp [ne, l]
      · show npair x.nm y.nm = (x.nm, y.nm)
        unfold npair
        rw [if_neg (lt_n lt)]
    · refine List.mem_flatMap.mpr ⟨y, (memN_frn h hy).mp f, List.mem_map.mpr ⟨x, List.mem_filter.mpr ⟨hx, ?_⟩, ?_⟩⟩
      · simp [ne.symm, l]
      · show npair y.nm x.nm = (x.nm, y.nm)
        unfold npair
        rw [if_pos lt]
  · intro z
    obtain ⟨r, hr, z⟩ := List.mem_flatMap.mp z
    obtain ⟨o, ho, rfl⟩ := List.mem_map.mp z
    obtain ⟨ho, c⟩ := List.mem_filter.mp ho
    have hr' : r ∈ unk A := (List.mem_filter.mp hr).1
    have f := (memN_frn h hr').mpr hr
    have c : ¬ o.nm = r.nm ∧ R o.lo < R r.hi := by simpa using c
    unfold npair
    by_cases lt : o.nm < r.nm
    · rw [if_pos lt]
      exact List.mem_map.mpr ⟨(o, r), List.mem_filter.mpr ⟨(mem_prs_asc hu).mpr ⟨ho, hr', lt⟩, by simp [cm, f, c.2]⟩, rfl⟩
    · rw [if_neg lt]
      have lt' : r.nm < o.nm := by
        by_cases z : r.nm < o.nm
        · exact z
        · exact absurd (nm_tri lt z) c.1
      exact List.mem_map.mpr ⟨(r, o), List.mem_filter.mpr ⟨(mem_prs_asc hu).mpr ⟨hr', ho, lt'⟩, by simp [cm, f, c.2]⟩, rfl⟩
theorem lawM_pw {A : List Row} (h : Asc A) : (lawM A).Pairwise lex2 := List.pairwise_map.mpr (List.Pairwise.filter _ (prs_lex (List.Pairwise.filter _ h)))
theorem eq_lawM {A : List Row} (h : Asc A) {ps : List (Nm × Nm)} (nd : ps.Nodup) (mem : ∀ p, p ∈ ps ↔ p ∈ prsM A) (pw : ps.Pairwise fun a b => PySem.W.dataLt (npD b) (npD a) = false) : ps = lawM A := by
  have pw1 : ps.Pairwise lex2 := (List.pairwise_and_iff.mpr ⟨pw, nd⟩).imp fun {a b} ⟨z1, z2⟩ => by
    have z3 : ¬ lex2 b a := fun z => by rw [(lt_np b a).mpr z] at z1; cases z1
    exact Classical.byContradiction fun z => z2 (lex2_tri z z3)
  have pw2 := lawM_pw h
  have nd2 : (lawM A).Nodup := pw2.imp fun {a b} z e => by rw [e] at z; exact lex2_irrefl _ z
  have pm : ps.Perm (lawM A) := (List.perm_ext_iff_of_nodup nd nd2).mpr fun p => by rw [mem p, mem_lawM h p]
  exact pm.eq_of_pairwise (le := lex2) (fun a b _ _ h1 h2 => absurd h2 (lex2_asymm h1)) pw1 pw2
def lawP (rs : List Row) (q : Qy) : List (Nm × Nm) := match q with
  | .above _ _ => []
  | .sort ns => prsS (ask rs ns)
  | .cmp a b => prsS (ask rs [a, b])
  | .mn ns => lawM (ask rs ns)
  | .mx ns => lawM ((ask rs ns).map mirr)
theorem WP.law {rs : List Row} (h : IvOk rs) {q : Qy} {ps : List (Nm × Nm)} (w : WP rs q ps) : ps = lawP rs q := by
  cases q with
  | above ns t => exact w
  | sort ns => exact w
  | cmp a b => exact w
  | mn ns => exact eq_lawM (List.Pairwise.filter _ h.asc) w.1 w.2.1 w.2.2
  | mx ns => exact eq_lawM (A := (ask rs ns).map mirr) (List.pairwise_map.mpr (List.Pairwise.filter _ h.asc)) w.1 w.2.1 w.2.2
end Dd
namespace Dd
open PySem PySem.Spec PyProof.Rows L2
def ebP (r : Row) (x : Fq × Fq) : Bool := if x.1 = x.2 then decide (R x.1 < R r.hi) else !decide (R r.hi < R x.2)
def lwP (r : Row) (x : Fq × Fq) : Bool := if x.1 = x.2 then decide (R r.lo < R x.1) && decide (R x.1 < R r.hi) else !decide (R x.1 < R r.lo) && !decide (R r.hi < R x.2)
end Dd
namespace Dd
open PySem PySem.Spec PyProof.Rows L2
def ddp (ns : List Nm) : List Nm := ns.foldr (fun x l => if x ∈ l then l else x :: l) []
def sdd (ns : List Nm) : List Nm := srt nS (ddp ns)
def setV (rs : List Row) (n : Nm) (v : Fq) : List Row := rs.map fun r => if r.nm = n then known n v else r
end Dd
namespace Dd
open PySem PySem.Spec PyProof.Rows L2
def PossAll (rs : List Row) (g : Nm → Fq) : Prop := ∀ r ∈ rs, Poss (r.lo, r.hi) (g r.nm)
def Fin (a b : Row) : Prop := a.nm = b.nm ∧ R a.lo ≤ R b.lo ∧ R b.hi ≤ R a.hi
def FinL : List Row → List Row → Prop := Paired Fin
end Dd
namespace Dd
open PySem PySem.Spec PyProof.Rows L2
end Dd
namespace Dd
open PySem PySem.Spec PyProof.Rows L2
def Bef (a b : Row) : Prop := R a.hi ≤ R b.lo ∧ (R b.hi ≤ R a.lo → a.nm < b.nm)
def cnt (r : Row) (rs : List Row) : Nat := (rs.filter fun o => !decide (o.nm = r.nm) && !decide (R r.lo < R o.hi)).length
def rnk (rs : List Row) (r : Row) : PyData := .tuple [.int (cnt r rs : Int), nS r.nm]
def gdN (rs : List Row) (n o : Nm) : Bool := (decide (o = n) || neverAbove (at' rs n) (at' rs o)) && !(decide (o < n) && decide (at' rs o = at' rs n))
def lastO {α : Type} (c : SD) (f : α → SD) (done : List α) : SD := match done.getLast? with
  | none => c
  | some x => f x
@[simp] theorem lastO_nil {α : Type} (c : SD) (f : α → SD) : lastO c f [] = c := rfl
@[simp] theorem lastO_snoc {α : Type} (c : SD) (f : α → SD) (done : List α) (x : α) : lastO c f (done ++ [x]) = f x := by
  unfold lastO
  rw [List.getLast?_concat]
end Dd
namespace Dd
open PySem PySem.Spec PyProof.Rows L2
structure Wth (vs : List (Nm × Fq)) (rs : List Row) (g : Nm → Fq) : Prop where
  lk : ∀ n ∈ nms rs, lkN vs n = some (g n)
  poss : PossAll rs g
def CorV (q : Qy) (g : Nm → Fq) (v : PyData) : Prop := match q with
  | .sort ns => ∃ l : List Nm, v = .tuple (l.map nS) ∧ l.Perm ns ∧ l.Pairwise fun a b => R (g a) ≤ R (g b)
  | .above ns t => v = .tuple (((srt nS ns).filter fun n => decide (R t < R (g n))).map nS)
  | .mx ns => ∃ n ∈ ns, v = nS n ∧ ∀ o ∈ ns, R (g o) ≤ R (g n)
  | .mn ns => ∃ n ∈ ns, v = nS n ∧ ∀ o ∈ ns, R (g n) ≤ R (g o)
  | .cmp a b => ∃ n ∈ [a, b], v = nS n ∧ ∀ o ∈ [a, b], R (g n) ≤ R (g o)
end Dd
namespace Dd
open PySem PySem.Spec PyProof.Rows L2
end Dd
namespace Dd
open PySem PySem.Spec PyProof.Rows L2
def PPn (rs : List Row) (q : Qy) : List (Nm × Nm) := match q with
  | .above _ _ => []
  | .sort _ => prsS (qrows rs q)
  | .cmp _ _ => prsS (qrows rs q)
  | _ => prsM (qrows rs q)
end Dd
namespace Dd
open PySem PySem.Spec PyProof.Rows L2
def NFe (code : PyData) (e : Exn) : Prop := e.C ∈ errsL ∧ isAL e.C "QueryError" = false ∧ isAL e.C "NotFound" = true ∧ e.fs.lookup ("code" : Str) = some code
abbrev exU (n : Nm) : Exn := ⟨"UnknownItem", fldD ⟨"item", some "name", false⟩ (nS n)⟩
abbrev exM (n : Nm) : Exn := ⟨"MissingValue", fldD ⟨"missing", some "name", false⟩ (nS n)⟩
end Dd
namespace Dd
open PySem PySem.Spec PyProof.Rows L2
theorem alike_all {α : Type} {enc : α → PyData} (al : ∀ a b, PySem.W.alike (enc a) (enc b) = true) (nn : ∀ a, enc a ≠ .none) (xs : List α) : PySem.W.AlikeAll (xs.map enc) := ⟨fun x hx y hy => by
    obtain ⟨a, _, rfl⟩ := List.mem_map.mp hx
    obtain ⟨b, _, rfl⟩ := List.mem_map.mp hy
    exact al a b, fun x hx => by
    obtain ⟨a, _, rfl⟩ := List.mem_map.mp hx
    exact nn a⟩
instance lex2_dec : DecidableRel lex2 := fun p q => inferInstanceAs (Decidable (p.1 < q.1 ∨ (p.1 = q.1 ∧ p.2 < q.2)))
def IsMinN (l : List Nm) (m : Nm) : Prop := m ∈ l ∧ ∀ y ∈ l, ¬ y < m
def IsMinP (l : List (Nm × Nm)) (m : Nm × Nm) : Prop := m ∈ l ∧ ∀ y ∈ l, ¬ lex2 y m
theorem IsMinN.one {l : List Nm} {a b : Nm} (h : IsMinN l a) (g : IsMinN l b) : a = b := nm_tri (g.2 a h.1) (h.2 b g.1)
theorem IsMinP.one {l : List (Nm × Nm)} {a b : Nm × Nm} (h : IsMinP l a) (g : IsMinP l b) : a = b := lex2_tri (g.2 a h.1) (h.2 b g.1)
end Dd
namespace Dd
open PySem PySem.Spec PyProof.Rows L2
structure PrsOk (ps : List (Nm × Int)) (rs : List Row) : Prop where
  nd : (ps.map (·.1)).Nodup
  inn : ∀ p ∈ ps, p.1 ∈ nms rs ∧ 1 ≤ p.2 ∧ p.2 ≤ 1000
  len : ps.length ≤ rs.length
def pcD : Option (List (Nm × Int)) → PyData
  | none => .none
  | some l => dN PyData.int l
def prc : Option (List (Nm × Int)) → Nm → Int
  | none, _ => 1
  | some l, n => (lkN l n).getD 1
def PcOk (pc : Option (List (Nm × Int))) (rs : List Row) : Prop := ∀ l, pc = some l → PrsOk l rs
theorem PcOk.none {rs : List Row} : PcOk none rs := fun _ h => nomatch h
theorem PcOk.some {rs : List Row} {l : List (Nm × Int)} (h : PrsOk l rs) : PcOk (some l) rs := fun _ e => by cases e; exact h
@[simp] theorem isB_none : gIsB (.d .none) (.d .none) = some (dB true) := rfl
@[simp] theorem isB_dN {α : Type} (enc : α → PyData) (kvs : List (Nm × α)) : gIsB (.d (dN enc kvs)) (.d .none) = some (dB false) := rfl
@[simp] theorem isDict_dN {α : Type} (enc : α → PyData) (kvs : List (Nm × α)) : isDict (.d (dN enc kvs)) = true := rfl
def numL (ns : List Nm) (f : Nm → Int) : List (Nm × Int) := ns.map fun n => (n, f n)
def numK (ns : List Nm) (f : Nm → Int) : KVD := kvD PyData.int (numL ns f)
end Dd
namespace Dd
open PySem PySem.Spec PyProof.Rows L2
def inr (g : Nm → Fq) (r o : Row) : Bool := !decide (o.nm = r.nm) && (decide (R r.lo < R (g o.nm)) && decide (R (g o.nm) < R r.hi))
def innN (g : Nm → Fq) (rs : List Row) (r : Row) : List Nm := nms (rs.filter (inr g r))
def forcd (g : Nm → Fq) (rs : List Row) : List (Nm × Nm) := (unk rs).filterMap fun r => (innN g rs r).head?.map fun o => (r.nm, o)
def optR (rs : List Row) (fp : List (Nm × Nm)) : List Row := (unk rs).filter fun r => !decide (r.nm ∈ fp.map (·.1))
def cov (r o : Row) : Bool := decide (R r.lo < R o.hi) && !decide (R r.hi < R o.hi)
end Dd
namespace Dd
open PySem PySem.Spec PyProof.Rows L2
def cntU (rs : List Row) (r : Row) : Nat := (rs.filter fun o => decide (R o.hi < R r.hi)).length
def rnkU (rs : List Row) (r : Row) : PyData := .tuple [.int (cntU rs r : Int), rw' r]
def skipF (rs : List Row) (sk : List Row) (c : Nm × Int) : List Row := if sk.all fun o => sepd (rowAt rs c.1) o then sk ++ [rowAt rs c.1] else sk
def skipR (rs : List Row) (ch : List (Nm × Int)) : List Row := ch.reverse.foldl (skipF rs) []
abbrev chD (c : Nm × Int) : PyData := .tuple [nS c.1, .int c.2]
@[simp] theorem revS_map {α : Type} (enc : α → PyData) (l : List α) : revS (.d (.list (l.map enc))) = some (l.reverse.map (SD.d ∘ enc)) := by
  show some ((l.map enc).map SD.d).reverse = _
  rw [List.map_map, List.map_reverse]
end Dd
namespace Dd
open PySem PySem.Spec PyProof.Rows L2
def payC (opt : List Row) (r : Row) (a : Int) (f : Nm → Int) : Nm → Int := fun m => if opt.any (fun o => decide (o.nm = m) && cov o r) then f m - a else f m
def swF (opt : List Row) (st : (Nm → Int) × List (Nm × Int)) (r : Row) : (Nm → Int) × List (Nm × Int) := if 0 < st.1 r.nm then (payC opt r (st.1 r.nm) st.1, st.2 ++ [(r.nm, st.1 r.nm)]) else st
def swCh (opt : List Row) (p : Nm → Int) : List (Nm × Int) := ((srt (rnkU opt) opt).foldl (swF opt) (p, [])).2
@[simp] theorem keyOf_s' (x : Str) : keyOf (.str x) = some (.inr x) := rfl
@[simp] theorem get_ownD0 (ds : KVD) (r : List SD) : getS (.ownD ds :: r) 0 = some (.ownD ds) := rfl
@[simp] theorem ownK2' (a b : SD) (ds : KVD) (r : List SD) : ownK (a :: b :: .ownD ds :: r) 2 = some ds := rfl
end Dd
namespace Dd
open PySem PySem.Spec PyProof.Rows L2
def namS (g : Nm → Fq) (rs : List Row) (p : Nm → Int) : List Nm := nms ((unk rs).filter fun r => !decide (r ∈ skipR rs (swCh (optR rs (forcd g rs)) p)))
end Dd
namespace Dd
open PySem PySem.Spec PyProof.Rows L2
inductive Ent where
  | req (n : Nm) (m : Int) (v : Fq)
  | pr (a b : Nm) (m : Int) (n : Nm) (v : Fq)
def Ent.nm : Ent → Nm
  | .req n _ _ => n
  | .pr _ _ _ n _ => n
def entD : Ent → PyData
  | .req n m v => .tuple [.str "required", nS n, .int m, fq v]
  | .pr a b m n v => .tuple [.str "pair", nS a, nS b, .int m, nS n, fq v]
def hdD : Ent → PyData
  | .req n m _ => .tuple [.str "required", nS n, .int m]
  | .pr a b m n _ => .tuple [.str "pair", nS a, nS b, .int m, nS n]
@[simp] theorem goR_nx (ρ : List SD) (T : List SD → M RM) : goR (.nx ρ) T = T ρ := rfl
@[simp] theorem get_mut0 (p : Addr) (ds : KVD) (r : List SD) : getS (.mutD p ds :: r) 0 = some (.mutD p ds) := rfl
@[simp] theorem mutK2 (a b : SD) (p : Addr) (ds : KVD) (r : List SD) : mutK (a :: b :: .mutD p ds :: r) 2 = some (p, ds) := rfl
@[simp] theorem keyOf_s (x : Str) : keyOf (.str x) = some (.inr x) := rfl
def min2 (a b : Int) : Int := if b < a then b else a
def cpF (f : Nm → Int) (a b : Nm) : Nm → Int := fun x => if x = b then f b - min2 (f a) (f b) else if x = a then f a - min2 (f a) (f b) else f x
def cpN (f : Nm → Int) (a b : Nm) : Nm := if f a - min2 (f a) (f b) = 0 then a else b
instance ln_reqN {n : Nat} {rs : List Row} {q : Qy} [h : Ln n rs] : Ln n (reqN rs q) := by
  cases q with
  | sort ns => exact inferInstanceAs (Ln n ((reqS (qrows rs (.sort ns))).map fun r => r.nm))
  | mn ns => exact inferInstanceAs (Ln n ((reqM (qrows rs (.mn ns))).map fun r => r.nm))
  | mx ns => exact inferInstanceAs (Ln n ((reqM (qrows rs (.mx ns))).map fun r => r.nm))
  | above ns t => exact inferInstanceAs (Ln n (((qrows rs (.above ns t)).filter fun r => decide (R r.lo < R t) && decide (R t < R r.hi)).map fun r => r.nm))
  | cmp a b => exact inferInstanceAs (Ln n ((reqS (qrows rs (.cmp a b))).map fun r => r.nm))
instance ln_prsS {n : Nat} {rs : List Row} [h : Ln n rs] : Ln (n * n) (prsS rs) := inferInstanceAs (Ln (n * n) (((prs (unk rs)).filter fun p => !sepd p.1 p.2).map fun p => (p.1.nm, p.2.nm)))
instance ln_lawM {n : Nat} {rs : List Row} [h : Ln n rs] : Ln (n * n) (lawM rs) := inferInstanceAs (Ln (n * n) (((prs (unk rs)).filter (cm rs)).map pn2))
instance ln_lawP {n : Nat} {rs : List Row} {q : Qy} [h : Ln n rs] : Ln (n * n) (lawP rs q) := by
  cases q with
  | above ns t => exact ⟨Nat.zero_le _⟩
  | sort ns => exact inferInstanceAs (Ln (n * n) (prsS (ask rs ns)))
  | cmp a b => exact inferInstanceAs (Ln (n * n) (prsS (ask rs [a, b])))
  | mn ns => exact inferInstanceAs (Ln (n * n) (lawM (ask rs ns)))
  | mx ns => exact inferInstanceAs (Ln (n * n) (lawM ((ask rs ns).map mirr)))
def UnkQ (rs : List Row) (q : Qy) (n : Nm) : Prop := ∃ r ∈ rs, r.nm = n ∧ kn r = false ∧ n ∈ q.ns
end Dd
namespace Dd
open PySem PySem.Spec PyProof.Rows L2
structure St where
  sub : List Nm
  f : Nm → Int
  log : List Ent
def allC (rs : List Row) (qs : List Qy) : Bool := qs.all fun q => certB rs q
inductive Stt (rs : List Row) (g : Nm → Fq) (qs : List Qy) : St → St → Prop
  | req {s : St} {n : Nm} : IsMinN (qs.flatMap (reqN (revR rs g s.sub))) n → Stt rs g qs s ⟨s.sub ++ [n], s.f, s.log ++ [.req n (s.f n) (g n)]⟩
  | pr {s : St} {a b : Nm} : qs.flatMap (reqN (revR rs g s.sub)) = [] → IsMinP (qs.flatMap (lawP (revR rs g s.sub))) (a, b) → Stt rs g qs s ⟨s.sub ++ [cpN s.f a b], cpF s.f a b, s.log ++ [.pr a b (min2 (s.f a) (s.f b)) (cpN s.f a b) (g (cpN s.f a b))]⟩
inductive Runs (rs : List Row) (g : Nm → Fq) (qs : List Qy) (s0 : St) : St → Prop
  | refl : Runs rs g qs s0 s0
  | step {s t : St} : Runs rs g qs s0 s → Stt rs g qs s t → Runs rs g qs s0 t
def st0 (pc : Option (List (Nm × Int))) : St := ⟨[], prc pc, []⟩
structure RInv (rs : List Row) (qs : List Qy) (t : St) : Prop where
  nd : t.sub.Nodup
  unk : ∀ n ∈ t.sub, ∃ q ∈ qs, UnkQ rs q n
  log : t.log.map Ent.nm = t.sub
theorem unkq_nms {rs : List Row} {q : Qy} {n : Nm} (h : UnkQ rs q n) : n ∈ nms rs := by
  obtain ⟨r, hr, rfl, _⟩ := h
  exact List.mem_map_of_mem hr
theorem RInv.sub {rs : List Row} {qs : List Qy} {t : St} (i : RInv rs qs t) : ∀ n ∈ t.sub, n ∈ nms rs := fun n hn => by
  obtain ⟨q, _, u⟩ := i.unk n hn
  exact unkq_nms u
theorem RInv.len {rs : List Row} {qs : List Qy} {t : St} (i : RInv rs qs t) : t.sub.length ≤ rs.length := by
  have := List.Nodup.length_le_of_subset i.nd i.sub
  simpa using this
@[simp] theorem w_req_req : gEq (.d (.str "required")) (.d (.str "required")) = some (dB true) := eqw (by decide +kernel) (by decide +kernel) (by decide +kernel)
@[simp] theorem w_pair_req : gEq (.d (.str "pair")) (.d (.str "required")) = some (dB false) := eqw (by decide +kernel) (by decide +kernel) (by decide +kernel)
@[simp] theorem sp_at4 {α : Type} (x y z w v : α) (xs : List α) : atI (x :: y :: z :: w :: v :: xs) 4 = some v := by
  unfold atI ixN
  rw [if_pos (by omega), if_pos (by simp only [List.length_cons]; omega)]
  rfl
@[simp] theorem sp_at5 {α : Type} (x y z w v u : α) (xs : List α) : atI (x :: y :: z :: w :: v :: u :: xs) 5 = some u := by
  unfold atI ixN
  rw [if_pos (by omega), if_pos (by simp only [List.length_cons]; omega)]
  rfl
def Ent.vl : Ent → Fq
  | .req _ _ v => v
  | .pr _ _ _ _ v => v
@[simp] theorem callF2 (g : List SD → M KVD) (x y : PyData) : callF 2 g [.d x, .d y] = M.calm (g [.d x, .d y]) := rfl
@[simp] theorem sp_lift_noneK {α : Type} (a : α) : M.calm (pure a : M α) = pure a := rfl
def resD (rs : List Row) (g : Nm → Fq) (t : St) : PyData := .tuple [.list ((revR rs g t.sub).map rw'), .list (t.log.map entD)]
end Dd
namespace Dd
open PySem PySem.Spec PyProof.Rows L2
@[simp] theorem ownK2 (a b : SD) (ds : KVD) (r : List SD) : ownK (a :: b :: .ownD ds :: r) 2 = some ds := rfl
def unkN (rs : List Row) (qs : List Qy) : List Nm := (nms rs).filter fun n => decide (n ∈ qs.flatMap Qy.ns) && !kn (rowAt rs n)
@[simp] theorem sp_get10 (a b c d e f g h i j : SD) (r : List SD) : getS (a :: b :: c :: d :: e :: f :: g :: h :: i :: j :: r) 10 = getS r 0 := rfl
@[simp] theorem sp_get11 (a b c d e f g h i j k : SD) (r : List SD) : getS (a :: b :: c :: d :: e :: f :: g :: h :: i :: j :: k :: r) 11 = getS r 0 := rfl
@[simp] theorem sp_get12 (a b c d e f g h i j k l : SD) (r : List SD) : getS (a :: b :: c :: d :: e :: f :: g :: h :: i :: j :: k :: l :: r) 12 = getS r 0 := rfl
end Dd
namespace Dd
open PySem PySem.Spec PyProof.Rows L2
end Dd
namespace Dd
open PySem PySem.Spec PyProof.Rows L2
@[simp] theorem ownK4 (a b c d : SD) (ds : KVD) (r : List SD) : ownK (a :: b :: c :: d :: .ownD ds :: r) 4 = some ds := rfl
@[simp] theorem ownL5' (a b c d e : SD) (ds : List PyData) (r : List SD) : ownL (a :: b :: c :: d :: e :: .own ds :: r) 5 = some ds := rfl
@[simp] theorem get_own0 (ds : KVD) (r : List SD) : getS (.ownD ds :: r) 0 = some (.ownD ds) := rfl
@[simp] theorem gTup0 : gTup [] = some (.d (.tuple [])) := rfl
end Dd
namespace Dd
open PySem PySem.Spec PyProof.Rows L2
abbrev lN (s : List Nm) : PyData := .list (s.map nS)
def subsF (acc : List (List Nm)) (ns : List Nm) : List (List Nm) := ns.foldl (fun acc n => acc ++ acc.map (· ++ [n])) acc
abbrev subs (ns : List Nm) : List (List Nm) := subsF [[]] ns
abbrev enP (p : List Nm → Int) (s : List Nm) : PyData := .tuple [.int (p s), lN s]
def bstD (p : List Nm → Int) : Option (List Nm) → PyData
  | none => .none
  | some s => enP p s
def updB (p : List Nm → Int) (c : List Nm → Bool) (b : Option (List Nm)) (s : List Nm) : Option (List Nm) := if c s then (match b with | none => some s | some t => if PySem.W.dataLt (enP p s) (enP p t) then some s else some t) else b
def bestB (p : List Nm → Int) (c : List Nm → Bool) (l : List (List Nm)) : Option (List Nm) := l.foldl (updB p c) none
end Dd
namespace Dd
open PySem PySem.Spec PyProof.Rows L2
abbrev ltE (p : List Nm → Int) (s t : List Nm) : Bool := PySem.W.dataLt (enP p s) (enP p t)
abbrev ordE (p : List Nm → Int) (s : List Nm) : (listOrd itemOrd).α := PySem.W.keyToks (enP p s)
def IsB (p : List Nm → Int) (c : List Nm → Bool) (l : List (List Nm)) : Option (List Nm) → Prop
  | none => ∀ t ∈ l, c t = false
  | some s => s ∈ l ∧ c s = true ∧ ∀ t ∈ l, c t = true → ltE p t s = false
end Dd
namespace Dd
open PySem PySem.Spec PyProof.Rows L2
def askU (rs : List Row) (qs : List Qy) : List Row := (unk rs).filter fun r => decide (r.nm ∈ qs.flatMap Qy.ns)
end Dd
namespace Dd
open PySem PySem.Spec PyProof.Rows L2
abbrev fndR (g : Nm → Fq) (l : List Row) : List (Nm × Fq) := l.map fun r => (r.nm, g r.nm)
def swT (g : Nm → Fq) (A : List Row) (p : Nm → Int) : PyData := .tuple [.int ((namS g A p).map p).sum, .list ((namS g A p).map nS), .tuple [.str "sweep", .list ((forcd g A).map npD), .list ((swCh (optR A (forcd g A)) p).map chD)]]
def isSC : Qy → Bool
  | .sort _ => true
  | .cmp _ _ => true
  | _ => false
end Dd
namespace Dd
open PySem PySem.Spec PyProof.Rows L2
def minI : List Int → Int
  | [] => 0
  | x :: r => r.foldl min2 x
theorem minD_i : ∀ (xs : List Int) (x : Int), PySem.W.minD (.int x) (xs.map PyData.int) = .int (xs.foldl min2 x)
  | [], x => rfl
  | y :: r, x => by
    have e : PySem.W.dataLt (.int y) (.int x) = decide (y < x) := by
      show lexLt itemOrd [.inl y] [.inl x] = _
      rw [lex_cons]
      show (decide (y < x) || (!decide (x < y) && false)) = _
      rw [Bool.and_false, Bool.or_false]
    have ih := minD_i r (min2 x y)
    rw [List.foldl_cons, ← ih]
    show PySem.W.minD (.int x) (.int y :: r.map PyData.int) = _
    unfold min2
    unfold PySem.W.minD
    rw [List.foldl_cons, e]
    by_cases z : y < x
    · simp [z]
    · simp [z]
theorem fold_min : ∀ (xs : List Int) (x : Int), (xs.foldl min2 x ∈ x :: xs) ∧ ∀ y ∈ x :: xs, xs.foldl min2 x ≤ y
  | [], x => ⟨List.mem_cons_self, fun y hy => by rw [List.mem_singleton.mp hy]; exact Int.le_refl _⟩
  | a :: r, x => by
    obtain ⟨h1, h2⟩ := fold_min r (min2 x a)
    rw [List.foldl_cons]
    have ml : min2 x a ≤ x ∧ min2 x a ≤ a ∧ (min2 x a = x ∨ min2 x a = a) := by unfold min2; split <;> refine ⟨?_, ?_, ?_⟩ <;> omega
    refine ⟨?_, fun y hy => ?_⟩
    · rcases List.mem_cons.mp h1 with z | z
      · rw [z]
        rcases ml.2.2 with w | w
        · rw [w]; exact List.mem_cons_self
        · rw [w]; exact List.mem_cons_of_mem _ List.mem_cons_self
      · exact List.mem_cons_of_mem _ (List.mem_cons_of_mem _ z)
    · have h0 := h2 _ List.mem_cons_self
      rcases List.mem_cons.mp hy with z | z
      · subst z; omega
      · rcases List.mem_cons.mp z with z | z
        · subst z; omega
        · exact h2 y (List.mem_cons_of_mem _ z)
theorem minI_mem {l : List Int} (ne : l ≠ []) : minI l ∈ l := by
  obtain ⟨x, r, rfl⟩ := List.exists_cons_of_ne_nil ne
  exact (fold_min r x).1
theorem minI_le {l : List Int} {y : Int} (hy : y ∈ l) : minI l ≤ y := by
  cases l with
  | nil => exact absurd hy List.not_mem_nil
  | cons x r => exact (fold_min r x).2 y hy
theorem lay_i (i : Int) : (PyData.int i).canLay0 = true ∧ (PyData.int i).depth ≤ 0 := ⟨rfl, Nat.le_refl 0⟩
theorem pickI {l : List Int} (ne : l ≠ []) : bPick false [.d (.list (l.map PyData.int))] = pure (dI (minI l)) := by
  obtain ⟨x, xs, rfl⟩ := List.exists_cons_of_ne_nil ne
  have ly := lay_map (enc := PyData.int) (d := 0) lay_i (x :: xs)
  show (M.need _ >>= _) = _
  rw [need_of ⟨alike_all (enc := PyData.int) (fun _ _ => rfl) (fun a z => nomatch z) (x :: xs), ly.1, Nat.le_trans ly.2 (by decide)⟩]
  show pure (SD.d (PySem.W.minD (.int x) (xs.map PyData.int))) = _
  rw [minD_i]
  rfl
instance : Inhabited Fq := ⟨intq 0 (by decide +kernel)⟩
def smq (v m : Fq) : Fq := if R v < R m then v else m
def lsq (l : List Fq) : Fq := l.foldl (fun m x => smq x m) (l.headD default)
def stB (rs : List Row) (b : Fq) : List Row := (unk rs).filter fun r => decide (R r.lo < R b)
def othR (rs : List Row) (r : Row) : List Row := (stB rs r.hi).filter fun o => !decide (o.nm = r.nm)
def opnB (g : Nm → Fq) (rs : List Row) (r : Row) : Bool := (othR rs r ++ rs.filter kn).all fun o => !decide (R (g o.nm) < R r.hi)
def onD : Option Nm → PyData
  | none => .none
  | some n => nS n
abbrev optD (o : Option Nm × List Row) : PyData := .tuple [onD o.1, .list (o.2.map rw')]
def opnO (g : Nm → Fq) (rs : List Row) (l : List Row) : List (Option Nm × List Row) := (l.filter (opnB g rs)).map fun r => (some r.nm, othR rs r)
end Dd
namespace Dd
open PySem PySem.Spec PyProof.Rows L2
theorem seqK41 {m : M Out} {f : List SD → M Out} {P : Out → Prop} {E : Exn → Prop} (h : ∀ f', f' = f → m.run (fun o => match o with
    | .nx ρ => (f' ρ).run P E
    | o => P o) E) : (seqM m f).run P E := seq_runX (h f rfl)
theorem seqP41 {ρ : List SD} {f : List SD → M Out} {P : Out → Prop} {E : Exn → Prop} (h : (f ρ).run P E) : (pure (Out.nx ρ) : M Out).run (fun o => match o with
    | .nx ρ => (f ρ).run P E
    | o => P o) E := h
theorem seqR41 {m : M Out} {f : List SD → M Out} {P : Out → Prop} {E : Exn → Prop} (R : List SD → Prop) (h : m.run (fun o => match o with
    | .nx ρ => R ρ
    | _ => False) E) (k : ∀ ρ, R ρ → (f ρ).run P E) : (seqM m f).run P E := seq_runX (m.mono (fun o z => by
  cases o with
  | nx ρ => exact k ρ z
  | _ => exact z.elim) (fun _ z => z) h)
theorem sh_gf1 {a : Fq} (h : GF 39 a.p) : ShF a := by
  obtain ⟨h1, h2, _⟩ := h
  have e : (2 : Nat) ^ 39 < 10 ^ 12 := by decide
  exact ⟨Nat.lt_trans h1 e, Nat.lt_trans h2 e⟩
theorem tq_gen1 {q : Qy} {rs : List Row} (g : QGen q rs) : Tq q := ⟨fun ns t e => sh_gf1 ((g.gf ns t e).up (by decide)), g.ok.ne, g.ok.nd, g.ok.len⟩
theorem texts_lc1 {qs : List Qy} (h : ∀ q ∈ qs, Tq q) (hl : qs.length ≤ 20) {d : List SD → M SD} (hd : ∀ q ∈ qs, d [.d (qD q)] = pure (.d (.str (textQ q)))) : lcF (fun _ => pure true) (fun q => M.calm (M.calm (d [.d (qD q)]))) qs [] = pure ((qs.map textQ).map PyData.str) := by
  haveI : Ln 20 qs := ⟨hl⟩
  rw [lcF_congr (B' := fun _ => pure true) (T' := fun q => pure (.d (.str (textQ q)))) (fun _ _ => rfl) (fun q hq => by rw [hd q hq]; rfl), sp_lcT (n := 20), List.map_map]
  rfl
theorem parse_good {qs : List Qy} (tq : ∀ q ∈ qs, Tq q) (hl : qs.length ≤ 8) : (d_parse_queries [.d (.str (Txt.join semi (qs.map textQ)))]).run (fun _ => True) (fun _ => False) := by
  by_cases ne : qs = []
  · subst ne
    have e : Txt.join semi (([] : List Qy).map textQ) = ("" : Str) := by
      refine TL.ext_tl ?_
      rw [List.map_nil, TL.join_eq, TL.tl_join]
      decide +kernel
    rw [e]
    have g : gEq (.d (.str "")) (.d (.str "")) = some (dB true) := eqw (by decide +kernel) (by decide +kernel) (by decide +kernel)
    have l : gLst [] = some (.d (.list [])) := rfl
    refine def_run ?_
    simp [u_parse_queries, g, l, frzS]
    exact trivial
  · exact parse_run (f := pure) tq ne hl trivial
theorem law_run : (u_law (.no :: .src :: List.replicate 10 .no)).run (fun o => o = .rt (dB true)) (fun _ => False) := by
  show (u_law [.no, .src, .no, .no, .no, .no, .no, .no, .no, .no, .no, .no]).run _ _
  unfold u_law
  refine seqK41 fun f1 hf1 => ?_
  refine seqP41 (ρ := [.no, .src, .d (.list ((badT.take 7).map PyData.str)), .no, .no, .no, .no, .no, .no, .no, .no, .no]) ?_
  subst hf1
  refine seqK41 fun f1 hf1 => ?_
  refine seqP41 (ρ := [.no, .src, .d (.list ((badT.take 10).map PyData.str)), .no, .no, .no, .no, .no, .no, .no, .no, .no]) ?_
  subst hf1
  refine seqK41 fun f1 hf1 => ?_
  refine seqP41 (ρ := [.no, .src, .d (.list ((badT.take 14).map PyData.str)), .no, .no, .no, .no, .no, .no, .no, .no, .no]) ?_
  subst hf1
  refine seqK41 fun f1 hf1 => ?_
  refine seqP41 (ρ := [.no, .src, .d (.list ((badT.take 17).map PyData.str)), .no, .no, .no, .no, .no, .no, .no, .no, .no]) ?_
  subst hf1
  refine seqK41 fun f1 hf1 => ?_
  refine seqP41 (ρ := [.no, .src, .d (.list ((badT.take 21).map PyData.str)), .no, .no, .no, .no, .no, .no, .no, .no, .no]) ?_
  subst hf1
  refine seqK41 fun f1 hf1 => ?_
  refine seqP41 (ρ := [.no, .src, .d (.list ((badT.take 24).map PyData.str)), .no, .no, .no, .no, .no, .no, .no, .no, .no]) ?_
  subst hf1
  refine seqK41 fun f1 hf1 => ?_
  refine seqP41 (ρ := [.no, .src, .d (.list ((badT.take 29).map PyData.str)), .no, .no, .no, .no, .no, .no, .no, .no, .no]) ?_
  subst hf1
  refine seqK41 fun f1 hf1 => ?_
  refine seqP41 (ρ := [.no, .src, .d (.list ((badT.take 31).map PyData.str)), .no, .no, .no, .no, .no, .no, .no, .no, .no]) ?_
  subst hf1
  rw [show badT.take 31 = badT from rfl]
  refine seqR41 (fun ρ => ∃ a3 a4 a5 a6 a7, ρ = [.no, .src, .d (.list (badT.map PyData.str)), a3, a4, a5, a6, a7, .no, .no, .no, .no]) ?_ fun ρ hρ => ?_
  · simp only [sp_pure_bnd, sp_asI, sp_lift_some, big_of (show (0 : Int) ≤ 5 by decide) (by decide), sp_when_true, rangeD]
    refine for_runX (fun i : Nat => dI (0 + (i : Int))) (fun done ρ => ∃ a3 a4 a5 a6 a7, ρ = [.no, .src, .d (.list (badT.map PyData.str)), a3, a4, a5, a6, a7, .no, .no, .no, .no]) (List.range 5) ⟨_, _, _, _, _, rfl⟩ (fun ρ hi => hi) fun done x rest ρ _ hi => ?_
    obtain ⟨a3, a4, a5, a6, a7, rfl⟩ := hi
    generalize hB : PyData.list (badT.map PyData.str) = B
    rw [show kOf (.nm 3) (dI (0 + (x : Int))) [.no, .src, .d B, a3, a4, a5, a6, a7, .no, .no, .no, .no] = some [.no, .src, .d B, dI (0 + (x : Int)), a4, a5, a6, a7, .no, .no, .no, .no] from rfl, sp_lift_some, sp_pure_bnd]
    generalize dI (0 + (x : Int)) = c3
    refine seqK41 fun f1 hf1 => ?_
    simp
    refine intervals_run (by decide) (by decide) (by decide) (by decide) fun rs gr => ?_
    simp
    refine seqP41 ?_
    subst hf1
    refine seqK41 fun f1 hf1 => ?_
    simp
    refine queries_run gr.iv gr.ne gr.gf (by decide) (by decide) fun qs hq ql => ?_
    simp [lcM_map]
    have tq : ∀ q ∈ qs, Tq q := fun q h => tq_gen1 (hq q h)
    rw [texts_lc1 tq (by omega) fun q hq => d_format_query_eq (tq q hq).sh (tq q hq).len]
    simp [-List.map_map]
    refine seqP41 ?_
    subst hf1
    have pg := parse_good tq (by omega)
    have ptT : ∀ w ∈ qs.map textQ, Pt w := fun w hw => by
      obtain ⟨q, hq, rfl⟩ := List.mem_map.mp hw
      exact pt_q (tq q hq)
    have pqT : ∀ w ∈ qs.map textQ, Pt w ∧ ∃ d : PyData, d_parse_query [.d (.str w)] = pure (.d d) ∧ gIsB (.d d) (.d .none) = some (dB false) := fun w hw => by
      refine ⟨ptT w hw, ?_⟩
      obtain ⟨q, hq, rfl⟩ := List.mem_map.mp hw
      refine ⟨qD q, d_parse_query_eq (tq q hq).sh (tq q hq).ne (tq q hq).nd (tq q hq).len, ?_⟩
      cases q <;> rfl
    have lT : (qs.map textQ).length ≤ 6 := by rw [List.length_map]; omega
    generalize qs.map textQ = T at *
    have jT := join_parts ptT (by omega)
    have tx : ∀ x : Str, asTx (.d (.str x)) = some x := fun _ => rfl
    have gn : gIsNot (.d .none) (.d .none) = some (dB false) := rfl
    refine seqK41 fun f1 hf1 => ?_
    simp [tx, jT, frzS, -List.map_map]
    refine index_okC pg ?_
    simp [gn, -List.map_map]
    refine seqP41 ?_
    subst hf1
    refine seqK41 fun f1 hf1 => ?_
    have bl : bLen [.own (T.map PyData.str)] = pure (dI T.length) := by
      rw [show bLen [.own (T.map PyData.str)] = pure (dI (T.map PyData.str).length) from rfl, List.length_map]
    simp [bl, -List.map_map]
    refine drawS (by omega) (by omega) fun v v0 v1 => ?_
    simp [-List.map_map]
    refine seqP41 ?_
    subst hf1
    obtain ⟨j, rfl⟩ := Int.eq_ofNat_of_zero_le v0
    have jl : j ≤ T.length := by omega
    refine seqK41 fun f1 hf1 => ?_
    have gne : gNeL (.own (T.map PyData.str)) (.d (.list [])) = some (dB (decide (T ≠ []))) := by
      cases T <;> rfl
    have l0 : gLst [] = some (.d (.list [])) := rfl
    simp [l0, gne, -List.map_map]
    have key : ∃ ws : List Str, ws ≠ [] ∧ (∀ w ∈ ws, w ∈ badT) ∧ (T = [] → ("" : Str) ∉ ws) ∧ ws.length ≤ 100 ∧ (if T = [] then M.lift (gSl (.d B) (some 1) none) else pure (.d B)) = (pure (.d (.list (ws.map PyData.str))) : M SD) := by
      subst hB
      by_cases e : T = []
      · refine ⟨badT.tail, by decide, fun w h => List.mem_of_mem_tail h, fun _ => by decide +kernel, by decide, ?_⟩
        rw [if_pos e]
        rfl
      · exact ⟨badT, by decide, fun w h => h, fun z => absurd z e, by decide, if_neg e⟩
    obtain ⟨ws, wne, wb, w0, wl, we⟩ := key
    rw [we]
    simp [-List.map_map]
    refine choice_run PyData.str ws wne (by omega) fun w hw => ?_
    simp [-List.map_map]
    refine seqP41 ?_
    subst hf1
    refine seqK41 fun f1 hf1 => ?_
    have bj : bigI (j : Int) = true := big_of (by omega) (by omega)
    have sz : szOk (T.length + 1) = true := decide_eq_true (by omega)
    simp [bj, sz, -List.map_map, -List.map_take, -List.map_drop]
    refine seqP41 ?_
    subst hf1
    have e5 : (T.map PyData.str).take j ++ PyData.str w :: (T.map PyData.str).drop j = (T.take j ++ w :: T.drop j).map PyData.str := by
      rw [List.map_append, List.map_cons, List.map_take, List.map_drop]
    rw [e5]
    have ne1 : T.take j ++ w :: T.drop j ≠ [("" : Str)] := fun z => by
      cases T with
      | nil =>
        simp at z
        exact w0 rfl (z ▸ hw)
      | cons a r =>
        have := congrArg List.length z
        simp at this
        omega
    have lj : (T.take j).length = j := by rw [List.length_take]; omega
    have pa : ∀ y ∈ T.take j ++ w :: T.drop j, Pt y := fun y hy => by
      rcases List.mem_append.mp hy with h | h
      · exact ptT y (List.mem_of_mem_take h)
      · rcases List.mem_cons.mp h with rfl | h
        · exact bad_pt _ (wb _ hw)
        · exact ptT y (List.mem_of_mem_drop h)
    have ll : (T.take j ++ w :: T.drop j).length ≤ 20 := by
      rw [List.length_append, List.length_cons, List.length_take, List.length_drop]
      omega
    have jj := join_parts pa ll
    have th := parse_thr (pre := T.take j) (x := w) (post := T.drop j) (fun y hy => pqT y (List.mem_of_mem_take hy)) (bad_pt _ (wb _ hw)) (bad_pq _ (wb _ hw)) (.inl rfl) (by omega) (fun y hy => ptT y (List.mem_of_mem_drop hy)) ne1 ll
    rw [lj] at th
    generalize T.take j ++ w :: T.drop j = Z at *
    simp [tx, jj, frzS, -List.map_map]
    refine index_runC th ?_
    have sm : sameM 3 [.d (.int (j : Int)), .d (.int (j : Int))] = pure (dB true) := same_eq (by first | trivial | rfl) (by simp [PyData.canLay0])
    simp [sm]
    exact ⟨_, _, _, _, _, rfl⟩
  · obtain ⟨a3, a4, a5, a6, a7, rfl⟩ := hρ
    generalize hB : PyData.list (badT.map PyData.str) = B
    have l1 : gLst [.d (.str "min a")] = some (.d (.list [.str "min a"])) := rfl
    refine seqK41 fun f1 hf1 => ?_
    simp [l1]
    refine drawS (by decide) (by decide) fun v v0 v1 => ?_
    obtain ⟨n, hn⟩ := Int.eq_ofNat_of_zero_le (show (0 : Int) ≤ 2 + v by omega)
    have nl : 2 ≤ n ∧ n ≤ 10 := by omega
    have rp : ∀ k : Nat, k ≤ 20 → gRepO (.d (.list [.str "min a"])) (.d (.int (k : Int))) = some ((List.replicate k ("min a" : Str)).map PyData.str) := fun k hk => by
      show (if _ then _ else _) = _
      rw [if_pos]
      · rw [Int.toNat_natCast, List.map_replicate]
        congr 1
        induction k with
        | zero => rfl
        | succ k ih => rw [List.replicate_succ, List.replicate_succ, List.flatten_cons, ih (by omega)]; rfl
      · rw [Int.toNat_natCast, show szOk ([PyData.str "min a"].length * k) = true from decide_eq_true (by simp; omega)]
        simp
        omega
    have rpn := rp n (by omega)
    rw [← hn] at rpn
    simp [rpn, -List.map_replicate]
    refine seqP41 ?_
    subst hf1
    refine seqK41 fun f1 hf1 => ?_
    have bl : bLen [.own ((List.replicate n ("min a" : Str)).map PyData.str)] = pure (dI n) := by
      rw [show bLen [.own ((List.replicate n ("min a" : Str)).map PyData.str)] = pure (dI ((List.replicate n ("min a" : Str)).map PyData.str).length) from rfl, List.length_map, List.length_replicate]
    simp [bl, -List.map_replicate]
    rw [show decide ((n : Int) ≤ 100000) = true from decide_eq_true (by omega), sp_when_true]
    simp [-List.map_replicate]
    refine shuffled_run (fun i : Nat => PyData.int (i : Int)) (List.range n) (by simp; omega) fun ys py => ?_
    have ly := py.length_eq
    rw [List.length_range] at ly
    obtain ⟨a, b, r, rfl⟩ : ∃ a b r, ys = a :: b :: r := by
      cases ys with
      | nil => simp at ly; omega
      | cons a ys =>
        cases ys with
        | nil => simp at ly; omega
        | cons b r => exact ⟨a, b, r, rfl⟩
    have an : a < n := by
      have := py.subset List.mem_cons_self
      simpa using this
    have bn : b < n := by
      have := py.subset (List.mem_cons_of_mem _ List.mem_cons_self)
      simpa using this
    have ab : a ≠ b := by
      have := py.nodup_iff.mpr List.nodup_range
      rw [List.nodup_cons] at this
      exact fun z => this.1 (z ▸ List.mem_cons_self)
    have sl : gSl (.d (.list ((a :: b :: r).map fun i : Nat => PyData.int (i : Int)))) none (some 2) = some (.d (.list [.int (a : Int), .int (b : Int)])) := by
      have c : cutD ((a :: b :: r).map fun i : Nat => PyData.int (i : Int)) none (some ((2 : Nat) : Int)) = _ := cut_to _ 2
      show some (SD.d (.list (cutD ((a :: b :: r).map fun i : Nat => PyData.int (i : Int)) none (some 2)))) = _
      rw [show (2 : Int) = ((2 : Nat) : Int) from rfl, c]
      rfl
    simp [sl, -List.map_replicate, -List.map_cons]
    refine seqP41 ?_
    subst hf1
    refine seqK41 fun f1 hf1 => ?_
    have s1 : szOk n = true := decide_eq_true (by omega)
    simp [s1, an, -List.map_replicate]
    refine seqP41 ?_
    subst hf1
    refine seqK41 fun f1 hf1 => ?_
    simp [s1, bn, -List.map_replicate]
    refine seqP41 ?_
    subst hf1
    have eZ : (((List.replicate n ("min a" : Str)).map PyData.str).set a (.str "sort")).set b (.str "above 2/2 a") = (((List.replicate n ("min a" : Str)).set a "sort").set b "above 2/2 a").map PyData.str := by
      rw [List.map_set, List.map_set]
    rw [eZ]
    have zl : (((List.replicate n ("min a" : Str)).set a "sort").set b "above 2/2 a").length = n := by simp
    have zg : ∀ i (h : i < (((List.replicate n ("min a" : Str)).set a "sort").set b "above 2/2 a").length), (((List.replicate n ("min a" : Str)).set a "sort").set b "above 2/2 a")[i] = if b = i then ("above 2/2 a" : Str) else if a = i then ("sort" : Str) else ("min a" : Str) := fun i h => by
      rw [List.getElem_set, List.getElem_set, List.getElem_replicate]
    generalize ((List.replicate n ("min a" : Str)).set a "sort").set b "above 2/2 a" = Z at *
    have pk := pickI (l := [(a : Int), (b : Int), 8]) (by simp)
    have mm := minI_mem (l := [(a : Int), (b : Int), 8]) (by simp)
    have ma := minI_le (l := [(a : Int), (b : Int), 8]) (y := (a : Int)) (by simp)
    have mb := minI_le (l := [(a : Int), (b : Int), 8]) (y := (b : Int)) (by simp)
    have m8 := minI_le (l := [(a : Int), (b : Int), 8]) (y := 8) (by simp)
    simp only [List.mem_cons, List.not_mem_nil, or_false] at mm
    obtain ⟨m, hm⟩ : ∃ m : Nat, minI [(a : Int), (b : Int), 8] = (m : Int) := Int.eq_ofNat_of_zero_le (by omega)
    rw [hm] at pk mm ma mb m8
    have mn : m < n := by omega
    have sp : Z = Z.take m ++ Z[m]'(by omega) :: Z.drop (m + 1) := by
      rw [← List.drop_eq_getElem_cons, List.take_append_drop]
    have all : ∀ w ∈ Z, Pt w := fun w hw => by
      obtain ⟨i, hi, rfl⟩ := List.getElem_of_mem hw
      rw [zg i hi]
      split
      · exact pt_22
      · split
        · exact pt_sort
        · exact pt_min
    have pre : ∀ w ∈ Z.take m, Pt w ∧ ∃ d : PyData, d_parse_query [.d (.str w)] = pure (.d d) ∧ gIsB (.d d) (.d .none) = some (dB false) := fun w hw => by
      refine ⟨all w (List.mem_of_mem_take hw), ?_⟩
      obtain ⟨i, hi, rfl⟩ := List.mem_take_iff_getElem.mp hw
      rw [zg i (by omega), if_neg (by omega), if_neg (by omega)]
      exact ⟨_, pq_min, rfl⟩
    have hx : ∃ o : PyData, d_parse_query [.d (.str (Z[m]'(by omega)))] = pure (.d o) ∧ (o = .none ∨ (Z.take m).length = 8 ∧ gIsB (.d o) (.d .none) = some (dB false)) := by
      rw [zg m (by omega)]
      by_cases e1 : b = m
      · rw [if_pos e1]
        exact ⟨_, bad_22, .inl rfl⟩
      · rw [if_neg e1]
        by_cases e2 : a = m
        · rw [if_pos e2]
          exact ⟨_, bad_sort, .inl rfl⟩
        · rw [if_neg e2]
          exact ⟨_, pq_min, .inr ⟨by rw [List.length_take]; omega, rfl⟩⟩
    obtain ⟨o, po, no⟩ := hx
    have th := parse_thr pre (all _ (List.getElem_mem _)) po no (by rw [List.length_take]; omega) (fun w hw => all w (List.mem_of_mem_drop hw)) (by
      rw [← sp]
      intro z
      have := congrArg List.length z
      rw [zl] at this
      simp at this
      omega) (by rw [← sp]; omega)
    rw [← sp, List.length_take, Nat.min_eq_left (by omega)] at th
    have jz := join_parts all (by omega)
    have tx : ∀ x : Str, asTx (.d (.str x)) = some x := fun _ => rfl
    have l3 : gLst [.d (.int (a : Int)), .d (.int (b : Int)), .d (.int 8)] = some (.d (.list ([(a : Int), (b : Int), 8].map PyData.int))) := rfl
    have sm : ∀ j : Int, sameM 3 [.d (.int j), .d (.int j)] = pure (dB true) := fun j => same_eq (by first | trivial | rfl) (by simp [PyData.canLay0])
    refine seqK41 fun f1 hf1 => ?_
    simp [tx, jz, frzS, -List.map_map]
    refine index_runC th ?_
    rw [show bPick false [SD.d (PyData.list [PyData.int (a : Int), PyData.int (b : Int), PyData.int 8])] = pure (dI m) from pk]
    simp [sm]
    refine seqP41 ?_
    subst hf1
    have r9 : gRep (.d (.list [.str "min a"])) (.d (.int 9)) = some (.d (.list ((List.replicate 9 ("min a" : Str)).map PyData.str))) := rfl
    refine seqK41 fun f1 hf1 => ?_
    simp [l1, r9, -List.map_replicate]
    refine seqP41 ?_
    subst hf1
    have p9 : ∀ w ∈ List.replicate 9 ("min a" : Str), Pt w := fun w hw => by
      rw [List.eq_of_mem_replicate hw]
      exact pt_min
    have j9 := join_parts p9 (by simp)
    have t9 := parse_thr (pre := List.replicate 8 ("min a" : Str)) (x := "min a") (post := []) (fun w hw => by
      rw [List.eq_of_mem_replicate hw]
      exact ⟨pt_min, _, pq_min, rfl⟩) pt_min pq_min (.inr ⟨by simp, rfl⟩) (by simp) (by simp) (by decide +kernel) (by simp)
    rw [show List.replicate 8 ("min a" : Str) ++ [("min a" : Str)] = List.replicate 9 ("min a" : Str) from rfl] at t9
    refine seqK41 fun f1 hf1 => ?_
    have j9' : gJoin semi (.d (.list [.str "min a", .str "min a", .str "min a", .str "min a", .str "min a", .str "min a", .str "min a", .str "min a", .str "min a"])) = some (.d (.str (Txt.join semi (List.replicate 9 ("min a" : Str))))) := j9
    simp [tx, j9', frzS]
    refine index_runC t9 ?_
    simp [sm]
    refine seqP41 ?_
    subst hf1
    have tq8 : ∀ q ∈ List.replicate 8 (Qy.mn [⟨"a", by decide +kernel⟩]), Tq q := fun q hq => by
      rw [List.eq_of_mem_replicate hq]
      exact ⟨fun ns t e => (nomatch e), by simp [Qy.ns], by simp [Qy.ns], by simp [Qy.ns]⟩
    have tt : (List.replicate 8 (Qy.mn [⟨"a", by decide +kernel⟩])).map textQ = List.replicate 8 ("min a" : Str) := by
      rw [List.map_replicate]
      congr 1
    have p8 : ∀ w ∈ List.replicate 8 ("min a" : Str), Pt w := fun w hw => by
      rw [List.eq_of_mem_replicate hw]
      exact pt_min
    have j8 := join_parts p8 (by simp)
    have j8' : gJoin semi (.d (.list [.str "min a", .str "min a", .str "min a", .str "min a", .str "min a", .str "min a", .str "min a", .str "min a"])) = some (.d (.str (Txt.join semi (List.replicate 8 ("min a" : Str))))) := j8
    have s8 : gSl (.d (.list [.str "min a", .str "min a", .str "min a", .str "min a", .str "min a", .str "min a", .str "min a", .str "min a", .str "min a"])) none (some 8) = some (.d (.list [.str "min a", .str "min a", .str "min a", .str "min a", .str "min a", .str "min a", .str "min a", .str "min a"])) := rfl
    simp [tx, s8, j8', frzS]
    rw [show ([("min a" : Str), "min a", "min a", "min a", "min a", "min a", "min a", "min a"] : List Str) = (List.replicate 8 (Qy.mn [⟨"a", by decide +kernel⟩])).map textQ from tt.symm]
    refine parse_run tq8 (by simp) (by simp) ?_
    have b8 : bLen [.d (.list ((List.replicate 8 (Qy.mn [⟨"a", by decide +kernel⟩])).map qD))] = pure (dI 8) := rfl
    simp [b8, -List.map_replicate]
    exact rfl
end Dd
open PySem PySem.W PyProof.Rows
set_option maxRecDepth 100000 in
set_option maxHeartbeats 0 in
theorem PySem.Challenge.cw_doubtwell_k41_invalid_query_text_holds : PySem.Challenge.rw_doubtwell_k41_invalid_query_text.Holds := by
  refine Dd.theTop ?_
  k_fill
  refine L2.walk_of (l := PySem.Challenge.rw_doubtwell_k41_invalid_query_text) (n := 63) (k := 7) (x := "_law_script") (CX := fun w => L2.CX (PySem.Challenge.rw_doubtwell_k41_invalid_query_text.prog) w) (sp := fun w => Dd.spLawD _) rfl (by decide) rfl ⟨rfl, by decide, by decide⟩ (fun w h Y => PySem.W.kIn_of Y) ?F (fun _ _ a ns hl _ hS => ⟨a, ns, rfl, hS, ⟨fun p hp => absurd (show p ∈ ([] : List (Addr × Str)) from hp) List.not_mem_nil, fun _ => rfl⟩⟩) ?CC
  case CC => exact Dd.cx_never
  case F =>
    intro w mg fa h KX G hmg
    refine' Dd.at_then (x := "_law_shuffled") (st := Dd.s__law_shuffled) KX G ?a3 ?l3 ?c3 ?k3 ?z3
    (case a3 => k_is)
    (case l3 => k_is)
    (case c3 => k_is)
    (case k3 => k_is)
    intro A3
    refine' Dd.at_then (x := "_law_gcd") (st := Dd.s__law_gcd) KX G ?a4 ?l4 ?c4 ?k4 ?z4
    (case a4 => k_is)
    (case l4 => k_is)
    (case c4 => k_is)
    (case k4 => k_is)
    intro A4
    refine' Dd.at_then (x := "_law_reduced") (st := Dd.s__law_reduced) KX G ?a5 ?l5 ?c5 ?k5 ?z5
    (case a5 => k_is)
    (case l5 => k_is)
    (case c5 => k_is)
    (case k5 => k_is)
    intro A5
    refine' Dd.at_then (x := "_law_bound") (st := Dd.s__law_bound) KX G ?a6 ?l6 ?c6 ?k6 ?z6
    (case a6 => k_is)
    (case l6 => k_is)
    (case c6 => k_is)
    (case k6 => k_is)
    intro A6
    refine' Dd.at_then (x := "_law_less") (st := Dd.s__law_less) KX G ?a7 ?l7 ?c7 ?k7 ?z7
    (case a7 => k_is)
    (case l7 => k_is)
    (case c7 => k_is)
    (case k7 => k_is)
    intro A7
    refine' Dd.at_then (x := "_law_choice") (st := Dd.s__law_choice) KX G ?a8 ?l8 ?c8 ?k8 ?z8
    (case a8 => k_is)
    (case l8 => k_is)
    (case c8 => k_is)
    (case k8 => k_is)
    intro A8
    refine' Dd.at_then (x := "_law_interval") (st := Dd.s__law_interval) KX G ?a9 ?l9 ?c9 ?k9 ?z9
    (case a9 => k_is)
    (case l9 => k_is)
    (case c9 => k_is)
    (case k9 => k_is)
    intro A9
    refine' Dd.at_then (x := "_law_intervals") (st := Dd.s__law_intervals) KX G ?a10 ?l10 ?c10 ?k10 ?z10
    (case a10 => k_is)
    (case l10 => k_is)
    (case c10 => k_is)
    (case k10 => k_is)
    intro A10
    refine' Dd.at_then (x := "format_fraction") (st := Dd.s_format_fraction) KX G ?a11 ?l11 ?c11 ?k11 ?z11
    (case a11 => k_is)
    (case l11 => k_is)
    (case c11 => k_is)
    (case k11 => k_is)
    intro A11
    refine' Dd.at_then (x := "names_of") (st := Dd.s_names_of) KX G ?a12 ?l12 ?c12 ?k12 ?z12
    (case a12 => k_is)
    (case l12 => k_is)
    (case c12 => k_is)
    (case k12 => k_is)
    intro A12
    refine' Dd.at_then (x := "format_query") (st := Dd.s_format_query) KX G ?a13 ?l13 ?c13 ?k13 ?z13
    (case a13 => k_is)
    (case l13 => k_is)
    (case c13 => k_is)
    (case k13 => k_is)
    intro A13
    refine' Dd.at_then (x := "is_short_number") (st := Dd.s_is_short_number) KX G ?a14 ?l14 ?c14 ?k14 ?z14
    (case a14 => k_is)
    (case l14 => k_is)
    (case c14 => k_is)
    (case k14 => k_is)
    intro A14
    refine' Dd.at_then (x := "greatest_divisor") (st := Dd.s_greatest_divisor) KX G ?a15 ?l15 ?c15 ?k15 ?z15
    (case a15 => k_is)
    (case l15 => k_is)
    (case c15 => k_is)
    (case k15 => k_is)
    intro A15
    refine' Dd.at_then (x := "is_fraction") (st := Dd.s_is_fraction) KX G ?a16 ?l16 ?c16 ?k16 ?z16
    (case a16 => k_is)
    (case l16 => k_is)
    (case c16 => k_is)
    (case k16 => k_is)
    intro A16
    refine' Dd.at_then (x := "parse_fraction") (st := Dd.s_parse_fraction) KX G ?a17 ?l17 ?c17 ?k17 ?z17
    (case a17 => k_is)
    (case l17 => k_is)
    (case c17 => k_is)
    (case k17 => k_is)
    intro A17
    refine' Dd.at_then (x := "is_name") (st := Dd.s_is_name) KX G ?a18 ?l18 ?c18 ?k18 ?z18
    (case a18 => k_is)
    (case l18 => k_is)
    (case c18 => k_is)
    (case k18 => k_is)
    intro A18
    refine' Dd.at_then (x := "are_text_names") (st := Dd.s_are_text_names) KX G ?a19 ?l19 ?c19 ?k19 ?z19
    (case a19 => k_is)
    (case l19 => k_is)
    (case c19 => k_is)
    (case k19 => k_is)
    intro A19
    refine' Dd.at_then (x := "parse_query") (st := Dd.s_parse_query) KX G ?a20 ?l20 ?c20 ?k20 ?z20
    (case a20 => k_is)
    (case l20 => k_is)
    (case c20 => k_is)
    (case k20 => k_is)
    intro A20
    refine' Dd.at_then (x := "parse_queries") (st := Dd.s_parse_queries) KX G ?a21 ?l21 ?c21 ?k21 ?z21
    (case a21 => k_is)
    (case l21 => k_is)
    (case c21 => k_is)
    (case k21 => k_is)
    intro A21
    refine' Dd.at_then (x := "_law_index") (st := Dd.s__law_index) KX G ?a22 ?l22 ?c22 ?k22 ?z22
    (case a22 => k_is)
    (case l22 => k_is)
    (case c22 => k_is)
    (case k22 => k_is)
    intro A22
    refine' Dd.at_then (x := "_law_names") (st := Dd.s__law_names) KX G ?a23 ?l23 ?c23 ?k23 ?z23
    (case a23 => k_is)
    (case l23 => k_is)
    (case c23 => k_is)
    (case k23 => k_is)
    intro A23
    refine' Dd.at_then (x := "_law_all_bounds") (st := Dd.s__law_all_bounds) KX G ?a24 ?l24 ?c24 ?k24 ?z24
    (case a24 => k_is)
    (case l24 => k_is)
    (case c24 => k_is)
    (case k24 => k_is)
    intro A24
    refine' Dd.at_then (x := "_law_query") (st := Dd.s__law_query) KX G ?a25 ?l25 ?c25 ?k25 ?z25
    (case a25 => k_is)
    (case l25 => k_is)
    (case c25 => k_is)
    (case k25 => k_is)
    intro A25
    refine' Dd.at_then (x := "_law_queries") (st := Dd.s__law_queries) KX G ?a26 ?l26 ?c26 ?k26 ?z26
    (case a26 => k_is)
    (case l26 => k_is)
    (case c26 => k_is)
    (case k26 => k_is)
    intro A26
    refine' Dd.errs_then (l := PySem.Challenge.rw_doubtwell_k41_invalid_query_text) (w := w) KX G ?b_ValueError ?b_LookupError ?g_QueryError ?g_InvalidText ?zb_InvalidText ?zi_InvalidText ?zt_InvalidText ?zb_QueryError ?zi_QueryError ?zt_QueryError ?fQi ?rQ ?gQ ?vV ?x_InvalidText ?r_InvalidText ?s_InvalidText_ ?e_InvalidText ?y_InvalidText ?p_InvalidText ?i_InvalidText ?u_InvalidText_ ?wg_InvalidText ?wh_InvalidText ?we_InvalidText ?ncode_InvalidText ?nname_InvalidText ?nindex_InvalidText ?ncount_InvalidText ?zs_InvalidText_InvalidText ?l_QueryError ?c_QueryError ?k_QueryError ?d_QueryError_ ?l_InvalidText ?c_InvalidText ?k_InvalidText ?zER
    (case b_ValueError => k_is)
    (case b_LookupError => k_is)
    (case g_QueryError => k_is)
    (case g_InvalidText => k_is)
    (case zb_InvalidText => k_is)
    (case zi_InvalidText => k_is)
    (case zt_InvalidText => k_is)
    (case zb_QueryError => k_is)
    (case zi_QueryError => k_is)
    (case zt_QueryError => k_is)
    (case fQi => k_is)
    (case rQ => k_is)
    (case gQ => k_is)
    (case vV => first | k_is | rfl | kernel_rfl)
    (case x_InvalidText => k_is)
    (case r_InvalidText => first | k_is | rfl | kernel_rfl)
    (case s_InvalidText_ => k_is)
    (case e_InvalidText => k_is)
    (case y_InvalidText => k_is)
    (case p_InvalidText => k_is)
    (case i_InvalidText => k_is)
    (case u_InvalidText_ => k_is)
    (case wg_InvalidText => k_is)
    (case wh_InvalidText => k_is)
    (case we_InvalidText => k_is)
    (case ncode_InvalidText => k_is)
    (case nname_InvalidText => k_is)
    (case nindex_InvalidText => k_is)
    (case ncount_InvalidText => k_is)
    (case zs_InvalidText_InvalidText => k_is)
    (case l_QueryError => k_is)
    (case c_QueryError => k_is)
    (case k_QueryError => k_is)
    (case d_QueryError_ => k_is)
    (case l_InvalidText => k_is)
    (case c_InvalidText => k_is)
    (case k_InvalidText => k_is)
    intro ER
    refine' Dd.all_mk KX G hmg Dd.law_run ?a0 ?l0 ?c0 ?k0 ?a1 ?l1 ?c1 ?k1 ?a2 ?l2 ?c2 ?k2 A3 A4 A5 A6 A7 A8 A9 A10 A11 A12 A13 A14 A15 A16 A17 A18 A19 A20 A21 A22 A23 A24 A25 A26 ?a27 ?l27 ?c27 ?k27 ?v0 ?v1 ?v2 ?v3 ER ?b_abs ?b_all ?b_bool ?b_dict ?b_enumerate ?b_int ?b_isinstance ?b_len ?b_list ?b_min ?b_range ?b_set ?b_sorted ?b_str ?b_tuple ?b_zip
    (case a0 => k_is)
    (case l0 => k_is)
    (case c0 => k_is)
    (case k0 => k_is)
    (case a1 => k_is)
    (case l1 => k_is)
    (case c1 => k_is)
    (case k1 => k_is)
    (case a2 => k_is)
    (case l2 => k_is)
    (case c2 => k_is)
    (case k2 => k_is)
    (case a27 => k_is)
    (case l27 => k_is)
    (case c27 => k_is)
    (case k27 => k_is)
    (case v0 => k_is)
    (case v1 => k_is)
    (case v2 => k_is)
    (case v3 => k_is)
    (case b_abs => k_is)
    (case b_all => k_is)
    (case b_bool => k_is)
    (case b_dict => k_is)
    (case b_enumerate => k_is)
    (case b_int => k_is)
    (case b_isinstance => k_is)
    (case b_len => k_is)
    (case b_list => k_is)
    (case b_min => k_is)
    (case b_range => k_is)
    (case b_set => k_is)
    (case b_sorted => k_is)
    (case b_str => k_is)
    (case b_tuple => k_is)
    (case b_zip => k_is)
