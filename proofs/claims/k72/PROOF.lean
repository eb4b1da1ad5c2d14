import PyProof.Rows.All
import Wide.All
import OpenK.AllK
import Wide.FinOn
import Lean
import PyProof.EqAt
import PyProof.EqKinds
import PyProof.NeKinds
import PyProof.TupleCall
import KE.KDictSum
import KE.KSortTup
import KE.KLam
import KE.KNestM
import PyProof.DictItems
import PyProof.DictValues
import PyProof.Rows.TupDisplay
import PySem.Challenge.RW_stintwise_k72_whole_bounds_never_above
set_option Elab.async false
set_option linter.all false
set_option maxRecDepth 100000
set_option genInjectivity false
set_option genSizeOf false
namespace PySem.W.Fast
def tw757823933958147895:=()
def tw13120811569615061774:=()
def tw12833790156863593934:=()
def tw6870034624662016360:=()
def tw2907376478428746483:=()
def tw6515754334752119404:=()
def tw6277891313622197635:=()
def tw4548860462251410416:=()
def tw16239258548885492170:=()
def tw14541547763097839220:=()
def tw8173326682665695223:=()
def tw9454731957517191191:=()
def tw14372103396167290826:=()
def tw13224872804133746202:=()
def tw13548763131752641476:=()
def tw9853884460510630565:=()
def tw7514933129650702600:=()
def tw7239934650590712173:=()
def tw2029647433417496335:=()
def tw13709380151638077292:=()
def tw4276781077761502095:=()
def tw16569303929163076869:=()
def tw9428100729942256957:=()
def tw8708533161241460239:=()
def tw5917248013806089551:=()
def tw10750322848728891663:=()
def tw9936321247840224794:=()
def tw12010816782655894780:=()
def tw6497333283237237803:=()
def tw15360706810240644262:=()
def tw16451086173043390002:=()
def tw15908698387015294580:=()
def tw11101205758054040324:=()
def tw5217810440960810379:=()
def tw5888417038518859517:=()
def tw13903525818896911540:=()
def tw18413529898145584233:=()
def tw8184567195738089437:=()
def tw6808392545874780833:=()
def tw10728606271099142698:=()
def tw11021080784761691360:=()
def tw14001320642061012708:=()
def tw16582061763066633429:=()
def tw6570544129865618411:=()
def tw8987542537797964989:=()
def tw5450923568118044675:=()
def tw13283781234166456269:=()
def tw4745751473503387906:=()
def tw2241784542265900052:=()
def tw17479575247681262420:=()
def tw1674007447624430994:=()
def tw2345585981323917164:=()
def tw15182758222864190380:=()
def tw320830145012611923:=()
def tw567047572275036872:=()
def tw1450873340302098248:=()
def tw17197652766798661790:=()
def tw17642944563342822660:=()
def tw2625174434819630030:=()
def tw5622051447895839995:=()
def tw9808725348675824453:=()
def tw8848434494180560766:=()
def tw196717987362665619:=()
def tw11902331262615832486:=()
def tw17048236377389438871:=()
def tw16073967721510305709:=()
def tw5091694170062325108:=()
def tw2518699971781437672:=()
def tw11157865153843132167:=()
def tw14840753515858831871:=()
def tw17741434294319060091:=()
def tw9939804326570362011:=()
def tw690281158713151201:=()
def tw3279134836323713020:=()
def tw11149453131181141196:=()
def tw6355201781175142570:=()
def tw7744594864306871770:=()
def tw4157050125343002715:=()
def tw13082959554969175575:=()
def tw5199840408273378647:=()
def tw17629533987171520489:=()
def tw14434161127462646233:=()
def tw9700045298102191410:=()
def tw1793481513977546012:=()
def tw1285626578652678069:=()
def tw16923430620349528163:=()
def tw9062143302262008491:=()
def tw17551753144337354345:=()
def tw8558172783201699496:=()
def tw14101814676575482008:=()
def tw525741478286927490:=()
def tw4810034457187703203:=()
def tw7178867547519377923:=()
def tw16445412543351839892:=()
def tw17337760194350793797:=()
def tw7802107110275336833:=()
def tw4596348538297523451:=()
def tw366733135714919973:=()
def tw12070738513348586109:=()
def tw7049492910133892330:=()
def tw8652543270000761850:=()
def tw6533251936569716996:=()
def tw1595164620574890157:=()
def tw4484225206662159525:=()
def tw9909227727460777573:=()
def tw18238313355944767159:=()
def tw17125434895324795021:=()
def tw3285306579321226986:=()
def tw14217756196848554539:=()
def tw8205815751866744269:=()
def tw1622520968982821066:=()
def tw3300023151746916575:=()
def tw8595814567096611017:=()
def tw14204938572840683804:=()
def tw17542116662143908367:=()
def tw1220942694593905061:=()
def tw14838677957506256837:=()
def tw17156847566177666007:=()
def tw1023596688969875089:=()
def tw17204823911532887966:=()
def tw13396097851423213244:=()
def tw15812549785050046725:=()
def tw3273530357729924494:=()
def tw8864294039154196115:=()
def tw14103916776858143212:=()
def tw8766524522372527865:=()
def tw5946497728470373735:=()
def tw13187801484769361576:=()
def tw13774767765708417995:=()
def tw8181470285782388398:=()
def tw4339758728344549081:=()
def tw3769994026272541836:=()
def tw12729152569315190706:=()
def tw15063377907205028581:=()
def tw5967707203812696725:=()
def tw17106555137458241992:=()
def tw16659887599779426666:=()
def tw9411439814411758609:=()
def tw3277604648383495065:=()
def tw6905061346707648410:=()
def tw7067370822684050905:=()
def tw8222645973659366465:=()
def tw11608585123292501248:=()
def tw1971723605846508142:=()
def tw8898217829630498083:=()
def tw11646147308756609146:=()
def tw4901462742818069233:=()
def tw16515975328168607997:=()
def tw13887644169010032111:=()
def tw10577134340791767178:=()
def tw2600131638991063292:=()
def tw10821007989638233273:=()
def tw9494468120651678406:=()
def tw12662203734714520571:=()
def tw8034501189402907232:=()
def tw13776218536472779791:=()
def tw10129272839924363138:=()
def tw13106722269113273712:=()
def tw14052432576899040648:=()
def tw14444237180721072294:=()
def tw513879231861034664:=()
def tw2334417609126738865:=()
def tw4592285849310199256:=()
def tw10917374755913567536:=()
def tw3784854853575856947:=()
def tw13916686240892599660:=()
def tw5772132863957298083:=()
def tw5316420641939090741:=()
def tw10322598377960797176:=()
def tw17689229468813326971:=()
def tw5271223428308131946:=()
def tw12222174130559427386:=()
def tw6562104507653069610:=()
def tw14817942721968297606:=()
def tw11204774927670008877:=()
def tw6366268862176332368:=()
def tw2709248161532190786:=()
def tw10619860549209240119:=()
def tw4866306141355799881:=()
def tw5907771610730324155:=()
def tw3756590736955632341:=()
def tw2943469931258412292:=()
def tw10688653896782281890:=()
def tw7933012722279357090:=()
def tw1930565879186084022:=()
def tw1620579643687517142:=()
def tw387881721573134606:=()
def tw4064887750847312835:=()
def tw13312313706226713138:=()
def tw12052200401570404100:=()
def tw9156775451979286007:=()
def tw11849213258808925597:=()
def tw17397725032933525624:=()
def tw3349469668531485687:=()
def tw7934726341065476756:=()
def tw12780741242525300075:=()
def tw15313165753412585905:=()
def tw11584478632855144796:=()
def tw12495045035569457301:=()
def tw167944127636472540:=()
def tw17474850850131873793:=()
def tw11075879033351262951:=()
def tw15737325621563580693:=()
def tw5138139819859167002:=()
def tw1300928641493955907:=()
def tw5955690214907072521:=()
def tw3232573368932372658:=()
def tw9184177361972172790:=()
def tw332980840886267555:=()
def tw17282247498504998203:=()
def tw8033192943847612314:=()
def tw7628813293685948159:=()
def tw14828331034584271016:=()
def tw10824592263115257259:=()
def tw2301075178597667708:=()
def tw11296239183025556274:=()
def tw6346975111688466712:=()
def tw12822660431777860194:=()
def tw2906508226685349892:=()
def tw1364715805142304529:=()
def tw6214247231082072556:=()
def tw16310167684129571672:=()
def tw2473184458729164581:=()
def tw11520580764273270563:=()
def tw17961660147355384016:=()
def tw1396019404131299542:=()
def tw3226099896761926507:=()
def tw5732284397314643128:=()
def tw1812783385223300201:=()
def tw16671425179758754709:=()
def tw17277874117535857962:=()
def tw3572728347268896258:=()
def tw1742081013986980233:=()
def tw9299154123619179777:=()
def tw16078092115271689208:=()
def tw12309290225060008960:=()
def tw1619907238805744374:=()
def tw9299171976360790765:=()
def tw8473204334999218568:=()
def tw5800827455695861741:=()
def tw7978959008104553452:=()
def tw7522876288688291386:=()
def tw3076085309809786580:=()
def tw16088856282579988916:=()
def tw10829674175763569904:=()
def tw5108485163444992067:=()
def tw12241927298856965098:=()
def tw2950929000318779572:=()
def tw17849414713983256796:=()
def tw15514818662038163292:=()
def tw557283008375641843:=()
def tw13318106963387969583:=()
def tw7768954683976490995:=()
def tw2781480282081074531:=()
def tw12765347966700865479:=()
def tw10769377500516270876:=()
def tw2081785189965686072:=()
def tw15070444149947836067:=()
def tw9664105851828769015:=()
def tw6651620696484205722:=()
def tw6423013003538095907:=()
def tw5185639403917007444:=()
def tw16334244957977433627:=()
def tw10953328244718032322:=()
def tw4594994380063293268:=()
def tw2490288937355186506:=()
def tw16894047812598714274:=()
def tw9206906075320843200:=()
def tw6018199197116849865:=()
def tw13023416008996715239:=()
def tw12589343293127614745:=()
def tw7603268000650865871:=()
def tw5434707052012740700:=()
def tw16187559238546656049:=()
def tw9238250717966429988:=()
def tw4899232348352526162:=()
def tw2218877802640290838:=()
def tw12693454692373666389:=()
def tw3209661623775807561:=()
def tw16017083886315143191:=()
def tw9173644629285310174:=()
def tw3880679732489068174:=()
def tw11949690239197292622:=()
def tw4672163474855373416:=()
def tw3832512811530465102:=()
def tw906423805475311041:=()
def tw12074959072519768730:=()
def tw11115955108371661248:=()
def tw8855944453940938255:=()
def tw3679251438784999069:=()
def tw4779695088385655318:=()
def tw5848813121112888497:=()
def tw6572342281246659380:=()
def tw17247796860768120411:=()
def tw678754342539643377:=()
def tw5107766190341816095:=()
def tw12539536029321474763:=()
def tw10356280537094043834:=()
def tw4878033491793137137:=()
def tw17279778730967525330:=()
def tw16011063227785835674:=()
def tw13384043822441215694:=()
def tw8091071714739162037:=()
def tw14230904883113390782:=()
def tw9465499764415928241:=()
def tw10538578995100318873:=()
def tw10289806467108168318:=()
def tw98455022497872433:=()
def tw8247304815558675685:=()
def tw13325364601827405891:=()
def tw11136005724773454705:=()
def tw3179922919907462518:=()
def tw10003409487912465275:=()
def tw15886888430787148113:=()
def tw12538028634872752837:=()
def tw15238422864622889766:=()
def tw3339959688927742430:=()
def tw15928037405472450767:=()
def tw7421745499664348948:=()
def tw15529655054106874036:=()
def tw1233250794666348463:=()
def tw3162149625387238218:=()
def tw15328880113635697136:=()
def tw14004183938938882851:=()
def tw14007838544045701518:=()
def tw8558426654020418827:=()
def tw15184703715351340275:=()
def tw18020126789895983005:=()
def tw17741043408278285455:=()
def tw8082435740230896440:=()
def tw4691953702466077872:=()
def tw14856156972645042671:=()
def tw12123749777292200405:=()
def tw10460340618188537918:=()
def tw664253435124095518:=()
def tw5600991974281370770:=()
def tw18082485343533604946:=()
def tw14067325467297623150:=()
def tw5477166281953952515:=()
def tw13278941515747885066:=()
def tw6575728036313105863:=()
def tw9576277638074271088:=()
def tw4272441855393905934:=()
def tw18133295243499226052:=()
def tw16741438955674950035:=()
def tw5024928718824048146:=()
def tw2091236531903009242:=()
def tw15141402978730651450:=()
def tw1407973848285914896:=()
def tw13511829679952603139:=()
def tw9927285095564153002:=()
def tw14863129366695066347:=()
def tw12853032954134207785:=()
def tw6110944844533382202:=()
def tw9300761084877564376:=()
def tw3075748872539930860:=()
def tw2347797631614002408:=()
def tw16835020239727539600:=()
def tw15480949448239360830:=()
def tw13481988799521904098:=()
def tw12019586997241482005:=()
def tw7746116024872990085:=()
def tw7592091790920890414:=()
def tw16202299689262774008:=()
def tw1216372558302034147:=()
def tw10631905833427755742:=()
def tw10140577494831282233:=()
def tw1942357635605741653:=()
def tw8012202917901015381:=()
def tw3421003026534355723:=()
def tw7904645146517813435:=()
def tw4900617971257501658:=()
def tw3254243733737044783:=()
def tw2017054571988727515:=()
def tw17143575397751404593:=()
def tw13466416229308817863:=()
def tw9694866368372048247:=()
def tw967239195279000176:=()
def tw9579073880007428217:=()
def tw9551185104233476741:=()
def tw8734168795265552348:=()
def tw8701715637475451144:=()
def tw8563371962903273516:=()
def tw8460213852230363798:=()
def tw835631857223428671:=()
def tw8197518499385570468:=()
def tw814306450273694674:=()
def tw8129032345087493735:=()
def tw782579936924224383:=()
def tw7740972067720951240:=()
def tw771256448509275676:=()
def tw7586714386792404064:=()
def tw7478233676476086352:=()
def tw6940183871530009003:=()
def tw6865912819864182059:=()
def tw6851512410267259502:=()
def tw6816198743107345933:=()
def tw6791673806037470540:=()
def tw6406026554167239688:=()
def tw6248962125254064393:=()
def tw622095428295624138:=()
def tw6114186037693528670:=()
def tw6040866192278895507:=()
def tw5996967736462874752:=()
def tw5706185689666780775:=()
def tw5428896453847096575:=()
def tw5409118939028298637:=()
def tw5397716402135134981:=()
def tw5393403697710490913:=()
def tw5366730772913678446:=()
def tw5263533214634959714:=()
def tw5140147402484945138:=()
def tw4986545481793391035:=()
def tw4829388752627943510:=()
def tw469313202284051665:=()
def tw467746109436575197:=()
def tw4528607889820763903:=()
def tw4521442579938336475:=()
def tw4450404235622121174:=()
def tw4311688876907590945:=()
def tw4236945679857454830:=()
def tw4179393722935690352:=()
def tw4059315721507376958:=()
def tw3922281560484519956:=()
def tw3821823250086507662:=()
def tw3793938467090671702:=()
def tw3792129147012119567:=()
def tw3721129777505287169:=()
def tw3082697091658718628:=()
def tw2651706091171391680:=()
def tw2616572513533480163:=()
def tw2453279271780595695:=()
def tw2440810631489476121:=()
def tw2297038663002437286:=()
def tw2253563746987323695:=()
def tw2187559295711150271:=()
def tw2170336241482717599:=()
def tw2167631681983397967:=()
def tw2006326365509476786:=()
def tw1937012839003201514:=()
def tw18429553930076355149:=()
def tw18283001476580883597:=()
def tw17999307468330963374:=()
def tw17732517487585112798:=()
def tw17632225288692070968:=()
def tw17623584689676230347:=()
def tw17222713708740145584:=()
def tw17145216587523720221:=()
def tw17106060186874127400:=()
end PySem.W.Fast
set_option maxHeartbeats 0
def bP:=@List.length_map
def dQ:=@List.getElem?_eq_getElem
def lZ:=@List.getElem?_eq_some_iff
def kO:=@PySem.Heap.get?_push_of_some
def oS:=@List.mem_of_getElem?
def lX:=@List.size_toArray
def oU:=@List.length_append
def oR:=@List.getElem?_map
def gB:=@Nat.le_refl
def jY:=@PySem.Heap.lt_size
def yL:=@PySem.Heap.get?_push_size
def rW:=@List.map_append
def yK:=@Nat.lt_of_lt_of_le
def Qn9:=@List.getElem?_append_left
def Qo9:=@List.getElem?_append_right
def Qp9:=@Option.map_eq_some_iff
def Qq9:=@List.mem_cons_of_mem
def Qr9:=@Bool.false_ne_true
def yF:=@List.mem_cons
def Qt9:=@List.getD_eq_getElem?_getD
def Qu9:=@List.mem_singleton
def vU:=@Nat.ne_of_lt
def xX:=@List.mem_map
def Qx9:=@List.mem_cons_self
def Qy9:=@List.mem_append_right
def Qz9:=@List.length_singleton
def Ra9:=@List.length_cons
def Rb9:=@List.drop_eq_getElem_cons
def Rc9:=@List.take_length
def Rd9:=@List.getElem_mem
def Re9:=@Int.toNat_natCast
def Rf9:=@List.length_take
def Rg9:=@Array.length_toList
def Rh9:=@List.map_cons
def Ri9:=@List.mem_append
def Rj9:=@Int.zero_add
def Rk9:=@List.getElem?_of_mem
def Rl9:=@List.lookup_cons
def Rm9:=@List.nodup_cons
def Rn9:=@Nat.zero_le
def Ro9:=@Bool.and_eq_true
def Rp9:=@Nat.le_trans
def Rq9:=@List.map_map
def Rr9:=@List.take_add_one
def Rs9:=@List.mem_range
def Rt9:=@List.find?_cons
def Ru9:=@Nat.lt_irrefl
def Rv9:=@PySem.Heap.size_push
def Rw9:=@List.append_nil
def Rx9:=@List.mem_append_left
def Ry9:=@List.mem_of_find?_eq_some
def Rz9:=@List.getElem?_eq_none
def Sa9:=@Nat.sub_self
def Sb9:=@Int.mul_zero
def Sc9:=@Bool.false_eq_true
def Sd9:=@List.not_mem_nil
def Se9:=@Nat.ne_of_gt
def Sf9:=@List.drop_zero
def Sg9:=@Nat.lt_succ_of_lt
def Sh9:=@List.filterMap_cons
def Si9:=@List.replicate_succ
def Sj9:=@List.length_pos_iff
def Sk9:=@List.drop_length
def Sl9:=@PySem.Heap.get?_update_self
def Sm9:=@Int.le_trans
def Sn9:=@List.mem_filter
def So9:=@Int.mul_one
def Sp9:=@Int.le_refl
def Sq9:=@List.all_eq_true
def Sr9:=@List.any_eq_true
def Ss9:=@Bool.false_and
def St9:=@List.take_of_length_le
def Su9:=@Int.emod_lt_of_pos
def Sv9:=@List.length_set
def Sw9:=@Int.add_zero
def Sx9:=@Bool.true_and
def Sy9:=@List.pairwise_map
def Sz9:=@Array.perm_iff_toList_perm
def Ta9:=@List.getElem?_set_ne
def Tb9:=@List.getElem_toArray
def Tc9:=@Array.getElem?_eq_getElem
def Td9:=@Int.mul_nonneg
def Te9:=@PySem.Heap.size_update
def Tf9:=@List.map_congr_left
def Tg9:=@List.getElem?_range
def Th9:=@List.length_reverse
def Ti9:=@List.getElem?_replicate
def Tj9:=@Int.emod_nonneg
def Tk9:=@Int.eq_ofNat_of_zero_le
def Tl9:=@List.getElem?_set_self
def Tm9:=@PySem.Heap.get?_update_other
def Tn9:=@List.zipWith_cons_cons
def To9:=@List.flatten_cons
def Tp9:=@List.append_assoc
def Tq9:=@List.length_range
def Tr9:=@PySem.Heap.get?_push_ne
def Ts9:=@Nat.le_of_lt
def Tt9:=@List.map_nil
def Tu9:=@Array.getElem?_toList
def Tv9:=@Nat.lt_succ_self
def Tw9:=@List.length_drop
def Tx9:=@List.sum_cons
def Ty9:=@List.of_mem_zip
def Tz9:=@List.length_nil
def Ua9:=@Nat.le_of_eq
namespace L2
open PySem PySem.Spec PyProof.Rows
abbrev Key:=Sum Int Str
def aF2:Key->Value->Bool
 |.inl k,v=>Value.isInt k v
 |.inr x,v=>Value.isStrOf x v
def aR0(w:World):Key->Int
 |.inl k=>hashInt k
 |.inr x=>hashStr w x
theorem eU:∀{k:Key}{v:Value},aF2 k v=true->(∃i t,k=Sum.inl i/\v=Value.int i t)\/(∃x t,k=Sum.inr x/\v=Value.str x t)
 |.inl i,v,h=>by
  obtain⟨t,e⟩:=Value.isInt_shape (k:=i) (v:=v) h
  exact .inl ⟨i,t,rfl,e⟩
 |.inr x,v,h=>by
  obtain⟨t,e⟩:=Value.isStrOf_shape (x:=x) (v:=v) h
  exact .inr ⟨x,t,rfl,e⟩
theorem aKJ(i:Int)(t:Tok):aF2 (.inl i) (.int i t)=true:=by simp[aF2,Value.isInt]
theorem aKK(x:Str)(t:Tok):aF2 (.inr x) (.str x t)=true:=by simp[aF2,Value.isStrOf]
theorem aPv(a b:Int):decide ((Sum.inl a:Key)=Sum.inl b)=(a == b):=by
 by_cases e:a=b
 ·subst e;simp
 ·have h:¬(Sum.inl a:Key)=Sum.inl b:=λq=>e (Sum.inl.inj q)
  rw[decide_eq_false h]
  exact(beq_eq_false_iff_ne.mpr e).symm
theorem aPw(a b:Str):decide ((Sum.inr a:Key)=Sum.inr b)=decide (a=b):=by
 by_cases e:a=b
 ·subst e;simp
 ·have h:¬(Sum.inr a:Key)=Sum.inr b:=λq=>e (Sum.inr.inj q)
  rw[decide_eq_false h,decide_eq_false e]
theorem aPx(a:Int)(b:Str):decide ((Sum.inl a:Key)=Sum.inr b)=false:=decide_eq_false (λq=>nomatch q)
theorem aPy(a:Str)(b:Int):decide ((Sum.inr a:Key)=Sum.inl b)=false:=decide_eq_false (λq=>nomatch q)
def eV(prog:Program)(w:World):PySem.KeyKind prog w Key where
 is:=aF2
 hash:=aR0 w
 inj:=λv a b ha hb=>by
  rcases eU ha with ⟨i,t,rfl,rfl⟩|⟨x,t,rfl,rfl⟩
  ·rcases eU hb with ⟨j,u,rfl,e⟩|⟨y,u,rfl,e⟩
   ·injection e with e1 _;rw[e1]
   ·exact nomatch e
  ·rcases eU hb with ⟨j,u,rfl,e⟩|⟨y,u,rfl,e⟩
   ·exact nomatch e
   ·injection e with e1 _;rw[e1]
 byValue:=λk v h=>by
  rcases eU h with ⟨i,t,rfl,rfl⟩|⟨x,t,rfl,rfl⟩ <;> rfl
 pyHash:=λhv h=>by
  rcases eU hv with ⟨i,t,rfl,rfl⟩|⟨x,t,rfl,rfl⟩
  ·exact wpAny_pyHash_int h
  ·exact wpAny_pyHash_str h
 eqBool:=λhu hv h=>by
  rcases eU hu with ⟨i,t,rfl,rfl⟩|⟨x,t,rfl,rfl⟩
  ·rcases eU hv with ⟨j,u,rfl,rfl⟩|⟨y,u,rfl,rfl⟩
   ·rw[aPv] at h;exact wpAny_eqBool_int h
   ·rw[aPx] at h;exact SeqAt.EqAt.int_str i t y u _ _ _ _ h
  ·rcases eU hv with ⟨j,u,rfl,rfl⟩|⟨y,u,rfl,rfl⟩
   ·rw[aPy] at h;exact SeqAt.EqAt.str_int x t j u _ _ _ _ h
   ·rw[aPw] at h;exact wpAny_eqBool_str h
 «strs»:=λk x t v h=>by
  rcases eU h with ⟨i,u,rfl,e⟩|⟨y,u,rfl,e⟩
  ·exact nomatch e
  ·injection e with e1 _
   subst e1
   cases v <;> rfl
theorem aHL(prog:Program)(w:World)(i:Int)(t:Tok):(eV prog w).is (.inl i) (.int i t)=true:=aKJ i t
theorem aHM(prog:Program)(w:World)(x:Str)(t:Tok):(eV prog w).is (.inr x) (.str x t)=true:=aKK x t
end L2
namespace L2
open PySem PySem.Spec PyProof.Rows
inductive V where
 |non|bl (b:Bool)|int (i:Int)|str (x:Str)|byt (b:Array UInt8)|flt (b:UInt64)|ref (a:Addr)|ty (n:String)
 deriving DecidableEq
def RelV:V->Value->Prop
 |.non,u=>u=Value.none
 |.bl b,u=>u=Value.bool b
 |.int i,u=>∃t,u=Value.int i t
 |.str x,u=>∃t,u=Value.str x t
 |.byt b,u=>∃t,u=Value.bytes b t
 |.flt b,u=>∃t,u=Value.float b t
 |.ref a,u=>u=Value.ref a
 |.ty n,u=>u=Value.type n
abbrev Vals:List V->List Value->Prop:=Paired RelV
theorem Vals.length{xs:List V}{us:List Value}(r:Vals xs us):xs.length=us.length:=Paired.length r
theorem Vals.get:∀{xs:List V}{us:List Value}{i:Nat}{x:V},Vals xs us->xs[i]?=some x->∃u,us[i]?=some u/\RelV x u
 |_,_,_,_,.nil,e=>by simp at e
 |_,_,0,_,.cons r _,e=>by simp at e;subst e;exact⟨_,rfl,r⟩
 |_,_,i+1,x,.cons _ t,e=>by
  obtain⟨u,h1,h2⟩:=Vals.get (i:=i) (x:=x) t (by simpa using e)
  exact⟨u,by simpa using h1,h2⟩
theorem Vals.set(r:RelV x u):∀{xs:List V}{us:List Value}(i:Nat),Vals xs us->Vals (xs.set i x) (us.set i u)
 |_,_,_,.nil=>.nil
 |_,_,0,.cons _ t=>.cons r t
 |_,_,i+1,.cons q t=>.cons q (Vals.set r i t)
theorem Vals.append:∀{xs ys:List V}{us ws:List Value},Vals xs us->Vals ys ws->Vals (xs++ys) (us++ws)
 |_,_,_,_,.nil,s=>s
 |_,_,_,_,.cons r t,s=>.cons r (Vals.append t s)
theorem Vals.take:∀{xs:List V}{us:List Value}(n:Nat),Vals xs us->Vals (xs.take n) (us.take n)
 |_,_,0,_=>.nil
 |_,_,_+1,.nil=>.nil
 |_,_,n+1,.cons r t=>.cons r (Vals.take n t)
theorem Vals.drop:∀{xs:List V}{us:List Value}(n:Nat),Vals xs us->Vals (xs.drop n) (us.drop n)
 |_,_,0,r=>r
 |_,_,_+1,.nil=>.nil
 |_,_,n+1,.cons _ t=>Vals.drop n t
def yG:Option V->Option Value->Prop
 |some v,some u=>RelV v u
 |none,none=>True
 |_,_=>False
def KV{κ:Type}:List (κ×V)->List (κ×Value)->Prop:=Paired λ(p:κ×V) (q:κ×Value)=>p.1=q.1/\RelV p.2 q.2
def kV:Key->V
 |.inl i=>.int i
 |.inr x=>.str x
inductive HO where
 |lst (xs:List V)
 |tup (xs:List V)
 |dK (kvs:List (Key×V))|dT (kvs:List (List Key×V))
 |set (S:Int->Bool) (n:Nat)
 |ins (C dx:Addr) (fs:List (Str×V))
 |own (x:Addr)
 |xd (fs:List (Str×V))
 |met (f x:Addr)
 |rng (lo hi:Int)
 |frz (o:Obj) (u:HO)
 |tbl (ps:Array Value)
 |ext (φ:Heap->Prop)
 |cod (q:Str)|ctb (pos:Pos) (q:Str)
def Sty:HO->Prop
 |.tup _=>True
 |.cod _=>True
 |_=>False
abbrev Hp:=Addr->Option HO
def upd(H:Hp)(a:Addr)(o:HO):Hp:=λb=>if b=a then some o else H b
theorem aN:upd H a o a=some o:=by unfold upd;rw[if_pos rfl]
theorem bB{H:Hp}(h:b≠a):upd H a o b=H b:=by unfold upd;rw[if_neg h]
theorem kP:upd (upd H a o) a u=upd H a u:=by
 funext b;unfold upd;split <;> rfl
theorem aPf{H:Hp}{a b:Addr}{o u:HO}(h:H a=some o)(h':H b=some u)(d:o≠u):a≠b:=by
 intro e;subst e;rw[h] at h';exact d (Option.some.inj h')
theorem bJ{H:Hp}{a b:Addr}{o:HO}(h:H a=some o)(h':H b=none):a≠b:=by
 intro e;subst e;rw[h] at h';cases h'
section
variable(P:Program)(w:World)
def cE(H:Hp)(h:Heap)(a:Addr):HO->Prop
 |.lst xs=>xs.length<=sizeLine/\∃(its:List Value) (n:Nat),Vals xs its/\h.get? a=some { cls:=.type "list",data:=.seq its.toArray n }
 |.tup xs=>xs.length<=sizeLine/\∃its:List Value,Vals xs its/\IsTup h a its.toArray
 |.dK kvs=>kvs.length<=sizeLine/\(a == sysModules)=false/\∃vs,KV kvs vs/\h.DictOf (eV P w) a vs
 |.dT kvs=>kvs.length<=sizeLine/\(a == sysModules)=false/\∃xs:List (List Key×Addr×Value),
   Paired (λ(p:List Key×V) (q:List Key×Addr×Value)=>p.1=q.1/\H q.2.1=some (.tup (p.1.map kV))/\RelV p.2 q.2.2) kvs xs/\
   ∃o es ep,h.get? a=some o/\o.ExactDict/\o.data=.dict es ep/\es.toList=xs.map (entryOfKey (tupleKind (eV P w)))/\(xs.map (·.1)).Nodup
 |.set S n=>h.SetOf (intKind P w) a S n
 |.ins C dx fs=>H dx=some (.own a)/\fs.length<=1000/\dx≠a/\h.get? a=some (PySem.W.instObj C dx)/\
   ∃mA,h.Ns1 dx mA/\(∀f,yG (fs.lookup f) (mA f))/\PySem.Within mA (fs.map (·.1))
 |.own _=>∃o,h.get? a=some o
 |.xd fs=>∃mA,h.Ns1 a mA/\∀f,yG (fs.lookup f) (mA f)
 |.rng lo hi=>∃t u v,h.get? a=some { cls:=.type "range",data:=.fields #[.int lo t,.int hi u,.int 1 v] }
 |.frz o u=>h.get? a=some o/\cE H h a u
 |.tbl ps=>h.get? a=some { cls:=.none,data:=.fields ps }
 |.met f x=>h.get? a=some (PySem.W.methodObj (.ref f) (.ref x))
 |.ext φ=>φ h/\(∃o,h.get? a=some o)/\∀h1 h2:Heap,φ h1->(∀o,h1.get? a=some o->h2.get? a=some o)->φ h2
 |.cod q=>∃o vs t,h.get? a=some o/\o.data=.fields vs/\vs[1]?=some (.str q t)
 |.ctb pos q=>∃ps:Array Value,h.get? a=some { cls:=.none,data:=.fields ps }/\TriplesOk ps.toList/\(codeAmong pos ps.toList=none\/∃c,codeAmong pos ps.toList=some (.ref c)/\H c=some (.cod q))
def yH(H:Hp)(h:Heap):Prop:=∀a o,H a=some o->cE P w H h a o
end
section
variable{P:Program}{w:World}{H H':Hp}{h h':Heap}{a:Addr}{o:HO}
theorem cE.lt(x:cE P w H h a o):a < h.objs.size:=by
 cases o with
 |lst xs=>obtain⟨_,_,_,_,e⟩:=x;exact jY e
 |tup xs=>obtain⟨_,_,_,p⟩:=x;exact p.lt
 |dK kvs=>obtain⟨_,_,_,_,o,_,_,e,_⟩:=x;exact jY e
 |dT kvs=>obtain⟨_,_,_,_,o,_,_,e,_⟩:=x;exact jY e
 |set S n=>obtain⟨o,_,_,_,e,_⟩:=x;exact jY e
 |ins C dx fs=>obtain⟨_,_,_,e,_⟩:=x;exact jY e
 |own y=>obtain⟨_,e⟩:=x;exact jY e
 |xd fs=>obtain⟨_,⟨_,_,_,e,_⟩,_⟩:=x;exact jY e
 |rng lo hi=>obtain⟨_,_,_,e⟩:=x;exact jY e
 |frz ob u=>obtain⟨e,_⟩:=x;exact jY e
 |tbl ps=>exact jY (show h.get? a=some _ from x)
 |met f y=>exact jY (show h.get? a=some _ from x)
 |ext φ=>obtain⟨_,⟨_,e⟩,_⟩:=x;exact jY e
 |cod q=>obtain⟨_,_,_,e,_⟩:=x;exact jY e
 |ctb pos q=>obtain⟨_,e,_⟩:=x;exact jY e
theorem Paired.aPz{α β:Type}{F G:α->β->Prop}:∀{l₁:List α}{l₂:List β},Paired F l₁ l₂->(∀a b,F a b->G a b)->Paired G l₁ l₂
 |_,_,.nil,_=>.nil
 |_,_,.cons r t,f=>.cons (f _ _ r) (Paired.aPz t f)
theorem cE.aAF(x:cE P w H h a o)(k:∀b u,(b=a\/H b=some (.own a))->h.get? b=some u->h'.get? b=some u)
  (ho:∀b,H b=some (.own a)->H' b=some (.own a)) (ht:∀b u,Sty u->H b=some u->H' b=some u):cE P w H' h' a o:=by
 induction o with
 |lst xs=>obtain⟨z,its,n,r,e⟩:=x;exact⟨z,its,n,r,k _ _ (.inl rfl) e⟩
 |tup xs=>obtain⟨z,its,r,ob,e,c⟩:=x;exact⟨z,its,r,ob,k _ _ (.inl rfl) e,c⟩
 |dK kvs=>obtain⟨z,y,vs,r,ob,es,ep,e,c⟩:=x;exact⟨z,y,vs,r,ob,es,ep,k _ _ (.inl rfl) e,c⟩
 |dT kvs=>
  obtain⟨z,y,xs,r,ob,es,ep,e,c⟩:=x
  exact⟨z,y,xs,Paired.aPz r λp q z=>⟨z.1,ht _ _ trivial z.2.1,z.2.2⟩,ob,es,ep,k _ _ (.inl rfl) e,c⟩
 |set S n=>obtain⟨ob,es,ep,t,e,c⟩:=x;exact⟨ob,es,ep,t,k _ _ (.inl rfl) e,c⟩
 |ins C dx fs=>
  obtain⟨d,z,ne,e,mA,⟨od,es,ep,e2,c⟩,r⟩:=x
  exact⟨ho _ d,z,ne,k _ _ (.inl rfl) e,mA,⟨od,es,ep,k _ _ (.inr d) e2,c⟩,r⟩
 |own y=>obtain⟨ob,e⟩:=x;exact⟨ob,k _ _ (.inl rfl) e⟩
 |xd fs=>obtain⟨mA,⟨od,es,ep,e,c⟩,r⟩:=x;exact⟨mA,⟨od,es,ep,k _ _ (.inl rfl) e,c⟩,r⟩
 |rng lo hi=>obtain⟨t,u,v,e⟩:=x;exact⟨t,u,v,k _ _ (.inl rfl) e⟩
 |frz ob u ih=>obtain⟨e,q⟩:=x;exact⟨k _ _ (.inl rfl) e,ih q⟩
 |tbl ps=>
  have e:h.get? a=some { cls:=.none,data:=.fields ps }:=x
  show h'.get? a=some { cls:=.none,data:=.fields ps }
  exact k a _ (.inl rfl) e
 |met f y=>
  have e:h.get? a=some (PySem.W.methodObj (.ref f) (.ref y)):=x
  show h'.get? a=some (PySem.W.methodObj (.ref f) (.ref y))
  exact k a _ (.inl rfl) e
 |ext φ=>obtain⟨p,⟨o,e⟩,st⟩:=x;exact⟨st _ _ p λo q=>k _ _ (.inl rfl) q,⟨o,k _ _ (.inl rfl) e⟩,st⟩
 |cod q=>obtain⟨o,vs,t,e,r⟩:=x;exact⟨o,vs,t,k _ _ (.inl rfl) e,r⟩
 |ctb pos q=>
  obtain⟨ps,e,t,c⟩:=x
  refine⟨ps,k _ _ (.inl rfl) e,t,?_⟩
  rcases c with c|⟨c,e1,e2⟩
  ·exact .inl c
  ·exact .inr ⟨c,e1,ht _ _ trivial e2⟩
theorem yH.lt(x:yH P w H h)(e:H a=some o):a < h.objs.size:=(x a o e).lt
theorem yH.fresh(x:yH P w H h)(e:h.objs.size<=a):H a=none:=by
 cases q:H a with
 |none=>rfl
 |some u=>exact absurd (yK (x.lt q) e) (Ru9 _)
theorem yH.kept(x:yH P w H h)(k:∀b u,h.get? b=some u->h'.get? b=some u):yH P w H h':=λa o e=>
 (x a o e).aAF (λb u _ q=>k b u q) (λ_ q=>q) λ_ _ _ q=>q
theorem yH.laid(x:yH P w H h)(k:∀b u,h.get? b=some u->h'.get? b=some u)(hp:h.objs.size<=a)(new:cE P w (upd H a o) h' a o):yH P w (upd H a o) h':=λb u e=>by
 have hn:=x.fresh hp
 by_cases hb:b=a
 ·subst hb;rw[aN] at e;cases e;exact new
 ·rw[bB hb] at e
  exact(x b u e).aAF (λc v _ q=>k c v q) (λc q=>by rw[bB (bJ q hn)];exact q) λc xs _ q=>by rw[bB (bJ q hn)];exact q
end
def Rd(H:Hp)(a:Addr)(u:HO):Prop:=H a=some u\/∃o,H a=some (.frz o u)
theorem Rd.of{H:Hp}{a:Addr}{u:HO}(h:H a=some u):Rd H a u:=.inl h
theorem Rd.ok(r:Rd H a u)(x:yH P w H h):cE P w H h a u:=by
 rcases r with r|⟨o,r⟩
 ·exact x a u r
 ·obtain⟨_,q⟩:=x a _ r
  exact q
def Mut:Option HO->Prop
 |some (.lst _)=>True
 |some (.dK _)=>True
 |some (.dT _)=>True
 |some (.set _ _)=>True
 |some (.ins _ _ _)=>True
 |some (.ext _)=>True
 |_=>False
section
variable{P:Program}{w:World}{H:Hp}{h h':Heap}{x e:Addr}{o':HO}
theorem yH.write(ok:yH P w H h)(mu:Mut (H x))(he:e=x\/H e=some (.own x))(k:∀b u,b≠e->h.get? b=some u->h'.get? b=some u)(heo:∃u,h'.get? e=some u)
  (new:cE P w (upd H x o') h' x o'):yH P w (upd H x o') h':=λb u q=>by
 have nown:∀c y,H c=some (.own y)->c≠x:=λc y r z=>by subst z;rw[r] at mu;exact mu
 have aLF:∀c u,Sty u->H c=some u->c≠x:=λc u y r z=>by
  subst z
  rw[r] at mu
  cases u <;> first|exact mu|exact y
 by_cases hb:b=x
 ·subst hb;rw[aN] at q;cases q;exact new
 ·rw[bB hb] at q
  by_cases hbe:b=e
  ·have q':H b=some (.own x):=by
    rcases he with z|z
    ·exact absurd (hbe.trans z) hb
    ·rw[hbe];exact z
   rw[q] at q';cases q'
   obtain⟨v,hv⟩:=heo
   exact⟨v,by rw[hbe];exact hv⟩
  ·refine(ok b u q).aAF (λc v hc r=>k c v ?_ r) (λc r=>by rw[bB (nown c b r)];exact r) λc xs y r=>by rw[bB (aLF c xs y r)];exact r
   rcases hc with rfl|hc
   ·exact hbe
   ·rintro rfl
    rcases he with z|z
    ·exact nown c b hc z
    ·rw[hc] at z;cases z;exact hb rfl
end
structure Un(fs ex:List Addr)(H H':Hp)(h h':Heap):Prop where
 keep:∀b o,h.get? b=some o->H b=none->b∉fs->b∉ex->h'.get? b=some o
 slot:∀b o,h.get? b=some o->H b=none->b∈fs->b∉ex->∃sl,h'.get? b=some { o with slots:=sl }
 free:∀b o,h.get? b=some o->H b=none->b∉ex->H' b=none
 there:∀b o,h.get? b=some o->b∉ex->∃o',h'.get? b=some o'
 yI:∀b xs,H b=some (.tup xs)->H' b=some (.tup xs)
 frzs:∀b o u,H b=some (.frz o u)->H' b=some (.frz o u)
 tbls:∀b ps,H b=some (.tbl ps)->∃more,H' b=some (.tbl (ps++more))
section
variable{fs fs' ex ex':List Addr}{H H1 H2:Hp}{h h1 h2 h':Heap}{a x e:Addr}{o:HO}
theorem Un.any(u:Un fs ex H H1 h h1)(q:h.get? b=some ob)(n:H b=none)(hx:b∉ex):∃sl,h1.get? b=some { ob with slots:=sl }:=by
 by_cases hb:b∈fs
 ·exact u.slot b ob q n hb hx
 ·exact⟨ob.slots,u.keep b ob q n hb hx⟩
theorem Un.trans(a:Un fs ex H H1 h h1)(b:Un fs ex H1 H2 h1 h2):Un fs ex H H2 h h2 where
 keep:=λc ob q n hc hx=>b.keep c ob (a.keep c ob q n hc hx) (a.free c ob q n hx) hc hx
 slot:=λc ob q n hc hx=>by
  obtain⟨sl,e1⟩:=a.slot c ob q n hc hx
  obtain⟨sl',e2⟩:=b.slot c _ e1 (a.free c ob q n hx) hc hx
  exact⟨sl',e2⟩
 free:=λc ob q n hx=>by
  obtain⟨o',e1⟩:=a.there c ob q hx
  exact b.free c o' e1 (a.free c ob q n hx) hx
 there:=λc ob q hx=>by
  obtain⟨o',e1⟩:=a.there c ob q hx
  exact b.there c o' e1 hx
 yI:=λc xs q=>b.yI c xs (a.yI c xs q)
 frzs:=λc ob xs q=>b.frzs c ob xs (a.frzs c ob xs q)
 tbls:=λc ps q=>by
  obtain⟨m1,e1⟩:=a.tbls c ps q
  obtain⟨m2,e2⟩:=b.tbls c _ e1
  exact⟨m1++m2,by rw[e2,Array.append_assoc]⟩
theorem Un.kept(k:∀b u,h.get? b=some u->h'.get? b=some u):Un fs ex H H h h':=
 ⟨λb ob q _ _ _=>k b ob q,λb ob q _ _ _=>⟨ob.slots,k b ob q⟩,λ_ _ _ n _=>n,λb ob q _=>⟨ob,k b ob q⟩,λ_ _ q=>q,λ_ _ _ q=>q,λ_ ps q=>⟨#[],by rw[q];simp⟩⟩
theorem Un.refl:Un fs ex H H h h:=Un.kept λ_ _ q=>q
theorem Un.laid(k:∀b u,h.get? b=some u->h'.get? b=some u)(hp:h.objs.size<=a)(hn:H a=none):Un fs ex H (upd H a o) h h' where
 keep:=λb u q _ _ _=>k b u q
 slot:=λb u q _ _ _=>⟨u.slots,k b u q⟩
 free:=λb u q n _=>by rw[bB (vU (yK (jY q) hp))];exact n
 there:=λb u q _=>⟨u,k b u q⟩
 yI:=λb xs q=>by rw[bB (bJ q hn)];exact q
 frzs:=λb u xs q=>by rw[bB (bJ q hn)];exact q
 tbls:=λb ps q=>⟨#[],by rw[bB (bJ q hn),q];simp⟩
theorem Un.write(mu:Mut (H x))(he:e=x\/H e=some (.own x))(k:∀b u,b≠e->h.get? b=some u->h'.get? b=some u)(heo:∃u,h'.get? e=some u):Un fs ex H (upd H x o) h h':=by
 have hx:∀b,H b=none->b≠x:=λb n z=>by subst z;rw[n] at mu;exact mu
 have hb:∀b,H b=none->b≠e:=λb n z=>by
  subst z
  rcases he with r|r
  ·exact hx b n r
  ·rw[n] at r;cases r
 have hm:∀b u,H b=some u->¬Mut (some u)->b≠x:=λb u q nm z=>by subst z;rw[q] at mu;exact nm mu
 refine⟨λb u q n _ _=>k b u (hb b n) q,λb u q n _ _=>⟨u.slots,k b u (hb b n) q⟩,λb u q n _=>by rw[bB (hx b n)];exact n,λb u q _=>?_,
  λb xs q=>by rw[bB (hm b _ q λz=>z)];exact q,λb u xs q=>by rw[bB (hm b _ q λz=>z)];exact q,λb ps q=>⟨#[],by rw[bB (hm b _ q λz=>z),q];simp⟩⟩
 by_cases hbe:b=e
 ·subst hbe;exact heo
 ·exact⟨u,k b u hbe q⟩
end
def trk(h:Heap)(H:Hp):List Addr:=(List.range h.objs.size).filter λa=>(H a).isSome
def aAG(h:Heap)(H:Hp):Heap:=PySem.W.hideAll h (trk h H)
theorem aF3(h:Heap)(H:Hp):(aAG h H).objs.size=h.objs.size:=PySem.W.hideAll_size _ _
theorem aHN{h:Heap}(e:h.get? b=some o)(n:H b=none):(aAG h H).get? b=some o:=
 PySem.W.hideAll_get _ e λhm=>by
  have q:(H b).isSome=true:=(Sn9.mp hm).2
  rw[n] at q;simp at q
theorem aJ3{h:Heap}{H:Hp}(e:(aAG h H).get? b=some o):h.get? b=some o/\H b=none:=by
 have e':h.get? b=some o:=PySem.W.of_hideAll (trk h H) e
 refine⟨e',?_⟩
 cases q:H b with
 |none=>rfl
 |some x=>
  have hm:b∈trk h H:=Sn9.mpr ⟨Rs9.mpr (jY e'),by simp[q]⟩
  have z:(aAG h H).get? b=none:=PySem.W.hideAll_none (trk h H) hm
  rw[z] at e;cases e
def aNG(g h:Heap)(L:Addr):List (Addr×Obj):=(List.range h.objs.size).filterMap λa=>if a=L\/(g.get? a).isSome=true then none else (h.get? a).map λo=>(a,o)
def rest(g h:Heap)(L d:Addr):List (Addr×Obj):=(aNG g h L).filter λp=>decide (p.1≠d)
end L2
namespace L2
open PySem PySem.Spec PyProof.Rows
structure Mod(K:W.Frag)(mg:Str->Option Value)(base:Heap):Prop where
 kin:K.In base
 glob:base.Ns mainGlobals mg
 blt:∃mb,base.Ns builtinsNs mb/\∀x:Str,x≠"__name__"->mb x=bootBuiltins x
 nolimit:base.NoLimit
 bm:∃bm o,mg "__builtins__" = some (.ref bm)/\bm≠builtinsNs/\base.get? bm=some o/\o.cls=.type "module"/\o.dict=some builtinsNs/\o.data=.plain
structure Cx where
 prog:Program
 w:World
 K:W.Frag
 mg:Str->Option Value
 base:Heap
 A:Around
 N:List Str
 s₀:Shared
 H₀:Hp
 env:Env
 outer:List Env
 stack:List Env
 ex:List Addr
 fn:Str->Bool
 calm:Bool
 pn:List (Addr×Obj)
 xe:Value->Shared->Prop
def frs(l:List Env):List Addr:=l.filterMap (·.frame)
abbrev Cx.fs(X:Cx):List Addr:=frs X.outer
def Vis(sc:Scope)(x:Str):Prop:=sc.names.lookup x=some .local\/sc.names.lookup x=some .cell\/sc.names.lookup x=some .free
def Loc(sc:Scope)(x:Str):Prop:=sc.names.lookup x=some .local\/sc.names.lookup x=some .cell
def Look(env:Env)(h:Heap)(m:Str->Option Value)(x:Str)(u:Value):Prop:=
 (env.kindOf x=some .local/\m x=some u)\/((env.kindOf x=some .cell\/env.kindOf x=some .free)/\∃c,env.cells.lookup x=some c/\h.IsCell c (some u))
structure Cx.Ok(X:Cx):Prop where
 mod:Mod X.K X.mg X.base
 kind:X.env.scope.kind=.function
 glob:X.env.globals=mainGlobals
 blt:X.env.builtins=builtinsNs
 above:X.s₀.heap.objs.size<=X.env.locals
 inj:∀x y c,X.env.cells.lookup x=some c->X.env.cells.lookup y=some c->x=y
 has:∀x,(X.env.kindOf x=some .cell\/X.env.kindOf x=some .free)->∃c,X.env.cells.lookup x=some c
 cab:∀x c,X.fn x=true->X.env.cells.lookup x=some c->X.s₀.heap.objs.size<=c
 hd:X.calm=true->X.A.handled=none
 frames:X.A.frames=some X.stack
 stk:X.stack=X.outer\/(X.stack=X.env::X.outer/\X.env.frame=some X.env.locals)
 exf:∀b∈X.ex,b≠X.env.locals/\∀x c,X.env.cells.lookup x=some c->c≠b
 bs:∀b o,X.base.get? b=some o->X.s₀.heap.get? b=some o/\X.H₀ b=none
 bsz:X.base.objs.size<=X.s₀.heap.objs.size
 noex:∀b o,X.base.get? b=some o->b∉X.ex
 exfs:∀b∈X.ex,b∉X.fs
 aAH:X.s₀.heap.FunFrames X.base X.outer
 frf:∀b∈X.fs,X.H₀ b=none
structure Inv(X:Cx)(pins:List (Addr×Obj))(σ:List (Option V))(H:Hp)(s:Shared):Prop where
 ok:X.Ok
 os:s.os=X.s₀.os
 bare:AllBare s.gens
 base:Un X.fs X.ex X.H₀ H X.s₀.heap s.heap
 loc:∃m,s.heap.Ns X.env.locals m/\∀(i:Nat) (x:Str) (v:V),X.N[i]?=some x->σ[i]?=some (some v)->Vis X.env.scope x->∃u,RelV v u/\Look X.env s.heap m x u
 cell:∀x c,X.env.cells.lookup x=some c->∃v,s.heap.IsCell c v
 free:H X.env.locals=none
 freeC:∀x c,X.env.cells.lookup x=some c->H c=none
 pin:∀p∈X.pn++pins,s.heap.get? p.1=some p.2/\H p.1=none/\p.1≠X.env.locals/\p.1∉X.fs/\∀v,p.2.data≠.cell v
 hok:yH X.prog X.w H s.heap
 len:σ.length=X.N.length
section
variable{X:Cx}{pins:List (Addr×Obj)}{σ:List (Option V)}{H H':Hp}{s:Shared}{h':Heap}
theorem Cx.Ok.aR1(ok:X.Ok)(e:X.base.get? b=some o):b∉X.fs:=λhb=>by
 have:=(ok.aAH.mem hb).1
 rw[e] at this;cases this
theorem Inv.bs(I:Inv X pins σ H s):∀b o,X.base.get? b=some o->s.heap.get? b=some o/\H b=none:=λb o e=>
 ⟨I.base.keep b o (I.ok.bs b o e).1 (I.ok.bs b o e).2 (I.ok.aR1 e) (I.ok.noex b o e),I.base.free b o (I.ok.bs b o e).1 (I.ok.bs b o e).2 (I.ok.noex b o e)⟩
theorem Inv.bk(I:Inv X pins σ H s):∀b o,X.base.get? b=some o->s.heap.get? b=some o:=λb o e=>(I.bs b o e).1
theorem Inv.mod(I:Inv X pins σ H s):Mod X.K X.mg X.base:=I.ok.mod
theorem Inv.kIn(I:Inv X pins σ H s):X.K.In s.heap:=I.ok.mod.kin.keeps I.bk
theorem Inv.lt(I:Inv X pins σ H s):X.env.locals < s.heap.objs.size:=let ⟨_,hn,_⟩:=I.loc;hn.lt
theorem Inv.sz(I:Inv X pins σ H s):X.s₀.heap.objs.size<=s.heap.objs.size:=Rp9 I.ok.above (Ts9 I.lt)
theorem Inv.aR2(I:Inv X pins σ H s)(h:s.heap.objs.size<=a):a∉X.fs:=λhb=>by
 obtain⟨_,o,ho,_⟩:=I.ok.aAH.mem hb
 exact absurd (yK (jY ho) (Rp9 I.sz h)) (Ru9 _)
theorem Inv.cne(I:Inv X pins σ H s):∀x c,X.env.cells.lookup x=some c->c≠X.env.locals:=λx c e z=>by
 obtain⟨v,o,ho,hd⟩:=I.cell x c e
 obtain⟨m,⟨o',es,ep,ho',hd',_⟩,_⟩:=I.loc
 rw[z,ho'] at ho;cases ho;rw[hd'] at hd;cases hd
theorem Inv.aAH(I:Inv X pins σ H s):s.heap.FunFrames X.base X.outer:=by
 have all:∀(l:List Env),(∀b∈frs l,b∈X.fs)->X.s₀.heap.FunFrames X.base l->s.heap.FunFrames X.base l:=by
  intro l
  induction l with
  |nil=>intro _ _;trivial
  |cons env r ih=>
   intro hs hl
   obtain⟨hk,⟨L,o,hf,hn,ho,hd⟩,hr⟩:=hl
   have hL:L∈X.fs:=hs L (by unfold frs;rw[Sh9,hf];exact Qx9)
   obtain⟨sl,e⟩:=I.base.slot L o ho (I.ok.frf L hL) hL λz=>I.ok.exfs L z hL
   exact⟨hk,⟨L,_,hf,hn,e,hd⟩,ih (λb hb=>hs b (by unfold frs;rw[Sh9,hf];exact Qq9 _ hb)) hr⟩
 exact all X.outer (λ_ hb=>hb) I.ok.aAH
theorem Inv.stack(I:Inv X pins σ H s):s.heap.FunFrames X.base X.stack:=by
 rcases I.ok.stk with e|⟨e,hf⟩
 ·rw[e];exact I.aAH
 ·rw[e]
  obtain⟨m,hn,_⟩:=I.loc
  refine .cons (by rw[I.ok.kind];decide) hf hn ?_ I.aAH
  exact Heap.get?_none_of_le (Rp9 I.ok.bsz I.ok.above)
theorem Inv.aD3(I:Inv X pins σ H s):∀b∈frs X.stack,b∈X.env.locals::X.fs:=λb hb=>by
 rcases I.ok.stk with e|⟨e,hf⟩
 ·rw[e] at hb;exact Qq9 _ hb
 ·rw[e] at hb
  unfold frs at hb
  rw[Sh9,hf] at hb
  exact hb
theorem Inv.aDX(I:Inv X pins σ H s):∀b∈frs X.stack,H b=none:=λb hb=>by
 rcases yF.mp (I.aD3 b hb) with e|hb
 ·rw[e];exact I.free
 ·obtain⟨_,o,ho,_⟩:=I.ok.aAH.mem hb
  exact I.base.free b o ho (I.ok.frf b hb) λz=>I.ok.exfs b z hb
theorem Inv.step{g':Array GenState}{t':Nat}{d':Drawn}{ch:List Addr}(I:Inv X pins σ H s)
  (hch:∀b∈ch,(b∈X.ex\/X.s₀.heap.objs.size<=b)/\b≠X.env.locals/\(∀x c,X.env.cells.lookup x=some c->c≠b)/\∀p∈X.pn++pins,p.1≠b)
  (keep:∀b o,b≠X.env.locals->b∉X.fs->b∉ch->s.heap.get? b=some o->H b=none->h'.get? b=some o)
  (slot:∀b o,b≠X.env.locals->b∈X.fs->b∉ch->s.heap.get? b=some o->H b=none->∃sl,h'.get? b=some { o with slots:=sl }) (free:∀b o,b∉ch->s.heap.get? b=some o->H b=none->H' b=none)
  (there:∀b o,b∉ch->s.heap.get? b=some o->∃o',h'.get? b=some o')
  (yI:∀b xs,H b=some (.tup xs)->H' b=some (.tup xs)) (frzs:∀b o u,H b=some (.frz o u)->H' b=some (.frz o u)) (tbls:∀b ps,H b=some (.tbl ps)->∃more,H' b=some (.tbl (ps++more)))
  (ns:∀m,s.heap.Ns X.env.locals m->h'.Ns X.env.locals m) (hok:yH X.prog X.w H' h') (hg:AllBare g') :
  Inv X pins σ H' { s with heap:=h',gens:=g',drawn:=d',toks:=t' }:=by
 have neL:∀b o,X.s₀.heap.get? b=some o->b≠X.env.locals:=λb o e=>vU (yK (jY e) I.ok.above)
 have neC:∀b o,X.s₀.heap.get? b=some o->b∉X.ex->b∉ch:=λb o e hx hb=>by
  rcases(hch b hb).1 with z|z
  ·exact hx z
  ·exact absurd (yK (jY e) z) (Ru9 _)
 have cellK:∀x c,X.env.cells.lookup x=some c->∀v,s.heap.IsCell c v->h'.IsCell c v:=λx c e v ⟨o,ho,hd⟩=>by
  have nch:c∉ch:=λz=>(hch c z).2.2.1 x c e rfl
  by_cases hc:c∈X.fs
  ·obtain⟨sl,q⟩:=slot c o (I.cne x c e) hc nch ho (I.freeC x c e)
   exact⟨_,q,hd⟩
  ·exact⟨o,keep c o (I.cne x c e) hc nch ho (I.freeC x c e),hd⟩
 refine⟨I.ok,I.os,hg,⟨λb o e n hb hx=>?_,λb o e n hb hx=>?_,λb o e n hx=>?_,λb o e hx=>?_,λb xs e=>yI b xs (I.base.yI b xs e),λb o xs e=>frzs b o xs (I.base.frzs b o xs e),λb ps e=>?_⟩,?_,λx c e=>?_,?_,λx c e=>?_,λp hp=>?_,hok,I.len⟩
 ·exact keep b o (neL b o e) hb (neC b o e hx) (I.base.keep b o e n hb hx) (I.base.free b o e n hx)
 ·obtain⟨sl,e1⟩:=I.base.slot b o e n hb hx
  obtain⟨sl',e2⟩:=slot b _ (neL b o e) hb (neC b o e hx) e1 (I.base.free b o e n hx)
  exact⟨sl',e2⟩
 ·obtain⟨o',e1⟩:=I.base.there b o e hx
  exact free b o' (neC b o e hx) e1 (I.base.free b o e n hx)
 ·obtain⟨o',e1⟩:=I.base.there b o e hx
  exact there b o' (neC b o e hx) e1
 ·obtain⟨m1,e1⟩:=I.base.tbls b ps e
  obtain⟨m2,e2⟩:=tbls b _ e1
  exact⟨m1++m2,by rw[e2,Array.append_assoc]⟩
 ·obtain⟨m,hn,hl⟩:=I.loc
  refine⟨m,ns m hn,λi x v e1 e2 e3=>?_⟩
  obtain⟨u,r,l⟩:=hl i x v e1 e2 e3
  refine⟨u,r,?_⟩
  rcases l with l|⟨k,c,e,z⟩
  ·exact .inl l
  ·exact .inr ⟨k,c,e,cellK x c e _ z⟩
 ·obtain⟨v,z⟩:=I.cell x c e
  exact⟨v,cellK x c e v z⟩
 ·obtain⟨m,⟨o,_,_,ho,_⟩,_⟩:=I.loc
  exact free _ o (λz=>(hch _ z).2.1 rfl) ho I.free
 ·obtain⟨v,o,ho,hd⟩:=I.cell x c e
  exact free c o (λz=>(hch c z).2.2.1 x c e rfl) ho (I.freeC x c e)
 ·obtain⟨e,n,ne,nf,d⟩:=I.pin p hp
  have nch:p.1∉ch:=λz=>(hch p.1 z).2.2.2 p hp rfl
  exact⟨keep p.1 p.2 ne nf nch e n,free p.1 p.2 nch e n,ne,nf,d⟩
theorem Inv.un{t':Nat}(I:Inv X pins σ H s)(u:Un X.fs [] H H' s.heap h')(hok:yH X.prog X.w H' h'):Inv X pins σ H' { s with heap:=h',toks:=t' }:=by
 obtain⟨m,⟨o,es,ep,ho,r⟩,_⟩:=id I.loc
 obtain⟨sl,hL⟩:=u.any ho I.free (by simp)
 exact I.step (g':=s.gens) (d':=s.drawn) (ch:=[]) (λ_ z=>nomatch z) (λb o _ hb _ e n=>u.keep b o e n hb (by simp)) (λb o _ hb _ e n=>u.slot b o e n hb (by simp)) (λb o _ e n=>u.free b o e n (by simp)) (λb o _ e=>u.there b o e (by simp)) u.yI u.frzs u.tbls (λm' hm=>by
  obtain⟨o',es',ep',ho',r'⟩:=hm
  rw[ho] at ho';cases ho'
  exact⟨_,es',ep',hL,r'⟩) hok I.bare
theorem Inv.call{t':Nat}{d':Drawn}(I:Inv X pins σ H s)(u:Un (frs X.stack) ch H H' s.heap h')(hok:yH X.prog X.w H' h')(hg:AllBare g')(hch:∀b∈ch,(b∈X.ex\/X.s₀.heap.objs.size<=b)/\b≠X.env.locals/\(∀x c,X.env.cells.lookup x=some c->c≠b)/\∀p∈X.pn++pins,p.1≠b) :
  Inv X pins σ H' { s with heap:=h',gens:=g',drawn:=d',toks:=t' }:=by
 obtain⟨m,⟨o,es,ep,ho,r⟩,_⟩:=id I.loc
 obtain⟨sl,hL⟩:=u.any ho I.free λz=>(hch _ z).2.1 rfl
 exact I.step (ch:=ch) hch (λb o hL hb hc e n=>u.keep b o e n (λz=>(yF.mp (I.aD3 b z)).elim hL hb) hc) (λb o _ _ hc e n=>u.any e n hc) (λb o hc e n=>u.free b o e n hc) (λb o hc e=>u.there b o e hc) u.yI u.frzs u.tbls (λm' hm=>by
  obtain⟨o',es',ep',ho',r'⟩:=hm
  rw[ho] at ho';cases ho'
  exact⟨_,es',ep',hL,r'⟩) hok hg
theorem Inv.turned{t':Nat}{it:Addr}(I:Inv X pins σ H s)(k:∀b o,b≠it->s.heap.get? b=some o->h'.get? b=some o)(hn:H it=none)(hL:it≠X.env.locals)
  (h1:it∈X.ex\/X.s₀.heap.objs.size<=it) (h2:∀x c,X.env.cells.lookup x=some c->c≠it) (h3:∀p∈X.pn++pins,p.1≠it):Inv X pins σ H { s with heap:=h',toks:=t' }:=by
 have nit:∀b u,H b=some u->b≠it:=λb u e z=>by rw[z,hn] at e;cases e
 refine I.step (g':=s.gens) (d':=s.drawn) (ch:=[it]) (λb hb=>?_) (λb o _ _ hc e _=>k b o (λz=>hc (by simp[z])) e) (λb o _ _ hc e _=>⟨o.slots,k b o (λz=>hc (by simp[z])) e⟩) (λ_ _ _ _ n=>n)
  (λb o hc e=>⟨o,k b o (λz=>hc (by simp[z])) e⟩) (λ_ _ e=>e) (λ_ _ _ e=>e) (λb ps e=>⟨#[],by rw[e];simp⟩) (λm hm=>?_) (λb u e=>?_) I.bare
 ·have e:b=it:=by simpa using hb
  subst e
  exact⟨h1,hL,h2,h3⟩
 ·obtain⟨o,es,ep,ho,r⟩:=hm
  exact⟨o,es,ep,k _ o (Ne.symm hL) ho,r⟩
 ·refine(I.hok b u e).aAF (λc v hc q=>k c v ?_ q) (λ_ q=>q) λ_ _ _ q=>q
  rcases hc with z|z
  ·rw[z];exact nit b u e
  ·exact nit c _ z
theorem Inv.tok(I:Inv X pins σ H s)(t:Nat):Inv X pins σ H { s with toks:=t }:=I.un (h':=s.heap) (t':=t) Un.refl I.hok
theorem Inv.kept{t':Nat}(I:Inv X pins σ H s)(k:∀b u,s.heap.get? b=some u->h'.get? b=some u):Inv X pins σ H { s with heap:=h',toks:=t' }:=I.un (Un.kept k) (I.hok.kept k)
theorem Inv.laid{t':Nat}(I:Inv X pins σ H s)(k:∀b u,s.heap.get? b=some u->h'.get? b=some u)(hp:s.heap.objs.size<=a)(new:cE X.prog X.w (upd H a o) h' a o) :
  Inv X pins σ (upd H a o) { s with heap:=h',toks:=t' }:=I.un (Un.laid k hp (I.hok.fresh hp)) (I.hok.laid k hp new)
theorem Inv.write{t':Nat}(I:Inv X pins σ H s)(mu:Mut (H x))(he:e=x\/H e=some (.own x))(k:∀b u,b≠e->s.heap.get? b=some u->h'.get? b=some u)(heo:∃u,h'.get? e=some u)(new:cE X.prog X.w (upd H x o) h' x o):Inv X pins σ (upd H x o) { s with heap:=h',toks:=t' }:=I.un (Un.write mu he k heo) (I.hok.write mu he k heo new)
theorem Inv.weak{σ':List (Option V)}(I:Inv X pins σ H s)(hl:σ'.length=σ.length)(w:∀(i:Nat) v,σ'[i]?=some (some v)->σ[i]?=some (some v)):Inv X pins σ' H s:=
 ⟨I.ok,I.os,I.bare,I.base,let ⟨m,hn,hl'⟩:=I.loc;⟨m,hn,λi x v e1 e2 e3=>hl' i x v e1 (w i v e2) e3⟩,I.cell,I.free,I.freeC,I.pin,I.hok,hl.trans I.len⟩
theorem Inv.aDY(I:Inv X pins σ H s)(h:∀p∈pins',s.heap.get? p.1=some p.2/\H p.1=none/\p.1≠X.env.locals/\p.1∉X.fs/\∀v,p.2.data≠.cell v):Inv X pins' σ H s:=
 ⟨I.ok,I.os,I.bare,I.base,I.loc,I.cell,I.free,I.freeC,λp hp=>(Ri9.mp hp).elim (λz=>I.pin p (Rx9 _ z)) (h p),I.hok,I.len⟩
theorem aHO{N:List Str}(hN:N.Nodup){i j:Nat}(a:N[i]?=some x)(b:N[j]?=some x):i=j:=by
 obtain⟨h1,e1⟩:=lZ.mp a
 obtain⟨h2,e2⟩:=lZ.mp b
 exact(List.getElem_inj hN).mp (e1.trans e2.symm)
theorem aF4{E:Value->Shared->Prop}{i:Nat}{Q:Unit->Shared->Prop}(I:Inv X pins σ H s)(hN:X.N.Nodup)(hi:X.N[i]?=some x)(hx:Loc X.env.scope x)(r:RelV v u)(h:∀s',Inv X pins (σ.set i (some v)) H s'->(∃a,Heap.SameBut a s.heap s'.heap/\(a=X.env.locals\/X.env.cells.lookup x=some a))->Q () s')(hf:X.fn x=true\/X.env.scope.names.lookup x=some .local:=by first|exact .inl rfl|exact .inr rfl|assumption):wpAny M A (storeName X.env x u) Q E s:=by
 obtain⟨m,hn,hl⟩:=id I.loc
 have hcls:(X.env.scope.kind == .class || (X.env.scope.kind == .module && X.env.locals != X.env.globals))=false:=by rw[I.ok.kind];rfl
 have hiσ:i < σ.length:=by rw[I.len];exact(lZ.mp hi).1
 have cne:=I.cne
 have tracked:∀{a:Addr} {h':Heap},(∃o,s.heap.get? a=some o/\H a=none)->Heap.SameBut a s.heap h'->yH X.prog X.w H h':=λ{a h'} ha hs b ob e=>by
  obtain⟨_,_,hfree⟩:=ha
  refine(I.hok b ob e).aAF (λc w' hc q=>(hs.2 c ?_).trans q) (λ_ q=>q) λ_ _ _ q=>q
  rintro rfl
  rcases hc with rfl|hc
  ·rw[hfree] at e;cases e
  ·rw[hfree] at hc;cases hc
 rcases hx with hk|hk
 ·refine wpAny_storeName_local hk hn (λh' hn' hs=>?_) hcls
  obtain⟨oL,_,_,hoL,_⟩:=id hn
  refine h _ ⟨I.ok,I.os,I.bare,⟨λb o e n hb hx=>?_,λb o e n hb hx=>?_,I.base.free,λb o e hx=>?_,I.base.yI,I.base.frzs,I.base.tbls⟩,⟨_,hn',λj y v' e1 e2 e3=>?_⟩,λy c e=>?_,I.free,I.freeC,λp hp=>?_,tracked ⟨oL,hoL,I.free⟩ hs,by simpa using I.len⟩ ⟨_,hs,.inl rfl⟩
  ·exact(hs.2 b (vU (yK (jY e) I.ok.above))).trans (I.base.keep b o e n hb hx)
  ·obtain⟨sl,e1⟩:=I.base.slot b o e n hb hx
   exact⟨sl,(hs.2 b (vU (yK (jY e) I.ok.above))).trans e1⟩
  ·obtain⟨o',e1⟩:=I.base.there b o e hx
   exact⟨o',(hs.2 b (vU (yK (jY e) I.ok.above))).trans e1⟩
  ·by_cases hj:j=i
   ·subst hj
    rw[hi] at e1;cases e1
    rw[Tl9 hiσ] at e2
    cases e2
    exact⟨u,r,.inl ⟨hk,by simp⟩⟩
   ·rw[Ta9 (Ne.symm hj)] at e2
    obtain⟨u',r',q⟩:=hl j y v' e1 e2 e3
    refine⟨u',r',?_⟩
    rcases q with ⟨k,e⟩|⟨k,c,e,z⟩
    ·refine .inl ⟨k,?_⟩
     have:y≠x:=λe=>hj (aHO hN e1 (e▸hi))
     simp[this,e]
    ·exact .inr ⟨k,c,e,z.sameBut hs (cne y c e)⟩
  ·obtain⟨w',z⟩:=I.cell y c e
   exact⟨w',z.sameBut hs (cne y c e)⟩
  ·obtain⟨e,n,ne,nf,d⟩:=I.pin p hp
   exact⟨(hs.2 p.1 ne).trans e,n,ne,nf,d⟩
 ·have hfn:X.fn x=true:=by
   rcases hf with z|z
   ·exact z
   ·rw[z] at hk;cases hk
  obtain⟨c,hc⟩:=I.ok.has x (.inl hk)
  obtain⟨w',z⟩:=I.cell x c hc
  refine wpAny_storeName_cell I.ok.kind hk hc z (λh' hc' hs=>?_)
  obtain⟨oc,hoc,hocd⟩:=id z
  refine h { s with heap:=h' } ⟨I.ok,I.os,I.bare,⟨λb o e n hb hx=>?_,λb o e n hb hx=>?_,I.base.free,λb o e hx=>?_,I.base.yI,I.base.frzs,I.base.tbls⟩,⟨m,hn.sameBut hs (Ne.symm (cne x c hc)),λj y v' e1 e2 e3=>?_⟩,λy c' e=>?_,I.free,I.freeC,λp hp=>?_,tracked ⟨oc,hoc,I.freeC x c hc⟩ hs,by simpa using I.len⟩ ⟨c,hs,.inr hc⟩
  ·exact(hs.2 b (vU (yK (jY e) (I.ok.cab x c hfn hc)))).trans (I.base.keep b o e n hb hx)
  ·obtain⟨sl,e1⟩:=I.base.slot b o e n hb hx
   exact⟨sl,(hs.2 b (vU (yK (jY e) (I.ok.cab x c hfn hc)))).trans e1⟩
  ·obtain⟨o',e1⟩:=I.base.there b o e hx
   exact⟨o',(hs.2 b (vU (yK (jY e) (I.ok.cab x c hfn hc)))).trans e1⟩
  ·by_cases hj:j=i
   ·subst hj
    rw[hi] at e1;cases e1
    rw[Tl9 hiσ] at e2
    cases e2
    exact⟨u,r,.inr ⟨.inl hk,c,hc,hc'⟩⟩
   ·rw[Ta9 (Ne.symm hj)] at e2
    obtain⟨u',r',q⟩:=hl j y v' e1 e2 e3
    refine⟨u',r',?_⟩
    rcases q with q|⟨k,c',e,z'⟩
    ·exact .inl q
    ·refine .inr ⟨k,c',e,z'.sameBut hs ?_⟩
     rintro rfl
     exact hj (aHO hN e1 (I.ok.inj _ _ _ e hc▸hi))
  ·by_cases hcc:c'=c
   ·subst hcc;exact⟨_,hc'⟩
   ·obtain⟨w2,z2⟩:=I.cell y c' e
    exact⟨w2,z2.sameBut hs hcc⟩
  ·obtain⟨e,n,ne,nf,d⟩:=I.pin p hp
   refine⟨(hs.2 p.1 ?_).trans e,n,ne,nf,d⟩
   intro q
   rw[q,hoc] at e
   have q':oc=p.2:=Option.some.inj e
   exact d w' (by rw[<-q'];exact hocd)
theorem yM{E:Value->Shared->Prop}{i:Nat}{Q:Unit->Shared->Prop}(I:Inv X pins σ H s)(hN:X.N.Nodup)(hi:X.N[i]?=some x)(hx:Loc X.env.scope x)(r:RelV v u)(h:∀s',Inv X pins (σ.set i (some v)) H s'->Q () s')(hf:X.fn x=true\/X.env.scope.names.lookup x=some .local:=by first|exact .inl rfl|exact .inr rfl|assumption):wpAny M A (storeName X.env x u) Q E s:=
 aF4 I hN hi hx r (λs' I' _=>h s' I') hf
theorem Inv.aRf{s':Shared}(I:Inv X pins σ H s)(ho:s'.os=s.os)(u:Un (frs X.stack) ch H H' s.heap s'.heap)(hok:yH X.prog X.w H' s'.heap)(hg:AllBare s'.gens)(hch:∀b∈ch,(b∈X.ex\/X.s₀.heap.objs.size<=b)/\b≠X.env.locals/\(∀x c,X.env.cells.lookup x=some c->c≠b)/\∀p∈X.pn++pins,p.1≠b):Inv X pins σ H' s':=by
 obtain⟨h',g',d',t',o'⟩:=s'
 have e:o'=s.os:=ho
 subst e
 exact I.call (g':=g') (t':=t') (d':=d') u hok hg hch
end
abbrev XK:=Value->Option Addr->Hp->Prop
abbrev St:=List (Option V)
abbrev VK:=V->Hp->Prop
abbrev TE:=St->Hp->VK->Prop
abbrev TT:=St->Hp->(Bool->Hp->Prop)->Prop
abbrev TA:=St->Hp->(List V->Hp->Prop)->Prop
structure Ends where
 nx:St->Hp->Prop
 rt:VK
 bk:St->Hp->Prop:=λ_ _=>False
 ct:St->Hp->Prop:=λ_ _=>False
abbrev TS:=Ends->St->Hp->Prop
def EP(X:Cx)(pins:List (Addr×Obj))(σ:St)(Q:VK)(u:Value)(s':Shared):Prop:=∃v H',Inv X pins σ H' s'/\RelV v u/\Q v H'
def TP(X:Cx)(pins:List (Addr×Obj))(σ:St)(Q:Bool->Hp->Prop)(b:Bool)(s':Shared):Prop:=∃H',Inv X pins σ H' s'/\Q b H'
def AP(X:Cx)(pins:List (Addr×Obj))(σ:St)(Q:List V->Hp->Prop)(us:List Value)(s':Shared):Prop:=∃vs H',Inv X pins σ H' s'/\Vals vs us/\Q vs H'
def SP(X:Cx)(pins:List (Addr×Obj))(D:Ends)(f:Flow)(s':Shared):Prop:=
 match f with
 |.next=>∃σ' H',Inv X pins σ' H' s'/\D.nx σ' H'
 |.brk=>∃σ' H',Inv X pins σ' H' s'/\D.bk σ' H'
 |.cont=>∃σ' H',Inv X pins σ' H' s'/\D.ct σ' H'
 |.ret u=>∃v σ' H',Inv X pins σ' H' s'/\RelV v u/\D.rt v H'
def PE(X:Cx)(e:Expr)(t:TE):Prop:=
 ∀(pins:List (Addr×Obj)) (s:Shared) (σ:St) (H:Hp) (Q:VK),Inv X pins σ H s->t σ H Q->wpAny (model X.prog X.w) X.A (eval e X.env) (EP X pins σ Q) X.xe s
def PT(X:Cx)(e:Expr)(t:TT):Prop:=
 ∀(pins:List (Addr×Obj)) (s:Shared) (σ:St) (H:Hp) (Q:Bool->Hp->Prop),Inv X pins σ H s->t σ H Q->wpAny (model X.prog X.w) X.A (isTrue e X.env (eval e X.env)) (TP X pins σ Q) X.xe s
def PW(X:Cx)(e:Expr)(t:TT):Prop:=
 ∀(whole:Sem Value) (pins:List (Addr×Obj)) (s:Shared) (σ:St) (H:Hp) (Q:Bool->Hp->Prop),Inv X pins σ H s->t σ H Q->wpAny (model X.prog X.w) X.A (isTrue e X.env whole) (TP X pins σ Q) X.xe s
theorem PW.pt(h:PW X e t):PT X e t:=h _
def PA(X:Cx)(es:List Expr)(t:TA):Prop:=
 ∀(pos:Pos) (pins:List (Addr×Obj)) (s:Shared) (σ:St) (H:Hp) (Q:List V->Hp->Prop),Inv X pins σ H s->t σ H Q->wpAny (model X.prog X.w) X.A (spliced (backTo pos (starEach es X.env))) (AP X pins σ Q) X.xe s
def PS(X:Cx)(st:Stmt)(t:TS):Prop:=
 ∀(pins:List (Addr×Obj)) (s:Shared) (σ:St) (H:Hp) (D:Ends),Inv X pins σ H s->t D σ H->wpAny (model X.prog X.w) X.A (exec st X.env) (SP X pins D) X.xe s
def PSs(X:Cx)(st:List Stmt)(t:TS):Prop:=
 ∀(pins:List (Addr×Obj)) (s:Shared) (σ:St) (H:Hp) (D:Ends),Inv X pins σ H s->t D σ H->wpAny (model X.prog X.w) X.A (execs st X.env) (SP X pins D) X.xe s
theorem dW{α:Type}{t:Sem α}{Q Q':α->Shared->Prop}{M:Model}{A:Around}{E:Value->Shared->Prop}{s:Shared}(h:wpAny M A t Q E s)(hQ:∀a s,Q a s->Q' a s):wpAny M A t Q' E s:=wpAny_mono h hQ λ_ _ x=>x
end L2
namespace L2
open PySem PySem.Spec PyProof.Rows
section
variable{X:Cx}
def aPA(i:Nat):TE:=λσ H Q=>∃v,σ[i]?=some (some v)/\Q v H
def tC(v:V):TE:=λ_ H Q=>Q v H
theorem aLG{i:Nat}(hN:X.N[i]?=some x)(hv:Vis X.env.scope x)(hd:(x == ("__debug__" : Str))=false:=by decide)(hcd:(x == ("__classdict__" : Str))=false:=by decide):PE X (.Name x pos) (aPA i):=by
 intro pins s σ H Q I h
 obtain⟨v,e,h⟩:=h
 obtain⟨m,hn,hl⟩:=I.loc
 obtain⟨u,r,l⟩:=hl i x v hN e hv
 have fin:EP X pins σ Q u s:=⟨v,H,I,r,h⟩
 rcases l with ⟨hk,hm⟩|⟨hk,c,hc,hcell⟩
 ·exact wpAny_Name (wpAny_loadName_local I.ok.kind hk hn hm fin) hd
 ·rcases hk with hk|hk
  ·exact wpAny_Name (wpAny_loadName_cell I.ok.kind hk hc hcell fin) hd
  ·exact wpAny_Name (wpAny_loadName_free I.ok.kind hk hc hcell fin hcd) hd
theorem aPB{i j pos}:PE X (.Constant (.int i) j pos) (tC (.int i)):=λ_ _ _ H _ I h=>wpAny_Constant_int ⟨.int i,H,I.tok _,⟨_,rfl⟩,h⟩
theorem aRg{b j pos}:PE X (.Constant (.bool b) j pos) (tC (.bl b)):=λ_ _ _ H _ I h=>Constant_bool ⟨.bl b,H,I,rfl,h⟩
theorem aPC{j pos}:PE X (.Constant .none j pos) (tC .non):=λ_ _ _ H _ I h=>Constant_none ⟨.non,H,I,rfl,h⟩
def Gl(X:Cx)(x:Str):Prop:=X.env.kindOf x=some .globalImplicit
theorem aDZ{E:Value->Shared->Prop}{Q:Value->Shared->Prop}(I:Inv X pins σ H s)(hg:Gl X x)(hm:X.mg x=some u)(h:Q u s)(hd:(x == ("__debug__" : Str))=false:=by decide):wpAny (model X.prog X.w) X.A (eval (.Name x pos) X.env) Q E s:=
 Calls.Name_function_global I.ok.kind hg (Calls.loadGlobal_global (by rw[I.ok.glob];exact I.mod.glob.keeps I.bk) hm h) hd
theorem uA{E:Value->Shared->Prop}{Q:Value->Shared->Prop}(I:Inv X pins σ H s)(hg:Gl X x)(hm:X.mg x=none)(hv:bootBuiltins x=some u)(h:Q u s)(hn:x≠"__name__":=by decide)(hd:(x == ("__debug__" : Str))=false:=by decide):wpAny (model X.prog X.w) X.A (eval (.Name x pos) X.env) Q E s:=by
 obtain⟨mb,h1,h2⟩:=I.mod.blt
 exact Calls.Name_function_global I.ok.kind hg (Calls.loadGlobal_builtin (by rw[I.ok.glob];exact I.mod.glob.keeps I.bk) hm (by rw[I.ok.blt];exact h1.keeps I.bk) ((h2 x hn).trans hv) h) hd
theorem aJ4(hg:Gl X x)(hm:X.mg x=some u)(r:RelV v u)(hd:(x == ("__debug__" : Str))=false:=by decide):PE X (.Name x pos) (tC v):=
 λ_ _ _ H _ I h=>aDZ I hg hm ⟨v,H,I,r,h⟩ hd
theorem aNH(hg:Gl X x)(hm:X.mg x=none)(hv:bootBuiltins x=some u)(r:RelV v u)(hn:x≠"__name__":=by decide)(hd:(x == ("__debug__" : Str))=false:=by decide):PE X (.Name x pos) (tC v):=
 λ_ _ _ H _ I h=>uA I hg hm hv ⟨v,H,I,r,h⟩ hn hd
variable{a b:Expr}{ta tb:TE}{pos:Pos}
def tB(t:TE):TT:=λσ H Q=>t σ H λx H1=>∃c,x=.bl c/\Q c H1
theorem aPD{e:Expr}{t:TE}(h:PE X e t)(he:∀whole,isTrue e X.env whole=(do let v <-whole;standAt e.pos;holding [v] (truthy v)):=by intro _;rfl):PT X e (tB t):=by
 intro pins s σ H Q I hw
 refine isTrue_plain (dW (h pins s σ H _ I hw) λv s1 ⟨x,H1,I1,r1,q1⟩=>?_) (he _)
 obtain⟨d,rfl,q⟩:=q1
 cases r1
 exact wpAny_truthy_bool ⟨H1,I1,q⟩
variable{tA tB':TT}{rest:List Expr}
def aPE(t u:TT):TT:=λσ H Q=>t σ H λc H1=>if c=true then u σ H1 Q else Q false H1
def tOr(t u:TT):TT:=λσ H Q=>t σ H λc H1=>if c=true then Q true H1 else u σ H1 Q
def aPF(t:TT):TT:=λσ H Q=>t σ H λc H1=>Q (!c) H1
theorem aNI(ha:PT X a tA):PW X (.BoolOp .And [a] pos) tA:=by
 intro wh pins s σ H Q I h
 refine isTrue_and (dW (ha pins s σ H Q I h) λc s1 e=>?_)
 cases c with
 |true=>exact isTrue_and_nil e
 |false=>exact e
theorem aPG(ha:PT X a tA):PW X (.BoolOp .Or [a] pos) tA:=by
 intro wh pins s σ H Q I h
 refine isTrue_or (dW (ha pins s σ H Q I h) λc s1 e=>?_)
 cases c with
 |false=>exact isTrue_or_nil e
 |true=>exact e
theorem aPH(ha:PT X a tA)(hb:PW X (.BoolOp .And (b::rest) pos) tB'):PW X (.BoolOp .And (a::b::rest) pos) (aPE tA tB'):=by
 intro wh pins s σ H Q I h
 refine isTrue_and (dW (ha pins s σ H _ I h) λc s1 ⟨H1,I1,q1⟩=>?_)
 cases c with
 |true=>exact hb wh pins s1 σ H1 Q I1 q1
 |false=>exact⟨H1,I1,q1⟩
theorem aRh(ha:PT X a tA)(hb:PW X (.BoolOp .Or (b::rest) pos) tB'):PW X (.BoolOp .Or (a::b::rest) pos) (tOr tA tB'):=by
 intro wh pins s σ H Q I h
 refine isTrue_or (dW (ha pins s σ H _ I h) λc s1 ⟨H1,I1,q1⟩=>?_)
 cases c with
 |true=>exact⟨H1,I1,q1⟩
 |false=>exact hb wh pins s1 σ H1 Q I1 q1
theorem aPI(ha:PT X a tA):PT X (.UnaryOp .Not a pos) (aPF tA):=by
 intro pins s σ H Q I h
 exact isTrue_not (ha pins s σ H (λc H1=>Q (!c) H1) I h)
def aLH(ta tb:TE):TE:=λσ H Q=>ta σ H λx H1=>∃c,x=.bl c/\if c=true then tb σ H1 Q else Q (.bl false) H1
def aPJ(ta tb:TE):TE:=λσ H Q=>ta σ H λx H1=>∃c,x=.bl c/\if c=true then Q (.bl true) H1 else tb σ H1 Q
def aLI(ta:TE):TE:=λσ H Q=>ta σ H λx H1=>∃c,x=.bl c/\Q (.bl (!c)) H1
theorem aPK{op}(h:PE X a t):PE X (.BoolOp op [a] pos) t:=λpins s σ H Q I hw=>BoolOp_one (h pins s σ H Q I hw)
theorem aPL(ha:PE X a ta)(hb:PE X (.BoolOp .And (b::rest) pos) tb):PE X (.BoolOp .And (a::b::rest) pos) (aLH ta tb):=by
 intro pins s σ H Q I h
 refine BoolOp_and (dW (ha pins s σ H _ I h) λv s1 ⟨x,H1,I1,r1,q1⟩=>?_)
 obtain⟨c,rfl,q1⟩:=q1
 cases r1
 refine wpAny_truthy_bool ?_
 cases c with
 |true=>exact hb pins s1 σ H1 Q I1 q1
 |false=>exact⟨.bl false,H1,I1,rfl,q1⟩
theorem aRi(ha:PE X a ta)(hb:PE X (.BoolOp .Or (b::rest) pos) tb):PE X (.BoolOp .Or (a::b::rest) pos) (aPJ ta tb):=by
 intro pins s σ H Q I h
 refine BoolOp_or (dW (ha pins s σ H _ I h) λv s1 ⟨x,H1,I1,r1,q1⟩=>?_)
 obtain⟨c,rfl,q1⟩:=q1
 cases r1
 refine wpAny_truthy_bool ?_
 cases c with
 |false=>exact hb pins s1 σ H1 Q I1 q1
 |true=>exact⟨.bl true,H1,I1,rfl,q1⟩
theorem aPM(ha:PE X a ta):PE X (.UnaryOp .Not a pos) (aLI ta):=by
 intro pins s σ H Q I h
 refine UnaryOp_ (dW (ha pins s σ H _ I h) λv s1 ⟨x,H1,I1,r1,q1⟩=>?_)
 obtain⟨c,rfl,q1⟩:=q1
 cases r1
 exact not_of (wpAny_truthy_bool ⟨.bl (!c),H1,I1,rfl,q1⟩)
def tIf(t:TT)(ta tb:TE):TE:=λσ H Q=>t σ H λc H1=>if c=true then ta σ H1 Q else tb σ H1 Q
theorem aLJ{c:Expr}(hc:PT X c tA)(ha:PE X a ta)(hb:PE X b tb):PE X (.IfExp c a b pos) (tIf tA ta tb):=by
 intro pins s σ H Q I h
 refine wpAny_IfExp (dW (hc pins s σ H _ I h) λd s1 ⟨H1,I1,q1⟩=>?_)
 cases d with
 |true=>exact ha pins s1 σ H1 Q I1 q1
 |false=>exact hb pins s1 σ H1 Q I1 q1
end
end L2
namespace L2
open PySem PySem.Spec PyProof.Rows
def bV(K:W.Frag)(H:Hp)(a:Addr)(xs:List V):Prop:=
 Rd H a (.lst xs)\/
  ∃(o:Obj) (its:Array Value) (n:Nat),K.lookup a=some o/\o.cls=.type "list"/\o.dict=none/\o.data=.seq its n/\its.size<=sizeLine/\Vals xs its.toList
def kQ(K:W.Frag)(H:Hp)(a:Addr)(xs:List V):Prop:=
 Rd H a (.tup xs)\/
  ∃(o:Obj) (its:Array Value) (n:Nat),K.lookup a=some o/\o.cls=.type "tuple"/\o.data=.seq its n/\its.size<=sizeLine/\Vals xs its.toList
def aR3:Value->Option V
 |.none=>some .non
 |.bool b=>some (.bl b)
 |.int i _=>some (.int i)
 |.str x _=>some (.str x)
 |.bytes b _=>some (.byt b)
 |.float b _=>some (.flt b)
 |.ref a=>some (.ref a)
 |.type n=>some (.ty n)
 |_=>none
theorem RelV.abs(r:RelV x u):aR3 u=some x:=by
 cases x with
 |non=>cases r;rfl
 |bl _=>cases r;rfl
 |int _=>obtain⟨t,rfl⟩:=r;rfl
 |str _=>obtain⟨t,rfl⟩:=r;rfl
 |byt _=>obtain⟨t,rfl⟩:=r;rfl
 |flt _=>obtain⟨t,rfl⟩:=r;rfl
 |ref _=>cases r;rfl
 |ty _=>cases r;rfl
theorem RelV.inj(r:RelV x u)(q:RelV y u):x=y:=Option.some.inj (r.abs.symm.trans q.abs)
theorem Vals.inj:∀{xs ys:List V}{us:List Value},Vals xs us->Vals ys us->xs=ys
 |_,_,_,.nil,.nil=>rfl
 |_,_,_,.cons r t,.cons r' t'=>by rw[r.inj r',Vals.inj t t']
section
variable{X:Cx}{pins:List (Addr×Obj)}{σ:St}{H:Hp}{s:Shared}{a:Addr}{xs ys:List V}
theorem bV.of{K:W.Frag}(h:H a=some (.lst xs)):bV K H a xs:=.inl (.inl h)
theorem kQ.of{K:W.Frag}(h:H a=some (.tup xs)):kQ K H a xs:=.inl (.inl h)
theorem Inv.list(I:Inv X pins σ H s)(h:bV X.K H a xs):∃its:List Value,Vals xs its/\PlainL s.heap a its.toArray/\xs.length<=sizeLine:=by
 rcases h with h|⟨o,its,n,hk,hc,hd,hs,hz,r⟩
 ·obtain⟨z,its,n,r,e⟩:=h.ok I.hok
  exact⟨its,r,⟨_,n,e,rfl,rfl,rfl⟩,z⟩
 ·refine⟨its.toList,r,⟨o,n,I.kIn a o hk,hc,hd,by simpa using hs⟩,?_⟩
  have e:=r.length
  simp only[Rg9] at e
  omega
theorem Inv.tuple(I:Inv X pins σ H s)(h:kQ X.K H a xs):∃its:List Value,Vals xs its/\IsTup s.heap a its.toArray/\xs.length<=sizeLine:=by
 rcases h with h|⟨o,its,n,hk,hc,hs,hz,r⟩
 ·obtain⟨z,its,r,p⟩:=h.ok I.hok
  exact⟨its,r,p,z⟩
 ·refine⟨its.toList,r,⟨o,I.kIn a o hk,hc,n,by simpa using hs⟩,?_⟩
  have e:=r.length
  simp only[Rg9] at e
  omega
theorem Inv.aD4(I:Inv X pins σ H s)(h:bV X.K H a xs)(h':bV X.K H a ys):xs=ys:=by
 obtain⟨its,r,⟨o,n,e,_,_,d⟩,_⟩:=I.list h
 obtain⟨its',r',⟨o',n',e',_,_,d'⟩,_⟩:=I.list h'
 rw[e] at e';cases e'
 rw[d] at d'
 injection d' with d1 _
 have:its=its':=by simpa using congrArg Array.toList d1
 subst this
 exact r.inj r'
theorem Inv.aF5(I:Inv X pins σ H s)(h:kQ X.K H a xs)(h':kQ X.K H a ys):xs=ys:=by
 obtain⟨its,r,⟨o,e,_,n,d⟩,_⟩:=I.tuple h
 obtain⟨its',r',⟨o',e',_,n',d'⟩,_⟩:=I.tuple h'
 rw[e] at e';cases e'
 rw[d] at d'
 injection d' with d1 _
 have:its=its':=by simpa using congrArg Array.toList d1
 subst this
 exact r.inj r'
end
abbrev Cx.aFj(X:Cx)(E:Value->Shared->Prop):Cx:={ X with xe:=E }
abbrev Cx.nox(X:Cx):Cx:=X.aFj λ_ _=>False
theorem Cx.Ok.aFj{X:Cx}(ok:X.Ok)(E:Value->Shared->Prop):(X.aFj E).Ok:=
 ⟨ok.mod,ok.kind,ok.glob,ok.blt,ok.above,ok.inj,ok.has,ok.cab,ok.hd,ok.frames,ok.stk,ok.exf,ok.bs,ok.bsz,ok.noex,ok.exfs,ok.aAH,ok.frf⟩
theorem Cx.Ok.yN{X:Cx}{E:Value->Shared->Prop}(ok:(X.aFj E).Ok):X.Ok:=
 ⟨ok.mod,ok.kind,ok.glob,ok.blt,ok.above,ok.inj,ok.has,ok.cab,ok.hd,ok.frames,ok.stk,ok.exf,ok.bs,ok.bsz,ok.noex,ok.exfs,ok.aAH,ok.frf⟩
section
variable{X:Cx}{pins:List (Addr×Obj)}{σ:St}{H:Hp}{s:Shared}{E:Value->Shared->Prop}
theorem Inv.aFj(I:Inv X pins σ H s)(E:Value->Shared->Prop):Inv (X.aFj E) pins σ H s:=⟨I.ok.aFj E,I.os,I.bare,I.base,I.loc,I.cell,I.free,I.freeC,I.pin,I.hok,I.len⟩
theorem Inv.yN(I:Inv (X.aFj E) pins σ H s):Inv X pins σ H s:=⟨I.ok.yN,I.os,I.bare,I.base,I.loc,I.cell,I.free,I.freeC,I.pin,I.hok,I.len⟩
theorem SP.yN(h:SP (X.aFj E) pins D f s'):SP X pins D f s':=by
 cases f with
 |next=>obtain⟨σ',H',I,q⟩:=h;exact⟨σ',H',I.yN,q⟩
 |brk=>obtain⟨σ',H',I,q⟩:=h;exact⟨σ',H',I.yN,q⟩
 |cont=>obtain⟨σ',H',I,q⟩:=h;exact⟨σ',H',I.yN,q⟩
 |ret u=>obtain⟨v,σ',H',I,r,q⟩:=h;exact⟨v,σ',H',I.yN,r,q⟩
theorem PSs.nox{st:List Stmt}{t:TS}(h:PSs X.nox st t):PSs X st t:=λpins s σ H D I hw=>
 wpAny_mono (h pins s σ H D (I.aFj _) hw) (λ_ _ q=>q.yN) λ_ _ z=>False.elim z
end
section
variable{X:Cx}{st:Stmt}{rest:List Stmt}{t u:TS}{e:Expr}{te:TE}{pos:Pos}
def aLK:TS:=λD σ H=>D.nx σ H
def aLL(t u:TS):TS:=λD σ H=>t { D with nx:=u D } σ H
theorem aNJ:PSs X [] aLK:=λ_ _ σ H _ I h=>wpAny_execs_nil ⟨σ,H,I,h⟩
theorem aLM(h1:PS X st t)(h2:PSs X rest u):PSs X (st::rest) (aLL t u):=by
 intro pins s σ H D I h
 refine wpAny_execs_cons (dW (h1 pins s σ H { D with nx:=u D } I h) λf s1 q=>?_)
 cases f with
 |next=>
  obtain⟨σ',H',I',q⟩:=q
  exact h2 pins s1 σ' H' D I' q
 |ret v=>exact q
 |brk=>exact q
 |cont=>exact q
theorem aNK(h1:PS X st t):PSs X [st] t:=by
 intro pins s σ H D I h
 refine wpAny_execs_cons (dW (h1 pins s σ H D I h) λf s1 q=>?_)
 cases f with
 |next=>exact wpAny_execs_nil q
 |ret v=>exact q
 |brk=>exact q
 |cont=>exact q
theorem Inv.quiet(I:Inv X pins σ H s):interactive X.env=false:=by simp[interactive,I.ok.kind]
def aLN(te:TE):TS:=λD σ H=>te σ H λ_ H1=>D.nx σ H1
theorem aNL(he:PE X e te)(hs:swapsWith e none pos.line X.env=pure false:=by rfl):PS X (.Expr e pos) (aLN te):=by
 intro pins s σ H D I h
 exact wpAny_Expr_any (dW (he pins s σ H _ I h) λv s1 ⟨x,H1,I1,r1,q1⟩=>⟨σ,H1,I1,q1⟩) I.quiet hs
def aPN(te:TE):TS:=λD σ H=>te σ H D.rt
theorem aPO(he:PE X e te):PS X (.Return (some e) pos) (aPN te):=by
 intro pins s σ H D I h
 exact wpAny_Return_some (dW (he pins s σ H _ I h) λv s1 ⟨x,H1,I1,r1,q1⟩=>⟨x,σ,H1,I1,r1,q1⟩)
def aPP(c:TT)(t u:TS):TS:=λD σ H=>c σ H λb H1=>if b=true then t D σ H1 else u D σ H1
theorem aRj{c:Expr}{a b:List Stmt}{tc:TT}(hc:PT X c tc)(ha:PSs X a t)(hb:PSs X b u):PS X (.If c a b pos) (aPP tc t u):=by
 intro pins s σ H D I h
 refine wpAny_If (dW (hc pins s σ H _ I h) λd s1 ⟨H1,I1,q1⟩=>?_)
 cases d with
 |true=>exact ha pins s1 σ H1 D I1 q1
 |false=>exact hb pins s1 σ H1 D I1 q1
def aLO:TS:=λ_ _ _=>False
theorem aLP:PS X st aLO:=λ_ _ _ _ _ _ h=>h.elim
end
abbrev TG:=V->St->Hp->(St->Hp->Prop)->Prop
abbrev TGs:=List V->St->Hp->(St->Hp->Prop)->Prop
def PG(X:Cx)(target:Expr)(t:TG):Prop:=
 ∀(pins:List (Addr×Obj)) (s:Shared) (σ:St) (H:Hp) (v:V) (u:Value) (Q:St->Hp->Prop),Inv X pins σ H s->RelV v u->t v σ H Q->
  wpAny (model X.prog X.w) X.A (assign target X.env u) (λ_ s'=>∃σ' H',Inv X pins σ' H' s'/\Q σ' H') X.xe s
def PGs(X:Cx)(ts:List Expr)(t:TGs):Prop:=
 ∀(pins:List (Addr×Obj)) (s:Shared) (σ:St) (H:Hp) (vs:List V) (us:List Value) (Q:St->Hp->Prop),Inv X pins σ H s->Vals vs us->t vs σ H Q->
  wpAny (model X.prog X.w) X.A (assignInOrder ((assignEach ts X.env).map (·.2)) us) (λ_ s'=>∃σ' H',Inv X pins σ' H' s'/\Q σ' H') X.xe s
abbrev aI6:=V->V->V->Hp->(Hp->Prop)->Prop
def aLQ(X:Cx)(t:aI6):Prop:=
 ∀(pins:List (Addr×Obj)) (s:Shared) (σ:St) (H:Hp) (o i v:V) (ov iv u:Value) (Q:Hp->Prop),Inv X pins σ H s->RelV o ov->RelV i iv->RelV v u->t o i v H Q->
  wpAny (model X.prog X.w) X.A (setItem ov iv u) (λ_ s'=>∃H',Inv X pins σ H' s'/\Q H') X.xe s
abbrev TIp:=V->V->Hp->VK->Prop
def PIp(X:Cx)(op:Operator)(t:TIp):Prop:=
 ∀(pins:List (Addr×Obj)) (s:Shared) (σ:St) (H:Hp) (x y:V) (v u:Value) (Q:VK),Inv X pins σ H s->RelV x v->RelV y u->t x y H Q->
  wpAny (model X.prog X.w) X.A (inplaceOp op v u) (EP X pins σ Q) X.xe s
section
variable{X:Cx}{pos:Pos}
def yO(i:Nat):TG:=λv σ H Q=>Q (σ.set i (some v)) H
theorem aNM{i:Nat}(hN:X.N.Nodup)(hi:X.N[i]?=some x)(hx:Loc X.env.scope x)(hf:X.fn x=true\/X.env.scope.names.lookup x=some .local:=by first|exact .inl rfl|exact .inr rfl|assumption):PG X (.Name x pos) (yO i):=by
 intro pins s σ H v u Q I r h
 exact wpAny_assign_Name (yM I hN hi hx r (λs' I'=>⟨_,H,I',h⟩) hf)
def aNN:TGs:=λvs σ H Q=>vs=[]/\Q σ H
def aJ5(t:TG)(u:TGs):TGs:=λvs σ H Q=>∃v r,vs=v::r/\t v σ H λσ' H'=>u r σ' H' Q
theorem aNO:PGs X [] aNN:=by
 intro pins s σ H vs us Q I r h
 obtain⟨e,h⟩:=h
 subst e
 cases r
 exact assignInOrder_nil ⟨σ,H,I,h⟩
theorem aLR{e:Expr}{es:List Expr}{t:TG}{u:TGs}(h1:PG X e t)(h2:PGs X es u)
  (hs:(assignEach (e::es) X.env).map (·.2)=assign e X.env::(assignEach es X.env).map (·.2):=by rfl):PGs X (e::es) (aJ5 t u):=by
 intro pins s σ H vs us Q I r h
 obtain⟨v,vr,e1,h⟩:=h
 subst e1
 cases r with
 |cons r rr=>
  rw[hs]
  refine assignInOrder_cons (dW (h1 pins s σ H _ _ _ I r h) λ_ s1 ⟨σ1,H1,I1,q1⟩=>?_)
  exact h2 pins s1 σ1 H1 _ _ Q I1 rr q1
def aNP(K:W.Frag)(n:Nat)(t:TGs):TG:=λv σ H Q=>∃a xs,v=.ref a/\kQ K H a xs/\xs.length=n/\t xs σ H Q
theorem aPQ{k:Nat}{n:Nat}(hc:X.calm=true)(h:PGs X es t)(hn:(assignEach es X.env).length=n:=by rfl)(hst:(assignEach es X.env).findIdx? (·.1)=none:=by rfl):PG X (.Tuple es k pos) (aNP X.K n t):=by
 intro pins s σ H v u Q I r hw
 obtain⟨a,xs,e1,hq,hl,hw⟩:=hw
 subst e1
 cases r
 obtain⟨its,rv,ht,hz⟩:=I.tuple hq
 refine assign_Tuple_tuple (I.ok.hd hc) ht (by simp[hn,<-hl,rv.length]) hst λh' hx=>?_
 have I1:Inv X pins σ H { s with heap:=h' }:=I.kept (t':=s.toks) λb o e=>hx b o (vU (jY e)) e
 exact h pins _ σ H xs _ Q I1 (by simpa using rv) hw
def aPR(to ti:TE)(t:aI6):TG:=λv σ H Q=>to σ H λo H1=>ti σ H1 λi H2=>t o i v H2 λH3=>Q σ H3
theorem aPS{o i:Expr}{to ti:TE}{t:aI6}(ho:PE X o to)(hi:PE X i ti)(hs:aLQ X t)
  (ha:∀v,assign (.Subscript o i pos) X.env v=(do
   let ov <-holding [v] (eval o X.env)
   let iv <-holding [v,ov] (eval i X.env)
   standAt pos
   holding [v,ov,iv] (setItem ov iv v)
   release [v,ov,iv] []):=by intro _;rfl):PG X (.Subscript o i pos) (aPR to ti t):=by
 intro pins s σ H v u Q I r h
 rw[ha]
 refine wpAny_bind (wpAny_holding (dW (ho pins s σ H _ I h) λov s1 ⟨x,H1,I1,r1,q1⟩=>?_))
 refine wpAny_bind (wpAny_holding (dW (hi pins s1 σ H1 _ I1 q1) λiv s2 ⟨y,H2,I2,r2,q2⟩=>?_))
 refine wpAny_bind (wpAny_standAt (wpAny_bind (wpAny_holding (dW (hs pins s2 σ H2 x y v ov iv u _ I2 r1 r2 r q2) λ_ s3 ⟨H3,I3,q3⟩=>?_))))
 exact wpAny_release ⟨σ,H3,I3,q3⟩
def aHP(te:TE)(g:TG):TS:=λD σ H=>te σ H λx H1=>g x σ H1 D.nx
theorem aPT{tg e:Expr}{te:TE}{g:TG}(he:PE X e te)(hg:PG X tg g)(hs:swapsWithSole [tg] e pos.line X.env=pure false:=by rfl)(hw:swappedStores [tg] e X.env=pure none:=by rfl)
  (h1:(assignEach [tg] X.env).map (·.2)=[assign tg X.env]:=by rfl):PS X (.Assign [tg] e pos) (aHP te g):=by
 intro pins s σ H D I h
 refine wpAny_Assign_stores (dW (he pins s σ H _ I h) λv s1 ⟨x,H1,I1,r1,q1⟩=>?_) hs hw
 rw[h1]
 exact dW (hg pins s1 σ H1 x v _ I1 r1 q1) λ_ s2 q=>q
theorem aPU{i:Nat}{x:Str}{e:Expr}{te:TE}{pos':Pos}(hN:X.N.Nodup)(hi:X.N[i]?=some x)(hx:Loc X.env.scope x)(he:PE X e te)(hs:swapsWith e (some (.Name x pos')) pos.line X.env=pure false:=by rfl)(hf:X.fn x=true\/X.env.scope.names.lookup x=some .local:=by first|exact .inl rfl|exact .inr rfl|assumption) :
  PS X (.Assign [.Name x pos'] e pos) (aHP te (yO i)):=by
 intro pins s σ H D I h
 refine wpAny_Assign_Name (dW (he pins s σ H _ I h) λv s1 ⟨y,H1,I1,r1,q1⟩=>?_) hs
 exact yM I1 hN hi hx r1 (λs2 I2=>⟨_,H1,I2,q1⟩) hf
def aPV(i j:Nat)(ta:TA):TS:=λD σ H=>ta σ H λvs H1=>∃v w,vs=[v,w]/\D.nx ((σ.set i (some v)).set j (some w)) H1
theorem aPW{i j:Nat}{x y:Str}{a b:Expr}{ta:TA}{px py pt:Pos}{kt k2 pt2}(hc:X.calm=true)(hN:X.N.Nodup)(hi:X.N[i]?=some x)(hj:X.N[j]?=some y)(hij:i≠j)
  (hx:X.env.scope.names.lookup x=some .local) (hy:X.env.scope.names.lookup y=some .local) (ha:PA X [a,b] ta)
  (hw:swappedStores [.Tuple [.Name x px,.Name y py] kt pt] (.Tuple [a,b] k2 pt2) X.env=pure (some [x,y]))
  (hs:swapsWithSole [.Tuple [.Name x px,.Name y py] kt pt] (.Tuple [a,b] k2 pt2) pos.line X.env=pure false:=by rfl) :
  PS X (.Assign [.Tuple [.Name x px,.Name y py] kt pt] (.Tuple [a,b] k2 pt2) pos) (aPV i j ta):=by
 intro pins s σ H D I h
 rw[exec_Assign_arm]
 refine wpAny_bind (wpAny_standAt ?_)
 rw[hs]
 refine wpAny_bind (wpAny_pure ?_)
 rw[if_neg (by decide)]
 refine wpAny_bind (Tuple_ (dW (ha _ pins s σ H _ I h) λus s1 ⟨vs,H1,I1,r1,q1⟩=>?_))
 obtain⟨v,w,e1,q1⟩:=q1
 subst e1
 obtain⟨u1,u2,rfl,rv,rw'⟩ : ∃u1 u2,us=[u1,u2]/\RelV v u1/\RelV w u2:=by
  cases r1 with
  |cons p q=>
   cases q with
   |cons p' q'=>
    cases q'
    exact⟨_,_,rfl,p,p'⟩
 refine wpAny_newObj_type ?_ (by show 2<=sizeLine;decide)
 have I2:Inv X pins σ H1 { s1 with heap:=s1.heap.push { cls:=.type "tuple",data:=.seq [u1,u2].toArray } }:=I1.kept (t':=s1.toks) λb o e=>kO _ e
 rw[hw]
 refine wpAny_bind (wpAny_pure ?_)
 show wpAny (model X.prog X.w) X.A (do rule "assign.swapped-stores";let items <-unpackItems (.ref s1.heap.objs.size) 2 none;assignInOrder [λv=>bindName X.env y v,λv=>bindName X.env x v] items.reverse;pure Flow.next) _ _ _
 refine wpAny_bind (wpAny_rule (wpAny_bind (unpackItems_tuple (items:=#[u1,u2]) (I.ok.hd hc) (IsTup.new s1.heap _) λh' hx'=>?_)))
 have I3:=I2.kept (h':=h') (t':=s1.toks) λb o e=>hx' b o (vU (jY e)) e
 show wpAny _ _ (assignInOrder [λv=>bindName X.env y v,λv=>bindName X.env x v] [u2,u1] >>= λ_=>pure Flow.next) _ _ _
 refine wpAny_bind (assignInOrder_cons (wpAny_bindName (yM I3 hN hj (.inl hy) rw' (λs2 I4=>?_) (.inr hy))))
 refine assignInOrder_cons (wpAny_bindName (yM I4 hN hi (.inl hx) rv (λs3 I5=>assignInOrder_nil (wpAny_pure ?_)) (.inr hx)))
 rw[List.set_comm _ _ (Ne.symm hij)] at I5
 exact⟨_,H1,I5,q1⟩
def aPX(i:Nat)(te:TE)(ti:TIp):TS:=λD σ H=>∃x,σ[i]?=some (some x)/\te σ H λy H1=>ti x y H1 λz H2=>D.nx (σ.set i (some z)) H2
theorem aPY{i:Nat}{x:Str}{e:Expr}{te:TE}{op:Operator}{ti:TIp}{pos':Pos}(hN:X.N.Nodup)(hi:X.N[i]?=some x)(hx:Loc X.env.scope x)(he:PE X e te)(ho:PIp X op ti)(hf:X.fn x=true\/X.env.scope.names.lookup x=some .local:=by first|exact .inl rfl|exact .inr rfl|assumption) :
  PS X (.AugAssign (.Name x pos') op e pos) (aPX i te ti):=by
 intro pins s σ H D I h
 obtain⟨v,e1,h⟩:=h
 obtain⟨m,hn,hl⟩:=I.loc
 have vis:Vis X.env.scope x:=by rcases hx with k|k;exact .inl k;exact .inr (.inl k)
 obtain⟨u,r,l⟩:=hl i x v hi e1 vis
 refine wpAny_AugAssign_Name ?_
 have go:wpAny (model X.prog X.w) X.A (eval e X.env) (λw s₂=>wpAny (model X.prog X.w) X.A (inplaceOp op u w) (λr s₃=>wpAny (model X.prog X.w) X.A (storeName X.env x r) (λ_=>SP X pins D .next) X.xe s₃) X.xe s₂) X.xe s:=by
  refine dW (he pins s σ H _ I h) λw s1 ⟨y,H1,I1,r1,q1⟩=>?_
  refine dW (ho pins s1 σ H1 v y u w _ I1 r r1 q1) λz s2 ⟨zv,H2,I2,r2,q2⟩=>?_
  exact yM I2 hN hi hx r2 (λs3 I3=>⟨_,H2,I3,q2⟩) hf
 rcases l with ⟨hk,hm⟩|⟨hk,c,hc,hcell⟩
 ·exact wpAny_loadName_local I.ok.kind hk hn hm go
 ·rcases hk with hk|hk
  ·exact wpAny_loadName_cell I.ok.kind hk hc hcell go
  ·rcases hx with k|k
   ·have:X.env.scope.names.lookup x=some .free:=hk
    rw[k] at this;cases this
   ·have:X.env.scope.names.lookup x=some .free:=hk
    rw[k] at this;cases this
def aLS(to ti te:TE)(tget:V->V->Hp->VK->Prop)(tip:TIp)(tset:aI6):TS:=λD σ H=>to σ H λo H1=>ti σ H1 λi H2=>tget o i H2 λx H3=>te σ H3 λy H4=>tip x y H4 λz H5=>tset o i z H5 λH6=>D.nx σ H6
def aPZ(X:Cx)(t:V->V->Hp->VK->Prop):Prop:=
 ∀(pins:List (Addr×Obj)) (s:Shared) (σ:St) (H:Hp) (o i:V) (ov iv:Value) (Q:VK),Inv X pins σ H s->RelV o ov->RelV i iv->t o i H Q->
  wpAny (model X.prog X.w) X.A (getItem ov iv) (EP X pins σ Q) X.xe s
theorem aNQ{o i e:Expr}{to ti te:TE}{tget:V->V->Hp->VK->Prop}{tip:TIp}{tset:aI6}{op:Operator}{tpos:Pos}(ho:PE X o to)(hi:PE X i ti)(hg:aPZ X tget)(he:PE X e te)(hp:PIp X op tip)(hs:aLQ X tset)
  (ha:∀ov iv new,augStore i ov iv new=(do holding [new,ov,iv] (setItem ov iv new);release [new,ov,iv] [];pure .next):=by intros;rfl):PS X (.AugAssign (.Subscript o i tpos) op e pos) (aLS to ti te tget tip tset):=by
 intro pins s σ H D I h
 refine wpAny_AugAssign_SubscriptAny (dW (ho pins s σ H _ I h) λov s1 ⟨x1,H1,I1,r1,q1⟩=>?_) ha
 refine dW (hi pins s1 σ H1 _ I1 q1) λiv s2 ⟨x2,H2,I2,r2,q2⟩=>?_
 refine dW (hg pins s2 σ H2 x1 x2 ov iv _ I2 r1 r2 q2) λold s3 ⟨x3,H3,I3,r3,q3⟩=>?_
 refine dW (he pins s3 σ H3 _ I3 q3) λv s4 ⟨x4,H4,I4,r4,q4⟩=>?_
 refine dW (hp pins s4 σ H4 x3 x4 old v _ I4 r3 r4 q4) λnew s5 ⟨x5,H5,I5,r5,q5⟩=>?_
 exact dW (hs pins s5 σ H5 x1 x2 x5 ov iv new _ I5 r1 r2 r5 q5) λ_ s6 ⟨H6,I6,q6⟩=>⟨σ,H6,I6,q6⟩
def ipI(f:Int->Int->Int):TIp:=λx y H Q=>∃i j,x=.int i/\y=.int j/\Q (.int (f i j)) H
theorem uB:PIp X .Add (ipI λi j=>i+j):=by
 intro pins s σ H x y v u Q I r1 r2 h
 obtain⟨i,j,e1,e2,q⟩:=h
 subst e1;subst e2
 obtain⟨t,rfl⟩:=r1
 obtain⟨t',rfl⟩:=r2
 exact iadd_int ⟨.int _,H,I.tok _,⟨_,rfl⟩,q⟩
end
section
variable{X:Cx}{pos:Pos}
end
structure It where
 go:Nat->Hp->Prop
 yld:Nat->Hp->V->Hp->Prop
 stop:Nat->Hp->Prop
def aBE(X:Cx)(pins:List (Addr×Obj))(H:Hp)(b:Addr):Prop:=
 H b=none/\b≠X.env.locals/\b∉X.fs/\(b∈X.ex\/X.s₀.heap.objs.size<=b)/\(∀x c,X.env.cells.lookup x=some c->c≠b)/\∀p∈X.pn++pins,p.1≠b
theorem Inv.aHQ{s:Shared}(I:Inv X pins σ H s)(hb:s.heap.objs.size<=b)(hn:H' b=none):aBE X pins H' b:=by
 refine⟨hn,Se9 (yK I.lt hb),I.aR2 hb,.inr (Rp9 I.sz hb),λx c e z=>?_,λp hp z=>?_⟩
 ·obtain⟨v,q⟩:=I.cell x c e
  exact absurd (yK q.lt (by rw[z];exact hb)) (Ru9 _)
 ·exact absurd (yK (jY (I.pin p hp).1) (by rw[z];exact hb)) (Ru9 _)
structure Turn(P:Program)(w:World)(K:W.Frag)(tg:Expr)(J:It)(fp:List Addr)(it:Addr)(tn:Nat->Heap->Prop):Prop where
 mem:it∈fp
 obj:∀i h,tn i h->∀b∈fp,∃o,h.get? b=some o/\∀v,o.data≠.cell v
 keep:∀i h h',tn i h->(∀b∈fp,∀o,h.get? b=some o->h'.get? b=some o)->tn i h'
 item:∀(X:Cx),X.prog=P->X.w=w->X.K=K->X.calm=true->∀(i:Nat) (pins:List (Addr×Obj)) (s:Shared) (σ:St) (H:Hp) (E:Value->Shared->Prop),Inv X pins σ H s->(∀b∈fp,aBE X pins H b)->tn i s.heap->J.go i H->
  wpAny (model P w) X.A (pyNext (.ref it)) (λr s1=>∃u,r=some u/\
   wpAny (model P w) X.A (letOwnedTupleGo tg (.ref it) u) (λ_ s2=>∃x H',Inv X pins σ H' s2/\RelV x u/\J.yld i H x H'/\tn (i+1) s2.heap/\∀b∈fp,H' b=none) E s1) E s
 done:∀(X:Cx),X.prog=P->X.w=w->X.K=K->X.calm=true->∀(i:Nat) (pins:List (Addr×Obj)) (s:Shared) (σ:St) (H:Hp) (E:Value->Shared->Prop),Inv X pins σ H s->(∀b∈fp,aBE X pins H b)->tn i s.heap->J.stop i H->
  wpAny (model P w) X.A (pyNext (.ref it)) (λr s1=>r=none/\Inv X pins σ H s1) E s
 self:∀(A:Around) (i:Nat) (s:Shared) (Q:Value->Shared->Prop) (E:Value->Shared->Prop),tn i s.heap->Q (.ref it) s->wpAny (model P w) A (pyIter (.ref it)) Q E s
abbrev TI:=St->Hp->(It->Hp->Prop)->Prop
def PIE(X:Cx)(pins:List (Addr×Obj))(σ:St)(tg:Expr)(R:It->Hp->Prop)(itv:Value)(s2:Shared):Prop:=
 ∃(it:Addr) (fp:List Addr) (tn:Nat->Heap->Prop) (J:It) (H':Hp),itv=.ref it/\Inv X pins σ H' s2/\Turn X.prog X.w X.K tg J fp it tn/\tn 0 s2.heap/\(∀b∈fp,aBE X pins H' b)/\R J H'
def PI(X:Cx)(tg iter:Expr)(wi:TI):Prop:=
 ∀(pins:List (Addr×Obj)) (s:Shared) (σ:St) (H:Hp) (R:It->Hp->Prop),Inv X pins σ H s->wi σ H R->
  wpAny (model X.prog X.w) X.A (eval iter X.env) (λv s1=>wpAny (model X.prog X.w) X.A (pyIter v) (PIE X pins σ tg R) X.xe s1) X.xe s
theorem aJ6{E:Value->Shared->Prop}{s:Shared}{o:Obj}{Q:Unit->Shared->Prop}(ho:s.heap.get? it=some o)(hc:o.cls=.type n)(hd:o.data=.fields vs)(hn:["enumerate","zip","dict_itemiterator","dict_reverseitemiterator","odict_iterator","itertools.zip_longest","itertools.pairwise"].contains n=false)(hQ:Q () s):wpAny M A (letOwnedTupleGo tg (.ref it) u) Q E s:=by
 unfold letOwnedTupleGo
 cases tg <;> first
  |exact wpAny_pure hQ
  |(cases u <;> first
    |exact wpAny_pure hQ
    |(
      refine wpAny_bind (wpAny_load ho ?_)
      rw[hc,hd]
      show wpAny M A (if (["enumerate","zip","dict_itemiterator","dict_reverseitemiterator","odict_iterator","itertools.zip_longest","itertools.pairwise"].contains n && vs[0]? == some (rawInt _))=true then _ else _) Q E s
      rw[if_neg (by intro h;rw[hn,Ss9] at h;cases h)]
      exact wpAny_pure hQ))
def Itl(K:W.Frag)(a:Addr):It:=
 ⟨λi H=>∃xs x,bV K H a xs/\xs[i]?=some x,λi H x H'=>H'=H/\∀xs,bV K H a xs->xs[i]?=some x,λi H=>∃xs,bV K H a xs/\xs.length<=i⟩
def Itt(K:W.Frag)(a:Addr):It:=
 ⟨λi H=>∃xs x,kQ K H a xs/\xs[i]?=some x,λi H x H'=>H'=H/\∀xs,kQ K H a xs->xs[i]?=some x,λi H=>∃xs,kQ K H a xs/\xs.length<=i⟩
def Itr(lo:Int)(n:Nat):It:=⟨λi _=>i < n,λi H x H'=>H'=H/\x=.int (lo+i),λi _=>n<=i⟩
theorem aKL{P:Program}{w:World}{K:W.Frag}{tg:Expr}(a it:Addr):Turn P w K tg (Itl K a) [it] it (λi h=>h.IsListIter it a i) where
 mem:=by simp
 obj:=λi h st b hb=>by
  have e:b=it:=by simpa using hb
  subst e
  obtain⟨o,e,c,d⟩:=st
  exact⟨o,e,λv z=>by rw[d] at z;cases z⟩
 keep:=λi h h' st k=>st.at λo e=>k it (by simp) o e
 item:=by
  intro X hP hw hK hc i pins s σ H E I hf st hg
  subst hP hw hK
  obtain⟨xs,x,hq,hx⟩:=hg
  obtain⟨its,rv,p,hz⟩:=I.list hq
  obtain⟨u,hu,ru⟩:=rv.get hx
  obtain⟨f0,f1,f2,f3,f4,f5⟩:=hf it (by simp)
  refine wpAny_pyNext_list_item st p.isList (x:=u) (by simpa using hu) λh' st' sb=>?_
  have I1:Inv X pins σ H { s with heap:=h' }:=I.turned (t':=s.toks) (λb o hb e=>(sb.2 b hb).trans e) f0 f1 f3 f4 f5
  obtain⟨o,e,c,d⟩:=id st'
  exact⟨u,rfl,aJ6 (s:={ s with heap:=h' }) e c d (by decide) ⟨x,H,I1,ru,⟨rfl,λys hy=>by rw[I.aD4 hy hq];exact hx⟩,st',λb hb=>(hf b hb).1⟩⟩
 done:=by
  intro X hP hw hK hc i pins s σ H E I hf st hg
  subst hP hw hK
  obtain⟨xs,hq,hx⟩:=hg
  obtain⟨its,rv,p,hz⟩:=I.list hq
  obtain⟨f0,f1,f2,f3,f4,f5⟩:=hf it (by simp)
  have hl:=rv.length
  exact wpAny_pyNext_list_end (I.ok.hd hc) st p.isList (by simp;omega) λh' eb=>⟨rfl,I.turned (t':=s.toks) (λb o hb e=>eb b o hb e) f0 f1 f3 f4 f5⟩
 self:=λ_ _ _ _ _ st h=>wpAny_pyIter_listiter st h
theorem aI7{P:Program}{w:World}{K:W.Frag}{tg:Expr}(a it:Addr):Turn P w K tg (Itt K a) [it] it (λi h=>h.IsTupleIter it a i) where
 mem:=by simp
 obj:=λi h st b hb=>by
  have e:b=it:=by simpa using hb
  subst e
  obtain⟨o,e,c,d⟩:=st
  exact⟨o,e,λv z=>by rw[d] at z;cases z⟩
 keep:=λi h h' st k=>st.at λo e=>k it (by simp) o e
 item:=by
  intro X hP hw hK hc i pins s σ H E I hf st hg
  subst hP hw hK
  obtain⟨xs,x,hq,hx⟩:=hg
  obtain⟨its,rv,p,hz⟩:=I.tuple hq
  obtain⟨u,hu,ru⟩:=rv.get hx
  obtain⟨f0,f1,f2,f3,f4,f5⟩:=hf it (by simp)
  refine wpAny_pyNext_tuple_item st (show s.heap.IsTuple a its.toArray from p) (x:=u) (by simpa using hu) λh' st' sb=>?_
  have I1:Inv X pins σ H { s with heap:=h' }:=I.turned (t':=s.toks) (λb o hb e=>(sb.2 b hb).trans e) f0 f1 f3 f4 f5
  obtain⟨o,e,c,d⟩:=id st'
  exact⟨u,rfl,aJ6 (s:={ s with heap:=h' }) e c d (by decide) ⟨x,H,I1,ru,⟨rfl,λys hy=>by rw[I.aF5 hy hq];exact hx⟩,st',λb hb=>(hf b hb).1⟩⟩
 done:=by
  intro X hP hw hK hc i pins s σ H E I hf st hg
  subst hP hw hK
  obtain⟨xs,hq,hx⟩:=hg
  obtain⟨its,rv,p,hz⟩:=I.tuple hq
  obtain⟨f0,f1,f2,f3,f4,f5⟩:=hf it (by simp)
  have hl:=rv.length
  exact wpAny_pyNext_tuple_end (I.ok.hd hc) st (show s.heap.IsTuple a its.toArray from p) (by simp;omega) λh' eb=>⟨rfl,I.turned (t':=s.toks) (λb o hb e=>eb b o hb e) f0 f1 f3 f4 f5⟩
 self:=λ_ _ _ _ _ st h=>wpAny_pyIter_tupleiter st h
theorem aI8{P:Program}{w:World}{K:W.Frag}{tg:Expr}(it:Addr)(lo:Int)(n:Nat):Turn P w K tg (Itr lo n) [it] it (λi h=>IsRangeIter h it (lo+(i:Nat)*1) ((n:Int) - (i:Nat)) 1) where
 mem:=by simp
 obj:=λi h st b hb=>by
  have e:b=it:=by simpa using hb
  subst e
  exact⟨_,st,λv z=>by
   have z':Data.fields _=Data.cell v:=z
   cases z'⟩
 keep:=λi h h' st k=>k it (by simp) _ st
 item:=by
  intro X hP hw hK hc i pins s σ H E I hf st hg
  subst hP hw hK
  obtain⟨f0,f1,f2,f3,f4,f5⟩:=hf it (by simp)
  have W:=Walks.range (prog:=X.prog) (w:=X.w) (I.ok.hd hc) it lo 1 n
  refine W.item i s _ _ hg st λv h' tk hv st' kk=>?_
  obtain⟨t,rfl⟩:=hv
  have I1:Inv X pins σ H { s with heap:=h',toks:=tk }:=I.turned (λb o hb e=>kk b o (by simpa using hb) e) f0 f1 f3 f4 f5
  refine⟨_,rfl,aJ6 (s:={ s with heap:=h',toks:=tk }) (n:="range_iterator") st' rfl rfl (by decide) ⟨.int (lo+i),H,I1,⟨t,?_⟩,⟨rfl,rfl⟩,st',λb hb=>(hf b hb).1⟩⟩
  rw[So9]
 done:=by
  intro X hP hw hK hc i pins s σ H E I hf st hg
  subst hP hw hK
  obtain⟨f0,f1,f2,f3,f4,f5⟩:=hf it (by simp)
  exact wpAny_pyNext_range_end (I.ok.hd hc) st (by have:n<=i:=hg;omega) λh' eb=>⟨rfl,I.turned (t':=s.toks) (λb o hb e=>eb b o hb e) f0 f1 f3 f4 f5⟩
 self:=λ_ _ _ _ _ st h=>wpAny_pyIter_rangeiter st h
end L2
namespace L2
open PySem PySem.Spec PyProof.Rows
section
variable{X:Cx}{tg:Expr}
def aLT(K:W.Frag)(tl:TE):TI:=λσ H R=>tl σ H λx H1=>∃a,x=.ref a/\(∃xs,bV K H1 a xs)/\R (Itl K a) H1
def aP0(K:W.Frag)(tl:TE):TI:=λσ H R=>tl σ H λx H1=>∃a,x=.ref a/\(∃xs,kQ K H1 a xs)/\R (Itt K a) H1
theorem aNR{l:Expr}{tl:TE}(hl:PE X l tl):PI X tg l (aLT X.K tl):=by
 intro pins s σ H R I h
 refine dW (hl pins s σ H _ I h) λv s1 ⟨x,H1,I1,r1,q1⟩=>?_
 obtain⟨a,e,⟨xs,hq⟩,q⟩:=q1
 subst e
 cases r1
 obtain⟨its,rv,p,hz⟩:=I1.list hq
 refine wpAny_pyIter_list p.isList ?_
 refine⟨s1.heap.objs.size,[s1.heap.objs.size],_,_,H1,rfl,I1.kept (t':=s1.toks) λb o e=>kO _ e,aKL a _,⟨_,yL _ rfl,rfl,rfl⟩,λb hb=>?_,q⟩
 have e:b=s1.heap.objs.size:=by simpa using hb
 subst e
 exact I1.aHQ (gB _) (I1.hok.fresh (gB _))
theorem aP1{l:Expr}{tl:TE}(hl:PE X l tl):PI X tg l (aP0 X.K tl):=by
 intro pins s σ H R I h
 refine dW (hl pins s σ H _ I h) λv s1 ⟨x,H1,I1,r1,q1⟩=>?_
 obtain⟨a,e,⟨xs,hq⟩,q⟩:=q1
 subst e
 cases r1
 obtain⟨its,rv,p,hz⟩:=I1.tuple hq
 refine wpAny_pyIter_tuple (show s1.heap.IsTuple a its.toArray from p) ?_
 refine⟨s1.heap.objs.size,[s1.heap.objs.size],_,_,H1,rfl,I1.kept (t':=s1.toks) λb o e=>kO _ e,aI7 a _,⟨_,yL _ rfl,rfl,rfl⟩,λb hb=>?_,q⟩
 have e:b=s1.heap.objs.size:=by simpa using hb
 subst e
 exact I1.aHQ (gB _) (I1.hok.fresh (gB _))
theorem aHR{s:Shared}{R:It->Hp->Prop}{E:Value->Shared->Prop}{lo hi:Int}{t u v:Tok}{tk:Nat}(I:Inv X pins σ H s)(h1:-(2 ^ 62)<=lo)(h2:lo < 2 ^ 62)(h3:-(2 ^ 62)<=hi)(h4:hi < 2 ^ 62)(q:R (Itr lo (hi - lo).toNat) H):wpAny (model X.prog X.w) X.A (pyIter (.ref s.heap.objs.size)) (PIE X pins σ tg R) E { s with heap:=s.heap.push { cls:=.type "range",data:=.fields #[.int lo t,.int hi u,.int 1 v] },toks:=tk }:=by
 refine wpAny_pyIter_range (IsRange.new ..) (small_one h1 h2 h3 h4) ?_
 have I1:Inv X pins σ H { s with heap:=s.heap.push { cls:=.type "range",data:=.fields #[.int lo t,.int hi u,.int 1 v] },toks:=tk }:=I.kept λb o e=>kO _ e
 refine⟨(s.heap.push { cls:=.type "range",data:=.fields #[.int lo t,.int hi u,.int 1 v] }).objs.size,[(s.heap.push { cls:=.type "range",data:=.fields #[.int lo t,.int hi u,.int 1 v] }).objs.size],_,_,H,rfl,
  I1.kept (t':=tk) λb o e=>kO _ e,aI8 _ lo (hi - lo).toNat,?_,λb hb=>?_,q⟩
 ·have e1:lo+((0:Nat):Int)*1=lo:=by simp
  have e2:(((hi - lo).toNat:Nat):Int) - ((0:Nat):Int)=Builtin.Range.rangeSize lo hi 1:=by rw[rangeSize_one];split <;> omega
  show IsRangeIter _ _ (lo+((0:Nat):Int)*1) ((((hi - lo).toNat:Nat):Int) - ((0:Nat):Int)) 1
  rw[e1,e2]
  exact yL _ rfl
 ·have e:b=(s.heap.push { cls:=.type "range",data:=.fields #[.int lo t,.int hi u,.int 1 v] }).objs.size:=by simpa using hb
  subst e
  exact I1.aHQ (gB _) (I1.hok.fresh (gB _))
def aJ7(ta:TA):TI:=λσ H R=>ta σ H λvs H1=>∃j:Int,vs=[.int j]/\-(2 ^ 62)<=j/\j < 2 ^ 62/\R (Itr 0 j.toNat) H1
def aJ8(ta:TA):TI:=λσ H R=>ta σ H λvs H1=>∃i j:Int,vs=[.int i,.int j]/\(-(2 ^ 62)<=i/\i < 2 ^ 62/\-(2 ^ 62)<=j/\j < 2 ^ 62)/\R (Itr i (j - i).toNat) H1
theorem aKM{a:Expr}{ta:TA}{p pos:Pos}(hg:Gl X "range")(hm:X.mg "range" = none)(ha:PA X [a] ta)(hs:starEach [a] X.env=[(false,eval a X.env)]:=by rfl):PI X tg (.Call (.Name "range" p) [a] [] pos) (aJ7 ta):=by
 intro pins s σ H R I h
 refine Call_ (uA I hg hm boot_range (PyProof.Rows.callWith_type1 (dW (ha pos pins s σ H _ I h) λus s1 ⟨vs,H1,I1,r1,q1⟩=>?_) hs rfl))
 obtain⟨j,e,q1,q2,q⟩:=q1
 subst e
 cases r1 with
 |cons r rr=>
  cases rr
  obtain⟨t,rfl⟩:=r
  exact call_range_1 (aHR I1 (by omega) (by omega) q1 q2 (by simpa using q))
theorem aKN{a b:Expr}{ta:TA}{p pos:Pos}(hg:Gl X "range")(hm:X.mg "range" = none)(ha:PA X [a,b] ta)(hs:starEach [a,b] X.env=[(false,eval a X.env),(false,eval b X.env)]:=by rfl)(hs2:starEach [b] X.env=[(false,eval b X.env)]:=by rfl) :
  PI X tg (.Call (.Name "range" p) [a,b] [] pos) (aJ8 ta):=by
 intro pins s σ H R I h
 refine Call_ (uA I hg hm boot_range (PyProof.Rows.callWith_type1 (dW (ha pos pins s σ H _ I h) λus s1 ⟨vs,H1,I1,r1,q1⟩=>?_) (by rw[hs,hs2]) (by rw[hs2];rfl)))
 obtain⟨i,j,e,⟨q1,q2,q3,q4⟩,q⟩:=q1
 subst e
 cases r1 with
 |cons r rr=>
  cases rr with
  |cons r' rr=>
   cases rr
   obtain⟨t,rfl⟩:=r
   obtain⟨t',rfl⟩:=r'
   exact call_range_2 (aHR I1 q1 q2 q3 q4 q)
def aP2(wi:TI)(g:TG)(tb:TS):TS:=λD σ H=>wi σ H λJ H1=>∃W:Nat->Nat->St->Hp->Prop,(∃m,W 0 m σ H1)/\∀i m σ H,W i m σ H->
 (J.stop i H/\D.nx σ H)\/(J.go i H/\∃N:St->Hp->Prop,(∀σ' H',N σ' H'->∃m',m' < m/\W (i+1) m' σ' H')/\∀x H',J.yld i H x H'->g x σ H' λσ2 H2=>tb { D with nx:=N,ct:=N,bk:=D.nx } σ2 H2)
def aD5(fp:List Addr)(h:Heap):List (Addr×Obj):=fp.filterMap λb=>(h.get? b).map λo=>(b,o)
theorem vV{h:Heap}(hb:b∈fp)(e:h.get? b=some o):(b,o)∈aD5 fp h:=List.mem_filterMap.mpr ⟨b,hb,by rw[e];rfl⟩
theorem aKO{h:Heap}{p:Addr×Obj}(hp:p∈aD5 fp h):p.1∈fp/\h.get? p.1=some p.2:=by
 obtain⟨b,hb,e⟩:=List.mem_filterMap.mp hp
 cases q:h.get? b with
 |none=>rw[q] at e;cases e
 |some o=>
  rw[q] at e
  have e':(b,o)=p:=Option.some.inj e
  subst e'
  exact⟨hb,q⟩
theorem Inv.pinned{s:Shared}(I:Inv X pins σ H s)(hf:∀b∈fp,aBE X pins H b)(ho:∀b∈fp,∃o,s.heap.get? b=some o/\∀v,o.data≠.cell v):Inv X (pins++aD5 fp s.heap) σ H s:=
 I.aDY λp hp=>(Ri9.mp hp).elim (λz=>I.pin p (Qy9 _ z)) λz=>by
  obtain⟨hb,e⟩:=aKO z
  obtain⟨f0,f1,f2,_⟩:=hf p.1 hb
  obtain⟨o,e',d⟩:=ho p.1 hb
  rw[e] at e';cases e'
  exact⟨e,f0,f1,f2,d⟩
theorem Inv.aBF(I:Inv X (pins++pl) σ H s):Inv X pins σ H s:=I.aDY λp hp=>I.pin p (Qy9 _ (Rx9 _ hp))
theorem aP3{iter:Expr}{body:List Stmt}{wi:TI}{g:TG}{tb:TS}{pos:Pos}(hp:PassesOwn (model X.prog X.w) X.A X.env X.xe)(hc:X.calm=true)(hi:PI X tg iter wi)(hg:PG X tg g)(hb:PSs X body tb)
  (hs:∀x,foldedSetIterable iter X.env x=pure x:=by intro _;rfl):PS X (.For tg iter body [] pos) (aP2 wi g tb):=by
 intro pins s σ H D I h
 refine wpAny_For (dW (hi pins s σ H _ I h) λv s1 h1=>dW h1 λitv s2 h2=>?_) hs
 obtain⟨it,fp,tn,J,H2,e,I2,T,st2,f2,W,⟨m0,w0⟩,turn⟩:=h2
 subst e
 have stat:∀{H':Hp},(∀b∈fp,H' b=none)->∀b∈fp,aBE X pins H' b:=λhn b hb=>⟨hn b hb,(f2 b hb).2⟩
 refine codeAny_forLoop_any (λn s'=>∃i σ' H',Inv X pins σ' H' s'/\tn i s'.heap/\(∀b∈fp,H' b=none)/\W i n σ' H') ?_ m0 ⟨0,σ,H2,I2,st2,λb hb=>(f2 b hb).1,w0⟩
 rintro n s3 ⟨i,σ3,H3,I3,st3,fr3,w3⟩
 rcases turn i n σ3 H3 w3 with ⟨stop,qn⟩|⟨go,N,hN,step⟩
 ·refine wpAny_passesOwn hp (dW (T.done X rfl rfl rfl hc i pins s3 σ3 H3 X.xe I3 (stat fr3) st3 stop) λr s4 ⟨hr,I4⟩=>?_)
  subst hr
  exact wpAny_execs_nil ⟨σ3,H3,I4,qn⟩
 ·refine wpAny_passesOwn hp (dW (T.item X rfl rfl rfl hc i pins s3 σ3 H3 X.xe I3 (stat fr3) st3 go) λr s4 ⟨u,hr,h4⟩=>?_)
  subst hr
  refine wpAny_passesOwn hp (dW h4 λ_ s5 ⟨x,H5,I5,r5,y5,st5,fr5⟩=>?_)
  have I5':=I5.pinned (stat fr5) (T.obj _ _ st5)
  refine wpAny_passesOwn hp (dW (hg _ s5 σ3 H5 x u _ I5' r5 (step x H5 y5)) λ_ s6 ⟨σ6,H6,I6,q6⟩=>?_)
  refine wpAny_passesOwn hp (dW (hb _ s6 σ6 H6 _ I6 q6) λf s7 q7=>?_)
  have again:∀{σ7:St} {H7:Hp},Inv X (pins++aD5 fp s5.heap) σ7 H7 s7->N σ7 H7->∃m,m < n/\∃i σ' H',Inv X pins σ' H' s7/\tn i s7.heap/\(∀b∈fp,H' b=none)/\W i m σ' H':=λ{σ7 H7} I7 n7=>by
   obtain⟨m',hm,w7⟩:=hN σ7 H7 n7
   refine⟨m',hm,i+1,σ7,H7,I7.aBF,T.keep _ _ _ st5 λb hb o e=>(I7.pin (b,o) (Qy9 _ (Qy9 _ (vV hb e)))).1,λb hb=>?_,w7⟩
   obtain⟨o,e,d⟩:=T.obj _ _ st5 b hb
   exact(I7.pin (b,o) (Qy9 _ (Qy9 _ (vV hb e)))).2.1
  cases f with
  |next=>obtain⟨σ7,H7,I7,n7⟩:=q7;exact again I7 n7
  |cont=>obtain⟨σ7,H7,I7,n7⟩:=q7;exact again I7 n7
  |brk=>obtain⟨σ7,H7,I7,q7⟩:=q7;exact⟨σ7,H7,I7.aBF,q7⟩
  |ret v=>obtain⟨x7,σ7,H7,I7,r7,q7⟩:=q7;exact⟨x7,σ7,H7,I7.aBF,r7,q7⟩
end
theorem aLU{K:W.Frag}{a:Addr}{xs:List V}{g:TG}{tb:TS}{D:Ends}{σ:St}{H:Hp}(Pv:Nat->St->Hp->Prop)(h0:Pv 0 σ H)(hl:∀i σ H,i<=xs.length->Pv i σ H->bV K H a xs)
  (hs:∀i x σ H,xs[i]?=some x->Pv i σ H->g x σ H λσ2 H2=>tb { D with nx:=Pv (i+1),ct:=Pv (i+1),bk:=D.nx } σ2 H2) (hd:∀σ H,Pv xs.length σ H->D.nx σ H) :
  ∃W:Nat->Nat->St->Hp->Prop,(∃m,W 0 m σ H)/\∀i m σ H,W i m σ H->
   ((Itl K a).stop i H/\D.nx σ H)\/((Itl K a).go i H/\∃N:St->Hp->Prop,(∀σ' H',N σ' H'->∃m',m' < m/\W (i+1) m' σ' H')/\∀x H',(Itl K a).yld i H x H'->g x σ H' λσ2 H2=>tb { D with nx:=N,ct:=N,bk:=D.nx } σ2 H2):=by
 refine⟨λi m σ H=>m=xs.length - i/\i<=xs.length/\Pv i σ H,⟨xs.length,by simp,Rn9 _,h0⟩,?_⟩
 rintro i m σ H ⟨rfl,hi,p⟩
 have q:=hl i σ H hi p
 by_cases hlt:i < xs.length
 ·refine .inr ⟨⟨xs,xs[i],q,by simp[hlt]⟩,Pv (i+1),λσ' H' p'=>⟨xs.length - (i+1),by omega,rfl,hlt,p'⟩,λx H' y=>?_⟩
  obtain⟨e,y⟩:=y
  subst e
  exact hs i x σ _ (y xs q) p
 ·have e:i=xs.length:=by omega
  subst e
  exact .inl ⟨⟨xs,q,gB _⟩,hd σ H p⟩
theorem aNS{K:W.Frag}{a:Addr}{xs:List V}{g:TG}{tb:TS}{D:Ends}{σ:St}{H:Hp}(Pv:Nat->St->Hp->Prop)(h0:Pv 0 σ H)(hl:∀i σ H,i<=xs.length->Pv i σ H->kQ K H a xs)
  (hs:∀i x σ H,xs[i]?=some x->Pv i σ H->g x σ H λσ2 H2=>tb { D with nx:=Pv (i+1),ct:=Pv (i+1),bk:=D.nx } σ2 H2) (hd:∀σ H,Pv xs.length σ H->D.nx σ H) :
  ∃W:Nat->Nat->St->Hp->Prop,(∃m,W 0 m σ H)/\∀i m σ H,W i m σ H->
   ((Itt K a).stop i H/\D.nx σ H)\/((Itt K a).go i H/\∃N:St->Hp->Prop,(∀σ' H',N σ' H'->∃m',m' < m/\W (i+1) m' σ' H')/\∀x H',(Itt K a).yld i H x H'->g x σ H' λσ2 H2=>tb { D with nx:=N,ct:=N,bk:=D.nx } σ2 H2):=by
 refine⟨λi m σ H=>m=xs.length - i/\i<=xs.length/\Pv i σ H,⟨xs.length,by simp,Rn9 _,h0⟩,?_⟩
 rintro i m σ H ⟨rfl,hi,p⟩
 have q:=hl i σ H hi p
 by_cases hlt:i < xs.length
 ·refine .inr ⟨⟨xs,xs[i],q,by simp[hlt]⟩,Pv (i+1),λσ' H' p'=>⟨xs.length - (i+1),by omega,rfl,hlt,p'⟩,λx H' y=>?_⟩
  obtain⟨e,y⟩:=y
  subst e
  exact hs i x σ _ (y xs q) p
 ·have e:i=xs.length:=by omega
  subst e
  exact .inl ⟨⟨xs,q,gB _⟩,hd σ H p⟩
theorem aKP{lo:Int}{n:Nat}{g:TG}{tb:TS}{D:Ends}{σ:St}{H:Hp}(Pv:Nat->St->Hp->Prop)(h0:Pv 0 σ H)
  (hs:∀i σ H,i < n->Pv i σ H->g (.int (lo+i)) σ H λσ2 H2=>tb { D with nx:=Pv (i+1),ct:=Pv (i+1),bk:=D.nx } σ2 H2) (hd:∀σ H,Pv n σ H->D.nx σ H) :
  ∃W:Nat->Nat->St->Hp->Prop,(∃m,W 0 m σ H)/\∀i m σ H,W i m σ H->
   ((Itr lo n).stop i H/\D.nx σ H)\/((Itr lo n).go i H/\∃N:St->Hp->Prop,(∀σ' H',N σ' H'->∃m',m' < m/\W (i+1) m' σ' H')/\∀x H',(Itr lo n).yld i H x H'->g x σ H' λσ2 H2=>tb { D with nx:=N,ct:=N,bk:=D.nx } σ2 H2):=by
 refine⟨λi m σ H=>m=n - i/\i<=n/\Pv i σ H,⟨n,by simp,Rn9 _,h0⟩,?_⟩
 rintro i m σ H ⟨rfl,hi,p⟩
 by_cases hlt:i < n
 ·refine .inr ⟨hlt,Pv (i+1),λσ' H' p'=>⟨n - (i+1),by omega,rfl,hlt,p'⟩,λx H' y=>?_⟩
  obtain⟨e,y⟩:=y
  subst e y
  exact hs i σ _ hlt p
 ·have e:i=n:=by omega
  subst e
  exact .inl ⟨gB _,hd σ H p⟩
end L2
namespace L2
open PySem PySem.Spec PyProof.Rows
abbrev R2:=V->V->Hp->VK->Prop
def yP(X:Cx)(f:Value->Value->Sem Value)(r:R2):Prop:=
 ∀(pins:List (Addr×Obj)) (s:Shared) (σ:St) (H:Hp) (x y:V) (v u:Value) (Q:VK),Inv X pins σ H s->RelV x v->RelV y u->r x y H Q->
  wpAny (model X.prog X.w) X.A (f v u) (EP X pins σ Q) X.xe s
def UnR(X:Cx)(f:Value->Sem Value)(r:V->Hp->VK->Prop):Prop:=
 ∀(pins:List (Addr×Obj)) (s:Shared) (σ:St) (H:Hp) (x:V) (v:Value) (Q:VK),Inv X pins σ H s->RelV x v->r x H Q->
  wpAny (model X.prog X.w) X.A (f v) (EP X pins σ Q) X.xe s
def eC(X:Cx)(f:Value)(r:List V->Hp->VK->Prop):Prop:=
 ∀(pins:List (Addr×Obj)) (s:Shared) (σ:St) (H:Hp) (xs:List V) (us:List Value) (Q:VK),Inv X pins σ H s->Vals xs us->r xs H Q->
  wpAny (model X.prog X.w) X.A (call f us) (EP X pins σ Q) X.xe s
def tOp(r:R2)(ta tb:TE):TE:=λσ H Q=>ta σ H λx H1=>tb σ H1 λy H2=>r x y H2 Q
def tUn(r:V->Hp->VK->Prop)(ta:TE):TE:=λσ H Q=>ta σ H λx H1=>r x H1 Q
def rI(C:Int->Int->Prop)(g:Int->Int->V):R2:=λx y H Q=>∃i j,x=.int i/\y=.int j/\C i j/\Q (g i j) H
def rI0(g:Int->Int->V):R2:=λx y H Q=>∃i j,x=.int i/\y=.int j/\Q (g i j) H
def rU(g:Int->V):V->Hp->VK->Prop:=λx H Q=>∃i,x=.int i/\Q (g i) H
section
variable{X:Cx}{a b c:Expr}{ta tb tc:TE}{pos:Pos}
theorem aP4(ha:PE X a ta)(hb:PE X b tb){pins:List (Addr×Obj)}{s:Shared}{σ:St}{H:Hp}{R:V->V->Hp->Prop}(I:Inv X pins σ H s)
  (h:ta σ H λx H1=>tb σ H1 λy H2=>R x y H2) {Q:Value->Shared->Prop} {f:Value->Value->Sem Value}
  (hf:∀v u s2 x y H2,Inv X pins σ H2 s2->RelV x v->RelV y u->R x y H2->wpAny (model X.prog X.w) X.A (f v u) Q X.xe s2) :
  wpAny (model X.prog X.w) X.A (eval a X.env) (λv s₁=>wpAny (model X.prog X.w) X.A (eval b X.env) (λu s₂=>wpAny (model X.prog X.w) X.A (f v u) Q X.xe s₂) X.xe s₁) X.xe s:=by
 refine dW (ha pins s σ H _ I h) λv s1 ⟨x,H1,I1,r1,q1⟩=>?_
 refine dW (hb pins s1 σ H1 _ I1 q1) λu s2 ⟨y,H2,I2,r2,q2⟩=>?_
 exact hf v u s2 x y H2 I2 r1 r2 q2
theorem aRk(ho:yP X (binaryOp op) r)(ha:PE X a ta)(hb:PE X b tb):PE X (.BinOp a op b pos) (tOp r ta tb):=by
 intro pins s σ H Q I h
 exact wpAny_BinOp (aP4 ha hb I h λv u s2 x y H2 I2 rx ry q=>ho pins s2 σ H2 x y v u Q I2 rx ry q)
theorem aRl{r:V->Hp->VK->Prop}(ho:UnR X (unaryOp op) r)(ha:PE X a ta):PE X (.UnaryOp op a pos) (tUn r ta):=by
 intro pins s σ H Q I h
 exact UnaryOp_ (dW (ha pins s σ H _ I h) λv s1 ⟨x,H1,I1,r1,q1⟩=>ho pins s1 σ H1 x v Q I1 r1 q1)
theorem opI{f:Value->Value->Sem Value}{C:Int->Int->Prop}{g:Int->Int->Int}
  (rule:∀(i j:Int) (t u:Tok) (s:Shared) (Q:Value->Shared->Prop) (E:Value->Shared->Prop),C i j->Q (.int (g i j) s.toks) { s with toks:=s.toks+1 }->wpAny (model X.prog X.w) X.A (f (.int i t) (.int j u)) Q E s) :
  yP X f (rI C λi j=>.int (g i j)):=by
 intro pins s σ H x y v u Q I rx ry h
 obtain⟨i,j,rfl,rfl,hc,q⟩:=h
 obtain⟨t,rfl⟩:=rx
 obtain⟨t',rfl⟩:=ry
 exact rule i j t t' s _ _ hc ⟨.int (g i j),H,I.tok _,⟨_,rfl⟩,q⟩
theorem aRm{f:Value->Value->Sem Value}{g:Int->Int->Int}
  (rule:∀(i j:Int) (t u:Tok) (s:Shared) (Q:Value->Shared->Prop) (E:Value->Shared->Prop),Q (.int (g i j) s.toks) { s with toks:=s.toks+1 }->wpAny (model X.prog X.w) X.A (f (.int i t) (.int j u)) Q E s) :
  yP X f (rI0 λi j=>.int (g i j)):=by
 intro pins s σ H x y v u Q I rx ry h
 obtain⟨i,j,rfl,rfl,q⟩:=h
 obtain⟨t,rfl⟩:=rx
 obtain⟨t',rfl⟩:=ry
 exact rule i j t t' s _ _ ⟨.int (g i j),H,I.tok _,⟨_,rfl⟩,q⟩
theorem aNT{f:Value->Value->Sem Value}{g:Int->Int->Bool}
  (rule:∀(i j:Int) (t u:Tok) (s:Shared) (Q:Value->Shared->Prop) (E:Value->Shared->Prop),Q (.bool (g i j)) s->wpAny (model X.prog X.w) X.A (f (.int i t) (.int j u)) Q E s) :
  yP X f (rI0 λi j=>.bl (g i j)):=by
 intro pins s σ H x y v u Q I rx ry h
 obtain⟨i,j,rfl,rfl,q⟩:=h
 obtain⟨t,rfl⟩:=rx
 obtain⟨t',rfl⟩:=ry
 exact rule i j t t' s _ _ ⟨.bl (g i j),H,I,rfl,q⟩
def aR4(i j:Int):Prop:=0 < j/\j < 1073741824
def aR5(i j:Int):Prop:=0<=j/\j<=1000000/\i.natAbs < 2 ^ 64
def aLV(i j:Int):Prop:=(-(2 ^ 64) < i/\i < 2 ^ 64)\/(-(2 ^ 64) < j/\j < 2 ^ 64)
theorem aLV.ok{i j:Int}(h:aLV i j):IntMulOk i j:=by
 rcases h with ⟨h1,h2⟩|⟨h1,h2⟩
 ·exact .of_left (intBits_le_64 h1 h2)
 ·exact .of_right (intBits_le_64 h1 h2)
theorem aP5:yP X (binaryOp .Add) (rI0 λi j=>.int (i+j)):=aRm λ_ _ _ _ _ _ _ q=>add_int q
theorem dJ:yP X (binaryOp .Sub) (rI0 λi j=>.int (i - j)):=aRm λ_ _ _ _ _ _ _ q=>sub_int q
theorem aP6:yP X (binaryOp .Mult) (rI aLV λi j=>.int (i*j)):=opI λ_ _ _ _ _ _ _ hc q=>mul_int q hc.ok
theorem aGB:yP X (binaryOp .FloorDiv) (rI aR4 λi j=>.int (i / j)):=opI λi j _ _ _ _ _ hc q=>by
 have h1:(0:Int) < j:=hc.1
 have h2:j < 1073741824:=hc.2
 exact floordiv_int (by omega) (by rw[Int.fdiv_eq_ediv_of_nonneg i (by omega)];exact q) (.inl (PyProof.noPylong_small (by omega)))
theorem uC:yP X (binaryOp .Mod) (rI (λ_ j=>0 < j) λi j=>.int (i % j)):=opI λi j _ _ _ _ _ hc q=>by
 have h1:(0:Int) < j:=hc
 exact mod_int' (by omega) (by rw[Int.fmod_eq_emod_of_nonneg i (by omega)];exact q)
theorem aD6:yP X (binaryOp .Pow) (rI aR5 λi j=>.int (i ^ j.toNat)):=opI λ_ _ _ _ _ _ _ hc q=>pow_int_small hc.1 hc.2.1 hc.2.2 q
theorem unI{f:Value->Sem Value}{g:Int->Int}
  (rule:∀(i:Int) (t:Tok) (s:Shared) (Q:Value->Shared->Prop) (E:Value->Shared->Prop),Q (.int (g i) s.toks) { s with toks:=s.toks+1 }->wpAny (model X.prog X.w) X.A (f (.int i t)) Q E s) :
  UnR X f (rU λi=>.int (g i)):=by
 intro pins s σ H x v Q I rx h
 obtain⟨i,rfl,q⟩:=h
 obtain⟨t,rfl⟩:=rx
 exact rule i t s _ _ ⟨.int (g i),H,I.tok _,⟨_,rfl⟩,q⟩
theorem aBd:UnR X (unaryOp .USub) (rU λi=>.int (-i)):=unI λ_ _ _ _ _ q=>neg_int q
end
section
variable{X:Cx}{a b c:Expr}{ta tb tc:TE}{pos:Pos}
theorem aLW:yP X (compareOp .Lt) (rI0 λi j=>.bl (decide (i < j))):=aNT λ_ _ _ _ _ _ _ q=>lt_int q
theorem aC7:yP X (compareOp .LtE) (rI0 λi j=>.bl (decide (i<=j))):=aNT λ_ _ _ _ _ _ _ q=>le_int q
theorem aBG:yP X (compareOp .Gt) (rI0 λi j=>.bl (decide (j < i))):=aNT λ_ _ _ _ _ _ _ q=>gt_int q
theorem aPg:yP X (compareOp .GtE) (rI0 λi j=>.bl (decide (j<=i))):=aNT λ_ _ _ _ _ _ _ q=>ge_int q
theorem yP.or{f:Value->Value->Sem Value}{r':R2}(h:yP X f r)(h':yP X f r'):yP X f (λx y H Q=>r x y H Q\/r' x y H Q):=by
 intro pins s σ H x y v u Q I rx ry q
 rcases q with q|q
 ·exact h pins s σ H x y v u Q I rx ry q
 ·exact h' pins s σ H x y v u Q I rx ry q
theorem bK(b:Expr)(h:op≠.In:=by decide)(h2:op≠.NotIn:=by decide):behindInMarks op b=false:=by
 have e1:(op == CmpOp.In)=false:=by cases op <;> first|rfl|exact absurd rfl h
 have e2:(op == CmpOp.NotIn)=false:=by cases op <;> first|rfl|exact absurd rfl h2
 cases b <;> simp[behindInMarks,e1,e2]
theorem aNU(ho:yP X (compareOp op) r)(ha:PE X a ta)(hb:PE X b tb)(hm:behindInMarks op b=false):PE X (.Compare a [op] [b] pos) (tOp r ta tb):=by
 intro pins s σ H Q I h
 exact wpAny_Compare1 (aP4 ha hb I h λv u s2 x y H2 I2 rx ry q=>ho pins s2 σ H2 x y v u Q I2 rx ry q) hm
def aLX(t:TE):TT:=λσ H Q=>t σ H λx H'=>∃k,x=.bl k/\Q k H'
theorem aNV{op:CmpOp}{r:R2}(ho:yP X (compareOp op) r)(ha:PE X a ta)(hb:PE X b tb)(hm:behindInMarks op b=false):PT X (.Compare a [op] [b] pos) (aLX (tOp r ta tb)):=by
 intro pins s σ H Q I h
 refine wpAny_isTrue_Compare1 (dW (ha pins s σ H _ I h) λv s1 ⟨x,H1,I1,r1,q1⟩=>dW (hb pins s1 σ H1 _ I1 q1) λu s2 ⟨y,H2,I2,r2,q2⟩=>
  dW (ho pins s2 σ H2 x y v u _ I2 r1 r2 q2) λc s3 ⟨z,H3,I3,r3,k,e,q3⟩=>?_) hm
 subst e
 cases r3
 exact wpAny_truthy_bool ⟨H3,I3,q3⟩
def aI9(r r':R2)(ta tb tc:TE):TE:=λσ H Q=>ta σ H λx H1=>tb σ H1 λy H2=>r x y H2 λz H3=>∃k,z=.bl k/\
 (if k=true then tc σ H3 λw' H4=>r' y w' H4 Q else Q (.bl false) H3)
theorem aLY{op op':CmpOp}{r r':R2}(ho:yP X (compareOp op) r)(ho':yP X (compareOp op') r')(ha:PE X a ta)(hb:PE X b tb)(hc:PE X c tc)
  (hm:lastMarks [op,op'] [b,c]=false:=by with_unfolding_all rfl):PE X (.Compare a [op,op'] [b,c] pos) (aI9 r r' ta tb tc):=by
 intro pins s σ H Q I h
 refine Compare_chain (dW (ha pins s σ H _ I h) λv s1 ⟨x,H1,I1,r1,q1⟩=>chain_link (dW (hb pins s1 σ H1 _ I1 q1) λu s2 ⟨y,H2,I2,r2,q2⟩=>
  dW (ho pins s2 σ H2 x y v u _ I2 r1 r2 q2) λd s3 ⟨z,H3,I3,r3,k,e,q3⟩=>?_)) hm
 subst e
 cases r3
 refine wpAny_truthy_bool ?_
 cases k with
 |false=>exact ite_ff ⟨.bl false,H3,I3,rfl,q3⟩
 |true=>exact ite_tt (chain_last (dW (hc pins s3 σ H3 _ I3 q3) λw' s4 ⟨z',H4,I4,r4,q4⟩=>ho' pins s4 σ H4 y z' u w' Q I4 r2 r4 q4))
theorem aCB:(sizeLine:Nat) < 2 ^ 63:=by rw[sizeLine_eq];decide
theorem vals1(r:Vals [x] us):∃u,us=[u]/\RelV x u:=by
 cases r with
 |cons r1 r2=>cases r2;exact⟨_,rfl,r1⟩
theorem vals2(r:Vals [x,y] us):∃u w',us=[u,w']/\RelV x u/\RelV y w':=by
 cases r with
 |cons r1 r2=>
  cases r2 with
  |cons r3 r4=>cases r4;exact⟨_,_,rfl,r1,r3⟩
theorem aLZ:eC X (.builtin "abs") (λxs H Q=>∃i,xs=[.int i]/\Q (.int (if i < 0 then -i else i)) H):=by
 intro pins s σ H xs us Q I r h
 obtain⟨i,rfl,q⟩:=h
 obtain⟨u,rfl,t,rfl⟩:=vals1 r
 exact call_abs_int λu tk=>⟨.int (if i < 0 then -i else i),H,I.tok _,⟨_,rfl⟩,q⟩
theorem aKQ(hc:X.calm=true):eC X (.builtin "max") (λxs H Q=>∃i j,xs=[.int i,.int j]/\Q (.int (if j > i then j else i)) H):=by
 intro pins s σ H xs us Q I r h
 obtain⟨i,j,rfl,q⟩:=h
 obtain⟨u,w',rfl,⟨t,rfl⟩,⟨t',rfl⟩⟩:=vals2 r
 refine max_two_ints (I.ok.hd hc) λh' tk k=>⟨_,H,I.kept k,?_,q⟩
 by_cases hj:j > i
 ·rw[if_pos hj,if_pos hj];exact⟨_,rfl⟩
 ·rw[if_neg hj,if_neg hj];exact⟨_,rfl⟩
theorem aKR(hc:X.calm=true):eC X (.builtin "min") (λxs H Q=>∃i j,xs=[.int i,.int j]/\Q (.int (if j < i then j else i)) H):=by
 intro pins s σ H xs us Q I r h
 obtain⟨i,j,rfl,q⟩:=h
 obtain⟨u,w',rfl,⟨t,rfl⟩,⟨t',rfl⟩⟩:=vals2 r
 refine min_two_ints (I.ok.hd hc) λh' tk k=>⟨_,H,I.kept k,?_,q⟩
 by_cases hj:j < i
 ·rw[if_pos hj,if_pos hj];exact⟨_,rfl⟩
 ·rw[if_neg hj,if_neg hj];exact⟨_,rfl⟩
theorem aKS:eC X (.type "int") (λxs H Q=>(∃i,xs=[.int i]/\Q (.int i) H)\/∃k,xs=[.bl k]/\Q (.int (if k then 1 else 0)) H):=by
 intro pins s σ H xs us Q I r h
 rcases h with ⟨i,rfl,q⟩|⟨k,rfl,q⟩
 ·obtain⟨u,rfl,t,rfl⟩:=vals1 r
  exact call_int_int ⟨.int i,H,I,⟨_,rfl⟩,q⟩
 ·obtain⟨u,rfl,r1⟩:=vals1 r
  cases r1
  exact call_int_bool ⟨.int (if k then 1 else 0),H,I.tok _,⟨_,rfl⟩,q⟩
def aRn(K:W.Frag)(x:V)(H:Hp)(n:Nat):Prop:=
 match x with
 |.str y=>y.length<=sizeLine/\n=y.length
 |.byt y=>y.size<=sizeLine/\n=y.size
 |.ref p=>(∃xs,bV K H p xs/\n=xs.length)\/∃xs,kQ K H p xs/\n=xs.length
 |_=>False
theorem aL0:eC X (.builtin "len") (λxs H Q=>∃x n,xs=[x]/\aRn X.K x H n/\Q (.int n) H):=by
 intro pins s σ H xs us Q I r h
 obtain⟨x,n,rfl,e,q⟩:=h
 obtain⟨u,rfl,rx⟩:=vals1 r
 have hl:=aCB
 have hs:sizeLine=16777216:=sizeLine_eq
 cases x with
 |str y=>
  obtain⟨t,rfl⟩:=rx
  obtain⟨hy,e'⟩ : y.length<=sizeLine/\n=y.length:=e
  subst e'
  exact len_str (by omega) ⟨.int _,H,I.tok _,⟨_,rfl⟩,q⟩
 |byt y=>
  obtain⟨t,rfl⟩:=rx
  obtain⟨hy,e'⟩ : y.size<=sizeLine/\n=y.size:=e
  subst e'
  exact PySem.W.len_bytes (by omega) ⟨.int _,H,I.tok _,⟨_,rfl⟩,q⟩
 |ref p=>
  cases rx
  have e':(∃xs,bV X.K H p xs/\n=xs.length)\/∃xs,kQ X.K H p xs/\n=xs.length:=e
  rcases e' with ⟨xs,hx,e'⟩|⟨xs,hx,e'⟩
  ·subst e'
   obtain⟨its,r',pl,hz⟩:=I.list hx
   have hlen:=r'.length
   exact Calls.call_len_list pl.isList (by simp only[lX];omega) ⟨.int xs.length,H,I.tok _,⟨_,by simp only[lX];rw[hlen]⟩,q⟩
  ·subst e'
   obtain⟨its,r',pl,hz⟩:=I.tuple hx
   have hlen:=r'.length
   exact len_tuple pl (by simp only[lX];omega) ⟨.int xs.length,H,I.tok _,⟨_,by simp only[lX];rw[hlen]⟩,q⟩
 |_=>exact(show False from e).elim
end
end L2
namespace L2
open PySem PySem.Spec PyProof.Rows
structure aJa(h:Heap)(x dx C:Addr)(mA:Str->Option Value):Prop where
 obj:h.get? x=some (PySem.W.instObj C dx)
 ns:h.Ns1 dx mA
 ne:dx≠x
theorem aKT{h:Heap}{mA:Str->Option Value}(n:h.Ns1 dx mA):∃od,h.get? dx=some od/\∀name,PySem.W.lookIn name od=some (mA name):=by
 obtain⟨o,es,ep,ho,hd,hk,_,hm⟩:=n
 refine⟨o,ho,λname=>?_⟩
 have e:=hm name
 unfold nsFind findBy at e
 rw[<-Array.find?_toList] at e
 unfold PySem.W.lookIn
 rw[hd]
 dsimp only
 split
 ·rename_i y q
  rw[q] at e
  exact congrArg some e
 ·rename_i q
  rw[q] at e
  have a:es.toList.any (·.refKey)=false:=by
   rw[List.any_eq_false]
   intro y hy
   obtain⟨z,t,hkey⟩:=hk y (Array.mem_toList_iff.mp hy)
   simp[DictEntry.refKey,hkey]
  have a':¬es.toList.any (·.refKey)=true:=by rw[a];exact Qr9
  rw[if_neg a']
  exact congrArg some e
theorem aJa.look{mA:Str->Option Value}(I:aJa h x dx C mA):∃od,PySem.W.InstAt h x (PySem.W.instObj C dx) C (some od)/\∀name,PySem.W.lookIn name od=some (mA name):=
 let ⟨od,ho,hl⟩:=aKT I.ns
 ⟨od,⟨I.obj,rfl,rfl,ho⟩,hl⟩
section
variable{prog:Program}{w:World}{A:Around}{E:Value->Shared->Prop}{s:Shared}{K:W.Frag}{x dx C f:Addr}{mA:Str->Option Value}{name:Str}{v:Value}
theorem get_map{expr:Bool}{Q:Value->Shared->Prop}(X:K.In s.heap)(I:aJa s.heap x dx C mA)(hg:PySem.W.plainGet K C name=true)(hh:PySem.W.hasDictIn K C=true)
  (ha:W.findIn K (.ref C) name=some none) (hv:mA name=some v) (hv':PySem.W.handedIn v=true) (h:Q v { s with toks:=s.toks+1 }) :
  wpAny (model prog w) A (getAttr (.ref x) name expr) Q E s:=by
 obtain⟨od,J,hl⟩:=I.look
 exact PySem.W.get_value X J (PySem.W.plainGet_of hg).1 (PySem.W.findObj_own hh ha rfl (by rw[hl,hv])) hv' h
theorem aL1{pl:Sem Bool}{Q:Value×List Value->Shared->Prop}(X:K.In s.heap)(I:aJa s.heap x dx C mA)(hg:PySem.W.plainGet K C name=true)
  (hf:W.findIn K (.ref C) name=some (some (.ref f))) (ht:PySem.W.isFn K (.ref f)=true) (hv:mA name=none) (h:Q (.ref f,[.ref x]) s) :
  wpAny (model prog w) A (getMethod (.ref x) name pl) Q E s:=by
 obtain⟨od,J,hl⟩:=I.look
 exact PySem.W.method_fn X J (PySem.W.plainGet_of hg).1 (PySem.W.plainGet_of hg).2 hf (beq_iff_eq.mp ht) (by show(PySem.W.lookIn name od).map (·.isSome)=some false;rw[hl,hv];rfl) h
theorem aNW{ns:List Str}{Q:Unit->Shared->Prop}(X:K.In s.heap)(I:aJa s.heap x dx C mA)
  (hs:PySem.W.findIn K (.ref C) "__setattr__" = some (some (.builtin "object.__setattr__"))) (hp:PySem.W.plainOver K C=true) (ht:PySem.W.takerIn K C name=some none) (hh:PySem.W.hasDictIn K C=true)
  (hw:PySem.Within mA ns) (hsz:ns.length<=sizeLine)
  (h:∀h',aJa h' x dx C (λy=>if y=name then some v else mA y)->Heap.SameBut dx s.heap h'->Q () { s with heap:=h',toks:=s.toks+2 }) :
  wpAny (model prog w) A (setAttr (.ref x) name v) Q E s:=by
 obtain⟨od,J,hl⟩:=I.look
 refine PySem.W.set_plain X J hs (PySem.W.osa_open (s:={ s with toks:=s.toks+1 }) (r:=none) X J hp ht λb=>?_)
 obtain⟨cd,hc,hd'⟩:=PySem.W.any_some hh
 have hx:s.heap.get? x=some ⟨.ref C,some dx,.plain,#[]⟩:=I.obj
 refine wpAny_bind (wpAny_pure (wpAny_bind (wpAny_bind (wpAny_loadPart hx (wpAny_bind (PySem.W.Looks.here (s:={ s with toks:=s.toks+1 }) (PySem.W.looks_clsIn X hc) ?_))))))
 rw[hd']
 refine wpAny_pure (a:=some dx) (wpAny_bind (wpAny_pure (wpAny_bind ?_)))
 refine wpAny_nsSet1 (s:={ s with toks:=s.toks+1 }) I.ns λh' hn2 hs2=>?_
 obtain⟨oD,esD,epD,hoD,hdD,hcD⟩:=hn2.count (PySem.Within.cons name v hw)
 refine wpAny_bind (wpAny_lookBehind hoD (by rw[hdD];exact pastItsLine_dict (Rp9 hcD (by rw[Ra9];omega))) ?_)
 exact wpAny_pure (h _ ⟨(hs2.2 _ (Ne.symm I.ne)).trans I.obj,hn2,I.ne⟩ hs2)
theorem aL2{R:Result->Shared->Prop}(X:K.In s.heap)(hm:PySem.W.makesIn K C=true)(hi:PySem.W.findIn K (.ref C) "__init__" = some (some (.ref f)))(hf:PySem.W.typeIn K (.ref f)=some (.type "function"))(h:codeAny (model prog w) (A.under (.builtin "type.__call__" ⟨.ref C::vs,kw⟩)) (.call (.ref f) ⟨.ref (s.heap.objs.size+1)::vs,kw⟩) (PySem.W.InitBack (s.heap.objs.size+1) R)
   { s with heap:=(s.heap.push PySem.W.emptyDict).push (PySem.W.instObj C s.heap.objs.size) }) :
  codeAny (model prog w) A (.call (.ref C) ⟨vs,kw⟩) R s:=by
 obtain⟨hh,g,d,t,os⟩:=s
 exact PySem.W.make_core (PySem.W.makes_of X hm) (PySem.W.looks_findIn X hi) (λself=>PySem.W.bind_fn X self hf) (.inl rfl) h
end
def vW(f:Str)(v:V):List (Str×V)->List (Str×V)
 |[]=>[(f,v)]
 |(g,x)::r=>if g=f then (g,v)::r else (g,x)::vW f v r
theorem aC8(f g:Str)(v:V):∀fs:List (Str×V),(vW f v fs).lookup g=if g=f then some v else fs.lookup g
 |[]=>by
  show List.lookup g [(f,v)]=_
  by_cases h:g=f
  ·have hb:(g == f)=true:=beq_iff_eq.mpr h
   simp only[List.lookup,hb,if_pos h]
  ·have hb:(g == f)=false:=beq_eq_false_iff_ne.mpr h
   simp only[List.lookup,hb,if_neg h]
 |(k,x)::r=>by
  have ih:=aC8 f g v r
  rw[show vW f v ((k,x)::r)=(if k=f then (k,v)::r else (k,x)::vW f v r) from rfl]
  by_cases hk:k=f
  ·rw[if_pos hk]
   by_cases h:g=k
   ·have hb:(g == k)=true:=beq_iff_eq.mpr h
    simp only[List.lookup,hb,if_pos (h.trans hk)]
   ·have hb:(g == k)=false:=beq_eq_false_iff_ne.mpr h
    simp only[List.lookup,hb,if_neg (λe:g=f=>h (e.trans hk.symm))]
  ·rw[if_neg hk]
   by_cases h:g=k
   ·have hb:(g == k)=true:=beq_iff_eq.mpr h
    simp only[List.lookup,hb,if_neg (λe:g=f=>hk (h.symm.trans e))]
   ·have hb:(g == k)=false:=beq_eq_false_iff_ne.mpr h
    simp only[List.lookup,hb]
    exact ih
theorem aCC(f:Str)(v:V):∀fs:List (Str×V),f∈(vW f v fs).map (·.1)/\∀g,g∈fs.map (·.1)->g∈(vW f v fs).map (·.1)
 |[]=>⟨by simp[vW],λg h=>by simp at h⟩
 |(k,x)::r=>by
  obtain⟨i1,i2⟩:=aCC f v r
  rw[show vW f v ((k,x)::r)=(if k=f then (k,v)::r else (k,x)::vW f v r) from rfl]
  by_cases hk:k=f
  ·rw[if_pos hk]
   subst hk
   exact⟨by simp,λg h=>by simpa using h⟩
  ·rw[if_neg hk]
   refine⟨?_,λg h=>?_⟩
   ·rw[Rh9]
    exact Qq9 _ i1
   ·rw[Rh9] at h ⊢
    rcases yF.mp h with e|e
    ·exact yF.mpr (.inl e)
    ·exact Qq9 _ (i2 g e)
theorem aC9(f:Str)(v:V):∀fs:List (Str×V),(vW f v fs).length<=fs.length+1
 |[]=>by simp[vW]
 |(k,x)::r=>by
  have ih:=aC9 f v r
  rw[show vW f v ((k,x)::r)=(if k=f then (k,v)::r else (k,x)::vW f v r) from rfl]
  by_cases hk:k=f
  ·rw[if_pos hk,Ra9,Ra9];omega
  ·rw[if_neg hk,Ra9,Ra9];omega
theorem yG.some_of(r:yG (some v) o):∃u,o=some u/\RelV v u:=by
 cases o with
 |none=>exact(show False from r).elim
 |some u=>exact⟨u,rfl,r⟩
theorem yG.none_of(r:yG none o):o=none:=by
 cases o with
 |none=>rfl
 |some u=>exact(show False from r).elim
theorem aKU(r:RelV v u):PySem.W.handedIn u=true:=by
 cases v with
 |non=>cases (show u=Value.none from r);rfl
 |bl b=>cases (show u=Value.bool b from r);rfl
 |int i=>obtain⟨t,e⟩:=(show ∃t,u=Value.int i t from r);cases e;rfl
 |str x=>obtain⟨t,e⟩:=(show ∃t,u=Value.str x t from r);cases e;rfl
 |byt b=>obtain⟨t,e⟩:=(show ∃t,u=Value.bytes b t from r);cases e;rfl
 |flt b=>obtain⟨t,e⟩:=(show ∃t,u=Value.float b t from r);cases e;rfl
 |ref a=>cases (show u=Value.ref a from r);rfl
 |ty n=>cases (show u=Value.type n from r);rfl
section
variable{P:Program}{w:World}{H H':Hp}{h h':Heap}{a C dx:Addr}{fs fs':List (Str×V)}
theorem aD0(hok:yH P w H h)(e:H a=some (.ins C dx fs)):∃mA,aJa h a dx C mA/\(∀f,yG (fs.lookup f) (mA f))/\PySem.Within mA (fs.map (·.1))/\fs.length<=1000/\H dx=some (.own a):=by
 obtain⟨d,z,ne,ob,mA,n,r,q⟩:=(show cE P w H h a (.ins C dx fs) from hok a _ e)
 exact⟨mA,⟨ob,n,ne⟩,r,q,z,d⟩
end
structure Cls(K:W.Frag)(C:Addr):Prop where
 pg:PySem.W.plainGet K C Str.empty=true
 hd:PySem.W.hasDictIn K C=true
 po:PySem.W.plainOver K C=true
 sa:PySem.W.findIn K (.ref C) "__setattr__" = some (some (.builtin "object.__setattr__"))
theorem Cls.get{K:W.Frag}{C:Addr}(c:Cls K C)(f:Str):PySem.W.plainGet K C f=true:=c.pg
def dM(K:W.Frag)(C:Addr)(f:Str):Prop:=W.findIn K (.ref C) f=some none
theorem dM.aRo{K:W.Frag}{C:Addr}{f:Str}(n:dM K C f):PySem.W.takerIn K C f=some none:=by
 unfold PySem.W.takerIn
 rw[show W.findIn K (.ref C) f=some none from n]
 rfl
structure Meth(K:W.Frag)(C:Addr)(m:Str)(f:Addr):Prop where
 at_:W.findIn K (.ref C) m=some (some (.ref f))
 fn:PySem.W.isFn K (.ref f)=true
 kp:W.keepIn K (.ref f)=true
section
variable{X:Cx}{pins:List (Addr×Obj)}{σ:St}{H:Hp}{s:Shared}{a C dx:Addr}{fs:List (Str×V)}{f:Str}{v:V}{A:Around}{E:Value->Shared->Prop}
theorem aJb{b:Bool}{Q:Value->Shared->Prop}(I:Inv X pins σ H s)(e:H a=some (.ins C dx fs))(c:Cls X.K C)(n:dM X.K C f)(l:fs.lookup f=some v)
  (h:∀u s',Inv X pins σ H s'->RelV v u->Q u s'):wpAny (model X.prog X.w) A (getAttr (.ref a) f b) Q E s:=by
 obtain⟨mA,O,r,_,_,_⟩:=aD0 I.hok e
 obtain⟨u,hu,ru⟩:=yG.some_of (v:=v) (o:=mA f) (by rw[<-l];exact r f)
 exact get_map I.kIn O (c.get f) c.hd n hu (aKU ru) (h u _ (I.tok _) ru)
theorem aJc{pl:Sem Bool}{Q:Value×List Value->Shared->Prop}(I:Inv X pins σ H s)(e:H a=some (.ins C dx fs))(c:Cls X.K C)(k:Meth X.K C m g)(l:fs.lookup m=none)(h:Q (.ref g,[.ref a]) s):wpAny (model X.prog X.w) A (getMethod (.ref a) m pl) Q E s:=by
 obtain⟨mA,O,r,_,_,_⟩:=aD0 I.hok e
 have hn:mA m=none:=yG.none_of (by rw[<-l];exact r m)
 exact aL1 I.kIn O (c.get m) k.at_ k.fn hn h
theorem aJd{Q:Unit->Shared->Prop}(I:Inv X pins σ H s)(e:H a=some (.ins C dx fs))(c:Cls X.K C)(n:dM X.K C f)(hl:fs.length < 1000)(ry:RelV y u)(h:∀s',Inv X pins σ (upd H a (.ins C dx (vW f y fs))) s'->Q () s'):wpAny (model X.prog X.w) A (setAttr (.ref a) f u) Q E s:=by
 obtain⟨mA,O,r,wi,_,ho⟩:=aD0 I.hok e
 have hz:(fs.map (·.1)).length<=sizeLine:=by rw[bP,sizeLine_eq];omega
 refine aNW I.kIn O c.sa c.po n.aRo c.hd wi hz λh' O' sb=>h _ ?_
 have hd:∃o,h'.get? dx=some o:=let ⟨o,_,_,e',_⟩:=O'.ns;⟨o,e'⟩
 refine I.write (x:=a) (e:=dx) (by rw[e];exact True.intro) (.inr ho) (λb q hb z=>(sb.2 b hb).trans z) hd ?_
 refine⟨by rw[bB O.ne];exact ho,?_,O.ne,O'.obj,_,O'.ns,λg=>?_,λg hg=>?_⟩
 ·have:=aC9 f y fs;omega
 ·show yG ((vW f y fs).lookup g) (if g=f then some u else mA g)
  rw[aC8]
  by_cases q:g=f
  ·rw[if_pos q,if_pos q];exact ry
  ·rw[if_neg q,if_neg q];exact r g
 ·by_cases q:g=f
  ·rw[q];exact(aCC f y fs).1
  ·refine(aCC f y fs).2 g (wi g λz=>hg ?_)
   show(if g=f then some u else mA g)=none
   rw[if_neg q];exact z
theorem Inv.made(I:Inv X pins σ H s):Inv X pins σ (upd (upd H s.heap.objs.size (.own (s.heap.objs.size+1))) (s.heap.objs.size+1) (.ins C s.heap.objs.size []))
  { s with heap:=(s.heap.push PySem.W.emptyDict).push (PySem.W.instObj C s.heap.objs.size) }:=by
 have e1:(s.heap.push PySem.W.emptyDict).get? s.heap.objs.size=some PySem.W.emptyDict:=yL s.heap rfl
 have e2:((s.heap.push PySem.W.emptyDict).push (PySem.W.instObj C s.heap.objs.size)).get? (s.heap.objs.size+1)=some (PySem.W.instObj C s.heap.objs.size):=by
  have:=yL (s.heap.push PySem.W.emptyDict) (o:=PySem.W.instObj C s.heap.objs.size) rfl
  rwa[Rv9] at this
 have e3:(s.heap.push PySem.W.emptyDict).Ns s.heap.objs.size (λ_=>none):=⟨PySem.W.emptyDict,#[],_,e1,rfl,(λe he=>absurd he (by simp)),λ_=>rfl⟩
 have I1:=I.laid (a:=s.heap.objs.size) (o:=.own (s.heap.objs.size+1)) (h':=s.heap.push PySem.W.emptyDict) (t':=s.toks) (λb u q=>kO _ q) (gB _) ⟨_,e1⟩
 refine I1.laid (a:=s.heap.objs.size+1) (o:=.ins C s.heap.objs.size []) (t':=s.toks) (λb u q=>kO _ q) (Ua9 (Rv9 _ _)) ?_
 have ne:s.heap.objs.size≠s.heap.objs.size+1:=vU (Tv9 _)
 refine⟨by rw[bB ne,aN],Rn9 _,ne,e2,λ_=>none,(Heap.Ns1.of_empty e3).at λo q=>kO _ q,λ_=>True.intro,λy hy=>absurd rfl hy⟩
theorem aNX{Q:Value->Shared->Prop}(hb:attributeBase e f env (eval e env)=eval e env)(h:wpAny (model prog w) A (eval e env) (λo s₁=>wpAny (model prog w) A (getAttr o f true) Q E s₁) E s):wpAny (model prog w) A (eval (.Attribute e f pos) env) Q E s:=
 Attribute_any_ h (by rw[arm_eval_Attribute,hb])
end
def aP7(K:W.Frag)(ta:TE)(f:Str):TE:=λσ H Q=>ta σ H λx H1=>∃a C dx fs v,x=.ref a/\H1 a=some (.ins C dx fs)/\Cls K C/\dM K C f/\fs.lookup f=some v/\Q v H1
def aP8(K:W.Frag)(ta tv:TE)(f:Str):TS:=λD σ H=>tv σ H λy H1=>ta σ H1 λx H2=>∃a C dx fs,x=.ref a/\H2 a=some (.ins C dx fs)/\Cls K C/\dM K C f/\fs.length < 1000/\
 D.nx σ (upd H2 a (.ins C dx (vW f y fs)))
section
variable{X:Cx}{o e value:Expr}{f:Str}{pos pos' tpos:Pos}{ta tv:TE}
theorem aP9(he:PE X e ta)(hb:attributeBase e f X.env (eval e X.env)=eval e X.env):PE X (.Attribute e f pos) (aP7 X.K ta f):=by
 intro pins s σ H Q I h
 refine aNX hb (dW (he pins s σ H _ I h) λu s1 ⟨x,H1,I1,rx,a,C,dx,fs,v,ex,ea,c,n,l,q⟩=>?_)
 subst ex
 obtain rfl:u=Value.ref a:=rx
 exact aJb I1 ea c n l λu' s2 I2 ru=>⟨v,H1,I2,ru,q⟩
theorem aQa(ha:PE X o ta)(hv:PE X value tv)(hs:swapsWith value (some (.Attribute o f pos')) pos.line X.env=pure false):PS X (.Assign [.Attribute o f pos'] value pos) (aP8 X.K ta tv f):=by
 intro pins s σ H D I h
 refine plainObj_wpAny_Assign_Attribute (dW (hv pins s σ H _ I h) λu s1 ⟨y,H1,I1,ry,q⟩=>dW (ha pins s1 σ H1 _ I1 q) λov s2 ⟨x,H2,I2,rx,a,C,dx,fs,ex,ea,c,n,l,q2⟩=>?_) hs
 subst ex
 obtain rfl:ov=Value.ref a:=rx
 exact aJd I2 ea c n l ry λs3 I3=>⟨σ,_,I3,q2⟩
end
section
variable{X:Cx}{pins:List (Addr×Obj)}{σ:St}{H:Hp}{s:Shared}{A:Around}{E:Value->Shared->Prop}{Q:Value->Shared->Prop}{c:Value}{b:Bool}
inductive aBH (K:W.Frag) (H:Hp):V->Value->Prop where
 |non:aBH K H .non (.type "NoneType")
 |bl (x:Bool):aBH K H (.bl x) (.type "bool")
 |int (i:Int):aBH K H (.int i) (.type "int")
 |str (x:Str):aBH K H (.str x) (.type "str")
 |flt (x:UInt64):aBH K H (.flt x) (.type "float")
 |lst {a:Addr} {xs:List V} (e:H a=some (.lst xs)):aBH K H (.ref a) (.type "list")
 |frz {a:Addr} {o:Obj} {xs:List V} (e:H a=some (.frz o (.lst xs))):aBH K H (.ref a) (.type "list")
 |tup {a:Addr} {xs:List V} (e:H a=some (.tup xs)):aBH K H (.ref a) (.type "tuple")
 |dK {a:Addr} {kvs:List (Key×V)} (e:H a=some (.dK kvs)):aBH K H (.ref a) (.type "dict")
 |dT {a:Addr} {kvs:List (List Key×V)} (e:H a=some (.dT kvs)):aBH K H (.ref a) (.type "dict")
 |ins {a C dx:Addr} {fs:List (Str×V)} (e:H a=some (.ins C dx fs)) (cl:Cls K C) (ha:PySem.W.findIn K (.ref C) "__class__" = some (some (.builtin "object.__class__")))
   (hn:PySem.W.specialIn K (.builtin "object.__class__") "__get__" = some (some (.builtin "getset_descriptor.__get__"))) (htk:PySem.W.takesIn K (.builtin "object.__class__")=some true)
   (hm:PySem.W.mroIn K C (.type "object")=some true):aBH K H (.ref a) (.ref C)
theorem aF6(I:Inv X pins σ H s)(rx:RelV x u)(ty:aBH X.K H x t)(e:PySem.W.kitOne X.K t c=some b)(h:∀tk,Q (.bool b) { s with toks:=tk }) :
  wpAny (model X.prog X.w) A (call (.builtin "isinstance") [u,c]) Q E s:=by
 cases ty with
 |non=>cases (show u=Value.none from rx);exact PySem.W.kia_one PySem.W.kitx_none I.kIn True.intro e (λz=>nomatch z) h
 |bl y=>cases (show u=Value.bool y from rx);exact PySem.W.kia_one PySem.W.kitx_bool I.kIn True.intro e (λz=>nomatch z) h
 |int i=>obtain⟨t,q⟩:=(show ∃t,u=Value.int i t from rx);cases q;exact PySem.W.kia_one PySem.W.kitx_int I.kIn True.intro e (λz=>nomatch z) h
 |str y=>obtain⟨t,q⟩:=(show ∃t,u=Value.str y t from rx);cases q;exact PySem.W.kia_one PySem.W.kitx_str I.kIn True.intro e (λz=>nomatch z) h
 |flt y=>obtain⟨t,q⟩:=(show ∃t,u=Value.float y t from rx);cases q;exact PySem.W.kia_one PySem.W.kitx_float I.kIn True.intro e (λz=>nomatch z) h
 |@lst a xs ea=>
  cases (show u=Value.ref a from rx)
  obtain⟨_,_,n,_,h1⟩:=(show cE X.prog X.w H s.heap a (.lst xs) from I.hok a _ ea)
  exact PySem.W.kia_one PySem.W.kitx_list I.kIn ⟨_,h1,rfl⟩ e (λz=>nomatch z) h
 |@frz a ob xs ea=>
  cases (show u=Value.ref a from rx)
  obtain⟨_,_,_,n,_,h1⟩:=(show cE X.prog X.w H s.heap a (.frz ob (.lst xs)) from I.hok a _ ea)
  exact PySem.W.kia_one PySem.W.kitx_list I.kIn ⟨_,h1,rfl⟩ e (λz=>nomatch z) h
 |@tup a xs ea=>
  cases (show u=Value.ref a from rx)
  obtain⟨_,_,_,p⟩:=(show cE X.prog X.w H s.heap a (.tup xs) from I.hok a _ ea)
  obtain⟨o,h1,h2,_⟩:=p
  exact PySem.W.kia_one PySem.W.kitx_tuple I.kIn ⟨o,h1,h2⟩ e (λz=>nomatch z) h
 |@dK a kvs ea=>
  cases (show u=Value.ref a from rx)
  obtain⟨_,_,vs,_,p⟩:=(show cE X.prog X.w H s.heap a (.dK kvs) from I.hok a _ ea)
  obtain⟨o,es,ep,h1,h2,_⟩:=p
  exact PySem.W.kia_one PySem.W.kitx_dict I.kIn ⟨o,h1,h2.1⟩ e (λz=>nomatch z) h
 |@dT a kvs ea=>
  cases (show u=Value.ref a from rx)
  obtain⟨_,_,xs,_,o,es,ep,h1,h2,_⟩:=(show cE X.prog X.w H s.heap a (.dT kvs) from I.hok a _ ea)
  exact PySem.W.kia_one PySem.W.kitx_dict I.kIn ⟨o,h1,h2.1⟩ e (λz=>nomatch z) h
 |@ins a C dx fs ea cl ha hn htk hm=>
  cases (show u=Value.ref a from rx)
  obtain⟨mA,O,_⟩:=aD0 I.hok ea
  obtain⟨od,J,_⟩:=O.look
  exact PySem.W.kia_one (PySem.W.kitx_own (cl.get _) cl.hd ha hn htk hm) I.kIn J e (λz=>nomatch z) h
end
end L2
namespace L2
open PySem PySem.Spec PyProof.Rows
structure fJ(k:Nat)(A:Around):Prop where
 hd:A.handled=none
 dp:A.depth+3*k+5 < recursionLimit
 un:A.units+16*k+200 < cLine
theorem fJ.mono{j k:Nat}(r:fJ k A)(h:j<=k):fJ j A:=⟨r.hd,by have:=r.dp;omega,by have:=r.un;omega⟩
theorem fJ.deeper{k:Nat}{A:Around}(r:fJ (k+1) A)(env:Env):fJ k (A.deeper env):=
 ⟨r.hd,by have:=r.dp;show A.depth+1+3*k+5 < _;omega,by have:=r.un;show A.units+3+16*k+200 < _;omega⟩
theorem aJe{A:Around}:(A.under (.builtin "type.__call__" ⟨.ref C::us,kw⟩)).depth=A.depth+1:=by
 first|rfl|simp[Around.under,Code.weight,Code.isCreation,Code.isGuard,Code.isCaller,Code.frames,Code.isFrame,guardIds]
theorem aJf{A:Around}:(A.under (.builtin "type.__call__" ⟨.ref C::us,kw⟩)).units=A.units+1:=by
 first|rfl|simp[Around.under,Code.cUnits,Code.frames,Code.isFrame]
theorem fJ.make{k:Nat}{A:Around}(r:fJ (k+1) A)(C:Addr)(us:List Value)(kw:List (Str×Value)):fJ k (A.under (.builtin "type.__call__" ⟨.ref C::us,kw⟩)):=
 ⟨r.hd,by have:=r.dp;rw[aJe];omega,by have:=r.un;rw[aJf];omega⟩
theorem fJ.depth{k:Nat}{A:Around}(r:fJ k A):A.depth < recursionLimit:=by have:=r.dp;omega
theorem fJ.units{k:Nat}{A:Around}(r:fJ k A):A.units+64 < cLine:=by have:=r.un;omega
def qS:TA:=λ_ H Q=>Q [] H
def bL(ta:TE)(tr:TA):TA:=λσ H Q=>ta σ H λx H1=>tr σ H1 λxs H2=>Q (x::xs) H2
section
variable{X:Cx}{e:Expr}{es:List Expr}{te:TE}{t:TA}{pos:Pos}
theorem uD:PA X [] qS:=λ_ _ _ _ H Q I h=>Calls.spliced_nil ⟨[],H,I,.nil,h⟩
theorem aNY(ha:PE X e te)(hr:PA X es t)(hs:starEach (e::es) X.env=(false,eval e X.env)::starEach es X.env:=by rfl):PA X (e::es) (bL te t):=by
 intro pos pins s σ H Q I h
 rw[hs]
 show wpAny _ _ (spliced ((false,eval e X.env)::backTo pos (starEach es X.env))) _ _ s
 refine Calls.spliced_cons (dW (ha pins s σ H _ I h) λu s1 ⟨x,H1,I1,r1,q1⟩=>?_)
 exact dW (hr pos pins s1 σ H1 _ I1 q1) λus s2 ⟨xs,H2,I2,r2,q2⟩=>⟨x::xs,H2,I2,.cons r1 r2,q2⟩
def aHS(t:TA):TE:=λσ H Q=>t σ H λxs H1=>xs.length<=sizeLine/\∀p,H1 p=none->Q (.ref p) (upd H1 p (.tup xs))
def aBe(t:TA):TE:=λσ H Q=>t σ H λxs H1=>xs.length<=sizeLine/\∀p,H1 p=none->Q (.ref p) (upd H1 p (.lst xs))
theorem aJg{x1}(h:PA X es t):PE X (.Tuple es x1 pos) (aHS t):=by
 intro pins s σ H Q I hq
 refine wpAny_Tuple_spliced (dW (h pos pins s σ H _ I hq) λus s1 ⟨xs,H1,I1,r,z,q⟩=>⟨by rw[<-r.length];exact z,?_⟩)
 have hf:H1 s1.heap.objs.size=none:=I1.hok.fresh (gB _)
 refine⟨.ref s1.heap.objs.size,upd H1 s1.heap.objs.size (.tup xs),I1.laid (t':=s1.toks) (λb u e=>kO _ e) (gB _) ?_,rfl,q _ hf⟩
 exact⟨z,us,r,⟨_,yL _ rfl,rfl,_,rfl⟩⟩
theorem aBf(h:PA X es t):PE X (.List es pos) (aBe t):=by
 intro pins s σ H Q I hq
 refine wpAny_List_spliced (dW (h pos pins s σ H _ I hq) λus s1 ⟨xs,H1,I1,r,z,q⟩=>⟨by rw[<-r.length];exact z,?_⟩)
 have hf:H1 s1.heap.objs.size=none:=I1.hok.fresh (gB _)
 refine⟨.ref s1.heap.objs.size,upd H1 s1.heap.objs.size (.lst xs),I1.laid (t':=s1.toks) (λb u e=>kO _ e) (gB _) ?_,rfl,q _ hf⟩
 exact⟨z,us,0,r,yL _ rfl⟩
end
abbrev Sp:=List V->Hp->VK->XK->Prop
abbrev CXT:=List Env->Hp->Shared->XK->Value->Shared->Prop
structure aFk(P:Program)(w:World)(K:W.Frag)(mg:Str->Option Value)(base:Heap)(A:Around)(outer:List Env)(s:Shared)(H:Hp):Prop where
 frames:A.frames=some outer
 mod:Mod K mg base
 bs:∀b o,base.get? b=some o->s.heap.get? b=some o/\H b=none
 bsz:base.objs.size<=s.heap.objs.size
 aAH:s.heap.FunFrames base outer
 frf:∀b∈frs outer,H b=none
 hok:yH P w H s.heap
 bare:AllBare s.gens
def CE(outer:List Env)(P:Program)(w:World)(H:Hp)(s:Shared)(Q:VK)(u:Value)(s':Shared):Prop:=
 ∃v H',s'.os=s.os/\AllBare s'.gens/\Un (frs outer) [] H H' s.heap s'.heap/\yH P w H' s'.heap/\RelV v u/\Q v H'
def CR(CX:CXT)(outer:List Env)(P:Program)(w:World)(H:Hp)(s:Shared)(Q:VK)(E:XK)(r:Result)(s':Shared):Prop:=
 match r with
 |.ok (.ret u)=>CE outer P w H s Q u s'
 |.ok _=>False
 |.error e=>CX outer H s E e s'
structure bQ(P:Program)(w:World)(K:W.Frag)(mg:Str->Option Value)(base:Heap)(CX:CXT)(k:Nat)(f:Addr)(fd:FuncData)(ps:List Str)(sp:Sp):Prop where
 len:∀vs H Q E,sp vs H Q E->vs.length=ps.length
 run:∀(A:Around) (outer:List Env) (s:Shared) (H:Hp) (args:Args) (us:List Value) (vs:List V) (Q:VK) (E:XK),fJ k A->aFk P w K mg base A outer s H->BindsTo s fd args (ps.zip us)->Vals vs us->sp vs H Q E->
  codeAny (model P w) A (.call (.ref f) args) (CR CX outer P w H s Q E) s
theorem bQ.imp{P:Program}{w:World}{K:W.Frag}{mg:Str->Option Value}{base:Heap}{CX:CXT}{k:Nat}{f:Addr}{fd:FuncData}{ps:List Str}{sp sp':Sp}(F:bQ P w K mg base CX k f fd ps sp)
  (h:∀vs H Q E,sp' vs H Q E->sp vs H Q E):bQ P w K mg base CX k f fd ps sp':=
 ⟨λvs H Q E q=>F.len vs H Q E (h _ _ _ _ q),λA outer s H args us vs Q E hr he hb hv hs=>F.run A outer s H args us vs Q E hr he hb hv (h _ _ _ _ hs)⟩
theorem aFk.make{P:Program}{w:World}{K:W.Frag}{mg:Str->Option Value}{base:Heap}{A:Around}{outer:List Env}{s:Shared}{H:Hp}(e:aFk P w K mg base A outer s H)(C:Addr)(us:List Value)(kw:List (Str×Value)) :
  aFk P w K mg base (A.under (.builtin "type.__call__" ⟨.ref C::us,kw⟩)) outer s H:=⟨by first|exact e.frames|(simpa [Around.under,Code.envs,Code.isFrame,pushEnvs] using e.frames),e.mod,e.bs,e.bsz,e.aAH,e.frf,e.hok,e.bare⟩
section
variable{X:Cx}{pins:List (Addr×Obj)}{σ:St}{H:Hp}{s s':Shared}
theorem Inv.aL3(I:Inv X pins σ H s):aFk X.prog X.w X.K X.mg X.base X.A X.stack s H:=
 ⟨I.ok.frames,I.ok.mod,I.bs,Rp9 I.ok.bsz I.sz,I.stack,I.aDX,I.hok,I.bare⟩
theorem Inv.after(I:Inv X pins σ H s)(h:CE X.stack X.prog X.w H s Q u s'):EP X pins σ Q u s':=by
 obtain⟨v,H',os,bare,un,hok,r,q⟩:=h
 obtain⟨hh,g,d,t,os'⟩:=s'
 obtain rfl:os'=s.os:=os
 exact⟨v,H',I.call (h':=hh) (g':=g) (d':=d) (t':=t) (ch:=[]) un hok bare (λb z=>absurd z (by simp)),r,q⟩
end
def aHT(sp:Sp)(dvs:List V)(E:XK)(t:TA):TE:=λσ H Q=>t σ H λvs H1=>sp (vs++dvs) H1 Q E
def aJ9(C:Addr)(m:Str)(sp:Sp)(dvs:List V)(E:XK)(ta:TE)(t:TA):TE:=λσ H Q=>ta σ H λx H1=>∃a dx fs,x=.ref a/\H1 a=some (.ins C dx fs)/\fs.lookup m=none/\
 t σ H1 λvs H2=>sp (x::(vs++dvs)) H2 Q E
def aHU(C:Addr)(sp:Sp)(dvs:List V)(E:XK)(t:TA):TE:=λσ H Q=>t σ H λvs H1=>∀x dx,H1 x=none->H1 dx=none->dx≠x->
 sp (.ref x::(vs++dvs)) (upd (upd H1 dx (.own x)) x (.ins C dx [])) (λv H2=>v=.non/\Q (.ref x) H2) E
def Binds(K:W.Frag)(fd:FuncData)(ps:List Str)(ds:List Value):Prop:=
 ∀(s:Shared) (us:List Value),K.In s.heap->(us++ds).length=ps.length->BindsTo s fd ⟨us,[]⟩ (ps.zip (us++ds))
theorem Binds.all{K:W.Frag}{fd:FuncData}{ps:List Str}(h:∀us:List Value,us.length=ps.length->bindArgs fd ⟨us,[]⟩=pure (ps.zip us)):Binds K fd ps []:=λs us _ hl=>by
 rw[Rw9] at hl ⊢
 exact .of_eq (h us hl)
def Passes(CX:CXT)(X:Cx)(E:XK):Prop:=∀(pins:List (Addr×Obj)) (σ:St) (H:Hp) (s:Shared) (e:Value) (s':Shared),Inv X pins σ H s->CX X.stack H s E e s'->X.xe e s'
section
variable{X:Cx}{CX:CXT}{k:Nat}{f C:Addr}{fd:FuncData}{ps:List Str}{sp:Sp}{dvs:List V}{ds:List Value}{E:XK}{x m:Str}{p pos apos:Pos}{e o:Expr}{es:List Expr}{ta:TE}{t:TA}
theorem aL4(F:bQ X.prog X.w X.K X.mg X.base CX k f fd ps sp)(hr:fJ k X.A)(hb:Binds X.K fd ps ds)(hd:Vals dvs ds)(hx:Passes CX X E)(I:Inv X pins σ H s)(r:Vals vs us)(h:sp (vs++dvs) H Q E):wpAny (model X.prog X.w) X.A (call (.ref f) us) (EP X pins σ Q) X.xe s:=by
 have r2:Vals (vs++dvs) (us++ds):=r.append hd
 have hl:(us++ds).length=ps.length:=by rw[<-r2.length];exact F.len _ _ _ _ h
 refine wpAny_call (codeAny_mono (F.run X.A X.stack s H ⟨us,[]⟩ (us++ds) (vs++dvs) Q E hr I.aL3 (hb s us I.kIn hl) r2 h) λr s' hq=>?_)
 cases r with
 |error e=>exact hx pins σ H s e s' I hq
 |ok fl=>
  cases fl with
  |ret u=>exact I.after hq
  |next=>exact False.elim hq
  |brk=>exact False.elim hq
  |cont=>exact False.elim hq
theorem aNZ(F:bQ X.prog X.w X.K X.mg X.base CX k f fd ps sp)(hr:fJ k X.A)(hg:Gl X x)(hm:X.mg x=some (.ref f))(hk:W.keepIn X.K (.ref f)=true)(hb:Binds X.K fd ps ds)(hd:Vals dvs ds)(hx:Passes CX X E)
  (ha:PA X (e::es) t) (hdb:(x == ("__debug__" : Str))=false:=by decide) (he:starEach (e::es) X.env=(false,eval e X.env)::starEach es X.env:=by rfl) (hpl:(backTo pos (starEach es X.env)).any (·.1)=false:=by rfl) :
  PE X (.Call (.Name x p) (e::es) [] pos) (aHT sp dvs E t):=by
 intro pins s σ H Q I h
 refine wpAny_Call_Name_kw (aDZ I hg hm ?_ hdb)
 refine PySem.W.callWith_K (h₀:=X.base) I.ok.mod.kin hk (dW (ha pos pins s σ H _ I h) λus s1 ⟨vs,H1,I1,r,q⟩=>⟨I1.kIn,?_⟩) he hpl
 exact aL4 F hr hb hd hx I1 r q
theorem aN0{pl:Sem Bool}(he:PE X o ta)(c:Cls X.K C)(hm:Meth X.K C m f)(F:bQ X.prog X.w X.K X.mg X.base CX k f fd ps sp)(hr:fJ k X.A)(hb:Binds X.K fd ps ds)(hd:Vals dvs ds)(hx:Passes CX X E)(ha:PA X (e::es) t)
  (hst:starEach (e::es) X.env=(false,eval e X.env)::starEach es X.env:=by rfl) (hpl:(backTo pos (starEach es X.env)).any (·.1)=false:=by rfl)
  (ht:eval (.Call (.Attribute o m apos) (e::es) [] pos) X.env=(do
   let ov <-eval o X.env
   standAt apos.atName
   let (f,first) <-holding [ov] (getMethod ov m pl)
   callWith pos f first (backTo pos (starEach (e::es) X.env)) (backToKw pos (keywordEach [] X.env))):=by rfl) :
  PE X (.Call (.Attribute o m apos) (e::es) [] pos) (aJ9 C m sp dvs E ta t):=by
 intro pins s σ H Q I h
 refine PySem.W.methodCall_KW (pl:=pl) (dW (he pins s σ H _ I h) λu s1 ⟨x,H1,I1,rx,a,dx,fs,ex,ea,l,q⟩=>?_) ht
 subst ex
 obtain rfl:u=Value.ref a:=rx
 refine aJc I1 ea c hm l ?_
 refine PySem.W.callWith_K (first:=[.ref a]) (h₀:=X.base) I.ok.mod.kin hm.kp (dW (ha pos pins s1 σ H1 _ I1 q) λus s2 ⟨vs,H2,I2,r,q2⟩=>⟨I2.kIn,?_⟩) hst hpl
 exact aL4 (us:=.ref a::us) (vs:=.ref a::vs) F hr hb hd hx I2 (.cons rfl r) q2
structure Mk(K:W.Frag)(C f:Addr):Prop where
 makes:PySem.W.makesIn K C=true
 init:PySem.W.findIn K (.ref C) "__init__" = some (some (.ref f))
 fn:PySem.W.isFn K (.ref f)=true
 kp:W.keepIn K (.ref C)=true
theorem aL5{H:Hp}{Q:VK}(M:Mk X.K C f)(F:bQ X.prog X.w X.K X.mg X.base CX k f fd ps sp)(hr:fJ (k+1) X.A)(hb:Binds X.K fd ps ds)(hd:Vals dvs ds)(hx:Passes CX X E)(I:Inv X pins σ H s)(r:Vals vs us)(h:∀x dx,H x=none->H dx=none->dx≠x->sp (.ref x::(vs++dvs)) (upd (upd H dx (.own x)) x (.ins C dx [])) (λv H2=>v=.non/\Q (.ref x) H2) E) :
  wpAny (model X.prog X.w) X.A (call (.ref C) us) (EP X pins σ Q) X.xe s:=by
 have hq:=h (s.heap.objs.size+1) s.heap.objs.size (I.hok.fresh (Nat.le_succ _)) (I.hok.fresh (gB _)) (vU (Tv9 _))
 have I2:=Inv.made (C:=C) I
 have r2:Vals (V.ref (s.heap.objs.size+1)::(vs++dvs)) (Value.ref (s.heap.objs.size+1)::(us++ds)):=.cons rfl (r.append hd)
 have hl:(Value.ref (s.heap.objs.size+1)::us++ds).length=ps.length:=by
  have e:=r2.length
  rw[F.len _ _ _ _ hq] at e
  exact e.symm
 refine wpAny_call (aL2 (f:=f) I.kIn M.makes M.init (beq_iff_eq.mp M.fn) (codeAny_mono (F.run _ X.stack _ _ ⟨Value.ref (s.heap.objs.size+1)::us,[]⟩ (Value.ref (s.heap.objs.size+1)::(us++ds)) _ _ E (hr.make C us [])
  (I2.aL3.make C us []) (hb _ (Value.ref (s.heap.objs.size+1)::us) I2.kIn hl) r2 hq) λr s' hq'=>?_))
 cases r with
 |error e=>exact hx pins σ _ _ e s' I2 hq'
 |ok fl=>
  cases fl with
  |ret u=>
   obtain⟨v,H',I3,rv,ev,q3⟩:=I2.after hq'
   subst ev
   exact⟨rv,⟨V.ref (s.heap.objs.size+1),H',I3,rfl,q3⟩⟩
  |next=>exact False.elim hq'
  |brk=>exact False.elim hq'
  |cont=>exact False.elim hq'
theorem aN1(M:Mk X.K C f)(F:bQ X.prog X.w X.K X.mg X.base CX k f fd ps sp)(hr:fJ (k+1) X.A)(hg:Gl X x)(hm:X.mg x=some (.ref C))(hb:Binds X.K fd ps ds)(hd:Vals dvs ds)(hx:Passes CX X E)
  (ha:PA X (e::es) t) (hdb:(x == ("__debug__" : Str))=false:=by decide) (he:starEach (e::es) X.env=(false,eval e X.env)::starEach es X.env:=by rfl) (hpl:(backTo pos (starEach es X.env)).any (·.1)=false:=by rfl) :
  PE X (.Call (.Name x p) (e::es) [] pos) (aHU C sp dvs E t):=by
 intro pins s σ H Q I h
 refine wpAny_Call_Name_kw (aDZ I hg hm ?_ hdb)
 refine PySem.W.callWith_K (h₀:=X.base) I.ok.mod.kin M.kp (dW (ha pos pins s σ H _ I h) λus s1 ⟨vs,H1,I1,r,q⟩=>⟨I1.kIn,?_⟩) he hpl
 exact aL5 M F hr hb hd hx I1 r q
end
def PK(X:Cx)(kws:List Keyword)(t:TA):Prop:=
 ∀(pos:Pos) (pins:List (Addr×Obj)) (s:Shared) (σ:St) (H:Hp) (Q:List V->Hp->Prop),Inv X pins σ H s->t σ H Q->wpAny (model X.prog X.w) X.A (evalAll ((backToKw pos (keywordEach kws X.env)).map (·.2))) (AP X pins σ Q) X.xe s
section
variable{X:Cx}{CX:CXT}{k:Nat}{f C:Addr}{fd:FuncData}{ps ks:List Str}{sp:Sp}{E:XK}{x m:Str}{p pos apos kpos:Pos}{e o:Expr}{es:List Expr}{kws:List Keyword}{te ta:TE}{t tk:TA}{nm:Option Str}
variable{g:List Value->List Value->List Value}{gV:List V->List V->List V}
end
structure aX(N P:List Str)(sc:Scope):Prop where
 kind:sc.kind=.function:=by exact rfl
 co:sc.isCoroutine=false:=by exact rfl
 gen:sc.isGenerator=false:=by exact rfl
 nd:N.Nodup:=by decide +kernel
 pre:N.take P.length=P:=by exact rfl
 par:∀x∈P,sc.names.lookup x=some .local\/sc.names.lookup x=some .cell:=by decide +kernel
 nofree:∀y∈sc.names,y.2≠.free:=by decide +kernel
theorem aF7{kindOf:Str->Option NameKind}:∀{binds:List (Str×Value)}{m:Str->Option Value},(∀v,(x,v)∉binds)->bindL kindOf binds m x=m x
 |[],_,_=>rfl
 |(n,v)::r,m,h=>by
  unfold bindL
  rw[aF7 λw hw=>h w (Qq9 _ hw)]
  split
  ·have:x≠n:=by rintro rfl;exact h v Qx9
   simp[this]
  ·rfl
theorem aF8{kindOf:Str->Option NameKind}:∀{binds:List (Str×Value)}{m:Str->Option Value},(∀v,(x,v)∉binds)->bindC kindOf binds m x=m x
 |[],_,_=>rfl
 |(n,v)::r,m,h=>by
  unfold bindC
  rw[aF8 λw hw=>h w (Qq9 _ hw)]
  split
  ·rfl
  ·have:x≠n:=by rintro rfl;exact h v Qx9
   simp[this]
theorem aF9{kindOf:Str->Option NameKind}:∀{P:List Str}{vs:List Value}{i:Nat}{m:Str->Option Value},P.Nodup->P[i]?=some x->vs[i]?=some v->kindOf x=some .local->
  bindL kindOf (P.zip vs) m x=some v
 |[],_,_,_,_,h,_,_=>by simp at h
 |_::_,[],_,_,_,_,h,_=>by simp at h
 |p::P,w::vs,0,m,nd,h1,h2,hk=>by
  simp at h1 h2;subst h1;subst h2
  show bindL kindOf ((p,w)::P.zip vs) m p=_
  unfold bindL
  rw[aF7 λv hv=>(Rm9.mp nd).1 (Ty9 hv).1,if_pos hk]
  simp
 |p::P,w::vs,i+1,m,nd,h1,h2,hk=>by
  show bindL kindOf ((p,w)::P.zip vs) m x=_
  unfold bindL
  exact aF9 (i:=i) (Rm9.mp nd).2 (by simpa using h1) (by simpa using h2) hk
theorem aGa{kindOf:Str->Option NameKind}:∀{P:List Str}{vs:List Value}{i:Nat}{m:Str->Option Value},P.Nodup->P[i]?=some x->vs[i]?=some v->kindOf x≠some .local->
  bindC kindOf (P.zip vs) m x=some v
 |[],_,_,_,_,h,_,_=>by simp at h
 |_::_,[],_,_,_,_,h,_=>by simp at h
 |p::P,w::vs,0,m,nd,h1,h2,hk=>by
  simp at h1 h2;subst h1;subst h2
  show bindC kindOf ((p,w)::P.zip vs) m p=_
  unfold bindC
  rw[aF8 λv hv=>(Rm9.mp nd).1 (Ty9 hv).1,if_neg hk]
  simp
 |p::P,w::vs,i+1,m,nd,h1,h2,hk=>by
  show bindC kindOf ((p,w)::P.zip vs) m x=_
  unfold bindC
  exact aGa (i:=i) (Rm9.mp nd).2 (by simpa using h1) (by simpa using h2) hk
def start(N:List Str)(vs:List V):St:=vs.map some++List.replicate (N.length - vs.length) none
def aJh(CX:CXT)(P:Program)(w:World)(K:W.Frag)(mg:Str->Option Value)(base:Heap)(N:List Str)(qual:Str)(scope:Scope)(f:Addr)(cd:Value)(A:Around)(outer:List Env)(s:Shared)(H:Hp)(E:XK):Cx where
 prog:=P
 w:=w
 K:=K
 mg:=mg
 base:=base
 A:=A.deeper (envOfC qual scope s.heap.objs.size f cd)
 N:=N
 s₀:=s
 H₀:=H
 env:=envOfC qual scope s.heap.objs.size f cd
 outer:=outer
 stack:=envOfC qual scope s.heap.objs.size f cd::outer
 ex:=[]
 calm:=true
 fn:=λ_=>true
 pn:=[]
 xe:=λe s'=>wpAny (model P w) (A.deeper (envOfC qual scope s.heap.objs.size f cd)) (leaving (envOfC qual scope s.heap.objs.size f cd) e) (λ_ s''=>CX outer H s E e s'') (λe' s''=>CX outer H s E e' s'') s'
theorem aHV{sc:Scope}{n:Nat}(h:sc.names.lookup x=some .cell):∃c,(cellsFrom n sc.names []).lookup x=some c:=by
 have q:=PySem.W.cellsFrom_some sc.names n [] (.inl h)
 exact Option.isSome_iff_exists.mp q
theorem aKV{CX:CXT}{P:Program}{w:World}{K:W.Frag}{mg:Str->Option Value}{base:Heap}{N ps:List Str}{qual:Str}{scope:Scope}{f:Addr}{cd:Value}{A:Around}{outer:List Env}{s s1:Shared}{H:Hp}{E:XK}{us:List Value}{vs:List V}
  (S:aX N ps scope) (hd:A.handled=none) (e0:aFk P w K mg base A outer s H) (hl:vs.length=ps.length) (r:Vals vs us)
  (x:InCallC s s.heap.objs.size (bindL (envOfC qual scope s.heap.objs.size f cd).kindOf (ps.zip us) λ_=>none) (cellsFrom (s.heap.objs.size+1) scope.names []) (bindC (envOfC qual scope s.heap.objs.size f cd).kindOf (ps.zip us) λ_=>none) s1) :
  Inv (aJh CX P w K mg base N qual scope f cd A outer s H E) [] (start N vs) H s1:=by
 have hpl:ps.length<=N.length:=by have:=congrArg List.length S.pre;rw[Rf9] at this;omega
 obtain⟨h1,tk,rfl,hk⟩:=x.done
 have noA:∀b:Addr,b∉(aJh CX P w K mg base N qual scope f cd A outer s H E).ex:=λb z=>absurd (show b∈([]:List Addr) from z) (by simp)
 refine⟨⟨e0.mod,S.kind,rfl,rfl,gB _,λy z c h1 h2=>?_,λy hy=>?_,λy c _ h=>?_,λ_=>hd,Around.frames_deeper e0.frames,.inr ⟨rfl,rfl⟩,λb z=>absurd z (noA b),e0.bs,e0.bsz,λb _ _=>noA b,λb z=>absurd z (noA b),e0.aAH,e0.frf⟩,
  rfl,e0.bare,Un.kept hk,⟨_,x.toInCall.ns,λi y v h1 h2 h3=>?_⟩,λy c h=>⟨_,x.cell y c h⟩,e0.hok.fresh (gB _),λy c h=>?_,λp hp=>absurd (show p∈([]:List (Addr×Obj)) from hp) (by simp),e0.hok.kept hk,?_⟩
 ·exact name_of_addr x.apart (PySem.mem_of_lookup h1) (PySem.mem_of_lookup h2)
 ·have hy:scope.names.lookup y=some .cell\/scope.names.lookup y=some .free:=hy
  rcases hy with hy|hy
  ·exact aHV hy
  ·exact absurd rfl (S.nofree _ (PySem.mem_of_lookup hy))
 ·exact Ts9 (x.above y c (PySem.mem_of_lookup h))
 ·have hi:i < vs.length:=by
   unfold start at h2
   by_cases hi:i < vs.length
   ·exact hi
   ·rw[Qo9 (by simpa using hi)] at h2
    rw[Ti9] at h2
    split at h2 <;> cases h2
  have ha:vs[i]?=some v:=by
   unfold start at h2
   rw[Qn9 (by simpa using hi),oR] at h2
   cases e:vs[i]? with
   |none=>rw[e] at h2;cases h2
   |some a=>rw[e] at h2;cases h2;rfl
  obtain⟨u,hu,rv⟩:=r.get ha
  have hp:ps[i]?=some y:=by
   rw[<-S.pre,List.getElem?_take_of_lt (by omega)];exact h1
  have ndP:ps.Nodup:=by rw[<-S.pre];exact S.nd.sublist (List.take_sublist _ _)
  refine⟨u,rv,?_⟩
  rcases S.par y (oS hp) with k|k
  ·exact .inl ⟨k,aF9 ndP hp hu k⟩
  ·obtain⟨c,e⟩:=aHV (n:=s.heap.objs.size+1) k
   refine .inr ⟨.inl k,c,e,?_⟩
   have q:=x.cell y c e
   rw[aGa ndP hp hu (by show scope.names.lookup y≠_;rw[k];decide)] at q
   exact q
 ·exact e0.hok.fresh (Ts9 (x.above y c (PySem.mem_of_lookup h)))
 ·unfold start
  show _=N.length
  rw[oU,bP,List.length_replicate]
  omega
theorem aPh{CX:CXT}{P:Program}{w:World}{K:W.Frag}{mg:Str->Option Value}{base:Heap}{k:Nat}{f:Addr}{name qual:Str}{params:Arguments}{body:List Stmt}{scope:Scope}{dV kV doc pm cdv ct oc:Value}{an od:Option Addr}
  {osl:Array (Option Value)} {N ps:List Str} {sp:Sp} (lk:K.lookup f=some ⟨oc,od,.func (W.fnOf name qual params body scope dV kV doc pm an cdv ct),osl⟩) (hcd:W.codeIn K cdv qual=true) (S:aX N ps scope)
  (len:∀vs H Q E,sp vs H Q E->vs.length=ps.length)
  (hbody:∀(A:Around) (outer:List Env) (s:Shared) (H:Hp) (vs:List V) (Q:VK) (E:XK),fJ k (A.deeper (envOfC qual scope s.heap.objs.size f cdv))->sp vs H Q E->
   ∃t,PSs (aJh CX P w K mg base N qual scope f cdv A outer s H E) body t/\t { nx:=λ_ H'=>Q .non H',rt:=Q } (start N vs) H) :
  bQ P w K mg base CX (k+1) f (W.fnOf name qual params body scope dV kV doc pm an cdv ct) ps sp:=by
 refine⟨len,λA outer s H args us vs Q E hr e0 hb r hsp=>?_⟩
 have hl:=len _ _ _ _ hsp
 have KX:K.In s.heap:=e0.mod.kin.keeps λb o e=>(e0.bs b o e).1
 have lim:s.heap.NoLimit:=e0.mod.nolimit.keeps λb o e=>(e0.bs b o e).1
 have hkind:∀y∈ps.zip us,scope.names.lookup y.1=some .local\/(scope.names.lookup y.1=some .cell/\((cellsFrom (s.heap.objs.size+1) scope.names []).lookup y.1).isSome=true):=λ⟨n,v⟩ hy=>by
  rcases S.par n (Ty9 hy).1 with q|q
  ·exact .inl q
  ·exact .inr ⟨q,PySem.W.cellsFrom_some _ _ _ (.inl q)⟩
 refine codeAny_call_function hr.depth (KX _ _ lk) rfl S.co S.gen rfl (PySem.W.codeRec_of KX hcd) (hb _ _ _ _ ?_)
 refine wpAny_newFunctionEnv_cells S.kind hkind λenv he s1 x=>?_
 subst he
 refine⟨lim.keeps x.toInCall.keep,codeAny_func ?_⟩
 obtain⟨t,ht,hq⟩:=hbody A outer s H vs Q E (hr.deeper _) hsp
 have I:Inv (aJh CX P w K mg base N qual scope f cdv A outer s H E) [] (start N vs) H s1:=aKV S hr.hd e0 hl r x
 refine wpAny_mono (ht [] s1 (start N vs) H _ I hq) (λfl s' hs=>?_) λe s' hs=>hs
 have fin:∀{σ':St} {H':Hp} {v:V} {u:Value},Inv (aJh CX P w K mg base N qual scope f cdv A outer s H E) [] σ' H' s'->RelV v u->Q v H'->CE outer P w H s Q u s':=
  λ{σ' H' v u} J rv q=>⟨v,H',J.os,J.bare,J.base,J.hok,rv,q⟩
 cases fl with
 |ret u=>
  obtain⟨v,σ',H',J,rv,q⟩:=hs
  exact fin J rv q
 |next=>
  obtain⟨σ',H',J,q⟩:=hs
  exact fin (v:=V.non) (u:=Value.none) J rfl q
 |brk=>
  obtain⟨_,_,_,q⟩:=hs
  exact False.elim q
 |cont=>
  obtain⟨_,_,_,q⟩:=hs
  exact False.elim q
end L2
namespace L2
open PySem PySem.Spec PyProof.Rows
section
variable{X:Cx}{x:Str}{p pos:Pos}{e:Expr}{es:List Expr}{t:TA}{id T:String}{r:List V->Hp->VK->Prop}
def tCB(r:List V->Hp->VK->Prop)(t:TA):TE:=λσ H Q=>t σ H λvs H1=>r vs H1 Q
theorem aL6(hc:eC X (.builtin id) r)(hg:Gl X x)(hm:X.mg x=none)(hv:bootBuiltins x=some (.builtin id))(ha:PA X (e::es) t)(hn:x≠"__name__":=by decide)(hdb:(x == ("__debug__" : Str))=false:=by decide)
  (he:starEach (e::es) X.env=(false,eval e X.env)::starEach es X.env:=by rfl) (hpl:(backTo pos (starEach es X.env)).any (·.1)=false:=by rfl):PE X (.Call (.Name x p) (e::es) [] pos) (tCB r t):=by
 intro pins s σ H Q I h
 refine wpAny_Call_Name_kw (uA I hg hm hv ?_ hn hdb)
 exact PyProof.Rows.callWith_builtin1 (dW (ha pos pins s σ H _ I h) λus s1 ⟨vs,H1,I1,r1,q1⟩=>hc pins s1 σ H1 vs us Q I1 r1 q1) he hpl
theorem aKW(hc:eC X (.type T) r)(hg:Gl X x)(hm:X.mg x=none)(hv:bootBuiltins x=some (.type T))(ha:PA X (e::es) t)(hn:x≠"__name__":=by decide)(hdb:(x == ("__debug__" : Str))=false:=by decide)
  (he:starEach (e::es) X.env=(false,eval e X.env)::starEach es X.env:=by rfl) (hpl:(backTo pos (starEach es X.env)).any (·.1)=false:=by rfl):PE X (.Call (.Name x p) (e::es) [] pos) (tCB r t):=by
 intro pins s σ H Q I h
 refine wpAny_Call_Name_kw (uA I hg hm hv ?_ hn hdb)
 exact PyProof.Rows.callWith_type1 (dW (ha pos pins s σ H _ I h) λus s1 ⟨vs,H1,I1,r1,q1⟩=>hc pins s1 σ H1 vs us Q I1 r1 q1) he hpl
end
end L2
namespace HT
open PySem PyProof.Rows
section
open PySem.SeqAt
open PySem.AutoSeq1 (wpAny_loadPart')
open PySem.MeetsSeq PySem.MeetsSeq2 PySem.MeetsSeq3
end
section
variable{prog:Program}{w:World}{A:Around}{E:Value->Shared->Prop}{s:Shared}
def oJ(n d:Nat):Option Int->Nat
 |none=>d
 |some v=>if v < 0 then (v+(n:Int)).toNat else min v.toNat n
theorem aHW(n d:Nat):oJ n d none=d:=rfl
theorem aKa(n d k:Nat):oJ n d (some (k:Int))=min k n:=by
 show(if (k:Int) < 0 then ((k:Int)+(n:Int)).toNat else min (k:Int).toNat n)=min k n
 rw[if_neg (by omega),Re9]
theorem aQb(n d:Nat)(hd:d<=n)(o:Option Int):oJ n d o<=n:=by
 cases o with
 |none=>exact hd
 |some v=>
  show(if v < 0 then (v+(n:Int)).toNat else min v.toNat n)<=n
  by_cases hv:v < 0
  ·rw[if_pos hv];omega
  ·rw[if_neg hv];exact Nat.min_le_right _ _
theorem aKb(v:Int)(n d:Nat):(if v < 0 then max (v+(n:Int)) 0 else min v (n:Int))=((oJ n d (some v):Nat):Int):=by
 show(if v < 0 then max (v+(n:Int)) 0 else min v (n:Int))=(((if v < 0 then (v+(n:Int)).toNat else min v.toNat n):Nat):Int)
 by_cases hv:v < 0
 ·simp only[if_pos hv];omega
 ·simp only[if_neg hv];omega
theorem aJi(lo hi:Option Int)(n:Nat):Builtin.Slice.sliceAdjust lo hi 1 (n:Int)=(((oJ n 0 lo:Nat):Int),((oJ n n hi:Nat):Int)):=by
 have h1:¬((1:Int) < 0):=by omega
 unfold Builtin.Slice.sliceAdjust
 simp only[h1,if_false]
 refine Prod.ext ?_ ?_
 ·cases lo with
  |none=>rfl
  |some v=>exact aKb v n 0
 ·cases hi with
  |none=>rfl
  |some v=>exact aKb v n n
theorem aJj(i j:Nat):Builtin.Slice.slicePlaces (i:Int) (j:Int) 1=j - i:=by
 unfold Builtin.Slice.slicePlaces
 have h1:(1:Int) > 0:=by omega
 simp only[h1,if_true,Int.ediv_one]
 split <;> omega
theorem aD7{o:Option Int}{Q:Option Int->Shared->Prop}(p:IsPart v o)(h:Q o s):wpAny (model prog w) A (Builtin.Slice.slicePartIndex v) Q E s:=by
 cases p with
 |none=>exact slicePart_none h
 |int i t=>exact slicePart_int h
theorem aCD{lo hi:Option Int}{n:Nat}{Q:Int×Int×Nat->Shared->Prop}(hs:s.heap.IsSliceOf sl vl vu .none)(pl:IsPart vl lo)(pu:IsPart vu hi)(h:Q (((oJ n 0 lo:Nat):Int),1,oJ n n hi - oJ n 0 lo) s):wpAny (model prog w) A (Builtin.Slice.sliceApplied (.ref sl) (pure (n:Int))) Q E s:=by
 obtain⟨os,hos,hcs,hds⟩:=id hs
 unfold Builtin.Slice.sliceApplied Builtin.Slice.sliceFields
 refine wpAny_bind (wpAny_bind (wpAny_field hos hds (x:=vl) rfl (wpAny_bind (wpAny_field hos hds (x:=vu) rfl (wpAny_bind (wpAny_field hos hds (x:=.none) rfl (wpAny_pure ?_)))))))
 refine wpAny_bind (slicePart_none ?_)
 show wpAny _ _ (if ((1:Int) == 0)=true then _ else _) _ _ s
 rw[if_neg (by decide)]
 refine wpAny_bind (aD7 pl (wpAny_bind (aD7 pu (wpAny_bind (wpAny_pure ?_)))))
 show wpAny _ _ (match Builtin.Slice.sliceAdjust lo hi 1 (n:Int) with|(lo,hi)=>pure (lo,(1:Int),Builtin.Slice.slicePlaces lo hi 1)) _ _ s
 rw[aJi lo hi n]
 show wpAny _ _ (pure (((oJ n 0 lo:Nat):Int),(1:Int),Builtin.Slice.slicePlaces ((oJ n 0 lo:Nat):Int) ((oJ n n hi:Nat):Int) 1)) _ _ s
 rw[aJj]
 exact wpAny_pure h
theorem aL7(xs:Array Value)(i k:Nat):((List.range k).filterMap λ(m:Nat)=>xs[((i:Int)+(m:Int)*1).toNat]?).toArray=((xs.toList.drop i).take k).toArray:=by
 have e:(λ(m:Nat)=>xs[((i:Int)+(m:Int)*1).toNat]?)=λm=>xs[i+m]?:=by
  funext m
  have:((i:Int)+(m:Int)*1).toNat=i+m:=by omega
  rw[this]
 rw[e]
 have:=pick_run xs i k
 rw[List.filterMap_map] at this
 have e2:((λx=>xs[x]?) ∘ λx=>i+x)=λm=>xs[i+m]?:=rfl
 rw[e2] at this
 rw[this]
theorem aBI{items:Array Value}{lo hi:Option Int}{Q:Value->Shared->Prop}(ht:IsTup s.heap t items)(hs:s.heap.IsSliceOf sl vl vu .none)(pl:IsPart vl lo)(pu:IsPart vu hi)(hw:¬(oJ items.size 0 lo=0/\oJ items.size items.size hi=items.size))(h:Q (.ref s.heap.objs.size) { s with heap:=s.heap.push { cls:=.type "tuple",data:=.seq ((items.toList.drop (oJ items.size 0 lo)).take (oJ items.size items.size hi - oJ items.size 0 lo)).toArray } })(hsz:items.size<=sizeLine):wpAny (model prog w) A (getItem (.ref t) (.ref sl)) Q E s:=by
 have htake:sizeOk (.seq ((items.toList.drop (oJ items.size 0 lo)).take (oJ items.size items.size hi - oJ items.size 0 lo)).toArray):=by
  show((items.toList.drop (oJ items.size 0 lo)).take (oJ items.size items.size hi - oJ items.size 0 lo)).toArray.size<=sizeLine
  rw[lX,Rf9,Tw9,Rg9]
  omega
 have hj:oJ items.size items.size hi<=items.size:=aQb _ _ (gB _) hi
 obtain⟨os,hos,hcs,hds⟩:=id hs
 have hTs:s.TypeIs (.ref sl) "slice":=⟨os,hos,hcs⟩
 unfold getItem
 try with_reducible refine wpAny_holding ?_
 first|refine wpAny_bind (wpAny_pure ?_)|skip
 refine wpAny_bind (wpAny_sequenceKey ht.typeIs (by decide) ?_)
 refine wpAny_bind (wpAny_callSpecial?_slot (name:=Str.ofString "__getitem__") ht.typeIs PyProof.Rows.slot_tuple_getitem
  (wpAny_call_entry PyProof.Rows.slot_tuple_getitem ht.typeIs entry_tuple_getitem ?_ (args_tuple_getitem _ _)))
 show wpAny _ _ (Builtin.Tuple.tupleItemsOf (.ref t) >>= _) _ _ s
 refine wpAny_bind (tupleItemsOf_ ht ?_)
 refine wpAny_bind (wpAny_typeOf hTs ?_)
 rw[if_pos (by decide)]
 refine wpAny_bind (aCD hs pl pu ?_)
 have hno:¬((((oJ items.size 0 lo:Nat):Int) == 0 && (1:Int) == 1 && (oJ items.size items.size hi - oJ items.size 0 lo) == items.size)=true):=by
  intro q
  rw[Ro9,Ro9] at q
  have q1:((oJ items.size 0 lo:Nat):Int)=0:=eq_of_beq q.1.1
  have q2:oJ items.size items.size hi - oJ items.size 0 lo=items.size:=eq_of_beq q.2
  exact hw ⟨by omega,by omega⟩
 show wpAny _ _ (if (((oJ items.size 0 lo:Nat):Int) == 0 && (1:Int) == 1 && (oJ items.size items.size hi - oJ items.size 0 lo) == items.size)=true then _ else _) _ _ s
 rw[if_neg hno,aL7]
 first
  |exact wpAny_bind (m:=Builtin.Tuple.tupleExact _) (wpAny_newObj_type (wpAny_pure ⟨_,rfl,wpAny_pure h⟩) htake)
  |exact wpAny_bind (m:=Builtin.Tuple.tupleExact _) (wpAny_newObj_type (wpAny_bind (wpAny_pure (wpAny_pure ⟨_,rfl,wpAny_pure h⟩))) htake)
  |exact wpAny_bind (wpAny_bind (m:=Builtin.Tuple.tupleExact _) (wpAny_newObj_type (wpAny_pure (wpAny_pure ⟨_,rfl,wpAny_pure h⟩)) htake))
  |exact wpAny_bind (wpAny_bind (m:=Builtin.Tuple.tupleExact _) (wpAny_newObj_type (wpAny_pure ⟨_,rfl,wpAny_pure h⟩) htake))
end
end HT
namespace L2
open PySem PySem.Spec PyProof.Rows
abbrev TO:=St->Hp->(Option Int->Hp->Prop)->Prop
def PO(X:Cx)(e:Option Expr)(t:TO):Prop:=
 ∀(pins:List (Addr×Obj)) (s:Shared) (σ:St) (H:Hp) (Q:Option Int->Hp->Prop),Inv X pins σ H s->t σ H Q->
  wpAny (model X.prog X.w) X.A (evalPart e X.env) (λu s'=>∃o H',Inv X pins σ H' s'/\IsPart u o/\Q o H') X.xe s
def aGC:TO:=λ_ H Q=>Q none H
def aL8(t:TE):TO:=λσ H Q=>t σ H λx H1=>∃i,x=.int i/\Q (some i) H1
theorem intsAre_of{ns:List Int}:∀{us:List Value},Vals (ns.map V.int) us->IntsAre us ns:=by
 induction ns with
 |nil=>intro us r;rw[Tt9] at r;cases r;exact .nil
 |cons n ns ih=>
  intro us r
  rw[Rh9] at r
  cases r with
  |cons r1 r2=>
   obtain⟨t,e⟩:=r1
   subst e
   exact .cons n t (ih r2)
section
variable{X:Cx}{e:Expr}{te:TE}{lo hi:Option Expr}{tl th:TO}{pos p2:Pos}
theorem aN2:PO X none aGC:=by
 intro pins s σ H Q I h
 rw[evalPart_none]
 exact wpAny_pure ⟨none,H,I,.none,h⟩
theorem aN3(h:PE X e te):PO X (some e) (aL8 te):=by
 intro pins s σ H Q I hw
 rw[evalPart_some]
 refine dW (h pins s σ H _ I hw) λu s1 ⟨x,H1,I1,r1,q1⟩=>?_
 obtain⟨i,rfl,q⟩:=q1
 obtain⟨t,rfl⟩:=r1
 exact⟨some i,H1,I1,.int i t,q⟩
def SlR(X:Cx)(r:V->Option Int->Option Int->Hp->VK->Prop):Prop:=
 ∀(pins:List (Addr×Obj)) (s:Shared) (σ:St) (H:Hp) (x:V) (v vl vu:Value) (lo hi:Option Int) (sl:Addr) (Q:VK),Inv X pins σ H s->RelV x v->s.heap.IsSliceOf sl vl vu .none->IsPart vl lo->IsPart vu hi->r x lo hi H Q->
  ∃T id,typeLookup (.type T) "__getitem__" = pure (some (.builtin id))/\s.TypeIs v T/\wpAny (model X.prog X.w) X.A (getItem v (.ref sl)) (EP X pins σ Q) X.xe s
theorem SlR.or{r r':V->Option Int->Option Int->Hp->VK->Prop}(h:SlR X r)(h':SlR X r'):SlR X (λx lo hi H Q=>r x lo hi H Q\/r' x lo hi H Q):=by
 intro pins s σ H x v vl vu lo hi sl Q I rx hs pl pu q
 rcases q with q|q
 ·exact h pins s σ H x v vl vu lo hi sl Q I rx hs pl pu q
 ·exact h' pins s σ H x v vl vu lo hi sl Q I rx hs pl pu q
def tSl(r:V->Option Int->Option Int->Hp->VK->Prop)(te:TE)(tl th:TO):TE:=λσ H Q=>te σ H λx H1=>tl σ H1 λl H2=>th σ H2 λu H3=>r x l u H3 Q
theorem aL9{r:V->Option Int->Option Int->Hp->VK->Prop}(hr:SlR X r)(he:PE X e te)(hl:PO X lo tl)(hu:PO X hi th):PE X (.Subscript e (.Slice lo hi none p2) pos) (tSl r te tl th):=by
 intro pins s σ H Q I h
 refine Subscript_ (dW (he pins s σ H _ I h) λv s1 ⟨x,H1,I1,r1,q1⟩=>?_)
 refine wpAny_Slice (dW (hl pins s1 σ H1 _ I1 q1) λvl s2 ⟨l,H2,I2,pl,q2⟩=>dW (hu pins s2 σ H2 _ I2 q2) λvu s3 ⟨u,H3,I3,pu,q3⟩=>?_)
 rw[evalPart_none]
 refine wpAny_pure ?_
 have I4:Inv X pins σ H3 { s3 with heap:=s3.heap.push { cls:=.type "slice",data:=.fields #[vl,vu,.none] } }:=I3.kept (t':=s3.toks) λb ob q=>kO _ q
 obtain⟨T,id,hT,ht,hg⟩:=hr pins { s3 with heap:=s3.heap.push { cls:=.type "slice",data:=.fields #[vl,vu,.none] } } σ H3 x v vl vu l u s3.heap.objs.size Q I4 r1 (Heap.IsSliceOf.new ..) pl pu q3
 show wpAny (model X.prog X.w) X.A (subscriptTail e (.Slice lo hi none p2) v (.ref s3.heap.objs.size)) (EP X pins σ Q) X.xe { s3 with heap:=s3.heap.push { cls:=.type "slice",data:=.fields #[vl,vu,.none] } }
 exact tail_any (ops:=[.ref s3.heap.objs.size,v]) ht hT hg (by with_unfolding_all rfl)
def rX(xs:List V)(lo hi:Option Int):List V:=(xs.drop (HT.oJ xs.length 0 lo)).take (HT.oJ xs.length xs.length hi - HT.oJ xs.length 0 lo)
theorem gC(xs:List V)(lo hi:Option Int):(rX xs lo hi).length<=xs.length:=by
 unfold rX
 rw[Rf9,Tw9]
 omega
def aRp(K:W.Frag):V->Option Int->Option Int->Hp->VK->Prop:=λx lo hi H Q=>∃a xs,x=.ref a/\kQ K H a xs/\
 ¬(HT.oJ xs.length 0 lo=0/\HT.oJ xs.length xs.length hi=xs.length)/\∀p,H p=none->Q (.ref p) (upd H p (.tup (rX xs lo hi)))
theorem aQc:SlR X (aRp X.K):=by
 intro pins s σ H x v vl vu lo hi sl Q I rx hs pl pu h
 obtain⟨a,xs,rfl,hx,hw,q⟩:=h
 cases rx
 obtain⟨its,r,ht,hz⟩:=I.tuple hx
 have hlen:its.toArray.size=xs.length:=by rw[lX];exact r.length.symm
 refine⟨"tuple",_,PyProof.Rows.slot_tuple_getitem.lookup,ht.typeIs,?_⟩
 refine HT.aBI ht hs pl pu (by rw[hlen];exact hw) ?_ (by rw[hlen];exact hz)
 rw[hlen]
 refine⟨.ref s.heap.objs.size,_,I.laid (t':=s.toks) (o:=.tup (rX xs lo hi)) (λb ob q=>kO _ q) (gB _) ?_,rfl,q _ (I.hok.fresh (gB _))⟩
 exact⟨Rp9 (gC xs lo hi) hz,_,(r.drop (HT.oJ xs.length 0 lo)).take (HT.oJ xs.length xs.length hi - HT.oJ xs.length 0 lo),IsTup.new _ _⟩
end
end L2
namespace L2
open PySem PySem.Spec PyProof.Rows
def ixN(n:Nat)(i:Int):Option Nat:=if 0<=i then (if i < n then some i.toNat else none) else if -(n:Int)<=i then some (i+n).toNat else none
def mC{α:Type}(xs:List α)(i:Int):Option α:=(ixN xs.length i).bind λj=>xs[j]?
theorem aKc{n:Nat}{i:Int}{j:Nat}(h:ixN n i=some j):seqIndex? i n=some j/\j < n/\-(n:Int)<=i/\i < n:=by
 unfold ixN at h
 by_cases h0:0<=i
 ·rw[if_pos h0] at h
  by_cases h1:i < n
  ·rw[if_pos h1] at h
   have e:i.toNat=j:=Option.some.inj h
   exact⟨by rw[seqIndex_of h0 h1,e],by omega,by omega,h1⟩
  ·rw[if_neg h1] at h;cases h
 ·rw[if_neg h0] at h
  by_cases h1:-(n:Int)<=i
  ·rw[if_pos h1] at h
   have e:(i+n).toNat=j:=Option.some.inj h
   exact⟨by rw[seqIndex_neg (by omega) h1,e],by omega,h1,by omega⟩
  ·rw[if_neg h1] at h;cases h
theorem aGD{α:Type}{xs:List α}{i:Int}{v:α}(h:mC xs i=some v):∃j,seqIndex? i xs.length=some j/\xs[j]?=some v/\j < xs.length/\-(xs.length:Int)<=i/\i < xs.length:=by
 unfold mC at h
 cases e:ixN xs.length i with
 |none=>rw[e] at h;cases h
 |some j=>
  rw[e] at h
  obtain⟨h1,h2,h3,h4⟩:=aKc e
  exact⟨j,h1,h,h2,h3,h4⟩
theorem iB{α:Type}{xs:List α}{j:Nat}{v:α}(h:xs[j]?=some v):mC xs (j:Int)=some v:=by
 have hj:j < xs.length:=(lZ.mp h).1
 have e:ixN xs.length (j:Int)=some j:=by
  unfold ixN
  rw[if_pos (by omega),if_pos (by omega)];simp
 unfold mC;rw[e];exact h
theorem aHX{α:Type}(xs:List α)(v:α):mC (xs ++ [v]) (-1)=some v:=by
 have hl:(xs ++ [v]).length=xs.length+1:=by simp
 have e:ixN (xs ++ [v]).length (-1)=some xs.length:=by
  unfold ixN
  rw[hl,if_neg (by decide),if_pos (by omega)]
  congr 1
  omega
 unfold mC
 rw[e]
 show(xs ++ [v])[xs.length]?=some v
 simp
def aKd(b:Expr):Prop:=∀o i,subscripted b false o i=operate [o,i] (getItem o i)
def IxR(X:Cx)(r:R2):Prop:=
 ∀(value slice:Expr) (pins:List (Addr×Obj)) (s:Shared) (σ:St) (H:Hp) (x y:V) (v u:Value) (Q:VK),Inv X pins σ H s->RelV x v->RelV y u->r x y H Q->
  subscripted slice false v u=operate [v,u] (getItem v u)->wpAny (model X.prog X.w) X.A (subscriptTail value slice v u) (EP X pins σ Q) X.xe s
def MtR(X:Cx)(id:String)(r:V->List V->Hp->VK->Prop):Prop:=
 ∀(pins:List (Addr×Obj)) (s:Shared) (σ:St) (H:Hp) (x:V) (xs:List V) (v:Value) (us:List Value) (Q:VK),Inv X pins σ H s->RelV x v->Vals xs us->r x xs H Q->
  wpAny (model X.prog X.w) X.A (call (.builtin id) (v::us)) (EP X pins σ Q) X.xe s
section
variable{X:Cx}{a b:Expr}{ta tb:TE}{pos:Pos}
theorem IxR.or{r':R2}(h:IxR X r)(h':IxR X r'):IxR X (λx y H Q=>r x y H Q\/r' x y H Q):=by
 intro value slice pins s σ H x y v u Q I rx ry q hs
 rcases q with q|q
 ·exact h value slice pins s σ H x y v u Q I rx ry q hs
 ·exact h' value slice pins s σ H x y v u Q I rx ry q hs
theorem aRq(hr:IxR X r)(ha:PE X a ta)(hb:PE X b tb)(hs:aKd b):PE X (.Subscript a b pos) (tOp r ta tb):=by
 intro pins s σ H Q I h
 exact Subscript_ (aP4 ha hb I h λv u s2 x y H2 I2 rx ry q=>hr a b pins s2 σ H2 x y v u Q I2 rx ry q (hs _ _))
def aRr(K:W.Frag):R2:=λx y H Q=>∃p xs i v,x=.ref p/\y=.int i/\bV K H p xs/\mC xs i=some v/\Q v H
def aRs(K:W.Frag):R2:=λx y H Q=>∃p xs i v,x=.ref p/\y=.int i/\kQ K H p xs/\mC xs i=some v/\Q v H
def aRt:R2:=λx y H Q=>∃z i c,x=.str z/\y=.int i/\z.length<=sizeLine/\mC z.cps.toList i=some c/\Q (.str ⟨#[c]⟩) H
theorem aN4:IxR X (aRr X.K):=by
 intro value slice pins s σ H x y v u Q I rx ry h hs
 obtain⟨p,xs,i,z,rfl,rfl,hq,he,q⟩:=h
 cases rx
 obtain⟨t,rfl⟩:=ry
 obtain⟨its,r,pl,hz⟩:=I.list hq
 obtain⟨j,h1,h2,h3,h4,h5⟩:=aGD he
 obtain⟨w,ew,rw'⟩:=r.get h2
 have hl:=r.length
 have hn:=aCB
 have fin:EP X pins σ Q w s:=⟨z,H,I,rw',q⟩
 by_cases h0:0<=i
 ·have hj:i.toNat=j:=by
   rw[seqIndex_of h0 h5] at h1
   exact Option.some.inj h1
  exact item_listR pl.isList h0 (by omega) (by rw[hj];simpa using ew) fin hs
 ·have hj:(i+(its.toArray.size:Int)).toNat=j:=by
   rw[seqIndex_neg (by omega) h4] at h1
   rw[lX,<-hl]
   exact Option.some.inj h1
  exact subscriptTail_builtinR (x:=w) pl.isList.typeIs slot_list_getitem.lookup
   (wpAny_getItem_list_neg (Q:=λr s'=>r=w/\EP X pins σ Q r s') pl.isList (by omega) (by rw[lX] <;> omega) (by omega) (by rw[hj];simpa using ew) ⟨rfl,fin⟩) hs
theorem aQd:IxR X (aRs X.K):=by
 intro value slice pins s σ H x y v u Q I rx ry h hs
 obtain⟨p,xs,i,z,rfl,rfl,hq,he,q⟩:=h
 cases rx
 obtain⟨t,rfl⟩:=ry
 obtain⟨its,r,pl,hz⟩:=I.tuple hq
 obtain⟨j,h1,h2,h3,h4,h5⟩:=aGD he
 obtain⟨w,ew,rw'⟩:=r.get h2
 have hl:=r.length
 have hn:=aCB
 have fin:EP X pins σ Q w s:=⟨z,H,I,rw',q⟩
 exact subscriptTail_builtinR (x:=w) pl.typeIs slot_tuple_getitem.lookup
  (getItem_tuple (j:=j) (Q:=λr s'=>r=w/\EP X pins σ Q r s') pl (by omega) (by omega) (by rw[lX,<-hl];exact h1) (by simpa using ew) ⟨rfl,fin⟩) hs
theorem aQe:IxR X aRt:=by
 intro value slice pins s σ H x y v u Q I rx ry h hs
 obtain⟨z,i,c,rfl,rfl,hz,he,q⟩:=h
 obtain⟨t,rfl⟩:=rx
 obtain⟨t',rfl⟩:=ry
 obtain⟨j,h1,h2,h3,h4,h5⟩:=aGD he
 have hl:z.cps.toList.length=z.length:=by simp[Str.length]
 rw[hl] at h1 h4 h5
 have hn:=aCB
 exact tail_any (typeIs_str s z t) slot_str_getitem.lookup (getItem_str (c:=c) (by
  have e1:decide (i < -(2 ^ 63:Int))=false:=decide_eq_false (by omega)
  have e2:decide (i ≥ 2 ^ 63)=false:=decide_eq_false (by omega)
  rw[e1,e2,Bool.or_false]) (by rw[h1];simpa using h2) ⟨.str ⟨#[c]⟩,H,I.tok _,⟨_,rfl⟩,q⟩) hs
def rIx(K:W.Frag):R2:=λx y H Q=>aRr K x y H Q\/aRs K x y H Q\/aRt x y H Q
theorem aQf:IxR X (rIx X.K):=aN4.or (aQd.or aQe)
theorem aJk(its:List Value)(n j:Nat)(u:Value):Obj.mapSeq (·.setIfInBounds j u) { cls:=.type "list",data:=.seq its.toArray n } = { cls:=.type "list",data:=.seq (its.set j u).toArray n }:=by
 simp[Obj.mapSeq]
theorem Inv.lst{pins:List (Addr×Obj)}{σ:St}{H:Hp}{s:Shared}{p:Addr}{xs:List V}(I:Inv X pins σ H s)(h:H p=some (.lst xs)) :
  ∃(its:List Value) (n:Nat),Vals xs its/\s.heap.get? p=some { cls:=.type "list",data:=.seq its.toArray n }/\xs.length<=sizeLine:=by
 obtain⟨z,its,n,r,e⟩:=I.hok p _ h
 exact⟨its,n,r,e,z⟩
theorem Inv.aQg{s:Shared}{ys:List V}{its its':List Value}{n n':Nat}{f:Obj->Obj}(I:Inv X pins σ H s)(h:H p=some (.lst xs))(ho:s.heap.get? p=some { cls:=.type "list",data:=.seq its.toArray n })(hf:f { cls:=.type "list",data:=.seq its.toArray n } = { cls:=.type "list",data:=.seq its'.toArray n' })(r:Vals ys its')(hz:ys.length<=sizeLine)(t:Nat) :
  Inv X pins σ (upd H p (.lst ys)) { s with heap:=s.heap.update p f,toks:=t }:=by
 have e:(s.heap.update p f).get? p=some { cls:=.type "list",data:=.seq its'.toArray n' }:=by
  rw[Sl9 f ho (by rw[hf] <;> rfl),hf]
 refine I.write (x:=p) (e:=p) (by rw[h];trivial) (.inl rfl) (λb u hb q=>(Tm9 _ _ (Ne.symm hb)).trans q) ⟨_,e⟩ ?_
 exact⟨hz,its',n',r,e⟩
def aPi:V->V->V->Hp->(Hp->Prop)->Prop:=λo i v H Q=>∃p xs k j,o=.ref p/\i=.int k/\H p=some (.lst xs)/\ixN xs.length k=some j/\Q (upd H p (.lst (xs.set j v)))
theorem set_list:aLQ X aPi:=by
 intro pins s σ H o i v ov iv u Q I ro ri rv h
 obtain⟨p,xs,k,j,rfl,rfl,hp,hj,q⟩:=h
 cases ro
 obtain⟨t,rfl⟩:=ri
 obtain⟨its,n,r,ho,hz⟩:=I.lst hp
 obtain⟨h1,h2,h3,h4⟩:=aKc hj
 have hl:=r.length
 have hn:=aCB
 have I':Inv X pins σ (upd H p (.lst (xs.set j v))) { s with heap:=s.heap.update p (Obj.mapSeq (·.setIfInBounds j u)) }:=
  I.aQg hp ho (aJk its n j u) (r.set rv j) (by rw[Sv9];exact hz) s.toks
 by_cases h0:0<=k
 ·have hk:k.toNat=j:=by
   rw[seqIndex_of h0 h4] at h1
   exact Option.some.inj h1
  exact PySem.W.ki_setAt ho h0 (by omega) (by rw[lX,<-hl];exact h4) (by rw[hk];exact⟨_,I',q⟩)
 ·have hk:(k+(its.toArray.size:Int)).toNat=j:=by
   rw[seqIndex_neg (by omega) h3] at h1
   rw[lX,<-hl]
   exact Option.some.inj h1
  exact PySem.W.ki_setBack ho (by omega) (by rw[lX,<-hl];exact h3) (by omega) (by rw[hk];exact⟨_,I',q⟩)
theorem aGE(lo hi:Option Int)(n:Nat):(sliceBounds lo hi none n).1=((HT.oJ n 0 lo:Nat):Int)/\(sliceBounds lo hi none n).2.1=((HT.oJ n n hi:Nat):Int)/\(sliceBounds lo hi none n).2.2=1:=by
 refine⟨?_,?_,rfl⟩
 ·cases lo with
  |none=>simp[sliceBounds,HT.oJ]
  |some i=>
   simp only[sliceBounds,HT.oJ,Option.getD_none,show(1:Int) > 0 by decide,if_true]
   by_cases h:i < 0
   ·simp only[h,if_true] <;> omega
   ·simp only[h,if_false] <;> omega
 ·cases hi with
  |none=>simp[sliceBounds,HT.oJ]
  |some i=>
   simp only[sliceBounds,HT.oJ,Option.getD_none,show(1:Int) > 0 by decide,if_true]
   by_cases h:i < 0
   ·simp only[h,if_true] <;> omega
   ·simp only[h,if_false] <;> omega
theorem aFl(its:List Value)(lo hi:Option Int):slicePick its.toArray lo hi none=((its.drop (HT.oJ its.length 0 lo)).take (HT.oJ its.length its.length hi - HT.oJ its.length 0 lo)).toArray:=by
 obtain⟨h1,h2,h3⟩:=aGE lo hi its.toArray.size
 unfold slicePick
 rw[h1,h2,h3]
 simp only[sliceRange_one,pick_run,lX] <;> rfl
def aRu(K:W.Frag):V->Option Int->Option Int->Hp->VK->Prop:=λx lo hi H Q=>∃a xs,x=.ref a/\bV K H a xs/\∀p,H p=none->Q (.ref p) (upd H p (.lst (rX xs lo hi)))
theorem aN5:SlR X (aRu X.K):=by
 intro pins s σ H x v vl vu lo hi sl Q I rx hs pl pu h
 obtain⟨a,xs,rfl,hx,q⟩:=h
 cases rx
 obtain⟨its,r,ht,hz⟩:=I.list hx
 have hlen:=r.length
 refine⟨"list",_,slot_list_getitem.lookup,ht.isList.typeIs,?_⟩
 refine wpAny_getItem_list_slice ht.isList hs pl pu .none (by simp) ?_ (by rw[lX] <;> omega)
 rw[aFl,<-hlen]
 refine⟨.ref s.heap.objs.size,_,I.laid (t':=s.toks) (o:=.lst (rX xs lo hi)) (λb ob q=>kO _ q) (gB _) ?_,rfl,q _ (I.hok.fresh (gB _))⟩
 exact⟨Rp9 (gC xs lo hi) hz,_,0,(r.drop (HT.oJ xs.length 0 lo)).take (HT.oJ xs.length xs.length hi - HT.oJ xs.length 0 lo),yL _ rfl⟩
def yQ:V->Bool
 |.non=>true
 |.bl _=>true
 |.int _=>true
 |.str _=>true
 |_=>false
def eqV:V->V->Bool
 |.non,.non=>true
 |.bl a,.bl b=>a == b
 |.bl a,.int b=>(if a then 1 else 0) == b
 |.int a,.bl b=>a == (if b then 1 else 0)
 |.int a,.int b=>a == b
 |.str a,.str b=>a == b
 |_,_=>false
theorem aMa(ry:RelV y u)(rx:RelV x v)(fy:yQ y=true)(fx:yQ x=true):SeqAt.EqAt A s u v (eqV y x):=by
 cases y with
 |non=>
  cases ry
  cases x with
  |non=>cases rx;exact SeqAt.EqAt.same _
  |bl b=>cases rx;exact SeqAt.EqAt.none_bool b
  |int b=>obtain⟨t,rfl⟩:=rx;exact SeqAt.EqAt.none_int b t
  |str b=>obtain⟨t,rfl⟩:=rx;exact SeqAt.EqAt.none_str b t
  |_=>exact absurd (show false=true from fx) Qr9
 |bl a=>
  cases ry
  cases x with
  |non=>cases rx;exact SeqAt.EqAt.bool_none a
  |bl b=>cases rx;exact SeqAt.EqAt.bool_bool a b
  |int b=>obtain⟨t,rfl⟩:=rx;exact SeqAt.EqAt.bool_int a b t
  |str b=>obtain⟨t,rfl⟩:=rx;exact SeqAt.EqAt.bool_str a b t
  |_=>exact absurd (show false=true from fx) Qr9
 |int a=>
  obtain⟨t',rfl⟩:=ry
  cases x with
  |non=>cases rx;exact SeqAt.EqAt.int_none a t'
  |bl b=>cases rx;exact SeqAt.EqAt.int_bool a t' b
  |int b=>obtain⟨t,rfl⟩:=rx;exact SeqAt.EqAt.int_int a t' b t
  |str b=>obtain⟨t,rfl⟩:=rx;exact SeqAt.EqAt.int_str a t' b t
  |_=>exact absurd (show false=true from fx) Qr9
 |str a=>
  obtain⟨t',rfl⟩:=ry
  cases x with
  |non=>cases rx;exact SeqAt.EqAt.str_none a t'
  |bl b=>cases rx;exact SeqAt.EqAt.str_bool a t' b
  |int b=>obtain⟨t,rfl⟩:=rx;exact SeqAt.EqAt.str_int a t' b t
  |str b=>obtain⟨t,rfl⟩:=rx;exact SeqAt.EqAt.str_str a t' b t
  |_=>exact absurd (show false=true from fx) Qr9
 |_=>exact absurd (show false=true from fy) Qr9
theorem aGF:eC X (.type "list") (λxs H Q=>∃p ys,xs=[.ref p]/\(bV X.K H p ys\/kQ X.K H p ys)/\∀l,H l=none->Q (.ref l) (upd H l (.lst ys))):=by
 intro pins s σ H xs us Q I r h
 obtain⟨p,ys,rfl,hq,q⟩:=h
 obtain⟨u,rfl,rx⟩:=vals1 r
 cases rx
 have fin:∀(its:List Value),Vals ys its->ys.length<=sizeLine->∀(h':Heap) (c':Nat),(∀b o',s.heap.get? b=some o'->h'.get? b=some o')->
   h'.get? s.heap.objs.size=some { cls:=.type "list",dict:=none,data:=.seq its.toArray c',slots:=#[] }->EP X pins σ Q (.ref s.heap.objs.size) { s with heap:=h' }:=λits r' hz h' c' kp e=>
  ⟨.ref s.heap.objs.size,_,I.laid (t':=s.toks) kp (gB _) (show cE X.prog X.w _ h' _ (.lst ys) from⟨hz,its,c',r',e⟩),rfl,q _ (I.hok.fresh (gB _))⟩
 rcases hq with hq|hq
 ·obtain⟨its,r',pl,hz⟩:=I.list hq
  have hlen:=r'.length
  obtain⟨o,ho,hc,n,hd⟩:=pl.isList
  exact call_list_seq p (.inl rfl) ho hc hd (λh' c' kp e=>fin its r' hz h' c' kp e) (by simp only[lX] <;> omega)
 ·obtain⟨its,r',pl,hz⟩:=I.tuple hq
  have hlen:=r'.length
  obtain⟨o,ho,hc,n,hd⟩:=pl
  exact call_list_seq p (.inr rfl) ho hc hd (λh' c' kp e=>fin its r' hz h' c' kp e) (by simp only[lX] <;> omega)
theorem aFm:eC X (.type "tuple") (λxs H Q=>∃p ys,xs=[.ref p]/\((bV X.K H p ys/\∀l,H l=none->Q (.ref l) (upd H l (.tup ys)))\/(kQ X.K H p ys/\Q (.ref p) H))):=by
 intro pins s σ H xs us Q I r h
 obtain⟨p,ys,rfl,h⟩:=h
 obtain⟨u,rfl,rx⟩:=vals1 r
 cases rx
 rcases h with ⟨hq,q⟩|⟨hq,q⟩
 ·obtain⟨its,r',pl,hz⟩:=I.list hq
  have hlen:=r'.length
  refine call_tuple_list pl.isList (λh' kp=>?_) (by simp only[lX] <;> omega)
  have I1:Inv X pins σ H { s with heap:=h' }:=I.kept (t':=s.toks) kp
  have I2:Inv X pins σ (upd H h'.objs.size (.tup ys)) { s with heap:=h'.push { cls:=.type "tuple",data:=.seq its.toArray } }:=
   I1.laid (t':=s.toks) (λb o e=>kO _ e) (gB _) (show cE X.prog X.w _ _ _ (.tup ys) from⟨hz,its,r',IsTup.new _ _⟩)
  exact⟨.ref h'.objs.size,_,I2,rfl,q _ (I1.hok.fresh (gB _))⟩
 ·obtain⟨its,r',pl,hz⟩:=I.tuple hq
  exact call_tuple_same pl ⟨.ref p,H,I,rfl,q⟩
def tyV(K:W.Frag)(T:String)(x:V)(H:Hp):Prop:=match x with
 |.str _=>T = "str"
 |.int _=>T = "int"
 |.ref p=>(T = "list"/\∃xs,bV K H p xs)\/(T = "tuple"/\∃o,K.lookup p=some o/\o.cls=.type "tuple"/\o.dict=none)\/
   (T = "dict"/\((∃kvs,H p=some (.dK kvs))\/∃kvs,H p=some (.dT kvs)))\/(T = "set"/\∃S n,H p=some (.set S n))
 |_=>False
theorem aQh{s:Shared}(I:Inv X pins σ H s)(r:RelV x v)(ty:tyV X.K T x H) :
  s.TypeIs v T/\∀a,v=.ref a->∃ob,s.heap.get? a=some ob/\ob.dict=none:=by
 cases x with
 |str z=>
  obtain⟨t,rfl⟩:=r
  cases (show T = "str" from ty)
  exact⟨typeIs_str s z t,λ_ e=>nomatch e⟩
 |int i=>
  obtain⟨t,rfl⟩:=r
  cases (show T = "int" from ty)
  exact⟨typeIs_int s i t,λ_ e=>nomatch e⟩
 |ref p=>
  cases r
  rcases ty with ⟨rfl,xs,hq⟩|⟨rfl,o,hk,hc,hd⟩|⟨rfl,hk⟩|⟨rfl,S,n,hk⟩
  ·obtain⟨its,_,pl,_⟩:=I.list hq
   refine⟨pl.isList.typeIs,λa e=>?_⟩
   cases e
   obtain⟨o,n,e,c,hd,_⟩:=pl
   exact⟨o,e,hd⟩
  ·refine⟨⟨o,I.kIn p o hk,hc⟩,λa e=>?_⟩
   cases e
   exact⟨o,I.kIn _ o hk,hd⟩
  ·have z:∃o,s.heap.get? p=some o/\o.ExactDict:=by
    rcases hk with ⟨kvs,hk⟩|⟨kvs,hk⟩
    ·obtain⟨_,_,_,_,o,_,_,e,ex,_⟩:=I.hok p _ hk
     exact⟨o,e,ex⟩
    ·obtain⟨_,_,_,_,o,_,_,e,ex,_⟩:=I.hok p _ hk
     exact⟨o,e,ex⟩
   obtain⟨o,e,ex⟩:=z
   refine⟨⟨o,e,ex.1⟩,λa e2=>?_⟩
   cases e2
   exact⟨o,e,ex.2.1⟩
  ·obtain⟨o,_,_,_,e,ex,_⟩:=I.hok p _ hk
   refine⟨⟨o,e,ex.1⟩,λa e2=>?_⟩
   cases e2
   exact⟨o,e,ex.2.1⟩
 |_=>exact False.elim ty
def tBM(K:W.Frag)(T:String)(r:V->List V->Hp->VK->Prop)(to:TE)(t:TA):TE:=λσ H Q=>to σ H λx H1=>tyV K T x H1/\t σ H1 λxs H2=>r x xs H2 Q
variable{o e:Expr}{es:List Expr}{to:TE}{t:TA}{name:Str}{apos cpos:Pos}{T id:String}{r:V->List V->Hp->VK->Prop}
theorem aPj(pa:PlainAttrs T)(slot:Slot T name id)(hty:typeOf (.builtin id)=pure (.type "method_descriptor"))(hm:MtR X id r)(ho:PE X o to)(ha:PA X (e::es) t)
  (hbase:attributeBase o name X.env (eval o X.env)=eval o X.env:=by rfl)
  (hfew:((backTo cpos (starEach (e::es) X.env)).all (λx=>!x.1) && (backToKw cpos (keywordEach [] X.env)).all (λx=>x.1.isSome)
   && decide ((e::es).length+([]:List Keyword).length+(if ([]:List Keyword).isEmpty then 0 else 1) < 30))=true:=by rfl)
  (hline:(apos.endLine == cpos.line)=true:=by rfl) (hs:starEach (e::es) X.env=(false,eval e X.env)::starEach es X.env:=by rfl) (hplain:(backTo cpos (starEach es X.env)).any (·.1)=false:=by rfl) :
  PE X (.Call (.Attribute o name apos) (e::es) [] cpos) (tBM X.K T r to t):=by
 intro pins s σ H Q I h
 refine wpAny_Call_method_late hbase hfew hline rfl (dW (ho pins s σ H _ I h) λv s1 ⟨x,H1,I1,r1,ty,q1⟩=>?_)
 obtain⟨h1,h2⟩:=aQh I1 r1 ty
 refine⟨T,id,pa,slot,hty,h1,h2,?_⟩
 have hA:=ha cpos pins s1 σ H1 _ I1 q1
 rw[hs] at hA ⊢
 refine Calls.callWith_builtin (by show(false || (backTo cpos (starEach es X.env)).any (·.1))=false;rw[hplain] <;> rfl) (Calls.evalArgs_plain ?_)
 exact dW hA λus s2 ⟨vs,H2,I2,r2,q2⟩=>hm pins s2 σ H2 x vs v us Q I2 r1 r2 q2
end
end L2
namespace L2
open PySem PySem.Spec PyProof.Rows
def MtM(X:Cx)(id:String)(r:V->List V->Hp->VK->Prop):Prop:=
 ∀(pins:List (Addr×Obj)) (s:Shared) (σ:St) (H:Hp) (x:V) (xs:List V) (v:Value) (us:List Value) (Q:VK),Inv X pins σ H s->RelV x v->Vals xs us->r x xs H Q->
  wpAny (model X.prog X.w) X.A (call (.builtin id) (v::us)) (EP X pins σ Q) X.xe s
theorem Vals.one:∀{x:V}{us:List Value},Vals [x] us->∃u,us=[u]/\RelV x u
 |_,_,.cons r .nil=>⟨_,rfl,r⟩
theorem Vals.dropLast{xs:List V}{us:List Value}(h:Vals xs us):Vals xs.dropLast us.dropLast:=by
 induction h with
 |nil=>exact .nil
 |cons r t ih=>
  cases t with
  |nil=>exact .nil
  |cons q t'=>exact .cons r ih
theorem Vals.rep(h:Vals xs us):∀k:Nat,Vals (List.replicate k xs).flatten (List.replicate k us).flatten
 |0=>.nil
 |k+1=>by
  rw[Si9,Si9,To9,To9]
  exact Vals.append h (Vals.rep h k)
theorem foldl_rep(its:List Value):∀(k:Nat) (acc:List Value),
  List.foldl (λx1 x2=>x1++x2) acc.toArray (List.replicate k its.toArray)=(acc++(List.replicate k its).flatten).toArray
 |0,acc=>by simp
 |k+1,acc=>by
  have e:acc.toArray++its.toArray=(acc++its).toArray:=by simp
  have e2:(acc++its)++(List.replicate k its).flatten=acc++(List.replicate (k+1) its).flatten:=by
   rw[Si9,To9,Tp9]
  rw[<-e2,<-foldl_rep its k (acc++its),<-e,Si9,List.foldl_cons]
section
variable{X:Cx}{pins:List (Addr×Obj)}{σ:St}{H:Hp}{s:Shared}{l b:Addr}{xs ys zs:List V}
theorem Inv.aR6{its its':List Value}{n:Nat}{f:Array Value->Array Value}{t':Nat}(I:Inv X pins σ H s)(hH:H l=some (.lst xs))
  (e:s.heap.get? l=some { cls:=.type "list",data:=.seq its.toArray n }) (hf:f its.toArray=its'.toArray) (hv:Vals ys its') (hz:ys.length<=sizeLine) :
  Inv X pins σ (upd H l (.lst ys)) { s with heap:=s.heap.update l (Obj.mapSeq f),toks:=t' }:=by
 have q:=PySem.IsL.update e f
 rw[hf] at q
 refine I.write (x:=l) (e:=l) (by rw[hH];exact trivial) (.inl rfl) (λb' u hb hu=>(Tm9 s.heap (Obj.mapSeq f) (Ne.symm hb)).trans hu) ⟨_,q⟩ ?_
 exact⟨hz,its',_,hv,q⟩
theorem Inv.aRv{t':Nat}(I:Inv X pins σ H s)(hv:Vals ys its)(hz:ys.length<=sizeLine) :
  Inv X pins σ (upd H s.heap.objs.size (.lst ys)) { s with heap:=s.heap.push { cls:=.type "list",data:=.seq its.toArray },toks:=t' }:=
 I.laid (λ_ _ q=>kO _ q) (gB _) ⟨hz,its,0,hv,yL _ rfl⟩
theorem Inv.fresh(I:Inv X pins σ H s):H s.heap.objs.size=none:=I.hok.fresh (gB _)
theorem Inv.aMb(I:Inv X pins σ H s)(hH:H l=some (.lst xs)):xs.length<=sizeLine/\∃(its:List Value) (n:Nat),Vals xs its/\xs.length=its.length/\s.heap.get? l=some { cls:=.type "list",data:=.seq its.toArray n }:=by
 obtain⟨z,its,n,r,e⟩:=I.hok l _ hH
 exact⟨z,its,n,r,r.length,e⟩
theorem aMc{n:Nat}(h:n<=sizeLine):Builtin.List.listTooLong n=false:=by
 unfold Builtin.List.listTooLong
 exact decide_eq_false (by omega)
end
section
variable{X:Cx}
def aD1:V->List V->Hp->VK->Prop:=λx vs H Q=>∃l xs y,x=.ref l/\vs=[y]/\H l=some (.lst xs)/\xs.length < sizeLine/\Q .non (upd H l (.lst (xs ++ [y])))
theorem aKX:MtM X "list.append" aD1:=by
 intro pins s σ H x vs v us Q I rx rv h
 obtain⟨l,xs,y,rfl,rfl,hH,hz,q⟩:=h
 cases rx
 obtain⟨u,rfl,ru⟩:=rv.one
 obtain⟨z,its,n,r,hl,e⟩:=I.aMb hH
 refine call_meets F.slot_list_append ⟨_,e,rfl⟩ F.entry_list_append (F.args_list_append_2 _ _) (PySem.list_append l its.toArray n u (by rw[lX];omega)) ⟨e,?_⟩
 refine⟨.non,_,I.aR6 (its':=its ++ [u]) hH e (by simp) (r.append (.cons ru .nil)) ?_,rfl,q⟩
 rw[oU,Qz9]
 omega
def aRw:R2:=λx y H Q=>∃l b xs zs,x=.ref l/\y=.ref b/\H l=some (.lst xs)/\H b=some (.lst zs)/\xs.length+zs.length<=sizeLine/\∀p,H p=none->Q (.ref p) (upd H p (.lst (xs++zs)))
theorem aQi:yP X (binaryOp .Add) aRw:=by
 intro pins s σ H x y v u Q I rx ry h
 obtain⟨l,b,xs,zs,rfl,rfl,hH,hB,hz,q⟩:=h
 cases rx
 cases ry
 obtain⟨z,its,n,r,hl,e⟩:=I.aMb hH
 obtain⟨z2,its2,n2,r2,hl2,e2⟩:=I.aMb hB
 refine PySem.P.add_list e e2 ?_ (by rw[lX,lX];omega)
 have ea:its.toArray++its2.toArray=(its++its2).toArray:=by simp
 rw[ea]
 exact⟨.ref _,_,I.aRv (t':=s.toks) (r.append r2) (by rw[oU];omega),rfl,q _ I.fresh⟩
def aRx:R2:=λx y H Q=>∃l k xs,x=.ref l/\y=.int k/\H l=some (.lst xs)/\-(2 ^ 63)<=k/\k < 2 ^ 63/\xs.length*k.toNat<=sizeLine/\
 ∀p,H p=none->Q (.ref p) (upd H p (.lst (List.replicate k.toNat xs).flatten))
theorem len_rep{α:Type}(xs:List α)(k:Nat):(List.replicate k xs).flatten.length=k*xs.length:=by
 induction k with
 |zero=>simp
 |succ k ih=>rw[Si9,To9,oU,ih,Nat.succ_mul,Nat.add_comm]
theorem aQj:yP X (binaryOp .Mult) aRx:=by
 intro pins s σ H x y v u Q I rx ry h
 obtain⟨l,k,xs,rfl,rfl,hH,h1,h2,hz,q⟩:=h
 cases rx
 obtain⟨t,rfl⟩:=ry
 obtain⟨z,its,n,r,hl,e⟩:=I.aMb hH
 have hlen:its.toArray.size*k.toNat<=sizeLine:=by rw[lX,<-hl];exact hz
 have hcap:¬its.toArray.size*k.toNat > (2 ^ 63 - 1) / 8:=by
  have:(sizeLine:Nat)<=(2 ^ 63 - 1) / 8:=by decide
  omega
 have hfit:¬(!Builtin.List.listFitsIndex k)=true:=by
  rw[fitsIndex_both h1 h2]
  exact Qr9
 have hlong:¬Builtin.List.listTooLong (its.toArray.size*k.toNat)=true:=by
  rw[aMc hlen]
  exact Qr9
 have hnew:List.foldl (λx1 x2=>x1++x2) #[] (List.replicate (if its.toArray.isEmpty=true then 0 else k.toNat) its.toArray)=(List.replicate k.toNat its).flatten.toArray:=by
  have f0:∀m:Nat,List.foldl (λx1 x2=>x1++x2) #[] (List.replicate m its.toArray)=(List.replicate m its).flatten.toArray:=λm=>by
   have:=foldl_rep its m []
   rw[List.nil_append] at this
   exact this
  rw[f0]
  cases its with
  |nil=>simp
  |cons a r'=>rw[if_neg (by simp)]
 refine wpAny_binaryOp_repeat_ref (T:="list") (U:="int") (by decide) ⟨_,e,rfl⟩ (λs'=>typeIs_int s' k t) noFill_list_mul F.fills_int_mul F.slot_int_rmul repeat_list F.slot_int_index.lookup
  (call_meets F.slot_int_rmul (typeIs_int s k t) F.entry_int_rmul (F.args_int_rmul_2 _ _) (int___rmul___int_list k t l its.toArray n)
   ⟨e,rfl,⟨_,e,rfl⟩,call_meets F.slot_list_mul ⟨_,e,rfl⟩ F.entry_list_mul (F.args_list_mul_2 _ _) (AutoListH.list___mul___list_int_3 l its.toArray n k t hfit hcap hlong) ⟨e,?_⟩⟩)
 rw[hnew]
 exact⟨.ref _,_,I.aRv (t':=s.toks) (r.rep k.toNat) (by rw[len_rep,Nat.mul_comm];exact hz),rfl,q _ I.fresh⟩
end
section
variable{prog:Program}{w:World}{A:Around}{E:Value->Shared->Prop}{s:Shared}
end
section
variable{X:Cx}
end
end L2
namespace L2
open PySem PySem.Spec PyProof.Rows
section
variable{κ:Type}[DecidableEq κ]
def u9(kvs:List (κ×V))(k:κ):Option V:=(kvs.find? λkv=>decide (kv.1=k)).map (·.2)
def putK(kvs:List (κ×V))(k:κ)(v:V):List (κ×V):=
 if (kvs.any λkv=>decide (kv.1=k))=true then kvs.map (λkv=>if kv.1=k then (kv.1,v) else kv) else kvs ++ [(k,v)]
theorem oK{p:κ×V}(e:p.1=k):u9 (p::r) k=some p.2:=by simp[u9,Rt9,e]
theorem kR{p:κ×V}(e:¬p.1=k):u9 (p::r) k=u9 r k:=by simp[u9,Rt9,e]
theorem aBJ(k:κ):∀kvs:List (κ×V),(kvs.any λkv=>decide (kv.1=k))=(u9 kvs k).isSome
 |[]=>rfl
 |p::r=>by
  rw[List.any_cons]
  by_cases e:p.1=k
  ·simp only[oK e,decide_eq_true e,Bool.true_or,Option.isSome_some]
  ·rw[kR e,decide_eq_false e,Bool.false_or];exact aBJ k r
theorem yR(k j:κ)(y:V):∀kvs:List (κ×V),u9 (kvs.map λkv=>if kv.1=k then (kv.1,y) else kv) j=(u9 kvs j).map λx=>if j=k then y else x
 |[]=>rfl
 |p::r=>by
  have ih:=yR k j y r
  rw[Rh9]
  by_cases h:p.1=k
  ·rw[if_pos h]
   by_cases e:p.1=j
   ·rw[oK (p:=(p.1,y)) e,oK e,Option.map_some,if_pos (e.symm.trans h)]
   ·rw[kR (p:=(p.1,y)) e,kR e,ih]
  ·rw[if_neg h]
   by_cases e:p.1=j
   ·rw[oK (p:=p) e,oK e,Option.map_some,if_neg (λz=>h (e.trans z))]
   ·rw[kR (p:=p) e,kR e,ih]
theorem yS(kvs:List (κ×V))(k:κ)(v:V):(putK kvs k v).length<=kvs.length+1:=by
 unfold putK
 split
 ·rw[bP];omega
 ·rw[oU,Ra9,Tz9];omega
theorem aD8{kvs:List (κ×V)}{k:κ}(v:V)(h:u9 kvs k=none):putK kvs k v=kvs ++ [(k,v)]:=by
 unfold putK
 rw[aBJ,h]
 exact if_neg (by decide)
theorem yG.aKY{o:Option V}{u:Option Value}(r:yG o u):o.isSome=u.isSome:=by
 cases o with
 |none=>cases u with
  |none=>rfl
  |some _=>exact(show False from r).elim
 |some _=>cases u with
  |none=>exact(show False from r).elim
  |some _=>rfl
theorem yG.getD{o:Option V}{u:Option Value}(r:yG o u)(rd:RelV d d'):RelV (o.getD d) (u.getD d'):=by
 cases o with
 |none=>cases u with
  |none=>exact rd
  |some _=>exact(show False from r).elim
 |some _=>cases u with
  |none=>exact(show False from r).elim
  |some _=>exact r
theorem KV.val(r:KV kvs vs)(k:κ):yG (u9 kvs k) (valueAt vs k):=by
 unfold KV at r
 induction r with
 |nil=>exact True.intro
 |@cons p q ps qs h t ih=>
  obtain⟨h1,h2⟩:=h
  by_cases e:p.1=k
  ·have e':q.1=k:=h1.symm.trans e
   have b:valueAt (q::qs) k=some q.2:=by simp[valueAt,Rt9,e']
   rw[oK e,b];exact h2
  ·have e':¬q.1=k:=λz=>e (h1.trans z)
   have b:valueAt (q::qs) k=valueAt qs k:=by simp[valueAt,Rt9,e']
   rw[kR e,b];exact ih
theorem KV.any{kvs:List (κ×V)}{vs:List (κ×Value)}(r:KV kvs vs)(k:κ):(kvs.any λkv=>decide (kv.1=k))=vs.any λkv=>decide (kv.1=k):=by
 unfold KV at r
 induction r with
 |nil=>rfl
 |cons h t ih=>rw[List.any_cons,List.any_cons,ih,h.1]
theorem KV.aQk{kvs:List (κ×V)}{vs:List (κ×Value)}(r:KV kvs vs)(k:κ)(ry:RelV y u) :
  KV (kvs.map λkv=>if kv.1=k then (kv.1,y) else kv) (vs.map λkv=>if kv.1=k then (kv.1,u) else kv):=by
 unfold KV at r ⊢
 induction r with
 |nil=>exact .nil
 |@cons p q ps qs h t ih=>
  rw[Rh9,Rh9]
  refine .cons ?_ ih
  obtain⟨h1,h2⟩:=h
  by_cases e:p.1=k
  ·rw[if_pos e,if_pos (h1.symm.trans e)];exact⟨h1,ry⟩
  ·rw[if_neg e,if_neg (λz=>e (h1.trans z))];exact⟨h1,h2⟩
theorem KV.put(r:KV kvs vs)(k:κ)(ry:RelV y u):KV (putK kvs k y) (stored vs k u):=by
 unfold putK stored
 rw[r.any k]
 by_cases e:(vs.any λkv=>decide (kv.1=k))=true
 ·rw[if_pos e,if_pos e];exact r.aQk k ry
 ·rw[if_neg e,if_neg e];exact Paired.snoc r ⟨rfl,ry⟩
theorem KV.length{kvs:List (κ×V)}{vs:List (κ×Value)}(r:KV kvs vs):kvs.length=vs.length:=Paired.length r
end
theorem aKe(r:RelV (kV k) u):(eV P w).is k u=true:=by
 cases k with
 |inl i=>obtain⟨t,e⟩:=(show ∃t,u=Value.int i t from r);subst e;exact aHL P w i t
 |inr x=>obtain⟨t,e⟩:=(show ∃t,u=Value.str x t from r);subst e;exact aHM P w x t
theorem aGb:∀{ks:List Key}{us:List Value},Vals (ks.map kV) us->ItemsAre (eV P w) ks us
 |[],_,r=>by rw[Tt9] at r;cases r;exact .nil
 |k::ks,_,r=>by
  rw[Rh9] at r
  cases r with
  |cons h t=>exact .cons (aKe h) (aGb t)
abbrev KT(H:Hp):List (List Key×V)->List (List Key×Addr×Value)->Prop:=Paired λp q=>p.1=q.1/\H q.2.1=some (.tup (p.1.map kV))/\RelV p.2 q.2.2
theorem KT.val(r:KT H kvs xs)(k:List Key):yG (u9 kvs k) ((atKey xs k).map (·.2)):=by
 induction r with
 |nil=>exact True.intro
 |@cons p q ps qs h t ih=>
  obtain⟨h1,_,h2⟩:=h
  by_cases e:p.1=k
  ·have e':q.1=k:=h1.symm.trans e
   have b:atKey (q::qs) k=some q.2:=by simp[atKey,Rt9,e']
   rw[oK e,b];exact h2
  ·have e':¬q.1=k:=λz=>e (h1.trans z)
   have b:atKey (q::qs) k=atKey qs k:=by simp[atKey,Rt9,e']
   rw[kR e,b];exact ih
theorem KT.aQk{kvs:List (List Key×V)}{xs:List (List Key×Addr×Value)}(r:KT H kvs xs)(k:List Key)(ry:RelV y u) :
  KT H (kvs.map λkv=>if kv.1=k then (kv.1,y) else kv) (xs.map (putAt k u)):=by
 induction r with
 |nil=>exact .nil
 |@cons p q ps qs h t ih=>
  rw[Rh9,Rh9]
  refine .cons ?_ ih
  obtain⟨h1,h2,h3⟩:=h
  unfold putAt
  by_cases e:p.1=k
  ·rw[if_pos e,if_pos (h1.symm.trans e)];exact⟨h1,h2,ry⟩
  ·rw[if_neg e,if_neg (λz=>e (h1.trans z))];exact⟨h1,h2,h3⟩
theorem KT.put(r:KT H kvs xs)(k:List Key)(hb:H b=some (.tup (k.map kV)))(ry:RelV y u) :
  KT H (putK kvs k y) (storedH xs k b u):=by
 have e:(kvs.any λkv=>decide (kv.1=k))=(atKey xs k).isSome:=by
  rw[aBJ,(r.val k).aKY,Option.isSome_map]
 unfold putK storedH
 rw[e]
 by_cases q:(atKey xs k).isSome=true
 ·rw[if_pos q,if_pos q];exact r.aQk k ry
 ·rw[if_neg q,if_neg q];exact Paired.snoc r ⟨rfl,hb,ry⟩
theorem KT.keeps{H H':Hp}(r:KT H kvs xs)(ht:∀b ys,H b=some (.tup ys)->H' b=some (.tup ys)):KT H' kvs xs:=
 Paired.aPz r λ_ _ z=>⟨z.1,ht _ _ z.2.1,z.2.2⟩
section
variable{P:Program}{w:World}{H:Hp}{h:Heap}{a:Addr}
theorem aPk(ok:yH P w H h)(e:Rd H a u):cE P w H h a u:=e.ok ok
theorem aHY{kvs:List (Key×V)}(ok:yH P w H h)(e:Rd H a (.dK kvs)):kvs.length<=sizeLine/\(a == sysModules)=false/\∃vs,KV kvs vs/\h.DictOf (eV P w) a vs:=
 show cE P w H h a (.dK kvs) from aPk ok e
theorem aRy{kvs:List (Key×V)}(ok:yH P w H h)(e:H a=some (.dK kvs)):kvs.length<=sizeLine/\(a == sysModules)=false/\∃vs,KV kvs vs/\h.DictOf (eV P w) a vs:=aHY ok (.inl e)
theorem aD9{ks:List Key}(ok:yH P w H h)(e:H a=some (.tup (ks.map kV))):(tupleKind (eV P w)).is h ks a:=by
 obtain⟨_,its,r,o,h1,h2,n,h3⟩:=(show cE P w H h a (.tup (ks.map kV)) from ok a _ e)
 exact⟨o,its.toArray,n,h1,h2,h3,by simpa using aGb r⟩
theorem aHZ{kvs:List (List Key×V)}(ok:yH P w H h)(e:Rd H a (.dT kvs)):kvs.length<=sizeLine/\(a == sysModules)=false/\
  ∃xs,KT H kvs xs/\h.DictOfH (tupleKind (eV P w)) a xs:=by
 obtain⟨z,y,xs,r,o,es,ep,h1,h2,h3,h4,h5⟩:=(show cE P w H h a (.dT kvs) from aPk ok e)
 refine⟨z,y,xs,r,o,es,ep,h1,h2,h3,h4,λx hx=>?_,h5⟩
 have all:∀{l:List (List Key×V)} {m:List (List Key×Addr×Value)},KT H l m->∀x∈m,(tupleKind (eV P w)).is h x.1 x.2.1:=by
  intro l m q
  induction q with
  |nil=>intro x hx;exact nomatch hx
  |@cons p q ps qs hq t ih=>
   intro x hx
   rcases yF.mp hx with e|hx
   ·subst e
    exact aD9 ok (by rw[<-hq.1];exact hq.2.1)
   ·exact ih x hx
 exact all r x hx
theorem aPl{kvs:List (List Key×V)}(ok:yH P w H h)(e:H a=some (.dT kvs)):kvs.length<=sizeLine/\(a == sysModules)=false/\
  ∃xs,KT H kvs xs/\h.DictOfH (tupleKind (eV P w)) a xs:=aHZ ok (.inl e)
end
def yT(H:Hp)(a:Addr)(y:V)(r:Option V):Prop:=
 (∃kvs k,Rd H a (.dK kvs)/\y=kV k/\r=u9 kvs k)\/∃kvs k b,Rd H a (.dT kvs)/\y=.ref b/\H b=some (.tup (k.map kV))/\r=u9 kvs k
def aEa(H:Hp)(a:Addr)(y v:V)(H':Hp):Prop:=
 (∃kvs k,H a=some (.dK kvs)/\y=kV k/\kvs.length < sizeLine/\H'=upd H a (.dK (putK kvs k v)))\/
 ∃kvs k b,H a=some (.dT kvs)/\y=.ref b/\H b=some (.tup (k.map kV))/\kvs.length < sizeLine/\H'=upd H a (.dT (putK kvs k v))
theorem yT.k{H:Hp}{a:Addr}{kvs:List (Key×V)}{k:Key}(e:H a=some (.dK kvs)):yT H a (kV k) (u9 kvs k):=.inl ⟨kvs,k,.inl e,rfl,rfl⟩
theorem yT.t{H:Hp}{a b:Addr}{kvs:List (List Key×V)}{k:List Key}(e:H a=some (.dT kvs))(eb:H b=some (.tup (k.map kV))):yT H a (.ref b) (u9 kvs k):=.inr ⟨kvs,k,b,.inl e,rfl,eb,rfl⟩
theorem aEa.k{H:Hp}{a:Addr}{kvs:List (Key×V)}{k:Key}{v:V}(e:H a=some (.dK kvs))(hl:kvs.length < sizeLine):aEa H a (kV k) v (upd H a (.dK (putK kvs k v))):=.inl ⟨kvs,k,e,rfl,hl,rfl⟩
theorem aEa.t{H:Hp}{a b:Addr}{kvs:List (List Key×V)}{k:List Key}{v:V}(e:H a=some (.dT kvs))(eb:H b=some (.tup (k.map kV)))(hl:kvs.length < sizeLine) :
  aEa H a (.ref b) v (upd H a (.dT (putK kvs k v))):=.inr ⟨kvs,k,b,e,rfl,eb,hl,rfl⟩
section
variable{X:Cx}{pins:List (Addr×Obj)}{σ:St}{H:Hp}{s:Shared}{a:Addr}{y v:V}{u r:Value}{o:Option V}{A:Around}{E:Value->Shared->Prop}
theorem Inv.big(I:Inv X pins σ H s):sysModules < s.heap.objs.size:=by
 have h:mainGlobals < s.heap.objs.size:=(I.mod.glob.keeps I.bk).lt
 exact Nat.lt_trans (by decide) h
theorem aKZ{Q:Value->Shared->Prop}(hu:A.units+1 < cLine)(I:Inv X pins σ H s)(g:yT H a y (some v))(ry:RelV y u)(h:∀w' s',Inv X pins σ H s'->RelV v w'->Q w' s') :
  wpAny (model X.prog X.w) A (getItem (.ref a) u) Q E s:=by
 rcases g with ⟨kvs,k,e,ey,l⟩|⟨kvs,k,b,e,ey,eb,l⟩
 ·subst ey
  obtain⟨z,hd,vs,rel,dd⟩:=aHY I.hok e
  obtain⟨w',hw,rw'⟩:=yG.some_of (v:=v) (o:=valueAt vs k) (by rw[l];exact rel.val k)
  exact wpAny_getItem_of (aKe ry) dd.mapOf hw (h w' _ (I.tok _) rw')
 ·subst ey
  cases (show u=Value.ref b from ry)
  obtain⟨z,hd,xs,rel,dd⟩:=aHZ I.hok e
  obtain⟨w',hw,rw'⟩:=yG.some_of (v:=v) (o:=(atKey xs k).map (·.2)) (by rw[l];exact rel.val k)
  obtain⟨p,hp,hp2⟩:=Qp9.mp hw
  refine wpAny_getItem_heap (tupleKind_room_in1 hu) (aD9 I.hok eb) dd hp ?_
  rw[hp2]
  exact h w' _ (I.tok _) rw'
theorem aGG{h':Heap}{t':Nat}(I:Inv X pins σ H s)(mu:Mut (H a))(hs:Heap.SameBut a s.heap h')(he:∃q,h'.get? a=some q)(new:cE X.prog X.w (upd H a ob) h' a ob) :
  Inv X pins σ (upd H a ob) { s with heap:=h',toks:=t' }:=
 I.write (x:=a) (e:=a) mu (.inl rfl) (λb q hb z=>(hs.2 b hb).trans z) he new
theorem aQl{h':Heap}{kvs:List (Key×V)}(z:kvs.length<=sizeLine)(hd:(a == sysModules)=false)(rel:KV kvs vs)(dd:h'.DictOf (eV P w) a vs) :
  cE P w H' h' a (.dK kvs):=⟨z,hd,vs,rel,dd⟩
theorem aK0{H':Hp}{Q:Unit->Shared->Prop}(hu:A.units+1 < cLine)(I:Inv X pins σ H s)(g:aEa H a y v H')(ry:RelV y u)(rv:RelV v r)(h:∀s',Inv X pins σ H' s'->Q () s') :
  wpAny (model X.prog X.w) A (setItem (.ref a) u r) Q E s:=by
 rcases g with ⟨kvs,k,e,ey,l,eH⟩|⟨kvs,k,b,e,ey,eb,l,eH⟩
 ·subst ey eH
  obtain⟨z,hd,vs,rel,dd⟩:=aRy I.hok e
  have hz:vs.length<=sizeLine:=by rw[<-rel.length];exact z
  have hl:(putK kvs k v).length<=sizeLine:=by have:=yS kvs k v;omega
  refine wpAny_setItem_pairs (hsz:=hz) (aKe ry) dd λh' dd' hs=>h _ ?_
  have he:∃q,h'.get? a=some q:=let ⟨q,_,_,hq,_⟩:=dd';⟨q,hq⟩
  exact aGG I (by rw[e];exact True.intro) hs he (aQl hl hd (rel.put k rv) dd')
 ·subst ey eH
  cases (show u=Value.ref b from ry)
  obtain⟨z,hd,xs,rel,dd⟩:=aPl I.hok e
  have hz:xs.length<=sizeLine:=by rw[<-Paired.length rel];exact z
  have hl:(putK kvs k v).length<=sizeLine:=by have:=yS kvs k v;omega
  refine wpAny_setItem_heap (hsz:=hz) (tupleKind_room_in1 hu) (aD9 I.hok eb) dd λh' dd' hs=>h _ ?_
  obtain⟨q,es,ep,hq,h2,h3,h4,_,h5⟩:=dd'
  refine aGG I (by rw[e];exact True.intro) hs ⟨q,hq⟩ ⟨hl,hd,_,(rel.put k eb rv).keeps λc ys ec=>?_,q,es,ep,hq,h2,h3,h4,h5⟩
  rw[bB (aPf ec e (λz=>nomatch z))]
  exact ec
end
section
variable{X:Cx}{pins:List (Addr×Obj)}{σ:St}{H:Hp}{s:Shared}{a:Addr}{kvs:List (Key×V)}{k:Key}{u:Value}{A:Around}{E:Value->Shared->Prop}
end
def aQm(i:Expr):Prop:=∀ov iv,subscripted i false ov iv=operate [ov,iv] (getItem ov iv)
theorem aN6{prog:Program}{w:World}{A:Around}{E:Value->Shared->Prop}{s:Shared}{env:Env}{value slice:Expr}{pos:Pos}{T id:String}{Q:Value->Shared->Prop}
  (hl:typeLookup (.type T) "__getitem__" = pure (some (.builtin id))) (hs:aQm slice)
  (h:wpAny (model prog w) A (eval value env) (λo s₁=>wpAny (model prog w) A (eval slice env) (λi s₂=>s₂.TypeIs o T/\wpAny (model prog w) A (getItem o i) Q E s₂) E s₁) E s) :
  wpAny (model prog w) A (eval (.Subscript value slice pos) env) Q E s:=by
 refine Subscript_ (wpAny_mono h (λo s₁ h₁=>wpAny_mono h₁ (λi s₂ h₂=>?_) λ_ _ x=>x) λ_ _ x=>x)
 obtain⟨hT,h₂⟩:=h₂
 unfold subscriptTail
 refine wpAny_bind ?_
 rw[getitemInPython_of_ne hT.not_modules]
 refine wpAny_bind (wpAny_specialOf hT hl ?_)
 have fin:wpAny (model prog w) A (subscripted slice false o i) (λr s₃=>wpAny (model prog w) A (letTemporaryGo value o r >>= λ_=>pure r) Q E s₃) E s₂:=by
  rw[hs o i]
  exact wpAny_operating (wpAny_mono h₂ (λr s₃ h₃=>wpAny_bind (wpAny_letTemporaryGo (wpAny_pure h₃))) λ_ _ x=>x)
 first
  |exact wpAny_pure (wpAny_bind fin)
  |exact wpAny_bind (wpAny_pure (wpAny_bind fin))
  |exact wpAny_bind fin
theorem aH0{s:Shared}(I:Inv X pins σ H s)(g:yT H a y o):s.TypeIs (.ref a) "dict":=by
 rcases g with ⟨kvs,k,e,_,_⟩|⟨kvs,k,b,e,_,_,_⟩
 ·obtain⟨_,_,vs,_,dd⟩:=aHY I.hok e
  exact dd.typeIs
 ·obtain⟨_,_,xs,_,dd⟩:=aHZ I.hok e
  exact dd.typeIs
def aMd(td ty:TE):TE:=λσ H Q=>td σ H λx H1=>ty σ H1 λy H2=>∃a v,x=.ref a/\yT H2 a y (some v)/\Q v H2
def aMe(td ty tv:TE):TS:=λD σ H=>tv σ H λv H1=>td σ H1 λx H2=>ty σ H2 λy H3=>∃a H4,x=.ref a/\aEa H3 a y v H4/\D.nx σ H4
section
variable{X:Cx}{o i e value:Expr}{pos pos' tpos:Pos}{td ty tv:TE}
theorem aN7(hu:X.A.units+1 < cLine)(ho:PE X o td)(hi:PE X i ty)(hs:aQm i):PE X (.Subscript o i pos) (aMd td ty):=by
 intro pins s σ H Q I h
 refine aN6 PySem.F.slot_dict_getitem.lookup hs (dW (ho pins s σ H _ I h) λu s1 ⟨x,H1,I1,rx,q1⟩=>dW (hi pins s1 σ H1 _ I1 q1) λiv s2 ⟨y,H2,I2,ry,a,v,ex,g,q2⟩=>?_)
 subst ex
 obtain rfl:u=Value.ref a:=rx
 exact⟨aH0 I2 g,aKZ hu I2 g ry λw' s3 I3 rw'=>⟨v,H2,I3,rw',q2⟩⟩
theorem aN8(hu:X.A.units+1 < cLine)(ho:PE X o td)(hi:PE X i ty)(hv:PE X value tv)(hs:swapsWith value (some (.Subscript o i pos')) pos.line X.env=pure false) :
  PS X (.Assign [.Subscript o i pos'] value pos) (aMe td ty tv):=by
 intro pins s σ H D I h
 refine wpAny_Assign_Subscript (dW (hv pins s σ H _ I h) λr s1 ⟨v,H1,I1,rv,q1⟩=>dW (ho pins s1 σ H1 _ I1 q1) λu s2 ⟨x,H2,I2,rx,q2⟩=>dW (hi pins s2 σ H2 _ I2 q2) λiv s3 ⟨y,H3,I3,ry,a,H4,ex,g,q3⟩=>?_) hs
 subst ex
 obtain rfl:u=Value.ref a:=rx
 exact aK0 hu I3 g ry rv λs4 I4=>⟨σ,H4,I4,q3⟩
end
theorem aMf(h:Heap)(hb:sysModules < h.objs.size):cE P w H (h.push { cls:=.type "dict",data:=.dict #[] }) h.objs.size (.dK []):=
 ⟨Rn9 _,beq_eq_false_iff_ne.mpr (Ne.symm (vU hb)),[],.nil,Heap.DictOf.new h⟩
theorem aH1(h:Heap)(hb:sysModules < h.objs.size):cE P w H (h.push { cls:=.type "dict",data:=.dict #[] }) h.objs.size (.dT []):=
 ⟨Rn9 _,beq_eq_false_iff_ne.mpr (Ne.symm (vU hb)),[],.nil,_,#[],0,yL _ rfl,⟨rfl,rfl,rfl⟩,rfl,rfl,List.nodup_nil⟩
def aQn:TE:=λ_ H Q=>∀p,H p=none->Q (.ref p) (upd H p (.dK []))
def aQo:TE:=λ_ H Q=>∀p,H p=none->Q (.ref p) (upd H p (.dT []))
section
variable{X:Cx}{pos:Pos}
theorem aMg:PE X (.Dict [] [] pos) aQn:=λpins s σ H Q I h=>
 wpAny_Dict_empty ⟨.ref s.heap.objs.size,_,I.laid (a:=s.heap.objs.size) (o:=.dK []) (t':=s.toks) (λ_ _ q=>kO _ q) (gB _) (aMf s.heap I.big),rfl,h _ (I.hok.fresh (gB _))⟩
theorem aMh:PE X (.Dict [] [] pos) aQo:=λpins s σ H Q I h=>
 wpAny_Dict_empty ⟨.ref s.heap.objs.size,_,I.laid (a:=s.heap.objs.size) (o:=.dT []) (t':=s.toks) (λ_ _ q=>kO _ q) (gB _) (aH1 s.heap I.big),rfl,h _ (I.hok.fresh (gB _))⟩
end
structure M1(X:Cx)(o:Expr)(m:Str)(apos:Pos)(e:Expr)(cpos:Pos):Prop where
 base:attributeBase o m X.env (eval o X.env)=eval o X.env
 few:((backTo cpos (starEach [e] X.env)).all (λx=>!x.1) && (backToKw cpos (keywordEach [] X.env)).all (λx=>x.1.isSome)
  && decide (([e]:List Expr).length+([]:List Keyword).length+(if ([]:List Keyword).isEmpty then 0 else 1) < 30))=true
 line:(apos.endLine == cpos.line)=true
 trees:backTo cpos (starEach [e] X.env)=[(false,eval e X.env)]
structure M2(X:Cx)(o:Expr)(m:Str)(apos:Pos)(e f:Expr)(cpos:Pos):Prop where
 base:attributeBase o m X.env (eval o X.env)=eval o X.env
 few:((backTo cpos (starEach [e,f] X.env)).all (λx=>!x.1) && (backToKw cpos (keywordEach [] X.env)).all (λx=>x.1.isSome)
  && decide (([e,f]:List Expr).length+([]:List Keyword).length+(if ([]:List Keyword).isEmpty then 0 else 1) < 30))=true
 line:(apos.endLine == cpos.line)=true
 trees:backTo cpos (starEach [e,f] X.env)=[(false,eval e X.env),(false,eval f X.env)]
def IsD(H:Hp)(a:Addr):Prop:=(∃kvs,Rd H a (.dK kvs))\/∃kvs,Rd H a (.dT kvs)
theorem aQp{s:Shared}(I:Inv X pins σ H s)(d:IsD H a) :
  s.TypeIs (.ref a) "dict"/\(∀b,Value.ref a=.ref b->∃ob,s.heap.get? b=some ob/\ob.dict=none)/\(a == sysModules)=false:=by
 rcases d with ⟨kvs,e⟩|⟨kvs,e⟩
 ·obtain⟨_,hd,vs,_,dd⟩:=aHY I.hok e
  refine⟨dd.typeIs,λb q=>?_,hd⟩
  cases q
  obtain⟨ob,_,_,h1,h2,_⟩:=dd
  exact⟨ob,h1,h2.2.1⟩
 ·obtain⟨_,hd,xs,_,dd⟩:=aHZ I.hok e
  refine⟨dd.typeIs,λb q=>?_,hd⟩
  cases q
  obtain⟨ob,_,_,h1,h2,_⟩:=dd
  exact⟨ob,h1,h2.2.1⟩
section
variable{X:Cx}{pins:List (Addr×Obj)}{σ:St}{H:Hp}{s:Shared}{a:Addr}{y d:V}{u r:Value}{o:Option V}{A:Around}{E:Value->Shared->Prop}
theorem aQq{Q:Value->Shared->Prop}(hu:A.units+1 < cLine)(I:Inv X pins σ H s)(g:yT H a y o)(ry:RelV y u)(rd:RelV d r)(h:∀w' s',Inv X pins σ H s'->RelV (o.getD d) w'->Q w' s') :
  wpAny (model X.prog X.w) A (call (.builtin "dict.get") [.ref a,u,r]) Q E s:=by
 rcases g with ⟨kvs,k,e,ey,l⟩|⟨kvs,k,b,e,ey,eb,l⟩
 ·subst ey
  obtain⟨z,hd,vs,rel,dd⟩:=aHY I.hok e
  refine call_meetsIn PySem.F.slot_dict_get dd.typeIs PySem.F.entry_dict_get (PySem.F.args_dict_get_3 _ _ _) (meets_dict_get_default (eV X.prog X.w) a (aKe ry) hd r) ⟨_,dd.mapOf,h _ _ (I.tok _) ?_⟩
  rw[l]
  exact(rel.val k).getD rd
 ·subst ey
  cases (show u=Value.ref b from ry)
  obtain⟨z,hd,xs,rel,dd⟩:=aHZ I.hok e
  refine call_meetsIn PySem.F.slot_dict_get dd.typeIs PySem.F.entry_dict_get (PySem.F.args_dict_get_3 _ _ _) (meetsH_dict_get_default (tupleKind (eV X.prog X.w)) a b hd r) ⟨tupleKind_room_in1 hu,k,xs,aD9 I.hok eb,dd,h _ _ (I.tok _) ?_⟩
  rw[l]
  exact(rel.val k).getD rd
end
def aJl(td ty tx:TE):TE:=λσ H Q=>td σ H λx H1=>∃a,x=.ref a/\IsD H1 a/\ty σ H1 λy H2=>tx σ H2 λz H3=>∃o,yT H3 a y o/\Q (o.getD z) H3
section
variable{X:Cx}{o e f:Expr}{apos cpos:Pos}{td ty tx:TE}
theorem aMi(hu:X.A.units+1 < cLine)(ho:PE X o td)(he:PE X e ty)(hf:PE X f tx)(m:M2 X o "get" apos e f cpos):PE X (.Call (.Attribute o "get" apos) [e,f] [] cpos) (aJl td ty tx):=by
 intro pins s σ H Q I h
 refine wpAny_Call_method m.base m.few m.line PySem.F.plainAttrs_dict PySem.F.slot_dict_get PySem.F.type_dict_get (dW (ho pins s σ H _ I h) λu s1 ⟨x,H1,I1,rx,a,ex,d,q1⟩=>?_)
 subst ex
 obtain rfl:u=Value.ref a:=rx
 obtain⟨t1,t2,_⟩:=aQp I1 d
 refine⟨t1,t2,?_⟩
 rw[m.trees]
 refine Calls.callWith_builtin rfl (Calls.evalArgs_plain (Calls.spliced_cons (dW (he pins s1 σ H1 _ I1 q1) λiv s2 ⟨y,H2,I2,ry,q2⟩=>
  Calls.spliced_cons (dW (hf pins s2 σ H2 _ I2 q2) λfv s3 ⟨z,H3,I3,rz,ov,g,q3⟩=>Calls.spliced_nil ?_))))
 exact aQq hu I3 g ry rz λw' s4 I4 rw'=>⟨_,H3,I4,rw',q3⟩
end
section
variable{X:Cx}{pins:List (Addr×Obj)}{σ:St}{H:Hp}{s:Shared}{a:Addr}{kvs:List (Key×V)}{A:Around}{E:Value->Shared->Prop}
end
section
variable{X:Cx}{pins:List (Addr×Obj)}{σ:St}{H:Hp}{s:Shared}{a:Addr}{y:V}{u:Value}{A:Around}{E:Value->Shared->Prop}
end
end L2
namespace Att
open PySem PySem.W PySem.Calls PyProof.Rows
theorem aDB:∀(ns:List Int) (vs:List Value),WellAll P h vs (ns.map WData.int)->IntsAre vs ns:=by
 intro ns
 induction ns with
 |nil=>
  intro vs w
  rw[Tt9] at w
  cases w
  exact .nil
 |cons n ns ih=>
  intro vs w
  rw[Rh9] at w
  cases w with
  |cons a b=>
   cases a
   exact .cons _ _ (ih _ b)
theorem aK1{l:OpenLaw}{n:Nat}(hn:l.most=some n){h:Heap}(hpre:l.row.toRowW.claim.pre args=true)(hwl:WellAll P h vals args) :
  ∃a vs ns,vals=[Value.ref a]/\args=[WData.list (ns.map WData.int)]/\h.get? a=some { cls:=.type "list",data:=.seq vs.toArray }/\IntsAre vs ns/\ns.length<=n:=by
 have hsh:WShape.hasAll [] args [.list .int]=true:=(pre_splitW hpre).1
 have hc:l.pre.holds [] { args:=args } = true:=(pre_splitW hpre).2
 obtain⟨d,r,rfl,h1,h2⟩:=hasAllW_cons hsh
 obtain rfl:=hasAllW_nil h2
 obtain⟨xs,rfl,h3⟩:=hasW_list h1
 obtain⟨ns,rfl⟩:=items_int h3
 have hlen:ns.length<=n:=by
  unfold OpenLaw.pre at hc
  have h4:(WTm.not (.lt (.lit (.int (n:Int))) (.len (.arg 0)))).holds [] { args:=[.list (ns.map .int)] } = true:=by
   have h4:=(holds_andW hc).1
   rw[hn] at h4
   exact h4
  have h5:=condW_of h4 (w_not (w_lt w_lit (w_len_list (w_arg rfl))))
  rw[bP] at h5
  refine Nat.le_of_not_lt λq=>?_
  have q':(n:Int) < ((ns.length:Nat):Int):=by omega
  first
   |(rw[decide_eq_true q'] at h5;exact absurd h5 (by decide))
   |(simp at h5;omega)
 cases hwl with
 |cons w1 w2=>
  cases w2
  cases w1 with
  |list ho hall=>exact⟨_,_,ns,rfl,rfl,ho,aDB ns _ hall,hlen⟩
theorem aK2(l:OpenLaw)(args:List WData):l.row.toRowW.claim.post args (.bool true) args=true:=
 postW_of (r:=l.row.toRowW) (X:=(true == true))
  (show WShape.has [] (.bool true) .bool=true by first|rfl|decide|simp[WShape.has,WShape.arms,WShape.armsAll])
  (show(WTm.eq .res (.lit (.bool true))).value [] { args:=args,res:=some (.bool true),after:=args } = some (.bool (true == true)) from w_eq_bool (w_res rfl) w_lit) rfl
theorem aH2{l:OpenLaw}{n:Nat}{XP:(Str->Option Value)->Heap->Prop}{YP:World->Heap->Prop}{d:DefRec}(hn:l.most=some n)(hdf:d.params.defaults=[])(call:∀(w:World) (s₀ s₁:Shared) (mg mb:Str->Option Value) (fa:Addr) (o:Obj) (pm cd doc:Value) (a:Addr) (vs:List Value) (ns:List Int),
   Ground q loose [] XP w s₀ mg mb s₁.heap->YP w s₁.heap->
   s₁.heap.get? fa=some o->o.data=.func (docDef d.name d.params d.body d.scope pm cd doc)->s₁.heap.CodeRec cd d.name->mg d.name=some (.ref fa)->
   s₁.heap.get? a=some { cls:=.type "list",data:=.seq vs.toArray }->IntsAre vs ns->ns.length<=n->s₁.gens = #[]->
   codeAny (model l.prog w) callerA (.call (.ref fa) ⟨[.ref a],[]⟩) (λr s'=>r=.ok (.ret (.bool true))/\OldK s₁.heap s'.heap/\s'.os=s₁.os/\AllBare s'.gens) s₁) :
  WalkO q loose XP YP l.row.toRowW d [] (λf vs=>PySem.call f vs):=by
 intro w s₀ s₁ mg mb G Y fa o pm cd doc dV kV ho hd hcd hD hmg hg args vals as hpre hlay hrd hwl hlo
 obtain rfl:dV=.none:=Dflts.none hD hdf
 obtain rfl:kV=.none:=Dflts.noKw hD
 obtain⟨a,vs,ns,rfl,rfl,hobj,hints,hlen⟩:=aK1 hn hpre hwl
 refine enter_call (codeAny_mono (call w s₀ s₁ mg mb fa o pm cd doc a vs ns G Y ho (fd_plain hd) hcd hmg hobj hints hlen hg) λr s' hq=>?_)
 obtain⟨rfl,h2,h3,h4⟩:=hq
 exact⟨.inl ⟨.bool true,.bool true,[],rfl,λ_=>rfl,.bool true,aK2 l _,λ_=>⟨List.Pairwise.nil,λ_ hm=>(nomatch hm)⟩⟩,h2,h3,h4⟩
section
variable{prog:Program}{w:World}{A:Around}{E:Value->Shared->Prop}{s:Shared}{K:Frag}
end
end Att
namespace L2
open PySem PySem.Spec PyProof.Rows
theorem aCE:∀{vs:List Value}{ns:List Int},IntsAre vs ns->Vals (ns.map V.int) vs
 |_,_,.nil=>.nil
 |_,_,.cons n t h=>.cons ⟨t,rfl⟩ (aCE h)
def aRz(H:Hp):Prop:=∀b,H b=none\/∃o xs,H b=some (.frz o (.lst xs))
theorem aRA{K:PySem.W.Frag}{mg mb:Str->Option Value}{CX:CXT}{k:Nat}{sp:Sp}{s₁:Shared}{vs:List Value}{ns:List Int}(KX:K.In s₁.heap)(hns:s₁.heap.Ns mainGlobals mg)(hb:s₁.heap.Ns builtinsNs mb)(hbb:∀x:Str,x≠"__name__"->mb x=bootBuiltins x)(hlim:s₁.heap.NoLimit)(hbm:∃bm o,mg "__builtins__" = some (.ref bm)/\bm≠builtinsNs/\s₁.heap.get? bm=some o/\o.cls=.type "module"/\o.dict=some builtinsNs/\o.data=.plain)(hg:s₁.gens = #[])(ha:s₁.heap.get? a=some { cls:=.type "list",data:=.seq vs.toArray })(hi:IntsAre vs ns)(hl:ns.length<=sizeLine)(hr:fJ k callerA)(F:∀base:Heap,K.In base->base.Ns mainGlobals mg->bQ P w K mg base CX k fa fd [x] sp)(hbind:∀(s:Shared) (u:Value),BindsTo s fd ⟨[u],[]⟩ [(x,u)])(hsp:∀H:Hp,aRz H->bV K H a (ns.map V.int)->sp [.ref a] H (λv _=>v=.bl true) λ_ _ _=>False)(hCX:∀H e s',CX [] H s₁ (λ_ _ _=>False) e s'->False) :
  codeAny (model P w) callerA (.call (.ref fa) ⟨[.ref a],[]⟩) (λr s'=>r=.ok (.ret (.bool true))/\OldK s₁.heap s'.heap/\s'.os=s₁.os/\AllBare s'.gens) s₁:=by
 have rv:=aCE hi
 have lenV:=hi.length
 have core:∀H:Hp,aRz H->bV K H a (ns.map V.int)->yH P w H s₁.heap->(∀b,H b≠none->b=a)->(H a≠none->K.lookup a=none)->
   codeAny (model P w) callerA (.call (.ref fa) ⟨[.ref a],[]⟩) (λr s'=>r=.ok (.ret (.bool true))/\OldK s₁.heap s'.heap/\s'.os=s₁.os/\AllBare s'.gens) s₁:=by
  intro H hO hS hok hA hK
  have base_of:∀{b:Addr} {o:Obj},s₁.heap.get? b=some o->H b=none->(aAG s₁.heap H).get? b=some o:=λe n=>aHN e n
  have noA:∀{b:Addr} {o:Obj} {es:Array DictEntry} {ep:Nat},s₁.heap.get? b=some o->o.data=.dict es ep->H b=none:=λ{b o es ep} e d=>by
   cases q:H b with
   |none=>rfl
   |some u=>
    have e':b=a:=hA b (by rw[q];simp)
    subst e'
    rw[ha] at e;cases e
    have d':Data.seq vs.toArray _=Data.dict es ep:=d
    cases d'
  have nsK:∀{b:Addr} {m:Str->Option Value},s₁.heap.Ns b m->(aAG s₁.heap H).Ns b m:=λ{b m} ⟨o,es,ep,e,d,r⟩=>⟨o,es,ep,base_of e (noA e d),d,r⟩
  have hKb:K.In (aAG s₁.heap H):=λb o e=>base_of (KX b o e) (by
   cases q:H b with
   |none=>rfl
   |some u=>
    have e':b=a:=hA b (by rw[q];simp)
    subst e'
    rw[hK (by rw[q];simp)] at e;cases e)
  have hbm':∃bm o,mg "__builtins__" = some (.ref bm)/\bm≠builtinsNs/\(aAG s₁.heap H).get? bm=some o/\o.cls=.type "module"/\o.dict=some builtinsNs/\o.data=.plain:=by
   obtain⟨bm,ob,b1,b2,b3,b4,b5,b6⟩:=hbm
   refine⟨bm,ob,b1,b2,base_of b3 ?_,b4,b5,b6⟩
   cases q:H bm with
   |none=>rfl
   |some u=>
    have e':bm=a:=hA bm (by rw[q];simp)
    rw[e',ha] at b3
    cases b3
    exact absurd (show Value.type "list" = Value.type "module" from b4) (by decide)
  have hM:Mod K mg (aAG s₁.heap H):=⟨hKb,nsK hns,⟨mb,nsK hb,hbb⟩,(let ⟨mc,h1,h2⟩:=hlim;⟨mc,nsK h1,h2⟩),hbm'⟩
  have e0:aFk P w K mg (aAG s₁.heap H) callerA [] s₁ H:=⟨rfl,hM,λb o e=>aJ3 e,Ua9 (aF3 _ _),trivial,λb hb=>absurd (show b∈([]:List Addr) from hb) (by simp),hok,.of_eq hg⟩
  refine codeAny_mono ((F _ hKb (nsK hns)).run callerA [] s₁ H ⟨[.ref a],[]⟩ [.ref a] [.ref a] _ _ hr e0 (hbind s₁ (.ref a)) (.cons rfl .nil) (hsp H hO hS)) λr s' h=>?_
  cases r with
  |error e=>exact(hCX H e s' h).elim
  |ok fl=>
   cases fl with
   |next=>exact False.elim h
   |brk=>exact False.elim h
   |cont=>exact False.elim h
   |ret u=>
    obtain⟨v,H',os,bare,un,hok',r',q⟩:=h
    have q':v=.bl true:=q
    subst q'
    obtain rfl:u=Value.bool true:=r'
    refine⟨rfl,OldK.of_keep λb o e=>?_,os,bare⟩
    cases q:H b with
    |none=>exact un.keep b o e q (by intro z;exact absurd (show b∈([]:List Addr) from z) (by simp)) (by simp)
    |some u=>
     rcases hO b with z|⟨ob,xs,z⟩
     ·rw[q] at z;cases z
     ·have z2:=un.frzs b ob _ z
      obtain⟨e1,_⟩:=hok b _ z
      obtain⟨e2,_⟩:=hok' b _ z2
      rw[e] at e1;cases e1
      exact e2
 cases hk:K.lookup a with
 |some o=>
  have e:=KX a o hk
  rw[ha] at e
  cases e
  refine core (λ_=>none) (λ_=>.inl rfl) (.inr ⟨_,vs.toArray,_,hk,rfl,rfl,rfl,by rw[lX,lenV];exact hl,by simpa using rv⟩) (λb u z=>by have z':(none:Option HO)=some u:=z;cases z') (λb z=>absurd rfl z) λz=>absurd rfl z
 |none=>
  refine core (λb=>if b=a then some (.frz { cls:=.type "list",data:=.seq vs.toArray } (.lst (ns.map V.int))) else none) (λb=>?_) (.inl (.inr ⟨{ cls:=.type "list",data:=.seq vs.toArray },if_pos rfl⟩)) (λb u z=>?_) (λb z=>?_) λ_=>hk
  ·by_cases hb:b=a
   ·exact .inr ⟨_,_,if_pos hb⟩
   ·exact .inl (if_neg hb)
  ·by_cases hb:b=a
   ·have z':=(if_pos hb).symm.trans z
    cases z'
    subst hb
    exact⟨ha,by rw[bP];exact hl,vs,_,rv,ha⟩
   ·have z':=(if_neg hb).symm.trans z
    cases z'
  ·by_cases hb:b=a
   ·exact hb
   ·exact absurd (if_neg hb) z
end L2
namespace L2
open PySem PySem.Spec PyProof.Rows
end L2
namespace L2
open PySem PySem.Spec PyProof.Rows
def inClass(s:Stmt)(j:Nat):Stmt:=match s with
 |.ClassDef _ _ _ body _ _ _ _ _ _ _=>body.getD j (.Pass ⟨0,0,0,0⟩)
 |_=>.Pass ⟨0,0,0,0⟩
def aY(s:Stmt):Arguments:=match s with
 |.FunctionDef _ a _ _ _ _ _ _ _ _=>a
 |_=>{ posonlyargs:=[],args:=[],vararg:=none,kwonlyargs:=[],kw_defaults:=[],kwarg:=none,defaults:=[] }
def aW(s:Stmt):List Stmt:=match s with
 |.FunctionDef _ _ b _ _ _ _ _ _ _=>b
 |_=>[]
def aH(s:Stmt):Scope:=match s with
 |.FunctionDef _ _ _ _ _ _ sc _ _ _=>sc
 |_=>{ kind:=.function,names:=[],isGenerator:=false,isCoroutine:=false }
abbrev gE:CXT:=λ_ _ _ _ _ _=>False
abbrev E0:XK:=λ_ _ _=>False
theorem aR:Passes gE X E0:=λ_ _ _ _ _ _ _ h=>h.elim
structure iC(K:W.Frag)(x qual:Str)(st:Stmt)(f:Addr)(fd:FuncData):Prop where
 ex:∃(oc:Value) (od:Option Addr) (kV doc pm:Value) (an:Option Addr) (cdv ct:Value) (osl:Array (Option Value)),
  fd=W.fnOf x qual (aY st) (aW st) (aH st) .none kV doc pm an cdv ct/\K.lookup f=some ⟨oc,od,.func fd,osl⟩/\W.codeIn K cdv qual=true
 kp:W.keepIn K (.ref f)=true
section
variable{P:Program}{w:World}{K:W.Frag}{mg:Str->Option Value}{base:Heap}
theorem iC.ok{x qual:Str}{st:Stmt}{f:Addr}{fd:FuncData}{N ps:List Str}{k:Nat}{sp:Sp}(F:iC K x qual st f fd)(S:aX N ps (aH st))(len:∀vs H Q E,sp vs H Q E->vs.length=ps.length)
  (hbody:∀(cdv:Value) (A:Around) (outer:List Env) (s:Shared) (H:Hp) (vs:List V) (Q:VK) (E:XK),fJ k (A.deeper (envOfC qual (aH st) s.heap.objs.size f cdv))->sp vs H Q E->
   ∃t,PSs (aJh gE P w K mg base N qual (aH st) f cdv A outer s H E).nox (aW st) t/\t { nx:=λ_ H'=>Q .non H',rt:=Q } (start N vs) H):bQ P w K mg base gE (k+1) f fd ps sp:=by
 obtain⟨oc,od,kV,doc,pm,an,cdv,ct,osl,rfl,lk,hcd⟩:=F.ex
 refine aPh lk hcd S len λA outer s H vs Q E hr hsp=>?_
 obtain⟨t,h,q⟩:=hbody cdv A outer s H vs Q E hr hsp
 exact⟨t,h.nox,q⟩
theorem iC.binds{x qual:Str}{st:Stmt}{f:Addr}{fd:FuncData}{ps:List Str}(F:iC K x qual st f fd)
  (h:∀(kV doc pm:Value) (an:Option Addr) (cdv ct:Value) (us:List Value),us.length=ps.length->bindArgs (W.fnOf x qual (aY st) (aW st) (aH st) .none kV doc pm an cdv ct) ⟨us,[]⟩=pure (ps.zip us)):Binds K fd ps []:=by
 obtain⟨oc,od,kV,doc,pm,an,cdv,ct,osl,rfl,lk,hcd⟩:=F.ex
 exact .all (h kV doc pm an cdv ct)
theorem bF{x qual:Str}{st:Stmt}{f:Addr}{oc:Value}{od an:Option Addr}{osl:Array (Option Value)}{kV doc pm cdv ct:Value}(l:K.lookup f=some ⟨oc,od,.func (W.fnOf x qual (aY st) (aW st) (aH st) .none kV doc pm an cdv ct),osl⟩)
  (c:W.codeIn K cdv qual=true) (k:W.keepIn K (.ref f)=true):iC K x qual st f (W.fnOf x qual (aY st) (aW st) (aH st) .none kV doc pm an cdv ct):=⟨⟨oc,od,kV,doc,pm,an,cdv,ct,osl,rfl,l,c⟩,k⟩
end
section
variable{X:Cx}
end
theorem aQr{A B:Prop}(h:B):if false=true then A else B:=by
 rw[if_neg Qr9]
 exact h
theorem aQs{A B:Prop}(h:A):if true=true then A else B:=by
 rw[if_pos rfl]
 exact h
def aP(H H':Hp):Prop:=∀b o,H b=some o->H' b=some o
theorem aP.refl(H:Hp):aP H H:=λ_ _ h=>h
theorem aP.trans(a:aP H H1)(b:aP H1 H2):aP H H2:=λc o h=>b c o (a c o h)
theorem aP.free(e:aP H H')(h:H' l=Option.none):H l=Option.none:=by
 cases q:H l with
 |none=>rfl
 |some o=>
  rw[e l o q] at h
  cases h
theorem aP.seq{K:W.Frag}{H H':Hp}{a:Addr}{xs:List V}(e:aP H H')(h:bV K H a xs):bV K H' a xs:=by
 rcases h with (h|⟨o,h⟩)|h
 ·exact .inl (.inl (e _ _ h))
 ·exact .inl (.inr ⟨o,e _ _ h⟩)
 ·exact .inr h
section
variable{κ:Type}[DecidableEq κ]
end
end L2
namespace L2
open PySem PySem.Spec PyProof.Rows
section
variable{prog:Program}{w:World}{A:Around}{R:Result->Shared->Prop}{s:Shared}
theorem aH3(I:Nat->Shared->Prop)(turn:∀n s,I n s->wpAny (model prog w) A (pyNext it) (λr s₁=>match r with
   |none=>R (.ok .next) s₁
   |some v=>wpAny (model prog w) A (letOwnedTupleGo target it v) (λ_ s₁'=>wpAny (model prog w) A (assign target env v) (λ_ s₂=>
     wpAny (model prog w) A (forIn ifs true λc r=>if r=true then do let ok <-isTrue c env (eval c env);pure (ForInStep.yield ok) else pure (ForInStep.yield r)) (λok s₃=>
      if ok=true then wpAny (model prog w) A (eval elt env) (λx s₄=>
       wpAny (model prog w) A (call (.builtin "list.append") [acc,x]) (λ_ s₅=>∃m,m < n/\I m s₅) (notedBy (model prog w) A env λe s'=>R (.error e) s') s₄) (notedBy (model prog w) A env λe s'=>R (.error e) s') s₃
      else ∃m,m < n/\I m s₃) (notedBy (model prog w) A env λe s'=>R (.error e) s') s₂) (notedBy (model prog w) A env λe s'=>R (.error e) s') s₁') (notedBy (model prog w) A env λe s'=>R (.error e) s') s₁)
   (notedBy (model prog w) A env λe s'=>R (.error e) s') s) (n:Nat) (h:I n s) :
  codeAny (model prog w) A (.compLoop (.ListComp elt [⟨target,iter,ifs,0⟩] scope pos) 0 it acc env) R s:=by
 refine codeAny_loop rfl I (λn s hI=>?_) n h
 show wpAny _ A ((compTurn (.ListComp elt [⟨target,iter,ifs,0⟩] scope pos) 0 it acc env).onRaise (λx=>do noteFrame x env;theTreesLotGoes x)) _ _ s
 refine wpAny_noted ?_
 rw[compTurn_list]
 refine wpAny_bind (wpAny_standAt (wpAny_bind (wpAny_mono (turn n s hI) (λr s₁ h₁=>?_) λ_ _ h'=>h')))
 cases r with
 |none=>exact wpAny_pure h₁
 |some v=>
  refine wpAny_bind (wpAny_mono h₁ (λ_ s₁' h₁'=>?_) λ_ _ h'=>h')
  refine wpAny_bind (wpAny_mono h₁' (λ_ s₂ h₂=>wpAny_bind (wpAny_mono h₂ (λok s₃ h₃=>?_) λ_ _ h'=>h')) λ_ _ h'=>h')
  cases ok with
  |false=>exact wpAny_pure ⟨rfl,h₃⟩
  |true=>
   exact wpAny_bind (wpAny_bind (wpAny_mono h₃ (λx s₄ h₄=>wpAny_bind (wpAny_mono h₄ (λ_ s₅ h₅=>wpAny_pure (wpAny_pure ⟨rfl,h₅⟩)) λ_ _ h'=>h')) λ_ _ h'=>h'))
end
def pH(env:Env):List (Str×NameKind)->List (Str×Addr)->List (Str×Addr)
 |[],cs=>cs
 |(n,k)::r,cs=>pH env r (if (k == NameKind.free)=true then (n,(env.cells.lookup n).getD 0)::cs else cs)
theorem aBg{scope:Scope}{env:Env}(h:∀x∈scope.names,x.2=.free->∃c,env.cells.lookup x.1=some c):closureFor scope env=pure (pH env scope.names []):=by
 simp only[closureFor]
 generalize ([]:List (Str×Addr))=cs
 revert h cs
 generalize scope.names=names
 intro h
 induction names with
 |nil=>intro cs;rfl
 |cons x r ih=>
  intro cs
  obtain⟨n,k⟩:=x
  have ih:=ih λy hy=>h y (Qq9 _ hy)
  rw[List.forIn_cons]
  by_cases hk:k=.free
  ·subst hk
   obtain⟨c,hc⟩:=h (n,.free) Qx9 rfl
   have hc':env.cells.lookup n=some c:=hc
   have e:pH env ((n,NameKind.free)::r) cs=pH env r ((n,c)::cs):=by
    show pH env r (if (NameKind.free == NameKind.free)=true then (n,(env.cells.lookup n).getD 0)::cs else cs)=_
    rw[hc']
    rfl
   rw[e,<-ih]
   simp only[cellOf,hc',beq_self_eq_true,if_true]
   rfl
  ·have hb:(k == NameKind.free)=false:=by simpa using hk
   have e:pH env ((n,k)::r) cs=pH env r cs:=by
    show pH env r (if (k == NameKind.free)=true then (n,(env.cells.lookup n).getD 0)::cs else cs)=_
    rw[hb]
    rfl
   rw[e,<-ih]
   simp only[hb,Sc9,if_false]
   rfl
theorem aBK{env:Env}:∀(names:List (Str×NameKind)) (cs:List (Str×Addr)),(∀y∈names,y.2=.free->∃c,env.cells.lookup y.1=some c)->(x,c)∈pH env names cs->(x,c)∈cs\/env.cells.lookup x=some c
 |[],cs,_,h=>.inl h
 |(n,k)::r,cs,hf,h=>by
  have h':(x,c)∈pH env r (if (k == NameKind.free)=true then (n,(env.cells.lookup n).getD 0)::cs else cs):=h
  rcases aBK r _ (λy hy=>hf y (Qq9 _ hy)) h' with q|q
  ·by_cases hk:(k == NameKind.free)=true
   ·rw[if_pos hk] at q
    rcases yF.mp q with e|q
    ·cases e
     obtain⟨c,hc⟩:=hf (x,k) Qx9 (by simpa using hk)
     have hc':env.cells.lookup x=some c:=hc
     rw[hc']
     exact .inr rfl
    ·exact .inl q
   ·rw[if_neg hk] at q
    exact .inl q
  ·exact .inr q
theorem aH4:∀(names:List (Str×NameKind)) (cs:List (Str×Addr)),p∈cs->p∈pH env names cs
 |[],_,h=>h
 |(n,k)::r,cs,h=>by
  show p∈pH env r (if (k == NameKind.free)=true then (n,(env.cells.lookup n).getD 0)::cs else cs)
  refine aH4 r _ ?_
  split
  ·exact Qq9 _ h
  ·exact h
theorem aH5{env:Env}:∀(names:List (Str×NameKind)) (cs:List (Str×Addr)),(x,NameKind.free)∈names->env.cells.lookup x=some c->(x,c)∈pH env names cs
 |[],_,h,_=>by cases h
 |(n,k)::r,cs,h,hc=>by
  show(x,c)∈pH env r (if (k == NameKind.free)=true then (n,(env.cells.lookup n).getD 0)::cs else cs)
  rcases yF.mp h with e|h
  ·cases e
   refine aH4 r _ ?_
   rw[if_pos (by simp),hc]
   exact Qx9
  ·exact aH5 r _ h hc
theorem aAQ:∀{l:List (Str×Addr)},(x,c)∈l->(∀d,(x,d)∈l->d=c)->l.lookup x=some c
 |[],h,_=>by cases h
 |(n,d)::r,h,u=>by
  rw[Rl9]
  by_cases e:x=n
  ·subst e
   rw[beq_self_eq_true]
   rw[u d Qx9]
  ·rw[show(x == n)=false by simpa using e]
   rcases yF.mp h with q|q
   ·cases q
    exact absurd rfl e
   ·exact aAQ q λd hd=>u d (Qq9 _ hd)
theorem yU{env:Env}(hf:∀y∈names,y.2=.free->∃c,env.cells.lookup y.1=some c)(hx:(x,NameKind.free)∈names)(hc:env.cells.lookup x=some c):(pH env names []).lookup x=some c:=
 aAQ (aH5 names [] hx hc) λd hd=>by
  rcases aBK names [] hf hd with q|q
  ·cases q
  ·rw[hc] at q
   exact(Option.some.inj q).symm
theorem rY{env:Env}(hf:∀y∈names,y.2=.free->∃c,env.cells.lookup y.1=some c)(h:(pH env names []).lookup x=some c):env.cells.lookup x=some c:=by
 rcases aBK names [] hf (PySem.mem_of_lookup h) with q|q
 ·cases q
 ·exact q
end L2
namespace L2
open PySem PySem.Spec PyProof.Rows
def cxC(X:Cx)(scope:Scope)(N:List Str)(fp:List Addr)(C:Addr)(s:Shared)(H:Hp):Cx where
 prog:=X.prog
 w:=X.w
 K:=X.K
 mg:=X.mg
 base:=X.base
 A:=X.A
 N:=N
 s₀:=s
 H₀:=H
 env:=compEnvC scope (pH X.env scope.names []) C X.env
 outer:=X.stack
 stack:=X.stack
 ex:=fp
 fn:=λ_=>false
 calm:=X.calm
 pn:=[]
 xe:=λ_ _=>False
theorem yH.aMj{P:Program}{w:World}{H:Hp}{h:Heap}{a:Addr}{o:HO}(x:yH P w H h)(hn:H a=none)(new:cE P w (upd H a o) h a o):yH P w (upd H a o) h:=λb u e=>by
 by_cases hb:b=a
 ·subst hb;rw[aN] at e;cases e;exact new
 ·rw[bB hb] at e
  exact(x b u e).aAF (λc v _ q=>q) (λc q=>by rw[bB (bJ q hn)];exact q) λc xs _ q=>by rw[bB (bJ q hn)];exact q
theorem Un.aMj{fs ex:List Addr}{H H1:Hp}{h h1:Heap}{a:Addr}{o:HO}(u:Un fs ex H H1 h h1)(hs:h.objs.size<=a)(hn:H1 a=none):Un fs ex H (upd H1 a o) h h1 where
 keep:=u.keep
 slot:=u.slot
 free:=λb ob q n hx=>by rw[bB (vU (yK (jY q) hs))];exact u.free b ob q n hx
 there:=u.there
 yI:=λb xs q=>by rw[bB (bJ (u.yI b xs q) hn)];exact u.yI b xs q
 frzs:=λb ob xs q=>by rw[bB (bJ (u.frzs b ob xs q) hn)];exact u.frzs b ob xs q
 tbls:=λb ps q=>by
  obtain⟨m,e⟩:=u.tbls b ps q
  exact⟨m,by rw[bB (bJ e hn)];exact e⟩
theorem pB{env:Env}:∀{names:List (Str×NameKind)}{x:Str},names.lookup x=some .free->
  (names.map λ(n,k)=>if (k == NameKind.free && env.scope.kind == .function && env.kindOf n == some .cell) then (n,NameKind.cell) else (n,k)).lookup x=some .cell\/
  (names.map λ(n,k)=>if (k == NameKind.free && env.scope.kind == .function && env.kindOf n == some .cell) then (n,NameKind.cell) else (n,k)).lookup x=some .free
 |[],_,h=>by simp at h
 |(n,k)::r,x,h=>by
  have ih:=@pB env r x
  show List.lookup x ((if (k == NameKind.free && env.scope.kind == .function && env.kindOf n == some .cell)=true then (n,NameKind.cell) else (n,k))::_)=_\/List.lookup x ((if (k == NameKind.free && env.scope.kind == .function && env.kindOf n == some .cell)=true then (n,NameKind.cell) else (n,k))::_)=_
  cases hx:x == n with
  |true=>
   simp only[Rl9,hx] at h
   cases h
   by_cases hc:(NameKind.free == NameKind.free && env.scope.kind == .function && env.kindOf n == some .cell)=true
   ·rw[if_pos hc];simp only[Rl9,hx];exact .inl trivial
   ·rw[if_neg hc];simp only[Rl9,hx];exact .inr trivial
  |false=>
   simp only[Rl9,hx] at h
   by_cases hc:(k == NameKind.free && env.scope.kind == .function && env.kindOf n == some .cell)=true
   ·rw[if_pos hc];simp only[Rl9,hx];exact ih h
   ·rw[if_neg hc];simp only[Rl9,hx];exact ih h
theorem yV{env:Env}:∀{names:List (Str×NameKind)}{x:Str},(∀y∈names,y.2≠.cell)->
  ((names.map λ(n,k)=>if (k == NameKind.free && env.scope.kind == .function && env.kindOf n == some .cell) then (n,NameKind.cell) else (n,k)).lookup x=some .cell\/
  (names.map λ(n,k)=>if (k == NameKind.free && env.scope.kind == .function && env.kindOf n == some .cell) then (n,NameKind.cell) else (n,k)).lookup x=some .free)->(x,NameKind.free)∈names
 |[],_,_,h=>by simp at h
 |(n,k)::r,x,hc,h=>by
  have ih:=@yV env r x λy hy=>hc y (Qq9 _ hy)
  have h':List.lookup x ((if (k == NameKind.free && env.scope.kind == .function && env.kindOf n == some .cell)=true then (n,NameKind.cell) else (n,k))::_)=_\/List.lookup x ((if (k == NameKind.free && env.scope.kind == .function && env.kindOf n == some .cell)=true then (n,NameKind.cell) else (n,k))::_)=_:=h
  cases hx:x == n with
  |true=>
   have e:x=n:=by simpa using hx
   subst e
   by_cases hq:(k == NameKind.free && env.scope.kind == .function && env.kindOf x == some .cell)=true
   ·have hk:(k == NameKind.free)=true:=by
     rw[Bool.and_assoc] at hq
     exact(Ro9 _ _▸hq).1
    rw[show k=NameKind.free by simpa using hk]
    exact Qx9
   ·rw[if_neg hq] at h'
    simp only[Rl9,hx] at h'
    rcases h' with z|z
    ·cases z
     exact absurd rfl (hc _ Qx9)
    ·cases z
     exact Qx9
  |false=>
   by_cases hq:(k == NameKind.free && env.scope.kind == .function && env.kindOf n == some .cell)=true
   ·rw[if_pos hq] at h';simp only[Rl9,hx] at h';exact Qq9 _ (ih h')
   ·rw[if_neg hq] at h';simp only[Rl9,hx] at h';exact Qq9 _ (ih h')
structure fN(X:Cx)(scope:Scope)(N:List Str)(k:Nat)(idx:List Nat):Prop where
 kind:scope.kind=.function
 nocell:∀y∈scope.names,y.2≠.cell
 names:∀y∈scope.names,y.2=.local->scope.names.lookup y.1=some .local
 free:∀y∈scope.names,y.2=.free->X.env.kindOf y.1=some .cell\/X.env.kindOf y.1=some .free
 nd:N.Nodup
 len:N.length=k+idx.length
 cap:∀(i:Nat) (x:Str),(N.drop k)[i]?=some x->∃j:Nat,idx[i]?=some j/\X.N[j]?=some x/\scope.names.lookup x=some .free
def cσ(k:Nat)(idx:List Nat)(σ:St):St:=List.replicate k none++idx.map λj=>(σ[j]?).join
section
variable{X:Cx}{pins:List (Addr×Obj)}{σ:St}{H:Hp}{s:Shared}{scope:Scope}{N:List Str}{k:Nat}{idx:List Nat}{fp:List Addr}
theorem fN.cells(S:fN X scope N k idx)(I:Inv X pins σ H s):∀y∈scope.names,y.2=.free->∃c,X.env.cells.lookup y.1=some c:=λy hy h=>I.ok.has y.1 (S.free y hy h)
theorem aK3{h₁:Heap}{tk:Nat}{oD:Obj}{m:Str->Option Value}(S:fN X scope N k idx)(I:Inv X pins σ H s)(hf:∀b∈fp,aBE X pins H b)(ho:∀b∈fp,∃o,s.heap.get? b=some o)(hC:s.heap.objs.size<=C)(hD:s.heap.objs.size<=D)(hDC:D≠C)(hn:h₁.Ns C m)(old:∀b o,s.heap.get? b=some o->h₁.get? b=some o)(eD:h₁.get? D=some oD)(dD:∀v,oD.data≠.cell v) :
  Inv (cxC X scope N fp C s H) [(D,oD)] (cσ k idx σ) H { s with heap:=h₁,toks:=tk }:=by
 have hcl:=S.cells I
 have nst:∀b,s.heap.objs.size<=b->b∉frs X.stack:=λb hb z=>by
  obtain⟨_,o,e,_⟩:=I.stack.mem z
  exact absurd (yK (jY e) hb) (Ru9 _)
 refine⟨⟨I.ok.mod,S.kind,I.ok.glob,I.ok.blt,hC,λx y c h1 h2=>I.ok.inj x y c (rY hcl h1) (rY hcl h2),λx hx=>?_,λx c z _=>(by cases z),I.ok.hd,I.ok.frames,.inl rfl,λb hb=>⟨?_,λx c e=>(hf b hb).2.2.2.2.1 x c (rY hcl e)⟩,I.bs,
  Rp9 I.ok.bsz I.sz,λb o e hb=>?_,λb hb z=>?_,I.stack,I.aDX⟩,rfl,I.bare,Un.kept old,⟨m,hn,λi x v h1 h2 h3=>?_⟩,λx c e=>?_,I.hok.fresh hC,λx c e=>I.freeC x c (rY hcl e),λp hp=>?_,I.hok.kept old,?_⟩
 ·obtain⟨c,e⟩:=hcl _ (yV S.nocell hx) rfl
  exact⟨c,yU hcl (yV S.nocell hx) e⟩
 ·obtain⟨o,e⟩:=ho b hb
  exact vU (yK (jY e) hC)
 ·rcases(hf b hb).2.2.2.1 with z|z
  ·exact I.ok.noex b o e z
  ·exact absurd (yK (jY (I.ok.bs b o e).1) z) (Ru9 _)
 ·rcases yF.mp (I.aD3 b z) with q|q
  ·exact(hf b hb).2.1 q
  ·exact(hf b hb).2.2.1 q
 ·have hi:k<=i:=by
   by_cases hi:i < k
   ·unfold cσ at h2
    rw[Qn9 (by simpa using hi),Ti9,if_pos hi] at h2
    cases h2
   ·omega
  obtain⟨j,rfl⟩ : ∃j,i=k+j:=⟨i - k,by omega⟩
  have h1':N[k+j]?=some x:=h1
  obtain⟨l,e1,e2,e3⟩:=S.cap j x (by rw[List.getElem?_drop];exact h1')
  have h2':σ[l]?=some (some v):=by
   unfold cσ at h2
   rw[Qo9 (by simp),oR] at h2
   simp only[List.length_replicate,Nat.add_sub_cancel_left,e1,Option.map_some,Option.some.injEq] at h2
   cases q:σ[l]? with
   |none=>rw[q] at h2;cases h2
   |some z=>rw[q] at h2;exact congrArg some h2
  obtain⟨m0,hn0,hl⟩:=I.loc
  have hfree:(x,NameKind.free)∈scope.names:=PySem.mem_of_lookup e3
  have hk:=S.free _ hfree rfl
  obtain⟨u,r,l⟩:=hl l x v e2 h2' (by rcases hk with z|z;exact .inr (.inl z);exact .inr (.inr z))
  refine⟨u,r,.inr ⟨pB e3,?_⟩⟩
  rcases l with ⟨z,_⟩|⟨_,c,e,o,q,d⟩
  ·rcases hk with y|y
   ·rw[y] at z;cases z
   ·rw[y] at z;cases z
  ·exact⟨c,yU hcl hfree e,o,old c o q,d⟩
 ·obtain⟨v,o,q,d⟩:=I.cell x c (rY hcl e)
  exact⟨v,o,old c o q,d⟩
 ·have hp':p∈([]:List (Addr×Obj)) ++ [(D,oD)]:=hp
  have e:p=(D,oD):=by simpa using hp'
  subst e
  exact⟨eD,I.hok.fresh hD,hDC,nst D hD,dD⟩
 ·unfold cσ
  show _=N.length
  rw[S.len]
  simp
theorem aN9{s':Shared}{ys:List V}{its:List Value}{n:Nat}(I:Inv X pins σ H s)(hf:∀b∈fp,aBE X pins H b)(J:Inv (cxC X scope N fp C s H) pins' σ' H' s')(hC:s.heap.objs.size<=C)(hD:s.heap.objs.size<=D)(hDC:D≠C)(hDn:H' D=none)(eD:s'.heap.get? D=some { cls:=.type "list",data:=.seq its.toArray n })(r:Vals ys its)(hz:ys.length<=sizeLine) :
  Inv X pins σ (upd H' D (.lst ys)) s'/\aBE X pins (upd H' D (.lst ys)) C:=by
 have hk:yH X.prog X.w (upd H' D (.lst ys)) s'.heap:=yH.aMj J.hok hDn ⟨hz,its,n,r,eD⟩
 have u:Un (frs X.stack) fp H (upd H' D (.lst ys)) s.heap s'.heap:=Un.aMj J.base hD hDn
 refine⟨I.aRf J.os u hk J.bare λb hb=>⟨(hf b hb).2.2.2.1,(hf b hb).2.1,(hf b hb).2.2.2.2.1,(hf b hb).2.2.2.2.2⟩,I.aHQ hC ?_⟩
 rw[bB hDC.symm]
 exact J.free
end
def uE(J:It)(σ₀:St)(g:TG)(tt:TT)(te:TE)(R:List V->Hp->Prop)(H1:Hp):Prop:=
 ∃W:Nat->Nat->List V->Hp->Prop,(∃m,W 0 m [] H1)/\∀i m ys H,W i m ys H->ys.length<=sizeLine/\
  ((J.stop i H/\R ys H)\/(J.go i H/\∃N:List V->Hp->Prop,(∀ys' H',N ys' H'->∃m',m' < m/\W (i+1) m' ys' H')/\
   ∀x H',J.yld i H x H'->g x σ₀ H' λσ2 H2=>tt σ2 H2 λb H3=>if b=true then te σ2 H3 λy H4=>N (ys ++ [y]) H4 else N ys H3))
def aH6(wi:TI)(k:Nat)(idx:List Nat)(g:TG)(tt:TT)(te:TE):TE:=λσ H Q=>wi σ H λJ H1=>uE J (cσ k idx σ) g tt te (λys H'=>∀p,H' p=none->Q (.ref p) (upd H' p (.lst ys))) H1
def PTs(X:Cx)(ifs:List Expr)(t:TT):Prop:=
 ∀(pins:List (Addr×Obj)) (s:Shared) (σ:St) (H:Hp) (Q:Bool->Hp->Prop),Inv X pins σ H s->t σ H Q->
  wpAny (model X.prog X.w) X.A (forIn ifs true λc r=>if r=true then do let ok <-isTrue c X.env (eval c X.env);pure (ForInStep.yield ok) else pure (ForInStep.yield r)) (TP X pins σ Q) X.xe s
def aQt:TT:=λ_ H Q=>Q true H
theorem aOa:PTs X [] aQt:=λ_ _ _ H _ I h=>wpAny_tests_nil ⟨H,I,h⟩
theorem aOb(h:PT X c t):PTs X [c] t:=λpins s σ H Q I q=>wpAny_tests_one (h pins s σ H Q I q)
def Agr(k:Nat)(σ' σ:St):Prop:=σ'.length=σ.length/\∀i,k<=i->σ'[i]?=σ[i]?
theorem Agr.set{k i:Nat}{σ:St}(h:Agr k σ σb)(hi:i < k):Agr k (σ.set i v) σb:=⟨by rw[Sv9];exact h.1,λj hj=>by rw[Ta9 (by omega)];exact h.2 j hj⟩
def Own(k:Nat)(g:TG):Prop:=∀x σ H (Q:St->Hp->Prop) (σb:St),Agr k σ σb->g x σ H Q->g x σ H λσ' H'=>Agr k σ' σb/\Q σ' H'
def aOc(k:Nat)(g:TGs):Prop:=∀xs σ H (Q:St->Hp->Prop) (σb:St),Agr k σ σb->g xs σ H Q->g xs σ H λσ' H'=>Agr k σ' σb/\Q σ' H'
theorem cY{k i:Nat}(h:i < k):Own k (yO i):=λ_ _ _ _ _ a q=>⟨a.set h,q⟩
theorem yW{k:Nat}:aOc k aNN:=λ_ _ _ _ _ a ⟨e,q⟩=>⟨e,a,q⟩
theorem eO{k i:Nat}(h:i < k)(hu:aOc k u):aOc k (aJ5 (yO i) u):=λ_ _ _ Q σb a ⟨v,r,e,q⟩=>⟨v,r,e,hu r _ _ Q σb (a.set h) q⟩
theorem aBL{K:W.Frag}{n k:Nat}{u:TGs}(hu:aOc k u):Own k (aNP K n u):=λ_ _ _ Q σb a ⟨l,xs,e,h1,h2,q⟩=>⟨l,xs,e,h1,h2,hu xs _ _ Q σb a q⟩
theorem aMk(its:List Value)(u:Value)(n:Nat):({ cls:=.type "list",data:=.seq (its.toArray.push u) n }:Obj)={ cls:=.type "list",data:=.seq (its ++ [u]).toArray n }:=by
 rw[List.push_toArray]
section
variable{X:Cx}{pins:List (Addr×Obj)}{σ:St}{H:Hp}{s:Shared}{scope:Scope}{N:List Str}{k:Nat}{idx:List Nat}{fp:List Addr}
theorem aEb{elt target iter:Expr}{ifs:List Expr}{pos:Pos}{it:Addr}{tn:Nat->Heap->Prop}{J:It}{g:TG}{tt:TT}{te:TE}{R:List V->Hp->Prop}{E:Value->Shared->Prop}{RR:Value->Addr->Result->Shared->Prop}
  (S:fN X scope N k idx) (hc:X.calm=true) (I:Inv X pins σ H s) (T:Turn X.prog X.w X.K target J fp it tn) (st:tn 0 s.heap) (hf:∀b∈fp,aBE X pins H b)
  (hg:∀C,PG (cxC X scope N fp C s H) target g) (ho:Own k g) (ht:∀C,PTs (cxC X scope N fp C s H) ifs tt) (he:∀C,PE (cxC X scope N fp C s H) elt te)
  (hw:uE J (cσ k idx σ) g tt te R H)
  (hRR:∀D C s' m ys H',s'.heap.Ns C m->Inv X pins σ (upd H' D (.lst ys)) s'->aBE X pins (upd H' D (.lst ys)) C->H' D=none->R ys H'->RR (.ref D) C (.ok .next) s') :
  wpAny (model X.prog X.w) X.A (newList []) (λacc s₃=>wpAny (model X.prog X.w) X.A (newFunctionEnv scope X.env.globals (pH X.env scope.names []) [] X.env.qual none .none (some X.env)) (λcenv s₄=>
   codeAny (model X.prog X.w) X.A (.compStart (.ListComp elt [⟨target,iter,ifs,0⟩] scope pos) 0 (.ref it) acc { cenv with scope:=relabel scope X.env }) (RR acc cenv.locals) s₄) E s₃) E s:=by
 refine wpAny_newObj_type (wpAny_newFunctionEnv S.nocell (by intro y hy;simp at hy) (λh₁ hns₁ hsb₁=>?_) S.kind)
 dsimp only at hns₁ hsb₁ ⊢
 generalize hH2:s.heap.push { cls:=.type "list",dict:=none,data:=.seq ([]:List Value).toArray } = H2 at hns₁ hsb₁ ⊢
 have hCs:H2.objs.size=s.heap.objs.size+1:=by rw[<-hH2,Rv9]
 have hDC:s.heap.objs.size≠H2.objs.size:=by rw[hCs];exact vU (Tv9 _)
 have hCle:s.heap.objs.size<=H2.objs.size:=by rw[hCs];exact Nat.le_succ _
 have below:∀b,b < s.heap.objs.size->b≠H2.objs.size:=λb hb=>by rw[hCs];exact vU (Sg9 hb)
 have old:∀b o,s.heap.get? b=some o->h₁.get? b=some o:=λb o e=>hsb₁.extBut b o (below b (jY e)) (kO _ (hH2▸kO _ e))
 have hacc:h₁.get? s.heap.objs.size=some { cls:=.type "list",data:=.seq ([]:List Value).toArray 0 }:=hsb₁.extBut _ _ hDC (kO _ (hH2▸yL _ rfl))
 have st₁:tn 0 h₁:=T.keep _ _ _ st λb _ o e=>old b o e
 obtain⟨W,⟨m0,w0⟩,turn⟩:=hw
 have fp0:∀b∈fp,b < s.heap.objs.size:=λb hb=>by
  obtain⟨o,e,_⟩:=T.obj _ _ st b hb
  exact jY e
 have stat:∀{H':Hp} {pl:List (Addr×Obj)},(∀b∈fp,H' b=none)->(∀p∈pl,s.heap.objs.size<=p.1)->∀b∈fp,aBE (cxC X scope N fp H2.objs.size s H) pl H' b:=λ{H' pl} hn hp b hb=>by
  refine⟨hn b hb,below b (fp0 b hb),λz=>?_,.inl hb,λx c e=>(hf b hb).2.2.2.2.1 x c (rY (S.cells I) e),λp q z=>?_⟩
  ·have z':b∈frs X.stack:=z
   rcases yF.mp (I.aD3 b z') with q|q
   ·exact(hf b hb).2.1 q
   ·exact(hf b hb).2.2.1 q
  ·have q':p∈([]:List (Addr×Obj))++pl:=q
   have h1:=hp p (by simpa using q')
   rw[z] at h1
   exact absurd (yK (fp0 b hb) h1) (Ru9 _)
 have loop:∀s₃:Shared,s₃={ s with heap:=h₁,toks:=s.toks+([]:List (Str×Value)).length }->
   codeAny (model X.prog X.w) X.A (.compLoop (.ListComp elt [⟨target,iter,ifs,0⟩] scope pos) 0 (.ref it) (.ref s.heap.objs.size) (compEnvC scope (pH X.env scope.names []) H2.objs.size X.env))
    (RR (.ref s.heap.objs.size) H2.objs.size) s₃:=by
  rintro s₃ rfl
  refine aH3 (λn s'=>∃i ys its H' nn,Inv (cxC X scope N fp H2.objs.size s H) [(s.heap.objs.size,{ cls:=.type "list",data:=.seq its.toArray nn })] (cσ k idx σ) H' s'/\tn i s'.heap/\(∀b∈fp,H' b=none)/\Vals ys its/\W i n ys H') ?_ m0
   ⟨0,[],[],H,0,aK3 S I hf (λb hb=>let ⟨o,e,_⟩:=T.obj _ _ st b hb;⟨o,e⟩) hCle (gB _) hDC hns₁ old hacc (λv z=>by cases z),st₁,λb hb=>(hf b hb).1,.nil,w0⟩
  rintro n s' ⟨i,ys,its,H',nn,I',st',fr',rv,w'⟩
  obtain⟨hz,alt⟩:=turn i n ys H' w'
  have pl:∀p∈[((s.heap.objs.size:Addr),({ cls:=.type "list",data:=.seq its.toArray nn }:Obj))],s.heap.objs.size<=p.1:=λp hp=>by
   have e:p=((s.heap.objs.size:Addr),({ cls:=.type "list",data:=.seq its.toArray nn }:Obj)):=by simpa using hp
   rw[e]
   exact gB _
  rcases alt with ⟨stop,q⟩|⟨go,Nx,hN,step⟩
  ·refine dW (T.done (cxC X scope N fp H2.objs.size s H) rfl rfl rfl hc i _ s' _ H' _ I' (stat fr' pl) st' stop) λr s4 ⟨hr,I4⟩=>?_
   subst hr
   obtain⟨eD,nD,_⟩:=I4.pin _ (Qy9 _ Qx9)
   obtain⟨a1,a2⟩:=aN9 I hf I4 hCle (gB _) hDC nD eD rv hz
   obtain⟨m4,hn4,_⟩:=I4.loc
   exact hRR _ _ s4 m4 ys H' hn4 a1 a2 nD q
  ·refine dW (T.item (cxC X scope N fp H2.objs.size s H) rfl rfl rfl hc i _ s' _ H' _ I' (stat fr' pl) st' go) λr s4 ⟨u,hr,h4⟩=>?_
   subst hr
   refine dW h4 λ_ s5 ⟨x,H5,I5,r5,y5,st5,fr5⟩=>?_
   have I5':=I5.pinned (stat fr5 pl) (T.obj _ _ st5)
   have noE:∀{α:Type} {t:Sem α} {Q:α->Shared->Prop} {E':Value->Shared->Prop} {sx:Shared},wpAny (model X.prog X.w) X.A t Q (λ_ _=>False) sx->wpAny (model X.prog X.w) X.A t Q E' sx:=λh=>wpAny_mono h (λ_ _ q=>q) λ_ _ z=>z.elim
   refine noE (dW (hg _ _ s5 _ H5 x u _ I5' r5 (ho x _ H5 _ _ ⟨rfl,λ_ _=>rfl⟩ (step x H5 y5))) λ_ s6 ⟨σ6,H6,I6,ag,q6⟩=>?_)
   have back:∀{H7:Hp} {s7:Shared},Inv (cxC X scope N fp H2.objs.size s H) ([((s.heap.objs.size:Addr),({ cls:=.type "list",data:=.seq its.toArray nn }:Obj))] ++ aD5 fp s5.heap) σ6 H7 s7->
     Inv (cxC X scope N fp H2.objs.size s H) [((s.heap.objs.size:Addr),({ cls:=.type "list",data:=.seq its.toArray nn }:Obj))] (cσ k idx σ) H7 s7/\tn (i+1) s7.heap/\∀b∈fp,H7 b=none:=λ{H7 s7} I7=>by
    refine⟨I7.aBF.weak (by rw[ag.1]) λj v e=>?_,T.keep _ _ _ st5 λb hb o e=>(I7.pin (b,o) (Qy9 _ (Qy9 _ (vV hb e)))).1,λb hb=>?_⟩
    ·have hj:k<=j:=by
      by_cases hj:j < k
      ·unfold cσ at e
       rw[Qn9 (by simpa using hj),Ti9,if_pos hj] at e
       cases e
      ·omega
     rw[ag.2 j hj]
     exact e
    ·obtain⟨o,e,d⟩:=T.obj _ _ st5 b hb
     exact(I7.pin (b,o) (Qy9 _ (Qy9 _ (vV hb e)))).2.1
   refine noE (dW (ht _ _ s6 σ6 H6 _ I6 q6) λb s7 ⟨H7,I7,q7⟩=>?_)
   cases b with
   |false=>
    rw[if_neg Qr9] at q7 ⊢
    obtain⟨m',hm,w7⟩:=hN _ _ q7
    obtain⟨b1,b2,b3⟩:=back I7
    exact⟨m',hm,i+1,ys,its,H7,nn,b1,b2,b3,rv,w7⟩
   |true=>
    rw[if_pos rfl] at q7 ⊢
    refine noE (dW (he _ _ s7 σ6 H7 _ I7 q7) λy s8 ⟨z,H8,I8,r8,q8⟩=>?_)
    obtain⟨m',hm,w8⟩:=hN _ _ q8
    obtain⟨b1,b2,b3⟩:=back I8
    obtain⟨eD,nD,neD,nfD,_⟩:=b1.pin _ (Qy9 _ Qx9)
    have lenV:=rv.length
    refine append_at (hsz:=by rw[lX,<-lenV];exact hz) eD λh9 hs9 hD9=>?_
    have b1':Inv (cxC X scope N fp H2.objs.size s H) [] (cσ k idx σ) H8 s8:=b1.aDY λp hp=>by cases hp
    have I9:Inv (cxC X scope N fp H2.objs.size s H) [] (cσ k idx σ) H8 { s8 with heap:=h9 }:=b1'.turned (t':=s8.toks) (λb o hb e=>(hs9.2 b hb).trans e) nD neD (.inr (gB _)) (λx c e z=>by
     obtain⟨v,q⟩:=I.cell x c (rY (S.cells I) e)
     exact absurd (yK q.lt (by rw[z];exact gB _)) (Ru9 _)) (λp hp=>by
     have hp':p∈([]:List (Addr×Obj)) ++ []:=hp
     simp at hp')
    refine⟨m',hm,i+1,ys ++ [z],its ++ [y],H8,nn+1,I9.aDY λp hp=>?_,T.keep _ _ _ b2 λb hb o e=>(hs9.2 b (vU (fp0 b hb))).trans e,b3,rv.append (.cons r8 .nil),w8⟩
    have e:p=((s.heap.objs.size:Addr),({ cls:=.type "list",data:=.seq (its ++ [y]).toArray (nn+1) }:Obj)):=by simpa using hp
    subst e
    exact⟨by rw[<-aMk];exact hD9,nD,neD,nfD,λv z=>by cases z⟩
 exact codeAny_compStart_list (loop _ rfl) (T.self _ 0 _ _ _ st₁ (loop _ rfl))
theorem aOd(k:Nat)(idx:List Nat){N:List Str}{elt target iter:Expr}{ifs:List Expr}{pos:Pos}{wi:TI}{g:TG}{tt:TT}{te:TE}(S:fN X scope N k idx)(hc:X.calm=true)(hi:PI X target iter wi)
  (hg:∀fp C s H,PG (cxC X scope N fp C s H) target g) (ho:Own k g) (ht:∀fp C s H,PTs (cxC X scope N fp C s H) ifs tt) (he:∀fp C s H,PE (cxC X scope N fp C s H) elt te)
  (hs:∀x,foldedSetIterable iter X.env x=pure x:=by intro _;rfl):PE X (.ListComp elt [⟨target,iter,ifs,0⟩] scope pos) (aH6 wi k idx g tt te):=by
 intro pins s σ H Q I h
 rw[eval_ListComp]
 refine wpAny_comprehension_free (use:=none) rfl hs (aBg (S.cells I)) S.kind S.names (dW (hi pins s σ H _ I h) λv s1 h1=>dW h1 λitv s2 h2=>?_)
 obtain⟨it,fp,tn,J,H2,e,I2,T,st2,f2,w2⟩:=h2
 subst e
 refine aEb (RR:=λacc C=>compPost (model X.prog X.w) X.A X.xe none (EP X pins σ Q) acc C) S hc I2 T st2 f2 (λC=>hg fp C s2 H2) ho (λC=>ht fp C s2 H2) (λC=>he fp C s2 H2) w2 λD C s' m ys H' hn I' fC hD q=>?_
 refine⟨m,hn,λh'' hs''=>⟨.ref D,_,I'.turned (t':=s'.toks) (λb o hb e=>(hs''.2 b hb).trans e) fC.1 fC.2.1 fC.2.2.2.1 fC.2.2.2.2.1 fC.2.2.2.2.2,rfl,q D hD⟩⟩
theorem aOe(k:Nat)(idx:List Nat){i:Nat}{x:Str}{N:List Str}{elt target iter:Expr}{ifs:List Expr}{pos pos' spos:Pos}{wi:TI}{g:TG}{tt:TT}{te:TE}(hN:X.N.Nodup)(hix:X.N[i]?=some x)(hx:Loc X.env.scope x)
  (S:fN X scope N k idx) (hc:X.calm=true) (hi:PI X target iter wi)
  (hg:∀fp C s H,PG (cxC X scope N fp C s H) target g) (ho:Own k g) (ht:∀fp C s H,PTs (cxC X scope N fp C s H) ifs tt) (he:∀fp C s H,PE (cxC X scope N fp C s H) elt te)
  (hsw:swapsWith (.ListComp elt [⟨target,iter,ifs,0⟩] scope pos) (some (.Name x pos')) spos.line X.env=pure true:=by rfl)
  (hs:∀x,foldedSetIterable iter X.env x=pure x:=by intro _;rfl) (hfn:X.fn x=true\/X.env.scope.names.lookup x=some .local:=by first|exact .inl rfl|exact .inr rfl|assumption) :
  PS X (.Assign [.Name x pos'] (.ListComp elt [⟨target,iter,ifs,0⟩] scope pos) spos) (aHP (aH6 wi k idx g tt te) (yO i)):=by
 intro pins s σ H D I h
 rw[exec_Assign_Name_used _ _ _ _ hsw]
 refine wpAny_bind (wpAny_standAt (wpAny_bind ?_))
 show wpAny _ X.A (do let _ <-comprehension (.ListComp elt [⟨target,iter,ifs,0⟩] scope pos) scope X.env _ (newList []) false (eval iter X.env) (some (assign (.Name x pos') X.env))) _ _ s
 refine wpAny_bind (wpAny_mono (wpAny_comprehension_free (use:=some (assign (.Name x pos') X.env)) (Q:=λ_ s'=>SP X pins D .next s') rfl hs (aBg (S.cells I)) S.kind S.names
  (dW (hi pins s σ H _ I h) λv s1 h1=>dW h1 λitv s2 h2=>?_)) (λ_ s' hq=>wpAny_pure (wpAny_pure hq)) λ_ _ e=>e)
 obtain⟨it,fp,tn,J,H2,e,I2,T,st2,f2,w2⟩:=h2
 subst e
 refine aEb (RR:=λacc C=>compPost (model X.prog X.w) X.A X.xe (some (assign (.Name x pos') X.env)) (λ_ s'=>SP X pins D .next s') acc C) S hc I2 T st2 f2 (λC=>hg fp C s2 H2) ho (λC=>ht fp C s2 H2) (λC=>he fp C s2 H2) w2 λD' C s' m ys H' hn I' fC hD q=>?_
 show wpAny _ X.A (assign (.Name x pos') X.env (.ref D')) _ _ s'
 refine wpAny_assign_Name (aF4 I' hN hix hx (show RelV (.ref D') (.ref D') from rfl) (λs3 I3 ⟨a,sb,ha⟩=>?_) hfn)
 have hCa:C≠a:=by
  rcases ha with z|z
  ·rw[z];exact fC.2.1
  ·exact(fC.2.2.2.2.1 x a z).symm
 refine⟨m,hn.sameBut sb hCa,λh'' hs''=>⟨_,_,I3.turned (t':=s3.toks) (λb o hb e=>(hs''.2 b hb).trans e) fC.1 fC.2.1 fC.2.2.2.1 fC.2.2.2.2.1 fC.2.2.2.2.2,q D' hD⟩⟩
end
theorem fO{K:W.Frag}{a:Addr}{xs:List V}{σ₀:St}{g:TG}{tt:TT}{te:TE}{R:List V->Hp->Prop}{H:Hp}(Pv:Nat->List V->Hp->Prop)(h0:Pv 0 [] H)(hz:xs.length<=sizeLine)
  (hl:∀i ys H,i<=xs.length->Pv i ys H->bV K H a xs/\ys.length<=i)
  (hs:∀i x ys H,xs[i]?=some x->Pv i ys H->g x σ₀ H λσ2 H2=>tt σ2 H2 λb H3=>if b=true then te σ2 H3 λy H4=>Pv (i+1) (ys ++ [y]) H4 else Pv (i+1) ys H3)
  (hd:∀ys H,Pv xs.length ys H->R ys H):uE (Itl K a) σ₀ g tt te R H:=by
 refine⟨λi m ys H=>m=xs.length - i/\i<=xs.length/\Pv i ys H,⟨xs.length,by simp,Rn9 _,h0⟩,?_⟩
 rintro i m ys H ⟨rfl,hi,p⟩
 obtain⟨q,ql⟩:=hl i ys H hi p
 refine⟨by omega,?_⟩
 by_cases hlt:i < xs.length
 ·refine .inr ⟨⟨xs,xs[i],q,by simp[hlt]⟩,Pv (i+1),λys' H' p'=>⟨xs.length - (i+1),by omega,rfl,hlt,p'⟩,λx H' y=>?_⟩
  obtain⟨e,y⟩:=y
  subst e
  exact hs i x ys _ (y xs q) p
 ·have e:i=xs.length:=by omega
  subst e
  exact .inl ⟨⟨xs,q,gB _⟩,hd ys H p⟩
theorem aMl{K:W.Frag}{a:Addr}{xs:List V}{σ₀:St}{g:TG}{tt:TT}{te:TE}{R:List V->Hp->Prop}{H:Hp}(Pv:Nat->List V->Hp->Prop)(h0:Pv 0 [] H)(hz:xs.length<=sizeLine)
  (hl:∀i ys H,i<=xs.length->Pv i ys H->kQ K H a xs/\ys.length<=i)
  (hs:∀i x ys H,xs[i]?=some x->Pv i ys H->g x σ₀ H λσ2 H2=>tt σ2 H2 λb H3=>if b=true then te σ2 H3 λy H4=>Pv (i+1) (ys ++ [y]) H4 else Pv (i+1) ys H3)
  (hd:∀ys H,Pv xs.length ys H->R ys H):uE (Itt K a) σ₀ g tt te R H:=by
 refine⟨λi m ys H=>m=xs.length - i/\i<=xs.length/\Pv i ys H,⟨xs.length,by simp,Rn9 _,h0⟩,?_⟩
 rintro i m ys H ⟨rfl,hi,p⟩
 obtain⟨q,ql⟩:=hl i ys H hi p
 refine⟨by omega,?_⟩
 by_cases hlt:i < xs.length
 ·refine .inr ⟨⟨xs,xs[i],q,by simp[hlt]⟩,Pv (i+1),λys' H' p'=>⟨xs.length - (i+1),by omega,rfl,hlt,p'⟩,λx H' y=>?_⟩
  obtain⟨e,y⟩:=y
  subst e
  exact hs i x ys _ (y xs q) p
 ·have e:i=xs.length:=by omega
  subst e
  exact .inl ⟨⟨xs,q,gB _⟩,hd ys H p⟩
theorem iH{lo:Int}{n:Nat}{g:TG}{R:List V->Hp->Prop}(Pv:Nat->List V->Hp->Prop)(h0:Pv 0 [] H)(hz:n<=sizeLine)(hl:∀i ys H,i<=n->Pv i ys H->ys.length<=i)(hs:∀i ys H,i < n->Pv i ys H->g (.int (lo+i)) σ₀ H λσ2 H2=>tt σ2 H2 λb H3=>if b=true then te σ2 H3 λy H4=>Pv (i+1) (ys ++ [y]) H4 else Pv (i+1) ys H3)(hd:∀ys H,Pv n ys H->R ys H):uE (Itr lo n) σ₀ g tt te R H:=by
 refine⟨λi m ys H=>m=n - i/\i<=n/\Pv i ys H,⟨n,by simp,Rn9 _,h0⟩,?_⟩
 rintro i m ys H ⟨rfl,hi,p⟩
 have ql:=hl i ys H hi p
 refine⟨by omega,?_⟩
 by_cases hlt:i < n
 ·refine .inr ⟨hlt,Pv (i+1),λys' H' p'=>⟨n - (i+1),by omega,rfl,hlt,p'⟩,λx H' y=>?_⟩
  obtain⟨e,y⟩:=y
  subst e y
  exact hs i ys _ hlt p
 ·have e:i=n:=by omega
  subst e
  exact .inl ⟨gB _,hd ys H p⟩
end L2
namespace L2
open PySem PySem.Spec PyProof.Rows
theorem aJm:bootBuiltins "int" = some (.type "int"):=by decide +kernel
theorem aOf:bootBuiltins "bool" = some (.type "bool"):=by decide +kernel
theorem rZ:bootBuiltins "list" = some (.type "list"):=by decide +kernel
theorem vA:bootBuiltins "tuple" = some (.type "tuple"):=by decide +kernel
theorem aH7:bootBuiltins "range" = some (.type "range"):=by decide +kernel
theorem dR:bootBuiltins "len" = some (.builtin "len"):=by decide +kernel
theorem aQu:bootBuiltins "abs" = some (.builtin "abs"):=by decide +kernel
theorem mD:bootBuiltins "max" = some (.builtin "max"):=by decide +kernel
theorem yX:bootBuiltins "min" = some (.builtin "min"):=by decide +kernel
theorem aEc:bootBuiltins "sum" = some (.builtin "sum"):=by decide +kernel
theorem aJn:bootBuiltins "all" = some (.builtin "all"):=by decide +kernel
theorem aGc:bootBuiltins "sorted" = some (.builtin "sorted"):=by decide +kernel
theorem fA:bootBuiltins "isinstance" = some (.builtin "isinstance"):=by decide +kernel
section
variable{X:Cx}
def aMm:R2:=λx y H Q=>rI0 (λi j=>.int (i+j)) x y H Q\/aRw x y H Q
theorem bI:yP X (binaryOp .Add) aMm:=aP5.or aQi
def aPm:R2:=λx y H Q=>rI aLV (λi j=>.int (i*j)) x y H Q\/aRx x y H Q
theorem bN:yP X (binaryOp .Mult) aPm:=aP6.or aQj
def aK4(K:W.Frag):V->Option Int->Option Int->Hp->VK->Prop:=λx lo hi H Q=>aRu K x lo hi H Q\/aRp K x lo hi H Q
theorem aOg:SlR X (aK4 X.K):=aN5.or aQc
def EqN(K:W.Frag)(H:Hp):Nat->V->V->Bool->Prop
 |0,x,y,b=>yQ x=true/\yQ y=true/\b=eqV x y
 |n+1,x,y,b=>(yQ x=true/\yQ y=true/\b=eqV x y)\/
  ∃(p q:Addr) (xs ys:List V) (e:Nat->Bool),x=.ref p/\y=.ref q/\((bV K H p xs/\bV K H q ys)\/(kQ K H p xs/\kQ K H q ys))/\
   (∀(j:Nat) u v,xs[j]?=some u->ys[j]?=some v->EqN K H n u v (e j))/\b=(xs.length == ys.length && (List.range xs.length).all e)
theorem aH8(h:yQ x=true):eqV x x=true:=by
 cases x with
 |non=>rfl
 |bl b=>cases b <;> rfl
 |int i=>exact beq_self_eq_true i
 |str z=>exact beq_self_eq_true z
 |_=>exact absurd (show false=true from h) Qr9
theorem aH9(I:Inv X pins σ H s):∀{n:Nat}{x:V}{b:Bool},EqN X.K H n x x b->b=true
 |0,x,b,⟨h,_,e⟩=>by rw[e];exact aH8 h
 |n+1,x,b,h=>by
  rcases h with ⟨h,_,e⟩|⟨p,q,xs,ys,e,e1,e2,hs,he,eb⟩
  ·rw[e];exact aH8 h
  ·subst e1
   cases e2
   have exy:xs=ys:=by
    rcases hs with ⟨h1,h2⟩|⟨h1,h2⟩
    ·exact I.aD4 h1 h2
    ·exact I.aF5 h1 h2
   subst exy
   rw[eb,beq_self_eq_true,Sx9,Sq9]
   intro j hj
   have hj':j < xs.length:=Rs9.mp hj
   exact aH9 I (he j xs[j] xs[j] (dQ hj') (dQ hj'))
theorem aMn(I:Inv X pins σ H s):∀{n:Nat}{A:Around}{x y:V}{u v:Value}{b:Bool},A.units+n < cLine->RelV x u->RelV y v->EqN X.K H n x y b->SeqAt.EqAt A s u v b
 |0,A,x,y,u,v,b,_,rx,ry,⟨h1,h2,e⟩=>by rw[e];exact aMa rx ry h1 h2
 |n+1,A,x,y,u,v,b,hu,rx,ry,h=>by
  rcases id h with ⟨h1,h2,e⟩|⟨p,q,xs,ys,e,e1,e2,hs,he,eb⟩
  ·rw[e];exact aMa rx ry h1 h2
  ·subst e1 e2
   cases rx
   cases ry
   by_cases hpq:p=q
   ·subst hpq
    rw[aH9 I h]
    exact SeqAt.EqAt.same _
   ·refine SeqAt.EqAt.of_refs hpq ?_
    have items:∀{us vs:List Value},Vals xs us->Vals ys vs->∀j (h1:j < us.toArray.size) (h2:j < vs.toArray.size),SeqAt.EqAt A.in1 s us.toArray[j] vs.toArray[j] (e j):=λ{us vs} r1 r2 j h1 h2=>by
     have l1:=r1.length
     have l2:=r2.length
     rw[lX] at h1 h2
     have g1:xs[j]?=some xs[j]:=dQ (by omega)
     have g2:ys[j]?=some ys[j]:=dQ (by omega)
     obtain⟨u',eu,ru⟩:=r1.get g1
     obtain⟨v',ev,rv⟩:=r2.get g2
     have eu':us.toArray[j]=u':=by
      rw[Tb9]
      exact Option.some.inj ((dQ h1).symm.trans eu)
     have ev':vs.toArray[j]=v':=by
      rw[Tb9]
      exact Option.some.inj ((dQ h2).symm.trans ev)
     rw[eu',ev']
     exact aMn I (n:=n) (by show A.units+1+n < cLine;omega) ru rv (he j _ _ g1 g2)
    rcases hs with ⟨h1,h2⟩|⟨h1,h2⟩
    ·obtain⟨us,r1,p1,_⟩:=I.list h1
     obtain⟨vs,r2,p2,_⟩:=I.list h2
     have l1:=r1.length
     have l2:=r2.length
     by_cases hl:xs.length=ys.length
     ·rw[eb,hl,beq_self_eq_true,Sx9,<-hl,show xs.length=us.toArray.size by rw[lX];exact l1]
      exact SeqAt.RcAt.lists p1.isList p2.isList (by rw[lX,lX];omega) (by omega) (items r1 r2)
     ·rw[eb,show(xs.length == ys.length)=false by simpa using hl,Ss9]
      exact SeqAt.RcAt.lists_lengths p1.isList p2.isList (by rw[lX,lX];simp;omega) (by omega)
    ·obtain⟨us,r1,p1,_⟩:=I.tuple h1
     obtain⟨vs,r2,p2,_⟩:=I.tuple h2
     have l1:=r1.length
     have l2:=r2.length
     have q:=SeqAt.RcAt.tuples (s:=s) (A:=A) (l:=p) (b:=q) (e:=e) p1 p2 (by omega) (items r1 r2)
     rw[lX,lX,<-l1,<-l2] at q
     by_cases hl:xs.length=ys.length
     ·rw[eb,hl,beq_self_eq_true,Sx9]
      rw[hl,Nat.min_self,beq_self_eq_true,Bool.and_true] at q
      exact q
     ·have hb:(xs.length == ys.length)=false:=by simpa using hl
      rw[eb,hb,Ss9]
      rw[hb,Bool.and_false] at q
      exact q
def oV(K:W.Frag):R2:=λx y H Q=>∃b,EqN K H 8 x y b/\Q (.bl b) H
def aMo(K:W.Frag):R2:=λx y H Q=>∃b,EqN K H 8 x y b/\Q (.bl (!b)) H
theorem aAr{n:Nat}{A:Around}{xs ys:List V}{us vs:List Value}{e:Nat->Bool}(I:Inv X pins σ H s)(hu:A.units+1+n < cLine)(he:∀(j:Nat) u v,xs[j]?=some u->ys[j]?=some v->EqN X.K H n u v (e j))(r1:Vals xs us)(r2:Vals ys vs):∀j (h1:j < us.toArray.size) (h2:j < vs.toArray.size),SeqAt.EqAt A.in1 s us.toArray[j] vs.toArray[j] (e j):=λj h1 h2=>by
 have l1:=r1.length
 have l2:=r2.length
 rw[lX] at h1 h2
 have g1:xs[j]?=some xs[j]:=dQ (by omega)
 have g2:ys[j]?=some ys[j]:=dQ (by omega)
 obtain⟨u',eu,ru⟩:=r1.get g1
 obtain⟨v',ev,rv⟩:=r2.get g2
 have eu':us.toArray[j]=u':=by
  rw[Tb9]
  exact Option.some.inj ((dQ h1).symm.trans eu)
 have ev':vs.toArray[j]=v':=by
  rw[Tb9]
  exact Option.some.inj ((dQ h2).symm.trans ev)
 rw[eu',ev']
 exact aMn I (n:=n) (by show A.units+1+n < cLine;omega) ru rv (he j _ _ g1 g2)
theorem aQv(ry:RelV y u)(rx:RelV x v)(fy:yQ y=true)(fx:yQ x=true):SeqAt.RcAt A s u v (eqV y x):=by
 cases y with
 |non=>
  cases ry
  cases x with
  |non=>cases rx;exact SeqAt.RcAt.none_none
  |bl b=>cases rx;exact SeqAt.RcAt.none_bool b
  |int b=>obtain⟨t,rfl⟩:=rx;exact SeqAt.RcAt.none_int b t
  |str b=>obtain⟨t,rfl⟩:=rx;exact SeqAt.RcAt.none_str b t
  |_=>exact absurd (show false=true from fx) Qr9
 |bl a=>
  cases ry
  cases x with
  |non=>cases rx;exact SeqAt.RcAt.bool_none a
  |bl b=>cases rx;exact SeqAt.RcAt.bool_bool a b
  |int b=>obtain⟨t,rfl⟩:=rx;exact SeqAt.RcAt.bool_int a b t
  |str b=>obtain⟨t,rfl⟩:=rx;exact SeqAt.RcAt.bool_str a b t
  |_=>exact absurd (show false=true from fx) Qr9
 |int a=>
  obtain⟨t',rfl⟩:=ry
  cases x with
  |non=>cases rx;exact SeqAt.RcAt.int_none a t'
  |bl b=>cases rx;exact SeqAt.RcAt.int_bool a t' b
  |int b=>obtain⟨t,rfl⟩:=rx;exact SeqAt.RcAt.int_int a t' b t
  |str b=>obtain⟨t,rfl⟩:=rx;exact SeqAt.RcAt.int_str a t' b t
  |_=>exact absurd (show false=true from fx) Qr9
 |str a=>
  obtain⟨t',rfl⟩:=ry
  cases x with
  |non=>cases rx;exact SeqAt.RcAt.str_none a t'
  |bl b=>cases rx;exact SeqAt.RcAt.str_bool a t' b
  |int b=>obtain⟨t,rfl⟩:=rx;exact SeqAt.RcAt.str_int a t' b t
  |str b=>obtain⟨t,rfl⟩:=rx;exact SeqAt.RcAt.str_str a t' b t
  |_=>exact absurd (show false=true from fx) Qr9
 |_=>exact absurd (show false=true from fy) Qr9
theorem aMp(ry:RelV y u)(rx:RelV x v)(fy:yQ y=true)(fx:yQ x=true):SeqAt.RcNeAt A s u v (!eqV y x):=by
 cases y with
 |non=>
  cases ry
  cases x with
  |non=>cases rx;exact SeqAt.RcNeAt.none_none
  |bl b=>cases rx;exact SeqAt.RcNeAt.none_bool b
  |int b=>obtain⟨t,rfl⟩:=rx;exact SeqAt.RcNeAt.none_int b t
  |str b=>obtain⟨t,rfl⟩:=rx;exact SeqAt.RcNeAt.none_str b t
  |_=>exact absurd (show false=true from fx) Qr9
 |bl a=>
  cases ry
  cases x with
  |non=>cases rx;exact SeqAt.RcNeAt.bool_none a
  |bl b=>cases rx;exact SeqAt.RcNeAt.bool_bool a b
  |int b=>obtain⟨t,rfl⟩:=rx;exact SeqAt.RcNeAt.bool_int a b t
  |str b=>obtain⟨t,rfl⟩:=rx;exact SeqAt.RcNeAt.bool_str a b t
  |_=>exact absurd (show false=true from fx) Qr9
 |int a=>
  obtain⟨t',rfl⟩:=ry
  cases x with
  |non=>cases rx;exact SeqAt.RcNeAt.int_none a t'
  |bl b=>cases rx;exact SeqAt.RcNeAt.int_bool a t' b
  |int b=>obtain⟨t,rfl⟩:=rx;exact SeqAt.RcNeAt.int_int a t' b t
  |str b=>obtain⟨t,rfl⟩:=rx;exact SeqAt.RcNeAt.int_str a t' b t
  |_=>exact absurd (show false=true from fx) Qr9
 |str a=>
  obtain⟨t',rfl⟩:=ry
  cases x with
  |non=>cases rx;exact SeqAt.RcNeAt.str_none a t'
  |bl b=>cases rx;exact SeqAt.RcNeAt.str_bool a t' b
  |int b=>obtain⟨t,rfl⟩:=rx;exact SeqAt.RcNeAt.str_int a t' b t
  |str b=>obtain⟨t,rfl⟩:=rx;exact SeqAt.RcNeAt.str_str a t' b t
  |_=>exact absurd (show false=true from fx) Qr9
 |_=>exact absurd (show false=true from fy) Qr9
theorem eE(hu:X.A.units+9 < cLine):yP X (compareOp .Eq) (oV X.K):=by
 intro pins s σ H x y v u Q I rx ry h
 obtain⟨b,h,q⟩:=h
 have fin:EP X pins σ Q (.bool b) s:=⟨.bl b,H,I,rfl,q⟩
 rcases h with ⟨h1,h2,e⟩|⟨p,l,xs,ys,e,e1,e2,hs,he,eb⟩
 ·exact aQv rx ry h1 h2 X.prog X.w X.xe _ (by rw[<-e];exact fin)
 ·subst e1 e2
  cases rx
  cases ry
  rcases hs with ⟨h1,h2⟩|⟨h1,h2⟩
  ·obtain⟨us,r1,p1,_⟩:=I.list h1
   obtain⟨vs,r2,p2,_⟩:=I.list h2
   have l1:=r1.length
   have l2:=r2.length
   by_cases hl:xs.length=ys.length
   ·refine SeqAt.RcAt.lists p1.isList p2.isList (by rw[lX,lX];omega) (by omega) (aAr I (n:=7) (A:=X.A) (by omega) he r1 r2) X.prog X.w X.xe _ ?_
    rw[lX,<-l1]
    rw[eb,hl,beq_self_eq_true,Sx9,<-hl] at fin
    exact fin
   ·refine SeqAt.RcAt.lists_lengths p1.isList p2.isList (by rw[lX,lX];simp;omega) (by omega) X.prog X.w X.xe _ ?_
    rw[eb,show(xs.length == ys.length)=false by simpa using hl,Ss9] at fin
    exact fin
  ·obtain⟨us,r1,p1,_⟩:=I.tuple h1
   obtain⟨vs,r2,p2,_⟩:=I.tuple h2
   have l1:=r1.length
   have l2:=r2.length
   refine SeqAt.RcAt.tuples p1 p2 (by omega) (aAr I (n:=7) (A:=X.A) (by omega) he r1 r2) X.prog X.w X.xe _ ?_
   rw[lX,lX,<-l1,<-l2]
   rw[eb] at fin
   by_cases hl:xs.length=ys.length
   ·rw[hl,beq_self_eq_true,Sx9] at fin
    rw[hl,Nat.min_self,beq_self_eq_true,Bool.and_true]
    exact fin
   ·have hb:(xs.length == ys.length)=false:=by simpa using hl
    rw[hb,Ss9] at fin
    rw[hb,Bool.and_false]
    exact fin
theorem aJo(hu:X.A.units+9 < cLine):yP X (compareOp .NotEq) (aMo X.K):=by
 intro pins s σ H x y v u Q I rx ry h
 obtain⟨b,h,q⟩:=h
 have fin:EP X pins σ Q (.bool (!b)) s:=⟨.bl (!b),H,I,rfl,q⟩
 rcases h with ⟨h1,h2,e⟩|⟨p,l,xs,ys,e,e1,e2,hs,he,eb⟩
 ·exact aMp rx ry h1 h2 X.prog X.w X.xe _ (by rw[<-e];exact fin)
 ·subst e1 e2
  cases rx
  cases ry
  rcases hs with ⟨h1,h2⟩|⟨h1,h2⟩
  ·obtain⟨us,r1,p1,_⟩:=I.list h1
   obtain⟨vs,r2,p2,_⟩:=I.list h2
   have l1:=r1.length
   have l2:=r2.length
   by_cases hl:xs.length=ys.length
   ·refine SeqAt.RcNeAt.lists p1.isList p2.isList (by rw[lX,lX];omega) (by omega) (aAr I (n:=7) (A:=X.A) (by omega) he r1 r2) X.prog X.w X.xe _ ?_
    rw[lX,<-l1]
    rw[eb,hl,beq_self_eq_true,Sx9,<-hl] at fin
    exact fin
   ·refine SeqAt.RcNeAt.lists_lengths p1.isList p2.isList (by rw[lX,lX];simp;omega) (by omega) X.prog X.w X.xe _ ?_
    rw[eb,show(xs.length == ys.length)=false by simpa using hl,Ss9] at fin
    exact fin
  ·obtain⟨us,r1,p1,_⟩:=I.tuple h1
   obtain⟨vs,r2,p2,_⟩:=I.tuple h2
   have l1:=r1.length
   have l2:=r2.length
   refine SeqAt.RcNeAt.tuples p1 p2 (by omega) (aAr I (n:=7) (A:=X.A) (by omega) he r1 r2) X.prog X.w X.xe _ ?_
   rw[lX,lX,<-l1,<-l2]
   rw[eb] at fin
   by_cases hl:xs.length=ys.length
   ·rw[hl,beq_self_eq_true,Sx9] at fin
    rw[hl,Nat.min_self,beq_self_eq_true,Bool.and_true]
    exact fin
   ·have hb:(xs.length == ys.length)=false:=by simpa using hl
    rw[hb,Ss9] at fin
    rw[hb,Bool.and_false]
    exact fin
def IsI(K:W.Frag)(H:Hp)(x:V)(c:V)(b:Bool):Prop:=∃t,aBH K H x t/\((∃T,c=.ty T/\PySem.W.kitOne K t (.type T)=some b)\/(∃C,c=.ref C/\PySem.W.kitOne K t (.ref C)=some b))
theorem aMq:eC X (.builtin "isinstance") (λxs H Q=>∃x c b,xs=[x,c]/\IsI X.K H x c b/\Q (.bl b) H):=by
 intro pins s σ H xs us Q I r h
 obtain⟨x,c,b,rfl,⟨t,ty,hc⟩,q⟩:=h
 obtain⟨u,w',rfl,rx,ry⟩:=vals2 r
 rcases hc with ⟨T,rfl,e⟩|⟨C,rfl,e⟩
 ·cases ry
  exact aF6 I rx ty e λtk=>⟨.bl b,H,I.tok _,rfl,q⟩
 ·cases ry
  exact aF6 I rx ty e λtk=>⟨.bl b,H,I.tok _,rfl,q⟩
end
end L2
namespace L2
open PySem PySem.Spec PyProof.Rows
section
variable{X:Cx}
def gIx(K:W.Frag):V->V->Hp->VK->Prop:=λx y H Q=>∃p xs i v,x=.ref p/\y=.int i/\bV K H p xs/\0<=i/\xs[i.toNat]?=some v/\Q v H
theorem aMr:aPZ X (gIx X.K):=by
 intro pins s σ H x y v u Q I rx ry h
 obtain⟨p,xs,i,z,rfl,rfl,hq,h0,he,q⟩:=h
 cases rx
 obtain⟨t,rfl⟩:=ry
 obtain⟨its,r,pl,hz⟩:=I.list hq
 obtain⟨w,ew,rw'⟩:=r.get he
 have hl:=r.length
 have hn:=aCB
 have hi:i.toNat < xs.length:=(lZ.mp he).1
 exact wpAny_getItem_list pl.isList h0 (by omega) (by simpa using ew) ⟨z,H,I,rw',q⟩
theorem jO{k:Nat}{A:Around}(hr:fJ k A):A.units+9 < cLine:=by have:=hr.un;omega
end
section
variable{σ:St}{H:Hp}{nx bk ct:St->Hp->Prop}{rt:VK}{Q:VK}{QT:Bool->Hp->Prop}{QA:List V->Hp->Prop}{QG:St->Hp->Prop}
theorem aS{t:TS}{D:Ends}{σ σ':St}(e:σ'=σ)(h:t D σ H):t D σ' H:=e▸h
theorem aMs{u:TS}(h:t ⟨u ⟨nx,rt,bk,ct⟩,rt,bk,ct⟩ σ H):aLL t u ⟨nx,rt,bk,ct⟩ σ H:=h
theorem aOh(h:nx σ H):aLK ⟨nx,rt,bk,ct⟩ σ H:=h
theorem aQw(h:te σ H λx H1=>g x σ H1 nx):aHP te g ⟨nx,rt,bk,ct⟩ σ H:=h
theorem aOi(h:te σ H λ_ H1=>nx σ H1):aLN te ⟨nx,rt,bk,ct⟩ σ H:=h
theorem aQx(h:te σ H rt):aPN te ⟨nx,rt,bk,ct⟩ σ H:=h
theorem aQy(h:c σ H λb H1=>if b=true then t ⟨nx,rt,bk,ct⟩ σ H1 else u ⟨nx,rt,bk,ct⟩ σ H1):aPP c t u ⟨nx,rt,bk,ct⟩ σ H:=h
theorem aQz{i j:Nat}(h:ta σ H λvs H1=>∃v w,vs=[v,w]/\nx ((σ.set i (some v)).set j (some w)) H1):aPV i j ta ⟨nx,rt,bk,ct⟩ σ H:=h
theorem yY{i:Nat}(e:σ[i]?=some (some x))(h:te σ H λy H1=>ti x y H1 λz H2=>nx (σ.set i (some z)) H2):aPX i te ti ⟨nx,rt,bk,ct⟩ σ H:=⟨x,e,h⟩
theorem aOj{tget:V->V->Hp->VK->Prop}(h:to σ H λo H1=>ti σ H1 λi H2=>tget o i H2 λx H3=>te σ H3 λy H4=>tip x y H4 λz H5=>tset o i z H5 λH6=>nx σ H6):aLS to ti te tget tip tset ⟨nx,rt,bk,ct⟩ σ H:=h
theorem aQA{g:TG}(h:wi σ H λJ H1=>∃W:Nat->Nat->St->Hp->Prop,(∃m,W 0 m σ H1)/\∀i m σ H,W i m σ H->
 (J.stop i H/\nx σ H)\/(J.go i H/\∃N:St->Hp->Prop,(∀σ' H',N σ' H'->∃m',m' < m/\W (i+1) m' σ' H')/\∀x H',J.yld i H x H'->g x σ H' λσ2 H2=>tb ⟨N,rt,nx,N⟩ σ2 H2)):aP2 wi g tb ⟨nx,rt,bk,ct⟩ σ H:=h
theorem aMt{i:Nat}(e:σ.set i (some v)=σ')(h:QG σ' H):yO i v σ H QG:=by unfold yO;rw[e];exact h
theorem eM{K:W.Frag}{n:Nat}{t:TGs}{a:Addr}{xs:List V}(h1:kQ K H a xs)(h2:xs.length=n)(h:t xs σ H QG):aNP K n t (.ref a) σ H QG:=⟨a,xs,rfl,h1,h2,h⟩
theorem aOk(h:QG σ H):aNN [] σ H QG:=⟨rfl,h⟩
theorem aMu(h:t v σ H λσ' H'=>u r σ' H' QG):aJ5 t u (v::r) σ H QG:=⟨v,r,rfl,h⟩
theorem aOl(h:to σ H λo H1=>ti σ H1 λi H2=>t o i v H2 λH3=>QG σ H3):aPR to ti t v σ H QG:=h
theorem aAs{xs:List V}{k:Int}{j:Nat}{QH:Hp->Prop}(h1:H p=some (.lst xs))(h2:ixN xs.length k=some j)(h:QH (upd H p (.lst (xs.set j v)))):aPi (.ref p) (.int k) v H QH:=⟨p,xs,k,j,rfl,rfl,h1,h2,h⟩
theorem aMv{K:W.Frag}{p:Addr}{xs:List V}{i:Int}{v:V}(h1:bV K H p xs)(h0:0<=i)(h2:xs[i.toNat]?=some v)(h:Q v H):gIx K (.ref p) (.int i) H Q:=⟨p,xs,i,v,rfl,rfl,h1,h0,h2,h⟩
theorem aQB{f:Int->Int->Int}{i j:Int}(h:Q (.int (f i j)) H):ipI f (.int i) (.int j) H Q:=⟨i,j,rfl,rfl,h⟩
theorem aQC{i:Nat}(e:σ[i]?=some (some v))(h:Q v H):aPA i σ H Q:=⟨v,e,h⟩
theorem aR7(h:Q v H):tC v σ H Q:=h
theorem aRB(h:ta σ H λx H1=>tb σ H1 λy H2=>r x y H2 Q):tOp r ta tb σ H Q:=h
theorem aRC{r:V->Hp->VK->Prop}(h:ta σ H λx H1=>r x H1 Q):tUn r ta σ H Q:=h
theorem aQD{g:Int->Int->V}{i j:Int}(h:Q (g i j) H):rI0 g (.int i) (.int j) H Q:=⟨i,j,rfl,rfl,h⟩
theorem aRD{C:Int->Int->Prop}{g:Int->Int->V}{i j:Int}(c:C i j)(h:Q (g i j) H):rI C g (.int i) (.int j) H Q:=⟨i,j,rfl,rfl,c,h⟩
theorem aRE{g:Int->V}{i:Int}(h:Q (g i) H):rU g (.int i) H Q:=⟨i,rfl,h⟩
theorem aOm{i j:Int}(h:Q (.int (i+j)) H):aMm (.int i) (.int j) H Q:=.inl ⟨i,j,rfl,rfl,h⟩
theorem aAt{xs zs:List V}(h1:H l=some (.lst xs))(h2:H b=some (.lst zs))(hz:xs.length+zs.length<=sizeLine)(h:∀p,H p=none->Q (.ref p) (upd H p (.lst (xs++zs)))):aMm (.ref l) (.ref b) H Q:=.inr ⟨l,b,xs,zs,rfl,rfl,h1,h2,hz,h⟩
theorem aOn{i j:Int}(c:aLV i j)(h:Q (.int (i*j)) H):aPm (.int i) (.int j) H Q:=.inl ⟨i,j,rfl,rfl,c,h⟩
theorem uF{K:W.Frag}{p:Addr}{xs:List V}{i:Int}{v:V}(h1:bV K H p xs)(h2:mC xs i=some v)(h:Q v H):rIx K (.ref p) (.int i) H Q:=.inl ⟨p,xs,i,v,rfl,rfl,h1,h2,h⟩
theorem aQE{K:W.Frag}{p:Addr}{xs:List V}{i:Int}{v:V}(h1:kQ K H p xs)(h2:mC xs i=some v)(h:Q v H):rIx K (.ref p) (.int i) H Q:=.inr (.inl ⟨p,xs,i,v,rfl,rfl,h1,h2,h⟩)
theorem aRF{r:V->Option Int->Option Int->Hp->VK->Prop}(h:te σ H λx H1=>tl σ H1 λl H2=>th σ H2 λu H3=>r x l u H3 Q):tSl r te tl th σ H Q:=h
theorem aK5{QO:Option Int->Hp->Prop}(h:QO none H):aGC σ H QO:=h
theorem aOo{QO:Option Int->Hp->Prop}(h:t σ H λx H1=>∃i,x=.int i/\QO (some i) H1):aL8 t σ H QO:=h
theorem aCF{K:W.Frag}{a:Addr}{xs:List V}{lo hi:Option Int}(h1:bV K H a xs)(h:∀p,H p=none->Q (.ref p) (upd H p (.lst (rX xs lo hi)))):aK4 K (.ref a) lo hi H Q:=.inl ⟨a,xs,rfl,h1,h⟩
theorem aOp(h:ta σ H λx H1=>∃c,x=.bl c/\if c=true then tb σ H1 Q else Q (.bl false) H1):aLH ta tb σ H Q:=h
theorem aQF(h:ta σ H λx H1=>∃c,x=.bl c/\if c=true then Q (.bl true) H1 else tb σ H1 Q):aPJ ta tb σ H Q:=h
theorem aOq(h:ta σ H λx H1=>∃c,x=.bl c/\Q (.bl (!c)) H1):aLI ta σ H Q:=h
theorem aQG(h:t σ H λc H1=>if c=true then ta σ H1 Q else tb σ H1 Q):tIf t ta tb σ H Q:=h
theorem aMw(h:ta σ H λx H1=>tb σ H1 λy H2=>r x y H2 λz H3=>∃k,z=.bl k/\(if k=true then tc σ H3 λw' H4=>r' y w' H4 Q else Q (.bl false) H3)):aI9 r r' ta tb tc σ H Q:=h
theorem aOr(h:t σ H λx H'=>∃k,x=.bl k/\QT k H'):aLX t σ H QT:=h
theorem aRG(h:t σ H λx H'=>∃k,x=.bl k/\QT k H'):tB t σ H QT:=h
theorem aQH(h:t σ H λc H1=>if c=true then u σ H1 QT else QT false H1):aPE t u σ H QT:=h
theorem aRH(h:t σ H λc H1=>if c=true then QT true H1 else u σ H1 QT):tOr t u σ H QT:=h
theorem aQI(h:t σ H λc H1=>QT (!c) H1):aPF t σ H QT:=h
theorem aQJ(h:QT true H):aQt σ H QT:=h
theorem aRI{b:Bool}{P:Bool->Prop}(h:P b):∃k,V.bl b=V.bl k/\P k:=⟨b,rfl,h⟩
theorem aOs{i:Int}{P:Int->Prop}(h:P i):∃k,V.int i=V.int k/\P k:=⟨i,rfl,h⟩
theorem aRJ{i:Int}{P:Int->Prop}(h:P i):∃k,[V.int i]=[V.int k]/\P k:=⟨i,rfl,h⟩
theorem aRK{i j:Int}{P:Int->Int->Prop}(h:P i j):∃k l,[V.int i,V.int j]=[V.int k,V.int l]/\P k l:=⟨i,j,rfl,h⟩
theorem aQK(h:QA [] H):qS σ H QA:=h
theorem aOt(h:ta σ H λx H1=>tr σ H1 λxs H2=>QA (x::xs) H2):bL ta tr σ H QA:=h
theorem aQL(h:t σ H λxs H1=>xs.length<=sizeLine/\∀p,H1 p=none->Q (.ref p) (upd H1 p (.tup xs))):aHS t σ H Q:=h
theorem aQM(h:t σ H λxs H1=>xs.length<=sizeLine/\∀p,H1 p=none->Q (.ref p) (upd H1 p (.lst xs))):aBe t σ H Q:=h
theorem aOu(h:t σ H λvs H1=>sp vs H1 Q E):aHT sp [] E t σ H Q:=by
 unfold aHT
 simpa only [Rw9] using h
theorem aRL{r:List V->Hp->VK->Prop}(h:t σ H λvs H1=>r vs H1 Q):tCB r t σ H Q:=h
theorem aOv{k:Nat}{idx:List Nat}(h:wi σ H λJ H1=>uE J (cσ k idx σ) g tt te (λys H'=>∀p,H' p=none->Q (.ref p) (upd H' p (.lst ys))) H1):aH6 wi k idx g tt te σ H Q:=h
theorem aMx{R:It->Hp->Prop}(h:ta σ H λvs H1=>∃j:Int,vs=[.int j]/\-(2 ^ 62)<=j/\j < 2 ^ 62/\R (Itr 0 j.toNat) H1):aJ7 ta σ H R:=h
theorem aMy{R:It->Hp->Prop}(h:ta σ H λvs H1=>∃i j:Int,vs=[.int i,.int j]/\(-(2 ^ 62)<=i/\i < 2 ^ 62/\-(2 ^ 62)<=j/\j < 2 ^ 62)/\R (Itr i (j - i).toNat) H1):aJ8 ta σ H R:=h
theorem aQN{K:W.Frag}{ta:TE}{f:Str}(h:ta σ H λx H1=>∃a C dx fs v,x=.ref a/\H1 a=some (.ins C dx fs)/\Cls K C/\dM K C f/\fs.lookup f=some v/\Q v H1):aP7 K ta f σ H Q:=h
theorem aOw{n:Nat}{P:Prop}(h1:n<=sizeLine)(h:P):n<=sizeLine/\P:=⟨h1,h⟩
theorem cF{n:Nat}(h:n<=16777216):n<=sizeLine:=by rw[sizeLine_eq];exact h
end
section
variable{A B:Prop}{c:Prop}[Decidable c]
theorem cD(h1:c->A)(h2:¬c->B):if decide c=true then A else B:=by
 by_cases h:c
 ·rw[if_pos (decide_eq_true h)];exact h1 h
 ·rw[if_neg (by simpa using h)];exact h2 h
theorem aOx(h1:¬c->A)(h2:c->B):if (!decide c)=true then A else B:=by
 by_cases h:c
 ·rw[if_neg (by simpa using h)];exact h2 h
 ·rw[if_pos (by simpa using h)];exact h1 h
theorem kS{b:Bool}(h1:b=true->A)(h2:b=false->B):if b=true then A else B:=by
 cases b
 ·exact aQr (h2 rfl)
 ·exact aQs (h1 rfl)
end
def aPn(sc:Scope)(NX:List Str)(scope:Scope)(N:List Str)(k:Nat)(idx:List Nat):Bool:=
 scope.names.all (λy=>!(y.2 == .cell)) && scope.names.all (λy=>!(y.2 == .local) || scope.names.lookup y.1 == some .local) &&
 scope.names.all (λy=>!(y.2 == .free) || (sc.names.lookup y.1 == some .cell || sc.names.lookup y.1 == some .free)) &&
 decide N.Nodup && decide (N.length=k+idx.length) && (List.range idx.length).all λi=>
  match (N.drop k)[i]?,idx[i]? with
  |some x,some j=>decide (NX[j]?=some x) && scope.names.lookup x == some .free
  |_,_=>false
theorem cR{X:Cx}{scope:Scope}{k:Nat}{idx:List Nat}(hsc:X.env.scope=sc)(hN:X.N=NX)(hk:scope.kind=.function)(h:aPn sc NX scope N k idx=true):fN X scope N k idx:=by
 unfold aPn at h
 simp only[Ro9,decide_eq_true_eq] at h
 obtain⟨⟨⟨⟨⟨h1,h2⟩,h3⟩,h4⟩,h5⟩,h6⟩:=h
 rw[Sq9] at h1 h2 h3 h6
 refine⟨hk,λy hy e=>?_,λy hy e=>?_,λy hy e=>?_,h4,h5,λi x e=>?_⟩
 ·have:=h1 y hy
  rw[e] at this
  simp at this
 ·have:=h2 y hy
  rw[e] at this
  simpa using this
 ·have:=h3 y hy
  rw[e] at this
  show X.env.scope.names.lookup y.1=_\/X.env.scope.names.lookup y.1=_
  rw[hsc]
  simpa using this
 ·have hi:i < (N.drop k).length:=(lZ.mp e).1
  have hi2:i < idx.length:=by rw[Tw9] at hi;omega
  have q:=h6 i (Rs9.mpr hi2)
  rw[e,dQ hi2] at q
  simp only[Ro9,decide_eq_true_eq] at q
  exact⟨idx[i],dQ hi2,by rw[hN];exact q.1,by simpa using q.2⟩
theorem bG{H:Hp}{a b:Addr}{o:HO}(h':H b=none)(h:H a=some o):a≠b:=bJ h h'
theorem aP.at(e:aP H H')(h:H b=some o):H' b=some o:=e b o h
def cA(p:Addr)(H H':Hp):Prop:=∀b o,H b=some o->b≠p->H' b=some o
theorem cA.at(e:cA p H H')(h:H b=some o)(n:b≠p):H' b=some o:=e b o h n
theorem aP.new{H:Hp}{p:Addr}{o:HO}(h:H p=none):aP H (upd H p o):=λb u e=>by rw[bB (bJ e h)];exact e
theorem cA.upd:cA p H (upd H p o):=λb u e n=>by rw[bB n];exact e
theorem cA.trans(a:cA p H H1)(b:cA p H1 H2):cA p H H2:=λc o h n=>b c o (a c o h n) n
theorem aP.keep(a:aP H H'):cA p H H':=λc o h _=>a c o h
end L2
namespace L2
open PySem PySem.Spec PyProof.Rows
section
variable{σ:St}{H:Hp}{nx bk ct:St->Hp->Prop}{rt:VK}
theorem iD{t u:TS}(J:St->Hp->Prop)(h1:∀N:St->Hp->Prop,(∀σ' H',J σ' H'->N σ' H')->t ⟨N,rt,bk,ct⟩ σ H)(h2:∀σ' H',J σ' H'->u ⟨nx,rt,bk,ct⟩ σ' H'):aLL t u ⟨nx,rt,bk,ct⟩ σ H:=h1 _ h2
end
theorem aCG{K:W.Frag}{a:Addr}{xs:List V}{σ₀:St}{g:TG}{tt:TT}{te:TE}{R:List V->Hp->Prop}{H:Hp}(f:V->V)(hS:bV K H a xs)(hz:xs.length<=sizeLine)
  (hs:∀x (N:V->Hp->Prop) (N':Hp->Prop),x∈xs->N (f x) H->g x σ₀ H λσ2 H2=>tt σ2 H2 λb H3=>if b=true then te σ2 H3 λy H4=>N y H4 else N' H3)
  (hd:R (xs.map f) H):uE (Itl K a) σ₀ g tt te R H:=by
 refine fO (λi ys H'=>H'=H/\ys=(xs.take i).map f) ⟨rfl,by simp⟩ hz (λi ys H' hi ⟨e1,e2⟩=>?_) (λi x ys H' hx ⟨e1,e2⟩=>?_) (λys H' ⟨e1,e2⟩=>?_)
 ·subst e1 e2
  exact⟨hS,by simp;omega⟩
 ·subst e1 e2
  refine hs x (λy H4=>H4=H'/\(xs.take i).map f ++ [y]=(xs.take (i+1)).map f) (λH3=>H3=H'/\(xs.take i).map f=(xs.take (i+1)).map f) (oS hx) ⟨rfl,?_⟩
  rw[Rr9,hx,rW]
  rfl
 ·subst e1 e2
  rw[Rc9]
  exact hd
theorem aJp{lo:Int}{n:Nat}{g:TG}{R:List V->Hp->Prop}(f:Nat->V)(hz:n<=sizeLine)(hs:∀i (N:V->Hp->Prop) (N':Hp->Prop),i < n->N (f i) H->g (.int (lo+i)) σ₀ H λσ2 H2=>tt σ2 H2 λb H3=>if b=true then te σ2 H3 λy H4=>N y H4 else N' H3)(hd:R ((List.range n).map f) H):uE (Itr lo n) σ₀ g tt te R H:=by
 refine iH (λi ys H'=>H'=H/\ys=(List.range i).map f) ⟨rfl,by simp⟩ hz (λi ys H' hi ⟨e1,e2⟩=>?_) (λi ys H' hi ⟨e1,e2⟩=>?_) (λys H' ⟨e1,e2⟩=>?_)
 ·subst e1 e2
  simp
 ·subst e1 e2
  refine hs i (λy H4=>H4=H'/\(List.range i).map f ++ [y]=(List.range (i+1)).map f) (λH3=>H3=H'/\(List.range i).map f=(List.range (i+1)).map f) hi ⟨rfl,?_⟩
  rw[List.range_succ,rW]
  rfl
 ·subst e1 e2
  exact hd
theorem aOy{X:Cx}{n:Int}(hg:Gl X x)(hm:∃t,X.mg x=some (.int n t))(hd:(x == ("__debug__" : Str))=false:=by decide):PE X (.Name x pos) (tC (.int n)):=by
 obtain⟨t,hm⟩:=hm
 exact aJ4 (v:=.int n) hg hm ⟨t,rfl⟩ hd
section
variable{X:Cx}{K:W.Frag}{H:Hp}{Q:VK}
def lW(K:W.Frag):List V->Hp->VK->Prop:=λxs H Q=>∃x n,xs=[x]/\aRn K x H n/\Q (.int n) H
theorem bS:eC X (.builtin "len") (lW X.K):=aL0
theorem aOz{xs:List V}(h:bV K H p xs)(q:Q (.int xs.length) H):lW K [.ref p] H Q:=⟨_,_,rfl,.inl ⟨_,h,rfl⟩,q⟩
theorem aOA{xs:List V}(h:kQ K H p xs)(q:Q (.int xs.length) H):lW K [.ref p] H Q:=⟨_,_,rfl,.inr ⟨_,h,rfl⟩,q⟩
def aRM:List V->Hp->VK->Prop:=λxs H Q=>∃i,xs=[.int i]/\Q (.int (if i < 0 then -i else i)) H
theorem aK6:eC X (.builtin "abs") aRM:=aLZ
theorem aQO{i:Int}(h:Q (.int (if i < 0 then -i else i)) H):aRM [.int i] H Q:=⟨i,rfl,h⟩
def aRN:List V->Hp->VK->Prop:=λxs H Q=>∃i j,xs=[.int i,.int j]/\Q (.int (if j > i then j else i)) H
theorem eQ(hc:X.calm=true):eC X (.builtin "max") aRN:=aKQ hc
theorem aQP{i j:Int}(h:Q (.int (max i j)) H):aRN [.int i,.int j] H Q:=⟨i,j,rfl,by
 rw[show(if j > i then j else i)=max i j by split <;> omega];exact h⟩
def aRO:List V->Hp->VK->Prop:=λxs H Q=>∃i j,xs=[.int i,.int j]/\Q (.int (if j < i then j else i)) H
theorem mE(hc:X.calm=true):eC X (.builtin "min") aRO:=aKR hc
theorem aQQ{i j:Int}(h:Q (.int (min i j)) H):aRO [.int i,.int j] H Q:=⟨i,j,rfl,by
 rw[show(if j < i then j else i)=min i j by split <;> omega];exact h⟩
def aPo:List V->Hp->VK->Prop:=λxs H Q=>(∃i,xs=[.int i]/\Q (.int i) H)\/∃k,xs=[.bl k]/\Q (.int (if k then 1 else 0)) H
theorem aGd:eC X (.type "int") aPo:=aKS
theorem aOB{b:Bool}(h:Q (.int (if b then 1 else 0)) H):aPo [.bl b] H Q:=.inr ⟨b,rfl,h⟩
def aGH(K:W.Frag):List V->Hp->VK->Prop:=λxs H Q=>∃x c b,xs=[x,c]/\IsI K H x c b/\Q (.bl b) H
theorem mF:eC X (.builtin "isinstance") (aGH X.K):=aMq
theorem aBh{b:Bool}(h1:IsI K H x c b)(h:Q (.bl b) H):aGH K [x,c] H Q:=⟨x,c,b,rfl,h1,h⟩
def aBM(K:W.Frag):List V->Hp->VK->Prop:=λxs H Q=>∃p ys,xs=[.ref p]/\(bV K H p ys\/kQ K H p ys)/\∀l,H l=none->Q (.ref l) (upd H l (.lst ys))
theorem aBi:eC X (.type "list") (aBM X.K):=aGF
theorem aEd(h1:bV K H p ys)(h:∀l,H l=none->Q (.ref l) (upd H l (.lst ys))):aBM K [.ref p] H Q:=⟨p,ys,rfl,.inl h1,h⟩
end
theorem aGI{K:W.Frag}{H:Hp}{p q:Addr}{xs:List V}(h1:bV K H p xs)(h2:bV K H q []):EqN K H 8 (.ref p) (.ref q) xs.isEmpty:=
 .inr ⟨p,q,xs,[],λ_=>true,rfl,rfl,.inl ⟨h1,h2⟩,λj u v _ e=>by simp at e,by cases xs <;> simp⟩
theorem aMz{xs:List V}{n:Nat}(h:xs.length<=n):rX xs none (some (n:Int))=xs:=by
 unfold rX
 rw[HT.aHW,HT.aKa,Nat.min_eq_right h,Sf9,Nat.sub_zero,Rc9]
end L2
namespace L2
open PySem PySem.Spec PyProof.Rows
section
variable{σ:St}{H:Hp}{nx:St->Hp->Prop}{rt:VK}{g:TG}{tb:TS}{Q:VK}
theorem iI{lo:Int}{n:Nat}(Pv:Nat->St->Hp->Prop)(h0:Pv 0 σ H)
  (hs:∀i σ H,i < n->Pv i σ H->g (.int (lo+i)) σ H λσ2 H2=>tb ⟨Pv (i+1),rt,nx,Pv (i+1)⟩ σ2 H2) (hd:∀σ H,Pv n σ H->nx σ H) :
  ∃W:Nat->Nat->St->Hp->Prop,(∃m,W 0 m σ H)/\∀i m σ H,W i m σ H->
   ((Itr lo n).stop i H/\nx σ H)\/((Itr lo n).go i H/\∃N:St->Hp->Prop,(∀σ' H',N σ' H'->∃m',m' < m/\W (i+1) m' σ' H')/\∀x H',(Itr lo n).yld i H x H'->g x σ H' λσ2 H2=>tb ⟨N,rt,nx,N⟩ σ2 H2):=
 aKP (D:=⟨nx,rt,λ_ _=>False,λ_ _=>False⟩) Pv h0 hs hd
theorem aAu{K:W.Frag}{a:Addr}{xs:List V}(Pv:Nat->St->Hp->Prop)(h0:Pv 0 σ H)(hl:∀i σ H,i<=xs.length->Pv i σ H->bV K H a xs)
  (hs:∀i x σ H,xs[i]?=some x->Pv i σ H->g x σ H λσ2 H2=>tb ⟨Pv (i+1),rt,nx,Pv (i+1)⟩ σ2 H2) (hd:∀σ H,Pv xs.length σ H->nx σ H) :
  ∃W:Nat->Nat->St->Hp->Prop,(∃m,W 0 m σ H)/\∀i m σ H,W i m σ H->
   ((Itl K a).stop i H/\nx σ H)\/((Itl K a).go i H/\∃N:St->Hp->Prop,(∀σ' H',N σ' H'->∃m',m' < m/\W (i+1) m' σ' H')/\∀x H',(Itl K a).yld i H x H'->g x σ H' λσ2 H2=>tb ⟨N,rt,nx,N⟩ σ2 H2):=
 aLU (D:=⟨nx,rt,λ_ _=>False,λ_ _=>False⟩) Pv h0 hl hs hd
theorem aMA{K:W.Frag}{a:Addr}{xs:List V}(Pv:Nat->St->Hp->Prop)(h0:Pv 0 σ H)(hl:∀i σ H,i<=xs.length->Pv i σ H->kQ K H a xs)
  (hs:∀i x σ H,xs[i]?=some x->Pv i σ H->g x σ H λσ2 H2=>tb ⟨Pv (i+1),rt,nx,Pv (i+1)⟩ σ2 H2) (hd:∀σ H,Pv xs.length σ H->nx σ H) :
  ∃W:Nat->Nat->St->Hp->Prop,(∃m,W 0 m σ H)/\∀i m σ H,W i m σ H->
   ((Itt K a).stop i H/\nx σ H)\/((Itt K a).go i H/\∃N:St->Hp->Prop,(∀σ' H',N σ' H'->∃m',m' < m/\W (i+1) m' σ' H')/\∀x H',(Itt K a).yld i H x H'->g x σ H' λσ2 H2=>tb ⟨N,rt,nx,N⟩ σ2 H2):=
 aNS (D:=⟨nx,rt,λ_ _=>False,λ_ _=>False⟩) Pv h0 hl hs hd
theorem aQR{K:W.Frag}{i j:Int}(h:Q (.bl (decide (i=j))) H):oV K (.int i) (.int j) H Q:=⟨_,.inl ⟨rfl,rfl,rfl⟩,h⟩
theorem aQS{K:W.Frag}{i j:Int}(h:Q (.bl (!decide (i=j))) H):aMo K (.int i) (.int j) H Q:=⟨_,.inl ⟨rfl,rfl,rfl⟩,h⟩
end
end L2
namespace L2
open PySem PySem.Spec PyProof.Rows
def noStar:Expr->Bool
 |.Starred _ _=>false
 |_=>true
theorem bW(h:noStar e=true):starEach (e::es) env=(false,eval e env)::starEach es env:=by
 cases e <;> first|rfl|exact absurd h Qr9
theorem kT:∀{es:List Expr},es.all noStar=true->(backTo pos (starEach es env)).any (·.1)=false
 |[],_=>rfl
 |e::es,h=>by
  rw[List.all_cons,Ro9] at h
  rw[bW h.1]
  have ih:=kT (env:=env) (pos:=pos) h.2
  unfold backTo at ih ⊢
  rw[Rh9,List.any_cons]
  rw[ih]
  rfl
section
variable{X:Cx}{CX:CXT}{k:Nat}{f C:Addr}{fd:FuncData}{ps:List Str}{sp:Sp}{dvs:List V}{ds:List Value}{E:XK}{x m:Str}{p pos apos:Pos}{e o:Expr}{es:List Expr}{ta te:TE}{t:TA}
theorem jR(ha:PE X e te)(hr:PA X es t)(hs:noStar e=true:=by rfl):PA X (e::es) (bL te t):=aNY ha hr (bW hs)
theorem jP{es:List Expr}(h:(e::es).all noStar=true):noStar e=true/\es.all noStar=true:=by
 rw[List.all_cons,Ro9] at h
 exact h
theorem aMB(F:bQ X.prog X.w X.K X.mg X.base CX k f fd ps sp)(hr:fJ k X.A)(hg:Gl X x)(hm:X.mg x=some (.ref f))(hk:W.keepIn X.K (.ref f)=true)(hb:Binds X.K fd ps ds)(hd:Vals dvs ds)(hx:Passes CX X E)
  (ha:PA X (e::es) t) (hn:(e::es).all noStar=true:=by rfl) (hdb:(x == ("__debug__" : Str))=false:=by decide):PE X (.Call (.Name x p) (e::es) [] pos) (aHT sp dvs E t):=
 aNZ F hr hg hm hk hb hd hx ha hdb (bW (jP hn).1) (kT (jP hn).2)
theorem aMC(M:Mk X.K C f)(F:bQ X.prog X.w X.K X.mg X.base CX k f fd ps sp)(hr:fJ (k+1) X.A)(hg:Gl X x)(hm:X.mg x=some (.ref C))(hb:Binds X.K fd ps ds)(hd:Vals dvs ds)(hx:Passes CX X E)
  (ha:PA X (e::es) t) (hn:(e::es).all noStar=true:=by rfl) (hdb:(x == ("__debug__" : Str))=false:=by decide):PE X (.Call (.Name x p) (e::es) [] pos) (aHU C sp dvs E t):=
 aN1 M F hr hg hm hb hd hx ha hdb (bW (jP hn).1) (kT (jP hn).2)
variable{id T:String}{r:List V->Hp->VK->Prop}
theorem aK7(hc:eC X (.builtin id) r)(hg:Gl X x)(hm:X.mg x=none)(hv:bootBuiltins x=some (.builtin id))(ha:PA X (e::es) t)(hn:(e::es).all noStar=true:=by rfl)(hne:x≠"__name__":=by decide)(hdb:(x == ("__debug__" : Str))=false:=by decide) :
  PE X (.Call (.Name x p) (e::es) [] pos) (tCB r t):=aL6 hc hg hm hv ha hne hdb (bW (jP hn).1) (kT (jP hn).2)
theorem aJq(hc:eC X (.type T) r)(hg:Gl X x)(hm:X.mg x=none)(hv:bootBuiltins x=some (.type T))(ha:PA X (e::es) t)(hn:(e::es).all noStar=true:=by rfl)(hne:x≠"__name__":=by decide)(hdb:(x == ("__debug__" : Str))=false:=by decide) :
  PE X (.Call (.Name x p) (e::es) [] pos) (tCB r t):=aKW hc hg hm hv ha hne hdb (bW (jP hn).1) (kT (jP hn).2)
variable{tg a b:Expr}
theorem aJr(hg:Gl X "range")(hm:X.mg "range" = none)(ha:PA X [a] t)(hn:noStar a=true:=by rfl):PI X tg (.Call (.Name "range" p) [a] [] pos) (aJ7 t):=aKM hg hm ha (bW hn)
theorem aJs(hg:Gl X "range")(hm:X.mg "range" = none)(ha:PA X [a,b] t)(hn:noStar a=true:=by rfl)(hn2:noStar b=true:=by rfl):PI X tg (.Call (.Name "range" p) [a,b] [] pos) (aJ8 t):=
 aKN hg hm ha (by rw[bW hn,bW hn2];rfl) (bW hn2)
end
end L2
namespace L2
open PySem PySem.Spec PyProof.Rows
section
variable{X:Cx}{pos:Pos}{x1:Nat}{e1 e2 e3 e4 e5 e6 e7 e8:Expr}{t1 t2 t3 t4 t5 t6 t7 t8:TE}
theorem aR8(h1:PE X e1 t1)(n1:noStar e1=true:=by rfl):PE X (.List [e1] pos) (aBe (bL t1 qS)):=aBf (jR h1 uD n1)
theorem aR9(h1:PE X e1 t1)(h2:PE X e2 t2)(n1:noStar e1=true:=by rfl)(n2:noStar e2=true:=by rfl):PE X (.List [e1,e2] pos) (aBe (bL t1 (bL t2 qS))):=aBf (jR h1 (jR h2 uD n2) n1)
theorem aSa{k1}(h1:PE X e1 t1)(h2:PE X e2 t2)(n1:noStar e1=true:=by rfl)(n2:noStar e2=true:=by rfl):PE X (.Tuple [e1,e2] k1 pos) (aHS (bL t1 (bL t2 qS))):=aJg (jR h1 (jR h2 uD n2) n1)
theorem aSb(h1:PE X e1 t1)(h2:PE X e2 t2)(h3:PE X e3 t3)(n1:noStar e1=true:=by rfl)(n2:noStar e2=true:=by rfl)(n3:noStar e3=true:=by rfl):PE X (.List [e1,e2,e3] pos) (aBe (bL t1 (bL t2 (bL t3 qS)))):=aBf (jR h1 (jR h2 (jR h3 uD n3) n2) n1)
theorem aSc{k1}(h1:PE X e1 t1)(h2:PE X e2 t2)(h3:PE X e3 t3)(n1:noStar e1=true:=by rfl)(n2:noStar e2=true:=by rfl)(n3:noStar e3=true:=by rfl):PE X (.Tuple [e1,e2,e3] k1 pos) (aHS (bL t1 (bL t2 (bL t3 qS)))):=aJg (jR h1 (jR h2 (jR h3 uD n3) n2) n1)
theorem aSd(h1:PE X e1 t1)(h2:PE X e2 t2)(h3:PE X e3 t3)(h4:PE X e4 t4)(n1:noStar e1=true:=by rfl)(n2:noStar e2=true:=by rfl)(n3:noStar e3=true:=by rfl)(n4:noStar e4=true:=by rfl):PE X (.List [e1,e2,e3,e4] pos) (aBe (bL t1 (bL t2 (bL t3 (bL t4 qS))))):=aBf (jR h1 (jR h2 (jR h3 (jR h4 uD n4) n3) n2) n1)
theorem aSe{k1}(h1:PE X e1 t1)(h2:PE X e2 t2)(h3:PE X e3 t3)(h4:PE X e4 t4)(n1:noStar e1=true:=by rfl)(n2:noStar e2=true:=by rfl)(n3:noStar e3=true:=by rfl)(n4:noStar e4=true:=by rfl):PE X (.Tuple [e1,e2,e3,e4] k1 pos) (aHS (bL t1 (bL t2 (bL t3 (bL t4 qS))))):=aJg (jR h1 (jR h2 (jR h3 (jR h4 uD n4) n3) n2) n1)
theorem aSf(h1:PE X e1 t1)(h2:PE X e2 t2)(h3:PE X e3 t3)(h4:PE X e4 t4)(h5:PE X e5 t5)(n1:noStar e1=true:=by rfl)(n2:noStar e2=true:=by rfl)(n3:noStar e3=true:=by rfl)(n4:noStar e4=true:=by rfl)(n5:noStar e5=true:=by rfl):PE X (.List [e1,e2,e3,e4,e5] pos) (aBe (bL t1 (bL t2 (bL t3 (bL t4 (bL t5 qS)))))):=aBf (jR h1 (jR h2 (jR h3 (jR h4 (jR h5 uD n5) n4) n3) n2) n1)
theorem aSg(h1:PE X e1 t1)(h2:PE X e2 t2)(h3:PE X e3 t3)(h4:PE X e4 t4)(h5:PE X e5 t5)(h6:PE X e6 t6)(h7:PE X e7 t7)(n1:noStar e1=true:=by rfl)(n2:noStar e2=true:=by rfl)(n3:noStar e3=true:=by rfl)(n4:noStar e4=true:=by rfl)(n5:noStar e5=true:=by rfl)(n6:noStar e6=true:=by rfl)(n7:noStar e7=true:=by rfl):PE X (.List [e1,e2,e3,e4,e5,e6,e7] pos) (aBe (bL t1 (bL t2 (bL t3 (bL t4 (bL t5 (bL t6 (bL t7 qS)))))))):=aBf (jR h1 (jR h2 (jR h3 (jR h4 (jR h5 (jR h6 (jR h7 uD n7) n6) n5) n4) n3) n2) n1)
end
end L2
namespace L2
open PySem PySem.Spec PyProof.Rows
section
variable{X:Cx}{pins:List (Addr×Obj)}{σ:St}{H:Hp}{s:Shared}{h':Heap}
theorem Inv.aCH{t':Nat}{ch:List Addr}{T:Addr}{o:HO}(I:Inv X pins σ H s)(k:∀b u,b∉ch->s.heap.get? b=some u->h'.get? b=some u)
  (hch:∀b∈ch,aBE X pins H b) (hT:s.heap.objs.size<=T) (new:cE X.prog X.w (upd H T o) h' T o):Inv X pins σ (upd H T o) { s with heap:=h',toks:=t' }:=by
 have hn:H T=none:=I.hok.fresh hT
 have nit:∀b u,H b=some u->b∉ch:=λb u e z=>by rw[(hch b z).1] at e;cases e
 have neT:∀b u,H b=some u->b≠T:=λb u e=>bJ e hn
 refine I.step (g':=s.gens) (d':=s.drawn) (ch:=ch) (λb hb=>?_) (λb u _ _ hc e _=>k b u hc e) (λb u _ _ hc e _=>⟨u.slots,k b u hc e⟩) (λb u hc e n=>?_)
  (λb u hc e=>⟨u,k b u hc e⟩) (λb xs e=>?_) (λb u v e=>?_) (λb ps e=>⟨#[],?_⟩) (λm hm=>?_) (λb u e=>?_) I.bare
 ·obtain⟨f0,f1,f2,f3,f4,f5⟩:=hch b hb
  exact⟨f3,f1,f4,f5⟩
 ·rw[bB (vU (yK (jY e) hT))];exact n
 ·rw[bB (neT _ _ e)];exact e
 ·rw[bB (neT _ _ e)];exact e
 ·rw[bB (neT _ _ e),e];simp
 ·obtain⟨u,es,ep,ho,r⟩:=hm
  exact⟨u,es,ep,k _ u (λz=>(hch _ z).2.1 rfl) ho,r⟩
 ·by_cases hb:b=T
  ·subst hb;rw[aN] at e;cases e;exact new
  ·rw[bB hb] at e
   refine(I.hok b u e).aAF (λc v hc q=>k c v ?_ q) (λc q=>by rw[bB (bJ q hn)];exact q) λc xs _ q=>by rw[bB (bJ q hn)];exact q
   rcases hc with z|z
   ·rw[z];exact nit b u e
   ·exact nit c _ z
end
def Ite(K:W.Frag)(a:Addr):It:=
 ⟨λi H=>∃xs x,bV K H a xs/\xs[i]?=some x,λi H x H'=>∃T v,H T=none/\x=.ref T/\H'=upd H T (.tup [.int i,v])/\∀xs,bV K H a xs->xs[i]?=some v,λi H=>∃xs,bV K H a xs/\xs.length<=i⟩
theorem aK8{P:Program}{w:World}{K:W.Frag}{elts:List Expr}{x1:Nat}{tp:Pos}(a e it:Addr)(hei:e≠it) :
  Turn P w K (.Tuple elts x1 tp) (Ite K a) [e,it] e (λi h=>(∃old,IsEnum h e it ((i:Nat):Int) old)/\h.IsListIter it a i) where
 mem:=by simp
 obj:=λi h st b hb=>by
  obtain⟨⟨old,he⟩,st⟩:=st
  rcases yF.mp hb with z|hb
  ·subst z
   exact⟨_,he,λv z=>by cases z⟩
  ·have z:b=it:=by simpa using hb
   subst z
   obtain⟨o,e,c,d⟩:=st
   exact⟨o,e,λv z=>by rw[d] at z;cases z⟩
 keep:=λi h h' st k=>by
  obtain⟨⟨old,he⟩,st⟩:=st
  exact⟨⟨old,k e (by simp) _ he⟩,st.at λo q=>k it (by simp) o q⟩
 item:=by
  intro X hP hw hK hc i pins s σ H E I hf st hg
  subst hP hw hK
  obtain⟨⟨old,he⟩,st⟩:=st
  obtain⟨xs,x,hq,hx⟩:=hg
  obtain⟨its,rv,p,hz⟩:=I.list hq
  obtain⟨u,hu,ru⟩:=rv.get hx
  have helt:e < s.heap.objs.size:=jY he
  have hilt:it < s.heap.objs.size:=by obtain⟨_,z,_⟩:=id st;exact jY z
  refine wpAny_pyNext_enum_item he st p.isList (x:=u) (by simpa using hu) hei λh1 ho hit1 hT hsz hk=>?_
  refine⟨_,rfl,wpAny_letOwnedTupleGo_enum ho λh2 he2 hs2=>?_⟩
  replace hs2:Heap.SameBut e h1 h2:=hs2
  have hT2:h2.IsTuple s.heap.objs.size #[.int i s.toks,u]:=⟨_,(hs2.2 _ (Se9 helt)).trans hT,rfl,_,rfl⟩
  have kk:∀b o,b∉[e,it]->s.heap.get? b=some o->h2.get? b=some o:=λb o hb q=>by
   have n1:b≠e:=λz=>hb (by simp[z])
   have n2:b≠it:=λz=>hb (by simp[z])
   exact(hs2.2 b n1).trans (hk b o n1 n2 q)
  have I2:Inv X pins σ (upd H s.heap.objs.size (.tup [.int i,x])) { s with heap:=h2,toks:=s.toks+1 }:=
   I.aCH kk hf (gB _) (show cE X.prog X.w _ h2 _ (.tup [.int i,x]) from⟨cF (by simp),[.int i s.toks,u],.cons ⟨_,rfl⟩ (.cons ru .nil),hT2⟩)
  have hfr:H s.heap.objs.size=none:=I.hok.fresh (gB _)
  refine⟨.ref s.heap.objs.size,_,I2,rfl,⟨_,x,hfr,rfl,rfl,λys hy=>by rw[I.aD4 hy hq];exact hx⟩,⟨⟨u,?_⟩,?_⟩,λb hb=>?_⟩
  ·have e1:((i+1:Nat):Int)=(i:Int)+1:=by push_cast;rfl
   rw[e1]
   exact he2
  ·exact hit1.at λo q=>(hs2.2 it hei.symm).trans q
  ·have hlt:b < s.heap.objs.size:=by
    rcases yF.mp hb with z|hb
    ·rw[z];exact helt
    ·rw[show b=it by simpa using hb];exact hilt
   rw[bB (vU hlt)]
   exact(hf b hb).1
 done:=by
  intro X hP hw hK hc i pins s σ H E I hf st hg
  subst hP hw hK
  obtain⟨⟨old,he⟩,st⟩:=st
  obtain⟨xs,hq,hx⟩:=hg
  obtain⟨its,rv,p,hz⟩:=I.list hq
  obtain⟨f0,f1,f2,f3,f4,f5⟩:=hf it (by simp)
  have hl:=rv.length
  exact wpAny_pyNext_enum_end (I.ok.hd hc) he st p.isList (by simp;omega) λh' eb=>⟨rfl,I.turned (t':=s.toks) (λb o hb e=>eb b o hb e) f0 f1 f3 f4 f5⟩
 self:=λ_ _ _ _ _ st h=>by
  obtain⟨⟨old,he⟩,st⟩:=st
  exact wpAny_pyIter_enum he h
section
variable{X:Cx}{elts:List Expr}{x1:Nat}{tp:Pos}
def aMD(K:W.Frag)(ta:TA):TI:=λσ H R=>ta σ H λvs H1=>∃a,vs=[.ref a]/\(∃xs,bV K H1 a xs)/\R (Ite K a) H1
theorem aOC{a:Expr}{ta:TA}{p pos:Pos}(hg:Gl X "enumerate")(hm:X.mg "enumerate" = none)(ha:PA X [a] ta)(hn:noStar a=true:=by rfl):PI X (.Tuple elts x1 tp) (.Call (.Name "enumerate" p) [a] [] pos) (aMD X.K ta):=by
 intro pins s σ H R I h
 refine Call_ (uA I hg hm boot_enumerate (PyProof.Rows.callWith_type1 (dW (ha pos pins s σ H _ I h) λus s1 ⟨vs,H1,I1,r1,q1⟩=>?_) (bW hn) rfl))
 obtain⟨l,e,⟨xs,hq⟩,q⟩:=q1
 subst e
 obtain⟨u,rfl,ru⟩:=vals1 r1
 cases ru
 obtain⟨its,rv,pl,hz⟩:=I1.list hq
 refine call_enumerate_list pl.isList λh' he hit hsz hk=>?_
 refine wpAny_pyIter_enum he ?_
 refine⟨s1.heap.objs.size+1,[s1.heap.objs.size+1,s1.heap.objs.size],_,_,H1,rfl,I1.kept (t':=s1.toks) hk,aK8 l _ _ (Nat.succ_ne_self _),⟨⟨_,he⟩,hit⟩,λb hb=>?_,q⟩
 have hle:s1.heap.objs.size<=b:=by
  rcases yF.mp hb with z|hb
  ·rw[z];exact Nat.le_succ _
  ·rw[show b=s1.heap.objs.size by simpa using hb];exact gB _
 exact I1.aHQ hle (I1.hok.fresh hle)
end
section
variable{σ:St}{H:Hp}{nx:St->Hp->Prop}{rt:VK}{g:TG}{tb:TS}{Q:VK}{K:W.Frag}
def EnQ(K:W.Frag)(R:It->Hp->Prop):List V->Hp->Prop:=λvs H1=>∃a,vs=[.ref a]/\(∃xs,bV K H1 a xs)/\R (Ite K a) H1
def LiQ(K:W.Frag)(R:It->Hp->Prop):V->Hp->Prop:=λx H1=>∃a,x=.ref a/\(∃xs,bV K H1 a xs)/\R (Itl K a) H1
def TiQ(K:W.Frag)(R:It->Hp->Prop):V->Hp->Prop:=λx H1=>∃a,x=.ref a/\(∃xs,kQ K H1 a xs)/\R (Itt K a) H1
theorem aME{R:It->Hp->Prop}(h:ta σ H (EnQ K R)):aMD K ta σ H R:=h
theorem aK9{R:It->Hp->Prop}(h:tl σ H (LiQ K R)):aLT K tl σ H R:=h
theorem aMF{R:It->Hp->Prop}(h:tl σ H (TiQ K R)):aP0 K tl σ H R:=h
theorem aIa{R:It->Hp->Prop}(h1:bV K H a xs)(h:R (Ite K a) H):EnQ K R [.ref a] H:=⟨a,rfl,⟨xs,h1⟩,h⟩
theorem kU{R:It->Hp->Prop}(h1:bV K H a xs)(h:R (Itl K a) H):LiQ K R (.ref a) H:=⟨a,rfl,⟨xs,h1⟩,h⟩
theorem aMG{R:It->Hp->Prop}(h1:kQ K H a xs)(h:R (Itt K a) H):TiQ K R (.ref a) H:=⟨a,rfl,⟨xs,h1⟩,h⟩
theorem aBN{xs:List V}(Pv:Nat->St->Hp->Prop)(h0:Pv 0 σ H)(hl:∀i σ H,i<=xs.length->Pv i σ H->bV K H a xs)(hs:∀i x σ H T,xs[i]?=some x->Pv i σ H->H T=none->g (.ref T) σ (upd H T (.tup [.int i,x])) λσ2 H2=>tb ⟨Pv (i+1),rt,nx,Pv (i+1)⟩ σ2 H2)(hd:∀σ H,Pv xs.length σ H->nx σ H) :
  ∃W:Nat->Nat->St->Hp->Prop,(∃m,W 0 m σ H)/\∀i m σ H,W i m σ H->
   ((Ite K a).stop i H/\nx σ H)\/((Ite K a).go i H/\∃N:St->Hp->Prop,(∀σ' H',N σ' H'->∃m',m' < m/\W (i+1) m' σ' H')/\∀x H',(Ite K a).yld i H x H'->g x σ H' λσ2 H2=>tb ⟨N,rt,nx,N⟩ σ2 H2):=by
 refine⟨λi m σ H=>m=xs.length - i/\i<=xs.length/\Pv i σ H,⟨xs.length,by simp,Rn9 _,h0⟩,?_⟩
 rintro i m σ H ⟨rfl,hi,p⟩
 have q:=hl i σ H hi p
 by_cases hlt:i < xs.length
 ·refine .inr ⟨⟨xs,xs[i],q,by simp[hlt]⟩,Pv (i+1),λσ' H' p'=>⟨xs.length - (i+1),by omega,rfl,hlt,p'⟩,λx H' y=>?_⟩
  obtain⟨T,v,hT,e1,e2,y⟩:=y
  subst e1 e2
  exact hs i v σ H T (y xs q) p hT
 ·have e:i=xs.length:=by omega
  subst e
  exact .inl ⟨⟨xs,q,gB _⟩,hd σ H p⟩
end
section
variable{X:Cx}
theorem aEe:∀{bs:List Bool}{us:List Value},Vals (bs.map V.bl) us->us=bs.map Value.bool
 |[],_,.nil=>rfl
 |b::bs,_,.cons r t=>by cases r;rw[aEe t];rfl
def aMH(K:W.Frag):List V->Hp->VK->Prop:=λxs H Q=>∃(p:Addr) (bs:List Bool),xs=[.ref p]/\bV K H p (bs.map V.bl)/\Q (.bl (bs.all id)) H
theorem aCI(hc:X.calm=true):eC X (.builtin "all") (aMH X.K):=by
 intro pins s σ H xs us Q I r h
 obtain⟨p,bs,rfl,hq,q⟩:=h
 obtain⟨u,rfl,rx⟩:=vals1 r
 cases rx
 obtain⟨its,r',pl,hz⟩:=I.list hq
 have e:=aEe r'
 subst e
 have hl:=pl.isList
 have hlt:p < s.heap.objs.size:=by obtain⟨_,e,_⟩:=id hl;exact jY e
 refine call_all_walk (wpAny_pyIter_list hl ?_)
 refine⟨s.heap.objs.size,[s.heap.objs.size,p],[s.heap.objs.size],(bs.map Value.bool).toArray.size,_,_,λi=>(bs[i]?).getD true,rfl,Walks.list (A:=X.A.in1) (I.ok.hd hc) _ p (vU hlt) (bs.map Value.bool).toArray,
  ⟨⟨_,yL _ rfl,rfl,rfl⟩,hl.push _⟩,λi v s' Q' E' hP hQ=>?_,λh' tk hk=>?_⟩
 ·have hP':(bs.map Value.bool)[i]?=some v:=by simpa using hP
  rw[oR] at hP'
  cases hb:bs[i]? with
  |none=>rw[hb] at hP';cases hP'
  |some b=>
   rw[hb] at hP'
   cases hP'
   simp only[hb,Option.getD_some] at hQ
   exact wpAny_truthy_bool hQ
 ·have e:((List.range (bs.map Value.bool).toArray.size).all λi=>(bs[i]?).getD true)=bs.all id:=by
   rw[lX,bP];exact LSm.range_all bs
  rw[e]
  exact⟨.bl _,H,I.kept (t':=tk) (LSm.kept_iter hk),rfl,q⟩
end
section
variable{X:Cx}{e st:Expr}{te:TE}{ts:TO}{pos p2:Pos}
end
section
variable{X:Cx}{o e:Expr}{to:TE}{t:TA}{apos cpos:Pos}
theorem aQT(ho:PE X o to)(ha:PA X [e] t)(hn:noStar e=true:=by rfl)(hbase:attributeBase o "append" X.env (eval o X.env)=eval o X.env:=by rfl)(hline:(apos.endLine == cpos.line)=true:=by rfl) :
  PE X (.Call (.Attribute o "append" apos) [e] [] cpos) (tBM X.K "list" aD1 to t):=
 aPj PySem.F.plainAttrs_list PySem.F.slot_list_append PySem.F.type_list_append aKX ho ha hbase (by rw[bW hn];rfl) hline (bW hn) (by rfl)
end
section
variable{K:W.Frag}{σ:St}{H:Hp}{Q:VK}
theorem aRP{r:V->List V->Hp->VK->Prop}{t:TA}(h:to σ H λx H1=>tyV K T x H1/\t σ H1 λxs H2=>r x xs H2 Q):tBM K T r to t σ H Q:=h
theorem oW{P:Prop}(h:bV K H p xs)(q:P):tyV K "list" (.ref p) H/\P:=⟨.inl ⟨rfl,xs,h⟩,q⟩
theorem uG{xs:List V}(h:H l=some (.lst xs))(hz:xs.length < sizeLine)(q:Q .non (upd H l (.lst (xs ++ [y])))):aD1 (.ref l) [y] H Q:=⟨l,xs,y,rfl,rfl,h,hz,q⟩
end
end L2
namespace L2
open PySem PySem.Spec PyProof.Rows
section
variable{K:W.Frag}{σ:St}{H:Hp}{Q:VK}{nx bk ct:St->Hp->Prop}{rt:VK}
theorem aRQ{A B:Prop}(h:B):if (!true)=true then A else B:=aQr h
theorem aRR{A B:Prop}(h:A):if (!false)=true then A else B:=aQs h
theorem aOD{sp:Sp}(h:t σ H λvs H1=>∀x dx,H1 x=none->H1 dx=none->dx≠x->sp (.ref x::vs) (upd (upd H1 dx (.own x)) x (.ins C dx [])) (λv H2=>v=.non/\Q (.ref x) H2) E):aHU C sp [] E t σ H Q:=by
 unfold aHU
 simpa only [Rw9] using h
theorem aOE{t:TA}(h:ta σ H λx H1=>∃a dx fs,x=.ref a/\H1 a=some (.ins C dx fs)/\fs.lookup m=none/\t σ H1 λvs H2=>sp (x::vs) H2 Q E):aJ9 C m sp [] E ta t σ H Q:=by
 unfold aJ9
 simpa only [Rw9] using h
theorem aOF(h:tv σ H λy H1=>ta σ H1 λx H2=>∃a C dx fs,x=.ref a/\H2 a=some (.ins C dx fs)/\Cls K C/\dM K C f/\fs.length < 1000/\nx σ (upd H2 a (.ins C dx (vW f y fs)))):aP8 K ta tv f ⟨nx,rt,bk,ct⟩ σ H:=h
theorem jZ{fs:List (Str×V)}{P:Hp->Prop}(h1:H a=some (.ins C dx fs))(c:Cls K C)(n:dM K C f)(hl:fs.length < 1000)(e:vW f y fs=fs')(h:P (upd H a (.ins C dx fs'))) :
  ∃a' C dx fs,V.ref a=V.ref a'/\H a'=some (.ins C dx fs)/\Cls K C/\dM K C f/\fs.length < 1000/\P (upd H a' (.ins C dx (vW f y fs))):=⟨a,C,dx,fs,rfl,h1,c,n,hl,by rw[e];exact h⟩
theorem j0{fs:List (Str×V)}{P:V->Prop}(h1:H a=some (.ins C dx fs))(c:Cls K C)(n:dM K C f)(l:fs.lookup f=some v)(h:P v) :
  ∃a' C dx fs v,V.ref a=V.ref a'/\H a'=some (.ins C dx fs)/\Cls K C/\dM K C f/\fs.lookup f=some v/\P v:=⟨a,C,dx,fs,v,rfl,h1,c,n,l,h⟩
theorem aIb:∀{xs:List V},(∀x∈xs,x=.bl true)->xs=(List.replicate xs.length true).map V.bl
 |[],_=>rfl
 |x::xs,h=>by
  rw[Ra9,Si9,Rh9,<-aIb (λy hy=>h y (Qq9 _ hy)),h x (Qx9 ..)]
theorem aGJ(h1:bV K H p xs)(h2:∀x∈xs,x=.bl true)(h:Q (.bl true) H):aMH K [.ref p] H Q:=by
 refine⟨p,List.replicate xs.length true,rfl,?_,?_⟩
 ·rw[<-aIb h2];exact h1
 ·rw[show(List.replicate xs.length true).all id=true by simp];exact h
end
end L2
namespace L2
open PySem PySem.Spec PyProof.Rows
section
variable{X:Cx}{pins:List (Addr×Obj)}{σ:St}{H:Hp}{s:Shared}{A:Around}{E:Value->Shared->Prop}{Q:Value->Shared->Prop}{b:Bool}
end
section
variable{X:Cx}{K:W.Frag}{H:Hp}{Q:VK}
def isB:V->V->Option Bool
 |.non,.non=>some true
 |.bl a,.bl b=>some (a == b)
 |.bl _,.non=>some false
 |.int _,.non=>some false
 |.str _,.non=>some false
 |.ref _,.non=>some false
 |_,_=>none
def rIs:R2:=λx y H Q=>∃b,isB x y=some b/\Q (.bl b) H
def aMI:R2:=λx y H Q=>∃b,isB x y=some b/\Q (.bl (!b)) H
theorem aCJ:yP X (compareOp .Is) rIs:=by
 intro pins s σ H x y v u Q I rx ry h
 obtain⟨b,e,q⟩:=h
 have fin:EP X pins σ Q (.bool b) s:=⟨.bl b,H,I,rfl,q⟩
 cases x with
 |non=>cases y with
  |non=>cases e;cases rx;cases ry;exact is_none_gen fin
  |_=>cases e
 |bl a=>cases y with
  |bl c=>cases e;cases rx;cases ry;exact is_bool fin
  |non=>cases e;cases rx;cases ry;exact is_none_gen fin
  |_=>cases e
 |int i=>cases y with
  |non=>cases e;obtain⟨t,rfl⟩:=rx;cases ry;exact is_none_gen fin
  |_=>cases e
 |str i=>cases y with
  |non=>cases e;obtain⟨t,rfl⟩:=rx;cases ry;exact is_none_gen fin
  |_=>cases e
 |ref i=>cases y with
  |non=>cases e;cases rx;cases ry;exact is_none_gen fin
  |_=>cases e
 |_=>cases y <;> cases e
theorem aCK:yP X (compareOp .IsNot) aMI:=by
 intro pins s σ H x y v u Q I rx ry h
 obtain⟨b,e,q⟩:=h
 have fin:EP X pins σ Q (.bool (!b)) s:=⟨.bl (!b),H,I,rfl,q⟩
 cases x with
 |non=>cases y with
  |non=>cases e;cases rx;cases ry;exact isnot_none_gen fin
  |_=>cases e
 |bl a=>cases y with
  |bl c=>cases e;cases rx;cases ry;exact isnot_bool fin
  |non=>cases e;cases rx;cases ry;exact isnot_none_gen fin
  |_=>cases e
 |int i=>cases y with
  |non=>cases e;obtain⟨t,rfl⟩:=rx;cases ry;exact isnot_none_gen fin
  |_=>cases e
 |str i=>cases y with
  |non=>cases e;obtain⟨t,rfl⟩:=rx;cases ry;exact isnot_none_gen fin
  |_=>cases e
 |ref i=>cases y with
  |non=>cases e;cases rx;cases ry;exact isnot_none_gen fin
  |_=>cases e
 |_=>cases y <;> cases e
theorem aRS{b:Bool}(e:isB x y=some b)(h:Q (.bl b) H):rIs x y H Q:=⟨b,e,h⟩
theorem aMJ{b:Bool}(e:isB x y=some b)(h:Q (.bl (!b)) H):aMI x y H Q:=⟨b,e,h⟩
end
end L2
namespace L2
open PySem PySem.Spec PyProof.Rows
section
variable{X:Cx}
def aLa(K:W.Frag):List V->Hp->VK->Prop:=λxs H Q=>∃(p:Addr) (ns:List Int),xs=[.ref p]/\bV K H p (ns.map V.int)/\Q (.int (List.sum ns)) H
theorem aAv(hc:X.calm=true):eC X (.builtin "sum") (aLa X.K):=by
 intro pins s σ H xs us Q I r h
 obtain⟨p,ns,rfl,hq,q⟩:=h
 obtain⟨u,rfl,rx⟩:=vals1 r
 cases rx
 obtain⟨its,r',pl,hz⟩:=I.list hq
 have hi:=intsAre_of r'
 obtain⟨xs,hx⟩:=hi.allInts.items
 have hl':s.heap.IsList p (intItems xs):=hx▸pl.isList
 refine sum_intListG (I.ok.hd hc) hl' λh' tk t' hk=>?_
 have e1:ns=xs.toList.map (·.1):=by
  rw[<-nums_intItems,<-hx]
  exact(show numsOf its.toArray.toList=ns from hi.numsOf).symm
 have e2:preSum (numAt xs) xs.size=ns.sum:=by
  rw[preSum_eq,St9 (by simp),e1]
 rw[e2]
 exact⟨.int _,H,I.kept (t':=tk) hk,⟨t',rfl⟩,q⟩
theorem aGK{K:W.Frag}{H:Hp}{Q:VK}{p:Addr}{ns:List Int}(h1:bV K H p (ns.map V.int))(h:Q (.int (List.sum ns)) H):aLa K [.ref p] H Q:=⟨p,ns,rfl,h1,h⟩
end
end L2
namespace L2
open PySem PySem.Spec PyProof.Rows
section
variable{prog:Program}{w:World}{A:Around}{E:Value->Shared->Prop}
end
section
variable{X:Cx}{pos:Pos}
end
end L2
namespace L2
open PySem PySem.Spec PyProof.Rows
section
variable{X:Cx}
def aOG:List V->Hp->VK->Prop:=λxs H Q=>∃i j:Int,xs=[.int i,.int j]/\∀p,H p=none->Q (.ref p) (upd H p (.rng i j))
theorem aGe:eC X (.type "range") aOG:=by
 intro pins s σ H xs us Q I r h
 obtain⟨i,j,rfl,q⟩:=h
 obtain⟨u,w',rfl,rx,ry⟩:=vals2 r
 obtain⟨t,rfl⟩:=rx
 obtain⟨t',rfl⟩:=ry
 refine call_range_2 ?_
 exact⟨.ref s.heap.objs.size,_,I.laid (t':=s.toks+1) (o:=.rng i j) (λb ob q=>kO _ q) (gB _) ⟨_,_,_,yL _ rfl⟩,rfl,q _ (I.hok.fresh (gB _))⟩
theorem aQU{H:Hp}{Q:VK}{i j:Int}(h:∀p,H p=none->Q (.ref p) (upd H p (.rng i j))):aOG [.int i,.int j] H Q:=⟨i,j,rfl,h⟩
def upL(lo:Int)(n:Nat):List Int:=(List.range n).map λ(k:Nat)=>lo+(k:Int)
def aGL:List V->Hp->VK->Prop:=λxs H Q=>∃(p:Addr) (lo hi:Int),xs=[.ref p]/\H p=some (.rng lo hi)/\-(2 ^ 62)<=lo/\lo < 2 ^ 62/\-(2 ^ 62)<=hi/\hi < 2 ^ 62/\(hi - lo).toNat<=2 ^ 24/\
 ∀l,H l=none->Q (.ref l) (upd H l (.lst ((upL lo (hi - lo).toNat).map V.int)))
theorem aJt{a:Int}:∀(n:Nat) (its:List Value),its.length=n->(∀(i:Nat) v,its[i]?=some v->∃t,v=Value.int (a+(i:Int)) t)->Vals ((upL a n).map V.int) its:=by
 intro n
 induction n generalizing a with
 |zero=>
  intro its hl _
  rw[List.length_eq_zero_iff.mp hl]
  exact .nil
 |succ n ih=>
  intro its hl h
  cases its with
  |nil=>cases hl
  |cons v its=>
   have e:upL a (n+1)=a::upL (a+1) n:=by
    unfold upL
    rw[List.range_succ_eq_map,Rh9,Rq9]
    congr 1
    ·simp
    ·apply Tf9
     intro k _
     show a+((k+1:Nat):Int)=a+1+(k:Int)
     push_cast;omega
   rw[e,Rh9]
   obtain⟨t,ht⟩:=h 0 v rfl
   refine .cons ⟨t,by rw[ht];simp⟩ (ih its (by simpa using hl) λi w hw=>?_)
   obtain⟨t',ht'⟩:=h (i+1) w (by simpa using hw)
   exact⟨t',by rw[ht'];congr 1;push_cast;omega⟩
theorem aEf(hc:X.calm=true):eC X (.type "list") aGL:=by
 intro pins s σ H xs us Q I r h
 obtain⟨p,lo,hi,rfl,hp,b1,b2,b3,b4,hz,q⟩:=h
 obtain⟨u,rfl,rx⟩:=vals1 r
 cases rx
 obtain⟨t,t',t'',hr⟩:=(show cE X.prog X.w H s.heap p (.rng lo hi) from I.hok p _ hp)
 refine call_list_range (n:=(hi - lo).toNat) (I.ok.hd hc) hr (small_one b1 b2 b3 b4) (by rw[rangeSize_one];split <;> omega) hz λh' tk acc' c' hk hS ha=>?_
 have hv:Vals ((upL lo (hi - lo).toNat).map V.int) acc'.toList:=aJt _ _ (by simpa using ha.1) λi v hv=>by
  obtain⟨t,ht⟩:=ha.2 i v (by simpa using hv)
  exact⟨t,by rw[ht,So9]⟩
 have hl:((upL lo (hi - lo).toNat).map V.int).length<=sizeLine:=by
  unfold upL
  rw[bP,bP,Tq9]
  exact cF hz
 exact⟨.ref s.heap.objs.size,_,I.laid (t':=tk) (o:=.lst ((upL lo (hi - lo).toNat).map V.int)) hk (gB _) ⟨hl,acc'.toList,c',hv,hS⟩,rfl,q _ (I.hok.fresh (gB _))⟩
theorem aIc{H:Hp}{Q:VK}{lo hi:Int}(hp:H p=some (.rng lo hi))(h1:-(2 ^ 62)<=lo/\lo < 2 ^ 62/\-(2 ^ 62)<=hi/\hi < 2 ^ 62)(hz:(hi - lo).toNat<=2 ^ 24)(h:∀l,H l=none->Q (.ref l) (upd H l (.lst ((upL lo (hi - lo).toNat).map V.int)))):aGL [.ref p] H Q:=
 ⟨p,lo,hi,rfl,hp,h1.1,h1.2.1,h1.2.2.1,h1.2.2.2,hz,h⟩
end
section
variable{X:Cx}{pins:List (Addr×Obj)}{σ:St}{H:Hp}{s:Shared}{h':Heap}
theorem Inv.aLb{t':Nat}{ch:List Addr}(I:Inv X pins σ H s)(k:∀b u,b∉ch->s.heap.get? b=some u->h'.get? b=some u)
  (hch:∀b∈ch,aBE X pins H b):Inv X pins σ H { s with heap:=h',toks:=t' }:=by
 have nit:∀b u,H b=some u->b∉ch:=λb u e z=>by rw[(hch b z).1] at e;cases e
 refine I.step (g':=s.gens) (d':=s.drawn) (ch:=ch) (λb hb=>?_) (λb u _ _ hc e _=>k b u hc e) (λb u _ _ hc e _=>⟨u.slots,k b u hc e⟩) (λb u hc e n=>n)
  (λb u hc e=>⟨u,k b u hc e⟩) (λb xs e=>e) (λb u v e=>e) (λb ps e=>⟨#[],by rw[e];simp⟩) (λm hm=>?_) (λb u e=>?_) I.bare
 ·obtain⟨f0,f1,f2,f3,f4,f5⟩:=hch b hb
  exact⟨f3,f1,f4,f5⟩
 ·obtain⟨u,es,ep,ho,r⟩:=hm
  exact⟨u,es,ep,k _ u (λz=>(hch _ z).2.1 rfl) ho,r⟩
 ·refine(I.hok b u e).aAF (λc v hc q=>k c v ?_ q) (λc q=>q) λc xs _ q=>q
  rcases hc with z|z
  ·rw[z];exact nit b u e
  ·exact nit c _ z
end
section
variable{X:Cx}{elts:List Expr}{x1:Nat}{tp:Pos}
theorem aQV:bootBuiltins "zip" = some (.type "zip"):=by decide +kernel
end
section
variable{σ:St}{H:Hp}{nx:St->Hp->Prop}{rt:VK}{g:TG}{tb:TS}{Q:VK}{K:W.Frag}
end
end L2
namespace L2
open PySem PySem.Spec PyProof.Rows
section
variable{X:Cx}{e:Expr}{te:TE}
end
end L2
namespace L2.Z
open PySem PySem.Spec PyProof.Rows L2
structure QE(X:Cx)(e:Expr)(t:TE):Prop where
 h:PE X e t
structure QT(X:Cx)(e:Expr)(t:TT):Prop where
 h:PT X e t
structure QW(X:Cx)(e:Expr)(t:TT):Prop where
 h:PW X e t
structure QA(X:Cx)(es:List Expr)(t:TA):Prop where
 h:PA X es t
structure QS(X:Cx)(st:Stmt)(t:TS):Prop where
 h:PS X st t
structure QSs(X:Cx)(st:List Stmt)(t:TS):Prop where
 h:PSs X st t
structure QG(X:Cx)(tg:Expr)(g:TG):Prop where
 h:PG X tg g
structure QGs(X:Cx)(tg:List Expr)(g:TGs):Prop where
 h:PGs X tg g
structure QI(X:Cx)(tg it:Expr)(w:TI):Prop where
 h:PI X tg it w
structure QTs(X:Cx)(ifs:List Expr)(t:TT):Prop where
 h:PTs X ifs t
structure QO(X:Cx)(o:Option Expr)(t:TO):Prop where
 h:PO X o t
section
variable{X:Cx}{CX:CXT}{k:Nat}{f C:Addr}{fd:FuncData}{ps:List Str}{sp:Sp}{dvs:List V}{ds:List Value}{E:XK}{x m:Str}{p pos apos p2 spos:Pos}{a b c e o:Expr}{es rest:List Expr}{ta tb tc te to ti:TE}{t:TA}{tA tB tt:TT}{id T:String}{r r':R2}{rc:List V->Hp->VK->Prop}{st:Stmt}{sts sts2:List Stmt}{ts us:TS}{g:TG}{gs:TGs}{wi:TI}{tg iter:Expr}
theorem iJ{e:Expr}{t:TT}(q:QW X e t):QT X e t:=⟨q.h.pt⟩
theorem pv(i:Nat)(hN:X.N[i]?=some x:=by rfl)(hv:Vis X.env.scope x:=by first|exact Or.inl rfl|exact Or.inr (Or.inl rfl)|exact Or.inr (Or.inr rfl))(hd:(x == ("__debug__" : Str))=false:=by decide)
  (hcd:(x == ("__classdict__" : Str))=false:=by decide):QE X (.Name x pos) (aPA i):=⟨aLG hN hv hd hcd⟩
theorem aB{i j}:QE X (.Constant (.int i) j pos) (tC (.int i)):=⟨L2.aPB⟩
theorem vB{b j}:QE X (.Constant (.bool b) j pos) (tC (.bl b)):=⟨L2.aRg⟩
theorem eR{j}:QE X (.Constant .none j pos) (tC .non):=⟨L2.aPC⟩
theorem aEg{v:V}{u:Value}(hg:Gl X x)(hm:X.mg x=some u)(r:RelV v u)(hd:(x == ("__debug__" : Str))=false:=by decide):QE X (.Name x pos) (tC v):=⟨L2.aJ4 hg hm r hd⟩
theorem vX{n:Int}(hg:Gl X x)(hm:∃t,X.mg x=some (.int n t))(hd:(x == ("__debug__" : Str))=false:=by decide):QE X (.Name x pos) (tC (.int n)):=⟨L2.aOy hg hm hd⟩
theorem qT{v:V}{u:Value}(hg:Gl X x)(hm:X.mg x=none)(hv:bootBuiltins x=some u)(r:RelV v u)(hn:x≠"__name__":=by decide)(hd:(x == ("__debug__" : Str))=false:=by decide):QE X (.Name x pos) (tC v):=⟨L2.aNH hg hm hv r hn hd⟩
theorem aI{op:Operator}(ho:yP X (binaryOp op) r)(ha:QE X a ta)(hb:QE X b tb):QE X (.BinOp a op b pos) (tOp r ta tb):=⟨L2.aRk ho ha.h hb.h⟩
theorem qU{op:UnaryOp}{ru:V->Hp->VK->Prop}(ho:UnR X (unaryOp op) ru)(ha:QE X a ta):QE X (.UnaryOp op a pos) (tUn ru ta):=⟨L2.aRl ho ha.h⟩
theorem aLc(ha:QE X a ta):QE X (.UnaryOp .Not a pos) (aLI ta):=⟨L2.aPM ha.h⟩
theorem mG{op}(h:QE X a ta):QE X (.BoolOp op [a] pos) ta:=⟨L2.aPK h.h⟩
theorem qP(ha:QE X a ta)(hb:QE X (.BoolOp .And (b::rest) pos) tb):QE X (.BoolOp .And (a::b::rest) pos) (aLH ta tb):=⟨L2.aPL ha.h hb.h⟩
theorem aIe(ha:QE X a ta)(hb:QE X (.BoolOp .Or (b::rest) pos) tb):QE X (.BoolOp .Or (a::b::rest) pos) (aPJ ta tb):=⟨L2.aRi ha.h hb.h⟩
theorem aDa(hc:QT X c tA)(ha:QE X a ta)(hb:QE X b tb):QE X (.IfExp c a b pos) (tIf tA ta tb):=⟨L2.aLJ hc.h ha.h hb.h⟩
theorem j7{op:CmpOp}(ho:yP X (compareOp op) r)(ha:QE X a ta)(hb:QE X b tb)(hm:behindInMarks op b=false):QE X (.Compare a [op] [b] pos) (tOp r ta tb):=⟨L2.aNU ho ha.h hb.h hm⟩
theorem aZ{op:CmpOp}(ho:yP X (compareOp op) r)(ha:QE X a ta)(hb:QE X b tb)(hm:behindInMarks op b=false):QT X (.Compare a [op] [b] pos) (aLX (tOp r ta tb)):=⟨L2.aNV ho ha.h hb.h hm⟩
theorem yZ{op op':CmpOp}(ho:yP X (compareOp op) r)(ho':yP X (compareOp op') r')(ha:QE X a ta)(hb:QE X b tb)(hc:QE X c tc)(hm:lastMarks [op,op'] [b,c]=false:=by with_unfolding_all rfl):QE X (.Compare a [op,op'] [b,c] pos) (aI9 r r' ta tb tc):=⟨L2.aLY ho ho' ha.h hb.h hc.h hm⟩
theorem fP(h:QE X e te)(he:∀whole,isTrue e X.env whole=(do let v <-whole;standAt e.pos;holding [v] (truthy v)):=by intro _;rfl):QT X e (L2.tB te):=⟨L2.aPD h.h he⟩
theorem iS(ha:QT X a tA):QT X (.UnaryOp .Not a pos) (aPF tA):=⟨L2.aPI ha.h⟩
theorem iK(ha:QT X a tA):QW X (.BoolOp .And [a] pos) tA:=⟨L2.aNI ha.h⟩
theorem aCL(ha:QT X a tA):QW X (.BoolOp .Or [a] pos) tA:=⟨L2.aPG ha.h⟩
theorem kD(ha:QT X a tA)(hb:QW X (.BoolOp .And (b::rest) pos) tB):QW X (.BoolOp .And (a::b::rest) pos) (aPE tA tB):=⟨L2.aPH ha.h hb.h⟩
theorem aEh(ha:QT X a tA)(hb:QW X (.BoolOp .Or (b::rest) pos) tB):QW X (.BoolOp .Or (a::b::rest) pos) (tOr tA tB):=⟨L2.aRh ha.h hb.h⟩
theorem aC:QA X [] qS:=⟨L2.uD⟩
theorem aA(ha:QE X e te)(hr:QA X es t)(hs:noStar e=true:=by rfl):QA X (e::es) (bL te t):=⟨L2.jR ha.h hr.h hs⟩
theorem aF(F:bQ X.prog X.w X.K X.mg X.base CX k f fd ps sp)(hr:fJ k X.A)(hg:Gl X x)(hm:X.mg x=some (.ref f))(hk:W.keepIn X.K (.ref f)=true)(hb:Binds X.K fd ps ds)(hd:Vals dvs ds)(hx:Passes CX X E)
  (ha:QA X (e::es) t) (hn:(e::es).all noStar=true:=by rfl) (hdb:(x == ("__debug__" : Str))=false:=by decide):QE X (.Call (.Name x p) (e::es) [] pos) (aHT sp dvs E t):=⟨L2.aMB F hr hg hm hk hb hd hx ha.h hn hdb⟩
theorem zq1{j:Nat}(F:bQ X.prog X.w X.K X.mg X.base gE k f fd ps sp)(hr:fJ j X.A)(hm:X.mg x=some (.ref f))(hk:W.keepIn X.K (.ref f)=true)(hb:Binds X.K fd ps [])(ha:QA X (e::es) t)(hj:k<=j:=by decide)(hg:Gl X x:=by rfl)(hn:(e::es).all noStar=true:=by rfl)(hdb:(x == ("__debug__" : Str))=false:=by decide):QE X (.Call (.Name x p) (e::es) [] pos) (aHT sp [] E0 t):=aF F (hr.mono hj) hg hm hk hb .nil aR ha hn hdb
theorem y3(M:Mk X.K C f)(F:bQ X.prog X.w X.K X.mg X.base CX k f fd ps sp)(hr:fJ (k+1) X.A)(hg:Gl X x)(hm:X.mg x=some (.ref C))(hb:Binds X.K fd ps ds)(hd:Vals dvs ds)(hx:Passes CX X E)
  (ha:QA X (e::es) t) (hn:(e::es).all noStar=true:=by rfl) (hdb:(x == ("__debug__" : Str))=false:=by decide):QE X (.Call (.Name x p) (e::es) [] pos) (aHU C sp dvs E t):=⟨L2.aMC M F hr hg hm hb hd hx ha.h hn hdb⟩
theorem aK(hc:eC X (.builtin id) rc)(hg:Gl X x)(hm:X.mg x=none)(hv:bootBuiltins x=some (.builtin id))(ha:QA X (e::es) t)(hn:(e::es).all noStar=true:=by rfl)(hne:x≠"__name__":=by decide)(hdb:(x == ("__debug__" : Str))=false:=by decide) :
  QE X (.Call (.Name x p) (e::es) [] pos) (tCB rc t):=⟨L2.aK7 hc hg hm hv ha.h hn hne hdb⟩
theorem bX(hc:eC X (.type T) rc)(hg:Gl X x)(hm:X.mg x=none)(hv:bootBuiltins x=some (.type T))(ha:QA X (e::es) t)(hn:(e::es).all noStar=true:=by rfl)(hne:x≠"__name__":=by decide)(hdb:(x == ("__debug__" : Str))=false:=by decide) :
  QE X (.Call (.Name x p) (e::es) [] pos) (tCB rc t):=⟨L2.aJq hc hg hm hv ha.h hn hne hdb⟩
theorem vY:QO X none aGC:=⟨L2.aN2⟩
theorem vZ(h:QE X e te):QO X (some e) (aL8 te):=⟨L2.aN3 h.h⟩
theorem sA{rs:V->Option Int->Option Int->Hp->VK->Prop}{lo hi:Option Expr}{tl th:TO}(hr:SlR X rs)(he:QE X e te)(hl:QO X lo tl)(hu:QO X hi th):QE X (.Subscript e (.Slice lo hi none p2) pos) (tSl rs te tl th):=⟨L2.aL9 hr he.h hl.h hu.h⟩
theorem gU(h:QA X es t):QE X (.List es pos) (aBe t):=⟨L2.aBf h.h⟩
theorem bO(hg:Gl X "range")(hm:X.mg "range" = none)(ha:QA X [a] t)(hn:noStar a=true:=by rfl):QI X tg (.Call (.Name "range" p) [a] [] pos) (aJ7 t):=⟨L2.aJr hg hm ha.h hn⟩
theorem aAR(hg:Gl X "range")(hm:X.mg "range" = none)(ha:QA X [a,b] t)(hn:noStar a=true:=by rfl)(hn2:noStar b=true:=by rfl):QI X tg (.Call (.Name "range" p) [a,b] [] pos) (aJ8 t):=⟨L2.aJs hg hm ha.h hn hn2⟩
theorem aL{i:Nat}(hN:X.N.Nodup)(hi:X.N[i]?=some x:=by rfl)(hx:Loc X.env.scope x:=by exact Or.inl rfl)(hf:X.fn x=true\/X.env.scope.names.lookup x=some .local:=by first|exact .inl rfl|exact .inr rfl|assumption):QG X (.Name x pos) (yO i):=⟨L2.aNM hN hi hx hf⟩
theorem cB:QGs X [] aNN:=⟨L2.aNO⟩
theorem aV{e:Expr}{es:List Expr}{t:TG}{u:TGs}(h1:QG X e t)(h2:QGs X es u)(hs:(assignEach (e::es) X.env).map (·.2)=assign e X.env::(assignEach es X.env).map (·.2):=by rfl):QGs X (e::es) (aJ5 t u):=⟨L2.aLR h1.h h2.h hs⟩
theorem aAw{i:Expr}{tset:aI6}(ho:QE X o to)(hi:QE X i ti)(hs:aLQ X tset)
  (ha:∀v,assign (.Subscript o i pos) X.env v=(do
   let ov <-holding [v] (eval o X.env)
   let iv <-holding [v,ov] (eval i X.env)
   standAt pos
   holding [v,ov,iv] (setItem ov iv v)
   release [v,ov,iv] []):=by intro _;rfl):QG X (.Subscript o i pos) (aPR to ti tset):=⟨L2.aPS ho.h hi.h hs ha⟩
theorem bR:QTs X [] aQt:=⟨L2.aOa⟩
theorem aEi(h:QT X c tt):QTs X [c] tt:=⟨L2.aOb h.h⟩
theorem bA{D:Ends}{σ:St}{H:Hp}(q:QSs X sts ts)(h:ts D σ H):∃t,PSs X sts t/\t D σ H:=⟨ts,q.h,h⟩
theorem imp{ts':TS}(q:QSs X sts ts)(h:∀D σ H,ts' D σ H->ts D σ H):QSs X sts ts':=⟨λpins s σ H D I z=>q.h pins s σ H D I (h D σ H z)⟩
theorem bC:QSs X [] aLK:=⟨L2.aNJ⟩
theorem aD(h1:QS X st ts)(h2:QSs X sts us):QSs X (st::sts) (aLL ts us):=⟨L2.aLM h1.h h2.h⟩
theorem aG(h1:QS X st ts):QSs X [st] ts:=⟨L2.aNK h1.h⟩
theorem oM:QS X st aLO:=⟨L2.aLP⟩
theorem eF(he:QE X e te)(hs:swapsWith e none pos.line X.env=pure false:=by rfl):QS X (.Expr e pos) (aLN te):=⟨L2.aNL he.h hs⟩
theorem aM(he:QE X e te):QS X (.Return (some e) pos) (aPN te):=⟨L2.aPO he.h⟩
theorem bH(hc:QT X c tt)(ha:QSs X sts ts)(hb:QSs X sts2 us):QS X (.If c sts sts2 pos) (aPP tt ts us):=⟨L2.aRj hc.h ha.h hb.h⟩
theorem qQ{i:Nat}{pos':Pos}(hN:X.N.Nodup)(hi:X.N[i]?=some x)(hx:Loc X.env.scope x)(he:QE X e te)(hs:swapsWith e (some (.Name x pos')) pos.line X.env=pure false:=by rfl)(hf:X.fn x=true\/X.env.scope.names.lookup x=some .local:=by first|exact .inl rfl|exact .inr rfl|assumption) :
  QS X (.Assign [.Name x pos'] e pos) (aHP te (yO i)):=⟨L2.aPU hN hi hx he.h hs hf⟩
theorem aJ{i:Nat}{pos':Pos}(hN:X.N.Nodup)(he:QE X e te)(hi:X.N[i]?=some x:=by rfl)(hx:Loc X.env.scope x:=by exact Or.inl rfl)(hs:swapsWith e (some (.Name x pos')) pos.line X.env=pure false:=by rfl)(hf:X.fn x=true\/X.env.scope.names.lookup x=some .local:=by first|exact .inl rfl|exact .inr rfl|assumption) :
  QS X (.Assign [.Name x pos'] e pos) (aHP te (yO i)):=qQ hN hi hx he hs hf
theorem vC(he:QE X e te)(hg:QG X tg g)(hs:swapsWithSole [tg] e pos.line X.env=pure false:=by rfl)(hw:swappedStores [tg] e X.env=pure none:=by rfl)
  (h1:(assignEach [tg] X.env).map (·.2)=[assign tg X.env]:=by rfl):QS X (.Assign [tg] e pos) (aHP te g):=⟨L2.aPT he.h hg.h hs hw h1⟩
theorem kE{i:Nat}{op:Operator}{tip:TIp}{pos':Pos}(hN:X.N.Nodup)(hi:X.N[i]?=some x)(hx:Loc X.env.scope x)(he:QE X e te)(ho:PIp X op tip)(hf:X.fn x=true\/X.env.scope.names.lookup x=some .local:=by first|exact .inl rfl|exact .inr rfl|assumption) :
  QS X (.AugAssign (.Name x pos') op e pos) (aPX i te tip):=⟨L2.aPY hN hi hx he.h ho hf⟩
theorem aEj{i:Expr}{tget:V->V->Hp->VK->Prop}{tip:TIp}{tset:aI6}{op:Operator}{tpos:Pos}(ho:QE X o to)(hi:QE X i ti)(hg:aPZ X tget)(he:QE X e te)(hp:PIp X op tip)(hs:aLQ X tset)
  (ha:∀ov iv new,augStore i ov iv new=(do holding [new,ov,iv] (setItem ov iv new);release [new,ov,iv] [];pure .next):=by intros;rfl):QS X (.AugAssign (.Subscript o i tpos) op e pos) (aLS to ti te tget tip tset):=⟨L2.aNQ ho.h hi.h hg he.h hp hs ha⟩
theorem bM(hp:PassesOwn (model X.prog X.w) X.A X.env X.xe)(hc:X.calm=true)(hi:QI X tg iter wi)(hg:QG X tg g)(hb:QSs X sts ts)
  (hs:∀x,foldedSetIterable iter X.env x=pure x:=by intro _;rfl):QS X (.For tg iter sts [] pos) (aP2 wi g ts):=⟨L2.aP3 hp hc hi.h hg.h hb.h hs⟩
variable{scope:Scope}{elt target:Expr}{ifs:List Expr}{N:List Str}
theorem cO{k:Nat}{idx:List Nat}{N:List Str}(S:fN X scope N k idx)(hc:X.calm=true)(hi:QI X target iter wi)
  (hg:∀fp C s H,QG (cxC X scope N fp C s H) target g) (ho:Own k g) (ht:∀fp C s H,QTs (cxC X scope N fp C s H) ifs tt) (he:∀fp C s H,QE (cxC X scope N fp C s H) elt te)
  (hs:∀x,foldedSetIterable iter X.env x=pure x:=by intro _;rfl):QE X (.ListComp elt [⟨target,iter,ifs,0⟩] scope pos) (aH6 wi k idx g tt te):=
 ⟨L2.aOd k idx S hc hi.h (λfp C s H=>(hg fp C s H).h) ho (λfp C s H=>(ht fp C s H).h) (λfp C s H=>(he fp C s H).h) hs⟩
theorem iL{k:Nat}{idx:List Nat}{i:Nat}{N:List Str}{pos':Pos}(hN:X.N.Nodup)(hix:X.N[i]?=some x)(hx:Loc X.env.scope x)
  (S:fN X scope N k idx) (hc:X.calm=true) (hi:QI X target iter wi)
  (hg:∀fp C s H,QG (cxC X scope N fp C s H) target g) (ho:Own k g) (ht:∀fp C s H,QTs (cxC X scope N fp C s H) ifs tt) (he:∀fp C s H,QE (cxC X scope N fp C s H) elt te)
  (hsw:swapsWith (.ListComp elt [⟨target,iter,ifs,0⟩] scope pos) (some (.Name x pos')) spos.line X.env=pure true:=by rfl)
  (hs:∀x,foldedSetIterable iter X.env x=pure x:=by intro _;rfl) (hfn:X.fn x=true\/X.env.scope.names.lookup x=some .local:=by first|exact .inl rfl|exact .inr rfl|assumption) :
  QS X (.Assign [.Name x pos'] (.ListComp elt [⟨target,iter,ifs,0⟩] scope pos) spos) (aHP (aH6 wi k idx g tt te) (yO i)):=
 ⟨L2.aOe k idx hN hix hx S hc hi.h (λfp C s H=>(hg fp C s H).h) ho (λfp C s H=>(ht fp C s H).h) (λfp C s H=>(he fp C s H).h) hsw hs hfn⟩
variable{x1:Nat}{e1 e2 e3 e4 e5 e6 e7 e8:Expr}{t1 t2 t3 t4 t5 t6 t7 t8:TE}
theorem sC(h1:QE X e1 t1)(n1:noStar e1=true:=by rfl):QE X (.List [e1] pos) (aBe (bL t1 qS)):=⟨L2.aR8 h1.h n1⟩
theorem sD(h1:QE X e1 t1)(h2:QE X e2 t2)(n1:noStar e1=true:=by rfl)(n2:noStar e2=true:=by rfl):QE X (.List [e1,e2] pos) (aBe (bL t1 (bL t2 qS))):=⟨L2.aR9 h1.h h2.h n1 n2⟩
theorem eW{k1}(h1:QE X e1 t1)(h2:QE X e2 t2)(n1:noStar e1=true:=by rfl)(n2:noStar e2=true:=by rfl):QE X (.Tuple [e1,e2] k1 pos) (aHS (bL t1 (bL t2 qS))):=⟨L2.aSa h1.h h2.h n1 n2⟩
theorem aAx(h1:QE X e1 t1)(h2:QE X e2 t2)(h3:QE X e3 t3)(n1:noStar e1=true:=by rfl)(n2:noStar e2=true:=by rfl)(n3:noStar e3=true:=by rfl):QE X (.List [e1,e2,e3] pos) (aBe (bL t1 (bL t2 (bL t3 qS)))):=⟨L2.aSb h1.h h2.h h3.h n1 n2 n3⟩
theorem aAy{k1}(h1:QE X e1 t1)(h2:QE X e2 t2)(h3:QE X e3 t3)(n1:noStar e1=true:=by rfl)(n2:noStar e2=true:=by rfl)(n3:noStar e3=true:=by rfl):QE X (.Tuple [e1,e2,e3] k1 pos) (aHS (bL t1 (bL t2 (bL t3 qS)))):=⟨L2.aSc h1.h h2.h h3.h n1 n2 n3⟩
theorem aOH(h1:QE X e1 t1)(h2:QE X e2 t2)(h3:QE X e3 t3)(h4:QE X e4 t4)(n1:noStar e1=true:=by rfl)(n2:noStar e2=true:=by rfl)(n3:noStar e3=true:=by rfl)(n4:noStar e4=true:=by rfl):QE X (.List [e1,e2,e3,e4] pos) (aBe (bL t1 (bL t2 (bL t3 (bL t4 qS))))):=⟨L2.aSd h1.h h2.h h3.h h4.h n1 n2 n3 n4⟩
theorem aOI{k1}(h1:QE X e1 t1)(h2:QE X e2 t2)(h3:QE X e3 t3)(h4:QE X e4 t4)(n1:noStar e1=true:=by rfl)(n2:noStar e2=true:=by rfl)(n3:noStar e3=true:=by rfl)(n4:noStar e4=true:=by rfl):QE X (.Tuple [e1,e2,e3,e4] k1 pos) (aHS (bL t1 (bL t2 (bL t3 (bL t4 qS))))):=⟨L2.aSe h1.h h2.h h3.h h4.h n1 n2 n3 n4⟩
theorem aKf(h1:QE X e1 t1)(h2:QE X e2 t2)(h3:QE X e3 t3)(h4:QE X e4 t4)(h5:QE X e5 t5)(n1:noStar e1=true:=by rfl)(n2:noStar e2=true:=by rfl)(n3:noStar e3=true:=by rfl)(n4:noStar e4=true:=by rfl)(n5:noStar e5=true:=by rfl):QE X (.List [e1,e2,e3,e4,e5] pos) (aBe (bL t1 (bL t2 (bL t3 (bL t4 (bL t5 qS)))))):=⟨L2.aSf h1.h h2.h h3.h h4.h h5.h n1 n2 n3 n4 n5⟩
theorem aOJ(h1:QE X e1 t1)(h2:QE X e2 t2)(h3:QE X e3 t3)(h4:QE X e4 t4)(h5:QE X e5 t5)(h6:QE X e6 t6)(h7:QE X e7 t7)(n1:noStar e1=true:=by rfl)(n2:noStar e2=true:=by rfl)(n3:noStar e3=true:=by rfl)(n4:noStar e4=true:=by rfl)(n5:noStar e5=true:=by rfl)(n6:noStar e6=true:=by rfl)(n7:noStar e7=true:=by rfl):QE X (.List [e1,e2,e3,e4,e5,e6,e7] pos) (aBe (bL t1 (bL t2 (bL t3 (bL t4 (bL t5 (bL t6 (bL t7 qS)))))))):=⟨L2.aSg h1.h h2.h h3.h h4.h h5.h h6.h h7.h n1 n2 n3 n4 n5 n6 n7⟩
end
end L2.Z
namespace L2.Z
open PySem PySem.Spec PyProof.Rows L2
section
variable{X:Cx}{CX:CXT}{k:Nat}{f C:Addr}{fd:FuncData}{ps:List Str}{sp:Sp}{dvs:List V}{ds:List Value}{E:XK}{x m:Str}{p pos apos p2 spos cpos tp:Pos}{a b c e o st:Expr}{es rest elts:List Expr}{ta tb tc te to ti:TE}{t:TA}{x1:Nat}{ts:TO}
theorem aJu{pl:Sem Bool}(he:QE X o ta)(c:Cls X.K C)(hm:Meth X.K C m f)(F:bQ X.prog X.w X.K X.mg X.base CX k f fd ps sp)(hr:fJ k X.A)(hb:Binds X.K fd ps ds)(hd:Vals dvs ds)(hx:Passes CX X E)(ha:QA X (e::es) t)
  (hn:(e::es).all noStar=true:=by rfl)
  (ht:eval (.Call (.Attribute o m apos) (e::es) [] pos) X.env=(do
   let ov <-eval o X.env
   standAt apos.atName
   let (f,first) <-holding [ov] (getMethod ov m pl)
   callWith pos f first (backTo pos (starEach (e::es) X.env)) (backToKw pos (keywordEach [] X.env))):=by rfl) :
  QE X (.Call (.Attribute o m apos) (e::es) [] pos) (aJ9 C m sp dvs E ta t):=⟨L2.aN0 he.h c hm F hr hb hd hx ha.h (bW (jP hn).1) (kT (jP hn).2) ht⟩
end
end L2.Z
namespace L2.Z
open PySem PySem.Spec PyProof.Rows L2
section
variable{X:Cx}{K':W.Frag}{x m n:Str}{p pos apos p2 spos cpos tp pos':Pos}{a b c e o st iter tg:Expr}{es rest elts:List Expr}{ta tb tc te to ti:TE}{t:TA}{x1:Nat}{ts:TO}
theorem aE(ha:QE X a ta)(hb:QE X b tb)(hs:aKd b:=by exact λ_ _=>rfl)(hK:X.K=K':=by rfl):QE X (.Subscript a b pos) (tOp (rIx K') ta tb):=by subst hK;exact⟨L2.aRq aQf ha.h hb.h hs⟩
theorem bT(hl:QE X e te)(hK:X.K=K':=by rfl):QI X tg e (aLT K' te):=by subst hK;exact⟨L2.aNR hl.h⟩
theorem aBj(hl:QE X e te)(hK:X.K=K':=by rfl):QI X tg e (aP0 K' te):=by subst hK;exact⟨L2.aP1 hl.h⟩
theorem oN(hg:Gl X "enumerate")(hm:X.mg "enumerate" = none)(ha:QA X [a] t)(hn:noStar a=true:=by rfl)(hK:X.K=K':=by rfl):QI X (.Tuple elts x1 tp) (.Call (.Name "enumerate" p) [a] [] pos) (aMD K' t):=by subst hK;exact⟨L2.aOC hg hm ha.h hn⟩
theorem cC{k1 n:Nat}{gs:TGs}(hc:X.calm=true)(h:QGs X es gs)(hn:(assignEach es X.env).length=n:=by rfl)(hst:(assignEach es X.env).findIdx? (·.1)=none:=by rfl)(hK:X.K=K':=by rfl):QG X (.Tuple es k1 pos) (aNP K' n gs):=by subst hK;exact⟨L2.aPQ hc h.h hn hst⟩
theorem cT(he:QE X e ta)(hb:attributeBase e n X.env (eval e X.env)=eval e X.env)(hK:X.K=K':=by rfl):QE X (.Attribute e n pos) (aP7 K' ta n):=by subst hK;exact⟨L2.aP9 he.h hb⟩
theorem cU(ha:QE X o ta)(hv:QE X e te)(hs:swapsWith e (some (.Attribute o n pos')) pos.line X.env=pure false)(hK:X.K=K':=by rfl):QS X (.Assign [.Attribute o n pos'] e pos) (aP8 K' ta te n):=by subst hK;exact⟨L2.aQa ha.h hv.h hs⟩
theorem fB(ho:QE X o to)(ha:QA X [e] t)(hn:noStar e=true:=by rfl)(hbase:attributeBase o "append" X.env (eval o X.env)=eval o X.env:=by rfl)(hline:(apos.endLine == cpos.line)=true:=by rfl)(hK:X.K=K':=by rfl) :
  QE X (.Call (.Attribute o "append" apos) [e] [] cpos) (tBM K' "list" aD1 to t):=by subst hK;exact⟨L2.aQT ho.h ha.h hn hbase hline⟩
end
end L2.Z
namespace L2.Z
open PySem PySem.Spec PyProof.Rows L2
section
variable{X:Cx}{K':W.Frag}{p pos tp:Pos}{a b:Expr}{elts:List Expr}{t:TA}{x1:Nat}
end
end L2.Z
namespace L2
open PySem
section
variable{prog:Program}{w:World}{A:Around}{E:Value->Shared->Prop}{s:Shared}
theorem aBO{i:Nat}{items}{Q:Value->Shared->Prop}(hit:s.heap.IsTupleIter it t i)(ht:s.heap.IsTuple t items)(hx:items[i]?=some x)(hQ:∀h',h'.IsTupleIter it t (i+1)->Heap.SameBut it s.heap h'->Q x { s with heap:=h' }) :
  wpAny (model prog w) A (Builtin.SmallTypes.nextOf (.ref it)) Q E s:=by
 obtain⟨o,ho,hc,hd⟩:=id hit
 obtain⟨ol,hol,_,nl,hdl⟩:=ht
 unfold Builtin.SmallTypes.nextOf
 refine wpAny_bind (wpAny_callSpecial?_slot (name:=Str.ofString "__next__") hit.typeIs F.slot_tuple_iterator_next
  (wpAny_call_entry F.slot_tuple_iterator_next hit.typeIs F.entry_tuple_iterator_next ?_ (F.args_tuple_iterator_next_1 _)))
 show wpAny _ _ (field (.ref it) 0 >>= _) _ _ s
 refine wpAny_bind (wpAny_field ho hd (x:=.ref t) rfl ?_)
 show wpAny _ _ (if (Value.ref t == Value.none)=true then _ else _) _ _ s
 rw[if_neg (show ¬((Value.ref t == Value.none)=true) from Qr9)]
 show wpAny _ _ (field (.ref it) 1 >>= _) _ _ s
 refine wpAny_bind (wpAny_field ho hd (x:=.int i 0) rfl ?_)
 show wpAny _ _ (seqItems? (.ref t) >>= _) _ _ s
 refine wpAny_bind (wpAny_seqItems hol hdl ?_)
 simp only[Re9,hx]
 refine wpAny_bind (wpAny_setField ho hd (by simp) (wpAny_pure ⟨x,rfl,wpAny_pure (hQ _ ?_ (Heap.SameBut.update ..))⟩))
 exact⟨_,Sl9 _ ho (Obj.isFreed_of_fields (Obj.data_mapFields hd _)),(Obj.cls_mapFields ..).trans hc,by
  rw[Obj.data_mapFields hd];simp[rawInt]⟩
theorem aCM{i:Nat}{items}{Q:Value->Shared->Prop}(hh:A.handled=none)(hit:s.heap.IsTupleIter it t i)(ht:s.heap.IsTuple t items)(hx:items[i]?=none)(hE:∀h' e,Heap.ExtBut it s.heap h'->(∃o,h'.get? e=some o/\o.cls=.type "StopIteration")->E (.ref e) { s with heap:=h' }) :
  wpAny (model prog w) A (Builtin.SmallTypes.nextOf (.ref it)) Q E s:=by
 obtain⟨o,ho,hc,hd⟩:=id hit
 obtain⟨ol,hol,_,nl,hdl⟩:=ht
 unfold Builtin.SmallTypes.nextOf
 refine wpAny_bind (wpAny_callSpecial?_slot (name:=Str.ofString "__next__") hit.typeIs F.slot_tuple_iterator_next
  (wpAny_call_entry F.slot_tuple_iterator_next hit.typeIs F.entry_tuple_iterator_next ?_ (F.args_tuple_iterator_next_1 _)))
 show wpAny _ _ (field (.ref it) 0 >>= _) _ _ s
 refine wpAny_bind (wpAny_field ho hd (x:=.ref t) rfl ?_)
 show wpAny _ _ (if (Value.ref t == Value.none)=true then _ else _) _ _ s
 rw[if_neg (show ¬((Value.ref t == Value.none)=true) from Qr9)]
 show wpAny _ _ (field (.ref it) 1 >>= _) _ _ s
 refine wpAny_bind (wpAny_field ho hd (x:=.int i 0) rfl ?_)
 show wpAny _ _ (seqItems? (.ref t) >>= _) _ _ s
 refine wpAny_bind (wpAny_seqItems hol hdl ?_)
 simp only[Re9,hx]
 refine wpAny_bind (wpAny_rule (wpAny_bind (wpAny_setField ho hd (by simp) ?_)))
 show wpAny _ _ (newExc (.type "StopIteration") [] >>= _) _ _ _
 refine wpAny_bind ?_
 simp only[newExc,newTuple]
 refine wpAny_bind (wpAny_newObj_type ?_ (by size_fits))
 refine wpAny_bind (m:=firstArgMember _ _) (wpAny_of_eq (a:=Value.none) (by first|rfl|(simp only[firstArgMember];rfl)) ?_)
 refine wpAny_newObj_type ?_ (by size_fits)
 simp only[raiseNew]
 refine wpAny_bind (wpAny_handled ?_)
 first|rw[show A.in1.handled=none from hh]|rw[hh]
 refine wpAny_bind (wpAny_pure (wpAny_throw ?_))
 exact hE _ _ (((Heap.SameBut.update ..).extBut.push _).push _) ⟨_,yL _ rfl,rfl⟩
end
def SIt(h:Heap)(k:Bool)(it src:Addr)(i:Nat):Prop:=if k=true then h.IsListIter it src i else h.IsTupleIter it src i
def yJ(h:Heap)(k:Bool)(src:Addr)(items:Array Value):Prop:=if k=true then h.IsList src items else h.IsTuple src items
theorem SIt.at{h h':Heap}{k:Bool}{i:Nat}(x:SIt h k it src i)(e:∀o,h.get? it=some o->h'.get? it=some o):SIt h' k it src i:=by
 cases k with
 |true=>obtain⟨o,ho,r⟩:=(show h.IsListIter it src i from x);exact(show h'.IsListIter it src i from⟨o,e o ho,r⟩)
 |false=>obtain⟨o,ho,r⟩:=(show h.IsTupleIter it src i from x);exact(show h'.IsTupleIter it src i from⟨o,e o ho,r⟩)
theorem yJ.at{h h':Heap}{k:Bool}(x:yJ h k src items)(e:∀o,h.get? src=some o->h'.get? src=some o):yJ h' k src items:=by
 cases k with
 |true=>obtain⟨o,ho,r⟩:=(show h.IsList src items from x);exact(show h'.IsList src items from⟨o,e o ho,r⟩)
 |false=>obtain⟨o,ho,r⟩:=(show h.IsTuple src items from x);exact(show h'.IsTuple src items from⟨o,e o ho,r⟩)
theorem SIt.obj{h:Heap}{k:Bool}{i:Nat}(x:SIt h k it src i):∃o vs,h.get? it=some o/\o.data=.fields vs:=by
 cases k with
 |true=>obtain⟨o,ho,_,r⟩:=(show h.IsListIter it src i from x);exact⟨o,_,ho,r⟩
 |false=>obtain⟨o,ho,_,r⟩:=(show h.IsTupleIter it src i from x);exact⟨o,_,ho,r⟩
section
variable{prog:Program}{w:World}{A:Around}{E:Value->Shared->Prop}{s:Shared}
theorem aIf{k:Bool}{i:Nat}{items:Array Value}{Q:Value->Shared->Prop}(hit:SIt s.heap k it src i)(hs:yJ s.heap k src items)(hx:items[i]?=some x)(hQ:∀h',SIt h' k it src (i+1)->Heap.SameBut it s.heap h'->Q x { s with heap:=h' }):wpAny (model prog w) A (Builtin.SmallTypes.nextOf (.ref it)) Q E s:=by
 cases k with
 |true=>exact wpAny_nextOf_list_item hit hs hx hQ
 |false=>exact aBO hit hs hx hQ
theorem aJv{k:Bool}{i:Nat}{items:Array Value}{Q:Value->Shared->Prop}(hh:A.handled=none)(hit:SIt s.heap k it src i)(hs:yJ s.heap k src items)(hx:items[i]?=none)(hE:∀h' e,Heap.ExtBut it s.heap h'->(∃o,h'.get? e=some o/\o.cls=.type "StopIteration")->E (.ref e) { s with heap:=h' }):wpAny (model prog w) A (Builtin.SmallTypes.nextOf (.ref it)) Q E s:=by
 cases k with
 |true=>exact wpAny_nextOf_list_end hh hit hs hx hE
 |false=>exact aCM hh hit hs hx hE
end
abbrev ZS:=Bool×Addr×Addr
structure ZA(z TI TO:Addr)(L:List ZS):Prop where
 TIz:TI≠z
 TOz:TO≠z
 TITO:TI≠TO
 it:∀t∈L,t.2.1≠z/\t.2.1≠TI/\t.2.1≠TO
 nd:(L.map (·.2.1)).Nodup
abbrev qV(h:Heap)(T:Addr)(vs:Array Value):Prop:=h.get? T=some { cls:=.type "tuple",data:=.seq vs }
def aQW(z TO:Addr)(L:List ZS):Prop:=∀t∈L,t.2.2≠z/\t.2.2≠TO/\∀u∈L,t.2.2≠u.2.1
theorem aMK:∀{l:List Addr},l.Nodup->∀{i j:Nat}{a:Addr},l[i]?=some a->l[j]?=some a->i=j
 |[],_,_,_,_,h,_=>by simp at h
 |b::l,n,0,0,_,_,_=>rfl
 |b::l,n,0,j+1,a,h1,h2=>by
  simp at h1 h2
  subst h1
  exact absurd (oS h2) (Rm9.mp n).1
 |b::l,n,i+1,0,a,h1,h2=>by
  simp at h1 h2
  subst h2
  exact absurd (oS h1) (Rm9.mp n).1
 |b::l,n,i+1,j+1,a,h1,h2=>by
  simp at h1 h2
  rw[aMK (Rm9.mp n).2 h1 h2]
section
variable{prog:Program}{w:World}{A:Around}{E:Value->Shared->Prop}{s:Shared}
theorem aSh{arr:Array Value}{j:Nat}{Q:Unit->Shared->Prop}(hT:qV s.heap T arr)(hz:arr.size<=1000)(h:∀h',qV h' T (arr.setIfInBounds j x)->Heap.SameBut T s.heap h'->Q () { s with heap:=h' }):wpAny (model prog w) A (updateSeq T (·.setIfInBounds j x)) Q E s:=by
 refine wpAny_updateSeq hT rfl (h _ ?_ (Heap.SameBut.update ..)) (by rw[sizeLine_eq];omega) (by rw[Array.size_setIfInBounds,sizeLine_eq];omega)
 show(s.heap.update T _).get? T=_
 rw[Sl9 _ hT rfl]
 simp[Obj.mapSeq]
structure aQX(z TI TO:Addr)(L:List ZS)(k:Nat)(xs:Nat->Value)(h₀:Heap)(j:Nat)(h:Heap):Prop where
 zz:IsZip h z TI TO .ellipsis
 to:∃arr:Array Value,qV h TO arr/\arr.size=L.length/\∀i,i < j->arr[i]?=some (xs i)
 it:∀i t,L[i]?=some t->SIt h t.1 t.2.1 t.2.2 (if i < j then k+1 else k)
 off:∀c o,c≠z->c≠TO->(∀t∈L,c≠t.2.1)->h₀.get? c=some o->h.get? c=some o
 sz:h.objs.size=h₀.objs.size
theorem aIg{z TI TO:Addr}{L:List ZS}{k:Nat}{items:Nat->Array Value}{xs:Nat->Value}{arr:Array Value}{Q:Value->Shared->Prop}(hh:A.handled=none)(D:ZA z TI TO L)(S:aQW z TO L)(hne:L≠[])(hlen:L.length<=1000)
  (hz:IsZip s.heap z TI TO .none) (hTI:qV s.heap TI (L.map λt=>Value.ref t.2.1).toArray) (hTO:qV s.heap TO arr) (harr:arr.size=L.length)
  (hit:∀t∈L,SIt s.heap t.1 t.2.1 t.2.2 k) (hsrc:∀i t,L[i]?=some t->yJ s.heap t.1 t.2.2 (items i))
  (hx:∀i,i < L.length->∀x,(items i)[k]?=some x->x=xs i)
  (hQ:(∀i,i < L.length->(items i)[k]?=some (xs i))->∀h' arr',IsZip h' z TI TO (rawInt s.heap.objs.size)->qV h' TO arr'->arr'.size=L.length->(∀i,i < L.length->arr'[i]?=some (xs i))->(∀t∈L,SIt h' t.1 t.2.1 t.2.2 (k+1))->qV h' s.heap.objs.size arr'->h'.objs.size=s.heap.objs.size+1->
   (∀c o,c≠z->c≠TO->(∀t∈L,c≠t.2.1)->s.heap.get? c=some o->h'.get? c=some o)->Q (.ref s.heap.objs.size) { s with heap:=h' })
  (hE:(∃i,i < L.length/\(items i)[k]?=none)->∀h' e,(∀c o,c≠z->c≠TO->(∀t∈L,c≠t.2.1)->s.heap.get? c=some o->h'.get? c=some o)->(∃o,h'.get? e=some o/\o.cls=.type "StopIteration")->E (.ref e) { s with heap:=h' }) :
  wpAny (model prog w) A (Builtin.«zip.__next__» ⟨[.ref z],[]⟩) (λfin s'=>∃v,fin=.done (.ret v)/\Q v s') E s:=by
 show wpAny _ _ (field (.ref z) 2 >>= _) _ _ _
 refine wpAny_bind (wpAny_field hz rfl (x:=.bool false) rfl ?_)
 show wpAny _ _ (field (.ref z) 3 >>= _) _ _ _
 refine wpAny_bind (wpAny_field hz rfl (x:=.ref TI) rfl ?_)
 refine wpAny_bind (wpAny_seqItems hTI rfl ?_)
 have hemp:(L.map λt=>Value.ref t.2.1).toArray.isEmpty=false:=by
  cases L with
  |nil=>exact absurd rfl hne
  |cons t L=>rfl
 simp only[hemp,Sc9,if_false]
 show wpAny _ _ (Builtin.SmallTypes.ownedTupleIsFree (.ref z) >>= _) _ _ _
 refine wpAny_bind ?_
 unfold Builtin.SmallTypes.ownedTupleIsFree
 refine wpAny_bind (wpAny_field hz rfl (x:=.none) rfl (wpAny_pure ?_))
 simp only[if_true]
 refine wpAny_bind (wpAny_rule ?_)
 refine wpAny_bind (wpAny_field hz rfl (x:=.ref TO) rfl ?_)
 refine wpAny_bind (wpAny_setField_rec hz (by simp) λh₁ hz₁ hs₁=>?_)
 replace hz₁:IsZip h₁ z TI TO .ellipsis:=hz₁
 replace hs₁:Heap.SameBut z s.heap h₁:=hs₁
 refine wpAny_bind ?_
 refine wpAny_forIn_list _ (λrest b s'=>b=((none,()):Option Fin×Unit)/\∃j,rest=((L.map λt=>Value.ref t.2.1).zipIdx).drop j/\j<=L.length/\(∀i,i < j->(items i)[k]?=some (xs i))/\aQX z TI TO L k xs s.heap j s'.heap/\s'={ s with heap:=s'.heap }) _ ?turn ?fin _ _ ⟨rfl,0,rfl,Rn9 _,λi hi=>absurd hi (Nat.not_lt_zero _),?start,rfl⟩
 case start=>
  exact⟨hz₁,⟨arr,hs₁.extBut _ _ D.TOz hTO,harr,λi hi=>absurd hi (Nat.not_lt_zero _)⟩,λi t ht=>by
   rw[if_neg (Nat.not_lt_zero _)]
   exact(hit t (oS ht)).at λo e=>hs₁.extBut _ _ (D.it t (oS ht)).1 e,λc o c1 _ _ e=>hs₁.extBut _ _ c1 e,hs₁.1⟩
 case turn=>
  rintro x rest b s' ⟨rfl,j,er,hj,hxs,M,es⟩
  have hll:((L.map λt=>Value.ref t.2.1).zipIdx).length=L.length:=by simp
  have hjl:j < ((L.map λt=>Value.ref t.2.1).zipIdx).length:=by
   apply Nat.lt_of_not_le
   intro h
   rw[List.drop_eq_nil_of_le h] at er
   cases er
  rw[Rb9 hjl] at er
  injection er with e1 e2
  have hjL:j < L.length:=by rw[<-hll];exact hjl
  have ht:L[j]?=some L[j]:=dQ hjL
  have hmem:=Rd9 hjL
  have e3:((L.map λt=>Value.ref t.2.1).zipIdx)[j]=(Value.ref L[j].2.1,j):=by simp
  rw[e3] at e1
  generalize L[j]=t at ht hmem e1
  subst e1 e2
  obtain⟨h',g',d',t',o'⟩:=s'
  injection es with _ e4 e5 e6 e7
  subst e4 e5 e6 e7
  replace M:aQX z TI TO L k xs s.heap j h':=M
  have hitj:=M.it j t ht
  rw[if_neg (Ru9 _)] at hitj
  have hsj:yJ h' t.1 t.2.2 (items j):=(hsrc j t ht).at λo e=>M.off _ o (S t hmem).1 (S t hmem).2.1 (S t hmem).2.2 e
  refine wpAny_bind (wpAny_onRaise ?_)
  show wpAny _ _ (Builtin.SmallTypes.nextOf (.ref t.2.1) >>= _) _ _ _
  cases hxk:(items j)[k]? with
  |none=>
   refine wpAny_bind (aJv (s:=⟨h',s.gens,s.drawn,s.toks,s.os⟩) hh hitj hsj hxk λh2 e eb he=>?_)
   replace eb:Heap.ExtBut t.2.1 h' h2:=eb
   obtain⟨oe,hoe,hce⟩:=he
   have hz2:IsZip h2 z TI TO .ellipsis:=eb _ _ (Ne.symm (D.it t hmem).1) M.zz
   have hez:e≠z:=λq=>by subst q;rw[hz2] at hoe;cases hoe;simp at hce
   refine wpAny_setField_rec hz2 (by simp) λh3 _ hs3=>hE ⟨j,hjL,hxk⟩ h3 e (λc o c1 c2 c3 q=>hs3.extBut _ _ c1 (eb _ _ (c3 t hmem) (M.off c o c1 c2 c3 q))) ⟨oe,hs3.extBut _ _ hez hoe,hce⟩
  |some x=>
   have ex:=hx j hjL x hxk
   subst ex
   refine wpAny_bind (aIf (s:=⟨h',s.gens,s.drawn,s.toks,s.os⟩) hitj hsj hxk λh2 it2 sb2=>wpAny_pure ?_)
   replace sb2:Heap.SameBut t.2.1 h' h2:=sb2
   obtain⟨arr2,hTO2,ha2,hv2⟩:=M.to
   have hTO3:qV h2 TO arr2:=sb2.extBut _ _ (Ne.symm (D.it t hmem).2.2) hTO2
   refine wpAny_bind (wpAny_seqItems hTO3 rfl ?_)
   refine wpAny_bind (aSh (s:=⟨h2,s.gens,s.drawn,s.toks,s.os⟩) hTO3 (by omega) λh3 hTO4 sb3=>?_)
   replace sb3:Heap.SameBut TO h2 h3:=sb3
   refine wpAny_bind (wpAny_letGo (wpAny_pure ?_))
   refine⟨rfl,j+1,rfl,hjL,λi hi=>?_,⟨?_,⟨_,hTO4,?_,λi hi=>?_⟩,λi u hu=>?_,λc o c1 c2 c3 q=>?_,?_⟩,rfl⟩
   ·by_cases e:i=j
    ·subst e;exact hxk
    ·exact hxs i (by omega)
   ·exact sb3.extBut _ _ (Ne.symm D.TOz) (sb2.extBut _ _ (Ne.symm (D.it t hmem).1) M.zz)
   ·rw[Array.size_setIfInBounds];exact ha2
   ·by_cases e:i=j
    ·subst e
     rw[Array.getElem?_setIfInBounds_self_of_lt (by omega)]
    ·rw[Array.getElem?_setIfInBounds_ne (Ne.symm e)]
     exact hv2 i (by omega)
   ·have mu:=oS hu
    have nT:u.2.1≠TO:=(D.it u mu).2.2
    by_cases e:i=j
    ·subst e
     rw[ht] at hu
     cases hu
     rw[if_pos (Tv9 _)]
     exact it2.at λo q=>sb3.extBut _ _ nT q
    ·have ne:u.2.1≠t.2.1:=λq=>by
      have n:=D.nd
      have q1:(L.map (·.2.1))[i]?=some u.2.1:=by rw[oR,hu];rfl
      have q2:(L.map (·.2.1))[j]?=some u.2.1:=by rw[oR,ht,q];rfl
      exact e (aMK n q1 q2)
     have:=M.it i u hu
     rw[show(if i < j+1 then k+1 else k)=if i < j then k+1 else k by split <;> split <;> omega]
     exact this.at λo q=>sb3.extBut _ _ nT (sb2.extBut _ _ ne q)
   ·exact sb3.extBut _ _ c2 (sb2.extBut _ _ (c3 t hmem) (M.off c o c1 c2 c3 q))
   ·show h3.objs.size=_
    rw[sb3.1,sb2.1];exact M.sz
 case fin=>
  rintro b s' ⟨rfl,j,er,hj,hxs,M,es⟩
  have hjL:j=L.length:=by
   have:((L.map λt=>Value.ref t.2.1).zipIdx).length<=j:=List.drop_eq_nil_iff.mp er.symm
   simp at this
   omega
  subst hjL
  obtain⟨h',g',d',t',o'⟩:=s'
  injection es with _ e4 e5 e6 e7
  subst e4 e5 e6 e7
  replace M:aQX z TI TO L k xs s.heap L.length h':=M
  obtain⟨arr2,hTO2,ha2,hv2⟩:=M.to
  show wpAny _ _ (seqItems? (.ref TO) >>= _) _ _ _
  refine wpAny_bind (wpAny_seqItems hTO2 rfl ?_)
  refine wpAny_bind (wpAny_newTuple ?_ (by rw[Rg9,sizeLine_eq];omega))
  have hzlt:z < h'.objs.size:=jY M.zz
  show wpAny _ _ (Builtin.SmallTypes.ownedTupleHandOut (.ref z) (.ref h'.objs.size) >>= _) _ _ _
  refine wpAny_bind ?_
  unfold Builtin.SmallTypes.ownedTupleHandOut
  have hz6:IsZip (h'.push { cls:=.type "tuple",data:=.seq arr2.toList.toArray }) z TI TO .ellipsis:=kO _ M.zz
  refine wpAny_bind (wpAny_setField_rec hz6 (by simp) λh7 hz7 hs7=>?_)
  replace hz7:IsZip h7 z TI TO (rawInt h'.objs.size):=hz7
  refine wpAny_setField_rec hz7 (by simp) λh8 hz8 hs8=>?_
  replace hz8:IsZip h8 z TI TO (rawInt h'.objs.size):=hz8
  have up:∀c o,c≠z->h'.get? c=some o->h8.get? c=some o:=λc o c1 e=>hs8.extBut _ _ c1 (hs7.extBut _ _ c1 (kO _ e))
  have hT8:qV h8 h'.objs.size arr2:=hs8.extBut _ _ (Se9 hzlt) (hs7.extBut _ _ (Se9 hzlt) (by
   have:=yL h' (o:={ cls:=.type "tuple",data:=.seq arr2.toList.toArray }) rfl
   simpa using this))
  have hz9:h8.objs.size=h'.objs.size+1:=by rw[hs8.1,hs7.1,Rv9]
  rw[M.sz] at hz8 hT8 hz9
  refine wpAny_pure ⟨_,rfl,?_⟩
  show Q (.ref h'.objs.size) _
  rw[M.sz]
  refine hQ (λi hi=>hxs i hi) h8 arr2 hz8 (up _ _ D.TOz hTO2) ha2 hv2 (λt ht=>?_) hT8 hz9 λc o c1 c2 c3 e=>up c o c1 (M.off c o c1 c2 c3 e)
  obtain⟨i,hi⟩:=Rk9 ht
  have:=M.it i t hi
  rw[if_pos (lZ.mp hi).1] at this
  exact this.at λo e=>up _ o (D.it t ht).1 e
end
def ZSt(z TI TO:Addr)(L:List ZS)(i:Nat)(h:Heap):Prop:=
 IsZip h z TI TO .none/\qV h TI (L.map λt=>Value.ref t.2.1).toArray/\(∃arr,qV h TO arr/\arr.size=L.length)/\∀t∈L,SIt h t.1 t.2.1 t.2.2 i
abbrev aEk(k:Bool)(src:Addr):Obj:={ cls:=.type (if k=true then "list_iterator" else "tuple_iterator"),data:=.fields #[.ref src,.int 0 0] }
theorem SIt.new{h:Heap}{k:Bool}(e:h.get? it=some (aEk k src)):SIt h k it src 0:=by
 cases k with
 |true=>exact(show h.IsListIter it src 0 from⟨_,e,rfl,rfl⟩)
 |false=>exact(show h.IsTupleIter it src 0 from⟨_,e,rfl,rfl⟩)
section
variable{prog:Program}{w:World}{A:Around}{E:Value->Shared->Prop}{s:Shared}
theorem aEm{k:Bool}{Q:Value->Shared->Prop}(h:yJ s.heap k src items)(hQ:Q (.ref s.heap.objs.size) { s with heap:=s.heap.push (aEk k src) }):wpAny (model prog w) A (pyIter (.ref src)) Q E s:=by
 cases k with
 |true=>exact wpAny_pyIter_list h hQ
 |false=>exact wpAny_pyIter_tuple h hQ
end
abbrev zg1(h:Heap)(t:Bool×Addr):Heap:=h.push (aEk t.1 t.2)
abbrev zg2(h:Heap)(t u:Bool×Addr):Heap:=(zg1 h t).push (aEk u.1 u.2)
abbrev zk1(h:Heap)(t u:Bool×Addr):Heap:=(zg2 h t u).push { cls:=.type "tuple",data:=.seq #[.ref h.objs.size,.ref (zg1 h t).objs.size] }
abbrev zk2(h:Heap)(t u:Bool×Addr):Heap:=(zk1 h t u).push { cls:=.type "tuple",data:=.seq #[.none,.none] }
abbrev zk3(h:Heap)(t u:Bool×Addr):Heap:=(zk2 h t u).push { cls:=.type "zip",data:=.fields #[.none,.bool false,.bool false,.ref (zg2 h t u).objs.size,.ref (zk1 h t u).objs.size] }
theorem aIh(t u:Bool×Addr)(xs ys:Array Value) :
  Meets (Builtin.«zip.__new__» ⟨[.type "zip",.ref t.2,.ref u.2],[]⟩) (λ_ R s=>yJ s.heap t.1 t.2 xs/\yJ s.heap u.1 u.2 ys/\
   R (.ok (.ret (.ref (zk2 s.heap t u).objs.size))) { s with heap:=zk3 s.heap t u }):=
 .of_wp λprog w A R s h=>by
  obtain⟨hp,g,d,tk,os⟩:=s;obtain⟨hl1,hl2,h⟩:=h
  have hsub:=sub_zip
  have hL1:yJ (Shared.heap ⟨hp,g,d,tk,os⟩) t.1 t.2 xs:=hl1
  have hL2:yJ (Shared.heap ⟨hp.push (aEk t.1 t.2),g,d,tk,os⟩) u.1 u.2 ys:=yJ.at hl2 λo e=>kO _ e
  wp_walk using aEm hL1,aEm hL2
  exact⟨_,rfl,h⟩
section
variable{prog:Program}{w:World}{A:Around}{E:Value->Shared->Prop}{s:Shared}
theorem aJw{t u:Bool×Addr}{Q:Value->Shared->Prop}(h1:yJ s.heap t.1 t.2 xs)(h2:yJ s.heap u.1 u.2 ys)(h:∀h',ZSt (s.heap.objs.size+4) (s.heap.objs.size+2) (s.heap.objs.size+3) [(t.1,s.heap.objs.size,t.2),(u.1,s.heap.objs.size+1,u.2)] 0 h'->(∀c o,s.heap.get? c=some o->h'.get? c=some o)->Q (.ref (s.heap.objs.size+4)) { s with heap:=h' }) :
  wpAny (model prog w) A (call (.type "zip") [.ref t.2,.ref u.2]) Q E s:=by
 refine callType_new F.called_zip (by decide) (F.typeCall_zip_2 _ _) (F.newCall_zip_2 _ _) (λobj=>F.args_object_init_3 obj _ _) F.entry_zip_new
  (aIh t u xs ys) ⟨h1,h2,?_⟩
 have z1:(zg1 s.heap t).objs.size=s.heap.objs.size+1:=Rv9 ..
 have z2:(zg2 s.heap t u).objs.size=s.heap.objs.size+2:=by rw[Rv9,z1]
 have z3:(zk1 s.heap t u).objs.size=s.heap.objs.size+3:=by rw[Rv9,z2]
 have z4:(zk2 s.heap t u).objs.size=s.heap.objs.size+4:=by rw[Rv9,z3]
 have g5:(zk3 s.heap t u).get? (zk2 s.heap t u).objs.size=some _:=yL _ rfl
 have g4:(zk3 s.heap t u).get? (zk1 s.heap t u).objs.size=some _:=kO _ (yL _ rfl)
 have g3:(zk3 s.heap t u).get? (zg2 s.heap t u).objs.size=some _:=kO _ (kO _ (yL _ rfl))
 have g2:(zk3 s.heap t u).get? (zg1 s.heap t).objs.size=some (aEk u.1 u.2):=kO _ (kO _ (kO _ (yL _ rfl)))
 have g1:(zk3 s.heap t u).get? s.heap.objs.size=some (aEk t.1 t.2):=kO _ (kO _ (kO _ (kO _ (yL _ rfl))))
 show _/\_
 rw[z2,z3,z4] at g5
 rw[z1,z2] at g3
 rw[z3] at g4
 rw[z1] at g2
 rw[z4]
 refine⟨⟨_,g5,rfl⟩,h _ ⟨g5,g3,⟨_,g4,rfl⟩,λx hx=>?_⟩ λc o x=>
  kO _ (kO _ (kO _ (kO _ (kO _ x))))⟩
 simp only[yF,Sd9,or_false] at hx
 rcases hx with rfl|rfl
 ·exact SIt.new g1
 ·exact SIt.new g2
end
theorem aGM{n a b:Nat}(h:a≠b):@Ne Addr (n+a) (n+b):=λe=>h (Nat.add_left_cancel e)
theorem za2(n:Nat)(t u:Bool×Addr):ZA (n+4) (n+2) (n+3) [(t.1,n,t.2),(u.1,n+1,u.2)]:=by
 refine⟨aGM (by decide),aGM (by decide),aGM (by decide),λx hx=>?_,?_⟩
 ·simp only[yF,Sd9,or_false] at hx
  rcases hx with rfl|rfl
  ·exact⟨aGM (a:=0) (by decide),aGM (a:=0) (by decide),aGM (a:=0) (by decide)⟩
  ·exact⟨aGM (by decide),aGM (by decide),aGM (by decide)⟩
 ·simp
end L2
namespace L2
open PySem PySem.Spec PyProof.Rows
def Src(H:Hp)(k:Bool)(a:Addr)(xs:List V):Prop:=H a=some (if k=true then .lst xs else .tup xs)
theorem Src.inj{k:Bool}(h:Src H k a xs)(h':Src H k a ys):xs=ys:=by
 unfold Src at h h'
 rw[h] at h'
 cases k with
 |true=>injection h' with e;injection e
 |false=>injection h' with e;injection e
theorem Src.lst{H:Hp}{a:Addr}{xs:List V}(h:H a=some (.lst xs)):Src H true a xs:=h
theorem Src.tup{H:Hp}{a:Addr}{xs:List V}(h:H a=some (.tup xs)):Src H false a xs:=h
theorem Inv.src{s:Shared}{k:Bool}{xs:List V}(I:Inv X pins σ H s)(h:Src H k a xs):∃its:List Value,Vals xs its/\yJ s.heap k a its.toArray/\xs.length<=sizeLine:=by
 cases k with
 |true=>
  obtain⟨its,r,p,z⟩:=I.list (bV.of h)
  exact⟨its,r,p.isList,z⟩
 |false=>
  obtain⟨its,r,p,z⟩:=I.tuple (kQ.of h)
  exact⟨its,r,p,z⟩
theorem aDb:∀{xs:List V}{us:List Value},xs.length=us.length->(∀(j:Nat) (x:V) (u:Value),xs[j]?=some x->us[j]?=some u->RelV x u)->Vals xs us
 |[],[],_,_=>.nil
 |x::xs,u::us,h,f=>.cons (f 0 x u rfl rfl) (aDb (by simpa using h) λj y v h1 h2=>f (j+1) y v (by simpa using h1) (by simpa using h2))
 |[],_::_,h,_=>by cases h
 |_::_,[],h,_=>by cases h
def ItZ(L:List (Bool×Addr)):It:=
 ⟨λi H=>∀t∈L,∃xs x,Src H t.1 t.2 xs/\xs[i]?=some x,
  λi H v H'=>∃T vs,H T=none/\v=.ref T/\H'=upd H T (.tup vs)/\vs.length=L.length/\∀(j:Nat) (t:Bool×Addr) (xs:List V),L[j]?=some t->Src H t.1 t.2 xs->∃x,xs[i]?=some x/\vs[j]?=some x,
  λi H=>(∀t∈L,∃xs,Src H t.1 t.2 xs)/\∃t∈L,∃xs,Src H t.1 t.2 xs/\xs.length<=i⟩
def zL(L:List ZS):List (Bool×Addr):=L.map λt=>(t.1,t.2.2)
theorem aML{t:ZS}(h:t∈L):(t.1,t.2.2)∈zL L:=xX.mpr ⟨t,h,rfl⟩
theorem aQY{L:List ZS}{j:Nat}{t:Bool×Addr}(h:(zL L)[j]?=some t):∃u,L[j]?=some u/\t=(u.1,u.2.2):=by
 unfold zL at h
 rw[oR] at h
 cases e:L[j]? with
 |none=>rw[e] at h;cases h
 |some u=>rw[e] at h;cases h;exact⟨u,rfl,rfl⟩
abbrev zFp(z TI TO:Addr)(L:List ZS):List Addr:=z::TI::TO::L.map (·.2.1)
theorem aEn{z TI TO:Addr}{L:List ZS}{t:ZS}(h:t∈L):t.2.1∈zFp z TI TO L:=by
 simp only[zFp,yF]
 exact .inr (.inr (.inr (xX.mpr ⟨t,h,rfl⟩)))
theorem ZSt.obj{z TI TO:Addr}{L:List ZS}{i:Nat}{h:Heap}(st:ZSt z TI TO L i h):∀b∈zFp z TI TO L,∃o,h.get? b=some o/\∀v,o.data≠.cell v:=λb hb=>by
 obtain⟨hz,hTI,⟨arr,hTO,_⟩,hit⟩:=st
 simp only[zFp,yF] at hb
 rcases hb with rfl|rfl|rfl|hb
 ·exact⟨_,hz,λv z=>by cases z⟩
 ·exact⟨_,hTI,λv z=>by cases z⟩
 ·exact⟨_,hTO,λv z=>by cases z⟩
 ·obtain⟨t,ht,rfl⟩:=xX.mp hb
  obtain⟨o,vs,e,d⟩:=(hit t ht).obj
  exact⟨o,e,λv z=>by rw[d] at z;cases z⟩
theorem aLd{P:Program}{w:World}{K:W.Frag}{elts:List Expr}{x1:Nat}{tp:Pos}(L:List ZS)(z TI TO:Addr)(D:ZA z TI TO L)(hne:L≠[])(hlen:L.length<=1000) :
  Turn P w K (.Tuple elts x1 tp) (ItZ (zL L)) (zFp z TI TO L) z (ZSt z TI TO L) where
 mem:=by simp[zFp]
 obj:=λi h st=>st.obj
 keep:=λi h h' st k=>by
  obtain⟨hz,hTI,⟨arr,hTO,ha⟩,hit⟩:=st
  exact⟨k z (by simp[zFp]) _ hz,k TI (by simp[zFp]) _ hTI,⟨arr,k TO (by simp[zFp]) _ hTO,ha⟩,λt ht=>(hit t ht).at λo q=>k _ (aEn ht) o q⟩
 item:=by
  intro X hP hw hK hc i pins s σ H E I hf st hg
  subst hP hw hK
  have lts:∀b∈zFp z TI TO L,b < s.heap.objs.size:=λb hb=>by obtain⟨o,e,_⟩:=st.obj b hb;exact jY e
  obtain⟨hz,hTI,⟨arr,hTO,harr⟩,hit⟩:=st
  have key:∀j:Nat,∃r:List Value×Value×V,∀t,L[j]?=some t->yJ s.heap t.1 t.2.2 r.1.toArray/\(∀xs,Src H t.1 t.2.2 xs->xs[i]?=some r.2.2)/\r.1[i]?=some r.2.1/\RelV r.2.2 r.2.1/\t.2.2∉zFp z TI TO L:=λj=>by
   cases e:L[j]? with
   |none=>exact⟨([],.none,.non),λt h=>by cases h⟩
   |some t=>
    obtain⟨xs,x,hs,hx⟩:=hg _ (aML (oS e))
    obtain⟨its,r,src,_⟩:=I.src hs
    obtain⟨u,hu,ru⟩:=r.get hx
    refine⟨(its,u,x),λt' h=>?_⟩
    cases h
    refine⟨src,λys hy=>by rw[hy.inj hs];exact hx,hu,ru,λhm=>?_⟩
    have:=(hf _ hm).1
    unfold Src at hs
    rw[show H t.2.2=some (if t.1=true then .lst xs else .tup xs) from hs] at this
    cases this
  obtain⟨f,hfk⟩:=Classical.axiomOfChoice key
  have S:aQW z TO L:=λt ht=>by
   obtain⟨j,hj⟩:=Rk9 ht
   have n:=(hfk j t hj).2.2.2.2
   refine⟨λe=>n (by rw[e];simp[zFp]),λe=>n (by rw[e];simp[zFp]),λu hu e=>n (by rw[e];exact aEn hu)⟩
  have inL:∀j,j < L.length->∃t,L[j]?=some t:=λj hj=>⟨_,dQ hj⟩
  unfold pyNext
  have hT:s.TypeIs (.ref z) "zip":=⟨_,hz,rfl⟩
  refine wpAny_bind (wpAny_attempt (wpAny_callSpecial?_slot (name:=Str.ofString "__next__") hT F.slot_zip_next
   (wpAny_call_entry F.slot_zip_next hT F.entry_zip_next (aIg (items:=λj=>(f j).1.toArray) (xs:=λj=>(f j).2.1) (I.ok.hd hc) D S hne hlen hz hTI hTO harr hit (λj t hj=>(hfk j t hj).1) (λj hj x hx=>?_)
    (λ_ h1 arr' a1 a2 a3 a4 a5 a6 a7 hk=>wpAny_pure ⟨_,rfl,wpAny_letOwnedTupleGo_zip a1 λg2 hz2 hs2=>?_⟩) (λhE=>?_)) (F.args_zip_next_1 _))))
  ·obtain⟨t,ht⟩:=inL j hj
   have e:=(hfk j t ht).2.2.1
   have hx':(f j).1[i]?=some x:=by simpa using hx
   rw[e] at hx'
   exact(Option.some.inj hx').symm
  ·replace hs2:Heap.SameBut z h1 g2:=hs2
   have hT2:g2.IsTuple s.heap.objs.size arr':=⟨_,(hs2.2 _ (Se9 (lts z (by simp[zFp])))).trans a6,rfl,_,rfl⟩
   have kk:∀b o,b∉zFp z TI TO L->s.heap.get? b=some o->g2.get? b=some o:=λb o hb q=>by
    have n1:b≠z:=λe=>hb (by rw[e];simp[zFp])
    exact(hs2.2 b n1).trans (hk b o n1 (λe=>hb (by rw[e];simp[zFp])) (λt ht e=>hb (by rw[e];exact aEn ht)) q)
   have rv:Vals ((List.range L.length).map λj=>(f j).2.2) arr'.toList:=by
    refine aDb (by simp[a3]) λj x u hx hu=>?_
    rw[oR] at hx
    by_cases hj:j < L.length
    ·rw[Tg9 hj] at hx
     cases hx
     obtain⟨t,ht⟩:=inL j hj
     have e:=a4 j hj
     have hu':arr'[j]?=some u:=by simpa using hu
     rw[e] at hu'
     cases hu'
     exact(hfk j t ht).2.2.2.1
    ·rw[Rz9 (by simpa using hj)] at hx
     cases hx
   have I2:Inv X pins σ (upd H s.heap.objs.size (.tup ((List.range L.length).map λj=>(f j).2.2))) { s with heap:=g2 }:=
    I.aCH (t':=s.toks) kk hf (gB _) (show cE X.prog X.w _ g2 _ (.tup _) from⟨cF (by simp;omega),arr'.toList,rv,by simpa using show IsTup g2 s.heap.objs.size arr' from hT2⟩)
   have hfr:H s.heap.objs.size=none:=I.hok.fresh (gB _)
   refine⟨.ref s.heap.objs.size,_,I2,rfl,⟨_,_,hfr,rfl,rfl,by simp[zL],λj t xs hj hs=>?_⟩,⟨hz2,?_,⟨arr',hs2.extBut _ _ D.TOz a2,a3⟩,λt ht=>(a5 t ht).at λo q=>(hs2.2 _ (D.it t ht).1).trans q⟩,λb hb=>?_⟩
   ·obtain⟨u,hu,rfl⟩:=aQY hj
    have hjl:j < L.length:=(lZ.mp hu).1
    refine⟨(f j).2.2,(hfk j u hu).2.1 xs hs,?_⟩
    rw[oR,Tg9 hjl]
    rfl
   ·exact hs2.extBut _ _ D.TIz (hk _ _ D.TIz D.TITO (λt ht=>Ne.symm (D.it t ht).2.1) hTI)
   ·rw[bB (vU (lts b hb))]
    exact(hf b hb).1
  ·exfalso
   obtain⟨j,hj,e⟩:=hE
   obtain⟨t,ht⟩:=inL j hj
   have e':(f j).1[i]?=none:=by simpa using e
   rw[(hfk j t ht).2.2.1] at e'
   cases e'
 done:=by
  intro X hP hw hK hc i pins s σ H E I hf st hg
  subst hP hw hK
  obtain⟨hz,hTI,⟨arr,hTO,harr⟩,hit⟩:=st
  obtain⟨hall,t0,ht0,xs0,hs0,hl0⟩:=hg
  have key:∀j:Nat,∃r:List Value,∀t,L[j]?=some t->yJ s.heap t.1 t.2.2 r.toArray/\(∀xs,Src H t.1 t.2.2 xs->xs.length=r.length)/\t.2.2∉zFp z TI TO L:=λj=>by
   cases e:L[j]? with
   |none=>exact⟨[],λt h=>by cases h⟩
   |some t=>
    obtain⟨xs,hs⟩:=hall _ (aML (oS e))
    obtain⟨its,r,src,_⟩:=I.src hs
    refine⟨its,λt' h=>?_⟩
    cases h
    refine⟨src,λys hy=>by rw[hy.inj hs];exact r.length,λhm=>?_⟩
    have:=(hf _ hm).1
    unfold Src at hs
    rw[show H t.2.2=some (if t.1=true then .lst xs else .tup xs) from hs] at this
    cases this
  obtain⟨f,hfk⟩:=Classical.axiomOfChoice key
  have S:aQW z TO L:=λt ht=>by
   obtain⟨j,hj⟩:=Rk9 ht
   have n:=(hfk j t hj).2.2
   refine⟨λe=>n (by rw[e];simp[zFp]),λe=>n (by rw[e];simp[zFp]),λu hu e=>n (by rw[e];exact aEn hu)⟩
  unfold pyNext
  have hT:s.TypeIs (.ref z) "zip":=⟨_,hz,rfl⟩
  refine wpAny_bind (wpAny_attempt (wpAny_callSpecial?_slot (name:=Str.ofString "__next__") hT F.slot_zip_next
   (wpAny_call_entry F.slot_zip_next hT F.entry_zip_next (aIg (items:=λj=>(f j).toArray) (xs:=λj=>((f j)[i]?).getD .none) (I.ok.hd hc) D S hne hlen hz hTI hTO harr hit (λj t hj=>(hfk j t hj).1) (λj hj x hx=>?_)
    (λhall'=>?_) (λhE h1 e hk he=>?_)) (F.args_zip_next_1 _))))
  ·have hx':(f j)[i]?=some x:=by simpa using hx
   rw[hx'];rfl
  ·exfalso
   obtain⟨u,hu,rfl⟩:=xX.mp ht0
   obtain⟨j,hj⟩:=Rk9 hu
   have e1:=(hfk j u hj).2.1 xs0 hs0
   have e2:=hall' j (lZ.mp hj).1
   have e3:(f j)[i]?=some (((f j)[i]?).getD .none):=by simpa using e2
   rw[Rz9 (by omega)] at e3
   cases e3
  ·obtain⟨o,ho,hcl⟩:=he
   refine wpAny_bind (wpAny_isInstance (T:="StopIteration") (b:=true) ⟨o,ho,hcl⟩ isSubtype_stop ?_)
   refine wpAny_pure ⟨rfl,I.aLb (t':=s.toks) (ch:=zFp z TI TO L) (λb o hb q=>?_) hf⟩
   exact hk b o (λe=>hb (by rw[e];simp[zFp])) (λe=>hb (by rw[e];simp[zFp])) (λt ht e=>hb (by rw[e];exact aEn ht)) q
 self:=λ_ _ _ _ _ st h=>wpAny_pyIter_zip st.1 h
section
variable{X:Cx}{elts:List Expr}{x1:Nat}{tp:Pos}{k1 k2 k3:Bool}
def aQZ(k1 k2:Bool)(R:It->Hp->Prop):List V->Hp->Prop:=λvs H1=>∃a b xs ys,vs=[.ref a,.ref b]/\Src H1 k1 a xs/\Src H1 k2 b ys/\R (ItZ [(k1,a),(k2,b)]) H1
def aMM(k1 k2:Bool)(ta:TA):TI:=λσ H R=>ta σ H (aQZ k1 k2 R)
theorem aOK{a b:Expr}{ta:TA}{p pos:Pos}(hg:Gl X "zip")(hm:X.mg "zip" = none)(ha:PA X [a,b] ta)(hn:noStar a=true:=by rfl)(hn2:noStar b=true:=by rfl):PI X (.Tuple elts x1 tp) (.Call (.Name "zip" p) [a,b] [] pos) (aMM k1 k2 ta):=by
 intro pins s σ H R I h
 have hs2:starEach [b] X.env=[(false,eval b X.env)]:=bW hn2
 have hs:starEach [a,b] X.env=[(false,eval a X.env),(false,eval b X.env)]:=by rw[bW hn,hs2]
 refine Call_ (uA I hg hm aQV (PyProof.Rows.callWith_type1 (dW (ha pos pins s σ H _ I h) λus s1 ⟨vs,H1,I1,r1,q1⟩=>?_) (by rw[hs,hs2]) (by rw[hs2];rfl)))
 obtain⟨l1,l2,xs,ys,e,hq1,hq2,q⟩:=q1
 subst e
 obtain⟨u,v,rfl,ru,rv⟩:=vals2 r1
 cases ru
 cases rv
 obtain⟨its,_,pl,_⟩:=I1.src hq1
 obtain⟨its2,_,pl2,_⟩:=I1.src hq2
 refine aJw (t:=(k1,l1)) (u:=(k2,l2)) pl pl2 λh' st hk=>?_
 refine wpAny_pyIter_zip st.1 ?_
 refine⟨_,_,_,_,H1,rfl,I1.kept (t':=s1.toks) hk,aLd _ _ _ _ (za2 s1.heap.objs.size (k1,l1) (k2,l2)) (by simp) (by simp),st,λb hb=>?_,q⟩
 have hle:s1.heap.objs.size<=b:=by
  simp only[zFp,Rh9,Tt9,yF,Sd9,or_false] at hb
  rcases hb with rfl|rfl|rfl|rfl|rfl <;> first|exact Nat.le_add_right _ _|exact gB _
 exact I1.aHQ hle (I1.hok.fresh hle)
end
section
variable{σ:St}{H:Hp}{nx:St->Hp->Prop}{rt:VK}{g:TG}{tb:TS}{Q:VK}{k1 k2 k3:Bool}{a b c:Addr}{xs ys zs:List V}{n:Nat}
theorem aMN{R:It->Hp->Prop}(h:ta σ H (aQZ k1 k2 R)):aMM k1 k2 ta σ H R:=h
theorem aGN{R:It->Hp->Prop}(h1:Src H k1 a xs)(h2:Src H k2 b ys)(h:R (ItZ [(k1,a),(k2,b)]) H):aQZ k1 k2 R [.ref a,.ref b] H:=⟨a,b,xs,ys,rfl,h1,h2,h⟩
theorem aKg{i:Nat}(h1:Src H k1 a xs)(h2:Src H k2 b ys)(e1:xs[i]?=some x)(e2:ys[i]?=some y):(ItZ [(k1,a),(k2,b)]).go i H:=λt ht=>by
 simp only[yF,Sd9,or_false] at ht
 rcases ht with rfl|rfl
 ·exact⟨xs,x,h1,e1⟩
 ·exact⟨ys,y,h2,e2⟩
theorem aIi{i:Nat}(h1:Src H k1 a xs)(h2:Src H k2 b ys)(h:(ItZ [(k1,a),(k2,b)]).yld i H v H'):∃T x y,H T=none/\v=.ref T/\H'=upd H T (.tup [x,y])/\xs[i]?=some x/\ys[i]?=some y:=by
 obtain⟨T,vs,nT,e1,e2,hl,hv⟩:=h
 obtain⟨x,hx,v0⟩:=hv 0 _ xs rfl h1
 obtain⟨y,hy,v1⟩:=hv 1 _ ys rfl h2
 match vs,hl with
 |[p,q],_=>cases v0;cases v1;exact⟨T,_,_,nT,e1,e2,hx,hy⟩
theorem aGf{i:Nat}(h1:Src H k1 a xs)(h2:Src H k2 b ys)(hm:xs.length<=i\/ys.length<=i):(ItZ [(k1,a),(k2,b)]).stop i H:=by
 refine⟨λt ht=>?_,?_⟩
 ·simp only[yF,Sd9,or_false] at ht
  rcases ht with rfl|rfl
  ·exact⟨xs,h1⟩
  ·exact⟨ys,h2⟩
 ·rcases hm with h|h
  ·exact⟨(k1,a),by simp,xs,h1,h⟩
  ·exact⟨(k2,b),by simp,ys,h2,h⟩
theorem aKh(n1:n<=xs.length)(n2:n<=ys.length)(nm:xs.length=n\/ys.length=n)(Pv:Nat->St->Hp->Prop)(h0:Pv 0 σ H)(hl:∀i σ H,i<=n->Pv i σ H->Src H k1 a xs/\Src H k2 b ys)
  (hs:∀i x y σ H T,xs[i]?=some x->ys[i]?=some y->Pv i σ H->H T=none->g (.ref T) σ (upd H T (.tup [x,y])) λσ2 H2=>tb ⟨Pv (i+1),rt,nx,Pv (i+1)⟩ σ2 H2) (hd:∀σ H,Pv n σ H->nx σ H) :
  ∃W:Nat->Nat->St->Hp->Prop,(∃m,W 0 m σ H)/\∀i m σ H,W i m σ H->
   ((ItZ [(k1,a),(k2,b)]).stop i H/\nx σ H)\/((ItZ [(k1,a),(k2,b)]).go i H/\∃N:St->Hp->Prop,(∀σ' H',N σ' H'->∃m',m' < m/\W (i+1) m' σ' H')/\∀x H',(ItZ [(k1,a),(k2,b)]).yld i H x H'->g x σ H' λσ2 H2=>tb ⟨N,rt,nx,N⟩ σ2 H2):=by
 refine⟨λi m σ H=>m=n - i/\i<=n/\Pv i σ H,⟨n,by simp,Rn9 _,h0⟩,?_⟩
 rintro i m σ H ⟨rfl,hi,p⟩
 obtain⟨q1,q2⟩:=hl i σ H hi p
 by_cases hlt:i < n
 ·refine .inr ⟨aKg q1 q2 (dQ (show i < xs.length by omega)) (dQ (show i < ys.length by omega)),Pv (i+1),λσ' H' p'=>⟨n - (i+1),by omega,rfl,hlt,p'⟩,λx H' y=>?_⟩
  obtain⟨T,u,v,hT,e1,e2,y1,y2⟩:=aIi q1 q2 y
  subst e1 e2
  exact hs i u v σ H T y1 y2 p hT
 ·have e:i=n:=by omega
  subst e
  exact .inl ⟨aGf q1 q2 (by omega),hd σ H p⟩
end
section
variable{σ₀:St}{g:TG}{tt:TT}{te:TE}{R:List V->Hp->Prop}{H:Hp}{k1 k2 k3:Bool}{a b c:Addr}{xs ys zs:List V}{n:Nat}
theorem aGg(n1:n<=xs.length)(n2:n<=ys.length)(nm:xs.length=n\/ys.length=n)(hz:n<=sizeLine)(Pv:Nat->List V->Hp->Prop)(h0:Pv 0 [] H)
  (hl:∀i us H,i<=n->Pv i us H->(Src H k1 a xs/\Src H k2 b ys)/\us.length<=i)
  (hs:∀i x y us H T,xs[i]?=some x->ys[i]?=some y->Pv i us H->H T=none->g (.ref T) σ₀ (upd H T (.tup [x,y])) λσ2 H2=>tt σ2 H2 λb H3=>if b=true then te σ2 H3 λy H4=>Pv (i+1) (us ++ [y]) H4 else Pv (i+1) us H3)
  (hd:∀us H,Pv n us H->R us H):uE (ItZ [(k1,a),(k2,b)]) σ₀ g tt te R H:=by
 refine⟨λi m us H=>m=n - i/\i<=n/\Pv i us H,⟨n,by simp,Rn9 _,h0⟩,?_⟩
 rintro i m us H ⟨rfl,hi,p⟩
 obtain⟨⟨q1,q2⟩,ql⟩:=hl i us H hi p
 refine⟨by omega,?_⟩
 by_cases hlt:i < n
 ·refine .inr ⟨aKg q1 q2 (dQ (show i < xs.length by omega)) (dQ (show i < ys.length by omega)),Pv (i+1),λus' H' p'=>⟨n - (i+1),by omega,rfl,hlt,p'⟩,λx H' y=>?_⟩
  obtain⟨T,u,v,hT,e1,e2,y1,y2⟩:=aIi q1 q2 y
  subst e1 e2
  exact hs i u v us H T y1 y2 p hT
 ·have e:i=n:=by omega
  subst e
  exact .inl ⟨aGf q1 q2 (by omega),hd us H p⟩
end
section
variable{X:Cx}
def aMO(K:W.Frag):List V->Hp->VK->Prop:=λxs H Q=>∃(p:Addr) (ns:List Int),xs=[.ref p]/\kQ K H p (ns.map V.int)/\Q (.int (List.sum ns)) H
theorem aLe(hc:X.calm=true):eC X (.builtin "sum") (aMO X.K):=by
 intro pins s σ H xs us Q I r h
 obtain⟨p,ns,rfl,hq,q⟩:=h
 obtain⟨u,rfl,rx⟩:=vals1 r
 cases rx
 obtain⟨its,r',pl,hz⟩:=I.tuple hq
 have hi:=intsAre_of r'
 obtain⟨xs,hx⟩:=hi.allInts.items
 have hl':s.heap.IsTuple p (intItems xs):=hx▸pl
 refine PySem.W.ktm_sumG (I.ok.hd hc) hl' λh' tk t' hk=>?_
 have e1:ns=xs.toList.map (·.1):=by
  rw[<-nums_intItems,<-hx]
  exact(show numsOf its.toArray.toList=ns from hi.numsOf).symm
 have e2:preSum (numAt xs) xs.size=ns.sum:=by
  rw[preSum_eq,St9 (by simp),e1]
 rw[e2]
 exact⟨.int _,H,I.kept (t':=tk) hk,⟨t',rfl⟩,q⟩
theorem aOL{K:W.Frag}{H:Hp}{Q:VK}{p:Addr}{ns:List Int}(h1:kQ K H p (ns.map V.int))(h:Q (.int (List.sum ns)) H):aMO K [.ref p] H Q:=⟨p,ns,rfl,h1,h⟩
def aBk(K:W.Frag):List V->Hp->VK->Prop:=λxs H Q=>∃p ys,xs=[.ref p]/\((bV K H p ys/\∀l,H l=none->Q (.ref l) (upd H l (.tup ys)))\/(kQ K H p ys/\Q (.ref p) H))
theorem vD:eC X (.type "tuple") (aBk X.K):=aFm
theorem aBP{K:W.Frag}{H:Hp}{Q:VK}{p:Addr}{ys:List V}(h1:bV K H p ys)(h:∀l,H l=none->Q (.ref l) (upd H l (.tup ys))):aBk K [.ref p] H Q:=⟨p,ys,rfl,.inl ⟨h1,h⟩⟩
structure Isi(K:W.Frag)(C:Addr):Prop where
 ha:PySem.W.findIn K (.ref C) "__class__" = some (some (.builtin "object.__class__"))
 hn:PySem.W.specialIn K (.builtin "object.__class__") "__get__" = some (some (.builtin "getset_descriptor.__get__"))
 htk:PySem.W.takesIn K (.builtin "object.__class__")=some true
 hm:PySem.W.mroIn K C (.type "object")=some true
theorem aKi{K:W.Frag}{H:Hp}{a C dx:Addr}{fs:List (Str×V)}(i:Isi K C)(c:Cls K C)(e:H a=some (.ins C dx fs)):IsI K H (.ref a) (.ref C) true:=
 ⟨.ref C,.ins e c i.ha i.hn i.htk i.hm,.inr ⟨C,rfl,by unfold PySem.W.kitOne;rw[if_pos (by simp)]⟩⟩
end
end L2
namespace L2.Z
open PySem PySem.Spec PyProof.Rows L2
section
variable{X:Cx}{p pos tp:Pos}{a b c:Expr}{elts:List Expr}{t:TA}{x1:Nat}{k1 k2 k3:Bool}
theorem v8(hg:Gl X "zip")(hm:X.mg "zip" = none)(ha:QA X [a,b] t)(hn:noStar a=true:=by rfl)(hn2:noStar b=true:=by rfl):QI X (.Tuple elts x1 tp) (.Call (.Name "zip" p) [a,b] [] pos) (aMM k1 k2 t):=⟨L2.aOK hg hm ha.h hn hn2⟩
theorem aLf{i j:Nat}{x y:Str}{px py pt:Pos}{kt k2 pt2}(hc:X.calm=true)(hN:X.N.Nodup)(hi:X.N[i]?=some x)(hj:X.N[j]?=some y)(hij:i≠j)
  (hx:X.env.scope.names.lookup x=some .local) (hy:X.env.scope.names.lookup y=some .local) (ha:QA X [a,b] t)
  (hw:swappedStores [.Tuple [.Name x px,.Name y py] kt pt] (.Tuple [a,b] k2 pt2) X.env=pure (some [x,y]):=by rfl)
  (hs:swapsWithSole [.Tuple [.Name x px,.Name y py] kt pt] (.Tuple [a,b] k2 pt2) pos.line X.env=pure false:=by rfl) :
  QS X (.Assign [.Tuple [.Name x px,.Name y py] kt pt] (.Tuple [a,b] k2 pt2) pos) (aPV i j t):=⟨L2.aPW hc hN hi hj hij hx hy ha.h hw hs⟩
end
end L2.Z
namespace L2
open PySem PySem.Spec PyProof.Rows
theorem nw(o:HO)(n:H p=none):∃H2,upd H p o=H2/\aP H H2/\H2 p=some o:=⟨_,rfl,aP.new n,aN⟩
theorem wr(H:Hp)(p:Addr)(o:HO):∃H2,upd H p o=H2/\cA p H H2/\H2 p=some o:=⟨_,rfl,cA.upd,aN⟩
theorem nwi{H:Hp}{x dx C:Addr}(nx:H x=none)(nd:H dx=none)(hd:dx≠x):∃H2,upd (upd H dx (.own x)) x (.ins C dx [])=H2/\aP H H2/\H2 x=some (.ins C dx []):=
 ⟨_,rfl,λb o e=>by rw[bB (bG nx e),bB (bG nd e)];exact e,aN⟩
end L2
namespace L2
open PySem PySem.Spec PyProof.Rows
end L2
namespace L2
open PySem PySem.Spec PyProof.Rows
def Nx(N:St->Hp->Prop)(σ:St)(H:Hp):Prop:=N σ H
structure Tail(N b:St->Hp->Prop):Prop where
 h:∀σ H,b σ H->N σ H
theorem aOM{nx bk ct:St->Hp->Prop}{t u:TS}(h:∀N,Tail N (u ⟨nx,rt,bk,ct⟩)->t ⟨Nx N,rt,bk,ct⟩ σ H):aLL t u ⟨nx,rt,bk,ct⟩ σ H:=h _ ⟨λ_ _ h=>h⟩
theorem aRT{N b:St->Hp->Prop}(t:Tail N b)(h:b σ H):Nx N σ H:=t.h _ _ h
end L2
namespace L2
open PySem PySem.Spec PyProof.Rows
section
variable{prog:Program}{w:World}{A:Around}{E:Value->Shared->Prop}{s:Shared}{K:W.Frag}{x C:Addr}{ox:Obj}{od:Option Obj}
end
section
variable{X:Cx}
end
end L2
namespace L2
open PySem PySem.Spec PyProof.Rows
section
variable{X:Cx}{pins:List (Addr×Obj)}{σ:St}{H:Hp}{s:Shared}
end
theorem cE.obj{h:Heap}(x:cE P w H h a o):∃u,h.get? a=some u:=by
 cases o with
 |lst xs=>obtain⟨_,_,_,_,e⟩:=x;exact⟨_,e⟩
 |tup xs=>obtain⟨_,_,_,u,e,_⟩:=x;exact⟨u,e⟩
 |dK kvs=>obtain⟨_,_,_,_,u,_,_,e,_⟩:=x;exact⟨u,e⟩
 |dT kvs=>obtain⟨_,_,_,_,u,_,_,e,_⟩:=x;exact⟨u,e⟩
 |set S n=>obtain⟨u,_,_,_,e,_⟩:=x;exact⟨u,e⟩
 |ins C dx fs=>obtain⟨_,_,_,e,_⟩:=x;exact⟨_,e⟩
 |own y=>exact x
 |xd fs=>obtain⟨_,⟨u,_,_,e,_⟩,_⟩:=x;exact⟨u,e⟩
 |rng lo hi=>obtain⟨_,_,_,e⟩:=x;exact⟨_,e⟩
 |frz ob u=>exact⟨_,x.1⟩
 |tbl ps=>exact⟨_,x⟩
 |met f y=>exact⟨_,x⟩
 |ext φ=>exact x.2.1
 |cod q=>obtain⟨o,_,_,e,_⟩:=x;exact⟨o,e⟩
 |ctb pos q=>obtain⟨_,e,_⟩:=x;exact⟨_,e⟩
theorem Inv.aPp{X:Cx}{pins:List (Addr×Obj)}{σ:St}{H:Hp}{s:Shared}{h':Heap}{a:Addr}{o:HO}{t':Nat}(I:Inv X pins σ H s)(k:∀b u,s.heap.get? b=some u->h'.get? b=some u)(hne:∀b u,s.heap.get? b=some u->b≠a)
  (new:cE X.prog X.w (upd H a o) h' a o):H a=none/\Inv X pins σ (upd H a o) { s with heap:=h',toks:=t' }:=by
 have hn:H a=none:=by
  cases e:H a with
  |none=>rfl
  |some u=>
   obtain⟨ob,z⟩:=(I.hok a u e).obj
   exact absurd rfl (hne a ob z)
 refine⟨hn,I.un ⟨λb u q _ _ _=>k b u q,λb u q _ _ _=>⟨u.slots,k b u q⟩,λb u q n _=>?_,λb u q _=>⟨u,k b u q⟩,λb xs q=>?_,λb u xs q=>?_,λb ps q=>⟨#[],?_⟩⟩ λb u e=>?_⟩
 ·rw[bB (hne b u q)];exact n
 ·rw[bB (bJ q hn)];exact q
 ·rw[bB (bJ q hn)];exact q
 ·rw[bB (bJ q hn),q];simp
 ·by_cases hb:b=a
  ·subst hb;rw[aN] at e;cases e;exact new
  ·rw[bB hb] at e
   exact(I.hok b u e).aAF (λc v _ q=>k c v q) (λc q=>by rw[bB (bJ q hn)];exact q) λc xs _ q=>by rw[bB (bJ q hn)];exact q
section
variable{X:Cx}{tg:Expr}
end
section
variable{σ:St}{H:Hp}{nx:St->Hp->Prop}{rt:VK}{g:TG}{tb:TS}
end
section
variable{X:Cx}
end
section
variable{X:Cx}{o e:Expr}{to:TE}{apos cpos:Pos}
end
section
variable{K:W.Frag}{σ:St}{H:Hp}{Q:VK}
end
end L2
namespace L2.Z
open PySem PySem.Spec PyProof.Rows
section
variable{X:Cx}{K':W.Frag}{tg o i value l:Expr}{to td ty tv tl:TE}{pos pos' apos cpos:Pos}
theorem aBl(hu:X.A.units+9 < cLine)(ho:QE X o td)(hi:QE X i ty)(hv:QE X value tv)(hs:swapsWith value (some (.Subscript o i pos')) pos.line X.env=pure false:=by rfl) :
  QS X (.Assign [.Subscript o i pos'] value pos) (aMe td ty tv):=⟨L2.aN8 (by omega) ho.h hi.h hv.h hs⟩
end
end L2.Z
namespace L2
open PySem PySem.Spec PyProof.Rows
section
variable{σ:St}{H:Hp}{Q:VK}{nx bk ct:St->Hp->Prop}{rt:VK}
theorem aON(h:tv σ H λv H1=>td σ H1 λx H2=>ty σ H2 λy H3=>∃a H4,x=.ref a/\aEa H3 a y v H4/\nx σ H4):aMe td ty tv ⟨nx,rt,bk,ct⟩ σ H:=h
end
end L2
namespace L2
open PySem PySem.Spec PyProof.Rows
section
variable{prog:Program}{w:World}{A:Around}{E:Value->Shared->Prop}{s:Shared}{K:W.Frag}{x C:Addr}{ox:Obj}{od:Option Obj}{name:Str}{v:Value}{expr:Bool}
end
section
variable{prog:Program}{w:World}{A:Around}{E:Value->Shared->Prop}{s:Shared}{K:W.Frag}{x C:Addr}{o:Obj}{name:Str}{v:Value}
open PySem.Builtin PySem.Builtin.ObjectAttr in
end
section
variable{prog:Program}{w:World}{A:Around}{E:Value->Shared->Prop}{s:Shared}{K:W.Frag}
variable{nm q:Str}{C N fI:Addr}{bs bm bmB:List Value}{hdct:Bool}{sn:List Str}{sub:List Value}{ab:Bool}{col:Option Bool}{dd:Option Addr}{k0 k1 k2 k3 k5:Option Value}{B newId initId:String}
end
structure Lft(fs:List Addr)(e:Addr)(oe:Obj)(h h':Heap):Prop where
 keep:∀b o,b∉fs->b≠e->h.get? b=some o->h'.get? b=some o
 slot:∀b o,b∈fs->h.get? b=some o->∃sl,h'.get? b=some { o with slots:=sl }
 err:∃vs T oT ts,h'.get? e=some { oe with data:=.fields vs }/\vs[1]?=some (.ref T)/\T≠e/\h.objs.size<=T/\h'.get? T=some oT/\oT.data=.fields ts/\ts[3]?=some .none
section
variable{M:Model}{A:Around}{E:Value->Shared->Prop}{s:Shared}{base:Heap}{env:Env}{outer:List Env}{L e:Addr}{oe:Obj}{vs:Array Value}{Q:Unit->Shared->Prop}
end
def aOO(C:Addr)(od:Option Addr)(e:Addr):HO:=.ext λh=>∃o vs,h.get? e=some o/\o.cls=.ref C/\o.dict=od/\o.data=.fields vs
theorem aOP{P:Program}{w:World}{H:Hp}{h:Heap}{C e:Addr}{od:Option Addr}{o:Obj}{vs:Array Value}(h1:h.get? e=some o)(h2:o.cls=.ref C)(h3:o.dict=od)(h4:o.data=.fields vs):cE P w H h e (aOO C od e):=
 ⟨⟨o,vs,h1,h2,h3,h4⟩,⟨o,h1⟩,λ_ _ z k=>let ⟨o,vs,a,b,c,d⟩:=z;⟨o,vs,k o a,b,c,d⟩⟩
theorem aOQ{P:Program}{w:World}{H:Hp}{h:Heap}{C e:Addr}{od:Option Addr}(x:cE P w H h e (aOO C od e)):∃o vs,h.get? e=some o/\o.cls=.ref C/\o.dict=od/\o.data=.fields vs:=x.1
section
variable{X:Cx}{pins:List (Addr×Obj)}{σ:St}{H:Hp}{s:Shared}{h':Heap}{C e:Addr}{od:Option Addr}{oe:Obj}
theorem Inv.left(I:Inv X pins σ H s)(he:H e=some (aOO C od e))(ho:s.heap.get? e=some oe)(lf:Lft (frs X.stack) e oe s.heap h'):Inv X pins σ H { s with heap:=h' }:=by
 obtain⟨o,vs,q1,q2,q3,q4⟩:=aOQ (I.hok e _ he)
 rw[ho] at q1
 cases q1
 have stk:=I.aDX
 obtain⟨vs2,T,oT,ts,r1,_⟩:=lf.err
 have tr:∀b u,H b=some u->b∉frs X.stack:=λb u z hb=>by rw[stk b hb] at z;cases z
 refine I.call (g':=s.gens) (d':=s.drawn) (t':=s.toks) (ch:=[]) ⟨λb o z n hb _=>lf.keep b o hb (λq=>by rw[q,he] at n;cases n) z,λb o z n hb _=>lf.slot b o hb z,λb o z n _=>n,λb o z _=>?_,λ_ _ z=>z,λ_ _ _ z=>z,λb ps z=>⟨#[],by rw[z];simp⟩⟩ (λa u z=>?_) I.bare (λb z=>nomatch z)
 ·by_cases hb:b∈frs X.stack
  ·obtain⟨sl,q⟩:=lf.slot b o hb z;exact⟨_,q⟩
  ·by_cases hbe:b=e
   ·subst hbe;exact⟨_,r1⟩
   ·exact⟨o,lf.keep b o hb hbe z⟩
 ·by_cases hae:a=e
  ·subst hae
   rw[he] at z
   cases z
   exact aOP r1 q2 q3 rfl
  ·refine(I.hok a u z).aAF (λb v hb q=>?_) (λ_ q=>q) λ_ _ _ q=>q
   rcases hb with rfl|hb
   ·exact lf.keep _ v (tr _ _ z) hae q
   ·exact lf.keep _ v (tr _ _ hb) (λy=>by rw[y,he] at hb;cases hb) q
end
end L2
namespace L2
open PySem PySem.Spec PyProof.Rows
section
variable{X:Cx}{pins:List (Addr×Obj)}{σ:St}{H:Hp}{s:Shared}
end
end L2
namespace L2
open PySem PySem.Spec PyProof.Rows
section
variable{X:Cx}{k:Nat}{f C:Addr}{fd:FuncData}{ps:List Str}{sp:Sp}{x:Str}{p pos:Pos}{e:Expr}{es:List Expr}{t:TA}{te:TE}
end
end L2
namespace L2
open PySem PySem.Spec PyProof.Rows
section
variable{X:Cx}{o e value:Expr}{f:Str}{pos pos':Pos}{ta tv:TE}
end
end L2
namespace L2
open PySem PySem.Spec PyProof.Rows
section
variable{prog:Program}{w:World}{A:Around}{E:Value->Shared->Prop}{s:Shared}{K:W.Frag}{x D:Addr}{ox:Obj}{odo:Option Obj}
end
def aCN(H:Hp)(od:Option Addr):Prop:=∀dx,od=some dx->∃fs,H dx=some (.xd fs)
theorem aCN.none:aCN H none:=λ_ z=>nomatch z
theorem aCN.some(h:H dx=some (.xd fs)):aCN H (some dx):=λ_ z=>by cases z;exact⟨fs,h⟩
theorem aCN.there{P:Program}{w:World}{H:Hp}{h:Heap}{od:Option Addr}(hok:yH P w H h)(d:aCN H od):∀dx,od=Option.some dx->∃o,h.get? dx=Option.some o:=λdx z=>by
 obtain⟨fs,e⟩:=d dx z
 exact(hok dx _ e).obj
section
variable{X:Cx}{K:W.Frag}{H:Hp}{Q:VK}
end
end L2
namespace L2
open PySem PySem.Spec PyProof.Rows
abbrev TW:=St->Hp->Addr->Prop
structure aQ0(X:Cx)(pins:List (Addr×Obj))(T:Addr):Prop where
 up:X.s₀.heap.objs.size<=T
 loc:T≠X.env.locals
 cell:∀x c,X.env.cells.lookup x=some c->c≠T
 pin:∀p∈X.pn++pins,p.1≠T
structure aSi(X:Cx)(pins:List (Addr×Obj))(H:Hp)(h:Heap)(e:Addr):Prop where
 ex:∃(C:Addr) (od:Option Addr) (oe:Obj) (vs:Array Value) (T:Addr) (oT:Obj) (ts:Array Value),H e=some (aOO C od e)/\h.get? e=some oe/\oe.data=.fields vs/\vs[1]?=some (.ref T)/\T≠e/\aQ0 X pins T/\H T=none/\h.get? T=some oT/\oT.data=.fields ts/\ts[3]?=some .none
def aQ1(X:Cx)(pins:List (Addr×Obj))(W:TW)(ev:Value)(s':Shared):Prop:=∃(e:Addr) (σ:St) (H':Hp),ev=.ref e/\Inv X pins σ H' s'/\aSi X pins H' s'.heap e/\W σ H' e
def Cx.tr(X:Cx)(pins:List (Addr×Obj))(W:TW):Cx:={ X with pn:=X.pn++pins,xe:=aQ1 X pins W }
def Cx.hnd(X:Cx)(e:Addr):Cx:={ X with A:=X.A.mark (some (.ref e)),calm:=false,xe:=λ_ _=>False }
section
variable{X:Cx}{pins pins':List (Addr×Obj)}{σ:St}{H:Hp}{s:Shared}{W:TW}{e:Addr}
theorem Cx.Ok.tr(ok:X.Ok):(X.tr pins W).Ok:=⟨ok.mod,ok.kind,ok.glob,ok.blt,ok.above,ok.inj,ok.has,ok.cab,ok.hd,ok.frames,ok.stk,ok.exf,ok.bs,ok.bsz,ok.noex,ok.exfs,ok.aAH,ok.frf⟩
theorem Cx.Ok.hnd(ok:X.Ok):(X.hnd e).Ok:=⟨ok.mod,ok.kind,ok.glob,ok.blt,ok.above,ok.inj,ok.has,ok.cab,(λz=>Bool.noConfusion z),ok.frames,ok.stk,ok.exf,ok.bs,ok.bsz,ok.noex,ok.exfs,ok.aAH,ok.frf⟩
theorem Inv.tr(I:Inv X pins σ H s):Inv (X.tr pins W) [] σ H s:=⟨I.ok.tr,I.os,I.bare,I.base,I.loc,I.cell,I.free,I.freeC,λp hp=>I.pin p (by rw[Rw9] at hp;exact hp),I.hok,I.len⟩
theorem Inv.hnd(I:Inv X pins σ H s):Inv (X.hnd e) pins σ H s:=⟨I.ok.hnd,I.os,I.bare,I.base,I.loc,I.cell,I.free,I.freeC,I.pin,I.hok,I.len⟩
end
abbrev TH:=Ends->St->Hp->Addr->Prop
section
variable{X:Cx}{x n:Str}{C0:Addr}{i:Nat}{b₀:Stmt}{suite body:List Stmt}{np pos:Pos}{rest:List ExceptHandler}{h₀:ExceptHandler}{hs:List ExceptHandler}{ts:TS}{th:TH}{tb:TW->TS}
end
end L2
namespace L2
open PySem PySem.Spec PyProof.Rows
section
variable{X:Cx}{pn:List (Addr×Obj)}{W:TW}{k:Nat}{f C:Addr}{fd:FuncData}{ps:List Str}{sp:Sp}{x:Str}{p pos:Pos}{e:Expr}{es:List Expr}{t:TA}
end
structure aGh(k:Nat)(A:Around):Prop where
 dp:A.depth+3*k+5 < recursionLimit
 un:A.units+16*k+200 < cLine
theorem fJ.h{k:Nat}(r:fJ k A):aGh k A:=⟨r.dp,r.un⟩
theorem aGh.mark{k:Nat}{A:Around}(r:aGh k A)(o:Option Value):aGh k (A.mark o):=⟨r.dp,r.un⟩
theorem aGh.calm{k:Nat}{A:Around}(r:aGh k A):fJ k { A with handled:=none }:=⟨rfl,r.dp,r.un⟩
section
variable{X:Cx}{k:Nat}{f:Addr}{fd:FuncData}{ps:List Str}{sp:Sp}{x:Str}{p pos:Pos}{e:Expr}{es:List Expr}{t:TA}
end
end L2
namespace L2
open PySem PySem.Spec PyProof.Rows
section
variable{K:W.Frag}{σ:St}{H:Hp}{Q:VK}{nx bk ct:St->Hp->Prop}{rt:VK}
end
end L2
namespace L2.Z
open PySem PySem.Spec PyProof.Rows L2
section
variable{X:Cx}{K':PySem.W.Frag}{pn:List (Addr×Obj)}{W:TW}{k:Nat}{f C C0:Addr}{fd:FuncData}{ps:List Str}{sp:Sp}{x n:Str}{p pos pos' np:Pos}{e o:Expr}{es:List Expr}{t:TA}{te ta:TE}{E:XK}{i:Nat}{b₀:Stmt}{suite body:List Stmt}{rest hs:List ExceptHandler}{h₀:ExceptHandler}{ts:TS}{th:TH}{tb:TW->TS}
end
end L2.Z
namespace L2
open PySem PySem.Spec PyProof.Rows
section
variable{X:Cx}
end
end L2
namespace L2
open PySem PySem.Spec PyProof.Rows
end L2
namespace L2
open PySem PySem.Spec PyProof.Rows
section
variable{X:Cx}{o e:Expr}{to:TE}{t:TA}{apos cpos:Pos}
theorem aKj:∀{ns:List Int}{us:List Value},Vals (ns.map V.int) us->IntsAre us ns
 |[],_,.nil=>.nil
 |n::ns,_,.cons r t=>by
  obtain⟨k,rfl⟩:=(show ∃k,_=Value.int n k from r)
  exact .cons n k (aKj t)
def aGO(K:W.Frag):V->List V->Hp->VK->Prop:=λx vs H Q=>∃(l:Addr) (ns:List Int) (k:Int),x=.ref l/\vs=[.int k]/\bV K H l (ns.map V.int)/\Q (.int (ns.count k:Nat)) H
theorem aMP:MtR X "list.count" (aGO X.K):=by
 intro pins s σ H x vs v us Q I rx rv h
 obtain⟨l,ns,k,rfl,rfl,hS,q⟩:=h
 cases rx
 obtain⟨u,rfl,ru⟩:=rv.one
 obtain⟨tk,rfl⟩:=(show ∃tk,u=Value.int k tk from ru)
 obtain⟨its,r,pl,hz⟩:=I.list hS
 exact count_list_ints pl.isList (aKj r) ⟨.int (ns.count k:Nat),H,I.tok _,⟨_,rfl⟩,q⟩
theorem aMQ(ho:PE X o to)(ha:PA X [e] t)(hn:noStar e=true:=by rfl)(hbase:attributeBase o "count" X.env (eval o X.env)=eval o X.env:=by rfl)(hline:(apos.endLine == cpos.line)=true:=by rfl) :
  PE X (.Call (.Attribute o "count" apos) [e] [] cpos) (tBM X.K "list" (aGO X.K) to t):=
 aPj PySem.F.plainAttrs_list PySem.F.slot_list_count PySem.F.type_list_count aMP ho ha hbase (by rw[bW hn];rfl) hline (bW hn) (by rfl)
theorem aIj{K:W.Frag}{H:Hp}{Q:VK}{l:Addr}{ns:List Int}{k:Int}(h:bV K H l (ns.map V.int))(q:Q (.int (ns.count k:Nat)) H):aGO K (.ref l) [.int k] H Q:=⟨l,ns,k,rfl,rfl,h,q⟩
end
end L2
namespace L2.Z
open PySem PySem.Spec PyProof.Rows L2
theorem aBQ{X:Cx}{K':PySem.W.Frag}{o e:Expr}{to:TE}{t:TA}{apos cpos:Pos}(ho:QE X o to)(ha:QA X [e] t)(hn:noStar e=true:=by rfl)(hbase:attributeBase o "count" X.env (eval o X.env)=eval o X.env:=by rfl)(hline:(apos.endLine == cpos.line)=true:=by rfl)(hK:X.K=K':=by rfl) :
  QE X (.Call (.Attribute o "count" apos) [e] [] cpos) (tBM K' "list" (aGO K') to t):=by subst hK;exact⟨L2.aMQ ho.h ha.h hn hbase hline⟩
end L2.Z
namespace L2
open PySem PySem.W PyProof.Rows
section
variable{O:KeyOrd}{key:Nat->O.α}{N:Nat}{cmp:Nat->Nat->(Bool->Shared->Prop)->Shared->Prop}{s:Shared}
def kq(key:Nat->O.α)(p:Array Nat)(i:Nat):O.α:=key (p.getD i 0)
def Up(key:Nat->O.α)(p:Array Nat)(k:Nat):Prop:=∀i j,i<=j->j < k->O.kle (kq key p i) (kq key p j)
def Dn(key:Nat->O.α)(p:Array Nat)(k:Nat):Prop:=∀i j,i<=j->j < k->O.kle (kq key p j) (kq key p i)
def Row(N:Nat)(p:Array Nat):Prop:=p.Perm (List.toArray (List.range N))
theorem aIk{p q:Array Nat}{i j:Nat}(h:p[i]?=q[j]?):kq key p i=kq key q j:=by
 unfold kq
 rw[Array.getD_eq_getD_getElem?,Array.getD_eq_getD_getElem?,h]
theorem aMR{p:Array Nat}{a d:Nat}(ha:a < p.size)(hd:d<=a)(k:Nat):kq key (bubble p a d) k=if k=a - d then kq key p a else if a - d < k/\k<=a then kq key p (k - 1) else kq key p k:=by
 have e:=getElem?_bubble ha d hd k
 split
 ·rename_i h;rw[if_pos h] at e;exact aIk e
 ·rename_i h
  rw[if_neg h] at e
  split
  ·rename_i g;rw[if_pos g] at e;exact aIk e
  ·rename_i g;rw[if_neg g] at e;exact aIk e
theorem aGP{p:Array Nat}{i j:Nat}(hj:j<=p.size)(k:Nat):kq key (kas_rev p i j) k=if i<=k/\k < j then kq key p (i+j - 1 - k) else kq key p k:=by
 have e:=getElem?_mirror_all (i:=i) hj k
 split
 ·rename_i h;rw[if_pos h] at e;exact aIk e
 ·rename_i h;rw[if_neg h] at e;exact aIk e
theorem Row.size{p:Array Nat}(h:Row N p):p.size=N:=by
 have:=h.size_eq
 rw[this]
 simp
theorem Row.lt{p:Array Nat}(h:Row N p)(hN:0 < N)(i:Nat):p.getD i 0 < N:=by
 by_cases hi:i < p.size
 ·have e:p.getD i 0=p[i]:=by simp[Array.getD,hi]
  have m:p[i]∈p.toList:=by simp
  have m2:=(Sz9.mp h).mem_iff.mp m
  rw[e]
  simpa using m2
 ·have e:p.getD i 0=0:=by simp[Array.getD,hi]
  rw[e];exact hN
theorem Row.rev{p:Array Nat}(h:Row N p)(i j:Nat):Row N (kas_rev p i j):=(mirror_perm p i j _).trans h
theorem Row.bub{p:Array Nat}(h:Row N p)(i j:Nat):Row N (bubble p i j):=(bubble_perm p i j).trans h
theorem Up.more{p:Array Nat}{m:Nat}(h:Up key p m)(e:O.kle (kq key p (m - 1)) (kq key p m)):Up key p (m+1):=λi j hij hj=>by
 by_cases hm:j < m
 ·exact h i j hij hm
 ·have ej:j=m:=by omega
  subst ej
  by_cases hi:i=j
  ·subst hi;exact KeyOrd.kle_refl _
  ·exact KeyOrd.kle_trans (h i (j - 1) (by omega) (by omega)) e
theorem Dn.more{p:Array Nat}{m:Nat}(h:Dn key p m)(e:O.kle (kq key p m) (kq key p (m - 1))):Dn key p (m+1):=λi j hij hj=>by
 by_cases hm:j < m
 ·exact h i j hij hm
 ·have ej:j=m:=by omega
  subst ej
  by_cases hi:i=j
  ·subst hi;exact KeyOrd.kle_refl _
  ·exact KeyOrd.kle_trans e (h i (j - 1) (by omega) (by omega))
def Ans(key:Nat->O.α)(N:Nat)(cmp:Nat->Nat->(Bool->Shared->Prop)->Shared->Prop)(s:Shared):Prop:=∀i j (C:Bool->Shared->Prop),i < N->j < N->C (O.blt (key i) (key j)) s->cmp i j C s
theorem Ans.ask{α:Type}(hc:Ans key N cmp s)(hN:0 < N){p:Array Nat}(hp:Row N p){i j:Nat}{k:Bool->KasT α}{Q:α->Shared->Prop}(h1:O.klt (kq key p i) (kq key p j)->(k true).kasWp cmp Q s)(h2:O.kle (kq key p j) (kq key p i)->(k false).kasWp cmp Q s) :
  (KasT.ask (p.getD i 0) (p.getD j 0) k).kasWp cmp Q s:=by
 refine hc _ _ _ (hp.lt hN i) (hp.lt hN j) ?_
 cases e:O.blt (key (p.getD i 0)) (key (p.getD j 0)) with
 |true=>exact h1 e
 |false=>exact h2 e
theorem aJx(hc:Ans key N cmp s)(hN:0 < N){p:Array Nat}(hp:Row N p){Q:Nat->Shared->Prop}:∀{f m:Nat},f=N - m->1<=m->m<=N->Up key p m->
  (∀r,m<=r->r<=N->Up key p r->(r < N->O.klt (kq key p r) (kq key p (r - 1)))->Q r s)->(kas_asc p f m).kasWp cmp Q s
 |0,m,hf,h1,hm,hu,h=>h m (gB _) hm hu (λz=>by omega)
 |f+1,m,hf,h1,hm,hu,h=>by
  refine hc.ask hN hp (λz=>?_) (λz=>?_)
  ·rw[if_pos rfl]
   exact h m (gB _) hm hu λ_=>z
  ·rw[if_neg (by decide)]
   exact aJx hc hN hp (by omega) (by omega) (by omega) (hu.more z) λr a b c d=>h r (by omega) b c d
def Blk(key:Nat->O.α)(p:Array Nat)(n q:Nat):Prop:=∀i,n - (q+1)<=i->i < n->kq key p i=kq key p (n - 1)
theorem Blk.same{p:Array Nat}{n q:Nat}(h:Blk key p n q)(hz:n<=p.size)(k:Nat):kq key (kas_rev p (n - (q+1)) n) k=kq key p k:=by
 rw[aGP hz]
 split
 ·rename_i g
  rw[h k g.1 g.2]
  exact h _ (by omega) (by omega)
 ·rfl
theorem aD2(hc:Ans key N cmp s)(hN:0 < N){Q:Array Nat×Nat×Nat->Shared->Prop}:∀{f n q:Nat}{p:Array Nat},Row N p->f=N - n->1<=n->n<=N->q+1<=n->Dn key p n->Blk key p n q->
  (∀p' n' q',Row N p'->1<=n'->n'<=N->q'+1<=n'->Dn key p' n'->Blk key p' n' q'->Q (p',n',q') s)->(kas_desc f p n q).kasWp cmp Q s
 |0,n,q,p,hp,hf,h1,hn,hq,hd,hb,h=>h p n q hp h1 hn hq hd hb
 |f+1,n,q,p,hp,hf,h1,hn,hq,hd,hb,h=>by
  have hz:n<=p.size:=by rw[hp.size];exact hn
  refine hc.ask hN hp (λz=>?_) (λz=>?_)
  ·rw[if_pos rfl]
   have hd':Dn key p (n+1):=hd.more (KeyOrd.kle_of_klt z)
   split
   ·have e:=hb.same hz
    refine aD2 hc hN (hp.rev _ _) (by omega) (by omega) (by omega) (by omega) (λi j a b=>?_) (λi a b=>?_) h
    ·rw[e,e];exact hd' i j a b
    ·have:i=n:=by omega
     subst this;rfl
   ·refine aD2 hc hN hp (by omega) (by omega) (by omega) (by omega) hd' (λi a b=>?_) h
    have:i=n:=by omega
    subst this;rfl
  ·rw[if_neg (by decide)]
   refine hc.ask hN hp (λy=>?_) (λy=>?_)
   ·rw[if_pos rfl]
    exact h p n q hp h1 hn hq hd hb
   ·rw[if_neg (by decide)]
    have e:kq key p (n - 1)=kq key p n:=KeyOrd.kle_antisymm z y
    refine aD2 hc hN hp (by omega) (by omega) (by omega) (by omega) (hd.more y) (λi a b=>?_) h
    show kq key p i=kq key p n
    by_cases hi:i < n
    ·rw[hb i (by omega) hi,e]
    ·have:i=n:=by omega
     subst this;rfl
theorem aKk(hc:Ans key N cmp s)(hN:0 < N){n:Nat}{p:Array Nat}{Q:Nat×Array Nat->Shared->Prop}(hp:Row N p)(h1:1<=n)(hn:n<=N)(hd:Dn key p n)(h:∀m p',Row N p'->1<=m->m<=N->Up key p' m->Q (m,p') s):(kas_tail3 n N p).kasWp cmp Q s:=by
 have hz:n<=p.size:=by rw[hp.size];exact hn
 unfold kas_tail3
 rw[KasT.kasWp_bind]
 refine aJx hc hN (hp.rev 0 n) rfl h1 hn (λi j a b=>?_) λr a b c _=>h r _ (hp.rev 0 n) (by omega) b c
 rw[aGP hz,aGP hz,if_pos ⟨Rn9 _,by omega⟩,if_pos ⟨Rn9 _,b⟩]
 exact hd _ _ (by omega) (by omega)
theorem aDc(hc:Ans key N cmp s)(hN:0 < N){n:Nat}{p:Array Nat}{Q:Nat×Array Nat->Shared->Prop}(hp:Row N p)(h1:1<=n)(hn:n < N)(hd:Dn key p n)(hl:O.klt (kq key p n) (kq key p (n - 1)))(h:∀m p',Row N p'->1<=m->m<=N->Up key p' m->Q (m,p') s) :
  (kas_descPart n N p).kasWp cmp Q s:=by
 unfold kas_descPart
 rw[KasT.kasWp_bind]
 refine aD2 hc hN hp rfl (by omega) (by omega) (by omega) (hd.more (KeyOrd.kle_of_klt hl)) (λi a b=>by have:i=n:=(by omega);subst this;rfl) λp' n' q' r1 r2 r3 r4 r5 r6=>?_
 have hz:n'<=p'.size:=by rw[r1.size];exact r3
 split
 ·refine aKk hc hN (r1.rev _ _) r2 r3 (λi j a b=>?_) h
  have e:=r6.same hz
  show O.kle (kq key (kas_rev p' (n' - (q'+1)) n') j) (kq key (kas_rev p' (n' - (q'+1)) n') i)
  rw[e,e]
  exact r5 i j a b
 ·exact aKk hc hN r1 r2 r3 r5 h
theorem aMS(hc:Ans key N cmp s)(hN:0 < N){p:Array Nat}{Q:Nat×Array Nat->Shared->Prop}(hp:Row N p)(h:∀m p',Row N p'->1<=m->m<=N->Up key p' m->Q (m,p') s):(kas_count N p).kasWp cmp Q s:=by
 unfold kas_count
 rw[KasT.kasWp_bind]
 refine aJx hc hN hp rfl (gB _) hN (λi j a b=>by have:i=j:=(by omega);subst this;exact KeyOrd.kle_refl _) λn a b c d=>?_
 have hz:n<=p.size:=by rw[hp.size];exact b
 split
 ·exact h n p hp a b c
 ·rename_i ne
  have nN:n < N:=by
   have:n≠N:=λz=>ne (by simp[z])
   omega
  split
  ·refine hc.ask hN hp (λz=>?_) (λz=>?_)
   ·rw[if_pos rfl]
    exact h n p hp a b c
   ·rw[if_neg (by decide)]
    have all:∀i,i < n->kq key p i=kq key p 0:=λi hi=>KeyOrd.kle_antisymm (KeyOrd.kle_trans (c i (n - 1) (by omega) (by omega)) z) (c 0 i (by omega) hi)
    have e:∀k,kq key (kas_rev p 0 n) k=kq key p k:=λk=>by
     rw[aGP hz]
     split
     ·rw[all _ (by omega),all k (by omega)]
     ·rfl
    refine aDc hc hN (hp.rev 0 n) a nN (λi j x y=>?_) ?_ h
    ·rw[e,e,all i (by omega),all j y]
     exact KeyOrd.kle_refl _
    ·rw[e,e]
     exact d nN
  ·have n1:n=1:=by omega
   subst n1
   exact aDc hc hN hp (gB _) nN (λi j x y=>by have:i=j:=(by omega);subst this;exact KeyOrd.kle_refl _) (d nN) h
theorem aEo(hc:Ans key N cmp s)(hN:0 < N){p:Array Nat}(hp:Row N p){k:Nat}(hu:Up key p k){Q:Nat->Shared->Prop}:∀{f l r:Nat},l<=r->r<=k->r - l<=f->
  (∀i,i < l->O.kle (kq key p i) (kq key p k))->(∀i,r<=i->i < k->O.klt (kq key p k) (kq key p i))->
  (∀m,m<=k->(∀i,i < m->O.kle (kq key p i) (kq key p k))->(∀i,m<=i->i < k->O.klt (kq key p k) (kq key p i))->Q m s)->(kas_place p k f l r).kasWp cmp Q s
 |0,l,r,hlr,hrk,hf,ha,hb,h=>h l (by omega) ha λi x y=>hb i (by omega) y
 |f+1,l,r,hlr,hrk,hf,ha,hb,h=>by
  unfold kas_place
  by_cases g:l ≥ r
  ·rw[if_pos g]
   exact h l (by omega) ha λi x y=>hb i (by omega) y
  ·rw[if_neg g]
   refine hc.ask hN hp (λz=>?_) (λz=>?_)
   ·rw[if_pos rfl]
    refine aEo hc hN hp hu (by omega) (by omega) (by omega) ha (λi x y=>?_) h
    exact KeyOrd.klt_of_klt_of_kle z (hu _ i x y)
   ·rw[if_neg (by decide)]
    refine aEo hc hN hp hu (by omega) (by omega) (by omega) (λi x=>?_) hb h
    exact KeyOrd.kle_trans (hu i _ (by omega) (by omega)) z
theorem aMT(hc:Ans key N cmp s)(hN:0 < N){Q:Array Nat->Shared->Prop}:∀{f k:Nat}{p:Array Nat},Row N p->f=N - k->k<=N->Up key p k->(∀p',Row N p'->Up key p' N->Q p' s)->(kas_bin f p k).kasWp cmp Q s
 |0,k,p,hp,hf,hk,hu,h=>h p hp (by have:k=N:=(by omega);subst this;exact hu)
 |f+1,k,p,hp,hf,hk,hu,h=>by
  unfold kas_bin
  rw[KasT.kasWp_bind]
  refine aEo hc hN hp hu (Rn9 _) (gB _) (by omega) (λi x=>by omega) (λi x y=>by omega) λm hm ha hb=>?_
  have kz:k < p.size:=by rw[hp.size];omega
  refine aMT hc hN (hp.bub k (k - m)) (by omega) (by omega) (λi j hij hj=>?_) h
  have em:k - (k - m)=m:=by omega
  rw[aMR kz (by omega),aMR kz (by omega),em]
  by_cases i1:i=m
  ·rw[if_pos i1]
   by_cases j1:j=m
   ·rw[if_pos j1];exact KeyOrd.kle_refl _
   ·rw[if_neg j1,if_pos (by omega)]
    exact KeyOrd.kle_of_klt (hb _ (by omega) (by omega))
  ·rw[if_neg i1]
   by_cases i2:m < i/\i<=k
   ·rw[if_pos i2,if_neg (by omega),if_pos (by omega)]
    exact hu _ _ (by omega) (by omega)
   ·rw[if_neg i2]
    by_cases j1:j=m
    ·rw[if_pos j1]
     exact ha i (by omega)
    ·rw[if_neg j1]
     by_cases j2:m < j/\j<=k
     ·rw[if_pos j2]
      exact hu _ _ (by omega) (by omega)
     ·rw[if_neg j2]
      exact hu _ _ (by omega) (by omega)
theorem aOR(hc:Ans key N cmp s)(hN:0 < N){Q:Array Nat->Shared->Prop}(h:∀p,Row N p->Up key p N->Q p s):(kas_sort N).kasWp cmp Q s:=by
 unfold kas_sort
 rw[KasT.kasWp_bind]
 refine aMS hc hN (Array.Perm.refl _) λm p hp h1 hm hu=>?_
 split
 ·rename_i z
  have e:max m 1=m:=by omega
  show(kas_bin (N - max m 1) p (max m 1)).kasWp cmp Q s
  rw[e]
  exact aMT hc hN hp rfl hm hu h
 ·rename_i z
  have z':¬m < N:=z
  have e:m=N:=by omega
  subst e
  exact h p hp hu
end
end L2
namespace L2
open PySem PySem.W PyProof.Rows
def v9:List Int->List Int->Bool
 |[],[]=>false
 |[],_::_=>true
 |_::_,[]=>false
 |a::as,b::bs=>if a=b then v9 as bs else decide (a < b)
theorem gW(a b:Int)(as bs:List Int):v9 (a::as) (b::bs)=if a=b then v9 as bs else decide (a < b):=rfl
theorem aDd:∀as:List Int,v9 as as=false
 |[]=>rfl
 |a::as=>by rw[gW,if_pos rfl];exact aDd as
theorem aEp:∀as bs cs:List Int,v9 as bs=true->v9 bs cs=true->v9 as cs=true
 |[],[],_,h,_=>by cases h
 |[],_::_,[],_,h=>by cases h
 |[],_::_,_::_,_,_=>rfl
 |_::_,[],_,h,_=>by cases h
 |_::_,_::_,[],_,h=>by cases h
 |a::as,b::bs,c::cs,h1,h2=>by
  rw[gW] at h1 h2 ⊢
  by_cases e1:a=b
  ·subst e1
   rw[if_pos rfl] at h1
   by_cases e2:a=c
   ·rw[if_pos e2] at h2 ⊢;exact aEp as bs cs h1 h2
   ·rw[if_neg e2] at h2 ⊢;exact h2
  ·rw[if_neg e1] at h1
   have l1:=of_decide_eq_true h1
   by_cases e2:b=c
   ·subst e2
    rw[if_neg e1];exact h1
   ·rw[if_neg e2] at h2
    have l2:=of_decide_eq_true h2
    rw[if_neg (by omega)]
    exact decide_eq_true (by omega)
theorem aIl:∀as bs cs:List Int,v9 as cs=true->v9 as bs=true\/v9 bs cs=true
 |[],[],_,h=>.inr h
 |[],_::_,_,_=>.inl rfl
 |_::_,_,[],h=>by cases h
 |_::_,[],_::_,_=>.inr rfl
 |a::as,b::bs,c::cs,h=>by
  rw[gW] at h
  rw[gW,gW]
  by_cases e1:a=b
  ·subst e1
   rw[if_pos rfl]
   by_cases e2:a=c
   ·rw[if_pos e2] at h ⊢;exact aIl as bs cs h
   ·rw[if_neg e2] at h ⊢;exact .inr h
  ·rw[if_neg e1]
   by_cases e2:b=c
   ·subst e2
    rw[if_neg e1] at h
    exact .inl h
   ·rw[if_neg e2]
    by_cases l:a < b
    ·exact .inl (decide_eq_true l)
    ·refine .inr (decide_eq_true ?_)
     by_cases e3:a=c
     ·omega
     ·rw[if_neg e3] at h
      have:=of_decide_eq_true h
      omega
theorem aEq:∀as bs:List Int,v9 as bs=false->v9 bs as=false->as=bs
 |[],[],_,_=>rfl
 |[],_::_,h,_=>by cases h
 |_::_,[],_,h=>by cases h
 |a::as,b::bs,h1,h2=>by
  rw[gW] at h1 h2
  by_cases e:a=b
  ·subst e
   rw[if_pos rfl] at h1 h2
   rw[aEq as bs h1 h2]
  ·rw[if_neg e] at h1
   rw[if_neg (Ne.symm e)] at h2
   have:=of_decide_eq_false h1
   have:=of_decide_eq_false h2
   omega
def aJy:KeyOrd:=⟨List Int,v9,aDd,aEp,aIl,aEq⟩
theorem aBR:∀{ns:List Int}{its:List Value},Vals (ns.map V.int) its->IntsAre its ns
 |[],_,r=>by cases r;exact .nil
 |n::ns,_,r=>by
  cases r with
  |cons h t=>
   obtain⟨u,rfl⟩:=h
   exact .cons n u (aBR t)
inductive aAI (h:Heap):List Value->List (List Int)->Prop
 |nil:aAI h [] []
 |cons {x:Addr} {o:Obj} {xs:Array Value} {k:Nat} {t:List Int} {vs:List Value} {ts:List (List Int)} (e:h.get? x=some o) (c:o.cls=.type "tuple") (d:o.data=.seq xs k) (i:IntsAre xs.toList t) (ne:t≠[]) (r:aAI h vs ts):aAI h (.ref x::vs) (t::ts)
theorem aAI.length{vs:List Value}{ts:List (List Int)}(r:aAI h vs ts):vs.length=ts.length:=by
 induction r with
 |nil=>rfl
 |cons _ _ _ _ _ _ ih=>rw[Ra9,Ra9,ih]
theorem aAI.at_{h:Heap}{vs:List Value}{ts:List (List Int)}(r:aAI h vs ts):∀{j:Nat},j < vs.length->∃x o xs k,vs.getD j Value.none=.ref x/\h.get? x=some o/\o.data=.seq xs k/\IntsAre xs.toList (ts.getD j []):=by
 induction r with
 |nil=>intro j hj;simp at hj
 |cons e c d i ne r ih=>
  intro j hj
  cases j with
  |zero=>exact⟨_,_,_,_,rfl,e,d,i⟩
  |succ j=>exact ih (by simpa using hj)
theorem aAI.keeps{h h':Heap}{ts:List (List Int)}(r:aAI h vs ts)(k:∀(b:Addr) (o:Obj),o.cls=.type "tuple"->h.get? b=some o->h'.get? b=some o):aAI h' vs ts:=by
 induction r with
 |nil=>exact .nil
 |cons e c d i ne _ ih=>exact .cons (k _ _ c e) c d i ne ih
theorem aAI.aQ2{vs:List Value}{ts:List (List Int)}(r:aAI h vs ts):∃fs:List Value,KatTups h vs fs/\fs.length=vs.length/\∀v∈fs,∃n u,v=Value.int n u:=by
 induction r with
 |nil=>exact⟨[],.nil,rfl,λv z=>by cases z⟩
 |@cons x o xs k t vs ts e c d i ne _ ih=>
  obtain⟨fs,a1,a2,a3⟩:=ih
  obtain⟨n,u,hx⟩ : ∃n u,xs[0]?=some (Value.int n u):=by
   rw[<-Tu9]
   generalize xs.toList=l at i
   cases i with
   |nil=>exact absurd rfl ne
   |cons n u _=>exact⟨n,u,rfl⟩
  refine⟨.int n u::fs,.cons e c d hx a1,by rw[Ra9,Ra9,a2],λv z=>?_⟩
  rcases yF.mp z with z|z
  ·exact⟨n,u,z⟩
  ·exact a3 v z
section
variable{prog:Program}{w:World}{A:Around}{E:Value->Shared->Prop}{s:Shared}
theorem aIm{Q:Bool->Shared->Prop}:∀{xs ys:List Value}{as bs:List Int}{i:Nat}{fin:Bool},IntsAre xs as->IntsAre ys bs->fin=decide (as.length < bs.length)->Q (v9 as bs) s->KatLex prog w A true fin Q (xs.zip ys) i s
 |_,_,_,_,i,fin,.nil,.nil,hf,h=>kat_nil (by rw[hf];exact h)
 |_,_,_,_,i,fin,.nil,.cons _ _ _,hf,h=>kat_nil (by rw[hf];exact h)
 |_,_,_,_,i,fin,.cons _ _ _,.nil,hf,h=>kat_nil (by rw[hf];exact h)
 |_,_,_,_,i,fin,.cons a t r,.cons b u q,hf,h=>by
  refine kat_cons (wpAny_eqBool_int ?_)
  rw[gW] at h
  by_cases e:a=b
  ·rw[if_pos e] at h
   rw[show(a == b)=true by simp[e]]
   refine kat_yes (aIm r q ?_ h)
   rw[hf,Ra9,Ra9]
   congr 1
   apply propext
   constructor <;> intro z <;> omega
  ·rw[if_neg e] at h
   rw[show(a == b)=false by simp[e]]
   refine kat_no ?_
   cases i with
   |zero=>exact oneLt_int h
   |succ i=>
    rw[show(true && (i+1 == 0))=false by simp]
    exact kat_one _ _ (PyProof.Rows.lt_int h)
theorem aMU{ts:List (List Int)}(r:aAI s.heap vs ts):Ans (O:=aJy) (λi=>ts.getD i []) vs.length (kas_ask prog w A (tuples' true) vs) s:=λi j C hi hj h=>by
 obtain⟨x,ox,xs,n,e1,g1,d1,i1⟩:=r.at_ hi
 obtain⟨y,oy,ys,k,e2,g2,d2,i2⟩:=r.at_ hj
 unfold kas_ask
 rw[e1,e2]
 refine kat_lt g1 d1 g2 d2 (aIm i1 i2 ?_ h)
 rw[<-i1.length,<-i2.length,Rg9,Rg9]
def vE(vs:List Value)(p:Array Nat):Array Value:=List.toArray (p.toList.map λi=>vs.getD i Value.none)
theorem aGi{vs:List Value}{ts:List (List Int)}{n:Nat}{P:PySem.Fin->Shared->Prop}(ho:s.heap.get? a=some (seqObj "list" vs.toArray n))(hT:aAI s.heap vs ts)(h64:vs.length < 64)(h:∀p,Row vs.length p->Up (O:=aJy) (λi=>ts.getD i []) p vs.length->P (.done (.ret .none)) { s with heap:=sortedHeap s.heap a vs (vE vs p) }) :
  wpAny (model prog w) A (Builtin.«list.sort» ⟨[.ref a],[]⟩) P E s:=by
 rw[list_sort_plain]
 have la:=jY ho
 refine wpAny_bind (listItems_at ho rfl (wpAny_bind (listUpdate_at ho rfl ?_)))
 obtain⟨e1,g1⟩ : ∃e,(s.heap.update a (Obj.mapSeq λ_=>#[])).get? a=some (seqObj "list" #[] e):=⟨_,get?_update_seq ho λ_=>#[]⟩
 refine wpAny_bind (seqEpoch_at g1 rfl (wpAny_bind (wpAny_newTuple (wpAny_bind (wpAny_newList (wpAny_holding ?_))))))
 generalize hh6:((s.heap.update a (Obj.mapSeq λ_=>#[])).push (seqObj "tuple" vs.toArray 0)).push (seqObj "list" #[] 0)=h6
 have keep6:∀b o,b≠a->s.heap.get? b=some o->h6.get? b=some o:=λb o nb e=>by
  have lb:=jY e
  rw[<-hh6,Tr9 _ _ _ (vU (by rw[size_push',Te9];exact Sg9 lb)),Tr9 _ _ _ (vU (by rw[Te9];exact lb)),Heap.get?_update_ne _ _ _ _ nb]
  exact e
 have g6:h6.get? a=some (seqObj "list" #[] e1):=by
  rw[<-hh6,Tr9 _ _ _ (vU (by rw[size_push',Te9];exact Sg9 la)),Tr9 _ _ _ (vU (by rw[Te9];exact la))]
  exact g1
 have fin:∀p,Row vs.length p->Up (O:=aJy) (λi=>ts.getD i []) p vs.length->P (.done (.ret .none)) { s with heap:=h6.update a (Obj.mapSeq λ_=>vE vs p) }:=λp r u=>by
  rw[<-hh6]
  exact h p r u
 have T6:aAI h6 vs ts:=hT.keeps λb o c e=>keep6 b o (λz=>by rw[z,ho] at e;cases e;exact absurd c (show ¬Value.type "list" = Value.type "tuple" by decide)) e
 show wpAny (model prog w) A _ P E { s with heap:=h6 }
 have hvz:vs.toArray.size=vs.length:=lX
 dsimp only
 by_cases small:vs.toArray.size < 2
 ·rw[if_pos small,if_pos small]
  refine wpAny_bind (wpAny_pure ?_)
  rw[StateT.run_pure]
  refine wpAny_bind (wpAny_pure ?_)
  have ev:((vs.toArray.zip vs.toArray).map λx=>x.2)=vE vs (List.toArray (List.range vs.length)):=by
   unfold vE
   match vs,hvz,small with
   |[],_,_=>simp
   |[v],_,_=>simp
   |_::_::_,_,z=>simp at z;omega
  refine wpAny_bind (seqEpoch_at g6 rfl (wpAny_bind (listUpdate_at g6 rfl ?_ (hsz2:=?_))))
  ·simp only[bne_self_eq_false,Sc9,if_false]
   refine wpAny_pure ?_
   show P (.done (.ret .none)) { s with heap:=h6.update a (Obj.mapSeq λ_=>(vs.toArray.zip vs.toArray).map λx=>x.2) }
   rw[ev]
   exact fin _ (Array.Perm.refl _) λi j x y=>by
    have z:i=j:=by omega
    subst z
    exact KeyOrd.kle_refl _
  ·show((vs.toArray.zip vs.toArray).map λx=>x.2).size<=_
   rw[ev,vE,lX,bP,sizeLine_eq]
   simp
   omega
 ·rw[if_neg small,if_neg small]
  obtain⟨fs,f1,f2,f3⟩:=T6.aQ2
  refine wpAny_bind (kat_kind (s:={ s with heap:=h6 }) (T:=.type "int") f1 (by omega) (λv hv=>?_) rfl ?_)
  ·obtain⟨m,u,rfl⟩:=f3 v hv
   exact Looks.now
  rw[show(Value.type "int" != Value.type "tuple")=true by decide]
  refine wpAny_bind (wpAny_mono (kat_run (ks:=vs) (vs:=vs) (prog:=prog) (w:=w) (A:=A) (E:=E) (s:={ s with heap:=h6 }) (Q:=λst' s'=>s'={ s with heap:=h6 }/\∃p,p.size=vs.length/\arrOf st'=p.map (kas_item (vs.toArray.zip vs.toArray))/\failedOf st'=none/\Row vs.length p/\Up (O:=aJy) (λi=>ts.getD i []) p vs.length)
   (G:=λp s'=>s'={ s with heap:=h6 }/\Row vs.length p/\Up (O:=aJy) (λi=>ts.getD i []) p vs.length) rfl (by omega) h64 (λp st' s' hz har hf hG=>⟨hG.1,p,hz,har,hf,hG.2.1,hG.2.2⟩) (aOR (aMU (s:={ s with heap:=h6 }) T6) (by omega) λp r u=>⟨rfl,r,u⟩)) ?_ λ_ _ e=>e)
  rintro ⟨_,st'⟩ s' ⟨rfl,p,hz,har,hf,hr,hu⟩
  dsimp only at har hf ⊢
  have eo:=kat_snds (ks:=vs) (vs:=vs) rfl har
  refine wpAny_bind (seqEpoch_at g6 rfl (wpAny_bind (listUpdate_at g6 rfl ?_ (hsz2:=?_))))
  ·rw[hf]
   simp only[bne_self_eq_false,Sc9,if_false]
   refine wpAny_pure ?_
   show P (.done (.ret .none)) { s with heap:=h6.update a (Obj.mapSeq λ_=>(arrOf st').map (·.2)) }
   rw[eo]
   exact fin p hr hu
  ·show((arrOf st').map (·.2)).size<=_
   rw[eo,lX,bP,Rg9,hz,sizeLine_eq]
   omega
end
end L2
namespace L2
open PySem PySem.Spec PySem.W PyProof.Rows
theorem range_getD{α:Type}(d:α)(l:List α):(List.range l.length).map (λi=>l.getD i d)=l:=by
 apply List.ext_getElem
 ·simp
 ·intro i h1 h2
  simp[Qt9,dQ h2]
theorem aKl:∀{qs:List Addr}{its:List Value},Vals (qs.map V.ref) its->its=qs.map Value.ref
 |[],_,r=>by cases r;rfl
 |q::qs,_,r=>by
  cases r with
  |cons h t=>
   cases h
   rw[aKl t]
   rfl
theorem aBm:∀(qs:List Addr),Vals (qs.map V.ref) (qs.map Value.ref)
 |[]=>.nil
 |q::qs=>.cons rfl (aBm qs)
structure cP(H:Hp)(qs:List Addr)(ts:List (List Int)):Prop where
 len:qs.length=ts.length
 at_:∀(j:Nat) q t,qs[j]?=some q->ts[j]?=some t->H q=some (.tup (t.map V.int))/\t≠[]
theorem cP.tail{t:List Int}{ts:List (List Int)}(h:cP H (q::qs) (t::ts)):cP H qs ts:=⟨by have:=h.len;simpa using this,λj a b x y=>h.at_ (j+1) a b x y⟩
theorem cP.yI{s:Shared}(I:Inv X pins σ H s):∀{qs:List Addr}{ts:List (List Int)},cP H qs ts->aAI s.heap (qs.map Value.ref) ts
 |[],[],_=>.nil
 |[],_::_,h=>by have:=h.len;simp at this
 |_::_,[],h=>by have:=h.len;simp at this
 |q::qs,t::ts,h=>by
  obtain⟨e,ne⟩:=h.at_ 0 q t rfl rfl
  obtain⟨_,its,r,o,g1,g2,n,g3⟩:=(show cE X.prog X.w H s.heap q (.tup (t.map V.int)) from I.hok q _ e)
  exact .cons g1 g2 g3 (by simpa using aBR r) ne (cP.yI I h.tail)
section
variable{X:Cx}
def aJz:List V->Hp->VK->Prop:=λxs H Q=>∃(l:Addr) (qs:List Addr) (ts:List (List Int)),xs=[.ref l]/\H l=some (.lst (qs.map V.ref))/\cP H qs ts/\qs.length < 64/\
 ∀(p:Addr) (qs':List Addr) (ts':List (List Int)),H p=none->cP H qs' ts'->ts'.Perm ts->ts'.Pairwise (λa b=>v9 b a=false)->Q (.ref p) (upd H p (.lst (qs'.map V.ref)))
theorem aGQ:eC X (.builtin "sorted") aJz:=by
 intro pins s σ H xs us Q I r h
 obtain⟨l,qs,ts,rfl,hl,ht,h64,q⟩:=h
 obtain⟨u,rfl,ru⟩:=vals1 r
 cases ru
 obtain⟨z,its,n,rv,hlen,e⟩:=I.aMb hl
 obtain rfl:=aKl rv
 have hq:=ht.len
 have hv:(qs.map Value.ref).length=qs.length:=bP ..
 refine Calls.call_function_entry kind_sorted plain_sorted entry_sorted (args_sorted1 (.ref l)) ?_
 unfold Builtin.«sorted»
 refine wpAny_bind (m:=checkCount "sorted" 1 1 _) (wpAny_pure (wpAny_bind (collect_list (vs:=qs.map Value.ref) ⟨_,e,rfl,_,rfl⟩ (wpAny_bind (wpAny_newList ?_ (by rw[hv,sizeLine_eq];omega))) (by rw[hv,sizeLine_eq];omega))))
 generalize hh1:(s.heap.push (seqObj "list" #[] 0)).update s.heap.objs.size (Obj.mapSeq (·++ (qs.map Value.ref).toArray))=h1
 have z1:h1.objs.size=s.heap.objs.size+1:=by rw[<-hh1,Te9,size_push']
 have k1:∀b o,s.heap.get? b=some o->(h1.push (seqObj "list" (qs.map Value.ref).toArray 0)).get? b=some o:=λb o g=>by
  have lb:=jY g
  refine kO _ ?_
  rw[<-hh1,Heap.get?_update_ne _ _ _ _ (vU lb)]
  exact kO _ g
 have gD:(h1.push (seqObj "list" (qs.map Value.ref).toArray 0)).get? h1.objs.size=some (seqObj "list" (qs.map Value.ref).toArray 0):=yL _ rfl
 refine wpAny_bind (wpAny_holding (wpAny_call_entry (s:={ s with heap:=h1.push (seqObj "list" (qs.map Value.ref).toArray 0) }) slot_list_sort ⟨_,gD,rfl⟩ entry_list_sort (aGi gD ((ht.yI I).keeps λb o _ g=>k1 b o g) (by rw[hv];exact h64) λp hr hu=>⟨_,rfl,?_⟩) (args_list_sort (.ref h1.objs.size))))
 rw[hv] at hr hu
 have pl:p.toList.Perm (List.range qs.length):=by simpa using Sz9.mp hr
 have plen:p.toList.length=qs.length:=by have:=pl.length_eq;simpa using this
 have eo:(vE (qs.map Value.ref) p).toList=(p.toList.map λi=>qs.getD i 0).map Value.ref:=by
  unfold vE
  show p.toList.map (λi=>(qs.map Value.ref).getD i Value.none)=_
  rw[Rq9]
  refine Tf9 λi hi=>?_
  have li:i < qs.length:=Rs9.mp (pl.mem_iff.mp hi)
  show(qs.map Value.ref).getD i Value.none=Value.ref (qs.getD i 0)
  simp[Qt9,dQ li]
 refine wpAny_pure ⟨_,rfl,?_⟩
 obtain⟨c,hc2⟩:=sortedHeap_at (out:=vE (qs.map Value.ref) p) gD
 have T':cP H (p.toList.map λi=>qs.getD i 0) (p.toList.map λi=>ts.getD i []):=by
  refine⟨by rw[bP,bP],λj a b x y=>?_⟩
  rw[oR] at x y
  obtain⟨i,e1,e2⟩:=Qp9.mp x
  rw[e1] at y
  have li:i < qs.length:=Rs9.mp (pl.mem_iff.mp (oS e1))
  refine ht.at_ i a b ?_ ?_
  ·rw[<-e2];simp[Qt9,dQ li]
  ·cases y
   simp[Qt9,dQ (show i < ts.length by omega)]
 obtain⟨hn,I2⟩:=I.aPp (t':=s.toks) (h':=sortedHeap (h1.push (seqObj "list" (qs.map Value.ref).toArray 0)) h1.objs.size (qs.map Value.ref) (vE (qs.map Value.ref) p)) (a:=h1.objs.size) (o:=.lst ((p.toList.map λi=>qs.getD i 0).map V.ref)) (λb ob g=>by
   have lb:b < h1.objs.size:=by rw[z1];exact Sg9 (jY g)
   rw[sortedHeap_old (vU lb) (by rw[size_push'];exact Sg9 lb)]
   exact k1 b ob g) (λb ob g=>vU (by rw[z1];exact Sg9 (jY g)))
  ⟨by rw[bP,bP,plen,sizeLine_eq];omega,(p.toList.map λi=>qs.getD i 0).map Value.ref,c,aBm _,by rw[<-eo,Array.toArray_toList];exact hc2⟩
 refine⟨.ref h1.objs.size,_,I2,rfl,q _ _ _ hn T' ?_ ?_⟩
 ·have:=pl.map (λi=>ts.getD i [])
  rw[hq,range_getD] at this
  exact this
 ·rw[List.pairwise_iff_getElem]
  intro i j hi hj hij
  rw[bP,plen] at hi hj
  have key:∀k (hk:k < p.toList.length),(p.toList.map λi=>ts.getD i [])[k]'(by rw[bP];exact hk)=kq (O:=aJy) (λi=>ts.getD i []) p k:=λk hk=>by
   rw[List.getElem_map]
   unfold kq
   have:p.getD k 0=p.toList[k]:=by
    have hk':k < p.size:=by simpa using hk
    simp[Array.getD,hk']
   rw[this]
  rw[key i (by omega),key j (by omega)]
  exact hu i j (by omega) hj
theorem aMV{H:Hp}{Q:VK}{l:Addr}{qs:List Addr}{ts:List (List Int)}(h1:H l=some (.lst (qs.map V.ref)))(h2:cP H qs ts)(h3:qs.length < 64)
  (h:∀(p:Addr) (qs':List Addr) (ts':List (List Int)),H p=none->cP H qs' ts'->ts'.Perm ts->ts'.Pairwise (λa b=>v9 b a=false)->Q (.ref p) (upd H p (.lst (qs'.map V.ref)))):aJz [.ref l] H Q:=⟨l,qs,ts,rfl,h1,h2,h3,h⟩
end
end L2
namespace L2
open PySem PySem.Spec PyProof.Rows
section
variable{prog:Program}{w:World}{A:Around}{E:Value->Shared->Prop}{s:Shared}{es:Array DictEntry}{d it vw:Addr}{i ep:Nat}
def Raw(h:Heap)(d:Addr)(es:Array DictEntry)(ep:Nat):Prop:=∃o,h.get? d=some o/\o.cls=.type "dict"/\o.data=.dict es ep
theorem Raw.ty(m:Raw s.heap d es ep):s.TypeIs (.ref d) "dict":=let ⟨o,a,b,_⟩:=m;⟨o,a,b⟩
theorem Raw.keep{h h':Heap}(m:Raw h d es ep)(k:∀o,h.get? d=some o->h'.get? d=some o):Raw h' d es ep:=let ⟨o,a,r⟩:=m;⟨o,k o a,r⟩
theorem aLg(d:Addr)(lo:(d == sysModules)=false):MeetsIn prog w (Builtin.«dict.items» ⟨[.ref d],[]⟩) (λ_ R s=>s.TypeIs (.ref d) "dict"/\
  R (.ok (.ret (.ref s.heap.objs.size))) { s with heap:=s.heap.push { cls:=.type "dict_items",data:=.fields #[.ref d] } }):=
 .of_wp λA R s ⟨ty,h⟩=>by
  unfold Builtin.«dict.items»;with_reducible refine wpAny_bind ?_;unfold Builtin.Dict.noArgs
  refine wpAny_bind (wpAny_notOrdered_dict ty (show wpAny _ _ (pure d) _ _ s from wpAny_pure ?_))
  show wpAny _ _ (Builtin.Dict.showsAll d >>= _) _ _ s;unfold Builtin.Dict.showsAll
  rw[if_neg (λz=>Qr9 (lo.symm.trans z))];refine wpAny_bind (wpAny_pure ?_)
  exact wpAny_bind (wpAny_newObj_type (wpAny_pure (show _ from⟨_,rfl,h⟩)))
theorem aFn{Q:Value->Shared->Prop}(hv:s.heap.IsItemsView vw d)(hm:Raw s.heap d es ep)
  (hQ:Q (.ref s.heap.objs.size) { s with heap:=s.heap.push { cls:=.type "dict_itemiterator",data:=.fields #[.none,.bool false,.ref d,.int 0 0,.int es.size 0,.int ep 0,.none,.none] } }) :
  wpAny (model prog w) A (pyIter (.ref vw)) Q E s:=by
 obtain⟨ov,a1,a2,a3⟩:=id hv;obtain⟨o,b1,b2,b3⟩:=id hm
 refine wpAny_pyIter_slot hv.typeIs F.slot_dict_items_iter (wpAny_call_entry F.slot_dict_items_iter hv.typeIs F.entry_dict_items_iter (show _ from ?_) (F.args_dict_items_iter_1 _))
 unfold Builtin.«dict_items.__iter__»;refine wpAny_bind (wpAny_pure ?_);with_reducible refine wpAny_bind ?_
 unfold Builtin.Dict_items.dictOf;refine wpAny_bind (wpAny_field a1 a3 (x:=.ref d) rfl (wpAny_pure ?_));with_reducible refine wpAny_bind ?_
 unfold Builtin.Dict_items.newIterator;refine wpAny_bind (wpAny_dictEntries b1 b3 (wpAny_bind (wpAny_dictEpoch b1 b3 ?_)))
 have own:Builtin.Dict_items.ownsTuple "dict_itemiterator" = true:=rfl
 simp only[own,if_true]
 refine wpAny_newObj_type (wpAny_pure ⟨_,rfl,"dict_itemiterator",_,⟨_,yL _ rfl,rfl⟩,F.slot_dict_itemiterator_next.lookup,(show _ from ?_)⟩)
  (by simp only[sizeOk,Builtin.Dict_items.ownedTupleFields,lX,oU,Ra9,Tz9,sizeLine_eq];decide)
 simpa [Builtin.Dict_items.ownedTupleFields,rawInt] using hQ
theorem aGR{Q:Value->Shared->Prop}(lo:(d == sysModules)=false)(hm:Raw s.heap d es ep)
  (hQ:Q (.ref s.heap.objs.size) { s with heap:=s.heap.push { cls:=.type "dict_keyiterator",data:=.fields #[.ref d,.int 0 0,.int es.size 0,.int ep 0] } }) :
  wpAny (model prog w) A (pyIter (.ref d)) Q E s:=by
 obtain⟨o,b1,b2,b3⟩:=id hm
 refine wpAny_pyIter_slot hm.ty F.slot_dict_iter (wpAny_call_entry F.slot_dict_iter hm.ty F.entry_dict_iter (show _ from ?_) (F.args_dict_iter_1 _))
 unfold Builtin.«dict.__iter__»;with_reducible refine wpAny_bind ?_;unfold Builtin.Dict.dictSlotNone
 refine wpAny_bind (wpAny_notOrdered_dict hm.ty (show wpAny _ _ (pure (Value.ref d)) _ _ s from wpAny_pure ?_))
 show wpAny _ _ (Builtin.Dict.showsAll d >>= _) _ _ s;unfold Builtin.Dict.showsAll
 rw[if_neg (λz=>Qr9 (lo.symm.trans z))];refine wpAny_bind (wpAny_pure ?_)
 refine wpAny_bind (wpAny_dictEntries b1 b3 (wpAny_bind (wpAny_dictEpoch b1 b3 ?_)))
 refine wpAny_bind (wpAny_newObj_type (wpAny_pure ⟨_,rfl,"dict_keyiterator",_,⟨_,yL _ rfl,rfl⟩,F.slot_dict_keyiterator_next.lookup,(show _ from ?_)⟩))
 simpa [rawInt] using hQ
def It4(T:String)(h:Heap)(it d:Addr)(i n ep:Nat):Prop:=∃o,h.get? it=some o/\o.cls=.type T/\o.data=.fields #[.ref d,.int i 0,.int n 0,.int ep 0]
theorem It4.ty{n:Nat}(x:It4 T s.heap it d i n ep):s.TypeIs (.ref it) T:=let ⟨o,a,b,_⟩:=x;⟨o,a,b⟩
theorem It4.keep{n:Nat}{h h':Heap}(m:It4 T h it d i n ep)(k:∀o,h.get? it=some o->h'.get? it=some o):It4 T h' it d i n ep:=let ⟨o,a,r⟩:=m;⟨o,k o a,r⟩
theorem It4.turn{n:Nat}{h:Heap}{o:Obj}(a:h.get? it=some o)(b:o.cls=.type T)(c:o.data=.fields #[.ref d,.int i 0,.int n 0,.int ep 0]) :
  It4 T (h.update it (Obj.mapFields (·.setIfInBounds 1 (rawInt ((i:Int)+1))))) it d (i+1) n ep:=
 ⟨_,Sl9 _ a (Obj.isFreed_of_fields (Obj.data_mapFields c _)),(Obj.cls_mapFields ..).trans b,by rw[Obj.data_mapFields c];simp[rawInt]⟩
theorem aIn{Q:Option Value->Shared->Prop}{e:DictEntry}(hit:It4 "dict_keyiterator" s.heap it d i es.size ep)(hm:Raw s.heap d es ep)(hx:es[i]?=some e)
  (hQ:∀h',It4 "dict_keyiterator" h' it d (i+1) es.size ep->Heap.SameBut it s.heap h'->Q (some e.key) { s with heap:=h' }):wpAny (model prog w) A (pyNext (.ref it)) Q E s:=by
 obtain⟨o,a1,a2,a3⟩:=id hit;obtain⟨od,b1,b2,b3⟩:=id hm;have ty:=hit.ty
 unfold pyNext;refine wpAny_bind (wpAny_attempt (wpAny_callSpecial?_slot (name:=Str.ofString "__next__") ty F.slot_dict_keyiterator_next
  (wpAny_call_entry F.slot_dict_keyiterator_next ty F.entry_dict_keyiterator_next (show _ from ?_) (F.args_dict_keyiterator_next_1 _))))
 refine wpAny_bind (wpAny_pure ?_);refine wpAny_bind (show _ from ?_);refine wpAny_bind (show _ from ?_)
 first|refine wpAny_bind (wpAny_typeNameOfWhole_keyiter ty (show _ from wpAny_pure ?_))|refine wpAny_bind (wpAny_typeNameOf_keyiter ty (show _ from wpAny_pure ?_))
 refine wpAny_bind (wpAny_fieldsOf a1 a3 (show _ from ?_));have own:Builtin.Dict_items.ownsTuple "dict_keyiterator" = false:=rfl
 simp only[own,if_false,Sc9];show wpAny _ _ (if (Value.ref d == Value.none)=true then _ else _) _ _ s
 rw[if_neg (show ¬((Value.ref d == Value.none)=true) from λz=>nomatch z)];refine wpAny_bind (wpAny_pure ?_)
 refine wpAny_bind (wpAny_dictEntries b1 b3 (show _ from ?_));rw[if_neg (show _ from by simp)];refine wpAny_bind (wpAny_pure ?_)
 refine wpAny_bind (wpAny_dictEpoch b1 b3 (show _ from ?_));rw[if_neg (show _ from by simp)];refine wpAny_pure (show _ from ?_)
 have il:i < es.size:=(Array.getElem?_eq_some_iff.mp hx).1
 have ee:es[i]=e:=(Array.getElem?_eq_some_iff.mp hx).2
 simp only[show ¬((i:Int) < 0) by omega,if_false,Re9,hx]
 refine wpAny_bind (show _ from ?_)
 first|refine wpAny_bind (wpAny_typeNameOfWhole_keyiter ty (show _ from wpAny_pure ?_))|refine wpAny_bind (wpAny_typeNameOf_keyiter ty (show _ from wpAny_pure ?_))
 refine wpAny_bind (wpAny_isOneOf_keyiter ty (show _ from ?_));show wpAny _ _ (setField (.ref it) 1 (rawInt ((i:Int)+1)) >>= _) _ _ s
 refine wpAny_bind (wpAny_setField a1 a3 (show _ by simp) (show _ from ?_));have t2:=It4.turn a1 a2 a3
 refine wpAny_bind (wpAny_holding (show _ from ?_))
 refine wpAny_bind (wpAny_isOneOf_keyiter (s:={ s with heap:=s.heap.update it (Obj.mapFields (·.setIfInBounds 1 (rawInt ((i:Int)+1)))) }) t2.ty (show _ from ?_))
 exact wpAny_pure (wpAny_pure ⟨_,rfl,wpAny_pure (hQ _ t2 (Heap.SameBut.update ..))⟩)
theorem aJA{Q:Option Value->Shared->Prop}(hh:A.handled=none)(hit:It4 "dict_keyiterator" s.heap it d i es.size ep)(hm:Raw s.heap d es ep)(hx:es.size<=i)
  (hQ:∀h',Heap.ExtBut it s.heap h'->Q none { s with heap:=h' }):wpAny (model prog w) A (pyNext (.ref it)) Q E s:=by
 obtain⟨o,a1,a2,a3⟩:=id hit;obtain⟨od,b1,b2,b3⟩:=id hm;have ty:=hit.ty
 unfold pyNext;refine wpAny_bind (wpAny_attempt (wpAny_callSpecial?_slot (name:=Str.ofString "__next__") ty F.slot_dict_keyiterator_next
  (wpAny_call_entry F.slot_dict_keyiterator_next ty F.entry_dict_keyiterator_next (show _ from ?_) (F.args_dict_keyiterator_next_1 _))))
 refine wpAny_bind (wpAny_pure ?_);refine wpAny_bind (show _ from ?_);refine wpAny_bind (show _ from ?_)
 first|refine wpAny_bind (wpAny_typeNameOfWhole_keyiter ty (show _ from wpAny_pure ?_))|refine wpAny_bind (wpAny_typeNameOf_keyiter ty (show _ from wpAny_pure ?_))
 refine wpAny_bind (wpAny_fieldsOf a1 a3 (show _ from ?_));have own:Builtin.Dict_items.ownsTuple "dict_keyiterator" = false:=rfl
 simp only[own,if_false,Sc9];show wpAny _ _ (if (Value.ref d == Value.none)=true then _ else _) _ _ s
 rw[if_neg (show ¬((Value.ref d == Value.none)=true) from λz=>nomatch z)];refine wpAny_bind (wpAny_pure ?_)
 refine wpAny_bind (wpAny_dictEntries b1 b3 (show _ from ?_));rw[if_neg (show _ from by simp)];refine wpAny_bind (wpAny_pure ?_)
 refine wpAny_bind (wpAny_dictEpoch b1 b3 (show _ from ?_));rw[if_neg (show _ from by simp)];refine wpAny_pure (show _ from ?_)
 simp only[show ¬((i:Int) < 0) by omega,if_false,Re9,Array.getElem?_eq_none hx]
 refine wpAny_bind (show _ from ?_)
 first|refine wpAny_bind (wpAny_typeNameOfWhole_keyiter ty (show _ from wpAny_pure ?_))|refine wpAny_bind (wpAny_typeNameOf_keyiter ty (show _ from wpAny_pure ?_))
 show wpAny _ _ (setField (.ref it) 0 Value.none >>= _) _ _ s
 refine wpAny_bind (wpAny_setField a1 a3 (show _ by simp) (show _ from ?_));show wpAny _ _ (newExc (.type "StopIteration") [] >>= _) _ _ _
 refine wpAny_bind (show _ from ?_);simp only[newExc,newTuple];refine wpAny_bind (wpAny_newObj_type (show _ from ?_) (by size_fits))
 refine wpAny_bind (m:=firstArgMember _ _) (wpAny_of_eq (a:=Value.none) (show _ by first|rfl|(simp only[firstArgMember];rfl)) (show _ from ?_))
 refine wpAny_newObj_type (show _ from ?_) (by size_fits);simp only[raiseNew]
 refine wpAny_bind (wpAny_handled (show _ from ?_));rw[show A.in1.handled=none from hh];refine wpAny_bind (wpAny_pure (wpAny_throw ?_))
 refine wpAny_bind (wpAny_isInstance (T:="StopIteration") (b:=true) ⟨_,yL _ rfl,rfl⟩ isSubtype_stop (show _ from ?_))
 exact wpAny_pure (hQ _ (show _ from((Heap.SameBut.update ..).extBut.push _).push _))
theorem aGS{Q:Option Value->Shared->Prop}{e:DictEntry}(hit:IsItemIter s.heap it d i es.size ep ok ov)(hm:Raw s.heap d es ep)(hx:es[i]?=some e)(hQ:∀h',IsItemIterOut h' it d (i+1) es.size ep e.key e.val s.heap.objs.size->h'.get? s.heap.objs.size=some { cls:=.type "tuple",data:=.seq #[e.key,e.val] }->
   h'.objs.size=s.heap.objs.size+1->(∀b o,b≠it->s.heap.get? b=some o->h'.get? b=some o)->Q (some (.ref s.heap.objs.size)) { s with heap:=h' }) :
  wpAny (model prog w) A (pyNext (.ref it)) Q E s:=by
 obtain⟨hp,g,dr,tk,os⟩:=s;obtain⟨od,b1,b2,b3⟩:=id hm
 have ty:Shared.TypeIs ⟨hp,g,dr,tk,os⟩ (.ref it) "dict_itemiterator":=⟨_,hit,rfl⟩
 unfold pyNext;refine wpAny_bind (wpAny_attempt (wpAny_callSpecial?_slot (name:=Str.ofString "__next__") ty F.slot_dict_itemiterator_next
  (wpAny_call_entry F.slot_dict_itemiterator_next ty F.entry_dict_itemiterator_next (show _ from ?_) (F.args_dict_itemiterator_next_1 _))))
 refine wpAny_bind (wpAny_pure ?_);refine wpAny_bind (show _ from ?_);refine wpAny_bind (show _ from ?_)
 first|refine wpAny_bind (wpAny_typeNameOfWhole_itemiter ty (show _ from wpAny_pure ?_))|refine wpAny_bind (wpAny_typeNameOf_itemiter ty (show _ from wpAny_pure ?_))
 refine wpAny_bind (wpAny_fieldsOf hit rfl (show _ from ?_));have own:Builtin.Dict_items.ownsTuple "dict_itemiterator" = true:=rfl
 simp only[own,if_true];show wpAny _ _ (if (Value.ref d == Value.none)=true then _ else _) _ _ _
 rw[if_neg (show ¬((Value.ref d == Value.none)=true) from λz=>nomatch z)];refine wpAny_bind (wpAny_pure ?_)
 refine wpAny_bind (wpAny_dictEntries b1 b3 (show _ from ?_));rw[if_neg (show _ from by simp)];refine wpAny_bind (wpAny_pure ?_)
 refine wpAny_bind (wpAny_dictEpoch b1 b3 (show _ from ?_));rw[if_neg (show _ from by simp)];refine wpAny_pure (show _ from ?_)
 simp only[show ¬((i:Int) < 0) by omega,if_false,Re9,hx]
 refine wpAny_bind (show _ from ?_)
 first|refine wpAny_bind (wpAny_typeNameOfWhole_itemiter ty (show _ from wpAny_pure ?_))|refine wpAny_bind (wpAny_typeNameOf_itemiter ty (show _ from wpAny_pure ?_))
 refine wpAny_bind (wpAny_isOneOf_itemiter ty (show _ from ?_));show wpAny _ _ (setField (.ref it) 3 (rawInt ((i:Int)+1)) >>= _) _ _ _
 refine wpAny_bind (wpAny_setField_rec hit (show _ by simp) λj1 c1 d1=>(show _ from ?_))
 replace d1:Heap.SameBut it hp j1:=d1
 replace c1:IsItemIter j1 it d (i+1) es.size ep ok ov:=by
  unfold IsItemIter;rw[show((i+1:Nat):Int)=(i:Int)+1 by omega];simpa [rawInt] using c1
 have ty1:Shared.TypeIs ⟨j1,g,dr,tk,os⟩ (.ref it) "dict_itemiterator":=⟨_,c1,rfl⟩
 refine wpAny_bind (wpAny_holding (show _ from ?_));refine wpAny_bind (wpAny_isOneOf_itemiter ty1 (wpAny_bind (wpAny_isOneOf_itemiter ty1 (show _ from ?_))))
 show wpAny _ _ (Builtin.Dict_items.pairFromOwner (.ref it) 6 e.key e.val) _ _ ⟨j1,g,dr,tk,os⟩;unfold Builtin.Dict_items.pairFromOwner
 refine wpAny_bind (wpAny_newTuple (show _ from ?_))
 have c2:IsItemIter (j1.push { cls:=.type "tuple",data:=.seq #[e.key,e.val] }) it d (i+1) es.size ep ok ov:=kO _ c1
 generalize hj2:j1.push { cls:=.type "tuple",data:=.seq #[e.key,e.val] } = j2 at c2
 have z1:j1.objs.size=hp.objs.size:=d1.1
 have il:it < hp.objs.size:=jY hit
 have t2:j2.get? hp.objs.size=some { cls:=.type "tuple",data:=.seq #[e.key,e.val] }:=by rw[<-hj2,<-z1];exact yL _ rfl
 have z2:j2.objs.size=hp.objs.size+1:=by rw[<-hj2,Rv9,z1]
 have k2:∀b o,b≠it->hp.get? b=some o->j2.get? b=some o:=λb o hb q=>by rw[<-hj2];exact kO _ (d1.extBut b o hb q)
 show wpAny _ _ (Builtin.Dict_items.ownedTupleIsFree (.ref it) >>= _) _ _ ⟨j2,g,dr,tk,os⟩;rw[z1];clear hj2 c1 d1 ty1 z1 j1
 refine wpAny_bind (show _ from ?_);unfold Builtin.Dict_items.ownedTupleIsFree;refine wpAny_bind (wpAny_field c2 rfl (x:=.none) rfl (show _ from wpAny_pure ?_))
 simp only[if_true];refine wpAny_bind (wpAny_field c2 rfl (x:=ok) rfl (wpAny_bind (wpAny_field c2 rfl (x:=ov) rfl (show _ from ?_))))
 refine wpAny_bind (wpAny_setField_rec c2 (show _ by simp) λj3 c3 d3=>(show _ from ?_))
 replace d3:Heap.SameBut it j2 j3:=d3;replace c3:IsItemIter j3 it d (i+1) es.size ep e.key ov:=c3
 refine wpAny_bind (wpAny_setField_rec c3 (show _ by simp) λj4 c4 d4=>(show _ from ?_))
 replace d4:Heap.SameBut it j3 j4:=d4;replace c4:IsItemIter j4 it d (i+1) es.size ep e.key e.val:=c4
 refine wpAny_bind (wpAny_setField_rec c4 (show _ by simp) λj5 c5 d5=>(show _ from ?_))
 replace d5:Heap.SameBut it j4 j5:=d5;replace c5:IsItemIterOut j5 it d (i+1) es.size ep e.key e.val hp.objs.size:=c5
 refine wpAny_bind (wpAny_setField_rec c5 (show _ by simp) λj6 c6 d6=>(show _ from ?_))
 replace d6:Heap.SameBut it j5 j6:=d6;replace c6:IsItemIterOut j6 it d (i+1) es.size ep e.key e.val hp.objs.size:=c6
 have up:∀b o,b≠it->j2.get? b=some o->j6.get? b=some o:=λb o hb q=>d6.extBut b o hb (d5.extBut b o hb (d4.extBut b o hb (d3.extBut b o hb q)))
 refine wpAny_bind (wpAny_letGo (wpAny_pure (wpAny_pure ⟨_,rfl,wpAny_pure (hQ j6 c6 (up _ _ (Se9 il) t2) ?_ λb o hb q=>up b o hb (k2 b o hb q))⟩)))
 show j6.objs.size=_;rw[d6.1,d5.1,d4.1,d3.1,z2]
theorem aIo{Q:Option Value->Shared->Prop}(hh:A.handled=none)(hit:IsItemIter s.heap it d i es.size ep ok ov)(hm:Raw s.heap d es ep)(hx:es.size<=i)(hQ:∀h',Heap.ExtBut it s.heap h'->Q none { s with heap:=h' }):wpAny (model prog w) A (pyNext (.ref it)) Q E s:=by
 obtain⟨od,b1,b2,b3⟩:=id hm;have ty:s.TypeIs (.ref it) "dict_itemiterator":=⟨_,hit,rfl⟩
 unfold pyNext;refine wpAny_bind (wpAny_attempt (wpAny_callSpecial?_slot (name:=Str.ofString "__next__") ty F.slot_dict_itemiterator_next
  (wpAny_call_entry F.slot_dict_itemiterator_next ty F.entry_dict_itemiterator_next (show _ from ?_) (F.args_dict_itemiterator_next_1 _))))
 refine wpAny_bind (wpAny_pure ?_);refine wpAny_bind (show _ from ?_);refine wpAny_bind (show _ from ?_)
 first|refine wpAny_bind (wpAny_typeNameOfWhole_itemiter ty (show _ from wpAny_pure ?_))|refine wpAny_bind (wpAny_typeNameOf_itemiter ty (show _ from wpAny_pure ?_))
 refine wpAny_bind (wpAny_fieldsOf hit rfl (show _ from ?_));have own:Builtin.Dict_items.ownsTuple "dict_itemiterator" = true:=rfl
 simp only[own,if_true];show wpAny _ _ (if (Value.ref d == Value.none)=true then _ else _) _ _ _
 rw[if_neg (show ¬((Value.ref d == Value.none)=true) from λz=>nomatch z)];refine wpAny_bind (wpAny_pure ?_)
 refine wpAny_bind (wpAny_dictEntries b1 b3 (show _ from ?_));rw[if_neg (show _ from by simp)];refine wpAny_bind (wpAny_pure ?_)
 refine wpAny_bind (wpAny_dictEpoch b1 b3 (show _ from ?_));rw[if_neg (show _ from by simp)];refine wpAny_pure (show _ from ?_)
 simp only[show ¬((i:Int) < 0) by omega,if_false,Re9,Array.getElem?_eq_none hx]
 refine wpAny_bind (show _ from ?_)
 first|refine wpAny_bind (wpAny_typeNameOfWhole_itemiter ty (show _ from wpAny_pure ?_))|refine wpAny_bind (wpAny_typeNameOf_itemiter ty (show _ from wpAny_pure ?_))
 show wpAny _ _ (setField (.ref it) 2 Value.none >>= _) _ _ s
 refine wpAny_bind (wpAny_setField hit rfl (show _ by simp) (show _ from ?_));show wpAny _ _ (newExc (.type "StopIteration") [] >>= _) _ _ _
 refine wpAny_bind (show _ from ?_);simp only[newExc,newTuple];refine wpAny_bind (wpAny_newObj_type (show _ from ?_) (by size_fits))
 refine wpAny_bind (m:=firstArgMember _ _) (wpAny_of_eq (a:=Value.none) (show _ by first|rfl|(simp only[firstArgMember];rfl)) (show _ from ?_))
 refine wpAny_newObj_type (show _ from ?_) (by size_fits);simp only[raiseNew]
 refine wpAny_bind (wpAny_handled (show _ from ?_));rw[show A.in1.handled=none from hh];refine wpAny_bind (wpAny_pure (wpAny_throw ?_))
 refine wpAny_bind (wpAny_isInstance (T:="StopIteration") (b:=true) ⟨_,yL _ rfl,rfl⟩ isSubtype_stop (show _ from ?_))
 exact wpAny_pure (hQ _ (show _ from((Heap.SameBut.update ..).extBut.push _).push _))
end
end L2
namespace L2
open PySem PySem.Spec PyProof.Rows
section
variable{X:Cx}{pins:List (Addr×Obj)}{σ:St}{H:Hp}{s:Shared}
theorem Inv.aOS{d:Addr}{kvs:List (List Key×V)}{o:Obj}(I:Inv X pins σ H s)(e:H d=some (.dT kvs))(ho:s.heap.get? d=some o):Inv X pins σ (upd H d (.frz o (.dT kvs))) s:=by
 have nd:∀b u,H b=some u->u≠.dT kvs->b≠d:=λb u q n z=>by rw[z,e] at q;exact n (Option.some.inj q).symm
 refine I.step (h':=s.heap) (g':=s.gens) (d':=s.drawn) (t':=s.toks) (ch:=[]) (λ_ z=>nomatch z) (λb u _ _ _ q _=>q) (λb u _ _ _ q _=>⟨u.slots,q⟩) (λb u _ _ n=>?_)
  (λb u _ q=>⟨u,q⟩) (λb xs q=>?_) (λb u v q=>?_) (λb ps q=>⟨#[],?_⟩) (λm hm=>hm) (λb u q=>?_) I.bare
 ·rw[bB (λz=>by rw[z,e] at n;cases n)];exact n
 ·rw[bB (nd _ _ q (λz=>by cases z))];exact q
 ·rw[bB (nd _ _ q (λz=>by cases z))];exact q
 ·rw[bB (nd _ _ q (λz=>by cases z)),q];simp
 ·have st:∀c v,H c=some v->cE X.prog X.w H s.heap c v->cE X.prog X.w (upd H d (.frz o (.dT kvs))) s.heap c v:=λc v _ z=>
   z.aAF (λ_ _ _ z=>z) (λc z=>by rw[bB (nd _ _ z (λy=>by cases y))];exact z) λc xs t z=>by rw[bB (nd _ _ z (λy=>by subst y;exact t))];exact z
  by_cases hb:b=d
  ·subst hb;rw[aN] at q;cases q;exact⟨ho,st b _ e (I.hok b _ e)⟩
  ·rw[bB hb] at q
   exact st b u q (I.hok b u q)
end
theorem aGT{H:Hp}:∀{kvs:List (List Key×V)}{xs:List (List Key×Addr×Value)},KT H kvs xs->∀{i:Nat}{p:List Key×V},kvs[i]?=some p->∃q,xs[i]?=some q/\H q.2.1=some (.tup (p.1.map kV))/\RelV p.2 q.2.2
 |[],_,r,i,p,h=>by simp at h
 |a::as,_,r,i,p,h=>by
  cases r with
  |cons x t=>
   cases i with
   |zero=>cases h;exact⟨_,rfl,x.2⟩
   |succ i=>exact aGT t (i:=i) h
theorem aJB{h:Heap}{kvs:List (List Key×V)}(x:cE P w H h d (.dT kvs)):(d == sysModules)=false/\∃(o:Obj) (es:Array DictEntry) (ep:Nat) (xs:List (List Key×Addr×Value)),
  h.get? d=some o/\o.ExactDict/\o.data=.dict es ep/\KT H kvs xs/\es.toList=xs.map (entryOfKey (tupleKind (eV P w)))/\es.size=kvs.length:=by
 obtain⟨z,y,xs,r,o,es,ep,h1,h2,h3,h4,h5⟩:=x
 refine⟨y,o,es,ep,xs,h1,h2,h3,r,h4,?_⟩
 rw[size_of_entries h4]
 exact(Paired.length r).symm
def Iti(d:Addr)(o:Obj)(kvs:List (List Key×V)):It:=
 ⟨λi H=>H d=some (.frz o (.dT kvs))/\i < kvs.length,λi H x H'=>∃T b kv,H T=none/\x=.ref T/\kvs[i]?=some kv/\H b=some (.tup (kv.1.map kV))/\H'=upd H T (.tup [.ref b,kv.2]),λi H=>H d=some (.frz o (.dT kvs))/\kvs.length<=i⟩
theorem aDC:entryFor table "dict_itemiterator.__iter__" = some Builtin.«dict_keyiterator.__iter__»:=PySem.entryFor_alias (id':="dict_keyiterator.__iter__") (by kernel_rfl) rfl (by decide +kernel) (show _ by kernel_rfl)
theorem aJC{P:Program}{w:World}{K:PySem.W.Frag}{elts:List Expr}{x1:Nat}{tp:Pos}(d it:Addr)(o:Obj)(kvs:List (List Key×V))(es:Array DictEntry)(ep:Nat)(hc0:o.cls=.type "dict")(hd0:o.data=.dict es ep)(hn:es.size=kvs.length) :
  Turn P w K (.Tuple elts x1 tp) (Iti d o kvs) [it] it (λi h=>∃ok ov,IsItemIter h it d i es.size ep ok ov) where
 mem:=by simp
 obj:=λi h st b hb=>by
  obtain⟨ok,ov,he⟩:=st
  have z:b=it:=by simpa using hb
  subst z
  exact⟨_,he,λv z=>by cases z⟩
 keep:=λi h h' st k=>by
  obtain⟨ok,ov,he⟩:=st
  exact⟨ok,ov,k it (by simp) _ he⟩
 item:=by
  intro X hP hw hK hc i pins s σ H E I hf st hg
  subst hP hw hK
  obtain⟨ok,ov,he⟩:=st
  obtain⟨hd,hi⟩:=hg
  have hO:cE X.prog X.w H s.heap d (.frz o (.dT kvs)):=I.hok d _ hd
  obtain⟨ho,hO⟩:=hO
  obtain⟨lo,o',es',ep',xs,g1,g2,g3,rel,g4,g5⟩:=aJB hO
  have eo:o'=o:=Option.some.inj (g1.symm.trans ho)
  subst eo
  have ee:es'=es/\ep'=ep:=by rw[hd0] at g3;injection g3 with a b;exact⟨a.symm,b.symm⟩
  obtain⟨e1,e2⟩:=ee
  subst e1 e2
  have raw:Raw s.heap d es' ep':=⟨o',ho,hc0,hd0⟩
  have hx:kvs[i]?=some kvs[i]:=dQ hi
  obtain⟨q,hq,hb,rv⟩:=aGT rel hx
  have hex:es'[i]?=some (entryOfKey (tupleKind (eV X.prog X.w)) q):=by rw[entry_at g4,hq];rfl
  have hilt:it < s.heap.objs.size:=jY he
  refine aGS he raw hex λh1 h2' hT hsz hk=>?_
  refine⟨_,rfl,wpAny_letOwnedTupleGo_items h2' λh2 he2 hs2=>?_⟩
  replace hs2:Heap.SameBut it h1 h2:=hs2
  have hT2:h2.IsTuple s.heap.objs.size #[.ref q.2.1,q.2.2]:=⟨_,(hs2.2 _ (Se9 hilt)).trans hT,rfl,_,rfl⟩
  have kk:∀b o,b∉[it]->s.heap.get? b=some o->h2.get? b=some o:=λb o hb q=>by
   have n1:b≠it:=λz=>hb (by simp[z])
   exact(hs2.2 b n1).trans (hk b o n1 q)
  have I2:Inv X pins σ (upd H s.heap.objs.size (.tup [.ref q.2.1,kvs[i].2])) { s with heap:=h2,toks:=s.toks }:=
   I.aCH kk hf (gB _) (show cE X.prog X.w _ h2 _ (.tup [.ref q.2.1,kvs[i].2]) from⟨cF (by simp),[.ref q.2.1,q.2.2],.cons rfl (.cons rv .nil),hT2⟩)
  have hfr:H s.heap.objs.size=none:=I.hok.fresh (gB _)
  refine⟨.ref s.heap.objs.size,_,I2,rfl,⟨_,q.2.1,kvs[i],hfr,rfl,hx,hb,rfl⟩,⟨_,_,he2⟩,λb hb=>?_⟩
  have z:b=it:=by simpa using hb
  subst z
  rw[bB (vU hilt)]
  exact(hf b (by simp)).1
 done:=by
  intro X hP hw hK hc i pins s σ H E I hf st hg
  subst hP hw hK
  obtain⟨ok,ov,he⟩:=st
  obtain⟨hd,hi⟩:=hg
  have hO:cE X.prog X.w H s.heap d (.frz o (.dT kvs)):=I.hok d _ hd
  obtain⟨f0,f1,f2,f3,f4,f5⟩:=hf it (by simp)
  exact aIo (I.ok.hd hc) he ⟨o,hO.1,hc0,hd0⟩ (by omega) λh' eb=>⟨rfl,I.turned (t':=s.toks) (λb o hb e=>eb b o hb e) f0 f1 f3 f4 f5⟩
 self:=λ_ _ _ _ _ st h=>by
  obtain⟨ok,ov,he⟩:=st
  refine wpAny_pyIter_slot ⟨_,he,rfl⟩ F.slot_dict_itemiterator_iter (wpAny_call_entry F.slot_dict_itemiterator_iter ⟨_,he,rfl⟩ aDC ?_ (F.args_dict_itemiterator_iter_1 _))
  exact wpAny_pure ⟨_,rfl,"dict_itemiterator",_,⟨_,he,rfl⟩,F.slot_dict_itemiterator_next.lookup,h⟩
section
variable{X:Cx}{elts:List Expr}{x1:Nat}{tp:Pos}
def ImQ(R:It->Hp->Prop):V->Hp->Prop:=λx H1=>∃d kvs,x=.ref d/\H1 d=some (.dT kvs)/\∀o,R (Iti d o kvs) (upd H1 d (.frz o (.dT kvs)))
def aJD(td:TE):TI:=λσ H R=>td σ H (ImQ R)
theorem aMW{o:Expr}{td:TE}{apos cpos:Pos}(ho:PE X o td)(hbase:attributeBase o "items" X.env (eval o X.env)=eval o X.env:=by rfl)(hline:(apos.endLine == cpos.line)=true:=by rfl) :
  PI X (.Tuple elts x1 tp) (.Call (.Attribute o "items" apos) [] [] cpos) (aJD td):=by
 intro pins s σ H R I h
 refine wpAny_Call_method (T:="dict") (id:="dict.items") hbase rfl hline PySem.F.plainAttrs_dict PySem.F.slot_dict_items PySem.F.type_dict_items (dW (ho pins s σ H _ I h) λv s1 ⟨x,H1,I1,r1,q1⟩=>?_)
 obtain⟨d,kvs,e,hd,q⟩:=q1
 subst e
 cases r1
 obtain⟨lo,ob,es,ep,xs,g1,g2,g3,rel,g4,g5⟩:=aJB (show cE X.prog X.w H1 s1.heap d (.dT kvs) from I1.hok d _ hd)
 have raw:Raw s1.heap d es ep:=⟨ob,g1,g2.1,g3⟩
 refine⟨raw.ty,λb z=>by cases z;exact⟨ob,g1,g2.2.1⟩,?_⟩
 refine method_meetsIn PySem.F.slot_dict_items PySem.F.entry_dict_items rfl (PySem.evalArgs_none ⟨rfl,raw.ty,PySem.F.args_dict_items_1 _,_,aLg d lo,raw.ty,?_⟩)
 have I2:=I1.aOS hd g1
 show wpAny _ _ (pyIter (.ref s1.heap.objs.size)) _ _ _
 refine aFn (s:={ s1 with heap:=s1.heap.push { cls:=.type "dict_items",data:=.fields #[.ref d] } }) ⟨_,yL _ rfl,rfl,rfl⟩ (raw.keep λo e=>kO _ e) ?_
 have hk:∀b u,s1.heap.get? b=some u->((s1.heap.push { cls:=.type "dict_items",data:=.fields #[.ref d] }).push { cls:=.type "dict_itemiterator",data:=.fields #[.none,.bool false,.ref d,.int 0 0,.int es.size 0,.int ep 0,.none,.none] }).get? b=some u:=
  λb u e=>kO _ (kO _ e)
 refine⟨_,[(s1.heap.push { cls:=.type "dict_items",data:=.fields #[.ref d] }).objs.size],_,_,_,rfl,I2.kept (t':=s1.toks) hk,aJC d _ ob kvs es ep g2.1 g3 g5,⟨_,_,yL _ rfl⟩,λb hb=>?_,q ob⟩
 have e:b=(s1.heap.push { cls:=.type "dict_items",data:=.fields #[.ref d] }).objs.size:=by simpa using hb
 have hle:s1.heap.objs.size<=b:=by rw[e,Rv9];exact Nat.le_succ _
 exact I2.aHQ hle (I2.hok.fresh hle)
end
section
variable{σ:St}{H:Hp}{nx:St->Hp->Prop}{rt:VK}{g:TG}{tb:TS}
theorem aLh{R:It->Hp->Prop}(h:td σ H (ImQ R)):aJD td σ H R:=h
theorem aRU{R:It->Hp->Prop}(h1:H d=some (.dT kvs))(h:∀o,R (Iti d o kvs) (upd H d (.frz o (.dT kvs)))):ImQ R (.ref d) H:=⟨d,kvs,rfl,h1,h⟩
theorem aMX{kvs:List (List Key×V)}(Pv:Nat->St->Hp->Prop)(h0:Pv 0 σ H)(hl:∀i σ H,i<=kvs.length->Pv i σ H->H d=some (.frz o (.dT kvs)))(hs:∀i kv σ H T b,kvs[i]?=some kv->Pv i σ H->H T=none->H b=some (.tup (kv.1.map kV))->g (.ref T) σ (upd H T (.tup [.ref b,kv.2])) λσ2 H2=>tb ⟨Pv (i+1),rt,nx,Pv (i+1)⟩ σ2 H2)(hd:∀σ H,Pv kvs.length σ H->nx σ H) :
  ∃W:Nat->Nat->St->Hp->Prop,(∃m,W 0 m σ H)/\∀i m σ H,W i m σ H->
   ((Iti d o kvs).stop i H/\nx σ H)\/((Iti d o kvs).go i H/\∃N:St->Hp->Prop,(∀σ' H',N σ' H'->∃m',m' < m/\W (i+1) m' σ' H')/\∀x H',(Iti d o kvs).yld i H x H'->g x σ H' λσ2 H2=>tb ⟨N,rt,nx,N⟩ σ2 H2):=by
 refine⟨λi m σ H=>m=kvs.length - i/\i<=kvs.length/\Pv i σ H,⟨kvs.length,by simp,Rn9 _,h0⟩,?_⟩
 rintro i m σ H ⟨rfl,hi,p⟩
 have q:=hl i σ H hi p
 by_cases hlt:i < kvs.length
 ·refine .inr ⟨⟨q,hlt⟩,Pv (i+1),λσ' H' p'=>⟨kvs.length - (i+1),by omega,rfl,hlt,p'⟩,λx H' y=>?_⟩
  obtain⟨T,b,kv,hT,e1,hk,hb,e2⟩:=y
  subst e1 e2
  exact hs i kv σ H T b hk p hT hb
 ·have e:i=kvs.length:=by omega
  subst e
  exact .inl ⟨⟨q,gB _⟩,hd σ H p⟩
end
section
variable{X:Cx}{o:Expr}{td:TE}{apos cpos:Pos}
end
section
variable{X:Cx}{ek ev:Expr}{tk tv:TE}{pos:Pos}
theorem aLi{pins:List (Addr×Obj)}{σ:St}{H:Hp}{s:Shared}{a b:Addr}{v:V}{r:Value}{A:Around}{E:Value->Shared->Prop}{kvs:List (List Key×V)}{k:List Key}{Q:Unit->Shared->Prop}(hu:A.units < cLine)(I:Inv X pins σ H s)(e:H a=some (.dT kvs))(eb:H b=some (.tup (k.map kV)))(l:kvs.length < sizeLine)(rv:RelV v r)(h:∀s',Inv X pins σ (upd H a (.dT (putK kvs k v))) s'->Q () s') :
  wpAny (model X.prog X.w) A (dictSet a (.ref b) r) Q E s:=by
 obtain⟨z,hd,xs,rel,dd⟩:=aPl I.hok e
 have hz:xs.length<=sizeLine:=by rw[<-Paired.length rel];exact z
 have hl:(putK kvs k v).length<=sizeLine:=by have:=yS kvs k v;omega
 refine wpAny_dictSet_heap (hsz:=hz) hu (aD9 I.hok eb) dd λh' dd' hs=>h _ ?_
 obtain⟨q,es,ep,hq,h2,h3,h4,_,h5⟩:=dd'
 refine aGG I (by rw[e];exact True.intro) hs ⟨q,hq⟩ ⟨hl,hd,_,(rel.put k eb rv).keeps λc ys ec=>?_,q,es,ep,hq,h2,h3,h4,h5⟩
 rw[bB (aPf ec e (λz=>nomatch z))]
 exact ec
def aJE(tk tv:TE):TE:=λσ H Q=>∀d,H d=none->tk σ (upd H d (.dT [])) λy H1=>tv σ H1 λv H2=>∃b k,y=.ref b/\H2 b=some (.tup (k.map kV))/\H2 d=some (.dT [])/\Q (.ref d) (upd H2 d (.dT [(k,v)]))
theorem aMY(hu:X.A.units < cLine)(hk:PE X ek tk)(hv:PE X ev tv):PE X (.Dict [some ek] [ev] pos) (aJE tk tv):=by
 intro pins s σ H Q I h
 have hn:H s.heap.objs.size=none:=I.hok.fresh (gB _)
 have I0:Inv X pins σ (upd H s.heap.objs.size (.dT [])) { s with heap:=s.heap.push { cls:=.type "dict",data:=.dict #[] } }:=I.laid (a:=s.heap.objs.size) (o:=.dT []) (t':=s.toks) (λ_ _ q=>kO _ q) (gB _) (aH1 s.heap I.big)
 refine wpAny_Dict_any rfl rfl (by simp) (by simp) ?_
 refine pairTrees_cons_walk (dW (hk pins _ σ _ _ I0 (h _ hn)) λu s1 ⟨y,H1,I1,r1,q1⟩=>dW (hv pins s1 σ H1 _ I1 q1) λv s2 ⟨x,H2,I2,r2,q2⟩=>pairTrees_nil_walk ?_)
 obtain⟨b,k,e,eb,ed,q⟩:=q2
 subst e
 cases r1
 unfold storeAll
 simp only[List.forIn_cons,List.forIn_nil]
 refine wpAny_bind (wpAny_bind (aLi hu I2 ed eb (by rw[sizeLine_eq];decide) r2 λs3 I3=>?_))
 exact wpAny_pure (wpAny_pure ⟨.ref _,_,I3,rfl,q⟩)
end
end L2
namespace L2
section
variable{σ:St}{H:Hp}{Q:VK}
theorem aMZ{tk:TE}(h:∀d,H d=none->tk σ (upd H d (.dT [])) λy H1=>tv σ H1 λv H2=>∃b k,y=.ref b/\H2 b=some (.tup (k.map kV))/\H2 d=some (.dT [])/\Q (.ref d) (upd H2 d (.dT [(k,v)]))):aJE tk tv σ H Q:=h
theorem aM0{ty:TE}(h:td σ H λx H1=>∃a,x=.ref a/\IsD H1 a/\ty σ H1 λy H2=>tx σ H2 λz H3=>∃o,yT H3 a y o/\Q (o.getD z) H3):aJl td ty tx σ H Q:=h
end
end L2
namespace L2.Z
open PySem PySem.Spec PyProof.Rows L2
section
variable{X:Cx}{o e f ek ev:Expr}{td ty tx tk tv:TE}{pos apos cpos tp:Pos}{elts:List Expr}{x1:Nat}
theorem aIp(ho:QE X o td)(hbase:attributeBase o "items" X.env (eval o X.env)=eval o X.env:=by rfl)(hline:(apos.endLine == cpos.line)=true:=by rfl) :
  QI X (.Tuple elts x1 tp) (.Call (.Attribute o "items" apos) [] [] cpos) (aJD td):=⟨L2.aMW ho.h hbase hline⟩
theorem aIq(hu:X.A.units+9 < cLine)(hk:QE X ek tk)(hv:QE X ev tv):QE X (.Dict [some ek] [ev] pos) (aJE tk tv):=⟨L2.aMY (by omega) hk.h hv.h⟩
theorem aIr(hu:X.A.units+9 < cLine)(ho:QE X o td)(he:QE X e ty)(hf:QE X f tx)(base:attributeBase o "get" X.env (eval o X.env)=eval o X.env:=by rfl)
  (few:((backTo cpos (starEach [e,f] X.env)).all (λx=>!x.1) && (backToKw cpos (keywordEach [] X.env)).all (λx=>x.1.isSome)
   && decide (([e,f]:List Expr).length+([]:List Keyword).length+(if ([]:List Keyword).isEmpty then 0 else 1) < 30))=true:=by rfl)
  (line:(apos.endLine == cpos.line)=true:=by rfl) (trees:backTo cpos (starEach [e,f] X.env)=[(false,eval e X.env),(false,eval f X.env)]:=by rfl) :
  QE X (.Call (.Attribute o "get" apos) [e,f] [] cpos) (aJl td ty tx):=⟨L2.aMi (by omega) ho.h he.h hf.h ⟨base,few,line,trees⟩⟩
end
end L2.Z
namespace L2
open PySem PySem.Spec PyProof.Rows
section
variable{X:Cx}{tg:Expr}
end
section
variable{σ:St}{H:Hp}{Q:VK}{nx:St->Hp->Prop}{rt:VK}{g:TG}{tb:TS}
theorem aM1(h:td σ H λx H1=>ty σ H1 λy H2=>∃a v,x=.ref a/\yT H2 a y (some v)/\Q v H2):aMd td ty σ H Q:=h
theorem yT.f{k:List Key}(e:H a=some (.frz o (.dT kvs)))(eb:H b=some (.tup (k.map kV))):yT H a (.ref b) (u9 kvs k):=.inr ⟨kvs,k,b,.inr ⟨o,e⟩,rfl,eb,rfl⟩
end
end L2
namespace L2.Z
open PySem PySem.Spec PyProof.Rows L2
section
variable{X:Cx}{o i l tg:Expr}{td ty tl:TE}{pos:Pos}
theorem sE(hu:X.A.units+9 < cLine)(ho:QE X o td)(hi:QE X i ty)(hs:aQm i:=by intro _ _;rfl):QE X (.Subscript o i pos) (aMd td ty):=⟨L2.aN7 (by omega) ho.h hi.h hs⟩
end
end L2.Z
namespace L2
open PySem PySem.Spec PyProof.Rows
section
open PySem.SeqAt
open PySem.AutoSeq1 (wpAny_loadPart')
open PySem.MeetsSeq PySem.MeetsSeq2 PySem.MeetsSeq3
end
section
variable{X:Cx}
end
end L2
namespace L2
open PySem PySem.Spec PyProof.Rows
structure Clo(P:Program)(w:World)(K:W.Frag)(mg:Str->Option Value)(base:Heap)(k:Nat)(f:Addr)(sp:Sp):Prop where
 ex:∃(o:Obj) (fd:FuncData) (ps:List Str),base.get? f=some o/\o.data=.func fd/\bQ P w K mg base gE k f fd ps sp/\∀(s:Shared) (us:List Value),us.length=ps.length->BindsTo s fd ⟨us,[]⟩ (ps.zip us)
abbrev aGj(q:Str)(params:Arguments)(body:Expr)(scope:Scope)(cl:List (Str×Addr))(pm cd ct:Value):FuncData:=
  { name := "<lambda>", qualname := q, params, body := .expr body, scope, globals := mainGlobals, closure := cl, defaults := .none, kwdefaults := .none, doc := .none, pyModule := pm, annotations := none, code := cd, closureTuple := ct, builtins := builtinsNs }
abbrev y4(q:Str)(scope:Scope)(L f:Addr)(cd:Value)(cl:List (Str×Addr)):Env:=
 { scope:=scope,locals:=L,globals:=mainGlobals,cells:=cl,qual:=q ++ ".<locals>.",func:=some f,code:=cd,frame:=some L,builtins:=builtinsNs }
def cxL(P:Program)(w:World)(K:W.Frag)(mg:Str->Option Value)(base:Heap)(N:List Str)(q:Str)(scope:Scope)(f:Addr)(cd:Value)(cl:List (Str×Addr))(A:Around)(outer:List Env)(s:Shared)(H:Hp):Cx where
 prog:=P
 w:=w
 K:=K
 mg:=mg
 base:=base
 A:=A.deeper (y4 q scope s.heap.objs.size f cd cl)
 N:=N
 s₀:=s
 H₀:=H
 env:=y4 q scope s.heap.objs.size f cd cl
 outer:=outer
 stack:=y4 q scope s.heap.objs.size f cd cl::outer
 ex:=[]
 calm:=true
 fn:=λ_=>false
 pn:=[]
 xe:=λ_ _=>False
structure aQ3(base:Heap)(scope:Scope)(N ps:List Str)(cl:List (Str×Addr))(cap:St):Prop where
 kind:scope.kind=.function
 co:scope.isCoroutine=false
 gen:scope.isGenerator=false
 nocell:∀y∈scope.names,y.2≠.cell
 pre:N.take ps.length=ps
 nd:N.Nodup
 len:N.length=ps.length+cap.length
 par:∀x∈ps,scope.names.lookup x=some .local
 inj:∀x y c,cl.lookup x=some c->cl.lookup y=some c->x=y
 has:∀x,scope.names.lookup x=some .free->∃c,cl.lookup x=some c
 all:∀x c,cl.lookup x=some c->∃o v,base.get? c=some o/\o.data=.cell v
 cap:∀(i:Nat) x v,(N.drop ps.length)[i]?=some x->cap[i]?=some (some v)->scope.names.lookup x=some .free/\∃u c o,RelV v u/\cl.lookup x=some c/\base.get? c=some o/\o.data=.cell (some u)
theorem aKm:∀{l:List (Str×Value)},(l.map (·.1)).Nodup->(x,v)∈l->l.lookup x=some v
 |[],_,h=>by cases h
 |(y,u)::r,nd,h=>by
  rw[Rl9]
  rcases yF.mp h with e|h'
  ·cases e
   rw[beq_self_eq_true]
  ·have ne:x≠y:=λz=>by
    subst z
    exact(Rm9.mp nd).1 (xX.mpr ⟨(x,v),h',rfl⟩)
   rw[beq_eq_false_iff_ne.mpr ne]
   exact aKm (Rm9.mp nd).2 h'
theorem aOT:∀{P:List Str}{us:List Value}{i:Nat},P.Nodup->P[i]?=some x->us[i]?=some v->P.length=us.length->(P.zip us).reverse.lookup x=some v:=by
 intro P us i nd h1 h2 hl
 have hm:(x,v)∈(P.zip us).reverse:=by
  rw[List.mem_reverse]
  refine oS (i:=i) ?_
  rw[List.getElem?_zip_eq_some]
  exact⟨h1,h2⟩
 refine aKm ?_ hm
 rw[List.map_reverse,List.map_fst_zip (Ua9 hl)]
 exact List.pairwise_reverse.mpr (nd.imp λh=>Ne.symm h)
def aKn(c:Addr)(q:Str)(n:Nat)(tl:TE)(cap:St):Sp:=λws H Q _=>H c=some (.cod q)/\ws.length=n/\tl (ws.map some++cap) H Q
theorem aJF{P:Program}{w:World}{K:W.Frag}{mg:Str->Option Value}{base:Heap}{N ps:List Str}{q:Str}{scope:Scope}{f:Addr}{cd:Value}{cl:List (Str×Addr)}{cap:St}{A:Around}{outer:List Env}{s:Shared}{H:Hp}{us:List Value}{vs:List V}{h':Heap}{tk:Nat}
  (S:aQ3 base scope N ps cl cap) (hd:A.handled=none) (e0:aFk P w K mg base A outer s H) (hl:vs.length=ps.length) (r:Vals vs us)
  (hns:h'.Ns s.heap.objs.size λx=>(ps.zip us).reverse.lookup x) (hk:∀b o,s.heap.get? b=some o->h'.get? b=some o) :
  Inv (cxL P w K mg base N q scope f cd cl A outer s H) [] (vs.map some++cap) H { s with heap:=h',toks:=tk }:=by
 have noA:∀b:Addr,b∉(cxL P w K mg base N q scope f cd cl A outer s H).ex:=λb z=>absurd (show b∈([]:List Addr) from z) (by simp)
 refine⟨⟨e0.mod,S.kind,rfl,rfl,gB _,S.inj,λy hy=>?_,λy c z _=>(by cases z),λ_=>hd,Around.frames_deeper e0.frames,.inr ⟨rfl,rfl⟩,λb z=>absurd z (noA b),e0.bs,e0.bsz,λb _ _=>noA b,λb z=>absurd z (noA b),e0.aAH,e0.frf⟩,
  rfl,e0.bare,Un.kept hk,⟨_,hns,λi y v h1 h2 h3=>?_⟩,λy c h=>?_,e0.hok.fresh (gB _),λy c h=>?_,λp hp=>absurd (show p∈([]:List (Addr×Obj)) from hp) (by simp),e0.hok.kept hk,?_⟩
 ·have hy:scope.names.lookup y=some .cell\/scope.names.lookup y=some .free:=hy
  rcases hy with hy|hy
  ·exact absurd rfl (S.nocell _ (PySem.mem_of_lookup hy))
  ·exact S.has y hy
 ·have h1':N[i]?=some y:=h1
  by_cases hi:i < ps.length
  ·rw[Qn9 (by rw[bP];omega),oR] at h2
   obtain⟨v',hv',e⟩:=Qp9.mp h2
   cases e
   obtain⟨u,hu,rv⟩:=r.get hv'
   have hp:ps[i]?=some y:=by rw[<-S.pre,List.getElem?_take_of_lt hi];exact h1'
   have ndP:ps.Nodup:=by rw[<-S.pre];exact S.nd.sublist (List.take_sublist _ _)
   refine⟨u,rv,.inl ⟨S.par y (oS hp),?_⟩⟩
   exact aOT ndP hp hu (by rw[<-hl];exact r.length)
  ·obtain⟨j,rfl⟩ : ∃j,i=ps.length+j:=⟨i - ps.length,by omega⟩
   rw[Qo9 (by rw[bP];omega),bP,hl,Nat.add_sub_cancel_left] at h2
   obtain⟨hf,u,c,o,rv,ec,eo,ed⟩:=S.cap j y v (by rw[List.getElem?_drop];exact h1') h2
   exact⟨u,rv,.inr ⟨.inr hf,c,ec,o,hk _ _ (e0.bs c o eo).1,ed⟩⟩
 ·obtain⟨o,v,eo,ed⟩:=S.all y c h
  exact⟨v,o,hk _ _ (e0.bs c o eo).1,ed⟩
 ·obtain⟨o,v,eo,ed⟩:=S.all y c h
  exact(e0.bs c o eo).2
 ·show _=N.length
  rw[oU,bP,hl,S.len]
theorem aQ4{P:Program}{w:World}{K:W.Frag}{mg:Str->Option Value}{base:Heap}{k:Nat}{f c:Addr}{q:Str}{params:Arguments}{body:Expr}{scope:Scope}{cl:List (Str×Addr)}{pm ct:Value}{N ps:List Str}{cap:St}{tl:TE}{o:Obj}
  (hf:base.get? f=some o) (ho:o.data=.func (aGj q params body scope cl pm (.ref c) ct)) (S:aQ3 base scope N ps cl cap)
  (hbody:∀(A:Around) (outer:List Env) (s:Shared) (H:Hp),fJ k (A.deeper (y4 q scope s.heap.objs.size f (.ref c) cl))->PE (cxL P w K mg base N q scope f (.ref c) cl A outer s H) body tl) :
  bQ P w K mg base gE (k+1) f (aGj q params body scope cl pm (.ref c) ct) ps (aKn c q ps.length tl cap):=by
 refine⟨λvs H Q E h=>h.2.1,λA outer s H args us vs Q E hr e0 hb r hsp=>?_⟩
 obtain⟨hcod,hl,hq⟩:=hsp
 have lim:s.heap.NoLimit:=e0.mod.nolimit.keeps λb o e=>(e0.bs b o e).1
 have hcd:s.heap.CodeRec (.ref c) q:=by
  obtain⟨oc,vc,t,z1,z2,z3⟩:=e0.hok c _ hcod
  exact⟨c,oc,vc,t,rfl,z1,z2,z3⟩
 refine PySem.W.kla_callFunE hr.depth (e0.bs f _ hf).1 ho S.co S.gen rfl hcd (hb _ _ _ _ ?_)
 refine wpAny_newFunctionEnv S.nocell (λy hy=>?_) (λh₁ hns hsb=>⟨lim.fresh _ hsb,?_⟩) S.kind
 ·obtain⟨n,v⟩:=y
  exact S.par n (Ty9 hy).1
 show codeAny _ _ (.expr body (y4 q scope s.heap.objs.size f (.ref c) cl)) _ _
 have hk₁:∀b o,s.heap.get? b=some o->h₁.get? b=some o:=λb o e=>hsb.extBut b o (vU (jY e)) (kO _ e)
 refine PySem.W.kla_codeExpr ?_
 have I:=aJF (tk:=s.toks+(ps.zip us).length) (q:=q) (f:=f) (cd:=.ref c) S hr.hd e0 hl r hns hk₁
 refine wpAny_mono (hbody A outer s H (hr.deeper _) [] _ _ H _ I hq) (λu s' hs=>?_) λe s' hs=>hs.elim
 obtain⟨v,H',J,rv,z⟩:=hs
 exact⟨v,H',J.os,J.bare,J.base,J.hok,rv,z⟩
def aGU(base h:Heap)(Z:List Addr):Heap:=PySem.W.hideAll h ((List.range h.objs.size).filter λa=>!((base.get? a).isSome || Z.contains a))
theorem y6{base h:Heap}(e:h.get? b=some o)(z:(∃u,base.get? b=some u)\/b∈Z):(aGU base h Z).get? b=some o:=by
 refine PySem.W.hideAll_get _ e λhm=>?_
 have q:=(Sn9.mp hm).2
 rcases z with ⟨u,z⟩|z
 ·rw[z] at q;simp at q
 ·rw[show Z.contains b=true from List.elem_iff.mpr z] at q
  simp at q
theorem aKo{base h:Heap}(e:(aGU base h Z).get? b=some o):h.get? b=some o/\((∃u,base.get? b=some u)\/b∈Z):=by
 have e':h.get? b=some o:=PySem.W.of_hideAll _ e
 refine⟨e',?_⟩
 cases q1:base.get? b with
 |some u=>exact .inl ⟨u,rfl⟩
 |none=>
  cases q2:Z.contains b with
  |true=>exact .inr (List.elem_iff.mp q2)
  |false=>
   have hm:b∈(List.range h.objs.size).filter λa=>!((base.get? a).isSome || Z.contains a):=Sn9.mpr ⟨Rs9.mpr (jY e'),by rw[q1,q2];rfl⟩
   have z:(aGU base h Z).get? b=none:=PySem.W.hideAll_none _ hm
   rw[z] at e
   cases e
theorem Mod.keeps{K:W.Frag}{mg:Str->Option Value}{base base':Heap}(M:Mod K mg base)(k:∀b o,base.get? b=some o->base'.get? b=some o):Mod K mg base':=
 ⟨M.kin.keeps k,M.glob.keeps k,(let ⟨mb,h1,h2⟩:=M.blt;⟨mb,h1.keeps k,h2⟩),M.nolimit.keeps k,let ⟨bm,o,e1,e2,e3,r⟩:=M.bm;⟨bm,o,e1,e2,k _ _ e3,r⟩⟩
theorem aJG{h:Heap}(hl:h.FunFrames base l)(hz:∀b∈frs l,b∉Z):h.FunFrames (aGU base h Z) l:=by
 induction l with
 |nil=>trivial
 |cons env rest ih=>
  obtain⟨hk,⟨L,o,hf,hn,ho,hd⟩,hr⟩:=hl
  have hL:L∈frs (env::rest):=by unfold frs;rw[Sh9,hf];exact Qx9
  refine⟨hk,⟨L,o,hf,?_,ho,hd⟩,ih hr λb hb=>hz b (by unfold frs;rw[Sh9,hf];exact Qq9 _ hb)⟩
  cases q:(aGU base h Z).get? L with
  |none=>rfl
  |some u=>
   rcases(aKo q).2 with ⟨v,z⟩|z
   ·rw[hn] at z;cases z
   ·exact absurd z (hz L hL)
end L2
namespace L2
open PySem PySem.Spec PyProof.Rows
section
variable{X:Cx}{pins:List (Addr×Obj)}{σ:St}{H:Hp}{s:Shared}{c Pt:Addr}{q:Str}{params:Arguments}{body:Expr}{scope:Scope}{pos lpos:Pos}{cl:List (Str×Addr)}
theorem aM2{Q:Value->Shared->Prop}(I:Inv X pins σ H s)(hcode:X.env.code=.ref c)(hC:PySem.W.codeHdIn X.K c Pt=true)(hT:H Pt=some (.ctb pos q))(hq:X.env.qual ++ "<lambda>" = q)(hdef:defaultsOf params X.env=([],[]))(hcl:closureFor scope X.env=pure cl)
  (h:∀(f c':Addr) (pm ct:Value) (o:Obj) (H':Hp) (s':Shared),Inv X pins σ H' s'->aP H H'->s'.heap.get? f=some o->o.data=.func (aGj q params body scope cl pm (.ref c') ct)->H' f=none->H' c'=some (.cod q)->s.heap.objs.size<=f->Q (.ref f) s') :
  wpAny (model X.prog X.w) X.A (eval (.Lambda params body scope pos) X.env) Q X.xe s:=by
 obtain⟨ps,eP,ht,hc⟩:=I.hok Pt _ hT
 have hg:s.heap.Ns mainGlobals X.mg:=I.mod.glob.keeps I.bk
 have hgP:mainGlobals≠Pt:=λz=>by
  obtain⟨o,es,ep,e,hd,_⟩:=hg
  rw[z,eP] at e
  cases e
  cases hd
 have hb:s.heap.BuiltinsAt X.mg Pt:=by
  obtain⟨bm,o,e1,e2,e3,e4,e5,e6⟩:=I.mod.bm
  have e3':=I.bk _ _ e3
  refine⟨bm,o,e1,e2,λz=>?_,λz=>?_,e3',e4,e5,e6⟩
  ·obtain⟨o',es,ep,e,hd,_⟩:=hg
   rw[z,e] at e3'
   cases e3'
   rw[hd] at e6
   cases e6
  ·rw[z,eP] at e3'
   cases e3'
   cases e4
 have hCd:PySem.W.CodeHd s.heap c Pt:=PySem.W.codeHd_of_K I.kIn hC
 refine PySem.W.kla_eval hdef ?_
 rw[hq]
 rcases hc with hn|⟨c',hs,hcd⟩
 ·refine PySem.W.kla_makeFunction (mg:=X.mg) (P:=Pt) (c:=c) (ps:=ps) hcl I.ok.glob hg hcode hCd eP ht hn hgP hb λc' ctv h' tk hx hge hlt hrec htb=>?_
  have hnc:H c'=none:=I.hok.fresh hge
  have hx2:∀b o,b≠Pt->s.heap.get? b=some o->(h'.push (PySem.W.kla_obj "<lambda>" q params body scope cl ((X.mg "__name__").getD .none) c' ctv)).get? b=some o:=λb o n e=>kO _ (hx b o n e)
  have np:∀b,H b=none->b≠Pt:=λb n z=>by rw[z,hT] at n;cases n
  have ncP:c'≠Pt:=np c' hnc
  refine h h'.objs.size c' _ ctv _ (upd H c' (.cod q)) _ (I.step (h':=h'.push _) (g':=s.gens) (d':=s.drawn) (t':=tk) (ch:=[]) (λ_ z=>nomatch z) (λb o _ _ _ e n=>hx2 b o (np b n) e) (λb o _ _ _ e n=>⟨o.slots,hx2 b o (np b n) e⟩)
   (λb o _ e n=>by rw[bB (vU (yK (jY e) hge))];exact n) (λb o _ e=>?_) (λb xs e=>by rw[bB (bJ e hnc)];exact e) (λb o u e=>by rw[bB (bJ e hnc)];exact e)
   (λb ps e=>⟨#[],by rw[bB (bJ e hnc),e];simp⟩) (λm hm=>hm.extBut (b:=Pt) hx2 (np _ I.free)) (λb u e=>?_) I.bare) (aP.new hnc) (yL _ rfl) rfl ?_ aN (Rp9 hge (Ts9 hlt))
  ·by_cases hbP:b=Pt
   ·subst hbP
    exact⟨_,kO _ htb⟩
   ·exact⟨o,hx2 b o hbP e⟩
  ·by_cases hbc:b=c'
   ·subst hbc
    rw[aN] at e
    cases e
    obtain⟨c2,oc,vs,t,z1,z2,z3,z4⟩:=hrec
    cases z1
    exact⟨oc,vs,t,kO _ z2,z3,z4⟩
   ·rw[bB hbc] at e
    by_cases hbP:b=Pt
    ·subst hbP
     rw[hT] at e
     cases e
     refine⟨_,kO _ htb,?_,.inr ⟨c',?_,aN⟩⟩
     ·rw[Array.toList_append]
      exact TriplesOk_snoc _ _ _ _ ht
     ·rw[Array.toList_append]
      exact codeAmong_snoc _ ht hn
    ·refine(I.hok b u e).aAF (λd v hd z=>hx2 d v ?_ z) (λd z=>by rw[bB (bJ z hnc)];exact z) λd xs _ z=>by rw[bB (bJ z hnc)];exact z
     rcases hd with z|z
     ·rw[z];exact hbP
     ·intro y
      rw[y,hT] at z
      cases z
  ·rw[bB (Se9 hlt)]
   exact I.hok.fresh (Rp9 hge (Ts9 hlt))
 ·refine PySem.W.kla_makeFunctionHit (mg:=X.mg) (P:=Pt) (c:=c) (ps:=ps) hcl I.ok.glob hg hcode hCd eP ht hs hb λctv h' tk hk hsz=>?_
  exact h h'.objs.size c' _ ctv _ H _ (I.kept λb u e=>kO _ (hk b u e)) (aP.refl _) (yL _ rfl) rfl (I.hok.fresh hsz) hcd hsz
def PAL(X:Cx)(es:List Expr)(params:Arguments)(body:Expr)(scope:Scope)(lpos:Pos)(Pt:Addr)(q:Str)(cl:List (Str×Addr))(t:TA):Prop:=
 ∀(pos:Pos) (pins:List (Addr×Obj)) (s:Shared) (σ:St) (H:Hp) (Q:List V->Hp->Prop),Inv X pins σ H s->t σ H (λvs H1=>H1 Pt=some (.ctb lpos q)/\Q vs H1)->
  wpAny (model X.prog X.w) X.A (spliced (backTo pos (starEach es X.env))) (λus s'=>∃(vs:List V) (us0:List Value) (f c':Addr) (pm ct:Value) (o:Obj) (H1 H2:Hp),us=us0 ++ [.ref f]/\Vals vs us0/\Inv X pins σ H2 s'/\aP H1 H2/\
   s'.heap.get? f=some o/\o.data=.func (aGj q params body scope cl pm (.ref c') ct)/\H2 f=none/\H2 c'=some (.cod q)/\f∉frs X.stack/\Q vs H1) X.xe s
theorem aM3(hcode:X.env.code=.ref c)(hC:PySem.W.codeHdIn X.K c Pt=true)(hq:X.env.qual ++ "<lambda>" = q)(hdef:defaultsOf params X.env=([],[])){n:Nat}{idx:List Nat}(S:fN X scope N n idx) :
  PAL X [.Lambda params body scope lpos] params body scope lpos Pt q (pH X.env scope.names []) qS:=by
 intro pos pins s σ H Q I h
 obtain⟨hT,hQ⟩:=h
 show wpAny _ _ (spliced ((false,eval (.Lambda params body scope lpos) X.env)::backTo pos (starEach [] X.env))) _ _ s
 refine Calls.spliced_cons (aM2 I hcode hC hT hq hdef (aBg (S.cells I)) λf c' pm ct o H' s' I' sm e1 e2 e3 e4 e5=>?_)
 refine Calls.spliced_nil ⟨[],[],f,c',pm,ct,o,H,H',rfl,.nil,I',sm,e1,e2,e3,e4,λz=>?_,hQ⟩
 obtain⟨_,o',e,_⟩:=I.stack.mem z
 exact absurd (yK (jY e) e5) (Ru9 _)
theorem aM4{e:Expr}{es:List Expr}{te:TE}{t:TA}(ha:PE X e te)(hr:PAL X es params body scope lpos Pt q cl t)(hs:starEach (e::es) X.env=(false,eval e X.env)::starEach es X.env:=by rfl) :
  PAL X (e::es) params body scope lpos Pt q cl (bL te t):=by
 intro pos pins s σ H Q I h
 rw[hs]
 show wpAny _ _ (spliced ((false,eval e X.env)::backTo pos (starEach es X.env))) _ _ s
 refine Calls.spliced_cons (dW (ha pins s σ H _ I h) λu s1 ⟨x,H1,I1,r1,q1⟩=>?_)
 refine dW (hr pos pins s1 σ H1 (λvs H2=>Q (x::vs) H2) I1 q1) λus s2 ⟨vs,us0,f,c',pm,ct,o,H2,H3,e0,r,I3,sm,e1,e2,e3,e4,e5,hQ⟩=>?_
 exact⟨x::vs,u::us0,f,c',pm,ct,o,H2,H3,by rw[e0];rfl,.cons r1 r,I3,sm,e1,e2,e3,e4,e5,hQ⟩
def aJH(Pt:Addr)(lpos:Pos)(q:Str)(sp:(Addr->Sp->Prop)->Sp)(n:Nat)(tl:TE)(idx:List Nat)(t:TA):TE:=λσ H Q=>t σ H λvs H1=>H1 Pt=some (.ctb lpos q)/\
 ∀(f c':Addr) (H2:Hp) (C:Addr->Sp->Prop),aP H1 H2->H2 c'=some (.cod q)->C f (aKn c' q n tl (idx.map λj=>(σ[j]?).join))->sp C (vs ++ [.ref f]) H2 Q E0
theorem aM5{f:Addr}{fd:FuncData}{ps psL N:List Str}{idx:List Nat}{sp:(Addr->Sp->Prop)->Sp}{k kc:Nat}{x:Str}{p:Pos}{e:Expr}{es:List Expr}{t:TA}{tl:TE}
  (F:∀base':Heap,bQ X.prog X.w X.K X.mg base' gE k f fd ps (sp (Clo X.prog X.w X.K X.mg base' (kc+1)))) (hr:fJ k X.A) (hg:Gl X x) (hm:X.mg x=some (.ref f)) (hk:W.keepIn X.K (.ref f)=true) (hb:Binds X.K fd ps [])
  (hfn:∀y,X.fn y=true) (S:fN X scope N psL.length idx) (hpre:N.take psL.length=psL) (hpar:psL.all (λx=>scope.names.lookup x == some .local)=true) (hco:scope.isCoroutine=false) (hgen:scope.isGenerator=false)
  (hbind:∀(cl:List (Str×Addr)) (pm cd ct:Value) (us:List Value),us.length=psL.length->bindArgs (aGj q params body scope cl pm cd ct) ⟨us,[]⟩=pure (psL.zip us))
  (ha:PAL X (e::es) params body scope lpos Pt q (pH X.env scope.names []) t)
  (hbody:∀(base':Heap) (f' c':Addr) (cl:List (Str×Addr)) (A:Around) (outer:List Env) (s:Shared) (H:Hp),fJ kc (A.deeper (y4 q scope s.heap.objs.size f' (.ref c') cl))->PE (cxL X.prog X.w X.K X.mg base' N q scope f' (.ref c') cl A outer s H) body tl)
  (hdb:(x == ("__debug__" : Str))=false:=by decide) (he:starEach (e::es) X.env=(false,eval e X.env)::starEach es X.env:=by rfl) (hpl:(backTo pos (starEach es X.env)).any (·.1)=false:=by rfl) :
  PE X (.Call (.Name x p) (e::es) [] pos) (aJH Pt lpos q sp psL.length tl idx t):=by
 intro pins s σ H Q I h
 refine wpAny_Call_Name_kw (aDZ I hg hm ?_ hdb)
 refine PySem.W.callWith_K (h₀:=X.base) I.ok.mod.kin hk (dW (ha pos pins s σ H _ I h) λus s1 ⟨vs,us0,fl,c',pm,ct,o,H1,H2,e0,r,I2,sm,e1,e2,e3,e4,e5,hQ⟩=>⟨I2.kIn,?_⟩) he hpl
 subst e0
 generalize hcl:pH X.env scope.names []=cl at *
 have cels:=S.cells I2
 have clo:∀{y:Str} {d:Addr},cl.lookup y=some d->X.env.cells.lookup y=some d:=λ{y d} z=>rY cels (by rw[hcl];exact z)
 have lkp:∀{y:Str} {d:Addr},(y,NameKind.free)∈scope.names->X.env.cells.lookup y=some d->cl.lookup y=some d:=λ{y d} h1 h2=>by rw[<-hcl];exact yU cels h1 h2
 have inZ:∀{y:Str} {d:Addr},cl.lookup y=some d->d∈fl::cl.map (·.2):=λ{y d} z=>Qq9 _ (xX.mpr ⟨(y,d),PySem.mem_of_lookup z,rfl⟩)
 have memZ:∀d,d∈cl.map (·.2)->∃y,X.env.cells.lookup y=some d:=λd z=>by
  obtain⟨⟨y,d'⟩,hm,e⟩:=xX.mp z
  have e':d'=d:=e
  subst e'
  rw[<-hcl] at hm
  rcases aBK _ _ cels hm with q|q
  ·cases q
  ·exact⟨y,q⟩
 have keepB:∀b u,X.base.get? b=some u->(aGU X.base s1.heap (fl::cl.map (·.2))).get? b=some u:=λb u z=>y6 (I2.bk b u z) (.inl ⟨u,z⟩)
 have notfs:∀b∈frs X.stack,b∉fl::cl.map (·.2):=λb hb z=>by
  rcases yF.mp z with rfl|z
  ·exact e5 hb
  ·obtain⟨y,hy⟩:=memZ b z
   rcases yF.mp (I2.aD3 b hb) with q|q
   ·exact I2.cne y b hy q
   ·obtain⟨_,ob,eo,_⟩:=I2.ok.aAH.mem q
    exact absurd (yK (jY eo) (I2.ok.cab y b (hfn y) hy)) (Ru9 _)
 have aL3:aFk X.prog X.w X.K X.mg (aGU X.base s1.heap (fl::cl.map (·.2))) X.A X.stack s1 H2:=by
  refine⟨I2.ok.frames,I2.ok.mod.keeps keepB,λb u z=>?_,Ua9 (PySem.W.hideAll_size _ _),aJG I2.stack notfs,I2.aDX,I2.hok,I2.bare⟩
  obtain⟨z1,z2⟩:=aKo z
  refine⟨z1,?_⟩
  rcases z2 with ⟨u',z2⟩|z2
  ·exact(I2.bs b u' z2).2
  ·rcases yF.mp z2 with rfl|z2
   ·exact e3
   ·obtain⟨y,hy⟩:=memZ b z2
    exact I2.freeC y b hy
 have caps:aQ3 (aGU X.base s1.heap (fl::cl.map (·.2))) scope N psL cl (idx.map λj=>(σ[j]?).join):=by
  refine⟨S.kind,hco,hgen,S.nocell,hpre,S.nd,by rw[bP];exact S.len,λy hy=>?_,λy z d h1 h2=>I2.ok.inj y z d (clo h1) (clo h2),λy hy=>?_,λy d hy=>?_,λi y v h1 h2=>?_⟩
  ·have:=Sq9.mp hpar y hy
   simpa using this
  ·have hmem:=PySem.mem_of_lookup hy
   obtain⟨d,hd⟩:=cels _ hmem rfl
   exact⟨d,lkp hmem hd⟩
  ·obtain⟨v,oc,eo,ed⟩:=I2.cell y d (clo hy)
   exact⟨oc,v,y6 eo (.inr (inZ hy)),ed⟩
  ·obtain⟨j,z1,z2,z3⟩:=S.cap i y h1
   refine⟨z3,?_⟩
   rw[oR,z1] at h2
   have h2j:(σ[j]?).join=some v:=Option.some.inj h2
   have h2':σ[j]?=some (some v):=by
    cases qj:σ[j]? with
    |none=>rw[qj] at h2j;cases h2j
    |some w=>rw[qj] at h2j;rw[show w=some v from h2j]
   have hfree:=PySem.mem_of_lookup z3
   have hkind:=S.free _ hfree rfl
   obtain⟨m0,hn0,hl0⟩:=I2.loc
   obtain⟨u,ru,l⟩:=hl0 j y v z2 h2' (by rcases hkind with z|z;exact .inr (.inl z);exact .inr (.inr z))
   rcases l with ⟨z,_⟩|⟨_,d,ed,oc,eo,dd⟩
   ·rcases hkind with w|w
    ·rw[w] at z;cases z
    ·rw[w] at z;cases z
   ·exact⟨u,d,oc,ru,lkp hfree ed,y6 eo (.inr (inZ (lkp hfree ed))),dd⟩
 have lamK:=aQ4 (P:=X.prog) (w:=X.w) (K:=X.K) (mg:=X.mg) (N:=N) (ps:=psL) (y6 e1 (.inr Qx9)) e2 caps (hbody _ fl c' cl)
 have hC:Clo X.prog X.w X.K X.mg (aGU X.base s1.heap (fl::cl.map (·.2))) (kc+1) fl (aKn c' q psL.length tl (idx.map λj=>(σ[j]?).join)):=
  ⟨o,_,psL,y6 e1 (.inr Qx9),e2,lamK,λs us hl=>.of_eq (hbind cl pm (.ref c') ct us hl)⟩
 have hsp:=hQ fl c' H2 _ sm e4 hC
 have r2:Vals (vs ++ [.ref fl]) (us0 ++ [.ref fl]):=r.append (.cons rfl .nil)
 have hl:(us0 ++ [Value.ref fl]).length=ps.length:=by rw[<-r2.length];exact(F _).len _ _ _ _ hsp
 have hb':=hb s1 (us0 ++ [.ref fl]) I2.kIn (by rw[Rw9];exact hl)
 rw[Rw9] at hb'
 refine wpAny_call (codeAny_mono ((F _).run X.A X.stack s1 H2 ⟨us0 ++ [.ref fl],[]⟩ (us0 ++ [.ref fl]) (vs ++ [.ref fl]) Q E0 hr aL3 hb' r2 hsp) λr s' hq=>?_)
 cases r with
 |error e=>exact False.elim hq
 |ok fl=>
  cases fl with
  |ret u=>exact I2.after hq
  |next=>exact False.elim hq
  |brk=>exact False.elim hq
  |cont=>exact False.elim hq
def aGV(C:Addr->Sp->Prop)(i:Nat)(t:TA):TE:=λσ H Q=>∃f sp,σ[i]?=some (some (.ref f))/\C f sp/\t σ H λvs H1=>sp vs H1 Q E0
theorem aEr{i k:Nat}{x:Str}{p:Pos}{e:Expr}{es:List Expr}{t:TA}(hN:X.N[i]?=some x)(hv:Vis X.env.scope x)(hr:fJ k X.A)(ha:PA X (e::es) t)(hd:(x == ("__debug__" : Str))=false:=by decide)(hcd:(x == ("__classdict__" : Str))=false:=by decide)
  (he:starEach (e::es) X.env=(false,eval e X.env)::starEach es X.env:=by rfl) (hpl:(backTo pos (starEach es X.env)).any (·.1)=false:=by rfl) :
  PE X (.Call (.Name x p) (e::es) [] pos) (aGV (Clo X.prog X.w X.K X.mg X.base k) i t):=by
 intro pins s σ H Q I h
 obtain⟨f,sp,ei,hC,ht⟩:=h
 obtain⟨o,fd,ps,ef,ed,F,hb⟩:=hC.ex
 refine wpAny_Call_Name_kw (dW (aLG hN hv hd hcd pins s σ H (λv H'=>v=.ref f/\H'=H) I ⟨_,ei,rfl,rfl⟩) λu s0 ⟨v,H0,I0,rv,hvf,hH0⟩=>?_)
 subst hvf hH0
 obtain rfl:u=Value.ref f:=rv
 have hin:∀{pins' σ' H' s'},Inv X pins' σ' H' s'->W.Frag.In [(f,o)] s'.heap:=λ{pins' σ' H' s'} J a u z=>by
  rw[Rl9] at z
  split at z
  ·rename_i hb
   cases z
   rw[eq_of_beq hb]
   exact J.bk _ _ ef
  ·cases z
 have hkp:W.keepIn [(f,o)] (.ref f)=true:=by
  obtain⟨oc,od,odt,osl⟩:=o
  have:odt=.func fd:=ed
  subst this
  have z:List.lookup f [(f,({ cls:=oc,dict:=od,data:=.func fd,slots:=osl }:Obj))]=some { cls:=oc,dict:=od,data:=.func fd,slots:=osl }:=by rw[Rl9,beq_self_eq_true]
  unfold W.keepIn
  dsimp only
  rw[z]
 refine PySem.W.callWith_K (h₀:=s0.heap) (hin I0) hkp (dW (ha pos pins s0 σ H0 _ I0 ht) λus s1 ⟨vs,H1,I1,r,q⟩=>⟨hin I1,?_⟩) he hpl
 have hl:us.length=ps.length:=by rw[<-r.length];exact F.len _ _ _ _ q
 refine wpAny_call (codeAny_mono (F.run X.A X.stack s1 H1 ⟨us,[]⟩ us vs Q E0 hr I1.aL3 (hb s1 us hl) r q) λr s' hq=>?_)
 cases r with
 |error e=>exact False.elim hq
 |ok fl=>
  cases fl with
  |ret u=>exact I1.after hq
  |next=>exact False.elim hq
  |brk=>exact False.elim hq
  |cont=>exact False.elim hq
end
end L2
namespace L2
open PySem PySem.Spec PyProof.Rows
structure aM6(K:W.Frag)(fd:FuncData)(c Pt:Addr):Prop where
 code:fd.code=.ref c
 hd:PySem.W.codeHdIn K c Pt=true
theorem iC.okC{P:Program}{w:World}{K:W.Frag}{mg:Str->Option Value}{base:Heap}{x qual:Str}{st:Stmt}{f c Pt:Addr}{fd:FuncData}{N ps:List Str}{k:Nat}{sp:Sp}(F:iC K x qual st f fd)(hc:aM6 K fd c Pt)(S:aX N ps (aH st))(len:∀vs H Q E,sp vs H Q E->vs.length=ps.length)
  (hbody:∀(A:Around) (outer:List Env) (s:Shared) (H:Hp) (vs:List V) (Q:VK) (E:XK),fJ k (A.deeper (envOfC qual (aH st) s.heap.objs.size f (.ref c)))->sp vs H Q E->
   ∃t,PSs (aJh gE P w K mg base N qual (aH st) f (.ref c) A outer s H E).nox (aW st) t/\t { nx:=λ_ H'=>Q .non H',rt:=Q } (start N vs) H):bQ P w K mg base gE (k+1) f fd ps sp:=by
 obtain⟨oc,od,kV,doc,pm,an,cdv,ct,osl,rfl,lk,hcd⟩:=F.ex
 obtain rfl:cdv=.ref c:=hc.code
 refine aPh lk hcd S len λA outer s H vs Q E hr hsp=>?_
 obtain⟨t,h,q⟩:=hbody A outer s H vs Q E hr hsp
 exact⟨t,h.nox,q⟩
theorem aGk{β:Type}{b:Addr}{p:β}:∀{l:List (Addr×β)},l.lookup b=some p->(b,p)∈l
 |[],h=>by cases h
 |(d,x)::r,h=>by
  rw[Rl9] at h
  cases hb:b == d with
  |true=>rw[hb] at h;cases h;rw[eq_of_beq hb];exact .head _
  |false=>rw[hb] at h;exact .tail _ (aGk h)
theorem aLj{K:PySem.W.Frag}{mg mb:Str->Option Value}{k:Nat}{sp:Sp}{s₁:Shared}{vs:List Value}{ns:List Int}{tabs:List (Addr×Pos×Str)}(KX:K.In s₁.heap)(hns:s₁.heap.Ns mainGlobals mg)(hb:s₁.heap.Ns builtinsNs mb)(hbb:∀x:Str,x≠"__name__"->mb x=bootBuiltins x)(hlim:s₁.heap.NoLimit)(hbm:∃bm o,mg "__builtins__" = some (.ref bm)/\bm≠builtinsNs/\s₁.heap.get? bm=some o/\o.cls=.type "module"/\o.dict=some builtinsNs/\o.data=.plain)(hg:s₁.gens = #[])(ha:s₁.heap.get? a=some { cls:=.type "list",data:=.seq vs.toArray })(hi:IntsAre vs ns)(hl:ns.length<=sizeLine)(hr:fJ k callerA)(hT:∀t∈tabs,s₁.heap.get? t.1=some { cls:=.none,data:=.fields #[] }/\K.lookup t.1=none/\∃c,PySem.W.codeHdIn K c t.1=true)(hnd:(tabs.map (·.1)).Nodup)(F:∀base:Heap,K.In base->base.Ns mainGlobals mg->bQ P w K mg base gE k fa fd [x] sp)(hbind:∀(s:Shared) (u:Value),BindsTo s fd ⟨[u],[]⟩ [(x,u)])(hsp:∀H:Hp,(∀t∈tabs,H t.1=some (.ctb t.2.1 t.2.2))->bV K H a (ns.map V.int)->sp [.ref a] H (λv H'=>v=.bl true/\aP H H') λ_ _ _=>False) :
  codeAny (model P w) callerA (.call (.ref fa) ⟨[.ref a],[]⟩) (λr s'=>r=.ok (.ret (.bool true))/\OldK s₁.heap s'.heap/\s'.os=s₁.os/\AllBare s'.gens) s₁:=by
 have rv:=aCE hi
 have lenV:=hi.length
 have core:∀H:Hp,bV K H a (ns.map V.int)->yH P w H s₁.heap->(∀t∈tabs,H t.1=some (.ctb t.2.1 t.2.2))->(∀b u,H b=some u->(b=a/\K.lookup a=none/\∃o xs,u=.frz o (.lst xs))\/∃t∈tabs,b=t.1/\u=.ctb t.2.1 t.2.2)->
   codeAny (model P w) callerA (.call (.ref fa) ⟨[.ref a],[]⟩) (λr s'=>r=.ok (.ret (.bool true))/\OldK s₁.heap s'.heap/\s'.os=s₁.os/\AllBare s'.gens) s₁:=by
  intro H hS hok hTH hA
  have base_of:∀{b:Addr} {o:Obj},s₁.heap.get? b=some o->H b=none->(aAG s₁.heap H).get? b=some o:=λe n=>aHN e n
  have noA:∀{b:Addr} {o:Obj} {es:Array DictEntry} {ep:Nat},s₁.heap.get? b=some o->o.data=.dict es ep->H b=none:=λ{b o es ep} e d=>by
   cases q:H b with
   |none=>rfl
   |some u=>
    rcases hA b u q with ⟨e',_⟩|⟨t,ht,e',_⟩
    ·subst e'
     rw[ha] at e;cases e
     have d':Data.seq vs.toArray _=Data.dict es ep:=d
     cases d'
    ·rw[e',(hT t ht).1] at e;cases e
     have d':Data.fields _=Data.dict es ep:=d
     cases d'
  have nsK:∀{b:Addr} {m:Str->Option Value},s₁.heap.Ns b m->(aAG s₁.heap H).Ns b m:=λ{b m} ⟨o,es,ep,e,d,r⟩=>⟨o,es,ep,base_of e (noA e d),d,r⟩
  have hKb:K.In (aAG s₁.heap H):=λb o e=>base_of (KX b o e) (by
   cases q:H b with
   |none=>rfl
   |some u=>
    rcases hA b u q with ⟨e',hn,_⟩|⟨t,ht,e',_⟩
    ·rw[e',hn] at e;cases e
    ·rw[e',(hT t ht).2.1] at e;cases e)
  have hbm':∃bm o,mg "__builtins__" = some (.ref bm)/\bm≠builtinsNs/\(aAG s₁.heap H).get? bm=some o/\o.cls=.type "module"/\o.dict=some builtinsNs/\o.data=.plain:=by
   obtain⟨bm,ob,b1,b2,b3,b4,b5,b6⟩:=hbm
   refine⟨bm,ob,b1,b2,base_of b3 ?_,b4,b5,b6⟩
   cases q:H bm with
   |none=>rfl
   |some u=>
    rcases hA bm u q with ⟨e',_⟩|⟨t,ht,e',_⟩
    ·rw[e',ha] at b3
     cases b3
     exact absurd (show Value.type "list" = Value.type "module" from b4) (by decide)
    ·rw[e',(hT t ht).1] at b3
     cases b3
     exact absurd (show Value.none=Value.type "module" from b4) (by decide)
  have hM:Mod K mg (aAG s₁.heap H):=⟨hKb,nsK hns,⟨mb,nsK hb,hbb⟩,(let ⟨mc,h1,h2⟩:=hlim;⟨mc,nsK h1,h2⟩),hbm'⟩
  have e0:aFk P w K mg (aAG s₁.heap H) callerA [] s₁ H:=⟨rfl,hM,λb o e=>aJ3 e,Ua9 (aF3 _ _),trivial,λb hb=>absurd (show b∈([]:List Addr) from hb) (by simp),hok,.of_eq hg⟩
  refine codeAny_mono ((F _ hKb (nsK hns)).run callerA [] s₁ H ⟨[.ref a],[]⟩ [.ref a] [.ref a] _ _ hr e0 (hbind s₁ (.ref a)) (.cons rfl .nil) (hsp H hTH hS)) λr s' h=>?_
  cases r with
  |error e=>exact False.elim h
  |ok fl=>
   cases fl with
   |next=>exact False.elim h
   |brk=>exact False.elim h
   |cont=>exact False.elim h
   |ret u=>
    obtain⟨v,H',os,bare,un,hok',r',q,sm⟩:=h
    have q':v=.bl true:=q
    subst q'
    obtain rfl:u=Value.bool true:=r'
    have key:∀b o,s₁.heap.get? b=some o->s'.heap.get? b=some o\/∃c ps,PySem.W.codeHdIn K c b=true/\o={ cls:=.none,data:=.fields #[] }/\s'.heap.get? b=some { cls:=.none,data:=.fields ps }:=λb o e=>by
     cases q:H b with
     |none=>exact .inl (un.keep b o e q (by intro z;exact absurd (show b∈([]:List Addr) from z) (by simp)) (by simp))
     |some u=>
      rcases hA b u q with ⟨_,_,ob,xs,rfl⟩|⟨t,ht,e',rfl⟩
      ·have z2:=un.frzs b ob _ q
       obtain⟨e1,_⟩:=hok b _ q
       obtain⟨e2,_⟩:=hok' b _ z2
       rw[e] at e1;cases e1
       exact .inl e2
      ·obtain⟨ps,z,_⟩:=hok' b _ (sm b _ q)
       obtain⟨h1,_,c,hc⟩:=hT t ht
       rw[<-e'] at h1 hc
       rw[e] at h1
       exact .inr ⟨c,ps,hc,Option.some.inj h1,z⟩
    refine⟨rfl,⟨λb o e=>?_,λb o e=>?_⟩,os,bare⟩
    ·rcases key b o e with z|⟨c,ps,hc,rfl,z⟩
     ·exact .inl z
     ·refine .inr (.inl ⟨?_,rfl,#[],ps,rfl,?_⟩)
      ·obtain⟨oc,vs,_,_,_,_,_,_,_,f1,f2,f3,f4,_⟩:=PySem.W.codeHd_of_K KX hc
       exact⟨c,oc,vs,f1,f2,f3,f4⟩
      ·rw[z];simp
    ·rcases key b o e with z|⟨c,ps,hc,rfl,z⟩
     ·exact⟨_,z⟩
     ·exact⟨_,z⟩
 have lkT:∀t∈tabs,tabs.lookup t.1=some t.2:=by
  clear hT hsp core
  induction tabs with
  |nil=>intro t h;cases h
  |cons q r ih=>
   intro t ht
   rw[Rl9]
   rcases yF.mp ht with rfl|ht
   ·rw[beq_self_eq_true]
   ·have ne:t.1≠q.1:=λz=>(Rm9.mp hnd).1 (xX.mpr ⟨t,ht,z⟩)
    rw[beq_eq_false_iff_ne.mpr ne]
    exact ih (Rm9.mp hnd).2 t ht
 have memT:∀{b:Addr} {p:Pos×Str},tabs.lookup b=some p->(b,p)∈tabs:=λ{b p} h=>aGk h
 have naT:∀t∈tabs,t.1≠a:=λt ht z=>by
  have:=(hT t ht).1
  rw[z,ha] at this
  cases this
 have okT:∀(H:Hp) (t:Addr×Pos×Str),t∈tabs->cE P w H s₁.heap t.1 (.ctb t.2.1 t.2.2):=λH t ht=>⟨#[],(hT t ht).1,trivial,.inl rfl⟩
 cases hk:K.lookup a with
 |some o=>
  have e:=KX a o hk
  rw[ha] at e
  cases e
  refine core (λb=>(tabs.lookup b).map λp=>.ctb p.1 p.2) (.inr ⟨_,vs.toArray,_,hk,rfl,rfl,rfl,by rw[lX,lenV];exact hl,by simpa using rv⟩) (λb u z=>?_) (λt ht=>?_) λb u z=>?_
  ·obtain⟨p,hp,rfl⟩:=Qp9.mp z
   exact okT _ _ (memT hp)
  ·show(tabs.lookup t.1).map _=_
   rw[lkT t ht];rfl
  ·obtain⟨p,hp,rfl⟩:=Qp9.mp z
   exact .inr ⟨_,memT hp,rfl,rfl⟩
 |none=>
  refine core (λb=>if b=a then some (.frz { cls:=.type "list",data:=.seq vs.toArray } (.lst (ns.map V.int))) else (tabs.lookup b).map λp=>.ctb p.1 p.2) (.inl (.inr ⟨{ cls:=.type "list",data:=.seq vs.toArray },if_pos rfl⟩)) (λb u z=>?_) (λt ht=>?_) λb u z=>?_
  ·by_cases hb:b=a
   ·have z':=(if_pos hb).symm.trans z
    cases z'
    subst hb
    exact⟨ha,by rw[bP];exact hl,vs,_,rv,ha⟩
   ·have z':=(if_neg hb).symm.trans z
    obtain⟨p,hp,rfl⟩:=Qp9.mp z'
    exact okT _ _ (memT hp)
  ·show(if t.1=a then _ else (tabs.lookup t.1).map _)=_
   rw[if_neg (naT t ht),lkT t ht];rfl
  ·by_cases hb:b=a
   ·have z':=(if_pos hb).symm.trans z
    cases z'
    exact .inl ⟨hb,hk,_,_,rfl⟩
   ·have z':=(if_neg hb).symm.trans z
    obtain⟨p,hp,rfl⟩:=Qp9.mp z'
    exact .inr ⟨_,memT hp,rfl,rfl⟩
theorem aM7{l:PySem.W.OpenLaw}{n k:Nat}{XP:(Str->Option Value)->Heap->Prop}{YP:World->Heap->Prop}{d:DefRec}{K:Params->W.Frag}{sp:World->Sp}{tabs:List (Addr×Pos×Str)}(hn:l.most=some n)(hn2:n<=sizeLine)(hdf:d.params.defaults=[])(hr:fJ k callerA)(hnd:(tabs.map (·.1)).Nodup)(hY:∀(w:World) (h:Heap),YP w h->(K w.params).In h/\∀t∈tabs,h.get? t.1=some { cls:=.none,data:=.fields #[] })(hK:∀(w:World),∀t∈tabs,(K w.params).lookup t.1=none)(F:∀(w:World) (mg:Str->Option Value) (fa:Addr) (h:Heap),(K w.params).In h->h.Ns mainGlobals mg->mg d.name=some (.ref fa)->(∀t∈tabs,∃c,PySem.W.codeHdIn (K w.params) c t.1=true)/\
   ∃fd:FuncData,(∀(s:Shared) (u:Value),BindsTo s fd ⟨[u],[]⟩ [(x,u)])/\
    ∀base:Heap,(K w.params).In base->base.Ns mainGlobals mg->bQ l.prog w (K w.params) mg base gE k fa fd [x] (sp w)) (hsp:∀(w:World) (H:Hp) (a:Addr) (ns:List Int),ns.length<=n->(∀t∈tabs,H t.1=some (.ctb t.2.1 t.2.2))->bV (K w.params) H a (ns.map V.int)->sp w [.ref a] H (λv H'=>v=.bl true/\aP H H') λ_ _ _=>False) :
  PySem.W.WalkO q loose XP YP l.row.toRowW d [] (λf vs=>PySem.call f vs):=by
 refine Att.aH2 hn hdf λw s₀ s₁ mg mb fa o pm cd doc a vs ns G Y ho hd hcd hmg hobj hints hlen hg=>?_
 obtain⟨KX,hT⟩:=hY w _ Y
 obtain⟨hcd',fd,hb,hF⟩:=F w mg fa _ KX G.T.g hmg
 exact aLj KX G.T.g G.T.b G.T.builtins G.T.nolimit G.T.bmain hg hobj hints (Rp9 hlen hn2) hr (λt ht=>⟨hT t ht,hK w t ht,hcd' t ht⟩) hnd hF hb (λH hO hS=>hsp w H a ns hlen hO hS)
section
variable{X:Cx}{σ:St}{H:Hp}{Q:VK}
theorem aM8{sp:(Addr->Sp->Prop)->Sp}{n:Nat}{idx:List Nat}(h:t σ H λvs H1=>H1 Pt=some (.ctb lpos q)/\
  ∀(f c':Addr) (H2:Hp) (C:Addr->Sp->Prop),aP H1 H2->H2 c'=some (.cod q)->C f (aKn c' q n tl (idx.map λj=>(σ[j]?).join))->sp C (vs ++ [.ref f]) H2 Q E0):aJH Pt lpos q sp n tl idx t σ H Q:=h
theorem aIs{C:Addr->Sp->Prop}{i:Nat}(e:σ[i]?=some (some (.ref f)))(hC:C f sp)(h:t σ H λvs H1=>sp vs H1 Q E0):aGV C i t σ H Q:=⟨f,sp,e,hC,h⟩
end
end L2
namespace L2.Z
open PySem PySem.Spec PyProof.Rows L2
section
variable{X:Cx}{c Pt:Addr}{q:Str}{params:Arguments}{body:Expr}{scope:Scope}{pos lpos:Pos}{cl:List (Str×Addr)}
structure QAL(X:Cx)(es:List Expr)(params:Arguments)(body:Expr)(scope:Scope)(lpos:Pos)(Pt:Addr)(q:Str)(cl:List (Str×Addr))(t:TA):Prop where
 h:PAL X es params body scope lpos Pt q cl t
theorem wA(hcode:X.env.code=.ref c)(hC:PySem.W.codeHdIn X.K c Pt=true)(hq:X.env.qual ++ "<lambda>" = q)(hdef:defaultsOf params X.env=([],[])){N:List Str}{n:Nat}{idx:List Nat}(S:fN X scope N n idx) :
  QAL X [.Lambda params body scope lpos] params body scope lpos Pt q (pH X.env scope.names []) qS:=⟨aM3 hcode hC hq hdef S⟩
theorem mH{e:Expr}{es:List Expr}{te:TE}{t:TA}(ha:QE X e te)(hr:QAL X es params body scope lpos Pt q cl t)(hn:noStar e=true:=by rfl):QAL X (e::es) params body scope lpos Pt q cl (bL te t):=
 ⟨aM4 ha.h hr.h (bW hn)⟩
theorem sF{f:Addr}{fd:FuncData}{ps psL N:List Str}{idx:List Nat}{sp:(Addr->Sp->Prop)->Sp}{k kc:Nat}{x:Str}{p:Pos}{e:Expr}{es:List Expr}{t:TA}{tl:TE}
  (F:∀base':Heap,bQ X.prog X.w X.K X.mg base' gE k f fd ps (sp (Clo X.prog X.w X.K X.mg base' (kc+1)))) (hr:fJ k X.A) (hg:Gl X x) (hm:X.mg x=some (.ref f)) (hk:W.keepIn X.K (.ref f)=true) (hb:Binds X.K fd ps [])
  (hfn:∀y,X.fn y=true) (S:fN X scope N psL.length idx) (hpre:N.take psL.length=psL) (hpar:psL.all (λx=>scope.names.lookup x == some .local)=true) (hco:scope.isCoroutine=false) (hgen:scope.isGenerator=false)
  (hbind:∀(cl:List (Str×Addr)) (pm cd ct:Value) (us:List Value),us.length=psL.length->bindArgs (aGj q params body scope cl pm cd ct) ⟨us,[]⟩=pure (psL.zip us))
  (ha:QAL X (e::es) params body scope lpos Pt q (pH X.env scope.names []) t)
  (hbody:∀(base':Heap) (f' c':Addr) (cl:List (Str×Addr)) (A:Around) (outer:List Env) (s:Shared) (H:Hp),fJ kc (A.deeper (y4 q scope s.heap.objs.size f' (.ref c') cl))->(A.deeper (y4 q scope s.heap.objs.size f' (.ref c') cl)).units+9 < cLine->QE (cxL X.prog X.w X.K X.mg base' N q scope f' (.ref c') cl A outer s H) body tl)
  (hn:(e::es).all noStar=true:=by rfl) (hdb:(x == ("__debug__" : Str))=false:=by decide) :
  QE X (.Call (.Name x p) (e::es) [] pos) (aJH Pt lpos q sp psL.length tl idx t):=
 ⟨L2.aM5 F hr hg hm hk hb hfn S hpre hpar hco hgen hbind ha.h (λbase' f' c' cl A outer s H hr'=>(hbody base' f' c' cl A outer s H hr' (jO hr')).h) hdb (bW (jP hn).1) (kT (jP hn).2)⟩
theorem aEr{i k:Nat}{x:Str}{p:Pos}{e:Expr}{es:List Expr}{t:TA}(hr:fJ k X.A)(ha:QA X (e::es) t)(hN:X.N[i]?=some x:=by rfl)(hv:Vis X.env.scope x:=by first|exact Or.inl rfl|exact Or.inr (Or.inl rfl)|exact Or.inr (Or.inr rfl))
  (hn:(e::es).all noStar=true:=by rfl) (hd:(x == ("__debug__" : Str))=false:=by decide) (hcd:(x == ("__classdict__" : Str))=false:=by decide) :
  QE X (.Call (.Name x p) (e::es) [] pos) (aGV (Clo X.prog X.w X.K X.mg X.base k) i t):=⟨L2.aEr hN hv hr ha.h hd hcd (bW (jP hn).1) (kT (jP hn).2)⟩
end
end L2.Z
namespace PySem
set_option maxRecDepth 100000
namespace F
theorem aJI:typeLookup (.type "list_reverseiterator") "__len__" = pure none:=by rw[typeLookup_type,builtinLookup_eq_fast];kernel_rfl
theorem aM9:typeLookup (.type "list_reverseiterator") "__length_hint__" = pure (some (.builtin "list_reverseiterator.__length_hint__")):=by rw[typeLookup_type,builtinLookup_eq_fast];kernel_rfl
end F
section
variable{prog:Program}{w:World}{A:Around}{E:Value->Shared->Prop}{s:Shared}
theorem aEs{i:Int}{Q:Bool->Shared->Prop}(hit:s.heap.IsRevIter it l i)(h:Q false s):wpAny (model prog w) A (Builtin.List.listLengthHint (.ref it)) Q E s:=by
 unfold Builtin.List.listLengthHint;refine wpAny_bind (wpAny_specialOf hit.typeIs F.aJI ?_)
 show wpAny _ A (specialOf (Value.ref it) (Str.ofString "__length_hint__") >>= _) _ _ _
 refine wpAny_bind (wpAny_specialOf hit.typeIs F.aM9 ?_)
 generalize hid:("list_reverseiterator.__length_hint__" : String)=id0
 wp_delta
 rw[show splitId id0=some ("list_reverseiterator","__length_hint__") from by subst hid;decide +kernel]
 subst hid
 refine wpAny_bind (wpAny_isInstance (T:="list_reverseiterator") (b:=true) hit.typeIs (by rw[isSubtype_type];kernel_rfl) ?_)
 exact wpAny_ite_split (λz=>absurd z (by decide)) λ_=>wpAny_ite_split (λ_=>wpAny_ite_split (λz=>absurd z (by decide +kernel)) λ_=>wpAny_pure h) λz=>absurd (by decide +kernel) z
end
end PySem
namespace PySem
section
variable{prog:Program}{w:World}{A:Around}{E:Value->Shared->Prop}{s:Shared}
theorem aCO{R:Result->Shared->Prop}{items:Array Value}(hh:A.handled=none)(hit:s.heap.IsRevIter it l ((items.size:Int) - 1))(hl:s.heap.IsList l items)(hne:l≠it)(hlen:items.size<=sizeLine)(S:Addr)(res:Value)(c₀:Nat)(hS:s.heap.get? S=some { cls:=.type "list",data:=.seq #[] c₀ })(hSl:S≠l)(hSI:S≠it)(hR:∀h' tk acc' c',(∀b o,b≠S->b≠it->s.heap.get? b=some o->h'.get? b=some o)->h'.get? S=some { cls:=.type "list",dict:=none,data:=.seq acc' c',slots:=#[] }->
   ItemsOf (λi v=>items[items.size - 1 - i]?=some v) acc' items.size->R (.ok (.ret res)) { s with heap:=h',toks:=tk }) :
  wpAny (model prog w) A.in1 (Builtin.List.listExtendWith (.ref S) (.ref it) res) (λfin s'=>match fin with|.done f=>R (.ok f) s'|.again k=>k.quiet=true/\codeAny (model prog w) A k R s') (λe s'=>R (.error e) s') s:=by
 have hSf:S∉[it,l]:=by simp[hSI,hSl]
 have W:=(Walks.listRev (prog:=prog) (w:=w) (A:=A.in1) hh it l hne items).toS
 unfold Builtin.List.listExtendWith;refine wpAny_bind (wpAny_typeOf (T:="list_reverseiterator") hit.typeIs ?_)
 have h1:Builtin.List.listSameRef (.ref S) (.ref it)=false:=by simp[Builtin.List.listSameRef,hSI]
 have h2:(Value.type "list_reverseiterator" == Value.type "list")=false:=by decide
 have h3:(Value.type "list_reverseiterator" == Value.type "tuple")=false:=by decide
 simp only[h1,h2,h3,Sc9,Bool.or_false,if_false]
 refine wpAny_bind (wpAny_pyIter_revIter hit (wpAny_bind (wpAny_holding (aEs hit ?_))))
 refine wpAny_ite_split (λz=>by cases z) (λ_=>wpAny_pure ⟨plainId_quiet F.plain_extend_loop _,?_⟩)
 refine codeAny_extend_loopS W hlen S hSf res items.size 0 _ #[] c₀ rfl (Rn9 _) ⟨Rn9 _,?_,hl⟩ hS (ItemsOf.nil _) λs' acc' c' hm hS' hacc=>?_
 ·rw[show(items.size:Int) - 1 - ((0:Nat):Int)=(items.size:Int) - 1 by omega]
  exact hit
 ·rw[Moved.eq_with hm]
  exact hR s'.heap s'.toks acc' c' (λb o hb hi e=>hm.heap b o (by simp[hb,hi]) e) hS' hacc
theorem aFo{Q:Value->Shared->Prop}{items:Array Value}(hh:A.handled=none)(hit:s.heap.IsRevIter it l ((items.size:Int) - 1))(hl:s.heap.IsList l items)(hne:l≠it)(hlen:items.size<=sizeLine)(hQ:∀h' tk acc' c',(∀b o,b≠it->s.heap.get? b=some o->h'.get? b=some o)->
   h'.get? s.heap.objs.size=some { cls:=.type "list",dict:=none,data:=.seq acc' c',slots:=#[] }->ItemsOf (λi v=>items[items.size - 1 - i]?=some v) acc' items.size->Q (.ref s.heap.objs.size) { s with heap:=h',toks:=tk }) :
  wpAny (model prog w) A (call (.type "list") [.ref it]) Q E s:=by
 have lit:it < s.heap.objs.size:=let ⟨_,e,_⟩:=hit;jY e
 have ll:l < s.heap.objs.size:=let ⟨_,e,_⟩:=hl;jY e
 have hS:(s.heap.push { cls:=.type "list",data:=.seq #[] }).get? s.heap.objs.size=some { cls:=.type "list",data:=.seq #[] }:=by exact yL _ rfl
 have hS₂:=Sl9 (Obj.mapSeq λ_=>(#[]:Array Value)) hS rfl
 have old:∀b o,s.heap.get? b=some o->((s.heap.push { cls:=.type "list",data:=.seq #[] }).update s.heap.objs.size (Obj.mapSeq λ_=>(#[]:Array Value))).get? b=some o:=
  λb o e=>(Tm9 _ _ (Se9 (jY e))).trans (kO _ e)
 refine callType_codes (Q₁:=λx t=>x=.ref s.heap.objs.size/\t={ s with heap:=s.heap.push { cls:=.type "list",data:=.seq #[] } }) F.called_list (F.typeCall_list_1 _) F.entry_list_init (code_list_new _ ⟨rfl,rfl⟩) ?_
 rintro x t ⟨rfl,rfl⟩
 refine⟨⟨_,hS,rfl⟩,F.args_list_init_2 _ _,?_⟩
 show wpAny _ _ (Builtin.List.listItems (.ref s.heap.objs.size) >>= λold=>Builtin.List.listUpdate (.ref s.heap.objs.size) (λ_=>#[]) >>= λ_=>letGo old.toList.reverse >>= λ_=>Builtin.List.listExtendWith (.ref s.heap.objs.size) (.ref it) .none) _ _ _
 refine wpAny_bind (wpAny_listItems hS rfl ?_)
 show wpAny _ _ (updateSeq s.heap.objs.size (λ_=>#[]) >>= λ_=>letGo (#[]:Array Value).toList.reverse >>= λ_=>Builtin.List.listExtendWith (.ref s.heap.objs.size) (.ref it) .none) _ _ _
 refine wpAny_bind (wpAny_updateSeq hS rfl (wpAny_bind (wpAny_letGo (aCO (A:=A.in1) hh (hit.at λo e=>old _ _ e) (hl.at λo e=>old _ _ e) hne hlen s.heap.objs.size .none _ hS₂ (Se9 ll) (Se9 lit) λh' tk acc' c' hk hS' hacc=>?_))))
 exact⟨rfl,hQ h' tk acc' c' (λb o hb e=>hk b o (vU (jY e)) hb (old b o e)) hS' hacc⟩
end
end PySem
namespace L2
open PySem PySem.Spec PyProof.Rows
section
variable{X:Cx}
def aEt(t:TA):TE:=λσ H Q=>t σ H λvs H1=>∃l xs,vs=[.ref l]/\H1 l=some (.lst xs)/\∀q,H1 q=none->Q (.ref q) (upd H1 q (.lst xs.reverse))
theorem aNa{xs:List V}{us:List Value}(r:Vals xs us):Vals xs.reverse us.reverse:=by
 induction r with
 |nil=>exact .nil
 |cons h t ih=>
  simp only[List.reverse_cons]
  exact ih.append (.cons h .nil)
theorem aJJ{e:Expr}{t:TA}{p1 p2 pos1 pos2:Pos}(hc:X.calm=true)(hg1:Gl X "list")(hm1:X.mg "list" = none)(hg2:Gl X "reversed")(hm2:X.mg "reversed" = none)(he:PA X [e] t)(hn:noStar e=true:=by rfl) :
  PE X (.Call (.Name "list" p1) [.Call (.Name "reversed" p2) [e] [] pos2] [] pos1) (aEt t):=by
 intro pins s σ H Q I h
 refine Call_ (uA I hg1 hm1 rZ (PyProof.Rows.callWith_type1 (Calls.spliced_cons ?_) rfl rfl))
 refine Call_ (uA I hg2 hm2 boot_reversed (PyProof.Rows.callWith_type1 (dW (he pos2 pins s σ H _ I h) λus s1 ⟨vs,H1,I1,r1,l,xs,ex,hl,q⟩=>?_) (bW hn) rfl))
 subst ex
 obtain⟨u,rfl,ru⟩:=vals1 r1
 obtain rfl:u=Value.ref l:=ru
 obtain⟨hz,its,n,rv,eo⟩:=I1.hok l _ hl
 have hlist:s1.heap.IsList l its.toArray:=⟨_,eo,rfl,n,rfl⟩
 refine call_reversed_list hlist (Calls.spliced_nil ?_)
 have hll:l < s1.heap.objs.size:=jY eo
 refine aFo (it:=s1.heap.objs.size) (l:=l) (items:=its.toArray) (I.ok.hd hc) ⟨_,yL _ rfl,rfl,rfl⟩ ⟨_,kO _ eo,rfl,n,rfl⟩ (vU hll) (by rw[lX,<-rv.length];exact hz) λh' tk acc' c' hk hS ha=>?_
 have eacc:acc'.toList=its.reverse:=by
  obtain⟨h1,h2⟩:=ha
  refine List.ext_getElem? λi=>?_
  by_cases hi:i < acc'.size
  ·have e1:acc'[i]?=some acc'[i]:=Tc9 hi
   have e2:=h2 i _ e1
   rw[Tu9,e1,List.getElem?_reverse (by rw[h1,lX] at hi;exact hi)]
   rw[<-e2,lX,List.getElem?_toArray]
  ·rw[Rz9 (by rw[Rg9];omega),Rz9 (by rw[Th9];rw[h1,lX] at hi;omega)]
 have hv:Vals xs.reverse acc'.toList:=by rw[eacc];exact aNa rv
 have sz:s1.heap.objs.size<=(s1.heap.push (revObj l ((its.toArray.size:Int) - 1))).objs.size:=by rw[Rv9];omega
 exact⟨.ref _,_,I1.laid (t':=tk) (o:=.lst xs.reverse) (λb u e=>hk b u (vU (jY e)) (kO _ e)) sz ⟨by rw[Th9];exact hz,acc'.toList,c',hv,hS⟩,rfl,q _ (I1.hok.fresh sz)⟩
end
end L2
namespace L2
open PySem PySem.Spec PyProof.Rows
section
variable{X:Cx}
def aNb(K:W.Frag):List V->Hp->VK->Prop:=λvs H Q=>∃(p:Addr) (ns:List Int),vs=[.ref p]/\bV K H p (ns.map V.int)/\ns≠[]/\∀m,m∈ns->(∀x∈ns,m<=x)->Q (.int m) H
theorem aLk(hc:X.calm=true):eC X (.builtin "min") (aNb X.K):=by
 intro pins s σ H vs us Q I r h
 obtain⟨p,ns,rfl,hq,hne,q⟩:=h
 obtain⟨u,rfl,rx⟩:=vals1 r
 cases rx
 obtain⟨its,r',pl,hz⟩:=I.list hq
 have hi:=intsAre_of r'
 obtain⟨xs,hx⟩:=hi.allInts.items
 have e1:ns=xs.toList.map (·.1):=by rw[<-nums_intItems,<-hx];exact(show numsOf its.toArray.toList=ns from hi.numsOf).symm
 have hsz:0 < xs.size:=by
  have z:=Sj9.mpr hne
  rw[e1,bP,Rg9] at z
  exact z
 refine min_intList (I.ok.hd hc) (hx▸pl.isList:s.heap.IsList p (intItems xs)) hsz λv h' tk hv hk=>?_
 obtain⟨t,rfl⟩:=intItems_at hv
 obtain⟨h1,h2⟩:=argBest_lt (numAt xs) (xs.size - 1)
 refine⟨.int _,H,I.kept (t':=tk) hk,⟨t,rfl⟩,q _ ?_ λx hx'=>?_⟩
 ·rw[e1,numAt_eq];exact getD_mem (by rw[bP,Rg9];omega)
 ·rw[e1] at hx'
  obtain⟨j,hj,rfl⟩:=mem_getD hx'
  rw[bP,Rg9] at hj
  rw[<-numAt_eq];exact h2 j (by omega)
theorem aOU{K:W.Frag}{H:Hp}{Q:VK}{p:Addr}{ns:List Int}(h1:bV K H p (ns.map V.int))(hne:ns≠[])(h:∀m,m∈ns->(∀x∈ns,m<=x)->Q (.int m) H):aNb K [.ref p] H Q:=⟨p,ns,rfl,h1,hne,h⟩
def aEu:TE:=λ_ H Q=>(∀p,H p=none->Q (.ref p) (upd H p (.dK [])))\/∀p,H p=none->Q (.ref p) (upd H p (.dT []))
theorem aNc:PE X (.Dict [] [] pos) aEu:=by
 intro pins s σ H Q I h
 rcases h with h|h
 ·exact aMg pins s σ H Q I h
 ·exact aMh pins s σ H Q I h
theorem aLl{H:Hp}{Q:VK}(h:∀p,H p=none->Q (.ref p) (upd H p (.dK []))):aEu σ H Q:=.inl h
theorem aGl{H:Hp}{Q:VK}(h:∀p,H p=none->Q (.ref p) (upd H p (.dT []))):aEu σ H Q:=.inr h
def Itw(hi:Int)(n:Nat):It:=⟨λi _=>i < n,λi H x H'=>H'=H/\x=.int (hi - i),λi _=>n<=i⟩
theorem aLm{P:Program}{w:World}{K:W.Frag}{tg:Expr}(it:Addr)(hi:Int)(n:Nat):Turn P w K tg (Itw hi n) [it] it (λi h=>IsRangeIter h it (hi+(i:Nat) * -1) ((n:Int) - (i:Nat)) (-1)) where
 mem:=by simp
 obj:=λi h st b hb=>by
  have e:b=it:=by simpa using hb
  rw[e]
  exact⟨_,st,λv z=>by
   have z':Data.fields _=Data.cell v:=z
   cases z'⟩
 keep:=λi h h' st k=>k it (by simp) _ st
 item:=by
  intro X hP hw hK hc i pins s σ H E I hf st hg
  subst hP hw hK
  obtain⟨f0,f1,f2,f3,f4,f5⟩:=hf it (by simp)
  refine(Walks.range (prog:=X.prog) (w:=X.w) (I.ok.hd hc) it hi (-1) n).item i s _ _ hg st λv h' tk hv st' kk=>?_
  obtain⟨t,rfl⟩:=hv
  refine⟨_,rfl,aJ6 (s:={ s with heap:=h',toks:=tk }) (n:="range_iterator") st' rfl rfl (by decide) ⟨.int (hi - i),H,I.turned (λb o hb e=>kk b o (by simpa using hb) e) f0 f1 f3 f4 f5,⟨t,?_⟩,⟨rfl,rfl⟩,st',λb hb=>(hf b hb).1⟩⟩
  congr 1
  omega
 done:=by
  intro X hP hw hK hc i pins s σ H E I hf st hg
  subst hP hw hK
  obtain⟨f0,f1,f2,f3,f4,f5⟩:=hf it (by simp)
  exact wpAny_pyNext_range_end (I.ok.hd hc) st (by have:n<=i:=hg;omega) λh' eb=>⟨rfl,I.turned (t':=s.toks) (λb o hb e=>eb b o hb e) f0 f1 f3 f4 f5⟩
 self:=λ_ _ _ _ _ st h=>wpAny_pyIter_rangeiter st h
theorem aGm(a b:Int):Builtin.Range.rangeSize a b (-1)=(((a - b).toNat:Nat):Int):=by
 unfold Builtin.Range.rangeSize
 rw[if_neg (by decide)]
 split
 ·rw[show -(-1:Int)=1 from rfl,Int.ediv_one];omega
 ·omega
theorem small_down{a b:Int}(h1:-(2 ^ 62)<=a)(h2:a < 2 ^ 62)(h3:-(2 ^ 62)<=b)(h4:b < 2 ^ 62):Builtin.Range.small a b (-1)=true:=by
 unfold Builtin.Range.small
 simp only[aGm,Builtin.Range.rangeFitsLong,Ro9,Bool.or_eq_true,decide_eq_true_eq,beq_iff_eq]
 rw[if_neg (by decide)]
 simp only[Ro9,decide_eq_true_eq]
 omega
def aNd(ta:TA):TI:=λσ H R=>ta σ H λvs H1=>∃i j:Int,vs=[.int i,.int j,.int (-1)]/\(-(2 ^ 62)<=i/\i < 2 ^ 62/\-(2 ^ 62)<=j/\j < 2 ^ 62)/\R (Itw i (i - j).toNat) H1
theorem aLn{a b c:Expr}{ta:TA}{p pos:Pos}{tg:Expr}(hg:Gl X "range")(hm:X.mg "range" = none)(ha:PA X [a,b,c] ta)(hn:[a,b,c].all noStar=true:=by rfl):PI X tg (.Call (.Name "range" p) [a,b,c] [] pos) (aNd ta):=by
 intro pins s σ H R I h
 refine Call_ (uA I hg hm boot_range (PyProof.Rows.callWith_type1 (dW (ha pos pins s σ H _ I h) λus s1 ⟨vs,H1,I1,r1,i,j,e,⟨q1,q2,q3,q4⟩,q⟩=>?_) (bW (jP hn).1) (kT (jP hn).2)))
 subst e
 obtain⟨u1,us1,rfl,⟨t1,rfl⟩,r2⟩ : ∃u us',us=u::us'/\RelV (.int i) u/\Vals [.int j,.int (-1)] us':=by cases r1 with|cons h t=>exact⟨_,_,rfl,h,t⟩
 obtain⟨u2,u3,rfl,⟨t2,rfl⟩,⟨t3,rfl⟩⟩:=vals2 r2
 refine call_range_3 (by decide) ?_ (.inl (PyProof.noPylong_small (by decide)))
 refine wpAny_pyIter_range (IsRange.new ..) (small_down q1 q2 q3 q4) ?_
 have I2:Inv X pins σ H1 { s1 with heap:=s1.heap.push { cls:=.type "range",data:=.fields #[.int i t1,.int j t2,.int (-1) t3] } }:=I1.kept (t':=s1.toks) λb o e=>kO _ e
 refine⟨_,[_],_,_,H1,rfl,I2.kept (t':=s1.toks) λb o e=>kO _ e,aLm _ i (i - j).toNat,?_,λb hb=>?_,q⟩
 ·show IsRangeIter _ _ (i+((0:Nat):Int) * -1) ((((i - j).toNat:Nat):Int) - ((0:Nat):Int)) (-1)
  rw[show i+((0:Nat):Int) * -1=i by omega,show(((i - j).toNat:Nat):Int) - ((0:Nat):Int)=Builtin.Range.rangeSize i j (-1) by rw[aGm];omega]
  exact yL _ rfl
 ·have e:b=(s1.heap.push { cls:=.type "range",data:=.fields #[.int i t1,.int j t2,.int (-1) t3] }).objs.size:=by simpa using hb
  subst e
  exact I2.aHQ (gB _) (I2.hok.fresh (gB _))
theorem aNe{R:It->Hp->Prop}(h:ta σ H λvs H1=>∃i j:Int,vs=[.int i,.int j,.int (-1)]/\(-(2 ^ 62)<=i/\i < 2 ^ 62/\-(2 ^ 62)<=j/\j < 2 ^ 62)/\R (Itw i (i - j).toNat) H1):aNd ta σ H R:=h
theorem aOV{hi:Int}{n:Nat}{σ:St}{H:Hp}{nx:St->Hp->Prop}{rt:VK}{g:TG}{tb:TS}(Pv:Nat->St->Hp->Prop)(h0:Pv 0 σ H)
  (hs:∀i σ H,i < n->Pv i σ H->g (.int (hi - i)) σ H λσ2 H2=>tb ⟨Pv (i+1),rt,nx,Pv (i+1)⟩ σ2 H2) (hd:∀σ H,Pv n σ H->nx σ H) :
  ∃W:Nat->Nat->St->Hp->Prop,(∃m,W 0 m σ H)/\∀i m σ H,W i m σ H->
   ((Itw hi n).stop i H/\nx σ H)\/((Itw hi n).go i H/\∃N:St->Hp->Prop,(∀σ' H',N σ' H'->∃m',m' < m/\W (i+1) m' σ' H')/\∀x H',(Itw hi n).yld i H x H'->g x σ H' λσ2 H2=>tb ⟨N,rt,nx,N⟩ σ2 H2):=by
 refine⟨λi m σ H=>m=n - i/\i<=n/\Pv i σ H,⟨n,by omega,Rn9 _,h0⟩,?_⟩
 rintro i m σ H ⟨rfl,hi',p⟩
 by_cases h:i < n
 ·refine .inr ⟨h,Pv (i+1),λσ' H' p'=>⟨n - (i+1),by omega,rfl,h,p'⟩,?_⟩
  rintro x H' ⟨rfl,rfl⟩
  exact hs i σ H' h p
 ·have e:i=n:=by omega
  subst e
  exact .inl ⟨gB _,hd σ H p⟩
end
end L2
namespace L2.Z
open PySem PySem.Spec PyProof.Rows L2
section
variable{X:Cx}{tg:Expr}
theorem aFp{e:Expr}{t:TA}{p1 p2 pos1 pos2:Pos}(hc:X.calm=true)(hg1:Gl X "list")(hm1:X.mg "list" = none)(hg2:Gl X "reversed")(hm2:X.mg "reversed" = none)(he:QA X [e] t)(hn:noStar e=true:=by rfl) :
  QE X (.Call (.Name "list" p1) [.Call (.Name "reversed" p2) [e] [] pos2] [] pos1) (aEt t):=⟨L2.aJJ hc hg1 hm1 hg2 hm2 he.h hn⟩
theorem y7{pos:Pos}:QE X (.Dict [] [] pos) aEu:=⟨L2.aNc⟩
theorem aGW{a b c:Expr}{ta:TA}{p pos:Pos}(hg:Gl X "range")(hm:X.mg "range" = none)(ha:QA X [a,b,c] ta)(hn:[a,b,c].all noStar=true:=by rfl):QI X tg (.Call (.Name "range" p) [a,b,c] [] pos) (aNd ta):=⟨L2.aLn hg hm ha.h hn⟩
theorem aDe{P:Program}{w:World}{K:W.Frag}{mg:Str->Option Value}{base:Heap}{i k:Nat}{x:Str}{p pos:Pos}{e:Expr}{es:List Expr}{t:TA}(hr:fJ k X.A)(ha:QA X (e::es) t)(hP:X.prog=P:=by rfl)(hw:X.w=w:=by rfl)(hK:X.K=K:=by rfl)(hg:X.mg=mg:=by rfl)(hB:X.base=base:=by rfl)
  (hN:X.N[i]?=some x:=by rfl) (hv:Vis X.env.scope x:=by first|exact Or.inl rfl|exact Or.inr (Or.inl rfl)|exact Or.inr (Or.inr rfl))
  (hn:(e::es).all noStar=true:=by rfl) (hd:(x == ("__debug__" : Str))=false:=by decide) (hcd:(x == ("__classdict__" : Str))=false:=by decide) :
  QE X (.Call (.Name x p) (e::es) [] pos) (aGV (Clo P w K mg base k) i t):=by
 subst hP hw hK hg hB
 exact aEr hr ha hN hv hn hd hcd
end
end L2.Z
namespace L2
open PySem
section
variable{σ:St}{H:Hp}{Q:VK}
theorem aJK(h:t σ H λvs H1=>∃l xs,vs=[.ref l]/\H1 l=some (.lst xs)/\∀q,H1 q=none->Q (.ref q) (upd H1 q (.lst xs.reverse))):aEt t σ H Q:=h
end
end L2
namespace L2
open PySem PySem.Spec PySem.W PyProof.Rows
theorem aLo{A:Around}(hh:A.handled=none)(I d:Addr)(hne:d≠I)(es:Array DictEntry)(ep:Nat) :
  Walks prog w A I [I,d] [I] es.size (λi v=>∃e,es[i]?=some e/\v=e.key) (λi h=>It4 "dict_keyiterator" h I d i es.size ep/\Raw h d es ep) where
 sub:=λb hb=>yF.mpr (.inl (by simpa using hb))
 frame:=λ_ _ _ st hk=>⟨st.1.keep λo e=>hk I (by simp) o e,st.2.keep λo e=>hk d (by simp) o e⟩
 item:=λi s Q E hi st hQ=>by
  have hx:es[i]?=some es[i]:=Tc9 hi
  refine aIn st.1 st.2 hx λh' a b=>hQ es[i].key h' s.toks ⟨_,hx,rfl⟩ ⟨a,st.2.keep λo e=>b.extBut d o hne e⟩ λb' o hb e=>b.extBut b' o (λz=>hb (Qu9.mpr z)) e
 done:=λs Q E st hQ=>aJA hh st.1 st.2 (gB _) λh' z=>hQ h' s.toks λb o hb e=>z b o (λy=>hb (Qu9.mpr y)) e
 self:=λ_ _ _ _ st hQ=>wpAny_pyIter_keyiter st.1 hQ
theorem aLp{es:Array DictEntry}{ep:Nat}(lo:(d == sysModules)=false):KdlSrc prog w "dict" d d es.size (λi v=>∃e,es[i]?=some e/\v=e.key) (λh=>Raw h d es ep) where
 type:=λ_ hm=>hm.ty
 there:=λ_ hm=>let ⟨_,e,_⟩:=hm;⟨jY e,jY e⟩
 keep:=λ_ _ hm hk=>hm.keep λo e=>hk d (.inl rfl) o e
 notList:=by decide
 notTuple:=by decide
 hint:=λ_ _ _ _ hm hq=>kdl_hint_dict hm.ty hq
 iter:=λ_ _ hh hm=>⟨_,_,(λ_ _ hq=>aGR lo hm hq),aLo hh _ d (vU (let ⟨_,e,_⟩:=hm;jY e)) es ep,⟨⟨_,yL _ rfl,rfl,rfl⟩,hm.keep λo e=>kO _ e⟩⟩
section
variable{X:Cx}
def aJL:List V->Hp->VK->Prop:=λxs H Q=>∃(d:Addr) (kvs:List (List Key×V)) (ts:List (List Int)),xs=[.ref d]/\H d=some (.dT kvs)/\kvs.map (·.1)=ts.map (λt=>t.map Sum.inl)/\(∀t∈ts,t≠[])/\ts.length < 64/\
 ∀(p:Addr) (qs:List Addr) (us:List (List Int)),H p=none->cP H qs us->us.Perm ts->us.Pairwise (λa b=>v9 b a=false)->Q (.ref p) (upd H p (.lst (qs.map V.ref)))
theorem aGX(hc:X.calm=true):eC X (.builtin "sorted") aJL:=by
 intro pins s σ H xs us Q I r h
 obtain⟨d,kvs,ts,rfl,hd,ek,hne,h64',q⟩:=h
 obtain⟨u,rfl,ru⟩:=vals1 r
 cases ru
 obtain⟨lo,ob,es,ep,ys,g1,g2,g3,rel,g4,g5⟩:=aJB (show cE X.prog X.w H s.heap d (.dT kvs) from I.hok d _ hd)
 have raw:Raw s.heap d es ep:=⟨ob,g1,g2.1,g3⟩
 have hkl:kvs.length=ts.length:=by have:=congrArg List.length ek;simpa using this
 have hyl:ys.length=kvs.length:=(Paired.length rel).symm
 have ht:cP H (ys.map (·.2.1)) ts:=by
  refine⟨by rw[bP,hyl,hkl],λj a t x y=>?_⟩
  have hj:j < kvs.length:=by rw[hkl];exact(lZ.mp y).1
  obtain⟨p,hp,hb,_⟩:=aGT rel (dQ hj)
  rw[oR,hp] at x
  cases x
  refine⟨?_,hne t (oS y)⟩
  have e3:(kvs.map (·.1))[j]?=some kvs[j].1:=by rw[oR,dQ hj];rfl
  rw[ek,oR,y] at e3
  have e4:t.map Sum.inl=kvs[j].1:=Option.some.inj e3
  rw[hb,<-e4,Rq9]
  rfl
 have hv:((ys.map (·.2.1)).map Value.ref).length=ts.length:=by rw[bP];exact ht.len
 refine Calls.call_function_entry kind_sorted plain_sorted entry_sorted (args_sorted1 (.ref d)) ?_
 unfold Builtin.«sorted»
 refine wpAny_bind (m:=checkCount "sorted" 1 1 _) (wpAny_pure (wpAny_bind (PySem.W.kdu_collect (A:=X.A.in1) (aLp (es:=es) (ep:=ep) lo) (I.ok.hd hc) raw (by rw[sizeLine_eq];omega) λh1 tk acc k0 hacc=>?_)))
 have ea:acc.toList=(ys.map (·.2.1)).map Value.ref:=by
  refine List.ext_getElem? λj=>?_
  by_cases hj:j < kvs.length
  ·have hja:j < acc.size:=by rw[hacc.1,g5];exact hj
   have e1:acc[j]?=some acc[j]:=Tc9 hja
   obtain⟨e,he,ev⟩:=hacc.2 j _ e1
   obtain⟨p,hp,hb,_⟩:=aGT rel (dQ hj)
   rw[entry_at g4,hp] at he
   cases he
   rw[Tu9,e1,ev,oR,oR,hp]
   rfl
  ·rw[Rz9 (by rw[Rg9,hacc.1,g5];omega),Rz9 (by rw[bP,bP,hyl];omega)]
 rw[ea]
 generalize hqs:ys.map (·.2.1)=qs at ht hv ea
 have hq:=ht.len
 have h64:qs.length < 64:=by omega
 refine wpAny_bind (wpAny_newList ?_ (by rw[hv,sizeLine_eq];omega))
 have k1:∀b o,s.heap.get? b=some o->(h1.push (seqObj "list" (qs.map Value.ref).toArray 0)).get? b=some o:=λb o g=>kO _ (k0 b o g)
 have gD:(h1.push (seqObj "list" (qs.map Value.ref).toArray 0)).get? h1.objs.size=some (seqObj "list" (qs.map Value.ref).toArray 0):=yL _ rfl
 refine wpAny_bind (wpAny_holding (wpAny_call_entry (s:={ s with heap:=h1.push (seqObj "list" (qs.map Value.ref).toArray 0),toks:=tk }) slot_list_sort ⟨_,gD,rfl⟩ entry_list_sort (aGi gD ((ht.yI I).keeps λb o _ g=>k1 b o g) (by rw[hv,<-hq];exact h64) λp hr hu=>⟨_,rfl,?_⟩) (args_list_sort (.ref h1.objs.size))))
 rw[hv,<-hq] at hr hu
 have pl:p.toList.Perm (List.range qs.length):=by simpa using Sz9.mp hr
 have plen:p.toList.length=qs.length:=by have:=pl.length_eq;simpa using this
 have eo:(vE (qs.map Value.ref) p).toList=(p.toList.map λi=>qs.getD i 0).map Value.ref:=by
  unfold vE
  show p.toList.map (λi=>(qs.map Value.ref).getD i Value.none)=_
  rw[Rq9]
  refine Tf9 λi hi=>?_
  have li:i < qs.length:=Rs9.mp (pl.mem_iff.mp hi)
  show(qs.map Value.ref).getD i Value.none=Value.ref (qs.getD i 0)
  simp[Qt9,dQ li]
 refine wpAny_pure ⟨_,rfl,?_⟩
 obtain⟨c,hc2⟩:=sortedHeap_at (out:=vE (qs.map Value.ref) p) gD
 have T':cP H (p.toList.map λi=>qs.getD i 0) (p.toList.map λi=>ts.getD i []):=by
  refine⟨by rw[bP,bP],λj a b x y=>?_⟩
  rw[oR] at x y
  obtain⟨i,e1,e2⟩:=Qp9.mp x
  rw[e1] at y
  have li:i < qs.length:=Rs9.mp (pl.mem_iff.mp (oS e1))
  refine ht.at_ i a b ?_ ?_
  ·rw[<-e2];simp[Qt9,dQ li]
  ·cases y
   simp[Qt9,dQ (show i < ts.length by omega)]
 obtain⟨hn,I2⟩:=I.aPp (t':=tk) (h':=sortedHeap (h1.push (seqObj "list" (qs.map Value.ref).toArray 0)) h1.objs.size (qs.map Value.ref) (vE (qs.map Value.ref) p)) (a:=h1.objs.size) (o:=.lst ((p.toList.map λi=>qs.getD i 0).map V.ref)) (λb ob g=>by
   have lb:b < h1.objs.size:=jY (k0 b ob g)
   rw[sortedHeap_old (vU lb) (by rw[size_push'];exact Sg9 lb)]
   exact k1 b ob g) (λb ob g=>vU (jY (k0 b ob g)))
  ⟨by rw[bP,bP,plen,sizeLine_eq];omega,(p.toList.map λi=>qs.getD i 0).map Value.ref,c,aBm _,by rw[<-eo,Array.toArray_toList];exact hc2⟩
 refine⟨.ref h1.objs.size,_,I2,rfl,q _ _ _ hn T' ?_ ?_⟩
 ·have:=pl.map (λi=>ts.getD i [])
  rw[hq,range_getD] at this
  exact this
 ·rw[List.pairwise_iff_getElem]
  intro i j hi hj hij
  rw[bP,plen] at hi hj
  have key:∀k (hk:k < p.toList.length),(p.toList.map λi=>ts.getD i [])[k]'(by rw[bP];exact hk)=kq (O:=aJy) (λi=>ts.getD i []) p k:=λk hk=>by
   rw[List.getElem_map]
   unfold kq
   have:p.getD k 0=p.toList[k]:=by
    have hk':k < p.size:=by simpa using hk
    simp[Array.getD,hk']
   rw[this]
  rw[key i (by omega),key j (by omega)]
  exact hu i j (by omega) hj
end
section
variable{H:Hp}{Q:VK}
theorem aNf{kvs:List (List Key×V)}{ts:List (List Int)}(h:H d=some (.dT kvs))(e:kvs.map (·.1)=ts.map (λt=>t.map Sum.inl))(hne:∀t∈ts,t≠[])(hl:ts.length < 64)(q:∀(p:Addr) (qs:List Addr) (us:List (List Int)),H p=none->cP H qs us->us.Perm ts->us.Pairwise (λa b=>v9 b a=false)->Q (.ref p) (upd H p (.lst (qs.map V.ref)))):aJL [.ref d] H Q:=⟨d,kvs,ts,rfl,h,e,hne,hl,q⟩
end
end L2
namespace L2
open PySem PySem.Spec PyProof.Rows
section
variable{X:Cx}
def aNg(K:W.Frag):List V->Hp->VK->Prop:=λvs H Q=>∃(p:Addr) (ns:List Int),vs=[.ref p]/\bV K H p (ns.map V.int)/\ns≠[]/\∀m,m∈ns->(∀x∈ns,x<=m)->Q (.int m) H
theorem aLq(hc:X.calm=true):eC X (.builtin "max") (aNg X.K):=by
 intro pins s σ H vs us Q I r h
 obtain⟨p,ns,rfl,hq,hne,q⟩:=h
 obtain⟨u,rfl,rx⟩:=vals1 r
 cases rx
 obtain⟨its,r',pl,hz⟩:=I.list hq
 have hi:=intsAre_of r'
 obtain⟨xs,hx⟩:=hi.allInts.items
 have e1:ns=xs.toList.map (·.1):=by rw[<-nums_intItems,<-hx];exact(show numsOf its.toArray.toList=ns from hi.numsOf).symm
 have hsz:0 < xs.size:=by
  have z:=Sj9.mpr hne
  rw[e1,bP,Rg9] at z
  exact z
 refine max_intList (I.ok.hd hc) (hx▸pl.isList:s.heap.IsList p (intItems xs)) hsz λv h' tk hv hk=>?_
 obtain⟨t,rfl⟩:=intItems_at hv
 obtain⟨h1,h2⟩:=argBest_gt (numAt xs) (xs.size - 1)
 refine⟨.int _,H,I.kept (t':=tk) hk,⟨t,rfl⟩,q _ ?_ λx hx'=>?_⟩
 ·rw[e1,numAt_eq];exact getD_mem (by rw[bP,Rg9];omega)
 ·rw[e1] at hx'
  obtain⟨j,hj,rfl⟩:=mem_getD hx'
  rw[bP,Rg9] at hj
  rw[<-numAt_eq];exact h2 j (by omega)
theorem aOW{K:W.Frag}{H:Hp}{Q:VK}{p:Addr}{ns:List Int}(h1:bV K H p (ns.map V.int))(hne:ns≠[])(h:∀m,m∈ns->(∀x∈ns,x<=m)->Q (.int m) H):aNg K [.ref p] H Q:=⟨p,ns,rfl,h1,hne,h⟩
end
end L2
local macro_rules | `(tactic| walk_at "ne") => `(tactic| first
  | assumption
  | (refine Ne.symm ?_; assumption)
  | exact L2.bG (by assumption) (by walk_at "hp")
  | exact Ne.symm (L2.bG (by assumption) (by walk_at "hp")))
local macro_rules | `(tactic| walk_at "hp") => `(tactic| first
  | assumption
  | exact L2.aN
  | (refine Eq.trans (L2.bB (by walk_at "ne")) ?_; walk_at "hp")
  | (refine L2.aP.at (by assumption) ?_; walk_at "hp")
  | (refine L2.cA.at (by assumption) ?_ (by walk_at "ne"); walk_at "hp"))
local macro_rules | `(tactic| walk_at "sq") => `(tactic| first
  | assumption
  | exact L2.bV.of (by walk_at "hp")
  | exact L2.kQ.of (by walk_at "hp")
  | exact L2.aP.seq (by assumption) (by walk_at "sq"))
local macro_rules | `(tactic| walk_at "cnd") => `(tactic| first
  | omega
  | decide
  | (simp only [List.length_map]; omega)
  | (refine ⟨?_, ?_⟩ <;> first | omega | decide)
  | (refine Or.inl ⟨?_, ?_⟩ <;> first | omega | decide)
  | (refine Or.inr ⟨?_, ?_⟩ <;> first | omega | decide)
  | (refine ⟨?_, ?_, ?_⟩ <;> first | omega | decide))
local macro_rules | `(tactic| walk_at "sz") => `(tactic| (refine L2.cF ?_; first | decide | (simp only [List.length_cons, List.length_nil, List.length_append]; omega) | omega))
local macro_rules | `(tactic| walk_at "rd") => `(tactic| (with_reducible first
  | refine L2.aOh ?_
  | refine L2.aQz ?_
  | refine L2.aQw ?_
  | refine L2.aOi ?_
  | refine L2.aQx ?_
  | refine L2.rd_retN ?_
  | refine L2.rd_break ?_
  | refine L2.rd_cont ?_
  | refine L2.aQy ?_
  | refine L2.aOj ?_
  | refine L2.aQA ?_
  | refine L2.aOk ?_
  | refine L2.aMu ?_
  | refine L2.aOl ?_
  | refine L2.aLh ?_
  | refine L2.aM1 ?_
  | refine L2.aMZ ?_
  | refine L2.aM0 ?_
  | refine L2.aQB ?_
  | refine L2.aR7 ?_
  | refine L2.aRB ?_
  | refine L2.aRC ?_
  | refine L2.aQD ?_
  | refine L2.aRE ?_
  | refine L2.aOm ?_
  | refine L2.aRF ?_
  | refine L2.aK5 ?_
  | refine L2.aOo ?_
  | refine L2.rd_partN ?_
  | refine L2.rd_pnN ?_
  | refine L2.rd_pnI ?_
  | refine L2.aOp ?_
  | refine L2.aQF ?_
  | refine L2.aOq ?_
  | refine L2.aQG ?_
  | refine L2.aMw ?_
  | refine L2.aOr ?_
  | refine L2.aRG ?_
  | refine L2.aQH ?_
  | refine L2.aRH ?_
  | refine L2.aQI ?_
  | refine L2.aQJ ?_
  | refine L2.aRI ?_
  | refine L2.aOs ?_
  | refine L2.aRJ ?_
  | refine L2.aRK ?_
  | refine L2.rd_bl2 ?_
  | refine L2.aQK ?_
  | refine L2.aOt ?_
  | refine L2.aQL ?_
  | refine L2.aQM ?_
  | refine L2.aOu ?_
  | refine L2.aRL ?_
  | refine L2.aOv ?_
  | refine L2.aK9 ?_
  | refine L2.aMF ?_
  | refine L2.aMx ?_
  | refine L2.aMy ?_
  | refine L2.aQN ?_
  | refine L2.aQs ?_
  | refine L2.aQr ?_
  | refine L2.aRQ ?_
  | refine L2.aRR ?_
  | refine L2.aRP ?_
  | refine L2.aME ?_
  | refine L2.aMN ?_
  | refine L2.aQU ?_
  | refine L2.aOD ?_
  | refine L2.aOE ?_
  | refine L2.aOF ?_
  | refine L2.aON ?_
  | refine L2.aM8 ?_
  | refine L2.aJK ?_
  | refine L2.aNe ?_))
local macro_rules | `(tactic| walk_at "st") => `(tactic| first
  | walk_at "rd"
  | ((with_reducible refine L2.aRT (b := ?b) ?t ?_); (case t => assumption))
  | ((with_reducible refine L2.aQC (v := ?v) ?e ?_); (case e => rfl))
  | ((with_reducible refine L2.aMt (σ' := ?s) ?e ?_); (case e => first | (simp only [List.set_cons_zero, List.set_cons_succ]; rfl) | rfl))
  | ((with_reducible refine L2.aRD ?c ?_); (case c => walk_at "cnd"))
  | ((with_reducible refine L2.aOn ?c ?_); (case c => walk_at "cnd"))
  | ((with_reducible refine L2.uF (xs := ?xs) (v := ?v) ?a ?b ?_); (case a => walk_at "sq"); (case b => first | rfl | assumption))
  | ((with_reducible refine L2.aQE (xs := ?xs) (v := ?v) ?a ?b ?_); (case a => walk_at "sq"); (case b => first | rfl | assumption))
  | (with_reducible refine L2.aQO ?_)
  | (with_reducible refine L2.aQP ?_)
  | (with_reducible refine L2.aQQ ?_)
  | (with_reducible refine L2.rd_intI ?_)
  | (with_reducible refine L2.aOB ?_)
  | ((with_reducible refine L2.aOz (xs := ?xs) ?a ?_); (case a => walk_at "sq"))
  | ((with_reducible refine L2.aOA (xs := ?xs) ?a ?_); (case a => walk_at "sq"))
  | (with_reducible refine L2.aQR ?_)
  | (with_reducible refine L2.aQS ?_)
  | ((with_reducible refine L2.rd_eqF ?a ?b ?_); (case a => rfl); (case b => rfl))
  | ((with_reducible refine L2.rd_neF ?a ?b ?_); (case a => rfl); (case b => rfl))
  | ((with_reducible refine L2.aRS (b := ?b) ?e ?_); (case e => rfl))
  | ((with_reducible refine L2.aMJ (b := ?b) ?e ?_); (case e => rfl))
  | ((with_reducible refine L2.aOw ?c ?_); (case c => walk_at "sz")))
local macro_rules | `(tactic| walk_at "go") => `(tactic| first
  | (with_reducible refine L2.aOM (fun _ _ => ?_))
  | walk_at "st")
local macro_rules | `(tactic| walk_at "w") => `(tactic| repeat walk_at "go")
local macro_rules | `(tactic| walk_at "gs") => `(tactic| first
  | walk_at "go"
  | ((with_reducible refine L2.iteGF ?e ?_); (case e => rfl))
  | ((with_reducible refine L2.iteGT ?e ?_); (case e => rfl)))
namespace My
open PySem L2 L2.Z
def top(i:Nat):Stmt:=PySem.Challenge.pw_stintwise_k72_whole_bounds_never_above.main.body.getD i (.Pass ⟨0,0,0,0⟩)
abbrev iM:Stmt:=top 56
abbrev kF:Stmt:=top 57
abbrev mI:Stmt:=top 58
abbrev gX:Stmt:=top 59
abbrev mJ:Stmt:=top 12
abbrev kG:Stmt:=top 13
abbrev qR:Stmt:=top 43
abbrev mK:Stmt:=top 44
abbrev eX:Stmt:=top 45
abbrev fQ:Stmt:=inClass (top 46) 0
abbrev kH:Stmt:=top 60
abbrev fR:Stmt:=top 61
abbrev fS:Stmt:=inClass (top 46) 3
abbrev vF:Stmt:=top 15
abbrev gY:Stmt:=top 16
abbrev iT:Stmt:=top 62
abbrev iU:Stmt:=top 66
abbrev mL:Stmt:=top 31
abbrev iV:Stmt:=inClass (top 32) 0
abbrev kI:Stmt:=top 20
abbrev fT:Stmt:=top 21
abbrev iW:Stmt:=top 22
abbrev mM:Stmt:=top 23
abbrev j8:Stmt:=top 2
abbrev fU:Stmt:=top 3
abbrev d8:Stmt:=top 4
abbrev gF:Stmt:=top 5
abbrev kJ:Stmt:=top 6
abbrev gZ:Stmt:=top 17
abbrev eG:Stmt:=top 49
abbrev iX:Stmt:=inClass (top 50) 0
abbrev iY:Stmt:=top 63
abbrev hJ:Stmt:=top 72
abbrev cZ:Stmt:=top 69
abbrev gG:Stmt:=top 70
abbrev dS:Stmt:=top 71
abbrev mN:Stmt:=top 74
abbrev fD:Stmt:=top 75
abbrev iN:Stmt:=top 76
abbrev fE:Stmt:=top 77
abbrev kK:Stmt:=top 78
abbrev fV:Stmt:=top 33
abbrev hU:Stmt:=top 34
abbrev mO:Stmt:=top 35
abbrev gH:Stmt:=top 37
abbrev bY:Stmt:=top 38
abbrev dH:Stmt:=top 39
abbrev d9:Stmt:=top 18
abbrev gI:Stmt:=top 24
abbrev iO:Stmt:=top 26
abbrev cG:Stmt:=top 27
abbrev dN:Stmt:=top 28
abbrev iZ:Stmt:=top 64
abbrev cQ:Stmt:=top 52
abbrev eA:Stmt:=top 53
abbrev fF:Stmt:=top 54
abbrev kL:Stmt:=top 67
abbrev jA:Stmt:=top 73
abbrev kM:Stmt:=top 65
abbrev fG:Stmt:=top 79
abbrev iP:Stmt:=top 83
abbrev eB:Stmt:=top 80
abbrev kN:Stmt:=top 81
abbrev cK:Stmt:=top 82
abbrev fH:Stmt:=top 84
abbrev hV:Stmt:=top 85
abbrev aGn:Stmt:=top 86
theorem jB:aX ["_law_script","_law_place","_law_cells","_law_at","_law_digits"] ["_law_script","_law_place"] (aH iM):={}
theorem jC:aX ["_law_hand","_law_many","_law_got","_law_cell","_law_number"] ["_law_hand","_law_many"] (aH kF):={}
theorem sG:aX ["_law_hand","_law_bound","_law_total","_law_k"] ["_law_hand","_law_bound"] (aH mI):={}
theorem aEv:aX ["_law_hand"] ["_law_hand"] (aH gX):={}
theorem aIt:aX ["thing"] ["thing"] (aH mJ):={}
theorem aGY:aX ["thing"] ["thing"] (aH kG):={}
theorem aJM:aX ["thing"] ["thing"] (aH qR):={}
theorem aIu:aX ["thing"] ["thing"] (aH mK):={}
theorem aFq:aX ["thing"] ["thing"] (aH eX):={}
theorem gN:aX ["self","up","down","begin","run","rest","least","pieces","spans","costs","at","fits"] ["self","up","down","begin","run","rest","least","pieces"] (aH fQ):={}
theorem dX:aX ["_law_hand","_law_by","_law_longest","_law_up","_law_down","_law_costs","_law_least","_law_rate","_law_pieces","_law_k"] ["_law_hand","_law_by","_law_longest"] (aH kH):={}
theorem aDD:aX ["_law_spec_here"] ["_law_spec_here"] (aH fR):={}
theorem gO:aX ["self","price","worth","amount","rate"] ["self","price"] (aH fS):={}
theorem aLr:aX ["machine","state","on"] ["machine","state","on"] (aH vF):={}
theorem aEw:aX ["machine","state","on"] ["machine","state","on"] (aH gY):={}
theorem aFr:aX ["_law_hand","_law_spec_here"] ["_law_hand","_law_spec_here"] (aH iT):={}
theorem aFs:aX ["_law_spec_here","_law_state_here","_law_on"] ["_law_spec_here","_law_state_here","_law_on"] (aH iU):={}
theorem aIv:aX ["thing"] ["thing"] (aH mL):={}
theorem m5:aX ["self","cap","into","out","takes","gives","depths","at","fits"] ["self","cap","into","out","takes","gives"] (aH iV):={}
theorem pI:aX ["machine","state","run","hour","on"] ["machine","state","run"] (aH kI):={}
theorem xY:aX ["machine","state","run","fault"] ["machine","state","run"] (aH fT):={}
theorem hX:aX ["machine","state","run","begins","ahead","hour","on"] ["machine","state","run"] (aH iW):={}
theorem aDf:aX ["machine","state","run","begins"] ["machine","state","run"] (aH mM):={}
theorem aIw:aX ["ways","behind"] ["ways","behind"] (aH j8):={}
theorem oX:aX ["places","hour","behind","ways_at","worths","place"] ["places","hour","behind","ways_at"] (aH fU):={}
theorem dP:aX ["layers","ways_at","behind","place","worths","hour"] ["layers","ways_at"] (aH d8):={}
theorem aAS:aX ["ways","behind","least"] ["ways","behind"] (aH gF):={}
theorem kW:aX ["place","worths","ways_at","row","hour","way"] ["place","worths","ways_at"] (aH kJ):={}
theorem fW:aX ["machine","ways","later","state","many","on","behind"] ["machine","ways"] (aH gZ):={}
theorem aDE:aX ["thing"] ["thing"] (aH eG):={}
theorem m6:aX ["self","machines","store","lack","is_store","at","fits"] ["self","machines","store","lack"] (aH iX):={}
theorem m7:aX ["_law_hand","_law_by","_law_gives","_law_takes"] ["_law_hand","_law_by"] (aH iY):={}
theorem aEx:aX ["_law_store_here","_law_level"] ["_law_store_here","_law_level"] (aH hJ):={}
theorem bZ:aX ["_law_hand","_law_most","_law_by","_law_wide","_law_many","_law_specs","_law_store_here","_law_lack"] ["_law_hand","_law_most"] (aH cZ):={}
theorem m8:aX ["_law_spec_here","_law_machines","_law_store_here"] ["_law_spec_here"] (aH gG):={}
theorem vG:aX ["_law_hand","_law_spec_here","_law_states"] ["_law_hand","_law_spec_here"] (aH dS):={}
theorem oO:aX ["_law_hand","_law_specs","_law_states","_law_ons_here","_law_k","_law_on"] ["_law_hand","_law_specs","_law_states"] (aH mN):={}
theorem qW:aX ["_law_hand","_law_spec_here","_law_on","_law_way","_law_most"] ["_law_hand","_law_spec_here","_law_on"] (aH fD):={}
theorem pJ:aX ["_law_hand","_law_spec_here","_law_position_here","_law_ons_here","_law_outputs","_law_levels_here"] ["_law_hand","_law_spec_here","_law_position_here"] (aH iN):={}
theorem y8:aX ["_law_spec_here","_law_position_here","_law_hour_here","_law_states"] ["_law_spec_here","_law_position_here","_law_hour_here"] (aH fE):={}
theorem pK:aX ["_law_script","_law_first","_law_hours","_law_spec_here","_law_position_here","_law_plan_here","_law_place"] ["_law_script","_law_first","_law_hours","_law_spec_here","_law_position_here"] (aH kK):={}
theorem oY:aX ["store","level","hours","lowest","highest"] ["store","level","hours"] (aH fV):={}
theorem aEy:aX ["store","level"] ["store","level"] (aH hU):={}
theorem aDg:aX ["store","level","later","each"] ["store","level","later"] (aH mO):={}
theorem aFt:aX ["store","level","price"] ["store","level","price"] (aH gH):={}
theorem pC:aX ["store","level","prices","layers"] ["store","level","prices"] (aH bY):={}
theorem mP:aX ["store","level","prices","worths","path"] ["store","level","prices"] (aH dH):={}
theorem eY:aX ["machine","state","hours","ways","layers","hour"] ["machine","state","hours"] (aH d9):={}
theorem aFu:aX ["machine","state"] ["machine","state"] (aH gI):={}
theorem aGZ:aX ["machine","state","price"] ["machine","state","price"] (aH iO):={}
theorem pD:aX ["machine","state","prices","layers"] ["machine","state","prices"] (aH cG):={}
theorem oZ:aX ["machine","state","prices","worths","run"] ["machine","state","prices"] (aH dN):={}
theorem aFv:aX ["_law_hand","_law_by","_law_most"] ["_law_hand","_law_by","_law_most"] (aH iZ):={}
theorem y9:aX ["works","position","prices"] ["works","position","prices"] (aH cQ):={}
theorem aBS:aX ["works","position","prices"] ["works","position","prices"] (aH eA):={}
theorem qX:aX ["works","position","wants","prices","wanted","machines"] ["works","position","wants","prices"] (aH fF):={}
theorem eZ:aX ["_law_spec_here","_law_output_here","_law_left","_law_cost_here","_law_amount","_law_rate","_law_taken"] ["_law_spec_here","_law_output_here"] (aH kL):={}
theorem aFw:aX ["_law_store_here","_law_level","_law_later"] ["_law_store_here","_law_level","_law_later"] (aH jA):={}
theorem aG0:aX ["_law_hand","_law_by"] ["_law_hand","_law_by"] (aH kM):={}
theorem aEz:aX ["_law_hand","_law_by","_law_lack","_law_hours"] ["_law_hand","_law_by","_law_lack","_law_hours"] (aH fG):={}
theorem kX:aX ["_law_hand","_law_most","_law_spec_here","_law_hours","_law_wants"] ["_law_hand","_law_most"] (aH iP):={}
theorem dA:aX ["_law_spec_here","_law_state_here","_law_ons_here","_law_outputs","_law_prices_here","_law_worth","_law_hour_here"] ["_law_spec_here","_law_state_here","_law_ons_here","_law_outputs","_law_prices_here"] (aH eB):={}
theorem aG1:aX ["_law_spec_here","_law_level","_law_want_here","_law_hour_here"] ["_law_spec_here","_law_level","_law_want_here","_law_hour_here"] (aH kN):={}
theorem bU:aX ["_law_spec_here","_law_position_here","_law_wants","_law_plan_here","_law_cost_here","_law_level","_law_want_here","_law_hour_here","_law_k","_law_ons_here","_law_outputs"] ["_law_spec_here","_law_position_here","_law_wants","_law_plan_here"] (aH cK):={}
theorem cH:aX ["_law_spec_here","_law_ons_here","_law_need","_law_k","_law_outputs","_law_some","_law_amount","_law_rate","_law_left"] ["_law_spec_here","_law_ons_here","_law_need"] (aH fH):={}
theorem fX:aX ["_law_spec_here","_law_level","_law_wants","_law_plan_here","_law_found","_law_want_here","_law_hour_here","_law_need"] ["_law_spec_here","_law_level","_law_wants","_law_plan_here"] (aH hV):={}
theorem kY:aX ["_law_script","_law_place","_law_hand","_law_spec_here","_law_position_here","_law_wants","_law_prices_here","_law_works_here","_law_bounds","_law_other","_law_k","_law_plan_here","_law_better_here","_law_some"] ["_law_script"] (aH aGn):={}
theorem zq2{n:Nat}:∀{us:List Value},us.length=n+1->∃a r,us=a::r/\r.length=n
 |a::r,h=>⟨a,r,rfl,Nat.succ.inj h⟩
theorem ar1(us:List Value)(h:us.length=1):∃a0,us=[a0]:=by obtain⟨a,r,rfl,g⟩:=zq2 h;cases List.eq_nil_of_length_eq_zero g;exact⟨a,rfl⟩
theorem ar2(us:List Value)(h:us.length=2):∃a0 a1,us=[a0,a1]:=by obtain⟨a0,r,rfl,g⟩:=zq2 h;obtain⟨a1,rfl⟩:=ar1 r g;exact⟨a0,a1,rfl⟩
theorem ar3(us:List Value)(h:us.length=3):∃a0 a1 a2,us=[a0,a1,a2]:=by obtain⟨a0,r,rfl,g⟩:=zq2 h;obtain⟨a1,a2,rfl⟩:=ar2 r g;exact⟨a0,a1,a2,rfl⟩
theorem ar4(us:List Value)(h:us.length=4):∃a0 a1 a2 a3,us=[a0,a1,a2,a3]:=by obtain⟨a0,r,rfl,g⟩:=zq2 h;obtain⟨a1,a2,a3,rfl⟩:=ar3 r g;exact⟨a0,a1,a2,a3,rfl⟩
theorem ar5(us:List Value)(h:us.length=5):∃a0 a1 a2 a3 a4,us=[a0,a1,a2,a3,a4]:=by obtain⟨a0,r,rfl,g⟩:=zq2 h;obtain⟨a1,a2,a3,a4,rfl⟩:=ar4 r g;exact⟨a0,a1,a2,a3,a4,rfl⟩
theorem ar6(us:List Value)(h:us.length=6):∃a0 a1 a2 a3 a4 a5,us=[a0,a1,a2,a3,a4,a5]:=by obtain⟨a0,r,rfl,g⟩:=zq2 h;obtain⟨a1,a2,a3,a4,a5,rfl⟩:=ar5 r g;exact⟨a0,a1,a2,a3,a4,a5,rfl⟩
theorem ar7(us:List Value)(h:us.length=7):∃a0 a1 a2 a3 a4 a5 a6,us=[a0,a1,a2,a3,a4,a5,a6]:=by obtain⟨a0,r,rfl,g⟩:=zq2 h;obtain⟨a1,a2,a3,a4,a5,a6,rfl⟩:=ar6 r g;exact⟨a0,a1,a2,a3,a4,a5,a6,rfl⟩
theorem ar8(us:List Value)(h:us.length=8):∃a0 a1 a2 a3 a4 a5 a6 a7,us=[a0,a1,a2,a3,a4,a5,a6,a7]:=by obtain⟨a0,r,rfl,g⟩:=zq2 h;obtain⟨a1,a2,a3,a4,a5,a6,a7,rfl⟩:=ar7 r g;exact⟨a0,a1,a2,a3,a4,a5,a6,a7,rfl⟩
structure iR where
 sI:Addr
 sJ:FuncData
 sL:Addr
 sM:FuncData
 wB:Addr
 wC:FuncData
 m9:Addr
 nB:FuncData
 wD:Addr
 wG:FuncData
 sN:Addr
 sO:FuncData
 aAz:Addr
 aAA:FuncData
 wH:Addr
 wI:FuncData
 pL:Addr
 pM:FuncData
 kZ:Addr
 lA:FuncData
 sP:Addr
 sQ:FuncData
 lB:Addr
 lC:FuncData
 lD:Addr
 lE:FuncData
 aBT:Addr
 aBU:FuncData
 nC:Addr
 nE:FuncData
 pN:Addr
 pO:FuncData
 pP:Addr
 pQ:FuncData
 wJ:Addr
 wK:FuncData
 pR:Addr
 pS:FuncData
 sR:Addr
 sS:FuncData
 lF:Addr
 lG:FuncData
 pT:Addr
 pU:FuncData
 wL:Addr
 wM:FuncData
 wN:Addr
 wO:FuncData
 lH:Addr
 lI:FuncData
 jD:Addr
 jE:FuncData
 pV:Addr
 pW:FuncData
 sU:Addr
 sV:FuncData
 nF:Addr
 nG:FuncData
 lJ:Addr
 lK:FuncData
 pX:Addr
 pY:FuncData
 pZ:Addr
 p9:FuncData
 nH:Addr
 nI:FuncData
 iE:Addr
 iF:FuncData
 qA:Addr
 qB:FuncData
 jU:Addr
 jV:FuncData
 wQ:Addr
 wR:FuncData
 nJ:Addr
 nK:FuncData
 sW:Addr
 sX:FuncData
 nL:Addr
 nM:FuncData
 sY:Addr
 sZ:FuncData
 lM:Addr
 lN:FuncData
 nO:Addr
 nP:FuncData
 wU:Addr
 wV:FuncData
 qC:Addr
 qD:FuncData
 gJ:Addr
 eI:FuncData
 jW:Addr
 gQ:FuncData
 jF:Addr
 jG:FuncData
 qE:Addr
 qF:FuncData
 tD:Addr
 tE:FuncData
 gK:Addr
 eJ:FuncData
 lO:Addr
 iQ:FuncData
 qG:Addr
 qH:FuncData
 fK:Addr
 fL:FuncData
 jH:Addr
 jI:FuncData
 nQ:Addr
 nR:FuncData
 tF:Addr
 tG:FuncData
 qI:Addr
 qJ:FuncData
 tH:Addr
 tI:FuncData
 nS:Addr
 nU:FuncData
 tJ:Addr
 tK:FuncData
 jJ:Addr
 jK:FuncData
 tL:Addr
 tM:FuncData
 jL:Addr
 jM:FuncData
 nV:Addr
 nW:FuncData
 nX:Addr
 nY:FuncData
 aKp:Addr
 aKq:FuncData
 k_worths_of_levels:Addr
 cI:Addr
 k_cheapest_path:Addr
 dU:Addr
 k_worths_of_states:Addr
 cJ:Addr
 k_cheapest_run:Addr
 eK:Addr
 bD:Addr
 cL:Addr
 fM:Addr
structure Txt(K:W.Frag)(mg:Str->Option Value)(a:iR):Prop where
 tN:iC K "_law_open" "_law_open" iM a.sI a.sJ
 zA:Binds K a.sJ ["_law_script","_law_place"] []
 zB:mg "_law_open" = some (.ref a.sI)
 aQ:iC K "_law_draw" "_law_draw" kF a.sL a.sM
 aT:Binds K a.sM ["_law_hand","_law_many"] []
 aU:mg "_law_draw" = some (.ref a.sL)
 wW:iC K "_law_far" "_law_far" mI a.wB a.wC
 aBn:Binds K a.wC ["_law_hand","_law_bound"] []
 aBo:mg "_law_far" = some (.ref a.wB)
 nZ:iC K "_law_factor" "_law_factor" gX a.m9 a.nB
 uH:Binds K a.nB ["_law_hand"] []
 uI:mg "_law_factor" = some (.ref a.m9)
 qY:iC K "is_whole" "is_whole" mJ a.wD a.wG
 wX:Binds K a.wG ["thing"] []
 wY:mg "is_whole" = some (.ref a.wD)
 dO:iC K "is_amount" "is_amount" kG a.sN a.sO
 dY:Binds K a.sO ["thing"] []
 dZ:mg "is_amount" = some (.ref a.sN)
 aAB:iC K "is_span" "is_span" qR a.aAz a.aAA
 aCP:Binds K a.aAA ["thing"] []
 aCQ:mg "is_span" = some (.ref a.aAz)
 aBp:iC K "is_piece" "is_piece" mK a.wH a.wI
 aEA:Binds K a.wI ["thing"] []
 aEB:mg "is_piece" = some (.ref a.wH)
 wZ:iC K "are_pieces" "are_pieces" eX a.pL a.pM
 aBV:Binds K a.pM ["thing"] []
 aBW:mg "are_pieces" = some (.ref a.pL)
 zC:iC K "__init__" "Machine.__init__" fQ a.kZ a.lA
 zD:Binds K a.lA ["self","up","down","begin","run","rest","least","pieces"] []
 zE:iC K "_law_spec" "_law_spec" kH a.sP a.sQ
 aDh:Binds K a.sQ ["_law_hand","_law_by","_law_longest"] []
 aDi:mg "_law_spec" = some (.ref a.sP)
 qZ:iC K "_law_machine" "_law_machine" fR a.lB a.lC
 zF:Binds K a.lC ["_law_spec_here"] []
 zG:mg "_law_machine" = some (.ref a.lB)
 zH:iC K "gain" "Machine.gain" fS a.lD a.lE
 zI:Binds K a.lE ["self","price"] []
 vH:iC K "may_be" "may_be" vF a.aBT a.aBU
 zJ:Binds K a.aBU ["machine","state","on"] []
 zK:mg "may_be" = some (.ref a.aBT)
 jS:iC K "state_after" "state_after" gY a.nC a.nE
 oA:Binds K a.nE ["machine","state","on"] []
 oB:mg "state_after" = some (.ref a.nC)
 w4:iC K "_law_state" "_law_state" iT a.pN a.pO
 aBX:Binds K a.pO ["_law_hand","_law_spec_here"] []
 aBY:mg "_law_state" = some (.ref a.pN)
 lP:iC K "_law_after" "_law_after" iU a.pP a.pQ
 qK:Binds K a.pQ ["_law_spec_here","_law_state_here","_law_on"] []
 qL:mg "_law_after" = some (.ref a.pP)
 rA:iC K "is_depth" "is_depth" mL a.wJ a.wK
 w5:Binds K a.wK ["thing"] []
 w6:mg "is_depth" = some (.ref a.wJ)
 aBZ:iC K "__init__" "Store.__init__" iV a.pR a.pS
 aB0:Binds K a.pS ["self","cap","into","out","takes","gives"] []
 zM:iC K "run_fault" "run_fault" kI a.sR a.sS
 aDj:Binds K a.sS ["machine","state","run"] []
 aDk:mg "run_fault" = some (.ref a.sR)
 rB:iC K "refuse_fault" "refuse_fault" fT a.lF a.lG
 zN:Binds K a.lG ["machine","state","run"] []
 zO:mg "refuse_fault" = some (.ref a.lF)
 w9:iC K "run_begins" "run_begins" iW a.pT a.pU
 aB1:Binds K a.pU ["machine","state","run"] []
 aB2:mg "run_begins" = some (.ref a.pT)
 aBq:iC K "run_cost" "run_cost" mM a.wL a.wM
 aEC:Binds K a.wM ["machine","state","run"] []
 aED:mg "run_cost" = some (.ref a.wL)
 xA:iC K "least_of" "least_of" j8 a.wN a.wO
 aBr:Binds K a.wO ["ways","behind"] []
 aBs:mg "least_of" = some (.ref a.wN)
 rC:iC K "worths_ahead" "worths_ahead" fU a.lH a.lI
 zP:Binds K a.lI ["places","hour","behind","ways_at"] []
 zQ:mg "worths_ahead" = some (.ref a.lH)
 jN:iC K "worths_by_hour" "worths_by_hour" d8 a.jD a.jE
 mQ:Binds K a.jE ["layers","ways_at"] []
 mR:mg "worths_by_hour" = some (.ref a.jD)
 xC:iC K "first_best" "first_best" gF a.pV a.pW
 aB3:Binds K a.pW ["ways","behind"] []
 aB4:mg "first_best" = some (.ref a.pV)
 tO:iC K "first_row" "first_row" kJ a.sU a.sV
 zR:Binds K a.sV ["place","worths","ways_at"] []
 zS:mg "first_row" = some (.ref a.sU)
 uJ:iC K "ways_one_on" "ways_one_on" gZ a.nF a.nG
 aAT:Binds K a.nG ["machine","ways"] []
 aAU:mg "ways_one_on" = some (.ref a.nF)
 rD:iC K "are_machines" "are_machines" eG a.lJ a.lK
 zT:Binds K a.lK ["thing"] []
 zU:mg "are_machines" = some (.ref a.lJ)
 aB5:iC K "__init__" "Works.__init__" iX a.pX a.pY
 aB6:Binds K a.pY ["self","machines","store","lack"] []
 xD:iC K "_law_store" "_law_store" iY a.pZ a.p9
 aB7:Binds K a.p9 ["_law_hand","_law_by"] []
 aB8:mg "_law_store" = some (.ref a.pZ)
 uK:iC K "_law_levels" "_law_levels" hJ a.nH a.nI
 aAV:Binds K a.nI ["_law_store_here","_law_level"] []
 aAW:mg "_law_levels" = some (.ref a.nH)
 lQ:iC K "_law_works_spec" "_law_works_spec" cZ a.iE a.iF
 tQ:Binds K a.iF ["_law_hand","_law_most"] []
 tR:mg "_law_works_spec" = some (.ref a.iE)
 xE:iC K "_law_works" "_law_works" gG a.qA a.qB
 aB9:Binds K a.qB ["_law_spec_here"] []
 aCa:mg "_law_works" = some (.ref a.qA)
 o5:iC K "_law_position" "_law_position" dS a.jU a.jV
 xZ:Binds K a.jV ["_law_hand","_law_spec_here"] []
 x8:mg "_law_position" = some (.ref a.jU)
 aBt:iC K "_law_ons" "_law_ons" mN a.wQ a.wR
 aEE:Binds K a.wR ["_law_hand","_law_specs","_law_states"] []
 aEF:mg "_law_ons" = some (.ref a.wQ)
 uL:iC K "_law_output" "_law_output" fD a.nJ a.nK
 aAX:Binds K a.nK ["_law_hand","_law_spec_here","_law_on"] []
 aAY:mg "_law_output" = some (.ref a.nJ)
 zV:iC K "_law_hour" "_law_hour" iN a.sW a.sX
 aDl:Binds K a.sX ["_law_hand","_law_spec_here","_law_position_here"] []
 aDm:mg "_law_hour" = some (.ref a.sW)
 uM:iC K "_law_behind" "_law_behind" fE a.nL a.nM
 aAZ:Binds K a.nM ["_law_spec_here","_law_position_here","_law_hour_here"] []
 aA0:mg "_law_behind" = some (.ref a.nL)
 zW:iC K "_law_plan" "_law_plan" kK a.sY a.sZ
 aDn:Binds K a.sZ ["_law_script","_law_first","_law_hours","_law_spec_here","_law_position_here"] []
 aDo:mg "_law_plan" = some (.ref a.sY)
 lR:iC K "levels_after" "levels_after" fV a.lM a.lN
 rE:Binds K a.lN ["store","level","hours"] []
 rF:mg "levels_after" = some (.ref a.lM)
 uN:iC K "levels_from" "levels_from" hU a.nO a.nP
 aA1:Binds K a.nP ["store","level"] []
 aA2:mg "levels_from" = some (.ref a.nO)
 aBu:iC K "drawn_by" "drawn_by" mO a.wU a.wV
 aEG:Binds K a.wV ["store","level","later"] []
 aEH:mg "drawn_by" = some (.ref a.wU)
 qM:iC K "level_ways" "level_ways" gH a.qC a.qD
 xF:Binds K a.qD ["store","level","price"] []
 xG:mg "level_ways" = some (.ref a.qC)
 j9:iC K "worths_of_levels" "worths_of_levels" bY a.gJ a.eI
 rG:Binds K a.eI ["store","level","prices"] []
 rH:mg "worths_of_levels" = some (.ref a.gJ)
 o6:iC K "cheapest_path" "cheapest_path" dH a.jW a.gQ
 yA:Binds K a.gQ ["store","level","prices"] []
 yB:mg "cheapest_path" = some (.ref a.jW)
 mS:iC K "states_by_hour" "states_by_hour" d9 a.jF a.jG
 vI:Binds K a.jG ["machine","state","hours"] []
 vJ:mg "states_by_hour" = some (.ref a.jF)
 xH:iC K "next_hours" "next_hours" gI a.qE a.qF
 aCb:Binds K a.qF ["machine","state"] []
 aCc:mg "next_hours" = some (.ref a.qE)
 tS:iC K "hour_ways" "hour_ways" iO a.tD a.tE
 zX:Binds K a.tE ["machine","state","price"] []
 zY:mg "hour_ways" = some (.ref a.tD)
 kA:iC K "worths_of_states" "worths_of_states" cG a.gK a.eJ
 rJ:Binds K a.eJ ["machine","state","prices"] []
 rK:mg "worths_of_states" = some (.ref a.gK)
 rL:iC K "cheapest_run" "cheapest_run" dN a.lO a.iQ
 zZ:Binds K a.iQ ["machine","state","prices"] []
 z0:mg "cheapest_run" = some (.ref a.lO)
 xI:iC K "_law_price" "_law_price" iZ a.qG a.qH
 aCd:Binds K a.qH ["_law_hand","_law_by","_law_most"] []
 aCe:mg "_law_price" = some (.ref a.qG)
 jQ:iC K "least_of_machines" "least_of_machines" cQ a.fK a.fL
 pE:Binds K a.fL ["works","position","prices"] []
 pF:mg "least_of_machines" = some (.ref a.fK)
 mT:iC K "least_of_store" "least_of_store" eA a.jH a.jI
 vK:Binds K a.jI ["works","position","prices"] []
 vL:mg "least_of_store" = some (.ref a.jH)
 oC:iC K "price_bound" "price_bound" fF a.nQ a.nR
 uO:Binds K a.nR ["works","position","wants","prices"] []
 uP:mg "price_bound" = some (.ref a.nQ)
 aAa:iC K "_law_cost" "_law_cost" kL a.tF a.tG
 aDp:Binds K a.tG ["_law_spec_here","_law_output_here"] []
 aDq:mg "_law_cost" = some (.ref a.tF)
 qN:iC K "_law_drawn" "_law_drawn" jA a.qI a.qJ
 xJ:Binds K a.qJ ["_law_store_here","_law_level","_law_later"] []
 xK:mg "_law_drawn" = some (.ref a.qI)
 aAb:iC K "_law_want" "_law_want" kM a.tH a.tI
 aDr:Binds K a.tI ["_law_hand","_law_by"] []
 aDs:mg "_law_want" = some (.ref a.tH)
 oE:iC K "_law_prices" "_law_prices" fG a.nS a.nU
 uQ:Binds K a.nU ["_law_hand","_law_by","_law_lack","_law_hours"] []
 uR:mg "_law_prices" = some (.ref a.nS)
 aAc:iC K "_law_case" "_law_case" iP a.tJ a.tK
 aDt:Binds K a.tK ["_law_hand","_law_most"] []
 aDu:mg "_law_case" = some (.ref a.tJ)
 mU:iC K "_law_row_worth" "_law_row_worth" eB a.jJ a.jK
 vM:Binds K a.jK ["_law_spec_here","_law_state_here","_law_ons_here","_law_outputs","_law_prices_here"] []
 vN:mg "_law_row_worth" = some (.ref a.jJ)
 aAd:iC K "_law_over" "_law_over" kN a.tL a.tM
 aDv:Binds K a.tM ["_law_spec_here","_law_level","_law_want_here","_law_hour_here"] []
 aDw:mg "_law_over" = some (.ref a.tL)
 mV:iC K "_law_plan_cost" "_law_plan_cost" cK a.jL a.jM
 vO:Binds K a.jM ["_law_spec_here","_law_position_here","_law_wants","_law_plan_here"] []
 vP:mg "_law_plan_cost" = some (.ref a.jL)
 uS:iC K "_law_shared" "_law_shared" fH a.nV a.nW
 aA3:Binds K a.nW ["_law_spec_here","_law_ons_here","_law_need"] []
 aA4:mg "_law_shared" = some (.ref a.nV)
 uT:iC K "_law_better" "_law_better" hV a.nX a.nY
 aA5:Binds K a.nY ["_law_spec_here","_law_level","_law_wants","_law_plan_here"] []
 aA6:mg "_law_better" = some (.ref a.nX)
 aPq:iC K "law" "law" aGn a.aKp a.aKq
 aRV:Binds K a.aKq ["_law_script"] []
 aRW:mg "law" = some (.ref a.aKp)
 cW:Cls K a.bD
 aCR:mg "Machine" = some (.ref a.bD)
 aGo:Mk K a.bD a.kZ
 m_Machine_gain:Meth K a.bD "gain" a.lD
 xM:dM K a.bD "up"
 rM:dM K a.bD "down"
 o7:dM K a.bD "begin"
 uU:dM K a.bD "run"
 rN:dM K a.bD "rest"
 o8:dM K a.bD "least"
 mW:dM K a.bD "pieces"
 i_Machine:Isi K a.bD
 jX:Cls K a.cL
 aG2:mg "Store" = some (.ref a.cL)
 aKr:Mk K a.cL a.pR
 aAe:dM K a.cL "cap"
 xN:dM K a.cL "into"
 aAf:dM K a.cL "out"
 uV:dM K a.cL "takes"
 uW:dM K a.cL "gives"
 i_Store:Isi K a.cL
 xO:Cls K a.fM
 aKs:mg "Works" = some (.ref a.fM)
 aKt:Mk K a.fM a.pX
 mX:dM K a.fM "machines"
 oF:dM K a.fM "store"
 aCf:dM K a.fM "lack"
 i_Works:Isi K a.fM
 kB:aM6 K a.eI a.k_worths_of_levels a.cI
 o9:aM6 K a.gQ a.k_cheapest_path a.dU
 kC:aM6 K a.eJ a.k_worths_of_states a.cJ
 rO:aM6 K a.iQ a.k_cheapest_run a.eK
 aGp:mg "abs" = none
 aDx:mg "all" = none
 aCS:mg "bool" = none
 d7:mg "enumerate" = none
 aDy:mg "int" = none
 cS:mg "isinstance" = none
 eN:mg "len" = none
 mY:mg "list" = none
 lY:mg "max" = none
 vQ:mg "min" = none
 cM:mg "range" = none
 mZ:mg "reversed" = none
 rP:mg "sorted" = none
 aA7:mg "sum" = none
 lS:mg "tuple" = none
 aCg:mg "zip" = none
 hZ:∃t,mg "MOST_LEVELS" = some (.int 8 t)
 eS:∃t,mg "LONGEST_STINT" = some (.int 12 t)
 iA:∃t,mg "MOST_PIECES" = some (.int 4 t)
 eT:∃t,mg "MOST_MACHINES" = some (.int 6 t)
abbrev dC:Pos:=⟨138,34,138,92⟩
abbrev dE:Str:=(("worths_of_levels" : Str) ++ ".<locals>.") ++ "<lambda>"
abbrev fY:Pos:=⟨141,36,141,94⟩
abbrev fZ:Str:=(("cheapest_path" : Str) ++ ".<locals>.") ++ "<lambda>"
abbrev dF:Pos:=⟨103,34,103,93⟩
abbrev dG:Str:=(("worths_of_states" : Str) ++ ".<locals>.") ++ "<lambda>"
abbrev gR:Pos:=⟨106,35,106,94⟩
abbrev gS:Str:=(("cheapest_run" : Str) ++ ".<locals>.") ++ "<lambda>"
end My
namespace My
open PySem L2 L2.Z
inductive Th (H:Hp):V->String->Prop where
 |non:Th H .non "NoneType"
 |bl (b:Bool):Th H (.bl b) "bool"
 |int (i:Int):Th H (.int i) "int"
 |str (x:Str):Th H (.str x) "str"
 |lst {p:Addr} {xs:List V} (e:H p=some (.lst xs)):Th H (.ref p) "list"
 |tup {p:Addr} {xs:List V} (e:H p=some (.tup xs)):Th H (.ref p) "tuple"
 |dK {p:Addr} {kvs:List (Key×V)} (e:H p=some (.dK kvs)):Th H (.ref p) "dict"
theorem Th.ty(h:Th H v T):aBH K H v (.type T):=by
 cases h with
 |non=>exact .non
 |bl b=>exact .bl b
 |int i=>exact .int i
 |str x=>exact .str x
 |lst e=>exact .lst e
 |tup e=>exact .tup e
 |dK e=>exact .dK e
theorem Th.keep{H H':Hp}{p:Addr}{v:V}{T:String}(h:Th H v T)(n:∀b,v=.ref b->b≠p)(k:cA p H H'):Th H' v T:=by
 cases h with
 |non=>exact .non
 |bl b=>exact .bl b
 |int i=>exact .int i
 |str x=>exact .str x
 |lst e=>exact .lst (k _ _ e (n _ rfl))
 |tup e=>exact .tup (k _ _ e (n _ rfl))
 |dK e=>exact .dK (k _ _ e (n _ rfl))
theorem aOX(h:Th H v T):IsI K H v (.ty "int") (T == "int" || T == "bool"):=by
 refine⟨_,h.ty,.inl ⟨_,rfl,?_⟩⟩
 cases h <;> rfl
theorem aNh(h:Th H v T):IsI K H v (.ty "bool") (T == "bool"):=by
 refine⟨_,h.ty,.inl ⟨_,rfl,?_⟩⟩
 cases h <;> rfl
def amt:V->Bool
 |.int i=>decide (0<=i) && decide (i<=10 ^ 12)
 |_=>false
structure bE(H:Hp)(p:Addr):Prop where
 ex:∃(d c:Int) (q:Addr) (ms:List Int),H p=some (.lst [.int d,.int c,.ref q])/\H q=some (.lst (ms.map V.int))/\ms≠[]/\q≠p
def gA(p:Addr)(H H':Hp):Prop:=∀(d c:Int) (q:Addr),H p=some (.lst [.int d,.int c,.ref q])->∃d' c':Int,H' p=some (.lst [.int d',.int c',.ref q])
theorem gA.trans(a:gA p H H1)(b:gA p H1 H2):gA p H H2:=λd c q e=>by
 obtain⟨d',c',e'⟩:=a d c q e
 exact b d' c' q e'
theorem gA.of{H H':Hp}(s:∀o,H p=some o->H' p=some o):gA p H H':=λd c q e=>⟨d,c,s _ e⟩
theorem bE.of(h:bE H p)(k:cA p H H')(s:gA p H H'):bE H' p:=by
 obtain⟨d,c,q,ms,hp,hq,hne,hqp⟩:=h.ex
 obtain⟨d',c',e⟩:=s d c q hp
 exact⟨⟨d',c',q,ms,e,k _ _ hq hqp,hne,hqp⟩⟩
theorem bE.same(h:bE H p)(s:aP H H'):bE H' p:=by
 obtain⟨d,c,q,ms,hp,hq,hne,hqp⟩:=h.ex
 exact⟨⟨d,c,q,ms,s _ _ hp,s _ _ hq,hne,hqp⟩⟩
theorem aIx(h:Th H v T):IsI K H v (.ty "list") (T == "list"):=by
 refine⟨_,h.ty,.inl ⟨_,rfl,?_⟩⟩
 cases h <;> rfl
theorem aLs(h:Th H v T):IsI K H v (.ty "tuple") (T == "tuple"):=by
 refine⟨_,h.ty,.inl ⟨_,rfl,?_⟩⟩
 cases h <;> rfl
theorem aNi{ms:List Int}{c:Int}(h:ms≠[]):∃m,m∈ms/\mC (ms.map V.int) (c % ((ms.map V.int).length:Int))=some (.int m):=by
 have hl:0 < ms.length:=Sj9.mpr h
 have e1:=Tj9 c (b:=((ms.map V.int).length:Int)) (by rw[bP];omega)
 have e2:=Su9 c (b:=((ms.map V.int).length:Int)) (by rw[bP];omega)
 obtain⟨j,hj⟩ : ∃j:Nat,c % ((ms.map V.int).length:Int)=(j:Int):=⟨_,(Int.toNat_of_nonneg e1).symm⟩
 rw[hj] at e2 ⊢
 rw[bP] at e2
 have hjl:j < ms.length:=by omega
 exact⟨ms[j],Rd9 hjl,iB (by rw[oR,dQ hjl];rfl)⟩
theorem aKu(ms:List Int)(lo hi:Option Int):∃r:List Int,rX (ms.map V.int) lo hi=r.map V.int/\r.length=(rX (ms.map V.int) lo hi).length:=by
 unfold rX
 rw[<-List.map_drop,<-List.map_take]
 exact⟨_,rfl,by simp⟩
theorem rot{ms:List Int}{i:Int}(h0:0<=i)(h1:i < ms.length):∃ms':List Int,rX (ms.map V.int) (some i) none++rX (ms.map V.int) none (some i)=ms'.map V.int/\ms'≠[]/\ms'.length<=ms.length+ms.length:=by
 obtain⟨r1,e1,l1⟩:=aKu ms (some i) none
 obtain⟨r2,e2,l2⟩:=aKu ms none (some i)
 have b1:=gC (ms.map V.int) (some i) none
 have b2:=gC (ms.map V.int) none (some i)
 rw[bP] at b1 b2
 refine⟨r1++r2,by rw[e1,e2,rW],λz=>?_,by rw[oU];omega⟩
 have z1:r1=[]:=(List.append_eq_nil_iff.mp z).1
 obtain⟨j,rfl⟩:=Tk9 h0
 have hj:j < ms.length:=by omega
 rw[z1,Tz9] at l1
 have l3:(rX (ms.map V.int) (some (j:Int)) none).length=ms.length - j:=by
  unfold rX
  rw[HT.aKa,HT.aHW,Rf9,Tw9,bP,Nat.min_eq_left (Ts9 hj)]
  omega
 rw[l3] at l1
 omega
def aG3(K:W.Frag):Sp:=λvs H Q _=>∃(a:Addr) (ns:List Int) (i:Int),vs=[.ref a,.int i]/\bV K H a (ns.map V.int)/\ns.length<=63/\0<=i/\
 ∀p H',aP H H'->H p=none->bE H' p->Q (.ref p) H'
theorem aCh{mg:Str->Option Value}{a:iR}(tx:Txt K mg a):bQ P w K mg base gE 1 a.sI a.sJ ["_law_script","_law_place"] (aG3 K):=by
 refine tx.tN.ok jB (λvs H Q E h=>?_) (λcdv A outer s H vs Q E hr h=>?_)
 ·obtain⟨a,ns,i,rfl,_⟩:=h
  rfl
 ·obtain⟨a,ns,i,rfl ,hS,hl,h0,k⟩:=h
  have hu:=jO hr
  refine bA (aD (iL (k:=1) (idx:=[]) (N:=["_law_cell"]) (i:=2) jB.nd rfl (Or.inl rfl) (cR (sc:=aH iM) (NX:=["_law_script","_law_place","_law_cells","_law_at","_law_digits"]) rfl rfl rfl (by decide +kernel)) rfl (bT (K':=K) (sA (rs:=aK4 K) aOg (Z.pv 0) vY (vZ aB))) (λ_ _ _ _=>(aL (i:=0) (show(["_law_cell"]:List Str).Nodup by decide +kernel))) (cY (by decide)) (λ_ _ _ _=>bR) (λ_ _ _ _=>(aK aK6 (by rfl) tx.aGp aQu (aA (Z.pv 0) aC))))
   (aD (bH (aZ (r:=oV K) (eE hu) (Z.pv 2) (gU aC) (bK _)) (aG (aJ (i:=2) jB.nd (sC aB))) bC)
   (aD (aJ (i:=3) jB.nd (aI uC (Z.pv 1) (aK (rc:=lW K) bS (by rfl) tx.eN dR (aA (Z.pv 2) aC))))
   (aD (aJ (i:=4) jB.nd aB)
   (aD (bH (iJ (kD (aZ aPg (aE (K':=K) (Z.pv 2) (Z.pv 3)) (aI aD6 aB aB) (bK _)) (iK (aZ aLW (Z.pv 1) (aK (rc:=lW K) bS (by rfl) tx.eN dR (aA (Z.pv 2) aC)) (bK _))))) (aG (aJ (i:=4) jB.nd (aE (K':=K) (Z.pv 2) (Z.pv 3)))) bC)
   (aG (aM (aAx (Z.pv 4) (aI bI aB (aI bN aB (Z.pv 1))) (aI bI (sA (rs:=aK4 K) aOg (Z.pv 2) (vZ (Z.pv 3)) vY) (sA (rs:=aK4 K) aOg (Z.pv 2) vY (vZ (Z.pv 3)))))))))))) ?_
  refine aS (σ:=[some (.ref a),some (.int i),none,none,none]) rfl ?_
  refine aMs ?_
  walk_at "w"
  refine aCF hS ?_
  intro p1 n1
  walk_at "w"
  rw[show rX (ns.map V.int) none (some 63)=ns.map V.int from aMz (n:=63) (by rw[bP];exact hl)]
  refine kU (bV.of aN) ?_
  refine aCG (λv=>match v with|.int i=>.int (if i < 0 then -i else i)|v=>v) (bV.of aN) (cF (by rw[bP];omega)) (λx N N' hx hN=>?_) ?_
  ·obtain⟨y,hy,rfl⟩:=xX.mp hx
   walk_at "w"
   exact hN
  ·intro p2 n2
   repeat walk_at "st"
   have s2:aP H (upd (upd H p1 (.lst (ns.map V.int))) p2 (.lst ((ns.map V.int).map λv=>match v with|.int i=>.int (if i < 0 then -i else i)|v=>v))):=(aP.new n1).trans (aP.new n2)
   rw[Rq9] at s2 ⊢
   generalize hm:ns.map ((λv=>match v with|V.int i=>V.int (if i < 0 then -i else i)|v=>v) ∘ V.int)=xs at s2 ⊢
   obtain⟨ms,rfl⟩ : ∃ms:List Int,xs=ms.map V.int:=⟨ns.map λi=>if i < 0 then -i else i,by rw[<-hm,Rq9];rfl⟩
   have lm:ms.length<=63:=by
    have:=congrArg List.length hm
    simp only[bP] at this
    omega
   refine iD (λσ' H'=>∃(c:Addr) (ms:List Int),σ'=[some (.ref a),some (.int i),some (.ref c),none,none]/\aP H H'/\H' c=some (.lst (ms.map V.int))/\ms≠[]/\ms.length<=63) (λN hN=>?_) ?_
   ·walk_at "w"
    intro p3 n3
    walk_at "w"
    refine⟨_,aGI (bV.of (by walk_at "hp")) (bV.of aN),?_⟩
    walk_at "w"
    refine kS (λh=>?_) (λh=>?_)
    ·walk_at "w"
     intro p4 n4
     walk_at "w"
     exact hN _ _ ⟨p4,[0],rfl,(s2.trans (aP.new n3)).trans (aP.new n4),aN,by simp,by simp⟩
    ·walk_at "w"
     refine hN _ _ ⟨p2,ms,rfl,s2.trans (aP.new n3),by walk_at "hp",?_,lm⟩
     rintro rfl
     simp at h
   ·rintro σ' H' ⟨c,ms,rfl,sH,hc,hne,lm⟩
    have hl:0 < ms.length:=Sj9.mpr hne
    obtain⟨m,_,hm⟩:=aNi (c:=i) hne
    have e1:=Tj9 i (b:=((ms.map V.int).length:Int)) (by rw[bP];omega)
    have e2:=Su9 i (b:=((ms.map V.int).length:Int)) (by rw[bP];omega)
    obtain⟨ms',em,en,el⟩:=rot (ms:=ms) e1 (by rw[bP] at e2 ⊢;exact e2)
    walk_at "w"
    refine cD (λh=>?_) (λh=>?_)
    ·walk_at "w"
     refine cD (λh=>?_) (λh=>?_)
     all_goals
      walk_at "w"
      refine aCF (bV.of hc) ?_
      intro p5 n5
      walk_at "w"
      refine aCF (bV.of (by walk_at "hp")) ?_
      intro p6 n6
      walk_at "w"
      refine aAt (by walk_at "hp") (by walk_at "hp") (cF (by have:=gC (ms.map V.int) (some (i % ((ms.map V.int).length:Int))) none;have:=gC (ms.map V.int) none (some (i % ((ms.map V.int).length:Int)));simp only[bP] at *;omega)) ?_
      intro p7 n7
      walk_at "w"
      rw[em]
      walk_at "w"
      intro p8 n8
      walk_at "w"
      have s8:=((aP.new (o:=.lst (rX (ms.map V.int) (some (i % ((ms.map V.int).length:Int))) none)) n5).trans (aP.new (o:=.lst (rX (ms.map V.int) none (some (i % ((ms.map V.int).length:Int))))) n6)).trans (aP.new (o:=.lst (ms'.map V.int)) n7)
      refine k _ _ (sH.trans (s8.trans (aP.new n8))) ((sH.trans s8).free n8) ⟨⟨_,_,_,ms',aN,by walk_at "hp",en,?_⟩⟩
      exact bG n8 aN
    ·walk_at "w"
     refine aCF (bV.of hc) ?_
     intro p5 n5
     walk_at "w"
     refine aCF (bV.of (by walk_at "hp")) ?_
     intro p6 n6
     walk_at "w"
     refine aAt (by walk_at "hp") (by walk_at "hp") (cF (by have:=gC (ms.map V.int) (some (i % ((ms.map V.int).length:Int))) none;have:=gC (ms.map V.int) none (some (i % ((ms.map V.int).length:Int)));simp only[bP] at *;omega)) ?_
     intro p7 n7
     walk_at "w"
     rw[em]
     walk_at "w"
     intro p8 n8
     walk_at "w"
     have s8:=((aP.new (o:=.lst (rX (ms.map V.int) (some (i % ((ms.map V.int).length:Int))) none)) n5).trans (aP.new (o:=.lst (rX (ms.map V.int) none (some (i % ((ms.map V.int).length:Int))))) n6)).trans (aP.new (o:=.lst (ms'.map V.int)) n7)
     refine k _ _ (sH.trans (s8.trans (aP.new n8))) ((sH.trans s8).free n8) ⟨⟨_,_,_,ms',aN,by walk_at "hp",en,?_⟩⟩
     exact bG n8 aN
def aG4(K:W.Frag):Sp:=λvs H Q _=>∃(p:Addr) (n:Int),vs=[.ref p,.int n]/\bE H p/\0 < n/\n < 1073741824/\
 ∀(r:Int) H',0<=r->r < n->bE H' p->cA p H H'->gA p H H'->Q (.int r) H'
theorem cN{mg:Str->Option Value}{a:iR}(tx:Txt K mg a):bQ P w K mg base gE 1 a.sL a.sM ["_law_hand","_law_many"] (aG4 K):=by
 refine tx.aQ.ok jC (λvs H Q E h=>?_) (λcdv A outer s H vs Q E hr h=>?_)
 ·obtain⟨p,n,rfl,_⟩:=h
  rfl
 ·obtain⟨p,n,rfl ,hh,h0,h1,k⟩:=h
  have hu:=jO hr
  refine bA (aD (bH (aZ aBG (aE (K':=K) (Z.pv 0) aB) aB (bK _)) (aD (aJ (i:=2) jC.nd (aI uC (aE (K':=K) (Z.pv 0) aB) (Z.pv 1)))
   (aD (vC (aI aGB (aE (K':=K) (Z.pv 0) aB) (Z.pv 1)) (aAw (Z.pv 0) aB set_list))
   (aG (aM (Z.pv 2))))) bC)
   (aD (aEj (Z.pv 0) aB aMr aB uB set_list)
   (aD (aJ (i:=3) jC.nd (aI uC (aE (K':=K) (aE (K':=K) (Z.pv 0) aB) (aI uC (aE (K':=K) (Z.pv 0) aB) (aK (rc:=lW K) bS (by rfl) tx.eN dR (aA (aE (K':=K) (Z.pv 0) aB) aC)))) aB))
   (aD (aJ (i:=4) jC.nd (aI uC (aI bI (aI bI (aI bN (Z.pv 3) aB) (aI bN (aE (K':=K) (Z.pv 0) aB) aB)) aB) aB))
   (aD (aJ (i:=4) jC.nd (aI uC (aI bI (aI bN (Z.pv 4) (Z.pv 4)) (aE (K':=K) (Z.pv 0) aB)) aB))
   (aD (aJ (i:=4) jC.nd (aI uC (aI bI (aI bN (Z.pv 4) aB) aB) aB))
   (aG (aM (aI uC (aI aGB (aI uC (aI bN (Z.pv 4) (Z.pv 4)) aB) aB) (Z.pv 1)))))))))) ?_
  obtain⟨d,c,q,ms,hp,hq,hne,hqp⟩:=hh.ex
  refine aS (σ:=[some (.ref p),some (.int n),none,none,none]) rfl ?_
  walk_at "w"
  refine cD (λhd=>?_) (λhd=>?_)
  ·walk_at "w"
   refine aAs hp rfl ?_
   walk_at "w"
   refine k _ _ (Tj9 _ (by omega)) (Su9 _ h0) ⟨⟨_,c,q,ms,aN,by walk_at "hp",hne,hqp⟩⟩ cA.upd (λd0 c0 q0 e0=>by rw[hp] at e0;cases e0;exact⟨_,_,aN⟩)
  ·walk_at "w"
   refine aMv (bV.of hp) (by decide) rfl ?_
   walk_at "w"
   refine aAs hp rfl ?_
   obtain⟨m,_,hm⟩:=aNi (c:=c+1) hne
   have hlen:0 < ((ms.map V.int).length:Int):=by rw[bP];have:=Sj9.mpr hne;omega
   walk_at "w"
   have hq':(upd H p (.lst [.int d,.int (c+1),.ref q])) q=some (.lst (ms.map V.int)):=by walk_at "hp"
   walk_at "w"
   exact k _ _ (Tj9 _ (by omega)) (Su9 _ h0) ⟨⟨d,c+1,q,ms,aN,hq',hne,hqp⟩⟩ cA.upd (λd0 c0 q0 e0=>by rw[hp] at e0;cases e0;exact⟨_,_,aN⟩)
def aIy(K:W.Frag):Sp:=λvs H Q _=>∃(p:Addr) (b:Int),vs=[.ref p,.int b]/\bE H p/\0 < b/\
 ∀(r:Int) H',0<=r->r < b->bE H' p->cA p H H'->gA p H H'->Q (.int r) H'
theorem aDz{mg:Str->Option Value}{a:iR}(tx:Txt K mg a):bQ P w K mg base gE 2 a.wB a.wC ["_law_hand","_law_bound"] (aIy K):=by
 have aO:=cN (P:=P) (w:=w) (base:=base) tx
 refine tx.wW.ok sG (λvs H Q E h=>?_) (λcdv A outer s H vs Q E hr h=>?_)
 ·obtain⟨p,b,rfl,_⟩:=h
  rfl
 ·obtain⟨p,b,rfl ,hh,h0,k⟩:=h
  have hu:=jO hr
  refine bA (aD (aJ (i:=2) sG.nd aB)
   (aD (bM PassesOwn.never rfl (bO (by rfl) tx.cM (aA aB aC)) (aL (i:=3) sG.nd) (aG (aJ (i:=2) sG.nd (aI bI (aI bN (Z.pv 2) aB) (zq1 aO hr tx.aU tx.aQ.kp tx.aT (aA (Z.pv 0) (aA aB aC)))))))
   (aG (aM (aI uC (Z.pv 2) (Z.pv 1)))))) ?_
  refine aS (σ:=[some (.ref p),some (.int b),none,none]) rfl ?_
  walk_at "w"
  refine⟨by decide,by decide,?_⟩
  refine iI (n:=11) (λi σ' H'=>∃(t:Int) (x:Option V),σ'=[some (.ref p),some (.int b),some (.int t),x]/\bE H' p/\cA p H H'/\gA p H H') ⟨0,none,rfl,hh,λ_ _ e _=>e,gA.of λ_ e=>e⟩ (λi σ' H' hi ⟨t,x,e,h',kp,sq⟩=>?_) (λσ' H' ⟨t,x,e,h',kp,sq⟩=>?_)
  ·subst e
   walk_at "w"
   refine⟨p,_,rfl,h',by decide,by decide,λr H2 r0 r1 h2 k2 q2=>?_⟩
   walk_at "w"
   exact⟨_,_,rfl,h2,kp.trans k2,sq.trans q2⟩
  ·subst e
   walk_at "w"
   exact k _ _ (Tj9 _ (by omega)) (Su9 _ h0) h' kp sq
def aEI(K:W.Frag):Sp:=λvs H Q _=>∃(p:Addr),vs=[.ref p]/\bE H p/\∀(r:Int) H',1<=r->r<=50000000000->bE H' p->cA p H H'->gA p H H'->Q (.int r) H'
theorem aEJ{mg:Str->Option Value}{a:iR}(tx:Txt K mg a):bQ P w K mg base gE 3 a.m9 a.nB ["_law_hand"] (aEI K):=by
 have aO:=cN (P:=P) (w:=w) (base:=base) tx
 have aBv:=aDz (P:=P) (w:=w) (base:=base) tx
 refine tx.nZ.ok aEv (λvs H Q E h=>?_) (λcdv A outer s H vs Q E hr h=>?_)
 ·obtain⟨p,rfl,_⟩:=h
  rfl
 ·obtain⟨p,rfl ,hh,k⟩:=h
  have hu:=jO hr
  refine bA (aD (bH (aZ aBG (zq1 aO hr tx.aU tx.aQ.kp tx.aT (aA (Z.pv 0) (aA aB aC))) aB (bK _)) (aG (aM aB)) bC)
   (aG (aM (aI bI aB (zq1 aBv hr tx.aBo tx.wW.kp tx.aBn (aA (Z.pv 0) (aA (aI bN aB (aI aD6 aB aB)) aC))))))) ?_
  refine aS (σ:=[some (.ref p)]) rfl ?_
  walk_at "w"
  refine⟨p,_,rfl,hh,by decide,by decide,λr1 H1 a1 b1 h1 k1 q1=>?_⟩
  walk_at "w"
  refine cD (λh=>?_) (λh=>?_)
  ·walk_at "w"
   exact k _ _ (by decide) (by decide) h1 k1 q1
  ·walk_at "w"
   refine⟨p,_,rfl,h1,by decide,λr2 H2 a2 b2 h2 k2 q2=>?_⟩
   have b3:r2 < 50000000000:=b2
   walk_at "w"
   exact k _ _ (by omega) (by omega) h2 (k1.trans k2) (q1.trans q2)
set_option genInjectivity true in
structure MS where
 up:Int
 down:Int
 begin_:Int
 run:Int
 rest:Int
 least:Int
 pieces:List (Int×Int)
def Am(i:Int):Prop:=0<=i/\i<=1000000000000
structure aG5(ps:List (Int×Int)):Prop where
 len:ps.length<=4
 pc:∀t∈ps,1<=t.1/\Am t.1/\Am t.2
 up:∀(j:Nat) t u,ps[j]?=some t->ps[j+1]?=some u->t.2<=u.2
structure MS.Good(m:MS):Prop where
 up:1<=m.up/\m.up<=12
 down:1<=m.down/\m.down<=12
 begin_:Am m.begin_
 run:Am m.run
 rest:Am m.rest
 least:Am m.least
 pieces:aG5 m.pieces
structure aAg(H:Hp)(qs:List Addr)(ps:List (Int×Int)):Prop where
 len:qs.length=ps.length
 at_:∀(j:Nat) q t,qs[j]?=some q->ps[j]?=some t->H q=some (.tup [.int t.1,.int t.2])
structure aAJ(H:Hp)(p:Addr)(ps:List (Int×Int)):Prop where
 ex:∃qs,H p=some (.lst (qs.map V.ref))/\aAg H qs ps
structure dB(H:Hp)(s:Addr)(m:MS):Prop where
 ex:∃pl,H s=some (.lst [.int m.up,.int m.down,.int m.begin_,.int m.run,.int m.rest,.int m.least,.ref pl])/\aAJ H pl m.pieces
def mFs(m:MS)(pl:Addr):List (Str×V):=[("up",.int m.up),("down",.int m.down),("begin",.int m.begin_),("run",.int m.run),("rest",.int m.rest),("least",.int m.least),("pieces",.ref pl)]
structure cV(C:Addr)(H:Hp)(a:Addr)(m:MS):Prop where
 ex:∃dx pl,H a=some (.ins C dx (mFs m pl))/\aAJ H pl m.pieces
theorem aAg.at2{H:Hp}{ps:List (Int×Int)}(h:aAg H qs ps)(hq:q∈qs):∃t∈ps,H q=some (.tup [.int t.1,.int t.2]):=by
 obtain⟨j,hj,rfl⟩:=List.getElem_of_mem hq
 have hj2:j < ps.length:=by rw[<-h.len];exact hj
 exact⟨ps[j],Rd9 hj2,h.at_ j _ _ (dQ hj) (dQ hj2)⟩
theorem aAg.same{ps:List (Int×Int)}(h:aAg H qs ps)(s:aP H H'):aAg H' qs ps:=⟨h.len,λj q t h1 h2=>s _ _ (h.at_ j q t h1 h2)⟩
theorem aAJ.same{ps:List (Int×Int)}(h:aAJ H p ps)(s:aP H H'):aAJ H' p ps:=by
 obtain⟨qs,h1,h2⟩:=h.ex
 exact⟨qs,s _ _ h1,h2.same s⟩
theorem dB.same(h:dB H p m)(s:aP H H'):dB H' p m:=by
 obtain⟨pl,h1,h2⟩:=h.ex
 exact⟨pl,s _ _ h1,h2.same s⟩
theorem cV.same(h:cV C H p m)(s:aP H H'):cV C H' p m:=by
 obtain⟨dx,pl,h1,h2⟩:=h.ex
 exact⟨dx,pl,s _ _ h1,h2.same s⟩
theorem aAg.keep{H:Hp}{ps:List (Int×Int)}(h:aAg H qs ps)(hp:∀xs,H p≠some (.tup xs))(s:cA p H H'):aAg H' qs ps:=
 ⟨h.len,λj q t h1 h2=>by
  have e:=h.at_ j q t h1 h2
  exact s _ _ e (λz=>hp _ (z▸e))⟩
theorem bE.aLF(h:bE H p)(xs:List V):H p≠some (.tup xs):=λz=>by
 obtain⟨d,c,q,ms,hp,_⟩:=h.ex
 rw[hp] at z
 cases z
theorem aAJ.keep{ps:List (Int×Int)}(h:aAJ H a ps)(hh:bE H p)(s:cA p H H'):aAJ H' a ps:=by
 obtain⟨qs,h1,h2⟩:=h.ex
 obtain⟨d,c,q,ms,hp,_⟩:=id hh.ex
 refine⟨qs,s _ _ h1 (λz=>?_),h2.keep hh.aLF s⟩
 rw[z,hp] at h1
 cases qs with
 |nil=>cases h1
 |cons x xs=>cases h1
theorem dB.keep(h:dB H a m)(hh:bE H p)(s:cA p H H'):dB H' a m:=by
 obtain⟨pl,h1,h2⟩:=h.ex
 obtain⟨d,c,q,ms,hp,_⟩:=id hh.ex
 refine⟨pl,s _ _ h1 (λz=>?_),h2.keep hh s⟩
 rw[z,hp] at h1
 cases h1
theorem cV.keep{C:Addr}{H H':Hp}{a p:Addr}{m:MS}(h:cV C H a m)(hh:bE H p)(s:cA p H H'):cV C H' a m:=by
 obtain⟨dx,pl,h1,h2⟩:=h.ex
 obtain⟨d,c,q,ms,hp,_⟩:=id hh.ex
 refine⟨dx,pl,s _ _ h1 (λz=>?_),h2.keep hh s⟩
 rw[z,hp] at h1
 cases h1
theorem xP{i:Int}(h:Am i):amt (.int i)=true:=by
 obtain⟨h1,h2⟩:=h
 have h3:i<=10 ^ 12:=h2
 show(decide (0<=i) && decide (i<=10 ^ 12))=true
 rw[decide_eq_true h1,decide_eq_true h3]
 rfl
def aIz(K:PySem.W.Frag):Sp:=λvs H Q _=>∃v T,vs=[v]/\Th H v T/\Q (.bl (T == "int")) H
theorem aAh{mg:Str->Option Value}{a:iR}(tx:Txt K mg a):bQ P w K mg base gE 1 a.wD a.wG ["thing"] (aIz K):=by
 refine tx.qY.ok aIt (λvs H Q E h=>?_) (λcdv A outer s H vs Q E hr h=>?_)
 ·obtain⟨v,T,rfl,_⟩:=h
  rfl
 ·obtain⟨v,T,rfl ,ht,k⟩:=h
  have hu:=jO hr
  refine bA (aG (aM (qP (aK (rc:=aGH K) mF (by rfl) tx.cS fA (aA (Z.pv 0) (aA (qT (v:=.ty "int") (by rfl) tx.aDy aJm rfl) aC))) (mG (aLc (aK (rc:=aGH K) mF (by rfl) tx.cS fA (aA (Z.pv 0) (aA (qT (v:=.ty "bool") (by rfl) tx.aCS aOf rfl) aC)))))))) ?_
  refine aS (σ:=[some v]) rfl ?_
  walk_at "w"
  refine aBh (aOX ht) ?_
  walk_at "w"
  refine kS (λh=>?_) (λh=>?_)
  ·walk_at "w"
   refine aBh (aNh ht) ?_
   walk_at "w"
   have e:(!(T == "bool"))=(T == "int"):=by cases ht <;> first|rfl|cases h
   rw[e]
   exact k
  ·have e:(T == "int")=false:=by cases ht <;> first|rfl|cases h
   rw[e] at k
   exact k
def aG6(K:W.Frag):Sp:=λvs H Q _=>∃v T,vs=[v]/\Th H v T/\Q (.bl (amt v)) H
theorem qO{mg:Str->Option Value}{a:iR}(tx:Txt K mg a):bQ P w K mg base gE 2 a.sN a.sO ["thing"] (aG6 K):=by
 have rQ:=aAh (P:=P) (w:=w) (base:=base) tx
 refine tx.dO.ok aGY (λvs H Q E h=>?_) (λcdv A outer s H vs Q E hr h=>?_)
 ·obtain⟨v,T,rfl,_⟩:=h
  rfl
 ·obtain⟨v,T,rfl ,ht,k⟩:=h
  have hu:=jO hr
  refine bA (aG (aM (qP (zq1 rQ hr tx.wY tx.qY.kp tx.wX (aA (Z.pv 0) aC)) (mG (yZ aC7 aC7 aB (Z.pv 0) (aI aD6 aB aB)))))) ?_
  refine aS (σ:=[some v]) rfl ?_
  walk_at "w"
  refine⟨v,T,rfl,ht,?_⟩
  walk_at "w"
  refine kS (λh=>?_) (λh=>?_)
  ·cases ht with
   |int i=>
    walk_at "w"
    refine cD (λh1=>?_) (λh1=>?_)
    ·walk_at "w"
     have e:amt (.int i)=decide (i<=10 ^ (12:Int).toNat):=by simp[amt,h1]
     rw[<-e]
     exact k
    ·have e:amt (.int i)=false:=by simp[amt,h1]
     rw[e] at k
     exact k
   |_=>cases h
  ·have e:amt v=false:=by cases ht <;> first|rfl|cases h
   rw[e] at k
   exact k
def aJN(K:W.Frag):Sp:=λvs H Q _=>∃(i:Int),vs=[.int i]/\1<=i/\i<=12/\Q (.bl true) H
theorem aJO{mg:Str->Option Value}{a:iR}(tx:Txt K mg a):bQ P w K mg base gE 2 a.aAz a.aAA ["thing"] (aJN K):=by
 have rQ:=aAh (P:=P) (w:=w) (base:=base) tx
 refine tx.aAB.ok aJM (λvs H Q E h=>?_) (λcdv A outer s H vs Q E hr h=>?_)
 ·obtain⟨i,rfl,_⟩:=h
  rfl
 ·obtain⟨i,rfl ,h1,h2,k⟩:=h
  have hu:=jO hr
  refine bA (aG (aM (qP (zq1 rQ hr tx.wY tx.qY.kp tx.wX (aA (Z.pv 0) aC)) (mG (yZ aC7 aC7 aB (Z.pv 0) (vX (n:=12) (by rfl) tx.eS)))))) ?_
  refine aS (σ:=[some (.int i)]) rfl ?_
  walk_at "w"
  refine⟨_,_,rfl,.int i,?_⟩
  walk_at "w"
  refine kS (λ_=>?_) (λh=>by simp at h)
  walk_at "w"
  refine cD (λ_=>?_) (λh=>absurd h1 h)
  walk_at "w"
  rw[decide_eq_true h2]
  exact k
def aIA(K:W.Frag):Sp:=λvs H Q _=>∃(q:Addr) (x y:Int),vs=[.ref q]/\H q=some (.tup [.int x,.int y])/\1<=x/\Am x/\Am y/\Q (.bl true) H
theorem aIB{mg:Str->Option Value}{a:iR}(tx:Txt K mg a):bQ P w K mg base gE 3 a.wH a.wI ["thing"] (aIA K):=by
 have dI:=qO (P:=P) (w:=w) (base:=base) tx
 refine tx.aBp.ok aIu (λvs H Q E h=>?_) (λcdv A outer s H vs Q E hr h=>?_)
 ·obtain⟨q,x,y,rfl,_⟩:=h
  rfl
 ·obtain⟨q,x,y,rfl ,hq,h1,h2,h3,k⟩:=h
  have hu:=jO hr
  refine bA (aD (bH (iJ (aEh (iS (fP (aK (rc:=aGH K) mF (by rfl) tx.cS fA (aA (Z.pv 0) (aA (qT (v:=.ty "tuple") (by rfl) tx.lS vA rfl) aC))))) (aCL (aZ (r:=aMo K) (aJo hu) (aK (rc:=lW K) bS (by rfl) tx.eN dR (aA (Z.pv 0) aC)) aB (bK _))))) (aG (aM vB)) bC)
   (aG (aM (qP (zq1 dI hr tx.dZ tx.dO.kp tx.dY (aA (aE (K':=K) (Z.pv 0) aB) aC)) (qP (j7 aPg (aE (K':=K) (Z.pv 0) aB) aB (bK _)) (mG (zq1 dI hr tx.dZ tx.dO.kp tx.dY (aA (aE (K':=K) (Z.pv 0) aB) aC)))))))) ?_
  refine aS (σ:=[some (.ref q)]) rfl ?_
  walk_at "w"
  refine aBh (aLs (.tup hq)) ?_
  walk_at "w"
  refine kS (λh=>by simp at h) (λ_=>?_)
  walk_at "w"
  refine aOx (λh=>absurd rfl h) (λ_=>?_)
  walk_at "w"
  refine⟨_,_,rfl,.int x,?_⟩
  rw[xP h2]
  walk_at "w"
  refine cD (λ_=>?_) (λh=>absurd h1 h)
  walk_at "w"
  refine⟨_,_,rfl,.int y,?_⟩
  rw[xP h3]
  exact k
def aFx(K:W.Frag):Sp:=λvs H Q _=>∃(p:Addr) (ps:List (Int×Int)),vs=[.ref p]/\aAJ H p ps/\aG5 ps/\∀H',aP H H'->Q (.bl true) H'
theorem aFy{mg:Str->Option Value}{a:iR}(tx:Txt K mg a):bQ P w K mg base gE 4 a.pL a.pM ["thing"] (aFx K):=by
 have aJP:=aIB (P:=P) (w:=w) (base:=base) tx
 refine tx.wZ.ok aFq (λvs H Q E h=>?_) (λcdv A outer s H vs Q E hr h=>?_)
 ·obtain⟨p,ps,rfl,_⟩:=h
  rfl
 ·obtain⟨p,ps,rfl ,hp,hg,k⟩:=h
  have hu:=jO hr
  refine bA (aD (bH (iJ (aEh (iS (fP (aK (rc:=aGH K) mF (by rfl) tx.cS fA (aA (Z.pv 0) (aA (qT (v:=.ty "list") (by rfl) tx.mY rZ rfl) aC))))) (aCL (aZ aBG (aK (rc:=lW K) bS (by rfl) tx.eN dR (aA (Z.pv 0) aC)) (vX (n:=4) (by rfl) tx.iA) (bK _))))) (aG (aM vB)) bC)
   (aD (bH (iS (fP (aK (rc:=aMH K) (aCI rfl) (by rfl) tx.aDx aJn (aA (cO (k:=1) (idx:=[]) (N:=["piece"]) (cR (sc:=aH eX) (NX:=["thing"]) rfl rfl rfl (by decide +kernel)) rfl (bT (K':=K) (Z.pv 0)) (λ_ _ _ _=>(aL (i:=0) (show(["piece"]:List Str).Nodup by decide +kernel))) (cY (by decide)) (λ_ _ _ _=>bR) (λ_ _ _ _=>(zq1 aJP hr tx.aEB tx.aBp.kp tx.aEA (aA (Z.pv 0) aC)))) aC)))) (aG (aM vB)) bC)
   (aG (aM (aK (rc:=aMH K) (aCI rfl) (by rfl) tx.aDx aJn (aA (cO (k:=1) (idx:=[0]) (N:=["at","thing"]) (cR (sc:=aH eX) (NX:=["thing"]) rfl rfl rfl (by decide +kernel)) rfl (aAR (by rfl) tx.cM (aA aB (aA (aK (rc:=lW K) bS (by rfl) tx.eN dR (aA (Z.pv 0) aC)) aC))) (λ_ _ _ _=>(aL (i:=0) (show(["at","thing"]:List Str).Nodup by decide +kernel))) (cY (by decide)) (λ_ _ _ _=>bR) (λ_ _ _ _=>(j7 aC7 (aE (K':=K) (aE (K':=K) (Z.pv 1) (aI dJ (Z.pv 0) aB)) aB) (aE (K':=K) (aE (K':=K) (Z.pv 1) (Z.pv 0)) aB) (bK _)))) aC)))))) ?_
  obtain⟨qs,h1,h2⟩:=hp.ex
  have hl:=hg.len
  have hql:qs.length<=4:=by rw[h2.len];exact hl
  refine aS (σ:=[some (.ref p)]) rfl ?_
  walk_at "w"
  refine aBh (aIx (.lst h1)) ?_
  walk_at "w"
  refine kS (λh=>by simp at h) (λ_=>?_)
  walk_at "w"
  refine cD (λh=>by rw[bP] at h;omega) (λ_=>?_)
  walk_at "w"
  refine kU (bV.of h1) ?_
  refine aCG (λ_=>.bl true) (bV.of h1) (cF (by rw[bP];omega)) (λx N N' hxm hN=>?_) ?_
  ·obtain⟨q,hq,rfl⟩:=xX.mp hxm
   obtain⟨t,ht,e⟩:=h2.at2 hq
   obtain⟨g1,g2,g3⟩:=hg.pc t ht
   walk_at "w"
   exact⟨q,t.1,t.2,rfl,e,g1,g2,g3,hN⟩
  ·intro l1 n1
   walk_at "w"
   refine aGJ (bV.of aN) (λx hx=>by obtain⟨_,_,rfl⟩:=xX.mp hx;rfl) ?_
   walk_at "w"
   have h1':=aP.new (o:=.lst ((qs.map V.ref).map λ_=>V.bl true)) n1 _ _ h1
   have h2':=h2.same (aP.new (o:=.lst ((qs.map V.ref).map λ_=>V.bl true)) n1)
   walk_at "w"
   refine⟨⟨by omega,by omega,by omega,by rw[bP];omega⟩,?_⟩
   rw[bP]
   refine aJp (λ_=>.bl true) (cF (by omega)) (λi N N' hi hN=>?_) ?_
   ·have i1:i < qs.length:=by omega
    have i2:i+1 < qs.length:=by omega
    have j1:i < ps.length:=by rw[<-h2.len];exact i1
    have j2:i+1 < ps.length:=by rw[<-h2.len];exact i2
    have e1:mC (qs.map V.ref) (1+(i:Int) - 1)=some (.ref qs[i]):=by
     rw[show 1+(i:Int) - 1=(i:Int) by omega]
     exact iB (by rw[oR,dQ i1];rfl)
    have e2:mC (qs.map V.ref) (1+(i:Int))=some (.ref qs[i+1]):=by
     rw[show 1+(i:Int)=((i+1:Nat):Int) by omega]
     exact iB (by rw[oR,dQ i2];rfl)
    have t1:=h2'.at_ i _ _ (dQ i1) (dQ j1)
    have t2:=h2'.at_ (i+1) _ _ (dQ i2) (dQ j2)
    have t3:=hg.up i _ _ (dQ j1) (dQ j2)
    walk_at "w"
    rw[decide_eq_true t3]
    exact hN
   ·intro l2 n2
    walk_at "w"
    refine aGJ (bV.of aN) (λx hx=>by obtain⟨_,_,rfl⟩:=xX.mp hx;rfl) ?_
    exact k _ ((aP.new n1).trans (aP.new n2))
def aDF(K:W.Frag)(C:Addr):Sp:=λvs H Q _=>∃(x dx pl:Addr) (m:MS),vs=[.ref x,.int m.up,.int m.down,.int m.begin_,.int m.run,.int m.rest,.int m.least,.ref pl]/\H x=some (.ins C dx [])/\aAJ H pl m.pieces/\m.Good/\
 ∀H',cV C H' x m->cA x H H'->Q .non H'
theorem aDG{mg:Str->Option Value}{a:iR}(tx:Txt K mg a):bQ P w K mg base gE 5 a.kZ a.lA ["self","up","down","begin","run","rest","least","pieces"] (aDF K a.bD):=by
 have aG7:=aFy (P:=P) (w:=w) (base:=base) tx
 have dI:=qO (P:=P) (w:=w) (base:=base) tx
 have aGq:=aJO (P:=P) (w:=w) (base:=base) tx
 refine tx.zC.ok gN (λvs H Q E h=>?_) (λcdv A outer s H vs Q E hr h=>?_)
 ·obtain⟨x,dx,pl,m,rfl,_⟩:=h
  rfl
 ·obtain⟨x,dx,pl,m,rfl ,hx,hp,hg,k⟩:=h
  have hu:=jO hr
  refine bA (aD (aJ (i:=8) gN.nd (sD (zq1 aGq hr tx.aCQ tx.aAB.kp tx.aCP (aA (Z.pv 1) aC)) (zq1 aGq hr tx.aCQ tx.aAB.kp tx.aCP (aA (Z.pv 2) aC))))
   (aD (aJ (i:=9) gN.nd (aOH (zq1 dI hr tx.dZ tx.dO.kp tx.dY (aA (Z.pv 3) aC)) (zq1 dI hr tx.dZ tx.dO.kp tx.dY (aA (Z.pv 4) aC)) (zq1 dI hr tx.dZ tx.dO.kp tx.dY (aA (Z.pv 5) aC)) (zq1 dI hr tx.dZ tx.dO.kp tx.dY (aA (Z.pv 6) aC))))
   (aD (bM PassesOwn.never rfl (oN (K':=K) (by rfl) tx.d7 (aA (aI bI (aI bI (Z.pv 8) (Z.pv 9)) (sC (zq1 aG7 hr tx.aBW tx.wZ.kp tx.aBV (aA (Z.pv 7) aC)))) aC)) (cC (K':=K) (n:=2) rfl (aV (aL (i:=10) gN.nd) (aV (aL (i:=11) gN.nd) cB))) (aG (bH (iS (fP (Z.pv 11))) (aG oM) bC)))
   (aD (cU (K':=K) (Z.pv 0) (Z.pv 1) rfl)
   (aD (cU (K':=K) (Z.pv 0) (Z.pv 2) rfl)
   (aD (cU (K':=K) (Z.pv 0) (Z.pv 3) rfl)
   (aD (cU (K':=K) (Z.pv 0) (Z.pv 4) rfl)
   (aD (cU (K':=K) (Z.pv 0) (Z.pv 5) rfl)
   (aD (cU (K':=K) (Z.pv 0) (Z.pv 6) rfl)
   (aG (cU (K':=K) (Z.pv 0) (bX (rc:=aBM K) aBi (by rfl) tx.mY rZ (aA (Z.pv 7) aC)) rfl))))))))))) ?_
  refine aS (σ:=[some (.ref x),some (.int m.up),some (.int m.down),some (.int m.begin_),some (.int m.run),some (.int m.rest),some (.int m.least),some (.ref pl),none,none,none,none]) rfl ?_
  walk_at "w"
  refine⟨_,rfl,hg.up.1,hg.up.2,?_⟩
  walk_at "w"
  refine⟨_,rfl,hg.down.1,hg.down.2,?_⟩
  walk_at "w"
  intro l1 n1
  walk_at "w"
  refine⟨_,_,rfl,.int _,?_⟩
  rw[xP hg.begin_]
  walk_at "w"
  refine⟨_,_,rfl,.int _,?_⟩
  rw[xP hg.run]
  walk_at "w"
  refine⟨_,_,rfl,.int _,?_⟩
  rw[xP hg.rest]
  walk_at "w"
  refine⟨_,_,rfl,.int _,?_⟩
  rw[xP hg.least]
  walk_at "w"
  intro l2 n2
  walk_at "w"
  refine aAt (xs:=[.bl true,.bl true]) (zs:=[.bl true,.bl true,.bl true,.bl true]) (by walk_at "hp") aN (cF (by simp)) ?_
  intro l3 n3
  walk_at "w"
  have s3:aP H (upd (upd (upd H l1 (.lst [.bl true,.bl true])) l2 (.lst [.bl true,.bl true,.bl true,.bl true])) l3 (.lst ([.bl true,.bl true] ++ [.bl true,.bl true,.bl true,.bl true]))):=((aP.new n1).trans (aP.new n2)).trans (aP.new n3)
  refine⟨pl,m.pieces,rfl,hp.same s3,hg.pieces,λH4 s4=>?_⟩
  walk_at "w"
  intro l5 n5
  walk_at "w"
  refine aAt (xs:=[.bl true,.bl true] ++ [.bl true,.bl true,.bl true,.bl true]) (zs:=[.bl true]) (aP.new n5 _ _ (s4 _ _ aN)) aN (cF (by simp)) ?_
  intro l6 n6
  walk_at "w"
  have s6:aP H (upd (upd H4 l5 (.lst [.bl true])) l6 (.lst (([.bl true,.bl true] ++ [.bl true,.bl true,.bl true,.bl true]) ++ [.bl true]))):=(s3.trans s4).trans ((aP.new n5).trans (aP.new n6))
  generalize hH6:upd (upd H4 l5 (.lst [.bl true])) l6 (.lst (([.bl true,.bl true] ++ [.bl true,.bl true,.bl true,.bl true]) ++ [.bl true]))=H6 at s6 ⊢
  have e6:H6 l6=some (.lst [.bl true,.bl true,.bl true,.bl true,.bl true,.bl true,.bl true]):=by rw[<-hH6,aN];rfl
  refine aIa (bV.of e6) ?_
  refine aBN (xs:=[.bl true,.bl true,.bl true,.bl true,.bl true,.bl true,.bl true]) (λi σ' H'=>∃y z,σ'=[some (.ref x),some (.int m.up),some (.int m.down),some (.int m.begin_),some (.int m.run),some (.int m.rest),some (.int m.least),some (.ref pl),some (.ref l1),some (.ref l2),y,z]/\aP H6 H')
   ⟨_,_,rfl,aP.refl _⟩ (λi σ' H' hi ⟨y,z,e,s⟩=>bV.of (s _ _ e6)) (λi v σ' H' T hv ⟨y,z,e,s⟩ nT=>?_) (λσ' H' ⟨y,z,e,s⟩=>?_)
  ·subst e
   have ev:v=.bl true:=by
    have:=oS hv
    simpa using this
   subst ev
   refine eM (kQ.of aN) rfl ?_
   walk_at "w"
   exact⟨_,_,rfl,s.trans (aP.new nT)⟩
  ·subst e
   have sH:aP H H':=s6.trans s
   have hx':=sH _ _ hx
   have hp':=hp.same sH
   obtain⟨qs,p1,p2⟩:=hp'.ex
   walk_at "w"
   refine jZ (fs':=[("up",.int m.up)]) hx' tx.cW tx.xM (by simp[mFs]) rfl ?_
   walk_at "w"
   refine jZ (fs':=[("up",.int m.up),("down",.int m.down)]) aN tx.cW tx.rM (by simp[mFs]) rfl ?_
   rw[kP]
   walk_at "w"
   refine jZ (fs':=[("up",.int m.up),("down",.int m.down),("begin",.int m.begin_)]) aN tx.cW tx.o7 (by simp[mFs]) rfl ?_
   rw[kP]
   walk_at "w"
   refine jZ (fs':=[("up",.int m.up),("down",.int m.down),("begin",.int m.begin_),("run",.int m.run)]) aN tx.cW tx.uU (by simp[mFs]) rfl ?_
   rw[kP]
   walk_at "w"
   refine jZ (fs':=[("up",.int m.up),("down",.int m.down),("begin",.int m.begin_),("run",.int m.run),("rest",.int m.rest)]) aN tx.cW tx.rN (by simp[mFs]) rfl ?_
   rw[kP]
   walk_at "w"
   refine jZ (fs':=[("up",.int m.up),("down",.int m.down),("begin",.int m.begin_),("run",.int m.run),("rest",.int m.rest),("least",.int m.least)]) aN tx.cW tx.o8 (by simp[mFs]) rfl ?_
   rw[kP]
   walk_at "w"
   have px:pl≠x:=λz=>by rw[z,hx'] at p1;cases p1
   refine aEd (ys:=qs.map V.ref) (bV.of (by rw[bB px];exact p1)) ?_
   intro l9 n9
   walk_at "w"
   have x9:x≠l9:=bG n9 aN
   walk_at "w"
   refine jZ (fs':=mFs m l9) (by rw[bB x9];exact aN) tx.cW tx.mW (by simp[mFs]) rfl ?_
   walk_at "w"
   refine k _ ⟨dx,l9,aN,qs,?_,p2.len,λj q t h1 h2=>?_⟩ (λb o e nb=>?_)
   ·rw[bB (Ne.symm x9),aN]
   ·have e:=p2.at_ j q t h1 h2
    have qx:q≠x:=λz=>by rw[z,hx'] at e;cases e
    have q9:q≠l9:=bG n9 (by rw[bB qx];exact e)
    rw[bB qx,bB q9,bB qx]
    exact e
   ·have e1:=sH _ _ e
    have b9:b≠l9:=bG n9 (by rw[bB nb];exact e1)
    rw[bB nb,bB b9,bB nb]
    exact e1
structure PcW(ps:List (Int×Int))(r:Int):Prop where
 pc:∀t∈ps,1<=t.1/\Am t.1/\Am t.2
 up:∀(j:Nat) t u,ps[j]?=some t->ps[j+1]?=some u->t.2<=u.2
 top:∀t∈ps,t.2<=r
theorem PcW.nil{r:Int}:PcW [] r:=⟨λ_ h=>by simp at h,λj t u h=>by simp at h,λ_ h=>by simp at h⟩
theorem PcW.snoc{ps:List (Int×Int)}{r r' a:Int}(w:PcW ps r)(hr:r<=r')(h1:1<=a)(h2:Am a)(h3:Am r'):PcW (ps ++ [(a,r')]) r':=by
 refine⟨λt h=>?_,λj t u ht hu=>?_,λt h=>?_⟩
 ·rcases Ri9.mp h with h|h
  ·exact w.pc t h
  ·rw[Qu9.mp h];exact⟨h1,h2,h3⟩
 ·have hj2:j+1 < (ps ++ [(a,r')]).length:=(lZ.mp hu).1
  rw[oU,Qz9] at hj2
  have hj:j < ps.length:=by omega
  rw[Qn9 hj] at ht
  by_cases hj3:j+1 < ps.length
  ·rw[Qn9 hj3] at hu
   exact w.up j t u ht hu
  ·rw[Qo9 (by omega),show j+1 - ps.length=0 by omega] at hu
   cases hu
   exact Sm9 (w.top t (oS ht)) hr
 ·rcases Ri9.mp h with h|h
  ·exact Sm9 (w.top t h) hr
  ·rw[Qu9.mp h];exact Sp9 _
theorem aAg.snoc{ss:List (Int×Int)}{t:Int×Int}(h:aAg H qs ss)(hl:H l=some (.lst xs))(k:cA l H H3)(hT:H3 T=some (.tup [.int t.1,.int t.2])):aAg H3 (qs ++ [T]) (ss ++ [t]):=by
 refine⟨by rw[oU,oU,h.len];rfl,λj q u hq hu=>?_⟩
 by_cases hj:j < qs.length
 ·rw[Qn9 hj] at hq
  rw[Qn9 (by rw[<-h.len];exact hj)] at hu
  have e:=h.at_ j q u hq hu
  refine k q _ e λz=>?_
  rw[z,hl] at e
  cases e
 ·have hj2:j < (qs ++ [T]).length:=(lZ.mp hq).1
  rw[oU,Qz9] at hj2
  have e:j=qs.length:=by omega
  subst e
  rw[Qo9 (gB _),Sa9] at hq
  rw[h.len,Qo9 (gB _),Sa9] at hu
  cases hq
  cases hu
  exact hT
theorem bE.aIC{qs:List Addr}(h:bE H p)(e:H c=some (.lst (qs.map V.ref))):c≠p:=λz=>by
 obtain⟨d,cc,q,ms,hp,_⟩:=h.ex
 rw[z,hp] at e
 cases qs with
 |nil=>cases e
 |cons x xs=>cases e
theorem bE.aG8{xs:List V}(h:bE H p)(e:H c=some (.lst xs))(hl:xs.length≠3):c≠p:=λz=>by
 obtain⟨d,cc,q,ms,hp,_⟩:=h.ex
 rw[z,hp] at e
 cases e
 exact hl rfl
theorem bE.isL{H:Hp}(h:bE H p):∃xs,H p=some (.lst xs):=by
 obtain⟨d,cc,q,ms,hp,_⟩:=h.ex
 exact⟨_,hp⟩
theorem oP(k:cA p H H')(hh:bE H' p)(n:H' c=none):H c=none:=by
 cases hc:H c with
 |none=>rfl
 |some v=>
  obtain⟨xs,e⟩:=hh.isL
  exact absurd rfl (bG n (k c v hc (λz=>bG n e z.symm)))
theorem aID{x r n B:Int}(x0:1<=x)(x1:x<=50000000000)(a:0<=r)(c:r < n)(h:50000000000*(n - 1)<=B):0<=x*r/\x*r<=B:=
 ⟨Td9 (by omega) a,Sm9 (Int.mul_le_mul x1 (show r<=n - 1 by omega) a (by omega)) h⟩
theorem aRX{x u n B:Int}(x0:1<=x)(x1:x<=50000000000)(a:0<=u)(c:u < n)(h:50000000000*n<=B):x<=x*(1+u)/\x*(1+u)<=B:=
 ⟨by have:=Int.mul_le_mul_of_nonneg_left (show 1<=1+u by omega) (show 0<=x by omega);rw[So9] at this;exact this,Sm9 (Int.mul_le_mul x1 (show 1+u<=n by omega) (by omega) (by omega)) h⟩
theorem up1{r n:Int}(a:0<=r)(c:r < n)(n1:n<=12):(1<=1+r/\1+r<=12)/\1+r<=n:=by omega
theorem amB{z:Int}(h:0<=z/\z<=250000000000):Am z:=⟨h.1,by have:=h.2;omega⟩
theorem rtB{rate z:Int}{i:Nat}(f5:0<=rate)(f6:rate<=(i:Int)*100000000000)(g:0<=z/\z<=100000000000)(i4:i<=3):rate<=rate+z/\Am (rate+z)/\0<=rate+z/\rate+z<=((i+1:Nat):Int)*100000000000:=⟨by omega,⟨by omega,by omega⟩,by omega,by omega⟩
theorem xB{x z:Int}(x0:1<=x)(g:x<=z/\z<=150000000000):1<=z/\Am z:=⟨by omega,⟨by omega,by omega⟩⟩
def aG9(K:W.Frag):Sp:=λvs H Q _=>∃(p b:Addr) (x y n:Int),vs=[.ref p,.ref b,.int n]/\bE H p/\H b=some (.lst [.int x,.int y])/\1<=x/\x<=50000000000/\1<=y/\y<=50000000000/\1<=n/\n<=12/\
 ∀(s:Addr) (m:MS) H',dB H' s m->m.Good->m.up<=n->m.down<=n->bE H' p->cA p H H'->H s=none->Q (.ref s) H'
theorem aHa{mg:Str->Option Value}{a:iR}(tx:Txt K mg a):bQ P w K mg base gE 2 a.sP a.sQ ["_law_hand","_law_by","_law_longest"] (aG9 K):=by
 have aO:=cN (P:=P) (w:=w) (base:=base) tx
 refine tx.zE.ok dX (λvs H Q E h=>?_) (λcdv A outer s H vs Q E hr h=>?_)
 ·obtain⟨p,b,x,y,n,rfl,_⟩:=h
  rfl
 ·obtain⟨p,b,x,y,n,rfl ,hh,hb,x0,x1,y0,y1,n0,n1,k⟩:=h
  have hu:=jO hr
  refine bA (aD (aJ (i:=3) dX.nd (aI bI aB (zq1 aO hr tx.aU tx.aQ.kp tx.aT (aA (Z.pv 0) (aA (Z.pv 2) aC)))))
   (aD (aJ (i:=4) dX.nd (aI bI aB (zq1 aO hr tx.aU tx.aQ.kp tx.aT (aA (Z.pv 0) (aA (Z.pv 2) aC)))))
   (aD (aJ (i:=5) dX.nd (aAx (aI bN (aE (K':=K) (Z.pv 1) aB) (zq1 aO hr tx.aU tx.aQ.kp tx.aT (aA (Z.pv 0) (aA aB aC)))) (aI bN (aE (K':=K) (Z.pv 1) aB) (zq1 aO hr tx.aU tx.aQ.kp tx.aT (aA (Z.pv 0) (aA aB aC)))) (aI bN (aE (K':=K) (Z.pv 1) aB) (zq1 aO hr tx.aU tx.aQ.kp tx.aT (aA (Z.pv 0) (aA aB aC))))))
   (aD (aJ (i:=6) dX.nd (aI bN (aE (K':=K) (Z.pv 1) aB) (zq1 aO hr tx.aU tx.aQ.kp tx.aT (aA (Z.pv 0) (aA aB aC)))))
   (aD (aJ (i:=7) dX.nd aB)
   (aD (aJ (i:=8) dX.nd (gU aC))
   (aD (bM PassesOwn.never rfl (bO (by rfl) tx.cM (aA (zq1 aO hr tx.aU tx.aQ.kp tx.aT (aA (Z.pv 0) (aA aB aC))) aC)) (aL (i:=9) dX.nd) (aD (kE (i:=7) dX.nd rfl (Or.inl rfl) (aI bN (aE (K':=K) (Z.pv 1) aB) (zq1 aO hr tx.aU tx.aQ.kp tx.aT (aA (Z.pv 0) (aA aB aC)))) uB)
   (aG (eF (fB (K':=K) (Z.pv 8) (aA (eW (aI bN (aE (K':=K) (Z.pv 1) aB) (aI bI aB (zq1 aO hr tx.aU tx.aQ.kp tx.aT (aA (Z.pv 0) (aA aB aC))))) (Z.pv 7)) aC))))))
   (aG (aM (aOJ (Z.pv 3) (Z.pv 4) (aE (K':=K) (Z.pv 5) aB) (aE (K':=K) (Z.pv 5) aB) (aE (K':=K) (Z.pv 5) aB) (Z.pv 6) (Z.pv 8))))))))))) ?_
  have bp:b≠p:=hh.aG8 hb (by simp)
  refine aS (σ:=[some (.ref p),some (.ref b),some (.int n),none,none,none,none,none,none,none]) rfl ?_
  walk_at "w"
  refine⟨p,_,rfl,hh,by omega,by omega,λr1 H1 a1 c1 h1 k1 _=>?_⟩
  have hb1:=k1 _ _ hb bp
  walk_at "w"
  refine⟨p,_,rfl,h1,by omega,by omega,λr2 H2 a2 c2 h2 k2 _=>?_⟩
  have hb2:=k2 _ _ hb1 bp
  walk_at "w"
  refine⟨p,_,rfl,h2,by decide,by decide,λr3 H3 a3 c3 h3 k3 _=>?_⟩
  have hb3:=k3 _ _ hb2 bp
  walk_at "w"
  refine⟨p,_,rfl,h3,by decide,by decide,λr4 H4 a4 c4 h4 k4 _=>?_⟩
  have hb4:=k4 _ _ hb3 bp
  walk_at "w"
  refine⟨p,_,rfl,h4,by decide,by decide,λr5 H5 a5 c5 h5 k5 _=>?_⟩
  have hb5:=k5 _ _ hb4 bp
  walk_at "w"
  intro l6 n6
  walk_at "w"
  have hb6:=aP.new (o:=.lst [.int (y*r3),.int (y*r4),.int (y*r5)]) n6 _ _ hb5
  have h6:=h5.same (aP.new (o:=.lst [.int (y*r3),.int (y*r4),.int (y*r5)]) n6)
  walk_at "w"
  refine⟨p,_,rfl,h6,by decide,by decide,λr7 H7 a7 c7 h7 k7 _=>?_⟩
  have hb7:=k7 _ _ hb6 bp
  have l6p:l6≠p:=λz=>by obtain⟨_,e⟩:=h5.isL;exact bG n6 e z.symm
  have e7:H7 l6=some (.lst [.int (y*r3),.int (y*r4),.int (y*r5)]):=k7 _ _ aN l6p
  have kk7:cA p H H7:=k1.trans (k2.trans (k3.trans (k4.trans (k5.trans ((aP.new n6).keep.trans k7)))))
  have g3:0<=y*r3/\y*r3<=250000000000:=aID y0 y1 a3 c3 (by decide)
  have g4:0<=y*r4/\y*r4<=250000000000:=aID y0 y1 a4 c4 (by decide)
  have g5:0<=y*r5/\y*r5<=250000000000:=aID y0 y1 a5 c5 (by decide)
  have g7:0<=x*r7/\x*r7<=250000000000:=aID x0 x1 a7 c7 (by decide)
  walk_at "w"
  intro l8 n8
  walk_at "w"
  have h8:=h7.same (aP.new (o:=.lst []) n8)
  walk_at "w"
  refine⟨p,_,rfl,h8,by decide,by decide,λr9 H9 a9 c9 h9 k9 _=>?_⟩
  have l8p:l8≠p:=λz=>by obtain⟨_,e⟩:=h7.isL;exact bG n8 e z.symm
  have e9:H9 l8=some (.lst []):=k9 _ _ aN l8p
  have hb9:=k9 _ _ (aP.new n8 _ _ hb7) bp
  have e69:H9 l6=some (.lst [.int (y*r3),.int (y*r4),.int (y*r5)]):=k9 _ _ (aP.new n8 _ _ e7) l6p
  have kk9:cA p H H9:=kk7.trans ((aP.new n8).keep.trans k9)
  have n8H:H l8=none:=oP kk7 h7 n8
  have n6H:H l6=none:=oP (k1.trans (k2.trans (k3.trans (k4.trans k5)))) h5 n6
  walk_at "w"
  refine⟨by omega,by omega,?_⟩
  refine iI (λi σ' H'=>∃qs ps rate x9,σ'=[some (.ref p),some (.ref b),some (.int n),some (.int (1+r1)),some (.int (1+r2)),some (.ref l6),some (.int (x*r7)),some (.int rate),some (.ref l8),x9]/\H' l8=some (.lst (qs.map V.ref))/\aAg H' qs ps/\ps.length=i/\PcW ps rate/\
    0<=rate/\rate<=(i:Int)*100000000000/\bE H' p/\cA p H H'/\H' b=some (.lst [.int x,.int y])/\H' l6=some (.lst [.int (y*r3),.int (y*r4),.int (y*r5)]))
   ⟨[],[],0,_,rfl,e9,⟨rfl,λj q t h=>by simp at h⟩,rfl,PcW.nil,by omega,by omega,h9,kk9,hb9,e69⟩
   (λi σ' H' hi ⟨qs,ps,rate,x9,e,f1,f2,f3,f4,f5,f6,f7,f8,f9,f0⟩=>?_) (λσ' H' ⟨qs,ps,rate,x9,e,f1,f2,f3,f4,f5,f6,f7,f8,f9,f0⟩=>?_)
  ·subst e
   have i4:i<=3:=by omega
   walk_at "w"
   refine yY rfl ?_
   walk_at "w"
   refine⟨p,_,rfl,f7,by decide,by decide,λu1 J1 v1 w1 q1 t1 _=>?_⟩
   have g1:0<=y*u1/\y*u1<=100000000000:=aID y0 y1 v1 w1 (by decide)
   have l8q:l8≠p:=f7.aIC f1
   have d1:=t1 _ _ f1 l8q
   have d2:=f2.keep f7.aLF t1
   have d3:=t1 _ _ f9 bp
   have d4:=t1 _ _ f0 l6p
   walk_at "w"
   refine oW (bV.of d1) ?_
   walk_at "w"
   refine⟨p,_,rfl,q1,by decide,by decide,λu2 J2 v2 w2 q2 t2 _=>?_⟩
   have g2:x<=x*(1+u2)/\x*(1+u2)<=150000000000:=aRX x0 x1 v2 w2 (by decide)
   have dd1:=t2 _ _ d1 l8q
   have dd2:=d2.keep q1.aLF t2
   have dd3:=t2 _ _ d3 bp
   have dd4:=t2 _ _ d4 l6p
   walk_at "w"
   intro T nT
   walk_at "w"
   refine uG (xs:=qs.map V.ref) (aP.new nT _ _ dd1) (yK (by rw[bP,f2.len];omega:(qs.map V.ref).length < 1000) (cF (by simp))) ?_
   walk_at "w"
   have hT8:T≠l8:=Ne.symm (bG nT dd1)
   have kz:cA l8 J2 (upd (upd J2 T (.tup [.int (x*(1+u2)),.int (rate+y*u1)])) l8 (.lst (qs.map V.ref ++ [.ref T]))):=(aP.new nT).keep.trans cA.upd
   refine⟨qs ++ [T],ps ++ [(x*(1+u2),rate+y*u1)],_,_,rfl,?_,dd2.snoc dd1 kz (by rw[bB hT8,aN]),by rw[oU,f3];rfl,f4.snoc (rtB f5 f6 g1 i4).1 (xB x0 g2).1 (xB x0 g2).2 (rtB f5 f6 g1 i4).2.1,(rtB f5 f6 g1 i4).2.2.1,(rtB f5 f6 g1 i4).2.2.2,?_,λc o hc hcp=>?_,?_,?_⟩
   ·rw[aN,rW];rfl
   ·obtain⟨dd,cc,q,ms,hp,hq,hne,hqp⟩:=q2.ex
    refine⟨⟨dd,cc,q,ms,kz _ _ hp (Ne.symm l8q),kz _ _ hq (λz=>?_),hne,hqp⟩⟩
    rw[z,dd1] at hq
    cases qs with
    |nil=>cases ms with
     |nil=>exact hne rfl
     |cons _ _=>cases hq
    |cons _ _=>cases ms with
     |nil=>exact hne rfl
     |cons _ _=>cases hq
   ·exact kz _ _ (t2 _ _ (t1 _ _ (f8 _ _ hc hcp) hcp) hcp) (bG n8H hc)
   ·exact kz _ _ dd3 (λz=>by rw[z,dd1] at dd3;cases qs with
     |nil=>cases dd3
     |cons _ _=>cases dd3)
   ·exact kz _ _ dd4 (λz=>by rw[z,dd1] at dd4;cases qs with
     |nil=>cases dd4
     |cons _ _=>cases dd4)
  ·subst e
   walk_at "w"
   intro s ns
   walk_at "w"
   have hr9:r9.toNat<=4:=by omega
   refine k s ⟨1+r1,1+r2,y*r3,y*r4,y*r5,x*r7,ps⟩ _ ⟨l8,aN,qs,aP.new ns _ _ f1,f2.same (aP.new ns)⟩ ⟨(up1 a1 c1 n1).1,(up1 a2 c2 n1).1,amB g3,amB g4,amB g5,amB g7,⟨by show ps.length<=4;omega,f4.pc,f4.up⟩⟩ (up1 a1 c1 n1).2 (up1 a2 c2 n1).2 (f7.same (aP.new ns)) (f8.trans (aP.new ns).keep) (oP f8 f7 ns)
def aDH(K:W.Frag)(C:Addr):Sp:=λvs H Q _=>∃(s:Addr) (m:MS),vs=[.ref s]/\dB H s m/\m.Good/\∀x H',cV C H' x m->aP H H'->H x=none->Q (.ref x) H'
theorem aDI{mg:Str->Option Value}{a:iR}(tx:Txt K mg a):bQ P w K mg base gE 7 a.lB a.lC ["_law_spec_here"] (aDH K a.bD):=by
 have aEK:=aDG (P:=P) (w:=w) (base:=base) tx
 refine tx.qZ.ok aDD (λvs H Q E h=>?_) (λcdv A outer s H vs Q E hr h=>?_)
 ·obtain⟨s,m,rfl,_⟩:=h
  rfl
 ·obtain⟨s,m,rfl ,hs,hg,k⟩:=h
  have hu:=jO hr
  refine bA (aG (aM (y3 tx.aGo (aEK) (hr.mono (by decide)) (by rfl) tx.aCR tx.zD .nil aR (aA (aE (K':=K) (Z.pv 0) aB) (aA (aE (K':=K) (Z.pv 0) aB) (aA (aE (K':=K) (Z.pv 0) aB) (aA (aE (K':=K) (Z.pv 0) aB) (aA (aE (K':=K) (Z.pv 0) aB) (aA (aE (K':=K) (Z.pv 0) aB) (aA (bX (rc:=aBM K) aBi (by rfl) tx.mY rZ (aA (aE (K':=K) (Z.pv 0) aB) aC)) aC)))))))))) ?_
  obtain⟨pl,h1,h2⟩:=hs.ex
  obtain⟨qs,h3,h4⟩:=h2.ex
  refine aS (σ:=[some (.ref s)]) rfl ?_
  walk_at "w"
  refine aEd (bV.of h3) ?_
  intro l n
  walk_at "w"
  intro x dx nx nd hd
  have sx:aP H (upd (upd (upd H l (.lst (qs.map V.ref))) dx (.own x)) x (.ins a.bD dx [])):=λb o e=>by
   have e1:=aP.new (o:=.lst (qs.map V.ref)) n _ _ e
   rw[bB (bG nx e1),bB (bG nd e1)]
   exact e1
  have lx:l≠x:=bG nx aN
  have ld:l≠dx:=bG nd aN
  refine⟨x,dx,l,m,rfl,aN,⟨qs,by rw[bB lx,bB ld,aN],h4.same sx⟩,hg,λH' hM kx=>⟨rfl,?_⟩⟩
  have nxH:H x=none:=(aP.new n).free nx
  exact k x H' hM (λb o e=>kx _ _ (sx _ _ e) (bG nxH e)) nxH
theorem bE.aLt(hh:bE H p)(n:H c=none):c≠p:=λz=>by
 obtain⟨xs,e⟩:=hh.isL
 exact bG n e z.symm
def vR:List (Int×Int)->Int
 |[]=>0
 |t::ps=>t.1+vR ps
def cst:List (Int×Int)->Int->Int
 |[],_=>0
 |t::ps,left=>max 0 (min left t.1)*t.2+cst ps (left - max 0 (min left t.1))
def gn(p:Int):List (Int×Int)->Int
 |[]=>0
 |t::ps=>t.1*max (p - t.2) 0+gn p ps
def loA(p:Int):List (Int×Int)->Int
 |[]=>0
 |t::ps=>(if t.2 < p then t.1 else 0)+loA p ps
def eqA(p:Int):List (Int×Int)->Int
 |[]=>0
 |t::ps=>(if t.2=p then t.1 else 0)+eqA p ps
def Up:List (Int×Int)->Prop
 |[]=>True
 |t::ps=>1<=t.1/\(∀u∈ps,t.2<=u.2)/\Up ps
theorem aPr{p:Int}:∀{ps:List (Int×Int)},Up ps->0<=gn p ps
 |[],_=>Sp9 _
 |t::ps,h=>by
  have:=aPr (p:=p) h.2.2
  have h1:0<=t.1*max (p - t.2) 0:=Td9 (by have:=h.1;omega) (by omega)
  show 0<=t.1*max (p - t.2) 0+gn p ps
  omega
theorem aPs{p:Int}:∀{ps:List (Int×Int)},Up ps->0<=loA p ps/\0<=eqA p ps/\loA p ps+eqA p ps<=vR ps
 |[],_=>⟨Sp9 _,Sp9 _,Sp9 _⟩
 |t::ps,h=>by
  have:=aPs (p:=p) h.2.2
  have h0:=h.1
  show 0<=(if t.2 < p then t.1 else 0)+loA p ps/\0<=(if t.2=p then t.1 else 0)+eqA p ps/\((if t.2 < p then t.1 else 0)+loA p ps)+((if t.2=p then t.1 else 0)+eqA p ps)<=t.1+vR ps
  split <;> split <;> omega
theorem aHb{p:Int}:∀{ps:List (Int×Int)},(∀u∈ps,p<=u.2)->gn p ps=0/\loA p ps=0
 |[],_=>⟨rfl,rfl⟩
 |t::ps,h=>by
  have ih:=aHb (p:=p) (ps:=ps) (λu hu=>h u (Qq9 _ hu))
  have h1:=h t (Qx9 ..)
  constructor
  ·show t.1*max (p - t.2) 0+gn p ps=0
   rw[show max (p - t.2) 0=0 by omega,Sb9,ih.1];rfl
  ·show(if t.2 < p then t.1 else 0)+loA p ps=0
   rw[if_neg (by omega),ih.2];rfl
theorem aNj{p:Int}:∀{ps:List (Int×Int)},(∀u∈ps,p < u.2)->eqA p ps=0
 |[],_=>rfl
 |t::ps,h=>by
  have ih:=aNj (p:=p) (ps:=ps) (λu hu=>h u (Qq9 _ hu))
  have h1:=h t (Qx9 ..)
  show(if t.2=p then t.1 else 0)+eqA p ps=0
  rw[if_neg (by omega),ih];rfl
theorem aIE:∀(ps:List (Int×Int)),cst ps 0=0
 |[]=>rfl
 |t::ps=>by
  show max 0 (min 0 t.1)*t.2+cst ps (0 - max 0 (min 0 t.1))=0
  rw[show max 0 (min 0 t.1)=0 by omega,Int.zero_mul,Int.sub_zero,aIE ps];rfl
theorem best{p:Int}:∀{ps:List (Int×Int)}{left:Int},Up ps->0<=left->left<=vR ps->
  p*left - cst ps left<=gn p ps/\(p*left - cst ps left=gn p ps↔loA p ps<=left/\left<=loA p ps+eqA p ps)
 |[],left,_,h0,h1=>by
  have e:left=0:=by have:left<=0:=h1;omega
  subst e
  show p*0 - 0<=0/\(p*0 - 0=0↔(0:Int)<=0/\(0:Int)<=0+0)
  simp
 |t::ps,left,h,h0,h1=>by
  obtain⟨a,r⟩:=t
  obtain⟨ha,hr,hup⟩:=h
  replace ha:1<=a:=ha
  replace hr:∀u∈ps,r<=u.2:=hr
  replace h1:left<=a+vR ps:=h1
  have gp:=aPr (p:=p) hup
  have lp:=aPs (p:=p) hup
  show p*left - (max 0 (min left a)*r+cst ps (left - max 0 (min left a)))<=a*max (p - r) 0+gn p ps/\
   (p*left - (max 0 (min left a)*r+cst ps (left - max 0 (min left a)))=a*max (p - r) 0+gn p ps↔(if r < p then a else 0)+loA p ps<=left/\left<=((if r < p then a else 0)+loA p ps)+((if r=p then a else 0)+eqA p ps))
  by_cases hla:left < a
  ·rw[show max 0 (min left a)=left by omega,Int.sub_self,aIE,Sw9,show p*left - left*r=left*(p - r) by rw[Int.mul_comm p left,<-Int.mul_sub]]
   by_cases h2:r < p
   ·have e1:left*(p - r) < a*(p - r):=Int.mul_lt_mul_of_pos_right hla (by omega)
    rw[show max (p - r) 0=p - r by omega,if_pos h2,if_neg (by omega)]
    omega
   ·have hz:=aHb (p:=p) (ps:=ps) (λu hu=>by have:=hr u hu;omega)
    rw[show max (p - r) 0=0 by omega,Sb9,hz.1,hz.2,if_neg h2]
    by_cases h3:r=p
    ·rw[if_pos h3,show p - r=0 by omega,Sb9]
     omega
    ·rw[if_neg h3,aNj (p:=p) (ps:=ps) (λu hu=>by have:=hr u hu;omega)]
     by_cases h4:left=0
     ·subst h4;simp
     ·have e1:left*(p - r) < 0:=Int.mul_neg_of_pos_of_neg (by omega) (by omega)
      omega
  ·have ih:=best (p:=p) (ps:=ps) (left:=left - a) hup (by omega) (by omega)
   rw[show max 0 (min left a)=a by omega]
   have e0:p*left - (a*r+cst ps (left - a))=a*(p - r)+(p*(left - a) - cst ps (left - a)):=by
    rw[Int.mul_sub,Int.mul_sub,Int.mul_comm a p];omega
   rw[e0]
   by_cases h2:r < p
   ·rw[show max (p - r) 0=p - r by omega,if_pos h2,if_neg (by omega)]
    generalize a*(p - r)=w
    obtain⟨i1,i2⟩:=ih
    refine⟨by omega,?_⟩
    constructor
    ·intro h
     have:=i2.mp (by omega)
     omega
    ·intro h
     have:=i2.mpr (by omega)
     omega
   ·have hz:=aHb (p:=p) (ps:=ps) (λu hu=>by have:=hr u hu;omega)
    rw[hz.1,hz.2] at ih
    obtain⟨i1,i2⟩:=ih
    rw[show max (p - r) 0=0 by omega,Sb9,hz.1,hz.2,if_neg h2]
    by_cases h3:r=p
    ·rw[if_pos h3,show p - r=0 by omega,Sb9]
     refine⟨by omega,?_⟩
     constructor
     ·intro h
      have:=i2.mp (by omega)
      omega
     ·intro h
      have:=i2.mpr (by omega)
      omega
    ·have e1:a*(p - r) < 0:=Int.mul_neg_of_pos_of_neg (by omega) (by omega)
     rw[if_neg h3,aNj (p:=p) (ps:=ps) (λu hu=>by have:=hr u hu;omega)]
     omega
theorem aPt:∀{ps:List (Int×Int)},(∀t∈ps,1<=t.1)->(∀(j:Nat) t u,ps[j]?=some t->ps[j+1]?=some u->t.2<=u.2)->Up ps
 |[],_,_=>trivial
 |t::ps,h1,h2=>by
  have hu:Up ps:=aPt (λu hu=>h1 u (Qq9 _ hu)) (λj t u a b=>h2 (j+1) t u a b)
  refine⟨h1 t (Qx9 ..),?_,hu⟩
  cases ps with
  |nil=>intro u hu;cases hu
  |cons v ps=>
   have hv:t.2<=v.2:=h2 0 t v rfl rfl
   intro u hm
   rcases yF.mp hm with rfl|hm
   ·exact hv
   ·exact Sm9 hv (hu.2.1 u hm)
theorem aG5.up'{ps:List (Int×Int)}(h:aG5 ps):Up ps:=aPt (λt ht=>(h.pc t ht).1) h.up
theorem aNk{p:Int}:∀(a:List (Int×Int)) (t:Int×Int),gn p (a ++ [t])=gn p a+t.1*max (p - t.2) 0
 |[],t=>by show t.1*max (p - t.2) 0+0=0+t.1*max (p - t.2) 0;omega
 |u::a,t=>by
  show u.1*max (p - u.2) 0+gn p (a ++ [t])=u.1*max (p - u.2) 0+gn p a+t.1*max (p - t.2) 0
  rw[aNk a t];omega
theorem aNl:∀(ps:List (Int×Int)),List.sum (ps.filterMap λt=>some t.1)=vR ps
 |[]=>rfl
 |t::ps=>by
  rw[Sh9]
  show List.sum (t.1::_)=t.1+vR ps
  rw[Tx9,aNl ps]
theorem aQ5{ps:List (Int×Int)}(h:∀t∈ps,Am t.1):0<=vR ps/\vR ps<=ps.length*1000000000000:=by
 induction ps with
 |nil=>exact⟨Sp9 _,Sp9 _⟩
 |cons t ps ih=>
  have i:=ih λu hu=>h u (Qq9 _ hu)
  have j:=h t (Qx9 ..)
  obtain⟨j1,j2⟩:=j
  refine⟨?_,?_⟩
  ·show 0<=t.1+vR ps;omega
  ·show t.1+vR ps<=_;rw[Ra9];push_cast;omega
theorem aNm{H:Hp}{qs:List Addr}{ps:List (Int×Int)}{g:TG}{R:List V->Hp->Prop}(f:Int×Int->Option Int)(h1:H pl=some (.lst (qs.map V.ref)))(h2:aAg H qs ps)(hz:ps.length<=4)(hs:∀q t (N:V->Hp->Prop) (N':Hp->Prop),t∈ps->H q=some (.tup [.int t.1,.int t.2])->(∀y,f t=some y->N (.int y) H)->(f t=none->N' H)->g (.ref q) σ₀ H λσ2 H2=>tt σ2 H2 λb H3=>if b=true then te σ2 H3 λy H4=>N y H4 else N' H3)(hd:R ((ps.filterMap f).map V.int) H):uE (Itl K pl) σ₀ g tt te R H:=by
 have hql:qs.length<=4:=by rw[h2.len];exact hz
 refine fO (xs:=qs.map V.ref) (λi ys H'=>H'=H/\ys=((ps.take i).filterMap f).map V.int) ⟨rfl,by simp⟩ (cF (by rw[bP];omega)) (λi ys H' hi ⟨e1,e2⟩=>?_) (λi x ys H' hx ⟨e1,e2⟩=>?_) (λys H' ⟨e1,e2⟩=>?_)
 ·subst e1 e2
  refine⟨bV.of h1,?_⟩
  rw[bP]
  exact Rp9 (List.length_filterMap_le ..) (by rw[Rf9];omega)
 ·subst e1 e2
  rw[oR] at hx
  cases hq:qs[i]? with
  |none=>rw[hq] at hx;cases hx
  |some q=>
   rw[hq] at hx
   cases hx
   have li:i < ps.length:=by rw[<-h2.len];exact(lZ.mp hq).1
   have ht:ps[i]?=some ps[i]:=dQ li
   have e:=h2.at_ i q _ hq ht
   have hm:=Rd9 li
   generalize ps[i]=t at ht e hm
   refine hs q t (λy H4=>H4=H'/\((ps.take i).filterMap f).map V.int ++ [y]=((ps.take (i+1)).filterMap f).map V.int) (λH3=>H3=H'/\((ps.take i).filterMap f).map V.int=((ps.take (i+1)).filterMap f).map V.int) hm e (λy hy=>⟨rfl,?_⟩) (λhy=>⟨rfl,?_⟩)
   ·rw[Rr9,ht,List.filterMap_append,rW]
    simp[hy]
   ·rw[Rr9,ht,List.filterMap_append,rW]
    simp[hy]
 ·subst e1 e2
  rw[bP,h2.len,Rc9]
  exact hd
def aDJ(K:W.Frag)(C:Addr):Sp:=λvs H Q _=>∃(x:Addr) (m:MS) (pr:Int),vs=[.ref x,.int pr]/\cV C H x m/\m.Good/\0<=pr/\pr<=1000000000001/\Q (.int (pr*m.least+gn pr m.pieces)) H
theorem aDK{mg:Str->Option Value}{a:iR}(tx:Txt K mg a):bQ P w K mg base gE 1 a.lD a.lE ["self","price"] (aDJ K a.bD):=by
 refine tx.zH.ok gO (λvs H Q E h=>?_) (λcdv A outer s H vs Q E hr h=>?_)
 ·obtain⟨x,m,pr,rfl,_⟩:=h
  rfl
 ·obtain⟨x,m,pr,rfl ,hm,hg,p0,p1,k⟩:=h
  have hu:=jO hr
  refine bA (aD (aJ (i:=2) gO.nd (aI bN (Z.pv 1) (cT (K':=K) (Z.pv 0) rfl)))
   (aD (bM PassesOwn.never rfl (bT (K':=K) (cT (K':=K) (Z.pv 0) rfl)) (cC (K':=K) (n:=2) rfl (aV (aL (i:=3) gO.nd) (aV (aL (i:=4) gO.nd) cB))) (aG (kE (i:=2) gO.nd rfl (Or.inl rfl) (aI bN (Z.pv 3) (aK (eQ rfl) (by rfl) tx.lY mD (aA (aI dJ (Z.pv 1) (Z.pv 4)) (aA aB aC)))) uB)))
   (aG (aM (Z.pv 2))))) ?_
  obtain⟨dx,pl,hx,hp⟩:=hm.ex
  obtain⟨qs,h1,h2⟩:=hp.ex
  refine aS (σ:=[some (.ref x),some (.int pr),none,none,none]) rfl ?_
  walk_at "w"
  refine j0 hx tx.cW tx.o8 rfl ?_
  walk_at "w"
  refine j0 hx tx.cW tx.mW rfl ?_
  refine kU (bV.of h1) ?_
  refine aAu (xs:=qs.map V.ref) (λi σ' H'=>H'=H/\∃y z,σ'=[some (.ref x),some (.int pr),some (.int (pr*m.least+gn pr (m.pieces.take i))),y,z]) ⟨rfl,_,_,by rw[show gn pr (m.pieces.take 0)=0 by simp[gn],Sw9]⟩ (λi σ' H' hi ⟨e1,y,z,e⟩=>by subst e1;exact bV.of h1) (λi v σ' H' hv ⟨e1,y,z,e⟩=>?_) (λσ' H' ⟨e1,y,z,e⟩=>?_)
  ·subst e1 e
   rw[oR] at hv
   cases hq:qs[i]? with
   |none=>rw[hq] at hv;cases hv
   |some q=>
    rw[hq] at hv
    cases hv
    have li:i < m.pieces.length:=by rw[<-h2.len];exact(lZ.mp hq).1
    have ht:m.pieces[i]?=some m.pieces[i]:=dQ li
    have e:=h2.at_ i q _ hq ht
    obtain⟨z1,⟨z2,z3⟩,z4,z5⟩:=hg.pieces.pc _ (Rd9 li)
    generalize m.pieces[i]=t at ht e z1 z2 z3 z4 z5
    refine eM (kQ.of e) rfl ?_
    walk_at "w"
    refine yY rfl ?_
    walk_at "w"
    refine⟨rfl,some (.int t.1),some (.int t.2),?_⟩
    rw[Rr9,ht]
    show _=[some (V.ref x),some (V.int pr),some (V.int (pr*m.least+gn pr (m.pieces.take i ++ [t]))),_,_]
    rw[aNk,Int.add_assoc]
    rfl
  ·subst e1 e
   walk_at "w"
   rw[bP,h2.len,Rc9]
   exact k
def aLu(K:W.Frag):Sp:=λvs H Q _=>∃(v:V) (t:Addr) (o d on:Int),vs=[v,.ref t,.int on]/\H t=some (.tup [.int o,.int d])/\Q (.bl (decide (o=on) || decide (d=0))) H
theorem aAC{mg:Str->Option Value}{a:iR}(tx:Txt K mg a):bQ P w K mg base gE 1 a.aBT a.aBU ["machine","state","on"] (aLu K):=by
 refine tx.vH.ok aLr (λvs H Q E h=>?_) (λcdv A outer s H vs Q E hr h=>?_)
 ·obtain⟨v,t,o,d,on,rfl,_⟩:=h
  rfl
 ·obtain⟨v,t,o,d,on,rfl ,ht,k⟩:=h
  have hu:=jO hr
  refine bA (aG (aM (aIe (j7 (r:=oV K) (eE hu) (aE (K':=K) (Z.pv 1) aB) (Z.pv 2) (bK _)) (mG (j7 (r:=oV K) (eE hu) (aE (K':=K) (Z.pv 1) aB) aB (bK _)))))) ?_
  refine aS (σ:=[some v,some (.ref t),some (.int on)]) rfl ?_
  walk_at "w"
  refine cD (λh=>?_) (λh=>?_)
  ·rw[decide_eq_true h,Bool.true_or] at k
   exact k
  ·rw[decide_eq_false h,Bool.false_or] at k
   walk_at "w"
   exact k
def pG(m:MS)(o d on:Int):Int×Int:=if o=on then (on,max (d - 1) 0) else if on=1 then (1,m.up - 1) else (0,m.down - 1)
def aEL(K:W.Frag)(C:Addr):Sp:=λvs H Q _=>∃(q:Addr) (m:MS) (t:Addr) (o d on:Int),vs=[.ref q,.ref t,.int on]/\cV C H q m/\H t=some (.tup [.int o,.int d])/\(o=on\/d=0)/\
 ∀T H',aP H H'->H T=none->H' T=some (.tup [.int (pG m o d on).1,.int (pG m o d on).2])->Q (.ref T) H'
theorem rR{mg:Str->Option Value}{a:iR}(tx:Txt K mg a):bQ P w K mg base gE 2 a.nC a.nE ["machine","state","on"] (aEL K a.bD):=by
 have rS:=aAC (P:=P) (w:=w) (base:=base) tx
 refine tx.jS.ok aEw (λvs H Q E h=>?_) (λcdv A outer s H vs Q E hr h=>?_)
 ·obtain⟨q,m,t,o,d,on,rfl,_⟩:=h
  rfl
 ·obtain⟨q,m,t,o,d,on,rfl ,hm,ht,hmay,k⟩:=h
  have hu:=jO hr
  refine bA (aD (bH (iS (fP (zq1 rS hr tx.zK tx.vH.kp tx.zJ (aA (Z.pv 0) (aA (Z.pv 1) (aA (Z.pv 2) aC)))))) (aG oM) bC)
   (aD (bH (aZ (r:=oV K) (eE hu) (aE (K':=K) (Z.pv 1) aB) (Z.pv 2) (bK _)) (aG (aM (eW (Z.pv 2) (aK (eQ rfl) (by rfl) tx.lY mD (aA (aI dJ (aE (K':=K) (Z.pv 1) aB) aB) (aA aB aC)))))) bC)
   (aD (bH (aZ (r:=oV K) (eE hu) (Z.pv 2) aB (bK _)) (aG (aM (eW aB (aI dJ (cT (K':=K) (Z.pv 0) rfl) aB)))) bC)
   (aG (aM (eW aB (aI dJ (cT (K':=K) (Z.pv 0) rfl) aB))))))) ?_
  obtain⟨dx,pl,hq,_⟩:=hm.ex
  refine aS (σ:=[some (.ref q),some (.ref t),some (.int on)]) rfl ?_
  walk_at "w"
  refine⟨_,_,_,_,_,rfl,ht,?_⟩
  walk_at "w"
  rw[show(decide (o=on) || decide (d=0))=true by rcases hmay with h|h <;> simp[h]]
  walk_at "w"
  unfold pG at k
  refine cD (λh=>?_) (λh=>?_)
  ·rw[if_pos h] at k
   walk_at "w"
   intro T nT
   walk_at "w"
   exact k _ _ (aP.new nT) nT aN
  ·rw[if_neg h] at k
   walk_at "w"
   refine cD (λh1=>?_) (λh1=>?_)
   ·rw[if_pos h1] at k
    walk_at "w"
    refine j0 hq tx.cW tx.xM rfl ?_
    walk_at "w"
    intro T nT
    walk_at "w"
    exact k _ _ (aP.new nT) nT aN
   ·rw[if_neg h1] at k
    walk_at "w"
    refine j0 hq tx.cW tx.rM rfl ?_
    walk_at "w"
    intro T nT
    walk_at "w"
    exact k _ _ (aP.new nT) nT aN
def yC(o:Int):Prop:=o=0\/o=1
theorem aEM{m:MS}(hg:m.Good){o d on:Int}(ho:yC on):yC (pG m o d on).1/\0<=(pG m o d on).2:=by
 obtain⟨u0,u1⟩:=hg.up
 obtain⟨d0,d1⟩:=hg.down
 unfold pG
 split
 ·exact⟨ho,by show 0<=max (d - 1) 0;omega⟩
 ·split
  ·exact⟨.inr rfl,by show 0<=m.up - 1;omega⟩
  ·exact⟨.inl rfl,by show 0<=m.down - 1;omega⟩
theorem aOY{o:Int}(h:yC o):yC (1 - o):=by rcases h with rfl|rfl;exact .inr rfl;exact .inl rfl
theorem aOZ{n j:Nat}(h:j < n):ixN n (j:Int)=some j:=by
 unfold ixN
 simp
 omega
def aFz(K:W.Frag):Sp:=λvs H Q _=>∃(p s:Addr) (m:MS),vs=[.ref p,.ref s]/\bE H p/\dB H s m/\m.Good/\
 ∀(t:Addr) (o d:Int) H',H' t=some (.tup [.int o,.int d])->((o=1/\0<=d/\d < m.up)\/(o=0/\0<=d/\d < 60))->bE H' p->cA p H H'->Q (.ref t) H'
theorem aFA{mg:Str->Option Value}{a:iR}(tx:Txt K mg a):bQ P w K mg base gE 2 a.pN a.pO ["_law_hand","_law_spec_here"] (aFz K):=by
 have aO:=cN (P:=P) (w:=w) (base:=base) tx
 refine tx.w4.ok aFr (λvs H Q E h=>?_) (λcdv A outer s H vs Q E hr h=>?_)
 ·obtain⟨p,s,m,rfl,_⟩:=h
  rfl
 ·obtain⟨p,s,m,rfl ,hh,hs,hg,k⟩:=h
  have hu:=jO hr
  refine bA (aD (bH (aZ (r:=oV K) (eE hu) (zq1 aO hr tx.aU tx.aQ.kp tx.aT (aA (Z.pv 0) (aA aB aC))) aB (bK _)) (aG (aM (eW aB (zq1 aO hr tx.aU tx.aQ.kp tx.aT (aA (Z.pv 0) (aA (aE (K':=K) (Z.pv 1) aB) aC)))))) bC)
   (aD (bH (aZ (r:=oV K) (eE hu) (zq1 aO hr tx.aU tx.aQ.kp tx.aT (aA (Z.pv 0) (aA aB aC))) aB (bK _)) (aG (aM (eW aB (zq1 aO hr tx.aU tx.aQ.kp tx.aT (aA (Z.pv 0) (aA aB aC)))))) bC)
   (aG (aM (eW aB (zq1 aO hr tx.aU tx.aQ.kp tx.aT (aA (Z.pv 0) (aA (aE (K':=K) (Z.pv 1) aB) aC)))))))) ?_
  obtain⟨u0,u1⟩:=hg.up
  obtain⟨d0,d1⟩:=hg.down
  refine aS (σ:=[some (.ref p),some (.ref s)]) rfl ?_
  walk_at "w"
  refine⟨p,_,rfl,hh,by decide,by decide,λr1 H1 a1 b1 h1 k1 _=>?_⟩
  have hs1:=hs.keep hh k1
  obtain⟨pl,e1,_⟩:=hs1.ex
  walk_at "w"
  refine cD (λh=>?_) (λh=>?_)
  ·walk_at "w"
   refine⟨p,_,rfl,h1,by omega,by omega,λr2 H2 a2 b2 h2 k2 _=>?_⟩
   walk_at "w"
   intro T nT
   walk_at "w"
   exact k _ _ _ _ aN (.inl ⟨rfl,a2,b2⟩) (h2.same (aP.new nT)) (k1.trans (k2.trans (aP.new nT).keep))
  ·walk_at "w"
   refine⟨p,_,rfl,h1,by decide,by decide,λr2 H2 a2 b2 h2 k2 _=>?_⟩
   have hs2:=hs1.keep h1 k2
   obtain⟨pl2,e2,_⟩:=hs2.ex
   walk_at "w"
   refine cD (λh=>?_) (λh=>?_)
   ·walk_at "w"
    refine⟨p,_,rfl,h2,by decide,by decide,λr3 H3 a3 b3 h3 k3 _=>?_⟩
    walk_at "w"
    intro T nT
    walk_at "w"
    exact k _ _ _ _ aN (.inr ⟨rfl,a3,b3⟩) (h3.same (aP.new nT)) (k1.trans (k2.trans (k3.trans (aP.new nT).keep)))
   ·walk_at "w"
    refine⟨p,_,rfl,h2,by omega,by omega,λr3 H3 a3 b3 h3 k3 _=>?_⟩
    walk_at "w"
    intro T nT
    walk_at "w"
    exact k _ _ _ _ aN (.inr ⟨rfl,a3,by omega⟩) (h3.same (aP.new nT)) (k1.trans (k2.trans (k3.trans (aP.new nT).keep)))
def aFB(K:W.Frag):Sp:=λvs H Q _=>∃(s:Addr) (m:MS) (t:Addr) (o d on:Int),vs=[.ref s,.ref t,.int on]/\dB H s m/\H t=some (.tup [.int o,.int d])/\yC on/\yC o/\0<=d/\
 ((o=on\/d=0)->∀T H',aP H H'->H T=none->H' T=some (.tup [.int (pG m o d on).1,.int (pG m o d on).2])->Q (.ref T) H')/\(¬(o=on\/d=0)->Q .non H)
theorem uX{P:Program}{w:World}{K:PySem.W.Frag}{mg:Str->Option Value}{base:Heap}{a:iR}(tx:Txt K mg a):bQ P w K mg base gE 1 a.pP a.pQ ["_law_spec_here","_law_state_here","_law_on"] (aFB K):=by
 refine tx.lP.ok aFs (λvs H Q E h=>?_) (λcdv A outer s H vs Q E hr h=>?_)
 ·obtain⟨s,m,t,o,d,on,rfl,_⟩:=h
  rfl
 ·obtain⟨s,m,t,o,d,on,rfl ,hs,ht,hon,ho,hd,k1,k2⟩:=h
  have hu:=jO hr
  refine bA (aD (bH (aZ (r:=oV K) (eE hu) (Z.pv 2) (aE (K':=K) (Z.pv 1) aB) (bK _)) (aG (aM (eW (Z.pv 2) (aK (eQ rfl) (by rfl) tx.lY mD (aA aB (aA (aI dJ (aE (K':=K) (Z.pv 1) aB) aB) aC)))))) bC)
   (aD (bH (aZ aBG (aE (K':=K) (Z.pv 1) aB) aB (bK _)) (aG (aM eR)) bC)
   (aG (aM (eW (Z.pv 2) (aI dJ (aE (K':=K) (sD (aE (K':=K) (Z.pv 0) aB) (aE (K':=K) (Z.pv 0) aB)) (Z.pv 2)) aB)))))) ?_
  obtain⟨pl,e1,_⟩:=hs.ex
  refine aS (σ:=[some (.ref s),some (.ref t),some (.int on)]) rfl ?_
  walk_at "w"
  refine cD (λh=>?_) (λh=>?_)
  ·have k3:=k1 (.inl h.symm)
   unfold pG at k3
   rw[if_pos h.symm] at k3
   walk_at "w"
   rw[show max 0 (d - 1)=max (d - 1) 0 by omega]
   intro T nT
   walk_at "w"
   exact k3 _ _ (aP.new nT) nT aN
  ·walk_at "w"
   refine cD (λh1=>?_) (λh1=>?_)
   ·walk_at "w"
    exact k2 (λz=>by rcases z with z|z;exact h z.symm;omega)
   ·have k3:=k1 (.inr (by omega))
    unfold pG at k3
    rw[if_neg (λz=>h z.symm)] at k3
    walk_at "w"
    intro l nl
    walk_at "w"
    have sl:=aP.new (o:=.lst [.int m.down,.int m.up]) nl
    rcases hon with rfl|rfl
    ·refine uF (bV.of aN) rfl ?_
     rw[if_neg (by decide)] at k3
     walk_at "w"
     intro T nT
     walk_at "w"
     exact k3 _ _ (sl.trans (aP.new nT)) (sl.free nT) aN
    ·refine uF (bV.of aN) rfl ?_
     rw[if_pos rfl] at k3
     walk_at "w"
     intro T nT
     walk_at "w"
     exact k3 _ _ (sl.trans (aP.new nT)) (sl.free nT) aN
structure RL{α:Type}(P:Addr->α->Prop)(as:List Addr)(xs:List α):Prop where
 len:as.length=xs.length
 at_:∀(j:Nat) a x,as[j]?=some a->xs[j]?=some x->P a x
theorem RL.nil{α:Type}{P:Addr->α->Prop}:RL P [] []:=⟨rfl,λj a x h=>by simp at h⟩
theorem RL.imp{α:Type}{P P':Addr->α->Prop}{as:List Addr}{xs:List α}(h:RL P as xs)(f:∀a x,P a x->P' a x):RL P' as xs:=⟨h.len,λj a x h1 h2=>f a x (h.at_ j a x h1 h2)⟩
theorem RL.snoc{α:Type}{P:Addr->α->Prop}{as:List Addr}{xs:List α}(h:RL P as xs){a:Addr}{x:α}(hp:P a x):RL P (as ++ [a]) (xs ++ [x]):=by
 refine⟨by rw[oU,oU,h.len];rfl,λj q u hq hu=>?_⟩
 by_cases hj:j < as.length
 ·rw[Qn9 hj] at hq
  rw[Qn9 (by rw[<-h.len];exact hj)] at hu
  exact h.at_ j q u hq hu
 ·have hj2:j < (as ++ [a]).length:=(lZ.mp hq).1
  rw[oU,Qz9] at hj2
  have e:j=as.length:=by omega
  subst e
  rw[Qo9 (gB _),Sa9] at hq
  rw[h.len,Qo9 (gB _),Sa9] at hu
  cases hq
  cases hu
  exact hp
def SmV(H:Hp):Nat->V->V->Prop
 |0,_,_=>False
 |j+1,x,y=>(∃i,x=.int i/\y=.int i)\/(∃b,x=.bl b/\y=.bl b)\/(x=.non/\y=.non)\/(∃s,x=.str s/\y=.str s)\/
  ∃(p q:Addr) (xs ys:List V),x=.ref p/\y=.ref q/\((H p=some (.tup xs)/\H q=some (.tup ys))\/(H p=some (.lst xs)/\H q=some (.lst ys)))/\xs.length=ys.length/\ys.length<=1000000/\∀(i:Nat) u v,xs[i]?=some u->ys[i]?=some v->SmV H j u v
theorem SmV.int{j:Nat}(i:Int):SmV H (j+1) (.int i) (.int i):=.inl ⟨i,rfl,rfl⟩
def aCT(o:HO):Prop:=(∃(d c:Int) (q:Addr),o=.lst [.int d,.int c,.ref q])\/∃(C dx:Addr),o=.ins C dx []
def Tr(H H':Hp):Prop:=∀b o,H b=some o->¬aCT o->H' b=some o
theorem Tr.trans(a:Tr H H1)(b:Tr H1 H2):Tr H H2:=λc o e n=>b c o (a c o e n) n
theorem _root_.L2.aP.tr(s:aP H H'):Tr H H':=λb o e _=>s b o e
theorem bE.tr(hh:bE H p)(k:cA p H H'):Tr H H':=λb o e n=>k b o e λz=>by
 obtain⟨d,c,q,ms,hp,_⟩:=hh.ex
 rw[z,hp] at e
 cases e
 exact n (.inl ⟨d,c,q,rfl⟩)
theorem aNn(hx:H x=some (.ins C dx []))(k:cA x H H'):Tr H H':=λb o e n=>k b o e λz=>by
 rw[z,hx] at e
 cases e
 exact n (.inr ⟨C,dx,rfl⟩)
def Tk(H H':Hp):Prop:=∀b xs,H b=some (.tup xs)->H' b=some (.tup xs)
theorem Tk.trans(a:Tk H H1)(b:Tk H1 H2):Tk H H2:=λc o e=>b c o (a c o e)
theorem aQ6:¬aCT (.tup xs):=λz=>by rcases z with ⟨_,_,_,e⟩|⟨_,_,e⟩ <;> cases e
theorem aJQ(h:fs≠[]):¬aCT (.ins C dx fs):=λz=>by
 rcases z with ⟨_,_,_,e⟩|⟨_,_,e⟩
 ·cases e
 ·cases e;exact h rfl
theorem aEN{xs:List V}(h:xs.length≠3):¬aCT (.lst xs):=λz=>by
 rcases z with ⟨_,_,_,e⟩|⟨_,_,e⟩
 ·cases e;exact h rfl
 ·cases e
theorem aCi{qs:List Addr}:¬aCT (.lst (qs.map V.ref)):=λz=>by
 rcases z with ⟨_,_,_,e⟩|⟨_,_,e⟩
 ·cases qs with
  |nil=>cases e
  |cons x xs=>cases e
 ·cases e
theorem aHc{ns:List Int}:¬aCT (.lst (ns.map V.int)):=λz=>by
 rcases z with ⟨d,c,q,e⟩|⟨_,_,e⟩
 ·injection e with e
  have h:=congrArg (λl=>l[2]?) e
  replace h:(ns.map V.int)[2]?=some (.ref q):=h
  rw[oR] at h
  cases hq:ns[2]? with
  |none=>rw[hq] at h;cases h
  |some n=>rw[hq] at h;cases h
 ·cases e
theorem Tr.tk(s:Tr H H'):Tk H H':=λb xs e=>s b _ e aQ6
theorem _root_.L2.aP.tk(s:aP H H'):Tk H H':=λb xs e=>s b _ e
theorem aJR{H:Hp}{l:Addr}{xs ys:List V}(h:H l=some (.lst xs)):Tk H (upd H l (.lst ys)):=λb zs e=>by
 have n:b≠l:=λz=>by rw[z,h] at e;cases e
 rw[bB n];exact e
def del(l:Addr)(H:Hp):Hp:=λb=>if b=l then none else H b
theorem aBw{H:Hp}(n:b≠l):del l H b=H b:=by unfold del;rw[if_neg n]
theorem aAi:aP (del l H) H:=λb o e=>by
 unfold del at e
 split at e
 ·cases e
 ·exact e
theorem aGr:del l H l=none:=by unfold del;rw[if_pos rfl]
theorem oQ(e:H b=some o)(n:b≠l):del l H b=some o:=by rw[aBw n];exact e
theorem Tr.del(s:Tr H H'):Tr (del l H) (del l H'):=λb o e n=>by
 by_cases hb:b=l
 ·subst hb;rw[aGr] at e;cases e
 ·rw[aBw hb] at e ⊢;exact s b o e n
theorem aKv:del l (upd H l o)=del l H:=by
 funext b
 by_cases hb:b=l
 ·subst hb;rw[aGr,aGr]
 ·rw[aBw hb,aBw hb,bB hb]
theorem aAg.tr{ps:List (Int×Int)}(h:aAg H qs ps)(s:Tk H H'):aAg H' qs ps:=⟨h.len,λj q t h1 h2=>s _ _ (h.at_ j q t h1 h2)⟩
theorem aAJ.tr{ps:List (Int×Int)}(h:aAJ H p ps)(s:Tr H H'):aAJ H' p ps:=by
 obtain⟨qs,h1,h2⟩:=h.ex
 exact⟨qs,s _ _ h1 aCi,h2.tr s.tk⟩
theorem dB.tr(h:dB H p m)(s:Tr H H'):dB H' p m:=by
 obtain⟨pl,h1,h2⟩:=h.ex
 exact⟨pl,s _ _ h1 (aEN (by simp)),h2.tr s⟩
theorem cV.tr(h:cV C H p m)(s:Tr H H'):cV C H' p m:=by
 obtain⟨dx,pl,h1,h2⟩:=h.ex
 exact⟨dx,pl,s _ _ h1 (aJQ (by simp[mFs])),h2.tr s⟩
structure SS where
 cap:Int
 into:Int
 out:Int
 takes:Int
 gives:Int
structure SS.Good(s:SS):Prop where
 cap:0<=s.cap/\s.cap<=8
 into:0<=s.into/\s.into<=8
 out:0<=s.out/\s.out<=8
 takes:Am s.takes
 gives:Am s.gives
def Lv(s:SS)(l n:Int):Prop:=0<=n/\n<=s.cap/\l - s.out<=n/\n<=l+s.into
instance (s:SS) (l n:Int):Decidable (Lv s l n):=by unfold Lv;infer_instance
def dr(s:SS)(l n:Int):Int:=(if l < n then s.takes else s.gives)*(n - l)
def pw(s:SS):Int->List Int->List Int->Int
 |l,p::ps,n::ns=>p*dr s l n+pw s n ps ns
 |_,_,_=>0
theorem aHd{lo n:Int}{k:Nat}:n∈upL lo k↔lo<=n/\n < lo+(k:Int):=by
 unfold upL
 rw[xX]
 constructor
 ·rintro ⟨j,hj,rfl⟩
  have:=Rs9.mp hj
  omega
 ·rintro ⟨h1,h2⟩
  exact⟨(n - lo).toNat,Rs9.mpr (by omega),by omega⟩
theorem aKw(lo:Int)(k:Nat):(upL lo k).length=k:=by
 unfold upL
 rw[bP,Tq9]
def sFs(s:SS):List (Str×V):=[("cap",.int s.cap),("into",.int s.into),("out",.int s.out),("takes",.int s.takes),("gives",.int s.gives)]
structure aHe(H:Hp)(a:Addr)(s:SS):Prop where
 at_:H a=some (.lst [.int s.cap,.int s.into,.int s.out,.int s.takes,.int s.gives])
structure gL(C:Addr)(H:Hp)(x:Addr)(s:SS):Prop where
 ex:∃dx,H x=some (.ins C dx (sFs s))
theorem gL.same(h:gL C H a s)(e:aP H H'):gL C H' a s:=by
 obtain⟨dx,q⟩:=h.ex
 exact⟨dx,e _ _ q⟩
def aIF(K:W.Frag):Sp:=λvs H Q _=>∃(i:Int),vs=[.int i]/\0<=i/\i<=8/\Q (.bl true) H
theorem aIG{mg:Str->Option Value}{a:iR}(tx:Txt K mg a):bQ P w K mg base gE 2 a.wJ a.wK ["thing"] (aIF K):=by
 have rQ:=aAh (P:=P) (w:=w) (base:=base) tx
 refine tx.rA.ok aIv (λvs H Q E h=>?_) (λcdv A outer s H vs Q E hr h=>?_)
 ·obtain⟨i,rfl,_⟩:=h
  rfl
 ·obtain⟨i,rfl ,h1,h2,k⟩:=h
  have hu:=jO hr
  refine bA (aG (aM (qP (zq1 rQ hr tx.wY tx.qY.kp tx.wX (aA (Z.pv 0) aC)) (mG (yZ aC7 aC7 aB (Z.pv 0) (vX (n:=8) (by rfl) tx.hZ)))))) ?_
  refine aS (σ:=[some (.int i)]) rfl ?_
  walk_at "w"
  refine⟨_,_,rfl,.int i,?_⟩
  walk_at "w"
  refine kS (λ_=>?_) (λh=>by simp at h)
  walk_at "w"
  refine cD (λ_=>?_) (λh=>absurd h1 h)
  walk_at "w"
  rw[decide_eq_true h2]
  exact k
def aFC(K:W.Frag)(C:Addr):Sp:=λvs H Q _=>∃(x dx:Addr) (s:SS),vs=[.ref x,.int s.cap,.int s.into,.int s.out,.int s.takes,.int s.gives]/\H x=some (.ins C dx [])/\s.Good/\
 ∀H',gL C H' x s->cA x H H'->Q .non H'
theorem aFD{mg:Str->Option Value}{a:iR}(tx:Txt K mg a):bQ P w K mg base gE 3 a.pR a.pS ["self","cap","into","out","takes","gives"] (aFC K a.cL):=by
 have dI:=qO (P:=P) (w:=w) (base:=base) tx
 have aBx:=aIG (P:=P) (w:=w) (base:=base) tx
 refine tx.aBZ.ok m5 (λvs H Q E h=>?_) (λcdv A outer s H vs Q E hr h=>?_)
 ·obtain⟨x,dx,ss,rfl,_⟩:=h
  rfl
 ·obtain⟨x,dx,ss,rfl ,hx,hg,k⟩:=h
  have hu:=jO hr
  refine bA (aD (aJ (i:=6) m5.nd (aAx (zq1 aBx hr tx.w6 tx.rA.kp tx.w5 (aA (Z.pv 1) aC)) (zq1 aBx hr tx.w6 tx.rA.kp tx.w5 (aA (Z.pv 2) aC)) (zq1 aBx hr tx.w6 tx.rA.kp tx.w5 (aA (Z.pv 3) aC))))
   (aD (bM PassesOwn.never rfl (oN (K':=K) (by rfl) tx.d7 (aA (aI bI (Z.pv 6) (sD (zq1 dI hr tx.dZ tx.dO.kp tx.dY (aA (Z.pv 4) aC)) (zq1 dI hr tx.dZ tx.dO.kp tx.dY (aA (Z.pv 5) aC)))) aC)) (cC (K':=K) (n:=2) rfl (aV (aL (i:=7) m5.nd) (aV (aL (i:=8) m5.nd) cB))) (aG (bH (iS (fP (Z.pv 8))) (aG oM) bC)))
   (aD (cU (K':=K) (Z.pv 0) (Z.pv 1) rfl)
   (aD (cU (K':=K) (Z.pv 0) (Z.pv 2) rfl)
   (aD (cU (K':=K) (Z.pv 0) (Z.pv 3) rfl)
   (aD (cU (K':=K) (Z.pv 0) (Z.pv 4) rfl)
   (aG (cU (K':=K) (Z.pv 0) (Z.pv 5) rfl)))))))) ?_
  refine aS (σ:=[some (.ref x),some (.int ss.cap),some (.int ss.into),some (.int ss.out),some (.int ss.takes),some (.int ss.gives),none,none,none]) rfl ?_
  walk_at "w"
  refine⟨_,rfl,hg.cap.1,hg.cap.2,?_⟩
  walk_at "w"
  refine⟨_,rfl,hg.into.1,hg.into.2,?_⟩
  walk_at "w"
  refine⟨_,rfl,hg.out.1,hg.out.2,?_⟩
  walk_at "w"
  intro l1 n1
  walk_at "w"
  refine⟨_,_,rfl,.int _,?_⟩
  rw[xP hg.takes]
  walk_at "w"
  refine⟨_,_,rfl,.int _,?_⟩
  rw[xP hg.gives]
  walk_at "w"
  intro l2 n2
  walk_at "w"
  refine aAt (xs:=[.bl true,.bl true,.bl true]) (zs:=[.bl true,.bl true]) (aP.new n2 _ _ aN) aN (cF (by simp)) ?_
  intro l3 n3
  have s3:aP H (upd (upd (upd H l1 (.lst [.bl true,.bl true,.bl true])) l2 (.lst [.bl true,.bl true])) l3 (.lst ([.bl true,.bl true,.bl true] ++ [.bl true,.bl true]))):=((aP.new n1).trans (aP.new n2)).trans (aP.new n3)
  have e3:(upd (upd (upd H l1 (.lst [.bl true,.bl true,.bl true])) l2 (.lst [.bl true,.bl true])) l3 (.lst ([.bl true,.bl true,.bl true] ++ [.bl true,.bl true]))) l3=some (.lst [.bl true,.bl true,.bl true,.bl true,.bl true]):=aN
  generalize upd (upd (upd H l1 (.lst [.bl true,.bl true,.bl true])) l2 (.lst [.bl true,.bl true])) l3 (.lst ([.bl true,.bl true,.bl true] ++ [.bl true,.bl true]))=H3 at s3 e3 ⊢
  walk_at "w"
  refine aIa (bV.of e3) ?_
  refine aBN (xs:=[.bl true,.bl true,.bl true,.bl true,.bl true]) (λi σ' H'=>∃y z,σ'=[some (.ref x),some (.int ss.cap),some (.int ss.into),some (.int ss.out),some (.int ss.takes),some (.int ss.gives),some (.ref l1),y,z]/\aP H3 H')
   ⟨_,_,rfl,aP.refl _⟩ (λi σ' H' hi ⟨y,z,e,s⟩=>bV.of (s _ _ e3)) (λi v σ' H' T hv ⟨y,z,e,s⟩ nT=>?_) (λσ' H' ⟨y,z,e,s⟩=>?_)
  ·subst e
   have ev:v=.bl true:=by
    have:=oS hv
    simpa using this
   subst ev
   refine eM (kQ.of aN) rfl ?_
   walk_at "w"
   exact⟨_,_,rfl,s.trans (aP.new nT)⟩
  ·subst e
   have sH:aP H H':=s3.trans s
   have hx':=sH _ _ hx
   walk_at "w"
   refine jZ (fs':=[("cap",.int ss.cap)]) hx' tx.jX tx.aAe (by simp) rfl ?_
   walk_at "w"
   refine jZ (fs':=[("cap",.int ss.cap),("into",.int ss.into)]) aN tx.jX tx.xN (by simp) rfl ?_
   rw[kP]
   walk_at "w"
   refine jZ (fs':=[("cap",.int ss.cap),("into",.int ss.into),("out",.int ss.out)]) aN tx.jX tx.aAf (by simp) rfl ?_
   rw[kP]
   walk_at "w"
   refine jZ (fs':=[("cap",.int ss.cap),("into",.int ss.into),("out",.int ss.out),("takes",.int ss.takes)]) aN tx.jX tx.uV (by simp) rfl ?_
   rw[kP]
   walk_at "w"
   refine jZ (fs':=sFs ss) aN tx.jX tx.uW (by simp) rfl ?_
   rw[kP]
   walk_at "w"
   exact k _ ⟨dx,aN⟩ (sH.keep.trans cA.upd)
theorem aHe.tr(h:aHe H a s)(e:Tr H H'):aHe H' a s:=⟨e _ _ h.at_ (aEN (by simp))⟩
theorem gL.tr(h:gL C H a s)(e:Tr H H'):gL C H' a s:=by
 obtain⟨dx,q⟩:=h.ex
 exact⟨dx,e _ _ q (aJQ (by simp[sFs]))⟩
def StA(H:Hp)(q:Addr)(t:Int×Int):Prop:=H q=some (.tup [.int t.1,.int t.2])
structure aIH(H:Hp)(t:Addr)(ss:List (Int×Int)):Prop where
 ex:∃qs,H t=some (.tup (qs.map V.ref))/\RL (StA H) qs ss
abbrev Ps:=List (Int×Int)×Int
structure rT(H:Hp)(a:Addr)(P:Ps):Prop where
 ex:∃t,H a=some (.tup [.ref t,.int P.2])/\aIH H t P.1
structure Hr where
 ons:List Int
 outs:List Int
 lev:Int
structure aHf(H:Hp)(a:Addr)(h:Hr):Prop where
 ex:∃t u,H a=some (.tup [.ref t,.ref u,.int h.lev])/\H t=some (.tup (h.ons.map V.int))/\H u=some (.tup (h.outs.map V.int))
structure aAj(H:Hp)(a:Addr)(hs:List Hr):Prop where
 ex:∃qs,H a=some (.lst (qs.map V.ref))/\RL (aHf H) qs hs
structure aJS(H:Hp)(a:Addr)(hs:List Ps):Prop where
 ex:∃qs,H a=some (.lst (qs.map V.ref))/\RL (rT H) qs hs
theorem aIH.tk{ss:List (Int×Int)}(h:aIH H t ss)(s:Tk H H'):aIH H' t ss:=by
 obtain⟨qs,h1,h2⟩:=h.ex
 exact⟨qs,s _ _ h1,h2.imp λa x z=>s _ _ z⟩
theorem rT.tk(h:rT H a P)(s:Tk H H'):rT H' a P:=by
 obtain⟨t,h1,h2⟩:=h.ex
 exact⟨t,s _ _ h1,h2.tk s⟩
theorem aHf.tk(x:aHf H a h)(s:Tk H H'):aHf H' a h:=by
 obtain⟨t,u,h1,h2,h3⟩:=x.ex
 exact⟨t,u,s _ _ h1,s _ _ h2,s _ _ h3⟩
theorem aAj.tr{H H':Hp}{a:Addr}{hs:List Hr}(x:aAj H a hs)(s:Tr H H'):aAj H' a hs:=by
 obtain⟨qs,h1,h2⟩:=x.ex
 exact⟨qs,s _ _ h1 aCi,h2.imp λa x z=>z.tk s.tk⟩
theorem aJS.tr{H H':Hp}{a:Addr}{hs:List Ps}(x:aJS H a hs)(s:Tr H H'):aJS H' a hs:=by
 obtain⟨qs,h1,h2⟩:=x.ex
 exact⟨qs,s _ _ h1 aCi,h2.imp λa x z=>z.tk s.tk⟩
structure WS where
 specs:List MS
 store:Option SS
 lack:Int
 x:Int
 y:Int
 wide:Int
structure WS.Good(W:WS):Prop where
 specs:∀m∈W.specs,m.Good
 len:W.specs.length<=6
 store:∀s,W.store=some s->s.Good
 lack:Am W.lack
 x:1<=W.x/\W.x<=50000000000
 y:1<=W.y/\W.y<=50000000000
 wide:W.wide=0\/W.wide=1
structure tT(H:Hp)(l:Addr)(ms:List MS):Prop where
 ex:∃qs,H l=some (.lst (qs.map V.ref))/\RL (dB H) qs ms
structure tU(C:Addr)(H:Hp)(l:Addr)(ms:List MS):Prop where
 ex:∃qs,H l=some (.lst (qs.map V.ref))/\RL (cV C H) qs ms
def aHg(H:Hp)(v:V):Option SS->Prop
 |none=>v=.non
 |some s=>∃a,v=.ref a/\aHe H a s
def aLv(C:Addr)(H:Hp)(v:V):Option SS->Prop
 |none=>v=.non
 |some s=>∃a,v=.ref a/\gL C H a s
theorem tT.tr(h:tT H l ms)(s:Tr H H'):tT H' l ms:=by
 obtain⟨qs,h1,h2⟩:=h.ex
 exact⟨qs,s _ _ h1 aCi,h2.imp λa x z=>z.tr s⟩
theorem tU.tr(h:tU C H l ms)(s:Tr H H'):tU C H' l ms:=by
 obtain⟨qs,h1,h2⟩:=h.ex
 exact⟨qs,s _ _ h1 aCi,h2.imp λa x z=>z.tr s⟩
theorem aHg.tr:∀{o:Option SS},aHg H v o->Tr H H'->aHg H' v o
 |none,h,_=>h
 |some s,⟨a,e,h⟩,t=>⟨a,e,h.tr t⟩
theorem aLv.tr:∀{o:Option SS},aLv C H v o->Tr H H'->aLv C H' v o
 |none,h,_=>h
 |some s,⟨a,e,h⟩,t=>⟨a,e,h.tr t⟩
structure iG(H:Hp)(a:Addr)(W:WS):Prop where
 ex:∃ls st b,H a=some (.lst [.ref ls,st,.int W.lack,.ref b,.int W.wide])/\tT H ls W.specs/\aHg H st W.store/\H b=some (.lst [.int W.x,.int W.y])
theorem iG.tr(h:iG H a W)(s:Tr H H'):iG H' a W:=by
 obtain⟨ls,st,b,h1,h2,h3,h4⟩:=h.ex
 exact⟨ls,st,b,s _ _ h1 (aEN (by simp)),h2.tr s,h3.tr s,s _ _ h4 (aEN (by simp))⟩
def wFs(lm:Addr)(st:V)(k:Int):List (Str×V):=[("machines",.ref lm),("store",st),("lack",.int k)]
structure tV(CW CM CS:Addr)(H:Hp)(w:Addr)(W:WS):Prop where
 ex:∃dx lm st,H w=some (.ins CW dx (wFs lm st W.lack))/\tU CM H lm W.specs/\aLv CS H st W.store
theorem tV.tr(h:tV CW CM CS H w W)(s:Tr H H'):tV CW CM CS H' w W:=by
 obtain⟨dx,lm,st,h1,h2,h3⟩:=h.ex
 exact⟨dx,lm,st,s _ _ h1 (aJQ (by simp[wFs])),h2.tr s,h3.tr s⟩
def VS(s:Int×Int):Prop:=yC s.1/\0<=s.2
def m3:List MS->List (Int×Int)->List Int->List (Int×Int)
 |m::ms,s::ss,o::os=>pG m s.1 s.2 o::m3 ms ss os
 |_,_,_=>[]
theorem aCj:∀{ms:List MS}{ss:List (Int×Int)}{os:List Int},ss.length=ms.length->os.length=ms.length->(m3 ms ss os).length=ms.length
 |[],_,_,_,_=>by simp[m3]
 |m::ms,s::ss,o::os,h1,h2=>by
  show(pG m s.1 s.2 o::m3 ms ss os).length=_
  rw[Ra9,aCj (by simpa using h1) (by simpa using h2),Ra9]
 |_::_,[],_,h,_=>by cases h
 |_::_,_::_,[],_,h=>by cases h
theorem aAk:∀{ms:List MS}{ss:List (Int×Int)}{os:List Int}{j:Nat}{m:MS}{s:Int×Int}{o:Int},ms[j]?=some m->ss[j]?=some s->os[j]?=some o->(m3 ms ss os)[j]?=some (pG m s.1 s.2 o)
 |m::ms,s::ss,o::os,0,_,_,_,h1,h2,h3=>by cases h1;cases h2;cases h3;rfl
 |m::ms,s::ss,o::os,j+1,_,_,_,h1,h2,h3=>by
  show(m3 ms ss os)[j]?=_
  exact aAk h1 h2 h3
 |[],_,_,_,_,_,_,h,_,_=>by simp at h
 |_::_,[],_,_,_,_,_,_,h,_=>by simp at h
 |_::_,_::_,[],_,_,_,_,_,_,h=>by simp at h
theorem aLw{ms:List MS}{ss:List (Int×Int)}{os:List Int}(h1:ss.length=ms.length)(h2:os.length=ms.length){i:Nat}{m:MS}{s:Int×Int}{o:Int}(g1:ms[i]?=some m)(g2:ss[i]?=some s)(g3:os[i]?=some o) :
  (m3 ms ss os).take (i+1)=(m3 ms ss os).take i ++ [pG m s.1 s.2 o]:=by
 rw[Rr9,aAk g1 g2 g3]
 rfl
def May(ss:List (Int×Int))(os:List Int):Prop:=∀(j:Nat) (s:Int×Int) (o:Int),ss[j]?=some s->os[j]?=some o->s.1=o\/s.2=0
def yD(W:WS)(l:Int):Prop:=match W.store with|none=>l=0|some s=>0<=l/\l<=s.cap
def LvW(W:WS)(l n:Int):Prop:=match W.store with|none=>n=0|some s=>Lv s l n
structure vS(W:WS)(P:Ps):Prop where
 len:P.1.length=W.specs.length
 vs:∀s∈P.1,VS s
 lev:yD W P.2
def aAl(m:MS)(on out:Int):Prop:=(on=0->out=0)/\(on≠0->m.least<=out/\out<=m.least+vR m.pieces)
structure xQ(W:WS)(P:Ps)(h:Hr):Prop where
 ons:h.ons.length=W.specs.length
 outs:h.outs.length=W.specs.length
 bits:∀o∈h.ons,yC o
 may:May P.1 h.ons
 out:∀(j:Nat) m on out,W.specs[j]?=some m->h.ons[j]?=some on->h.outs[j]?=some out->aAl m on out
 lev:LvW W P.2 h.lev
def nxt(W:WS)(P:Ps)(h:Hr):Ps:=(m3 W.specs P.1 h.ons,h.lev)
theorem LvW.ok{W:WS}{l n:Int}(h:LvW W l n):yD W n:=by
 unfold LvW at h
 unfold yD
 cases e:W.store with
 |none=>rw[e] at h;exact h
 |some s=>rw[e] at h;exact⟨h.1,h.2.1⟩
theorem xQ.nxt{W:WS}{P:Ps}{h:Hr}(g:W.Good)(p:vS W P)(x:xQ W P h):vS W (nxt W P h):=by
 refine⟨aCj p.len x.ons,λs hs=>?_,x.lev.ok⟩
 obtain⟨j,hj⟩:=Rk9 hs
 have hl:=aCj p.len x.ons
 have hj':j < W.specs.length:=by rw[<-hl];exact(lZ.mp hj).1
 have g1:W.specs[j]?=some W.specs[j]:=dQ hj'
 have g2:P.1[j]?=some (P.1[j]'(by rw[p.len];exact hj')):=dQ _
 have g3:h.ons[j]?=some (h.ons[j]'(by rw[x.ons];exact hj')):=dQ _
 replace hj:(m3 W.specs P.1 h.ons)[j]?=some s:=hj
 rw[aAk g1 g2 g3] at hj
 cases hj
 exact aEM (g.specs _ (Rd9 hj')) (x.bits _ (oS g3))
def cX(W:WS):Ps->List Hr->Prop
 |_,[]=>True
 |P,h::hs=>xQ W P h/\cX W (nxt W P h) hs
def aJT(W:WS):Ps->List Hr->Ps
 |P,[]=>P
 |P,h::hs=>aJT W (nxt W P h) hs
theorem aGs(W:WS):∀(P:Ps) (hs:List Hr) (h:Hr),aJT W P (hs ++ [h])=nxt W (aJT W P hs) h
 |_,[],_=>rfl
 |P,g::hs,h=>aGs W (nxt W P g) hs h
theorem cX.snoc{W:WS}:∀{P:Ps}{hs:List Hr}{h:Hr},cX W P hs->xQ W (aJT W P hs) h->cX W P (hs ++ [h])
 |_,[],_,_,x=>⟨x,trivial⟩
 |P,g::hs,h,p,x=>⟨p.1,cX.snoc p.2 x⟩
theorem cX.pos{W:WS}(g:W.Good):∀{P:Ps}{hs:List Hr},vS W P->cX W P hs->vS W (aJT W P hs)
 |_,[],p,_=>p
 |P,h::hs,p,x=>cX.pos (P:=nxt W P h) (hs:=hs) g (x.1.nxt g p) x.2
theorem cX.take:∀{P:Ps}{hs:List Hr}{i:Nat}{h:Hr},cX W P hs->hs[i]?=some h->cX W P (hs.take i)/\xQ W (aJT W P (hs.take i)) h
 |P,g::hs,0,h,x,e=>by cases e;exact⟨trivial,x.1⟩
 |P,g::hs,i+1,h,x,e=>by
  have:=cX.take (i:=i) (h:=h) x.2 e
  exact⟨⟨x.1,this.1⟩,this.2⟩
 |_,[],_,_,_,e=>by simp at e
theorem take_snoc{α:Type}{l:List α}{i:Nat}{x:α}(h:l[i]?=some x):l.take (i+1)=l.take i ++ [x]:=by
 rw[Rr9,h];rfl
theorem RL.get{α:Type}{P:Addr->α->Prop}{as:List Addr}{xs:List α}(h:RL P as xs){i:Nat}(hv:(as.map V.ref)[i]?=some v):∃a x,as[i]?=some a/\v=.ref a/\xs[i]?=some x/\P a x:=by
 rw[oR] at hv
 cases hq:as[i]? with
 |none=>rw[hq] at hv;cases hv
 |some a=>
  rw[hq] at hv
  cases hv
  have li:i < xs.length:=by rw[<-h.len];exact(lZ.mp hq).1
  have hx:xs[i]?=some xs[i]:=dQ li
  exact⟨a,xs[i],rfl,rfl,hx,h.at_ i a _ hq hx⟩
theorem RL.ix{α:Type}{P:Addr->α->Prop}{as:List Addr}{xs:List α}(h:RL P as xs){i:Nat}(hi:i < xs.length):∃a,as[i]?=some a/\P a xs[i]:=by
 have li:i < as.length:=by rw[h.len];exact hi
 have ha:as[i]?=some as[i]:=dQ li
 exact⟨as[i],ha,h.at_ i _ _ ha (dQ hi)⟩
theorem oG{as:List Addr}{i:Nat}(h:as[i]?=some a):mC (as.map V.ref) (i:Int)=some (.ref a):=iB (by rw[oR,h];rfl)
theorem oH{ns:List Int}{i:Nat}{n:Int}(h:ns[i]?=some n):mC (ns.map V.int) (i:Int)=some (.int n):=iB (by rw[oR,h];rfl)
theorem aAD{ns:List Int}{i:Nat}(h:(ns.map V.int)[i]?=some x):∃n,ns[i]?=some n/\x=.int n:=by
 rw[oR] at h
 cases hq:ns[i]? with
 |none=>rw[hq] at h;cases h
 |some n=>rw[hq] at h;cases h;exact⟨n,rfl,rfl⟩
theorem aBy(np:H p=none)(s:aP H H1)(k:cA p H1 H2):aP H H2:=λb o e=>k _ _ (s _ _ e) (bG np e)
theorem aO0{xs:List V}(x:V):mC (xs ++ [x]) (-1)=some x:=by
 have e:ixN (xs ++ [x]).length (-1)=some xs.length:=by
  unfold ixN
  rw[if_neg (by omega),if_pos (by rw[oU,Qz9];omega)]
  congr 1
  rw[oU,Qz9]
  omega
 unfold mC
 rw[e]
 simp
theorem RL.take{α:Type}{P:Addr->α->Prop}{as:List Addr}{xs:List α}(h:RL P as xs)(i:Nat):RL P (as.take i) (xs.take i):=by
 refine⟨by rw[Rf9,Rf9,h.len],λj a x h1 h2=>?_⟩
 rw[List.getElem?_take] at h1 h2
 split at h1
 ·rename_i hj
  rw[if_pos hj] at h2
  exact h.at_ j a x h1 h2
 ·cases h1
def flt(m:MS):Int->Int->List Int->Nat->V
 |_,_,[],_=>.non
 |o,d,on::r,i=>if o=on\/d=0 then flt m (pG m o d on).1 (pG m o d on).2 r (i+1) else .int i
theorem aKx{ns:List Int}{i:Nat}{n:Int}(h:ns[i]?=some n):ns.drop i=n::ns.drop (i+1):=by
 obtain⟨hi,e⟩:=lZ.mp h
 rw[Rb9 hi,e]
def aHh(K:W.Frag)(C:Addr):Sp:=λvs H Q _=>∃(q:Addr) (m:MS) (t:Addr) (o d:Int) (p:Addr) (ns:List Int),vs=[.ref q,.ref t,.ref p]/\cV C H q m/\H t=some (.tup [.int o,.int d])/\H p=some (.lst (ns.map V.int))/\
 ∀H',aP H H'->Q (flt m o d ns 0) H'
theorem aHi{mg:Str->Option Value}{a:iR}(tx:Txt K mg a):bQ P w K mg base gE 3 a.sR a.sS ["machine","state","run"] (aHh K a.bD):=by
 have rS:=aAC (P:=P) (w:=w) (base:=base) tx
 have jT:=rR (P:=P) (w:=w) (base:=base) tx
 refine tx.zM.ok pI (λvs H Q E h=>?_) (λcdv A outer s H vs Q E hr h=>?_)
 ·obtain⟨q,m,t,o,d,p,ns,rfl,_⟩:=h
  rfl
 ·obtain⟨q,m,t,o,d,p,ns,rfl ,hm,ht,hp,k⟩:=h
  have hu:=jO hr
  refine bA (aD (bM PassesOwn.never rfl (oN (K':=K) (by rfl) tx.d7 (aA (Z.pv 2) aC)) (cC (K':=K) (n:=2) rfl (aV (aL (i:=3) pI.nd) (aV (aL (i:=4) pI.nd) cB))) (aD (bH (iS (fP (zq1 rS hr tx.zK tx.vH.kp tx.zJ (aA (Z.pv 0) (aA (Z.pv 1) (aA (Z.pv 4) aC)))))) (aG (aM (Z.pv 3))) bC)
   (aG (aJ (i:=1) pI.nd (zq1 jT hr tx.oB tx.jS.kp tx.oA (aA (Z.pv 0) (aA (Z.pv 1) (aA (Z.pv 4) aC))))))))
   (aG (aM eR))) ?_
  refine aS (σ:=[some (.ref q),some (.ref t),some (.ref p),none,none]) rfl ?_
  walk_at "w"
  refine aIa (bV.of hp) ?_
  refine aBN (xs:=ns.map V.int) (λi σ' H'=>∃t' o' d' x3 x4,σ'=[some (.ref q),some (.ref t'),some (.ref p),x3,x4]/\H' t'=some (.tup [.int o',.int d'])/\aP H H'/\flt m o' d' (ns.drop i) i=flt m o d ns 0)
   ⟨t,o,d,_,_,rfl,ht,aP.refl _,rfl⟩ (λi σ' H' hi ⟨t',o',d',x3,x4,e,h1,h2,h3⟩=>bV.of (h2 _ _ hp)) (λi x σ' H' T hx ⟨t',o',d',x3,x4,e,h1,h2,h3⟩ nT=>?_) (λσ' H' ⟨t',o',d',x3,x4,e,h1,h2,h3⟩=>?_)
  ·subst e
   rw[oR] at hx
   obtain⟨n,hn,rfl⟩ : ∃n,ns[i]?=some n/\x=.int n:=by
    cases hq:ns[i]? with
    |none=>rw[hq] at hx;cases hx
    |some n=>rw[hq] at hx;cases hx;exact⟨n,rfl,rfl⟩
   rw[aKx hn] at h3
   have sT:=aP.new (o:=.tup [.int (i:Int),.int n]) nT
   refine eM (kQ.of aN) rfl ?_
   walk_at "w"
   refine⟨_,_,_,_,_,rfl,sT _ _ h1,?_⟩
   walk_at "w"
   have h3':(if o'=n\/d'=0 then flt m (pG m o' d' n).1 (pG m o' d' n).2 (ns.drop (i+1)) (i+1) else .int i)=flt m o d ns 0:=h3
   by_cases hmay:o'=n\/d'=0
   ·rw[if_pos hmay] at h3'
    rw[show(decide (o'=n) || decide (d'=0))=true by rcases hmay with h|h <;> simp[h]]
    walk_at "w"
    refine⟨q,m,t',o',d',n,rfl,hm.same (h2.trans sT),sT _ _ h1,hmay,λT2 H2 s2 nT2 hT2=>?_⟩
    walk_at "w"
    exact⟨T2,_,_,_,_,rfl,hT2,(h2.trans sT).trans s2,h3'⟩
   ·rw[if_neg hmay] at h3'
    rw[show(decide (o'=n) || decide (d'=0))=false by simp only[not_or] at hmay;simp[hmay.1,hmay.2]]
    walk_at "w"
    rw[<-h3'] at k
    exact k _ (h2.trans sT)
  ·subst e
   rw[bP,Sk9] at h3
   walk_at "w"
   have h3':V.non=flt m o d ns 0:=h3
   rw[h3']
   exact k _ h2
def bgs:Int->List Int->Nat->List Int
 |_,[],_=>[]
 |o,on::r,i=>(if on=1/\o=0 then [(i:Int)] else [])++bgs on r (i+1)
def aLx(m:MS)(o:Int)(ns:List Int):Int:=m.begin_*((bgs o ns 0).length:Int)+m.run*(ns.count 1:Nat)+m.rest*(ns.count 0:Nat)
def aDL(K:W.Frag)(C:Addr):Sp:=λvs H Q _=>∃(q:Addr) (m:MS) (t:Addr) (o d:Int) (p:Addr) (ns:List Int),vs=[.ref q,.ref t,.ref p]/\cV C H q m/\H t=some (.tup [.int o,.int d])/\H p=some (.lst (ns.map V.int))/\
 flt m o d ns 0=.non/\∀H',aP H H'->Q .non H'
theorem aDM{mg:Str->Option Value}{a:iR}(tx:Txt K mg a):bQ P w K mg base gE 4 a.lF a.lG ["machine","state","run"] (aDL K a.bD):=by
 have aII:=aHi (P:=P) (w:=w) (base:=base) tx
 refine tx.rB.ok xY (λvs H Q E h=>?_) (λcdv A outer s H vs Q E hr h=>?_)
 ·obtain⟨q,m,t,o,d,p,ns,rfl,_⟩:=h
  rfl
 ·obtain⟨q,m,t,o,d,p,ns,rfl ,hm,ht,hp,hf,k⟩:=h
  have hu:=jO hr
  refine bA (aD (aJ (i:=3) xY.nd (zq1 aII hr tx.aDk tx.zM.kp tx.aDj (aA (Z.pv 0) (aA (Z.pv 1) (aA (Z.pv 2) aC)))))
   (aG (bH (aZ aCK (Z.pv 3) eR (bK _)) (aG oM) bC))) ?_
  refine aS (σ:=[some (.ref q),some (.ref t),some (.ref p),none]) rfl ?_
  walk_at "w"
  refine⟨q,m,t,o,d,p,ns,rfl,hm,ht,hp,λH1 s1=>?_⟩
  rw[hf]
  walk_at "w"
  exact k _ s1
def aFE(K:W.Frag)(C:Addr):Sp:=λvs H Q _=>∃(q:Addr) (m:MS) (t:Addr) (o d:Int) (p:Addr) (ns:List Int),vs=[.ref q,.ref t,.ref p]/\cV C H q m/\H t=some (.tup [.int o,.int d])/\H p=some (.lst (ns.map V.int))/\ns.length<=48/\
 flt m o d ns 0=.non/\∀c H',aP H H'->H c=none->H' c=some (.lst ((bgs o ns 0).map V.int))->Q (.ref c) H'
theorem aFF{mg:Str->Option Value}{a:iR}(tx:Txt K mg a):bQ P w K mg base gE 5 a.pT a.pU ["machine","state","run"] (aFE K a.bD):=by
 have aEO:=aDM (P:=P) (w:=w) (base:=base) tx
 refine tx.w9.ok hX (λvs H Q E h=>?_) (λcdv A outer s H vs Q E hr h=>?_)
 ·obtain⟨q,m,t,o,d,p,ns,rfl,_⟩:=h
  rfl
 ·obtain⟨q,m,t,o,d,p,ns,rfl ,hm,ht,hp,hl,hn,k1⟩:=h
  have hu:=jO hr
  refine bA (aD (eF (zq1 aEO hr tx.zO tx.rB.kp tx.zN (aA (Z.pv 0) (aA (Z.pv 1) (aA (Z.pv 2) aC)))))
   (aD (aJ (i:=3) hX.nd (gU aC))
   (aD (aJ (i:=4) hX.nd (aE (K':=K) (Z.pv 1) aB))
   (aD (bM PassesOwn.never rfl (oN (K':=K) (by rfl) tx.d7 (aA (Z.pv 2) aC)) (cC (K':=K) (n:=2) rfl (aV (aL (i:=5) hX.nd) (aV (aL (i:=6) hX.nd) cB))) (aD (bH (iJ (kD (aZ (r:=oV K) (eE hu) (Z.pv 6) aB (bK _)) (iK (aZ (r:=oV K) (eE hu) (Z.pv 4) aB (bK _))))) (aG (eF (fB (K':=K) (Z.pv 3) (aA (Z.pv 5) aC)))) bC)
   (aG (aJ (i:=4) hX.nd (Z.pv 6)))))
   (aG (aM (Z.pv 3))))))) ?_
  refine aS (σ:=[some (.ref q),some (.ref t),some (.ref p),none,none,none,none]) rfl ?_
  walk_at "w"
  refine⟨q,m,t,o,d,p,ns,rfl,hm,ht,hp,hn,λH1 s1=>?_⟩
  walk_at "w"
  intro c nc
  obtain⟨H2,i2,s2,g2⟩:=nw _ nc;rw[i2]
  have ht2:=(s1.trans s2) _ _ ht
  have hp2:=(s1.trans s2) _ _ hp
  have cp:c≠p:=λz=>by rw[z] at nc;exact bG nc (s1 _ _ hp) rfl
  walk_at "w"
  refine aIa (bV.of hp2) ?_
  refine aBN (xs:=ns.map V.int) (λi σ' H'=>∃(a':Int) (bs:List Int) (x5 x6:Option V),σ'=[some (.ref q),some (.ref t),some (.ref p),some (.ref c),some (.int a'),x5,x6]/\H' c=some (.lst (bs.map V.int))/\bs.length<=i/\bs++bgs a' (ns.drop i) i=bgs o ns 0/\aP H1 H')
   ⟨o,[],_,_,rfl,g2,gB _,rfl,s2⟩ (λi σ' H' hi ⟨a',bs,x5,x6,e,g,lb,eb,s'⟩=>bV.of (s' _ _ (s1 _ _ hp))) (λi x σ' H' T hx ⟨a',bs,x5,x6,e,g,lb,eb,s'⟩ nT=>?_) (λσ' H' ⟨a',bs,x5,x6,e,g,lb,eb,s'⟩=>?_)
  ·subst e
   rw[oR] at hx
   obtain⟨n,hn',rfl⟩:=Qp9.mp hx
   have hi:i < ns.length:=(lZ.mp hn').1
   rw[aKx hn'] at eb
   obtain⟨H3,i3,s3,g3⟩:=nw (.tup [.int (i:Int),.int n]) nT;rw[i3]
   refine eM (kQ.of g3) rfl ?_
   have g':=s3 _ _ g
   have eb':bs++((if n=1/\a'=0 then [(i:Int)] else [])++bgs n (ns.drop (i+1)) (i+1))=bgs o ns 0:=eb
   walk_at "w"
   refine cD (λh1=>?_) (λh1=>?_)
   ·walk_at "w"
    refine cD (λh2=>?_) (λh2=>?_)
    ·rw[if_pos ⟨h1,h2⟩,<-Tp9] at eb'
     walk_at "w"
     refine oW (bV.of g') ?_
     walk_at "w"
     refine uG (xs:=bs.map V.int) g' (yK (by rw[bP];omega:(bs.map V.int).length < 1000) (cF (by simp))) ?_
     obtain⟨H4,i4,k4,g4⟩:=wr H3 c (.lst (bs.map V.int ++ [.int (i:Int)]));rw[i4]
     walk_at "w"
     exact⟨n,bs ++ [(i:Int)],_,_,rfl,by rw[g4,rW];rfl,by rw[oU];simp;exact lb,eb',λb o e=>k4 _ _ (s3 _ _ (s' _ _ e)) (bG nc e)⟩
    ·rw[if_neg (λz=>h2 z.2),List.nil_append] at eb'
     walk_at "w"
     exact⟨n,bs,_,_,rfl,g',by omega,eb',s'.trans s3⟩
   ·rw[if_neg (λz=>h1 z.1),List.nil_append] at eb'
    walk_at "w"
    exact⟨n,bs,_,_,rfl,g',by omega,eb',s'.trans s3⟩
  ·subst e
   rw[bP,Sk9] at eb
   rw[show bs++bgs a' [] ns.length=bs from Rw9 bs] at eb
   walk_at "w"
   exact k1 c _ (s1.trans s') (s1.free nc) (by rw[<-eb];exact g)
def aIJ(K:W.Frag)(C:Addr):Sp:=λvs H Q _=>∃(q:Addr) (m:MS) (t:Addr) (o d:Int) (p:Addr) (ns:List Int),vs=[.ref q,.ref t,.ref p]/\cV C H q m/\m.Good/\H t=some (.tup [.int o,.int d])/\H p=some (.lst (ns.map V.int))/\ns.length<=48/\
 flt m o d ns 0=.non/\∀H',aP H H'->Q (.int (aLx m o ns)) H'
theorem aIK{mg:Str->Option Value}{a:iR}(tx:Txt K mg a):bQ P w K mg base gE 6 a.wL a.wM ["machine","state","run"] (aIJ K a.bD):=by
 have aHj:=aFF (P:=P) (w:=w) (base:=base) tx
 refine tx.aBq.ok aDf (λvs H Q E h=>?_) (λcdv A outer s H vs Q E hr h=>?_)
 ·obtain⟨q,m,t,o,d,p,ns,rfl,_⟩:=h
  rfl
 ·obtain⟨q,m,t,o,d,p,ns,rfl ,hm,hg,ht,hp,hl,hn,k1⟩:=h
  have hu:=jO hr
  refine bA (aD (aJ (i:=3) aDf.nd (aK (rc:=lW K) bS (by rfl) tx.eN dR (aA (zq1 aHj hr tx.aB2 tx.w9.kp tx.aB1 (aA (Z.pv 0) (aA (Z.pv 1) (aA (Z.pv 2) aC)))) aC)))
   (aG (aM (aI bI (aI bI (aI bN (cT (K':=K) (Z.pv 0) rfl) (Z.pv 3)) (aI bN (cT (K':=K) (Z.pv 0) rfl) (aBQ (K':=K) (Z.pv 2) (aA aB aC)))) (aI bN (cT (K':=K) (Z.pv 0) rfl) (aBQ (K':=K) (Z.pv 2) (aA aB aC))))))) ?_
  obtain⟨b0,b1⟩:=hg.begin_
  obtain⟨u0,u1⟩:=hg.run
  obtain⟨r0,r1⟩:=hg.rest
  refine aS (σ:=[some (.ref q),some (.ref t),some (.ref p),none]) rfl ?_
  walk_at "w"
  refine⟨q,m,t,o,d,p,ns,rfl,hm,ht,hp,hl,hn,λc H1 s1 nc gc=>?_⟩
  obtain⟨dx,pl,hq,_⟩:=(hm.same s1).ex
  have hp1:=s1 _ _ hp
  walk_at "w"
  refine j0 hq tx.cW tx.o7 rfl ?_
  walk_at "w"
  refine j0 hq tx.cW tx.uU rfl ?_
  walk_at "w"
  refine oW (bV.of hp1) ?_
  walk_at "w"
  refine aIj (bV.of hp1) ?_
  walk_at "w"
  refine j0 hq tx.cW tx.rN rfl ?_
  walk_at "w"
  refine oW (bV.of hp1) ?_
  walk_at "w"
  refine aIj (bV.of hp1) ?_
  walk_at "w"
  rw[bP]
  exact k1 _ s1
def Ok(m:MS):Int->Int->List Int->Prop
 |_,_,[]=>True
 |o,d,on::r=>(o=on\/d=0)/\Ok m (pG m o d on).1 (pG m o d on).2 r
def ed(m:MS):Int->Int->List Int->Int×Int
 |o,d,[]=>(o,d)
 |o,d,on::r=>ed m (pG m o d on).1 (pG m o d on).2 r
def St0(o d:Int):Prop:=yC o/\0<=d/\d < 60
theorem St0.pG{m:MS}(g:m.Good){o d on:Int}(h:St0 o d)(b:yC on):St0 (pG m o d on).1 (pG m o d on).2:=by
 obtain⟨h0,h1,h2⟩:=h
 refine⟨(aEM g b).1,(aEM g b).2,?_⟩
 have u:=g.up
 have v:=g.down
 unfold My.pG
 split
 ·show max (d - 1) 0 < 60;omega
 ·split
  ·show m.up - 1 < 60;omega
  ·show m.down - 1 < 60;omega
def tP(m:MS)(on:Int)(f:Int->Int->Int)(o d:Int):Int:=if o=on\/d=0 then f (pG m o d on).1 (pG m o d on).2 else 0
def tB(m:MS)(f:Int->Int->Int)(o d:Int):Int:=tP m 0 f o d+tP m 1 f o d
def one(_ _:Int):Int:=1
abbrev WP:=(Int×Int)×Int
def uY(k:Int×Int):List Key:=[.inl k.1,.inl k.2]
def enc(ps:List WP):List (List Key×V):=ps.map λp=>(uY p.1,V.int p.2)
theorem aCk{a b:Int×Int}(h:uY a=uY b):a=b:=by
 unfold uY at h
 simp only[List.cons.injEq,Sum.inl.injEq,and_true] at h
 exact Prod.ext h.1 h.2
def aAK(ps:List WP)(k:Int×Int):Option Int:=(ps.find? λp=>decide (p.1=k)).map (·.2)
def addW(ps:List WP)(k:Int×Int)(v:Int):List WP:=if ps.any (λp=>decide (p.1=k)) then ps.map (λp=>if p.1=k then (p.1,v) else p) else ps ++ [(k,v)]
theorem aO1(ps:List WP)(k:Int×Int):u9 (enc ps) (uY k)=(aAK ps k).map V.int:=by
 unfold u9 aAK enc
 induction ps with
 |nil=>rfl
 |cons p r ih=>
  by_cases h:p.1=k
  ·simp[h]
  ·have:uY p.1≠uY k:=λz=>h (aCk z)
   simp only[Rh9,Rt9,this,h,decide_false]
   exact ih
theorem aO2(ps:List WP)(k:Int×Int)(v:Int):putK (enc ps) (uY k) (.int v)=enc (addW ps k v):=by
 unfold putK addW enc
 have e:((ps.map λp:WP=>(uY p.1,V.int p.2)).any λkv=>decide (kv.1=uY k))=ps.any λp=>decide (p.1=k):=by
  rw[List.any_map]
  congr 1
  funext p
  show decide (uY p.1=uY k)=decide (p.1=k)
  exact decide_eq_decide.mpr ⟨aCk,λz=>by rw[z]⟩
 rw[e]
 split
 ·rw[Rq9,Rq9]
  congr 1
  funext p
  show(if uY p.1=uY k then (uY p.1,V.int v) else (uY p.1,V.int p.2))=(uY (if p.1=k then (p.1,v) else p).1,V.int (if p.1=k then (p.1,v) else p).2)
  by_cases h:p.1=k
  ·rw[if_pos h,if_pos (by rw[h])]
  ·rw[if_neg h,if_neg λz=>h (aCk z)]
 ·rw[rW]
  rfl
def wsum(f:Int->Int->Int)(ps:List WP):Int:=List.sum (ps.map λp=>p.2*f p.1.1 p.1.2)
theorem aGt(f:Int->Int->Int)(p:WP)(ps:List WP):wsum f (p::ps)=p.2*f p.1.1 p.1.2+wsum f ps:=rfl
theorem aNo(f:Int->Int->Int)(ps qs:List WP):wsum f (ps++qs)=wsum f ps+wsum f qs:=by
 unfold wsum
 rw[rW,List.sum_append]
theorem aO3{ps:List WP}{k:Int×Int}{c:Int}(nd:(ps.map (·.1)).Nodup):((addW ps k ((aAK ps k).getD 0+c)).map (·.1)).Nodup/\(∀p∈addW ps k ((aAK ps k).getD 0+c),p.1=k\/∃q∈ps,q.1=p.1)/\∀f,wsum f (addW ps k ((aAK ps k).getD 0+c))=wsum f ps+c*f k.1 k.2:=by
 unfold addW
 by_cases h:ps.any (λp=>decide (p.1=k))=true
 ·rw[if_pos h]
  refine⟨?_,λp hp=>?_,λf=>?_⟩
  ·rw[Rq9]
   have e:((λp:WP=>p.1) ∘ λp:WP=>if p.1=k then (p.1,(aAK ps k).getD 0+c) else p)=λp=>p.1:=by
    funext p
    show(if p.1=k then (p.1,(aAK ps k).getD 0+c) else p).1=p.1
    split <;> rfl
   rw[e]
   exact nd
  ·obtain⟨q,hq,rfl⟩:=xX.mp hp
   refine .inr ⟨q,hq,?_⟩
   split <;> rfl
  ·have key:∀(qs:List WP),(qs.map (·.1)).Nodup->qs.any (λp=>decide (p.1=k))=true->∀v,(aAK qs k).getD 0+c=v->wsum f (qs.map λp=>if p.1=k then (p.1,v) else p)=wsum f qs+c*f k.1 k.2:=by
    intro qs
    induction qs with
    |nil=>intro _ z;cases z
    |cons p r ih=>
     intro nd h v hv
     rw[Rh9,Rm9] at nd
     rw[Rh9,aGt,aGt]
     by_cases hp:p.1=k
     ·have hn:∀q∈r,¬q.1=k:=λq hq z=>nd.1 (xX.mpr ⟨q,hq,by rw[z,hp]⟩)
      have e1:(r.map λp=>if p.1=k then (p.1,v) else p)=r:=by
       conv=>rhs;rw[<-List.map_id r]
       exact Tf9 λq hq=>if_neg (hn q hq)
      have e2:aAK (p::r) k=some p.2:=by unfold aAK;simp[hp]
      rw[e2] at hv
      rw[e1,if_pos hp,<-hv,hp]
      show(p.2+c)*f k.1 k.2+wsum f r=_
      rw[Int.add_mul]
      omega
     ·have h':r.any (λp=>decide (p.1=k))=true:=by simpa [hp] using h
      have e2:aAK (p::r) k=aAK r k:=by unfold aAK;simp[hp]
      rw[e2] at hv
      rw[if_neg hp,ih nd.2 h' v hv]
      omega
   exact key ps nd h _ rfl
 ·have hn:aAK ps k=none:=by
   unfold aAK
   rw[Option.map_eq_none_iff,List.find?_eq_none]
   intro p hp z
   exact h (Sr9.mpr ⟨p,hp,z⟩)
  rw[if_neg h,hn]
  refine⟨?_,λp hp=>?_,λf=>?_⟩
  ·rw[rW,List.nodup_append]
   refine⟨nd,by simp,λa ha b hb=>?_⟩
   rw[Rh9,Tt9,Qu9] at hb
   rintro rfl
   obtain⟨q,hq,e⟩:=xX.mp ha
   exact h (Sr9.mpr ⟨q,hq,by simpa using e.trans hb⟩)
  ·rcases Ri9.mp hp with z|z
   ·exact .inr ⟨p,z,rfl⟩
   ·rw[Qu9.mp z];exact .inl rfl
  ·rw[aNo]
   show _+((0+c)*f k.1 k.2+0)=_
   rw[Rj9,Sw9]
theorem aNp:∀(n:Nat) (l:List Nat),l.Nodup->(∀x∈l,x < n)->l.length<=n
 |0,l,_,h=>by
  cases l with
  |nil=>exact gB _
  |cons x r=>exact absurd (h x (.head _)) (by omega)
 |n+1,l,nd,h=>by
  have:=aNp n (l.erase n) (nd.erase n) (λx hx=>by
   have h1:=(nd.mem_erase_iff.mp hx)
   have:=h x h1.2
   have:=h1.1
   omega)
  rw[List.length_erase] at this
  split at this <;> omega
structure aFG(ps:List WP):Prop where
 nd:(ps.map (·.1)).Nodup
 st:∀p∈ps,St0 p.1.1 p.1.2
theorem aFG.len{ps:List WP}(h:aFG ps):ps.length<=120:=by
 have:=aNp 120 ((ps.map (·.1)).map λk=>(k.1*60+k.2).toNat) (by
  rw[List.Nodup,Sy9]
  refine h.nd.imp_of_mem ?_
  intro a b ha hb hab z
  obtain⟨p,hp,rfl⟩:=xX.mp ha
  obtain⟨q,hq,rfl⟩:=xX.mp hb
  obtain⟨a1,a2,a3⟩:=h.st p hp
  obtain⟨b1,b2,b3⟩:=h.st q hq
  refine hab (Prod.ext ?_ ?_)
  ·rcases a1 with a1|a1 <;> rcases b1 with b1|b1 <;> rw[a1,b1] <;> rw[a1,b1] at z <;> omega
  ·rcases a1 with a1|a1 <;> rcases b1 with b1|b1 <;> rw[a1,b1] at z <;> omega) (λx hx=>by
  obtain⟨k,hk,rfl⟩:=xX.mp hx
  obtain⟨p,hp,rfl⟩:=xX.mp hk
  obtain⟨a1,a2,a3⟩:=h.st p hp
  rcases a1 with a1|a1 <;> rw[a1] <;> omega)
 simpa using this
theorem aFG.add(h:aFG ps){k:Int×Int}(hk:St0 k.1 k.2)(c:Int):aFG (addW ps k ((aAK ps k).getD 0+c)):=by
 obtain⟨h1,h2,_⟩:=aO3 (k:=k) (c:=c) h.nd
 refine⟨h1,λp hp=>?_⟩
 rcases h2 p hp with z|⟨q,hq,z⟩
 ·rw[z];exact hk
 ·rw[<-z];exact h.st q hq
section
variable{α:Type}
abbrev Wy(α:Type):=Int×α×Int
def gM(f:α->Int):List (Wy α)->Int
 |[]=>0
 |[w]=>w.2.2+f w.2.1
 |w::v::r=>min (w.2.2+f w.2.1) (gM f (v::r))
theorem vT(f:α->Int):∀{ws:List (Wy α)}{w:Wy α},w∈ws->gM f ws<=w.2.2+f w.2.1
 |[],_,h=>by cases h
 |[w],v,h=>by rw[Qu9.mp h];exact Sp9 _
 |w::v::r,u,h=>by
  show min _ _<=_
  rcases yF.mp h with rfl|h
  ·omega
  ·have:=vT f h;omega
theorem xR(f:α->Int):∀{ws:List (Wy α)},ws≠[]->∃w∈ws,w.2.2+f w.2.1=gM f ws
 |[],h=>absurd rfl h
 |[w],_=>⟨w,.head _,rfl⟩
 |w::v::r,_=>by
  obtain⟨u,hu,e⟩:=xR f (ws:=v::r) (by simp)
  by_cases h:w.2.2+f w.2.1<=gM f (v::r)
  ·exact⟨w,.head _,by show _=min _ _;omega⟩
  ·exact⟨u,Qq9 _ hu,by show _=min _ _;omega⟩
theorem aLy{f:α->Int}{m:Int}(h1:∃w∈ws,w.2.2+f w.2.1=m)(h2:∀w∈ws,m<=w.2.2+f w.2.1):m=gM f ws:=by
 obtain⟨w,hw,e⟩:=h1
 have a:=vT f hw
 obtain⟨u,hu,e2⟩:=xR f (ws:=ws) (λz=>by rw[z] at hw;cases hw)
 have b:=h2 u hu
 omega
def wF(W:Nat->α->List (Wy α)):Nat->Nat->α->Int
 |0,_,_=>0
 |k+1,i,x=>gM (wF W k (i+1)) (W i x)
def pA(f:α->Int)(ws:List (Wy α)):Option (Wy α):=ws.find? λw=>decide (w.2.2+f w.2.1=gM f ws)
theorem aIL(f:α->Int){ws:List (Wy α)}(h:ws≠[]):∃w,pA f ws=some w/\w∈ws/\w.2.2+f w.2.1=gM f ws:=by
 obtain⟨u,hu,e⟩:=xR f h
 cases q:pA f ws with
 |none=>
  unfold pA at q
  rw[List.find?_eq_none] at q
  exact absurd (decide_eq_true e) (q u hu)
 |some w=>
  unfold pA at q
  exact⟨w,rfl,Ry9 q,of_decide_eq_true (List.find?_some (p:=λw:Wy α=>decide (w.2.2+f w.2.1=gM f ws)) q)⟩
def aCl(W:Nat->α->List (Wy α)):Nat->Nat->α->List Int
 |0,_,_=>[]
 |k+1,i,x=>match pA (wF W k (i+1)) (W i x) with
  |none=>[]
  |some w=>w.1::aCl W k (i+1) w.2.1
def aIM(W:Nat->α->List (Wy α)):Nat->α->List Int->Option Int
 |_,_,[]=>some 0
 |i,x,c::r=>match (W i x).find? λw=>decide (w.1=c) with
  |none=>none
  |some w=>(aIM W (i+1) w.2.1 r).map (w.2.2 + ·)
structure Lay(W:Nat->α->List (Wy α))(n:Nat)(L:Nat->α->Prop):Prop where
 ne:∀i x,i < n->L i x->W i x≠[]
 on:∀i x w,i < n->L i x->w∈W i x->L (i+1) w.2.1
theorem aPu{W:Nat->α->List (Wy α)}:∀{row:List Int}{i:Nat}{x:α}{v:Int},aIM W i x row=some v->wF W row.length i x<=v
 |[],_,_,v,h=>by cases h;exact Sp9 _
 |c::r,i,x,v,h=>by
  unfold aIM at h
  cases q:(W i x).find? λw=>decide (w.1=c) with
  |none=>rw[q] at h;cases h
  |some w=>
   rw[q] at h
   obtain⟨u,hu,rfl⟩:=Qp9.mp h
   have a:=aPu hu
   have b:=vT (wF W r.length (i+1)) (Ry9 q)
   show gM (wF W r.length (i+1)) (W i x)<=w.2.2+u
   omega
def aO4(ws:List (Wy α)):Prop:=ws.Pairwise λa b=>a.1 < b.1
theorem aGu{ws:List (Wy α)}(h:aO4 ws){w:Wy α}(hw:w∈ws):(ws.find? λv=>decide (v.1=w.1))=some w:=by
 induction ws with
 |nil=>cases hw
 |cons a r ih=>
  obtain⟨h1,h2⟩:=List.pairwise_cons.mp h
  rw[Rt9]
  rcases yF.mp hw with rfl|hw
  ·simp
  ·have:=h1 w hw
   rw[decide_eq_false (by omega)]
   exact ih h2 hw
theorem aKy{W:Nat->α->List (Wy α)}{n:Nat}{L:Nat->α->Prop}(hl:Lay W n L)(hr:∀i x,aO4 (W i x)):∀(k i:Nat) (x:α),i+k<=n->L i x->aIM W i x (aCl W k i x)=some (wF W k i x)/\(aCl W k i x).length=k
 |0,_,_,_,_=>⟨rfl,rfl⟩
 |k+1,i,x,hk,hx=>by
  obtain⟨w,e1,e2,e3⟩:=aIL (wF W k (i+1)) (hl.ne i x (by omega) hx)
  obtain⟨h1,h2⟩:=aKy hl hr k (i+1) w.2.1 (by omega) (hl.on i x w (by omega) hx e2)
  have e:aCl W (k+1) i x=w.1::aCl W k (i+1) w.2.1:=by
   show(match pA (wF W k (i+1)) (W i x) with|none=>[]|some w=>w.1::aCl W k (i+1) w.2.1)=_
   rw[e1]
  rw[e]
  refine⟨?_,by rw[Ra9,h2]⟩
  unfold aIM
  rw[aGu (hr i x) e2]
  show Option.map (w.2.2 + ·) (aIM W (i+1) w.2.1 (aCl W k (i+1) w.2.1))=_
  rw[h1]
  show some (w.2.2+wF W k (i+1) w.2.1)=some (gM (wF W k (i+1)) (W i x))
  rw[e3]
theorem aKz{β:Type}{p:β->Bool}:∀{l:List β}{j:Nat}{w:β},l[j]?=some w->(∀x∈l.take j,p x=false)->p w=true->l.find? p=some w
 |[],_,_,h,_,_=>by simp at h
 |a::r,0,w,h,_,hp=>by
  cases h
  rw[Rt9,hp]
 |a::r,j+1,w,h,hn,hp=>by
  rw[Rt9,hn a (by rw[List.take_succ_cons];exact .head _)]
  exact aKz (l:=r) (j:=j) h (λx hx=>hn x (by rw[List.take_succ_cons];exact Qq9 _ hx)) hp
end
inductive PK (α:Type) where
 |ik (f:α->Key) (inj:∀x y,f x=f y->x=y)
 |tk (f:α->List Key) (inj:∀x y,f x=f y->x=y)
def PK.pv{α:Type}:PK α->Hp->V->α->Prop
 |.ik f _,_,v,x=>v=kV (f x)
 |.tk f _,H,v,x=>∃b,v=.ref b/\H b=some (.tup ((f x).map kV))
def PK.da{α:Type}:PK α->Hp->Addr->List α->(α->Int)->Prop
 |.ik f _,H,d,ps,g=>H d=some (.dK (ps.map λx=>(f x,.int (g x))))
 |.tk f _,H,d,ps,g=>H d=some (.dT (ps.map λx=>(f x,.int (g x))))
section
variable{α:Type}{κ:PK α}{H H':Hp}{v:V}{x:α}{d:Addr}{ps:List α}{g g':α->Int}
theorem PK.tW(h:κ.pv H v x)(s:aP H H'):κ.pv H' v x:=by
 cases κ with
 |ik f i=>exact h
 |tk f i=>obtain⟨b,e,hb⟩:=h;exact⟨b,e,s _ _ hb⟩
theorem PK.tX(h:κ.da H d ps g)(s:aP H H'):κ.da H' d ps g:=by
 cases κ with
 |ik f i=>exact s _ _ h
 |tk f i=>exact s _ _ h
theorem yR{κ':Type}[DecidableEq κ']{f:α->κ'}(inj:∀x y,f x=f y->x=y){g:α->Int}:∀{ps:List α},x∈ps->u9 (ps.map λx=>(f x,V.int (g x))) (f x)=some (.int (g x))
 |[],h=>by cases h
 |y::r,h=>by
  rw[Rh9]
  by_cases e:f y=f x
  ·rw[oK (show(f y,V.int (g y)).1=f x from e),inj _ _ e]
  ·rw[kR (show ¬(f y,V.int (g y)).1=f x from e)]
   rcases yF.mp h with rfl|h
   ·exact absurd rfl e
   ·exact yR inj h
theorem aGv{κ':Type}[DecidableEq κ']{f:α->κ'}(inj:∀x y,f x=f y->x=y){g:α->Int}:∀{ps:List α},x∉ps->u9 (ps.map λx=>(f x,V.int (g x))) (f x)=none
 |[],_=>rfl
 |y::r,h=>by
  rw[Rh9,kR (show ¬(f y,V.int (g y)).1=f x from λz=>h (by rw[inj _ _ z];exact .head _))]
  exact aGv inj λz=>h (Qq9 _ z)
theorem PK.get(h:κ.da H d ps g)(hv:κ.pv H v x)(hx:x∈ps):yT H d v (some (.int (g x))):=by
 cases κ with
 |ik f i=>
  have hv':v=kV (f x):=hv
  subst hv'
  have z:=yT.k (k:=f x) (show H d=some (.dK _) from h)
  rw[yR i hx] at z
  exact z
 |tk f i=>
  obtain⟨b,rfl,hb⟩:=hv
  have z:=yT.t (show H d=some (.dT _) from h) hb
  rw[yR i hx] at z
  exact z
theorem aD8{κ':Type}[DecidableEq κ']{f:α->κ'}(inj:∀x y,f x=f y->x=y){g:α->Int}{x:α}{ps:List α}(hx:x∉ps):putK (ps.map λx=>(f x,V.int (g x))) (f x) (.int (g x))=(ps ++ [x]).map λx=>(f x,V.int (g x)):=by
 unfold putK
 rw[aBJ,aGv inj hx,rW]
 rfl
theorem PK.put(h:κ.da H d ps g)(hv:κ.pv H v x)(hx:x∉ps)(hl:ps.length < 1000000):∃H',aEa H d v (.int (g x)) H'/\κ.da H' d (ps ++ [x]) g/\cA d H H':=by
 have lt:ps.length < sizeLine:=yK hl (cF (by decide))
 cases κ with
 |ik f i=>
  have hv':v=kV (f x):=hv
  subst hv'
  refine⟨_,aEa.k (k:=f x) (show H d=some (.dK _) from h) (by rw[bP];exact lt),?_,cA.upd⟩
  show upd H d _ d=_
  rw[aN,aD8 i hx]
 |tk f i=>
  obtain⟨b,rfl,hb⟩:=hv
  refine⟨_,aEa.t (show H d=some (.dT _) from h) hb (by rw[bP];exact lt),?_,cA.upd⟩
  show upd H d _ d=_
  rw[aN,aD8 i hx]
theorem PK.new{Q:VK}(κ:PK α)(g:α->Int)(h:∀p H',H p=none->aP H H'->κ.da H' p [] g->Q (.ref p) H'):aEu σ H Q:=by
 cases κ with
 |ik f i=>exact aLl λp np=>h p _ np (aP.new np) aN
 |tk f i=>exact aGl λp np=>h p _ np (aP.new np) aN
theorem PK.aNq(h:κ.da H d ps g)(e:H d=some (.lst xs)):False:=by
 cases κ with
 |ik f i=>have h':H d=some (.dK _):=h;rw[e] at h';cases h'
 |tk f i=>have h':H d=some (.dT _):=h;rw[e] at h';cases h'
def aCm(κ:PK α)(H:Hp)(a:Addr)(w:Wy α):Prop:=∃v,H a=some (.tup [.int w.1,v,.int w.2.2])/\κ.pv H v w.2.1
theorem aCm.same(h:aCm κ H a w)(s:aP H H'):aCm κ H' a w:=let ⟨v,e,p⟩:=h;⟨v,s _ _ e,κ.tW p s⟩
structure xS(κ:PK α)(H:Hp)(l:Addr)(ws:List (Wy α)):Prop where
 ex:∃as,H l=some (.lst (as.map V.ref))/\RL (aCm κ H) as ws
theorem xS.same(h:xS κ H l ws)(s:aP H H'):xS κ H' l ws:=let ⟨as,e,r⟩:=h.ex;⟨as,s _ _ e,r.imp λ_ _ z=>z.same s⟩
structure aAm(κ:PK α)(C:Addr->Sp->Prop)(H:Hp)(f:Addr)(W:Nat->α->List (Wy α))(L:Nat->α->Prop):Prop where
 ex:∃spc,C f spc/\∀(H':Hp) (h:Nat) (v:V) (x:α) (Q:VK),aP H H'->L h x->κ.pv H' v x->(∀l H'',aP H' H''->xS κ H'' l (W h x)->Q (.ref l) H'')->spc [.int (h:Int),v] H' Q E0
theorem aAm.same{C:Addr->Sp->Prop}{W:Nat->α->List (Wy α)}{L:Nat->α->Prop}(h:aAm κ C H f W L)(s:aP H H'):aAm κ C H' f W L:=
 let ⟨spc,c,p⟩:=h.ex;⟨spc,c,λH2 a v x Q s2=>p H2 a v x Q (s.trans s2)⟩
def PVs(κ:PK α)(H:Hp)(vs:List V)(ps:List α):Prop:=vs.length=ps.length/\∀(i:Nat) v x,vs[i]?=some v->ps[i]?=some x->κ.pv H v x
theorem PVs.same(h:PVs κ H vs ps)(s:aP H H'):PVs κ H' vs ps:=⟨h.1,λi v x h1 h2=>κ.tW (h.2 i v x h1 h2) s⟩
theorem PVs.get{vs:List V}(h:PVs κ H vs ps){i:Nat}(e:vs[i]?=some v):∃x,ps[i]?=some x/\κ.pv H v x:=by
 have li:i < ps.length:=by rw[<-h.1];exact(lZ.mp e).1
 exact⟨_,dQ li,h.2 i v _ e (dQ li)⟩
end
theorem oI{α:Type}{l:List α}{i:Nat}{x:α}(h:l[i]?=some x):l.take (i+1)=l.take i ++ [x]:=by rw[Rr9,h];rfl
theorem RL.gt{α:Type}{P:Addr->α->Prop}{as:List Addr}{xs:List α}(h:RL P as xs){i:Nat}(hv:(as.map V.ref)[i]?=some v):∃a x,as[i]?=some a/\v=.ref a/\xs[i]?=some x/\P a x:=by
 rw[oR] at hv
 obtain⟨a,e,rfl⟩:=Qp9.mp hv
 have li:i < xs.length:=by rw[<-h.len];exact(lZ.mp e).1
 exact⟨a,xs[i],e,rfl,dQ li,h.at_ i a _ e (dQ li)⟩
def aIN(K:W.Frag):Sp:=λvs H Q _=>∃(α:Type) (κ:PK α) (l d:Addr) (ws:List (Wy α)) (ps:List α) (g:α->Int),vs=[.ref l,.ref d]/\xS κ H l ws/\κ.da H d ps g/\ws≠[]/\ws.length<=10000/\(∀w∈ws,w.2.1∈ps)/\
 ∀H',aP H H'->Q (.int (gM g ws)) H'
theorem aDA{mg:Str->Option Value}{a:iR}(tx:Txt K mg a):bQ P w K mg base gE 1 a.wN a.wO ["ways","behind"] (aIN K):=by
 refine tx.xA.ok aIw (λvs H Q E h=>?_) (λcdv A outer s H vs Q E hr h=>?_)
 ·obtain⟨α,κ,l,d,ws,ps,g,rfl,_⟩:=h
  rfl
 ·obtain⟨α,κ,l,d,ws,ps,g,rfl ,hw,hd,hne,hlen,hin,k⟩:=h
  have hu:=jO hr
  refine bA (aG (aM (aK (rc:=aNb K) (aLk rfl) (by rfl) tx.vQ yX (aA (cO (k:=3) (idx:=[1]) (N:=["choice","later","worth","behind"]) (cR (sc:=aH j8) (NX:=["ways","behind"]) rfl rfl rfl (by decide +kernel)) rfl (bT (K':=K) (Z.pv 0)) (λ_ _ _ _=>(cC (K':=K) (n:=3) rfl (aV (aL (i:=0) (show(["choice","later","worth","behind"]:List Str).Nodup by decide +kernel)) (aV (aL (i:=1) (show(["choice","later","worth","behind"]:List Str).Nodup by decide +kernel)) (aV (aL (i:=2) (show(["choice","later","worth","behind"]:List Str).Nodup by decide +kernel)) cB))))) (aBL (eO (by decide) (eO (by decide) (eO (by decide) yW)))) (λ_ _ _ _=>bR) (λ_ _ _ _=>(aI bI (Z.pv 2) (sE hu (Z.pv 3) (Z.pv 1))))) aC)))) ?_
  obtain⟨as,gl,rl⟩:=hw.ex
  have las:=rl.len
  refine aS (σ:=[some (.ref l),some (.ref d)]) rfl ?_
  walk_at "w"
  refine kU (bV.of gl) ?_
  refine fO (xs:=as.map V.ref) (λj us H'=>H'=H/\us=(((ws.take j).map λw=>w.2.2+g w.2.1).map V.int)) ⟨rfl,rfl⟩ (cF (by rw[bP];omega))
   (λj us H' hj ⟨e0,e1⟩=>⟨by rw[e0];exact bV.of gl,by rw[e1,bP,bP,Rf9];omega⟩) (λj v us H' hv ⟨e0,e1⟩=>?_) (λus H' ⟨e0,e1⟩=>?_)
  ·subst e0
   obtain⟨a1,w,ea,rfl,ew,vv,g1,hp⟩:=rl.gt hv
   refine eM (kQ.of g1) rfl ?_
   walk_at "w"
   refine⟨d,_,rfl,κ.get hd hp (hin w (oS ew)),?_⟩
   walk_at "w"
   refine⟨rfl,?_⟩
   rw[e1,oI ew,rW,rW]
   rfl
  subst e0 e1
  rw[bP,las,Rc9]
  intro l2 n2
  obtain⟨H2,i2,s2,g2⟩:=nw _ n2;rw[i2]
  walk_at "w"
  refine aOU (bV.of g2) (by simpa using hne) λm hm hle=>?_
  have e:m=gM g ws:=aLy (by
   obtain⟨w,hw,e⟩:=xX.mp hm
   exact⟨w,hw,e⟩) λw hw=>hle _ (xX.mpr ⟨w,hw,rfl⟩)
  rw[e]
  exact k H2 s2
def aDN(K:PySem.W.Frag)(C:Addr->Sp->Prop):Sp:=λvs H Q _=>∃(α:Type) (κ:PK α) (lp d f:Addr) (h:Nat) (us:List V) (ps bs:List α) (g:α->Int) (W:Nat->α->List (Wy α)) (L:Nat->α->Prop),vs=[.ref lp,.int (h:Int),.ref d,.ref f]/\
 H lp=some (.lst us)/\PVs κ H us ps/\ps.Nodup/\ps.length<=10000/\κ.da H d bs g/\aAm κ C H f W L/\(∀x∈ps,L h x/\W h x≠[]/\(W h x).length<=10000/\∀w∈W h x,w.2.1∈bs)/\
 ∀q H',aP H H'->H q=none->κ.da H' q ps (λx=>gM g (W h x))->Q (.ref q) H'
theorem aDO{P:Program}{w:World}{K:PySem.W.Frag}{mg:Str->Option Value}{base:Heap}{a:iR}(tx:Txt K mg a):bQ P w K mg base gE 10 a.lH a.lI ["places","hour","behind","ways_at"] (aDN K (Clo P w K mg base (8+1))):=by
 have aBz:=aDA (P:=P) (w:=w) (base:=base) tx
 refine tx.rC.ok oX (λvs H Q E h=>?_) (λcdv A outer s H vs Q E hr h=>?_)
 ·obtain⟨α,κ,lp,d,f,h,us,ps,bs,g,W,L,rfl,_⟩:=h
  rfl
 ·obtain⟨α,κ,lp,d,f,h,us,ps,bs,g,W,L,rfl ,gl,hpv,hnd,hlen,hd,hW,hon,k⟩:=h
  have hu:=jO hr
  refine bA (aD (aJ (i:=4) oX.nd y7)
   (aD (bM PassesOwn.never rfl (bT (K':=K) (Z.pv 0)) (aL (i:=5) oX.nd) (aG (aBl hu (Z.pv 4) (Z.pv 5) (zq1 aBz hr tx.aBs tx.xA.kp tx.aBr (aA (aDe (P:=P) (w:=w) (K:=K) (mg:=mg) (base:=base) (i:=3) (k:=8+1) (hr.mono (by decide)) (aA (Z.pv 1) (aA (Z.pv 5) aC))) (aA (Z.pv 2) aC))))))
   (aG (aM (Z.pv 4))))) ?_
  obtain⟨spc,hC,hp⟩:=hW.ex
  have lus:=hpv.1
  refine aS (σ:=[some (.ref lp),some (.int (h:Int)),some (.ref d),some (.ref f),none,none]) rfl ?_
  walk_at "w"
  refine κ.new (λx=>gM g (W h x)) λwd H1 nwd s1 dw=>?_
  walk_at "w"
  refine kU (bV.of (s1 _ _ gl)) ?_
  refine aAu (xs:=us) (λi σ' H'=>aP H H'/\κ.da H' wd (ps.take i) (λx=>gM g (W h x))/\∃z,σ'=[some (.ref lp),some (.int (h:Int)),some (.ref d),some (.ref f),some (.ref wd),z]) ⟨s1,dw,_,rfl⟩
   (λi σ' H' hi ⟨s',_⟩=>bV.of (s' _ _ gl)) (λi v σ' H' hv ⟨s',dw',z,e⟩=>?_) (λσ' H' ⟨s',dw',z,e⟩=>?_)
  ·subst e
   obtain⟨x,ex,px⟩:=hpv.get hv
   obtain⟨o1,o2,o3,o4⟩:=hon x (oS ex)
   walk_at "w"
   refine aIs rfl hC ?_
   walk_at "w"
   refine hp H' h v x _ s' o1 (κ.tW px s') λl H2 s2 hws=>?_
   have s02:=s'.trans s2
   walk_at "w"
   refine⟨α,κ,l,d,W h x,bs,g,rfl,hws,κ.tX hd s02,o2,o3,o4,λH3 s3=>?_⟩
   have s03:=s02.trans s3
   walk_at "w"
   have nx:x∉ps.take i:=λz=>by
    have hi:i < ps.length:=(lZ.mp ex).1
    obtain⟨j,hj,ej⟩:=List.getElem_of_mem z
    rw[Rf9] at hj
    rw[List.getElem_take] at ej
    have e2:ps[i]=x:=(lZ.mp ex).2
    have:=(List.getElem_inj hnd).mp (ej.trans e2.symm)
    omega
   obtain⟨H4,p4,d4,k4⟩:=κ.put (κ.tX dw' (s2.trans s3)) (κ.tW px s03) nx (by rw[Rf9];omega)
   refine⟨wd,H4,rfl,p4,?_⟩
   walk_at "w"
   refine⟨λb o e=>k4 _ _ (s03 _ _ e) (bG nwd e),?_,_,rfl⟩
   rw[oI ex]
   exact d4
  ·subst e
   walk_at "w"
   rw[lus,Rc9] at dw'
   exact k wd H' s' nwd dw'
structure aIO{α:Type}(κ:PK α)(H:Hp)(a:Addr)(Ls:List (List α)):Prop where
 ex:∃as,H a=some (.lst (as.map V.ref))/\RL (λb ps=>∃us,H b=some (.lst us)/\PVs κ H us ps) as Ls
theorem aIO.same{α:Type}{κ:PK α}{Ls:List (List α)}(h:aIO κ H a Ls)(s:aP H H'):aIO κ H' a Ls:=
 let ⟨as,e,r⟩:=h.ex;⟨as,s _ _ e,r.imp λ_ _ ⟨us,e,p⟩=>⟨us,s _ _ e,p.same s⟩⟩
structure aJU{α:Type}(κ:PK α)(H:Hp)(a:Addr)(Ls:List (List α))(F:Nat->α->Int):Prop where
 ex:∃ds:List Addr,H a=some (.lst (ds.map V.ref))/\ds.length=Ls.length/\∀(i:Nat) d ps,ds[i]?=some d->Ls[i]?=some ps->κ.da H d ps (F i)
theorem aJU.same{α:Type}{κ:PK α}{H H':Hp}{a:Addr}{Ls:List (List α)}{F:Nat->α->Int}(h:aJU κ H a Ls F)(s:aP H H'):aJU κ H' a Ls F:=
 let ⟨ds,e,l,r⟩:=h.ex;⟨ds,s _ _ e,l,λi d ps h1 h2=>κ.tX (r i d ps h1 h2) s⟩
structure aKA{α:Type}(W:Nat->α->List (Wy α))(Ls:List (List α)):Prop where
 pos:0 < Ls.length
 nd:∀ps∈Ls,ps.Nodup
 few:∀ps∈Ls,ps.length<=10000
 ne:∀(i:Nat) ps x,Ls[i]?=some ps->i+1 < Ls.length->x∈ps->W i x≠[]/\(W i x).length<=10000
 on:∀(i:Nat) ps qs x w,Ls[i]?=some ps->Ls[i+1]?=some qs->x∈ps->w∈W i x->w.2.1∈qs
theorem aHX{xs:List V}(h:0 < xs.length):mC xs (-1)=xs[xs.length - 1]?:=by
 have e:ixN xs.length (-1)=some (xs.length - 1):=by
  unfold ixN
  rw[if_neg (by omega),if_pos (by omega)]
  congr 1
  omega
 unfold mC
 rw[e]
 rfl
theorem PK.aKB{α:Type}{κ:PK α}{H H':Hp}{d p:Addr}{ps:List α}{g:α->Int}(h:κ.da H d ps g)(n:d≠p)(k:cA p H H'):κ.da H' d ps g:=by
 cases κ with
 |ik f i=>exact k _ _ h n
 |tk f i=>exact k _ _ h n
theorem PK.aHk{α:Type}{κ:PK α}{H H':Hp}{v:V}{x:α}{p:Addr}{xs:List V}(h:κ.pv H v x)(gp:H p=some (.lst xs))(k:cA p H H'):κ.pv H' v x:=by
 cases κ with
 |ik f i=>exact h
 |tk f i=>
  obtain⟨b,e,hb⟩:=h
  exact⟨b,e,k _ _ hb λz=>by rw[z,gp] at hb;cases hb⟩
theorem aEP{as:List Addr}{i:Nat}(h:as[i]?=some a):(as.map V.ref)[i]?=some (.ref a):=by rw[oR,h];rfl
def lT(K:PySem.W.Frag)(C:Addr->Sp->Prop):Sp:=λvs H Q _=>∃(α:Type) (κ:PK α) (la f:Addr) (Ls:List (List α)) (W:Nat->α->List (Wy α)) (L:Nat->α->Prop),vs=[.ref la,.ref f]/\aIO κ H la Ls/\aKA W Ls/\Ls.length<=10000/\aAm κ C H f W L/\
 (∀(i:Nat) ps x,Ls[i]?=some ps->i+1 < Ls.length->x∈ps->L i x)/\∀q H',aP H H'->H q=none->aJU κ H' q Ls (λi=>wF W (Ls.length - 1 - i) i)->Q (.ref q) H'
theorem tY{P:Program}{w:World}{K:PySem.W.Frag}{mg:Str->Option Value}{base:Heap}{a:iR}(tx:Txt K mg a):bQ P w K mg base gE 11 a.jD a.jE ["layers","ways_at"] (lT K (Clo P w K mg base (8+1))):=by
 have aEQ:=aDO (P:=P) (w:=w) (base:=base) tx
 refine tx.jN.ok dP (λvs H Q E h=>?_) (λcdv A outer s H vs Q E hr h=>?_)
 ·obtain⟨α,κ,la,f,Ls,W,L,rfl,_⟩:=h
  rfl
 ·obtain⟨α,κ,la,f,Ls,W,L,rfl ,hla,hok,hlen,hW,hL,k⟩:=h
  have hu:=jO hr
  refine bA (aD (aJ (i:=2) dP.nd y7)
   (aD (bM PassesOwn.never rfl (bT (K':=K) (aE (K':=K) (Z.pv 0) (qU aBd aB))) (aL (i:=3) dP.nd) (aG (aBl hu (Z.pv 2) (Z.pv 3) aB)))
   (aD (aJ (i:=4) dP.nd (sC (Z.pv 2)))
   (aD (bM PassesOwn.never rfl (aGW (by rfl) tx.cM (aA (aI dJ (aK (rc:=lW K) bS (by rfl) tx.eN dR (aA (Z.pv 0) aC)) aB) (aA (qU aBd aB) (aA (qU aBd aB) aC)))) (aL (i:=5) dP.nd) (aD (aJ (i:=2) dP.nd (zq1 aEQ hr tx.zQ tx.rC.kp tx.zP (aA (aE (K':=K) (Z.pv 0) (Z.pv 5)) (aA (Z.pv 5) (aA (Z.pv 2) (aA (Z.pv 1) aC))))))
   (aG (eF (fB (K':=K) (Z.pv 4) (aA (Z.pv 2) aC))))))
   (aG (aM (aFp rfl (by rfl) tx.mY (by rfl) tx.mZ (aA (Z.pv 4) aC)))))))) ?_
  obtain⟨as,ga,ra⟩:=hla.ex
  have las:=ra.len
  have pos:=hok.pos
  obtain⟨n,hn⟩ : ∃n,Ls.length=n+1:=⟨Ls.length - 1,by omega⟩
  have el:as[n]?=some as[n]:=dQ (by omega)
  have ll:Ls[n]?=some Ls[n]:=dQ (by omega)
  obtain⟨us,gu,pu⟩:=ra.at_ n _ _ el ll
  generalize as[n]=an at el gu
  generalize Ls[n]=pn at ll pu
  have lpn:=hok.few pn (oS ll)
  have ndn:=hok.nd pn (oS ll)
  have lus:=pu.1
  have ai:mC (as.map V.ref) (-1)=some (.ref an):=by
   rw[aHX (by rw[bP];omega),bP,las,hn,Nat.add_sub_cancel]
   exact aEP el
  refine aS (σ:=[some (.ref la),some (.ref f),none,none,none,none]) rfl ?_
  walk_at "w"
  refine κ.new (λ_=>0) λbd H1 nbd s1 db=>?_
  have ga1:=s1 _ _ ga
  walk_at "w"
  refine kU (bV.of (s1 _ _ gu)) ?_
  refine aAu (xs:=us) (λi σ' H'=>aP H H'/\κ.da H' bd (pn.take i) (λ_=>0)/\∃z,σ'=[some (.ref la),some (.ref f),some (.ref bd),z,none,none]) ⟨s1,db,_,rfl⟩
   (λi σ' H' hi ⟨s',_⟩=>bV.of (s' _ _ gu)) (λi v σ' H' hv ⟨s',dw',z,e⟩=>?_) (λσ' H2 ⟨s2,d2,z,e⟩=>?_)
  ·subst e
   obtain⟨x,ex,px⟩:=pu.get hv
   walk_at "w"
   have nx:x∉pn.take i:=λz=>by
    obtain⟨j,hj,ej⟩:=List.getElem_of_mem z
    rw[Rf9] at hj
    rw[List.getElem_take] at ej
    have e2:pn[i]'((lZ.mp ex).1)=x:=(lZ.mp ex).2
    have:=(List.getElem_inj ndn).mp (ej.trans e2.symm)
    omega
   obtain⟨H4,p4,d4,k4⟩:=κ.put dw' (κ.tW px s') nx (by rw[Rf9];omega)
   refine⟨bd,H4,rfl,p4,?_⟩
   walk_at "w"
   refine⟨λb o e=>k4 _ _ (s' _ _ e) (bG nbd e),?_,_,rfl⟩
   rw[oI ex]
   exact d4
  ·subst e
   rw[lus,Rc9] at d2
   have ga2:=s2 _ _ ga
   walk_at "w"
   intro lw nlw
   obtain⟨H3,i3,s3,g3⟩:=nw _ nlw;rw[i3]
   have s03:=s2.trans s3
   have ga3:=s03 _ _ ga
   have nlH:H lw=none:=s2.free nlw
   walk_at "w"
   refine⟨_,_,rfl,by rw[bP,las];omega,?_⟩
   rw[show(((as.map V.ref).length:Int) - 2 - -1).toNat=n by rw[bP,las,hn];omega]
   refine aOV (n:=n) (λi σ' H'=>aP H H'/\(∃ds:List Addr,H' lw=some (.lst (ds.map V.ref))/\ds.length=i+1/\(∃d,ds[i]?=some d/\σ'[2]?=some (some (.ref d)))/\∀(j:Nat) d ps,ds[j]?=some d->Ls[n - j]?=some ps->κ.da H' d ps (wF W j (n - j)))/\∃b z5,σ'=[some (.ref la),some (.ref f),some (.ref b),z,some (.ref lw),z5])
    ⟨s03,⟨[bd],g3,rfl,⟨bd,rfl,rfl⟩,λj d ps h1 h2=>?_⟩,_,_,rfl⟩ (λi σ' H' hi ⟨s',⟨ds,gd,ld,⟨d,ed,e2⟩,hd⟩,b,z5,e⟩=>?_) (λσ' H' ⟨s',⟨ds,gd,ld,⟨d,ed,e2⟩,hd⟩,b,z5,e⟩=>?_)
   ·match j,h1 with
    |0,h1=>
     cases h1
     rw[Nat.sub_zero,ll] at h2
     cases h2
     exact κ.tX d2 s3
    |j+1,h1=>simp at h1
   ·subst e
    have e2':some (some (V.ref b))=some (some (.ref d)):=e2
    cases e2'
    have hh:(((as.map V.ref).length:Int) - 2 - (i:Int))=((n - 1 - i:Nat):Int):=by rw[bP,las,hn];omega
    rw[hh]
    have ea:as[n - 1 - i]?=some as[n - 1 - i]:=dQ (by omega)
    have eL:Ls[n - 1 - i]?=some Ls[n - 1 - i]:=dQ (by omega)
    have eL2:Ls[n - i]?=some Ls[n - i]:=dQ (by omega)
    obtain⟨us',gu',pu'⟩:=ra.at_ _ _ _ ea eL
    generalize as[n - 1 - i]=ax at ea gu'
    generalize Ls[n - 1 - i]=px at eL pu'
    have db':=hd i d _ ed eL2
    generalize Ls[n - i]=qx at eL2 db'
    have ga':=s' _ _ ga
    have ix:mC (as.map V.ref) ((n - 1 - i:Nat):Int)=some (.ref ax):=iB (aEP ea)
    walk_at "w"
    have e1:n - 1 - i+1=n - i:=by omega
    refine⟨α,κ,ax,d,f,n - 1 - i,us',px,qx,wF W i (n - i),W,L,rfl,s' _ _ gu',pu'.same s',hok.nd px (oS eL),hok.few px (oS eL),db',hW.same s',λx hx=>?_,λq H4 s4 nq dq=>?_⟩
    ·obtain⟨n1,n2⟩:=hok.ne _ px x eL (by omega) hx
     exact⟨hL _ px x eL (by omega) hx,n1,n2,λw hw=>hok.on _ px qx x w eL (by rw[e1];exact eL2) hx hw⟩
    have gd4:=s4 _ _ gd
    walk_at "w"
    refine oW (bV.of gd4) ?_
    walk_at "w"
    refine uG (xs:=ds.map V.ref) gd4 (yK (by rw[bP];omega:(ds.map V.ref).length < 20000) (cF (by decide))) ?_
    obtain⟨H5,i5,k5,g5⟩:=wr H4 lw _;rw[i5]
    walk_at "w"
    refine⟨λb o e=>k5 _ _ (s4 _ _ (s' _ _ e)) (bG nlH e),⟨ds ++ [q],by rw[g5,rW];rfl,by rw[oU,ld];rfl,⟨q,by rw[Qo9 (by omega),ld,Sa9];rfl,rfl⟩,λj d ps h1 h2=>?_⟩,_,_,rfl⟩
    by_cases hj:j < i+1
    ·rw[Qn9 (by omega)] at h1
     have z:=κ.tX (hd j d ps h1 h2) s4
     exact κ.aKB z (λy=>κ.aNq z (by rw[y];exact gd4)) k5
    ·have hj2:j < (ds ++ [q]).length:=(lZ.mp h1).1
     rw[oU,Qz9] at hj2
     obtain rfl:j=i+1:=by omega
     rw[Qo9 (by omega),ld,Sa9] at h1
     cases h1
     rw[show n - (i+1)=n - 1 - i by omega,eL] at h2
     cases h2
     have z:=κ.aKB dq (λy=>κ.aNq dq (by rw[y];exact gd4)) k5
     have ee:(λx=>gM (wF W i (n - i)) (W (n - 1 - i) x))=wF W (i+1) (n - (i+1)):=by
      rw[show n - (i+1)=n - 1 - i by omega]
      funext x
      show _=gM (wF W i (n - 1 - i+1)) (W (n - 1 - i) x)
      rw[e1]
     rw[<-ee]
     exact z
   ·subst e
    walk_at "w"
    refine⟨lw,_,rfl,gd,λq nq=>?_⟩
    obtain⟨H5,i5,s5,g5⟩:=nw _ nq;rw[i5]
    walk_at "w"
    refine k q H5 (s'.trans s5) (s'.free nq) ⟨⟨ds.reverse,by rw[g5,List.map_reverse],by rw[Th9,ld,hn],λi d ps h1 h2=>?_⟩⟩
    have hi:i < ds.length:=by rw[<-Th9];exact(lZ.mp h1).1
    rw[List.getElem?_reverse hi] at h1
    have z:=hd _ d ps h1 (by rw[show n - (ds.length - 1 - i)=i by omega];exact h2)
    rw[show n - (ds.length - 1 - i)=i by omega,show ds.length - 1 - i=Ls.length - 1 - i by omega] at z
    exact κ.tX z s5
def aFH(K:W.Frag):Sp:=λvs H Q _=>∃(α:Type) (κ:PK α) (l d:Addr) (ws:List (Wy α)) (ps:List α) (g:α->Int),vs=[.ref l,.ref d]/\xS κ H l ws/\κ.da H d ps g/\ws≠[]/\ws.length<=10000/\(∀w∈ws,w.2.1∈ps)/\
 ∀a w H',aP H H'->pA g ws=some w->aCm κ H' a w->Q (.ref a) H'
theorem aFI{mg:Str->Option Value}{a:iR}(tx:Txt K mg a):bQ P w K mg base gE 2 a.pV a.pW ["ways","behind"] (aFH K):=by
 have aBz:=aDA (P:=P) (w:=w) (base:=base) tx
 refine tx.xC.ok aAS (λvs H Q E h=>?_) (λcdv A outer s H vs Q E hr h=>?_)
 ·obtain⟨α,κ,l,d,ws,ps,g,rfl,_⟩:=h
  rfl
 ·obtain⟨α,κ,l,d,ws,ps,g,rfl ,hw,hd,hne,hlen,hin,k⟩:=h
  have hu:=jO hr
  refine bA (aD (qQ (i:=2) aAS.nd rfl (Or.inr rfl) (zq1 aBz hr tx.aBs tx.xA.kp tx.aBr (aA (Z.pv 0) (aA (Z.pv 1) aC))))
   (aG (aM (aE (K':=K) (cO (k:=1) (idx:=[1,2]) (N:=["way","behind","least"]) (cR (sc:=aH gF) (NX:=["ways","behind","least"]) rfl rfl rfl (by decide +kernel)) rfl (bT (K':=K) (Z.pv 0)) (λ_ _ _ _=>(aL (i:=0) (show(["way","behind","least"]:List Str).Nodup by decide +kernel))) (cY (by decide)) (λ_ _ _ _=>(aEi (aZ (r:=oV K) (eE hu) (aI bI (aE (K':=K) (Z.pv 0) aB) (sE hu (Z.pv 1) (aE (K':=K) (Z.pv 0) aB))) (Z.pv 2) (bK _)))) (λ_ _ _ _=>(Z.pv 0))) aB)))) ?_
  refine aS (σ:=[some (.ref l),some (.ref d),none]) rfl ?_
  walk_at "w"
  refine⟨α,κ,l,d,ws,ps,g,rfl,hw,hd,hne,hlen,hin,λH1 s1=>?_⟩
  obtain⟨as,gl,rl⟩:=(hw.same s1).ex
  have las:=rl.len
  have hd1:=κ.tX hd s1
  walk_at "w"
  refine kU (bV.of gl) ?_
  refine fO (xs:=as.map V.ref) (λj us H'=>H'=H1/\us.length<=j/\(us=[]->∀w∈ws.take j,¬w.2.2+g w.2.1=gM g ws)/\∀u,us[0]?=some u->∃a w,u=.ref a/\pA g ws=some w/\aCm κ H1 a w) ⟨rfl,gB _,(λ_ w hw=>by simp at hw),(λu hu=>by simp at hu)⟩ (cF (by rw[bP];omega))
   (λj us H' hj ⟨e0,e1,_⟩=>⟨by rw[e0];exact bV.of gl,e1⟩) (λj v us H' hv ⟨e0,e1,e2,e3⟩=>?_) (λus H' ⟨e0,e1,e2,e3⟩=>?_)
  ·subst e0
   obtain⟨a1,w,ea,rfl,ew,vv,g1,hp⟩:=rl.gt hv
   walk_at "w"
   refine⟨d,_,rfl,κ.get hd1 hp (hin w (oS ew)),?_⟩
   walk_at "w"
   refine cD (λh=>?_) (λh=>?_)
   ·walk_at "w"
    refine⟨rfl,by rw[oU,Qz9];omega,(λz=>by simp at z),λu hu=>?_⟩
    cases us with
    |nil=>
     cases hu
     refine⟨a1,w,rfl,?_,vv,g1,hp⟩
     unfold pA
     exact aKz ew (λx hx=>decide_eq_false (e2 rfl x hx)) (decide_eq_true h)
    |cons y r=>exact e3 u hu
   ·walk_at "w"
    refine⟨rfl,by omega,λz x hx=>?_,e3⟩
    rw[oI ew] at hx
    rcases Ri9.mp hx with q|q
    ·exact e2 z x q
    ·rw[Qu9.mp q];exact h
  subst e0
  rw[bP,las,Rc9] at e2
  obtain⟨w0,hw0,hw1⟩:=xR g hne
  cases us with
  |nil=>exact absurd hw1 (e2 rfl w0 hw0)
  |cons u0 r=>
   obtain⟨a1,w,rfl,f1,hA⟩:=e3 u0 rfl
   intro l2 n2
   obtain⟨H2,i2,s2,g2⟩:=nw _ n2;rw[i2]
   have ix:mC (V.ref a1::r) 0=some (.ref a1):=iB (j:=0) rfl
   walk_at "w"
   exact k a1 w H2 (s1.trans s2) f1 (hA.same s2)
def xT(K:PySem.W.Frag)(C:Addr->Sp->Prop):Sp:=λvs H Q _=>∃(α:Type) (κ:PK α) (v:V) (x:α) (p0:List α) (lw f:Addr) (Ls:List (List α)) (W:Nat->α->List (Wy α)) (L:Nat->α->Prop),vs=[v,.ref lw,.ref f]/\κ.pv H v x/\aJU κ H lw Ls (λi=>wF W (Ls.length - 1 - i) i)/\Ls[0]?=some p0/\x∈p0/\aKA W Ls/\Ls.length<=10000/\aAm κ C H f W L/\
 (∀(i:Nat) ps x,Ls[i]?=some ps->i+1 < Ls.length->x∈ps->L i x)/\∀q H',aP H H'->H q=none->H' q=some (.lst ((aCl W (Ls.length - 1) 0 x).map V.int))->Q (.ref q) H'
theorem aCn{mg:Str->Option Value}{a:iR}(tx:Txt K mg a):bQ P w K mg base gE 10 a.sU a.sV ["place","worths","ways_at"] (xT K (Clo P w K mg base (8+1))):=by
 have aHl:=aFI (P:=P) (w:=w) (base:=base) tx
 refine tx.tO.ok kW (λvs H Q E h=>?_) (λcdv A outer s H vs Q E hr h=>?_)
 ·obtain⟨α,κ,v,x,p0,lw,f,Ls,W,L,rfl,_⟩:=h
  rfl
 ·obtain⟨α,κ,v,x,p0,lw,f,Ls,W,L,rfl ,hv,hds,hp0,hx0,hok,hlen,hW,hL,k⟩:=h
  have hu:=jO hr
  refine bA (aD (aJ (i:=3) kW.nd (gU aC))
   (aD (bM PassesOwn.never rfl (bO (by rfl) tx.cM (aA (aI dJ (aK (rc:=lW K) bS (by rfl) tx.eN dR (aA (Z.pv 1) aC)) aB) aC)) (aL (i:=4) kW.nd) (aD (aJ (i:=5) kW.nd (zq1 aHl hr tx.aB4 tx.xC.kp tx.aB3 (aA (aDe (P:=P) (w:=w) (K:=K) (mg:=mg) (base:=base) (i:=2) (k:=8+1) (hr.mono (by decide)) (aA (Z.pv 4) (aA (Z.pv 0) aC))) (aA (aE (K':=K) (Z.pv 1) (aI bI (Z.pv 4) aB)) aC))))
   (aD (eF (fB (K':=K) (Z.pv 3) (aA (aE (K':=K) (Z.pv 5) aB) aC)))
   (aG (aJ (i:=0) kW.nd (aE (K':=K) (Z.pv 5) aB))))))
   (aG (aM (Z.pv 3))))) ?_
  obtain⟨ds,gds,lds,hds'⟩:=hds.ex
  obtain⟨spc,hC,hp⟩:=hW.ex
  have pos:=hok.pos
  obtain⟨n,hn⟩ : ∃n,Ls.length=n+1:=⟨Ls.length - 1,by omega⟩
  refine aS (σ:=[some v,some (.ref lw),some (.ref f),none,none,none]) rfl ?_
  walk_at "w"
  intro lr nlr
  obtain⟨H1,i1,s1,g1⟩:=nw _ nlr;rw[i1]
  have gds1:=s1 _ _ gds
  walk_at "w"
  refine⟨by rw[bP];omega,by rw[bP];omega,?_⟩
  rw[show(((ds.map V.ref).length:Int) - 1).toNat=n by rw[bP,lds,hn];omega]
  refine iI (n:=n) (λi σ' H'=>aP H H'/\∃(row:List Int) (u:V) (y:α) (ps:List α) (z4 z5:Option V),σ'=[some u,some (.ref lw),some (.ref f),some (.ref lr),z4,z5]/\H' lr=some (.lst (row.map V.int))/\row.length=i/\κ.pv H' u y/\Ls[i]?=some ps/\y∈ps/\row++aCl W (n - i) i y=aCl W n 0 x)
   ⟨s1,[],v,x,p0,_,_,rfl,g1,rfl,κ.tW hv s1,hp0,hx0,rfl⟩ (λi σ' H' hi ⟨s',row,u,y,ps,z4,z5,e,gr,lr',py,eps,hy,hrow⟩=>?_) (λσ' H' ⟨s',row,u,y,ps,z4,z5,e,gr,lr',py,eps,hy,hrow⟩=>?_)
  ·subst e
   have eq:Ls[i+1]?=some Ls[i+1]:=dQ (by omega)
   have ed:ds[i+1]?=some ds[i+1]:=dQ (by omega)
   have hdd:=hds' (i+1) _ _ ed eq
   generalize ds[i+1]=dx at ed hdd
   generalize Ls[i+1]=qs at eq hdd
   obtain⟨n1,n2⟩:=hok.ne i ps y eps (by omega) hy
   have gds':=s' _ _ gds
   have ix:mC (ds.map V.ref) ((0+(i:Int))+1)=some (.ref dx):=by
    rw[show(0+(i:Int))+1=((i+1:Nat):Int) by push_cast;omega]
    exact iB (aEP ed)
   walk_at "w"
   refine aIs rfl hC ?_
   walk_at "w"
   rw[show(0+(i:Int))=(i:Int) by omega]
   refine hp H' i u y _ s' (hL i ps y eps (by omega) hy) py λl H2 s2 hws=>?_
   have gds2:=s2 _ _ gds'
   have ix2:mC (ds.map V.ref) ((i:Int)+1)=some (.ref dx):=by rw[<-ix,show(0+(i:Int))=(i:Int) by omega]
   walk_at "w"
   refine⟨α,κ,l,dx,W i y,qs,_,rfl,hws,κ.tX hdd (s'.trans s2),n1,n2,λw hw=>hok.on i ps qs y w eps eq hy hw,λa w H3 s3 fw hA=>?_⟩
   obtain⟨vv,ga,hpv⟩:=hA
   have gr3:=(s2.trans s3) _ _ gr
   have hwm:w∈W i y:=by
    unfold pA at fw
    exact Ry9 fw
   walk_at "w"
   refine oW (bV.of gr3) ?_
   walk_at "w"
   refine uG (xs:=row.map V.int) gr3 (yK (by rw[bP];omega:(row.map V.int).length < 20000) (cF (by decide))) ?_
   obtain⟨H4,i4,k4,g4⟩:=wr H3 lr _;rw[i4]
   have na:a≠lr:=λz=>by rw[z,gr3] at ga;cases ga
   have ga4:=k4 _ _ ga na
   have hpv4:κ.pv H4 vv w.2.1:=κ.aHk hpv gr3 k4
   walk_at "w"
   refine⟨λb o e=>k4 _ _ ((s'.trans (s2.trans s3)) _ _ e) (bG nlr e),row ++ [w.1],vv,w.2.1,qs,_,_,rfl,by rw[g4,rW];rfl,by rw[oU,lr'];rfl,hpv4,eq,hok.on i ps qs y w eps eq hy hwm,?_⟩
   rw[<-hrow,Tp9]
   congr 1
   obtain⟨m,hm⟩ : ∃m,n - i=m+1:=⟨n - i - 1,by omega⟩
   rw[hm,show n - (i+1)=m by omega]
   have fw':pA (wF W m (i+1)) (W i y)=some w:=by rw[<-fw,show Ls.length - 1 - (i+1)=m by omega]
   show _=(match pA (wF W m (i+1)) (W i y) with|none=>[]|some w=>w.1::aCl W m (i+1) w.2.1)
   rw[fw']
   rfl
  ·subst e
   walk_at "w"
   rw[Sa9,show aCl W 0 n y=[] from rfl,Rw9] at hrow
   refine k lr H' s' nlr ?_
   rw[gr,hrow,hn,Nat.add_sub_cancel]
def On(m:MS)(s s':Int×Int):Prop:=∃on,yC on/\(s.1=on\/s.2=0)/\s'=pG m s.1 s.2 on
def Rc(m:MS)(a:Int×Int):Nat->Int×Int->Prop
 |0,s=>s=a
 |n+1,s=>∃q,Rc m a n q/\On m q s
def sLt(a b:Int×Int):Prop:=a.1 < b.1\/(a.1=b.1/\a.2 < b.2)
def St1(m:MS)(s:Int×Int):Prop:=(s.1=1/\0<=s.2/\s.2 < m.up)\/(s.1=0/\0<=s.2/\s.2 < 60)
theorem St1.st0{m:MS}(g:m.Good){s:Int×Int}(h:St1 m s):St0 s.1 s.2:=by
 obtain⟨u0,u1⟩:=g.up
 rcases h with ⟨a,b,c⟩|⟨a,b,c⟩
 ·exact⟨.inr a,b,by omega⟩
 ·exact⟨.inl a,b,c⟩
theorem Rc.st{m:MS}(g:m.Good){a:Int×Int}(h:St1 m a):∀{n:Nat}{s:Int×Int},Rc m a n s->St0 s.1 s.2/\(s.2 < 12\/(s.1=0/\s.2=a.2 - n))
 |0,s,hs=>by
  have hs':s=a:=hs
  subst hs'
  obtain⟨u0,u1⟩:=g.up
  refine⟨h.st0 g,?_⟩
  rcases h with ⟨x,y,z⟩|⟨x,y,z⟩
  ·exact .inl (by omega)
  ·exact .inr ⟨x,by omega⟩
 |n+1,s,hs=>by
  obtain⟨q,hq,on,bon,may,rfl⟩:=hs
  obtain⟨i1,i2⟩:=Rc.st g h hq
  obtain⟨u0,u1⟩:=g.up
  obtain⟨d0,d1⟩:=g.down
  refine⟨i1.pG g bon,?_⟩
  unfold My.pG
  by_cases e:q.1=on
  ·rw[if_pos e]
   rcases i2 with i2|⟨i2,i3⟩
   ·exact .inl (by show max (q.2 - 1) 0 < 12;omega)
   ·by_cases z:q.2 - 1 < 12
    ·exact .inl (by show max (q.2 - 1) 0 < 12;omega)
    ·refine .inr ⟨by show on=0;omega,?_⟩
     show max (q.2 - 1) 0=a.2 - ((n+1:Nat):Int)
     omega
  ·rw[if_neg e]
   split
   ·exact .inl (by show m.up - 1 < 12;omega)
   ·exact .inl (by show m.down - 1 < 12;omega)
theorem Rc.few{m:MS}(g:m.Good){a:Int×Int}(h:St1 m a){n:Nat}{ks:List (Int×Int)}(nd:ks.Nodup)(hr:∀k∈ks,Rc m a n k):ks.length<=25:=by
 have:=aNp 25 (ks.map λk=>if k.2 < 12 then (k.1*12+k.2).toNat else 24) (by
  rw[List.Nodup,Sy9]
  refine nd.imp_of_mem ?_
  intro x y hx hy hxy z
  obtain⟨⟨a1,a2,a3⟩,a4⟩:=Rc.st g h (hr x hx)
  obtain⟨⟨b1,b2,b3⟩,b4⟩:=Rc.st g h (hr y hy)
  refine hxy ?_
  by_cases c1:x.2 < 12 <;> by_cases c2:y.2 < 12
  ·rw[if_pos c1,if_pos c2] at z
   refine Prod.ext ?_ ?_
   ·rcases a1 with a1|a1 <;> rcases b1 with b1|b1 <;> rw[a1,b1] <;> rw[a1,b1] at z <;> omega
   ·rcases a1 with a1|a1 <;> rcases b1 with b1|b1 <;> rw[a1,b1] at z <;> omega
  ·rw[if_pos c1,if_neg c2] at z
   rcases a1 with a1|a1 <;> rw[a1] at z <;> omega
  ·rw[if_neg c1,if_pos c2] at z
   rcases b1 with b1|b1 <;> rw[b1] at z <;> omega
  ·rcases a4 with a4|⟨a4,a5⟩
   ·omega
   ·rcases b4 with b4|⟨b4,b5⟩
    ·omega
    ·exact Prod.ext (by omega) (by omega)) (λx hx=>by
  obtain⟨k,hk,rfl⟩:=xX.mp hx
  obtain⟨⟨a1,a2,a3⟩,a4⟩:=Rc.st g h (hr k hk)
  split
  ·rcases a1 with a1|a1 <;> rw[a1] <;> omega
  ·omega)
 simpa using this
structure aNr(m:MS)(a:Int×Int)(Ls:List (List (Int×Int))):Prop where
 at_:∀(i:Nat) ps,Ls[i]?=some ps->ps.Pairwise sLt/\∀s,s∈ps↔Rc m a i s
theorem aNs{ps:List (Int×Int)}(h:ps.Pairwise sLt):ps.Nodup:=h.imp λ{a b} hab z=>by
 subst z
 rcases hab with y|⟨_,y⟩ <;> omega
def gnT(m:MS)(p:Int):Int:=p*m.least+gn p m.pieces
def aQ7(m:MS)(s:Int×Int)(on:Int):Int:=aLx m s.1 [on]
def hw(m:MS)(p:Int)(s:Int×Int)(on:Int):Int:=aQ7 m s on - on*gnT m p
def aHm(s:Int×Int)(on:Int):Bool:=decide (s.1=on) || decide (s.2=0)
def rwy(m:MS)(p:Int)(s:Int×Int):List (Wy (Int×Int)):=(([0,1]:List Int).filter (aHm s)).map λon=>(on,pG m s.1 s.2 on,hw m p s on)
def Wr(m:MS)(ps:List Int)(i:Nat)(s:Int×Int):List (Wy (Int×Int)):=rwy m (ps.getD i 0) s
theorem aCo{s:Int×Int}{on:Int}:aHm s on=true↔s.1=on\/s.2=0:=by unfold aHm;simp
theorem aHn{p:Int}{s:Int×Int}{w:Wy (Int×Int)}:w∈rwy m p s↔∃on,yC on/\(s.1=on\/s.2=0)/\w=(on,pG m s.1 s.2 on,hw m p s on):=by
 unfold rwy
 rw[xX]
 constructor
 ·rintro ⟨on,h,rfl⟩
  obtain⟨h1,h2⟩:=Sn9.mp h
  exact⟨on,by simpa [yC] using h1,aCo.mp h2,rfl⟩
 ·rintro ⟨on,b,h,rfl⟩
  exact⟨on,Sn9.mpr ⟨by simpa [yC] using b,aCo.mpr h⟩,rfl⟩
theorem aQ8{p:Int}{s:Int×Int}(b:yC s.1):rwy m p s≠[]:=λz=>by
 have:_∈rwy m p s:=aHn.mpr ⟨s.1,b,.inl rfl,rfl⟩
 rw[z] at this
 cases this
theorem aKC(m:MS)(p:Int)(s:Int×Int):(rwy m p s).length<=2:=by
 unfold rwy
 rw[bP]
 exact List.length_filter_le ..
theorem aKD{m:MS}(g:m.Good){a:Int×Int}(h:St1 m a)(qs:List Int){Ls:List (List (Int×Int))}(pos:0 < Ls.length)(hl:aNr m a Ls):aKA (Wr m qs) Ls where
 pos:=pos
 nd:=λps hp=>by
  obtain⟨i,hi⟩:=Rk9 hp
  exact aNs (hl.at_ i ps hi).1
 few:=λps hp=>by
  obtain⟨i,hi⟩:=Rk9 hp
  obtain⟨h1,h2⟩:=hl.at_ i ps hi
  exact Rp9 (Rc.few g h (aNs h1) λk hk=>(h2 k).mp hk) (by decide)
 ne:=λi ps x hi _ hx=>by
  have:=((Rc.st g h (((hl.at_ i ps hi).2 x).mp hx)).1).1
  exact⟨aQ8 this,Rp9 (aKC ..) (by decide)⟩
 on:=λi ps rs x w hi hj hx hw=>by
  obtain⟨on,b,may,rfl⟩:=aHn.mp hw
  exact((hl.at_ (i+1) rs hj).2 _).mpr ⟨x,((hl.at_ i ps hi).2 x).mp hx,on,b,may,rfl⟩
def rwF(m:MS)(qs:List Int)(a:Int×Int):Int:=wF (Wr m qs) qs.length 0 a
def rrF(m:MS)(qs:List Int)(a:Int×Int):List Int:=aCl (Wr m qs) qs.length 0 a
def κS:PK (Int×Int):=.tk uY λ_ _ h=>aCk h
theorem cV.aSj(h:cV C H q m)(e:H w=some (.dT kvs)):cV C (del w H) q m:=by
 obtain⟨dx,pl,h1,h2⟩:=h.ex
 obtain⟨qs,h3,h4⟩:=h2.ex
 refine⟨dx,pl,oQ h1 (λz=>by rw[z,e] at h1;cases h1),qs,oQ h3 (λz=>by rw[z,e] at h3;cases h3),h4.len,λj a t h5 h6=>?_⟩
 have h7:=h4.at_ j a t h5 h6
 exact oQ h7 (λz=>by rw[z,e] at h7;cases h7)
theorem aO5(x:Option Int):(x.map V.int).getD (.int 0)=.int (x.getD 0):=by cases x <;> rfl
theorem aQ9{ps:List WP}{i:Nat}(h:(enc ps)[i]?=some kv):∃p,ps[i]?=some p/\kv=(uY p.1,V.int p.2):=by
 unfold enc at h
 rw[oR] at h
 obtain⟨p,hp,e⟩:=Qp9.mp h
 exact⟨p,hp,e.symm⟩
theorem aKE(ps:List WP):(enc ps).length=ps.length:=by unfold enc;rw[bP]
theorem aLz{ps:List WP}{k s:Int×Int}{v:Int}:s∈(addW ps k v).map (·.1)↔s∈ps.map (·.1)\/s=k:=by
 unfold addW
 by_cases h:ps.any (λp=>decide (p.1=k))=true
 ·rw[if_pos h,Rq9]
  have e:((λp:WP=>p.1) ∘ λp:WP=>if p.1=k then (p.1,v) else p)=λp=>p.1:=by
   funext p
   show(if p.1=k then (p.1,v) else p).1=p.1
   split <;> rfl
  rw[e]
  refine⟨.inl,λz=>?_⟩
  rcases z with z|z
  ·exact z
  ·obtain⟨p,hp,e⟩:=Sr9.mp h
   rw[z]
   exact xX.mpr ⟨p,hp,of_decide_eq_true e⟩
 ·rw[if_neg h,rW,Ri9]
  simp
def aER(K:W.Frag)(C:Addr):Sp:=λvs H Q _=>∃(q:Addr) (m:MS) (w:Addr) (ps:List WP),vs=[.ref q,.ref w]/\cV C H q m/\m.Good/\H w=some (.dT (enc ps))/\aFG ps/\
 ∀w' ps' H',aP (del w H) H'->H w'=none->H' w'=some (.dT (enc ps'))->aFG ps'->(∀s,s∈ps'.map (·.1)↔∃q∈ps.map (·.1),On m q s)->Q (.ref w') H'
theorem aES{mg:Str->Option Value}{a:iR}(tx:Txt K mg a):bQ P w K mg base gE 3 a.nF a.nG ["machine","ways"] (aER K a.bD):=by
 have rS:=aAC (P:=P) (w:=w) (base:=base) tx
 have jT:=rR (P:=P) (w:=w) (base:=base) tx
 refine tx.uJ.ok fW (λvs H Q E h=>?_) (λcdv A outer s H vs Q E hr h=>?_)
 ·obtain⟨q,m,w,ps,rfl,_⟩:=h
  rfl
 ·obtain⟨q,m,w,ps,rfl ,hm,hg,gw,hW,k⟩:=h
  have hu:=jO hr
  refine bA (aD (aJ (i:=2) fW.nd y7)
   (aD (bM PassesOwn.never rfl (aIp (Z.pv 1)) (cC (K':=K) (n:=2) rfl (aV (aL (i:=3) fW.nd) (aV (aL (i:=4) fW.nd) cB))) (aG (bM PassesOwn.never rfl (aBj (K':=K) (eW aB aB)) (aL (i:=5) fW.nd) (aG (bH (fP (zq1 rS hr tx.zK tx.vH.kp tx.zJ (aA (Z.pv 0) (aA (Z.pv 3) (aA (Z.pv 5) aC))))) (aD (aJ (i:=6) fW.nd (zq1 jT hr tx.oB tx.jS.kp tx.oA (aA (Z.pv 0) (aA (Z.pv 3) (aA (Z.pv 5) aC)))))
   (aG (aBl hu (Z.pv 2) (Z.pv 6) (aI bI (aIr hu (Z.pv 2) (Z.pv 6) aB) (Z.pv 4))))) bC)))))
   (aG (aM (Z.pv 2))))) ?_
  have hmD:=hm.aSj gw
  refine aS (σ:=[some (.ref q),some (.ref w),none,none,none,none,none]) rfl ?_
  walk_at "w"
  refine aGl ?_
  intro l nl
  obtain⟨H1,i1,s1,g1⟩:=nw _ nl;rw[i1]
  have gw1:=s1 _ _ gw
  have lw:l≠w:=λz=>by rw[z,gw] at nl;cases nl
  have nlD:del w H l=none:=by rw[aBw lw];exact nl
  walk_at "w"
  refine aRU gw1 λob=>?_
  obtain⟨H2,i2,k2,g2⟩:=wr H1 w _;rw[i2]
  have g12:=k2 _ _ g1 lw
  have S2:aP (del w H) H2:=λb o e=>k2 _ _ (s1 _ _ (aAi _ _ e)) (λz=>by rw[z,aGr] at e;cases e)
  refine aMX (kvs:=enc ps) (λi σ' H'=>∃(ps':List WP) (z3 z4 z5 z6:Option V),σ'=[some (.ref q),some (.ref w),some (.ref l),z3,z4,z5,z6]/\H' l=some (.dT (enc ps'))/\aFG ps'/\(∀s,s∈ps'.map (·.1)↔∃q∈(ps.take i).map (·.1),On m q s)/\aP (del w H) H'/\H' w=some (.frz ob (.dT (enc ps))))
   ⟨[],_,_,_,_,rfl,g12,⟨List.nodup_nil,λp hp=>by cases hp⟩,λs=>⟨(λh=>by cases h),(λ⟨q,h,_⟩=>by simp at h)⟩,S2,g2⟩ (λi σ' H' hi ⟨_,_,_,_,_,_,_,_,_,_,h⟩=>h) (λi kv σ' H' T b hk ⟨ps',z3,z4,z5,z6,e,gl,hW',hs,S',gw'⟩ nT gb=>?_) (λσ' H' ⟨ps',z3,z4,z5,z6,e,gl,hW',hs,S',gw'⟩=>?_)
  ·subst e
   obtain⟨p,ep,rfl⟩:=aQ9 hk
   have hst:=hW.st p (oS ep)
   have gb0:H' b=some (.tup [.int p.1.1,.int p.1.2]):=gb
   obtain⟨H3,i3,s3,gT⟩:=nw _ nT;rw[i3]
   refine eM (kQ.of gT) rfl ?_
   walk_at "w"
   intro Tu nTu
   obtain⟨H4,i4,s4,gTu⟩:=nw _ nTu;rw[i4]
   have gl4:=(s3.trans s4) _ _ gl
   have gb4:=(s3.trans s4) _ _ gb0
   have gw4:=(s3.trans s4) _ _ gw'
   have S4:=S'.trans (s3.trans s4)
   have Tul:Tu≠l:=λz=>by rw[z,gl4] at gTu;cases gTu
   have bl:b≠l:=λz=>by rw[z,gl4] at gb4;cases gb4
   walk_at "w"
   refine aMG (kQ.of gTu) ?_
   refine aMA (xs:=([0,1]:List Int).map V.int) (λj σ' H'=>∃(ps':List WP) (z5 z6:Option V),σ'=[some (.ref q),some (.ref w),some (.ref l),some (.ref b),some (.int p.2),z5,z6]/\H' l=some (.dT (enc ps'))/\aFG ps'/\(∀s,s∈ps'.map (·.1)↔(∃q∈(ps.take i).map (·.1),On m q s)\/∃on∈([0,1]:List Int).take j,(p.1.1=on\/p.1.2=0)/\s=pG m p.1.1 p.1.2 on)/\aP (del w H) H'/\cA l H4 H')
    ⟨ps',_,_,rfl,gl4,hW',λs=>by rw[hs s];simp,S4,λ_ _ e _=>e⟩ (λj σ' H' hj ⟨_,_,_,_,_,_,_,_,h⟩=>kQ.of (h _ _ gTu Tul)) (λj v σ' H5 hv ⟨ps',z5,z6,e,gl5,hW5,hs5,S5,k5⟩=>?_) (λσ' H5 ⟨ps',z5,z6,e,gl5,hW5,hs5,S5,k5⟩=>?_)
   ·subst e
    obtain⟨on,eon,rfl⟩:=aAD hv
    have bon:yC on:=by
     have:=oS eon
     simp at this
     exact this
    have gb5:=k5 _ _ gb4 bl
    have tk:([0,1]:List Int).take (j+1)=([0,1]:List Int).take j ++ [on]:=by rw[Rr9,eon];rfl
    walk_at "w"
    refine⟨_,b,_,_,on,rfl,gb5,?_⟩
    by_cases hmay:p.1.1=on\/p.1.2=0
    ·rw[show(decide (p.1.1=on) || decide (p.1.2=0))=true by simpa using hmay]
     walk_at "w"
     refine⟨q,m,b,_,_,on,rfl,hmD.same S5,gb5,hmay,λT2 H6 s6 nT2 gT2=>?_⟩
     have gl6:=s6 _ _ gl5
     have gk:H6 T2=some (.tup ((uY (pG m p.1.1 p.1.2 on)).map kV)):=gT2
     have hle:=hW5.len
     walk_at "w"
     refine⟨l,rfl,.inr ⟨_,.inl gl6⟩,?_⟩
     walk_at "w"
     refine⟨_,yT.t gl6 gk,?_⟩
     rw[aO1,aO5]
     walk_at "w"
     refine⟨l,_,rfl,aEa.t gl6 gk (yK (by rw[aKE];omega:(enc ps').length < 1000) (cF (by decide))),?_⟩
     rw[aO2]
     obtain⟨H7,i7,k7,g7⟩:=wr H6 l _;rw[i7]
     walk_at "w"
     refine⟨_,_,_,rfl,g7,hW5.add (hst.pG hg bon) p.2,λs=>?_,λb o e=>k7 _ _ ((S5.trans s6) _ _ e) (bG nlD e),k5.trans (s6.keep.trans k7)⟩
     rw[aLz,hs5 s,tk]
     constructor
     ·rintro ((h|⟨on',h1,h2⟩)|h)
      ·exact .inl h
      ·exact .inr ⟨on',Rx9 _ h1,h2⟩
      ·exact .inr ⟨on,Qy9 _ (.head _),hmay,h⟩
     ·rintro (h|⟨on',h1,h2,h3⟩)
      ·exact .inl (.inl h)
      ·rcases Ri9.mp h1 with z|z
       ·exact .inl (.inr ⟨on',z,h2,h3⟩)
       ·rw[Qu9.mp z] at h3;exact .inr h3
    ·rw[show(decide (p.1.1=on) || decide (p.1.2=0))=false by simpa using hmay]
     walk_at "w"
     refine⟨ps',_,_,rfl,gl5,hW5,λs=>?_,S5,k5⟩
     rw[hs5 s,tk]
     constructor
     ·rintro (h|⟨on',h1,h2⟩)
      ·exact .inl h
      ·exact .inr ⟨on',Rx9 _ h1,h2⟩
     ·rintro (h|⟨on',h1,h2,h3⟩)
      ·exact .inl h
      ·rcases Ri9.mp h1 with z|z
       ·exact .inr ⟨on',z,h2,h3⟩
       ·rw[Qu9.mp z] at h2;exact absurd h2 hmay
   ·subst e
    refine⟨ps',_,_,_,_,rfl,gl5,hW5,λs=>?_,S5,k5 _ _ gw4 (Ne.symm lw)⟩
    rw[hs5 s,take_snoc ep,rW]
    constructor
    ·rintro (⟨q,h1,h2⟩|⟨on',h1,h2,h3⟩)
     ·exact⟨q,Rx9 _ h1,h2⟩
     ·exact⟨p.1,Qy9 _ (.head _),on',by simpa [yC] using h1,h2,h3⟩
    ·rintro ⟨q,h1,on',b1,h2,h3⟩
     rcases Ri9.mp h1 with z|z
     ·exact .inl ⟨q,z,on',b1,h2,h3⟩
     ·rw[show q=p.1 by simpa using z] at h2 h3
      exact .inr ⟨on',by rcases b1 with rfl|rfl <;> simp,h2,h3⟩
  ·subst e
   walk_at "w"
   refine k l ps' H' S' nl gl hW' λs=>?_
   rw[hs s,aKE,Rc9]
def aDP(K:W.Frag)(C:Addr):Sp:=λvs H Q _=>∃(p:Addr) (ms:List MS),vs=[.ref p]/\tU C H p ms/\ms.length<=6/\∀H',aP H H'->Q (.bl true) H'
theorem aDQ{mg:Str->Option Value}{a:iR}(tx:Txt K mg a):bQ P w K mg base gE 1 a.lJ a.lK ["thing"] (aDP K a.bD):=by
 refine tx.rD.ok aDE (λvs H Q E h=>?_) (λcdv A outer s H vs Q E hr h=>?_)
 ·obtain⟨p,ms,rfl,_⟩:=h
  rfl
 ·obtain⟨p,ms,rfl ,hp,hl,k⟩:=h
  have hu:=jO hr
  refine bA (aD (bH (iJ (aEh (iS (fP (aK (rc:=aGH K) mF (by rfl) tx.cS fA (aA (Z.pv 0) (aA (qT (v:=.ty "list") (by rfl) tx.mY rZ rfl) aC))))) (aCL (aZ aBG (aK (rc:=lW K) bS (by rfl) tx.eN dR (aA (Z.pv 0) aC)) (vX (n:=6) (by rfl) tx.eT) (bK _))))) (aG (aM vB)) bC)
   (aG (aM (aK (rc:=aMH K) (aCI rfl) (by rfl) tx.aDx aJn (aA (cO (k:=1) (idx:=[]) (N:=["machine"]) (cR (sc:=aH eG) (NX:=["thing"]) rfl rfl rfl (by decide +kernel)) rfl (bT (K':=K) (Z.pv 0)) (λ_ _ _ _=>(aL (i:=0) (show(["machine"]:List Str).Nodup by decide +kernel))) (cY (by decide)) (λ_ _ _ _=>bR) (λ_ _ _ _=>(aK (rc:=aGH K) mF (by rfl) tx.cS fA (aA (Z.pv 0) (aA (aEg (v:=.ref a.bD) (by rfl) tx.aCR rfl) aC))))) aC))))) ?_
  obtain⟨qs,h1,h2⟩:=hp.ex
  have hql:qs.length<=6:=by rw[h2.len];exact hl
  refine aS (σ:=[some (.ref p)]) rfl ?_
  walk_at "w"
  refine aBh (aIx (.lst h1)) ?_
  walk_at "w"
  refine kS (λh=>by simp at h) (λ_=>?_)
  walk_at "w"
  refine cD (λh=>by rw[bP] at h;omega) (λ_=>?_)
  walk_at "w"
  refine kU (bV.of h1) ?_
  refine aCG (λ_=>.bl true) (bV.of h1) (cF (by rw[bP];omega)) (λx N N' hxm hN=>?_) ?_
  ·obtain⟨i,hi⟩:=Rk9 hxm
   obtain⟨q,m,_,rfl,_,hm⟩:=h2.get hi
   obtain⟨dx,pl,hx,_⟩:=hm.ex
   walk_at "w"
   refine aBh (aKi tx.i_Machine tx.cW hx) ?_
   exact hN
  ·intro l1 n1
   walk_at "w"
   refine aGJ (bV.of aN) (λx hx=>by obtain⟨_,_,rfl⟩:=xX.mp hx;rfl) ?_
   exact k _ (aP.new n1)
def aFJ(K:PySem.W.Frag)(CW CM CS:Addr):Sp:=λvs H Q _=>∃(x dx lm:Addr) (st:V) (W:WS),vs=[.ref x,.ref lm,st,.int W.lack]/\H x=some (.ins CW dx [])/\tU CM H lm W.specs/\aLv CS H st W.store/\W.specs.length<=6/\Am W.lack/\
 ∀H',tV CW CM CS H' x W->cA x H H'->Q .non H'
theorem aFK{mg:Str->Option Value}{a:iR}(tx:Txt K mg a):bQ P w K mg base gE 3 a.pX a.pY ["self","machines","store","lack"] (aFJ K a.fM a.bD a.cL):=by
 have aET:=aDQ (P:=P) (w:=w) (base:=base) tx
 have dI:=qO (P:=P) (w:=w) (base:=base) tx
 refine tx.aB5.ok m6 (λvs H Q E h=>?_) (λcdv A outer s H vs Q E hr h=>?_)
 ·obtain⟨x,dx,lm,st,W,rfl,_⟩:=h
  rfl
 ·obtain⟨x,dx,lm,st,W,rfl ,hx,hm,hs,hl,ha,k⟩:=h
  have hu:=jO hr
  refine bA (aD (aJ (i:=4) m6.nd (aIe (j7 aCJ (Z.pv 2) eR (bK _)) (mG (aK (rc:=aGH K) mF (by rfl) tx.cS fA (aA (Z.pv 2) (aA (aEg (v:=.ref a.cL) (by rfl) tx.aG2 rfl) aC))))))
   (aD (bM PassesOwn.never rfl (oN (K':=K) (by rfl) tx.d7 (aA (aAx (zq1 aET hr tx.zU tx.rD.kp tx.zT (aA (Z.pv 1) aC)) (Z.pv 4) (zq1 dI hr tx.dZ tx.dO.kp tx.dY (aA (Z.pv 3) aC))) aC)) (cC (K':=K) (n:=2) rfl (aV (aL (i:=5) m6.nd) (aV (aL (i:=6) m6.nd) cB))) (aG (bH (iS (fP (Z.pv 6))) (aG oM) bC)))
   (aD (cU (K':=K) (Z.pv 0) (bX (rc:=aBM K) aBi (by rfl) tx.mY rZ (aA (Z.pv 1) aC)) rfl)
   (aD (cU (K':=K) (Z.pv 0) (Z.pv 2) rfl)
   (aG (cU (K':=K) (Z.pv 0) (Z.pv 3) rfl)))))) ?_
  refine aS (σ:=[some (.ref x),some (.ref lm),some st,some (.int W.lack),none,none,none]) rfl ?_
  refine iD (λσ' H'=>σ'=[some (.ref x),some (.ref lm),some st,some (.int W.lack),some (.bl true),none,none]/\H'=H) (λN hN=>?_) ?_
  ·cases e:W.store with
   |none=>
    rw[e] at hs
    replace hs:st=.non:=hs
    subst hs
    walk_at "w"
    exact hN _ _ ⟨rfl,rfl⟩
   |some s=>
    rw[e] at hs
    obtain⟨b,rfl,hb⟩:=hs
    obtain⟨db,hb'⟩:=hb.ex
    walk_at "w"
    refine aBh (aKi tx.i_Store tx.jX hb') ?_
    walk_at "w"
    exact hN _ _ ⟨rfl,rfl⟩
  rintro σ' H' ⟨rfl,rfl⟩
  walk_at "w"
  refine⟨lm,W.specs,rfl,hm,hl,λH1 s1=>?_⟩
  walk_at "w"
  refine⟨_,_,rfl,.int _,?_⟩
  rw[xP ha]
  walk_at "w"
  intro l1 n1
  walk_at "w"
  have s2:=s1.trans (aP.new (o:=.lst [.bl true,.bl true,.bl true]) n1)
  have e2:(upd H1 l1 (.lst [.bl true,.bl true,.bl true])) l1=some (.lst [.bl true,.bl true,.bl true]):=aN
  generalize upd H1 l1 (.lst [.bl true,.bl true,.bl true])=H2 at s2 e2 ⊢
  refine aIa (bV.of e2) ?_
  refine aBN (xs:=[.bl true,.bl true,.bl true]) (λi σ' H3=>∃y z,σ'=[some (.ref x),some (.ref lm),some st,some (.int W.lack),some (.bl true),y,z]/\aP H2 H3)
   ⟨_,_,rfl,aP.refl _⟩ (λi σ' H3 hi ⟨y,z,e,s⟩=>bV.of (s _ _ e2)) (λi v σ' H3 T hv ⟨y,z,e,s⟩ nT=>?_) (λσ' H3 ⟨y,z,e,s⟩=>?_)
  ·subst e
   have ev:v=.bl true:=by
    have:=oS hv
    simpa using this
   subst ev
   refine eM (kQ.of aN) rfl ?_
   walk_at "w"
   exact⟨_,_,rfl,s.trans (aP.new nT)⟩
  ·subst e
   have sH:aP H' H3:=s2.trans s
   have hx':=sH _ _ hx
   obtain⟨qs,p1,p2⟩:=(hm.tr sH.tr).ex
   walk_at "w"
   refine aEd (ys:=qs.map V.ref) (bV.of p1) ?_
   intro l9 n9
   have s9:=aP.new (o:=.lst (qs.map V.ref)) n9
   have x9:=s9 _ _ hx'
   walk_at "w"
   refine jZ (fs':=[("machines",.ref l9)]) x9 tx.xO tx.mX (by simp) rfl ?_
   walk_at "w"
   refine jZ (fs':=[("machines",.ref l9),("store",st)]) aN tx.xO tx.oF (by simp) rfl ?_
   rw[kP]
   walk_at "w"
   refine jZ (fs':=wFs l9 st W.lack) aN tx.xO tx.aCf (by simp) rfl ?_
   rw[kP]
   walk_at "w"
   have kx:cA x (upd H3 l9 (.lst (qs.map V.ref))) (upd (upd H3 l9 (.lst (qs.map V.ref))) x (.ins a.fM dx (wFs l9 st W.lack))):=cA.upd
   have t9:Tr H3 (upd (upd H3 l9 (.lst (qs.map V.ref))) x (.ins a.fM dx (wFs l9 st W.lack))):=s9.tr.trans (aNn x9 kx)
   have l9x:l9≠x:=Ne.symm (bG n9 hx')
   refine k _ ⟨dx,l9,st,aN,⟨qs,kx _ _ aN l9x,p2.imp λ_ _ z=>z.tr t9⟩,hs.tr (sH.tr.trans t9)⟩ (λb o e nb=>kx _ _ (s9 _ _ (sH _ _ e)) nb)
def aFL(K:W.Frag):Sp:=λvs H Q _=>∃(p b:Addr) (x y:Int),vs=[.ref p,.ref b]/\bE H p/\H b=some (.lst [.int x,.int y])/\1<=x/\x<=50000000000/\
 ∀v (o:Option SS) H',aHg H' v o->(∀s,o=some s->s.Good)->(∀c,v=.ref c->H c=none)->bE H' p->cA p H H'->gA p H H'->Q v H'
theorem aFM{mg:Str->Option Value}{a:iR}(tx:Txt K mg a):bQ P w K mg base gE 2 a.pZ a.p9 ["_law_hand","_law_by"] (aFL K):=by
 have aO:=cN (P:=P) (w:=w) (base:=base) tx
 refine tx.xD.ok m7 (λvs H Q E h=>?_) (λcdv A outer s H vs Q E hr h=>?_)
 ·obtain⟨p,b,x,y,rfl,_⟩:=h
  rfl
 ·obtain⟨p,b,x,y,rfl ,hh,hb,x0,x1,k⟩:=h
  have hu:=jO hr
  refine bA (aD (bH (aZ (r:=oV K) (eE hu) (zq1 aO hr tx.aU tx.aQ.kp tx.aT (aA (Z.pv 0) (aA aB aC))) aB (bK _)) (aG (aM eR)) bC)
   (aD (aJ (i:=2) m7.nd (aI bN (aE (K':=K) (Z.pv 1) aB) (zq1 aO hr tx.aU tx.aQ.kp tx.aT (aA (Z.pv 0) (aA aB aC)))))
   (aD (aJ (i:=3) m7.nd (aI bI (Z.pv 2) (aI bN (aE (K':=K) (Z.pv 1) aB) (zq1 aO hr tx.aU tx.aQ.kp tx.aT (aA (Z.pv 0) (aA aB aC))))))
   (aD (bH (aZ (r:=oV K) (eE hu) (zq1 aO hr tx.aU tx.aQ.kp tx.aT (aA (Z.pv 0) (aA aB aC))) aB (bK _)) (aG (aLf (i:=3) (j:=2) rfl m7.nd rfl rfl (by decide) rfl rfl (aA (Z.pv 2) (aA (Z.pv 3) aC)))) bC)
   (aG (aM (aKf (zq1 aO hr tx.aU tx.aQ.kp tx.aT (aA (Z.pv 0) (aA aB aC))) (zq1 aO hr tx.aU tx.aQ.kp tx.aT (aA (Z.pv 0) (aA aB aC))) (zq1 aO hr tx.aU tx.aQ.kp tx.aT (aA (Z.pv 0) (aA aB aC))) (Z.pv 3) (Z.pv 2)))))))) ?_
  have bp:b≠p:=hh.aG8 hb (by simp)
  refine aS (σ:=[some (.ref p),some (.ref b),none,none]) rfl ?_
  walk_at "w"
  refine⟨p,_,rfl,hh,by decide,by decide,λr1 H1 a1 b1 h1 k1 q1=>?_⟩
  have hb1:=k1 _ _ hb bp
  walk_at "w"
  refine cD (λh=>?_) (λh=>?_)
  ·walk_at "w"
   exact k _ none _ rfl (λs e=>by cases e) (λc e=>by cases e) h1 k1 q1
  ·walk_at "w"
   refine⟨p,_,rfl,h1,by decide,by decide,λr2 H2 a2 b2 h2 k2 q2=>?_⟩
   have hb2:=k2 _ _ hb1 bp
   walk_at "w"
   refine⟨p,_,rfl,h2,by decide,by decide,λr3 H3 a3 b3 h3 k3 q3=>?_⟩
   have g2:0<=x*r2/\x*r2<=150000000000:=aID x0 x1 a2 b2 (by decide)
   have g3:0<=x*r3/\x*r3<=50000000000:=aID x0 x1 a3 b3 (by decide)
   repeat walk_at "st"
   refine iD (λσ' H'=>∃g t:Int,σ'=[some (.ref p),some (.ref b),some (.int g),some (.int t)]/\Am g/\Am t/\bE H' p/\cA p H H'/\gA p H H') (λN hN=>?_) ?_
   ·walk_at "w"
    refine⟨p,_,rfl,h3,by decide,by decide,λr4 H4 a4 b4 h4 k4 q4=>?_⟩
    walk_at "w"
    refine cD (λh=>?_) (λh=>?_)
    ·walk_at "w"
     refine⟨_,_,rfl,?_⟩
     exact hN _ _ ⟨_,_,rfl,⟨by omega,by omega⟩,⟨by omega,by omega⟩,h4,k1.trans (k2.trans (k3.trans k4)),q1.trans (q2.trans (q3.trans q4))⟩
    ·walk_at "w"
     exact hN _ _ ⟨_,_,rfl,⟨by omega,by omega⟩,⟨by omega,by omega⟩,h4,k1.trans (k2.trans (k3.trans k4)),q1.trans (q2.trans (q3.trans q4))⟩
   ·rintro σ' H4 ⟨g,t,rfl,hg,ht,h4,k4,q4⟩
    walk_at "w"
    refine⟨p,_,rfl,h4,by decide,by decide,λr5 H5 a5 b5 h5 k5 q5=>?_⟩
    walk_at "w"
    refine⟨p,_,rfl,h5,by decide,by decide,λr6 H6 a6 b6 h6 k6 q6=>?_⟩
    walk_at "w"
    refine⟨p,_,rfl,h6,by decide,by decide,λr7 H7 a7 b7 h7 k7 q7=>?_⟩
    walk_at "w"
    intro c nc
    have kk:=k4.trans (k5.trans (k6.trans k7))
    have qq:=q4.trans (q5.trans (q6.trans q7))
    refine k (.ref c) (some ⟨r5,r6,r7,t,g⟩) _ ⟨c,rfl,⟨aN⟩⟩ (λs e=>?_) (λc' e=>by cases e;exact oP kk h7 nc) (h7.same (aP.new nc)) (kk.trans (aP.new nc).keep) (qq.trans (gA.of (aP.new nc p)))
    cases e
    exact⟨⟨a5,by show r5<=8;omega⟩,⟨a6,by show r6<=8;omega⟩,⟨a7,by show r7<=8;omega⟩,ht,hg⟩
def lvO:Option SS->Int->List Int
 |none,_=>[0]
 |some s,l=>upL (max 0 (l - s.out)) (min s.cap (l+s.into)+1 - max 0 (l - s.out)).toNat
def aEU(K:W.Frag):Sp:=λvs H Q _=>∃(v:V) (o:Option SS) (l:Int),vs=[v,.int l]/\aHg H v o/\(∀s,o=some s->s.Good/\0<=l/\l<=s.cap)/\∀q H',aP H H'->H q=none->H' q=some (.lst ((lvO o l).map V.int))->Q (.ref q) H'
theorem aEV{P:Program}{w:World}{K:PySem.W.Frag}{mg:Str->Option Value}{base:Heap}{a:iR}(tx:Txt K mg a):bQ P w K mg base gE 1 a.nH a.nI ["_law_store_here","_law_level"] (aEU K):=by
 refine tx.uK.ok aEx (λvs H Q E h=>?_) (λcdv A outer s H vs Q E hr h=>?_)
 ·obtain⟨v,o,l,rfl,_⟩:=h
  rfl
 ·obtain⟨v,o,l,rfl ,hv,hg,k⟩:=h
  have hu:=jO hr
  refine bA (aD (bH (aZ aCJ (Z.pv 0) eR (bK _)) (aG (aM (sC aB))) bC)
   (aG (aM (bX (rc:=aGL) (aEf rfl) (by rfl) tx.mY rZ (aA (bX (rc:=aOG) aGe (by rfl) tx.cM aH7 (aA (aK (eQ rfl) (by rfl) tx.lY mD (aA aB (aA (aI dJ (Z.pv 1) (aE (K':=K) (Z.pv 0) aB)) aC))) (aA (aI bI (aK (mE rfl) (by rfl) tx.vQ yX (aA (aE (K':=K) (Z.pv 0) aB) (aA (aI bI (Z.pv 1) (aE (K':=K) (Z.pv 0) aB)) aC))) aB) aC))) aC))))) ?_
  refine aS (σ:=[some v,some (.int l)]) rfl ?_
  cases o with
  |none=>
   replace hv:v=.non:=hv
   subst hv
   walk_at "w"
   intro q nq
   walk_at "w"
   exact k q _ (aP.new nq) nq aN
  |some s=>
   obtain⟨b,rfl,hb⟩:=hv
   obtain⟨gs,l0,l1⟩:=hg s rfl
   obtain⟨c0,c1⟩:=gs.cap
   obtain⟨i0,i1⟩:=gs.into
   obtain⟨o0,o1⟩:=gs.out
   have e1:=hb.at_
   walk_at "w"
   intro p np
   walk_at "w"
   refine aIc aN (by omega) (by omega) ?_
   intro q nq
   exact k q _ ((aP.new np).trans (aP.new nq)) ((aP.new np).free nq) aN
theorem aIP{l:Addr}{H H2:Hp}(h:H l=none)(s:aP H H2):aP H (del l H2):=λb o e=>by rw[aBw (bG h e)];exact s b o e
theorem aJV{α:Type}{l:List α}{x:α}(h:l.Nodup)(n:x∉l):(l ++ [x]).Nodup:=by
 rw[List.nodup_append]
 refine⟨h,by simp,λa ha b hb z=>?_⟩
 rw[Qu9.mp hb] at z
 exact n (by rw[<-z];exact ha)
theorem aNt:Am (10 ^ (12:Int).toNat):=⟨by decide,by decide⟩
theorem bE.upR{qs:List Addr}(hh:bE H p)(hl:H l=some (.lst (qs.map V.ref)))(k:cA l H H'):bE H' p:=by
 obtain⟨d,c,q,ms,hp,hq,hne,hqp⟩:=hh.ex
 refine⟨⟨d,c,q,ms,k _ _ hp (Ne.symm (hh.aIC hl)),k _ _ hq (λz=>?_),hne,hqp⟩⟩
 rw[z,hl] at hq
 cases ms with
 |nil=>exact hne rfl
 |cons m ms=>
  cases qs with
  |nil=>cases hq
  |cons _ _=>cases hq
theorem aEW(n:Nat):ixN (n+1) (-1)=some n:=by
 unfold ixN
 rw[if_neg (by omega),if_pos (by omega)]
 congr 1
 omega
theorem RL.set{α:Type}{P:Addr->α->Prop}{as:List Addr}{xs:List α}(h:RL P as xs){i:Nat}{a:Addr}{x:α}(hp:P a x):RL P (as.set i a) (xs.set i x):=by
 refine⟨by rw[Sv9,Sv9,h.len],λj q u hq hu=>?_⟩
 rw[List.getElem?_set] at hq hu
 by_cases e:i=j
 ·rw[if_pos e] at hq hu
  split at hq
  ·split at hu
   ·cases hq;cases hu;exact hp
   ·cases hu
  ·cases hq
 ·rw[if_neg e] at hq hu
  exact h.at_ j q u hq hu
theorem aIQ{ms:List MS}{i:Nat}{m:MS}(h:∀m∈ms,m.Good)(g:m.Good):∀m'∈ms.set i m,m'.Good:=λm' hm=>by
 rcases List.mem_or_eq_of_mem_set hm with h1|h1
 ·exact h m' h1
 ·rw[h1];exact g
theorem aLA{u d b r t l:Int}{ms:List Int}(h:some (HO.lst [.int u,.int d,.int b,.int r,.int t,.int l,.ref pl])=some (HO.lst (ms.map V.int))):False:=by
 injection h with h
 injection h with h
 have z:(ms.map V.int)[6]?=some (.ref pl):=by rw[<-h];rfl
 rw[oR] at z
 obtain⟨n,_,e⟩:=Qp9.mp z
 cases e
theorem aNu{n:Nat}{k:Int}(h0:0<=k)(h:k.toNat < n):ixN n k=some k.toNat:=by
 obtain⟨j,rfl⟩:=Tk9 h0
 unfold ixN
 rw[if_pos h0,if_pos (by omega)]
theorem MS.aRa(m:MS)(g:m.Good){v r:Int}(av:Am v)(r0:0<=r)(r1:r < 4)(pl:Addr):∃m':MS,[V.int m.up,.int m.down,.int m.begin_,.int m.run,.int m.rest,.int m.least,.ref pl].set (2+r).toNat (.int v)=[V.int m'.up,.int m'.down,.int m'.begin_,.int m'.run,.int m'.rest,.int m'.least,.ref pl]/\m'.Good/\m'.pieces=m.pieces:=by
 rcases(show r=0\/r=1\/r=2\/r=3 by omega) with rfl|rfl|rfl|rfl
 ·exact⟨{ m with begin_:=v },rfl,⟨g.up,g.down,av,g.run,g.rest,g.least,g.pieces⟩,rfl⟩
 ·exact⟨{ m with run:=v },rfl,⟨g.up,g.down,g.begin_,av,g.rest,g.least,g.pieces⟩,rfl⟩
 ·exact⟨{ m with rest:=v },rfl,⟨g.up,g.down,g.begin_,g.run,av,g.least,g.pieces⟩,rfl⟩
 ·exact⟨{ m with least:=v },rfl,⟨g.up,g.down,g.begin_,g.run,g.rest,av,g.pieces⟩,rfl⟩
def aBA(K:W.Frag):Sp:=λvs H Q _=>∃(p:Addr) (n:Int),vs=[.ref p,.int n]/\bE H p/\0<=n/\n<=6/\
 ∀(s:Addr) (W:WS) H',iG H' s W->W.Good->bE H' p->cA p H H'->H s=none->Q (.ref s) H'
theorem aBB{mg:Str->Option Value}{a:iR}(tx:Txt K mg a):bQ P w K mg base gE 4 a.iE a.iF ["_law_hand","_law_most"] (aBA K):=by
 have aO:=cN (P:=P) (w:=w) (base:=base) tx
 have aA8:=aEJ (P:=P) (w:=w) (base:=base) tx
 have aIR:=aHa (P:=P) (w:=w) (base:=base) tx
 have aHo:=aFM (P:=P) (w:=w) (base:=base) tx
 refine tx.lQ.ok bZ (λvs H Q E h=>?_) (λcdv A outer s H vs Q E hr h=>?_)
 ·obtain⟨p,n,rfl,_⟩:=h
  rfl
 ·obtain⟨p,n,rfl ,hh,n0,n1,k⟩:=h
  have hu:=jO hr
  refine bA (aD (qQ (i:=2) bZ.nd rfl (Or.inr rfl) (sD (zq1 aA8 hr tx.uI tx.nZ.kp tx.uH (aA (Z.pv 0) aC)) (zq1 aA8 hr tx.uI tx.nZ.kp tx.uH (aA (Z.pv 0) aC))))
   (aD (qQ (i:=3) bZ.nd rfl (Or.inr rfl) (bX aGd (by rfl) tx.aDy aJm (aA (j7 (r:=oV K) (eE hu) (zq1 aO hr tx.aU tx.aQ.kp tx.aT (aA (Z.pv 0) (aA aB aC))) aB (bK _)) aC)))
   (aD (aJ (i:=4) bZ.nd (zq1 aO hr tx.aU tx.aQ.kp tx.aT (aA (Z.pv 0) (aA (aE (K':=K) (sD (aI bI (Z.pv 1) aB) aB) (Z.pv 3)) aC))))
   (aD (iL (k:=1) (idx:=[2,0,3]) (N:=["_law_k","_law_by","_law_hand","_law_wide"]) (i:=5) bZ.nd rfl (Or.inl rfl) (cR (sc:=aH cZ) (NX:=["_law_hand","_law_most","_law_by","_law_wide","_law_many","_law_specs","_law_store_here","_law_lack"]) rfl rfl rfl (by decide +kernel)) rfl (bO (by rfl) tx.cM (aA (Z.pv 4) aC)) (λ_ _ _ _=>(aL (i:=0) (show(["_law_k","_law_by","_law_hand","_law_wide"]:List Str).Nodup by decide +kernel))) (cY (by decide)) (λ_ _ _ _=>bR) (λ_ _ _ _=>(zq1 aIR hr tx.aDi tx.zE.kp tx.aDh (aA (Z.pv 2) (aA (Z.pv 1) (aA (aE (K':=K) (sD aB aB) (Z.pv 3)) aC))))))
   (aD (bH (iJ (kD (aZ (r:=aMo K) (aJo hu) (Z.pv 5) (gU aC) (bK _)) (iK (aZ (r:=oV K) (eE hu) (zq1 aO hr tx.aU tx.aQ.kp tx.aT (aA (Z.pv 0) (aA aB aC))) aB (bK _))))) (aG (vC (aI aD6 aB aB) (aAw (aE (K':=K) (Z.pv 5) aB) (aI bI aB (zq1 aO hr tx.aU tx.aQ.kp tx.aT (aA (Z.pv 0) (aA aB aC)))) set_list))) bC)
   (aD (bH (iJ (kD (aZ (r:=aMo K) (aJo hu) (Z.pv 5) (gU aC) (bK _)) (iK (aZ (r:=oV K) (eE hu) (zq1 aO hr tx.aU tx.aQ.kp tx.aT (aA (Z.pv 0) (aA aB aC))) aB (bK _))))) (aG (vC (aE (K':=K) (Z.pv 5) aB) (aAw (Z.pv 5) (qU aBd aB) set_list))) bC)
   (aD (aJ (i:=6) bZ.nd (zq1 aHo hr tx.aB8 tx.xD.kp tx.aB7 (aA (Z.pv 0) (aA (Z.pv 2) aC))))
   (aD (aJ (i:=7) bZ.nd (aI bN (aE (K':=K) (Z.pv 2) aB) (zq1 aO hr tx.aU tx.aQ.kp tx.aT (aA (Z.pv 0) (aA aB aC)))))
   (aD (bH (iJ (kD (aZ (r:=oV K) (eE hu) (Z.pv 3) aB (bK _)) (iK (aZ aCK (Z.pv 6) eR (bK _))))) (aG (aJ (i:=6) bZ.nd (aI bI (aAx (zq1 aO hr tx.aU tx.aQ.kp tx.aT (aA (Z.pv 0) (aA aB aC))) (zq1 aO hr tx.aU tx.aQ.kp tx.aT (aA (Z.pv 0) (aA aB aC))) (zq1 aO hr tx.aU tx.aQ.kp tx.aT (aA (Z.pv 0) (aA aB aC)))) (sA (rs:=aK4 K) aOg (Z.pv 6) (vZ aB) vY)))) bC)
   (aD (bH (iJ (kD (aZ (r:=oV K) (eE hu) (Z.pv 3) aB (bK _)) (iK (aZ (r:=oV K) (eE hu) (zq1 aO hr tx.aU tx.aQ.kp tx.aT (aA (Z.pv 0) (aA aB aC))) aB (bK _))))) (aG (aJ (i:=7) bZ.nd (aI aD6 aB aB))) bC)
   (aG (aM (aKf (Z.pv 5) (Z.pv 6) (Z.pv 7) (Z.pv 2) (Z.pv 3)))))))))))))) ?_
  refine aS (σ:=[some (.ref p),some (.int n),none,none,none,none,none,none]) rfl ?_
  walk_at "w"
  refine⟨p,rfl,hh,λx H1 x0 x1 h1 k1 _=>?_⟩
  walk_at "w"
  refine⟨p,rfl,h1,λy H2 y0 y1 h2 k2 _=>?_⟩
  walk_at "w"
  intro b nb
  obtain⟨H3,e3,sb,hb3⟩:=nw _ nb;rw[e3]
  have h3:=h2.same sb
  have K3:cA p H H3:=k1.trans (k2.trans sb.keep)
  have nbH:H b=none:=oP (k1.trans k2) h2 nb
  have bp:b≠p:=hh.aLt nbH
  walk_at "w"
  refine⟨p,_,rfl,h3,by decide,by decide,λr4 H4 a4 b4 h4 k4 _=>?_⟩
  walk_at "w"
  obtain⟨wd,hwd,hwd0⟩ : ∃wd:Int,(if decide (r4=7)=true then (1:Int) else 0)=wd/\(wd=0\/wd=1):=by
   by_cases h:r4=7
   ·exact⟨1,by rw[if_pos (decide_eq_true h)],.inr rfl⟩
   ·exact⟨0,by rw[if_neg (by simpa using h)],.inl rfl⟩
  rw[hwd]
  walk_at "w"
  have hb4:=k4 _ _ hb3 bp
  have K4:=K3.trans k4
  intro l1 nl1
  obtain⟨H5,e5,s5,g5⟩:=nw _ nl1;rw[e5]
  obtain⟨M,hM,M0,M1⟩ : ∃M:Int,mC [V.int (n+1),.int 7] wd=some (.int M)/\1<=M/\M<=7:=by
   rcases hwd0 with rfl|rfl
   ·exact⟨n+1,rfl,by omega,by omega⟩
   ·exact⟨7,rfl,by decide,by decide⟩
  have hb5:=s5 _ _ hb4
  have h5:=h4.same s5
  have K5:=K4.trans (s5.keep (p:=p))
  walk_at "w"
  refine⟨p,_,rfl,h5,by omega,by omega,λmany H6 m0 m1 h6 k6 _=>?_⟩
  have hb6:=k6 _ _ hb5 bp
  have K6:=K5.trans k6
  repeat walk_at "st"
  refine iD (λσ' H'=>∃(l:Addr) (qs:List Addr) (ms:List MS),σ'=[some (.ref p),some (.int n),some (.ref b),some (.int wd),some (.int many),some (.ref l),none,none]/\H' l=some (.lst (qs.map V.ref))/\qs.length<=6/\RL (dB (del l H')) qs ms/\(∀m∈ms,m.Good)/\H' b=some (.lst [.int x,.int y])/\bE H' p/\cA p H H'/\H l=none/\b≠l/\l≠p/\qs.Nodup/\∀q∈qs,H q=none) (λN hN=>?_) ?_
  ·walk_at "w"
   refine⟨by omega,by omega,?_⟩
   refine iH (λi us H'=>∃(qs:List Addr) (ms:List MS),us=qs.map V.ref/\qs.length=i/\RL (dB H') qs ms/\(∀m∈ms,m.Good)/\H' b=some (.lst [.int x,.int y])/\bE H' p/\cA p H H'/\qs.Nodup/\∀q∈qs,H q=none) ⟨[],[],rfl,rfl,RL.nil,(λm h=>by cases h),hb6,h6,K6,List.nodup_nil,λq h=>by cases h⟩ (cF (by omega))
    (λi us H' hi ⟨qs,ms,f1,f2,f3,f4,f5,f6,f7,f8,f9⟩=>by rw[f1,bP];omega) (λi us H' hi ⟨qs,ms,f1,f2,f3,f4,f5,f6,f7,f8,f9⟩=>?_) (λus H' ⟨qs,ms,f1,f2,f3,f4,f5,f6,f7,f8,f9⟩=>?_)
   ·obtain⟨L,hL,L0,L1⟩ : ∃L:Int,mC [V.int 3,.int 12] wd=some (.int L)/\1<=L/\L<=12:=by
     rcases hwd0 with rfl|rfl
     ·exact⟨3,rfl,by decide,by decide⟩
     ·exact⟨12,rfl,by decide,by decide⟩
    walk_at "w"
    intro l2 nl2
    obtain⟨H7,e7,s7,g7⟩:=nw _ nl2;rw[e7]
    walk_at "w"
    refine⟨p,b,x,y,L,rfl,f6.same s7,s7 _ _ f5,x0,x1,y0,y1,L0,L1,λs m H8 hs gm _ _ h8 k8 nA=>?_⟩
    have nds:(qs ++ [s]).Nodup:=aJV f8 λz=>by
     obtain⟨j,hj⟩:=Rk9 z
     have hj':j < ms.length:=by rw[<-f3.len];exact(lZ.mp hj).1
     obtain⟨pl',hq',_⟩:=(f3.at_ j s _ hj (dQ hj')).ex
     rw[s7 _ _ hq'] at nA
     cases nA
    have frs:∀q∈qs ++ [s],H q=none:=λq hq=>by
     rcases Ri9.mp hq with z|z
     ·exact f9 q z
     ·rw[Qu9.mp z];exact oP (f7.trans s7.keep) (f6.same s7) nA
    refine⟨qs ++ [s],ms ++ [m],by rw[f1,rW];rfl,by rw[oU,f2];rfl,(f3.imp λa x z=>z.tr (s7.tr.trans ((f6.same s7).tr k8))).snoc hs,λm' hm'=>?_,k8 _ _ (s7 _ _ f5) bp,h8,f7.trans (s7.keep.trans k8),nds,frs⟩
    rcases Ri9.mp hm' with h|h
    ·exact f4 m' h
    ·rw[Qu9.mp h];exact gm
   ·subst f1
    intro l nl
    obtain⟨H7,e7,sl,g7⟩:=nw _ nl;rw[e7]
    have nlH:H l=none:=oP f7 f6 nl
    walk_at "w"
    exact hN _ _ ⟨l,qs,ms,rfl,g7,by omega,f3.imp λa x z=>z.same (aIP nl sl),f4,sl _ _ f5,f6.same sl,f7.trans sl.keep,nlH,bG nl f5,hh.aLt nlH,f8,f9⟩
  rintro σ7 H7 ⟨l,qs7,ms7,rfl,hl7,lq7,rl7,gd7,hb7,h7,K7,nlH,bl,lp,nd7,fr7⟩
  refine iD (λσ' H'=>∃(qs:List Addr) (ms:List MS),σ'=[some (.ref p),some (.int n),some (.ref b),some (.int wd),some (.int many),some (.ref l),none,none]/\H' l=some (.lst (qs.map V.ref))/\qs.length<=6/\RL (dB (del l H')) qs ms/\(∀m∈ms,m.Good)/\H' b=some (.lst [.int x,.int y])/\bE H' p/\cA p H H') (λN hN=>?_) ?_
  ·walk_at "w"
   intro f1 nf1
   obtain⟨H8,e8,se1,g8⟩:=nw _ nf1;rw[e8]
   have hl8:=se1 _ _ hl7
   have h8:=h7.same se1
   have hb8:=se1 _ _ hb7
   have K8:=K7.trans (se1.keep (p:=p))
   have rl8:RL (dB (del l H8)) qs7 ms7:=rl7.imp λa x z=>z.tr se1.tr.del
   walk_at "w"
   refine⟨_,aGI (bV.of hl8) (bV.of g8),?_⟩
   walk_at "w"
   refine kS (λhne=>?_) (λhne=>?_)
   ·have hqs:qs7≠[]:=λz=>by rw[z] at hne;simp at hne
    walk_at "w"
    refine⟨p,_,rfl,h8,by decide,by decide,λr9 H9 a9 b9 h9 k9 _=>?_⟩
    have hl9:=k9 _ _ hl8 lp
    have hb9:=k9 _ _ hb8 bp
    have K9:=K8.trans k9
    have rl9:RL (dB (del l H9)) qs7 ms7:=rl8.imp λa x z=>z.tr (h8.tr k9).del
    walk_at "w"
    refine cD (λhr9=>?_) (λhr9=>?_)
    ·obtain⟨q0,qr,rfl⟩ : ∃q0 qr,qs7=q0::qr:=by
      cases qs7 with
      |nil=>exact absurd rfl hqs
      |cons q0 qr=>exact⟨q0,qr,rfl⟩
     have lms:0 < ms7.length:=by rw[<-rl9.len];exact Nat.zero_lt_succ _
     obtain⟨m0',mr,rfl⟩ : ∃m0' mr,ms7=m0'::mr:=by
      cases ms7 with
      |nil=>exact absurd lms (Ru9 _)
      |cons a r=>exact⟨a,r,rfl⟩
     have hs0:=rl9.at_ 0 q0 m0' rfl rfl
     have g0:=gd7 m0' (Qx9 ..)
     walk_at "w"
     refine uF (bV.of hl9) (iB (j:=0) rfl) ?_
     walk_at "w"
     refine⟨p,_,rfl,h9,by decide,by decide,λr10 H10 a10 b10 h10 k10 _=>?_⟩
     have hl10:=k10 _ _ hl9 lp
     have hb10:=k10 _ _ hb9 bp
     have K10:=K9.trans k10
     have rl10:RL (dB (del l H10)) (q0::qr) (m0'::mr):=rl9.imp λa x z=>z.tr (h9.tr k10).del
     have hs10:=rl10.at_ 0 q0 m0' rfl rfl
     obtain⟨pl0,hq0,hpc0⟩:=hs10.ex
     have q0l:q0≠l:=λz=>by rw[z,aGr] at hq0;cases hq0
     have hq0':=aAi _ _ hq0
     have q0p:q0≠p:=h10.aG8 hq0' (by simp)
     have q0b:b≠q0:=λz=>by rw[<-z,hb10] at hq0';cases hq0'
     walk_at "w"
     refine aAs (j:=(2+r10).toNat) hq0' (aNu (by omega) (by show(2+r10).toNat < 7;omega)) ?_
     obtain⟨v12,hv12⟩ : ∃v:Int,v=10 ^ (12:Int).toNat:=⟨_,rfl⟩
     rw[<-hv12]
     have av:Am v12:=by rw[hv12];exact aNt
     obtain⟨mm,emm,gmm,epc⟩:=MS.aRa m0' g0 av a10 b10 pl0
     rw[emm]
     obtain⟨J11,i11,k11,j11⟩:=wr H10 q0 _;rw[i11]
     have pl0q:pl0≠q0:=λz=>by
      obtain⟨qs',e',_⟩:=hpc0.ex
      rw[z,hq0] at e'
      cases qs' with
      |nil=>cases e'
      |cons _ _=>cases e'
     have kd:∀d o,del l H10 d=some o->d≠q0->del l J11 d=some o:=λd o e n=>by
      have nl':d≠l:=λz=>by rw[z,aGr] at e;cases e
      rw[aBw nl'] at e ⊢
      exact k11 _ _ e n
     have hpc1:aAJ (del l J11) pl0 m0'.pieces:=by
      obtain⟨qs',e',t'⟩:=hpc0.ex
      exact⟨qs',kd _ _ e' pl0q,t'.len,λj q t h1 h2=>kd _ _ (t'.at_ j q t h1 h2) λz=>by have y:=t'.at_ j q t h1 h2;rw[z,hq0] at y;cases y⟩
     have hsp:dB (del l J11) q0 mm:=⟨pl0,oQ j11 q0l,by rw[epc];exact hpc1⟩
     walk_at "w"
     refine hN _ _ ⟨q0::qr,mm::mr,rfl,k11 _ _ hl10 (Ne.symm q0l),lq7,⟨by have:=rl10.len;simpa using this,λj a z h1 h2=>?_⟩,aIQ (i:=0) gd7 gmm,k11 _ _ hb10 q0b,?_,λd o e nd=>k11 _ _ (K10 _ _ e nd) (bG (fr7 q0 (.head _)) e)⟩
     ·match j,h1,h2 with
      |0,h1,h2=>cases h1;cases h2;exact hsp
      |j+1,h1,h2=>
       have hx:=rl10.at_ (j+1) a z h1 h2
       have aq:a≠q0:=λy=>(Rm9.mp nd7).1 (by rw[<-y];exact oS h1)
       obtain⟨pl1,e1',hpc'⟩:=hx.ex
       obtain⟨qs',e2',t'⟩:=hpc'.ex
       have p1q:pl1≠q0:=λy=>by
        rw[y,hq0] at e2'
        cases qs' with
        |nil=>cases e2'
        |cons _ _=>cases e2'
       exact⟨pl1,kd _ _ e1' aq,qs',kd _ _ e2' p1q,t'.len,λj q t h1 h2=>kd _ _ (t'.at_ j q t h1 h2) λy=>by have w:=t'.at_ j q t h1 h2;rw[y,hq0] at w;cases w⟩
     ·obtain⟨dd,cc,qq,mms,hp',hq',hne',hqp'⟩:=h10.ex
      refine⟨⟨dd,cc,qq,mms,k11 _ _ hp' (Ne.symm q0p),k11 _ _ hq' (λy=>?_),hne',hqp'⟩⟩
      rw[y,hq0'] at hq'
      exact aLA hq'
    ·walk_at "w"
     exact hN _ _ ⟨qs7,ms7,rfl,hl9,lq7,rl9,gd7,hb9,h9,K9⟩
   ·walk_at "w"
    exact hN _ _ ⟨qs7,ms7,rfl,hl8,lq7,rl8,gd7,hb8,h8,K8⟩
  rintro σ8 H8 ⟨qs8,ms8,rfl,hl8,lq8,rl8,gd8,hb8,h8,K8⟩
  refine iD (λσ' H'=>∃(ms:List MS),σ'=[some (.ref p),some (.int n),some (.ref b),some (.int wd),some (.int many),some (.ref l),none,none]/\tT H' l ms/\ms.length<=6/\(∀m∈ms,m.Good)/\H' b=some (.lst [.int x,.int y])/\bE H' p/\cA p H H') (λN hN=>?_) ?_
  ·walk_at "w"
   intro f1 nf1
   obtain⟨H9,e9,se1,g9⟩:=nw _ nf1;rw[e9]
   have hl9:=se1 _ _ hl8
   have h9:=h8.same se1
   have hb9:=se1 _ _ hb8
   have K9:=K8.trans (se1.keep (p:=p))
   have rl9:RL (dB (del l H9)) qs8 ms8:=rl8.imp λa x z=>z.tr se1.tr.del
   have lms9:=rl9.len
   walk_at "w"
   refine⟨_,aGI (bV.of hl9) (bV.of g9),?_⟩
   walk_at "w"
   refine kS (λhne=>?_) (λhne=>?_)
   ·have hqs:qs8≠[]:=λz=>by rw[z] at hne;simp at hne
    walk_at "w"
    refine⟨p,_,rfl,h9,by decide,by decide,λr9 H10 a9 b9 h10 k10 _=>?_⟩
    have hl10:=k10 _ _ hl9 lp
    have hb10:=k10 _ _ hb9 bp
    have K10:=K9.trans k10
    have rl10:RL (dB (del l H10)) qs8 ms8:=rl9.imp λa x z=>z.tr (h9.tr k10).del
    walk_at "w"
    refine cD (λhr9=>?_) (λhr9=>?_)
    ·obtain⟨q0,qr,rfl⟩ : ∃q0 qr,qs8=q0::qr:=by
      cases qs8 with
      |nil=>exact absurd rfl hqs
      |cons q0 qr=>exact⟨q0,qr,rfl⟩
     obtain⟨m0',mr,rfl⟩ : ∃m0' mr,ms8=m0'::mr:=by
      cases ms8 with
      |nil=>cases lms9
      |cons a r=>exact⟨a,r,rfl⟩
     have hs0:=rl10.at_ 0 q0 m0' rfl rfl
     walk_at "w"
     refine uF (bV.of hl10) (iB (j:=0) rfl) ?_
     walk_at "w"
     refine aAs (j:=qr.length) hl10 (by rw[bP,Ra9];exact aEW _) ?_
     obtain⟨J11,i11,k11,j11⟩:=wr H10 l _;rw[i11]
     have dl:del l J11=del l H10:=by rw[<-i11,aKv]
     have hset:=rl10.set (i:=qr.length) hs0
     walk_at "w"
     refine hN _ _ ⟨(m0'::mr).set qr.length m0',rfl,⟨(q0::qr).set qr.length q0,?_,hset.imp λa x z=>((dl▸z:dB (del l J11) a x)).same aAi⟩,by rw[Sv9,<-lms9];exact lq8,aIQ gd8 (gd8 m0' (Qx9 ..)),k11 _ _ hb10 bl,h10.upR hl10 k11,λd o e nd=>k11 _ _ (K10 _ _ e nd) (bG nlH e)⟩
     rw[j11,List.map_set]
    ·walk_at "w"
     exact hN _ _ ⟨ms8,rfl,⟨qs8,hl10,rl10.imp λa x z=>z.same aAi⟩,by rw[<-lms9];exact lq8,gd8,hb10,h10,K10⟩
   ·walk_at "w"
    exact hN _ _ ⟨ms8,rfl,⟨qs8,hl9,rl9.imp λa x z=>z.same aAi⟩,by rw[<-lms9];exact lq8,gd8,hb9,h9,K9⟩
  rintro σ9 H9 ⟨ms9,rfl,sp9,ln9,gd9,hb9,h9,K9⟩
  walk_at "w"
  refine⟨p,b,x,y,rfl,h9,hb9,x0,x1,λv o H10 st10 go10 fr10 h10 k10 _=>?_⟩
  have T10:=h9.tr k10
  have sp10:=sp9.tr T10
  have hb10:=k10 _ _ hb9 bp
  have K10:=K9.trans k10
  walk_at "w"
  refine⟨p,_,rfl,h10,by decide,by decide,λr11 H11 a11 b11 h11 k11 _=>?_⟩
  have T11:=h10.tr k11
  have sp11:=sp10.tr T11
  have st11:=st10.tr T11
  have hb11:=k11 _ _ hb10 bp
  have K11:=K10.trans k11
  have g11:0<=y*r11/\y*r11<=550000000000:=aID y0 y1 a11 b11 (by decide)
  repeat walk_at "st"
  refine iD (λσ' H'=>∃(v:V) (o:Option SS),σ'=[some (.ref p),some (.int n),some (.ref b),some (.int wd),some (.int many),some (.ref l),some v,some (.int (y*r11))]/\tT H' l ms9/\aHg H' v o/\(∀s,o=some s->s.Good)/\H' b=some (.lst [.int x,.int y])/\bE H' p/\cA p H H') (λN hN=>?_) ?_
  ·walk_at "w"
   refine cD (λhw1=>?_) (λhw1=>?_)
   ·cases o with
    |none=>
     replace st11:v=.non:=st11
     subst st11
     walk_at "w"
     exact hN _ _ ⟨_,none,rfl,sp11,rfl,go10,hb11,h11,K11⟩
    |some s=>
     obtain⟨c,rfl,hc⟩:=st11
     have gs:=go10 s rfl
     walk_at "w"
     refine⟨p,_,rfl,h11,by decide,by decide,λu1 H12 a12 b12 h12 k12 _=>?_⟩
     walk_at "w"
     refine⟨p,_,rfl,h12,by decide,by decide,λu2 H13 a13 b13 h13 k13 _=>?_⟩
     walk_at "w"
     refine⟨p,_,rfl,h13,by decide,by decide,λu3 H14 a14 b14 h14 k14 _=>?_⟩
     have T14:=(h11.tr k12).trans ((h12.tr k13).trans (h13.tr k14))
     have hc14:=(hc.tr T14).at_
     walk_at "w"
     intro c1 nc1
     obtain⟨J1,i1,t1,j1⟩:=nw _ nc1;rw[i1]
     have hc15:=t1 _ _ hc14
     walk_at "w"
     refine aCF (bV.of hc15) ?_
     rw[show rX [V.int s.cap,.int s.into,.int s.out,.int s.takes,.int s.gives] (some 3) none=[.int s.takes,.int s.gives] from rfl]
     intro c2 nc2
     obtain⟨J2,i2,t2,j2⟩:=nw _ nc2;rw[i2]
     walk_at "w"
     refine aAt (t2 _ _ j1) j2 (cF (by simp)) ?_
     intro c3 nc3
     obtain⟨J3,i3,t3,j3⟩:=nw _ nc3;rw[i3]
     have tt:=t1.trans (t2.trans t3)
     walk_at "w"
     refine hN _ _ ⟨_,some ⟨u1,u2,u3,s.takes,s.gives⟩,rfl,sp11.tr (T14.trans tt.tr),⟨c3,rfl,⟨j3⟩⟩,λs' e=>?_,(T14.trans tt.tr) _ _ hb11 (aEN (by simp)),h14.same tt,K11.trans (k12.trans (k13.trans (k14.trans tt.keep)))⟩
     cases e
     exact⟨⟨a12,by show u1<=8;omega⟩,⟨a13,by show u2<=8;omega⟩,⟨a14,by show u3<=8;omega⟩,gs.takes,gs.gives⟩
   ·walk_at "w"
    exact hN _ _ ⟨v,o,rfl,sp11,st11,go10,hb11,h11,K11⟩
  rintro σ12 H12 ⟨v,o,rfl,sp12,st12,go12,hb12,h12,K12⟩
  refine iD (λσ' H'=>∃(lk:Int),σ'=[some (.ref p),some (.int n),some (.ref b),some (.int wd),some (.int many),some (.ref l),some v,some (.int lk)]/\Am lk/\tT H' l ms9/\aHg H' v o/\H' b=some (.lst [.int x,.int y])/\bE H' p/\cA p H H') (λN hN=>?_) ?_
  ·walk_at "w"
   refine cD (λhw1=>?_) (λhw1=>?_)
   ·walk_at "w"
    refine⟨p,_,rfl,h12,by decide,by decide,λu1 H13 a13 b13 h13 k13 _=>?_⟩
    have T13:=h12.tr k13
    walk_at "w"
    refine cD (λhz=>?_) (λhz=>?_)
    ·walk_at "w"
     exact hN _ _ ⟨_,rfl,aNt,sp12.tr T13,st12.tr T13,k13 _ _ hb12 bp,h13,K12.trans k13⟩
    ·walk_at "w"
     exact hN _ _ ⟨_,rfl,⟨g11.1,by omega⟩,sp12.tr T13,st12.tr T13,k13 _ _ hb12 bp,h13,K12.trans k13⟩
   ·walk_at "w"
    exact hN _ _ ⟨_,rfl,⟨g11.1,by omega⟩,sp12,st12,hb12,h12,K12⟩
  rintro σ13 H13 ⟨lk,rfl,alk,sp13,st13,hb13,h13,K13⟩
  walk_at "w"
  intro s ns
  obtain⟨J,i,t,j⟩:=nw _ ns;rw[i]
  walk_at "w"
  exact k s ⟨ms9,o,lk,x,y,wd⟩ J ⟨l,v,b,j,sp13.tr t.tr,st13.tr t.tr,t _ _ hb13⟩ ⟨gd9,ln9,go12,alk,⟨x0,x1⟩,⟨y0,y1⟩,hwd0⟩ (h13.same t) (K13.trans t.keep) (oP K13 h13 ns)
theorem aO6{K:W.Frag}{H:Hp}{n:Nat}{pl pl':Addr}{ps ps':List (Int×Int)}(h:aAJ H pl ps)(h':aAJ H pl' ps'):∃b,EqN K H (n+2) (.ref pl) (.ref pl') b/\(b=true->ps=ps'):=by
 obtain⟨qs,h1,h2⟩:=h.ex
 obtain⟨qs',h1',h2'⟩:=h'.ex
 refine⟨_,.inr ⟨pl,pl',_,_,λj=>(2 == 2 && (List.range 2).all λi=>match ps[j]?,ps'[j]? with|some t,some t'=>(match i with|0=>decide (t.1=t'.1)|_=>decide (t.2=t'.2))|_,_=>true),rfl,rfl,.inl ⟨bV.of h1,bV.of h1'⟩,λj u v hu hv=>?_,rfl⟩,λhb=>?_⟩
 ·rw[oR] at hu hv
  cases e1:qs[j]? with
  |none=>rw[e1] at hu;cases hu
  |some q=>
   cases e2:qs'[j]? with
   |none=>rw[e2] at hv;cases hv
   |some q'=>
    rw[e1] at hu
    rw[e2] at hv
    cases hu
    cases hv
    have l1:j < ps.length:=by rw[<-h2.len];exact(lZ.mp e1).1
    have l2:j < ps'.length:=by rw[<-h2'.len];exact(lZ.mp e2).1
    have t1:=h2.at_ j q _ e1 (dQ l1)
    have t2:=h2'.at_ j q' _ e2 (dQ l2)
    refine .inr ⟨q,q',_,_,λi=>match ps[j]?,ps'[j]? with|some t,some t'=>(match i with|0=>decide (t.1=t'.1)|_=>decide (t.2=t'.2))|_,_=>true,rfl,rfl,.inr ⟨kQ.of t1,kQ.of t2⟩,λi u v hu hv=>?_,rfl⟩
    rw[dQ l1,dQ l2]
    match i,hu,hv with
    |0,hu,hv=>
     cases hu;cases hv
     cases n with
     |zero=>exact⟨rfl,rfl,rfl⟩
     |succ n=>exact .inl ⟨rfl,rfl,rfl⟩
    |1,hu,hv=>
     cases hu;cases hv
     cases n with
     |zero=>exact⟨rfl,rfl,rfl⟩
     |succ n=>exact .inl ⟨rfl,rfl,rfl⟩
    |_+2,hu,_=>simp at hu
 ·rw[Ro9,Sq9] at hb
  obtain⟨b1,b2⟩:=hb
  have hl:ps.length=ps'.length:=by
   have:=beq_iff_eq.mp b1
   rw[bP,bP,h2.len,h2'.len] at this
   exact this
  refine List.ext_getElem hl λj l1 l2=>?_
  have c:=b2 j (Rs9.mpr (by rw[bP,h2.len];exact l1))
  rw[Ro9,Sq9] at c
  have c0:=c.2 0 (by simp)
  have c1:=c.2 1 (by simp)
  simp only[dQ l1,dQ l2] at c0 c1
  exact Prod.ext (of_decide_eq_true c0) (of_decide_eq_true c1)
theorem aNv{K:W.Frag}{H:Hp}{s t:Addr}{m m':MS}(h1:dB H s m)(h2:dB H t m'):∃b,EqN K H 8 (.ref s) (.ref t) b/\(b=true->m=m'):=by
 obtain⟨pl,e1,p1⟩:=h1.ex
 obtain⟨pl',e2,p2⟩:=h2.ex
 obtain⟨bp,hbp,ep⟩:=aO6 (K:=K) (n:=5) p1 p2
 refine⟨_,.inr ⟨s,t,_,_,λj=>match j with|0=>decide (m.up=m'.up)|1=>decide (m.down=m'.down)|2=>decide (m.begin_=m'.begin_)|3=>decide (m.run=m'.run)|4=>decide (m.rest=m'.rest)|5=>decide (m.least=m'.least)|_=>bp,rfl,rfl,.inl ⟨bV.of e1,bV.of e2⟩,λj u v hu hv=>?_,rfl⟩,λhb=>?_⟩
 ·match j,hu,hv with
  |0,hu,hv=>cases hu;cases hv;exact .inl ⟨rfl,rfl,rfl⟩
  |1,hu,hv=>cases hu;cases hv;exact .inl ⟨rfl,rfl,rfl⟩
  |2,hu,hv=>cases hu;cases hv;exact .inl ⟨rfl,rfl,rfl⟩
  |3,hu,hv=>cases hu;cases hv;exact .inl ⟨rfl,rfl,rfl⟩
  |4,hu,hv=>cases hu;cases hv;exact .inl ⟨rfl,rfl,rfl⟩
  |5,hu,hv=>cases hu;cases hv;exact .inl ⟨rfl,rfl,rfl⟩
  |6,hu,hv=>cases hu;cases hv;exact hbp
  |_+7,hu,_=>simp at hu
 ·rw[Ro9,Sq9] at hb
  have q:=λj (hj:j < 7)=>hb.2 j (Rs9.mpr hj)
  have c0:=of_decide_eq_true (q 0 (by decide))
  have c1:=of_decide_eq_true (q 1 (by decide))
  have c2:=of_decide_eq_true (q 2 (by decide))
  have c3:=of_decide_eq_true (q 3 (by decide))
  have c4:=of_decide_eq_true (q 4 (by decide))
  have c5:=of_decide_eq_true (q 5 (by decide))
  have c6:=ep (q 6 (by decide))
  obtain⟨u1,u2,u3,u4,u5,u6,u7⟩:=m
  obtain⟨v1,v2,v3,v4,v5,v6,v7⟩:=m'
  simp only[MS.mk.injEq]
  exact⟨c0,c1,c2,c3,c4,c5,c6⟩
theorem ends{qs:List Addr}(h:qs≠[]):∃q0 ql,qs[0]?=some q0/\qs[qs.length - 1]?=some ql/\mC (qs.map V.ref) 0=some (.ref q0)/\mC (qs.map V.ref) (-1)=some (.ref ql):=by
 have hl:0 < qs.length:=Sj9.mpr h
 refine⟨qs[0],qs[qs.length - 1],dQ hl,dQ (by omega),oG (i:=0) (dQ hl),?_⟩
 obtain⟨n,hn⟩ : ∃n,qs.length=n+1:=⟨qs.length - 1,by omega⟩
 have e:ixN (qs.map V.ref).length (-1)=some n:=by rw[bP,hn];exact aEW n
 unfold mC
 rw[e]
 show(qs.map V.ref)[n]?=_
 rw[oR]
 simp only[hn,Nat.add_sub_cancel]
 rw[dQ (by omega)]
 rfl
theorem set_same{α:Type}{xs:List α}{i:Nat}{x:α}(h:xs[i]?=some x):xs.set i x=xs:=by
 obtain⟨hi,e⟩:=lZ.mp h
 rw[<-e,List.set_getElem_self]
def aFN(K:PySem.W.Frag)(CW CM CS:Addr):Sp:=λvs H Q _=>∃(s:Addr) (W:WS),vs=[.ref s]/\iG H s W/\W.Good/\∀w H',tV CW CM CS H' w W->aP H H'->H w=none->Q (.ref w) H'
theorem aFO{mg:Str->Option Value}{a:iR}(tx:Txt K mg a):bQ P w K mg base gE 8 a.qA a.qB ["_law_spec_here"] (aFN K a.fM a.bD a.cL):=by
 have aHp:=aFD (P:=P) (w:=w) (base:=base) tx
 have aHq:=aFK (P:=P) (w:=w) (base:=base) tx
 have aEX:=aDI (P:=P) (w:=w) (base:=base) tx
 refine tx.xE.ok m8 (λvs H Q E h=>?_) (λcdv A outer s H vs Q E hr h=>?_)
 ·obtain⟨s,W,rfl,_⟩:=h
  rfl
 ·obtain⟨s,W,rfl ,hW,hg,k⟩:=h
  have hu:=jO hr
  refine bA (aD (iL (k:=1) (idx:=[]) (N:=["_law_one"]) (i:=1) m8.nd rfl (Or.inl rfl) (cR (sc:=aH gG) (NX:=["_law_spec_here","_law_machines","_law_store_here"]) rfl rfl rfl (by decide +kernel)) rfl (bT (K':=K) (aE (K':=K) (Z.pv 0) aB)) (λ_ _ _ _=>(aL (i:=0) (show(["_law_one"]:List Str).Nodup by decide +kernel))) (cY (by decide)) (λ_ _ _ _=>bR) (λ_ _ _ _=>(zq1 aEX hr tx.zG tx.qZ.kp tx.zF (aA (Z.pv 0) aC))))
   (aD (bH (iJ (kD (aZ aBG (aK (rc:=lW K) bS (by rfl) tx.eN dR (aA (Z.pv 1) aC)) aB (bK _)) (iK (aZ (r:=oV K) (eE hu) (aE (K':=K) (aE (K':=K) (Z.pv 0) aB) aB) (aE (K':=K) (aE (K':=K) (Z.pv 0) aB) (qU aBd aB)) (bK _))))) (aG (vC (aE (K':=K) (Z.pv 1) aB) (aAw (Z.pv 1) (qU aBd aB) set_list))) bC)
   (aD (aJ (i:=2) m8.nd (aE (K':=K) (Z.pv 0) aB))
   (aD (bH (aZ aCK (Z.pv 2) eR (bK _)) (aG (aJ (i:=2) m8.nd (y3 tx.aKr (aHp) (hr.mono (by decide)) (by rfl) tx.aG2 tx.aB0 .nil aR (aA (aE (K':=K) (Z.pv 2) aB) (aA (aE (K':=K) (Z.pv 2) aB) (aA (aE (K':=K) (Z.pv 2) aB) (aA (aE (K':=K) (Z.pv 2) aB) (aA (aE (K':=K) (Z.pv 2) aB) aC)))))))) bC)
   (aG (aM (y3 tx.aKt (aHq) (hr.mono (by decide)) (by rfl) tx.aKs tx.aB6 .nil aR (aA (Z.pv 1) (aA (Z.pv 2) (aA (aE (K':=K) (Z.pv 0) aB) aC)))))))))) ?_
  have hlen:=hg.len
  obtain⟨ls,st,b,hs,hsp,hst,hb⟩:=hW.ex
  obtain⟨qs,hl,rl⟩:=hsp.ex
  have lql:=rl.len
  refine aS (σ:=[some (.ref s),none,none]) rfl ?_
  refine iD (λσ' H'=>∃lm qm,σ'=[some (.ref s),some (.ref lm),none]/\H' lm=some (.lst (qm.map V.ref))/\RL (cV a.bD (del lm H')) qm W.specs/\aP H H'/\H lm=none) (λN hN=>?_) ?_
  ·walk_at "w"
   refine kU (bV.of hl) ?_
   refine fO (xs:=qs.map V.ref) (λi us H'=>aP H H'/\∃as,us=as.map V.ref/\as.length=i/\RL (cV a.bD H') as (W.specs.take i)) ⟨aP.refl _,[],rfl,rfl,RL.nil⟩ (cF (by rw[bP];omega))
    (λi us H' hi ⟨s1,as,e1,e2,e3⟩=>⟨bV.of (s1 _ _ hl),by rw[e1,bP];omega⟩) (λi x us H' hx ⟨s1,as,e1,e2,e3⟩=>?_) (λus H' ⟨s1,as,e1,e2,e3⟩=>?_)
   ·obtain⟨q,m,_,rfl,hm,hq⟩:=rl.get hx
    walk_at "w"
    refine⟨q,m,rfl,hq.tr s1.tr,hg.specs m (oS hm),λy H5 hM s5 ny=>?_⟩
    refine⟨s1.trans s5,as ++ [y],by rw[e1,rW];rfl,by rw[oU,e2];rfl,?_⟩
    rw[take_snoc hm]
    exact(e3.imp λa x z=>z.same s5).snoc hM
   ·subst e1
    intro lm nlm
    obtain⟨H2,e2',s2,g2⟩:=nw _ nlm;rw[e2']
    walk_at "w"
    rw[bP,lql,Rc9] at e3
    exact hN _ _ ⟨lm,as,rfl,g2,e3.imp λa x z=>z.same (aIP nlm s2),s1.trans s2,s1.free nlm⟩
  rintro σ1 H1 ⟨lm,qm,rfl,hm1,rm1,s1,nlm⟩
  have lqm:=rm1.len
  refine iD (λσ' H'=>σ'=[some (.ref s),some (.ref lm),none]/\tU a.bD H' lm W.specs/\aP H H') (λN hN=>?_) ?_
  ·walk_at "w"
   refine cD (λh2=>?_) (λh2=>?_)
   ·rw[bP] at h2
    have hqs:qs≠[]:=λz=>by rw[z] at lql;simp at lql;omega
    have hqm:qm≠[]:=λz=>by rw[z] at h2;simp at h2
    obtain⟨q0,ql,f1,f2,f3,f4⟩:=ends hqs
    obtain⟨a0,al,g1,g2,g3,g4⟩:=ends hqm
    have hn:0 < W.specs.length:=by omega
    have m0:W.specs[0]?=some W.specs[0]:=dQ hn
    have mln:W.specs.length - 1 < W.specs.length:=by omega
    have ml:W.specs[W.specs.length - 1]?=some W.specs[W.specs.length - 1]:=dQ mln
    have p0:=(rl.at_ 0 q0 _ f1 m0).tr s1.tr
    have pl:=(rl.at_ (qs.length - 1) ql _ f2 (by rw[lql];exact ml)).tr s1.tr
    have hs1:=s1 _ _ hs
    have hl1:=s1 _ _ hl
    generalize W.specs[0]=mA at m0 p0
    generalize W.specs[W.specs.length - 1]=mB at ml pl
    obtain⟨bb,hbb,ebb⟩:=aNv (K:=K) p0 pl
    walk_at "w"
    refine⟨bb,hbb,?_⟩
    walk_at "w"
    refine kS (λh3=>?_) (λh3=>?_)
    ·have em:=ebb h3
     subst em
     walk_at "w"
     refine aAs (j:=qm.length - 1) hm1 (by rw[bP,show qm.length=(qm.length - 1)+1 by omega];exact aEW _) ?_
     obtain⟨J,i,kj,j⟩:=wr H1 lm _;rw[i]
     have dl:del lm J=del lm H1:=by rw[<-i,aKv]
     have hset:=rm1.set (i:=qm.length - 1) (rm1.at_ 0 a0 mA g1 m0)
     rw[lqm,set_same ml] at hset
     walk_at "w"
     refine hN _ _ ⟨rfl,⟨qm.set (W.specs.length - 1) a0,by rw[j,List.map_set,lqm],hset.imp λa x z=>((dl▸z:cV _ (del lm J) a x)).same aAi⟩,λb o e=>kj _ _ (s1 _ _ e) (bG nlm e)⟩
    ·walk_at "w"
     exact hN _ _ ⟨rfl,⟨qm,hm1,rm1.imp λa x z=>z.same aAi⟩,s1⟩
   ·walk_at "w"
    exact hN _ _ ⟨rfl,⟨qm,hm1,rm1.imp λa x z=>z.same aAi⟩,s1⟩
  rintro σ2 H2 ⟨rfl,hM2,s2⟩
  have hs2:=s2 _ _ hs
  refine aMs ?_
  repeat walk_at "st"
  refine iD (λσ' H'=>∃so,σ'=[some (.ref s),some (.ref lm),some so]/\aLv a.cL H' so W.store/\tU a.bD H' lm W.specs/\aP H H') (λN hN=>?_) ?_
  ·cases e:W.store with
   |none=>
    rw[e] at hst
    replace hst:st=.non:=hst
    subst hst
    walk_at "w"
    exact hN _ _ ⟨_,rfl,(by rw[e];rfl),hM2,s2⟩
   |some ss=>
    rw[e] at hst
    obtain⟨c,rfl,hc⟩:=hst
    have gs:=hg.store ss e
    have hc2:=(hc.tr s2.tr).at_
    walk_at "w"
    intro x dx nx nd hd
    obtain⟨J,i,sj,j⟩:=nwi (C:=a.cL) nx nd hd;rw[i]
    refine⟨x,dx,ss,rfl,j,gs,λH3 hS kx=>⟨rfl,?_⟩⟩
    walk_at "w"
    exact hN _ _ ⟨_,rfl,(by rw[e];exact⟨x,rfl,hS⟩),hM2.tr (sj.tr.trans (aNn j kx)),λb o e=>kx _ _ (sj _ _ (s2 _ _ e)) (bG (s2.free nx) e)⟩
  rintro σ3 H3 ⟨so,rfl,hso,hM3,s3⟩
  have hs3:=s3 _ _ hs
  walk_at "w"
  intro x dx nx nd hd
  obtain⟨J,i,sj,j⟩:=nwi (C:=a.fM) nx nd hd;rw[i]
  refine⟨x,dx,lm,so,W,rfl,j,hM3.tr sj.tr,hso.tr sj.tr,hlen,hg.lack,λH4 hWk kx=>⟨rfl,?_⟩⟩
  exact k x H4 hWk (λb o e=>kx _ _ (sj _ _ (s3 _ _ e)) (bG (s3.free nx) e)) (s3.free nx)
theorem aAE{ss:List (Int×Int)}(h:RL (StA H) qs ss)(s:Tk H H'):RL (StA H') qs ss:=h.imp λa x z=>s _ _ z
theorem aRb{W:WS}(g:W.Good){l n:Int}(h:yD W l)(hn:n∈lvO W.store l):LvW W l n:=by
 unfold yD at h
 unfold LvW
 cases e:W.store with
 |none=>
  rw[e] at hn
  exact Qu9.mp hn
 |some s=>
  rw[e] at hn h
  replace h:0<=l/\l<=s.cap:=h
  have hn':n∈upL (max 0 (l - s.out)) (min s.cap (l+s.into)+1 - max 0 (l - s.out)).toNat:=hn
  rw[aHd] at hn'
  show Lv s l n
  unfold Lv
  omega
theorem aRY{W:WS}(g:W.Good){l:Int}(h:yD W l):0 < (lvO W.store l).length/\(lvO W.store l).length<=9:=by
 unfold yD at h
 cases e:W.store with
 |none=>exact⟨Nat.zero_lt_one,by show 1<=9;omega⟩
 |some s=>
  rw[e] at h
  replace h:0<=l/\l<=s.cap:=h
  have g1:=(g.store s e).cap
  have g2:=(g.store s e).into
  have g3:=(g.store s e).out
  show 0 < (upL (max 0 (l - s.out)) (min s.cap (l+s.into)+1 - max 0 (l - s.out)).toNat).length/\(upL (max 0 (l - s.out)) (min s.cap (l+s.into)+1 - max 0 (l - s.out)).toNat).length<=9
  rw[aKw]
  omega
def aCU(K:PySem.W.Frag):Sp:=λvs H Q _=>∃(p s:Addr) (W:WS),vs=[.ref p,.ref s]/\bE H p/\iG H s W/\W.Good/\
 ∀(r:Addr) (P:Ps) H',rT H' r P->vS W P->(∀(j:Nat) m s,W.specs[j]?=some m->P.1[j]?=some s->St1 m s)->bE H' p->cA p H H'->Q (.ref r) H'
theorem aCV{mg:Str->Option Value}{a:iR}(tx:Txt K mg a):bQ P w K mg base gE 3 a.jU a.jV ["_law_hand","_law_spec_here"] (aCU K):=by
 have aO:=cN (P:=P) (w:=w) (base:=base) tx
 have aHr:=aFA (P:=P) (w:=w) (base:=base) tx
 refine tx.o5.ok vG (λvs H Q E h=>?_) (λcdv A outer s H vs Q E hr h=>?_)
 ·obtain⟨p,s,W,rfl,_⟩:=h
  rfl
 ·obtain⟨p,s,W,rfl ,hh,hW,hg,k⟩:=h
  have hu:=jO hr
  refine bA (aD (aJ (i:=2) vG.nd (bX (rc:=aBk K) vD (by rfl) tx.lS vA (aA (cO (k:=1) (idx:=[0]) (N:=["_law_one","_law_hand"]) (cR (sc:=aH dS) (NX:=["_law_hand","_law_spec_here","_law_states"]) rfl rfl rfl (by decide +kernel)) rfl (bT (K':=K) (aE (K':=K) (Z.pv 1) aB)) (λ_ _ _ _=>(aL (i:=0) (show(["_law_one","_law_hand"]:List Str).Nodup by decide +kernel))) (cY (by decide)) (λ_ _ _ _=>bR) (λ_ _ _ _=>(zq1 aHr hr tx.aBY tx.w4.kp tx.aBX (aA (Z.pv 1) (aA (Z.pv 0) aC))))) aC)))
   (aD (bH (aZ aCJ (aE (K':=K) (Z.pv 1) aB) eR (bK _)) (aG (aM (eW (Z.pv 2) aB))) bC)
   (aG (aM (eW (Z.pv 2) (zq1 aO hr tx.aU tx.aQ.kp tx.aT (aA (Z.pv 0) (aA (aI bI (aE (K':=K) (aE (K':=K) (Z.pv 1) aB) aB) aB) aC)))))))) ?_
  have hlen:=hg.len
  obtain⟨ls,st,b,hs,hsp,hst,hb⟩:=hW.ex
  obtain⟨qs,hl,rl⟩:=hsp.ex
  have lql:=rl.len
  have sp:s≠p:=hh.aG8 hs (by simp)
  have lp:ls≠p:=hh.aIC hl
  refine aS (σ:=[some (.ref p),some (.ref s),none]) rfl ?_
  walk_at "w"
  refine kU (bV.of hl) ?_
  refine fO (xs:=qs.map V.ref) (λi us H'=>bE H' p/\cA p H H'/\∃ts ss,us=ts.map V.ref/\ts.length=i/\RL (StA H') ts ss/\(∀s∈ss,VS s)/\∀(j:Nat) m s,W.specs[j]?=some m->ss[j]?=some s->St1 m s) ⟨hh,λ_ _ e _=>e,[],[],rfl,rfl,RL.nil,(λs h=>by cases h),λj m s _ h=>by simp at h⟩ (cF (by rw[bP];omega))
   (λi us H' hi ⟨h1,k1,ts,ss,e1,e2,e3,e4,e5⟩=>⟨bV.of (k1 _ _ hl lp),by rw[e1,bP];omega⟩) (λi x us H' hx ⟨h1,k1,ts,ss,e1,e2,e3,e4,e5⟩=>?_) (λus H' ⟨h1,k1,ts,ss,e1,e2,e3,e4,e5⟩=>?_)
  ·obtain⟨q,m,_,rfl,hm,hq⟩:=rl.get hx
   have gm:=hg.specs m (oS hm)
   walk_at "w"
   refine⟨p,q,m,rfl,h1,hq.tr (hh.tr k1),gm,λt o d H2 ht hod h2 k2=>?_⟩
   refine⟨h2,k1.trans k2,ts ++ [t],ss ++ [(o,d)],by rw[e1,rW];rfl,by rw[oU,e2];rfl,(aAE e3 (h1.tr k2).tk).snoc ht,λs hs=>?_,λj m' s' hj hs=>?_⟩
   rotate_left
   ·by_cases hj2:j < ss.length
    ·rw[Qn9 hj2] at hs
     exact e5 j m' s' hj hs
    ·have hj3:j < (ss ++ [(o,d)]).length:=(lZ.mp hs).1
     rw[oU,Qz9] at hj3
     have ej:j=i:=by have:=e3.len;omega
     rw[Qo9 (by omega),show j - ss.length=0 by omega] at hs
     cases hs
     rw[ej,hm] at hj
     cases hj
     exact hod
   rcases Ri9.mp hs with h|h
   ·exact e4 s h
   ·rw[Qu9.mp h]
    rcases hod with ⟨z1,z2,_⟩|⟨z1,z2,_⟩
    ·exact⟨.inr z1,z2⟩
    ·exact⟨.inl z1,z2⟩
  ·subst e1
   rw[bP] at e2
   intro l1 n1
   obtain⟨H2,i2,s2,g2⟩:=nw _ n1;rw[i2]
   walk_at "w"
   refine aBP (bV.of g2) ?_
   intro T nT
   obtain⟨H3,i3,s3,g3⟩:=nw _ nT;rw[i3]
   have s23:=s2.trans s3
   have hs3:=s23 _ _ (k1 _ _ hs sp)
   have e33:=aAE e3 s23.tk
   have lss:ss.length=W.specs.length:=by rw[<-e3.len,e2,lql]
   have fin:∀(lev:Int),yD W lev->∀H4,bE H4 p->cA p H3 H4->Q (.ref T) H4\/True:=λ_ _ _ _ _=>.inr trivial
   cases e:W.store with
   |none=>
    rw[e] at hst
    replace hst:st=.non:=hst
    subst hst
    walk_at "w"
    intro r nr
    obtain⟨H4,i4,s4,g4⟩:=nw _ nr;rw[i4]
    walk_at "w"
    exact k r (ss,0) H4 ⟨T,g4,ts,s4 _ _ g3,aAE e33 s4.tk⟩ ⟨lss,e4,by unfold yD;rw[e]⟩ e5 (h1.same (s23.trans s4)) (k1.trans (s23.trans s4).keep)
   |some sv=>
    rw[e] at hst
    obtain⟨c,rfl,hc⟩:=hst
    have gs:=(hg.store sv e).cap
    have hc3:=(hc.tr ((hh.tr k1).trans s23.tr)).at_
    walk_at "w"
    refine⟨p,_,rfl,h1.same s23,by omega,by omega,λr5 H5 a5 b5 h5 k5 _=>?_⟩
    have tk5:=((h1.same s23).tr k5).tk
    walk_at "w"
    intro r nr
    obtain⟨H6,i6,s6,g6⟩:=nw _ nr;rw[i6]
    walk_at "w"
    exact k r (ss,r5) H6 ⟨T,g6,ts,s6 _ _ (tk5 _ _ g3),aAE e33 (tk5.trans s6.tk)⟩ ⟨lss,e4,by unfold yD;rw[e];exact⟨a5,by show r5<=sv.cap;omega⟩⟩ e5 (h5.same s6) (k1.trans (s23.keep.trans (k5.trans s6.keep)))
def aIS(K:W.Frag):Sp:=λvs H Q _=>∃(p ls t:Addr) (ms:List MS) (ss:List (Int×Int)),vs=[.ref p,.ref ls,.ref t]/\bE H p/\tT H ls ms/\aIH H t ss/\(∀m∈ms,m.Good)/\ms.length<=6/\ss.length=ms.length/\(∀s∈ss,VS s)/\
 ∀(r:Addr) (os:List Int) H',H' r=some (.tup (os.map V.int))->os.length=ms.length->(∀o∈os,yC o)->May ss os->bE H' p->cA p H H'->gA p H H'->Q (.ref r) H'
theorem aIT{P:Program}{w:World}{K:PySem.W.Frag}{mg:Str->Option Value}{base:Heap}{a:iR}(tx:Txt K mg a):bQ P w K mg base gE 2 a.wQ a.wR ["_law_hand","_law_specs","_law_states"] (aIS K):=by
 have lU:=uX (P:=P) (w:=w) (base:=base) tx
 have aO:=cN (P:=P) (w:=w) (base:=base) tx
 refine tx.aBt.ok oO (λvs H Q E h=>?_) (λcdv A outer s H vs Q E hr h=>?_)
 ·obtain⟨p,ls,t,ms,ss,rfl,_⟩:=h
  rfl
 ·obtain⟨p,ls,t,ms,ss,rfl ,hh,hsp,hst,hgm,hlen,hls,hvs,k⟩:=h
  have hu:=jO hr
  refine bA (aD (aJ (i:=3) oO.nd (gU aC))
   (aD (bM PassesOwn.never rfl (bO (by rfl) tx.cM (aA (aK (rc:=lW K) bS (by rfl) tx.eN dR (aA (Z.pv 1) aC)) aC)) (aL (i:=4) oO.nd) (aD (aJ (i:=5) oO.nd (zq1 aO hr tx.aU tx.aQ.kp tx.aT (aA (Z.pv 0) (aA aB aC))))
   (aD (bH (aZ aCJ (zq1 lU hr tx.qL tx.lP.kp tx.qK (aA (aE (K':=K) (Z.pv 1) (Z.pv 4)) (aA (aE (K':=K) (Z.pv 2) (Z.pv 4)) (aA (Z.pv 5) aC)))) eR (bK _)) (aG (aJ (i:=5) oO.nd (aI dJ aB (Z.pv 5)))) bC)
   (aG (eF (fB (K':=K) (Z.pv 3) (aA (Z.pv 5) aC)))))))
   (aG (aM (bX (rc:=aBk K) vD (by rfl) tx.lS vA (aA (Z.pv 3) aC)))))) ?_
  obtain⟨qs,hl,rl⟩:=hsp.ex
  obtain⟨qt,ht,rt⟩:=hst.ex
  have lql:=rl.len
  have lqt:=rt.len
  have lp:ls≠p:=hh.aIC hl
  refine aS (σ:=[some (.ref p),some (.ref ls),some (.ref t),none,none,none]) rfl ?_
  walk_at "w"
  intro l nl
  obtain⟨H1,i1,s1,g1⟩:=nw _ nl;rw[i1]
  have lnp:l≠p:=hh.aLt nl
  have hl1:=s1 _ _ hl
  walk_at "w"
  refine⟨by rw[bP];omega,by rw[bP];omega,?_⟩
  rw[Re9,bP,lql]
  refine iI (n:=ms.length) (λi σ' H'=>∃(os:List Int) (x4 x5:Option V),σ'=[some (.ref p),some (.ref ls),some (.ref t),some (.ref l),x4,x5]/\H' l=some (.lst (os.map V.int))/\os.length=i/\(∀o∈os,yC o)/\May ss os/\cA p H H'/\gA p H H')
   ⟨[],_,_,rfl,g1,rfl,(λo h=>by cases h),(λj s o _ h=>by simp at h),s1.keep,gA.of (s1 p)⟩ (λi σ' H' hi ⟨os,x4,x5,e,f1,f2,f3,f4,f5,f6⟩=>?_) (λσ' H' ⟨os,x4,x5,e,f1,f2,f3,f4,f5,f6⟩=>?_)
  ·subst e
   have hi':i < ms.length:=hi
   obtain⟨q,eq,hq⟩:=rl.ix hi'
   have his:i < ss.length:=by omega
   obtain⟨tq,etq,htq⟩:=rt.ix his
   have gm:=hgm _ (Rd9 hi')
   have sv:=hvs _ (Rd9 his)
   have gs:ss[i]?=some ss[i]:=dQ his
   generalize ms[i]=m at hq gm
   generalize ss[i]=sv' at htq sv gs
   have h2:=hh.of f5 f6
   walk_at "w"
   refine⟨p,_,rfl,h2,by decide,by decide,λr H3 a3 b3 h3 k3 q3=>?_⟩
   have K3:=f5.trans k3
   have Q3:=f6.trans q3
   have T3:=hh.tr K3
   have hl3:=K3 _ _ hl lp
   have ht3:=T3.tk _ _ ht
   have i1':mC (qs.map V.ref) (0+(i:Int))=some (.ref q):=by rw[Rj9];exact oG eq
   have i2':mC (qt.map V.ref) (0+(i:Int))=some (.ref tq):=by rw[Rj9];exact oG etq
   have hl3':=k3 _ _ f1 lnp
   have rb:yC r:=by unfold yC;omega
   repeat walk_at "st"
   refine iD (λσ' H'=>∃on:Int,σ'=[some (.ref p),some (.ref ls),some (.ref t),some (.ref l),some (.int (0+(i:Int))),some (.int on)]/\yC on/\(sv'.1=on\/sv'.2=0)/\aP H3 H') (λN hN=>?_) ?_
   ·walk_at "w"
    refine⟨q,m,tq,sv'.1,sv'.2,r,rfl,hq.tr T3,T3.tk _ _ htq,rb,sv.1,sv.2,λhmay T H4 s4 nT hT=>?_,λhmay=>?_⟩
    ·walk_at "w"
     exact hN _ _ ⟨r,rfl,rb,hmay,s4⟩
    ·walk_at "w"
     refine hN _ _ ⟨1 - r,rfl,aOY rb,.inl ?_,aP.refl _⟩
     have b1:=sv.1
     have n1:sv'.1≠r:=λz=>hmay (.inl z)
     unfold yC at b1 rb
     omega
   rintro σ4 H4 ⟨on,rfl,hon,hmay,s4⟩
   have hl4:=s4 _ _ hl3'
   walk_at "w"
   refine oW (bV.of hl4) ?_
   walk_at "w"
   refine uG (xs:=os.map V.int) hl4 (yK (by rw[bP,f2];omega:(os.map V.int).length < 2000) (cF (by simp))) ?_
   obtain⟨H5,i5,k5,g5⟩:=wr H4 l _;rw[i5]
   walk_at "w"
   refine⟨os ++ [on],_,_,rfl,by rw[g5,rW];rfl,by rw[oU,f2];rfl,λo ho=>?_,λj s o hs ho=>?_,λb o e nb=>k5 _ _ (s4 _ _ (K3 _ _ e nb)) (bG nl e),Q3.trans ((gA.of (s4 p)).trans (gA.of λo e=>k5 _ _ e (Ne.symm lnp)))⟩
   ·rcases Ri9.mp ho with h|h
    ·exact f3 o h
    ·rw[Qu9.mp h];exact hon
   ·by_cases hj:j < os.length
    ·rw[Qn9 hj] at ho
     exact f4 j s o hs ho
    ·have hj2:j < (os ++ [on]).length:=(lZ.mp ho).1
     rw[oU,Qz9] at hj2
     have ej:j=i:=by omega
     subst ej
     rw[gs] at hs
     cases hs
     rw[Qo9 (by omega),f2,Sa9] at ho
     cases ho
     exact hmay
  ·subst e
   walk_at "w"
   refine aBP (bV.of f1) ?_
   intro T nT
   obtain⟨H3,i3,s3,g3⟩:=nw _ nT;rw[i3]
   exact k T os H3 g3 f2 f3 f4 ((hh.of f5 f6).same s3) (f5.trans s3.keep) (f6.trans (gA.of (s3 p)))
def aEY(K:W.Frag):Sp:=λvs H Q _=>∃(p s:Addr) (m:MS) (on:Int),vs=[.ref p,.ref s,.int on]/\bE H p/\dB H s m/\m.Good/\
 ∀(out:Int) H',aAl m on out->bE H' p->cA p H H'->gA p H H'->Q (.int out) H'
theorem aEZ{P:Program}{w:World}{K:PySem.W.Frag}{mg:Str->Option Value}{base:Heap}{a:iR}(tx:Txt K mg a):bQ P w K mg base gE 3 a.nJ a.nK ["_law_hand","_law_spec_here","_law_on"] (aEY K):=by
 have aO:=cN (P:=P) (w:=w) (base:=base) tx
 have aBv:=aDz (P:=P) (w:=w) (base:=base) tx
 refine tx.uL.ok qW (λvs H Q E h=>?_) (λcdv A outer s H vs Q E hr h=>?_)
 ·obtain⟨p,s,m,on,rfl,_⟩:=h
  rfl
 ·obtain⟨p,s,m,on,rfl ,hh,hs,hg,k⟩:=h
  have hu:=jO hr
  refine bA (aD (bH (aZ (r:=oV K) (eE hu) (Z.pv 2) aB (bK _)) (aG (aM aB)) bC)
   (aD (aJ (i:=3) qW.nd (zq1 aO hr tx.aU tx.aQ.kp tx.aT (aA (Z.pv 0) (aA aB aC))))
   (aD (aJ (i:=4) qW.nd (aI bI (aE (K':=K) (Z.pv 1) aB) (aK (rc:=aLa K) (aAv rfl) (by rfl) tx.aA7 aEc (aA (cO (k:=2) (idx:=[]) (N:=["_law_amount","_law_rate"]) (cR (sc:=aH fD) (NX:=["_law_hand","_law_spec_here","_law_on","_law_way","_law_most"]) rfl rfl rfl (by decide +kernel)) rfl (bT (K':=K) (aE (K':=K) (Z.pv 1) aB)) (λ_ _ _ _=>(cC (K':=K) (n:=2) rfl (aV (aL (i:=0) (show(["_law_amount","_law_rate"]:List Str).Nodup by decide +kernel)) (aV (aL (i:=1) (show(["_law_amount","_law_rate"]:List Str).Nodup by decide +kernel)) cB)))) (aBL (eO (by decide) (eO (by decide) yW))) (λ_ _ _ _=>bR) (λ_ _ _ _=>(Z.pv 0))) aC))))
   (aG (aM (aE (K':=K) (aAx (aE (K':=K) (Z.pv 1) aB) (Z.pv 4) (aI bI (aE (K':=K) (Z.pv 1) aB) (zq1 aBv hr tx.aBo tx.wW.kp tx.aBn (aA (Z.pv 0) (aA (aI bI (aI dJ (Z.pv 4) (aE (K':=K) (Z.pv 1) aB)) aB) aC))))) (aK (eQ rfl) (by rfl) tx.lY mD (aA aB (aA (aI dJ (Z.pv 3) aB) aC))))))))) ?_
  obtain⟨sm0,sm1⟩:=aQ5 (ps:=m.pieces) (λt ht=>(hg.pieces.pc t ht).2.1)
  refine aS (σ:=[some (.ref p),some (.ref s),some (.int on),none,none]) rfl ?_
  walk_at "w"
  refine cD (λh0=>?_) (λh0=>?_)
  ·walk_at "w"
   exact k _ _ ⟨λ_=>rfl,λz=>absurd h0 z⟩ hh (λ_ _ e _=>e) (gA.of λ_ e=>e)
  ·walk_at "w"
   refine⟨p,_,rfl,hh,by decide,by decide,λr H1 a1 b1 h1 k1 q1=>?_⟩
   have hs1:=hs.tr (hh.tr k1)
   obtain⟨pl,hx,hp⟩:=hs1.ex
   obtain⟨qs,g1,g2⟩:=hp.ex
   walk_at "w"
   refine kU (bV.of g1) ?_
   refine aNm (λt=>some t.1) g1 g2 hg.pieces.len (λq t N N' hm hq hN hN'=>?_) ?_
   ·refine eM (kQ.of hq) rfl ?_
    walk_at "w"
    exact hN _ rfl
   intro l1 n1
   obtain⟨H2,i2,s2,e2⟩:=nw _ n1;rw[i2]
   walk_at "w"
   refine aGK (bV.of e2) ?_
   rw[aNl]
   have hx2:=s2 _ _ hx
   have h2:=h1.same s2
   walk_at "w"
   refine⟨p,_,rfl,h2,by omega,λr2 H3 a3 b3 h3 k3 q3=>?_⟩
   walk_at "w"
   intro c nc
   obtain⟨H4,i4,s4,e4⟩:=nw _ nc;rw[i4]
   walk_at "w"
   have K4:=k1.trans (s2.keep.trans (k3.trans s4.keep))
   have Q4:=q1.trans ((gA.of (s2 p)).trans (q3.trans (gA.of (s4 p))))
   have hw:max 0 (r - 1)=0\/max 0 (r - 1)=1\/max 0 (r - 1)=2:=by omega
   rcases hw with e|e|e
   ·refine uF (bV.of e4) (by rw[e];rfl) ?_
    exact k _ _ ⟨λz=>absurd z h0,λ_=>⟨by omega,by omega⟩⟩ (h3.same s4) K4 Q4
   ·refine uF (bV.of e4) (by rw[e];rfl) ?_
    exact k _ _ ⟨λz=>absurd z h0,λ_=>⟨by omega,by omega⟩⟩ (h3.same s4) K4 Q4
   ·refine uF (bV.of e4) (by rw[e];rfl) ?_
    exact k _ _ ⟨λz=>absurd z h0,λ_=>⟨by omega,by omega⟩⟩ (h3.same s4) K4 Q4
def aHs(K:PySem.W.Frag):Sp:=λvs H Q _=>∃(p s x:Addr) (W:WS) (P:Ps),vs=[.ref p,.ref s,.ref x]/\bE H p/\iG H s W/\W.Good/\rT H x P/\vS W P/\
 ∀(r:Addr) (h:Hr) H',aHf H' r h->xQ W P h->bE H' p->cA p H H'->Q (.ref r) H'
theorem aHt{P:Program}{w:World}{K:PySem.W.Frag}{mg:Str->Option Value}{base:Heap}{a:iR}(tx:Txt K mg a):bQ P w K mg base gE 4 a.sW a.sX ["_law_hand","_law_spec_here","_law_position_here"] (aHs K):=by
 have aO:=cN (P:=P) (w:=w) (base:=base) tx
 have aFP:=aEV (P:=P) (w:=w) (base:=base) tx
 have aJW:=aIT (P:=P) (w:=w) (base:=base) tx
 have aFQ:=aEZ (P:=P) (w:=w) (base:=base) tx
 refine tx.zV.ok pJ (λvs H Q E h=>?_) (λcdv A outer s H vs Q E hr h=>?_)
 ·obtain⟨p,s,x,W,P,rfl,_⟩:=h
  rfl
 ·obtain⟨p,s,x,W,P,rfl ,hh,hW,hg,hP,hok,k⟩:=h
  have hu:=jO hr
  refine bA (aD (qQ (i:=3) pJ.nd rfl (Or.inr rfl) (zq1 aJW hr tx.aEF tx.aBt.kp tx.aEE (aA (Z.pv 0) (aA (aE (K':=K) (Z.pv 1) aB) (aA (aE (K':=K) (Z.pv 2) aB) aC)))))
   (aD (aJ (i:=4) pJ.nd (bX (rc:=aBk K) vD (by rfl) tx.lS vA (aA (cO (k:=1) (idx:=[0,3,1]) (N:=["_law_k","_law_hand","_law_ons_here","_law_spec_here"]) (cR (sc:=aH iN) (NX:=["_law_hand","_law_spec_here","_law_position_here","_law_ons_here","_law_outputs","_law_levels_here"]) rfl rfl rfl (by decide +kernel)) rfl (bO (by rfl) tx.cM (aA (aK (rc:=lW K) bS (by rfl) tx.eN dR (aA (Z.pv 3) aC)) aC)) (λ_ _ _ _=>(aL (i:=0) (show(["_law_k","_law_hand","_law_ons_here","_law_spec_here"]:List Str).Nodup by decide +kernel))) (cY (by decide)) (λ_ _ _ _=>bR) (λ_ _ _ _=>(zq1 aFQ hr tx.aAY tx.uL.kp tx.aAX (aA (Z.pv 1) (aA (aE (K':=K) (aE (K':=K) (Z.pv 3) aB) (Z.pv 0)) (aA (aE (K':=K) (Z.pv 2) (Z.pv 0)) aC)))))) aC)))
   (aD (aJ (i:=5) pJ.nd (zq1 aFP hr tx.aAW tx.uK.kp tx.aAV (aA (aE (K':=K) (Z.pv 1) aB) (aA (aE (K':=K) (Z.pv 2) aB) aC))))
   (aG (aM (aAy (Z.pv 3) (Z.pv 4) (aE (K':=K) (Z.pv 5) (zq1 aO hr tx.aU tx.aQ.kp tx.aT (aA (Z.pv 0) (aA (aK (rc:=lW K) bS (by rfl) tx.eN dR (aA (Z.pv 5) aC)) aC)))))))))) ?_
  have hlen:=hg.len
  obtain⟨ls,st,b,hs,hsp,hst,hb⟩:=hW.ex
  obtain⟨qs,hl,rl⟩:=hsp.ex
  have lql:=rl.len
  obtain⟨t,hx,hts⟩:=hP.ex
  have sp:s≠p:=hh.aG8 hs (by simp)
  have lp:ls≠p:=hh.aIC hl
  refine aS (σ:=[some (.ref p),some (.ref s),some (.ref x),none,none,none]) rfl ?_
  walk_at "w"
  refine⟨p,ls,t,W.specs,P.1,rfl,hh,hsp,hts,hg.specs,hlen,hok.len,hok.vs,λT os H1 hT los bos may h1 k1 q1=>?_⟩
  have T1:=hh.tr k1
  have hs1:=k1 _ _ hs sp
  have hl1:=k1 _ _ hl lp
  have hx1:=T1.tk _ _ hx
  walk_at "w"
  refine⟨by rw[bP];omega,by rw[bP];omega,?_⟩
  rw[Re9,bP]
  refine iH (n:=os.length) (λi us H'=>bE H' p/\cA p H1 H'/\∃outs:List Int,us=outs.map V.int/\outs.length=i/\∀(j:Nat) m on out,W.specs[j]?=some m->os[j]?=some on->outs[j]?=some out->aAl m on out) ⟨h1,λ_ _ e _=>e,[],rfl,rfl,λj m on out _ _ h=>by simp at h⟩ (cF (by omega))
   (λi us H' hi ⟨h2,k2,outs,e1,e2,e3⟩=>by rw[e1,bP];omega) (λi us H' hi ⟨h2,k2,outs,e1,e2,e3⟩=>?_) (λus H' ⟨h2,k2,outs,e1,e2,e3⟩=>?_)
  ·have hi':i < W.specs.length:=by omega
   obtain⟨q,eq,hq⟩:=rl.ix hi'
   have gm:=hg.specs _ (Rd9 hi')
   have hm:W.specs[i]?=some W.specs[i]:=dQ hi'
   have ho:os[i]?=some os[i]:=dQ hi
   generalize W.specs[i]=m at hq gm hm
   generalize os[i]=on at ho
   have T2:=h1.tr k2
   have hs2:=k2 _ _ hs1 sp
   have hl2:=k2 _ _ hl1 lp
   have hT2:=T2.tk _ _ hT
   have i1':mC (qs.map V.ref) (0+(i:Int))=some (.ref q):=by rw[Rj9];exact oG eq
   have i2':mC (os.map V.int) (0+(i:Int))=some (.int on):=by rw[Rj9];exact oH ho
   walk_at "w"
   refine⟨p,q,m,on,rfl,h2,hq.tr (T1.trans T2),gm,λout H3 hout h3 k3 _=>?_⟩
   refine⟨h3,k2.trans k3,outs ++ [out],by rw[e1,rW];rfl,by rw[oU,e2];rfl,λj m' on' out' g1 g2 g3=>?_⟩
   by_cases hj:j < outs.length
   ·rw[Qn9 hj] at g3
    exact e3 j m' on' out' g1 g2 g3
   ·have hj2:j < (outs ++ [out]).length:=(lZ.mp g3).1
    rw[oU,Qz9] at hj2
    have ej:j=i:=by omega
    subst ej
    rw[hm] at g1
    cases g1
    rw[ho] at g2
    cases g2
    rw[Qo9 (by omega),e2,Sa9] at g3
    cases g3
    exact hout
  ·subst e1
   intro l1 n1
   obtain⟨H3,i3,s3,g3⟩:=nw _ n1;rw[i3]
   walk_at "w"
   refine aBP (bV.of g3) ?_
   intro T2 nT2
   obtain⟨H4,i4,s4,g4⟩:=nw _ nT2;rw[i4]
   have T4:=T1.trans ((h1.tr k2).trans (s3.tr.trans s4.tr))
   have K4:=k1.trans (k2.trans (s3.keep.trans s4.keep))
   have hs4:=K4 _ _ hs sp
   have hx4:=T4.tk _ _ hx
   have h4:=h2.same (s3.trans s4)
   walk_at "w"
   refine⟨st,W.store,P.2,rfl,hst.tr T4,λsv e=>⟨hg.store sv e,by have:=hok.lev;unfold yD at this;rw[e] at this;exact this⟩,λq H5 s5 nq hq=>?_⟩
   obtain⟨lv0,lv1⟩:=aRY hg hok.lev
   have qp:q≠p:=h4.aLt nq
   walk_at "w"
   refine⟨p,_,rfl,h4.same s5,by rw[bP];omega,by rw[bP];omega,λr6 H6 a6 b6 h6 k6 _=>?_⟩
   rw[bP] at b6
   have hq6:=k6 _ _ hq qp
   obtain⟨j6,hj6⟩ : ∃j:Nat,r6=(j:Int):=⟨_,(Int.toNat_of_nonneg a6).symm⟩
   have lj6:j6 < (lvO W.store P.2).length:=by omega
   have g6:(lvO W.store P.2)[j6]?=some (lvO W.store P.2)[j6]:=dQ lj6
   generalize (lvO W.store P.2)[j6]=lev at g6
   walk_at "w"
   refine uF (bV.of hq6) (by rw[hj6];exact oH g6) ?_
   walk_at "w"
   intro r nr
   obtain⟨H7,i7,s7,g7⟩:=nw _ nr;rw[i7]
   have tk7:Tk H4 H7:=(s5.tr.trans (((h4.same s5).tr k6).trans s7.tr)).tk
   walk_at "w"
   refine k r ⟨os,outs,lev⟩ H7 ⟨T,T2,g7,tk7 _ _ (((h1.tr k2).tk.trans (s3.trans s4).tk) _ _ hT),tk7 _ _ g4⟩ ⟨los,by show outs.length=_;rw[e2,los],bos,may,e3,aRb hg hok.lev (oS g6)⟩ (h6.same s7) (K4.trans (s5.keep.trans (k6.trans s7.keep)))
def aE0(K:PySem.W.Frag):Sp:=λvs H Q _=>∃(s x y:Addr) (W:WS) (P:Ps) (h:Hr),vs=[.ref s,.ref x,.ref y]/\iG H s W/\W.Good/\rT H x P/\vS W P/\aHf H y h/\xQ W P h/\
 ∀r H',aP H H'->rT H' r (nxt W P h)->Q (.ref r) H'
theorem aE1{P:Program}{w:World}{K:PySem.W.Frag}{mg:Str->Option Value}{base:Heap}{a:iR}(tx:Txt K mg a):bQ P w K mg base gE 2 a.nL a.nM ["_law_spec_here","_law_position_here","_law_hour_here"] (aE0 K):=by
 have lU:=uX (P:=P) (w:=w) (base:=base) tx
 refine tx.uM.ok y8 (λvs H Q E h=>?_) (λcdv A outer s H vs Q E hr h=>?_)
 ·obtain⟨s,x,y,W,P,h,rfl,_⟩:=h
  rfl
 ·obtain⟨s,x,y,W,P,h,rfl ,hW,hg,hP,hok,hh,hho,k⟩:=h
  have hu:=jO hr
  refine bA (aD (aJ (i:=3) y8.nd (bX (rc:=aBk K) vD (by rfl) tx.lS vA (aA (cO (k:=1) (idx:=[2,1,0]) (N:=["_law_k","_law_hour_here","_law_position_here","_law_spec_here"]) (cR (sc:=aH fE) (NX:=["_law_spec_here","_law_position_here","_law_hour_here","_law_states"]) rfl rfl rfl (by decide +kernel)) rfl (bO (by rfl) tx.cM (aA (aK (rc:=lW K) bS (by rfl) tx.eN dR (aA (aE (K':=K) (Z.pv 0) aB) aC)) aC)) (λ_ _ _ _=>(aL (i:=0) (show(["_law_k","_law_hour_here","_law_position_here","_law_spec_here"]:List Str).Nodup by decide +kernel))) (cY (by decide)) (λ_ _ _ _=>bR) (λ_ _ _ _=>(zq1 lU hr tx.qL tx.lP.kp tx.qK (aA (aE (K':=K) (aE (K':=K) (Z.pv 3) aB) (Z.pv 0)) (aA (aE (K':=K) (aE (K':=K) (Z.pv 2) aB) (Z.pv 0)) (aA (aE (K':=K) (aE (K':=K) (Z.pv 1) aB) (Z.pv 0)) aC)))))) aC)))
   (aG (aM (eW (Z.pv 3) (aE (K':=K) (Z.pv 2) aB))))) ?_
  have hlen:=hg.len
  obtain⟨ls,st,b,hs,hsp,hst,hb⟩:=hW.ex
  obtain⟨qs,hl,rl⟩:=hsp.ex
  have lql:=rl.len
  obtain⟨t,hx,hts⟩:=hP.ex
  obtain⟨qt,ht,rt⟩:=hts.ex
  obtain⟨u,v,hy,hu,hv⟩:=hh.ex
  have ll:=hok.len
  have lo:=hho.ons
  refine aS (σ:=[some (.ref s),some (.ref x),some (.ref y),none]) rfl ?_
  walk_at "w"
  refine⟨by rw[bP];omega,by rw[bP];omega,?_⟩
  rw[Re9,bP,lql]
  refine iH (n:=W.specs.length) (λi us H'=>aP H H'/\∃rs,us=rs.map V.ref/\rs.length=i/\RL (StA H') rs ((m3 W.specs P.1 h.ons).take i)) ⟨aP.refl _,[],rfl,rfl,RL.nil⟩ (cF (by omega))
   (λi us H' hi ⟨s1,rs,e1,e2,e3⟩=>by rw[e1,bP];omega) (λi us H' hi ⟨s1,rs,e1,e2,e3⟩=>?_) (λus H' ⟨s1,rs,e1,e2,e3⟩=>?_)
  ·have hi':i < W.specs.length:=hi
   obtain⟨q,eq,hq⟩:=rl.ix hi'
   have his:i < P.1.length:=by omega
   obtain⟨tq,etq,htq⟩:=rt.ix his
   have hio:i < h.ons.length:=by omega
   have hm:W.specs[i]?=some W.specs[i]:=dQ hi'
   have hsv:P.1[i]?=some P.1[i]:=dQ his
   have ho:h.ons[i]?=some h.ons[i]:=dQ hio
   have sv:=hok.vs _ (Rd9 his)
   have bo:=hho.bits _ (Rd9 hio)
   generalize W.specs[i]=m at hq hm
   generalize P.1[i]=sv' at htq hsv sv
   generalize h.ons[i]=on at ho bo
   have may:=hho.may i sv' on hsv ho
   have i1':mC (qs.map V.ref) (0+(i:Int))=some (.ref q):=by rw[Rj9];exact oG eq
   have i2':mC (qt.map V.ref) (0+(i:Int))=some (.ref tq):=by rw[Rj9];exact oG etq
   have i3':mC (h.ons.map V.int) (0+(i:Int))=some (.int on):=by rw[Rj9];exact oH ho
   walk_at "w"
   refine⟨q,m,tq,sv'.1,sv'.2,on,rfl,hq.same s1,s1 _ _ htq,bo,sv.1,sv.2,λ_ T H2 s2 nT hT=>?_,λz=>absurd may z⟩
   refine⟨s1.trans s2,rs ++ [T],by rw[e1,rW];rfl,by rw[oU,e2];rfl,?_⟩
   rw[aLw ll lo hm hsv ho]
   exact(aAE e3 s2.tk).snoc hT
  ·subst e1
   intro l1 n1
   obtain⟨H3,i3,s3,g3⟩:=nw _ n1;rw[i3]
   walk_at "w"
   refine aBP (bV.of g3) ?_
   intro T nT
   obtain⟨H4,i4,s4,g4⟩:=nw _ nT;rw[i4]
   have s14:=s1.trans (s3.trans s4)
   have hy4:=s14 _ _ hy
   walk_at "w"
   intro r nr
   obtain⟨H5,i5,s5,g5⟩:=nw _ nr;rw[i5]
   walk_at "w"
   rw[St9 (by rw[aCj ll lo];exact gB _)] at e3
   exact k r H5 (s14.trans s5) ⟨T,g5,rs,s5 _ _ g4,aAE e3 (s3.trans (s4.trans s5)).tk⟩
def aHu(K:PySem.W.Frag):Sp:=λvs H Q _=>∃(ad:Addr) (ns:List Int) (f n:Int) (s x:Addr) (W:WS) (P:Ps),vs=[.ref ad,.int f,.int n,.ref s,.ref x]/\bV K H ad (ns.map V.int)/\ns.length<=63/\0<=f/\f<=1000/\0<=n/\n<=48/\iG H s W/\W.Good/\rT H x P/\vS W P/\
 ∀r hs H',aP H H'->H r=none->aAj H' r hs->hs.length=n.toNat->cX W P hs->Q (.ref r) H'
theorem aHv{P:Program}{w:World}{K:PySem.W.Frag}{mg:Str->Option Value}{base:Heap}{a:iR}(tx:Txt K mg a):bQ P w K mg base gE 5 a.sY a.sZ ["_law_script","_law_first","_law_hours","_law_spec_here","_law_position_here"] (aHu K):=by
 have aFR:=aE1 (P:=P) (w:=w) (base:=base) tx
 have aIU:=aHt (P:=P) (w:=w) (base:=base) tx
 have aAn:=aCh (P:=P) (w:=w) (base:=base) tx
 refine tx.zW.ok pK (λvs H Q E h=>?_) (λcdv A outer s H vs Q E hr h=>?_)
 ·obtain⟨ad,ns,f,n,s,x,W,P,rfl,_⟩:=h
  rfl
 ·obtain⟨ad,ns,f,n,s,x,W,P,rfl ,hS,hl,f0,f1,n0,n1,hW,hg,hP,hok,k⟩:=h
  have hu:=jO hr
  refine bA (aD (aJ (i:=5) pK.nd (gU aC))
   (aD (bM PassesOwn.never rfl (aAR (by rfl) tx.cM (aA (Z.pv 1) (aA (aI bI (Z.pv 1) (Z.pv 2)) aC))) (aL (i:=6) pK.nd) (aD (eF (fB (K':=K) (Z.pv 5) (aA (zq1 aIU hr tx.aDm tx.zV.kp tx.aDl (aA (zq1 aAn hr tx.zB tx.tN.kp tx.zA (aA (Z.pv 0) (aA (Z.pv 6) aC))) (aA (Z.pv 3) (aA (Z.pv 4) aC)))) aC)))
   (aG (aJ (i:=4) pK.nd (zq1 aFR hr tx.aA0 tx.uM.kp tx.aAZ (aA (Z.pv 3) (aA (Z.pv 4) (aA (aE (K':=K) (Z.pv 5) (qU aBd aB)) aC))))))))
   (aG (aM (Z.pv 5))))) ?_
  refine aS (σ:=[some (.ref ad),some (.int f),some (.int n),some (.ref s),some (.ref x),none,none]) rfl ?_
  walk_at "w"
  intro l nl
  obtain⟨H1,i1,s1,g1⟩:=nw _ nl;rw[i1]
  walk_at "w"
  refine⟨⟨by omega,by omega,by omega,by omega⟩,?_⟩
  rw[show f+n - f=n by omega]
  refine iI (n:=n.toNat) (λi σ' H'=>∃x' x6 qs hs,σ'=[some (.ref ad),some (.int f),some (.int n),some (.ref s),some (.ref x'),some (.ref l),x6]/\H' l=some (.lst (qs.map V.ref))/\RL (aHf H') qs hs/\hs.length=i/\cX W P hs/\rT H' x' (aJT W P hs)/\aP H H')
   ⟨x,_,[],[],rfl,g1,RL.nil,rfl,trivial,hP.tk s1.tk,s1⟩ (λi σ' H' hi ⟨x',x6,qs,hs,e,f1,f2,f3,f4,f5,f6⟩=>?_) (λσ' H' ⟨x',x6,qs,hs,e,f1,f2,f3,f4,f5,f6⟩=>?_)
  ·subst e
   have lqs:=f2.len
   have pos:=f4.pos hg hok
   walk_at "w"
   refine oW (bV.of f1) ?_
   walk_at "w"
   refine⟨ad,ns,_,rfl,aP.seq f6 hS,hl,by omega,λp H2 s2 np hh=>?_⟩
   walk_at "w"
   refine⟨p,s,x',W,_,rfl,hh,hW.tr (f6.trans s2).tr,hg,f5.tk s2.tk,pos,λr h H3 hr hho h3 k3=>?_⟩
   have s3:aP H' H3:=aBy np s2 k3
   have g3:=s3 _ _ f1
   walk_at "w"
   refine uG (xs:=qs.map V.ref) g3 (yK (by rw[bP,lqs,f3];omega:(qs.map V.ref).length < 2000) (cF (by simp))) ?_
   obtain⟨H4,i4,k4,g4⟩:=wr H3 l _;rw[i4]
   have s4:aP H H4:=λb o e=>k4 _ _ ((f6.trans s3) _ _ e) (bG nl e)
   have tk4:Tk H3 H4:=by rw[<-i4];exact aJR g3
   have f2':=(f2.imp λa x z=>z.tk (s3.tk.trans tk4)).snoc (hr.tk tk4)
   have g4':H4 l=some (.lst ((qs ++ [r]).map V.ref)):=by rw[g4,rW];rfl
   have il:mC ((qs ++ [r]).map V.ref) (-1)=some (.ref r):=by rw[rW];exact aO0 _
   walk_at "w"
   refine⟨s,x',r,W,_,h,rfl,hW.tr s4.tr,hg,(f5.tk s3.tk).tk tk4,pos,hr.tk tk4,hho,λy H5 s5 hy=>?_⟩
   walk_at "w"
   refine⟨y,_,qs ++ [r],hs ++ [h],rfl,s5 _ _ g4',f2'.imp λa x z=>z.tk s5.tk,by rw[oU,f3];rfl,f4.snoc hho,by rw[aGs];exact hy,s4.trans s5⟩
  ·subst e
   walk_at "w"
   exact k l hs H' f6 nl ⟨qs,f1,f2⟩ f3 f4
def aDR(K:W.Frag)(C:Addr):Sp:=λvs H Q _=>∃(x:Addr) (s:SS) (l h:Int),vs=[.ref x,.int l,.int h]/\gL C H x s/\s.Good/\0<=l/\l<=8/\0<=h/\h<=48/\
 ∀q H',aP H H'->H' q=some (.lst ((upL (max (l - s.out*h) 0) (min (l+s.into*h) s.cap+1 - max (l - s.out*h) 0).toNat).map V.int))->Q (.ref q) H'
theorem yE{mg:Str->Option Value}{a:iR}(tx:Txt K mg a):bQ P w K mg base gE 1 a.lM a.lN ["store","level","hours"] (aDR K a.cL):=by
 refine tx.lR.ok oY (λvs H Q E h=>?_) (λcdv A outer s H vs Q E hr h=>?_)
 ·obtain⟨x,ss,l,h,rfl,_⟩:=h
  rfl
 ·obtain⟨x,ss,l,h,rfl ,hs,hg,l0,l1,h0,h1,k⟩:=h
  have hu:=jO hr
  refine bA (aD (aJ (i:=3) oY.nd (aK (eQ rfl) (by rfl) tx.lY mD (aA (aI dJ (Z.pv 1) (aI bN (cT (K':=K) (Z.pv 0) rfl) (Z.pv 2))) (aA aB aC))))
   (aD (aJ (i:=4) oY.nd (aK (mE rfl) (by rfl) tx.vQ yX (aA (aI bI (Z.pv 1) (aI bN (cT (K':=K) (Z.pv 0) rfl) (Z.pv 2))) (aA (cT (K':=K) (Z.pv 0) rfl) aC))))
   (aG (aM (bX (rc:=aGL) (aEf rfl) (by rfl) tx.mY rZ (aA (bX (rc:=aOG) aGe (by rfl) tx.cM aH7 (aA (Z.pv 3) (aA (aI bI (Z.pv 4) aB) aC))) aC)))))) ?_
  obtain⟨dx,hx⟩:=hs.ex
  obtain⟨c0,c1⟩:=hg.cap
  obtain⟨i0,i1⟩:=hg.into
  obtain⟨o0,o1⟩:=hg.out
  have e1:0<=ss.out*h/\ss.out*h<=384:=⟨Td9 o0 h0,Sm9 (Int.mul_le_mul o1 h1 h0 (by omega)) (by decide)⟩
  have e2:0<=ss.into*h/\ss.into*h<=384:=⟨Td9 i0 h0,Sm9 (Int.mul_le_mul i1 h1 h0 (by omega)) (by decide)⟩
  refine aS (σ:=[some (.ref x),some (.int l),some (.int h),none,none]) rfl ?_
  walk_at "w"
  refine j0 hx tx.jX tx.aAf rfl ?_
  walk_at "w"
  refine j0 hx tx.jX tx.xN rfl ?_
  walk_at "w"
  refine j0 hx tx.jX tx.aAe rfl ?_
  walk_at "w"
  intro p np
  walk_at "w"
  refine aIc aN (by omega) (by omega) ?_
  intro q nq
  exact k q _ ((aP.new np).trans (aP.new nq)) aN
def aE2(K:W.Frag)(C:Addr):Sp:=λvs H Q _=>∃(x:Addr) (s:SS) (l:Int),vs=[.ref x,.int l]/\gL C H x s/\s.Good/\0<=l/\l<=8/\
 ∀q H',aP H H'->H' q=some (.lst ((upL (max (l - s.out*1) 0) (min (l+s.into*1) s.cap+1 - max (l - s.out*1) 0).toNat).map V.int))->Q (.ref q) H'
theorem aE3{mg:Str->Option Value}{a:iR}(tx:Txt K mg a):bQ P w K mg base gE 2 a.nO a.nP ["store","level"] (aE2 K a.cL):=by
 have rV:=yE (P:=P) (w:=w) (base:=base) tx
 refine tx.uN.ok aEy (λvs H Q E h=>?_) (λcdv A outer s H vs Q E hr h=>?_)
 ·obtain⟨x,ss,l,rfl,_⟩:=h
  rfl
 ·obtain⟨x,ss,l,rfl ,hs,hg,l0,l1,k⟩:=h
  have hu:=jO hr
  refine bA (aG (aM (zq1 rV hr tx.rF tx.lR.kp tx.rE (aA (Z.pv 0) (aA (Z.pv 1) (aA aB aC)))))) ?_
  refine aS (σ:=[some (.ref x),some (.int l)]) rfl ?_
  walk_at "w"
  exact⟨x,ss,l,1,rfl,hs,hg,l0,l1,by decide,by decide,k⟩
def aIV(K:W.Frag)(C:Addr):Sp:=λvs H Q _=>∃(x:Addr) (s:SS) (l n:Int),vs=[.ref x,.int l,.int n]/\gL C H x s/\s.Good/\Q (.int (dr s l n)) H
theorem aIW{mg:Str->Option Value}{a:iR}(tx:Txt K mg a):bQ P w K mg base gE 1 a.wU a.wV ["store","level","later"] (aIV K a.cL):=by
 refine tx.aBu.ok aDg (λvs H Q E h=>?_) (λcdv A outer s H vs Q E hr h=>?_)
 ·obtain⟨x,ss,l,n,rfl,_⟩:=h
  rfl
 ·obtain⟨x,ss,l,n,rfl ,hs,hg,k⟩:=h
  have hu:=jO hr
  refine bA (aD (aJ (i:=3) aDg.nd (aDa (aZ aBG (Z.pv 2) (Z.pv 1) (bK _)) (cT (K':=K) (Z.pv 0) rfl) (cT (K':=K) (Z.pv 0) rfl)))
   (aG (aM (aI bN (Z.pv 3) (aI dJ (Z.pv 2) (Z.pv 1)))))) ?_
  obtain⟨dx,hx⟩:=hs.ex
  obtain⟨t0,t1⟩:=hg.takes
  obtain⟨g0,g1⟩:=hg.gives
  refine aS (σ:=[some (.ref x),some (.int l),some (.int n),none]) rfl ?_
  walk_at "w"
  unfold dr at k
  refine cD (λh=>?_) (λh=>?_)
  ·rw[if_pos h] at k
   walk_at "w"
   refine j0 hx tx.jX tx.uV rfl ?_
   walk_at "w"
   exact k
  ·rw[if_neg h] at k
   walk_at "w"
   refine j0 hx tx.jX tx.uW rfl ?_
   walk_at "w"
   exact k
def κI:PK Int:=.ik (λn=>.inl n) λx y h=>Sum.inl.inj h
def upTo(s:SS)(l:Int)(h:Int):List Int:=upL (max (l - s.out*h) 0) (min (l+s.into*h) s.cap+1 - max (l - s.out*h) 0).toNat
def lwy(s:SS)(p x:Int):List (Wy Int):=(upTo s x 1).map λy=>(y,y,p*dr s x y)
def Wl(s:SS)(ps:List Int)(i:Nat)(x:Int):List (Wy Int):=lwy s (ps.getD i 0) x
def Lys(s:SS)(l:Int)(n:Nat):List (List Int):=(List.range (n+1)).map λ(i:Nat)=>upTo s l (i:Int)
theorem mem_upTo{s:SS}{l h n:Int}:n∈upTo s l h↔max (l - s.out*h) 0<=n/\n<=min (l+s.into*h) s.cap:=by
 unfold upTo
 rw[aHd]
 omega
theorem aRc(lo:Int):∀k:Nat,(upL lo k).Pairwise (·< ·):=by
 intro k
 unfold upL
 rw[Sy9]
 exact List.pairwise_lt_range.imp λh=>by omega
theorem aLB(s:SS)(l h:Int):(upTo s l h).Pairwise (·< ·):=aRc _ _
theorem aE4{s:SS}(g:s.Good)(l h:Int):(upTo s l h).length<=9:=by
 unfold upTo
 rw[aKw]
 have:=g.cap.2
 omega
theorem xU{l:Int}{n i:Nat}{ps:List Int}(h:(Lys s l n)[i]?=some ps):ps=upTo s l (i:Int)/\i<=n:=by
 unfold Lys at h
 rw[oR] at h
 obtain⟨j,hj,rfl⟩:=Qp9.mp h
 have hi:i < n+1:=by
  have:=(lZ.mp hj).1
  rwa[Tq9] at this
 rw[Tg9 hi] at hj
 cases hj
 exact⟨rfl,by omega⟩
theorem tZ(s:SS)(l:Int)(n:Nat):(Lys s l n).length=n+1:=by unfold Lys;rw[bP,Tq9]
theorem aJX{l:Int}{n i:Nat}(h:i<=n):(Lys s l n)[i]?=some (upTo s l (i:Int)):=by
 unfold Lys
 rw[oR,Tg9 (by omega)]
 rfl
theorem aHw{s:SS}{l h n:Int}(hn:n∈upTo s l h):0<=n/\n<=s.cap:=by
 have:=mem_upTo.mp hn
 omega
theorem aLC{s:SS}(g:s.Good){x:Int}(h0:0<=x)(h1:x<=s.cap):x∈upTo s x 1:=by
 have:=g.out.1
 have:=g.into.1
 rw[mem_upTo]
 omega
theorem aO7{s:SS}(g:s.Good){l x n:Int}{i:Nat}(hx:x∈upTo s l (i:Int))(hn:n∈upTo s x 1):n∈upTo s l ((i+1:Nat):Int):=by
 have a:=mem_upTo.mp hx
 have b:=mem_upTo.mp hn
 rw[mem_upTo]
 have e1:s.out*((i+1:Nat):Int)=s.out*(i:Int)+s.out:=by push_cast;rw[Int.mul_add,So9]
 have e2:s.into*((i+1:Nat):Int)=s.into*(i:Int)+s.into:=by push_cast;rw[Int.mul_add,So9]
 rw[e1,e2]
 rw[So9,So9] at b
 omega
theorem aNw{s:SS}{l:Int}(h0:0<=l)(h1:l<=s.cap):upTo s l 0=[l]:=by
 unfold upTo
 rw[Sb9,Sb9,show max (l - 0) 0=l by omega,show(min (l+0) s.cap+1 - l).toNat=1 by omega]
 unfold upL
 simp
theorem aNx{s:SS}(g:s.Good){l:Int}(ps:List Int)(h0:0<=l)(h1:l<=s.cap):aKA (Wl s ps) (Lys s l ps.length):=by
 refine⟨by rw[tZ];omega,λqs hq=>?_,λqs hq=>?_,λi qs x e hi hx=>?_,λi qs rs x w e1 e2 hx hw=>?_⟩
 ·obtain⟨i,ei⟩:=Rk9 hq
  rw[(xU ei).1]
  exact(aLB _ _ _).imp λh=>Int.ne_of_lt h
 ·obtain⟨i,ei⟩:=Rk9 hq
  rw[(xU ei).1]
  exact Rp9 (aE4 g _ _) (by decide)
 ·rw[(xU e).1] at hx
  obtain⟨x0,x1⟩:=aHw hx
  unfold Wl lwy
  refine⟨λz=>?_,?_⟩
  ·have:=aLC g x0 x1
   rw[List.map_eq_nil_iff.mp z] at this
   cases this
  ·rw[bP]
   exact Rp9 (aE4 g _ _) (by decide)
 ·rw[(xU e1).1] at hx
  rw[(xU e2).1]
  obtain⟨y,hy,rfl⟩:=xX.mp hw
  exact aO7 g hx hy
def lwF(s:SS)(ps:List Int)(l:Int):Int:=wF (Wl s ps) ps.length 0 l
def lpF(s:SS)(ps:List Int)(l:Int):List Int:=aCl (Wl s ps) ps.length 0 l
theorem aHx{t:TE}{σ σ':St}{H:Hp}{Q:VK}(e:σ'=σ)(h:t σ H Q):t σ' H Q:=e▸h
theorem intAt{ns:List Int}{i:Nat}(h:(ns.map V.int)[i]?=some x):∃n,ns[i]?=some n/\x=.int n:=by
 rw[oR] at h
 obtain⟨n,e,rfl⟩:=Qp9.mp h
 exact⟨n,e,rfl⟩
theorem aNy(ns:List Int):PVs κI H (ns.map V.int) ns:=by
 refine⟨by rw[bP],λi v x h1 h2=>?_⟩
 obtain⟨n,e,rfl⟩:=intAt h1
 rw[e] at h2
 cases h2
 rfl
def aA9(K:W.Frag)(C:Addr):Sp:=λvs H Q _=>∃(x:Addr) (s:SS) (l p:Int),vs=[.ref x,.int l,.int p]/\gL C H x s/\s.Good/\0<=l/\l<=s.cap/\Am p/\∀q H',aP H H'->xS κI H' q (lwy s p l)->Q (.ref q) H'
theorem aBa{mg:Str->Option Value}{a:iR}(tx:Txt K mg a):bQ P w K mg base gE 3 a.qC a.qD ["store","level","price"] (aA9 K a.cL):=by
 have aJY:=aIW (P:=P) (w:=w) (base:=base) tx
 have aFS:=aE3 (P:=P) (w:=w) (base:=base) tx
 refine tx.qM.ok aFt (λvs H Q E h=>?_) (λcdv A outer s H vs Q E hr h=>?_)
 ·obtain⟨x,ss,l,p,rfl,_⟩:=h
  rfl
 ·obtain⟨x,ss,l,p,rfl ,hs,hg,l0,l1,hp,k⟩:=h
  have hu:=jO hr
  refine bA (aG (aM (cO (k:=1) (idx:=[1,2,0]) (N:=["later","level","price","store"]) (cR (sc:=aH gH) (NX:=["store","level","price"]) rfl rfl rfl (by decide +kernel)) rfl (bT (K':=K) (zq1 aFS hr tx.aA2 tx.uN.kp tx.aA1 (aA (Z.pv 0) (aA (Z.pv 1) aC)))) (λ_ _ _ _=>(aL (i:=0) (show(["later","level","price","store"]:List Str).Nodup by decide +kernel))) (cY (by decide)) (λ_ _ _ _=>bR) (λ_ _ _ _=>(aAy (Z.pv 0) (Z.pv 0) (aI bN (Z.pv 2) (zq1 aJY hr tx.aEH tx.aBu.kp tx.aEG (aA (Z.pv 3) (aA (Z.pv 1) (aA (Z.pv 0) aC)))))))))) ?_
  obtain⟨p0,p1⟩:=hp
  obtain⟨c0,c1⟩:=hg.cap
  refine aS (σ:=[some (.ref x),some (.int l),some (.int p)]) rfl ?_
  walk_at "w"
  refine⟨x,ss,l,rfl,hs,hg,l0,by omega,λq H1 s1 gq=>?_⟩
  have hlen:=aE4 hg l 1
  refine kU (bV.of gq) ?_
  refine fO (xs:=(upTo ss l 1).map V.int) (λj us H'=>aP H1 H'/\∃as:List Addr,us=as.map V.ref/\RL (aCm κI H') as ((lwy ss p l).take j)) ⟨aP.refl _,[],rfl,RL.nil⟩ (cF (by rw[bP];omega))
   (λj us H' hj ⟨s',as,e,r⟩=>⟨bV.of (s' _ _ gq),by rw[e,bP,r.len,Rf9];omega⟩) (λj v us H' hv ⟨s',as,e,r⟩=>?_) (λus H' ⟨s',as,e,r⟩=>?_)
  ·obtain⟨y,ey,rfl⟩:=intAt hv
   have ew:(lwy ss p l)[j]?=some (y,y,p*dr ss l y):=by unfold lwy;rw[oR,ey];rfl
   walk_at "w"
   refine⟨x,ss,l,y,rfl,hs.same (s1.trans s'),hg,?_⟩
   walk_at "w"
   intro a na
   obtain⟨H2,i2,s2,g2⟩:=nw _ na;rw[i2]
   refine⟨s'.trans s2,as ++ [a],by rw[e,rW];rfl,?_⟩
   rw[oI ew]
   exact RL.snoc (r.imp λ_ _ z=>z.same s2) ⟨.int y,g2,rfl⟩
  ·intro q2 nq2
   obtain⟨H2,i2,s2,g2⟩:=nw _ nq2;rw[i2]
   walk_at "w"
   rw[bP,show(upTo ss l 1).length=(lwy ss p l).length by unfold lwy;rw[bP],Rc9] at r
   exact k q2 H2 (s1.trans (s'.trans s2)) ⟨as,by rw[g2,e],r.imp λ_ _ z=>z.same s2⟩
theorem aGw{a:iR}{s:SS}{ps:List Int}(C:Addr->Sp->Prop)(f:Addr)(spc:Sp)(hC:C f spc)(hs:gL a.cL H x s)(hg:s.Good)(hq:H q=some (.lst (ps.map V.int)))(ha:∀n∈ps,Am n)(hl:ps.length<=48)(h:∀(H':Hp) (h:Nat) (y p:Int) (Q:VK),aP H H'->H' q=some (.lst (ps.map V.int))->mC (ps.map V.int) (h:Int)=some (.int p)->0<=y->y<=s.cap->aA9 K a.cL [.ref x,.int y,.int p] H' Q E0->spc [.int (h:Int),.int y] H' Q E0) :
  aAm κI C H f (Wl s ps) λi y=>i < ps.length/\0<=y/\y<=s.cap:=by
 refine⟨spc,hC,λH' i v y Q s' hL hpv hk=>?_⟩
 have hv:v=.int y:=hpv
 subst hv
 obtain⟨hi,y0,y1⟩:=hL
 have ep:ps[i]?=some ps[i]:=dQ hi
 refine h H' i y ps[i] Q s' (s' _ _ hq) (iB (by rw[oR,ep];rfl)) y0 y1 ⟨x,s,y,ps[i],rfl,hs.same s',hg,y0,y1,ha _ (Rd9 hi),λl H2 s2 hw=>hk l H2 s2 ?_⟩
 unfold Wl
 rw[Qt9,ep]
 exact hw
def aAL(K:W.Frag)(C t:Addr):Sp:=λvs H Q _=>∃(x:Addr) (s:SS) (l:Int) (q:Addr) (ps:List Int),vs=[.ref x,.int l,.ref q]/\H t=some (.ctb dC dE)/\gL C H x s/\s.Good/\0<=l/\l<=s.cap/\H q=some (.lst (ps.map V.int))/\(∀n∈ps,Am n)/\ps.length<=48/\
 ∀r H',aP H H'->H r=none->aJU κI H' r (Lys s l ps.length) (λi=>wF (Wl s ps) ((Lys s l ps.length).length - 1 - i) i)->Q (.ref r) H'
theorem aAM{P:Program}{w:World}{K:PySem.W.Frag}{mg:Str->Option Value}{base:Heap}{a:iR}(tx:Txt K mg a):bQ P w K mg base gE 12 a.gJ a.eI ["store","level","prices"] (aAL K a.cL a.cI):=by
 have rV:=yE (P:=P) (w:=w) (base:=base) tx
 have lV:=λbase':Heap=>tY (P:=P) (w:=w) (base:=base') tx
 refine tx.j9.okC tx.kB pC (λvs H Q E h=>?_) (λA outer s H vs Q E hr h=>?_)
 ·obtain⟨x,ss,l,q,ps,rfl,_⟩:=h
  rfl
 ·obtain⟨x,ss,l,q,ps,rfl ,gt,hs,hg,l0,l1,hq,ha,hl,k⟩:=h
  have hu:=jO hr
  refine bA (aD (iL (k:=1) (idx:=[1,0]) (N:=["hours","level","store"]) (i:=3) pC.nd rfl (Or.inl rfl) (cR (sc:=aH bY) (NX:=["store","level","prices","layers"]) rfl rfl rfl (by decide +kernel)) rfl (bO (by rfl) tx.cM (aA (aI bI (aK (rc:=lW K) bS (by rfl) tx.eN dR (aA (Z.pv 2) aC)) aB) aC)) (λ_ _ _ _=>(aL (i:=0) (show(["hours","level","store"]:List Str).Nodup by decide +kernel))) (cY (by decide)) (λ_ _ _ _=>bR) (λ_ _ _ _=>(zq1 rV hr tx.rF tx.lR.kp tx.rE (aA (Z.pv 2) (aA (Z.pv 1) (aA (Z.pv 0) aC))))))
   (aG (aM (sF (psL:=["hour","place"]) (N:=["hour","place","prices","store"]) (idx:=[2,0]) (sp:=λC=>lT K C) (kc:=8) (lV) (hr.mono (by decide)) (by rfl) tx.mR tx.jN.kp tx.mQ (λ_=>rfl) (cR (sc:=aH bY) (NX:=["store","level","prices","layers"]) rfl rfl rfl (by decide +kernel)) rfl rfl rfl rfl (λ_ _ _ _ us hl=>by obtain⟨_,_,rfl⟩:=ar2 us hl;rfl) (mH (Z.pv 3) (wA (N:=["hour","place","prices","store"]) (n:=2) (idx:=[2,0]) rfl tx.kB.hd rfl rfl (cR (sc:=aH bY) (NX:=["store","level","prices","layers"]) rfl rfl rfl (by decide +kernel)))) (λ_ _ _ _ _ _ _ _ hr hu=>(aF (aBa tx) (hr.mono (by decide)) (by rfl) tx.xG tx.qM.kp tx.xF .nil aR (aA (Z.pv 3) (aA (Z.pv 1) (aA (aE (K':=K) (Z.pv 2) (Z.pv 0)) aC))))))))) ?_
  obtain⟨c0,c1⟩:=hg.cap
  refine aS (σ:=[some (.ref x),some (.int l),some (.ref q),none]) rfl ?_
  walk_at "w"
  refine⟨by rw[bP];omega,by rw[bP];omega,?_⟩
  rw[show(((ps.map V.int).length:Int)+1).toNat=ps.length+1 by rw[bP];omega]
  refine iH (λi us H'=>aP H H'/\∃as:List Addr,us=as.map V.ref/\RL (λb qs=>∃us,H' b=some (.lst us)/\PVs κI H' us qs) as ((Lys ss l ps.length).take i)) ⟨aP.refl _,[],rfl,RL.nil⟩ (cF (by omega)) (λi us H' hi ⟨s',as,e,r⟩=>by rw[e,bP,r.len,Rf9];omega) (λi us H' hi ⟨s',as,e,r⟩=>?_) (λus H' ⟨s',as,e,r⟩=>?_)
  ·walk_at "w"
   refine⟨x,ss,l,_,rfl,hs.same s',hg,l0,by omega,by omega,by omega,λb H2 s2 gb=>?_⟩
   refine⟨s'.trans s2,as ++ [b],by rw[e,rW];rfl,?_⟩
   rw[oI (aJX (s:=ss) (l:=l) (n:=ps.length) (i:=i) (by omega))]
   refine RL.snoc (r.imp λ_ _ ⟨us,e,p⟩=>⟨us,s2 _ _ e,p.same s2⟩) ⟨_,gb,?_⟩
   rw[show(0+(i:Int))=(i:Int) by omega]
   exact aNy (upTo ss l (i:Int))
  ·intro la nla
   obtain⟨H2,i2,s2,g2⟩:=nw _ nla;rw[i2]
   have s02:=s'.trans s2
   rw[show ps.length+1=(Lys ss l ps.length).length from(tZ _ _ _).symm,Rc9] at r
   walk_at "w"
   refine⟨s02 _ _ gt,λf c' H3 Cc s3 hc hC=>?_⟩
   have s03:=s02.trans s3
   refine⟨Int,κI,la,f,Lys ss l ps.length,Wl ss ps,_,rfl,⟨as,by rw[s3 _ _ g2,e],r.imp λ_ _ ⟨us,e,p⟩=>⟨us,(s2.trans s3) _ _ e,p.same (s2.trans s3)⟩⟩,aNx hg ps l0 l1,by rw[tZ];omega,aGw (K:=K) (a:=a) Cc f _ hC (hs.same s03) hg (s03 _ _ hq) ha hl (λH' h y p Q s' gq hp y0 y1 hsp=>?_),λi qs y e1 e2 hy=>?_,λr H4 s4 nr hd=>?_⟩
   ·refine⟨s' _ _ hc,rfl,?_⟩
    refine aHx (σ:=[some (.int (h:Int)),some (.int y),some (.ref q),some (.ref x)]) rfl ?_
    walk_at "w"
    exact hsp
   ·rw[(xU e1).1] at hy
    obtain⟨y0,y1⟩:=aHw hy
    rw[tZ] at e2
    exact⟨by omega,y0,y1⟩
   ·exact k r H4 (s03.trans s4) (s03.free nr) hd
def aCW(K:W.Frag)(C t1 t2:Addr):Sp:=λvs H Q _=>∃(x:Addr) (s:SS) (l:Int) (q:Addr) (ps:List Int),vs=[.ref x,.int l,.ref q]/\H t1=some (.ctb dC dE)/\H t2=some (.ctb fY fZ)/\gL C H x s/\s.Good/\0<=l/\l<=s.cap/\H q=some (.lst (ps.map V.int))/\(∀n∈ps,Am n)/\ps.length<=48/\
 ∀T r H',aP H H'->H r=none->H' T=some (.tup [.int (lwF s ps l),.ref r])->H' r=some (.lst ((lpF s ps l).map V.int))->Q (.ref T) H'
theorem aCX{P:Program}{w:World}{K:PySem.W.Frag}{mg:Str->Option Value}{base:Heap}{a:iR}(tx:Txt K mg a):bQ P w K mg base gE 13 a.jW a.gQ ["store","level","prices"] (aCW K a.cL a.cI a.dU):=by
 have aBC:=aAM (P:=P) (w:=w) (base:=base) tx
 have xV:=λbase':Heap=>aCn (P:=P) (w:=w) (base:=base') tx
 refine tx.o6.okC tx.o9 mP (λvs H Q E h=>?_) (λA outer s H vs Q E hr h=>?_)
 ·obtain⟨x,ss,l,q,ps,rfl,_⟩:=h
  rfl
 ·obtain⟨x,ss,l,q,ps,rfl ,gt1,gt2,hs,hg,l0,l1,hq,ha,hl,k⟩:=h
  have hu:=jO hr
  refine bA (aD (aJ (i:=3) mP.nd (zq1 aBC hr tx.rH tx.j9.kp tx.rG (aA (Z.pv 0) (aA (Z.pv 1) (aA (Z.pv 2) aC)))))
   (aD (aJ (i:=4) mP.nd (sF (psL:=["hour","place"]) (N:=["hour","place","prices","store"]) (idx:=[2,0]) (sp:=λC=>xT K C) (kc:=8) (xV) (hr.mono (by decide)) (by rfl) tx.zS tx.tO.kp tx.zR (λ_=>rfl) (cR (sc:=aH dH) (NX:=["store","level","prices","worths","path"]) rfl rfl rfl (by decide +kernel)) rfl rfl rfl rfl (λ_ _ _ _ us hl=>by obtain⟨_,_,rfl⟩:=ar2 us hl;rfl) (mH (Z.pv 1) (mH (Z.pv 3) (wA (N:=["hour","place","prices","store"]) (n:=2) (idx:=[2,0]) rfl tx.o9.hd rfl rfl (cR (sc:=aH dH) (NX:=["store","level","prices","worths","path"]) rfl rfl rfl (by decide +kernel))))) (λ_ _ _ _ _ _ _ _ hr hu=>(aF (aBa tx) (hr.mono (by decide)) (by rfl) tx.xG tx.qM.kp tx.xF .nil aR (aA (Z.pv 3) (aA (Z.pv 1) (aA (aE (K':=K) (Z.pv 2) (Z.pv 0)) aC)))))))
   (aG (aM (eW (sE hu (aE (K':=K) (Z.pv 3) aB) (Z.pv 1)) (Z.pv 4)))))) ?_
  refine aS (σ:=[some (.ref x),some (.int l),some (.ref q),none,none]) rfl ?_
  walk_at "w"
  refine⟨x,ss,l,q,ps,rfl,gt1,hs,hg,l0,l1,hq,ha,hl,λlw H1 s1 nlw hd=>?_⟩
  walk_at "w"
  refine⟨s1 _ _ gt2,λf c' H3 Cc s3 hc hC=>?_⟩
  have s03:=s1.trans s3
  refine⟨Int,κI,.int l,l,upTo ss l 0,lw,f,Lys ss l ps.length,Wl ss ps,_,rfl,rfl,hd.same s3,aJX (i:=0) (by omega),?_,aNx hg ps l0 l1,by rw[tZ];omega,aGw (K:=K) (a:=a) Cc f _ hC (hs.same s03) hg (s03 _ _ hq) ha hl (λH' h y p Q s' gq hp y0 y1 hsp=>?_),λi qs y e1 e2 hy=>?_,λr H4 s4 nr gr=>?_⟩
  ·rw[aNw l0 l1];exact .head _
  ·refine⟨s' _ _ hc,rfl,?_⟩
   refine aHx (σ:=[some (.int (h:Int)),some (.int y),some (.ref q),some (.ref x)]) rfl ?_
   walk_at "w"
   exact hsp
  ·rw[(xU e1).1] at hy
   obtain⟨y0,y1⟩:=aHw hy
   rw[tZ] at e2
   exact⟨by omega,y0,y1⟩
  ·obtain⟨ds,gds,lds,hds⟩:=(hd.same (s3.trans s4)).ex
   rw[tZ] at lds
   have ed:ds[0]?=some ds[0]:=dQ (by omega)
   have h0:=hds 0 _ _ ed (aJX (i:=0) (by omega))
   generalize ds[0]=d0 at ed h0
   have ix:mC (ds.map V.ref) 0=some (.ref d0):=iB (j:=0) (aEP ed)
   walk_at "w"
   refine⟨d0,_,rfl,κI.get (v:=.int l) (x:=l) h0 rfl (by rw[show((0:Nat):Int)=0 from rfl,aNw l0 l1];exact .head _),?_⟩
   walk_at "w"
   intro T nT
   obtain⟨H5,i5,s5,g5⟩:=nw _ nT;rw[i5]
   walk_at "w"
   have e1:(Lys ss l ps.length).length - 1=ps.length:=by rw[tZ];rfl
   rw[e1] at gr
   rw[Nat.sub_zero,e1] at g5
   exact k T r H5 (s03.trans (s4.trans s5)) (s03.free nr) g5 (s5 _ _ gr)
theorem RL.app{α:Type}{P:Addr->α->Prop}{as bs:List Addr}{xs ys:List α}(h:RL P as xs)(h':RL P bs ys):RL P (as++bs) (xs++ys):=by
 refine⟨by rw[oU,oU,h.len,h'.len],λj q u hq hu=>?_⟩
 by_cases hj:j < as.length
 ·rw[Qn9 hj] at hq
  rw[Qn9 (by rw[<-h.len];exact hj)] at hu
  exact h.at_ j q u hq hu
 ·rw[Qo9 (by omega)] at hq
  rw[Qo9 (by rw[<-h.len];omega),<-h.len] at hu
  exact h'.at_ _ q u hq hu
theorem RL.one{α:Type}{P:Addr->α->Prop}{a:Addr}{x:α}(h:P a x):RL P [a] [x]:=⟨rfl,λj q u hq hu=>by
 match j,hq,hu with
 |0,hq,hu=>cases hq;cases hu;exact h
 |_+1,hq,_=>simp at hq⟩
theorem aNz(ps:List WP):(enc ps).map (·.1)=(ps.map λp=>[p.1.1,p.1.2]).map λt=>t.map Sum.inl:=by
 unfold enc
 rw[Rq9,Rq9]
 rfl
theorem aFT{ps:List WP}{qs:List Addr}{us:List (List Int)}(nd:(ps.map (·.1)).Nodup)(hT:cP H qs us)(hp:us.Perm (ps.map λp=>[p.1.1,p.1.2]))(hs:us.Pairwise λa b=>v9 b a=false) :
  ∃ks:List (Int×Int),ks.Pairwise sLt/\(∀s,s∈ks↔s∈ps.map (·.1))/\PVs κS H (qs.map V.ref) ks:=by
 have hform:∀u∈us,u=[u.getD 0 0,u.getD 1 0]:=λu hu=>by
  obtain⟨p,_,rfl⟩:=xX.mp (hp.mem_iff.mp hu)
  rfl
 have pk:(us.map λu=>(u.getD 0 0,u.getD 1 0)).Perm (ps.map (·.1)):=by
  have:=hp.map λu=>(u.getD 0 0,u.getD 1 0)
  rw[Rq9] at this
  exact this
 have ndk:=pk.nodup_iff.mpr nd
 refine⟨us.map λu=>(u.getD 0 0,u.getD 1 0),?_,λs=>pk.mem_iff,?_⟩
 ·rw[Sy9]
  have nd':us.Pairwise λa b=>(a.getD 0 0,a.getD 1 0)≠(b.getD 0 0,b.getD 1 0):=Sy9.mp ndk
  refine(hs.and nd').imp_of_mem ?_
  intro a b ha hb ⟨h1,h2⟩
  rw[hform a ha,hform b hb] at h1
  generalize a.getD 0 0=a0 at h1 h2 ⊢
  generalize a.getD 1 0=a1 at h1 h2 ⊢
  generalize b.getD 0 0=b0 at h1 h2 ⊢
  generalize b.getD 1 0=b1 at h1 h2 ⊢
  unfold sLt
  show a0 < b0\/(a0=b0/\a1 < b1)
  by_cases e0:a0=b0
  ·subst e0
   by_cases e1:a1=b1
   ·exact absurd (by rw[e1]) h2
   ·rw[gW,if_pos rfl,gW,if_neg (λz=>e1 z.symm)] at h1
    have:=of_decide_eq_false h1
    omega
  ·rw[gW,if_neg (λz=>e0 z.symm)] at h1
   have:=of_decide_eq_false h1
   omega
 ·refine⟨by rw[bP,bP,hT.len],λi v x h1 h2=>?_⟩
  rw[oR] at h1 h2
  obtain⟨q,e1,rfl⟩:=Qp9.mp h1
  obtain⟨u,e2,rfl⟩:=Qp9.mp h2
  have:=(hT.at_ i q u e1 e2).1
  rw[hform u (oS e2)] at this
  exact⟨q,rfl,this⟩
def aCp(K:W.Frag)(C:Addr):Sp:=λvs H Q _=>∃(q:Addr) (m:MS) (t:Addr) (a:Int×Int) (n:Nat),vs=[.ref q,.ref t,.int (n:Int)]/\cV C H q m/\m.Good/\H t=some (.tup [.int a.1,.int a.2])/\St1 m a/\n<=1000/\
 ∀la Ls H',aP H H'->H la=none->aIO κS H' la Ls->aNr m a Ls->Ls.length=n+1->Q (.ref la) H'
theorem aCq{mg:Str->Option Value}{a:iR}(tx:Txt K mg a):bQ P w K mg base gE 4 a.jF a.jG ["machine","state","hours"] (aCp K a.bD):=by
 have aFU:=aES (P:=P) (w:=w) (base:=base) tx
 refine tx.mS.ok eY (λvs H Q E h=>?_) (λcdv A outer s H vs Q E hr h=>?_)
 ·obtain⟨q,m,t,st,n,rfl,_⟩:=h
  rfl
 ·obtain⟨q,m,t,st,n,rfl ,hm,hg,ht,hst,hn,k⟩:=h
  have hu:=jO hr
  refine bA (aD (aJ (i:=3) eY.nd (aIq hu (Z.pv 1) aB))
   (aD (aJ (i:=4) eY.nd (sC (sC (Z.pv 1))))
   (aD (bM PassesOwn.never rfl (bO (by rfl) tx.cM (aA (Z.pv 2) aC)) (aL (i:=5) eY.nd) (aD (aJ (i:=3) eY.nd (zq1 aFU hr tx.aAU tx.uJ.kp tx.aAT (aA (Z.pv 0) (aA (Z.pv 3) aC))))
   (aG (eF (fB (K':=K) (Z.pv 4) (aA (aK (rc:=aJL) (aGX rfl) (by rfl) tx.rP aGc (aA (Z.pv 3) aC)) aC))))))
   (aG (aM (Z.pv 4)))))) ?_
  refine aS (σ:=[some (.ref q),some (.ref t),some (.int (n:Int)),none,none,none]) rfl ?_
  walk_at "w"
  intro w nw0
  obtain⟨H1,i1,s1,g1⟩:=nw _ nw0;rw[i1]
  have ht1:=s1 _ _ ht
  walk_at "w"
  refine⟨t,uY st,rfl,ht1,g1,?_⟩
  obtain⟨H2,i2,k2,g2⟩:=wr H1 w _;rw[i2]
  have S2:aP H H2:=λb o e=>k2 _ _ (s1 _ _ e) (bG nw0 e)
  walk_at "w"
  intro l0 nl0
  obtain⟨H3,i3,s3,g3⟩:=nw _ nl0;rw[i3]
  walk_at "w"
  intro la nla
  obtain⟨H4,i4,s4,g4⟩:=nw _ nla;rw[i4]
  have S4:aP H H4:=S2.trans (s3.trans s4)
  have nlaH:H la=none:=(S2.trans s3).free nla
  have g24:=(s3.trans s4) _ _ g2
  have g34:=s4 _ _ g3
  have ht4:=S4 _ _ ht
  have wla:w≠la:=λz=>by rw[z,g4] at g24;cases g24
  walk_at "w"
  refine⟨by omega,by omega,?_⟩
  refine iI (λi σ' H'=>∃(w:Addr) (ps:List WP) (as:List Addr) (Ls:List (List (Int×Int))) (z5:Option V),σ'=[some (.ref q),some (.ref t),some (.int (n:Int)),some (.ref w),some (.ref la),z5]/\H w=none/\H' w=some (.dT (enc ps))/\aFG ps/\(∀s,s∈ps.map (·.1)↔Rc m st i s)/\aP H H'/\H' la=some (.lst (as.map V.ref))/\RL (λb ps=>∃us,H' b=some (.lst us)/\PVs κS H' us ps/\b≠la) as Ls/\aNr m st Ls/\Ls.length=i+1)
   ⟨w,[(st,1)],[l0],[[st]],_,rfl,nw0,g24,⟨by simp,λp hp=>by rw[Qu9.mp hp];exact hst.st0 hg⟩,?_,S4,g4,RL.one ⟨_,g34,⟨rfl,λi v x h1 h2=>?_⟩,λz=>?_⟩,⟨λi ps hi=>?_⟩,rfl⟩ (λi σ' H' hi ⟨w',ps,as,Ls,z5,e,nw',gw,hW,hk,S',gla,rla,hL,lL⟩=>?_) (λσ' H' ⟨w',ps,as,Ls,z5,e,nw',gw,hW,hk,S',gla,rla,hL,lL⟩=>?_)
  ·intro s
   show s∈[st]↔s=st
   simp
  ·match i,h1,h2 with
   |0,h1,h2=>cases h1;cases h2;exact⟨t,rfl,ht4⟩
   |_+1,h1,_=>simp at h1
  ·rw[z,nla] at g3
   cases g3
  ·match i,hi with
   |0,hi=>cases hi;exact⟨by simp,λs=>by show s∈[st]↔s=st;simp⟩
   |_+1,hi=>simp at hi
  ·subst e
   walk_at "w"
   refine⟨q,m,w',ps,rfl,hm.same S',hg,gw,hW,λw2 ps2 H5 s5 nw2 gw2 hW2 hk2=>?_⟩
   have S5:aP H H5:=λb o e=>s5 _ _ (oQ (S' _ _ e) (bG nw' e))
   have gla5:H5 la=some (.lst (as.map V.ref)):=s5 _ _ (oQ gla λz=>by rw[z,gw] at gla;cases gla)
   have hk3:∀s,s∈ps2.map (·.1)↔Rc m st (i+1) s:=λs=>by
    rw[hk2 s]
    exact⟨λ⟨p,h1,h2⟩=>⟨p,(hk p).mp h1,h2⟩,λ⟨p,h1,h2⟩=>⟨p,(hk p).mpr h1,h2⟩⟩
   have few:=Rc.few hg hst hW2.nd λk hk=>(hk3 k).mp hk
   rw[bP] at few
   have las:=rla.len
   walk_at "w"
   refine oW (bV.of gla5) ?_
   walk_at "w"
   refine aNf gw2 (aNz ps2) (λt ht=>by obtain⟨p,_,rfl⟩:=xX.mp ht;simp) (by rw[bP];omega) λp qs us np hT hp hs=>?_
   obtain⟨ks,k1,k2',k3⟩:=aFT hW2.nd hT hp hs
   obtain⟨H6,i6,s6,g6⟩:=nw _ np;rw[i6]
   have npla:p≠la:=λz=>by rw[z,gla5] at np;cases np
   walk_at "w"
   refine uG (xs:=as.map V.ref) (s6 _ _ gla5) (yK (by rw[bP];omega:(as.map V.ref).length < 20000) (cF (by decide))) ?_
   obtain⟨H7,i7,k7,g7⟩:=wr H6 la _;rw[i7]
   have w2la:w2≠la:=λz=>by rw[z,gla5] at gw2;cases gw2
   walk_at "w"
   have hR:RL (λb ps=>∃us,H7 b=some (.lst us)/\PVs κS H7 us ps/\b≠la) (as ++ [p]) (Ls ++ [ks]):=by
    refine RL.snoc (rla.imp λb ps ⟨us,a1,a2,a3⟩=>?_) ⟨_,k7 _ _ g6 npla,⟨k3.1,λi v x h1 h2=>PK.aHk (κS.tW (k3.2 i v x h1 h2) s6) (s6 _ _ gla5) k7⟩,npla⟩
    have a1':H5 b=some (.lst us):=s5 _ _ (oQ a1 λz=>by rw[z,gw] at a1;cases a1)
    refine⟨us,k7 _ _ (s6 _ _ a1') a3,⟨a2.1,λi v x h1 h2=>?_⟩,a3⟩
    obtain⟨b',e',hb'⟩:=a2.2 i v x h1 h2
    exact PK.aHk (κS.tW (H:=H5) ⟨b',e',s5 _ _ (oQ hb' λz=>by rw[z,gw] at hb';cases hb')⟩ s6) (s6 _ _ gla5) k7
   have hLL:aNr m st (Ls ++ [ks]):=by
    refine⟨λj rs hj=>?_⟩
    by_cases hj2:j < Ls.length
    ·rw[Qn9 hj2] at hj
     exact hL.at_ j rs hj
    ·have hj3:j < (Ls ++ [ks]).length:=(lZ.mp hj).1
     rw[oU,Qz9] at hj3
     obtain rfl:j=Ls.length:=by omega
     rw[Qo9 (gB _),Sa9] at hj
     cases hj
     refine⟨k1,λs=>?_⟩
     rw[k2' s,hk3 s,lL]
   exact⟨w2,ps2,as ++ [p],Ls ++ [ks],_,rfl,S'.free nw2,k7 _ _ (s6 _ _ gw2) w2la,hW2,hk3,λb o e=>k7 _ _ (s6 _ _ (S5 _ _ e)) (bG nlaH e),by rw[g7,rW];rfl,hR,hLL,by rw[oU,lL];rfl⟩
  ·subst e
   walk_at "w"
   exact k la Ls H' S' nlaH ⟨as,gla,rla.imp λb ps ⟨us,a1,a2,_⟩=>⟨us,a1,a2⟩⟩ hL (by omega)
def aFV(K:W.Frag)(C:Addr):Sp:=λvs H Q _=>∃(q:Addr) (m:MS) (t:Addr) (a:Int×Int),vs=[.ref q,.ref t]/\cV C H q m/\m.Good/\H t=some (.tup [.int a.1,.int a.2])/\St0 a.1 a.2/\
 ∀l H',aP H H'->xS κS H' l ((([0,1]:List Int).filter (aHm a)).map λon=>(on,pG m a.1 a.2 on,aQ7 m a on))->Q (.ref l) H'
theorem aFW{mg:Str->Option Value}{a:iR}(tx:Txt K mg a):bQ P w K mg base gE 7 a.qE a.qF ["machine","state"] (aFV K a.bD):=by
 have rS:=aAC (P:=P) (w:=w) (base:=base) tx
 have aJZ:=aIK (P:=P) (w:=w) (base:=base) tx
 have jT:=rR (P:=P) (w:=w) (base:=base) tx
 refine tx.xH.ok aFu (λvs H Q E h=>?_) (λcdv A outer s H vs Q E hr h=>?_)
 ·obtain⟨q,m,t,st,rfl,_⟩:=h
  rfl
 ·obtain⟨q,m,t,st,rfl ,hm,hg,ht,hst,k⟩:=h
  have hu:=jO hr
  refine bA (aG (aM (cO (k:=1) (idx:=[0,1]) (N:=["on","machine","state"]) (cR (sc:=aH gI) (NX:=["machine","state"]) rfl rfl rfl (by decide +kernel)) rfl (aBj (K':=K) (eW aB aB)) (λ_ _ _ _=>(aL (i:=0) (show(["on","machine","state"]:List Str).Nodup by decide +kernel))) (cY (by decide)) (λ_ _ _ _=>(aEi (fP (zq1 rS hr tx.zK tx.vH.kp tx.zJ (aA (Z.pv 1) (aA (Z.pv 2) (aA (Z.pv 0) aC))))))) (λ_ _ _ _=>(aAy (Z.pv 0) (zq1 jT hr tx.oB tx.jS.kp tx.oA (aA (Z.pv 1) (aA (Z.pv 2) (aA (Z.pv 0) aC)))) (zq1 aJZ hr tx.aED tx.aBq.kp tx.aEC (aA (Z.pv 1) (aA (Z.pv 2) (aA (sC (Z.pv 0)) aC))))))))) ?_
  refine aS (σ:=[some (.ref q),some (.ref t)]) rfl ?_
  walk_at "w"
  intro Tu nTu
  obtain⟨H1,i1,s1,gTu⟩:=nw _ nTu;rw[i1]
  refine aMG (kQ.of gTu) ?_
  refine aMl (xs:=([0,1]:List Int).map V.int) (λj us H'=>aP H1 H'/\∃as:List Addr,us=as.map V.ref/\as.length<=j/\RL (aCm κS H') as (((([0,1]:List Int).take j).filter (aHm st)).map λon=>(on,pG m st.1 st.2 on,aQ7 m st on))) ⟨aP.refl _,[],rfl,gB _,RL.nil⟩ (cF (by simp))
   (λj us H' hj ⟨s',as,e,la,r⟩=>⟨kQ.of (s' _ _ gTu),by rw[e,bP];exact la⟩) (λj v us H' hv ⟨s',as,e,la,r⟩=>?_) (λus H' ⟨s',as,e,la,r⟩=>?_)
  ·obtain⟨on,eon,rfl⟩:=aAD hv
   have bon:yC on:=by
    have:=oS eon
    simp at this
    exact this
   have tk:([0,1]:List Int).take (j+1)=([0,1]:List Int).take j ++ [on]:=by rw[Rr9,eon];rfl
   have S':=s1.trans s'
   have ht':=S' _ _ ht
   walk_at "w"
   refine⟨_,t,_,_,on,rfl,ht',?_⟩
   by_cases hmay:st.1=on\/st.2=0
   ·have hmb:aHm st on=true:=aCo.mpr hmay
    rw[show(decide (st.1=on) || decide (st.2=0))=true from hmb]
    walk_at "w"
    refine⟨q,m,t,_,_,on,rfl,hm.same S',ht',hmay,λT2 H3 s3 nT2 gT2=>?_⟩
    walk_at "w"
    intro lo nlo
    obtain⟨H4,i4,s4,g4⟩:=nw _ nlo;rw[i4]
    walk_at "w"
    refine⟨q,m,t,_,_,lo,[on],rfl,hm.same (S'.trans (s3.trans s4)),hg,(s3.trans s4) _ _ ht',g4,by simp,?_,λH5 s5=>?_⟩
    ·show(if st.1=on\/st.2=0 then _ else _)=_
     rw[if_pos hmay]
     rfl
    walk_at "w"
    intro T nT
    obtain⟨H6,i6,s6,g6⟩:=nw _ nT;rw[i6]
    have s36:=s3.trans (s4.trans (s5.trans s6))
    refine⟨s'.trans s36,as ++ [T],by rw[e,rW];rfl,by rw[oU];simp;omega,?_⟩
    rw[tk,List.filter_append,rW,List.filter_cons_of_pos hmb]
    exact RL.snoc (r.imp λ_ _ z=>z.same s36) ⟨_,g6,T2,rfl,(s4.trans (s5.trans s6)) _ _ gT2⟩
   ·have hmb:aHm st on=false:=by cases h:aHm st on;rfl;exact absurd (aCo.mp h) hmay
    rw[show(decide (st.1=on) || decide (st.2=0))=false from hmb]
    walk_at "w"
    refine⟨s',as,e,by omega,?_⟩
    rw[tk,List.filter_append,rW,List.filter_cons_of_neg (by rw[hmb];simp)]
    simpa using r
  ·intro l nl
   obtain⟨H3,i3,s3,g3⟩:=nw _ nl;rw[i3]
   walk_at "w"
   exact k l H3 (s1.trans (s'.trans s3)) ⟨as,by rw[g3,e],r.imp λ_ _ z=>z.same s3⟩
def aCr(K:W.Frag)(C:Addr):Sp:=λvs H Q _=>∃(q:Addr) (m:MS) (t:Addr) (a:Int×Int) (p:Int),vs=[.ref q,.ref t,.int p]/\cV C H q m/\m.Good/\H t=some (.tup [.int a.1,.int a.2])/\St0 a.1 a.2/\0<=p/\p<=1000000000001/\
 ∀l H',aP H H'->xS κS H' l (rwy m p a)->Q (.ref l) H'
theorem aCs{mg:Str->Option Value}{a:iR}(tx:Txt K mg a):bQ P w K mg base gE 8 a.tD a.tE ["machine","state","price"] (aCr K a.bD):=by
 have aE5:=aDK (P:=P) (w:=w) (base:=base) tx
 have aHy:=aFW (P:=P) (w:=w) (base:=base) tx
 refine tx.tS.ok aGZ (λvs H Q E h=>?_) (λcdv A outer s H vs Q E hr h=>?_)
 ·obtain⟨q,m,t,st,pr,rfl,_⟩:=h
  rfl
 ·obtain⟨q,m,t,st,pr,rfl ,hm,hg,ht,hst,p0,p1,k⟩:=h
  have hu:=jO hr
  refine bA (aG (aM (cO (k:=3) (idx:=[0,2]) (N:=["on","later","cost","machine","price"]) (cR (sc:=aH iO) (NX:=["machine","state","price"]) rfl rfl rfl (by decide +kernel)) rfl (bT (K':=K) (zq1 aHy hr tx.aCc tx.xH.kp tx.aCb (aA (Z.pv 0) (aA (Z.pv 1) aC)))) (λ_ _ _ _=>(cC (K':=K) (n:=3) rfl (aV (aL (i:=0) (show(["on","later","cost","machine","price"]:List Str).Nodup by decide +kernel)) (aV (aL (i:=1) (show(["on","later","cost","machine","price"]:List Str).Nodup by decide +kernel)) (aV (aL (i:=2) (show(["on","later","cost","machine","price"]:List Str).Nodup by decide +kernel)) cB))))) (aBL (eO (by decide) (eO (by decide) (eO (by decide) yW)))) (λ_ _ _ _=>bR) (λ_ _ _ _=>(aAy (Z.pv 0) (Z.pv 1) (aI dJ (Z.pv 2) (aI bN (Z.pv 0) (aJu (Z.pv 3) tx.cW tx.m_Machine_gain (aE5) (hr.mono (by decide)) tx.zI .nil aR (aA (Z.pv 4) aC))))))))) ?_
  refine aS (σ:=[some (.ref q),some (.ref t),some (.int pr)]) rfl ?_
  walk_at "w"
  refine⟨q,m,t,st,rfl,hm,hg,ht,hst,λl H1 s1 hw1=>?_⟩
  obtain⟨as,gl,rl⟩:=hw1.ex
  have las:=rl.len
  have lfil:=aKC m pr st
  unfold rwy at lfil
  rw[bP] at las lfil
  refine kU (bV.of gl) ?_
  refine fO (xs:=as.map V.ref) (λj us H'=>aP H1 H'/\∃bs:List Addr,us=bs.map V.ref/\RL (aCm κS H') bs ((rwy m pr st).take j)) ⟨aP.refl _,[],rfl,RL.nil⟩ (cF (by rw[bP];omega))
   (λj us H' hj ⟨s',bs,e,r⟩=>⟨bV.of (s' _ _ gl),by rw[e,bP,r.len,Rf9];omega⟩) (λj v us H' hv ⟨s',bs,e,r⟩=>?_) (λus H' ⟨s',bs,e,r⟩=>?_)
  ·obtain⟨a1,w,ea,rfl,ew,vv,g1,hp⟩:=rl.gt hv
   rw[oR] at ew
   obtain⟨on,eon,rfl⟩:=Qp9.mp ew
   have er:(rwy m pr st)[j]?=some (on,pG m st.1 st.2 on,hw m pr st on):=by unfold rwy;rw[oR,eon];rfl
   obtain⟨b,rfl,hb⟩:=hp
   have bon:0<=on/\on<=1:=by
    have:=(Sn9.mp (oS eon)).1
    simp at this
    omega
   obtain⟨bo0,bo1⟩:=bon
   refine eM (kQ.of (s' _ _ g1)) rfl ?_
   walk_at "w"
   have hm2:=hm.same (s1.trans s')
   obtain⟨dx,pl,hq,_⟩:=hm2.ex
   refine⟨q,dx,_,rfl,hq,rfl,?_⟩
   walk_at "w"
   refine⟨q,m,pr,rfl,hm2,hg,p0,p1,?_⟩
   walk_at "w"
   intro T nT
   obtain⟨H3,i3,s3,g3⟩:=nw _ nT;rw[i3]
   refine⟨s'.trans s3,bs ++ [T],by rw[e,rW];rfl,?_⟩
   rw[oI er]
   exact RL.snoc (r.imp λ_ _ z=>z.same s3) ⟨_,g3,b,rfl,(s'.trans s3) _ _ hb⟩
  ·intro l2 nl2
   obtain⟨H3,i3,s3,g3⟩:=nw _ nl2;rw[i3]
   walk_at "w"
   rw[bP,las,show(([0,1]:List Int).filter (aHm st)).length=(rwy m pr st).length by unfold rwy;rw[bP],Rc9] at r
   exact k l2 H3 (s1.trans (s'.trans s3)) ⟨bs,by rw[g3,e],r.imp λ_ _ z=>z.same s3⟩
theorem aGx{a:iR}{m:MS}{ps:List Int}(C:Addr->Sp->Prop)(f:Addr)(spc:Sp)(hC:C f spc)(hs:cV a.bD H x m)(hg:m.Good)(hq:H q=some (.lst (ps.map V.int)))(ha:∀n∈ps,Am n)(h:∀(H':Hp) (h:Nat) (b:Addr) (p:Int) (Q:VK),aP H H'->H' q=some (.lst (ps.map V.int))->mC (ps.map V.int) (h:Int)=some (.int p)->aCr K a.bD [.ref x,.ref b,.int p] H' Q E0->spc [.int (h:Int),.ref b] H' Q E0) :
  aAm κS C H f (Wr m ps) λi y=>i < ps.length/\St0 y.1 y.2:=by
 refine⟨spc,hC,λH' i v y Q s' hL hpv hk=>?_⟩
 obtain⟨b,rfl,hb⟩:=hpv
 obtain⟨hi,hy⟩:=hL
 have ep:ps[i]?=some ps[i]:=dQ hi
 obtain⟨a0,a1⟩:=ha _ (Rd9 hi)
 refine h H' i b ps[i] Q s' (s' _ _ hq) (iB (by rw[oR,ep];rfl)) ⟨x,m,b,y,ps[i],rfl,hs.same s',hg,hb,hy,a0,by omega,λl H2 s2 hw=>hk l H2 s2 ?_⟩
 unfold Wr
 rw[Qt9,ep]
 exact hw
def aAN(K:W.Frag)(C t:Addr):Sp:=λvs H Q _=>∃(x:Addr) (m:MS) (b:Addr) (a:Int×Int) (q:Addr) (ps:List Int),vs=[.ref x,.ref b,.ref q]/\H t=some (.ctb dF dG)/\cV C H x m/\m.Good/\H b=some (.tup [.int a.1,.int a.2])/\St1 m a/\H q=some (.lst (ps.map V.int))/\(∀n∈ps,Am n)/\ps.length<=48/\
 ∀r Ls H',aP H H'->H r=none->aNr m a Ls->Ls.length=ps.length+1->aJU κS H' r Ls (λi=>wF (Wr m ps) (Ls.length - 1 - i) i)->Q (.ref r) H'
theorem aAO{P:Program}{w:World}{K:PySem.W.Frag}{mg:Str->Option Value}{base:Heap}{a:iR}(tx:Txt K mg a):bQ P w K mg base gE 12 a.gK a.eJ ["machine","state","prices"] (aAN K a.bD a.cJ):=by
 have aCY:=aCq (P:=P) (w:=w) (base:=base) tx
 have lV:=λbase':Heap=>tY (P:=P) (w:=w) (base:=base') tx
 refine tx.kA.okC tx.kC pD (λvs H Q E h=>?_) (λA outer s H vs Q E hr h=>?_)
 ·obtain⟨x,m,b,st,q,ps,rfl,_⟩:=h
  rfl
 ·obtain⟨x,m,b,st,q,ps,rfl ,gt,hm,hg,hb,hst,hq,ha,hl,k⟩:=h
  have hu:=jO hr
  refine bA (aD (aJ (i:=3) pD.nd (zq1 aCY hr tx.vJ tx.mS.kp tx.vI (aA (Z.pv 0) (aA (Z.pv 1) (aA (aK (rc:=lW K) bS (by rfl) tx.eN dR (aA (Z.pv 2) aC)) aC)))))
   (aG (aM (sF (psL:=["hour","place"]) (N:=["hour","place","machine","prices"]) (idx:=[0,2]) (sp:=λC=>lT K C) (kc:=8) (lV) (hr.mono (by decide)) (by rfl) tx.mR tx.jN.kp tx.mQ (λ_=>rfl) (cR (sc:=aH cG) (NX:=["machine","state","prices","layers"]) rfl rfl rfl (by decide +kernel)) rfl rfl rfl rfl (λ_ _ _ _ us hl=>by obtain⟨_,_,rfl⟩:=ar2 us hl;rfl) (mH (Z.pv 3) (wA (N:=["hour","place","machine","prices"]) (n:=2) (idx:=[0,2]) rfl tx.kC.hd rfl rfl (cR (sc:=aH cG) (NX:=["machine","state","prices","layers"]) rfl rfl rfl (by decide +kernel)))) (λ_ _ _ _ _ _ _ _ hr hu=>(aF (aCs tx) (hr.mono (by decide)) (by rfl) tx.zY tx.tS.kp tx.zX .nil aR (aA (Z.pv 2) (aA (Z.pv 1) (aA (aE (K':=K) (Z.pv 3) (Z.pv 0)) aC))))))))) ?_
  refine aS (σ:=[some (.ref x),some (.ref b),some (.ref q),none]) rfl ?_
  walk_at "w"
  refine⟨x,m,b,st,ps.length,by rw[bP],hm,hg,hb,hst,by omega,λla Ls H1 s1 nla hla hL lL=>?_⟩
  walk_at "w"
  refine⟨s1 _ _ gt,λf c' H3 Cc s3 hc hC=>?_⟩
  have s03:=s1.trans s3
  refine⟨Int×Int,κS,la,f,Ls,Wr m ps,_,rfl,hla.same s3,aKD hg hst ps (by omega) hL,by omega,aGx (K:=K) (a:=a) Cc f _ hC (hm.same s03) hg (s03 _ _ hq) ha (λH' h b' p Q s' gq hp hsp=>?_),λi qs y e1 e2 hy=>?_,λr H4 s4 nr hd=>?_⟩
  ·refine⟨s' _ _ hc,rfl,?_⟩
   refine aHx (σ:=[some (.int (h:Int)),some (.ref b'),some (.ref x),some (.ref q)]) rfl ?_
   walk_at "w"
   exact hsp
  ·exact⟨by omega,(Rc.st hg hst (((hL.at_ i qs e1).2 y).mp hy)).1⟩
  ·exact k r Ls H4 (s03.trans s4) (s03.free nr) hL lL hd
def aDS(K:W.Frag)(C t1 t2:Addr):Sp:=λvs H Q _=>∃(x:Addr) (m:MS) (b:Addr) (a:Int×Int) (q:Addr) (ps:List Int),vs=[.ref x,.ref b,.ref q]/\H t1=some (.ctb dF dG)/\H t2=some (.ctb gR gS)/\cV C H x m/\m.Good/\H b=some (.tup [.int a.1,.int a.2])/\St1 m a/\H q=some (.lst (ps.map V.int))/\(∀n∈ps,Am n)/\ps.length<=48/\
 ∀T r H',aP H H'->H r=none->H' T=some (.tup [.int (rwF m ps a),.ref r])->H' r=some (.lst ((rrF m ps a).map V.int))->Q (.ref T) H'
theorem aDT{P:Program}{w:World}{K:PySem.W.Frag}{mg:Str->Option Value}{base:Heap}{a:iR}(tx:Txt K mg a):bQ P w K mg base gE 13 a.lO a.iQ ["machine","state","prices"] (aDS K a.bD a.cJ a.eK):=by
 have aBD:=aAO (P:=P) (w:=w) (base:=base) tx
 have xV:=λbase':Heap=>aCn (P:=P) (w:=w) (base:=base') tx
 refine tx.rL.okC tx.rO oZ (λvs H Q E h=>?_) (λA outer s H vs Q E hr h=>?_)
 ·obtain⟨x,m,b,st,q,ps,rfl,_⟩:=h
  rfl
 ·obtain⟨x,m,b,st,q,ps,rfl ,gt1,gt2,hm,hg,hb,hst,hq,ha,hl,k⟩:=h
  have hu:=jO hr
  refine bA (aD (aJ (i:=3) oZ.nd (zq1 aBD hr tx.rK tx.kA.kp tx.rJ (aA (Z.pv 0) (aA (Z.pv 1) (aA (Z.pv 2) aC)))))
   (aD (aJ (i:=4) oZ.nd (sF (psL:=["hour","place"]) (N:=["hour","place","machine","prices"]) (idx:=[0,2]) (sp:=λC=>xT K C) (kc:=8) (xV) (hr.mono (by decide)) (by rfl) tx.zS tx.tO.kp tx.zR (λ_=>rfl) (cR (sc:=aH dN) (NX:=["machine","state","prices","worths","run"]) rfl rfl rfl (by decide +kernel)) rfl rfl rfl rfl (λ_ _ _ _ us hl=>by obtain⟨_,_,rfl⟩:=ar2 us hl;rfl) (mH (Z.pv 1) (mH (Z.pv 3) (wA (N:=["hour","place","machine","prices"]) (n:=2) (idx:=[0,2]) rfl tx.rO.hd rfl rfl (cR (sc:=aH dN) (NX:=["machine","state","prices","worths","run"]) rfl rfl rfl (by decide +kernel))))) (λ_ _ _ _ _ _ _ _ hr hu=>(aF (aCs tx) (hr.mono (by decide)) (by rfl) tx.zY tx.tS.kp tx.zX .nil aR (aA (Z.pv 2) (aA (Z.pv 1) (aA (aE (K':=K) (Z.pv 3) (Z.pv 0)) aC)))))))
   (aG (aM (eW (sE hu (aE (K':=K) (Z.pv 3) aB) (Z.pv 1)) (Z.pv 4)))))) ?_
  refine aS (σ:=[some (.ref x),some (.ref b),some (.ref q),none,none]) rfl ?_
  walk_at "w"
  refine⟨x,m,b,st,q,ps,rfl,gt1,hm,hg,hb,hst,hq,ha,hl,λlw Ls H1 s1 nlw hL lL hd=>?_⟩
  walk_at "w"
  refine⟨s1 _ _ gt2,λf c' H3 Cc s3 hc hC=>?_⟩
  have s03:=s1.trans s3
  have el0:Ls[0]?=some Ls[0]:=dQ (by omega)
  have in0:st∈Ls[0]:=((hL.at_ 0 _ el0).2 st).mpr rfl
  refine⟨Int×Int,κS,.ref b,st,Ls[0],lw,f,Ls,Wr m ps,_,rfl,⟨b,rfl,s03 _ _ hb⟩,hd.same s3,el0,in0,aKD hg hst ps (by omega) hL,by omega,aGx (K:=K) (a:=a) Cc f _ hC (hm.same s03) hg (s03 _ _ hq) ha (λH' h b' p Q s' gq hp hsp=>?_),λi qs y e1 e2 hy=>?_,λr H4 s4 nr gr=>?_⟩
  ·refine⟨s' _ _ hc,rfl,?_⟩
   refine aHx (σ:=[some (.int (h:Int)),some (.ref b'),some (.ref x),some (.ref q)]) rfl ?_
   walk_at "w"
   exact hsp
  ·exact⟨by omega,(Rc.st hg hst (((hL.at_ i qs e1).2 y).mp hy)).1⟩
  ·have s04:=s03.trans s4
   obtain⟨ds,gds,lds,hds⟩:=(hd.same (s3.trans s4)).ex
   have ed:ds[0]?=some ds[0]:=dQ (by omega)
   have h0:=hds 0 _ _ ed el0
   generalize ds[0]=d0 at ed h0
   have ix:mC (ds.map V.ref) 0=some (.ref d0):=iB (j:=0) (aEP ed)
   walk_at "w"
   refine⟨d0,_,rfl,κS.get (v:=.ref b) (x:=st) h0 ⟨b,rfl,s04 _ _ hb⟩ in0,?_⟩
   walk_at "w"
   intro T nT
   obtain⟨H5,i5,s5,g5⟩:=nw _ nT;rw[i5]
   walk_at "w"
   have e1:Ls.length - 1=ps.length:=by omega
   rw[e1] at gr
   rw[Nat.sub_zero,e1] at g5
   exact k T r H5 (s04.trans s5) (s03.free nr) g5 (s5 _ _ gr)
def aFX(K:W.Frag):Sp:=λvs H Q _=>∃(p b:Addr) (x y M:Int),vs=[.ref p,.ref b,.int M]/\bE H p/\H b=some (.lst [.int x,.int y])/\1<=y/\y<=50000000000/\Am M/\
 ∀(r:Int) H',0<=r->r<=M->bE H' p->cA p H H'->gA p H H'->Q (.int r) H'
theorem aFY{mg:Str->Option Value}{a:iR}(tx:Txt K mg a):bQ P w K mg base gE 2 a.qG a.qH ["_law_hand","_law_by","_law_most"] (aFX K):=by
 have aO:=cN (P:=P) (w:=w) (base:=base) tx
 refine tx.xI.ok aFv (λvs H Q E h=>?_) (λcdv A outer s H vs Q E hr h=>?_)
 ·obtain⟨p,b,x,y,M,rfl,_⟩:=h
  rfl
 ·obtain⟨p,b,x,y,M,rfl ,hh,hb,y0,y1,hM,k⟩:=h
  have hu:=jO hr
  refine bA (aG (aM (aK (mE rfl) (by rfl) tx.vQ yX (aA (aK (eQ rfl) (by rfl) tx.lY mD (aA aB (aA (aI dJ (aI bI (aI bN (aE (K':=K) (Z.pv 1) aB) (zq1 aO hr tx.aU tx.aQ.kp tx.aT (aA (Z.pv 0) (aA aB aC)))) (zq1 aO hr tx.aU tx.aQ.kp tx.aT (aA (Z.pv 0) (aA aB aC)))) aB) aC))) (aA (Z.pv 2) aC))))) ?_
  obtain⟨m0,m1⟩:=hM
  have bp:b≠p:=hh.aG8 hb (by simp)
  refine aS (σ:=[some (.ref p),some (.ref b),some (.int M)]) rfl ?_
  walk_at "w"
  refine⟨p,_,rfl,hh,by decide,by decide,λr1 H1 a1 b1 h1 k1 q1=>?_⟩
  walk_at "w"
  refine⟨p,_,rfl,h1,by decide,by decide,λr2 H2 a2 b2 h2 k2 q2=>?_⟩
  walk_at "w"
  exact k _ _ (by omega) (by omega) h2 (k1.trans k2) (q1.trans q2)
def lmF(W:WS)(P:Ps)(qs:List Int):List Int:=List.zipWith (λm s=>rwF m qs s) W.specs P.1
def lsF(W:WS)(P:Ps)(qs:List Int):Int:=match W.store with|none=>0|some s=>lwF s qs P.2
def wsF(qs ws:List Int):Int:=List.sum (List.zipWith (λp w=>p*w) qs ws)
def pbF(W:WS)(P:Ps)(ws qs:List Int):Int:=wsF qs ws+List.sum (lmF W P qs)+lsF W P qs
structure aO8(W:WS)(P:Ps):Prop where
 ok:vS W P
 st:∀(j:Nat) m s,W.specs[j]?=some m->P.1[j]?=some s->St1 m s
structure aJ0(H:Hp)(t1 t2 t3 t4:Addr):Prop where
 a:H t1=some (.ctb dF dG)
 b:H t2=some (.ctb gR gS)
 c:H t3=some (.ctb dC dE)
 d:H t4=some (.ctb fY fZ)
theorem aJ0.same(h:aJ0 H t1 t2 t3 t4)(s:aP H H'):aJ0 H' t1 t2 t3 t4:=⟨s _ _ h.a,s _ _ h.b,s _ _ h.c,s _ _ h.d⟩
theorem aGy{α β γ:Type}{f:α->β->γ}{xs:List α}{ys:List β}{i:Nat}{x:α}{y:β}(h1:xs[i]?=some x)(h2:ys[i]?=some y):List.zipWith f (xs.take (i+1)) (ys.take (i+1))=List.zipWith f (xs.take i) (ys.take i) ++ [f x y]:=by
 have e:(List.zipWith f xs ys)[i]?=some (f x y):=by rw[List.getElem?_zipWith,h1,h2]
 rw[<-List.take_zipWith,<-List.take_zipWith]
 exact take_snoc e
def aAo(K:PySem.W.Frag)(CW CM CS t1 t2 t3 t4:Addr):Sp:=λvs H Q _=>∃(w:Addr) (W:WS) (a:Addr) (P:Ps) (q:Addr) (qs:List Int),vs=[.ref w,.ref a,.ref q]/\tV CW CM CS H w W/\W.Good/\rT H a P/\aO8 W P/\H q=some (.lst (qs.map V.int))/\(∀n∈qs,Am n)/\qs.length<=48/\aJ0 H t1 t2 t3 t4/\
 ∀(l:Addr) (H':Hp),aP H H'->H' l=some (.lst ((lmF W P qs).map V.int))->Q (.ref l) H'
theorem aAp{mg:Str->Option Value}{a:iR}(tx:Txt K mg a):bQ P w K mg base gE 14 a.fK a.fL ["works","position","prices"] (aAo K a.fM a.bD a.cL a.cJ a.eK a.cI a.dU):=by
 have aE6:=aDT (P:=P) (w:=w) (base:=base) tx
 refine tx.jQ.ok y9 (λvs H Q E h=>?_) (λcdv A outer s H vs Q E hr h=>?_)
 ·obtain⟨w,W,ap,P,q,qs,rfl,_⟩:=h
  rfl
 ·obtain⟨w,W,ap,P,q,qs,rfl ,hw,hg,hP,hB,hq,ha,hl,hT,k⟩:=h
  have hu:=jO hr
  refine bA (aG (aM (cO (k:=2) (idx:=[2]) (N:=["machine","state","prices"]) (cR (sc:=aH cQ) (NX:=["works","position","prices"]) rfl rfl rfl (by decide +kernel)) rfl (v8 (k1:=true) (k2:=false) (by rfl) tx.aCg (aA (cT (K':=K) (Z.pv 0) rfl) (aA (aE (K':=K) (Z.pv 1) aB) aC))) (λ_ _ _ _=>(cC (K':=K) (n:=2) rfl (aV (aL (i:=0) (show(["machine","state","prices"]:List Str).Nodup by decide +kernel)) (aV (aL (i:=1) (show(["machine","state","prices"]:List Str).Nodup by decide +kernel)) cB)))) (aBL (eO (by decide) (eO (by decide) yW))) (λ_ _ _ _=>bR) (λ_ _ _ _=>(aE (K':=K) (zq1 aE6 hr tx.z0 tx.rL.kp tx.zZ (aA (Z.pv 0) (aA (Z.pv 1) (aA (Z.pv 2) aC)))) aB))))) ?_
  obtain⟨dx,lm,st,gw,hms,hsto⟩:=hw.ex
  obtain⟨ms,glm,rms⟩:=hms.ex
  obtain⟨t,gP,hts⟩:=hP.ex
  obtain⟨ts,gts,rts⟩:=hts.ex
  have lms:=rms.len
  have lts:=rts.len
  have lpp:=hB.ok.len
  have l6:=hg.len
  refine aS (σ:=[some (.ref w),some (.ref ap),some (.ref q)]) rfl ?_
  walk_at "w"
  refine j0 gw tx.xO tx.mX rfl ?_
  walk_at "w"
  refine aGN (Src.lst glm) (Src.tup gts) ?_
  refine aGg (n:=W.specs.length) (by rw[bP];omega) (by rw[bP];omega) (.inl (by rw[bP];omega)) (cF (by omega))
   (λi us H'=>aP H H'/\us=((List.zipWith (λm s=>rwF m qs s) (W.specs.take i) (P.1.take i)).map V.int)/\us.length<=i) ⟨aP.refl _,by simp,gB _⟩
   (λi us H' hi ⟨s',e1,e2⟩=>⟨⟨Src.lst (s' _ _ glm),Src.tup (s' _ _ gts)⟩,e2⟩)
   (λi x y us H' T hx hy ⟨s',e1,e2⟩ nT=>?_) (λus H' ⟨s',e1,e2⟩=>?_)
  ·obtain⟨xm,m,_,rfl,em,hm⟩:=rms.get hx
   obtain⟨xt,s,_,rfl,es,hs⟩:=rts.get hy
   obtain⟨J,j,sT,gT⟩:=nw _ nT;rw[j]
   have s2:=s'.trans sT
   refine eM (kQ.of gT) rfl ?_
   walk_at "w"
   have hT2:=hT.same s2
   refine⟨xm,m,xt,s,q,qs,rfl,hT2.a,hT2.b,hm.same s2,hg.specs m (oS em),s2 _ _ hs,hB.st i m s em es,s2 _ _ hq,ha,hl,λT2 r2 H3 s3 nr2 gT2 gr2=>?_⟩
   walk_at "w"
   refine⟨s2.trans s3,?_,by rw[oU,Qz9];omega⟩
   rw[e1,aGy em es,rW]
   rfl
  ·subst e1
   rw[Rc9,<-lpp,Rc9]
   intro l nl
   obtain⟨J,j,sT,gT⟩:=nw _ nl;rw[j]
   walk_at "w"
   exact k l J (s'.trans sT) gT
def aCt(K:PySem.W.Frag)(CW CM CS t1 t2 t3 t4:Addr):Sp:=λvs H Q _=>∃(w:Addr) (W:WS) (a:Addr) (P:Ps) (q:Addr) (qs:List Int),vs=[.ref w,.ref a,.ref q]/\tV CW CM CS H w W/\W.Good/\rT H a P/\aO8 W P/\H q=some (.lst (qs.map V.int))/\(∀n∈qs,Am n)/\qs.length<=48/\aJ0 H t1 t2 t3 t4/\
 ∀(H':Hp),aP H H'->Q (.int (lsF W P qs)) H'
theorem aCu{mg:Str->Option Value}{a:iR}(tx:Txt K mg a):bQ P w K mg base gE 14 a.jH a.jI ["works","position","prices"] (aCt K a.fM a.bD a.cL a.cJ a.eK a.cI a.dU):=by
 have aDU:=aCX (P:=P) (w:=w) (base:=base) tx
 refine tx.mT.ok aBS (λvs H Q E h=>?_) (λcdv A outer s H vs Q E hr h=>?_)
 ·obtain⟨w,W,ap,P,q,qs,rfl,_⟩:=h
  rfl
 ·obtain⟨w,W,ap,P,q,qs,rfl ,hw,hg,hP,hB,hq,ha,hl,hT,k⟩:=h
  have hu:=jO hr
  refine bA (aG (aM (aDa (aZ aCJ (cT (K':=K) (Z.pv 0) rfl) eR (bK _)) aB (aE (K':=K) (zq1 aDU hr tx.yB tx.o6.kp tx.yA (aA (cT (K':=K) (Z.pv 0) rfl) (aA (aE (K':=K) (Z.pv 1) aB) (aA (Z.pv 2) aC)))) aB)))) ?_
  obtain⟨dx,lm,st,gw,hms,hsto⟩:=hw.ex
  obtain⟨t,gP,hts⟩:=hP.ex
  have hlev:=hB.ok.lev
  unfold yD at hlev
  unfold lsF at k
  refine aS (σ:=[some (.ref w),some (.ref ap),some (.ref q)]) rfl ?_
  walk_at "w"
  refine j0 gw tx.xO tx.oF rfl ?_
  cases e:W.store with
  |none=>
   rw[e] at hsto k
   replace hsto:st=.non:=hsto
   subst hsto
   repeat walk_at "gs"
   exact k H (aP.refl _)
  |some sv=>
   rw[e] at hsto k hlev
   obtain⟨c,rfl,hc⟩:=hsto
   replace hlev:0<=P.2/\P.2<=sv.cap:=hlev
   repeat walk_at "gs"
   refine j0 gw tx.xO tx.oF rfl ?_
   repeat walk_at "gs"
   refine⟨c,sv,P.2,q,qs,rfl,hT.c,hT.d,hc,hg.store sv e,hlev.1,hlev.2,hq,ha,hl,λT r H2 s2 nr gT gr=>?_⟩
   walk_at "w"
   exact k H2 s2
def aE7(K:PySem.W.Frag)(CW CM CS t1 t2 t3 t4:Addr):Sp:=λvs H Q _=>∃(w:Addr) (W:WS) (a:Addr) (P:Ps) (u:Addr) (ws:List Int) (q:Addr) (qs:List Int),vs=[.ref w,.ref a,.ref u,.ref q]/\tV CW CM CS H w W/\W.Good/\rT H a P/\aO8 W P/\H u=some (.lst (ws.map V.int))/\H q=some (.lst (qs.map V.int))/\ws.length=qs.length/\(∀n∈qs,Am n)/\qs.length<=48/\aJ0 H t1 t2 t3 t4/\
 ∀(H':Hp),aP H H'->Q (.int (pbF W P ws qs)) H'
theorem aE8{mg:Str->Option Value}{a:iR}(tx:Txt K mg a):bQ P w K mg base gE 15 a.nQ a.nR ["works","position","wants","prices"] (aE7 K a.fM a.bD a.cL a.cJ a.eK a.cI a.dU):=by
 have aAP:=aAp (P:=P) (w:=w) (base:=base) tx
 have aCZ:=aCu (P:=P) (w:=w) (base:=base) tx
 refine tx.oC.ok qX (λvs H Q E h=>?_) (λcdv A outer s H vs Q E hr h=>?_)
 ·obtain⟨w,W,ap,P,u,ws,q,qs,rfl,_⟩:=h
  rfl
 ·obtain⟨w,W,ap,P,u,ws,q,qs,rfl ,hw,hg,hP,hB,hwn,hq,hlen,ha,hl,hT,k⟩:=h
  have hu:=jO hr
  refine bA (aD (aJ (i:=4) qX.nd (aK (rc:=aLa K) (aAv rfl) (by rfl) tx.aA7 aEc (aA (cO (k:=2) (idx:=[]) (N:=["price","want"]) (cR (sc:=aH fF) (NX:=["works","position","wants","prices","wanted","machines"]) rfl rfl rfl (by decide +kernel)) rfl (v8 (k1:=true) (k2:=true) (by rfl) tx.aCg (aA (Z.pv 3) (aA (Z.pv 2) aC))) (λ_ _ _ _=>(cC (K':=K) (n:=2) rfl (aV (aL (i:=0) (show(["price","want"]:List Str).Nodup by decide +kernel)) (aV (aL (i:=1) (show(["price","want"]:List Str).Nodup by decide +kernel)) cB)))) (aBL (eO (by decide) (eO (by decide) yW))) (λ_ _ _ _=>bR) (λ_ _ _ _=>(aI bN (Z.pv 0) (Z.pv 1)))) aC)))
   (aD (aJ (i:=5) qX.nd (aK (rc:=aLa K) (aAv rfl) (by rfl) tx.aA7 aEc (aA (zq1 aAP hr tx.pF tx.jQ.kp tx.pE (aA (Z.pv 0) (aA (Z.pv 1) (aA (Z.pv 3) aC)))) aC)))
   (aG (aM (aI bI (aI bI (Z.pv 4) (Z.pv 5)) (zq1 aCZ hr tx.vL tx.mT.kp tx.vK (aA (Z.pv 0) (aA (Z.pv 1) (aA (Z.pv 3) aC))))))))) ?_
  refine aS (σ:=[some (.ref w),some (.ref ap),some (.ref u),some (.ref q),none,none]) rfl ?_
  walk_at "w"
  refine aGN (Src.lst hq) (Src.lst hwn) ?_
  refine aGg (n:=qs.length) (by rw[bP];omega) (by rw[bP];omega) (.inl (by rw[bP])) (cF (by omega))
   (λi us H'=>aP H H'/\us=((List.zipWith (λp w=>p*w) (qs.take i) (ws.take i)).map V.int)/\us.length<=i) ⟨aP.refl _,by simp,gB _⟩
   (λi us H' hi ⟨s',e1,e2⟩=>⟨⟨Src.lst (s' _ _ hq),Src.lst (s' _ _ hwn)⟩,e2⟩)
   (λi x y us H' T hx hy ⟨s',e1,e2⟩ nT=>?_) (λus H' ⟨s',e1,e2⟩=>?_)
  ·obtain⟨pr,ep,rfl⟩:=aAD hx
   obtain⟨wn,ew,rfl⟩:=aAD hy
   obtain⟨p0,p1⟩:=ha pr (oS ep)
   obtain⟨J,j,sT,gT⟩:=nw _ nT;rw[j]
   refine eM (kQ.of gT) rfl ?_
   walk_at "w"
   refine⟨s'.trans sT,?_,by rw[oU,Qz9];omega⟩
   rw[e1,aGy ep ew,rW]
   rfl
  subst e1
  rw[Rc9,<-hlen,Rc9]
  intro l nl
  obtain⟨H2,i2,s2,g2⟩:=nw _ nl;rw[i2]
  have S2:=s'.trans s2
  walk_at "w"
  refine aGK (bV.of g2) ?_
  walk_at "w"
  refine⟨w,W,ap,P,q,qs,rfl,hw.tr S2.tr,hg,hP.tk S2.tk,hB,S2 _ _ hq,ha,hl,hT.same S2,λl2 H3 s3 g3=>?_⟩
  have S3:=S2.trans s3
  walk_at "w"
  refine aGK (bV.of g3) ?_
  walk_at "w"
  refine⟨w,W,ap,P,q,qs,rfl,hw.tr S3.tr,hg,hP.tk S3.tk,hB,S3 _ _ hq,ha,hl,hT.same S3,λH4 s4=>?_⟩
  walk_at "w"
  exact k H4 (S3.trans s4)
section Enm
variable{α:Type}
def aDV(W:Nat->α->List (Wy α)):Nat->α->List Int->Option (α×Int)
 |_,x,[]=>some (x,0)
 |i,x,c::r=>match (W i x).find? λw=>decide (w.1=c) with
  |none=>none
  |some w=>(aDV W (i+1) w.2.1 r).map λe=>(e.1,w.2.2+e.2)
theorem aJ1{W:Nat->α->List (Wy α)}:∀{row:List Int}{i:Nat}{x:α},aIM W i x row=(aDV W i x row).map (·.2)
 |[],_,_=>rfl
 |c::r,i,x=>by
  unfold aIM aDV
  cases (W i x).find? λw=>decide (w.1=c) with
  |none=>rfl
  |some w=>
   show Option.map _ _=Option.map _ (Option.map _ _)
   rw[aJ1,Option.map_map,Option.map_map]
   rfl
theorem aC3{W:Nat->α->List (Wy α)}{c:Int}:∀{row:List Int}{i:Nat}{x:α},aDV W i x (row ++ [c])=(aDV W i x row).bind λe=>((W (i+row.length) e.1).find? λw=>decide (w.1=c)).map λv=>(v.2.1,e.2+v.2.2)
 |[],i,x=>by
  show(match (W i x).find? λw=>decide (w.1=c) with|none=>none|some w=>(some (w.2.1,(0:Int))).map λe=>(e.1,w.2.2+e.2))=((W (i+0) x).find? λw=>decide (w.1=c)).map λv=>(v.2.1,0+v.2.2)
  rw[Nat.add_zero]
  cases (W i x).find? λw=>decide (w.1=c) with
  |none=>rfl
  |some w=>
   show some (w.2.1,w.2.2+0)=some (w.2.1,0+w.2.2)
   rw[Sw9,Rj9]
 |d::r,i,x=>by
  show aDV W i x (d::(r ++ [c]))=_
  unfold aDV
  cases (W i x).find? λw=>decide (w.1=d) with
  |none=>rfl
  |some w=>
   show Option.map _ (aDV W (i+1) w.2.1 (r ++ [c]))=(Option.map _ (aDV W (i+1) w.2.1 r)).bind _
   rw[aC3,Ra9,show i+1+r.length=i+(r.length+1) by omega]
   cases aDV W (i+1) w.2.1 r with
   |none=>rfl
   |some e=>
    show Option.map _ (Option.map _ _)=Option.map _ _
    rw[Option.map_map]
    congr 1
    funext v
    show(v.2.1,w.2.2+(e.2+v.2.2))=(v.2.1,w.2.2+e.2+v.2.2)
    rw[Int.add_assoc]
end Enm
section Fwd
variable{α:Type}[DecidableEq α]
def aJ2(ps:List (α×Int))(k:α):Option Int:=(ps.find? λp=>decide (p.1=k)).map (·.2)
def aNA(ps:List (α×Int))(k:α)(v:Int):List (α×Int):=if ps.any (λp=>decide (p.1=k)) then ps.map (λp=>if p.1=k then (p.1,v) else p) else ps ++ [(k,v)]
theorem aCv{ps:List (α×Int)}{k:α}{v:Int}{q:α×Int}:q∈aNA ps k v↔q=(k,v)\/(q∈ps/\q.1≠k):=by
 unfold aNA
 by_cases h:ps.any (λp=>decide (p.1=k))=true
 ·rw[if_pos h,xX]
  constructor
  ·rintro ⟨p,hp,rfl⟩
   by_cases e:p.1=k
   ·rw[if_pos e,e];exact .inl rfl
   ·rw[if_neg e];exact .inr ⟨hp,e⟩
  ·rintro (rfl|⟨h1,h2⟩)
   ·obtain⟨p,hp,e⟩:=Sr9.mp h
    have e':=of_decide_eq_true e
    exact⟨p,hp,by rw[if_pos e',e']⟩
   ·exact⟨q,h1,if_neg h2⟩
 ·rw[if_neg h,Ri9,Qu9]
  constructor
  ·rintro (h1|h1)
   ·exact .inr ⟨h1,λe=>h (Sr9.mpr ⟨q,h1,decide_eq_true e⟩)⟩
   ·exact .inl h1
  ·rintro (h1|⟨h1,_⟩)
   ·exact .inr h1
   ·exact .inl h1
theorem aO9{ps:List (α×Int)}{k:α}{v:Int}(nd:(ps.map (·.1)).Nodup):((aNA ps k v).map (·.1)).Nodup:=by
 unfold aNA
 by_cases h:ps.any (λp=>decide (p.1=k))=true
 ·rw[if_pos h,Rq9]
  have e:((λp:α×Int=>p.1) ∘ λp:α×Int=>if p.1=k then (p.1,v) else p)=λp=>p.1:=by
   funext p
   show(if p.1=k then (p.1,v) else p).1=p.1
   split <;> rfl
  rw[e]
  exact nd
 ·rw[if_neg h,rW,List.nodup_append]
  refine⟨nd,by simp,λa ha b hb z=>?_⟩
  rw[Rh9,Tt9,Qu9] at hb
  obtain⟨p,hp,e⟩:=xX.mp ha
  exact h (Sr9.mpr ⟨p,hp,decide_eq_true (e.trans (z.trans hb))⟩)
theorem aNB{ps:List (α×Int)}{k:α}{v:Int}(h:aJ2 ps k=some v):(k,v)∈ps:=by
 unfold aJ2 at h
 obtain⟨p,hp,rfl⟩:=Qp9.mp h
 have e:=of_decide_eq_true (List.find?_some (p:=λp:α×Int=>decide (p.1=k)) hp)
 rw[<-e]
 exact Ry9 hp
theorem aPa{ps:List (α×Int)}(nd:(ps.map (·.1)).Nodup){q:α×Int}(h:q∈ps):aJ2 ps q.1=some q.2:=by
 induction ps with
 |nil=>cases h
 |cons p r ih=>
  rw[Rh9,Rm9] at nd
  unfold aJ2
  rw[Rt9]
  rcases yF.mp h with rfl|h
  ·rw[decide_eq_true rfl];rfl
  ·have ne:p.1≠q.1:=λe=>nd.1 (by rw[e];exact xX.mpr ⟨q,h,rfl⟩)
   rw[decide_eq_false ne]
   exact ih nd.2 h
structure aGz(cs qs:List (α×Int)):Prop where
 nd:(qs.map (·.1)).Nodup
 so:∀q∈qs,q∈cs
 co:∀c∈cs,∃q∈qs,q.1=c.1/\q.2<=c.2
theorem aGz.nil:aGz ([]:List (α×Int)) []:=⟨List.nodup_nil,(λ_ h=>by cases h),λ_ h=>by cases h⟩
theorem aGz.on{cs qs:List (α×Int)}{y:α}{u:Int}(h:aGz cs qs):aGz (cs ++ [(y,u)]) (aNA qs y (min ((aJ2 qs y).getD u) u)):=by
 refine⟨aO9 h.nd,λq hq=>?_,λc hc=>?_⟩
 ·rcases aCv.mp hq with rfl|⟨h1,_⟩
  ·cases e:aJ2 qs y with
   |none=>
    show(y,min u u)∈_
    rw[Int.min_self]
    exact Qy9 _ (.head _)
   |some v=>
    show(y,min v u)∈_
    by_cases hv:v<=u
    ·rw[Int.min_eq_left hv]
     exact Rx9 _ (h.so _ (aNB e))
    ·rw[Int.min_eq_right (by omega)]
     exact Qy9 _ (.head _)
  ·exact Rx9 _ (h.so q h1)
 ·rcases Ri9.mp hc with z|z
  ·obtain⟨q,hq,e1,e2⟩:=h.co c z
   by_cases e:q.1=y
   ·refine⟨_,aCv.mpr (.inl rfl),by show y=c.1;rw[<-e,e1],?_⟩
    have:=aPa h.nd hq
    rw[e] at this
    show min ((aJ2 qs y).getD u) u<=c.2
    rw[this]
    show min q.2 u<=c.2
    omega
   ·exact⟨q,aCv.mpr (.inr ⟨hq,e⟩),e1,e2⟩
  ·rw[Qu9.mp z]
   exact⟨_,aCv.mpr (.inl rfl),rfl,by show min _ u<=u;omega⟩
def aSk(W:Nat->α->List (Wy α))(i:Nat)(ps:List (α×Int)):List (α×Int):=ps.flatMap λp=>(W i p.1).map λw=>(w.2.1,p.2+w.2.2)
structure Fw(W:Nat->α->List (Wy α))(a:α)(i:Nat)(ps:List (α×Int)):Prop where
 nd:(ps.map (·.1)).Nodup
 so:∀p∈ps,∃row:List Int,row.length=i/\aDV W 0 a row=some p
 co:∀(row:List Int) e,row.length=i->aDV W 0 a row=some e->∃p∈ps,p.1=e.1/\p.2<=e.2
theorem Fw.on{W:Nat->α->List (Wy α)}(hr:∀i x,aO4 (W i x)){i:Nat}{ps qs:List (α×Int)}(h:Fw W a i ps)(hq:aGz (aSk W i ps) qs):Fw W a (i+1) qs:=by
 refine⟨hq.nd,λq hq'=>?_,λrow e hl he=>?_⟩
 ·obtain⟨p,hp,hc⟩:=List.mem_flatMap.mp (hq.so q hq')
  obtain⟨w,hw,rfl⟩:=xX.mp hc
  obtain⟨row,l1,e1⟩:=h.so p hp
  refine⟨row ++ [w.1],by rw[oU,l1];rfl,?_⟩
  rw[aC3,e1,l1,Nat.zero_add]
  show Option.map _ ((W i p.1).find? _)=_
  rw[aGu (hr i p.1) hw]
  rfl
 ·have hne:row≠[]:=λz=>by rw[z] at hl;cases hl
  have es:=List.dropLast_concat_getLast hne
  have lk:row.dropLast.length=i:=by rw[List.length_dropLast,hl];rfl
  rw[<-es,aC3] at he
  obtain⟨e',he',hv⟩:=Option.bind_eq_some_iff.mp he
  obtain⟨v,hf,ev⟩:=Qp9.mp hv
  rw[lk,Nat.zero_add] at hf
  cases ev
  obtain⟨p,hp,e1,e2⟩:=h.co row.dropLast e' lk he'
  have hw:=Ry9 hf
  obtain⟨q,hq',q1,q2⟩:=hq.co (v.2.1,p.2+v.2.2) (List.mem_flatMap.mpr ⟨p,hp,xX.mpr ⟨v,by rw[e1];exact hw,rfl⟩⟩)
  refine⟨q,hq',q1,?_⟩
  have q2':q.2<=p.2+v.2.2:=q2
  show q.2<=e'.2+v.2.2
  omega
theorem Fw.least{W:Nat->α->List (Wy α)}{n:Nat}{L:Nat->α->Prop}(hl:Lay W n L)(hr:∀i x,aO4 (W i x)){a:α}(ha:L 0 a){ps:List (α×Int)}(h:Fw W a n ps):ps≠[]/\∀m,m∈ps.map (·.2)->(∀x∈ps.map (·.2),m<=x)->m=wF W n 0 a:=by
 obtain⟨r1,r2⟩:=aKy hl hr n 0 a (by omega) ha
 rw[aJ1] at r1
 obtain⟨e,e1,e2⟩:=Qp9.mp r1
 obtain⟨p,hp,p1,p2⟩:=h.co _ e r2 e1
 refine⟨(λz=>by rw[z] at hp;cases hp),λm hm hle=>?_⟩
 have a1:=hle p.2 (xX.mpr ⟨p,hp,rfl⟩)
 obtain⟨q,hq,rfl⟩:=xX.mp hm
 obtain⟨row,l1,f1⟩:=h.so q hq
 have a2:=aPu (W:=W) (row:=row) (i:=0) (x:=a) (v:=q.2) (by rw[aJ1,f1];rfl)
 rw[l1] at a2
 have a3:e.2=wF W n 0 a:=e2
 omega
end Fwd
theorem aSl(m:MS)(p:Int)(s:Int×Int):hw m p s 0=m.rest:=by
 show aLx m s.1 [0] - 0*gnT m p=_
 unfold aLx
 rw[show bgs s.1 [0] 0=[] by show(if (0:Int)=1/\s.1=0 then [((0:Nat):Int)] else []) ++ []=[];rw[if_neg (by omega)];rfl]
 simp
theorem aSm(m:MS)(p:Int){s:Int×Int}(b:yC s.1):hw m p s 1=m.run+m.begin_*(1 - s.1) - gnT m p:=by
 show aLx m s.1 [1] - 1*gnT m p=_
 unfold aLx
 rcases b with b|b
 ·rw[show bgs s.1 [1] 0=[0] by show(if (1:Int)=1/\s.1=0 then [((0:Nat):Int)] else []) ++ []=[0];rw[if_pos ⟨rfl,b⟩];rfl,b]
  simp
  omega
 ·rw[show bgs s.1 [1] 0=[] by show(if (1:Int)=1/\s.1=0 then [((0:Nat):Int)] else []) ++ []=[];rw[if_neg (by omega)];rfl,b]
  simp
def aHz(K:W.Frag):Sp:=λvs H Q _=>∃(s:Addr) (m:MS) (out:Int),vs=[.ref s,.int out]/\dB H s m/\m.Good/\Q (.int (cst m.pieces (out - m.least))) H
theorem aHA{P:Program}{w:World}{K:PySem.W.Frag}{mg:Str->Option Value}{base:Heap}{a:iR}(tx:Txt K mg a):bQ P w K mg base gE 1 a.tF a.tG ["_law_spec_here","_law_output_here"] (aHz K):=by
 refine tx.aAa.ok eZ (λvs H Q E h=>?_) (λcdv A outer s H vs Q E hr h=>?_)
 ·obtain⟨s,m,out,rfl,_⟩:=h
  rfl
 ·obtain⟨s,m,out,rfl ,hs,hg,k⟩:=h
  have hu:=jO hr
  refine bA (aD (aJ (i:=2) eZ.nd (aI dJ (Z.pv 1) (aE (K':=K) (Z.pv 0) aB)))
   (aD (aJ (i:=3) eZ.nd aB)
   (aD (bM PassesOwn.never rfl (bT (K':=K) (aE (K':=K) (Z.pv 0) aB)) (cC (K':=K) (n:=2) rfl (aV (aL (i:=4) eZ.nd) (aV (aL (i:=5) eZ.nd) cB))) (aD (aJ (i:=6) eZ.nd (aK (eQ rfl) (by rfl) tx.lY mD (aA aB (aA (aK (mE rfl) (by rfl) tx.vQ yX (aA (Z.pv 2) (aA (Z.pv 4) aC))) aC))))
   (aD (kE (i:=3) eZ.nd rfl (Or.inl rfl) (aI bN (Z.pv 6) (Z.pv 5)) uB)
   (aG (aJ (i:=2) eZ.nd (aI dJ (Z.pv 2) (Z.pv 6)))))))
   (aG (aM (Z.pv 3)))))) ?_
  obtain⟨pl,hx,hp⟩:=hs.ex
  obtain⟨qs,h1,h2⟩:=hp.ex
  refine aS (σ:=[some (.ref s),some (.int out),none,none,none,none,none]) rfl ?_
  walk_at "w"
  refine kU (bV.of h1) ?_
  refine aAu (xs:=qs.map V.ref) (λi σ' H'=>H'=H/\∃c left x4 x5 x6,σ'=[some (.ref s),some (.int out),some (.int left),some (.int c),x4,x5,x6]/\c+cst (m.pieces.drop i) left=cst m.pieces (out - m.least)) ⟨rfl,0,_,_,_,_,rfl,by rw[Sf9,Rj9]⟩ (λi σ' H' hi ⟨e1,c,left,x4,x5,x6,e,ec⟩=>by subst e1;exact bV.of h1) (λi v σ' H' hv ⟨e1,c,left,x4,x5,x6,e,ec⟩=>?_) (λσ' H' ⟨e1,c,left,x4,x5,x6,e,ec⟩=>?_)
  ·subst e1 e
   rw[oR] at hv
   cases hq:qs[i]? with
   |none=>rw[hq] at hv;cases hv
   |some q=>
    rw[hq] at hv
    cases hv
    have li:i < m.pieces.length:=by rw[<-h2.len];exact(lZ.mp hq).1
    have ht:m.pieces[i]?=some m.pieces[i]:=dQ li
    have e:=h2.at_ i q _ hq ht
    have ed:m.pieces.drop i=m.pieces[i] :: m.pieces.drop (i+1):=Rb9 li
    obtain⟨z1,⟨z2,z3⟩,z4,z5⟩:=hg.pieces.pc _ (Rd9 li)
    generalize m.pieces[i]=t at ht e z1 z2 z3 z4 z5 ed
    refine eM (kQ.of e) rfl ?_
    walk_at "w"
    refine yY rfl ?_
    walk_at "w"
    refine⟨rfl,_,_,_,_,_,rfl,?_⟩
    rw[ed] at ec
    have ec':c+(max 0 (min left t.1)*t.2+cst (m.pieces.drop (i+1)) (left - max 0 (min left t.1)))=cst m.pieces (out - m.least):=ec
    omega
  ·subst e1 e
   walk_at "w"
   rw[bP,h2.len,Sk9] at ec
   have ec':c+0=cst m.pieces (out - m.least):=ec
   rw[<-ec',Sw9] at k
   exact k
def drO:Option SS->Int->Int->Int
 |none,_,_=>0
 |some s,l,n=>dr s l n
theorem aPb{s:SS}{l n:Int}:(if n < l then (n - l)*s.gives else (n - l)*s.takes)=dr s l n:=by
 unfold dr
 by_cases h1:n < l
 ·rw[if_pos h1,if_neg (by omega),Int.mul_comm]
 ·rw[if_neg h1]
  by_cases h2:l < n
  ·rw[if_pos h2,Int.mul_comm]
  ·have e:n=l:=by omega
   subst e
   rw[if_neg h2,Int.sub_self,Int.zero_mul,Sb9]
def Wo(o:Option SS)(qs:List Int)(i:Nat)(x:Int):List (Wy Int):=(lvO o x).map λy=>(y,y,qs.getD i 0*drO o x y)
theorem aPc(s:SS)(qs:List Int):Wo (some s) qs=Wl s qs:=by
 funext i x
 unfold Wo Wl lwy
 congr 1
 show upL (max 0 (x - s.out)) (min s.cap (x+s.into)+1 - max 0 (x - s.out)).toNat=upL (max (x - s.out*1) 0) (min (x+s.into*1) s.cap+1 - max (x - s.out*1) 0).toNat
 rw[show max 0 (x - s.out)=max (x - s.out*1) 0 by omega,show min s.cap (x+s.into)=min (x+s.into*1) s.cap by omega]
theorem aNC{W:WS}{P:Ps}(qs:List Int):wF (Wo W.store qs) qs.length 0 P.2=lsF W P qs:=by
 unfold lsF
 cases e:W.store with
 |none=>
  have key:∀(k i:Nat) (x:Int),wF (Wo none qs) k i x=0:=by
   intro k
   induction k with
   |zero=>intro i x;rfl
   |succ k ih=>
    intro i x
    show qs.getD i 0*0+wF (Wo none qs) k (i+1) 0=0
    rw[ih,Sb9]
    rfl
  exact key _ _ _
 |some s=>rw[aPc];rfl
def aFZ(K:W.Frag):Sp:=λvs H Q _=>∃(v:V) (o:Option SS) (l n:Int),vs=[v,.int l,.int n]/\aHg H v o/\(∀s,o=some s->s.Good)/\Q (.int (drO o l n)) H
theorem aBb{P:Program}{w:World}{K:PySem.W.Frag}{mg:Str->Option Value}{base:Heap}{a:iR}(tx:Txt K mg a):bQ P w K mg base gE 1 a.qI a.qJ ["_law_store_here","_law_level","_law_later"] (aFZ K):=by
 refine tx.qN.ok aFw (λvs H Q E h=>?_) (λcdv A outer s H vs Q E hr h=>?_)
 ·obtain⟨v,o,l,n,rfl,_⟩:=h
  rfl
 ·obtain⟨v,o,l,n,rfl ,hv,hg,k⟩:=h
  have hu:=jO hr
  refine bA (aD (bH (aZ aCJ (Z.pv 0) eR (bK _)) (aG (aM aB)) bC)
   (aD (bH (aZ aLW (Z.pv 2) (Z.pv 1) (bK _)) (aG (aM (aI bN (aI dJ (Z.pv 2) (Z.pv 1)) (aE (K':=K) (Z.pv 0) aB)))) bC)
   (aG (aM (aI bN (aI dJ (Z.pv 2) (Z.pv 1)) (aE (K':=K) (Z.pv 0) aB)))))) ?_
  refine aS (σ:=[some v,some (.int l),some (.int n)]) rfl ?_
  cases o with
  |none=>
   replace hv:v=.non:=hv
   subst hv
   walk_at "w"
   exact k
  |some s=>
   obtain⟨c,rfl,hc⟩:=hv
   have hc':=hc.at_
   obtain⟨t0,t1⟩:=(hg s rfl).takes
   obtain⟨g0,g1⟩:=(hg s rfl).gives
   have k':Q (.int (dr s l n)) H:=k
   rw[<-aPb] at k'
   walk_at "w"
   refine cD (λh=>?_) (λh=>?_)
   ·rw[if_pos h] at k'
    walk_at "w"
    exact k'
   ·rw[if_neg h] at k'
    walk_at "w"
    exact k'
def aHB(K:W.Frag):Sp:=λvs H Q _=>∃(p b:Addr) (x y:Int),vs=[.ref p,.ref b]/\bE H p/\H b=some (.lst [.int x,.int y])/\1<=x/\∀(n:Int) H',0<=n->bE H' p->cA p H H'->gA p H H'->Q (.int n) H'
theorem aHC{mg:Str->Option Value}{a:iR}(tx:Txt K mg a):bQ P w K mg base gE 2 a.tH a.tI ["_law_hand","_law_by"] (aHB K):=by
 have aO:=cN (P:=P) (w:=w) (base:=base) tx
 refine tx.aAb.ok aG0 (λvs H Q E h=>?_) (λcdv A outer s H vs Q E hr h=>?_)
 ·obtain⟨p,b,x,y,rfl,_⟩:=h
  rfl
 ·obtain⟨p,b,x,y,rfl ,hh,hb,x0,k⟩:=h
  have hu:=jO hr
  refine bA (aG (aM (aI bI (aI bN (aE (K':=K) (Z.pv 1) aB) (zq1 aO hr tx.aU tx.aQ.kp tx.aT (aA (Z.pv 0) (aA aB aC)))) (zq1 aO hr tx.aU tx.aQ.kp tx.aT (aA (Z.pv 0) (aA aB aC)))))) ?_
  refine aS (σ:=[some (.ref p),some (.ref b)]) rfl ?_
  walk_at "w"
  refine⟨p,_,rfl,hh,by decide,by decide,λr1 H1 a1 b1 h1 k1 q1=>?_⟩
  walk_at "w"
  refine⟨p,_,rfl,h1,by decide,by decide,λr2 H2 a2 b2 h2 k2 q2=>?_⟩
  walk_at "w"
  have z:=Td9 (show 0<=x by omega) a1
  exact k _ _ (by omega) h2 (k1.trans k2) (q1.trans q2)
def aE9(K:W.Frag):Sp:=λvs H Q _=>∃(p b:Addr) (x y L:Int) (n:Nat),vs=[.ref p,.ref b,.int L,.int (n:Int)]/\bE H p/\H b=some (.lst [.int x,.int y])/\1<=y/\y<=50000000000/\Am L/\n<=48/\
 ∀(q:Addr) (ps:List Int) (H':Hp),H' q=some (.lst (ps.map V.int))->ps.length=n->(∀r∈ps,0<=r/\r<=L)->bE H' p->cA p H H'->Q (.ref q) H'
theorem aAq{mg:Str->Option Value}{a:iR}(tx:Txt K mg a):bQ P w K mg base gE 3 a.nS a.nU ["_law_hand","_law_by","_law_lack","_law_hours"] (aE9 K):=by
 have aHD:=aFY (P:=P) (w:=w) (base:=base) tx
 refine tx.oE.ok aEz (λvs H Q E h=>?_) (λcdv A outer s H vs Q E hr h=>?_)
 ·obtain⟨p,b,x,y,L,n,rfl,_⟩:=h
  rfl
 ·obtain⟨p,b,x,y,L,n,rfl ,hh,hb,y0,y1,hL,hn,k⟩:=h
  have hu:=jO hr
  refine bA (aG (aM (cO (k:=1) (idx:=[1,0,2]) (N:=["_law_hour_here","_law_by","_law_hand","_law_lack"]) (cR (sc:=aH fG) (NX:=["_law_hand","_law_by","_law_lack","_law_hours"]) rfl rfl rfl (by decide +kernel)) rfl (bO (by rfl) tx.cM (aA (Z.pv 3) aC)) (λ_ _ _ _=>(aL (i:=0) (show(["_law_hour_here","_law_by","_law_hand","_law_lack"]:List Str).Nodup by decide +kernel))) (cY (by decide)) (λ_ _ _ _=>bR) (λ_ _ _ _=>(zq1 aHD hr tx.aCe tx.xI.kp tx.aCd (aA (Z.pv 2) (aA (Z.pv 1) (aA (Z.pv 3) aC)))))))) ?_
  have bp:b≠p:=hh.aG8 hb (by simp)
  refine aS (σ:=[some (.ref p),some (.ref b),some (.int L),some (.int (n:Int))]) rfl ?_
  walk_at "w"
  refine⟨by omega,by omega,?_⟩
  rw[Re9]
  refine iH (λi us H'=>bE H' p/\cA p H H'/\∃ps:List Int,us=ps.map V.int/\ps.length=i/\∀r∈ps,0<=r/\r<=L) ⟨hh,λ_ _ e _=>e,[],rfl,rfl,λr h=>by cases h⟩ (cF (by omega)) (λi us H' hi ⟨_,_,ps,e1,e2,_⟩=>by rw[e1,bP];omega) (λi us H' hi ⟨h1,k1,ps,e1,e2,e3⟩=>?_) (λus H' ⟨h1,k1,ps,e1,e2,e3⟩=>?_)
  ·walk_at "w"
   refine⟨p,b,x,y,L,rfl,h1,k1 _ _ hb bp,y0,y1,hL,λr H2 r0 r1 h2 k2 _=>?_⟩
   refine⟨h2,k1.trans k2,ps ++ [r],by rw[e1,rW];rfl,by rw[oU,e2];rfl,λz hz=>?_⟩
   rcases Ri9.mp hz with h|h
   ·exact e3 z h
   ·rw[Qu9.mp h];exact⟨r0,r1⟩
  ·subst e1
   intro q nq
   obtain⟨H2,i2,s2,g2⟩:=nw _ nq;rw[i2]
   walk_at "w"
   exact k q ps H2 g2 e2 e3 (h1.same s2) (k1.trans s2.keep)
def aHE(K:W.Frag):Sp:=λvs H Q _=>∃(p:Addr) (n:Int),vs=[.ref p,.int n]/\bE H p/\0<=n/\n<=20/\
 ∀(T s a u q:Addr) (W:WS) (P:Ps) (ws qs:List Int) (H':Hp),H' T=some (.tup [.ref s,.ref a,.ref u,.ref q])->iG H' s W->W.Good->rT H' a P->aO8 W P->H' u=some (.lst (ws.map V.int))->H' q=some (.lst (qs.map V.int))->ws.length=qs.length->(∀n∈qs,0<=n/\n<=W.lack)->(∀n∈ws,0<=n)->qs.length<=48->bE H' p->cA p H H'->Q (.ref T) H'
theorem aHF{mg:Str->Option Value}{a:iR}(tx:Txt K mg a):bQ P w K mg base gE 5 a.tJ a.tK ["_law_hand","_law_most"] (aHE K):=by
 have aO:=cN (P:=P) (w:=w) (base:=base) tx
 have aDW:=aCV (P:=P) (w:=w) (base:=base) tx
 have uZ:=aAq (P:=P) (w:=w) (base:=base) tx
 have aIX:=aHC (P:=P) (w:=w) (base:=base) tx
 have aCw:=aBB (P:=P) (w:=w) (base:=base) tx
 refine tx.aAc.ok kX (λvs H Q E h=>?_) (λcdv A outer s H vs Q E hr h=>?_)
 ·obtain⟨p,n,rfl,_⟩:=h
  rfl
 ·obtain⟨p,n,rfl ,hh,n0,n1,k⟩:=h
  have hu:=jO hr
  refine bA (aD (qQ (i:=2) kX.nd rfl (Or.inr rfl) (zq1 aCw hr tx.tR tx.lQ.kp tx.tQ (aA (Z.pv 0) (aA aB aC))))
   (aD (aJ (i:=3) kX.nd (aE (K':=K) (sD (zq1 aO hr tx.aU tx.aQ.kp tx.aT (aA (Z.pv 0) (aA (aI bI (Z.pv 1) aB) aC))) aB) (aI aGB (zq1 aO hr tx.aU tx.aQ.kp tx.aT (aA (Z.pv 0) (aA aB aC))) aB)))
   (aD (bH (aZ (r:=oV K) (eE hu) (aE (K':=K) (Z.pv 2) aB) aB (bK _)) (aG (aJ (i:=3) kX.nd (aK (mE rfl) (by rfl) tx.vQ yX (aA (Z.pv 3) (aA (aE (K':=K) (sD aB aB) (bX aGd (by rfl) tx.aDy aJm (aA (j7 aBG (aK (rc:=lW K) bS (by rfl) tx.eN dR (aA (aE (K':=K) (Z.pv 2) aB) aC)) aB (bK _)) aC))) aC))))) bC)
   (aD (iL (k:=1) (idx:=[0,2]) (N:=["_law_hour_here","_law_hand","_law_spec_here"]) (i:=4) kX.nd rfl (Or.inl rfl) (cR (sc:=aH iP) (NX:=["_law_hand","_law_most","_law_spec_here","_law_hours","_law_wants"]) rfl rfl rfl (by decide +kernel)) rfl (bO (by rfl) tx.cM (aA (Z.pv 3) aC)) (λ_ _ _ _=>(aL (i:=0) (show(["_law_hour_here","_law_hand","_law_spec_here"]:List Str).Nodup by decide +kernel))) (cY (by decide)) (λ_ _ _ _=>bR) (λ_ _ _ _=>(zq1 aIX hr tx.aDs tx.aAb.kp tx.aDr (aA (Z.pv 1) (aA (aE (K':=K) (Z.pv 2) aB) aC)))))
   (aG (aM (aOI (Z.pv 2) (zq1 aDW hr tx.x8 tx.o5.kp tx.xZ (aA (Z.pv 0) (aA (Z.pv 2) aC))) (Z.pv 4) (zq1 uZ hr tx.uR tx.oE.kp tx.uQ (aA (Z.pv 0) (aA (aE (K':=K) (Z.pv 2) aB) (aA (aE (K':=K) (Z.pv 2) aB) (aA (Z.pv 3) aC)))))))))))) ?_
  refine aS (σ:=[some (.ref p),some (.int n),none,none,none]) rfl ?_
  walk_at "w"
  refine⟨p,3,rfl,hh,by decide,by decide,λs W H1 hW hg h1 k1 ns=>?_⟩
  walk_at "w"
  refine⟨p,_,rfl,h1,by omega,by omega,λr2 H2 a2 b2 h2 k2 _=>?_⟩
  walk_at "w"
  intro l3 nl3
  obtain⟨H3,i3,s3,g3⟩:=nw _ nl3;rw[i3]
  have l3p:l3≠p:=h2.aLt nl3
  have h3:=h2.same s3
  walk_at "w"
  refine⟨p,_,rfl,h3,by decide,by decide,λr4 H4 a4 b4 h4 k4 _=>?_⟩
  have g4:=k4 _ _ g3 l3p
  obtain⟨nh,hnh,nh48⟩ : ∃m:Nat,mC [V.int r2,.int 48] (r4 / 7)=some (.int (m:Int))/\m<=48:=by
   obtain⟨m,rfl⟩:=Tk9 a2
   have:r4 / 7=0\/r4 / 7=1:=by omega
   rcases this with e|e <;> rw[e]
   ·exact⟨m,rfl,by omega⟩
   ·exact⟨48,rfl,by omega⟩
  have T4:Tr H1 H4:=(h1.tr k2).trans (s3.tr.trans (h3.tr k4))
  have K4:cA p H H4:=k1.trans (k2.trans (s3.keep.trans k4))
  have hW4:=hW.tr T4
  repeat walk_at "st"
  refine iD (λσ' H'=>aP H4 H'/\∃nh:Nat,nh<=48/\σ'=[some (.ref p),some (.int n),some (.ref s),some (.int (nh:Int)),none]) (λN hN=>?_) (λσ' H5 ⟨s5,nh,nh48,e⟩=>?_)
  ·obtain⟨ls,st,bb,es,hsp,hst,hbb⟩:=hW4.ex
   obtain⟨ms,gls,rms⟩:=hsp.ex
   walk_at "w"
   refine cD (λhw1=>?_) (λhw1=>?_)
   ·walk_at "w"
    intro l6 n6
    obtain⟨H6,i6,s6,g6⟩:=nw _ n6;rw[i6]
    have es6:=s6 _ _ es
    have gls6:=s6 _ _ gls
    have ix:∀b:Bool,∃v:Int,mC [V.int 16,.int 5] (if b=true then 1 else 0)=some (.int v)/\0<=v/\v<=16:=λb=>by
     cases b
     ·exact⟨16,rfl,by decide,by decide⟩
     ·exact⟨5,rfl,by decide,by decide⟩
    walk_at "w"
    obtain⟨v,ev,v0,v1⟩:=ix (decide ((2:Int) < ((ms.map V.ref).length:Int)))
    refine uF (bV.of g6) ev ?_
    walk_at "w"
    refine hN _ _ ⟨s6,(min (nh:Int) v).toNat,by omega,?_⟩
    rw[Int.toNat_of_nonneg (by omega)]
   ·walk_at "w"
    exact hN _ _ ⟨aP.refl _,nh,nh48,rfl⟩
  subst e
  have T5:Tr H1 H5:=T4.trans s5.tr
  have h5:=h4.same s5
  have K5:cA p H H5:=K4.trans s5.keep
  have hW5:=hW.tr T5
  obtain⟨ls,st,bb,es,hsp,hst,hbb⟩:=hW5.ex
  have sp:s≠p:=h5.aG8 es (by simp)
  have bbp:bb≠p:=h5.aG8 hbb (by simp)
  walk_at "w"
  refine⟨by omega,by omega,?_⟩
  rw[Re9]
  refine iH (λi us H'=>bE H' p/\cA p H5 H'/\∃ws:List Int,us=ws.map V.int/\ws.length=i/\∀n∈ws,0<=n) ⟨h5,λ_ _ e _=>e,[],rfl,rfl,λn h=>by cases h⟩ (cF (by omega)) (λi us H' hi ⟨_,_,ps,e1,e2,_⟩=>by rw[e1,bP];omega) (λi us H' hi ⟨h6,k6,ws,e1,e2,e3⟩=>?_) (λus H' ⟨h6,k6,ws,e1,e2,e3⟩=>?_)
  ·have es6:=k6 _ _ es sp
   walk_at "w"
   refine⟨p,bb,W.x,W.y,rfl,h6,k6 _ _ hbb bbp,hg.x.1,λw H7 w0 h7 k7 _=>?_⟩
   refine⟨h7,k6.trans k7,ws ++ [w],by rw[e1,rW];rfl,by rw[oU,e2];rfl,λn hn=>?_⟩
   rcases Ri9.mp hn with z|z
   ·exact e3 n z
   ·rw[Qu9.mp z];exact w0
  subst e1
  intro u nu
  obtain⟨H7,i7,s7,g7⟩:=nw _ nu;rw[i7]
  have h7:=h6.same s7
  have T7:Tr H1 H7:=T5.trans ((h5.tr k6).trans s7.tr)
  have K7:cA p H H7:=K5.trans (k6.trans s7.keep)
  have hW7:=hW.tr T7
  walk_at "w"
  refine⟨p,s,W,rfl,h7,hW7,hg,λa P H8 hP hPo hPs h8 k8=>?_⟩
  have T8:Tr H7 H8:=h7.tr k8
  have hW8:=hW7.tr T8
  obtain⟨ls8,st8,bb8,es8,hsp8,hst8,hbb8⟩:=hW8.ex
  walk_at "w"
  refine⟨p,bb8,W.x,W.y,W.lack,nh,rfl,h8,hbb8,hg.y.1,hg.y.2,hg.lack,nh48,λq qs H9 gq lq hq h9 k9=>?_⟩
  have T9:Tr H8 H9:=h8.tr k9
  walk_at "w"
  intro T nT
  obtain⟨H10,i10,s10,g10⟩:=nw _ nT;rw[i10]
  have T10:Tr H8 H10:=T9.trans s10.tr
  walk_at "w"
  exact k T s a u q W P ws qs H10 g10 (hW8.tr T10) hg (hP.tk T10.tk) ⟨hPo,hPs⟩ ((T8.trans T10) _ _ g7 aHc) (s10 _ _ gq) (by omega) hq e3 (by omega) (h9.same s10) (K7.trans (k8.trans (k9.trans s10.keep)))
theorem _root_.L2.cP.tk{H H':Hp}{qs:List Addr}{ts:List (List Int)}(h:cP H qs ts)(s:Tk H H'):cP H' qs ts:=⟨h.len,λj q t x y=>⟨s _ _ (h.at_ j q t x y).1,(h.at_ j q t x y).2⟩⟩
theorem _root_.L2.cP.nil{H:Hp}:cP H [] []:=⟨rfl,λj q t x=>by simp at x⟩
theorem _root_.L2.cP.app{H:Hp}{qs qs':List Addr}{ts ts':List (List Int)}(h:cP H qs ts)(h':cP H qs' ts'):cP H (qs++qs') (ts++ts'):=by
 refine⟨by rw[oU,oU,h.len,h'.len],λj q u hq hu=>?_⟩
 by_cases hj:j < qs.length
 ·rw[Qn9 hj] at hq
  rw[Qn9 (by rw[<-h.len];exact hj)] at hu
  exact h.at_ j q u hq hu
 ·rw[Qo9 (by omega)] at hq
  rw[Qo9 (by rw[<-h.len];omega),<-h.len] at hu
  exact h'.at_ _ q u hq hu
theorem _root_.L2.cP.one{H:Hp}{q:Addr}{t:List Int}(h:H q=some (.tup (t.map V.int)))(ne:t≠[]):cP H [q] [t]:=⟨rfl,λj a b x y=>by
 match j,x,y with
 |0,x,y=>cases x;cases y;exact⟨h,ne⟩
 |_+1,x,_=>simp at x⟩
theorem _root_.L2.cP.get{H:Hp}{qs:List Addr}{ts:List (List Int)}(h:cP H qs ts){i:Nat}{v:V}(hv:(qs.map V.ref)[i]?=some v):∃q t,qs[i]?=some q/\v=.ref q/\ts[i]?=some t/\H q=some (.tup (t.map V.int)):=by
 rw[oR] at hv
 cases hq:qs[i]? with
 |none=>rw[hq] at hv;cases hv
 |some q=>
  rw[hq] at hv
  cases hv
  have li:i < ts.length:=by rw[<-h.len];exact(lZ.mp hq).1
  exact⟨q,ts[i],rfl,rfl,dQ li,(h.at_ i q _ hq (dQ li)).1⟩
def hc(m:MS)(s:Int×Int)(q on out:Int):Int:=if on=1 then m.run+m.begin_*(1 - s.1)+(cst m.pieces (out - m.least) - q*out) else m.rest
def rv(m:MS)(qs:List Int):Nat->Int×Int->List (Int×Int)->Int
 |_,_,[]=>0
 |i,s,t::r=>hc m s (qs.getD i 0) t.1 t.2+rv m qs (i+1) (pG m s.1 s.2 t.1) r
def hcL(q:Int):List MS->List (Int×Int)->List Int->List Int->Int
 |m::ms,s::ss,o::os,u::us=>hc m s q o u+hcL q ms ss os us
 |_,_,_,_=>0
theorem aND{m:MS}{s:Int×Int}{q on out:Int}(h:aAl m on out)(b:yC on):hc m s q on out=hc m s 0 on out - q*out:=by
 unfold hc
 rcases b with rfl|rfl
 ·rw[if_neg (by decide),if_neg (by decide),h.1 rfl];omega
 ·rw[if_pos rfl,if_pos rfl,Int.zero_mul];omega
theorem aRZ{m:MS}(g:m.Good){s:Int×Int}(bs:yC s.1){q on out:Int}(b:yC on)(h:aAl m on out):hw m q s on<=hc m s q on out:=by
 unfold hc
 rcases b with rfl|rfl
 ·rw[if_neg (by decide),aSl];exact Sp9 _
 ·rw[if_pos rfl,aSm m q bs]
  obtain⟨h1,h2⟩:=h.2 (by decide)
  have a:=(best (p:=q) (ps:=m.pieces) (left:=out - m.least) g.pieces.up' (by omega) (by omega)).1
  unfold gnT
  rw[Int.mul_sub] at a
  omega
def Hrs(ms:List MS)(ss:List (Int×Int))(os us:List Int):Prop:=ss.length=ms.length/\os.length=ms.length/\us.length=ms.length/\∀(j:Nat) m s o u,ms[j]?=some m->ss[j]?=some s->os[j]?=some o->us[j]?=some u->m.Good/\yC s.1/\yC o/\(s.1=o\/s.2=0)/\aAl m o u
theorem Hrs.tl{m:MS}{ms:List MS}{s:Int×Int}{ss:List (Int×Int)}{o u:Int}{os us:List Int}(h:Hrs (m::ms) (s::ss) (o::os) (u::us)):Hrs ms ss os us:=by
 obtain⟨a,b,c,d⟩:=h
 exact⟨by simpa using a,by simpa using b,by simpa using c,λj m s o u h1 h2 h3 h4=>d (j+1) m s o u h1 h2 h3 h4⟩
theorem aGA{q:Int}:∀{ms:List MS}{ss:List (Int×Int)}{os us:List Int},Hrs ms ss os us->hcL q ms ss os us=hcL 0 ms ss os us - q*List.sum us
 |[],ss,os,us,h=>by
  have:us=[]:=List.eq_nil_of_length_eq_zero h.2.2.1
  subst this
  simp[hcL]
 |m::ms,[],_,_,h=>by cases h.1
 |m::ms,_::_,[],_,h=>by cases h.2.1
 |m::ms,_::_,_::_,[],h=>by cases h.2.2.1
 |m::ms,s::ss,o::os,u::us,h=>by
  obtain⟨_,_,b,_,ok⟩:=h.2.2.2 0 m s o u rfl rfl rfl rfl
  have e:=aGA (q:=q) h.tl
  show hc m s q o u+hcL q ms ss os us=hc m s 0 o u+hcL 0 ms ss os us - q*List.sum (u::us)
  rw[aND ok b,e,Tx9,Int.mul_add]
  omega
theorem aKF{qs:List Int}{k i:Nat}:∀{ms:List MS}{ss:List (Int×Int)}{os us:List Int},Hrs ms ss os us->List.sum (List.zipWith (λm s=>wF (Wr m qs) (k+1) i s) ms ss)<=hcL (qs.getD i 0) ms ss os us+List.sum (List.zipWith (λm s=>wF (Wr m qs) k (i+1) s) ms (m3 ms ss os))
 |[],ss,os,us,h=>by simp[hcL]
 |m::ms,[],_,_,h=>by cases h.1
 |m::ms,_::_,[],_,h=>by cases h.2.1
 |m::ms,_::_,_::_,[],h=>by cases h.2.2.1
 |m::ms,s::ss,o::os,u::us,h=>by
  obtain⟨g,bs,b,may,ok⟩:=h.2.2.2 0 m s o u rfl rfl rfl rfl
  have ih:=aKF (qs:=qs) (k:=k) (i:=i) h.tl
  have a:=vT (wF (Wr m qs) k (i+1)) (ws:=Wr m qs i s) (w:=(o,pG m s.1 s.2 o,hw m (qs.getD i 0) s o)) (aHn.mpr ⟨o,b,may,rfl⟩)
  have a':wF (Wr m qs) (k+1) i s<=hw m (qs.getD i 0) s o+wF (Wr m qs) k (i+1) (pG m s.1 s.2 o):=a
  have c:=aRZ g bs (q:=qs.getD i 0) b ok
  show List.sum (List.zipWith _ (m::ms) (s::ss))<=hc m s (qs.getD i 0) o u+hcL (qs.getD i 0) ms ss os us+List.sum (List.zipWith _ (m::ms) (pG m s.1 s.2 o::m3 ms ss os))
  rw[Tn9,Tn9,Tx9,Tx9]
  omega
def rvL:List MS->List (Int×Int)->List Hr->Int
 |ms,ss,[]=>0
 |ms,ss,h::hs=>hcL 0 ms ss h.ons h.outs+rvL ms (m3 ms ss h.ons) hs
def lkH(W:WS)(l:Int)(w:Int)(h:Hr):Int:=W.lack*max 0 (0 - (List.sum h.outs - w - drO W.store l h.lev))
def lkL(W:WS):Int->List Int->List Hr->Int
 |l,w::ws,h::hs=>lkH W l w h+lkL W h.lev ws hs
 |_,_,_=>0
theorem xQ.hrs{W:WS}(hg:W.Good){P:Ps}(p:vS W P){h:Hr}(x:xQ W P h):Hrs W.specs P.1 h.ons h.outs:=
 ⟨p.len,x.ons,x.outs,λj m s o u h1 h2 h3 h4=>⟨hg.specs m (oS h1),(p.vs s (oS h2)).1,x.bits o (oS h3),x.may j s o h2 h3,x.out j m o u h1 h3 h4⟩⟩
theorem LvW.mem{W:WS}{l n:Int}(h:LvW W l n):n∈lvO W.store l:=by
 unfold LvW at h
 cases e:W.store with
 |none=>rw[e] at h;exact Qu9.mpr h
 |some s=>
  rw[e] at h
  have h':Lv s l n:=h
  unfold Lv at h'
  show n∈upL (max 0 (l - s.out)) (min s.cap (l+s.into)+1 - max 0 (l - s.out)).toNat
  rw[aHd]
  omega
theorem aFa{W:WS}(hg:W.Good){qs:List Int}(hq:∀n∈qs,0<=n/\n<=W.lack):∀{hs:List Hr}{P:Ps}{ws:List Int}{i:Nat},vS W P->cX W P hs->ws.length=hs.length->i+hs.length=qs.length->
  wsF (qs.drop i) ws+List.sum (List.zipWith (λm s=>wF (Wr m qs) hs.length i s) W.specs P.1)+wF (Wo W.store qs) hs.length i P.2<=lkL W P.2 ws hs+rvL W.specs P.1 hs
 |[],P,ws,i,p,x,lw,li=>by
  have:ws=[]:=List.eq_nil_of_length_eq_zero lw
  subst this
  have z:∀(ms:List MS) (ss:List (Int×Int)),List.sum (List.zipWith (λm s=>wF (Wr m qs) ([]:List Hr).length i s) ms ss)=0:=by
   intro ms
   induction ms with
   |nil=>intro ss;rfl
   |cons m ms ih=>
    intro ss
    cases ss with
    |nil=>rfl
    |cons s ss=>rw[Tn9,Tx9,ih];rfl
  rw[z]
  unfold wsF
  show List.sum (List.zipWith _ _ [])+0+0<=(0:Int)+0
  simp
 |h::hs,P,[],i,p,x,lw,li=>by cases lw
 |h::hs,P,w::ws,i,p,x,lw,li=>by
  have li':i+(hs.length+1)=qs.length:=li
  have il:i < qs.length:=by omega
  have ed:qs.drop i=qs[i] :: qs.drop (i+1):=Rb9 il
  have eg:qs.getD i 0=qs[i]:=by rw[Qt9,dQ il];rfl
  obtain⟨q0,q1⟩:=hq _ (Rd9 il)
  have hr:=x.1.hrs hg p
  have ih:=aFa hg hq (hs:=hs) (P:=nxt W P h) (ws:=ws) (i:=i+1) (x.1.nxt hg p) x.2 (by simpa using lw) (by omega)
  have a:=aKF (qs:=qs) (k:=hs.length) (i:=i) hr
  have b:=aGA (q:=qs.getD i 0) hr
  have c:=vT (wF (Wo W.store qs) hs.length (i+1)) (ws:=Wo W.store qs i P.2) (w:=(h.lev,h.lev,qs.getD i 0*drO W.store P.2 h.lev)) (xX.mpr ⟨h.lev,x.1.lev.mem,rfl⟩)
  have c':wF (Wo W.store qs) (hs.length+1) i P.2<=qs.getD i 0*drO W.store P.2 h.lev+wF (Wo W.store qs) hs.length (i+1) h.lev:=c
  rw[eg] at a b c'
  rw[ed]
  generalize qs[i]=q at *
  have e1:wsF (q::qs.drop (i+1)) (w::ws)=q*w+wsF (qs.drop (i+1)) ws:=rfl
  rw[e1]
  have ih':wsF (qs.drop (i+1)) ws+List.sum (List.zipWith (λm s=>wF (Wr m qs) hs.length (i+1) s) W.specs (m3 W.specs P.1 h.ons))+wF (Wo W.store qs) hs.length (i+1) h.lev<=lkL W h.lev ws hs+rvL W.specs (m3 W.specs P.1 h.ons) hs:=ih
  show q*w+wsF (qs.drop (i+1)) ws+List.sum (List.zipWith (λm s=>wF (Wr m qs) (hs.length+1) i s) W.specs P.1)+wF (Wo W.store qs) (hs.length+1) i P.2<=lkH W P.2 w h+lkL W h.lev ws hs+(hcL 0 W.specs P.1 h.ons h.outs+rvL W.specs (m3 W.specs P.1 h.ons) hs)
  have d:q*(w+drO W.store P.2 h.lev - List.sum h.outs)<=lkH W P.2 w h:=by
   unfold lkH
   rw[show 0 - (List.sum h.outs - w - drO W.store P.2 h.lev)=w+drO W.store P.2 h.lev - List.sum h.outs by omega]
   generalize w+drO W.store P.2 h.lev - List.sum h.outs=y
   refine Sm9 (Int.mul_le_mul_of_nonneg_left (show y<=max 0 y by omega) q0) ?_
   exact Int.mul_le_mul_of_nonneg_right q1 (by omega)
  rw[Int.mul_sub,Int.mul_add] at d
  omega
theorem aIY{W:WS}(hg:W.Good){P:Ps}(p:vS W P){ws qs:List Int}{hs:List Hr}(hq:∀n∈qs,0<=n/\n<=W.lack)(x:cX W P hs)(l1:ws.length=qs.length)(l2:hs.length=qs.length):pbF W P ws qs<=lkL W P.2 ws hs+rvL W.specs P.1 hs:=by
 have a:=aFa hg hq (ws:=ws) (i:=0) p x (by omega) (by omega)
 rw[Sf9,l2,aNC] at a
 unfold pbF lmF rwF
 exact a
theorem aNE(m:MS):∀(rows:List (Int×Int)) (i j:Nat) (s:Int×Int),rv m [] i s rows=rv m [] j s rows
 |[],_,_,_=>rfl
 |t::r,i,j,s=>by
  show hc m s (([]:List Int).getD i 0) t.1 t.2+rv m [] (i+1) _ r=hc m s (([]:List Int).getD j 0) t.1 t.2+rv m [] (j+1) _ r
  rw[aNE m r (i+1) (j+1)]
  rfl
def aFb(k:Nat)(h:Hr):Hr:=⟨h.ons.drop k,h.outs.drop k,h.lev⟩
def col(k:Nat)(hs:List Hr):List (Int×Int):=hs.map λh=>(h.ons.getD k 0,h.outs.getD k 0)
theorem aC4:∀(k:Nat) (ms:List MS) (ss:List (Int×Int)) (os:List Int),(m3 ms ss os).drop k=m3 (ms.drop k) (ss.drop k) (os.drop k)
 |0,_,_,_=>rfl
 |k+1,[],ss,os=>by simp[m3]
 |k+1,m::ms,[],os=>by
  simp only[List.drop_succ_cons,List.drop_nil]
  cases ms.drop k <;> simp[m3]
 |k+1,m::ms,s::ss,[]=>by
  simp only[List.drop_succ_cons,List.drop_nil]
  cases ms.drop k <;> cases ss.drop k <;> simp[m3]
 |k+1,m::ms,s::ss,o::os=>by
  show(m3 ms ss os).drop k=_
  rw[aC4 k ms ss os]
  rfl
theorem aKG:∀(hs:List Hr) (ss:List (Int×Int)),rvL [] ss hs=0
 |[],_=>rfl
 |h::hs,ss=>by
  show hcL 0 [] ss h.ons h.outs+rvL [] (m3 [] ss h.ons) hs=0
  rw[aKG hs]
  rfl
theorem aKH{k n:Nat}{ms:List MS}{m:MS}(hm:ms[k]?=some m)(hk:k < n):∀{hs:List Hr}{ss:List (Int×Int)}{s:Int×Int},ss[k]?=some s->(∀h∈hs,h.ons.length=n/\h.outs.length=n)->
  rvL (ms.drop k) (ss.drop k) (hs.map (aFb k))=rv m [] 0 s (col k hs)+rvL (ms.drop (k+1)) (ss.drop (k+1)) (hs.map (aFb (k+1)))
 |[],ss,s,_,_=>rfl
 |h::hs,ss,s,es,hl=>by
  obtain⟨l1,l2⟩:=hl h (.head _)
  have eo:h.ons[k]?=some (h.ons[k]'(by omega)):=dQ _
  have eu:h.outs[k]?=some (h.outs[k]'(by omega)):=dQ _
  have do_:h.ons.drop k=(h.ons[k]'(by omega))::h.ons.drop (k+1):=Rb9 _
  have du:h.outs.drop k=(h.outs[k]'(by omega))::h.outs.drop (k+1):=Rb9 _
  generalize h.ons[k]'(by omega)=o at eo do_
  generalize h.outs[k]'(by omega)=u at eu du
  have km:k < ms.length:=(lZ.mp hm).1
  have ks:k < ss.length:=(lZ.mp es).1
  have dm:ms.drop k=m::ms.drop (k+1):=by rw[Rb9 km,(lZ.mp hm).2]
  have ds:ss.drop k=s::ss.drop (k+1):=by rw[Rb9 ks,(lZ.mp es).2]
  have ih:=aKH hm hk (hs:=hs) (ss:=m3 ms ss h.ons) (aAk hm es eo) (λx hx=>hl x (Qq9 _ hx))
  have z:rv m [] 0 s (col k (h::hs))=hc m s 0 o u+rv m [] 0 (pG m s.1 s.2 o) (col k hs):=by
   show hc m s (([]:List Int).getD 0 0) (h.ons.getD k 0) (h.outs.getD k 0)+rv m [] (0+1) (pG m s.1 s.2 (h.ons.getD k 0)) (col k hs)=_
   rw[show h.ons.getD k 0=o by rw[Qt9,eo];rfl,show h.outs.getD k 0=u by rw[Qt9,eu];rfl,aNE m _ (0+1) 0]
   rfl
  rw[z]
  show hcL 0 (ms.drop k) (ss.drop k) (h.ons.drop k) (h.outs.drop k)+rvL (ms.drop k) (m3 (ms.drop k) (ss.drop k) (h.ons.drop k)) (hs.map (aFb k))=hc m s 0 o u+rv m [] 0 (pG m s.1 s.2 o) (col k hs)+(hcL 0 (ms.drop (k+1)) (ss.drop (k+1)) (h.ons.drop (k+1)) (h.outs.drop (k+1))+rvL (ms.drop (k+1)) (m3 (ms.drop (k+1)) (ss.drop (k+1)) (h.ons.drop (k+1))) (hs.map (aFb (k+1))))
  rw[aC4,aC4] at ih
  rw[ih]
  have e2:hcL 0 (ms.drop k) (ss.drop k) (h.ons.drop k) (h.outs.drop k)=hc m s 0 o u+hcL 0 (ms.drop (k+1)) (ss.drop (k+1)) (h.ons.drop (k+1)) (h.outs.drop (k+1)):=by
   rw[dm,ds,do_,du]
   rfl
  rw[e2]
  omega
def aIZ(m:MS):Int×Int->List (Int×Int)->Prop
 |_,[]=>True
 |a,t::r=>yC t.1/\(a.1=t.1\/a.2=0)/\aAl m t.1 t.2/\aIZ m (pG m a.1 a.2 t.1) r
theorem cX.row{W:WS}{k:Nat}{m:MS}(hm:W.specs[k]?=some m):∀{hs:List Hr}{P:Ps}{s:Int×Int},cX W P hs->P.1[k]?=some s->aIZ m s (col k hs)
 |[],_,_,_,_=>trivial
 |h::hs,P,s,x,es=>by
  have km:k < W.specs.length:=(lZ.mp hm).1
  have eo:h.ons[k]?=some (h.ons[k]'(by rw[x.1.ons];exact km)):=dQ _
  have eu:h.outs[k]?=some (h.outs[k]'(by rw[x.1.outs];exact km)):=dQ _
  generalize h.ons[k]'(by rw[x.1.ons];exact km)=o at eo
  generalize h.outs[k]'(by rw[x.1.outs];exact km)=u at eu
  have ih:=cX.row hm (hs:=hs) (P:=nxt W P h) x.2 (aAk hm es eo)
  have g1:h.ons.getD k 0=o:=by rw[Qt9,eo];rfl
  have g2:h.outs.getD k 0=u:=by rw[Qt9,eu];rfl
  show yC (h.ons.getD k 0)/\(s.1=h.ons.getD k 0\/s.2=0)/\aAl m (h.ons.getD k 0) (h.outs.getD k 0)/\aIZ m (pG m s.1 s.2 (h.ons.getD k 0)) (col k hs)
  rw[g1,g2]
  exact⟨x.1.bits o (oS eo),x.1.may k s o es eo,x.1.out k m o u hm eo eu,ih⟩
theorem cX.aPd{W:WS}:∀{hs:List Hr}{P:Ps},cX W P hs->∀h∈hs,h.ons.length=W.specs.length/\h.outs.length=W.specs.length
 |[],_,_,h,hh=>by cases hh
 |h::hs,P,x,y,hy=>by
  rcases yF.mp hy with rfl|z
  ·exact⟨x.1.ons,x.1.outs⟩
  ·exact cX.aPd x.2 y z
theorem aPe(hs:List Hr):hs.map (aFb 0)=hs:=by
 have:aFb 0=id:=rfl
 rw[this,List.map_id]
def sumK(k:Int):List (List Int)->Int
 |[]=>0
 |e::r=>(if e.getD 1 0=k then e.getD 2 0 else 0)+sumK k r
theorem aI0(k:Int):∀(a b:List (List Int)),sumK k (a++b)=sumK k a+sumK k b
 |[],b=>by show sumK k b=0+sumK k b;omega
 |e::a,b=>by
  show _+sumK k (a++b)=_+sumK k a+sumK k b
  rw[aI0 k a b]
  omega
theorem aLD(k:Int){a b:List (List Int)}(h:a.Perm b):sumK k a=sumK k b:=by
 induction h with
 |nil=>rfl
 |cons x _ ih=>show _+_=_+_;rw[ih]
 |swap x y l=>show _+(_+_)=_+(_+_);omega
 |trans _ _ i1 i2=>rw[i1,i2]
def pcO(i:Nat)(on:Int)(ps:List (Int×Int)):List (List Int):=ps.map λt=>[t.2,(i:Int),t.1*on]
theorem aHG(i:Nat)(on:Int)(ps:List (Int×Int)):(pcO i on ps).length=ps.length:=by unfold pcO;rw[bP]
theorem aNF{i j:Nat}{on:Int}{ps:List (Int×Int)}{t:Int×Int}(h:ps[j]?=some t):(pcO i on ps).take (j+1)=(pcO i on ps).take j ++ [[t.2,(i:Int),t.1*on]]:=by
 unfold pcO
 rw[Rr9,oR,h]
 rfl
theorem aFc(k i:Nat)(on:Int):∀(ps:List (Int×Int)),sumK (k:Int) (pcO i on ps)=if k=i then vR ps*on else 0
 |[]=>by
  show(0:Int)=if k=i then 0*on else 0
  rw[Int.zero_mul]
  split <;> rfl
 |t::ps=>by
  show(if (i:Int)=(k:Int) then t.1*on else 0)+sumK (k:Int) (pcO i on ps)=if k=i then (t.1+vR ps)*on else 0
  rw[aFc k i on ps]
  by_cases e:k=i
  ·rw[if_pos e,if_pos e,if_pos (by rw[e]),Int.add_mul]
  ·rw[if_neg e,if_neg e,if_neg (by omega)];rfl
def aFd(ms:List MS)(ons:List Int):Nat->List (List Int)
 |0=>[]
 |i+1=>aFd ms ons i++(match ms[i]?,ons[i]? with|some m,some on=>pcO i on m.pieces|_,_=>[])
theorem aLE{ms:List MS}{ons:List Int}{i:Nat}{m:MS}{on:Int}(h1:ms[i]?=some m)(h2:ons[i]?=some on):aFd ms ons (i+1)=aFd ms ons i++pcO i on m.pieces:=by
 show aFd ms ons i++_=_
 rw[h1,h2]
theorem aI1{ms:List MS}{ons:List Int}{k:Nat}{m:MS}{on:Int}(h1:ms[k]?=some m)(h2:ons[k]?=some on):∀i:Nat,sumK (k:Int) (aFd ms ons i)=if k < i then vR m.pieces*on else 0
 |0=>rfl
 |i+1=>by
  have ih:=aI1 h1 h2 i
  show sumK (k:Int) (aFd ms ons i++_)=_
  rw[aI0,ih]
  by_cases e:k=i
  ·subst e
   rw[h1,h2,if_neg (by omega),if_pos (by omega)]
   show 0+sumK (k:Int) (pcO k on m.pieces)=_
   rw[aFc,if_pos rfl]
   omega
  ·have z:sumK (k:Int) (match ms[i]?,ons[i]? with|some m,some on=>pcO i on m.pieces|_,_=>[])=0:=by
    cases ms[i]? with
    |none=>rfl
    |some m'=>
     cases ons[i]? with
     |none=>rfl
     |some on'=>
      show sumK (k:Int) (pcO i on' m'.pieces)=0
      rw[aFc,if_neg e]
   rw[z]
   by_cases l:k < i
   ·rw[if_pos l,if_pos (by omega)];omega
   ·rw[if_neg l,if_neg (by omega)];rfl
def ShO(n:Nat)(e:List Int):Prop:=∃(r a:Int) (k:Nat),e=[r,(k:Int),a]/\k < n/\0<=a
theorem aRd{n i:Nat}{on:Int}{ps:List (Int×Int)}(hi:i < n)(ho:yC on)(hp:∀t∈ps,1<=t.1):∀e∈pcO i on ps,ShO n e:=λe he=>by
 obtain⟨t,ht,rfl⟩:=xX.mp he
 refine⟨t.2,t.1*on,i,rfl,hi,Td9 (by have:=hp t ht;omega) ?_⟩
 rcases ho with z|z <;> omega
theorem aKI{ms:List MS}{ons:List Int}(hg:∀m∈ms,m.Good)(hb:∀o∈ons,yC o):∀i:Nat,∀e∈aFd ms ons i,ShO ms.length e
 |0,e,he=>by cases he
 |i+1,e,he=>by
  rcases Ri9.mp he with z|z
  ·exact aKI hg hb i e z
  ·cases h1:ms[i]? with
   |none=>rw[h1] at z;cases z
   |some m=>
    cases h2:ons[i]? with
    |none=>rw[h1,h2] at z;cases z
    |some on=>
     rw[h1,h2] at z
     exact aRd (lZ.mp h1).1 (hb on (oS h2)) (λt ht=>((hg m (oS h1)).pieces.pc t ht).1) e z
theorem aFe{ms:List MS}{ons:List Int}(hg:∀m∈ms,m.Good):∀i:Nat,(aFd ms ons i).length<=i*5
 |0=>gB _
 |i+1=>by
  have ih:=aFe (ons:=ons) hg i
  show(aFd ms ons i++_).length<=_
  rw[oU]
  cases h1:ms[i]? with
  |none=>show _+0<=_;omega
  |some m=>
   cases ons[i]? with
   |none=>show _+0<=_;omega
   |some on=>
    have:=(hg m (oS h1)).pieces.len
    show _+(pcO i on m.pieces).length<=_
    rw[aHG]
    omega
theorem cX.shared{W:WS}:∀{hs hs':List Hr}{P:Ps},cX W P hs->hs'.length=hs.length->(∀(j:Nat) h h',hs[j]?=some h->hs'[j]?=some h'->h'.ons=h.ons/\h'.lev=h.lev/\h'.outs.length=W.specs.length/\∀(i:Nat) m on out,W.specs[i]?=some m->h.ons[i]?=some on->h'.outs[i]?=some out->aAl m on out)->cX W P hs'
 |[],[],_,_,_,_=>trivial
 |[],_::_,_,_,h,_=>by cases h
 |_::_,[],_,_,h,_=>by cases h
 |h::hs,h'::hs',P,x,hl,hj=>by
  obtain⟨e1,e2,e3,e4⟩:=hj 0 h h' rfl rfl
  have y:=x.1
  refine⟨⟨by rw[e1];exact y.ons,e3,by rw[e1];exact y.bits,by rw[e1];exact y.may,λj m on out h1 h2 h3=>e4 j m on out h1 (by rw[<-e1];exact h2) h3,by rw[e2];exact y.lev⟩,?_⟩
  have en:nxt W P h'=nxt W P h:=by unfold nxt;rw[e1,e2]
  rw[en]
  exact cX.shared x.2 (by simpa using hl) λj a b c d=>hj (j+1) a b c d
def aCx(K:W.Frag):Sp:=λvs H Q _=>∃(s t o u z:Addr) (m:MS) (a:Int×Int) (rows:List (Int×Int)),vs=[.ref s,.ref t,.ref o,.ref u,.ref z]/\dB H s m/\m.Good/\H t=some (.tup [.int a.1,.int a.2])/\yC a.1/\0<=a.2/\H o=some (.lst ((rows.map Prod.fst).map V.int))/\H u=some (.lst ((rows.map Prod.snd).map V.int))/\H z=some (.lst ((rows.map λ_=>(0:Int)).map V.int))/\rows.length<=48/\aIZ m a rows/\∀H',aP H H'->Q (.int (rv m [] 0 a rows)) H'
theorem aCy{P:Program}{w:World}{K:PySem.W.Frag}{mg:Str->Option Value}{base:Heap}{a:iR}(tx:Txt K mg a):bQ P w K mg base gE 2 a.jJ a.jK ["_law_spec_here","_law_state_here","_law_ons_here","_law_outputs","_law_prices_here"] (aCx K):=by
 have lU:=uX (P:=P) (w:=w) (base:=base) tx
 have aI2:=aHA (P:=P) (w:=w) (base:=base) tx
 refine tx.mU.ok dA (λvs H Q E h=>?_) (λcdv A outer s H vs Q E hr h=>?_)
 ·obtain⟨s,t,o,u,z,m,a0,rows,rfl,_⟩:=h
  rfl
 ·obtain⟨s,t,o,u,z,m,a0,rows,rfl ,hs,hg,ht,b0,d0,hon,hou,hoz,hl,hok,k⟩:=h
  have hu:=jO hr
  refine bA (aD (aJ (i:=5) dA.nd aB)
   (aD (bM PassesOwn.never rfl (bO (by rfl) tx.cM (aA (aK (rc:=lW K) bS (by rfl) tx.eN dR (aA (Z.pv 2) aC)) aC)) (aL (i:=6) dA.nd) (aD (bH (aZ (r:=oV K) (eE hu) (aE (K':=K) (Z.pv 2) (Z.pv 6)) aB (bK _)) (aD (kE (i:=5) dA.nd rfl (Or.inl rfl) (aI bI (aE (K':=K) (Z.pv 0) aB) (aI bN (aE (K':=K) (Z.pv 0) aB) (aI dJ aB (aE (K':=K) (Z.pv 1) aB)))) uB)
   (aG (kE (i:=5) dA.nd rfl (Or.inl rfl) (aI dJ (zq1 aI2 hr tx.aDq tx.aAa.kp tx.aDp (aA (Z.pv 0) (aA (aE (K':=K) (Z.pv 3) (Z.pv 6)) aC))) (aI bN (aE (K':=K) (Z.pv 4) (Z.pv 6)) (aE (K':=K) (Z.pv 3) (Z.pv 6)))) uB))) (aG (kE (i:=5) dA.nd rfl (Or.inl rfl) (aE (K':=K) (Z.pv 0) aB) uB)))
   (aG (aJ (i:=1) dA.nd (zq1 lU hr tx.qL tx.lP.kp tx.qK (aA (Z.pv 0) (aA (Z.pv 1) (aA (aE (K':=K) (Z.pv 2) (Z.pv 6)) aC))))))))
   (aG (aM (Z.pv 5))))) ?_
  obtain⟨pl,hx,hp⟩:=hs.ex
  refine aS (σ:=[some (.ref s),some (.ref t),some (.ref o),some (.ref u),some (.ref z),none,none]) rfl ?_
  walk_at "w"
  refine⟨by rw[bP,bP];omega,by rw[bP,bP];omega,?_⟩
  rw[Re9,bP,bP]
  refine iI (n:=rows.length) (λi σ' H'=>aP H H'/\∃(t':Addr) (a':Int×Int) (c:Int) (z6:Option V),σ'=[some (.ref s),some (.ref t'),some (.ref o),some (.ref u),some (.ref z),some (.int c),z6]/\H' t'=some (.tup [.int a'.1,.int a'.2])/\yC a'.1/\0<=a'.2/\aIZ m a' (rows.drop i)/\c+rv m [] i a' (rows.drop i)=rv m [] 0 a0 rows)
   ⟨aP.refl _,t,a0,0,_,rfl,ht,b0,d0,hok,by rw[Sf9,Rj9]⟩ (λi σ' H' hi ⟨s1,t',a',c,z6,e,ht',ba,da,hr,ec⟩=>?_) (λσ' H' ⟨s1,t',a',c,z6,e,ht',ba,da,hr,ec⟩=>?_)
  ·subst e
   have ed:rows.drop i=rows[i] :: rows.drop (i+1):=Rb9 hi
   have er:rows[i]?=some rows[i]:=dQ hi
   rw[ed] at hr ec
   generalize rows[i]=rw at hr ec er
   obtain⟨bon,may,hout,hr'⟩:=hr
   obtain⟨bg0,bg1⟩:=hg.begin_
   have ba1:a'.1=0\/a'.1=1:=ba
   have ixo:mC ((rows.map Prod.fst).map V.int) (0+(i:Int))=some (.int rw.1):=by rw[Rj9];exact oH (by rw[oR,er];rfl)
   have ixu:mC ((rows.map Prod.snd).map V.int) (0+(i:Int))=some (.int rw.2):=by rw[Rj9];exact oH (by rw[oR,er];rfl)
   have ixz:mC ((rows.map λ_=>(0:Int)).map V.int) (0+(i:Int))=some (.int 0):=by rw[Rj9];exact oH (by rw[oR,er];rfl)
   have ho1:=s1 _ _ hon
   have hu1:=s1 _ _ hou
   have hz1:=s1 _ _ hoz
   have hx1:=s1 _ _ hx
   have hs1:=hs.tr s1.tr
   repeat walk_at "st"
   refine iD (λσ'' H''=>H''=H'/\σ''=[some (.ref s),some (.ref t'),some (.ref o),some (.ref u),some (.ref z),some (.int (c+hc m a' 0 rw.1 rw.2)),some (.int (0+(i:Int)))]) (λN hN=>?_) (λσ'' H'' ⟨eh,es⟩=>?_)
   ·walk_at "w"
    unfold hc at hN
    refine cD (λh1=>?_) (λh1=>?_)
    ·rw[if_pos h1] at hN
     walk_at "w"
     refine yY rfl ?_
     walk_at "w"
     refine yY rfl ?_
     walk_at "w"
     refine⟨s,m,_,rfl,hs1,hg,?_⟩
     walk_at "w"
     refine hN _ _ ⟨rfl,?_⟩
     rw[Int.add_assoc c]
     rfl
    ·rw[if_neg h1] at hN
     walk_at "w"
     refine yY rfl ?_
     walk_at "w"
     exact hN _ _ ⟨rfl,rfl⟩
   subst eh es
   walk_at "w"
   refine⟨s,m,t',a'.1,a'.2,rw.1,rfl,hs1,ht',bon,ba,da,λ_ T H2 s2 nT hT=>?_,λz=>absurd may z⟩
   walk_at "w"
   refine⟨s1.trans s2,T,pG m a'.1 a'.2 rw.1,_,_,rfl,hT,(aEM hg bon).1,(aEM hg bon).2,hr',?_⟩
   have ec':c+(hc m a' 0 rw.1 rw.2+rv m [] (i+1) (pG m a'.1 a'.2 rw.1) (rows.drop (i+1)))=rv m [] 0 a0 rows:=ec
   omega
  ·subst e
   walk_at "w"
   rw[Sk9] at ec
   have ec':c+0=rv m [] 0 a0 rows:=ec
   rw[<-ec',Sw9] at k
   exact k _ s1
def aHH(K:PySem.W.Frag):Sp:=λvs H Q _=>∃(s y:Addr) (W:WS) (l w:Int) (h:Hr),vs=[.ref s,.int l,.int w,.ref y]/\iG H s W/\W.Good/\aHf H y h/\Q (.int (List.sum h.outs - w - drO W.store l h.lev)) H
theorem aHI{P:Program}{w:World}{K:PySem.W.Frag}{mg:Str->Option Value}{base:Heap}{a:iR}(tx:Txt K mg a):bQ P w K mg base gE 2 a.tL a.tM ["_law_spec_here","_law_level","_law_want_here","_law_hour_here"] (aHH K):=by
 have xW:=aBb (P:=P) (w:=w) (base:=base) tx
 refine tx.aAd.ok aG1 (λvs H Q E h=>?_) (λcdv A outer s H vs Q E hr h=>?_)
 ·obtain⟨s,y,W,l,w,h,rfl,_⟩:=h
  rfl
 ·obtain⟨s,y,W,l,w,h,rfl ,hW,hg,hh,k⟩:=h
  have hu:=jO hr
  refine bA (aG (aM (aI dJ (aI dJ (aK (rc:=aMO K) (aLe rfl) (by rfl) tx.aA7 aEc (aA (aE (K':=K) (Z.pv 3) aB) aC)) (Z.pv 2)) (zq1 xW hr tx.xK tx.qN.kp tx.xJ (aA (aE (K':=K) (Z.pv 0) aB) (aA (Z.pv 1) (aA (aE (K':=K) (Z.pv 3) aB) aC))))))) ?_
  obtain⟨ls,st,bb,es,hsp,hst,hbb⟩:=hW.ex
  obtain⟨u,v,hy,hu,hv⟩:=hh.ex
  refine aS (σ:=[some (.ref s),some (.int l),some (.int w),some (.ref y)]) rfl ?_
  walk_at "w"
  refine aOL (kQ.of hv) ?_
  walk_at "w"
  refine⟨st,W.store,l,h.lev,rfl,hst,hg.store,?_⟩
  walk_at "w"
  exact k
def aCz(K:PySem.W.Frag):Sp:=λvs H Q _=>∃(s x u y:Addr) (W:WS) (P:Ps) (ws:List Int) (hs:List Hr),vs=[.ref s,.ref x,.ref u,.ref y]/\iG H s W/\W.Good/\rT H x P/\vS W P/\H u=some (.lst (ws.map V.int))/\aAj H y hs/\cX W P hs/\ws.length=hs.length/\hs.length<=48/\∀H',aP H H'->Q (.int (lkL W P.2 ws hs+rvL W.specs P.1 hs)) H'
theorem aCA{P:Program}{w:World}{K:PySem.W.Frag}{mg:Str->Option Value}{base:Heap}{a:iR}(tx:Txt K mg a):bQ P w K mg base gE 3 a.jL a.jM ["_law_spec_here","_law_position_here","_law_wants","_law_plan_here"] (aCz K):=by
 have aI3:=aHI (P:=P) (w:=w) (base:=base) tx
 have aC5:=aCy (P:=P) (w:=w) (base:=base) tx
 refine tx.mV.ok bU (λvs H Q E h=>?_) (λcdv A outer s H vs Q E hr h=>?_)
 ·obtain⟨s,x,u,y,W,P,ws,hs,rfl,_⟩:=h
  rfl
 ·obtain⟨s,x,u,y,W,P,ws,hs,rfl ,hW,hg,hP,hok,gu,hy,hpo,hlw,hl,k⟩:=h
  have hu:=jO hr
  refine bA (aD (aJ (i:=4) bU.nd aB)
   (aD (aJ (i:=5) bU.nd (aE (K':=K) (Z.pv 1) aB))
   (aD (bM PassesOwn.never rfl (v8 (k1:=true) (k2:=true) (by rfl) tx.aCg (aA (Z.pv 2) (aA (Z.pv 3) aC))) (cC (K':=K) (n:=2) rfl (aV (aL (i:=6) bU.nd) (aV (aL (i:=7) bU.nd) cB))) (aD (kE (i:=4) bU.nd rfl (Or.inl rfl) (aI bN (aE (K':=K) (Z.pv 0) aB) (aK (eQ rfl) (by rfl) tx.lY mD (aA aB (aA (aI dJ aB (zq1 aI3 hr tx.aDw tx.aAd.kp tx.aDv (aA (Z.pv 0) (aA (Z.pv 5) (aA (Z.pv 6) (aA (Z.pv 7) aC)))))) aC)))) uB)
   (aG (aJ (i:=5) bU.nd (aE (K':=K) (Z.pv 7) aB)))))
   (aD (bM PassesOwn.never rfl (bO (by rfl) tx.cM (aA (aK (rc:=lW K) bS (by rfl) tx.eN dR (aA (aE (K':=K) (Z.pv 0) aB) aC)) aC)) (aL (i:=8) bU.nd rfl (Or.inr rfl)) (aD (iL (k:=1) (idx:=[8]) (N:=["_law_hour_here","_law_k"]) (i:=9) bU.nd rfl (Or.inl rfl) (cR (sc:=aH cK) (NX:=["_law_spec_here","_law_position_here","_law_wants","_law_plan_here","_law_cost_here","_law_level","_law_want_here","_law_hour_here","_law_k","_law_ons_here","_law_outputs"]) rfl rfl rfl (by decide +kernel)) rfl (bT (K':=K) (Z.pv 3)) (λ_ _ _ _=>(aL (i:=0) (show(["_law_hour_here","_law_k"]:List Str).Nodup by decide +kernel))) (cY (by decide)) (λ_ _ _ _=>bR) (λ_ _ _ _=>(aE (K':=K) (aE (K':=K) (Z.pv 0) aB) (Z.pv 1))))
   (aD (iL (k:=1) (idx:=[8]) (N:=["_law_hour_here","_law_k"]) (i:=10) bU.nd rfl (Or.inl rfl) (cR (sc:=aH cK) (NX:=["_law_spec_here","_law_position_here","_law_wants","_law_plan_here","_law_cost_here","_law_level","_law_want_here","_law_hour_here","_law_k","_law_ons_here","_law_outputs"]) rfl rfl rfl (by decide +kernel)) rfl (bT (K':=K) (Z.pv 3)) (λ_ _ _ _=>(aL (i:=0) (show(["_law_hour_here","_law_k"]:List Str).Nodup by decide +kernel))) (cY (by decide)) (λ_ _ _ _=>bR) (λ_ _ _ _=>(aE (K':=K) (aE (K':=K) (Z.pv 0) aB) (Z.pv 1))))
   (aG (kE (i:=4) bU.nd rfl (Or.inl rfl) (zq1 aC5 hr tx.vN tx.mU.kp tx.vM (aA (aE (K':=K) (aE (K':=K) (Z.pv 0) aB) (Z.pv 8)) (aA (aE (K':=K) (aE (K':=K) (Z.pv 1) aB) (Z.pv 8)) (aA (Z.pv 9) (aA (Z.pv 10) (aA (cO (k:=1) (idx:=[]) (N:=["_law_hour_here"]) (cR (sc:=aH cK) (NX:=["_law_spec_here","_law_position_here","_law_wants","_law_plan_here","_law_cost_here","_law_level","_law_want_here","_law_hour_here","_law_k","_law_ons_here","_law_outputs"]) rfl rfl rfl (by decide +kernel)) rfl (bT (K':=K) (Z.pv 3)) (λ_ _ _ _=>(aL (i:=0) (show(["_law_hour_here"]:List Str).Nodup by decide +kernel))) (cY (by decide)) (λ_ _ _ _=>bR) (λ_ _ _ _=>aB)) aC)))))) uB)))))
   (aG (aM (Z.pv 4))))))) ?_
  have hlen:=hg.len
  obtain⟨ls,st,bb,es,hsp,hst,hbb⟩:=hW.ex
  obtain⟨qm,gls,rm⟩:=hsp.ex
  have lqm:=rm.len
  obtain⟨t,hx,hts⟩:=hP.ex
  obtain⟨qt,ht,rt⟩:=hts.ex
  have lqt:=rt.len
  obtain⟨qh,gy,rh⟩:=hy.ex
  have lqh:=rh.len
  have ll:=hok.len
  obtain⟨k0,k1⟩:=hg.lack
  refine aS (σ:=[some (.ref s),some (.ref x),some (.ref u),some (.ref y),none,none,none,none,none,none,none]) rfl ?_
  walk_at "w"
  refine aGN (Src.lst gu) (Src.lst gy) ?_
  refine aKh (n:=hs.length) (by rw[bP];omega) (by rw[bP];omega) (.inl (by rw[bP];omega))
   (λi σ' H'=>aP H H'/\∃(c l:Int) (z6 z7:Option V),σ'=[some (.ref s),some (.ref x),some (.ref u),some (.ref y),some (.int c),some (.int l),z6,z7,none,none,none]/\c+lkL W l (ws.drop i) (hs.drop i)=lkL W P.2 ws hs) ⟨aP.refl _,0,P.2,none,none,rfl,by rw[Sf9,Sf9,Rj9]⟩
   (λi σ' H' hi ⟨s',_⟩=>⟨Src.lst (s' _ _ gu),Src.lst (s' _ _ gy)⟩) (λi xv yv σ' H' T hxv hyv ⟨s',c,l,z6,z7,e,ec⟩ nT=>?_) (λσ' H' ⟨s',c,l,z6,z7,e,ec⟩=>?_)
  ·subst e
   obtain⟨wn,ew,rfl⟩:=aAD hxv
   obtain⟨qy,h,_,rfl,eh,hh⟩:=rh.get hyv
   obtain⟨J,j,sT,gT⟩:=nw _ nT;rw[j]
   have S2:=s'.trans sT
   have hh2:=hh.tk S2.tk
   obtain⟨a1,a2,gq,ga1,ga2⟩:=hh2.ex
   have es2:=S2 _ _ es
   refine eM (kQ.of gT) rfl ?_
   walk_at "w"
   refine yY rfl ?_
   walk_at "w"
   refine⟨s,qy,W,l,wn,h,rfl,hW.tr S2.tr,hg,hh2,?_⟩
   walk_at "w"
   refine⟨S2,_,h.lev,_,_,rfl,?_⟩
   have d1:ws.drop i=wn::ws.drop (i+1):=by rw[Rb9 (lZ.mp ew).1,(lZ.mp ew).2]
   have d2:hs.drop i=h::hs.drop (i+1):=by rw[Rb9 (lZ.mp eh).1,(lZ.mp eh).2]
   rw[d1,d2] at ec
   have ec':c+(lkH W l wn h+lkL W h.lev (ws.drop (i+1)) (hs.drop (i+1)))=lkL W P.2 ws hs:=ec
   unfold lkH at ec'
   omega
  subst e
  rw[<-hlw,Sk9] at ec
  have ec0:c+0=lkL W P.2 ws hs:=by
   rw[<-ec]
   cases hs.drop ws.length <;> rfl
  rw[Sw9] at ec0
  subst ec0
  have es2:=s' _ _ es
  have gls2:=s' _ _ gls
  walk_at "w"
  refine⟨by rw[bP];omega,by rw[bP];omega,?_⟩
  rw[Re9,bP,lqm]
  refine iI (n:=W.specs.length) (λi σ' H2=>aP H H2/\∃(c2:Int) (z5 z6 z7 z8 z9 z10:Option V),σ'=[some (.ref s),some (.ref x),some (.ref u),some (.ref y),some (.int c2),z5,z6,z7,z8,z9,z10]/\c2+rvL (W.specs.drop i) (P.1.drop i) (hs.map (aFb i))=lkL W P.2 ws hs+rvL W.specs P.1 hs)
   ⟨s',_,_,_,_,_,_,_,rfl,by rw[Sf9,Sf9,aPe]⟩ (λi σ' H2 hi ⟨s2,c2,z5,z6,z7,z8,z9,z10,e,e2⟩=>?_) (λσ' H2 ⟨s2,c2,z5,z6,z7,z8,z9,z10,e,e2⟩=>?_)
  ·subst e
   obtain⟨q,eq,hq⟩:=rm.ix hi
   have his:i < P.1.length:=by omega
   obtain⟨tq,etq,htq⟩:=rt.ix his
   have em:W.specs[i]?=some W.specs[i]:=dQ hi
   have est:P.1[i]?=some P.1[i]:=dQ his
   have gm:=hg.specs _ (Rd9 hi)
   have sv:=hok.vs _ (Rd9 his)
   generalize W.specs[i]=m at hq em gm
   generalize P.1[i]=a' at htq est sv
   have hro:=hpo.row em est
   rw[aKH em hi est hpo.aPd] at e2
   have gy2:=s2 _ _ gy
   have ik:∀h∈hs,mC (h.ons.map V.int) (0+(i:Int))=some (.int (h.ons.getD i 0))/\mC (h.outs.map V.int) (0+(i:Int))=some (.int (h.outs.getD i 0)):=λh hh=>by
    obtain⟨l1,l2⟩:=hpo.aPd h hh
    rw[Rj9]
    have e1:h.ons[i]?=some (h.ons[i]'(by omega)):=dQ _
    have e2:h.outs[i]?=some (h.outs[i]'(by omega)):=dQ _
    refine⟨oH ?_,oH ?_⟩
    ·rw[Qt9,e1];rfl
    ·rw[Qt9,e2];rfl
   walk_at "w"
   refine kU (bV.of gy2) ?_
   refine fO (xs:=qh.map V.ref) (λj us H3=>H3=H2/\us=((hs.take j).map λh=>h.ons.getD i 0).map V.int) ⟨rfl,rfl⟩ (cF (by rw[bP];omega))
    (λj us H3 hj ⟨e0,e1⟩=>⟨by rw[e0];exact bV.of gy2,by rw[e1,bP,bP,Rf9];omega⟩) (λj v us H3 hv ⟨e0,e1⟩=>?_) (λus H3 ⟨e0,e1⟩=>?_)
   ·subst e0
    obtain⟨qy,h,_,rfl,eh,hh⟩:=rh.get hv
    obtain⟨a1,a2,gq,ga1,ga2⟩:=(hh.tk s2.tk).ex
    have ih:=(ik h (oS eh)).1
    walk_at "w"
    refine⟨rfl,?_⟩
    rw[e1,oI eh,rW,rW]
    rfl
   subst e0 e1
   rw[bP,lqh,Rc9]
   intro lo nlo
   obtain⟨H4,i4,s4,g4⟩:=nw _ nlo;rw[i4]
   have S4:=s2.trans s4
   have gy4:=S4 _ _ gy
   walk_at "w"
   refine kU (bV.of gy4) ?_
   refine fO (xs:=qh.map V.ref) (λj us H3=>H3=H4/\us=((hs.take j).map λh=>h.outs.getD i 0).map V.int) ⟨rfl,rfl⟩ (cF (by rw[bP];omega))
    (λj us H3 hj ⟨e0,e1⟩=>⟨by rw[e0];exact bV.of gy4,by rw[e1,bP,bP,Rf9];omega⟩) (λj v us H3 hv ⟨e0,e1⟩=>?_) (λus H3 ⟨e0,e1⟩=>?_)
   ·subst e0
    obtain⟨qy,h,_,rfl,eh,hh⟩:=rh.get hv
    obtain⟨a1,a2,gq,ga1,ga2⟩:=(hh.tk S4.tk).ex
    have ih:=(ik h (oS eh)).2
    walk_at "w"
    refine⟨rfl,?_⟩
    rw[e1,oI eh,rW,rW]
    rfl
   subst e0 e1
   rw[bP,lqh,Rc9]
   intro lu nlu
   obtain⟨H5,i5,s5,g5⟩:=nw _ nlu;rw[i5]
   have S5:=S4.trans s5
   have gy5:=S5 _ _ gy
   have es5:=S5 _ _ es
   have gls5:=S5 _ _ gls
   have hx5:=S5 _ _ hx
   have ht5:=S5 _ _ ht
   have i1':mC (qm.map V.ref) (0+(i:Int))=some (.ref q):=by rw[Rj9];exact oG eq
   have i2':mC (qt.map V.ref) (0+(i:Int))=some (.ref tq):=by rw[Rj9];exact oG etq
   walk_at "w"
   refine yY rfl ?_
   walk_at "w"
   refine kU (bV.of gy5) ?_
   refine fO (xs:=qh.map V.ref) (λj us H3=>H3=H5/\us=((hs.take j).map λ_=>(0:Int)).map V.int) ⟨rfl,rfl⟩ (cF (by rw[bP];omega))
    (λj us H3 hj ⟨e0,e1⟩=>⟨by rw[e0];exact bV.of gy5,by rw[e1,bP,bP,Rf9];omega⟩) (λj v us H3 hv ⟨e0,e1⟩=>?_) (λus H3 ⟨e0,e1⟩=>?_)
   ·subst e0
    obtain⟨qy,h,_,rfl,eh,hh⟩:=rh.get hv
    walk_at "w"
    refine⟨rfl,?_⟩
    rw[e1,oI eh,rW,rW]
    rfl
   subst e0 e1
   rw[bP,lqh,Rc9]
   intro lz nlz
   obtain⟨H6,i6,s6,g6⟩:=nw _ nlz;rw[i6]
   have S6:=S5.trans s6
   walk_at "w"
   refine⟨q,tq,lo,lu,lz,m,a',col i hs,rfl,hq.tr S6.tr,gm,S6 _ _ htq,sv.1,sv.2,by rw[(s5.trans s6) _ _ g4];unfold col;simp only[Rq9];rfl,by rw[s6 _ _ g5];unfold col;simp only[Rq9];rfl,by rw[g6];unfold col;simp only[Rq9];rfl,by unfold col;rw[bP];exact hl,hro,λH7 s7=>?_⟩
   walk_at "w"
   refine⟨S6.trans s7,_,_,_,_,_,_,_,rfl,?_⟩
   omega
  ·subst e
   walk_at "w"
   rw[Sk9,aKG,Sw9] at e2
   rw[<-e2] at k
   exact k _ s2
def aFf(K:PySem.W.Frag):Sp:=λvs H Q _=>∃(s o:Addr) (W:WS) (ons:List Int) (need:Int),vs=[.ref s,.ref o,.int need]/\iG H s W/\W.Good/\H o=some (.tup (ons.map V.int))/\ons.length=W.specs.length/\(∀x∈ons,yC x)/\
 ∀(T:Addr) (outs:List Int) H',aP H H'->H' T=some (.tup (outs.map V.int))->outs.length=W.specs.length->(∀(j:Nat) m on out,W.specs[j]?=some m->ons[j]?=some on->outs[j]?=some out->aAl m on out)->Q (.ref T) H'
theorem aFg{P:Program}{w:World}{K:PySem.W.Frag}{mg:Str->Option Value}{base:Heap}{a:iR}(tx:Txt K mg a):bQ P w K mg base gE 1 a.nV a.nW ["_law_spec_here","_law_ons_here","_law_need"] (aFf K):=by
 refine tx.uS.ok cH (λvs H Q E h=>?_) (λcdv A outer s H vs Q E hr h=>?_)
 ·obtain⟨s,o,W,ons,need,rfl,_⟩:=h
  rfl
 ·obtain⟨s,o,W,ons,need,rfl ,hW,hg,go,hlo,hb,k⟩:=h
  have hu:=jO hr
  refine bA (aD (iL (k:=1) (idx:=[1,0]) (N:=["_law_k","_law_ons_here","_law_spec_here"]) (i:=4) cH.nd rfl (Or.inl rfl) (cR (sc:=aH fH) (NX:=["_law_spec_here","_law_ons_here","_law_need","_law_k","_law_outputs","_law_some","_law_amount","_law_rate","_law_left"]) rfl rfl rfl (by decide +kernel)) rfl (bO (by rfl) tx.cM (aA (aK (rc:=lW K) bS (by rfl) tx.eN dR (aA (Z.pv 1) aC)) aC)) (λ_ _ _ _=>(aL (i:=0) (show(["_law_k","_law_ons_here","_law_spec_here"]:List Str).Nodup by decide +kernel))) (cY (by decide)) (λ_ _ _ _=>bR) (λ_ _ _ _=>(aI bN (aE (K':=K) (aE (K':=K) (aE (K':=K) (Z.pv 2) aB) (Z.pv 0)) aB) (aE (K':=K) (Z.pv 1) (Z.pv 0)))))
   (aD (aJ (i:=5) cH.nd (gU aC))
   (aD (bM PassesOwn.never rfl (bO (by rfl) tx.cM (aA (aK (rc:=lW K) bS (by rfl) tx.eN dR (aA (Z.pv 1) aC)) aC)) (aL (i:=3) cH.nd) (aG (bM PassesOwn.never rfl (bT (K':=K) (aE (K':=K) (aE (K':=K) (aE (K':=K) (Z.pv 0) aB) (Z.pv 3)) aB)) (cC (K':=K) (n:=2) rfl (aV (aL (i:=6) cH.nd) (aV (aL (i:=7) cH.nd) cB))) (aG (eF (fB (K':=K) (Z.pv 5) (aA (aAy (Z.pv 7) (Z.pv 3) (aI bN (Z.pv 6) (aE (K':=K) (Z.pv 1) (Z.pv 3)))) aC)))))))
   (aD (aJ (i:=8) cH.nd (aI dJ (Z.pv 2) (aK (rc:=aLa K) (aAv rfl) (by rfl) tx.aA7 aEc (aA (Z.pv 4) aC))))
   (aD (bM PassesOwn.never rfl (bT (K':=K) (aK (rc:=aJz) aGQ (by rfl) tx.rP aGc (aA (Z.pv 5) aC))) (cC (K':=K) (n:=3) rfl (aV (aL (i:=7) cH.nd) (aV (aL (i:=3) cH.nd) (aV (aL (i:=6) cH.nd) cB)))) (aG (bH (iJ (kD (aZ aC7 (Z.pv 7) (aE (K':=K) (Z.pv 0) aB) (bK _)) (iK (aZ aBG (Z.pv 8) aB (bK _))))) (aD (aEj (Z.pv 4) (Z.pv 3) aMr (aK (mE rfl) (by rfl) tx.vQ yX (aA (Z.pv 8) (aA (Z.pv 6) aC))) uB set_list)
   (aG (aJ (i:=8) cH.nd (aK (eQ rfl) (by rfl) tx.lY mD (aA aB (aA (aI dJ (Z.pv 8) (Z.pv 6)) aC)))))) bC)))
   (aG (aM (bX (rc:=aBk K) vD (by rfl) tx.lS vA (aA (Z.pv 4) aC))))))))) ?_
  have hlen:=hg.len
  obtain⟨ls,st,bb,es,hsp,hst,hbb⟩:=hW.ex
  obtain⟨qm,gls,rm⟩:=hsp.ex
  have lqm:=rm.len
  obtain⟨k0,k1⟩:=hg.lack
  refine aS (σ:=[some (.ref s),some (.ref o),some (.int need),none,none,none,none,none,none]) rfl ?_
  walk_at "w"
  refine⟨by rw[bP];omega,by rw[bP];omega,?_⟩
  rw[Re9,bP,hlo]
  refine iH (n:=W.specs.length) (λi us H'=>H'=H/\∃us':List Int,us=us'.map V.int/\us'.length=i/\∀(j:Nat) m on out,W.specs[j]?=some m->ons[j]?=some on->us'[j]?=some out->out=m.least*on) ⟨rfl,[],rfl,rfl,λj m on out _ _ h=>by simp at h⟩ (cF (by omega))
   (λi us H' hi ⟨_,us',e1,e2,_⟩=>by rw[e1,bP];omega) (λi us H' hi ⟨e0,us',e1,e2,e3⟩=>?_) (λus H' ⟨e0,us',e1,e2,e3⟩=>?_)
  ·subst e0
   obtain⟨q,eq,hq⟩:=rm.ix hi
   have em:W.specs[i]?=some W.specs[i]:=dQ hi
   have gm:=hg.specs _ (Rd9 hi)
   have eo:ons[i]?=some (ons[i]'(by omega)):=dQ _
   generalize W.specs[i]=m at hq em gm
   generalize ons[i]'(by omega)=on at eo
   have bo:=hb on (oS eo)
   obtain⟨pl,hx,hp⟩:=hq.ex
   obtain⟨l0,l1⟩:=gm.least
   have i1':mC (qm.map V.ref) (0+(i:Int))=some (.ref q):=by rw[Rj9];exact oG eq
   have i2':mC (ons.map V.int) (0+(i:Int))=some (.int on):=by rw[Rj9];exact oH eo
   walk_at "w"
   refine⟨rfl,us' ++ [m.least*on],by rw[e1,rW];rfl,by rw[oU,e2];rfl,λj m' on' out' h1 h2 h3=>?_⟩
   by_cases hj:j < us'.length
   ·rw[Qn9 hj] at h3
    exact e3 j m' on' out' h1 h2 h3
   ·have hj2:j < (us' ++ [m.least*on]).length:=(lZ.mp h3).1
    rw[oU,Qz9] at hj2
    have ej:j=i:=by omega
    subst ej
    rw[em] at h1
    rw[eo] at h2
    cases h1
    cases h2
    rw[Qo9 (by omega),e2,Sa9] at h3
    cases h3
    rfl
  subst e0 e1
  intro lo nlo
  obtain⟨H1,i1,s1,g1⟩:=nw _ nlo;rw[i1]
  walk_at "w"
  intro c nc
  obtain⟨H2,i2,s2,g2⟩:=nw _ nc;rw[i2]
  have S2:=s1.trans s2
  have ncH:H1 c=none:=nc
  have go2:=S2 _ _ go
  walk_at "w"
  refine⟨by rw[bP];omega,by rw[bP];omega,?_⟩
  rw[Re9,bP,hlo]
  refine iI (n:=W.specs.length) (λi σ' H'=>∃(ys:List Addr) (z3 z6 z7 z8:Option V),σ'=[some (.ref s),some (.ref o),some (.int need),z3,some (.ref lo),some (.ref c),z6,z7,z8]/\aP H1 H'/\H' c=some (.lst (ys.map V.ref))/\cP H' ys (aFd W.specs ons i))
   ⟨[],_,_,_,_,rfl,s2,g2,cP.nil⟩ (λi σ' H' im ⟨ys,z3,z6,z7,z8,e,s3,gc,tc⟩=>?_) (λσ' H' ⟨ys,z3,z6,z7,z8,e,s3,gc,tc⟩=>?_)
  ·subst e
   obtain⟨q,eq,hq⟩:=rm.ix im
   have em:W.specs[i]?=some W.specs[i]:=dQ im
   have gm:=hg.specs _ (Rd9 im)
   have eo:ons[i]?=some (ons[i]'(by omega)):=dQ _
   generalize W.specs[i]=m at hq em gm
   generalize ons[i]'(by omega)=on at eo
   have bo:on=0\/on=1:=hb on (oS eo)
   have plen:=gm.pieces.len
   obtain⟨pl,hx,hp⟩:=hq.ex
   obtain⟨qp,gpl,tp⟩:=hp.ex
   have lqp:=tp.len
   have S3:=s1.trans s3
   have hx3:=S3 _ _ hx
   have gpl3:=S3 _ _ gpl
   have gls3:=S3 _ _ gls
   have es3:=S3 _ _ es
   have i1':mC (qm.map V.ref) (0+(i:Int))=some (.ref q):=by rw[Rj9];exact oG eq
   have i2':mC (ons.map V.int) (0+(i:Int))=some (.int on):=by rw[Rj9];exact oH eo
   walk_at "w"
   refine kU (bV.of gpl3) ?_
   refine aAu (xs:=qp.map V.ref) (λj σ' H3=>∃(ys:List Addr) (z6 z7 z8:Option V),σ'=[some (.ref s),some (.ref o),some (.int need),some (.int (0+(i:Int))),some (.ref lo),some (.ref c),z6,z7,z8]/\aP H1 H3/\H3 c=some (.lst (ys.map V.ref))/\cP H3 ys (aFd W.specs ons i++(pcO i on m.pieces).take j))
    ⟨ys,_,_,_,rfl,s3,gc,by rw[List.take_zero,Rw9];exact tc⟩ (λj σ' H3 hj ⟨ys,z6,z7,z8,e,s4,gc4,tc4⟩=>bV.of ((s1.trans s4) _ _ gpl)) (λj v σ' H3 hv ⟨ys,z6,z7,z8,e,s4,gc4,tc4⟩=>?_) (λσ' H3 ⟨ys,z6,z7,z8,e,s4,gc4,tc4⟩=>?_)
   ·subst e
    rw[oR] at hv
    obtain⟨qj,eqj,rfl⟩:=Qp9.mp hv
    have lj:j < m.pieces.length:=by rw[<-lqp];exact(lZ.mp eqj).1
    have ep:m.pieces[j]?=some m.pieces[j]:=dQ lj
    have gj:=tp.at_ j qj _ eqj ep
    have pcs:=gm.pieces.pc _ (Rd9 lj)
    generalize m.pieces[j]=pr at gj ep pcs
    obtain⟨p1,⟨p2,p3⟩,p4,p5⟩:=pcs
    have lys:ys.length<=40:=by
     rw[tc4.len,oU,Rf9,aHG]
     have:=aFe (ons:=ons) hg.specs i
     omega
    have S4:=s1.trans s4
    have gj4:=S4 _ _ gj
    have go4:=S4 _ _ go
    refine eM (kQ.of gj4) rfl ?_
    walk_at "w"
    refine oW (bV.of gc4) ?_
    walk_at "w"
    intro T5 nT5
    obtain⟨H6,i6,s6,g6⟩:=nw _ nT5;rw[i6]
    have gc6:=s6 _ _ gc4
    walk_at "w"
    refine uG (xs:=ys.map V.ref) gc6 (yK (by rw[bP];omega:(ys.map V.ref).length < 2000) (cF (by simp))) ?_
    obtain⟨H7,i7,k7,g7⟩:=wr H6 c _;rw[i7]
    have tk7:Tk H6 H7:=by rw[<-i7];exact aJR gc6
    walk_at "w"
    refine⟨ys ++ [T5],_,_,_,rfl,λb o e=>k7 _ _ ((s4.trans s6) _ _ e) (bG ncH e),by rw[g7,rW];rfl,?_⟩
    rw[aNF ep,<-Tp9]
    rw[Rj9] at g6
    exact(tc4.tk (s6.tk.trans tk7)).app (cP.one (t:=[pr.2,(i:Int),pr.1*on]) (tk7 _ _ g6) (by simp))
   ·subst e
    rw[bP,lqp,St9 (by rw[aHG];exact gB _),<-aLE em eo] at tc4
    exact⟨ys,_,_,_,_,rfl,s4,gc4,tc4⟩
  subst e
  have g13:=s3 _ _ g1
  walk_at "w"
  refine aGK (bV.of g13) ?_
  walk_at "w"
  have sh0:=aKI (ons:=ons) hg.specs hb W.specs.length
  have ln0:=aFe (ons:=ons) hg.specs W.specs.length
  refine aMV gc tc (by rw[tc.len];omega) (λr rs ts' nr tr0 pm pw=>?_)
  obtain⟨H3,i3,s4,gr⟩:=nw (.lst (rs.map V.ref)) nr;rw[i3]
  have tr':=tr0.tk s4.tk
  have lrs:=tr'.len
  have g14:=s4 _ _ g13
  have rlo:r≠lo:=Ne.symm (bG nr g13)
  have es4:=(s1.trans (s3.trans s4)) _ _ es
  have slo:s≠lo:=bG nlo es
  walk_at "w"
  refine kU (bV.of gr) ?_
  refine aAu (xs:=rs.map V.ref) (λi σ' H'=>∃(us:List Int) (left:Int) (z3 z6 z7:Option V),σ'=[some (.ref s),some (.ref o),some (.int need),z3,some (.ref lo),some (.ref c),z6,z7,some (.int left)]/\cA lo H3 H'/\H' lo=some (.lst (us.map V.int))/\us.length=W.specs.length/\∀(j:Nat) m on out,W.specs[j]?=some m->ons[j]?=some on->us[j]?=some out->m.least*on<=out/\out+sumK (j:Int) (ts'.drop i)<=m.least*on+vR m.pieces*on)
   ⟨us',_,_,_,_,rfl,λ_ _ e _=>e,g14,e2,λj m on out h1 h2 h3=>by
    have:=e3 j m on out h1 h2 h3
    rw[Sf9,aLD _ pm,aI1 h1 h2,if_pos (lZ.mp h1).1]
    omega⟩ (λi σ' H' hi ⟨us,left,z3,z6,z7,e,kl,gl,lu,hu5⟩=>bV.of (kl _ _ gr rlo)) (λi v σ' H' hv ⟨us,left,z3,z6,z7,e,kl,gl,lu,hu5⟩=>?_) (λσ' H' ⟨us,left,z3,z6,z7,e,kl,gl,lu,hu5⟩=>?_)
  ·subst e
   obtain⟨q,t,eq,rfl,et,hq⟩:=tr'.get hv
   obtain⟨rt,am,kk,rfl,kn,a0⟩:=sh0 t (pm.mem_iff.mp (oS et))
   have hq3:H3 q=some (.tup [.int rt,.int (kk:Int),.int am]):=hq
   have qlo:q≠lo:=λz=>by rw[z,g14] at hq3;cases hq3
   have hq':=kl _ _ hq3 qlo
   have es5:=kl _ _ es4 slo
   have kl':kk < us.length:=by rw[lu];exact kn
   have ev:us[kk]?=some us[kk]:=dQ kl'
   have dt:ts'.drop i=[rt,(kk:Int),am] :: ts'.drop (i+1):=by rw[Rb9 (lZ.mp et).1,(lZ.mp et).2]
   rw[dt] at hu5
   have aAF:∀(j:Nat) m on out,W.specs[j]?=some m->ons[j]?=some on->us[j]?=some out->m.least*on<=out/\out+sumK (j:Int) (ts'.drop (i+1))<=m.least*on+vR m.pieces*on:=λj m on out h1 h2 h3=>by
    obtain⟨x1,x2⟩:=hu5 j m on out h1 h2 h3
    have x2':out+((if (kk:Int)=(j:Int) then am else 0)+sumK (j:Int) (ts'.drop (i+1)))<=m.least*on+vR m.pieces*on:=x2
    refine⟨x1,?_⟩
    split at x2' <;> omega
   refine eM (kQ.of hq') rfl ?_
   walk_at "w"
   refine cD (λh1=>?_) (λh1=>?_)
   ·walk_at "w"
    refine cD (λh2=>?_) (λh2=>?_)
    ·walk_at "w"
     refine aMv (bV.of gl) (Int.natCast_nonneg _) (by rw[Re9,oR,ev];rfl) ?_
     walk_at "w"
     refine aAs gl (aOZ (by rw[bP];exact kl')) ?_
     obtain⟨H5,i5,k5,g5⟩:=wr H' lo _;rw[i5]
     rw[<-List.map_set] at g5
     walk_at "w"
     refine⟨us.set kk (us[kk] + min left am),_,_,_,_,rfl,kl.trans k5,g5,by rw[Sv9];exact lu,λj m on out h1' h2' h3'=>?_⟩
     by_cases ej:kk=j
     ·subst ej
      rw[Tl9 kl'] at h3'
      cases h3'
      obtain⟨x1,x2⟩:=hu5 kk m on _ h1' h2' ev
      have x2':us[kk] + ((if (kk:Int)=(kk:Int) then am else 0)+sumK (kk:Int) (ts'.drop (i+1)))<=m.least*on+vR m.pieces*on:=x2
      rw[if_pos rfl] at x2'
      omega
     ·rw[Ta9 ej] at h3'
      exact aAF j m on out h1' h2' h3'
    ·walk_at "w"
     exact⟨us,_,_,_,_,rfl,kl,gl,lu,aAF⟩
   ·walk_at "w"
    exact⟨us,_,_,_,_,rfl,kl,gl,lu,aAF⟩
  ·subst e
   have S':aP _ H':=λb o e=>kl _ _ ((s1.trans (s3.trans s4)) _ _ e) (bG nlo e)
   walk_at "w"
   refine aBP (bV.of gl) ?_
   intro T nT
   obtain⟨H6,i6,s6,g6⟩:=nw _ nT;rw[i6]
   refine k T us H6 (S'.trans s6) g6 lu λj m on out h1 h2 h3=>?_
   obtain⟨x1,x2⟩:=hu5 j m on out h1 h2 h3
   rw[bP,lrs,Sk9] at x2
   have x2':out+0<=m.least*on+vR m.pieces*on:=x2
   have bo:on=0\/on=1:=hb on (oS h2)
   rcases bo with rfl|rfl
   ·rw[Sb9] at x1
    rw[Sb9,Sb9] at x2'
    exact⟨λ_=>by omega,λz=>absurd rfl z⟩
   ·rw[So9] at x1
    rw[So9,So9] at x2'
    exact⟨λz=>absurd z (by decide),λ_=>⟨by omega,by omega⟩⟩
def aFh(K:PySem.W.Frag):Sp:=λvs H Q _=>∃(s u y:Addr) (W:WS) (P:Ps) (ws:List Int) (hs:List Hr),vs=[.ref s,.int P.2,.ref u,.ref y]/\iG H s W/\W.Good/\H u=some (.lst (ws.map V.int))/\aAj H y hs/\cX W P hs/\ws.length=hs.length/\hs.length<=48/\
 ∀(r:Addr) (hs':List Hr) H',aP H H'->aAj H' r hs'->hs'.length=hs.length->cX W P hs'->Q (.ref r) H'
theorem aFi{P:Program}{w:World}{K:PySem.W.Frag}{mg:Str->Option Value}{base:Heap}{a:iR}(tx:Txt K mg a):bQ P w K mg base gE 2 a.nX a.nY ["_law_spec_here","_law_level","_law_wants","_law_plan_here"] (aFh K):=by
 have xW:=aBb (P:=P) (w:=w) (base:=base) tx
 have aF0:=aFg (P:=P) (w:=w) (base:=base) tx
 refine tx.uT.ok fX (λvs H Q E h=>?_) (λcdv A outer s H vs Q E hr h=>?_)
 ·obtain⟨s,u,y,W,P,ws,hs,rfl,_⟩:=h
  rfl
 ·obtain⟨s,u,y,W,P,ws,hs,rfl ,hW,hg,gu,hy,hpo,hlw,hl,k⟩:=h
  have hu:=jO hr
  refine bA (aD (aJ (i:=4) fX.nd (gU aC))
   (aD (bM PassesOwn.never rfl (v8 (k1:=true) (k2:=true) (by rfl) tx.aCg (aA (Z.pv 2) (aA (Z.pv 3) aC))) (cC (K':=K) (n:=2) rfl (aV (aL (i:=5) fX.nd) (aV (aL (i:=6) fX.nd) cB))) (aD (aJ (i:=7) fX.nd (aK (eQ rfl) (by rfl) tx.lY mD (aA aB (aA (aI bI (Z.pv 5) (zq1 xW hr tx.xK tx.qN.kp tx.xJ (aA (aE (K':=K) (Z.pv 0) aB) (aA (Z.pv 1) (aA (aE (K':=K) (Z.pv 6) aB) aC))))) aC))))
   (aD (eF (fB (K':=K) (Z.pv 4) (aA (aAy (aE (K':=K) (Z.pv 6) aB) (zq1 aF0 hr tx.aA4 tx.uS.kp tx.aA3 (aA (Z.pv 0) (aA (aE (K':=K) (Z.pv 6) aB) (aA (Z.pv 7) aC)))) (aE (K':=K) (Z.pv 6) aB)) aC)))
   (aG (aJ (i:=1) fX.nd (aE (K':=K) (Z.pv 6) aB))))))
   (aG (aM (Z.pv 4))))) ?_
  obtain⟨ls,st,bb,es,hsp,hst,hbb⟩:=hW.ex
  obtain⟨qh,gy,rh⟩:=hy.ex
  have lqh:=rh.len
  have bits:∀h∈hs,∀o∈h.ons,yC o:=λh hh o ho=>by
   obtain⟨j,hj⟩:=Rk9 hh
   exact(hpo.take hj).2.bits o ho
  refine aS (σ:=[some (.ref s),some (.int P.2),some (.ref u),some (.ref y),none,none,none,none]) rfl ?_
  walk_at "w"
  intro c nc
  obtain⟨H1,i1,s1,g1⟩:=nw _ nc;rw[i1]
  have gu1:=s1 _ _ gu
  have gy1:=s1 _ _ gy
  have uc:u≠c:=bG nc gu
  have yc:y≠c:=bG nc gy
  walk_at "w"
  refine aGN (Src.lst gu1) (Src.lst gy1) ?_
  refine aKh (n:=hs.length) (by rw[bP];omega) (by rw[bP];omega) (.inl (by rw[bP];omega))
   (λi σ' H'=>aP H H'/\∃(l:Int) (z5 z6 z7:Option V) (rs:List Addr) (hs':List Hr),σ'=[some (.ref s),some (.int l),some (.ref u),some (.ref y),some (.ref c),z5,z6,z7]/\H' c=some (.lst (rs.map V.ref))/\RL (aHf H') rs hs'/\hs'.length=i/\∀(j:Nat) h h',hs[j]?=some h->hs'[j]?=some h'->h'.ons=h.ons/\h'.lev=h.lev/\h'.outs.length=W.specs.length/\∀(i:Nat) m on out,W.specs[i]?=some m->h.ons[i]?=some on->h'.outs[i]?=some out->aAl m on out)
   ⟨s1,P.2,none,none,none,[],[],rfl,g1,RL.nil,rfl,λj h h' _ z=>by simp at z⟩
   (λi σ' H' hi ⟨s',_⟩=>⟨Src.lst (s' _ _ gu),Src.lst (s' _ _ gy)⟩) (λi xv yv σ' H' T hxv hyv ⟨s',l,z5,z6,z7,rs,hs',e,gc,rr,lr,hj⟩ nT=>?_) (λσ' H' ⟨s',l,z5,z6,z7,rs,hs',e,gc,rr,lr,hj⟩=>?_)
  ·subst e
   obtain⟨wn,ew,rfl⟩:=aAD hxv
   obtain⟨qy,h,_,rfl,eh,hh⟩:=rh.get hyv
   obtain⟨J,j,sT,gT⟩:=nw _ nT;rw[j]
   have S2:=s'.trans sT
   obtain⟨a1,a2,gq,ga1,ga2⟩:=(hh.tk S2.tk).ex
   have es2:=S2 _ _ es
   have gc2:=sT _ _ gc
   have lrs:=rr.len
   have hm:=oS eh
   have ihs:=(lZ.mp eh).1
   refine eM (kQ.of gT) rfl ?_
   walk_at "w"
   refine⟨st,W.store,l,h.lev,rfl,hst.tr S2.tr,hg.store,?_⟩
   walk_at "w"
   refine oW (bV.of gc2) ?_
   walk_at "w"
   refine⟨s,a1,W,h.ons,_,rfl,hW.tr S2.tr,hg,ga1,(hpo.aPd h hm).1,bits h hm,λTs outs H3 s3 gTs los hos=>?_⟩
   have gq3:=s3 _ _ gq
   walk_at "w"
   intro T5 nT5
   obtain⟨H6,i6,s6,g6⟩:=nw _ nT5;rw[i6]
   have gc6:=(s3.trans s6) _ _ gc2
   walk_at "w"
   refine uG (xs:=rs.map V.ref) gc6 (yK (by rw[bP];omega:(rs.map V.ref).length < 2000) (cF (by simp))) ?_
   obtain⟨H7,i7,k7,g7⟩:=wr H6 c _;rw[i7]
   have tk7:Tk H6 H7:=by rw[<-i7];exact aJR gc6
   have S7:aP H H7:=λb o e=>k7 _ _ ((S2.trans (s3.trans s6)) _ _ e) (bG nc e)
   have gq7:=tk7 _ _ (s6 _ _ gq3)
   walk_at "w"
   refine⟨S7,h.lev,_,_,_,rs ++ [T5],hs' ++ [⟨h.ons,outs,h.lev⟩],rfl,by rw[g7,rW];rfl,(rr.imp λa x z=>z.tk ((sT.trans (s3.trans s6)).tk.trans tk7)).snoc ⟨a1,Ts,tk7 _ _ g6,tk7 _ _ ((s3.trans s6) _ _ ga1),tk7 _ _ (s6 _ _ gTs)⟩,by rw[oU,lr];rfl,λj x x' h1 h2=>?_⟩
   by_cases hjl:j < hs'.length
   ·rw[Qn9 hjl] at h2
    exact hj j x x' h1 h2
   ·have hj2:j < (hs' ++ [(⟨h.ons,outs,h.lev⟩ : Hr)]).length:=(lZ.mp h2).1
    rw[oU,Qz9] at hj2
    have ej:j=i:=by omega
    subst ej
    rw[eh] at h1
    cases h1
    rw[Qo9 (by omega),lr,Sa9] at h2
    cases h2
    exact⟨rfl,rfl,los,hos⟩
  ·subst e
   walk_at "w"
   exact k c hs' H' s' ⟨rs,gc,rr⟩ lr (hpo.shared lr hj)
def aHJ(K:W.Frag)(t1 t2 t3 t4:Addr):Sp:=λvs H Q _=>∃(a:Addr) (ns:List Int),vs=[.ref a]/\bV K H a (ns.map V.int)/\ns.length<=63/\H t3=some (.ctb dC dE)/\H t4=some (.ctb fY fZ)/\H t1=some (.ctb dF dG)/\H t2=some (.ctb gR gS)/\∀H',aP H H'->Q (.bl true) H'
theorem aRe{mg:Str->Option Value}{a:iR}(tx:Txt K mg a):bQ P w K mg base gE 16 a.aKp a.aKq ["_law_script"] (aHJ K a.cJ a.eK a.cI a.dU):=by
 have aF1:=aFi (P:=P) (w:=w) (base:=base) tx
 have aI4:=aHF (P:=P) (w:=w) (base:=base) tx
 have aAn:=aCh (P:=P) (w:=w) (base:=base) tx
 have aI5:=aHv (P:=P) (w:=w) (base:=base) tx
 have aC6:=aCA (P:=P) (w:=w) (base:=base) tx
 have uZ:=aAq (P:=P) (w:=w) (base:=base) tx
 have aHK:=aFO (P:=P) (w:=w) (base:=base) tx
 have aBc:=aE8 (P:=P) (w:=w) (base:=base) tx
 refine tx.aPq.ok kY (λvs H Q E h=>?_) (λcdv A outer s H vs Q E hr h=>?_)
 ·obtain⟨ad,ns,rfl,_⟩:=h
  rfl
 ·obtain⟨ad,ns,rfl ,hS,hl,gt3,gt4,gt1,gt2,k⟩:=h
  have hu:=jO hr
  refine bA (aD (bM PassesOwn.never rfl (bO (by rfl) tx.cM (aA (aK (eQ rfl) (by rfl) tx.lY mD (aA aB (aA (aK (mE rfl) (by rfl) tx.vQ yX (aA (aK (rc:=lW K) bS (by rfl) tx.eN dR (aA (Z.pv 0) aC)) (aA aB aC))) aC))) aC)) (aL (i:=1) kY.nd) (aD (aJ (i:=2) kY.nd (zq1 aAn hr tx.zB tx.tN.kp tx.zA (aA (Z.pv 0) (aA (Z.pv 1) aC))))
   (aD (vC (zq1 aI4 hr tx.aDu tx.aAc.kp tx.aDt (aA (Z.pv 2) (aA aB aC))) (cC (K':=K) (n:=4) rfl (aV (aL (i:=3) kY.nd) (aV (aL (i:=4) kY.nd) (aV (aL (i:=5) kY.nd) (aV (aL (i:=6) kY.nd) cB))))))
   (aD (aJ (i:=7) kY.nd (zq1 aHK hr tx.aCa tx.xE.kp tx.aB9 (aA (Z.pv 3) aC)))
   (aD (aJ (i:=8) kY.nd (sC (zq1 aBc hr tx.uP tx.oC.kp tx.uO (aA (Z.pv 7) (aA (Z.pv 4) (aA (Z.pv 5) (aA (Z.pv 6) aC)))))))
   (aD (aJ (i:=9) kY.nd (zq1 uZ hr tx.uR tx.oE.kp tx.uQ (aA (Z.pv 2) (aA (aE (K':=K) (Z.pv 3) aB) (aA (aE (K':=K) (Z.pv 3) aB) (aA (aK (rc:=lW K) bS (by rfl) tx.eN dR (aA (Z.pv 5) aC)) aC))))))
   (aD (eF (fB (K':=K) (Z.pv 8) (aA (zq1 aBc hr tx.uP tx.oC.kp tx.uO (aA (Z.pv 7) (aA (Z.pv 4) (aA (Z.pv 5) (aA (Z.pv 9) aC))))) aC)))
   (aG (bM PassesOwn.never rfl (bO (by rfl) tx.cM (aA aB aC)) (aL (i:=10) kY.nd) (aD (aJ (i:=11) kY.nd (zq1 aI5 hr tx.aDo tx.zW.kp tx.aDn (aA (Z.pv 0) (aA (aI bI (Z.pv 1) (aI bN aB (Z.pv 10))) (aA (aK (rc:=lW K) bS (by rfl) tx.eN dR (aA (Z.pv 5) aC)) (aA (Z.pv 3) (aA (Z.pv 4) aC)))))))
   (aD (aJ (i:=12) kY.nd (zq1 aF1 hr tx.aA6 tx.uT.kp tx.aA5 (aA (Z.pv 3) (aA (aE (K':=K) (Z.pv 4) aB) (aA (Z.pv 5) (aA (Z.pv 11) aC))))))
   (aG (bM PassesOwn.never rfl (aBj (K':=K) (eW (Z.pv 11) (Z.pv 12))) (aL (i:=13) kY.nd) (aG (bH (aZ aLW (zq1 aC6 hr tx.vP tx.mV.kp tx.vO (aA (Z.pv 3) (aA (Z.pv 4) (aA (Z.pv 5) (aA (Z.pv 13) aC))))) (aK (rc:=aNg K) (aLq rfl) (by rfl) tx.lY mD (aA (Z.pv 8) aC)) (bK _)) (aG (aM vB)) bC)))))))))))))))
   (aG (aM vB))) ?_
  have hTb:aJ0 H _ _ _ _:=⟨gt1,gt2,gt3,gt4⟩
  refine aS (σ:=[some (.ref ad),none,none,none,none,none,none,none,none,none,none,none,none,none]) rfl ?_
  walk_at "w"
  refine⟨by omega,by omega,?_⟩
  refine iI (λi σ' H'=>aP H H'/\∃(z1 z2 z3 z4 z5 z6 z7 z8 z9 z10 z11 z12 z13:Option V),σ'=[some (.ref ad),z1,z2,z3,z4,z5,z6,z7,z8,z9,z10,z11,z12,z13]) ⟨aP.refl _,_,_,_,_,_,_,_,_,_,_,_,_,_,rfl⟩ (λi σ' H' hi ⟨s0,z1,z2,z3,z4,z5,z6,z7,z8,z9,z10,z11,z12,z13,e⟩=>?_) (λσ' H' ⟨s0,z1,z2,z3,z4,z5,z6,z7,z8,z9,z10,z11,z12,z13,e⟩=>?_)
  ·subst e
   walk_at "w"
   refine⟨ad,ns,_,rfl,aP.seq s0 hS,hl,by omega,λp H1 s1 np hh=>?_⟩
   have npH:H p=none:=s0.free np
   have S1:=s0.trans s1
   walk_at "w"
   refine⟨p,6,rfl,hh,by decide,by decide,λT s a1 u q W P ws qs H2 gT hW hg hP hB gu gq hlen hqs hws lqs h2 k2=>?_⟩
   have ha:∀n∈qs,Am n:=λn hn=>⟨(hqs n hn).1,Sm9 (hqs n hn).2 hg.lack.2⟩
   walk_at "w"
   refine eM (kQ.of gT) rfl ?_
   walk_at "w"
   refine⟨s,W,rfl,hW,hg,λw H3 hw s3 nw3=>?_⟩
   have S3:aP H H3:=(aBy npH S1 k2).trans s3
   have h3:=h2.same s3
   have hW3:=hW.tr s3.tr
   have hP3:=hP.tk s3.tk
   have gu3:=s3 _ _ gu
   walk_at "w"
   refine⟨w,W,a1,P,u,ws,q,qs,rfl,hw,hg,hP3,hB,gu3,s3 _ _ gq,hlen,ha,lqs,hTb.same S3,λH4 s4=>?_⟩
   walk_at "w"
   intro bl nbl
   obtain⟨H5,i5,s5,g5⟩:=nw _ nbl;rw[i5]
   have s35:=s4.trans s5
   have h5:=h3.same s35
   have hW5:=hW3.tr s35.tr
   obtain⟨ls,st,bb,es,hsp,hst,hbb⟩:=hW5.ex
   have gu5:=s35 _ _ gu3
   have lws:ws.length<=48:=by omega
   walk_at "w"
   refine⟨p,bb,W.x,W.y,W.lack,(ws.map V.int).length,rfl,h5,hbb,hg.y.1,hg.y.2,hg.lack,by rw[bP];exact lws,λq2 qs2 H6 gq2 lq2 hq2 h6 k6=>?_⟩
   rw[bP] at lq2
   have ha2:∀n∈qs2,Am n:=λn hn=>⟨(hq2 n hn).1,Sm9 (hq2 n hn).2 hg.lack.2⟩
   have T6:Tr H5 H6:=h5.tr k6
   have bp:bl≠p:=(h3.same s4).aLt nbl
   have g6:=k6 _ _ g5 bp
   have K6:cA p H1 H6:=k2.trans ((s3.trans s35).keep.trans k6)
   have S6:aP H H6:=aBy npH S1 K6
   have T36:Tr H3 H6:=s35.tr.trans T6
   walk_at "w"
   refine oW (bV.of g6) ?_
   walk_at "w"
   refine⟨w,W,a1,P,u,ws,q2,qs2,rfl,hw.tr T36,hg,hP3.tk T36.tk,hB,T36 _ _ gu3 aHc,gq2,by omega,ha2,by omega,hTb.same S6,λH7 s7=>?_⟩
   have g7:=s7 _ _ g6
   walk_at "w"
   refine uG (xs:=[V.int (pbF W P ws qs)]) g7 (yK (show(1:Nat) < 2000 by decide) (cF (by simp))) ?_
   obtain⟨H8,i8,k8,g8⟩:=wr H7 bl _;rw[i8]
   have nblH:H bl=none:=(S3.trans s4).free nbl
   have S8:aP H H8:=λb o e=>k8 _ _ ((S6.trans s7) _ _ e) (bG nblH e)
   have T48:Tr H4 H8:=λb o e n=>k8 _ _ (s7 _ _ (T6 _ _ (s5 _ _ e) n)) (bG nbl e)
   have hW8:=(hW3.tr s4.tr).tr T48
   have hP8:=(hP3.tk s4.tk).tk T48.tk
   have gu8:H8 u=some (.lst (ws.map V.int)):=T48 _ _ (s4 _ _ gu3) aHc
   have g8':H8 bl=some (.lst ([pbF W P ws qs,pbF W P ws qs2].map V.int)):=g8
   walk_at "w"
   refine⟨by decide,by decide,?_⟩
   refine iI (λj σ' H'=>aP H8 H'/\∃(z10 z11 z12 z13:Option V),σ'=[some (.ref ad),some (.int (0+(i:Int))),some (.ref p),some (.ref s),some (.ref a1),some (.ref u),some (.ref q),some (.ref w),some (.ref bl),some (.ref q2),z10,z11,z12,z13]) ⟨aP.refl _,_,_,_,_,rfl⟩ (λj σ' H9 hj ⟨s9,z10,z11,z12,z13,e⟩=>?_) (λσ' H9 ⟨s9,z10,z11,z12,z13,e⟩=>?_)
   ·subst e
    have gu9:=s9 _ _ gu8
    have hj6:j < 6:=hj
    walk_at "w"
    refine⟨ad,ns,_,_,s,a1,W,P,rfl,aP.seq (S8.trans s9) hS,hl,by omega,by omega,by omega,by rw[bP];omega,hW8.tr s9.tr,hg,hP8.tk s9.tk,hB.ok,λy hs H10 s10 ny hy lhs hpo=>?_⟩
    rw[bP,Re9] at lhs
    have S10:=s9.trans s10
    have hP10:=hP8.tk S10.tk
    obtain⟨tt,hx10,hts10⟩:=hP10.ex
    walk_at "w"
    refine⟨s,u,y,W,P,ws,hs,rfl,hW8.tr S10.tr,hg,S10 _ _ gu8,hy,hpo,by omega,by omega,λy2 hs2 H11 s11 hy2 lhs2 hpo2=>?_⟩
    walk_at "w"
    intro TT nTT
    obtain⟨H12,i12,s12,g12⟩:=nw _ nTT;rw[i12]
    have S12:=S10.trans (s11.trans s12)
    have both:RL (λc (h:List Hr)=>aAj H12 c h/\cX W P h/\h.length=ws.length) [y,y2] [hs,hs2]:=by
     refine⟨rfl,λj c h h1 h2=>?_⟩
     match j,h1,h2 with
     |0,h1,h2=>cases h1;cases h2;exact⟨hy.tr (s11.trans s12).tr,hpo,by omega⟩
     |1,h1,h2=>cases h1;cases h2;exact⟨hy2.tr s12.tr,hpo2,by omega⟩
     |_+2,h1,_=>simp at h1
    walk_at "w"
    refine aMG (kQ.of g12) ?_
    refine aMA (xs:=[y,y2].map V.ref) (λj' σ' H'=>aP H12 H'/\∃(z13:Option V),σ'=[some (.ref ad),some (.int (0+(i:Int))),some (.ref p),some (.ref s),some (.ref a1),some (.ref u),some (.ref q),some (.ref w),some (.ref bl),some (.ref q2),some (.int (0+(j:Int))),some (.ref y),some (.ref y2),z13]) ⟨aP.refl _,_,rfl⟩ (λj' σ' H' hj ⟨s',_⟩=>kQ.of (s' _ _ g12)) (λj' v σ' H13 hv ⟨s13,z13,e⟩=>?_) (λσ' H13 ⟨s13,z13,e⟩=>?_)
    ·subst e
     obtain⟨c,hc',_,rfl,ec,hpl,hpk,lh⟩:=both.gt hv
     have lh':hc'.length=ws.length:=lh
     have S13:=S12.trans s13
     walk_at "w"
     refine⟨s,a1,u,c,W,P,ws,hc',rfl,hW8.tr S13.tr,hg,hP8.tk S13.tk,hB.ok,S13 _ _ gu8,hpl.tr s13.tr,hpk,by omega,by omega,λH14 s14=>?_⟩
     have b1:=aIY hg hB.ok (ws:=ws) hqs hpk (by omega) (by omega)
     have b2:=aIY hg hB.ok (ws:=ws) hq2 hpk (by omega) (by omega)
     walk_at "w"
     refine aOW (ns:=[pbF W P ws qs,pbF W P ws qs2]) (bV.of ((S13.trans s14) _ _ g8')) (by simp) λmx hm _=>?_
     have hmx:mx<=lkL W P.2 ws hc'+rvL W.specs P.1 hc':=by
      rcases yF.mp hm with z|z
      ·rw[z];exact b1
      ·rw[Qu9.mp z];exact b2
     walk_at "w"
     refine cD (λz=>absurd z (by omega)) (λ_=>?_)
     walk_at "w"
     exact⟨s13.trans s14,_,rfl⟩
    ·subst e
     exact⟨S12.trans s13,_,_,_,_,rfl⟩
   ·subst e
    exact⟨S8.trans s9,_,_,_,_,_,_,_,_,_,_,_,_,_,rfl⟩
  ·subst e
   walk_at "w"
   exact k _ s0
end My
namespace My
open PySem L2 L2.Z
theorem all_mk{l:PySem.W.OpenLaw}{w:World}{K:PySem.W.Frag}{h:Heap}{mg:Str->Option Value}{fa:Addr}(X:K.In h)(G:h.Ns mainGlobals mg)(hfa:mg "law" = some (.ref fa))
  {C0:Addr} {C1:Addr} {C2:Addr} {f0:Addr} {od0 an0:Option Addr} {sl0:Array (Option Value)} {oc0 kV0 dc0 pm0 cd0 ct0:Value} {f1:Addr} {od1 an1:Option Addr} {sl1:Array (Option Value)} {oc1 kV1 dc1 pm1 cd1 ct1:Value} {f2:Addr} {od2 an2:Option Addr} {sl2:Array (Option Value)} {oc2 kV2 dc2 pm2 cd2 ct2:Value} {f3:Addr} {od3 an3:Option Addr} {sl3:Array (Option Value)} {oc3 kV3 dc3 pm3 cd3 ct3:Value} {f4:Addr} {od4 an4:Option Addr} {sl4:Array (Option Value)} {oc4 kV4 dc4 pm4 cd4 ct4:Value} {f5:Addr} {od5 an5:Option Addr} {sl5:Array (Option Value)} {oc5 kV5 dc5 pm5 cd5 ct5:Value} {f6:Addr} {od6 an6:Option Addr} {sl6:Array (Option Value)} {oc6 kV6 dc6 pm6 cd6 ct6:Value} {f7:Addr} {od7 an7:Option Addr} {sl7:Array (Option Value)} {oc7 kV7 dc7 pm7 cd7 ct7:Value} {f8:Addr} {od8 an8:Option Addr} {sl8:Array (Option Value)} {oc8 kV8 dc8 pm8 cd8 ct8:Value} {f9:Addr} {od9 an9:Option Addr} {sl9:Array (Option Value)} {oc9 kV9 dc9 pm9 cd9 ct9:Value} {f10:Addr} {od10 an10:Option Addr} {sl10:Array (Option Value)} {oc10 kV10 dc10 pm10 cd10 ct10:Value} {f11:Addr} {od11 an11:Option Addr} {sl11:Array (Option Value)} {oc11 kV11 dc11 pm11 cd11 ct11:Value} {f12:Addr} {od12 an12:Option Addr} {sl12:Array (Option Value)} {oc12 kV12 dc12 pm12 cd12 ct12:Value} {f13:Addr} {od13 an13:Option Addr} {sl13:Array (Option Value)} {oc13 kV13 dc13 pm13 cd13 ct13:Value} {f14:Addr} {od14 an14:Option Addr} {sl14:Array (Option Value)} {oc14 kV14 dc14 pm14 cd14 ct14:Value} {f15:Addr} {od15 an15:Option Addr} {sl15:Array (Option Value)} {oc15 kV15 dc15 pm15 cd15 ct15:Value} {f16:Addr} {od16 an16:Option Addr} {sl16:Array (Option Value)} {oc16 kV16 dc16 pm16 cd16 ct16:Value} {f17:Addr} {od17 an17:Option Addr} {sl17:Array (Option Value)} {oc17 kV17 dc17 pm17 cd17 ct17:Value} {f18:Addr} {od18 an18:Option Addr} {sl18:Array (Option Value)} {oc18 kV18 dc18 pm18 cd18 ct18:Value} {f19:Addr} {od19 an19:Option Addr} {sl19:Array (Option Value)} {oc19 kV19 dc19 pm19 cd19 ct19:Value} {f20:Addr} {od20 an20:Option Addr} {sl20:Array (Option Value)} {oc20 kV20 dc20 pm20 cd20 ct20:Value} {f21:Addr} {od21 an21:Option Addr} {sl21:Array (Option Value)} {oc21 kV21 dc21 pm21 cd21 ct21:Value} {f22:Addr} {od22 an22:Option Addr} {sl22:Array (Option Value)} {oc22 kV22 dc22 pm22 cd22 ct22:Value} {f23:Addr} {od23 an23:Option Addr} {sl23:Array (Option Value)} {oc23 kV23 dc23 pm23 cd23 ct23:Value} {f24:Addr} {od24 an24:Option Addr} {sl24:Array (Option Value)} {oc24 kV24 dc24 pm24 cd24 ct24:Value} {f25:Addr} {od25 an25:Option Addr} {sl25:Array (Option Value)} {oc25 kV25 dc25 pm25 cd25 ct25:Value} {f26:Addr} {od26 an26:Option Addr} {sl26:Array (Option Value)} {oc26 kV26 dc26 pm26 cd26 ct26:Value} {f27:Addr} {od27 an27:Option Addr} {sl27:Array (Option Value)} {oc27 kV27 dc27 pm27 cd27 ct27:Value} {f28:Addr} {od28 an28:Option Addr} {sl28:Array (Option Value)} {oc28 kV28 dc28 pm28 cd28 ct28:Value} {f29:Addr} {od29 an29:Option Addr} {sl29:Array (Option Value)} {oc29 kV29 dc29 pm29 cd29 ct29:Value} {f30:Addr} {od30 an30:Option Addr} {sl30:Array (Option Value)} {oc30 kV30 dc30 pm30 cd30 ct30:Value} {f31:Addr} {od31 an31:Option Addr} {sl31:Array (Option Value)} {oc31 kV31 dc31 pm31 cd31 ct31:Value} {f32:Addr} {od32 an32:Option Addr} {sl32:Array (Option Value)} {oc32 kV32 dc32 pm32 cd32 ct32:Value} {f33:Addr} {od33 an33:Option Addr} {sl33:Array (Option Value)} {oc33 kV33 dc33 pm33 cd33 ct33:Value} {f34:Addr} {od34 an34:Option Addr} {sl34:Array (Option Value)} {oc34 kV34 dc34 pm34 cd34 ct34:Value} {f35:Addr} {od35 an35:Option Addr} {sl35:Array (Option Value)} {oc35 kV35 dc35 pm35 cd35 ct35:Value} {f36:Addr} {od36 an36:Option Addr} {sl36:Array (Option Value)} {oc36 kV36 dc36 pm36 cd36 ct36:Value} {f37:Addr} {od37 an37:Option Addr} {sl37:Array (Option Value)} {oc37 kV37 dc37 pm37 cd37 ct37:Value} {f38:Addr} {od38 an38:Option Addr} {sl38:Array (Option Value)} {oc38 kV38 dc38 pm38 cd38 ct38:Value} {f39:Addr} {od39 an39:Option Addr} {sl39:Array (Option Value)} {oc39 kV39 dc39 pm39 cd39 ct39:Value} {f40:Addr} {od40 an40:Option Addr} {sl40:Array (Option Value)} {oc40 kV40 dc40 pm40 cd40 ct40:Value} {f41:Addr} {od41 an41:Option Addr} {sl41:Array (Option Value)} {oc41 kV41 dc41 pm41 cd41 ct41:Value} {f42:Addr} {od42 an42:Option Addr} {sl42:Array (Option Value)} {oc42 kV42 dc42 pm42 cd42 ct42:Value} {f43:Addr} {od43 an43:Option Addr} {sl43:Array (Option Value)} {oc43 kV43 dc43 pm43 cd43 ct43:Value} {f44:Addr} {od44 an44:Option Addr} {sl44:Array (Option Value)} {oc44 kV44 dc44 pm44 cd44 ct44:Value} {f45:Addr} {od45 an45:Option Addr} {sl45:Array (Option Value)} {oc45 kV45 dc45 pm45 ct45:Value} {kc45 T45:Addr} {tod45:Option Addr} {tvs45:Array Value} {tsl45:Array (Option Value)} {f46:Addr} {od46 an46:Option Addr} {sl46:Array (Option Value)} {oc46 kV46 dc46 pm46 ct46:Value} {kc46 T46:Addr} {tod46:Option Addr} {tvs46:Array Value} {tsl46:Array (Option Value)} {f47:Addr} {od47 an47:Option Addr} {sl47:Array (Option Value)} {oc47 kV47 dc47 pm47 cd47 ct47:Value} {f48:Addr} {od48 an48:Option Addr} {sl48:Array (Option Value)} {oc48 kV48 dc48 pm48 cd48 ct48:Value} {f49:Addr} {od49 an49:Option Addr} {sl49:Array (Option Value)} {oc49 kV49 dc49 pm49 cd49 ct49:Value} {f50:Addr} {od50 an50:Option Addr} {sl50:Array (Option Value)} {oc50 kV50 dc50 pm50 ct50:Value} {kc50 T50:Addr} {tod50:Option Addr} {tvs50:Array Value} {tsl50:Array (Option Value)} {f51:Addr} {od51 an51:Option Addr} {sl51:Array (Option Value)} {oc51 kV51 dc51 pm51 ct51:Value} {kc51 T51:Addr} {tod51:Option Addr} {tvs51:Array Value} {tsl51:Array (Option Value)} {f52:Addr} {od52 an52:Option Addr} {sl52:Array (Option Value)} {oc52 kV52 dc52 pm52 cd52 ct52:Value} {f53:Addr} {od53 an53:Option Addr} {sl53:Array (Option Value)} {oc53 kV53 dc53 pm53 cd53 ct53:Value} {f54:Addr} {od54 an54:Option Addr} {sl54:Array (Option Value)} {oc54 kV54 dc54 pm54 cd54 ct54:Value} {f55:Addr} {od55 an55:Option Addr} {sl55:Array (Option Value)} {oc55 kV55 dc55 pm55 cd55 ct55:Value} {f56:Addr} {od56 an56:Option Addr} {sl56:Array (Option Value)} {oc56 kV56 dc56 pm56 cd56 ct56:Value} {f57:Addr} {od57 an57:Option Addr} {sl57:Array (Option Value)} {oc57 kV57 dc57 pm57 cd57 ct57:Value} {f58:Addr} {od58 an58:Option Addr} {sl58:Array (Option Value)} {oc58 kV58 dc58 pm58 cd58 ct58:Value} {f59:Addr} {od59 an59:Option Addr} {sl59:Array (Option Value)} {oc59 kV59 dc59 pm59 cd59 ct59:Value} {f60:Addr} {od60 an60:Option Addr} {sl60:Array (Option Value)} {oc60 kV60 dc60 pm60 cd60 ct60:Value} {f61:Addr} {od61 an61:Option Addr} {sl61:Array (Option Value)} {oc61 kV61 dc61 pm61 cd61 ct61:Value} {f62:Addr} {od62 an62:Option Addr} {sl62:Array (Option Value)} {oc62 kV62 dc62 pm62 cd62 ct62:Value} {f63:Addr} {od63 an63:Option Addr} {sl63:Array (Option Value)} {oc63 kV63 dc63 pm63 cd63 ct63:Value} {f64:Addr} {od64 an64:Option Addr} {sl64:Array (Option Value)} {oc64 kV64 dc64 pm64 cd64 ct64:Value} {f65:Addr} {od65 an65:Option Addr} {sl65:Array (Option Value)} {oc65 kV65 dc65 pm65 cd65 ct65:Value} {f66:Addr} {od66 an66:Option Addr} {sl66:Array (Option Value)} {oc66 kV66 dc66 pm66 cd66 ct66:Value} {tk_MOST_LEVELS:Tok} {tk_LONGEST_STINT:Tok} {tk_MOST_PIECES:Tok} {tk_MOST_MACHINES:Tok}
  (aC0:PySem.W.nsIn K mainGlobals "Machine" = some (some (.ref C0)))
  (aC1:PySem.W.nsIn K mainGlobals "Store" = some (some (.ref C1)))
  (aC2:PySem.W.nsIn K mainGlobals "Works" = some (some (.ref C2)))
  (a0:PySem.W.nsIn K mainGlobals "_law_open" = some (some (.ref f0)))
  (l0:K.lookup f0=some ⟨oc0,od0,.func (PySem.W.fnOf "_law_open" "_law_open" (aY iM) (aW iM) (aH iM) .none kV0 dc0 pm0 an0 cd0 ct0),sl0⟩)
  (c0:PySem.W.codeIn K cd0 "_law_open" = true)
  (k0:W.keepIn K (.ref f0)=true)
  (a1:PySem.W.nsIn K mainGlobals "_law_draw" = some (some (.ref f1)))
  (l1:K.lookup f1=some ⟨oc1,od1,.func (PySem.W.fnOf "_law_draw" "_law_draw" (aY kF) (aW kF) (aH kF) .none kV1 dc1 pm1 an1 cd1 ct1),sl1⟩)
  (c1:PySem.W.codeIn K cd1 "_law_draw" = true)
  (k1:W.keepIn K (.ref f1)=true)
  (a2:PySem.W.nsIn K mainGlobals "_law_far" = some (some (.ref f2)))
  (l2:K.lookup f2=some ⟨oc2,od2,.func (PySem.W.fnOf "_law_far" "_law_far" (aY mI) (aW mI) (aH mI) .none kV2 dc2 pm2 an2 cd2 ct2),sl2⟩)
  (c2:PySem.W.codeIn K cd2 "_law_far" = true)
  (k2:W.keepIn K (.ref f2)=true)
  (a3:PySem.W.nsIn K mainGlobals "_law_factor" = some (some (.ref f3)))
  (l3:K.lookup f3=some ⟨oc3,od3,.func (PySem.W.fnOf "_law_factor" "_law_factor" (aY gX) (aW gX) (aH gX) .none kV3 dc3 pm3 an3 cd3 ct3),sl3⟩)
  (c3:PySem.W.codeIn K cd3 "_law_factor" = true)
  (k3:W.keepIn K (.ref f3)=true)
  (a4:PySem.W.nsIn K mainGlobals "is_whole" = some (some (.ref f4)))
  (l4:K.lookup f4=some ⟨oc4,od4,.func (PySem.W.fnOf "is_whole" "is_whole" (aY mJ) (aW mJ) (aH mJ) .none kV4 dc4 pm4 an4 cd4 ct4),sl4⟩)
  (c4:PySem.W.codeIn K cd4 "is_whole" = true)
  (k4:W.keepIn K (.ref f4)=true)
  (a5:PySem.W.nsIn K mainGlobals "is_amount" = some (some (.ref f5)))
  (l5:K.lookup f5=some ⟨oc5,od5,.func (PySem.W.fnOf "is_amount" "is_amount" (aY kG) (aW kG) (aH kG) .none kV5 dc5 pm5 an5 cd5 ct5),sl5⟩)
  (c5:PySem.W.codeIn K cd5 "is_amount" = true)
  (k5:W.keepIn K (.ref f5)=true)
  (a6:PySem.W.nsIn K mainGlobals "is_span" = some (some (.ref f6)))
  (l6:K.lookup f6=some ⟨oc6,od6,.func (PySem.W.fnOf "is_span" "is_span" (aY qR) (aW qR) (aH qR) .none kV6 dc6 pm6 an6 cd6 ct6),sl6⟩)
  (c6:PySem.W.codeIn K cd6 "is_span" = true)
  (k6:W.keepIn K (.ref f6)=true)
  (a7:PySem.W.nsIn K mainGlobals "is_piece" = some (some (.ref f7)))
  (l7:K.lookup f7=some ⟨oc7,od7,.func (PySem.W.fnOf "is_piece" "is_piece" (aY mK) (aW mK) (aH mK) .none kV7 dc7 pm7 an7 cd7 ct7),sl7⟩)
  (c7:PySem.W.codeIn K cd7 "is_piece" = true)
  (k7:W.keepIn K (.ref f7)=true)
  (a8:PySem.W.nsIn K mainGlobals "are_pieces" = some (some (.ref f8)))
  (l8:K.lookup f8=some ⟨oc8,od8,.func (PySem.W.fnOf "are_pieces" "are_pieces" (aY eX) (aW eX) (aH eX) .none kV8 dc8 pm8 an8 cd8 ct8),sl8⟩)
  (c8:PySem.W.codeIn K cd8 "are_pieces" = true)
  (k8:W.keepIn K (.ref f8)=true)
  (a9:PySem.W.findIn K (.ref C0) "__init__" = some (some (.ref f9)))
  (i9:PySem.W.isFn K (.ref f9)=true)
  (l9:K.lookup f9=some ⟨oc9,od9,.func (PySem.W.fnOf "__init__" "Machine.__init__" (aY fQ) (aW fQ) (aH fQ) .none kV9 dc9 pm9 an9 cd9 ct9),sl9⟩)
  (c9:PySem.W.codeIn K cd9 "Machine.__init__" = true)
  (k9:W.keepIn K (.ref f9)=true)
  (a10:PySem.W.nsIn K mainGlobals "_law_spec" = some (some (.ref f10)))
  (l10:K.lookup f10=some ⟨oc10,od10,.func (PySem.W.fnOf "_law_spec" "_law_spec" (aY kH) (aW kH) (aH kH) .none kV10 dc10 pm10 an10 cd10 ct10),sl10⟩)
  (c10:PySem.W.codeIn K cd10 "_law_spec" = true)
  (k10:W.keepIn K (.ref f10)=true)
  (a11:PySem.W.nsIn K mainGlobals "_law_machine" = some (some (.ref f11)))
  (l11:K.lookup f11=some ⟨oc11,od11,.func (PySem.W.fnOf "_law_machine" "_law_machine" (aY fR) (aW fR) (aH fR) .none kV11 dc11 pm11 an11 cd11 ct11),sl11⟩)
  (c11:PySem.W.codeIn K cd11 "_law_machine" = true)
  (k11:W.keepIn K (.ref f11)=true)
  (a12:PySem.W.findIn K (.ref C0) "gain" = some (some (.ref f12)))
  (i12:PySem.W.isFn K (.ref f12)=true)
  (l12:K.lookup f12=some ⟨oc12,od12,.func (PySem.W.fnOf "gain" "Machine.gain" (aY fS) (aW fS) (aH fS) .none kV12 dc12 pm12 an12 cd12 ct12),sl12⟩)
  (c12:PySem.W.codeIn K cd12 "Machine.gain" = true)
  (k12:W.keepIn K (.ref f12)=true)
  (a13:PySem.W.nsIn K mainGlobals "may_be" = some (some (.ref f13)))
  (l13:K.lookup f13=some ⟨oc13,od13,.func (PySem.W.fnOf "may_be" "may_be" (aY vF) (aW vF) (aH vF) .none kV13 dc13 pm13 an13 cd13 ct13),sl13⟩)
  (c13:PySem.W.codeIn K cd13 "may_be" = true)
  (k13:W.keepIn K (.ref f13)=true)
  (a14:PySem.W.nsIn K mainGlobals "state_after" = some (some (.ref f14)))
  (l14:K.lookup f14=some ⟨oc14,od14,.func (PySem.W.fnOf "state_after" "state_after" (aY gY) (aW gY) (aH gY) .none kV14 dc14 pm14 an14 cd14 ct14),sl14⟩)
  (c14:PySem.W.codeIn K cd14 "state_after" = true)
  (k14:W.keepIn K (.ref f14)=true)
  (a15:PySem.W.nsIn K mainGlobals "_law_state" = some (some (.ref f15)))
  (l15:K.lookup f15=some ⟨oc15,od15,.func (PySem.W.fnOf "_law_state" "_law_state" (aY iT) (aW iT) (aH iT) .none kV15 dc15 pm15 an15 cd15 ct15),sl15⟩)
  (c15:PySem.W.codeIn K cd15 "_law_state" = true)
  (k15:W.keepIn K (.ref f15)=true)
  (a16:PySem.W.nsIn K mainGlobals "_law_after" = some (some (.ref f16)))
  (l16:K.lookup f16=some ⟨oc16,od16,.func (PySem.W.fnOf "_law_after" "_law_after" (aY iU) (aW iU) (aH iU) .none kV16 dc16 pm16 an16 cd16 ct16),sl16⟩)
  (c16:PySem.W.codeIn K cd16 "_law_after" = true)
  (k16:W.keepIn K (.ref f16)=true)
  (a17:PySem.W.nsIn K mainGlobals "is_depth" = some (some (.ref f17)))
  (l17:K.lookup f17=some ⟨oc17,od17,.func (PySem.W.fnOf "is_depth" "is_depth" (aY mL) (aW mL) (aH mL) .none kV17 dc17 pm17 an17 cd17 ct17),sl17⟩)
  (c17:PySem.W.codeIn K cd17 "is_depth" = true)
  (k17:W.keepIn K (.ref f17)=true)
  (a18:PySem.W.findIn K (.ref C1) "__init__" = some (some (.ref f18)))
  (i18:PySem.W.isFn K (.ref f18)=true)
  (l18:K.lookup f18=some ⟨oc18,od18,.func (PySem.W.fnOf "__init__" "Store.__init__" (aY iV) (aW iV) (aH iV) .none kV18 dc18 pm18 an18 cd18 ct18),sl18⟩)
  (c18:PySem.W.codeIn K cd18 "Store.__init__" = true)
  (k18:W.keepIn K (.ref f18)=true)
  (a19:PySem.W.nsIn K mainGlobals "run_fault" = some (some (.ref f19)))
  (l19:K.lookup f19=some ⟨oc19,od19,.func (PySem.W.fnOf "run_fault" "run_fault" (aY kI) (aW kI) (aH kI) .none kV19 dc19 pm19 an19 cd19 ct19),sl19⟩)
  (c19:PySem.W.codeIn K cd19 "run_fault" = true)
  (k19:W.keepIn K (.ref f19)=true)
  (a20:PySem.W.nsIn K mainGlobals "refuse_fault" = some (some (.ref f20)))
  (l20:K.lookup f20=some ⟨oc20,od20,.func (PySem.W.fnOf "refuse_fault" "refuse_fault" (aY fT) (aW fT) (aH fT) .none kV20 dc20 pm20 an20 cd20 ct20),sl20⟩)
  (c20:PySem.W.codeIn K cd20 "refuse_fault" = true)
  (k20:W.keepIn K (.ref f20)=true)
  (a21:PySem.W.nsIn K mainGlobals "run_begins" = some (some (.ref f21)))
  (l21:K.lookup f21=some ⟨oc21,od21,.func (PySem.W.fnOf "run_begins" "run_begins" (aY iW) (aW iW) (aH iW) .none kV21 dc21 pm21 an21 cd21 ct21),sl21⟩)
  (c21:PySem.W.codeIn K cd21 "run_begins" = true)
  (k21:W.keepIn K (.ref f21)=true)
  (a22:PySem.W.nsIn K mainGlobals "run_cost" = some (some (.ref f22)))
  (l22:K.lookup f22=some ⟨oc22,od22,.func (PySem.W.fnOf "run_cost" "run_cost" (aY mM) (aW mM) (aH mM) .none kV22 dc22 pm22 an22 cd22 ct22),sl22⟩)
  (c22:PySem.W.codeIn K cd22 "run_cost" = true)
  (k22:W.keepIn K (.ref f22)=true)
  (a23:PySem.W.nsIn K mainGlobals "least_of" = some (some (.ref f23)))
  (l23:K.lookup f23=some ⟨oc23,od23,.func (PySem.W.fnOf "least_of" "least_of" (aY j8) (aW j8) (aH j8) .none kV23 dc23 pm23 an23 cd23 ct23),sl23⟩)
  (c23:PySem.W.codeIn K cd23 "least_of" = true)
  (k23:W.keepIn K (.ref f23)=true)
  (a24:PySem.W.nsIn K mainGlobals "worths_ahead" = some (some (.ref f24)))
  (l24:K.lookup f24=some ⟨oc24,od24,.func (PySem.W.fnOf "worths_ahead" "worths_ahead" (aY fU) (aW fU) (aH fU) .none kV24 dc24 pm24 an24 cd24 ct24),sl24⟩)
  (c24:PySem.W.codeIn K cd24 "worths_ahead" = true)
  (k24:W.keepIn K (.ref f24)=true)
  (a25:PySem.W.nsIn K mainGlobals "worths_by_hour" = some (some (.ref f25)))
  (l25:K.lookup f25=some ⟨oc25,od25,.func (PySem.W.fnOf "worths_by_hour" "worths_by_hour" (aY d8) (aW d8) (aH d8) .none kV25 dc25 pm25 an25 cd25 ct25),sl25⟩)
  (c25:PySem.W.codeIn K cd25 "worths_by_hour" = true)
  (k25:W.keepIn K (.ref f25)=true)
  (a26:PySem.W.nsIn K mainGlobals "first_best" = some (some (.ref f26)))
  (l26:K.lookup f26=some ⟨oc26,od26,.func (PySem.W.fnOf "first_best" "first_best" (aY gF) (aW gF) (aH gF) .none kV26 dc26 pm26 an26 cd26 ct26),sl26⟩)
  (c26:PySem.W.codeIn K cd26 "first_best" = true)
  (k26:W.keepIn K (.ref f26)=true)
  (a27:PySem.W.nsIn K mainGlobals "first_row" = some (some (.ref f27)))
  (l27:K.lookup f27=some ⟨oc27,od27,.func (PySem.W.fnOf "first_row" "first_row" (aY kJ) (aW kJ) (aH kJ) .none kV27 dc27 pm27 an27 cd27 ct27),sl27⟩)
  (c27:PySem.W.codeIn K cd27 "first_row" = true)
  (k27:W.keepIn K (.ref f27)=true)
  (a28:PySem.W.nsIn K mainGlobals "ways_one_on" = some (some (.ref f28)))
  (l28:K.lookup f28=some ⟨oc28,od28,.func (PySem.W.fnOf "ways_one_on" "ways_one_on" (aY gZ) (aW gZ) (aH gZ) .none kV28 dc28 pm28 an28 cd28 ct28),sl28⟩)
  (c28:PySem.W.codeIn K cd28 "ways_one_on" = true)
  (k28:W.keepIn K (.ref f28)=true)
  (a29:PySem.W.nsIn K mainGlobals "are_machines" = some (some (.ref f29)))
  (l29:K.lookup f29=some ⟨oc29,od29,.func (PySem.W.fnOf "are_machines" "are_machines" (aY eG) (aW eG) (aH eG) .none kV29 dc29 pm29 an29 cd29 ct29),sl29⟩)
  (c29:PySem.W.codeIn K cd29 "are_machines" = true)
  (k29:W.keepIn K (.ref f29)=true)
  (a30:PySem.W.findIn K (.ref C2) "__init__" = some (some (.ref f30)))
  (i30:PySem.W.isFn K (.ref f30)=true)
  (l30:K.lookup f30=some ⟨oc30,od30,.func (PySem.W.fnOf "__init__" "Works.__init__" (aY iX) (aW iX) (aH iX) .none kV30 dc30 pm30 an30 cd30 ct30),sl30⟩)
  (c30:PySem.W.codeIn K cd30 "Works.__init__" = true)
  (k30:W.keepIn K (.ref f30)=true)
  (a31:PySem.W.nsIn K mainGlobals "_law_store" = some (some (.ref f31)))
  (l31:K.lookup f31=some ⟨oc31,od31,.func (PySem.W.fnOf "_law_store" "_law_store" (aY iY) (aW iY) (aH iY) .none kV31 dc31 pm31 an31 cd31 ct31),sl31⟩)
  (c31:PySem.W.codeIn K cd31 "_law_store" = true)
  (k31:W.keepIn K (.ref f31)=true)
  (a32:PySem.W.nsIn K mainGlobals "_law_levels" = some (some (.ref f32)))
  (l32:K.lookup f32=some ⟨oc32,od32,.func (PySem.W.fnOf "_law_levels" "_law_levels" (aY hJ) (aW hJ) (aH hJ) .none kV32 dc32 pm32 an32 cd32 ct32),sl32⟩)
  (c32:PySem.W.codeIn K cd32 "_law_levels" = true)
  (k32:W.keepIn K (.ref f32)=true)
  (a33:PySem.W.nsIn K mainGlobals "_law_works_spec" = some (some (.ref f33)))
  (l33:K.lookup f33=some ⟨oc33,od33,.func (PySem.W.fnOf "_law_works_spec" "_law_works_spec" (aY cZ) (aW cZ) (aH cZ) .none kV33 dc33 pm33 an33 cd33 ct33),sl33⟩)
  (c33:PySem.W.codeIn K cd33 "_law_works_spec" = true)
  (k33:W.keepIn K (.ref f33)=true)
  (a34:PySem.W.nsIn K mainGlobals "_law_works" = some (some (.ref f34)))
  (l34:K.lookup f34=some ⟨oc34,od34,.func (PySem.W.fnOf "_law_works" "_law_works" (aY gG) (aW gG) (aH gG) .none kV34 dc34 pm34 an34 cd34 ct34),sl34⟩)
  (c34:PySem.W.codeIn K cd34 "_law_works" = true)
  (k34:W.keepIn K (.ref f34)=true)
  (a35:PySem.W.nsIn K mainGlobals "_law_position" = some (some (.ref f35)))
  (l35:K.lookup f35=some ⟨oc35,od35,.func (PySem.W.fnOf "_law_position" "_law_position" (aY dS) (aW dS) (aH dS) .none kV35 dc35 pm35 an35 cd35 ct35),sl35⟩)
  (c35:PySem.W.codeIn K cd35 "_law_position" = true)
  (k35:W.keepIn K (.ref f35)=true)
  (a36:PySem.W.nsIn K mainGlobals "_law_ons" = some (some (.ref f36)))
  (l36:K.lookup f36=some ⟨oc36,od36,.func (PySem.W.fnOf "_law_ons" "_law_ons" (aY mN) (aW mN) (aH mN) .none kV36 dc36 pm36 an36 cd36 ct36),sl36⟩)
  (c36:PySem.W.codeIn K cd36 "_law_ons" = true)
  (k36:W.keepIn K (.ref f36)=true)
  (a37:PySem.W.nsIn K mainGlobals "_law_output" = some (some (.ref f37)))
  (l37:K.lookup f37=some ⟨oc37,od37,.func (PySem.W.fnOf "_law_output" "_law_output" (aY fD) (aW fD) (aH fD) .none kV37 dc37 pm37 an37 cd37 ct37),sl37⟩)
  (c37:PySem.W.codeIn K cd37 "_law_output" = true)
  (k37:W.keepIn K (.ref f37)=true)
  (a38:PySem.W.nsIn K mainGlobals "_law_hour" = some (some (.ref f38)))
  (l38:K.lookup f38=some ⟨oc38,od38,.func (PySem.W.fnOf "_law_hour" "_law_hour" (aY iN) (aW iN) (aH iN) .none kV38 dc38 pm38 an38 cd38 ct38),sl38⟩)
  (c38:PySem.W.codeIn K cd38 "_law_hour" = true)
  (k38:W.keepIn K (.ref f38)=true)
  (a39:PySem.W.nsIn K mainGlobals "_law_behind" = some (some (.ref f39)))
  (l39:K.lookup f39=some ⟨oc39,od39,.func (PySem.W.fnOf "_law_behind" "_law_behind" (aY fE) (aW fE) (aH fE) .none kV39 dc39 pm39 an39 cd39 ct39),sl39⟩)
  (c39:PySem.W.codeIn K cd39 "_law_behind" = true)
  (k39:W.keepIn K (.ref f39)=true)
  (a40:PySem.W.nsIn K mainGlobals "_law_plan" = some (some (.ref f40)))
  (l40:K.lookup f40=some ⟨oc40,od40,.func (PySem.W.fnOf "_law_plan" "_law_plan" (aY kK) (aW kK) (aH kK) .none kV40 dc40 pm40 an40 cd40 ct40),sl40⟩)
  (c40:PySem.W.codeIn K cd40 "_law_plan" = true)
  (k40:W.keepIn K (.ref f40)=true)
  (a41:PySem.W.nsIn K mainGlobals "levels_after" = some (some (.ref f41)))
  (l41:K.lookup f41=some ⟨oc41,od41,.func (PySem.W.fnOf "levels_after" "levels_after" (aY fV) (aW fV) (aH fV) .none kV41 dc41 pm41 an41 cd41 ct41),sl41⟩)
  (c41:PySem.W.codeIn K cd41 "levels_after" = true)
  (k41:W.keepIn K (.ref f41)=true)
  (a42:PySem.W.nsIn K mainGlobals "levels_from" = some (some (.ref f42)))
  (l42:K.lookup f42=some ⟨oc42,od42,.func (PySem.W.fnOf "levels_from" "levels_from" (aY hU) (aW hU) (aH hU) .none kV42 dc42 pm42 an42 cd42 ct42),sl42⟩)
  (c42:PySem.W.codeIn K cd42 "levels_from" = true)
  (k42:W.keepIn K (.ref f42)=true)
  (a43:PySem.W.nsIn K mainGlobals "drawn_by" = some (some (.ref f43)))
  (l43:K.lookup f43=some ⟨oc43,od43,.func (PySem.W.fnOf "drawn_by" "drawn_by" (aY mO) (aW mO) (aH mO) .none kV43 dc43 pm43 an43 cd43 ct43),sl43⟩)
  (c43:PySem.W.codeIn K cd43 "drawn_by" = true)
  (k43:W.keepIn K (.ref f43)=true)
  (a44:PySem.W.nsIn K mainGlobals "level_ways" = some (some (.ref f44)))
  (l44:K.lookup f44=some ⟨oc44,od44,.func (PySem.W.fnOf "level_ways" "level_ways" (aY gH) (aW gH) (aH gH) .none kV44 dc44 pm44 an44 cd44 ct44),sl44⟩)
  (c44:PySem.W.codeIn K cd44 "level_ways" = true)
  (k44:W.keepIn K (.ref f44)=true)
  (a45:PySem.W.nsIn K mainGlobals "worths_of_levels" = some (some (.ref f45)))
  (l45:K.lookup f45=some ⟨oc45,od45,.func (PySem.W.fnOf "worths_of_levels" "worths_of_levels" (aY bY) (aW bY) (aH bY) .none kV45 dc45 pm45 an45 (.ref kc45) ct45),sl45⟩)
  (c45:PySem.W.codeIn K (.ref kc45) "worths_of_levels" = true)
  (tl45:K.lookup kc45=some ⟨.type "code",tod45,.fields tvs45,tsl45⟩)
  (tv45:(tvs45[11]? : Option Value)=some (.ref T45))
  (th45:PySem.W.codeHdIn K kc45 T45=true)
  (k45:W.keepIn K (.ref f45)=true)
  (a46:PySem.W.nsIn K mainGlobals "cheapest_path" = some (some (.ref f46)))
  (l46:K.lookup f46=some ⟨oc46,od46,.func (PySem.W.fnOf "cheapest_path" "cheapest_path" (aY dH) (aW dH) (aH dH) .none kV46 dc46 pm46 an46 (.ref kc46) ct46),sl46⟩)
  (c46:PySem.W.codeIn K (.ref kc46) "cheapest_path" = true)
  (tl46:K.lookup kc46=some ⟨.type "code",tod46,.fields tvs46,tsl46⟩)
  (tv46:(tvs46[11]? : Option Value)=some (.ref T46))
  (th46:PySem.W.codeHdIn K kc46 T46=true)
  (k46:W.keepIn K (.ref f46)=true)
  (a47:PySem.W.nsIn K mainGlobals "states_by_hour" = some (some (.ref f47)))
  (l47:K.lookup f47=some ⟨oc47,od47,.func (PySem.W.fnOf "states_by_hour" "states_by_hour" (aY d9) (aW d9) (aH d9) .none kV47 dc47 pm47 an47 cd47 ct47),sl47⟩)
  (c47:PySem.W.codeIn K cd47 "states_by_hour" = true)
  (k47:W.keepIn K (.ref f47)=true)
  (a48:PySem.W.nsIn K mainGlobals "next_hours" = some (some (.ref f48)))
  (l48:K.lookup f48=some ⟨oc48,od48,.func (PySem.W.fnOf "next_hours" "next_hours" (aY gI) (aW gI) (aH gI) .none kV48 dc48 pm48 an48 cd48 ct48),sl48⟩)
  (c48:PySem.W.codeIn K cd48 "next_hours" = true)
  (k48:W.keepIn K (.ref f48)=true)
  (a49:PySem.W.nsIn K mainGlobals "hour_ways" = some (some (.ref f49)))
  (l49:K.lookup f49=some ⟨oc49,od49,.func (PySem.W.fnOf "hour_ways" "hour_ways" (aY iO) (aW iO) (aH iO) .none kV49 dc49 pm49 an49 cd49 ct49),sl49⟩)
  (c49:PySem.W.codeIn K cd49 "hour_ways" = true)
  (k49:W.keepIn K (.ref f49)=true)
  (a50:PySem.W.nsIn K mainGlobals "worths_of_states" = some (some (.ref f50)))
  (l50:K.lookup f50=some ⟨oc50,od50,.func (PySem.W.fnOf "worths_of_states" "worths_of_states" (aY cG) (aW cG) (aH cG) .none kV50 dc50 pm50 an50 (.ref kc50) ct50),sl50⟩)
  (c50:PySem.W.codeIn K (.ref kc50) "worths_of_states" = true)
  (tl50:K.lookup kc50=some ⟨.type "code",tod50,.fields tvs50,tsl50⟩)
  (tv50:(tvs50[11]? : Option Value)=some (.ref T50))
  (th50:PySem.W.codeHdIn K kc50 T50=true)
  (k50:W.keepIn K (.ref f50)=true)
  (a51:PySem.W.nsIn K mainGlobals "cheapest_run" = some (some (.ref f51)))
  (l51:K.lookup f51=some ⟨oc51,od51,.func (PySem.W.fnOf "cheapest_run" "cheapest_run" (aY dN) (aW dN) (aH dN) .none kV51 dc51 pm51 an51 (.ref kc51) ct51),sl51⟩)
  (c51:PySem.W.codeIn K (.ref kc51) "cheapest_run" = true)
  (tl51:K.lookup kc51=some ⟨.type "code",tod51,.fields tvs51,tsl51⟩)
  (tv51:(tvs51[11]? : Option Value)=some (.ref T51))
  (th51:PySem.W.codeHdIn K kc51 T51=true)
  (k51:W.keepIn K (.ref f51)=true)
  (a52:PySem.W.nsIn K mainGlobals "_law_price" = some (some (.ref f52)))
  (l52:K.lookup f52=some ⟨oc52,od52,.func (PySem.W.fnOf "_law_price" "_law_price" (aY iZ) (aW iZ) (aH iZ) .none kV52 dc52 pm52 an52 cd52 ct52),sl52⟩)
  (c52:PySem.W.codeIn K cd52 "_law_price" = true)
  (k52:W.keepIn K (.ref f52)=true)
  (a53:PySem.W.nsIn K mainGlobals "least_of_machines" = some (some (.ref f53)))
  (l53:K.lookup f53=some ⟨oc53,od53,.func (PySem.W.fnOf "least_of_machines" "least_of_machines" (aY cQ) (aW cQ) (aH cQ) .none kV53 dc53 pm53 an53 cd53 ct53),sl53⟩)
  (c53:PySem.W.codeIn K cd53 "least_of_machines" = true)
  (k53:W.keepIn K (.ref f53)=true)
  (a54:PySem.W.nsIn K mainGlobals "least_of_store" = some (some (.ref f54)))
  (l54:K.lookup f54=some ⟨oc54,od54,.func (PySem.W.fnOf "least_of_store" "least_of_store" (aY eA) (aW eA) (aH eA) .none kV54 dc54 pm54 an54 cd54 ct54),sl54⟩)
  (c54:PySem.W.codeIn K cd54 "least_of_store" = true)
  (k54:W.keepIn K (.ref f54)=true)
  (a55:PySem.W.nsIn K mainGlobals "price_bound" = some (some (.ref f55)))
  (l55:K.lookup f55=some ⟨oc55,od55,.func (PySem.W.fnOf "price_bound" "price_bound" (aY fF) (aW fF) (aH fF) .none kV55 dc55 pm55 an55 cd55 ct55),sl55⟩)
  (c55:PySem.W.codeIn K cd55 "price_bound" = true)
  (k55:W.keepIn K (.ref f55)=true)
  (a56:PySem.W.nsIn K mainGlobals "_law_cost" = some (some (.ref f56)))
  (l56:K.lookup f56=some ⟨oc56,od56,.func (PySem.W.fnOf "_law_cost" "_law_cost" (aY kL) (aW kL) (aH kL) .none kV56 dc56 pm56 an56 cd56 ct56),sl56⟩)
  (c56:PySem.W.codeIn K cd56 "_law_cost" = true)
  (k56:W.keepIn K (.ref f56)=true)
  (a57:PySem.W.nsIn K mainGlobals "_law_drawn" = some (some (.ref f57)))
  (l57:K.lookup f57=some ⟨oc57,od57,.func (PySem.W.fnOf "_law_drawn" "_law_drawn" (aY jA) (aW jA) (aH jA) .none kV57 dc57 pm57 an57 cd57 ct57),sl57⟩)
  (c57:PySem.W.codeIn K cd57 "_law_drawn" = true)
  (k57:W.keepIn K (.ref f57)=true)
  (a58:PySem.W.nsIn K mainGlobals "_law_want" = some (some (.ref f58)))
  (l58:K.lookup f58=some ⟨oc58,od58,.func (PySem.W.fnOf "_law_want" "_law_want" (aY kM) (aW kM) (aH kM) .none kV58 dc58 pm58 an58 cd58 ct58),sl58⟩)
  (c58:PySem.W.codeIn K cd58 "_law_want" = true)
  (k58:W.keepIn K (.ref f58)=true)
  (a59:PySem.W.nsIn K mainGlobals "_law_prices" = some (some (.ref f59)))
  (l59:K.lookup f59=some ⟨oc59,od59,.func (PySem.W.fnOf "_law_prices" "_law_prices" (aY fG) (aW fG) (aH fG) .none kV59 dc59 pm59 an59 cd59 ct59),sl59⟩)
  (c59:PySem.W.codeIn K cd59 "_law_prices" = true)
  (k59:W.keepIn K (.ref f59)=true)
  (a60:PySem.W.nsIn K mainGlobals "_law_case" = some (some (.ref f60)))
  (l60:K.lookup f60=some ⟨oc60,od60,.func (PySem.W.fnOf "_law_case" "_law_case" (aY iP) (aW iP) (aH iP) .none kV60 dc60 pm60 an60 cd60 ct60),sl60⟩)
  (c60:PySem.W.codeIn K cd60 "_law_case" = true)
  (k60:W.keepIn K (.ref f60)=true)
  (a61:PySem.W.nsIn K mainGlobals "_law_row_worth" = some (some (.ref f61)))
  (l61:K.lookup f61=some ⟨oc61,od61,.func (PySem.W.fnOf "_law_row_worth" "_law_row_worth" (aY eB) (aW eB) (aH eB) .none kV61 dc61 pm61 an61 cd61 ct61),sl61⟩)
  (c61:PySem.W.codeIn K cd61 "_law_row_worth" = true)
  (k61:W.keepIn K (.ref f61)=true)
  (a62:PySem.W.nsIn K mainGlobals "_law_over" = some (some (.ref f62)))
  (l62:K.lookup f62=some ⟨oc62,od62,.func (PySem.W.fnOf "_law_over" "_law_over" (aY kN) (aW kN) (aH kN) .none kV62 dc62 pm62 an62 cd62 ct62),sl62⟩)
  (c62:PySem.W.codeIn K cd62 "_law_over" = true)
  (k62:W.keepIn K (.ref f62)=true)
  (a63:PySem.W.nsIn K mainGlobals "_law_plan_cost" = some (some (.ref f63)))
  (l63:K.lookup f63=some ⟨oc63,od63,.func (PySem.W.fnOf "_law_plan_cost" "_law_plan_cost" (aY cK) (aW cK) (aH cK) .none kV63 dc63 pm63 an63 cd63 ct63),sl63⟩)
  (c63:PySem.W.codeIn K cd63 "_law_plan_cost" = true)
  (k63:W.keepIn K (.ref f63)=true)
  (a64:PySem.W.nsIn K mainGlobals "_law_shared" = some (some (.ref f64)))
  (l64:K.lookup f64=some ⟨oc64,od64,.func (PySem.W.fnOf "_law_shared" "_law_shared" (aY fH) (aW fH) (aH fH) .none kV64 dc64 pm64 an64 cd64 ct64),sl64⟩)
  (c64:PySem.W.codeIn K cd64 "_law_shared" = true)
  (k64:W.keepIn K (.ref f64)=true)
  (a65:PySem.W.nsIn K mainGlobals "_law_better" = some (some (.ref f65)))
  (l65:K.lookup f65=some ⟨oc65,od65,.func (PySem.W.fnOf "_law_better" "_law_better" (aY hV) (aW hV) (aH hV) .none kV65 dc65 pm65 an65 cd65 ct65),sl65⟩)
  (c65:PySem.W.codeIn K cd65 "_law_better" = true)
  (k65:W.keepIn K (.ref f65)=true)
  (a66:PySem.W.nsIn K mainGlobals "law" = some (some (.ref f66)))
  (l66:K.lookup f66=some ⟨oc66,od66,.func (PySem.W.fnOf "law" "law" (aY aGn) (aW aGn) (aH aGn) .none kV66 dc66 pm66 an66 cd66 ct66),sl66⟩)
  (c66:PySem.W.codeIn K cd66 "law" = true)
  (k66:W.keepIn K (.ref f66)=true)
  (pg0:PySem.W.plainGet K C0 Str.empty=true)
  (hd0:PySem.W.hasDictIn K C0=true)
  (po0:PySem.W.plainOver K C0=true)
  (sa0:PySem.W.findIn K (.ref C0) "__setattr__" = some (some (.builtin "object.__setattr__")))
  (mk0:PySem.W.makesIn K C0=true)
  (kc0:W.keepIn K (.ref C0)=true)
  (n0_up:PySem.W.findIn K (.ref C0) "up" = some none)
  (n0_down:PySem.W.findIn K (.ref C0) "down" = some none)
  (n0_begin:PySem.W.findIn K (.ref C0) "begin" = some none)
  (n0_run:PySem.W.findIn K (.ref C0) "run" = some none)
  (n0_rest:PySem.W.findIn K (.ref C0) "rest" = some none)
  (n0_least:PySem.W.findIn K (.ref C0) "least" = some none)
  (n0_pieces:PySem.W.findIn K (.ref C0) "pieces" = some none)
  (ia0:PySem.W.findIn K (.ref C0) "__class__" = some (some (.builtin "object.__class__")))
  (in0:PySem.W.specialIn K (.builtin "object.__class__") "__get__" = some (some (.builtin "getset_descriptor.__get__")))
  (it0:PySem.W.takesIn K (.builtin "object.__class__")=some true)
  (im0:PySem.W.mroIn K C0 (.type "object")=some true)
  (pg1:PySem.W.plainGet K C1 Str.empty=true)
  (hd1:PySem.W.hasDictIn K C1=true)
  (po1:PySem.W.plainOver K C1=true)
  (sa1:PySem.W.findIn K (.ref C1) "__setattr__" = some (some (.builtin "object.__setattr__")))
  (mk1:PySem.W.makesIn K C1=true)
  (kc1:W.keepIn K (.ref C1)=true)
  (n1_cap:PySem.W.findIn K (.ref C1) "cap" = some none)
  (n1_into:PySem.W.findIn K (.ref C1) "into" = some none)
  (n1_out:PySem.W.findIn K (.ref C1) "out" = some none)
  (n1_takes:PySem.W.findIn K (.ref C1) "takes" = some none)
  (n1_gives:PySem.W.findIn K (.ref C1) "gives" = some none)
  (ia1:PySem.W.findIn K (.ref C1) "__class__" = some (some (.builtin "object.__class__")))
  (in1:PySem.W.specialIn K (.builtin "object.__class__") "__get__" = some (some (.builtin "getset_descriptor.__get__")))
  (it1:PySem.W.takesIn K (.builtin "object.__class__")=some true)
  (im1:PySem.W.mroIn K C1 (.type "object")=some true)
  (pg2:PySem.W.plainGet K C2 Str.empty=true)
  (hd2:PySem.W.hasDictIn K C2=true)
  (po2:PySem.W.plainOver K C2=true)
  (sa2:PySem.W.findIn K (.ref C2) "__setattr__" = some (some (.builtin "object.__setattr__")))
  (mk2:PySem.W.makesIn K C2=true)
  (kc2:W.keepIn K (.ref C2)=true)
  (n2_machines:PySem.W.findIn K (.ref C2) "machines" = some none)
  (n2_store:PySem.W.findIn K (.ref C2) "store" = some none)
  (n2_lack:PySem.W.findIn K (.ref C2) "lack" = some none)
  (ia2:PySem.W.findIn K (.ref C2) "__class__" = some (some (.builtin "object.__class__")))
  (in2:PySem.W.specialIn K (.builtin "object.__class__") "__get__" = some (some (.builtin "getset_descriptor.__get__")))
  (it2:PySem.W.takesIn K (.builtin "object.__class__")=some true)
  (im2:PySem.W.mroIn K C2 (.type "object")=some true)
  (aGp:PySem.W.nsIn K mainGlobals "abs" = some none)
  (aDx:PySem.W.nsIn K mainGlobals "all" = some none)
  (aCS:PySem.W.nsIn K mainGlobals "bool" = some none)
  (d7:PySem.W.nsIn K mainGlobals "enumerate" = some none)
  (aDy:PySem.W.nsIn K mainGlobals "int" = some none)
  (cS:PySem.W.nsIn K mainGlobals "isinstance" = some none)
  (eN:PySem.W.nsIn K mainGlobals "len" = some none)
  (mY:PySem.W.nsIn K mainGlobals "list" = some none)
  (lY:PySem.W.nsIn K mainGlobals "max" = some none)
  (vQ:PySem.W.nsIn K mainGlobals "min" = some none)
  (cM:PySem.W.nsIn K mainGlobals "range" = some none)
  (mZ:PySem.W.nsIn K mainGlobals "reversed" = some none)
  (rP:PySem.W.nsIn K mainGlobals "sorted" = some none)
  (aA7:PySem.W.nsIn K mainGlobals "sum" = some none)
  (lS:PySem.W.nsIn K mainGlobals "tuple" = some none)
  (aCg:PySem.W.nsIn K mainGlobals "zip" = some none)
  (hZ:PySem.W.nsIn K mainGlobals "MOST_LEVELS" = some (some (.int 8 tk_MOST_LEVELS)))
  (eS:PySem.W.nsIn K mainGlobals "LONGEST_STINT" = some (some (.int 12 tk_LONGEST_STINT)))
  (iA:PySem.W.nsIn K mainGlobals "MOST_PIECES" = some (some (.int 4 tk_MOST_PIECES)))
  (eT:PySem.W.nsIn K mainGlobals "MOST_MACHINES" = some (some (.int 6 tk_MOST_MACHINES))) :
  (∃c,PySem.W.codeHdIn K c T45=true)/\(∃c,PySem.W.codeHdIn K c T46=true)/\(∃c,PySem.W.codeHdIn K c T50=true)/\(∃c,PySem.W.codeHdIn K c T51=true)/\∃fd:FuncData,(∀(s:Shared) (v:Value),BindsTo s fd ⟨[v],[]⟩ [("_law_script",v)])/\∀base:Heap,K.In base->base.Ns mainGlobals mg->bQ l.prog w K mg base gE 16 fa fd ["_law_script"] (aHJ K T50 T51 T45 T46):=by
 have e:=hfa.symm.trans (W.mg_of X G a66)
 cases e
 have F0:=bF (st:=iM) l0 c0 k0
 have b0:=F0.binds (ps:=["_law_script","_law_place"]) λ_ _ _ _ _ _ us hl=>by obtain⟨_,_,rfl⟩:=ar2 us hl;rfl
 have F1:=bF (st:=kF) l1 c1 k1
 have b1:=F1.binds (ps:=["_law_hand","_law_many"]) λ_ _ _ _ _ _ us hl=>by obtain⟨_,_,rfl⟩:=ar2 us hl;rfl
 have F2:=bF (st:=mI) l2 c2 k2
 have b2:=F2.binds (ps:=["_law_hand","_law_bound"]) λ_ _ _ _ _ _ us hl=>by obtain⟨_,_,rfl⟩:=ar2 us hl;rfl
 have F3:=bF (st:=gX) l3 c3 k3
 have b3:=F3.binds (ps:=["_law_hand"]) λ_ _ _ _ _ _ us hl=>by obtain⟨_,rfl⟩:=ar1 us hl;rfl
 have F4:=bF (st:=mJ) l4 c4 k4
 have b4:=F4.binds (ps:=["thing"]) λ_ _ _ _ _ _ us hl=>by obtain⟨_,rfl⟩:=ar1 us hl;rfl
 have F5:=bF (st:=kG) l5 c5 k5
 have b5:=F5.binds (ps:=["thing"]) λ_ _ _ _ _ _ us hl=>by obtain⟨_,rfl⟩:=ar1 us hl;rfl
 have F6:=bF (st:=qR) l6 c6 k6
 have b6:=F6.binds (ps:=["thing"]) λ_ _ _ _ _ _ us hl=>by obtain⟨_,rfl⟩:=ar1 us hl;rfl
 have F7:=bF (st:=mK) l7 c7 k7
 have b7:=F7.binds (ps:=["thing"]) λ_ _ _ _ _ _ us hl=>by obtain⟨_,rfl⟩:=ar1 us hl;rfl
 have F8:=bF (st:=eX) l8 c8 k8
 have b8:=F8.binds (ps:=["thing"]) λ_ _ _ _ _ _ us hl=>by obtain⟨_,rfl⟩:=ar1 us hl;rfl
 have F9:=bF (st:=fQ) l9 c9 k9
 have b9:=F9.binds (ps:=["self","up","down","begin","run","rest","least","pieces"]) λ_ _ _ _ _ _ us hl=>by obtain⟨_,_,_,_,_,_,_,_,rfl⟩:=ar8 us hl;rfl
 have F10:=bF (st:=kH) l10 c10 k10
 have b10:=F10.binds (ps:=["_law_hand","_law_by","_law_longest"]) λ_ _ _ _ _ _ us hl=>by obtain⟨_,_,_,rfl⟩:=ar3 us hl;rfl
 have F11:=bF (st:=fR) l11 c11 k11
 have b11:=F11.binds (ps:=["_law_spec_here"]) λ_ _ _ _ _ _ us hl=>by obtain⟨_,rfl⟩:=ar1 us hl;rfl
 have F12:=bF (st:=fS) l12 c12 k12
 have b12:=F12.binds (ps:=["self","price"]) λ_ _ _ _ _ _ us hl=>by obtain⟨_,_,rfl⟩:=ar2 us hl;rfl
 have F13:=bF (st:=vF) l13 c13 k13
 have b13:=F13.binds (ps:=["machine","state","on"]) λ_ _ _ _ _ _ us hl=>by obtain⟨_,_,_,rfl⟩:=ar3 us hl;rfl
 have F14:=bF (st:=gY) l14 c14 k14
 have b14:=F14.binds (ps:=["machine","state","on"]) λ_ _ _ _ _ _ us hl=>by obtain⟨_,_,_,rfl⟩:=ar3 us hl;rfl
 have F15:=bF (st:=iT) l15 c15 k15
 have b15:=F15.binds (ps:=["_law_hand","_law_spec_here"]) λ_ _ _ _ _ _ us hl=>by obtain⟨_,_,rfl⟩:=ar2 us hl;rfl
 have F16:=bF (st:=iU) l16 c16 k16
 have b16:=F16.binds (ps:=["_law_spec_here","_law_state_here","_law_on"]) λ_ _ _ _ _ _ us hl=>by obtain⟨_,_,_,rfl⟩:=ar3 us hl;rfl
 have F17:=bF (st:=mL) l17 c17 k17
 have b17:=F17.binds (ps:=["thing"]) λ_ _ _ _ _ _ us hl=>by obtain⟨_,rfl⟩:=ar1 us hl;rfl
 have F18:=bF (st:=iV) l18 c18 k18
 have b18:=F18.binds (ps:=["self","cap","into","out","takes","gives"]) λ_ _ _ _ _ _ us hl=>by obtain⟨_,_,_,_,_,_,rfl⟩:=ar6 us hl;rfl
 have F19:=bF (st:=kI) l19 c19 k19
 have b19:=F19.binds (ps:=["machine","state","run"]) λ_ _ _ _ _ _ us hl=>by obtain⟨_,_,_,rfl⟩:=ar3 us hl;rfl
 have F20:=bF (st:=fT) l20 c20 k20
 have b20:=F20.binds (ps:=["machine","state","run"]) λ_ _ _ _ _ _ us hl=>by obtain⟨_,_,_,rfl⟩:=ar3 us hl;rfl
 have F21:=bF (st:=iW) l21 c21 k21
 have b21:=F21.binds (ps:=["machine","state","run"]) λ_ _ _ _ _ _ us hl=>by obtain⟨_,_,_,rfl⟩:=ar3 us hl;rfl
 have F22:=bF (st:=mM) l22 c22 k22
 have b22:=F22.binds (ps:=["machine","state","run"]) λ_ _ _ _ _ _ us hl=>by obtain⟨_,_,_,rfl⟩:=ar3 us hl;rfl
 have F23:=bF (st:=j8) l23 c23 k23
 have b23:=F23.binds (ps:=["ways","behind"]) λ_ _ _ _ _ _ us hl=>by obtain⟨_,_,rfl⟩:=ar2 us hl;rfl
 have F24:=bF (st:=fU) l24 c24 k24
 have b24:=F24.binds (ps:=["places","hour","behind","ways_at"]) λ_ _ _ _ _ _ us hl=>by obtain⟨_,_,_,_,rfl⟩:=ar4 us hl;rfl
 have F25:=bF (st:=d8) l25 c25 k25
 have b25:=F25.binds (ps:=["layers","ways_at"]) λ_ _ _ _ _ _ us hl=>by obtain⟨_,_,rfl⟩:=ar2 us hl;rfl
 have F26:=bF (st:=gF) l26 c26 k26
 have b26:=F26.binds (ps:=["ways","behind"]) λ_ _ _ _ _ _ us hl=>by obtain⟨_,_,rfl⟩:=ar2 us hl;rfl
 have F27:=bF (st:=kJ) l27 c27 k27
 have b27:=F27.binds (ps:=["place","worths","ways_at"]) λ_ _ _ _ _ _ us hl=>by obtain⟨_,_,_,rfl⟩:=ar3 us hl;rfl
 have F28:=bF (st:=gZ) l28 c28 k28
 have b28:=F28.binds (ps:=["machine","ways"]) λ_ _ _ _ _ _ us hl=>by obtain⟨_,_,rfl⟩:=ar2 us hl;rfl
 have F29:=bF (st:=eG) l29 c29 k29
 have b29:=F29.binds (ps:=["thing"]) λ_ _ _ _ _ _ us hl=>by obtain⟨_,rfl⟩:=ar1 us hl;rfl
 have F30:=bF (st:=iX) l30 c30 k30
 have b30:=F30.binds (ps:=["self","machines","store","lack"]) λ_ _ _ _ _ _ us hl=>by obtain⟨_,_,_,_,rfl⟩:=ar4 us hl;rfl
 have F31:=bF (st:=iY) l31 c31 k31
 have b31:=F31.binds (ps:=["_law_hand","_law_by"]) λ_ _ _ _ _ _ us hl=>by obtain⟨_,_,rfl⟩:=ar2 us hl;rfl
 have F32:=bF (st:=hJ) l32 c32 k32
 have b32:=F32.binds (ps:=["_law_store_here","_law_level"]) λ_ _ _ _ _ _ us hl=>by obtain⟨_,_,rfl⟩:=ar2 us hl;rfl
 have F33:=bF (st:=cZ) l33 c33 k33
 have b33:=F33.binds (ps:=["_law_hand","_law_most"]) λ_ _ _ _ _ _ us hl=>by obtain⟨_,_,rfl⟩:=ar2 us hl;rfl
 have F34:=bF (st:=gG) l34 c34 k34
 have b34:=F34.binds (ps:=["_law_spec_here"]) λ_ _ _ _ _ _ us hl=>by obtain⟨_,rfl⟩:=ar1 us hl;rfl
 have F35:=bF (st:=dS) l35 c35 k35
 have b35:=F35.binds (ps:=["_law_hand","_law_spec_here"]) λ_ _ _ _ _ _ us hl=>by obtain⟨_,_,rfl⟩:=ar2 us hl;rfl
 have F36:=bF (st:=mN) l36 c36 k36
 have b36:=F36.binds (ps:=["_law_hand","_law_specs","_law_states"]) λ_ _ _ _ _ _ us hl=>by obtain⟨_,_,_,rfl⟩:=ar3 us hl;rfl
 have F37:=bF (st:=fD) l37 c37 k37
 have b37:=F37.binds (ps:=["_law_hand","_law_spec_here","_law_on"]) λ_ _ _ _ _ _ us hl=>by obtain⟨_,_,_,rfl⟩:=ar3 us hl;rfl
 have F38:=bF (st:=iN) l38 c38 k38
 have b38:=F38.binds (ps:=["_law_hand","_law_spec_here","_law_position_here"]) λ_ _ _ _ _ _ us hl=>by obtain⟨_,_,_,rfl⟩:=ar3 us hl;rfl
 have F39:=bF (st:=fE) l39 c39 k39
 have b39:=F39.binds (ps:=["_law_spec_here","_law_position_here","_law_hour_here"]) λ_ _ _ _ _ _ us hl=>by obtain⟨_,_,_,rfl⟩:=ar3 us hl;rfl
 have F40:=bF (st:=kK) l40 c40 k40
 have b40:=F40.binds (ps:=["_law_script","_law_first","_law_hours","_law_spec_here","_law_position_here"]) λ_ _ _ _ _ _ us hl=>by obtain⟨_,_,_,_,_,rfl⟩:=ar5 us hl;rfl
 have F41:=bF (st:=fV) l41 c41 k41
 have b41:=F41.binds (ps:=["store","level","hours"]) λ_ _ _ _ _ _ us hl=>by obtain⟨_,_,_,rfl⟩:=ar3 us hl;rfl
 have F42:=bF (st:=hU) l42 c42 k42
 have b42:=F42.binds (ps:=["store","level"]) λ_ _ _ _ _ _ us hl=>by obtain⟨_,_,rfl⟩:=ar2 us hl;rfl
 have F43:=bF (st:=mO) l43 c43 k43
 have b43:=F43.binds (ps:=["store","level","later"]) λ_ _ _ _ _ _ us hl=>by obtain⟨_,_,_,rfl⟩:=ar3 us hl;rfl
 have F44:=bF (st:=gH) l44 c44 k44
 have b44:=F44.binds (ps:=["store","level","price"]) λ_ _ _ _ _ _ us hl=>by obtain⟨_,_,_,rfl⟩:=ar3 us hl;rfl
 have F45:=bF (st:=bY) l45 c45 k45
 have b45:=F45.binds (ps:=["store","level","prices"]) λ_ _ _ _ _ _ us hl=>by obtain⟨_,_,_,rfl⟩:=ar3 us hl;rfl
 have F46:=bF (st:=dH) l46 c46 k46
 have b46:=F46.binds (ps:=["store","level","prices"]) λ_ _ _ _ _ _ us hl=>by obtain⟨_,_,_,rfl⟩:=ar3 us hl;rfl
 have F47:=bF (st:=d9) l47 c47 k47
 have b47:=F47.binds (ps:=["machine","state","hours"]) λ_ _ _ _ _ _ us hl=>by obtain⟨_,_,_,rfl⟩:=ar3 us hl;rfl
 have F48:=bF (st:=gI) l48 c48 k48
 have b48:=F48.binds (ps:=["machine","state"]) λ_ _ _ _ _ _ us hl=>by obtain⟨_,_,rfl⟩:=ar2 us hl;rfl
 have F49:=bF (st:=iO) l49 c49 k49
 have b49:=F49.binds (ps:=["machine","state","price"]) λ_ _ _ _ _ _ us hl=>by obtain⟨_,_,_,rfl⟩:=ar3 us hl;rfl
 have F50:=bF (st:=cG) l50 c50 k50
 have b50:=F50.binds (ps:=["machine","state","prices"]) λ_ _ _ _ _ _ us hl=>by obtain⟨_,_,_,rfl⟩:=ar3 us hl;rfl
 have F51:=bF (st:=dN) l51 c51 k51
 have b51:=F51.binds (ps:=["machine","state","prices"]) λ_ _ _ _ _ _ us hl=>by obtain⟨_,_,_,rfl⟩:=ar3 us hl;rfl
 have F52:=bF (st:=iZ) l52 c52 k52
 have b52:=F52.binds (ps:=["_law_hand","_law_by","_law_most"]) λ_ _ _ _ _ _ us hl=>by obtain⟨_,_,_,rfl⟩:=ar3 us hl;rfl
 have F53:=bF (st:=cQ) l53 c53 k53
 have b53:=F53.binds (ps:=["works","position","prices"]) λ_ _ _ _ _ _ us hl=>by obtain⟨_,_,_,rfl⟩:=ar3 us hl;rfl
 have F54:=bF (st:=eA) l54 c54 k54
 have b54:=F54.binds (ps:=["works","position","prices"]) λ_ _ _ _ _ _ us hl=>by obtain⟨_,_,_,rfl⟩:=ar3 us hl;rfl
 have F55:=bF (st:=fF) l55 c55 k55
 have b55:=F55.binds (ps:=["works","position","wants","prices"]) λ_ _ _ _ _ _ us hl=>by obtain⟨_,_,_,_,rfl⟩:=ar4 us hl;rfl
 have F56:=bF (st:=kL) l56 c56 k56
 have b56:=F56.binds (ps:=["_law_spec_here","_law_output_here"]) λ_ _ _ _ _ _ us hl=>by obtain⟨_,_,rfl⟩:=ar2 us hl;rfl
 have F57:=bF (st:=jA) l57 c57 k57
 have b57:=F57.binds (ps:=["_law_store_here","_law_level","_law_later"]) λ_ _ _ _ _ _ us hl=>by obtain⟨_,_,_,rfl⟩:=ar3 us hl;rfl
 have F58:=bF (st:=kM) l58 c58 k58
 have b58:=F58.binds (ps:=["_law_hand","_law_by"]) λ_ _ _ _ _ _ us hl=>by obtain⟨_,_,rfl⟩:=ar2 us hl;rfl
 have F59:=bF (st:=fG) l59 c59 k59
 have b59:=F59.binds (ps:=["_law_hand","_law_by","_law_lack","_law_hours"]) λ_ _ _ _ _ _ us hl=>by obtain⟨_,_,_,_,rfl⟩:=ar4 us hl;rfl
 have F60:=bF (st:=iP) l60 c60 k60
 have b60:=F60.binds (ps:=["_law_hand","_law_most"]) λ_ _ _ _ _ _ us hl=>by obtain⟨_,_,rfl⟩:=ar2 us hl;rfl
 have F61:=bF (st:=eB) l61 c61 k61
 have b61:=F61.binds (ps:=["_law_spec_here","_law_state_here","_law_ons_here","_law_outputs","_law_prices_here"]) λ_ _ _ _ _ _ us hl=>by obtain⟨_,_,_,_,_,rfl⟩:=ar5 us hl;rfl
 have F62:=bF (st:=kN) l62 c62 k62
 have b62:=F62.binds (ps:=["_law_spec_here","_law_level","_law_want_here","_law_hour_here"]) λ_ _ _ _ _ _ us hl=>by obtain⟨_,_,_,_,rfl⟩:=ar4 us hl;rfl
 have F63:=bF (st:=cK) l63 c63 k63
 have b63:=F63.binds (ps:=["_law_spec_here","_law_position_here","_law_wants","_law_plan_here"]) λ_ _ _ _ _ _ us hl=>by obtain⟨_,_,_,_,rfl⟩:=ar4 us hl;rfl
 have F64:=bF (st:=fH) l64 c64 k64
 have b64:=F64.binds (ps:=["_law_spec_here","_law_ons_here","_law_need"]) λ_ _ _ _ _ _ us hl=>by obtain⟨_,_,_,rfl⟩:=ar3 us hl;rfl
 have F65:=bF (st:=hV) l65 c65 k65
 have b65:=F65.binds (ps:=["_law_spec_here","_law_level","_law_wants","_law_plan_here"]) λ_ _ _ _ _ _ us hl=>by obtain⟨_,_,_,_,rfl⟩:=ar4 us hl;rfl
 have F66:=bF (st:=aGn) l66 c66 k66
 have b66:=F66.binds (ps:=["_law_script"]) λ_ _ _ _ _ _ us hl=>by obtain⟨_,rfl⟩:=ar1 us hl;rfl
 have tx:Txt K mg { sI:=f0,sJ:=_,sL:=f1,sM:=_,wB:=f2,wC:=_,m9:=f3,nB:=_,wD:=f4,wG:=_,sN:=f5,sO:=_,aAz:=f6,aAA:=_,wH:=f7,wI:=_,pL:=f8,pM:=_,kZ:=f9,lA:=_,sP:=f10,sQ:=_,lB:=f11,lC:=_,lD:=f12,lE:=_,aBT:=f13,aBU:=_,nC:=f14,nE:=_,pN:=f15,pO:=_,pP:=f16,pQ:=_,wJ:=f17,wK:=_,pR:=f18,pS:=_,sR:=f19,sS:=_,lF:=f20,lG:=_,pT:=f21,pU:=_,wL:=f22,wM:=_,wN:=f23,wO:=_,lH:=f24,lI:=_,jD:=f25,jE:=_,pV:=f26,pW:=_,sU:=f27,sV:=_,nF:=f28,nG:=_,lJ:=f29,lK:=_,pX:=f30,pY:=_,pZ:=f31,p9:=_,nH:=f32,nI:=_,iE:=f33,iF:=_,qA:=f34,qB:=_,jU:=f35,jV:=_,wQ:=f36,wR:=_,nJ:=f37,nK:=_,sW:=f38,sX:=_,nL:=f39,nM:=_,sY:=f40,sZ:=_,lM:=f41,lN:=_,nO:=f42,nP:=_,wU:=f43,wV:=_,qC:=f44,qD:=_,gJ:=f45,eI:=_,k_worths_of_levels:=kc45,cI:=T45,jW:=f46,gQ:=_,k_cheapest_path:=kc46,dU:=T46,jF:=f47,jG:=_,qE:=f48,qF:=_,tD:=f49,tE:=_,gK:=f50,eJ:=_,k_worths_of_states:=kc50,cJ:=T50,lO:=f51,iQ:=_,k_cheapest_run:=kc51,eK:=T51,qG:=f52,qH:=_,fK:=f53,fL:=_,jH:=f54,jI:=_,nQ:=f55,nR:=_,tF:=f56,tG:=_,qI:=f57,qJ:=_,tH:=f58,tI:=_,nS:=f59,nU:=_,tJ:=f60,tK:=_,jJ:=f61,jK:=_,tL:=f62,tM:=_,jL:=f63,jM:=_,nV:=f64,nW:=_,nX:=f65,nY:=_,aKp:=fa,aKq:=_,bD:=C0,cL:=C1,fM:=C2 }:={ tN:=F0,zA:=b0,zB:=W.mg_of X G a0,aQ:=F1,aT:=b1,aU:=W.mg_of X G a1,wW:=F2,aBn:=b2,aBo:=W.mg_of X G a2,nZ:=F3,uH:=b3,uI:=W.mg_of X G a3,qY:=F4,wX:=b4,wY:=W.mg_of X G a4,dO:=F5,dY:=b5,dZ:=W.mg_of X G a5,aAB:=F6,aCP:=b6,aCQ:=W.mg_of X G a6,aBp:=F7,aEA:=b7,aEB:=W.mg_of X G a7,wZ:=F8,aBV:=b8,aBW:=W.mg_of X G a8,zC:=F9,zD:=b9,zE:=F10,aDh:=b10,aDi:=W.mg_of X G a10,qZ:=F11,zF:=b11,zG:=W.mg_of X G a11,zH:=F12,zI:=b12,vH:=F13,zJ:=b13,zK:=W.mg_of X G a13,jS:=F14,oA:=b14,oB:=W.mg_of X G a14,w4:=F15,aBX:=b15,aBY:=W.mg_of X G a15,lP:=F16,qK:=b16,qL:=W.mg_of X G a16,rA:=F17,w5:=b17,w6:=W.mg_of X G a17,aBZ:=F18,aB0:=b18,zM:=F19,aDj:=b19,aDk:=W.mg_of X G a19,rB:=F20,zN:=b20,zO:=W.mg_of X G a20,w9:=F21,aB1:=b21,aB2:=W.mg_of X G a21,aBq:=F22,aEC:=b22,aED:=W.mg_of X G a22,xA:=F23,aBr:=b23,aBs:=W.mg_of X G a23,rC:=F24,zP:=b24,zQ:=W.mg_of X G a24,jN:=F25,mQ:=b25,mR:=W.mg_of X G a25,xC:=F26,aB3:=b26,aB4:=W.mg_of X G a26,tO:=F27,zR:=b27,zS:=W.mg_of X G a27,uJ:=F28,aAT:=b28,aAU:=W.mg_of X G a28,rD:=F29,zT:=b29,zU:=W.mg_of X G a29,aB5:=F30,aB6:=b30,xD:=F31,aB7:=b31,aB8:=W.mg_of X G a31,uK:=F32,aAV:=b32,aAW:=W.mg_of X G a32,lQ:=F33,tQ:=b33,tR:=W.mg_of X G a33,xE:=F34,aB9:=b34,aCa:=W.mg_of X G a34,o5:=F35,xZ:=b35,x8:=W.mg_of X G a35,aBt:=F36,aEE:=b36,aEF:=W.mg_of X G a36,uL:=F37,aAX:=b37,aAY:=W.mg_of X G a37,zV:=F38,aDl:=b38,aDm:=W.mg_of X G a38,uM:=F39,aAZ:=b39,aA0:=W.mg_of X G a39,zW:=F40,aDn:=b40,aDo:=W.mg_of X G a40,lR:=F41,rE:=b41,rF:=W.mg_of X G a41,uN:=F42,aA1:=b42,aA2:=W.mg_of X G a42,aBu:=F43,aEG:=b43,aEH:=W.mg_of X G a43,qM:=F44,xF:=b44,xG:=W.mg_of X G a44,j9:=F45,rG:=b45,kB:=⟨rfl,th45⟩,rH:=W.mg_of X G a45,o6:=F46,yA:=b46,o9:=⟨rfl,th46⟩,yB:=W.mg_of X G a46,mS:=F47,vI:=b47,vJ:=W.mg_of X G a47,xH:=F48,aCb:=b48,aCc:=W.mg_of X G a48,tS:=F49,zX:=b49,zY:=W.mg_of X G a49,kA:=F50,rJ:=b50,kC:=⟨rfl,th50⟩,rK:=W.mg_of X G a50,rL:=F51,zZ:=b51,rO:=⟨rfl,th51⟩,z0:=W.mg_of X G a51,xI:=F52,aCd:=b52,aCe:=W.mg_of X G a52,jQ:=F53,pE:=b53,pF:=W.mg_of X G a53,mT:=F54,vK:=b54,vL:=W.mg_of X G a54,oC:=F55,uO:=b55,uP:=W.mg_of X G a55,aAa:=F56,aDp:=b56,aDq:=W.mg_of X G a56,qN:=F57,xJ:=b57,xK:=W.mg_of X G a57,aAb:=F58,aDr:=b58,aDs:=W.mg_of X G a58,oE:=F59,uQ:=b59,uR:=W.mg_of X G a59,aAc:=F60,aDt:=b60,aDu:=W.mg_of X G a60,mU:=F61,vM:=b61,vN:=W.mg_of X G a61,aAd:=F62,aDv:=b62,aDw:=W.mg_of X G a62,mV:=F63,vO:=b63,vP:=W.mg_of X G a63,uS:=F64,aA3:=b64,aA4:=W.mg_of X G a64,uT:=F65,aA5:=b65,aA6:=W.mg_of X G a65,aPq:=F66,aRV:=b66,aRW:=W.mg_of X G a66,cW:=⟨pg0,hd0,po0,sa0⟩,aCR:=W.mg_of X G aC0,aGo:=⟨mk0,a9,i9,kc0⟩,m_Machine_gain:=⟨a12,i12,k12⟩,xM:=n0_up,rM:=n0_down,o7:=n0_begin,uU:=n0_run,rN:=n0_rest,o8:=n0_least,mW:=n0_pieces,i_Machine:=⟨ia0,in0,it0,im0⟩,jX:=⟨pg1,hd1,po1,sa1⟩,aG2:=W.mg_of X G aC1,aKr:=⟨mk1,a18,i18,kc1⟩,aAe:=n1_cap,xN:=n1_into,aAf:=n1_out,uV:=n1_takes,uW:=n1_gives,i_Store:=⟨ia1,in1,it1,im1⟩,xO:=⟨pg2,hd2,po2,sa2⟩,aKs:=W.mg_of X G aC2,aKt:=⟨mk2,a30,i30,kc2⟩,mX:=n2_machines,oF:=n2_store,aCf:=n2_lack,i_Works:=⟨ia2,in2,it2,im2⟩,aGp:=PySem.W.mg_none_of X G aGp,aDx:=PySem.W.mg_none_of X G aDx,aCS:=PySem.W.mg_none_of X G aCS,d7:=PySem.W.mg_none_of X G d7,aDy:=PySem.W.mg_none_of X G aDy,cS:=PySem.W.mg_none_of X G cS,eN:=PySem.W.mg_none_of X G eN,mY:=PySem.W.mg_none_of X G mY,lY:=PySem.W.mg_none_of X G lY,vQ:=PySem.W.mg_none_of X G vQ,cM:=PySem.W.mg_none_of X G cM,mZ:=PySem.W.mg_none_of X G mZ,rP:=PySem.W.mg_none_of X G rP,aA7:=PySem.W.mg_none_of X G aA7,lS:=PySem.W.mg_none_of X G lS,aCg:=PySem.W.mg_none_of X G aCg,hZ:=⟨_,W.mg_of X G hZ⟩,eS:=⟨_,W.mg_of X G eS⟩,iA:=⟨_,W.mg_of X G iA⟩,eT:=⟨_,W.mg_of X G eT⟩ }
 exact⟨⟨_,th45⟩,⟨_,th46⟩,⟨_,th50⟩,⟨_,th51⟩,_,λs v=>.of_eq rfl,λbase _ _=>aRe tx⟩
theorem walk{l:PySem.W.OpenLaw}{XP:(Str->Option Value)->Heap->Prop}{YP:World->Heap->Prop}{d:DefRec}{K:Params->W.Frag}(hn:l.most=some 63)(hdf:d.params.defaults=[])(hI:∀(w:World) (h:Heap),YP w h->(K w.params).In h)(F:∀(w:World) (mg:Str->Option Value) (fa:Addr) (h:Heap),(K w.params).In h->h.Ns mainGlobals mg->mg d.name=some (.ref fa)->
   (∃c,PySem.W.codeHdIn (K w.params) c T45=true)/\(∃c,PySem.W.codeHdIn (K w.params) c T46=true)/\(∃c,PySem.W.codeHdIn (K w.params) c T50=true)/\(∃c,PySem.W.codeHdIn (K w.params) c T51=true)/\∃fd:FuncData,(∀(s:Shared) (u:Value),BindsTo s fd ⟨[u],[]⟩ [("_law_script",u)])/\∀base:Heap,(K w.params).In base->base.Ns mainGlobals mg->bQ l.prog w (K w.params) mg base gE 16 fa fd ["_law_script"] (aHJ (K w.params) T50 T51 T45 T46)) (hN:decide ([T45,T46,T50,T51]:List Addr).Nodup=true) (hY:∀(w:World) (h:Heap),YP w h->∀t∈([T45,T46,T50,T51]:List Addr),h.get? t=some { cls:=.none,data:=.fields #[] }) (hK:∀w:World,(K w.params).lookup T45=none/\(K w.params).lookup T46=none/\(K w.params).lookup T50=none/\(K w.params).lookup T51=none) :
  PySem.W.WalkO q loose XP YP l.row.toRowW d [] (λf vs=>PySem.call f vs):=by
 refine L2.aM7 (tabs:=[(T45,dC,dE),(T46,fY,fZ),(T50,dF,dG),(T51,gR,gS)]) (n:=63) (k:=16) (x:="_law_script") (sp:=λw=>aHJ (K w.params) T50 T51 T45 T46) hn (by decide) hdf ⟨rfl,by decide,by decide⟩ (of_decide_eq_true hN) (λw h Y=>⟨hI w h Y,λt ht=>hY w h Y t.1 ?_⟩) (λw t ht=>?_) (λw mg fa h x1 x2 x3=>?_) (λ_ _ a ns hl hT hS=>?_)
 ·simp only[yF,Sd9,or_false] at ht
  rcases ht with rfl|rfl|rfl|rfl <;> simp
 ·have hk:=hK w
  simp only[yF,Sd9,or_false] at ht
  rcases ht with rfl|rfl|rfl|rfl
  ·exact hk.1
  ·exact hk.2.1
  ·exact hk.2.2.1
  ·exact hk.2.2.2
 ·obtain⟨c45,c46,c50,c51,rest⟩:=F w mg fa h x1 x2 x3
  refine⟨λt ht=>?_,rest⟩
  simp only[yF,Sd9,or_false] at ht
  rcases ht with rfl|rfl|rfl|rfl
  ·exact c45
  ·exact c46
  ·exact c50
  ·exact c51
 ·exact⟨a,ns,rfl,hS,hl,hT (T45,dC,dE) (by simp),hT (T46,fY,fZ) (by simp),hT (T50,dF,dG) (by simp),hT (T51,gR,gS) (by simp),λH' s'=>⟨rfl,s'⟩⟩
end My
open PySem PySem.W PyProof.Rows
set_option maxRecDepth 100000 in
theorem PySem.Challenge.cw_stintwise_k72_whole_bounds_never_above_holds : PySem.Challenge.rw_stintwise_k72_whole_bounds_never_above.Holds := by
 w_on;o_law;k_head;(case hw=>w_witness2)
 k_fill
 refine' My.walk (l:=PySem.Challenge.rw_stintwise_k72_whole_bounds_never_above) rfl rfl (λw h Y=>PySem.W.km_in_of Y) ?F ?hN0 ?hY0 ?hK0
 case F=>
  intro w mg fa h KX G hmg
  refine' My.all_mk KX G hmg ?aC0 ?aC1 ?aC2 ?a0 ?l0 ?c0 ?k0 ?a1 ?l1 ?c1 ?k1 ?a2 ?l2 ?c2 ?k2 ?a3 ?l3 ?c3 ?k3 ?a4 ?l4 ?c4 ?k4 ?a5 ?l5 ?c5 ?k5 ?a6 ?l6 ?c6 ?k6 ?a7 ?l7 ?c7 ?k7 ?a8 ?l8 ?c8 ?k8 ?a9 ?i9 ?l9 ?c9 ?k9 ?a10 ?l10 ?c10 ?k10 ?a11 ?l11 ?c11 ?k11 ?a12 ?i12 ?l12 ?c12 ?k12 ?a13 ?l13 ?c13 ?k13 ?a14 ?l14 ?c14 ?k14 ?a15 ?l15 ?c15 ?k15 ?a16 ?l16 ?c16 ?k16 ?a17 ?l17 ?c17 ?k17 ?a18 ?i18 ?l18 ?c18 ?k18 ?a19 ?l19 ?c19 ?k19 ?a20 ?l20 ?c20 ?k20 ?a21 ?l21 ?c21 ?k21 ?a22 ?l22 ?c22 ?k22 ?a23 ?l23 ?c23 ?k23 ?a24 ?l24 ?c24 ?k24 ?a25 ?l25 ?c25 ?k25 ?a26 ?l26 ?c26 ?k26 ?a27 ?l27 ?c27 ?k27 ?a28 ?l28 ?c28 ?k28 ?a29 ?l29 ?c29 ?k29 ?a30 ?i30 ?l30 ?c30 ?k30 ?a31 ?l31 ?c31 ?k31 ?a32 ?l32 ?c32 ?k32 ?a33 ?l33 ?c33 ?k33 ?a34 ?l34 ?c34 ?k34 ?a35 ?l35 ?c35 ?k35 ?a36 ?l36 ?c36 ?k36 ?a37 ?l37 ?c37 ?k37 ?a38 ?l38 ?c38 ?k38 ?a39 ?l39 ?c39 ?k39 ?a40 ?l40 ?c40 ?k40 ?a41 ?l41 ?c41 ?k41 ?a42 ?l42 ?c42 ?k42 ?a43 ?l43 ?c43 ?k43 ?a44 ?l44 ?c44 ?k44 ?a45 ?l45 ?c45 ?tl45 ?tv45 ?th45 ?k45 ?a46 ?l46 ?c46 ?tl46 ?tv46 ?th46 ?k46 ?a47 ?l47 ?c47 ?k47 ?a48 ?l48 ?c48 ?k48 ?a49 ?l49 ?c49 ?k49 ?a50 ?l50 ?c50 ?tl50 ?tv50 ?th50 ?k50 ?a51 ?l51 ?c51 ?tl51 ?tv51 ?th51 ?k51 ?a52 ?l52 ?c52 ?k52 ?a53 ?l53 ?c53 ?k53 ?a54 ?l54 ?c54 ?k54 ?a55 ?l55 ?c55 ?k55 ?a56 ?l56 ?c56 ?k56 ?a57 ?l57 ?c57 ?k57 ?a58 ?l58 ?c58 ?k58 ?a59 ?l59 ?c59 ?k59 ?a60 ?l60 ?c60 ?k60 ?a61 ?l61 ?c61 ?k61 ?a62 ?l62 ?c62 ?k62 ?a63 ?l63 ?c63 ?k63 ?a64 ?l64 ?c64 ?k64 ?a65 ?l65 ?c65 ?k65 ?a66 ?l66 ?c66 ?k66 ?pg0 ?hd0 ?po0 ?sa0 ?mk0 ?kc0 ?n0_up ?n0_down ?n0_begin ?n0_run ?n0_rest ?n0_least ?n0_pieces ?ia0 ?in0 ?it0 ?im0 ?pg1 ?hd1 ?po1 ?sa1 ?mk1 ?kc1 ?n1_cap ?n1_into ?n1_out ?n1_takes ?n1_gives ?ia1 ?in1 ?it1 ?im1 ?pg2 ?hd2 ?po2 ?sa2 ?mk2 ?kc2 ?n2_machines ?n2_store ?n2_lack ?ia2 ?in2 ?it2 ?im2 ?aGp ?aDx ?aCS ?d7 ?aDy ?cS ?eN ?mY ?lY ?vQ ?cM ?mZ ?rP ?aA7 ?lS ?aCg ?hZ ?eS ?iA ?eT
  (case aC0=>k_is);(case aC1=>k_is);(case aC2=>k_is);(case a0=>k_is);(case l0=>k_is);(case c0=>k_is);(case k0=>k_is);(case a1=>k_is)
  (case l1=>k_is);(case c1=>k_is);(case k1=>k_is);(case a2=>k_is);(case l2=>k_is);(case c2=>k_is);(case k2=>k_is);(case a3=>k_is)
  (case l3=>k_is);(case c3=>k_is);(case k3=>k_is);(case a4=>k_is);(case l4=>k_is);(case c4=>k_is);(case k4=>k_is);(case a5=>k_is)
  (case l5=>k_is);(case c5=>k_is);(case k5=>k_is);(case a6=>k_is);(case l6=>k_is);(case c6=>k_is);(case k6=>k_is);(case a7=>k_is)
  (case l7=>k_is);(case c7=>k_is);(case k7=>k_is);(case a8=>k_is);(case l8=>k_is);(case c8=>k_is);(case k8=>k_is);(case a9=>k_is)
  (case i9=>k_is);(case l9=>k_is);(case c9=>k_is);(case k9=>k_is);(case a10=>k_is);(case l10=>k_is);(case c10=>k_is);(case k10=>k_is)
  (case a11=>k_is);(case l11=>k_is);(case c11=>k_is);(case k11=>k_is);(case a12=>k_is);(case i12=>k_is);(case l12=>k_is);(case c12=>k_is)
  (case k12=>k_is);(case a13=>k_is);(case l13=>k_is);(case c13=>k_is);(case k13=>k_is);(case a14=>k_is);(case l14=>k_is);(case c14=>k_is)
  (case k14=>k_is);(case a15=>k_is);(case l15=>k_is);(case c15=>k_is);(case k15=>k_is);(case a16=>k_is);(case l16=>k_is);(case c16=>k_is)
  (case k16=>k_is);(case a17=>k_is);(case l17=>k_is);(case c17=>k_is);(case k17=>k_is);(case a18=>k_is);(case i18=>k_is);(case l18=>k_is)
  (case c18=>k_is);(case k18=>k_is);(case a19=>k_is);(case l19=>k_is);(case c19=>k_is);(case k19=>k_is);(case a20=>k_is);(case l20=>k_is)
  (case c20=>k_is);(case k20=>k_is);(case a21=>k_is);(case l21=>k_is);(case c21=>k_is);(case k21=>k_is);(case a22=>k_is);(case l22=>k_is)
  (case c22=>k_is);(case k22=>k_is);(case a23=>k_is);(case l23=>k_is);(case c23=>k_is);(case k23=>k_is);(case a24=>k_is);(case l24=>k_is)
  (case c24=>k_is);(case k24=>k_is);(case a25=>k_is);(case l25=>k_is);(case c25=>k_is);(case k25=>k_is);(case a26=>k_is);(case l26=>k_is)
  (case c26=>k_is);(case k26=>k_is);(case a27=>k_is);(case l27=>k_is);(case c27=>k_is);(case k27=>k_is);(case a28=>k_is);(case l28=>k_is)
  (case c28=>k_is);(case k28=>k_is);(case a29=>k_is);(case l29=>k_is);(case c29=>k_is);(case k29=>k_is);(case a30=>k_is);(case i30=>k_is)
  (case l30=>k_is);(case c30=>k_is);(case k30=>k_is);(case a31=>k_is);(case l31=>k_is);(case c31=>k_is);(case k31=>k_is);(case a32=>k_is)
  (case l32=>k_is);(case c32=>k_is);(case k32=>k_is);(case a33=>k_is);(case l33=>k_is);(case c33=>k_is);(case k33=>k_is);(case a34=>k_is)
  (case l34=>k_is);(case c34=>k_is);(case k34=>k_is);(case a35=>k_is);(case l35=>k_is);(case c35=>k_is);(case k35=>k_is);(case a36=>k_is)
  (case l36=>k_is);(case c36=>k_is);(case k36=>k_is);(case a37=>k_is);(case l37=>k_is);(case c37=>k_is);(case k37=>k_is);(case a38=>k_is)
  (case l38=>k_is);(case c38=>k_is);(case k38=>k_is);(case a39=>k_is);(case l39=>k_is);(case c39=>k_is);(case k39=>k_is);(case a40=>k_is)
  (case l40=>k_is);(case c40=>k_is);(case k40=>k_is);(case a41=>k_is);(case l41=>k_is);(case c41=>k_is);(case k41=>k_is);(case a42=>k_is)
  (case l42=>k_is);(case c42=>k_is);(case k42=>k_is);(case a43=>k_is);(case l43=>k_is);(case c43=>k_is);(case k43=>k_is);(case a44=>k_is)
  (case l44=>k_is);(case c44=>k_is);(case k44=>k_is);(case a45=>k_is);(case l45=>k_is);(case c45=>k_is);(case tl45=>k_is);(case tv45=>exact rfl)
  (case th45=>kernel_rfl);(case k45=>k_is);(case a46=>k_is);(case l46=>k_is);(case c46=>k_is);(case tl46=>k_is);(case tv46=>exact rfl);(case th46=>kernel_rfl)
  (case k46=>k_is);(case a47=>k_is);(case l47=>k_is);(case c47=>k_is);(case k47=>k_is);(case a48=>k_is);(case l48=>k_is);(case c48=>k_is)
  (case k48=>k_is);(case a49=>k_is);(case l49=>k_is);(case c49=>k_is);(case k49=>k_is);(case a50=>k_is);(case l50=>k_is);(case c50=>k_is)
  (case tl50=>k_is);(case tv50=>exact rfl);(case th50=>kernel_rfl);(case k50=>k_is);(case a51=>k_is);(case l51=>k_is);(case c51=>k_is);(case tl51=>k_is)
  (case tv51=>exact rfl);(case th51=>kernel_rfl);(case k51=>k_is);(case a52=>k_is);(case l52=>k_is);(case c52=>k_is);(case k52=>k_is);(case a53=>k_is)
  (case l53=>k_is);(case c53=>k_is);(case k53=>k_is);(case a54=>k_is);(case l54=>k_is);(case c54=>k_is);(case k54=>k_is);(case a55=>k_is)
  (case l55=>k_is);(case c55=>k_is);(case k55=>k_is);(case a56=>k_is);(case l56=>k_is);(case c56=>k_is);(case k56=>k_is);(case a57=>k_is)
  (case l57=>k_is);(case c57=>k_is);(case k57=>k_is);(case a58=>k_is);(case l58=>k_is);(case c58=>k_is);(case k58=>k_is);(case a59=>k_is)
  (case l59=>k_is);(case c59=>k_is);(case k59=>k_is);(case a60=>k_is);(case l60=>k_is);(case c60=>k_is);(case k60=>k_is);(case a61=>k_is)
  (case l61=>k_is);(case c61=>k_is);(case k61=>k_is);(case a62=>k_is);(case l62=>k_is);(case c62=>k_is);(case k62=>k_is);(case a63=>k_is)
  (case l63=>k_is);(case c63=>k_is);(case k63=>k_is);(case a64=>k_is);(case l64=>k_is);(case c64=>k_is);(case k64=>k_is);(case a65=>k_is)
  (case l65=>k_is);(case c65=>k_is);(case k65=>k_is);(case a66=>k_is);(case l66=>k_is);(case c66=>k_is);(case k66=>k_is);(case pg0=>k_is)
  (case hd0=>k_is);(case po0=>k_is);(case sa0=>k_is);(case mk0=>k_is);(case kc0=>k_is);(case n0_up=>k_is);(case n0_down=>k_is);(case n0_begin=>k_is)
  (case n0_run=>k_is);(case n0_rest=>k_is);(case n0_least=>k_is);(case n0_pieces=>k_is);(case ia0=>k_is);(case in0=>k_is);(case it0=>k_is);(case im0=>k_is)
  (case pg1=>k_is);(case hd1=>k_is);(case po1=>k_is);(case sa1=>k_is);(case mk1=>k_is);(case kc1=>k_is);(case n1_cap=>k_is);(case n1_into=>k_is)
  (case n1_out=>k_is);(case n1_takes=>k_is);(case n1_gives=>k_is);(case ia1=>k_is);(case in1=>k_is);(case it1=>k_is);(case im1=>k_is);(case pg2=>k_is)
  (case hd2=>k_is);(case po2=>k_is);(case sa2=>k_is);(case mk2=>k_is);(case kc2=>k_is);(case n2_machines=>k_is);(case n2_store=>k_is);(case n2_lack=>k_is)
  (case ia2=>k_is);(case in2=>k_is);(case it2=>k_is);(case im2=>k_is);(case aGp=>k_is);(case aDx=>k_is);(case aCS=>k_is);(case d7=>k_is)
  (case aDy=>k_is);(case cS=>k_is);(case eN=>k_is);(case mY=>k_is);(case lY=>k_is);(case vQ=>k_is);(case cM=>k_is);(case mZ=>k_is)
  (case rP=>k_is);(case aA7=>k_is);(case lS=>k_is);(case aCg=>k_is);(case hZ=>k_is);(case eS=>k_is);(case iA=>k_is);(case eT=>k_is)
 case hN0=>exact rfl
 case hY0=>exact λw h Y t ht=>PySem.W.km_tabs_of Y t (by revert t;decide)
 case hK0=>intro w;exact⟨by kernel_rfl,by kernel_rfl,by kernel_rfl,by kernel_rfl⟩
