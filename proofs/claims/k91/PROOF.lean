import PyProof.Rows.All
import Wide.All
import OpenK.AllK
import Wide.FinOn
import Lean
import PyProof.EqAt
import PyProof.EqKinds
import PyProof.NeKinds
import PyProof.TupleCall
import KE.KDictSum
import PySem.Challenge.RW_stintwise_k91_wants_that_wait
set_option Elab.async false
set_option linter.all false
set_option maxRecDepth 100000
namespace PySem.W.Fast
def tw17993476248617429351:=()
def tw5939385154876003961:=()
def tw1655904313768241213:=()
def tw166339293670035642:=()
def tw2655831484562109707:=()
def tw9828902862246396578:=()
def tw15344283602236897588:=()
def tw17848324345749477033:=()
def tw18018259841475212539:=()
def tw7789248488068966162:=()
def tw13980784150981695422:=()
def tw15244338813130400182:=()
def tw13576596214368315000:=()
def tw3652469228847566619:=()
def tw5380679382314033849:=()
def tw12941875772995965869:=()
def tw14982146016833784558:=()
def tw1155032396742325702:=()
def tw5452741428652833511:=()
def tw8348026239356377601:=()
def tw12522010791295050212:=()
def tw7117341828094143996:=()
def tw3287119322569751788:=()
def tw5092221015953468186:=()
def tw15615209929345340835:=()
def tw12553083144564300391:=()
def tw4226256782656112689:=()
def tw1817816644384373569:=()
def tw670827120226684897:=()
def tw15301753069880781516:=()
def tw15546686266813198517:=()
def tw4373135743086547462:=()
def tw13804165429713791735:=()
def tw7665346705797735780:=()
def tw4838147691075699211:=()
def tw1625141560320647444:=()
def tw15997787345497715121:=()
def tw8847001263924281240:=()
def tw16615334538481671103:=()
def tw15552471000093816290:=()
def tw3739701953425554644:=()
def tw2215843473829227911:=()
def tw17611775238058050596:=()
def tw12810178446534339959:=()
def tw5776871567970157116:=()
def tw13075833581671418543:=()
def tw5414516951020800158:=()
def tw232124005340074052:=()
def tw9595297074926533072:=()
def tw10799753819220935358:=()
def tw5782026518428320079:=()
def tw5099440576355943674:=()
def tw17715133377948390786:=()
def tw2617828682068195343:=()
def tw2587392971782825277:=()
def tw3160324498278611507:=()
def tw854901993557470948:=()
def tw10182102687982148071:=()
def tw7639730224097982354:=()
def tw7003569292635689064:=()
def tw449398485767755874:=()
def tw9726403003404134272:=()
def tw11758164713825776912:=()
def tw12293783459259674054:=()
def tw9258508596113068647:=()
def tw6687015763347512636:=()
def tw12682272143091973264:=()
def tw6267937534346292304:=()
def tw16300167831145762874:=()
def tw2983590145799694696:=()
def tw7863790041346528450:=()
def tw6017039652252815364:=()
def tw3076041548001773071:=()
def tw9089959628419593680:=()
def tw15381781579588779076:=()
def tw15382123363288528041:=()
def tw5017147179671377716:=()
def tw14180939432041218082:=()
def tw4477772475971566251:=()
def tw12594131725235146642:=()
def tw2105177905704088620:=()
def tw8053268408405321029:=()
def tw8422951653234070513:=()
def tw6492243588343503459:=()
def tw5133907525351115126:=()
def tw412368493366997596:=()
def tw14348516086127595353:=()
def tw13758201229999206896:=()
def tw1211335657067650931:=()
def tw5384230098397961798:=()
def tw9317801108427486847:=()
def tw17337606645744523117:=()
def tw6125077034393045216:=()
def tw17534837221295543466:=()
def tw5443433291805293734:=()
def tw214933875225177807:=()
def tw2573128587080275748:=()
def tw14440003853661316179:=()
def tw16434856153834867490:=()
def tw17979039132995232995:=()
def tw12355773211007787083:=()
def tw4281275274361847723:=()
def tw16960728673613209837:=()
def tw12175505507230505798:=()
def tw14227134898803171683:=()
def tw10968576486742002025:=()
def tw5813901700094411783:=()
def tw7428948595594333417:=()
def tw11694855304406578458:=()
def tw16455101535659151804:=()
def tw15974896539543845274:=()
def tw12537529466722162708:=()
def tw2448666444351260349:=()
def tw2283674225565962053:=()
def tw10957807254333727041:=()
def tw13596509327857571795:=()
def tw13272696045819810499:=()
def tw2138171181135126748:=()
def tw5296957227831637062:=()
def tw1734340866634122712:=()
def tw17890685906337633013:=()
def tw4529906000073356815:=()
def tw11519671429226519228:=()
def tw14671813694865876278:=()
def tw3517100405850524884:=()
def tw6462011489633127490:=()
def tw8274168906653810766:=()
def tw9170029171319954261:=()
def tw15631556310326985233:=()
def tw12802337724972602572:=()
def tw13225256246757366440:=()
def tw10580982647911619339:=()
def tw3519556753609672044:=()
def tw3929676738436646240:=()
def tw16674587799377041947:=()
def tw6392090140931906104:=()
def tw8842399425630402196:=()
def tw14515905198375011938:=()
def tw11663525197416371053:=()
def tw17843490586427111951:=()
def tw9401942965640101459:=()
def tw18201869298280756532:=()
def tw7512196857335194280:=()
def tw5193869459108586300:=()
def tw2047216317643225475:=()
def tw12436516862957449489:=()
def tw1903140297059685743:=()
def tw17416370434901364856:=()
def tw7692679135718733211:=()
def tw11849966538115560235:=()
def tw16772926151964929609:=()
def tw639658850185322969:=()
def tw650028828439327893:=()
def tw15932784028267926146:=()
def tw9179267979843305316:=()
def tw14702743902427915732:=()
def tw12357166981242908067:=()
def tw12310862864868171339:=()
def tw7234273137842731189:=()
def tw15463259309595775260:=()
def tw10911439934443962245:=()
def tw10403638235826916190:=()
def tw11205329755230335785:=()
def tw8371789214887157700:=()
def tw8865589985273241591:=()
def tw4438801399126801630:=()
def tw4123450047618385253:=()
def tw8433448881242307904:=()
def tw17464237799739681561:=()
def tw8678043304384346196:=()
def tw4492406296127845754:=()
def tw15895552750133253604:=()
def tw1295204178634510908:=()
def tw106991787712395607:=()
def tw17386474669549448561:=()
def tw16571367584252693703:=()
def tw6983092822170403396:=()
def tw9823779020361415410:=()
def tw8778059180407258980:=()
def tw18013235807560707575:=()
def tw7521934971098258005:=()
def tw17630157365464565048:=()
def tw9578231952038898304:=()
def tw18150506536868849794:=()
def tw12388288981426744515:=()
def tw5523091648680089715:=()
def tw3767743424499454344:=()
def tw16058032166583759813:=()
def tw11371379743090193368:=()
def tw15092379209589232579:=()
def tw2896529897439695909:=()
def tw3718214097363046595:=()
def tw723402489492626333:=()
def tw3905028417298979648:=()
def tw6290527698005235982:=()
def tw18267420342428739872:=()
def tw10127571317812309148:=()
def tw16292199518083234041:=()
def tw15916295468912566427:=()
def tw7342195790387919162:=()
def tw1661898470597794807:=()
def tw2884190635517172204:=()
def tw909919076749000735:=()
def tw5672168225304143440:=()
def tw12544648532419950643:=()
def tw9337374136202136220:=()
def tw17022498192748423112:=()
def tw11341555965418637273:=()
def tw5941016402415289430:=()
def tw1078178206639431218:=()
def tw8426057195424658225:=()
def tw4921799944598563551:=()
def tw8038517215926265197:=()
def tw12679108464380353434:=()
def tw16671353546065768010:=()
def tw7949264840513539410:=()
def tw13273599733436838173:=()
def tw17222419932692533944:=()
def tw5913854410468622613:=()
def tw10550052703372138581:=()
def tw5830521932501552240:=()
def tw4017954830308304839:=()
def tw14711348412165396383:=()
def tw10908920918718303753:=()
def tw1910479282559837562:=()
def tw16692689533478656174:=()
def tw9804677070368351471:=()
def tw17807763449202620885:=()
def tw15054200900154123621:=()
def tw2257218240075791798:=()
def tw11839939764420346851:=()
def tw4916708059477666813:=()
def tw13735166545597413578:=()
def tw15634387794079491227:=()
def tw3826793461411766469:=()
def tw1195614036554168277:=()
def tw12594667808526267364:=()
def tw15306410335880943838:=()
def tw415239943403947988:=()
def tw18268385704421889549:=()
def tw1031468588942532886:=()
def tw7804004633905721408:=()
def tw16345809591357920348:=()
def tw10631866114933596293:=()
def tw15681413088143713894:=()
def tw11538045604070259775:=()
def tw15567464908649945808:=()
def tw3797730473618145865:=()
def tw5272610330715513298:=()
def tw3984475073935129899:=()
def tw10874474309221650739:=()
def tw16653325005005552496:=()
def tw8424738790899471747:=()
def tw14649305217199359888:=()
def tw4342715556880542267:=()
def tw3037469867647400336:=()
def tw700527334775006100:=()
def tw16170798874329824918:=()
def tw3209855719584217576:=()
def tw7627399860523392667:=()
def tw15963354424990320506:=()
def tw16128555366462283700:=()
def tw8556745372290485828:=()
def tw8530980366096183543:=()
def tw3129432088116998767:=()
def tw16284345416253599466:=()
def tw15171204688064039671:=()
def tw11250201598688151622:=()
def tw4336762943652291105:=()
def tw138313986059374648:=()
def tw14858121207119517358:=()
def tw5506811983181120149:=()
def tw7075164275036795067:=()
def tw6970134435114169988:=()
def tw16472663949810884386:=()
def tw10824289079150380243:=()
def tw6413735505673318504:=()
def tw11664761156490758149:=()
def tw5291536014823833650:=()
def tw18396247091314148531:=()
def tw6718658343522428479:=()
def tw3872920352838724989:=()
def tw5942397022829833654:=()
def tw4838541246594731920:=()
def tw14970585076154227686:=()
def tw17688457672558580747:=()
def tw3932441821849895851:=()
def tw13695443231649124495:=()
def tw8733620309228946240:=()
def tw209216301069834909:=()
def tw15152238593687426263:=()
def tw9346281875363663978:=()
def tw10489986025945177611:=()
def tw5877593465969516889:=()
def tw10835518236414756090:=()
def tw14801437616963430668:=()
def tw2824407335975537925:=()
def tw2423179126149130800:=()
def tw15836996562191946769:=()
def tw10508954579777236600:=()
def tw4433477010768602445:=()
def tw1366315847508279970:=()
def tw878669119616592605:=()
def tw15393995271174391071:=()
def tw2328386332521603187:=()
def tw4633582263606974802:=()
def tw2800102370378972942:=()
def tw18336026955871911278:=()
def tw14207730664996824878:=()
def tw12003948759546228092:=()
def tw10915792013356785163:=()
def tw15321054008433019801:=()
def tw8836463316423493578:=()
def tw2890992610264570791:=()
def tw11124940850681317517:=()
def tw11037753970953882579:=()
def tw10479779120222744614:=()
def tw5132495465751652139:=()
def tw16165919251205444881:=()
def tw1021142831351596642:=()
def tw9745790340582268725:=()
def tw2619350007893479620:=()
def tw15769534060150664037:=()
def tw13804098361971492328:=()
def tw11555326747438035972:=()
def tw16967864575928570621:=()
def tw5866940064364211990:=()
def tw1686853861908159689:=()
def tw9567128313815257307:=()
def tw4131564212163724771:=()
def tw10296676033171067684:=()
def tw200246283961270894:=()
def tw16251842808447801183:=()
def tw12894488162967566163:=()
def tw11434067780802317633:=()
def tw3413927661673495481:=()
def tw8742714545737176910:=()
def tw4559767758414431810:=()
def tw9444144325427144146:=()
def tw18078723305949694227:=()
def tw2143497836049206238:=()
def tw7064334754427356713:=()
def tw13809532945152947339:=()
def tw16852720221414747359:=()
def tw15918173539772935355:=()
def tw11897146607216596976:=()
def tw348078296458277291:=()
def tw3523217407775408315:=()
def tw214184130920765957:=()
def tw8027551716669290617:=()
def tw8258522346938732659:=()
def tw5877664992816477498:=()
def tw4201471392616480379:=()
def tw9100130278679909399:=()
def tw2909147820488365870:=()
def tw15417374285926176504:=()
def tw14991536794286035785:=()
def tw12481977974623590826:=()
def tw11694498499658045622:=()
def tw10447333580943687093:=()
def tw276101278989546035:=()
def tw13791336116810175066:=()
def tw868495714251165223:=()
def tw8280649558691162815:=()
def tw9774929184853571664:=()
def tw8017500854980602345:=()
def tw12615873200317906850:=()
def tw12038601814950833493:=()
def tw9938820843641114407:=()
def tw4505192383171836065:=()
def tw13871984058226994306:=()
def tw8996580161054016093:=()
def tw14666819155485192667:=()
def tw14231278217137766936:=()
def tw10044558029207544170:=()
def tw6333344949984848157:=()
def tw2329077612940004945:=()
def tw18129798091301863454:=()
def tw15064871639452351810:=()
def tw12610588867343230767:=()
def tw910569309671415617:=()
def tw7315364563419148607:=()
def tw616914483202468673:=()
def tw3404056103952162841:=()
def tw13790473060376229325:=()
def tw15833764514998522962:=()
def tw15223507703114648187:=()
def tw13343420999172216107:=()
def tw12941285221966784784:=()
def tw5608398091155363478:=()
def tw4400856664587630752:=()
def tw3556574560554613721:=()
def tw3037631431833206400:=()
def tw16754269096490883858:=()
def tw14456691253929480506:=()
def tw13683605461611548620:=()
def tw814552876480176297:=()
def tw6798040394126101556:=()
def tw18325459854588143660:=()
def tw7870857316769908834:=()
def tw5065807806200186697:=()
def tw13380858442131182436:=()
def tw4547493215912377514:=()
def tw2200754155975525807:=()
def tw18187930618412601241:=()
def tw3121292070037962554:=()
def tw18407483625520811062:=()
def tw14287123176273898744:=()
def tw642996723782212395:=()
def tw11490693107920859583:=()
def tw5658486546882431508:=()
def tw3477749402871428953:=()
def tw16719621452416027147:=()
def tw9021569976699530852:=()
def tw5907063726946200647:=()
def tw15898116230220148408:=()
def tw8748572042867186748:=()
def tw5090802713552619825:=()
def tw14958090102792771400:=()
def tw8725040201872814214:=()
def tw468595695503898817:=()
def tw5210327518289986451:=()
def tw3678839436941253381:=()
def tw17972894267029474734:=()
def tw17632873233183399046:=()
def tw5735732150148321098:=()
def tw10824915865342160449:=()
def tw646198022740335914:=()
def tw6159296675973074884:=()
def tw15156068845934821031:=()
def tw1197913626397609813:=()
def tw457103128903915845:=()
def tw3572291508237303369:=()
def tw12439875445787173402:=()
def tw8748892152771894092:=()
def tw8269298696833369421:=()
def tw1455626330664608951:=()
def tw13261813248067758681:=()
def tw1077522783259851192:=()
def tw17178004530429556118:=()
def tw5652533443060203429:=()
def tw5110563107473549085:=()
def tw11672306291876238272:=()
def tw2223195352983347021:=()
def tw13773162151150786441:=()
def tw694409833360417427:=()
def tw15195106717007945831:=()
def tw5530800274918892425:=()
def tw11220630360352230113:=()
def tw11876050063605883328:=()
def tw16449459847397868038:=()
def tw6478399071603047378:=()
def tw5718425338135075803:=()
def tw4049492383939335207:=()
def tw1246769826310449199:=()
def tw10921795129361475858:=()
def tw10892472622624084911:=()
def tw2425712695507685318:=()
def tw16976485065638693760:=()
def tw2852893851303294657:=()
def tw41644065668086417:=()
def tw8776595616041702987:=()
def tw8698890253300132746:=()
end PySem.W.Fast
namespace L2
open PySem PySem.Spec PyProof.Rows
abbrev Key := Sum Int Str
def keyIs : Key → Value → Bool
  | .inl k, v => Value.isInt k v
  | .inr x, v => Value.isStrOf x v
def keyH (w : World) : Key → Int
  | .inl k => hashInt k
  | .inr x => hashStr w x
theorem keyIs_shape : ∀ {k : Key} {v : Value}, keyIs k v = true → (∃ i t, k = Sum.inl i ∧ v = Value.int i t) ∨ (∃ x t, k = Sum.inr x ∧ v = Value.str x t)
  | .inl i, v, h => by
    obtain ⟨t, e⟩ := Value.isInt_shape (k := i) (v := v) h
    exact .inl ⟨i, t, rfl, e⟩
  | .inr x, v, h => by
    obtain ⟨t, e⟩ := Value.isStrOf_shape (x := x) (v := v) h
    exact .inr ⟨x, t, rfl, e⟩
theorem key_ll (a b : Int) : decide ((Sum.inl a : Key) = Sum.inl b) = (a == b) := by
  by_cases e : a = b
  · subst e; simp
  · have h : ¬ (Sum.inl a : Key) = Sum.inl b := fun q => e (Sum.inl.inj q)
    rw [decide_eq_false h]
    exact (beq_eq_false_iff_ne.mpr e).symm
theorem key_rr (a b : Str) : decide ((Sum.inr a : Key) = Sum.inr b) = decide (a = b) := by
  by_cases e : a = b
  · subst e; simp
  · have h : ¬ (Sum.inr a : Key) = Sum.inr b := fun q => e (Sum.inr.inj q)
    rw [decide_eq_false h, decide_eq_false e]
theorem key_lr (a : Int) (b : Str) : decide ((Sum.inl a : Key) = Sum.inr b) = false := decide_eq_false (fun q => nomatch q)
theorem key_rl (a : Str) (b : Int) : decide ((Sum.inr a : Key) = Sum.inl b) = false := decide_eq_false (fun q => nomatch q)
def mixKind (prog : Program) (w : World) : PySem.KeyKind prog w Key where
  is := keyIs
  hash := keyH w
  inj := fun v a b ha hb => by
    rcases keyIs_shape ha with ⟨i, t, rfl, rfl⟩ | ⟨x, t, rfl, rfl⟩
    · rcases keyIs_shape hb with ⟨j, u, rfl, e⟩ | ⟨y, u, rfl, e⟩
      · injection e with e1 _; rw [e1]
      · exact nomatch e
    · rcases keyIs_shape hb with ⟨j, u, rfl, e⟩ | ⟨y, u, rfl, e⟩
      · exact nomatch e
      · injection e with e1 _; rw [e1]
  byValue := fun k v h => by
    rcases keyIs_shape h with ⟨i, t, rfl, rfl⟩ | ⟨x, t, rfl, rfl⟩ <;> rfl
  pyHash := fun hv h => by
    rcases keyIs_shape hv with ⟨i, t, rfl, rfl⟩ | ⟨x, t, rfl, rfl⟩
    · exact wpAny_pyHash_int h
    · exact wpAny_pyHash_str h
  eqBool := fun hu hv h => by
    rcases keyIs_shape hu with ⟨i, t, rfl, rfl⟩ | ⟨x, t, rfl, rfl⟩
    · rcases keyIs_shape hv with ⟨j, u, rfl, rfl⟩ | ⟨y, u, rfl, rfl⟩
      · rw [key_ll] at h; exact wpAny_eqBool_int h
      · rw [key_lr] at h; exact SeqAt.EqAt.int_str i t y u _ _ _ _ h
    · rcases keyIs_shape hv with ⟨j, u, rfl, rfl⟩ | ⟨y, u, rfl, rfl⟩
      · rw [key_rl] at h; exact SeqAt.EqAt.str_int x t j u _ _ _ _ h
      · rw [key_rr] at h; exact wpAny_eqBool_str h
  «strs» := fun k x t v h => by
    rcases keyIs_shape h with ⟨i, u, rfl, e⟩ | ⟨y, u, rfl, e⟩
    · exact nomatch e
    · injection e with e1 _
      subst e1
      cases v <;> rfl
end L2
namespace L2
open PySem PySem.Spec PyProof.Rows
inductive V where
  | non | bl (b : Bool) | int (i : Int) | str (x : Str) | byt (b : Array UInt8) | flt (b : UInt64) | ref (a : Addr) | ty (n : String)
  deriving DecidableEq
def RelV : V → Value → Prop
  | .non, u => u = Value.none
  | .bl b, u => u = Value.bool b
  | .int i, u => ∃ t, u = Value.int i t
  | .str x, u => ∃ t, u = Value.str x t
  | .byt b, u => ∃ t, u = Value.bytes b t
  | .flt b, u => ∃ t, u = Value.float b t
  | .ref a, u => u = Value.ref a
  | .ty n, u => u = Value.type n
abbrev Vals : List V → List Value → Prop := Paired RelV
theorem Vals.length {xs : List V} {us : List Value} (r : Vals xs us) : xs.length = us.length := Paired.length r
theorem Vals.get : ∀ {xs : List V} {us : List Value} {i : Nat} {x : V}, Vals xs us → xs[i]? = some x → ∃ u, us[i]? = some u ∧ RelV x u
  | _, _, _, _, .nil, e => by simp at e
  | _, _, 0, _, .cons r _, e => by simp at e; subst e; exact ⟨_, rfl, r⟩
  | _, _, i + 1, x, .cons _ t, e => by
    obtain ⟨u, h1, h2⟩ := Vals.get (i := i) (x := x) t (by simpa using e)
    exact ⟨u, by simpa using h1, h2⟩
theorem Vals.set {x : V} {u : Value} (r : RelV x u) : ∀ {xs : List V} {us : List Value} (i : Nat), Vals xs us → Vals (xs.set i x) (us.set i u)
  | _, _, _, .nil => .nil
  | _, _, 0, .cons _ t => .cons r t
  | _, _, i + 1, .cons q t => .cons q (Vals.set r i t)
theorem Vals.append : ∀ {xs ys : List V} {us ws : List Value}, Vals xs us → Vals ys ws → Vals (xs ++ ys) (us ++ ws)
  | _, _, _, _, .nil, s => s
  | _, _, _, _, .cons r t, s => .cons r (Vals.append t s)
theorem Vals.take : ∀ {xs : List V} {us : List Value} (n : Nat), Vals xs us → Vals (xs.take n) (us.take n)
  | _, _, 0, _ => .nil
  | _, _, _ + 1, .nil => .nil
  | _, _, n + 1, .cons r t => .cons r (Vals.take n t)
theorem Vals.drop : ∀ {xs : List V} {us : List Value} (n : Nat), Vals xs us → Vals (xs.drop n) (us.drop n)
  | _, _, 0, r => r
  | _, _, _ + 1, .nil => .nil
  | _, _, n + 1, .cons _ t => Vals.drop n t
theorem Vals.none_of : ∀ {xs : List V} {us : List Value} {i : Nat}, Vals xs us → xs[i]? = none → us[i]? = none := fun {xs us i} r e => by
  have h1 := r.length
  have h2 : xs.length ≤ i := List.getElem?_eq_none_iff.mp e
  exact List.getElem?_eq_none_iff.mpr (by omega)
def RelO : Option V → Option Value → Prop
  | some v, some u => RelV v u
  | none, none => True
  | _, _ => False
def KV {κ : Type} : List (κ × V) → List (κ × Value) → Prop := Paired fun (p : κ × V) (q : κ × Value) => p.1 = q.1 ∧ RelV p.2 q.2
def kV : Key → V
  | .inl i => .int i
  | .inr x => .str x
inductive HO where
  /-- a list -/
  | lst (xs : List V)
  /-- a tuple (never changes) -/
  | tup (xs : List V)
  /-- a dict whose keys are ints and texts; one whose keys are tuples of ints and texts (the empty one is both) -/
  | dK (kvs : List (Key × V)) | dT (kvs : List (List Key × V))
  /-- a set of ints: its members, its size -/
  | set (S : Int → Bool) (n : Nat)
  /-- an instance of the class at C, its dict at dx, its attributes -/
  | ins (C dx : Addr) (fs : List (Str × V))
  /-- the dict of the instance at x -/
  | own (x : Addr)
  /-- the dict of an exception -/
  | xd (fs : List (Str × V))
  /-- a bound method, f of x -/
  | met (f x : Addr)
  /-- a range object lo, lo + 1, .. below hi -/
  | rng (lo hi : Int)
  /-- a thing that is known to the object (the script; a dict while a loop walks it): read, never written while it is so -/
  | frz (o : Obj) (u : HO)
  /-- a code object's table -/
  | tbl (ps : Array Value)
  /-- any other thing, by what is true of its one object (a def of one's own: SetO a S n := HO.ext fun h => ..) -/
  | ext (φ : Heap → Prop)
  /-- a code object of that name; a def's table of code objects: at pos none yet, or one of that name -/
  | cod (q : Str) | ctb (pos : Pos) (q : Str)
def Sty : HO → Prop
  | .tup _ => True
  | .cod _ => True
  | _ => False
abbrev Hp := Addr → Option HO
def upd (H : Hp) (a : Addr) (o : HO) : Hp := fun b => if b = a then some o else H b
theorem upd_same {H : Hp} {a : Addr} {o : HO} : upd H a o a = some o := by unfold upd; rw [if_pos rfl]
theorem upd_ne {H : Hp} {a b : Addr} {o : HO} (h : b ≠ a) : upd H a o b = H b := by unfold upd; rw [if_neg h]
theorem upd_upd {H : Hp} {a : Addr} {o u : HO} : upd (upd H a o) a u = upd H a u := by
  funext b; unfold upd; split <;> rfl
theorem ne_of_none {H : Hp} {a b : Addr} {o : HO} (h : H a = some o) (h' : H b = none) : a ≠ b := by
  intro e; subst e; rw [h] at h'; cases h'
section
variable (P : Program) (w : World)
def ObjOk (H : Hp) (h : Heap) (a : Addr) : HO → Prop
  | .lst xs => xs.length ≤ sizeLine ∧ ∃ (its : List Value) (n : Nat), Vals xs its ∧ h.get? a = some { cls := .type "list", data := .seq its.toArray n }
  | .tup xs => xs.length ≤ sizeLine ∧ ∃ its : List Value, Vals xs its ∧ IsTup h a its.toArray
  | .dK kvs => kvs.length ≤ sizeLine ∧ (a == sysModules) = false ∧ ∃ vs, KV kvs vs ∧ h.DictOf (mixKind P w) a vs
  | .dT kvs => kvs.length ≤ sizeLine ∧ (a == sysModules) = false ∧ ∃ xs : List (List Key × Addr × Value),
      Paired (fun (p : List Key × V) (q : List Key × Addr × Value) => p.1 = q.1 ∧ H q.2.1 = some (.tup (p.1.map kV)) ∧ RelV p.2 q.2.2) kvs xs ∧
      ∃ o es ep, h.get? a = some o ∧ o.ExactDict ∧ o.data = .dict es ep ∧ es.toList = xs.map (entryOfKey (tupleKind (mixKind P w))) ∧ (xs.map (·.1)).Nodup
  | .set S n => h.SetOf (intKind P w) a S n
  | .ins C dx fs => H dx = some (.own a) ∧ fs.length ≤ 1000 ∧ dx ≠ a ∧ h.get? a = some (PySem.W.instObj C dx) ∧
      ∃ mA, h.Ns1 dx mA ∧ (∀ f, RelO (fs.lookup f) (mA f)) ∧ PySem.Within mA (fs.map (·.1))
  | .own _ => ∃ o, h.get? a = some o
  | .xd fs => ∃ mA, h.Ns1 a mA ∧ ∀ f, RelO (fs.lookup f) (mA f)
  | .rng lo hi => ∃ t u v, h.get? a = some { cls := .type "range", data := .fields #[.int lo t, .int hi u, .int 1 v] }
  | .frz o u => h.get? a = some o ∧ ObjOk H h a u
  | .tbl ps => h.get? a = some { cls := .none, data := .fields ps }
  | .met f x => h.get? a = some (PySem.W.methodObj (.ref f) (.ref x))
  | .ext φ => φ h ∧ (∃ o, h.get? a = some o) ∧ ∀ h1 h2 : Heap, φ h1 → (∀ o, h1.get? a = some o → h2.get? a = some o) → φ h2
  | .cod q => ∃ o vs t, h.get? a = some o ∧ o.data = .fields vs ∧ vs[1]? = some (.str q t)
  | .ctb pos q => ∃ ps : Array Value, h.get? a = some { cls := .none, data := .fields ps } ∧ TriplesOk ps.toList ∧ (codeAmong pos ps.toList = none ∨ ∃ c, codeAmong pos ps.toList = some (.ref c) ∧ H c = some (.cod q))
def HOk (H : Hp) (h : Heap) : Prop := ∀ a o, H a = some o → ObjOk P w H h a o
end
section
variable {P : Program} {w : World} {H H' : Hp} {h h' : Heap} {a : Addr} {o : HO}
theorem ObjOk.lt (x : ObjOk P w H h a o) : a < h.objs.size := by
  cases o with
  | lst xs => obtain ⟨_, _, _, _, e⟩ := x; exact Heap.lt_size e
  | tup xs => obtain ⟨_, _, _, p⟩ := x; exact p.lt
  | dK kvs => obtain ⟨_, _, _, _, o, _, _, e, _⟩ := x; exact Heap.lt_size e
  | dT kvs => obtain ⟨_, _, _, _, o, _, _, e, _⟩ := x; exact Heap.lt_size e
  | set S n => obtain ⟨o, _, _, _, e, _⟩ := x; exact Heap.lt_size e
  | ins C dx fs => obtain ⟨_, _, _, e, _⟩ := x; exact Heap.lt_size e
  | own y => obtain ⟨_, e⟩ := x; exact Heap.lt_size e
  | xd fs => obtain ⟨_, ⟨_, _, _, e, _⟩, _⟩ := x; exact Heap.lt_size e
  | rng lo hi => obtain ⟨_, _, _, e⟩ := x; exact Heap.lt_size e
  | frz ob u => obtain ⟨e, _⟩ := x; exact Heap.lt_size e
  | tbl ps => exact Heap.lt_size (show h.get? a = some _ from x)
  | met f y => exact Heap.lt_size (show h.get? a = some _ from x)
  | ext φ => obtain ⟨_, ⟨_, e⟩, _⟩ := x; exact Heap.lt_size e
  | cod q => obtain ⟨_, _, _, e, _⟩ := x; exact Heap.lt_size e
  | ctb pos q => obtain ⟨_, e, _⟩ := x; exact Heap.lt_size e
theorem Paired.mapP {α β : Type} {F G : α → β → Prop} : ∀ {l₁ : List α} {l₂ : List β}, Paired F l₁ l₂ → (∀ a b, F a b → G a b) → Paired G l₁ l₂
  | _, _, .nil, _ => .nil
  | _, _, .cons r t, f => .cons (f _ _ r) (Paired.mapP t f)
theorem ObjOk.stay (x : ObjOk P w H h a o) (k : ∀ b u, (b = a ∨ H b = some (.own a)) → h.get? b = some u → h'.get? b = some u)
    (ho : ∀ b, H b = some (.own a) → H' b = some (.own a)) (ht : ∀ b u, Sty u → H b = some u → H' b = some u) : ObjOk P w H' h' a o := by
  induction o with
  | lst xs => obtain ⟨z, its, n, r, e⟩ := x; exact ⟨z, its, n, r, k _ _ (.inl rfl) e⟩
  | tup xs => obtain ⟨z, its, r, ob, e, c⟩ := x; exact ⟨z, its, r, ob, k _ _ (.inl rfl) e, c⟩
  | dK kvs => obtain ⟨z, y, vs, r, ob, es, ep, e, c⟩ := x; exact ⟨z, y, vs, r, ob, es, ep, k _ _ (.inl rfl) e, c⟩
  | dT kvs =>
    obtain ⟨z, y, xs, r, ob, es, ep, e, c⟩ := x
    exact ⟨z, y, xs, Paired.mapP r fun p q z => ⟨z.1, ht _ _ trivial z.2.1, z.2.2⟩, ob, es, ep, k _ _ (.inl rfl) e, c⟩
  | set S n => obtain ⟨ob, es, ep, t, e, c⟩ := x; exact ⟨ob, es, ep, t, k _ _ (.inl rfl) e, c⟩
  | ins C dx fs =>
    obtain ⟨d, z, ne, e, mA, ⟨od, es, ep, e2, c⟩, r⟩ := x
    exact ⟨ho _ d, z, ne, k _ _ (.inl rfl) e, mA, ⟨od, es, ep, k _ _ (.inr d) e2, c⟩, r⟩
  | own y => obtain ⟨ob, e⟩ := x; exact ⟨ob, k _ _ (.inl rfl) e⟩
  | xd fs => obtain ⟨mA, ⟨od, es, ep, e, c⟩, r⟩ := x; exact ⟨mA, ⟨od, es, ep, k _ _ (.inl rfl) e, c⟩, r⟩
  | rng lo hi => obtain ⟨t, u, v, e⟩ := x; exact ⟨t, u, v, k _ _ (.inl rfl) e⟩
  | frz ob u ih => obtain ⟨e, q⟩ := x; exact ⟨k _ _ (.inl rfl) e, ih q⟩
  | tbl ps =>
    have e : h.get? a = some { cls := .none, data := .fields ps } := x
    show h'.get? a = some { cls := .none, data := .fields ps }
    exact k a _ (.inl rfl) e
  | met f y =>
    have e : h.get? a = some (PySem.W.methodObj (.ref f) (.ref y)) := x
    show h'.get? a = some (PySem.W.methodObj (.ref f) (.ref y))
    exact k a _ (.inl rfl) e
  | ext φ => obtain ⟨p, ⟨o, e⟩, st⟩ := x; exact ⟨st _ _ p fun o q => k _ _ (.inl rfl) q, ⟨o, k _ _ (.inl rfl) e⟩, st⟩
  | cod q => obtain ⟨o, vs, t, e, r⟩ := x; exact ⟨o, vs, t, k _ _ (.inl rfl) e, r⟩
  | ctb pos q =>
    obtain ⟨ps, e, t, c⟩ := x
    refine ⟨ps, k _ _ (.inl rfl) e, t, ?_⟩
    rcases c with c | ⟨c, e1, e2⟩
    · exact .inl c
    · exact .inr ⟨c, e1, ht _ _ trivial e2⟩
theorem HOk.lt (x : HOk P w H h) (e : H a = some o) : a < h.objs.size := (x a o e).lt
theorem HOk.fresh (x : HOk P w H h) (e : h.objs.size ≤ a) : H a = none := by
  cases q : H a with
  | none => rfl
  | some u => exact absurd (Nat.lt_of_lt_of_le (x.lt q) e) (Nat.lt_irrefl _)
theorem HOk.kept (x : HOk P w H h) (k : ∀ b u, h.get? b = some u → h'.get? b = some u) : HOk P w H h' := fun a o e =>
  (x a o e).stay (fun b u _ q => k b u q) (fun _ q => q) fun _ _ _ q => q
theorem HOk.laid (x : HOk P w H h) (k : ∀ b u, h.get? b = some u → h'.get? b = some u) (hp : h.objs.size ≤ a) (new : ObjOk P w (upd H a o) h' a o) : HOk P w (upd H a o) h' := fun b u e => by
  have hn := x.fresh hp
  by_cases hb : b = a
  · subst hb; rw [upd_same] at e; cases e; exact new
  · rw [upd_ne hb] at e
    exact (x b u e).stay (fun c v _ q => k c v q) (fun c q => by rw [upd_ne (ne_of_none q hn)]; exact q) fun c xs _ q => by rw [upd_ne (ne_of_none q hn)]; exact q
end
def Rd (H : Hp) (a : Addr) (u : HO) : Prop := H a = some u ∨ ∃ o, H a = some (.frz o u)
theorem Rd.of {H : Hp} {a : Addr} {u : HO} (h : H a = some u) : Rd H a u := .inl h
theorem Rd.ok {P : Program} {w : World} {H : Hp} {h : Heap} {a : Addr} {u : HO} (r : Rd H a u) (x : HOk P w H h) : ObjOk P w H h a u := by
  rcases r with r | ⟨o, r⟩
  · exact x a u r
  · obtain ⟨_, q⟩ := x a _ r
    exact q
def Mut : Option HO → Prop
  | some (.lst _) => True
  | some (.dK _) => True
  | some (.dT _) => True
  | some (.set _ _) => True
  | some (.ins _ _ _) => True
  | some (.ext _) => True
  | _ => False
section
variable {P : Program} {w : World} {H : Hp} {h h' : Heap} {x e : Addr} {o' : HO}
theorem HOk.write (ok : HOk P w H h) (mu : Mut (H x)) (he : e = x ∨ H e = some (.own x)) (k : ∀ b u, b ≠ e → h.get? b = some u → h'.get? b = some u) (heo : ∃ u, h'.get? e = some u)
    (new : ObjOk P w (upd H x o') h' x o') : HOk P w (upd H x o') h' := fun b u q => by
  have nown : ∀ c y, H c = some (.own y) → c ≠ x := fun c y r z => by subst z; rw [r] at mu; exact mu
  have ntup : ∀ c u, Sty u → H c = some u → c ≠ x := fun c u y r z => by
    subst z
    rw [r] at mu
    cases u <;> first | exact mu | exact y
  by_cases hb : b = x
  · subst hb; rw [upd_same] at q; cases q; exact new
  · rw [upd_ne hb] at q
    by_cases hbe : b = e
    · have q' : H b = some (.own x) := by
        rcases he with z | z
        · exact absurd (hbe.trans z) hb
        · rw [hbe]; exact z
      rw [q] at q'; cases q'
      obtain ⟨v, hv⟩ := heo
      exact ⟨v, by rw [hbe]; exact hv⟩
    · refine (ok b u q).stay (fun c v hc r => k c v ?_ r) (fun c r => by rw [upd_ne (nown c b r)]; exact r) fun c xs y r => by rw [upd_ne (ntup c xs y r)]; exact r
      rcases hc with rfl | hc
      · exact hbe
      · rintro rfl
        rcases he with z | z
        · exact nown c b hc z
        · rw [hc] at z; cases z; exact hb rfl
end
structure Un (fs ex : List Addr) (H H' : Hp) (h h' : Heap) : Prop where
  keep : ∀ b o, h.get? b = some o → H b = none → b ∉ fs → b ∉ ex → h'.get? b = some o
  slot : ∀ b o, h.get? b = some o → H b = none → b ∈ fs → b ∉ ex → ∃ sl, h'.get? b = some { o with slots := sl }
  free : ∀ b o, h.get? b = some o → H b = none → b ∉ ex → H' b = none
  there : ∀ b o, h.get? b = some o → b ∉ ex → ∃ o', h'.get? b = some o'
  tups : ∀ b xs, H b = some (.tup xs) → H' b = some (.tup xs)
  frzs : ∀ b o u, H b = some (.frz o u) → H' b = some (.frz o u)
  tbls : ∀ b ps, H b = some (.tbl ps) → ∃ more, H' b = some (.tbl (ps ++ more))
section
variable {fs fs' ex ex' : List Addr} {H H1 H2 : Hp} {h h1 h2 h' : Heap} {a x e : Addr} {o : HO}
theorem Un.any (u : Un fs ex H H1 h h1) {b : Addr} {ob : Obj} (q : h.get? b = some ob) (n : H b = none) (hx : b ∉ ex) : ∃ sl, h1.get? b = some { ob with slots := sl } := by
  by_cases hb : b ∈ fs
  · exact u.slot b ob q n hb hx
  · exact ⟨ob.slots, u.keep b ob q n hb hx⟩
theorem Un.trans (a : Un fs ex H H1 h h1) (b : Un fs ex H1 H2 h1 h2) : Un fs ex H H2 h h2 where
  keep := fun c ob q n hc hx => b.keep c ob (a.keep c ob q n hc hx) (a.free c ob q n hx) hc hx
  slot := fun c ob q n hc hx => by
    obtain ⟨sl, e1⟩ := a.slot c ob q n hc hx
    obtain ⟨sl', e2⟩ := b.slot c _ e1 (a.free c ob q n hx) hc hx
    exact ⟨sl', e2⟩
  free := fun c ob q n hx => by
    obtain ⟨o', e1⟩ := a.there c ob q hx
    exact b.free c o' e1 (a.free c ob q n hx) hx
  there := fun c ob q hx => by
    obtain ⟨o', e1⟩ := a.there c ob q hx
    exact b.there c o' e1 hx
  tups := fun c xs q => b.tups c xs (a.tups c xs q)
  frzs := fun c ob xs q => b.frzs c ob xs (a.frzs c ob xs q)
  tbls := fun c ps q => by
    obtain ⟨m1, e1⟩ := a.tbls c ps q
    obtain ⟨m2, e2⟩ := b.tbls c _ e1
    exact ⟨m1 ++ m2, by rw [e2, Array.append_assoc]⟩
theorem Un.kept (k : ∀ b u, h.get? b = some u → h'.get? b = some u) : Un fs ex H H h h' :=
  ⟨fun b ob q _ _ _ => k b ob q, fun b ob q _ _ _ => ⟨ob.slots, k b ob q⟩, fun _ _ _ n _ => n, fun b ob q _ => ⟨ob, k b ob q⟩, fun _ _ q => q, fun _ _ _ q => q, fun _ ps q => ⟨#[], by rw [q]; simp⟩⟩
theorem Un.refl : Un fs ex H H h h := Un.kept fun _ _ q => q
theorem Un.laid (k : ∀ b u, h.get? b = some u → h'.get? b = some u) (hp : h.objs.size ≤ a) (hn : H a = none) : Un fs ex H (upd H a o) h h' where
  keep := fun b u q _ _ _ => k b u q
  slot := fun b u q _ _ _ => ⟨u.slots, k b u q⟩
  free := fun b u q n _ => by rw [upd_ne (Nat.ne_of_lt (Nat.lt_of_lt_of_le (Heap.lt_size q) hp))]; exact n
  there := fun b u q _ => ⟨u, k b u q⟩
  tups := fun b xs q => by rw [upd_ne (ne_of_none q hn)]; exact q
  frzs := fun b u xs q => by rw [upd_ne (ne_of_none q hn)]; exact q
  tbls := fun b ps q => ⟨#[], by rw [upd_ne (ne_of_none q hn), q]; simp⟩
theorem Un.write (mu : Mut (H x)) (he : e = x ∨ H e = some (.own x)) (k : ∀ b u, b ≠ e → h.get? b = some u → h'.get? b = some u) (heo : ∃ u, h'.get? e = some u) : Un fs ex H (upd H x o) h h' := by
  have hx : ∀ b, H b = none → b ≠ x := fun b n z => by subst z; rw [n] at mu; exact mu
  have hb : ∀ b, H b = none → b ≠ e := fun b n z => by
    subst z
    rcases he with r | r
    · exact hx b n r
    · rw [n] at r; cases r
  have hm : ∀ b u, H b = some u → ¬ Mut (some u) → b ≠ x := fun b u q nm z => by subst z; rw [q] at mu; exact nm mu
  refine ⟨fun b u q n _ _ => k b u (hb b n) q, fun b u q n _ _ => ⟨u.slots, k b u (hb b n) q⟩, fun b u q n _ => by rw [upd_ne (hx b n)]; exact n, fun b u q _ => ?_,
    fun b xs q => by rw [upd_ne (hm b _ q fun z => z)]; exact q, fun b u xs q => by rw [upd_ne (hm b _ q fun z => z)]; exact q, fun b ps q => ⟨#[], by rw [upd_ne (hm b _ q fun z => z), q]; simp⟩⟩
  by_cases hbe : b = e
  · subst hbe; exact heo
  · exact ⟨u, k b u hbe q⟩
theorem Un.mono (u : Un fs ex H H1 h h1) (hs : ∀ b ∈ fs, b ∈ fs') (hx : ∀ b ∈ ex, b ∈ ex') : Un fs' ex' H H1 h h1 :=
  ⟨fun b ob q n hb he => u.keep b ob q n (fun z => hb (hs b z)) fun z => he (hx b z), fun _ _ q n _ he => u.any q n fun z => he (hx _ z), fun b ob q n he => u.free b ob q n fun z => he (hx b z), fun b ob q he => u.there b ob q fun z => he (hx b z), u.tups, u.frzs, u.tbls⟩
end
def trk (h : Heap) (H : Hp) : List Addr := (List.range h.objs.size).filter fun a => (H a).isSome
def hidT (h : Heap) (H : Hp) : Heap := PySem.W.hideAll h (trk h H)
theorem hidT_size (h : Heap) (H : Hp) : (hidT h H).objs.size = h.objs.size := PySem.W.hideAll_size _ _
theorem hidT_get {h : Heap} {H : Hp} {b : Addr} {o : Obj} (e : h.get? b = some o) (n : H b = none) : (hidT h H).get? b = some o :=
  PySem.W.hideAll_get _ e fun hm => by
    have q : (H b).isSome = true := (List.mem_filter.mp hm).2
    rw [n] at q; simp at q
theorem of_hidT {h : Heap} {H : Hp} {b : Addr} {o : Obj} (e : (hidT h H).get? b = some o) : h.get? b = some o ∧ H b = none := by
  have e' : h.get? b = some o := PySem.W.of_hideAll (trk h H) e
  refine ⟨e', ?_⟩
  cases q : H b with
  | none => rfl
  | some x =>
    have hm : b ∈ trk h H := List.mem_filter.mpr ⟨List.mem_range.mpr (Heap.lt_size e'), by simp [q]⟩
    have z : (hidT h H).get? b = none := PySem.W.hideAll_none (trk h H) hm
    rw [z] at e; cases e
def allNews (g h : Heap) (L : Addr) : List (Addr × Obj) := (List.range h.objs.size).filterMap fun a => if a = L ∨ (g.get? a).isSome = true then none else (h.get? a).map fun o => (a, o)
def rest (g h : Heap) (L d : Addr) : List (Addr × Obj) := (allNews g h L).filter fun p => decide (p.1 ≠ d)
end L2
namespace L2
open PySem PySem.Spec PyProof.Rows
structure Mod (K : PySem.W.Frag) (mg : Str → Option Value) (base : Heap) : Prop where
  kin : K.In base
  glob : base.Ns mainGlobals mg
  blt : ∃ mb, base.Ns builtinsNs mb ∧ ∀ x : Str, x ≠ "__name__" → mb x = bootBuiltins x
  nolimit : base.NoLimit
  bm : ∃ bm o, mg "__builtins__" = some (.ref bm) ∧ bm ≠ builtinsNs ∧ base.get? bm = some o ∧ o.cls = .type "module" ∧ o.dict = some builtinsNs ∧ o.data = .plain
structure Cx where
  prog : Program
  w : World
  K : PySem.W.Frag
  mg : Str → Option Value
  base : Heap
  A : Around
  N : List Str
  s₀ : Shared
  H₀ : Hp
  env : Env
  outer : List Env
  stack : List Env
  ex : List Addr
  fn : Str → Bool
  calm : Bool
  pn : List (Addr × Obj)
  xe : Value → Shared → Prop
def frs (l : List Env) : List Addr := l.filterMap (·.frame)
abbrev Cx.fs (X : Cx) : List Addr := frs X.outer
def Vis (sc : Scope) (x : Str) : Prop := sc.names.lookup x = some .local ∨ sc.names.lookup x = some .cell ∨ sc.names.lookup x = some .free
def Loc (sc : Scope) (x : Str) : Prop := sc.names.lookup x = some .local ∨ sc.names.lookup x = some .cell
def Look (env : Env) (h : Heap) (m : Str → Option Value) (x : Str) (u : Value) : Prop :=
  (env.kindOf x = some .local ∧ m x = some u) ∨ ((env.kindOf x = some .cell ∨ env.kindOf x = some .free) ∧ ∃ c, env.cells.lookup x = some c ∧ h.IsCell c (some u))
structure Cx.Ok (X : Cx) : Prop where
  mod : Mod X.K X.mg X.base
  kind : X.env.scope.kind = .function
  glob : X.env.globals = mainGlobals
  blt : X.env.builtins = builtinsNs
  above : X.s₀.heap.objs.size ≤ X.env.locals
  inj : ∀ x y c, X.env.cells.lookup x = some c → X.env.cells.lookup y = some c → x = y
  has : ∀ x, (X.env.kindOf x = some .cell ∨ X.env.kindOf x = some .free) → ∃ c, X.env.cells.lookup x = some c
  cab : ∀ x c, X.fn x = true → X.env.cells.lookup x = some c → X.s₀.heap.objs.size ≤ c
  hd : X.calm = true → X.A.handled = none
  frames : X.A.frames = some X.stack
  stk : X.stack = X.outer ∨ (X.stack = X.env :: X.outer ∧ X.env.frame = some X.env.locals)
  exf : ∀ b ∈ X.ex, b ≠ X.env.locals ∧ ∀ x c, X.env.cells.lookup x = some c → c ≠ b
  bs : ∀ b o, X.base.get? b = some o → X.s₀.heap.get? b = some o ∧ X.H₀ b = none
  bsz : X.base.objs.size ≤ X.s₀.heap.objs.size
  noex : ∀ b o, X.base.get? b = some o → b ∉ X.ex
  exfs : ∀ b ∈ X.ex, b ∉ X.fs
  funs : X.s₀.heap.FunFrames X.base X.outer
  frf : ∀ b ∈ X.fs, X.H₀ b = none
structure Inv (X : Cx) (pins : List (Addr × Obj)) (σ : List (Option V)) (H : Hp) (s : Shared) : Prop where
  ok : X.Ok
  os : s.os = X.s₀.os
  bare : AllBare s.gens
  base : Un X.fs X.ex X.H₀ H X.s₀.heap s.heap
  loc : ∃ m, s.heap.Ns X.env.locals m ∧ ∀ (i : Nat) (x : Str) (v : V), X.N[i]? = some x → σ[i]? = some (some v) → Vis X.env.scope x → ∃ u, RelV v u ∧ Look X.env s.heap m x u
  cell : ∀ x c, X.env.cells.lookup x = some c → ∃ v, s.heap.IsCell c v
  free : H X.env.locals = none
  freeC : ∀ x c, X.env.cells.lookup x = some c → H c = none
  pin : ∀ p ∈ X.pn ++ pins, s.heap.get? p.1 = some p.2 ∧ H p.1 = none ∧ p.1 ≠ X.env.locals ∧ p.1 ∉ X.fs ∧ ∀ v, p.2.data ≠ .cell v
  hok : HOk X.prog X.w H s.heap
  len : σ.length = X.N.length
section
variable {X : Cx} {pins : List (Addr × Obj)} {σ : List (Option V)} {H H' : Hp} {s : Shared} {h' : Heap}
theorem Cx.Ok.nofr (ok : X.Ok) {b : Addr} {o : Obj} (e : X.base.get? b = some o) : b ∉ X.fs := fun hb => by
  have := (ok.funs.mem hb).1
  rw [e] at this; cases this
theorem Inv.bs (I : Inv X pins σ H s) : ∀ b o, X.base.get? b = some o → s.heap.get? b = some o ∧ H b = none := fun b o e =>
  ⟨I.base.keep b o (I.ok.bs b o e).1 (I.ok.bs b o e).2 (I.ok.nofr e) (I.ok.noex b o e), I.base.free b o (I.ok.bs b o e).1 (I.ok.bs b o e).2 (I.ok.noex b o e)⟩
theorem Inv.bk (I : Inv X pins σ H s) : ∀ b o, X.base.get? b = some o → s.heap.get? b = some o := fun b o e => (I.bs b o e).1
theorem Inv.mod (I : Inv X pins σ H s) : Mod X.K X.mg X.base := I.ok.mod
theorem Inv.kIn (I : Inv X pins σ H s) : X.K.In s.heap := I.ok.mod.kin.keeps I.bk
theorem Inv.nolimit (I : Inv X pins σ H s) : s.heap.NoLimit := I.ok.mod.nolimit.keeps I.bk
theorem Inv.lt (I : Inv X pins σ H s) : X.env.locals < s.heap.objs.size := let ⟨_, hn, _⟩ := I.loc; hn.lt
theorem Inv.sz (I : Inv X pins σ H s) : X.s₀.heap.objs.size ≤ s.heap.objs.size := Nat.le_trans I.ok.above (Nat.le_of_lt I.lt)
theorem Inv.nofs (I : Inv X pins σ H s) {a : Addr} (h : s.heap.objs.size ≤ a) : a ∉ X.fs := fun hb => by
  obtain ⟨_, o, ho, _⟩ := I.ok.funs.mem hb
  exact absurd (Nat.lt_of_lt_of_le (Heap.lt_size ho) (Nat.le_trans I.sz h)) (Nat.lt_irrefl _)
theorem Inv.cne (I : Inv X pins σ H s) : ∀ x c, X.env.cells.lookup x = some c → c ≠ X.env.locals := fun x c e z => by
  obtain ⟨v, o, ho, hd⟩ := I.cell x c e
  obtain ⟨m, ⟨o', es, ep, ho', hd', _⟩, _⟩ := I.loc
  rw [z, ho'] at ho; cases ho; rw [hd'] at hd; cases hd
theorem Inv.funs (I : Inv X pins σ H s) : s.heap.FunFrames X.base X.outer := by
  have all : ∀ (l : List Env), (∀ b ∈ frs l, b ∈ X.fs) → X.s₀.heap.FunFrames X.base l → s.heap.FunFrames X.base l := by
    intro l
    induction l with
    | nil => intro _ _; trivial
    | cons env r ih =>
      intro hs hl
      obtain ⟨hk, ⟨L, o, hf, hn, ho, hd⟩, hr⟩ := hl
      have hL : L ∈ X.fs := hs L (by unfold frs; rw [List.filterMap_cons, hf]; exact List.mem_cons_self)
      obtain ⟨sl, e⟩ := I.base.slot L o ho (I.ok.frf L hL) hL fun z => I.ok.exfs L z hL
      exact ⟨hk, ⟨L, _, hf, hn, e, hd⟩, ih (fun b hb => hs b (by unfold frs; rw [List.filterMap_cons, hf]; exact List.mem_cons_of_mem _ hb)) hr⟩
  exact all X.outer (fun _ hb => hb) I.ok.funs
theorem Inv.stack (I : Inv X pins σ H s) : s.heap.FunFrames X.base X.stack := by
  rcases I.ok.stk with e | ⟨e, hf⟩
  · rw [e]; exact I.funs
  · rw [e]
    obtain ⟨m, hn, _⟩ := I.loc
    refine .cons (by rw [I.ok.kind]; decide) hf hn ?_ I.funs
    exact Heap.get?_none_of_le (Nat.le_trans I.ok.bsz I.ok.above)
theorem Inv.stkSub (I : Inv X pins σ H s) : ∀ b ∈ frs X.stack, b ∈ X.env.locals :: X.fs := fun b hb => by
  rcases I.ok.stk with e | ⟨e, hf⟩
  · rw [e] at hb; exact List.mem_cons_of_mem _ hb
  · rw [e] at hb
    unfold frs at hb
    rw [List.filterMap_cons, hf] at hb
    exact hb
theorem Inv.stkFree (I : Inv X pins σ H s) : ∀ b ∈ frs X.stack, H b = none := fun b hb => by
  rcases List.mem_cons.mp (I.stkSub b hb) with e | hb
  · rw [e]; exact I.free
  · obtain ⟨_, o, ho, _⟩ := I.ok.funs.mem hb
    exact I.base.free b o ho (I.ok.frf b hb) fun z => I.ok.exfs b z hb
theorem Inv.step {g' : Array GenState} {t' : Nat} {d' : Drawn} {ch : List Addr} (I : Inv X pins σ H s)
    (hch : ∀ b ∈ ch, (b ∈ X.ex ∨ X.s₀.heap.objs.size ≤ b) ∧ b ≠ X.env.locals ∧ (∀ x c, X.env.cells.lookup x = some c → c ≠ b) ∧ ∀ p ∈ X.pn ++ pins, p.1 ≠ b)
    (keep : ∀ b o, b ≠ X.env.locals → b ∉ X.fs → b ∉ ch → s.heap.get? b = some o → H b = none → h'.get? b = some o)
    (slot : ∀ b o, b ≠ X.env.locals → b ∈ X.fs → b ∉ ch → s.heap.get? b = some o → H b = none → ∃ sl, h'.get? b = some { o with slots := sl }) (free : ∀ b o, b ∉ ch → s.heap.get? b = some o → H b = none → H' b = none)
    (there : ∀ b o, b ∉ ch → s.heap.get? b = some o → ∃ o', h'.get? b = some o')
    (tups : ∀ b xs, H b = some (.tup xs) → H' b = some (.tup xs)) (frzs : ∀ b o u, H b = some (.frz o u) → H' b = some (.frz o u)) (tbls : ∀ b ps, H b = some (.tbl ps) → ∃ more, H' b = some (.tbl (ps ++ more)))
    (ns : ∀ m, s.heap.Ns X.env.locals m → h'.Ns X.env.locals m) (hok : HOk X.prog X.w H' h') (hg : AllBare g') :
    Inv X pins σ H' { s with heap := h', gens := g', drawn := d', toks := t' } := by
  have neL : ∀ b o, X.s₀.heap.get? b = some o → b ≠ X.env.locals := fun b o e => Nat.ne_of_lt (Nat.lt_of_lt_of_le (Heap.lt_size e) I.ok.above)
  have neC : ∀ b o, X.s₀.heap.get? b = some o → b ∉ X.ex → b ∉ ch := fun b o e hx hb => by
    rcases (hch b hb).1 with z | z
    · exact hx z
    · exact absurd (Nat.lt_of_lt_of_le (Heap.lt_size e) z) (Nat.lt_irrefl _)
  have cellK : ∀ x c, X.env.cells.lookup x = some c → ∀ v, s.heap.IsCell c v → h'.IsCell c v := fun x c e v ⟨o, ho, hd⟩ => by
    have nch : c ∉ ch := fun z => (hch c z).2.2.1 x c e rfl
    by_cases hc : c ∈ X.fs
    · obtain ⟨sl, q⟩ := slot c o (I.cne x c e) hc nch ho (I.freeC x c e)
      exact ⟨_, q, hd⟩
    · exact ⟨o, keep c o (I.cne x c e) hc nch ho (I.freeC x c e), hd⟩
  refine ⟨I.ok, I.os, hg, ⟨fun b o e n hb hx => ?_, fun b o e n hb hx => ?_, fun b o e n hx => ?_, fun b o e hx => ?_, fun b xs e => tups b xs (I.base.tups b xs e), fun b o xs e => frzs b o xs (I.base.frzs b o xs e), fun b ps e => ?_⟩, ?_, fun x c e => ?_, ?_, fun x c e => ?_, fun p hp => ?_, hok, I.len⟩
  · exact keep b o (neL b o e) hb (neC b o e hx) (I.base.keep b o e n hb hx) (I.base.free b o e n hx)
  · obtain ⟨sl, e1⟩ := I.base.slot b o e n hb hx
    obtain ⟨sl', e2⟩ := slot b _ (neL b o e) hb (neC b o e hx) e1 (I.base.free b o e n hx)
    exact ⟨sl', e2⟩
  · obtain ⟨o', e1⟩ := I.base.there b o e hx
    exact free b o' (neC b o e hx) e1 (I.base.free b o e n hx)
  · obtain ⟨o', e1⟩ := I.base.there b o e hx
    exact there b o' (neC b o e hx) e1
  · obtain ⟨m1, e1⟩ := I.base.tbls b ps e
    obtain ⟨m2, e2⟩ := tbls b _ e1
    exact ⟨m1 ++ m2, by rw [e2, Array.append_assoc]⟩
  · obtain ⟨m, hn, hl⟩ := I.loc
    refine ⟨m, ns m hn, fun i x v e1 e2 e3 => ?_⟩
    obtain ⟨u, r, l⟩ := hl i x v e1 e2 e3
    refine ⟨u, r, ?_⟩
    rcases l with l | ⟨k, c, e, z⟩
    · exact .inl l
    · exact .inr ⟨k, c, e, cellK x c e _ z⟩
  · obtain ⟨v, z⟩ := I.cell x c e
    exact ⟨v, cellK x c e v z⟩
  · obtain ⟨m, ⟨o, _, _, ho, _⟩, _⟩ := I.loc
    exact free _ o (fun z => (hch _ z).2.1 rfl) ho I.free
  · obtain ⟨v, o, ho, hd⟩ := I.cell x c e
    exact free c o (fun z => (hch c z).2.2.1 x c e rfl) ho (I.freeC x c e)
  · obtain ⟨e, n, ne, nf, d⟩ := I.pin p hp
    have nch : p.1 ∉ ch := fun z => (hch p.1 z).2.2.2 p hp rfl
    exact ⟨keep p.1 p.2 ne nf nch e n, free p.1 p.2 nch e n, ne, nf, d⟩
theorem Inv.un {t' : Nat} (I : Inv X pins σ H s) (u : Un X.fs [] H H' s.heap h') (hok : HOk X.prog X.w H' h') : Inv X pins σ H' { s with heap := h', toks := t' } := by
  obtain ⟨m, ⟨o, es, ep, ho, r⟩, _⟩ := id I.loc
  obtain ⟨sl, hL⟩ := u.any ho I.free (by simp)
  exact I.step (g' := s.gens) (d' := s.drawn) (ch := []) (fun _ z => nomatch z) (fun b o _ hb _ e n => u.keep b o e n hb (by simp)) (fun b o _ hb _ e n => u.slot b o e n hb (by simp)) (fun b o _ e n => u.free b o e n (by simp)) (fun b o _ e => u.there b o e (by simp)) u.tups u.frzs u.tbls (fun m' hm => by
    obtain ⟨o', es', ep', ho', r'⟩ := hm
    rw [ho] at ho'; cases ho'
    exact ⟨_, es', ep', hL, r'⟩) hok I.bare
theorem Inv.call {g' : Array GenState} {t' : Nat} {d' : Drawn} {ch : List Addr} (I : Inv X pins σ H s) (u : Un (frs X.stack) ch H H' s.heap h') (hok : HOk X.prog X.w H' h') (hg : AllBare g')
    (hch : ∀ b ∈ ch, (b ∈ X.ex ∨ X.s₀.heap.objs.size ≤ b) ∧ b ≠ X.env.locals ∧ (∀ x c, X.env.cells.lookup x = some c → c ≠ b) ∧ ∀ p ∈ X.pn ++ pins, p.1 ≠ b) :
    Inv X pins σ H' { s with heap := h', gens := g', drawn := d', toks := t' } := by
  obtain ⟨m, ⟨o, es, ep, ho, r⟩, _⟩ := id I.loc
  obtain ⟨sl, hL⟩ := u.any ho I.free fun z => (hch _ z).2.1 rfl
  exact I.step (ch := ch) hch (fun b o hL hb hc e n => u.keep b o e n (fun z => (List.mem_cons.mp (I.stkSub b z)).elim hL hb) hc) (fun b o _ _ hc e n => u.any e n hc) (fun b o hc e n => u.free b o e n hc) (fun b o hc e => u.there b o e hc) u.tups u.frzs u.tbls (fun m' hm => by
    obtain ⟨o', es', ep', ho', r'⟩ := hm
    rw [ho] at ho'; cases ho'
    exact ⟨_, es', ep', hL, r'⟩) hok hg
theorem Inv.turned {t' : Nat} {it : Addr} (I : Inv X pins σ H s) (k : ∀ b o, b ≠ it → s.heap.get? b = some o → h'.get? b = some o) (hn : H it = none) (hL : it ≠ X.env.locals)
    (h1 : it ∈ X.ex ∨ X.s₀.heap.objs.size ≤ it) (h2 : ∀ x c, X.env.cells.lookup x = some c → c ≠ it) (h3 : ∀ p ∈ X.pn ++ pins, p.1 ≠ it) : Inv X pins σ H { s with heap := h', toks := t' } := by
  have nit : ∀ b u, H b = some u → b ≠ it := fun b u e z => by rw [z, hn] at e; cases e
  refine I.step (g' := s.gens) (d' := s.drawn) (ch := [it]) (fun b hb => ?_) (fun b o _ _ hc e _ => k b o (fun z => hc (by simp [z])) e) (fun b o _ _ hc e _ => ⟨o.slots, k b o (fun z => hc (by simp [z])) e⟩) (fun _ _ _ _ n => n)
    (fun b o hc e => ⟨o, k b o (fun z => hc (by simp [z])) e⟩) (fun _ _ e => e) (fun _ _ _ e => e) (fun b ps e => ⟨#[], by rw [e]; simp⟩) (fun m hm => ?_) (fun b u e => ?_) I.bare
  · have e : b = it := by simpa using hb
    subst e
    exact ⟨h1, hL, h2, h3⟩
  · obtain ⟨o, es, ep, ho, r⟩ := hm
    exact ⟨o, es, ep, k _ o (Ne.symm hL) ho, r⟩
  · refine (I.hok b u e).stay (fun c v hc q => k c v ?_ q) (fun _ q => q) fun _ _ _ q => q
    rcases hc with z | z
    · rw [z]; exact nit b u e
    · exact nit c _ z
theorem Inv.tok (I : Inv X pins σ H s) (t : Nat) : Inv X pins σ H { s with toks := t } := I.un (h' := s.heap) (t' := t) Un.refl I.hok
theorem Inv.kept {t' : Nat} (I : Inv X pins σ H s) (k : ∀ b u, s.heap.get? b = some u → h'.get? b = some u) : Inv X pins σ H { s with heap := h', toks := t' } := I.un (Un.kept k) (I.hok.kept k)
theorem Inv.laid {a : Addr} {o : HO} {t' : Nat} (I : Inv X pins σ H s) (k : ∀ b u, s.heap.get? b = some u → h'.get? b = some u) (hp : s.heap.objs.size ≤ a) (new : ObjOk X.prog X.w (upd H a o) h' a o) :
    Inv X pins σ (upd H a o) { s with heap := h', toks := t' } := I.un (Un.laid k hp (I.hok.fresh hp)) (I.hok.laid k hp new)
theorem Inv.write {x e : Addr} {o : HO} {t' : Nat} (I : Inv X pins σ H s) (mu : Mut (H x)) (he : e = x ∨ H e = some (.own x)) (k : ∀ b u, b ≠ e → s.heap.get? b = some u → h'.get? b = some u) (heo : ∃ u, h'.get? e = some u)
    (new : ObjOk X.prog X.w (upd H x o) h' x o) : Inv X pins σ (upd H x o) { s with heap := h', toks := t' } := I.un (Un.write mu he k heo) (I.hok.write mu he k heo new)
theorem Inv.weak {σ' : List (Option V)} (I : Inv X pins σ H s) (hl : σ'.length = σ.length) (w : ∀ (i : Nat) v, σ'[i]? = some (some v) → σ[i]? = some (some v)) : Inv X pins σ' H s :=
  ⟨I.ok, I.os, I.bare, I.base, let ⟨m, hn, hl'⟩ := I.loc; ⟨m, hn, fun i x v e1 e2 e3 => hl' i x v e1 (w i v e2) e3⟩, I.cell, I.free, I.freeC, I.pin, I.hok, hl.trans I.len⟩
theorem Inv.pins_of {pins' : List (Addr × Obj)} (I : Inv X pins σ H s) (h : ∀ p ∈ pins', s.heap.get? p.1 = some p.2 ∧ H p.1 = none ∧ p.1 ≠ X.env.locals ∧ p.1 ∉ X.fs ∧ ∀ v, p.2.data ≠ .cell v) : Inv X pins' σ H s :=
  ⟨I.ok, I.os, I.bare, I.base, I.loc, I.cell, I.free, I.freeC, fun p hp => (List.mem_append.mp hp).elim (fun z => I.pin p (List.mem_append_left _ z)) (h p), I.hok, I.len⟩
theorem nodup_ix {N : List Str} (hN : N.Nodup) {i j : Nat} {x : Str} (a : N[i]? = some x) (b : N[j]? = some x) : i = j := by
  obtain ⟨h1, e1⟩ := List.getElem?_eq_some_iff.mp a
  obtain ⟨h2, e2⟩ := List.getElem?_eq_some_iff.mp b
  exact (List.getElem_inj hN).mp (e1.trans e2.symm)
theorem store_ok2 {M : Model} {A : Around} {E : Value → Shared → Prop} {i : Nat} {x : Str} {v : V} {u : Value} {Q : Unit → Shared → Prop} (I : Inv X pins σ H s) (hN : X.N.Nodup) (hi : X.N[i]? = some x) (hx : Loc X.env.scope x) (r : RelV v u)
    (h : ∀ s', Inv X pins (σ.set i (some v)) H s' → (∃ a, Heap.SameBut a s.heap s'.heap ∧ (a = X.env.locals ∨ X.env.cells.lookup x = some a)) → Q () s') (hf : X.fn x = true ∨ X.env.scope.names.lookup x = some .local := by first | exact .inl rfl | exact .inr rfl | assumption) : wpAny M A (storeName X.env x u) Q E s := by
  obtain ⟨m, hn, hl⟩ := id I.loc
  have hcls : (X.env.scope.kind == .class || (X.env.scope.kind == .module && X.env.locals != X.env.globals)) = false := by rw [I.ok.kind]; rfl
  have hiσ : i < σ.length := by rw [I.len]; exact (List.getElem?_eq_some_iff.mp hi).1
  have cne := I.cne
  have tracked : ∀ {a : Addr} {h' : Heap}, (∃ o, s.heap.get? a = some o ∧ H a = none) → Heap.SameBut a s.heap h' → HOk X.prog X.w H h' := fun {a h'} ha hs b ob e => by
    obtain ⟨_, _, hfree⟩ := ha
    refine (I.hok b ob e).stay (fun c w' hc q => (hs.2 c ?_).trans q) (fun _ q => q) fun _ _ _ q => q
    rintro rfl
    rcases hc with rfl | hc
    · rw [hfree] at e; cases e
    · rw [hfree] at hc; cases hc
  rcases hx with hk | hk
  · refine wpAny_storeName_local hk hn (fun h' hn' hs => ?_) hcls
    obtain ⟨oL, _, _, hoL, _⟩ := id hn
    refine h _ ⟨I.ok, I.os, I.bare, ⟨fun b o e n hb hx => ?_, fun b o e n hb hx => ?_, I.base.free, fun b o e hx => ?_, I.base.tups, I.base.frzs, I.base.tbls⟩, ⟨_, hn', fun j y v' e1 e2 e3 => ?_⟩, fun y c e => ?_, I.free, I.freeC, fun p hp => ?_, tracked ⟨oL, hoL, I.free⟩ hs, by simpa using I.len⟩ ⟨_, hs, .inl rfl⟩
    · exact (hs.2 b (Nat.ne_of_lt (Nat.lt_of_lt_of_le (Heap.lt_size e) I.ok.above))).trans (I.base.keep b o e n hb hx)
    · obtain ⟨sl, e1⟩ := I.base.slot b o e n hb hx
      exact ⟨sl, (hs.2 b (Nat.ne_of_lt (Nat.lt_of_lt_of_le (Heap.lt_size e) I.ok.above))).trans e1⟩
    · obtain ⟨o', e1⟩ := I.base.there b o e hx
      exact ⟨o', (hs.2 b (Nat.ne_of_lt (Nat.lt_of_lt_of_le (Heap.lt_size e) I.ok.above))).trans e1⟩
    · by_cases hj : j = i
      · subst hj
        rw [hi] at e1; cases e1
        rw [List.getElem?_set_self hiσ] at e2
        cases e2
        exact ⟨u, r, .inl ⟨hk, by simp⟩⟩
      · rw [List.getElem?_set_ne (Ne.symm hj)] at e2
        obtain ⟨u', r', q⟩ := hl j y v' e1 e2 e3
        refine ⟨u', r', ?_⟩
        rcases q with ⟨k, e⟩ | ⟨k, c, e, z⟩
        · refine .inl ⟨k, ?_⟩
          have : y ≠ x := fun e => hj (nodup_ix hN e1 (e ▸ hi))
          simp [this, e]
        · exact .inr ⟨k, c, e, z.sameBut hs (cne y c e)⟩
    · obtain ⟨w', z⟩ := I.cell y c e
      exact ⟨w', z.sameBut hs (cne y c e)⟩
    · obtain ⟨e, n, ne, nf, d⟩ := I.pin p hp
      exact ⟨(hs.2 p.1 ne).trans e, n, ne, nf, d⟩
  · have hfn : X.fn x = true := by
      rcases hf with z | z
      · exact z
      · rw [z] at hk; cases hk
    obtain ⟨c, hc⟩ := I.ok.has x (.inl hk)
    obtain ⟨w', z⟩ := I.cell x c hc
    refine wpAny_storeName_cell I.ok.kind hk hc z (fun h' hc' hs => ?_)
    obtain ⟨oc, hoc, hocd⟩ := id z
    refine h { s with heap := h' } ⟨I.ok, I.os, I.bare, ⟨fun b o e n hb hx => ?_, fun b o e n hb hx => ?_, I.base.free, fun b o e hx => ?_, I.base.tups, I.base.frzs, I.base.tbls⟩, ⟨m, hn.sameBut hs (Ne.symm (cne x c hc)), fun j y v' e1 e2 e3 => ?_⟩, fun y c' e => ?_, I.free, I.freeC, fun p hp => ?_, tracked ⟨oc, hoc, I.freeC x c hc⟩ hs, by simpa using I.len⟩ ⟨c, hs, .inr hc⟩
    · exact (hs.2 b (Nat.ne_of_lt (Nat.lt_of_lt_of_le (Heap.lt_size e) (I.ok.cab x c hfn hc)))).trans (I.base.keep b o e n hb hx)
    · obtain ⟨sl, e1⟩ := I.base.slot b o e n hb hx
      exact ⟨sl, (hs.2 b (Nat.ne_of_lt (Nat.lt_of_lt_of_le (Heap.lt_size e) (I.ok.cab x c hfn hc)))).trans e1⟩
    · obtain ⟨o', e1⟩ := I.base.there b o e hx
      exact ⟨o', (hs.2 b (Nat.ne_of_lt (Nat.lt_of_lt_of_le (Heap.lt_size e) (I.ok.cab x c hfn hc)))).trans e1⟩
    · by_cases hj : j = i
      · subst hj
        rw [hi] at e1; cases e1
        rw [List.getElem?_set_self hiσ] at e2
        cases e2
        exact ⟨u, r, .inr ⟨.inl hk, c, hc, hc'⟩⟩
      · rw [List.getElem?_set_ne (Ne.symm hj)] at e2
        obtain ⟨u', r', q⟩ := hl j y v' e1 e2 e3
        refine ⟨u', r', ?_⟩
        rcases q with q | ⟨k, c', e, z'⟩
        · exact .inl q
        · refine .inr ⟨k, c', e, z'.sameBut hs ?_⟩
          rintro rfl
          exact hj (nodup_ix hN e1 (I.ok.inj _ _ _ e hc ▸ hi))
    · by_cases hcc : c' = c
      · subst hcc; exact ⟨_, hc'⟩
      · obtain ⟨w2, z2⟩ := I.cell y c' e
        exact ⟨w2, z2.sameBut hs hcc⟩
    · obtain ⟨e, n, ne, nf, d⟩ := I.pin p hp
      refine ⟨(hs.2 p.1 ?_).trans e, n, ne, nf, d⟩
      intro q
      rw [q, hoc] at e
      have q' : oc = p.2 := Option.some.inj e
      exact d w' (by rw [← q']; exact hocd)
theorem store_ok {M : Model} {A : Around} {E : Value → Shared → Prop} {i : Nat} {x : Str} {v : V} {u : Value} {Q : Unit → Shared → Prop} (I : Inv X pins σ H s) (hN : X.N.Nodup) (hi : X.N[i]? = some x) (hx : Loc X.env.scope x) (r : RelV v u)
    (h : ∀ s', Inv X pins (σ.set i (some v)) H s' → Q () s') (hf : X.fn x = true ∨ X.env.scope.names.lookup x = some .local := by first | exact .inl rfl | exact .inr rfl | assumption) : wpAny M A (storeName X.env x u) Q E s :=
  store_ok2 I hN hi hx r (fun s' I' _ => h s' I') hf
theorem Inv.call' {s' : Shared} {ch : List Addr} (I : Inv X pins σ H s) (ho : s'.os = s.os) (u : Un (frs X.stack) ch H H' s.heap s'.heap) (hok : HOk X.prog X.w H' s'.heap) (hg : AllBare s'.gens)
    (hch : ∀ b ∈ ch, (b ∈ X.ex ∨ X.s₀.heap.objs.size ≤ b) ∧ b ≠ X.env.locals ∧ (∀ x c, X.env.cells.lookup x = some c → c ≠ b) ∧ ∀ p ∈ X.pn ++ pins, p.1 ≠ b) : Inv X pins σ H' s' := by
  obtain ⟨h', g', d', t', o'⟩ := s'
  have e : o' = s.os := ho
  subst e
  exact I.call (g' := g') (t' := t') (d' := d') u hok hg hch
end
abbrev XK := Value → Option Addr → Hp → Prop
abbrev St := List (Option V)
abbrev VK := V → Hp → Prop
abbrev TE := St → Hp → VK → Prop
abbrev TT := St → Hp → (Bool → Hp → Prop) → Prop
abbrev TA := St → Hp → (List V → Hp → Prop) → Prop
structure Ends where
  nx : St → Hp → Prop
  rt : VK
  bk : St → Hp → Prop := fun _ _ => False
  ct : St → Hp → Prop := fun _ _ => False
abbrev TS := Ends → St → Hp → Prop
def EP (X : Cx) (pins : List (Addr × Obj)) (σ : St) (Q : VK) (u : Value) (s' : Shared) : Prop := ∃ v H', Inv X pins σ H' s' ∧ RelV v u ∧ Q v H'
def TP (X : Cx) (pins : List (Addr × Obj)) (σ : St) (Q : Bool → Hp → Prop) (b : Bool) (s' : Shared) : Prop := ∃ H', Inv X pins σ H' s' ∧ Q b H'
def AP (X : Cx) (pins : List (Addr × Obj)) (σ : St) (Q : List V → Hp → Prop) (us : List Value) (s' : Shared) : Prop := ∃ vs H', Inv X pins σ H' s' ∧ Vals vs us ∧ Q vs H'
def SP (X : Cx) (pins : List (Addr × Obj)) (D : Ends) (f : Flow) (s' : Shared) : Prop :=
  match f with
  | .next => ∃ σ' H', Inv X pins σ' H' s' ∧ D.nx σ' H'
  | .brk => ∃ σ' H', Inv X pins σ' H' s' ∧ D.bk σ' H'
  | .cont => ∃ σ' H', Inv X pins σ' H' s' ∧ D.ct σ' H'
  | .ret u => ∃ v σ' H', Inv X pins σ' H' s' ∧ RelV v u ∧ D.rt v H'
def PE (X : Cx) (e : Expr) (t : TE) : Prop :=
  ∀ (pins : List (Addr × Obj)) (s : Shared) (σ : St) (H : Hp) (Q : VK), Inv X pins σ H s → t σ H Q → wpAny (model X.prog X.w) X.A (eval e X.env) (EP X pins σ Q) X.xe s
def PT (X : Cx) (e : Expr) (t : TT) : Prop :=
  ∀ (pins : List (Addr × Obj)) (s : Shared) (σ : St) (H : Hp) (Q : Bool → Hp → Prop), Inv X pins σ H s → t σ H Q → wpAny (model X.prog X.w) X.A (isTrue e X.env (eval e X.env)) (TP X pins σ Q) X.xe s
def PW (X : Cx) (e : Expr) (t : TT) : Prop :=
  ∀ (whole : Sem Value) (pins : List (Addr × Obj)) (s : Shared) (σ : St) (H : Hp) (Q : Bool → Hp → Prop), Inv X pins σ H s → t σ H Q → wpAny (model X.prog X.w) X.A (isTrue e X.env whole) (TP X pins σ Q) X.xe s
theorem PW.pt {X : Cx} {e : Expr} {t : TT} (h : PW X e t) : PT X e t := h _
def PA (X : Cx) (es : List Expr) (t : TA) : Prop :=
  ∀ (pos : Pos) (pins : List (Addr × Obj)) (s : Shared) (σ : St) (H : Hp) (Q : List V → Hp → Prop), Inv X pins σ H s → t σ H Q → wpAny (model X.prog X.w) X.A (spliced (backTo pos (starEach es X.env))) (AP X pins σ Q) X.xe s
def PS (X : Cx) (st : Stmt) (t : TS) : Prop :=
  ∀ (pins : List (Addr × Obj)) (s : Shared) (σ : St) (H : Hp) (D : Ends), Inv X pins σ H s → t D σ H → wpAny (model X.prog X.w) X.A (exec st X.env) (SP X pins D) X.xe s
def PSs (X : Cx) (st : List Stmt) (t : TS) : Prop :=
  ∀ (pins : List (Addr × Obj)) (s : Shared) (σ : St) (H : Hp) (D : Ends), Inv X pins σ H s → t D σ H → wpAny (model X.prog X.w) X.A (execs st X.env) (SP X pins D) X.xe s
theorem thn {α : Type} {t : Sem α} {Q Q' : α → Shared → Prop} {M : Model} {A : Around} {E : Value → Shared → Prop} {s : Shared} (h : wpAny M A t Q E s) (hQ : ∀ a s, Q a s → Q' a s) : wpAny M A t Q' E s := wpAny_mono h hQ fun _ _ x => x
end L2
namespace L2
open PySem PySem.Spec PyProof.Rows
section
variable {X : Cx}
def tVar (i : Nat) : TE := fun σ H Q => ∃ v, σ[i]? = some (some v) ∧ Q v H
def tC (v : V) : TE := fun _ H Q => Q v H
theorem pe_var {i : Nat} {x : Str} {pos : Pos} (hN : X.N[i]? = some x) (hv : Vis X.env.scope x) (hd : (x == ("__debug__" : Str)) = false := by decide) (hcd : (x == ("__classdict__" : Str)) = false := by decide) : PE X (.Name x pos) (tVar i) := by
  intro pins s σ H Q I h
  obtain ⟨v, e, h⟩ := h
  obtain ⟨m, hn, hl⟩ := I.loc
  obtain ⟨u, r, l⟩ := hl i x v hN e hv
  have fin : EP X pins σ Q u s := ⟨v, H, I, r, h⟩
  rcases l with ⟨hk, hm⟩ | ⟨hk, c, hc, hcell⟩
  · exact wpAny_Name (wpAny_loadName_local I.ok.kind hk hn hm fin) hd
  · rcases hk with hk | hk
    · exact wpAny_Name (wpAny_loadName_cell I.ok.kind hk hc hcell fin) hd
    · exact wpAny_Name (wpAny_loadName_free I.ok.kind hk hc hcell fin hcd) hd
theorem pe_int {i j pos} : PE X (.Constant (.int i) j pos) (tC (.int i)) := fun _ _ _ H _ I h => wpAny_Constant_int ⟨.int i, H, I.tok _, ⟨_, rfl⟩, h⟩
theorem pe_bl {b j pos} : PE X (.Constant (.bool b) j pos) (tC (.bl b)) := fun _ _ _ H _ I h => Constant_bool ⟨.bl b, H, I, rfl, h⟩
theorem pe_non {j pos} : PE X (.Constant .none j pos) (tC .non) := fun _ _ _ H _ I h => Constant_none ⟨.non, H, I, rfl, h⟩
theorem pe_str {x j pos} : PE X (.Constant (.str x) j pos) (tC (.str x)) := fun _ _ _ H _ I h => Calls.Constant_str ⟨.str x, H, I.tok _, ⟨_, rfl⟩, h⟩
def Gl (X : Cx) (x : Str) : Prop := X.env.kindOf x = some .globalImplicit
theorem ld_glob {E : Value → Shared → Prop} {pins : List (Addr × Obj)} {s : Shared} {σ : St} {H : Hp} {x : Str} {u : Value} {pos : Pos} {Q : Value → Shared → Prop} (I : Inv X pins σ H s) (hg : Gl X x) (hm : X.mg x = some u) (h : Q u s)
    (hd : (x == ("__debug__" : Str)) = false := by decide) : wpAny (model X.prog X.w) X.A (eval (.Name x pos) X.env) Q E s :=
  Calls.Name_function_global I.ok.kind hg (Calls.loadGlobal_global (by rw [I.ok.glob]; exact I.mod.glob.keeps I.bk) hm h) hd
theorem ld_blt {E : Value → Shared → Prop} {pins : List (Addr × Obj)} {s : Shared} {σ : St} {H : Hp} {x : Str} {u : Value} {pos : Pos} {Q : Value → Shared → Prop} (I : Inv X pins σ H s) (hg : Gl X x) (hm : X.mg x = none) (hv : bootBuiltins x = some u) (h : Q u s)
    (hn : x ≠ "__name__" := by decide) (hd : (x == ("__debug__" : Str)) = false := by decide) : wpAny (model X.prog X.w) X.A (eval (.Name x pos) X.env) Q E s := by
  obtain ⟨mb, h1, h2⟩ := I.mod.blt
  exact Calls.Name_function_global I.ok.kind hg (Calls.loadGlobal_builtin (by rw [I.ok.glob]; exact I.mod.glob.keeps I.bk) hm (by rw [I.ok.blt]; exact h1.keeps I.bk) ((h2 x hn).trans hv) h) hd
theorem pe_glob {x : Str} {v : V} {u : Value} {pos : Pos} (hg : Gl X x) (hm : X.mg x = some u) (r : RelV v u) (hd : (x == ("__debug__" : Str)) = false := by decide) : PE X (.Name x pos) (tC v) :=
  fun _ _ _ H _ I h => ld_glob I hg hm ⟨v, H, I, r, h⟩ hd
theorem pe_bltn {x : Str} {v : V} {u : Value} {pos : Pos} (hg : Gl X x) (hm : X.mg x = none) (hv : bootBuiltins x = some u) (r : RelV v u) (hn : x ≠ "__name__" := by decide) (hd : (x == ("__debug__" : Str)) = false := by decide) : PE X (.Name x pos) (tC v) :=
  fun _ _ _ H _ I h => ld_blt I hg hm hv ⟨v, H, I, r, h⟩ hn hd
variable {a b : Expr} {ta tb : TE} {pos : Pos}
def tB (t : TE) : TT := fun σ H Q => t σ H fun x H1 => ∃ c, x = .bl c ∧ Q c H1
theorem pt_val {e : Expr} {t : TE} (h : PE X e t) (he : ∀ whole, isTrue e X.env whole = (do let v ← whole; standAt e.pos; holding [v] (truthy v)) := by intro _; rfl) : PT X e (tB t) := by
  intro pins s σ H Q I hw
  refine isTrue_plain (thn (h pins s σ H _ I hw) fun v s1 ⟨x, H1, I1, r1, q1⟩ => ?_) (he _)
  obtain ⟨d, rfl, q⟩ := q1
  cases r1
  exact wpAny_truthy_bool ⟨H1, I1, q⟩
variable {tA tB' : TT} {rest : List Expr}
def tAnd (t u : TT) : TT := fun σ H Q => t σ H fun c H1 => if c = true then u σ H1 Q else Q false H1
def tOr (t u : TT) : TT := fun σ H Q => t σ H fun c H1 => if c = true then Q true H1 else u σ H1 Q
def tNot (t : TT) : TT := fun σ H Q => t σ H fun c H1 => Q (!c) H1
theorem pw_and1 (ha : PT X a tA) : PW X (.BoolOp .And [a] pos) tA := by
  intro wh pins s σ H Q I h
  refine isTrue_and (thn (ha pins s σ H Q I h) fun c s1 e => ?_)
  cases c with
  | true => exact isTrue_and_nil e
  | false => exact e
theorem pw_or1 (ha : PT X a tA) : PW X (.BoolOp .Or [a] pos) tA := by
  intro wh pins s σ H Q I h
  refine isTrue_or (thn (ha pins s σ H Q I h) fun c s1 e => ?_)
  cases c with
  | false => exact isTrue_or_nil e
  | true => exact e
theorem pw_and (ha : PT X a tA) (hb : PW X (.BoolOp .And (b :: rest) pos) tB') : PW X (.BoolOp .And (a :: b :: rest) pos) (tAnd tA tB') := by
  intro wh pins s σ H Q I h
  refine isTrue_and (thn (ha pins s σ H _ I h) fun c s1 ⟨H1, I1, q1⟩ => ?_)
  cases c with
  | true => exact hb wh pins s1 σ H1 Q I1 q1
  | false => exact ⟨H1, I1, q1⟩
theorem pw_or (ha : PT X a tA) (hb : PW X (.BoolOp .Or (b :: rest) pos) tB') : PW X (.BoolOp .Or (a :: b :: rest) pos) (tOr tA tB') := by
  intro wh pins s σ H Q I h
  refine isTrue_or (thn (ha pins s σ H _ I h) fun c s1 ⟨H1, I1, q1⟩ => ?_)
  cases c with
  | true => exact ⟨H1, I1, q1⟩
  | false => exact hb wh pins s1 σ H1 Q I1 q1
theorem pt_not (ha : PT X a tA) : PT X (.UnaryOp .Not a pos) (tNot tA) := by
  intro pins s σ H Q I h
  exact isTrue_not (ha pins s σ H (fun c H1 => Q (!c) H1) I h)
def tAndV (ta tb : TE) : TE := fun σ H Q => ta σ H fun x H1 => ∃ c, x = .bl c ∧ if c = true then tb σ H1 Q else Q (.bl false) H1
def tOrV (ta tb : TE) : TE := fun σ H Q => ta σ H fun x H1 => ∃ c, x = .bl c ∧ if c = true then Q (.bl true) H1 else tb σ H1 Q
def tNotV (ta : TE) : TE := fun σ H Q => ta σ H fun x H1 => ∃ c, x = .bl c ∧ Q (.bl (!c)) H1
theorem pe_one {op} {t : TE} (h : PE X a t) : PE X (.BoolOp op [a] pos) t := fun pins s σ H Q I hw => BoolOp_one (h pins s σ H Q I hw)
theorem pe_and (ha : PE X a ta) (hb : PE X (.BoolOp .And (b :: rest) pos) tb) : PE X (.BoolOp .And (a :: b :: rest) pos) (tAndV ta tb) := by
  intro pins s σ H Q I h
  refine BoolOp_and (thn (ha pins s σ H _ I h) fun v s1 ⟨x, H1, I1, r1, q1⟩ => ?_)
  obtain ⟨c, rfl, q1⟩ := q1
  cases r1
  refine wpAny_truthy_bool ?_
  cases c with
  | true => exact hb pins s1 σ H1 Q I1 q1
  | false => exact ⟨.bl false, H1, I1, rfl, q1⟩
theorem pe_or (ha : PE X a ta) (hb : PE X (.BoolOp .Or (b :: rest) pos) tb) : PE X (.BoolOp .Or (a :: b :: rest) pos) (tOrV ta tb) := by
  intro pins s σ H Q I h
  refine BoolOp_or (thn (ha pins s σ H _ I h) fun v s1 ⟨x, H1, I1, r1, q1⟩ => ?_)
  obtain ⟨c, rfl, q1⟩ := q1
  cases r1
  refine wpAny_truthy_bool ?_
  cases c with
  | false => exact hb pins s1 σ H1 Q I1 q1
  | true => exact ⟨.bl true, H1, I1, rfl, q1⟩
theorem pe_not (ha : PE X a ta) : PE X (.UnaryOp .Not a pos) (tNotV ta) := by
  intro pins s σ H Q I h
  refine UnaryOp_ (thn (ha pins s σ H _ I h) fun v s1 ⟨x, H1, I1, r1, q1⟩ => ?_)
  obtain ⟨c, rfl, q1⟩ := q1
  cases r1
  exact not_of (wpAny_truthy_bool ⟨.bl (!c), H1, I1, rfl, q1⟩)
def tIf (t : TT) (ta tb : TE) : TE := fun σ H Q => t σ H fun c H1 => if c = true then ta σ H1 Q else tb σ H1 Q
end
end L2
namespace L2
open PySem PySem.Spec PyProof.Rows
def SqL (K : PySem.W.Frag) (H : Hp) (a : Addr) (xs : List V) : Prop :=
  Rd H a (.lst xs) ∨
    ∃ (o : Obj) (its : Array Value) (n : Nat), K.lookup a = some o ∧ o.cls = .type "list" ∧ o.dict = none ∧ o.data = .seq its n ∧ its.size ≤ sizeLine ∧ Vals xs its.toList
def SqT (K : PySem.W.Frag) (H : Hp) (a : Addr) (xs : List V) : Prop :=
  Rd H a (.tup xs) ∨
    ∃ (o : Obj) (its : Array Value) (n : Nat), K.lookup a = some o ∧ o.cls = .type "tuple" ∧ o.data = .seq its n ∧ its.size ≤ sizeLine ∧ Vals xs its.toList
def absV : Value → Option V
  | .none => some .non
  | .bool b => some (.bl b)
  | .int i _ => some (.int i)
  | .str x _ => some (.str x)
  | .bytes b _ => some (.byt b)
  | .float b _ => some (.flt b)
  | .ref a => some (.ref a)
  | .type n => some (.ty n)
  | _ => none
theorem RelV.abs {x : V} {u : Value} (r : RelV x u) : absV u = some x := by
  cases x with
  | non => cases r; rfl
  | bl _ => cases r; rfl
  | int _ => obtain ⟨t, rfl⟩ := r; rfl
  | str _ => obtain ⟨t, rfl⟩ := r; rfl
  | byt _ => obtain ⟨t, rfl⟩ := r; rfl
  | flt _ => obtain ⟨t, rfl⟩ := r; rfl
  | ref _ => cases r; rfl
  | ty _ => cases r; rfl
theorem RelV.inj {x y : V} {u : Value} (r : RelV x u) (q : RelV y u) : x = y := Option.some.inj (r.abs.symm.trans q.abs)
theorem Vals.inj : ∀ {xs ys : List V} {us : List Value}, Vals xs us → Vals ys us → xs = ys
  | _, _, _, .nil, .nil => rfl
  | _, _, _, .cons r t, .cons r' t' => by rw [r.inj r', Vals.inj t t']
section
variable {X : Cx} {pins : List (Addr × Obj)} {σ : St} {H : Hp} {s : Shared} {a : Addr} {xs ys : List V}
theorem SqL.of {K : PySem.W.Frag} (h : H a = some (.lst xs)) : SqL K H a xs := .inl (.inl h)
theorem SqT.of {K : PySem.W.Frag} (h : H a = some (.tup xs)) : SqT K H a xs := .inl (.inl h)
theorem Inv.list (I : Inv X pins σ H s) (h : SqL X.K H a xs) : ∃ its : List Value, Vals xs its ∧ PlainL s.heap a its.toArray ∧ xs.length ≤ sizeLine := by
  rcases h with h | ⟨o, its, n, hk, hc, hd, hs, hz, r⟩
  · obtain ⟨z, its, n, r, e⟩ := h.ok I.hok
    exact ⟨its, r, ⟨_, n, e, rfl, rfl, rfl⟩, z⟩
  · refine ⟨its.toList, r, ⟨o, n, I.kIn a o hk, hc, hd, by simpa using hs⟩, ?_⟩
    have e := r.length
    simp only [Array.length_toList] at e
    omega
theorem Inv.tuple (I : Inv X pins σ H s) (h : SqT X.K H a xs) : ∃ its : List Value, Vals xs its ∧ IsTup s.heap a its.toArray ∧ xs.length ≤ sizeLine := by
  rcases h with h | ⟨o, its, n, hk, hc, hs, hz, r⟩
  · obtain ⟨z, its, r, p⟩ := h.ok I.hok
    exact ⟨its, r, p, z⟩
  · refine ⟨its.toList, r, ⟨o, I.kIn a o hk, hc, n, by simpa using hs⟩, ?_⟩
    have e := r.length
    simp only [Array.length_toList] at e
    omega
theorem Inv.list_inj (I : Inv X pins σ H s) (h : SqL X.K H a xs) (h' : SqL X.K H a ys) : xs = ys := by
  obtain ⟨its, r, ⟨o, n, e, _, _, d⟩, _⟩ := I.list h
  obtain ⟨its', r', ⟨o', n', e', _, _, d'⟩, _⟩ := I.list h'
  rw [e] at e'; cases e'
  rw [d] at d'
  injection d' with d1 _
  have : its = its' := by simpa using congrArg Array.toList d1
  subst this
  exact r.inj r'
theorem Inv.tuple_inj (I : Inv X pins σ H s) (h : SqT X.K H a xs) (h' : SqT X.K H a ys) : xs = ys := by
  obtain ⟨its, r, ⟨o, e, _, n, d⟩, _⟩ := I.tuple h
  obtain ⟨its', r', ⟨o', e', _, n', d'⟩, _⟩ := I.tuple h'
  rw [e] at e'; cases e'
  rw [d] at d'
  injection d' with d1 _
  have : its = its' := by simpa using congrArg Array.toList d1
  subst this
  exact r.inj r'
end
abbrev Cx.wish (X : Cx) (E : Value → Shared → Prop) : Cx := { X with xe := E }
abbrev Cx.nox (X : Cx) : Cx := X.wish fun _ _ => False
theorem Cx.Ok.wish {X : Cx} (ok : X.Ok) (E : Value → Shared → Prop) : (X.wish E).Ok :=
  ⟨ok.mod, ok.kind, ok.glob, ok.blt, ok.above, ok.inj, ok.has, ok.cab, ok.hd, ok.frames, ok.stk, ok.exf, ok.bs, ok.bsz, ok.noex, ok.exfs, ok.funs, ok.frf⟩
theorem Cx.Ok.unwish {X : Cx} {E : Value → Shared → Prop} (ok : (X.wish E).Ok) : X.Ok :=
  ⟨ok.mod, ok.kind, ok.glob, ok.blt, ok.above, ok.inj, ok.has, ok.cab, ok.hd, ok.frames, ok.stk, ok.exf, ok.bs, ok.bsz, ok.noex, ok.exfs, ok.funs, ok.frf⟩
section
variable {X : Cx} {pins : List (Addr × Obj)} {σ : St} {H : Hp} {s : Shared} {E : Value → Shared → Prop}
theorem Inv.wish (I : Inv X pins σ H s) (E : Value → Shared → Prop) : Inv (X.wish E) pins σ H s := ⟨I.ok.wish E, I.os, I.bare, I.base, I.loc, I.cell, I.free, I.freeC, I.pin, I.hok, I.len⟩
theorem Inv.unwish (I : Inv (X.wish E) pins σ H s) : Inv X pins σ H s := ⟨I.ok.unwish, I.os, I.bare, I.base, I.loc, I.cell, I.free, I.freeC, I.pin, I.hok, I.len⟩
theorem SP.unwish {D : Ends} {f : Flow} {s' : Shared} (h : SP (X.wish E) pins D f s') : SP X pins D f s' := by
  cases f with
  | next => obtain ⟨σ', H', I, q⟩ := h; exact ⟨σ', H', I.unwish, q⟩
  | brk => obtain ⟨σ', H', I, q⟩ := h; exact ⟨σ', H', I.unwish, q⟩
  | cont => obtain ⟨σ', H', I, q⟩ := h; exact ⟨σ', H', I.unwish, q⟩
  | ret u => obtain ⟨v, σ', H', I, r, q⟩ := h; exact ⟨v, σ', H', I.unwish, r, q⟩
theorem PE.nox {e : Expr} {t : TE} (h : PE X.nox e t) : PE X e t := fun pins s σ H Q I hw =>
  wpAny_mono (h pins s σ H Q (I.wish _) hw) (fun _ _ ⟨v, H', I', r, q⟩ => ⟨v, H', I'.unwish, r, q⟩) fun _ _ z => False.elim z
theorem PT.nox {e : Expr} {t : TT} (h : PT X.nox e t) : PT X e t := fun pins s σ H Q I hw =>
  wpAny_mono (h pins s σ H Q (I.wish _) hw) (fun _ _ ⟨H', I', q⟩ => ⟨H', I'.unwish, q⟩) fun _ _ z => False.elim z
theorem PSs.nox {st : List Stmt} {t : TS} (h : PSs X.nox st t) : PSs X st t := fun pins s σ H D I hw =>
  wpAny_mono (h pins s σ H D (I.wish _) hw) (fun _ _ q => q.unwish) fun _ _ z => False.elim z
end
section
variable {X : Cx} {st : Stmt} {rest : List Stmt} {t u : TS} {e : Expr} {te : TE} {pos : Pos}
def tNext : TS := fun D σ H => D.nx σ H
def tSeq (t u : TS) : TS := fun D σ H => t { D with nx := u D } σ H
theorem pss_nil : PSs X [] tNext := fun _ _ σ H _ I h => wpAny_execs_nil ⟨σ, H, I, h⟩
theorem pss_cons (h1 : PS X st t) (h2 : PSs X rest u) : PSs X (st :: rest) (tSeq t u) := by
  intro pins s σ H D I h
  refine wpAny_execs_cons (thn (h1 pins s σ H { D with nx := u D } I h) fun f s1 q => ?_)
  cases f with
  | next =>
    obtain ⟨σ', H', I', q⟩ := q
    exact h2 pins s1 σ' H' D I' q
  | ret v => exact q
  | brk => exact q
  | cont => exact q
theorem pss_one (h1 : PS X st t) : PSs X [st] t := by
  intro pins s σ H D I h
  refine wpAny_execs_cons (thn (h1 pins s σ H D I h) fun f s1 q => ?_)
  cases f with
  | next => exact wpAny_execs_nil q
  | ret v => exact q
  | brk => exact q
  | cont => exact q
def tBreak : TS := fun D σ H => D.bk σ H
def tCont : TS := fun D σ H => D.ct σ H
theorem ps_continue : PS X (.Continue pos) tCont := fun _ _ σ H _ I h => wpAny_Continue ⟨σ, H, I, h⟩
theorem Inv.quiet {pins : List (Addr × Obj)} {σ : St} {H : Hp} {s : Shared} (I : Inv X pins σ H s) : interactive X.env = false := by simp [interactive, I.ok.kind]
def tDrop (te : TE) : TS := fun D σ H => te σ H fun _ H1 => D.nx σ H1
theorem ps_expr (he : PE X e te) (hs : swapsWith e none pos.line X.env = pure false := by rfl) : PS X (.Expr e pos) (tDrop te) := by
  intro pins s σ H D I h
  exact wpAny_Expr_any (thn (he pins s σ H _ I h) fun v s1 ⟨x, H1, I1, r1, q1⟩ => ⟨σ, H1, I1, q1⟩) I.quiet hs
def tRet (te : TE) : TS := fun D σ H => te σ H D.rt
theorem ps_ret (he : PE X e te) : PS X (.Return (some e) pos) (tRet te) := by
  intro pins s σ H D I h
  exact wpAny_Return_some (thn (he pins s σ H _ I h) fun v s1 ⟨x, H1, I1, r1, q1⟩ => ⟨x, σ, H1, I1, r1, q1⟩)
def tRetN : TS := fun D _ H => D.rt .non H
def tIfS (c : TT) (t u : TS) : TS := fun D σ H => c σ H fun b H1 => if b = true then t D σ H1 else u D σ H1
theorem ps_if {c : Expr} {a b : List Stmt} {tc : TT} (hc : PT X c tc) (ha : PSs X a t) (hb : PSs X b u) : PS X (.If c a b pos) (tIfS tc t u) := by
  intro pins s σ H D I h
  refine wpAny_If (thn (hc pins s σ H _ I h) fun d s1 ⟨H1, I1, q1⟩ => ?_)
  cases d with
  | true => exact ha pins s1 σ H1 D I1 q1
  | false => exact hb pins s1 σ H1 D I1 q1
def tNever : TS := fun _ _ _ => False
theorem ps_never : PS X st tNever := fun _ _ _ _ _ _ h => h.elim
end
abbrev TG := V → St → Hp → (St → Hp → Prop) → Prop
abbrev TGs := List V → St → Hp → (St → Hp → Prop) → Prop
def PG (X : Cx) (target : Expr) (t : TG) : Prop :=
  ∀ (pins : List (Addr × Obj)) (s : Shared) (σ : St) (H : Hp) (v : V) (u : Value) (Q : St → Hp → Prop), Inv X pins σ H s → RelV v u → t v σ H Q →
    wpAny (model X.prog X.w) X.A (assign target X.env u) (fun _ s' => ∃ σ' H', Inv X pins σ' H' s' ∧ Q σ' H') X.xe s
def PGs (X : Cx) (ts : List Expr) (t : TGs) : Prop :=
  ∀ (pins : List (Addr × Obj)) (s : Shared) (σ : St) (H : Hp) (vs : List V) (us : List Value) (Q : St → Hp → Prop), Inv X pins σ H s → Vals vs us → t vs σ H Q →
    wpAny (model X.prog X.w) X.A (assignInOrder ((assignEach ts X.env).map (·.2)) us) (fun _ s' => ∃ σ' H', Inv X pins σ' H' s' ∧ Q σ' H') X.xe s
abbrev TSet := V → V → V → Hp → (Hp → Prop) → Prop
def PSet (X : Cx) (t : TSet) : Prop :=
  ∀ (pins : List (Addr × Obj)) (s : Shared) (σ : St) (H : Hp) (o i v : V) (ov iv u : Value) (Q : Hp → Prop), Inv X pins σ H s → RelV o ov → RelV i iv → RelV v u → t o i v H Q →
    wpAny (model X.prog X.w) X.A (setItem ov iv u) (fun _ s' => ∃ H', Inv X pins σ H' s' ∧ Q H') X.xe s
abbrev TIp := V → V → Hp → VK → Prop
def PIp (X : Cx) (op : Operator) (t : TIp) : Prop :=
  ∀ (pins : List (Addr × Obj)) (s : Shared) (σ : St) (H : Hp) (x y : V) (v u : Value) (Q : VK), Inv X pins σ H s → RelV x v → RelV y u → t x y H Q →
    wpAny (model X.prog X.w) X.A (inplaceOp op v u) (EP X pins σ Q) X.xe s
section
variable {X : Cx} {pos : Pos}
def gName (i : Nat) : TG := fun v σ H Q => Q (σ.set i (some v)) H
theorem pg_name {i : Nat} {x : Str} (hN : X.N.Nodup) (hi : X.N[i]? = some x) (hx : Loc X.env.scope x) (hf : X.fn x = true ∨ X.env.scope.names.lookup x = some .local := by first | exact .inl rfl | exact .inr rfl | assumption) : PG X (.Name x pos) (gName i) := by
  intro pins s σ H v u Q I r h
  exact wpAny_assign_Name (store_ok I hN hi hx r (fun s' I' => ⟨_, H, I', h⟩) hf)
def gNil : TGs := fun vs σ H Q => vs = [] ∧ Q σ H
def gCons (t : TG) (u : TGs) : TGs := fun vs σ H Q => ∃ v r, vs = v :: r ∧ t v σ H fun σ' H' => u r σ' H' Q
theorem pgs_nil : PGs X [] gNil := by
  intro pins s σ H vs us Q I r h
  obtain ⟨e, h⟩ := h
  subst e
  cases r
  exact assignInOrder_nil ⟨σ, H, I, h⟩
theorem pgs_cons {e : Expr} {es : List Expr} {t : TG} {u : TGs} (h1 : PG X e t) (h2 : PGs X es u)
    (hs : (assignEach (e :: es) X.env).map (·.2) = assign e X.env :: (assignEach es X.env).map (·.2) := by rfl) : PGs X (e :: es) (gCons t u) := by
  intro pins s σ H vs us Q I r h
  obtain ⟨v, vr, e1, h⟩ := h
  subst e1
  cases r with
  | cons r rr =>
    rw [hs]
    refine assignInOrder_cons (thn (h1 pins s σ H _ _ _ I r h) fun _ s1 ⟨σ1, H1, I1, q1⟩ => ?_)
    exact h2 pins s1 σ1 H1 _ _ Q I1 rr q1
def gTup (K : PySem.W.Frag) (n : Nat) (t : TGs) : TG := fun v σ H Q => ∃ a xs, v = .ref a ∧ SqT K H a xs ∧ xs.length = n ∧ t xs σ H Q
theorem pg_tup {es : List Expr} {k : Nat} {t : TGs} {n : Nat} (hc : X.calm = true) (h : PGs X es t)
    (hn : (assignEach es X.env).length = n := by rfl) (hst : (assignEach es X.env).findIdx? (·.1) = none := by rfl) : PG X (.Tuple es k pos) (gTup X.K n t) := by
  intro pins s σ H v u Q I r hw
  obtain ⟨a, xs, e1, hq, hl, hw⟩ := hw
  subst e1
  cases r
  obtain ⟨its, rv, ht, hz⟩ := I.tuple hq
  refine assign_Tuple_tuple (I.ok.hd hc) ht (by simp [hn, ← hl, rv.length]) hst fun h' hx => ?_
  have I1 : Inv X pins σ H { s with heap := h' } := I.kept (t' := s.toks) fun b o e => hx b o (Nat.ne_of_lt (Heap.lt_size e)) e
  exact h pins _ σ H xs _ Q I1 (by simpa using rv) hw
def gSub (to ti : TE) (t : TSet) : TG := fun v σ H Q => to σ H fun o H1 => ti σ H1 fun i H2 => t o i v H2 fun H3 => Q σ H3
theorem pg_sub {o i : Expr} {to ti : TE} {t : TSet} (ho : PE X o to) (hi : PE X i ti) (hs : PSet X t)
    (ha : ∀ v, assign (.Subscript o i pos) X.env v = (do
      let ov ← holding [v] (eval o X.env)
      let iv ← holding [v, ov] (eval i X.env)
      standAt pos
      holding [v, ov, iv] (setItem ov iv v)
      release [v, ov, iv] []) := by intro _; rfl) : PG X (.Subscript o i pos) (gSub to ti t) := by
  intro pins s σ H v u Q I r h
  rw [ha]
  refine wpAny_bind (wpAny_holding (thn (ho pins s σ H _ I h) fun ov s1 ⟨x, H1, I1, r1, q1⟩ => ?_))
  refine wpAny_bind (wpAny_holding (thn (hi pins s1 σ H1 _ I1 q1) fun iv s2 ⟨y, H2, I2, r2, q2⟩ => ?_))
  refine wpAny_bind (wpAny_standAt (wpAny_bind (wpAny_holding (thn (hs pins s2 σ H2 x y v ov iv u _ I2 r1 r2 r q2) fun _ s3 ⟨H3, I3, q3⟩ => ?_))))
  exact wpAny_release ⟨σ, H3, I3, q3⟩
def tAsg (te : TE) (g : TG) : TS := fun D σ H => te σ H fun x H1 => g x σ H1 D.nx
theorem ps_asg {tg e : Expr} {te : TE} {g : TG} (he : PE X e te) (hg : PG X tg g) (hs : swapsWithSole [tg] e pos.line X.env = pure false := by rfl) (hw : swappedStores [tg] e X.env = pure none := by rfl)
    (h1 : (assignEach [tg] X.env).map (·.2) = [assign tg X.env] := by rfl) : PS X (.Assign [tg] e pos) (tAsg te g) := by
  intro pins s σ H D I h
  refine wpAny_Assign_stores (thn (he pins s σ H _ I h) fun v s1 ⟨x, H1, I1, r1, q1⟩ => ?_) hs hw
  rw [h1]
  exact thn (hg pins s1 σ H1 x v _ I1 r1 q1) fun _ s2 q => q
theorem ps_set {i : Nat} {x : Str} {e : Expr} {te : TE} {pos' : Pos} (hN : X.N.Nodup) (hi : X.N[i]? = some x) (hx : Loc X.env.scope x) (he : PE X e te) (hs : swapsWith e (some (.Name x pos')) pos.line X.env = pure false := by rfl) (hf : X.fn x = true ∨ X.env.scope.names.lookup x = some .local := by first | exact .inl rfl | exact .inr rfl | assumption) :
    PS X (.Assign [.Name x pos'] e pos) (tAsg te (gName i)) := by
  intro pins s σ H D I h
  refine wpAny_Assign_Name (thn (he pins s σ H _ I h) fun v s1 ⟨y, H1, I1, r1, q1⟩ => ?_) hs
  exact store_ok I1 hN hi hx r1 (fun s2 I2 => ⟨_, H1, I2, q1⟩) hf
def tPar (i j : Nat) (ta : TA) : TS := fun D σ H => ta σ H fun vs H1 => ∃ v w, vs = [v, w] ∧ D.nx ((σ.set i (some v)).set j (some w)) H1
theorem ps_par {i j : Nat} {x y : Str} {a b : Expr} {ta : TA} {px py pt : Pos} {kt k2 pt2} (hc : X.calm = true) (hN : X.N.Nodup) (hi : X.N[i]? = some x) (hj : X.N[j]? = some y) (hij : i ≠ j)
    (hx : X.env.scope.names.lookup x = some .local) (hy : X.env.scope.names.lookup y = some .local) (ha : PA X [a, b] ta)
    (hw : swappedStores [.Tuple [.Name x px, .Name y py] kt pt] (.Tuple [a, b] k2 pt2) X.env = pure (some [x, y]))
    (hs : swapsWithSole [.Tuple [.Name x px, .Name y py] kt pt] (.Tuple [a, b] k2 pt2) pos.line X.env = pure false := by rfl) :
    PS X (.Assign [.Tuple [.Name x px, .Name y py] kt pt] (.Tuple [a, b] k2 pt2) pos) (tPar i j ta) := by
  intro pins s σ H D I h
  rw [exec_Assign_arm]
  refine wpAny_bind (wpAny_standAt ?_)
  rw [hs]
  refine wpAny_bind (wpAny_pure ?_)
  rw [if_neg (by decide)]
  refine wpAny_bind (Tuple_ (thn (ha _ pins s σ H _ I h) fun us s1 ⟨vs, H1, I1, r1, q1⟩ => ?_))
  obtain ⟨v, w, e1, q1⟩ := q1
  subst e1
  obtain ⟨u1, u2, rfl, rv, rw'⟩ : ∃ u1 u2, us = [u1, u2] ∧ RelV v u1 ∧ RelV w u2 := by
    cases r1 with
    | cons p q =>
      cases q with
      | cons p' q' =>
        cases q'
        exact ⟨_, _, rfl, p, p'⟩
  refine wpAny_newObj_type ?_ (by show 2 ≤ sizeLine; decide)
  have I2 : Inv X pins σ H1 { s1 with heap := s1.heap.push { cls := .type "tuple", data := .seq [u1, u2].toArray } } := I1.kept (t' := s1.toks) fun b o e => Heap.get?_push_of_some _ e
  rw [hw]
  refine wpAny_bind (wpAny_pure ?_)
  show wpAny (model X.prog X.w) X.A (do rule "assign.swapped-stores"; let items ← unpackItems (.ref s1.heap.objs.size) 2 none; assignInOrder [fun v => bindName X.env y v, fun v => bindName X.env x v] items.reverse; pure Flow.next) _ _ _
  refine wpAny_bind (wpAny_rule (wpAny_bind (unpackItems_tuple (items := #[u1, u2]) (I.ok.hd hc) (IsTup.new s1.heap _) fun h' hx' => ?_)))
  have I3 := I2.kept (h' := h') (t' := s1.toks) fun b o e => hx' b o (Nat.ne_of_lt (Heap.lt_size e)) e
  show wpAny _ _ (assignInOrder [fun v => bindName X.env y v, fun v => bindName X.env x v] [u2, u1] >>= fun _ => pure Flow.next) _ _ _
  refine wpAny_bind (assignInOrder_cons (wpAny_bindName (store_ok I3 hN hj (.inl hy) rw' (fun s2 I4 => ?_) (.inr hy))))
  refine assignInOrder_cons (wpAny_bindName (store_ok I4 hN hi (.inl hx) rv (fun s3 I5 => assignInOrder_nil (wpAny_pure ?_)) (.inr hx)))
  rw [List.set_comm _ _ (Ne.symm hij)] at I5
  exact ⟨_, H1, I5, q1⟩
def tAug (i : Nat) (te : TE) (ti : TIp) : TS := fun D σ H => ∃ x, σ[i]? = some (some x) ∧ te σ H fun y H1 => ti x y H1 fun z H2 => D.nx (σ.set i (some z)) H2
theorem ps_aug {i : Nat} {x : Str} {e : Expr} {te : TE} {op : Operator} {ti : TIp} {pos' : Pos} (hN : X.N.Nodup) (hi : X.N[i]? = some x) (hx : Loc X.env.scope x) (he : PE X e te) (ho : PIp X op ti) (hf : X.fn x = true ∨ X.env.scope.names.lookup x = some .local := by first | exact .inl rfl | exact .inr rfl | assumption) :
    PS X (.AugAssign (.Name x pos') op e pos) (tAug i te ti) := by
  intro pins s σ H D I h
  obtain ⟨v, e1, h⟩ := h
  obtain ⟨m, hn, hl⟩ := I.loc
  have vis : Vis X.env.scope x := by rcases hx with k | k; exact .inl k; exact .inr (.inl k)
  obtain ⟨u, r, l⟩ := hl i x v hi e1 vis
  refine wpAny_AugAssign_Name ?_
  have go : wpAny (model X.prog X.w) X.A (eval e X.env) (fun w s₂ => wpAny (model X.prog X.w) X.A (inplaceOp op u w) (fun r s₃ => wpAny (model X.prog X.w) X.A (storeName X.env x r) (fun _ => SP X pins D .next) X.xe s₃) X.xe s₂) X.xe s := by
    refine thn (he pins s σ H _ I h) fun w s1 ⟨y, H1, I1, r1, q1⟩ => ?_
    refine thn (ho pins s1 σ H1 v y u w _ I1 r r1 q1) fun z s2 ⟨zv, H2, I2, r2, q2⟩ => ?_
    exact store_ok I2 hN hi hx r2 (fun s3 I3 => ⟨_, H2, I3, q2⟩) hf
  rcases l with ⟨hk, hm⟩ | ⟨hk, c, hc, hcell⟩
  · exact wpAny_loadName_local I.ok.kind hk hn hm go
  · rcases hk with hk | hk
    · exact wpAny_loadName_cell I.ok.kind hk hc hcell go
    · rcases hx with k | k
      · have : X.env.scope.names.lookup x = some .free := hk
        rw [k] at this; cases this
      · have : X.env.scope.names.lookup x = some .free := hk
        rw [k] at this; cases this
def tAugS (to ti te : TE) (tget : V → V → Hp → VK → Prop) (tip : TIp) (tset : TSet) : TS := fun D σ H => to σ H fun o H1 => ti σ H1 fun i H2 => tget o i H2 fun x H3 => te σ H3 fun y H4 => tip x y H4 fun z H5 => tset o i z H5 fun H6 => D.nx σ H6
def PGet (X : Cx) (t : V → V → Hp → VK → Prop) : Prop :=
  ∀ (pins : List (Addr × Obj)) (s : Shared) (σ : St) (H : Hp) (o i : V) (ov iv : Value) (Q : VK), Inv X pins σ H s → RelV o ov → RelV i iv → t o i H Q →
    wpAny (model X.prog X.w) X.A (getItem ov iv) (EP X pins σ Q) X.xe s
theorem ps_augS {o i e : Expr} {to ti te : TE} {tget : V → V → Hp → VK → Prop} {tip : TIp} {tset : TSet} {op : Operator} {tpos : Pos} (ho : PE X o to) (hi : PE X i ti) (hg : PGet X tget) (he : PE X e te) (hp : PIp X op tip) (hs : PSet X tset)
    (ha : ∀ ov iv new, augStore i ov iv new = (do holding [new, ov, iv] (setItem ov iv new); release [new, ov, iv] []; pure .next) := by intros; rfl) : PS X (.AugAssign (.Subscript o i tpos) op e pos) (tAugS to ti te tget tip tset) := by
  intro pins s σ H D I h
  refine wpAny_AugAssign_SubscriptAny (thn (ho pins s σ H _ I h) fun ov s1 ⟨x1, H1, I1, r1, q1⟩ => ?_) ha
  refine thn (hi pins s1 σ H1 _ I1 q1) fun iv s2 ⟨x2, H2, I2, r2, q2⟩ => ?_
  refine thn (hg pins s2 σ H2 x1 x2 ov iv _ I2 r1 r2 q2) fun old s3 ⟨x3, H3, I3, r3, q3⟩ => ?_
  refine thn (he pins s3 σ H3 _ I3 q3) fun v s4 ⟨x4, H4, I4, r4, q4⟩ => ?_
  refine thn (hp pins s4 σ H4 x3 x4 old v _ I4 r3 r4 q4) fun new s5 ⟨x5, H5, I5, r5, q5⟩ => ?_
  exact thn (hs pins s5 σ H5 x1 x2 x5 ov iv new _ I5 r1 r2 r5 q5) fun _ s6 ⟨H6, I6, q6⟩ => ⟨σ, H6, I6, q6⟩
def ipI (f : Int → Int → Int) : TIp := fun x y H Q => ∃ i j, x = .int i ∧ y = .int j ∧ Q (.int (f i j)) H
theorem ip_add : PIp X .Add (ipI fun i j => i + j) := by
  intro pins s σ H x y v u Q I r1 r2 h
  obtain ⟨i, j, e1, e2, q⟩ := h
  subst e1; subst e2
  obtain ⟨t, rfl⟩ := r1
  obtain ⟨t', rfl⟩ := r2
  exact iadd_int ⟨.int _, H, I.tok _, ⟨_, rfl⟩, q⟩
end
section
variable {X : Cx} {pos : Pos}
end
structure It where
  go : Nat → Hp → Prop
  yld : Nat → Hp → V → Hp → Prop
  stop : Nat → Hp → Prop
def FpOk (X : Cx) (pins : List (Addr × Obj)) (H : Hp) (b : Addr) : Prop :=
  H b = none ∧ b ≠ X.env.locals ∧ b ∉ X.fs ∧ (b ∈ X.ex ∨ X.s₀.heap.objs.size ≤ b) ∧ (∀ x c, X.env.cells.lookup x = some c → c ≠ b) ∧ ∀ p ∈ X.pn ++ pins, p.1 ≠ b
theorem Inv.fpOk {X : Cx} {pins : List (Addr × Obj)} {σ : St} {H H' : Hp} {s : Shared} {b : Addr} (I : Inv X pins σ H s) (hb : s.heap.objs.size ≤ b) (hn : H' b = none) : FpOk X pins H' b := by
  refine ⟨hn, Nat.ne_of_gt (Nat.lt_of_lt_of_le I.lt hb), I.nofs hb, .inr (Nat.le_trans I.sz hb), fun x c e z => ?_, fun p hp z => ?_⟩
  · obtain ⟨v, q⟩ := I.cell x c e
    exact absurd (Nat.lt_of_lt_of_le q.lt (by rw [z]; exact hb)) (Nat.lt_irrefl _)
  · exact absurd (Nat.lt_of_lt_of_le (Heap.lt_size (I.pin p hp).1) (by rw [z]; exact hb)) (Nat.lt_irrefl _)
structure Turn (P : Program) (w : World) (K : PySem.W.Frag) (tg : Expr) (J : It) (fp : List Addr) (it : Addr) (tn : Nat → Heap → Prop) : Prop where
  mem : it ∈ fp
  obj : ∀ i h, tn i h → ∀ b ∈ fp, ∃ o, h.get? b = some o ∧ ∀ v, o.data ≠ .cell v
  keep : ∀ i h h', tn i h → (∀ b ∈ fp, ∀ o, h.get? b = some o → h'.get? b = some o) → tn i h'
  item : ∀ (X : Cx), X.prog = P → X.w = w → X.K = K → X.calm = true → ∀ (i : Nat) (pins : List (Addr × Obj)) (s : Shared) (σ : St) (H : Hp) (E : Value → Shared → Prop), Inv X pins σ H s → (∀ b ∈ fp, FpOk X pins H b) → tn i s.heap → J.go i H →
    wpAny (model P w) X.A (pyNext (.ref it)) (fun r s1 => ∃ u, r = some u ∧
      wpAny (model P w) X.A (letOwnedTupleGo tg (.ref it) u) (fun _ s2 => ∃ x H', Inv X pins σ H' s2 ∧ RelV x u ∧ J.yld i H x H' ∧ tn (i + 1) s2.heap ∧ ∀ b ∈ fp, H' b = none) E s1) E s
  done : ∀ (X : Cx), X.prog = P → X.w = w → X.K = K → X.calm = true → ∀ (i : Nat) (pins : List (Addr × Obj)) (s : Shared) (σ : St) (H : Hp) (E : Value → Shared → Prop), Inv X pins σ H s → (∀ b ∈ fp, FpOk X pins H b) → tn i s.heap → J.stop i H →
    wpAny (model P w) X.A (pyNext (.ref it)) (fun r s1 => r = none ∧ Inv X pins σ H s1) E s
  self : ∀ (A : Around) (i : Nat) (s : Shared) (Q : Value → Shared → Prop) (E : Value → Shared → Prop), tn i s.heap → Q (.ref it) s → wpAny (model P w) A (pyIter (.ref it)) Q E s
abbrev TI := St → Hp → (It → Hp → Prop) → Prop
def PIE (X : Cx) (pins : List (Addr × Obj)) (σ : St) (tg : Expr) (R : It → Hp → Prop) (itv : Value) (s2 : Shared) : Prop :=
  ∃ (it : Addr) (fp : List Addr) (tn : Nat → Heap → Prop) (J : It) (H' : Hp), itv = .ref it ∧ Inv X pins σ H' s2 ∧ Turn X.prog X.w X.K tg J fp it tn ∧ tn 0 s2.heap ∧ (∀ b ∈ fp, FpOk X pins H' b) ∧ R J H'
def PI (X : Cx) (tg iter : Expr) (wi : TI) : Prop :=
  ∀ (pins : List (Addr × Obj)) (s : Shared) (σ : St) (H : Hp) (R : It → Hp → Prop), Inv X pins σ H s → wi σ H R →
    wpAny (model X.prog X.w) X.A (eval iter X.env) (fun v s1 => wpAny (model X.prog X.w) X.A (pyIter v) (PIE X pins σ tg R) X.xe s1) X.xe s
theorem go_of {M : Model} {A : Around} {E : Value → Shared → Prop} {s : Shared} {tg : Expr} {it : Addr} {u : Value} {o : Obj} {n : String} {vs : Array Value} {Q : Unit → Shared → Prop} (ho : s.heap.get? it = some o) (hc : o.cls = .type n) (hd : o.data = .fields vs)
    (hn : ["enumerate", "zip", "dict_itemiterator", "dict_reverseitemiterator", "odict_iterator", "itertools.zip_longest", "itertools.pairwise"].contains n = false) (hQ : Q () s) : wpAny M A (letOwnedTupleGo tg (.ref it) u) Q E s := by
  unfold letOwnedTupleGo
  cases tg <;> first
    | exact wpAny_pure hQ
    | (cases u <;> first
        | exact wpAny_pure hQ
        | (refine wpAny_bind (wpAny_load ho ?_)
           rw [hc, hd]
           show wpAny M A (if (["enumerate", "zip", "dict_itemiterator", "dict_reverseitemiterator", "odict_iterator", "itertools.zip_longest", "itertools.pairwise"].contains n && vs[0]? == some (rawInt _)) = true then _ else _) Q E s
           rw [if_neg (by intro h; rw [hn, Bool.false_and] at h; cases h)]
           exact wpAny_pure hQ))
def Itl (K : PySem.W.Frag) (a : Addr) : It :=
  ⟨fun i H => ∃ xs x, SqL K H a xs ∧ xs[i]? = some x, fun i H x H' => H' = H ∧ ∀ xs, SqL K H a xs → xs[i]? = some x, fun i H => ∃ xs, SqL K H a xs ∧ xs.length ≤ i⟩
def Itt (K : PySem.W.Frag) (a : Addr) : It :=
  ⟨fun i H => ∃ xs x, SqT K H a xs ∧ xs[i]? = some x, fun i H x H' => H' = H ∧ ∀ xs, SqT K H a xs → xs[i]? = some x, fun i H => ∃ xs, SqT K H a xs ∧ xs.length ≤ i⟩
def Itr (lo : Int) (n : Nat) : It := ⟨fun i _ => i < n, fun i H x H' => H' = H ∧ x = .int (lo + i), fun i _ => n ≤ i⟩
theorem turn_list {P : Program} {w : World} {K : PySem.W.Frag} {tg : Expr} (a it : Addr) : Turn P w K tg (Itl K a) [it] it (fun i h => h.IsListIter it a i) where
  mem := by simp
  obj := fun i h st b hb => by
    have e : b = it := by simpa using hb
    subst e
    obtain ⟨o, e, c, d⟩ := st
    exact ⟨o, e, fun v z => by rw [d] at z; cases z⟩
  keep := fun i h h' st k => st.at fun o e => k it (by simp) o e
  item := by
    intro X hP hw hK hc i pins s σ H E I hf st hg
    subst hP hw hK
    obtain ⟨xs, x, hq, hx⟩ := hg
    obtain ⟨its, rv, p, hz⟩ := I.list hq
    obtain ⟨u, hu, ru⟩ := rv.get hx
    obtain ⟨f0, f1, f2, f3, f4, f5⟩ := hf it (by simp)
    refine wpAny_pyNext_list_item st p.isList (x := u) (by simpa using hu) fun h' st' sb => ?_
    have I1 : Inv X pins σ H { s with heap := h' } := I.turned (t' := s.toks) (fun b o hb e => (sb.2 b hb).trans e) f0 f1 f3 f4 f5
    obtain ⟨o, e, c, d⟩ := id st'
    exact ⟨u, rfl, go_of (s := { s with heap := h' }) e c d (by decide) ⟨x, H, I1, ru, ⟨rfl, fun ys hy => by rw [I.list_inj hy hq]; exact hx⟩, st', fun b hb => (hf b hb).1⟩⟩
  done := by
    intro X hP hw hK hc i pins s σ H E I hf st hg
    subst hP hw hK
    obtain ⟨xs, hq, hx⟩ := hg
    obtain ⟨its, rv, p, hz⟩ := I.list hq
    obtain ⟨f0, f1, f2, f3, f4, f5⟩ := hf it (by simp)
    have hl := rv.length
    exact wpAny_pyNext_list_end (I.ok.hd hc) st p.isList (by simp; omega) fun h' eb => ⟨rfl, I.turned (t' := s.toks) (fun b o hb e => eb b o hb e) f0 f1 f3 f4 f5⟩
  self := fun _ _ _ _ _ st h => wpAny_pyIter_listiter st h
theorem turn_range {P : Program} {w : World} {K : PySem.W.Frag} {tg : Expr} (it : Addr) (lo : Int) (n : Nat) : Turn P w K tg (Itr lo n) [it] it (fun i h => IsRangeIter h it (lo + (i : Nat) * 1) ((n : Int) - (i : Nat)) 1) where
  mem := by simp
  obj := fun i h st b hb => by
    have e : b = it := by simpa using hb
    subst e
    exact ⟨_, st, fun v z => by
      have z' : Data.fields _ = Data.cell v := z
      cases z'⟩
  keep := fun i h h' st k => k it (by simp) _ st
  item := by
    intro X hP hw hK hc i pins s σ H E I hf st hg
    subst hP hw hK
    obtain ⟨f0, f1, f2, f3, f4, f5⟩ := hf it (by simp)
    have W := Walks.range (prog := X.prog) (w := X.w) (I.ok.hd hc) it lo 1 n
    refine W.item i s _ _ hg st fun v h' tk hv st' kk => ?_
    obtain ⟨t, rfl⟩ := hv
    have I1 : Inv X pins σ H { s with heap := h', toks := tk } := I.turned (fun b o hb e => kk b o (by simpa using hb) e) f0 f1 f3 f4 f5
    refine ⟨_, rfl, go_of (s := { s with heap := h', toks := tk }) (n := "range_iterator") st' rfl rfl (by decide) ⟨.int (lo + i), H, I1, ⟨t, ?_⟩, ⟨rfl, rfl⟩, st', fun b hb => (hf b hb).1⟩⟩
    rw [Int.mul_one]
  done := by
    intro X hP hw hK hc i pins s σ H E I hf st hg
    subst hP hw hK
    obtain ⟨f0, f1, f2, f3, f4, f5⟩ := hf it (by simp)
    exact wpAny_pyNext_range_end (I.ok.hd hc) st (by have : n ≤ i := hg; omega) fun h' eb => ⟨rfl, I.turned (t' := s.toks) (fun b o hb e => eb b o hb e) f0 f1 f3 f4 f5⟩
  self := fun _ _ _ _ _ st h => wpAny_pyIter_rangeiter st h
end L2
namespace L2
open PySem PySem.Spec PyProof.Rows
section
variable {X : Cx} {tg : Expr}
def iList (K : PySem.W.Frag) (tl : TE) : TI := fun σ H R => tl σ H fun x H1 => ∃ a, x = .ref a ∧ (∃ xs, SqL K H1 a xs) ∧ R (Itl K a) H1
def iTup (K : PySem.W.Frag) (tl : TE) : TI := fun σ H R => tl σ H fun x H1 => ∃ a, x = .ref a ∧ (∃ xs, SqT K H1 a xs) ∧ R (Itt K a) H1
theorem pi_list {l : Expr} {tl : TE} (hl : PE X l tl) : PI X tg l (iList X.K tl) := by
  intro pins s σ H R I h
  refine thn (hl pins s σ H _ I h) fun v s1 ⟨x, H1, I1, r1, q1⟩ => ?_
  obtain ⟨a, e, ⟨xs, hq⟩, q⟩ := q1
  subst e
  cases r1
  obtain ⟨its, rv, p, hz⟩ := I1.list hq
  refine wpAny_pyIter_list p.isList ?_
  refine ⟨s1.heap.objs.size, [s1.heap.objs.size], _, _, H1, rfl, I1.kept (t' := s1.toks) fun b o e => Heap.get?_push_of_some _ e, turn_list a _, ⟨_, Heap.get?_push_size _ rfl, rfl, rfl⟩, fun b hb => ?_, q⟩
  have e : b = s1.heap.objs.size := by simpa using hb
  subst e
  exact I1.fpOk (Nat.le_refl _) (I1.hok.fresh (Nat.le_refl _))
theorem range_it {pins : List (Addr × Obj)} {σ : St} {H : Hp} {s : Shared} {R : It → Hp → Prop} {E : Value → Shared → Prop} {lo hi : Int} {t u v : Tok} {tk : Nat} (I : Inv X pins σ H s) (h1 : -(2 ^ 62) ≤ lo) (h2 : lo < 2 ^ 62) (h3 : -(2 ^ 62) ≤ hi) (h4 : hi < 2 ^ 62)
    (q : R (Itr lo (hi - lo).toNat) H) : wpAny (model X.prog X.w) X.A (pyIter (.ref s.heap.objs.size)) (PIE X pins σ tg R) E { s with heap := s.heap.push { cls := .type "range", data := .fields #[.int lo t, .int hi u, .int 1 v] }, toks := tk } := by
  refine wpAny_pyIter_range (IsRange.new ..) (small_one h1 h2 h3 h4) ?_
  have I1 : Inv X pins σ H { s with heap := s.heap.push { cls := .type "range", data := .fields #[.int lo t, .int hi u, .int 1 v] }, toks := tk } := I.kept fun b o e => Heap.get?_push_of_some _ e
  refine ⟨(s.heap.push { cls := .type "range", data := .fields #[.int lo t, .int hi u, .int 1 v] }).objs.size, [(s.heap.push { cls := .type "range", data := .fields #[.int lo t, .int hi u, .int 1 v] }).objs.size], _, _, H, rfl,
    I1.kept (t' := tk) fun b o e => Heap.get?_push_of_some _ e, turn_range _ lo (hi - lo).toNat, ?_, fun b hb => ?_, q⟩
  · have e1 : lo + ((0 : Nat) : Int) * 1 = lo := by simp
    have e2 : (((hi - lo).toNat : Nat) : Int) - ((0 : Nat) : Int) = Builtin.Range.rangeSize lo hi 1 := by rw [rangeSize_one]; split <;> omega
    show IsRangeIter _ _ (lo + ((0 : Nat) : Int) * 1) ((((hi - lo).toNat : Nat) : Int) - ((0 : Nat) : Int)) 1
    rw [e1, e2]
    exact Heap.get?_push_size _ rfl
  · have e : b = (s.heap.push { cls := .type "range", data := .fields #[.int lo t, .int hi u, .int 1 v] }).objs.size := by simpa using hb
    subst e
    exact I1.fpOk (Nat.le_refl _) (I1.hok.fresh (Nat.le_refl _))
def iRng1 (ta : TA) : TI := fun σ H R => ta σ H fun vs H1 => ∃ j : Int, vs = [.int j] ∧ -(2 ^ 62) ≤ j ∧ j < 2 ^ 62 ∧ R (Itr 0 j.toNat) H1
def iRng2 (ta : TA) : TI := fun σ H R => ta σ H fun vs H1 => ∃ i j : Int, vs = [.int i, .int j] ∧ (-(2 ^ 62) ≤ i ∧ i < 2 ^ 62 ∧ -(2 ^ 62) ≤ j ∧ j < 2 ^ 62) ∧ R (Itr i (j - i).toNat) H1
theorem pi_range1 {a : Expr} {ta : TA} {p pos : Pos} (hg : Gl X "range") (hm : X.mg "range" = none) (ha : PA X [a] ta) (hs : starEach [a] X.env = [(false, eval a X.env)] := by rfl) : PI X tg (.Call (.Name "range" p) [a] [] pos) (iRng1 ta) := by
  intro pins s σ H R I h
  refine Call_ (ld_blt I hg hm boot_range (PyProof.Rows.callWith_type1 (thn (ha pos pins s σ H _ I h) fun us s1 ⟨vs, H1, I1, r1, q1⟩ => ?_) hs rfl))
  obtain ⟨j, e, q1, q2, q⟩ := q1
  subst e
  cases r1 with
  | cons r rr =>
    cases rr
    obtain ⟨t, rfl⟩ := r
    exact call_range_1 (range_it I1 (by omega) (by omega) q1 q2 (by simpa using q))
theorem pi_range2 {a b : Expr} {ta : TA} {p pos : Pos} (hg : Gl X "range") (hm : X.mg "range" = none) (ha : PA X [a, b] ta) (hs : starEach [a, b] X.env = [(false, eval a X.env), (false, eval b X.env)] := by rfl) (hs2 : starEach [b] X.env = [(false, eval b X.env)] := by rfl) :
    PI X tg (.Call (.Name "range" p) [a, b] [] pos) (iRng2 ta) := by
  intro pins s σ H R I h
  refine Call_ (ld_blt I hg hm boot_range (PyProof.Rows.callWith_type1 (thn (ha pos pins s σ H _ I h) fun us s1 ⟨vs, H1, I1, r1, q1⟩ => ?_) (by rw [hs, hs2]) (by rw [hs2]; rfl)))
  obtain ⟨i, j, e, ⟨q1, q2, q3, q4⟩, q⟩ := q1
  subst e
  cases r1 with
  | cons r rr =>
    cases rr with
    | cons r' rr =>
      cases rr
      obtain ⟨t, rfl⟩ := r
      obtain ⟨t', rfl⟩ := r'
      exact call_range_2 (range_it I1 q1 q2 q3 q4 q)
def tFor (wi : TI) (g : TG) (tb : TS) : TS := fun D σ H => wi σ H fun J H1 => ∃ W : Nat → Nat → St → Hp → Prop, (∃ m, W 0 m σ H1) ∧ ∀ i m σ H, W i m σ H →
  (J.stop i H ∧ D.nx σ H) ∨ (J.go i H ∧ ∃ N : St → Hp → Prop, (∀ σ' H', N σ' H' → ∃ m', m' < m ∧ W (i + 1) m' σ' H') ∧ ∀ x H', J.yld i H x H' → g x σ H' fun σ2 H2 => tb { D with nx := N, ct := N, bk := D.nx } σ2 H2)
def pinsAt (fp : List Addr) (h : Heap) : List (Addr × Obj) := fp.filterMap fun b => (h.get? b).map fun o => (b, o)
theorem mem_pinsAt {fp : List Addr} {h : Heap} {b : Addr} {o : Obj} (hb : b ∈ fp) (e : h.get? b = some o) : (b, o) ∈ pinsAt fp h := List.mem_filterMap.mpr ⟨b, hb, by rw [e]; rfl⟩
theorem of_pinsAt {fp : List Addr} {h : Heap} {p : Addr × Obj} (hp : p ∈ pinsAt fp h) : p.1 ∈ fp ∧ h.get? p.1 = some p.2 := by
  obtain ⟨b, hb, e⟩ := List.mem_filterMap.mp hp
  cases q : h.get? b with
  | none => rw [q] at e; cases e
  | some o =>
    rw [q] at e
    have e' : (b, o) = p := Option.some.inj e
    subst e'
    exact ⟨hb, q⟩
theorem Inv.pinned {pins : List (Addr × Obj)} {σ : St} {H : Hp} {s : Shared} {fp : List Addr} (I : Inv X pins σ H s) (hf : ∀ b ∈ fp, FpOk X pins H b) (ho : ∀ b ∈ fp, ∃ o, s.heap.get? b = some o ∧ ∀ v, o.data ≠ .cell v) : Inv X (pins ++ pinsAt fp s.heap) σ H s :=
  I.pins_of fun p hp => (List.mem_append.mp hp).elim (fun z => I.pin p (List.mem_append_right _ z)) fun z => by
    obtain ⟨hb, e⟩ := of_pinsAt z
    obtain ⟨f0, f1, f2, _⟩ := hf p.1 hb
    obtain ⟨o, e', d⟩ := ho p.1 hb
    rw [e] at e'; cases e'
    exact ⟨e, f0, f1, f2, d⟩
theorem Inv.unpinned {pins pl : List (Addr × Obj)} {σ : St} {H : Hp} {s : Shared} (I : Inv X (pins ++ pl) σ H s) : Inv X pins σ H s := I.pins_of fun p hp => I.pin p (List.mem_append_right _ (List.mem_append_left _ hp))
theorem ps_for {iter : Expr} {body : List Stmt} {wi : TI} {g : TG} {tb : TS} {pos : Pos} (hp : PassesOwn (model X.prog X.w) X.A X.env X.xe) (hc : X.calm = true) (hi : PI X tg iter wi) (hg : PG X tg g) (hb : PSs X body tb)
    (hs : ∀ x, foldedSetIterable iter X.env x = pure x := by intro _; rfl) : PS X (.For tg iter body [] pos) (tFor wi g tb) := by
  intro pins s σ H D I h
  refine wpAny_For (thn (hi pins s σ H _ I h) fun v s1 h1 => thn h1 fun itv s2 h2 => ?_) hs
  obtain ⟨it, fp, tn, J, H2, e, I2, T, st2, f2, W, ⟨m0, w0⟩, turn⟩ := h2
  subst e
  -- what stays true of the iterator's objects through the loop
  have stat : ∀ {H' : Hp}, (∀ b ∈ fp, H' b = none) → ∀ b ∈ fp, FpOk X pins H' b := fun hn b hb => ⟨hn b hb, (f2 b hb).2⟩
  refine codeAny_forLoop_any (fun n s' => ∃ i σ' H', Inv X pins σ' H' s' ∧ tn i s'.heap ∧ (∀ b ∈ fp, H' b = none) ∧ W i n σ' H') ?_ m0 ⟨0, σ, H2, I2, st2, fun b hb => (f2 b hb).1, w0⟩
  rintro n s3 ⟨i, σ3, H3, I3, st3, fr3, w3⟩
  rcases turn i n σ3 H3 w3 with ⟨stop, qn⟩ | ⟨go, N, hN, step⟩
  · refine wpAny_passesOwn hp (thn (T.done X rfl rfl rfl hc i pins s3 σ3 H3 X.xe I3 (stat fr3) st3 stop) fun r s4 ⟨hr, I4⟩ => ?_)
    subst hr
    exact wpAny_execs_nil ⟨σ3, H3, I4, qn⟩
  · refine wpAny_passesOwn hp (thn (T.item X rfl rfl rfl hc i pins s3 σ3 H3 X.xe I3 (stat fr3) st3 go) fun r s4 ⟨u, hr, h4⟩ => ?_)
    subst hr
    refine wpAny_passesOwn hp (thn h4 fun _ s5 ⟨x, H5, I5, r5, y5, st5, fr5⟩ => ?_)
    have I5' := I5.pinned (stat fr5) (T.obj _ _ st5)
    refine wpAny_passesOwn hp (thn (hg _ s5 σ3 H5 x u _ I5' r5 (step x H5 y5)) fun _ s6 ⟨σ6, H6, I6, q6⟩ => ?_)
    refine wpAny_passesOwn hp (thn (hb _ s6 σ6 H6 _ I6 q6) fun f s7 q7 => ?_)
    have again : ∀ {σ7 : St} {H7 : Hp}, Inv X (pins ++ pinsAt fp s5.heap) σ7 H7 s7 → N σ7 H7 → ∃ m, m < n ∧ ∃ i σ' H', Inv X pins σ' H' s7 ∧ tn i s7.heap ∧ (∀ b ∈ fp, H' b = none) ∧ W i m σ' H' := fun {σ7 H7} I7 n7 => by
      obtain ⟨m', hm, w7⟩ := hN σ7 H7 n7
      refine ⟨m', hm, i + 1, σ7, H7, I7.unpinned, T.keep _ _ _ st5 fun b hb o e => (I7.pin (b, o) (List.mem_append_right _ (List.mem_append_right _ (mem_pinsAt hb e)))).1, fun b hb => ?_, w7⟩
      obtain ⟨o, e, d⟩ := T.obj _ _ st5 b hb
      exact (I7.pin (b, o) (List.mem_append_right _ (List.mem_append_right _ (mem_pinsAt hb e)))).2.1
    cases f with
    | next => obtain ⟨σ7, H7, I7, n7⟩ := q7; exact again I7 n7
    | cont => obtain ⟨σ7, H7, I7, n7⟩ := q7; exact again I7 n7
    | brk => obtain ⟨σ7, H7, I7, q7⟩ := q7; exact ⟨σ7, H7, I7.unpinned, q7⟩
    | ret v => obtain ⟨x7, σ7, H7, I7, r7, q7⟩ := q7; exact ⟨x7, σ7, H7, I7.unpinned, r7, q7⟩
end
theorem for_range {lo : Int} {n : Nat} {g : TG} {tb : TS} {D : Ends} {σ : St} {H : Hp} (Pv : Nat → St → Hp → Prop) (h0 : Pv 0 σ H)
    (hs : ∀ i σ H, i < n → Pv i σ H → g (.int (lo + i)) σ H fun σ2 H2 => tb { D with nx := Pv (i + 1), ct := Pv (i + 1), bk := D.nx } σ2 H2) (hd : ∀ σ H, Pv n σ H → D.nx σ H) :
    ∃ W : Nat → Nat → St → Hp → Prop, (∃ m, W 0 m σ H) ∧ ∀ i m σ H, W i m σ H →
      ((Itr lo n).stop i H ∧ D.nx σ H) ∨ ((Itr lo n).go i H ∧ ∃ N : St → Hp → Prop, (∀ σ' H', N σ' H' → ∃ m', m' < m ∧ W (i + 1) m' σ' H') ∧ ∀ x H', (Itr lo n).yld i H x H' → g x σ H' fun σ2 H2 => tb { D with nx := N, ct := N, bk := D.nx } σ2 H2) := by
  refine ⟨fun i m σ H => m = n - i ∧ i ≤ n ∧ Pv i σ H, ⟨n, by simp, Nat.zero_le _, h0⟩, ?_⟩
  rintro i m σ H ⟨rfl, hi, p⟩
  by_cases hlt : i < n
  · refine .inr ⟨hlt, Pv (i + 1), fun σ' H' p' => ⟨n - (i + 1), by omega, rfl, hlt, p'⟩, fun x H' y => ?_⟩
    obtain ⟨e, y⟩ := y
    subst e y
    exact hs i σ _ hlt p
  · have e : i = n := by omega
    subst e
    exact .inl ⟨Nat.le_refl _, hd σ H p⟩
end L2
namespace L2
open PySem PySem.Spec PyProof.Rows
abbrev R2 := V → V → Hp → VK → Prop
def OpR (X : Cx) (f : Value → Value → Sem Value) (r : R2) : Prop :=
  ∀ (pins : List (Addr × Obj)) (s : Shared) (σ : St) (H : Hp) (x y : V) (v u : Value) (Q : VK), Inv X pins σ H s → RelV x v → RelV y u → r x y H Q →
    wpAny (model X.prog X.w) X.A (f v u) (EP X pins σ Q) X.xe s
def UnR (X : Cx) (f : Value → Sem Value) (r : V → Hp → VK → Prop) : Prop :=
  ∀ (pins : List (Addr × Obj)) (s : Shared) (σ : St) (H : Hp) (x : V) (v : Value) (Q : VK), Inv X pins σ H s → RelV x v → r x H Q →
    wpAny (model X.prog X.w) X.A (f v) (EP X pins σ Q) X.xe s
def CallR (X : Cx) (f : Value) (r : List V → Hp → VK → Prop) : Prop :=
  ∀ (pins : List (Addr × Obj)) (s : Shared) (σ : St) (H : Hp) (xs : List V) (us : List Value) (Q : VK), Inv X pins σ H s → Vals xs us → r xs H Q →
    wpAny (model X.prog X.w) X.A (call f us) (EP X pins σ Q) X.xe s
def tOp (r : R2) (ta tb : TE) : TE := fun σ H Q => ta σ H fun x H1 => tb σ H1 fun y H2 => r x y H2 Q
def tUn (r : V → Hp → VK → Prop) (ta : TE) : TE := fun σ H Q => ta σ H fun x H1 => r x H1 Q
def rI (C : Int → Int → Prop) (g : Int → Int → V) : R2 := fun x y H Q => ∃ i j, x = .int i ∧ y = .int j ∧ C i j ∧ Q (g i j) H
def rI0 (g : Int → Int → V) : R2 := fun x y H Q => ∃ i j, x = .int i ∧ y = .int j ∧ Q (g i j) H
def rU (g : Int → V) : V → Hp → VK → Prop := fun x H Q => ∃ i, x = .int i ∧ Q (g i) H
section
variable {X : Cx} {a b c : Expr} {ta tb tc : TE} {pos : Pos}
theorem binT (ha : PE X a ta) (hb : PE X b tb) {pins : List (Addr × Obj)} {s : Shared} {σ : St} {H : Hp} {R : V → V → Hp → Prop} (I : Inv X pins σ H s)
    (h : ta σ H fun x H1 => tb σ H1 fun y H2 => R x y H2) {Q : Value → Shared → Prop} {f : Value → Value → Sem Value}
    (hf : ∀ v u s2 x y H2, Inv X pins σ H2 s2 → RelV x v → RelV y u → R x y H2 → wpAny (model X.prog X.w) X.A (f v u) Q X.xe s2) :
    wpAny (model X.prog X.w) X.A (eval a X.env) (fun v s₁ => wpAny (model X.prog X.w) X.A (eval b X.env) (fun u s₂ => wpAny (model X.prog X.w) X.A (f v u) Q X.xe s₂) X.xe s₁) X.xe s := by
  refine thn (ha pins s σ H _ I h) fun v s1 ⟨x, H1, I1, r1, q1⟩ => ?_
  refine thn (hb pins s1 σ H1 _ I1 q1) fun u s2 ⟨y, H2, I2, r2, q2⟩ => ?_
  exact hf v u s2 x y H2 I2 r1 r2 q2
theorem pe_op {op : Operator} {r : R2} (ho : OpR X (binaryOp op) r) (ha : PE X a ta) (hb : PE X b tb) : PE X (.BinOp a op b pos) (tOp r ta tb) := by
  intro pins s σ H Q I h
  exact wpAny_BinOp (binT ha hb I h fun v u s2 x y H2 I2 rx ry q => ho pins s2 σ H2 x y v u Q I2 rx ry q)
theorem pe_un {op : UnaryOp} {r : V → Hp → VK → Prop} (ho : UnR X (unaryOp op) r) (ha : PE X a ta) : PE X (.UnaryOp op a pos) (tUn r ta) := by
  intro pins s σ H Q I h
  exact UnaryOp_ (thn (ha pins s σ H _ I h) fun v s1 ⟨x, H1, I1, r1, q1⟩ => ho pins s1 σ H1 x v Q I1 r1 q1)
theorem opI {f : Value → Value → Sem Value} {C : Int → Int → Prop} {g : Int → Int → Int}
    (rule : ∀ (i j : Int) (t u : Tok) (s : Shared) (Q : Value → Shared → Prop) (E : Value → Shared → Prop), C i j → Q (.int (g i j) s.toks) { s with toks := s.toks + 1 } → wpAny (model X.prog X.w) X.A (f (.int i t) (.int j u)) Q E s) :
    OpR X f (rI C fun i j => .int (g i j)) := by
  intro pins s σ H x y v u Q I rx ry h
  obtain ⟨i, j, rfl, rfl, hc, q⟩ := h
  obtain ⟨t, rfl⟩ := rx
  obtain ⟨t', rfl⟩ := ry
  exact rule i j t t' s _ _ hc ⟨.int (g i j), H, I.tok _, ⟨_, rfl⟩, q⟩
theorem opI0 {f : Value → Value → Sem Value} {g : Int → Int → Int}
    (rule : ∀ (i j : Int) (t u : Tok) (s : Shared) (Q : Value → Shared → Prop) (E : Value → Shared → Prop), Q (.int (g i j) s.toks) { s with toks := s.toks + 1 } → wpAny (model X.prog X.w) X.A (f (.int i t) (.int j u)) Q E s) :
    OpR X f (rI0 fun i j => .int (g i j)) := by
  intro pins s σ H x y v u Q I rx ry h
  obtain ⟨i, j, rfl, rfl, q⟩ := h
  obtain ⟨t, rfl⟩ := rx
  obtain ⟨t', rfl⟩ := ry
  exact rule i j t t' s _ _ ⟨.int (g i j), H, I.tok _, ⟨_, rfl⟩, q⟩
theorem opB0 {f : Value → Value → Sem Value} {g : Int → Int → Bool}
    (rule : ∀ (i j : Int) (t u : Tok) (s : Shared) (Q : Value → Shared → Prop) (E : Value → Shared → Prop), Q (.bool (g i j)) s → wpAny (model X.prog X.w) X.A (f (.int i t) (.int j u)) Q E s) :
    OpR X f (rI0 fun i j => .bl (g i j)) := by
  intro pins s σ H x y v u Q I rx ry h
  obtain ⟨i, j, rfl, rfl, q⟩ := h
  obtain ⟨t, rfl⟩ := rx
  obtain ⟨t', rfl⟩ := ry
  exact rule i j t t' s _ _ ⟨.bl (g i j), H, I, rfl, q⟩
def CDiv (i j : Int) : Prop := 0 < j ∧ j < 1073741824
def CPow (i j : Int) : Prop := 0 ≤ j ∧ j ≤ 1000000 ∧ i.natAbs < 2 ^ 64
def CMul (i j : Int) : Prop := (-(2 ^ 64) < i ∧ i < 2 ^ 64) ∨ (-(2 ^ 64) < j ∧ j < 2 ^ 64)
theorem CMul.ok {i j : Int} (h : CMul i j) : IntMulOk i j := by
  rcases h with ⟨h1, h2⟩ | ⟨h1, h2⟩
  · exact .of_left (intBits_le_64 h1 h2)
  · exact .of_right (intBits_le_64 h1 h2)
theorem op_add : OpR X (binaryOp .Add) (rI0 fun i j => .int (i + j)) := opI0 fun _ _ _ _ _ _ _ q => add_int q
theorem op_sub : OpR X (binaryOp .Sub) (rI0 fun i j => .int (i - j)) := opI0 fun _ _ _ _ _ _ _ q => sub_int q
theorem op_mul : OpR X (binaryOp .Mult) (rI CMul fun i j => .int (i * j)) := opI fun _ _ _ _ _ _ _ hc q => mul_int q hc.ok
theorem op_fdiv : OpR X (binaryOp .FloorDiv) (rI CDiv fun i j => .int (i / j)) := opI fun i j _ _ _ _ _ hc q => by
  have h1 : (0 : Int) < j := hc.1
  have h2 : j < 1073741824 := hc.2
  exact floordiv_int (by omega) (by rw [Int.fdiv_eq_ediv_of_nonneg i (by omega)]; exact q) (.inl (PyProof.noPylong_small (by omega)))
theorem op_mod : OpR X (binaryOp .Mod) (rI (fun _ j => 0 < j) fun i j => .int (i % j)) := opI fun i j _ _ _ _ _ hc q => by
  have h1 : (0 : Int) < j := hc
  exact mod_int' (by omega) (by rw [Int.fmod_eq_emod_of_nonneg i (by omega)]; exact q)
theorem op_pow : OpR X (binaryOp .Pow) (rI CPow fun i j => .int (i ^ j.toNat)) := opI fun _ _ _ _ _ _ _ hc q => pow_int_small hc.1 hc.2.1 hc.2.2 q
theorem unI {f : Value → Sem Value} {g : Int → Int}
    (rule : ∀ (i : Int) (t : Tok) (s : Shared) (Q : Value → Shared → Prop) (E : Value → Shared → Prop), Q (.int (g i) s.toks) { s with toks := s.toks + 1 } → wpAny (model X.prog X.w) X.A (f (.int i t)) Q E s) :
    UnR X f (rU fun i => .int (g i)) := by
  intro pins s σ H x v Q I rx h
  obtain ⟨i, rfl, q⟩ := h
  obtain ⟨t, rfl⟩ := rx
  exact rule i t s _ _ ⟨.int (g i), H, I.tok _, ⟨_, rfl⟩, q⟩
theorem un_neg : UnR X (unaryOp .USub) (rU fun i => .int (-i)) := unI fun _ _ _ _ _ q => neg_int q
end
section
variable {X : Cx} {a b c : Expr} {ta tb tc : TE} {pos : Pos}
theorem op_lt : OpR X (compareOp .Lt) (rI0 fun i j => .bl (decide (i < j))) := opB0 fun _ _ _ _ _ _ _ q => lt_int q
theorem op_le : OpR X (compareOp .LtE) (rI0 fun i j => .bl (decide (i ≤ j))) := opB0 fun _ _ _ _ _ _ _ q => le_int q
theorem op_gt : OpR X (compareOp .Gt) (rI0 fun i j => .bl (decide (j < i))) := opB0 fun _ _ _ _ _ _ _ q => gt_int q
theorem op_ge : OpR X (compareOp .GtE) (rI0 fun i j => .bl (decide (j ≤ i))) := opB0 fun _ _ _ _ _ _ _ q => ge_int q
theorem OpR.or {f : Value → Value → Sem Value} {r r' : R2} (h : OpR X f r) (h' : OpR X f r') : OpR X f (fun x y H Q => r x y H Q ∨ r' x y H Q) := by
  intro pins s σ H x y v u Q I rx ry q
  rcases q with q | q
  · exact h pins s σ H x y v u Q I rx ry q
  · exact h' pins s σ H x y v u Q I rx ry q
theorem nomark (b : Expr) {op : CmpOp} (h : op ≠ .In := by decide) (h2 : op ≠ .NotIn := by decide) : behindInMarks op b = false := by
  have e1 : (op == CmpOp.In) = false := by cases op <;> first | rfl | exact absurd rfl h
  have e2 : (op == CmpOp.NotIn) = false := by cases op <;> first | rfl | exact absurd rfl h2
  cases b <;> simp [behindInMarks, e1, e2]
theorem pe_cmpR {op : CmpOp} {r : R2} (ho : OpR X (compareOp op) r) (ha : PE X a ta) (hb : PE X b tb) (hm : behindInMarks op b = false) : PE X (.Compare a [op] [b] pos) (tOp r ta tb) := by
  intro pins s σ H Q I h
  exact wpAny_Compare1 (binT ha hb I h fun v u s2 x y H2 I2 rx ry q => ho pins s2 σ H2 x y v u Q I2 rx ry q) hm
def tTest (t : TE) : TT := fun σ H Q => t σ H fun x H' => ∃ k, x = .bl k ∧ Q k H'
theorem pt_cmpR {op : CmpOp} {r : R2} (ho : OpR X (compareOp op) r) (ha : PE X a ta) (hb : PE X b tb) (hm : behindInMarks op b = false) : PT X (.Compare a [op] [b] pos) (tTest (tOp r ta tb)) := by
  intro pins s σ H Q I h
  refine wpAny_isTrue_Compare1 (thn (ha pins s σ H _ I h) fun v s1 ⟨x, H1, I1, r1, q1⟩ => thn (hb pins s1 σ H1 _ I1 q1) fun u s2 ⟨y, H2, I2, r2, q2⟩ =>
    thn (ho pins s2 σ H2 x y v u _ I2 r1 r2 q2) fun c s3 ⟨z, H3, I3, r3, k, e, q3⟩ => ?_) hm
  subst e
  cases r3
  exact wpAny_truthy_bool ⟨H3, I3, q3⟩
def tChain (r r' : R2) (ta tb tc : TE) : TE := fun σ H Q => ta σ H fun x H1 => tb σ H1 fun y H2 => r x y H2 fun z H3 => ∃ k, z = .bl k ∧
  (if k = true then tc σ H3 fun w' H4 => r' y w' H4 Q else Q (.bl false) H3)
theorem pe_chain {op op' : CmpOp} {r r' : R2} (ho : OpR X (compareOp op) r) (ho' : OpR X (compareOp op') r') (ha : PE X a ta) (hb : PE X b tb) (hc : PE X c tc)
    (hm : lastMarks [op, op'] [b, c] = false := by with_unfolding_all rfl) : PE X (.Compare a [op, op'] [b, c] pos) (tChain r r' ta tb tc) := by
  intro pins s σ H Q I h
  refine Compare_chain (thn (ha pins s σ H _ I h) fun v s1 ⟨x, H1, I1, r1, q1⟩ => chain_link (thn (hb pins s1 σ H1 _ I1 q1) fun u s2 ⟨y, H2, I2, r2, q2⟩ =>
    thn (ho pins s2 σ H2 x y v u _ I2 r1 r2 q2) fun d s3 ⟨z, H3, I3, r3, k, e, q3⟩ => ?_)) hm
  subst e
  cases r3
  refine wpAny_truthy_bool ?_
  cases k with
  | false => exact ite_ff ⟨.bl false, H3, I3, rfl, q3⟩
  | true => exact ite_tt (chain_last (thn (hc pins s3 σ H3 _ I3 q3) fun w' s4 ⟨z', H4, I4, r4, q4⟩ => ho' pins s4 σ H4 y z' u w' Q I4 r2 r4 q4))
theorem line63 : (sizeLine : Nat) < 2 ^ 63 := by rw [sizeLine_eq]; decide
theorem vals1 {x : V} {us : List Value} (r : Vals [x] us) : ∃ u, us = [u] ∧ RelV x u := by
  cases r with
  | cons r1 r2 => cases r2; exact ⟨_, rfl, r1⟩
theorem vals2 {x y : V} {us : List Value} (r : Vals [x, y] us) : ∃ u w', us = [u, w'] ∧ RelV x u ∧ RelV y w' := by
  cases r with
  | cons r1 r2 =>
    cases r2 with
    | cons r3 r4 => cases r4; exact ⟨_, _, rfl, r1, r3⟩
theorem call_abs : CallR X (.builtin "abs") (fun xs H Q => ∃ i, xs = [.int i] ∧ Q (.int (if i < 0 then -i else i)) H) := by
  intro pins s σ H xs us Q I r h
  obtain ⟨i, rfl, q⟩ := h
  obtain ⟨u, rfl, t, rfl⟩ := vals1 r
  exact call_abs_int fun u tk => ⟨.int (if i < 0 then -i else i), H, I.tok _, ⟨_, rfl⟩, q⟩
theorem call_max2 (hc : X.calm = true) : CallR X (.builtin "max") (fun xs H Q => ∃ i j, xs = [.int i, .int j] ∧ Q (.int (if j > i then j else i)) H) := by
  intro pins s σ H xs us Q I r h
  obtain ⟨i, j, rfl, q⟩ := h
  obtain ⟨u, w', rfl, ⟨t, rfl⟩, ⟨t', rfl⟩⟩ := vals2 r
  refine max_two_ints (I.ok.hd hc) fun h' tk k => ⟨_, H, I.kept k, ?_, q⟩
  by_cases hj : j > i
  · rw [if_pos hj, if_pos hj]; exact ⟨_, rfl⟩
  · rw [if_neg hj, if_neg hj]; exact ⟨_, rfl⟩
theorem call_min2 (hc : X.calm = true) : CallR X (.builtin "min") (fun xs H Q => ∃ i j, xs = [.int i, .int j] ∧ Q (.int (if j < i then j else i)) H) := by
  intro pins s σ H xs us Q I r h
  obtain ⟨i, j, rfl, q⟩ := h
  obtain ⟨u, w', rfl, ⟨t, rfl⟩, ⟨t', rfl⟩⟩ := vals2 r
  refine min_two_ints (I.ok.hd hc) fun h' tk k => ⟨_, H, I.kept k, ?_, q⟩
  by_cases hj : j < i
  · rw [if_pos hj, if_pos hj]; exact ⟨_, rfl⟩
  · rw [if_neg hj, if_neg hj]; exact ⟨_, rfl⟩
theorem call_int1 : CallR X (.type "int") (fun xs H Q => (∃ i, xs = [.int i] ∧ Q (.int i) H) ∨ ∃ k, xs = [.bl k] ∧ Q (.int (if k then 1 else 0)) H) := by
  intro pins s σ H xs us Q I r h
  rcases h with ⟨i, rfl, q⟩ | ⟨k, rfl, q⟩
  · obtain ⟨u, rfl, t, rfl⟩ := vals1 r
    exact call_int_int ⟨.int i, H, I, ⟨_, rfl⟩, q⟩
  · obtain ⟨u, rfl, r1⟩ := vals1 r
    cases r1
    exact call_int_bool ⟨.int (if k then 1 else 0), H, I.tok _, ⟨_, rfl⟩, q⟩
def LenV (K : PySem.W.Frag) (x : V) (H : Hp) (n : Nat) : Prop :=
  match x with
  | .str y => y.length ≤ sizeLine ∧ n = y.length
  | .byt y => y.size ≤ sizeLine ∧ n = y.size
  | .ref p => (∃ xs, SqL K H p xs ∧ n = xs.length) ∨ ∃ xs, SqT K H p xs ∧ n = xs.length
  | _ => False
theorem call_len : CallR X (.builtin "len") (fun xs H Q => ∃ x n, xs = [x] ∧ LenV X.K x H n ∧ Q (.int n) H) := by
  intro pins s σ H xs us Q I r h
  obtain ⟨x, n, rfl, e, q⟩ := h
  obtain ⟨u, rfl, rx⟩ := vals1 r
  have hl := line63
  have hs : sizeLine = 16777216 := sizeLine_eq
  cases x with
  | str y =>
    obtain ⟨t, rfl⟩ := rx
    obtain ⟨hy, e'⟩ : y.length ≤ sizeLine ∧ n = y.length := e
    subst e'
    exact len_str (by omega) ⟨.int _, H, I.tok _, ⟨_, rfl⟩, q⟩
  | byt y =>
    obtain ⟨t, rfl⟩ := rx
    obtain ⟨hy, e'⟩ : y.size ≤ sizeLine ∧ n = y.size := e
    subst e'
    exact PySem.W.len_bytes (by omega) ⟨.int _, H, I.tok _, ⟨_, rfl⟩, q⟩
  | ref p =>
    cases rx
    have e' : (∃ xs, SqL X.K H p xs ∧ n = xs.length) ∨ ∃ xs, SqT X.K H p xs ∧ n = xs.length := e
    rcases e' with ⟨xs, hx, e'⟩ | ⟨xs, hx, e'⟩
    · subst e'
      obtain ⟨its, r', pl, hz⟩ := I.list hx
      have hlen := r'.length
      exact Calls.call_len_list pl.isList (by simp only [List.size_toArray]; omega) ⟨.int xs.length, H, I.tok _, ⟨_, by simp only [List.size_toArray]; rw [hlen]⟩, q⟩
    · subst e'
      obtain ⟨its, r', pl, hz⟩ := I.tuple hx
      have hlen := r'.length
      exact len_tuple pl (by simp only [List.size_toArray]; omega) ⟨.int xs.length, H, I.tok _, ⟨_, by simp only [List.size_toArray]; rw [hlen]⟩, q⟩
  | _ => exact (show False from e).elim
end
end L2
namespace L2
open PySem PySem.Spec PyProof.Rows
structure ObjM (h : Heap) (x dx C : Addr) (mA : Str → Option Value) : Prop where
  obj : h.get? x = some (PySem.W.instObj C dx)
  ns : h.Ns1 dx mA
  ne : dx ≠ x
theorem lookIn_ns {h : Heap} {dx : Addr} {mA : Str → Option Value} (n : h.Ns1 dx mA) : ∃ od, h.get? dx = some od ∧ ∀ name, PySem.W.lookIn name od = some (mA name) := by
  obtain ⟨o, es, ep, ho, hd, hk, _, hm⟩ := n
  refine ⟨o, ho, fun name => ?_⟩
  have e := hm name
  unfold nsFind findBy at e
  rw [← Array.find?_toList] at e
  unfold PySem.W.lookIn
  rw [hd]
  dsimp only
  split
  · rename_i y q
    rw [q] at e
    exact congrArg some e
  · rename_i q
    rw [q] at e
    have a : es.toList.any (·.refKey) = false := by
      rw [List.any_eq_false]
      intro y hy
      obtain ⟨z, t, hkey⟩ := hk y (Array.mem_toList_iff.mp hy)
      simp [DictEntry.refKey, hkey]
    have a' : ¬ es.toList.any (·.refKey) = true := by rw [a]; exact Bool.false_ne_true
    rw [if_neg a']
    exact congrArg some e
theorem ObjM.look {h : Heap} {x dx C : Addr} {mA : Str → Option Value} (I : ObjM h x dx C mA) : ∃ od, PySem.W.InstAt h x (PySem.W.instObj C dx) C (some od) ∧ ∀ name, PySem.W.lookIn name od = some (mA name) :=
  let ⟨od, ho, hl⟩ := lookIn_ns I.ns
  ⟨od, ⟨I.obj, rfl, rfl, ho⟩, hl⟩
section
variable {prog : Program} {w : World} {A : Around} {E : Value → Shared → Prop} {s : Shared} {K : PySem.W.Frag} {x dx C f : Addr} {mA : Str → Option Value} {name : Str} {v : Value}
theorem get_map {expr : Bool} {Q : Value → Shared → Prop} (X : K.In s.heap) (I : ObjM s.heap x dx C mA) (hg : PySem.W.plainGet K C name = true) (hh : PySem.W.hasDictIn K C = true)
    (ha : PySem.W.findIn K (.ref C) name = some none) (hv : mA name = some v) (hv' : PySem.W.handedIn v = true) (h : Q v { s with toks := s.toks + 1 }) :
    wpAny (model prog w) A (getAttr (.ref x) name expr) Q E s := by
  obtain ⟨od, J, hl⟩ := I.look
  exact PySem.W.get_value X J (PySem.W.plainGet_of hg).1 (PySem.W.findObj_own hh ha rfl (by rw [hl, hv])) hv' h
theorem get_meth {pl : Sem Bool} {Q : Value × List Value → Shared → Prop} (X : K.In s.heap) (I : ObjM s.heap x dx C mA) (hg : PySem.W.plainGet K C name = true)
    (hf : PySem.W.findIn K (.ref C) name = some (some (.ref f))) (ht : PySem.W.isFn K (.ref f) = true) (hv : mA name = none) (h : Q (.ref f, [.ref x]) s) :
    wpAny (model prog w) A (getMethod (.ref x) name pl) Q E s := by
  obtain ⟨od, J, hl⟩ := I.look
  exact PySem.W.method_fn X J (PySem.W.plainGet_of hg).1 (PySem.W.plainGet_of hg).2 hf (beq_iff_eq.mp ht) (by show (PySem.W.lookIn name od).map (·.isSome) = some false; rw [hl, hv]; rfl) h
theorem set_map {ns : List Str} {Q : Unit → Shared → Prop} (X : K.In s.heap) (I : ObjM s.heap x dx C mA)
    (hs : PySem.W.findIn K (.ref C) "__setattr__" = some (some (.builtin "object.__setattr__"))) (hp : PySem.W.plainOver K C = true) (ht : PySem.W.takerIn K C name = some none) (hh : PySem.W.hasDictIn K C = true)
    (hw : PySem.Within mA ns) (hsz : ns.length ≤ sizeLine)
    (h : ∀ h', ObjM h' x dx C (fun y => if y = name then some v else mA y) → Heap.SameBut dx s.heap h' → Q () { s with heap := h', toks := s.toks + 2 }) :
    wpAny (model prog w) A (setAttr (.ref x) name v) Q E s := by
  obtain ⟨od, J, hl⟩ := I.look
  refine PySem.W.set_plain X J hs (PySem.W.osa_open (s := { s with toks := s.toks + 1 }) (r := none) X J hp ht fun b => ?_)
  obtain ⟨cd, hc, hd'⟩ := PySem.W.any_some hh
  have hx : s.heap.get? x = some ⟨.ref C, some dx, .plain, #[]⟩ := I.obj
  refine wpAny_bind (wpAny_pure (wpAny_bind (wpAny_bind (wpAny_loadPart hx (wpAny_bind (PySem.W.Looks.here (s := { s with toks := s.toks + 1 }) (PySem.W.looks_clsIn X hc) ?_))))))
  rw [hd']
  refine wpAny_pure (a := some dx) (wpAny_bind (wpAny_pure (wpAny_bind ?_)))
  refine wpAny_nsSet1 (s := { s with toks := s.toks + 1 }) I.ns fun h' hn2 hs2 => ?_
  obtain ⟨oD, esD, epD, hoD, hdD, hcD⟩ := hn2.count (PySem.Within.cons name v hw)
  refine wpAny_bind (wpAny_lookBehind hoD (by rw [hdD]; exact pastItsLine_dict (Nat.le_trans hcD (by rw [List.length_cons]; omega))) ?_)
  exact wpAny_pure (h _ ⟨(hs2.2 _ (Ne.symm I.ne)).trans I.obj, hn2, I.ne⟩ hs2)
theorem make_map {R : Result → Shared → Prop} {vs : List Value} {kw : List (Str × Value)} (X : K.In s.heap) (hm : PySem.W.makesIn K C = true)
    (hi : PySem.W.findIn K (.ref C) "__init__" = some (some (.ref f))) (hf : PySem.W.typeIn K (.ref f) = some (.type "function"))
    (h : codeAny (model prog w) (A.under (.builtin "type.__call__" ⟨.ref C :: vs, kw⟩)) (.call (.ref f) ⟨.ref (s.heap.objs.size + 1) :: vs, kw⟩) (PySem.W.InitBack (s.heap.objs.size + 1) R)
      { s with heap := (s.heap.push PySem.W.emptyDict).push (PySem.W.instObj C s.heap.objs.size) }) :
    codeAny (model prog w) A (.call (.ref C) ⟨vs, kw⟩) R s := by
  obtain ⟨hh, g, d, t, os⟩ := s
  exact PySem.W.make_core (PySem.W.makes_of X hm) (PySem.W.looks_findIn X hi) (fun self => PySem.W.bind_fn X self hf) (.inl rfl) h
end
def putF (f : Str) (v : V) : List (Str × V) → List (Str × V)
  | [] => [(f, v)]
  | (g, x) :: r => if g = f then (g, v) :: r else (g, x) :: putF f v r
theorem lookup_putF (f g : Str) (v : V) : ∀ fs : List (Str × V), (putF f v fs).lookup g = if g = f then some v else fs.lookup g
  | [] => by
    show List.lookup g [(f, v)] = _
    by_cases h : g = f
    · have hb : (g == f) = true := beq_iff_eq.mpr h
      simp only [List.lookup, hb, if_pos h]
    · have hb : (g == f) = false := beq_eq_false_iff_ne.mpr h
      simp only [List.lookup, hb, if_neg h]
  | (k, x) :: r => by
    have ih := lookup_putF f g v r
    rw [show putF f v ((k, x) :: r) = (if k = f then (k, v) :: r else (k, x) :: putF f v r) from rfl]
    by_cases hk : k = f
    · rw [if_pos hk]
      by_cases h : g = k
      · have hb : (g == k) = true := beq_iff_eq.mpr h
        simp only [List.lookup, hb, if_pos (h.trans hk)]
      · have hb : (g == k) = false := beq_eq_false_iff_ne.mpr h
        simp only [List.lookup, hb, if_neg (fun e : g = f => h (e.trans hk.symm))]
    · rw [if_neg hk]
      by_cases h : g = k
      · have hb : (g == k) = true := beq_iff_eq.mpr h
        simp only [List.lookup, hb, if_neg (fun e : g = f => hk (h.symm.trans e))]
      · have hb : (g == k) = false := beq_eq_false_iff_ne.mpr h
        simp only [List.lookup, hb]
        exact ih
theorem keys_putF (f : Str) (v : V) : ∀ fs : List (Str × V), f ∈ (putF f v fs).map (·.1) ∧ ∀ g, g ∈ fs.map (·.1) → g ∈ (putF f v fs).map (·.1)
  | [] => ⟨by simp [putF], fun g h => by simp at h⟩
  | (k, x) :: r => by
    obtain ⟨i1, i2⟩ := keys_putF f v r
    rw [show putF f v ((k, x) :: r) = (if k = f then (k, v) :: r else (k, x) :: putF f v r) from rfl]
    by_cases hk : k = f
    · rw [if_pos hk]
      subst hk
      exact ⟨by simp, fun g h => by simpa using h⟩
    · rw [if_neg hk]
      refine ⟨?_, fun g h => ?_⟩
      · rw [List.map_cons]
        exact List.mem_cons_of_mem _ i1
      · rw [List.map_cons] at h ⊢
        rcases List.mem_cons.mp h with e | e
        · exact List.mem_cons.mpr (.inl e)
        · exact List.mem_cons_of_mem _ (i2 g e)
theorem length_putF (f : Str) (v : V) : ∀ fs : List (Str × V), (putF f v fs).length ≤ fs.length + 1
  | [] => by simp [putF]
  | (k, x) :: r => by
    have ih := length_putF f v r
    rw [show putF f v ((k, x) :: r) = (if k = f then (k, v) :: r else (k, x) :: putF f v r) from rfl]
    by_cases hk : k = f
    · rw [if_pos hk, List.length_cons, List.length_cons]; omega
    · rw [if_neg hk, List.length_cons, List.length_cons]; omega
theorem RelO.some_of {v : V} {o : Option Value} (r : RelO (some v) o) : ∃ u, o = some u ∧ RelV v u := by
  cases o with
  | none => exact (show False from r).elim
  | some u => exact ⟨u, rfl, r⟩
theorem RelO.none_of {o : Option Value} (r : RelO none o) : o = none := by
  cases o with
  | none => rfl
  | some u => exact (show False from r).elim
theorem handed_of {v : V} {u : Value} (r : RelV v u) : PySem.W.handedIn u = true := by
  cases v with
  | non => cases (show u = Value.none from r); rfl
  | bl b => cases (show u = Value.bool b from r); rfl
  | int i => obtain ⟨t, e⟩ := (show ∃ t, u = Value.int i t from r); cases e; rfl
  | str x => obtain ⟨t, e⟩ := (show ∃ t, u = Value.str x t from r); cases e; rfl
  | byt b => obtain ⟨t, e⟩ := (show ∃ t, u = Value.bytes b t from r); cases e; rfl
  | flt b => obtain ⟨t, e⟩ := (show ∃ t, u = Value.float b t from r); cases e; rfl
  | ref a => cases (show u = Value.ref a from r); rfl
  | ty n => cases (show u = Value.type n from r); rfl
section
variable {P : Program} {w : World} {H H' : Hp} {h h' : Heap} {a C dx : Addr} {fs fs' : List (Str × V)}
theorem ins_get (hok : HOk P w H h) (e : H a = some (.ins C dx fs)) : ∃ mA, ObjM h a dx C mA ∧ (∀ f, RelO (fs.lookup f) (mA f)) ∧ PySem.Within mA (fs.map (·.1)) ∧ fs.length ≤ 1000 ∧ H dx = some (.own a) := by
  obtain ⟨d, z, ne, ob, mA, n, r, q⟩ := (show ObjOk P w H h a (.ins C dx fs) from hok a _ e)
  exact ⟨mA, ⟨ob, n, ne⟩, r, q, z, d⟩
end
structure Cls (K : PySem.W.Frag) (C : Addr) : Prop where
  pg : PySem.W.plainGet K C Str.empty = true
  hd : PySem.W.hasDictIn K C = true
  po : PySem.W.plainOver K C = true
  sa : PySem.W.findIn K (.ref C) "__setattr__" = some (some (.builtin "object.__setattr__"))
theorem Cls.get {K : PySem.W.Frag} {C : Addr} (c : Cls K C) (f : Str) : PySem.W.plainGet K C f = true := c.pg
def NoAttr (K : PySem.W.Frag) (C : Addr) (f : Str) : Prop := PySem.W.findIn K (.ref C) f = some none
theorem NoAttr.taker {K : PySem.W.Frag} {C : Addr} {f : Str} (n : NoAttr K C f) : PySem.W.takerIn K C f = some none := by
  unfold PySem.W.takerIn
  rw [show PySem.W.findIn K (.ref C) f = some none from n]
  rfl
structure Meth (K : PySem.W.Frag) (C : Addr) (m : Str) (f : Addr) : Prop where
  at_ : PySem.W.findIn K (.ref C) m = some (some (.ref f))
  fn : PySem.W.isFn K (.ref f) = true
  kp : PySem.W.keepIn K (.ref f) = true
section
variable {X : Cx} {pins : List (Addr × Obj)} {σ : St} {H : Hp} {s : Shared} {a C dx : Addr} {fs : List (Str × V)} {f : Str} {v : V} {A : Around} {E : Value → Shared → Prop}
theorem getattr_ok {b : Bool} {Q : Value → Shared → Prop} (I : Inv X pins σ H s) (e : H a = some (.ins C dx fs)) (c : Cls X.K C) (n : NoAttr X.K C f) (l : fs.lookup f = some v)
    (h : ∀ u s', Inv X pins σ H s' → RelV v u → Q u s') : wpAny (model X.prog X.w) A (getAttr (.ref a) f b) Q E s := by
  obtain ⟨mA, O, r, _, _, _⟩ := ins_get I.hok e
  obtain ⟨u, hu, ru⟩ := RelO.some_of (v := v) (o := mA f) (by rw [← l]; exact r f)
  exact get_map I.kIn O (c.get f) c.hd n hu (handed_of ru) (h u _ (I.tok _) ru)
theorem getmeth_ok {m : Str} {g : Addr} {pl : Sem Bool} {Q : Value × List Value → Shared → Prop} (I : Inv X pins σ H s) (e : H a = some (.ins C dx fs)) (c : Cls X.K C) (k : Meth X.K C m g) (l : fs.lookup m = none)
    (h : Q (.ref g, [.ref a]) s) : wpAny (model X.prog X.w) A (getMethod (.ref a) m pl) Q E s := by
  obtain ⟨mA, O, r, _, _, _⟩ := ins_get I.hok e
  have hn : mA m = none := RelO.none_of (by rw [← l]; exact r m)
  exact get_meth I.kIn O (c.get m) k.at_ k.fn hn h
theorem setattr_ok {y : V} {u : Value} {Q : Unit → Shared → Prop} (I : Inv X pins σ H s) (e : H a = some (.ins C dx fs)) (c : Cls X.K C) (n : NoAttr X.K C f) (hl : fs.length < 1000) (ry : RelV y u)
    (h : ∀ s', Inv X pins σ (upd H a (.ins C dx (putF f y fs))) s' → Q () s') : wpAny (model X.prog X.w) A (setAttr (.ref a) f u) Q E s := by
  obtain ⟨mA, O, r, wi, _, ho⟩ := ins_get I.hok e
  have hz : (fs.map (·.1)).length ≤ sizeLine := by rw [List.length_map, sizeLine_eq]; omega
  refine set_map I.kIn O c.sa c.po n.taker c.hd wi hz fun h' O' sb => h _ ?_
  have hd : ∃ o, h'.get? dx = some o := let ⟨o, _, _, e', _⟩ := O'.ns; ⟨o, e'⟩
  refine I.write (x := a) (e := dx) (by rw [e]; exact True.intro) (.inr ho) (fun b q hb z => (sb.2 b hb).trans z) hd ?_
  refine ⟨by rw [upd_ne O.ne]; exact ho, ?_, O.ne, O'.obj, _, O'.ns, fun g => ?_, fun g hg => ?_⟩
  · have := length_putF f y fs; omega
  · show RelO ((putF f y fs).lookup g) (if g = f then some u else mA g)
    rw [lookup_putF]
    by_cases q : g = f
    · rw [if_pos q, if_pos q]; exact ry
    · rw [if_neg q, if_neg q]; exact r g
  · by_cases q : g = f
    · rw [q]; exact (keys_putF f y fs).1
    · refine (keys_putF f y fs).2 g (wi g fun z => hg ?_)
      show (if g = f then some u else mA g) = none
      rw [if_neg q]; exact z
theorem Inv.made (I : Inv X pins σ H s) : Inv X pins σ (upd (upd H s.heap.objs.size (.own (s.heap.objs.size + 1))) (s.heap.objs.size + 1) (.ins C s.heap.objs.size []))
    { s with heap := (s.heap.push PySem.W.emptyDict).push (PySem.W.instObj C s.heap.objs.size) } := by
  have e1 : (s.heap.push PySem.W.emptyDict).get? s.heap.objs.size = some PySem.W.emptyDict := Heap.get?_push_size s.heap rfl
  have e2 : ((s.heap.push PySem.W.emptyDict).push (PySem.W.instObj C s.heap.objs.size)).get? (s.heap.objs.size + 1) = some (PySem.W.instObj C s.heap.objs.size) := by
    have := Heap.get?_push_size (s.heap.push PySem.W.emptyDict) (o := PySem.W.instObj C s.heap.objs.size) rfl
    rwa [Heap.size_push] at this
  have e3 : (s.heap.push PySem.W.emptyDict).Ns s.heap.objs.size (fun _ => none) := ⟨PySem.W.emptyDict, #[], _, e1, rfl, (fun e he => absurd he (by simp)), fun _ => rfl⟩
  have I1 := I.laid (a := s.heap.objs.size) (o := .own (s.heap.objs.size + 1)) (h' := s.heap.push PySem.W.emptyDict) (t' := s.toks) (fun b u q => Heap.get?_push_of_some _ q) (Nat.le_refl _) ⟨_, e1⟩
  refine I1.laid (a := s.heap.objs.size + 1) (o := .ins C s.heap.objs.size []) (t' := s.toks) (fun b u q => Heap.get?_push_of_some _ q) (Nat.le_of_eq (Heap.size_push _ _)) ?_
  have ne : s.heap.objs.size ≠ s.heap.objs.size + 1 := Nat.ne_of_lt (Nat.lt_succ_self _)
  refine ⟨by rw [upd_ne ne, upd_same], Nat.zero_le _, ne, e2, fun _ => none, (Heap.Ns1.of_empty e3).at fun o q => Heap.get?_push_of_some _ q, fun _ => True.intro, fun y hy => absurd rfl hy⟩
theorem attr_of {prog : Program} {w : World} {env : Env} {e : Expr} {f : Str} {pos : Pos} {s : Shared} {Q : Value → Shared → Prop} (hb : attributeBase e f env (eval e env) = eval e env)
    (h : wpAny (model prog w) A (eval e env) (fun o s₁ => wpAny (model prog w) A (getAttr o f true) Q E s₁) E s) : wpAny (model prog w) A (eval (.Attribute e f pos) env) Q E s :=
  Attribute_any_ h (by rw [arm_eval_Attribute, hb])
end
def tFld (K : PySem.W.Frag) (ta : TE) (f : Str) : TE := fun σ H Q => ta σ H fun x H1 => ∃ a C dx fs v, x = .ref a ∧ H1 a = some (.ins C dx fs) ∧ Cls K C ∧ NoAttr K C f ∧ fs.lookup f = some v ∧ Q v H1
def sFld (K : PySem.W.Frag) (ta tv : TE) (f : Str) : TS := fun D σ H => tv σ H fun y H1 => ta σ H1 fun x H2 => ∃ a C dx fs, x = .ref a ∧ H2 a = some (.ins C dx fs) ∧ Cls K C ∧ NoAttr K C f ∧ fs.length < 1000 ∧
  D.nx σ (upd H2 a (.ins C dx (putF f y fs)))
section
variable {X : Cx} {o e value : Expr} {f : Str} {pos pos' tpos : Pos} {ta tv : TE}
theorem pe_fld (he : PE X e ta) (hb : attributeBase e f X.env (eval e X.env) = eval e X.env) : PE X (.Attribute e f pos) (tFld X.K ta f) := by
  intro pins s σ H Q I h
  refine attr_of hb (thn (he pins s σ H _ I h) fun u s1 ⟨x, H1, I1, rx, a, C, dx, fs, v, ex, ea, c, n, l, q⟩ => ?_)
  subst ex
  obtain rfl : u = Value.ref a := rx
  exact getattr_ok I1 ea c n l fun u' s2 I2 ru => ⟨v, H1, I2, ru, q⟩
theorem ps_fld (ha : PE X o ta) (hv : PE X value tv) (hs : swapsWith value (some (.Attribute o f pos')) pos.line X.env = pure false) : PS X (.Assign [.Attribute o f pos'] value pos) (sFld X.K ta tv f) := by
  intro pins s σ H D I h
  refine plainObj_wpAny_Assign_Attribute (thn (hv pins s σ H _ I h) fun u s1 ⟨y, H1, I1, ry, q⟩ => thn (ha pins s1 σ H1 _ I1 q) fun ov s2 ⟨x, H2, I2, rx, a, C, dx, fs, ex, ea, c, n, l, q2⟩ => ?_) hs
  subst ex
  obtain rfl : ov = Value.ref a := rx
  exact setattr_ok I2 ea c n l ry fun s3 I3 => ⟨σ, _, I3, q2⟩
end
section
variable {X : Cx} {pins : List (Addr × Obj)} {σ : St} {H : Hp} {s : Shared} {A : Around} {E : Value → Shared → Prop} {Q : Value → Shared → Prop} {c : Value} {b : Bool}
inductive TyOf (K : PySem.W.Frag) (H : Hp) : V → Value → Prop where
  | non : TyOf K H .non (.type "NoneType")
  | bl (x : Bool) : TyOf K H (.bl x) (.type "bool")
  | int (i : Int) : TyOf K H (.int i) (.type "int")
  | str (x : Str) : TyOf K H (.str x) (.type "str")
  | flt (x : UInt64) : TyOf K H (.flt x) (.type "float")
  | lst {a : Addr} {xs : List V} (e : H a = some (.lst xs)) : TyOf K H (.ref a) (.type "list")
  | frz {a : Addr} {o : Obj} {xs : List V} (e : H a = some (.frz o (.lst xs))) : TyOf K H (.ref a) (.type "list")
  | tup {a : Addr} {xs : List V} (e : H a = some (.tup xs)) : TyOf K H (.ref a) (.type "tuple")
  | dK {a : Addr} {kvs : List (Key × V)} (e : H a = some (.dK kvs)) : TyOf K H (.ref a) (.type "dict")
  | dT {a : Addr} {kvs : List (List Key × V)} (e : H a = some (.dT kvs)) : TyOf K H (.ref a) (.type "dict")
  | ins {a C dx : Addr} {fs : List (Str × V)} (e : H a = some (.ins C dx fs)) (cl : Cls K C) (ha : PySem.W.findIn K (.ref C) "__class__" = some (some (.builtin "object.__class__")))
      (hn : PySem.W.specialIn K (.builtin "object.__class__") "__get__" = some (some (.builtin "getset_descriptor.__get__"))) (htk : PySem.W.takesIn K (.builtin "object.__class__") = some true)
      (hm : PySem.W.mroIn K C (.type "object") = some true) : TyOf K H (.ref a) (.ref C)
theorem isinst_ok {x : V} {u t : Value} (I : Inv X pins σ H s) (rx : RelV x u) (ty : TyOf X.K H x t) (e : PySem.W.kitOne X.K t c = some b) (h : ∀ tk, Q (.bool b) { s with toks := tk }) :
    wpAny (model X.prog X.w) A (call (.builtin "isinstance") [u, c]) Q E s := by
  cases ty with
  | non => cases (show u = Value.none from rx); exact PySem.W.kia_one PySem.W.kitx_none I.kIn True.intro e (fun z => nomatch z) h
  | bl y => cases (show u = Value.bool y from rx); exact PySem.W.kia_one PySem.W.kitx_bool I.kIn True.intro e (fun z => nomatch z) h
  | int i => obtain ⟨t, q⟩ := (show ∃ t, u = Value.int i t from rx); cases q; exact PySem.W.kia_one PySem.W.kitx_int I.kIn True.intro e (fun z => nomatch z) h
  | str y => obtain ⟨t, q⟩ := (show ∃ t, u = Value.str y t from rx); cases q; exact PySem.W.kia_one PySem.W.kitx_str I.kIn True.intro e (fun z => nomatch z) h
  | flt y => obtain ⟨t, q⟩ := (show ∃ t, u = Value.float y t from rx); cases q; exact PySem.W.kia_one PySem.W.kitx_float I.kIn True.intro e (fun z => nomatch z) h
  | @lst a xs ea =>
    cases (show u = Value.ref a from rx)
    obtain ⟨_, _, n, _, h1⟩ := (show ObjOk X.prog X.w H s.heap a (.lst xs) from I.hok a _ ea)
    exact PySem.W.kia_one PySem.W.kitx_list I.kIn ⟨_, h1, rfl⟩ e (fun z => nomatch z) h
  | @frz a ob xs ea =>
    cases (show u = Value.ref a from rx)
    obtain ⟨_, _, _, n, _, h1⟩ := (show ObjOk X.prog X.w H s.heap a (.frz ob (.lst xs)) from I.hok a _ ea)
    exact PySem.W.kia_one PySem.W.kitx_list I.kIn ⟨_, h1, rfl⟩ e (fun z => nomatch z) h
  | @tup a xs ea =>
    cases (show u = Value.ref a from rx)
    obtain ⟨_, _, _, p⟩ := (show ObjOk X.prog X.w H s.heap a (.tup xs) from I.hok a _ ea)
    obtain ⟨o, h1, h2, _⟩ := p
    exact PySem.W.kia_one PySem.W.kitx_tuple I.kIn ⟨o, h1, h2⟩ e (fun z => nomatch z) h
  | @dK a kvs ea =>
    cases (show u = Value.ref a from rx)
    obtain ⟨_, _, vs, _, p⟩ := (show ObjOk X.prog X.w H s.heap a (.dK kvs) from I.hok a _ ea)
    obtain ⟨o, es, ep, h1, h2, _⟩ := p
    exact PySem.W.kia_one PySem.W.kitx_dict I.kIn ⟨o, h1, h2.1⟩ e (fun z => nomatch z) h
  | @dT a kvs ea =>
    cases (show u = Value.ref a from rx)
    obtain ⟨_, _, xs, _, o, es, ep, h1, h2, _⟩ := (show ObjOk X.prog X.w H s.heap a (.dT kvs) from I.hok a _ ea)
    exact PySem.W.kia_one PySem.W.kitx_dict I.kIn ⟨o, h1, h2.1⟩ e (fun z => nomatch z) h
  | @ins a C dx fs ea cl ha hn htk hm =>
    cases (show u = Value.ref a from rx)
    obtain ⟨mA, O, _⟩ := ins_get I.hok ea
    obtain ⟨od, J, _⟩ := O.look
    exact PySem.W.kia_one (PySem.W.kitx_own (cl.get _) cl.hd ha hn htk hm) I.kIn J e (fun z => nomatch z) h
end
end L2
namespace L2
open PySem PySem.Spec PyProof.Rows
structure Room (k : Nat) (A : Around) : Prop where
  hd : A.handled = none
  dp : A.depth + 3 * k + 5 < recursionLimit
  un : A.units + 16 * k + 200 < cLine
theorem Room.mono {j k : Nat} {A : Around} (r : Room k A) (h : j ≤ k) : Room j A := ⟨r.hd, by have := r.dp; omega, by have := r.un; omega⟩
theorem Room.deeper {k : Nat} {A : Around} (r : Room (k + 1) A) (env : Env) : Room k (A.deeper env) :=
  ⟨r.hd, by have := r.dp; show A.depth + 1 + 3 * k + 5 < _; omega, by have := r.un; show A.units + 3 + 16 * k + 200 < _; omega⟩
theorem Room.in1 {k : Nat} {A : Around} (r : Room (k + 1) A) : Room k A.in1 :=
  ⟨r.hd, by have := r.dp; show A.depth + 3 * k + 5 < _; omega, by have := r.un; show A.units + 1 + 16 * k + 200 < _; omega⟩
theorem make_depth {A : Around} {C : Addr} {us : List Value} {kw : List (Str × Value)} : (A.under (.builtin "type.__call__" ⟨.ref C :: us, kw⟩)).depth = A.depth + 1 := by
  first | rfl | simp [Around.under, Code.weight, Code.isCreation, Code.isGuard, Code.isCaller, Code.frames, Code.isFrame, guardIds]
theorem make_units {A : Around} {C : Addr} {us : List Value} {kw : List (Str × Value)} : (A.under (.builtin "type.__call__" ⟨.ref C :: us, kw⟩)).units = A.units + 1 := by
  first | rfl | simp [Around.under, Code.cUnits, Code.frames, Code.isFrame]
theorem Room.make {k : Nat} {A : Around} (r : Room (k + 1) A) (C : Addr) (us : List Value) (kw : List (Str × Value)) : Room k (A.under (.builtin "type.__call__" ⟨.ref C :: us, kw⟩)) :=
  ⟨r.hd, by have := r.dp; rw [make_depth]; omega, by have := r.un; rw [make_units]; omega⟩
theorem Room.depth {k : Nat} {A : Around} (r : Room k A) : A.depth < recursionLimit := by have := r.dp; omega
theorem Room.units {k : Nat} {A : Around} (r : Room k A) : A.units + 64 < cLine := by have := r.un; omega
def tNil : TA := fun _ H Q => Q [] H
def tCons (ta : TE) (tr : TA) : TA := fun σ H Q => ta σ H fun x H1 => tr σ H1 fun xs H2 => Q (x :: xs) H2
section
variable {X : Cx} {e : Expr} {es : List Expr} {te : TE} {t : TA} {pos : Pos}
theorem pa_nil : PA X [] tNil := fun _ _ _ _ H Q I h => Calls.spliced_nil ⟨[], H, I, .nil, h⟩
theorem pa_cons (ha : PE X e te) (hr : PA X es t) (hs : starEach (e :: es) X.env = (false, eval e X.env) :: starEach es X.env := by rfl) : PA X (e :: es) (tCons te t) := by
  intro pos pins s σ H Q I h
  rw [hs]
  show wpAny _ _ (spliced ((false, eval e X.env) :: backTo pos (starEach es X.env))) _ _ s
  refine Calls.spliced_cons (thn (ha pins s σ H _ I h) fun u s1 ⟨x, H1, I1, r1, q1⟩ => ?_)
  exact thn (hr pos pins s1 σ H1 _ I1 q1) fun us s2 ⟨xs, H2, I2, r2, q2⟩ => ⟨x :: xs, H2, I2, .cons r1 r2, q2⟩
def tTup (t : TA) : TE := fun σ H Q => t σ H fun xs H1 => xs.length ≤ sizeLine ∧ ∀ p, H1 p = none → Q (.ref p) (upd H1 p (.tup xs))
def tLst (t : TA) : TE := fun σ H Q => t σ H fun xs H1 => xs.length ≤ sizeLine ∧ ∀ p, H1 p = none → Q (.ref p) (upd H1 p (.lst xs))
theorem pe_tup {x1} (h : PA X es t) : PE X (.Tuple es x1 pos) (tTup t) := by
  intro pins s σ H Q I hq
  refine wpAny_Tuple_spliced (thn (h pos pins s σ H _ I hq) fun us s1 ⟨xs, H1, I1, r, z, q⟩ => ⟨by rw [← r.length]; exact z, ?_⟩)
  have hf : H1 s1.heap.objs.size = none := I1.hok.fresh (Nat.le_refl _)
  refine ⟨.ref s1.heap.objs.size, upd H1 s1.heap.objs.size (.tup xs), I1.laid (t' := s1.toks) (fun b u e => Heap.get?_push_of_some _ e) (Nat.le_refl _) ?_, rfl, q _ hf⟩
  exact ⟨z, us, r, ⟨_, Heap.get?_push_size _ rfl, rfl, _, rfl⟩⟩
theorem pe_lst (h : PA X es t) : PE X (.List es pos) (tLst t) := by
  intro pins s σ H Q I hq
  refine wpAny_List_spliced (thn (h pos pins s σ H _ I hq) fun us s1 ⟨xs, H1, I1, r, z, q⟩ => ⟨by rw [← r.length]; exact z, ?_⟩)
  have hf : H1 s1.heap.objs.size = none := I1.hok.fresh (Nat.le_refl _)
  refine ⟨.ref s1.heap.objs.size, upd H1 s1.heap.objs.size (.lst xs), I1.laid (t' := s1.toks) (fun b u e => Heap.get?_push_of_some _ e) (Nat.le_refl _) ?_, rfl, q _ hf⟩
  exact ⟨z, us, 0, r, Heap.get?_push_size _ rfl⟩
end
abbrev Sp := List V → Hp → VK → XK → Prop
abbrev CXT := List Env → Hp → Shared → XK → Value → Shared → Prop
structure Env0 (P : Program) (w : World) (K : PySem.W.Frag) (mg : Str → Option Value) (base : Heap) (A : Around) (outer : List Env) (s : Shared) (H : Hp) : Prop where
  frames : A.frames = some outer
  mod : Mod K mg base
  bs : ∀ b o, base.get? b = some o → s.heap.get? b = some o ∧ H b = none
  bsz : base.objs.size ≤ s.heap.objs.size
  funs : s.heap.FunFrames base outer
  frf : ∀ b ∈ frs outer, H b = none
  hok : HOk P w H s.heap
  bare : AllBare s.gens
def CE (outer : List Env) (P : Program) (w : World) (H : Hp) (s : Shared) (Q : VK) (u : Value) (s' : Shared) : Prop :=
  ∃ v H', s'.os = s.os ∧ AllBare s'.gens ∧ Un (frs outer) [] H H' s.heap s'.heap ∧ HOk P w H' s'.heap ∧ RelV v u ∧ Q v H'
def CR (CX : CXT) (outer : List Env) (P : Program) (w : World) (H : Hp) (s : Shared) (Q : VK) (E : XK) (r : Result) (s' : Shared) : Prop :=
  match r with
  | .ok (.ret u) => CE outer P w H s Q u s'
  | .ok _ => False
  | .error e => CX outer H s E e s'
structure FnOk (P : Program) (w : World) (K : PySem.W.Frag) (mg : Str → Option Value) (base : Heap) (CX : CXT) (k : Nat) (f : Addr) (fd : FuncData) (ps : List Str) (sp : Sp) : Prop where
  len : ∀ vs H Q E, sp vs H Q E → vs.length = ps.length
  run : ∀ (A : Around) (outer : List Env) (s : Shared) (H : Hp) (args : Args) (us : List Value) (vs : List V) (Q : VK) (E : XK), Room k A → Env0 P w K mg base A outer s H → BindsTo s fd args (ps.zip us) → Vals vs us → sp vs H Q E →
    codeAny (model P w) A (.call (.ref f) args) (CR CX outer P w H s Q E) s
theorem FnOk.mono {P : Program} {w : World} {K : PySem.W.Frag} {mg : Str → Option Value} {base : Heap} {CX : CXT} {j k : Nat} {f : Addr} {fd : FuncData} {ps : List Str} {sp : Sp} (F : FnOk P w K mg base CX j f fd ps sp) (h : j ≤ k) :
    FnOk P w K mg base CX k f fd ps sp := ⟨F.len, fun A outer s H args us vs Q E hr => F.run A outer s H args us vs Q E (hr.mono h)⟩
theorem FnOk.imp {P : Program} {w : World} {K : PySem.W.Frag} {mg : Str → Option Value} {base : Heap} {CX : CXT} {k : Nat} {f : Addr} {fd : FuncData} {ps : List Str} {sp sp' : Sp} (F : FnOk P w K mg base CX k f fd ps sp)
    (h : ∀ vs H Q E, sp' vs H Q E → sp vs H Q E) : FnOk P w K mg base CX k f fd ps sp' :=
  ⟨fun vs H Q E q => F.len vs H Q E (h _ _ _ _ q), fun A outer s H args us vs Q E hr he hb hv hs => F.run A outer s H args us vs Q E hr he hb hv (h _ _ _ _ hs)⟩
theorem Env0.make {P : Program} {w : World} {K : PySem.W.Frag} {mg : Str → Option Value} {base : Heap} {A : Around} {outer : List Env} {s : Shared} {H : Hp} (e : Env0 P w K mg base A outer s H) (C : Addr) (us : List Value) (kw : List (Str × Value)) :
    Env0 P w K mg base (A.under (.builtin "type.__call__" ⟨.ref C :: us, kw⟩)) outer s H := ⟨by first | exact e.frames | (simpa [Around.under, Code.envs, Code.isFrame, pushEnvs] using e.frames), e.mod, e.bs, e.bsz, e.funs, e.frf, e.hok, e.bare⟩
theorem Env0.in1 {P : Program} {w : World} {K : PySem.W.Frag} {mg : Str → Option Value} {base : Heap} {A : Around} {outer : List Env} {s : Shared} {H : Hp} (e : Env0 P w K mg base A outer s H) :
    Env0 P w K mg base A.in1 outer s H := ⟨e.frames, e.mod, e.bs, e.bsz, e.funs, e.frf, e.hok, e.bare⟩
section
variable {X : Cx} {pins : List (Addr × Obj)} {σ : St} {H : Hp} {s s' : Shared}
theorem Inv.env0 (I : Inv X pins σ H s) : Env0 X.prog X.w X.K X.mg X.base X.A X.stack s H :=
  ⟨I.ok.frames, I.ok.mod, I.bs, Nat.le_trans I.ok.bsz I.sz, I.stack, I.stkFree, I.hok, I.bare⟩
theorem Inv.after {Q : VK} {u : Value} (I : Inv X pins σ H s) (h : CE X.stack X.prog X.w H s Q u s') : EP X pins σ Q u s' := by
  obtain ⟨v, H', os, bare, un, hok, r, q⟩ := h
  obtain ⟨hh, g, d, t, os'⟩ := s'
  obtain rfl : os' = s.os := os
  exact ⟨v, H', I.call (h' := hh) (g' := g) (d' := d) (t' := t) (ch := []) un hok bare (fun b z => absurd z (by simp)), r, q⟩
end
def tCall (sp : Sp) (dvs : List V) (E : XK) (t : TA) : TE := fun σ H Q => t σ H fun vs H1 => sp (vs ++ dvs) H1 Q E
def tMeth (C : Addr) (m : Str) (sp : Sp) (dvs : List V) (E : XK) (ta : TE) (t : TA) : TE := fun σ H Q => ta σ H fun x H1 => ∃ a dx fs, x = .ref a ∧ H1 a = some (.ins C dx fs) ∧ fs.lookup m = none ∧
  t σ H1 fun vs H2 => sp (x :: (vs ++ dvs)) H2 Q E
def tMake (C : Addr) (sp : Sp) (dvs : List V) (E : XK) (t : TA) : TE := fun σ H Q => t σ H fun vs H1 => ∀ x dx, H1 x = none → H1 dx = none → dx ≠ x →
  sp (.ref x :: (vs ++ dvs)) (upd (upd H1 dx (.own x)) x (.ins C dx [])) (fun v H2 => v = .non ∧ Q (.ref x) H2) E
def Binds (K : PySem.W.Frag) (fd : FuncData) (ps : List Str) (ds : List Value) : Prop :=
  ∀ (s : Shared) (us : List Value), K.In s.heap → (us ++ ds).length = ps.length → BindsTo s fd ⟨us, []⟩ (ps.zip (us ++ ds))
theorem Binds.all {K : PySem.W.Frag} {fd : FuncData} {ps : List Str} (h : ∀ us : List Value, us.length = ps.length → bindArgs fd ⟨us, []⟩ = pure (ps.zip us)) : Binds K fd ps [] := fun s us _ hl => by
  rw [List.append_nil] at hl ⊢
  exact .of_eq (h us hl)
def Passes (CX : CXT) (X : Cx) (E : XK) : Prop := ∀ (pins : List (Addr × Obj)) (σ : St) (H : Hp) (s : Shared) (e : Value) (s' : Shared), Inv X pins σ H s → CX X.stack H s E e s' → X.xe e s'
section
variable {X : Cx} {CX : CXT} {k : Nat} {f C : Addr} {fd : FuncData} {ps : List Str} {sp : Sp} {dvs : List V} {ds : List Value} {E : XK} {x m : Str} {p pos apos : Pos} {e o : Expr} {es : List Expr} {ta : TE} {t : TA}
theorem run_fn {pins : List (Addr × Obj)} {σ : St} {H : Hp} {s : Shared} {Q : VK} {us : List Value} {vs : List V} (F : FnOk X.prog X.w X.K X.mg X.base CX k f fd ps sp) (hr : Room k X.A) (hb : Binds X.K fd ps ds) (hd : Vals dvs ds) (hx : Passes CX X E)
    (I : Inv X pins σ H s) (r : Vals vs us) (h : sp (vs ++ dvs) H Q E) : wpAny (model X.prog X.w) X.A (call (.ref f) us) (EP X pins σ Q) X.xe s := by
  have r2 : Vals (vs ++ dvs) (us ++ ds) := r.append hd
  have hl : (us ++ ds).length = ps.length := by rw [← r2.length]; exact F.len _ _ _ _ h
  refine wpAny_call (codeAny_mono (F.run X.A X.stack s H ⟨us, []⟩ (us ++ ds) (vs ++ dvs) Q E hr I.env0 (hb s us I.kIn hl) r2 h) fun r s' hq => ?_)
  cases r with
  | error e => exact hx pins σ H s e s' I hq
  | ok fl =>
    cases fl with
    | ret u => exact I.after hq
    | next => exact False.elim hq
    | brk => exact False.elim hq
    | cont => exact False.elim hq
theorem pe_call (F : FnOk X.prog X.w X.K X.mg X.base CX k f fd ps sp) (hr : Room k X.A) (hg : Gl X x) (hm : X.mg x = some (.ref f)) (hk : PySem.W.keepIn X.K (.ref f) = true) (hb : Binds X.K fd ps ds) (hd : Vals dvs ds) (hx : Passes CX X E)
    (ha : PA X (e :: es) t) (hdb : (x == ("__debug__" : Str)) = false := by decide) (he : starEach (e :: es) X.env = (false, eval e X.env) :: starEach es X.env := by rfl) (hpl : (backTo pos (starEach es X.env)).any (·.1) = false := by rfl) :
    PE X (.Call (.Name x p) (e :: es) [] pos) (tCall sp dvs E t) := by
  intro pins s σ H Q I h
  refine wpAny_Call_Name_kw (ld_glob I hg hm ?_ hdb)
  refine PySem.W.callWith_K (h₀ := X.base) I.ok.mod.kin hk (thn (ha pos pins s σ H _ I h) fun us s1 ⟨vs, H1, I1, r, q⟩ => ⟨I1.kIn, ?_⟩) he hpl
  exact run_fn F hr hb hd hx I1 r q
theorem pe_meth {pl : Sem Bool} (he : PE X o ta) (c : Cls X.K C) (hm : Meth X.K C m f) (F : FnOk X.prog X.w X.K X.mg X.base CX k f fd ps sp) (hr : Room k X.A) (hb : Binds X.K fd ps ds) (hd : Vals dvs ds) (hx : Passes CX X E) (ha : PA X (e :: es) t)
    (hst : starEach (e :: es) X.env = (false, eval e X.env) :: starEach es X.env := by rfl) (hpl : (backTo pos (starEach es X.env)).any (·.1) = false := by rfl)
    (ht : eval (.Call (.Attribute o m apos) (e :: es) [] pos) X.env = (do
      let ov ← eval o X.env
      standAt apos.atName
      let (f, first) ← holding [ov] (getMethod ov m pl)
      callWith pos f first (backTo pos (starEach (e :: es) X.env)) (backToKw pos (keywordEach [] X.env))) := by rfl) :
    PE X (.Call (.Attribute o m apos) (e :: es) [] pos) (tMeth C m sp dvs E ta t) := by
  intro pins s σ H Q I h
  refine PySem.W.methodCall_KW (pl := pl) (thn (he pins s σ H _ I h) fun u s1 ⟨x, H1, I1, rx, a, dx, fs, ex, ea, l, q⟩ => ?_) ht
  subst ex
  obtain rfl : u = Value.ref a := rx
  refine getmeth_ok I1 ea c hm l ?_
  refine PySem.W.callWith_K (first := [.ref a]) (h₀ := X.base) I.ok.mod.kin hm.kp (thn (ha pos pins s1 σ H1 _ I1 q) fun us s2 ⟨vs, H2, I2, r, q2⟩ => ⟨I2.kIn, ?_⟩) hst hpl
  exact run_fn (us := .ref a :: us) (vs := .ref a :: vs) F hr hb hd hx I2 (.cons rfl r) q2
theorem pe_meth0 {pl : Sem Bool} (he : PE X o ta) (c : Cls X.K C) (hm : Meth X.K C m f) (F : FnOk X.prog X.w X.K X.mg X.base CX k f fd ps sp) (hr : Room k X.A) (hb : Binds X.K fd ps ds) (hd : Vals dvs ds) (hx : Passes CX X E)
    (ht : eval (.Call (.Attribute o m apos) [] [] pos) X.env = (do
      let ov ← eval o X.env
      standAt apos.atName
      let (f, first) ← holding [ov] (getMethod ov m pl)
      callWith pos f first (backTo pos (starEach [] X.env)) (backToKw pos (keywordEach [] X.env))) := by rfl) :
    PE X (.Call (.Attribute o m apos) [] [] pos) (tMeth C m sp dvs E ta tNil) := by
  intro pins s σ H Q I h
  refine PySem.W.methodCall_KW (pl := pl) (thn (he pins s σ H _ I h) fun u s1 ⟨x, H1, I1, rx, a, dx, fs, ex, ea, l, q⟩ => ?_) ht
  subst ex
  obtain rfl : u = Value.ref a := rx
  refine getmeth_ok I1 ea c hm l ?_
  exact PySem.W.callWith_K0 (first := [.ref a]) I1.kIn hm.kp (run_fn (us := [.ref a]) (vs := [.ref a]) F hr hb hd hx I1 (.cons rfl .nil) q)
structure Mk (K : PySem.W.Frag) (C f : Addr) : Prop where
  makes : PySem.W.makesIn K C = true
  init : PySem.W.findIn K (.ref C) "__init__" = some (some (.ref f))
  fn : PySem.W.isFn K (.ref f) = true
  kp : PySem.W.keepIn K (.ref C) = true
theorem run_make {pins : List (Addr × Obj)} {σ : St} {H : Hp} {s : Shared} {Q : VK} {us : List Value} {vs : List V} (M : Mk X.K C f) (F : FnOk X.prog X.w X.K X.mg X.base CX k f fd ps sp) (hr : Room (k + 1) X.A) (hb : Binds X.K fd ps ds) (hd : Vals dvs ds)
    (hx : Passes CX X E) (I : Inv X pins σ H s) (r : Vals vs us)
    (h : ∀ x dx, H x = none → H dx = none → dx ≠ x → sp (.ref x :: (vs ++ dvs)) (upd (upd H dx (.own x)) x (.ins C dx [])) (fun v H2 => v = .non ∧ Q (.ref x) H2) E) :
    wpAny (model X.prog X.w) X.A (call (.ref C) us) (EP X pins σ Q) X.xe s := by
  have hq := h (s.heap.objs.size + 1) s.heap.objs.size (I.hok.fresh (Nat.le_succ _)) (I.hok.fresh (Nat.le_refl _)) (Nat.ne_of_lt (Nat.lt_succ_self _))
  have I2 := Inv.made (C := C) I
  have r2 : Vals (V.ref (s.heap.objs.size + 1) :: (vs ++ dvs)) (Value.ref (s.heap.objs.size + 1) :: (us ++ ds)) := .cons rfl (r.append hd)
  have hl : (Value.ref (s.heap.objs.size + 1) :: us ++ ds).length = ps.length := by
    have e := r2.length
    rw [F.len _ _ _ _ hq] at e
    exact e.symm
  refine wpAny_call (make_map (f := f) I.kIn M.makes M.init (beq_iff_eq.mp M.fn) (codeAny_mono (F.run _ X.stack _ _ ⟨Value.ref (s.heap.objs.size + 1) :: us, []⟩ (Value.ref (s.heap.objs.size + 1) :: (us ++ ds)) _ _ E (hr.make C us [])
    (I2.env0.make C us []) (hb _ (Value.ref (s.heap.objs.size + 1) :: us) I2.kIn hl) r2 hq) fun r s' hq' => ?_))
  cases r with
  | error e => exact hx pins σ _ _ e s' I2 hq'
  | ok fl =>
    cases fl with
    | ret u =>
      obtain ⟨v, H', I3, rv, ev, q3⟩ := I2.after hq'
      subst ev
      exact ⟨rv, ⟨V.ref (s.heap.objs.size + 1), H', I3, rfl, q3⟩⟩
    | next => exact False.elim hq'
    | brk => exact False.elim hq'
    | cont => exact False.elim hq'
theorem pe_make (M : Mk X.K C f) (F : FnOk X.prog X.w X.K X.mg X.base CX k f fd ps sp) (hr : Room (k + 1) X.A) (hg : Gl X x) (hm : X.mg x = some (.ref C)) (hb : Binds X.K fd ps ds) (hd : Vals dvs ds) (hx : Passes CX X E)
    (ha : PA X (e :: es) t) (hdb : (x == ("__debug__" : Str)) = false := by decide) (he : starEach (e :: es) X.env = (false, eval e X.env) :: starEach es X.env := by rfl) (hpl : (backTo pos (starEach es X.env)).any (·.1) = false := by rfl) :
    PE X (.Call (.Name x p) (e :: es) [] pos) (tMake C sp dvs E t) := by
  intro pins s σ H Q I h
  refine wpAny_Call_Name_kw (ld_glob I hg hm ?_ hdb)
  refine PySem.W.callWith_K (h₀ := X.base) I.ok.mod.kin M.kp (thn (ha pos pins s σ H _ I h) fun us s1 ⟨vs, H1, I1, r, q⟩ => ⟨I1.kIn, ?_⟩) he hpl
  exact run_make M F hr hb hd hx I1 r q
end
section
variable {X : Cx} {CX : CXT} {k : Nat} {f C : Addr} {fd : FuncData} {ps ks : List Str} {sp : Sp} {E : XK} {x m : Str} {p pos apos kpos : Pos} {e o : Expr} {es : List Expr} {kws : List Keyword} {te ta : TE} {t tk : TA} {nm : Option Str}
variable {g : List Value → List Value → List Value} {gV : List V → List V → List V}
end
structure FnScope (N P : List Str) (sc : Scope) : Prop where
  kind : sc.kind = .function
  co : sc.isCoroutine = false
  gen : sc.isGenerator = false
  nd : N.Nodup
  pre : N.take P.length = P
  par : ∀ x ∈ P, sc.names.lookup x = some .local ∨ sc.names.lookup x = some .cell
  nofree : ∀ y ∈ sc.names, y.2 ≠ .free
theorem bindL_out {kindOf : Str → Option NameKind} {x : Str} : ∀ {binds : List (Str × Value)} {m : Str → Option Value}, (∀ v, (x, v) ∉ binds) → bindL kindOf binds m x = m x
  | [], _, _ => rfl
  | (n, v) :: r, m, h => by
    unfold bindL
    rw [bindL_out fun w hw => h w (List.mem_cons_of_mem _ hw)]
    split
    · have : x ≠ n := by rintro rfl; exact h v List.mem_cons_self
      simp [this]
    · rfl
theorem bindC_out {kindOf : Str → Option NameKind} {x : Str} : ∀ {binds : List (Str × Value)} {m : Str → Option Value}, (∀ v, (x, v) ∉ binds) → bindC kindOf binds m x = m x
  | [], _, _ => rfl
  | (n, v) :: r, m, h => by
    unfold bindC
    rw [bindC_out fun w hw => h w (List.mem_cons_of_mem _ hw)]
    split
    · rfl
    · have : x ≠ n := by rintro rfl; exact h v List.mem_cons_self
      simp [this]
theorem bindL_get {kindOf : Str → Option NameKind} {x : Str} {v : Value} : ∀ {P : List Str} {vs : List Value} {i : Nat} {m : Str → Option Value}, P.Nodup → P[i]? = some x → vs[i]? = some v → kindOf x = some .local →
    bindL kindOf (P.zip vs) m x = some v
  | [], _, _, _, _, h, _, _ => by simp at h
  | _ :: _, [], _, _, _, _, h, _ => by simp at h
  | p :: P, w :: vs, 0, m, nd, h1, h2, hk => by
    simp at h1 h2; subst h1; subst h2
    show bindL kindOf ((p, w) :: P.zip vs) m p = _
    unfold bindL
    rw [bindL_out fun v hv => (List.nodup_cons.mp nd).1 (List.of_mem_zip hv).1, if_pos hk]
    simp
  | p :: P, w :: vs, i + 1, m, nd, h1, h2, hk => by
    show bindL kindOf ((p, w) :: P.zip vs) m x = _
    unfold bindL
    exact bindL_get (i := i) (List.nodup_cons.mp nd).2 (by simpa using h1) (by simpa using h2) hk
theorem bindC_get {kindOf : Str → Option NameKind} {x : Str} {v : Value} : ∀ {P : List Str} {vs : List Value} {i : Nat} {m : Str → Option Value}, P.Nodup → P[i]? = some x → vs[i]? = some v → kindOf x ≠ some .local →
    bindC kindOf (P.zip vs) m x = some v
  | [], _, _, _, _, h, _, _ => by simp at h
  | _ :: _, [], _, _, _, _, h, _ => by simp at h
  | p :: P, w :: vs, 0, m, nd, h1, h2, hk => by
    simp at h1 h2; subst h1; subst h2
    show bindC kindOf ((p, w) :: P.zip vs) m p = _
    unfold bindC
    rw [bindC_out fun v hv => (List.nodup_cons.mp nd).1 (List.of_mem_zip hv).1, if_neg hk]
    simp
  | p :: P, w :: vs, i + 1, m, nd, h1, h2, hk => by
    show bindC kindOf ((p, w) :: P.zip vs) m x = _
    unfold bindC
    exact bindC_get (i := i) (List.nodup_cons.mp nd).2 (by simpa using h1) (by simpa using h2) hk
def start (N : List Str) (vs : List V) : St := vs.map some ++ List.replicate (N.length - vs.length) none
def cxOf (CX : CXT) (P : Program) (w : World) (K : PySem.W.Frag) (mg : Str → Option Value) (base : Heap) (N : List Str) (qual : Str) (scope : Scope) (f : Addr) (cd : Value) (A : Around) (outer : List Env) (s : Shared) (H : Hp) (E : XK) : Cx where
  prog := P
  w := w
  K := K
  mg := mg
  base := base
  A := A.deeper (envOfC qual scope s.heap.objs.size f cd)
  N := N
  s₀ := s
  H₀ := H
  env := envOfC qual scope s.heap.objs.size f cd
  outer := outer
  stack := envOfC qual scope s.heap.objs.size f cd :: outer
  ex := []
  calm := true
  fn := fun _ => true
  pn := []
  xe := fun e s' => wpAny (model P w) (A.deeper (envOfC qual scope s.heap.objs.size f cd)) (leaving (envOfC qual scope s.heap.objs.size f cd) e) (fun _ s'' => CX outer H s E e s'') (fun e' s'' => CX outer H s E e' s'') s'
theorem cell_has {sc : Scope} {n : Nat} {x : Str} (h : sc.names.lookup x = some .cell) : ∃ c, (cellsFrom n sc.names []).lookup x = some c := by
  have q := PySem.W.cellsFrom_some sc.names n [] (.inl h)
  exact Option.isSome_iff_exists.mp q
theorem inv_start {CX : CXT} {P : Program} {w : World} {K : PySem.W.Frag} {mg : Str → Option Value} {base : Heap} {N ps : List Str} {qual : Str} {scope : Scope} {f : Addr} {cd : Value} {A : Around} {outer : List Env} {s s1 : Shared} {H : Hp} {E : XK} {us : List Value} {vs : List V}
    (S : FnScope N ps scope) (hd : A.handled = none) (e0 : Env0 P w K mg base A outer s H) (hl : vs.length = ps.length) (r : Vals vs us)
    (x : InCallC s s.heap.objs.size (bindL (envOfC qual scope s.heap.objs.size f cd).kindOf (ps.zip us) fun _ => none) (cellsFrom (s.heap.objs.size + 1) scope.names []) (bindC (envOfC qual scope s.heap.objs.size f cd).kindOf (ps.zip us) fun _ => none) s1) :
    Inv (cxOf CX P w K mg base N qual scope f cd A outer s H E) [] (start N vs) H s1 := by
  have hpl : ps.length ≤ N.length := by have := congrArg List.length S.pre; rw [List.length_take] at this; omega
  obtain ⟨h1, tk, rfl, hk⟩ := x.done
  have noA : ∀ b : Addr, b ∉ (cxOf CX P w K mg base N qual scope f cd A outer s H E).ex := fun b z => absurd (show b ∈ ([] : List Addr) from z) (by simp)
  refine ⟨⟨e0.mod, S.kind, rfl, rfl, Nat.le_refl _, fun y z c h1 h2 => ?_, fun y hy => ?_, fun y c _ h => ?_, fun _ => hd, Around.frames_deeper e0.frames, .inr ⟨rfl, rfl⟩, fun b z => absurd z (noA b), e0.bs, e0.bsz, fun b _ _ => noA b, fun b z => absurd z (noA b), e0.funs, e0.frf⟩,
    rfl, e0.bare, Un.kept hk, ⟨_, x.toInCall.ns, fun i y v h1 h2 h3 => ?_⟩, fun y c h => ⟨_, x.cell y c h⟩, e0.hok.fresh (Nat.le_refl _), fun y c h => ?_, fun p hp => absurd (show p ∈ ([] : List (Addr × Obj)) from hp) (by simp), e0.hok.kept hk, ?_⟩
  · exact name_of_addr x.apart (PySem.mem_of_lookup h1) (PySem.mem_of_lookup h2)
  · have hy : scope.names.lookup y = some .cell ∨ scope.names.lookup y = some .free := hy
    rcases hy with hy | hy
    · exact cell_has hy
    · exact absurd rfl (S.nofree _ (PySem.mem_of_lookup hy))
  · exact Nat.le_of_lt (x.above y c (PySem.mem_of_lookup h))
  · have hi : i < vs.length := by
      unfold start at h2
      by_cases hi : i < vs.length
      · exact hi
      · rw [List.getElem?_append_right (by simpa using hi)] at h2
        rw [List.getElem?_replicate] at h2
        split at h2 <;> cases h2
    have ha : vs[i]? = some v := by
      unfold start at h2
      rw [List.getElem?_append_left (by simpa using hi), List.getElem?_map] at h2
      cases e : vs[i]? with
      | none => rw [e] at h2; cases h2
      | some a => rw [e] at h2; cases h2; rfl
    obtain ⟨u, hu, rv⟩ := r.get ha
    have hp : ps[i]? = some y := by
      rw [← S.pre, List.getElem?_take_of_lt (by omega)]; exact h1
    have ndP : ps.Nodup := by rw [← S.pre]; exact S.nd.sublist (List.take_sublist _ _)
    refine ⟨u, rv, ?_⟩
    rcases S.par y (List.mem_of_getElem? hp) with k | k
    · exact .inl ⟨k, bindL_get ndP hp hu k⟩
    · obtain ⟨c, e⟩ := cell_has (n := s.heap.objs.size + 1) k
      refine .inr ⟨.inl k, c, e, ?_⟩
      have q := x.cell y c e
      rw [bindC_get ndP hp hu (by show scope.names.lookup y ≠ _; rw [k]; decide)] at q
      exact q
  · exact e0.hok.fresh (Nat.le_of_lt (x.above y c (PySem.mem_of_lookup h)))
  · unfold start
    show _ = N.length
    rw [List.length_append, List.length_map, List.length_replicate]
    omega
theorem fn_of {CX : CXT} {P : Program} {w : World} {K : PySem.W.Frag} {mg : Str → Option Value} {base : Heap} {k : Nat} {f : Addr} {name qual : Str} {params : Arguments} {body : List Stmt} {scope : Scope} {dV kV doc pm cdv ct oc : Value} {an od : Option Addr}
    {osl : Array (Option Value)} {N ps : List Str} {sp : Sp} (lk : K.lookup f = some ⟨oc, od, .func (PySem.W.fnOf name qual params body scope dV kV doc pm an cdv ct), osl⟩) (hcd : PySem.W.codeIn K cdv qual = true) (S : FnScope N ps scope)
    (len : ∀ vs H Q E, sp vs H Q E → vs.length = ps.length)
    (hbody : ∀ (A : Around) (outer : List Env) (s : Shared) (H : Hp) (vs : List V) (Q : VK) (E : XK), Room k (A.deeper (envOfC qual scope s.heap.objs.size f cdv)) → sp vs H Q E →
      ∃ t, PSs (cxOf CX P w K mg base N qual scope f cdv A outer s H E) body t ∧ t { nx := fun _ H' => Q .non H', rt := Q } (start N vs) H) :
    FnOk P w K mg base CX (k + 1) f (PySem.W.fnOf name qual params body scope dV kV doc pm an cdv ct) ps sp := by
  refine ⟨len, fun A outer s H args us vs Q E hr e0 hb r hsp => ?_⟩
  have hl := len _ _ _ _ hsp
  have KX : K.In s.heap := e0.mod.kin.keeps fun b o e => (e0.bs b o e).1
  have lim : s.heap.NoLimit := e0.mod.nolimit.keeps fun b o e => (e0.bs b o e).1
  have hkind : ∀ y ∈ ps.zip us, scope.names.lookup y.1 = some .local ∨ (scope.names.lookup y.1 = some .cell ∧ ((cellsFrom (s.heap.objs.size + 1) scope.names []).lookup y.1).isSome = true) := fun ⟨n, v⟩ hy => by
    rcases S.par n (List.of_mem_zip hy).1 with q | q
    · exact .inl q
    · exact .inr ⟨q, PySem.W.cellsFrom_some _ _ _ (.inl q)⟩
  refine codeAny_call_function hr.depth (KX _ _ lk) rfl S.co S.gen rfl (PySem.W.codeRec_of KX hcd) (hb _ _ _ _ ?_)
  refine wpAny_newFunctionEnv_cells S.kind hkind fun env he s1 x => ?_
  subst he
  refine ⟨lim.keeps x.toInCall.keep, codeAny_func ?_⟩
  obtain ⟨t, ht, hq⟩ := hbody A outer s H vs Q E (hr.deeper _) hsp
  have I : Inv (cxOf CX P w K mg base N qual scope f cdv A outer s H E) [] (start N vs) H s1 := inv_start S hr.hd e0 hl r x
  refine wpAny_mono (ht [] s1 (start N vs) H _ I hq) (fun fl s' hs => ?_) fun e s' hs => hs
  have fin : ∀ {σ' : St} {H' : Hp} {v : V} {u : Value}, Inv (cxOf CX P w K mg base N qual scope f cdv A outer s H E) [] σ' H' s' → RelV v u → Q v H' → CE outer P w H s Q u s' :=
    fun {σ' H' v u} J rv q => ⟨v, H', J.os, J.bare, J.base, J.hok, rv, q⟩
  cases fl with
  | ret u =>
    obtain ⟨v, σ', H', J, rv, q⟩ := hs
    exact fin J rv q
  | next =>
    obtain ⟨σ', H', J, q⟩ := hs
    exact fin (v := V.non) (u := Value.none) J rfl q
  | brk =>
    obtain ⟨_, _, _, q⟩ := hs
    exact False.elim q
  | cont =>
    obtain ⟨_, _, _, q⟩ := hs
    exact False.elim q
end L2
namespace L2
open PySem PySem.Spec PyProof.Rows
section
variable {X : Cx} {x : Str} {p pos : Pos} {e : Expr} {es : List Expr} {t : TA} {id T : String} {r : List V → Hp → VK → Prop}
def tCB (r : List V → Hp → VK → Prop) (t : TA) : TE := fun σ H Q => t σ H fun vs H1 => r vs H1 Q
theorem pe_callB (hc : CallR X (.builtin id) r) (hg : Gl X x) (hm : X.mg x = none) (hv : bootBuiltins x = some (.builtin id)) (ha : PA X (e :: es) t) (hn : x ≠ "__name__" := by decide) (hdb : (x == ("__debug__" : Str)) = false := by decide)
    (he : starEach (e :: es) X.env = (false, eval e X.env) :: starEach es X.env := by rfl) (hpl : (backTo pos (starEach es X.env)).any (·.1) = false := by rfl) : PE X (.Call (.Name x p) (e :: es) [] pos) (tCB r t) := by
  intro pins s σ H Q I h
  refine wpAny_Call_Name_kw (ld_blt I hg hm hv ?_ hn hdb)
  exact PyProof.Rows.callWith_builtin1 (thn (ha pos pins s σ H _ I h) fun us s1 ⟨vs, H1, I1, r1, q1⟩ => hc pins s1 σ H1 vs us Q I1 r1 q1) he hpl
theorem pe_callTy (hc : CallR X (.type T) r) (hg : Gl X x) (hm : X.mg x = none) (hv : bootBuiltins x = some (.type T)) (ha : PA X (e :: es) t) (hn : x ≠ "__name__" := by decide) (hdb : (x == ("__debug__" : Str)) = false := by decide)
    (he : starEach (e :: es) X.env = (false, eval e X.env) :: starEach es X.env := by rfl) (hpl : (backTo pos (starEach es X.env)).any (·.1) = false := by rfl) : PE X (.Call (.Name x p) (e :: es) [] pos) (tCB r t) := by
  intro pins s σ H Q I h
  refine wpAny_Call_Name_kw (ld_blt I hg hm hv ?_ hn hdb)
  exact PyProof.Rows.callWith_type1 (thn (ha pos pins s σ H _ I h) fun us s1 ⟨vs, H1, I1, r1, q1⟩ => hc pins s1 σ H1 vs us Q I1 r1 q1) he hpl
end
end L2
namespace HT
open PySem PyProof.Rows
section
open PySem.SeqAt
open PySem.AutoSeq1 (wpAny_loadPart')
open PySem.MeetsSeq PySem.MeetsSeq2 PySem.MeetsSeq3
end
section
variable {prog : Program} {w : World} {A : Around} {E : Value → Shared → Prop} {s : Shared}
def sIx (n d : Nat) : Option Int → Nat
  | none => d
  | some v => if v < 0 then (v + (n : Int)).toNat else min v.toNat n
theorem sIx_none (n d : Nat) : sIx n d none = d := rfl
theorem sIx_nat (n d k : Nat) : sIx n d (some (k : Int)) = min k n := by
  show (if (k : Int) < 0 then ((k : Int) + (n : Int)).toNat else min (k : Int).toNat n) = min k n
  rw [if_neg (by omega), Int.toNat_natCast]
theorem sIx_le (n d : Nat) (hd : d ≤ n) (o : Option Int) : sIx n d o ≤ n := by
  cases o with
  | none => exact hd
  | some v =>
    show (if v < 0 then (v + (n : Int)).toNat else min v.toNat n) ≤ n
    by_cases hv : v < 0
    · rw [if_pos hv]; omega
    · rw [if_neg hv]; exact Nat.min_le_right _ _
theorem clip_eq (v : Int) (n d : Nat) : (if v < 0 then max (v + (n : Int)) 0 else min v (n : Int)) = ((sIx n d (some v) : Nat) : Int) := by
  show (if v < 0 then max (v + (n : Int)) 0 else min v (n : Int)) = (((if v < 0 then (v + (n : Int)).toNat else min v.toNat n) : Nat) : Int)
  by_cases hv : v < 0
  · simp only [if_pos hv]; omega
  · simp only [if_neg hv]; omega
theorem adjust_gen (lo hi : Option Int) (n : Nat) : Builtin.Slice.sliceAdjust lo hi 1 (n : Int) = (((sIx n 0 lo : Nat) : Int), ((sIx n n hi : Nat) : Int)) := by
  have h1 : ¬ ((1 : Int) < 0) := by omega
  unfold Builtin.Slice.sliceAdjust
  simp only [h1, if_false]
  refine Prod.ext ?_ ?_
  · cases lo with
    | none => rfl
    | some v => exact clip_eq v n 0
  · cases hi with
    | none => rfl
    | some v => exact clip_eq v n n
theorem places_gen (i j : Nat) : Builtin.Slice.slicePlaces (i : Int) (j : Int) 1 = j - i := by
  unfold Builtin.Slice.slicePlaces
  have h1 : (1 : Int) > 0 := by omega
  simp only [h1, if_true, Int.ediv_one]
  split <;> omega
theorem slicePart_ {v : Value} {o : Option Int} {Q : Option Int → Shared → Prop} (p : IsPart v o) (h : Q o s) : wpAny (model prog w) A (Builtin.Slice.slicePartIndex v) Q E s := by
  cases p with
  | none => exact slicePart_none h
  | int i t => exact slicePart_int h
theorem sliceApplied_gen {sl : Addr} {vl vu : Value} {lo hi : Option Int} {n : Nat} {Q : Int × Int × Nat → Shared → Prop} (hs : s.heap.IsSliceOf sl vl vu .none) (pl : IsPart vl lo) (pu : IsPart vu hi)
    (h : Q (((sIx n 0 lo : Nat) : Int), 1, sIx n n hi - sIx n 0 lo) s) : wpAny (model prog w) A (Builtin.Slice.sliceApplied (.ref sl) (pure (n : Int))) Q E s := by
  obtain ⟨os, hos, hcs, hds⟩ := id hs
  unfold Builtin.Slice.sliceApplied Builtin.Slice.sliceFields
  refine wpAny_bind (wpAny_bind (wpAny_field hos hds (x := vl) rfl (wpAny_bind (wpAny_field hos hds (x := vu) rfl (wpAny_bind (wpAny_field hos hds (x := .none) rfl (wpAny_pure ?_)))))))
  refine wpAny_bind (slicePart_none ?_)
  show wpAny _ _ (if ((1 : Int) == 0) = true then _ else _) _ _ s
  rw [if_neg (by decide)]
  refine wpAny_bind (slicePart_ pl (wpAny_bind (slicePart_ pu (wpAny_bind (wpAny_pure ?_)))))
  show wpAny _ _ (match Builtin.Slice.sliceAdjust lo hi 1 (n : Int) with | (lo, hi) => pure (lo, (1 : Int), Builtin.Slice.slicePlaces lo hi 1)) _ _ s
  rw [adjust_gen lo hi n]
  show wpAny _ _ (pure (((sIx n 0 lo : Nat) : Int), (1 : Int), Builtin.Slice.slicePlaces ((sIx n 0 lo : Nat) : Int) ((sIx n n hi : Nat) : Int) 1)) _ _ s
  rw [places_gen]
  exact wpAny_pure h
theorem pick_gen (xs : Array Value) (i k : Nat) : ((List.range k).filterMap fun (m : Nat) => xs[((i : Int) + (m : Int) * 1).toNat]?).toArray = ((xs.toList.drop i).take k).toArray := by
  have e : (fun (m : Nat) => xs[((i : Int) + (m : Int) * 1).toNat]?) = fun m => xs[i + m]? := by
    funext m
    have : ((i : Int) + (m : Int) * 1).toNat = i + m := by omega
    rw [this]
  rw [e]
  have := pick_run xs i k
  rw [List.filterMap_map] at this
  have e2 : ((fun x => xs[x]?) ∘ fun x => i + x) = fun m => xs[i + m]? := rfl
  rw [e2] at this
  rw [this]
theorem getItem_tuple_cut {t sl : Addr} {items : Array Value} {vl vu : Value} {lo hi : Option Int} {Q : Value → Shared → Prop} (ht : IsTup s.heap t items) (hs : s.heap.IsSliceOf sl vl vu .none) (pl : IsPart vl lo) (pu : IsPart vu hi)
    (hw : ¬ (sIx items.size 0 lo = 0 ∧ sIx items.size items.size hi = items.size))
    (h : Q (.ref s.heap.objs.size) { s with heap := s.heap.push { cls := .type "tuple", data := .seq ((items.toList.drop (sIx items.size 0 lo)).take (sIx items.size items.size hi - sIx items.size 0 lo)).toArray } })
    (hsz : items.size ≤ sizeLine) : wpAny (model prog w) A (getItem (.ref t) (.ref sl)) Q E s := by
  have htake : sizeOk (.seq ((items.toList.drop (sIx items.size 0 lo)).take (sIx items.size items.size hi - sIx items.size 0 lo)).toArray) := by
    show ((items.toList.drop (sIx items.size 0 lo)).take (sIx items.size items.size hi - sIx items.size 0 lo)).toArray.size ≤ sizeLine
    rw [List.size_toArray, List.length_take, List.length_drop, Array.length_toList]
    omega
  have hj : sIx items.size items.size hi ≤ items.size := sIx_le _ _ (Nat.le_refl _) hi
  obtain ⟨os, hos, hcs, hds⟩ := id hs
  have hTs : s.TypeIs (.ref sl) "slice" := ⟨os, hos, hcs⟩
  unfold getItem
  try with_reducible refine wpAny_holding ?_
  first | refine wpAny_bind (wpAny_pure ?_) | skip
  refine wpAny_bind (wpAny_sequenceKey ht.typeIs (by decide) ?_)
  refine wpAny_bind (wpAny_callSpecial?_slot (name := Str.ofString "__getitem__") ht.typeIs PyProof.Rows.slot_tuple_getitem
    (wpAny_call_entry PyProof.Rows.slot_tuple_getitem ht.typeIs entry_tuple_getitem ?_ (args_tuple_getitem _ _)))
  show wpAny _ _ (Builtin.Tuple.tupleItemsOf (.ref t) >>= _) _ _ s
  refine wpAny_bind (tupleItemsOf_ ht ?_)
  refine wpAny_bind (wpAny_typeOf hTs ?_)
  rw [if_pos (by decide)]
  refine wpAny_bind (sliceApplied_gen hs pl pu ?_)
  have hno : ¬ ((((sIx items.size 0 lo : Nat) : Int) == 0 && (1 : Int) == 1 && (sIx items.size items.size hi - sIx items.size 0 lo) == items.size) = true) := by
    intro q
    rw [Bool.and_eq_true, Bool.and_eq_true] at q
    have q1 : ((sIx items.size 0 lo : Nat) : Int) = 0 := eq_of_beq q.1.1
    have q2 : sIx items.size items.size hi - sIx items.size 0 lo = items.size := eq_of_beq q.2
    exact hw ⟨by omega, by omega⟩
  show wpAny _ _ (if (((sIx items.size 0 lo : Nat) : Int) == 0 && (1 : Int) == 1 && (sIx items.size items.size hi - sIx items.size 0 lo) == items.size) = true then _ else _) _ _ s
  rw [if_neg hno, pick_gen]
  first
    | exact wpAny_bind (m := Builtin.Tuple.tupleExact _) (wpAny_newObj_type (wpAny_pure ⟨_, rfl, wpAny_pure h⟩) htake)
    | exact wpAny_bind (m := Builtin.Tuple.tupleExact _) (wpAny_newObj_type (wpAny_bind (wpAny_pure (wpAny_pure ⟨_, rfl, wpAny_pure h⟩))) htake)
    | exact wpAny_bind (wpAny_bind (m := Builtin.Tuple.tupleExact _) (wpAny_newObj_type (wpAny_pure (wpAny_pure ⟨_, rfl, wpAny_pure h⟩)) htake))
    | exact wpAny_bind (wpAny_bind (m := Builtin.Tuple.tupleExact _) (wpAny_newObj_type (wpAny_pure ⟨_, rfl, wpAny_pure h⟩) htake))
end
end HT
namespace L2
open PySem PySem.Spec PyProof.Rows
abbrev TO := St → Hp → (Option Int → Hp → Prop) → Prop
def PO (X : Cx) (e : Option Expr) (t : TO) : Prop :=
  ∀ (pins : List (Addr × Obj)) (s : Shared) (σ : St) (H : Hp) (Q : Option Int → Hp → Prop), Inv X pins σ H s → t σ H Q →
    wpAny (model X.prog X.w) X.A (evalPart e X.env) (fun u s' => ∃ o H', Inv X pins σ H' s' ∧ IsPart u o ∧ Q o H') X.xe s
def tNoPart : TO := fun _ H Q => Q none H
def tPart (t : TE) : TO := fun σ H Q => t σ H fun x H1 => ∃ i, x = .int i ∧ Q (some i) H1
section
variable {X : Cx} {e : Expr} {te : TE} {lo hi : Option Expr} {tl th : TO} {pos p2 : Pos}
theorem po_none : PO X none tNoPart := by
  intro pins s σ H Q I h
  rw [evalPart_none]
  exact wpAny_pure ⟨none, H, I, .none, h⟩
theorem po_some (h : PE X e te) : PO X (some e) (tPart te) := by
  intro pins s σ H Q I hw
  rw [evalPart_some]
  refine thn (h pins s σ H _ I hw) fun u s1 ⟨x, H1, I1, r1, q1⟩ => ?_
  obtain ⟨i, rfl, q⟩ := q1
  obtain ⟨t, rfl⟩ := r1
  exact ⟨some i, H1, I1, .int i t, q⟩
def SlR (X : Cx) (r : V → Option Int → Option Int → Hp → VK → Prop) : Prop :=
  ∀ (pins : List (Addr × Obj)) (s : Shared) (σ : St) (H : Hp) (x : V) (v vl vu : Value) (lo hi : Option Int) (sl : Addr) (Q : VK), Inv X pins σ H s → RelV x v → s.heap.IsSliceOf sl vl vu .none → IsPart vl lo → IsPart vu hi → r x lo hi H Q →
    ∃ T id, typeLookup (.type T) "__getitem__" = pure (some (.builtin id)) ∧ s.TypeIs v T ∧ wpAny (model X.prog X.w) X.A (getItem v (.ref sl)) (EP X pins σ Q) X.xe s
theorem SlR.or {r r' : V → Option Int → Option Int → Hp → VK → Prop} (h : SlR X r) (h' : SlR X r') : SlR X (fun x lo hi H Q => r x lo hi H Q ∨ r' x lo hi H Q) := by
  intro pins s σ H x v vl vu lo hi sl Q I rx hs pl pu q
  rcases q with q | q
  · exact h pins s σ H x v vl vu lo hi sl Q I rx hs pl pu q
  · exact h' pins s σ H x v vl vu lo hi sl Q I rx hs pl pu q
def tSl (r : V → Option Int → Option Int → Hp → VK → Prop) (te : TE) (tl th : TO) : TE := fun σ H Q => te σ H fun x H1 => tl σ H1 fun l H2 => th σ H2 fun u H3 => r x l u H3 Q
theorem pe_slice {r : V → Option Int → Option Int → Hp → VK → Prop} (hr : SlR X r) (he : PE X e te) (hl : PO X lo tl) (hu : PO X hi th) : PE X (.Subscript e (.Slice lo hi none p2) pos) (tSl r te tl th) := by
  intro pins s σ H Q I h
  refine Subscript_ (thn (he pins s σ H _ I h) fun v s1 ⟨x, H1, I1, r1, q1⟩ => ?_)
  refine wpAny_Slice (thn (hl pins s1 σ H1 _ I1 q1) fun vl s2 ⟨l, H2, I2, pl, q2⟩ => thn (hu pins s2 σ H2 _ I2 q2) fun vu s3 ⟨u, H3, I3, pu, q3⟩ => ?_)
  rw [evalPart_none]
  refine wpAny_pure ?_
  have I4 : Inv X pins σ H3 { s3 with heap := s3.heap.push { cls := .type "slice", data := .fields #[vl, vu, .none] } } := I3.kept (t' := s3.toks) fun b ob q => Heap.get?_push_of_some _ q
  obtain ⟨T, id, hT, ht, hg⟩ := hr pins { s3 with heap := s3.heap.push { cls := .type "slice", data := .fields #[vl, vu, .none] } } σ H3 x v vl vu l u s3.heap.objs.size Q I4 r1 (Heap.IsSliceOf.new ..) pl pu q3
  show wpAny (model X.prog X.w) X.A (subscriptTail e (.Slice lo hi none p2) v (.ref s3.heap.objs.size)) (EP X pins σ Q) X.xe { s3 with heap := s3.heap.push { cls := .type "slice", data := .fields #[vl, vu, .none] } }
  exact tail_any (ops := [.ref s3.heap.objs.size, v]) ht hT hg (by with_unfolding_all rfl)
def cutV (xs : List V) (lo hi : Option Int) : List V := (xs.drop (HT.sIx xs.length 0 lo)).take (HT.sIx xs.length xs.length hi - HT.sIx xs.length 0 lo)
theorem cutV_length (xs : List V) (lo hi : Option Int) : (cutV xs lo hi).length ≤ xs.length := by
  unfold cutV
  rw [List.length_take, List.length_drop]
  omega
def rSlT (K : PySem.W.Frag) : V → Option Int → Option Int → Hp → VK → Prop := fun x lo hi H Q => ∃ a xs, x = .ref a ∧ SqT K H a xs ∧
  ¬ (HT.sIx xs.length 0 lo = 0 ∧ HT.sIx xs.length xs.length hi = xs.length) ∧ ∀ p, H p = none → Q (.ref p) (upd H p (.tup (cutV xs lo hi)))
theorem sl_tup : SlR X (rSlT X.K) := by
  intro pins s σ H x v vl vu lo hi sl Q I rx hs pl pu h
  obtain ⟨a, xs, rfl, hx, hw, q⟩ := h
  cases rx
  obtain ⟨its, r, ht, hz⟩ := I.tuple hx
  have hlen : its.toArray.size = xs.length := by rw [List.size_toArray]; exact r.length.symm
  refine ⟨"tuple", _, PyProof.Rows.slot_tuple_getitem.lookup, ht.typeIs, ?_⟩
  refine HT.getItem_tuple_cut ht hs pl pu (by rw [hlen]; exact hw) ?_ (by rw [hlen]; exact hz)
  rw [hlen]
  refine ⟨.ref s.heap.objs.size, _, I.laid (t' := s.toks) (o := .tup (cutV xs lo hi)) (fun b ob q => Heap.get?_push_of_some _ q) (Nat.le_refl _) ?_, rfl, q _ (I.hok.fresh (Nat.le_refl _))⟩
  exact ⟨Nat.le_trans (cutV_length xs lo hi) hz, _, (r.drop (HT.sIx xs.length 0 lo)).take (HT.sIx xs.length xs.length hi - HT.sIx xs.length 0 lo), IsTup.new _ _⟩
end
end L2
namespace L2
open PySem PySem.Spec PyProof.Rows
def ixN (n : Nat) (i : Int) : Option Nat := if 0 ≤ i then (if i < n then some i.toNat else none) else if -(n : Int) ≤ i then some (i + n).toNat else none
def atI {α : Type} (xs : List α) (i : Int) : Option α := (ixN xs.length i).bind fun j => xs[j]?
theorem ixN_seq {n : Nat} {i : Int} {j : Nat} (h : ixN n i = some j) : seqIndex? i n = some j ∧ j < n ∧ -(n : Int) ≤ i ∧ i < n := by
  unfold ixN at h
  by_cases h0 : 0 ≤ i
  · rw [if_pos h0] at h
    by_cases h1 : i < n
    · rw [if_pos h1] at h
      have e : i.toNat = j := Option.some.inj h
      exact ⟨by rw [seqIndex_of h0 h1, e], by omega, by omega, h1⟩
    · rw [if_neg h1] at h; cases h
  · rw [if_neg h0] at h
    by_cases h1 : -(n : Int) ≤ i
    · rw [if_pos h1] at h
      have e : (i + n).toNat = j := Option.some.inj h
      exact ⟨by rw [seqIndex_neg (by omega) h1, e], by omega, h1, by omega⟩
    · rw [if_neg h1] at h; cases h
theorem atI_get {α : Type} {xs : List α} {i : Int} {v : α} (h : atI xs i = some v) : ∃ j, seqIndex? i xs.length = some j ∧ xs[j]? = some v ∧ j < xs.length ∧ -(xs.length : Int) ≤ i ∧ i < xs.length := by
  unfold atI at h
  cases e : ixN xs.length i with
  | none => rw [e] at h; cases h
  | some j =>
    rw [e] at h
    obtain ⟨h1, h2, h3, h4⟩ := ixN_seq e
    exact ⟨j, h1, h, h2, h3, h4⟩
theorem atI_nat {α : Type} {xs : List α} {j : Nat} {v : α} (h : xs[j]? = some v) : atI xs (j : Int) = some v := by
  have hj : j < xs.length := (List.getElem?_eq_some_iff.mp h).1
  have e : ixN xs.length (j : Int) = some j := by
    unfold ixN
    rw [if_pos (by omega), if_pos (by omega)]; simp
  unfold atI; rw [e]; exact h
def PlainIx (b : Expr) : Prop := ∀ o i, subscripted b false o i = operate [o, i] (getItem o i)
def IxR (X : Cx) (r : R2) : Prop :=
  ∀ (value slice : Expr) (pins : List (Addr × Obj)) (s : Shared) (σ : St) (H : Hp) (x y : V) (v u : Value) (Q : VK), Inv X pins σ H s → RelV x v → RelV y u → r x y H Q →
    subscripted slice false v u = operate [v, u] (getItem v u) → wpAny (model X.prog X.w) X.A (subscriptTail value slice v u) (EP X pins σ Q) X.xe s
def MtR (X : Cx) (id : String) (r : V → List V → Hp → VK → Prop) : Prop :=
  ∀ (pins : List (Addr × Obj)) (s : Shared) (σ : St) (H : Hp) (x : V) (xs : List V) (v : Value) (us : List Value) (Q : VK), Inv X pins σ H s → RelV x v → Vals xs us → r x xs H Q →
    wpAny (model X.prog X.w) X.A (call (.builtin id) (v :: us)) (EP X pins σ Q) X.xe s
section
variable {X : Cx} {a b : Expr} {ta tb : TE} {pos : Pos}
theorem IxR.or {r r' : R2} (h : IxR X r) (h' : IxR X r') : IxR X (fun x y H Q => r x y H Q ∨ r' x y H Q) := by
  intro value slice pins s σ H x y v u Q I rx ry q hs
  rcases q with q | q
  · exact h value slice pins s σ H x y v u Q I rx ry q hs
  · exact h' value slice pins s σ H x y v u Q I rx ry q hs
theorem MtR.or {id : String} {r r' : V → List V → Hp → VK → Prop} (h : MtR X id r) (h' : MtR X id r') : MtR X id (fun x xs H Q => r x xs H Q ∨ r' x xs H Q) := by
  intro pins s σ H x xs v us Q I rx rs q
  rcases q with q | q
  · exact h pins s σ H x xs v us Q I rx rs q
  · exact h' pins s σ H x xs v us Q I rx rs q
theorem pe_ix {r : R2} (hr : IxR X r) (ha : PE X a ta) (hb : PE X b tb) (hs : PlainIx b) : PE X (.Subscript a b pos) (tOp r ta tb) := by
  intro pins s σ H Q I h
  exact Subscript_ (binT ha hb I h fun v u s2 x y H2 I2 rx ry q => hr a b pins s2 σ H2 x y v u Q I2 rx ry q (hs _ _))
def rIxL (K : PySem.W.Frag) : R2 := fun x y H Q => ∃ p xs i v, x = .ref p ∧ y = .int i ∧ SqL K H p xs ∧ atI xs i = some v ∧ Q v H
def rIxT (K : PySem.W.Frag) : R2 := fun x y H Q => ∃ p xs i v, x = .ref p ∧ y = .int i ∧ SqT K H p xs ∧ atI xs i = some v ∧ Q v H
def rIxS : R2 := fun x y H Q => ∃ z i c, x = .str z ∧ y = .int i ∧ z.length ≤ sizeLine ∧ atI z.cps.toList i = some c ∧ Q (.str ⟨#[c]⟩) H
theorem ix_list : IxR X (rIxL X.K) := by
  intro value slice pins s σ H x y v u Q I rx ry h hs
  obtain ⟨p, xs, i, z, rfl, rfl, hq, he, q⟩ := h
  cases rx
  obtain ⟨t, rfl⟩ := ry
  obtain ⟨its, r, pl, hz⟩ := I.list hq
  obtain ⟨j, h1, h2, h3, h4, h5⟩ := atI_get he
  obtain ⟨w, ew, rw'⟩ := r.get h2
  have hl := r.length
  have hn := line63
  have fin : EP X pins σ Q w s := ⟨z, H, I, rw', q⟩
  by_cases h0 : 0 ≤ i
  · have hj : i.toNat = j := by
      rw [seqIndex_of h0 h5] at h1
      exact Option.some.inj h1
    exact item_listR pl.isList h0 (by omega) (by rw [hj]; simpa using ew) fin hs
  · have hj : (i + (its.toArray.size : Int)).toNat = j := by
      rw [seqIndex_neg (by omega) h4] at h1
      rw [List.size_toArray, ← hl]
      exact Option.some.inj h1
    exact subscriptTail_builtinR (x := w) pl.isList.typeIs slot_list_getitem.lookup
      (wpAny_getItem_list_neg (Q := fun r s' => r = w ∧ EP X pins σ Q r s') pl.isList (by omega) (by rw [List.size_toArray] <;> omega) (by omega) (by rw [hj]; simpa using ew) ⟨rfl, fin⟩) hs
theorem ix_tup : IxR X (rIxT X.K) := by
  intro value slice pins s σ H x y v u Q I rx ry h hs
  obtain ⟨p, xs, i, z, rfl, rfl, hq, he, q⟩ := h
  cases rx
  obtain ⟨t, rfl⟩ := ry
  obtain ⟨its, r, pl, hz⟩ := I.tuple hq
  obtain ⟨j, h1, h2, h3, h4, h5⟩ := atI_get he
  obtain ⟨w, ew, rw'⟩ := r.get h2
  have hl := r.length
  have hn := line63
  have fin : EP X pins σ Q w s := ⟨z, H, I, rw', q⟩
  exact subscriptTail_builtinR (x := w) pl.typeIs slot_tuple_getitem.lookup
    (getItem_tuple (j := j) (Q := fun r s' => r = w ∧ EP X pins σ Q r s') pl (by omega) (by omega) (by rw [List.size_toArray, ← hl]; exact h1) (by simpa using ew) ⟨rfl, fin⟩) hs
theorem ix_str : IxR X rIxS := by
  intro value slice pins s σ H x y v u Q I rx ry h hs
  obtain ⟨z, i, c, rfl, rfl, hz, he, q⟩ := h
  obtain ⟨t, rfl⟩ := rx
  obtain ⟨t', rfl⟩ := ry
  obtain ⟨j, h1, h2, h3, h4, h5⟩ := atI_get he
  have hl : z.cps.toList.length = z.length := by simp [Str.length]
  rw [hl] at h1 h4 h5
  have hn := line63
  exact tail_any (typeIs_str s z t) slot_str_getitem.lookup (getItem_str (c := c) (by
    have e1 : decide (i < -(2 ^ 63 : Int)) = false := decide_eq_false (by omega)
    have e2 : decide (i ≥ 2 ^ 63) = false := decide_eq_false (by omega)
    rw [e1, e2, Bool.or_false]) (by rw [h1]; simpa using h2) ⟨.str ⟨#[c]⟩, H, I.tok _, ⟨_, rfl⟩, q⟩) hs
def rIx (K : PySem.W.Frag) : R2 := fun x y H Q => rIxL K x y H Q ∨ rIxT K x y H Q ∨ rIxS x y H Q
theorem ix_seq : IxR X (rIx X.K) := ix_list.or (ix_tup.or ix_str)
theorem mapSeq_set (its : List Value) (n j : Nat) (u : Value) : Obj.mapSeq (·.setIfInBounds j u) { cls := .type "list", data := .seq its.toArray n } = { cls := .type "list", data := .seq (its.set j u).toArray n } := by
  simp [Obj.mapSeq]
theorem Inv.lst {pins : List (Addr × Obj)} {σ : St} {H : Hp} {s : Shared} {p : Addr} {xs : List V} (I : Inv X pins σ H s) (h : H p = some (.lst xs)) :
    ∃ (its : List Value) (n : Nat), Vals xs its ∧ s.heap.get? p = some { cls := .type "list", data := .seq its.toArray n } ∧ xs.length ≤ sizeLine := by
  obtain ⟨z, its, n, r, e⟩ := I.hok p _ h
  exact ⟨its, n, r, e, z⟩
theorem Inv.lstUpd {pins : List (Addr × Obj)} {σ : St} {H : Hp} {s : Shared} {p : Addr} {xs ys : List V} {its its' : List Value} {n n' : Nat} {f : Obj → Obj} (I : Inv X pins σ H s) (h : H p = some (.lst xs))
    (ho : s.heap.get? p = some { cls := .type "list", data := .seq its.toArray n }) (hf : f { cls := .type "list", data := .seq its.toArray n } = { cls := .type "list", data := .seq its'.toArray n' }) (r : Vals ys its') (hz : ys.length ≤ sizeLine) (t : Nat) :
    Inv X pins σ (upd H p (.lst ys)) { s with heap := s.heap.update p f, toks := t } := by
  have e : (s.heap.update p f).get? p = some { cls := .type "list", data := .seq its'.toArray n' } := by
    rw [Heap.get?_update_self f ho (by rw [hf] <;> rfl), hf]
  refine I.write (x := p) (e := p) (by rw [h]; trivial) (.inl rfl) (fun b u hb q => (Heap.get?_update_other _ _ (Ne.symm hb)).trans q) ⟨_, e⟩ ?_
  exact ⟨hz, its', n', r, e⟩
def rSetL : V → V → V → Hp → (Hp → Prop) → Prop := fun o i v H Q => ∃ p xs k j, o = .ref p ∧ i = .int k ∧ H p = some (.lst xs) ∧ ixN xs.length k = some j ∧ Q (upd H p (.lst (xs.set j v)))
theorem set_list : PSet X rSetL := by
  intro pins s σ H o i v ov iv u Q I ro ri rv h
  obtain ⟨p, xs, k, j, rfl, rfl, hp, hj, q⟩ := h
  cases ro
  obtain ⟨t, rfl⟩ := ri
  obtain ⟨its, n, r, ho, hz⟩ := I.lst hp
  obtain ⟨h1, h2, h3, h4⟩ := ixN_seq hj
  have hl := r.length
  have hn := line63
  have I' : Inv X pins σ (upd H p (.lst (xs.set j v))) { s with heap := s.heap.update p (Obj.mapSeq (·.setIfInBounds j u)) } :=
    I.lstUpd hp ho (mapSeq_set its n j u) (r.set rv j) (by rw [List.length_set]; exact hz) s.toks
  by_cases h0 : 0 ≤ k
  · have hk : k.toNat = j := by
      rw [seqIndex_of h0 h4] at h1
      exact Option.some.inj h1
    exact PySem.W.ki_setAt ho h0 (by omega) (by rw [List.size_toArray, ← hl]; exact h4) (by rw [hk]; exact ⟨_, I', q⟩)
  · have hk : (k + (its.toArray.size : Int)).toNat = j := by
      rw [seqIndex_neg (by omega) h3] at h1
      rw [List.size_toArray, ← hl]
      exact Option.some.inj h1
    exact PySem.W.ki_setBack ho (by omega) (by rw [List.size_toArray, ← hl]; exact h3) (by omega) (by rw [hk]; exact ⟨_, I', q⟩)
theorem slice_bounds (lo hi : Option Int) (n : Nat) : (sliceBounds lo hi none n).1 = ((HT.sIx n 0 lo : Nat) : Int) ∧ (sliceBounds lo hi none n).2.1 = ((HT.sIx n n hi : Nat) : Int) ∧ (sliceBounds lo hi none n).2.2 = 1 := by
  refine ⟨?_, ?_, rfl⟩
  · cases lo with
    | none => simp [sliceBounds, HT.sIx]
    | some i =>
      simp only [sliceBounds, HT.sIx, Option.getD_none, show (1 : Int) > 0 by decide, if_true]
      by_cases h : i < 0
      · simp only [h, if_true] <;> omega
      · simp only [h, if_false] <;> omega
  · cases hi with
    | none => simp [sliceBounds, HT.sIx]
    | some i =>
      simp only [sliceBounds, HT.sIx, Option.getD_none, show (1 : Int) > 0 by decide, if_true]
      by_cases h : i < 0
      · simp only [h, if_true] <;> omega
      · simp only [h, if_false] <;> omega
theorem slicePick_cut (its : List Value) (lo hi : Option Int) : slicePick its.toArray lo hi none = ((its.drop (HT.sIx its.length 0 lo)).take (HT.sIx its.length its.length hi - HT.sIx its.length 0 lo)).toArray := by
  obtain ⟨h1, h2, h3⟩ := slice_bounds lo hi its.toArray.size
  unfold slicePick
  rw [h1, h2, h3]
  simp only [sliceRange_one, pick_run, List.size_toArray] <;> rfl
def rSlL (K : PySem.W.Frag) : V → Option Int → Option Int → Hp → VK → Prop := fun x lo hi H Q => ∃ a xs, x = .ref a ∧ SqL K H a xs ∧ ∀ p, H p = none → Q (.ref p) (upd H p (.lst (cutV xs lo hi)))
theorem sl_list : SlR X (rSlL X.K) := by
  intro pins s σ H x v vl vu lo hi sl Q I rx hs pl pu h
  obtain ⟨a, xs, rfl, hx, q⟩ := h
  cases rx
  obtain ⟨its, r, ht, hz⟩ := I.list hx
  have hlen := r.length
  refine ⟨"list", _, slot_list_getitem.lookup, ht.isList.typeIs, ?_⟩
  refine wpAny_getItem_list_slice ht.isList hs pl pu .none (by simp) ?_ (by rw [List.size_toArray] <;> omega)
  rw [slicePick_cut, ← hlen]
  refine ⟨.ref s.heap.objs.size, _, I.laid (t' := s.toks) (o := .lst (cutV xs lo hi)) (fun b ob q => Heap.get?_push_of_some _ q) (Nat.le_refl _) ?_, rfl, q _ (I.hok.fresh (Nat.le_refl _))⟩
  exact ⟨Nat.le_trans (cutV_length xs lo hi) hz, _, 0, (r.drop (HT.sIx xs.length 0 lo)).take (HT.sIx xs.length xs.length hi - HT.sIx xs.length 0 lo), Heap.get?_push_size _ rfl⟩
def flatV : V → Bool
  | .non => true
  | .bl _ => true
  | .int _ => true
  | .str _ => true
  | _ => false
def eqV : V → V → Bool
  | .non, .non => true
  | .bl a, .bl b => a == b
  | .bl a, .int b => (if a then 1 else 0) == b
  | .int a, .bl b => a == (if b then 1 else 0)
  | .int a, .int b => a == b
  | .str a, .str b => a == b
  | _, _ => false
theorem eqAt_V {A : Around} {s : Shared} {y x : V} {u v : Value} (ry : RelV y u) (rx : RelV x v) (fy : flatV y = true) (fx : flatV x = true) : SeqAt.EqAt A s u v (eqV y x) := by
  cases y with
  | non =>
    cases ry
    cases x with
    | non => cases rx; exact SeqAt.EqAt.same _
    | bl b => cases rx; exact SeqAt.EqAt.none_bool b
    | int b => obtain ⟨t, rfl⟩ := rx; exact SeqAt.EqAt.none_int b t
    | str b => obtain ⟨t, rfl⟩ := rx; exact SeqAt.EqAt.none_str b t
    | _ => exact absurd (show false = true from fx) Bool.false_ne_true
  | bl a =>
    cases ry
    cases x with
    | non => cases rx; exact SeqAt.EqAt.bool_none a
    | bl b => cases rx; exact SeqAt.EqAt.bool_bool a b
    | int b => obtain ⟨t, rfl⟩ := rx; exact SeqAt.EqAt.bool_int a b t
    | str b => obtain ⟨t, rfl⟩ := rx; exact SeqAt.EqAt.bool_str a b t
    | _ => exact absurd (show false = true from fx) Bool.false_ne_true
  | int a =>
    obtain ⟨t', rfl⟩ := ry
    cases x with
    | non => cases rx; exact SeqAt.EqAt.int_none a t'
    | bl b => cases rx; exact SeqAt.EqAt.int_bool a t' b
    | int b => obtain ⟨t, rfl⟩ := rx; exact SeqAt.EqAt.int_int a t' b t
    | str b => obtain ⟨t, rfl⟩ := rx; exact SeqAt.EqAt.int_str a t' b t
    | _ => exact absurd (show false = true from fx) Bool.false_ne_true
  | str a =>
    obtain ⟨t', rfl⟩ := ry
    cases x with
    | non => cases rx; exact SeqAt.EqAt.str_none a t'
    | bl b => cases rx; exact SeqAt.EqAt.str_bool a t' b
    | int b => obtain ⟨t, rfl⟩ := rx; exact SeqAt.EqAt.str_int a t' b t
    | str b => obtain ⟨t, rfl⟩ := rx; exact SeqAt.EqAt.str_str a t' b t
    | _ => exact absurd (show false = true from fx) Bool.false_ne_true
  | _ => exact absurd (show false = true from fy) Bool.false_ne_true
theorem CallR.or {f : Value} {r r' : List V → Hp → VK → Prop} (h : CallR X f r) (h' : CallR X f r') : CallR X f (fun xs H Q => r xs H Q ∨ r' xs H Q) := by
  intro pins s σ H xs us Q I rs q
  rcases q with q | q
  · exact h pins s σ H xs us Q I rs q
  · exact h' pins s σ H xs us Q I rs q
theorem call_list_of : CallR X (.type "list") (fun xs H Q => ∃ p ys, xs = [.ref p] ∧ (SqL X.K H p ys ∨ SqT X.K H p ys) ∧ ∀ l, H l = none → Q (.ref l) (upd H l (.lst ys))) := by
  intro pins s σ H xs us Q I r h
  obtain ⟨p, ys, rfl, hq, q⟩ := h
  obtain ⟨u, rfl, rx⟩ := vals1 r
  cases rx
  have fin : ∀ (its : List Value), Vals ys its → ys.length ≤ sizeLine → ∀ (h' : Heap) (c' : Nat), (∀ b o', s.heap.get? b = some o' → h'.get? b = some o') →
      h'.get? s.heap.objs.size = some { cls := .type "list", dict := none, data := .seq its.toArray c', slots := #[] } → EP X pins σ Q (.ref s.heap.objs.size) { s with heap := h' } := fun its r' hz h' c' kp e =>
    ⟨.ref s.heap.objs.size, _, I.laid (t' := s.toks) kp (Nat.le_refl _) (show ObjOk X.prog X.w _ h' _ (.lst ys) from ⟨hz, its, c', r', e⟩), rfl, q _ (I.hok.fresh (Nat.le_refl _))⟩
  rcases hq with hq | hq
  · obtain ⟨its, r', pl, hz⟩ := I.list hq
    have hlen := r'.length
    obtain ⟨o, ho, hc, n, hd⟩ := pl.isList
    exact call_list_seq p (.inl rfl) ho hc hd (fun h' c' kp e => fin its r' hz h' c' kp e) (by simp only [List.size_toArray] <;> omega)
  · obtain ⟨its, r', pl, hz⟩ := I.tuple hq
    have hlen := r'.length
    obtain ⟨o, ho, hc, n, hd⟩ := pl
    exact call_list_seq p (.inr rfl) ho hc hd (fun h' c' kp e => fin its r' hz h' c' kp e) (by simp only [List.size_toArray] <;> omega)
theorem call_tuple_of : CallR X (.type "tuple") (fun xs H Q => ∃ p ys, xs = [.ref p] ∧ ((SqL X.K H p ys ∧ ∀ l, H l = none → Q (.ref l) (upd H l (.tup ys))) ∨ (SqT X.K H p ys ∧ Q (.ref p) H))) := by
  intro pins s σ H xs us Q I r h
  obtain ⟨p, ys, rfl, h⟩ := h
  obtain ⟨u, rfl, rx⟩ := vals1 r
  cases rx
  rcases h with ⟨hq, q⟩ | ⟨hq, q⟩
  · obtain ⟨its, r', pl, hz⟩ := I.list hq
    have hlen := r'.length
    refine call_tuple_list pl.isList (fun h' kp => ?_) (by simp only [List.size_toArray] <;> omega)
    have I1 : Inv X pins σ H { s with heap := h' } := I.kept (t' := s.toks) kp
    have I2 : Inv X pins σ (upd H h'.objs.size (.tup ys)) { s with heap := h'.push { cls := .type "tuple", data := .seq its.toArray } } :=
      I1.laid (t' := s.toks) (fun b o e => Heap.get?_push_of_some _ e) (Nat.le_refl _) (show ObjOk X.prog X.w _ _ _ (.tup ys) from ⟨hz, its, r', IsTup.new _ _⟩)
    exact ⟨.ref h'.objs.size, _, I2, rfl, q _ (I1.hok.fresh (Nat.le_refl _))⟩
  · obtain ⟨its, r', pl, hz⟩ := I.tuple hq
    exact call_tuple_same pl ⟨.ref p, H, I, rfl, q⟩
def tyV (K : PySem.W.Frag) (T : String) (x : V) (H : Hp) : Prop := match x with
  | .str _ => T = "str"
  | .int _ => T = "int"
  | .ref p => (T = "list" ∧ ∃ xs, SqL K H p xs) ∨ (T = "tuple" ∧ ∃ o, K.lookup p = some o ∧ o.cls = .type "tuple" ∧ o.dict = none) ∨
      (T = "dict" ∧ ((∃ kvs, H p = some (.dK kvs)) ∨ ∃ kvs, H p = some (.dT kvs))) ∨ (T = "set" ∧ ∃ S n, H p = some (.set S n))
  | _ => False
theorem tyV_is {pins : List (Addr × Obj)} {σ : St} {H : Hp} {s : Shared} {T : String} {x : V} {v : Value} (I : Inv X pins σ H s) (r : RelV x v) (ty : tyV X.K T x H) :
    s.TypeIs v T ∧ ∀ a, v = .ref a → ∃ ob, s.heap.get? a = some ob ∧ ob.dict = none := by
  cases x with
  | str z =>
    obtain ⟨t, rfl⟩ := r
    cases (show T = "str" from ty)
    exact ⟨typeIs_str s z t, fun _ e => nomatch e⟩
  | int i =>
    obtain ⟨t, rfl⟩ := r
    cases (show T = "int" from ty)
    exact ⟨typeIs_int s i t, fun _ e => nomatch e⟩
  | ref p =>
    cases r
    rcases ty with ⟨rfl, xs, hq⟩ | ⟨rfl, o, hk, hc, hd⟩ | ⟨rfl, hk⟩ | ⟨rfl, S, n, hk⟩
    · obtain ⟨its, _, pl, _⟩ := I.list hq
      refine ⟨pl.isList.typeIs, fun a e => ?_⟩
      cases e
      obtain ⟨o, n, e, c, hd, _⟩ := pl
      exact ⟨o, e, hd⟩
    · refine ⟨⟨o, I.kIn p o hk, hc⟩, fun a e => ?_⟩
      cases e
      exact ⟨o, I.kIn _ o hk, hd⟩
    · have z : ∃ o, s.heap.get? p = some o ∧ o.ExactDict := by
        rcases hk with ⟨kvs, hk⟩ | ⟨kvs, hk⟩
        · obtain ⟨_, _, _, _, o, _, _, e, ex, _⟩ := I.hok p _ hk
          exact ⟨o, e, ex⟩
        · obtain ⟨_, _, _, _, o, _, _, e, ex, _⟩ := I.hok p _ hk
          exact ⟨o, e, ex⟩
      obtain ⟨o, e, ex⟩ := z
      refine ⟨⟨o, e, ex.1⟩, fun a e2 => ?_⟩
      cases e2
      exact ⟨o, e, ex.2.1⟩
    · obtain ⟨o, _, _, _, e, ex, _⟩ := I.hok p _ hk
      refine ⟨⟨o, e, ex.1⟩, fun a e2 => ?_⟩
      cases e2
      exact ⟨o, e, ex.2.1⟩
  | _ => exact False.elim ty
def tBM0 (K : PySem.W.Frag) (T : String) (r : V → List V → Hp → VK → Prop) (to : TE) : TE := fun σ H Q => to σ H fun x H1 => tyV K T x H1 ∧ r x [] H1 Q
def tBM (K : PySem.W.Frag) (T : String) (r : V → List V → Hp → VK → Prop) (to : TE) (t : TA) : TE := fun σ H Q => to σ H fun x H1 => tyV K T x H1 ∧ t σ H1 fun xs H2 => r x xs H2 Q
variable {o e : Expr} {es : List Expr} {to : TE} {t : TA} {name : Str} {apos cpos : Pos} {T id : String} {r : V → List V → Hp → VK → Prop}
theorem pe_bm0 (pa : PlainAttrs T) (slot : Slot T name id) (hty : typeOf (.builtin id) = pure (.type "method_descriptor")) (hm : MtR X id r) (ho : PE X o to)
    (hbase : attributeBase o name X.env (eval o X.env) = eval o X.env := by rfl) (hline : (apos.endLine == cpos.line) = true := by rfl) : PE X (.Call (.Attribute o name apos) [] [] cpos) (tBM0 X.K T r to) := by
  intro pins s σ H Q I h
  refine wpAny_Call_method0_late hbase hline (thn (ho pins s σ H _ I h) fun v s1 ⟨x, H1, I1, r1, ty, q1⟩ => ?_)
  obtain ⟨h1, h2⟩ := tyV_is I1 r1 ty
  exact ⟨T, id, pa, slot, hty, h1, h2, Calls.callWith_builtin rfl (PySem.evalArgs_none (hm pins s1 σ H1 x [] v [] Q I1 r1 .nil q1))⟩
theorem pe_bm (pa : PlainAttrs T) (slot : Slot T name id) (hty : typeOf (.builtin id) = pure (.type "method_descriptor")) (hm : MtR X id r) (ho : PE X o to) (ha : PA X (e :: es) t)
    (hbase : attributeBase o name X.env (eval o X.env) = eval o X.env := by rfl)
    (hfew : ((backTo cpos (starEach (e :: es) X.env)).all (fun x => !x.1) && (backToKw cpos (keywordEach [] X.env)).all (fun x => x.1.isSome)
      && decide ((e :: es).length + ([] : List Keyword).length + (if ([] : List Keyword).isEmpty then 0 else 1) < 30)) = true := by rfl)
    (hline : (apos.endLine == cpos.line) = true := by rfl) (hs : starEach (e :: es) X.env = (false, eval e X.env) :: starEach es X.env := by rfl) (hplain : (backTo cpos (starEach es X.env)).any (·.1) = false := by rfl) :
    PE X (.Call (.Attribute o name apos) (e :: es) [] cpos) (tBM X.K T r to t) := by
  intro pins s σ H Q I h
  refine wpAny_Call_method_late hbase hfew hline rfl (thn (ho pins s σ H _ I h) fun v s1 ⟨x, H1, I1, r1, ty, q1⟩ => ?_)
  obtain ⟨h1, h2⟩ := tyV_is I1 r1 ty
  refine ⟨T, id, pa, slot, hty, h1, h2, ?_⟩
  have hA := ha cpos pins s1 σ H1 _ I1 q1
  rw [hs] at hA ⊢
  refine Calls.callWith_builtin (by show (false || (backTo cpos (starEach es X.env)).any (·.1)) = false; rw [hplain] <;> rfl) (Calls.evalArgs_plain ?_)
  exact thn hA fun us s2 ⟨vs, H2, I2, r2, q2⟩ => hm pins s2 σ H2 x vs v us Q I2 r1 r2 q2
/- xs.append(e), list.index on a module's tuple .. are MtR facts of 06m -/
end
end L2
namespace L2
open PySem PySem.Spec PyProof.Rows
def MtM (X : Cx) (id : String) (r : V → List V → Hp → VK → Prop) : Prop :=
  ∀ (pins : List (Addr × Obj)) (s : Shared) (σ : St) (H : Hp) (x : V) (xs : List V) (v : Value) (us : List Value) (Q : VK), Inv X pins σ H s → RelV x v → Vals xs us → r x xs H Q →
    wpAny (model X.prog X.w) X.A (call (.builtin id) (v :: us)) (EP X pins σ Q) X.xe s
theorem Vals.one : ∀ {x : V} {us : List Value}, Vals [x] us → ∃ u, us = [u] ∧ RelV x u
  | _, _, .cons r .nil => ⟨_, rfl, r⟩
theorem Vals.two : ∀ {x y : V} {us : List Value}, Vals [x, y] us → ∃ u v, us = [u, v] ∧ RelV x u ∧ RelV y v
  | _, _, _, .cons r (.cons q .nil) => ⟨_, _, rfl, r, q⟩
theorem Vals.zero : ∀ {us : List Value}, Vals [] us → us = []
  | _, .nil => rfl
theorem Vals.dropLast {xs : List V} {us : List Value} (h : Vals xs us) : Vals xs.dropLast us.dropLast := by
  induction h with
  | nil => exact .nil
  | cons r t ih =>
    cases t with
    | nil => exact .nil
    | cons q t' => exact .cons r ih
theorem Vals.eraseIdx : ∀ {xs : List V} {us : List Value} (i : Nat), Vals xs us → Vals (xs.eraseIdx i) (us.eraseIdx i)
  | _, _, _, .nil => .nil
  | _, _, 0, .cons _ t => t
  | _, _, i + 1, .cons r t => .cons r (Vals.eraseIdx i t)
theorem Vals.reverse {xs : List V} {us : List Value} (h : Vals xs us) : Vals xs.reverse us.reverse := by
  induction h with
  | nil => exact .nil
  | cons r t ih => rw [List.reverse_cons, List.reverse_cons]; exact Vals.append ih (.cons r .nil)
theorem Vals.rep {xs : List V} {us : List Value} (h : Vals xs us) : ∀ k : Nat, Vals (List.replicate k xs).flatten (List.replicate k us).flatten
  | 0 => .nil
  | k + 1 => by
    rw [List.replicate_succ, List.replicate_succ, List.flatten_cons, List.flatten_cons]
    exact Vals.append h (Vals.rep h k)
theorem erase_last {α : Type} (l : List α) : l.eraseIdx (l.length - 1) = l.dropLast := by
  induction l with
  | nil => rfl
  | cons a r ih =>
    cases r with
    | nil => rfl
    | cons b r =>
      have e : (a :: b :: r).length - 1 = ((b :: r).length - 1) + 1 := by
        have h1 : (a :: b :: r).length = r.length + 2 := rfl
        have h2 : (b :: r).length = r.length + 1 := rfl
        omega
      rw [e, List.eraseIdx_cons_succ, ih]
      all_goals rfl
theorem foldl_rep (its : List Value) : ∀ (k : Nat) (acc : List Value),
    List.foldl (fun x1 x2 => x1 ++ x2) acc.toArray (List.replicate k its.toArray) = (acc ++ (List.replicate k its).flatten).toArray
  | 0, acc => by simp
  | k + 1, acc => by
    have e : acc.toArray ++ its.toArray = (acc ++ its).toArray := by simp
    have e2 : (acc ++ its) ++ (List.replicate k its).flatten = acc ++ (List.replicate (k + 1) its).flatten := by
      rw [List.replicate_succ, List.flatten_cons, List.append_assoc]
    rw [← e2, ← foldl_rep its k (acc ++ its), ← e, List.replicate_succ, List.foldl_cons]
section
variable {X : Cx} {pins : List (Addr × Obj)} {σ : St} {H : Hp} {s : Shared} {l b : Addr} {xs ys zs : List V}
theorem Inv.lset {its its' : List Value} {n : Nat} {f : Array Value → Array Value} {t' : Nat} (I : Inv X pins σ H s) (hH : H l = some (.lst xs))
    (e : s.heap.get? l = some { cls := .type "list", data := .seq its.toArray n }) (hf : f its.toArray = its'.toArray) (hv : Vals ys its') (hz : ys.length ≤ sizeLine) :
    Inv X pins σ (upd H l (.lst ys)) { s with heap := s.heap.update l (Obj.mapSeq f), toks := t' } := by
  have q := PySem.IsL.update e f
  rw [hf] at q
  refine I.write (x := l) (e := l) (by rw [hH]; exact trivial) (.inl rfl) (fun b' u hb hu => (Heap.get?_update_other s.heap (Obj.mapSeq f) (Ne.symm hb)).trans hu) ⟨_, q⟩ ?_
  exact ⟨hz, its', _, hv, q⟩
theorem Inv.lnew {its : List Value} {t' : Nat} (I : Inv X pins σ H s) (hv : Vals ys its) (hz : ys.length ≤ sizeLine) :
    Inv X pins σ (upd H s.heap.objs.size (.lst ys)) { s with heap := s.heap.push { cls := .type "list", data := .seq its.toArray }, toks := t' } :=
  I.laid (fun _ _ q => Heap.get?_push_of_some _ q) (Nat.le_refl _) ⟨hz, its, 0, hv, Heap.get?_push_size _ rfl⟩
theorem Inv.fresh (I : Inv X pins σ H s) : H s.heap.objs.size = none := I.hok.fresh (Nat.le_refl _)
theorem Inv.lstM (I : Inv X pins σ H s) (hH : H l = some (.lst xs)) : xs.length ≤ sizeLine ∧ ∃ (its : List Value) (n : Nat), Vals xs its ∧ xs.length = its.length ∧ s.heap.get? l = some { cls := .type "list", data := .seq its.toArray n } := by
  obtain ⟨z, its, n, r, e⟩ := I.hok l _ hH
  exact ⟨z, its, n, r, r.length, e⟩
theorem notLongL {n : Nat} (h : n ≤ sizeLine) : Builtin.List.listTooLong n = false := by
  unfold Builtin.List.listTooLong
  exact decide_eq_false (by omega)
end
section
variable {X : Cx}
def rAppend : V → List V → Hp → VK → Prop := fun x vs H Q => ∃ l xs y, x = .ref l ∧ vs = [y] ∧ H l = some (.lst xs) ∧ xs.length < sizeLine ∧ Q .non (upd H l (.lst (xs ++ [y])))
theorem mt_append : MtM X "list.append" rAppend := by
  intro pins s σ H x vs v us Q I rx rv h
  obtain ⟨l, xs, y, rfl, rfl, hH, hz, q⟩ := h
  cases rx
  obtain ⟨u, rfl, ru⟩ := rv.one
  obtain ⟨z, its, n, r, hl, e⟩ := I.lstM hH
  refine call_meets F.slot_list_append ⟨_, e, rfl⟩ F.entry_list_append (F.args_list_append_2 _ _) (PySem.list_append l its.toArray n u (by rw [List.size_toArray]; omega)) ⟨e, ?_⟩
  refine ⟨.non, _, I.lset (its' := its ++ [u]) hH e (by simp) (r.append (.cons ru .nil)) ?_, rfl, q⟩
  rw [List.length_append, List.length_singleton]
  omega
def rExtend : V → List V → Hp → VK → Prop := fun x vs H Q => ∃ l b xs zs, x = .ref l ∧ vs = [.ref b] ∧ H l = some (.lst xs) ∧ H b = some (.lst zs) ∧ xs.length + zs.length ≤ sizeLine ∧ Q .non (upd H l (.lst (xs ++ zs)))
theorem mt_extend : MtM X "list.extend" rExtend := by
  intro pins s σ H x vs v us Q I rx rv h
  obtain ⟨l, b, xs, zs, rfl, rfl, hH, hB, hz, q⟩ := h
  cases rx
  obtain ⟨u, rfl, ru⟩ := rv.one
  cases ru
  obtain ⟨z, its, n, r, hl, e⟩ := I.lstM hH
  obtain ⟨z2, its2, n2, r2, hl2, e2⟩ := I.lstM hB
  have hsz : its.toArray.size + its2.toArray.size ≤ sizeLine := by rw [List.size_toArray, List.size_toArray]; omega
  have hlong : ¬ (!its.toArray.isEmpty && Builtin.List.listTooLong (its.toArray.size + its2.toArray.size)) = true := by
    rw [notLongL hsz, Bool.and_false]
    exact Bool.false_ne_true
  refine call_meets F.slot_list_extend ⟨_, e, rfl⟩ F.entry_list_extend (F.args_list_extend_2 _ _)
    (AutoSeq1.list_extend_list_list_0 l its.toArray n b its2.toArray n2 hlong (by rw [List.size_toArray]; omega) (by omega)) ⟨e, e2, ?_⟩
  refine ⟨.non, _, I.lset (its' := its ++ its2) hH e (by simp) (r.append r2) ?_, rfl, q⟩
  rw [List.length_append]
  omega
def rPop : V → List V → Hp → VK → Prop := fun x vs H Q => ∃ l xs y, x = .ref l ∧ vs = [] ∧ H l = some (.lst xs) ∧ xs[xs.length - 1]? = some y ∧ Q y (upd H l (.lst xs.dropLast))
theorem mt_pop : MtM X "list.pop" rPop := by
  intro pins s σ H x vs v us Q I rx rv h
  obtain ⟨l, xs, y, rfl, rfl, hH, hy, q⟩ := h
  cases rx
  have hus := rv.zero
  subst hus
  obtain ⟨z, its, n, r, hl, e⟩ := I.lstM hH
  obtain ⟨u, hu, ru⟩ := r.get hy
  have hy' : its.toArray[its.toArray.size - 1]? = some u := by
    show its.toArray[its.length - 1]? = some u
    rw [← Array.getElem?_toList, ← hl]
    exact hu
  refine call_meets F.slot_list_pop ⟨_, e, rfl⟩ F.entry_list_pop (F.args_list_pop_1 _) (MeetsSeq.list_pop_last l its.toArray n u hy' (by rw [List.size_toArray]; omega)) ⟨e, ?_⟩
  refine ⟨y, _, I.lset (its' := its.dropLast) hH e ?_ r.dropLast ?_, ru, q⟩
  · show its.toArray.eraseIdxIfInBounds (its.toArray.size - 1) = its.dropLast.toArray
    rw [List.size_toArray, List.eraseIdxIfInBounds_toArray, erase_last]
  · rw [List.length_dropLast]
    omega
def rClear : V → List V → Hp → VK → Prop := fun x vs H Q => ∃ l xs, x = .ref l ∧ vs = [] ∧ H l = some (.lst xs) ∧ Q .non (upd H l (.lst []))
theorem mt_clear : MtM X "list.clear" rClear := by
  intro pins s σ H x vs v us Q I rx rv h
  obtain ⟨l, xs, rfl, rfl, hH, q⟩ := h
  cases rx
  have hus := rv.zero
  subst hus
  obtain ⟨z, its, n, r, hl, e⟩ := I.lstM hH
  refine call_meets F.slot_list_clear ⟨_, e, rfl⟩ F.entry_list_clear (F.args_list_clear_1 _) (AutoSeq1.list_clear_list_0 l its.toArray n (by rw [List.size_toArray]; omega)) ⟨e, ?_⟩
  exact ⟨.non, _, I.lset (its' := []) (ys := []) hH e rfl .nil (Nat.zero_le _), rfl, q⟩
def rCat : R2 := fun x y H Q => ∃ l b xs zs, x = .ref l ∧ y = .ref b ∧ H l = some (.lst xs) ∧ H b = some (.lst zs) ∧ xs.length + zs.length ≤ sizeLine ∧ ∀ p, H p = none → Q (.ref p) (upd H p (.lst (xs ++ zs)))
theorem op_cat : OpR X (binaryOp .Add) rCat := by
  intro pins s σ H x y v u Q I rx ry h
  obtain ⟨l, b, xs, zs, rfl, rfl, hH, hB, hz, q⟩ := h
  cases rx
  cases ry
  obtain ⟨z, its, n, r, hl, e⟩ := I.lstM hH
  obtain ⟨z2, its2, n2, r2, hl2, e2⟩ := I.lstM hB
  refine PySem.P.add_list e e2 ?_ (by rw [List.size_toArray, List.size_toArray]; omega)
  have ea : its.toArray ++ its2.toArray = (its ++ its2).toArray := by simp
  rw [ea]
  exact ⟨.ref _, _, I.lnew (t' := s.toks) (r.append r2) (by rw [List.length_append]; omega), rfl, q _ I.fresh⟩
def rRep : R2 := fun x y H Q => ∃ l k xs, x = .ref l ∧ y = .int k ∧ H l = some (.lst xs) ∧ -(2 ^ 63) ≤ k ∧ k < 2 ^ 63 ∧ xs.length * k.toNat ≤ sizeLine ∧
  ∀ p, H p = none → Q (.ref p) (upd H p (.lst (List.replicate k.toNat xs).flatten))
theorem len_rep {α : Type} (xs : List α) (k : Nat) : (List.replicate k xs).flatten.length = k * xs.length := by
  induction k with
  | zero => simp
  | succ k ih => rw [List.replicate_succ, List.flatten_cons, List.length_append, ih, Nat.succ_mul, Nat.add_comm]
theorem op_rep : OpR X (binaryOp .Mult) rRep := by
  intro pins s σ H x y v u Q I rx ry h
  obtain ⟨l, k, xs, rfl, rfl, hH, h1, h2, hz, q⟩ := h
  cases rx
  obtain ⟨t, rfl⟩ := ry
  obtain ⟨z, its, n, r, hl, e⟩ := I.lstM hH
  have hlen : its.toArray.size * k.toNat ≤ sizeLine := by rw [List.size_toArray, ← hl]; exact hz
  have hcap : ¬ its.toArray.size * k.toNat > (2 ^ 63 - 1) / 8 := by
    have : (sizeLine : Nat) ≤ (2 ^ 63 - 1) / 8 := by decide
    omega
  have hfit : ¬ (!Builtin.List.listFitsIndex k) = true := by
    rw [fitsIndex_both h1 h2]
    exact Bool.false_ne_true
  have hlong : ¬ Builtin.List.listTooLong (its.toArray.size * k.toNat) = true := by
    rw [notLongL hlen]
    exact Bool.false_ne_true
  have hnew : List.foldl (fun x1 x2 => x1 ++ x2) #[] (List.replicate (if its.toArray.isEmpty = true then 0 else k.toNat) its.toArray) = (List.replicate k.toNat its).flatten.toArray := by
    have f0 : ∀ m : Nat, List.foldl (fun x1 x2 => x1 ++ x2) #[] (List.replicate m its.toArray) = (List.replicate m its).flatten.toArray := fun m => by
      have := foldl_rep its m []
      rw [List.nil_append] at this
      exact this
    rw [f0]
    cases its with
    | nil => simp
    | cons a r' => rw [if_neg (by simp)]
  refine wpAny_binaryOp_repeat_ref (T := "list") (U := "int") (by decide) ⟨_, e, rfl⟩ (fun s' => typeIs_int s' k t) noFill_list_mul F.fills_int_mul F.slot_int_rmul repeat_list F.slot_int_index.lookup
    (call_meets F.slot_int_rmul (typeIs_int s k t) F.entry_int_rmul (F.args_int_rmul_2 _ _) (int___rmul___int_list k t l its.toArray n)
      ⟨e, rfl, ⟨_, e, rfl⟩, call_meets F.slot_list_mul ⟨_, e, rfl⟩ F.entry_list_mul (F.args_list_mul_2 _ _) (AutoListH.list___mul___list_int_3 l its.toArray n k t hfit hcap hlong) ⟨e, ?_⟩⟩)
  rw [hnew]
  exact ⟨.ref _, _, I.lnew (t' := s.toks) (r.rep k.toNat) (by rw [len_rep, Nat.mul_comm]; exact hz), rfl, q _ I.fresh⟩
end
section
variable {prog : Program} {w : World} {A : Around} {E : Value → Shared → Prop} {s : Shared}
end
section
variable {X : Cx}
end
end L2
namespace L2
open PySem PySem.Spec PyProof.Rows
section
variable {κ : Type} [DecidableEq κ]
def valV (kvs : List (κ × V)) (k : κ) : Option V := (kvs.find? fun kv => decide (kv.1 = k)).map (·.2)
def putK (kvs : List (κ × V)) (k : κ) (v : V) : List (κ × V) :=
  if (kvs.any fun kv => decide (kv.1 = k)) = true then kvs.map (fun kv => if kv.1 = k then (kv.1, v) else kv) else kvs ++ [(k, v)]
def dropK (kvs : List (κ × V)) (k : κ) : List (κ × V) := kvs.filter fun kv => decide (kv.1 ≠ k)
theorem RelO.getD {o : Option V} {u : Option Value} {d : V} {d' : Value} (r : RelO o u) (rd : RelV d d') : RelV (o.getD d) (u.getD d') := by
  cases o with
  | none => cases u with
    | none => exact rd
    | some _ => exact (show False from r).elim
  | some _ => cases u with
    | none => exact (show False from r).elim
    | some _ => exact r
theorem KV.any {kvs : List (κ × V)} {vs : List (κ × Value)} (r : KV kvs vs) (k : κ) : (kvs.any fun kv => decide (kv.1 = k)) = vs.any fun kv => decide (kv.1 = k) := by
  unfold KV at r
  induction r with
  | nil => rfl
  | cons h t ih => rw [List.any_cons, List.any_cons, ih, h.1]
theorem KV.drop {kvs : List (κ × V)} {vs : List (κ × Value)} (r : KV kvs vs) (k : κ) : KV (dropK kvs k) (without vs k) := by
  unfold KV at r ⊢
  unfold dropK without
  induction r with
  | nil => exact .nil
  | @cons p q ps qs h t ih =>
    obtain ⟨h1, h2⟩ := h
    rw [List.filter_cons, List.filter_cons]
    by_cases e : p.1 = k
    · have a : ¬ decide (p.1 ≠ k) = true := by simp [e]
      have b : ¬ decide (q.1 ≠ k) = true := by simp [h1.symm.trans e]
      rw [if_neg a, if_neg b]; exact ih
    · have e' : ¬ q.1 = k := fun z => e (h1.trans z)
      have a : decide (p.1 ≠ k) = true := by simp [e]
      have b : decide (q.1 ≠ k) = true := by simp [e']
      rw [if_pos a, if_pos b]; exact .cons ⟨h1, h2⟩ ih
theorem KV.keys {kvs : List (κ × V)} {vs : List (κ × Value)} (r : KV kvs vs) : kvs.map (·.1) = vs.map (·.1) := by
  unfold KV at r
  induction r with
  | nil => rfl
  | cons h t ih => rw [List.map_cons, List.map_cons, ih, h.1]
theorem KV.length {kvs : List (κ × V)} {vs : List (κ × Value)} (r : KV kvs vs) : kvs.length = vs.length := Paired.length r
end
abbrev KT (H : Hp) : List (List Key × V) → List (List Key × Addr × Value) → Prop := Paired fun p q => p.1 = q.1 ∧ H q.2.1 = some (.tup (p.1.map kV)) ∧ RelV p.2 q.2.2
theorem KT.keeps {H H' : Hp} {kvs : List (List Key × V)} {xs : List (List Key × Addr × Value)} (r : KT H kvs xs) (ht : ∀ b ys, H b = some (.tup ys) → H' b = some (.tup ys)) : KT H' kvs xs :=
  Paired.mapP r fun _ _ z => ⟨z.1, ht _ _ z.2.1, z.2.2⟩
section
variable {P : Program} {w : World} {H : Hp} {h : Heap} {a : Addr}
end
def DGet (H : Hp) (a : Addr) (y : V) (r : Option V) : Prop :=
  (∃ kvs k, Rd H a (.dK kvs) ∧ y = kV k ∧ r = valV kvs k) ∨ ∃ kvs k b, Rd H a (.dT kvs) ∧ y = .ref b ∧ H b = some (.tup (k.map kV)) ∧ r = valV kvs k
def DPut (H : Hp) (a : Addr) (y v : V) (H' : Hp) : Prop :=
  (∃ kvs k, H a = some (.dK kvs) ∧ y = kV k ∧ kvs.length < sizeLine ∧ H' = upd H a (.dK (putK kvs k v))) ∨
  ∃ kvs k b, H a = some (.dT kvs) ∧ y = .ref b ∧ H b = some (.tup (k.map kV)) ∧ kvs.length < sizeLine ∧ H' = upd H a (.dT (putK kvs k v))
theorem DGet.k {H : Hp} {a : Addr} {kvs : List (Key × V)} {k : Key} (e : H a = some (.dK kvs)) : DGet H a (kV k) (valV kvs k) := .inl ⟨kvs, k, .inl e, rfl, rfl⟩
theorem DGet.t {H : Hp} {a b : Addr} {kvs : List (List Key × V)} {k : List Key} (e : H a = some (.dT kvs)) (eb : H b = some (.tup (k.map kV))) : DGet H a (.ref b) (valV kvs k) := .inr ⟨kvs, k, b, .inl e, rfl, eb, rfl⟩
theorem DPut.k {H : Hp} {a : Addr} {kvs : List (Key × V)} {k : Key} {v : V} (e : H a = some (.dK kvs)) (hl : kvs.length < sizeLine) : DPut H a (kV k) v (upd H a (.dK (putK kvs k v))) := .inl ⟨kvs, k, e, rfl, hl, rfl⟩
theorem DPut.t {H : Hp} {a b : Addr} {kvs : List (List Key × V)} {k : List Key} {v : V} (e : H a = some (.dT kvs)) (eb : H b = some (.tup (k.map kV))) (hl : kvs.length < sizeLine) :
    DPut H a (.ref b) v (upd H a (.dT (putK kvs k v))) := .inr ⟨kvs, k, b, e, rfl, eb, hl, rfl⟩
section
variable {X : Cx} {pins : List (Addr × Obj)} {σ : St} {H : Hp} {s : Shared} {a : Addr} {y v : V} {u r : Value} {o : Option V} {A : Around} {E : Value → Shared → Prop}
end
section
variable {X : Cx} {pins : List (Addr × Obj)} {σ : St} {H : Hp} {s : Shared} {a : Addr} {kvs : List (Key × V)} {k : Key} {u : Value} {A : Around} {E : Value → Shared → Prop}
end
section
variable {X : Cx} {o i e value : Expr} {pos pos' tpos : Pos} {td ty tv : TE}
end
section
variable {X : Cx} {pos : Pos}
end
section
variable {X : Cx} {pins : List (Addr × Obj)} {σ : St} {H : Hp} {s : Shared} {a : Addr} {y d : V} {u r : Value} {o : Option V} {A : Around} {E : Value → Shared → Prop}
end
section
variable {X : Cx} {o e f : Expr} {apos cpos : Pos} {td ty tx : TE}
end
section
variable {X : Cx} {pins : List (Addr × Obj)} {σ : St} {H : Hp} {s : Shared} {a : Addr} {kvs : List (Key × V)} {A : Around} {E : Value → Shared → Prop}
end
section
variable {X : Cx} {pins : List (Addr × Obj)} {σ : St} {H : Hp} {s : Shared} {a : Addr} {y : V} {u : Value} {A : Around} {E : Value → Shared → Prop}
end
end L2
namespace Att
open PySem PySem.W PySem.Calls PyProof.Rows
theorem ints_of_wellAll {P : Params} {h : Heap} : ∀ (ns : List Int) (vs : List Value), WellAll P h vs (ns.map WData.int) → IntsAre vs ns := by
  intro ns
  induction ns with
  | nil =>
    intro vs w
    rw [List.map_nil] at w
    cases w
    exact .nil
  | cons n ns ih =>
    intro vs w
    rw [List.map_cons] at w
    cases w with
    | cons a b =>
      cases a
      exact .cons _ _ (ih _ b)
theorem script_of {l : OpenLaw} {n : Nat} (hn : l.most = some n) {P : Params} {h : Heap} {args : List WData} {vals : List Value}
    (hpre : l.row.toRowW.claim.pre args = true) (hwl : WellAll P h vals args) :
    ∃ a vs ns, vals = [Value.ref a] ∧ args = [WData.list (ns.map WData.int)] ∧ h.get? a = some { cls := .type "list", data := .seq vs.toArray } ∧ IntsAre vs ns ∧ ns.length ≤ n := by
  have hsh : WShape.hasAll [] args [.list .int] = true := (pre_splitW hpre).1
  have hc : l.pre.holds [] { args := args } = true := (pre_splitW hpre).2
  obtain ⟨d, r, rfl, h1, h2⟩ := hasAllW_cons hsh
  obtain rfl := hasAllW_nil h2
  obtain ⟨xs, rfl, h3⟩ := hasW_list h1
  obtain ⟨ns, rfl⟩ := items_int h3
  have hlen : ns.length ≤ n := by
    unfold OpenLaw.pre at hc
    have h4 : (WTm.not (.lt (.lit (.int (n : Int))) (.len (.arg 0)))).holds [] { args := [.list (ns.map .int)] } = true := by
      have h4 := (holds_andW hc).1
      rw [hn] at h4
      exact h4
    have h5 := condW_of h4 (w_not (w_lt w_lit (w_len_list (w_arg rfl))))
    rw [List.length_map] at h5
    refine Nat.le_of_not_lt fun q => ?_
    have q' : (n : Int) < ((ns.length : Nat) : Int) := by omega
    first
      | (rw [decide_eq_true q'] at h5; exact absurd h5 (by decide))
      | (simp at h5; omega)
  cases hwl with
  | cons w1 w2 =>
    cases w2
    cases w1 with
    | list ho hall => exact ⟨_, _, ns, rfl, rfl, ho, ints_of_wellAll ns _ hall, hlen⟩
theorem post_true (l : OpenLaw) (args : List WData) : l.row.toRowW.claim.post args (.bool true) args = true :=
  postW_of (r := l.row.toRowW) (X := (true == true))
    (show WShape.has [] (.bool true) .bool = true by first | rfl | decide | simp [WShape.has, WShape.arms, WShape.armsAll])
    (show (WTm.eq .res (.lit (.bool true))).value [] { args := args, res := some (.bool true), after := args } = some (.bool (true == true)) from w_eq_bool (w_res rfl) w_lit) rfl
theorem attach_call {l : OpenLaw} {n : Nat} {q : Program} {loose : List Str} {XP : (Str → Option Value) → Heap → Prop} {YP : World → Heap → Prop} {d : DefRec}
    (hn : l.most = some n) (hdf : d.params.defaults = [])
    (call : ∀ (w : World) (s₀ s₁ : Shared) (mg mb : Str → Option Value) (fa : Addr) (o : Obj) (pm cd doc : Value) (a : Addr) (vs : List Value) (ns : List Int),
      Ground q loose [] XP w s₀ mg mb s₁.heap → YP w s₁.heap →
      s₁.heap.get? fa = some o → o.data = .func (docDef d.name d.params d.body d.scope pm cd doc) → s₁.heap.CodeRec cd d.name → mg d.name = some (.ref fa) →
      s₁.heap.get? a = some { cls := .type "list", data := .seq vs.toArray } → IntsAre vs ns → ns.length ≤ n → s₁.gens = #[] →
      codeAny (model l.prog w) callerA (.call (.ref fa) ⟨[.ref a], []⟩) (fun r s' => r = .ok (.ret (.bool true)) ∧ OldK s₁.heap s'.heap ∧ s'.os = s₁.os ∧ AllBare s'.gens) s₁) :
    WalkO q loose XP YP l.row.toRowW d [] (fun f vs => PySem.call f vs) := by
  intro w s₀ s₁ mg mb G Y fa o pm cd doc dV kV ho hd hcd hD hmg hg args vals as hpre hlay hrd hwl hlo
  obtain rfl : dV = .none := Dflts.none hD hdf
  obtain rfl : kV = .none := Dflts.noKw hD
  obtain ⟨a, vs, ns, rfl, rfl, hobj, hints, hlen⟩ := script_of hn hpre hwl
  refine enter_call (codeAny_mono (call w s₀ s₁ mg mb fa o pm cd doc a vs ns G Y ho (fd_plain hd) hcd hmg hobj hints hlen hg) fun r s' hq => ?_)
  obtain ⟨rfl, h2, h3, h4⟩ := hq
  exact ⟨.inl ⟨.bool true, .bool true, [], rfl, fun _ => rfl, .bool true, post_true l _, fun _ => ⟨List.Pairwise.nil, fun _ hm => (nomatch hm)⟩⟩, h2, h3, h4⟩
section
variable {prog : Program} {w : World} {A : Around} {E : Value → Shared → Prop} {s : Shared} {K : Frag}
end
end Att
namespace L2
open PySem PySem.Spec PyProof.Rows
theorem vals_ints : ∀ {vs : List Value} {ns : List Int}, IntsAre vs ns → Vals (ns.map V.int) vs
  | _, _, .nil => .nil
  | _, _, .cons n t h => .cons ⟨t, rfl⟩ (vals_ints h)
def Only (H : Hp) : Prop := ∀ b, H b = none ∨ ∃ o xs, H b = some (.frz o (.lst xs))
theorem law_call {P : Program} {w : World} {K : PySem.W.Frag} {mg mb : Str → Option Value} {CX : CXT} {k : Nat} {fa a : Addr} {fd : FuncData} {x : Str} {sp : Sp} {s₁ : Shared} {vs : List Value} {ns : List Int}
    (KX : K.In s₁.heap) (hns : s₁.heap.Ns mainGlobals mg) (hb : s₁.heap.Ns builtinsNs mb) (hbb : ∀ x : Str, x ≠ "__name__" → mb x = bootBuiltins x) (hlim : s₁.heap.NoLimit) (hbm : ∃ bm o, mg "__builtins__" = some (.ref bm) ∧ bm ≠ builtinsNs ∧ s₁.heap.get? bm = some o ∧ o.cls = .type "module" ∧ o.dict = some builtinsNs ∧ o.data = .plain) (hg : s₁.gens = #[])
    (ha : s₁.heap.get? a = some { cls := .type "list", data := .seq vs.toArray }) (hi : IntsAre vs ns) (hl : ns.length ≤ sizeLine) (hr : Room k callerA)
    (F : ∀ base : Heap, K.In base → base.Ns mainGlobals mg → FnOk P w K mg base CX k fa fd [x] sp) (hbind : ∀ (s : Shared) (u : Value), BindsTo s fd ⟨[u], []⟩ [(x, u)])
    (hsp : ∀ H : Hp, Only H → SqL K H a (ns.map V.int) → sp [.ref a] H (fun v _ => v = .bl true) fun _ _ _ => False)
    (hCX : ∀ H e s', CX [] H s₁ (fun _ _ _ => False) e s' → False) :
    codeAny (model P w) callerA (.call (.ref fa) ⟨[.ref a], []⟩) (fun r s' => r = .ok (.ret (.bool true)) ∧ OldK s₁.heap s'.heap ∧ s'.os = s₁.os ∧ AllBare s'.gens) s₁ := by
  have rv := vals_ints hi
  have lenV := hi.length
  -- from an abstract heap in which nothing but the script may be tracked
  have core : ∀ H : Hp, Only H → SqL K H a (ns.map V.int) → HOk P w H s₁.heap → (∀ b, H b ≠ none → b = a) → (H a ≠ none → K.lookup a = none) →
      codeAny (model P w) callerA (.call (.ref fa) ⟨[.ref a], []⟩) (fun r s' => r = .ok (.ret (.bool true)) ∧ OldK s₁.heap s'.heap ∧ s'.os = s₁.os ∧ AllBare s'.gens) s₁ := by
    intro H hO hS hok hA hK
    have base_of : ∀ {b : Addr} {o : Obj}, s₁.heap.get? b = some o → H b = none → (hidT s₁.heap H).get? b = some o := fun e n => hidT_get e n
    have noA : ∀ {b : Addr} {o : Obj} {es : Array DictEntry} {ep : Nat}, s₁.heap.get? b = some o → o.data = .dict es ep → H b = none := fun {b o es ep} e d => by
      cases q : H b with
      | none => rfl
      | some u =>
        have e' : b = a := hA b (by rw [q]; simp)
        subst e'
        rw [ha] at e; cases e
        have d' : Data.seq vs.toArray _ = Data.dict es ep := d
        cases d'
    have nsK : ∀ {b : Addr} {m : Str → Option Value}, s₁.heap.Ns b m → (hidT s₁.heap H).Ns b m := fun {b m} ⟨o, es, ep, e, d, r⟩ => ⟨o, es, ep, base_of e (noA e d), d, r⟩
    have hKb : K.In (hidT s₁.heap H) := fun b o e => base_of (KX b o e) (by
      cases q : H b with
      | none => rfl
      | some u =>
        have e' : b = a := hA b (by rw [q]; simp)
        subst e'
        rw [hK (by rw [q]; simp)] at e; cases e)
    have hbm' : ∃ bm o, mg "__builtins__" = some (.ref bm) ∧ bm ≠ builtinsNs ∧ (hidT s₁.heap H).get? bm = some o ∧ o.cls = .type "module" ∧ o.dict = some builtinsNs ∧ o.data = .plain := by
      obtain ⟨bm, ob, b1, b2, b3, b4, b5, b6⟩ := hbm
      refine ⟨bm, ob, b1, b2, base_of b3 ?_, b4, b5, b6⟩
      cases q : H bm with
      | none => rfl
      | some u =>
        have e' : bm = a := hA bm (by rw [q]; simp)
        rw [e', ha] at b3
        cases b3
        exact absurd (show Value.type "list" = Value.type "module" from b4) (by decide)
    have hM : Mod K mg (hidT s₁.heap H) := ⟨hKb, nsK hns, ⟨mb, nsK hb, hbb⟩, (let ⟨mc, h1, h2⟩ := hlim; ⟨mc, nsK h1, h2⟩), hbm'⟩
    have e0 : Env0 P w K mg (hidT s₁.heap H) callerA [] s₁ H := ⟨rfl, hM, fun b o e => of_hidT e, Nat.le_of_eq (hidT_size _ _), trivial, fun b hb => absurd (show b ∈ ([] : List Addr) from hb) (by simp), hok, .of_eq hg⟩
    refine codeAny_mono ((F _ hKb (nsK hns)).run callerA [] s₁ H ⟨[.ref a], []⟩ [.ref a] [.ref a] _ _ hr e0 (hbind s₁ (.ref a)) (.cons rfl .nil) (hsp H hO hS)) fun r s' h => ?_
    cases r with
    | error e => exact (hCX H e s' h).elim
    | ok fl =>
      cases fl with
      | next => exact False.elim h
      | brk => exact False.elim h
      | cont => exact False.elim h
      | ret u =>
        obtain ⟨v, H', os, bare, un, hok', r', q⟩ := h
        have q' : v = .bl true := q
        subst q'
        obtain rfl : u = Value.bool true := r'
        refine ⟨rfl, OldK.of_keep fun b o e => ?_, os, bare⟩
        cases q : H b with
        | none => exact un.keep b o e q (by intro z; exact absurd (show b ∈ ([] : List Addr) from z) (by simp)) (by simp)
        | some u =>
          rcases hO b with z | ⟨ob, xs, z⟩
          · rw [q] at z; cases z
          · have z2 := un.frzs b ob _ z
            obtain ⟨e1, _⟩ := hok b _ z
            obtain ⟨e2, _⟩ := hok' b _ z2
            rw [e] at e1; cases e1
            exact e2
  cases hk : K.lookup a with
  | some o =>
    -- the script is one of the module's own objects
    have e := KX a o hk
    rw [ha] at e
    cases e
    refine core (fun _ => none) (fun _ => .inl rfl) (.inr ⟨_, vs.toArray, _, hk, rfl, rfl, rfl, by rw [List.size_toArray, lenV]; exact hl, by simpa using rv⟩) (fun b u z => by have z' : (none : Option HO) = some u := z; cases z') (fun b z => absurd rfl z) fun z => absurd rfl z
  | none =>
    refine core (fun b => if b = a then some (.frz { cls := .type "list", data := .seq vs.toArray } (.lst (ns.map V.int))) else none) (fun b => ?_) (.inl (.inr ⟨{ cls := .type "list", data := .seq vs.toArray }, if_pos rfl⟩)) (fun b u z => ?_) (fun b z => ?_) fun _ => hk
    · by_cases hb : b = a
      · exact .inr ⟨_, _, if_pos hb⟩
      · exact .inl (if_neg hb)
    · by_cases hb : b = a
      · have z' := (if_pos hb).symm.trans z
        cases z'
        subst hb
        exact ⟨ha, by rw [List.length_map]; exact hl, vs, _, rv, ha⟩
      · have z' := (if_neg hb).symm.trans z
        cases z'
    · by_cases hb : b = a
      · exact hb
      · exact absurd (if_neg hb) z
end L2
namespace L2
open PySem PySem.Spec PyProof.Rows
abbrev KOf {K : PySem.W.Frag} {h : Heap} (_ : K.In h) : PySem.W.Frag := K
theorem walk_of {l : PySem.W.OpenLaw} {n k : Nat} {q : Program} {loose : List Str} {XP : (Str → Option Value) → Heap → Prop} {YP : World → Heap → Prop} {d : DefRec} {K : Params → PySem.W.Frag} {CX : World → CXT} {sp : World → Sp} {x : Str}
    (hn : l.most = some n) (hn2 : n ≤ sizeLine) (hdf : d.params.defaults = []) (hr : Room k callerA)
    (hY : ∀ (w : World) (h : Heap), YP w h → (K w.params).In h)
    (F : ∀ (w : World) (mg : Str → Option Value) (fa : Addr) (h : Heap), (K w.params).In h → h.Ns mainGlobals mg → mg d.name = some (.ref fa) →
      ∃ fd : FuncData, (∀ (s : Shared) (u : Value), BindsTo s fd ⟨[u], []⟩ [(x, u)]) ∧
        ∀ base : Heap, (K w.params).In base → base.Ns mainGlobals mg → FnOk l.prog w (K w.params) mg base (CX w) k fa fd [x] (sp w))
    (hsp : ∀ (w : World) (H : Hp) (a : Addr) (ns : List Int), ns.length ≤ n → Only H → SqL (K w.params) H a (ns.map V.int) → sp w [.ref a] H (fun v _ => v = .bl true) fun _ _ _ => False)
    (hCX : ∀ (w : World) (H : Hp) (s : Shared) (e : Value) (s' : Shared), CX w [] H s (fun _ _ _ => False) e s' → False) :
    PySem.W.WalkO q loose XP YP l.row.toRowW d [] (fun f vs => PySem.call f vs) := by
  refine Att.attach_call hn hdf fun w s₀ s₁ mg mb fa o pm cd doc a vs ns G Y ho hd hcd hmg hobj hints hlen hg => ?_
  have KX := hY w _ Y
  obtain ⟨fd, hb, hF⟩ := F w mg fa _ KX G.T.g hmg
  exact law_call KX G.T.g G.T.b G.T.builtins G.T.nolimit G.T.bmain hg hobj hints (Nat.le_trans hlen hn2) hr hF hb (fun H hO hS => hsp w H a ns hlen hO hS) fun H e s' => hCX w H s₁ e s'
end L2
/- THE LAST THEOREM (shape; LID, My.* are yours):
   My.Adr: a structure of the addresses that your layer names (classes, functions); My.Txt K t: a structure (Prop) of the equations over K;
   My.txt_mk : {K} {implicit addresses ..} (e1 : nsIn K mainGlobals "law" = some (some (.ref f))) (e2 : K.lookup f = some ⟨oc, od, .func (fnOf "law" "law" params body scope dV kV doc pm an cdv ct), sl⟩) (e3 : codeIn K cdv "law" = true) .. : ∃ t, My.Txt K t
set_option maxRecDepth 100000 in
set_option maxHeartbeats 0 in
theorem PySem.Challenge.cw_LID_holds : PySem.Challenge.rw_LID.Holds := by
  w_on; o_law; k_head; (case hw => w_witness2)
  k_fill
  refine L2.walk_of (l := PySem.Challenge.rw_LID) (n := 63) (k := 40) (x := "script") (CX := fun w => ..) (sp := fun _ => My.sp_law) rfl (by decide) rfl ⟨rfl, by decide, by decide⟩ (fun w h Y => PySem.W.kIn_of Y) ?F ?S ?C
  case F =>
    intro w mg fa h KX G hmg
    have T : ∃ t, My.Txt (L2.KOf KX) t := by
      dsimp only [L2.KOf]                          -- K must stand as «<heap const> w.params» for k_is
      refine' My.txt_mk ?e1 ?e2 ?e3 ..
      (case e1 => PySem.W.k_is)                    -- in the order: a name -> its address -> its object -> its parts
      (case e2 => PySem.W.k_is)
      ..
    obtain ⟨t, T⟩ := T
    have e0 := hmg.symm.trans (PySem.W.mg_of KX G T.law)
    cases e0                                       -- fa is the law's own address
    exact ⟨_, fun s u => .of_eq rfl, fun base kb nb => My.law_fn T kb nb⟩     -- if «.of_eq rfl» comes too early: refine' ⟨_, ?b, fun base kb nb => My.law_fn T kb nb⟩; exact fun s u => .of_eq rfl
  case S => exact fun w H a ns hl hO hS => ..
  case C => exact ..
(the tactic k_is has no namespace: write k_is) -/
namespace L2
open PySem PySem.Spec PyProof.Rows
def inClass (s : Stmt) (j : Nat) : Stmt := match s with
  | .ClassDef _ _ _ body _ _ _ _ _ _ _ => body.getD j (.Pass ⟨0, 0, 0, 0⟩)
  | _ => .Pass ⟨0, 0, 0, 0⟩
def defArgs (s : Stmt) : Arguments := match s with
  | .FunctionDef _ a _ _ _ _ _ _ _ _ => a
  | _ => { posonlyargs := [], args := [], vararg := none, kwonlyargs := [], kw_defaults := [], kwarg := none, defaults := [] }
def defBody (s : Stmt) : List Stmt := match s with
  | .FunctionDef _ _ b _ _ _ _ _ _ _ => b
  | _ => []
def defScope (s : Stmt) : Scope := match s with
  | .FunctionDef _ _ _ _ _ _ sc _ _ _ => sc
  | _ => { kind := .function, names := [], isGenerator := false, isCoroutine := false }
abbrev CX0 : CXT := fun _ _ _ _ _ _ => False
abbrev E0 : XK := fun _ _ _ => False
theorem pass0 {X : Cx} : Passes CX0 X E0 := fun _ _ _ _ _ _ _ h => h.elim
structure Fun (K : PySem.W.Frag) (x qual : Str) (st : Stmt) (f : Addr) (fd : FuncData) : Prop where
  ex : ∃ (oc : Value) (od : Option Addr) (kV doc pm : Value) (an : Option Addr) (cdv ct : Value) (osl : Array (Option Value)),
    fd = PySem.W.fnOf x qual (defArgs st) (defBody st) (defScope st) .none kV doc pm an cdv ct ∧ K.lookup f = some ⟨oc, od, .func fd, osl⟩ ∧ PySem.W.codeIn K cdv qual = true
  kp : PySem.W.keepIn K (.ref f) = true
section
variable {P : Program} {w : World} {K : PySem.W.Frag} {mg : Str → Option Value} {base : Heap}
theorem Fun.ok {x qual : Str} {st : Stmt} {f : Addr} {fd : FuncData} {N ps : List Str} {k : Nat} {sp : Sp} (F : Fun K x qual st f fd) (S : FnScope N ps (defScope st)) (len : ∀ vs H Q E, sp vs H Q E → vs.length = ps.length)
    (hbody : ∀ (cdv : Value) (A : Around) (outer : List Env) (s : Shared) (H : Hp) (vs : List V) (Q : VK) (E : XK), Room k (A.deeper (envOfC qual (defScope st) s.heap.objs.size f cdv)) → sp vs H Q E →
      ∃ t, PSs (cxOf CX0 P w K mg base N qual (defScope st) f cdv A outer s H E).nox (defBody st) t ∧ t { nx := fun _ H' => Q .non H', rt := Q } (start N vs) H) : FnOk P w K mg base CX0 (k + 1) f fd ps sp := by
  obtain ⟨oc, od, kV, doc, pm, an, cdv, ct, osl, rfl, lk, hcd⟩ := F.ex
  refine fn_of lk hcd S len fun A outer s H vs Q E hr hsp => ?_
  obtain ⟨t, h, q⟩ := hbody cdv A outer s H vs Q E hr hsp
  exact ⟨t, h.nox, q⟩
theorem Fun.binds {x qual : Str} {st : Stmt} {f : Addr} {fd : FuncData} {ps : List Str} (F : Fun K x qual st f fd)
    (h : ∀ (kV doc pm : Value) (an : Option Addr) (cdv ct : Value) (us : List Value), us.length = ps.length → bindArgs (PySem.W.fnOf x qual (defArgs st) (defBody st) (defScope st) .none kV doc pm an cdv ct) ⟨us, []⟩ = pure (ps.zip us)) : Binds K fd ps [] := by
  obtain ⟨oc, od, kV, doc, pm, an, cdv, ct, osl, rfl, lk, hcd⟩ := F.ex
  exact .all (h kV doc pm an cdv ct)
theorem fun_mk {x qual : Str} {st : Stmt} {f : Addr} {oc : Value} {od an : Option Addr} {osl : Array (Option Value)} {kV doc pm cdv ct : Value} (l : K.lookup f = some ⟨oc, od, .func (PySem.W.fnOf x qual (defArgs st) (defBody st) (defScope st) .none kV doc pm an cdv ct), osl⟩)
    (c : PySem.W.codeIn K cdv qual = true) (k : PySem.W.keepIn K (.ref f) = true) : Fun K x qual st f (PySem.W.fnOf x qual (defArgs st) (defBody st) (defScope st) .none kV doc pm an cdv ct) := ⟨⟨oc, od, kV, doc, pm, an, cdv, ct, osl, rfl, l, c⟩, k⟩
end
section
variable {X : Cx}
theorem pv (i : Nat) {x : Str} {pos : Pos} (hN : X.N[i]? = some x := by rfl) (hv : Vis X.env.scope x := by first | exact Or.inl rfl | exact Or.inr (Or.inl rfl) | exact Or.inr (Or.inr rfl)) (hd : (x == ("__debug__" : Str)) = false := by decide)
    (hcd : (x == ("__classdict__" : Str)) = false := by decide) : PE X (.Name x pos) (tVar i) := pe_var hN hv hd hcd
end
theorem iteF {A B : Prop} (h : B) : if false = true then A else B := by
  rw [if_neg Bool.false_ne_true]
  exact h
theorem iteT {A B : Prop} (h : A) : if true = true then A else B := by
  rw [if_pos rfl]
  exact h
def Same (H H' : Hp) : Prop := ∀ b o, H b = some o → H' b = some o
theorem Same.refl (H : Hp) : Same H H := fun _ _ h => h
theorem Same.trans {H H1 H2 : Hp} (a : Same H H1) (b : Same H1 H2) : Same H H2 := fun c o h => b c o (a c o h)
theorem Same.free {H H' : Hp} (e : Same H H') {l : Addr} (h : H' l = Option.none) : H l = Option.none := by
  cases q : H l with
  | none => rfl
  | some o =>
    rw [e l o q] at h
    cases h
theorem Same.seq {K : PySem.W.Frag} {H H' : Hp} {a : Addr} {xs : List V} (e : Same H H') (h : SqL K H a xs) : SqL K H' a xs := by
  rcases h with (h | ⟨o, h⟩) | h
  · exact .inl (.inl (e _ _ h))
  · exact .inl (.inr ⟨o, e _ _ h⟩)
  · exact .inr h
section
variable {κ : Type} [DecidableEq κ]
end
end L2
namespace L2
open PySem PySem.Spec PyProof.Rows
section
variable {prog : Program} {w : World} {A : Around} {R : Result → Shared → Prop} {s : Shared}
theorem compLoop_go {elt target iter : Expr} {ifs : List Expr} {scope : Scope} {pos : Pos} {it acc : Value} {env : Env} (I : Nat → Shared → Prop)
    (turn : ∀ n s, I n s → wpAny (model prog w) A (pyNext it) (fun r s₁ => match r with
      | none => R (.ok .next) s₁
      | some v => wpAny (model prog w) A (letOwnedTupleGo target it v) (fun _ s₁' => wpAny (model prog w) A (assign target env v) (fun _ s₂ =>
          wpAny (model prog w) A (forIn ifs true fun c r => if r = true then do let ok ← isTrue c env (eval c env); pure (ForInStep.yield ok) else pure (ForInStep.yield r)) (fun ok s₃ =>
            if ok = true then wpAny (model prog w) A (eval elt env) (fun x s₄ =>
              wpAny (model prog w) A (call (.builtin "list.append") [acc, x]) (fun _ s₅ => ∃ m, m < n ∧ I m s₅) (notedBy (model prog w) A env fun e s' => R (.error e) s') s₄) (notedBy (model prog w) A env fun e s' => R (.error e) s') s₃
            else ∃ m, m < n ∧ I m s₃) (notedBy (model prog w) A env fun e s' => R (.error e) s') s₂) (notedBy (model prog w) A env fun e s' => R (.error e) s') s₁') (notedBy (model prog w) A env fun e s' => R (.error e) s') s₁)
      (notedBy (model prog w) A env fun e s' => R (.error e) s') s)
    (n : Nat) (h : I n s) :
    codeAny (model prog w) A (.compLoop (.ListComp elt [⟨target, iter, ifs, 0⟩] scope pos) 0 it acc env) R s := by
  refine codeAny_loop rfl I (fun n s hI => ?_) n h
  show wpAny _ A ((compTurn (.ListComp elt [⟨target, iter, ifs, 0⟩] scope pos) 0 it acc env).onRaise (fun x => do noteFrame x env; theTreesLotGoes x)) _ _ s
  refine wpAny_noted ?_
  rw [compTurn_list]
  refine wpAny_bind (wpAny_standAt (wpAny_bind (wpAny_mono (turn n s hI) (fun r s₁ h₁ => ?_) fun _ _ h' => h')))
  cases r with
  | none => exact wpAny_pure h₁
  | some v =>
    refine wpAny_bind (wpAny_mono h₁ (fun _ s₁' h₁' => ?_) fun _ _ h' => h')
    refine wpAny_bind (wpAny_mono h₁' (fun _ s₂ h₂ => wpAny_bind (wpAny_mono h₂ (fun ok s₃ h₃ => ?_) fun _ _ h' => h')) fun _ _ h' => h')
    cases ok with
    | false => exact wpAny_pure ⟨rfl, h₃⟩
    | true =>
      exact wpAny_bind (wpAny_bind (wpAny_mono h₃ (fun x s₄ h₄ => wpAny_bind (wpAny_mono h₄ (fun _ s₅ h₅ => wpAny_pure (wpAny_pure ⟨rfl, h₅⟩)) fun _ _ h' => h')) fun _ _ h' => h'))
end
def clos (env : Env) : List (Str × NameKind) → List (Str × Addr) → List (Str × Addr)
  | [], cs => cs
  | (n, k) :: r, cs => clos env r (if (k == NameKind.free) = true then (n, (env.cells.lookup n).getD 0) :: cs else cs)
theorem closure_eq {scope : Scope} {env : Env} (h : ∀ x ∈ scope.names, x.2 = .free → ∃ c, env.cells.lookup x.1 = some c) : closureFor scope env = pure (clos env scope.names []) := by
  simp only [closureFor]
  generalize ([] : List (Str × Addr)) = cs
  revert h cs
  generalize scope.names = names
  intro h
  induction names with
  | nil => intro cs; rfl
  | cons x r ih =>
    intro cs
    obtain ⟨n, k⟩ := x
    have ih := ih fun y hy => h y (List.mem_cons_of_mem _ hy)
    rw [List.forIn_cons]
    by_cases hk : k = .free
    · subst hk
      obtain ⟨c, hc⟩ := h (n, .free) List.mem_cons_self rfl
      have hc' : env.cells.lookup n = some c := hc
      have e : clos env ((n, NameKind.free) :: r) cs = clos env r ((n, c) :: cs) := by
        show clos env r (if (NameKind.free == NameKind.free) = true then (n, (env.cells.lookup n).getD 0) :: cs else cs) = _
        rw [hc']
        rfl
      rw [e, ← ih]
      simp only [cellOf, hc', beq_self_eq_true, if_true]
      rfl
    · have hb : (k == NameKind.free) = false := by simpa using hk
      have e : clos env ((n, k) :: r) cs = clos env r cs := by
        show clos env r (if (k == NameKind.free) = true then (n, (env.cells.lookup n).getD 0) :: cs else cs) = _
        rw [hb]
        rfl
      rw [e, ← ih]
      simp only [hb, Bool.false_eq_true, if_false]
      rfl
theorem clos_mem {env : Env} {x : Str} {c : Addr} : ∀ (names : List (Str × NameKind)) (cs : List (Str × Addr)), (∀ y ∈ names, y.2 = .free → ∃ c, env.cells.lookup y.1 = some c) → (x, c) ∈ clos env names cs → (x, c) ∈ cs ∨ env.cells.lookup x = some c
  | [], cs, _, h => .inl h
  | (n, k) :: r, cs, hf, h => by
    have h' : (x, c) ∈ clos env r (if (k == NameKind.free) = true then (n, (env.cells.lookup n).getD 0) :: cs else cs) := h
    rcases clos_mem r _ (fun y hy => hf y (List.mem_cons_of_mem _ hy)) h' with q | q
    · by_cases hk : (k == NameKind.free) = true
      · rw [if_pos hk] at q
        rcases List.mem_cons.mp q with e | q
        · cases e
          obtain ⟨c, hc⟩ := hf (x, k) List.mem_cons_self (by simpa using hk)
          have hc' : env.cells.lookup x = some c := hc
          rw [hc']
          exact .inr rfl
        · exact .inl q
      · rw [if_neg hk] at q
        exact .inl q
    · exact .inr q
theorem clos_sub {env : Env} {p : Str × Addr} : ∀ (names : List (Str × NameKind)) (cs : List (Str × Addr)), p ∈ cs → p ∈ clos env names cs
  | [], _, h => h
  | (n, k) :: r, cs, h => by
    show p ∈ clos env r (if (k == NameKind.free) = true then (n, (env.cells.lookup n).getD 0) :: cs else cs)
    refine clos_sub r _ ?_
    split
    · exact List.mem_cons_of_mem _ h
    · exact h
theorem clos_has {env : Env} {x : Str} {c : Addr} : ∀ (names : List (Str × NameKind)) (cs : List (Str × Addr)), (x, NameKind.free) ∈ names → env.cells.lookup x = some c → (x, c) ∈ clos env names cs
  | [], _, h, _ => by cases h
  | (n, k) :: r, cs, h, hc => by
    show (x, c) ∈ clos env r (if (k == NameKind.free) = true then (n, (env.cells.lookup n).getD 0) :: cs else cs)
    rcases List.mem_cons.mp h with e | h
    · cases e
      refine clos_sub r _ ?_
      rw [if_pos (by simp), hc]
      exact List.mem_cons_self
    · exact clos_has r _ h hc
theorem lookup_of_all {x : Str} {c : Addr} : ∀ {l : List (Str × Addr)}, (x, c) ∈ l → (∀ d, (x, d) ∈ l → d = c) → l.lookup x = some c
  | [], h, _ => by cases h
  | (n, d) :: r, h, u => by
    rw [List.lookup_cons]
    by_cases e : x = n
    · subst e
      rw [beq_self_eq_true]
      rw [u d List.mem_cons_self]
    · rw [show (x == n) = false by simpa using e]
      rcases List.mem_cons.mp h with q | q
      · cases q
        exact absurd rfl e
      · exact lookup_of_all q fun d hd => u d (List.mem_cons_of_mem _ hd)
theorem clos_lookup {env : Env} {names : List (Str × NameKind)} {x : Str} {c : Addr} (hf : ∀ y ∈ names, y.2 = .free → ∃ c, env.cells.lookup y.1 = some c) (hx : (x, NameKind.free) ∈ names) (hc : env.cells.lookup x = some c) : (clos env names []).lookup x = some c :=
  lookup_of_all (clos_has names [] hx hc) fun d hd => by
    rcases clos_mem names [] hf hd with q | q
    · cases q
    · rw [hc] at q
      exact (Option.some.inj q).symm
theorem clos_of {env : Env} {names : List (Str × NameKind)} {x : Str} {c : Addr} (hf : ∀ y ∈ names, y.2 = .free → ∃ c, env.cells.lookup y.1 = some c) (h : (clos env names []).lookup x = some c) : env.cells.lookup x = some c := by
  rcases clos_mem names [] hf (PySem.mem_of_lookup h) with q | q
  · cases q
  · exact q
end L2
namespace L2
open PySem PySem.Spec PyProof.Rows
def cxC (X : Cx) (scope : Scope) (N : List Str) (fp : List Addr) (C : Addr) (s : Shared) (H : Hp) : Cx where
  prog := X.prog
  w := X.w
  K := X.K
  mg := X.mg
  base := X.base
  A := X.A
  N := N
  s₀ := s
  H₀ := H
  env := compEnvC scope (clos X.env scope.names []) C X.env
  outer := X.stack
  stack := X.stack
  ex := fp
  fn := fun _ => false
  calm := X.calm
  pn := []
  xe := fun _ _ => False
theorem HOk.track {P : Program} {w : World} {H : Hp} {h : Heap} {a : Addr} {o : HO} (x : HOk P w H h) (hn : H a = none) (new : ObjOk P w (upd H a o) h a o) : HOk P w (upd H a o) h := fun b u e => by
  by_cases hb : b = a
  · subst hb; rw [upd_same] at e; cases e; exact new
  · rw [upd_ne hb] at e
    exact (x b u e).stay (fun c v _ q => q) (fun c q => by rw [upd_ne (ne_of_none q hn)]; exact q) fun c xs _ q => by rw [upd_ne (ne_of_none q hn)]; exact q
theorem Un.track {fs ex : List Addr} {H H1 : Hp} {h h1 : Heap} {a : Addr} {o : HO} (u : Un fs ex H H1 h h1) (hs : h.objs.size ≤ a) (hn : H1 a = none) : Un fs ex H (upd H1 a o) h h1 where
  keep := u.keep
  slot := u.slot
  free := fun b ob q n hx => by rw [upd_ne (Nat.ne_of_lt (Nat.lt_of_lt_of_le (Heap.lt_size q) hs))]; exact u.free b ob q n hx
  there := u.there
  tups := fun b xs q => by rw [upd_ne (ne_of_none (u.tups b xs q) hn)]; exact u.tups b xs q
  frzs := fun b ob xs q => by rw [upd_ne (ne_of_none (u.frzs b ob xs q) hn)]; exact u.frzs b ob xs q
  tbls := fun b ps q => by
    obtain ⟨m, e⟩ := u.tbls b ps q
    exact ⟨m, by rw [upd_ne (ne_of_none e hn)]; exact e⟩
theorem lookup_relabel_free {env : Env} : ∀ {names : List (Str × NameKind)} {x : Str}, names.lookup x = some .free →
    (names.map fun (n, k) => if (k == NameKind.free && env.scope.kind == .function && env.kindOf n == some .cell) then (n, NameKind.cell) else (n, k)).lookup x = some .cell ∨
    (names.map fun (n, k) => if (k == NameKind.free && env.scope.kind == .function && env.kindOf n == some .cell) then (n, NameKind.cell) else (n, k)).lookup x = some .free
  | [], _, h => by simp at h
  | (n, k) :: r, x, h => by
    have ih := @lookup_relabel_free env r x
    show List.lookup x ((if (k == NameKind.free && env.scope.kind == .function && env.kindOf n == some .cell) = true then (n, NameKind.cell) else (n, k)) :: _) = _ ∨ List.lookup x ((if (k == NameKind.free && env.scope.kind == .function && env.kindOf n == some .cell) = true then (n, NameKind.cell) else (n, k)) :: _) = _
    cases hx : x == n with
    | true =>
      simp only [List.lookup_cons, hx] at h
      cases h
      by_cases hc : (NameKind.free == NameKind.free && env.scope.kind == .function && env.kindOf n == some .cell) = true
      · rw [if_pos hc]; simp only [List.lookup_cons, hx]; exact .inl trivial
      · rw [if_neg hc]; simp only [List.lookup_cons, hx]; exact .inr trivial
    | false =>
      simp only [List.lookup_cons, hx] at h
      by_cases hc : (k == NameKind.free && env.scope.kind == .function && env.kindOf n == some .cell) = true
      · rw [if_pos hc]; simp only [List.lookup_cons, hx]; exact ih h
      · rw [if_neg hc]; simp only [List.lookup_cons, hx]; exact ih h
theorem relabel_has {env : Env} : ∀ {names : List (Str × NameKind)} {x : Str}, (∀ y ∈ names, y.2 ≠ .cell) →
    ((names.map fun (n, k) => if (k == NameKind.free && env.scope.kind == .function && env.kindOf n == some .cell) then (n, NameKind.cell) else (n, k)).lookup x = some .cell ∨
    (names.map fun (n, k) => if (k == NameKind.free && env.scope.kind == .function && env.kindOf n == some .cell) then (n, NameKind.cell) else (n, k)).lookup x = some .free) → (x, NameKind.free) ∈ names
  | [], _, _, h => by simp at h
  | (n, k) :: r, x, hc, h => by
    have ih := @relabel_has env r x fun y hy => hc y (List.mem_cons_of_mem _ hy)
    have h' : List.lookup x ((if (k == NameKind.free && env.scope.kind == .function && env.kindOf n == some .cell) = true then (n, NameKind.cell) else (n, k)) :: _) = _ ∨ List.lookup x ((if (k == NameKind.free && env.scope.kind == .function && env.kindOf n == some .cell) = true then (n, NameKind.cell) else (n, k)) :: _) = _ := h
    cases hx : x == n with
    | true =>
      have e : x = n := by simpa using hx
      subst e
      by_cases hq : (k == NameKind.free && env.scope.kind == .function && env.kindOf x == some .cell) = true
      · have hk : (k == NameKind.free) = true := by
          rw [Bool.and_assoc] at hq
          exact (Bool.and_eq_true _ _ ▸ hq).1
        rw [show k = NameKind.free by simpa using hk]
        exact List.mem_cons_self
      · rw [if_neg hq] at h'
        simp only [List.lookup_cons, hx] at h'
        rcases h' with z | z
        · cases z
          exact absurd rfl (hc _ List.mem_cons_self)
        · cases z
          exact List.mem_cons_self
    | false =>
      by_cases hq : (k == NameKind.free && env.scope.kind == .function && env.kindOf n == some .cell) = true
      · rw [if_pos hq] at h'; simp only [List.lookup_cons, hx] at h'; exact List.mem_cons_of_mem _ (ih h')
      · rw [if_neg hq] at h'; simp only [List.lookup_cons, hx] at h'; exact List.mem_cons_of_mem _ (ih h')
structure BlkScope (X : Cx) (scope : Scope) (N : List Str) (k : Nat) (idx : List Nat) : Prop where
  kind : scope.kind = .function
  nocell : ∀ y ∈ scope.names, y.2 ≠ .cell
  names : ∀ y ∈ scope.names, y.2 = .local → scope.names.lookup y.1 = some .local
  free : ∀ y ∈ scope.names, y.2 = .free → X.env.kindOf y.1 = some .cell ∨ X.env.kindOf y.1 = some .free
  nd : N.Nodup
  len : N.length = k + idx.length
  cap : ∀ (i : Nat) (x : Str), (N.drop k)[i]? = some x → ∃ j : Nat, idx[i]? = some j ∧ X.N[j]? = some x ∧ scope.names.lookup x = some .free
def cσ (k : Nat) (idx : List Nat) (σ : St) : St := List.replicate k none ++ idx.map fun j => (σ[j]?).join
section
variable {X : Cx} {pins : List (Addr × Obj)} {σ : St} {H : Hp} {s : Shared} {scope : Scope} {N : List Str} {k : Nat} {idx : List Nat} {fp : List Addr}
theorem BlkScope.cells (S : BlkScope X scope N k idx) (I : Inv X pins σ H s) : ∀ y ∈ scope.names, y.2 = .free → ∃ c, X.env.cells.lookup y.1 = some c := fun y hy h => I.ok.has y.1 (S.free y hy h)
theorem blk_start {C D : Addr} {h₁ : Heap} {tk : Nat} {oD : Obj} {m : Str → Option Value} (S : BlkScope X scope N k idx) (I : Inv X pins σ H s) (hf : ∀ b ∈ fp, FpOk X pins H b) (ho : ∀ b ∈ fp, ∃ o, s.heap.get? b = some o)
    (hC : s.heap.objs.size ≤ C) (hD : s.heap.objs.size ≤ D) (hDC : D ≠ C) (hn : h₁.Ns C m) (old : ∀ b o, s.heap.get? b = some o → h₁.get? b = some o) (eD : h₁.get? D = some oD) (dD : ∀ v, oD.data ≠ .cell v) :
    Inv (cxC X scope N fp C s H) [(D, oD)] (cσ k idx σ) H { s with heap := h₁, toks := tk } := by
  have hcl := S.cells I
  have nst : ∀ b, s.heap.objs.size ≤ b → b ∉ frs X.stack := fun b hb z => by
    obtain ⟨_, o, e, _⟩ := I.stack.mem z
    exact absurd (Nat.lt_of_lt_of_le (Heap.lt_size e) hb) (Nat.lt_irrefl _)
  refine ⟨⟨I.ok.mod, S.kind, I.ok.glob, I.ok.blt, hC, fun x y c h1 h2 => I.ok.inj x y c (clos_of hcl h1) (clos_of hcl h2), fun x hx => ?_, fun x c z _ => (by cases z), I.ok.hd, I.ok.frames, .inl rfl, fun b hb => ⟨?_, fun x c e => (hf b hb).2.2.2.2.1 x c (clos_of hcl e)⟩, I.bs,
    Nat.le_trans I.ok.bsz I.sz, fun b o e hb => ?_, fun b hb z => ?_, I.stack, I.stkFree⟩, rfl, I.bare, Un.kept old, ⟨m, hn, fun i x v h1 h2 h3 => ?_⟩, fun x c e => ?_, I.hok.fresh hC, fun x c e => I.freeC x c (clos_of hcl e), fun p hp => ?_, I.hok.kept old, ?_⟩
  · obtain ⟨c, e⟩ := hcl _ (relabel_has S.nocell hx) rfl
    exact ⟨c, clos_lookup hcl (relabel_has S.nocell hx) e⟩
  · obtain ⟨o, e⟩ := ho b hb
    exact Nat.ne_of_lt (Nat.lt_of_lt_of_le (Heap.lt_size e) hC)
  · rcases (hf b hb).2.2.2.1 with z | z
    · exact I.ok.noex b o e z
    · exact absurd (Nat.lt_of_lt_of_le (Heap.lt_size (I.ok.bs b o e).1) z) (Nat.lt_irrefl _)
  · rcases List.mem_cons.mp (I.stkSub b z) with q | q
    · exact (hf b hb).2.1 q
    · exact (hf b hb).2.2.1 q
  · have hi : k ≤ i := by
      by_cases hi : i < k
      · unfold cσ at h2
        rw [List.getElem?_append_left (by simpa using hi), List.getElem?_replicate, if_pos hi] at h2
        cases h2
      · omega
    obtain ⟨j, rfl⟩ : ∃ j, i = k + j := ⟨i - k, by omega⟩
    have h1' : N[k + j]? = some x := h1
    obtain ⟨l, e1, e2, e3⟩ := S.cap j x (by rw [List.getElem?_drop]; exact h1')
    have h2' : σ[l]? = some (some v) := by
      unfold cσ at h2
      rw [List.getElem?_append_right (by simp), List.getElem?_map] at h2
      simp only [List.length_replicate, Nat.add_sub_cancel_left, e1, Option.map_some, Option.some.injEq] at h2
      cases q : σ[l]? with
      | none => rw [q] at h2; cases h2
      | some z => rw [q] at h2; exact congrArg some h2
    obtain ⟨m0, hn0, hl⟩ := I.loc
    have hfree : (x, NameKind.free) ∈ scope.names := PySem.mem_of_lookup e3
    have hk := S.free _ hfree rfl
    obtain ⟨u, r, l⟩ := hl l x v e2 h2' (by rcases hk with z | z; exact .inr (.inl z); exact .inr (.inr z))
    refine ⟨u, r, .inr ⟨lookup_relabel_free e3, ?_⟩⟩
    rcases l with ⟨z, _⟩ | ⟨_, c, e, o, q, d⟩
    · rcases hk with y | y
      · rw [y] at z; cases z
      · rw [y] at z; cases z
    · exact ⟨c, clos_lookup hcl hfree e, o, old c o q, d⟩
  · obtain ⟨v, o, q, d⟩ := I.cell x c (clos_of hcl e)
    exact ⟨v, o, old c o q, d⟩
  · have hp' : p ∈ ([] : List (Addr × Obj)) ++ [(D, oD)] := hp
    have e : p = (D, oD) := by simpa using hp'
    subst e
    exact ⟨eD, I.hok.fresh hD, hDC, nst D hD, dD⟩
  · unfold cσ
    show _ = N.length
    rw [S.len]
    simp
theorem blk_end {C D : Addr} {s' : Shared} {σ' : St} {H' : Hp} {ys : List V} {its : List Value} {n : Nat} {pins' : List (Addr × Obj)} (I : Inv X pins σ H s) (hf : ∀ b ∈ fp, FpOk X pins H b) (J : Inv (cxC X scope N fp C s H) pins' σ' H' s')
    (hC : s.heap.objs.size ≤ C) (hD : s.heap.objs.size ≤ D) (hDC : D ≠ C) (hDn : H' D = none) (eD : s'.heap.get? D = some { cls := .type "list", data := .seq its.toArray n }) (r : Vals ys its) (hz : ys.length ≤ sizeLine) :
    Inv X pins σ (upd H' D (.lst ys)) s' ∧ FpOk X pins (upd H' D (.lst ys)) C := by
  have hk : HOk X.prog X.w (upd H' D (.lst ys)) s'.heap := HOk.track J.hok hDn ⟨hz, its, n, r, eD⟩
  have u : Un (frs X.stack) fp H (upd H' D (.lst ys)) s.heap s'.heap := Un.track J.base hD hDn
  refine ⟨I.call' J.os u hk J.bare fun b hb => ⟨(hf b hb).2.2.2.1, (hf b hb).2.1, (hf b hb).2.2.2.2.1, (hf b hb).2.2.2.2.2⟩, I.fpOk hC ?_⟩
  rw [upd_ne hDC.symm]
  exact J.free
end
def tCompW (J : It) (σ₀ : St) (g : TG) (tt : TT) (te : TE) (R : List V → Hp → Prop) (H1 : Hp) : Prop :=
  ∃ W : Nat → Nat → List V → Hp → Prop, (∃ m, W 0 m [] H1) ∧ ∀ i m ys H, W i m ys H → ys.length ≤ sizeLine ∧
    ((J.stop i H ∧ R ys H) ∨ (J.go i H ∧ ∃ N : List V → Hp → Prop, (∀ ys' H', N ys' H' → ∃ m', m' < m ∧ W (i + 1) m' ys' H') ∧
      ∀ x H', J.yld i H x H' → g x σ₀ H' fun σ2 H2 => tt σ2 H2 fun b H3 => if b = true then te σ2 H3 fun y H4 => N (ys ++ [y]) H4 else N ys H3))
def tComp (wi : TI) (k : Nat) (idx : List Nat) (g : TG) (tt : TT) (te : TE) : TE := fun σ H Q => wi σ H fun J H1 => tCompW J (cσ k idx σ) g tt te (fun ys H' => ∀ p, H' p = none → Q (.ref p) (upd H' p (.lst ys))) H1
def PTs (X : Cx) (ifs : List Expr) (t : TT) : Prop :=
  ∀ (pins : List (Addr × Obj)) (s : Shared) (σ : St) (H : Hp) (Q : Bool → Hp → Prop), Inv X pins σ H s → t σ H Q →
    wpAny (model X.prog X.w) X.A (forIn ifs true fun c r => if r = true then do let ok ← isTrue c X.env (eval c X.env); pure (ForInStep.yield ok) else pure (ForInStep.yield r)) (TP X pins σ Q) X.xe s
def tYes : TT := fun _ H Q => Q true H
theorem pts_nil {X : Cx} : PTs X [] tYes := fun _ _ _ H _ I h => wpAny_tests_nil ⟨H, I, h⟩
def Agr (k : Nat) (σ' σ : St) : Prop := σ'.length = σ.length ∧ ∀ i, k ≤ i → σ'[i]? = σ[i]?
theorem Agr.set {k i : Nat} {σ σb : St} {v : Option V} (h : Agr k σ σb) (hi : i < k) : Agr k (σ.set i v) σb := ⟨by rw [List.length_set]; exact h.1, fun j hj => by rw [List.getElem?_set_ne (by omega)]; exact h.2 j hj⟩
def Own (k : Nat) (g : TG) : Prop := ∀ x σ H (Q : St → Hp → Prop) (σb : St), Agr k σ σb → g x σ H Q → g x σ H fun σ' H' => Agr k σ' σb ∧ Q σ' H'
theorem own_name {k i : Nat} (h : i < k) : Own k (gName i) := fun _ _ _ _ _ a q => ⟨a.set h, q⟩
theorem lst_push (its : List Value) (u : Value) (n : Nat) : ({ cls := .type "list", data := .seq (its.toArray.push u) n } : Obj) = { cls := .type "list", data := .seq (its ++ [u]).toArray n } := by
  rw [List.push_toArray]
section
variable {X : Cx} {pins : List (Addr × Obj)} {σ : St} {H : Hp} {s : Shared} {scope : Scope} {N : List Str} {k : Nat} {idx : List Nat} {fp : List Addr}
theorem comp_block {elt target iter : Expr} {ifs : List Expr} {pos : Pos} {it : Addr} {tn : Nat → Heap → Prop} {J : It} {g : TG} {tt : TT} {te : TE} {R : List V → Hp → Prop} {E : Value → Shared → Prop} {RR : Value → Addr → Result → Shared → Prop}
    (S : BlkScope X scope N k idx) (hc : X.calm = true) (I : Inv X pins σ H s) (T : Turn X.prog X.w X.K target J fp it tn) (st : tn 0 s.heap) (hf : ∀ b ∈ fp, FpOk X pins H b)
    (hg : ∀ C, PG (cxC X scope N fp C s H) target g) (ho : Own k g) (ht : ∀ C, PTs (cxC X scope N fp C s H) ifs tt) (he : ∀ C, PE (cxC X scope N fp C s H) elt te)
    (hw : tCompW J (cσ k idx σ) g tt te R H)
    (hRR : ∀ D C s' m ys H', s'.heap.Ns C m → Inv X pins σ (upd H' D (.lst ys)) s' → FpOk X pins (upd H' D (.lst ys)) C → H' D = none → R ys H' → RR (.ref D) C (.ok .next) s') :
    wpAny (model X.prog X.w) X.A (newList []) (fun acc s₃ => wpAny (model X.prog X.w) X.A (newFunctionEnv scope X.env.globals (clos X.env scope.names []) [] X.env.qual none .none (some X.env)) (fun cenv s₄ =>
      codeAny (model X.prog X.w) X.A (.compStart (.ListComp elt [⟨target, iter, ifs, 0⟩] scope pos) 0 (.ref it) acc { cenv with scope := relabel scope X.env }) (RR acc cenv.locals) s₄) E s₃) E s := by
  refine wpAny_newObj_type (wpAny_newFunctionEnv S.nocell (by intro y hy; simp at hy) (fun h₁ hns₁ hsb₁ => ?_) S.kind)
  dsimp only at hns₁ hsb₁ ⊢
  generalize hH2 : s.heap.push { cls := .type "list", dict := none, data := .seq ([] : List Value).toArray } = H2 at hns₁ hsb₁ ⊢
  have hCs : H2.objs.size = s.heap.objs.size + 1 := by rw [← hH2, Heap.size_push]
  have hDC : s.heap.objs.size ≠ H2.objs.size := by rw [hCs]; exact Nat.ne_of_lt (Nat.lt_succ_self _)
  have hCle : s.heap.objs.size ≤ H2.objs.size := by rw [hCs]; exact Nat.le_succ _
  have below : ∀ b, b < s.heap.objs.size → b ≠ H2.objs.size := fun b hb => by rw [hCs]; exact Nat.ne_of_lt (Nat.lt_succ_of_lt hb)
  have old : ∀ b o, s.heap.get? b = some o → h₁.get? b = some o := fun b o e => hsb₁.extBut b o (below b (Heap.lt_size e)) (Heap.get?_push_of_some _ (hH2 ▸ Heap.get?_push_of_some _ e))
  have hacc : h₁.get? s.heap.objs.size = some { cls := .type "list", data := .seq ([] : List Value).toArray 0 } := hsb₁.extBut _ _ hDC (Heap.get?_push_of_some _ (hH2 ▸ Heap.get?_push_size _ rfl))
  have st₁ : tn 0 h₁ := T.keep _ _ _ st fun b _ o e => old b o e
  obtain ⟨W, ⟨m0, w0⟩, turn⟩ := hw
  have fp0 : ∀ b ∈ fp, b < s.heap.objs.size := fun b hb => by
    obtain ⟨o, e, _⟩ := T.obj _ _ st b hb
    exact Heap.lt_size e
  -- the iterator's records and the block's own objects
  have stat : ∀ {H' : Hp} {pl : List (Addr × Obj)}, (∀ b ∈ fp, H' b = none) → (∀ p ∈ pl, s.heap.objs.size ≤ p.1) → ∀ b ∈ fp, FpOk (cxC X scope N fp H2.objs.size s H) pl H' b := fun {H' pl} hn hp b hb => by
    refine ⟨hn b hb, below b (fp0 b hb), fun z => ?_, .inl hb, fun x c e => (hf b hb).2.2.2.2.1 x c (clos_of (S.cells I) e), fun p q z => ?_⟩
    · have z' : b ∈ frs X.stack := z
      rcases List.mem_cons.mp (I.stkSub b z') with q | q
      · exact (hf b hb).2.1 q
      · exact (hf b hb).2.2.1 q
    · have q' : p ∈ ([] : List (Addr × Obj)) ++ pl := q
      have h1 := hp p (by simpa using q')
      rw [z] at h1
      exact absurd (Nat.lt_of_lt_of_le (fp0 b hb) h1) (Nat.lt_irrefl _)
  have loop : ∀ s₃ : Shared, s₃ = { s with heap := h₁, toks := s.toks + ([] : List (Str × Value)).length } →
      codeAny (model X.prog X.w) X.A (.compLoop (.ListComp elt [⟨target, iter, ifs, 0⟩] scope pos) 0 (.ref it) (.ref s.heap.objs.size) (compEnvC scope (clos X.env scope.names []) H2.objs.size X.env))
        (RR (.ref s.heap.objs.size) H2.objs.size) s₃ := by
    rintro s₃ rfl
    refine compLoop_go (fun n s' => ∃ i ys its H' nn, Inv (cxC X scope N fp H2.objs.size s H) [(s.heap.objs.size, { cls := .type "list", data := .seq its.toArray nn })] (cσ k idx σ) H' s' ∧ tn i s'.heap ∧ (∀ b ∈ fp, H' b = none) ∧ Vals ys its ∧ W i n ys H') ?_ m0
      ⟨0, [], [], H, 0, blk_start S I hf (fun b hb => let ⟨o, e, _⟩ := T.obj _ _ st b hb; ⟨o, e⟩) hCle (Nat.le_refl _) hDC hns₁ old hacc (fun v z => by cases z), st₁, fun b hb => (hf b hb).1, .nil, w0⟩
    rintro n s' ⟨i, ys, its, H', nn, I', st', fr', rv, w'⟩
    obtain ⟨hz, alt⟩ := turn i n ys H' w'
    have pl : ∀ p ∈ [((s.heap.objs.size : Addr), ({ cls := .type "list", data := .seq its.toArray nn } : Obj))], s.heap.objs.size ≤ p.1 := fun p hp => by
      have e : p = ((s.heap.objs.size : Addr), ({ cls := .type "list", data := .seq its.toArray nn } : Obj)) := by simpa using hp
      rw [e]
      exact Nat.le_refl _
    rcases alt with ⟨stop, q⟩ | ⟨go, Nx, hN, step⟩
    · refine thn (T.done (cxC X scope N fp H2.objs.size s H) rfl rfl rfl hc i _ s' _ H' _ I' (stat fr' pl) st' stop) fun r s4 ⟨hr, I4⟩ => ?_
      subst hr
      obtain ⟨eD, nD, _⟩ := I4.pin _ (List.mem_append_right _ List.mem_cons_self)
      obtain ⟨a1, a2⟩ := blk_end I hf I4 hCle (Nat.le_refl _) hDC nD eD rv hz
      obtain ⟨m4, hn4, _⟩ := I4.loc
      exact hRR _ _ s4 m4 ys H' hn4 a1 a2 nD q
    · refine thn (T.item (cxC X scope N fp H2.objs.size s H) rfl rfl rfl hc i _ s' _ H' _ I' (stat fr' pl) st' go) fun r s4 ⟨u, hr, h4⟩ => ?_
      subst hr
      refine thn h4 fun _ s5 ⟨x, H5, I5, r5, y5, st5, fr5⟩ => ?_
      have I5' := I5.pinned (stat fr5 pl) (T.obj _ _ st5)
      have noE : ∀ {α : Type} {t : Sem α} {Q : α → Shared → Prop} {E' : Value → Shared → Prop} {sx : Shared}, wpAny (model X.prog X.w) X.A t Q (fun _ _ => False) sx → wpAny (model X.prog X.w) X.A t Q E' sx := fun h => wpAny_mono h (fun _ _ q => q) fun _ _ z => z.elim
      refine noE (thn (hg _ _ s5 _ H5 x u _ I5' r5 (ho x _ H5 _ _ ⟨rfl, fun _ _ => rfl⟩ (step x H5 y5))) fun _ s6 ⟨σ6, H6, I6, ag, q6⟩ => ?_)
      have back : ∀ {H7 : Hp} {s7 : Shared}, Inv (cxC X scope N fp H2.objs.size s H) ([((s.heap.objs.size : Addr), ({ cls := .type "list", data := .seq its.toArray nn } : Obj))] ++ pinsAt fp s5.heap) σ6 H7 s7 →
          Inv (cxC X scope N fp H2.objs.size s H) [((s.heap.objs.size : Addr), ({ cls := .type "list", data := .seq its.toArray nn } : Obj))] (cσ k idx σ) H7 s7 ∧ tn (i + 1) s7.heap ∧ ∀ b ∈ fp, H7 b = none := fun {H7 s7} I7 => by
        refine ⟨I7.unpinned.weak (by rw [ag.1]) fun j v e => ?_, T.keep _ _ _ st5 fun b hb o e => (I7.pin (b, o) (List.mem_append_right _ (List.mem_append_right _ (mem_pinsAt hb e)))).1, fun b hb => ?_⟩
        · have hj : k ≤ j := by
            by_cases hj : j < k
            · unfold cσ at e
              rw [List.getElem?_append_left (by simpa using hj), List.getElem?_replicate, if_pos hj] at e
              cases e
            · omega
          rw [ag.2 j hj]
          exact e
        · obtain ⟨o, e, d⟩ := T.obj _ _ st5 b hb
          exact (I7.pin (b, o) (List.mem_append_right _ (List.mem_append_right _ (mem_pinsAt hb e)))).2.1
      refine noE (thn (ht _ _ s6 σ6 H6 _ I6 q6) fun b s7 ⟨H7, I7, q7⟩ => ?_)
      cases b with
      | false =>
        rw [if_neg Bool.false_ne_true] at q7 ⊢
        obtain ⟨m', hm, w7⟩ := hN _ _ q7
        obtain ⟨b1, b2, b3⟩ := back I7
        exact ⟨m', hm, i + 1, ys, its, H7, nn, b1, b2, b3, rv, w7⟩
      | true =>
        rw [if_pos rfl] at q7 ⊢
        refine noE (thn (he _ _ s7 σ6 H7 _ I7 q7) fun y s8 ⟨z, H8, I8, r8, q8⟩ => ?_)
        obtain ⟨m', hm, w8⟩ := hN _ _ q8
        obtain ⟨b1, b2, b3⟩ := back I8
        obtain ⟨eD, nD, neD, nfD, _⟩ := b1.pin _ (List.mem_append_right _ List.mem_cons_self)
        have lenV := rv.length
        refine append_at (hsz := by rw [List.size_toArray, ← lenV]; exact hz) eD fun h9 hs9 hD9 => ?_
        have b1' : Inv (cxC X scope N fp H2.objs.size s H) [] (cσ k idx σ) H8 s8 := b1.pins_of fun p hp => by cases hp
        have I9 : Inv (cxC X scope N fp H2.objs.size s H) [] (cσ k idx σ) H8 { s8 with heap := h9 } := b1'.turned (t' := s8.toks) (fun b o hb e => (hs9.2 b hb).trans e) nD neD (.inr (Nat.le_refl _)) (fun x c e z => by
          obtain ⟨v, q⟩ := I.cell x c (clos_of (S.cells I) e)
          exact absurd (Nat.lt_of_lt_of_le q.lt (by rw [z]; exact Nat.le_refl _)) (Nat.lt_irrefl _)) (fun p hp => by
          have hp' : p ∈ ([] : List (Addr × Obj)) ++ [] := hp
          simp at hp')
        refine ⟨m', hm, i + 1, ys ++ [z], its ++ [y], H8, nn + 1, I9.pins_of fun p hp => ?_, T.keep _ _ _ b2 fun b hb o e => (hs9.2 b (Nat.ne_of_lt (fp0 b hb))).trans e, b3, rv.append (.cons r8 .nil), w8⟩
        have e : p = ((s.heap.objs.size : Addr), ({ cls := .type "list", data := .seq (its ++ [y]).toArray (nn + 1) } : Obj)) := by simpa using hp
        subst e
        exact ⟨by rw [← lst_push]; exact hD9, nD, neD, nfD, fun v z => by cases z⟩
  exact codeAny_compStart_list (loop _ rfl) (T.self _ 0 _ _ _ st₁ (loop _ rfl))
theorem pe_comp (k : Nat) (idx : List Nat) {N : List Str} {elt target iter : Expr} {ifs : List Expr} {pos : Pos} {wi : TI} {g : TG} {tt : TT} {te : TE} (S : BlkScope X scope N k idx) (hc : X.calm = true) (hi : PI X target iter wi)
    (hg : ∀ fp C s H, PG (cxC X scope N fp C s H) target g) (ho : Own k g) (ht : ∀ fp C s H, PTs (cxC X scope N fp C s H) ifs tt) (he : ∀ fp C s H, PE (cxC X scope N fp C s H) elt te)
    (hs : ∀ x, foldedSetIterable iter X.env x = pure x := by intro _; rfl) : PE X (.ListComp elt [⟨target, iter, ifs, 0⟩] scope pos) (tComp wi k idx g tt te) := by
  intro pins s σ H Q I h
  rw [eval_ListComp]
  refine wpAny_comprehension_free (use := none) rfl hs (closure_eq (S.cells I)) S.kind S.names (thn (hi pins s σ H _ I h) fun v s1 h1 => thn h1 fun itv s2 h2 => ?_)
  obtain ⟨it, fp, tn, J, H2, e, I2, T, st2, f2, w2⟩ := h2
  subst e
  refine comp_block (RR := fun acc C => compPost (model X.prog X.w) X.A X.xe none (EP X pins σ Q) acc C) S hc I2 T st2 f2 (fun C => hg fp C s2 H2) ho (fun C => ht fp C s2 H2) (fun C => he fp C s2 H2) w2 fun D C s' m ys H' hn I' fC hD q => ?_
  refine ⟨m, hn, fun h'' hs'' => ⟨.ref D, _, I'.turned (t' := s'.toks) (fun b o hb e => (hs''.2 b hb).trans e) fC.1 fC.2.1 fC.2.2.2.1 fC.2.2.2.2.1 fC.2.2.2.2.2, rfl, q D hD⟩⟩
theorem ps_setC (k : Nat) (idx : List Nat) {i : Nat} {x : Str} {N : List Str} {elt target iter : Expr} {ifs : List Expr} {pos pos' spos : Pos} {wi : TI} {g : TG} {tt : TT} {te : TE} (hN : X.N.Nodup) (hix : X.N[i]? = some x) (hx : Loc X.env.scope x)
    (S : BlkScope X scope N k idx) (hc : X.calm = true) (hi : PI X target iter wi)
    (hg : ∀ fp C s H, PG (cxC X scope N fp C s H) target g) (ho : Own k g) (ht : ∀ fp C s H, PTs (cxC X scope N fp C s H) ifs tt) (he : ∀ fp C s H, PE (cxC X scope N fp C s H) elt te)
    (hsw : swapsWith (.ListComp elt [⟨target, iter, ifs, 0⟩] scope pos) (some (.Name x pos')) spos.line X.env = pure true := by rfl)
    (hs : ∀ x, foldedSetIterable iter X.env x = pure x := by intro _; rfl) (hfn : X.fn x = true ∨ X.env.scope.names.lookup x = some .local := by first | exact .inl rfl | exact .inr rfl | assumption) :
    PS X (.Assign [.Name x pos'] (.ListComp elt [⟨target, iter, ifs, 0⟩] scope pos) spos) (tAsg (tComp wi k idx g tt te) (gName i)) := by
  intro pins s σ H D I h
  rw [exec_Assign_Name_used _ _ _ _ hsw]
  refine wpAny_bind (wpAny_standAt (wpAny_bind ?_))
  show wpAny _ X.A (do let _ ← comprehension (.ListComp elt [⟨target, iter, ifs, 0⟩] scope pos) scope X.env _ (newList []) false (eval iter X.env) (some (assign (.Name x pos') X.env))) _ _ s
  refine wpAny_bind (wpAny_mono (wpAny_comprehension_free (use := some (assign (.Name x pos') X.env)) (Q := fun _ s' => SP X pins D .next s') rfl hs (closure_eq (S.cells I)) S.kind S.names
    (thn (hi pins s σ H _ I h) fun v s1 h1 => thn h1 fun itv s2 h2 => ?_)) (fun _ s' hq => wpAny_pure (wpAny_pure hq)) fun _ _ e => e)
  obtain ⟨it, fp, tn, J, H2, e, I2, T, st2, f2, w2⟩ := h2
  subst e
  refine comp_block (RR := fun acc C => compPost (model X.prog X.w) X.A X.xe (some (assign (.Name x pos') X.env)) (fun _ s' => SP X pins D .next s') acc C) S hc I2 T st2 f2 (fun C => hg fp C s2 H2) ho (fun C => ht fp C s2 H2) (fun C => he fp C s2 H2) w2 fun D' C s' m ys H' hn I' fC hD q => ?_
  show wpAny _ X.A (assign (.Name x pos') X.env (.ref D')) _ _ s'
  refine wpAny_assign_Name (store_ok2 I' hN hix hx (show RelV (.ref D') (.ref D') from rfl) (fun s3 I3 ⟨a, sb, ha⟩ => ?_) hfn)
  have hCa : C ≠ a := by
    rcases ha with z | z
    · rw [z]; exact fC.2.1
    · exact (fC.2.2.2.2.1 x a z).symm
  refine ⟨m, hn.sameBut sb hCa, fun h'' hs'' => ⟨_, _, I3.turned (t' := s3.toks) (fun b o hb e => (hs''.2 b hb).trans e) fC.1 fC.2.1 fC.2.2.2.1 fC.2.2.2.2.1 fC.2.2.2.2.2, q D' hD⟩⟩
end
theorem comp_list {K : PySem.W.Frag} {a : Addr} {xs : List V} {σ₀ : St} {g : TG} {tt : TT} {te : TE} {R : List V → Hp → Prop} {H : Hp} (Pv : Nat → List V → Hp → Prop) (h0 : Pv 0 [] H) (hz : xs.length ≤ sizeLine)
    (hl : ∀ i ys H, i ≤ xs.length → Pv i ys H → SqL K H a xs ∧ ys.length ≤ i)
    (hs : ∀ i x ys H, xs[i]? = some x → Pv i ys H → g x σ₀ H fun σ2 H2 => tt σ2 H2 fun b H3 => if b = true then te σ2 H3 fun y H4 => Pv (i + 1) (ys ++ [y]) H4 else Pv (i + 1) ys H3)
    (hd : ∀ ys H, Pv xs.length ys H → R ys H) : tCompW (Itl K a) σ₀ g tt te R H := by
  refine ⟨fun i m ys H => m = xs.length - i ∧ i ≤ xs.length ∧ Pv i ys H, ⟨xs.length, by simp, Nat.zero_le _, h0⟩, ?_⟩
  rintro i m ys H ⟨rfl, hi, p⟩
  obtain ⟨q, ql⟩ := hl i ys H hi p
  refine ⟨by omega, ?_⟩
  by_cases hlt : i < xs.length
  · refine .inr ⟨⟨xs, xs[i], q, by simp [hlt]⟩, Pv (i + 1), fun ys' H' p' => ⟨xs.length - (i + 1), by omega, rfl, hlt, p'⟩, fun x H' y => ?_⟩
    obtain ⟨e, y⟩ := y
    subst e
    exact hs i x ys _ (y xs q) p
  · have e : i = xs.length := by omega
    subst e
    exact .inl ⟨⟨xs, q, Nat.le_refl _⟩, hd ys H p⟩
theorem comp_range {lo : Int} {n : Nat} {σ₀ : St} {g : TG} {tt : TT} {te : TE} {R : List V → Hp → Prop} {H : Hp} (Pv : Nat → List V → Hp → Prop) (h0 : Pv 0 [] H) (hz : n ≤ sizeLine)
    (hl : ∀ i ys H, i ≤ n → Pv i ys H → ys.length ≤ i)
    (hs : ∀ i ys H, i < n → Pv i ys H → g (.int (lo + i)) σ₀ H fun σ2 H2 => tt σ2 H2 fun b H3 => if b = true then te σ2 H3 fun y H4 => Pv (i + 1) (ys ++ [y]) H4 else Pv (i + 1) ys H3)
    (hd : ∀ ys H, Pv n ys H → R ys H) : tCompW (Itr lo n) σ₀ g tt te R H := by
  refine ⟨fun i m ys H => m = n - i ∧ i ≤ n ∧ Pv i ys H, ⟨n, by simp, Nat.zero_le _, h0⟩, ?_⟩
  rintro i m ys H ⟨rfl, hi, p⟩
  have ql := hl i ys H hi p
  refine ⟨by omega, ?_⟩
  by_cases hlt : i < n
  · refine .inr ⟨hlt, Pv (i + 1), fun ys' H' p' => ⟨n - (i + 1), by omega, rfl, hlt, p'⟩, fun x H' y => ?_⟩
    obtain ⟨e, y⟩ := y
    subst e y
    exact hs i ys _ hlt p
  · have e : i = n := by omega
    subst e
    exact .inl ⟨Nat.le_refl _, hd ys H p⟩
end L2
namespace L2
open PySem PySem.Spec PyProof.Rows
theorem bt_int : bootBuiltins "int" = some (.type "int") := by decide +kernel
theorem bt_bool : bootBuiltins "bool" = some (.type "bool") := by decide +kernel
theorem bt_str : bootBuiltins "str" = some (.type "str") := by decide +kernel
theorem bt_list : bootBuiltins "list" = some (.type "list") := by decide +kernel
theorem bt_tuple : bootBuiltins "tuple" = some (.type "tuple") := by decide +kernel
theorem bt_len : bootBuiltins "len" = some (.builtin "len") := by decide +kernel
theorem bt_abs : bootBuiltins "abs" = some (.builtin "abs") := by decide +kernel
theorem bt_max : bootBuiltins "max" = some (.builtin "max") := by decide +kernel
theorem bt_min : bootBuiltins "min" = some (.builtin "min") := by decide +kernel
theorem bt_all : bootBuiltins "all" = some (.builtin "all") := by decide +kernel
theorem bt_isinstance : bootBuiltins "isinstance" = some (.builtin "isinstance") := by decide +kernel
section
variable {X : Cx}
def rAddG : R2 := fun x y H Q => rI0 (fun i j => .int (i + j)) x y H Q ∨ rCat x y H Q
theorem op_addG : OpR X (binaryOp .Add) rAddG := op_add.or op_cat
def rMulG : R2 := fun x y H Q => rI CMul (fun i j => .int (i * j)) x y H Q ∨ rRep x y H Q
theorem op_mulG : OpR X (binaryOp .Mult) rMulG := op_mul.or op_rep
def rSlG (K : PySem.W.Frag) : V → Option Int → Option Int → Hp → VK → Prop := fun x lo hi H Q => rSlL K x lo hi H Q ∨ rSlT K x lo hi H Q
theorem sl_G : SlR X (rSlG X.K) := sl_list.or sl_tup
def EqN (K : PySem.W.Frag) (H : Hp) : Nat → V → V → Bool → Prop
  | 0, x, y, b => flatV x = true ∧ flatV y = true ∧ b = eqV x y
  | n + 1, x, y, b => (flatV x = true ∧ flatV y = true ∧ b = eqV x y) ∨
    ∃ (p q : Addr) (xs ys : List V) (e : Nat → Bool), x = .ref p ∧ y = .ref q ∧ ((SqL K H p xs ∧ SqL K H q ys) ∨ (SqT K H p xs ∧ SqT K H q ys)) ∧
      (∀ (j : Nat) u v, xs[j]? = some u → ys[j]? = some v → EqN K H n u v (e j)) ∧ b = (xs.length == ys.length && (List.range xs.length).all e)
theorem eqV_refl {x : V} (h : flatV x = true) : eqV x x = true := by
  cases x with
  | non => rfl
  | bl b => cases b <;> rfl
  | int i => exact beq_self_eq_true i
  | str z => exact beq_self_eq_true z
  | _ => exact absurd (show false = true from h) Bool.false_ne_true
theorem eqN_refl {pins : List (Addr × Obj)} {σ : St} {H : Hp} {s : Shared} (I : Inv X pins σ H s) : ∀ {n : Nat} {x : V} {b : Bool}, EqN X.K H n x x b → b = true
  | 0, x, b, ⟨h, _, e⟩ => by rw [e]; exact eqV_refl h
  | n + 1, x, b, h => by
    rcases h with ⟨h, _, e⟩ | ⟨p, q, xs, ys, e, e1, e2, hs, he, eb⟩
    · rw [e]; exact eqV_refl h
    · subst e1
      cases e2
      have exy : xs = ys := by
        rcases hs with ⟨h1, h2⟩ | ⟨h1, h2⟩
        · exact I.list_inj h1 h2
        · exact I.tuple_inj h1 h2
      subst exy
      rw [eb, beq_self_eq_true, Bool.true_and, List.all_eq_true]
      intro j hj
      have hj' : j < xs.length := List.mem_range.mp hj
      exact eqN_refl I (he j xs[j] xs[j] (List.getElem?_eq_getElem hj') (List.getElem?_eq_getElem hj'))
theorem eqN_at {pins : List (Addr × Obj)} {σ : St} {H : Hp} {s : Shared} (I : Inv X pins σ H s) : ∀ {n : Nat} {A : Around} {x y : V} {u v : Value} {b : Bool}, A.units + n < cLine → RelV x u → RelV y v → EqN X.K H n x y b → SeqAt.EqAt A s u v b
  | 0, A, x, y, u, v, b, _, rx, ry, ⟨h1, h2, e⟩ => by rw [e]; exact eqAt_V rx ry h1 h2
  | n + 1, A, x, y, u, v, b, hu, rx, ry, h => by
    rcases id h with ⟨h1, h2, e⟩ | ⟨p, q, xs, ys, e, e1, e2, hs, he, eb⟩
    · rw [e]; exact eqAt_V rx ry h1 h2
    · subst e1 e2
      cases rx
      cases ry
      by_cases hpq : p = q
      · subst hpq
        rw [eqN_refl I h]
        exact SeqAt.EqAt.same _
      · refine SeqAt.EqAt.of_refs hpq ?_
        have items : ∀ {us vs : List Value}, Vals xs us → Vals ys vs → ∀ j (h1 : j < us.toArray.size) (h2 : j < vs.toArray.size), SeqAt.EqAt A.in1 s us.toArray[j] vs.toArray[j] (e j) := fun {us vs} r1 r2 j h1 h2 => by
          have l1 := r1.length
          have l2 := r2.length
          rw [List.size_toArray] at h1 h2
          have g1 : xs[j]? = some xs[j] := List.getElem?_eq_getElem (by omega)
          have g2 : ys[j]? = some ys[j] := List.getElem?_eq_getElem (by omega)
          obtain ⟨u', eu, ru⟩ := r1.get g1
          obtain ⟨v', ev, rv⟩ := r2.get g2
          have eu' : us.toArray[j] = u' := by
            rw [List.getElem_toArray]
            exact Option.some.inj ((List.getElem?_eq_getElem h1).symm.trans eu)
          have ev' : vs.toArray[j] = v' := by
            rw [List.getElem_toArray]
            exact Option.some.inj ((List.getElem?_eq_getElem h2).symm.trans ev)
          rw [eu', ev']
          exact eqN_at I (n := n) (by show A.units + 1 + n < cLine; omega) ru rv (he j _ _ g1 g2)
        rcases hs with ⟨h1, h2⟩ | ⟨h1, h2⟩
        · obtain ⟨us, r1, p1, _⟩ := I.list h1
          obtain ⟨vs, r2, p2, _⟩ := I.list h2
          have l1 := r1.length
          have l2 := r2.length
          by_cases hl : xs.length = ys.length
          · rw [eb, hl, beq_self_eq_true, Bool.true_and, ← hl, show xs.length = us.toArray.size by rw [List.size_toArray]; exact l1]
            exact SeqAt.RcAt.lists p1.isList p2.isList (by rw [List.size_toArray, List.size_toArray]; omega) (by omega) (items r1 r2)
          · rw [eb, show (xs.length == ys.length) = false by simpa using hl, Bool.false_and]
            exact SeqAt.RcAt.lists_lengths p1.isList p2.isList (by rw [List.size_toArray, List.size_toArray]; simp; omega) (by omega)
        · obtain ⟨us, r1, p1, _⟩ := I.tuple h1
          obtain ⟨vs, r2, p2, _⟩ := I.tuple h2
          have l1 := r1.length
          have l2 := r2.length
          have q := SeqAt.RcAt.tuples (s := s) (A := A) (l := p) (b := q) (e := e) p1 p2 (by omega) (items r1 r2)
          rw [List.size_toArray, List.size_toArray, ← l1, ← l2] at q
          by_cases hl : xs.length = ys.length
          · rw [eb, hl, beq_self_eq_true, Bool.true_and]
            rw [hl, Nat.min_self, beq_self_eq_true, Bool.and_true] at q
            exact q
          · have hb : (xs.length == ys.length) = false := by simpa using hl
            rw [eb, hb, Bool.false_and]
            rw [hb, Bool.and_false] at q
            exact q
def rEqG (K : PySem.W.Frag) : R2 := fun x y H Q => ∃ b, EqN K H 8 x y b ∧ Q (.bl b) H
def rNeG (K : PySem.W.Frag) : R2 := fun x y H Q => ∃ b, EqN K H 8 x y b ∧ Q (.bl (!b)) H
theorem eqN_items {pins : List (Addr × Obj)} {σ : St} {H : Hp} {s : Shared} {n : Nat} {A : Around} {xs ys : List V} {us vs : List Value} {e : Nat → Bool} (I : Inv X pins σ H s) (hu : A.units + 1 + n < cLine)
    (he : ∀ (j : Nat) u v, xs[j]? = some u → ys[j]? = some v → EqN X.K H n u v (e j)) (r1 : Vals xs us) (r2 : Vals ys vs) : ∀ j (h1 : j < us.toArray.size) (h2 : j < vs.toArray.size), SeqAt.EqAt A.in1 s us.toArray[j] vs.toArray[j] (e j) := fun j h1 h2 => by
  have l1 := r1.length
  have l2 := r2.length
  rw [List.size_toArray] at h1 h2
  have g1 : xs[j]? = some xs[j] := List.getElem?_eq_getElem (by omega)
  have g2 : ys[j]? = some ys[j] := List.getElem?_eq_getElem (by omega)
  obtain ⟨u', eu, ru⟩ := r1.get g1
  obtain ⟨v', ev, rv⟩ := r2.get g2
  have eu' : us.toArray[j] = u' := by
    rw [List.getElem_toArray]
    exact Option.some.inj ((List.getElem?_eq_getElem h1).symm.trans eu)
  have ev' : vs.toArray[j] = v' := by
    rw [List.getElem_toArray]
    exact Option.some.inj ((List.getElem?_eq_getElem h2).symm.trans ev)
  rw [eu', ev']
  exact eqN_at I (n := n) (by show A.units + 1 + n < cLine; omega) ru rv (he j _ _ g1 g2)
theorem rcAt_V {A : Around} {s : Shared} {y x : V} {u v : Value} (ry : RelV y u) (rx : RelV x v) (fy : flatV y = true) (fx : flatV x = true) : SeqAt.RcAt A s u v (eqV y x) := by
  cases y with
  | non =>
    cases ry
    cases x with
    | non => cases rx; exact SeqAt.RcAt.none_none
    | bl b => cases rx; exact SeqAt.RcAt.none_bool b
    | int b => obtain ⟨t, rfl⟩ := rx; exact SeqAt.RcAt.none_int b t
    | str b => obtain ⟨t, rfl⟩ := rx; exact SeqAt.RcAt.none_str b t
    | _ => exact absurd (show false = true from fx) Bool.false_ne_true
  | bl a =>
    cases ry
    cases x with
    | non => cases rx; exact SeqAt.RcAt.bool_none a
    | bl b => cases rx; exact SeqAt.RcAt.bool_bool a b
    | int b => obtain ⟨t, rfl⟩ := rx; exact SeqAt.RcAt.bool_int a b t
    | str b => obtain ⟨t, rfl⟩ := rx; exact SeqAt.RcAt.bool_str a b t
    | _ => exact absurd (show false = true from fx) Bool.false_ne_true
  | int a =>
    obtain ⟨t', rfl⟩ := ry
    cases x with
    | non => cases rx; exact SeqAt.RcAt.int_none a t'
    | bl b => cases rx; exact SeqAt.RcAt.int_bool a t' b
    | int b => obtain ⟨t, rfl⟩ := rx; exact SeqAt.RcAt.int_int a t' b t
    | str b => obtain ⟨t, rfl⟩ := rx; exact SeqAt.RcAt.int_str a t' b t
    | _ => exact absurd (show false = true from fx) Bool.false_ne_true
  | str a =>
    obtain ⟨t', rfl⟩ := ry
    cases x with
    | non => cases rx; exact SeqAt.RcAt.str_none a t'
    | bl b => cases rx; exact SeqAt.RcAt.str_bool a t' b
    | int b => obtain ⟨t, rfl⟩ := rx; exact SeqAt.RcAt.str_int a t' b t
    | str b => obtain ⟨t, rfl⟩ := rx; exact SeqAt.RcAt.str_str a t' b t
    | _ => exact absurd (show false = true from fx) Bool.false_ne_true
  | _ => exact absurd (show false = true from fy) Bool.false_ne_true
theorem rcNeAt_V {A : Around} {s : Shared} {y x : V} {u v : Value} (ry : RelV y u) (rx : RelV x v) (fy : flatV y = true) (fx : flatV x = true) : SeqAt.RcNeAt A s u v (!eqV y x) := by
  cases y with
  | non =>
    cases ry
    cases x with
    | non => cases rx; exact SeqAt.RcNeAt.none_none
    | bl b => cases rx; exact SeqAt.RcNeAt.none_bool b
    | int b => obtain ⟨t, rfl⟩ := rx; exact SeqAt.RcNeAt.none_int b t
    | str b => obtain ⟨t, rfl⟩ := rx; exact SeqAt.RcNeAt.none_str b t
    | _ => exact absurd (show false = true from fx) Bool.false_ne_true
  | bl a =>
    cases ry
    cases x with
    | non => cases rx; exact SeqAt.RcNeAt.bool_none a
    | bl b => cases rx; exact SeqAt.RcNeAt.bool_bool a b
    | int b => obtain ⟨t, rfl⟩ := rx; exact SeqAt.RcNeAt.bool_int a b t
    | str b => obtain ⟨t, rfl⟩ := rx; exact SeqAt.RcNeAt.bool_str a b t
    | _ => exact absurd (show false = true from fx) Bool.false_ne_true
  | int a =>
    obtain ⟨t', rfl⟩ := ry
    cases x with
    | non => cases rx; exact SeqAt.RcNeAt.int_none a t'
    | bl b => cases rx; exact SeqAt.RcNeAt.int_bool a t' b
    | int b => obtain ⟨t, rfl⟩ := rx; exact SeqAt.RcNeAt.int_int a t' b t
    | str b => obtain ⟨t, rfl⟩ := rx; exact SeqAt.RcNeAt.int_str a t' b t
    | _ => exact absurd (show false = true from fx) Bool.false_ne_true
  | str a =>
    obtain ⟨t', rfl⟩ := ry
    cases x with
    | non => cases rx; exact SeqAt.RcNeAt.str_none a t'
    | bl b => cases rx; exact SeqAt.RcNeAt.str_bool a t' b
    | int b => obtain ⟨t, rfl⟩ := rx; exact SeqAt.RcNeAt.str_int a t' b t
    | str b => obtain ⟨t, rfl⟩ := rx; exact SeqAt.RcNeAt.str_str a t' b t
    | _ => exact absurd (show false = true from fx) Bool.false_ne_true
  | _ => exact absurd (show false = true from fy) Bool.false_ne_true
theorem op_eqG (hu : X.A.units + 9 < cLine) : OpR X (compareOp .Eq) (rEqG X.K) := by
  intro pins s σ H x y v u Q I rx ry h
  obtain ⟨b, h, q⟩ := h
  have fin : EP X pins σ Q (.bool b) s := ⟨.bl b, H, I, rfl, q⟩
  rcases h with ⟨h1, h2, e⟩ | ⟨p, l, xs, ys, e, e1, e2, hs, he, eb⟩
  · exact rcAt_V rx ry h1 h2 X.prog X.w X.xe _ (by rw [← e]; exact fin)
  · subst e1 e2
    cases rx
    cases ry
    rcases hs with ⟨h1, h2⟩ | ⟨h1, h2⟩
    · obtain ⟨us, r1, p1, _⟩ := I.list h1
      obtain ⟨vs, r2, p2, _⟩ := I.list h2
      have l1 := r1.length
      have l2 := r2.length
      by_cases hl : xs.length = ys.length
      · refine SeqAt.RcAt.lists p1.isList p2.isList (by rw [List.size_toArray, List.size_toArray]; omega) (by omega) (eqN_items I (n := 7) (A := X.A) (by omega) he r1 r2) X.prog X.w X.xe _ ?_
        rw [List.size_toArray, ← l1]
        rw [eb, hl, beq_self_eq_true, Bool.true_and, ← hl] at fin
        exact fin
      · refine SeqAt.RcAt.lists_lengths p1.isList p2.isList (by rw [List.size_toArray, List.size_toArray]; simp; omega) (by omega) X.prog X.w X.xe _ ?_
        rw [eb, show (xs.length == ys.length) = false by simpa using hl, Bool.false_and] at fin
        exact fin
    · obtain ⟨us, r1, p1, _⟩ := I.tuple h1
      obtain ⟨vs, r2, p2, _⟩ := I.tuple h2
      have l1 := r1.length
      have l2 := r2.length
      refine SeqAt.RcAt.tuples p1 p2 (by omega) (eqN_items I (n := 7) (A := X.A) (by omega) he r1 r2) X.prog X.w X.xe _ ?_
      rw [List.size_toArray, List.size_toArray, ← l1, ← l2]
      rw [eb] at fin
      by_cases hl : xs.length = ys.length
      · rw [hl, beq_self_eq_true, Bool.true_and] at fin
        rw [hl, Nat.min_self, beq_self_eq_true, Bool.and_true]
        exact fin
      · have hb : (xs.length == ys.length) = false := by simpa using hl
        rw [hb, Bool.false_and] at fin
        rw [hb, Bool.and_false]
        exact fin
theorem op_neG (hu : X.A.units + 9 < cLine) : OpR X (compareOp .NotEq) (rNeG X.K) := by
  intro pins s σ H x y v u Q I rx ry h
  obtain ⟨b, h, q⟩ := h
  have fin : EP X pins σ Q (.bool (!b)) s := ⟨.bl (!b), H, I, rfl, q⟩
  rcases h with ⟨h1, h2, e⟩ | ⟨p, l, xs, ys, e, e1, e2, hs, he, eb⟩
  · exact rcNeAt_V rx ry h1 h2 X.prog X.w X.xe _ (by rw [← e]; exact fin)
  · subst e1 e2
    cases rx
    cases ry
    rcases hs with ⟨h1, h2⟩ | ⟨h1, h2⟩
    · obtain ⟨us, r1, p1, _⟩ := I.list h1
      obtain ⟨vs, r2, p2, _⟩ := I.list h2
      have l1 := r1.length
      have l2 := r2.length
      by_cases hl : xs.length = ys.length
      · refine SeqAt.RcNeAt.lists p1.isList p2.isList (by rw [List.size_toArray, List.size_toArray]; omega) (by omega) (eqN_items I (n := 7) (A := X.A) (by omega) he r1 r2) X.prog X.w X.xe _ ?_
        rw [List.size_toArray, ← l1]
        rw [eb, hl, beq_self_eq_true, Bool.true_and, ← hl] at fin
        exact fin
      · refine SeqAt.RcNeAt.lists_lengths p1.isList p2.isList (by rw [List.size_toArray, List.size_toArray]; simp; omega) (by omega) X.prog X.w X.xe _ ?_
        rw [eb, show (xs.length == ys.length) = false by simpa using hl, Bool.false_and] at fin
        exact fin
    · obtain ⟨us, r1, p1, _⟩ := I.tuple h1
      obtain ⟨vs, r2, p2, _⟩ := I.tuple h2
      have l1 := r1.length
      have l2 := r2.length
      refine SeqAt.RcNeAt.tuples p1 p2 (by omega) (eqN_items I (n := 7) (A := X.A) (by omega) he r1 r2) X.prog X.w X.xe _ ?_
      rw [List.size_toArray, List.size_toArray, ← l1, ← l2]
      rw [eb] at fin
      by_cases hl : xs.length = ys.length
      · rw [hl, beq_self_eq_true, Bool.true_and] at fin
        rw [hl, Nat.min_self, beq_self_eq_true, Bool.and_true]
        exact fin
      · have hb : (xs.length == ys.length) = false := by simpa using hl
        rw [hb, Bool.false_and] at fin
        rw [hb, Bool.and_false]
        exact fin
def IsI (K : PySem.W.Frag) (H : Hp) (x : V) (c : V) (b : Bool) : Prop := ∃ t, TyOf K H x t ∧ ((∃ T, c = .ty T ∧ PySem.W.kitOne K t (.type T) = some b) ∨ (∃ C, c = .ref C ∧ PySem.W.kitOne K t (.ref C) = some b))
theorem call_isi : CallR X (.builtin "isinstance") (fun xs H Q => ∃ x c b, xs = [x, c] ∧ IsI X.K H x c b ∧ Q (.bl b) H) := by
  intro pins s σ H xs us Q I r h
  obtain ⟨x, c, b, rfl, ⟨t, ty, hc⟩, q⟩ := h
  obtain ⟨u, w', rfl, rx, ry⟩ := vals2 r
  rcases hc with ⟨T, rfl, e⟩ | ⟨C, rfl, e⟩
  · cases ry
    exact isinst_ok I rx ty e fun tk => ⟨.bl b, H, I.tok _, rfl, q⟩
  · cases ry
    exact isinst_ok I rx ty e fun tk => ⟨.bl b, H, I.tok _, rfl, q⟩
end
end L2
namespace L2
open PySem PySem.Spec PyProof.Rows
section
variable {X : Cx}
def gIx (K : PySem.W.Frag) : V → V → Hp → VK → Prop := fun x y H Q => ∃ p xs i v, x = .ref p ∧ y = .int i ∧ SqL K H p xs ∧ 0 ≤ i ∧ xs[i.toNat]? = some v ∧ Q v H
theorem get_ix : PGet X (gIx X.K) := by
  intro pins s σ H x y v u Q I rx ry h
  obtain ⟨p, xs, i, z, rfl, rfl, hq, h0, he, q⟩ := h
  cases rx
  obtain ⟨t, rfl⟩ := ry
  obtain ⟨its, r, pl, hz⟩ := I.list hq
  obtain ⟨w, ew, rw'⟩ := r.get he
  have hl := r.length
  have hn := line63
  have hi : i.toNat < xs.length := (List.getElem?_eq_some_iff.mp he).1
  exact wpAny_getItem_list pl.isList h0 (by omega) (by simpa using ew) ⟨z, H, I, rw', q⟩
theorem hu9 {k : Nat} {A : Around} (hr : Room k A) : A.units + 9 < cLine := by have := hr.un; omega
end
section
variable {σ : St} {H : Hp} {nx bk ct : St → Hp → Prop} {rt : VK} {Q : VK} {QT : Bool → Hp → Prop} {QA : List V → Hp → Prop} {QG : St → Hp → Prop}
theorem rd_start {t : TS} {D : Ends} {σ σ' : St} (e : σ' = σ) (h : t D σ H) : t D σ' H := e ▸ h
theorem rd_seq {t u : TS} (h : t ⟨u ⟨nx, rt, bk, ct⟩, rt, bk, ct⟩ σ H) : tSeq t u ⟨nx, rt, bk, ct⟩ σ H := h
theorem rd_next (h : nx σ H) : tNext ⟨nx, rt, bk, ct⟩ σ H := h
theorem rd_asg {te : TE} {g : TG} (h : te σ H fun x H1 => g x σ H1 nx) : tAsg te g ⟨nx, rt, bk, ct⟩ σ H := h
theorem rd_drop {te : TE} (h : te σ H fun _ H1 => nx σ H1) : tDrop te ⟨nx, rt, bk, ct⟩ σ H := h
theorem rd_ret {te : TE} (h : te σ H rt) : tRet te ⟨nx, rt, bk, ct⟩ σ H := h
theorem rd_retN (h : rt .non H) : tRetN ⟨nx, rt, bk, ct⟩ σ H := h
theorem rd_break (h : bk σ H) : tBreak ⟨nx, rt, bk, ct⟩ σ H := h
theorem rd_cont (h : ct σ H) : tCont ⟨nx, rt, bk, ct⟩ σ H := h
theorem rd_ifS {c : TT} {t u : TS} (h : c σ H fun b H1 => if b = true then t ⟨nx, rt, bk, ct⟩ σ H1 else u ⟨nx, rt, bk, ct⟩ σ H1) : tIfS c t u ⟨nx, rt, bk, ct⟩ σ H := h
theorem rd_par {i j : Nat} {ta : TA} (h : ta σ H fun vs H1 => ∃ v w, vs = [v, w] ∧ nx ((σ.set i (some v)).set j (some w)) H1) : tPar i j ta ⟨nx, rt, bk, ct⟩ σ H := h
theorem rd_aug {i : Nat} {te : TE} {ti : TIp} {x : V} (e : σ[i]? = some (some x)) (h : te σ H fun y H1 => ti x y H1 fun z H2 => nx (σ.set i (some z)) H2) : tAug i te ti ⟨nx, rt, bk, ct⟩ σ H := ⟨x, e, h⟩
theorem rd_augS {to ti te : TE} {tget : V → V → Hp → VK → Prop} {tip : TIp} {tset : TSet} (h : to σ H fun o H1 => ti σ H1 fun i H2 => tget o i H2 fun x H3 => te σ H3 fun y H4 => tip x y H4 fun z H5 => tset o i z H5 fun H6 => nx σ H6) : tAugS to ti te tget tip tset ⟨nx, rt, bk, ct⟩ σ H := h
theorem rd_for {wi : TI} {g : TG} {tb : TS} (h : wi σ H fun J H1 => ∃ W : Nat → Nat → St → Hp → Prop, (∃ m, W 0 m σ H1) ∧ ∀ i m σ H, W i m σ H →
  (J.stop i H ∧ nx σ H) ∨ (J.go i H ∧ ∃ N : St → Hp → Prop, (∀ σ' H', N σ' H' → ∃ m', m' < m ∧ W (i + 1) m' σ' H') ∧ ∀ x H', J.yld i H x H' → g x σ H' fun σ2 H2 => tb ⟨N, rt, nx, N⟩ σ2 H2)) : tFor wi g tb ⟨nx, rt, bk, ct⟩ σ H := h
theorem rd_gname {i : Nat} {v : V} {σ' : St} (e : σ.set i (some v) = σ') (h : QG σ' H) : gName i v σ H QG := by unfold gName; rw [e]; exact h
theorem rd_gtup {K : PySem.W.Frag} {n : Nat} {t : TGs} {a : Addr} {xs : List V} (h1 : SqT K H a xs) (h2 : xs.length = n) (h : t xs σ H QG) : gTup K n t (.ref a) σ H QG := ⟨a, xs, rfl, h1, h2, h⟩
theorem rd_gnil (h : QG σ H) : gNil [] σ H QG := ⟨rfl, h⟩
theorem rd_gcons {t : TG} {u : TGs} {v : V} {r : List V} (h : t v σ H fun σ' H' => u r σ' H' QG) : gCons t u (v :: r) σ H QG := ⟨v, r, rfl, h⟩
theorem rd_gsub {to ti : TE} {t : TSet} {v : V} (h : to σ H fun o H1 => ti σ H1 fun i H2 => t o i v H2 fun H3 => QG σ H3) : gSub to ti t v σ H QG := h
theorem rd_setL {p : Addr} {xs : List V} {k : Int} {v : V} {j : Nat} {QH : Hp → Prop} (h1 : H p = some (.lst xs)) (h2 : ixN xs.length k = some j) (h : QH (upd H p (.lst (xs.set j v)))) : rSetL (.ref p) (.int k) v H QH := ⟨p, xs, k, j, rfl, rfl, h1, h2, h⟩
theorem rd_gIx {K : PySem.W.Frag} {p : Addr} {xs : List V} {i : Int} {v : V} (h1 : SqL K H p xs) (h0 : 0 ≤ i) (h2 : xs[i.toNat]? = some v) (h : Q v H) : gIx K (.ref p) (.int i) H Q := ⟨p, xs, i, v, rfl, rfl, h1, h0, h2, h⟩
theorem rd_ipI {f : Int → Int → Int} {i j : Int} (h : Q (.int (f i j)) H) : ipI f (.int i) (.int j) H Q := ⟨i, j, rfl, rfl, h⟩
-- expressions
theorem rd_var {i : Nat} {v : V} (e : σ[i]? = some (some v)) (h : Q v H) : tVar i σ H Q := ⟨v, e, h⟩
theorem rd_c {v : V} (h : Q v H) : tC v σ H Q := h
theorem rd_op {r : R2} {ta tb : TE} (h : ta σ H fun x H1 => tb σ H1 fun y H2 => r x y H2 Q) : tOp r ta tb σ H Q := h
theorem rd_un {r : V → Hp → VK → Prop} {ta : TE} (h : ta σ H fun x H1 => r x H1 Q) : tUn r ta σ H Q := h
theorem rd_rI0 {g : Int → Int → V} {i j : Int} (h : Q (g i j) H) : rI0 g (.int i) (.int j) H Q := ⟨i, j, rfl, rfl, h⟩
theorem rd_rI {C : Int → Int → Prop} {g : Int → Int → V} {i j : Int} (c : C i j) (h : Q (g i j) H) : rI C g (.int i) (.int j) H Q := ⟨i, j, rfl, rfl, c, h⟩
theorem rd_rU {g : Int → V} {i : Int} (h : Q (g i) H) : rU g (.int i) H Q := ⟨i, rfl, h⟩
theorem rd_addI {i j : Int} (h : Q (.int (i + j)) H) : rAddG (.int i) (.int j) H Q := .inl ⟨i, j, rfl, rfl, h⟩
theorem rd_addL {l b : Addr} {xs zs : List V} (h1 : H l = some (.lst xs)) (h2 : H b = some (.lst zs)) (hz : xs.length + zs.length ≤ sizeLine) (h : ∀ p, H p = none → Q (.ref p) (upd H p (.lst (xs ++ zs)))) : rAddG (.ref l) (.ref b) H Q := .inr ⟨l, b, xs, zs, rfl, rfl, h1, h2, hz, h⟩
theorem rd_mulI {i j : Int} (c : CMul i j) (h : Q (.int (i * j)) H) : rMulG (.int i) (.int j) H Q := .inl ⟨i, j, rfl, rfl, c, h⟩
theorem rd_eqF {K : PySem.W.Frag} {x y : V} (h1 : flatV x = true) (h2 : flatV y = true) (h : Q (.bl (eqV x y)) H) : rEqG K x y H Q := ⟨_, .inl ⟨h1, h2, rfl⟩, h⟩
theorem rd_neF {K : PySem.W.Frag} {x y : V} (h1 : flatV x = true) (h2 : flatV y = true) (h : Q (.bl (!eqV x y)) H) : rNeG K x y H Q := ⟨_, .inl ⟨h1, h2, rfl⟩, h⟩
theorem rd_ixL {K : PySem.W.Frag} {p : Addr} {xs : List V} {i : Int} {v : V} (h1 : SqL K H p xs) (h2 : atI xs i = some v) (h : Q v H) : rIx K (.ref p) (.int i) H Q := .inl ⟨p, xs, i, v, rfl, rfl, h1, h2, h⟩
theorem rd_ixT {K : PySem.W.Frag} {p : Addr} {xs : List V} {i : Int} {v : V} (h1 : SqT K H p xs) (h2 : atI xs i = some v) (h : Q v H) : rIx K (.ref p) (.int i) H Q := .inr (.inl ⟨p, xs, i, v, rfl, rfl, h1, h2, h⟩)
theorem rd_sl {r : V → Option Int → Option Int → Hp → VK → Prop} {te : TE} {tl th : TO} (h : te σ H fun x H1 => tl σ H1 fun l H2 => th σ H2 fun u H3 => r x l u H3 Q) : tSl r te tl th σ H Q := h
theorem rd_nopart {QO : Option Int → Hp → Prop} (h : QO none H) : tNoPart σ H QO := h
theorem rd_part {t : TE} {QO : Option Int → Hp → Prop} (h : t σ H fun x H1 => ∃ i, x = .int i ∧ QO (some i) H1) : tPart t σ H QO := h
theorem rd_slL {K : PySem.W.Frag} {a : Addr} {xs : List V} {lo hi : Option Int} (h1 : SqL K H a xs) (h : ∀ p, H p = none → Q (.ref p) (upd H p (.lst (cutV xs lo hi)))) : rSlG K (.ref a) lo hi H Q := .inl ⟨a, xs, rfl, h1, h⟩
theorem rd_andV {ta tb : TE} (h : ta σ H fun x H1 => ∃ c, x = .bl c ∧ if c = true then tb σ H1 Q else Q (.bl false) H1) : tAndV ta tb σ H Q := h
theorem rd_orV {ta tb : TE} (h : ta σ H fun x H1 => ∃ c, x = .bl c ∧ if c = true then Q (.bl true) H1 else tb σ H1 Q) : tOrV ta tb σ H Q := h
theorem rd_notV {ta : TE} (h : ta σ H fun x H1 => ∃ c, x = .bl c ∧ Q (.bl (!c)) H1) : tNotV ta σ H Q := h
theorem rd_ifE {t : TT} {ta tb : TE} (h : t σ H fun c H1 => if c = true then ta σ H1 Q else tb σ H1 Q) : tIf t ta tb σ H Q := h
theorem rd_chain {r r' : R2} {ta tb tc : TE} (h : ta σ H fun x H1 => tb σ H1 fun y H2 => r x y H2 fun z H3 => ∃ k, z = .bl k ∧ (if k = true then tc σ H3 fun w' H4 => r' y w' H4 Q else Q (.bl false) H3)) : tChain r r' ta tb tc σ H Q := h
-- tests
theorem rd_test {t : TE} (h : t σ H fun x H' => ∃ k, x = .bl k ∧ QT k H') : tTest t σ H QT := h
theorem rd_tB {t : TE} (h : t σ H fun x H' => ∃ k, x = .bl k ∧ QT k H') : tB t σ H QT := h
theorem rd_and {t u : TT} (h : t σ H fun c H1 => if c = true then u σ H1 QT else QT false H1) : tAnd t u σ H QT := h
theorem rd_or {t u : TT} (h : t σ H fun c H1 => if c = true then QT true H1 else u σ H1 QT) : tOr t u σ H QT := h
theorem rd_not {t : TT} (h : t σ H fun c H1 => QT (!c) H1) : tNot t σ H QT := h
theorem rd_yes (h : QT true H) : tYes σ H QT := h
theorem rd_bl {b : Bool} {P : Bool → Prop} (h : P b) : ∃ k, V.bl b = V.bl k ∧ P k := ⟨b, rfl, h⟩
theorem rd_int1 {i : Int} {P : Int → Prop} (h : P i) : ∃ k, V.int i = V.int k ∧ P k := ⟨i, rfl, h⟩
theorem rd_l1 {i : Int} {P : Int → Prop} (h : P i) : ∃ k, [V.int i] = [V.int k] ∧ P k := ⟨i, rfl, h⟩
theorem rd_l2 {i j : Int} {P : Int → Int → Prop} (h : P i j) : ∃ k l, [V.int i, V.int j] = [V.int k, V.int l] ∧ P k l := ⟨i, j, rfl, h⟩
theorem rd_bl2 {b : Bool} {P : Bool → Prop} {R : Prop} (h : P b) : R ∨ ∃ k, [V.bl b] = [V.bl k] ∧ P k := .inr ⟨b, rfl, h⟩
theorem rd_nil (h : QA [] H) : tNil σ H QA := h
theorem rd_cons {ta : TE} {tr : TA} (h : ta σ H fun x H1 => tr σ H1 fun xs H2 => QA (x :: xs) H2) : tCons ta tr σ H QA := h
theorem rd_tup {t : TA} (h : t σ H fun xs H1 => xs.length ≤ sizeLine ∧ ∀ p, H1 p = none → Q (.ref p) (upd H1 p (.tup xs))) : tTup t σ H Q := h
theorem rd_lst {t : TA} (h : t σ H fun xs H1 => xs.length ≤ sizeLine ∧ ∀ p, H1 p = none → Q (.ref p) (upd H1 p (.lst xs))) : tLst t σ H Q := h
theorem rd_call {sp : Sp} {E : XK} {t : TA} (h : t σ H fun vs H1 => sp vs H1 Q E) : tCall sp [] E t σ H Q := by
  unfold tCall
  simpa only [List.append_nil] using h
theorem rd_cb {r : List V → Hp → VK → Prop} {t : TA} (h : t σ H fun vs H1 => r vs H1 Q) : tCB r t σ H Q := h
theorem rd_comp {wi : TI} {k : Nat} {idx : List Nat} {g : TG} {tt : TT} {te : TE} (h : wi σ H fun J H1 => tCompW J (cσ k idx σ) g tt te (fun ys H' => ∀ p, H' p = none → Q (.ref p) (upd H' p (.lst ys))) H1) : tComp wi k idx g tt te σ H Q := h
theorem rd_iRng1 {ta : TA} {R : It → Hp → Prop} (h : ta σ H fun vs H1 => ∃ j : Int, vs = [.int j] ∧ -(2 ^ 62) ≤ j ∧ j < 2 ^ 62 ∧ R (Itr 0 j.toNat) H1) : iRng1 ta σ H R := h
theorem rd_iRng2 {ta : TA} {R : It → Hp → Prop} (h : ta σ H fun vs H1 => ∃ i j : Int, vs = [.int i, .int j] ∧ (-(2 ^ 62) ≤ i ∧ i < 2 ^ 62 ∧ -(2 ^ 62) ≤ j ∧ j < 2 ^ 62) ∧ R (Itr i (j - i).toNat) H1) : iRng2 ta σ H R := h
theorem rd_fld {K : PySem.W.Frag} {ta : TE} {f : Str} (h : ta σ H fun x H1 => ∃ a C dx fs v, x = .ref a ∧ H1 a = some (.ins C dx fs) ∧ Cls K C ∧ NoAttr K C f ∧ fs.lookup f = some v ∧ Q v H1) : tFld K ta f σ H Q := h
theorem rd_size {n : Nat} {P : Prop} (h1 : n ≤ sizeLine) (h : P) : n ≤ sizeLine ∧ P := ⟨h1, h⟩
theorem sz_le {n : Nat} (h : n ≤ 16777216) : n ≤ sizeLine := by rw [sizeLine_eq]; exact h
end
section
variable {A B : Prop} {c : Prop} [Decidable c]
theorem rd_dec (h1 : c → A) (h2 : ¬ c → B) : if decide c = true then A else B := by
  by_cases h : c
  · rw [if_pos (decide_eq_true h)]; exact h1 h
  · rw [if_neg (by simpa using h)]; exact h2 h
theorem rd_decN (h1 : ¬ c → A) (h2 : c → B) : if (!decide c) = true then A else B := by
  by_cases h : c
  · rw [if_neg (by simpa using h)]; exact h2 h
  · rw [if_pos (by simpa using h)]; exact h1 h
theorem rd_bool {b : Bool} (h1 : b = true → A) (h2 : b = false → B) : if b = true then A else B := by
  cases b
  · exact iteF (h2 rfl)
  · exact iteT (h1 rfl)
end
def blkOk (sc : Scope) (NX : List Str) (scope : Scope) (N : List Str) (k : Nat) (idx : List Nat) : Bool :=
  scope.names.all (fun y => !(y.2 == .cell)) && scope.names.all (fun y => !(y.2 == .local) || scope.names.lookup y.1 == some .local) &&
  scope.names.all (fun y => !(y.2 == .free) || (sc.names.lookup y.1 == some .cell || sc.names.lookup y.1 == some .free)) &&
  decide N.Nodup && decide (N.length = k + idx.length) && (List.range idx.length).all fun i =>
    match (N.drop k)[i]?, idx[i]? with
    | some x, some j => decide (NX[j]? = some x) && scope.names.lookup x == some .free
    | _, _ => false
theorem blk_sc {X : Cx} {scope : Scope} {N : List Str} {k : Nat} {idx : List Nat} {sc : Scope} {NX : List Str} (hsc : X.env.scope = sc) (hN : X.N = NX) (hk : scope.kind = .function) (h : blkOk sc NX scope N k idx = true) : BlkScope X scope N k idx := by
  unfold blkOk at h
  simp only [Bool.and_eq_true, decide_eq_true_eq] at h
  obtain ⟨⟨⟨⟨⟨h1, h2⟩, h3⟩, h4⟩, h5⟩, h6⟩ := h
  rw [List.all_eq_true] at h1 h2 h3 h6
  refine ⟨hk, fun y hy e => ?_, fun y hy e => ?_, fun y hy e => ?_, h4, h5, fun i x e => ?_⟩
  · have := h1 y hy
    rw [e] at this
    simp at this
  · have := h2 y hy
    rw [e] at this
    simpa using this
  · have := h3 y hy
    rw [e] at this
    show X.env.scope.names.lookup y.1 = _ ∨ X.env.scope.names.lookup y.1 = _
    rw [hsc]
    simpa using this
  · have hi : i < (N.drop k).length := (List.getElem?_eq_some_iff.mp e).1
    have hi2 : i < idx.length := by rw [List.length_drop] at hi; omega
    have q := h6 i (List.mem_range.mpr hi2)
    rw [e, List.getElem?_eq_getElem hi2] at q
    simp only [Bool.and_eq_true, decide_eq_true_eq] at q
    exact ⟨idx[i], List.getElem?_eq_getElem hi2, by rw [hN]; exact q.1, by simpa using q.2⟩
theorem ne_none {H : Hp} {a b : Addr} {o : HO} (h' : H b = none) (h : H a = some o) : a ≠ b := ne_of_none h h'
theorem Same.at {H H' : Hp} {b : Addr} {o : HO} (e : Same H H') (h : H b = some o) : H' b = some o := e b o h
def Keep (p : Addr) (H H' : Hp) : Prop := ∀ b o, H b = some o → b ≠ p → H' b = some o
theorem Keep.at {p : Addr} {H H' : Hp} {b : Addr} {o : HO} (e : Keep p H H') (h : H b = some o) (n : b ≠ p) : H' b = some o := e b o h n
theorem Same.new {H : Hp} {p : Addr} {o : HO} (h : H p = none) : Same H (upd H p o) := fun b u e => by rw [upd_ne (ne_of_none e h)]; exact e
theorem Keep.upd {H : Hp} {p : Addr} {o : HO} : Keep p H (upd H p o) := fun b u e n => by rw [upd_ne n]; exact e
theorem Keep.trans {p : Addr} {H H1 H2 : Hp} (a : Keep p H H1) (b : Keep p H1 H2) : Keep p H H2 := fun c o h n => b c o (a c o h n) n
theorem Same.keep {p : Addr} {H H' : Hp} (a : Same H H') : Keep p H H' := fun c o h _ => a c o h
end L2
namespace L2
open PySem PySem.Spec PyProof.Rows
section
variable {σ : St} {H : Hp} {nx bk ct : St → Hp → Prop} {rt : VK}
theorem rd_seqJ {t u : TS} (J : St → Hp → Prop) (h1 : ∀ N : St → Hp → Prop, (∀ σ' H', J σ' H' → N σ' H') → t ⟨N, rt, bk, ct⟩ σ H) (h2 : ∀ σ' H', J σ' H' → u ⟨nx, rt, bk, ct⟩ σ' H') : tSeq t u ⟨nx, rt, bk, ct⟩ σ H := h1 _ h2
end
theorem comp_pure {K : PySem.W.Frag} {a : Addr} {xs : List V} {σ₀ : St} {g : TG} {tt : TT} {te : TE} {R : List V → Hp → Prop} {H : Hp} (f : V → V) (hS : SqL K H a xs) (hz : xs.length ≤ sizeLine)
    (hs : ∀ x (N : V → Hp → Prop) (N' : Hp → Prop), x ∈ xs → N (f x) H → g x σ₀ H fun σ2 H2 => tt σ2 H2 fun b H3 => if b = true then te σ2 H3 fun y H4 => N y H4 else N' H3)
    (hd : R (xs.map f) H) : tCompW (Itl K a) σ₀ g tt te R H := by
  refine comp_list (fun i ys H' => H' = H ∧ ys = (xs.take i).map f) ⟨rfl, by simp⟩ hz (fun i ys H' hi ⟨e1, e2⟩ => ?_) (fun i x ys H' hx ⟨e1, e2⟩ => ?_) (fun ys H' ⟨e1, e2⟩ => ?_)
  · subst e1 e2
    exact ⟨hS, by simp; omega⟩
  · subst e1 e2
    refine hs x (fun y H4 => H4 = H' ∧ (xs.take i).map f ++ [y] = (xs.take (i + 1)).map f) (fun H3 => H3 = H' ∧ (xs.take i).map f = (xs.take (i + 1)).map f) (List.mem_of_getElem? hx) ⟨rfl, ?_⟩
    rw [List.take_add_one, hx, List.map_append]
    rfl
  · subst e1 e2
    rw [List.take_length]
    exact hd
theorem comp_pureR {lo : Int} {n : Nat} {σ₀ : St} {g : TG} {tt : TT} {te : TE} {R : List V → Hp → Prop} {H : Hp} (f : Nat → V) (hz : n ≤ sizeLine)
    (hs : ∀ i (N : V → Hp → Prop) (N' : Hp → Prop), i < n → N (f i) H → g (.int (lo + i)) σ₀ H fun σ2 H2 => tt σ2 H2 fun b H3 => if b = true then te σ2 H3 fun y H4 => N y H4 else N' H3)
    (hd : R ((List.range n).map f) H) : tCompW (Itr lo n) σ₀ g tt te R H := by
  refine comp_range (fun i ys H' => H' = H ∧ ys = (List.range i).map f) ⟨rfl, by simp⟩ hz (fun i ys H' hi ⟨e1, e2⟩ => ?_) (fun i ys H' hi ⟨e1, e2⟩ => ?_) (fun ys H' ⟨e1, e2⟩ => ?_)
  · subst e1 e2
    simp
  · subst e1 e2
    refine hs i (fun y H4 => H4 = H' ∧ (List.range i).map f ++ [y] = (List.range (i + 1)).map f) (fun H3 => H3 = H' ∧ (List.range i).map f = (List.range (i + 1)).map f) hi ⟨rfl, ?_⟩
    rw [List.range_succ, List.map_append]
    rfl
  · subst e1 e2
    exact hd
theorem pe_gint {X : Cx} {x : Str} {n : Int} {pos : Pos} (hg : Gl X x) (hm : ∃ t, X.mg x = some (.int n t)) (hd : (x == ("__debug__" : Str)) = false := by decide) : PE X (.Name x pos) (tC (.int n)) := by
  obtain ⟨t, hm⟩ := hm
  exact pe_glob (v := .int n) hg hm ⟨t, rfl⟩ hd
section
variable {X : Cx} {K : PySem.W.Frag} {H : Hp} {Q : VK}
def rLen (K : PySem.W.Frag) : List V → Hp → VK → Prop := fun xs H Q => ∃ x n, xs = [x] ∧ LenV K x H n ∧ Q (.int n) H
theorem call_lenG : CallR X (.builtin "len") (rLen X.K) := call_len
theorem rd_lenL {p : Addr} {xs : List V} (h : SqL K H p xs) (q : Q (.int xs.length) H) : rLen K [.ref p] H Q := ⟨_, _, rfl, .inl ⟨_, h, rfl⟩, q⟩
theorem rd_lenT {p : Addr} {xs : List V} (h : SqT K H p xs) (q : Q (.int xs.length) H) : rLen K [.ref p] H Q := ⟨_, _, rfl, .inr ⟨_, h, rfl⟩, q⟩
def rAbs : List V → Hp → VK → Prop := fun xs H Q => ∃ i, xs = [.int i] ∧ Q (.int (if i < 0 then -i else i)) H
theorem call_absG : CallR X (.builtin "abs") rAbs := call_abs
theorem rd_abs {i : Int} (h : Q (.int (if i < 0 then -i else i)) H) : rAbs [.int i] H Q := ⟨i, rfl, h⟩
def rMax : List V → Hp → VK → Prop := fun xs H Q => ∃ i j, xs = [.int i, .int j] ∧ Q (.int (if j > i then j else i)) H
theorem call_maxG (hc : X.calm = true) : CallR X (.builtin "max") rMax := call_max2 hc
theorem rd_max {i j : Int} (h : Q (.int (max i j)) H) : rMax [.int i, .int j] H Q := ⟨i, j, rfl, by
  rw [show (if j > i then j else i) = max i j by split <;> omega]; exact h⟩
def rMin : List V → Hp → VK → Prop := fun xs H Q => ∃ i j, xs = [.int i, .int j] ∧ Q (.int (if j < i then j else i)) H
theorem call_minG (hc : X.calm = true) : CallR X (.builtin "min") rMin := call_min2 hc
theorem rd_min {i j : Int} (h : Q (.int (min i j)) H) : rMin [.int i, .int j] H Q := ⟨i, j, rfl, by
  rw [show (if j < i then j else i) = min i j by split <;> omega]; exact h⟩
def rInt1 : List V → Hp → VK → Prop := fun xs H Q => (∃ i, xs = [.int i] ∧ Q (.int i) H) ∨ ∃ k, xs = [.bl k] ∧ Q (.int (if k then 1 else 0)) H
theorem call_intG : CallR X (.type "int") rInt1 := call_int1
theorem rd_intI {i : Int} (h : Q (.int i) H) : rInt1 [.int i] H Q := .inl ⟨i, rfl, h⟩
theorem rd_intB {b : Bool} (h : Q (.int (if b then 1 else 0)) H) : rInt1 [.bl b] H Q := .inr ⟨b, rfl, h⟩
def rIsi (K : PySem.W.Frag) : List V → Hp → VK → Prop := fun xs H Q => ∃ x c b, xs = [x, c] ∧ IsI K H x c b ∧ Q (.bl b) H
theorem call_isiG : CallR X (.builtin "isinstance") (rIsi X.K) := call_isi
theorem rd_isi {x c : V} {b : Bool} (h1 : IsI K H x c b) (h : Q (.bl b) H) : rIsi K [x, c] H Q := ⟨x, c, b, rfl, h1, h⟩
def rListOf (K : PySem.W.Frag) : List V → Hp → VK → Prop := fun xs H Q => ∃ p ys, xs = [.ref p] ∧ (SqL K H p ys ∨ SqT K H p ys) ∧ ∀ l, H l = none → Q (.ref l) (upd H l (.lst ys))
theorem call_listG : CallR X (.type "list") (rListOf X.K) := call_list_of
theorem rd_listL {p : Addr} {ys : List V} (h1 : SqL K H p ys) (h : ∀ l, H l = none → Q (.ref l) (upd H l (.lst ys))) : rListOf K [.ref p] H Q := ⟨p, ys, rfl, .inl h1, h⟩
end
theorem eqN_nil {K : PySem.W.Frag} {H : Hp} {p q : Addr} {xs : List V} (h1 : SqL K H p xs) (h2 : SqL K H q []) : EqN K H 8 (.ref p) (.ref q) xs.isEmpty :=
  .inr ⟨p, q, xs, [], fun _ => true, rfl, rfl, .inl ⟨h1, h2⟩, fun j u v _ e => by simp at e, by cases xs <;> simp⟩
theorem cut_head {xs : List V} {n : Nat} (h : xs.length ≤ n) : cutV xs none (some (n : Int)) = xs := by
  unfold cutV
  rw [HT.sIx_none, HT.sIx_nat, Nat.min_eq_right h, List.drop_zero, Nat.sub_zero, List.take_length]
end L2
namespace L2
open PySem PySem.Spec PyProof.Rows
section
variable {σ : St} {H : Hp} {nx : St → Hp → Prop} {rt : VK} {g : TG} {tb : TS} {Q : VK}
theorem rf_range {lo : Int} {n : Nat} (Pv : Nat → St → Hp → Prop) (h0 : Pv 0 σ H)
    (hs : ∀ i σ H, i < n → Pv i σ H → g (.int (lo + i)) σ H fun σ2 H2 => tb ⟨Pv (i + 1), rt, nx, Pv (i + 1)⟩ σ2 H2) (hd : ∀ σ H, Pv n σ H → nx σ H) :
    ∃ W : Nat → Nat → St → Hp → Prop, (∃ m, W 0 m σ H) ∧ ∀ i m σ H, W i m σ H →
      ((Itr lo n).stop i H ∧ nx σ H) ∨ ((Itr lo n).go i H ∧ ∃ N : St → Hp → Prop, (∀ σ' H', N σ' H' → ∃ m', m' < m ∧ W (i + 1) m' σ' H') ∧ ∀ x H', (Itr lo n).yld i H x H' → g x σ H' fun σ2 H2 => tb ⟨N, rt, nx, N⟩ σ2 H2) :=
  for_range (D := ⟨nx, rt, fun _ _ => False, fun _ _ => False⟩) Pv h0 hs hd
theorem rd_eqI {K : PySem.W.Frag} {i j : Int} (h : Q (.bl (decide (i = j))) H) : rEqG K (.int i) (.int j) H Q := ⟨_, .inl ⟨rfl, rfl, rfl⟩, h⟩
theorem rd_neI {K : PySem.W.Frag} {i j : Int} (h : Q (.bl (!decide (i = j))) H) : rNeG K (.int i) (.int j) H Q := ⟨_, .inl ⟨rfl, rfl, rfl⟩, h⟩
end
end L2
namespace L2
open PySem PySem.Spec PyProof.Rows
def noStar : Expr → Bool
  | .Starred _ _ => false
  | _ => true
theorem star_cons {e : Expr} {es : List Expr} {env : Env} (h : noStar e = true) : starEach (e :: es) env = (false, eval e env) :: starEach es env := by
  cases e <;> first | rfl | exact absurd h Bool.false_ne_true
theorem back_any {env : Env} {pos : Pos} : ∀ {es : List Expr}, es.all noStar = true → (backTo pos (starEach es env)).any (·.1) = false
  | [], _ => rfl
  | e :: es, h => by
    rw [List.all_cons, Bool.and_eq_true] at h
    rw [star_cons h.1]
    have ih := back_any (env := env) (pos := pos) h.2
    unfold backTo at ih ⊢
    rw [List.map_cons, List.any_cons]
    rw [ih]
    rfl
section
variable {X : Cx} {CX : CXT} {k : Nat} {f C : Addr} {fd : FuncData} {ps : List Str} {sp : Sp} {dvs : List V} {ds : List Value} {E : XK} {x m : Str} {p pos apos : Pos} {e o : Expr} {es : List Expr} {ta te : TE} {t : TA}
theorem pa_c (ha : PE X e te) (hr : PA X es t) (hs : noStar e = true := by rfl) : PA X (e :: es) (tCons te t) := pa_cons ha hr (star_cons hs)
theorem all_tl {e : Expr} {es : List Expr} (h : (e :: es).all noStar = true) : noStar e = true ∧ es.all noStar = true := by
  rw [List.all_cons, Bool.and_eq_true] at h
  exact h
theorem pe_callN (F : FnOk X.prog X.w X.K X.mg X.base CX k f fd ps sp) (hr : Room k X.A) (hg : Gl X x) (hm : X.mg x = some (.ref f)) (hk : PySem.W.keepIn X.K (.ref f) = true) (hb : Binds X.K fd ps ds) (hd : Vals dvs ds) (hx : Passes CX X E)
    (ha : PA X (e :: es) t) (hn : (e :: es).all noStar = true := by rfl) (hdb : (x == ("__debug__" : Str)) = false := by decide) : PE X (.Call (.Name x p) (e :: es) [] pos) (tCall sp dvs E t) :=
  pe_call F hr hg hm hk hb hd hx ha hdb (star_cons (all_tl hn).1) (back_any (all_tl hn).2)
theorem pe_makeN (M : Mk X.K C f) (F : FnOk X.prog X.w X.K X.mg X.base CX k f fd ps sp) (hr : Room (k + 1) X.A) (hg : Gl X x) (hm : X.mg x = some (.ref C)) (hb : Binds X.K fd ps ds) (hd : Vals dvs ds) (hx : Passes CX X E)
    (ha : PA X (e :: es) t) (hn : (e :: es).all noStar = true := by rfl) (hdb : (x == ("__debug__" : Str)) = false := by decide) : PE X (.Call (.Name x p) (e :: es) [] pos) (tMake C sp dvs E t) :=
  pe_make M F hr hg hm hb hd hx ha hdb (star_cons (all_tl hn).1) (back_any (all_tl hn).2)
variable {id T : String} {r : List V → Hp → VK → Prop}
theorem pe_callBN (hc : CallR X (.builtin id) r) (hg : Gl X x) (hm : X.mg x = none) (hv : bootBuiltins x = some (.builtin id)) (ha : PA X (e :: es) t) (hn : (e :: es).all noStar = true := by rfl) (hne : x ≠ "__name__" := by decide) (hdb : (x == ("__debug__" : Str)) = false := by decide) :
    PE X (.Call (.Name x p) (e :: es) [] pos) (tCB r t) := pe_callB hc hg hm hv ha hne hdb (star_cons (all_tl hn).1) (back_any (all_tl hn).2)
theorem pe_callTyN (hc : CallR X (.type T) r) (hg : Gl X x) (hm : X.mg x = none) (hv : bootBuiltins x = some (.type T)) (ha : PA X (e :: es) t) (hn : (e :: es).all noStar = true := by rfl) (hne : x ≠ "__name__" := by decide) (hdb : (x == ("__debug__" : Str)) = false := by decide) :
    PE X (.Call (.Name x p) (e :: es) [] pos) (tCB r t) := pe_callTy hc hg hm hv ha hne hdb (star_cons (all_tl hn).1) (back_any (all_tl hn).2)
variable {tg a b : Expr}
theorem pi_range1N (hg : Gl X "range") (hm : X.mg "range" = none) (ha : PA X [a] t) (hn : noStar a = true := by rfl) : PI X tg (.Call (.Name "range" p) [a] [] pos) (iRng1 t) := pi_range1 hg hm ha (star_cons hn)
theorem pi_range2N (hg : Gl X "range") (hm : X.mg "range" = none) (ha : PA X [a, b] t) (hn : noStar a = true := by rfl) (hn2 : noStar b = true := by rfl) : PI X tg (.Call (.Name "range" p) [a, b] [] pos) (iRng2 t) :=
  pi_range2 hg hm ha (by rw [star_cons hn, star_cons hn2]; rfl) (star_cons hn2)
end
end L2
namespace L2
open PySem PySem.Spec PyProof.Rows
section
variable {X : Cx} {pos : Pos} {x1 : Nat} {e1 e2 e3 e4 e5 e6 e7 e8 : Expr} {t1 t2 t3 t4 t5 t6 t7 t8 : TE}
theorem lst1 (h1 : PE X e1 t1) (n1 : noStar e1 = true := by rfl) : PE X (.List [e1] pos) (tLst (tCons t1 tNil)) := pe_lst (pa_c h1 pa_nil n1)
theorem lst2 (h1 : PE X e1 t1) (h2 : PE X e2 t2) (n1 : noStar e1 = true := by rfl) (n2 : noStar e2 = true := by rfl) : PE X (.List [e1, e2] pos) (tLst (tCons t1 (tCons t2 tNil))) := pe_lst (pa_c h1 (pa_c h2 pa_nil n2) n1)
theorem tup2 {k1} (h1 : PE X e1 t1) (h2 : PE X e2 t2) (n1 : noStar e1 = true := by rfl) (n2 : noStar e2 = true := by rfl) : PE X (.Tuple [e1, e2] k1 pos) (tTup (tCons t1 (tCons t2 tNil))) := pe_tup (pa_c h1 (pa_c h2 pa_nil n2) n1)
theorem lst3 (h1 : PE X e1 t1) (h2 : PE X e2 t2) (h3 : PE X e3 t3) (n1 : noStar e1 = true := by rfl) (n2 : noStar e2 = true := by rfl) (n3 : noStar e3 = true := by rfl) : PE X (.List [e1, e2, e3] pos) (tLst (tCons t1 (tCons t2 (tCons t3 tNil)))) := pe_lst (pa_c h1 (pa_c h2 (pa_c h3 pa_nil n3) n2) n1)
theorem lst4 (h1 : PE X e1 t1) (h2 : PE X e2 t2) (h3 : PE X e3 t3) (h4 : PE X e4 t4) (n1 : noStar e1 = true := by rfl) (n2 : noStar e2 = true := by rfl) (n3 : noStar e3 = true := by rfl) (n4 : noStar e4 = true := by rfl) : PE X (.List [e1, e2, e3, e4] pos) (tLst (tCons t1 (tCons t2 (tCons t3 (tCons t4 tNil))))) := pe_lst (pa_c h1 (pa_c h2 (pa_c h3 (pa_c h4 pa_nil n4) n3) n2) n1)
theorem tup4 {k1} (h1 : PE X e1 t1) (h2 : PE X e2 t2) (h3 : PE X e3 t3) (h4 : PE X e4 t4) (n1 : noStar e1 = true := by rfl) (n2 : noStar e2 = true := by rfl) (n3 : noStar e3 = true := by rfl) (n4 : noStar e4 = true := by rfl) : PE X (.Tuple [e1, e2, e3, e4] k1 pos) (tTup (tCons t1 (tCons t2 (tCons t3 (tCons t4 tNil))))) := pe_tup (pa_c h1 (pa_c h2 (pa_c h3 (pa_c h4 pa_nil n4) n3) n2) n1)
theorem lst5 (h1 : PE X e1 t1) (h2 : PE X e2 t2) (h3 : PE X e3 t3) (h4 : PE X e4 t4) (h5 : PE X e5 t5) (n1 : noStar e1 = true := by rfl) (n2 : noStar e2 = true := by rfl) (n3 : noStar e3 = true := by rfl) (n4 : noStar e4 = true := by rfl) (n5 : noStar e5 = true := by rfl) : PE X (.List [e1, e2, e3, e4, e5] pos) (tLst (tCons t1 (tCons t2 (tCons t3 (tCons t4 (tCons t5 tNil)))))) := pe_lst (pa_c h1 (pa_c h2 (pa_c h3 (pa_c h4 (pa_c h5 pa_nil n5) n4) n3) n2) n1)
theorem tup5 {k1} (h1 : PE X e1 t1) (h2 : PE X e2 t2) (h3 : PE X e3 t3) (h4 : PE X e4 t4) (h5 : PE X e5 t5) (n1 : noStar e1 = true := by rfl) (n2 : noStar e2 = true := by rfl) (n3 : noStar e3 = true := by rfl) (n4 : noStar e4 = true := by rfl) (n5 : noStar e5 = true := by rfl) : PE X (.Tuple [e1, e2, e3, e4, e5] k1 pos) (tTup (tCons t1 (tCons t2 (tCons t3 (tCons t4 (tCons t5 tNil)))))) := pe_tup (pa_c h1 (pa_c h2 (pa_c h3 (pa_c h4 (pa_c h5 pa_nil n5) n4) n3) n2) n1)
theorem lst7 (h1 : PE X e1 t1) (h2 : PE X e2 t2) (h3 : PE X e3 t3) (h4 : PE X e4 t4) (h5 : PE X e5 t5) (h6 : PE X e6 t6) (h7 : PE X e7 t7) (n1 : noStar e1 = true := by rfl) (n2 : noStar e2 = true := by rfl) (n3 : noStar e3 = true := by rfl) (n4 : noStar e4 = true := by rfl) (n5 : noStar e5 = true := by rfl) (n6 : noStar e6 = true := by rfl) (n7 : noStar e7 = true := by rfl) : PE X (.List [e1, e2, e3, e4, e5, e6, e7] pos) (tLst (tCons t1 (tCons t2 (tCons t3 (tCons t4 (tCons t5 (tCons t6 (tCons t7 tNil)))))))) := pe_lst (pa_c h1 (pa_c h2 (pa_c h3 (pa_c h4 (pa_c h5 (pa_c h6 (pa_c h7 pa_nil n7) n6) n5) n4) n3) n2) n1)
end
end L2
namespace L2
open PySem PySem.Spec PyProof.Rows
section
variable {X : Cx} {pins : List (Addr × Obj)} {σ : St} {H : Hp} {s : Shared} {h' : Heap}
theorem Inv.turnedNew {t' : Nat} {ch : List Addr} {T : Addr} {o : HO} (I : Inv X pins σ H s) (k : ∀ b u, b ∉ ch → s.heap.get? b = some u → h'.get? b = some u)
    (hch : ∀ b ∈ ch, FpOk X pins H b) (hT : s.heap.objs.size ≤ T) (new : ObjOk X.prog X.w (upd H T o) h' T o) : Inv X pins σ (upd H T o) { s with heap := h', toks := t' } := by
  have hn : H T = none := I.hok.fresh hT
  have nit : ∀ b u, H b = some u → b ∉ ch := fun b u e z => by rw [(hch b z).1] at e; cases e
  have neT : ∀ b u, H b = some u → b ≠ T := fun b u e => ne_of_none e hn
  refine I.step (g' := s.gens) (d' := s.drawn) (ch := ch) (fun b hb => ?_) (fun b u _ _ hc e _ => k b u hc e) (fun b u _ _ hc e _ => ⟨u.slots, k b u hc e⟩) (fun b u hc e n => ?_)
    (fun b u hc e => ⟨u, k b u hc e⟩) (fun b xs e => ?_) (fun b u v e => ?_) (fun b ps e => ⟨#[], ?_⟩) (fun m hm => ?_) (fun b u e => ?_) I.bare
  · obtain ⟨f0, f1, f2, f3, f4, f5⟩ := hch b hb
    exact ⟨f3, f1, f4, f5⟩
  · rw [upd_ne (Nat.ne_of_lt (Nat.lt_of_lt_of_le (Heap.lt_size e) hT))]; exact n
  · rw [upd_ne (neT _ _ e)]; exact e
  · rw [upd_ne (neT _ _ e)]; exact e
  · rw [upd_ne (neT _ _ e), e]; simp
  · obtain ⟨u, es, ep, ho, r⟩ := hm
    exact ⟨u, es, ep, k _ u (fun z => (hch _ z).2.1 rfl) ho, r⟩
  · by_cases hb : b = T
    · subst hb; rw [upd_same] at e; cases e; exact new
    · rw [upd_ne hb] at e
      refine (I.hok b u e).stay (fun c v hc q => k c v ?_ q) (fun c q => by rw [upd_ne (ne_of_none q hn)]; exact q) fun c xs _ q => by rw [upd_ne (ne_of_none q hn)]; exact q
      rcases hc with z | z
      · rw [z]; exact nit b u e
      · exact nit c _ z
end
def Ite (K : PySem.W.Frag) (a : Addr) : It :=
  ⟨fun i H => ∃ xs x, SqL K H a xs ∧ xs[i]? = some x, fun i H x H' => ∃ T v, H T = none ∧ x = .ref T ∧ H' = upd H T (.tup [.int i, v]) ∧ ∀ xs, SqL K H a xs → xs[i]? = some v, fun i H => ∃ xs, SqL K H a xs ∧ xs.length ≤ i⟩
theorem turn_enum {P : Program} {w : World} {K : PySem.W.Frag} {elts : List Expr} {x1 : Nat} {tp : Pos} (a e it : Addr) (hei : e ≠ it) :
    Turn P w K (.Tuple elts x1 tp) (Ite K a) [e, it] e (fun i h => (∃ old, IsEnum h e it ((i : Nat) : Int) old) ∧ h.IsListIter it a i) where
  mem := by simp
  obj := fun i h st b hb => by
    obtain ⟨⟨old, he⟩, st⟩ := st
    rcases List.mem_cons.mp hb with z | hb
    · subst z
      exact ⟨_, he, fun v z => by cases z⟩
    · have z : b = it := by simpa using hb
      subst z
      obtain ⟨o, e, c, d⟩ := st
      exact ⟨o, e, fun v z => by rw [d] at z; cases z⟩
  keep := fun i h h' st k => by
    obtain ⟨⟨old, he⟩, st⟩ := st
    exact ⟨⟨old, k e (by simp) _ he⟩, st.at fun o q => k it (by simp) o q⟩
  item := by
    intro X hP hw hK hc i pins s σ H E I hf st hg
    subst hP hw hK
    obtain ⟨⟨old, he⟩, st⟩ := st
    obtain ⟨xs, x, hq, hx⟩ := hg
    obtain ⟨its, rv, p, hz⟩ := I.list hq
    obtain ⟨u, hu, ru⟩ := rv.get hx
    have helt : e < s.heap.objs.size := Heap.lt_size he
    have hilt : it < s.heap.objs.size := by obtain ⟨_, z, _⟩ := id st; exact Heap.lt_size z
    refine wpAny_pyNext_enum_item he st p.isList (x := u) (by simpa using hu) hei fun h1 ho hit1 hT hsz hk => ?_
    refine ⟨_, rfl, wpAny_letOwnedTupleGo_enum ho fun h2 he2 hs2 => ?_⟩
    replace hs2 : Heap.SameBut e h1 h2 := hs2
    have hT2 : h2.IsTuple s.heap.objs.size #[.int i s.toks, u] := ⟨_, (hs2.2 _ (Nat.ne_of_gt helt)).trans hT, rfl, _, rfl⟩
    have kk : ∀ b o, b ∉ [e, it] → s.heap.get? b = some o → h2.get? b = some o := fun b o hb q => by
      have n1 : b ≠ e := fun z => hb (by simp [z])
      have n2 : b ≠ it := fun z => hb (by simp [z])
      exact (hs2.2 b n1).trans (hk b o n1 n2 q)
    have I2 : Inv X pins σ (upd H s.heap.objs.size (.tup [.int i, x])) { s with heap := h2, toks := s.toks + 1 } :=
      I.turnedNew kk hf (Nat.le_refl _) (show ObjOk X.prog X.w _ h2 _ (.tup [.int i, x]) from ⟨sz_le (by simp), [.int i s.toks, u], .cons ⟨_, rfl⟩ (.cons ru .nil), hT2⟩)
    have hfr : H s.heap.objs.size = none := I.hok.fresh (Nat.le_refl _)
    refine ⟨.ref s.heap.objs.size, _, I2, rfl, ⟨_, x, hfr, rfl, rfl, fun ys hy => by rw [I.list_inj hy hq]; exact hx⟩, ⟨⟨u, ?_⟩, ?_⟩, fun b hb => ?_⟩
    · have e1 : ((i + 1 : Nat) : Int) = (i : Int) + 1 := by push_cast; rfl
      rw [e1]
      exact he2
    · exact hit1.at fun o q => (hs2.2 it hei.symm).trans q
    · have hlt : b < s.heap.objs.size := by
        rcases List.mem_cons.mp hb with z | hb
        · rw [z]; exact helt
        · rw [show b = it by simpa using hb]; exact hilt
      rw [upd_ne (Nat.ne_of_lt hlt)]
      exact (hf b hb).1
  done := by
    intro X hP hw hK hc i pins s σ H E I hf st hg
    subst hP hw hK
    obtain ⟨⟨old, he⟩, st⟩ := st
    obtain ⟨xs, hq, hx⟩ := hg
    obtain ⟨its, rv, p, hz⟩ := I.list hq
    obtain ⟨f0, f1, f2, f3, f4, f5⟩ := hf it (by simp)
    have hl := rv.length
    exact wpAny_pyNext_enum_end (I.ok.hd hc) he st p.isList (by simp; omega) fun h' eb => ⟨rfl, I.turned (t' := s.toks) (fun b o hb e => eb b o hb e) f0 f1 f3 f4 f5⟩
  self := fun _ _ _ _ _ st h => by
    obtain ⟨⟨old, he⟩, st⟩ := st
    exact wpAny_pyIter_enum he h
section
variable {X : Cx} {elts : List Expr} {x1 : Nat} {tp : Pos}
def iEnum (K : PySem.W.Frag) (ta : TA) : TI := fun σ H R => ta σ H fun vs H1 => ∃ a, vs = [.ref a] ∧ (∃ xs, SqL K H1 a xs) ∧ R (Ite K a) H1
theorem pi_enum {a : Expr} {ta : TA} {p pos : Pos} (hg : Gl X "enumerate") (hm : X.mg "enumerate" = none) (ha : PA X [a] ta) (hn : noStar a = true := by rfl) : PI X (.Tuple elts x1 tp) (.Call (.Name "enumerate" p) [a] [] pos) (iEnum X.K ta) := by
  intro pins s σ H R I h
  refine Call_ (ld_blt I hg hm boot_enumerate (PyProof.Rows.callWith_type1 (thn (ha pos pins s σ H _ I h) fun us s1 ⟨vs, H1, I1, r1, q1⟩ => ?_) (star_cons hn) rfl))
  obtain ⟨l, e, ⟨xs, hq⟩, q⟩ := q1
  subst e
  obtain ⟨u, rfl, ru⟩ := vals1 r1
  cases ru
  obtain ⟨its, rv, pl, hz⟩ := I1.list hq
  refine call_enumerate_list pl.isList fun h' he hit hsz hk => ?_
  refine wpAny_pyIter_enum he ?_
  refine ⟨s1.heap.objs.size + 1, [s1.heap.objs.size + 1, s1.heap.objs.size], _, _, H1, rfl, I1.kept (t' := s1.toks) hk, turn_enum l _ _ (Nat.succ_ne_self _), ⟨⟨_, he⟩, hit⟩, fun b hb => ?_, q⟩
  have hle : s1.heap.objs.size ≤ b := by
    rcases List.mem_cons.mp hb with z | hb
    · rw [z]; exact Nat.le_succ _
    · rw [show b = s1.heap.objs.size by simpa using hb]; exact Nat.le_refl _
  exact I1.fpOk hle (I1.hok.fresh hle)
end
section
variable {σ : St} {H : Hp} {nx : St → Hp → Prop} {rt : VK} {g : TG} {tb : TS} {Q : VK} {K : PySem.W.Frag}
def EnQ (K : PySem.W.Frag) (R : It → Hp → Prop) : List V → Hp → Prop := fun vs H1 => ∃ a, vs = [.ref a] ∧ (∃ xs, SqL K H1 a xs) ∧ R (Ite K a) H1
def LiQ (K : PySem.W.Frag) (R : It → Hp → Prop) : V → Hp → Prop := fun x H1 => ∃ a, x = .ref a ∧ (∃ xs, SqL K H1 a xs) ∧ R (Itl K a) H1
def TiQ (K : PySem.W.Frag) (R : It → Hp → Prop) : V → Hp → Prop := fun x H1 => ∃ a, x = .ref a ∧ (∃ xs, SqT K H1 a xs) ∧ R (Itt K a) H1
theorem rd_iEnum {ta : TA} {R : It → Hp → Prop} (h : ta σ H (EnQ K R)) : iEnum K ta σ H R := h
theorem rd_iListQ {tl : TE} {R : It → Hp → Prop} (h : tl σ H (LiQ K R)) : iList K tl σ H R := h
theorem rd_iTupQ {tl : TE} {R : It → Hp → Prop} (h : tl σ H (TiQ K R)) : iTup K tl σ H R := h
theorem rd_en {a : Addr} {xs : List V} {R : It → Hp → Prop} (h1 : SqL K H a xs) (h : R (Ite K a) H) : EnQ K R [.ref a] H := ⟨a, rfl, ⟨xs, h1⟩, h⟩
theorem rd_li {a : Addr} {xs : List V} {R : It → Hp → Prop} (h1 : SqL K H a xs) (h : R (Itl K a) H) : LiQ K R (.ref a) H := ⟨a, rfl, ⟨xs, h1⟩, h⟩
theorem rf_enum {a : Addr} {xs : List V} (Pv : Nat → St → Hp → Prop) (h0 : Pv 0 σ H) (hl : ∀ i σ H, i ≤ xs.length → Pv i σ H → SqL K H a xs)
    (hs : ∀ i x σ H T, xs[i]? = some x → Pv i σ H → H T = none → g (.ref T) σ (upd H T (.tup [.int i, x])) fun σ2 H2 => tb ⟨Pv (i + 1), rt, nx, Pv (i + 1)⟩ σ2 H2) (hd : ∀ σ H, Pv xs.length σ H → nx σ H) :
    ∃ W : Nat → Nat → St → Hp → Prop, (∃ m, W 0 m σ H) ∧ ∀ i m σ H, W i m σ H →
      ((Ite K a).stop i H ∧ nx σ H) ∨ ((Ite K a).go i H ∧ ∃ N : St → Hp → Prop, (∀ σ' H', N σ' H' → ∃ m', m' < m ∧ W (i + 1) m' σ' H') ∧ ∀ x H', (Ite K a).yld i H x H' → g x σ H' fun σ2 H2 => tb ⟨N, rt, nx, N⟩ σ2 H2) := by
  refine ⟨fun i m σ H => m = xs.length - i ∧ i ≤ xs.length ∧ Pv i σ H, ⟨xs.length, by simp, Nat.zero_le _, h0⟩, ?_⟩
  rintro i m σ H ⟨rfl, hi, p⟩
  have q := hl i σ H hi p
  by_cases hlt : i < xs.length
  · refine .inr ⟨⟨xs, xs[i], q, by simp [hlt]⟩, Pv (i + 1), fun σ' H' p' => ⟨xs.length - (i + 1), by omega, rfl, hlt, p'⟩, fun x H' y => ?_⟩
    obtain ⟨T, v, hT, e1, e2, y⟩ := y
    subst e1 e2
    exact hs i v σ H T (y xs q) p hT
  · have e : i = xs.length := by omega
    subst e
    exact .inl ⟨⟨xs, q, Nat.le_refl _⟩, hd σ H p⟩
end
section
variable {X : Cx}
theorem vals_bools : ∀ {bs : List Bool} {us : List Value}, Vals (bs.map V.bl) us → us = bs.map Value.bool
  | [], _, .nil => rfl
  | b :: bs, _, .cons r t => by cases r; rw [vals_bools t]; rfl
def rAll (K : PySem.W.Frag) : List V → Hp → VK → Prop := fun xs H Q => ∃ (p : Addr) (bs : List Bool), xs = [.ref p] ∧ SqL K H p (bs.map V.bl) ∧ Q (.bl (bs.all id)) H
theorem call_allG (hc : X.calm = true) : CallR X (.builtin "all") (rAll X.K) := by
  intro pins s σ H xs us Q I r h
  obtain ⟨p, bs, rfl, hq, q⟩ := h
  obtain ⟨u, rfl, rx⟩ := vals1 r
  cases rx
  obtain ⟨its, r', pl, hz⟩ := I.list hq
  have e := vals_bools r'
  subst e
  have hl := pl.isList
  have hlt : p < s.heap.objs.size := by obtain ⟨_, e, _⟩ := id hl; exact Heap.lt_size e
  refine call_all_walk (wpAny_pyIter_list hl ?_)
  refine ⟨s.heap.objs.size, [s.heap.objs.size, p], [s.heap.objs.size], (bs.map Value.bool).toArray.size, _, _, fun i => (bs[i]?).getD true, rfl, Walks.list (A := X.A.in1) (I.ok.hd hc) _ p (Nat.ne_of_lt hlt) (bs.map Value.bool).toArray,
    ⟨⟨_, Heap.get?_push_size _ rfl, rfl, rfl⟩, hl.push _⟩, fun i v s' Q' E' hP hQ => ?_, fun h' tk hk => ?_⟩
  · have hP' : (bs.map Value.bool)[i]? = some v := by simpa using hP
    rw [List.getElem?_map] at hP'
    cases hb : bs[i]? with
    | none => rw [hb] at hP'; cases hP'
    | some b =>
      rw [hb] at hP'
      cases hP'
      simp only [hb, Option.getD_some] at hQ
      exact wpAny_truthy_bool hQ
  · have e : ((List.range (bs.map Value.bool).toArray.size).all fun i => (bs[i]?).getD true) = bs.all id := by
      rw [List.size_toArray, List.length_map]; exact LSm.range_all bs
    rw [e]
    exact ⟨.bl _, H, I.kept (t' := tk) (LSm.kept_iter hk), rfl, q⟩
end
section
variable {X : Cx} {e st : Expr} {te : TE} {ts : TO} {pos p2 : Pos}
end
section
variable {X : Cx} {o e : Expr} {to : TE} {t : TA} {apos cpos : Pos}
theorem pe_app (ho : PE X o to) (ha : PA X [e] t) (hn : noStar e = true := by rfl) (hbase : attributeBase o "append" X.env (eval o X.env) = eval o X.env := by rfl) (hline : (apos.endLine == cpos.line) = true := by rfl) :
    PE X (.Call (.Attribute o "append" apos) [e] [] cpos) (tBM X.K "list" rAppend to t) :=
  pe_bm PySem.F.plainAttrs_list PySem.F.slot_list_append PySem.F.type_list_append mt_append ho ha hbase (by rw [star_cons hn]; rfl) hline (star_cons hn) (by rfl)
end
section
variable {K : PySem.W.Frag} {σ : St} {H : Hp} {Q : VK}
theorem rd_bm {T : String} {r : V → List V → Hp → VK → Prop} {to : TE} {t : TA} (h : to σ H fun x H1 => tyV K T x H1 ∧ t σ H1 fun xs H2 => r x xs H2 Q) : tBM K T r to t σ H Q := h
theorem rd_tyL {p : Addr} {xs : List V} {P : Prop} (h : SqL K H p xs) (q : P) : tyV K "list" (.ref p) H ∧ P := ⟨.inl ⟨rfl, xs, h⟩, q⟩
theorem rd_app {l : Addr} {xs : List V} {y : V} (h : H l = some (.lst xs)) (hz : xs.length < sizeLine) (q : Q .non (upd H l (.lst (xs ++ [y])))) : rAppend (.ref l) [y] H Q := ⟨l, xs, y, rfl, rfl, h, hz, q⟩
end
end L2
namespace L2
open PySem PySem.Spec PyProof.Rows
section
variable {K : PySem.W.Frag} {σ : St} {H : Hp} {Q : VK} {nx bk ct : St → Hp → Prop} {rt : VK}
theorem iteNT {A B : Prop} (h : B) : if (!true) = true then A else B := iteF h
theorem iteNF {A B : Prop} (h : A) : if (!false) = true then A else B := iteT h
theorem iteGF {A B : Prop} {b : Bool} (e : b = false) (h : B) : if b = true then A else B := by rw [e]; exact iteF h
theorem iteGT {A B : Prop} {b : Bool} (e : b = true) (h : A) : if b = true then A else B := by rw [e]; exact iteT h
theorem rd_make {C : Addr} {sp : Sp} {E : XK} {t : TA} (h : t σ H fun vs H1 => ∀ x dx, H1 x = none → H1 dx = none → dx ≠ x → sp (.ref x :: vs) (upd (upd H1 dx (.own x)) x (.ins C dx [])) (fun v H2 => v = .non ∧ Q (.ref x) H2) E) : tMake C sp [] E t σ H Q := by
  unfold tMake
  simpa only [List.append_nil] using h
theorem rd_meth {C : Addr} {m : Str} {sp : Sp} {E : XK} {ta : TE} {t : TA} (h : ta σ H fun x H1 => ∃ a dx fs, x = .ref a ∧ H1 a = some (.ins C dx fs) ∧ fs.lookup m = none ∧ t σ H1 fun vs H2 => sp (x :: vs) H2 Q E) : tMeth C m sp [] E ta t σ H Q := by
  unfold tMeth
  simpa only [List.append_nil] using h
theorem rd_sfld {ta tv : TE} {f : Str} (h : tv σ H fun y H1 => ta σ H1 fun x H2 => ∃ a C dx fs, x = .ref a ∧ H2 a = some (.ins C dx fs) ∧ Cls K C ∧ NoAttr K C f ∧ fs.length < 1000 ∧ nx σ (upd H2 a (.ins C dx (putF f y fs)))) : sFld K ta tv f ⟨nx, rt, bk, ct⟩ σ H := h
theorem rd_put {a C dx : Addr} {fs fs' : List (Str × V)} {f : Str} {y : V} {P : Hp → Prop} (h1 : H a = some (.ins C dx fs)) (c : Cls K C) (n : NoAttr K C f) (hl : fs.length < 1000) (e : putF f y fs = fs') (h : P (upd H a (.ins C dx fs'))) :
    ∃ a' C dx fs, V.ref a = V.ref a' ∧ H a' = some (.ins C dx fs) ∧ Cls K C ∧ NoAttr K C f ∧ fs.length < 1000 ∧ P (upd H a' (.ins C dx (putF f y fs))) := ⟨a, C, dx, fs, rfl, h1, c, n, hl, by rw [e]; exact h⟩
theorem rd_get {a C dx : Addr} {fs : List (Str × V)} {f : Str} {v : V} {P : V → Prop} (h1 : H a = some (.ins C dx fs)) (c : Cls K C) (n : NoAttr K C f) (l : fs.lookup f = some v) (h : P v) :
    ∃ a' C dx fs v, V.ref a = V.ref a' ∧ H a' = some (.ins C dx fs) ∧ Cls K C ∧ NoAttr K C f ∧ fs.lookup f = some v ∧ P v := ⟨a, C, dx, fs, v, rfl, h1, c, n, l, h⟩
theorem bools_of : ∀ {xs : List V}, (∀ x ∈ xs, x = .bl true) → xs = (List.replicate xs.length true).map V.bl
  | [], _ => rfl
  | x :: xs, h => by
    rw [List.length_cons, List.replicate_succ, List.map_cons, ← bools_of (fun y hy => h y (List.mem_cons_of_mem _ hy)), h x (List.mem_cons_self ..)]
theorem rd_allT {p : Addr} {xs : List V} (h1 : SqL K H p xs) (h2 : ∀ x ∈ xs, x = .bl true) (h : Q (.bl true) H) : rAll K [.ref p] H Q := by
  refine ⟨p, List.replicate xs.length true, rfl, ?_, ?_⟩
  · rw [← bools_of h2]; exact h1
  · rw [show (List.replicate xs.length true).all id = true by simp]; exact h
end
end L2
namespace L2
open PySem PySem.Spec PyProof.Rows
section
variable {X : Cx} {pins : List (Addr × Obj)} {σ : St} {H : Hp} {s : Shared} {A : Around} {E : Value → Shared → Prop} {Q : Value → Shared → Prop} {b : Bool}
theorem isinstT_ok {tp : Addr} {dd : Option Addr} {its : List Value} {nn : Nat} {sl : Array (Option Value)} {x : V} {u t : Value} (I : Inv X pins σ H s) (rx : RelV x u) (ty : TyOf X.K H x t) (htp : s.heap.get? tp = some ⟨.type "tuple", dd, .seq its.toArray nn, sl⟩) (e : PySem.W.kitAny X.K t its = some b) (h : ∀ tk, Q (.bool b) { s with toks := tk }) :
    wpAny (model X.prog X.w) A (call (.builtin "isinstance") [u, .ref tp]) Q E s := by
  cases ty with
  | non => cases (show u = Value.none from rx); exact PySem.W.kia_tup PySem.W.kitx_none I.kIn True.intro htp e (fun z => nomatch z) h
  | bl y => cases (show u = Value.bool y from rx); exact PySem.W.kia_tup PySem.W.kitx_bool I.kIn True.intro htp e (fun z => nomatch z) h
  | int i => obtain ⟨t, q⟩ := (show ∃ t, u = Value.int i t from rx); cases q; exact PySem.W.kia_tup PySem.W.kitx_int I.kIn True.intro htp e (fun z => nomatch z) h
  | str y => obtain ⟨t, q⟩ := (show ∃ t, u = Value.str y t from rx); cases q; exact PySem.W.kia_tup PySem.W.kitx_str I.kIn True.intro htp e (fun z => nomatch z) h
  | flt y => obtain ⟨t, q⟩ := (show ∃ t, u = Value.float y t from rx); cases q; exact PySem.W.kia_tup PySem.W.kitx_float I.kIn True.intro htp e (fun z => nomatch z) h
  | @lst a xs ea =>
    cases (show u = Value.ref a from rx)
    obtain ⟨_, _, n, _, h1⟩ := (show ObjOk X.prog X.w H s.heap a (.lst xs) from I.hok a _ ea)
    exact PySem.W.kia_tup PySem.W.kitx_list I.kIn ⟨_, h1, rfl⟩ htp e (fun z => nomatch z) h
  | @frz a ob xs ea =>
    cases (show u = Value.ref a from rx)
    obtain ⟨_, _, _, n, _, h1⟩ := (show ObjOk X.prog X.w H s.heap a (.frz ob (.lst xs)) from I.hok a _ ea)
    exact PySem.W.kia_tup PySem.W.kitx_list I.kIn ⟨_, h1, rfl⟩ htp e (fun z => nomatch z) h
  | @tup a xs ea =>
    cases (show u = Value.ref a from rx)
    obtain ⟨_, _, _, p⟩ := (show ObjOk X.prog X.w H s.heap a (.tup xs) from I.hok a _ ea)
    obtain ⟨o, h1, h2, _⟩ := p
    exact PySem.W.kia_tup PySem.W.kitx_tuple I.kIn ⟨o, h1, h2⟩ htp e (fun z => nomatch z) h
  | @dK a kvs ea =>
    cases (show u = Value.ref a from rx)
    obtain ⟨_, _, vs, _, p⟩ := (show ObjOk X.prog X.w H s.heap a (.dK kvs) from I.hok a _ ea)
    obtain ⟨o, es, ep, h1, h2, _⟩ := p
    exact PySem.W.kia_tup PySem.W.kitx_dict I.kIn ⟨o, h1, h2.1⟩ htp e (fun z => nomatch z) h
  | @dT a kvs ea =>
    cases (show u = Value.ref a from rx)
    obtain ⟨_, _, xs, _, o, es, ep, h1, h2, _⟩ := (show ObjOk X.prog X.w H s.heap a (.dT kvs) from I.hok a _ ea)
    exact PySem.W.kia_tup PySem.W.kitx_dict I.kIn ⟨o, h1, h2.1⟩ htp e (fun z => nomatch z) h
  | @ins a C dx fs ea cl ha hn htk hm =>
    cases (show u = Value.ref a from rx)
    obtain ⟨mA, O, _⟩ := ins_get I.hok ea
    obtain ⟨od, J, _⟩ := O.look
    exact PySem.W.kia_tup (PySem.W.kitx_own (cl.get _) cl.hd ha hn htk hm) I.kIn J htp e (fun z => nomatch z) h
end
section
variable {X : Cx} {K : PySem.W.Frag} {H : Hp} {Q : VK}
theorem vals_types : ∀ {Ts : List String} {us : List Value}, Vals (Ts.map V.ty) us → us = Ts.map Value.type
  | [], _, .nil => rfl
  | T :: Ts, _, .cons r t => by cases r; rw [vals_types t]; rfl
def rIsiT (K : PySem.W.Frag) : List V → Hp → VK → Prop := fun xs H Q => ∃ (x : V) (p : Addr) (Ts : List String) (t : Value) (b : Bool), xs = [x, .ref p] ∧ H p = some (.tup (Ts.map V.ty)) ∧ TyOf K H x t ∧ PySem.W.kitAny K t (Ts.map Value.type) = some b ∧ Q (.bl b) H
theorem call_isiT : CallR X (.builtin "isinstance") (rIsiT X.K) := by
  intro pins s σ H xs us Q I r h
  obtain ⟨x, p, Ts, t, b, rfl, hp, ty, e, q⟩ := h
  obtain ⟨u, w', rfl, rx, ry⟩ := vals2 r
  cases ry
  obtain ⟨hz, its, rv, ⟨o, ho, hc, n, hd⟩⟩ := (show ObjOk X.prog X.w H s.heap p (.tup (Ts.map V.ty)) from I.hok p _ hp)
  have ei := vals_types rv
  subst ei
  obtain ⟨oc, od, odt, osl⟩ := o
  replace hc : oc = .type "tuple" := hc
  replace hd : odt = .seq (Ts.map Value.type).toArray n := hd
  subst hc hd
  exact isinstT_ok I rx ty ho e fun tk => ⟨.bl b, H, I.tok _, rfl, q⟩
theorem rd_isiT {x : V} {p : Addr} {Ts : List String} {t : Value} {b : Bool} (hp : H p = some (.tup (Ts.map V.ty))) (ty : TyOf K H x t) (e : PySem.W.kitAny K t (Ts.map Value.type) = some b) (h : Q (.bl b) H) : rIsiT K [x, .ref p] H Q := ⟨x, p, Ts, t, b, rfl, hp, ty, e, h⟩
def isB : V → V → Option Bool
  | .non, .non => some true
  | .bl a, .bl b => some (a == b)
  | .bl _, .non => some false
  | .int _, .non => some false
  | .str _, .non => some false
  | .ref _, .non => some false
  | _, _ => none
def rIs : R2 := fun x y H Q => ∃ b, isB x y = some b ∧ Q (.bl b) H
def rIsNot : R2 := fun x y H Q => ∃ b, isB x y = some b ∧ Q (.bl (!b)) H
theorem op_isG : OpR X (compareOp .Is) rIs := by
  intro pins s σ H x y v u Q I rx ry h
  obtain ⟨b, e, q⟩ := h
  have fin : EP X pins σ Q (.bool b) s := ⟨.bl b, H, I, rfl, q⟩
  cases x with
  | non => cases y with
    | non => cases e; cases rx; cases ry; exact is_none_gen fin
    | _ => cases e
  | bl a => cases y with
    | bl c => cases e; cases rx; cases ry; exact is_bool fin
    | non => cases e; cases rx; cases ry; exact is_none_gen fin
    | _ => cases e
  | int i => cases y with
    | non => cases e; obtain ⟨t, rfl⟩ := rx; cases ry; exact is_none_gen fin
    | _ => cases e
  | str i => cases y with
    | non => cases e; obtain ⟨t, rfl⟩ := rx; cases ry; exact is_none_gen fin
    | _ => cases e
  | ref i => cases y with
    | non => cases e; cases rx; cases ry; exact is_none_gen fin
    | _ => cases e
  | _ => cases y <;> cases e
theorem op_isNotG : OpR X (compareOp .IsNot) rIsNot := by
  intro pins s σ H x y v u Q I rx ry h
  obtain ⟨b, e, q⟩ := h
  have fin : EP X pins σ Q (.bool (!b)) s := ⟨.bl (!b), H, I, rfl, q⟩
  cases x with
  | non => cases y with
    | non => cases e; cases rx; cases ry; exact isnot_none_gen fin
    | _ => cases e
  | bl a => cases y with
    | bl c => cases e; cases rx; cases ry; exact isnot_bool fin
    | non => cases e; cases rx; cases ry; exact isnot_none_gen fin
    | _ => cases e
  | int i => cases y with
    | non => cases e; obtain ⟨t, rfl⟩ := rx; cases ry; exact isnot_none_gen fin
    | _ => cases e
  | str i => cases y with
    | non => cases e; obtain ⟨t, rfl⟩ := rx; cases ry; exact isnot_none_gen fin
    | _ => cases e
  | ref i => cases y with
    | non => cases e; cases rx; cases ry; exact isnot_none_gen fin
    | _ => cases e
  | _ => cases y <;> cases e
theorem rd_is {x y : V} {b : Bool} (e : isB x y = some b) (h : Q (.bl b) H) : rIs x y H Q := ⟨b, e, h⟩
theorem rd_isNot {x y : V} {b : Bool} (e : isB x y = some b) (h : Q (.bl (!b)) H) : rIsNot x y H Q := ⟨b, e, h⟩
end
end L2
namespace L2
open PySem PySem.Spec PyProof.Rows
section
variable {X : Cx}
end
end L2
namespace L2
open PySem PySem.Spec PyProof.Rows
section
variable {prog : Program} {w : World} {A : Around} {E : Value → Shared → Prop}
end
section
variable {X : Cx} {pos : Pos}
end
end L2
namespace L2
open PySem PySem.Spec PyProof.Rows
section
variable {X : Cx}
def rRng : List V → Hp → VK → Prop := fun xs H Q => ∃ i j : Int, xs = [.int i, .int j] ∧ ∀ p, H p = none → Q (.ref p) (upd H p (.rng i j))
theorem rd_rng {H : Hp} {Q : VK} {i j : Int} (h : ∀ p, H p = none → Q (.ref p) (upd H p (.rng i j))) : rRng [.int i, .int j] H Q := ⟨i, j, rfl, h⟩
end
section
variable {X : Cx} {pins : List (Addr × Obj)} {σ : St} {H : Hp} {s : Shared} {h' : Heap}
end
structure Z5 (z TI TO i1 i2 : Addr) : Prop where
  TIz : TI ≠ z
  TOz : TO ≠ z
  i1z : i1 ≠ z
  i2z : i2 ≠ z
  TITO : TI ≠ TO
  TIi1 : TI ≠ i1
  TIi2 : TI ≠ i2
  TOi1 : TO ≠ i1
  TOi2 : TO ≠ i2
  i12 : i1 ≠ i2
theorem Z5.apart {z TI TO i1 i2 l1 l2 : Addr} (d : Z5 z TI TO i1 i2) {h : Heap} {f0 a b : Value} {k1 k2 : Nat} {m1 m2 : Addr} {xs ys : Array Value} (hz : IsZip h z TI TO f0) (hTO : IsPair h TO a b) (h1 : h.IsListIter i1 m1 k1) (h2 : h.IsListIter i2 m2 k2)
    (hl1 : h.IsList l1 xs) (hl2 : h.IsList l2 ys) : ZipApart z TI TO i1 i2 l1 l2 := by
  have key : ∀ {l : Addr} {vs : Array Value}, h.IsList l vs → l ≠ z ∧ l ≠ TO ∧ l ≠ i1 ∧ l ≠ i2 := fun {l vs} hl => by
    obtain ⟨o, ho, hc, n, hd⟩ := hl
    refine ⟨fun e => ?_, fun e => ?_, fun e => ?_, fun e => ?_⟩
    · rw [e, hz] at ho; cases ho; cases hd
    · rw [e, hTO] at ho
      cases ho
      exact absurd (show Value.type "tuple" = Value.type "list" from hc) (by decide)
    · obtain ⟨o1, e1, c1, d1⟩ := h1
      rw [e, e1] at ho; cases ho; rw [d1] at hd; cases hd
    · obtain ⟨o1, e1, c1, d1⟩ := h2
      rw [e, e1] at ho; cases ho; rw [d1] at hd; cases hd
  obtain ⟨a1, a2, a3, a4⟩ := key hl1
  obtain ⟨b1, b2, b3, b4⟩ := key hl2
  exact ⟨d.TIz, d.TOz, d.i1z, d.i2z, d.TITO, d.TIi1, d.TIi2, d.TOi1, d.TOi2, d.i12, a1, a2, a3, a4, b1, b2, b3, b4⟩
section
variable {X : Cx} {elts : List Expr} {x1 : Nat} {tp : Pos}
end
section
variable {σ : St} {H : Hp} {nx : St → Hp → Prop} {rt : VK} {g : TG} {tb : TS} {Q : VK} {K : PySem.W.Frag}
end
end L2
namespace L2
open PySem PySem.Spec PyProof.Rows
section
variable {X : Cx} {e : Expr} {te : TE}
def tPartN (t : TE) : TO := fun σ H Q => t σ H fun x H1 => (x = .non ∧ Q none H1) ∨ ∃ i, x = .int i ∧ Q (some i) H1
theorem rd_partN {σ : St} {H : Hp} {QO : Option Int → Hp → Prop} (h : te σ H fun x H1 => (x = .non ∧ QO none H1) ∨ ∃ i, x = .int i ∧ QO (some i) H1) : tPartN te σ H QO := h
theorem rd_pnN {H : Hp} {QO : Option Int → Hp → Prop} (h : QO none H) : (V.non = .non ∧ QO none H) ∨ ∃ i, V.non = .int i ∧ QO (some i) H := .inl ⟨rfl, h⟩
theorem rd_pnI {H : Hp} {QO : Option Int → Hp → Prop} {i : Int} (h : QO (some i) H) : (V.int i = .non ∧ QO none H) ∨ ∃ j, V.int i = .int j ∧ QO (some j) H := .inr ⟨i, rfl, h⟩
end
end L2
namespace L2.Q
open PySem PySem.Spec PyProof.Rows L2
structure QE (X : Cx) (e : Expr) (t : TE) : Prop where
  h : PE X e t
structure QT (X : Cx) (e : Expr) (t : TT) : Prop where
  h : PT X e t
structure QW (X : Cx) (e : Expr) (t : TT) : Prop where
  h : PW X e t
structure QA (X : Cx) (es : List Expr) (t : TA) : Prop where
  h : PA X es t
structure QS (X : Cx) (st : Stmt) (t : TS) : Prop where
  h : PS X st t
structure QSs (X : Cx) (st : List Stmt) (t : TS) : Prop where
  h : PSs X st t
structure QG (X : Cx) (tg : Expr) (g : TG) : Prop where
  h : PG X tg g
structure QGs (X : Cx) (tg : List Expr) (g : TGs) : Prop where
  h : PGs X tg g
structure QI (X : Cx) (tg it : Expr) (w : TI) : Prop where
  h : PI X tg it w
structure QTs (X : Cx) (ifs : List Expr) (t : TT) : Prop where
  h : PTs X ifs t
structure QO (X : Cx) (o : Option Expr) (t : TO) : Prop where
  h : PO X o t
section
variable {X : Cx} {CX : CXT} {k : Nat} {f C : Addr} {fd : FuncData} {ps : List Str} {sp : Sp} {dvs : List V} {ds : List Value} {E : XK} {x m : Str} {p pos apos p2 spos : Pos} {a b c e o : Expr} {es rest : List Expr} {ta tb tc te to ti : TE} {t : TA} {tA tB tt : TT} {id T : String} {r r' : R2} {rc : List V → Hp → VK → Prop} {st : Stmt} {sts sts2 : List Stmt} {ts us : TS} {g : TG} {gs : TGs} {wi : TI} {tg iter : Expr}
theorem QW.pt {e : Expr} {t : TT} (q : QW X e t) : QT X e t := ⟨q.h.pt⟩
theorem pw_pt {e : Expr} {t : TT} (q : QW X e t) : QT X e t := ⟨q.h.pt⟩
theorem pv (i : Nat) (hN : X.N[i]? = some x := by rfl) (hv : Vis X.env.scope x := by first | exact Or.inl rfl | exact Or.inr (Or.inl rfl) | exact Or.inr (Or.inr rfl)) (hd : (x == ("__debug__" : Str)) = false := by decide)
    (hcd : (x == ("__classdict__" : Str)) = false := by decide) : QE X (.Name x pos) (tVar i) := ⟨pe_var hN hv hd hcd⟩
theorem pe_int {i j} : QE X (.Constant (.int i) j pos) (tC (.int i)) := ⟨L2.pe_int⟩
theorem pe_bl {b j} : QE X (.Constant (.bool b) j pos) (tC (.bl b)) := ⟨L2.pe_bl⟩
theorem pe_non {j} : QE X (.Constant .none j pos) (tC .non) := ⟨L2.pe_non⟩
theorem pe_str {x j} : QE X (.Constant (.str x) j pos) (tC (.str x)) := ⟨L2.pe_str⟩
theorem pe_glob {v : V} {u : Value} (hg : Gl X x) (hm : X.mg x = some u) (r : RelV v u) (hd : (x == ("__debug__" : Str)) = false := by decide) : QE X (.Name x pos) (tC v) := ⟨L2.pe_glob hg hm r hd⟩
theorem pe_gint {n : Int} (hg : Gl X x) (hm : ∃ t, X.mg x = some (.int n t)) (hd : (x == ("__debug__" : Str)) = false := by decide) : QE X (.Name x pos) (tC (.int n)) := ⟨L2.pe_gint hg hm hd⟩
theorem pe_bltn {v : V} {u : Value} (hg : Gl X x) (hm : X.mg x = none) (hv : bootBuiltins x = some u) (r : RelV v u) (hn : x ≠ "__name__" := by decide) (hd : (x == ("__debug__" : Str)) = false := by decide) : QE X (.Name x pos) (tC v) := ⟨L2.pe_bltn hg hm hv r hn hd⟩
theorem pe_op {op : Operator} (ho : OpR X (binaryOp op) r) (ha : QE X a ta) (hb : QE X b tb) : QE X (.BinOp a op b pos) (tOp r ta tb) := ⟨L2.pe_op ho ha.h hb.h⟩
theorem pe_un {op : UnaryOp} {ru : V → Hp → VK → Prop} (ho : UnR X (unaryOp op) ru) (ha : QE X a ta) : QE X (.UnaryOp op a pos) (tUn ru ta) := ⟨L2.pe_un ho ha.h⟩
theorem pe_not (ha : QE X a ta) : QE X (.UnaryOp .Not a pos) (tNotV ta) := ⟨L2.pe_not ha.h⟩
theorem pe_one {op} (h : QE X a ta) : QE X (.BoolOp op [a] pos) ta := ⟨L2.pe_one h.h⟩
theorem pe_and (ha : QE X a ta) (hb : QE X (.BoolOp .And (b :: rest) pos) tb) : QE X (.BoolOp .And (a :: b :: rest) pos) (tAndV ta tb) := ⟨L2.pe_and ha.h hb.h⟩
theorem pe_or (ha : QE X a ta) (hb : QE X (.BoolOp .Or (b :: rest) pos) tb) : QE X (.BoolOp .Or (a :: b :: rest) pos) (tOrV ta tb) := ⟨L2.pe_or ha.h hb.h⟩
theorem pe_cmpR {op : CmpOp} (ho : OpR X (compareOp op) r) (ha : QE X a ta) (hb : QE X b tb) (hm : behindInMarks op b = false) : QE X (.Compare a [op] [b] pos) (tOp r ta tb) := ⟨L2.pe_cmpR ho ha.h hb.h hm⟩
theorem pt_cmpR {op : CmpOp} (ho : OpR X (compareOp op) r) (ha : QE X a ta) (hb : QE X b tb) (hm : behindInMarks op b = false) : QT X (.Compare a [op] [b] pos) (tTest (tOp r ta tb)) := ⟨L2.pt_cmpR ho ha.h hb.h hm⟩
theorem pe_chain {op op' : CmpOp} (ho : OpR X (compareOp op) r) (ho' : OpR X (compareOp op') r') (ha : QE X a ta) (hb : QE X b tb) (hc : QE X c tc) (hm : lastMarks [op, op'] [b, c] = false := by with_unfolding_all rfl) : QE X (.Compare a [op, op'] [b, c] pos) (tChain r r' ta tb tc) := ⟨L2.pe_chain ho ho' ha.h hb.h hc.h hm⟩
theorem pt_val (h : QE X e te) (he : ∀ whole, isTrue e X.env whole = (do let v ← whole; standAt e.pos; holding [v] (truthy v)) := by intro _; rfl) : QT X e (L2.tB te) := ⟨L2.pt_val h.h he⟩
theorem pt_not (ha : QT X a tA) : QT X (.UnaryOp .Not a pos) (tNot tA) := ⟨L2.pt_not ha.h⟩
theorem pw_and1 (ha : QT X a tA) : QW X (.BoolOp .And [a] pos) tA := ⟨L2.pw_and1 ha.h⟩
theorem pw_or1 (ha : QT X a tA) : QW X (.BoolOp .Or [a] pos) tA := ⟨L2.pw_or1 ha.h⟩
theorem pw_and (ha : QT X a tA) (hb : QW X (.BoolOp .And (b :: rest) pos) tB) : QW X (.BoolOp .And (a :: b :: rest) pos) (tAnd tA tB) := ⟨L2.pw_and ha.h hb.h⟩
theorem pw_or (ha : QT X a tA) (hb : QW X (.BoolOp .Or (b :: rest) pos) tB) : QW X (.BoolOp .Or (a :: b :: rest) pos) (tOr tA tB) := ⟨L2.pw_or ha.h hb.h⟩
theorem pa_nil : QA X [] tNil := ⟨L2.pa_nil⟩
theorem pa_c (ha : QE X e te) (hr : QA X es t) (hs : noStar e = true := by rfl) : QA X (e :: es) (tCons te t) := ⟨L2.pa_c ha.h hr.h hs⟩
theorem pe_callN (F : FnOk X.prog X.w X.K X.mg X.base CX k f fd ps sp) (hr : Room k X.A) (hg : Gl X x) (hm : X.mg x = some (.ref f)) (hk : PySem.W.keepIn X.K (.ref f) = true) (hb : Binds X.K fd ps ds) (hd : Vals dvs ds) (hx : Passes CX X E)
    (ha : QA X (e :: es) t) (hn : (e :: es).all noStar = true := by rfl) (hdb : (x == ("__debug__" : Str)) = false := by decide) : QE X (.Call (.Name x p) (e :: es) [] pos) (tCall sp dvs E t) := ⟨L2.pe_callN F hr hg hm hk hb hd hx ha.h hn hdb⟩
theorem pe_makeN (M : Mk X.K C f) (F : FnOk X.prog X.w X.K X.mg X.base CX k f fd ps sp) (hr : Room (k + 1) X.A) (hg : Gl X x) (hm : X.mg x = some (.ref C)) (hb : Binds X.K fd ps ds) (hd : Vals dvs ds) (hx : Passes CX X E)
    (ha : QA X (e :: es) t) (hn : (e :: es).all noStar = true := by rfl) (hdb : (x == ("__debug__" : Str)) = false := by decide) : QE X (.Call (.Name x p) (e :: es) [] pos) (tMake C sp dvs E t) := ⟨L2.pe_makeN M F hr hg hm hb hd hx ha.h hn hdb⟩
theorem pe_callBN (hc : CallR X (.builtin id) rc) (hg : Gl X x) (hm : X.mg x = none) (hv : bootBuiltins x = some (.builtin id)) (ha : QA X (e :: es) t) (hn : (e :: es).all noStar = true := by rfl) (hne : x ≠ "__name__" := by decide) (hdb : (x == ("__debug__" : Str)) = false := by decide) :
    QE X (.Call (.Name x p) (e :: es) [] pos) (tCB rc t) := ⟨L2.pe_callBN hc hg hm hv ha.h hn hne hdb⟩
theorem pe_callTyN (hc : CallR X (.type T) rc) (hg : Gl X x) (hm : X.mg x = none) (hv : bootBuiltins x = some (.type T)) (ha : QA X (e :: es) t) (hn : (e :: es).all noStar = true := by rfl) (hne : x ≠ "__name__" := by decide) (hdb : (x == ("__debug__" : Str)) = false := by decide) :
    QE X (.Call (.Name x p) (e :: es) [] pos) (tCB rc t) := ⟨L2.pe_callTyN hc hg hm hv ha.h hn hne hdb⟩
theorem pe_fld {n : Str} (he : QE X e ta) (hb : attributeBase e n X.env (eval e X.env) = eval e X.env) : QE X (.Attribute e n pos) (tFld X.K ta n) := ⟨L2.pe_fld he.h hb⟩
theorem pe_ix (hr : IxR X r) (ha : QE X a ta) (hb : QE X b tb) (hs : PlainIx b) : QE X (.Subscript a b pos) (tOp r ta tb) := ⟨L2.pe_ix hr ha.h hb.h hs⟩
theorem po_none : QO X none tNoPart := ⟨L2.po_none⟩
theorem po_some (h : QE X e te) : QO X (some e) (tPart te) := ⟨L2.po_some h.h⟩
theorem pe_slice {rs : V → Option Int → Option Int → Hp → VK → Prop} {lo hi : Option Expr} {tl th : TO} (hr : SlR X rs) (he : QE X e te) (hl : QO X lo tl) (hu : QO X hi th) : QE X (.Subscript e (.Slice lo hi none p2) pos) (tSl rs te tl th) := ⟨L2.pe_slice hr he.h hl.h hu.h⟩
theorem pe_lst (h : QA X es t) : QE X (.List es pos) (tLst t) := ⟨L2.pe_lst h.h⟩
theorem pe_tup {k1} (h : QA X es t) : QE X (.Tuple es k1 pos) (tTup t) := ⟨L2.pe_tup h.h⟩
theorem pi_range1N (hg : Gl X "range") (hm : X.mg "range" = none) (ha : QA X [a] t) (hn : noStar a = true := by rfl) : QI X tg (.Call (.Name "range" p) [a] [] pos) (iRng1 t) := ⟨L2.pi_range1N hg hm ha.h hn⟩
theorem pi_range2N (hg : Gl X "range") (hm : X.mg "range" = none) (ha : QA X [a, b] t) (hn : noStar a = true := by rfl) (hn2 : noStar b = true := by rfl) : QI X tg (.Call (.Name "range" p) [a, b] [] pos) (iRng2 t) := ⟨L2.pi_range2N hg hm ha.h hn hn2⟩
theorem pi_list (hl : QE X e te) : QI X tg e (iList X.K te) := ⟨L2.pi_list hl.h⟩
theorem pg_name {i : Nat} (hN : X.N.Nodup) (hi : X.N[i]? = some x) (hx : Loc X.env.scope x) (hf : X.fn x = true ∨ X.env.scope.names.lookup x = some .local := by first | exact .inl rfl | exact .inr rfl | assumption) : QG X (.Name x pos) (gName i) := ⟨L2.pg_name hN hi hx hf⟩
theorem pgs_nil : QGs X [] gNil := ⟨L2.pgs_nil⟩
theorem pgs_cons {e : Expr} {es : List Expr} {t : TG} {u : TGs} (h1 : QG X e t) (h2 : QGs X es u) (hs : (assignEach (e :: es) X.env).map (·.2) = assign e X.env :: (assignEach es X.env).map (·.2) := by rfl) : QGs X (e :: es) (gCons t u) := ⟨L2.pgs_cons h1.h h2.h hs⟩
theorem pg_tup {k1 n : Nat} (hc : X.calm = true) (h : QGs X es gs) (hn : (assignEach es X.env).length = n := by rfl) (hst : (assignEach es X.env).findIdx? (·.1) = none := by rfl) : QG X (.Tuple es k1 pos) (gTup X.K n gs) := ⟨L2.pg_tup hc h.h hn hst⟩
theorem pg_sub {i : Expr} {tset : TSet} (ho : QE X o to) (hi : QE X i ti) (hs : PSet X tset)
    (ha : ∀ v, assign (.Subscript o i pos) X.env v = (do
      let ov ← holding [v] (eval o X.env)
      let iv ← holding [v, ov] (eval i X.env)
      standAt pos
      holding [v, ov, iv] (setItem ov iv v)
      release [v, ov, iv] []) := by intro _; rfl) : QG X (.Subscript o i pos) (gSub to ti tset) := ⟨L2.pg_sub ho.h hi.h hs ha⟩
theorem pts_nil : QTs X [] tYes := ⟨L2.pts_nil⟩
theorem root {D : Ends} {σ : St} {H : Hp} (q : QSs X sts ts) (h : ts D σ H) : ∃ t, PSs X sts t ∧ t D σ H := ⟨ts, q.h, h⟩
theorem imp {ts' : TS} (q : QSs X sts ts) (h : ∀ D σ H, ts' D σ H → ts D σ H) : QSs X sts ts' := ⟨fun pins s σ H D I z => q.h pins s σ H D I (h D σ H z)⟩
theorem pss_nil : QSs X [] tNext := ⟨L2.pss_nil⟩
theorem pss_cons (h1 : QS X st ts) (h2 : QSs X sts us) : QSs X (st :: sts) (tSeq ts us) := ⟨L2.pss_cons h1.h h2.h⟩
theorem pss_one (h1 : QS X st ts) : QSs X [st] ts := ⟨L2.pss_one h1.h⟩
theorem ps_continue : QS X (.Continue pos) tCont := ⟨L2.ps_continue⟩
theorem ps_never : QS X st tNever := ⟨L2.ps_never⟩
theorem ps_expr (he : QE X e te) (hs : swapsWith e none pos.line X.env = pure false := by rfl) : QS X (.Expr e pos) (tDrop te) := ⟨L2.ps_expr he.h hs⟩
theorem ps_ret (he : QE X e te) : QS X (.Return (some e) pos) (tRet te) := ⟨L2.ps_ret he.h⟩
theorem ps_if (hc : QT X c tt) (ha : QSs X sts ts) (hb : QSs X sts2 us) : QS X (.If c sts sts2 pos) (tIfS tt ts us) := ⟨L2.ps_if hc.h ha.h hb.h⟩
theorem ps_set {i : Nat} {pos' : Pos} (hN : X.N.Nodup) (hi : X.N[i]? = some x) (hx : Loc X.env.scope x) (he : QE X e te) (hs : swapsWith e (some (.Name x pos')) pos.line X.env = pure false := by rfl) (hf : X.fn x = true ∨ X.env.scope.names.lookup x = some .local := by first | exact .inl rfl | exact .inr rfl | assumption) :
    QS X (.Assign [.Name x pos'] e pos) (tAsg te (gName i)) := ⟨L2.ps_set hN hi hx he.h hs hf⟩
theorem ps_asg (he : QE X e te) (hg : QG X tg g) (hs : swapsWithSole [tg] e pos.line X.env = pure false := by rfl) (hw : swappedStores [tg] e X.env = pure none := by rfl)
    (h1 : (assignEach [tg] X.env).map (·.2) = [assign tg X.env] := by rfl) : QS X (.Assign [tg] e pos) (tAsg te g) := ⟨L2.ps_asg he.h hg.h hs hw h1⟩
theorem ps_aug {i : Nat} {op : Operator} {tip : TIp} {pos' : Pos} (hN : X.N.Nodup) (hi : X.N[i]? = some x) (hx : Loc X.env.scope x) (he : QE X e te) (ho : PIp X op tip) (hf : X.fn x = true ∨ X.env.scope.names.lookup x = some .local := by first | exact .inl rfl | exact .inr rfl | assumption) :
    QS X (.AugAssign (.Name x pos') op e pos) (tAug i te tip) := ⟨L2.ps_aug hN hi hx he.h ho hf⟩
theorem ps_augS {i : Expr} {tget : V → V → Hp → VK → Prop} {tip : TIp} {tset : TSet} {op : Operator} {tpos : Pos} (ho : QE X o to) (hi : QE X i ti) (hg : PGet X tget) (he : QE X e te) (hp : PIp X op tip) (hs : PSet X tset)
    (ha : ∀ ov iv new, augStore i ov iv new = (do holding [new, ov, iv] (setItem ov iv new); release [new, ov, iv] []; pure .next) := by intros; rfl) : QS X (.AugAssign (.Subscript o i tpos) op e pos) (tAugS to ti te tget tip tset) := ⟨L2.ps_augS ho.h hi.h hg he.h hp hs ha⟩
theorem ps_fld {n : Str} {pos' : Pos} (ha : QE X o ta) (hv : QE X e te) (hs : swapsWith e (some (.Attribute o n pos')) pos.line X.env = pure false) : QS X (.Assign [.Attribute o n pos'] e pos) (sFld X.K ta te n) := ⟨L2.ps_fld ha.h hv.h hs⟩
theorem ps_for (hp : PassesOwn (model X.prog X.w) X.A X.env X.xe) (hc : X.calm = true) (hi : QI X tg iter wi) (hg : QG X tg g) (hb : QSs X sts ts)
    (hs : ∀ x, foldedSetIterable iter X.env x = pure x := by intro _; rfl) : QS X (.For tg iter sts [] pos) (tFor wi g ts) := ⟨L2.ps_for hp hc hi.h hg.h hb.h hs⟩
variable {scope : Scope} {elt target : Expr} {ifs : List Expr} {N : List Str}
theorem pe_comp {k : Nat} {idx : List Nat} {N : List Str} (S : BlkScope X scope N k idx) (hc : X.calm = true) (hi : QI X target iter wi)
    (hg : ∀ fp C s H, QG (cxC X scope N fp C s H) target g) (ho : Own k g) (ht : ∀ fp C s H, QTs (cxC X scope N fp C s H) ifs tt) (he : ∀ fp C s H, QE (cxC X scope N fp C s H) elt te)
    (hs : ∀ x, foldedSetIterable iter X.env x = pure x := by intro _; rfl) : QE X (.ListComp elt [⟨target, iter, ifs, 0⟩] scope pos) (tComp wi k idx g tt te) :=
  ⟨L2.pe_comp k idx S hc hi.h (fun fp C s H => (hg fp C s H).h) ho (fun fp C s H => (ht fp C s H).h) (fun fp C s H => (he fp C s H).h) hs⟩
theorem ps_setC {k : Nat} {idx : List Nat} {i : Nat} {N : List Str} {pos' : Pos} (hN : X.N.Nodup) (hix : X.N[i]? = some x) (hx : Loc X.env.scope x)
    (S : BlkScope X scope N k idx) (hc : X.calm = true) (hi : QI X target iter wi)
    (hg : ∀ fp C s H, QG (cxC X scope N fp C s H) target g) (ho : Own k g) (ht : ∀ fp C s H, QTs (cxC X scope N fp C s H) ifs tt) (he : ∀ fp C s H, QE (cxC X scope N fp C s H) elt te)
    (hsw : swapsWith (.ListComp elt [⟨target, iter, ifs, 0⟩] scope pos) (some (.Name x pos')) spos.line X.env = pure true := by rfl)
    (hs : ∀ x, foldedSetIterable iter X.env x = pure x := by intro _; rfl) (hfn : X.fn x = true ∨ X.env.scope.names.lookup x = some .local := by first | exact .inl rfl | exact .inr rfl | assumption) :
    QS X (.Assign [.Name x pos'] (.ListComp elt [⟨target, iter, ifs, 0⟩] scope pos) spos) (tAsg (tComp wi k idx g tt te) (gName i)) :=
  ⟨L2.ps_setC k idx hN hix hx S hc hi.h (fun fp C s H => (hg fp C s H).h) ho (fun fp C s H => (ht fp C s H).h) (fun fp C s H => (he fp C s H).h) hsw hs hfn⟩
variable {x1 : Nat} {e1 e2 e3 e4 e5 e6 e7 e8 : Expr} {t1 t2 t3 t4 t5 t6 t7 t8 : TE}
theorem lst1 (h1 : QE X e1 t1) (n1 : noStar e1 = true := by rfl) : QE X (.List [e1] pos) (tLst (tCons t1 tNil)) := ⟨L2.lst1 h1.h n1⟩
theorem lst2 (h1 : QE X e1 t1) (h2 : QE X e2 t2) (n1 : noStar e1 = true := by rfl) (n2 : noStar e2 = true := by rfl) : QE X (.List [e1, e2] pos) (tLst (tCons t1 (tCons t2 tNil))) := ⟨L2.lst2 h1.h h2.h n1 n2⟩
theorem tup2 {k1} (h1 : QE X e1 t1) (h2 : QE X e2 t2) (n1 : noStar e1 = true := by rfl) (n2 : noStar e2 = true := by rfl) : QE X (.Tuple [e1, e2] k1 pos) (tTup (tCons t1 (tCons t2 tNil))) := ⟨L2.tup2 h1.h h2.h n1 n2⟩
theorem lst3 (h1 : QE X e1 t1) (h2 : QE X e2 t2) (h3 : QE X e3 t3) (n1 : noStar e1 = true := by rfl) (n2 : noStar e2 = true := by rfl) (n3 : noStar e3 = true := by rfl) : QE X (.List [e1, e2, e3] pos) (tLst (tCons t1 (tCons t2 (tCons t3 tNil)))) := ⟨L2.lst3 h1.h h2.h h3.h n1 n2 n3⟩
theorem lst4 (h1 : QE X e1 t1) (h2 : QE X e2 t2) (h3 : QE X e3 t3) (h4 : QE X e4 t4) (n1 : noStar e1 = true := by rfl) (n2 : noStar e2 = true := by rfl) (n3 : noStar e3 = true := by rfl) (n4 : noStar e4 = true := by rfl) : QE X (.List [e1, e2, e3, e4] pos) (tLst (tCons t1 (tCons t2 (tCons t3 (tCons t4 tNil))))) := ⟨L2.lst4 h1.h h2.h h3.h h4.h n1 n2 n3 n4⟩
theorem tup4 {k1} (h1 : QE X e1 t1) (h2 : QE X e2 t2) (h3 : QE X e3 t3) (h4 : QE X e4 t4) (n1 : noStar e1 = true := by rfl) (n2 : noStar e2 = true := by rfl) (n3 : noStar e3 = true := by rfl) (n4 : noStar e4 = true := by rfl) : QE X (.Tuple [e1, e2, e3, e4] k1 pos) (tTup (tCons t1 (tCons t2 (tCons t3 (tCons t4 tNil))))) := ⟨L2.tup4 h1.h h2.h h3.h h4.h n1 n2 n3 n4⟩
theorem lst5 (h1 : QE X e1 t1) (h2 : QE X e2 t2) (h3 : QE X e3 t3) (h4 : QE X e4 t4) (h5 : QE X e5 t5) (n1 : noStar e1 = true := by rfl) (n2 : noStar e2 = true := by rfl) (n3 : noStar e3 = true := by rfl) (n4 : noStar e4 = true := by rfl) (n5 : noStar e5 = true := by rfl) : QE X (.List [e1, e2, e3, e4, e5] pos) (tLst (tCons t1 (tCons t2 (tCons t3 (tCons t4 (tCons t5 tNil)))))) := ⟨L2.lst5 h1.h h2.h h3.h h4.h h5.h n1 n2 n3 n4 n5⟩
theorem tup5 {k1} (h1 : QE X e1 t1) (h2 : QE X e2 t2) (h3 : QE X e3 t3) (h4 : QE X e4 t4) (h5 : QE X e5 t5) (n1 : noStar e1 = true := by rfl) (n2 : noStar e2 = true := by rfl) (n3 : noStar e3 = true := by rfl) (n4 : noStar e4 = true := by rfl) (n5 : noStar e5 = true := by rfl) : QE X (.Tuple [e1, e2, e3, e4, e5] k1 pos) (tTup (tCons t1 (tCons t2 (tCons t3 (tCons t4 (tCons t5 tNil)))))) := ⟨L2.tup5 h1.h h2.h h3.h h4.h h5.h n1 n2 n3 n4 n5⟩
theorem lst7 (h1 : QE X e1 t1) (h2 : QE X e2 t2) (h3 : QE X e3 t3) (h4 : QE X e4 t4) (h5 : QE X e5 t5) (h6 : QE X e6 t6) (h7 : QE X e7 t7) (n1 : noStar e1 = true := by rfl) (n2 : noStar e2 = true := by rfl) (n3 : noStar e3 = true := by rfl) (n4 : noStar e4 = true := by rfl) (n5 : noStar e5 = true := by rfl) (n6 : noStar e6 = true := by rfl) (n7 : noStar e7 = true := by rfl) : QE X (.List [e1, e2, e3, e4, e5, e6, e7] pos) (tLst (tCons t1 (tCons t2 (tCons t3 (tCons t4 (tCons t5 (tCons t6 (tCons t7 tNil)))))))) := ⟨L2.lst7 h1.h h2.h h3.h h4.h h5.h h6.h h7.h n1 n2 n3 n4 n5 n6 n7⟩
end
end L2.Q
namespace L2.Q
open PySem PySem.Spec PyProof.Rows L2
section
variable {X : Cx} {CX : CXT} {k : Nat} {f C : Addr} {fd : FuncData} {ps : List Str} {sp : Sp} {dvs : List V} {ds : List Value} {E : XK} {x m : Str} {p pos apos p2 spos cpos tp : Pos} {a b c e o st : Expr} {es rest elts : List Expr} {ta tb tc te to ti : TE} {t : TA} {x1 : Nat} {ts : TO}
theorem pi_enum (hg : Gl X "enumerate") (hm : X.mg "enumerate" = none) (ha : QA X [a] t) (hn : noStar a = true := by rfl) : QI X (.Tuple elts x1 tp) (.Call (.Name "enumerate" p) [a] [] pos) (iEnum X.K t) := ⟨L2.pi_enum hg hm ha.h hn⟩
theorem pe_app (ho : QE X o to) (ha : QA X [e] t) (hn : noStar e = true := by rfl) (hbase : attributeBase o "append" X.env (eval o X.env) = eval o X.env := by rfl) (hline : (apos.endLine == cpos.line) = true := by rfl) :
    QE X (.Call (.Attribute o "append" apos) [e] [] cpos) (tBM X.K "list" rAppend to t) := ⟨L2.pe_app ho.h ha.h hn hbase hline⟩
theorem pe_meth {pl : Sem Bool} (he : QE X o ta) (c : Cls X.K C) (hm : Meth X.K C m f) (F : FnOk X.prog X.w X.K X.mg X.base CX k f fd ps sp) (hr : Room k X.A) (hb : Binds X.K fd ps ds) (hd : Vals dvs ds) (hx : Passes CX X E) (ha : QA X (e :: es) t)
    (hn : (e :: es).all noStar = true := by rfl)
    (ht : eval (.Call (.Attribute o m apos) (e :: es) [] pos) X.env = (do
      let ov ← eval o X.env
      standAt apos.atName
      let (f, first) ← holding [ov] (getMethod ov m pl)
      callWith pos f first (backTo pos (starEach (e :: es) X.env)) (backToKw pos (keywordEach [] X.env))) := by rfl) :
    QE X (.Call (.Attribute o m apos) (e :: es) [] pos) (tMeth C m sp dvs E ta t) := ⟨L2.pe_meth he.h c hm F hr hb hd hx ha.h (star_cons (all_tl hn).1) (back_any (all_tl hn).2) ht⟩
theorem pe_meth0 {pl : Sem Bool} (he : QE X o ta) (c : Cls X.K C) (hm : Meth X.K C m f) (F : FnOk X.prog X.w X.K X.mg X.base CX k f fd ps sp) (hr : Room k X.A) (hb : Binds X.K fd ps ds) (hd : Vals dvs ds) (hx : Passes CX X E)
    (ht : eval (.Call (.Attribute o m apos) [] [] pos) X.env = (do
      let ov ← eval o X.env
      standAt apos.atName
      let (f, first) ← holding [ov] (getMethod ov m pl)
      callWith pos f first (backTo pos (starEach [] X.env)) (backToKw pos (keywordEach [] X.env))) := by rfl) :
    QE X (.Call (.Attribute o m apos) [] [] pos) (tMeth C m sp dvs E ta tNil) := ⟨L2.pe_meth0 he.h c hm F hr hb hd hx ht⟩
end
end L2.Q
namespace L2.Q
open PySem PySem.Spec PyProof.Rows L2
section
variable {X : Cx} {K' : PySem.W.Frag} {x m n : Str} {p pos apos p2 spos cpos tp pos' : Pos} {a b c e o st iter tg : Expr} {es rest elts : List Expr} {ta tb tc te to ti : TE} {t : TA} {x1 : Nat} {ts : TO}
theorem pe_ixK (ha : QE X a ta) (hb : QE X b tb) (hs : PlainIx b) (hK : X.K = K' := by rfl) : QE X (.Subscript a b pos) (tOp (rIx K') ta tb) := by subst hK; exact ⟨L2.pe_ix ix_seq ha.h hb.h hs⟩
theorem pi_listK (hl : QE X e te) (hK : X.K = K' := by rfl) : QI X tg e (iList K' te) := by subst hK; exact ⟨L2.pi_list hl.h⟩
theorem pi_enumK (hg : Gl X "enumerate") (hm : X.mg "enumerate" = none) (ha : QA X [a] t) (hn : noStar a = true := by rfl) (hK : X.K = K' := by rfl) : QI X (.Tuple elts x1 tp) (.Call (.Name "enumerate" p) [a] [] pos) (iEnum K' t) := by subst hK; exact ⟨L2.pi_enum hg hm ha.h hn⟩
theorem pg_tupK {k1 n : Nat} {gs : TGs} (hc : X.calm = true) (h : QGs X es gs) (hn : (assignEach es X.env).length = n := by rfl) (hst : (assignEach es X.env).findIdx? (·.1) = none := by rfl) (hK : X.K = K' := by rfl) : QG X (.Tuple es k1 pos) (gTup K' n gs) := by subst hK; exact ⟨L2.pg_tup hc h.h hn hst⟩
theorem pe_fldK (he : QE X e ta) (hb : attributeBase e n X.env (eval e X.env) = eval e X.env) (hK : X.K = K' := by rfl) : QE X (.Attribute e n pos) (tFld K' ta n) := by subst hK; exact ⟨L2.pe_fld he.h hb⟩
theorem ps_fldK (ha : QE X o ta) (hv : QE X e te) (hs : swapsWith e (some (.Attribute o n pos')) pos.line X.env = pure false) (hK : X.K = K' := by rfl) : QS X (.Assign [.Attribute o n pos'] e pos) (sFld K' ta te n) := by subst hK; exact ⟨L2.ps_fld ha.h hv.h hs⟩
theorem pe_appK (ho : QE X o to) (ha : QA X [e] t) (hn : noStar e = true := by rfl) (hbase : attributeBase o "append" X.env (eval o X.env) = eval o X.env := by rfl) (hline : (apos.endLine == cpos.line) = true := by rfl) (hK : X.K = K' := by rfl) :
    QE X (.Call (.Attribute o "append" apos) [e] [] cpos) (tBM K' "list" rAppend to t) := by subst hK; exact ⟨L2.pe_app ho.h ha.h hn hbase hline⟩
end
end L2.Q
namespace L2.Q
open PySem PySem.Spec PyProof.Rows L2
section
variable {X : Cx} {K' : PySem.W.Frag} {p pos tp : Pos} {a b : Expr} {elts : List Expr} {t : TA} {x1 : Nat}
end
end L2.Q
namespace L2
open PySem
section
variable {prog : Program} {w : World} {A : Around} {E : Value → Shared → Prop} {s : Shared}
end
def SIt (h : Heap) (k : Bool) (it src : Addr) (i : Nat) : Prop := if k = true then h.IsListIter it src i else h.IsTupleIter it src i
def SSrc (h : Heap) (k : Bool) (src : Addr) (items : Array Value) : Prop := if k = true then h.IsList src items else h.IsTuple src items
theorem SIt.at {h h' : Heap} {k : Bool} {it src : Addr} {i : Nat} (x : SIt h k it src i) (e : ∀ o, h.get? it = some o → h'.get? it = some o) : SIt h' k it src i := by
  cases k with
  | true => obtain ⟨o, ho, r⟩ := (show h.IsListIter it src i from x); exact (show h'.IsListIter it src i from ⟨o, e o ho, r⟩)
  | false => obtain ⟨o, ho, r⟩ := (show h.IsTupleIter it src i from x); exact (show h'.IsTupleIter it src i from ⟨o, e o ho, r⟩)
theorem SSrc.at {h h' : Heap} {k : Bool} {src : Addr} {items : Array Value} (x : SSrc h k src items) (e : ∀ o, h.get? src = some o → h'.get? src = some o) : SSrc h' k src items := by
  cases k with
  | true => obtain ⟨o, ho, r⟩ := (show h.IsList src items from x); exact (show h'.IsList src items from ⟨o, e o ho, r⟩)
  | false => obtain ⟨o, ho, r⟩ := (show h.IsTuple src items from x); exact (show h'.IsTuple src items from ⟨o, e o ho, r⟩)
theorem SIt.obj {h : Heap} {k : Bool} {it src : Addr} {i : Nat} (x : SIt h k it src i) : ∃ o vs, h.get? it = some o ∧ o.data = .fields vs := by
  cases k with
  | true => obtain ⟨o, ho, _, r⟩ := (show h.IsListIter it src i from x); exact ⟨o, _, ho, r⟩
  | false => obtain ⟨o, ho, _, r⟩ := (show h.IsTupleIter it src i from x); exact ⟨o, _, ho, r⟩
section
variable {prog : Program} {w : World} {A : Around} {E : Value → Shared → Prop} {s : Shared}
end
abbrev ZS := Bool × Addr × Addr
abbrev IsTupN (h : Heap) (T : Addr) (vs : Array Value) : Prop := h.get? T = some { cls := .type "tuple", data := .seq vs }
section
variable {prog : Program} {w : World} {A : Around} {E : Value → Shared → Prop} {s : Shared}
end
def ZSt (z TI TO : Addr) (L : List ZS) (i : Nat) (h : Heap) : Prop :=
  IsZip h z TI TO .none ∧ IsTupN h TI (L.map fun t => Value.ref t.2.1).toArray ∧ (∃ arr, IsTupN h TO arr ∧ arr.size = L.length) ∧ ∀ t ∈ L, SIt h t.1 t.2.1 t.2.2 i
abbrev itObj (k : Bool) (src : Addr) : Obj := { cls := .type (if k = true then "list_iterator" else "tuple_iterator"), data := .fields #[.ref src, .int 0 0] }
theorem SIt.new {h : Heap} {k : Bool} {it src : Addr} (e : h.get? it = some (itObj k src)) : SIt h k it src 0 := by
  cases k with
  | true => exact (show h.IsListIter it src 0 from ⟨_, e, rfl, rfl⟩)
  | false => exact (show h.IsTupleIter it src 0 from ⟨_, e, rfl, rfl⟩)
section
variable {prog : Program} {w : World} {A : Around} {E : Value → Shared → Prop} {s : Shared}
end
section
variable {prog : Program} {w : World} {A : Around} {E : Value → Shared → Prop} {s : Shared}
end
end L2
namespace L2
open PySem PySem.Spec PyProof.Rows
def Src (H : Hp) (k : Bool) (a : Addr) (xs : List V) : Prop := H a = some (if k = true then .lst xs else .tup xs)
theorem Src.inj {H : Hp} {k : Bool} {a : Addr} {xs ys : List V} (h : Src H k a xs) (h' : Src H k a ys) : xs = ys := by
  unfold Src at h h'
  rw [h] at h'
  cases k with
  | true => injection h' with e; injection e
  | false => injection h' with e; injection e
theorem Src.lst {H : Hp} {a : Addr} {xs : List V} (h : H a = some (.lst xs)) : Src H true a xs := h
theorem Src.tup {H : Hp} {a : Addr} {xs : List V} (h : H a = some (.tup xs)) : Src H false a xs := h
theorem Inv.src {X : Cx} {pins : List (Addr × Obj)} {σ : St} {H : Hp} {s : Shared} {k : Bool} {a : Addr} {xs : List V} (I : Inv X pins σ H s) (h : Src H k a xs) : ∃ its : List Value, Vals xs its ∧ SSrc s.heap k a its.toArray ∧ xs.length ≤ sizeLine := by
  cases k with
  | true =>
    obtain ⟨its, r, p, z⟩ := I.list (SqL.of h)
    exact ⟨its, r, p.isList, z⟩
  | false =>
    obtain ⟨its, r, p, z⟩ := I.tuple (SqT.of h)
    exact ⟨its, r, p, z⟩
abbrev zFp (z TI TO : Addr) (L : List ZS) : List Addr := z :: TI :: TO :: L.map (·.2.1)
theorem ZSt.obj {z TI TO : Addr} {L : List ZS} {i : Nat} {h : Heap} (st : ZSt z TI TO L i h) : ∀ b ∈ zFp z TI TO L, ∃ o, h.get? b = some o ∧ ∀ v, o.data ≠ .cell v := fun b hb => by
  obtain ⟨hz, hTI, ⟨arr, hTO, _⟩, hit⟩ := st
  simp only [zFp, List.mem_cons] at hb
  rcases hb with rfl | rfl | rfl | hb
  · exact ⟨_, hz, fun v z => by cases z⟩
  · exact ⟨_, hTI, fun v z => by cases z⟩
  · exact ⟨_, hTO, fun v z => by cases z⟩
  · obtain ⟨t, ht, rfl⟩ := List.mem_map.mp hb
    obtain ⟨o, vs, e, d⟩ := (hit t ht).obj
    exact ⟨o, e, fun v z => by rw [d] at z; cases z⟩
section
variable {X : Cx} {elts : List Expr} {x1 : Nat} {tp : Pos} {k1 k2 k3 : Bool}
end
section
variable {σ : St} {H : Hp} {nx : St → Hp → Prop} {rt : VK} {g : TG} {tb : TS} {Q : VK} {k1 k2 k3 : Bool} {a b c : Addr} {xs ys zs : List V} {n : Nat}
end
section
variable {σ₀ : St} {g : TG} {tt : TT} {te : TE} {R : List V → Hp → Prop} {H : Hp} {k1 k2 k3 : Bool} {a b c : Addr} {xs ys zs : List V} {n : Nat}
end
section
variable {X : Cx}
def rTupOf (K : PySem.W.Frag) : List V → Hp → VK → Prop := fun xs H Q => ∃ p ys, xs = [.ref p] ∧ ((SqL K H p ys ∧ ∀ l, H l = none → Q (.ref l) (upd H l (.tup ys))) ∨ (SqT K H p ys ∧ Q (.ref p) H))
theorem call_tupG : CallR X (.type "tuple") (rTupOf X.K) := call_tuple_of
theorem rd_tupL {K : PySem.W.Frag} {H : Hp} {Q : VK} {p : Addr} {ys : List V} (h1 : SqL K H p ys) (h : ∀ l, H l = none → Q (.ref l) (upd H l (.tup ys))) : rTupOf K [.ref p] H Q := ⟨p, ys, rfl, .inl ⟨h1, h⟩⟩
structure Isi (K : PySem.W.Frag) (C : Addr) : Prop where
  ha : PySem.W.findIn K (.ref C) "__class__" = some (some (.builtin "object.__class__"))
  hn : PySem.W.specialIn K (.builtin "object.__class__") "__get__" = some (some (.builtin "getset_descriptor.__get__"))
  htk : PySem.W.takesIn K (.builtin "object.__class__") = some true
  hm : PySem.W.mroIn K C (.type "object") = some true
theorem isi_own {K : PySem.W.Frag} {H : Hp} {a C dx : Addr} {fs : List (Str × V)} (i : Isi K C) (c : Cls K C) (e : H a = some (.ins C dx fs)) : IsI K H (.ref a) (.ref C) true :=
  ⟨.ref C, .ins e c i.ha i.hn i.htk i.hm, .inr ⟨C, rfl, by unfold PySem.W.kitOne; rw [if_pos (by simp)]⟩⟩
end
end L2
namespace L2.Q
open PySem PySem.Spec PyProof.Rows L2
section
variable {X : Cx} {p pos tp : Pos} {a b c : Expr} {elts : List Expr} {t : TA} {x1 : Nat} {k1 k2 k3 : Bool}
theorem ps_par {i j : Nat} {x y : Str} {px py pt : Pos} {kt k2 pt2} (hc : X.calm = true) (hN : X.N.Nodup) (hi : X.N[i]? = some x) (hj : X.N[j]? = some y) (hij : i ≠ j)
    (hx : X.env.scope.names.lookup x = some .local) (hy : X.env.scope.names.lookup y = some .local) (ha : QA X [a, b] t)
    (hw : swappedStores [.Tuple [.Name x px, .Name y py] kt pt] (.Tuple [a, b] k2 pt2) X.env = pure (some [x, y]) := by rfl)
    (hs : swapsWithSole [.Tuple [.Name x px, .Name y py] kt pt] (.Tuple [a, b] k2 pt2) pos.line X.env = pure false := by rfl) :
    QS X (.Assign [.Tuple [.Name x px, .Name y py] kt pt] (.Tuple [a, b] k2 pt2) pos) (tPar i j t) := ⟨L2.ps_par hc hN hi hj hij hx hy ha.h hw hs⟩
end
end L2.Q
namespace L2
open PySem PySem.Spec PyProof.Rows
theorem nw {H : Hp} {p : Addr} (o : HO) (n : H p = none) : ∃ H2, upd H p o = H2 ∧ Same H H2 ∧ H2 p = some o := ⟨_, rfl, Same.new n, upd_same⟩
theorem wr (H : Hp) (p : Addr) (o : HO) : ∃ H2, upd H p o = H2 ∧ Keep p H H2 ∧ H2 p = some o := ⟨_, rfl, Keep.upd, upd_same⟩
theorem nwi {H : Hp} {x dx C : Addr} (nx : H x = none) (nd : H dx = none) (hd : dx ≠ x) : ∃ H2, upd (upd H dx (.own x)) x (.ins C dx []) = H2 ∧ Same H H2 ∧ H2 x = some (.ins C dx []) :=
  ⟨_, rfl, fun b o e => by rw [upd_ne (ne_none nx e), upd_ne (ne_none nd e)]; exact e, upd_same⟩
end L2
namespace L2
open PySem PySem.Spec PyProof.Rows
end L2
namespace L2
open PySem PySem.Spec PyProof.Rows
def Nx (N : St → Hp → Prop) (σ : St) (H : Hp) : Prop := N σ H
structure Tail (N b : St → Hp → Prop) : Prop where
  h : ∀ σ H, b σ H → N σ H
theorem rd_seqH {nx bk ct : St → Hp → Prop} {rt : VK} {σ : St} {H : Hp} {t u : TS} (h : ∀ N, Tail N (u ⟨nx, rt, bk, ct⟩) → t ⟨Nx N, rt, bk, ct⟩ σ H) : tSeq t u ⟨nx, rt, bk, ct⟩ σ H := h _ ⟨fun _ _ h => h⟩
theorem rd_nx {N b : St → Hp → Prop} {σ : St} {H : Hp} (t : Tail N b) (h : b σ H) : Nx N σ H := t.h _ _ h
end L2
namespace L2
open PySem PySem.Spec PyProof.Rows
section
variable {prog : Program} {w : World} {A : Around} {E : Value → Shared → Prop} {s : Shared} {K : PySem.W.Frag} {x C : Addr} {ox : Obj} {od : Option Obj}
end
section
variable {X : Cx}
end
end L2
namespace L2
open PySem PySem.Spec PyProof.Rows
section
variable {X : Cx} {pins : List (Addr × Obj)} {σ : St} {H : Hp} {s : Shared}
end
theorem ObjOk.obj {P : Program} {w : World} {H : Hp} {h : Heap} {a : Addr} {o : HO} (x : ObjOk P w H h a o) : ∃ u, h.get? a = some u := by
  cases o with
  | lst xs => obtain ⟨_, _, _, _, e⟩ := x; exact ⟨_, e⟩
  | tup xs => obtain ⟨_, _, _, u, e, _⟩ := x; exact ⟨u, e⟩
  | dK kvs => obtain ⟨_, _, _, _, u, _, _, e, _⟩ := x; exact ⟨u, e⟩
  | dT kvs => obtain ⟨_, _, _, _, u, _, _, e, _⟩ := x; exact ⟨u, e⟩
  | set S n => obtain ⟨u, _, _, _, e, _⟩ := x; exact ⟨u, e⟩
  | ins C dx fs => obtain ⟨_, _, _, e, _⟩ := x; exact ⟨_, e⟩
  | own y => exact x
  | xd fs => obtain ⟨_, ⟨u, _, _, e, _⟩, _⟩ := x; exact ⟨u, e⟩
  | rng lo hi => obtain ⟨_, _, _, e⟩ := x; exact ⟨_, e⟩
  | frz ob u => exact ⟨_, x.1⟩
  | tbl ps => exact ⟨_, x⟩
  | met f y => exact ⟨_, x⟩
  | ext φ => exact x.2.1
  | cod q => obtain ⟨o, _, _, e, _⟩ := x; exact ⟨o, e⟩
  | ctb pos q => obtain ⟨_, e, _⟩ := x; exact ⟨_, e⟩
theorem Inv.laidN {X : Cx} {pins : List (Addr × Obj)} {σ : St} {H : Hp} {s : Shared} {h' : Heap} {a : Addr} {o : HO} {t' : Nat} (I : Inv X pins σ H s) (k : ∀ b u, s.heap.get? b = some u → h'.get? b = some u) (hne : ∀ b u, s.heap.get? b = some u → b ≠ a)
    (new : ObjOk X.prog X.w (upd H a o) h' a o) : H a = none ∧ Inv X pins σ (upd H a o) { s with heap := h', toks := t' } := by
  have hn : H a = none := by
    cases e : H a with
    | none => rfl
    | some u =>
      obtain ⟨ob, z⟩ := (I.hok a u e).obj
      exact absurd rfl (hne a ob z)
  refine ⟨hn, I.un ⟨fun b u q _ _ _ => k b u q, fun b u q _ _ _ => ⟨u.slots, k b u q⟩, fun b u q n _ => ?_, fun b u q _ => ⟨u, k b u q⟩, fun b xs q => ?_, fun b u xs q => ?_, fun b ps q => ⟨#[], ?_⟩⟩ fun b u e => ?_⟩
  · rw [upd_ne (hne b u q)]; exact n
  · rw [upd_ne (ne_of_none q hn)]; exact q
  · rw [upd_ne (ne_of_none q hn)]; exact q
  · rw [upd_ne (ne_of_none q hn), q]; simp
  · by_cases hb : b = a
    · subst hb; rw [upd_same] at e; cases e; exact new
    · rw [upd_ne hb] at e
      exact (I.hok b u e).stay (fun c v _ q => k c v q) (fun c q => by rw [upd_ne (ne_of_none q hn)]; exact q) fun c xs _ q => by rw [upd_ne (ne_of_none q hn)]; exact q
section
variable {X : Cx} {tg : Expr}
end
section
variable {σ : St} {H : Hp} {nx : St → Hp → Prop} {rt : VK} {g : TG} {tb : TS}
end
section
variable {X : Cx}
end
section
variable {X : Cx} {o e : Expr} {to : TE} {apos cpos : Pos}
theorem pe_clear (ho : PE X o to) (hbase : attributeBase o "clear" X.env (eval o X.env) = eval o X.env := by rfl) (hline : (apos.endLine == cpos.line) = true := by rfl) :
    PE X (.Call (.Attribute o "clear" apos) [] [] cpos) (tBM0 X.K "list" rClear to) :=
  pe_bm0 PySem.F.plainAttrs_list PySem.F.slot_list_clear PySem.F.type_list_clear mt_clear ho hbase hline
end
section
variable {K : PySem.W.Frag} {σ : St} {H : Hp} {Q : VK}
theorem rd_bm0 {T : String} {r : V → List V → Hp → VK → Prop} {to : TE} (h : to σ H fun x H1 => tyV K T x H1 ∧ r x [] H1 Q) : tBM0 K T r to σ H Q := h
theorem rd_clear {l : Addr} {xs : List V} (h : H l = some (.lst xs)) (q : Q .non (upd H l (.lst []))) : rClear (.ref l) [] H Q := ⟨l, xs, rfl, rfl, h, q⟩
end
end L2
namespace L2.Q
open PySem PySem.Spec PyProof.Rows
section
variable {X : Cx} {K' : PySem.W.Frag} {tg o i value l : Expr} {to td ty tv tl : TE} {pos pos' apos cpos : Pos}
theorem pe_clearK (ho : QE X o to) (hbase : attributeBase o "clear" X.env (eval o X.env) = eval o X.env := by rfl) (hline : (apos.endLine == cpos.line) = true := by rfl) (hK : X.K = K' := by rfl) :
    QE X (.Call (.Attribute o "clear" apos) [] [] cpos) (tBM0 K' "list" rClear to) := by subst hK; exact ⟨L2.pe_clear ho.h hbase hline⟩
end
end L2.Q
namespace L2
open PySem PySem.Spec PyProof.Rows
section
variable {σ : St} {H : Hp} {Q : VK} {nx bk ct : St → Hp → Prop} {rt : VK}
end
end L2
namespace L2
open PySem PySem.Spec PyProof.Rows
structure ErrCls (K : PySem.W.Frag) (C : Addr) : Prop where
  ga : PySem.W.findIn K (.ref C) "__getattribute__" = some (some (.builtin "BaseException.__getattribute__"))
  gx : PySem.W.findIn K (.ref C) "__getattr__" = some none
  ex : PySem.W.mroIn K C (.type "BaseException") = some true
section
variable {prog : Program} {w : World} {A : Around} {E : Value → Shared → Prop} {s : Shared} {K : PySem.W.Frag} {x C : Addr} {ox : Obj} {od : Option Obj} {name : Str} {v : Value} {expr : Bool}
end
def errMro : List Value → Bool
  | .ref _ :: r => errMro r
  | l => l == [.type "ValueError", .type "Exception", .type "BaseException", .type "object"]
section
variable {prog : Program} {w : World} {A : Around} {E : Value → Shared → Prop} {s : Shared} {K : PySem.W.Frag} {x C : Addr} {o : Obj} {name : Str} {v : Value}
open PySem.Builtin PySem.Builtin.ObjectAttr in
end
section
variable {prog : Program} {w : World} {A : Around} {E : Value → Shared → Prop} {s : Shared} {K : PySem.W.Frag}
variable {nm q : Str} {C N fI : Addr} {bs bm bmB : List Value} {hdct : Bool} {sn : List Str} {sub : List Value} {ab : Bool} {col : Option Bool} {dd : Option Addr} {k0 k1 k2 k3 k5 : Option Value} {B newId initId : String}
end
structure Lft (fs : List Addr) (e : Addr) (oe : Obj) (h h' : Heap) : Prop where
  keep : ∀ b o, b ∉ fs → b ≠ e → h.get? b = some o → h'.get? b = some o
  slot : ∀ b o, b ∈ fs → h.get? b = some o → ∃ sl, h'.get? b = some { o with slots := sl }
  err : ∃ vs T oT ts, h'.get? e = some { oe with data := .fields vs } ∧ vs[1]? = some (.ref T) ∧ T ≠ e ∧ h.objs.size ≤ T ∧ h'.get? T = some oT ∧ oT.data = .fields ts ∧ ts[3]? = some .none
section
variable {M : Model} {A : Around} {E : Value → Shared → Prop} {s : Shared} {base : Heap} {env : Env} {outer : List Env} {L e : Addr} {oe : Obj} {vs : Array Value} {Q : Unit → Shared → Prop}
theorem entry_err {head : Value} {hadNext : Bool} (hfr : A.frames = some (env :: outer)) (hl : s.heap.FunFrames base (env :: outer)) (hf : env.frame = some L) (he : s.heap.get? e = some oe) (hd : oe.data = .fields vs) (hz : 1 < vs.size)
    (h : ∀ h', Lft (frs (env :: outer)) e oe s.heap h' → Q () { s with heap := h' }) :
    wpAny M A (do let a ← frameOf env; let pl ← entryPlaceOf L hadNext; let b ← EntryCells.newEntry head a .none (rawInt L) .none pl; setField (.ref e) 1 b) (fun _ s' => wpAny M A (setFlight (.ref e) none) Q E s') E s := by
  have hene : e ∉ frs (env :: outer) := fun hm => by
    obtain ⟨_, o, ho, hnf⟩ := hl.mem hm
    rw [he] at ho
    cases ho
    exact hnf vs hd
  refine wpAny_bind (wpAny_frameOf_fun hfr hl hf fun h2 hs => wpAny_bind (wpAny_entryPlaceOf fun pl hpl => ?_))
  unfold EntryCells.newEntry newFields
  refine wpAny_bind (wpAny_newObj_type ?_ (hpl.sizeOk5 _ _ _ _ _))
  have he2 : h2.get? e = some oe := (hs.2.1 e hene).trans he
  have nT : h2.objs.size ≠ e := Nat.ne_of_gt (Heap.lt_size he2)
  refine wpAny_setField (Heap.get?_push_of_some _ he2) hd hz ?_
  generalize hTs : ([head, Value.ref L, Value.none, rawInt L, Value.none] ++ if pl.isEmpty = true then List.replicate 6 Value.none else pl).toArray = ts0
  have h3 : 3 < ts0.size := by rw [← hTs]; simp only [List.size_toArray, List.length_append, List.length_cons, List.length_nil]; omega
  have em : Obj.mapFields (·.setIfInBounds 1 (Value.ref h2.objs.size)) oe = { oe with data := .fields (vs.setIfInBounds 1 (Value.ref h2.objs.size)) } := by
    obtain ⟨c, di, dt, sl⟩ := oe
    cases hd
    rfl
  generalize hA : h2.push { cls := .type "traceback", data := .fields ts0 } = hA'
  have ka : ∀ b o, h2.get? b = some o → hA'.get? b = some o := fun b o z => by rw [← hA]; exact Heap.get?_push_of_some _ z
  have kT : hA'.get? h2.objs.size = some { cls := .type "traceback", data := .fields ts0 } := by rw [← hA]; exact Heap.get?_push_size _ rfl
  show wpAny M A (setFlight (.ref e) none) Q E { s with heap := hA'.update e (Obj.mapFields (·.setIfInBounds 1 (Value.ref h2.objs.size))) }
  have he3 : (hA'.update e (Obj.mapFields (·.setIfInBounds 1 (Value.ref h2.objs.size)))).get? e = some { oe with data := .fields (vs.setIfInBounds 1 (Value.ref h2.objs.size)) } := by
    rw [← em]
    exact Heap.get?_update_self _ (ka _ _ he2) (by rw [em]; rfl)
  have hT3 : (hA'.update e (Obj.mapFields (·.setIfInBounds 1 (Value.ref h2.objs.size)))).get? h2.objs.size = some { cls := .type "traceback", data := .fields ts0 } := (Heap.get?_update_other _ _ (Ne.symm nT)).trans kT
  unfold setFlight
  refine wpAny_bind (wpAny_field he3 rfl (x := .ref h2.objs.size) (by simp [hz]) ?_)
  rw [if_pos (show (Value.ref h2.objs.size != Value.none) = true from by simp)]
  refine wpAny_setField hT3 rfl h3 (h _ ⟨fun b o hb hbe z => ?_, fun b o hb z => ?_, ?_⟩)
  · have z2 := (hs.2.1 b hb).trans z
    exact (Heap.get?_update_other _ _ (Nat.ne_of_gt (Heap.lt_size z2))).trans ((Heap.get?_update_other _ _ (Ne.symm hbe)).trans (ka _ _ z2))
  · obtain ⟨sl, z2⟩ := hs.2.2 b o z
    exact ⟨sl, (Heap.get?_update_other _ _ (Nat.ne_of_gt (Heap.lt_size z2))).trans ((Heap.get?_update_other _ _ (show e ≠ b from fun q => hene (by rw [q]; exact hb))).trans (ka _ _ z2))⟩
  · refine ⟨_, h2.objs.size, _, _, (Heap.get?_update_other _ _ nT).trans he3, by simp [hz], nT, Nat.le_of_eq hs.1.symm, Heap.get?_update_self _ hT3 rfl, rfl, by simp [h3]⟩
theorem leave_err (hfr : A.frames = some (env :: outer)) (hl : s.heap.FunFrames base (env :: outer)) (hf : env.frame = some L) (he : s.heap.get? e = some oe) (hd : oe.data = .fields vs) (h1 : vs[1]? = some .none)
    (h : ∀ h', Lft (frs (env :: outer)) e oe s.heap h' → Q () { s with heap := h' }) : wpAny M A (leaving env (.ref e)) Q E s := by
  unfold leaving noteFrame
  simp only [hf]
  refine wpAny_bind (wpAny_bind (wpAny_field he hd h1 ?_))
  rw [if_neg (by decide)]
  exact entry_err hfr hl hf he hd (Array.getElem?_eq_some_iff.mp h1).1 h
theorem look_err {T : Addr} {oT : Obj} {ts : Array Value} (hfr : A.frames = some (env :: outer)) (hl : s.heap.FunFrames base (env :: outer)) (hf : env.frame = some L) (he : s.heap.get? e = some oe) (hd : oe.data = .fields vs) (h1 : vs[1]? = some (.ref T))
    (hT : s.heap.get? T = some oT) (hdT : oT.data = .fields ts) (h3 : ts[3]? = some .none) (nTe : T ≠ e)
    (h : ∀ h2 h', (∀ b, b ≠ T → h2.get? b = s.heap.get? b) → h2.objs.size = s.heap.objs.size → Lft (frs (env :: outer)) e oe h2 h' → Q () { s with heap := h' }) :
    wpAny M A (noteFrame (.ref e) env) (fun _ s2 => wpAny M A (setFlight (.ref e) none) Q E s2) E s := by
  unfold noteFrame
  simp only [hf]
  refine wpAny_bind (wpAny_field he hd h1 ?_)
  rw [if_pos (show (Value.ref T != Value.none) = true from by simp)]
  refine wpAny_bind (wpAny_field hT hdT h3 ?_)
  rw [if_neg (show ¬ ((Value.none == rawInt L) = true) from by simp [rawInt])]
  refine wpAny_bind (wpAny_setField hT hdT (Array.getElem?_eq_some_iff.mp h3).1 ?_)
  have ot : ∀ b, b ≠ T → (s.heap.update T (Obj.mapFields (·.setIfInBounds 3 Value.none))).get? b = s.heap.get? b := fun b hb => Heap.get?_update_other _ _ (Ne.symm hb)
  refine entry_err (base := base) hfr (hl.of_keeps fun b o z hnf => ⟨o, (ot b fun q => ?_).trans z, rfl⟩) hf ((ot e (Ne.symm nTe)).trans he) hd (Array.getElem?_eq_some_iff.mp h1).1 fun h' lf => h _ h' ot (Heap.size_update ..) lf
  rw [q, hT] at z
  cases z
  exact hnf ts hdT
end
def ErrO (C : Addr) (od : Option Addr) (e : Addr) : HO := .ext fun h => ∃ o vs, h.get? e = some o ∧ o.cls = .ref C ∧ o.dict = od ∧ o.data = .fields vs
theorem errO_ok {P : Program} {w : World} {H : Hp} {h : Heap} {C e : Addr} {od : Option Addr} {o : Obj} {vs : Array Value} (h1 : h.get? e = some o) (h2 : o.cls = .ref C) (h3 : o.dict = od) (h4 : o.data = .fields vs) : ObjOk P w H h e (ErrO C od e) :=
  ⟨⟨o, vs, h1, h2, h3, h4⟩, ⟨o, h1⟩, fun _ _ z k => let ⟨o, vs, a, b, c, d⟩ := z; ⟨o, vs, k o a, b, c, d⟩⟩
theorem errO_at {P : Program} {w : World} {H : Hp} {h : Heap} {C e : Addr} {od : Option Addr} (x : ObjOk P w H h e (ErrO C od e)) : ∃ o vs, h.get? e = some o ∧ o.cls = .ref C ∧ o.dict = od ∧ o.data = .fields vs := x.1
section
variable {X : Cx} {pins : List (Addr × Obj)} {σ : St} {H : Hp} {s : Shared} {h' : Heap} {C e : Addr} {od : Option Addr} {oe : Obj}
theorem Inv.left (I : Inv X pins σ H s) (he : H e = some (ErrO C od e)) (ho : s.heap.get? e = some oe) (lf : Lft (frs X.stack) e oe s.heap h') : Inv X pins σ H { s with heap := h' } := by
  obtain ⟨o, vs, q1, q2, q3, q4⟩ := errO_at (I.hok e _ he)
  rw [ho] at q1
  cases q1
  have stk := I.stkFree
  obtain ⟨vs2, T, oT, ts, r1, _⟩ := lf.err
  have tr : ∀ b u, H b = some u → b ∉ frs X.stack := fun b u z hb => by rw [stk b hb] at z; cases z
  refine I.call (g' := s.gens) (d' := s.drawn) (t' := s.toks) (ch := []) ⟨fun b o z n hb _ => lf.keep b o hb (fun q => by rw [q, he] at n; cases n) z, fun b o z n hb _ => lf.slot b o hb z, fun b o z n _ => n, fun b o z _ => ?_, fun _ _ z => z, fun _ _ _ z => z, fun b ps z => ⟨#[], by rw [z]; simp⟩⟩ (fun a u z => ?_) I.bare (fun b z => nomatch z)
  · by_cases hb : b ∈ frs X.stack
    · obtain ⟨sl, q⟩ := lf.slot b o hb z; exact ⟨_, q⟩
    · by_cases hbe : b = e
      · subst hbe; exact ⟨_, r1⟩
      · exact ⟨o, lf.keep b o hb hbe z⟩
  · by_cases hae : a = e
    · subst hae
      rw [he] at z
      cases z
      exact errO_ok r1 q2 q3 rfl
    · refine (I.hok a u z).stay (fun b v hb q => ?_) (fun _ q => q) fun _ _ _ q => q
      rcases hb with rfl | hb
      · exact lf.keep _ v (tr _ _ z) hae q
      · exact lf.keep _ v (tr _ _ hb) (fun y => by rw [y, he] at hb; cases hb) q
end
def CXE (P : Program) (w : World) : CXT := fun outer H s E ev s' => ∃ (e C : Addr) (od : Option Addr) (H' : Hp) (oe : Obj) (vs : Array Value) (T : Addr) (oT : Obj) (ts : Array Value),
  ev = .ref e ∧ s'.os = s.os ∧ AllBare s'.gens ∧ Un (frs outer) [] H H' s.heap s'.heap ∧ HOk P w H' s'.heap ∧ H' e = some (ErrO C od e) ∧ s'.heap.get? e = some oe ∧ oe.data = .fields vs ∧ vs[1]? = some (.ref T) ∧ T ≠ e ∧
  s.heap.objs.size ≤ T ∧ H' T = none ∧ s'.heap.get? T = some oT ∧ oT.data = .fields ts ∧ ts[3]? = some .none ∧ E (.ref e) od H'
theorem raise_out {P : Program} {w : World} {K : PySem.W.Frag} {mg : Str → Option Value} {base : Heap} {N : List Str} {qual : Str} {scope : Scope} {f : Addr} {cd : Value} {A : Around} {outer : List Env} {s s' : Shared} {H H' : Hp} {E : XK} {pins : List (Addr × Obj)} {σ : St}
    {C e : Addr} {od : Option Addr} {oe : Obj} {vs : Array Value} (I : Inv (cxOf (CXE P w) P w K mg base N qual scope f cd A outer s H E) pins σ H' s') (he : H' e = some (ErrO C od e)) (ho : s'.heap.get? e = some oe) (hd : oe.data = .fields vs) (h1 : vs[1]? = some .none) (hE : E (.ref e) od H') :
    (cxOf (CXE P w) P w K mg base N qual scope f cd A outer s H E).xe (.ref e) s' := by
  refine leave_err (base := base) I.ok.frames I.stack rfl ho hd h1 fun h' lf => ?_
  have I2 := I.left he ho lf
  obtain ⟨vs2, T, oT, ts, r1, r2, r3, r4, r5, r6, r7⟩ := lf.err
  have sT : s.heap.objs.size ≤ T := Nat.le_trans I.sz r4
  have nT : s'.heap.get? T = none := Heap.get?_none_of_le r4
  have hT : H' T = none := by
    cases z : H' T with
    | none => rfl
    | some u =>
      obtain ⟨o2, z2⟩ := (I.hok T u z).obj
      rw [nT] at z2
      cases z2
  exact ⟨e, C, od, H', _, _, T, oT, ts, rfl, I2.os, I2.bare, I2.base, I2.hok, he, r1, rfl, r2, r3, sT, hT, r5, r6, r7, hE⟩
end L2
namespace L2
open PySem PySem.Spec PyProof.Rows
def veMro : List Value := [.type "ValueError", .type "Exception", .type "BaseException", .type "object"]
def excMkIn (K : PySem.W.Frag) (C : Addr) : Bool := match K.lookup C with
  | some ⟨.type "type", _, .cls cd, sl⟩ => (match cd.mro, sl.toList with
    | .ref C' :: bm, [_, _, _, _, some (.builtin n), _] => C' == C && n == "ValueError.__new__" && !cd.hasDel && PySem.W.tailIn K veMro bm
    | _, _ => false)
  | _ => false
theorem excMk_of {K : PySem.W.Frag} {h : Heap} {C : Addr} (X : K.In h) (q : excMkIn K C = true) : ∃ nm qn N bs bm hd sn sub ab col dd k0 k1 k2 k3 k5,
    h.get? C = some (excClassObj nm qn C N bs bm hd sn sub ab col dd k0 k1 k2 k3 k5 "ValueError.__new__") ∧ OwnTail h veMro bm := by
  unfold excMkIn at q
  split at q
  · rename_i dd cd sl ho
    split at q
    · rename_i C' bm k0 k1 k2 k3 n k5 hm hs
      simp only [Bool.and_eq_true, beq_iff_eq, Bool.not_eq_true'] at q
      obtain ⟨⟨⟨rfl, rfl⟩, hdel⟩, ht⟩ := q
      obtain ⟨nm, bs, mro, ns, qn, hd, sn, sub, ab, col, del⟩ := cd
      dsimp only at hm hdel
      subst hm hdel
      have hsl : sl = #[k0, k1, k2, k3, some (.builtin "ValueError.__new__"), k5] := by
        obtain ⟨l⟩ := sl
        simp only at hs
        rw [hs]
      subst hsl
      exact ⟨nm, qn, ns, bs, bm, hd, sn, sub, ab, col, dd, k0, k1, k2, k3, k5, X _ _ ho, PySem.W.tail_of_in X ht⟩
    · cases q
  · cases q
structure ErrK (K : PySem.W.Frag) (C : Addr) : Prop where
  z : ErrCls K C
  sa : PySem.W.findIn K (.ref C) "__setattr__" = some (some (.builtin "object.__setattr__"))
  ca : PySem.W.findIn K (.ref C) "__class__" = some (some (.builtin "object.__class__"))
  cg : PySem.W.specialIn K (.builtin "object.__class__") "__get__" = some (some (.builtin "getset_descriptor.__get__"))
  ct : PySem.W.takesIn K (.builtin "object.__class__") = some true
  mo : PySem.W.mroIn K C (.type "object") = some true
  hd : PySem.W.hasDictIn K C = true
  mm : (PySem.W.clsIn K C).any (fun cd => errMro cd.mro && cd.hasDict) = true
  made : excMkIn K C = true
  kp : PySem.W.keepIn K (.ref C) = true
def ErrN (C : Addr) (od : Option Addr) (e : Addr) : HO := .ext fun h => ∃ o t, h.get? e = some o ∧ o.cls = .ref C ∧ o.dict = od ∧ o.data = .fields #[.ref t, .none, .none, .none, .bool false, .none]
theorem errN_ok {P : Program} {w : World} {H : Hp} {h : Heap} {C e t : Addr} {od : Option Addr} {o : Obj} (h1 : h.get? e = some o) (h2 : o.cls = .ref C) (h3 : o.dict = od) (h4 : o.data = .fields #[.ref t, .none, .none, .none, .bool false, .none]) : ObjOk P w H h e (ErrN C od e) :=
  ⟨⟨o, t, h1, h2, h3, h4⟩, ⟨o, h1⟩, fun _ _ z k => let ⟨o, t, a, b, c, d⟩ := z; ⟨o, t, k o a, b, c, d⟩⟩
theorem errN_at {P : Program} {w : World} {H : Hp} {h : Heap} {C e : Addr} {od : Option Addr} (x : ObjOk P w H h e (ErrN C od e)) : ∃ o t, h.get? e = some o ∧ o.cls = .ref C ∧ o.dict = od ∧ o.data = .fields #[.ref t, .none, .none, .none, .bool false, .none] := x.1
theorem not_freed {o : Obj} {vs : Array Value} (h : o.data = .fields vs) : PySem.W.notCls o = true := by
  obtain ⟨c, d, dt, sl⟩ := o
  cases h
  rfl
section
variable {X : Cx} {pins : List (Addr × Obj)} {σ : St} {H : Hp} {s : Shared}
theorem Inv.errOld {C e : Addr} {od : Option Addr} (I : Inv X pins σ H s) (he : H e = some (ErrN C od e)) : Inv X pins σ (upd H e (ErrO C od e)) s := by
  obtain ⟨o, t, a, b, c, d⟩ := errN_at (I.hok e _ he)
  exact I.write (x := e) (e := e) (h' := s.heap) (t' := s.toks) (by rw [he]; trivial) (.inl rfl) (fun _ _ _ q => q) ⟨o, a⟩ (errO_ok a b c d)
end
end L2
namespace L2
open PySem PySem.Spec PyProof.Rows
def tMkE0 (C : Addr) : TE := fun _ H Q => ∀ x, H x = none → Q (.ref x) (upd H x (ErrN C none x))
section
variable {X : Cx} {k : Nat} {f C : Addr} {fd : FuncData} {ps : List Str} {sp : Sp} {x : Str} {p pos : Pos} {e : Expr} {es : List Expr} {t : TA} {te : TE}
theorem new_err {pins : List (Addr × Obj)} {σ : St} {H : Hp} {s : Shared} {h' : Heap} {e : Addr} {us : List Value} (I : Inv X pins σ H s) (m : Heap.MadeExcOf s.heap h' e (.ref C) us) :
    H e = none ∧ Inv X pins σ (upd H e (ErrN C none e)) { s with heap := h' } := by
  obtain ⟨kp, nE, t, he, _⟩ := m
  exact I.laidN (t' := s.toks) kp (fun b u q z => by rw [z, nE] at q; cases q) (errN_ok he rfl rfl rfl)
theorem excNo_of {K : PySem.W.Frag} {h : Heap} {C : Addr} (X : K.In h) (q : PySem.W.excIn K C veMro "ValueError.__new__" = true) : ∃ nm qn N bs bm hd sn sub ab col dd k0 k1 k2 k3 k5, ∃ mN : Str → Option Value,
    h.get? C = some (excClassObj nm qn C N bs bm hd sn sub ab col dd k0 k1 k2 k3 k5 "ValueError.__new__") ∧ h.Ns N mN ∧ mN "__init__" = none ∧ OwnTail h veMro bm := by
  unfold PySem.W.excIn at q
  split at q
  · rename_i dd cd sl ho
    split at q
    · rename_i C' bm k0 k1 k2 k3 n k5 hm hs
      simp only [Bool.and_eq_true, beq_iff_eq, Bool.not_eq_true'] at q
      obtain ⟨⟨⟨⟨⟨rfl, rfl⟩, hdel⟩, ht⟩, hok⟩, hni⟩ := q
      obtain ⟨nm, bs, mro, ns, qn, hd, sn, sub, ab, col, del⟩ := cd
      dsimp only at hm hdel hok hni
      subst hm hdel
      have hsl : sl = #[k0, k1, k2, k3, some (.builtin "ValueError.__new__"), k5] := by
        obtain ⟨l⟩ := sl
        simp only at hs
        rw [hs]
      subst hsl
      exact ⟨nm, qn, ns, bs, bm, hd, sn, sub, ab, col, dd, k0, k1, k2, k3, k5, _, X _ _ ho, .of_isNs (PySem.W.isNs_of_in X hok), PySem.W.nsMap_none_of_in X hok hni, PySem.W.tail_of_in X ht⟩
    · cases q
  · cases q
theorem pe_mkE0 (q : PySem.W.excIn X.K C veMro "ValueError.__new__" = true) (hk : PySem.W.keepIn X.K (.ref C) = true) (hg : Gl X x) (hm : X.mg x = some (.ref C)) (hdb : (x == ("__debug__" : Str)) = false := by decide) : PE X (.Call (.Name x p) [] [] pos) (tMkE0 C) := by
  intro pins s σ H Q I h
  refine wpAny_Call_Name_kw (ld_glob I hg hm ?_ hdb)
  refine PySem.W.callWith_K0 I.kIn hk ?_
  obtain ⟨nm, qn, N, bs, bm, hd, sn, sub, ab, col, dd, k0, k1, k2, k3, k5, mN, hC, hN, hni, T⟩ := excNo_of I.kIn q
  obtain ⟨hp, g, d, tk, os⟩ := s
  refine wpAny_call_exc_subT (rest := []) PySem.F.excBase_ValueError T hC hN hni fun h' e m => ?_
  obtain ⟨n1, I2⟩ := new_err I m
  exact ⟨V.ref e, _, I2, rfl, h e n1⟩
def Raises (X : Cx) (E : XK) : Prop := ∀ (pins : List (Addr × Obj)) (σ : St) (H : Hp) (s : Shared) (e C : Addr) (od : Option Addr) (oe : Obj) (vs : Array Value), Inv X pins σ H s → H e = some (ErrO C od e) → s.heap.get? e = some oe → oe.data = .fields vs → vs[1]? = some .none → E (.ref e) od H → X.xe (.ref e) s
theorem raises_cx {P : Program} {w : World} {K : PySem.W.Frag} {mg : Str → Option Value} {base : Heap} {N : List Str} {qual : Str} {scope : Scope} {f : Addr} {cd : Value} {A : Around} {outer : List Env} {s : Shared} {H : Hp} {E : XK} :
    Raises (cxOf (CXE P w) P w K mg base N qual scope f cd A outer s H E) E := fun _ _ _ _ _ _ _ _ _ I he ho hd h1 hE => raise_out I he ho hd h1 hE
def tRaise (K : PySem.W.Frag) (E : XK) (te : TE) : TS := fun _ σ H => te σ H fun v H1 => ∃ e C od, v = .ref e ∧ H1 e = some (ErrN C od e) ∧ ErrK K C ∧ E (.ref e) od (upd H1 e (ErrO C od e))
theorem raise_made {M : Model} {A : Around} {Ex : Value → Shared → Prop} {env : Env} {s : Shared} {x : Sem Value} {Q : Flow → Shared → Prop} {K : PySem.W.Frag} (hh : A.handled = none)
    (h : wpAny M A x (fun v s₁ => ∃ e C oe vs, v = .ref e ∧ K.In s₁.heap ∧ excMkIn K C = true ∧ s₁.heap.get? e = some oe ∧ oe.cls = .ref C ∧ oe.data = .fields vs ∧ vs[1]? = some .none ∧ Ex (.ref e) s₁) Ex s) :
    wpAny M A (raiseStmt env (some x) none) Q Ex s := by
  unfold raiseStmt
  refine wpAny_bind (wpAny_mono h (fun v s₁ h₁ => ?_) fun _ _ x => x)
  obtain ⟨e, C, oe, vs, rfl, X, hc, he, hcl, hd, h1, hE⟩ := h₁
  obtain ⟨nm, qn, N, bs, bm, hdd, sn, sub, ab, col, dd, k0, k1, k2, k3, k5, hC, T⟩ := excMk_of X hc
  have hcB : (Value.ref C :: bm).contains (.type "BaseException") = true := by rw [List.contains_cons, T.hasType (b := true) (by decide), Bool.or_true]
  obtain ⟨hp, g, d, tk, os⟩ := s₁
  obtain ⟨oc, od, odt, osl⟩ := oe
  cases hcl
  cases hd
  repeat (first | with_reducible refine wpAny_loadPart_at he ?_ | with_reducible refine wpAny_loadPart_at hC ?_ | (with_reducible refine wpAny_isSubtype_exc hC ?_; rw [hcB]) | wp_step)
  rw [h1]
  refine wpAny_pure ?_
  rw [if_neg (by decide)]
  exact wpAny_pure (wpAny_raiseNew_none hh hE)
theorem ps_raise {E : XK} (hx : Raises X E) (hc : X.calm = true) (he : PE X e te) : PS X (.Raise (some e) none pos) (tRaise X.K E te) := by
  intro pins s σ H D I h
  rw [arm_exec_Raise]
  refine wpAny_bind (wpAny_standAt ?_)
  refine raise_made (K := X.K) (I.ok.hd hc) ?_
  refine wpAny_bind (thn (he pins s σ H _ I h) fun u s1 ⟨v, H1, I1, rv, a, C, od, ev, ea, Z, q⟩ => ?_)
  subst ev
  obtain rfl : u = Value.ref a := rv
  obtain ⟨o, t, h1, h2, h3, h4⟩ := errN_at (I1.hok a _ ea)
  exact wpAny_bind (wpAny_standAt (wpAny_pure ⟨a, C, o, _, rfl, I1.kIn, Z.made, h1, h2, h4, rfl, hx pins σ _ s1 a C od o _ (I1.errOld ea) upd_same h1 h4 rfl q⟩))
end
end L2
namespace L2
open PySem PySem.Spec PyProof.Rows
section
variable {X : Cx} {o e value : Expr} {f : Str} {pos pos' : Pos} {ta tv : TE}
end
end L2
namespace L2
open PySem PySem.Spec PyProof.Rows
section
variable {prog : Program} {w : World} {A : Around} {E : Value → Shared → Prop} {s : Shared} {K : PySem.W.Frag} {x D : Addr} {ox : Obj} {odo : Option Obj}
theorem err_class {Q : Option Value → Shared → Prop} (Z : ErrK K D) (X : K.In s.heap) (I : PySem.W.InstAt s.heap x ox D odo) (h : Q (some (.ref D)) { s with toks := s.toks + 1 }) : wpAny (model prog w) A (getAttr? (.ref x) "__class__") Q E s := by
  have hf : PySem.W.findObj K D odo "__class__" = some (.bind (.builtin "getset_descriptor.__get__") (.builtin "object.__class__")) := by
    obtain ⟨cd, hc, _⟩ := PySem.W.any_some Z.hd
    unfold PySem.W.findObj
    rw [hc, Option.bind_some, Z.ca, Option.bind_some]
    dsimp only
    rw [Z.cg, Option.bind_some]
    dsimp only
    rw [Z.ct, Option.bind_some]
  obtain ⟨hp, g, d, t, os⟩ := s
  have L0 := I.type (M := model prog w)
  have L1 := PySem.W.looks_findIn (M := model prog w) X Z.z.ga
  have L2 := PySem.W.looks_findIn (M := model prog w) X Z.z.gx
  have L3 := PySem.W.looks_mroIn (M := model prog w) X Z.z.ex
  have L4 := PySem.W.looks_find (M := model prog w) X I hf
  have f3 := PySem.F.attr_ValueError.ga.bind (.ref x)
  have hx1 : (onTheHeap (Value.ref D) && Value.builtin "BaseException.__getattribute__" == Value.builtin "object.__getattribute__") = false := by
    rw [show (Value.builtin "BaseException.__getattribute__" == Value.builtin "object.__getattribute__") = false by decide +kernel]; rfl
  unfold getAttr? getAttrBy? getAttrBy
  refine wpAny_bind (wpAny_mkText (wpAny_bind (wpAny_attempt (wpAny_holding (wpAny_bind (L0.at (wpAny_bind (L1.at ?_))))))))
  dsimp only
  rw [hx1, if_neg Bool.false_ne_true]
  unfold getAttrByItsOwn hookBefore
  rw [if_pos (show onTheHeap (Value.ref D) = true from rfl)]
  refine wpAny_bind (L2.at (wpAny_bind (wpAny_attempt (wpAny_holding ?_))))
  unfold callGetattribute boundAndCalled
  rw [if_neg (by simp)]
  refine wpAny_bind (wpAny_of_eq f3 (wpAny_call (codeAny_call_builtin PySem.F.attr_ValueError.ga.plain PySem.F.entry_bexc_ga ?_)))
  have hk : builtinKind "BaseException.__getattribute__" = some .slot := by decide +kernel
  have hs : splitId "BaseException.__getattribute__" = some ("BaseException", "__getattribute__") := by decide +kernel
  have ha := PySem.F.args_bexc_ga (.ref x) (.str "__class__" t)
  simp only [List.singleton_append, checkBuiltinCall, hk, hs]
  refine wpAny_bind ?_
  unfold isInstance
  refine wpAny_bind (PySem.W.Looks.at L0 (PySem.W.Looks.at L3 ?_))
  rw [if_neg (by simp)]
  refine wpAny_of_eq (a := ()) ha ?_
  unfold Builtin.«object.__getattribute__»
  refine wpAny_bind (wpAny_pure (wpAny_bind (wpAny_pure (wpAny_bind (PySem.W.Looks.at L0 (wpAny_bind (PySem.W.Looks.at L4 ?_)))))))
  show wpAny _ _ (holding [_] (call (.builtin "getset_descriptor.__get__") [.builtin "object.__class__", .ref x, .ref D]) >>= ret) _ _ _
  refine wpAny_bind (wpAny_holding (wpAny_call (PySem.W.class_get (ox := ox) (od := odo) X I Z.mo ?_)))
  exact wpAny_pure (PySem.W.handed_on rfl (wpAny_pure h))
theorem kitx_err (Z : ErrK K D) : PySem.W.KitX K (.ref x) (.ref D) (fun h => ∃ ox odo, PySem.W.InstAt h x ox D odo) where
  ty := fun _ _ _ ⟨_, _, I⟩ => I.type
  it := fun _ _ X _ => by
    obtain ⟨cdD, hcD, _⟩ := PySem.W.any_some Z.hd
    unfold PySem.W.clsIn at hcD
    split at hcD
    · rename_i c' d' cd' sl' ho
      intro A' Q' E' s' k q
      unfold isType loadHead
      exact wpAny_bind (wpAny_loadPart (k _ _ (X _ _ ho)) (wpAny_pure q))
    · cases hcD
  ne := fun h tp dd its n sl X htp => by
    obtain ⟨cdD, hcD, _⟩ := PySem.W.any_some Z.hd
    refine Bool.eq_false_iff.mpr fun q => ?_
    have e : D = tp := Value.ref.inj (beq_iff_eq.mp q)
    subst e
    unfold PySem.W.clsIn at hcD
    split at hcD
    · rename_i c' d' cd' sl' ho
      have z := (X _ _ ho).symm.trans htp
      cases z
    · cases hcD
  ca := fun X ⟨_, _, I⟩ k => err_class Z X I k
end
theorem err_at {P : Program} {w : World} {H : Hp} {h : Heap} {C e : Addr} {od : Option Addr} (hok : HOk P w H h) (he : H e = some (ErrO C od e)) (hd : ∀ dx, od = some dx → ∃ o, h.get? dx = some o) : ∃ o odo, PySem.W.InstAt h e o C odo := by
  obtain ⟨o, vs, a, b, c, d⟩ := errO_at (hok e _ he)
  cases od with
  | none => exact ⟨o, none, a, b, not_freed d, by rw [c]; trivial⟩
  | some dx =>
    obtain ⟨oo, ho⟩ := hd dx rfl
    exact ⟨o, some oo, a, b, not_freed d, by rw [c]; exact ho⟩
def DictOk (H : Hp) (od : Option Addr) : Prop := ∀ dx, od = some dx → ∃ fs, H dx = some (.xd fs)
theorem DictOk.none {H : Hp} : DictOk H none := fun _ z => nomatch z
theorem DictOk.some {H : Hp} {dx : Addr} {fs : List (Str × V)} (h : H dx = some (.xd fs)) : DictOk H (some dx) := fun _ z => by cases z; exact ⟨fs, h⟩
theorem DictOk.there {P : Program} {w : World} {H : Hp} {h : Heap} {od : Option Addr} (hok : HOk P w H h) (d : DictOk H od) : ∀ dx, od = Option.some dx → ∃ o, h.get? dx = Option.some o := fun dx z => by
  obtain ⟨fs, e⟩ := d dx z
  exact (hok dx _ e).obj
def rIsiE (K : PySem.W.Frag) : List V → Hp → VK → Prop := fun xs H Q => ∃ (a C : Addr) (od : Option Addr) (c : V) (cv : Value) (b : Bool), xs = [.ref a, c] ∧ H a = some (ErrO C od a) ∧ DictOk H od ∧ ErrK K C ∧ (∀ u, RelV c u → u = cv) ∧ PySem.W.kitOne K (.ref C) cv = some b ∧ Q (.bl b) H
def rIsiTE (K : PySem.W.Frag) : List V → Hp → VK → Prop := fun xs H Q => ∃ (a C p : Addr) (od : Option Addr) (cs : List V) (cv : List Value) (b : Bool), xs = [.ref a, .ref p] ∧ H a = some (ErrO C od a) ∧ DictOk H od ∧ ErrK K C ∧ H p = some (.tup cs) ∧ (∀ us, Vals cs us → us = cv) ∧ PySem.W.kitAny K (.ref C) cv = some b ∧ Q (.bl b) H
section
variable {X : Cx} {K : PySem.W.Frag} {H : Hp} {Q : VK}
theorem call_isiE : CallR X (.builtin "isinstance") (rIsiE X.K) := by
  intro pins s σ H xs us Q I r h
  obtain ⟨a, C, od, c, cv, b, rfl, ha, hd, Z, hc, e, q⟩ := h
  obtain ⟨u, w', rfl, rx, ry⟩ := vals2 r
  cases (show u = Value.ref a from rx)
  obtain rfl := hc _ ry
  exact PySem.W.kia_one (kitx_err Z) I.kIn (err_at I.hok ha (hd.there I.hok)) e (fun z => nomatch z) fun tk => ⟨.bl b, H, I.tok _, rfl, q⟩
theorem call_isiTE : CallR X (.builtin "isinstance") (rIsiTE X.K) := by
  intro pins s σ H xs us Q I r h
  obtain ⟨a, C, p, od, cs, cv, b, rfl, ha, hd, Z, hp, hc, e, q⟩ := h
  obtain ⟨u, w', rfl, rx, ry⟩ := vals2 r
  cases (show u = Value.ref a from rx)
  cases (show w' = Value.ref p from ry)
  obtain ⟨hz, its, rv, ⟨o, ho, hcl, n, hdt⟩⟩ := (show ObjOk X.prog X.w H s.heap p (.tup cs) from I.hok p _ hp)
  obtain rfl := hc _ rv
  obtain ⟨oc, oo, odt, osl⟩ := o
  replace hcl : oc = .type "tuple" := hcl
  replace hdt : odt = .seq its.toArray n := hdt
  subst hcl hdt
  exact PySem.W.kia_tup (kitx_err Z) I.kIn (err_at I.hok ha (hd.there I.hok)) ho e (fun z => nomatch z) fun tk => ⟨.bl b, H, I.tok _, rfl, q⟩
theorem rd_isiE {a C C' : Addr} {od : Option Addr} {b : Bool} (ha : H a = some (ErrO C od a)) (hd : DictOk H od) (Z : ErrK K C) (e : PySem.W.kitOne K (.ref C) (.ref C') = some b) (h : Q (.bl b) H) : rIsiE K [.ref a, .ref C'] H Q := ⟨a, C, od, .ref C', .ref C', b, rfl, ha, hd, Z, fun _ z => z, e, h⟩
theorem rd_isiEt {a C : Addr} {od : Option Addr} {b : Bool} {T : String} (ha : H a = some (ErrO C od a)) (hd : DictOk H od) (Z : ErrK K C) (e : PySem.W.kitOne K (.ref C) (.type T) = some b) (h : Q (.bl b) H) : rIsiE K [.ref a, .ty T] H Q := ⟨a, C, od, .ty T, .type T, b, rfl, ha, hd, Z, fun _ z => z, e, h⟩
theorem vals_refs : ∀ {cs : List Addr} {us : List Value}, Vals (cs.map V.ref) us → us = cs.map Value.ref
  | [], _, .nil => rfl
  | c :: cs, _, .cons r t => by cases r; rw [vals_refs t]; rfl
theorem rd_isiTE {a C p : Addr} {od : Option Addr} {cs : List Addr} {b : Bool} (ha : H a = some (ErrO C od a)) (hd : DictOk H od) (Z : ErrK K C) (hp : H p = some (.tup (cs.map V.ref))) (e : PySem.W.kitAny K (.ref C) (cs.map Value.ref) = some b) (h : Q (.bl b) H) : rIsiTE K [.ref a, .ref p] H Q :=
  ⟨a, C, p, od, cs.map V.ref, cs.map Value.ref, b, rfl, ha, hd, Z, hp, fun _ z => vals_refs z, e, h⟩
end
end L2
namespace L2
open PySem PySem.Spec PyProof.Rows
abbrev TW := St → Hp → Addr → Prop
structure TrFree (X : Cx) (pins : List (Addr × Obj)) (T : Addr) : Prop where
  up : X.s₀.heap.objs.size ≤ T
  loc : T ≠ X.env.locals
  cell : ∀ x c, X.env.cells.lookup x = some c → c ≠ T
  pin : ∀ p ∈ X.pn ++ pins, p.1 ≠ T
structure Held (X : Cx) (pins : List (Addr × Obj)) (H : Hp) (h : Heap) (e : Addr) : Prop where
  ex : ∃ (C : Addr) (od : Option Addr) (oe : Obj) (vs : Array Value) (T : Addr) (oT : Obj) (ts : Array Value), H e = some (ErrO C od e) ∧ h.get? e = some oe ∧ oe.data = .fields vs ∧ vs[1]? = some (.ref T) ∧ T ≠ e ∧ TrFree X pins T ∧ H T = none ∧ h.get? T = some oT ∧ oT.data = .fields ts ∧ ts[3]? = some .none
def Caught (X : Cx) (pins : List (Addr × Obj)) (W : TW) (ev : Value) (s' : Shared) : Prop := ∃ (e : Addr) (σ : St) (H' : Hp), ev = .ref e ∧ Inv X pins σ H' s' ∧ Held X pins H' s'.heap e ∧ W σ H' e
def Cx.tr (X : Cx) (pins : List (Addr × Obj)) (W : TW) : Cx := { X with pn := X.pn ++ pins, xe := Caught X pins W }
def Cx.hnd (X : Cx) (e : Addr) : Cx := { X with A := X.A.mark (some (.ref e)), calm := false, xe := fun _ _ => False }
section
variable {X : Cx} {pins pins' : List (Addr × Obj)} {σ : St} {H : Hp} {s : Shared} {W : TW} {e : Addr}
theorem Cx.Ok.tr (ok : X.Ok) : (X.tr pins W).Ok := ⟨ok.mod, ok.kind, ok.glob, ok.blt, ok.above, ok.inj, ok.has, ok.cab, ok.hd, ok.frames, ok.stk, ok.exf, ok.bs, ok.bsz, ok.noex, ok.exfs, ok.funs, ok.frf⟩
theorem Cx.Ok.untr (ok : (X.tr pins W).Ok) : X.Ok := ⟨ok.mod, ok.kind, ok.glob, ok.blt, ok.above, ok.inj, ok.has, ok.cab, ok.hd, ok.frames, ok.stk, ok.exf, ok.bs, ok.bsz, ok.noex, ok.exfs, ok.funs, ok.frf⟩
theorem Cx.Ok.hnd (ok : X.Ok) : (X.hnd e).Ok := ⟨ok.mod, ok.kind, ok.glob, ok.blt, ok.above, ok.inj, ok.has, ok.cab, (fun z => Bool.noConfusion z), ok.frames, ok.stk, ok.exf, ok.bs, ok.bsz, ok.noex, ok.exfs, ok.funs, ok.frf⟩
theorem Inv.tr (I : Inv X pins σ H s) : Inv (X.tr pins W) [] σ H s := ⟨I.ok.tr, I.os, I.bare, I.base, I.loc, I.cell, I.free, I.freeC, fun p hp => I.pin p (by rw [List.append_nil] at hp; exact hp), I.hok, I.len⟩
theorem Inv.untr (I : Inv (X.tr pins W) pins' σ H s) : Inv X pins σ H s := ⟨I.ok.untr, I.os, I.bare, I.base, I.loc, I.cell, I.free, I.freeC, fun p hp => I.pin p (List.mem_append_left _ hp), I.hok, I.len⟩
theorem Inv.hnd (I : Inv X pins σ H s) : Inv (X.hnd e) pins σ H s := ⟨I.ok.hnd, I.os, I.bare, I.base, I.loc, I.cell, I.free, I.freeC, I.pin, I.hok, I.len⟩
theorem Inv.unhnd (ok : X.Ok) (I : Inv (X.hnd e) pins σ H s) : Inv X pins σ H s := ⟨ok, I.os, I.bare, I.base, I.loc, I.cell, I.free, I.freeC, I.pin, I.hok, I.len⟩
theorem SP.untr {D : Ends} {f : Flow} {s' : Shared} (h : SP (X.tr pins W) [] D f s') : SP X pins D f s' := by
  cases f with
  | next => obtain ⟨σ', H', I, q⟩ := h; exact ⟨σ', H', I.untr, q⟩
  | brk => obtain ⟨σ', H', I, q⟩ := h; exact ⟨σ', H', I.untr, q⟩
  | cont => obtain ⟨σ', H', I, q⟩ := h; exact ⟨σ', H', I.untr, q⟩
  | ret u => obtain ⟨v, σ', H', I, r, q⟩ := h; exact ⟨v, σ', H', I.untr, r, q⟩
theorem caught_of {P : Program} {w : World} {E : XK} {ev : Value} {s' : Shared} (hP : X.prog = P) (hw : X.w = w) (I : Inv X pins σ H s) (h : CXE P w X.stack H s E ev s') (hE : ∀ e od H', E (.ref e) od H' → W σ H' e) : Caught X pins W ev s' := by
  subst hP hw
  obtain ⟨e, C, od, H', oe, vs, T, oT, ts, rfl, os, bare, un, hok, he, ho, hd, h1, nT, sT, hT, g1, g2, g3, hq⟩ := h
  have I2 : Inv X pins σ H' s' := I.call' os un hok bare (fun b z => nomatch z)
  have nn : ∀ b o, s.heap.get? b = some o → b ≠ T := fun b o z w' => absurd (Heap.lt_size z) (by rw [w']; exact Nat.not_lt.mpr sT)
  obtain ⟨m, ⟨oL, _, _, hoL, _⟩, _⟩ := id I.loc
  refine ⟨e, σ, H', rfl, I2, ⟨C, od, oe, vs, T, oT, ts, he, ho, hd, h1, nT, ⟨Nat.le_trans I.sz sT, (nn _ _ hoL).symm, fun x c z => ?_, fun p hp => nn _ _ (I.pin p hp).1⟩, hT, g1, g2, g3⟩, hE e od H' hq⟩
  obtain ⟨v, o, z2, _⟩ := I.cell x c z
  exact nn _ _ z2
theorem Inv.trace {T : Addr} {h' : Heap} (I : Inv X pins σ H s) (F : TrFree X pins T) (hT : H T = none) (k : ∀ b, b ≠ T → h'.get? b = s.heap.get? b) : Inv X pins σ H { s with heap := h' } :=
  I.turned (t' := s.toks) (it := T) (fun b o hb z => (k b hb).trans z) hT F.loc (.inr F.up) F.cell F.pin
theorem held_look {M : Model} {A : Around} {Ex : Value → Shared → Prop} {Q : Unit → Shared → Prop} {env : Env} {outer : List Env} {L : Addr} (hA : A.frames = some (env :: outer)) (hst : X.stack = env :: outer) (hf : env.frame = some L) (I : Inv X pins σ H s) (F : Held X pins H s.heap e)
    (h : ∀ s', Inv X pins σ H s' → Held X pins H s'.heap e → Q () s') :
    wpAny M A (noteFrame (.ref e) env) (fun _ s2 => wpAny M A (setFlight (.ref e) none) Q Ex s2) Ex s := by
  obtain ⟨C, od, oe, vs, T, oT, ts, he, ho, hd, h1, nT, TF, hT, g1, g2, g3⟩ := F.ex
  refine look_err (base := X.base) hA (by rw [← hst]; exact I.stack) hf ho hd h1 g1 g2 g3 nT fun h2 h' k2 sz2 lf => ?_
  have I2 := I.trace TF hT k2
  have ho2 : h2.get? e = some oe := (k2 e (Ne.symm nT)).trans ho
  have I3 := I2.left (s := { s with heap := h2 }) he ho2 (by rw [hst]; exact lf)
  obtain ⟨vs2, T2, oT2, ts2, r1, r2, r3, r4, r5, r6, r7⟩ := lf.err
  rw [sz2] at r4
  have nn : ∀ b o, s.heap.get? b = some o → b ≠ T2 := fun b o z w' => absurd (Heap.lt_size z) (by rw [w']; exact Nat.not_lt.mpr r4)
  obtain ⟨m, ⟨oL, _, _, hoL, _⟩, _⟩ := id I.loc
  refine h _ I3 ⟨C, od, _, vs2, T2, oT2, ts2, he, r1, rfl, r2, r3, ⟨Nat.le_trans I.sz r4, (nn _ _ hoL).symm, fun x c z => ?_, fun p hp => nn _ _ (I.pin p hp).1⟩, I.hok.fresh r4, r5, r6, r7⟩
  obtain ⟨v, o, z2, _⟩ := I.cell x c z
  exact nn _ _ z2
theorem held_land {M : Model} {A : Around} {Ex : Value → Shared → Prop} {Q : Unit → Shared → Prop} (I : Inv X pins σ H s) (F : Held X pins H s.heap e) (h : ∀ s', Inv X pins σ H s' → Q () s') : wpAny M A (setFlight (.ref e) none) Q Ex s := by
  obtain ⟨C, od, oe, vs, T, oT, ts, he, ho, hd, h1, nT, TF, hT, g1, g2, g3⟩ := F.ex
  refine wpAny_setFlight_none ho hd h1 g1 g2 (Array.getElem?_eq_some_iff.mp g3).1 (h _ ?_)
  exact I.trace TF hT fun b hb => Heap.get?_update_other _ _ (Ne.symm hb)
theorem name_goes {M : Model} {A : Around} {Ex : Value → Shared → Prop} {i : Nat} {n : Str} {pos : Pos} {Q : Unit → Shared → Prop} (I : Inv X pins σ H s) (hN : X.N.Nodup) (hi : X.N[i]? = some n) (hl : X.env.kindOf n = some .local)
    (h : ∀ s', Inv X pins (σ.set i none) H s' → Q () s') : wpAny M A (do bindName X.env n .none; unbindBehindTheSuite X.env n pos) Q Ex s := by
  obtain ⟨m, hn, hlk⟩ := id I.loc
  have hcls : (X.env.scope.kind == .class || (X.env.scope.kind == .module && X.env.locals != X.env.globals)) = false := by rw [I.ok.kind]; rfl
  have cne := I.cne
  refine wpAny_nameGoes_keeps hl hn hcls fun h' v hn' hs => ?_
  have tr : ∀ b o, H b = some o → b ≠ X.env.locals := fun b o z w' => by rw [w', I.free] at z; cases z
  refine h _ ⟨I.ok, I.os, I.bare, ⟨fun b o e n hb hx => ?_, fun b o e n hb hx => ?_, I.base.free, fun b o e hx => ?_, I.base.tups, I.base.frzs, I.base.tbls⟩, ⟨_, hn', fun j y v' e1 e2 e3 => ?_⟩, fun y c e => ?_, I.free, I.freeC, fun p hp => ?_, fun b ob z => ?_, by simpa using I.len⟩
  · exact (hs.2 b (Nat.ne_of_lt (Nat.lt_of_lt_of_le (Heap.lt_size e) I.ok.above))).trans (I.base.keep b o e n hb hx)
  · obtain ⟨sl, e1⟩ := I.base.slot b o e n hb hx
    exact ⟨sl, (hs.2 b (Nat.ne_of_lt (Nat.lt_of_lt_of_le (Heap.lt_size e) I.ok.above))).trans e1⟩
  · obtain ⟨o', e1⟩ := I.base.there b o e hx
    exact ⟨o', (hs.2 b (Nat.ne_of_lt (Nat.lt_of_lt_of_le (Heap.lt_size e) I.ok.above))).trans e1⟩
  · by_cases hj : j = i
    · subst hj
      exfalso
      by_cases hjl : j < σ.length
      · rw [List.getElem?_set_self hjl] at e2; cases e2
      · rw [List.getElem?_eq_none (by rw [List.length_set]; exact Nat.not_lt.mp hjl)] at e2; cases e2
    · rw [List.getElem?_set_ne (Ne.symm hj)] at e2
      obtain ⟨u', r', q⟩ := hlk j y v' e1 e2 e3
      refine ⟨u', r', ?_⟩
      rcases q with ⟨k, e⟩ | ⟨k, c, e, z⟩
      · refine .inl ⟨k, ?_⟩
        have : y ≠ n := fun e => hj (nodup_ix hN e1 (e ▸ hi))
        simp [this, e]
      · exact .inr ⟨k, c, e, z.sameBut hs (cne y c e)⟩
  · obtain ⟨w', z⟩ := I.cell y c e
    exact ⟨w', z.sameBut hs (cne y c e)⟩
  · obtain ⟨e, n, ne, nf, d⟩ := I.pin p hp
    exact ⟨(hs.2 p.1 ne).trans e, n, ne, nf, d⟩
  · refine (I.hok b ob z).stay (fun c v hc q => (hs.2 c ?_).trans q) (fun _ q => q) fun _ _ _ q => q
    rcases hc with rfl | hc
    · exact tr _ _ z
    · exact tr _ _ hc
end
abbrev TH := Ends → St → Hp → Addr → Prop
def PHs (X : Cx) (hs : List ExceptHandler) (th : TH) : Prop := ∀ (pins : List (Addr × Obj)) (s : Shared) (σ : St) (H : Hp) (D : Ends) (e : Addr), Inv X pins σ H s → Held X pins H s.heap e → th D σ H e → wpAny (model X.prog X.w) X.A (handleBy (.ref e) X.env hs) (SP X pins D) X.xe s
def tHno : TH := fun _ _ _ _ => False
def tHas (K : PySem.W.Frag) (C0 : Addr) (i : Nat) (ts : TS) (th : TH) : TH := fun D σ H e => ∃ C od b, H e = some (ErrO C od e) ∧ ErrK K C ∧ PySem.W.exmOne K (.ref C) (.ref C0) = some b ∧
  if b = true then ts ⟨fun σ' H' => D.nx (σ'.set i none) H', D.rt, fun σ' H' => D.bk (σ'.set i none) H', fun σ' H' => D.ct (σ'.set i none) H'⟩ (σ.set i (some (.ref e))) H else th D σ H e
def tHcl (K : PySem.W.Frag) (C0 : Addr) (ts : TS) (th : TH) : TH := fun D σ H e => ∃ C od b, H e = some (ErrO C od e) ∧ ErrK K C ∧ PySem.W.exmOne K (.ref C) (.ref C0) = some b ∧ if b = true then ts D σ H else th D σ H e
def tTry (tb : TW → TS) (th : TH) : TS := fun D σ H => tb (fun σ' H' e => th D σ' H' e) D σ H
section
variable {X : Cx} {x n : Str} {C0 : Addr} {i : Nat} {b₀ : Stmt} {suite body : List Stmt} {np pos : Pos} {rest : List ExceptHandler} {h₀ : ExceptHandler} {hs : List ExceptHandler} {ts : TS} {th : TH} {tb : TW → TS}
theorem ph_no : PHs X [] tHno := fun _ _ _ _ _ _ _ _ h => h.elim
theorem ph_as (hg : Gl X x) (hm : X.mg x = some (.ref C0)) (hN : X.N.Nodup) (hi : X.N[i]? = some n) (hl : X.env.scope.names.lookup n = some .local) (hs : ∀ e, PSs (X.hnd e) (b₀ :: suite) ts) (hr : PHs X rest th) (hdb : (x == ("__debug__" : Str)) = false := by decide) :
    PHs X (.ExceptHandler (some (.Name x np)) (some n) (b₀ :: suite) pos :: rest) (tHas X.K C0 i ts th) := by
  intro pins s σ H D e I F h
  obtain ⟨C, od, b, he, Z, hx, q⟩ := h
  obtain ⟨o, vs, g1, g2, g3, g4⟩ := errO_at (I.hok e _ he)
  have LT : PySem.W.Looks (model X.prog X.w) s.heap (typeOf (.ref e)) (.ref C) := by rw [← g2]; exact (PySem.W.Looks.ld g1).andThen .now
  refine wpAny_handleBy_cons (codeAny_handlers_test (ld_glob (X := X.hnd e) (I.hnd (e := e)) hg hm ?_ hdb)) (by intro z; cases z)
  refine (PySem.W.exm_one I.kIn LT hx).here ?_
  cases b with
  | false => exact hr pins s σ H D e I F q
  | true =>
    refine codeAny_handlers_suite_as (held_land I F fun s1 I1 => ?_)
    refine store_ok (X := X.hnd e) (i := i) (v := .ref e) (I1.hnd (e := e)) hN hi (.inl hl) rfl (fun s2 I2 => ?_) (.inr hl)
    refine wpAny_mono (hs e pins s2 _ H _ I2 q) (fun f s3 z => ?_) fun _ _ z => z.elim
    cases f with
    | next => obtain ⟨σ', H', I3, q3⟩ := z; exact name_goes (I3.unhnd I.ok) hN hi hl fun s4 I4 => ⟨_, _, I4, q3⟩
    | brk => obtain ⟨σ', H', I3, q3⟩ := z; exact name_goes (I3.unhnd I.ok) hN hi hl fun s4 I4 => ⟨_, _, I4, q3⟩
    | cont => obtain ⟨σ', H', I3, q3⟩ := z; exact name_goes (I3.unhnd I.ok) hN hi hl fun s4 I4 => ⟨_, _, I4, q3⟩
    | ret u => obtain ⟨v, σ', H', I3, r3, q3⟩ := z; exact name_goes (I3.unhnd I.ok) hN hi hl fun s4 I4 => ⟨v, _, _, I4, r3, q3⟩
theorem ph_cl (hg : Gl X x) (hm : X.mg x = some (.ref C0)) (hs : ∀ e, PSs (X.hnd e) (b₀ :: suite) ts) (hr : PHs X rest th) (hdb : (x == ("__debug__" : Str)) = false := by decide) :
    PHs X (.ExceptHandler (some (.Name x np)) none (b₀ :: suite) pos :: rest) (tHcl X.K C0 ts th) := by
  intro pins s σ H D e I F h
  obtain ⟨C, od, b, he, Z, hx, q⟩ := h
  obtain ⟨o, vs, g1, g2, g3, g4⟩ := errO_at (I.hok e _ he)
  have LT : PySem.W.Looks (model X.prog X.w) s.heap (typeOf (.ref e)) (.ref C) := by rw [← g2]; exact (PySem.W.Looks.ld g1).andThen .now
  refine wpAny_handleBy_cons (codeAny_handlers_test (ld_glob (X := X.hnd e) (I.hnd (e := e)) hg hm ?_ hdb)) (by intro z; cases z)
  refine (PySem.W.exm_one I.kIn LT hx).here ?_
  cases b with
  | false => exact hr pins s σ H D e I F q
  | true =>
    refine codeAny_handlers_suite (held_land I F fun s1 I1 => ?_)
    refine wpAny_mono (hs e pins s1 _ H _ (I1.hnd (e := e)) q) (fun f s3 z => ?_) fun _ _ z => z.elim
    cases f with
    | next => obtain ⟨σ', H', I3, q3⟩ := z; exact ⟨_, _, I3.unhnd I.ok, q3⟩
    | brk => obtain ⟨σ', H', I3, q3⟩ := z; exact ⟨_, _, I3.unhnd I.ok, q3⟩
    | cont => obtain ⟨σ', H', I3, q3⟩ := z; exact ⟨_, _, I3.unhnd I.ok, q3⟩
    | ret u => obtain ⟨v, σ', H', I3, r3, q3⟩ := z; exact ⟨v, _, _, I3.unhnd I.ok, r3, q3⟩
theorem ps_try (hst : X.stack = X.env :: X.outer) (hf : X.env.frame = some X.env.locals) (hb : ∀ pins W, PSs (X.tr pins W) body (tb W)) (hh : PHs X (h₀ :: hs) th) : PS X (.Try body (h₀ :: hs) [] [] pos) (tTry tb th) := by
  intro pins s σ H D I h
  refine wpAny_Try_except (wpAny_mono (hb pins _ [] s σ H D I.tr h) (fun f s1 z => ?_) fun ev s1 z => ?_)
  · have z := z.untr
    cases f with
    | next => exact wpAny_execs_nil z
    | brk => exact z
    | cont => exact z
    | ret u => exact z
  · obtain ⟨e, σ', H', rfl, I1, F, q⟩ := z
    refine held_look (env := X.env) (outer := X.outer) (by rw [← hst]; exact I.ok.frames) hst hf I1 F fun s2 I2 F2 => hh pins s2 σ' H' D e I2 F2 q
end
end L2
namespace L2
open PySem PySem.Spec PyProof.Rows
theorem Fun.okE {P : Program} {w : World} {K : PySem.W.Frag} {mg : Str → Option Value} {base : Heap} {x qual : Str} {st : Stmt} {f : Addr} {fd : FuncData} {N ps : List Str} {k : Nat} {sp : Sp} (F : Fun K x qual st f fd) (S : FnScope N ps (defScope st)) (len : ∀ vs H Q E, sp vs H Q E → vs.length = ps.length)
    (hbody : ∀ (cdv : Value) (A : Around) (outer : List Env) (s : Shared) (H : Hp) (vs : List V) (Q : VK) (E : XK), Room k (A.deeper (envOfC qual (defScope st) s.heap.objs.size f cdv)) → sp vs H Q E →
      ∃ t, PSs (cxOf (CXE P w) P w K mg base N qual (defScope st) f cdv A outer s H E) (defBody st) t ∧ t { nx := fun _ H' => Q .non H', rt := Q } (start N vs) H) : FnOk P w K mg base (CXE P w) (k + 1) f fd ps sp := by
  obtain ⟨oc, od, kV, doc, pm, an, cdv, ct, osl, rfl, lk, hcd⟩ := F.ex
  exact fn_of lk hcd S len fun A outer s H vs Q E hr hsp => hbody cdv A outer s H vs Q E hr hsp
section
variable {X : Cx} {pn : List (Addr × Obj)} {W : TW} {k : Nat} {f C : Addr} {fd : FuncData} {ps : List Str} {sp : Sp} {x : Str} {p pos : Pos} {e : Expr} {es : List Expr} {t : TA}
end
structure RoomH (k : Nat) (A : Around) : Prop where
  dp : A.depth + 3 * k + 5 < recursionLimit
  un : A.units + 16 * k + 200 < cLine
theorem Room.h {k : Nat} {A : Around} (r : Room k A) : RoomH k A := ⟨r.dp, r.un⟩
theorem RoomH.mono {j k : Nat} {A : Around} (r : RoomH k A) (h : j ≤ k) : RoomH j A := ⟨by have := r.dp; omega, by have := r.un; omega⟩
theorem RoomH.mark {k : Nat} {A : Around} (r : RoomH k A) (o : Option Value) : RoomH k (A.mark o) := ⟨r.dp, r.un⟩
theorem RoomH.calm {k : Nat} {A : Around} (r : RoomH k A) : Room k { A with handled := none } := ⟨rfl, r.dp, r.un⟩
section
variable {X : Cx} {k : Nat} {f : Addr} {fd : FuncData} {ps : List Str} {sp : Sp} {x : Str} {p pos : Pos} {e : Expr} {es : List Expr} {t : TA}
end
end L2
namespace L2
open PySem PySem.Spec PyProof.Rows
theorem bt_ValueError : bootBuiltins "ValueError" = some (.type "ValueError") := by decide +kernel
theorem passE {X : Cx} : Passes (CXE X.prog X.w) X E0 := fun _ _ _ _ _ _ _ ⟨_, _, _, _, _, _, _, _, _, _, _, _, _, _, _, _, _, _, _, _, _, _, _, _, h⟩ => h.elim
section
variable {K : PySem.W.Frag} {σ : St} {H : Hp} {Q : VK} {nx bk ct : St → Hp → Prop} {rt : VK}
theorem rd_mkE0 {C : Addr} (h : ∀ x, H x = none → Q (.ref x) (upd H x (ErrN C none x))) : tMkE0 C σ H Q := h
theorem rd_raise {E : XK} {te : TE} (h : te σ H fun v H1 => ∃ e C od, v = .ref e ∧ H1 e = some (ErrN C od e) ∧ ErrK K C ∧ E (.ref e) od (upd H1 e (ErrO C od e))) : tRaise K E te ⟨nx, rt, bk, ct⟩ σ H := h
theorem rd_try {tb : TW → TS} {th : TH} (h : tb (fun σ' H' e => th ⟨nx, rt, bk, ct⟩ σ' H' e) ⟨nx, rt, bk, ct⟩ σ H) : tTry tb th ⟨nx, rt, bk, ct⟩ σ H := h
theorem rd_hasT {C0 C e : Addr} {od : Option Addr} {i : Nat} {ts : TS} {th : TH} (he : H e = some (ErrO C od e)) (Z : ErrK K C) (hx : PySem.W.exmOne K (.ref C) (.ref C0) = some true)
    (h : ts ⟨fun σ' H' => nx (σ'.set i none) H', rt, fun σ' H' => bk (σ'.set i none) H', fun σ' H' => ct (σ'.set i none) H'⟩ (σ.set i (some (.ref e))) H) : tHas K C0 i ts th ⟨nx, rt, bk, ct⟩ σ H e := ⟨C, od, true, he, Z, hx, iteT h⟩
theorem rd_hclT {C0 C e : Addr} {od : Option Addr} {ts : TS} {th : TH} (he : H e = some (ErrO C od e)) (Z : ErrK K C) (hx : PySem.W.exmOne K (.ref C) (.ref C0) = some true)
    (h : ts ⟨nx, rt, bk, ct⟩ σ H) : tHcl K C0 ts th ⟨nx, rt, bk, ct⟩ σ H e := ⟨C, od, true, he, Z, hx, iteT h⟩
theorem kitAny_f {t c : Value} {r : List Value} {b : Bool} (h1 : PySem.W.kitOne K t c = some false) (h2 : PySem.W.kitAny K t r = some b) : PySem.W.kitAny K t (c :: r) = some b := by
  unfold PySem.W.kitAny
  rw [h1]
  exact h2
end
end L2
namespace L2.Q
open PySem PySem.Spec PyProof.Rows L2
structure QHs (X : Cx) (hs : List ExceptHandler) (th : TH) : Prop where
  h : PHs X hs th
section
variable {X : Cx} {K' : PySem.W.Frag} {pn : List (Addr × Obj)} {W : TW} {k : Nat} {f C C0 : Addr} {fd : FuncData} {ps : List Str} {sp : Sp} {x n : Str} {p pos pos' np : Pos} {e o : Expr} {es : List Expr} {t : TA} {te ta : TE} {E : XK} {i : Nat} {b₀ : Stmt} {suite body : List Stmt} {rest hs : List ExceptHandler} {h₀ : ExceptHandler} {ts : TS} {th : TH} {tb : TW → TS}
theorem pe_mkE0 (q : PySem.W.excIn X.K C veMro "ValueError.__new__" = true) (hk : PySem.W.keepIn X.K (.ref C) = true) (hg : Gl X x) (hm : X.mg x = some (.ref C)) (hdb : (x == ("__debug__" : Str)) = false := by decide) : QE X (.Call (.Name x p) [] [] pos) (tMkE0 C) := ⟨L2.pe_mkE0 q hk hg hm hdb⟩
theorem ps_raise (hx : Raises X E) (hc : X.calm = true) (he : QE X e te) (hK : X.K = K' := by rfl) : QS X (.Raise (some e) none pos) (tRaise K' E te) := by subst hK; exact ⟨L2.ps_raise hx hc he.h⟩
theorem ph_no : QHs X [] tHno := ⟨L2.ph_no⟩
theorem ph_as (hg : Gl X x) (hm : X.mg x = some (.ref C0)) (hN : X.N.Nodup) (hi : X.N[i]? = some n) (hl : X.env.scope.names.lookup n = some .local) (hs : ∀ e, QSs (X.hnd e) (b₀ :: suite) ts) (hr : QHs X rest th) (hdb : (x == ("__debug__" : Str)) = false := by decide) (hK : X.K = K' := by rfl) :
    QHs X (.ExceptHandler (some (.Name x np)) (some n) (b₀ :: suite) pos :: rest) (tHas K' C0 i ts th) := by subst hK; exact ⟨L2.ph_as hg hm hN hi hl (fun e => (hs e).h) hr.h hdb⟩
theorem ph_cl (hg : Gl X x) (hm : X.mg x = some (.ref C0)) (hs : ∀ e, QSs (X.hnd e) (b₀ :: suite) ts) (hr : QHs X rest th) (hdb : (x == ("__debug__" : Str)) = false := by decide) (hK : X.K = K' := by rfl) :
    QHs X (.ExceptHandler (some (.Name x np)) none (b₀ :: suite) pos :: rest) (tHcl K' C0 ts th) := by subst hK; exact ⟨L2.ph_cl hg hm (fun e => (hs e).h) hr.h hdb⟩
theorem ps_try (hst : X.stack = X.env :: X.outer) (hf : X.env.frame = some X.env.locals) (hb : ∀ pins W, QSs (X.tr pins W) body (tb W)) (hh : QHs X (h₀ :: hs) th) : QS X (.Try body (h₀ :: hs) [] [] pos) (tTry tb th) := ⟨L2.ps_try hst hf (fun pins W => (hb pins W).h) hh.h⟩
end
end L2.Q
namespace L2
open PySem PySem.Spec PyProof.Rows
section
variable {X : Cx}
end
end L2
namespace L2
open PySem PySem.Spec PyProof.Rows
end L2
namespace L2
open PySem PySem.Spec PyProof.Rows
section
variable {X : Cx} {o e : Expr} {to : TE} {t : TA} {apos cpos : Pos}
end
end L2
namespace L2.Q
open PySem PySem.Spec PyProof.Rows L2
end L2.Q
namespace L2
open PySem PySem.Spec PyProof.Rows
section
variable {X : Cx} {o : Expr} {to : TE} {apos cpos : Pos}
theorem pe_pop (ho : PE X o to) (hbase : attributeBase o "pop" X.env (eval o X.env) = eval o X.env := by rfl) (hline : (apos.endLine == cpos.line) = true := by rfl) :
    PE X (.Call (.Attribute o "pop" apos) [] [] cpos) (tBM0 X.K "list" rPop to) :=
  pe_bm0 PySem.F.plainAttrs_list PySem.F.slot_list_pop PySem.F.type_list_pop mt_pop ho hbase hline
end
end L2
namespace L2.Q
open PySem PySem.Spec PyProof.Rows L2
section
variable {X : Cx} {K' : PySem.W.Frag} {o : Expr} {to : TE} {apos cpos : Pos}
theorem pe_popK (ho : QE X o to) (hbase : attributeBase o "pop" X.env (eval o X.env) = eval o X.env := by rfl) (hline : (apos.endLine == cpos.line) = true := by rfl) (hK : X.K = K' := by rfl) :
    QE X (.Call (.Attribute o "pop" apos) [] [] cpos) (tBM0 K' "list" rPop to) := by subst hK; exact ⟨L2.pe_pop ho.h hbase hline⟩
end
end L2.Q
namespace L2
open PySem PySem.Spec PyProof.Rows
section
variable {X : Cx}
def rEqE (K : PySem.W.Frag) : R2 := fun x y H Q => ∃ (a b : Addr) (xs : List V), x = .ref a ∧ y = .ref b ∧ SqL K H a xs ∧ SqL K H b [] ∧ Q (.bl xs.isEmpty) H
theorem op_eqE (hu : X.A.units + 9 < cLine) : OpR X (compareOp .Eq) (rEqE X.K) := by
  intro pins s σ H x y v u Q I rx ry h
  obtain ⟨a, b, xs, rfl, rfl, h1, h2, q⟩ := h
  cases rx
  cases ry
  have fin : EP X pins σ Q (.bool xs.isEmpty) s := ⟨.bl xs.isEmpty, H, I, rfl, q⟩
  obtain ⟨us, r1, p1, _⟩ := I.list h1
  obtain ⟨vs, r2, p2, _⟩ := I.list h2
  cases r2
  cases xs with
  | nil =>
    cases r1
    refine SeqAt.RcAt.lists (e := fun _ => true) p1.isList p2.isList rfl (by omega) (fun j h1 h2 => by simp at h1) X.prog X.w X.xe _ ?_
    exact fin
  | cons z zs =>
    cases r1 with
    | cons hz ht => exact SeqAt.RcAt.lists_lengths p1.isList p2.isList (by simp) (by omega) X.prog X.w X.xe _ fin
end
section
variable {K : PySem.W.Frag} {H : Hp} {Q : VK}
theorem rd_eqE {a b : Addr} {xs : List V} (h1 : H a = some (.lst xs)) (h2 : H b = some (.lst [])) (h : Q (.bl xs.isEmpty) H) : rEqE K (.ref a) (.ref b) H Q := ⟨a, b, xs, rfl, rfl, SqL.of h1, SqL.of h2, h⟩
end
end L2
namespace L2
open PySem PySem.Spec PyProof.Rows
section
variable {X : Cx}
def rNeE (K : PySem.W.Frag) : R2 := fun x y H Q => ∃ (a b : Addr) (xs : List V), x = .ref a ∧ y = .ref b ∧ SqL K H a xs ∧ SqL K H b [] ∧ Q (.bl (!xs.isEmpty)) H
theorem op_neE (hu : X.A.units + 9 < cLine) : OpR X (compareOp .NotEq) (rNeE X.K) := by
  intro pins s σ H x y v u Q I rx ry h
  obtain ⟨a, b, xs, rfl, rfl, h1, h2, q⟩ := h
  cases rx
  cases ry
  have fin : EP X pins σ Q (.bool (!xs.isEmpty)) s := ⟨.bl (!xs.isEmpty), H, I, rfl, q⟩
  obtain ⟨us, r1, p1, _⟩ := I.list h1
  obtain ⟨vs, r2, p2, _⟩ := I.list h2
  cases r2
  cases xs with
  | nil =>
    cases r1
    refine SeqAt.RcNeAt.lists (e := fun _ => true) p1.isList p2.isList rfl (by omega) (fun j h1 h2 => by simp at h1) X.prog X.w X.xe _ ?_
    exact fin
  | cons z zs =>
    cases r1 with
    | cons hz ht => exact SeqAt.RcNeAt.lists_lengths p1.isList p2.isList (by simp) (by omega) X.prog X.w X.xe _ fin
end
section
variable {K : PySem.W.Frag} {H : Hp} {Q : VK}
theorem rd_neE {a b : Addr} {xs : List V} (h1 : H a = some (.lst xs)) (h2 : H b = some (.lst [])) (h : Q (.bl (!xs.isEmpty)) H) : rNeE K (.ref a) (.ref b) H Q := ⟨a, b, xs, rfl, rfl, SqL.of h1, SqL.of h2, h⟩
end
end L2
namespace L2
open PySem PySem.Spec PyProof.Rows
section
variable {X : Cx} {o e : Expr} {to : TE} {t : TA} {apos cpos : Pos}
theorem pe_extend (ho : PE X o to) (ha : PA X [e] t) (hn : noStar e = true := by rfl) (hbase : attributeBase o "extend" X.env (eval o X.env) = eval o X.env := by rfl) (hline : (apos.endLine == cpos.line) = true := by rfl) :
    PE X (.Call (.Attribute o "extend" apos) [e] [] cpos) (tBM X.K "list" rExtend to t) :=
  pe_bm PySem.F.plainAttrs_list PySem.F.slot_list_extend PySem.F.type_list_extend mt_extend ho ha hbase (by rw [star_cons hn]; rfl) hline (star_cons hn) (by rfl)
end
section
variable {H : Hp} {Q : VK}
theorem rd_extend {l b : Addr} {xs ys : List V} (h : H l = some (.lst xs)) (h2 : H b = some (.lst ys)) (hz : xs.length + ys.length ≤ sizeLine) (q : Q .non (upd H l (.lst (xs ++ ys)))) : rExtend (.ref l) [.ref b] H Q := ⟨l, b, xs, ys, rfl, rfl, h, h2, hz, q⟩
end
def tMethX (C : Addr) (m : Str) (sp : Sp) (W : TW) (ta : TE) (t : TA) : TE := fun σ H Q => ta σ H fun x H1 => ∃ a dx fs, x = .ref a ∧ H1 a = some (.ins C dx fs) ∧ fs.lookup m = none ∧ t σ H1 fun vs H2 => sp (.ref a :: vs) H2 Q (fun ev _ H' => ∃ e, ev = .ref e ∧ W σ H' e)
theorem rd_methX {C : Addr} {m : Str} {sp : Sp} {W : TW} {ta : TE} {t : TA} {σ : St} {H : Hp} {Q : VK} (h : ta σ H fun x H1 => ∃ a dx fs, x = .ref a ∧ H1 a = some (.ins C dx fs) ∧ fs.lookup m = none ∧ t σ H1 fun vs H2 => sp (.ref a :: vs) H2 Q (fun ev _ H' => ∃ e, ev = .ref e ∧ W σ H' e)) : tMethX C m sp W ta t σ H Q := h
section
variable {X : Cx} {pn : List (Addr × Obj)} {W : TW} {k : Nat} {f C : Addr} {fd : FuncData} {ps : List Str} {sp : Sp} {m : Str} {apos pos : Pos} {o e : Expr} {es : List Expr} {ta : TE} {t : TA}
theorem run_fnX {pins : List (Addr × Obj)} {σ : St} {H : Hp} {s : Shared} {us : List Value} {vs : List V} {Q : VK} (F : FnOk X.prog X.w X.K X.mg X.base (CXE X.prog X.w) k f fd ps sp) (hr : Room k X.A) (hb : Binds X.K fd ps []) (I1 : Inv (X.tr pn W) pins σ H s) (r : Vals vs us) (q : sp vs H Q (fun ev _ H' => ∃ e, ev = .ref e ∧ W σ H' e)) :
    wpAny (model X.prog X.w) X.A (call (.ref f) us) (EP (X.tr pn W) pins σ Q) (X.tr pn W).xe s := by
  have hl : us.length = ps.length := by rw [← r.length]; exact F.len _ _ _ _ q
  refine wpAny_call (codeAny_mono (F.run X.A X.stack s H ⟨us, []⟩ us vs Q _ hr I1.env0 (by have := hb s us I1.kIn (by rw [List.append_nil]; exact hl); rwa [List.append_nil] at this) r q) fun r s' hq => ?_)
  cases r with
  | error ev => exact caught_of (E := fun ev _ H' => ∃ e, ev = Value.ref e ∧ W σ H' e) rfl rfl I1.untr hq fun e od H' z => by obtain ⟨e', z1, z2⟩ := z; cases z1; exact z2
  | ok fl =>
    cases fl with
    | ret u => exact I1.after hq
    | next => exact False.elim hq
    | brk => exact False.elim hq
    | cont => exact False.elim hq
theorem pe_methX {pl : Sem Bool} (he : PE (X.tr pn W) o ta) (c : Cls X.K C) (hm : Meth X.K C m f) (F : FnOk X.prog X.w X.K X.mg X.base (CXE X.prog X.w) k f fd ps sp) (hr : Room k X.A) (hb : Binds X.K fd ps []) (ha : PA (X.tr pn W) (e :: es) t)
    (hst : starEach (e :: es) X.env = (false, eval e X.env) :: starEach es X.env := by rfl) (hpl : (backTo pos (starEach es X.env)).any (·.1) = false := by rfl)
    (ht : eval (.Call (.Attribute o m apos) (e :: es) [] pos) X.env = (do
      let ov ← eval o X.env
      standAt apos.atName
      let (f, first) ← holding [ov] (getMethod ov m pl)
      callWith pos f first (backTo pos (starEach (e :: es) X.env)) (backToKw pos (keywordEach [] X.env))) := by rfl) :
    PE (X.tr pn W) (.Call (.Attribute o m apos) (e :: es) [] pos) (tMethX C m sp W ta t) := by
  intro pins s σ H Q I h
  refine PySem.W.methodCall_KW (pl := pl) (thn (he pins s σ H _ I h) fun u s1 ⟨x, H1, I1, rx, a, dx, fs, ex, ea, l, q⟩ => ?_) ht
  subst ex
  obtain rfl : u = Value.ref a := rx
  refine getmeth_ok I1 ea c hm l ?_
  refine PySem.W.callWith_K (first := [.ref a]) (h₀ := X.base) I.ok.mod.kin hm.kp (thn (ha pos pins s1 σ H1 _ I1 q) fun us s2 ⟨vs, H2, I2, r, q2⟩ => ⟨I2.kIn, ?_⟩) hst hpl
  exact run_fnX (us := .ref a :: us) (vs := .ref a :: vs) F hr hb I2 (.cons rfl r) q2
theorem pe_methX0 {pl : Sem Bool} (he : PE (X.tr pn W) o ta) (c : Cls X.K C) (hm : Meth X.K C m f) (F : FnOk X.prog X.w X.K X.mg X.base (CXE X.prog X.w) k f fd ps sp) (hr : Room k X.A) (hb : Binds X.K fd ps [])
    (ht : eval (.Call (.Attribute o m apos) [] [] pos) X.env = (do
      let ov ← eval o X.env
      standAt apos.atName
      let (f, first) ← holding [ov] (getMethod ov m pl)
      callWith pos f first (backTo pos (starEach [] X.env)) (backToKw pos (keywordEach [] X.env))) := by rfl) :
    PE (X.tr pn W) (.Call (.Attribute o m apos) [] [] pos) (tMethX C m sp W ta tNil) := by
  intro pins s σ H Q I h
  refine PySem.W.methodCall_KW (pl := pl) (thn (he pins s σ H _ I h) fun u s1 ⟨x, H1, I1, rx, a, dx, fs, ex, ea, l, q⟩ => ?_) ht
  subst ex
  obtain rfl : u = Value.ref a := rx
  refine getmeth_ok I1 ea c hm l ?_
  exact PySem.W.callWith_K0 (first := [.ref a]) I1.kIn hm.kp (run_fnX (us := [.ref a]) (vs := [.ref a]) F hr hb I1 (.cons rfl .nil) q)
end
end L2
namespace L2.Q
open PySem PySem.Spec PyProof.Rows L2
section
variable {X : Cx} {K' : PySem.W.Frag} {o e : Expr} {to : TE} {t : TA} {apos cpos : Pos}
theorem pe_extendK (ho : QE X o to) (ha : QA X [e] t) (hn : noStar e = true := by rfl) (hbase : attributeBase o "extend" X.env (eval o X.env) = eval o X.env := by rfl) (hline : (apos.endLine == cpos.line) = true := by rfl) (hK : X.K = K' := by rfl) :
    QE X (.Call (.Attribute o "extend" apos) [e] [] cpos) (tBM K' "list" rExtend to t) := by subst hK; exact ⟨L2.pe_extend ho.h ha.h hn hbase hline⟩
end
section
variable {X : Cx} {pn : List (Addr × Obj)} {W : TW} {k : Nat} {f C : Addr} {fd : FuncData} {ps : List Str} {sp : Sp} {m : Str} {apos pos : Pos} {o e : Expr} {es : List Expr} {ta : TE} {t : TA}
theorem pe_methX {pl : Sem Bool} (he : QE (X.tr pn W) o ta) (c : Cls X.K C) (hm : Meth X.K C m f) (F : FnOk X.prog X.w X.K X.mg X.base (CXE X.prog X.w) k f fd ps sp) (hr : Room k X.A) (hb : Binds X.K fd ps []) (ha : QA (X.tr pn W) (e :: es) t)
    (hn : (e :: es).all noStar = true := by rfl)
    (ht : eval (.Call (.Attribute o m apos) (e :: es) [] pos) X.env = (do
      let ov ← eval o X.env
      standAt apos.atName
      let (f, first) ← holding [ov] (getMethod ov m pl)
      callWith pos f first (backTo pos (starEach (e :: es) X.env)) (backToKw pos (keywordEach [] X.env))) := by rfl) :
    QE (X.tr pn W) (.Call (.Attribute o m apos) (e :: es) [] pos) (tMethX C m sp W ta t) := ⟨L2.pe_methX he.h c hm F hr hb ha.h (star_cons (all_tl hn).1) (back_any (all_tl hn).2) ht⟩
theorem pe_methX0 {pl : Sem Bool} (he : QE (X.tr pn W) o ta) (c : Cls X.K C) (hm : Meth X.K C m f) (F : FnOk X.prog X.w X.K X.mg X.base (CXE X.prog X.w) k f fd ps sp) (hr : Room k X.A) (hb : Binds X.K fd ps [])
    (ht : eval (.Call (.Attribute o m apos) [] [] pos) X.env = (do
      let ov ← eval o X.env
      standAt apos.atName
      let (f, first) ← holding [ov] (getMethod ov m pl)
      callWith pos f first (backTo pos (starEach [] X.env)) (backToKw pos (keywordEach [] X.env))) := by rfl) :
    QE (X.tr pn W) (.Call (.Attribute o m apos) [] [] pos) (tMethX C m sp W ta tNil) := ⟨L2.pe_methX0 he.h c hm F hr hb ht⟩
end
end L2.Q
local macro_rules | `(tactic| walk_at "ne") => `(tactic| first
  | assumption
  | (refine Ne.symm ?_; assumption)
  | exact L2.ne_none (by assumption) (by walk_at "hp")
  | exact Ne.symm (L2.ne_none (by assumption) (by walk_at "hp")))
local macro_rules | `(tactic| walk_at "hp") => `(tactic| first
  | assumption
  | exact L2.upd_same
  | (refine Eq.trans (L2.upd_ne (by walk_at "ne")) ?_; walk_at "hp")
  | (refine L2.Same.at (by assumption) ?_; walk_at "hp")
  | (refine L2.Keep.at (by assumption) ?_ (by walk_at "ne"); walk_at "hp"))
local macro_rules | `(tactic| walk_at "sq") => `(tactic| first
  | assumption
  | exact L2.SqL.of (by walk_at "hp")
  | exact L2.SqT.of (by walk_at "hp")
  | exact L2.Same.seq (by assumption) (by walk_at "sq"))
local macro_rules | `(tactic| walk_at "cnd") => `(tactic| first
  | omega
  | decide
  | (simp only [List.length_map]; omega)
  | (refine ⟨?_, ?_⟩ <;> first | omega | decide)
  | (refine Or.inl ⟨?_, ?_⟩ <;> first | omega | decide)
  | (refine Or.inr ⟨?_, ?_⟩ <;> first | omega | decide)
  | (refine ⟨?_, ?_, ?_⟩ <;> first | omega | decide))
local macro_rules | `(tactic| walk_at "sz") => `(tactic| (refine L2.sz_le ?_; first | decide | (simp only [List.length_cons, List.length_nil, List.length_append]; omega) | omega))
local macro_rules | `(tactic| walk_at "rd") => `(tactic| (with_reducible first
  | refine L2.rd_next ?_
  | refine L2.rd_par ?_
  | refine L2.rd_asg ?_
  | refine L2.rd_drop ?_
  | refine L2.rd_ret ?_
  | refine L2.rd_retN ?_
  | refine L2.rd_break ?_
  | refine L2.rd_cont ?_
  | refine L2.rd_ifS ?_
  | refine L2.rd_augS ?_
  | refine L2.rd_for ?_
  | refine L2.rd_gnil ?_
  | refine L2.rd_gcons ?_
  | refine L2.rd_gsub ?_
  | refine L2.rd_ipI ?_
  | refine L2.rd_c ?_
  | refine L2.rd_op ?_
  | refine L2.rd_un ?_
  | refine L2.rd_rI0 ?_
  | refine L2.rd_rU ?_
  | refine L2.rd_addI ?_
  | refine L2.rd_sl ?_
  | refine L2.rd_nopart ?_
  | refine L2.rd_part ?_
  | refine L2.rd_partN ?_
  | refine L2.rd_pnN ?_
  | refine L2.rd_pnI ?_
  | refine L2.rd_andV ?_
  | refine L2.rd_orV ?_
  | refine L2.rd_notV ?_
  | refine L2.rd_ifE ?_
  | refine L2.rd_chain ?_
  | refine L2.rd_test ?_
  | refine L2.rd_tB ?_
  | refine L2.rd_and ?_
  | refine L2.rd_or ?_
  | refine L2.rd_not ?_
  | refine L2.rd_yes ?_
  | refine L2.rd_bl ?_
  | refine L2.rd_int1 ?_
  | refine L2.rd_l1 ?_
  | refine L2.rd_l2 ?_
  | refine L2.rd_bl2 ?_
  | refine L2.rd_nil ?_
  | refine L2.rd_cons ?_
  | refine L2.rd_tup ?_
  | refine L2.rd_lst ?_
  | refine L2.rd_call ?_
  | refine L2.rd_cb ?_
  | refine L2.rd_comp ?_
  | refine L2.rd_iListQ ?_
  | refine L2.rd_iTupQ ?_
  | refine L2.rd_iRng1 ?_
  | refine L2.rd_iRng2 ?_
  | refine L2.rd_fld ?_
  | refine L2.iteT ?_
  | refine L2.iteF ?_
  | refine L2.iteNT ?_
  | refine L2.iteNF ?_
  | refine L2.rd_bm ?_
  | refine L2.rd_iEnum ?_
  | refine L2.rd_rng ?_
  | refine L2.rd_make ?_
  | refine L2.rd_meth ?_
  | refine L2.rd_sfld ?_
  | refine L2.rd_bm0 ?_
  | refine L2.rd_mkE0 ?_
  | refine L2.rd_raise ?_
  | refine L2.rd_try ?_
  | refine L2.rd_methX ?_))
local macro_rules | `(tactic| walk_at "st") => `(tactic| first
  | walk_at "rd"
  | ((with_reducible refine L2.rd_nx (b := ?b) ?t ?_); (case t => assumption))
  | ((with_reducible refine L2.rd_var (v := ?v) ?e ?_); (case e => rfl))
  | ((with_reducible refine L2.rd_gname (σ' := ?s) ?e ?_); (case e => first | (simp only [List.set_cons_zero, List.set_cons_succ]; rfl) | rfl))
  | ((with_reducible refine L2.rd_rI ?c ?_); (case c => walk_at "cnd"))
  | ((with_reducible refine L2.rd_mulI ?c ?_); (case c => walk_at "cnd"))
  | ((with_reducible refine L2.rd_ixL (xs := ?xs) (v := ?v) ?a ?b ?_); (case a => walk_at "sq"); (case b => first | rfl | assumption))
  | ((with_reducible refine L2.rd_ixT (xs := ?xs) (v := ?v) ?a ?b ?_); (case a => walk_at "sq"); (case b => first | rfl | assumption))
  | (with_reducible refine L2.rd_abs ?_)
  | (with_reducible refine L2.rd_max ?_)
  | (with_reducible refine L2.rd_min ?_)
  | (with_reducible refine L2.rd_intI ?_)
  | (with_reducible refine L2.rd_intB ?_)
  | ((with_reducible refine L2.rd_lenL (xs := ?xs) ?a ?_); (case a => walk_at "sq"))
  | ((with_reducible refine L2.rd_lenT (xs := ?xs) ?a ?_); (case a => walk_at "sq"))
  | (with_reducible refine L2.rd_eqI ?_)
  | (with_reducible refine L2.rd_neI ?_)
  | ((with_reducible refine L2.rd_eqF ?a ?b ?_); (case a => rfl); (case b => rfl))
  | ((with_reducible refine L2.rd_neF ?a ?b ?_); (case a => rfl); (case b => rfl))
  | ((with_reducible refine L2.rd_is (b := ?b) ?e ?_); (case e => rfl))
  | ((with_reducible refine L2.rd_isNot (b := ?b) ?e ?_); (case e => rfl))
  | ((with_reducible refine L2.rd_size ?c ?_); (case c => walk_at "sz")))
local macro_rules | `(tactic| walk_at "go") => `(tactic| first
  | (with_reducible refine L2.rd_seqH (fun _ _ => ?_))
  | walk_at "st")
local macro_rules | `(tactic| walk_at "gs") => `(tactic| first
  | walk_at "go"
  | ((with_reducible refine L2.iteGF ?e ?_); (case e => rfl))
  | ((with_reducible refine L2.iteGT ?e ?_); (case e => rfl)))
namespace My
open PySem L2
def top (i : Nat) : Stmt := PySem.Challenge.pw_stintwise_k91_wants_that_wait.main.body.getD i (.Pass ⟨0, 0, 0, 0⟩)
abbrev s__law_open : Stmt := top 83
abbrev s__law_draw : Stmt := top 84
abbrev s__law_far : Stmt := top 85
abbrev s__law_factor : Stmt := top 86
abbrev s_is_whole : Stmt := top 10
abbrev s_is_amount : Stmt := top 11
abbrev s_is_span : Stmt := top 20
abbrev s_is_piece : Stmt := top 21
abbrev s_are_pieces : Stmt := top 22
abbrev s_Machine_init : Stmt := inClass (top 23) 0
abbrev s__law_spec : Stmt := top 87
abbrev s__law_machine : Stmt := top 88
abbrev s__law_state : Stmt := top 89
abbrev s__law_same : Stmt := top 97
abbrev s_is_depth : Stmt := top 26
abbrev s_Store_init : Stmt := inClass (top 27) 0
abbrev s_are_machines : Stmt := top 32
abbrev s_Works_init : Stmt := inClass (top 33) 0
abbrev s__law_want : Stmt := top 91
abbrev s__law_store : Stmt := top 90
abbrev s_Keeper_init : Stmt := inClass (top 81) 0
abbrev s_Keeper_keep_deed : Stmt := inClass (top 81) 1
abbrev s_Keeper_tell : Stmt := inClass (top 81) 2
abbrev s_Keeper_change : Stmt := inClass (top 81) 3
abbrev s_Keeper_go : Stmt := inClass (top 81) 5
abbrev s_Keeper_undo : Stmt := inClass (top 81) 6
abbrev s_Keeper_waiting : Stmt := inClass (top 81) 7
abbrev s_Keeper_gone : Stmt := inClass (top 81) 8
abbrev s_Keeper_now : Stmt := inClass (top 81) 9
abbrev s_Keeper_spent : Stmt := inClass (top 81) 10
abbrev s__law_changed : Stmt := top 98
abbrev s__law_gone : Stmt := top 99
abbrev s__law_looks : Stmt := top 100
abbrev s__law_undone : Stmt := top 101
abbrev s__law_do : Stmt := top 102
abbrev s__law_small : Stmt := top 93
abbrev s__law_works : Stmt := top 94
abbrev s__law_position : Stmt := top 95
abbrev s_law : Stmt := top 103
theorem sc__law_open : FnScope ["_law_script", "_law_place", "_law_cells", "_law_at", "_law_digits"] ["_law_script", "_law_place"] (defScope s__law_open) := ⟨rfl, rfl, rfl, by decide +kernel, rfl, by decide +kernel, by decide +kernel⟩
theorem sc__law_draw : FnScope ["_law_hand", "_law_many", "_law_got", "_law_cell", "_law_number"] ["_law_hand", "_law_many"] (defScope s__law_draw) := ⟨rfl, rfl, rfl, by decide +kernel, rfl, by decide +kernel, by decide +kernel⟩
theorem sc__law_far : FnScope ["_law_hand", "_law_bound", "_law_total", "_law_k"] ["_law_hand", "_law_bound"] (defScope s__law_far) := ⟨rfl, rfl, rfl, by decide +kernel, rfl, by decide +kernel, by decide +kernel⟩
theorem sc__law_factor : FnScope ["_law_hand"] ["_law_hand"] (defScope s__law_factor) := ⟨rfl, rfl, rfl, by decide +kernel, rfl, by decide +kernel, by decide +kernel⟩
theorem sc_is_whole : FnScope ["thing"] ["thing"] (defScope s_is_whole) := ⟨rfl, rfl, rfl, by decide +kernel, rfl, by decide +kernel, by decide +kernel⟩
theorem sc_is_amount : FnScope ["thing"] ["thing"] (defScope s_is_amount) := ⟨rfl, rfl, rfl, by decide +kernel, rfl, by decide +kernel, by decide +kernel⟩
theorem sc_is_span : FnScope ["thing"] ["thing"] (defScope s_is_span) := ⟨rfl, rfl, rfl, by decide +kernel, rfl, by decide +kernel, by decide +kernel⟩
theorem sc_is_piece : FnScope ["thing"] ["thing"] (defScope s_is_piece) := ⟨rfl, rfl, rfl, by decide +kernel, rfl, by decide +kernel, by decide +kernel⟩
theorem sc_are_pieces : FnScope ["thing"] ["thing"] (defScope s_are_pieces) := ⟨rfl, rfl, rfl, by decide +kernel, rfl, by decide +kernel, by decide +kernel⟩
theorem sc_Machine_init : FnScope ["self", "up", "down", "begin", "run", "rest", "least", "pieces", "spans", "costs", "at", "fits"] ["self", "up", "down", "begin", "run", "rest", "least", "pieces"] (defScope s_Machine_init) := ⟨rfl, rfl, rfl, by decide +kernel, rfl, by decide +kernel, by decide +kernel⟩
theorem sc__law_spec : FnScope ["_law_hand", "_law_by", "_law_longest", "_law_up", "_law_down", "_law_costs", "_law_least", "_law_rate", "_law_pieces", "_law_k"] ["_law_hand", "_law_by", "_law_longest"] (defScope s__law_spec) := ⟨rfl, rfl, rfl, by decide +kernel, rfl, by decide +kernel, by decide +kernel⟩
theorem sc__law_machine : FnScope ["_law_spec_here"] ["_law_spec_here"] (defScope s__law_machine) := ⟨rfl, rfl, rfl, by decide +kernel, rfl, by decide +kernel, by decide +kernel⟩
theorem sc__law_state : FnScope ["_law_hand", "_law_spec_here"] ["_law_hand", "_law_spec_here"] (defScope s__law_state) := ⟨rfl, rfl, rfl, by decide +kernel, rfl, by decide +kernel, by decide +kernel⟩
theorem sc__law_same : FnScope ["_law_one", "_law_due"] ["_law_one", "_law_due"] (defScope s__law_same) := ⟨rfl, rfl, rfl, by decide +kernel, rfl, by decide +kernel, by decide +kernel⟩
theorem sc_is_depth : FnScope ["thing"] ["thing"] (defScope s_is_depth) := ⟨rfl, rfl, rfl, by decide +kernel, rfl, by decide +kernel, by decide +kernel⟩
theorem sc_Store_init : FnScope ["self", "cap", "into", "out", "takes", "gives", "depths", "at", "fits"] ["self", "cap", "into", "out", "takes", "gives"] (defScope s_Store_init) := ⟨rfl, rfl, rfl, by decide +kernel, rfl, by decide +kernel, by decide +kernel⟩
theorem sc_are_machines : FnScope ["thing"] ["thing"] (defScope s_are_machines) := ⟨rfl, rfl, rfl, by decide +kernel, rfl, by decide +kernel, by decide +kernel⟩
theorem sc_Works_init : FnScope ["self", "machines", "store", "lack", "is_store", "at", "fits"] ["self", "machines", "store", "lack"] (defScope s_Works_init) := ⟨rfl, rfl, rfl, by decide +kernel, rfl, by decide +kernel, by decide +kernel⟩
theorem sc__law_want : FnScope ["_law_hand", "_law_by"] ["_law_hand", "_law_by"] (defScope s__law_want) := ⟨rfl, rfl, rfl, by decide +kernel, rfl, by decide +kernel, by decide +kernel⟩
theorem sc__law_store : FnScope ["_law_hand", "_law_by", "_law_gives", "_law_takes"] ["_law_hand", "_law_by"] (defScope s__law_store) := ⟨rfl, rfl, rfl, by decide +kernel, rfl, by decide +kernel, by decide +kernel⟩
theorem sc_Keeper_init : FnScope ["self", "works", "position"] ["self", "works", "position"] (defScope s_Keeper_init) := ⟨rfl, rfl, rfl, by decide +kernel, rfl, by decide +kernel, by decide +kernel⟩
theorem sc_Keeper_keep_deed : FnScope ["self"] ["self"] (defScope s_Keeper_keep_deed) := ⟨rfl, rfl, rfl, by decide +kernel, rfl, by decide +kernel, by decide +kernel⟩
theorem sc_Keeper_tell : FnScope ["self", "want"] ["self", "want"] (defScope s_Keeper_tell) := ⟨rfl, rfl, rfl, by decide +kernel, rfl, by decide +kernel, by decide +kernel⟩
theorem sc_Keeper_change : FnScope ["self", "at", "want"] ["self", "at", "want"] (defScope s_Keeper_change) := ⟨rfl, rfl, rfl, by decide +kernel, rfl, by decide +kernel, by decide +kernel⟩
theorem sc_Keeper_go : FnScope ["self", "planned", "want"] ["self"] (defScope s_Keeper_go) := ⟨rfl, rfl, rfl, by decide +kernel, rfl, by decide +kernel, by decide +kernel⟩
theorem sc_Keeper_undo : FnScope ["self", "kept"] ["self"] (defScope s_Keeper_undo) := ⟨rfl, rfl, rfl, by decide +kernel, rfl, by decide +kernel, by decide +kernel⟩
theorem sc_Keeper_waiting : FnScope ["self"] ["self"] (defScope s_Keeper_waiting) := ⟨rfl, rfl, rfl, by decide +kernel, rfl, by decide +kernel, by decide +kernel⟩
theorem sc_Keeper_gone : FnScope ["self"] ["self"] (defScope s_Keeper_gone) := ⟨rfl, rfl, rfl, by decide +kernel, rfl, by decide +kernel, by decide +kernel⟩
theorem sc_Keeper_now : FnScope ["self"] ["self"] (defScope s_Keeper_now) := ⟨rfl, rfl, rfl, by decide +kernel, rfl, by decide +kernel, by decide +kernel⟩
theorem sc_Keeper_spent : FnScope ["self"] ["self"] (defScope s_Keeper_spent) := ⟨rfl, rfl, rfl, by decide +kernel, rfl, by decide +kernel, by decide +kernel⟩
theorem sc__law_changed : FnScope ["_law_keeper", "_law_at", "_law_want_here", "e"] ["_law_keeper", "_law_at", "_law_want_here"] (defScope s__law_changed) := ⟨rfl, rfl, rfl, by decide +kernel, rfl, by decide +kernel, by decide +kernel⟩
theorem sc__law_gone : FnScope ["_law_keeper"] ["_law_keeper"] (defScope s__law_gone) := ⟨rfl, rfl, rfl, by decide +kernel, rfl, by decide +kernel, by decide +kernel⟩
theorem sc__law_looks : FnScope ["_law_keeper", "_law_position_here", "_law_wants", "_law_first", "_law_k", "_law_way", "_law_found"] ["_law_keeper", "_law_position_here", "_law_wants", "_law_first"] (defScope s__law_looks) := ⟨rfl, rfl, rfl, by decide +kernel, rfl, by decide +kernel, by decide +kernel⟩
theorem sc__law_undone : FnScope ["_law_keeper", "_law_wants", "_law_past"] ["_law_keeper", "_law_wants", "_law_past"] (defScope s__law_undone) := ⟨rfl, rfl, rfl, by decide +kernel, rfl, by decide +kernel, by decide +kernel⟩
theorem sc__law_do : FnScope ["_law_hand", "_law_keeper", "_law_wants", "_law_past", "_law_by", "_law_most", "_law_want_here", "_law_way", "_law_at"] ["_law_hand", "_law_keeper", "_law_wants", "_law_past", "_law_by", "_law_most"] (defScope s__law_do) := ⟨rfl, rfl, rfl, by decide +kernel, rfl, by decide +kernel, by decide +kernel⟩
theorem sc__law_small : FnScope ["_law_hand", "_law_by", "_law_many", "_law_longest", "_law_specs", "_law_store_here"] ["_law_hand"] (defScope s__law_small) := ⟨rfl, rfl, rfl, by decide +kernel, rfl, by decide +kernel, by decide +kernel⟩
theorem sc__law_works : FnScope ["_law_spec_here", "_law_machines", "_law_store_here"] ["_law_spec_here"] (defScope s__law_works) := ⟨rfl, rfl, rfl, by decide +kernel, rfl, by decide +kernel, by decide +kernel⟩
theorem sc__law_position : FnScope ["_law_hand", "_law_spec_here", "_law_states"] ["_law_hand", "_law_spec_here"] (defScope s__law_position) := ⟨rfl, rfl, rfl, by decide +kernel, rfl, by decide +kernel, by decide +kernel⟩
theorem sc_law : FnScope ["_law_script", "_law_hand", "_law_spec_here", "_law_works_here", "_law_k", "_law_positions", "_law_keepers", "_law_wants", "_law_pasts", "_law_most", "_law_place", "_law_look"] ["_law_script"] (defScope s_law) := ⟨rfl, rfl, rfl, by decide +kernel, rfl, by decide +kernel, by decide +kernel⟩
structure Adr where
  f__law_open : Addr
  d__law_open : FuncData
  f__law_draw : Addr
  d__law_draw : FuncData
  f__law_far : Addr
  d__law_far : FuncData
  f__law_factor : Addr
  d__law_factor : FuncData
  f_is_whole : Addr
  d_is_whole : FuncData
  f_is_amount : Addr
  d_is_amount : FuncData
  f_is_span : Addr
  d_is_span : FuncData
  f_is_piece : Addr
  d_is_piece : FuncData
  f_are_pieces : Addr
  d_are_pieces : FuncData
  f_Machine_init : Addr
  d_Machine_init : FuncData
  f__law_spec : Addr
  d__law_spec : FuncData
  f__law_machine : Addr
  d__law_machine : FuncData
  f__law_state : Addr
  d__law_state : FuncData
  f__law_same : Addr
  d__law_same : FuncData
  f_is_depth : Addr
  d_is_depth : FuncData
  f_Store_init : Addr
  d_Store_init : FuncData
  f_are_machines : Addr
  d_are_machines : FuncData
  f_Works_init : Addr
  d_Works_init : FuncData
  f__law_want : Addr
  d__law_want : FuncData
  f__law_store : Addr
  d__law_store : FuncData
  f_Keeper_init : Addr
  d_Keeper_init : FuncData
  f_Keeper_keep_deed : Addr
  d_Keeper_keep_deed : FuncData
  f_Keeper_tell : Addr
  d_Keeper_tell : FuncData
  f_Keeper_change : Addr
  d_Keeper_change : FuncData
  f_Keeper_go : Addr
  d_Keeper_go : FuncData
  f_Keeper_undo : Addr
  d_Keeper_undo : FuncData
  f_Keeper_waiting : Addr
  d_Keeper_waiting : FuncData
  f_Keeper_gone : Addr
  d_Keeper_gone : FuncData
  f_Keeper_now : Addr
  d_Keeper_now : FuncData
  f_Keeper_spent : Addr
  d_Keeper_spent : FuncData
  f__law_changed : Addr
  d__law_changed : FuncData
  f__law_gone : Addr
  d__law_gone : FuncData
  f__law_looks : Addr
  d__law_looks : FuncData
  f__law_undone : Addr
  d__law_undone : FuncData
  f__law_do : Addr
  d__law_do : FuncData
  f__law_small : Addr
  d__law_small : FuncData
  f__law_works : Addr
  d__law_works : FuncData
  f__law_position : Addr
  d__law_position : FuncData
  f_law : Addr
  d_law : FuncData
  c_Keeper : Addr
  c_Machine : Addr
  c_Store : Addr
  c_Works : Addr
  c_NoDeed : Addr
  c_NoHour : Addr
  c_NoText : Addr
  c_NotNow : Addr
  c_StintError : Addr
  c_TooMany : Addr
  c_Wrong : Addr
structure Txt (K : PySem.W.Frag) (mg : Str → Option Value) (a : Adr) : Prop where
  F__law_open : Fun K "_law_open" "_law_open" s__law_open a.f__law_open a.d__law_open
  b__law_open : Binds K a.d__law_open ["_law_script", "_law_place"] []
  g__law_open : mg "_law_open" = some (.ref a.f__law_open)
  F__law_draw : Fun K "_law_draw" "_law_draw" s__law_draw a.f__law_draw a.d__law_draw
  b__law_draw : Binds K a.d__law_draw ["_law_hand", "_law_many"] []
  g__law_draw : mg "_law_draw" = some (.ref a.f__law_draw)
  F__law_far : Fun K "_law_far" "_law_far" s__law_far a.f__law_far a.d__law_far
  b__law_far : Binds K a.d__law_far ["_law_hand", "_law_bound"] []
  g__law_far : mg "_law_far" = some (.ref a.f__law_far)
  F__law_factor : Fun K "_law_factor" "_law_factor" s__law_factor a.f__law_factor a.d__law_factor
  b__law_factor : Binds K a.d__law_factor ["_law_hand"] []
  g__law_factor : mg "_law_factor" = some (.ref a.f__law_factor)
  F_is_whole : Fun K "is_whole" "is_whole" s_is_whole a.f_is_whole a.d_is_whole
  b_is_whole : Binds K a.d_is_whole ["thing"] []
  g_is_whole : mg "is_whole" = some (.ref a.f_is_whole)
  F_is_amount : Fun K "is_amount" "is_amount" s_is_amount a.f_is_amount a.d_is_amount
  b_is_amount : Binds K a.d_is_amount ["thing"] []
  g_is_amount : mg "is_amount" = some (.ref a.f_is_amount)
  F_is_span : Fun K "is_span" "is_span" s_is_span a.f_is_span a.d_is_span
  b_is_span : Binds K a.d_is_span ["thing"] []
  g_is_span : mg "is_span" = some (.ref a.f_is_span)
  F_is_piece : Fun K "is_piece" "is_piece" s_is_piece a.f_is_piece a.d_is_piece
  b_is_piece : Binds K a.d_is_piece ["thing"] []
  g_is_piece : mg "is_piece" = some (.ref a.f_is_piece)
  F_are_pieces : Fun K "are_pieces" "are_pieces" s_are_pieces a.f_are_pieces a.d_are_pieces
  b_are_pieces : Binds K a.d_are_pieces ["thing"] []
  g_are_pieces : mg "are_pieces" = some (.ref a.f_are_pieces)
  F_Machine_init : Fun K "__init__" "Machine.__init__" s_Machine_init a.f_Machine_init a.d_Machine_init
  b_Machine_init : Binds K a.d_Machine_init ["self", "up", "down", "begin", "run", "rest", "least", "pieces"] []
  F__law_spec : Fun K "_law_spec" "_law_spec" s__law_spec a.f__law_spec a.d__law_spec
  b__law_spec : Binds K a.d__law_spec ["_law_hand", "_law_by", "_law_longest"] []
  g__law_spec : mg "_law_spec" = some (.ref a.f__law_spec)
  F__law_machine : Fun K "_law_machine" "_law_machine" s__law_machine a.f__law_machine a.d__law_machine
  b__law_machine : Binds K a.d__law_machine ["_law_spec_here"] []
  g__law_machine : mg "_law_machine" = some (.ref a.f__law_machine)
  F__law_state : Fun K "_law_state" "_law_state" s__law_state a.f__law_state a.d__law_state
  b__law_state : Binds K a.d__law_state ["_law_hand", "_law_spec_here"] []
  g__law_state : mg "_law_state" = some (.ref a.f__law_state)
  F__law_same : Fun K "_law_same" "_law_same" s__law_same a.f__law_same a.d__law_same
  b__law_same : Binds K a.d__law_same ["_law_one", "_law_due"] []
  g__law_same : mg "_law_same" = some (.ref a.f__law_same)
  F_is_depth : Fun K "is_depth" "is_depth" s_is_depth a.f_is_depth a.d_is_depth
  b_is_depth : Binds K a.d_is_depth ["thing"] []
  g_is_depth : mg "is_depth" = some (.ref a.f_is_depth)
  F_Store_init : Fun K "__init__" "Store.__init__" s_Store_init a.f_Store_init a.d_Store_init
  b_Store_init : Binds K a.d_Store_init ["self", "cap", "into", "out", "takes", "gives"] []
  F_are_machines : Fun K "are_machines" "are_machines" s_are_machines a.f_are_machines a.d_are_machines
  b_are_machines : Binds K a.d_are_machines ["thing"] []
  g_are_machines : mg "are_machines" = some (.ref a.f_are_machines)
  F_Works_init : Fun K "__init__" "Works.__init__" s_Works_init a.f_Works_init a.d_Works_init
  b_Works_init : Binds K a.d_Works_init ["self", "machines", "store", "lack"] []
  F__law_want : Fun K "_law_want" "_law_want" s__law_want a.f__law_want a.d__law_want
  b__law_want : Binds K a.d__law_want ["_law_hand", "_law_by"] []
  g__law_want : mg "_law_want" = some (.ref a.f__law_want)
  F__law_store : Fun K "_law_store" "_law_store" s__law_store a.f__law_store a.d__law_store
  b__law_store : Binds K a.d__law_store ["_law_hand", "_law_by"] []
  g__law_store : mg "_law_store" = some (.ref a.f__law_store)
  F_Keeper_init : Fun K "__init__" "Keeper.__init__" s_Keeper_init a.f_Keeper_init a.d_Keeper_init
  b_Keeper_init : Binds K a.d_Keeper_init ["self", "works", "position"] []
  F_Keeper_keep_deed : Fun K "keep_deed" "Keeper.keep_deed" s_Keeper_keep_deed a.f_Keeper_keep_deed a.d_Keeper_keep_deed
  b_Keeper_keep_deed : Binds K a.d_Keeper_keep_deed ["self"] []
  F_Keeper_tell : Fun K "tell" "Keeper.tell" s_Keeper_tell a.f_Keeper_tell a.d_Keeper_tell
  b_Keeper_tell : Binds K a.d_Keeper_tell ["self", "want"] []
  F_Keeper_change : Fun K "change" "Keeper.change" s_Keeper_change a.f_Keeper_change a.d_Keeper_change
  b_Keeper_change : Binds K a.d_Keeper_change ["self", "at", "want"] []
  F_Keeper_go : Fun K "go" "Keeper.go" s_Keeper_go a.f_Keeper_go a.d_Keeper_go
  b_Keeper_go : Binds K a.d_Keeper_go ["self"] []
  F_Keeper_undo : Fun K "undo" "Keeper.undo" s_Keeper_undo a.f_Keeper_undo a.d_Keeper_undo
  b_Keeper_undo : Binds K a.d_Keeper_undo ["self"] []
  F_Keeper_waiting : Fun K "waiting" "Keeper.waiting" s_Keeper_waiting a.f_Keeper_waiting a.d_Keeper_waiting
  b_Keeper_waiting : Binds K a.d_Keeper_waiting ["self"] []
  F_Keeper_gone : Fun K "gone" "Keeper.gone" s_Keeper_gone a.f_Keeper_gone a.d_Keeper_gone
  b_Keeper_gone : Binds K a.d_Keeper_gone ["self"] []
  F_Keeper_now : Fun K "now" "Keeper.now" s_Keeper_now a.f_Keeper_now a.d_Keeper_now
  b_Keeper_now : Binds K a.d_Keeper_now ["self"] []
  F_Keeper_spent : Fun K "spent" "Keeper.spent" s_Keeper_spent a.f_Keeper_spent a.d_Keeper_spent
  b_Keeper_spent : Binds K a.d_Keeper_spent ["self"] []
  F__law_changed : Fun K "_law_changed" "_law_changed" s__law_changed a.f__law_changed a.d__law_changed
  b__law_changed : Binds K a.d__law_changed ["_law_keeper", "_law_at", "_law_want_here"] []
  g__law_changed : mg "_law_changed" = some (.ref a.f__law_changed)
  F__law_gone : Fun K "_law_gone" "_law_gone" s__law_gone a.f__law_gone a.d__law_gone
  b__law_gone : Binds K a.d__law_gone ["_law_keeper"] []
  g__law_gone : mg "_law_gone" = some (.ref a.f__law_gone)
  F__law_looks : Fun K "_law_looks" "_law_looks" s__law_looks a.f__law_looks a.d__law_looks
  b__law_looks : Binds K a.d__law_looks ["_law_keeper", "_law_position_here", "_law_wants", "_law_first"] []
  g__law_looks : mg "_law_looks" = some (.ref a.f__law_looks)
  F__law_undone : Fun K "_law_undone" "_law_undone" s__law_undone a.f__law_undone a.d__law_undone
  b__law_undone : Binds K a.d__law_undone ["_law_keeper", "_law_wants", "_law_past"] []
  g__law_undone : mg "_law_undone" = some (.ref a.f__law_undone)
  F__law_do : Fun K "_law_do" "_law_do" s__law_do a.f__law_do a.d__law_do
  b__law_do : Binds K a.d__law_do ["_law_hand", "_law_keeper", "_law_wants", "_law_past", "_law_by", "_law_most"] []
  g__law_do : mg "_law_do" = some (.ref a.f__law_do)
  F__law_small : Fun K "_law_small" "_law_small" s__law_small a.f__law_small a.d__law_small
  b__law_small : Binds K a.d__law_small ["_law_hand"] []
  g__law_small : mg "_law_small" = some (.ref a.f__law_small)
  F__law_works : Fun K "_law_works" "_law_works" s__law_works a.f__law_works a.d__law_works
  b__law_works : Binds K a.d__law_works ["_law_spec_here"] []
  g__law_works : mg "_law_works" = some (.ref a.f__law_works)
  F__law_position : Fun K "_law_position" "_law_position" s__law_position a.f__law_position a.d__law_position
  b__law_position : Binds K a.d__law_position ["_law_hand", "_law_spec_here"] []
  g__law_position : mg "_law_position" = some (.ref a.f__law_position)
  F_law : Fun K "law" "law" s_law a.f_law a.d_law
  b_law : Binds K a.d_law ["_law_script"] []
  g_law : mg "law" = some (.ref a.f_law)
  C_Keeper : Cls K a.c_Keeper
  g_Keeper : mg "Keeper" = some (.ref a.c_Keeper)
  M_Keeper : Mk K a.c_Keeper a.f_Keeper_init
  m_Keeper_keep_deed : Meth K a.c_Keeper "keep_deed" a.f_Keeper_keep_deed
  m_Keeper_tell : Meth K a.c_Keeper "tell" a.f_Keeper_tell
  m_Keeper_change : Meth K a.c_Keeper "change" a.f_Keeper_change
  m_Keeper_go : Meth K a.c_Keeper "go" a.f_Keeper_go
  m_Keeper_undo : Meth K a.c_Keeper "undo" a.f_Keeper_undo
  m_Keeper_waiting : Meth K a.c_Keeper "waiting" a.f_Keeper_waiting
  m_Keeper_gone : Meth K a.c_Keeper "gone" a.f_Keeper_gone
  m_Keeper_now : Meth K a.c_Keeper "now" a.f_Keeper_now
  m_Keeper_spent : Meth K a.c_Keeper "spent" a.f_Keeper_spent
  n_Keeper_works : NoAttr K a.c_Keeper "works"
  n_Keeper_place : NoAttr K a.c_Keeper "place"
  n_Keeper_waits : NoAttr K a.c_Keeper "waits"
  n_Keeper_past : NoAttr K a.c_Keeper "past"
  n_Keeper_cost : NoAttr K a.c_Keeper "cost"
  n_Keeper_deeds : NoAttr K a.c_Keeper "deeds"
  C_Machine : Cls K a.c_Machine
  g_Machine : mg "Machine" = some (.ref a.c_Machine)
  M_Machine : Mk K a.c_Machine a.f_Machine_init
  n_Machine_up : NoAttr K a.c_Machine "up"
  n_Machine_down : NoAttr K a.c_Machine "down"
  n_Machine_begin : NoAttr K a.c_Machine "begin"
  n_Machine_run : NoAttr K a.c_Machine "run"
  n_Machine_rest : NoAttr K a.c_Machine "rest"
  n_Machine_least : NoAttr K a.c_Machine "least"
  n_Machine_pieces : NoAttr K a.c_Machine "pieces"
  i_Machine : Isi K a.c_Machine
  C_Store : Cls K a.c_Store
  g_Store : mg "Store" = some (.ref a.c_Store)
  M_Store : Mk K a.c_Store a.f_Store_init
  n_Store_cap : NoAttr K a.c_Store "cap"
  n_Store_into : NoAttr K a.c_Store "into"
  n_Store_out : NoAttr K a.c_Store "out"
  n_Store_takes : NoAttr K a.c_Store "takes"
  n_Store_gives : NoAttr K a.c_Store "gives"
  i_Store : Isi K a.c_Store
  C_Works : Cls K a.c_Works
  g_Works : mg "Works" = some (.ref a.c_Works)
  M_Works : Mk K a.c_Works a.f_Works_init
  n_Works_machines : NoAttr K a.c_Works "machines"
  n_Works_store : NoAttr K a.c_Works "store"
  n_Works_lack : NoAttr K a.c_Works "lack"
  i_Works : Isi K a.c_Works
  g_NoDeed : mg "NoDeed" = some (.ref a.c_NoDeed)
  Z_NoDeed : ErrK K a.c_NoDeed
  ex_NoDeed : PySem.W.excIn K a.c_NoDeed veMro "ValueError.__new__" = true
  x_NoDeed_StintError : PySem.W.exmOne K (.ref a.c_NoDeed) (.ref a.c_StintError) = some true
  x_NoDeed_NoHour : PySem.W.exmOne K (.ref a.c_NoDeed) (.ref a.c_NoHour) = some false
  x_NoDeed_NoDeed : PySem.W.exmOne K (.ref a.c_NoDeed) (.ref a.c_NoDeed) = some true
  k_NoDeed_NoHour : PySem.W.kitOne K (.ref a.c_NoDeed) (.ref a.c_NoHour) = some false
  k_NoDeed_ValueError : PySem.W.kitOne K (.ref a.c_NoDeed) (.type "ValueError") = some true
  k_NoDeed_Wrong : PySem.W.kitOne K (.ref a.c_NoDeed) (.ref a.c_Wrong) = some false
  k_NoDeed_NotNow : PySem.W.kitOne K (.ref a.c_NoDeed) (.ref a.c_NotNow) = some false
  k_NoDeed_TooMany : PySem.W.kitOne K (.ref a.c_NoDeed) (.ref a.c_TooMany) = some false
  k_NoDeed_NoDeed : PySem.W.kitOne K (.ref a.c_NoDeed) (.ref a.c_NoDeed) = some true
  k_NoDeed_NoText : PySem.W.kitOne K (.ref a.c_NoDeed) (.ref a.c_NoText) = some false
  g_NoHour : mg "NoHour" = some (.ref a.c_NoHour)
  Z_NoHour : ErrK K a.c_NoHour
  ex_NoHour : PySem.W.excIn K a.c_NoHour veMro "ValueError.__new__" = true
  x_NoHour_StintError : PySem.W.exmOne K (.ref a.c_NoHour) (.ref a.c_StintError) = some true
  x_NoHour_NoHour : PySem.W.exmOne K (.ref a.c_NoHour) (.ref a.c_NoHour) = some true
  x_NoHour_NoDeed : PySem.W.exmOne K (.ref a.c_NoHour) (.ref a.c_NoDeed) = some false
  k_NoHour_NoHour : PySem.W.kitOne K (.ref a.c_NoHour) (.ref a.c_NoHour) = some true
  k_NoHour_ValueError : PySem.W.kitOne K (.ref a.c_NoHour) (.type "ValueError") = some true
  k_NoHour_Wrong : PySem.W.kitOne K (.ref a.c_NoHour) (.ref a.c_Wrong) = some false
  k_NoHour_NotNow : PySem.W.kitOne K (.ref a.c_NoHour) (.ref a.c_NotNow) = some false
  k_NoHour_TooMany : PySem.W.kitOne K (.ref a.c_NoHour) (.ref a.c_TooMany) = some false
  k_NoHour_NoDeed : PySem.W.kitOne K (.ref a.c_NoHour) (.ref a.c_NoDeed) = some false
  k_NoHour_NoText : PySem.W.kitOne K (.ref a.c_NoHour) (.ref a.c_NoText) = some false
  g_NoText : mg "NoText" = some (.ref a.c_NoText)
  g_NotNow : mg "NotNow" = some (.ref a.c_NotNow)
  g_StintError : mg "StintError" = some (.ref a.c_StintError)
  g_TooMany : mg "TooMany" = some (.ref a.c_TooMany)
  g_Wrong : mg "Wrong" = some (.ref a.c_Wrong)
  z_ValueError : mg "ValueError" = none
  z_abs : mg "abs" = none
  z_all : mg "all" = none
  z_bool : mg "bool" = none
  z_enumerate : mg "enumerate" = none
  z_int : mg "int" = none
  z_isinstance : mg "isinstance" = none
  z_len : mg "len" = none
  z_list : mg "list" = none
  z_max : mg "max" = none
  z_min : mg "min" = none
  z_range : mg "range" = none
  z_str : mg "str" = none
  z_tuple : mg "tuple" = none
  v_LONGEST_STINT : ∃ t, mg "LONGEST_STINT" = some (.int 12 t)
  v_MOST_PIECES : ∃ t, mg "MOST_PIECES" = some (.int 4 t)
  v_MOST_LEVELS : ∃ t, mg "MOST_LEVELS" = some (.int 8 t)
  v_MOST_MACHINES : ∃ t, mg "MOST_MACHINES" = some (.int 6 t)
end My
namespace My
open PySem L2
inductive Th (H : Hp) : V → String → Prop where
  | non : Th H .non "NoneType"
  | bl (b : Bool) : Th H (.bl b) "bool"
  | int (i : Int) : Th H (.int i) "int"
  | str (x : Str) : Th H (.str x) "str"
  | lst {p : Addr} {xs : List V} (e : H p = some (.lst xs)) : Th H (.ref p) "list"
  | tup {p : Addr} {xs : List V} (e : H p = some (.tup xs)) : Th H (.ref p) "tuple"
  | dK {p : Addr} {kvs : List (Key × V)} (e : H p = some (.dK kvs)) : Th H (.ref p) "dict"
theorem Th.ty {K : PySem.W.Frag} {H : Hp} {v : V} {T : String} (h : Th H v T) : TyOf K H v (.type T) := by
  cases h with
  | non => exact .non
  | bl b => exact .bl b
  | int i => exact .int i
  | str x => exact .str x
  | lst e => exact .lst e
  | tup e => exact .tup e
  | dK e => exact .dK e
theorem Th.keep {H H' : Hp} {p : Addr} {v : V} {T : String} (h : Th H v T) (n : ∀ b, v = .ref b → b ≠ p) (k : Keep p H H') : Th H' v T := by
  cases h with
  | non => exact .non
  | bl b => exact .bl b
  | int i => exact .int i
  | str x => exact .str x
  | lst e => exact .lst (k _ _ e (n _ rfl))
  | tup e => exact .tup (k _ _ e (n _ rfl))
  | dK e => exact .dK (k _ _ e (n _ rfl))
theorem isi_int {K : PySem.W.Frag} {H : Hp} {v : V} {T : String} (h : Th H v T) : IsI K H v (.ty "int") (T == "int" || T == "bool") := by
  refine ⟨_, h.ty, .inl ⟨_, rfl, ?_⟩⟩
  cases h <;> rfl
theorem isi_bool {K : PySem.W.Frag} {H : Hp} {v : V} {T : String} (h : Th H v T) : IsI K H v (.ty "bool") (T == "bool") := by
  refine ⟨_, h.ty, .inl ⟨_, rfl, ?_⟩⟩
  cases h <;> rfl
def amt : V → Bool
  | .int i => decide (0 ≤ i) && decide (i ≤ 10 ^ 12)
  | _ => false
structure HandAt (H : Hp) (p : Addr) : Prop where
  ex : ∃ (d c : Int) (q : Addr) (ms : List Int), H p = some (.lst [.int d, .int c, .ref q]) ∧ H q = some (.lst (ms.map V.int)) ∧ ms ≠ [] ∧ q ≠ p
def SameQ (p : Addr) (H H' : Hp) : Prop := ∀ (d c : Int) (q : Addr), H p = some (.lst [.int d, .int c, .ref q]) → ∃ d' c' : Int, H' p = some (.lst [.int d', .int c', .ref q])
theorem SameQ.trans {p : Addr} {H H1 H2 : Hp} (a : SameQ p H H1) (b : SameQ p H1 H2) : SameQ p H H2 := fun d c q e => by
  obtain ⟨d', c', e'⟩ := a d c q e
  exact b d' c' q e'
theorem SameQ.of {p : Addr} {H H' : Hp} (s : ∀ o, H p = some o → H' p = some o) : SameQ p H H' := fun d c q e => ⟨d, c, s _ e⟩
theorem HandAt.of {p : Addr} {H H' : Hp} (h : HandAt H p) (k : Keep p H H') (s : SameQ p H H') : HandAt H' p := by
  obtain ⟨d, c, q, ms, hp, hq, hne, hqp⟩ := h.ex
  obtain ⟨d', c', e⟩ := s d c q hp
  exact ⟨⟨d', c', q, ms, e, k _ _ hq hqp, hne, hqp⟩⟩
theorem HandAt.same {H H' : Hp} {p : Addr} (h : HandAt H p) (s : Same H H') : HandAt H' p := by
  obtain ⟨d, c, q, ms, hp, hq, hne, hqp⟩ := h.ex
  exact ⟨⟨d, c, q, ms, s _ _ hp, s _ _ hq, hne, hqp⟩⟩
theorem isi_list {K : PySem.W.Frag} {H : Hp} {v : V} {T : String} (h : Th H v T) : IsI K H v (.ty "list") (T == "list") := by
  refine ⟨_, h.ty, .inl ⟨_, rfl, ?_⟩⟩
  cases h <;> rfl
theorem isi_str {K : PySem.W.Frag} {H : Hp} {v : V} {T : String} (h : Th H v T) : IsI K H v (.ty "str") (T == "str") := by
  refine ⟨_, h.ty, .inl ⟨_, rfl, ?_⟩⟩
  cases h <;> rfl
theorem isi_tuple {K : PySem.W.Frag} {H : Hp} {v : V} {T : String} (h : Th H v T) : IsI K H v (.ty "tuple") (T == "tuple") := by
  refine ⟨_, h.ty, .inl ⟨_, rfl, ?_⟩⟩
  cases h <;> rfl
theorem mod_at {ms : List Int} {c : Int} (h : ms ≠ []) : ∃ m, m ∈ ms ∧ atI (ms.map V.int) (c % ((ms.map V.int).length : Int)) = some (.int m) := by
  have hl : 0 < ms.length := List.length_pos_iff.mpr h
  have e1 := Int.emod_nonneg c (b := ((ms.map V.int).length : Int)) (by rw [List.length_map]; omega)
  have e2 := Int.emod_lt_of_pos c (b := ((ms.map V.int).length : Int)) (by rw [List.length_map]; omega)
  obtain ⟨j, hj⟩ : ∃ j : Nat, c % ((ms.map V.int).length : Int) = (j : Int) := ⟨_, (Int.toNat_of_nonneg e1).symm⟩
  rw [hj] at e2 ⊢
  rw [List.length_map] at e2
  have hjl : j < ms.length := by omega
  exact ⟨ms[j], List.getElem_mem hjl, atI_nat (by rw [List.getElem?_map, List.getElem?_eq_getElem hjl]; rfl)⟩
theorem cut_map (ms : List Int) (lo hi : Option Int) : ∃ r : List Int, cutV (ms.map V.int) lo hi = r.map V.int ∧ r.length = (cutV (ms.map V.int) lo hi).length := by
  unfold cutV
  rw [← List.map_drop, ← List.map_take]
  exact ⟨_, rfl, by simp⟩
theorem rot {ms : List Int} {i : Int} (h0 : 0 ≤ i) (h1 : i < ms.length) : ∃ ms' : List Int, cutV (ms.map V.int) (some i) none ++ cutV (ms.map V.int) none (some i) = ms'.map V.int ∧ ms' ≠ [] ∧ ms'.length ≤ ms.length + ms.length := by
  obtain ⟨r1, e1, l1⟩ := cut_map ms (some i) none
  obtain ⟨r2, e2, l2⟩ := cut_map ms none (some i)
  have b1 := cutV_length (ms.map V.int) (some i) none
  have b2 := cutV_length (ms.map V.int) none (some i)
  rw [List.length_map] at b1 b2
  refine ⟨r1 ++ r2, by rw [e1, e2, List.map_append], fun z => ?_, by rw [List.length_append]; omega⟩
  have z1 : r1 = [] := (List.append_eq_nil_iff.mp z).1
  obtain ⟨j, rfl⟩ := Int.eq_ofNat_of_zero_le h0
  have hj : j < ms.length := by omega
  rw [z1, List.length_nil] at l1
  have l3 : (cutV (ms.map V.int) (some (j : Int)) none).length = ms.length - j := by
    unfold cutV
    rw [HT.sIx_nat, HT.sIx_none, List.length_take, List.length_drop, List.length_map, Nat.min_eq_left (Nat.le_of_lt hj)]
    omega
  rw [l3] at l1
  omega
def sp__law_open (K : PySem.W.Frag) : Sp := fun vs H Q _ => ∃ (a : Addr) (ns : List Int) (i : Int), vs = [.ref a, .int i] ∧ SqL K H a (ns.map V.int) ∧ ns.length ≤ 63 ∧ 0 ≤ i ∧
  ∀ p H', Same H H' → H p = none → HandAt H' p → (∀ d c q, H' p = some (.lst [.int d, .int c, .ref q]) → H q = none) → Q (.ref p) H'
set_option maxHeartbeats 40000000 in
theorem ok__law_open {P : Program} {w : World} {K : PySem.W.Frag} {mg : Str → Option Value} {base : Heap} {a : Adr} (tx : Txt K mg a) : FnOk P w K mg base CX0 1 a.f__law_open a.d__law_open ["_law_script", "_law_place"] (sp__law_open K) := by
  refine tx.F__law_open.ok sc__law_open (fun vs H Q E h => ?_) (fun cdv A outer s H vs Q E hr h => ?_)
  · obtain ⟨a, ns, i, rfl, _⟩ := h
    rfl
  · obtain ⟨a, ns, i, rfl , hS, hl, h0, k⟩ := h
    have hu := hu9 hr
    refine L2.Q.root (L2.Q.pss_cons (L2.Q.ps_setC (k := 1) (idx := []) (N := ["_law_cell"]) (i := 2) sc__law_open.nd rfl (Or.inl rfl) (blk_sc (sc := defScope s__law_open) (NX := ["_law_script", "_law_place", "_law_cells", "_law_at", "_law_digits"]) rfl rfl rfl (by decide +kernel)) rfl (L2.Q.pi_listK (K' := K) (L2.Q.pe_slice (rs := rSlG K) sl_G (L2.Q.pv 0) L2.Q.po_none (L2.Q.po_some L2.Q.pe_int))) (fun _ _ _ _ => (L2.Q.pg_name (i := 0) (show (["_law_cell"] : List Str).Nodup by decide +kernel) rfl (Or.inl rfl))) (own_name (by decide)) (fun _ _ _ _ => L2.Q.pts_nil) (fun _ _ _ _ => (L2.Q.pe_callBN call_absG (by rfl) tx.z_abs bt_abs (L2.Q.pa_c (L2.Q.pv 0) L2.Q.pa_nil))))
      (L2.Q.pss_cons (L2.Q.ps_if (L2.Q.pt_cmpR (r := rEqG K) (op_eqG hu) (L2.Q.pv 2) (L2.Q.pe_lst L2.Q.pa_nil) (nomark _)) (L2.Q.pss_one (L2.Q.ps_set (i := 2) sc__law_open.nd rfl (Or.inl rfl) (L2.Q.lst1 L2.Q.pe_int))) L2.Q.pss_nil)
      (L2.Q.pss_cons (L2.Q.ps_set (i := 3) sc__law_open.nd rfl (Or.inl rfl) (L2.Q.pe_op op_mod (L2.Q.pv 1) (L2.Q.pe_callBN (rc := rLen K) call_lenG (by rfl) tx.z_len bt_len (L2.Q.pa_c (L2.Q.pv 2) L2.Q.pa_nil))))
      (L2.Q.pss_cons (L2.Q.ps_set (i := 4) sc__law_open.nd rfl (Or.inl rfl) L2.Q.pe_int)
      (L2.Q.pss_cons (L2.Q.ps_if (L2.Q.pw_pt (L2.Q.pw_and (L2.Q.pt_cmpR op_ge (L2.Q.pe_ixK (K' := K) (L2.Q.pv 2) (L2.Q.pv 3) (fun _ _ => rfl)) (L2.Q.pe_op op_pow L2.Q.pe_int L2.Q.pe_int) (nomark _)) (L2.Q.pw_and1 (L2.Q.pt_cmpR op_lt (L2.Q.pv 1) (L2.Q.pe_callBN (rc := rLen K) call_lenG (by rfl) tx.z_len bt_len (L2.Q.pa_c (L2.Q.pv 2) L2.Q.pa_nil)) (nomark _))))) (L2.Q.pss_one (L2.Q.ps_set (i := 4) sc__law_open.nd rfl (Or.inl rfl) (L2.Q.pe_ixK (K' := K) (L2.Q.pv 2) (L2.Q.pv 3) (fun _ _ => rfl)))) L2.Q.pss_nil)
      (L2.Q.pss_one (L2.Q.ps_ret (L2.Q.lst3 (L2.Q.pv 4) (L2.Q.pe_op op_addG L2.Q.pe_int (L2.Q.pe_op op_mulG L2.Q.pe_int (L2.Q.pv 1))) (L2.Q.pe_op op_addG (L2.Q.pe_slice (rs := rSlG K) sl_G (L2.Q.pv 2) (L2.Q.po_some (L2.Q.pv 3)) L2.Q.po_none) (L2.Q.pe_slice (rs := rSlG K) sl_G (L2.Q.pv 2) L2.Q.po_none (L2.Q.po_some (L2.Q.pv 3)))))))))))) ?_
    refine rd_start (σ := [some (.ref a), some (.int i), none, none, none]) rfl ?_
    refine rd_seq ?_
    repeat walk_at "go"
    refine rd_slL hS ?_
    intro p1 n1
    repeat walk_at "go"
    rw [show cutV (ns.map V.int) none (some 63) = ns.map V.int from cut_head (n := 63) (by rw [List.length_map]; exact hl)]
    refine rd_li (SqL.of upd_same) ?_
    refine comp_pure (fun v => match v with | .int i => .int (if i < 0 then -i else i) | v => v) (SqL.of upd_same) (sz_le (by rw [List.length_map]; omega)) (fun x N N' hx hN => ?_) ?_
    · obtain ⟨y, hy, rfl⟩ := List.mem_map.mp hx
      repeat walk_at "go"
      exact hN
    · intro p2 n2
      repeat walk_at "st"
      have s2 : Same H (upd (upd H p1 (.lst (ns.map V.int))) p2 (.lst ((ns.map V.int).map fun v => match v with | .int i => .int (if i < 0 then -i else i) | v => v))) := (Same.new n1).trans (Same.new n2)
      rw [List.map_map] at s2 ⊢
      generalize hm : ns.map ((fun v => match v with | V.int i => V.int (if i < 0 then -i else i) | v => v) ∘ V.int) = xs at s2 ⊢
      obtain ⟨ms, rfl⟩ : ∃ ms : List Int, xs = ms.map V.int := ⟨ns.map fun i => if i < 0 then -i else i, by rw [← hm, List.map_map]; rfl⟩
      have lm : ms.length ≤ 63 := by
        have := congrArg List.length hm
        simp only [List.length_map] at this
        omega
      refine rd_seqJ (fun σ' H' => ∃ (c : Addr) (ms : List Int), σ' = [some (.ref a), some (.int i), some (.ref c), none, none] ∧ Same H H' ∧ H' c = some (.lst (ms.map V.int)) ∧ ms ≠ [] ∧ ms.length ≤ 63) (fun N hN => ?_) ?_
      · repeat walk_at "go"
        intro p3 n3
        repeat walk_at "go"
        refine ⟨_, eqN_nil (SqL.of (by walk_at "hp")) (SqL.of upd_same), ?_⟩
        repeat walk_at "go"
        refine rd_bool (fun h => ?_) (fun h => ?_)
        · repeat walk_at "go"
          intro p4 n4
          repeat walk_at "go"
          exact hN _ _ ⟨p4, [0], rfl, (s2.trans (Same.new n3)).trans (Same.new n4), upd_same, by simp, by simp⟩
        · repeat walk_at "go"
          refine hN _ _ ⟨p2, ms, rfl, s2.trans (Same.new n3), by walk_at "hp", ?_, lm⟩
          rintro rfl
          simp at h
      · rintro σ' H' ⟨c, ms, rfl, sH, hc, hne, lm⟩
        have hl : 0 < ms.length := List.length_pos_iff.mpr hne
        obtain ⟨m, _, hm⟩ := mod_at (c := i) hne
        have e1 := Int.emod_nonneg i (b := ((ms.map V.int).length : Int)) (by rw [List.length_map]; omega)
        have e2 := Int.emod_lt_of_pos i (b := ((ms.map V.int).length : Int)) (by rw [List.length_map]; omega)
        obtain ⟨ms', em, en, el⟩ := rot (ms := ms) e1 (by rw [List.length_map] at e2 ⊢; exact e2)
        repeat walk_at "go"
        refine rd_dec (fun h => ?_) (fun h => ?_)
        · repeat walk_at "go"
          refine rd_dec (fun h => ?_) (fun h => ?_)
          all_goals
            repeat walk_at "go"
            refine rd_slL (SqL.of hc) ?_
            intro p5 n5
            repeat walk_at "go"
            refine rd_slL (SqL.of (by walk_at "hp")) ?_
            intro p6 n6
            repeat walk_at "go"
            refine rd_addL (by walk_at "hp") (by walk_at "hp") (sz_le (by have := cutV_length (ms.map V.int) (some (i % ((ms.map V.int).length : Int))) none; have := cutV_length (ms.map V.int) none (some (i % ((ms.map V.int).length : Int))); simp only [List.length_map] at *; omega)) ?_
            intro p7 n7
            repeat walk_at "go"
            rw [em]
            repeat walk_at "go"
            intro p8 n8
            repeat walk_at "go"
            have s67 := (Same.new (o := .lst (cutV (ms.map V.int) (some (i % ((ms.map V.int).length : Int))) none)) n5).trans (Same.new (o := .lst (cutV (ms.map V.int) none (some (i % ((ms.map V.int).length : Int))))) n6)
            have s8 := s67.trans (Same.new (o := .lst (ms'.map V.int)) n7)
            refine k _ _ (sH.trans (s8.trans (Same.new n8))) ((sH.trans s8).free n8) ⟨⟨_, _, _, ms', upd_same, by walk_at "hp", en, ?_⟩⟩ (fun d0 c0 q0 e0 => by rw [upd_same] at e0; cases e0; exact (sH.trans s67).free n7)
            exact ne_none n8 upd_same
        · repeat walk_at "go"
          refine rd_slL (SqL.of hc) ?_
          intro p5 n5
          repeat walk_at "go"
          refine rd_slL (SqL.of (by walk_at "hp")) ?_
          intro p6 n6
          repeat walk_at "go"
          refine rd_addL (by walk_at "hp") (by walk_at "hp") (sz_le (by have := cutV_length (ms.map V.int) (some (i % ((ms.map V.int).length : Int))) none; have := cutV_length (ms.map V.int) none (some (i % ((ms.map V.int).length : Int))); simp only [List.length_map] at *; omega)) ?_
          intro p7 n7
          repeat walk_at "go"
          rw [em]
          repeat walk_at "go"
          intro p8 n8
          repeat walk_at "go"
          have s67 := (Same.new (o := .lst (cutV (ms.map V.int) (some (i % ((ms.map V.int).length : Int))) none)) n5).trans (Same.new (o := .lst (cutV (ms.map V.int) none (some (i % ((ms.map V.int).length : Int))))) n6)
          have s8 := s67.trans (Same.new (o := .lst (ms'.map V.int)) n7)
          refine k _ _ (sH.trans (s8.trans (Same.new n8))) ((sH.trans s8).free n8) ⟨⟨_, _, _, ms', upd_same, by walk_at "hp", en, ?_⟩⟩ (fun d0 c0 q0 e0 => by rw [upd_same] at e0; cases e0; exact (sH.trans s67).free n7)
          exact ne_none n8 upd_same
def sp__law_draw (K : PySem.W.Frag) : Sp := fun vs H Q _ => ∃ (p : Addr) (n : Int), vs = [.ref p, .int n] ∧ HandAt H p ∧ 0 < n ∧ n < 1073741824 ∧
  ∀ (r : Int) H', 0 ≤ r → r < n → HandAt H' p → Keep p H H' → SameQ p H H' → Q (.int r) H'
set_option maxHeartbeats 40000000 in
theorem ok__law_draw {P : Program} {w : World} {K : PySem.W.Frag} {mg : Str → Option Value} {base : Heap} {a : Adr} (tx : Txt K mg a) : FnOk P w K mg base CX0 1 a.f__law_draw a.d__law_draw ["_law_hand", "_law_many"] (sp__law_draw K) := by
  refine tx.F__law_draw.ok sc__law_draw (fun vs H Q E h => ?_) (fun cdv A outer s H vs Q E hr h => ?_)
  · obtain ⟨p, n, rfl, _⟩ := h
    rfl
  · obtain ⟨p, n, rfl , hh, h0, h1, k⟩ := h
    have hu := hu9 hr
    refine L2.Q.root (L2.Q.pss_cons (L2.Q.ps_if (L2.Q.pt_cmpR op_gt (L2.Q.pe_ixK (K' := K) (L2.Q.pv 0) L2.Q.pe_int (fun _ _ => rfl)) L2.Q.pe_int (nomark _)) (L2.Q.pss_cons (L2.Q.ps_set (i := 2) sc__law_draw.nd rfl (Or.inl rfl) (L2.Q.pe_op op_mod (L2.Q.pe_ixK (K' := K) (L2.Q.pv 0) L2.Q.pe_int (fun _ _ => rfl)) (L2.Q.pv 1)))
      (L2.Q.pss_cons (L2.Q.ps_asg (L2.Q.pe_op op_fdiv (L2.Q.pe_ixK (K' := K) (L2.Q.pv 0) L2.Q.pe_int (fun _ _ => rfl)) (L2.Q.pv 1)) (L2.Q.pg_sub (L2.Q.pv 0) L2.Q.pe_int set_list))
      (L2.Q.pss_one (L2.Q.ps_ret (L2.Q.pv 2))))) L2.Q.pss_nil)
      (L2.Q.pss_cons (L2.Q.ps_augS (L2.Q.pv 0) L2.Q.pe_int get_ix L2.Q.pe_int ip_add set_list)
      (L2.Q.pss_cons (L2.Q.ps_set (i := 3) sc__law_draw.nd rfl (Or.inl rfl) (L2.Q.pe_op op_mod (L2.Q.pe_ixK (K' := K) (L2.Q.pe_ixK (K' := K) (L2.Q.pv 0) L2.Q.pe_int (fun _ _ => rfl)) (L2.Q.pe_op op_mod (L2.Q.pe_ixK (K' := K) (L2.Q.pv 0) L2.Q.pe_int (fun _ _ => rfl)) (L2.Q.pe_callBN (rc := rLen K) call_lenG (by rfl) tx.z_len bt_len (L2.Q.pa_c (L2.Q.pe_ixK (K' := K) (L2.Q.pv 0) L2.Q.pe_int (fun _ _ => rfl)) L2.Q.pa_nil))) (fun _ _ => rfl)) L2.Q.pe_int))
      (L2.Q.pss_cons (L2.Q.ps_set (i := 4) sc__law_draw.nd rfl (Or.inl rfl) (L2.Q.pe_op op_mod (L2.Q.pe_op op_addG (L2.Q.pe_op op_addG (L2.Q.pe_op op_mulG (L2.Q.pv 3) L2.Q.pe_int) (L2.Q.pe_op op_mulG (L2.Q.pe_ixK (K' := K) (L2.Q.pv 0) L2.Q.pe_int (fun _ _ => rfl)) L2.Q.pe_int)) L2.Q.pe_int) L2.Q.pe_int))
      (L2.Q.pss_cons (L2.Q.ps_set (i := 4) sc__law_draw.nd rfl (Or.inl rfl) (L2.Q.pe_op op_mod (L2.Q.pe_op op_addG (L2.Q.pe_op op_mulG (L2.Q.pv 4) (L2.Q.pv 4)) (L2.Q.pe_ixK (K' := K) (L2.Q.pv 0) L2.Q.pe_int (fun _ _ => rfl))) L2.Q.pe_int))
      (L2.Q.pss_cons (L2.Q.ps_set (i := 4) sc__law_draw.nd rfl (Or.inl rfl) (L2.Q.pe_op op_mod (L2.Q.pe_op op_addG (L2.Q.pe_op op_mulG (L2.Q.pv 4) L2.Q.pe_int) L2.Q.pe_int) L2.Q.pe_int))
      (L2.Q.pss_one (L2.Q.ps_ret (L2.Q.pe_op op_mod (L2.Q.pe_op op_fdiv (L2.Q.pe_op op_mod (L2.Q.pe_op op_mulG (L2.Q.pv 4) (L2.Q.pv 4)) L2.Q.pe_int) L2.Q.pe_int) (L2.Q.pv 1)))))))))) ?_
    obtain ⟨d, c, q, ms, hp, hq, hne, hqp⟩ := hh.ex
    refine rd_start (σ := [some (.ref p), some (.int n), none, none, none]) rfl ?_
    repeat walk_at "go"
    refine rd_dec (fun hd => ?_) (fun hd => ?_)
    · repeat walk_at "go"
      refine rd_setL hp rfl ?_
      repeat walk_at "go"
      refine k _ _ (Int.emod_nonneg _ (by omega)) (Int.emod_lt_of_pos _ h0) ⟨⟨_, c, q, ms, upd_same, by walk_at "hp", hne, hqp⟩⟩ Keep.upd (fun d0 c0 q0 e0 => by rw [hp] at e0; cases e0; exact ⟨_, _, upd_same⟩)
    · repeat walk_at "go"
      refine rd_gIx (SqL.of hp) (by decide) rfl ?_
      repeat walk_at "go"
      refine rd_setL hp rfl ?_
      obtain ⟨m, _, hm⟩ := mod_at (c := c + 1) hne
      have hlen : 0 < ((ms.map V.int).length : Int) := by rw [List.length_map]; have := List.length_pos_iff.mpr hne; omega
      repeat walk_at "go"
      have hq' : (upd H p (.lst [.int d, .int (c + 1), .ref q])) q = some (.lst (ms.map V.int)) := by walk_at "hp"
      repeat walk_at "go"
      exact k _ _ (Int.emod_nonneg _ (by omega)) (Int.emod_lt_of_pos _ h0) ⟨⟨d, c + 1, q, ms, upd_same, hq', hne, hqp⟩⟩ Keep.upd (fun d0 c0 q0 e0 => by rw [hp] at e0; cases e0; exact ⟨_, _, upd_same⟩)
def sp__law_far (K : PySem.W.Frag) : Sp := fun vs H Q _ => ∃ (p : Addr) (b : Int), vs = [.ref p, .int b] ∧ HandAt H p ∧ 0 < b ∧
  ∀ (r : Int) H', 0 ≤ r → r < b → HandAt H' p → Keep p H H' → SameQ p H H' → Q (.int r) H'
set_option maxHeartbeats 40000000 in
theorem ok__law_far {P : Program} {w : World} {K : PySem.W.Frag} {mg : Str → Option Value} {base : Heap} {a : Adr} (tx : Txt K mg a) : FnOk P w K mg base CX0 2 a.f__law_far a.d__law_far ["_law_hand", "_law_bound"] (sp__law_far K) := by
  have G__law_draw := ok__law_draw (P := P) (w := w) (base := base) tx
  refine tx.F__law_far.ok sc__law_far (fun vs H Q E h => ?_) (fun cdv A outer s H vs Q E hr h => ?_)
  · obtain ⟨p, b, rfl, _⟩ := h
    rfl
  · obtain ⟨p, b, rfl , hh, h0, k⟩ := h
    have hu := hu9 hr
    refine L2.Q.root (L2.Q.pss_cons (L2.Q.ps_set (i := 2) sc__law_far.nd rfl (Or.inl rfl) L2.Q.pe_int)
      (L2.Q.pss_cons (L2.Q.ps_for PassesOwn.never rfl (L2.Q.pi_range1N (by rfl) tx.z_range (L2.Q.pa_c L2.Q.pe_int L2.Q.pa_nil)) (L2.Q.pg_name (i := 3) sc__law_far.nd rfl (Or.inl rfl)) (L2.Q.pss_one (L2.Q.ps_set (i := 2) sc__law_far.nd rfl (Or.inl rfl) (L2.Q.pe_op op_addG (L2.Q.pe_op op_mulG (L2.Q.pv 2) L2.Q.pe_int) (L2.Q.pe_callN (G__law_draw) (hr.mono (by decide)) (by rfl) tx.g__law_draw tx.F__law_draw.kp tx.b__law_draw .nil pass0 (L2.Q.pa_c (L2.Q.pv 0) (L2.Q.pa_c L2.Q.pe_int L2.Q.pa_nil)))))))
      (L2.Q.pss_one (L2.Q.ps_ret (L2.Q.pe_op op_mod (L2.Q.pv 2) (L2.Q.pv 1)))))) ?_
    refine rd_start (σ := [some (.ref p), some (.int b), none, none]) rfl ?_
    repeat walk_at "go"
    refine ⟨by decide, by decide, ?_⟩
    refine rf_range (n := 11) (fun i σ' H' => ∃ (t : Int) (x : Option V), σ' = [some (.ref p), some (.int b), some (.int t), x] ∧ HandAt H' p ∧ Keep p H H' ∧ SameQ p H H') ⟨0, none, rfl, hh, fun _ _ e _ => e, SameQ.of fun _ e => e⟩ (fun i σ' H' hi ⟨t, x, e, h', kp, sq⟩ => ?_) (fun σ' H' ⟨t, x, e, h', kp, sq⟩ => ?_)
    · subst e
      repeat walk_at "go"
      refine ⟨p, _, rfl, h', by decide, by decide, fun r H2 r0 r1 h2 k2 q2 => ?_⟩
      repeat walk_at "go"
      exact ⟨_, _, rfl, h2, kp.trans k2, sq.trans q2⟩
    · subst e
      repeat walk_at "go"
      exact k _ _ (Int.emod_nonneg _ (by omega)) (Int.emod_lt_of_pos _ h0) h' kp sq
def sp__law_factor (K : PySem.W.Frag) : Sp := fun vs H Q _ => ∃ (p : Addr), vs = [.ref p] ∧ HandAt H p ∧ ∀ (r : Int) H', 1 ≤ r → r ≤ 50000000000 → HandAt H' p → Keep p H H' → SameQ p H H' → Q (.int r) H'
set_option maxHeartbeats 40000000 in
theorem ok__law_factor {P : Program} {w : World} {K : PySem.W.Frag} {mg : Str → Option Value} {base : Heap} {a : Adr} (tx : Txt K mg a) : FnOk P w K mg base CX0 3 a.f__law_factor a.d__law_factor ["_law_hand"] (sp__law_factor K) := by
  have G__law_draw := ok__law_draw (P := P) (w := w) (base := base) tx
  have G__law_far := ok__law_far (P := P) (w := w) (base := base) tx
  refine tx.F__law_factor.ok sc__law_factor (fun vs H Q E h => ?_) (fun cdv A outer s H vs Q E hr h => ?_)
  · obtain ⟨p, rfl, _⟩ := h
    rfl
  · obtain ⟨p, rfl , hh, k⟩ := h
    have hu := hu9 hr
    refine L2.Q.root (L2.Q.pss_cons (L2.Q.ps_if (L2.Q.pt_cmpR op_gt (L2.Q.pe_callN (G__law_draw) (hr.mono (by decide)) (by rfl) tx.g__law_draw tx.F__law_draw.kp tx.b__law_draw .nil pass0 (L2.Q.pa_c (L2.Q.pv 0) (L2.Q.pa_c L2.Q.pe_int L2.Q.pa_nil))) L2.Q.pe_int (nomark _)) (L2.Q.pss_one (L2.Q.ps_ret L2.Q.pe_int)) L2.Q.pss_nil)
      (L2.Q.pss_one (L2.Q.ps_ret (L2.Q.pe_op op_addG L2.Q.pe_int (L2.Q.pe_callN (G__law_far) (hr.mono (by decide)) (by rfl) tx.g__law_far tx.F__law_far.kp tx.b__law_far .nil pass0 (L2.Q.pa_c (L2.Q.pv 0) (L2.Q.pa_c (L2.Q.pe_op op_mulG L2.Q.pe_int (L2.Q.pe_op op_pow L2.Q.pe_int L2.Q.pe_int)) L2.Q.pa_nil))))))) ?_
    refine rd_start (σ := [some (.ref p)]) rfl ?_
    repeat walk_at "go"
    refine ⟨p, _, rfl, hh, by decide, by decide, fun r1 H1 a1 b1 h1 k1 q1 => ?_⟩
    repeat walk_at "go"
    refine rd_dec (fun h => ?_) (fun h => ?_)
    · repeat walk_at "go"
      exact k _ _ (by decide) (by decide) h1 k1 q1
    · repeat walk_at "go"
      refine ⟨p, _, rfl, h1, by decide, fun r2 H2 a2 b2 h2 k2 q2 => ?_⟩
      have b3 : r2 < 50000000000 := b2
      repeat walk_at "go"
      exact k _ _ (by omega) (by omega) h2 (k1.trans k2) (q1.trans q2)
structure MS where
  up : Int
  down : Int
  begin_ : Int
  run : Int
  rest : Int
  least : Int
  pieces : List (Int × Int)
def Am (i : Int) : Prop := 0 ≤ i ∧ i ≤ 1000000000000
structure PcGood (ps : List (Int × Int)) : Prop where
  len : ps.length ≤ 4
  pc : ∀ t ∈ ps, 1 ≤ t.1 ∧ Am t.1 ∧ Am t.2
  up : ∀ (j : Nat) t u, ps[j]? = some t → ps[j + 1]? = some u → t.2 ≤ u.2
structure MS.Good (m : MS) : Prop where
  up : 1 ≤ m.up ∧ m.up ≤ 12
  down : 1 ≤ m.down ∧ m.down ≤ 12
  begin_ : Am m.begin_
  run : Am m.run
  rest : Am m.rest
  least : Am m.least
  pieces : PcGood m.pieces
structure Tup2 (H : Hp) (qs : List Addr) (ps : List (Int × Int)) : Prop where
  len : qs.length = ps.length
  at_ : ∀ (j : Nat) q t, qs[j]? = some q → ps[j]? = some t → H q = some (.tup [.int t.1, .int t.2])
structure PcAt (H : Hp) (p : Addr) (ps : List (Int × Int)) : Prop where
  ex : ∃ qs, H p = some (.lst (qs.map V.ref)) ∧ Tup2 H qs ps
structure SpecAt (H : Hp) (s : Addr) (m : MS) : Prop where
  ex : ∃ pl, H s = some (.lst [.int m.up, .int m.down, .int m.begin_, .int m.run, .int m.rest, .int m.least, .ref pl]) ∧ PcAt H pl m.pieces
def mFs (m : MS) (pl : Addr) : List (Str × V) := [("up", .int m.up), ("down", .int m.down), ("begin", .int m.begin_), ("run", .int m.run), ("rest", .int m.rest), ("least", .int m.least), ("pieces", .ref pl)]
structure MachAt (C : Addr) (H : Hp) (a : Addr) (m : MS) : Prop where
  ex : ∃ dx pl, H a = some (.ins C dx (mFs m pl)) ∧ PcAt H pl m.pieces
theorem Tup2.at2 {H : Hp} {qs : List Addr} {ps : List (Int × Int)} (h : Tup2 H qs ps) {q : Addr} (hq : q ∈ qs) : ∃ t ∈ ps, H q = some (.tup [.int t.1, .int t.2]) := by
  obtain ⟨j, hj, rfl⟩ := List.getElem_of_mem hq
  have hj2 : j < ps.length := by rw [← h.len]; exact hj
  exact ⟨ps[j], List.getElem_mem hj2, h.at_ j _ _ (List.getElem?_eq_getElem hj) (List.getElem?_eq_getElem hj2)⟩
theorem Tup2.same {H H' : Hp} {qs : List Addr} {ps : List (Int × Int)} (h : Tup2 H qs ps) (s : Same H H') : Tup2 H' qs ps := ⟨h.len, fun j q t h1 h2 => s _ _ (h.at_ j q t h1 h2)⟩
theorem PcAt.same {H H' : Hp} {p : Addr} {ps : List (Int × Int)} (h : PcAt H p ps) (s : Same H H') : PcAt H' p ps := by
  obtain ⟨qs, h1, h2⟩ := h.ex
  exact ⟨qs, s _ _ h1, h2.same s⟩
theorem SpecAt.same {H H' : Hp} {p : Addr} {m : MS} (h : SpecAt H p m) (s : Same H H') : SpecAt H' p m := by
  obtain ⟨pl, h1, h2⟩ := h.ex
  exact ⟨pl, s _ _ h1, h2.same s⟩
theorem MachAt.same {C : Addr} {H H' : Hp} {p : Addr} {m : MS} (h : MachAt C H p m) (s : Same H H') : MachAt C H' p m := by
  obtain ⟨dx, pl, h1, h2⟩ := h.ex
  exact ⟨dx, pl, s _ _ h1, h2.same s⟩
theorem Tup2.keep {H H' : Hp} {qs : List Addr} {ps : List (Int × Int)} {p : Addr} (h : Tup2 H qs ps) (hp : ∀ xs, H p ≠ some (.tup xs)) (s : Keep p H H') : Tup2 H' qs ps :=
  ⟨h.len, fun j q t h1 h2 => by
    have e := h.at_ j q t h1 h2
    exact s _ _ e (fun z => hp _ (z ▸ e))⟩
theorem HandAt.ntup {H : Hp} {p : Addr} (h : HandAt H p) (xs : List V) : H p ≠ some (.tup xs) := fun z => by
  obtain ⟨d, c, q, ms, hp, _⟩ := h.ex
  rw [hp] at z
  cases z
theorem PcAt.keep {H H' : Hp} {a p : Addr} {ps : List (Int × Int)} (h : PcAt H a ps) (hh : HandAt H p) (s : Keep p H H') : PcAt H' a ps := by
  obtain ⟨qs, h1, h2⟩ := h.ex
  obtain ⟨d, c, q, ms, hp, _⟩ := id hh.ex
  refine ⟨qs, s _ _ h1 (fun z => ?_), h2.keep hh.ntup s⟩
  rw [z, hp] at h1
  cases qs with
  | nil => cases h1
  | cons x xs => cases h1
theorem SpecAt.keep {H H' : Hp} {a p : Addr} {m : MS} (h : SpecAt H a m) (hh : HandAt H p) (s : Keep p H H') : SpecAt H' a m := by
  obtain ⟨pl, h1, h2⟩ := h.ex
  obtain ⟨d, c, q, ms, hp, _⟩ := id hh.ex
  refine ⟨pl, s _ _ h1 (fun z => ?_), h2.keep hh s⟩
  rw [z, hp] at h1
  cases h1
theorem MachAt.keep {C : Addr} {H H' : Hp} {a p : Addr} {m : MS} (h : MachAt C H a m) (hh : HandAt H p) (s : Keep p H H') : MachAt C H' a m := by
  obtain ⟨dx, pl, h1, h2⟩ := h.ex
  obtain ⟨d, c, q, ms, hp, _⟩ := id hh.ex
  refine ⟨dx, pl, s _ _ h1 (fun z => ?_), h2.keep hh s⟩
  rw [z, hp] at h1
  cases h1
theorem amt_of {i : Int} (h : Am i) : amt (.int i) = true := by
  obtain ⟨h1, h2⟩ := h
  have h3 : i ≤ 10 ^ 12 := h2
  show (decide (0 ≤ i) && decide (i ≤ 10 ^ 12)) = true
  rw [decide_eq_true h1, decide_eq_true h3]
  rfl
def sp_is_whole (K : PySem.W.Frag) : Sp := fun vs H Q _ => ∃ v T, vs = [v] ∧ Th H v T ∧ Q (.bl (T == "int")) H
set_option maxHeartbeats 40000000 in
theorem ok_is_whole {P : Program} {w : World} {K : PySem.W.Frag} {mg : Str → Option Value} {base : Heap} {a : Adr} (tx : Txt K mg a) : FnOk P w K mg base CX0 1 a.f_is_whole a.d_is_whole ["thing"] (sp_is_whole K) := by
  refine tx.F_is_whole.ok sc_is_whole (fun vs H Q E h => ?_) (fun cdv A outer s H vs Q E hr h => ?_)
  · obtain ⟨v, T, rfl, _⟩ := h
    rfl
  · obtain ⟨v, T, rfl , ht, k⟩ := h
    have hu := hu9 hr
    refine L2.Q.root (L2.Q.pss_one (L2.Q.ps_ret (L2.Q.pe_and (L2.Q.pe_callBN (rc := rIsi K) call_isiG (by rfl) tx.z_isinstance bt_isinstance (L2.Q.pa_c (L2.Q.pv 0) (L2.Q.pa_c (L2.Q.pe_bltn (v := .ty "int") (by rfl) tx.z_int bt_int rfl) L2.Q.pa_nil))) (L2.Q.pe_one (L2.Q.pe_not (L2.Q.pe_callBN (rc := rIsi K) call_isiG (by rfl) tx.z_isinstance bt_isinstance (L2.Q.pa_c (L2.Q.pv 0) (L2.Q.pa_c (L2.Q.pe_bltn (v := .ty "bool") (by rfl) tx.z_bool bt_bool rfl) L2.Q.pa_nil)))))))) ?_
    refine rd_start (σ := [some v]) rfl ?_
    repeat walk_at "go"
    refine rd_isi (isi_int ht) ?_
    repeat walk_at "go"
    refine rd_bool (fun h => ?_) (fun h => ?_)
    · repeat walk_at "go"
      refine rd_isi (isi_bool ht) ?_
      repeat walk_at "go"
      have e : (!(T == "bool")) = (T == "int") := by cases ht <;> first | rfl | cases h
      rw [e]
      exact k
    · have e : (T == "int") = false := by cases ht <;> first | rfl | cases h
      rw [e] at k
      exact k
def sp_is_amount (K : PySem.W.Frag) : Sp := fun vs H Q _ => ∃ v T, vs = [v] ∧ Th H v T ∧ Q (.bl (amt v)) H
set_option maxHeartbeats 40000000 in
theorem ok_is_amount {P : Program} {w : World} {K : PySem.W.Frag} {mg : Str → Option Value} {base : Heap} {a : Adr} (tx : Txt K mg a) : FnOk P w K mg base CX0 2 a.f_is_amount a.d_is_amount ["thing"] (sp_is_amount K) := by
  have G_is_whole := ok_is_whole (P := P) (w := w) (base := base) tx
  refine tx.F_is_amount.ok sc_is_amount (fun vs H Q E h => ?_) (fun cdv A outer s H vs Q E hr h => ?_)
  · obtain ⟨v, T, rfl, _⟩ := h
    rfl
  · obtain ⟨v, T, rfl , ht, k⟩ := h
    have hu := hu9 hr
    refine L2.Q.root (L2.Q.pss_one (L2.Q.ps_ret (L2.Q.pe_and (L2.Q.pe_callN (G_is_whole) (hr.mono (by decide)) (by rfl) tx.g_is_whole tx.F_is_whole.kp tx.b_is_whole .nil pass0 (L2.Q.pa_c (L2.Q.pv 0) L2.Q.pa_nil)) (L2.Q.pe_one (L2.Q.pe_chain op_le op_le L2.Q.pe_int (L2.Q.pv 0) (L2.Q.pe_op op_pow L2.Q.pe_int L2.Q.pe_int)))))) ?_
    refine rd_start (σ := [some v]) rfl ?_
    repeat walk_at "go"
    refine ⟨v, T, rfl, ht, ?_⟩
    repeat walk_at "go"
    refine rd_bool (fun h => ?_) (fun h => ?_)
    · cases ht with
      | int i =>
        repeat walk_at "go"
        refine rd_dec (fun h1 => ?_) (fun h1 => ?_)
        · repeat walk_at "go"
          have e : amt (.int i) = decide (i ≤ 10 ^ (12 : Int).toNat) := by simp [amt, h1]
          rw [← e]
          exact k
        · have e : amt (.int i) = false := by simp [amt, h1]
          rw [e] at k
          exact k
      | _ => cases h
    · have e : amt v = false := by cases ht <;> first | rfl | cases h
      rw [e] at k
      exact k
def sp_is_span (K : PySem.W.Frag) : Sp := fun vs H Q _ => ∃ (i : Int), vs = [.int i] ∧ 1 ≤ i ∧ i ≤ 12 ∧ Q (.bl true) H
set_option maxHeartbeats 40000000 in
theorem ok_is_span {P : Program} {w : World} {K : PySem.W.Frag} {mg : Str → Option Value} {base : Heap} {a : Adr} (tx : Txt K mg a) : FnOk P w K mg base CX0 2 a.f_is_span a.d_is_span ["thing"] (sp_is_span K) := by
  have G_is_whole := ok_is_whole (P := P) (w := w) (base := base) tx
  refine tx.F_is_span.ok sc_is_span (fun vs H Q E h => ?_) (fun cdv A outer s H vs Q E hr h => ?_)
  · obtain ⟨i, rfl, _⟩ := h
    rfl
  · obtain ⟨i, rfl , h1, h2, k⟩ := h
    have hu := hu9 hr
    refine L2.Q.root (L2.Q.pss_one (L2.Q.ps_ret (L2.Q.pe_and (L2.Q.pe_callN (G_is_whole) (hr.mono (by decide)) (by rfl) tx.g_is_whole tx.F_is_whole.kp tx.b_is_whole .nil pass0 (L2.Q.pa_c (L2.Q.pv 0) L2.Q.pa_nil)) (L2.Q.pe_one (L2.Q.pe_chain op_le op_le L2.Q.pe_int (L2.Q.pv 0) (L2.Q.pe_gint (n := 12) (by rfl) tx.v_LONGEST_STINT)))))) ?_
    refine rd_start (σ := [some (.int i)]) rfl ?_
    repeat walk_at "go"
    refine ⟨_, _, rfl, .int i, ?_⟩
    repeat walk_at "go"
    refine rd_bool (fun _ => ?_) (fun h => by simp at h)
    repeat walk_at "go"
    refine rd_dec (fun _ => ?_) (fun h => absurd h1 h)
    repeat walk_at "go"
    rw [decide_eq_true h2]
    exact k
def sp_is_piece (K : PySem.W.Frag) : Sp := fun vs H Q _ => ∃ (q : Addr) (x y : Int), vs = [.ref q] ∧ H q = some (.tup [.int x, .int y]) ∧ 1 ≤ x ∧ Am x ∧ Am y ∧ Q (.bl true) H
set_option maxHeartbeats 40000000 in
theorem ok_is_piece {P : Program} {w : World} {K : PySem.W.Frag} {mg : Str → Option Value} {base : Heap} {a : Adr} (tx : Txt K mg a) : FnOk P w K mg base CX0 3 a.f_is_piece a.d_is_piece ["thing"] (sp_is_piece K) := by
  have G_is_amount := ok_is_amount (P := P) (w := w) (base := base) tx
  refine tx.F_is_piece.ok sc_is_piece (fun vs H Q E h => ?_) (fun cdv A outer s H vs Q E hr h => ?_)
  · obtain ⟨q, x, y, rfl, _⟩ := h
    rfl
  · obtain ⟨q, x, y, rfl , hq, h1, h2, h3, k⟩ := h
    have hu := hu9 hr
    refine L2.Q.root (L2.Q.pss_cons (L2.Q.ps_if (L2.Q.pw_pt (L2.Q.pw_or (L2.Q.pt_not (L2.Q.pt_val (L2.Q.pe_callBN (rc := rIsi K) call_isiG (by rfl) tx.z_isinstance bt_isinstance (L2.Q.pa_c (L2.Q.pv 0) (L2.Q.pa_c (L2.Q.pe_bltn (v := .ty "tuple") (by rfl) tx.z_tuple bt_tuple rfl) L2.Q.pa_nil))))) (L2.Q.pw_or1 (L2.Q.pt_cmpR (r := rNeG K) (op_neG hu) (L2.Q.pe_callBN (rc := rLen K) call_lenG (by rfl) tx.z_len bt_len (L2.Q.pa_c (L2.Q.pv 0) L2.Q.pa_nil)) L2.Q.pe_int (nomark _))))) (L2.Q.pss_one (L2.Q.ps_ret L2.Q.pe_bl)) L2.Q.pss_nil)
      (L2.Q.pss_one (L2.Q.ps_ret (L2.Q.pe_and (L2.Q.pe_callN (G_is_amount) (hr.mono (by decide)) (by rfl) tx.g_is_amount tx.F_is_amount.kp tx.b_is_amount .nil pass0 (L2.Q.pa_c (L2.Q.pe_ixK (K' := K) (L2.Q.pv 0) L2.Q.pe_int (fun _ _ => rfl)) L2.Q.pa_nil)) (L2.Q.pe_and (L2.Q.pe_cmpR op_ge (L2.Q.pe_ixK (K' := K) (L2.Q.pv 0) L2.Q.pe_int (fun _ _ => rfl)) L2.Q.pe_int (nomark _)) (L2.Q.pe_one (L2.Q.pe_callN (G_is_amount) (hr.mono (by decide)) (by rfl) tx.g_is_amount tx.F_is_amount.kp tx.b_is_amount .nil pass0 (L2.Q.pa_c (L2.Q.pe_ixK (K' := K) (L2.Q.pv 0) L2.Q.pe_int (fun _ _ => rfl)) L2.Q.pa_nil)))))))) ?_
    refine rd_start (σ := [some (.ref q)]) rfl ?_
    repeat walk_at "go"
    refine rd_isi (isi_tuple (.tup hq)) ?_
    repeat walk_at "go"
    refine rd_bool (fun h => by simp at h) (fun _ => ?_)
    repeat walk_at "go"
    refine rd_decN (fun h => absurd rfl h) (fun _ => ?_)
    repeat walk_at "go"
    refine ⟨_, _, rfl, .int x, ?_⟩
    rw [amt_of h2]
    repeat walk_at "go"
    refine rd_dec (fun _ => ?_) (fun h => absurd h1 h)
    repeat walk_at "go"
    refine ⟨_, _, rfl, .int y, ?_⟩
    rw [amt_of h3]
    exact k
def sp_are_pieces (K : PySem.W.Frag) : Sp := fun vs H Q _ => ∃ (p : Addr) (ps : List (Int × Int)), vs = [.ref p] ∧ PcAt H p ps ∧ PcGood ps ∧ ∀ H', Same H H' → Q (.bl true) H'
set_option maxHeartbeats 40000000 in
theorem ok_are_pieces {P : Program} {w : World} {K : PySem.W.Frag} {mg : Str → Option Value} {base : Heap} {a : Adr} (tx : Txt K mg a) : FnOk P w K mg base CX0 4 a.f_are_pieces a.d_are_pieces ["thing"] (sp_are_pieces K) := by
  have G_is_piece := ok_is_piece (P := P) (w := w) (base := base) tx
  refine tx.F_are_pieces.ok sc_are_pieces (fun vs H Q E h => ?_) (fun cdv A outer s H vs Q E hr h => ?_)
  · obtain ⟨p, ps, rfl, _⟩ := h
    rfl
  · obtain ⟨p, ps, rfl , hp, hg, k⟩ := h
    have hu := hu9 hr
    refine L2.Q.root (L2.Q.pss_cons (L2.Q.ps_if (L2.Q.pw_pt (L2.Q.pw_or (L2.Q.pt_not (L2.Q.pt_val (L2.Q.pe_callBN (rc := rIsi K) call_isiG (by rfl) tx.z_isinstance bt_isinstance (L2.Q.pa_c (L2.Q.pv 0) (L2.Q.pa_c (L2.Q.pe_bltn (v := .ty "list") (by rfl) tx.z_list bt_list rfl) L2.Q.pa_nil))))) (L2.Q.pw_or1 (L2.Q.pt_cmpR op_gt (L2.Q.pe_callBN (rc := rLen K) call_lenG (by rfl) tx.z_len bt_len (L2.Q.pa_c (L2.Q.pv 0) L2.Q.pa_nil)) (L2.Q.pe_gint (n := 4) (by rfl) tx.v_MOST_PIECES) (nomark _))))) (L2.Q.pss_one (L2.Q.ps_ret L2.Q.pe_bl)) L2.Q.pss_nil)
      (L2.Q.pss_cons (L2.Q.ps_if (L2.Q.pt_not (L2.Q.pt_val (L2.Q.pe_callBN (rc := rAll K) (call_allG rfl) (by rfl) tx.z_all bt_all (L2.Q.pa_c (L2.Q.pe_comp (k := 1) (idx := []) (N := ["piece"]) (blk_sc (sc := defScope s_are_pieces) (NX := ["thing"]) rfl rfl rfl (by decide +kernel)) rfl (L2.Q.pi_listK (K' := K) (L2.Q.pv 0)) (fun _ _ _ _ => (L2.Q.pg_name (i := 0) (show (["piece"] : List Str).Nodup by decide +kernel) rfl (Or.inl rfl))) (own_name (by decide)) (fun _ _ _ _ => L2.Q.pts_nil) (fun _ _ _ _ => (L2.Q.pe_callN (G_is_piece) (hr.mono (by decide)) (by rfl) tx.g_is_piece tx.F_is_piece.kp tx.b_is_piece .nil pass0 (L2.Q.pa_c (L2.Q.pv 0) L2.Q.pa_nil)))) L2.Q.pa_nil)))) (L2.Q.pss_one (L2.Q.ps_ret L2.Q.pe_bl)) L2.Q.pss_nil)
      (L2.Q.pss_one (L2.Q.ps_ret (L2.Q.pe_callBN (rc := rAll K) (call_allG rfl) (by rfl) tx.z_all bt_all (L2.Q.pa_c (L2.Q.pe_comp (k := 1) (idx := [0]) (N := ["at", "thing"]) (blk_sc (sc := defScope s_are_pieces) (NX := ["thing"]) rfl rfl rfl (by decide +kernel)) rfl (L2.Q.pi_range2N (by rfl) tx.z_range (L2.Q.pa_c L2.Q.pe_int (L2.Q.pa_c (L2.Q.pe_callBN (rc := rLen K) call_lenG (by rfl) tx.z_len bt_len (L2.Q.pa_c (L2.Q.pv 0) L2.Q.pa_nil)) L2.Q.pa_nil))) (fun _ _ _ _ => (L2.Q.pg_name (i := 0) (show (["at", "thing"] : List Str).Nodup by decide +kernel) rfl (Or.inl rfl))) (own_name (by decide)) (fun _ _ _ _ => L2.Q.pts_nil) (fun _ _ _ _ => (L2.Q.pe_cmpR op_le (L2.Q.pe_ixK (K' := K) (L2.Q.pe_ixK (K' := K) (L2.Q.pv 1) (L2.Q.pe_op op_sub (L2.Q.pv 0) L2.Q.pe_int) (fun _ _ => rfl)) L2.Q.pe_int (fun _ _ => rfl)) (L2.Q.pe_ixK (K' := K) (L2.Q.pe_ixK (K' := K) (L2.Q.pv 1) (L2.Q.pv 0) (fun _ _ => rfl)) L2.Q.pe_int (fun _ _ => rfl)) (nomark _)))) L2.Q.pa_nil)))))) ?_
    obtain ⟨qs, h1, h2⟩ := hp.ex
    have hl := hg.len
    have hql : qs.length ≤ 4 := by rw [h2.len]; exact hl
    refine rd_start (σ := [some (.ref p)]) rfl ?_
    repeat walk_at "go"
    refine rd_isi (isi_list (.lst h1)) ?_
    repeat walk_at "go"
    refine rd_bool (fun h => by simp at h) (fun _ => ?_)
    repeat walk_at "go"
    refine rd_dec (fun h => by rw [List.length_map] at h; omega) (fun _ => ?_)
    repeat walk_at "go"
    refine rd_li (SqL.of h1) ?_
    refine comp_pure (fun _ => .bl true) (SqL.of h1) (sz_le (by rw [List.length_map]; omega)) (fun x N N' hxm hN => ?_) ?_
    · obtain ⟨q, hq, rfl⟩ := List.mem_map.mp hxm
      obtain ⟨t, ht, e⟩ := h2.at2 hq
      obtain ⟨g1, g2, g3⟩ := hg.pc t ht
      repeat walk_at "go"
      exact ⟨q, t.1, t.2, rfl, e, g1, g2, g3, hN⟩
    · intro l1 n1
      repeat walk_at "go"
      refine rd_allT (SqL.of upd_same) (fun x hx => by obtain ⟨_, _, rfl⟩ := List.mem_map.mp hx; rfl) ?_
      repeat walk_at "go"
      have h1' := Same.new (o := .lst ((qs.map V.ref).map fun _ => V.bl true)) n1 _ _ h1
      have h2' := h2.same (Same.new (o := .lst ((qs.map V.ref).map fun _ => V.bl true)) n1)
      repeat walk_at "go"
      refine ⟨⟨by omega, by omega, by omega, by rw [List.length_map]; omega⟩, ?_⟩
      rw [List.length_map]
      refine comp_pureR (fun _ => .bl true) (sz_le (by omega)) (fun i N N' hi hN => ?_) ?_
      · have i1 : i < qs.length := by omega
        have i2 : i + 1 < qs.length := by omega
        have j1 : i < ps.length := by rw [← h2.len]; exact i1
        have j2 : i + 1 < ps.length := by rw [← h2.len]; exact i2
        have e1 : atI (qs.map V.ref) (1 + (i : Int) - 1) = some (.ref qs[i]) := by
          rw [show 1 + (i : Int) - 1 = (i : Int) by omega]
          exact atI_nat (by rw [List.getElem?_map, List.getElem?_eq_getElem i1]; rfl)
        have e2 : atI (qs.map V.ref) (1 + (i : Int)) = some (.ref qs[i + 1]) := by
          rw [show 1 + (i : Int) = ((i + 1 : Nat) : Int) by omega]
          exact atI_nat (by rw [List.getElem?_map, List.getElem?_eq_getElem i2]; rfl)
        have t1 := h2'.at_ i _ _ (List.getElem?_eq_getElem i1) (List.getElem?_eq_getElem j1)
        have t2 := h2'.at_ (i + 1) _ _ (List.getElem?_eq_getElem i2) (List.getElem?_eq_getElem j2)
        have t3 := hg.up i _ _ (List.getElem?_eq_getElem j1) (List.getElem?_eq_getElem j2)
        repeat walk_at "go"
        rw [decide_eq_true t3]
        exact hN
      · intro l2 n2
        repeat walk_at "go"
        refine rd_allT (SqL.of upd_same) (fun x hx => by obtain ⟨_, _, rfl⟩ := List.mem_map.mp hx; rfl) ?_
        exact k _ ((Same.new n1).trans (Same.new n2))
def sp_Machine_init (K : PySem.W.Frag) (C : Addr) : Sp := fun vs H Q _ => ∃ (x dx pl : Addr) (m : MS), vs = [.ref x, .int m.up, .int m.down, .int m.begin_, .int m.run, .int m.rest, .int m.least, .ref pl] ∧ H x = some (.ins C dx []) ∧ PcAt H pl m.pieces ∧ m.Good ∧
  ∀ H', MachAt C H' x m → Keep x H H' → Q .non H'
set_option maxHeartbeats 40000000 in
theorem ok_Machine_init {P : Program} {w : World} {K : PySem.W.Frag} {mg : Str → Option Value} {base : Heap} {a : Adr} (tx : Txt K mg a) : FnOk P w K mg base CX0 5 a.f_Machine_init a.d_Machine_init ["self", "up", "down", "begin", "run", "rest", "least", "pieces"] (sp_Machine_init K a.c_Machine) := by
  have G_are_pieces := ok_are_pieces (P := P) (w := w) (base := base) tx
  have G_is_amount := ok_is_amount (P := P) (w := w) (base := base) tx
  have G_is_span := ok_is_span (P := P) (w := w) (base := base) tx
  refine tx.F_Machine_init.ok sc_Machine_init (fun vs H Q E h => ?_) (fun cdv A outer s H vs Q E hr h => ?_)
  · obtain ⟨x, dx, pl, m, rfl, _⟩ := h
    rfl
  · obtain ⟨x, dx, pl, m, rfl , hx, hp, hg, k⟩ := h
    have hu := hu9 hr
    refine L2.Q.root (L2.Q.pss_cons (L2.Q.ps_set (i := 8) sc_Machine_init.nd rfl (Or.inl rfl) (L2.Q.lst2 (L2.Q.pe_callN (G_is_span) (hr.mono (by decide)) (by rfl) tx.g_is_span tx.F_is_span.kp tx.b_is_span .nil pass0 (L2.Q.pa_c (L2.Q.pv 1) L2.Q.pa_nil)) (L2.Q.pe_callN (G_is_span) (hr.mono (by decide)) (by rfl) tx.g_is_span tx.F_is_span.kp tx.b_is_span .nil pass0 (L2.Q.pa_c (L2.Q.pv 2) L2.Q.pa_nil))))
      (L2.Q.pss_cons (L2.Q.ps_set (i := 9) sc_Machine_init.nd rfl (Or.inl rfl) (L2.Q.lst4 (L2.Q.pe_callN (G_is_amount) (hr.mono (by decide)) (by rfl) tx.g_is_amount tx.F_is_amount.kp tx.b_is_amount .nil pass0 (L2.Q.pa_c (L2.Q.pv 3) L2.Q.pa_nil)) (L2.Q.pe_callN (G_is_amount) (hr.mono (by decide)) (by rfl) tx.g_is_amount tx.F_is_amount.kp tx.b_is_amount .nil pass0 (L2.Q.pa_c (L2.Q.pv 4) L2.Q.pa_nil)) (L2.Q.pe_callN (G_is_amount) (hr.mono (by decide)) (by rfl) tx.g_is_amount tx.F_is_amount.kp tx.b_is_amount .nil pass0 (L2.Q.pa_c (L2.Q.pv 5) L2.Q.pa_nil)) (L2.Q.pe_callN (G_is_amount) (hr.mono (by decide)) (by rfl) tx.g_is_amount tx.F_is_amount.kp tx.b_is_amount .nil pass0 (L2.Q.pa_c (L2.Q.pv 6) L2.Q.pa_nil))))
      (L2.Q.pss_cons (L2.Q.ps_for PassesOwn.never rfl (L2.Q.pi_enumK (K' := K) (by rfl) tx.z_enumerate (L2.Q.pa_c (L2.Q.pe_op op_addG (L2.Q.pe_op op_addG (L2.Q.pv 8) (L2.Q.pv 9)) (L2.Q.lst1 (L2.Q.pe_callN (G_are_pieces) (hr.mono (by decide)) (by rfl) tx.g_are_pieces tx.F_are_pieces.kp tx.b_are_pieces .nil pass0 (L2.Q.pa_c (L2.Q.pv 7) L2.Q.pa_nil)))) L2.Q.pa_nil)) (L2.Q.pg_tupK (K' := K) (n := 2) rfl (L2.Q.pgs_cons (L2.Q.pg_name (i := 10) sc_Machine_init.nd rfl (Or.inl rfl)) (L2.Q.pgs_cons (L2.Q.pg_name (i := 11) sc_Machine_init.nd rfl (Or.inl rfl)) L2.Q.pgs_nil))) (L2.Q.pss_one (L2.Q.ps_if (L2.Q.pt_not (L2.Q.pt_val (L2.Q.pv 11))) (L2.Q.pss_one L2.Q.ps_never) L2.Q.pss_nil)))
      (L2.Q.pss_cons (L2.Q.ps_fldK (K' := K) (L2.Q.pv 0) (L2.Q.pv 1) rfl)
      (L2.Q.pss_cons (L2.Q.ps_fldK (K' := K) (L2.Q.pv 0) (L2.Q.pv 2) rfl)
      (L2.Q.pss_cons (L2.Q.ps_fldK (K' := K) (L2.Q.pv 0) (L2.Q.pv 3) rfl)
      (L2.Q.pss_cons (L2.Q.ps_fldK (K' := K) (L2.Q.pv 0) (L2.Q.pv 4) rfl)
      (L2.Q.pss_cons (L2.Q.ps_fldK (K' := K) (L2.Q.pv 0) (L2.Q.pv 5) rfl)
      (L2.Q.pss_cons (L2.Q.ps_fldK (K' := K) (L2.Q.pv 0) (L2.Q.pv 6) rfl)
      (L2.Q.pss_one (L2.Q.ps_fldK (K' := K) (L2.Q.pv 0) (L2.Q.pe_callTyN (rc := rListOf K) call_listG (by rfl) tx.z_list bt_list (L2.Q.pa_c (L2.Q.pv 7) L2.Q.pa_nil)) rfl))))))))))) ?_
    refine rd_start (σ := [some (.ref x), some (.int m.up), some (.int m.down), some (.int m.begin_), some (.int m.run), some (.int m.rest), some (.int m.least), some (.ref pl), none, none, none, none]) rfl ?_
    repeat walk_at "go"
    refine ⟨_, rfl, hg.up.1, hg.up.2, ?_⟩
    repeat walk_at "go"
    refine ⟨_, rfl, hg.down.1, hg.down.2, ?_⟩
    repeat walk_at "go"
    intro l1 n1
    repeat walk_at "go"
    refine ⟨_, _, rfl, .int _, ?_⟩
    rw [amt_of hg.begin_]
    repeat walk_at "go"
    refine ⟨_, _, rfl, .int _, ?_⟩
    rw [amt_of hg.run]
    repeat walk_at "go"
    refine ⟨_, _, rfl, .int _, ?_⟩
    rw [amt_of hg.rest]
    repeat walk_at "go"
    refine ⟨_, _, rfl, .int _, ?_⟩
    rw [amt_of hg.least]
    repeat walk_at "go"
    intro l2 n2
    repeat walk_at "go"
    refine rd_addL (xs := [.bl true, .bl true]) (zs := [.bl true, .bl true, .bl true, .bl true]) (by walk_at "hp") upd_same (sz_le (by simp)) ?_
    intro l3 n3
    repeat walk_at "go"
    have s3 : Same H (upd (upd (upd H l1 (.lst [.bl true, .bl true])) l2 (.lst [.bl true, .bl true, .bl true, .bl true])) l3 (.lst ([.bl true, .bl true] ++ [.bl true, .bl true, .bl true, .bl true]))) := ((Same.new n1).trans (Same.new n2)).trans (Same.new n3)
    refine ⟨pl, m.pieces, rfl, hp.same s3, hg.pieces, fun H4 s4 => ?_⟩
    repeat walk_at "go"
    intro l5 n5
    repeat walk_at "go"
    refine rd_addL (xs := [.bl true, .bl true] ++ [.bl true, .bl true, .bl true, .bl true]) (zs := [.bl true]) (Same.new n5 _ _ (s4 _ _ upd_same)) upd_same (sz_le (by simp)) ?_
    intro l6 n6
    repeat walk_at "go"
    have s6 : Same H (upd (upd H4 l5 (.lst [.bl true])) l6 (.lst (([.bl true, .bl true] ++ [.bl true, .bl true, .bl true, .bl true]) ++ [.bl true]))) := (s3.trans s4).trans ((Same.new n5).trans (Same.new n6))
    generalize hH6 : upd (upd H4 l5 (.lst [.bl true])) l6 (.lst (([.bl true, .bl true] ++ [.bl true, .bl true, .bl true, .bl true]) ++ [.bl true])) = H6 at s6 ⊢
    have e6 : H6 l6 = some (.lst [.bl true, .bl true, .bl true, .bl true, .bl true, .bl true, .bl true]) := by rw [← hH6, upd_same]; rfl
    refine rd_en (SqL.of e6) ?_
    refine rf_enum (xs := [.bl true, .bl true, .bl true, .bl true, .bl true, .bl true, .bl true]) (fun i σ' H' => ∃ y z, σ' = [some (.ref x), some (.int m.up), some (.int m.down), some (.int m.begin_), some (.int m.run), some (.int m.rest), some (.int m.least), some (.ref pl), some (.ref l1), some (.ref l2), y, z] ∧ Same H6 H')
      ⟨_, _, rfl, Same.refl _⟩ (fun i σ' H' hi ⟨y, z, e, s⟩ => SqL.of (s _ _ e6)) (fun i v σ' H' T hv ⟨y, z, e, s⟩ nT => ?_) (fun σ' H' ⟨y, z, e, s⟩ => ?_)
    · subst e
      have ev : v = .bl true := by
        have := List.mem_of_getElem? hv
        simpa using this
      subst ev
      refine rd_gtup (SqT.of upd_same) rfl ?_
      repeat walk_at "go"
      exact ⟨_, _, rfl, s.trans (Same.new nT)⟩
    · subst e
      have sH : Same H H' := s6.trans s
      have hx' := sH _ _ hx
      have hp' := hp.same sH
      obtain ⟨qs, p1, p2⟩ := hp'.ex
      repeat walk_at "go"
      refine rd_put (fs' := [("up", .int m.up)]) hx' tx.C_Machine tx.n_Machine_up (by simp [mFs]) rfl ?_
      repeat walk_at "go"
      refine rd_put (fs' := [("up", .int m.up), ("down", .int m.down)]) upd_same tx.C_Machine tx.n_Machine_down (by simp [mFs]) rfl ?_
      rw [upd_upd]
      repeat walk_at "go"
      refine rd_put (fs' := [("up", .int m.up), ("down", .int m.down), ("begin", .int m.begin_)]) upd_same tx.C_Machine tx.n_Machine_begin (by simp [mFs]) rfl ?_
      rw [upd_upd]
      repeat walk_at "go"
      refine rd_put (fs' := [("up", .int m.up), ("down", .int m.down), ("begin", .int m.begin_), ("run", .int m.run)]) upd_same tx.C_Machine tx.n_Machine_run (by simp [mFs]) rfl ?_
      rw [upd_upd]
      repeat walk_at "go"
      refine rd_put (fs' := [("up", .int m.up), ("down", .int m.down), ("begin", .int m.begin_), ("run", .int m.run), ("rest", .int m.rest)]) upd_same tx.C_Machine tx.n_Machine_rest (by simp [mFs]) rfl ?_
      rw [upd_upd]
      repeat walk_at "go"
      refine rd_put (fs' := [("up", .int m.up), ("down", .int m.down), ("begin", .int m.begin_), ("run", .int m.run), ("rest", .int m.rest), ("least", .int m.least)]) upd_same tx.C_Machine tx.n_Machine_least (by simp [mFs]) rfl ?_
      rw [upd_upd]
      repeat walk_at "go"
      have px : pl ≠ x := fun z => by rw [z, hx'] at p1; cases p1
      refine rd_listL (ys := qs.map V.ref) (SqL.of (by rw [upd_ne px]; exact p1)) ?_
      intro l9 n9
      repeat walk_at "go"
      have x9 : x ≠ l9 := ne_none n9 upd_same
      repeat walk_at "go"
      refine rd_put (fs' := mFs m l9) (by rw [upd_ne x9]; exact upd_same) tx.C_Machine tx.n_Machine_pieces (by simp [mFs]) rfl ?_
      repeat walk_at "go"
      refine k _ ⟨dx, l9, upd_same, qs, ?_, p2.len, fun j q t h1 h2 => ?_⟩ (fun b o e nb => ?_)
      · rw [upd_ne (Ne.symm x9), upd_same]
      · have e := p2.at_ j q t h1 h2
        have qx : q ≠ x := fun z => by rw [z, hx'] at e; cases e
        have q9 : q ≠ l9 := ne_none n9 (by rw [upd_ne qx]; exact e)
        rw [upd_ne qx, upd_ne q9, upd_ne qx]
        exact e
      · have e1 := sH _ _ e
        have b9 : b ≠ l9 := ne_none n9 (by rw [upd_ne nb]; exact e1)
        rw [upd_ne nb, upd_ne b9, upd_ne nb]
        exact e1
structure PcW (ps : List (Int × Int)) (r : Int) : Prop where
  pc : ∀ t ∈ ps, 1 ≤ t.1 ∧ Am t.1 ∧ Am t.2
  up : ∀ (j : Nat) t u, ps[j]? = some t → ps[j + 1]? = some u → t.2 ≤ u.2
  top : ∀ t ∈ ps, t.2 ≤ r
theorem PcW.nil {r : Int} : PcW [] r := ⟨fun _ h => by simp at h, fun j t u h => by simp at h, fun _ h => by simp at h⟩
theorem PcW.snoc {ps : List (Int × Int)} {r r' a : Int} (w : PcW ps r) (hr : r ≤ r') (h1 : 1 ≤ a) (h2 : Am a) (h3 : Am r') : PcW (ps ++ [(a, r')]) r' := by
  refine ⟨fun t h => ?_, fun j t u ht hu => ?_, fun t h => ?_⟩
  · rcases List.mem_append.mp h with h | h
    · exact w.pc t h
    · rw [List.mem_singleton.mp h]; exact ⟨h1, h2, h3⟩
  · have hj2 : j + 1 < (ps ++ [(a, r')]).length := (List.getElem?_eq_some_iff.mp hu).1
    rw [List.length_append, List.length_singleton] at hj2
    have hj : j < ps.length := by omega
    rw [List.getElem?_append_left hj] at ht
    by_cases hj3 : j + 1 < ps.length
    · rw [List.getElem?_append_left hj3] at hu
      exact w.up j t u ht hu
    · rw [List.getElem?_append_right (by omega), show j + 1 - ps.length = 0 by omega] at hu
      cases hu
      exact Int.le_trans (w.top t (List.mem_of_getElem? ht)) hr
  · rcases List.mem_append.mp h with h | h
    · exact Int.le_trans (w.top t h) hr
    · rw [List.mem_singleton.mp h]; exact Int.le_refl _
theorem Tup2.snoc {H H3 : Hp} {qs : List Addr} {ss : List (Int × Int)} {l T : Addr} {xs : List V} {t : Int × Int} (h : Tup2 H qs ss) (hl : H l = some (.lst xs)) (k : Keep l H H3) (hT : H3 T = some (.tup [.int t.1, .int t.2])) : Tup2 H3 (qs ++ [T]) (ss ++ [t]) := by
  refine ⟨by rw [List.length_append, List.length_append, h.len]; rfl, fun j q u hq hu => ?_⟩
  by_cases hj : j < qs.length
  · rw [List.getElem?_append_left hj] at hq
    rw [List.getElem?_append_left (by rw [← h.len]; exact hj)] at hu
    have e := h.at_ j q u hq hu
    refine k q _ e fun z => ?_
    rw [z, hl] at e
    cases e
  · have hj2 : j < (qs ++ [T]).length := (List.getElem?_eq_some_iff.mp hq).1
    rw [List.length_append, List.length_singleton] at hj2
    have e : j = qs.length := by omega
    subst e
    rw [List.getElem?_append_right (Nat.le_refl _), Nat.sub_self] at hq
    rw [h.len, List.getElem?_append_right (Nat.le_refl _), Nat.sub_self] at hu
    cases hq
    cases hu
    exact hT
theorem HandAt.nrefs {H : Hp} {p c : Addr} {qs : List Addr} (h : HandAt H p) (e : H c = some (.lst (qs.map V.ref))) : c ≠ p := fun z => by
  obtain ⟨d, cc, q, ms, hp, _⟩ := h.ex
  rw [z, hp] at e
  cases qs with
  | nil => cases e
  | cons x xs => cases e
theorem HandAt.nlen {H : Hp} {p c : Addr} {xs : List V} (h : HandAt H p) (e : H c = some (.lst xs)) (hl : xs.length ≠ 3) : c ≠ p := fun z => by
  obtain ⟨d, cc, q, ms, hp, _⟩ := h.ex
  rw [z, hp] at e
  cases e
  exact hl rfl
theorem HandAt.isL {H : Hp} {p : Addr} (h : HandAt H p) : ∃ xs, H p = some (.lst xs) := by
  obtain ⟨d, cc, q, ms, hp, _⟩ := h.ex
  exact ⟨_, hp⟩
theorem fresh_of {H H' : Hp} {p c : Addr} (k : Keep p H H') (hh : HandAt H' p) (n : H' c = none) : H c = none := by
  cases hc : H c with
  | none => rfl
  | some v =>
    obtain ⟨xs, e⟩ := hh.isL
    exact absurd rfl (ne_none n (k c v hc (fun z => ne_none n e z.symm)))
def sp__law_spec (K : PySem.W.Frag) : Sp := fun vs H Q _ => ∃ (p b : Addr) (x y n : Int), vs = [.ref p, .ref b, .int n] ∧ HandAt H p ∧ H b = some (.lst [.int x, .int y]) ∧ 1 ≤ x ∧ x ≤ 50000000000 ∧ 1 ≤ y ∧ y ≤ 50000000000 ∧ 1 ≤ n ∧ n ≤ 12 ∧
  ∀ (s : Addr) (m : MS) H', SpecAt H' s m → m.Good → m.up ≤ n → m.down ≤ n → HandAt H' p → Keep p H H' → H s = none → Q (.ref s) H'
set_option maxHeartbeats 40000000 in
theorem ok__law_spec {P : Program} {w : World} {K : PySem.W.Frag} {mg : Str → Option Value} {base : Heap} {a : Adr} (tx : Txt K mg a) : FnOk P w K mg base CX0 2 a.f__law_spec a.d__law_spec ["_law_hand", "_law_by", "_law_longest"] (sp__law_spec K) := by
  have G__law_draw := ok__law_draw (P := P) (w := w) (base := base) tx
  refine tx.F__law_spec.ok sc__law_spec (fun vs H Q E h => ?_) (fun cdv A outer s H vs Q E hr h => ?_)
  · obtain ⟨p, b, x, y, n, rfl, _⟩ := h
    rfl
  · obtain ⟨p, b, x, y, n, rfl , hh, hb, x0, x1, y0, y1, n0, n1, k⟩ := h
    have hu := hu9 hr
    refine L2.Q.root (L2.Q.pss_cons (L2.Q.ps_set (i := 3) sc__law_spec.nd rfl (Or.inl rfl) (L2.Q.pe_op op_addG L2.Q.pe_int (L2.Q.pe_callN (G__law_draw) (hr.mono (by decide)) (by rfl) tx.g__law_draw tx.F__law_draw.kp tx.b__law_draw .nil pass0 (L2.Q.pa_c (L2.Q.pv 0) (L2.Q.pa_c (L2.Q.pv 2) L2.Q.pa_nil)))))
      (L2.Q.pss_cons (L2.Q.ps_set (i := 4) sc__law_spec.nd rfl (Or.inl rfl) (L2.Q.pe_op op_addG L2.Q.pe_int (L2.Q.pe_callN (G__law_draw) (hr.mono (by decide)) (by rfl) tx.g__law_draw tx.F__law_draw.kp tx.b__law_draw .nil pass0 (L2.Q.pa_c (L2.Q.pv 0) (L2.Q.pa_c (L2.Q.pv 2) L2.Q.pa_nil)))))
      (L2.Q.pss_cons (L2.Q.ps_set (i := 5) sc__law_spec.nd rfl (Or.inl rfl) (L2.Q.lst3 (L2.Q.pe_op op_mulG (L2.Q.pe_ixK (K' := K) (L2.Q.pv 1) L2.Q.pe_int (fun _ _ => rfl)) (L2.Q.pe_callN (G__law_draw) (hr.mono (by decide)) (by rfl) tx.g__law_draw tx.F__law_draw.kp tx.b__law_draw .nil pass0 (L2.Q.pa_c (L2.Q.pv 0) (L2.Q.pa_c L2.Q.pe_int L2.Q.pa_nil)))) (L2.Q.pe_op op_mulG (L2.Q.pe_ixK (K' := K) (L2.Q.pv 1) L2.Q.pe_int (fun _ _ => rfl)) (L2.Q.pe_callN (G__law_draw) (hr.mono (by decide)) (by rfl) tx.g__law_draw tx.F__law_draw.kp tx.b__law_draw .nil pass0 (L2.Q.pa_c (L2.Q.pv 0) (L2.Q.pa_c L2.Q.pe_int L2.Q.pa_nil)))) (L2.Q.pe_op op_mulG (L2.Q.pe_ixK (K' := K) (L2.Q.pv 1) L2.Q.pe_int (fun _ _ => rfl)) (L2.Q.pe_callN (G__law_draw) (hr.mono (by decide)) (by rfl) tx.g__law_draw tx.F__law_draw.kp tx.b__law_draw .nil pass0 (L2.Q.pa_c (L2.Q.pv 0) (L2.Q.pa_c L2.Q.pe_int L2.Q.pa_nil))))))
      (L2.Q.pss_cons (L2.Q.ps_set (i := 6) sc__law_spec.nd rfl (Or.inl rfl) (L2.Q.pe_op op_mulG (L2.Q.pe_ixK (K' := K) (L2.Q.pv 1) L2.Q.pe_int (fun _ _ => rfl)) (L2.Q.pe_callN (G__law_draw) (hr.mono (by decide)) (by rfl) tx.g__law_draw tx.F__law_draw.kp tx.b__law_draw .nil pass0 (L2.Q.pa_c (L2.Q.pv 0) (L2.Q.pa_c L2.Q.pe_int L2.Q.pa_nil)))))
      (L2.Q.pss_cons (L2.Q.ps_set (i := 7) sc__law_spec.nd rfl (Or.inl rfl) L2.Q.pe_int)
      (L2.Q.pss_cons (L2.Q.ps_set (i := 8) sc__law_spec.nd rfl (Or.inl rfl) (L2.Q.pe_lst L2.Q.pa_nil))
      (L2.Q.pss_cons (L2.Q.ps_for PassesOwn.never rfl (L2.Q.pi_range1N (by rfl) tx.z_range (L2.Q.pa_c (L2.Q.pe_callN (G__law_draw) (hr.mono (by decide)) (by rfl) tx.g__law_draw tx.F__law_draw.kp tx.b__law_draw .nil pass0 (L2.Q.pa_c (L2.Q.pv 0) (L2.Q.pa_c L2.Q.pe_int L2.Q.pa_nil))) L2.Q.pa_nil)) (L2.Q.pg_name (i := 9) sc__law_spec.nd rfl (Or.inl rfl)) (L2.Q.pss_cons (L2.Q.ps_aug (i := 7) sc__law_spec.nd rfl (Or.inl rfl) (L2.Q.pe_op op_mulG (L2.Q.pe_ixK (K' := K) (L2.Q.pv 1) L2.Q.pe_int (fun _ _ => rfl)) (L2.Q.pe_callN (G__law_draw) (hr.mono (by decide)) (by rfl) tx.g__law_draw tx.F__law_draw.kp tx.b__law_draw .nil pass0 (L2.Q.pa_c (L2.Q.pv 0) (L2.Q.pa_c L2.Q.pe_int L2.Q.pa_nil)))) ip_add)
      (L2.Q.pss_one (L2.Q.ps_expr (L2.Q.pe_appK (K' := K) (L2.Q.pv 8) (L2.Q.pa_c (L2.Q.tup2 (L2.Q.pe_op op_mulG (L2.Q.pe_ixK (K' := K) (L2.Q.pv 1) L2.Q.pe_int (fun _ _ => rfl)) (L2.Q.pe_op op_addG L2.Q.pe_int (L2.Q.pe_callN (G__law_draw) (hr.mono (by decide)) (by rfl) tx.g__law_draw tx.F__law_draw.kp tx.b__law_draw .nil pass0 (L2.Q.pa_c (L2.Q.pv 0) (L2.Q.pa_c L2.Q.pe_int L2.Q.pa_nil))))) (L2.Q.pv 7)) L2.Q.pa_nil))))))
      (L2.Q.pss_one (L2.Q.ps_ret (L2.Q.lst7 (L2.Q.pv 3) (L2.Q.pv 4) (L2.Q.pe_ixK (K' := K) (L2.Q.pv 5) L2.Q.pe_int (fun _ _ => rfl)) (L2.Q.pe_ixK (K' := K) (L2.Q.pv 5) L2.Q.pe_int (fun _ _ => rfl)) (L2.Q.pe_ixK (K' := K) (L2.Q.pv 5) L2.Q.pe_int (fun _ _ => rfl)) (L2.Q.pv 6) (L2.Q.pv 8))))))))))) ?_
    have bp : b ≠ p := hh.nlen hb (by simp)
    refine rd_start (σ := [some (.ref p), some (.ref b), some (.int n), none, none, none, none, none, none, none]) rfl ?_
    repeat walk_at "go"
    refine ⟨p, _, rfl, hh, by omega, by omega, fun r1 H1 a1 c1 h1 k1 _ => ?_⟩
    have hb1 := k1 _ _ hb bp
    repeat walk_at "go"
    refine ⟨p, _, rfl, h1, by omega, by omega, fun r2 H2 a2 c2 h2 k2 _ => ?_⟩
    have hb2 := k2 _ _ hb1 bp
    repeat walk_at "go"
    refine ⟨p, _, rfl, h2, by omega, by omega, fun r3 H3 a3 c3 h3 k3 _ => ?_⟩
    have hb3 := k3 _ _ hb2 bp
    repeat walk_at "go"
    refine ⟨p, _, rfl, h3, by omega, by omega, fun r4 H4 a4 c4 h4 k4 _ => ?_⟩
    have hb4 := k4 _ _ hb3 bp
    repeat walk_at "go"
    refine ⟨p, _, rfl, h4, by omega, by omega, fun r5 H5 a5 c5 h5 k5 _ => ?_⟩
    have hb5 := k5 _ _ hb4 bp
    repeat walk_at "go"
    intro l6 n6
    repeat walk_at "go"
    have hb6 := Same.new (o := .lst [.int (y * r3), .int (y * r4), .int (y * r5)]) n6 _ _ hb5
    have h6 := h5.same (Same.new (o := .lst [.int (y * r3), .int (y * r4), .int (y * r5)]) n6)
    repeat walk_at "go"
    refine ⟨p, _, rfl, h6, by omega, by omega, fun r7 H7 a7 c7 h7 k7 _ => ?_⟩
    have hb7 := k7 _ _ hb6 bp
    have l6p : l6 ≠ p := fun z => by obtain ⟨_, e⟩ := h5.isL; exact ne_none n6 e z.symm
    have e7 : H7 l6 = some (.lst [.int (y * r3), .int (y * r4), .int (y * r5)]) := k7 _ _ upd_same l6p
    have kk7 : Keep p H H7 := k1.trans (k2.trans (k3.trans (k4.trans (k5.trans ((Same.new n6).keep.trans k7)))))
    have g3 : 0 ≤ y * r3 ∧ y * r3 ≤ 250000000000 := ⟨Int.mul_nonneg (by omega) (by omega), Int.le_trans (Int.mul_le_mul_of_nonneg_left (show r3 ≤ 5 by omega) (by omega)) (by omega)⟩
    have g4 : 0 ≤ y * r4 ∧ y * r4 ≤ 250000000000 := ⟨Int.mul_nonneg (by omega) (by omega), Int.le_trans (Int.mul_le_mul_of_nonneg_left (show r4 ≤ 5 by omega) (by omega)) (by omega)⟩
    have g5 : 0 ≤ y * r5 ∧ y * r5 ≤ 250000000000 := ⟨Int.mul_nonneg (by omega) (by omega), Int.le_trans (Int.mul_le_mul_of_nonneg_left (show r5 ≤ 5 by omega) (by omega)) (by omega)⟩
    have g7 : 0 ≤ x * r7 ∧ x * r7 ≤ 250000000000 := ⟨Int.mul_nonneg (by omega) (by omega), Int.le_trans (Int.mul_le_mul_of_nonneg_left (show r7 ≤ 5 by omega) (by omega)) (by omega)⟩
    repeat walk_at "go"
    intro l8 n8
    repeat walk_at "go"
    have h8 := h7.same (Same.new (o := .lst []) n8)
    repeat walk_at "go"
    refine ⟨p, _, rfl, h8, by omega, by omega, fun r9 H9 a9 c9 h9 k9 _ => ?_⟩
    have l8p : l8 ≠ p := fun z => by obtain ⟨_, e⟩ := h7.isL; exact ne_none n8 e z.symm
    have e9 : H9 l8 = some (.lst []) := k9 _ _ upd_same l8p
    have hb9 := k9 _ _ (Same.new n8 _ _ hb7) bp
    have e69 : H9 l6 = some (.lst [.int (y * r3), .int (y * r4), .int (y * r5)]) := k9 _ _ (Same.new n8 _ _ e7) l6p
    have kk9 : Keep p H H9 := kk7.trans ((Same.new n8).keep.trans k9)
    have n8H : H l8 = none := fresh_of kk7 h7 n8
    have n6H : H l6 = none := fresh_of (k1.trans (k2.trans (k3.trans (k4.trans k5)))) h5 n6
    repeat walk_at "go"
    refine ⟨by omega, by omega, ?_⟩
    refine rf_range (fun i σ' H' => ∃ qs ps rate x9, σ' = [some (.ref p), some (.ref b), some (.int n), some (.int (1 + r1)), some (.int (1 + r2)), some (.ref l6), some (.int (x * r7)), some (.int rate), some (.ref l8), x9] ∧ H' l8 = some (.lst (qs.map V.ref)) ∧ Tup2 H' qs ps ∧ ps.length = i ∧ PcW ps rate ∧
        0 ≤ rate ∧ rate ≤ (i : Int) * 100000000000 ∧ HandAt H' p ∧ Keep p H H' ∧ H' b = some (.lst [.int x, .int y]) ∧ H' l6 = some (.lst [.int (y * r3), .int (y * r4), .int (y * r5)]))
      ⟨[], [], 0, _, rfl, e9, ⟨rfl, fun j q t h => by simp at h⟩, rfl, PcW.nil, by omega, by omega, h9, kk9, hb9, e69⟩
      (fun i σ' H' hi ⟨qs, ps, rate, x9, e, f1, f2, f3, f4, f5, f6, f7, f8, f9, f0⟩ => ?_) (fun σ' H' ⟨qs, ps, rate, x9, e, f1, f2, f3, f4, f5, f6, f7, f8, f9, f0⟩ => ?_)
    · subst e
      have i4 : i ≤ 3 := by omega
      repeat walk_at "go"
      refine rd_aug rfl ?_
      repeat walk_at "go"
      refine ⟨p, _, rfl, f7, by omega, by omega, fun u1 J1 v1 w1 q1 t1 _ => ?_⟩
      have g1 : 0 ≤ y * u1 ∧ y * u1 ≤ 100000000000 := ⟨Int.mul_nonneg (by omega) (by omega), Int.le_trans (Int.mul_le_mul_of_nonneg_left (show u1 ≤ 2 by omega) (by omega)) (by omega)⟩
      have l8q : l8 ≠ p := f7.nrefs f1
      have d1 := t1 _ _ f1 l8q
      have d2 := f2.keep f7.ntup t1
      have d3 := t1 _ _ f9 bp
      have d4 := t1 _ _ f0 l6p
      repeat walk_at "go"
      refine rd_tyL (SqL.of d1) ?_
      repeat walk_at "go"
      refine ⟨p, _, rfl, q1, by omega, by omega, fun u2 J2 v2 w2 q2 t2 _ => ?_⟩
      have g2 : x * 1 ≤ x * (1 + u2) ∧ x * (1 + u2) ≤ 150000000000 := ⟨Int.mul_le_mul_of_nonneg_left (show 1 ≤ 1 + u2 by omega) (by omega), Int.le_trans (Int.mul_le_mul_of_nonneg_left (show 1 + u2 ≤ 3 by omega) (by omega)) (by omega)⟩
      rw [Int.mul_one] at g2
      have dd1 := t2 _ _ d1 l8q
      have dd2 := d2.keep q1.ntup t2
      have dd3 := t2 _ _ d3 bp
      have dd4 := t2 _ _ d4 l6p
      repeat walk_at "go"
      intro T nT
      repeat walk_at "go"
      refine rd_app (xs := qs.map V.ref) (Same.new nT _ _ dd1) (Nat.lt_of_lt_of_le (by rw [List.length_map, f2.len]; omega : (qs.map V.ref).length < 1000) (sz_le (by simp))) ?_
      repeat walk_at "go"
      have hT8 : T ≠ l8 := Ne.symm (ne_none nT dd1)
      have kz : Keep l8 J2 (upd (upd J2 T (.tup [.int (x * (1 + u2)), .int (rate + y * u1)])) l8 (.lst (qs.map V.ref ++ [.ref T]))) := (Same.new nT).keep.trans Keep.upd
      refine ⟨qs ++ [T], ps ++ [(x * (1 + u2), rate + y * u1)], _, _, rfl, ?_, dd2.snoc dd1 kz (by rw [upd_ne hT8, upd_same]), by rw [List.length_append, f3]; rfl, f4.snoc (by omega) (by omega) ⟨by omega, by omega⟩ ⟨by omega, by omega⟩, by omega, by omega, ?_, fun c o hc hcp => ?_, ?_, ?_⟩
      · rw [upd_same, List.map_append]; rfl
      · obtain ⟨dd, cc, q, ms, hp, hq, hne, hqp⟩ := q2.ex
        refine ⟨⟨dd, cc, q, ms, kz _ _ hp (Ne.symm l8q), kz _ _ hq (fun z => ?_), hne, hqp⟩⟩
        rw [z, dd1] at hq
        cases qs with
        | nil => cases ms with
          | nil => exact hne rfl
          | cons _ _ => cases hq
        | cons _ _ => cases ms with
          | nil => exact hne rfl
          | cons _ _ => cases hq
      · exact kz _ _ (t2 _ _ (t1 _ _ (f8 _ _ hc hcp) hcp) hcp) (ne_none n8H hc)
      · exact kz _ _ dd3 (fun z => by rw [z, dd1] at dd3; cases qs with
          | nil => cases dd3
          | cons _ _ => cases dd3)
      · exact kz _ _ dd4 (fun z => by rw [z, dd1] at dd4; cases qs with
          | nil => cases dd4
          | cons _ _ => cases dd4)
    · subst e
      repeat walk_at "go"
      intro s ns
      repeat walk_at "go"
      have hr9 : r9.toNat ≤ 4 := by omega
      refine k s ⟨1 + r1, 1 + r2, y * r3, y * r4, y * r5, x * r7, ps⟩ _ ⟨l8, upd_same, qs, Same.new ns _ _ f1, f2.same (Same.new ns)⟩ ⟨⟨by show 1 ≤ 1 + r1; omega, by show 1 + r1 ≤ 12; omega⟩, ⟨by show 1 ≤ 1 + r2; omega, by show 1 + r2 ≤ 12; omega⟩, ⟨g3.1, by show y * r3 ≤ _; omega⟩, ⟨g4.1, by show y * r4 ≤ _; omega⟩, ⟨g5.1, by show y * r5 ≤ _; omega⟩, ⟨g7.1, by show x * r7 ≤ _; omega⟩, ⟨by show ps.length ≤ 4; omega, f4.pc, f4.up⟩⟩ (by show 1 + r1 ≤ n; omega) (by show 1 + r2 ≤ n; omega) (f7.same (Same.new ns)) (f8.trans (Same.new ns).keep) (fresh_of f8 f7 ns)
def sp__law_machine (K : PySem.W.Frag) (C : Addr) : Sp := fun vs H Q _ => ∃ (s : Addr) (m : MS), vs = [.ref s] ∧ SpecAt H s m ∧ m.Good ∧ ∀ x H', MachAt C H' x m → Same H H' → H x = none → Q (.ref x) H'
set_option maxHeartbeats 40000000 in
theorem ok__law_machine {P : Program} {w : World} {K : PySem.W.Frag} {mg : Str → Option Value} {base : Heap} {a : Adr} (tx : Txt K mg a) : FnOk P w K mg base CX0 7 a.f__law_machine a.d__law_machine ["_law_spec_here"] (sp__law_machine K a.c_Machine) := by
  have G_Machine_init := ok_Machine_init (P := P) (w := w) (base := base) tx
  refine tx.F__law_machine.ok sc__law_machine (fun vs H Q E h => ?_) (fun cdv A outer s H vs Q E hr h => ?_)
  · obtain ⟨s, m, rfl, _⟩ := h
    rfl
  · obtain ⟨s, m, rfl , hs, hg, k⟩ := h
    have hu := hu9 hr
    refine L2.Q.root (L2.Q.pss_one (L2.Q.ps_ret (L2.Q.pe_makeN tx.M_Machine (G_Machine_init) (hr.mono (by decide)) (by rfl) tx.g_Machine tx.b_Machine_init .nil pass0 (L2.Q.pa_c (L2.Q.pe_ixK (K' := K) (L2.Q.pv 0) L2.Q.pe_int (fun _ _ => rfl)) (L2.Q.pa_c (L2.Q.pe_ixK (K' := K) (L2.Q.pv 0) L2.Q.pe_int (fun _ _ => rfl)) (L2.Q.pa_c (L2.Q.pe_ixK (K' := K) (L2.Q.pv 0) L2.Q.pe_int (fun _ _ => rfl)) (L2.Q.pa_c (L2.Q.pe_ixK (K' := K) (L2.Q.pv 0) L2.Q.pe_int (fun _ _ => rfl)) (L2.Q.pa_c (L2.Q.pe_ixK (K' := K) (L2.Q.pv 0) L2.Q.pe_int (fun _ _ => rfl)) (L2.Q.pa_c (L2.Q.pe_ixK (K' := K) (L2.Q.pv 0) L2.Q.pe_int (fun _ _ => rfl)) (L2.Q.pa_c (L2.Q.pe_callTyN (rc := rListOf K) call_listG (by rfl) tx.z_list bt_list (L2.Q.pa_c (L2.Q.pe_ixK (K' := K) (L2.Q.pv 0) L2.Q.pe_int (fun _ _ => rfl)) L2.Q.pa_nil)) L2.Q.pa_nil)))))))))) ?_
    obtain ⟨pl, h1, h2⟩ := hs.ex
    obtain ⟨qs, h3, h4⟩ := h2.ex
    refine rd_start (σ := [some (.ref s)]) rfl ?_
    repeat walk_at "go"
    refine rd_listL (SqL.of h3) ?_
    intro l n
    repeat walk_at "go"
    intro x dx nx nd hd
    have sx : Same H (upd (upd (upd H l (.lst (qs.map V.ref))) dx (.own x)) x (.ins a.c_Machine dx [])) := fun b o e => by
      have e1 := Same.new (o := .lst (qs.map V.ref)) n _ _ e
      rw [upd_ne (ne_none nx e1), upd_ne (ne_none nd e1)]
      exact e1
    have lx : l ≠ x := ne_none nx upd_same
    have ld : l ≠ dx := ne_none nd upd_same
    refine ⟨x, dx, l, m, rfl, upd_same, ⟨qs, by rw [upd_ne lx, upd_ne ld, upd_same], h4.same sx⟩, hg, fun H' hM kx => ⟨rfl, ?_⟩⟩
    have nxH : H x = none := (Same.new n).free nx
    exact k x H' hM (fun b o e => kx _ _ (sx _ _ e) (ne_none nxH e)) nxH
theorem HandAt.nnew {H : Hp} {p c : Addr} (hh : HandAt H p) (n : H c = none) : c ≠ p := fun z => by
  obtain ⟨xs, e⟩ := hh.isL
  exact ne_none n e z.symm
def sumA : List (Int × Int) → Int
  | [] => 0
  | t :: ps => t.1 + sumA ps
def aft (m : MS) (o d on : Int) : Int × Int := if o = on then (on, max (d - 1) 0) else if on = 1 then (1, m.up - 1) else (0, m.down - 1)
def Bit (o : Int) : Prop := o = 0 ∨ o = 1
theorem aft_ok {m : MS} (hg : m.Good) {o d on : Int} (ho : Bit on) : Bit (aft m o d on).1 ∧ 0 ≤ (aft m o d on).2 := by
  obtain ⟨u0, u1⟩ := hg.up
  obtain ⟨d0, d1⟩ := hg.down
  unfold aft
  split
  · exact ⟨ho, by show 0 ≤ max (d - 1) 0; omega⟩
  · split
    · exact ⟨.inr rfl, by show 0 ≤ m.up - 1; omega⟩
    · exact ⟨.inl rfl, by show 0 ≤ m.down - 1; omega⟩
theorem ixN_nat {n j : Nat} (h : j < n) : ixN n (j : Int) = some j := by
  unfold ixN
  simp
  omega
def sp__law_state (K : PySem.W.Frag) : Sp := fun vs H Q _ => ∃ (p s : Addr) (m : MS), vs = [.ref p, .ref s] ∧ HandAt H p ∧ SpecAt H s m ∧ m.Good ∧
  ∀ (t : Addr) (o d : Int) H', H' t = some (.tup [.int o, .int d]) → ((o = 1 ∧ 0 ≤ d ∧ d < m.up) ∨ (o = 0 ∧ 0 ≤ d ∧ d < 60)) → HandAt H' p → Keep p H H' → Q (.ref t) H'
set_option maxHeartbeats 40000000 in
theorem ok__law_state {P : Program} {w : World} {K : PySem.W.Frag} {mg : Str → Option Value} {base : Heap} {a : Adr} (tx : Txt K mg a) : FnOk P w K mg base CX0 2 a.f__law_state a.d__law_state ["_law_hand", "_law_spec_here"] (sp__law_state K) := by
  have G__law_draw := ok__law_draw (P := P) (w := w) (base := base) tx
  refine tx.F__law_state.ok sc__law_state (fun vs H Q E h => ?_) (fun cdv A outer s H vs Q E hr h => ?_)
  · obtain ⟨p, s, m, rfl, _⟩ := h
    rfl
  · obtain ⟨p, s, m, rfl , hh, hs, hg, k⟩ := h
    have hu := hu9 hr
    refine L2.Q.root (L2.Q.pss_cons (L2.Q.ps_if (L2.Q.pt_cmpR (r := rEqG K) (op_eqG hu) (L2.Q.pe_callN (G__law_draw) (hr.mono (by decide)) (by rfl) tx.g__law_draw tx.F__law_draw.kp tx.b__law_draw .nil pass0 (L2.Q.pa_c (L2.Q.pv 0) (L2.Q.pa_c L2.Q.pe_int L2.Q.pa_nil))) L2.Q.pe_int (nomark _)) (L2.Q.pss_one (L2.Q.ps_ret (L2.Q.tup2 L2.Q.pe_int (L2.Q.pe_callN (G__law_draw) (hr.mono (by decide)) (by rfl) tx.g__law_draw tx.F__law_draw.kp tx.b__law_draw .nil pass0 (L2.Q.pa_c (L2.Q.pv 0) (L2.Q.pa_c (L2.Q.pe_ixK (K' := K) (L2.Q.pv 1) L2.Q.pe_int (fun _ _ => rfl)) L2.Q.pa_nil)))))) L2.Q.pss_nil)
      (L2.Q.pss_cons (L2.Q.ps_if (L2.Q.pt_cmpR (r := rEqG K) (op_eqG hu) (L2.Q.pe_callN (G__law_draw) (hr.mono (by decide)) (by rfl) tx.g__law_draw tx.F__law_draw.kp tx.b__law_draw .nil pass0 (L2.Q.pa_c (L2.Q.pv 0) (L2.Q.pa_c L2.Q.pe_int L2.Q.pa_nil))) L2.Q.pe_int (nomark _)) (L2.Q.pss_one (L2.Q.ps_ret (L2.Q.tup2 L2.Q.pe_int (L2.Q.pe_callN (G__law_draw) (hr.mono (by decide)) (by rfl) tx.g__law_draw tx.F__law_draw.kp tx.b__law_draw .nil pass0 (L2.Q.pa_c (L2.Q.pv 0) (L2.Q.pa_c L2.Q.pe_int L2.Q.pa_nil)))))) L2.Q.pss_nil)
      (L2.Q.pss_one (L2.Q.ps_ret (L2.Q.tup2 L2.Q.pe_int (L2.Q.pe_callN (G__law_draw) (hr.mono (by decide)) (by rfl) tx.g__law_draw tx.F__law_draw.kp tx.b__law_draw .nil pass0 (L2.Q.pa_c (L2.Q.pv 0) (L2.Q.pa_c (L2.Q.pe_ixK (K' := K) (L2.Q.pv 1) L2.Q.pe_int (fun _ _ => rfl)) L2.Q.pa_nil)))))))) ?_
    obtain ⟨u0, u1⟩ := hg.up
    obtain ⟨d0, d1⟩ := hg.down
    refine rd_start (σ := [some (.ref p), some (.ref s)]) rfl ?_
    repeat walk_at "go"
    refine ⟨p, _, rfl, hh, by decide, by decide, fun r1 H1 a1 b1 h1 k1 _ => ?_⟩
    have hs1 := hs.keep hh k1
    obtain ⟨pl, e1, _⟩ := hs1.ex
    repeat walk_at "go"
    refine rd_dec (fun h => ?_) (fun h => ?_)
    · repeat walk_at "go"
      refine ⟨p, _, rfl, h1, by omega, by omega, fun r2 H2 a2 b2 h2 k2 _ => ?_⟩
      repeat walk_at "go"
      intro T nT
      repeat walk_at "go"
      exact k _ _ _ _ upd_same (.inl ⟨rfl, a2, b2⟩) (h2.same (Same.new nT)) (k1.trans (k2.trans (Same.new nT).keep))
    · repeat walk_at "go"
      refine ⟨p, _, rfl, h1, by decide, by decide, fun r2 H2 a2 b2 h2 k2 _ => ?_⟩
      have hs2 := hs1.keep h1 k2
      obtain ⟨pl2, e2, _⟩ := hs2.ex
      repeat walk_at "go"
      refine rd_dec (fun h => ?_) (fun h => ?_)
      · repeat walk_at "go"
        refine ⟨p, _, rfl, h2, by decide, by decide, fun r3 H3 a3 b3 h3 k3 _ => ?_⟩
        repeat walk_at "go"
        intro T nT
        repeat walk_at "go"
        exact k _ _ _ _ upd_same (.inr ⟨rfl, a3, b3⟩) (h3.same (Same.new nT)) (k1.trans (k2.trans (k3.trans (Same.new nT).keep)))
      · repeat walk_at "go"
        refine ⟨p, _, rfl, h2, by omega, by omega, fun r3 H3 a3 b3 h3 k3 _ => ?_⟩
        repeat walk_at "go"
        intro T nT
        repeat walk_at "go"
        exact k _ _ _ _ upd_same (.inr ⟨rfl, a3, by omega⟩) (h3.same (Same.new nT)) (k1.trans (k2.trans (k3.trans (Same.new nT).keep)))
structure RL {α : Type} (P : Addr → α → Prop) (as : List Addr) (xs : List α) : Prop where
  len : as.length = xs.length
  at_ : ∀ (j : Nat) a x, as[j]? = some a → xs[j]? = some x → P a x
theorem RL.nil {α : Type} {P : Addr → α → Prop} : RL P [] [] := ⟨rfl, fun j a x h => by simp at h⟩
theorem RL.imp {α : Type} {P P' : Addr → α → Prop} {as : List Addr} {xs : List α} (h : RL P as xs) (f : ∀ a x, P a x → P' a x) : RL P' as xs := ⟨h.len, fun j a x h1 h2 => f a x (h.at_ j a x h1 h2)⟩
theorem RL.snoc {α : Type} {P : Addr → α → Prop} {as : List Addr} {xs : List α} (h : RL P as xs) {a : Addr} {x : α} (hp : P a x) : RL P (as ++ [a]) (xs ++ [x]) := by
  refine ⟨by rw [List.length_append, List.length_append, h.len]; rfl, fun j q u hq hu => ?_⟩
  by_cases hj : j < as.length
  · rw [List.getElem?_append_left hj] at hq
    rw [List.getElem?_append_left (by rw [← h.len]; exact hj)] at hu
    exact h.at_ j q u hq hu
  · have hj2 : j < (as ++ [a]).length := (List.getElem?_eq_some_iff.mp hq).1
    rw [List.length_append, List.length_singleton] at hj2
    have e : j = as.length := by omega
    subst e
    rw [List.getElem?_append_right (Nat.le_refl _), Nat.sub_self] at hq
    rw [h.len, List.getElem?_append_right (Nat.le_refl _), Nat.sub_self] at hu
    cases hq
    cases hu
    exact hp
theorem RL.two {α : Type} {P : Addr → α → Prop} {as : List Addr} {xs : List α} (h : RL P as xs) (hl : as.length = 2) : ∃ a b x y, as = [a, b] ∧ xs = [x, y] ∧ P a x ∧ P b y := by
  have hx : xs.length = 2 := by rw [← h.len]; exact hl
  match as, xs, hl, hx with
  | [a, b], [x, y], _, _ => exact ⟨a, b, x, y, rfl, rfl, h.at_ 0 a x rfl rfl, h.at_ 1 b y rfl rfl⟩
def SmV (H : Hp) : Nat → V → V → Prop
  | 0, _, _ => False
  | j + 1, x, y => (∃ i, x = .int i ∧ y = .int i) ∨ (∃ b, x = .bl b ∧ y = .bl b) ∨ (x = .non ∧ y = .non) ∨ (∃ s, x = .str s ∧ y = .str s) ∨
    ∃ (p q : Addr) (xs ys : List V), x = .ref p ∧ y = .ref q ∧ ((H p = some (.tup xs) ∧ H q = some (.tup ys)) ∨ (H p = some (.lst xs) ∧ H q = some (.lst ys))) ∧ xs.length = ys.length ∧ ys.length ≤ 1000000 ∧ ∀ (i : Nat) u v, xs[i]? = some u → ys[i]? = some v → SmV H j u v
theorem SmV.same {H H' : Hp} (s : Same H H') : ∀ {j : Nat} {x y : V}, SmV H j x y → SmV H' j x y
  | 0, _, _, h => h
  | j + 1, x, y, h => by
    rcases h with h | h | h | h | ⟨p, q, xs, ys, e1, e2, e3, e4, e5, e6⟩
    · exact .inl h
    · exact .inr (.inl h)
    · exact .inr (.inr (.inl h))
    · exact .inr (.inr (.inr (.inl h)))
    · refine .inr (.inr (.inr (.inr ⟨p, q, xs, ys, e1, e2, ?_, e4, e5, fun i u v hu hv => SmV.same s (e6 i u v hu hv)⟩)))
      rcases e3 with ⟨a, b⟩ | ⟨a, b⟩
      · exact .inl ⟨s _ _ a, s _ _ b⟩
      · exact .inr ⟨s _ _ a, s _ _ b⟩
theorem SmV.int {H : Hp} {j : Nat} (i : Int) : SmV H (j + 1) (.int i) (.int i) := .inl ⟨i, rfl, rfl⟩
theorem SmV.pair {H : Hp} {j : Nat} {p q : Addr} {x y : Int} (h1 : H p = some (.tup [.int x, .int y])) (h2 : H q = some (.tup [.int x, .int y])) : SmV H (j + 2) (.ref p) (.ref q) := by
  refine .inr (.inr (.inr (.inr ⟨p, q, _, _, rfl, rfl, .inl ⟨h1, h2⟩, rfl, by simp, fun i u v hu hv => ?_⟩)))
  rw [hu] at hv
  cases hv
  match i, hu with
  | 0, hu => cases hu; exact SmV.int x
  | 1, hu => cases hu; exact SmV.int y
  | _ + 2, hu => simp at hu
def sp__law_same (K : PySem.W.Frag) (j : Nat) : Sp := fun vs H Q _ => ∃ (x y : V), vs = [x, y] ∧ SmV H j x y ∧ ∀ H', Same H H' → Q (.bl true) H'
theorem zero__law_same {K : PySem.W.Frag} {vs : List V} {H : Hp} {Q : VK} {E : XK} (h : sp__law_same K 0 vs H Q E) : False := by
  obtain ⟨_, _, _, h, _⟩ := h
  exact h
set_option maxHeartbeats 40000000 in
theorem ok__law_same {P : Program} {w : World} {K : PySem.W.Frag} {mg : Str → Option Value} {base : Heap} {a : Adr} (tx : Txt K mg a) : (j : Nat) → FnOk P w K mg base CX0 (j + 1) a.f__law_same a.d__law_same ["_law_one", "_law_due"] (sp__law_same K j)
  | 0 => ⟨fun vs H Q E h => (zero__law_same h).elim, fun A outer s H args us vs Q E _ _ _ _ h => (zero__law_same h).elim⟩
  | j + 1 => by
    have G__law_same := ok__law_same (P := P) (w := w) (base := base) tx j
    refine tx.F__law_same.ok sc__law_same (fun vs H Q E h => ?_) (fun cdv A outer s H vs Q E hr h => ?_)
    · obtain ⟨x, y, rfl, _⟩ := h
      rfl
    · obtain ⟨x, y, rfl , hs, k⟩ := h
      have hu := hu9 hr
      refine L2.Q.root (L2.Q.pss_cons (L2.Q.ps_if (L2.Q.pt_val (L2.Q.pe_callBN (rc := rIsiT K) call_isiT (by rfl) tx.z_isinstance bt_isinstance (L2.Q.pa_c (L2.Q.pv 1) (L2.Q.pa_c (L2.Q.tup2 (L2.Q.pe_bltn (v := .ty "list") (by rfl) tx.z_list bt_list rfl) (L2.Q.pe_bltn (v := .ty "tuple") (by rfl) tx.z_tuple bt_tuple rfl)) L2.Q.pa_nil)))) (L2.Q.pss_cons (L2.Q.ps_if (L2.Q.pw_pt (L2.Q.pw_or (L2.Q.pt_cmpR (r := rNeG K) (op_neG hu) (L2.Q.pe_callBN (rc := rIsi K) call_isiG (by rfl) tx.z_isinstance bt_isinstance (L2.Q.pa_c (L2.Q.pv 0) (L2.Q.pa_c (L2.Q.pe_bltn (v := .ty "list") (by rfl) tx.z_list bt_list rfl) L2.Q.pa_nil))) (L2.Q.pe_callBN (rc := rIsi K) call_isiG (by rfl) tx.z_isinstance bt_isinstance (L2.Q.pa_c (L2.Q.pv 1) (L2.Q.pa_c (L2.Q.pe_bltn (v := .ty "list") (by rfl) tx.z_list bt_list rfl) L2.Q.pa_nil))) (nomark _)) (L2.Q.pw_or1 (L2.Q.pt_cmpR (r := rNeG K) (op_neG hu) (L2.Q.pe_callBN (rc := rIsi K) call_isiG (by rfl) tx.z_isinstance bt_isinstance (L2.Q.pa_c (L2.Q.pv 0) (L2.Q.pa_c (L2.Q.pe_bltn (v := .ty "tuple") (by rfl) tx.z_tuple bt_tuple rfl) L2.Q.pa_nil))) (L2.Q.pe_callBN (rc := rIsi K) call_isiG (by rfl) tx.z_isinstance bt_isinstance (L2.Q.pa_c (L2.Q.pv 1) (L2.Q.pa_c (L2.Q.pe_bltn (v := .ty "tuple") (by rfl) tx.z_tuple bt_tuple rfl) L2.Q.pa_nil))) (nomark _))))) (L2.Q.pss_one (L2.Q.ps_ret L2.Q.pe_bl)) L2.Q.pss_nil)
        (L2.Q.pss_one (L2.Q.ps_ret (L2.Q.pe_and (L2.Q.pe_cmpR (r := rEqG K) (op_eqG hu) (L2.Q.pe_callBN (rc := rLen K) call_lenG (by rfl) tx.z_len bt_len (L2.Q.pa_c (L2.Q.pv 0) L2.Q.pa_nil)) (L2.Q.pe_callBN (rc := rLen K) call_lenG (by rfl) tx.z_len bt_len (L2.Q.pa_c (L2.Q.pv 1) L2.Q.pa_nil)) (nomark _)) (L2.Q.pe_one (L2.Q.pe_callBN (rc := rAll K) (call_allG rfl) (by rfl) tx.z_all bt_all (L2.Q.pa_c (L2.Q.pe_comp (k := 1) (idx := [1, 0]) (N := ["_law_k", "_law_due", "_law_one"]) (blk_sc (sc := defScope s__law_same) (NX := ["_law_one", "_law_due"]) rfl rfl rfl (by decide +kernel)) rfl (L2.Q.pi_range1N (by rfl) tx.z_range (L2.Q.pa_c (L2.Q.pe_callBN (rc := rLen K) call_lenG (by rfl) tx.z_len bt_len (L2.Q.pa_c (L2.Q.pv 1) L2.Q.pa_nil)) L2.Q.pa_nil)) (fun _ _ _ _ => (L2.Q.pg_name (i := 0) (show (["_law_k", "_law_due", "_law_one"] : List Str).Nodup by decide +kernel) rfl (Or.inl rfl))) (own_name (by decide)) (fun _ _ _ _ => L2.Q.pts_nil) (fun _ _ _ _ => (L2.Q.pe_callN (G__law_same) (hr.mono (by omega)) (by rfl) tx.g__law_same tx.F__law_same.kp tx.b__law_same .nil pass0 (L2.Q.pa_c (L2.Q.pe_ixK (K' := K) (L2.Q.pv 2) (L2.Q.pv 0) (fun _ _ => rfl)) (L2.Q.pa_c (L2.Q.pe_ixK (K' := K) (L2.Q.pv 1) (L2.Q.pv 0) (fun _ _ => rfl)) L2.Q.pa_nil))))) L2.Q.pa_nil))))))) L2.Q.pss_nil)
        (L2.Q.pss_cons (L2.Q.ps_if (L2.Q.pw_pt (L2.Q.pw_or (L2.Q.pt_val (L2.Q.pe_callBN (rc := rIsi K) call_isiG (by rfl) tx.z_isinstance bt_isinstance (L2.Q.pa_c (L2.Q.pv 0) (L2.Q.pa_c (L2.Q.pe_bltn (v := .ty "bool") (by rfl) tx.z_bool bt_bool rfl) L2.Q.pa_nil)))) (L2.Q.pw_or1 (L2.Q.pt_val (L2.Q.pe_callBN (rc := rIsi K) call_isiG (by rfl) tx.z_isinstance bt_isinstance (L2.Q.pa_c (L2.Q.pv 1) (L2.Q.pa_c (L2.Q.pe_bltn (v := .ty "bool") (by rfl) tx.z_bool bt_bool rfl) L2.Q.pa_nil))))))) (L2.Q.pss_one (L2.Q.ps_ret (L2.Q.pe_and (L2.Q.pe_callBN (rc := rIsi K) call_isiG (by rfl) tx.z_isinstance bt_isinstance (L2.Q.pa_c (L2.Q.pv 0) (L2.Q.pa_c (L2.Q.pe_bltn (v := .ty "bool") (by rfl) tx.z_bool bt_bool rfl) L2.Q.pa_nil))) (L2.Q.pe_and (L2.Q.pe_callBN (rc := rIsi K) call_isiG (by rfl) tx.z_isinstance bt_isinstance (L2.Q.pa_c (L2.Q.pv 1) (L2.Q.pa_c (L2.Q.pe_bltn (v := .ty "bool") (by rfl) tx.z_bool bt_bool rfl) L2.Q.pa_nil))) (L2.Q.pe_one (L2.Q.pe_cmpR (r := rEqG K) (op_eqG hu) (L2.Q.pv 0) (L2.Q.pv 1) (nomark _))))))) L2.Q.pss_nil)
        (L2.Q.pss_cons (L2.Q.ps_if (L2.Q.pt_val (L2.Q.pe_callBN (rc := rIsi K) call_isiG (by rfl) tx.z_isinstance bt_isinstance (L2.Q.pa_c (L2.Q.pv 1) (L2.Q.pa_c (L2.Q.pe_bltn (v := .ty "int") (by rfl) tx.z_int bt_int rfl) L2.Q.pa_nil)))) (L2.Q.pss_one (L2.Q.ps_ret (L2.Q.pe_and (L2.Q.pe_callBN (rc := rIsi K) call_isiG (by rfl) tx.z_isinstance bt_isinstance (L2.Q.pa_c (L2.Q.pv 0) (L2.Q.pa_c (L2.Q.pe_bltn (v := .ty "int") (by rfl) tx.z_int bt_int rfl) L2.Q.pa_nil))) (L2.Q.pe_one (L2.Q.pe_cmpR (r := rEqG K) (op_eqG hu) (L2.Q.pv 0) (L2.Q.pv 1) (nomark _)))))) L2.Q.pss_nil)
        (L2.Q.pss_cons (L2.Q.ps_if (L2.Q.pt_val (L2.Q.pe_callBN (rc := rIsi K) call_isiG (by rfl) tx.z_isinstance bt_isinstance (L2.Q.pa_c (L2.Q.pv 1) (L2.Q.pa_c (L2.Q.pe_bltn (v := .ty "str") (by rfl) tx.z_str bt_str rfl) L2.Q.pa_nil)))) (L2.Q.pss_one (L2.Q.ps_ret (L2.Q.pe_and (L2.Q.pe_callBN (rc := rIsi K) call_isiG (by rfl) tx.z_isinstance bt_isinstance (L2.Q.pa_c (L2.Q.pv 0) (L2.Q.pa_c (L2.Q.pe_bltn (v := .ty "str") (by rfl) tx.z_str bt_str rfl) L2.Q.pa_nil))) (L2.Q.pe_one (L2.Q.pe_cmpR (r := rEqG K) (op_eqG hu) (L2.Q.pv 0) (L2.Q.pv 1) (nomark _)))))) L2.Q.pss_nil)
        (L2.Q.pss_one (L2.Q.ps_ret (L2.Q.pe_and (L2.Q.pe_cmpR op_isG (L2.Q.pv 0) L2.Q.pe_non (nomark _)) (L2.Q.pe_one (L2.Q.pe_cmpR op_isG (L2.Q.pv 1) L2.Q.pe_non (nomark _)))))))))) ?_
      refine rd_start (σ := [some x, some y]) rfl ?_
      repeat walk_at "gs"
      intro T nT
      repeat walk_at "gs"
      rcases hs with ⟨i, rfl, rfl⟩ | ⟨b, rfl, rfl⟩ | ⟨rfl, rfl⟩ | ⟨z, rfl, rfl⟩ | ⟨p, q, xs, ys, rfl, rfl, e3, e4, e5, e6⟩
      · refine rd_isiT (Ts := ["list", "tuple"]) upd_same (.int i) rfl ?_
        repeat walk_at "gs"
        refine rd_isi (isi_bool (.int i)) ?_
        repeat walk_at "gs"
        refine rd_isi (isi_bool (.int i)) ?_
        repeat walk_at "gs"
        refine rd_isi (isi_int (.int i)) ?_
        repeat walk_at "gs"
        refine rd_isi (isi_int (.int i)) ?_
        repeat walk_at "gs"
        rw [decide_eq_true rfl]
        exact k _ (Same.new nT)
      · refine rd_isiT (Ts := ["list", "tuple"]) upd_same (.bl b) rfl ?_
        repeat walk_at "gs"
        refine rd_isi (isi_bool (.bl b)) ?_
        repeat walk_at "gs"
        refine rd_isi (isi_bool (.bl b)) ?_
        repeat walk_at "gs"
        refine rd_isi (isi_bool (.bl b)) ?_
        repeat walk_at "gs"
        rw [show eqV (.bl b) (.bl b) = true by cases b <;> rfl]
        exact k _ (Same.new nT)
      · refine rd_isiT (Ts := ["list", "tuple"]) upd_same .non rfl ?_
        repeat walk_at "gs"
        refine rd_isi (isi_bool .non) ?_
        repeat walk_at "gs"
        refine rd_isi (isi_bool .non) ?_
        repeat walk_at "gs"
        refine rd_isi (isi_int .non) ?_
        repeat walk_at "gs"
        refine rd_isi (isi_str .non) ?_
        repeat walk_at "gs"
        exact k _ (Same.new nT)
      · refine rd_isiT (Ts := ["list", "tuple"]) upd_same (.str z) rfl ?_
        repeat walk_at "gs"
        refine rd_isi (isi_bool (.str z)) ?_
        repeat walk_at "gs"
        refine rd_isi (isi_bool (.str z)) ?_
        repeat walk_at "gs"
        refine rd_isi (isi_int (.str z)) ?_
        repeat walk_at "gs"
        refine rd_isi (isi_str (.str z)) ?_
        repeat walk_at "gs"
        refine rd_isi (isi_str (.str z)) ?_
        repeat walk_at "gs"
        rw [show eqV (.str z) (.str z) = true from beq_self_eq_true z]
        exact k _ (Same.new nT)
      · have sT := Same.new (o := .tup [.ty "list", .ty "tuple"]) nT
        have hb : ∃ L : List V → Bool, True := ⟨fun _ => true, trivial⟩
        rcases e3 with ⟨a1, a2⟩ | ⟨a1, a2⟩
        · have c1 := sT _ _ a1
          have c2 := sT _ _ a2
          generalize hH1 : upd H T (.tup [.ty "list", .ty "tuple"]) = H1 at c1 c2 sT ⊢
          have eT : H1 T = some (.tup [.ty "list", .ty "tuple"]) := by rw [← hH1]; exact upd_same
          refine rd_isiT (Ts := ["list", "tuple"]) eT (.tup c2) rfl ?_
          repeat walk_at "gs"
          refine rd_isi (isi_list (.tup c1)) ?_
          repeat walk_at "gs"
          refine rd_isi (isi_list (.tup c2)) ?_
          repeat walk_at "gs"
          refine rd_isi (isi_tuple (.tup c1)) ?_
          repeat walk_at "gs"
          refine rd_isi (isi_tuple (.tup c2)) ?_
          repeat walk_at "gs"
          refine rd_dec (fun _ => ?_) (fun h => absurd (by rw [e4]) h)
          repeat walk_at "gs"
          refine ⟨by omega, by omega, ?_⟩
          refine comp_range (fun i zs H' => Same H1 H' ∧ zs.length = i ∧ ∀ z ∈ zs, z = .bl true) ⟨Same.refl _, rfl, fun z h => by simp at h⟩ (sz_le (by omega)) (fun i zs H' hi ⟨_, h, _⟩ => by omega) (fun i zs H' hi ⟨s1, h1, h2⟩ => ?_) (fun zs H' ⟨s1, h1, h2⟩ => ?_)
          · have hi2 : i < ys.length := by omega
            have hi1 : i < xs.length := by omega
            have g1 : atI xs (0 + (i : Int)) = some xs[i] := by rw [Int.zero_add]; exact atI_nat (List.getElem?_eq_getElem hi1)
            have g2 : atI ys (0 + (i : Int)) = some ys[i] := by rw [Int.zero_add]; exact atI_nat (List.getElem?_eq_getElem hi2)
            have d1 := s1 _ _ c1
            have d2 := s1 _ _ c2
            repeat walk_at "gs"
            refine ⟨_, _, rfl, SmV.same (sT.trans s1) (e6 i _ _ (List.getElem?_eq_getElem hi1) (List.getElem?_eq_getElem hi2)), fun H2 s2 => ?_⟩
            refine ⟨s1.trans s2, by rw [List.length_append, h1]; rfl, fun z hz => ?_⟩
            rcases List.mem_append.mp hz with h | h
            · exact h2 z h
            · exact List.mem_singleton.mp h
          · intro L nL
            repeat walk_at "gs"
            refine rd_allT (SqL.of upd_same) h2 ?_
            exact k _ ((sT.trans s1).trans (Same.new nL))
        · have c1 := sT _ _ a1
          have c2 := sT _ _ a2
          generalize hH1 : upd H T (.tup [.ty "list", .ty "tuple"]) = H1 at c1 c2 sT ⊢
          have eT : H1 T = some (.tup [.ty "list", .ty "tuple"]) := by rw [← hH1]; exact upd_same
          refine rd_isiT (Ts := ["list", "tuple"]) eT (.lst c2) rfl ?_
          repeat walk_at "gs"
          refine rd_isi (isi_list (.lst c1)) ?_
          repeat walk_at "gs"
          refine rd_isi (isi_list (.lst c2)) ?_
          repeat walk_at "gs"
          refine rd_isi (isi_tuple (.lst c1)) ?_
          repeat walk_at "gs"
          refine rd_isi (isi_tuple (.lst c2)) ?_
          repeat walk_at "gs"
          refine rd_dec (fun _ => ?_) (fun h => absurd (by rw [e4]) h)
          repeat walk_at "gs"
          refine ⟨by omega, by omega, ?_⟩
          refine comp_range (fun i zs H' => Same H1 H' ∧ zs.length = i ∧ ∀ z ∈ zs, z = .bl true) ⟨Same.refl _, rfl, fun z h => by simp at h⟩ (sz_le (by omega)) (fun i zs H' hi ⟨_, h, _⟩ => by omega) (fun i zs H' hi ⟨s1, h1, h2⟩ => ?_) (fun zs H' ⟨s1, h1, h2⟩ => ?_)
          · have hi2 : i < ys.length := by omega
            have hi1 : i < xs.length := by omega
            have g1 : atI xs (0 + (i : Int)) = some xs[i] := by rw [Int.zero_add]; exact atI_nat (List.getElem?_eq_getElem hi1)
            have g2 : atI ys (0 + (i : Int)) = some ys[i] := by rw [Int.zero_add]; exact atI_nat (List.getElem?_eq_getElem hi2)
            have d1 := s1 _ _ c1
            have d2 := s1 _ _ c2
            repeat walk_at "gs"
            refine ⟨_, _, rfl, SmV.same (sT.trans s1) (e6 i _ _ (List.getElem?_eq_getElem hi1) (List.getElem?_eq_getElem hi2)), fun H2 s2 => ?_⟩
            refine ⟨s1.trans s2, by rw [List.length_append, h1]; rfl, fun z hz => ?_⟩
            rcases List.mem_append.mp hz with h | h
            · exact h2 z h
            · exact List.mem_singleton.mp h
          · intro L nL
            repeat walk_at "gs"
            refine rd_allT (SqL.of upd_same) h2 ?_
            exact k _ ((sT.trans s1).trans (Same.new nL))
def HandSh (o : HO) : Prop := (∃ (d c : Int) (q : Addr), o = .lst [.int d, .int c, .ref q]) ∨ ∃ (C dx : Addr), o = .ins C dx []
def Tr (H H' : Hp) : Prop := ∀ b o, H b = some o → ¬ HandSh o → H' b = some o
theorem Tr.refl (H : Hp) : Tr H H := fun _ _ e _ => e
theorem Tr.trans {H H1 H2 : Hp} (a : Tr H H1) (b : Tr H1 H2) : Tr H H2 := fun c o e n => b c o (a c o e n) n
theorem _root_.L2.Same.tr {H H' : Hp} (s : Same H H') : Tr H H' := fun b o e _ => s b o e
theorem HandAt.tr {H H' : Hp} {p : Addr} (hh : HandAt H p) (k : Keep p H H') : Tr H H' := fun b o e n => k b o e fun z => by
  obtain ⟨d, c, q, ms, hp, _⟩ := hh.ex
  rw [z, hp] at e
  cases e
  exact n (.inl ⟨d, c, q, rfl⟩)
theorem ins_tr {H H' : Hp} {x C dx : Addr} (hx : H x = some (.ins C dx [])) (k : Keep x H H') : Tr H H' := fun b o e n => k b o e fun z => by
  rw [z, hx] at e
  cases e
  exact n (.inr ⟨C, dx, rfl⟩)
def Tk (H H' : Hp) : Prop := ∀ b xs, H b = some (.tup xs) → H' b = some (.tup xs)
theorem Tk.trans {H H1 H2 : Hp} (a : Tk H H1) (b : Tk H1 H2) : Tk H H2 := fun c o e => b c o (a c o e)
theorem nh_tup {xs : List V} : ¬ HandSh (.tup xs) := fun z => by rcases z with ⟨_, _, _, e⟩ | ⟨_, _, e⟩ <;> cases e
theorem nh_ins {C dx : Addr} {fs : List (Str × V)} (h : fs ≠ []) : ¬ HandSh (.ins C dx fs) := fun z => by
  rcases z with ⟨_, _, _, e⟩ | ⟨_, _, e⟩
  · cases e
  · cases e; exact h rfl
theorem nh_len {xs : List V} (h : xs.length ≠ 3) : ¬ HandSh (.lst xs) := fun z => by
  rcases z with ⟨_, _, _, e⟩ | ⟨_, _, e⟩
  · cases e; exact h rfl
  · cases e
theorem nh_refs {qs : List Addr} : ¬ HandSh (.lst (qs.map V.ref)) := fun z => by
  rcases z with ⟨_, _, _, e⟩ | ⟨_, _, e⟩
  · cases qs with
    | nil => cases e
    | cons x xs => cases e
  · cases e
theorem Tr.tk {H H' : Hp} (s : Tr H H') : Tk H H' := fun b xs e => s b _ e nh_tup
theorem _root_.L2.Same.tk {H H' : Hp} (s : Same H H') : Tk H H' := fun b xs e => s b _ e
def del (l : Addr) (H : Hp) : Hp := fun b => if b = l then none else H b
theorem del_at {l b : Addr} {H : Hp} (n : b ≠ l) : del l H b = H b := by unfold del; rw [if_neg n]
theorem del_le {l : Addr} {H : Hp} : Same (del l H) H := fun b o e => by
  unfold del at e
  split at e
  · cases e
  · exact e
theorem del_l {l : Addr} {H : Hp} : del l H l = none := by unfold del; rw [if_pos rfl]
theorem Tr.del {l : Addr} {H H' : Hp} (s : Tr H H') : Tr (del l H) (del l H') := fun b o e n => by
  by_cases hb : b = l
  · subst hb; rw [del_l] at e; cases e
  · rw [del_at hb] at e ⊢; exact s b o e n
theorem del_upd {l : Addr} {H : Hp} {o : HO} : del l (upd H l o) = del l H := by
  funext b
  by_cases hb : b = l
  · subst hb; rw [del_l, del_l]
  · rw [del_at hb, del_at hb, upd_ne hb]
theorem Tup2.tr {H H' : Hp} {qs : List Addr} {ps : List (Int × Int)} (h : Tup2 H qs ps) (s : Tk H H') : Tup2 H' qs ps := ⟨h.len, fun j q t h1 h2 => s _ _ (h.at_ j q t h1 h2)⟩
theorem PcAt.tr {H H' : Hp} {p : Addr} {ps : List (Int × Int)} (h : PcAt H p ps) (s : Tr H H') : PcAt H' p ps := by
  obtain ⟨qs, h1, h2⟩ := h.ex
  exact ⟨qs, s _ _ h1 nh_refs, h2.tr s.tk⟩
theorem SpecAt.tr {H H' : Hp} {p : Addr} {m : MS} (h : SpecAt H p m) (s : Tr H H') : SpecAt H' p m := by
  obtain ⟨pl, h1, h2⟩ := h.ex
  exact ⟨pl, s _ _ h1 (nh_len (by simp)), h2.tr s⟩
theorem MachAt.tr {C : Addr} {H H' : Hp} {p : Addr} {m : MS} (h : MachAt C H p m) (s : Tr H H') : MachAt C H' p m := by
  obtain ⟨dx, pl, h1, h2⟩ := h.ex
  exact ⟨dx, pl, s _ _ h1 (nh_ins (by simp [mFs])), h2.tr s⟩
structure SS where
  cap : Int
  into : Int
  out : Int
  takes : Int
  gives : Int
structure SS.Good (s : SS) : Prop where
  cap : 0 ≤ s.cap ∧ s.cap ≤ 8
  into : 0 ≤ s.into ∧ s.into ≤ 8
  out : 0 ≤ s.out ∧ s.out ≤ 8
  takes : Am s.takes
  gives : Am s.gives
def Lv (s : SS) (l n : Int) : Prop := 0 ≤ n ∧ n ≤ s.cap ∧ l - s.out ≤ n ∧ n ≤ l + s.into
instance (s : SS) (l n : Int) : Decidable (Lv s l n) := by unfold Lv; infer_instance
def pf (s : SS) : Int → List Int → Nat → V
  | _, [], _ => .non
  | l, n :: r, i => if Lv s l n then pf s n r (i + 1) else .int i
def sFs (s : SS) : List (Str × V) := [("cap", .int s.cap), ("into", .int s.into), ("out", .int s.out), ("takes", .int s.takes), ("gives", .int s.gives)]
structure SomeAt (H : Hp) (a : Addr) (s : SS) : Prop where
  at_ : H a = some (.lst [.int s.cap, .int s.into, .int s.out, .int s.takes, .int s.gives])
structure StoreAt (C : Addr) (H : Hp) (x : Addr) (s : SS) : Prop where
  ex : ∃ dx, H x = some (.ins C dx (sFs s))
theorem SomeAt.same {H H' : Hp} {a : Addr} {s : SS} (h : SomeAt H a s) (e : Same H H') : SomeAt H' a s := ⟨e _ _ h.at_⟩
theorem StoreAt.same {C : Addr} {H H' : Hp} {a : Addr} {s : SS} (h : StoreAt C H a s) (e : Same H H') : StoreAt C H' a s := by
  obtain ⟨dx, q⟩ := h.ex
  exact ⟨dx, e _ _ q⟩
def sp_is_depth (K : PySem.W.Frag) : Sp := fun vs H Q _ => ∃ (i : Int), vs = [.int i] ∧ 0 ≤ i ∧ i ≤ 8 ∧ Q (.bl true) H
set_option maxHeartbeats 40000000 in
theorem ok_is_depth {P : Program} {w : World} {K : PySem.W.Frag} {mg : Str → Option Value} {base : Heap} {a : Adr} (tx : Txt K mg a) : FnOk P w K mg base CX0 2 a.f_is_depth a.d_is_depth ["thing"] (sp_is_depth K) := by
  have G_is_whole := ok_is_whole (P := P) (w := w) (base := base) tx
  refine tx.F_is_depth.ok sc_is_depth (fun vs H Q E h => ?_) (fun cdv A outer s H vs Q E hr h => ?_)
  · obtain ⟨i, rfl, _⟩ := h
    rfl
  · obtain ⟨i, rfl , h1, h2, k⟩ := h
    have hu := hu9 hr
    refine L2.Q.root (L2.Q.pss_one (L2.Q.ps_ret (L2.Q.pe_and (L2.Q.pe_callN (G_is_whole) (hr.mono (by decide)) (by rfl) tx.g_is_whole tx.F_is_whole.kp tx.b_is_whole .nil pass0 (L2.Q.pa_c (L2.Q.pv 0) L2.Q.pa_nil)) (L2.Q.pe_one (L2.Q.pe_chain op_le op_le L2.Q.pe_int (L2.Q.pv 0) (L2.Q.pe_gint (n := 8) (by rfl) tx.v_MOST_LEVELS)))))) ?_
    refine rd_start (σ := [some (.int i)]) rfl ?_
    repeat walk_at "go"
    refine ⟨_, _, rfl, .int i, ?_⟩
    repeat walk_at "go"
    refine rd_bool (fun _ => ?_) (fun h => by simp at h)
    repeat walk_at "go"
    refine rd_dec (fun _ => ?_) (fun h => absurd h1 h)
    repeat walk_at "go"
    rw [decide_eq_true h2]
    exact k
def sp_Store_init (K : PySem.W.Frag) (C : Addr) : Sp := fun vs H Q _ => ∃ (x dx : Addr) (s : SS), vs = [.ref x, .int s.cap, .int s.into, .int s.out, .int s.takes, .int s.gives] ∧ H x = some (.ins C dx []) ∧ s.Good ∧
  ∀ H', StoreAt C H' x s → Keep x H H' → Q .non H'
set_option maxHeartbeats 40000000 in
theorem ok_Store_init {P : Program} {w : World} {K : PySem.W.Frag} {mg : Str → Option Value} {base : Heap} {a : Adr} (tx : Txt K mg a) : FnOk P w K mg base CX0 3 a.f_Store_init a.d_Store_init ["self", "cap", "into", "out", "takes", "gives"] (sp_Store_init K a.c_Store) := by
  have G_is_amount := ok_is_amount (P := P) (w := w) (base := base) tx
  have G_is_depth := ok_is_depth (P := P) (w := w) (base := base) tx
  refine tx.F_Store_init.ok sc_Store_init (fun vs H Q E h => ?_) (fun cdv A outer s H vs Q E hr h => ?_)
  · obtain ⟨x, dx, ss, rfl, _⟩ := h
    rfl
  · obtain ⟨x, dx, ss, rfl , hx, hg, k⟩ := h
    have hu := hu9 hr
    refine L2.Q.root (L2.Q.pss_cons (L2.Q.ps_set (i := 6) sc_Store_init.nd rfl (Or.inl rfl) (L2.Q.lst3 (L2.Q.pe_callN (G_is_depth) (hr.mono (by decide)) (by rfl) tx.g_is_depth tx.F_is_depth.kp tx.b_is_depth .nil pass0 (L2.Q.pa_c (L2.Q.pv 1) L2.Q.pa_nil)) (L2.Q.pe_callN (G_is_depth) (hr.mono (by decide)) (by rfl) tx.g_is_depth tx.F_is_depth.kp tx.b_is_depth .nil pass0 (L2.Q.pa_c (L2.Q.pv 2) L2.Q.pa_nil)) (L2.Q.pe_callN (G_is_depth) (hr.mono (by decide)) (by rfl) tx.g_is_depth tx.F_is_depth.kp tx.b_is_depth .nil pass0 (L2.Q.pa_c (L2.Q.pv 3) L2.Q.pa_nil))))
      (L2.Q.pss_cons (L2.Q.ps_for PassesOwn.never rfl (L2.Q.pi_enumK (K' := K) (by rfl) tx.z_enumerate (L2.Q.pa_c (L2.Q.pe_op op_addG (L2.Q.pv 6) (L2.Q.lst2 (L2.Q.pe_callN (G_is_amount) (hr.mono (by decide)) (by rfl) tx.g_is_amount tx.F_is_amount.kp tx.b_is_amount .nil pass0 (L2.Q.pa_c (L2.Q.pv 4) L2.Q.pa_nil)) (L2.Q.pe_callN (G_is_amount) (hr.mono (by decide)) (by rfl) tx.g_is_amount tx.F_is_amount.kp tx.b_is_amount .nil pass0 (L2.Q.pa_c (L2.Q.pv 5) L2.Q.pa_nil)))) L2.Q.pa_nil)) (L2.Q.pg_tupK (K' := K) (n := 2) rfl (L2.Q.pgs_cons (L2.Q.pg_name (i := 7) sc_Store_init.nd rfl (Or.inl rfl)) (L2.Q.pgs_cons (L2.Q.pg_name (i := 8) sc_Store_init.nd rfl (Or.inl rfl)) L2.Q.pgs_nil))) (L2.Q.pss_one (L2.Q.ps_if (L2.Q.pt_not (L2.Q.pt_val (L2.Q.pv 8))) (L2.Q.pss_one L2.Q.ps_never) L2.Q.pss_nil)))
      (L2.Q.pss_cons (L2.Q.ps_fldK (K' := K) (L2.Q.pv 0) (L2.Q.pv 1) rfl)
      (L2.Q.pss_cons (L2.Q.ps_fldK (K' := K) (L2.Q.pv 0) (L2.Q.pv 2) rfl)
      (L2.Q.pss_cons (L2.Q.ps_fldK (K' := K) (L2.Q.pv 0) (L2.Q.pv 3) rfl)
      (L2.Q.pss_cons (L2.Q.ps_fldK (K' := K) (L2.Q.pv 0) (L2.Q.pv 4) rfl)
      (L2.Q.pss_one (L2.Q.ps_fldK (K' := K) (L2.Q.pv 0) (L2.Q.pv 5) rfl)))))))) ?_
    refine rd_start (σ := [some (.ref x), some (.int ss.cap), some (.int ss.into), some (.int ss.out), some (.int ss.takes), some (.int ss.gives), none, none, none]) rfl ?_
    repeat walk_at "go"
    refine ⟨_, rfl, hg.cap.1, hg.cap.2, ?_⟩
    repeat walk_at "go"
    refine ⟨_, rfl, hg.into.1, hg.into.2, ?_⟩
    repeat walk_at "go"
    refine ⟨_, rfl, hg.out.1, hg.out.2, ?_⟩
    repeat walk_at "go"
    intro l1 n1
    repeat walk_at "go"
    refine ⟨_, _, rfl, .int _, ?_⟩
    rw [amt_of hg.takes]
    repeat walk_at "go"
    refine ⟨_, _, rfl, .int _, ?_⟩
    rw [amt_of hg.gives]
    repeat walk_at "go"
    intro l2 n2
    repeat walk_at "go"
    refine rd_addL (xs := [.bl true, .bl true, .bl true]) (zs := [.bl true, .bl true]) (Same.new n2 _ _ upd_same) upd_same (sz_le (by simp)) ?_
    intro l3 n3
    have s3 : Same H (upd (upd (upd H l1 (.lst [.bl true, .bl true, .bl true])) l2 (.lst [.bl true, .bl true])) l3 (.lst ([.bl true, .bl true, .bl true] ++ [.bl true, .bl true]))) := ((Same.new n1).trans (Same.new n2)).trans (Same.new n3)
    have e3 : (upd (upd (upd H l1 (.lst [.bl true, .bl true, .bl true])) l2 (.lst [.bl true, .bl true])) l3 (.lst ([.bl true, .bl true, .bl true] ++ [.bl true, .bl true]))) l3 = some (.lst [.bl true, .bl true, .bl true, .bl true, .bl true]) := upd_same
    generalize upd (upd (upd H l1 (.lst [.bl true, .bl true, .bl true])) l2 (.lst [.bl true, .bl true])) l3 (.lst ([.bl true, .bl true, .bl true] ++ [.bl true, .bl true])) = H3 at s3 e3 ⊢
    repeat walk_at "go"
    refine rd_en (SqL.of e3) ?_
    refine rf_enum (xs := [.bl true, .bl true, .bl true, .bl true, .bl true]) (fun i σ' H' => ∃ y z, σ' = [some (.ref x), some (.int ss.cap), some (.int ss.into), some (.int ss.out), some (.int ss.takes), some (.int ss.gives), some (.ref l1), y, z] ∧ Same H3 H')
      ⟨_, _, rfl, Same.refl _⟩ (fun i σ' H' hi ⟨y, z, e, s⟩ => SqL.of (s _ _ e3)) (fun i v σ' H' T hv ⟨y, z, e, s⟩ nT => ?_) (fun σ' H' ⟨y, z, e, s⟩ => ?_)
    · subst e
      have ev : v = .bl true := by
        have := List.mem_of_getElem? hv
        simpa using this
      subst ev
      refine rd_gtup (SqT.of upd_same) rfl ?_
      repeat walk_at "go"
      exact ⟨_, _, rfl, s.trans (Same.new nT)⟩
    · subst e
      have sH : Same H H' := s3.trans s
      have hx' := sH _ _ hx
      repeat walk_at "go"
      refine rd_put (fs' := [("cap", .int ss.cap)]) hx' tx.C_Store tx.n_Store_cap (by simp) rfl ?_
      repeat walk_at "go"
      refine rd_put (fs' := [("cap", .int ss.cap), ("into", .int ss.into)]) upd_same tx.C_Store tx.n_Store_into (by simp) rfl ?_
      rw [upd_upd]
      repeat walk_at "go"
      refine rd_put (fs' := [("cap", .int ss.cap), ("into", .int ss.into), ("out", .int ss.out)]) upd_same tx.C_Store tx.n_Store_out (by simp) rfl ?_
      rw [upd_upd]
      repeat walk_at "go"
      refine rd_put (fs' := [("cap", .int ss.cap), ("into", .int ss.into), ("out", .int ss.out), ("takes", .int ss.takes)]) upd_same tx.C_Store tx.n_Store_takes (by simp) rfl ?_
      rw [upd_upd]
      repeat walk_at "go"
      refine rd_put (fs' := sFs ss) upd_same tx.C_Store tx.n_Store_gives (by simp) rfl ?_
      rw [upd_upd]
      repeat walk_at "go"
      exact k _ ⟨dx, upd_same⟩ (sH.keep.trans Keep.upd)
theorem SomeAt.tr {H H' : Hp} {a : Addr} {s : SS} (h : SomeAt H a s) (e : Tr H H') : SomeAt H' a s := ⟨e _ _ h.at_ (nh_len (by simp))⟩
theorem StoreAt.tr {C : Addr} {H H' : Hp} {a : Addr} {s : SS} (h : StoreAt C H a s) (e : Tr H H') : StoreAt C H' a s := by
  obtain ⟨dx, q⟩ := h.ex
  exact ⟨dx, e _ _ q (nh_ins (by simp [sFs]))⟩
def StA (H : Hp) (q : Addr) (t : Int × Int) : Prop := H q = some (.tup [.int t.1, .int t.2])
structure StsAt (H : Hp) (t : Addr) (ss : List (Int × Int)) : Prop where
  ex : ∃ qs, H t = some (.tup (qs.map V.ref)) ∧ RL (StA H) qs ss
abbrev Ps := List (Int × Int) × Int
structure PosAt (H : Hp) (a : Addr) (P : Ps) : Prop where
  ex : ∃ t, H a = some (.tup [.ref t, .int P.2]) ∧ StsAt H t P.1
structure Hr where
  ons : List Int
  outs : List Int
  lev : Int
structure HrAt (H : Hp) (a : Addr) (h : Hr) : Prop where
  ex : ∃ t u, H a = some (.tup [.ref t, .ref u, .int h.lev]) ∧ H t = some (.tup (h.ons.map V.int)) ∧ H u = some (.tup (h.outs.map V.int))
structure PlanAt (H : Hp) (a : Addr) (hs : List Hr) : Prop where
  ex : ∃ qs, H a = some (.lst (qs.map V.ref)) ∧ RL (HrAt H) qs hs
structure PossAt (H : Hp) (a : Addr) (hs : List Ps) : Prop where
  ex : ∃ qs, H a = some (.lst (qs.map V.ref)) ∧ RL (PosAt H) qs hs
theorem StsAt.tk {H H' : Hp} {t : Addr} {ss : List (Int × Int)} (h : StsAt H t ss) (s : Tk H H') : StsAt H' t ss := by
  obtain ⟨qs, h1, h2⟩ := h.ex
  exact ⟨qs, s _ _ h1, h2.imp fun a x z => s _ _ z⟩
theorem PosAt.tk {H H' : Hp} {a : Addr} {P : Ps} (h : PosAt H a P) (s : Tk H H') : PosAt H' a P := by
  obtain ⟨t, h1, h2⟩ := h.ex
  exact ⟨t, s _ _ h1, h2.tk s⟩
theorem HrAt.tk {H H' : Hp} {a : Addr} {h : Hr} (x : HrAt H a h) (s : Tk H H') : HrAt H' a h := by
  obtain ⟨t, u, h1, h2, h3⟩ := x.ex
  exact ⟨t, u, s _ _ h1, s _ _ h2, s _ _ h3⟩
theorem PlanAt.tr {H H' : Hp} {a : Addr} {hs : List Hr} (x : PlanAt H a hs) (s : Tr H H') : PlanAt H' a hs := by
  obtain ⟨qs, h1, h2⟩ := x.ex
  exact ⟨qs, s _ _ h1 nh_refs, h2.imp fun a x z => z.tk s.tk⟩
theorem PossAt.tr {H H' : Hp} {a : Addr} {hs : List Ps} (x : PossAt H a hs) (s : Tr H H') : PossAt H' a hs := by
  obtain ⟨qs, h1, h2⟩ := x.ex
  exact ⟨qs, s _ _ h1 nh_refs, h2.imp fun a x z => z.tk s.tk⟩
structure WS where
  specs : List MS
  store : Option SS
  lack : Int
  x : Int
  y : Int
  wide : Int
structure WS.Good (W : WS) : Prop where
  specs : ∀ m ∈ W.specs, m.Good
  len : W.specs.length ≤ 6
  store : ∀ s, W.store = some s → s.Good
  lack : Am W.lack
  x : 1 ≤ W.x ∧ W.x ≤ 50000000000
  y : 1 ≤ W.y ∧ W.y ≤ 50000000000
  wide : W.wide = 0 ∨ W.wide = 1
structure SpecsAt (H : Hp) (l : Addr) (ms : List MS) : Prop where
  ex : ∃ qs, H l = some (.lst (qs.map V.ref)) ∧ RL (SpecAt H) qs ms
structure MachsAt (C : Addr) (H : Hp) (l : Addr) (ms : List MS) : Prop where
  ex : ∃ qs, H l = some (.lst (qs.map V.ref)) ∧ RL (MachAt C H) qs ms
def StoS (H : Hp) (v : V) : Option SS → Prop
  | none => v = .non
  | some s => ∃ a, v = .ref a ∧ SomeAt H a s
def StoO (C : Addr) (H : Hp) (v : V) : Option SS → Prop
  | none => v = .non
  | some s => ∃ a, v = .ref a ∧ StoreAt C H a s
theorem SpecsAt.tr {H H' : Hp} {l : Addr} {ms : List MS} (h : SpecsAt H l ms) (s : Tr H H') : SpecsAt H' l ms := by
  obtain ⟨qs, h1, h2⟩ := h.ex
  exact ⟨qs, s _ _ h1 nh_refs, h2.imp fun a x z => z.tr s⟩
theorem MachsAt.tr {C : Addr} {H H' : Hp} {l : Addr} {ms : List MS} (h : MachsAt C H l ms) (s : Tr H H') : MachsAt C H' l ms := by
  obtain ⟨qs, h1, h2⟩ := h.ex
  exact ⟨qs, s _ _ h1 nh_refs, h2.imp fun a x z => z.tr s⟩
theorem StoS.tr {H H' : Hp} {v : V} : ∀ {o : Option SS}, StoS H v o → Tr H H' → StoS H' v o
  | none, h, _ => h
  | some s, ⟨a, e, h⟩, t => ⟨a, e, h.tr t⟩
theorem StoO.tr {C : Addr} {H H' : Hp} {v : V} : ∀ {o : Option SS}, StoO C H v o → Tr H H' → StoO C H' v o
  | none, h, _ => h
  | some s, ⟨a, e, h⟩, t => ⟨a, e, h.tr t⟩
structure WSpecAt (H : Hp) (a : Addr) (W : WS) : Prop where
  ex : ∃ ls st b, H a = some (.lst [.ref ls, st, .int W.lack, .ref b, .int W.wide]) ∧ SpecsAt H ls W.specs ∧ StoS H st W.store ∧ H b = some (.lst [.int W.x, .int W.y])
theorem WSpecAt.tr {H H' : Hp} {a : Addr} {W : WS} (h : WSpecAt H a W) (s : Tr H H') : WSpecAt H' a W := by
  obtain ⟨ls, st, b, h1, h2, h3, h4⟩ := h.ex
  exact ⟨ls, st, b, s _ _ h1 (nh_len (by simp)), h2.tr s, h3.tr s, s _ _ h4 (nh_len (by simp))⟩
def wFs (lm : Addr) (st : V) (k : Int) : List (Str × V) := [("machines", .ref lm), ("store", st), ("lack", .int k)]
structure WorksAt (CW CM CS : Addr) (H : Hp) (w : Addr) (W : WS) : Prop where
  ex : ∃ dx lm st, H w = some (.ins CW dx (wFs lm st W.lack)) ∧ MachsAt CM H lm W.specs ∧ StoO CS H st W.store
theorem WorksAt.tr {CW CM CS : Addr} {H H' : Hp} {w : Addr} {W : WS} (h : WorksAt CW CM CS H w W) (s : Tr H H') : WorksAt CW CM CS H' w W := by
  obtain ⟨dx, lm, st, h1, h2, h3⟩ := h.ex
  exact ⟨dx, lm, st, s _ _ h1 (nh_ins (by simp [wFs])), h2.tr s, h3.tr s⟩
def VS (s : Int × Int) : Prop := Bit s.1 ∧ 0 ≤ s.2
def aftL : List MS → List (Int × Int) → List Int → List (Int × Int)
  | m :: ms, s :: ss, o :: os => aft m s.1 s.2 o :: aftL ms ss os
  | _, _, _ => []
theorem aftL_len : ∀ {ms : List MS} {ss : List (Int × Int)} {os : List Int}, ss.length = ms.length → os.length = ms.length → (aftL ms ss os).length = ms.length
  | [], _, _, _, _ => by simp [aftL]
  | m :: ms, s :: ss, o :: os, h1, h2 => by
    show (aft m s.1 s.2 o :: aftL ms ss os).length = _
    rw [List.length_cons, aftL_len (by simpa using h1) (by simpa using h2), List.length_cons]
  | _ :: _, [], _, h, _ => by cases h
  | _ :: _, _ :: _, [], _, h => by cases h
theorem aftL_get : ∀ {ms : List MS} {ss : List (Int × Int)} {os : List Int} {j : Nat} {m : MS} {s : Int × Int} {o : Int}, ms[j]? = some m → ss[j]? = some s → os[j]? = some o → (aftL ms ss os)[j]? = some (aft m s.1 s.2 o)
  | m :: ms, s :: ss, o :: os, 0, _, _, _, h1, h2, h3 => by cases h1; cases h2; cases h3; rfl
  | m :: ms, s :: ss, o :: os, j + 1, _, _, _, h1, h2, h3 => by
    show (aftL ms ss os)[j]? = _
    exact aftL_get h1 h2 h3
  | [], _, _, _, _, _, _, h, _, _ => by simp at h
  | _ :: _, [], _, _, _, _, _, _, h, _ => by simp at h
  | _ :: _, _ :: _, [], _, _, _, _, _, _, h => by simp at h
def May (ss : List (Int × Int)) (os : List Int) : Prop := ∀ (j : Nat) (s : Int × Int) (o : Int), ss[j]? = some s → os[j]? = some o → s.1 = o ∨ s.2 = 0
def LevOk (W : WS) (l : Int) : Prop := match W.store with | none => l = 0 | some s => 0 ≤ l ∧ l ≤ s.cap
def LvW (W : WS) (l n : Int) : Prop := match W.store with | none => n = 0 | some s => Lv s l n
structure PosOk (W : WS) (P : Ps) : Prop where
  len : P.1.length = W.specs.length
  vs : ∀ s ∈ P.1, VS s
  lev : LevOk W P.2
def OutOk (m : MS) (on out : Int) : Prop := (on = 0 → out = 0) ∧ (on ≠ 0 → m.least ≤ out ∧ out ≤ m.least + sumA m.pieces)
structure HourOk (W : WS) (P : Ps) (h : Hr) : Prop where
  ons : h.ons.length = W.specs.length
  outs : h.outs.length = W.specs.length
  bits : ∀ o ∈ h.ons, Bit o
  may : May P.1 h.ons
  out : ∀ (j : Nat) m on out, W.specs[j]? = some m → h.ons[j]? = some on → h.outs[j]? = some out → OutOk m on out
  lev : LvW W P.2 h.lev
def nxt (W : WS) (P : Ps) (h : Hr) : Ps := (aftL W.specs P.1 h.ons, h.lev)
theorem LvW.ok {W : WS} {l n : Int} (h : LvW W l n) : LevOk W n := by
  unfold LvW at h
  unfold LevOk
  cases e : W.store with
  | none => rw [e] at h; exact h
  | some s => rw [e] at h; exact ⟨h.1, h.2.1⟩
theorem HourOk.nxt {W : WS} {P : Ps} {h : Hr} (g : W.Good) (p : PosOk W P) (x : HourOk W P h) : PosOk W (nxt W P h) := by
  refine ⟨aftL_len p.len x.ons, fun s hs => ?_, x.lev.ok⟩
  obtain ⟨j, hj⟩ := List.getElem?_of_mem hs
  have hl := aftL_len p.len x.ons
  have hj' : j < W.specs.length := by rw [← hl]; exact (List.getElem?_eq_some_iff.mp hj).1
  have g1 : W.specs[j]? = some W.specs[j] := List.getElem?_eq_getElem hj'
  have g2 : P.1[j]? = some (P.1[j]'(by rw [p.len]; exact hj')) := List.getElem?_eq_getElem _
  have g3 : h.ons[j]? = some (h.ons[j]'(by rw [x.ons]; exact hj')) := List.getElem?_eq_getElem _
  replace hj : (aftL W.specs P.1 h.ons)[j]? = some s := hj
  rw [aftL_get g1 g2 g3] at hj
  cases hj
  exact aft_ok (g.specs _ (List.getElem_mem hj')) (x.bits _ (List.mem_of_getElem? g3))
def PlanOk (W : WS) : Ps → List Hr → Prop
  | _, [] => True
  | P, h :: hs => HourOk W P h ∧ PlanOk W (nxt W P h) hs
def endP (W : WS) : Ps → List Hr → Ps
  | P, [] => P
  | P, h :: hs => endP W (nxt W P h) hs
theorem PlanOk.snoc {W : WS} : ∀ {P : Ps} {hs : List Hr} {h : Hr}, PlanOk W P hs → HourOk W (endP W P hs) h → PlanOk W P (hs ++ [h])
  | _, [], _, _, x => ⟨x, trivial⟩
  | P, g :: hs, h, p, x => ⟨p.1, PlanOk.snoc p.2 x⟩
theorem PlanOk.pos {W : WS} (g : W.Good) : ∀ {P : Ps} {hs : List Hr}, PosOk W P → PlanOk W P hs → PosOk W (endP W P hs)
  | _, [], p, _ => p
  | P, h :: hs, p, x => PlanOk.pos (P := nxt W P h) (hs := hs) g (x.1.nxt g p) x.2
theorem PlanOk.take {W : WS} : ∀ {P : Ps} {hs : List Hr} {i : Nat} {h : Hr}, PlanOk W P hs → hs[i]? = some h → PlanOk W P (hs.take i) ∧ HourOk W (endP W P (hs.take i)) h
  | P, g :: hs, 0, h, x, e => by cases e; exact ⟨trivial, x.1⟩
  | P, g :: hs, i + 1, h, x, e => by
    have := PlanOk.take (i := i) (h := h) x.2 e
    exact ⟨⟨x.1, this.1⟩, this.2⟩
  | _, [], _, _, _, e => by simp at e
theorem take_snoc {α : Type} {l : List α} {i : Nat} {x : α} (h : l[i]? = some x) : l.take (i + 1) = l.take i ++ [x] := by
  rw [List.take_add_one, h]; rfl
theorem RL.get {α : Type} {P : Addr → α → Prop} {as : List Addr} {xs : List α} (h : RL P as xs) {i : Nat} {v : V} (hv : (as.map V.ref)[i]? = some v) : ∃ a x, as[i]? = some a ∧ v = .ref a ∧ xs[i]? = some x ∧ P a x := by
  rw [List.getElem?_map] at hv
  cases hq : as[i]? with
  | none => rw [hq] at hv; cases hv
  | some a =>
    rw [hq] at hv
    cases hv
    have li : i < xs.length := by rw [← h.len]; exact (List.getElem?_eq_some_iff.mp hq).1
    have hx : xs[i]? = some xs[i] := List.getElem?_eq_getElem li
    exact ⟨a, xs[i], rfl, rfl, hx, h.at_ i a _ hq hx⟩
theorem keep_fresh {H H1 H2 : Hp} {p : Addr} (np : H p = none) (s : Same H H1) (k : Keep p H1 H2) : Same H H2 := fun b o e => k _ _ (s _ _ e) (ne_none np e)
theorem same_upd {H H1 : Hp} {l : Addr} {o : HO} (n : H l = none) (s : Same H H1) : Same H (upd H1 l o) := fun b u e => by rw [upd_ne (ne_none n e)]; exact s b u e
theorem at_last {xs : List V} (x : V) : atI (xs ++ [x]) (-1) = some x := by
  have e : ixN (xs ++ [x]).length (-1) = some xs.length := by
    unfold ixN
    rw [if_neg (by omega), if_pos (by rw [List.length_append, List.length_singleton]; omega)]
    congr 1
    rw [List.length_append, List.length_singleton]
    omega
  unfold atI
  rw [e]
  simp
theorem RL.last {α : Type} {P : Addr → α → Prop} {as : List Addr} {xs : List α} {x : α} (h : RL P as (xs ++ [x])) : ∃ bs b, as = bs ++ [b] ∧ P b x := by
  have hl := h.len
  rw [List.length_append, List.length_singleton] at hl
  have hlt : xs.length < as.length := by omega
  refine ⟨as.take xs.length, as[xs.length], ?_, h.at_ xs.length _ _ (List.getElem?_eq_getElem hlt) (by simp)⟩
  have e := List.take_append_drop xs.length as
  rw [List.drop_eq_getElem_cons hlt, List.drop_of_length_le (by omega)] at e
  exact e.symm
theorem RL.take {α : Type} {P : Addr → α → Prop} {as : List Addr} {xs : List α} (h : RL P as xs) (i : Nat) : RL P (as.take i) (xs.take i) := by
  refine ⟨by rw [List.length_take, List.length_take, h.len], fun j a x h1 h2 => ?_⟩
  rw [List.getElem?_take] at h1 h2
  split at h1
  · rename_i hj
    rw [if_pos hj] at h2
    exact h.at_ j a x h1 h2
  · cases h1
theorem RL.drop {α : Type} {P : Addr → α → Prop} {as : List Addr} {xs : List α} (h : RL P as xs) (i : Nat) : RL P (as.drop i) (xs.drop i) := by
  refine ⟨by rw [List.length_drop, List.length_drop, h.len], fun j a x h1 h2 => ?_⟩
  rw [List.getElem?_drop] at h1 h2
  exact h.at_ _ a x h1 h2
def sp_are_machines (K : PySem.W.Frag) (C : Addr) : Sp := fun vs H Q _ => ∃ (p : Addr) (ms : List MS), vs = [.ref p] ∧ MachsAt C H p ms ∧ ms.length ≤ 6 ∧ ∀ H', Same H H' → Q (.bl true) H'
set_option maxHeartbeats 40000000 in
theorem ok_are_machines {P : Program} {w : World} {K : PySem.W.Frag} {mg : Str → Option Value} {base : Heap} {a : Adr} (tx : Txt K mg a) : FnOk P w K mg base CX0 1 a.f_are_machines a.d_are_machines ["thing"] (sp_are_machines K a.c_Machine) := by
  refine tx.F_are_machines.ok sc_are_machines (fun vs H Q E h => ?_) (fun cdv A outer s H vs Q E hr h => ?_)
  · obtain ⟨p, ms, rfl, _⟩ := h
    rfl
  · obtain ⟨p, ms, rfl , hp, hl, k⟩ := h
    have hu := hu9 hr
    refine L2.Q.root (L2.Q.pss_cons (L2.Q.ps_if (L2.Q.pw_pt (L2.Q.pw_or (L2.Q.pt_not (L2.Q.pt_val (L2.Q.pe_callBN (rc := rIsi K) call_isiG (by rfl) tx.z_isinstance bt_isinstance (L2.Q.pa_c (L2.Q.pv 0) (L2.Q.pa_c (L2.Q.pe_bltn (v := .ty "list") (by rfl) tx.z_list bt_list rfl) L2.Q.pa_nil))))) (L2.Q.pw_or1 (L2.Q.pt_cmpR op_gt (L2.Q.pe_callBN (rc := rLen K) call_lenG (by rfl) tx.z_len bt_len (L2.Q.pa_c (L2.Q.pv 0) L2.Q.pa_nil)) (L2.Q.pe_gint (n := 6) (by rfl) tx.v_MOST_MACHINES) (nomark _))))) (L2.Q.pss_one (L2.Q.ps_ret L2.Q.pe_bl)) L2.Q.pss_nil)
      (L2.Q.pss_one (L2.Q.ps_ret (L2.Q.pe_callBN (rc := rAll K) (call_allG rfl) (by rfl) tx.z_all bt_all (L2.Q.pa_c (L2.Q.pe_comp (k := 1) (idx := []) (N := ["machine"]) (blk_sc (sc := defScope s_are_machines) (NX := ["thing"]) rfl rfl rfl (by decide +kernel)) rfl (L2.Q.pi_listK (K' := K) (L2.Q.pv 0)) (fun _ _ _ _ => (L2.Q.pg_name (i := 0) (show (["machine"] : List Str).Nodup by decide +kernel) rfl (Or.inl rfl))) (own_name (by decide)) (fun _ _ _ _ => L2.Q.pts_nil) (fun _ _ _ _ => (L2.Q.pe_callBN (rc := rIsi K) call_isiG (by rfl) tx.z_isinstance bt_isinstance (L2.Q.pa_c (L2.Q.pv 0) (L2.Q.pa_c (L2.Q.pe_glob (v := .ref a.c_Machine) (by rfl) tx.g_Machine rfl) L2.Q.pa_nil))))) L2.Q.pa_nil))))) ?_
    obtain ⟨qs, h1, h2⟩ := hp.ex
    have hql : qs.length ≤ 6 := by rw [h2.len]; exact hl
    refine rd_start (σ := [some (.ref p)]) rfl ?_
    repeat walk_at "go"
    refine rd_isi (isi_list (.lst h1)) ?_
    repeat walk_at "go"
    refine rd_bool (fun h => by simp at h) (fun _ => ?_)
    repeat walk_at "go"
    refine rd_dec (fun h => by rw [List.length_map] at h; omega) (fun _ => ?_)
    repeat walk_at "go"
    refine rd_li (SqL.of h1) ?_
    refine comp_pure (fun _ => .bl true) (SqL.of h1) (sz_le (by rw [List.length_map]; omega)) (fun x N N' hxm hN => ?_) ?_
    · obtain ⟨i, hi⟩ := List.getElem?_of_mem hxm
      obtain ⟨q, m, _, rfl, _, hm⟩ := h2.get hi
      obtain ⟨dx, pl, hx, _⟩ := hm.ex
      repeat walk_at "go"
      refine rd_isi (isi_own tx.i_Machine tx.C_Machine hx) ?_
      exact hN
    · intro l1 n1
      repeat walk_at "go"
      refine rd_allT (SqL.of upd_same) (fun x hx => by obtain ⟨_, _, rfl⟩ := List.mem_map.mp hx; rfl) ?_
      exact k _ (Same.new n1)
def sp_Works_init (K : PySem.W.Frag) (CW CM CS : Addr) : Sp := fun vs H Q _ => ∃ (x dx lm : Addr) (st : V) (W : WS), vs = [.ref x, .ref lm, st, .int W.lack] ∧ H x = some (.ins CW dx []) ∧ MachsAt CM H lm W.specs ∧ StoO CS H st W.store ∧ W.specs.length ≤ 6 ∧ Am W.lack ∧
  ∀ H', WorksAt CW CM CS H' x W → Keep x H H' → Q .non H'
set_option maxHeartbeats 40000000 in
theorem ok_Works_init {P : Program} {w : World} {K : PySem.W.Frag} {mg : Str → Option Value} {base : Heap} {a : Adr} (tx : Txt K mg a) : FnOk P w K mg base CX0 3 a.f_Works_init a.d_Works_init ["self", "machines", "store", "lack"] (sp_Works_init K a.c_Works a.c_Machine a.c_Store) := by
  have G_are_machines := ok_are_machines (P := P) (w := w) (base := base) tx
  have G_is_amount := ok_is_amount (P := P) (w := w) (base := base) tx
  refine tx.F_Works_init.ok sc_Works_init (fun vs H Q E h => ?_) (fun cdv A outer s H vs Q E hr h => ?_)
  · obtain ⟨x, dx, lm, st, W, rfl, _⟩ := h
    rfl
  · obtain ⟨x, dx, lm, st, W, rfl , hx, hm, hs, hl, ha, k⟩ := h
    have hu := hu9 hr
    refine L2.Q.root (L2.Q.pss_cons (L2.Q.ps_set (i := 4) sc_Works_init.nd rfl (Or.inl rfl) (L2.Q.pe_or (L2.Q.pe_cmpR op_isG (L2.Q.pv 2) L2.Q.pe_non (nomark _)) (L2.Q.pe_one (L2.Q.pe_callBN (rc := rIsi K) call_isiG (by rfl) tx.z_isinstance bt_isinstance (L2.Q.pa_c (L2.Q.pv 2) (L2.Q.pa_c (L2.Q.pe_glob (v := .ref a.c_Store) (by rfl) tx.g_Store rfl) L2.Q.pa_nil))))))
      (L2.Q.pss_cons (L2.Q.ps_for PassesOwn.never rfl (L2.Q.pi_enumK (K' := K) (by rfl) tx.z_enumerate (L2.Q.pa_c (L2.Q.lst3 (L2.Q.pe_callN (G_are_machines) (hr.mono (by decide)) (by rfl) tx.g_are_machines tx.F_are_machines.kp tx.b_are_machines .nil pass0 (L2.Q.pa_c (L2.Q.pv 1) L2.Q.pa_nil)) (L2.Q.pv 4) (L2.Q.pe_callN (G_is_amount) (hr.mono (by decide)) (by rfl) tx.g_is_amount tx.F_is_amount.kp tx.b_is_amount .nil pass0 (L2.Q.pa_c (L2.Q.pv 3) L2.Q.pa_nil))) L2.Q.pa_nil)) (L2.Q.pg_tupK (K' := K) (n := 2) rfl (L2.Q.pgs_cons (L2.Q.pg_name (i := 5) sc_Works_init.nd rfl (Or.inl rfl)) (L2.Q.pgs_cons (L2.Q.pg_name (i := 6) sc_Works_init.nd rfl (Or.inl rfl)) L2.Q.pgs_nil))) (L2.Q.pss_one (L2.Q.ps_if (L2.Q.pt_not (L2.Q.pt_val (L2.Q.pv 6))) (L2.Q.pss_one L2.Q.ps_never) L2.Q.pss_nil)))
      (L2.Q.pss_cons (L2.Q.ps_fldK (K' := K) (L2.Q.pv 0) (L2.Q.pe_callTyN (rc := rListOf K) call_listG (by rfl) tx.z_list bt_list (L2.Q.pa_c (L2.Q.pv 1) L2.Q.pa_nil)) rfl)
      (L2.Q.pss_cons (L2.Q.ps_fldK (K' := K) (L2.Q.pv 0) (L2.Q.pv 2) rfl)
      (L2.Q.pss_one (L2.Q.ps_fldK (K' := K) (L2.Q.pv 0) (L2.Q.pv 3) rfl)))))) ?_
    refine rd_start (σ := [some (.ref x), some (.ref lm), some st, some (.int W.lack), none, none, none]) rfl ?_
    refine rd_seqJ (fun σ' H' => σ' = [some (.ref x), some (.ref lm), some st, some (.int W.lack), some (.bl true), none, none] ∧ H' = H) (fun N hN => ?_) ?_
    · cases e : W.store with
      | none =>
        rw [e] at hs
        replace hs : st = .non := hs
        subst hs
        repeat walk_at "go"
        exact hN _ _ ⟨rfl, rfl⟩
      | some s =>
        rw [e] at hs
        obtain ⟨b, rfl, hb⟩ := hs
        obtain ⟨db, hb'⟩ := hb.ex
        repeat walk_at "go"
        refine rd_isi (isi_own tx.i_Store tx.C_Store hb') ?_
        repeat walk_at "go"
        exact hN _ _ ⟨rfl, rfl⟩
    rintro σ' H' ⟨rfl, rfl⟩
    repeat walk_at "go"
    refine ⟨lm, W.specs, rfl, hm, hl, fun H1 s1 => ?_⟩
    repeat walk_at "go"
    refine ⟨_, _, rfl, .int _, ?_⟩
    rw [amt_of ha]
    repeat walk_at "go"
    intro l1 n1
    repeat walk_at "go"
    have s2 := s1.trans (Same.new (o := .lst [.bl true, .bl true, .bl true]) n1)
    have e2 : (upd H1 l1 (.lst [.bl true, .bl true, .bl true])) l1 = some (.lst [.bl true, .bl true, .bl true]) := upd_same
    generalize upd H1 l1 (.lst [.bl true, .bl true, .bl true]) = H2 at s2 e2 ⊢
    refine rd_en (SqL.of e2) ?_
    refine rf_enum (xs := [.bl true, .bl true, .bl true]) (fun i σ' H3 => ∃ y z, σ' = [some (.ref x), some (.ref lm), some st, some (.int W.lack), some (.bl true), y, z] ∧ Same H2 H3)
      ⟨_, _, rfl, Same.refl _⟩ (fun i σ' H3 hi ⟨y, z, e, s⟩ => SqL.of (s _ _ e2)) (fun i v σ' H3 T hv ⟨y, z, e, s⟩ nT => ?_) (fun σ' H3 ⟨y, z, e, s⟩ => ?_)
    · subst e
      have ev : v = .bl true := by
        have := List.mem_of_getElem? hv
        simpa using this
      subst ev
      refine rd_gtup (SqT.of upd_same) rfl ?_
      repeat walk_at "go"
      exact ⟨_, _, rfl, s.trans (Same.new nT)⟩
    · subst e
      have sH : Same H' H3 := s2.trans s
      have hx' := sH _ _ hx
      obtain ⟨qs, p1, p2⟩ := (hm.tr sH.tr).ex
      repeat walk_at "go"
      refine rd_listL (ys := qs.map V.ref) (SqL.of p1) ?_
      intro l9 n9
      have s9 := Same.new (o := .lst (qs.map V.ref)) n9
      have x9 := s9 _ _ hx'
      repeat walk_at "go"
      refine rd_put (fs' := [("machines", .ref l9)]) x9 tx.C_Works tx.n_Works_machines (by simp) rfl ?_
      repeat walk_at "go"
      refine rd_put (fs' := [("machines", .ref l9), ("store", st)]) upd_same tx.C_Works tx.n_Works_store (by simp) rfl ?_
      rw [upd_upd]
      repeat walk_at "go"
      refine rd_put (fs' := wFs l9 st W.lack) upd_same tx.C_Works tx.n_Works_lack (by simp) rfl ?_
      rw [upd_upd]
      repeat walk_at "go"
      have kx : Keep x (upd H3 l9 (.lst (qs.map V.ref))) (upd (upd H3 l9 (.lst (qs.map V.ref))) x (.ins a.c_Works dx (wFs l9 st W.lack))) := Keep.upd
      have t9 : Tr H3 (upd (upd H3 l9 (.lst (qs.map V.ref))) x (.ins a.c_Works dx (wFs l9 st W.lack))) := s9.tr.trans (ins_tr x9 kx)
      have l9x : l9 ≠ x := Ne.symm (ne_none n9 hx')
      refine k _ ⟨dx, l9, st, upd_same, ⟨qs, kx _ _ upd_same l9x, p2.imp fun _ _ z => z.tr t9⟩, hs.tr (sH.tr.trans t9)⟩ (fun b o e nb => kx _ _ (s9 _ _ (sH _ _ e)) nb)
def ErrB (H : Hp) (e C : Addr) : Prop := H e = some (ErrO C none e)
theorem err_set0 {H : Hp} {x C : Addr} {a : HO} (nx : H x = none) : Same H (upd (upd H x a) x (ErrO C none x)) ∧ ErrB (upd (upd H x a) x (ErrO C none x)) x C := by
  refine ⟨fun b o e => ?_, upd_same⟩
  have hb : b ≠ x := fun z => by rw [z, nx] at e; cases e
  rw [upd_ne hb, upd_ne hb]
  exact e
def sp__law_want (K : PySem.W.Frag) : Sp := fun vs H Q _ => ∃ (p b : Addr) (x y : Int), vs = [.ref p, .ref b] ∧ HandAt H p ∧ H b = some (.lst [.int x, .int y]) ∧ ∀ (n : Int) H', HandAt H' p → Keep p H H' → SameQ p H H' → Q (.int n) H'
set_option maxHeartbeats 40000000 in
theorem ok__law_want {P : Program} {w : World} {K : PySem.W.Frag} {mg : Str → Option Value} {base : Heap} {a : Adr} (tx : Txt K mg a) : FnOk P w K mg base CX0 2 a.f__law_want a.d__law_want ["_law_hand", "_law_by"] (sp__law_want K) := by
  have G__law_draw := ok__law_draw (P := P) (w := w) (base := base) tx
  refine tx.F__law_want.ok sc__law_want (fun vs H Q E h => ?_) (fun cdv A outer s H vs Q E hr h => ?_)
  · obtain ⟨p, b, x, y, rfl, _⟩ := h
    rfl
  · obtain ⟨p, b, x, y, rfl , hh, hb, k⟩ := h
    have hu := hu9 hr
    refine L2.Q.root (L2.Q.pss_one (L2.Q.ps_ret (L2.Q.pe_op op_addG (L2.Q.pe_op op_mulG (L2.Q.pe_ixK (K' := K) (L2.Q.pv 1) L2.Q.pe_int (fun _ _ => rfl)) (L2.Q.pe_callN (G__law_draw) (hr.mono (by decide)) (by rfl) tx.g__law_draw tx.F__law_draw.kp tx.b__law_draw .nil pass0 (L2.Q.pa_c (L2.Q.pv 0) (L2.Q.pa_c L2.Q.pe_int L2.Q.pa_nil)))) (L2.Q.pe_callN (G__law_draw) (hr.mono (by decide)) (by rfl) tx.g__law_draw tx.F__law_draw.kp tx.b__law_draw .nil pass0 (L2.Q.pa_c (L2.Q.pv 0) (L2.Q.pa_c L2.Q.pe_int L2.Q.pa_nil)))))) ?_
    refine rd_start (σ := [some (.ref p), some (.ref b)]) rfl ?_
    repeat walk_at "go"
    refine ⟨p, _, rfl, hh, by decide, by decide, fun r1 H1 a1 b1 h1 k1 q1 => ?_⟩
    repeat walk_at "go"
    refine ⟨p, _, rfl, h1, by decide, by decide, fun r2 H2 a2 b2 h2 k2 q2 => ?_⟩
    repeat walk_at "go"
    exact k _ _ h2 (k1.trans k2) (q1.trans q2)
def sp__law_store (K : PySem.W.Frag) : Sp := fun vs H Q _ => ∃ (p b : Addr) (x y : Int), vs = [.ref p, .ref b] ∧ HandAt H p ∧ H b = some (.lst [.int x, .int y]) ∧ 1 ≤ x ∧ x ≤ 50000000000 ∧
  ∀ v (o : Option SS) H', StoS H' v o → (∀ s, o = some s → s.Good) → (∀ c, v = .ref c → H c = none) → HandAt H' p → Keep p H H' → SameQ p H H' → Q v H'
set_option maxHeartbeats 40000000 in
theorem ok__law_store {P : Program} {w : World} {K : PySem.W.Frag} {mg : Str → Option Value} {base : Heap} {a : Adr} (tx : Txt K mg a) : FnOk P w K mg base CX0 2 a.f__law_store a.d__law_store ["_law_hand", "_law_by"] (sp__law_store K) := by
  have G__law_draw := ok__law_draw (P := P) (w := w) (base := base) tx
  refine tx.F__law_store.ok sc__law_store (fun vs H Q E h => ?_) (fun cdv A outer s H vs Q E hr h => ?_)
  · obtain ⟨p, b, x, y, rfl, _⟩ := h
    rfl
  · obtain ⟨p, b, x, y, rfl , hh, hb, x0, x1, k⟩ := h
    have hu := hu9 hr
    refine L2.Q.root (L2.Q.pss_cons (L2.Q.ps_if (L2.Q.pt_cmpR (r := rEqG K) (op_eqG hu) (L2.Q.pe_callN (G__law_draw) (hr.mono (by decide)) (by rfl) tx.g__law_draw tx.F__law_draw.kp tx.b__law_draw .nil pass0 (L2.Q.pa_c (L2.Q.pv 0) (L2.Q.pa_c L2.Q.pe_int L2.Q.pa_nil))) L2.Q.pe_int (nomark _)) (L2.Q.pss_one (L2.Q.ps_ret L2.Q.pe_non)) L2.Q.pss_nil)
      (L2.Q.pss_cons (L2.Q.ps_set (i := 2) sc__law_store.nd rfl (Or.inl rfl) (L2.Q.pe_op op_mulG (L2.Q.pe_ixK (K' := K) (L2.Q.pv 1) L2.Q.pe_int (fun _ _ => rfl)) (L2.Q.pe_callN (G__law_draw) (hr.mono (by decide)) (by rfl) tx.g__law_draw tx.F__law_draw.kp tx.b__law_draw .nil pass0 (L2.Q.pa_c (L2.Q.pv 0) (L2.Q.pa_c L2.Q.pe_int L2.Q.pa_nil)))))
      (L2.Q.pss_cons (L2.Q.ps_set (i := 3) sc__law_store.nd rfl (Or.inl rfl) (L2.Q.pe_op op_addG (L2.Q.pv 2) (L2.Q.pe_op op_mulG (L2.Q.pe_ixK (K' := K) (L2.Q.pv 1) L2.Q.pe_int (fun _ _ => rfl)) (L2.Q.pe_callN (G__law_draw) (hr.mono (by decide)) (by rfl) tx.g__law_draw tx.F__law_draw.kp tx.b__law_draw .nil pass0 (L2.Q.pa_c (L2.Q.pv 0) (L2.Q.pa_c L2.Q.pe_int L2.Q.pa_nil))))))
      (L2.Q.pss_cons (L2.Q.ps_if (L2.Q.pt_cmpR (r := rEqG K) (op_eqG hu) (L2.Q.pe_callN (G__law_draw) (hr.mono (by decide)) (by rfl) tx.g__law_draw tx.F__law_draw.kp tx.b__law_draw .nil pass0 (L2.Q.pa_c (L2.Q.pv 0) (L2.Q.pa_c L2.Q.pe_int L2.Q.pa_nil))) L2.Q.pe_int (nomark _)) (L2.Q.pss_one (L2.Q.ps_par (i := 3) (j := 2) rfl sc__law_store.nd rfl rfl (by decide) rfl rfl (L2.Q.pa_c (L2.Q.pv 2) (L2.Q.pa_c (L2.Q.pv 3) L2.Q.pa_nil)))) L2.Q.pss_nil)
      (L2.Q.pss_one (L2.Q.ps_ret (L2.Q.lst5 (L2.Q.pe_callN (G__law_draw) (hr.mono (by decide)) (by rfl) tx.g__law_draw tx.F__law_draw.kp tx.b__law_draw .nil pass0 (L2.Q.pa_c (L2.Q.pv 0) (L2.Q.pa_c L2.Q.pe_int L2.Q.pa_nil))) (L2.Q.pe_callN (G__law_draw) (hr.mono (by decide)) (by rfl) tx.g__law_draw tx.F__law_draw.kp tx.b__law_draw .nil pass0 (L2.Q.pa_c (L2.Q.pv 0) (L2.Q.pa_c L2.Q.pe_int L2.Q.pa_nil))) (L2.Q.pe_callN (G__law_draw) (hr.mono (by decide)) (by rfl) tx.g__law_draw tx.F__law_draw.kp tx.b__law_draw .nil pass0 (L2.Q.pa_c (L2.Q.pv 0) (L2.Q.pa_c L2.Q.pe_int L2.Q.pa_nil))) (L2.Q.pv 3) (L2.Q.pv 2)))))))) ?_
    have bp : b ≠ p := hh.nlen hb (by simp)
    refine rd_start (σ := [some (.ref p), some (.ref b), none, none]) rfl ?_
    repeat walk_at "go"
    refine ⟨p, _, rfl, hh, by decide, by decide, fun r1 H1 a1 b1 h1 k1 q1 => ?_⟩
    have hb1 := k1 _ _ hb bp
    repeat walk_at "go"
    refine rd_dec (fun h => ?_) (fun h => ?_)
    · repeat walk_at "go"
      exact k _ none _ rfl (fun s e => by cases e) (fun c e => by cases e) h1 k1 q1
    · repeat walk_at "go"
      refine ⟨p, _, rfl, h1, by decide, by decide, fun r2 H2 a2 b2 h2 k2 q2 => ?_⟩
      have hb2 := k2 _ _ hb1 bp
      repeat walk_at "go"
      refine ⟨p, _, rfl, h2, by decide, by decide, fun r3 H3 a3 b3 h3 k3 q3 => ?_⟩
      have g2 : 0 ≤ x * r2 ∧ x * r2 ≤ 150000000000 := ⟨Int.mul_nonneg (by omega) (by omega), Int.le_trans (Int.mul_le_mul_of_nonneg_left (show r2 ≤ 3 by omega) (by omega)) (by omega)⟩
      have g3 : 0 ≤ x * r3 ∧ x * r3 ≤ 50000000000 := ⟨Int.mul_nonneg (by omega) (by omega), Int.le_trans (Int.mul_le_mul_of_nonneg_left (show r3 ≤ 1 by omega) (by omega)) (by omega)⟩
      repeat walk_at "st"
      refine rd_seqJ (fun σ' H' => ∃ g t : Int, σ' = [some (.ref p), some (.ref b), some (.int g), some (.int t)] ∧ Am g ∧ Am t ∧ HandAt H' p ∧ Keep p H H' ∧ SameQ p H H') (fun N hN => ?_) ?_
      · repeat walk_at "go"
        refine ⟨p, _, rfl, h3, by decide, by decide, fun r4 H4 a4 b4 h4 k4 q4 => ?_⟩
        repeat walk_at "go"
        refine rd_dec (fun h => ?_) (fun h => ?_)
        · repeat walk_at "go"
          refine ⟨_, _, rfl, ?_⟩
          exact hN _ _ ⟨_, _, rfl, ⟨by omega, by omega⟩, ⟨by omega, by omega⟩, h4, k1.trans (k2.trans (k3.trans k4)), q1.trans (q2.trans (q3.trans q4))⟩
        · repeat walk_at "go"
          exact hN _ _ ⟨_, _, rfl, ⟨by omega, by omega⟩, ⟨by omega, by omega⟩, h4, k1.trans (k2.trans (k3.trans k4)), q1.trans (q2.trans (q3.trans q4))⟩
      · rintro σ' H4 ⟨g, t, rfl, hg, ht, h4, k4, q4⟩
        repeat walk_at "go"
        refine ⟨p, _, rfl, h4, by decide, by decide, fun r5 H5 a5 b5 h5 k5 q5 => ?_⟩
        repeat walk_at "go"
        refine ⟨p, _, rfl, h5, by decide, by decide, fun r6 H6 a6 b6 h6 k6 q6 => ?_⟩
        repeat walk_at "go"
        refine ⟨p, _, rfl, h6, by decide, by decide, fun r7 H7 a7 b7 h7 k7 q7 => ?_⟩
        repeat walk_at "go"
        intro c nc
        have kk := k4.trans (k5.trans (k6.trans k7))
        have qq := q4.trans (q5.trans (q6.trans q7))
        refine k (.ref c) (some ⟨r5, r6, r7, t, g⟩) _ ⟨c, rfl, ⟨upd_same⟩⟩ (fun s e => ?_) (fun c' e => by cases e; exact fresh_of kk h7 nc) (h7.same (Same.new nc)) (kk.trans (Same.new nc).keep) (qq.trans (SameQ.of (Same.new nc p)))
        cases e
        exact ⟨⟨a5, by show r5 ≤ 8; omega⟩, ⟨a6, by show r6 ≤ 8; omega⟩, ⟨a7, by show r7 ≤ 8; omega⟩, ht, hg⟩
theorem rd_pop {l : Addr} {xs : List V} {y : V} {H : Hp} {Q : VK} (h : H l = some (.lst (xs ++ [y]))) (q : Q y (upd H l (.lst xs))) : rPop (.ref l) [] H Q := ⟨l, _, y, rfl, rfl, h, by simp, by rw [List.dropLast_concat]; exact q⟩
def Fx (fp : List Addr) (H H' : Hp) : Prop := ∀ b o, H b = some o → b ∉ fp → H' b = some o
theorem Fx.refl (fp : List Addr) (H : Hp) : Fx fp H H := fun _ _ e _ => e
theorem Fx.of {fp : List Addr} {H H' : Hp} (s : Same H H') : Fx fp H H' := fun b o e _ => s b o e
theorem Fx.tr {fp fq : List Addr} {H H1 H2 : Hp} (a : Fx fp H H1) (b : Fx fq H1 H2) (s : ∀ c ∈ fq, c ∈ fp ∨ H c = none) : Fx fp H H2 := fun c o e n => b c o (a c o e n) fun z => by
  rcases s c z with y | y
  · exact n y
  · rw [y] at e; cases e
theorem Fx.upd {fp : List Addr} {H : Hp} {l : Addr} {o : HO} (h : l ∈ fp) : Fx fp H (upd H l o) := fun b u e n => by rw [upd_ne (fun z => n (by rw [z]; exact h))]; exact e
theorem Fx.un {fp : List Addr} {H H1 : Hp} {l : Addr} {o : HO} (a : Fx fp H H1) (h : l ∈ fp ∨ H l = none) : Fx fp H (L2.upd H1 l o) := fun b u e n => by
  rw [upd_ne (fun z => by
    rcases h with y | y
    · exact n (by rw [z]; exact y)
    · rw [z, y] at e; cases e)]
  exact a b u e n
def kFs (w : V) (pl wl pa dl : Addr) : List (Str × V) := [("works", w), ("place", .ref pl), ("waits", .ref wl), ("past", .ref pa), ("cost", .int 0), ("deeds", .ref dl)]
def DeedAt (H : Hp) (pl : Addr) (z : Addr × Addr) (ns : List Int) : Prop := H z.1 = some (.tup [.ref pl, .ref z.2, .int 0, .int 0]) ∧ H z.2 = some (.lst (ns.map V.int))
def DeedsAt (H : Hp) (pl : Addr) : List (Addr × Addr) → List (List Int) → Prop
  | [], [] => True
  | z :: zs, n :: ns => DeedAt H pl z n ∧ DeedsAt H pl zs ns
  | _, _ => False
def fpZ : List (Addr × Addr) → List Addr
  | [] => []
  | z :: zs => z.1 :: z.2 :: fpZ zs
theorem DeedsAt.keep {H H' : Hp} {pl : Addr} : ∀ {zs : List (Addr × Addr)} {hist : List (List Int)}, DeedsAt H pl zs hist → (∀ b ∈ fpZ zs, ∀ o, H b = some o → H' b = some o) → DeedsAt H' pl zs hist
  | [], [], _, _ => trivial
  | z :: zs, n :: ns, h, k => ⟨⟨k _ (.head _) _ h.1.1, k _ (.tail _ (.head _)) _ h.1.2⟩, DeedsAt.keep h.2 fun b hb => k b (.tail _ (.tail _ hb))⟩
  | [], _ :: _, h, _ => h.elim
  | _ :: _, [], h, _ => h.elim
theorem DeedsAt.has {H : Hp} {pl : Addr} : ∀ {zs : List (Addr × Addr)} {hist : List (List Int)}, DeedsAt H pl zs hist → ∀ b ∈ fpZ zs, H b ≠ none
  | [], [], _, b, hb => by cases hb
  | z :: zs, n :: ns, h, b, hb => by
    rcases List.mem_cons.mp hb with rfl | hb
    · rw [h.1.1]; exact fun z => by cases z
    · rcases List.mem_cons.mp hb with rfl | hb
      · rw [h.1.2]; exact fun z => by cases z
      · exact DeedsAt.has h.2 b hb
  | [], _ :: _, h, _, _ => h.elim
  | _ :: _, [], h, _, _ => h.elim
theorem DeedsAt.len {H : Hp} {pl : Addr} : ∀ {zs : List (Addr × Addr)} {hist : List (List Int)}, DeedsAt H pl zs hist → zs.length = hist.length
  | [], [], _ => rfl
  | z :: zs, n :: ns, h => by rw [List.length_cons, List.length_cons, DeedsAt.len h.2]
  | [], _ :: _, h => h.elim
  | _ :: _, [], h => h.elim
structure KpAt (CK : Addr) (H : Hp) (k pl : Addr) (ws : List Int) (hist : List (List Int)) (fp : List Addr) : Prop where
  ex : ∃ (dx : Addr) (w : V) (wl pa dl : Addr) (zs : List (Addr × Addr)), H k = some (.ins CK dx (kFs w pl wl pa dl)) ∧ H wl = some (.lst (ws.map V.int)) ∧ H pa = some (.lst []) ∧ H dl = some (.lst (zs.reverse.map fun z => V.ref z.1)) ∧ DeedsAt H pl zs hist ∧ fp = fpZ zs ++ [k, wl, pa, dl] ∧ fp.Nodup
theorem KpAt.keep {CK : Addr} {H H' : Hp} {k pl : Addr} {ws : List Int} {hist : List (List Int)} {fp : List Addr} (h : KpAt CK H k pl ws hist fp) (f : ∀ b ∈ fp, ∀ o, H b = some o → H' b = some o) : KpAt CK H' k pl ws hist fp := by
  obtain ⟨dx, w, wl, pa, dl, zs, h1, h2, h3, h4, h5, rfl, h7⟩ := h.ex
  exact ⟨dx, w, wl, pa, dl, zs, f _ (by simp) _ h1, f _ (by simp) _ h2, f _ (by simp) _ h3, f _ (by simp) _ h4, h5.keep fun b hb => f b (List.mem_append_left _ hb), rfl, h7⟩
theorem KpAt.same {CK : Addr} {H H' : Hp} {k pl : Addr} {ws : List Int} {hist : List (List Int)} {fp : List Addr} (h : KpAt CK H k pl ws hist fp) (s : Same H H') : KpAt CK H' k pl ws hist fp := h.keep fun b _ o e => s b o e
theorem KpAt.has {CK : Addr} {H : Hp} {k pl : Addr} {ws : List Int} {hist : List (List Int)} {fp : List Addr} (h : KpAt CK H k pl ws hist fp) : ∀ b ∈ fp, H b ≠ none := by
  obtain ⟨dx, w, wl, pa, dl, zs, h1, h2, h3, h4, h5, rfl, h7⟩ := h.ex
  intro b hb
  rcases List.mem_append.mp hb with hb | hb
  · exact h5.has b hb
  · simp only [List.mem_cons, List.not_mem_nil, or_false] at hb
    rcases hb with rfl | rfl | rfl | rfl
    · rw [h1]; exact fun z => by cases z
    · rw [h2]; exact fun z => by cases z
    · rw [h3]; exact fun z => by cases z
    · rw [h4]; exact fun z => by cases z
theorem KpAt.len {CK : Addr} {H : Hp} {k pl : Addr} {ws : List Int} {hist : List (List Int)} {fp : List Addr} (h : KpAt CK H k pl ws hist fp) : fp.length = 2 * hist.length + 4 := by
  obtain ⟨dx, w, wl, pa, dl, zs, h1, h2, h3, h4, h5, rfl, h7⟩ := h.ex
  rw [← h5.len, List.length_append]
  have : ∀ l : List (Addr × Addr), (fpZ l).length = 2 * l.length := fun l => by
    induction l with
    | nil => rfl
    | cons z l ih => show (fpZ l).length + 1 + 1 = 2 * (l.length + 1); omega
  rw [this]
  rfl
def Gr (H : Hp) (fp fq : List Addr) : Prop := ∀ b ∈ fq, b ∈ fp ∨ H b = none
theorem nd_z {zs : List (Addr × Addr)} {k wl pa dl : Addr} (h : (fpZ zs ++ [k, wl, pa, dl]).Nodup) : (fpZ zs).Nodup ∧ k ∉ fpZ zs ∧ wl ∉ fpZ zs ∧ pa ∉ fpZ zs ∧ dl ∉ fpZ zs ∧ k ≠ wl ∧ k ≠ pa ∧ k ≠ dl ∧ wl ≠ pa ∧ wl ≠ dl ∧ pa ≠ dl := by
  rw [List.nodup_append] at h
  obtain ⟨h1, h2, h3⟩ := h
  simp only [List.nodup_cons, List.mem_cons, List.not_mem_nil, or_false, not_or] at h2
  refine ⟨h1, fun z => h3 _ z k (by simp) rfl, fun z => h3 _ z wl (by simp) rfl, fun z => h3 _ z pa (by simp) rfl, fun z => h3 _ z dl (by simp) rfl, h2.1.1, h2.1.2.1, h2.1.2.2, h2.2.1.1, h2.2.1.2, h2.2.2.1⟩
theorem z_nd {zs : List (Addr × Addr)} {k wl pa dl : Addr} (h : (fpZ zs).Nodup ∧ k ∉ fpZ zs ∧ wl ∉ fpZ zs ∧ pa ∉ fpZ zs ∧ dl ∉ fpZ zs ∧ k ≠ wl ∧ k ≠ pa ∧ k ≠ dl ∧ wl ≠ pa ∧ wl ≠ dl ∧ pa ≠ dl) : (fpZ zs ++ [k, wl, pa, dl]).Nodup := by
  obtain ⟨h1, h2, h3, h4, h5, h6, h7, h8, h9, ha, hbb⟩ := h
  rw [List.nodup_append]
  refine ⟨h1, ?_, fun b hb c hc e => ?_⟩
  · simp only [List.nodup_cons, List.mem_cons, List.not_mem_nil, or_false, not_or, not_false_eq_true, List.nodup_nil, and_true]
    exact ⟨⟨h6, h7, h8⟩, ⟨h9, ha⟩, hbb⟩
  · subst e
    simp only [List.mem_cons, List.not_mem_nil, or_false] at hc
    rcases hc with rfl | rfl | rfl | rfl
    · exact h2 hb
    · exact h3 hb
    · exact h4 hb
    · exact h5 hb
def sp_Keeper_init (K : PySem.W.Frag) (CK : Addr) : Sp := fun vs H Q _ => ∃ (x dx pl : Addr) (w : V), vs = [.ref x, w, .ref pl] ∧ H x = some (.ins CK dx []) ∧
  ∀ H' fp, KpAt CK H' x pl [] [] fp → (∀ b ∈ fp, b = x ∨ H b = none) → Keep x H H' → Q .non H'
set_option maxHeartbeats 40000000 in
theorem ok_Keeper_init {P : Program} {w : World} {K : PySem.W.Frag} {mg : Str → Option Value} {base : Heap} {a : Adr} (tx : Txt K mg a) : FnOk P w K mg base CX0 1 a.f_Keeper_init a.d_Keeper_init ["self", "works", "position"] (sp_Keeper_init K a.c_Keeper) := by
  refine tx.F_Keeper_init.ok sc_Keeper_init (fun vs H Q E h => ?_) (fun cdv A outer s H vs Q E hr h => ?_)
  · obtain ⟨x, dx, pl, w, rfl, _⟩ := h
    rfl
  · obtain ⟨x, dx, pl, w, rfl , hx, k⟩ := h
    have hu := hu9 hr
    refine L2.Q.root (L2.Q.pss_cons (L2.Q.ps_fldK (K' := K) (L2.Q.pv 0) (L2.Q.pv 1) rfl)
      (L2.Q.pss_cons (L2.Q.ps_fldK (K' := K) (L2.Q.pv 0) (L2.Q.pv 2) rfl)
      (L2.Q.pss_cons (L2.Q.ps_fldK (K' := K) (L2.Q.pv 0) (L2.Q.pe_lst L2.Q.pa_nil) rfl)
      (L2.Q.pss_cons (L2.Q.ps_fldK (K' := K) (L2.Q.pv 0) (L2.Q.pe_lst L2.Q.pa_nil) rfl)
      (L2.Q.pss_cons (L2.Q.ps_fldK (K' := K) (L2.Q.pv 0) L2.Q.pe_int rfl)
      (L2.Q.pss_one (L2.Q.ps_fldK (K' := K) (L2.Q.pv 0) (L2.Q.pe_lst L2.Q.pa_nil) rfl))))))) ?_
    refine rd_start (σ := [some (.ref x), some w, some (.ref pl)]) rfl ?_
    repeat walk_at "go"
    refine rd_put (fs' := [("works", w)]) hx tx.C_Keeper tx.n_Keeper_works (by simp) rfl ?_
    obtain ⟨H1, i1, k1, g1⟩ := wr H x _; rw [i1]
    repeat walk_at "go"
    refine rd_put (fs' := [("works", w), ("place", .ref pl)]) g1 tx.C_Keeper tx.n_Keeper_place (by simp) rfl ?_
    obtain ⟨H2, i2, k2, g2⟩ := wr H1 x _; rw [i2]
    have K2 := k1.trans k2
    repeat walk_at "go"
    intro wl nwl
    obtain ⟨H3, i3, s3, g3⟩ := nw _ nwl; rw [i3]
    have wx : wl ≠ x := fun z => by rw [z, g2] at nwl; cases nwl
    have nwlH : H wl = none := by
      cases e : H wl with
      | none => rfl
      | some o => rw [K2 _ _ e wx] at nwl; cases nwl
    repeat walk_at "go"
    refine rd_put (fs' := [("works", w), ("place", .ref pl), ("waits", .ref wl)]) (s3 _ _ g2) tx.C_Keeper tx.n_Keeper_waits (by simp) rfl ?_
    obtain ⟨H4, i4, k4, g4⟩ := wr H3 x _; rw [i4]
    have K4 := K2.trans (s3.keep.trans k4)
    have w4 := k4 _ _ g3 wx
    repeat walk_at "go"
    intro pa npa
    obtain ⟨H5, i5, s5, g5⟩ := nw _ npa; rw [i5]
    have px : pa ≠ x := fun z => by rw [z, g4] at npa; cases npa
    have npaH : H pa = none := by
      cases e : H pa with
      | none => rfl
      | some o => rw [K4 _ _ e px] at npa; cases npa
    have wp : wl ≠ pa := fun z => by rw [← z, w4] at npa; cases npa
    repeat walk_at "go"
    refine rd_put (fs' := [("works", w), ("place", .ref pl), ("waits", .ref wl), ("past", .ref pa)]) (s5 _ _ g4) tx.C_Keeper tx.n_Keeper_past (by simp) rfl ?_
    obtain ⟨H6, i6, k6, g6⟩ := wr H5 x _; rw [i6]
    have K6 := K4.trans (s5.keep.trans k6)
    have w6 := k6 _ _ (s5 _ _ w4) wx
    have p6 := k6 _ _ g5 px
    repeat walk_at "go"
    refine rd_put (fs' := [("works", w), ("place", .ref pl), ("waits", .ref wl), ("past", .ref pa), ("cost", .int 0)]) g6 tx.C_Keeper tx.n_Keeper_cost (by simp) rfl ?_
    obtain ⟨H7, i7, k7, g7⟩ := wr H6 x _; rw [i7]
    have K7 := K6.trans k7
    have w7 := k7 _ _ w6 wx
    have p7 := k7 _ _ p6 px
    repeat walk_at "go"
    intro dl ndl
    obtain ⟨H8, i8, s8, g8⟩ := nw _ ndl; rw [i8]
    have dxx : dl ≠ x := fun z => by rw [z, g7] at ndl; cases ndl
    have ndlH : H dl = none := by
      cases e : H dl with
      | none => rfl
      | some o => rw [K7 _ _ e dxx] at ndl; cases ndl
    have wd : wl ≠ dl := fun z => by rw [← z, w7] at ndl; cases ndl
    have pd : pa ≠ dl := fun z => by rw [← z, p7] at ndl; cases ndl
    repeat walk_at "go"
    refine rd_put (fs' := kFs w pl wl pa dl) (s8 _ _ g7) tx.C_Keeper tx.n_Keeper_deeds (by simp) rfl ?_
    obtain ⟨H9, i9, k9, g9⟩ := wr H8 x _; rw [i9]
    repeat walk_at "go"
    refine k H9 [x, wl, pa, dl] ⟨dx, w, wl, pa, dl, [], g9, k9 _ _ (s8 _ _ w7) wx, k9 _ _ (s8 _ _ p7) px, k9 _ _ g8 dxx, trivial, rfl, z_nd (zs := []) ⟨List.nodup_nil, List.not_mem_nil, List.not_mem_nil, List.not_mem_nil, List.not_mem_nil, wx.symm, px.symm, dxx.symm, wp, wd, pd⟩⟩ (fun b hb => ?_) (K7.trans (s8.keep.trans k9))
    simp only [List.mem_cons, List.not_mem_nil, or_false] at hb
    rcases hb with rfl | rfl | rfl | rfl
    · exact .inl rfl
    · exact .inr nwlH
    · exact .inr npaH
    · exact .inr ndlH
def sp_Keeper_keep_deed (K : PySem.W.Frag) (CK : Addr) : Sp := fun vs H Q _ => ∃ (x pl : Addr) (ws : List Int) (hist : List (List Int)) (fp : List Addr), vs = [.ref x] ∧ KpAt CK H x pl ws hist fp ∧ hist.length ≤ 1000 ∧ ws.length ≤ 1000 ∧
  ∀ H' fq, KpAt CK H' x pl ws (ws :: hist) fq → Gr H fp fq → Fx fp H H' → Q .non H'
set_option maxHeartbeats 40000000 in
theorem ok_Keeper_keep_deed {P : Program} {w : World} {K : PySem.W.Frag} {mg : Str → Option Value} {base : Heap} {a : Adr} (tx : Txt K mg a) : FnOk P w K mg base CX0 1 a.f_Keeper_keep_deed a.d_Keeper_keep_deed ["self"] (sp_Keeper_keep_deed K a.c_Keeper) := by
  refine tx.F_Keeper_keep_deed.ok sc_Keeper_keep_deed (fun vs H Q E h => ?_) (fun cdv A outer s H vs Q E hr h => ?_)
  · obtain ⟨x, pl, ws, hist, fp, rfl, _⟩ := h
    rfl
  · obtain ⟨x, pl, ws, hist, fp, rfl , hk, hz, hy, k⟩ := h
    have hu := hu9 hr
    refine L2.Q.root (L2.Q.pss_one (L2.Q.ps_expr (L2.Q.pe_appK (K' := K) (L2.Q.pe_fldK (K' := K) (L2.Q.pv 0) rfl) (L2.Q.pa_c (L2.Q.tup4 (L2.Q.pe_fldK (K' := K) (L2.Q.pv 0) rfl) (L2.Q.pe_callTyN (rc := rListOf K) call_listG (by rfl) tx.z_list bt_list (L2.Q.pa_c (L2.Q.pe_fldK (K' := K) (L2.Q.pv 0) rfl) L2.Q.pa_nil)) (L2.Q.pe_callBN (rc := rLen K) call_lenG (by rfl) tx.z_len bt_len (L2.Q.pa_c (L2.Q.pe_fldK (K' := K) (L2.Q.pv 0) rfl) L2.Q.pa_nil)) (L2.Q.pe_fldK (K' := K) (L2.Q.pv 0) rfl)) L2.Q.pa_nil)))) ?_
    obtain ⟨dx, w, wl, pa, dl, zs, h1, h2, h3, h4, h5, rfl, h7⟩ := hk.ex
    have lz := h5.len
    obtain ⟨d1, d2, d3, d4, d5, d6, d7, d8, d9, da, db⟩ := nd_z h7
    refine rd_start (σ := [some (.ref x)]) rfl ?_
    repeat walk_at "go"
    refine rd_get h1 tx.C_Keeper tx.n_Keeper_deeds rfl ?_
    refine rd_tyL (SqL.of h4) ?_
    repeat walk_at "go"
    refine rd_get h1 tx.C_Keeper tx.n_Keeper_place rfl ?_
    repeat walk_at "go"
    refine rd_get h1 tx.C_Keeper tx.n_Keeper_waits rfl ?_
    repeat walk_at "go"
    refine rd_listL (SqL.of h2) ?_
    intro L nL
    obtain ⟨H1, i1, s1, g1⟩ := nw _ nL; rw [i1]
    repeat walk_at "go"
    refine rd_get (s1 _ _ h1) tx.C_Keeper tx.n_Keeper_past rfl ?_
    have h31 := s1 _ _ h3
    repeat walk_at "go"
    refine rd_get (s1 _ _ h1) tx.C_Keeper tx.n_Keeper_cost rfl ?_
    repeat walk_at "go"
    intro T nT
    obtain ⟨H2, i2, s2, g2⟩ := nw _ nT; rw [i2]
    have s12 := s1.trans s2
    have h42 := s12 _ _ h4
    repeat walk_at "go"
    refine rd_app (xs := zs.reverse.map fun z => V.ref z.1) h42 (Nat.lt_of_lt_of_le (by rw [List.length_map, List.length_reverse]; omega : (zs.reverse.map fun z => V.ref z.1).length < 2000) (sz_le (by simp))) ?_
    obtain ⟨H3, i3, k3, g3⟩ := wr H2 dl _; rw [i3]
    repeat walk_at "go"
    have nTH : H T = none := s1.free nT
    have old : ∀ b ∈ fpZ zs ++ [x, wl, pa, dl], b ≠ L ∧ b ≠ T := fun b hb => ⟨fun z => hk.has b hb (by rw [z]; exact nL), fun z => hk.has b hb (by rw [z]; exact nTH)⟩
    have LT : T ≠ L := fun z => by rw [z, g1] at nT; cases nT
    have Ld : L ≠ dl := fun z => (old dl (by simp)).1 z.symm
    have Td : T ≠ dl := fun z => (old dl (by simp)).2 z.symm
    have up : ∀ b o, H b = some o → b ≠ dl → H3 b = some o := fun b o e n => k3 _ _ (s12 _ _ e) n
    refine k H3 (T :: L :: (fpZ zs ++ [x, wl, pa, dl])) ⟨dx, w, wl, pa, dl, (T, L) :: zs, up _ _ h1 d8, up _ _ h2 da, up _ _ h3 db, ?_, ⟨⟨k3 _ _ g2 Td, k3 _ _ (s2 _ _ g1) Ld⟩, h5.keep fun b hb o e => up b o e (fun z => d5 (z ▸ hb))⟩, rfl, ?_⟩ (fun b hb => ?_) (fun b o e n => up b o e (fun z => n (by rw [z]; simp)))
    · rw [g3, List.reverse_cons, List.map_append]
      rfl
    · refine List.nodup_cons.mpr ⟨fun z => ?_, List.nodup_cons.mpr ⟨fun z => (old L z).1 rfl, h7⟩⟩
      rcases List.mem_cons.mp z with z | z
      · exact LT z
      · exact (old T z).2 rfl
    · rcases List.mem_cons.mp hb with rfl | hb
      · exact .inr nTH
      · rcases List.mem_cons.mp hb with rfl | hb
        · exact .inr nL
        · exact .inl hb
def sp_Keeper_tell (K : PySem.W.Frag) (CK : Addr) : Sp := fun vs H Q _ => ∃ (x pl : Addr) (ws : List Int) (hist : List (List Int)) (fp : List Addr) (n : Int), vs = [.ref x, .int n] ∧ KpAt CK H x pl ws hist fp ∧ hist.length ≤ 1000 ∧ ws.length ≤ 1000 ∧
  ∀ H' fq, KpAt CK H' x pl (ws ++ [n]) (ws :: hist) fq → Gr H fp fq → Fx fp H H' → Q .non H'
set_option maxHeartbeats 40000000 in
theorem ok_Keeper_tell {P : Program} {w : World} {K : PySem.W.Frag} {mg : Str → Option Value} {base : Heap} {a : Adr} (tx : Txt K mg a) : FnOk P w K mg base CX0 2 a.f_Keeper_tell a.d_Keeper_tell ["self", "want"] (sp_Keeper_tell K a.c_Keeper) := by
  have G_Keeper_keep_deed := ok_Keeper_keep_deed (P := P) (w := w) (base := base) tx
  refine tx.F_Keeper_tell.ok sc_Keeper_tell (fun vs H Q E h => ?_) (fun cdv A outer s H vs Q E hr h => ?_)
  · obtain ⟨x, pl, ws, hist, fp, n, rfl, _⟩ := h
    rfl
  · obtain ⟨x, pl, ws, hist, fp, n, rfl , hk, hz, hy, k⟩ := h
    have hu := hu9 hr
    refine L2.Q.root (L2.Q.pss_cons (L2.Q.ps_expr (L2.Q.pe_meth0 (L2.Q.pv 0) tx.C_Keeper tx.m_Keeper_keep_deed (G_Keeper_keep_deed) (hr.mono (by decide)) tx.b_Keeper_keep_deed .nil pass0))
      (L2.Q.pss_one (L2.Q.ps_expr (L2.Q.pe_appK (K' := K) (L2.Q.pe_fldK (K' := K) (L2.Q.pv 0) rfl) (L2.Q.pa_c (L2.Q.pv 1) L2.Q.pa_nil))))) ?_
    refine rd_start (σ := [some (.ref x), some (.int n)]) rfl ?_
    obtain ⟨dx0, w0, wl0, pa0, dl0, zs0, h10, _⟩ := id hk.ex
    repeat walk_at "go"
    refine ⟨x, dx0, _, rfl, h10, rfl, ?_⟩
    repeat walk_at "go"
    refine ⟨x, pl, ws, hist, fp, rfl, hk, hz, hy, fun H1 fq hk1 gr f1 => ?_⟩
    obtain ⟨dx, w, wl, pa, dl, zs, h1, h2, h3, h4, h5, rfl, h7⟩ := hk1.ex
    obtain ⟨d1, d2, d3, d4, d5, d6, d7, d8, d9, da, db⟩ := nd_z h7
    repeat walk_at "go"
    refine rd_get h1 tx.C_Keeper tx.n_Keeper_waits rfl ?_
    refine rd_tyL (SqL.of h2) ?_
    repeat walk_at "go"
    refine rd_app (xs := ws.map V.int) h2 (Nat.lt_of_lt_of_le (by rw [List.length_map]; omega : (ws.map V.int).length < 2000) (sz_le (by simp))) ?_
    obtain ⟨H3, i3, k3, g3⟩ := wr H1 wl _; rw [i3]
    repeat walk_at "go"
    refine k H3 _ ⟨dx, w, wl, pa, dl, zs, k3 _ _ h1 d6, (by rw [g3, List.map_append]; rfl), k3 _ _ h3 d9.symm, k3 _ _ h4 da.symm, h5.keep fun b hb o e => k3 _ _ e (fun z => d3 (z ▸ hb)), rfl, h7⟩ gr (f1.tr (fq := [wl]) (fun b o e n => k3 _ _ e (fun z => n (by rw [z]; simp))) fun c hc => ?_)
    rw [List.mem_singleton.mp hc]
    exact gr wl (by simp)
def sp_Keeper_change (K : PySem.W.Frag) (CK CN : Addr) : Sp := fun vs H Q E => ∃ (x pl : Addr) (ws : List Int) (hist : List (List Int)) (fp : List Addr) (at_ : Nat) (n : Int), vs = [.ref x, .int (at_ : Int), .int n] ∧ KpAt CK H x pl ws hist fp ∧ hist.length ≤ 1000 ∧ ws.length ≤ 1000 ∧
  (at_ < ws.length → ∀ H' fq, KpAt CK H' x pl (ws.set at_ n) (ws :: hist) fq → Gr H fp fq → Fx fp H H' → Q .non H') ∧ (¬ at_ < ws.length → ∀ e od H', Same H H' → ErrB H' e CN → E (.ref e) od H')
set_option maxHeartbeats 40000000 in
theorem ok_Keeper_change {P : Program} {w : World} {K : PySem.W.Frag} {mg : Str → Option Value} {base : Heap} {a : Adr} (tx : Txt K mg a) : FnOk P w K mg base (CXE P w) 2 a.f_Keeper_change a.d_Keeper_change ["self", "at", "want"] (sp_Keeper_change K a.c_Keeper a.c_NoHour) := by
  have G_Keeper_keep_deed := ok_Keeper_keep_deed (P := P) (w := w) (base := base) tx
  refine tx.F_Keeper_change.okE sc_Keeper_change (fun vs H Q E h => ?_) (fun cdv A outer s H vs Q E hr h => ?_)
  · obtain ⟨x, pl, ws, hist, fp, at_, n, rfl, _⟩ := h
    rfl
  · obtain ⟨x, pl, ws, hist, fp, at_, n, rfl , hk, hz, hy, kq, ke⟩ := h
    have hu := hu9 hr
    refine L2.Q.root (L2.Q.pss_cons (L2.Q.ps_if (L2.Q.pw_pt (L2.Q.pw_or (L2.Q.pt_cmpR op_lt (L2.Q.pv 1) L2.Q.pe_int (nomark _)) (L2.Q.pw_or1 (L2.Q.pt_cmpR op_ge (L2.Q.pv 1) (L2.Q.pe_callBN (rc := rLen K) call_lenG (by rfl) tx.z_len bt_len (L2.Q.pa_c (L2.Q.pe_fldK (K' := K) (L2.Q.pv 0) rfl) L2.Q.pa_nil)) (nomark _))))) (L2.Q.pss_one (L2.Q.ps_raise (K' := K) (E := E) raises_cx rfl (L2.Q.pe_mkE0 tx.ex_NoHour tx.Z_NoHour.kp (by rfl) tx.g_NoHour))) L2.Q.pss_nil)
      (L2.Q.pss_cons (L2.Q.ps_expr (L2.Q.pe_meth0 (L2.Q.pv 0) tx.C_Keeper tx.m_Keeper_keep_deed (G_Keeper_keep_deed) (hr.mono (by decide)) tx.b_Keeper_keep_deed .nil pass0))
      (L2.Q.pss_one (L2.Q.ps_asg (L2.Q.pv 2) (L2.Q.pg_sub (L2.Q.pe_fldK (K' := K) (L2.Q.pv 0) rfl) (L2.Q.pv 1) set_list))))) ?_
    refine rd_start (σ := [some (.ref x), some (.int (at_ : Int)), some (.int n)]) rfl ?_
    obtain ⟨dx0, w0, wl0, pa0, dl0, zs0, h10, h20, _⟩ := id hk.ex
    repeat walk_at "go"
    refine rd_dec (fun z => by omega) (fun _ => ?_)
    repeat walk_at "go"
    refine rd_get h10 tx.C_Keeper tx.n_Keeper_waits rfl ?_
    repeat walk_at "go"
    refine rd_dec (fun z => ?_) (fun z => ?_)
    · rw [List.length_map] at z
      repeat walk_at "go"
      intro e ne
      obtain ⟨s1, e1⟩ := err_set0 (C := a.c_NoHour) (a := ErrN a.c_NoHour none e) ne
      exact ⟨e, a.c_NoHour, none, rfl, upd_same, tx.Z_NoHour, ke (by omega) _ _ _ s1 e1⟩
    · rw [List.length_map] at z
      have hat : at_ < ws.length := by omega
      repeat walk_at "go"
      refine ⟨x, dx0, _, rfl, h10, rfl, ?_⟩
      repeat walk_at "go"
      refine ⟨x, pl, ws, hist, fp, rfl, hk, hz, hy, fun H1 fq hk1 gr f1 => ?_⟩
      obtain ⟨dx, w, wl, pa, dl, zs, h1, h2, h3, h4, h5, rfl, h7⟩ := hk1.ex
      obtain ⟨d1, d2, d3, d4, d5, d6, d7, d8, d9, da, db⟩ := nd_z h7
      repeat walk_at "go"
      refine rd_get h1 tx.C_Keeper tx.n_Keeper_waits rfl ?_
      repeat walk_at "go"
      refine rd_setL (j := at_) (k := (at_ : Int)) h2 (ixN_nat (by rw [List.length_map]; exact hat)) ?_
      rw [← List.map_set]
      obtain ⟨H3, i3, k3, g3⟩ := wr H1 wl _; rw [i3]
      repeat walk_at "go"
      refine kq hat H3 _ ⟨dx, w, wl, pa, dl, zs, k3 _ _ h1 d6, g3, k3 _ _ h3 d9.symm, k3 _ _ h4 da.symm, h5.keep fun b hb o e => k3 _ _ e (fun z => d3 (z ▸ hb)), rfl, h7⟩ gr (f1.tr (fq := [wl]) (fun b o e n => k3 _ _ e (fun z => n (by rw [z]; simp))) fun c hc => ?_)
      rw [List.mem_singleton.mp hc]
      exact gr wl (by simp)
def sp_Keeper_go (K : PySem.W.Frag) (CK CN : Addr) : Sp := fun vs H Q E => ∃ (x pl : Addr) (hist : List (List Int)) (fp : List Addr), vs = [.ref x] ∧ KpAt CK H x pl [] hist fp ∧ ∀ e od H', Same H H' → ErrB H' e CN → E (.ref e) od H'
set_option maxHeartbeats 40000000 in
theorem ok_Keeper_go {P : Program} {w : World} {K : PySem.W.Frag} {mg : Str → Option Value} {base : Heap} {a : Adr} (tx : Txt K mg a) : FnOk P w K mg base (CXE P w) 1 a.f_Keeper_go a.d_Keeper_go ["self"] (sp_Keeper_go K a.c_Keeper a.c_NoHour) := by
  refine tx.F_Keeper_go.okE sc_Keeper_go (fun vs H Q E h => ?_) (fun cdv A outer s H vs Q E hr h => ?_)
  · obtain ⟨x, pl, hist, fp, rfl, _⟩ := h
    rfl
  · obtain ⟨x, pl, hist, fp, rfl , hk, ke⟩ := h
    have hu := hu9 hr
    refine L2.Q.root (L2.Q.pss_cons (L2.Q.ps_if (L2.Q.pt_cmpR (r := rEqG K) (op_eqG hu) (L2.Q.pe_callBN (rc := rLen K) call_lenG (by rfl) tx.z_len bt_len (L2.Q.pa_c (L2.Q.pe_fldK (K' := K) (L2.Q.pv 0) rfl) L2.Q.pa_nil)) L2.Q.pe_int (nomark _)) (L2.Q.pss_one (L2.Q.ps_raise (K' := K) (E := E) raises_cx rfl (L2.Q.pe_mkE0 tx.ex_NoHour tx.Z_NoHour.kp (by rfl) tx.g_NoHour))) L2.Q.pss_nil)
      (L2.Q.pss_cons L2.Q.ps_never
      (L2.Q.pss_cons L2.Q.ps_never
      (L2.Q.pss_cons L2.Q.ps_never
      (L2.Q.pss_cons L2.Q.ps_never
      (L2.Q.pss_cons L2.Q.ps_never
      (L2.Q.pss_cons L2.Q.ps_never
      (L2.Q.pss_one L2.Q.ps_never)))))))) ?_
    refine rd_start (σ := [some (.ref x), none, none]) rfl ?_
    obtain ⟨dx0, w0, wl0, pa0, dl0, zs0, h10, h20, _⟩ := id hk.ex
    repeat walk_at "go"
    refine rd_get h10 tx.C_Keeper tx.n_Keeper_waits rfl ?_
    repeat walk_at "go"
    refine rd_dec (fun z => ?_) (fun z => absurd rfl z)
    repeat walk_at "go"
    intro e ne
    obtain ⟨s1, e1⟩ := err_set0 (C := a.c_NoHour) (a := ErrN a.c_NoHour none e) ne
    exact ⟨e, a.c_NoHour, none, rfl, upd_same, tx.Z_NoHour, ke _ _ _ s1 e1⟩
def sp_Keeper_undo (K : PySem.W.Frag) (CK CN : Addr) : Sp := fun vs H Q E => ∃ (x pl : Addr) (ws : List Int) (hist : List (List Int)) (fp : List Addr), vs = [.ref x] ∧ KpAt CK H x pl ws hist fp ∧ hist.length ≤ 1000 ∧
  (∀ n ns, hist = n :: ns → ∀ H' fq, KpAt CK H' x pl n ns fq → Gr H fp fq → Fx fp H H' → Q .non H') ∧ (hist = [] → ∀ e od H', Same H H' → ErrB H' e CN → E (.ref e) od H')
set_option maxHeartbeats 40000000 in
theorem ok_Keeper_undo {P : Program} {w : World} {K : PySem.W.Frag} {mg : Str → Option Value} {base : Heap} {a : Adr} (tx : Txt K mg a) : FnOk P w K mg base (CXE P w) 1 a.f_Keeper_undo a.d_Keeper_undo ["self"] (sp_Keeper_undo K a.c_Keeper a.c_NoDeed) := by
  refine tx.F_Keeper_undo.okE sc_Keeper_undo (fun vs H Q E h => ?_) (fun cdv A outer s H vs Q E hr h => ?_)
  · obtain ⟨x, pl, ws, hist, fp, rfl, _⟩ := h
    rfl
  · obtain ⟨x, pl, ws, hist, fp, rfl , hk, hz, kq, ke⟩ := h
    have hu := hu9 hr
    refine L2.Q.root (L2.Q.pss_cons (L2.Q.ps_if (L2.Q.pt_cmpR (r := rEqG K) (op_eqG hu) (L2.Q.pe_callBN (rc := rLen K) call_lenG (by rfl) tx.z_len bt_len (L2.Q.pa_c (L2.Q.pe_fldK (K' := K) (L2.Q.pv 0) rfl) L2.Q.pa_nil)) L2.Q.pe_int (nomark _)) (L2.Q.pss_one (L2.Q.ps_raise (K' := K) (E := E) raises_cx rfl (L2.Q.pe_mkE0 tx.ex_NoDeed tx.Z_NoDeed.kp (by rfl) tx.g_NoDeed))) L2.Q.pss_nil)
      (L2.Q.pss_cons (L2.Q.ps_set (i := 1) sc_Keeper_undo.nd rfl (Or.inl rfl) (L2.Q.pe_popK (K' := K) (L2.Q.pe_fldK (K' := K) (L2.Q.pv 0) rfl)))
      (L2.Q.pss_cons (L2.Q.ps_fldK (K' := K) (L2.Q.pv 0) (L2.Q.pe_ixK (K' := K) (L2.Q.pv 1) L2.Q.pe_int (fun _ _ => rfl)) rfl)
      (L2.Q.pss_cons (L2.Q.ps_fldK (K' := K) (L2.Q.pv 0) (L2.Q.pe_ixK (K' := K) (L2.Q.pv 1) L2.Q.pe_int (fun _ _ => rfl)) rfl)
      (L2.Q.pss_cons (L2.Q.ps_fldK (K' := K) (L2.Q.pv 0) (L2.Q.pe_slice (rs := rSlG K) sl_G (L2.Q.pe_fldK (K' := K) (L2.Q.pv 0) rfl) L2.Q.po_none (L2.Q.po_some (L2.Q.pe_ixK (K' := K) (L2.Q.pv 1) L2.Q.pe_int (fun _ _ => rfl)))) rfl)
      (L2.Q.pss_one (L2.Q.ps_fldK (K' := K) (L2.Q.pv 0) (L2.Q.pe_ixK (K' := K) (L2.Q.pv 1) L2.Q.pe_int (fun _ _ => rfl)) rfl))))))) ?_
    refine rd_start (σ := [some (.ref x), none]) rfl ?_
    obtain ⟨dx, w, wl, pa, dl, zs, h1, h2, h3, h4, h5, rfl, h7⟩ := hk.ex
    have lz := h5.len
    repeat walk_at "go"
    refine rd_get h1 tx.C_Keeper tx.n_Keeper_deeds rfl ?_
    repeat walk_at "go"
    rw [List.length_map, List.length_reverse]
    cases zs with
    | nil =>
      have eh : hist = [] := by cases hist with | nil => rfl | cons _ _ => cases lz
      refine rd_dec (fun z => ?_) (fun z => absurd rfl z)
      repeat walk_at "go"
      intro e ne
      obtain ⟨s1, e1⟩ := err_set0 (C := a.c_NoDeed) (a := ErrN a.c_NoDeed none e) ne
      exact ⟨e, a.c_NoDeed, none, rfl, upd_same, tx.Z_NoDeed, ke eh _ _ _ s1 e1⟩
    | cons z zs =>
      obtain ⟨n, ns, rfl⟩ : ∃ n ns, hist = n :: ns := by cases hist with | nil => cases lz | cons n ns => exact ⟨n, ns, rfl⟩
      obtain ⟨⟨t1, t2⟩, h5'⟩ := h5
      have h7' : (z.1 :: z.2 :: (fpZ zs ++ [x, wl, pa, dl])).Nodup := h7
      obtain ⟨n1, h72⟩ := List.nodup_cons.mp h7'
      obtain ⟨n2, h73⟩ := List.nodup_cons.mp h72
      obtain ⟨d1, d2, d3, d4, d5, d6, d7, d8, d9, da, db⟩ := nd_z h73
      refine rd_dec (fun z => by rw [List.length_cons] at z; omega) (fun _ => ?_)
      repeat walk_at "go"
      refine rd_get h1 tx.C_Keeper tx.n_Keeper_deeds rfl ?_
      refine rd_tyL (SqL.of h4) ?_
      have h4' : H dl = some (.lst ((zs.reverse.map fun z => V.ref z.1) ++ [V.ref z.1])) := by rw [h4, List.reverse_cons, List.map_append]; rfl
      repeat walk_at "go"
      refine rd_pop h4' ?_
      obtain ⟨H1, i1, k1, g1⟩ := wr H dl _; rw [i1]
      have z1d : z.1 ≠ dl := fun y => n1 (by rw [y]; simp)
      have z2d : z.2 ≠ dl := fun y => n2 (by rw [y]; simp)
      have z1x : z.1 ≠ x := fun y => n1 (by rw [y]; simp)
      have z2x : z.2 ≠ x := fun y => n2 (by rw [y]; simp)
      have t11 := k1 _ _ t1 z1d
      have h11 := k1 _ _ h1 d8
      repeat walk_at "go"
      refine rd_put (fs' := kFs w pl wl pa dl) h11 tx.C_Keeper tx.n_Keeper_place (by simp [kFs]) rfl ?_
      obtain ⟨H2, i2, k2, g2⟩ := wr H1 x _; rw [i2]
      have t12 := k2 _ _ t11 z1x
      repeat walk_at "go"
      refine rd_put (fs' := kFs w pl z.2 pa dl) g2 tx.C_Keeper tx.n_Keeper_waits (by simp [kFs]) rfl ?_
      obtain ⟨H3, i3, k3, g3⟩ := wr H2 x _; rw [i3]
      have t13 := k3 _ _ t12 z1x
      have p3 : H3 pa = some (.lst []) := k3 _ _ (k2 _ _ (k1 _ _ h3 db) d7.symm) d7.symm
      repeat walk_at "go"
      refine rd_get g3 tx.C_Keeper tx.n_Keeper_past rfl ?_
      repeat walk_at "go"
      refine rd_slL (SqL.of p3) ?_
      intro pb npb
      obtain ⟨H4, i4, s4, g4⟩ := nw _ npb; rw [i4]
      have g4' : H4 pb = some (.lst []) := g4
      have pbx : pb ≠ x := fun y => by rw [y, g3] at npb; cases npb
      have pbd : pb ≠ dl := fun y => by rw [y, k3 _ _ (k2 _ _ g1 (Ne.symm d8)) (Ne.symm d8)] at npb; cases npb
      have npbH : H pb = none := by
        cases e : H pb with
        | none => rfl
        | some o => rw [k3 _ _ (k2 _ _ (k1 _ _ e pbd) pbx) pbx] at npb; cases npb
      have old : ∀ b, H b ≠ none → b ≠ pb := fun b hb y => hb (by rw [y]; exact npbH)
      repeat walk_at "go"
      refine rd_put (fs' := kFs w pl z.2 pb dl) (s4 _ _ g3) tx.C_Keeper tx.n_Keeper_past (by simp [kFs]) rfl ?_
      obtain ⟨H5, i5, k5, g5⟩ := wr H4 x _; rw [i5]
      have t15 := k5 _ _ (s4 _ _ t13) z1x
      repeat walk_at "go"
      refine rd_put (fs' := kFs w pl z.2 pb dl) g5 tx.C_Keeper tx.n_Keeper_cost (by simp [kFs]) rfl ?_
      obtain ⟨H6, i6, k6, g6⟩ := wr H5 x _; rw [i6]
      repeat walk_at "go"
      have up : ∀ b o, H b = some o → b ≠ x → b ≠ dl → H6 b = some o := fun b o e nx nd => k6 _ _ (k5 _ _ (s4 _ _ (k3 _ _ (k2 _ _ (k1 _ _ e nd) nx) nx)) nx) nx
      have dl6 : H6 dl = some (.lst (zs.reverse.map fun z => V.ref z.1)) := k6 _ _ (k5 _ _ (s4 _ _ (k3 _ _ (k2 _ _ g1 d8.symm) d8.symm)) d8.symm) d8.symm
      have pb6 : H6 pb = some (.lst []) := k6 _ _ (k5 _ _ g4' pbx) pbx
      have pbz : pb ∉ fpZ zs := fun y => old pb (h5'.has pb y) rfl
      refine kq n ns rfl H6 (fpZ zs ++ [x, z.2, pb, dl]) ⟨dx, w, z.2, pb, dl, zs, g6, up _ _ t2 z2x z2d, pb6, dl6, h5'.keep fun b hb o e => up b o e (fun y => d2 (y ▸ hb)) (fun y => d5 (y ▸ hb)), rfl, z_nd ⟨d1, d2, fun y => n2 (List.mem_append_left _ y), pbz, d5, z2x.symm, pbx.symm, d8, old _ (by rw [t2]; exact fun y => by cases y), z2d, pbd⟩⟩ (fun b hb => ?_) (fun b o e nb => up b o e (fun y => nb (by rw [y]; simp)) (fun y => nb (by rw [y]; simp)))
      rcases List.mem_append.mp hb with hb | hb
      · exact .inl (List.mem_append_left _ (.tail _ (.tail _ hb)))
      · simp only [List.mem_cons, List.not_mem_nil, or_false] at hb
        rcases hb with rfl | rfl | rfl | rfl
        · exact .inl (by simp)
        · exact .inl (List.mem_append_left _ (.tail _ (.head _)))
        · exact .inr npbH
        · exact .inl (by simp)
def sp_Keeper_waiting (K : PySem.W.Frag) (CK : Addr) : Sp := fun vs H Q _ => ∃ (x pl : Addr) (ws : List Int) (hist : List (List Int)) (fp : List Addr), vs = [.ref x] ∧ KpAt CK H x pl ws hist fp ∧ ∀ l H', Same H H' → H l = none → H' l = some (.lst (ws.map V.int)) → Q (.ref l) H'
set_option maxHeartbeats 40000000 in
theorem ok_Keeper_waiting {P : Program} {w : World} {K : PySem.W.Frag} {mg : Str → Option Value} {base : Heap} {a : Adr} (tx : Txt K mg a) : FnOk P w K mg base CX0 1 a.f_Keeper_waiting a.d_Keeper_waiting ["self"] (sp_Keeper_waiting K a.c_Keeper) := by
  refine tx.F_Keeper_waiting.ok sc_Keeper_waiting (fun vs H Q E h => ?_) (fun cdv A outer s H vs Q E hr h => ?_)
  · obtain ⟨x, pl, ws, hist, fp, rfl, _⟩ := h
    rfl
  · obtain ⟨x, pl, ws, hist, fp, rfl , hk, k⟩ := h
    have hu := hu9 hr
    refine L2.Q.root (L2.Q.pss_one (L2.Q.ps_ret (L2.Q.pe_callTyN (rc := rListOf K) call_listG (by rfl) tx.z_list bt_list (L2.Q.pa_c (L2.Q.pe_fldK (K' := K) (L2.Q.pv 0) rfl) L2.Q.pa_nil)))) ?_
    refine rd_start (σ := [some (.ref x)]) rfl ?_
    obtain ⟨dx, w, wl, pa, dl, zs, h1, h2, h3, h4, h5, rfl, h7⟩ := hk.ex
    repeat walk_at "go"
    refine rd_get h1 tx.C_Keeper tx.n_Keeper_waits rfl ?_
    repeat walk_at "go"
    refine rd_listL (SqL.of h2) ?_
    intro L nL
    obtain ⟨H1, i1, s1, g1⟩ := nw _ nL; rw [i1]
    exact k L H1 s1 nL g1
def sp_Keeper_gone (K : PySem.W.Frag) (CK : Addr) : Sp := fun vs H Q _ => ∃ (x pl : Addr) (ws : List Int) (hist : List (List Int)) (fp : List Addr), vs = [.ref x] ∧ KpAt CK H x pl ws hist fp ∧ ∀ l H', Same H H' → H l = none → H' l = some (.lst []) → Q (.ref l) H'
set_option maxHeartbeats 40000000 in
theorem ok_Keeper_gone {P : Program} {w : World} {K : PySem.W.Frag} {mg : Str → Option Value} {base : Heap} {a : Adr} (tx : Txt K mg a) : FnOk P w K mg base CX0 1 a.f_Keeper_gone a.d_Keeper_gone ["self"] (sp_Keeper_gone K a.c_Keeper) := by
  refine tx.F_Keeper_gone.ok sc_Keeper_gone (fun vs H Q E h => ?_) (fun cdv A outer s H vs Q E hr h => ?_)
  · obtain ⟨x, pl, ws, hist, fp, rfl, _⟩ := h
    rfl
  · obtain ⟨x, pl, ws, hist, fp, rfl , hk, k⟩ := h
    have hu := hu9 hr
    refine L2.Q.root (L2.Q.pss_one (L2.Q.ps_ret (L2.Q.pe_callTyN (rc := rListOf K) call_listG (by rfl) tx.z_list bt_list (L2.Q.pa_c (L2.Q.pe_fldK (K' := K) (L2.Q.pv 0) rfl) L2.Q.pa_nil)))) ?_
    refine rd_start (σ := [some (.ref x)]) rfl ?_
    obtain ⟨dx, w, wl, pa, dl, zs, h1, h2, h3, h4, h5, rfl, h7⟩ := hk.ex
    repeat walk_at "go"
    refine rd_get h1 tx.C_Keeper tx.n_Keeper_past rfl ?_
    repeat walk_at "go"
    refine rd_listL (SqL.of h3) ?_
    intro L nL
    obtain ⟨H1, i1, s1, g1⟩ := nw _ nL; rw [i1]
    exact k L H1 s1 nL g1
def sp_Keeper_now (K : PySem.W.Frag) (CK : Addr) : Sp := fun vs H Q _ => ∃ (x pl : Addr) (ws : List Int) (hist : List (List Int)) (fp : List Addr), vs = [.ref x] ∧ KpAt CK H x pl ws hist fp ∧ Q (.ref pl) H
set_option maxHeartbeats 40000000 in
theorem ok_Keeper_now {P : Program} {w : World} {K : PySem.W.Frag} {mg : Str → Option Value} {base : Heap} {a : Adr} (tx : Txt K mg a) : FnOk P w K mg base CX0 1 a.f_Keeper_now a.d_Keeper_now ["self"] (sp_Keeper_now K a.c_Keeper) := by
  refine tx.F_Keeper_now.ok sc_Keeper_now (fun vs H Q E h => ?_) (fun cdv A outer s H vs Q E hr h => ?_)
  · obtain ⟨x, pl, ws, hist, fp, rfl, _⟩ := h
    rfl
  · obtain ⟨x, pl, ws, hist, fp, rfl , hk, k⟩ := h
    have hu := hu9 hr
    refine L2.Q.root (L2.Q.pss_one (L2.Q.ps_ret (L2.Q.pe_fldK (K' := K) (L2.Q.pv 0) rfl))) ?_
    refine rd_start (σ := [some (.ref x)]) rfl ?_
    obtain ⟨dx, w, wl, pa, dl, zs, h1, h2, h3, h4, h5, rfl, h7⟩ := hk.ex
    repeat walk_at "go"
    exact rd_get h1 tx.C_Keeper tx.n_Keeper_place rfl k
def sp_Keeper_spent (K : PySem.W.Frag) (CK : Addr) : Sp := fun vs H Q _ => ∃ (x pl : Addr) (ws : List Int) (hist : List (List Int)) (fp : List Addr), vs = [.ref x] ∧ KpAt CK H x pl ws hist fp ∧ Q (.int 0) H
set_option maxHeartbeats 40000000 in
theorem ok_Keeper_spent {P : Program} {w : World} {K : PySem.W.Frag} {mg : Str → Option Value} {base : Heap} {a : Adr} (tx : Txt K mg a) : FnOk P w K mg base CX0 1 a.f_Keeper_spent a.d_Keeper_spent ["self"] (sp_Keeper_spent K a.c_Keeper) := by
  refine tx.F_Keeper_spent.ok sc_Keeper_spent (fun vs H Q E h => ?_) (fun cdv A outer s H vs Q E hr h => ?_)
  · obtain ⟨x, pl, ws, hist, fp, rfl, _⟩ := h
    rfl
  · obtain ⟨x, pl, ws, hist, fp, rfl , hk, k⟩ := h
    have hu := hu9 hr
    refine L2.Q.root (L2.Q.pss_one (L2.Q.ps_ret (L2.Q.pe_fldK (K' := K) (L2.Q.pv 0) rfl))) ?_
    refine rd_start (σ := [some (.ref x)]) rfl ?_
    obtain ⟨dx, w, wl, pa, dl, zs, h1, h2, h3, h4, h5, rfl, h7⟩ := hk.ex
    repeat walk_at "go"
    exact rd_get h1 tx.C_Keeper tx.n_Keeper_cost rfl k
theorem SmV.ints {H : Hp} {j : Nat} {p q : Addr} {ns : List Int} (h1 : H p = some (.lst (ns.map V.int))) (h2 : H q = some (.lst (ns.map V.int))) (hl : ns.length ≤ 1000000) : SmV H (j + 2) (.ref p) (.ref q) := by
  refine .inr (.inr (.inr (.inr ⟨p, q, _, _, rfl, rfl, .inr ⟨h1, h2⟩, rfl, by rw [List.length_map]; exact hl, fun i u v hu hv => ?_⟩)))
  rw [hu] at hv
  cases hv
  rw [List.getElem?_map] at hu
  obtain ⟨n, _, rfl⟩ := Option.map_eq_some_iff.mp hu
  exact SmV.int n
theorem PosAt.sm1 {H : Hp} {p : Addr} {P : Ps} (h : PosAt H p P) (hl : P.1.length ≤ 1000000) : SmV H 6 (.ref p) (.ref p) := by
  obtain ⟨t, h1, h2⟩ := h.ex
  obtain ⟨qs, h3, h4⟩ := h2.ex
  refine .inr (.inr (.inr (.inr ⟨p, p, _, _, rfl, rfl, .inl ⟨h1, h1⟩, rfl, by simp, fun i u v hu hv => ?_⟩)))
  rw [hu] at hv
  cases hv
  match i, hu with
  | 0, hu =>
    cases hu
    refine .inr (.inr (.inr (.inr ⟨t, t, _, _, rfl, rfl, .inl ⟨h3, h3⟩, rfl, by rw [List.length_map, h4.len]; exact hl, fun i u v hu hv => ?_⟩)))
    rw [hu] at hv
    cases hv
    obtain ⟨q, s, _, rfl, _, hq⟩ := h4.get hu
    exact SmV.pair hq hq
  | 1, hu => cases hu; exact SmV.int _
  | _ + 2, hu => simp at hu
def HistAt (H : Hp) : List Addr → List (List Int) → Prop
  | [], [] => True
  | l :: ls, n :: ns => H l = some (.lst (n.map V.int)) ∧ HistAt H ls ns
  | _, _ => False
theorem HistAt.keep {H H' : Hp} : ∀ {ls : List Addr} {hist : List (List Int)}, HistAt H ls hist → (∀ b ∈ ls, ∀ o, H b = some o → H' b = some o) → HistAt H' ls hist
  | [], [], _, _ => trivial
  | l :: ls, n :: ns, h, k => ⟨k _ (.head _) _ h.1, HistAt.keep h.2 fun b hb => k b (.tail _ hb)⟩
  | [], _ :: _, h, _ => h.elim
  | _ :: _, [], h, _ => h.elim
theorem HistAt.has {H : Hp} : ∀ {ls : List Addr} {hist : List (List Int)}, HistAt H ls hist → ∀ b ∈ ls, H b ≠ none
  | [], [], _, b, hb => by cases hb
  | l :: ls, n :: ns, h, b, hb => by
    rcases List.mem_cons.mp hb with rfl | hb
    · rw [h.1]; exact fun z => by cases z
    · exact HistAt.has h.2 b hb
  | [], _ :: _, h, _, _ => h.elim
  | _ :: _, [], h, _, _ => h.elim
theorem HistAt.len {H : Hp} : ∀ {ls : List Addr} {hist : List (List Int)}, HistAt H ls hist → ls.length = hist.length
  | [], [], _ => rfl
  | l :: ls, n :: ns, h => by rw [List.length_cons, List.length_cons, HistAt.len h.2]
  | [], _ :: _, h => h.elim
  | _ :: _, [], h => h.elim
structure LwAt (H : Hp) (wa pa : Addr) (ws : List Int) (hist : List (List Int)) (fp : List Addr) : Prop where
  ex : ∃ ls : List Addr, H wa = some (.lst (ws.map V.int)) ∧ H pa = some (.lst (ls.reverse.map V.ref)) ∧ HistAt H ls hist ∧ fp = ls ++ [wa, pa] ∧ fp.Nodup
theorem LwAt.keep {H H' : Hp} {wa pa : Addr} {ws : List Int} {hist : List (List Int)} {fp : List Addr} (h : LwAt H wa pa ws hist fp) (f : ∀ b ∈ fp, ∀ o, H b = some o → H' b = some o) : LwAt H' wa pa ws hist fp := by
  obtain ⟨ls, h1, h2, h3, rfl, h5⟩ := h.ex
  exact ⟨ls, f _ (by simp) _ h1, f _ (by simp) _ h2, h3.keep fun b hb => f b (List.mem_append_left _ hb), rfl, h5⟩
theorem LwAt.has {H : Hp} {wa pa : Addr} {ws : List Int} {hist : List (List Int)} {fp : List Addr} (h : LwAt H wa pa ws hist fp) : ∀ b ∈ fp, H b ≠ none := by
  obtain ⟨ls, h1, h2, h3, rfl, h5⟩ := h.ex
  intro b hb
  rcases List.mem_append.mp hb with hb | hb
  · exact h3.has b hb
  · simp only [List.mem_cons, List.not_mem_nil, or_false] at hb
    rcases hb with rfl | rfl
    · rw [h1]; exact fun z => by cases z
    · rw [h2]; exact fun z => by cases z
theorem nd_l {ls : List Addr} {wa pa : Addr} (h : (ls ++ [wa, pa]).Nodup) : ls.Nodup ∧ wa ∉ ls ∧ pa ∉ ls ∧ wa ≠ pa := by
  rw [List.nodup_append] at h
  obtain ⟨h1, h2, h3⟩ := h
  simp only [List.nodup_cons, List.mem_cons, List.not_mem_nil, or_false] at h2
  exact ⟨h1, fun z => h3 _ z wa (by simp) rfl, fun z => h3 _ z pa (by simp) rfl, h2.1⟩
theorem l_nd {ls : List Addr} {wa pa : Addr} (h1 : ls.Nodup) (h2 : wa ∉ ls) (h3 : pa ∉ ls) (h4 : wa ≠ pa) : (ls ++ [wa, pa]).Nodup := by
  rw [List.nodup_append]
  refine ⟨h1, ?_, fun b hb c hc e => ?_⟩
  · simp only [List.nodup_cons, List.mem_cons, List.not_mem_nil, or_false, not_false_eq_true, List.nodup_nil, and_true]
    exact h4
  · subst e
    simp only [List.mem_cons, List.not_mem_nil, or_false] at hc
    rcases hc with rfl | rfl
    · exact h2 hb
    · exact h3 hb
structure PrAt (CK : Addr) (H : Hp) (k wa pa pl : Addr) (ws : List Int) (hist : List (List Int)) (fp : List Addr) : Prop where
  ex : ∃ fa fb, KpAt CK H k pl ws hist fa ∧ LwAt H wa pa ws hist fb ∧ fp = fa ++ fb ∧ ∀ b ∈ fa, b ∉ fb
theorem PrAt.keep {CK : Addr} {H H' : Hp} {k wa pa pl : Addr} {ws : List Int} {hist : List (List Int)} {fp : List Addr} (h : PrAt CK H k wa pa pl ws hist fp) (f : ∀ b ∈ fp, ∀ o, H b = some o → H' b = some o) : PrAt CK H' k wa pa pl ws hist fp := by
  obtain ⟨fa, fb, h1, h2, rfl, h4⟩ := h.ex
  exact ⟨fa, fb, h1.keep fun b hb => f b (List.mem_append_left _ hb), h2.keep fun b hb => f b (List.mem_append_right _ hb), rfl, h4⟩
theorem PrAt.same {CK : Addr} {H H' : Hp} {k wa pa pl : Addr} {ws : List Int} {hist : List (List Int)} {fp : List Addr} (h : PrAt CK H k wa pa pl ws hist fp) (s : Same H H') : PrAt CK H' k wa pa pl ws hist fp := h.keep fun b _ o e => s b o e
theorem PrAt.has {CK : Addr} {H : Hp} {k wa pa pl : Addr} {ws : List Int} {hist : List (List Int)} {fp : List Addr} (h : PrAt CK H k wa pa pl ws hist fp) : ∀ b ∈ fp, H b ≠ none := by
  obtain ⟨fa, fb, h1, h2, rfl, h4⟩ := h.ex
  intro b hb
  rcases List.mem_append.mp hb with hb | hb
  · exact h1.has b hb
  · exact h2.has b hb
theorem apart {CK : Addr} {H H1 H2 : Hp} {k wa pa pl : Addr} {ws ws' : List Int} {hist hist' : List (List Int)} {fa fb fa' fb' : List Addr} (ka : KpAt CK H k pl ws hist fa) (d : ∀ b ∈ fa, b ∉ fb) (lb : LwAt H1 wa pa ws' hist' fb') (gb : Gr H fb fb') (ga : Gr H1 fa fa') : ∀ b ∈ fa', b ∉ fb' := fun b h1 h2 => by
  rcases ga b h1 with z | z
  · rcases gb b h2 with y | y
    · exact d b z y
    · exact ka.has b z y
  · exact lb.has b h2 z
def Bd (ws : List Int) (hist : List (List Int)) : Prop := ws.length ≤ 48 ∧ ∀ n ∈ hist, n.length ≤ 48
def sp__law_changed (K : PySem.W.Frag) (CK : Addr) : Sp := fun vs H Q _ => ∃ (x pl : Addr) (ws : List Int) (hist : List (List Int)) (fp : List Addr) (at_ : Nat) (n : Int), vs = [.ref x, .int (at_ : Int), .int n] ∧ KpAt CK H x pl ws hist fp ∧ hist.length ≤ 1000 ∧ ws.length ≤ 1000 ∧
  (at_ < ws.length → ∀ H' fq, KpAt CK H' x pl (ws.set at_ n) (ws :: hist) fq → Gr H fp fq → Fx fp H H' → Q (.str "told") H') ∧ (¬ at_ < ws.length → ∀ H', Same H H' → Q (.str "hour") H')
set_option maxHeartbeats 40000000 in
theorem ok__law_changed {P : Program} {w : World} {K : PySem.W.Frag} {mg : Str → Option Value} {base : Heap} {a : Adr} (tx : Txt K mg a) : FnOk P w K mg base CX0 3 a.f__law_changed a.d__law_changed ["_law_keeper", "_law_at", "_law_want_here"] (sp__law_changed K a.c_Keeper) := by
  have G_Keeper_change := ok_Keeper_change (P := P) (w := w) (base := base) tx
  refine tx.F__law_changed.ok sc__law_changed (fun vs H Q E h => ?_) (fun cdv A outer s H vs Q E hr h => ?_)
  · obtain ⟨x, pl, ws, hist, fp, at_, n, rfl, _⟩ := h
    rfl
  · obtain ⟨x, pl, ws, hist, fp, at_, n, rfl , hk, hz, hy, kq, ke⟩ := h
    have hu := hu9 hr
    refine L2.Q.root (L2.Q.pss_one (L2.Q.ps_try rfl rfl (fun pn W => (L2.Q.pss_one (L2.Q.ps_ret (L2.Q.pe_ixK (K' := K) (L2.Q.lst2 L2.Q.pe_str L2.Q.pe_str) (L2.Q.pe_callTyN call_intG (by rfl) tx.z_int bt_int (L2.Q.pa_c (L2.Q.pe_cmpR op_isG (L2.Q.pe_methX (pn := pn) (W := W) (L2.Q.pv 0) tx.C_Keeper tx.m_Keeper_change (G_Keeper_change) (hr.mono (by decide)) tx.b_Keeper_change (L2.Q.pa_c (L2.Q.pv 1) (L2.Q.pa_c (L2.Q.pv 2) L2.Q.pa_nil))) L2.Q.pe_non (nomark _)) L2.Q.pa_nil)) (fun _ _ => rfl))))) (L2.Q.ph_as (K' := K) (i := 3) (by rfl) tx.g_StintError sc__law_changed.nd rfl rfl (fun _ => (L2.Q.pss_cons (L2.Q.ps_if (L2.Q.pw_pt (L2.Q.pw_or (L2.Q.pt_val (L2.Q.pe_callBN (rc := rIsiTE K) call_isiTE (by rfl) tx.z_isinstance bt_isinstance (L2.Q.pa_c (L2.Q.pv 3) (L2.Q.pa_c (L2.Q.tup5 (L2.Q.pe_glob (v := .ref a.c_Wrong) (by rfl) tx.g_Wrong rfl) (L2.Q.pe_glob (v := .ref a.c_NotNow) (by rfl) tx.g_NotNow rfl) (L2.Q.pe_glob (v := .ref a.c_TooMany) (by rfl) tx.g_TooMany rfl) (L2.Q.pe_glob (v := .ref a.c_NoDeed) (by rfl) tx.g_NoDeed rfl) (L2.Q.pe_glob (v := .ref a.c_NoText) (by rfl) tx.g_NoText rfl)) L2.Q.pa_nil)))) (L2.Q.pw_or1 (L2.Q.pt_not (L2.Q.pt_val (L2.Q.pe_callBN (rc := rIsiE K) call_isiE (by rfl) tx.z_isinstance bt_isinstance (L2.Q.pa_c (L2.Q.pv 3) (L2.Q.pa_c (L2.Q.pe_bltn (v := .ty "ValueError") (by rfl) tx.z_ValueError bt_ValueError rfl) L2.Q.pa_nil)))))))) (L2.Q.pss_one (L2.Q.ps_ret L2.Q.pe_str)) L2.Q.pss_nil)
      (L2.Q.pss_one (L2.Q.ps_ret (L2.Q.pe_ixK (K' := K) (L2.Q.lst2 L2.Q.pe_str L2.Q.pe_str) (L2.Q.pe_callTyN call_intG (by rfl) tx.z_int bt_int (L2.Q.pa_c (L2.Q.pe_callBN (rc := rIsiE K) call_isiE (by rfl) tx.z_isinstance bt_isinstance (L2.Q.pa_c (L2.Q.pv 3) (L2.Q.pa_c (L2.Q.pe_glob (v := .ref a.c_NoHour) (by rfl) tx.g_NoHour rfl) L2.Q.pa_nil))) L2.Q.pa_nil)) (fun _ _ => rfl)))))) L2.Q.ph_no))) ?_
    refine rd_start (σ := [some (.ref x), some (.int (at_ : Int)), some (.int n), none]) rfl ?_
    obtain ⟨dx0, w0, wl0, pa0, dl0, zs0, h10, _⟩ := id hk.ex
    repeat walk_at "go"
    intro l nl
    obtain ⟨H1, i1, s1, g1⟩ := nw _ nl; rw [i1]
    repeat walk_at "go"
    refine ⟨x, dx0, _, rfl, s1 _ _ h10, rfl, ?_⟩
    repeat walk_at "go"
    refine ⟨x, pl, ws, hist, fp, at_, n, rfl, hk.same s1, hz, hy, fun hat H2 fq hk2 gr f2 => ?_, fun hno e od H2 s2 he => ⟨e, rfl, ?_⟩⟩
    · have lf : l ∉ fp := fun z => hk.has l z nl
      have g2 := f2 _ _ g1 lf
      repeat walk_at "go"
      refine kq hat H2 fq hk2 (fun b hb => ?_) (fun b o e nb => f2 b o (s1 b o e) nb)
      rcases gr b hb with z | z
      · exact .inl z
      · exact .inr (s1.free z)
    · have h1 : H2 e = some (ErrO a.c_NoHour none e) := he
      refine rd_hasT h1 tx.Z_NoHour tx.x_NoHour_StintError ?_
      repeat walk_at "go"
      intro p np
      obtain ⟨H3, i3, s3, g3⟩ := nw _ np; rw [i3]
      have g3' : H3 p = some (.tup ([a.c_Wrong, a.c_NotNow, a.c_TooMany, a.c_NoDeed, a.c_NoText].map V.ref)) := g3
      have h13 := s3 _ _ h1
      repeat walk_at "go"
      refine rd_isiTE h13 DictOk.none tx.Z_NoHour g3' (kitAny_f tx.k_NoHour_Wrong (kitAny_f tx.k_NoHour_NotNow (kitAny_f tx.k_NoHour_TooMany (kitAny_f tx.k_NoHour_NoDeed (kitAny_f tx.k_NoHour_NoText rfl))))) ?_
      repeat walk_at "go"
      refine rd_isiEt h13 DictOk.none tx.Z_NoHour tx.k_NoHour_ValueError ?_
      repeat walk_at "go"
      intro l2 nl2
      obtain ⟨H4, i4, s4, g4⟩ := nw _ nl2; rw [i4]
      repeat walk_at "go"
      refine rd_isiE (s4 _ _ h13) DictOk.none tx.Z_NoHour tx.k_NoHour_NoHour ?_
      repeat walk_at "go"
      exact ke hno _ (s1.trans (s2.trans (s3.trans s4)))
def sp__law_gone (K : PySem.W.Frag) (CK : Addr) : Sp := fun vs H Q _ => ∃ (x pl : Addr) (hist : List (List Int)) (fp : List Addr), vs = [.ref x] ∧ KpAt CK H x pl [] hist fp ∧ ∀ H', Same H H' → Q (.bl true) H'
set_option maxHeartbeats 40000000 in
theorem ok__law_gone {P : Program} {w : World} {K : PySem.W.Frag} {mg : Str → Option Value} {base : Heap} {a : Adr} (tx : Txt K mg a) : FnOk P w K mg base CX0 2 a.f__law_gone a.d__law_gone ["_law_keeper"] (sp__law_gone K a.c_Keeper) := by
  have G_Keeper_go := ok_Keeper_go (P := P) (w := w) (base := base) tx
  refine tx.F__law_gone.ok sc__law_gone (fun vs H Q E h => ?_) (fun cdv A outer s H vs Q E hr h => ?_)
  · obtain ⟨x, pl, hist, fp, rfl, _⟩ := h
    rfl
  · obtain ⟨x, pl, hist, fp, rfl , hk, k⟩ := h
    have hu := hu9 hr
    refine L2.Q.root (L2.Q.pss_cons (L2.Q.ps_try rfl rfl (fun pn W => (L2.Q.pss_one (L2.Q.ps_expr (L2.Q.pe_methX0 (pn := pn) (W := W) (L2.Q.pv 0) tx.C_Keeper tx.m_Keeper_go (G_Keeper_go) (hr.mono (by decide)) tx.b_Keeper_go)))) (L2.Q.ph_cl (K' := K) (by rfl) tx.g_NoHour (fun _ => (L2.Q.pss_one (L2.Q.ps_ret L2.Q.pe_bl))) L2.Q.ph_no))
      (L2.Q.pss_one (L2.Q.ps_ret L2.Q.pe_bl))) ?_
    refine rd_start (σ := [some (.ref x)]) rfl ?_
    obtain ⟨dx0, w0, wl0, pa0, dl0, zs0, h10, _⟩ := id hk.ex
    repeat walk_at "go"
    refine ⟨x, dx0, _, rfl, h10, rfl, ?_⟩
    repeat walk_at "go"
    refine ⟨x, pl, hist, fp, rfl, hk, fun e od H2 s2 he => ⟨e, rfl, ?_⟩⟩
    have h1 : H2 e = some (ErrO a.c_NoHour none e) := he
    refine rd_hclT h1 tx.Z_NoHour tx.x_NoHour_NoHour ?_
    repeat walk_at "go"
    exact k _ s2
def sp__law_looks (K : PySem.W.Frag) (CK : Addr) : Sp := fun vs H Q _ => ∃ (x pl wa : Addr) (ws : List Int) (hist : List (List Int)) (fp : List Addr) (P : Ps) (f : Int), vs = [.ref x, .ref pl, .ref wa, .int f] ∧ KpAt CK H x pl ws hist fp ∧ H wa = some (.lst (ws.map V.int)) ∧ ws.length ≤ 48 ∧ PosAt H pl P ∧ P.1.length ≤ 6 ∧ 0 ≤ f ∧ ∀ H', Same H H' → Q (.bl true) H'
set_option maxHeartbeats 40000000 in
theorem ok__law_looks {P : Program} {w : World} {K : PySem.W.Frag} {mg : Str → Option Value} {base : Heap} {a : Adr} (tx : Txt K mg a) : FnOk P w K mg base CX0 8 a.f__law_looks a.d__law_looks ["_law_keeper", "_law_position_here", "_law_wants", "_law_first"] (sp__law_looks K a.c_Keeper) := by
  have G_Keeper_gone := ok_Keeper_gone (P := P) (w := w) (base := base) tx
  have G_Keeper_now := ok_Keeper_now (P := P) (w := w) (base := base) tx
  have G_Keeper_spent := ok_Keeper_spent (P := P) (w := w) (base := base) tx
  have G_Keeper_waiting := ok_Keeper_waiting (P := P) (w := w) (base := base) tx
  have G__law_same := ok__law_same (P := P) (w := w) (base := base) tx 6
  refine tx.F__law_looks.ok sc__law_looks (fun vs H Q E h => ?_) (fun cdv A outer s H vs Q E hr h => ?_)
  · obtain ⟨x, pl, wa, ws, hist, fp, P, f, rfl, _⟩ := h
    rfl
  · obtain ⟨x, pl, wa, ws, hist, fp, P, f, rfl , hk, hw, hl, hP, hP6, f0, k⟩ := h
    have hu := hu9 hr
    refine L2.Q.root (L2.Q.pss_cons (L2.Q.ps_for PassesOwn.never rfl (L2.Q.pi_range1N (by rfl) tx.z_range (L2.Q.pa_c L2.Q.pe_int L2.Q.pa_nil)) (L2.Q.pg_name (i := 4) sc__law_looks.nd rfl (Or.inl rfl)) (L2.Q.pss_cons (L2.Q.ps_set (i := 5) sc__law_looks.nd rfl (Or.inl rfl) (L2.Q.pe_op op_mod (L2.Q.pe_op op_addG (L2.Q.pv 3) (L2.Q.pv 4)) L2.Q.pe_int))
      (L2.Q.pss_cons (L2.Q.ps_if (L2.Q.pt_cmpR (r := rEqG K) (op_eqG hu) (L2.Q.pv 5) L2.Q.pe_int (nomark _)) (L2.Q.pss_cons (L2.Q.ps_set (i := 6) sc__law_looks.nd rfl (Or.inl rfl) (L2.Q.pe_meth0 (L2.Q.pv 0) tx.C_Keeper tx.m_Keeper_waiting (G_Keeper_waiting) (hr.mono (by decide)) tx.b_Keeper_waiting .nil pass0))
      (L2.Q.pss_cons (L2.Q.ps_if (L2.Q.pt_not (L2.Q.pt_val (L2.Q.pe_callN (G__law_same) (hr.mono (by decide)) (by rfl) tx.g__law_same tx.F__law_same.kp tx.b__law_same .nil pass0 (L2.Q.pa_c (L2.Q.pv 6) (L2.Q.pa_c (L2.Q.pv 2) L2.Q.pa_nil))))) (L2.Q.pss_one (L2.Q.ps_ret L2.Q.pe_bl)) L2.Q.pss_nil)
      (L2.Q.pss_one (L2.Q.ps_expr (L2.Q.pe_appK (K' := K) (L2.Q.pv 6) (L2.Q.pa_c L2.Q.pe_int L2.Q.pa_nil)))))) L2.Q.pss_nil)
      (L2.Q.pss_cons (L2.Q.ps_if (L2.Q.pt_cmpR (r := rEqG K) (op_eqG hu) (L2.Q.pv 5) L2.Q.pe_int (nomark _)) (L2.Q.pss_cons (L2.Q.ps_set (i := 6) sc__law_looks.nd rfl (Or.inl rfl) (L2.Q.pe_meth0 (L2.Q.pv 0) tx.C_Keeper tx.m_Keeper_gone (G_Keeper_gone) (hr.mono (by decide)) tx.b_Keeper_gone .nil pass0))
      (L2.Q.pss_cons (L2.Q.ps_if (L2.Q.pt_not (L2.Q.pt_val (L2.Q.pe_callN (G__law_same) (hr.mono (by decide)) (by rfl) tx.g__law_same tx.F__law_same.kp tx.b__law_same .nil pass0 (L2.Q.pa_c (L2.Q.pv 6) (L2.Q.pa_c (L2.Q.pe_lst L2.Q.pa_nil) L2.Q.pa_nil))))) (L2.Q.pss_one (L2.Q.ps_ret L2.Q.pe_bl)) L2.Q.pss_nil)
      (L2.Q.pss_one (L2.Q.ps_expr (L2.Q.pe_appK (K' := K) (L2.Q.pv 6) (L2.Q.pa_c (L2.Q.tup2 L2.Q.pe_int (L2.Q.pe_tup L2.Q.pa_nil)) L2.Q.pa_nil)))))) L2.Q.pss_nil)
      (L2.Q.pss_cons (L2.Q.ps_if (L2.Q.pw_pt (L2.Q.pw_and (L2.Q.pt_cmpR (r := rEqG K) (op_eqG hu) (L2.Q.pv 5) L2.Q.pe_int (nomark _)) (L2.Q.pw_and1 (L2.Q.pt_not (L2.Q.pt_val (L2.Q.pe_callN (G__law_same) (hr.mono (by decide)) (by rfl) tx.g__law_same tx.F__law_same.kp tx.b__law_same .nil pass0 (L2.Q.pa_c (L2.Q.pe_meth0 (L2.Q.pv 0) tx.C_Keeper tx.m_Keeper_spent (G_Keeper_spent) (hr.mono (by decide)) tx.b_Keeper_spent .nil pass0) (L2.Q.pa_c L2.Q.pe_int L2.Q.pa_nil)))))))) (L2.Q.pss_one (L2.Q.ps_ret L2.Q.pe_bl)) L2.Q.pss_nil)
      (L2.Q.pss_one (L2.Q.ps_if (L2.Q.pw_pt (L2.Q.pw_and (L2.Q.pt_cmpR (r := rEqG K) (op_eqG hu) (L2.Q.pv 5) L2.Q.pe_int (nomark _)) (L2.Q.pw_and1 (L2.Q.pt_not (L2.Q.pt_val (L2.Q.pe_callN (G__law_same) (hr.mono (by decide)) (by rfl) tx.g__law_same tx.F__law_same.kp tx.b__law_same .nil pass0 (L2.Q.pa_c (L2.Q.pe_meth0 (L2.Q.pv 0) tx.C_Keeper tx.m_Keeper_now (G_Keeper_now) (hr.mono (by decide)) tx.b_Keeper_now .nil pass0) (L2.Q.pa_c (L2.Q.pv 1) L2.Q.pa_nil)))))))) (L2.Q.pss_one (L2.Q.ps_ret L2.Q.pe_bl)) L2.Q.pss_nil)))))))
      (L2.Q.pss_one (L2.Q.ps_ret L2.Q.pe_bl))) ?_
    refine rd_start (σ := [some (.ref x), some (.ref pl), some (.ref wa), some (.int f), none, none, none]) rfl ?_
    repeat walk_at "go"
    refine ⟨by decide, by decide, ?_⟩
    refine rf_range (n := 4) (fun i σ' H' => Same H H' ∧ ∃ (z4 z5 z6 : Option V), σ' = [some (.ref x), some (.ref pl), some (.ref wa), some (.int f), z4, z5, z6]) ⟨Same.refl _, _, _, _, rfl⟩ (fun i σ' H' hi ⟨s1, z4, z5, z6, e⟩ => ?_) (fun σ' H' ⟨s1, z4, z5, z6, e⟩ => ?_)
    · subst e
      have hk1 := hk.same s1
      have hw1 := s1 _ _ hw
      obtain ⟨dx0, w0, wl0, pa0, dl0, zs0, h10, _⟩ := id hk1.ex
      refine rd_seq ?_
      repeat walk_at "st"
      generalize (f + (0 + (i : Int))) % 4 = way
      refine rd_seqJ (fun σ' H2 => Same H H2 ∧ ∃ z6, σ' = [some (.ref x), some (.ref pl), some (.ref wa), some (.int f), some (.int (0 + (i : Int))), some (.int way), z6]) (fun N hN => ?_) ?_
      · repeat walk_at "go"
        refine rd_dec (fun _ => ?_) (fun _ => ?_)
        · repeat walk_at "go"
          refine ⟨x, dx0, _, rfl, h10, rfl, ?_⟩
          repeat walk_at "go"
          refine ⟨x, pl, ws, hist, fp, rfl, hk1, fun l H2 s2 nl gl => ?_⟩
          repeat walk_at "go"
          refine ⟨.ref l, .ref wa, rfl, SmV.ints gl (s2 _ _ hw1) (by omega), fun H3 s3 => ?_⟩
          have gl3 := s3 _ _ gl
          repeat walk_at "go"
          refine rd_tyL (SqL.of gl3) ?_
          repeat walk_at "go"
          refine rd_app (xs := ws.map V.int) gl3 (Nat.lt_of_lt_of_le (by rw [List.length_map]; omega : (ws.map V.int).length < 2000) (sz_le (by simp))) ?_
          repeat walk_at "go"
          exact hN _ _ ⟨same_upd (s1.free nl) (s1.trans (s2.trans s3)), _, rfl⟩
        · repeat walk_at "go"
          exact hN _ _ ⟨s1, _, rfl⟩
      rintro σ2 H2 ⟨s2, z6, rfl⟩
      have hk2 := hk.same s2
      obtain ⟨dx2, w2, wl2, pa2, dl2, zs2, h12, _⟩ := id hk2.ex
      refine rd_seqJ (fun σ' H3 => Same H H3 ∧ ∃ z6, σ' = [some (.ref x), some (.ref pl), some (.ref wa), some (.int f), some (.int (0 + (i : Int))), some (.int way), z6]) (fun N hN => ?_) ?_
      · repeat walk_at "go"
        refine rd_dec (fun _ => ?_) (fun _ => ?_)
        · repeat walk_at "go"
          refine ⟨x, dx2, _, rfl, h12, rfl, ?_⟩
          repeat walk_at "go"
          refine ⟨x, pl, ws, hist, fp, rfl, hk2, fun l H3 s3 nl gl => ?_⟩
          repeat walk_at "go"
          intro l2 nl2
          obtain ⟨H4, i4, s4, g4⟩ := nw _ nl2; rw [i4]
          repeat walk_at "go"
          refine ⟨.ref l, .ref l2, rfl, SmV.ints (ns := []) (s4 _ _ gl) g4 (by simp), fun H5 s5 => ?_⟩
          have gl5 := s5 _ _ (s4 _ _ gl)
          repeat walk_at "go"
          refine rd_tyL (SqL.of gl5) ?_
          repeat walk_at "go"
          intro T nT
          obtain ⟨H6, i6, s6, g6⟩ := nw _ nT; rw [i6]
          repeat walk_at "go"
          intro T2 nT2
          obtain ⟨H7, i7, s7, g7⟩ := nw _ nT2; rw [i7]
          have s57 := s6.trans s7
          repeat walk_at "go"
          refine rd_app (xs := []) (s57 _ _ gl5) (Nat.lt_of_lt_of_le (by simp : ([] : List V).length < 2000) (sz_le (by simp))) ?_
          repeat walk_at "go"
          exact hN _ _ ⟨same_upd (s2.free nl) (s2.trans (s3.trans (s4.trans (s5.trans s57)))), _, rfl⟩
        · repeat walk_at "go"
          exact hN _ _ ⟨s2, _, rfl⟩
      rintro σ3 H3 ⟨s3, z6', rfl⟩
      have hk3 := hk.same s3
      obtain ⟨dx3, w3, wl3, pa3, dl3, zs3, h13, _⟩ := id hk3.ex
      refine rd_seqJ (fun σ' H4 => Same H H4 ∧ σ' = [some (.ref x), some (.ref pl), some (.ref wa), some (.int f), some (.int (0 + (i : Int))), some (.int way), z6']) (fun N hN => ?_) ?_
      · repeat walk_at "go"
        refine rd_dec (fun _ => ?_) (fun _ => ?_)
        · repeat walk_at "go"
          refine ⟨x, dx3, _, rfl, h13, rfl, ?_⟩
          repeat walk_at "go"
          refine ⟨x, pl, ws, hist, fp, rfl, hk3, ?_⟩
          repeat walk_at "go"
          refine ⟨_, _, rfl, SmV.int 0, fun H4 s4 => ?_⟩
          repeat walk_at "go"
          exact hN _ _ ⟨s3.trans s4, rfl⟩
        · repeat walk_at "go"
          exact hN _ _ ⟨s3, rfl⟩
      rintro σ4 H4 ⟨s4, rfl⟩
      have hk4 := hk.same s4
      obtain ⟨dx4, w4, wl4, pa4, dl4, zs4, h14, _⟩ := id hk4.ex
      repeat walk_at "go"
      refine rd_dec (fun _ => ?_) (fun _ => ?_)
      · repeat walk_at "go"
        refine ⟨x, dx4, _, rfl, h14, rfl, ?_⟩
        repeat walk_at "go"
        refine ⟨x, pl, ws, hist, fp, rfl, hk4, ?_⟩
        repeat walk_at "go"
        refine ⟨_, _, rfl, (hP.tk s4.tk).sm1 (by omega), fun H5 s5 => ?_⟩
        repeat walk_at "go"
        exact ⟨s4.trans s5, _, _, _, rfl⟩
      · repeat walk_at "go"
        exact ⟨s4, _, _, _, rfl⟩
    · subst e
      repeat walk_at "go"
      exact k _ s1
def sp__law_undone (K : PySem.W.Frag) (CK : Addr) : Sp := fun vs H Q _ => ∃ (x wa pa pl : Addr) (ws : List Int) (hist : List (List Int)) (fp : List Addr), vs = [.ref x, .ref wa, .ref pa] ∧ PrAt CK H x wa pa pl ws hist fp ∧ Bd ws hist ∧ hist.length ≤ 1000 ∧
  ∀ H' ws' hist' fp', PrAt CK H' x wa pa pl ws' hist' fp' → Gr H fp fp' → Fx fp H H' → Bd ws' hist' → hist'.length ≤ hist.length + 1 → Q (.bl true) H'
set_option maxHeartbeats 40000000 in
theorem ok__law_undone {P : Program} {w : World} {K : PySem.W.Frag} {mg : Str → Option Value} {base : Heap} {a : Adr} (tx : Txt K mg a) : FnOk P w K mg base CX0 2 a.f__law_undone a.d__law_undone ["_law_keeper", "_law_wants", "_law_past"] (sp__law_undone K a.c_Keeper) := by
  have G_Keeper_undo := ok_Keeper_undo (P := P) (w := w) (base := base) tx
  refine tx.F__law_undone.ok sc__law_undone (fun vs H Q E h => ?_) (fun cdv A outer s H vs Q E hr h => ?_)
  · obtain ⟨x, wa, pa, pl, ws, hist, fp, rfl, _⟩ := h
    rfl
  · obtain ⟨x, wa, pa, pl, ws, hist, fp, rfl , hp, hb, hz, k⟩ := h
    have hu := hu9 hr
    refine L2.Q.root (L2.Q.pss_cons (L2.Q.ps_if (L2.Q.pt_cmpR (r := rEqE K) (op_eqE hu) (L2.Q.pv 2) (L2.Q.pe_lst L2.Q.pa_nil) (nomark _)) (L2.Q.pss_cons (L2.Q.ps_try rfl rfl (fun pn W => (L2.Q.pss_one (L2.Q.ps_expr (L2.Q.pe_methX0 (pn := pn) (W := W) (L2.Q.pv 0) tx.C_Keeper tx.m_Keeper_undo (G_Keeper_undo) (hr.mono (by decide)) tx.b_Keeper_undo)))) (L2.Q.ph_cl (K' := K) (by rfl) tx.g_NoDeed (fun _ => (L2.Q.pss_one (L2.Q.ps_ret L2.Q.pe_bl))) L2.Q.ph_no))
      (L2.Q.pss_one (L2.Q.ps_ret L2.Q.pe_bl))) L2.Q.pss_nil)
      (L2.Q.pss_cons (L2.Q.ps_expr (L2.Q.pe_clearK (K' := K) (L2.Q.pv 1)))
      (L2.Q.pss_cons (L2.Q.ps_expr (L2.Q.pe_extendK (K' := K) (L2.Q.pv 1) (L2.Q.pa_c (L2.Q.pe_popK (K' := K) (L2.Q.pv 2)) L2.Q.pa_nil)))
      (L2.Q.pss_one (L2.Q.ps_ret (L2.Q.pe_cmpR op_isG (L2.Q.pe_meth0 (L2.Q.pv 0) tx.C_Keeper tx.m_Keeper_undo (G_Keeper_undo) (hr.mono (by decide)) tx.b_Keeper_undo .nil passE) L2.Q.pe_non (nomark _))))))) ?_
    obtain ⟨fa, fb, ka, lb, rfl, dj⟩ := hp.ex
    obtain ⟨ls, l1, l2, l3, rfl, l5⟩ := id lb.ex
    have ll := l3.len
    obtain ⟨n1, n2, n3, n4⟩ := nd_l l5
    obtain ⟨dx0, w0, wl0, pa0, dl0, zs0, h10, _⟩ := id ka.ex
    refine rd_start (σ := [some (.ref x), some (.ref wa), some (.ref pa)]) rfl ?_
    repeat walk_at "go"
    intro l nl
    obtain ⟨H1, i1, s1, g1⟩ := nw _ nl; rw [i1]
    repeat walk_at "go"
    refine rd_eqE (s1 _ _ l2) g1 ?_
    repeat walk_at "go"
    cases ls with
    | nil =>
      have eh : hist = [] := by cases hist with | nil => rfl | cons _ _ => cases ll
      subst eh
      refine rd_bool (fun _ => ?_) (fun z => by simp at z)
      repeat walk_at "go"
      refine ⟨x, dx0, _, rfl, s1 _ _ h10, rfl, ?_⟩
      repeat walk_at "go"
      refine ⟨x, pl, ws, [], fa, rfl, ka.same s1, by simp, (fun n ns z => by cases z), fun _ e od H2 s2 he => ⟨e, rfl, ?_⟩⟩
      have h1 : H2 e = some (ErrO a.c_NoDeed none e) := he
      refine rd_hclT h1 tx.Z_NoDeed tx.x_NoDeed_NoDeed ?_
      repeat walk_at "go"
      exact k H2 ws [] _ (hp.same (s1.trans s2)) (fun b hb => .inl hb) (Fx.of (s1.trans s2)) hb (by simp)
    | cons l0 ls =>
      obtain ⟨n, ns, rfl⟩ : ∃ n ns, hist = n :: ns := by cases hist with | nil => cases ll | cons n ns => exact ⟨n, ns, rfl⟩
      obtain ⟨t1, l3'⟩ := l3
      have wl0 : wa ≠ l0 := fun z => n2 (by rw [z]; exact .head _)
      have pl0 : pa ≠ l0 := fun z => n3 (by rw [z]; exact .head _)
      refine rd_bool (fun z => by simp at z) (fun _ => ?_)
      have l11 := s1 _ _ l1
      have l21 : H1 pa = some (.lst (ls.reverse.map V.ref ++ [V.ref l0])) := by rw [s1 _ _ l2, List.reverse_cons, List.map_append]; rfl
      repeat walk_at "go"
      refine rd_tyL (SqL.of l11) ?_
      repeat walk_at "go"
      refine rd_clear l11 ?_
      obtain ⟨H2, i2, k2, g2⟩ := wr H1 wa _; rw [i2]
      have l22 := k2 _ _ l21 n4.symm
      repeat walk_at "go"
      refine rd_tyL (SqL.of g2) ?_
      repeat walk_at "go"
      refine rd_tyL (SqL.of l22) ?_
      repeat walk_at "go"
      refine rd_pop l22 ?_
      obtain ⟨H3, i3, k3, g3⟩ := wr H2 pa _; rw [i3]
      have g23 := k3 _ _ g2 n4
      have t13 : H3 l0 = some (.lst (n.map V.int)) := k3 _ _ (k2 _ _ (s1 _ _ t1) wl0.symm) pl0.symm
      repeat walk_at "go"
      refine rd_extend (xs := []) g23 t13 (Nat.le_trans (by rw [List.length_map]; have := hb.2 n (.head _); simp; omega : ([] : List V).length + (n.map V.int).length ≤ 2000) (sz_le (by simp))) ?_
      rw [List.nil_append]
      obtain ⟨H4, i4, k4, g4⟩ := wr H3 wa _; rw [i4]
      have F4 : Fx [wa, pa] H H4 := fun b o e nb => by
        have nw' : b ≠ wa := fun z => nb (by rw [z]; simp)
        have np' : b ≠ pa := fun z => nb (by rw [z]; simp)
        exact k4 _ _ (k3 _ _ (k2 _ _ (s1 _ _ e) nw') np') nw'
      have ka4 : KpAt a.c_Keeper H4 x pl ws (n :: ns) fa := ka.keep fun b hb' o e => F4 b o e fun z => dj b hb' (by
        simp only [List.mem_cons, List.not_mem_nil, or_false] at z
        rcases z with rfl | rfl <;> simp)
      have lb4 : LwAt H4 wa pa n ns (ls ++ [wa, pa]) := ⟨ls, g4, k4 _ _ g3 n4.symm, l3'.keep fun b hb' o e => F4 b o e (fun z => by
        simp only [List.mem_cons, List.not_mem_nil, or_false] at z
        rcases z with rfl | rfl
        · exact n2 (.tail _ hb')
        · exact n3 (.tail _ hb')), rfl, l_nd (List.nodup_cons.mp n1).2 (fun z => n2 (.tail _ z)) (fun z => n3 (.tail _ z)) n4⟩
      obtain ⟨dx4, w4, wl4, pa4, dl4, zs4, h14, _⟩ := id ka4.ex
      repeat walk_at "go"
      refine ⟨x, dx4, _, rfl, h14, rfl, ?_⟩
      repeat walk_at "go"
      refine ⟨x, pl, ws, n :: ns, fa, rfl, ka4, hz, fun n' ns' e H5 fq kq gr f5 => ?_, fun z => by cases z⟩
      cases e
      repeat walk_at "go"
      have gb : Gr H (l0 :: ls ++ [wa, pa]) (ls ++ [wa, pa]) := fun b hb' => .inl (.tail _ hb')
      have gr' : Gr H4 fa fq := gr
      have lb5 : LwAt H5 wa pa n ns (ls ++ [wa, pa]) := lb4.keep fun b hb' o e => f5 b o e fun z => dj b z (.tail _ hb')
      have dj' := apart (H2 := H5) ka dj lb4 gb gr'
      have up : ∀ b, H4 b = none → H b = none := fun b z => by
        cases e : H b with
        | none => rfl
        | some o =>
          by_cases y : b ∈ [wa, pa]
          · exact absurd z (lb4.has b (List.mem_append_right _ y))
          · rw [F4 b o e y] at z; cases z
      refine k H5 n ns (fq ++ (ls ++ [wa, pa])) ⟨fq, _, kq, lb5, rfl, dj'⟩ (fun b hb' => ?_) (fun b o e nb => ?_) ⟨hb.2 n (.head _), fun m hm => hb.2 m (.tail _ hm)⟩ (by rw [List.length_cons]; omega)
      · rcases List.mem_append.mp hb' with y | y
        · rcases gr b y with z | z
          · exact .inl (List.mem_append_left _ z)
          · exact .inr (up b z)
        · exact .inl (List.mem_append_right _ (.tail _ y))
      · refine f5 b o (F4 b o e fun z => nb (List.mem_append_right _ (List.mem_append_right _ z))) fun z => nb (List.mem_append_left _ z)
theorem LwAt.deed {H H' : Hp} {wa pa l : Addr} {ws ws' : List Int} {hist : List (List Int)} {ls : List Addr} (lb : LwAt H wa pa ws hist (ls ++ [wa, pa])) (l3 : HistAt H ls hist) (nl : H l = none) (e1 : H' wa = some (.lst (ws'.map V.int))) (e2 : H' pa = some (.lst (ls.reverse.map V.ref ++ [V.ref l]))) (e3 : H' l = some (.lst (ws.map V.int))) (f : Fx [wa, pa] H H') (l5 : (ls ++ [wa, pa]).Nodup) : LwAt H' wa pa ws' (ws :: hist) (l :: (ls ++ [wa, pa])) := by
  obtain ⟨n1, n2, n3, n4⟩ := nd_l l5
  refine ⟨l :: ls, e1, ?_, ⟨e3, l3.keep fun b hb o e => f b o e fun z => ?_⟩, rfl, List.nodup_cons.mpr ⟨fun z => lb.has l z nl, l5⟩⟩
  · rw [e2, List.reverse_cons, List.map_append]; rfl
  · simp only [List.mem_cons, List.not_mem_nil, or_false] at z
    rcases z with rfl | rfl
    · exact n2 hb
    · exact n3 hb
def sp__law_do (K : PySem.W.Frag) (CK : Addr) : Sp := fun vs H Q _ => ∃ (p x wa pa b pl : Addr) (u v M : Int) (ws : List Int) (hist : List (List Int)) (fp : List Addr), vs = [.ref p, .ref x, .ref wa, .ref pa, .ref b, .int M] ∧ HandAt H p ∧ p ∉ fp ∧ (∀ d c q, H p = some (.lst [.int d, .int c, .ref q]) → q ∉ fp) ∧ H b = some (.lst [.int u, .int v]) ∧ PrAt CK H x wa pa pl ws hist fp ∧ Bd ws hist ∧ hist.length ≤ 900 ∧ M ≤ 48 ∧
  ∀ H' ws' hist' fp', PrAt CK H' x wa pa pl ws' hist' fp' → Gr H fp fp' → Fx (p :: fp) H H' → HandAt H' p → Bd ws' hist' → hist'.length ≤ hist.length + 1 → Q (.bl true) H'
set_option maxHeartbeats 40000000 in
theorem ok__law_do {P : Program} {w : World} {K : PySem.W.Frag} {mg : Str → Option Value} {base : Heap} {a : Adr} (tx : Txt K mg a) : FnOk P w K mg base CX0 4 a.f__law_do a.d__law_do ["_law_hand", "_law_keeper", "_law_wants", "_law_past", "_law_by", "_law_most"] (sp__law_do K a.c_Keeper) := by
  have G_Keeper_tell := ok_Keeper_tell (P := P) (w := w) (base := base) tx
  have G__law_changed := ok__law_changed (P := P) (w := w) (base := base) tx
  have G__law_draw := ok__law_draw (P := P) (w := w) (base := base) tx
  have G__law_gone := ok__law_gone (P := P) (w := w) (base := base) tx
  have G__law_undone := ok__law_undone (P := P) (w := w) (base := base) tx
  have G__law_want := ok__law_want (P := P) (w := w) (base := base) tx
  refine tx.F__law_do.ok sc__law_do (fun vs H Q E h => ?_) (fun cdv A outer s H vs Q E hr h => ?_)
  · obtain ⟨p, x, wa, pa, b, pl, u, v, M, ws, hist, fp, rfl, _⟩ := h
    rfl
  · obtain ⟨p, x, wa, pa, b, pl, u, v, M, ws, hist, fp, rfl , hh, pf, qf, hb, hp, hbd, hz, hM, k⟩ := h
    have hu := hu9 hr
    refine L2.Q.root (L2.Q.pss_cons (L2.Q.ps_set (i := 6) sc__law_do.nd rfl (Or.inl rfl) (L2.Q.pe_callN (G__law_want) (hr.mono (by decide)) (by rfl) tx.g__law_want tx.F__law_want.kp tx.b__law_want .nil pass0 (L2.Q.pa_c (L2.Q.pv 0) (L2.Q.pa_c (L2.Q.pv 4) L2.Q.pa_nil))))
      (L2.Q.pss_cons (L2.Q.ps_set (i := 7) sc__law_do.nd rfl (Or.inl rfl) (L2.Q.pe_callN (G__law_draw) (hr.mono (by decide)) (by rfl) tx.g__law_draw tx.F__law_draw.kp tx.b__law_draw .nil pass0 (L2.Q.pa_c (L2.Q.pv 0) (L2.Q.pa_c L2.Q.pe_int L2.Q.pa_nil))))
      (L2.Q.pss_cons (L2.Q.ps_if (L2.Q.pt_cmpR (r := rEqG K) (op_eqG hu) (L2.Q.pv 7) L2.Q.pe_int (nomark _)) (L2.Q.pss_one (L2.Q.ps_ret (L2.Q.pe_callN (G__law_undone) (hr.mono (by decide)) (by rfl) tx.g__law_undone tx.F__law_undone.kp tx.b__law_undone .nil pass0 (L2.Q.pa_c (L2.Q.pv 1) (L2.Q.pa_c (L2.Q.pv 2) (L2.Q.pa_c (L2.Q.pv 3) L2.Q.pa_nil)))))) L2.Q.pss_nil)
      (L2.Q.pss_cons (L2.Q.ps_if (L2.Q.pw_pt (L2.Q.pw_and (L2.Q.pt_cmpR op_lt (L2.Q.pv 7) L2.Q.pe_int (nomark _)) (L2.Q.pw_and1 (L2.Q.pt_cmpR op_lt (L2.Q.pe_callBN (rc := rLen K) call_lenG (by rfl) tx.z_len bt_len (L2.Q.pa_c (L2.Q.pv 2) L2.Q.pa_nil)) (L2.Q.pv 5) (nomark _))))) (L2.Q.pss_cons (L2.Q.ps_expr (L2.Q.pe_appK (K' := K) (L2.Q.pv 3) (L2.Q.pa_c (L2.Q.pe_callTyN (rc := rListOf K) call_listG (by rfl) tx.z_list bt_list (L2.Q.pa_c (L2.Q.pv 2) L2.Q.pa_nil)) L2.Q.pa_nil)))
      (L2.Q.pss_cons (L2.Q.ps_expr (L2.Q.pe_appK (K' := K) (L2.Q.pv 2) (L2.Q.pa_c (L2.Q.pv 6) L2.Q.pa_nil)))
      (L2.Q.pss_one (L2.Q.ps_ret (L2.Q.pe_cmpR op_isG (L2.Q.pe_meth (L2.Q.pv 1) tx.C_Keeper tx.m_Keeper_tell (G_Keeper_tell) (hr.mono (by decide)) tx.b_Keeper_tell .nil pass0 (L2.Q.pa_c (L2.Q.pv 6) L2.Q.pa_nil)) L2.Q.pe_non (nomark _)))))) L2.Q.pss_nil)
      (L2.Q.pss_cons (L2.Q.ps_set (i := 8) sc__law_do.nd rfl (Or.inl rfl) (L2.Q.pe_callN (G__law_draw) (hr.mono (by decide)) (by rfl) tx.g__law_draw tx.F__law_draw.kp tx.b__law_draw .nil pass0 (L2.Q.pa_c (L2.Q.pv 0) (L2.Q.pa_c L2.Q.pe_int L2.Q.pa_nil))))
      (L2.Q.pss_cons (L2.Q.ps_if (L2.Q.pw_pt (L2.Q.pw_and (L2.Q.pt_cmpR (r := rEqG K) (op_eqG hu) (L2.Q.pv 7) L2.Q.pe_int (nomark _)) (L2.Q.pw_and1 (L2.Q.pt_cmpR (r := rNeE K) (op_neE hu) (L2.Q.pv 2) (L2.Q.pe_lst L2.Q.pa_nil) (nomark _))))) (L2.Q.pss_one (L2.Q.ps_set (i := 8) sc__law_do.nd rfl (Or.inl rfl) (L2.Q.pe_op op_sub (L2.Q.pe_callBN (rc := rLen K) call_lenG (by rfl) tx.z_len bt_len (L2.Q.pa_c (L2.Q.pv 2) L2.Q.pa_nil)) L2.Q.pe_int))) L2.Q.pss_nil)
      (L2.Q.pss_cons (L2.Q.ps_if (L2.Q.pw_pt (L2.Q.pw_and (L2.Q.pt_cmpR (r := rEqG K) (op_eqG hu) (L2.Q.pv 7) L2.Q.pe_int (nomark _)) (L2.Q.pw_and1 (L2.Q.pt_cmpR (r := rNeE K) (op_neE hu) (L2.Q.pv 2) (L2.Q.pe_lst L2.Q.pa_nil) (nomark _))))) (L2.Q.pss_one (L2.Q.ps_set (i := 8) sc__law_do.nd rfl (Or.inl rfl) (L2.Q.pe_callN (G__law_draw) (hr.mono (by decide)) (by rfl) tx.g__law_draw tx.F__law_draw.kp tx.b__law_draw .nil pass0 (L2.Q.pa_c (L2.Q.pv 0) (L2.Q.pa_c (L2.Q.pe_callBN (rc := rLen K) call_lenG (by rfl) tx.z_len bt_len (L2.Q.pa_c (L2.Q.pv 2) L2.Q.pa_nil)) L2.Q.pa_nil))))) L2.Q.pss_nil)
      (L2.Q.pss_cons (L2.Q.ps_if (L2.Q.pt_cmpR op_ge (L2.Q.pv 8) (L2.Q.pe_callBN (rc := rLen K) call_lenG (by rfl) tx.z_len bt_len (L2.Q.pa_c (L2.Q.pv 2) L2.Q.pa_nil)) (nomark _)) (L2.Q.pss_one (L2.Q.ps_ret (L2.Q.pe_and (L2.Q.pe_cmpR (r := rEqG K) (op_eqG hu) (L2.Q.pe_callN (G__law_changed) (hr.mono (by decide)) (by rfl) tx.g__law_changed tx.F__law_changed.kp tx.b__law_changed .nil pass0 (L2.Q.pa_c (L2.Q.pv 1) (L2.Q.pa_c (L2.Q.pv 8) (L2.Q.pa_c (L2.Q.pv 6) L2.Q.pa_nil)))) L2.Q.pe_str (nomark _)) (L2.Q.pe_one (L2.Q.pe_or (L2.Q.pe_cmpR (r := rNeE K) (op_neE hu) (L2.Q.pv 2) (L2.Q.pe_lst L2.Q.pa_nil) (nomark _)) (L2.Q.pe_one (L2.Q.pe_callN (G__law_gone) (hr.mono (by decide)) (by rfl) tx.g__law_gone tx.F__law_gone.kp tx.b__law_gone .nil pass0 (L2.Q.pa_c (L2.Q.pv 1) L2.Q.pa_nil)))))))) L2.Q.pss_nil)
      (L2.Q.pss_cons (L2.Q.ps_expr (L2.Q.pe_appK (K' := K) (L2.Q.pv 3) (L2.Q.pa_c (L2.Q.pe_callTyN (rc := rListOf K) call_listG (by rfl) tx.z_list bt_list (L2.Q.pa_c (L2.Q.pv 2) L2.Q.pa_nil)) L2.Q.pa_nil)))
      (L2.Q.pss_cons (L2.Q.ps_asg (L2.Q.pv 6) (L2.Q.pg_sub (L2.Q.pv 2) (L2.Q.pv 8) set_list))
      (L2.Q.pss_one (L2.Q.ps_ret (L2.Q.pe_cmpR (r := rEqG K) (op_eqG hu) (L2.Q.pe_callN (G__law_changed) (hr.mono (by decide)) (by rfl) tx.g__law_changed tx.F__law_changed.kp tx.b__law_changed .nil pass0 (L2.Q.pa_c (L2.Q.pv 1) (L2.Q.pa_c (L2.Q.pv 8) (L2.Q.pa_c (L2.Q.pv 6) L2.Q.pa_nil)))) L2.Q.pe_str (nomark _)))))))))))))) ?_
    have bp : b ≠ p := hh.nlen hb (by simp)
    have fin : ∀ H1, HandAt H1 p → Keep p H H1 → SameQ p H H1 → ∀ H2 ws' hist' fp', PrAt a.c_Keeper H2 x wa pa pl ws' hist' fp' → Gr H1 fp fp' → Fx fp H1 H2 → Bd ws' hist' → hist'.length ≤ hist.length + 1 → Q (.bl true) H2 := fun H1 h1 k1 q1 H2 ws' hist' fp' c1 c2 c3 c4 c5 => by
      obtain ⟨d0, c0, q0, ms0, hp0, hq0, hne0, hqp0⟩ := hh.ex
      obtain ⟨d', c', e'⟩ := q1 d0 c0 q0 hp0
      have q0f := qf d0 c0 q0 hp0
      refine k H2 ws' hist' fp' c1 (fun y hy => ?_) (fun y o e ny => c3 y o (k1 y o e (fun z => ny (by rw [z]; exact .head _))) fun z => ny (.tail _ z)) ⟨d', c', q0, ms0, c3 _ _ e' pf, c3 _ _ (k1 _ _ hq0 hqp0) q0f, hne0, hqp0⟩ c4 c5
      rcases c2 y hy with z | z
      · exact .inl z
      · refine .inr ?_
        cases e : H y with
        | none => rfl
        | some o =>
          by_cases yp : y = p
          · rw [yp, e'] at z; cases z
          · rw [k1 y o e yp] at z; cases z
    refine rd_start (σ := [some (.ref p), some (.ref x), some (.ref wa), some (.ref pa), some (.ref b), some (.int M), none, none, none]) rfl ?_
    repeat walk_at "go"
    refine ⟨p, b, u, v, rfl, hh, hb, fun n H1 h1 k1 q1 => ?_⟩
    repeat walk_at "go"
    refine ⟨p, _, rfl, h1, by decide, by decide, fun way H2 a2 b2 h2 k2 q2 => ?_⟩
    have K2 := k1.trans k2
    have Q2 := q1.trans q2
    have prK : ∀ H', Keep p H H' → PrAt a.c_Keeper H' x wa pa pl ws hist fp := fun H' kk => hp.keep fun y hy o e => kk y o e fun z => pf (z ▸ hy)
    have pr2 := prK H2 K2
    repeat walk_at "go"
    refine rd_dec (fun h5 => ?_) (fun h5 => ?_)
    · repeat walk_at "go"
      exact ⟨x, wa, pa, pl, ws, hist, fp, rfl, pr2, hbd, by omega, fun H3 ws' hist' fp' c1 c2 c3 c4 c5 => fin H2 h2 K2 Q2 H3 ws' hist' fp' c1 c2 c3 c4 c5⟩
    repeat walk_at "st"
    refine rd_seqJ (fun σ' H' => σ' = [some (.ref p), some (.ref x), some (.ref wa), some (.ref pa), some (.ref b), some (.int M), some (.int n), some (.int way), none] ∧ H' = H2) (fun N hN => ?_) ?_
    · obtain ⟨fa, fb, ka, lb, rfl, dj⟩ := id pr2.ex
      obtain ⟨ls, l1, l2, l3, rfl, l5⟩ := id lb.ex
      obtain ⟨n1, n2, n3, n4⟩ := nd_l l5
      have ll := l3.len
      repeat walk_at "go"
      refine rd_dec (fun c1 => ?_) (fun c1 => ?_)
      rotate_left
      · repeat walk_at "go"
        exact hN _ _ ⟨rfl, rfl⟩
      repeat walk_at "go"
      refine rd_dec (fun c2 => ?_) (fun c2 => ?_)
      rotate_left
      · repeat walk_at "go"
        exact hN _ _ ⟨rfl, rfl⟩
      rw [List.length_map] at c2
      repeat walk_at "go"
      refine rd_tyL (SqL.of l2) ?_
      repeat walk_at "go"
      refine rd_listL (SqL.of l1) ?_
      intro l nl
      obtain ⟨H3, i3, s3, g3⟩ := nw _ nl; rw [i3]
      repeat walk_at "go"
      refine rd_app (xs := ls.reverse.map V.ref) (s3 _ _ l2) (Nat.lt_of_lt_of_le (by rw [List.length_map, List.length_reverse]; omega : (ls.reverse.map V.ref).length < 2000) (sz_le (by simp))) ?_
      obtain ⟨H4, i4, k4, g4⟩ := wr H3 pa _; rw [i4]
      have l14 := k4 _ _ (s3 _ _ l1) n4
      repeat walk_at "go"
      refine rd_tyL (SqL.of l14) ?_
      repeat walk_at "go"
      refine rd_app (xs := ws.map V.int) l14 (Nat.lt_of_lt_of_le (by rw [List.length_map]; have := hbd.1; omega : (ws.map V.int).length < 2000) (sz_le (by simp))) ?_
      obtain ⟨H5, i5, k5, g5⟩ := wr H4 wa _; rw [i5]
      have lp : l ≠ pa := fun z => by rw [z, l2] at nl; cases nl
      have lw : l ≠ wa := fun z => by rw [z, l1] at nl; cases nl
      have F5 : Fx [wa, pa] H2 H5 := fun y o e ny => k5 _ _ (k4 _ _ (s3 _ _ e) (fun z => ny (by rw [z]; simp))) (fun z => ny (by rw [z]; simp))
      have lb5 : LwAt H5 wa pa (ws ++ [n]) (ws :: hist) (l :: (ls ++ [wa, pa])) := lb.deed l3 nl (by rw [g5, List.map_append]; rfl) (k5 _ _ g4 n4.symm) (k5 _ _ (k4 _ _ g3 lp) lw) F5 l5
      have inl : ∀ y, y ∈ [wa, pa] → y ∈ ls ++ [wa, pa] := fun y hy => List.mem_append_right _ hy
      have ka5 : KpAt a.c_Keeper H5 x pl ws hist fa := ka.keep fun y hy o e => F5 y o e fun z => dj y hy (inl y z)
      obtain ⟨dx0, w0, wl0, pa0, dl0, zs0, h10, _⟩ := id ka5.ex
      repeat walk_at "go"
      refine ⟨x, dx0, _, rfl, h10, rfl, ?_⟩
      repeat walk_at "go"
      refine ⟨x, pl, ws, hist, fa, n, rfl, ka5, by omega, by have := hbd.1; omega, fun H6 fq kq gr f6 => ?_⟩
      repeat walk_at "go"
      have gb : Gr H2 (ls ++ [wa, pa]) (l :: (ls ++ [wa, pa])) := fun y hy => by
        rcases List.mem_cons.mp hy with rfl | hy
        · exact .inr nl
        · exact .inl hy
      have dj' := apart (H2 := H6) ka dj lb5 gb gr
      have lb6 := lb5.keep (H' := H6) fun y hy o e => f6 y o e fun z => by
        rcases gb y hy with q | q
        · exact dj y z q
        · exact ka.has y z q
      have up : ∀ y, H5 y = none → H2 y = none := fun y z => by
        cases e : H2 y with
        | none => rfl
        | some o =>
          by_cases q : y ∈ [wa, pa]
          · exact absurd z (lb5.has y (.tail _ (inl y q)))
          · rw [F5 y o e q] at z; cases z
      refine fin H2 h2 K2 Q2 H6 (ws ++ [n]) (ws :: hist) (fq ++ (l :: (ls ++ [wa, pa]))) ⟨fq, _, kq, lb6, rfl, dj'⟩ (fun y hy => ?_) (fun y o e ny => f6 y o (F5 y o e fun z => ny (List.mem_append_right _ (inl y z))) fun z => ny (List.mem_append_left _ z)) ⟨by rw [List.length_append, List.length_singleton]; omega, fun m hm => ?_⟩ (by rw [List.length_cons]; omega)
      · rcases List.mem_append.mp hy with z | z
        · rcases gr y z with q | q
          · exact .inl (List.mem_append_left _ q)
          · exact .inr (up y q)
        · rcases gb y z with q | q
          · exact .inl (List.mem_append_right _ q)
          · exact .inr q
      · rcases List.mem_cons.mp hm with rfl | hm
        · exact hbd.1
        · exact hbd.2 m hm
    rintro σ3 H3 ⟨rfl, rfl⟩
    repeat walk_at "go"
    refine ⟨p, _, rfl, h2, by decide, by decide, fun r8 H3 a3 b3 h3 k3 q3 => ?_⟩
    obtain ⟨at0, rfl⟩ := Int.eq_ofNat_of_zero_le a3
    have K3 := K2.trans k3
    have Q3 := Q2.trans q3
    repeat walk_at "st"
    refine rd_seqJ (fun σ' H' => ∃ at_ : Nat, σ' = [some (.ref p), some (.ref x), some (.ref wa), some (.ref pa), some (.ref b), some (.int M), some (.int n), some (.int way), some (.int (at_ : Int))] ∧ HandAt H' p ∧ Keep p H H' ∧ SameQ p H H') (fun N hN => ?_) ?_
    · obtain ⟨fa, fb, ka, lb, _, dj⟩ := (prK _ K3).ex
      obtain ⟨ls, l1, l2, l3, _, l5⟩ := lb.ex
      repeat walk_at "go"
      refine rd_dec (fun c1 => ?_) (fun c1 => ?_)
      rotate_left
      · repeat walk_at "go"
        exact hN _ _ ⟨at0, rfl, h3, K3, Q3⟩
      repeat walk_at "go"
      intro l nl
      obtain ⟨H4, i4, s4, g4⟩ := nw _ nl; rw [i4]
      repeat walk_at "go"
      refine rd_neE (s4 _ _ l1) g4 ?_
      repeat walk_at "go"
      refine rd_bool (fun c2 => ?_) (fun c2 => ?_)
      · have l14 := s4 _ _ l1
        have ln : 0 < ws.length := by cases ws with | nil => simp at c2 | cons _ _ => simp
        repeat walk_at "go"
        refine hN _ _ ⟨ws.length - 1, ?_, h3.same s4, K3.trans s4.keep, Q3.trans (SameQ.of (s4 p))⟩
        rw [show (((ws.length - 1 : Nat)) : Int) = ((ws.map V.int).length : Int) - 1 by rw [List.length_map]; omega]
      · repeat walk_at "go"
        exact hN _ _ ⟨at0, rfl, h3.same s4, K3.trans s4.keep, Q3.trans (SameQ.of (s4 p))⟩
    rintro σ4 H4 ⟨at1, rfl, h4, K4, Q4⟩
    refine rd_seqJ (fun σ' H' => ∃ at_ : Nat, σ' = [some (.ref p), some (.ref x), some (.ref wa), some (.ref pa), some (.ref b), some (.int M), some (.int n), some (.int way), some (.int (at_ : Int))] ∧ HandAt H' p ∧ Keep p H H' ∧ SameQ p H H') (fun N hN => ?_) ?_
    · obtain ⟨fa, fb, ka, lb, _, dj⟩ := (prK _ K4).ex
      obtain ⟨ls, l1, l2, l3, _, l5⟩ := lb.ex
      repeat walk_at "go"
      refine rd_dec (fun c1 => ?_) (fun c1 => ?_)
      rotate_left
      · repeat walk_at "go"
        exact hN _ _ ⟨at1, rfl, h4, K4, Q4⟩
      repeat walk_at "go"
      intro l nl
      obtain ⟨H5, i5, s5, g5⟩ := nw _ nl; rw [i5]
      repeat walk_at "go"
      refine rd_neE (s5 _ _ l1) g5 ?_
      repeat walk_at "go"
      refine rd_bool (fun c2 => ?_) (fun c2 => ?_)
      · have l15 := s5 _ _ l1
        have ln : 0 < ws.length := by cases ws with | nil => simp at c2 | cons _ _ => simp
        have lm := hbd.1
        repeat walk_at "go"
        refine ⟨p, _, rfl, h4.same s5, by rw [List.length_map]; omega, by rw [List.length_map]; omega, fun r6 H6 a6 b6 h6 k6 q6 => ?_⟩
        obtain ⟨at2, rfl⟩ := Int.eq_ofNat_of_zero_le a6
        repeat walk_at "go"
        exact hN _ _ ⟨at2, rfl, h6, K4.trans (s5.keep.trans k6), Q4.trans ((SameQ.of (s5 p)).trans q6)⟩
      · repeat walk_at "go"
        exact hN _ _ ⟨at1, rfl, h4.same s5, K4.trans s5.keep, Q4.trans (SameQ.of (s5 p))⟩
    rintro σ5 H5 ⟨at_, rfl, h5', K5, Q5⟩
    obtain ⟨fa, fb, ka, lb, rfl, dj⟩ := id (prK _ K5).ex
    obtain ⟨ls, l1, l2, l3, rfl, l5⟩ := id lb.ex
    obtain ⟨n1, n2, n3, n4⟩ := nd_l l5
    have ll := l3.len
    have lm := hbd.1
    repeat walk_at "go"
    refine rd_dec (fun c1 => ?_) (fun c1 => ?_)
    · rw [List.length_map] at c1
      repeat walk_at "go"
      refine ⟨x, pl, ws, hist, fa, at_, n, rfl, ka, by omega, by omega, fun z => by omega, fun _ H6 s6 => ?_⟩
      repeat walk_at "gs"
      intro l nl
      obtain ⟨H7, i7, s7, g7⟩ := nw _ nl; rw [i7]
      repeat walk_at "go"
      refine rd_neE (s7 _ _ (s6 _ _ l1)) g7 ?_
      repeat walk_at "go"
      have s67 := s6.trans s7
      refine rd_bool (fun c2 => ?_) (fun c2 => ?_)
      · repeat walk_at "go"
        exact fin H5 h5' K5 Q5 H7 ws hist _ ((prK _ K5).same s67) (fun y hy => .inl hy) (Fx.of s67) hbd (by omega)
      · have ew : ws = [] := by cases ws with | nil => rfl | cons _ _ => simp at c2
        subst ew
        repeat walk_at "go"
        refine ⟨x, pl, hist, fa, rfl, ka.same s67, fun H8 s8 => ?_⟩
        repeat walk_at "go"
        exact fin H5 h5' K5 Q5 H8 [] hist _ ((prK _ K5).same (s67.trans s8)) (fun y hy => .inl hy) (Fx.of (s67.trans s8)) hbd (by omega)
    · rw [List.length_map] at c1
      have hat : at_ < ws.length := by omega
      repeat walk_at "go"
      refine rd_tyL (SqL.of l2) ?_
      repeat walk_at "go"
      refine rd_listL (SqL.of l1) ?_
      intro l nl
      obtain ⟨H6, i6, s6, g6⟩ := nw _ nl; rw [i6]
      repeat walk_at "go"
      refine rd_app (xs := ls.reverse.map V.ref) (s6 _ _ l2) (Nat.lt_of_lt_of_le (by rw [List.length_map, List.length_reverse]; omega : (ls.reverse.map V.ref).length < 2000) (sz_le (by simp))) ?_
      obtain ⟨H7, i7, k7, g7⟩ := wr H6 pa _; rw [i7]
      have l17 := k7 _ _ (s6 _ _ l1) n4
      repeat walk_at "go"
      refine rd_setL (j := at_) (k := (at_ : Int)) l17 (ixN_nat (by rw [List.length_map]; exact hat)) ?_
      rw [← List.map_set]
      obtain ⟨H8, i8, k8, g8⟩ := wr H7 wa _; rw [i8]
      have lp : l ≠ pa := fun z => by rw [z, l2] at nl; cases nl
      have lw : l ≠ wa := fun z => by rw [z, l1] at nl; cases nl
      have F8 : Fx [wa, pa] H5 H8 := fun y o e ny => k8 _ _ (k7 _ _ (s6 _ _ e) (fun z => ny (by rw [z]; simp))) (fun z => ny (by rw [z]; simp))
      have lb8 : LwAt H8 wa pa (ws.set at_ n) (ws :: hist) (l :: (ls ++ [wa, pa])) := lb.deed l3 nl g8 (k8 _ _ g7 n4.symm) (k8 _ _ (k7 _ _ g6 lp) lw) F8 l5
      have inl : ∀ y, y ∈ [wa, pa] → y ∈ ls ++ [wa, pa] := fun y hy => List.mem_append_right _ hy
      have ka8 : KpAt a.c_Keeper H8 x pl ws hist fa := ka.keep fun y hy o e => F8 y o e fun z => dj y hy (inl y z)
      repeat walk_at "go"
      refine ⟨x, pl, ws, hist, fa, at_, n, rfl, ka8, by omega, by omega, fun _ H9 fq kq gr f9 => ?_, fun z => absurd hat z⟩
      repeat walk_at "go"
      have gb : Gr H5 (ls ++ [wa, pa]) (l :: (ls ++ [wa, pa])) := fun y hy => by
        rcases List.mem_cons.mp hy with rfl | hy
        · exact .inr nl
        · exact .inl hy
      have dj' := apart (H2 := H9) ka dj lb8 gb gr
      have lb9 := lb8.keep (H' := H9) fun y hy o e => f9 y o e fun z => by
        rcases gb y hy with q | q
        · exact dj y z q
        · exact ka.has y z q
      have up : ∀ y, H8 y = none → H5 y = none := fun y z => by
        cases e : H5 y with
        | none => rfl
        | some o =>
          by_cases q : y ∈ [wa, pa]
          · exact absurd z (lb8.has y (.tail _ (inl y q)))
          · rw [F8 y o e q] at z; cases z
      refine fin H5 h5' K5 Q5 H9 (ws.set at_ n) (ws :: hist) (fq ++ (l :: (ls ++ [wa, pa]))) ⟨fq, _, kq, lb9, rfl, dj'⟩ (fun y hy => ?_) (fun y o e ny => f9 y o (F8 y o e fun z => ny (List.mem_append_right _ (inl y z))) fun z => ny (List.mem_append_left _ z)) ⟨by rw [List.length_set]; exact lm, fun m hm => ?_⟩ (by rw [List.length_cons]; omega)
      · rcases List.mem_append.mp hy with z | z
        · rcases gr y z with q | q
          · exact .inl (List.mem_append_left _ q)
          · exact .inr (up y q)
        · rcases gb y z with q | q
          · exact .inl (List.mem_append_right _ q)
          · exact .inr q
      · rcases List.mem_cons.mp hm with rfl | hm
        · exact hbd.1
        · exact hbd.2 m hm
theorem del_new2 {l : Addr} {H H2 : Hp} (h : H l = none) (s : Same H H2) : Same H (del l H2) := fun b o e => by rw [del_at (ne_none h e)]; exact s b o e
theorem RL.set {α : Type} {P : Addr → α → Prop} {as : List Addr} {xs : List α} (h : RL P as xs) {i : Nat} {a : Addr} {x : α} (hp : P a x) : RL P (as.set i a) (xs.set i x) := by
  refine ⟨by rw [List.length_set, List.length_set, h.len], fun j b y h1 h2 => ?_⟩
  by_cases e : i = j
  · subst e
    have hi : i < as.length := by have := (List.getElem?_eq_some_iff.mp h1).1; rw [List.length_set] at this; exact this
    rw [List.getElem?_set_self hi] at h1
    rw [List.getElem?_set_self (by rw [← h.len]; exact hi)] at h2
    cases h1
    cases h2
    exact hp
  · rw [List.getElem?_set_ne e] at h1 h2
    exact h.at_ j b y h1 h2
structure W4 (H : Hp) (s : Addr) (ms : List MS) (o : Option SS) (k : Int) (b : Addr) (x y : Int) : Prop where
  ex : ∃ ls st, H s = some (.lst [.ref ls, st, .int k, .ref b]) ∧ SpecsAt H ls ms ∧ StoS H st o ∧ H b = some (.lst [.int x, .int y])
theorem W4.tr {H H' : Hp} {s : Addr} {ms : List MS} {o : Option SS} {k : Int} {b : Addr} {x y : Int} (h : W4 H s ms o k b x y) (t : Tr H H') : W4 H' s ms o k b x y := by
  obtain ⟨ls, st, h1, h2, h3, h4⟩ := h.ex
  exact ⟨ls, st, t _ _ h1 (nh_len (by simp)), h2.tr t, h3.tr t, t _ _ h4 (nh_len (by simp))⟩
theorem at2 {x y : V} {r : Int} (h : r = 0 ∨ r = 1) : atI [x, y] r = some (if r = 0 then x else y) := by
  rcases h with rfl | rfl <;> rfl
def sp__law_small (K : PySem.W.Frag) : Sp := fun vs H Q _ => ∃ (p : Addr), vs = [.ref p] ∧ HandAt H p ∧
  ∀ (s : Addr) (ms : List MS) (o : Option SS) (k : Int) (b : Addr) (x y : Int) H', W4 H' s ms o k b x y → (∀ m ∈ ms, m.Good) → ms.length ≤ 2 → (∀ t, o = some t → t.Good) → Am k → HandAt H' p → Keep p H H' → Q (.ref s) H'
set_option maxHeartbeats 40000000 in
theorem ok__law_small {P : Program} {w : World} {K : PySem.W.Frag} {mg : Str → Option Value} {base : Heap} {a : Adr} (tx : Txt K mg a) : FnOk P w K mg base CX0 4 a.f__law_small a.d__law_small ["_law_hand"] (sp__law_small K) := by
  have G__law_draw := ok__law_draw (P := P) (w := w) (base := base) tx
  have G__law_factor := ok__law_factor (P := P) (w := w) (base := base) tx
  have G__law_spec := ok__law_spec (P := P) (w := w) (base := base) tx
  have G__law_store := ok__law_store (P := P) (w := w) (base := base) tx
  refine tx.F__law_small.ok sc__law_small (fun vs H Q E h => ?_) (fun cdv A outer s H vs Q E hr h => ?_)
  · obtain ⟨p, rfl, _⟩ := h
    rfl
  · obtain ⟨p, rfl , hh, k⟩ := h
    have hu := hu9 hr
    refine L2.Q.root (L2.Q.pss_cons (L2.Q.ps_set (i := 1) sc__law_small.nd rfl (Or.inr rfl) (L2.Q.lst2 (L2.Q.pe_callN (G__law_factor) (hr.mono (by decide)) (by rfl) tx.g__law_factor tx.F__law_factor.kp tx.b__law_factor .nil pass0 (L2.Q.pa_c (L2.Q.pv 0) L2.Q.pa_nil)) (L2.Q.pe_callN (G__law_factor) (hr.mono (by decide)) (by rfl) tx.g__law_factor tx.F__law_factor.kp tx.b__law_factor .nil pass0 (L2.Q.pa_c (L2.Q.pv 0) L2.Q.pa_nil))))
      (L2.Q.pss_cons (L2.Q.ps_set (i := 2) sc__law_small.nd rfl (Or.inl rfl) (L2.Q.pe_callN (G__law_draw) (hr.mono (by decide)) (by rfl) tx.g__law_draw tx.F__law_draw.kp tx.b__law_draw .nil pass0 (L2.Q.pa_c (L2.Q.pv 0) (L2.Q.pa_c L2.Q.pe_int L2.Q.pa_nil))))
      (L2.Q.pss_cons (L2.Q.ps_set (i := 3) sc__law_small.nd rfl (Or.inr rfl) (L2.Q.pe_ixK (K' := K) (L2.Q.lst3 L2.Q.pe_int (L2.Q.pe_ixK (K' := K) (L2.Q.lst2 L2.Q.pe_int L2.Q.pe_int) (L2.Q.pe_callTyN call_intG (by rfl) tx.z_int bt_int (L2.Q.pa_c (L2.Q.pe_cmpR (r := rEqG K) (op_eqG hu) (L2.Q.pe_callN (G__law_draw) (hr.mono (by decide)) (by rfl) tx.g__law_draw tx.F__law_draw.kp tx.b__law_draw .nil pass0 (L2.Q.pa_c (L2.Q.pv 0) (L2.Q.pa_c L2.Q.pe_int L2.Q.pa_nil))) L2.Q.pe_int (nomark _)) L2.Q.pa_nil)) (fun _ _ => rfl)) L2.Q.pe_int) (L2.Q.pv 2) (fun _ _ => rfl)))
      (L2.Q.pss_cons (L2.Q.ps_setC (k := 1) (idx := [1, 0, 3]) (N := ["_law_k", "_law_by", "_law_hand", "_law_longest"]) (i := 4) sc__law_small.nd rfl (Or.inl rfl) (blk_sc (sc := defScope s__law_small) (NX := ["_law_hand", "_law_by", "_law_many", "_law_longest", "_law_specs", "_law_store_here"]) rfl rfl rfl (by decide +kernel)) rfl (L2.Q.pi_range1N (by rfl) tx.z_range (L2.Q.pa_c (L2.Q.pv 2) L2.Q.pa_nil)) (fun _ _ _ _ => (L2.Q.pg_name (i := 0) (show (["_law_k", "_law_by", "_law_hand", "_law_longest"] : List Str).Nodup by decide +kernel) rfl (Or.inl rfl))) (own_name (by decide)) (fun _ _ _ _ => L2.Q.pts_nil) (fun _ _ _ _ => (L2.Q.pe_callN (G__law_spec) (hr.mono (by decide)) (by rfl) tx.g__law_spec tx.F__law_spec.kp tx.b__law_spec .nil pass0 (L2.Q.pa_c (L2.Q.pv 2) (L2.Q.pa_c (L2.Q.pv 1) (L2.Q.pa_c (L2.Q.pv 3) L2.Q.pa_nil))))))
      (L2.Q.pss_cons (L2.Q.ps_if (L2.Q.pw_pt (L2.Q.pw_and (L2.Q.pt_cmpR (r := rEqG K) (op_eqG hu) (L2.Q.pv 2) L2.Q.pe_int (nomark _)) (L2.Q.pw_and1 (L2.Q.pt_cmpR (r := rEqG K) (op_eqG hu) (L2.Q.pe_callN (G__law_draw) (hr.mono (by decide)) (by rfl) tx.g__law_draw tx.F__law_draw.kp tx.b__law_draw .nil pass0 (L2.Q.pa_c (L2.Q.pv 0) (L2.Q.pa_c L2.Q.pe_int L2.Q.pa_nil))) L2.Q.pe_int (nomark _))))) (L2.Q.pss_one (L2.Q.ps_asg (L2.Q.pe_ixK (K' := K) (L2.Q.pv 4) L2.Q.pe_int (fun _ _ => rfl)) (L2.Q.pg_sub (L2.Q.pv 4) L2.Q.pe_int set_list))) L2.Q.pss_nil)
      (L2.Q.pss_cons (L2.Q.ps_set (i := 5) sc__law_small.nd rfl (Or.inl rfl) (L2.Q.pe_callN (G__law_store) (hr.mono (by decide)) (by rfl) tx.g__law_store tx.F__law_store.kp tx.b__law_store .nil pass0 (L2.Q.pa_c (L2.Q.pv 0) (L2.Q.pa_c (L2.Q.pv 1) L2.Q.pa_nil))))
      (L2.Q.pss_cons (L2.Q.ps_if (L2.Q.pt_cmpR op_isNotG (L2.Q.pv 5) L2.Q.pe_non (nomark _)) (L2.Q.pss_one (L2.Q.ps_asg (L2.Q.pe_callBN (call_minG rfl) (by rfl) tx.z_min bt_min (L2.Q.pa_c (L2.Q.pe_ixK (K' := K) (L2.Q.pv 5) L2.Q.pe_int (fun _ _ => rfl)) (L2.Q.pa_c L2.Q.pe_int L2.Q.pa_nil))) (L2.Q.pg_sub (L2.Q.pv 5) L2.Q.pe_int set_list))) L2.Q.pss_nil)
      (L2.Q.pss_cons (L2.Q.ps_if (L2.Q.pw_pt (L2.Q.pw_and (L2.Q.pt_cmpR op_isNotG (L2.Q.pv 5) L2.Q.pe_non (nomark _)) (L2.Q.pw_and (L2.Q.pt_cmpR (r := rEqG K) (op_eqG hu) (L2.Q.pv 2) L2.Q.pe_int (nomark _)) (L2.Q.pw_and1 (L2.Q.pt_cmpR (r := rEqG K) (op_eqG hu) (L2.Q.pe_callN (G__law_draw) (hr.mono (by decide)) (by rfl) tx.g__law_draw tx.F__law_draw.kp tx.b__law_draw .nil pass0 (L2.Q.pa_c (L2.Q.pv 0) (L2.Q.pa_c L2.Q.pe_int L2.Q.pa_nil))) L2.Q.pe_int (nomark _)))))) (L2.Q.pss_one (L2.Q.ps_set (i := 5) sc__law_small.nd rfl (Or.inl rfl) (L2.Q.pe_op op_addG (L2.Q.lst3 (L2.Q.pe_callN (G__law_draw) (hr.mono (by decide)) (by rfl) tx.g__law_draw tx.F__law_draw.kp tx.b__law_draw .nil pass0 (L2.Q.pa_c (L2.Q.pv 0) (L2.Q.pa_c L2.Q.pe_int L2.Q.pa_nil))) (L2.Q.pe_callN (G__law_draw) (hr.mono (by decide)) (by rfl) tx.g__law_draw tx.F__law_draw.kp tx.b__law_draw .nil pass0 (L2.Q.pa_c (L2.Q.pv 0) (L2.Q.pa_c L2.Q.pe_int L2.Q.pa_nil))) (L2.Q.pe_callN (G__law_draw) (hr.mono (by decide)) (by rfl) tx.g__law_draw tx.F__law_draw.kp tx.b__law_draw .nil pass0 (L2.Q.pa_c (L2.Q.pv 0) (L2.Q.pa_c L2.Q.pe_int L2.Q.pa_nil)))) (L2.Q.pe_slice (rs := rSlG K) sl_G (L2.Q.pv 5) (L2.Q.po_some L2.Q.pe_int) L2.Q.po_none)))) L2.Q.pss_nil)
      (L2.Q.pss_one (L2.Q.ps_ret (L2.Q.lst4 (L2.Q.pv 4) (L2.Q.pv 5) (L2.Q.pe_op op_mulG (L2.Q.pe_ixK (K' := K) (L2.Q.pv 1) L2.Q.pe_int (fun _ _ => rfl)) (L2.Q.pe_callN (G__law_draw) (hr.mono (by decide)) (by rfl) tx.g__law_draw tx.F__law_draw.kp tx.b__law_draw .nil pass0 (L2.Q.pa_c (L2.Q.pv 0) (L2.Q.pa_c L2.Q.pe_int L2.Q.pa_nil)))) (L2.Q.pv 1)))))))))))) ?_
    refine rd_start (σ := [some (.ref p), none, none, none, none, none]) rfl ?_
    repeat walk_at "go"
    refine ⟨p, rfl, hh, fun x H1 x0 x1 h1 k1 _ => ?_⟩
    repeat walk_at "go"
    refine ⟨p, rfl, h1, fun y H2 y0 y1 h2 k2 _ => ?_⟩
    repeat walk_at "go"
    intro b nb
    obtain ⟨H3, i3, s3, g3⟩ := nw _ nb; rw [i3]
    have h3 := h2.same s3
    have K3 : Keep p H H3 := k1.trans (k2.trans s3.keep)
    have bp : b ≠ p := h2.nnew nb
    repeat walk_at "go"
    refine ⟨p, _, rfl, h3, by decide, by decide, fun many H4 a4 b4 h4 k4 _ => ?_⟩
    have g34 := k4 _ _ g3 bp
    have K4 := K3.trans k4
    repeat walk_at "go"
    intro l5 n5
    obtain ⟨H5, i5, s5, g5⟩ := nw _ n5; rw [i5]
    have l5p : l5 ≠ p := h4.nnew n5
    repeat walk_at "go"
    refine ⟨p, _, rfl, h4.same s5, by decide, by decide, fun r6 H6 a6 b6 h6 k6 _ => ?_⟩
    have g56 := k6 _ _ g5 l5p
    have g36 := k6 _ _ (s5 _ _ g34) bp
    have K6 := K4.trans (s5.keep.trans k6)
    obtain ⟨L1, eL1, L10, L11⟩ : ∃ L : Int, atI [V.int 3, .int 12] (if decide (r6 = 7) = true then 1 else 0) = some (.int L) ∧ 1 ≤ L ∧ L ≤ 12 := by
      by_cases z : r6 = 7
      · rw [if_pos (decide_eq_true z)]; exact ⟨12, rfl, by decide, by decide⟩
      · rw [if_neg (by simpa using z)]; exact ⟨3, rfl, by decide, by decide⟩
    repeat walk_at "go"
    intro l7 n7
    obtain ⟨H7, i7, s7, g7⟩ := nw _ n7; rw [i7]
    obtain ⟨L, eL, L0, L2⟩ : ∃ L : Int, atI [V.int 3, .int L1, .int 2] many = some (.int L) ∧ 1 ≤ L ∧ L ≤ 12 := by
      rcases (show many = 0 ∨ many = 1 ∨ many = 2 by omega) with rfl | rfl | rfl
      · exact ⟨3, rfl, by decide, by decide⟩
      · exact ⟨L1, rfl, L10, L11⟩
      · exact ⟨2, rfl, by decide, by decide⟩
    have h7 := h6.same s7
    have g37 := s7 _ _ g36
    have K7 := K6.trans (s7.keep (p := p))
    repeat walk_at "st"
    refine rd_seqJ (fun σ' H' => ∃ (l : Addr) (qs : List Addr) (ms : List MS), σ' = [some (.ref p), some (.ref b), some (.int many), some (.int L), some (.ref l), none] ∧ H' l = some (.lst (qs.map V.ref)) ∧ RL (SpecAt (del l H')) qs ms ∧ ms.length = many.toNat ∧ (∀ m ∈ ms, m.Good) ∧ H' b = some (.lst [.int x, .int y]) ∧ HandAt H' p ∧ Keep p H H' ∧ b ≠ l ∧ H l = none) (fun N hN => ?_) ?_
    · repeat walk_at "go"
      refine ⟨by omega, by omega, ?_⟩
      refine comp_range (fun i us H' => ∃ (qs : List Addr) (ms : List MS), us = qs.map V.ref ∧ ms.length = i ∧ RL (SpecAt H') qs ms ∧ (∀ m ∈ ms, m.Good) ∧ H' b = some (.lst [.int x, .int y]) ∧ HandAt H' p ∧ Keep p H H') ⟨[], [], rfl, rfl, RL.nil, (fun m h => by cases h), g37, h7, K7⟩ (sz_le (by omega))
        (fun i us H' hi ⟨qs, ms, f1, f2, f3, f4, f5, f6, f7⟩ => by rw [f1, List.length_map, f3.len]; omega) (fun i us H' hi ⟨qs, ms, f1, f2, f3, f4, f5, f6, f7⟩ => ?_) (fun us H' ⟨qs, ms, f1, f2, f3, f4, f5, f6, f7⟩ => ?_)
      · repeat walk_at "go"
        refine ⟨p, b, x, y, L, rfl, f6, f5, x0, x1, y0, y1, L0, L2, fun s m H8 hs gm _ _ h8 k8 nA => ?_⟩
        refine ⟨qs ++ [s], ms ++ [m], by rw [f1, List.map_append]; rfl, by rw [List.length_append, f2]; rfl, (f3.imp fun a x z => z.tr (f6.tr k8)).snoc hs, fun m' hm' => ?_, k8 _ _ f5 bp, h8, f7.trans k8⟩
        rcases List.mem_append.mp hm' with h | h
        · exact f4 m' h
        · rw [List.mem_singleton.mp h]; exact gm
      · subst f1
        intro l nl
        obtain ⟨H8, i8, sl, g8⟩ := nw _ nl; rw [i8]
        repeat walk_at "go"
        exact hN _ _ ⟨l, qs, ms, rfl, g8, f3.imp fun a x z => z.same (del_new2 nl sl), f2, f4, sl _ _ f5, f6.same sl, f7.trans sl.keep, ne_none nl f5, fresh_of f7 f6 nl⟩
    rintro σ8 H8 ⟨l, qs, ms, rfl, gl8, rl8, lms, gms, gb8, h8, K8, bl, nlH⟩
    have lqs := rl8.len
    have lp : l ≠ p := h8.nrefs gl8
    refine rd_seqJ (fun σ' H' => ∃ (qs : List Addr) (ms : List MS), σ' = [some (.ref p), some (.ref b), some (.int many), some (.int L), some (.ref l), none] ∧ H' l = some (.lst (qs.map V.ref)) ∧ RL (SpecAt H') qs ms ∧ ms.length ≤ 2 ∧ (∀ m ∈ ms, m.Good) ∧ H' b = some (.lst [.int x, .int y]) ∧ HandAt H' p ∧ Keep p H H') (fun N hN => ?_) ?_
    · have r8' : RL (SpecAt H8) qs ms := rl8.imp fun a x z => z.same del_le
      repeat walk_at "go"
      refine rd_dec (fun c1 => ?_) (fun c1 => ?_)
      rotate_left
      · repeat walk_at "go"
        exact hN _ _ ⟨qs, ms, rfl, gl8, r8', by omega, gms, gb8, h8, K8⟩
      repeat walk_at "go"
      refine ⟨p, _, rfl, h8, by decide, by decide, fun r9 H9 a9 b9 h9 k9 _ => ?_⟩
      have gl9 := k9 _ _ gl8 lp
      have t9 := h8.tr k9
      repeat walk_at "go"
      refine rd_dec (fun c2 => ?_) (fun c2 => ?_)
      rotate_left
      · repeat walk_at "go"
        exact hN _ _ ⟨qs, ms, rfl, gl9, r8'.imp fun a x z => z.tr t9, by omega, gms, k9 _ _ gb8 bp, h9, K8.trans k9⟩
      have l2 : ms.length = 2 := by omega
      obtain ⟨m0, m1, rfl⟩ : ∃ m0 m1, ms = [m0, m1] := by
        match ms, l2 with
        | [m0, m1], _ => exact ⟨m0, m1, rfl⟩
      obtain ⟨q0, q1, rfl⟩ : ∃ q0 q1, qs = [q0, q1] := by
        match qs, (show qs.length = 2 by rw [lqs]; rfl) with
        | [q0, q1], _ => exact ⟨q0, q1, rfl⟩
      have sp0 : SpecAt (del l H8) q0 m0 := rl8.at_ 0 q0 m0 rfl rfl
      have gl9' : H9 l = some (.lst [.ref q0, .ref q1]) := gl9
      repeat walk_at "go"
      refine rd_setL (j := 1) (k := 1) gl9' rfl ?_
      obtain ⟨HA, iA, kA, gA⟩ := wr H9 l _; rw [iA]
      have dA : del l HA = del l H9 := by rw [← iA, del_upd]
      have sp0A : SpecAt HA q0 m0 := ((dA ▸ sp0.tr t9.del : SpecAt (del l HA) q0 m0)).same del_le
      repeat walk_at "go"
      refine hN _ _ ⟨[q0, q0], [m0, m0], rfl, gA, ⟨rfl, fun j q m e1 e2 => ?_⟩, by simp, fun m hm => gms m0 (.head _) |> fun z => ?_, kA _ _ (k9 _ _ gb8 bp) bl, ?_, fun c o e nc => ?_⟩
      · match j, e1, e2 with
        | 0, e1, e2 => cases e1; cases e2; exact sp0A
        | 1, e1, e2 => cases e1; cases e2; exact sp0A
        | _ + 2, e1, _ => simp at e1
      · simp only [List.mem_cons, List.not_mem_nil, or_false] at hm
        rcases hm with rfl | rfl <;> exact z
      · obtain ⟨d, c, q, qms, e1, e2, e3, e4⟩ := h9.ex
        have ql : q ≠ l := fun z => by
          rw [z] at e2
          have := gl9'.symm.trans e2
          cases qms with
          | nil => exact e3 rfl
          | cons _ _ => cases this
        exact ⟨d, c, q, qms, kA _ _ e1 lp.symm, kA _ _ e2 ql, e3, e4⟩
      · exact kA _ _ ((K8.trans k9) _ _ e nc) (ne_none nlH e)
    rintro σ9 H9 ⟨qs, ms, rfl, gl9, rl9, lms2, gms, gb9, h9, K9⟩
    have hsp9 : SpecsAt H9 l ms := ⟨qs, gl9, rl9⟩
    repeat walk_at "go"
    refine ⟨p, b, x, y, rfl, h9, gb9, x0, x1, fun v o H10 hst gst nst h10 k10 q10 => ?_⟩
    have T10 := h9.tr k10
    have K10 := K9.trans k10
    repeat walk_at "st"
    refine rd_seqJ (fun σ' H' => ∃ (v : V) (o : Option SS), σ' = [some (.ref p), some (.ref b), some (.int many), some (.int L), some (.ref l), some v] ∧ StoS H' v o ∧ (∀ t, o = some t → t.Good) ∧ SpecsAt H' l ms ∧ H' b = some (.lst [.int x, .int y]) ∧ HandAt H' p ∧ Keep p H H') (fun N hN => ?_) ?_
    · cases o with
      | none =>
        have ev : v = .non := hst
        subst ev
        repeat walk_at "gs"
        exact hN _ _ ⟨.non, none, rfl, rfl, (fun t e => by cases e), hsp9.tr T10, k10 _ _ gb9 bp, h10, K10⟩
      | some t =>
        obtain ⟨c, rfl, hc⟩ := hst
        have nc : H9 c = none := nst c rfl
        have hc' := hc.at_
        have gt := gst t rfl
        repeat walk_at "gs"
        refine rd_setL (j := 0) (k := 0) hc' rfl ?_
        obtain ⟨HB, iB, kB, gB⟩ := wr H10 c _; rw [iB]
        have KB : Keep p H9 HB := fun y o e ny => kB _ _ (k10 _ _ e ny) (ne_none nc e)
        have pc : p ≠ c := fun z => by
          obtain ⟨xs, e⟩ := h9.isL
          rw [z, nc] at e; cases e
        have QB : SameQ p H9 HB := q10.trans (SameQ.of fun o e => kB _ _ e pc)
        have hB := h9.of KB QB
        have TB : Tr H9 HB := h9.tr KB
        repeat walk_at "go"
        refine hN _ _ ⟨.ref c, some ⟨min t.cap 2, t.into, t.out, t.takes, t.gives⟩, rfl, ⟨c, rfl, ⟨gB⟩⟩, fun u e => ?_, hsp9.tr TB, KB _ _ gb9 bp, hB, K9.trans KB⟩
        cases e
        exact ⟨⟨by have := gt.cap.1; show 0 ≤ min t.cap 2; omega, by show min t.cap 2 ≤ 8; omega⟩, gt.into, gt.out, gt.takes, gt.gives⟩
    rintro σ11 H11 ⟨v, o, rfl, hst, gst, hsp11, gb11, h11, K11⟩
    refine rd_seqJ (fun σ' H' => ∃ (v : V) (o : Option SS), σ' = [some (.ref p), some (.ref b), some (.int many), some (.int L), some (.ref l), some v] ∧ StoS H' v o ∧ (∀ t, o = some t → t.Good) ∧ SpecsAt H' l ms ∧ H' b = some (.lst [.int x, .int y]) ∧ HandAt H' p ∧ Keep p H H') (fun N hN => ?_) ?_
    · cases o with
      | none =>
        have ev : v = .non := hst
        subst ev
        repeat walk_at "gs"
        exact hN _ _ ⟨.non, none, rfl, rfl, (fun t e => by cases e), hsp11, gb11, h11, K11⟩
      | some t =>
        obtain ⟨c, rfl, hc⟩ := id hst
        have gt := gst t rfl
        repeat walk_at "gs"
        refine rd_dec (fun c1 => ?_) (fun c1 => ?_)
        rotate_left
        · repeat walk_at "go"
          exact hN _ _ ⟨.ref c, some t, rfl, hst, gst, hsp11, gb11, h11, K11⟩
        repeat walk_at "go"
        refine ⟨p, _, rfl, h11, by decide, by decide, fun r12 H12 a12 b12 h12 k12 _ => ?_⟩
        have T12 := h11.tr k12
        repeat walk_at "go"
        refine rd_dec (fun c2 => ?_) (fun c2 => ?_)
        rotate_left
        · repeat walk_at "go"
          exact hN _ _ ⟨.ref c, some t, rfl, hst.tr T12, gst, hsp11.tr T12, k12 _ _ gb11 bp, h12, K11.trans k12⟩
        repeat walk_at "go"
        refine ⟨p, _, rfl, h12, by decide, by decide, fun r13 H13 a13 b13 h13 k13 _ => ?_⟩
        repeat walk_at "go"
        refine ⟨p, _, rfl, h13, by decide, by decide, fun r14 H14 a14 b14 h14 k14 _ => ?_⟩
        repeat walk_at "go"
        refine ⟨p, _, rfl, h14, by decide, by decide, fun r15 H15 a15 b15 h15 k15 _ => ?_⟩
        repeat walk_at "go"
        intro l16 n16
        obtain ⟨H16, i16, s16, g16⟩ := nw _ n16; rw [i16]
        have K16 : Keep p H11 H16 := k12.trans (k13.trans (k14.trans (k15.trans s16.keep)))
        have T16 := h11.tr K16
        have hc16 := (hc.tr T16).at_
        repeat walk_at "go"
        refine rd_slL (SqL.of hc16) ?_
        intro l17 n17
        obtain ⟨H17, i17, s17, g17⟩ := nw _ n17; rw [i17]
        have g17' : H17 l17 = some (.lst [.int t.takes, .int t.gives]) := g17
        repeat walk_at "go"
        refine rd_addL (s17 _ _ g16) g17' (sz_le (by simp)) ?_
        intro l18 n18
        obtain ⟨H18, i18, s18, g18⟩ := nw _ n18; rw [i18]
        have g18' : H18 l18 = some (.lst [.int r13, .int r14, .int r15, .int t.takes, .int t.gives]) := g18
        have s1618 := s17.trans s18
        have T18 : Tr H11 H18 := T16.trans s1618.tr
        repeat walk_at "go"
        refine hN _ _ ⟨.ref l18, some ⟨r13, r14, r15, t.takes, t.gives⟩, rfl, ⟨l18, rfl, ⟨g18'⟩⟩, fun u e => ?_, hsp11.tr T18, s1618 _ _ (K16 _ _ gb11 bp), h15.same (s16.trans s1618), K11.trans (K16.trans s1618.keep)⟩
        cases e
        exact ⟨⟨a13, by show r13 ≤ 8; omega⟩, ⟨a14, by show r14 ≤ 8; omega⟩, ⟨a15, by show r15 ≤ 8; omega⟩, gt.takes, gt.gives⟩
    rintro σ19 H19 ⟨v, o, rfl, hst, gst, hsp19, gb19, h19, K19⟩
    repeat walk_at "go"
    refine ⟨p, _, rfl, h19, by decide, by decide, fun r20 H20 a20 b20 h20 k20 _ => ?_⟩
    have T20 := h19.tr k20
    have z0 : 0 ≤ y * r20 := Int.mul_nonneg (by omega) a20
    have z1 : y * r20 ≤ 1000000000000 := Int.le_trans (Int.mul_le_mul_of_nonneg_left (show r20 ≤ 11 by omega) (by omega)) (by omega)
    repeat walk_at "go"
    intro s ns
    obtain ⟨H21, i21, s21, g21⟩ := nw _ ns; rw [i21]
    have T21 : Tr H19 H21 := T20.trans s21.tr
    repeat walk_at "go"
    exact k s ms o (y * r20) b x y H21 ⟨l, v, g21, hsp19.tr T21, hst.tr T21, s21 _ _ (k20 _ _ gb19 bp)⟩ gms lms2 gst ⟨z0, z1⟩ (h20.same s21) (K19.trans (k20.trans s21.keep))
theorem eqN_pcs {K : PySem.W.Frag} {H : Hp} {n : Nat} {pl pl' : Addr} {ps ps' : List (Int × Int)} (h : PcAt H pl ps) (h' : PcAt H pl' ps') : ∃ b, EqN K H (n + 2) (.ref pl) (.ref pl') b ∧ (b = true → ps = ps') := by
  obtain ⟨qs, h1, h2⟩ := h.ex
  obtain ⟨qs', h1', h2'⟩ := h'.ex
  refine ⟨_, .inr ⟨pl, pl', _, _, fun j => (2 == 2 && (List.range 2).all fun i => match ps[j]?, ps'[j]? with | some t, some t' => (match i with | 0 => decide (t.1 = t'.1) | _ => decide (t.2 = t'.2)) | _, _ => true), rfl, rfl, .inl ⟨SqL.of h1, SqL.of h1'⟩, fun j u v hu hv => ?_, rfl⟩, fun hb => ?_⟩
  · rw [List.getElem?_map] at hu hv
    cases e1 : qs[j]? with
    | none => rw [e1] at hu; cases hu
    | some q =>
      cases e2 : qs'[j]? with
      | none => rw [e2] at hv; cases hv
      | some q' =>
        rw [e1] at hu
        rw [e2] at hv
        cases hu
        cases hv
        have l1 : j < ps.length := by rw [← h2.len]; exact (List.getElem?_eq_some_iff.mp e1).1
        have l2 : j < ps'.length := by rw [← h2'.len]; exact (List.getElem?_eq_some_iff.mp e2).1
        have t1 := h2.at_ j q _ e1 (List.getElem?_eq_getElem l1)
        have t2 := h2'.at_ j q' _ e2 (List.getElem?_eq_getElem l2)
        refine .inr ⟨q, q', _, _, fun i => match ps[j]?, ps'[j]? with | some t, some t' => (match i with | 0 => decide (t.1 = t'.1) | _ => decide (t.2 = t'.2)) | _, _ => true, rfl, rfl, .inr ⟨SqT.of t1, SqT.of t2⟩, fun i u v hu hv => ?_, rfl⟩
        rw [List.getElem?_eq_getElem l1, List.getElem?_eq_getElem l2]
        match i, hu, hv with
        | 0, hu, hv =>
          cases hu; cases hv
          cases n with
          | zero => exact ⟨rfl, rfl, rfl⟩
          | succ n => exact .inl ⟨rfl, rfl, rfl⟩
        | 1, hu, hv =>
          cases hu; cases hv
          cases n with
          | zero => exact ⟨rfl, rfl, rfl⟩
          | succ n => exact .inl ⟨rfl, rfl, rfl⟩
        | _ + 2, hu, _ => simp at hu
  · rw [Bool.and_eq_true, List.all_eq_true] at hb
    obtain ⟨b1, b2⟩ := hb
    have hl : ps.length = ps'.length := by
      have := beq_iff_eq.mp b1
      rw [List.length_map, List.length_map, h2.len, h2'.len] at this
      exact this
    refine List.ext_getElem hl fun j l1 l2 => ?_
    have c := b2 j (List.mem_range.mpr (by rw [List.length_map, h2.len]; exact l1))
    rw [Bool.and_eq_true, List.all_eq_true] at c
    have c0 := c.2 0 (by simp)
    have c1 := c.2 1 (by simp)
    simp only [List.getElem?_eq_getElem l1, List.getElem?_eq_getElem l2] at c0 c1
    exact Prod.ext (of_decide_eq_true c0) (of_decide_eq_true c1)
theorem eqN_spec {K : PySem.W.Frag} {H : Hp} {s t : Addr} {m m' : MS} (h1 : SpecAt H s m) (h2 : SpecAt H t m') : ∃ b, EqN K H 8 (.ref s) (.ref t) b ∧ (b = true → m = m') := by
  obtain ⟨pl, e1, p1⟩ := h1.ex
  obtain ⟨pl', e2, p2⟩ := h2.ex
  obtain ⟨bp, hbp, ep⟩ := eqN_pcs (K := K) (n := 5) p1 p2
  refine ⟨_, .inr ⟨s, t, _, _, fun j => match j with | 0 => decide (m.up = m'.up) | 1 => decide (m.down = m'.down) | 2 => decide (m.begin_ = m'.begin_) | 3 => decide (m.run = m'.run) | 4 => decide (m.rest = m'.rest) | 5 => decide (m.least = m'.least) | _ => bp, rfl, rfl, .inl ⟨SqL.of e1, SqL.of e2⟩, fun j u v hu hv => ?_, rfl⟩, fun hb => ?_⟩
  · match j, hu, hv with
    | 0, hu, hv => cases hu; cases hv; exact .inl ⟨rfl, rfl, rfl⟩
    | 1, hu, hv => cases hu; cases hv; exact .inl ⟨rfl, rfl, rfl⟩
    | 2, hu, hv => cases hu; cases hv; exact .inl ⟨rfl, rfl, rfl⟩
    | 3, hu, hv => cases hu; cases hv; exact .inl ⟨rfl, rfl, rfl⟩
    | 4, hu, hv => cases hu; cases hv; exact .inl ⟨rfl, rfl, rfl⟩
    | 5, hu, hv => cases hu; cases hv; exact .inl ⟨rfl, rfl, rfl⟩
    | 6, hu, hv => cases hu; cases hv; exact hbp
    | _ + 7, hu, _ => simp at hu
  · rw [Bool.and_eq_true, List.all_eq_true] at hb
    have q := fun j (hj : j < 7) => hb.2 j (List.mem_range.mpr hj)
    have c0 := of_decide_eq_true (q 0 (by decide))
    have c1 := of_decide_eq_true (q 1 (by decide))
    have c2 := of_decide_eq_true (q 2 (by decide))
    have c3 := of_decide_eq_true (q 3 (by decide))
    have c4 := of_decide_eq_true (q 4 (by decide))
    have c5 := of_decide_eq_true (q 5 (by decide))
    have c6 := ep (q 6 (by decide))
    obtain ⟨u1, u2, u3, u4, u5, u6, u7⟩ := m
    obtain ⟨v1, v2, v3, v4, v5, v6, v7⟩ := m'
    simp only [MS.mk.injEq]
    exact ⟨c0, c1, c2, c3, c4, c5, c6⟩
def sp__law_works (K : PySem.W.Frag) (CW CM CS : Addr) : Sp := fun vs H Q _ => ∃ (s : Addr) (ms : List MS) (o : Option SS) (lk : Int) (b : Addr) (x y : Int), vs = [.ref s] ∧ W4 H s ms o lk b x y ∧ (∀ m ∈ ms, m.Good) ∧ ms.length ≤ 2 ∧ (∀ t, o = some t → t.Good) ∧ Am lk ∧ ∀ w H', Same H H' → Q (.ref w) H'
set_option maxHeartbeats 40000000 in
theorem ok__law_works {P : Program} {w : World} {K : PySem.W.Frag} {mg : Str → Option Value} {base : Heap} {a : Adr} (tx : Txt K mg a) : FnOk P w K mg base CX0 8 a.f__law_works a.d__law_works ["_law_spec_here"] (sp__law_works K a.c_Works a.c_Machine a.c_Store) := by
  have G_Store_init := ok_Store_init (P := P) (w := w) (base := base) tx
  have G_Works_init := ok_Works_init (P := P) (w := w) (base := base) tx
  have G__law_machine := ok__law_machine (P := P) (w := w) (base := base) tx
  refine tx.F__law_works.ok sc__law_works (fun vs H Q E h => ?_) (fun cdv A outer s H vs Q E hr h => ?_)
  · obtain ⟨s, ms, o, lk, b, x, y, rfl, _⟩ := h
    rfl
  · obtain ⟨s, ms, o, lk, b, x, y, rfl , hW, hg, hlen, hgo, hlk, k⟩ := h
    have hu := hu9 hr
    refine L2.Q.root (L2.Q.pss_cons (L2.Q.ps_setC (k := 1) (idx := []) (N := ["_law_one"]) (i := 1) sc__law_works.nd rfl (Or.inl rfl) (blk_sc (sc := defScope s__law_works) (NX := ["_law_spec_here", "_law_machines", "_law_store_here"]) rfl rfl rfl (by decide +kernel)) rfl (L2.Q.pi_listK (K' := K) (L2.Q.pe_ixK (K' := K) (L2.Q.pv 0) L2.Q.pe_int (fun _ _ => rfl))) (fun _ _ _ _ => (L2.Q.pg_name (i := 0) (show (["_law_one"] : List Str).Nodup by decide +kernel) rfl (Or.inl rfl))) (own_name (by decide)) (fun _ _ _ _ => L2.Q.pts_nil) (fun _ _ _ _ => (L2.Q.pe_callN (G__law_machine) (hr.mono (by decide)) (by rfl) tx.g__law_machine tx.F__law_machine.kp tx.b__law_machine .nil pass0 (L2.Q.pa_c (L2.Q.pv 0) L2.Q.pa_nil))))
      (L2.Q.pss_cons (L2.Q.ps_if (L2.Q.pw_pt (L2.Q.pw_and (L2.Q.pt_cmpR (r := rEqG K) (op_eqG hu) (L2.Q.pe_callBN (rc := rLen K) call_lenG (by rfl) tx.z_len bt_len (L2.Q.pa_c (L2.Q.pv 1) L2.Q.pa_nil)) L2.Q.pe_int (nomark _)) (L2.Q.pw_and1 (L2.Q.pt_cmpR (r := rEqG K) (op_eqG hu) (L2.Q.pe_ixK (K' := K) (L2.Q.pe_ixK (K' := K) (L2.Q.pv 0) L2.Q.pe_int (fun _ _ => rfl)) L2.Q.pe_int (fun _ _ => rfl)) (L2.Q.pe_ixK (K' := K) (L2.Q.pe_ixK (K' := K) (L2.Q.pv 0) L2.Q.pe_int (fun _ _ => rfl)) L2.Q.pe_int (fun _ _ => rfl)) (nomark _))))) (L2.Q.pss_one (L2.Q.ps_asg (L2.Q.pe_ixK (K' := K) (L2.Q.pv 1) L2.Q.pe_int (fun _ _ => rfl)) (L2.Q.pg_sub (L2.Q.pv 1) L2.Q.pe_int set_list))) L2.Q.pss_nil)
      (L2.Q.pss_cons (L2.Q.ps_set (i := 2) sc__law_works.nd rfl (Or.inl rfl) (L2.Q.pe_ixK (K' := K) (L2.Q.pv 0) L2.Q.pe_int (fun _ _ => rfl)))
      (L2.Q.pss_cons (L2.Q.ps_if (L2.Q.pt_cmpR op_isNotG (L2.Q.pv 2) L2.Q.pe_non (nomark _)) (L2.Q.pss_one (L2.Q.ps_set (i := 2) sc__law_works.nd rfl (Or.inl rfl) (L2.Q.pe_makeN tx.M_Store (G_Store_init) (hr.mono (by decide)) (by rfl) tx.g_Store tx.b_Store_init .nil pass0 (L2.Q.pa_c (L2.Q.pe_ixK (K' := K) (L2.Q.pv 2) L2.Q.pe_int (fun _ _ => rfl)) (L2.Q.pa_c (L2.Q.pe_ixK (K' := K) (L2.Q.pv 2) L2.Q.pe_int (fun _ _ => rfl)) (L2.Q.pa_c (L2.Q.pe_ixK (K' := K) (L2.Q.pv 2) L2.Q.pe_int (fun _ _ => rfl)) (L2.Q.pa_c (L2.Q.pe_ixK (K' := K) (L2.Q.pv 2) L2.Q.pe_int (fun _ _ => rfl)) (L2.Q.pa_c (L2.Q.pe_ixK (K' := K) (L2.Q.pv 2) L2.Q.pe_int (fun _ _ => rfl)) L2.Q.pa_nil)))))))) L2.Q.pss_nil)
      (L2.Q.pss_one (L2.Q.ps_ret (L2.Q.pe_makeN tx.M_Works (G_Works_init) (hr.mono (by decide)) (by rfl) tx.g_Works tx.b_Works_init .nil pass0 (L2.Q.pa_c (L2.Q.pv 1) (L2.Q.pa_c (L2.Q.pv 2) (L2.Q.pa_c (L2.Q.pe_ixK (K' := K) (L2.Q.pv 0) L2.Q.pe_int (fun _ _ => rfl)) L2.Q.pa_nil)))))))))) ?_
    obtain ⟨ls, st, hs, hsp, hst, hb⟩ := hW.ex
    obtain ⟨qs, hl, rl⟩ := hsp.ex
    have lql := rl.len
    refine rd_start (σ := [some (.ref s), none, none]) rfl ?_
    refine rd_seqJ (fun σ' H' => ∃ lm qm, σ' = [some (.ref s), some (.ref lm), none] ∧ H' lm = some (.lst (qm.map V.ref)) ∧ RL (MachAt a.c_Machine (del lm H')) qm ms ∧ Same H H' ∧ H lm = none) (fun N hN => ?_) ?_
    · repeat walk_at "go"
      refine rd_li (SqL.of hl) ?_
      refine comp_list (xs := qs.map V.ref) (fun i us H' => Same H H' ∧ ∃ as, us = as.map V.ref ∧ as.length = i ∧ RL (MachAt a.c_Machine H') as (ms.take i)) ⟨Same.refl _, [], rfl, rfl, RL.nil⟩ (sz_le (by rw [List.length_map]; omega))
        (fun i us H' hi ⟨s1, as, e1, e2, e3⟩ => ⟨SqL.of (s1 _ _ hl), by rw [e1, List.length_map]; omega⟩) (fun i x us H' hx ⟨s1, as, e1, e2, e3⟩ => ?_) (fun us H' ⟨s1, as, e1, e2, e3⟩ => ?_)
      · obtain ⟨q, m, _, rfl, hm, hq⟩ := rl.get hx
        repeat walk_at "go"
        refine ⟨q, m, rfl, hq.tr s1.tr, hg m (List.mem_of_getElem? hm), fun y H5 hM s5 ny => ?_⟩
        refine ⟨s1.trans s5, as ++ [y], by rw [e1, List.map_append]; rfl, by rw [List.length_append, e2]; rfl, ?_⟩
        rw [take_snoc hm]
        exact (e3.imp fun a x z => z.same s5).snoc hM
      · subst e1
        intro lm nlm
        obtain ⟨H2, e2', s2, g2⟩ := nw _ nlm; rw [e2']
        repeat walk_at "go"
        rw [List.length_map, lql, List.take_length] at e3
        exact hN _ _ ⟨lm, as, rfl, g2, e3.imp fun a x z => z.same (del_new2 nlm s2), s1.trans s2, s1.free nlm⟩
    rintro σ1 H1 ⟨lm, qm, rfl, hm1, rm1, s1, nlm⟩
    have lqm := rm1.len
    refine rd_seqJ (fun σ' H' => σ' = [some (.ref s), some (.ref lm), none] ∧ MachsAt a.c_Machine H' lm ms ∧ Same H H') (fun N hN => ?_) ?_
    · repeat walk_at "go"
      refine rd_dec (fun h2 => ?_) (fun h2 => ?_)
      · rw [List.length_map] at h2
        obtain ⟨m0, m1, rfl⟩ : ∃ m0 m1, ms = [m0, m1] := by
          match ms, (show ms.length = 2 by omega) with
          | [m0, m1], _ => exact ⟨m0, m1, rfl⟩
        obtain ⟨q0, q1, rfl⟩ : ∃ q0 q1, qs = [q0, q1] := by
          match qs, (show qs.length = 2 by rw [lql]; rfl) with
          | [q0, q1], _ => exact ⟨q0, q1, rfl⟩
        obtain ⟨a0, a1, rfl⟩ : ∃ a0 a1, qm = [a0, a1] := by
          match qm, (show qm.length = 2 by rw [lqm]; rfl) with
          | [a0, a1], _ => exact ⟨a0, a1, rfl⟩
        have p0 := (rl.at_ 0 q0 m0 rfl rfl).tr s1.tr
        have p1 := (rl.at_ 1 q1 m1 rfl rfl).tr s1.tr
        have hs1 := s1 _ _ hs
        have hl1 : H1 ls = some (.lst [.ref q0, .ref q1]) := s1 _ _ hl
        have hm1' : H1 lm = some (.lst [.ref a0, .ref a1]) := hm1
        obtain ⟨bb, hbb, ebb⟩ := eqN_spec (K := K) p0 p1
        repeat walk_at "go"
        refine ⟨bb, hbb, ?_⟩
        repeat walk_at "go"
        refine rd_bool (fun h3 => ?_) (fun h3 => ?_)
        · have em := ebb h3
          subst em
          repeat walk_at "go"
          refine rd_setL (j := 1) (k := 1) hm1' rfl ?_
          obtain ⟨J, i, kj, j⟩ := wr H1 lm _; rw [i]
          have dl : del lm J = del lm H1 := by rw [← i, del_upd]
          have ma := rm1.at_ 0 a0 m0 rfl rfl
          have maJ : MachAt a.c_Machine J a0 m0 := ((dl ▸ ma : MachAt _ (del lm J) a0 m0)).same del_le
          repeat walk_at "go"
          refine hN _ _ ⟨rfl, ⟨[a0, a0], j, rfl, fun i q m e1 e2 => ?_⟩, fun b o e => kj _ _ (s1 _ _ e) (ne_none nlm e)⟩
          match i, e1, e2 with
          | 0, e1, e2 => cases e1; cases e2; exact maJ
          | 1, e1, e2 => cases e1; cases e2; exact maJ
          | _ + 2, e1, _ => simp at e1
        · repeat walk_at "go"
          exact hN _ _ ⟨rfl, ⟨_, hm1, rm1.imp fun a x z => z.same del_le⟩, s1⟩
      · repeat walk_at "go"
        exact hN _ _ ⟨rfl, ⟨qm, hm1, rm1.imp fun a x z => z.same del_le⟩, s1⟩
    rintro σ2 H2 ⟨rfl, hM2, s2⟩
    have hs2 := s2 _ _ hs
    refine rd_seq ?_
    repeat walk_at "st"
    refine rd_seqJ (fun σ' H' => ∃ so, σ' = [some (.ref s), some (.ref lm), some so] ∧ StoO a.c_Store H' so o ∧ MachsAt a.c_Machine H' lm ms ∧ Same H H') (fun N hN => ?_) ?_
    · cases o with
      | none =>
        replace hst : st = .non := hst
        subst hst
        repeat walk_at "go"
        exact hN _ _ ⟨_, rfl, rfl, hM2, s2⟩
      | some ss =>
        obtain ⟨c, rfl, hc⟩ := hst
        have gs := hgo ss rfl
        have hc2 := (hc.tr s2.tr).at_
        repeat walk_at "go"
        intro x dx nx nd hd
        obtain ⟨J, i, sj, j⟩ := nwi (C := a.c_Store) nx nd hd; rw [i]
        refine ⟨x, dx, ss, rfl, j, gs, fun H3 hS kx => ⟨rfl, ?_⟩⟩
        repeat walk_at "go"
        exact hN _ _ ⟨_, rfl, ⟨x, rfl, hS⟩, hM2.tr (sj.tr.trans (ins_tr j kx)), fun b o e => kx _ _ (sj _ _ (s2 _ _ e)) (ne_none (s2.free nx) e)⟩
    rintro σ3 H3 ⟨so, rfl, hso, hM3, s3⟩
    have hs3 := s3 _ _ hs
    repeat walk_at "go"
    intro x' dx nx nd hd
    obtain ⟨J, i, sj, j⟩ := nwi (C := a.c_Works) nx nd hd; rw [i]
    refine ⟨x', dx, lm, so, ⟨ms, o, lk, 1, 1, 0⟩, rfl, j, hM3.tr sj.tr, hso.tr sj.tr, Nat.le_trans hlen (by decide), hlk, fun H4 hWk kx => ⟨rfl, ?_⟩⟩
    exact k x' H4 (fun b o e => kx _ _ (sj _ _ (s3 _ _ e)) (ne_none (s3.free nx) e))
theorem map_sts {H : Hp} {qs : List Addr} {ss : List (Int × Int)} (h : RL (StA H) qs ss) {H' : Hp} (s : Tk H H') : RL (StA H') qs ss := h.imp fun a x z => s _ _ z
def sp__law_position (K : PySem.W.Frag) : Sp := fun vs H Q _ => ∃ (p s : Addr) (ms : List MS) (o : Option SS) (lk : Int) (b : Addr) (x y : Int), vs = [.ref p, .ref s] ∧ HandAt H p ∧ W4 H s ms o lk b x y ∧ (∀ m ∈ ms, m.Good) ∧ ms.length ≤ 2 ∧ (∀ t, o = some t → t.Good) ∧
  ∀ (r : Addr) (P : Ps) H', PosAt H' r P → P.1.length ≤ 2 → HandAt H' p → Keep p H H' → Q (.ref r) H'
set_option maxHeartbeats 40000000 in
theorem ok__law_position {P : Program} {w : World} {K : PySem.W.Frag} {mg : Str → Option Value} {base : Heap} {a : Adr} (tx : Txt K mg a) : FnOk P w K mg base CX0 3 a.f__law_position a.d__law_position ["_law_hand", "_law_spec_here"] (sp__law_position K) := by
  have G__law_draw := ok__law_draw (P := P) (w := w) (base := base) tx
  have G__law_state := ok__law_state (P := P) (w := w) (base := base) tx
  refine tx.F__law_position.ok sc__law_position (fun vs H Q E h => ?_) (fun cdv A outer s H vs Q E hr h => ?_)
  · obtain ⟨p, s, ms, o, lk, b, x, y, rfl, _⟩ := h
    rfl
  · obtain ⟨p, s, ms, o, lk, b, x, y, rfl , hh, hW, hg, hlen, hgo, k⟩ := h
    have hu := hu9 hr
    refine L2.Q.root (L2.Q.pss_cons (L2.Q.ps_set (i := 2) sc__law_position.nd rfl (Or.inl rfl) (L2.Q.pe_callTyN (rc := rTupOf K) call_tupG (by rfl) tx.z_tuple bt_tuple (L2.Q.pa_c (L2.Q.pe_comp (k := 1) (idx := [0]) (N := ["_law_one", "_law_hand"]) (blk_sc (sc := defScope s__law_position) (NX := ["_law_hand", "_law_spec_here", "_law_states"]) rfl rfl rfl (by decide +kernel)) rfl (L2.Q.pi_listK (K' := K) (L2.Q.pe_ixK (K' := K) (L2.Q.pv 1) L2.Q.pe_int (fun _ _ => rfl))) (fun _ _ _ _ => (L2.Q.pg_name (i := 0) (show (["_law_one", "_law_hand"] : List Str).Nodup by decide +kernel) rfl (Or.inl rfl))) (own_name (by decide)) (fun _ _ _ _ => L2.Q.pts_nil) (fun _ _ _ _ => (L2.Q.pe_callN (G__law_state) (hr.mono (by decide)) (by rfl) tx.g__law_state tx.F__law_state.kp tx.b__law_state .nil pass0 (L2.Q.pa_c (L2.Q.pv 1) (L2.Q.pa_c (L2.Q.pv 0) L2.Q.pa_nil))))) L2.Q.pa_nil)))
      (L2.Q.pss_cons (L2.Q.ps_if (L2.Q.pt_cmpR op_isG (L2.Q.pe_ixK (K' := K) (L2.Q.pv 1) L2.Q.pe_int (fun _ _ => rfl)) L2.Q.pe_non (nomark _)) (L2.Q.pss_one (L2.Q.ps_ret (L2.Q.tup2 (L2.Q.pv 2) L2.Q.pe_int))) L2.Q.pss_nil)
      (L2.Q.pss_one (L2.Q.ps_ret (L2.Q.tup2 (L2.Q.pv 2) (L2.Q.pe_callN (G__law_draw) (hr.mono (by decide)) (by rfl) tx.g__law_draw tx.F__law_draw.kp tx.b__law_draw .nil pass0 (L2.Q.pa_c (L2.Q.pv 0) (L2.Q.pa_c (L2.Q.pe_op op_addG (L2.Q.pe_ixK (K' := K) (L2.Q.pe_ixK (K' := K) (L2.Q.pv 1) L2.Q.pe_int (fun _ _ => rfl)) L2.Q.pe_int (fun _ _ => rfl)) L2.Q.pe_int) L2.Q.pa_nil)))))))) ?_
    obtain ⟨ls, st, hs, hsp, hst, hb⟩ := hW.ex
    obtain ⟨qs, hl, rl⟩ := hsp.ex
    have lql := rl.len
    have sp : s ≠ p := hh.nlen hs (by simp)
    have lp : ls ≠ p := hh.nrefs hl
    refine rd_start (σ := [some (.ref p), some (.ref s), none]) rfl ?_
    repeat walk_at "go"
    refine rd_li (SqL.of hl) ?_
    refine comp_list (xs := qs.map V.ref) (fun i us H' => HandAt H' p ∧ Keep p H H' ∧ ∃ ts ss, us = ts.map V.ref ∧ ts.length = i ∧ RL (StA H') ts ss ∧ ∀ s ∈ ss, VS s) ⟨hh, fun _ _ e _ => e, [], [], rfl, rfl, RL.nil, fun s h => by cases h⟩ (sz_le (by rw [List.length_map]; omega))
      (fun i us H' hi ⟨h1, k1, ts, ss, e1, e2, e3, e4⟩ => ⟨SqL.of (k1 _ _ hl lp), by rw [e1, List.length_map]; omega⟩) (fun i x us H' hx ⟨h1, k1, ts, ss, e1, e2, e3, e4⟩ => ?_) (fun us H' ⟨h1, k1, ts, ss, e1, e2, e3, e4⟩ => ?_)
    · obtain ⟨q, m, _, rfl, hm, hq⟩ := rl.get hx
      have gm := hg m (List.mem_of_getElem? hm)
      repeat walk_at "go"
      refine ⟨p, q, m, rfl, h1, hq.tr (hh.tr k1), gm, fun t o d H2 ht hod h2 k2 => ?_⟩
      refine ⟨h2, k1.trans k2, ts ++ [t], ss ++ [(o, d)], by rw [e1, List.map_append]; rfl, by rw [List.length_append, e2]; rfl, (map_sts e3 (h1.tr k2).tk).snoc ht, fun s hs => ?_⟩
      rcases List.mem_append.mp hs with h | h
      · exact e4 s h
      · rw [List.mem_singleton.mp h]
        rcases hod with ⟨z1, z2, _⟩ | ⟨z1, z2, _⟩
        · exact ⟨.inr z1, z2⟩
        · exact ⟨.inl z1, z2⟩
    · subst e1
      rw [List.length_map] at e2
      intro l1 n1
      obtain ⟨H2, i2, s2, g2⟩ := nw _ n1; rw [i2]
      repeat walk_at "go"
      refine rd_tupL (SqL.of g2) ?_
      intro T nT
      obtain ⟨H3, i3, s3, g3⟩ := nw _ nT; rw [i3]
      have s23 := s2.trans s3
      have hs3 := s23 _ _ (k1 _ _ hs sp)
      have e33 := map_sts e3 s23.tk
      have lss : ss.length = ms.length := by rw [← e3.len, e2, lql]
      cases o with
      | none =>
        replace hst : st = .non := hst
        subst hst
        repeat walk_at "go"
        intro r nr
        obtain ⟨H4, i4, s4, g4⟩ := nw _ nr; rw [i4]
        repeat walk_at "go"
        exact k r (ss, 0) H4 ⟨T, g4, ts, s4 _ _ g3, map_sts e33 s4.tk⟩ (show ss.length ≤ 2 by omega) (h1.same (s23.trans s4)) (k1.trans (s23.trans s4).keep)
      | some sv =>
        obtain ⟨c, rfl, hc⟩ := hst
        have gs := (hgo sv rfl).cap
        have hc3 := (hc.tr ((hh.tr k1).trans s23.tr)).at_
        repeat walk_at "go"
        refine ⟨p, _, rfl, h1.same s23, by omega, by omega, fun r5 H5 a5 b5 h5 k5 _ => ?_⟩
        have tk5 := ((h1.same s23).tr k5).tk
        repeat walk_at "go"
        intro r nr
        obtain ⟨H6, i6, s6, g6⟩ := nw _ nr; rw [i6]
        repeat walk_at "go"
        exact k r (ss, r5) H6 ⟨T, g6, ts, s6 _ _ (tk5 _ _ g3), map_sts e33 (tk5.trans s6.tk)⟩ (show ss.length ≤ 2 by omega) (h5.same s6) (k1.trans (s23.keep.trans (k5.trans s6.keep)))
def up1 {α : Type} (f : Nat → α) (i : Nat) (x : α) : Nat → α := fun j => if j = i then x else f j
theorem up1_at {α : Type} (f : Nat → α) (i : Nat) (x : α) : up1 f i x i = x := if_pos rfl
theorem up1_ne {α : Type} (f : Nat → α) {i j : Nat} (x : α) (h : j ≠ i) : up1 f i x j = f j := if_neg h
structure TwoAt (CK : Addr) (H0 Hs : Hp) (p0 : Addr) (kk ww qq rr : Nat → Addr) (Lk Lw Lq : Addr) (Hc : Hp) (ws : Nat → List Int) (hist : Nat → List (List Int)) (fp : Nat → List Addr) : Prop where
  pr : ∀ i, i < 2 → PrAt CK Hc (kk i) (ww i) (qq i) (rr i) (ws i) (hist i) (fp i)
  dj : ∀ i j, i < 2 → j < 2 → i ≠ j → ∀ b ∈ fp i, b ∉ fp j
  new : ∀ i, i < 2 → ∀ b ∈ fp i, Hs b = none
  gk : Hc Lk = some (.lst [.ref (kk 0), .ref (kk 1)])
  gw : Hc Lw = some (.lst [.ref (ww 0), .ref (ww 1)])
  gq : Hc Lq = some (.lst [.ref (qq 0), .ref (qq 1)])
  out : ∀ i, i < 2 → Lk ∉ fp i ∧ Lw ∉ fp i ∧ Lq ∉ fp i
  s0 : Same H0 Hc
  ks : Keep p0 Hs Hc
  sq : SameQ p0 Hs Hc
  bd : ∀ i, i < 2 → Bd (ws i) (hist i)
section
variable {CK : Addr} {H0 Hs Hc H' : Hp} {p0 : Addr} {kk ww qq rr : Nat → Addr} {Lk Lw Lq : Addr} {ws : Nat → List Int} {hist : Nat → List (List Int)} {fp : Nat → List Addr}
theorem TwoAt.same (t : TwoAt CK H0 Hs p0 kk ww qq rr Lk Lw Lq Hc ws hist fp) (s : Same Hc H') : TwoAt CK H0 Hs p0 kk ww qq rr Lk Lw Lq H' ws hist fp :=
  ⟨fun i hi => (t.pr i hi).same s, t.dj, t.new, s _ _ t.gk, s _ _ t.gw, s _ _ t.gq, t.out, t.s0.trans s, t.ks.trans s.keep, t.sq.trans (SameQ.of (s p0)), t.bd⟩
theorem TwoAt.stepP (t : TwoAt CK H0 Hs p0 kk ww qq rr Lk Lw Lq Hc ws hist fp) (s0 : Same H0 Hs) (hh : HandAt Hs p0) (n0 : H0 p0 = none) {i : Nat} (hi : i < 2) {ws' : List Int} {hist' : List (List Int)} {fp' : List Addr} (f' : Fx (p0 :: fp i) Hc H') (sq' : SameQ p0 Hc H') (g : Gr Hc (fp i) fp') (pr' : PrAt CK H' (kk i) (ww i) (qq i) (rr i) ws' hist' fp') (bd' : Bd ws' hist') :
    TwoAt CK H0 Hs p0 kk ww qq rr Lk Lw Lq H' (up1 ws i ws') (up1 hist i hist') (up1 fp i fp') := by
  have hcp : Hc p0 ≠ none := by
    obtain ⟨d, c, q, ms, hp, _⟩ := hh.ex
    obtain ⟨d', c', e⟩ := t.sq d c q hp
    rw [e]
    exact fun z => by cases z
  have hsp : Hs p0 ≠ none := by
    obtain ⟨xs, e⟩ := hh.isL
    rw [e]
    exact fun z => by cases z
  have back : ∀ b, Hc b = none → Hs b = none := fun b z => by
    cases e : Hs b with
    | none => rfl
    | some o =>
      by_cases y : b = p0
      · exact absurd (y ▸ z) hcp
      · rw [t.ks b o e y] at z; cases z
  have nf : ∀ b, Hs b ≠ none → b ∉ fp i := fun b z y => z (t.new i hi b y)
  have hc := hh.of t.ks t.sq
  have f : ∀ b o, Hc b = some o → b ≠ p0 → b ∉ fp i → H' b = some o := fun b o e n1 n2 => f' b o e fun z => by
    rcases List.mem_cons.mp z with z | z
    · exact n1 z
    · exact n2 z
  have nl : ∀ (L : Addr) (x y : Addr), Hc L = some (.lst [.ref x, .ref y]) → L ≠ p0 := fun L x y e => hc.nlen e (by simp)
  have nL : ∀ L o, Hc L = some o → L ∉ fp i → L ∉ fp' := fun L o e n y => by
    rcases g L y with z | z
    · exact n z
    · rw [e] at z; cases z
  refine ⟨fun j hj => ?_, fun j l hj hl njl b hb => ?_, fun j hj b hb => ?_, f _ _ t.gk (nl _ _ _ t.gk) (t.out i hi).1, f _ _ t.gw (nl _ _ _ t.gw) (t.out i hi).2.1, f _ _ t.gq (nl _ _ _ t.gq) (t.out i hi).2.2, fun j hj => ?_, fun b o e => f b o (t.s0 b o e) (ne_none n0 e) (nf b (by rw [s0 b o e]; exact fun z => by cases z)), fun b o e n => f b o (t.ks b o e n) n (nf b (by rw [e]; exact fun z => by cases z)), t.sq.trans sq', fun j hj => ?_⟩
  · by_cases e : j = i
    · subst e; rw [up1_at, up1_at, up1_at]; exact pr'
    · rw [up1_ne _ _ e, up1_ne _ _ e, up1_ne _ _ e]
      exact (t.pr j hj).keep fun b hb o e' => f b o e' (fun z => hsp (z ▸ t.new j hj b hb)) (t.dj j i hj hi e b hb)
  · by_cases e : j = i
    · subst e
      rw [up1_at] at hb
      rw [up1_ne _ _ (Ne.symm njl)]
      intro y
      rcases g b hb with z | z
      · exact t.dj j l hj hl njl b z y
      · exact (t.pr l hl).has b y z
    · rw [up1_ne _ _ e] at hb
      by_cases e2 : l = i
      · subst e2
        rw [up1_at]
        intro y
        rcases g b y with z | z
        · exact t.dj j l hj hl njl b hb z
        · exact (t.pr j hj).has b hb z
      · rw [up1_ne _ _ e2]
        exact t.dj j l hj hl njl b hb
  · by_cases e : j = i
    · subst e
      rw [up1_at] at hb
      rcases g b hb with z | z
      · exact t.new j hj b z
      · exact back b z
    · rw [up1_ne _ _ e] at hb
      exact t.new j hj b hb
  · by_cases e : j = i
    · subst e
      rw [up1_at]
      exact ⟨nL _ _ t.gk (t.out j hj).1, nL _ _ t.gw (t.out j hj).2.1, nL _ _ t.gq (t.out j hj).2.2⟩
    · rw [up1_ne _ _ e]
      exact t.out j hj
  · by_cases e : j = i
    · subst e; rw [up1_at, up1_at]; exact bd'
    · rw [up1_ne _ _ e, up1_ne _ _ e]; exact t.bd j hj
theorem TwoAt.step (t : TwoAt CK H0 Hs p0 kk ww qq rr Lk Lw Lq Hc ws hist fp) (s0 : Same H0 Hs) (hh : HandAt Hs p0) (n0 : H0 p0 = none) {i : Nat} (hi : i < 2) {ws' : List Int} {hist' : List (List Int)} {fp' : List Addr} (f : Fx (fp i) Hc H') (g : Gr Hc (fp i) fp') (pr' : PrAt CK H' (kk i) (ww i) (qq i) (rr i) ws' hist' fp') (bd' : Bd ws' hist') :
    TwoAt CK H0 Hs p0 kk ww qq rr Lk Lw Lq H' (up1 ws i ws') (up1 hist i hist') (up1 fp i fp') :=
  t.stepP s0 hh n0 hi (fun b o e n => f b o e fun z => n (.tail _ z)) (SameQ.of fun o e => f _ _ e fun z => by
    obtain ⟨xs, e⟩ := hh.isL
    rw [t.new i hi _ z] at e
    cases e) g pr' bd'
theorem TwoAt.hand (t : TwoAt CK H0 Hs p0 kk ww qq rr Lk Lw Lq Hc ws hist fp) (hh : HandAt Hs p0) (n0 : H0 p0 = none) (k : Keep p0 Hc H') (q : SameQ p0 Hc H') : TwoAt CK H0 Hs p0 kk ww qq rr Lk Lw Lq H' ws hist fp := by
  have hc := hh.of t.ks t.sq
  have hsp : Hs p0 ≠ none := by
    obtain ⟨xs, e⟩ := hh.isL
    rw [e]
    exact fun z => by cases z
  have nl : ∀ (L : Addr) (x y : Addr), Hc L = some (.lst [.ref x, .ref y]) → L ≠ p0 := fun L x y e => hc.nlen e (by simp)
  exact ⟨fun i hi => (t.pr i hi).keep fun b hb o e => k b o e fun z => hsp (z ▸ t.new i hi b hb), t.dj, t.new, k _ _ t.gk (nl _ _ _ t.gk), k _ _ t.gw (nl _ _ _ t.gw), k _ _ t.gq (nl _ _ _ t.gq), t.out, fun b o e => k b o (t.s0 b o e) (ne_none n0 e), t.ks.trans k, t.sq.trans q, t.bd⟩
end
theorem at_two {f : Nat → Addr} {i : Nat} (h : i < 2) : atI [V.ref (f 0), .ref (f 1)] (i : Int) = some (.ref (f i)) := by
  rcases (show i = 0 ∨ i = 1 by omega) with rfl | rfl <;> rfl
def sp_law (K : PySem.W.Frag) : Sp := fun vs H Q _ => ∃ (a : Addr) (ns : List Int), vs = [.ref a] ∧ SqL K H a (ns.map V.int) ∧ ns.length ≤ 63 ∧ ∀ H', Q (.bl true) H'
set_option maxHeartbeats 40000000 in
theorem ok_law {P : Program} {w : World} {K : PySem.W.Frag} {mg : Str → Option Value} {base : Heap} {a : Adr} (tx : Txt K mg a) : FnOk P w K mg base CX0 9 a.f_law a.d_law ["_law_script"] (sp_law K) := by
  have G_Keeper_init := ok_Keeper_init (P := P) (w := w) (base := base) tx
  have G_Keeper_tell := ok_Keeper_tell (P := P) (w := w) (base := base) tx
  have G__law_do := ok__law_do (P := P) (w := w) (base := base) tx
  have G__law_draw := ok__law_draw (P := P) (w := w) (base := base) tx
  have G__law_looks := ok__law_looks (P := P) (w := w) (base := base) tx
  have G__law_open := ok__law_open (P := P) (w := w) (base := base) tx
  have G__law_position := ok__law_position (P := P) (w := w) (base := base) tx
  have G__law_small := ok__law_small (P := P) (w := w) (base := base) tx
  have G__law_want := ok__law_want (P := P) (w := w) (base := base) tx
  have G__law_works := ok__law_works (P := P) (w := w) (base := base) tx
  refine tx.F_law.ok sc_law (fun vs H Q E h => ?_) (fun cdv A outer s H vs Q E hr h => ?_)
  · obtain ⟨ad, ns, rfl, _⟩ := h
    rfl
  · obtain ⟨ad, ns, rfl , hS, hl, k⟩ := h
    have hu := hu9 hr
    refine L2.Q.root (L2.Q.pss_cons (L2.Q.ps_set (i := 1) sc_law.nd rfl (Or.inr rfl) (L2.Q.pe_callN (G__law_open) (hr.mono (by decide)) (by rfl) tx.g__law_open tx.F__law_open.kp tx.b__law_open .nil pass0 (L2.Q.pa_c (L2.Q.pv 0) (L2.Q.pa_c L2.Q.pe_int L2.Q.pa_nil))))
      (L2.Q.pss_cons (L2.Q.ps_set (i := 2) sc_law.nd rfl (Or.inr rfl) (L2.Q.pe_callN (G__law_small) (hr.mono (by decide)) (by rfl) tx.g__law_small tx.F__law_small.kp tx.b__law_small .nil pass0 (L2.Q.pa_c (L2.Q.pv 1) L2.Q.pa_nil)))
      (L2.Q.pss_cons (L2.Q.ps_set (i := 3) sc_law.nd rfl (Or.inr rfl) (L2.Q.pe_callN (G__law_works) (hr.mono (by decide)) (by rfl) tx.g__law_works tx.F__law_works.kp tx.b__law_works .nil pass0 (L2.Q.pa_c (L2.Q.pv 2) L2.Q.pa_nil)))
      (L2.Q.pss_cons (L2.Q.ps_set (i := 5) sc_law.nd rfl (Or.inr rfl) (L2.Q.pe_comp (k := 1) (idx := [1, 2]) (N := ["_law_k", "_law_hand", "_law_spec_here"]) (blk_sc (sc := defScope s_law) (NX := ["_law_script", "_law_hand", "_law_spec_here", "_law_works_here", "_law_k", "_law_positions", "_law_keepers", "_law_wants", "_law_pasts", "_law_most", "_law_place", "_law_look"]) rfl rfl rfl (by decide +kernel)) rfl (L2.Q.pi_range1N (by rfl) tx.z_range (L2.Q.pa_c L2.Q.pe_int L2.Q.pa_nil)) (fun _ _ _ _ => (L2.Q.pg_name (i := 0) (show (["_law_k", "_law_hand", "_law_spec_here"] : List Str).Nodup by decide +kernel) rfl (Or.inl rfl))) (own_name (by decide)) (fun _ _ _ _ => L2.Q.pts_nil) (fun _ _ _ _ => (L2.Q.pe_callN (G__law_position) (hr.mono (by decide)) (by rfl) tx.g__law_position tx.F__law_position.kp tx.b__law_position .nil pass0 (L2.Q.pa_c (L2.Q.pv 1) (L2.Q.pa_c (L2.Q.pv 2) L2.Q.pa_nil))))))
      (L2.Q.pss_cons (L2.Q.ps_set (i := 6) sc_law.nd rfl (Or.inr rfl) (L2.Q.pe_comp (k := 1) (idx := [3]) (N := ["_law_position_here", "_law_works_here"]) (blk_sc (sc := defScope s_law) (NX := ["_law_script", "_law_hand", "_law_spec_here", "_law_works_here", "_law_k", "_law_positions", "_law_keepers", "_law_wants", "_law_pasts", "_law_most", "_law_place", "_law_look"]) rfl rfl rfl (by decide +kernel)) rfl (L2.Q.pi_listK (K' := K) (L2.Q.pv 5)) (fun _ _ _ _ => (L2.Q.pg_name (i := 0) (show (["_law_position_here", "_law_works_here"] : List Str).Nodup by decide +kernel) rfl (Or.inl rfl))) (own_name (by decide)) (fun _ _ _ _ => L2.Q.pts_nil) (fun _ _ _ _ => (L2.Q.pe_makeN tx.M_Keeper (G_Keeper_init) (hr.mono (by decide)) (by rfl) tx.g_Keeper tx.b_Keeper_init .nil pass0 (L2.Q.pa_c (L2.Q.pv 1) (L2.Q.pa_c (L2.Q.pv 0) L2.Q.pa_nil))))))
      (L2.Q.pss_cons (L2.Q.ps_set (i := 7) sc_law.nd rfl (Or.inr rfl) (L2.Q.lst2 (L2.Q.pe_lst L2.Q.pa_nil) (L2.Q.pe_lst L2.Q.pa_nil)))
      (L2.Q.pss_cons (L2.Q.ps_set (i := 8) sc_law.nd rfl (Or.inl rfl) (L2.Q.lst2 (L2.Q.pe_lst L2.Q.pa_nil) (L2.Q.pe_lst L2.Q.pa_nil)))
      (L2.Q.pss_cons (L2.Q.ps_set (i := 9) sc_law.nd rfl (Or.inl rfl) L2.Q.pe_int)
      (L2.Q.pss_cons (L2.Q.ps_if (L2.Q.pt_cmpR (r := rEqG K) (op_eqG hu) (L2.Q.pe_callN (G__law_draw) (hr.mono (by decide)) (by rfl) tx.g__law_draw tx.F__law_draw.kp tx.b__law_draw .nil pass0 (L2.Q.pa_c (L2.Q.pv 1) (L2.Q.pa_c L2.Q.pe_int L2.Q.pa_nil))) L2.Q.pe_int (nomark _)) (L2.Q.pss_cons (L2.Q.ps_set (i := 9) sc_law.nd rfl (Or.inl rfl) L2.Q.pe_int)
      (L2.Q.pss_one (L2.Q.ps_for PassesOwn.never rfl (L2.Q.pi_range1N (by rfl) tx.z_range (L2.Q.pa_c L2.Q.pe_int L2.Q.pa_nil)) (L2.Q.pg_name (i := 4) sc_law.nd rfl (Or.inl rfl)) (L2.Q.pss_cons (L2.Q.ps_expr (L2.Q.pe_appK (K' := K) (L2.Q.pe_ixK (K' := K) (L2.Q.pv 8) L2.Q.pe_int (fun _ _ => rfl)) (L2.Q.pa_c (L2.Q.pe_callTyN (rc := rListOf K) call_listG (by rfl) tx.z_list bt_list (L2.Q.pa_c (L2.Q.pe_ixK (K' := K) (L2.Q.pv 7) L2.Q.pe_int (fun _ _ => rfl)) L2.Q.pa_nil)) L2.Q.pa_nil)))
      (L2.Q.pss_cons (L2.Q.ps_expr (L2.Q.pe_appK (K' := K) (L2.Q.pe_ixK (K' := K) (L2.Q.pv 7) L2.Q.pe_int (fun _ _ => rfl)) (L2.Q.pa_c (L2.Q.pe_callN (G__law_want) (hr.mono (by decide)) (by rfl) tx.g__law_want tx.F__law_want.kp tx.b__law_want .nil pass0 (L2.Q.pa_c (L2.Q.pv 1) (L2.Q.pa_c (L2.Q.pe_ixK (K' := K) (L2.Q.pv 2) L2.Q.pe_int (fun _ _ => rfl)) L2.Q.pa_nil))) L2.Q.pa_nil)))
      (L2.Q.pss_one (L2.Q.ps_expr (L2.Q.pe_meth (L2.Q.pe_ixK (K' := K) (L2.Q.pv 6) L2.Q.pe_int (fun _ _ => rfl)) tx.C_Keeper tx.m_Keeper_tell (G_Keeper_tell) (hr.mono (by decide)) tx.b_Keeper_tell .nil pass0 (L2.Q.pa_c (L2.Q.pe_ixK (K' := K) (L2.Q.pe_ixK (K' := K) (L2.Q.pv 7) L2.Q.pe_int (fun _ _ => rfl)) (L2.Q.pe_un un_neg L2.Q.pe_int) (fun _ _ => rfl)) L2.Q.pa_nil))))))))) L2.Q.pss_nil)
      (L2.Q.pss_cons (L2.Q.ps_for PassesOwn.never rfl (L2.Q.pi_range2N (by rfl) tx.z_range (L2.Q.pa_c L2.Q.pe_int (L2.Q.pa_c (L2.Q.pe_op op_addG L2.Q.pe_int (L2.Q.pe_callBN (call_maxG rfl) (by rfl) tx.z_max bt_max (L2.Q.pa_c L2.Q.pe_int (L2.Q.pa_c (L2.Q.pe_callBN (call_minG rfl) (by rfl) tx.z_min bt_min (L2.Q.pa_c (L2.Q.pe_callBN (rc := rLen K) call_lenG (by rfl) tx.z_len bt_len (L2.Q.pa_c (L2.Q.pv 0) L2.Q.pa_nil)) (L2.Q.pa_c L2.Q.pe_int L2.Q.pa_nil))) L2.Q.pa_nil)))) L2.Q.pa_nil))) (L2.Q.pg_name (i := 10) sc_law.nd rfl (Or.inl rfl)) (L2.Q.pss_cons (L2.Q.ps_set (i := 1) sc_law.nd rfl (Or.inr rfl) (L2.Q.pe_callN (G__law_open) (hr.mono (by decide)) (by rfl) tx.g__law_open tx.F__law_open.kp tx.b__law_open .nil pass0 (L2.Q.pa_c (L2.Q.pv 0) (L2.Q.pa_c (L2.Q.pv 10) L2.Q.pa_nil))))
      (L2.Q.pss_cons (L2.Q.ps_set (i := 4) sc_law.nd rfl (Or.inl rfl) (L2.Q.pe_callN (G__law_draw) (hr.mono (by decide)) (by rfl) tx.g__law_draw tx.F__law_draw.kp tx.b__law_draw .nil pass0 (L2.Q.pa_c (L2.Q.pv 1) (L2.Q.pa_c L2.Q.pe_int L2.Q.pa_nil))))
      (L2.Q.pss_cons (L2.Q.ps_if (L2.Q.pt_not (L2.Q.pt_val (L2.Q.pe_callN (G__law_do) (hr.mono (by decide)) (by rfl) tx.g__law_do tx.F__law_do.kp tx.b__law_do .nil pass0 (L2.Q.pa_c (L2.Q.pv 1) (L2.Q.pa_c (L2.Q.pe_ixK (K' := K) (L2.Q.pv 6) (L2.Q.pv 4) (fun _ _ => rfl)) (L2.Q.pa_c (L2.Q.pe_ixK (K' := K) (L2.Q.pv 7) (L2.Q.pv 4) (fun _ _ => rfl)) (L2.Q.pa_c (L2.Q.pe_ixK (K' := K) (L2.Q.pv 8) (L2.Q.pv 4) (fun _ _ => rfl)) (L2.Q.pa_c (L2.Q.pe_ixK (K' := K) (L2.Q.pv 2) L2.Q.pe_int (fun _ _ => rfl)) (L2.Q.pa_c (L2.Q.pv 9) L2.Q.pa_nil))))))))) (L2.Q.pss_one (L2.Q.ps_ret L2.Q.pe_bl)) L2.Q.pss_nil)
      (L2.Q.pss_cons (L2.Q.ps_set (i := 11) sc_law.nd rfl (Or.inl rfl) (L2.Q.pe_callN (G__law_draw) (hr.mono (by decide)) (by rfl) tx.g__law_draw tx.F__law_draw.kp tx.b__law_draw .nil pass0 (L2.Q.pa_c (L2.Q.pv 1) (L2.Q.pa_c L2.Q.pe_int L2.Q.pa_nil))))
      (L2.Q.pss_cons (L2.Q.ps_if (L2.Q.pt_cmpR (r := rEqG K) (op_eqG hu) (L2.Q.pv 11) L2.Q.pe_int (nomark _)) (L2.Q.pss_one L2.Q.ps_continue) L2.Q.pss_nil)
      (L2.Q.pss_one (L2.Q.ps_if (L2.Q.pt_not (L2.Q.pt_val (L2.Q.pe_callN (G__law_looks) (hr.mono (by decide)) (by rfl) tx.g__law_looks tx.F__law_looks.kp tx.b__law_looks .nil pass0 (L2.Q.pa_c (L2.Q.pe_ixK (K' := K) (L2.Q.pv 6) (L2.Q.pv 11) (fun _ _ => rfl)) (L2.Q.pa_c (L2.Q.pe_ixK (K' := K) (L2.Q.pv 5) (L2.Q.pv 11) (fun _ _ => rfl)) (L2.Q.pa_c (L2.Q.pe_ixK (K' := K) (L2.Q.pv 7) (L2.Q.pv 11) (fun _ _ => rfl)) (L2.Q.pa_c (L2.Q.pe_callN (G__law_draw) (hr.mono (by decide)) (by rfl) tx.g__law_draw tx.F__law_draw.kp tx.b__law_draw .nil pass0 (L2.Q.pa_c (L2.Q.pv 1) (L2.Q.pa_c L2.Q.pe_int L2.Q.pa_nil))) L2.Q.pa_nil))))))) (L2.Q.pss_one (L2.Q.ps_ret L2.Q.pe_bl)) L2.Q.pss_nil))))))))
      (L2.Q.pss_one (L2.Q.ps_ret (L2.Q.pe_callBN (rc := rAll K) (call_allG rfl) (by rfl) tx.z_all bt_all (L2.Q.pa_c (L2.Q.pe_comp (k := 1) (idx := [6, 5, 7]) (N := ["_law_k", "_law_keepers", "_law_positions", "_law_wants"]) (blk_sc (sc := defScope s_law) (NX := ["_law_script", "_law_hand", "_law_spec_here", "_law_works_here", "_law_k", "_law_positions", "_law_keepers", "_law_wants", "_law_pasts", "_law_most", "_law_place", "_law_look"]) rfl rfl rfl (by decide +kernel)) rfl (L2.Q.pi_range1N (by rfl) tx.z_range (L2.Q.pa_c L2.Q.pe_int L2.Q.pa_nil)) (fun _ _ _ _ => (L2.Q.pg_name (i := 0) (show (["_law_k", "_law_keepers", "_law_positions", "_law_wants"] : List Str).Nodup by decide +kernel) rfl (Or.inl rfl))) (own_name (by decide)) (fun _ _ _ _ => L2.Q.pts_nil) (fun _ _ _ _ => (L2.Q.pe_callN (G__law_looks) (hr.mono (by decide)) (by rfl) tx.g__law_looks tx.F__law_looks.kp tx.b__law_looks .nil pass0 (L2.Q.pa_c (L2.Q.pe_ixK (K' := K) (L2.Q.pv 1) (L2.Q.pv 0) (fun _ _ => rfl)) (L2.Q.pa_c (L2.Q.pe_ixK (K' := K) (L2.Q.pv 2) (L2.Q.pv 0) (fun _ _ => rfl)) (L2.Q.pa_c (L2.Q.pe_ixK (K' := K) (L2.Q.pv 3) (L2.Q.pv 0) (fun _ _ => rfl)) (L2.Q.pa_c (L2.Q.pv 0) L2.Q.pa_nil))))))) L2.Q.pa_nil)))))))))))))) ?_
    refine rd_start (σ := [some (.ref ad), none, none, none, none, none, none, none, none, none, none, none]) rfl ?_
    repeat walk_at "go"
    refine ⟨ad, ns, _, rfl, hS, hl, by decide, fun p0 H1 s1 np0 hh1 _ => ?_⟩
    repeat walk_at "go"
    refine ⟨p0, rfl, hh1, fun s ms o lk b u v H2 hW2 hg hlen hgo hlk h2 k2 => ?_⟩
    have S2 : Same H H2 := keep_fresh np0 s1 k2
    repeat walk_at "go"
    refine ⟨s, ms, o, lk, b, u, v, rfl, hW2, hg, hlen, hgo, hlk, fun w H3 s3 => ?_⟩
    have hW3 := hW2.tr s3.tr
    have h3 := h2.same s3
    have S3 := S2.trans s3
    repeat walk_at "go"
    refine ⟨by decide, by decide, ?_⟩
    refine comp_range (n := 2) (fun i us H' => HandAt H' p0 ∧ Keep p0 H3 H' ∧ ∃ rs Ps, us = rs.map V.ref ∧ rs.length = i ∧ RL (PosAt H') rs Ps ∧ ∀ P ∈ Ps, P.1.length ≤ 2) ⟨h3, fun _ _ e _ => e, [], [], rfl, rfl, RL.nil, fun P h => by cases h⟩ (sz_le (by omega)) (fun i us H' hi ⟨_, _, rs, Ps, e1, e2, _, _⟩ => by rw [e1, List.length_map]; omega) (fun i us H4 hi ⟨h4, k4, rs, Ps, e1, e2, e3, e4⟩ => ?_) (fun us H4 ⟨h4, k4, rs, Ps, e1, e2, e3, e4⟩ => ?_)
    · repeat walk_at "go"
      refine ⟨p0, s, ms, o, lk, b, u, v, rfl, h4, hW3.tr (h3.tr k4), hg, hlen, hgo, fun r P H5 hP hPl h5 k5 => ?_⟩
      refine ⟨h5, k4.trans k5, rs ++ [r], Ps ++ [P], by rw [e1, List.map_append]; rfl, by rw [List.length_append, e2]; rfl, (e3.imp fun a x z => z.tk (h4.tr k5).tk).snoc hP, fun P' hm => ?_⟩
      rcases List.mem_append.mp hm with z | z
      · exact e4 P' z
      · rw [List.mem_singleton.mp z]; exact hPl
    subst e1
    intro Lp nLp
    obtain ⟨Hs, is, ss, gLp⟩ := nw _ nLp; rw [is]
    obtain ⟨r0, r1, rfl⟩ : ∃ r0 r1, rs = [r0, r1] := by
      match rs, e2 with
      | [r0, r1], _ => exact ⟨r0, r1, rfl⟩
    obtain ⟨P0, P1, rfl⟩ : ∃ P0 P1, Ps = [P0, P1] := by
      match Ps, (show Ps.length = 2 by rw [← e3.len]; rfl) with
      | [P0, P1], _ => exact ⟨P0, P1, rfl⟩
    have hP0 : PosAt Hs r0 P0 := (e3.at_ 0 r0 P0 rfl rfl).tk ss.tk
    have hP1 : PosAt Hs r1 P1 := (e3.at_ 1 r1 P1 rfl rfl).tk ss.tk
    have l0 := e4 P0 (.head _)
    have l1 := e4 P1 (.tail _ (.head _))
    have hhs := h4.same ss
    have hWs := hW3.tr ((h3.tr k4).trans ss.tr)
    have gLp' : Hs Lp = some (.lst [.ref r0, .ref r1]) := gLp
    have S0 : Same H Hs := (keep_fresh np0 (s1) (k2.trans (s3.keep.trans k4))).trans ss
    repeat walk_at "go"
    refine rd_li (SqL.of gLp') ?_
    refine comp_list (xs := [V.ref r0, .ref r1]) (fun i us H' => Same Hs H' ∧ ((i = 0 ∧ us = []) ∨ (i = 1 ∧ ∃ k0 f0, us = [V.ref k0] ∧ KpAt a.c_Keeper H' k0 r0 [] [] f0 ∧ ∀ b ∈ f0, Hs b = none) ∨ (i = 2 ∧ ∃ k0 k1 f0 f1, us = [V.ref k0, .ref k1] ∧ KpAt a.c_Keeper H' k0 r0 [] [] f0 ∧ KpAt a.c_Keeper H' k1 r1 [] [] f1 ∧ (∀ b ∈ f0, Hs b = none) ∧ (∀ b ∈ f1, Hs b = none) ∧ ∀ b ∈ f0, b ∉ f1))) ⟨Same.refl _, .inl ⟨rfl, rfl⟩⟩ (sz_le (by simp))
      (fun i us H' hi ⟨sA, hA⟩ => ⟨SqL.of (sA _ _ gLp'), ?_⟩) (fun i x us HA hx ⟨sA, hA⟩ => ?_) (fun us HA ⟨sA, hA⟩ => ?_)
    · rcases hA with ⟨rfl, rfl⟩ | ⟨rfl, k0, f0, rfl, _⟩ | ⟨rfl, k0, k1, f0, f1, rfl, _⟩ <;> simp
    · repeat walk_at "go"
      intro y dx ny nd hd
      obtain ⟨J, i, sj, j⟩ := nwi (C := a.c_Keeper) ny nd hd; rw [i]
      rcases hA with ⟨rfl, rfl⟩ | ⟨rfl, k0, f0, rfl, hk0, hf0⟩ | ⟨rfl, _⟩
      · cases hx
        refine ⟨y, dx, r0, .ref w, rfl, j, fun HB fB hB gB kB => ⟨rfl, ?_⟩⟩
        have sB : Same HA HB := fun c o e => kB _ _ (sj _ _ e) (ne_none ny e)
        refine ⟨sA.trans sB, .inr (.inl ⟨rfl, y, fB, rfl, hB, fun c hc => ?_⟩)⟩
        rcases gB c hc with z | z
        · rw [z]; exact sA.free ny
        · exact sA.free (sj.free z)
      · cases hx
        refine ⟨y, dx, r1, .ref w, rfl, j, fun HB fB hB gB kB => ⟨rfl, ?_⟩⟩
        have sB : Same HA HB := fun c o e => kB _ _ (sj _ _ e) (ne_none ny e)
        have nB : ∀ c ∈ fB, HA c = none := fun c hc => by
          rcases gB c hc with z | z
          · rw [z]; exact ny
          · exact sj.free z
        exact ⟨sA.trans sB, .inr (.inr ⟨rfl, k0, y, f0, fB, rfl, hk0.same sB, hB, hf0, fun c hc => sA.free (nB c hc), fun c hc z => hk0.has c hc (nB c z)⟩)⟩
      · simp at hx
    obtain ⟨k0, k1, f0, f1, rfl, hk0, hk1, nf0, nf1, dj01⟩ : ∃ k0 k1 f0 f1, us = [V.ref k0, .ref k1] ∧ KpAt a.c_Keeper HA k0 r0 [] [] f0 ∧ KpAt a.c_Keeper HA k1 r1 [] [] f1 ∧ (∀ b ∈ f0, Hs b = none) ∧ (∀ b ∈ f1, Hs b = none) ∧ ∀ b ∈ f0, b ∉ f1 := by
      rcases hA with ⟨z, _⟩ | ⟨z, _⟩ | ⟨_, z⟩
      · simp at z
      · simp at z
      · exact z
    intro Lk nLk
    obtain ⟨HB, iB, sB, gB⟩ := nw _ nLk; rw [iB]
    repeat walk_at "go"
    intro w0 nw0
    obtain ⟨HC, iC, sC, gC⟩ := nw _ nw0; rw [iC]
    repeat walk_at "go"
    intro w1 nw1
    obtain ⟨HD, iD, sD, gD⟩ := nw _ nw1; rw [iD]
    repeat walk_at "go"
    intro Lw nLw
    obtain ⟨HE, iE, sE, gE⟩ := nw _ nLw; rw [iE]
    repeat walk_at "go"
    intro q0 nq0
    obtain ⟨HF, iF, sF, gF⟩ := nw _ nq0; rw [iF]
    repeat walk_at "go"
    intro q1 nq1
    obtain ⟨HG, iG, sG, gG⟩ := nw _ nq1; rw [iG]
    repeat walk_at "go"
    intro Lq nLq
    obtain ⟨HI, iI, sI, gI⟩ := nw _ nLq; rw [iI]
    have sBI : Same HA HI := sB.trans (sC.trans (sD.trans (sE.trans (sF.trans (sG.trans sI)))))
    have sAI : Same Hs HI := sA.trans sBI
    have old : ∀ c, HA c ≠ none → c ≠ Lk ∧ c ≠ w0 ∧ c ≠ w1 ∧ c ≠ Lw ∧ c ≠ q0 ∧ c ≠ q1 ∧ c ≠ Lq := fun c hc => by
      refine ⟨fun z => hc (z ▸ nLk), fun z => hc (sB.free (z ▸ nw0)), fun z => hc ((sB.trans sC).free (z ▸ nw1)), fun z => hc ((sB.trans (sC.trans sD)).free (z ▸ nLw)), fun z => hc ((sB.trans (sC.trans (sD.trans sE))).free (z ▸ nq0)), fun z => hc ((sB.trans (sC.trans (sD.trans (sE.trans sF)))).free (z ▸ nq1)), fun z => hc ((sB.trans (sC.trans (sD.trans (sE.trans (sF.trans sG))))).free (z ▸ nLq))⟩
    have w0B : w0 ≠ w1 := fun z => by rw [← z, gC] at nw1; cases nw1
    have w0q0 : w0 ≠ q0 := fun z => by rw [← z, (sD.trans sE) _ _ gC] at nq0; cases nq0
    have w0q1 : w0 ≠ q1 := fun z => by rw [← z, (sD.trans (sE.trans sF)) _ _ gC] at nq1; cases nq1
    have w1q0 : w1 ≠ q0 := fun z => by rw [← z, sE _ _ gD] at nq0; cases nq0
    have w1q1 : w1 ≠ q1 := fun z => by rw [← z, (sE.trans sF) _ _ gD] at nq1; cases nq1
    have q0q1 : q0 ≠ q1 := fun z => by rw [← z, gF] at nq1; cases nq1
    have nsC : ∀ c, HA c = none → Hs c = none := fun c z => sA.free z
    have nAw0 : HA w0 = none := sB.free nw0
    have nAw1 : HA w1 = none := (sB.trans sC).free nw1
    have nAq0 : HA q0 = none := (sB.trans (sC.trans (sD.trans sE))).free nq0
    have nAq1 : HA q1 = none := (sB.trans (sC.trans (sD.trans (sE.trans sF)))).free nq1
    have Lkw : Lk ≠ w0 ∧ Lk ≠ w1 ∧ Lk ≠ q0 ∧ Lk ≠ q1 := ⟨ne_none nw0 gB, ne_none nw1 (sC _ _ gB), ne_none nq0 ((sC.trans (sD.trans sE)) _ _ gB), ne_none nq1 ((sC.trans (sD.trans (sE.trans sF))) _ _ gB)⟩
    have Lww : Lw ≠ w0 ∧ Lw ≠ w1 ∧ Lw ≠ q0 ∧ Lw ≠ q1 := ⟨(ne_none nLw (sD _ _ gC)).symm, (ne_none nLw gD).symm, ne_none nq0 gE, ne_none nq1 (sF _ _ gE)⟩
    have Lqw : Lq ≠ w0 ∧ Lq ≠ w1 ∧ Lq ≠ q0 ∧ Lq ≠ q1 := ⟨(ne_none nLq ((sD.trans (sE.trans (sF.trans sG))) _ _ gC)).symm, (ne_none nLq ((sE.trans (sF.trans sG)) _ _ gD)).symm, (ne_none nLq (sG _ _ gF)).symm, (ne_none nLq gG).symm⟩
    obtain ⟨kk, ekk⟩ : ∃ f : Nat → Addr, f = fun i => if i = 0 then k0 else k1 := ⟨_, rfl⟩
    obtain ⟨ww, eww⟩ : ∃ f : Nat → Addr, f = fun i => if i = 0 then w0 else w1 := ⟨_, rfl⟩
    obtain ⟨qq, eqq⟩ : ∃ f : Nat → Addr, f = fun i => if i = 0 then q0 else q1 := ⟨_, rfl⟩
    obtain ⟨rr, err⟩ : ∃ f : Nat → Addr, f = fun i => if i = 0 then r0 else r1 := ⟨_, rfl⟩
    have T0 : TwoAt a.c_Keeper H Hs p0 kk ww qq rr Lk Lw Lq HI (fun _ => []) (fun _ => []) (fun i => if i = 0 then f0 ++ [w0, q0] else f1 ++ [w1, q1]) := by
      subst ekk eww eqq err
      refine ⟨fun i hi => ?_, fun i j hi hj nij c hc z => ?_, fun i hi c hc => ?_, (sC.trans (sD.trans (sE.trans (sF.trans (sG.trans sI))))) _ _ gB, (sF.trans (sG.trans sI)) _ _ gE, gI, fun i hi => ?_, S0.trans sAI, sAI.keep, SameQ.of (sAI p0), fun i hi => ⟨by simp, fun n hn => by cases hn⟩⟩
      · rcases (show i = 0 ∨ i = 1 by omega) with rfl | rfl
        · refine ⟨f0, [w0, q0], hk0.same sBI, ⟨[], (sD.trans (sE.trans (sF.trans (sG.trans sI)))) _ _ gC, (sG.trans sI) _ _ gF, trivial, rfl, l_nd (ls := []) List.nodup_nil List.not_mem_nil List.not_mem_nil w0q0⟩, rfl, fun c hc z => ?_⟩
          have := old c (hk0.has c hc)
          simp only [List.mem_cons, List.not_mem_nil, or_false] at z
          rcases z with z | z
          · exact this.2.1 z
          · exact this.2.2.2.2.1 z
        · refine ⟨f1, [w1, q1], hk1.same sBI, ⟨[], (sE.trans (sF.trans (sG.trans sI))) _ _ gD, sI _ _ gG, trivial, rfl, l_nd (ls := []) List.nodup_nil List.not_mem_nil List.not_mem_nil w1q1⟩, rfl, fun c hc z => ?_⟩
          have := old c (hk1.has c hc)
          simp only [List.mem_cons, List.not_mem_nil, or_false] at z
          rcases z with z | z
          · exact this.2.2.1 z
          · exact this.2.2.2.2.2.1 z
      · have key : ∀ c, c ∈ f0 ++ [w0, q0] → c ∈ f1 ++ [w1, q1] → False := fun c h1 h2 => by
          rcases List.mem_append.mp h1 with y | y
          · have oc := old c (hk0.has c y)
            rcases List.mem_append.mp h2 with x | x
            · exact dj01 c y x
            · simp only [List.mem_cons, List.not_mem_nil, or_false] at x
              rcases x with x | x
              · exact oc.2.2.1 x
              · exact oc.2.2.2.2.2.1 x
          · rcases List.mem_append.mp h2 with x | x
            · have oc := old c (hk1.has c x)
              simp only [List.mem_cons, List.not_mem_nil, or_false] at y
              rcases y with y | y
              · exact oc.2.1 y
              · exact oc.2.2.2.2.1 y
            · simp only [List.mem_cons, List.not_mem_nil, or_false] at x y
              rcases y with rfl | rfl
              · rcases x with x | x
                · exact w0B x
                · exact w0q1 x
              · rcases x with x | x
                · exact w1q0 x.symm
                · exact q0q1 x
        rcases (show (i = 0 ∧ j = 1) ∨ (i = 1 ∧ j = 0) by omega) with ⟨rfl, rfl⟩ | ⟨rfl, rfl⟩
        · exact key c hc z
        · exact key c z hc
      · rcases (show i = 0 ∨ i = 1 by omega) with rfl | rfl
        · rcases List.mem_append.mp (show c ∈ f0 ++ [w0, q0] from hc) with y | y
          · exact nf0 c y
          · simp only [List.mem_cons, List.not_mem_nil, or_false] at y
            rcases y with rfl | rfl
            · exact nsC _ nAw0
            · exact nsC _ nAq0
        · rcases List.mem_append.mp (show c ∈ f1 ++ [w1, q1] from hc) with y | y
          · exact nf1 c y
          · simp only [List.mem_cons, List.not_mem_nil, or_false] at y
            rcases y with rfl | rfl
            · exact nsC _ nAw1
            · exact nsC _ nAq1
      · have key : ∀ L, (L = Lk ∨ L = Lw ∨ L = Lq) → L ∉ f0 ++ [w0, q0] ∧ L ∉ f1 ++ [w1, q1] := fun L hL => by
          constructor
          · intro y
            rcases List.mem_append.mp y with y | y
            · have oc := old L (hk0.has L y)
              rcases hL with z | z | z
              · exact oc.1 z
              · exact oc.2.2.2.1 z
              · exact oc.2.2.2.2.2.2 z
            · simp only [List.mem_cons, List.not_mem_nil, or_false] at y
              rcases hL with rfl | rfl | rfl <;> rcases y with y | y
              · exact Lkw.1 y
              · exact Lkw.2.2.1 y
              · exact Lww.1 y
              · exact Lww.2.2.1 y
              · exact Lqw.1 y
              · exact Lqw.2.2.1 y
          · intro y
            rcases List.mem_append.mp y with y | y
            · have oc := old L (hk1.has L y)
              rcases hL with z | z | z
              · exact oc.1 z
              · exact oc.2.2.2.1 z
              · exact oc.2.2.2.2.2.2 z
            · simp only [List.mem_cons, List.not_mem_nil, or_false] at y
              rcases hL with rfl | rfl | rfl <;> rcases y with y | y
              · exact Lkw.2.1 y
              · exact Lkw.2.2.2 y
              · exact Lww.2.1 y
              · exact Lww.2.2.2 y
              · exact Lqw.2.1 y
              · exact Lqw.2.2.2 y
        rcases (show i = 0 ∨ i = 1 by omega) with rfl | rfl
        · exact ⟨(key Lk (.inl rfl)).1, (key Lw (.inr (.inl rfl))).1, (key Lq (.inr (.inr rfl))).1⟩
        · exact ⟨(key Lk (.inl rfl)).2, (key Lw (.inr (.inl rfl))).2, (key Lq (.inr (.inr rfl))).2⟩
    have hpos : ∀ i, i < 2 → ∃ P, PosAt Hs (rr i) P ∧ P.1.length ≤ 2 := fun i hi => by
      subst err
      rcases (show i = 0 ∨ i = 1 by omega) with rfl | rfl
      · exact ⟨P0, hP0, l0⟩
      · exact ⟨P1, hP1, l1⟩
    have gLpr : Hs Lp = some (.lst [.ref (rr 0), .ref (rr 1)]) := by subst err; exact gLp'
    have Lpp : Lp ≠ p0 := hhs.nlen gLpr (by simp)
    clear ekk eww eqq err
    repeat walk_at "st"
    refine rd_seq ?_
    repeat walk_at "st"
    refine rd_seqJ (fun σ' H' => ∃ (z4 : Option V) (M : Int) (ws : Nat → List Int) (hist : Nat → List (List Int)) (fp : Nat → List Addr), σ' = [some (.ref ad), some (.ref p0), some (.ref s), some (.ref w), z4, some (.ref Lp), some (.ref Lk), some (.ref Lw), some (.ref Lq), some (.int M), none, none] ∧ M ≤ 48 ∧ TwoAt a.c_Keeper H Hs p0 kk ww qq rr Lk Lw Lq H' ws hist fp ∧ ∀ i, i < 2 → (hist i).length ≤ 44) (fun N hN => ?_) ?_
    · repeat walk_at "go"
      refine ⟨p0, _, rfl, hhs.of T0.ks T0.sq, by decide, by decide, fun r HJ aJ bJ hJ kJ qJ => ?_⟩
      have T1 := T0.hand hhs np0 kJ qJ
      repeat walk_at "go"
      refine rd_dec (fun c1 => ?_) (fun c1 => ?_)
      rotate_left
      · repeat walk_at "go"
        exact hN _ _ ⟨_, 6, _, _, _, rfl, by decide, T1, fun i _ => by simp⟩
      repeat walk_at "go"
      refine ⟨by decide, by decide, ?_⟩
      refine rf_range (n := 44) (fun i σ' H' => ∃ (z4 : Option V) (ws : Nat → List Int) (hist : Nat → List (List Int)) (fp : Nat → List Addr), σ' = [some (.ref ad), some (.ref p0), some (.ref s), some (.ref w), z4, some (.ref Lp), some (.ref Lk), some (.ref Lw), some (.ref Lq), some (.int 48), none, none] ∧ TwoAt a.c_Keeper H Hs p0 kk ww qq rr Lk Lw Lq H' ws hist fp ∧ (hist 0).length = i ∧ (ws 0).length = i ∧ (hist 1).length = 0) ⟨_, _, _, _, rfl, T1, rfl, rfl, rfl⟩ (fun i σ' Hc hi ⟨z4, ws, hist, fp, e, T, lh, lw, lh1⟩ => ?_) (fun σ' Hc ⟨z4, ws, hist, fp, e, T, lh, lw, lh1⟩ => ?_)
      · subst e
        obtain ⟨fa, fb, ka, lb, efp, dj⟩ := id (T.pr 0 (by omega)).ex
        obtain ⟨ls, l1, l2, l3, efb, l5⟩ := id lb.ex
        subst efb
        obtain ⟨n1, n2, n3, n4⟩ := nd_l l5
        have ll := l3.len
        have gk := T.gk
        have gw := T.gw
        have gq := T.gq
        have hc := hhs.of T.ks T.sq
        have hW := hWs.tr (hhs.tr T.ks)
        obtain ⟨lsW, stW, hsW, _, _, hbW⟩ := hW.ex
        have pnf : ∀ c ∈ fp 0, c ≠ p0 := fun c hc' z => by
          obtain ⟨xs, e⟩ := hhs.isL
          rw [z] at hc'
          rw [T.new 0 (by omega) _ hc'] at e
          cases e
        have wap : ww 0 ≠ p0 := pnf _ (by rw [efp]; simp)
        have pap : qq 0 ≠ p0 := pnf _ (by rw [efp]; simp)
        repeat walk_at "go"
        refine rd_tyL (SqL.of l2) ?_
        repeat walk_at "go"
        refine rd_listL (SqL.of l1) ?_
        intro l nl
        obtain ⟨H3, i3, s3, g3⟩ := nw _ nl; rw [i3]
        repeat walk_at "go"
        refine rd_app (xs := ls.reverse.map V.ref) (s3 _ _ l2) (Nat.lt_of_lt_of_le (by rw [List.length_map, List.length_reverse]; omega : (ls.reverse.map V.ref).length < 2000) (sz_le (by simp))) ?_
        obtain ⟨H4, i4, k4, g4⟩ := wr H3 (qq 0) _; rw [i4]
        have lp : l ≠ qq 0 := (ne_none nl l2).symm
        have lwa : l ≠ ww 0 := (ne_none nl l1).symm
        have lp0 : l ≠ p0 := hc.nnew nl
        have out := T.out 0 (by omega)
        have Lqn : ∀ c ∈ fp 0, ∀ L, L ∉ fp 0 → L ≠ c := fun c h1 L h2 z => h2 (z ▸ h1)
        have inq : qq 0 ∈ fp 0 := by rw [efp]; simp
        have inw : ww 0 ∈ fp 0 := by rw [efp]; simp
        have gw4 := k4 _ _ (s3 _ _ gw) (Lqn _ inq _ out.2.1)
        have gk4 := k4 _ _ (s3 _ _ gk) (Lqn _ inq _ out.1)
        have l14 := k4 _ _ (s3 _ _ l1) n4
        have sne : s ≠ qq 0 := fun z => by
          have := T.new 0 (by omega) _ inq
          obtain ⟨_, _, e, _⟩ := hWs.ex
          rw [← z, e] at this
          cases this
        have bne : b ≠ qq 0 := fun z => by
          have := T.new 0 (by omega) _ inq
          obtain ⟨_, _, _, _, _, e⟩ := hWs.ex
          rw [← z, e] at this
          cases this
        have hsW4 := k4 _ _ (s3 _ _ hsW) sne
        have hbW4 := k4 _ _ (s3 _ _ hbW) bne
        have F4 : Fx (fp 0) Hc H4 := fun y o e ny => k4 _ _ (s3 _ _ e) (fun z => ny (z ▸ inq))
        have hc4 : HandAt H4 p0 := by
          obtain ⟨d, c, q, qms, e1, e2, e3, e4⟩ := hhs.ex
          obtain ⟨d', c', e5⟩ := T.sq d c q e1
          have qn : q ∉ fp 0 := fun z => by rw [T.new 0 (by omega) q z] at e2; cases e2
          exact ⟨d', c', q, qms, F4 _ _ e5 (fun z => pnf _ z rfl), F4 _ _ (T.ks _ _ e2 e4) qn, e3, e4⟩
        repeat walk_at "go"
        refine rd_tyL (SqL.of l14) ?_
        repeat walk_at "go"
        refine ⟨p0, b, u, v, rfl, hc4, hbW4, fun n H5 h5 k5 q5 => ?_⟩
        have l15 := k5 _ _ l14 wap
        repeat walk_at "go"
        refine rd_app (xs := (ws 0).map V.int) l15 (Nat.lt_of_lt_of_le (by rw [List.length_map]; omega : ((ws 0).map V.int).length < 2000) (sz_le (by simp))) ?_
        obtain ⟨H6, i6, k6, g6⟩ := wr H5 (ww 0) _; rw [i6]
        have Lkp : Lk ≠ p0 := hc.nlen gk (by simp)
        have Lwp : Lw ≠ p0 := hc.nlen gw (by simp)
        have gk6 := k6 _ _ (k5 _ _ gk4 Lkp) (Lqn _ inw _ out.1)
        have gw6 := k6 _ _ (k5 _ _ gw4 Lwp) (Lqn _ inw _ out.2.1)
        have F6 : ∀ y o, Hc y = some o → y ≠ p0 → y ∉ [ww 0, qq 0] → H6 y = some o := fun y o e np' ny => k6 _ _ (k5 _ _ (k4 _ _ (s3 _ _ e) (fun z => ny (by rw [z]; simp))) np') (fun z => ny (by rw [z]; simp))
        have inl : ∀ y, y ∈ [ww 0, qq 0] → y ∈ ls ++ [ww 0, qq 0] := fun y hy => List.mem_append_right _ hy
        have inA : ∀ y ∈ fa, y ∈ fp 0 := fun y hy => by rw [efp]; exact List.mem_append_left _ hy
        have inB : ∀ y ∈ ls ++ [ww 0, qq 0], y ∈ fp 0 := fun y hy => by rw [efp]; exact List.mem_append_right _ hy
        have g6' : H6 (ww 0) = some (.lst ((ws 0 ++ [n]).map V.int)) := by rw [g6, List.map_append]; rfl
        have lb6 : LwAt H6 (ww 0) (qq 0) (ws 0 ++ [n]) (ws 0 :: hist 0) (l :: (ls ++ [ww 0, qq 0])) := by
          refine ⟨l :: ls, g6', ?_, ⟨k6 _ _ (k5 _ _ (k4 _ _ g3 lp) lp0) lwa, l3.keep fun y hy o e => F6 y o e (pnf y (inB y (List.mem_append_left _ hy))) fun z => ?_⟩, rfl, List.nodup_cons.mpr ⟨fun z => lb.has l z nl, l5⟩⟩
          · rw [k6 _ _ (k5 _ _ g4 pap) n4.symm, List.reverse_cons, List.map_append]; rfl
          · simp only [List.mem_cons, List.not_mem_nil, or_false] at z
            rcases z with rfl | rfl
            · exact n2 hy
            · exact n3 hy
        have ka6 : KpAt a.c_Keeper H6 (kk 0) (rr 0) (ws 0) (hist 0) fa := ka.keep fun y hy o e => F6 y o e (pnf y (inA y hy)) fun z => dj y hy (inl y z)
        obtain ⟨dx0, w00, wl0, pa0, dl0, zs0, h10, _⟩ := id ka6.ex
        have ixl : atI ((ws 0 ++ [n]).map V.int) (-1) = some (.int n) := by rw [List.map_append]; exact at_last _
        repeat walk_at "go"
        refine ⟨kk 0, dx0, _, rfl, h10, rfl, ?_⟩
        repeat walk_at "go"
        refine ⟨kk 0, rr 0, ws 0, hist 0, fa, n, rfl, ka6, by omega, by omega, fun H7 fq kq gr f7 => ?_⟩
        repeat walk_at "go"
        have gb : Gr Hc (ls ++ [ww 0, qq 0]) (l :: (ls ++ [ww 0, qq 0])) := fun y hy => by
          rcases List.mem_cons.mp hy with rfl | hy
          · exact .inr nl
          · exact .inl hy
        have dj' := apart (H2 := H7) ka dj lb6 gb gr
        have lb7 := lb6.keep (H' := H7) fun y hy o e => f7 y o e fun z => by
          rcases gb y hy with q | q
          · exact dj y z q
          · exact ka.has y z q
        have p6 : H6 p0 ≠ none := by
          obtain ⟨xs, e⟩ := h5.isL
          rw [k6 _ _ e wap.symm]
          exact fun z => by cases z
        have up : ∀ y, H6 y = none → Hc y = none := fun y z => by
          cases e : Hc y with
          | none => rfl
          | some o =>
            by_cases q : y ∈ [ww 0, qq 0]
            · exact absurd z (lb6.has y (.tail _ (inl y q)))
            · by_cases yp : y = p0
              · exact absurd (yp ▸ z) p6
              · rw [F6 y o e yp q] at z; cases z
        have p0a : p0 ∉ fa := fun z => pnf _ (inA _ z) rfl
        have sq7 : SameQ p0 Hc H7 := (SameQ.of fun o e => F4 _ _ e (fun z => pnf _ z rfl)).trans (q5.trans ((SameQ.of fun o e => k6 _ _ e wap.symm).trans (SameQ.of fun o e => f7 _ _ e p0a)))
        have T7 := T.stepP S0 hhs np0 (i := 0) (by omega) (ws' := ws 0 ++ [n]) (hist' := ws 0 :: hist 0) (fp' := fq ++ (l :: (ls ++ [ww 0, qq 0]))) (fun y o e ny => f7 y o (F6 y o e (fun z => ny (by rw [z]; exact .head _)) fun z => ny (.tail _ (inB y (inl y z)))) fun z => ny (.tail _ (inA y z))) sq7 (fun y hy => by
          rcases List.mem_append.mp hy with z | z
          · rcases gr y z with q | q
            · exact .inl (inA y q)
            · exact .inr (up y q)
          · rcases gb y z with q | q
            · exact .inl (inB y q)
            · exact .inr q) ⟨fq, _, kq, lb7, rfl, dj'⟩ ⟨by rw [List.length_append, List.length_singleton]; omega, fun m hm => by
          rcases List.mem_cons.mp hm with rfl | hm
          · omega
          · exact (T.bd 0 (by omega)).2 m hm⟩
        exact ⟨_, _, _, _, rfl, T7, by rw [up1_at, List.length_cons, lh], by rw [up1_at, List.length_append, lw]; rfl, by rw [up1_ne _ _ (by omega)]; exact lh1⟩
      · subst e
        refine hN _ _ ⟨_, 48, _, _, _, rfl, by decide, T, fun i hi => ?_⟩
        rcases (show i = 0 ∨ i = 1 by omega) with rfl | rfl <;> omega
    rintro σ2 HJ ⟨z4, M, ws0, hist0, fp0, rfl, hM, TJ, lJ⟩
    have hSJ := Same.seq TJ.s0 hS
    repeat walk_at "go"
    refine ⟨⟨by omega, by omega, by omega, by omega⟩, ?_⟩
    refine rf_range (fun t σ' H' => ∃ (z1 z4 z10 z11 : Option V) (ws : Nat → List Int) (hist : Nat → List (List Int)) (fp : Nat → List Addr), σ' = [some (.ref ad), z1, some (.ref s), some (.ref w), z4, some (.ref Lp), some (.ref Lk), some (.ref Lw), some (.ref Lq), some (.int M), z10, z11] ∧ TwoAt a.c_Keeper H Hs p0 kk ww qq rr Lk Lw Lq H' ws hist fp ∧ ∀ i, i < 2 → (hist i).length ≤ 44 + t) ⟨_, _, _, _, _, _, _, rfl, TJ, fun i hi => by have := lJ i hi; omega⟩ (fun t σ' Hc ht ⟨z1, z4, z10, z11, ws, hist, fp, e, T, lh⟩ => ?_) (fun σ' Hc ⟨z1, z4, z10, z11, ws, hist, fp, e, T, lh⟩ => ?_)
    · subst e
      have ht' : t ≤ 63 := by omega
      repeat walk_at "go"
      refine ⟨ad, ns, _, rfl, Same.seq T.s0 hS, hl, by omega, fun p H1 s1 np hh qn => ?_⟩
      repeat walk_at "go"
      refine ⟨p, _, rfl, hh, by decide, by decide, fun r H2 a2 b2 h2 k2 q2 => ?_⟩
      obtain ⟨i, rfl⟩ := Int.eq_ofNat_of_zero_le a2
      have hi : i < 2 := by omega
      have sc2 : Same Hc H2 := keep_fresh np s1 k2
      have T2 := T.same sc2
      have gk2 := T2.gk
      have gw2 := T2.gw
      have gq2 := T2.gq
      have ix1 := at_two (f := kk) hi
      have ix2 := at_two (f := ww) hi
      have ix3 := at_two (f := qq) hi
      have hW2 := hWs.tr (hhs.tr T2.ks)
      obtain ⟨lsW, stW, hsW, _, _, hbW⟩ := hW2.ex
      have pf : p ∉ fp i := fun z => (T.pr i hi).has p z np
      have qf : ∀ d c q, H2 p = some (.lst [.int d, .int c, .ref q]) → q ∉ fp i := fun d c q e z => by
        obtain ⟨d0, c0, q0, ms0, e0, _⟩ := hh.ex
        obtain ⟨d', c', e'⟩ := q2 d0 c0 q0 e0
        rw [e'] at e
        cases e
        exact (T.pr i hi).has q z (qn d0 c0 q e0)
      have lhi := lh i hi
      repeat walk_at "go"
      refine ⟨p, kk i, ww i, qq i, b, rr i, u, v, M, ws i, hist i, fp i, rfl, h2, pf, qf, hbW, T2.pr i hi, T2.bd i hi, by omega, hM, fun H3 ws' hist' fp' pr' g f h3 bd' l' => ?_⟩
      have p2 : H2 p ≠ none := by
        obtain ⟨xs, e⟩ := h2.isL
        rw [e]
        exact fun z => by cases z
      have pf' : p ∉ fp' := fun z => by
        rcases g p z with y | y
        · exact pf y
        · exact p2 y
      have done : ∀ H5, Keep p H3 H5 → TwoAt a.c_Keeper H Hs p0 kk ww qq rr Lk Lw Lq H5 (up1 ws i ws') (up1 hist i hist') (up1 fp i fp') := fun H5 k5 => T.step S0 hhs np0 hi (fun y o e ny => k5 _ _ (f y o (sc2 _ _ e) fun z => by
          rcases List.mem_cons.mp z with z | z
          · exact ne_none np e z
          · exact ny z) (ne_none np e)) (fun y hy => by
          rcases g y hy with z | z
          · exact .inl z
          · exact .inr (sc2.free z)) (pr'.keep fun y hy o e => k5 _ _ e fun z => pf' (z ▸ hy)) bd'
      have lh' : ∀ j, j < 2 → (up1 hist i hist' j).length ≤ 44 + (t + 1) := fun j hj => by
        by_cases e : j = i
        · subst e; rw [up1_at]; omega
        · rw [up1_ne _ _ e]; have := lh j hj; omega
      repeat walk_at "go"
      refine ⟨p, _, rfl, h3, by decide, by decide, fun r4 H4 a4 b4 h4 k4 q4 => ?_⟩
      repeat walk_at "go"
      refine rd_dec (fun c1 => ?_) (fun c1 => ?_)
      · repeat walk_at "go"
        exact ⟨_, _, _, _, _, _, _, rfl, done H4 k4, lh'⟩
      obtain ⟨j, rfl⟩ := Int.eq_ofNat_of_zero_le a4
      have hj : j < 2 := by omega
      have T4 := done H4 k4
      have gk4 := T4.gk
      have gw4 := T4.gw
      have gp4 := T4.ks _ _ gLpr Lpp
      have iy1 := at_two (f := kk) hj
      have iy2 := at_two (f := ww) hj
      have iy3 := at_two (f := rr) hj
      repeat walk_at "go"
      refine ⟨p, _, rfl, h4, by decide, by decide, fun r5 H5 a5 b5 h5 k5 q5 => ?_⟩
      have T5 := done H5 (k4.trans k5)
      obtain ⟨fa, fb, ka, lb, _, _⟩ := (T5.pr j hj).ex
      obtain ⟨ls, l1, _⟩ := lb.ex
      obtain ⟨P, hP, lP⟩ := hpos j hj
      repeat walk_at "go"
      refine ⟨kk j, rr j, ww j, _, _, fa, P, r5, rfl, ka, l1, (T5.bd j hj).1, hP.tk (hhs.tr T5.ks).tk, by omega, a5, fun H6 s6 => ?_⟩
      repeat walk_at "go"
      exact ⟨_, _, _, _, _, _, _, rfl, T5.same s6, lh'⟩
    · subst e
      repeat walk_at "go"
      refine ⟨by decide, by decide, ?_⟩
      refine comp_range (n := 2) (fun i us H' => Same Hc H' ∧ us = List.replicate i (V.bl true)) ⟨Same.refl _, rfl⟩ (sz_le (by omega)) (fun i us H' hi ⟨_, e1⟩ => by rw [e1, List.length_replicate]; omega) (fun i us HA hi ⟨sA, e1⟩ => ?_) (fun us HA ⟨sA, e1⟩ => ?_)
      · have TA := T.same sA
        have gkA := TA.gk
        have gwA := TA.gw
        have gpA := TA.ks _ _ gLpr Lpp
        have iy1 : atI [V.ref (kk 0), .ref (kk 1)] (0 + (i : Int)) = some (.ref (kk i)) := by rw [Int.zero_add]; exact at_two hi
        have iy2 : atI [V.ref (ww 0), .ref (ww 1)] (0 + (i : Int)) = some (.ref (ww i)) := by rw [Int.zero_add]; exact at_two hi
        have iy3 : atI [V.ref (rr 0), .ref (rr 1)] (0 + (i : Int)) = some (.ref (rr i)) := by rw [Int.zero_add]; exact at_two hi
        obtain ⟨fa, fb, ka, lb, _, _⟩ := (TA.pr i hi).ex
        obtain ⟨ls, l1, _⟩ := lb.ex
        obtain ⟨P, hP, lP⟩ := hpos i hi
        repeat walk_at "go"
        refine ⟨kk i, rr i, ww i, _, _, fa, P, _, rfl, ka, l1, (TA.bd i hi).1, hP.tk (hhs.tr TA.ks).tk, by omega, by omega, fun H6 s6 => ⟨sA.trans s6, ?_⟩⟩
        rw [e1, List.replicate_succ']
      subst e1
      intro l nl
      obtain ⟨HB, iB, sB, gB⟩ := nw _ nl; rw [iB]
      repeat walk_at "go"
      refine rd_allT (SqL.of gB) (fun x hx => by rw [(List.mem_replicate.mp hx).2]) ?_
      exact k _
end My
namespace My
open PySem L2
set_option maxHeartbeats 0 in
theorem all_mk {l : PySem.W.OpenLaw} {w : World} {K : PySem.W.Frag} {h : Heap} {mg : Str → Option Value} {fa : Addr} (X : K.In h) (G : h.Ns mainGlobals mg) (hfa : mg "law" = some (.ref fa))
    {C0 : Addr} {C1 : Addr} {C2 : Addr} {C3 : Addr} {CE0 : Addr} {CE1 : Addr} {CE2 : Addr} {CE3 : Addr} {CE4 : Addr} {CE5 : Addr} {CE6 : Addr} {f0 : Addr} {od0 an0 : Option Addr} {sl0 : Array (Option Value)} {oc0 kV0 dc0 pm0 cd0 ct0 : Value} {f1 : Addr} {od1 an1 : Option Addr} {sl1 : Array (Option Value)} {oc1 kV1 dc1 pm1 cd1 ct1 : Value} {f2 : Addr} {od2 an2 : Option Addr} {sl2 : Array (Option Value)} {oc2 kV2 dc2 pm2 cd2 ct2 : Value} {f3 : Addr} {od3 an3 : Option Addr} {sl3 : Array (Option Value)} {oc3 kV3 dc3 pm3 cd3 ct3 : Value} {f4 : Addr} {od4 an4 : Option Addr} {sl4 : Array (Option Value)} {oc4 kV4 dc4 pm4 cd4 ct4 : Value} {f5 : Addr} {od5 an5 : Option Addr} {sl5 : Array (Option Value)} {oc5 kV5 dc5 pm5 cd5 ct5 : Value} {f6 : Addr} {od6 an6 : Option Addr} {sl6 : Array (Option Value)} {oc6 kV6 dc6 pm6 cd6 ct6 : Value} {f7 : Addr} {od7 an7 : Option Addr} {sl7 : Array (Option Value)} {oc7 kV7 dc7 pm7 cd7 ct7 : Value} {f8 : Addr} {od8 an8 : Option Addr} {sl8 : Array (Option Value)} {oc8 kV8 dc8 pm8 cd8 ct8 : Value} {f9 : Addr} {od9 an9 : Option Addr} {sl9 : Array (Option Value)} {oc9 kV9 dc9 pm9 cd9 ct9 : Value} {f10 : Addr} {od10 an10 : Option Addr} {sl10 : Array (Option Value)} {oc10 kV10 dc10 pm10 cd10 ct10 : Value} {f11 : Addr} {od11 an11 : Option Addr} {sl11 : Array (Option Value)} {oc11 kV11 dc11 pm11 cd11 ct11 : Value} {f12 : Addr} {od12 an12 : Option Addr} {sl12 : Array (Option Value)} {oc12 kV12 dc12 pm12 cd12 ct12 : Value} {f13 : Addr} {od13 an13 : Option Addr} {sl13 : Array (Option Value)} {oc13 kV13 dc13 pm13 cd13 ct13 : Value} {f14 : Addr} {od14 an14 : Option Addr} {sl14 : Array (Option Value)} {oc14 kV14 dc14 pm14 cd14 ct14 : Value} {f15 : Addr} {od15 an15 : Option Addr} {sl15 : Array (Option Value)} {oc15 kV15 dc15 pm15 cd15 ct15 : Value} {f16 : Addr} {od16 an16 : Option Addr} {sl16 : Array (Option Value)} {oc16 kV16 dc16 pm16 cd16 ct16 : Value} {f17 : Addr} {od17 an17 : Option Addr} {sl17 : Array (Option Value)} {oc17 kV17 dc17 pm17 cd17 ct17 : Value} {f18 : Addr} {od18 an18 : Option Addr} {sl18 : Array (Option Value)} {oc18 kV18 dc18 pm18 cd18 ct18 : Value} {f19 : Addr} {od19 an19 : Option Addr} {sl19 : Array (Option Value)} {oc19 kV19 dc19 pm19 cd19 ct19 : Value} {f20 : Addr} {od20 an20 : Option Addr} {sl20 : Array (Option Value)} {oc20 kV20 dc20 pm20 cd20 ct20 : Value} {f21 : Addr} {od21 an21 : Option Addr} {sl21 : Array (Option Value)} {oc21 kV21 dc21 pm21 cd21 ct21 : Value} {f22 : Addr} {od22 an22 : Option Addr} {sl22 : Array (Option Value)} {oc22 kV22 dc22 pm22 cd22 ct22 : Value} {f23 : Addr} {od23 an23 : Option Addr} {sl23 : Array (Option Value)} {oc23 kV23 dc23 pm23 cd23 ct23 : Value} {f24 : Addr} {od24 an24 : Option Addr} {sl24 : Array (Option Value)} {oc24 kV24 dc24 pm24 cd24 ct24 : Value} {f25 : Addr} {od25 an25 : Option Addr} {sl25 : Array (Option Value)} {oc25 kV25 dc25 pm25 cd25 ct25 : Value} {f26 : Addr} {od26 an26 : Option Addr} {sl26 : Array (Option Value)} {oc26 kV26 dc26 pm26 cd26 ct26 : Value} {f27 : Addr} {od27 an27 : Option Addr} {sl27 : Array (Option Value)} {oc27 kV27 dc27 pm27 cd27 ct27 : Value} {f28 : Addr} {od28 an28 : Option Addr} {sl28 : Array (Option Value)} {oc28 kV28 dc28 pm28 cd28 ct28 : Value} {f29 : Addr} {od29 an29 : Option Addr} {sl29 : Array (Option Value)} {oc29 kV29 dc29 pm29 cd29 ct29 : Value} {f30 : Addr} {od30 an30 : Option Addr} {sl30 : Array (Option Value)} {oc30 kV30 dc30 pm30 cd30 ct30 : Value} {f31 : Addr} {od31 an31 : Option Addr} {sl31 : Array (Option Value)} {oc31 kV31 dc31 pm31 cd31 ct31 : Value} {f32 : Addr} {od32 an32 : Option Addr} {sl32 : Array (Option Value)} {oc32 kV32 dc32 pm32 cd32 ct32 : Value} {f33 : Addr} {od33 an33 : Option Addr} {sl33 : Array (Option Value)} {oc33 kV33 dc33 pm33 cd33 ct33 : Value} {f34 : Addr} {od34 an34 : Option Addr} {sl34 : Array (Option Value)} {oc34 kV34 dc34 pm34 cd34 ct34 : Value} {f35 : Addr} {od35 an35 : Option Addr} {sl35 : Array (Option Value)} {oc35 kV35 dc35 pm35 cd35 ct35 : Value} {f36 : Addr} {od36 an36 : Option Addr} {sl36 : Array (Option Value)} {oc36 kV36 dc36 pm36 cd36 ct36 : Value} {f37 : Addr} {od37 an37 : Option Addr} {sl37 : Array (Option Value)} {oc37 kV37 dc37 pm37 cd37 ct37 : Value} {f38 : Addr} {od38 an38 : Option Addr} {sl38 : Array (Option Value)} {oc38 kV38 dc38 pm38 cd38 ct38 : Value} {tk_LONGEST_STINT : Tok} {tk_MOST_PIECES : Tok} {tk_MOST_LEVELS : Tok} {tk_MOST_MACHINES : Tok}
    (aC0 : PySem.W.nsIn K mainGlobals "Keeper" = some (some (.ref C0)))
    (aC1 : PySem.W.nsIn K mainGlobals "Machine" = some (some (.ref C1)))
    (aC2 : PySem.W.nsIn K mainGlobals "Store" = some (some (.ref C2)))
    (aC3 : PySem.W.nsIn K mainGlobals "Works" = some (some (.ref C3)))
    (aE0 : PySem.W.nsIn K mainGlobals "NoDeed" = some (some (.ref CE0)))
    (aE1 : PySem.W.nsIn K mainGlobals "NoHour" = some (some (.ref CE1)))
    (aE2 : PySem.W.nsIn K mainGlobals "NoText" = some (some (.ref CE2)))
    (aE3 : PySem.W.nsIn K mainGlobals "NotNow" = some (some (.ref CE3)))
    (aE4 : PySem.W.nsIn K mainGlobals "StintError" = some (some (.ref CE4)))
    (aE5 : PySem.W.nsIn K mainGlobals "TooMany" = some (some (.ref CE5)))
    (aE6 : PySem.W.nsIn K mainGlobals "Wrong" = some (some (.ref CE6)))
    (a0 : PySem.W.nsIn K mainGlobals "_law_open" = some (some (.ref f0)))
    (l0 : K.lookup f0 = some ⟨oc0, od0, .func (PySem.W.fnOf "_law_open" "_law_open" (defArgs s__law_open) (defBody s__law_open) (defScope s__law_open) .none kV0 dc0 pm0 an0 cd0 ct0), sl0⟩)
    (c0 : PySem.W.codeIn K cd0 "_law_open" = true)
    (k0 : PySem.W.keepIn K (.ref f0) = true)
    (a1 : PySem.W.nsIn K mainGlobals "_law_draw" = some (some (.ref f1)))
    (l1 : K.lookup f1 = some ⟨oc1, od1, .func (PySem.W.fnOf "_law_draw" "_law_draw" (defArgs s__law_draw) (defBody s__law_draw) (defScope s__law_draw) .none kV1 dc1 pm1 an1 cd1 ct1), sl1⟩)
    (c1 : PySem.W.codeIn K cd1 "_law_draw" = true)
    (k1 : PySem.W.keepIn K (.ref f1) = true)
    (a2 : PySem.W.nsIn K mainGlobals "_law_far" = some (some (.ref f2)))
    (l2 : K.lookup f2 = some ⟨oc2, od2, .func (PySem.W.fnOf "_law_far" "_law_far" (defArgs s__law_far) (defBody s__law_far) (defScope s__law_far) .none kV2 dc2 pm2 an2 cd2 ct2), sl2⟩)
    (c2 : PySem.W.codeIn K cd2 "_law_far" = true)
    (k2 : PySem.W.keepIn K (.ref f2) = true)
    (a3 : PySem.W.nsIn K mainGlobals "_law_factor" = some (some (.ref f3)))
    (l3 : K.lookup f3 = some ⟨oc3, od3, .func (PySem.W.fnOf "_law_factor" "_law_factor" (defArgs s__law_factor) (defBody s__law_factor) (defScope s__law_factor) .none kV3 dc3 pm3 an3 cd3 ct3), sl3⟩)
    (c3 : PySem.W.codeIn K cd3 "_law_factor" = true)
    (k3 : PySem.W.keepIn K (.ref f3) = true)
    (a4 : PySem.W.nsIn K mainGlobals "is_whole" = some (some (.ref f4)))
    (l4 : K.lookup f4 = some ⟨oc4, od4, .func (PySem.W.fnOf "is_whole" "is_whole" (defArgs s_is_whole) (defBody s_is_whole) (defScope s_is_whole) .none kV4 dc4 pm4 an4 cd4 ct4), sl4⟩)
    (c4 : PySem.W.codeIn K cd4 "is_whole" = true)
    (k4 : PySem.W.keepIn K (.ref f4) = true)
    (a5 : PySem.W.nsIn K mainGlobals "is_amount" = some (some (.ref f5)))
    (l5 : K.lookup f5 = some ⟨oc5, od5, .func (PySem.W.fnOf "is_amount" "is_amount" (defArgs s_is_amount) (defBody s_is_amount) (defScope s_is_amount) .none kV5 dc5 pm5 an5 cd5 ct5), sl5⟩)
    (c5 : PySem.W.codeIn K cd5 "is_amount" = true)
    (k5 : PySem.W.keepIn K (.ref f5) = true)
    (a6 : PySem.W.nsIn K mainGlobals "is_span" = some (some (.ref f6)))
    (l6 : K.lookup f6 = some ⟨oc6, od6, .func (PySem.W.fnOf "is_span" "is_span" (defArgs s_is_span) (defBody s_is_span) (defScope s_is_span) .none kV6 dc6 pm6 an6 cd6 ct6), sl6⟩)
    (c6 : PySem.W.codeIn K cd6 "is_span" = true)
    (k6 : PySem.W.keepIn K (.ref f6) = true)
    (a7 : PySem.W.nsIn K mainGlobals "is_piece" = some (some (.ref f7)))
    (l7 : K.lookup f7 = some ⟨oc7, od7, .func (PySem.W.fnOf "is_piece" "is_piece" (defArgs s_is_piece) (defBody s_is_piece) (defScope s_is_piece) .none kV7 dc7 pm7 an7 cd7 ct7), sl7⟩)
    (c7 : PySem.W.codeIn K cd7 "is_piece" = true)
    (k7 : PySem.W.keepIn K (.ref f7) = true)
    (a8 : PySem.W.nsIn K mainGlobals "are_pieces" = some (some (.ref f8)))
    (l8 : K.lookup f8 = some ⟨oc8, od8, .func (PySem.W.fnOf "are_pieces" "are_pieces" (defArgs s_are_pieces) (defBody s_are_pieces) (defScope s_are_pieces) .none kV8 dc8 pm8 an8 cd8 ct8), sl8⟩)
    (c8 : PySem.W.codeIn K cd8 "are_pieces" = true)
    (k8 : PySem.W.keepIn K (.ref f8) = true)
    (a9 : PySem.W.findIn K (.ref C1) "__init__" = some (some (.ref f9)))
    (i9 : PySem.W.isFn K (.ref f9) = true)
    (l9 : K.lookup f9 = some ⟨oc9, od9, .func (PySem.W.fnOf "__init__" "Machine.__init__" (defArgs s_Machine_init) (defBody s_Machine_init) (defScope s_Machine_init) .none kV9 dc9 pm9 an9 cd9 ct9), sl9⟩)
    (c9 : PySem.W.codeIn K cd9 "Machine.__init__" = true)
    (k9 : PySem.W.keepIn K (.ref f9) = true)
    (a10 : PySem.W.nsIn K mainGlobals "_law_spec" = some (some (.ref f10)))
    (l10 : K.lookup f10 = some ⟨oc10, od10, .func (PySem.W.fnOf "_law_spec" "_law_spec" (defArgs s__law_spec) (defBody s__law_spec) (defScope s__law_spec) .none kV10 dc10 pm10 an10 cd10 ct10), sl10⟩)
    (c10 : PySem.W.codeIn K cd10 "_law_spec" = true)
    (k10 : PySem.W.keepIn K (.ref f10) = true)
    (a11 : PySem.W.nsIn K mainGlobals "_law_machine" = some (some (.ref f11)))
    (l11 : K.lookup f11 = some ⟨oc11, od11, .func (PySem.W.fnOf "_law_machine" "_law_machine" (defArgs s__law_machine) (defBody s__law_machine) (defScope s__law_machine) .none kV11 dc11 pm11 an11 cd11 ct11), sl11⟩)
    (c11 : PySem.W.codeIn K cd11 "_law_machine" = true)
    (k11 : PySem.W.keepIn K (.ref f11) = true)
    (a12 : PySem.W.nsIn K mainGlobals "_law_state" = some (some (.ref f12)))
    (l12 : K.lookup f12 = some ⟨oc12, od12, .func (PySem.W.fnOf "_law_state" "_law_state" (defArgs s__law_state) (defBody s__law_state) (defScope s__law_state) .none kV12 dc12 pm12 an12 cd12 ct12), sl12⟩)
    (c12 : PySem.W.codeIn K cd12 "_law_state" = true)
    (k12 : PySem.W.keepIn K (.ref f12) = true)
    (a13 : PySem.W.nsIn K mainGlobals "_law_same" = some (some (.ref f13)))
    (l13 : K.lookup f13 = some ⟨oc13, od13, .func (PySem.W.fnOf "_law_same" "_law_same" (defArgs s__law_same) (defBody s__law_same) (defScope s__law_same) .none kV13 dc13 pm13 an13 cd13 ct13), sl13⟩)
    (c13 : PySem.W.codeIn K cd13 "_law_same" = true)
    (k13 : PySem.W.keepIn K (.ref f13) = true)
    (a14 : PySem.W.nsIn K mainGlobals "is_depth" = some (some (.ref f14)))
    (l14 : K.lookup f14 = some ⟨oc14, od14, .func (PySem.W.fnOf "is_depth" "is_depth" (defArgs s_is_depth) (defBody s_is_depth) (defScope s_is_depth) .none kV14 dc14 pm14 an14 cd14 ct14), sl14⟩)
    (c14 : PySem.W.codeIn K cd14 "is_depth" = true)
    (k14 : PySem.W.keepIn K (.ref f14) = true)
    (a15 : PySem.W.findIn K (.ref C2) "__init__" = some (some (.ref f15)))
    (i15 : PySem.W.isFn K (.ref f15) = true)
    (l15 : K.lookup f15 = some ⟨oc15, od15, .func (PySem.W.fnOf "__init__" "Store.__init__" (defArgs s_Store_init) (defBody s_Store_init) (defScope s_Store_init) .none kV15 dc15 pm15 an15 cd15 ct15), sl15⟩)
    (c15 : PySem.W.codeIn K cd15 "Store.__init__" = true)
    (k15 : PySem.W.keepIn K (.ref f15) = true)
    (a16 : PySem.W.nsIn K mainGlobals "are_machines" = some (some (.ref f16)))
    (l16 : K.lookup f16 = some ⟨oc16, od16, .func (PySem.W.fnOf "are_machines" "are_machines" (defArgs s_are_machines) (defBody s_are_machines) (defScope s_are_machines) .none kV16 dc16 pm16 an16 cd16 ct16), sl16⟩)
    (c16 : PySem.W.codeIn K cd16 "are_machines" = true)
    (k16 : PySem.W.keepIn K (.ref f16) = true)
    (a17 : PySem.W.findIn K (.ref C3) "__init__" = some (some (.ref f17)))
    (i17 : PySem.W.isFn K (.ref f17) = true)
    (l17 : K.lookup f17 = some ⟨oc17, od17, .func (PySem.W.fnOf "__init__" "Works.__init__" (defArgs s_Works_init) (defBody s_Works_init) (defScope s_Works_init) .none kV17 dc17 pm17 an17 cd17 ct17), sl17⟩)
    (c17 : PySem.W.codeIn K cd17 "Works.__init__" = true)
    (k17 : PySem.W.keepIn K (.ref f17) = true)
    (a18 : PySem.W.nsIn K mainGlobals "_law_want" = some (some (.ref f18)))
    (l18 : K.lookup f18 = some ⟨oc18, od18, .func (PySem.W.fnOf "_law_want" "_law_want" (defArgs s__law_want) (defBody s__law_want) (defScope s__law_want) .none kV18 dc18 pm18 an18 cd18 ct18), sl18⟩)
    (c18 : PySem.W.codeIn K cd18 "_law_want" = true)
    (k18 : PySem.W.keepIn K (.ref f18) = true)
    (a19 : PySem.W.nsIn K mainGlobals "_law_store" = some (some (.ref f19)))
    (l19 : K.lookup f19 = some ⟨oc19, od19, .func (PySem.W.fnOf "_law_store" "_law_store" (defArgs s__law_store) (defBody s__law_store) (defScope s__law_store) .none kV19 dc19 pm19 an19 cd19 ct19), sl19⟩)
    (c19 : PySem.W.codeIn K cd19 "_law_store" = true)
    (k19 : PySem.W.keepIn K (.ref f19) = true)
    (a20 : PySem.W.findIn K (.ref C0) "__init__" = some (some (.ref f20)))
    (i20 : PySem.W.isFn K (.ref f20) = true)
    (l20 : K.lookup f20 = some ⟨oc20, od20, .func (PySem.W.fnOf "__init__" "Keeper.__init__" (defArgs s_Keeper_init) (defBody s_Keeper_init) (defScope s_Keeper_init) .none kV20 dc20 pm20 an20 cd20 ct20), sl20⟩)
    (c20 : PySem.W.codeIn K cd20 "Keeper.__init__" = true)
    (k20 : PySem.W.keepIn K (.ref f20) = true)
    (a21 : PySem.W.findIn K (.ref C0) "keep_deed" = some (some (.ref f21)))
    (i21 : PySem.W.isFn K (.ref f21) = true)
    (l21 : K.lookup f21 = some ⟨oc21, od21, .func (PySem.W.fnOf "keep_deed" "Keeper.keep_deed" (defArgs s_Keeper_keep_deed) (defBody s_Keeper_keep_deed) (defScope s_Keeper_keep_deed) .none kV21 dc21 pm21 an21 cd21 ct21), sl21⟩)
    (c21 : PySem.W.codeIn K cd21 "Keeper.keep_deed" = true)
    (k21 : PySem.W.keepIn K (.ref f21) = true)
    (a22 : PySem.W.findIn K (.ref C0) "tell" = some (some (.ref f22)))
    (i22 : PySem.W.isFn K (.ref f22) = true)
    (l22 : K.lookup f22 = some ⟨oc22, od22, .func (PySem.W.fnOf "tell" "Keeper.tell" (defArgs s_Keeper_tell) (defBody s_Keeper_tell) (defScope s_Keeper_tell) .none kV22 dc22 pm22 an22 cd22 ct22), sl22⟩)
    (c22 : PySem.W.codeIn K cd22 "Keeper.tell" = true)
    (k22 : PySem.W.keepIn K (.ref f22) = true)
    (a23 : PySem.W.findIn K (.ref C0) "change" = some (some (.ref f23)))
    (i23 : PySem.W.isFn K (.ref f23) = true)
    (l23 : K.lookup f23 = some ⟨oc23, od23, .func (PySem.W.fnOf "change" "Keeper.change" (defArgs s_Keeper_change) (defBody s_Keeper_change) (defScope s_Keeper_change) .none kV23 dc23 pm23 an23 cd23 ct23), sl23⟩)
    (c23 : PySem.W.codeIn K cd23 "Keeper.change" = true)
    (k23 : PySem.W.keepIn K (.ref f23) = true)
    (a24 : PySem.W.findIn K (.ref C0) "go" = some (some (.ref f24)))
    (i24 : PySem.W.isFn K (.ref f24) = true)
    (l24 : K.lookup f24 = some ⟨oc24, od24, .func (PySem.W.fnOf "go" "Keeper.go" (defArgs s_Keeper_go) (defBody s_Keeper_go) (defScope s_Keeper_go) .none kV24 dc24 pm24 an24 cd24 ct24), sl24⟩)
    (c24 : PySem.W.codeIn K cd24 "Keeper.go" = true)
    (k24 : PySem.W.keepIn K (.ref f24) = true)
    (a25 : PySem.W.findIn K (.ref C0) "undo" = some (some (.ref f25)))
    (i25 : PySem.W.isFn K (.ref f25) = true)
    (l25 : K.lookup f25 = some ⟨oc25, od25, .func (PySem.W.fnOf "undo" "Keeper.undo" (defArgs s_Keeper_undo) (defBody s_Keeper_undo) (defScope s_Keeper_undo) .none kV25 dc25 pm25 an25 cd25 ct25), sl25⟩)
    (c25 : PySem.W.codeIn K cd25 "Keeper.undo" = true)
    (k25 : PySem.W.keepIn K (.ref f25) = true)
    (a26 : PySem.W.findIn K (.ref C0) "waiting" = some (some (.ref f26)))
    (i26 : PySem.W.isFn K (.ref f26) = true)
    (l26 : K.lookup f26 = some ⟨oc26, od26, .func (PySem.W.fnOf "waiting" "Keeper.waiting" (defArgs s_Keeper_waiting) (defBody s_Keeper_waiting) (defScope s_Keeper_waiting) .none kV26 dc26 pm26 an26 cd26 ct26), sl26⟩)
    (c26 : PySem.W.codeIn K cd26 "Keeper.waiting" = true)
    (k26 : PySem.W.keepIn K (.ref f26) = true)
    (a27 : PySem.W.findIn K (.ref C0) "gone" = some (some (.ref f27)))
    (i27 : PySem.W.isFn K (.ref f27) = true)
    (l27 : K.lookup f27 = some ⟨oc27, od27, .func (PySem.W.fnOf "gone" "Keeper.gone" (defArgs s_Keeper_gone) (defBody s_Keeper_gone) (defScope s_Keeper_gone) .none kV27 dc27 pm27 an27 cd27 ct27), sl27⟩)
    (c27 : PySem.W.codeIn K cd27 "Keeper.gone" = true)
    (k27 : PySem.W.keepIn K (.ref f27) = true)
    (a28 : PySem.W.findIn K (.ref C0) "now" = some (some (.ref f28)))
    (i28 : PySem.W.isFn K (.ref f28) = true)
    (l28 : K.lookup f28 = some ⟨oc28, od28, .func (PySem.W.fnOf "now" "Keeper.now" (defArgs s_Keeper_now) (defBody s_Keeper_now) (defScope s_Keeper_now) .none kV28 dc28 pm28 an28 cd28 ct28), sl28⟩)
    (c28 : PySem.W.codeIn K cd28 "Keeper.now" = true)
    (k28 : PySem.W.keepIn K (.ref f28) = true)
    (a29 : PySem.W.findIn K (.ref C0) "spent" = some (some (.ref f29)))
    (i29 : PySem.W.isFn K (.ref f29) = true)
    (l29 : K.lookup f29 = some ⟨oc29, od29, .func (PySem.W.fnOf "spent" "Keeper.spent" (defArgs s_Keeper_spent) (defBody s_Keeper_spent) (defScope s_Keeper_spent) .none kV29 dc29 pm29 an29 cd29 ct29), sl29⟩)
    (c29 : PySem.W.codeIn K cd29 "Keeper.spent" = true)
    (k29 : PySem.W.keepIn K (.ref f29) = true)
    (a30 : PySem.W.nsIn K mainGlobals "_law_changed" = some (some (.ref f30)))
    (l30 : K.lookup f30 = some ⟨oc30, od30, .func (PySem.W.fnOf "_law_changed" "_law_changed" (defArgs s__law_changed) (defBody s__law_changed) (defScope s__law_changed) .none kV30 dc30 pm30 an30 cd30 ct30), sl30⟩)
    (c30 : PySem.W.codeIn K cd30 "_law_changed" = true)
    (k30 : PySem.W.keepIn K (.ref f30) = true)
    (a31 : PySem.W.nsIn K mainGlobals "_law_gone" = some (some (.ref f31)))
    (l31 : K.lookup f31 = some ⟨oc31, od31, .func (PySem.W.fnOf "_law_gone" "_law_gone" (defArgs s__law_gone) (defBody s__law_gone) (defScope s__law_gone) .none kV31 dc31 pm31 an31 cd31 ct31), sl31⟩)
    (c31 : PySem.W.codeIn K cd31 "_law_gone" = true)
    (k31 : PySem.W.keepIn K (.ref f31) = true)
    (a32 : PySem.W.nsIn K mainGlobals "_law_looks" = some (some (.ref f32)))
    (l32 : K.lookup f32 = some ⟨oc32, od32, .func (PySem.W.fnOf "_law_looks" "_law_looks" (defArgs s__law_looks) (defBody s__law_looks) (defScope s__law_looks) .none kV32 dc32 pm32 an32 cd32 ct32), sl32⟩)
    (c32 : PySem.W.codeIn K cd32 "_law_looks" = true)
    (k32 : PySem.W.keepIn K (.ref f32) = true)
    (a33 : PySem.W.nsIn K mainGlobals "_law_undone" = some (some (.ref f33)))
    (l33 : K.lookup f33 = some ⟨oc33, od33, .func (PySem.W.fnOf "_law_undone" "_law_undone" (defArgs s__law_undone) (defBody s__law_undone) (defScope s__law_undone) .none kV33 dc33 pm33 an33 cd33 ct33), sl33⟩)
    (c33 : PySem.W.codeIn K cd33 "_law_undone" = true)
    (k33 : PySem.W.keepIn K (.ref f33) = true)
    (a34 : PySem.W.nsIn K mainGlobals "_law_do" = some (some (.ref f34)))
    (l34 : K.lookup f34 = some ⟨oc34, od34, .func (PySem.W.fnOf "_law_do" "_law_do" (defArgs s__law_do) (defBody s__law_do) (defScope s__law_do) .none kV34 dc34 pm34 an34 cd34 ct34), sl34⟩)
    (c34 : PySem.W.codeIn K cd34 "_law_do" = true)
    (k34 : PySem.W.keepIn K (.ref f34) = true)
    (a35 : PySem.W.nsIn K mainGlobals "_law_small" = some (some (.ref f35)))
    (l35 : K.lookup f35 = some ⟨oc35, od35, .func (PySem.W.fnOf "_law_small" "_law_small" (defArgs s__law_small) (defBody s__law_small) (defScope s__law_small) .none kV35 dc35 pm35 an35 cd35 ct35), sl35⟩)
    (c35 : PySem.W.codeIn K cd35 "_law_small" = true)
    (k35 : PySem.W.keepIn K (.ref f35) = true)
    (a36 : PySem.W.nsIn K mainGlobals "_law_works" = some (some (.ref f36)))
    (l36 : K.lookup f36 = some ⟨oc36, od36, .func (PySem.W.fnOf "_law_works" "_law_works" (defArgs s__law_works) (defBody s__law_works) (defScope s__law_works) .none kV36 dc36 pm36 an36 cd36 ct36), sl36⟩)
    (c36 : PySem.W.codeIn K cd36 "_law_works" = true)
    (k36 : PySem.W.keepIn K (.ref f36) = true)
    (a37 : PySem.W.nsIn K mainGlobals "_law_position" = some (some (.ref f37)))
    (l37 : K.lookup f37 = some ⟨oc37, od37, .func (PySem.W.fnOf "_law_position" "_law_position" (defArgs s__law_position) (defBody s__law_position) (defScope s__law_position) .none kV37 dc37 pm37 an37 cd37 ct37), sl37⟩)
    (c37 : PySem.W.codeIn K cd37 "_law_position" = true)
    (k37 : PySem.W.keepIn K (.ref f37) = true)
    (a38 : PySem.W.nsIn K mainGlobals "law" = some (some (.ref f38)))
    (l38 : K.lookup f38 = some ⟨oc38, od38, .func (PySem.W.fnOf "law" "law" (defArgs s_law) (defBody s_law) (defScope s_law) .none kV38 dc38 pm38 an38 cd38 ct38), sl38⟩)
    (c38 : PySem.W.codeIn K cd38 "law" = true)
    (k38 : PySem.W.keepIn K (.ref f38) = true)
    (pg0 : PySem.W.plainGet K C0 Str.empty = true)
    (hd0 : PySem.W.hasDictIn K C0 = true)
    (po0 : PySem.W.plainOver K C0 = true)
    (sa0 : PySem.W.findIn K (.ref C0) "__setattr__" = some (some (.builtin "object.__setattr__")))
    (mk0 : PySem.W.makesIn K C0 = true)
    (kc0 : PySem.W.keepIn K (.ref C0) = true)
    (n0_works : PySem.W.findIn K (.ref C0) "works" = some none)
    (n0_place : PySem.W.findIn K (.ref C0) "place" = some none)
    (n0_waits : PySem.W.findIn K (.ref C0) "waits" = some none)
    (n0_past : PySem.W.findIn K (.ref C0) "past" = some none)
    (n0_cost : PySem.W.findIn K (.ref C0) "cost" = some none)
    (n0_deeds : PySem.W.findIn K (.ref C0) "deeds" = some none)
    (pg1 : PySem.W.plainGet K C1 Str.empty = true)
    (hd1 : PySem.W.hasDictIn K C1 = true)
    (po1 : PySem.W.plainOver K C1 = true)
    (sa1 : PySem.W.findIn K (.ref C1) "__setattr__" = some (some (.builtin "object.__setattr__")))
    (mk1 : PySem.W.makesIn K C1 = true)
    (kc1 : PySem.W.keepIn K (.ref C1) = true)
    (n1_up : PySem.W.findIn K (.ref C1) "up" = some none)
    (n1_down : PySem.W.findIn K (.ref C1) "down" = some none)
    (n1_begin : PySem.W.findIn K (.ref C1) "begin" = some none)
    (n1_run : PySem.W.findIn K (.ref C1) "run" = some none)
    (n1_rest : PySem.W.findIn K (.ref C1) "rest" = some none)
    (n1_least : PySem.W.findIn K (.ref C1) "least" = some none)
    (n1_pieces : PySem.W.findIn K (.ref C1) "pieces" = some none)
    (ia1 : PySem.W.findIn K (.ref C1) "__class__" = some (some (.builtin "object.__class__")))
    (in1 : PySem.W.specialIn K (.builtin "object.__class__") "__get__" = some (some (.builtin "getset_descriptor.__get__")))
    (it1 : PySem.W.takesIn K (.builtin "object.__class__") = some true)
    (im1 : PySem.W.mroIn K C1 (.type "object") = some true)
    (pg2 : PySem.W.plainGet K C2 Str.empty = true)
    (hd2 : PySem.W.hasDictIn K C2 = true)
    (po2 : PySem.W.plainOver K C2 = true)
    (sa2 : PySem.W.findIn K (.ref C2) "__setattr__" = some (some (.builtin "object.__setattr__")))
    (mk2 : PySem.W.makesIn K C2 = true)
    (kc2 : PySem.W.keepIn K (.ref C2) = true)
    (n2_cap : PySem.W.findIn K (.ref C2) "cap" = some none)
    (n2_into : PySem.W.findIn K (.ref C2) "into" = some none)
    (n2_out : PySem.W.findIn K (.ref C2) "out" = some none)
    (n2_takes : PySem.W.findIn K (.ref C2) "takes" = some none)
    (n2_gives : PySem.W.findIn K (.ref C2) "gives" = some none)
    (ia2 : PySem.W.findIn K (.ref C2) "__class__" = some (some (.builtin "object.__class__")))
    (in2 : PySem.W.specialIn K (.builtin "object.__class__") "__get__" = some (some (.builtin "getset_descriptor.__get__")))
    (it2 : PySem.W.takesIn K (.builtin "object.__class__") = some true)
    (im2 : PySem.W.mroIn K C2 (.type "object") = some true)
    (pg3 : PySem.W.plainGet K C3 Str.empty = true)
    (hd3 : PySem.W.hasDictIn K C3 = true)
    (po3 : PySem.W.plainOver K C3 = true)
    (sa3 : PySem.W.findIn K (.ref C3) "__setattr__" = some (some (.builtin "object.__setattr__")))
    (mk3 : PySem.W.makesIn K C3 = true)
    (kc3 : PySem.W.keepIn K (.ref C3) = true)
    (n3_machines : PySem.W.findIn K (.ref C3) "machines" = some none)
    (n3_store : PySem.W.findIn K (.ref C3) "store" = some none)
    (n3_lack : PySem.W.findIn K (.ref C3) "lack" = some none)
    (ia3 : PySem.W.findIn K (.ref C3) "__class__" = some (some (.builtin "object.__class__")))
    (in3 : PySem.W.specialIn K (.builtin "object.__class__") "__get__" = some (some (.builtin "getset_descriptor.__get__")))
    (it3 : PySem.W.takesIn K (.builtin "object.__class__") = some true)
    (im3 : PySem.W.mroIn K C3 (.type "object") = some true)
    (Ega0 : PySem.W.findIn K (.ref CE0) "__getattribute__" = some (some (.builtin "BaseException.__getattribute__")))
    (Egx0 : PySem.W.findIn K (.ref CE0) "__getattr__" = some none)
    (Eex0 : PySem.W.mroIn K CE0 (.type "BaseException") = some true)
    (Esa0 : PySem.W.findIn K (.ref CE0) "__setattr__" = some (some (.builtin "object.__setattr__")))
    (Eca0 : PySem.W.findIn K (.ref CE0) "__class__" = some (some (.builtin "object.__class__")))
    (Ecg0 : PySem.W.specialIn K (.builtin "object.__class__") "__get__" = some (some (.builtin "getset_descriptor.__get__")))
    (Ect0 : PySem.W.takesIn K (.builtin "object.__class__") = some true)
    (Emo0 : PySem.W.mroIn K CE0 (.type "object") = some true)
    (Ehd0 : PySem.W.hasDictIn K CE0 = true)
    (Ekp0 : PySem.W.keepIn K (.ref CE0) = true)
    (Emm0 : (PySem.W.clsIn K CE0).any (fun cd => errMro cd.mro && cd.hasDict) = true)
    (Emd0 : excMkIn K CE0 = true)
    (Eno0 : PySem.W.excIn K CE0 veMro "ValueError.__new__" = true)
    (Ex0_StintError : PySem.W.exmOne K (.ref CE0) (.ref CE4) = some true)
    (Ex0_NoHour : PySem.W.exmOne K (.ref CE0) (.ref CE1) = some false)
    (Ex0_NoDeed : PySem.W.exmOne K (.ref CE0) (.ref CE0) = some true)
    (Ek0_NoHour : PySem.W.kitOne K (.ref CE0) (.ref CE1) = some false)
    (Ek0_ValueError : PySem.W.kitOne K (.ref CE0) (.type "ValueError") = some true)
    (Ek0_Wrong : PySem.W.kitOne K (.ref CE0) (.ref CE6) = some false)
    (Ek0_NotNow : PySem.W.kitOne K (.ref CE0) (.ref CE3) = some false)
    (Ek0_TooMany : PySem.W.kitOne K (.ref CE0) (.ref CE5) = some false)
    (Ek0_NoDeed : PySem.W.kitOne K (.ref CE0) (.ref CE0) = some true)
    (Ek0_NoText : PySem.W.kitOne K (.ref CE0) (.ref CE2) = some false)
    (Ega1 : PySem.W.findIn K (.ref CE1) "__getattribute__" = some (some (.builtin "BaseException.__getattribute__")))
    (Egx1 : PySem.W.findIn K (.ref CE1) "__getattr__" = some none)
    (Eex1 : PySem.W.mroIn K CE1 (.type "BaseException") = some true)
    (Esa1 : PySem.W.findIn K (.ref CE1) "__setattr__" = some (some (.builtin "object.__setattr__")))
    (Eca1 : PySem.W.findIn K (.ref CE1) "__class__" = some (some (.builtin "object.__class__")))
    (Ecg1 : PySem.W.specialIn K (.builtin "object.__class__") "__get__" = some (some (.builtin "getset_descriptor.__get__")))
    (Ect1 : PySem.W.takesIn K (.builtin "object.__class__") = some true)
    (Emo1 : PySem.W.mroIn K CE1 (.type "object") = some true)
    (Ehd1 : PySem.W.hasDictIn K CE1 = true)
    (Ekp1 : PySem.W.keepIn K (.ref CE1) = true)
    (Emm1 : (PySem.W.clsIn K CE1).any (fun cd => errMro cd.mro && cd.hasDict) = true)
    (Emd1 : excMkIn K CE1 = true)
    (Eno1 : PySem.W.excIn K CE1 veMro "ValueError.__new__" = true)
    (Ex1_StintError : PySem.W.exmOne K (.ref CE1) (.ref CE4) = some true)
    (Ex1_NoHour : PySem.W.exmOne K (.ref CE1) (.ref CE1) = some true)
    (Ex1_NoDeed : PySem.W.exmOne K (.ref CE1) (.ref CE0) = some false)
    (Ek1_NoHour : PySem.W.kitOne K (.ref CE1) (.ref CE1) = some true)
    (Ek1_ValueError : PySem.W.kitOne K (.ref CE1) (.type "ValueError") = some true)
    (Ek1_Wrong : PySem.W.kitOne K (.ref CE1) (.ref CE6) = some false)
    (Ek1_NotNow : PySem.W.kitOne K (.ref CE1) (.ref CE3) = some false)
    (Ek1_TooMany : PySem.W.kitOne K (.ref CE1) (.ref CE5) = some false)
    (Ek1_NoDeed : PySem.W.kitOne K (.ref CE1) (.ref CE0) = some false)
    (Ek1_NoText : PySem.W.kitOne K (.ref CE1) (.ref CE2) = some false)
    (z_ValueError : PySem.W.nsIn K mainGlobals "ValueError" = some none)
    (z_abs : PySem.W.nsIn K mainGlobals "abs" = some none)
    (z_all : PySem.W.nsIn K mainGlobals "all" = some none)
    (z_bool : PySem.W.nsIn K mainGlobals "bool" = some none)
    (z_enumerate : PySem.W.nsIn K mainGlobals "enumerate" = some none)
    (z_int : PySem.W.nsIn K mainGlobals "int" = some none)
    (z_isinstance : PySem.W.nsIn K mainGlobals "isinstance" = some none)
    (z_len : PySem.W.nsIn K mainGlobals "len" = some none)
    (z_list : PySem.W.nsIn K mainGlobals "list" = some none)
    (z_max : PySem.W.nsIn K mainGlobals "max" = some none)
    (z_min : PySem.W.nsIn K mainGlobals "min" = some none)
    (z_range : PySem.W.nsIn K mainGlobals "range" = some none)
    (z_str : PySem.W.nsIn K mainGlobals "str" = some none)
    (z_tuple : PySem.W.nsIn K mainGlobals "tuple" = some none)
    (v_LONGEST_STINT : PySem.W.nsIn K mainGlobals "LONGEST_STINT" = some (some (.int 12 tk_LONGEST_STINT)))
    (v_MOST_PIECES : PySem.W.nsIn K mainGlobals "MOST_PIECES" = some (some (.int 4 tk_MOST_PIECES)))
    (v_MOST_LEVELS : PySem.W.nsIn K mainGlobals "MOST_LEVELS" = some (some (.int 8 tk_MOST_LEVELS)))
    (v_MOST_MACHINES : PySem.W.nsIn K mainGlobals "MOST_MACHINES" = some (some (.int 6 tk_MOST_MACHINES))) :
    ∃ fd : FuncData, (∀ (s : Shared) (v : Value), BindsTo s fd ⟨[v], []⟩ [("_law_script", v)]) ∧ ∀ base : Heap, K.In base → base.Ns mainGlobals mg → FnOk l.prog w K mg base CX0 9 fa fd ["_law_script"] (sp_law K) := by
  have e := hfa.symm.trans (PySem.W.mg_of X G a38)
  cases e
  have F0 := fun_mk (st := s__law_open) l0 c0 k0
  have b0 := F0.binds (ps := ["_law_script", "_law_place"]) fun _ _ _ _ _ _ us hl => match us, hl with | [_, _], _ => rfl
  have F1 := fun_mk (st := s__law_draw) l1 c1 k1
  have b1 := F1.binds (ps := ["_law_hand", "_law_many"]) fun _ _ _ _ _ _ us hl => match us, hl with | [_, _], _ => rfl
  have F2 := fun_mk (st := s__law_far) l2 c2 k2
  have b2 := F2.binds (ps := ["_law_hand", "_law_bound"]) fun _ _ _ _ _ _ us hl => match us, hl with | [_, _], _ => rfl
  have F3 := fun_mk (st := s__law_factor) l3 c3 k3
  have b3 := F3.binds (ps := ["_law_hand"]) fun _ _ _ _ _ _ us hl => match us, hl with | [_], _ => rfl
  have F4 := fun_mk (st := s_is_whole) l4 c4 k4
  have b4 := F4.binds (ps := ["thing"]) fun _ _ _ _ _ _ us hl => match us, hl with | [_], _ => rfl
  have F5 := fun_mk (st := s_is_amount) l5 c5 k5
  have b5 := F5.binds (ps := ["thing"]) fun _ _ _ _ _ _ us hl => match us, hl with | [_], _ => rfl
  have F6 := fun_mk (st := s_is_span) l6 c6 k6
  have b6 := F6.binds (ps := ["thing"]) fun _ _ _ _ _ _ us hl => match us, hl with | [_], _ => rfl
  have F7 := fun_mk (st := s_is_piece) l7 c7 k7
  have b7 := F7.binds (ps := ["thing"]) fun _ _ _ _ _ _ us hl => match us, hl with | [_], _ => rfl
  have F8 := fun_mk (st := s_are_pieces) l8 c8 k8
  have b8 := F8.binds (ps := ["thing"]) fun _ _ _ _ _ _ us hl => match us, hl with | [_], _ => rfl
  have F9 := fun_mk (st := s_Machine_init) l9 c9 k9
  have b9 := F9.binds (ps := ["self", "up", "down", "begin", "run", "rest", "least", "pieces"]) fun _ _ _ _ _ _ us hl => match us, hl with | [_, _, _, _, _, _, _, _], _ => rfl
  have F10 := fun_mk (st := s__law_spec) l10 c10 k10
  have b10 := F10.binds (ps := ["_law_hand", "_law_by", "_law_longest"]) fun _ _ _ _ _ _ us hl => match us, hl with | [_, _, _], _ => rfl
  have F11 := fun_mk (st := s__law_machine) l11 c11 k11
  have b11 := F11.binds (ps := ["_law_spec_here"]) fun _ _ _ _ _ _ us hl => match us, hl with | [_], _ => rfl
  have F12 := fun_mk (st := s__law_state) l12 c12 k12
  have b12 := F12.binds (ps := ["_law_hand", "_law_spec_here"]) fun _ _ _ _ _ _ us hl => match us, hl with | [_, _], _ => rfl
  have F13 := fun_mk (st := s__law_same) l13 c13 k13
  have b13 := F13.binds (ps := ["_law_one", "_law_due"]) fun _ _ _ _ _ _ us hl => match us, hl with | [_, _], _ => rfl
  have F14 := fun_mk (st := s_is_depth) l14 c14 k14
  have b14 := F14.binds (ps := ["thing"]) fun _ _ _ _ _ _ us hl => match us, hl with | [_], _ => rfl
  have F15 := fun_mk (st := s_Store_init) l15 c15 k15
  have b15 := F15.binds (ps := ["self", "cap", "into", "out", "takes", "gives"]) fun _ _ _ _ _ _ us hl => match us, hl with | [_, _, _, _, _, _], _ => rfl
  have F16 := fun_mk (st := s_are_machines) l16 c16 k16
  have b16 := F16.binds (ps := ["thing"]) fun _ _ _ _ _ _ us hl => match us, hl with | [_], _ => rfl
  have F17 := fun_mk (st := s_Works_init) l17 c17 k17
  have b17 := F17.binds (ps := ["self", "machines", "store", "lack"]) fun _ _ _ _ _ _ us hl => match us, hl with | [_, _, _, _], _ => rfl
  have F18 := fun_mk (st := s__law_want) l18 c18 k18
  have b18 := F18.binds (ps := ["_law_hand", "_law_by"]) fun _ _ _ _ _ _ us hl => match us, hl with | [_, _], _ => rfl
  have F19 := fun_mk (st := s__law_store) l19 c19 k19
  have b19 := F19.binds (ps := ["_law_hand", "_law_by"]) fun _ _ _ _ _ _ us hl => match us, hl with | [_, _], _ => rfl
  have F20 := fun_mk (st := s_Keeper_init) l20 c20 k20
  have b20 := F20.binds (ps := ["self", "works", "position"]) fun _ _ _ _ _ _ us hl => match us, hl with | [_, _, _], _ => rfl
  have F21 := fun_mk (st := s_Keeper_keep_deed) l21 c21 k21
  have b21 := F21.binds (ps := ["self"]) fun _ _ _ _ _ _ us hl => match us, hl with | [_], _ => rfl
  have F22 := fun_mk (st := s_Keeper_tell) l22 c22 k22
  have b22 := F22.binds (ps := ["self", "want"]) fun _ _ _ _ _ _ us hl => match us, hl with | [_, _], _ => rfl
  have F23 := fun_mk (st := s_Keeper_change) l23 c23 k23
  have b23 := F23.binds (ps := ["self", "at", "want"]) fun _ _ _ _ _ _ us hl => match us, hl with | [_, _, _], _ => rfl
  have F24 := fun_mk (st := s_Keeper_go) l24 c24 k24
  have b24 := F24.binds (ps := ["self"]) fun _ _ _ _ _ _ us hl => match us, hl with | [_], _ => rfl
  have F25 := fun_mk (st := s_Keeper_undo) l25 c25 k25
  have b25 := F25.binds (ps := ["self"]) fun _ _ _ _ _ _ us hl => match us, hl with | [_], _ => rfl
  have F26 := fun_mk (st := s_Keeper_waiting) l26 c26 k26
  have b26 := F26.binds (ps := ["self"]) fun _ _ _ _ _ _ us hl => match us, hl with | [_], _ => rfl
  have F27 := fun_mk (st := s_Keeper_gone) l27 c27 k27
  have b27 := F27.binds (ps := ["self"]) fun _ _ _ _ _ _ us hl => match us, hl with | [_], _ => rfl
  have F28 := fun_mk (st := s_Keeper_now) l28 c28 k28
  have b28 := F28.binds (ps := ["self"]) fun _ _ _ _ _ _ us hl => match us, hl with | [_], _ => rfl
  have F29 := fun_mk (st := s_Keeper_spent) l29 c29 k29
  have b29 := F29.binds (ps := ["self"]) fun _ _ _ _ _ _ us hl => match us, hl with | [_], _ => rfl
  have F30 := fun_mk (st := s__law_changed) l30 c30 k30
  have b30 := F30.binds (ps := ["_law_keeper", "_law_at", "_law_want_here"]) fun _ _ _ _ _ _ us hl => match us, hl with | [_, _, _], _ => rfl
  have F31 := fun_mk (st := s__law_gone) l31 c31 k31
  have b31 := F31.binds (ps := ["_law_keeper"]) fun _ _ _ _ _ _ us hl => match us, hl with | [_], _ => rfl
  have F32 := fun_mk (st := s__law_looks) l32 c32 k32
  have b32 := F32.binds (ps := ["_law_keeper", "_law_position_here", "_law_wants", "_law_first"]) fun _ _ _ _ _ _ us hl => match us, hl with | [_, _, _, _], _ => rfl
  have F33 := fun_mk (st := s__law_undone) l33 c33 k33
  have b33 := F33.binds (ps := ["_law_keeper", "_law_wants", "_law_past"]) fun _ _ _ _ _ _ us hl => match us, hl with | [_, _, _], _ => rfl
  have F34 := fun_mk (st := s__law_do) l34 c34 k34
  have b34 := F34.binds (ps := ["_law_hand", "_law_keeper", "_law_wants", "_law_past", "_law_by", "_law_most"]) fun _ _ _ _ _ _ us hl => match us, hl with | [_, _, _, _, _, _], _ => rfl
  have F35 := fun_mk (st := s__law_small) l35 c35 k35
  have b35 := F35.binds (ps := ["_law_hand"]) fun _ _ _ _ _ _ us hl => match us, hl with | [_], _ => rfl
  have F36 := fun_mk (st := s__law_works) l36 c36 k36
  have b36 := F36.binds (ps := ["_law_spec_here"]) fun _ _ _ _ _ _ us hl => match us, hl with | [_], _ => rfl
  have F37 := fun_mk (st := s__law_position) l37 c37 k37
  have b37 := F37.binds (ps := ["_law_hand", "_law_spec_here"]) fun _ _ _ _ _ _ us hl => match us, hl with | [_, _], _ => rfl
  have F38 := fun_mk (st := s_law) l38 c38 k38
  have b38 := F38.binds (ps := ["_law_script"]) fun _ _ _ _ _ _ us hl => match us, hl with | [_], _ => rfl
  have tx : Txt K mg { f__law_open := f0, d__law_open := _, f__law_draw := f1, d__law_draw := _, f__law_far := f2, d__law_far := _, f__law_factor := f3, d__law_factor := _, f_is_whole := f4, d_is_whole := _, f_is_amount := f5, d_is_amount := _, f_is_span := f6, d_is_span := _, f_is_piece := f7, d_is_piece := _, f_are_pieces := f8, d_are_pieces := _, f_Machine_init := f9, d_Machine_init := _, f__law_spec := f10, d__law_spec := _, f__law_machine := f11, d__law_machine := _, f__law_state := f12, d__law_state := _, f__law_same := f13, d__law_same := _, f_is_depth := f14, d_is_depth := _, f_Store_init := f15, d_Store_init := _, f_are_machines := f16, d_are_machines := _, f_Works_init := f17, d_Works_init := _, f__law_want := f18, d__law_want := _, f__law_store := f19, d__law_store := _, f_Keeper_init := f20, d_Keeper_init := _, f_Keeper_keep_deed := f21, d_Keeper_keep_deed := _, f_Keeper_tell := f22, d_Keeper_tell := _, f_Keeper_change := f23, d_Keeper_change := _, f_Keeper_go := f24, d_Keeper_go := _, f_Keeper_undo := f25, d_Keeper_undo := _, f_Keeper_waiting := f26, d_Keeper_waiting := _, f_Keeper_gone := f27, d_Keeper_gone := _, f_Keeper_now := f28, d_Keeper_now := _, f_Keeper_spent := f29, d_Keeper_spent := _, f__law_changed := f30, d__law_changed := _, f__law_gone := f31, d__law_gone := _, f__law_looks := f32, d__law_looks := _, f__law_undone := f33, d__law_undone := _, f__law_do := f34, d__law_do := _, f__law_small := f35, d__law_small := _, f__law_works := f36, d__law_works := _, f__law_position := f37, d__law_position := _, f_law := fa, d_law := _, c_Keeper := C0, c_Machine := C1, c_Store := C2, c_Works := C3, c_NoDeed := CE0, c_NoHour := CE1, c_NoText := CE2, c_NotNow := CE3, c_StintError := CE4, c_TooMany := CE5, c_Wrong := CE6 } := { F__law_open := F0, b__law_open := b0, g__law_open := PySem.W.mg_of X G a0, F__law_draw := F1, b__law_draw := b1, g__law_draw := PySem.W.mg_of X G a1, F__law_far := F2, b__law_far := b2, g__law_far := PySem.W.mg_of X G a2, F__law_factor := F3, b__law_factor := b3, g__law_factor := PySem.W.mg_of X G a3, F_is_whole := F4, b_is_whole := b4, g_is_whole := PySem.W.mg_of X G a4, F_is_amount := F5, b_is_amount := b5, g_is_amount := PySem.W.mg_of X G a5, F_is_span := F6, b_is_span := b6, g_is_span := PySem.W.mg_of X G a6, F_is_piece := F7, b_is_piece := b7, g_is_piece := PySem.W.mg_of X G a7, F_are_pieces := F8, b_are_pieces := b8, g_are_pieces := PySem.W.mg_of X G a8, F_Machine_init := F9, b_Machine_init := b9, F__law_spec := F10, b__law_spec := b10, g__law_spec := PySem.W.mg_of X G a10, F__law_machine := F11, b__law_machine := b11, g__law_machine := PySem.W.mg_of X G a11, F__law_state := F12, b__law_state := b12, g__law_state := PySem.W.mg_of X G a12, F__law_same := F13, b__law_same := b13, g__law_same := PySem.W.mg_of X G a13, F_is_depth := F14, b_is_depth := b14, g_is_depth := PySem.W.mg_of X G a14, F_Store_init := F15, b_Store_init := b15, F_are_machines := F16, b_are_machines := b16, g_are_machines := PySem.W.mg_of X G a16, F_Works_init := F17, b_Works_init := b17, F__law_want := F18, b__law_want := b18, g__law_want := PySem.W.mg_of X G a18, F__law_store := F19, b__law_store := b19, g__law_store := PySem.W.mg_of X G a19, F_Keeper_init := F20, b_Keeper_init := b20, F_Keeper_keep_deed := F21, b_Keeper_keep_deed := b21, F_Keeper_tell := F22, b_Keeper_tell := b22, F_Keeper_change := F23, b_Keeper_change := b23, F_Keeper_go := F24, b_Keeper_go := b24, F_Keeper_undo := F25, b_Keeper_undo := b25, F_Keeper_waiting := F26, b_Keeper_waiting := b26, F_Keeper_gone := F27, b_Keeper_gone := b27, F_Keeper_now := F28, b_Keeper_now := b28, F_Keeper_spent := F29, b_Keeper_spent := b29, F__law_changed := F30, b__law_changed := b30, g__law_changed := PySem.W.mg_of X G a30, F__law_gone := F31, b__law_gone := b31, g__law_gone := PySem.W.mg_of X G a31, F__law_looks := F32, b__law_looks := b32, g__law_looks := PySem.W.mg_of X G a32, F__law_undone := F33, b__law_undone := b33, g__law_undone := PySem.W.mg_of X G a33, F__law_do := F34, b__law_do := b34, g__law_do := PySem.W.mg_of X G a34, F__law_small := F35, b__law_small := b35, g__law_small := PySem.W.mg_of X G a35, F__law_works := F36, b__law_works := b36, g__law_works := PySem.W.mg_of X G a36, F__law_position := F37, b__law_position := b37, g__law_position := PySem.W.mg_of X G a37, F_law := F38, b_law := b38, g_law := PySem.W.mg_of X G a38, C_Keeper := ⟨pg0, hd0, po0, sa0⟩, g_Keeper := PySem.W.mg_of X G aC0, M_Keeper := ⟨mk0, a20, i20, kc0⟩, m_Keeper_keep_deed := ⟨a21, i21, k21⟩, m_Keeper_tell := ⟨a22, i22, k22⟩, m_Keeper_change := ⟨a23, i23, k23⟩, m_Keeper_go := ⟨a24, i24, k24⟩, m_Keeper_undo := ⟨a25, i25, k25⟩, m_Keeper_waiting := ⟨a26, i26, k26⟩, m_Keeper_gone := ⟨a27, i27, k27⟩, m_Keeper_now := ⟨a28, i28, k28⟩, m_Keeper_spent := ⟨a29, i29, k29⟩, n_Keeper_works := n0_works, n_Keeper_place := n0_place, n_Keeper_waits := n0_waits, n_Keeper_past := n0_past, n_Keeper_cost := n0_cost, n_Keeper_deeds := n0_deeds, C_Machine := ⟨pg1, hd1, po1, sa1⟩, g_Machine := PySem.W.mg_of X G aC1, M_Machine := ⟨mk1, a9, i9, kc1⟩, n_Machine_up := n1_up, n_Machine_down := n1_down, n_Machine_begin := n1_begin, n_Machine_run := n1_run, n_Machine_rest := n1_rest, n_Machine_least := n1_least, n_Machine_pieces := n1_pieces, i_Machine := ⟨ia1, in1, it1, im1⟩, C_Store := ⟨pg2, hd2, po2, sa2⟩, g_Store := PySem.W.mg_of X G aC2, M_Store := ⟨mk2, a15, i15, kc2⟩, n_Store_cap := n2_cap, n_Store_into := n2_into, n_Store_out := n2_out, n_Store_takes := n2_takes, n_Store_gives := n2_gives, i_Store := ⟨ia2, in2, it2, im2⟩, C_Works := ⟨pg3, hd3, po3, sa3⟩, g_Works := PySem.W.mg_of X G aC3, M_Works := ⟨mk3, a17, i17, kc3⟩, n_Works_machines := n3_machines, n_Works_store := n3_store, n_Works_lack := n3_lack, i_Works := ⟨ia3, in3, it3, im3⟩, g_NoDeed := PySem.W.mg_of X G aE0, Z_NoDeed := ⟨⟨Ega0, Egx0, Eex0⟩, Esa0, Eca0, Ecg0, Ect0, Emo0, Ehd0, Emm0, Emd0, Ekp0⟩, ex_NoDeed := Eno0, x_NoDeed_StintError := Ex0_StintError, x_NoDeed_NoHour := Ex0_NoHour, x_NoDeed_NoDeed := Ex0_NoDeed, k_NoDeed_NoHour := Ek0_NoHour, k_NoDeed_ValueError := Ek0_ValueError, k_NoDeed_Wrong := Ek0_Wrong, k_NoDeed_NotNow := Ek0_NotNow, k_NoDeed_TooMany := Ek0_TooMany, k_NoDeed_NoDeed := Ek0_NoDeed, k_NoDeed_NoText := Ek0_NoText, g_NoHour := PySem.W.mg_of X G aE1, Z_NoHour := ⟨⟨Ega1, Egx1, Eex1⟩, Esa1, Eca1, Ecg1, Ect1, Emo1, Ehd1, Emm1, Emd1, Ekp1⟩, ex_NoHour := Eno1, x_NoHour_StintError := Ex1_StintError, x_NoHour_NoHour := Ex1_NoHour, x_NoHour_NoDeed := Ex1_NoDeed, k_NoHour_NoHour := Ek1_NoHour, k_NoHour_ValueError := Ek1_ValueError, k_NoHour_Wrong := Ek1_Wrong, k_NoHour_NotNow := Ek1_NotNow, k_NoHour_TooMany := Ek1_TooMany, k_NoHour_NoDeed := Ek1_NoDeed, k_NoHour_NoText := Ek1_NoText, g_NoText := PySem.W.mg_of X G aE2, g_NotNow := PySem.W.mg_of X G aE3, g_StintError := PySem.W.mg_of X G aE4, g_TooMany := PySem.W.mg_of X G aE5, g_Wrong := PySem.W.mg_of X G aE6, z_ValueError := PySem.W.mg_none_of X G z_ValueError, z_abs := PySem.W.mg_none_of X G z_abs, z_all := PySem.W.mg_none_of X G z_all, z_bool := PySem.W.mg_none_of X G z_bool, z_enumerate := PySem.W.mg_none_of X G z_enumerate, z_int := PySem.W.mg_none_of X G z_int, z_isinstance := PySem.W.mg_none_of X G z_isinstance, z_len := PySem.W.mg_none_of X G z_len, z_list := PySem.W.mg_none_of X G z_list, z_max := PySem.W.mg_none_of X G z_max, z_min := PySem.W.mg_none_of X G z_min, z_range := PySem.W.mg_none_of X G z_range, z_str := PySem.W.mg_none_of X G z_str, z_tuple := PySem.W.mg_none_of X G z_tuple, v_LONGEST_STINT := ⟨_, PySem.W.mg_of X G v_LONGEST_STINT⟩, v_MOST_PIECES := ⟨_, PySem.W.mg_of X G v_MOST_PIECES⟩, v_MOST_LEVELS := ⟨_, PySem.W.mg_of X G v_MOST_LEVELS⟩, v_MOST_MACHINES := ⟨_, PySem.W.mg_of X G v_MOST_MACHINES⟩ }
  exact ⟨_, fun s v => .of_eq rfl, fun base _ _ => ok_law tx⟩
theorem walk {l : PySem.W.OpenLaw} {q : Program} {loose : List Str} {XP : (Str → Option Value) → Heap → Prop} {YP : World → Heap → Prop} {d : DefRec} {K : Params → PySem.W.Frag} (hn : l.most = some 63) (hdf : d.params.defaults = [])
    (hY : ∀ (w : World) (h : Heap), YP w h → (K w.params).In h)
    (F : ∀ (w : World) (mg : Str → Option Value) (fa : Addr) (h : Heap), (K w.params).In h → h.Ns mainGlobals mg → mg d.name = some (.ref fa) →
      ∃ fd : FuncData, (∀ (s : Shared) (u : Value), BindsTo s fd ⟨[u], []⟩ [("_law_script", u)]) ∧ ∀ base : Heap, (K w.params).In base → base.Ns mainGlobals mg → FnOk l.prog w (K w.params) mg base CX0 9 fa fd ["_law_script"] (sp_law (K w.params))) :
    PySem.W.WalkO q loose XP YP l.row.toRowW d [] (fun f vs => PySem.call f vs) :=
  L2.walk_of (n := 63) (k := 9) (x := "_law_script") (CX := fun _ => CX0) (sp := fun w => sp_law (K w.params)) hn (by decide) hdf ⟨rfl, by decide, by decide⟩ hY F (fun _ _ a ns hl _ hS => ⟨a, ns, rfl, hS, hl, fun _ => rfl⟩) fun _ _ _ _ _ z => z
end My
open PySem PySem.W PyProof.Rows
set_option maxRecDepth 100000 in
set_option maxHeartbeats 0 in
theorem PySem.Challenge.cw_stintwise_k91_wants_that_wait_holds : PySem.Challenge.rw_stintwise_k91_wants_that_wait.Holds := by
  w_on; o_law; k_head; (case hw => w_witness2)
  k_fill
  refine My.walk (l := PySem.Challenge.rw_stintwise_k91_wants_that_wait) rfl rfl (fun w h Y => PySem.W.km_in_of Y) ?F
  case F =>
    intro w mg fa h KX G hmg
    refine' My.all_mk KX G hmg ?aC0 ?aC1 ?aC2 ?aC3 ?aE0 ?aE1 ?aE2 ?aE3 ?aE4 ?aE5 ?aE6 ?a0 ?l0 ?c0 ?k0 ?a1 ?l1 ?c1 ?k1 ?a2 ?l2 ?c2 ?k2 ?a3 ?l3 ?c3 ?k3 ?a4 ?l4 ?c4 ?k4 ?a5 ?l5 ?c5 ?k5 ?a6 ?l6 ?c6 ?k6 ?a7 ?l7 ?c7 ?k7 ?a8 ?l8 ?c8 ?k8 ?a9 ?i9 ?l9 ?c9 ?k9 ?a10 ?l10 ?c10 ?k10 ?a11 ?l11 ?c11 ?k11 ?a12 ?l12 ?c12 ?k12 ?a13 ?l13 ?c13 ?k13 ?a14 ?l14 ?c14 ?k14 ?a15 ?i15 ?l15 ?c15 ?k15 ?a16 ?l16 ?c16 ?k16 ?a17 ?i17 ?l17 ?c17 ?k17 ?a18 ?l18 ?c18 ?k18 ?a19 ?l19 ?c19 ?k19 ?a20 ?i20 ?l20 ?c20 ?k20 ?a21 ?i21 ?l21 ?c21 ?k21 ?a22 ?i22 ?l22 ?c22 ?k22 ?a23 ?i23 ?l23 ?c23 ?k23 ?a24 ?i24 ?l24 ?c24 ?k24 ?a25 ?i25 ?l25 ?c25 ?k25 ?a26 ?i26 ?l26 ?c26 ?k26 ?a27 ?i27 ?l27 ?c27 ?k27 ?a28 ?i28 ?l28 ?c28 ?k28 ?a29 ?i29 ?l29 ?c29 ?k29 ?a30 ?l30 ?c30 ?k30 ?a31 ?l31 ?c31 ?k31 ?a32 ?l32 ?c32 ?k32 ?a33 ?l33 ?c33 ?k33 ?a34 ?l34 ?c34 ?k34 ?a35 ?l35 ?c35 ?k35 ?a36 ?l36 ?c36 ?k36 ?a37 ?l37 ?c37 ?k37 ?a38 ?l38 ?c38 ?k38 ?pg0 ?hd0 ?po0 ?sa0 ?mk0 ?kc0 ?n0_works ?n0_place ?n0_waits ?n0_past ?n0_cost ?n0_deeds ?pg1 ?hd1 ?po1 ?sa1 ?mk1 ?kc1 ?n1_up ?n1_down ?n1_begin ?n1_run ?n1_rest ?n1_least ?n1_pieces ?ia1 ?in1 ?it1 ?im1 ?pg2 ?hd2 ?po2 ?sa2 ?mk2 ?kc2 ?n2_cap ?n2_into ?n2_out ?n2_takes ?n2_gives ?ia2 ?in2 ?it2 ?im2 ?pg3 ?hd3 ?po3 ?sa3 ?mk3 ?kc3 ?n3_machines ?n3_store ?n3_lack ?ia3 ?in3 ?it3 ?im3 ?Ega0 ?Egx0 ?Eex0 ?Esa0 ?Eca0 ?Ecg0 ?Ect0 ?Emo0 ?Ehd0 ?Ekp0 ?Emm0 ?Emd0 ?Eno0 ?Ex0_StintError ?Ex0_NoHour ?Ex0_NoDeed ?Ek0_NoHour ?Ek0_ValueError ?Ek0_Wrong ?Ek0_NotNow ?Ek0_TooMany ?Ek0_NoDeed ?Ek0_NoText ?Ega1 ?Egx1 ?Eex1 ?Esa1 ?Eca1 ?Ecg1 ?Ect1 ?Emo1 ?Ehd1 ?Ekp1 ?Emm1 ?Emd1 ?Eno1 ?Ex1_StintError ?Ex1_NoHour ?Ex1_NoDeed ?Ek1_NoHour ?Ek1_ValueError ?Ek1_Wrong ?Ek1_NotNow ?Ek1_TooMany ?Ek1_NoDeed ?Ek1_NoText ?z_ValueError ?z_abs ?z_all ?z_bool ?z_enumerate ?z_int ?z_isinstance ?z_len ?z_list ?z_max ?z_min ?z_range ?z_str ?z_tuple ?v_LONGEST_STINT ?v_MOST_PIECES ?v_MOST_LEVELS ?v_MOST_MACHINES
    (case aC0 => k_is); (case aC1 => k_is); (case aC2 => k_is); (case aC3 => k_is); (case aE0 => k_is); (case aE1 => k_is); (case aE2 => k_is); (case aE3 => k_is)
    (case aE4 => k_is); (case aE5 => k_is); (case aE6 => k_is); (case a0 => k_is); (case l0 => k_is); (case c0 => k_is); (case k0 => k_is); (case a1 => k_is)
    (case l1 => k_is); (case c1 => k_is); (case k1 => k_is); (case a2 => k_is); (case l2 => k_is); (case c2 => k_is); (case k2 => k_is); (case a3 => k_is)
    (case l3 => k_is); (case c3 => k_is); (case k3 => k_is); (case a4 => k_is); (case l4 => k_is); (case c4 => k_is); (case k4 => k_is); (case a5 => k_is)
    (case l5 => k_is); (case c5 => k_is); (case k5 => k_is); (case a6 => k_is); (case l6 => k_is); (case c6 => k_is); (case k6 => k_is); (case a7 => k_is)
    (case l7 => k_is); (case c7 => k_is); (case k7 => k_is); (case a8 => k_is); (case l8 => k_is); (case c8 => k_is); (case k8 => k_is); (case a9 => k_is)
    (case i9 => k_is); (case l9 => k_is); (case c9 => k_is); (case k9 => k_is); (case a10 => k_is); (case l10 => k_is); (case c10 => k_is); (case k10 => k_is)
    (case a11 => k_is); (case l11 => k_is); (case c11 => k_is); (case k11 => k_is); (case a12 => k_is); (case l12 => k_is); (case c12 => k_is); (case k12 => k_is)
    (case a13 => k_is); (case l13 => k_is); (case c13 => k_is); (case k13 => k_is); (case a14 => k_is); (case l14 => k_is); (case c14 => k_is); (case k14 => k_is)
    (case a15 => k_is); (case i15 => k_is); (case l15 => k_is); (case c15 => k_is); (case k15 => k_is); (case a16 => k_is); (case l16 => k_is); (case c16 => k_is)
    (case k16 => k_is); (case a17 => k_is); (case i17 => k_is); (case l17 => k_is); (case c17 => k_is); (case k17 => k_is); (case a18 => k_is); (case l18 => k_is)
    (case c18 => k_is); (case k18 => k_is); (case a19 => k_is); (case l19 => k_is); (case c19 => k_is); (case k19 => k_is); (case a20 => k_is); (case i20 => k_is)
    (case l20 => k_is); (case c20 => k_is); (case k20 => k_is); (case a21 => k_is); (case i21 => k_is); (case l21 => k_is); (case c21 => k_is); (case k21 => k_is)
    (case a22 => k_is); (case i22 => k_is); (case l22 => k_is); (case c22 => k_is); (case k22 => k_is); (case a23 => k_is); (case i23 => k_is); (case l23 => k_is)
    (case c23 => k_is); (case k23 => k_is); (case a24 => k_is); (case i24 => k_is); (case l24 => k_is); (case c24 => k_is); (case k24 => k_is); (case a25 => k_is)
    (case i25 => k_is); (case l25 => k_is); (case c25 => k_is); (case k25 => k_is); (case a26 => k_is); (case i26 => k_is); (case l26 => k_is); (case c26 => k_is)
    (case k26 => k_is); (case a27 => k_is); (case i27 => k_is); (case l27 => k_is); (case c27 => k_is); (case k27 => k_is); (case a28 => k_is); (case i28 => k_is)
    (case l28 => k_is); (case c28 => k_is); (case k28 => k_is); (case a29 => k_is); (case i29 => k_is); (case l29 => k_is); (case c29 => k_is); (case k29 => k_is)
    (case a30 => k_is); (case l30 => k_is); (case c30 => k_is); (case k30 => k_is); (case a31 => k_is); (case l31 => k_is); (case c31 => k_is); (case k31 => k_is)
    (case a32 => k_is); (case l32 => k_is); (case c32 => k_is); (case k32 => k_is); (case a33 => k_is); (case l33 => k_is); (case c33 => k_is); (case k33 => k_is)
    (case a34 => k_is); (case l34 => k_is); (case c34 => k_is); (case k34 => k_is); (case a35 => k_is); (case l35 => k_is); (case c35 => k_is); (case k35 => k_is)
    (case a36 => k_is); (case l36 => k_is); (case c36 => k_is); (case k36 => k_is); (case a37 => k_is); (case l37 => k_is); (case c37 => k_is); (case k37 => k_is)
    (case a38 => k_is); (case l38 => k_is); (case c38 => k_is); (case k38 => k_is); (case pg0 => k_is); (case hd0 => k_is); (case po0 => k_is); (case sa0 => k_is)
    (case mk0 => k_is); (case kc0 => k_is); (case n0_works => k_is); (case n0_place => k_is); (case n0_waits => k_is); (case n0_past => k_is); (case n0_cost => k_is); (case n0_deeds => k_is)
    (case pg1 => k_is); (case hd1 => k_is); (case po1 => k_is); (case sa1 => k_is); (case mk1 => k_is); (case kc1 => k_is); (case n1_up => k_is); (case n1_down => k_is)
    (case n1_begin => k_is); (case n1_run => k_is); (case n1_rest => k_is); (case n1_least => k_is); (case n1_pieces => k_is); (case ia1 => k_is); (case in1 => k_is); (case it1 => k_is)
    (case im1 => k_is); (case pg2 => k_is); (case hd2 => k_is); (case po2 => k_is); (case sa2 => k_is); (case mk2 => k_is); (case kc2 => k_is); (case n2_cap => k_is)
    (case n2_into => k_is); (case n2_out => k_is); (case n2_takes => k_is); (case n2_gives => k_is); (case ia2 => k_is); (case in2 => k_is); (case it2 => k_is); (case im2 => k_is)
    (case pg3 => k_is); (case hd3 => k_is); (case po3 => k_is); (case sa3 => k_is); (case mk3 => k_is); (case kc3 => k_is); (case n3_machines => k_is); (case n3_store => k_is)
    (case n3_lack => k_is); (case ia3 => k_is); (case in3 => k_is); (case it3 => k_is); (case im3 => k_is); (case Ega0 => k_is); (case Egx0 => k_is); (case Eex0 => k_is)
    (case Esa0 => k_is); (case Eca0 => k_is); (case Ecg0 => k_is); (case Ect0 => k_is); (case Emo0 => k_is); (case Ehd0 => k_is); (case Ekp0 => k_is); (case Emm0 => kernel_rfl)
    (case Emd0 => kernel_rfl); (case Eno0 => kernel_rfl); (case Ex0_StintError => kernel_rfl); (case Ex0_NoHour => kernel_rfl); (case Ex0_NoDeed => kernel_rfl); (case Ek0_NoHour => kernel_rfl); (case Ek0_ValueError => kernel_rfl); (case Ek0_Wrong => kernel_rfl)
    (case Ek0_NotNow => kernel_rfl); (case Ek0_TooMany => kernel_rfl); (case Ek0_NoDeed => kernel_rfl); (case Ek0_NoText => kernel_rfl); (case Ega1 => k_is); (case Egx1 => k_is); (case Eex1 => k_is); (case Esa1 => k_is)
    (case Eca1 => k_is); (case Ecg1 => k_is); (case Ect1 => k_is); (case Emo1 => k_is); (case Ehd1 => k_is); (case Ekp1 => k_is); (case Emm1 => kernel_rfl); (case Emd1 => kernel_rfl)
    (case Eno1 => kernel_rfl); (case Ex1_StintError => kernel_rfl); (case Ex1_NoHour => kernel_rfl); (case Ex1_NoDeed => kernel_rfl); (case Ek1_NoHour => kernel_rfl); (case Ek1_ValueError => kernel_rfl); (case Ek1_Wrong => kernel_rfl); (case Ek1_NotNow => kernel_rfl)
    (case Ek1_TooMany => kernel_rfl); (case Ek1_NoDeed => kernel_rfl); (case Ek1_NoText => kernel_rfl); (case z_ValueError => k_is); (case z_abs => k_is); (case z_all => k_is); (case z_bool => k_is); (case z_enumerate => k_is)
    (case z_int => k_is); (case z_isinstance => k_is); (case z_len => k_is); (case z_list => k_is); (case z_max => k_is); (case z_min => k_is); (case z_range => k_is); (case z_str => k_is)
    (case z_tuple => k_is); (case v_LONGEST_STINT => k_is); (case v_MOST_PIECES => k_is); (case v_MOST_LEVELS => k_is); (case v_MOST_MACHINES => k_is)
