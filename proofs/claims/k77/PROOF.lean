import PyProof.Rows.All
import Wide.All
import OpenK.AllK
import Wide.FinOn
import Lean
import PyProof.EqAt
import PyProof.EqKinds
import PyProof.NeKinds
import PyProof.TupleCall
import KE.KDictSum
import KE.KSortTup
import KE.KLam
import KE.KNestM
import PyProof.DictItems
import PyProof.DictValues
import PyProof.Rows.TupDisplay
import PySem.Challenge.RW_stintwise_k77_bounds_bend_down
set_option Elab.async false
set_option linter.all false
set_option maxRecDepth 100000
namespace PySem.W.Fast
def tw1809628079619870590:=()
def tw9649049802661880426:=()
def tw12115736547344999518:=()
def tw13528099995986849503:=()
def tw3176210742474143471:=()
def tw8562545386282238177:=()
def tw1599043131540750836:=()
def tw13194709652230920814:=()
def tw7784270986824435824:=()
def tw9258256894564189691:=()
def tw9823844374095578139:=()
def tw2892055213181038702:=()
def tw9799431000568692905:=()
def tw13575271328254249388:=()
def tw5592276299474239345:=()
def tw3437996925063430931:=()
def tw1965865854005876936:=()
def tw1983510706051946387:=()
def tw5678313652940953865:=()
def tw500893975771706337:=()
def tw91710973960231955:=()
def tw18004717486296548179:=()
def tw1840324055224855827:=()
def tw14405058695498594584:=()
def tw14429621654875372062:=()
def tw6983647482375195241:=()
def tw7197949463929716898:=()
def tw7715419716002950870:=()
def tw3031231259760382064:=()
def tw11994188859727651424:=()
def tw7237174608503242471:=()
def tw5595560452137093221:=()
def tw12186592860374269559:=()
def tw9734338072599501006:=()
def tw17440071827602829851:=()
def tw5219352087578079296:=()
def tw10975906880342472057:=()
def tw2066453828493430113:=()
def tw11631576007477733215:=()
def tw11021692499701405712:=()
def tw11438958630226611974:=()
def tw6293641813395888355:=()
def tw16204040381003631952:=()
def tw10132705599806141192:=()
def tw2600931451444457836:=()
def tw10938517280034021356:=()
def tw3557657950726098074:=()
def tw643617787181474602:=()
def tw3548606628501612791:=()
def tw905687755970055823:=()
def tw2433490238393355130:=()
def tw11383196090184221090:=()
def tw8032639965847628144:=()
def tw15180545548067616171:=()
def tw1132519800233802403:=()
def tw10933684380241567383:=()
def tw3442857975129800253:=()
def tw15273109301414558200:=()
def tw17731665355771406158:=()
def tw13228975291449072727:=()
def tw1320186788248435547:=()
def tw2270987409058096101:=()
def tw6620529708022233909:=()
def tw177731189017031638:=()
def tw7702102044900192024:=()
def tw7975530995173877337:=()
def tw15303672997130297791:=()
def tw1578842080645267975:=()
def tw9284994241256077925:=()
def tw4925924790278784844:=()
def tw4633188561235226268:=()
def tw16035716892436861574:=()
def tw17122779612376353535:=()
def tw7608313365788127583:=()
def tw18248887120221849673:=()
def tw16682921138864929757:=()
def tw3382730219573993719:=()
def tw11752559853184306832:=()
def tw9584595286384815145:=()
def tw13079416744226881825:=()
def tw14185706287533647246:=()
def tw8754825065987442784:=()
def tw45710307671900158:=()
def tw12023912070803697329:=()
def tw2041569765228350121:=()
def tw14291833241036932283:=()
def tw3942736765765872736:=()
def tw7730768080450075793:=()
def tw11685085154034786190:=()
def tw13119088634915167111:=()
def tw15478585253361211857:=()
def tw5842527105485211502:=()
def tw12099832828880684931:=()
def tw2763575972221301445:=()
def tw5836738737241058072:=()
def tw8676398133610471443:=()
def tw11252068645185627561:=()
def tw7784991630309708745:=()
def tw15338393962371115483:=()
def tw5866635629360702093:=()
def tw11838105817109533368:=()
def tw13936951394851291754:=()
def tw1443995953790133482:=()
def tw7561883024081481871:=()
def tw15061714441970732297:=()
def tw4978474937906620744:=()
def tw5590983130324512853:=()
def tw4539287108439973387:=()
def tw1383489687180958641:=()
def tw15279366391386607436:=()
def tw705270515935848458:=()
def tw9944353453289290535:=()
def tw17916870911382189621:=()
def tw15281062502056556777:=()
def tw9128541316752347449:=()
def tw8305693859693865046:=()
def tw5564371971908924012:=()
def tw14051948634128818190:=()
def tw4160632048157062669:=()
def tw8432957920828620021:=()
def tw4179344895980529054:=()
def tw14888531172160651742:=()
def tw4778087106364995112:=()
def tw1860593002157008693:=()
def tw3649864323911256996:=()
def tw9648573270951739802:=()
def tw6099672108931230154:=()
def tw473485020509594751:=()
def tw10177749807764029345:=()
def tw1950490900807464685:=()
def tw2518135333863971827:=()
def tw5618742600025329454:=()
def tw14697200969830434040:=()
def tw9972634870952531655:=()
def tw17945609423307639829:=()
def tw6340097360972175042:=()
def tw17458947530650975735:=()
def tw6676781541141091076:=()
def tw3660783203601790342:=()
def tw15026068878052577811:=()
def tw5671165832866914676:=()
def tw14051832090989814828:=()
def tw11057975040852044962:=()
def tw10469580437362677604:=()
def tw9429447162795065164:=()
def tw4881335465379504045:=()
def tw1967672188995218396:=()
def tw9704914619405222708:=()
def tw6476679515808437551:=()
def tw10472265426558219976:=()
def tw7930613626049481983:=()
def tw17009494687766588377:=()
def tw169459404024863228:=()
def tw4975209447046933623:=()
def tw9914651814490855230:=()
def tw946980164645449998:=()
def tw2062717589304692164:=()
def tw5296299627065029471:=()
def tw15165482211204669242:=()
def tw3682463543039462103:=()
def tw13087990786921353686:=()
def tw5772688450915017938:=()
def tw9606390844782564052:=()
def tw6967761495808945799:=()
def tw10509268411475326164:=()
def tw3581725434931257986:=()
def tw3945653055612709425:=()
def tw2576428839457298004:=()
def tw5519762101716962886:=()
def tw12470078522993120827:=()
def tw13229162946442401605:=()
def tw3163867138386252471:=()
def tw6517848479018302560:=()
def tw18227464238742655865:=()
def tw8802255136574027942:=()
def tw12882110518860295846:=()
def tw17150506794159479314:=()
def tw16495323256226824298:=()
def tw7805365901839819478:=()
def tw1371584662593923871:=()
def tw7067554079856856059:=()
def tw6764847607975556161:=()
def tw11732493854410327676:=()
def tw13577136873913336315:=()
def tw1536737412311315600:=()
def tw6642859888291610029:=()
def tw8466711448703169880:=()
def tw13533214307735822137:=()
def tw9085233109963843288:=()
def tw17455906699549510027:=()
def tw12659010305417705309:=()
def tw90327268615464889:=()
def tw15802186742283314462:=()
def tw8696480834134185119:=()
def tw2188405824522088965:=()
def tw12725177165001162582:=()
def tw10229407445682499922:=()
def tw8640081060186863103:=()
def tw11710908289804783415:=()
def tw4392000924092052894:=()
def tw14993156767550907811:=()
def tw209717974186897740:=()
def tw11413332005580928775:=()
def tw6093530694584586104:=()
def tw12405668539525487062:=()
def tw17991955433648332902:=()
def tw12227098447639942940:=()
def tw9640093431754316557:=()
def tw7129134833294002528:=()
def tw40745676536228168:=()
def tw17073187509559906140:=()
def tw6903426279842333481:=()
def tw11475010989517467263:=()
def tw6482359843695819988:=()
def tw13715768074015472946:=()
def tw8968951994084406471:=()
def tw8018168428351065145:=()
def tw7685299594568472764:=()
def tw14805146068182800485:=()
def tw9145316358100082126:=()
def tw4862808094258510725:=()
def tw11907752885436430854:=()
def tw16363230238531783844:=()
def tw10908294597836384764:=()
def tw7612737822643800658:=()
def tw588516125492889329:=()
def tw2691845044915072497:=()
def tw15997715358112366636:=()
def tw2142215906126496584:=()
def tw8861627561049635902:=()
def tw8821271977135879088:=()
def tw11103381388403302611:=()
def tw4693887628702814623:=()
def tw1578830493617427086:=()
def tw7058398288318280920:=()
def tw3309864963213649072:=()
def tw13357586695239549784:=()
def tw16156542743852511983:=()
def tw1058023314780136499:=()
def tw9755000988254438680:=()
def tw9538765342091522155:=()
def tw13744146972903598575:=()
def tw7248092185601110844:=()
def tw6790621699890004597:=()
def tw11490686663670119935:=()
def tw7027363339409092223:=()
def tw3902991920508911774:=()
def tw12834360893172149499:=()
def tw12738403073069893200:=()
def tw11825525814499090967:=()
def tw11660741744987407302:=()
def tw696615869917474798:=()
def tw5854358241137811792:=()
def tw4425209239580599718:=()
def tw9807310809463112804:=()
def tw11452227008481157515:=()
def tw7852534217661687052:=()
def tw4495830162297713240:=()
def tw9690985284098457078:=()
def tw15378611378160699008:=()
def tw1403857472248264953:=()
def tw9776896528266857499:=()
def tw3759916244883850309:=()
def tw8132671338825566122:=()
def tw4987962111482482906:=()
def tw17556883479927162858:=()
def tw3173127009310163724:=()
def tw261424931945398442:=()
def tw9477560062549014174:=()
def tw3604960181104160708:=()
def tw17956598248834936605:=()
def tw10253880281936545806:=()
def tw9102437558437590849:=()
def tw17625560146392323091:=()
def tw11384796627042550642:=()
def tw10242087938057190704:=()
def tw9750474414995348461:=()
def tw11854887930823335484:=()
def tw9533924081026100414:=()
def tw3509688368424121383:=()
def tw14402981560225339373:=()
def tw520465919033397290:=()
def tw16854282095010341022:=()
def tw11726470416893343862:=()
def tw18283425368789000793:=()
def tw13973661010436677306:=()
def tw4170420628206197151:=()
def tw9834033406318379949:=()
def tw16503431378696119418:=()
def tw12312763033060686837:=()
def tw5142036317948316717:=()
def tw2444489677736835817:=()
def tw8938296223493815661:=()
def tw11174529765702543058:=()
def tw13410138987945844599:=()
def tw2557504249048119497:=()
def tw13364695081027449677:=()
def tw7339141704977511714:=()
def tw6545756045507962067:=()
def tw16443186207253091802:=()
end PySem.W.Fast
set_option maxHeartbeats 0
def fH:=@List.getElem?_eq_getElem
def bZ:=@List.length_map
def kS:=@PySem.Heap.get?_push_of_some
def uS:=@List.getElem?_eq_some_iff
def kU:=@List.size_toArray
def nK:=@List.getElem?_map
def fJ:=@Nat.le_refl
def Qh9:=@List.getD_eq_getElem?_getD
def vD:=@List.mem_of_getElem?
def xI:=@PySem.Heap.get?_push_size
def jU:=@PySem.Heap.lt_size
def xX:=@List.length_append
def yV:=@Nat.lt_of_lt_of_le
def Qn9:=@List.mem_cons_of_mem
def xY:=@List.map_append
def Qp9:=@Bool.false_ne_true
def Qq9:=@Int.mul_le_mul_of_nonneg_left
def Qr9:=@Option.map_eq_some_iff
def sR:=@List.mem_map
def xJ:=@List.mem_cons
def vE:=@Nat.ne_of_lt
def Qv9:=@List.mem_singleton
def Qw9:=@List.mem_append_right
def Qx9:=@List.getElem?_append_left
def Qy9:=@List.getElem?_append_right
def Qz9:=@List.mem_cons_self
def Ra9:=@List.length_cons
def Rb9:=@List.map_cons
def Rc9:=@List.take_length
def Rd9:=@List.mem_append
def Re9:=@List.length_take
def Rf9:=@List.lookup_cons
def Rg9:=@Array.length_toList
def Rh9:=@List.getElem?_of_mem
def Ri9:=@Int.mul_nonneg
def Rj9:=@List.length_singleton
def Rk9:=@List.map_map
def Rl9:=@Bool.and_eq_true
def Rm9:=@List.nodup_cons
def Rn9:=@Nat.le_trans
def Ro9:=@Int.toNat_natCast
def Rp9:=@List.getElem?_set_ne
def Rq9:=@Int.le_trans
def Rr9:=@Nat.zero_le
def Rs9:=@List.getElem?_eq_none
def Rt9:=@List.getElem_mem
def Ru9:=@List.getElem?_set_self
def Rv9:=@List.find?_cons
def Rw9:=@Nat.lt_irrefl
def Rx9:=@List.mem_range
def Ry9:=@PySem.Heap.size_push
def Rz9:=@List.length_set
def Sa9:=@List.mem_append_left
def Sb9:=@List.take_add_one
def Sc9:=@List.mem_of_find?_eq_some
def Sd9:=@List.append_nil
def Se9:=@Bool.false_eq_true
def Sf9:=@List.not_mem_nil
def Sg9:=@Nat.ne_of_gt
def Sh9:=@List.filterMap_cons
def Si9:=@List.replicate_succ
def Sj9:=@List.map_congr_left
def Sk9:=@List.length_pos_iff
def Sl9:=@List.zipWith_cons_cons
def Sm9:=@List.all_eq_true
def Sn9:=@PySem.Heap.get?_update_self
def So9:=@Int.emod_lt_of_pos
def Sp9:=@List.mem_or_eq_of_mem_set
def Sq9:=@List.mem_filter
def Sr9:=@List.sum_cons
def Ss9:=@List.any_eq_true
def St9:=@Bool.false_and
def Su9:=@Int.emod_nonneg
def Sv9:=@Nat.sub_self
def Sw9:=@Bool.true_and
def Sx9:=@List.pairwise_map
def Sy9:=@List.getElem_toArray
def Sz9:=@Array.getElem?_eq_getElem
def Ta9:=@Int.mul_one
def Tb9:=@List.getElem?_range
def Tc9:=@List.length_reverse
def Td9:=@Int.one_mul
def Te9:=@List.map_nil
def Tf9:=@List.getElem?_replicate
def Tg9:=@Int.eq_ofNat_of_zero_le
def Th9:=@PySem.Heap.get?_update_other
def Ti9:=@List.flatten_cons
def Tj9:=@Nat.lt_succ_of_lt
def Tk9:=@List.length_range
def Tl9:=@PySem.Heap.get?_push_ne
def Tm9:=@Int.mul_add
def Tn9:=@Nat.le_of_lt
def To9:=@Array.getElem?_toList
def Tp9:=@Nat.lt_succ_self
def Tq9:=@List.length_drop
def Tr9:=@PySem.Heap.size_update
def Ts9:=@Int.mul_assoc
def Tt9:=@List.of_mem_zip
def Tu9:=@List.length_nil
def Tv9:=@Int.le_refl
def Tw9:=@Int.add_mul
def Tx9:=@Nat.le_of_eq
def Ty9:=@List.map_set
namespace L2
open PySem PySem.Spec PyProof.Rows
abbrev Key:=Sum Int Str
def aD2:Key->Value->Bool
 |.inl k,v=>Value.isInt k v
 |.inr x,v=>Value.isStrOf x v
def aPP(w:World):Key->Int
 |.inl k=>hashInt k
 |.inr x=>hashStr w x
theorem eC:∀{k:Key}{v:Value},aD2 k v=true->(∃i t,k=Sum.inl i/\v=Value.int i t)\/(∃x t,k=Sum.inr x/\v=Value.str x t)
 |.inl i,v,h=>by
  obtain⟨t,e⟩:=Value.isInt_shape (k:=i) (v:=v) h
  exact .inl ⟨i,t,rfl,e⟩
 |.inr x,v,h=>by
  obtain⟨t,e⟩:=Value.isStrOf_shape (x:=x) (v:=v) h
  exact .inr ⟨x,t,rfl,e⟩
theorem aIF(i:Int)(t:Tok):aD2 (.inl i) (.int i t)=true:=by simp[aD2,Value.isInt]
theorem aIG(x:Str)(t:Tok):aD2 (.inr x) (.str x t)=true:=by simp[aD2,Value.isStrOf]
theorem aNj(a b:Int):decide ((Sum.inl a:Key)=Sum.inl b)=(a == b):=by
 by_cases e:a=b
 ·subst e;simp
 ·have h:¬(Sum.inl a:Key)=Sum.inl b:=λq=>e (Sum.inl.inj q)
  rw[decide_eq_false h]
  exact(beq_eq_false_iff_ne.mpr e).symm
theorem aNk(a b:Str):decide ((Sum.inr a:Key)=Sum.inr b)=decide (a=b):=by
 by_cases e:a=b
 ·subst e;simp
 ·have h:¬(Sum.inr a:Key)=Sum.inr b:=λq=>e (Sum.inr.inj q)
  rw[decide_eq_false h,decide_eq_false e]
theorem aNl(a:Int)(b:Str):decide ((Sum.inl a:Key)=Sum.inr b)=false:=decide_eq_false (λq=>nomatch q)
theorem aNm(a:Str)(b:Int):decide ((Sum.inr a:Key)=Sum.inl b)=false:=decide_eq_false (λq=>nomatch q)
def eE(prog:Program)(w:World):PySem.KeyKind prog w Key where
 is:=aD2
 hash:=aPP w
 inj:=λv a b ha hb=>by
  rcases eC ha with ⟨i,t,rfl,rfl⟩|⟨x,t,rfl,rfl⟩
  ·rcases eC hb with ⟨j,u,rfl,e⟩|⟨y,u,rfl,e⟩
   ·injection e with e1 _;rw[e1]
   ·exact nomatch e
  ·rcases eC hb with ⟨j,u,rfl,e⟩|⟨y,u,rfl,e⟩
   ·exact nomatch e
   ·injection e with e1 _;rw[e1]
 byValue:=λk v h=>by
  rcases eC h with ⟨i,t,rfl,rfl⟩|⟨x,t,rfl,rfl⟩ <;> rfl
 pyHash:=λhv h=>by
  rcases eC hv with ⟨i,t,rfl,rfl⟩|⟨x,t,rfl,rfl⟩
  ·exact wpAny_pyHash_int h
  ·exact wpAny_pyHash_str h
 eqBool:=λhu hv h=>by
  rcases eC hu with ⟨i,t,rfl,rfl⟩|⟨x,t,rfl,rfl⟩
  ·rcases eC hv with ⟨j,u,rfl,rfl⟩|⟨y,u,rfl,rfl⟩
   ·rw[aNj] at h;exact wpAny_eqBool_int h
   ·rw[aNl] at h;exact SeqAt.EqAt.int_str i t y u _ _ _ _ h
  ·rcases eC hv with ⟨j,u,rfl,rfl⟩|⟨y,u,rfl,rfl⟩
   ·rw[aNm] at h;exact SeqAt.EqAt.str_int x t j u _ _ _ _ h
   ·rw[aNk] at h;exact wpAny_eqBool_str h
 «strs»:=λk x t v h=>by
  rcases eC h with ⟨i,u,rfl,e⟩|⟨y,u,rfl,e⟩
  ·exact nomatch e
  ·injection e with e1 _
   subst e1
   cases v <;> rfl
theorem aFE(prog:Program)(w:World)(i:Int)(t:Tok):(eE prog w).is (.inl i) (.int i t)=true:=aIF i t
theorem aFF(prog:Program)(w:World)(x:Str)(t:Tok):(eE prog w).is (.inr x) (.str x t)=true:=aIG x t
end L2
namespace L2
open PySem PySem.Spec PyProof.Rows
inductive V where
 |non|bl (b:Bool)|int (i:Int)|str (x:Str)|byt (b:Array UInt8)|flt (b:UInt64)|ref (a:Addr)|ty (n:String)
 deriving DecidableEq
def RelV:V->Value->Prop
 |.non,u=>u=Value.none
 |.bl b,u=>u=Value.bool b
 |.int i,u=>∃t,u=Value.int i t
 |.str x,u=>∃t,u=Value.str x t
 |.byt b,u=>∃t,u=Value.bytes b t
 |.flt b,u=>∃t,u=Value.float b t
 |.ref a,u=>u=Value.ref a
 |.ty n,u=>u=Value.type n
abbrev Vals:List V->List Value->Prop:=Paired RelV
theorem Vals.length{xs:List V}{us:List Value}(r:Vals xs us):xs.length=us.length:=Paired.length r
theorem Vals.get:∀{xs:List V}{us:List Value}{i:Nat}{x:V},Vals xs us->xs[i]?=some x->∃u,us[i]?=some u/\RelV x u
 |_,_,_,_,.nil,e=>by simp at e
 |_,_,0,_,.cons r _,e=>by simp at e;subst e;exact⟨_,rfl,r⟩
 |_,_,i+1,x,.cons _ t,e=>by
  obtain⟨u,h1,h2⟩:=Vals.get (i:=i) (x:=x) t (by simpa using e)
  exact⟨u,by simpa using h1,h2⟩
theorem Vals.set(r:RelV x u):∀{xs:List V}{us:List Value}(i:Nat),Vals xs us->Vals (xs.set i x) (us.set i u)
 |_,_,_,.nil=>.nil
 |_,_,0,.cons _ t=>.cons r t
 |_,_,i+1,.cons q t=>.cons q (Vals.set r i t)
theorem Vals.append:∀{xs ys:List V}{us ws:List Value},Vals xs us->Vals ys ws->Vals (xs++ys) (us++ws)
 |_,_,_,_,.nil,s=>s
 |_,_,_,_,.cons r t,s=>.cons r (Vals.append t s)
theorem Vals.take:∀{xs:List V}{us:List Value}(n:Nat),Vals xs us->Vals (xs.take n) (us.take n)
 |_,_,0,_=>.nil
 |_,_,_+1,.nil=>.nil
 |_,_,n+1,.cons r t=>.cons r (Vals.take n t)
theorem Vals.drop:∀{xs:List V}{us:List Value}(n:Nat),Vals xs us->Vals (xs.drop n) (us.drop n)
 |_,_,0,r=>r
 |_,_,_+1,.nil=>.nil
 |_,_,n+1,.cons _ t=>Vals.drop n t
def vA:Option V->Option Value->Prop
 |some v,some u=>RelV v u
 |none,none=>True
 |_,_=>False
def KV{κ:Type}:List (κ×V)->List (κ×Value)->Prop:=Paired λ(p:κ×V) (q:κ×Value)=>p.1=q.1/\RelV p.2 q.2
def kV:Key->V
 |.inl i=>.int i
 |.inr x=>.str x
inductive HO where
 |lst (xs:List V)
 |tup (xs:List V)
 |dK (kvs:List (Key×V))|dT (kvs:List (List Key×V))
 |set (S:Int->Bool) (n:Nat)
 |ins (C dx:Addr) (fs:List (Str×V))
 |own (x:Addr)
 |xd (fs:List (Str×V))
 |met (f x:Addr)
 |rng (lo hi:Int)
 |frz (o:Obj) (u:HO)
 |tbl (ps:Array Value)
 |ext (φ:Heap->Prop)
 |cod (q:Str)|ctb (pos:Pos) (q:Str)
def Sty:HO->Prop
 |.tup _=>True
 |.cod _=>True
 |_=>False
abbrev Hp:=Addr->Option HO
def upd(H:Hp)(a:Addr)(o:HO):Hp:=λb=>if b=a then some o else H b
theorem aL:upd H a o a=some o:=by unfold upd;rw[if_pos rfl]
theorem aU{H:Hp}(h:b≠a):upd H a o b=H b:=by unfold upd;rw[if_neg h]
theorem jV:upd (upd H a o) a u=upd H a u:=by
 funext b;unfold upd;split <;> rfl
theorem aM5{H:Hp}{a b:Addr}{o u:HO}(h:H a=some o)(h':H b=some u)(d:o≠u):a≠b:=by
 intro e;subst e;rw[h] at h';exact d (Option.some.inj h')
theorem bI{H:Hp}{a b:Addr}{o:HO}(h:H a=some o)(h':H b=none):a≠b:=by
 intro e;subst e;rw[h] at h';cases h'
section
variable(P:Program)(w:World)
def bW(H:Hp)(h:Heap)(a:Addr):HO->Prop
 |.lst xs=>xs.length<=sizeLine/\∃(its:List Value) (n:Nat),Vals xs its/\h.get? a=some { cls:=.type "list",data:=.seq its.toArray n }
 |.tup xs=>xs.length<=sizeLine/\∃its:List Value,Vals xs its/\IsTup h a its.toArray
 |.dK kvs=>kvs.length<=sizeLine/\(a == sysModules)=false/\∃vs,KV kvs vs/\h.DictOf (eE P w) a vs
 |.dT kvs=>kvs.length<=sizeLine/\(a == sysModules)=false/\∃xs:List (List Key×Addr×Value),
   Paired (λ(p:List Key×V) (q:List Key×Addr×Value)=>p.1=q.1/\H q.2.1=some (.tup (p.1.map kV))/\RelV p.2 q.2.2) kvs xs/\
   ∃o es ep,h.get? a=some o/\o.ExactDict/\o.data=.dict es ep/\es.toList=xs.map (entryOfKey (tupleKind (eE P w)))/\(xs.map (·.1)).Nodup
 |.set S n=>h.SetOf (intKind P w) a S n
 |.ins C dx fs=>H dx=some (.own a)/\fs.length<=1000/\dx≠a/\h.get? a=some (PySem.W.instObj C dx)/\
   ∃mA,h.Ns1 dx mA/\(∀f,vA (fs.lookup f) (mA f))/\PySem.Within mA (fs.map (·.1))
 |.own _=>∃o,h.get? a=some o
 |.xd fs=>∃mA,h.Ns1 a mA/\∀f,vA (fs.lookup f) (mA f)
 |.rng lo hi=>∃t u v,h.get? a=some { cls:=.type "range",data:=.fields #[.int lo t,.int hi u,.int 1 v] }
 |.frz o u=>h.get? a=some o/\bW H h a u
 |.tbl ps=>h.get? a=some { cls:=.none,data:=.fields ps }
 |.met f x=>h.get? a=some (PySem.W.methodObj (.ref f) (.ref x))
 |.ext φ=>φ h/\(∃o,h.get? a=some o)/\∀h1 h2:Heap,φ h1->(∀o,h1.get? a=some o->h2.get? a=some o)->φ h2
 |.cod q=>∃o vs t,h.get? a=some o/\o.data=.fields vs/\vs[1]?=some (.str q t)
 |.ctb pos q=>∃ps:Array Value,h.get? a=some { cls:=.none,data:=.fields ps }/\TriplesOk ps.toList/\(codeAmong pos ps.toList=none\/∃c,codeAmong pos ps.toList=some (.ref c)/\H c=some (.cod q))
def vB(H:Hp)(h:Heap):Prop:=∀a o,H a=some o->bW P w H h a o
end
section
variable{P:Program}{w:World}{H H':Hp}{h h':Heap}{a:Addr}{o:HO}
theorem bW.lt(x:bW P w H h a o):a < h.objs.size:=by
 cases o with
 |lst xs=>obtain⟨_,_,_,_,e⟩:=x;exact jU e
 |tup xs=>obtain⟨_,_,_,p⟩:=x;exact p.lt
 |dK kvs=>obtain⟨_,_,_,_,o,_,_,e,_⟩:=x;exact jU e
 |dT kvs=>obtain⟨_,_,_,_,o,_,_,e,_⟩:=x;exact jU e
 |set S n=>obtain⟨o,_,_,_,e,_⟩:=x;exact jU e
 |ins C dx fs=>obtain⟨_,_,_,e,_⟩:=x;exact jU e
 |own y=>obtain⟨_,e⟩:=x;exact jU e
 |xd fs=>obtain⟨_,⟨_,_,_,e,_⟩,_⟩:=x;exact jU e
 |rng lo hi=>obtain⟨_,_,_,e⟩:=x;exact jU e
 |frz ob u=>obtain⟨e,_⟩:=x;exact jU e
 |tbl ps=>exact jU (show h.get? a=some _ from x)
 |met f y=>exact jU (show h.get? a=some _ from x)
 |ext φ=>obtain⟨_,⟨_,e⟩,_⟩:=x;exact jU e
 |cod q=>obtain⟨_,_,_,e,_⟩:=x;exact jU e
 |ctb pos q=>obtain⟨_,e,_⟩:=x;exact jU e
theorem Paired.aNn{α β:Type}{F G:α->β->Prop}:∀{l₁:List α}{l₂:List β},Paired F l₁ l₂->(∀a b,F a b->G a b)->Paired G l₁ l₂
 |_,_,.nil,_=>.nil
 |_,_,.cons r t,f=>.cons (f _ _ r) (Paired.aNn t f)
theorem bW.aCd(x:bW P w H h a o)(k:∀b u,(b=a\/H b=some (.own a))->h.get? b=some u->h'.get? b=some u)
  (ho:∀b,H b=some (.own a)->H' b=some (.own a)) (ht:∀b u,Sty u->H b=some u->H' b=some u):bW P w H' h' a o:=by
 induction o with
 |lst xs=>obtain⟨z,its,n,r,e⟩:=x;exact⟨z,its,n,r,k _ _ (.inl rfl) e⟩
 |tup xs=>obtain⟨z,its,r,ob,e,c⟩:=x;exact⟨z,its,r,ob,k _ _ (.inl rfl) e,c⟩
 |dK kvs=>obtain⟨z,y,vs,r,ob,es,ep,e,c⟩:=x;exact⟨z,y,vs,r,ob,es,ep,k _ _ (.inl rfl) e,c⟩
 |dT kvs=>
  obtain⟨z,y,xs,r,ob,es,ep,e,c⟩:=x
  exact⟨z,y,xs,Paired.aNn r λp q z=>⟨z.1,ht _ _ trivial z.2.1,z.2.2⟩,ob,es,ep,k _ _ (.inl rfl) e,c⟩
 |set S n=>obtain⟨ob,es,ep,t,e,c⟩:=x;exact⟨ob,es,ep,t,k _ _ (.inl rfl) e,c⟩
 |ins C dx fs=>
  obtain⟨d,z,ne,e,mA,⟨od,es,ep,e2,c⟩,r⟩:=x
  exact⟨ho _ d,z,ne,k _ _ (.inl rfl) e,mA,⟨od,es,ep,k _ _ (.inr d) e2,c⟩,r⟩
 |own y=>obtain⟨ob,e⟩:=x;exact⟨ob,k _ _ (.inl rfl) e⟩
 |xd fs=>obtain⟨mA,⟨od,es,ep,e,c⟩,r⟩:=x;exact⟨mA,⟨od,es,ep,k _ _ (.inl rfl) e,c⟩,r⟩
 |rng lo hi=>obtain⟨t,u,v,e⟩:=x;exact⟨t,u,v,k _ _ (.inl rfl) e⟩
 |frz ob u ih=>obtain⟨e,q⟩:=x;exact⟨k _ _ (.inl rfl) e,ih q⟩
 |tbl ps=>
  have e:h.get? a=some { cls:=.none,data:=.fields ps }:=x
  show h'.get? a=some { cls:=.none,data:=.fields ps }
  exact k a _ (.inl rfl) e
 |met f y=>
  have e:h.get? a=some (PySem.W.methodObj (.ref f) (.ref y)):=x
  show h'.get? a=some (PySem.W.methodObj (.ref f) (.ref y))
  exact k a _ (.inl rfl) e
 |ext φ=>obtain⟨p,⟨o,e⟩,st⟩:=x;exact⟨st _ _ p λo q=>k _ _ (.inl rfl) q,⟨o,k _ _ (.inl rfl) e⟩,st⟩
 |cod q=>obtain⟨o,vs,t,e,r⟩:=x;exact⟨o,vs,t,k _ _ (.inl rfl) e,r⟩
 |ctb pos q=>
  obtain⟨ps,e,t,c⟩:=x
  refine⟨ps,k _ _ (.inl rfl) e,t,?_⟩
  rcases c with c|⟨c,e1,e2⟩
  ·exact .inl c
  ·exact .inr ⟨c,e1,ht _ _ trivial e2⟩
theorem vB.lt(x:vB P w H h)(e:H a=some o):a < h.objs.size:=(x a o e).lt
theorem vB.fresh(x:vB P w H h)(e:h.objs.size<=a):H a=none:=by
 cases q:H a with
 |none=>rfl
 |some u=>exact absurd (yV (x.lt q) e) (Rw9 _)
theorem vB.kept(x:vB P w H h)(k:∀b u,h.get? b=some u->h'.get? b=some u):vB P w H h':=λa o e=>
 (x a o e).aCd (λb u _ q=>k b u q) (λ_ q=>q) λ_ _ _ q=>q
theorem vB.laid(x:vB P w H h)(k:∀b u,h.get? b=some u->h'.get? b=some u)(hp:h.objs.size<=a)(new:bW P w (upd H a o) h' a o):vB P w (upd H a o) h':=λb u e=>by
 have hn:=x.fresh hp
 by_cases hb:b=a
 ·subst hb;rw[aL] at e;cases e;exact new
 ·rw[aU hb] at e
  exact(x b u e).aCd (λc v _ q=>k c v q) (λc q=>by rw[aU (bI q hn)];exact q) λc xs _ q=>by rw[aU (bI q hn)];exact q
end
def Rd(H:Hp)(a:Addr)(u:HO):Prop:=H a=some u\/∃o,H a=some (.frz o u)
theorem Rd.of{H:Hp}{a:Addr}{u:HO}(h:H a=some u):Rd H a u:=.inl h
theorem Rd.ok(r:Rd H a u)(x:vB P w H h):bW P w H h a u:=by
 rcases r with r|⟨o,r⟩
 ·exact x a u r
 ·obtain⟨_,q⟩:=x a _ r
  exact q
def Mut:Option HO->Prop
 |some (.lst _)=>True
 |some (.dK _)=>True
 |some (.dT _)=>True
 |some (.set _ _)=>True
 |some (.ins _ _ _)=>True
 |some (.ext _)=>True
 |_=>False
section
variable{P:Program}{w:World}{H:Hp}{h h':Heap}{x e:Addr}{o':HO}
theorem vB.write(ok:vB P w H h)(mu:Mut (H x))(he:e=x\/H e=some (.own x))(k:∀b u,b≠e->h.get? b=some u->h'.get? b=some u)(heo:∃u,h'.get? e=some u)
  (new:bW P w (upd H x o') h' x o'):vB P w (upd H x o') h':=λb u q=>by
 have nown:∀c y,H c=some (.own y)->c≠x:=λc y r z=>by subst z;rw[r] at mu;exact mu
 have aJx:∀c u,Sty u->H c=some u->c≠x:=λc u y r z=>by
  subst z
  rw[r] at mu
  cases u <;> first|exact mu|exact y
 by_cases hb:b=x
 ·subst hb;rw[aL] at q;cases q;exact new
 ·rw[aU hb] at q
  by_cases hbe:b=e
  ·have q':H b=some (.own x):=by
    rcases he with z|z
    ·exact absurd (hbe.trans z) hb
    ·rw[hbe];exact z
   rw[q] at q';cases q'
   obtain⟨v,hv⟩:=heo
   exact⟨v,by rw[hbe];exact hv⟩
  ·refine(ok b u q).aCd (λc v hc r=>k c v ?_ r) (λc r=>by rw[aU (nown c b r)];exact r) λc xs y r=>by rw[aU (aJx c xs y r)];exact r
   rcases hc with rfl|hc
   ·exact hbe
   ·rintro rfl
    rcases he with z|z
    ·exact nown c b hc z
    ·rw[hc] at z;cases z;exact hb rfl
end
structure Un(fs ex:List Addr)(H H':Hp)(h h':Heap):Prop where
 keep:∀b o,h.get? b=some o->H b=none->b∉fs->b∉ex->h'.get? b=some o
 slot:∀b o,h.get? b=some o->H b=none->b∈fs->b∉ex->∃sl,h'.get? b=some { o with slots:=sl }
 free:∀b o,h.get? b=some o->H b=none->b∉ex->H' b=none
 there:∀b o,h.get? b=some o->b∉ex->∃o',h'.get? b=some o'
 vF:∀b xs,H b=some (.tup xs)->H' b=some (.tup xs)
 frzs:∀b o u,H b=some (.frz o u)->H' b=some (.frz o u)
 tbls:∀b ps,H b=some (.tbl ps)->∃more,H' b=some (.tbl (ps++more))
section
variable{fs fs' ex ex':List Addr}{H H1 H2:Hp}{h h1 h2 h':Heap}{a x e:Addr}{o:HO}
theorem Un.any(u:Un fs ex H H1 h h1)(q:h.get? b=some ob)(n:H b=none)(hx:b∉ex):∃sl,h1.get? b=some { ob with slots:=sl }:=by
 by_cases hb:b∈fs
 ·exact u.slot b ob q n hb hx
 ·exact⟨ob.slots,u.keep b ob q n hb hx⟩
theorem Un.trans(a:Un fs ex H H1 h h1)(b:Un fs ex H1 H2 h1 h2):Un fs ex H H2 h h2 where
 keep:=λc ob q n hc hx=>b.keep c ob (a.keep c ob q n hc hx) (a.free c ob q n hx) hc hx
 slot:=λc ob q n hc hx=>by
  obtain⟨sl,e1⟩:=a.slot c ob q n hc hx
  obtain⟨sl',e2⟩:=b.slot c _ e1 (a.free c ob q n hx) hc hx
  exact⟨sl',e2⟩
 free:=λc ob q n hx=>by
  obtain⟨o',e1⟩:=a.there c ob q hx
  exact b.free c o' e1 (a.free c ob q n hx) hx
 there:=λc ob q hx=>by
  obtain⟨o',e1⟩:=a.there c ob q hx
  exact b.there c o' e1 hx
 vF:=λc xs q=>b.vF c xs (a.vF c xs q)
 frzs:=λc ob xs q=>b.frzs c ob xs (a.frzs c ob xs q)
 tbls:=λc ps q=>by
  obtain⟨m1,e1⟩:=a.tbls c ps q
  obtain⟨m2,e2⟩:=b.tbls c _ e1
  exact⟨m1++m2,by rw[e2,Array.append_assoc]⟩
theorem Un.kept(k:∀b u,h.get? b=some u->h'.get? b=some u):Un fs ex H H h h':=
 ⟨λb ob q _ _ _=>k b ob q,λb ob q _ _ _=>⟨ob.slots,k b ob q⟩,λ_ _ _ n _=>n,λb ob q _=>⟨ob,k b ob q⟩,λ_ _ q=>q,λ_ _ _ q=>q,λ_ ps q=>⟨#[],by rw[q];simp⟩⟩
theorem Un.refl:Un fs ex H H h h:=Un.kept λ_ _ q=>q
theorem Un.laid(k:∀b u,h.get? b=some u->h'.get? b=some u)(hp:h.objs.size<=a)(hn:H a=none):Un fs ex H (upd H a o) h h' where
 keep:=λb u q _ _ _=>k b u q
 slot:=λb u q _ _ _=>⟨u.slots,k b u q⟩
 free:=λb u q n _=>by rw[aU (vE (yV (jU q) hp))];exact n
 there:=λb u q _=>⟨u,k b u q⟩
 vF:=λb xs q=>by rw[aU (bI q hn)];exact q
 frzs:=λb u xs q=>by rw[aU (bI q hn)];exact q
 tbls:=λb ps q=>⟨#[],by rw[aU (bI q hn),q];simp⟩
theorem Un.write(mu:Mut (H x))(he:e=x\/H e=some (.own x))(k:∀b u,b≠e->h.get? b=some u->h'.get? b=some u)(heo:∃u,h'.get? e=some u):Un fs ex H (upd H x o) h h':=by
 have hx:∀b,H b=none->b≠x:=λb n z=>by subst z;rw[n] at mu;exact mu
 have hb:∀b,H b=none->b≠e:=λb n z=>by
  subst z
  rcases he with r|r
  ·exact hx b n r
  ·rw[n] at r;cases r
 have hm:∀b u,H b=some u->¬Mut (some u)->b≠x:=λb u q nm z=>by subst z;rw[q] at mu;exact nm mu
 refine⟨λb u q n _ _=>k b u (hb b n) q,λb u q n _ _=>⟨u.slots,k b u (hb b n) q⟩,λb u q n _=>by rw[aU (hx b n)];exact n,λb u q _=>?_,
  λb xs q=>by rw[aU (hm b _ q λz=>z)];exact q,λb u xs q=>by rw[aU (hm b _ q λz=>z)];exact q,λb ps q=>⟨#[],by rw[aU (hm b _ q λz=>z),q];simp⟩⟩
 by_cases hbe:b=e
 ·subst hbe;exact heo
 ·exact⟨u,k b u hbe q⟩
end
def trk(h:Heap)(H:Hp):List Addr:=(List.range h.objs.size).filter λa=>(H a).isSome
def xZ(h:Heap)(H:Hp):Heap:=PySem.W.hideAll h (trk h H)
theorem aD3(h:Heap)(H:Hp):(xZ h H).objs.size=h.objs.size:=PySem.W.hideAll_size _ _
theorem aFG{h:Heap}(e:h.get? b=some o)(n:H b=none):(xZ h H).get? b=some o:=
 PySem.W.hideAll_get _ e λhm=>by
  have q:(H b).isSome=true:=(Sq9.mp hm).2
  rw[n] at q;simp at q
theorem aHW{h:Heap}{H:Hp}(e:(xZ h H).get? b=some o):h.get? b=some o/\H b=none:=by
 have e':h.get? b=some o:=PySem.W.of_hideAll (trk h H) e
 refine⟨e',?_⟩
 cases q:H b with
 |none=>rfl
 |some x=>
  have hm:b∈trk h H:=Sq9.mpr ⟨Rx9.mpr (jU e'),by simp[q]⟩
  have z:(xZ h H).get? b=none:=PySem.W.hideAll_none (trk h H) hm
  rw[z] at e;cases e
def aLx(g h:Heap)(L:Addr):List (Addr×Obj):=(List.range h.objs.size).filterMap λa=>if a=L\/(g.get? a).isSome=true then none else (h.get? a).map λo=>(a,o)
def rest(g h:Heap)(L d:Addr):List (Addr×Obj):=(aLx g h L).filter λp=>decide (p.1≠d)
end L2
namespace L2
open PySem PySem.Spec PyProof.Rows
structure Mod(K:W.Frag)(mg:Str->Option Value)(base:Heap):Prop where
 kin:K.In base
 glob:base.Ns mainGlobals mg
 blt:∃mb,base.Ns builtinsNs mb/\∀x:Str,x≠"__name__"->mb x=bootBuiltins x
 nolimit:base.NoLimit
 bm:∃bm o,mg "__builtins__" = some (.ref bm)/\bm≠builtinsNs/\base.get? bm=some o/\o.cls=.type "module"/\o.dict=some builtinsNs/\o.data=.plain
structure Cx where
 prog:Program
 w:World
 K:W.Frag
 mg:Str->Option Value
 base:Heap
 A:Around
 N:List Str
 s₀:Shared
 H₀:Hp
 env:Env
 outer:List Env
 stack:List Env
 ex:List Addr
 fn:Str->Bool
 calm:Bool
 pn:List (Addr×Obj)
 xe:Value->Shared->Prop
def frs(l:List Env):List Addr:=l.filterMap (·.frame)
abbrev Cx.fs(X:Cx):List Addr:=frs X.outer
def Vis(sc:Scope)(x:Str):Prop:=sc.names.lookup x=some .local\/sc.names.lookup x=some .cell\/sc.names.lookup x=some .free
def Loc(sc:Scope)(x:Str):Prop:=sc.names.lookup x=some .local\/sc.names.lookup x=some .cell
def Look(env:Env)(h:Heap)(m:Str->Option Value)(x:Str)(u:Value):Prop:=
 (env.kindOf x=some .local/\m x=some u)\/((env.kindOf x=some .cell\/env.kindOf x=some .free)/\∃c,env.cells.lookup x=some c/\h.IsCell c (some u))
structure Cx.Ok(X:Cx):Prop where
 mod:Mod X.K X.mg X.base
 kind:X.env.scope.kind=.function
 glob:X.env.globals=mainGlobals
 blt:X.env.builtins=builtinsNs
 above:X.s₀.heap.objs.size<=X.env.locals
 inj:∀x y c,X.env.cells.lookup x=some c->X.env.cells.lookup y=some c->x=y
 has:∀x,(X.env.kindOf x=some .cell\/X.env.kindOf x=some .free)->∃c,X.env.cells.lookup x=some c
 cab:∀x c,X.fn x=true->X.env.cells.lookup x=some c->X.s₀.heap.objs.size<=c
 hd:X.calm=true->X.A.handled=none
 frames:X.A.frames=some X.stack
 stk:X.stack=X.outer\/(X.stack=X.env::X.outer/\X.env.frame=some X.env.locals)
 exf:∀b∈X.ex,b≠X.env.locals/\∀x c,X.env.cells.lookup x=some c->c≠b
 bs:∀b o,X.base.get? b=some o->X.s₀.heap.get? b=some o/\X.H₀ b=none
 bsz:X.base.objs.size<=X.s₀.heap.objs.size
 noex:∀b o,X.base.get? b=some o->b∉X.ex
 exfs:∀b∈X.ex,b∉X.fs
 x8:X.s₀.heap.FunFrames X.base X.outer
 frf:∀b∈X.fs,X.H₀ b=none
structure Inv(X:Cx)(pins:List (Addr×Obj))(σ:List (Option V))(H:Hp)(s:Shared):Prop where
 ok:X.Ok
 os:s.os=X.s₀.os
 bare:AllBare s.gens
 base:Un X.fs X.ex X.H₀ H X.s₀.heap s.heap
 loc:∃m,s.heap.Ns X.env.locals m/\∀(i:Nat) (x:Str) (v:V),X.N[i]?=some x->σ[i]?=some (some v)->Vis X.env.scope x->∃u,RelV v u/\Look X.env s.heap m x u
 cell:∀x c,X.env.cells.lookup x=some c->∃v,s.heap.IsCell c v
 free:H X.env.locals=none
 freeC:∀x c,X.env.cells.lookup x=some c->H c=none
 pin:∀p∈X.pn++pins,s.heap.get? p.1=some p.2/\H p.1=none/\p.1≠X.env.locals/\p.1∉X.fs/\∀v,p.2.data≠.cell v
 hok:vB X.prog X.w H s.heap
 len:σ.length=X.N.length
section
variable{X:Cx}{pins:List (Addr×Obj)}{σ:List (Option V)}{H H':Hp}{s:Shared}{h':Heap}
theorem Cx.Ok.aPQ(ok:X.Ok)(e:X.base.get? b=some o):b∉X.fs:=λhb=>by
 have:=(ok.x8.mem hb).1
 rw[e] at this;cases this
theorem Inv.bs(I:Inv X pins σ H s):∀b o,X.base.get? b=some o->s.heap.get? b=some o/\H b=none:=λb o e=>
 ⟨I.base.keep b o (I.ok.bs b o e).1 (I.ok.bs b o e).2 (I.ok.aPQ e) (I.ok.noex b o e),I.base.free b o (I.ok.bs b o e).1 (I.ok.bs b o e).2 (I.ok.noex b o e)⟩
theorem Inv.bk(I:Inv X pins σ H s):∀b o,X.base.get? b=some o->s.heap.get? b=some o:=λb o e=>(I.bs b o e).1
theorem Inv.mod(I:Inv X pins σ H s):Mod X.K X.mg X.base:=I.ok.mod
theorem Inv.kIn(I:Inv X pins σ H s):X.K.In s.heap:=I.ok.mod.kin.keeps I.bk
theorem Inv.fr(I:Inv X pins σ H s):∃m,Fr X.base X.env.locals s.heap m:=
 let ⟨m,hn,_⟩:=I.loc
 ⟨m,hn,I.bk,Rn9 I.ok.bsz I.ok.above⟩
theorem Inv.lt(I:Inv X pins σ H s):X.env.locals < s.heap.objs.size:=let ⟨_,hn,_⟩:=I.loc;hn.lt
theorem Inv.sz(I:Inv X pins σ H s):X.s₀.heap.objs.size<=s.heap.objs.size:=Rn9 I.ok.above (Tn9 I.lt)
theorem Inv.aPR(I:Inv X pins σ H s)(h:s.heap.objs.size<=a):a∉X.fs:=λhb=>by
 obtain⟨_,o,ho,_⟩:=I.ok.x8.mem hb
 exact absurd (yV (jU ho) (Rn9 I.sz h)) (Rw9 _)
theorem Inv.cne(I:Inv X pins σ H s):∀x c,X.env.cells.lookup x=some c->c≠X.env.locals:=λx c e z=>by
 obtain⟨v,o,ho,hd⟩:=I.cell x c e
 obtain⟨m,⟨o',es,ep,ho',hd',_⟩,_⟩:=I.loc
 rw[z,ho'] at ho;cases ho;rw[hd'] at hd;cases hd
theorem Inv.x8(I:Inv X pins σ H s):s.heap.FunFrames X.base X.outer:=by
 have all:∀(l:List Env),(∀b∈frs l,b∈X.fs)->X.s₀.heap.FunFrames X.base l->s.heap.FunFrames X.base l:=by
  intro l
  induction l with
  |nil=>intro _ _;trivial
  |cons env r ih=>
   intro hs hl
   obtain⟨hk,⟨L,o,hf,hn,ho,hd⟩,hr⟩:=hl
   have hL:L∈X.fs:=hs L (by unfold frs;rw[Sh9,hf];exact Qz9)
   obtain⟨sl,e⟩:=I.base.slot L o ho (I.ok.frf L hL) hL λz=>I.ok.exfs L z hL
   exact⟨hk,⟨L,_,hf,hn,e,hd⟩,ih (λb hb=>hs b (by unfold frs;rw[Sh9,hf];exact Qn9 _ hb)) hr⟩
 exact all X.outer (λ_ hb=>hb) I.ok.x8
theorem Inv.stack(I:Inv X pins σ H s):s.heap.FunFrames X.base X.stack:=by
 rcases I.ok.stk with e|⟨e,hf⟩
 ·rw[e];exact I.x8
 ·rw[e]
  obtain⟨m,hn,_⟩:=I.loc
  refine .cons (by rw[I.ok.kind];decide) hf hn ?_ I.x8
  exact Heap.get?_none_of_le (Rn9 I.ok.bsz I.ok.above)
theorem Inv.aCe(I:Inv X pins σ H s):∀b∈frs X.stack,b∈X.env.locals::X.fs:=λb hb=>by
 rcases I.ok.stk with e|⟨e,hf⟩
 ·rw[e] at hb;exact Qn9 _ hb
 ·rw[e] at hb
  unfold frs at hb
  rw[Sh9,hf] at hb
  exact hb
theorem Inv.aEy(I:Inv X pins σ H s):∀b∈frs X.stack,H b=none:=λb hb=>by
 rcases xJ.mp (I.aCe b hb) with e|hb
 ·rw[e];exact I.free
 ·obtain⟨_,o,ho,_⟩:=I.ok.x8.mem hb
  exact I.base.free b o ho (I.ok.frf b hb) λz=>I.ok.exfs b z hb
theorem Inv.step{g':Array GenState}{t':Nat}{d':Drawn}{ch:List Addr}(I:Inv X pins σ H s)
  (hch:∀b∈ch,(b∈X.ex\/X.s₀.heap.objs.size<=b)/\b≠X.env.locals/\(∀x c,X.env.cells.lookup x=some c->c≠b)/\∀p∈X.pn++pins,p.1≠b)
  (keep:∀b o,b≠X.env.locals->b∉X.fs->b∉ch->s.heap.get? b=some o->H b=none->h'.get? b=some o)
  (slot:∀b o,b≠X.env.locals->b∈X.fs->b∉ch->s.heap.get? b=some o->H b=none->∃sl,h'.get? b=some { o with slots:=sl }) (free:∀b o,b∉ch->s.heap.get? b=some o->H b=none->H' b=none)
  (there:∀b o,b∉ch->s.heap.get? b=some o->∃o',h'.get? b=some o')
  (vF:∀b xs,H b=some (.tup xs)->H' b=some (.tup xs)) (frzs:∀b o u,H b=some (.frz o u)->H' b=some (.frz o u)) (tbls:∀b ps,H b=some (.tbl ps)->∃more,H' b=some (.tbl (ps++more)))
  (ns:∀m,s.heap.Ns X.env.locals m->h'.Ns X.env.locals m) (hok:vB X.prog X.w H' h') (hg:AllBare g') :
  Inv X pins σ H' { s with heap:=h',gens:=g',drawn:=d',toks:=t' }:=by
 have neL:∀b o,X.s₀.heap.get? b=some o->b≠X.env.locals:=λb o e=>vE (yV (jU e) I.ok.above)
 have neC:∀b o,X.s₀.heap.get? b=some o->b∉X.ex->b∉ch:=λb o e hx hb=>by
  rcases(hch b hb).1 with z|z
  ·exact hx z
  ·exact absurd (yV (jU e) z) (Rw9 _)
 have cellK:∀x c,X.env.cells.lookup x=some c->∀v,s.heap.IsCell c v->h'.IsCell c v:=λx c e v ⟨o,ho,hd⟩=>by
  have nch:c∉ch:=λz=>(hch c z).2.2.1 x c e rfl
  by_cases hc:c∈X.fs
  ·obtain⟨sl,q⟩:=slot c o (I.cne x c e) hc nch ho (I.freeC x c e)
   exact⟨_,q,hd⟩
  ·exact⟨o,keep c o (I.cne x c e) hc nch ho (I.freeC x c e),hd⟩
 refine⟨I.ok,I.os,hg,⟨λb o e n hb hx=>?_,λb o e n hb hx=>?_,λb o e n hx=>?_,λb o e hx=>?_,λb xs e=>vF b xs (I.base.vF b xs e),λb o xs e=>frzs b o xs (I.base.frzs b o xs e),λb ps e=>?_⟩,?_,λx c e=>?_,?_,λx c e=>?_,λp hp=>?_,hok,I.len⟩
 ·exact keep b o (neL b o e) hb (neC b o e hx) (I.base.keep b o e n hb hx) (I.base.free b o e n hx)
 ·obtain⟨sl,e1⟩:=I.base.slot b o e n hb hx
  obtain⟨sl',e2⟩:=slot b _ (neL b o e) hb (neC b o e hx) e1 (I.base.free b o e n hx)
  exact⟨sl',e2⟩
 ·obtain⟨o',e1⟩:=I.base.there b o e hx
  exact free b o' (neC b o e hx) e1 (I.base.free b o e n hx)
 ·obtain⟨o',e1⟩:=I.base.there b o e hx
  exact there b o' (neC b o e hx) e1
 ·obtain⟨m1,e1⟩:=I.base.tbls b ps e
  obtain⟨m2,e2⟩:=tbls b _ e1
  exact⟨m1++m2,by rw[e2,Array.append_assoc]⟩
 ·obtain⟨m,hn,hl⟩:=I.loc
  refine⟨m,ns m hn,λi x v e1 e2 e3=>?_⟩
  obtain⟨u,r,l⟩:=hl i x v e1 e2 e3
  refine⟨u,r,?_⟩
  rcases l with l|⟨k,c,e,z⟩
  ·exact .inl l
  ·exact .inr ⟨k,c,e,cellK x c e _ z⟩
 ·obtain⟨v,z⟩:=I.cell x c e
  exact⟨v,cellK x c e v z⟩
 ·obtain⟨m,⟨o,_,_,ho,_⟩,_⟩:=I.loc
  exact free _ o (λz=>(hch _ z).2.1 rfl) ho I.free
 ·obtain⟨v,o,ho,hd⟩:=I.cell x c e
  exact free c o (λz=>(hch c z).2.2.1 x c e rfl) ho (I.freeC x c e)
 ·obtain⟨e,n,ne,nf,d⟩:=I.pin p hp
  have nch:p.1∉ch:=λz=>(hch p.1 z).2.2.2 p hp rfl
  exact⟨keep p.1 p.2 ne nf nch e n,free p.1 p.2 nch e n,ne,nf,d⟩
theorem Inv.un{t':Nat}(I:Inv X pins σ H s)(u:Un X.fs [] H H' s.heap h')(hok:vB X.prog X.w H' h'):Inv X pins σ H' { s with heap:=h',toks:=t' }:=by
 obtain⟨m,⟨o,es,ep,ho,r⟩,_⟩:=id I.loc
 obtain⟨sl,hL⟩:=u.any ho I.free (by simp)
 exact I.step (g':=s.gens) (d':=s.drawn) (ch:=[]) (λ_ z=>nomatch z) (λb o _ hb _ e n=>u.keep b o e n hb (by simp)) (λb o _ hb _ e n=>u.slot b o e n hb (by simp)) (λb o _ e n=>u.free b o e n (by simp)) (λb o _ e=>u.there b o e (by simp)) u.vF u.frzs u.tbls (λm' hm=>by
  obtain⟨o',es',ep',ho',r'⟩:=hm
  rw[ho] at ho';cases ho'
  exact⟨_,es',ep',hL,r'⟩) hok I.bare
theorem Inv.call{t':Nat}{d':Drawn}(I:Inv X pins σ H s)(u:Un (frs X.stack) ch H H' s.heap h')(hok:vB X.prog X.w H' h')(hg:AllBare g')(hch:∀b∈ch,(b∈X.ex\/X.s₀.heap.objs.size<=b)/\b≠X.env.locals/\(∀x c,X.env.cells.lookup x=some c->c≠b)/\∀p∈X.pn++pins,p.1≠b) :
  Inv X pins σ H' { s with heap:=h',gens:=g',drawn:=d',toks:=t' }:=by
 obtain⟨m,⟨o,es,ep,ho,r⟩,_⟩:=id I.loc
 obtain⟨sl,hL⟩:=u.any ho I.free λz=>(hch _ z).2.1 rfl
 exact I.step (ch:=ch) hch (λb o hL hb hc e n=>u.keep b o e n (λz=>(xJ.mp (I.aCe b z)).elim hL hb) hc) (λb o _ _ hc e n=>u.any e n hc) (λb o hc e n=>u.free b o e n hc) (λb o hc e=>u.there b o e hc) u.vF u.frzs u.tbls (λm' hm=>by
  obtain⟨o',es',ep',ho',r'⟩:=hm
  rw[ho] at ho';cases ho'
  exact⟨_,es',ep',hL,r'⟩) hok hg
theorem Inv.turned{t':Nat}{it:Addr}(I:Inv X pins σ H s)(k:∀b o,b≠it->s.heap.get? b=some o->h'.get? b=some o)(hn:H it=none)(hL:it≠X.env.locals)
  (h1:it∈X.ex\/X.s₀.heap.objs.size<=it) (h2:∀x c,X.env.cells.lookup x=some c->c≠it) (h3:∀p∈X.pn++pins,p.1≠it):Inv X pins σ H { s with heap:=h',toks:=t' }:=by
 have nit:∀b u,H b=some u->b≠it:=λb u e z=>by rw[z,hn] at e;cases e
 refine I.step (g':=s.gens) (d':=s.drawn) (ch:=[it]) (λb hb=>?_) (λb o _ _ hc e _=>k b o (λz=>hc (by simp[z])) e) (λb o _ _ hc e _=>⟨o.slots,k b o (λz=>hc (by simp[z])) e⟩) (λ_ _ _ _ n=>n)
  (λb o hc e=>⟨o,k b o (λz=>hc (by simp[z])) e⟩) (λ_ _ e=>e) (λ_ _ _ e=>e) (λb ps e=>⟨#[],by rw[e];simp⟩) (λm hm=>?_) (λb u e=>?_) I.bare
 ·have e:b=it:=by simpa using hb
  subst e
  exact⟨h1,hL,h2,h3⟩
 ·obtain⟨o,es,ep,ho,r⟩:=hm
  exact⟨o,es,ep,k _ o (Ne.symm hL) ho,r⟩
 ·refine(I.hok b u e).aCd (λc v hc q=>k c v ?_ q) (λ_ q=>q) λ_ _ _ q=>q
  rcases hc with z|z
  ·rw[z];exact nit b u e
  ·exact nit c _ z
theorem Inv.tok(I:Inv X pins σ H s)(t:Nat):Inv X pins σ H { s with toks:=t }:=I.un (h':=s.heap) (t':=t) Un.refl I.hok
theorem Inv.kept{t':Nat}(I:Inv X pins σ H s)(k:∀b u,s.heap.get? b=some u->h'.get? b=some u):Inv X pins σ H { s with heap:=h',toks:=t' }:=I.un (Un.kept k) (I.hok.kept k)
theorem Inv.laid{t':Nat}(I:Inv X pins σ H s)(k:∀b u,s.heap.get? b=some u->h'.get? b=some u)(hp:s.heap.objs.size<=a)(new:bW X.prog X.w (upd H a o) h' a o) :
  Inv X pins σ (upd H a o) { s with heap:=h',toks:=t' }:=I.un (Un.laid k hp (I.hok.fresh hp)) (I.hok.laid k hp new)
theorem Inv.write{t':Nat}(I:Inv X pins σ H s)(mu:Mut (H x))(he:e=x\/H e=some (.own x))(k:∀b u,b≠e->s.heap.get? b=some u->h'.get? b=some u)(heo:∃u,h'.get? e=some u)(new:bW X.prog X.w (upd H x o) h' x o):Inv X pins σ (upd H x o) { s with heap:=h',toks:=t' }:=I.un (Un.write mu he k heo) (I.hok.write mu he k heo new)
theorem Inv.weak{σ':List (Option V)}(I:Inv X pins σ H s)(hl:σ'.length=σ.length)(w:∀(i:Nat) v,σ'[i]?=some (some v)->σ[i]?=some (some v)):Inv X pins σ' H s:=
 ⟨I.ok,I.os,I.bare,I.base,let ⟨m,hn,hl'⟩:=I.loc;⟨m,hn,λi x v e1 e2 e3=>hl' i x v e1 (w i v e2) e3⟩,I.cell,I.free,I.freeC,I.pin,I.hok,hl.trans I.len⟩
theorem Inv.aB4(I:Inv X pins σ H s)(h:∀p∈pins',s.heap.get? p.1=some p.2/\H p.1=none/\p.1≠X.env.locals/\p.1∉X.fs/\∀v,p.2.data≠.cell v):Inv X pins' σ H s:=
 ⟨I.ok,I.os,I.bare,I.base,I.loc,I.cell,I.free,I.freeC,λp hp=>(Rd9.mp hp).elim (λz=>I.pin p (Sa9 _ z)) (h p),I.hok,I.len⟩
theorem aFH{N:List Str}(hN:N.Nodup){i j:Nat}(a:N[i]?=some x)(b:N[j]?=some x):i=j:=by
 obtain⟨h1,e1⟩:=uS.mp a
 obtain⟨h2,e2⟩:=uS.mp b
 exact(List.getElem_inj hN).mp (e1.trans e2.symm)
theorem aD4{E:Value->Shared->Prop}{i:Nat}{Q:Unit->Shared->Prop}(I:Inv X pins σ H s)(hN:X.N.Nodup)(hi:X.N[i]?=some x)(hx:Loc X.env.scope x)(r:RelV v u)(h:∀s',Inv X pins (σ.set i (some v)) H s'->(∃a,Heap.SameBut a s.heap s'.heap/\(a=X.env.locals\/X.env.cells.lookup x=some a))->Q () s')(hf:X.fn x=true\/X.env.scope.names.lookup x=some .local:=by first|exact .inl rfl|exact .inr rfl|assumption):wpAny M A (storeName X.env x u) Q E s:=by
 obtain⟨m,hn,hl⟩:=id I.loc
 have hcls:(X.env.scope.kind == .class || (X.env.scope.kind == .module && X.env.locals != X.env.globals))=false:=by rw[I.ok.kind];rfl
 have hiσ:i < σ.length:=by rw[I.len];exact(uS.mp hi).1
 have cne:=I.cne
 have tracked:∀{a:Addr} {h':Heap},(∃o,s.heap.get? a=some o/\H a=none)->Heap.SameBut a s.heap h'->vB X.prog X.w H h':=λ{a h'} ha hs b ob e=>by
  obtain⟨_,_,hfree⟩:=ha
  refine(I.hok b ob e).aCd (λc w' hc q=>(hs.2 c ?_).trans q) (λ_ q=>q) λ_ _ _ q=>q
  rintro rfl
  rcases hc with rfl|hc
  ·rw[hfree] at e;cases e
  ·rw[hfree] at hc;cases hc
 rcases hx with hk|hk
 ·refine wpAny_storeName_local hk hn (λh' hn' hs=>?_) hcls
  obtain⟨oL,_,_,hoL,_⟩:=id hn
  refine h _ ⟨I.ok,I.os,I.bare,⟨λb o e n hb hx=>?_,λb o e n hb hx=>?_,I.base.free,λb o e hx=>?_,I.base.vF,I.base.frzs,I.base.tbls⟩,⟨_,hn',λj y v' e1 e2 e3=>?_⟩,λy c e=>?_,I.free,I.freeC,λp hp=>?_,tracked ⟨oL,hoL,I.free⟩ hs,by simpa using I.len⟩ ⟨_,hs,.inl rfl⟩
  ·exact(hs.2 b (vE (yV (jU e) I.ok.above))).trans (I.base.keep b o e n hb hx)
  ·obtain⟨sl,e1⟩:=I.base.slot b o e n hb hx
   exact⟨sl,(hs.2 b (vE (yV (jU e) I.ok.above))).trans e1⟩
  ·obtain⟨o',e1⟩:=I.base.there b o e hx
   exact⟨o',(hs.2 b (vE (yV (jU e) I.ok.above))).trans e1⟩
  ·by_cases hj:j=i
   ·subst hj
    rw[hi] at e1;cases e1
    rw[Ru9 hiσ] at e2
    cases e2
    exact⟨u,r,.inl ⟨hk,by simp⟩⟩
   ·rw[Rp9 (Ne.symm hj)] at e2
    obtain⟨u',r',q⟩:=hl j y v' e1 e2 e3
    refine⟨u',r',?_⟩
    rcases q with ⟨k,e⟩|⟨k,c,e,z⟩
    ·refine .inl ⟨k,?_⟩
     have:y≠x:=λe=>hj (aFH hN e1 (e▸hi))
     simp[this,e]
    ·exact .inr ⟨k,c,e,z.sameBut hs (cne y c e)⟩
  ·obtain⟨w',z⟩:=I.cell y c e
   exact⟨w',z.sameBut hs (cne y c e)⟩
  ·obtain⟨e,n,ne,nf,d⟩:=I.pin p hp
   exact⟨(hs.2 p.1 ne).trans e,n,ne,nf,d⟩
 ·have hfn:X.fn x=true:=by
   rcases hf with z|z
   ·exact z
   ·rw[z] at hk;cases hk
  obtain⟨c,hc⟩:=I.ok.has x (.inl hk)
  obtain⟨w',z⟩:=I.cell x c hc
  refine wpAny_storeName_cell I.ok.kind hk hc z (λh' hc' hs=>?_)
  obtain⟨oc,hoc,hocd⟩:=id z
  refine h { s with heap:=h' } ⟨I.ok,I.os,I.bare,⟨λb o e n hb hx=>?_,λb o e n hb hx=>?_,I.base.free,λb o e hx=>?_,I.base.vF,I.base.frzs,I.base.tbls⟩,⟨m,hn.sameBut hs (Ne.symm (cne x c hc)),λj y v' e1 e2 e3=>?_⟩,λy c' e=>?_,I.free,I.freeC,λp hp=>?_,tracked ⟨oc,hoc,I.freeC x c hc⟩ hs,by simpa using I.len⟩ ⟨c,hs,.inr hc⟩
  ·exact(hs.2 b (vE (yV (jU e) (I.ok.cab x c hfn hc)))).trans (I.base.keep b o e n hb hx)
  ·obtain⟨sl,e1⟩:=I.base.slot b o e n hb hx
   exact⟨sl,(hs.2 b (vE (yV (jU e) (I.ok.cab x c hfn hc)))).trans e1⟩
  ·obtain⟨o',e1⟩:=I.base.there b o e hx
   exact⟨o',(hs.2 b (vE (yV (jU e) (I.ok.cab x c hfn hc)))).trans e1⟩
  ·by_cases hj:j=i
   ·subst hj
    rw[hi] at e1;cases e1
    rw[Ru9 hiσ] at e2
    cases e2
    exact⟨u,r,.inr ⟨.inl hk,c,hc,hc'⟩⟩
   ·rw[Rp9 (Ne.symm hj)] at e2
    obtain⟨u',r',q⟩:=hl j y v' e1 e2 e3
    refine⟨u',r',?_⟩
    rcases q with q|⟨k,c',e,z'⟩
    ·exact .inl q
    ·refine .inr ⟨k,c',e,z'.sameBut hs ?_⟩
     rintro rfl
     exact hj (aFH hN e1 (I.ok.inj _ _ _ e hc▸hi))
  ·by_cases hcc:c'=c
   ·subst hcc;exact⟨_,hc'⟩
   ·obtain⟨w2,z2⟩:=I.cell y c' e
    exact⟨w2,z2.sameBut hs hcc⟩
  ·obtain⟨e,n,ne,nf,d⟩:=I.pin p hp
   refine⟨(hs.2 p.1 ?_).trans e,n,ne,nf,d⟩
   intro q
   rw[q,hoc] at e
   have q':oc=p.2:=Option.some.inj e
   exact d w' (by rw[<-q'];exact hocd)
theorem vG{E:Value->Shared->Prop}{i:Nat}{Q:Unit->Shared->Prop}(I:Inv X pins σ H s)(hN:X.N.Nodup)(hi:X.N[i]?=some x)(hx:Loc X.env.scope x)(r:RelV v u)(h:∀s',Inv X pins (σ.set i (some v)) H s'->Q () s')(hf:X.fn x=true\/X.env.scope.names.lookup x=some .local:=by first|exact .inl rfl|exact .inr rfl|assumption):wpAny M A (storeName X.env x u) Q E s:=
 aD4 I hN hi hx r (λs' I' _=>h s' I') hf
theorem Inv.aO4{s':Shared}(I:Inv X pins σ H s)(ho:s'.os=s.os)(u:Un (frs X.stack) ch H H' s.heap s'.heap)(hok:vB X.prog X.w H' s'.heap)(hg:AllBare s'.gens)(hch:∀b∈ch,(b∈X.ex\/X.s₀.heap.objs.size<=b)/\b≠X.env.locals/\(∀x c,X.env.cells.lookup x=some c->c≠b)/\∀p∈X.pn++pins,p.1≠b):Inv X pins σ H' s':=by
 obtain⟨h',g',d',t',o'⟩:=s'
 have e:o'=s.os:=ho
 subst e
 exact I.call (g':=g') (t':=t') (d':=d') u hok hg hch
end
abbrev XK:=Value->Option Addr->Hp->Prop
abbrev St:=List (Option V)
abbrev VK:=V->Hp->Prop
abbrev TE:=St->Hp->VK->Prop
abbrev TT:=St->Hp->(Bool->Hp->Prop)->Prop
abbrev TA:=St->Hp->(List V->Hp->Prop)->Prop
structure Ends where
 nx:St->Hp->Prop
 rt:VK
 bk:St->Hp->Prop:=λ_ _=>False
 ct:St->Hp->Prop:=λ_ _=>False
abbrev TS:=Ends->St->Hp->Prop
def EP(X:Cx)(pins:List (Addr×Obj))(σ:St)(Q:VK)(u:Value)(s':Shared):Prop:=∃v H',Inv X pins σ H' s'/\RelV v u/\Q v H'
def TP(X:Cx)(pins:List (Addr×Obj))(σ:St)(Q:Bool->Hp->Prop)(b:Bool)(s':Shared):Prop:=∃H',Inv X pins σ H' s'/\Q b H'
def AP(X:Cx)(pins:List (Addr×Obj))(σ:St)(Q:List V->Hp->Prop)(us:List Value)(s':Shared):Prop:=∃vs H',Inv X pins σ H' s'/\Vals vs us/\Q vs H'
def SP(X:Cx)(pins:List (Addr×Obj))(D:Ends)(f:Flow)(s':Shared):Prop:=
 match f with
 |.next=>∃σ' H',Inv X pins σ' H' s'/\D.nx σ' H'
 |.brk=>∃σ' H',Inv X pins σ' H' s'/\D.bk σ' H'
 |.cont=>∃σ' H',Inv X pins σ' H' s'/\D.ct σ' H'
 |.ret u=>∃v σ' H',Inv X pins σ' H' s'/\RelV v u/\D.rt v H'
def PE(X:Cx)(e:Expr)(t:TE):Prop:=
 ∀(pins:List (Addr×Obj)) (s:Shared) (σ:St) (H:Hp) (Q:VK),Inv X pins σ H s->t σ H Q->wpAny (model X.prog X.w) X.A (eval e X.env) (EP X pins σ Q) X.xe s
def PT(X:Cx)(e:Expr)(t:TT):Prop:=
 ∀(pins:List (Addr×Obj)) (s:Shared) (σ:St) (H:Hp) (Q:Bool->Hp->Prop),Inv X pins σ H s->t σ H Q->wpAny (model X.prog X.w) X.A (isTrue e X.env (eval e X.env)) (TP X pins σ Q) X.xe s
def PW(X:Cx)(e:Expr)(t:TT):Prop:=
 ∀(whole:Sem Value) (pins:List (Addr×Obj)) (s:Shared) (σ:St) (H:Hp) (Q:Bool->Hp->Prop),Inv X pins σ H s->t σ H Q->wpAny (model X.prog X.w) X.A (isTrue e X.env whole) (TP X pins σ Q) X.xe s
theorem PW.pt(h:PW X e t):PT X e t:=h _
def PA(X:Cx)(es:List Expr)(t:TA):Prop:=
 ∀(pos:Pos) (pins:List (Addr×Obj)) (s:Shared) (σ:St) (H:Hp) (Q:List V->Hp->Prop),Inv X pins σ H s->t σ H Q->wpAny (model X.prog X.w) X.A (spliced (backTo pos (starEach es X.env))) (AP X pins σ Q) X.xe s
def PS(X:Cx)(st:Stmt)(t:TS):Prop:=
 ∀(pins:List (Addr×Obj)) (s:Shared) (σ:St) (H:Hp) (D:Ends),Inv X pins σ H s->t D σ H->wpAny (model X.prog X.w) X.A (exec st X.env) (SP X pins D) X.xe s
def PSs(X:Cx)(st:List Stmt)(t:TS):Prop:=
 ∀(pins:List (Addr×Obj)) (s:Shared) (σ:St) (H:Hp) (D:Ends),Inv X pins σ H s->t D σ H->wpAny (model X.prog X.w) X.A (execs st X.env) (SP X pins D) X.xe s
theorem dI{α:Type}{t:Sem α}{Q Q':α->Shared->Prop}{M:Model}{A:Around}{E:Value->Shared->Prop}{s:Shared}(h:wpAny M A t Q E s)(hQ:∀a s,Q a s->Q' a s):wpAny M A t Q' E s:=wpAny_mono h hQ λ_ _ x=>x
end L2
namespace L2
open PySem PySem.Spec PyProof.Rows
section
variable{X:Cx}
def aNo(i:Nat):TE:=λσ H Q=>∃v,σ[i]?=some (some v)/\Q v H
def tC(v:V):TE:=λ_ H Q=>Q v H
theorem aJy{i:Nat}(hN:X.N[i]?=some x)(hv:Vis X.env.scope x)(hd:(x == ("__debug__" : Str))=false:=by decide)(hcd:(x == ("__classdict__" : Str))=false:=by decide):PE X (.Name x pos) (aNo i):=by
 intro pins s σ H Q I h
 obtain⟨v,e,h⟩:=h
 obtain⟨m,hn,hl⟩:=I.loc
 obtain⟨u,r,l⟩:=hl i x v hN e hv
 have fin:EP X pins σ Q u s:=⟨v,H,I,r,h⟩
 rcases l with ⟨hk,hm⟩|⟨hk,c,hc,hcell⟩
 ·exact wpAny_Name (wpAny_loadName_local I.ok.kind hk hn hm fin) hd
 ·rcases hk with hk|hk
  ·exact wpAny_Name (wpAny_loadName_cell I.ok.kind hk hc hcell fin) hd
  ·exact wpAny_Name (wpAny_loadName_free I.ok.kind hk hc hcell fin hcd) hd
theorem aNp{i j pos}:PE X (.Constant (.int i) j pos) (tC (.int i)):=λ_ _ _ H _ I h=>wpAny_Constant_int ⟨.int i,H,I.tok _,⟨_,rfl⟩,h⟩
theorem aO5{b j pos}:PE X (.Constant (.bool b) j pos) (tC (.bl b)):=λ_ _ _ H _ I h=>Constant_bool ⟨.bl b,H,I,rfl,h⟩
theorem aNq{j pos}:PE X (.Constant .none j pos) (tC .non):=λ_ _ _ H _ I h=>Constant_none ⟨.non,H,I,rfl,h⟩
def Gl(X:Cx)(x:Str):Prop:=X.env.kindOf x=some .globalImplicit
theorem aB5{E:Value->Shared->Prop}{Q:Value->Shared->Prop}(I:Inv X pins σ H s)(hg:Gl X x)(hm:X.mg x=some u)(h:Q u s)(hd:(x == ("__debug__" : Str))=false:=by decide):wpAny (model X.prog X.w) X.A (eval (.Name x pos) X.env) Q E s:=
 Calls.Name_function_global I.ok.kind hg (Calls.loadGlobal_global (by rw[I.ok.glob];exact I.mod.glob.keeps I.bk) hm h) hd
theorem rM{E:Value->Shared->Prop}{Q:Value->Shared->Prop}(I:Inv X pins σ H s)(hg:Gl X x)(hm:X.mg x=none)(hv:bootBuiltins x=some u)(h:Q u s)(hn:x≠"__name__":=by decide)(hd:(x == ("__debug__" : Str))=false:=by decide):wpAny (model X.prog X.w) X.A (eval (.Name x pos) X.env) Q E s:=by
 obtain⟨mb,h1,h2⟩:=I.mod.blt
 exact Calls.Name_function_global I.ok.kind hg (Calls.loadGlobal_builtin (by rw[I.ok.glob];exact I.mod.glob.keeps I.bk) hm (by rw[I.ok.blt];exact h1.keeps I.bk) ((h2 x hn).trans hv) h) hd
theorem aHX(hg:Gl X x)(hm:X.mg x=some u)(r:RelV v u)(hd:(x == ("__debug__" : Str))=false:=by decide):PE X (.Name x pos) (tC v):=
 λ_ _ _ H _ I h=>aB5 I hg hm ⟨v,H,I,r,h⟩ hd
theorem aLy(hg:Gl X x)(hm:X.mg x=none)(hv:bootBuiltins x=some u)(r:RelV v u)(hn:x≠"__name__":=by decide)(hd:(x == ("__debug__" : Str))=false:=by decide):PE X (.Name x pos) (tC v):=
 λ_ _ _ H _ I h=>rM I hg hm hv ⟨v,H,I,r,h⟩ hn hd
variable{a b:Expr}{ta tb:TE}{pos:Pos}
def tB(t:TE):TT:=λσ H Q=>t σ H λx H1=>∃c,x=.bl c/\Q c H1
theorem aNr{e:Expr}{t:TE}(h:PE X e t)(he:∀whole,isTrue e X.env whole=(do let v <-whole;standAt e.pos;holding [v] (truthy v)):=by intro _;rfl):PT X e (tB t):=by
 intro pins s σ H Q I hw
 refine isTrue_plain (dI (h pins s σ H _ I hw) λv s1 ⟨x,H1,I1,r1,q1⟩=>?_) (he _)
 obtain⟨d,rfl,q⟩:=q1
 cases r1
 exact wpAny_truthy_bool ⟨H1,I1,q⟩
variable{tA tB':TT}{rest:List Expr}
def aNs(t u:TT):TT:=λσ H Q=>t σ H λc H1=>if c=true then u σ H1 Q else Q false H1
def tOr(t u:TT):TT:=λσ H Q=>t σ H λc H1=>if c=true then Q true H1 else u σ H1 Q
def aNt(t:TT):TT:=λσ H Q=>t σ H λc H1=>Q (!c) H1
theorem aLz(ha:PT X a tA):PW X (.BoolOp .And [a] pos) tA:=by
 intro wh pins s σ H Q I h
 refine isTrue_and (dI (ha pins s σ H Q I h) λc s1 e=>?_)
 cases c with
 |true=>exact isTrue_and_nil e
 |false=>exact e
theorem aNu(ha:PT X a tA):PW X (.BoolOp .Or [a] pos) tA:=by
 intro wh pins s σ H Q I h
 refine isTrue_or (dI (ha pins s σ H Q I h) λc s1 e=>?_)
 cases c with
 |false=>exact isTrue_or_nil e
 |true=>exact e
theorem aNv(ha:PT X a tA)(hb:PW X (.BoolOp .And (b::rest) pos) tB'):PW X (.BoolOp .And (a::b::rest) pos) (aNs tA tB'):=by
 intro wh pins s σ H Q I h
 refine isTrue_and (dI (ha pins s σ H _ I h) λc s1 ⟨H1,I1,q1⟩=>?_)
 cases c with
 |true=>exact hb wh pins s1 σ H1 Q I1 q1
 |false=>exact⟨H1,I1,q1⟩
theorem aO6(ha:PT X a tA)(hb:PW X (.BoolOp .Or (b::rest) pos) tB'):PW X (.BoolOp .Or (a::b::rest) pos) (tOr tA tB'):=by
 intro wh pins s σ H Q I h
 refine isTrue_or (dI (ha pins s σ H _ I h) λc s1 ⟨H1,I1,q1⟩=>?_)
 cases c with
 |true=>exact⟨H1,I1,q1⟩
 |false=>exact hb wh pins s1 σ H1 Q I1 q1
theorem aNw(ha:PT X a tA):PT X (.UnaryOp .Not a pos) (aNt tA):=by
 intro pins s σ H Q I h
 exact isTrue_not (ha pins s σ H (λc H1=>Q (!c) H1) I h)
def aJz(ta tb:TE):TE:=λσ H Q=>ta σ H λx H1=>∃c,x=.bl c/\if c=true then tb σ H1 Q else Q (.bl false) H1
def aNx(ta tb:TE):TE:=λσ H Q=>ta σ H λx H1=>∃c,x=.bl c/\if c=true then Q (.bl true) H1 else tb σ H1 Q
def aJA(ta:TE):TE:=λσ H Q=>ta σ H λx H1=>∃c,x=.bl c/\Q (.bl (!c)) H1
theorem aNy{op}(h:PE X a t):PE X (.BoolOp op [a] pos) t:=λpins s σ H Q I hw=>BoolOp_one (h pins s σ H Q I hw)
theorem aNz(ha:PE X a ta)(hb:PE X (.BoolOp .And (b::rest) pos) tb):PE X (.BoolOp .And (a::b::rest) pos) (aJz ta tb):=by
 intro pins s σ H Q I h
 refine BoolOp_and (dI (ha pins s σ H _ I h) λv s1 ⟨x,H1,I1,r1,q1⟩=>?_)
 obtain⟨c,rfl,q1⟩:=q1
 cases r1
 refine wpAny_truthy_bool ?_
 cases c with
 |true=>exact hb pins s1 σ H1 Q I1 q1
 |false=>exact⟨.bl false,H1,I1,rfl,q1⟩
theorem aO7(ha:PE X a ta)(hb:PE X (.BoolOp .Or (b::rest) pos) tb):PE X (.BoolOp .Or (a::b::rest) pos) (aNx ta tb):=by
 intro pins s σ H Q I h
 refine BoolOp_or (dI (ha pins s σ H _ I h) λv s1 ⟨x,H1,I1,r1,q1⟩=>?_)
 obtain⟨c,rfl,q1⟩:=q1
 cases r1
 refine wpAny_truthy_bool ?_
 cases c with
 |false=>exact hb pins s1 σ H1 Q I1 q1
 |true=>exact⟨.bl true,H1,I1,rfl,q1⟩
theorem aNA(ha:PE X a ta):PE X (.UnaryOp .Not a pos) (aJA ta):=by
 intro pins s σ H Q I h
 refine UnaryOp_ (dI (ha pins s σ H _ I h) λv s1 ⟨x,H1,I1,r1,q1⟩=>?_)
 obtain⟨c,rfl,q1⟩:=q1
 cases r1
 exact not_of (wpAny_truthy_bool ⟨.bl (!c),H1,I1,rfl,q1⟩)
def tIf(t:TT)(ta tb:TE):TE:=λσ H Q=>t σ H λc H1=>if c=true then ta σ H1 Q else tb σ H1 Q
theorem aJB{c:Expr}(hc:PT X c tA)(ha:PE X a ta)(hb:PE X b tb):PE X (.IfExp c a b pos) (tIf tA ta tb):=by
 intro pins s σ H Q I h
 refine wpAny_IfExp (dI (hc pins s σ H _ I h) λd s1 ⟨H1,I1,q1⟩=>?_)
 cases d with
 |true=>exact ha pins s1 σ H1 Q I1 q1
 |false=>exact hb pins s1 σ H1 Q I1 q1
end
end L2
namespace L2
open PySem PySem.Spec PyProof.Rows
def bS(K:W.Frag)(H:Hp)(a:Addr)(xs:List V):Prop:=
 Rd H a (.lst xs)\/
  ∃(o:Obj) (its:Array Value) (n:Nat),K.lookup a=some o/\o.cls=.type "list"/\o.dict=none/\o.data=.seq its n/\its.size<=sizeLine/\Vals xs its.toList
def mX(K:W.Frag)(H:Hp)(a:Addr)(xs:List V):Prop:=
 Rd H a (.tup xs)\/
  ∃(o:Obj) (its:Array Value) (n:Nat),K.lookup a=some o/\o.cls=.type "tuple"/\o.data=.seq its n/\its.size<=sizeLine/\Vals xs its.toList
def aPS:Value->Option V
 |.none=>some .non
 |.bool b=>some (.bl b)
 |.int i _=>some (.int i)
 |.str x _=>some (.str x)
 |.bytes b _=>some (.byt b)
 |.float b _=>some (.flt b)
 |.ref a=>some (.ref a)
 |.type n=>some (.ty n)
 |_=>none
theorem RelV.abs(r:RelV x u):aPS u=some x:=by
 cases x with
 |non=>cases r;rfl
 |bl _=>cases r;rfl
 |int _=>obtain⟨t,rfl⟩:=r;rfl
 |str _=>obtain⟨t,rfl⟩:=r;rfl
 |byt _=>obtain⟨t,rfl⟩:=r;rfl
 |flt _=>obtain⟨t,rfl⟩:=r;rfl
 |ref _=>cases r;rfl
 |ty _=>cases r;rfl
theorem RelV.inj(r:RelV x u)(q:RelV y u):x=y:=Option.some.inj (r.abs.symm.trans q.abs)
theorem Vals.inj:∀{xs ys:List V}{us:List Value},Vals xs us->Vals ys us->xs=ys
 |_,_,_,.nil,.nil=>rfl
 |_,_,_,.cons r t,.cons r' t'=>by rw[r.inj r',Vals.inj t t']
section
variable{X:Cx}{pins:List (Addr×Obj)}{σ:St}{H:Hp}{s:Shared}{a:Addr}{xs ys:List V}
theorem bS.of{K:W.Frag}(h:H a=some (.lst xs)):bS K H a xs:=.inl (.inl h)
theorem mX.of{K:W.Frag}(h:H a=some (.tup xs)):mX K H a xs:=.inl (.inl h)
theorem Inv.list(I:Inv X pins σ H s)(h:bS X.K H a xs):∃its:List Value,Vals xs its/\PlainL s.heap a its.toArray/\xs.length<=sizeLine:=by
 rcases h with h|⟨o,its,n,hk,hc,hd,hs,hz,r⟩
 ·obtain⟨z,its,n,r,e⟩:=h.ok I.hok
  exact⟨its,r,⟨_,n,e,rfl,rfl,rfl⟩,z⟩
 ·refine⟨its.toList,r,⟨o,n,I.kIn a o hk,hc,hd,by simpa using hs⟩,?_⟩
  have e:=r.length
  simp only[Rg9] at e
  omega
theorem Inv.tuple(I:Inv X pins σ H s)(h:mX X.K H a xs):∃its:List Value,Vals xs its/\IsTup s.heap a its.toArray/\xs.length<=sizeLine:=by
 rcases h with h|⟨o,its,n,hk,hc,hs,hz,r⟩
 ·obtain⟨z,its,r,p⟩:=h.ok I.hok
  exact⟨its,r,p,z⟩
 ·refine⟨its.toList,r,⟨o,I.kIn a o hk,hc,n,by simpa using hs⟩,?_⟩
  have e:=r.length
  simp only[Rg9] at e
  omega
theorem Inv.aCf(I:Inv X pins σ H s)(h:bS X.K H a xs)(h':bS X.K H a ys):xs=ys:=by
 obtain⟨its,r,⟨o,n,e,_,_,d⟩,_⟩:=I.list h
 obtain⟨its',r',⟨o',n',e',_,_,d'⟩,_⟩:=I.list h'
 rw[e] at e';cases e'
 rw[d] at d'
 injection d' with d1 _
 have:its=its':=by simpa using congrArg Array.toList d1
 subst this
 exact r.inj r'
theorem Inv.aD5(I:Inv X pins σ H s)(h:mX X.K H a xs)(h':mX X.K H a ys):xs=ys:=by
 obtain⟨its,r,⟨o,e,_,n,d⟩,_⟩:=I.tuple h
 obtain⟨its',r',⟨o',e',_,n',d'⟩,_⟩:=I.tuple h'
 rw[e] at e';cases e'
 rw[d] at d'
 injection d' with d1 _
 have:its=its':=by simpa using congrArg Array.toList d1
 subst this
 exact r.inj r'
end
abbrev Cx.aDp(X:Cx)(E:Value->Shared->Prop):Cx:={ X with xe:=E }
abbrev Cx.nox(X:Cx):Cx:=X.aDp λ_ _=>False
theorem Cx.Ok.aDp{X:Cx}(ok:X.Ok)(E:Value->Shared->Prop):(X.aDp E).Ok:=
 ⟨ok.mod,ok.kind,ok.glob,ok.blt,ok.above,ok.inj,ok.has,ok.cab,ok.hd,ok.frames,ok.stk,ok.exf,ok.bs,ok.bsz,ok.noex,ok.exfs,ok.x8,ok.frf⟩
theorem Cx.Ok.vH{X:Cx}{E:Value->Shared->Prop}(ok:(X.aDp E).Ok):X.Ok:=
 ⟨ok.mod,ok.kind,ok.glob,ok.blt,ok.above,ok.inj,ok.has,ok.cab,ok.hd,ok.frames,ok.stk,ok.exf,ok.bs,ok.bsz,ok.noex,ok.exfs,ok.x8,ok.frf⟩
section
variable{X:Cx}{pins:List (Addr×Obj)}{σ:St}{H:Hp}{s:Shared}{E:Value->Shared->Prop}
theorem Inv.aDp(I:Inv X pins σ H s)(E:Value->Shared->Prop):Inv (X.aDp E) pins σ H s:=⟨I.ok.aDp E,I.os,I.bare,I.base,I.loc,I.cell,I.free,I.freeC,I.pin,I.hok,I.len⟩
theorem Inv.vH(I:Inv (X.aDp E) pins σ H s):Inv X pins σ H s:=⟨I.ok.vH,I.os,I.bare,I.base,I.loc,I.cell,I.free,I.freeC,I.pin,I.hok,I.len⟩
theorem SP.vH(h:SP (X.aDp E) pins D f s'):SP X pins D f s':=by
 cases f with
 |next=>obtain⟨σ',H',I,q⟩:=h;exact⟨σ',H',I.vH,q⟩
 |brk=>obtain⟨σ',H',I,q⟩:=h;exact⟨σ',H',I.vH,q⟩
 |cont=>obtain⟨σ',H',I,q⟩:=h;exact⟨σ',H',I.vH,q⟩
 |ret u=>obtain⟨v,σ',H',I,r,q⟩:=h;exact⟨v,σ',H',I.vH,r,q⟩
theorem PSs.nox{st:List Stmt}{t:TS}(h:PSs X.nox st t):PSs X st t:=λpins s σ H D I hw=>
 wpAny_mono (h pins s σ H D (I.aDp _) hw) (λ_ _ q=>q.vH) λ_ _ z=>False.elim z
end
section
variable{X:Cx}{st:Stmt}{rest:List Stmt}{t u:TS}{e:Expr}{te:TE}{pos:Pos}
def aJC:TS:=λD σ H=>D.nx σ H
def aJD(t u:TS):TS:=λD σ H=>t { D with nx:=u D } σ H
theorem aLA:PSs X [] aJC:=λ_ _ σ H _ I h=>wpAny_execs_nil ⟨σ,H,I,h⟩
theorem aJE(h1:PS X st t)(h2:PSs X rest u):PSs X (st::rest) (aJD t u):=by
 intro pins s σ H D I h
 refine wpAny_execs_cons (dI (h1 pins s σ H { D with nx:=u D } I h) λf s1 q=>?_)
 cases f with
 |next=>
  obtain⟨σ',H',I',q⟩:=q
  exact h2 pins s1 σ' H' D I' q
 |ret v=>exact q
 |brk=>exact q
 |cont=>exact q
theorem aLB(h1:PS X st t):PSs X [st] t:=by
 intro pins s σ H D I h
 refine wpAny_execs_cons (dI (h1 pins s σ H D I h) λf s1 q=>?_)
 cases f with
 |next=>exact wpAny_execs_nil q
 |ret v=>exact q
 |brk=>exact q
 |cont=>exact q
theorem Inv.quiet(I:Inv X pins σ H s):interactive X.env=false:=by simp[interactive,I.ok.kind]
def aJF(te:TE):TS:=λD σ H=>te σ H λ_ H1=>D.nx σ H1
theorem aLC(he:PE X e te)(hs:swapsWith e none pos.line X.env=pure false:=by rfl):PS X (.Expr e pos) (aJF te):=by
 intro pins s σ H D I h
 exact wpAny_Expr_any (dI (he pins s σ H _ I h) λv s1 ⟨x,H1,I1,r1,q1⟩=>⟨σ,H1,I1,q1⟩) I.quiet hs
def aNB(te:TE):TS:=λD σ H=>te σ H D.rt
theorem aNC(he:PE X e te):PS X (.Return (some e) pos) (aNB te):=by
 intro pins s σ H D I h
 exact wpAny_Return_some (dI (he pins s σ H _ I h) λv s1 ⟨x,H1,I1,r1,q1⟩=>⟨x,σ,H1,I1,r1,q1⟩)
def aND(c:TT)(t u:TS):TS:=λD σ H=>c σ H λb H1=>if b=true then t D σ H1 else u D σ H1
theorem aO8{c:Expr}{a b:List Stmt}{tc:TT}(hc:PT X c tc)(ha:PSs X a t)(hb:PSs X b u):PS X (.If c a b pos) (aND tc t u):=by
 intro pins s σ H D I h
 refine wpAny_If (dI (hc pins s σ H _ I h) λd s1 ⟨H1,I1,q1⟩=>?_)
 cases d with
 |true=>exact ha pins s1 σ H1 D I1 q1
 |false=>exact hb pins s1 σ H1 D I1 q1
def aJG:TS:=λ_ _ _=>False
theorem aJH:PS X st aJG:=λ_ _ _ _ _ _ h=>h.elim
end
abbrev TG:=V->St->Hp->(St->Hp->Prop)->Prop
abbrev TGs:=List V->St->Hp->(St->Hp->Prop)->Prop
def PG(X:Cx)(target:Expr)(t:TG):Prop:=
 ∀(pins:List (Addr×Obj)) (s:Shared) (σ:St) (H:Hp) (v:V) (u:Value) (Q:St->Hp->Prop),Inv X pins σ H s->RelV v u->t v σ H Q->
  wpAny (model X.prog X.w) X.A (assign target X.env u) (λ_ s'=>∃σ' H',Inv X pins σ' H' s'/\Q σ' H') X.xe s
def PGs(X:Cx)(ts:List Expr)(t:TGs):Prop:=
 ∀(pins:List (Addr×Obj)) (s:Shared) (σ:St) (H:Hp) (vs:List V) (us:List Value) (Q:St->Hp->Prop),Inv X pins σ H s->Vals vs us->t vs σ H Q->
  wpAny (model X.prog X.w) X.A (assignInOrder ((assignEach ts X.env).map (·.2)) us) (λ_ s'=>∃σ' H',Inv X pins σ' H' s'/\Q σ' H') X.xe s
abbrev aGS:=V->V->V->Hp->(Hp->Prop)->Prop
def aJI(X:Cx)(t:aGS):Prop:=
 ∀(pins:List (Addr×Obj)) (s:Shared) (σ:St) (H:Hp) (o i v:V) (ov iv u:Value) (Q:Hp->Prop),Inv X pins σ H s->RelV o ov->RelV i iv->RelV v u->t o i v H Q->
  wpAny (model X.prog X.w) X.A (setItem ov iv u) (λ_ s'=>∃H',Inv X pins σ H' s'/\Q H') X.xe s
abbrev TIp:=V->V->Hp->VK->Prop
def PIp(X:Cx)(op:Operator)(t:TIp):Prop:=
 ∀(pins:List (Addr×Obj)) (s:Shared) (σ:St) (H:Hp) (x y:V) (v u:Value) (Q:VK),Inv X pins σ H s->RelV x v->RelV y u->t x y H Q->
  wpAny (model X.prog X.w) X.A (inplaceOp op v u) (EP X pins σ Q) X.xe s
section
variable{X:Cx}{pos:Pos}
def vI(i:Nat):TG:=λv σ H Q=>Q (σ.set i (some v)) H
theorem aLD{i:Nat}(hN:X.N.Nodup)(hi:X.N[i]?=some x)(hx:Loc X.env.scope x)(hf:X.fn x=true\/X.env.scope.names.lookup x=some .local:=by first|exact .inl rfl|exact .inr rfl|assumption):PG X (.Name x pos) (vI i):=by
 intro pins s σ H v u Q I r h
 exact wpAny_assign_Name (vG I hN hi hx r (λs' I'=>⟨_,H,I',h⟩) hf)
def aLE:TGs:=λvs σ H Q=>vs=[]/\Q σ H
def aHY(t:TG)(u:TGs):TGs:=λvs σ H Q=>∃v r,vs=v::r/\t v σ H λσ' H'=>u r σ' H' Q
theorem aLF:PGs X [] aLE:=by
 intro pins s σ H vs us Q I r h
 obtain⟨e,h⟩:=h
 subst e
 cases r
 exact assignInOrder_nil ⟨σ,H,I,h⟩
theorem aJJ{e:Expr}{es:List Expr}{t:TG}{u:TGs}(h1:PG X e t)(h2:PGs X es u)
  (hs:(assignEach (e::es) X.env).map (·.2)=assign e X.env::(assignEach es X.env).map (·.2):=by rfl):PGs X (e::es) (aHY t u):=by
 intro pins s σ H vs us Q I r h
 obtain⟨v,vr,e1,h⟩:=h
 subst e1
 cases r with
 |cons r rr=>
  rw[hs]
  refine assignInOrder_cons (dI (h1 pins s σ H _ _ _ I r h) λ_ s1 ⟨σ1,H1,I1,q1⟩=>?_)
  exact h2 pins s1 σ1 H1 _ _ Q I1 rr q1
def aLG(K:W.Frag)(n:Nat)(t:TGs):TG:=λv σ H Q=>∃a xs,v=.ref a/\mX K H a xs/\xs.length=n/\t xs σ H Q
theorem aNE{k:Nat}{n:Nat}(hc:X.calm=true)(h:PGs X es t)(hn:(assignEach es X.env).length=n:=by rfl)(hst:(assignEach es X.env).findIdx? (·.1)=none:=by rfl):PG X (.Tuple es k pos) (aLG X.K n t):=by
 intro pins s σ H v u Q I r hw
 obtain⟨a,xs,e1,hq,hl,hw⟩:=hw
 subst e1
 cases r
 obtain⟨its,rv,ht,hz⟩:=I.tuple hq
 refine assign_Tuple_tuple (I.ok.hd hc) ht (by simp[hn,<-hl,rv.length]) hst λh' hx=>?_
 have I1:Inv X pins σ H { s with heap:=h' }:=I.kept (t':=s.toks) λb o e=>hx b o (vE (jU e)) e
 exact h pins _ σ H xs _ Q I1 (by simpa using rv) hw
def aNF(to ti:TE)(t:aGS):TG:=λv σ H Q=>to σ H λo H1=>ti σ H1 λi H2=>t o i v H2 λH3=>Q σ H3
theorem aNG{o i:Expr}{to ti:TE}{t:aGS}(ho:PE X o to)(hi:PE X i ti)(hs:aJI X t)
  (ha:∀v,assign (.Subscript o i pos) X.env v=(do
   let ov <-holding [v] (eval o X.env)
   let iv <-holding [v,ov] (eval i X.env)
   standAt pos
   holding [v,ov,iv] (setItem ov iv v)
   release [v,ov,iv] []):=by intro _;rfl):PG X (.Subscript o i pos) (aNF to ti t):=by
 intro pins s σ H v u Q I r h
 rw[ha]
 refine wpAny_bind (wpAny_holding (dI (ho pins s σ H _ I h) λov s1 ⟨x,H1,I1,r1,q1⟩=>?_))
 refine wpAny_bind (wpAny_holding (dI (hi pins s1 σ H1 _ I1 q1) λiv s2 ⟨y,H2,I2,r2,q2⟩=>?_))
 refine wpAny_bind (wpAny_standAt (wpAny_bind (wpAny_holding (dI (hs pins s2 σ H2 x y v ov iv u _ I2 r1 r2 r q2) λ_ s3 ⟨H3,I3,q3⟩=>?_))))
 exact wpAny_release ⟨σ,H3,I3,q3⟩
def aFI(te:TE)(g:TG):TS:=λD σ H=>te σ H λx H1=>g x σ H1 D.nx
theorem aNH{tg e:Expr}{te:TE}{g:TG}(he:PE X e te)(hg:PG X tg g)(hs:swapsWithSole [tg] e pos.line X.env=pure false:=by rfl)(hw:swappedStores [tg] e X.env=pure none:=by rfl)
  (h1:(assignEach [tg] X.env).map (·.2)=[assign tg X.env]:=by rfl):PS X (.Assign [tg] e pos) (aFI te g):=by
 intro pins s σ H D I h
 refine wpAny_Assign_stores (dI (he pins s σ H _ I h) λv s1 ⟨x,H1,I1,r1,q1⟩=>?_) hs hw
 rw[h1]
 exact dI (hg pins s1 σ H1 x v _ I1 r1 q1) λ_ s2 q=>q
theorem aNI{i:Nat}{x:Str}{e:Expr}{te:TE}{pos':Pos}(hN:X.N.Nodup)(hi:X.N[i]?=some x)(hx:Loc X.env.scope x)(he:PE X e te)(hs:swapsWith e (some (.Name x pos')) pos.line X.env=pure false:=by rfl)(hf:X.fn x=true\/X.env.scope.names.lookup x=some .local:=by first|exact .inl rfl|exact .inr rfl|assumption) :
  PS X (.Assign [.Name x pos'] e pos) (aFI te (vI i)):=by
 intro pins s σ H D I h
 refine wpAny_Assign_Name (dI (he pins s σ H _ I h) λv s1 ⟨y,H1,I1,r1,q1⟩=>?_) hs
 exact vG I1 hN hi hx r1 (λs2 I2=>⟨_,H1,I2,q1⟩) hf
def aNJ(i j:Nat)(ta:TA):TS:=λD σ H=>ta σ H λvs H1=>∃v w,vs=[v,w]/\D.nx ((σ.set i (some v)).set j (some w)) H1
theorem aNK{i j:Nat}{x y:Str}{a b:Expr}{ta:TA}{px py pt:Pos}{kt k2 pt2}(hc:X.calm=true)(hN:X.N.Nodup)(hi:X.N[i]?=some x)(hj:X.N[j]?=some y)(hij:i≠j)
  (hx:X.env.scope.names.lookup x=some .local) (hy:X.env.scope.names.lookup y=some .local) (ha:PA X [a,b] ta)
  (hw:swappedStores [.Tuple [.Name x px,.Name y py] kt pt] (.Tuple [a,b] k2 pt2) X.env=pure (some [x,y]))
  (hs:swapsWithSole [.Tuple [.Name x px,.Name y py] kt pt] (.Tuple [a,b] k2 pt2) pos.line X.env=pure false:=by rfl) :
  PS X (.Assign [.Tuple [.Name x px,.Name y py] kt pt] (.Tuple [a,b] k2 pt2) pos) (aNJ i j ta):=by
 intro pins s σ H D I h
 rw[exec_Assign_arm]
 refine wpAny_bind (wpAny_standAt ?_)
 rw[hs]
 refine wpAny_bind (wpAny_pure ?_)
 rw[if_neg (by decide)]
 refine wpAny_bind (Tuple_ (dI (ha _ pins s σ H _ I h) λus s1 ⟨vs,H1,I1,r1,q1⟩=>?_))
 obtain⟨v,w,e1,q1⟩:=q1
 subst e1
 obtain⟨u1,u2,rfl,rv,rw'⟩ : ∃u1 u2,us=[u1,u2]/\RelV v u1/\RelV w u2:=by
  cases r1 with
  |cons p q=>
   cases q with
   |cons p' q'=>
    cases q'
    exact⟨_,_,rfl,p,p'⟩
 refine wpAny_newObj_type ?_ (by show 2<=sizeLine;decide)
 have I2:Inv X pins σ H1 { s1 with heap:=s1.heap.push { cls:=.type "tuple",data:=.seq [u1,u2].toArray } }:=I1.kept (t':=s1.toks) λb o e=>kS _ e
 rw[hw]
 refine wpAny_bind (wpAny_pure ?_)
 show wpAny (model X.prog X.w) X.A (do rule "assign.swapped-stores";let items <-unpackItems (.ref s1.heap.objs.size) 2 none;assignInOrder [λv=>bindName X.env y v,λv=>bindName X.env x v] items.reverse;pure Flow.next) _ _ _
 refine wpAny_bind (wpAny_rule (wpAny_bind (unpackItems_tuple (items:=#[u1,u2]) (I.ok.hd hc) (IsTup.new s1.heap _) λh' hx'=>?_)))
 have I3:=I2.kept (h':=h') (t':=s1.toks) λb o e=>hx' b o (vE (jU e)) e
 show wpAny _ _ (assignInOrder [λv=>bindName X.env y v,λv=>bindName X.env x v] [u2,u1] >>= λ_=>pure Flow.next) _ _ _
 refine wpAny_bind (assignInOrder_cons (wpAny_bindName (vG I3 hN hj (.inl hy) rw' (λs2 I4=>?_) (.inr hy))))
 refine assignInOrder_cons (wpAny_bindName (vG I4 hN hi (.inl hx) rv (λs3 I5=>assignInOrder_nil (wpAny_pure ?_)) (.inr hx)))
 rw[List.set_comm _ _ (Ne.symm hij)] at I5
 exact⟨_,H1,I5,q1⟩
def aNL(i:Nat)(te:TE)(ti:TIp):TS:=λD σ H=>∃x,σ[i]?=some (some x)/\te σ H λy H1=>ti x y H1 λz H2=>D.nx (σ.set i (some z)) H2
theorem aNM{i:Nat}{x:Str}{e:Expr}{te:TE}{op:Operator}{ti:TIp}{pos':Pos}(hN:X.N.Nodup)(hi:X.N[i]?=some x)(hx:Loc X.env.scope x)(he:PE X e te)(ho:PIp X op ti)(hf:X.fn x=true\/X.env.scope.names.lookup x=some .local:=by first|exact .inl rfl|exact .inr rfl|assumption) :
  PS X (.AugAssign (.Name x pos') op e pos) (aNL i te ti):=by
 intro pins s σ H D I h
 obtain⟨v,e1,h⟩:=h
 obtain⟨m,hn,hl⟩:=I.loc
 have vis:Vis X.env.scope x:=by rcases hx with k|k;exact .inl k;exact .inr (.inl k)
 obtain⟨u,r,l⟩:=hl i x v hi e1 vis
 refine wpAny_AugAssign_Name ?_
 have go:wpAny (model X.prog X.w) X.A (eval e X.env) (λw s₂=>wpAny (model X.prog X.w) X.A (inplaceOp op u w) (λr s₃=>wpAny (model X.prog X.w) X.A (storeName X.env x r) (λ_=>SP X pins D .next) X.xe s₃) X.xe s₂) X.xe s:=by
  refine dI (he pins s σ H _ I h) λw s1 ⟨y,H1,I1,r1,q1⟩=>?_
  refine dI (ho pins s1 σ H1 v y u w _ I1 r r1 q1) λz s2 ⟨zv,H2,I2,r2,q2⟩=>?_
  exact vG I2 hN hi hx r2 (λs3 I3=>⟨_,H2,I3,q2⟩) hf
 rcases l with ⟨hk,hm⟩|⟨hk,c,hc,hcell⟩
 ·exact wpAny_loadName_local I.ok.kind hk hn hm go
 ·rcases hk with hk|hk
  ·exact wpAny_loadName_cell I.ok.kind hk hc hcell go
  ·rcases hx with k|k
   ·have:X.env.scope.names.lookup x=some .free:=hk
    rw[k] at this;cases this
   ·have:X.env.scope.names.lookup x=some .free:=hk
    rw[k] at this;cases this
def aJK(to ti te:TE)(tget:V->V->Hp->VK->Prop)(tip:TIp)(tset:aGS):TS:=λD σ H=>to σ H λo H1=>ti σ H1 λi H2=>tget o i H2 λx H3=>te σ H3 λy H4=>tip x y H4 λz H5=>tset o i z H5 λH6=>D.nx σ H6
def aNN(X:Cx)(t:V->V->Hp->VK->Prop):Prop:=
 ∀(pins:List (Addr×Obj)) (s:Shared) (σ:St) (H:Hp) (o i:V) (ov iv:Value) (Q:VK),Inv X pins σ H s->RelV o ov->RelV i iv->t o i H Q->
  wpAny (model X.prog X.w) X.A (getItem ov iv) (EP X pins σ Q) X.xe s
theorem aLH{o i e:Expr}{to ti te:TE}{tget:V->V->Hp->VK->Prop}{tip:TIp}{tset:aGS}{op:Operator}{tpos:Pos}(ho:PE X o to)(hi:PE X i ti)(hg:aNN X tget)(he:PE X e te)(hp:PIp X op tip)(hs:aJI X tset)
  (ha:∀ov iv new,augStore i ov iv new=(do holding [new,ov,iv] (setItem ov iv new);release [new,ov,iv] [];pure .next):=by intros;rfl):PS X (.AugAssign (.Subscript o i tpos) op e pos) (aJK to ti te tget tip tset):=by
 intro pins s σ H D I h
 refine wpAny_AugAssign_SubscriptAny (dI (ho pins s σ H _ I h) λov s1 ⟨x1,H1,I1,r1,q1⟩=>?_) ha
 refine dI (hi pins s1 σ H1 _ I1 q1) λiv s2 ⟨x2,H2,I2,r2,q2⟩=>?_
 refine dI (hg pins s2 σ H2 x1 x2 ov iv _ I2 r1 r2 q2) λold s3 ⟨x3,H3,I3,r3,q3⟩=>?_
 refine dI (he pins s3 σ H3 _ I3 q3) λv s4 ⟨x4,H4,I4,r4,q4⟩=>?_
 refine dI (hp pins s4 σ H4 x3 x4 old v _ I4 r3 r4 q4) λnew s5 ⟨x5,H5,I5,r5,q5⟩=>?_
 exact dI (hs pins s5 σ H5 x1 x2 x5 ov iv new _ I5 r1 r2 r5 q5) λ_ s6 ⟨H6,I6,q6⟩=>⟨σ,H6,I6,q6⟩
def ipI(f:Int->Int->Int):TIp:=λx y H Q=>∃i j,x=.int i/\y=.int j/\Q (.int (f i j)) H
theorem yW:PIp X .Add (ipI λi j=>i+j):=by
 intro pins s σ H x y v u Q I r1 r2 h
 obtain⟨i,j,e1,e2,q⟩:=h
 subst e1;subst e2
 obtain⟨t,rfl⟩:=r1
 obtain⟨t',rfl⟩:=r2
 exact iadd_int ⟨.int _,H,I.tok _,⟨_,rfl⟩,q⟩
theorem aNO:PIp X .Sub (ipI λi j=>i - j):=by
 intro pins s σ H x y v u Q I r1 r2 h
 obtain⟨i,j,e1,e2,q⟩:=h
 subst e1;subst e2
 obtain⟨t,rfl⟩:=r1
 obtain⟨t',rfl⟩:=r2
 exact isub_int ⟨.int _,H,I.tok _,⟨_,rfl⟩,q⟩
end
section
variable{X:Cx}{pos:Pos}
end
structure It where
 go:Nat->Hp->Prop
 yld:Nat->Hp->V->Hp->Prop
 stop:Nat->Hp->Prop
def zO(X:Cx)(pins:List (Addr×Obj))(H:Hp)(b:Addr):Prop:=
 H b=none/\b≠X.env.locals/\b∉X.fs/\(b∈X.ex\/X.s₀.heap.objs.size<=b)/\(∀x c,X.env.cells.lookup x=some c->c≠b)/\∀p∈X.pn++pins,p.1≠b
theorem Inv.aFJ{s:Shared}(I:Inv X pins σ H s)(hb:s.heap.objs.size<=b)(hn:H' b=none):zO X pins H' b:=by
 refine⟨hn,Sg9 (yV I.lt hb),I.aPR hb,.inr (Rn9 I.sz hb),λx c e z=>?_,λp hp z=>?_⟩
 ·obtain⟨v,q⟩:=I.cell x c e
  exact absurd (yV q.lt (by rw[z];exact hb)) (Rw9 _)
 ·exact absurd (yV (jU (I.pin p hp).1) (by rw[z];exact hb)) (Rw9 _)
structure Turn(P:Program)(w:World)(K:W.Frag)(tg:Expr)(J:It)(fp:List Addr)(it:Addr)(tn:Nat->Heap->Prop):Prop where
 mem:it∈fp
 obj:∀i h,tn i h->∀b∈fp,∃o,h.get? b=some o/\∀v,o.data≠.cell v
 keep:∀i h h',tn i h->(∀b∈fp,∀o,h.get? b=some o->h'.get? b=some o)->tn i h'
 item:∀(X:Cx),X.prog=P->X.w=w->X.K=K->X.calm=true->∀(i:Nat) (pins:List (Addr×Obj)) (s:Shared) (σ:St) (H:Hp) (E:Value->Shared->Prop),Inv X pins σ H s->(∀b∈fp,zO X pins H b)->tn i s.heap->J.go i H->
  wpAny (model P w) X.A (pyNext (.ref it)) (λr s1=>∃u,r=some u/\
   wpAny (model P w) X.A (letOwnedTupleGo tg (.ref it) u) (λ_ s2=>∃x H',Inv X pins σ H' s2/\RelV x u/\J.yld i H x H'/\tn (i+1) s2.heap/\∀b∈fp,H' b=none) E s1) E s
 done:∀(X:Cx),X.prog=P->X.w=w->X.K=K->X.calm=true->∀(i:Nat) (pins:List (Addr×Obj)) (s:Shared) (σ:St) (H:Hp) (E:Value->Shared->Prop),Inv X pins σ H s->(∀b∈fp,zO X pins H b)->tn i s.heap->J.stop i H->
  wpAny (model P w) X.A (pyNext (.ref it)) (λr s1=>r=none/\Inv X pins σ H s1) E s
 self:∀(A:Around) (i:Nat) (s:Shared) (Q:Value->Shared->Prop) (E:Value->Shared->Prop),tn i s.heap->Q (.ref it) s->wpAny (model P w) A (pyIter (.ref it)) Q E s
abbrev TI:=St->Hp->(It->Hp->Prop)->Prop
def PIE(X:Cx)(pins:List (Addr×Obj))(σ:St)(tg:Expr)(R:It->Hp->Prop)(itv:Value)(s2:Shared):Prop:=
 ∃(it:Addr) (fp:List Addr) (tn:Nat->Heap->Prop) (J:It) (H':Hp),itv=.ref it/\Inv X pins σ H' s2/\Turn X.prog X.w X.K tg J fp it tn/\tn 0 s2.heap/\(∀b∈fp,zO X pins H' b)/\R J H'
def PI(X:Cx)(tg iter:Expr)(wi:TI):Prop:=
 ∀(pins:List (Addr×Obj)) (s:Shared) (σ:St) (H:Hp) (R:It->Hp->Prop),Inv X pins σ H s->wi σ H R->
  wpAny (model X.prog X.w) X.A (eval iter X.env) (λv s1=>wpAny (model X.prog X.w) X.A (pyIter v) (PIE X pins σ tg R) X.xe s1) X.xe s
theorem aHZ{E:Value->Shared->Prop}{s:Shared}{o:Obj}{Q:Unit->Shared->Prop}(ho:s.heap.get? it=some o)(hc:o.cls=.type n)(hd:o.data=.fields vs)(hn:["enumerate","zip","dict_itemiterator","dict_reverseitemiterator","odict_iterator","itertools.zip_longest","itertools.pairwise"].contains n=false)(hQ:Q () s):wpAny M A (letOwnedTupleGo tg (.ref it) u) Q E s:=by
 unfold letOwnedTupleGo
 cases tg <;> first
  |exact wpAny_pure hQ
  |(cases u <;> first
    |exact wpAny_pure hQ
    |(
      refine wpAny_bind (wpAny_load ho ?_)
      rw[hc,hd]
      show wpAny M A (if (["enumerate","zip","dict_itemiterator","dict_reverseitemiterator","odict_iterator","itertools.zip_longest","itertools.pairwise"].contains n && vs[0]? == some (rawInt _))=true then _ else _) Q E s
      rw[if_neg (by intro h;rw[hn,St9] at h;cases h)]
      exact wpAny_pure hQ))
def Itl(K:W.Frag)(a:Addr):It:=
 ⟨λi H=>∃xs x,bS K H a xs/\xs[i]?=some x,λi H x H'=>H'=H/\∀xs,bS K H a xs->xs[i]?=some x,λi H=>∃xs,bS K H a xs/\xs.length<=i⟩
def Itt(K:W.Frag)(a:Addr):It:=
 ⟨λi H=>∃xs x,mX K H a xs/\xs[i]?=some x,λi H x H'=>H'=H/\∀xs,mX K H a xs->xs[i]?=some x,λi H=>∃xs,mX K H a xs/\xs.length<=i⟩
def Itr(lo:Int)(n:Nat):It:=⟨λi _=>i < n,λi H x H'=>H'=H/\x=.int (lo+i),λi _=>n<=i⟩
theorem aIH{P:Program}{w:World}{K:W.Frag}{tg:Expr}(a it:Addr):Turn P w K tg (Itl K a) [it] it (λi h=>h.IsListIter it a i) where
 mem:=by simp
 obj:=λi h st b hb=>by
  have e:b=it:=by simpa using hb
  subst e
  obtain⟨o,e,c,d⟩:=st
  exact⟨o,e,λv z=>by rw[d] at z;cases z⟩
 keep:=λi h h' st k=>st.at λo e=>k it (by simp) o e
 item:=by
  intro X hP hw hK hc i pins s σ H E I hf st hg
  subst hP hw hK
  obtain⟨xs,x,hq,hx⟩:=hg
  obtain⟨its,rv,p,hz⟩:=I.list hq
  obtain⟨u,hu,ru⟩:=rv.get hx
  obtain⟨f0,f1,f2,f3,f4,f5⟩:=hf it (by simp)
  refine wpAny_pyNext_list_item st p.isList (x:=u) (by simpa using hu) λh' st' sb=>?_
  have I1:Inv X pins σ H { s with heap:=h' }:=I.turned (t':=s.toks) (λb o hb e=>(sb.2 b hb).trans e) f0 f1 f3 f4 f5
  obtain⟨o,e,c,d⟩:=id st'
  exact⟨u,rfl,aHZ (s:={ s with heap:=h' }) e c d (by decide) ⟨x,H,I1,ru,⟨rfl,λys hy=>by rw[I.aCf hy hq];exact hx⟩,st',λb hb=>(hf b hb).1⟩⟩
 done:=by
  intro X hP hw hK hc i pins s σ H E I hf st hg
  subst hP hw hK
  obtain⟨xs,hq,hx⟩:=hg
  obtain⟨its,rv,p,hz⟩:=I.list hq
  obtain⟨f0,f1,f2,f3,f4,f5⟩:=hf it (by simp)
  have hl:=rv.length
  exact wpAny_pyNext_list_end (I.ok.hd hc) st p.isList (by simp;omega) λh' eb=>⟨rfl,I.turned (t':=s.toks) (λb o hb e=>eb b o hb e) f0 f1 f3 f4 f5⟩
 self:=λ_ _ _ _ _ st h=>wpAny_pyIter_listiter st h
theorem aGT{P:Program}{w:World}{K:W.Frag}{tg:Expr}(a it:Addr):Turn P w K tg (Itt K a) [it] it (λi h=>h.IsTupleIter it a i) where
 mem:=by simp
 obj:=λi h st b hb=>by
  have e:b=it:=by simpa using hb
  subst e
  obtain⟨o,e,c,d⟩:=st
  exact⟨o,e,λv z=>by rw[d] at z;cases z⟩
 keep:=λi h h' st k=>st.at λo e=>k it (by simp) o e
 item:=by
  intro X hP hw hK hc i pins s σ H E I hf st hg
  subst hP hw hK
  obtain⟨xs,x,hq,hx⟩:=hg
  obtain⟨its,rv,p,hz⟩:=I.tuple hq
  obtain⟨u,hu,ru⟩:=rv.get hx
  obtain⟨f0,f1,f2,f3,f4,f5⟩:=hf it (by simp)
  refine wpAny_pyNext_tuple_item st (show s.heap.IsTuple a its.toArray from p) (x:=u) (by simpa using hu) λh' st' sb=>?_
  have I1:Inv X pins σ H { s with heap:=h' }:=I.turned (t':=s.toks) (λb o hb e=>(sb.2 b hb).trans e) f0 f1 f3 f4 f5
  obtain⟨o,e,c,d⟩:=id st'
  exact⟨u,rfl,aHZ (s:={ s with heap:=h' }) e c d (by decide) ⟨x,H,I1,ru,⟨rfl,λys hy=>by rw[I.aD5 hy hq];exact hx⟩,st',λb hb=>(hf b hb).1⟩⟩
 done:=by
  intro X hP hw hK hc i pins s σ H E I hf st hg
  subst hP hw hK
  obtain⟨xs,hq,hx⟩:=hg
  obtain⟨its,rv,p,hz⟩:=I.tuple hq
  obtain⟨f0,f1,f2,f3,f4,f5⟩:=hf it (by simp)
  have hl:=rv.length
  exact wpAny_pyNext_tuple_end (I.ok.hd hc) st (show s.heap.IsTuple a its.toArray from p) (by simp;omega) λh' eb=>⟨rfl,I.turned (t':=s.toks) (λb o hb e=>eb b o hb e) f0 f1 f3 f4 f5⟩
 self:=λ_ _ _ _ _ st h=>wpAny_pyIter_tupleiter st h
theorem aGU{P:Program}{w:World}{K:W.Frag}{tg:Expr}(it:Addr)(lo:Int)(n:Nat):Turn P w K tg (Itr lo n) [it] it (λi h=>IsRangeIter h it (lo+(i:Nat)*1) ((n:Int) - (i:Nat)) 1) where
 mem:=by simp
 obj:=λi h st b hb=>by
  have e:b=it:=by simpa using hb
  subst e
  exact⟨_,st,λv z=>by
   have z':Data.fields _=Data.cell v:=z
   cases z'⟩
 keep:=λi h h' st k=>k it (by simp) _ st
 item:=by
  intro X hP hw hK hc i pins s σ H E I hf st hg
  subst hP hw hK
  obtain⟨f0,f1,f2,f3,f4,f5⟩:=hf it (by simp)
  have W:=Walks.range (prog:=X.prog) (w:=X.w) (I.ok.hd hc) it lo 1 n
  refine W.item i s _ _ hg st λv h' tk hv st' kk=>?_
  obtain⟨t,rfl⟩:=hv
  have I1:Inv X pins σ H { s with heap:=h',toks:=tk }:=I.turned (λb o hb e=>kk b o (by simpa using hb) e) f0 f1 f3 f4 f5
  refine⟨_,rfl,aHZ (s:={ s with heap:=h',toks:=tk }) (n:="range_iterator") st' rfl rfl (by decide) ⟨.int (lo+i),H,I1,⟨t,?_⟩,⟨rfl,rfl⟩,st',λb hb=>(hf b hb).1⟩⟩
  rw[Ta9]
 done:=by
  intro X hP hw hK hc i pins s σ H E I hf st hg
  subst hP hw hK
  obtain⟨f0,f1,f2,f3,f4,f5⟩:=hf it (by simp)
  exact wpAny_pyNext_range_end (I.ok.hd hc) st (by have:n<=i:=hg;omega) λh' eb=>⟨rfl,I.turned (t':=s.toks) (λb o hb e=>eb b o hb e) f0 f1 f3 f4 f5⟩
 self:=λ_ _ _ _ _ st h=>wpAny_pyIter_rangeiter st h
end L2
namespace L2
open PySem PySem.Spec PyProof.Rows
section
variable{X:Cx}{tg:Expr}
def aJL(K:W.Frag)(tl:TE):TI:=λσ H R=>tl σ H λx H1=>∃a,x=.ref a/\(∃xs,bS K H1 a xs)/\R (Itl K a) H1
def aNP(K:W.Frag)(tl:TE):TI:=λσ H R=>tl σ H λx H1=>∃a,x=.ref a/\(∃xs,mX K H1 a xs)/\R (Itt K a) H1
theorem aLI{l:Expr}{tl:TE}(hl:PE X l tl):PI X tg l (aJL X.K tl):=by
 intro pins s σ H R I h
 refine dI (hl pins s σ H _ I h) λv s1 ⟨x,H1,I1,r1,q1⟩=>?_
 obtain⟨a,e,⟨xs,hq⟩,q⟩:=q1
 subst e
 cases r1
 obtain⟨its,rv,p,hz⟩:=I1.list hq
 refine wpAny_pyIter_list p.isList ?_
 refine⟨s1.heap.objs.size,[s1.heap.objs.size],_,_,H1,rfl,I1.kept (t':=s1.toks) λb o e=>kS _ e,aIH a _,⟨_,xI _ rfl,rfl,rfl⟩,λb hb=>?_,q⟩
 have e:b=s1.heap.objs.size:=by simpa using hb
 subst e
 exact I1.aFJ (fJ _) (I1.hok.fresh (fJ _))
theorem aNQ{l:Expr}{tl:TE}(hl:PE X l tl):PI X tg l (aNP X.K tl):=by
 intro pins s σ H R I h
 refine dI (hl pins s σ H _ I h) λv s1 ⟨x,H1,I1,r1,q1⟩=>?_
 obtain⟨a,e,⟨xs,hq⟩,q⟩:=q1
 subst e
 cases r1
 obtain⟨its,rv,p,hz⟩:=I1.tuple hq
 refine wpAny_pyIter_tuple (show s1.heap.IsTuple a its.toArray from p) ?_
 refine⟨s1.heap.objs.size,[s1.heap.objs.size],_,_,H1,rfl,I1.kept (t':=s1.toks) λb o e=>kS _ e,aGT a _,⟨_,xI _ rfl,rfl,rfl⟩,λb hb=>?_,q⟩
 have e:b=s1.heap.objs.size:=by simpa using hb
 subst e
 exact I1.aFJ (fJ _) (I1.hok.fresh (fJ _))
theorem aFK{s:Shared}{R:It->Hp->Prop}{E:Value->Shared->Prop}{lo hi:Int}{t u v:Tok}{tk:Nat}(I:Inv X pins σ H s)(h1:-(2 ^ 62)<=lo)(h2:lo < 2 ^ 62)(h3:-(2 ^ 62)<=hi)(h4:hi < 2 ^ 62)(q:R (Itr lo (hi - lo).toNat) H):wpAny (model X.prog X.w) X.A (pyIter (.ref s.heap.objs.size)) (PIE X pins σ tg R) E { s with heap:=s.heap.push { cls:=.type "range",data:=.fields #[.int lo t,.int hi u,.int 1 v] },toks:=tk }:=by
 refine wpAny_pyIter_range (IsRange.new ..) (small_one h1 h2 h3 h4) ?_
 have I1:Inv X pins σ H { s with heap:=s.heap.push { cls:=.type "range",data:=.fields #[.int lo t,.int hi u,.int 1 v] },toks:=tk }:=I.kept λb o e=>kS _ e
 refine⟨(s.heap.push { cls:=.type "range",data:=.fields #[.int lo t,.int hi u,.int 1 v] }).objs.size,[(s.heap.push { cls:=.type "range",data:=.fields #[.int lo t,.int hi u,.int 1 v] }).objs.size],_,_,H,rfl,
  I1.kept (t':=tk) λb o e=>kS _ e,aGU _ lo (hi - lo).toNat,?_,λb hb=>?_,q⟩
 ·have e1:lo+((0:Nat):Int)*1=lo:=by simp
  have e2:(((hi - lo).toNat:Nat):Int) - ((0:Nat):Int)=Builtin.Range.rangeSize lo hi 1:=by rw[rangeSize_one];split <;> omega
  show IsRangeIter _ _ (lo+((0:Nat):Int)*1) ((((hi - lo).toNat:Nat):Int) - ((0:Nat):Int)) 1
  rw[e1,e2]
  exact xI _ rfl
 ·have e:b=(s.heap.push { cls:=.type "range",data:=.fields #[.int lo t,.int hi u,.int 1 v] }).objs.size:=by simpa using hb
  subst e
  exact I1.aFJ (fJ _) (I1.hok.fresh (fJ _))
def aH0(ta:TA):TI:=λσ H R=>ta σ H λvs H1=>∃j:Int,vs=[.int j]/\-(2 ^ 62)<=j/\j < 2 ^ 62/\R (Itr 0 j.toNat) H1
def aH1(ta:TA):TI:=λσ H R=>ta σ H λvs H1=>∃i j:Int,vs=[.int i,.int j]/\(-(2 ^ 62)<=i/\i < 2 ^ 62/\-(2 ^ 62)<=j/\j < 2 ^ 62)/\R (Itr i (j - i).toNat) H1
theorem aII{a:Expr}{ta:TA}{p pos:Pos}(hg:Gl X "range")(hm:X.mg "range" = none)(ha:PA X [a] ta)(hs:starEach [a] X.env=[(false,eval a X.env)]:=by rfl):PI X tg (.Call (.Name "range" p) [a] [] pos) (aH0 ta):=by
 intro pins s σ H R I h
 refine Call_ (rM I hg hm boot_range (PyProof.Rows.callWith_type1 (dI (ha pos pins s σ H _ I h) λus s1 ⟨vs,H1,I1,r1,q1⟩=>?_) hs rfl))
 obtain⟨j,e,q1,q2,q⟩:=q1
 subst e
 cases r1 with
 |cons r rr=>
  cases rr
  obtain⟨t,rfl⟩:=r
  exact call_range_1 (aFK I1 (by omega) (by omega) q1 q2 (by simpa using q))
theorem aIJ{a b:Expr}{ta:TA}{p pos:Pos}(hg:Gl X "range")(hm:X.mg "range" = none)(ha:PA X [a,b] ta)(hs:starEach [a,b] X.env=[(false,eval a X.env),(false,eval b X.env)]:=by rfl)(hs2:starEach [b] X.env=[(false,eval b X.env)]:=by rfl) :
  PI X tg (.Call (.Name "range" p) [a,b] [] pos) (aH1 ta):=by
 intro pins s σ H R I h
 refine Call_ (rM I hg hm boot_range (PyProof.Rows.callWith_type1 (dI (ha pos pins s σ H _ I h) λus s1 ⟨vs,H1,I1,r1,q1⟩=>?_) (by rw[hs,hs2]) (by rw[hs2];rfl)))
 obtain⟨i,j,e,⟨q1,q2,q3,q4⟩,q⟩:=q1
 subst e
 cases r1 with
 |cons r rr=>
  cases rr with
  |cons r' rr=>
   cases rr
   obtain⟨t,rfl⟩:=r
   obtain⟨t',rfl⟩:=r'
   exact call_range_2 (aFK I1 q1 q2 q3 q4 q)
def aNR(wi:TI)(g:TG)(tb:TS):TS:=λD σ H=>wi σ H λJ H1=>∃W:Nat->Nat->St->Hp->Prop,(∃m,W 0 m σ H1)/\∀i m σ H,W i m σ H->
 (J.stop i H/\D.nx σ H)\/(J.go i H/\∃N:St->Hp->Prop,(∀σ' H',N σ' H'->∃m',m' < m/\W (i+1) m' σ' H')/\∀x H',J.yld i H x H'->g x σ H' λσ2 H2=>tb { D with nx:=N,ct:=N,bk:=D.nx } σ2 H2)
def aCg(fp:List Addr)(h:Heap):List (Addr×Obj):=fp.filterMap λb=>(h.get? b).map λo=>(b,o)
theorem sU{h:Heap}(hb:b∈fp)(e:h.get? b=some o):(b,o)∈aCg fp h:=List.mem_filterMap.mpr ⟨b,hb,by rw[e];rfl⟩
theorem aIK{h:Heap}{p:Addr×Obj}(hp:p∈aCg fp h):p.1∈fp/\h.get? p.1=some p.2:=by
 obtain⟨b,hb,e⟩:=List.mem_filterMap.mp hp
 cases q:h.get? b with
 |none=>rw[q] at e;cases e
 |some o=>
  rw[q] at e
  have e':(b,o)=p:=Option.some.inj e
  subst e'
  exact⟨hb,q⟩
theorem Inv.pinned{s:Shared}(I:Inv X pins σ H s)(hf:∀b∈fp,zO X pins H b)(ho:∀b∈fp,∃o,s.heap.get? b=some o/\∀v,o.data≠.cell v):Inv X (pins++aCg fp s.heap) σ H s:=
 I.aB4 λp hp=>(Rd9.mp hp).elim (λz=>I.pin p (Qw9 _ z)) λz=>by
  obtain⟨hb,e⟩:=aIK z
  obtain⟨f0,f1,f2,_⟩:=hf p.1 hb
  obtain⟨o,e',d⟩:=ho p.1 hb
  rw[e] at e';cases e'
  exact⟨e,f0,f1,f2,d⟩
theorem Inv.zP(I:Inv X (pins++pl) σ H s):Inv X pins σ H s:=I.aB4 λp hp=>I.pin p (Qw9 _ (Sa9 _ hp))
theorem aNS{iter:Expr}{body:List Stmt}{wi:TI}{g:TG}{tb:TS}{pos:Pos}(hp:PassesOwn (model X.prog X.w) X.A X.env X.xe)(hc:X.calm=true)(hi:PI X tg iter wi)(hg:PG X tg g)(hb:PSs X body tb)
  (hs:∀x,foldedSetIterable iter X.env x=pure x:=by intro _;rfl):PS X (.For tg iter body [] pos) (aNR wi g tb):=by
 intro pins s σ H D I h
 refine wpAny_For (dI (hi pins s σ H _ I h) λv s1 h1=>dI h1 λitv s2 h2=>?_) hs
 obtain⟨it,fp,tn,J,H2,e,I2,T,st2,f2,W,⟨m0,w0⟩,turn⟩:=h2
 subst e
 have stat:∀{H':Hp},(∀b∈fp,H' b=none)->∀b∈fp,zO X pins H' b:=λhn b hb=>⟨hn b hb,(f2 b hb).2⟩
 refine codeAny_forLoop_any (λn s'=>∃i σ' H',Inv X pins σ' H' s'/\tn i s'.heap/\(∀b∈fp,H' b=none)/\W i n σ' H') ?_ m0 ⟨0,σ,H2,I2,st2,λb hb=>(f2 b hb).1,w0⟩
 rintro n s3 ⟨i,σ3,H3,I3,st3,fr3,w3⟩
 rcases turn i n σ3 H3 w3 with ⟨stop,qn⟩|⟨go,N,hN,step⟩
 ·refine wpAny_passesOwn hp (dI (T.done X rfl rfl rfl hc i pins s3 σ3 H3 X.xe I3 (stat fr3) st3 stop) λr s4 ⟨hr,I4⟩=>?_)
  subst hr
  exact wpAny_execs_nil ⟨σ3,H3,I4,qn⟩
 ·refine wpAny_passesOwn hp (dI (T.item X rfl rfl rfl hc i pins s3 σ3 H3 X.xe I3 (stat fr3) st3 go) λr s4 ⟨u,hr,h4⟩=>?_)
  subst hr
  refine wpAny_passesOwn hp (dI h4 λ_ s5 ⟨x,H5,I5,r5,y5,st5,fr5⟩=>?_)
  have I5':=I5.pinned (stat fr5) (T.obj _ _ st5)
  refine wpAny_passesOwn hp (dI (hg _ s5 σ3 H5 x u _ I5' r5 (step x H5 y5)) λ_ s6 ⟨σ6,H6,I6,q6⟩=>?_)
  refine wpAny_passesOwn hp (dI (hb _ s6 σ6 H6 _ I6 q6) λf s7 q7=>?_)
  have again:∀{σ7:St} {H7:Hp},Inv X (pins++aCg fp s5.heap) σ7 H7 s7->N σ7 H7->∃m,m < n/\∃i σ' H',Inv X pins σ' H' s7/\tn i s7.heap/\(∀b∈fp,H' b=none)/\W i m σ' H':=λ{σ7 H7} I7 n7=>by
   obtain⟨m',hm,w7⟩:=hN σ7 H7 n7
   refine⟨m',hm,i+1,σ7,H7,I7.zP,T.keep _ _ _ st5 λb hb o e=>(I7.pin (b,o) (Qw9 _ (Qw9 _ (sU hb e)))).1,λb hb=>?_,w7⟩
   obtain⟨o,e,d⟩:=T.obj _ _ st5 b hb
   exact(I7.pin (b,o) (Qw9 _ (Qw9 _ (sU hb e)))).2.1
  cases f with
  |next=>obtain⟨σ7,H7,I7,n7⟩:=q7;exact again I7 n7
  |cont=>obtain⟨σ7,H7,I7,n7⟩:=q7;exact again I7 n7
  |brk=>obtain⟨σ7,H7,I7,q7⟩:=q7;exact⟨σ7,H7,I7.zP,q7⟩
  |ret v=>obtain⟨x7,σ7,H7,I7,r7,q7⟩:=q7;exact⟨x7,σ7,H7,I7.zP,r7,q7⟩
end
theorem aJM{K:W.Frag}{a:Addr}{xs:List V}{g:TG}{tb:TS}{D:Ends}{σ:St}{H:Hp}(Pv:Nat->St->Hp->Prop)(h0:Pv 0 σ H)(hl:∀i σ H,i<=xs.length->Pv i σ H->bS K H a xs)
  (hs:∀i x σ H,xs[i]?=some x->Pv i σ H->g x σ H λσ2 H2=>tb { D with nx:=Pv (i+1),ct:=Pv (i+1),bk:=D.nx } σ2 H2) (hd:∀σ H,Pv xs.length σ H->D.nx σ H) :
  ∃W:Nat->Nat->St->Hp->Prop,(∃m,W 0 m σ H)/\∀i m σ H,W i m σ H->
   ((Itl K a).stop i H/\D.nx σ H)\/((Itl K a).go i H/\∃N:St->Hp->Prop,(∀σ' H',N σ' H'->∃m',m' < m/\W (i+1) m' σ' H')/\∀x H',(Itl K a).yld i H x H'->g x σ H' λσ2 H2=>tb { D with nx:=N,ct:=N,bk:=D.nx } σ2 H2):=by
 refine⟨λi m σ H=>m=xs.length - i/\i<=xs.length/\Pv i σ H,⟨xs.length,by simp,Rr9 _,h0⟩,?_⟩
 rintro i m σ H ⟨rfl,hi,p⟩
 have q:=hl i σ H hi p
 by_cases hlt:i < xs.length
 ·refine .inr ⟨⟨xs,xs[i],q,by simp[hlt]⟩,Pv (i+1),λσ' H' p'=>⟨xs.length - (i+1),by omega,rfl,hlt,p'⟩,λx H' y=>?_⟩
  obtain⟨e,y⟩:=y
  subst e
  exact hs i x σ _ (y xs q) p
 ·have e:i=xs.length:=by omega
  subst e
  exact .inl ⟨⟨xs,q,fJ _⟩,hd σ H p⟩
theorem aLJ{K:W.Frag}{a:Addr}{xs:List V}{g:TG}{tb:TS}{D:Ends}{σ:St}{H:Hp}(Pv:Nat->St->Hp->Prop)(h0:Pv 0 σ H)(hl:∀i σ H,i<=xs.length->Pv i σ H->mX K H a xs)
  (hs:∀i x σ H,xs[i]?=some x->Pv i σ H->g x σ H λσ2 H2=>tb { D with nx:=Pv (i+1),ct:=Pv (i+1),bk:=D.nx } σ2 H2) (hd:∀σ H,Pv xs.length σ H->D.nx σ H) :
  ∃W:Nat->Nat->St->Hp->Prop,(∃m,W 0 m σ H)/\∀i m σ H,W i m σ H->
   ((Itt K a).stop i H/\D.nx σ H)\/((Itt K a).go i H/\∃N:St->Hp->Prop,(∀σ' H',N σ' H'->∃m',m' < m/\W (i+1) m' σ' H')/\∀x H',(Itt K a).yld i H x H'->g x σ H' λσ2 H2=>tb { D with nx:=N,ct:=N,bk:=D.nx } σ2 H2):=by
 refine⟨λi m σ H=>m=xs.length - i/\i<=xs.length/\Pv i σ H,⟨xs.length,by simp,Rr9 _,h0⟩,?_⟩
 rintro i m σ H ⟨rfl,hi,p⟩
 have q:=hl i σ H hi p
 by_cases hlt:i < xs.length
 ·refine .inr ⟨⟨xs,xs[i],q,by simp[hlt]⟩,Pv (i+1),λσ' H' p'=>⟨xs.length - (i+1),by omega,rfl,hlt,p'⟩,λx H' y=>?_⟩
  obtain⟨e,y⟩:=y
  subst e
  exact hs i x σ _ (y xs q) p
 ·have e:i=xs.length:=by omega
  subst e
  exact .inl ⟨⟨xs,q,fJ _⟩,hd σ H p⟩
theorem aIL{lo:Int}{n:Nat}{g:TG}{tb:TS}{D:Ends}{σ:St}{H:Hp}(Pv:Nat->St->Hp->Prop)(h0:Pv 0 σ H)
  (hs:∀i σ H,i < n->Pv i σ H->g (.int (lo+i)) σ H λσ2 H2=>tb { D with nx:=Pv (i+1),ct:=Pv (i+1),bk:=D.nx } σ2 H2) (hd:∀σ H,Pv n σ H->D.nx σ H) :
  ∃W:Nat->Nat->St->Hp->Prop,(∃m,W 0 m σ H)/\∀i m σ H,W i m σ H->
   ((Itr lo n).stop i H/\D.nx σ H)\/((Itr lo n).go i H/\∃N:St->Hp->Prop,(∀σ' H',N σ' H'->∃m',m' < m/\W (i+1) m' σ' H')/\∀x H',(Itr lo n).yld i H x H'->g x σ H' λσ2 H2=>tb { D with nx:=N,ct:=N,bk:=D.nx } σ2 H2):=by
 refine⟨λi m σ H=>m=n - i/\i<=n/\Pv i σ H,⟨n,by simp,Rr9 _,h0⟩,?_⟩
 rintro i m σ H ⟨rfl,hi,p⟩
 by_cases hlt:i < n
 ·refine .inr ⟨hlt,Pv (i+1),λσ' H' p'=>⟨n - (i+1),by omega,rfl,hlt,p'⟩,λx H' y=>?_⟩
  obtain⟨e,y⟩:=y
  subst e y
  exact hs i σ _ hlt p
 ·have e:i=n:=by omega
  subst e
  exact .inl ⟨fJ _,hd σ H p⟩
end L2
namespace L2
open PySem PySem.Spec PyProof.Rows
abbrev R2:=V->V->Hp->VK->Prop
def vJ(X:Cx)(f:Value->Value->Sem Value)(r:R2):Prop:=
 ∀(pins:List (Addr×Obj)) (s:Shared) (σ:St) (H:Hp) (x y:V) (v u:Value) (Q:VK),Inv X pins σ H s->RelV x v->RelV y u->r x y H Q->
  wpAny (model X.prog X.w) X.A (f v u) (EP X pins σ Q) X.xe s
def UnR(X:Cx)(f:Value->Sem Value)(r:V->Hp->VK->Prop):Prop:=
 ∀(pins:List (Addr×Obj)) (s:Shared) (σ:St) (H:Hp) (x:V) (v:Value) (Q:VK),Inv X pins σ H s->RelV x v->r x H Q->
  wpAny (model X.prog X.w) X.A (f v) (EP X pins σ Q) X.xe s
def eN(X:Cx)(f:Value)(r:List V->Hp->VK->Prop):Prop:=
 ∀(pins:List (Addr×Obj)) (s:Shared) (σ:St) (H:Hp) (xs:List V) (us:List Value) (Q:VK),Inv X pins σ H s->Vals xs us->r xs H Q->
  wpAny (model X.prog X.w) X.A (call f us) (EP X pins σ Q) X.xe s
def tOp(r:R2)(ta tb:TE):TE:=λσ H Q=>ta σ H λx H1=>tb σ H1 λy H2=>r x y H2 Q
def tUn(r:V->Hp->VK->Prop)(ta:TE):TE:=λσ H Q=>ta σ H λx H1=>r x H1 Q
def rI(C:Int->Int->Prop)(g:Int->Int->V):R2:=λx y H Q=>∃i j,x=.int i/\y=.int j/\C i j/\Q (g i j) H
def rI0(g:Int->Int->V):R2:=λx y H Q=>∃i j,x=.int i/\y=.int j/\Q (g i j) H
def rU(g:Int->V):V->Hp->VK->Prop:=λx H Q=>∃i,x=.int i/\Q (g i) H
section
variable{X:Cx}{a b c:Expr}{ta tb tc:TE}{pos:Pos}
theorem aNT(ha:PE X a ta)(hb:PE X b tb){pins:List (Addr×Obj)}{s:Shared}{σ:St}{H:Hp}{R:V->V->Hp->Prop}(I:Inv X pins σ H s)
  (h:ta σ H λx H1=>tb σ H1 λy H2=>R x y H2) {Q:Value->Shared->Prop} {f:Value->Value->Sem Value}
  (hf:∀v u s2 x y H2,Inv X pins σ H2 s2->RelV x v->RelV y u->R x y H2->wpAny (model X.prog X.w) X.A (f v u) Q X.xe s2) :
  wpAny (model X.prog X.w) X.A (eval a X.env) (λv s₁=>wpAny (model X.prog X.w) X.A (eval b X.env) (λu s₂=>wpAny (model X.prog X.w) X.A (f v u) Q X.xe s₂) X.xe s₁) X.xe s:=by
 refine dI (ha pins s σ H _ I h) λv s1 ⟨x,H1,I1,r1,q1⟩=>?_
 refine dI (hb pins s1 σ H1 _ I1 q1) λu s2 ⟨y,H2,I2,r2,q2⟩=>?_
 exact hf v u s2 x y H2 I2 r1 r2 q2
theorem aO9(ho:vJ X (binaryOp op) r)(ha:PE X a ta)(hb:PE X b tb):PE X (.BinOp a op b pos) (tOp r ta tb):=by
 intro pins s σ H Q I h
 exact wpAny_BinOp (aNT ha hb I h λv u s2 x y H2 I2 rx ry q=>ho pins s2 σ H2 x y v u Q I2 rx ry q)
theorem aPa{r:V->Hp->VK->Prop}(ho:UnR X (unaryOp op) r)(ha:PE X a ta):PE X (.UnaryOp op a pos) (tUn r ta):=by
 intro pins s σ H Q I h
 exact UnaryOp_ (dI (ha pins s σ H _ I h) λv s1 ⟨x,H1,I1,r1,q1⟩=>ho pins s1 σ H1 x v Q I1 r1 q1)
theorem opI{f:Value->Value->Sem Value}{C:Int->Int->Prop}{g:Int->Int->Int}
  (rule:∀(i j:Int) (t u:Tok) (s:Shared) (Q:Value->Shared->Prop) (E:Value->Shared->Prop),C i j->Q (.int (g i j) s.toks) { s with toks:=s.toks+1 }->wpAny (model X.prog X.w) X.A (f (.int i t) (.int j u)) Q E s) :
  vJ X f (rI C λi j=>.int (g i j)):=by
 intro pins s σ H x y v u Q I rx ry h
 obtain⟨i,j,rfl,rfl,hc,q⟩:=h
 obtain⟨t,rfl⟩:=rx
 obtain⟨t',rfl⟩:=ry
 exact rule i j t t' s _ _ hc ⟨.int (g i j),H,I.tok _,⟨_,rfl⟩,q⟩
theorem aPb{f:Value->Value->Sem Value}{g:Int->Int->Int}
  (rule:∀(i j:Int) (t u:Tok) (s:Shared) (Q:Value->Shared->Prop) (E:Value->Shared->Prop),Q (.int (g i j) s.toks) { s with toks:=s.toks+1 }->wpAny (model X.prog X.w) X.A (f (.int i t) (.int j u)) Q E s) :
  vJ X f (rI0 λi j=>.int (g i j)):=by
 intro pins s σ H x y v u Q I rx ry h
 obtain⟨i,j,rfl,rfl,q⟩:=h
 obtain⟨t,rfl⟩:=rx
 obtain⟨t',rfl⟩:=ry
 exact rule i j t t' s _ _ ⟨.int (g i j),H,I.tok _,⟨_,rfl⟩,q⟩
theorem aLK{f:Value->Value->Sem Value}{g:Int->Int->Bool}
  (rule:∀(i j:Int) (t u:Tok) (s:Shared) (Q:Value->Shared->Prop) (E:Value->Shared->Prop),Q (.bool (g i j)) s->wpAny (model X.prog X.w) X.A (f (.int i t) (.int j u)) Q E s) :
  vJ X f (rI0 λi j=>.bl (g i j)):=by
 intro pins s σ H x y v u Q I rx ry h
 obtain⟨i,j,rfl,rfl,q⟩:=h
 obtain⟨t,rfl⟩:=rx
 obtain⟨t',rfl⟩:=ry
 exact rule i j t t' s _ _ ⟨.bl (g i j),H,I,rfl,q⟩
def aPT(i j:Int):Prop:=0 < j/\j < 1073741824
def aPU(i j:Int):Prop:=0<=j/\j<=1000000/\i.natAbs < 2 ^ 64
def aJN(i j:Int):Prop:=(-(2 ^ 64) < i/\i < 2 ^ 64)\/(-(2 ^ 64) < j/\j < 2 ^ 64)
theorem aJN.ok{i j:Int}(h:aJN i j):IntMulOk i j:=by
 rcases h with ⟨h1,h2⟩|⟨h1,h2⟩
 ·exact .of_left (intBits_le_64 h1 h2)
 ·exact .of_right (intBits_le_64 h1 h2)
theorem aNU:vJ X (binaryOp .Add) (rI0 λi j=>.int (i+j)):=aPb λ_ _ _ _ _ _ _ q=>add_int q
theorem jW:vJ X (binaryOp .Sub) (rI0 λi j=>.int (i - j)):=aPb λ_ _ _ _ _ _ _ q=>sub_int q
theorem aNV:vJ X (binaryOp .Mult) (rI aJN λi j=>.int (i*j)):=opI λ_ _ _ _ _ _ _ hc q=>mul_int q hc.ok
theorem aEz:vJ X (binaryOp .FloorDiv) (rI aPT λi j=>.int (i / j)):=opI λi j _ _ _ _ _ hc q=>by
 have h1:(0:Int) < j:=hc.1
 have h2:j < 1073741824:=hc.2
 exact floordiv_int (by omega) (by rw[Int.fdiv_eq_ediv_of_nonneg i (by omega)];exact q) (.inl (PyProof.noPylong_small (by omega)))
theorem mY:vJ X (binaryOp .Mod) (rI (λ_ j=>0 < j) λi j=>.int (i % j)):=opI λi j _ _ _ _ _ hc q=>by
 have h1:(0:Int) < j:=hc
 exact mod_int' (by omega) (by rw[Int.fmod_eq_emod_of_nonneg i (by omega)];exact q)
theorem aCh:vJ X (binaryOp .Pow) (rI aPU λi j=>.int (i ^ j.toNat)):=opI λ_ _ _ _ _ _ _ hc q=>pow_int_small hc.1 hc.2.1 hc.2.2 q
theorem unI{f:Value->Sem Value}{g:Int->Int}
  (rule:∀(i:Int) (t:Tok) (s:Shared) (Q:Value->Shared->Prop) (E:Value->Shared->Prop),Q (.int (g i) s.toks) { s with toks:=s.toks+1 }->wpAny (model X.prog X.w) X.A (f (.int i t)) Q E s) :
  UnR X f (rU λi=>.int (g i)):=by
 intro pins s σ H x v Q I rx h
 obtain⟨i,rfl,q⟩:=h
 obtain⟨t,rfl⟩:=rx
 exact rule i t s _ _ ⟨.int (g i),H,I.tok _,⟨_,rfl⟩,q⟩
theorem yX:UnR X (unaryOp .USub) (rU λi=>.int (-i)):=unI λ_ _ _ _ _ q=>neg_int q
end
section
variable{X:Cx}{a b c:Expr}{ta tb tc:TE}{pos:Pos}
theorem aM6:vJ X (compareOp .Lt) (rI0 λi j=>.bl (decide (i < j))):=aLK λ_ _ _ _ _ _ _ q=>lt_int q
theorem aCi:vJ X (compareOp .LtE) (rI0 λi j=>.bl (decide (i<=j))):=aLK λ_ _ _ _ _ _ _ q=>le_int q
theorem aBf:vJ X (compareOp .Gt) (rI0 λi j=>.bl (decide (j < i))):=aLK λ_ _ _ _ _ _ _ q=>gt_int q
theorem aM7:vJ X (compareOp .GtE) (rI0 λi j=>.bl (decide (j<=i))):=aLK λ_ _ _ _ _ _ _ q=>ge_int q
theorem vJ.or{f:Value->Value->Sem Value}{r':R2}(h:vJ X f r)(h':vJ X f r'):vJ X f (λx y H Q=>r x y H Q\/r' x y H Q):=by
 intro pins s σ H x y v u Q I rx ry q
 rcases q with q|q
 ·exact h pins s σ H x y v u Q I rx ry q
 ·exact h' pins s σ H x y v u Q I rx ry q
theorem bK(b:Expr)(h:op≠.In:=by decide)(h2:op≠.NotIn:=by decide):behindInMarks op b=false:=by
 have e1:(op == CmpOp.In)=false:=by cases op <;> first|rfl|exact absurd rfl h
 have e2:(op == CmpOp.NotIn)=false:=by cases op <;> first|rfl|exact absurd rfl h2
 cases b <;> simp[behindInMarks,e1,e2]
theorem aLL(ho:vJ X (compareOp op) r)(ha:PE X a ta)(hb:PE X b tb)(hm:behindInMarks op b=false):PE X (.Compare a [op] [b] pos) (tOp r ta tb):=by
 intro pins s σ H Q I h
 exact wpAny_Compare1 (aNT ha hb I h λv u s2 x y H2 I2 rx ry q=>ho pins s2 σ H2 x y v u Q I2 rx ry q) hm
def aJO(t:TE):TT:=λσ H Q=>t σ H λx H'=>∃k,x=.bl k/\Q k H'
theorem aLM{op:CmpOp}{r:R2}(ho:vJ X (compareOp op) r)(ha:PE X a ta)(hb:PE X b tb)(hm:behindInMarks op b=false):PT X (.Compare a [op] [b] pos) (aJO (tOp r ta tb)):=by
 intro pins s σ H Q I h
 refine wpAny_isTrue_Compare1 (dI (ha pins s σ H _ I h) λv s1 ⟨x,H1,I1,r1,q1⟩=>dI (hb pins s1 σ H1 _ I1 q1) λu s2 ⟨y,H2,I2,r2,q2⟩=>
  dI (ho pins s2 σ H2 x y v u _ I2 r1 r2 q2) λc s3 ⟨z,H3,I3,r3,k,e,q3⟩=>?_) hm
 subst e
 cases r3
 exact wpAny_truthy_bool ⟨H3,I3,q3⟩
def aGV(r r':R2)(ta tb tc:TE):TE:=λσ H Q=>ta σ H λx H1=>tb σ H1 λy H2=>r x y H2 λz H3=>∃k,z=.bl k/\
 (if k=true then tc σ H3 λw' H4=>r' y w' H4 Q else Q (.bl false) H3)
theorem aJP{op op':CmpOp}{r r':R2}(ho:vJ X (compareOp op) r)(ho':vJ X (compareOp op') r')(ha:PE X a ta)(hb:PE X b tb)(hc:PE X c tc)
  (hm:lastMarks [op,op'] [b,c]=false:=by with_unfolding_all rfl):PE X (.Compare a [op,op'] [b,c] pos) (aGV r r' ta tb tc):=by
 intro pins s σ H Q I h
 refine Compare_chain (dI (ha pins s σ H _ I h) λv s1 ⟨x,H1,I1,r1,q1⟩=>chain_link (dI (hb pins s1 σ H1 _ I1 q1) λu s2 ⟨y,H2,I2,r2,q2⟩=>
  dI (ho pins s2 σ H2 x y v u _ I2 r1 r2 q2) λd s3 ⟨z,H3,I3,r3,k,e,q3⟩=>?_)) hm
 subst e
 cases r3
 refine wpAny_truthy_bool ?_
 cases k with
 |false=>exact ite_ff ⟨.bl false,H3,I3,rfl,q3⟩
 |true=>exact ite_tt (chain_last (dI (hc pins s3 σ H3 _ I3 q3) λw' s4 ⟨z',H4,I4,r4,q4⟩=>ho' pins s4 σ H4 y z' u w' Q I4 r2 r4 q4))
theorem aAP:(sizeLine:Nat) < 2 ^ 63:=by rw[sizeLine_eq];decide
theorem vals1(r:Vals [x] us):∃u,us=[u]/\RelV x u:=by
 cases r with
 |cons r1 r2=>cases r2;exact⟨_,rfl,r1⟩
theorem vals2(r:Vals [x,y] us):∃u w',us=[u,w']/\RelV x u/\RelV y w':=by
 cases r with
 |cons r1 r2=>
  cases r2 with
  |cons r3 r4=>cases r4;exact⟨_,_,rfl,r1,r3⟩
theorem aJQ:eN X (.builtin "abs") (λxs H Q=>∃i,xs=[.int i]/\Q (.int (if i < 0 then -i else i)) H):=by
 intro pins s σ H xs us Q I r h
 obtain⟨i,rfl,q⟩:=h
 obtain⟨u,rfl,t,rfl⟩:=vals1 r
 exact call_abs_int λu tk=>⟨.int (if i < 0 then -i else i),H,I.tok _,⟨_,rfl⟩,q⟩
theorem aIM(hc:X.calm=true):eN X (.builtin "max") (λxs H Q=>∃i j,xs=[.int i,.int j]/\Q (.int (if j > i then j else i)) H):=by
 intro pins s σ H xs us Q I r h
 obtain⟨i,j,rfl,q⟩:=h
 obtain⟨u,w',rfl,⟨t,rfl⟩,⟨t',rfl⟩⟩:=vals2 r
 refine max_two_ints (I.ok.hd hc) λh' tk k=>⟨_,H,I.kept k,?_,q⟩
 by_cases hj:j > i
 ·rw[if_pos hj,if_pos hj];exact⟨_,rfl⟩
 ·rw[if_neg hj,if_neg hj];exact⟨_,rfl⟩
theorem aIN(hc:X.calm=true):eN X (.builtin "min") (λxs H Q=>∃i j,xs=[.int i,.int j]/\Q (.int (if j < i then j else i)) H):=by
 intro pins s σ H xs us Q I r h
 obtain⟨i,j,rfl,q⟩:=h
 obtain⟨u,w',rfl,⟨t,rfl⟩,⟨t',rfl⟩⟩:=vals2 r
 refine min_two_ints (I.ok.hd hc) λh' tk k=>⟨_,H,I.kept k,?_,q⟩
 by_cases hj:j < i
 ·rw[if_pos hj,if_pos hj];exact⟨_,rfl⟩
 ·rw[if_neg hj,if_neg hj];exact⟨_,rfl⟩
theorem aIO:eN X (.type "int") (λxs H Q=>(∃i,xs=[.int i]/\Q (.int i) H)\/∃k,xs=[.bl k]/\Q (.int (if k then 1 else 0)) H):=by
 intro pins s σ H xs us Q I r h
 rcases h with ⟨i,rfl,q⟩|⟨k,rfl,q⟩
 ·obtain⟨u,rfl,t,rfl⟩:=vals1 r
  exact call_int_int ⟨.int i,H,I,⟨_,rfl⟩,q⟩
 ·obtain⟨u,rfl,r1⟩:=vals1 r
  cases r1
  exact call_int_bool ⟨.int (if k then 1 else 0),H,I.tok _,⟨_,rfl⟩,q⟩
def aPc(K:W.Frag)(x:V)(H:Hp)(n:Nat):Prop:=
 match x with
 |.str y=>y.length<=sizeLine/\n=y.length
 |.byt y=>y.size<=sizeLine/\n=y.size
 |.ref p=>(∃xs,bS K H p xs/\n=xs.length)\/∃xs,mX K H p xs/\n=xs.length
 |_=>False
theorem aJR:eN X (.builtin "len") (λxs H Q=>∃x n,xs=[x]/\aPc X.K x H n/\Q (.int n) H):=by
 intro pins s σ H xs us Q I r h
 obtain⟨x,n,rfl,e,q⟩:=h
 obtain⟨u,rfl,rx⟩:=vals1 r
 have hl:=aAP
 have hs:sizeLine=16777216:=sizeLine_eq
 cases x with
 |str y=>
  obtain⟨t,rfl⟩:=rx
  obtain⟨hy,e'⟩ : y.length<=sizeLine/\n=y.length:=e
  subst e'
  exact len_str (by omega) ⟨.int _,H,I.tok _,⟨_,rfl⟩,q⟩
 |byt y=>
  obtain⟨t,rfl⟩:=rx
  obtain⟨hy,e'⟩ : y.size<=sizeLine/\n=y.size:=e
  subst e'
  exact PySem.W.len_bytes (by omega) ⟨.int _,H,I.tok _,⟨_,rfl⟩,q⟩
 |ref p=>
  cases rx
  have e':(∃xs,bS X.K H p xs/\n=xs.length)\/∃xs,mX X.K H p xs/\n=xs.length:=e
  rcases e' with ⟨xs,hx,e'⟩|⟨xs,hx,e'⟩
  ·subst e'
   obtain⟨its,r',pl,hz⟩:=I.list hx
   have hlen:=r'.length
   exact Calls.call_len_list pl.isList (by simp only[kU];omega) ⟨.int xs.length,H,I.tok _,⟨_,by simp only[kU];rw[hlen]⟩,q⟩
  ·subst e'
   obtain⟨its,r',pl,hz⟩:=I.tuple hx
   have hlen:=r'.length
   exact len_tuple pl (by simp only[kU];omega) ⟨.int xs.length,H,I.tok _,⟨_,by simp only[kU];rw[hlen]⟩,q⟩
 |_=>exact(show False from e).elim
end
end L2
namespace L2
open PySem PySem.Spec PyProof.Rows
structure aGW(h:Heap)(x dx C:Addr)(mA:Str->Option Value):Prop where
 obj:h.get? x=some (PySem.W.instObj C dx)
 ns:h.Ns1 dx mA
 ne:dx≠x
theorem aIP{h:Heap}{mA:Str->Option Value}(n:h.Ns1 dx mA):∃od,h.get? dx=some od/\∀name,PySem.W.lookIn name od=some (mA name):=by
 obtain⟨o,es,ep,ho,hd,hk,_,hm⟩:=n
 refine⟨o,ho,λname=>?_⟩
 have e:=hm name
 unfold nsFind findBy at e
 rw[<-Array.find?_toList] at e
 unfold PySem.W.lookIn
 rw[hd]
 dsimp only
 split
 ·rename_i y q
  rw[q] at e
  exact congrArg some e
 ·rename_i q
  rw[q] at e
  have a:es.toList.any (·.refKey)=false:=by
   rw[List.any_eq_false]
   intro y hy
   obtain⟨z,t,hkey⟩:=hk y (Array.mem_toList_iff.mp hy)
   simp[DictEntry.refKey,hkey]
  have a':¬es.toList.any (·.refKey)=true:=by rw[a];exact Qp9
  rw[if_neg a']
  exact congrArg some e
theorem aGW.look{mA:Str->Option Value}(I:aGW h x dx C mA):∃od,PySem.W.InstAt h x (PySem.W.instObj C dx) C (some od)/\∀name,PySem.W.lookIn name od=some (mA name):=
 let ⟨od,ho,hl⟩:=aIP I.ns
 ⟨od,⟨I.obj,rfl,rfl,ho⟩,hl⟩
section
variable{prog:Program}{w:World}{A:Around}{E:Value->Shared->Prop}{s:Shared}{K:W.Frag}{x dx C f:Addr}{mA:Str->Option Value}{name:Str}{v:Value}
theorem get_map{expr:Bool}{Q:Value->Shared->Prop}(X:K.In s.heap)(I:aGW s.heap x dx C mA)(hg:PySem.W.plainGet K C name=true)(hh:PySem.W.hasDictIn K C=true)
  (ha:W.findIn K (.ref C) name=some none) (hv:mA name=some v) (hv':PySem.W.handedIn v=true) (h:Q v { s with toks:=s.toks+1 }) :
  wpAny (model prog w) A (getAttr (.ref x) name expr) Q E s:=by
 obtain⟨od,J,hl⟩:=I.look
 exact PySem.W.get_value X J (PySem.W.plainGet_of hg).1 (PySem.W.findObj_own hh ha rfl (by rw[hl,hv])) hv' h
theorem aJS{pl:Sem Bool}{Q:Value×List Value->Shared->Prop}(X:K.In s.heap)(I:aGW s.heap x dx C mA)(hg:PySem.W.plainGet K C name=true)
  (hf:W.findIn K (.ref C) name=some (some (.ref f))) (ht:PySem.W.isFn K (.ref f)=true) (hv:mA name=none) (h:Q (.ref f,[.ref x]) s) :
  wpAny (model prog w) A (getMethod (.ref x) name pl) Q E s:=by
 obtain⟨od,J,hl⟩:=I.look
 exact PySem.W.method_fn X J (PySem.W.plainGet_of hg).1 (PySem.W.plainGet_of hg).2 hf (beq_iff_eq.mp ht) (by show(PySem.W.lookIn name od).map (·.isSome)=some false;rw[hl,hv];rfl) h
theorem aLN{ns:List Str}{Q:Unit->Shared->Prop}(X:K.In s.heap)(I:aGW s.heap x dx C mA)
  (hs:PySem.W.findIn K (.ref C) "__setattr__" = some (some (.builtin "object.__setattr__"))) (hp:PySem.W.plainOver K C=true) (ht:PySem.W.takerIn K C name=some none) (hh:PySem.W.hasDictIn K C=true)
  (hw:PySem.Within mA ns) (hsz:ns.length<=sizeLine)
  (h:∀h',aGW h' x dx C (λy=>if y=name then some v else mA y)->Heap.SameBut dx s.heap h'->Q () { s with heap:=h',toks:=s.toks+2 }) :
  wpAny (model prog w) A (setAttr (.ref x) name v) Q E s:=by
 obtain⟨od,J,hl⟩:=I.look
 refine PySem.W.set_plain X J hs (PySem.W.osa_open (s:={ s with toks:=s.toks+1 }) (r:=none) X J hp ht λb=>?_)
 obtain⟨cd,hc,hd'⟩:=PySem.W.any_some hh
 have hx:s.heap.get? x=some ⟨.ref C,some dx,.plain,#[]⟩:=I.obj
 refine wpAny_bind (wpAny_pure (wpAny_bind (wpAny_bind (wpAny_loadPart hx (wpAny_bind (PySem.W.Looks.here (s:={ s with toks:=s.toks+1 }) (PySem.W.looks_clsIn X hc) ?_))))))
 rw[hd']
 refine wpAny_pure (a:=some dx) (wpAny_bind (wpAny_pure (wpAny_bind ?_)))
 refine wpAny_nsSet1 (s:={ s with toks:=s.toks+1 }) I.ns λh' hn2 hs2=>?_
 obtain⟨oD,esD,epD,hoD,hdD,hcD⟩:=hn2.count (PySem.Within.cons name v hw)
 refine wpAny_bind (wpAny_lookBehind hoD (by rw[hdD];exact pastItsLine_dict (Rn9 hcD (by rw[Ra9];omega))) ?_)
 exact wpAny_pure (h _ ⟨(hs2.2 _ (Ne.symm I.ne)).trans I.obj,hn2,I.ne⟩ hs2)
theorem aJT{R:Result->Shared->Prop}(X:K.In s.heap)(hm:PySem.W.makesIn K C=true)(hi:PySem.W.findIn K (.ref C) "__init__" = some (some (.ref f)))(hf:PySem.W.typeIn K (.ref f)=some (.type "function"))(h:codeAny (model prog w) (A.under (.builtin "type.__call__" ⟨.ref C::vs,kw⟩)) (.call (.ref f) ⟨.ref (s.heap.objs.size+1)::vs,kw⟩) (PySem.W.InitBack (s.heap.objs.size+1) R)
   { s with heap:=(s.heap.push PySem.W.emptyDict).push (PySem.W.instObj C s.heap.objs.size) }) :
  codeAny (model prog w) A (.call (.ref C) ⟨vs,kw⟩) R s:=by
 obtain⟨hh,g,d,t,os⟩:=s
 exact PySem.W.make_core (PySem.W.makes_of X hm) (PySem.W.looks_findIn X hi) (λself=>PySem.W.bind_fn X self hf) (.inl rfl) h
end
def sV(f:Str)(v:V):List (Str×V)->List (Str×V)
 |[]=>[(f,v)]
 |(g,x)::r=>if g=f then (g,v)::r else (g,x)::sV f v r
theorem aBg(f g:Str)(v:V):∀fs:List (Str×V),(sV f v fs).lookup g=if g=f then some v else fs.lookup g
 |[]=>by
  show List.lookup g [(f,v)]=_
  by_cases h:g=f
  ·have hb:(g == f)=true:=beq_iff_eq.mpr h
   simp only[List.lookup,hb,if_pos h]
  ·have hb:(g == f)=false:=beq_eq_false_iff_ne.mpr h
   simp only[List.lookup,hb,if_neg h]
 |(k,x)::r=>by
  have ih:=aBg f g v r
  rw[show sV f v ((k,x)::r)=(if k=f then (k,v)::r else (k,x)::sV f v r) from rfl]
  by_cases hk:k=f
  ·rw[if_pos hk]
   by_cases h:g=k
   ·have hb:(g == k)=true:=beq_iff_eq.mpr h
    simp only[List.lookup,hb,if_pos (h.trans hk)]
   ·have hb:(g == k)=false:=beq_eq_false_iff_ne.mpr h
    simp only[List.lookup,hb,if_neg (λe:g=f=>h (e.trans hk.symm))]
  ·rw[if_neg hk]
   by_cases h:g=k
   ·have hb:(g == k)=true:=beq_iff_eq.mpr h
    simp only[List.lookup,hb,if_neg (λe:g=f=>hk (h.symm.trans e))]
   ·have hb:(g == k)=false:=beq_eq_false_iff_ne.mpr h
    simp only[List.lookup,hb]
    exact ih
theorem aAQ(f:Str)(v:V):∀fs:List (Str×V),f∈(sV f v fs).map (·.1)/\∀g,g∈fs.map (·.1)->g∈(sV f v fs).map (·.1)
 |[]=>⟨by simp[sV],λg h=>by simp at h⟩
 |(k,x)::r=>by
  obtain⟨i1,i2⟩:=aAQ f v r
  rw[show sV f v ((k,x)::r)=(if k=f then (k,v)::r else (k,x)::sV f v r) from rfl]
  by_cases hk:k=f
  ·rw[if_pos hk]
   subst hk
   exact⟨by simp,λg h=>by simpa using h⟩
  ·rw[if_neg hk]
   refine⟨?_,λg h=>?_⟩
   ·rw[Rb9]
    exact Qn9 _ i1
   ·rw[Rb9] at h ⊢
    rcases xJ.mp h with e|e
    ·exact xJ.mpr (.inl e)
    ·exact Qn9 _ (i2 g e)
theorem aBh(f:Str)(v:V):∀fs:List (Str×V),(sV f v fs).length<=fs.length+1
 |[]=>by simp[sV]
 |(k,x)::r=>by
  have ih:=aBh f v r
  rw[show sV f v ((k,x)::r)=(if k=f then (k,v)::r else (k,x)::sV f v r) from rfl]
  by_cases hk:k=f
  ·rw[if_pos hk,Ra9,Ra9];omega
  ·rw[if_neg hk,Ra9,Ra9];omega
theorem vA.some_of(r:vA (some v) o):∃u,o=some u/\RelV v u:=by
 cases o with
 |none=>exact(show False from r).elim
 |some u=>exact⟨u,rfl,r⟩
theorem vA.none_of(r:vA none o):o=none:=by
 cases o with
 |none=>rfl
 |some u=>exact(show False from r).elim
theorem aIQ(r:RelV v u):PySem.W.handedIn u=true:=by
 cases v with
 |non=>cases (show u=Value.none from r);rfl
 |bl b=>cases (show u=Value.bool b from r);rfl
 |int i=>obtain⟨t,e⟩:=(show ∃t,u=Value.int i t from r);cases e;rfl
 |str x=>obtain⟨t,e⟩:=(show ∃t,u=Value.str x t from r);cases e;rfl
 |byt b=>obtain⟨t,e⟩:=(show ∃t,u=Value.bytes b t from r);cases e;rfl
 |flt b=>obtain⟨t,e⟩:=(show ∃t,u=Value.float b t from r);cases e;rfl
 |ref a=>cases (show u=Value.ref a from r);rfl
 |ty n=>cases (show u=Value.type n from r);rfl
section
variable{P:Program}{w:World}{H H':Hp}{h h':Heap}{a C dx:Addr}{fs fs':List (Str×V)}
theorem aB6(hok:vB P w H h)(e:H a=some (.ins C dx fs)):∃mA,aGW h a dx C mA/\(∀f,vA (fs.lookup f) (mA f))/\PySem.Within mA (fs.map (·.1))/\fs.length<=1000/\H dx=some (.own a):=by
 obtain⟨d,z,ne,ob,mA,n,r,q⟩:=(show bW P w H h a (.ins C dx fs) from hok a _ e)
 exact⟨mA,⟨ob,n,ne⟩,r,q,z,d⟩
end
structure Cls(K:W.Frag)(C:Addr):Prop where
 pg:PySem.W.plainGet K C Str.empty=true
 hd:PySem.W.hasDictIn K C=true
 po:PySem.W.plainOver K C=true
 sa:PySem.W.findIn K (.ref C) "__setattr__" = some (some (.builtin "object.__setattr__"))
theorem Cls.get{K:W.Frag}{C:Addr}(c:Cls K C)(f:Str):PySem.W.plainGet K C f=true:=c.pg
def cX(K:W.Frag)(C:Addr)(f:Str):Prop:=W.findIn K (.ref C) f=some none
theorem cX.aPd{K:W.Frag}{C:Addr}{f:Str}(n:cX K C f):PySem.W.takerIn K C f=some none:=by
 unfold PySem.W.takerIn
 rw[show W.findIn K (.ref C) f=some none from n]
 rfl
structure Meth(K:W.Frag)(C:Addr)(m:Str)(f:Addr):Prop where
 at_:W.findIn K (.ref C) m=some (some (.ref f))
 fn:PySem.W.isFn K (.ref f)=true
 kp:W.keepIn K (.ref f)=true
section
variable{X:Cx}{pins:List (Addr×Obj)}{σ:St}{H:Hp}{s:Shared}{a C dx:Addr}{fs:List (Str×V)}{f:Str}{v:V}{A:Around}{E:Value->Shared->Prop}
theorem aGX{b:Bool}{Q:Value->Shared->Prop}(I:Inv X pins σ H s)(e:H a=some (.ins C dx fs))(c:Cls X.K C)(n:cX X.K C f)(l:fs.lookup f=some v)
  (h:∀u s',Inv X pins σ H s'->RelV v u->Q u s'):wpAny (model X.prog X.w) A (getAttr (.ref a) f b) Q E s:=by
 obtain⟨mA,O,r,_,_,_⟩:=aB6 I.hok e
 obtain⟨u,hu,ru⟩:=vA.some_of (v:=v) (o:=mA f) (by rw[<-l];exact r f)
 exact get_map I.kIn O (c.get f) c.hd n hu (aIQ ru) (h u _ (I.tok _) ru)
theorem aGY{pl:Sem Bool}{Q:Value×List Value->Shared->Prop}(I:Inv X pins σ H s)(e:H a=some (.ins C dx fs))(c:Cls X.K C)(k:Meth X.K C m g)(l:fs.lookup m=none)(h:Q (.ref g,[.ref a]) s):wpAny (model X.prog X.w) A (getMethod (.ref a) m pl) Q E s:=by
 obtain⟨mA,O,r,_,_,_⟩:=aB6 I.hok e
 have hn:mA m=none:=vA.none_of (by rw[<-l];exact r m)
 exact aJS I.kIn O (c.get m) k.at_ k.fn hn h
theorem aGZ{Q:Unit->Shared->Prop}(I:Inv X pins σ H s)(e:H a=some (.ins C dx fs))(c:Cls X.K C)(n:cX X.K C f)(hl:fs.length < 1000)(ry:RelV y u)(h:∀s',Inv X pins σ (upd H a (.ins C dx (sV f y fs))) s'->Q () s'):wpAny (model X.prog X.w) A (setAttr (.ref a) f u) Q E s:=by
 obtain⟨mA,O,r,wi,_,ho⟩:=aB6 I.hok e
 have hz:(fs.map (·.1)).length<=sizeLine:=by rw[bZ,sizeLine_eq];omega
 refine aLN I.kIn O c.sa c.po n.aPd c.hd wi hz λh' O' sb=>h _ ?_
 have hd:∃o,h'.get? dx=some o:=let ⟨o,_,_,e',_⟩:=O'.ns;⟨o,e'⟩
 refine I.write (x:=a) (e:=dx) (by rw[e];exact True.intro) (.inr ho) (λb q hb z=>(sb.2 b hb).trans z) hd ?_
 refine⟨by rw[aU O.ne];exact ho,?_,O.ne,O'.obj,_,O'.ns,λg=>?_,λg hg=>?_⟩
 ·have:=aBh f y fs;omega
 ·show vA ((sV f y fs).lookup g) (if g=f then some u else mA g)
  rw[aBg]
  by_cases q:g=f
  ·rw[if_pos q,if_pos q];exact ry
  ·rw[if_neg q,if_neg q];exact r g
 ·by_cases q:g=f
  ·rw[q];exact(aAQ f y fs).1
  ·refine(aAQ f y fs).2 g (wi g λz=>hg ?_)
   show(if g=f then some u else mA g)=none
   rw[if_neg q];exact z
theorem Inv.made(I:Inv X pins σ H s):Inv X pins σ (upd (upd H s.heap.objs.size (.own (s.heap.objs.size+1))) (s.heap.objs.size+1) (.ins C s.heap.objs.size []))
  { s with heap:=(s.heap.push PySem.W.emptyDict).push (PySem.W.instObj C s.heap.objs.size) }:=by
 have e1:(s.heap.push PySem.W.emptyDict).get? s.heap.objs.size=some PySem.W.emptyDict:=xI s.heap rfl
 have e2:((s.heap.push PySem.W.emptyDict).push (PySem.W.instObj C s.heap.objs.size)).get? (s.heap.objs.size+1)=some (PySem.W.instObj C s.heap.objs.size):=by
  have:=xI (s.heap.push PySem.W.emptyDict) (o:=PySem.W.instObj C s.heap.objs.size) rfl
  rwa[Ry9] at this
 have e3:(s.heap.push PySem.W.emptyDict).Ns s.heap.objs.size (λ_=>none):=⟨PySem.W.emptyDict,#[],_,e1,rfl,(λe he=>absurd he (by simp)),λ_=>rfl⟩
 have I1:=I.laid (a:=s.heap.objs.size) (o:=.own (s.heap.objs.size+1)) (h':=s.heap.push PySem.W.emptyDict) (t':=s.toks) (λb u q=>kS _ q) (fJ _) ⟨_,e1⟩
 refine I1.laid (a:=s.heap.objs.size+1) (o:=.ins C s.heap.objs.size []) (t':=s.toks) (λb u q=>kS _ q) (Tx9 (Ry9 _ _)) ?_
 have ne:s.heap.objs.size≠s.heap.objs.size+1:=vE (Tp9 _)
 refine⟨by rw[aU ne,aL],Rr9 _,ne,e2,λ_=>none,(Heap.Ns1.of_empty e3).at λo q=>kS _ q,λ_=>True.intro,λy hy=>absurd rfl hy⟩
theorem aLO{Q:Value->Shared->Prop}(hb:attributeBase e f env (eval e env)=eval e env)(h:wpAny (model prog w) A (eval e env) (λo s₁=>wpAny (model prog w) A (getAttr o f true) Q E s₁) E s):wpAny (model prog w) A (eval (.Attribute e f pos) env) Q E s:=
 Attribute_any_ h (by rw[arm_eval_Attribute,hb])
end
def aNW(K:W.Frag)(ta:TE)(f:Str):TE:=λσ H Q=>ta σ H λx H1=>∃a C dx fs v,x=.ref a/\H1 a=some (.ins C dx fs)/\Cls K C/\cX K C f/\fs.lookup f=some v/\Q v H1
def aNX(K:W.Frag)(ta tv:TE)(f:Str):TS:=λD σ H=>tv σ H λy H1=>ta σ H1 λx H2=>∃a C dx fs,x=.ref a/\H2 a=some (.ins C dx fs)/\Cls K C/\cX K C f/\fs.length < 1000/\
 D.nx σ (upd H2 a (.ins C dx (sV f y fs)))
section
variable{X:Cx}{o e value:Expr}{f:Str}{pos pos' tpos:Pos}{ta tv:TE}
theorem aNY(he:PE X e ta)(hb:attributeBase e f X.env (eval e X.env)=eval e X.env):PE X (.Attribute e f pos) (aNW X.K ta f):=by
 intro pins s σ H Q I h
 refine aLO hb (dI (he pins s σ H _ I h) λu s1 ⟨x,H1,I1,rx,a,C,dx,fs,v,ex,ea,c,n,l,q⟩=>?_)
 subst ex
 obtain rfl:u=Value.ref a:=rx
 exact aGX I1 ea c n l λu' s2 I2 ru=>⟨v,H1,I2,ru,q⟩
theorem aNZ(ha:PE X o ta)(hv:PE X value tv)(hs:swapsWith value (some (.Attribute o f pos')) pos.line X.env=pure false):PS X (.Assign [.Attribute o f pos'] value pos) (aNX X.K ta tv f):=by
 intro pins s σ H D I h
 refine plainObj_wpAny_Assign_Attribute (dI (hv pins s σ H _ I h) λu s1 ⟨y,H1,I1,ry,q⟩=>dI (ha pins s1 σ H1 _ I1 q) λov s2 ⟨x,H2,I2,rx,a,C,dx,fs,ex,ea,c,n,l,q2⟩=>?_) hs
 subst ex
 obtain rfl:ov=Value.ref a:=rx
 exact aGZ I2 ea c n l ry λs3 I3=>⟨σ,_,I3,q2⟩
end
section
variable{X:Cx}{pins:List (Addr×Obj)}{σ:St}{H:Hp}{s:Shared}{A:Around}{E:Value->Shared->Prop}{Q:Value->Shared->Prop}{c:Value}{b:Bool}
inductive zQ (K:W.Frag) (H:Hp):V->Value->Prop where
 |non:zQ K H .non (.type "NoneType")
 |bl (x:Bool):zQ K H (.bl x) (.type "bool")
 |int (i:Int):zQ K H (.int i) (.type "int")
 |str (x:Str):zQ K H (.str x) (.type "str")
 |flt (x:UInt64):zQ K H (.flt x) (.type "float")
 |lst {a:Addr} {xs:List V} (e:H a=some (.lst xs)):zQ K H (.ref a) (.type "list")
 |frz {a:Addr} {o:Obj} {xs:List V} (e:H a=some (.frz o (.lst xs))):zQ K H (.ref a) (.type "list")
 |tup {a:Addr} {xs:List V} (e:H a=some (.tup xs)):zQ K H (.ref a) (.type "tuple")
 |dK {a:Addr} {kvs:List (Key×V)} (e:H a=some (.dK kvs)):zQ K H (.ref a) (.type "dict")
 |dT {a:Addr} {kvs:List (List Key×V)} (e:H a=some (.dT kvs)):zQ K H (.ref a) (.type "dict")
 |ins {a C dx:Addr} {fs:List (Str×V)} (e:H a=some (.ins C dx fs)) (cl:Cls K C) (ha:PySem.W.findIn K (.ref C) "__class__" = some (some (.builtin "object.__class__")))
   (hn:PySem.W.specialIn K (.builtin "object.__class__") "__get__" = some (some (.builtin "getset_descriptor.__get__"))) (htk:PySem.W.takesIn K (.builtin "object.__class__")=some true)
   (hm:PySem.W.mroIn K C (.type "object")=some true):zQ K H (.ref a) (.ref C)
theorem aD6(I:Inv X pins σ H s)(rx:RelV x u)(ty:zQ X.K H x t)(e:PySem.W.kitOne X.K t c=some b)(h:∀tk,Q (.bool b) { s with toks:=tk }) :
  wpAny (model X.prog X.w) A (call (.builtin "isinstance") [u,c]) Q E s:=by
 cases ty with
 |non=>cases (show u=Value.none from rx);exact PySem.W.kia_one PySem.W.kitx_none I.kIn True.intro e (λz=>nomatch z) h
 |bl y=>cases (show u=Value.bool y from rx);exact PySem.W.kia_one PySem.W.kitx_bool I.kIn True.intro e (λz=>nomatch z) h
 |int i=>obtain⟨t,q⟩:=(show ∃t,u=Value.int i t from rx);cases q;exact PySem.W.kia_one PySem.W.kitx_int I.kIn True.intro e (λz=>nomatch z) h
 |str y=>obtain⟨t,q⟩:=(show ∃t,u=Value.str y t from rx);cases q;exact PySem.W.kia_one PySem.W.kitx_str I.kIn True.intro e (λz=>nomatch z) h
 |flt y=>obtain⟨t,q⟩:=(show ∃t,u=Value.float y t from rx);cases q;exact PySem.W.kia_one PySem.W.kitx_float I.kIn True.intro e (λz=>nomatch z) h
 |@lst a xs ea=>
  cases (show u=Value.ref a from rx)
  obtain⟨_,_,n,_,h1⟩:=(show bW X.prog X.w H s.heap a (.lst xs) from I.hok a _ ea)
  exact PySem.W.kia_one PySem.W.kitx_list I.kIn ⟨_,h1,rfl⟩ e (λz=>nomatch z) h
 |@frz a ob xs ea=>
  cases (show u=Value.ref a from rx)
  obtain⟨_,_,_,n,_,h1⟩:=(show bW X.prog X.w H s.heap a (.frz ob (.lst xs)) from I.hok a _ ea)
  exact PySem.W.kia_one PySem.W.kitx_list I.kIn ⟨_,h1,rfl⟩ e (λz=>nomatch z) h
 |@tup a xs ea=>
  cases (show u=Value.ref a from rx)
  obtain⟨_,_,_,p⟩:=(show bW X.prog X.w H s.heap a (.tup xs) from I.hok a _ ea)
  obtain⟨o,h1,h2,_⟩:=p
  exact PySem.W.kia_one PySem.W.kitx_tuple I.kIn ⟨o,h1,h2⟩ e (λz=>nomatch z) h
 |@dK a kvs ea=>
  cases (show u=Value.ref a from rx)
  obtain⟨_,_,vs,_,p⟩:=(show bW X.prog X.w H s.heap a (.dK kvs) from I.hok a _ ea)
  obtain⟨o,es,ep,h1,h2,_⟩:=p
  exact PySem.W.kia_one PySem.W.kitx_dict I.kIn ⟨o,h1,h2.1⟩ e (λz=>nomatch z) h
 |@dT a kvs ea=>
  cases (show u=Value.ref a from rx)
  obtain⟨_,_,xs,_,o,es,ep,h1,h2,_⟩:=(show bW X.prog X.w H s.heap a (.dT kvs) from I.hok a _ ea)
  exact PySem.W.kia_one PySem.W.kitx_dict I.kIn ⟨o,h1,h2.1⟩ e (λz=>nomatch z) h
 |@ins a C dx fs ea cl ha hn htk hm=>
  cases (show u=Value.ref a from rx)
  obtain⟨mA,O,_⟩:=aB6 I.hok ea
  obtain⟨od,J,_⟩:=O.look
  exact PySem.W.kia_one (PySem.W.kitx_own (cl.get _) cl.hd ha hn htk hm) I.kIn J e (λz=>nomatch z) h
end
end L2
namespace L2
open PySem PySem.Spec PyProof.Rows
structure eO(k:Nat)(A:Around):Prop where
 hd:A.handled=none
 dp:A.depth+3*k+5 < recursionLimit
 un:A.units+16*k+200 < cLine
theorem eO.mono{j k:Nat}(r:eO k A)(h:j<=k):eO j A:=⟨r.hd,by have:=r.dp;omega,by have:=r.un;omega⟩
theorem eO.deeper{k:Nat}{A:Around}(r:eO (k+1) A)(env:Env):eO k (A.deeper env):=
 ⟨r.hd,by have:=r.dp;show A.depth+1+3*k+5 < _;omega,by have:=r.un;show A.units+3+16*k+200 < _;omega⟩
theorem aG0{A:Around}:(A.under (.builtin "type.__call__" ⟨.ref C::us,kw⟩)).depth=A.depth+1:=by
 first|rfl|simp[Around.under,Code.weight,Code.isCreation,Code.isGuard,Code.isCaller,Code.frames,Code.isFrame,guardIds]
theorem aG1{A:Around}:(A.under (.builtin "type.__call__" ⟨.ref C::us,kw⟩)).units=A.units+1:=by
 first|rfl|simp[Around.under,Code.cUnits,Code.frames,Code.isFrame]
theorem eO.make{k:Nat}{A:Around}(r:eO (k+1) A)(C:Addr)(us:List Value)(kw:List (Str×Value)):eO k (A.under (.builtin "type.__call__" ⟨.ref C::us,kw⟩)):=
 ⟨r.hd,by have:=r.dp;rw[aG0];omega,by have:=r.un;rw[aG1];omega⟩
theorem eO.depth{k:Nat}{A:Around}(r:eO k A):A.depth < recursionLimit:=by have:=r.dp;omega
theorem eO.units{k:Nat}{A:Around}(r:eO k A):A.units+64 < cLine:=by have:=r.un;omega
def oW:TA:=λ_ H Q=>Q [] H
def bJ(ta:TE)(tr:TA):TA:=λσ H Q=>ta σ H λx H1=>tr σ H1 λxs H2=>Q (x::xs) H2
section
variable{X:Cx}{e:Expr}{es:List Expr}{te:TE}{t:TA}{pos:Pos}
theorem rN:PA X [] oW:=λ_ _ _ _ H Q I h=>Calls.spliced_nil ⟨[],H,I,.nil,h⟩
theorem aLP(ha:PE X e te)(hr:PA X es t)(hs:starEach (e::es) X.env=(false,eval e X.env)::starEach es X.env:=by rfl):PA X (e::es) (bJ te t):=by
 intro pos pins s σ H Q I h
 rw[hs]
 show wpAny _ _ (spliced ((false,eval e X.env)::backTo pos (starEach es X.env))) _ _ s
 refine Calls.spliced_cons (dI (ha pins s σ H _ I h) λu s1 ⟨x,H1,I1,r1,q1⟩=>?_)
 exact dI (hr pos pins s1 σ H1 _ I1 q1) λus s2 ⟨xs,H2,I2,r2,q2⟩=>⟨x::xs,H2,I2,.cons r1 r2,q2⟩
def aFL(t:TA):TE:=λσ H Q=>t σ H λxs H1=>xs.length<=sizeLine/\∀p,H1 p=none->Q (.ref p) (upd H1 p (.tup xs))
def yY(t:TA):TE:=λσ H Q=>t σ H λxs H1=>xs.length<=sizeLine/\∀p,H1 p=none->Q (.ref p) (upd H1 p (.lst xs))
theorem aG2{x1}(h:PA X es t):PE X (.Tuple es x1 pos) (aFL t):=by
 intro pins s σ H Q I hq
 refine wpAny_Tuple_spliced (dI (h pos pins s σ H _ I hq) λus s1 ⟨xs,H1,I1,r,z,q⟩=>⟨by rw[<-r.length];exact z,?_⟩)
 have hf:H1 s1.heap.objs.size=none:=I1.hok.fresh (fJ _)
 refine⟨.ref s1.heap.objs.size,upd H1 s1.heap.objs.size (.tup xs),I1.laid (t':=s1.toks) (λb u e=>kS _ e) (fJ _) ?_,rfl,q _ hf⟩
 exact⟨z,us,r,⟨_,xI _ rfl,rfl,_,rfl⟩⟩
theorem yZ(h:PA X es t):PE X (.List es pos) (yY t):=by
 intro pins s σ H Q I hq
 refine wpAny_List_spliced (dI (h pos pins s σ H _ I hq) λus s1 ⟨xs,H1,I1,r,z,q⟩=>⟨by rw[<-r.length];exact z,?_⟩)
 have hf:H1 s1.heap.objs.size=none:=I1.hok.fresh (fJ _)
 refine⟨.ref s1.heap.objs.size,upd H1 s1.heap.objs.size (.lst xs),I1.laid (t':=s1.toks) (λb u e=>kS _ e) (fJ _) ?_,rfl,q _ hf⟩
 exact⟨z,us,0,r,xI _ rfl⟩
end
abbrev Sp:=List V->Hp->VK->XK->Prop
abbrev CXT:=List Env->Hp->Shared->XK->Value->Shared->Prop
structure aDq(P:Program)(w:World)(K:W.Frag)(mg:Str->Option Value)(base:Heap)(A:Around)(outer:List Env)(s:Shared)(H:Hp):Prop where
 frames:A.frames=some outer
 mod:Mod K mg base
 bs:∀b o,base.get? b=some o->s.heap.get? b=some o/\H b=none
 bsz:base.objs.size<=s.heap.objs.size
 x8:s.heap.FunFrames base outer
 frf:∀b∈frs outer,H b=none
 hok:vB P w H s.heap
 bare:AllBare s.gens
def CE(outer:List Env)(P:Program)(w:World)(H:Hp)(s:Shared)(Q:VK)(u:Value)(s':Shared):Prop:=
 ∃v H',s'.os=s.os/\AllBare s'.gens/\Un (frs outer) [] H H' s.heap s'.heap/\vB P w H' s'.heap/\RelV v u/\Q v H'
def CR(CX:CXT)(outer:List Env)(P:Program)(w:World)(H:Hp)(s:Shared)(Q:VK)(E:XK)(r:Result)(s':Shared):Prop:=
 match r with
 |.ok (.ret u)=>CE outer P w H s Q u s'
 |.ok _=>False
 |.error e=>CX outer H s E e s'
structure bP(P:Program)(w:World)(K:W.Frag)(mg:Str->Option Value)(base:Heap)(CX:CXT)(k:Nat)(f:Addr)(fd:FuncData)(ps:List Str)(sp:Sp):Prop where
 len:∀vs H Q E,sp vs H Q E->vs.length=ps.length
 run:∀(A:Around) (outer:List Env) (s:Shared) (H:Hp) (args:Args) (us:List Value) (vs:List V) (Q:VK) (E:XK),eO k A->aDq P w K mg base A outer s H->BindsTo s fd args (ps.zip us)->Vals vs us->sp vs H Q E->
  codeAny (model P w) A (.call (.ref f) args) (CR CX outer P w H s Q E) s
theorem bP.imp{P:Program}{w:World}{K:W.Frag}{mg:Str->Option Value}{base:Heap}{CX:CXT}{k:Nat}{f:Addr}{fd:FuncData}{ps:List Str}{sp sp':Sp}(F:bP P w K mg base CX k f fd ps sp)
  (h:∀vs H Q E,sp' vs H Q E->sp vs H Q E):bP P w K mg base CX k f fd ps sp':=
 ⟨λvs H Q E q=>F.len vs H Q E (h _ _ _ _ q),λA outer s H args us vs Q E hr he hb hv hs=>F.run A outer s H args us vs Q E hr he hb hv (h _ _ _ _ hs)⟩
theorem aDq.make{P:Program}{w:World}{K:W.Frag}{mg:Str->Option Value}{base:Heap}{A:Around}{outer:List Env}{s:Shared}{H:Hp}(e:aDq P w K mg base A outer s H)(C:Addr)(us:List Value)(kw:List (Str×Value)) :
  aDq P w K mg base (A.under (.builtin "type.__call__" ⟨.ref C::us,kw⟩)) outer s H:=⟨by first|exact e.frames|(simpa [Around.under,Code.envs,Code.isFrame,pushEnvs] using e.frames),e.mod,e.bs,e.bsz,e.x8,e.frf,e.hok,e.bare⟩
section
variable{X:Cx}{pins:List (Addr×Obj)}{σ:St}{H:Hp}{s s':Shared}
theorem Inv.aJU(I:Inv X pins σ H s):aDq X.prog X.w X.K X.mg X.base X.A X.stack s H:=
 ⟨I.ok.frames,I.ok.mod,I.bs,Rn9 I.ok.bsz I.sz,I.stack,I.aEy,I.hok,I.bare⟩
theorem Inv.after(I:Inv X pins σ H s)(h:CE X.stack X.prog X.w H s Q u s'):EP X pins σ Q u s':=by
 obtain⟨v,H',os,bare,un,hok,r,q⟩:=h
 obtain⟨hh,g,d,t,os'⟩:=s'
 obtain rfl:os'=s.os:=os
 exact⟨v,H',I.call (h':=hh) (g':=g) (d':=d) (t':=t) (ch:=[]) un hok bare (λb z=>absurd z (by simp)),r,q⟩
end
def aFM(sp:Sp)(dvs:List V)(E:XK)(t:TA):TE:=λσ H Q=>t σ H λvs H1=>sp (vs++dvs) H1 Q E
def aH2(C:Addr)(m:Str)(sp:Sp)(dvs:List V)(E:XK)(ta:TE)(t:TA):TE:=λσ H Q=>ta σ H λx H1=>∃a dx fs,x=.ref a/\H1 a=some (.ins C dx fs)/\fs.lookup m=none/\
 t σ H1 λvs H2=>sp (x::(vs++dvs)) H2 Q E
def aFN(C:Addr)(sp:Sp)(dvs:List V)(E:XK)(t:TA):TE:=λσ H Q=>t σ H λvs H1=>∀x dx,H1 x=none->H1 dx=none->dx≠x->
 sp (.ref x::(vs++dvs)) (upd (upd H1 dx (.own x)) x (.ins C dx [])) (λv H2=>v=.non/\Q (.ref x) H2) E
def Binds(K:W.Frag)(fd:FuncData)(ps:List Str)(ds:List Value):Prop:=
 ∀(s:Shared) (us:List Value),K.In s.heap->(us++ds).length=ps.length->BindsTo s fd ⟨us,[]⟩ (ps.zip (us++ds))
theorem Binds.all{K:W.Frag}{fd:FuncData}{ps:List Str}(h:∀us:List Value,us.length=ps.length->bindArgs fd ⟨us,[]⟩=pure (ps.zip us)):Binds K fd ps []:=λs us _ hl=>by
 rw[Sd9] at hl ⊢
 exact .of_eq (h us hl)
def Passes(CX:CXT)(X:Cx)(E:XK):Prop:=∀(pins:List (Addr×Obj)) (σ:St) (H:Hp) (s:Shared) (e:Value) (s':Shared),Inv X pins σ H s->CX X.stack H s E e s'->X.xe e s'
section
variable{X:Cx}{CX:CXT}{k:Nat}{f C:Addr}{fd:FuncData}{ps:List Str}{sp:Sp}{dvs:List V}{ds:List Value}{E:XK}{x m:Str}{p pos apos:Pos}{e o:Expr}{es:List Expr}{ta:TE}{t:TA}
theorem aJV(F:bP X.prog X.w X.K X.mg X.base CX k f fd ps sp)(hr:eO k X.A)(hb:Binds X.K fd ps ds)(hd:Vals dvs ds)(hx:Passes CX X E)(I:Inv X pins σ H s)(r:Vals vs us)(h:sp (vs++dvs) H Q E):wpAny (model X.prog X.w) X.A (call (.ref f) us) (EP X pins σ Q) X.xe s:=by
 have r2:Vals (vs++dvs) (us++ds):=r.append hd
 have hl:(us++ds).length=ps.length:=by rw[<-r2.length];exact F.len _ _ _ _ h
 refine wpAny_call (codeAny_mono (F.run X.A X.stack s H ⟨us,[]⟩ (us++ds) (vs++dvs) Q E hr I.aJU (hb s us I.kIn hl) r2 h) λr s' hq=>?_)
 cases r with
 |error e=>exact hx pins σ H s e s' I hq
 |ok fl=>
  cases fl with
  |ret u=>exact I.after hq
  |next=>exact False.elim hq
  |brk=>exact False.elim hq
  |cont=>exact False.elim hq
theorem aLQ(F:bP X.prog X.w X.K X.mg X.base CX k f fd ps sp)(hr:eO k X.A)(hg:Gl X x)(hm:X.mg x=some (.ref f))(hk:W.keepIn X.K (.ref f)=true)(hb:Binds X.K fd ps ds)(hd:Vals dvs ds)(hx:Passes CX X E)
  (ha:PA X (e::es) t) (hdb:(x == ("__debug__" : Str))=false:=by decide) (he:starEach (e::es) X.env=(false,eval e X.env)::starEach es X.env:=by rfl) (hpl:(backTo pos (starEach es X.env)).any (·.1)=false:=by rfl) :
  PE X (.Call (.Name x p) (e::es) [] pos) (aFM sp dvs E t):=by
 intro pins s σ H Q I h
 refine wpAny_Call_Name_kw (aB5 I hg hm ?_ hdb)
 refine PySem.W.callWith_K (h₀:=X.base) I.ok.mod.kin hk (dI (ha pos pins s σ H _ I h) λus s1 ⟨vs,H1,I1,r,q⟩=>⟨I1.kIn,?_⟩) he hpl
 exact aJV F hr hb hd hx I1 r q
theorem aLR{pl:Sem Bool}(he:PE X o ta)(c:Cls X.K C)(hm:Meth X.K C m f)(F:bP X.prog X.w X.K X.mg X.base CX k f fd ps sp)(hr:eO k X.A)(hb:Binds X.K fd ps ds)(hd:Vals dvs ds)(hx:Passes CX X E)(ha:PA X (e::es) t)
  (hst:starEach (e::es) X.env=(false,eval e X.env)::starEach es X.env:=by rfl) (hpl:(backTo pos (starEach es X.env)).any (·.1)=false:=by rfl)
  (ht:eval (.Call (.Attribute o m apos) (e::es) [] pos) X.env=(do
   let ov <-eval o X.env
   standAt apos.atName
   let (f,first) <-holding [ov] (getMethod ov m pl)
   callWith pos f first (backTo pos (starEach (e::es) X.env)) (backToKw pos (keywordEach [] X.env))):=by rfl) :
  PE X (.Call (.Attribute o m apos) (e::es) [] pos) (aH2 C m sp dvs E ta t):=by
 intro pins s σ H Q I h
 refine PySem.W.methodCall_KW (pl:=pl) (dI (he pins s σ H _ I h) λu s1 ⟨x,H1,I1,rx,a,dx,fs,ex,ea,l,q⟩=>?_) ht
 subst ex
 obtain rfl:u=Value.ref a:=rx
 refine aGY I1 ea c hm l ?_
 refine PySem.W.callWith_K (first:=[.ref a]) (h₀:=X.base) I.ok.mod.kin hm.kp (dI (ha pos pins s1 σ H1 _ I1 q) λus s2 ⟨vs,H2,I2,r,q2⟩=>⟨I2.kIn,?_⟩) hst hpl
 exact aJV (us:=.ref a::us) (vs:=.ref a::vs) F hr hb hd hx I2 (.cons rfl r) q2
structure Mk(K:W.Frag)(C f:Addr):Prop where
 makes:PySem.W.makesIn K C=true
 init:PySem.W.findIn K (.ref C) "__init__" = some (some (.ref f))
 fn:PySem.W.isFn K (.ref f)=true
 kp:W.keepIn K (.ref C)=true
theorem aJW{H:Hp}{Q:VK}(M:Mk X.K C f)(F:bP X.prog X.w X.K X.mg X.base CX k f fd ps sp)(hr:eO (k+1) X.A)(hb:Binds X.K fd ps ds)(hd:Vals dvs ds)(hx:Passes CX X E)(I:Inv X pins σ H s)(r:Vals vs us)(h:∀x dx,H x=none->H dx=none->dx≠x->sp (.ref x::(vs++dvs)) (upd (upd H dx (.own x)) x (.ins C dx [])) (λv H2=>v=.non/\Q (.ref x) H2) E) :
  wpAny (model X.prog X.w) X.A (call (.ref C) us) (EP X pins σ Q) X.xe s:=by
 have hq:=h (s.heap.objs.size+1) s.heap.objs.size (I.hok.fresh (Nat.le_succ _)) (I.hok.fresh (fJ _)) (vE (Tp9 _))
 have I2:=Inv.made (C:=C) I
 have r2:Vals (V.ref (s.heap.objs.size+1)::(vs++dvs)) (Value.ref (s.heap.objs.size+1)::(us++ds)):=.cons rfl (r.append hd)
 have hl:(Value.ref (s.heap.objs.size+1)::us++ds).length=ps.length:=by
  have e:=r2.length
  rw[F.len _ _ _ _ hq] at e
  exact e.symm
 refine wpAny_call (aJT (f:=f) I.kIn M.makes M.init (beq_iff_eq.mp M.fn) (codeAny_mono (F.run _ X.stack _ _ ⟨Value.ref (s.heap.objs.size+1)::us,[]⟩ (Value.ref (s.heap.objs.size+1)::(us++ds)) _ _ E (hr.make C us [])
  (I2.aJU.make C us []) (hb _ (Value.ref (s.heap.objs.size+1)::us) I2.kIn hl) r2 hq) λr s' hq'=>?_))
 cases r with
 |error e=>exact hx pins σ _ _ e s' I2 hq'
 |ok fl=>
  cases fl with
  |ret u=>
   obtain⟨v,H',I3,rv,ev,q3⟩:=I2.after hq'
   subst ev
   exact⟨rv,⟨V.ref (s.heap.objs.size+1),H',I3,rfl,q3⟩⟩
  |next=>exact False.elim hq'
  |brk=>exact False.elim hq'
  |cont=>exact False.elim hq'
theorem aLS(M:Mk X.K C f)(F:bP X.prog X.w X.K X.mg X.base CX k f fd ps sp)(hr:eO (k+1) X.A)(hg:Gl X x)(hm:X.mg x=some (.ref C))(hb:Binds X.K fd ps ds)(hd:Vals dvs ds)(hx:Passes CX X E)
  (ha:PA X (e::es) t) (hdb:(x == ("__debug__" : Str))=false:=by decide) (he:starEach (e::es) X.env=(false,eval e X.env)::starEach es X.env:=by rfl) (hpl:(backTo pos (starEach es X.env)).any (·.1)=false:=by rfl) :
  PE X (.Call (.Name x p) (e::es) [] pos) (aFN C sp dvs E t):=by
 intro pins s σ H Q I h
 refine wpAny_Call_Name_kw (aB5 I hg hm ?_ hdb)
 refine PySem.W.callWith_K (h₀:=X.base) I.ok.mod.kin M.kp (dI (ha pos pins s σ H _ I h) λus s1 ⟨vs,H1,I1,r,q⟩=>⟨I1.kIn,?_⟩) he hpl
 exact aJW M F hr hb hd hx I1 r q
end
def PK(X:Cx)(kws:List Keyword)(t:TA):Prop:=
 ∀(pos:Pos) (pins:List (Addr×Obj)) (s:Shared) (σ:St) (H:Hp) (Q:List V->Hp->Prop),Inv X pins σ H s->t σ H Q->wpAny (model X.prog X.w) X.A (evalAll ((backToKw pos (keywordEach kws X.env)).map (·.2))) (AP X pins σ Q) X.xe s
section
variable{X:Cx}{CX:CXT}{k:Nat}{f C:Addr}{fd:FuncData}{ps ks:List Str}{sp:Sp}{E:XK}{x m:Str}{p pos apos kpos:Pos}{e o:Expr}{es:List Expr}{kws:List Keyword}{te ta:TE}{t tk:TA}{nm:Option Str}
variable{g:List Value->List Value->List Value}{gV:List V->List V->List V}
end
structure aY(N P:List Str)(sc:Scope):Prop where
 kind:sc.kind=.function
 co:sc.isCoroutine=false
 gen:sc.isGenerator=false
 nd:N.Nodup
 pre:N.take P.length=P
 par:∀x∈P,sc.names.lookup x=some .local\/sc.names.lookup x=some .cell
 nofree:∀y∈sc.names,y.2≠.free
theorem aD7{kindOf:Str->Option NameKind}:∀{binds:List (Str×Value)}{m:Str->Option Value},(∀v,(x,v)∉binds)->bindL kindOf binds m x=m x
 |[],_,_=>rfl
 |(n,v)::r,m,h=>by
  unfold bindL
  rw[aD7 λw hw=>h w (Qn9 _ hw)]
  split
  ·have:x≠n:=by rintro rfl;exact h v Qz9
   simp[this]
  ·rfl
theorem aD8{kindOf:Str->Option NameKind}:∀{binds:List (Str×Value)}{m:Str->Option Value},(∀v,(x,v)∉binds)->bindC kindOf binds m x=m x
 |[],_,_=>rfl
 |(n,v)::r,m,h=>by
  unfold bindC
  rw[aD8 λw hw=>h w (Qn9 _ hw)]
  split
  ·rfl
  ·have:x≠n:=by rintro rfl;exact h v Qz9
   simp[this]
theorem aD9{kindOf:Str->Option NameKind}:∀{P:List Str}{vs:List Value}{i:Nat}{m:Str->Option Value},P.Nodup->P[i]?=some x->vs[i]?=some v->kindOf x=some .local->
  bindL kindOf (P.zip vs) m x=some v
 |[],_,_,_,_,h,_,_=>by simp at h
 |_::_,[],_,_,_,_,h,_=>by simp at h
 |p::P,w::vs,0,m,nd,h1,h2,hk=>by
  simp at h1 h2;subst h1;subst h2
  show bindL kindOf ((p,w)::P.zip vs) m p=_
  unfold bindL
  rw[aD7 λv hv=>(Rm9.mp nd).1 (Tt9 hv).1,if_pos hk]
  simp
 |p::P,w::vs,i+1,m,nd,h1,h2,hk=>by
  show bindL kindOf ((p,w)::P.zip vs) m x=_
  unfold bindL
  exact aD9 (i:=i) (Rm9.mp nd).2 (by simpa using h1) (by simpa using h2) hk
theorem aEa{kindOf:Str->Option NameKind}:∀{P:List Str}{vs:List Value}{i:Nat}{m:Str->Option Value},P.Nodup->P[i]?=some x->vs[i]?=some v->kindOf x≠some .local->
  bindC kindOf (P.zip vs) m x=some v
 |[],_,_,_,_,h,_,_=>by simp at h
 |_::_,[],_,_,_,_,h,_=>by simp at h
 |p::P,w::vs,0,m,nd,h1,h2,hk=>by
  simp at h1 h2;subst h1;subst h2
  show bindC kindOf ((p,w)::P.zip vs) m p=_
  unfold bindC
  rw[aD8 λv hv=>(Rm9.mp nd).1 (Tt9 hv).1,if_neg hk]
  simp
 |p::P,w::vs,i+1,m,nd,h1,h2,hk=>by
  show bindC kindOf ((p,w)::P.zip vs) m x=_
  unfold bindC
  exact aEa (i:=i) (Rm9.mp nd).2 (by simpa using h1) (by simpa using h2) hk
def start(N:List Str)(vs:List V):St:=vs.map some++List.replicate (N.length - vs.length) none
def aG3(CX:CXT)(P:Program)(w:World)(K:W.Frag)(mg:Str->Option Value)(base:Heap)(N:List Str)(qual:Str)(scope:Scope)(f:Addr)(cd:Value)(A:Around)(outer:List Env)(s:Shared)(H:Hp)(E:XK):Cx where
 prog:=P
 w:=w
 K:=K
 mg:=mg
 base:=base
 A:=A.deeper (envOfC qual scope s.heap.objs.size f cd)
 N:=N
 s₀:=s
 H₀:=H
 env:=envOfC qual scope s.heap.objs.size f cd
 outer:=outer
 stack:=envOfC qual scope s.heap.objs.size f cd::outer
 ex:=[]
 calm:=true
 fn:=λ_=>true
 pn:=[]
 xe:=λe s'=>wpAny (model P w) (A.deeper (envOfC qual scope s.heap.objs.size f cd)) (leaving (envOfC qual scope s.heap.objs.size f cd) e) (λ_ s''=>CX outer H s E e s'') (λe' s''=>CX outer H s E e' s'') s'
theorem aFO{sc:Scope}{n:Nat}(h:sc.names.lookup x=some .cell):∃c,(cellsFrom n sc.names []).lookup x=some c:=by
 have q:=PySem.W.cellsFrom_some sc.names n [] (.inl h)
 exact Option.isSome_iff_exists.mp q
theorem aIR{CX:CXT}{P:Program}{w:World}{K:W.Frag}{mg:Str->Option Value}{base:Heap}{N ps:List Str}{qual:Str}{scope:Scope}{f:Addr}{cd:Value}{A:Around}{outer:List Env}{s s1:Shared}{H:Hp}{E:XK}{us:List Value}{vs:List V}
  (S:aY N ps scope) (hd:A.handled=none) (e0:aDq P w K mg base A outer s H) (hl:vs.length=ps.length) (r:Vals vs us)
  (x:InCallC s s.heap.objs.size (bindL (envOfC qual scope s.heap.objs.size f cd).kindOf (ps.zip us) λ_=>none) (cellsFrom (s.heap.objs.size+1) scope.names []) (bindC (envOfC qual scope s.heap.objs.size f cd).kindOf (ps.zip us) λ_=>none) s1) :
  Inv (aG3 CX P w K mg base N qual scope f cd A outer s H E) [] (start N vs) H s1:=by
 have hpl:ps.length<=N.length:=by have:=congrArg List.length S.pre;rw[Re9] at this;omega
 obtain⟨h1,tk,rfl,hk⟩:=x.done
 have noA:∀b:Addr,b∉(aG3 CX P w K mg base N qual scope f cd A outer s H E).ex:=λb z=>absurd (show b∈([]:List Addr) from z) (by simp)
 refine⟨⟨e0.mod,S.kind,rfl,rfl,fJ _,λy z c h1 h2=>?_,λy hy=>?_,λy c _ h=>?_,λ_=>hd,Around.frames_deeper e0.frames,.inr ⟨rfl,rfl⟩,λb z=>absurd z (noA b),e0.bs,e0.bsz,λb _ _=>noA b,λb z=>absurd z (noA b),e0.x8,e0.frf⟩,
  rfl,e0.bare,Un.kept hk,⟨_,x.toInCall.ns,λi y v h1 h2 h3=>?_⟩,λy c h=>⟨_,x.cell y c h⟩,e0.hok.fresh (fJ _),λy c h=>?_,λp hp=>absurd (show p∈([]:List (Addr×Obj)) from hp) (by simp),e0.hok.kept hk,?_⟩
 ·exact name_of_addr x.apart (PySem.mem_of_lookup h1) (PySem.mem_of_lookup h2)
 ·have hy:scope.names.lookup y=some .cell\/scope.names.lookup y=some .free:=hy
  rcases hy with hy|hy
  ·exact aFO hy
  ·exact absurd rfl (S.nofree _ (PySem.mem_of_lookup hy))
 ·exact Tn9 (x.above y c (PySem.mem_of_lookup h))
 ·have hi:i < vs.length:=by
   unfold start at h2
   by_cases hi:i < vs.length
   ·exact hi
   ·rw[Qy9 (by simpa using hi)] at h2
    rw[Tf9] at h2
    split at h2 <;> cases h2
  have ha:vs[i]?=some v:=by
   unfold start at h2
   rw[Qx9 (by simpa using hi),nK] at h2
   cases e:vs[i]? with
   |none=>rw[e] at h2;cases h2
   |some a=>rw[e] at h2;cases h2;rfl
  obtain⟨u,hu,rv⟩:=r.get ha
  have hp:ps[i]?=some y:=by
   rw[<-S.pre,List.getElem?_take_of_lt (by omega)];exact h1
  have ndP:ps.Nodup:=by rw[<-S.pre];exact S.nd.sublist (List.take_sublist _ _)
  refine⟨u,rv,?_⟩
  rcases S.par y (vD hp) with k|k
  ·exact .inl ⟨k,aD9 ndP hp hu k⟩
  ·obtain⟨c,e⟩:=aFO (n:=s.heap.objs.size+1) k
   refine .inr ⟨.inl k,c,e,?_⟩
   have q:=x.cell y c e
   rw[aEa ndP hp hu (by show scope.names.lookup y≠_;rw[k];decide)] at q
   exact q
 ·exact e0.hok.fresh (Tn9 (x.above y c (PySem.mem_of_lookup h)))
 ·unfold start
  show _=N.length
  rw[xX,bZ,List.length_replicate]
  omega
theorem aM8{CX:CXT}{P:Program}{w:World}{K:W.Frag}{mg:Str->Option Value}{base:Heap}{k:Nat}{f:Addr}{name qual:Str}{params:Arguments}{body:List Stmt}{scope:Scope}{dV kV doc pm cdv ct oc:Value}{an od:Option Addr}
  {osl:Array (Option Value)} {N ps:List Str} {sp:Sp} (lk:K.lookup f=some ⟨oc,od,.func (W.fnOf name qual params body scope dV kV doc pm an cdv ct),osl⟩) (hcd:W.codeIn K cdv qual=true) (S:aY N ps scope)
  (len:∀vs H Q E,sp vs H Q E->vs.length=ps.length)
  (hbody:∀(A:Around) (outer:List Env) (s:Shared) (H:Hp) (vs:List V) (Q:VK) (E:XK),eO k (A.deeper (envOfC qual scope s.heap.objs.size f cdv))->sp vs H Q E->
   ∃t,PSs (aG3 CX P w K mg base N qual scope f cdv A outer s H E) body t/\t { nx:=λ_ H'=>Q .non H',rt:=Q } (start N vs) H) :
  bP P w K mg base CX (k+1) f (W.fnOf name qual params body scope dV kV doc pm an cdv ct) ps sp:=by
 refine⟨len,λA outer s H args us vs Q E hr e0 hb r hsp=>?_⟩
 have hl:=len _ _ _ _ hsp
 have KX:K.In s.heap:=e0.mod.kin.keeps λb o e=>(e0.bs b o e).1
 have lim:s.heap.NoLimit:=e0.mod.nolimit.keeps λb o e=>(e0.bs b o e).1
 have hkind:∀y∈ps.zip us,scope.names.lookup y.1=some .local\/(scope.names.lookup y.1=some .cell/\((cellsFrom (s.heap.objs.size+1) scope.names []).lookup y.1).isSome=true):=λ⟨n,v⟩ hy=>by
  rcases S.par n (Tt9 hy).1 with q|q
  ·exact .inl q
  ·exact .inr ⟨q,PySem.W.cellsFrom_some _ _ _ (.inl q)⟩
 refine codeAny_call_function hr.depth (KX _ _ lk) rfl S.co S.gen rfl (PySem.W.codeRec_of KX hcd) (hb _ _ _ _ ?_)
 refine wpAny_newFunctionEnv_cells S.kind hkind λenv he s1 x=>?_
 subst he
 refine⟨lim.keeps x.toInCall.keep,codeAny_func ?_⟩
 obtain⟨t,ht,hq⟩:=hbody A outer s H vs Q E (hr.deeper _) hsp
 have I:Inv (aG3 CX P w K mg base N qual scope f cdv A outer s H E) [] (start N vs) H s1:=aIR S hr.hd e0 hl r x
 refine wpAny_mono (ht [] s1 (start N vs) H _ I hq) (λfl s' hs=>?_) λe s' hs=>hs
 have fin:∀{σ':St} {H':Hp} {v:V} {u:Value},Inv (aG3 CX P w K mg base N qual scope f cdv A outer s H E) [] σ' H' s'->RelV v u->Q v H'->CE outer P w H s Q u s':=
  λ{σ' H' v u} J rv q=>⟨v,H',J.os,J.bare,J.base,J.hok,rv,q⟩
 cases fl with
 |ret u=>
  obtain⟨v,σ',H',J,rv,q⟩:=hs
  exact fin J rv q
 |next=>
  obtain⟨σ',H',J,q⟩:=hs
  exact fin (v:=V.non) (u:=Value.none) J rfl q
 |brk=>
  obtain⟨_,_,_,q⟩:=hs
  exact False.elim q
 |cont=>
  obtain⟨_,_,_,q⟩:=hs
  exact False.elim q
end L2
namespace L2
open PySem PySem.Spec PyProof.Rows
section
variable{X:Cx}{x:Str}{p pos:Pos}{e:Expr}{es:List Expr}{t:TA}{id T:String}{r:List V->Hp->VK->Prop}
def tCB(r:List V->Hp->VK->Prop)(t:TA):TE:=λσ H Q=>t σ H λvs H1=>r vs H1 Q
theorem aJX(hc:eN X (.builtin id) r)(hg:Gl X x)(hm:X.mg x=none)(hv:bootBuiltins x=some (.builtin id))(ha:PA X (e::es) t)(hn:x≠"__name__":=by decide)(hdb:(x == ("__debug__" : Str))=false:=by decide)
  (he:starEach (e::es) X.env=(false,eval e X.env)::starEach es X.env:=by rfl) (hpl:(backTo pos (starEach es X.env)).any (·.1)=false:=by rfl):PE X (.Call (.Name x p) (e::es) [] pos) (tCB r t):=by
 intro pins s σ H Q I h
 refine wpAny_Call_Name_kw (rM I hg hm hv ?_ hn hdb)
 exact PyProof.Rows.callWith_builtin1 (dI (ha pos pins s σ H _ I h) λus s1 ⟨vs,H1,I1,r1,q1⟩=>hc pins s1 σ H1 vs us Q I1 r1 q1) he hpl
theorem aIS(hc:eN X (.type T) r)(hg:Gl X x)(hm:X.mg x=none)(hv:bootBuiltins x=some (.type T))(ha:PA X (e::es) t)(hn:x≠"__name__":=by decide)(hdb:(x == ("__debug__" : Str))=false:=by decide)
  (he:starEach (e::es) X.env=(false,eval e X.env)::starEach es X.env:=by rfl) (hpl:(backTo pos (starEach es X.env)).any (·.1)=false:=by rfl):PE X (.Call (.Name x p) (e::es) [] pos) (tCB r t):=by
 intro pins s σ H Q I h
 refine wpAny_Call_Name_kw (rM I hg hm hv ?_ hn hdb)
 exact PyProof.Rows.callWith_type1 (dI (ha pos pins s σ H _ I h) λus s1 ⟨vs,H1,I1,r1,q1⟩=>hc pins s1 σ H1 vs us Q I1 r1 q1) he hpl
end
end L2
namespace HT
open PySem PyProof.Rows
section
open PySem.SeqAt
open PySem.AutoSeq1 (wpAny_loadPart')
open PySem.MeetsSeq PySem.MeetsSeq2 PySem.MeetsSeq3
end
section
variable{prog:Program}{w:World}{A:Around}{E:Value->Shared->Prop}{s:Shared}
def mR(n d:Nat):Option Int->Nat
 |none=>d
 |some v=>if v < 0 then (v+(n:Int)).toNat else min v.toNat n
theorem aFP(n d:Nat):mR n d none=d:=rfl
theorem aH3(n d k:Nat):mR n d (some (k:Int))=min k n:=by
 show(if (k:Int) < 0 then ((k:Int)+(n:Int)).toNat else min (k:Int).toNat n)=min k n
 rw[if_neg (by omega),Ro9]
theorem aN0(n d:Nat)(hd:d<=n)(o:Option Int):mR n d o<=n:=by
 cases o with
 |none=>exact hd
 |some v=>
  show(if v < 0 then (v+(n:Int)).toNat else min v.toNat n)<=n
  by_cases hv:v < 0
  ·rw[if_pos hv];omega
  ·rw[if_neg hv];exact Nat.min_le_right _ _
theorem aH4(v:Int)(n d:Nat):(if v < 0 then max (v+(n:Int)) 0 else min v (n:Int))=((mR n d (some v):Nat):Int):=by
 show(if v < 0 then max (v+(n:Int)) 0 else min v (n:Int))=(((if v < 0 then (v+(n:Int)).toNat else min v.toNat n):Nat):Int)
 by_cases hv:v < 0
 ·simp only[if_pos hv];omega
 ·simp only[if_neg hv];omega
theorem aG4(lo hi:Option Int)(n:Nat):Builtin.Slice.sliceAdjust lo hi 1 (n:Int)=(((mR n 0 lo:Nat):Int),((mR n n hi:Nat):Int)):=by
 have h1:¬((1:Int) < 0):=by omega
 unfold Builtin.Slice.sliceAdjust
 simp only[h1,if_false]
 refine Prod.ext ?_ ?_
 ·cases lo with
  |none=>rfl
  |some v=>exact aH4 v n 0
 ·cases hi with
  |none=>rfl
  |some v=>exact aH4 v n n
theorem aG5(i j:Nat):Builtin.Slice.slicePlaces (i:Int) (j:Int) 1=j - i:=by
 unfold Builtin.Slice.slicePlaces
 have h1:(1:Int) > 0:=by omega
 simp only[h1,if_true,Int.ediv_one]
 split <;> omega
theorem aCj{o:Option Int}{Q:Option Int->Shared->Prop}(p:IsPart v o)(h:Q o s):wpAny (model prog w) A (Builtin.Slice.slicePartIndex v) Q E s:=by
 cases p with
 |none=>exact slicePart_none h
 |int i t=>exact slicePart_int h
theorem aAR{lo hi:Option Int}{n:Nat}{Q:Int×Int×Nat->Shared->Prop}(hs:s.heap.IsSliceOf sl vl vu .none)(pl:IsPart vl lo)(pu:IsPart vu hi)(h:Q (((mR n 0 lo:Nat):Int),1,mR n n hi - mR n 0 lo) s):wpAny (model prog w) A (Builtin.Slice.sliceApplied (.ref sl) (pure (n:Int))) Q E s:=by
 obtain⟨os,hos,hcs,hds⟩:=id hs
 unfold Builtin.Slice.sliceApplied Builtin.Slice.sliceFields
 refine wpAny_bind (wpAny_bind (wpAny_field hos hds (x:=vl) rfl (wpAny_bind (wpAny_field hos hds (x:=vu) rfl (wpAny_bind (wpAny_field hos hds (x:=.none) rfl (wpAny_pure ?_)))))))
 refine wpAny_bind (slicePart_none ?_)
 show wpAny _ _ (if ((1:Int) == 0)=true then _ else _) _ _ s
 rw[if_neg (by decide)]
 refine wpAny_bind (aCj pl (wpAny_bind (aCj pu (wpAny_bind (wpAny_pure ?_)))))
 show wpAny _ _ (match Builtin.Slice.sliceAdjust lo hi 1 (n:Int) with|(lo,hi)=>pure (lo,(1:Int),Builtin.Slice.slicePlaces lo hi 1)) _ _ s
 rw[aG4 lo hi n]
 show wpAny _ _ (pure (((mR n 0 lo:Nat):Int),(1:Int),Builtin.Slice.slicePlaces ((mR n 0 lo:Nat):Int) ((mR n n hi:Nat):Int) 1)) _ _ s
 rw[aG5]
 exact wpAny_pure h
theorem aJY(xs:Array Value)(i k:Nat):((List.range k).filterMap λ(m:Nat)=>xs[((i:Int)+(m:Int)*1).toNat]?).toArray=((xs.toList.drop i).take k).toArray:=by
 have e:(λ(m:Nat)=>xs[((i:Int)+(m:Int)*1).toNat]?)=λm=>xs[i+m]?:=by
  funext m
  have:((i:Int)+(m:Int)*1).toNat=i+m:=by omega
  rw[this]
 rw[e]
 have:=pick_run xs i k
 rw[List.filterMap_map] at this
 have e2:((λx=>xs[x]?) ∘ λx=>i+x)=λm=>xs[i+m]?:=rfl
 rw[e2] at this
 rw[this]
theorem zR{items:Array Value}{lo hi:Option Int}{Q:Value->Shared->Prop}(ht:IsTup s.heap t items)(hs:s.heap.IsSliceOf sl vl vu .none)(pl:IsPart vl lo)(pu:IsPart vu hi)(hw:¬(mR items.size 0 lo=0/\mR items.size items.size hi=items.size))(h:Q (.ref s.heap.objs.size) { s with heap:=s.heap.push { cls:=.type "tuple",data:=.seq ((items.toList.drop (mR items.size 0 lo)).take (mR items.size items.size hi - mR items.size 0 lo)).toArray } })(hsz:items.size<=sizeLine):wpAny (model prog w) A (getItem (.ref t) (.ref sl)) Q E s:=by
 have htake:sizeOk (.seq ((items.toList.drop (mR items.size 0 lo)).take (mR items.size items.size hi - mR items.size 0 lo)).toArray):=by
  show((items.toList.drop (mR items.size 0 lo)).take (mR items.size items.size hi - mR items.size 0 lo)).toArray.size<=sizeLine
  rw[kU,Re9,Tq9,Rg9]
  omega
 have hj:mR items.size items.size hi<=items.size:=aN0 _ _ (fJ _) hi
 obtain⟨os,hos,hcs,hds⟩:=id hs
 have hTs:s.TypeIs (.ref sl) "slice":=⟨os,hos,hcs⟩
 unfold getItem
 try with_reducible refine wpAny_holding ?_
 first|refine wpAny_bind (wpAny_pure ?_)|skip
 refine wpAny_bind (wpAny_sequenceKey ht.typeIs (by decide) ?_)
 refine wpAny_bind (wpAny_callSpecial?_slot (name:=Str.ofString "__getitem__") ht.typeIs PyProof.Rows.slot_tuple_getitem
  (wpAny_call_entry PyProof.Rows.slot_tuple_getitem ht.typeIs entry_tuple_getitem ?_ (args_tuple_getitem _ _)))
 show wpAny _ _ (Builtin.Tuple.tupleItemsOf (.ref t) >>= _) _ _ s
 refine wpAny_bind (tupleItemsOf_ ht ?_)
 refine wpAny_bind (wpAny_typeOf hTs ?_)
 rw[if_pos (by decide)]
 refine wpAny_bind (aAR hs pl pu ?_)
 have hno:¬((((mR items.size 0 lo:Nat):Int) == 0 && (1:Int) == 1 && (mR items.size items.size hi - mR items.size 0 lo) == items.size)=true):=by
  intro q
  rw[Rl9,Rl9] at q
  have q1:((mR items.size 0 lo:Nat):Int)=0:=eq_of_beq q.1.1
  have q2:mR items.size items.size hi - mR items.size 0 lo=items.size:=eq_of_beq q.2
  exact hw ⟨by omega,by omega⟩
 show wpAny _ _ (if (((mR items.size 0 lo:Nat):Int) == 0 && (1:Int) == 1 && (mR items.size items.size hi - mR items.size 0 lo) == items.size)=true then _ else _) _ _ s
 rw[if_neg hno,aJY]
 first
  |exact wpAny_bind (m:=Builtin.Tuple.tupleExact _) (wpAny_newObj_type (wpAny_pure ⟨_,rfl,wpAny_pure h⟩) htake)
  |exact wpAny_bind (m:=Builtin.Tuple.tupleExact _) (wpAny_newObj_type (wpAny_bind (wpAny_pure (wpAny_pure ⟨_,rfl,wpAny_pure h⟩))) htake)
  |exact wpAny_bind (wpAny_bind (m:=Builtin.Tuple.tupleExact _) (wpAny_newObj_type (wpAny_pure (wpAny_pure ⟨_,rfl,wpAny_pure h⟩)) htake))
  |exact wpAny_bind (wpAny_bind (m:=Builtin.Tuple.tupleExact _) (wpAny_newObj_type (wpAny_pure ⟨_,rfl,wpAny_pure h⟩) htake))
end
end HT
namespace L2
open PySem PySem.Spec PyProof.Rows
abbrev TO:=St->Hp->(Option Int->Hp->Prop)->Prop
def PO(X:Cx)(e:Option Expr)(t:TO):Prop:=
 ∀(pins:List (Addr×Obj)) (s:Shared) (σ:St) (H:Hp) (Q:Option Int->Hp->Prop),Inv X pins σ H s->t σ H Q->
  wpAny (model X.prog X.w) X.A (evalPart e X.env) (λu s'=>∃o H',Inv X pins σ H' s'/\IsPart u o/\Q o H') X.xe s
def aEA:TO:=λ_ H Q=>Q none H
def aJZ(t:TE):TO:=λσ H Q=>t σ H λx H1=>∃i,x=.int i/\Q (some i) H1
theorem intsAre_of{ns:List Int}:∀{us:List Value},Vals (ns.map V.int) us->IntsAre us ns:=by
 induction ns with
 |nil=>intro us r;rw[Te9] at r;cases r;exact .nil
 |cons n ns ih=>
  intro us r
  rw[Rb9] at r
  cases r with
  |cons r1 r2=>
   obtain⟨t,e⟩:=r1
   subst e
   exact .cons n t (ih r2)
section
variable{X:Cx}{e:Expr}{te:TE}{lo hi:Option Expr}{tl th:TO}{pos p2:Pos}
theorem aLT:PO X none aEA:=by
 intro pins s σ H Q I h
 rw[evalPart_none]
 exact wpAny_pure ⟨none,H,I,.none,h⟩
theorem aLU(h:PE X e te):PO X (some e) (aJZ te):=by
 intro pins s σ H Q I hw
 rw[evalPart_some]
 refine dI (h pins s σ H _ I hw) λu s1 ⟨x,H1,I1,r1,q1⟩=>?_
 obtain⟨i,rfl,q⟩:=q1
 obtain⟨t,rfl⟩:=r1
 exact⟨some i,H1,I1,.int i t,q⟩
def SlR(X:Cx)(r:V->Option Int->Option Int->Hp->VK->Prop):Prop:=
 ∀(pins:List (Addr×Obj)) (s:Shared) (σ:St) (H:Hp) (x:V) (v vl vu:Value) (lo hi:Option Int) (sl:Addr) (Q:VK),Inv X pins σ H s->RelV x v->s.heap.IsSliceOf sl vl vu .none->IsPart vl lo->IsPart vu hi->r x lo hi H Q->
  ∃T id,typeLookup (.type T) "__getitem__" = pure (some (.builtin id))/\s.TypeIs v T/\wpAny (model X.prog X.w) X.A (getItem v (.ref sl)) (EP X pins σ Q) X.xe s
theorem SlR.or{r r':V->Option Int->Option Int->Hp->VK->Prop}(h:SlR X r)(h':SlR X r'):SlR X (λx lo hi H Q=>r x lo hi H Q\/r' x lo hi H Q):=by
 intro pins s σ H x v vl vu lo hi sl Q I rx hs pl pu q
 rcases q with q|q
 ·exact h pins s σ H x v vl vu lo hi sl Q I rx hs pl pu q
 ·exact h' pins s σ H x v vl vu lo hi sl Q I rx hs pl pu q
def tSl(r:V->Option Int->Option Int->Hp->VK->Prop)(te:TE)(tl th:TO):TE:=λσ H Q=>te σ H λx H1=>tl σ H1 λl H2=>th σ H2 λu H3=>r x l u H3 Q
theorem aJ0{r:V->Option Int->Option Int->Hp->VK->Prop}(hr:SlR X r)(he:PE X e te)(hl:PO X lo tl)(hu:PO X hi th):PE X (.Subscript e (.Slice lo hi none p2) pos) (tSl r te tl th):=by
 intro pins s σ H Q I h
 refine Subscript_ (dI (he pins s σ H _ I h) λv s1 ⟨x,H1,I1,r1,q1⟩=>?_)
 refine wpAny_Slice (dI (hl pins s1 σ H1 _ I1 q1) λvl s2 ⟨l,H2,I2,pl,q2⟩=>dI (hu pins s2 σ H2 _ I2 q2) λvu s3 ⟨u,H3,I3,pu,q3⟩=>?_)
 rw[evalPart_none]
 refine wpAny_pure ?_
 have I4:Inv X pins σ H3 { s3 with heap:=s3.heap.push { cls:=.type "slice",data:=.fields #[vl,vu,.none] } }:=I3.kept (t':=s3.toks) λb ob q=>kS _ q
 obtain⟨T,id,hT,ht,hg⟩:=hr pins { s3 with heap:=s3.heap.push { cls:=.type "slice",data:=.fields #[vl,vu,.none] } } σ H3 x v vl vu l u s3.heap.objs.size Q I4 r1 (Heap.IsSliceOf.new ..) pl pu q3
 show wpAny (model X.prog X.w) X.A (subscriptTail e (.Slice lo hi none p2) v (.ref s3.heap.objs.size)) (EP X pins σ Q) X.xe { s3 with heap:=s3.heap.push { cls:=.type "slice",data:=.fields #[vl,vu,.none] } }
 exact tail_any (ops:=[.ref s3.heap.objs.size,v]) ht hT hg (by with_unfolding_all rfl)
def pV(xs:List V)(lo hi:Option Int):List V:=(xs.drop (HT.mR xs.length 0 lo)).take (HT.mR xs.length xs.length hi - HT.mR xs.length 0 lo)
theorem fG(xs:List V)(lo hi:Option Int):(pV xs lo hi).length<=xs.length:=by
 unfold pV
 rw[Re9,Tq9]
 omega
def aPe(K:W.Frag):V->Option Int->Option Int->Hp->VK->Prop:=λx lo hi H Q=>∃a xs,x=.ref a/\mX K H a xs/\
 ¬(HT.mR xs.length 0 lo=0/\HT.mR xs.length xs.length hi=xs.length)/\∀p,H p=none->Q (.ref p) (upd H p (.tup (pV xs lo hi)))
theorem aN1:SlR X (aPe X.K):=by
 intro pins s σ H x v vl vu lo hi sl Q I rx hs pl pu h
 obtain⟨a,xs,rfl,hx,hw,q⟩:=h
 cases rx
 obtain⟨its,r,ht,hz⟩:=I.tuple hx
 have hlen:its.toArray.size=xs.length:=by rw[kU];exact r.length.symm
 refine⟨"tuple",_,PyProof.Rows.slot_tuple_getitem.lookup,ht.typeIs,?_⟩
 refine HT.zR ht hs pl pu (by rw[hlen];exact hw) ?_ (by rw[hlen];exact hz)
 rw[hlen]
 refine⟨.ref s.heap.objs.size,_,I.laid (t':=s.toks) (o:=.tup (pV xs lo hi)) (λb ob q=>kS _ q) (fJ _) ?_,rfl,q _ (I.hok.fresh (fJ _))⟩
 exact⟨Rn9 (fG xs lo hi) hz,_,(r.drop (HT.mR xs.length 0 lo)).take (HT.mR xs.length xs.length hi - HT.mR xs.length 0 lo),IsTup.new _ _⟩
end
end L2
namespace L2
open PySem PySem.Spec PyProof.Rows
def ixN(n:Nat)(i:Int):Option Nat:=if 0<=i then (if i < n then some i.toNat else none) else if -(n:Int)<=i then some (i+n).toNat else none
def uT{α:Type}(xs:List α)(i:Int):Option α:=(ixN xs.length i).bind λj=>xs[j]?
theorem aH5{n:Nat}{i:Int}{j:Nat}(h:ixN n i=some j):seqIndex? i n=some j/\j < n/\-(n:Int)<=i/\i < n:=by
 unfold ixN at h
 by_cases h0:0<=i
 ·rw[if_pos h0] at h
  by_cases h1:i < n
  ·rw[if_pos h1] at h
   have e:i.toNat=j:=Option.some.inj h
   exact⟨by rw[seqIndex_of h0 h1,e],by omega,by omega,h1⟩
  ·rw[if_neg h1] at h;cases h
 ·rw[if_neg h0] at h
  by_cases h1:-(n:Int)<=i
  ·rw[if_pos h1] at h
   have e:(i+n).toNat=j:=Option.some.inj h
   exact⟨by rw[seqIndex_neg (by omega) h1,e],by omega,h1,by omega⟩
  ·rw[if_neg h1] at h;cases h
theorem aEB{α:Type}{xs:List α}{i:Int}{v:α}(h:uT xs i=some v):∃j,seqIndex? i xs.length=some j/\xs[j]?=some v/\j < xs.length/\-(xs.length:Int)<=i/\i < xs.length:=by
 unfold uT at h
 cases e:ixN xs.length i with
 |none=>rw[e] at h;cases h
 |some j=>
  rw[e] at h
  obtain⟨h1,h2,h3,h4⟩:=aH5 e
  exact⟨j,h1,h,h2,h3,h4⟩
theorem eQ{α:Type}{xs:List α}{j:Nat}{v:α}(h:xs[j]?=some v):uT xs (j:Int)=some v:=by
 have hj:j < xs.length:=(uS.mp h).1
 have e:ixN xs.length (j:Int)=some j:=by
  unfold ixN
  rw[if_pos (by omega),if_pos (by omega)];simp
 unfold uT;rw[e];exact h
theorem aFQ{α:Type}(xs:List α)(v:α):uT (xs ++ [v]) (-1)=some v:=by
 have hl:(xs ++ [v]).length=xs.length+1:=by simp
 have e:ixN (xs ++ [v]).length (-1)=some xs.length:=by
  unfold ixN
  rw[hl,if_neg (by decide),if_pos (by omega)]
  congr 1
  omega
 unfold uT
 rw[e]
 show(xs ++ [v])[xs.length]?=some v
 simp
def aH6(b:Expr):Prop:=∀o i,subscripted b false o i=operate [o,i] (getItem o i)
def IxR(X:Cx)(r:R2):Prop:=
 ∀(value slice:Expr) (pins:List (Addr×Obj)) (s:Shared) (σ:St) (H:Hp) (x y:V) (v u:Value) (Q:VK),Inv X pins σ H s->RelV x v->RelV y u->r x y H Q->
  subscripted slice false v u=operate [v,u] (getItem v u)->wpAny (model X.prog X.w) X.A (subscriptTail value slice v u) (EP X pins σ Q) X.xe s
def MtR(X:Cx)(id:String)(r:V->List V->Hp->VK->Prop):Prop:=
 ∀(pins:List (Addr×Obj)) (s:Shared) (σ:St) (H:Hp) (x:V) (xs:List V) (v:Value) (us:List Value) (Q:VK),Inv X pins σ H s->RelV x v->Vals xs us->r x xs H Q->
  wpAny (model X.prog X.w) X.A (call (.builtin id) (v::us)) (EP X pins σ Q) X.xe s
section
variable{X:Cx}{a b:Expr}{ta tb:TE}{pos:Pos}
theorem IxR.or{r':R2}(h:IxR X r)(h':IxR X r'):IxR X (λx y H Q=>r x y H Q\/r' x y H Q):=by
 intro value slice pins s σ H x y v u Q I rx ry q hs
 rcases q with q|q
 ·exact h value slice pins s σ H x y v u Q I rx ry q hs
 ·exact h' value slice pins s σ H x y v u Q I rx ry q hs
theorem aPf(hr:IxR X r)(ha:PE X a ta)(hb:PE X b tb)(hs:aH6 b):PE X (.Subscript a b pos) (tOp r ta tb):=by
 intro pins s σ H Q I h
 exact Subscript_ (aNT ha hb I h λv u s2 x y H2 I2 rx ry q=>hr a b pins s2 σ H2 x y v u Q I2 rx ry q (hs _ _))
def aPg(K:W.Frag):R2:=λx y H Q=>∃p xs i v,x=.ref p/\y=.int i/\bS K H p xs/\uT xs i=some v/\Q v H
def aPh(K:W.Frag):R2:=λx y H Q=>∃p xs i v,x=.ref p/\y=.int i/\mX K H p xs/\uT xs i=some v/\Q v H
def aPi:R2:=λx y H Q=>∃z i c,x=.str z/\y=.int i/\z.length<=sizeLine/\uT z.cps.toList i=some c/\Q (.str ⟨#[c]⟩) H
theorem aLV:IxR X (aPg X.K):=by
 intro value slice pins s σ H x y v u Q I rx ry h hs
 obtain⟨p,xs,i,z,rfl,rfl,hq,he,q⟩:=h
 cases rx
 obtain⟨t,rfl⟩:=ry
 obtain⟨its,r,pl,hz⟩:=I.list hq
 obtain⟨j,h1,h2,h3,h4,h5⟩:=aEB he
 obtain⟨w,ew,rw'⟩:=r.get h2
 have hl:=r.length
 have hn:=aAP
 have fin:EP X pins σ Q w s:=⟨z,H,I,rw',q⟩
 by_cases h0:0<=i
 ·have hj:i.toNat=j:=by
   rw[seqIndex_of h0 h5] at h1
   exact Option.some.inj h1
  exact item_listR pl.isList h0 (by omega) (by rw[hj];simpa using ew) fin hs
 ·have hj:(i+(its.toArray.size:Int)).toNat=j:=by
   rw[seqIndex_neg (by omega) h4] at h1
   rw[kU,<-hl]
   exact Option.some.inj h1
  exact subscriptTail_builtinR (x:=w) pl.isList.typeIs slot_list_getitem.lookup
   (wpAny_getItem_list_neg (Q:=λr s'=>r=w/\EP X pins σ Q r s') pl.isList (by omega) (by rw[kU] <;> omega) (by omega) (by rw[hj];simpa using ew) ⟨rfl,fin⟩) hs
theorem aN2:IxR X (aPh X.K):=by
 intro value slice pins s σ H x y v u Q I rx ry h hs
 obtain⟨p,xs,i,z,rfl,rfl,hq,he,q⟩:=h
 cases rx
 obtain⟨t,rfl⟩:=ry
 obtain⟨its,r,pl,hz⟩:=I.tuple hq
 obtain⟨j,h1,h2,h3,h4,h5⟩:=aEB he
 obtain⟨w,ew,rw'⟩:=r.get h2
 have hl:=r.length
 have hn:=aAP
 have fin:EP X pins σ Q w s:=⟨z,H,I,rw',q⟩
 exact subscriptTail_builtinR (x:=w) pl.typeIs slot_tuple_getitem.lookup
  (getItem_tuple (j:=j) (Q:=λr s'=>r=w/\EP X pins σ Q r s') pl (by omega) (by omega) (by rw[kU,<-hl];exact h1) (by simpa using ew) ⟨rfl,fin⟩) hs
theorem aN3:IxR X aPi:=by
 intro value slice pins s σ H x y v u Q I rx ry h hs
 obtain⟨z,i,c,rfl,rfl,hz,he,q⟩:=h
 obtain⟨t,rfl⟩:=rx
 obtain⟨t',rfl⟩:=ry
 obtain⟨j,h1,h2,h3,h4,h5⟩:=aEB he
 have hl:z.cps.toList.length=z.length:=by simp[Str.length]
 rw[hl] at h1 h4 h5
 have hn:=aAP
 exact tail_any (typeIs_str s z t) slot_str_getitem.lookup (getItem_str (c:=c) (by
  have e1:decide (i < -(2 ^ 63:Int))=false:=decide_eq_false (by omega)
  have e2:decide (i ≥ 2 ^ 63)=false:=decide_eq_false (by omega)
  rw[e1,e2,Bool.or_false]) (by rw[h1];simpa using h2) ⟨.str ⟨#[c]⟩,H,I.tok _,⟨_,rfl⟩,q⟩) hs
def rIx(K:W.Frag):R2:=λx y H Q=>aPg K x y H Q\/aPh K x y H Q\/aPi x y H Q
theorem aN4:IxR X (rIx X.K):=aLV.or (aN2.or aN3)
theorem aG6(its:List Value)(n j:Nat)(u:Value):Obj.mapSeq (·.setIfInBounds j u) { cls:=.type "list",data:=.seq its.toArray n } = { cls:=.type "list",data:=.seq (its.set j u).toArray n }:=by
 simp[Obj.mapSeq]
theorem Inv.lst{pins:List (Addr×Obj)}{σ:St}{H:Hp}{s:Shared}{p:Addr}{xs:List V}(I:Inv X pins σ H s)(h:H p=some (.lst xs)) :
  ∃(its:List Value) (n:Nat),Vals xs its/\s.heap.get? p=some { cls:=.type "list",data:=.seq its.toArray n }/\xs.length<=sizeLine:=by
 obtain⟨z,its,n,r,e⟩:=I.hok p _ h
 exact⟨its,n,r,e,z⟩
theorem Inv.aN5{s:Shared}{ys:List V}{its its':List Value}{n n':Nat}{f:Obj->Obj}(I:Inv X pins σ H s)(h:H p=some (.lst xs))(ho:s.heap.get? p=some { cls:=.type "list",data:=.seq its.toArray n })(hf:f { cls:=.type "list",data:=.seq its.toArray n } = { cls:=.type "list",data:=.seq its'.toArray n' })(r:Vals ys its')(hz:ys.length<=sizeLine)(t:Nat) :
  Inv X pins σ (upd H p (.lst ys)) { s with heap:=s.heap.update p f,toks:=t }:=by
 have e:(s.heap.update p f).get? p=some { cls:=.type "list",data:=.seq its'.toArray n' }:=by
  rw[Sn9 f ho (by rw[hf] <;> rfl),hf]
 refine I.write (x:=p) (e:=p) (by rw[h];trivial) (.inl rfl) (λb u hb q=>(Th9 _ _ (Ne.symm hb)).trans q) ⟨_,e⟩ ?_
 exact⟨hz,its',n',r,e⟩
def aM9:V->V->V->Hp->(Hp->Prop)->Prop:=λo i v H Q=>∃p xs k j,o=.ref p/\i=.int k/\H p=some (.lst xs)/\ixN xs.length k=some j/\Q (upd H p (.lst (xs.set j v)))
theorem set_list:aJI X aM9:=by
 intro pins s σ H o i v ov iv u Q I ro ri rv h
 obtain⟨p,xs,k,j,rfl,rfl,hp,hj,q⟩:=h
 cases ro
 obtain⟨t,rfl⟩:=ri
 obtain⟨its,n,r,ho,hz⟩:=I.lst hp
 obtain⟨h1,h2,h3,h4⟩:=aH5 hj
 have hl:=r.length
 have hn:=aAP
 have I':Inv X pins σ (upd H p (.lst (xs.set j v))) { s with heap:=s.heap.update p (Obj.mapSeq (·.setIfInBounds j u)) }:=
  I.aN5 hp ho (aG6 its n j u) (r.set rv j) (by rw[Rz9];exact hz) s.toks
 by_cases h0:0<=k
 ·have hk:k.toNat=j:=by
   rw[seqIndex_of h0 h4] at h1
   exact Option.some.inj h1
  exact PySem.W.ki_setAt ho h0 (by omega) (by rw[kU,<-hl];exact h4) (by rw[hk];exact⟨_,I',q⟩)
 ·have hk:(k+(its.toArray.size:Int)).toNat=j:=by
   rw[seqIndex_neg (by omega) h3] at h1
   rw[kU,<-hl]
   exact Option.some.inj h1
  exact PySem.W.ki_setBack ho (by omega) (by rw[kU,<-hl];exact h3) (by omega) (by rw[hk];exact⟨_,I',q⟩)
theorem aEC(lo hi:Option Int)(n:Nat):(sliceBounds lo hi none n).1=((HT.mR n 0 lo:Nat):Int)/\(sliceBounds lo hi none n).2.1=((HT.mR n n hi:Nat):Int)/\(sliceBounds lo hi none n).2.2=1:=by
 refine⟨?_,?_,rfl⟩
 ·cases lo with
  |none=>simp[sliceBounds,HT.mR]
  |some i=>
   simp only[sliceBounds,HT.mR,Option.getD_none,show(1:Int) > 0 by decide,if_true]
   by_cases h:i < 0
   ·simp only[h,if_true] <;> omega
   ·simp only[h,if_false] <;> omega
 ·cases hi with
  |none=>simp[sliceBounds,HT.mR]
  |some i=>
   simp only[sliceBounds,HT.mR,Option.getD_none,show(1:Int) > 0 by decide,if_true]
   by_cases h:i < 0
   ·simp only[h,if_true] <;> omega
   ·simp only[h,if_false] <;> omega
theorem aDr(its:List Value)(lo hi:Option Int):slicePick its.toArray lo hi none=((its.drop (HT.mR its.length 0 lo)).take (HT.mR its.length its.length hi - HT.mR its.length 0 lo)).toArray:=by
 obtain⟨h1,h2,h3⟩:=aEC lo hi its.toArray.size
 unfold slicePick
 rw[h1,h2,h3]
 simp only[sliceRange_one,pick_run,kU] <;> rfl
def aPj(K:W.Frag):V->Option Int->Option Int->Hp->VK->Prop:=λx lo hi H Q=>∃a xs,x=.ref a/\bS K H a xs/\∀p,H p=none->Q (.ref p) (upd H p (.lst (pV xs lo hi)))
theorem aLW:SlR X (aPj X.K):=by
 intro pins s σ H x v vl vu lo hi sl Q I rx hs pl pu h
 obtain⟨a,xs,rfl,hx,q⟩:=h
 cases rx
 obtain⟨its,r,ht,hz⟩:=I.list hx
 have hlen:=r.length
 refine⟨"list",_,slot_list_getitem.lookup,ht.isList.typeIs,?_⟩
 refine wpAny_getItem_list_slice ht.isList hs pl pu .none (by simp) ?_ (by rw[kU] <;> omega)
 rw[aDr,<-hlen]
 refine⟨.ref s.heap.objs.size,_,I.laid (t':=s.toks) (o:=.lst (pV xs lo hi)) (λb ob q=>kS _ q) (fJ _) ?_,rfl,q _ (I.hok.fresh (fJ _))⟩
 exact⟨Rn9 (fG xs lo hi) hz,_,0,(r.drop (HT.mR xs.length 0 lo)).take (HT.mR xs.length xs.length hi - HT.mR xs.length 0 lo),xI _ rfl⟩
def sA:V->Bool
 |.non=>true
 |.bl _=>true
 |.int _=>true
 |.str _=>true
 |_=>false
def eqV:V->V->Bool
 |.non,.non=>true
 |.bl a,.bl b=>a == b
 |.bl a,.int b=>(if a then 1 else 0) == b
 |.int a,.bl b=>a == (if b then 1 else 0)
 |.int a,.int b=>a == b
 |.str a,.str b=>a == b
 |_,_=>false
theorem aJ1(ry:RelV y u)(rx:RelV x v)(fy:sA y=true)(fx:sA x=true):SeqAt.EqAt A s u v (eqV y x):=by
 cases y with
 |non=>
  cases ry
  cases x with
  |non=>cases rx;exact SeqAt.EqAt.same _
  |bl b=>cases rx;exact SeqAt.EqAt.none_bool b
  |int b=>obtain⟨t,rfl⟩:=rx;exact SeqAt.EqAt.none_int b t
  |str b=>obtain⟨t,rfl⟩:=rx;exact SeqAt.EqAt.none_str b t
  |_=>exact absurd (show false=true from fx) Qp9
 |bl a=>
  cases ry
  cases x with
  |non=>cases rx;exact SeqAt.EqAt.bool_none a
  |bl b=>cases rx;exact SeqAt.EqAt.bool_bool a b
  |int b=>obtain⟨t,rfl⟩:=rx;exact SeqAt.EqAt.bool_int a b t
  |str b=>obtain⟨t,rfl⟩:=rx;exact SeqAt.EqAt.bool_str a b t
  |_=>exact absurd (show false=true from fx) Qp9
 |int a=>
  obtain⟨t',rfl⟩:=ry
  cases x with
  |non=>cases rx;exact SeqAt.EqAt.int_none a t'
  |bl b=>cases rx;exact SeqAt.EqAt.int_bool a t' b
  |int b=>obtain⟨t,rfl⟩:=rx;exact SeqAt.EqAt.int_int a t' b t
  |str b=>obtain⟨t,rfl⟩:=rx;exact SeqAt.EqAt.int_str a t' b t
  |_=>exact absurd (show false=true from fx) Qp9
 |str a=>
  obtain⟨t',rfl⟩:=ry
  cases x with
  |non=>cases rx;exact SeqAt.EqAt.str_none a t'
  |bl b=>cases rx;exact SeqAt.EqAt.str_bool a t' b
  |int b=>obtain⟨t,rfl⟩:=rx;exact SeqAt.EqAt.str_int a t' b t
  |str b=>obtain⟨t,rfl⟩:=rx;exact SeqAt.EqAt.str_str a t' b t
  |_=>exact absurd (show false=true from fx) Qp9
 |_=>exact absurd (show false=true from fy) Qp9
theorem aED:eN X (.type "list") (λxs H Q=>∃p ys,xs=[.ref p]/\(bS X.K H p ys\/mX X.K H p ys)/\∀l,H l=none->Q (.ref l) (upd H l (.lst ys))):=by
 intro pins s σ H xs us Q I r h
 obtain⟨p,ys,rfl,hq,q⟩:=h
 obtain⟨u,rfl,rx⟩:=vals1 r
 cases rx
 have fin:∀(its:List Value),Vals ys its->ys.length<=sizeLine->∀(h':Heap) (c':Nat),(∀b o',s.heap.get? b=some o'->h'.get? b=some o')->
   h'.get? s.heap.objs.size=some { cls:=.type "list",dict:=none,data:=.seq its.toArray c',slots:=#[] }->EP X pins σ Q (.ref s.heap.objs.size) { s with heap:=h' }:=λits r' hz h' c' kp e=>
  ⟨.ref s.heap.objs.size,_,I.laid (t':=s.toks) kp (fJ _) (show bW X.prog X.w _ h' _ (.lst ys) from⟨hz,its,c',r',e⟩),rfl,q _ (I.hok.fresh (fJ _))⟩
 rcases hq with hq|hq
 ·obtain⟨its,r',pl,hz⟩:=I.list hq
  have hlen:=r'.length
  obtain⟨o,ho,hc,n,hd⟩:=pl.isList
  exact call_list_seq p (.inl rfl) ho hc hd (λh' c' kp e=>fin its r' hz h' c' kp e) (by simp only[kU] <;> omega)
 ·obtain⟨its,r',pl,hz⟩:=I.tuple hq
  have hlen:=r'.length
  obtain⟨o,ho,hc,n,hd⟩:=pl
  exact call_list_seq p (.inr rfl) ho hc hd (λh' c' kp e=>fin its r' hz h' c' kp e) (by simp only[kU] <;> omega)
theorem aDs:eN X (.type "tuple") (λxs H Q=>∃p ys,xs=[.ref p]/\((bS X.K H p ys/\∀l,H l=none->Q (.ref l) (upd H l (.tup ys)))\/(mX X.K H p ys/\Q (.ref p) H))):=by
 intro pins s σ H xs us Q I r h
 obtain⟨p,ys,rfl,h⟩:=h
 obtain⟨u,rfl,rx⟩:=vals1 r
 cases rx
 rcases h with ⟨hq,q⟩|⟨hq,q⟩
 ·obtain⟨its,r',pl,hz⟩:=I.list hq
  have hlen:=r'.length
  refine call_tuple_list pl.isList (λh' kp=>?_) (by simp only[kU] <;> omega)
  have I1:Inv X pins σ H { s with heap:=h' }:=I.kept (t':=s.toks) kp
  have I2:Inv X pins σ (upd H h'.objs.size (.tup ys)) { s with heap:=h'.push { cls:=.type "tuple",data:=.seq its.toArray } }:=
   I1.laid (t':=s.toks) (λb o e=>kS _ e) (fJ _) (show bW X.prog X.w _ _ _ (.tup ys) from⟨hz,its,r',IsTup.new _ _⟩)
  exact⟨.ref h'.objs.size,_,I2,rfl,q _ (I1.hok.fresh (fJ _))⟩
 ·obtain⟨its,r',pl,hz⟩:=I.tuple hq
  exact call_tuple_same pl ⟨.ref p,H,I,rfl,q⟩
def tyV(K:W.Frag)(T:String)(x:V)(H:Hp):Prop:=match x with
 |.str _=>T = "str"
 |.int _=>T = "int"
 |.ref p=>(T = "list"/\∃xs,bS K H p xs)\/(T = "tuple"/\∃o,K.lookup p=some o/\o.cls=.type "tuple"/\o.dict=none)\/
   (T = "dict"/\((∃kvs,H p=some (.dK kvs))\/∃kvs,H p=some (.dT kvs)))\/(T = "set"/\∃S n,H p=some (.set S n))
 |_=>False
theorem aN6{s:Shared}(I:Inv X pins σ H s)(r:RelV x v)(ty:tyV X.K T x H) :
  s.TypeIs v T/\∀a,v=.ref a->∃ob,s.heap.get? a=some ob/\ob.dict=none:=by
 cases x with
 |str z=>
  obtain⟨t,rfl⟩:=r
  cases (show T = "str" from ty)
  exact⟨typeIs_str s z t,λ_ e=>nomatch e⟩
 |int i=>
  obtain⟨t,rfl⟩:=r
  cases (show T = "int" from ty)
  exact⟨typeIs_int s i t,λ_ e=>nomatch e⟩
 |ref p=>
  cases r
  rcases ty with ⟨rfl,xs,hq⟩|⟨rfl,o,hk,hc,hd⟩|⟨rfl,hk⟩|⟨rfl,S,n,hk⟩
  ·obtain⟨its,_,pl,_⟩:=I.list hq
   refine⟨pl.isList.typeIs,λa e=>?_⟩
   cases e
   obtain⟨o,n,e,c,hd,_⟩:=pl
   exact⟨o,e,hd⟩
  ·refine⟨⟨o,I.kIn p o hk,hc⟩,λa e=>?_⟩
   cases e
   exact⟨o,I.kIn _ o hk,hd⟩
  ·have z:∃o,s.heap.get? p=some o/\o.ExactDict:=by
    rcases hk with ⟨kvs,hk⟩|⟨kvs,hk⟩
    ·obtain⟨_,_,_,_,o,_,_,e,ex,_⟩:=I.hok p _ hk
     exact⟨o,e,ex⟩
    ·obtain⟨_,_,_,_,o,_,_,e,ex,_⟩:=I.hok p _ hk
     exact⟨o,e,ex⟩
   obtain⟨o,e,ex⟩:=z
   refine⟨⟨o,e,ex.1⟩,λa e2=>?_⟩
   cases e2
   exact⟨o,e,ex.2.1⟩
  ·obtain⟨o,_,_,_,e,ex,_⟩:=I.hok p _ hk
   refine⟨⟨o,e,ex.1⟩,λa e2=>?_⟩
   cases e2
   exact⟨o,e,ex.2.1⟩
 |_=>exact False.elim ty
def tBM(K:W.Frag)(T:String)(r:V->List V->Hp->VK->Prop)(to:TE)(t:TA):TE:=λσ H Q=>to σ H λx H1=>tyV K T x H1/\t σ H1 λxs H2=>r x xs H2 Q
variable{o e:Expr}{es:List Expr}{to:TE}{t:TA}{name:Str}{apos cpos:Pos}{T id:String}{r:V->List V->Hp->VK->Prop}
theorem aNa(pa:PlainAttrs T)(slot:Slot T name id)(hty:typeOf (.builtin id)=pure (.type "method_descriptor"))(hm:MtR X id r)(ho:PE X o to)(ha:PA X (e::es) t)
  (hbase:attributeBase o name X.env (eval o X.env)=eval o X.env:=by rfl)
  (hfew:((backTo cpos (starEach (e::es) X.env)).all (λx=>!x.1) && (backToKw cpos (keywordEach [] X.env)).all (λx=>x.1.isSome)
   && decide ((e::es).length+([]:List Keyword).length+(if ([]:List Keyword).isEmpty then 0 else 1) < 30))=true:=by rfl)
  (hline:(apos.endLine == cpos.line)=true:=by rfl) (hs:starEach (e::es) X.env=(false,eval e X.env)::starEach es X.env:=by rfl) (hplain:(backTo cpos (starEach es X.env)).any (·.1)=false:=by rfl) :
  PE X (.Call (.Attribute o name apos) (e::es) [] cpos) (tBM X.K T r to t):=by
 intro pins s σ H Q I h
 refine wpAny_Call_method_late hbase hfew hline rfl (dI (ho pins s σ H _ I h) λv s1 ⟨x,H1,I1,r1,ty,q1⟩=>?_)
 obtain⟨h1,h2⟩:=aN6 I1 r1 ty
 refine⟨T,id,pa,slot,hty,h1,h2,?_⟩
 have hA:=ha cpos pins s1 σ H1 _ I1 q1
 rw[hs] at hA ⊢
 refine Calls.callWith_builtin (by show(false || (backTo cpos (starEach es X.env)).any (·.1))=false;rw[hplain] <;> rfl) (Calls.evalArgs_plain ?_)
 exact dI hA λus s2 ⟨vs,H2,I2,r2,q2⟩=>hm pins s2 σ H2 x vs v us Q I2 r1 r2 q2
end
end L2
namespace L2
open PySem PySem.Spec PyProof.Rows
def MtM(X:Cx)(id:String)(r:V->List V->Hp->VK->Prop):Prop:=
 ∀(pins:List (Addr×Obj)) (s:Shared) (σ:St) (H:Hp) (x:V) (xs:List V) (v:Value) (us:List Value) (Q:VK),Inv X pins σ H s->RelV x v->Vals xs us->r x xs H Q->
  wpAny (model X.prog X.w) X.A (call (.builtin id) (v::us)) (EP X pins σ Q) X.xe s
theorem Vals.one:∀{x:V}{us:List Value},Vals [x] us->∃u,us=[u]/\RelV x u
 |_,_,.cons r .nil=>⟨_,rfl,r⟩
theorem Vals.dropLast{xs:List V}{us:List Value}(h:Vals xs us):Vals xs.dropLast us.dropLast:=by
 induction h with
 |nil=>exact .nil
 |cons r t ih=>
  cases t with
  |nil=>exact .nil
  |cons q t'=>exact .cons r ih
theorem Vals.rep(h:Vals xs us):∀k:Nat,Vals (List.replicate k xs).flatten (List.replicate k us).flatten
 |0=>.nil
 |k+1=>by
  rw[Si9,Si9,Ti9,Ti9]
  exact Vals.append h (Vals.rep h k)
theorem foldl_rep(its:List Value):∀(k:Nat) (acc:List Value),
  List.foldl (λx1 x2=>x1++x2) acc.toArray (List.replicate k its.toArray)=(acc++(List.replicate k its).flatten).toArray
 |0,acc=>by simp
 |k+1,acc=>by
  have e:acc.toArray++its.toArray=(acc++its).toArray:=by simp
  have e2:(acc++its)++(List.replicate k its).flatten=acc++(List.replicate (k+1) its).flatten:=by
   rw[Si9,Ti9,List.append_assoc]
  rw[<-e2,<-foldl_rep its k (acc++its),<-e,Si9,List.foldl_cons]
section
variable{X:Cx}{pins:List (Addr×Obj)}{σ:St}{H:Hp}{s:Shared}{l b:Addr}{xs ys zs:List V}
theorem Inv.aLX{its its':List Value}{n:Nat}{f:Array Value->Array Value}{t':Nat}(I:Inv X pins σ H s)(hH:H l=some (.lst xs))
  (e:s.heap.get? l=some { cls:=.type "list",data:=.seq its.toArray n }) (hf:f its.toArray=its'.toArray) (hv:Vals ys its') (hz:ys.length<=sizeLine) :
  Inv X pins σ (upd H l (.lst ys)) { s with heap:=s.heap.update l (Obj.mapSeq f),toks:=t' }:=by
 have q:=PySem.IsL.update e f
 rw[hf] at q
 refine I.write (x:=l) (e:=l) (by rw[hH];exact trivial) (.inl rfl) (λb' u hb hu=>(Th9 s.heap (Obj.mapSeq f) (Ne.symm hb)).trans hu) ⟨_,q⟩ ?_
 exact⟨hz,its',_,hv,q⟩
theorem Inv.aPk{t':Nat}(I:Inv X pins σ H s)(hv:Vals ys its)(hz:ys.length<=sizeLine) :
  Inv X pins σ (upd H s.heap.objs.size (.lst ys)) { s with heap:=s.heap.push { cls:=.type "list",data:=.seq its.toArray },toks:=t' }:=
 I.laid (λ_ _ q=>kS _ q) (fJ _) ⟨hz,its,0,hv,xI _ rfl⟩
theorem Inv.fresh(I:Inv X pins σ H s):H s.heap.objs.size=none:=I.hok.fresh (fJ _)
theorem Inv.aLY(I:Inv X pins σ H s)(hH:H l=some (.lst xs)):xs.length<=sizeLine/\∃(its:List Value) (n:Nat),Vals xs its/\xs.length=its.length/\s.heap.get? l=some { cls:=.type "list",data:=.seq its.toArray n }:=by
 obtain⟨z,its,n,r,e⟩:=I.hok l _ hH
 exact⟨z,its,n,r,r.length,e⟩
theorem aJ2{n:Nat}(h:n<=sizeLine):Builtin.List.listTooLong n=false:=by
 unfold Builtin.List.listTooLong
 exact decide_eq_false (by omega)
end
section
variable{X:Cx}
def aB7:V->List V->Hp->VK->Prop:=λx vs H Q=>∃l xs y,x=.ref l/\vs=[y]/\H l=some (.lst xs)/\xs.length < sizeLine/\Q .non (upd H l (.lst (xs ++ [y])))
theorem aIT:MtM X "list.append" aB7:=by
 intro pins s σ H x vs v us Q I rx rv h
 obtain⟨l,xs,y,rfl,rfl,hH,hz,q⟩:=h
 cases rx
 obtain⟨u,rfl,ru⟩:=rv.one
 obtain⟨z,its,n,r,hl,e⟩:=I.aLY hH
 refine call_meets F.slot_list_append ⟨_,e,rfl⟩ F.entry_list_append (F.args_list_append_2 _ _) (PySem.list_append l its.toArray n u (by rw[kU];omega)) ⟨e,?_⟩
 refine⟨.non,_,I.aLX (its':=its ++ [u]) hH e (by simp) (r.append (.cons ru .nil)) ?_,rfl,q⟩
 rw[xX,Rj9]
 omega
def aPl:R2:=λx y H Q=>∃l b xs zs,x=.ref l/\y=.ref b/\H l=some (.lst xs)/\H b=some (.lst zs)/\xs.length+zs.length<=sizeLine/\∀p,H p=none->Q (.ref p) (upd H p (.lst (xs++zs)))
theorem aN7:vJ X (binaryOp .Add) aPl:=by
 intro pins s σ H x y v u Q I rx ry h
 obtain⟨l,b,xs,zs,rfl,rfl,hH,hB,hz,q⟩:=h
 cases rx
 cases ry
 obtain⟨z,its,n,r,hl,e⟩:=I.aLY hH
 obtain⟨z2,its2,n2,r2,hl2,e2⟩:=I.aLY hB
 refine PySem.P.add_list e e2 ?_ (by rw[kU,kU];omega)
 have ea:its.toArray++its2.toArray=(its++its2).toArray:=by simp
 rw[ea]
 exact⟨.ref _,_,I.aPk (t':=s.toks) (r.append r2) (by rw[xX];omega),rfl,q _ I.fresh⟩
def aPm:R2:=λx y H Q=>∃l k xs,x=.ref l/\y=.int k/\H l=some (.lst xs)/\-(2 ^ 63)<=k/\k < 2 ^ 63/\xs.length*k.toNat<=sizeLine/\
 ∀p,H p=none->Q (.ref p) (upd H p (.lst (List.replicate k.toNat xs).flatten))
theorem len_rep{α:Type}(xs:List α)(k:Nat):(List.replicate k xs).flatten.length=k*xs.length:=by
 induction k with
 |zero=>simp
 |succ k ih=>rw[Si9,Ti9,xX,ih,Nat.succ_mul,Nat.add_comm]
theorem aN8:vJ X (binaryOp .Mult) aPm:=by
 intro pins s σ H x y v u Q I rx ry h
 obtain⟨l,k,xs,rfl,rfl,hH,h1,h2,hz,q⟩:=h
 cases rx
 obtain⟨t,rfl⟩:=ry
 obtain⟨z,its,n,r,hl,e⟩:=I.aLY hH
 have hlen:its.toArray.size*k.toNat<=sizeLine:=by rw[kU,<-hl];exact hz
 have hcap:¬its.toArray.size*k.toNat > (2 ^ 63 - 1) / 8:=by
  have:(sizeLine:Nat)<=(2 ^ 63 - 1) / 8:=by decide
  omega
 have hfit:¬(!Builtin.List.listFitsIndex k)=true:=by
  rw[fitsIndex_both h1 h2]
  exact Qp9
 have hlong:¬Builtin.List.listTooLong (its.toArray.size*k.toNat)=true:=by
  rw[aJ2 hlen]
  exact Qp9
 have hnew:List.foldl (λx1 x2=>x1++x2) #[] (List.replicate (if its.toArray.isEmpty=true then 0 else k.toNat) its.toArray)=(List.replicate k.toNat its).flatten.toArray:=by
  have f0:∀m:Nat,List.foldl (λx1 x2=>x1++x2) #[] (List.replicate m its.toArray)=(List.replicate m its).flatten.toArray:=λm=>by
   have:=foldl_rep its m []
   rw[List.nil_append] at this
   exact this
  rw[f0]
  cases its with
  |nil=>simp
  |cons a r'=>rw[if_neg (by simp)]
 refine wpAny_binaryOp_repeat_ref (T:="list") (U:="int") (by decide) ⟨_,e,rfl⟩ (λs'=>typeIs_int s' k t) noFill_list_mul F.fills_int_mul F.slot_int_rmul repeat_list F.slot_int_index.lookup
  (call_meets F.slot_int_rmul (typeIs_int s k t) F.entry_int_rmul (F.args_int_rmul_2 _ _) (int___rmul___int_list k t l its.toArray n)
   ⟨e,rfl,⟨_,e,rfl⟩,call_meets F.slot_list_mul ⟨_,e,rfl⟩ F.entry_list_mul (F.args_list_mul_2 _ _) (AutoListH.list___mul___list_int_3 l its.toArray n k t hfit hcap hlong) ⟨e,?_⟩⟩)
 rw[hnew]
 exact⟨.ref _,_,I.aPk (t':=s.toks) (r.rep k.toNat) (by rw[len_rep,Nat.mul_comm];exact hz),rfl,q _ I.fresh⟩
end
section
variable{prog:Program}{w:World}{A:Around}{E:Value->Shared->Prop}{s:Shared}
end
section
variable{X:Cx}
end
end L2
namespace L2
open PySem PySem.Spec PyProof.Rows
section
variable{κ:Type}[DecidableEq κ]
def sC(kvs:List (κ×V))(k:κ):Option V:=(kvs.find? λkv=>decide (kv.1=k)).map (·.2)
def putK(kvs:List (κ×V))(k:κ)(v:V):List (κ×V):=
 if (kvs.any λkv=>decide (kv.1=k))=true then kvs.map (λkv=>if kv.1=k then (kv.1,v) else kv) else kvs ++ [(k,v)]
theorem mS{p:κ×V}(e:p.1=k):sC (p::r) k=some p.2:=by simp[sC,Rv9,e]
theorem jX{p:κ×V}(e:¬p.1=k):sC (p::r) k=sC r k:=by simp[sC,Rv9,e]
theorem zS(k:κ):∀kvs:List (κ×V),(kvs.any λkv=>decide (kv.1=k))=(sC kvs k).isSome
 |[]=>rfl
 |p::r=>by
  rw[List.any_cons]
  by_cases e:p.1=k
  ·simp only[mS e,decide_eq_true e,Bool.true_or,Option.isSome_some]
  ·rw[jX e,decide_eq_false e,Bool.false_or];exact zS k r
theorem vK(k j:κ)(y:V):∀kvs:List (κ×V),sC (kvs.map λkv=>if kv.1=k then (kv.1,y) else kv) j=(sC kvs j).map λx=>if j=k then y else x
 |[]=>rfl
 |p::r=>by
  have ih:=vK k j y r
  rw[Rb9]
  by_cases h:p.1=k
  ·rw[if_pos h]
   by_cases e:p.1=j
   ·rw[mS (p:=(p.1,y)) e,mS e,Option.map_some,if_pos (e.symm.trans h)]
   ·rw[jX (p:=(p.1,y)) e,jX e,ih]
  ·rw[if_neg h]
   by_cases e:p.1=j
   ·rw[mS (p:=p) e,mS e,Option.map_some,if_neg (λz=>h (e.trans z))]
   ·rw[jX (p:=p) e,jX e,ih]
theorem vL(kvs:List (κ×V))(k:κ)(v:V):(putK kvs k v).length<=kvs.length+1:=by
 unfold putK
 split
 ·rw[bZ];omega
 ·rw[xX,Ra9,Tu9];omega
theorem aCk{kvs:List (κ×V)}{k:κ}(v:V)(h:sC kvs k=none):putK kvs k v=kvs ++ [(k,v)]:=by
 unfold putK
 rw[zS,h]
 exact if_neg (by decide)
theorem vA.aIU{o:Option V}{u:Option Value}(r:vA o u):o.isSome=u.isSome:=by
 cases o with
 |none=>cases u with
  |none=>rfl
  |some _=>exact(show False from r).elim
 |some _=>cases u with
  |none=>exact(show False from r).elim
  |some _=>rfl
theorem vA.getD{o:Option V}{u:Option Value}(r:vA o u)(rd:RelV d d'):RelV (o.getD d) (u.getD d'):=by
 cases o with
 |none=>cases u with
  |none=>exact rd
  |some _=>exact(show False from r).elim
 |some _=>cases u with
  |none=>exact(show False from r).elim
  |some _=>exact r
theorem KV.val(r:KV kvs vs)(k:κ):vA (sC kvs k) (valueAt vs k):=by
 unfold KV at r
 induction r with
 |nil=>exact True.intro
 |@cons p q ps qs h t ih=>
  obtain⟨h1,h2⟩:=h
  by_cases e:p.1=k
  ·have e':q.1=k:=h1.symm.trans e
   have b:valueAt (q::qs) k=some q.2:=by simp[valueAt,Rv9,e']
   rw[mS e,b];exact h2
  ·have e':¬q.1=k:=λz=>e (h1.trans z)
   have b:valueAt (q::qs) k=valueAt qs k:=by simp[valueAt,Rv9,e']
   rw[jX e,b];exact ih
theorem KV.any{kvs:List (κ×V)}{vs:List (κ×Value)}(r:KV kvs vs)(k:κ):(kvs.any λkv=>decide (kv.1=k))=vs.any λkv=>decide (kv.1=k):=by
 unfold KV at r
 induction r with
 |nil=>rfl
 |cons h t ih=>rw[List.any_cons,List.any_cons,ih,h.1]
theorem KV.aN9{kvs:List (κ×V)}{vs:List (κ×Value)}(r:KV kvs vs)(k:κ)(ry:RelV y u) :
  KV (kvs.map λkv=>if kv.1=k then (kv.1,y) else kv) (vs.map λkv=>if kv.1=k then (kv.1,u) else kv):=by
 unfold KV at r ⊢
 induction r with
 |nil=>exact .nil
 |@cons p q ps qs h t ih=>
  rw[Rb9,Rb9]
  refine .cons ?_ ih
  obtain⟨h1,h2⟩:=h
  by_cases e:p.1=k
  ·rw[if_pos e,if_pos (h1.symm.trans e)];exact⟨h1,ry⟩
  ·rw[if_neg e,if_neg (λz=>e (h1.trans z))];exact⟨h1,h2⟩
theorem KV.put(r:KV kvs vs)(k:κ)(ry:RelV y u):KV (putK kvs k y) (stored vs k u):=by
 unfold putK stored
 rw[r.any k]
 by_cases e:(vs.any λkv=>decide (kv.1=k))=true
 ·rw[if_pos e,if_pos e];exact r.aN9 k ry
 ·rw[if_neg e,if_neg e];exact Paired.snoc r ⟨rfl,ry⟩
theorem KV.length{kvs:List (κ×V)}{vs:List (κ×Value)}(r:KV kvs vs):kvs.length=vs.length:=Paired.length r
end
theorem aH7(r:RelV (kV k) u):(eE P w).is k u=true:=by
 cases k with
 |inl i=>obtain⟨t,e⟩:=(show ∃t,u=Value.int i t from r);subst e;exact aFE P w i t
 |inr x=>obtain⟨t,e⟩:=(show ∃t,u=Value.str x t from r);subst e;exact aFF P w x t
theorem aEb:∀{ks:List Key}{us:List Value},Vals (ks.map kV) us->ItemsAre (eE P w) ks us
 |[],_,r=>by rw[Te9] at r;cases r;exact .nil
 |k::ks,_,r=>by
  rw[Rb9] at r
  cases r with
  |cons h t=>exact .cons (aH7 h) (aEb t)
abbrev KT(H:Hp):List (List Key×V)->List (List Key×Addr×Value)->Prop:=Paired λp q=>p.1=q.1/\H q.2.1=some (.tup (p.1.map kV))/\RelV p.2 q.2.2
theorem KT.val(r:KT H kvs xs)(k:List Key):vA (sC kvs k) ((atKey xs k).map (·.2)):=by
 induction r with
 |nil=>exact True.intro
 |@cons p q ps qs h t ih=>
  obtain⟨h1,_,h2⟩:=h
  by_cases e:p.1=k
  ·have e':q.1=k:=h1.symm.trans e
   have b:atKey (q::qs) k=some q.2:=by simp[atKey,Rv9,e']
   rw[mS e,b];exact h2
  ·have e':¬q.1=k:=λz=>e (h1.trans z)
   have b:atKey (q::qs) k=atKey qs k:=by simp[atKey,Rv9,e']
   rw[jX e,b];exact ih
theorem KT.aN9{kvs:List (List Key×V)}{xs:List (List Key×Addr×Value)}(r:KT H kvs xs)(k:List Key)(ry:RelV y u) :
  KT H (kvs.map λkv=>if kv.1=k then (kv.1,y) else kv) (xs.map (putAt k u)):=by
 induction r with
 |nil=>exact .nil
 |@cons p q ps qs h t ih=>
  rw[Rb9,Rb9]
  refine .cons ?_ ih
  obtain⟨h1,h2,h3⟩:=h
  unfold putAt
  by_cases e:p.1=k
  ·rw[if_pos e,if_pos (h1.symm.trans e)];exact⟨h1,h2,ry⟩
  ·rw[if_neg e,if_neg (λz=>e (h1.trans z))];exact⟨h1,h2,h3⟩
theorem KT.put(r:KT H kvs xs)(k:List Key)(hb:H b=some (.tup (k.map kV)))(ry:RelV y u) :
  KT H (putK kvs k y) (storedH xs k b u):=by
 have e:(kvs.any λkv=>decide (kv.1=k))=(atKey xs k).isSome:=by
  rw[zS,(r.val k).aIU,Option.isSome_map]
 unfold putK storedH
 rw[e]
 by_cases q:(atKey xs k).isSome=true
 ·rw[if_pos q,if_pos q];exact r.aN9 k ry
 ·rw[if_neg q,if_neg q];exact Paired.snoc r ⟨rfl,hb,ry⟩
theorem KT.keeps{H H':Hp}(r:KT H kvs xs)(ht:∀b ys,H b=some (.tup ys)->H' b=some (.tup ys)):KT H' kvs xs:=
 Paired.aNn r λ_ _ z=>⟨z.1,ht _ _ z.2.1,z.2.2⟩
section
variable{P:Program}{w:World}{H:Hp}{h:Heap}{a:Addr}
theorem aNb(ok:vB P w H h)(e:Rd H a u):bW P w H h a u:=e.ok ok
theorem aFR{kvs:List (Key×V)}(ok:vB P w H h)(e:Rd H a (.dK kvs)):kvs.length<=sizeLine/\(a == sysModules)=false/\∃vs,KV kvs vs/\h.DictOf (eE P w) a vs:=
 show bW P w H h a (.dK kvs) from aNb ok e
theorem aPn{kvs:List (Key×V)}(ok:vB P w H h)(e:H a=some (.dK kvs)):kvs.length<=sizeLine/\(a == sysModules)=false/\∃vs,KV kvs vs/\h.DictOf (eE P w) a vs:=aFR ok (.inl e)
theorem aCl{ks:List Key}(ok:vB P w H h)(e:H a=some (.tup (ks.map kV))):(tupleKind (eE P w)).is h ks a:=by
 obtain⟨_,its,r,o,h1,h2,n,h3⟩:=(show bW P w H h a (.tup (ks.map kV)) from ok a _ e)
 exact⟨o,its.toArray,n,h1,h2,h3,by simpa using aEb r⟩
theorem aFS{kvs:List (List Key×V)}(ok:vB P w H h)(e:Rd H a (.dT kvs)):kvs.length<=sizeLine/\(a == sysModules)=false/\
  ∃xs,KT H kvs xs/\h.DictOfH (tupleKind (eE P w)) a xs:=by
 obtain⟨z,y,xs,r,o,es,ep,h1,h2,h3,h4,h5⟩:=(show bW P w H h a (.dT kvs) from aNb ok e)
 refine⟨z,y,xs,r,o,es,ep,h1,h2,h3,h4,λx hx=>?_,h5⟩
 have all:∀{l:List (List Key×V)} {m:List (List Key×Addr×Value)},KT H l m->∀x∈m,(tupleKind (eE P w)).is h x.1 x.2.1:=by
  intro l m q
  induction q with
  |nil=>intro x hx;exact nomatch hx
  |@cons p q ps qs hq t ih=>
   intro x hx
   rcases xJ.mp hx with e|hx
   ·subst e
    exact aCl ok (by rw[<-hq.1];exact hq.2.1)
   ·exact ih x hx
 exact all r x hx
theorem aNc{kvs:List (List Key×V)}(ok:vB P w H h)(e:H a=some (.dT kvs)):kvs.length<=sizeLine/\(a == sysModules)=false/\
  ∃xs,KT H kvs xs/\h.DictOfH (tupleKind (eE P w)) a xs:=aFS ok (.inl e)
end
def vM(H:Hp)(a:Addr)(y:V)(r:Option V):Prop:=
 (∃kvs k,Rd H a (.dK kvs)/\y=kV k/\r=sC kvs k)\/∃kvs k b,Rd H a (.dT kvs)/\y=.ref b/\H b=some (.tup (k.map kV))/\r=sC kvs k
def aCm(H:Hp)(a:Addr)(y v:V)(H':Hp):Prop:=
 (∃kvs k,H a=some (.dK kvs)/\y=kV k/\kvs.length < sizeLine/\H'=upd H a (.dK (putK kvs k v)))\/
 ∃kvs k b,H a=some (.dT kvs)/\y=.ref b/\H b=some (.tup (k.map kV))/\kvs.length < sizeLine/\H'=upd H a (.dT (putK kvs k v))
theorem vM.k{H:Hp}{a:Addr}{kvs:List (Key×V)}{k:Key}(e:H a=some (.dK kvs)):vM H a (kV k) (sC kvs k):=.inl ⟨kvs,k,.inl e,rfl,rfl⟩
theorem vM.t{H:Hp}{a b:Addr}{kvs:List (List Key×V)}{k:List Key}(e:H a=some (.dT kvs))(eb:H b=some (.tup (k.map kV))):vM H a (.ref b) (sC kvs k):=.inr ⟨kvs,k,b,.inl e,rfl,eb,rfl⟩
theorem aCm.k{H:Hp}{a:Addr}{kvs:List (Key×V)}{k:Key}{v:V}(e:H a=some (.dK kvs))(hl:kvs.length < sizeLine):aCm H a (kV k) v (upd H a (.dK (putK kvs k v))):=.inl ⟨kvs,k,e,rfl,hl,rfl⟩
theorem aCm.t{H:Hp}{a b:Addr}{kvs:List (List Key×V)}{k:List Key}{v:V}(e:H a=some (.dT kvs))(eb:H b=some (.tup (k.map kV)))(hl:kvs.length < sizeLine) :
  aCm H a (.ref b) v (upd H a (.dT (putK kvs k v))):=.inr ⟨kvs,k,b,e,rfl,eb,hl,rfl⟩
section
variable{X:Cx}{pins:List (Addr×Obj)}{σ:St}{H:Hp}{s:Shared}{a:Addr}{y v:V}{u r:Value}{o:Option V}{A:Around}{E:Value->Shared->Prop}
theorem Inv.big(I:Inv X pins σ H s):sysModules < s.heap.objs.size:=by
 have h:mainGlobals < s.heap.objs.size:=(I.mod.glob.keeps I.bk).lt
 exact Nat.lt_trans (by decide) h
theorem aIV{Q:Value->Shared->Prop}(hu:A.units+1 < cLine)(I:Inv X pins σ H s)(g:vM H a y (some v))(ry:RelV y u)(h:∀w' s',Inv X pins σ H s'->RelV v w'->Q w' s') :
  wpAny (model X.prog X.w) A (getItem (.ref a) u) Q E s:=by
 rcases g with ⟨kvs,k,e,ey,l⟩|⟨kvs,k,b,e,ey,eb,l⟩
 ·subst ey
  obtain⟨z,hd,vs,rel,dd⟩:=aFR I.hok e
  obtain⟨w',hw,rw'⟩:=vA.some_of (v:=v) (o:=valueAt vs k) (by rw[l];exact rel.val k)
  exact wpAny_getItem_of (aH7 ry) dd.mapOf hw (h w' _ (I.tok _) rw')
 ·subst ey
  cases (show u=Value.ref b from ry)
  obtain⟨z,hd,xs,rel,dd⟩:=aFS I.hok e
  obtain⟨w',hw,rw'⟩:=vA.some_of (v:=v) (o:=(atKey xs k).map (·.2)) (by rw[l];exact rel.val k)
  obtain⟨p,hp,hp2⟩:=Qr9.mp hw
  refine wpAny_getItem_heap (tupleKind_room_in1 hu) (aCl I.hok eb) dd hp ?_
  rw[hp2]
  exact h w' _ (I.tok _) rw'
theorem aEE{h':Heap}{t':Nat}(I:Inv X pins σ H s)(mu:Mut (H a))(hs:Heap.SameBut a s.heap h')(he:∃q,h'.get? a=some q)(new:bW X.prog X.w (upd H a ob) h' a ob) :
  Inv X pins σ (upd H a ob) { s with heap:=h',toks:=t' }:=
 I.write (x:=a) (e:=a) mu (.inl rfl) (λb q hb z=>(hs.2 b hb).trans z) he new
theorem aOa{h':Heap}{kvs:List (Key×V)}(z:kvs.length<=sizeLine)(hd:(a == sysModules)=false)(rel:KV kvs vs)(dd:h'.DictOf (eE P w) a vs) :
  bW P w H' h' a (.dK kvs):=⟨z,hd,vs,rel,dd⟩
theorem aIW{H':Hp}{Q:Unit->Shared->Prop}(hu:A.units+1 < cLine)(I:Inv X pins σ H s)(g:aCm H a y v H')(ry:RelV y u)(rv:RelV v r)(h:∀s',Inv X pins σ H' s'->Q () s') :
  wpAny (model X.prog X.w) A (setItem (.ref a) u r) Q E s:=by
 rcases g with ⟨kvs,k,e,ey,l,eH⟩|⟨kvs,k,b,e,ey,eb,l,eH⟩
 ·subst ey eH
  obtain⟨z,hd,vs,rel,dd⟩:=aPn I.hok e
  have hz:vs.length<=sizeLine:=by rw[<-rel.length];exact z
  have hl:(putK kvs k v).length<=sizeLine:=by have:=vL kvs k v;omega
  refine wpAny_setItem_pairs (hsz:=hz) (aH7 ry) dd λh' dd' hs=>h _ ?_
  have he:∃q,h'.get? a=some q:=let ⟨q,_,_,hq,_⟩:=dd';⟨q,hq⟩
  exact aEE I (by rw[e];exact True.intro) hs he (aOa hl hd (rel.put k rv) dd')
 ·subst ey eH
  cases (show u=Value.ref b from ry)
  obtain⟨z,hd,xs,rel,dd⟩:=aNc I.hok e
  have hz:xs.length<=sizeLine:=by rw[<-Paired.length rel];exact z
  have hl:(putK kvs k v).length<=sizeLine:=by have:=vL kvs k v;omega
  refine wpAny_setItem_heap (hsz:=hz) (tupleKind_room_in1 hu) (aCl I.hok eb) dd λh' dd' hs=>h _ ?_
  obtain⟨q,es,ep,hq,h2,h3,h4,_,h5⟩:=dd'
  refine aEE I (by rw[e];exact True.intro) hs ⟨q,hq⟩ ⟨hl,hd,_,(rel.put k eb rv).keeps λc ys ec=>?_,q,es,ep,hq,h2,h3,h4,h5⟩
  rw[aU (aM5 ec e (λz=>nomatch z))]
  exact ec
end
section
variable{X:Cx}{pins:List (Addr×Obj)}{σ:St}{H:Hp}{s:Shared}{a:Addr}{kvs:List (Key×V)}{k:Key}{u:Value}{A:Around}{E:Value->Shared->Prop}
end
def aOb(i:Expr):Prop:=∀ov iv,subscripted i false ov iv=operate [ov,iv] (getItem ov iv)
theorem aLZ{prog:Program}{w:World}{A:Around}{E:Value->Shared->Prop}{s:Shared}{env:Env}{value slice:Expr}{pos:Pos}{T id:String}{Q:Value->Shared->Prop}
  (hl:typeLookup (.type T) "__getitem__" = pure (some (.builtin id))) (hs:aOb slice)
  (h:wpAny (model prog w) A (eval value env) (λo s₁=>wpAny (model prog w) A (eval slice env) (λi s₂=>s₂.TypeIs o T/\wpAny (model prog w) A (getItem o i) Q E s₂) E s₁) E s) :
  wpAny (model prog w) A (eval (.Subscript value slice pos) env) Q E s:=by
 refine Subscript_ (wpAny_mono h (λo s₁ h₁=>wpAny_mono h₁ (λi s₂ h₂=>?_) λ_ _ x=>x) λ_ _ x=>x)
 obtain⟨hT,h₂⟩:=h₂
 unfold subscriptTail
 refine wpAny_bind ?_
 rw[getitemInPython_of_ne hT.not_modules]
 refine wpAny_bind (wpAny_specialOf hT hl ?_)
 have fin:wpAny (model prog w) A (subscripted slice false o i) (λr s₃=>wpAny (model prog w) A (letTemporaryGo value o r >>= λ_=>pure r) Q E s₃) E s₂:=by
  rw[hs o i]
  exact wpAny_operating (wpAny_mono h₂ (λr s₃ h₃=>wpAny_bind (wpAny_letTemporaryGo (wpAny_pure h₃))) λ_ _ x=>x)
 first
  |exact wpAny_pure (wpAny_bind fin)
  |exact wpAny_bind (wpAny_pure (wpAny_bind fin))
  |exact wpAny_bind fin
theorem aFT{s:Shared}(I:Inv X pins σ H s)(g:vM H a y o):s.TypeIs (.ref a) "dict":=by
 rcases g with ⟨kvs,k,e,_,_⟩|⟨kvs,k,b,e,_,_,_⟩
 ·obtain⟨_,_,vs,_,dd⟩:=aFR I.hok e
  exact dd.typeIs
 ·obtain⟨_,_,xs,_,dd⟩:=aFS I.hok e
  exact dd.typeIs
def aJ3(td ty:TE):TE:=λσ H Q=>td σ H λx H1=>ty σ H1 λy H2=>∃a v,x=.ref a/\vM H2 a y (some v)/\Q v H2
def aJ4(td ty tv:TE):TS:=λD σ H=>tv σ H λv H1=>td σ H1 λx H2=>ty σ H2 λy H3=>∃a H4,x=.ref a/\aCm H3 a y v H4/\D.nx σ H4
section
variable{X:Cx}{o i e value:Expr}{pos pos' tpos:Pos}{td ty tv:TE}
theorem aL0(hu:X.A.units+1 < cLine)(ho:PE X o td)(hi:PE X i ty)(hs:aOb i):PE X (.Subscript o i pos) (aJ3 td ty):=by
 intro pins s σ H Q I h
 refine aLZ PySem.F.slot_dict_getitem.lookup hs (dI (ho pins s σ H _ I h) λu s1 ⟨x,H1,I1,rx,q1⟩=>dI (hi pins s1 σ H1 _ I1 q1) λiv s2 ⟨y,H2,I2,ry,a,v,ex,g,q2⟩=>?_)
 subst ex
 obtain rfl:u=Value.ref a:=rx
 exact⟨aFT I2 g,aIV hu I2 g ry λw' s3 I3 rw'=>⟨v,H2,I3,rw',q2⟩⟩
theorem aL1(hu:X.A.units+1 < cLine)(ho:PE X o td)(hi:PE X i ty)(hv:PE X value tv)(hs:swapsWith value (some (.Subscript o i pos')) pos.line X.env=pure false) :
  PS X (.Assign [.Subscript o i pos'] value pos) (aJ4 td ty tv):=by
 intro pins s σ H D I h
 refine wpAny_Assign_Subscript (dI (hv pins s σ H _ I h) λr s1 ⟨v,H1,I1,rv,q1⟩=>dI (ho pins s1 σ H1 _ I1 q1) λu s2 ⟨x,H2,I2,rx,q2⟩=>dI (hi pins s2 σ H2 _ I2 q2) λiv s3 ⟨y,H3,I3,ry,a,H4,ex,g,q3⟩=>?_) hs
 subst ex
 obtain rfl:u=Value.ref a:=rx
 exact aIW hu I3 g ry rv λs4 I4=>⟨σ,H4,I4,q3⟩
end
theorem aJ5(h:Heap)(hb:sysModules < h.objs.size):bW P w H (h.push { cls:=.type "dict",data:=.dict #[] }) h.objs.size (.dK []):=
 ⟨Rr9 _,beq_eq_false_iff_ne.mpr (Ne.symm (vE hb)),[],.nil,Heap.DictOf.new h⟩
theorem aFU(h:Heap)(hb:sysModules < h.objs.size):bW P w H (h.push { cls:=.type "dict",data:=.dict #[] }) h.objs.size (.dT []):=
 ⟨Rr9 _,beq_eq_false_iff_ne.mpr (Ne.symm (vE hb)),[],.nil,_,#[],0,xI _ rfl,⟨rfl,rfl,rfl⟩,rfl,rfl,List.nodup_nil⟩
def aOc:TE:=λ_ H Q=>∀p,H p=none->Q (.ref p) (upd H p (.dK []))
def aOd:TE:=λ_ H Q=>∀p,H p=none->Q (.ref p) (upd H p (.dT []))
section
variable{X:Cx}{pos:Pos}
theorem aJ6:PE X (.Dict [] [] pos) aOc:=λpins s σ H Q I h=>
 wpAny_Dict_empty ⟨.ref s.heap.objs.size,_,I.laid (a:=s.heap.objs.size) (o:=.dK []) (t':=s.toks) (λ_ _ q=>kS _ q) (fJ _) (aJ5 s.heap I.big),rfl,h _ (I.hok.fresh (fJ _))⟩
theorem aJ7:PE X (.Dict [] [] pos) aOd:=λpins s σ H Q I h=>
 wpAny_Dict_empty ⟨.ref s.heap.objs.size,_,I.laid (a:=s.heap.objs.size) (o:=.dT []) (t':=s.toks) (λ_ _ q=>kS _ q) (fJ _) (aFU s.heap I.big),rfl,h _ (I.hok.fresh (fJ _))⟩
end
structure M1(X:Cx)(o:Expr)(m:Str)(apos:Pos)(e:Expr)(cpos:Pos):Prop where
 base:attributeBase o m X.env (eval o X.env)=eval o X.env
 few:((backTo cpos (starEach [e] X.env)).all (λx=>!x.1) && (backToKw cpos (keywordEach [] X.env)).all (λx=>x.1.isSome)
  && decide (([e]:List Expr).length+([]:List Keyword).length+(if ([]:List Keyword).isEmpty then 0 else 1) < 30))=true
 line:(apos.endLine == cpos.line)=true
 trees:backTo cpos (starEach [e] X.env)=[(false,eval e X.env)]
structure M2(X:Cx)(o:Expr)(m:Str)(apos:Pos)(e f:Expr)(cpos:Pos):Prop where
 base:attributeBase o m X.env (eval o X.env)=eval o X.env
 few:((backTo cpos (starEach [e,f] X.env)).all (λx=>!x.1) && (backToKw cpos (keywordEach [] X.env)).all (λx=>x.1.isSome)
  && decide (([e,f]:List Expr).length+([]:List Keyword).length+(if ([]:List Keyword).isEmpty then 0 else 1) < 30))=true
 line:(apos.endLine == cpos.line)=true
 trees:backTo cpos (starEach [e,f] X.env)=[(false,eval e X.env),(false,eval f X.env)]
def IsD(H:Hp)(a:Addr):Prop:=(∃kvs,Rd H a (.dK kvs))\/∃kvs,Rd H a (.dT kvs)
theorem aOe{s:Shared}(I:Inv X pins σ H s)(d:IsD H a) :
  s.TypeIs (.ref a) "dict"/\(∀b,Value.ref a=.ref b->∃ob,s.heap.get? b=some ob/\ob.dict=none)/\(a == sysModules)=false:=by
 rcases d with ⟨kvs,e⟩|⟨kvs,e⟩
 ·obtain⟨_,hd,vs,_,dd⟩:=aFR I.hok e
  refine⟨dd.typeIs,λb q=>?_,hd⟩
  cases q
  obtain⟨ob,_,_,h1,h2,_⟩:=dd
  exact⟨ob,h1,h2.2.1⟩
 ·obtain⟨_,hd,xs,_,dd⟩:=aFS I.hok e
  refine⟨dd.typeIs,λb q=>?_,hd⟩
  cases q
  obtain⟨ob,_,_,h1,h2,_⟩:=dd
  exact⟨ob,h1,h2.2.1⟩
section
variable{X:Cx}{pins:List (Addr×Obj)}{σ:St}{H:Hp}{s:Shared}{a:Addr}{y d:V}{u r:Value}{o:Option V}{A:Around}{E:Value->Shared->Prop}
theorem aOf{Q:Value->Shared->Prop}(hu:A.units+1 < cLine)(I:Inv X pins σ H s)(g:vM H a y o)(ry:RelV y u)(rd:RelV d r)(h:∀w' s',Inv X pins σ H s'->RelV (o.getD d) w'->Q w' s') :
  wpAny (model X.prog X.w) A (call (.builtin "dict.get") [.ref a,u,r]) Q E s:=by
 rcases g with ⟨kvs,k,e,ey,l⟩|⟨kvs,k,b,e,ey,eb,l⟩
 ·subst ey
  obtain⟨z,hd,vs,rel,dd⟩:=aFR I.hok e
  refine call_meetsIn PySem.F.slot_dict_get dd.typeIs PySem.F.entry_dict_get (PySem.F.args_dict_get_3 _ _ _) (meets_dict_get_default (eE X.prog X.w) a (aH7 ry) hd r) ⟨_,dd.mapOf,h _ _ (I.tok _) ?_⟩
  rw[l]
  exact(rel.val k).getD rd
 ·subst ey
  cases (show u=Value.ref b from ry)
  obtain⟨z,hd,xs,rel,dd⟩:=aFS I.hok e
  refine call_meetsIn PySem.F.slot_dict_get dd.typeIs PySem.F.entry_dict_get (PySem.F.args_dict_get_3 _ _ _) (meetsH_dict_get_default (tupleKind (eE X.prog X.w)) a b hd r) ⟨tupleKind_room_in1 hu,k,xs,aCl I.hok eb,dd,h _ _ (I.tok _) ?_⟩
  rw[l]
  exact(rel.val k).getD rd
end
def aG7(td ty tx:TE):TE:=λσ H Q=>td σ H λx H1=>∃a,x=.ref a/\IsD H1 a/\ty σ H1 λy H2=>tx σ H2 λz H3=>∃o,vM H3 a y o/\Q (o.getD z) H3
section
variable{X:Cx}{o e f:Expr}{apos cpos:Pos}{td ty tx:TE}
theorem aJ8(hu:X.A.units+1 < cLine)(ho:PE X o td)(he:PE X e ty)(hf:PE X f tx)(m:M2 X o "get" apos e f cpos):PE X (.Call (.Attribute o "get" apos) [e,f] [] cpos) (aG7 td ty tx):=by
 intro pins s σ H Q I h
 refine wpAny_Call_method m.base m.few m.line PySem.F.plainAttrs_dict PySem.F.slot_dict_get PySem.F.type_dict_get (dI (ho pins s σ H _ I h) λu s1 ⟨x,H1,I1,rx,a,ex,d,q1⟩=>?_)
 subst ex
 obtain rfl:u=Value.ref a:=rx
 obtain⟨t1,t2,_⟩:=aOe I1 d
 refine⟨t1,t2,?_⟩
 rw[m.trees]
 refine Calls.callWith_builtin rfl (Calls.evalArgs_plain (Calls.spliced_cons (dI (he pins s1 σ H1 _ I1 q1) λiv s2 ⟨y,H2,I2,ry,q2⟩=>
  Calls.spliced_cons (dI (hf pins s2 σ H2 _ I2 q2) λfv s3 ⟨z,H3,I3,rz,ov,g,q3⟩=>Calls.spliced_nil ?_))))
 exact aOf hu I3 g ry rz λw' s4 I4 rw'=>⟨_,H3,I4,rw',q3⟩
end
section
variable{X:Cx}{pins:List (Addr×Obj)}{σ:St}{H:Hp}{s:Shared}{a:Addr}{kvs:List (Key×V)}{A:Around}{E:Value->Shared->Prop}
end
section
variable{X:Cx}{pins:List (Addr×Obj)}{σ:St}{H:Hp}{s:Shared}{a:Addr}{y:V}{u:Value}{A:Around}{E:Value->Shared->Prop}
end
end L2
namespace Att
open PySem PySem.W PySem.Calls PyProof.Rows
theorem aBI:∀(ns:List Int) (vs:List Value),WellAll P h vs (ns.map WData.int)->IntsAre vs ns:=by
 intro ns
 induction ns with
 |nil=>
  intro vs w
  rw[Te9] at w
  cases w
  exact .nil
 |cons n ns ih=>
  intro vs w
  rw[Rb9] at w
  cases w with
  |cons a b=>
   cases a
   exact .cons _ _ (ih _ b)
theorem aIX{l:OpenLaw}{n:Nat}(hn:l.most=some n){h:Heap}(hpre:l.row.toRowW.claim.pre args=true)(hwl:WellAll P h vals args) :
  ∃a vs ns,vals=[Value.ref a]/\args=[WData.list (ns.map WData.int)]/\h.get? a=some { cls:=.type "list",data:=.seq vs.toArray }/\IntsAre vs ns/\ns.length<=n:=by
 have hsh:WShape.hasAll [] args [.list .int]=true:=(pre_splitW hpre).1
 have hc:l.pre.holds [] { args:=args } = true:=(pre_splitW hpre).2
 obtain⟨d,r,rfl,h1,h2⟩:=hasAllW_cons hsh
 obtain rfl:=hasAllW_nil h2
 obtain⟨xs,rfl,h3⟩:=hasW_list h1
 obtain⟨ns,rfl⟩:=items_int h3
 have hlen:ns.length<=n:=by
  unfold OpenLaw.pre at hc
  have h4:(WTm.not (.lt (.lit (.int (n:Int))) (.len (.arg 0)))).holds [] { args:=[.list (ns.map .int)] } = true:=by
   have h4:=(holds_andW hc).1
   rw[hn] at h4
   exact h4
  have h5:=condW_of h4 (w_not (w_lt w_lit (w_len_list (w_arg rfl))))
  rw[bZ] at h5
  refine Nat.le_of_not_lt λq=>?_
  have q':(n:Int) < ((ns.length:Nat):Int):=by omega
  first
   |(rw[decide_eq_true q'] at h5;exact absurd h5 (by decide))
   |(simp at h5;omega)
 cases hwl with
 |cons w1 w2=>
  cases w2
  cases w1 with
  |list ho hall=>exact⟨_,_,ns,rfl,rfl,ho,aBI ns _ hall,hlen⟩
theorem aIY(l:OpenLaw)(args:List WData):l.row.toRowW.claim.post args (.bool true) args=true:=
 postW_of (r:=l.row.toRowW) (X:=(true == true))
  (show WShape.has [] (.bool true) .bool=true by first|rfl|decide|simp[WShape.has,WShape.arms,WShape.armsAll])
  (show(WTm.eq .res (.lit (.bool true))).value [] { args:=args,res:=some (.bool true),after:=args } = some (.bool (true == true)) from w_eq_bool (w_res rfl) w_lit) rfl
theorem aFV{l:OpenLaw}{n:Nat}{XP:(Str->Option Value)->Heap->Prop}{YP:World->Heap->Prop}{d:DefRec}(hn:l.most=some n)(hdf:d.params.defaults=[])(call:∀(w:World) (s₀ s₁:Shared) (mg mb:Str->Option Value) (fa:Addr) (o:Obj) (pm cd doc:Value) (a:Addr) (vs:List Value) (ns:List Int),
   Ground q loose [] XP w s₀ mg mb s₁.heap->YP w s₁.heap->
   s₁.heap.get? fa=some o->o.data=.func (docDef d.name d.params d.body d.scope pm cd doc)->s₁.heap.CodeRec cd d.name->mg d.name=some (.ref fa)->
   s₁.heap.get? a=some { cls:=.type "list",data:=.seq vs.toArray }->IntsAre vs ns->ns.length<=n->s₁.gens = #[]->
   codeAny (model l.prog w) callerA (.call (.ref fa) ⟨[.ref a],[]⟩) (λr s'=>r=.ok (.ret (.bool true))/\OldK s₁.heap s'.heap/\s'.os=s₁.os/\AllBare s'.gens) s₁) :
  WalkO q loose XP YP l.row.toRowW d [] (λf vs=>PySem.call f vs):=by
 intro w s₀ s₁ mg mb G Y fa o pm cd doc dV kV ho hd hcd hD hmg hg args vals as hpre hlay hrd hwl hlo
 obtain rfl:dV=.none:=Dflts.none hD hdf
 obtain rfl:kV=.none:=Dflts.noKw hD
 obtain⟨a,vs,ns,rfl,rfl,hobj,hints,hlen⟩:=aIX hn hpre hwl
 refine enter_call (codeAny_mono (call w s₀ s₁ mg mb fa o pm cd doc a vs ns G Y ho (fd_plain hd) hcd hmg hobj hints hlen hg) λr s' hq=>?_)
 obtain⟨rfl,h2,h3,h4⟩:=hq
 exact⟨.inl ⟨.bool true,.bool true,[],rfl,λ_=>rfl,.bool true,aIY l _,λ_=>⟨List.Pairwise.nil,λ_ hm=>(nomatch hm)⟩⟩,h2,h3,h4⟩
section
variable{prog:Program}{w:World}{A:Around}{E:Value->Shared->Prop}{s:Shared}{K:Frag}
end
end Att
namespace L2
open PySem PySem.Spec PyProof.Rows
theorem aAS:∀{vs:List Value}{ns:List Int},IntsAre vs ns->Vals (ns.map V.int) vs
 |_,_,.nil=>.nil
 |_,_,.cons n t h=>.cons ⟨t,rfl⟩ (aAS h)
def aPo(H:Hp):Prop:=∀b,H b=none\/∃o xs,H b=some (.frz o (.lst xs))
theorem aPp{K:PySem.W.Frag}{mg mb:Str->Option Value}{CX:CXT}{k:Nat}{sp:Sp}{s₁:Shared}{vs:List Value}{ns:List Int}(KX:K.In s₁.heap)(hns:s₁.heap.Ns mainGlobals mg)(hb:s₁.heap.Ns builtinsNs mb)(hbb:∀x:Str,x≠"__name__"->mb x=bootBuiltins x)(hlim:s₁.heap.NoLimit)(hbm:∃bm o,mg "__builtins__" = some (.ref bm)/\bm≠builtinsNs/\s₁.heap.get? bm=some o/\o.cls=.type "module"/\o.dict=some builtinsNs/\o.data=.plain)(hg:s₁.gens = #[])(ha:s₁.heap.get? a=some { cls:=.type "list",data:=.seq vs.toArray })(hi:IntsAre vs ns)(hl:ns.length<=sizeLine)(hr:eO k callerA)(F:∀base:Heap,K.In base->base.Ns mainGlobals mg->bP P w K mg base CX k fa fd [x] sp)(hbind:∀(s:Shared) (u:Value),BindsTo s fd ⟨[u],[]⟩ [(x,u)])(hsp:∀H:Hp,aPo H->bS K H a (ns.map V.int)->sp [.ref a] H (λv _=>v=.bl true) λ_ _ _=>False)(hCX:∀H e s',CX [] H s₁ (λ_ _ _=>False) e s'->False) :
  codeAny (model P w) callerA (.call (.ref fa) ⟨[.ref a],[]⟩) (λr s'=>r=.ok (.ret (.bool true))/\OldK s₁.heap s'.heap/\s'.os=s₁.os/\AllBare s'.gens) s₁:=by
 have rv:=aAS hi
 have lenV:=hi.length
 have core:∀H:Hp,aPo H->bS K H a (ns.map V.int)->vB P w H s₁.heap->(∀b,H b≠none->b=a)->(H a≠none->K.lookup a=none)->
   codeAny (model P w) callerA (.call (.ref fa) ⟨[.ref a],[]⟩) (λr s'=>r=.ok (.ret (.bool true))/\OldK s₁.heap s'.heap/\s'.os=s₁.os/\AllBare s'.gens) s₁:=by
  intro H hO hS hok hA hK
  have base_of:∀{b:Addr} {o:Obj},s₁.heap.get? b=some o->H b=none->(xZ s₁.heap H).get? b=some o:=λe n=>aFG e n
  have noA:∀{b:Addr} {o:Obj} {es:Array DictEntry} {ep:Nat},s₁.heap.get? b=some o->o.data=.dict es ep->H b=none:=λ{b o es ep} e d=>by
   cases q:H b with
   |none=>rfl
   |some u=>
    have e':b=a:=hA b (by rw[q];simp)
    subst e'
    rw[ha] at e;cases e
    have d':Data.seq vs.toArray _=Data.dict es ep:=d
    cases d'
  have nsK:∀{b:Addr} {m:Str->Option Value},s₁.heap.Ns b m->(xZ s₁.heap H).Ns b m:=λ{b m} ⟨o,es,ep,e,d,r⟩=>⟨o,es,ep,base_of e (noA e d),d,r⟩
  have hKb:K.In (xZ s₁.heap H):=λb o e=>base_of (KX b o e) (by
   cases q:H b with
   |none=>rfl
   |some u=>
    have e':b=a:=hA b (by rw[q];simp)
    subst e'
    rw[hK (by rw[q];simp)] at e;cases e)
  have hbm':∃bm o,mg "__builtins__" = some (.ref bm)/\bm≠builtinsNs/\(xZ s₁.heap H).get? bm=some o/\o.cls=.type "module"/\o.dict=some builtinsNs/\o.data=.plain:=by
   obtain⟨bm,ob,b1,b2,b3,b4,b5,b6⟩:=hbm
   refine⟨bm,ob,b1,b2,base_of b3 ?_,b4,b5,b6⟩
   cases q:H bm with
   |none=>rfl
   |some u=>
    have e':bm=a:=hA bm (by rw[q];simp)
    rw[e',ha] at b3
    cases b3
    exact absurd (show Value.type "list" = Value.type "module" from b4) (by decide)
  have hM:Mod K mg (xZ s₁.heap H):=⟨hKb,nsK hns,⟨mb,nsK hb,hbb⟩,(let ⟨mc,h1,h2⟩:=hlim;⟨mc,nsK h1,h2⟩),hbm'⟩
  have e0:aDq P w K mg (xZ s₁.heap H) callerA [] s₁ H:=⟨rfl,hM,λb o e=>aHW e,Tx9 (aD3 _ _),trivial,λb hb=>absurd (show b∈([]:List Addr) from hb) (by simp),hok,.of_eq hg⟩
  refine codeAny_mono ((F _ hKb (nsK hns)).run callerA [] s₁ H ⟨[.ref a],[]⟩ [.ref a] [.ref a] _ _ hr e0 (hbind s₁ (.ref a)) (.cons rfl .nil) (hsp H hO hS)) λr s' h=>?_
  cases r with
  |error e=>exact(hCX H e s' h).elim
  |ok fl=>
   cases fl with
   |next=>exact False.elim h
   |brk=>exact False.elim h
   |cont=>exact False.elim h
   |ret u=>
    obtain⟨v,H',os,bare,un,hok',r',q⟩:=h
    have q':v=.bl true:=q
    subst q'
    obtain rfl:u=Value.bool true:=r'
    refine⟨rfl,OldK.of_keep λb o e=>?_,os,bare⟩
    cases q:H b with
    |none=>exact un.keep b o e q (by intro z;exact absurd (show b∈([]:List Addr) from z) (by simp)) (by simp)
    |some u=>
     rcases hO b with z|⟨ob,xs,z⟩
     ·rw[q] at z;cases z
     ·have z2:=un.frzs b ob _ z
      obtain⟨e1,_⟩:=hok b _ z
      obtain⟨e2,_⟩:=hok' b _ z2
      rw[e] at e1;cases e1
      exact e2
 cases hk:K.lookup a with
 |some o=>
  have e:=KX a o hk
  rw[ha] at e
  cases e
  refine core (λ_=>none) (λ_=>.inl rfl) (.inr ⟨_,vs.toArray,_,hk,rfl,rfl,rfl,by rw[kU,lenV];exact hl,by simpa using rv⟩) (λb u z=>by have z':(none:Option HO)=some u:=z;cases z') (λb z=>absurd rfl z) λz=>absurd rfl z
 |none=>
  refine core (λb=>if b=a then some (.frz { cls:=.type "list",data:=.seq vs.toArray } (.lst (ns.map V.int))) else none) (λb=>?_) (.inl (.inr ⟨{ cls:=.type "list",data:=.seq vs.toArray },if_pos rfl⟩)) (λb u z=>?_) (λb z=>?_) λ_=>hk
  ·by_cases hb:b=a
   ·exact .inr ⟨_,_,if_pos hb⟩
   ·exact .inl (if_neg hb)
  ·by_cases hb:b=a
   ·have z':=(if_pos hb).symm.trans z
    cases z'
    subst hb
    exact⟨ha,by rw[bZ];exact hl,vs,_,rv,ha⟩
   ·have z':=(if_neg hb).symm.trans z
    cases z'
  ·by_cases hb:b=a
   ·exact hb
   ·exact absurd (if_neg hb) z
end L2
namespace L2
open PySem PySem.Spec PyProof.Rows
end L2
namespace L2
open PySem PySem.Spec PyProof.Rows
def inClass(s:Stmt)(j:Nat):Stmt:=match s with
 |.ClassDef _ _ _ body _ _ _ _ _ _ _=>body.getD j (.Pass ⟨0,0,0,0⟩)
 |_=>.Pass ⟨0,0,0,0⟩
def aZ(s:Stmt):Arguments:=match s with
 |.FunctionDef _ a _ _ _ _ _ _ _ _=>a
 |_=>{ posonlyargs:=[],args:=[],vararg:=none,kwonlyargs:=[],kw_defaults:=[],kwarg:=none,defaults:=[] }
def aX(s:Stmt):List Stmt:=match s with
 |.FunctionDef _ _ b _ _ _ _ _ _ _=>b
 |_=>[]
def aF(s:Stmt):Scope:=match s with
 |.FunctionDef _ _ _ _ _ _ sc _ _ _=>sc
 |_=>{ kind:=.function,names:=[],isGenerator:=false,isCoroutine:=false }
abbrev hU:CXT:=λ_ _ _ _ _ _=>False
abbrev E0:XK:=λ_ _ _=>False
theorem aT:Passes hU X E0:=λ_ _ _ _ _ _ _ h=>h.elim
structure jC(K:W.Frag)(x qual:Str)(st:Stmt)(f:Addr)(fd:FuncData):Prop where
 ex:∃(oc:Value) (od:Option Addr) (kV doc pm:Value) (an:Option Addr) (cdv ct:Value) (osl:Array (Option Value)),
  fd=W.fnOf x qual (aZ st) (aX st) (aF st) .none kV doc pm an cdv ct/\K.lookup f=some ⟨oc,od,.func fd,osl⟩/\W.codeIn K cdv qual=true
 kp:W.keepIn K (.ref f)=true
section
variable{P:Program}{w:World}{K:W.Frag}{mg:Str->Option Value}{base:Heap}
theorem jC.ok{x qual:Str}{st:Stmt}{f:Addr}{fd:FuncData}{N ps:List Str}{k:Nat}{sp:Sp}(F:jC K x qual st f fd)(S:aY N ps (aF st))(len:∀vs H Q E,sp vs H Q E->vs.length=ps.length)
  (hbody:∀(cdv:Value) (A:Around) (outer:List Env) (s:Shared) (H:Hp) (vs:List V) (Q:VK) (E:XK),eO k (A.deeper (envOfC qual (aF st) s.heap.objs.size f cdv))->sp vs H Q E->
   ∃t,PSs (aG3 hU P w K mg base N qual (aF st) f cdv A outer s H E).nox (aX st) t/\t { nx:=λ_ H'=>Q .non H',rt:=Q } (start N vs) H):bP P w K mg base hU (k+1) f fd ps sp:=by
 obtain⟨oc,od,kV,doc,pm,an,cdv,ct,osl,rfl,lk,hcd⟩:=F.ex
 refine aM8 lk hcd S len λA outer s H vs Q E hr hsp=>?_
 obtain⟨t,h,q⟩:=hbody cdv A outer s H vs Q E hr hsp
 exact⟨t,h.nox,q⟩
theorem jC.binds{x qual:Str}{st:Stmt}{f:Addr}{fd:FuncData}{ps:List Str}(F:jC K x qual st f fd)
  (h:∀(kV doc pm:Value) (an:Option Addr) (cdv ct:Value) (us:List Value),us.length=ps.length->bindArgs (W.fnOf x qual (aZ st) (aX st) (aF st) .none kV doc pm an cdv ct) ⟨us,[]⟩=pure (ps.zip us)):Binds K fd ps []:=by
 obtain⟨oc,od,kV,doc,pm,an,cdv,ct,osl,rfl,lk,hcd⟩:=F.ex
 exact .all (h kV doc pm an cdv ct)
theorem bF{x qual:Str}{st:Stmt}{f:Addr}{oc:Value}{od an:Option Addr}{osl:Array (Option Value)}{kV doc pm cdv ct:Value}(l:K.lookup f=some ⟨oc,od,.func (W.fnOf x qual (aZ st) (aX st) (aF st) .none kV doc pm an cdv ct),osl⟩)
  (c:W.codeIn K cdv qual=true) (k:W.keepIn K (.ref f)=true):jC K x qual st f (W.fnOf x qual (aZ st) (aX st) (aF st) .none kV doc pm an cdv ct):=⟨⟨oc,od,kV,doc,pm,an,cdv,ct,osl,rfl,l,c⟩,k⟩
end
section
variable{X:Cx}
end
theorem aOg{A B:Prop}(h:B):if false=true then A else B:=by
 rw[if_neg Qp9]
 exact h
theorem aOh{A B:Prop}(h:A):if true=true then A else B:=by
 rw[if_pos rfl]
 exact h
def aQ(H H':Hp):Prop:=∀b o,H b=some o->H' b=some o
theorem aQ.refl(H:Hp):aQ H H:=λ_ _ h=>h
theorem aQ.trans(a:aQ H H1)(b:aQ H1 H2):aQ H H2:=λc o h=>b c o (a c o h)
theorem aQ.free(e:aQ H H')(h:H' l=Option.none):H l=Option.none:=by
 cases q:H l with
 |none=>rfl
 |some o=>
  rw[e l o q] at h
  cases h
theorem aQ.seq{K:W.Frag}{H H':Hp}{a:Addr}{xs:List V}(e:aQ H H')(h:bS K H a xs):bS K H' a xs:=by
 rcases h with (h|⟨o,h⟩)|h
 ·exact .inl (.inl (e _ _ h))
 ·exact .inl (.inr ⟨o,e _ _ h⟩)
 ·exact .inr h
section
variable{κ:Type}[DecidableEq κ]
end
end L2
namespace L2
open PySem PySem.Spec PyProof.Rows
section
variable{prog:Program}{w:World}{A:Around}{R:Result->Shared->Prop}{s:Shared}
theorem aFW(I:Nat->Shared->Prop)(turn:∀n s,I n s->wpAny (model prog w) A (pyNext it) (λr s₁=>match r with
   |none=>R (.ok .next) s₁
   |some v=>wpAny (model prog w) A (letOwnedTupleGo target it v) (λ_ s₁'=>wpAny (model prog w) A (assign target env v) (λ_ s₂=>
     wpAny (model prog w) A (forIn ifs true λc r=>if r=true then do let ok <-isTrue c env (eval c env);pure (ForInStep.yield ok) else pure (ForInStep.yield r)) (λok s₃=>
      if ok=true then wpAny (model prog w) A (eval elt env) (λx s₄=>
       wpAny (model prog w) A (call (.builtin "list.append") [acc,x]) (λ_ s₅=>∃m,m < n/\I m s₅) (notedBy (model prog w) A env λe s'=>R (.error e) s') s₄) (notedBy (model prog w) A env λe s'=>R (.error e) s') s₃
      else ∃m,m < n/\I m s₃) (notedBy (model prog w) A env λe s'=>R (.error e) s') s₂) (notedBy (model prog w) A env λe s'=>R (.error e) s') s₁') (notedBy (model prog w) A env λe s'=>R (.error e) s') s₁)
   (notedBy (model prog w) A env λe s'=>R (.error e) s') s) (n:Nat) (h:I n s) :
  codeAny (model prog w) A (.compLoop (.ListComp elt [⟨target,iter,ifs,0⟩] scope pos) 0 it acc env) R s:=by
 refine codeAny_loop rfl I (λn s hI=>?_) n h
 show wpAny _ A ((compTurn (.ListComp elt [⟨target,iter,ifs,0⟩] scope pos) 0 it acc env).onRaise (λx=>do noteFrame x env;theTreesLotGoes x)) _ _ s
 refine wpAny_noted ?_
 rw[compTurn_list]
 refine wpAny_bind (wpAny_standAt (wpAny_bind (wpAny_mono (turn n s hI) (λr s₁ h₁=>?_) λ_ _ h'=>h')))
 cases r with
 |none=>exact wpAny_pure h₁
 |some v=>
  refine wpAny_bind (wpAny_mono h₁ (λ_ s₁' h₁'=>?_) λ_ _ h'=>h')
  refine wpAny_bind (wpAny_mono h₁' (λ_ s₂ h₂=>wpAny_bind (wpAny_mono h₂ (λok s₃ h₃=>?_) λ_ _ h'=>h')) λ_ _ h'=>h')
  cases ok with
  |false=>exact wpAny_pure ⟨rfl,h₃⟩
  |true=>
   exact wpAny_bind (wpAny_bind (wpAny_mono h₃ (λx s₄ h₄=>wpAny_bind (wpAny_mono h₄ (λ_ s₅ h₅=>wpAny_pure (wpAny_pure ⟨rfl,h₅⟩)) λ_ _ h'=>h')) λ_ _ h'=>h'))
end
def nL(env:Env):List (Str×NameKind)->List (Str×Addr)->List (Str×Addr)
 |[],cs=>cs
 |(n,k)::r,cs=>nL env r (if (k == NameKind.free)=true then (n,(env.cells.lookup n).getD 0)::cs else cs)
theorem y3{scope:Scope}{env:Env}(h:∀x∈scope.names,x.2=.free->∃c,env.cells.lookup x.1=some c):closureFor scope env=pure (nL env scope.names []):=by
 simp only[closureFor]
 generalize ([]:List (Str×Addr))=cs
 revert h cs
 generalize scope.names=names
 intro h
 induction names with
 |nil=>intro cs;rfl
 |cons x r ih=>
  intro cs
  obtain⟨n,k⟩:=x
  have ih:=ih λy hy=>h y (Qn9 _ hy)
  rw[List.forIn_cons]
  by_cases hk:k=.free
  ·subst hk
   obtain⟨c,hc⟩:=h (n,.free) Qz9 rfl
   have hc':env.cells.lookup n=some c:=hc
   have e:nL env ((n,NameKind.free)::r) cs=nL env r ((n,c)::cs):=by
    show nL env r (if (NameKind.free == NameKind.free)=true then (n,(env.cells.lookup n).getD 0)::cs else cs)=_
    rw[hc']
    rfl
   rw[e,<-ih]
   simp only[cellOf,hc',beq_self_eq_true,if_true]
   rfl
  ·have hb:(k == NameKind.free)=false:=by simpa using hk
   have e:nL env ((n,k)::r) cs=nL env r cs:=by
    show nL env r (if (k == NameKind.free)=true then (n,(env.cells.lookup n).getD 0)::cs else cs)=_
    rw[hb]
    rfl
   rw[e,<-ih]
   simp only[hb,Se9,if_false]
   rfl
theorem zT{env:Env}:∀(names:List (Str×NameKind)) (cs:List (Str×Addr)),(∀y∈names,y.2=.free->∃c,env.cells.lookup y.1=some c)->(x,c)∈nL env names cs->(x,c)∈cs\/env.cells.lookup x=some c
 |[],cs,_,h=>.inl h
 |(n,k)::r,cs,hf,h=>by
  have h':(x,c)∈nL env r (if (k == NameKind.free)=true then (n,(env.cells.lookup n).getD 0)::cs else cs):=h
  rcases zT r _ (λy hy=>hf y (Qn9 _ hy)) h' with q|q
  ·by_cases hk:(k == NameKind.free)=true
   ·rw[if_pos hk] at q
    rcases xJ.mp q with e|q
    ·cases e
     obtain⟨c,hc⟩:=hf (x,k) Qz9 (by simpa using hk)
     have hc':env.cells.lookup x=some c:=hc
     rw[hc']
     exact .inr rfl
    ·exact .inl q
   ·rw[if_neg hk] at q
    exact .inl q
  ·exact .inr q
theorem aFX:∀(names:List (Str×NameKind)) (cs:List (Str×Addr)),p∈cs->p∈nL env names cs
 |[],_,h=>h
 |(n,k)::r,cs,h=>by
  show p∈nL env r (if (k == NameKind.free)=true then (n,(env.cells.lookup n).getD 0)::cs else cs)
  refine aFX r _ ?_
  split
  ·exact Qn9 _ h
  ·exact h
theorem aFY{env:Env}:∀(names:List (Str×NameKind)) (cs:List (Str×Addr)),(x,NameKind.free)∈names->env.cells.lookup x=some c->(x,c)∈nL env names cs
 |[],_,h,_=>by cases h
 |(n,k)::r,cs,h,hc=>by
  show(x,c)∈nL env r (if (k == NameKind.free)=true then (n,(env.cells.lookup n).getD 0)::cs else cs)
  rcases xJ.mp h with e|h
  ·cases e
   refine aFX r _ ?_
   rw[if_pos (by simp),hc]
   exact Qz9
  ·exact aFY r _ h hc
theorem yI:∀{l:List (Str×Addr)},(x,c)∈l->(∀d,(x,d)∈l->d=c)->l.lookup x=some c
 |[],h,_=>by cases h
 |(n,d)::r,h,u=>by
  rw[Rf9]
  by_cases e:x=n
  ·subst e
   rw[beq_self_eq_true]
   rw[u d Qz9]
  ·rw[show(x == n)=false by simpa using e]
   rcases xJ.mp h with q|q
   ·cases q
    exact absurd rfl e
   ·exact yI q λd hd=>u d (Qn9 _ hd)
theorem vN{env:Env}(hf:∀y∈names,y.2=.free->∃c,env.cells.lookup y.1=some c)(hx:(x,NameKind.free)∈names)(hc:env.cells.lookup x=some c):(nL env names []).lookup x=some c:=
 yI (aFY names [] hx hc) λd hd=>by
  rcases zT names [] hf hd with q|q
  ·cases q
  ·rw[hc] at q
   exact(Option.some.inj q).symm
theorem pW{env:Env}(hf:∀y∈names,y.2=.free->∃c,env.cells.lookup y.1=some c)(h:(nL env names []).lookup x=some c):env.cells.lookup x=some c:=by
 rcases zT names [] hf (PySem.mem_of_lookup h) with q|q
 ·cases q
 ·exact q
end L2
namespace L2
open PySem PySem.Spec PyProof.Rows
def cxC(X:Cx)(scope:Scope)(N:List Str)(fp:List Addr)(C:Addr)(s:Shared)(H:Hp):Cx where
 prog:=X.prog
 w:=X.w
 K:=X.K
 mg:=X.mg
 base:=X.base
 A:=X.A
 N:=N
 s₀:=s
 H₀:=H
 env:=compEnvC scope (nL X.env scope.names []) C X.env
 outer:=X.stack
 stack:=X.stack
 ex:=fp
 fn:=λ_=>false
 calm:=X.calm
 pn:=[]
 xe:=λ_ _=>False
theorem vB.aJ9{P:Program}{w:World}{H:Hp}{h:Heap}{a:Addr}{o:HO}(x:vB P w H h)(hn:H a=none)(new:bW P w (upd H a o) h a o):vB P w (upd H a o) h:=λb u e=>by
 by_cases hb:b=a
 ·subst hb;rw[aL] at e;cases e;exact new
 ·rw[aU hb] at e
  exact(x b u e).aCd (λc v _ q=>q) (λc q=>by rw[aU (bI q hn)];exact q) λc xs _ q=>by rw[aU (bI q hn)];exact q
theorem Un.aJ9{fs ex:List Addr}{H H1:Hp}{h h1:Heap}{a:Addr}{o:HO}(u:Un fs ex H H1 h h1)(hs:h.objs.size<=a)(hn:H1 a=none):Un fs ex H (upd H1 a o) h h1 where
 keep:=u.keep
 slot:=u.slot
 free:=λb ob q n hx=>by rw[aU (vE (yV (jU q) hs))];exact u.free b ob q n hx
 there:=u.there
 vF:=λb xs q=>by rw[aU (bI (u.vF b xs q) hn)];exact u.vF b xs q
 frzs:=λb ob xs q=>by rw[aU (bI (u.frzs b ob xs q) hn)];exact u.frzs b ob xs q
 tbls:=λb ps q=>by
  obtain⟨m,e⟩:=u.tbls b ps q
  exact⟨m,by rw[aU (bI e hn)];exact e⟩
theorem nF{env:Env}:∀{names:List (Str×NameKind)}{x:Str},names.lookup x=some .free->
  (names.map λ(n,k)=>if (k == NameKind.free && env.scope.kind == .function && env.kindOf n == some .cell) then (n,NameKind.cell) else (n,k)).lookup x=some .cell\/
  (names.map λ(n,k)=>if (k == NameKind.free && env.scope.kind == .function && env.kindOf n == some .cell) then (n,NameKind.cell) else (n,k)).lookup x=some .free
 |[],_,h=>by simp at h
 |(n,k)::r,x,h=>by
  have ih:=@nF env r x
  show List.lookup x ((if (k == NameKind.free && env.scope.kind == .function && env.kindOf n == some .cell)=true then (n,NameKind.cell) else (n,k))::_)=_\/List.lookup x ((if (k == NameKind.free && env.scope.kind == .function && env.kindOf n == some .cell)=true then (n,NameKind.cell) else (n,k))::_)=_
  cases hx:x == n with
  |true=>
   simp only[Rf9,hx] at h
   cases h
   by_cases hc:(NameKind.free == NameKind.free && env.scope.kind == .function && env.kindOf n == some .cell)=true
   ·rw[if_pos hc];simp only[Rf9,hx];exact .inl trivial
   ·rw[if_neg hc];simp only[Rf9,hx];exact .inr trivial
  |false=>
   simp only[Rf9,hx] at h
   by_cases hc:(k == NameKind.free && env.scope.kind == .function && env.kindOf n == some .cell)=true
   ·rw[if_pos hc];simp only[Rf9,hx];exact ih h
   ·rw[if_neg hc];simp only[Rf9,hx];exact ih h
theorem vO{env:Env}:∀{names:List (Str×NameKind)}{x:Str},(∀y∈names,y.2≠.cell)->
  ((names.map λ(n,k)=>if (k == NameKind.free && env.scope.kind == .function && env.kindOf n == some .cell) then (n,NameKind.cell) else (n,k)).lookup x=some .cell\/
  (names.map λ(n,k)=>if (k == NameKind.free && env.scope.kind == .function && env.kindOf n == some .cell) then (n,NameKind.cell) else (n,k)).lookup x=some .free)->(x,NameKind.free)∈names
 |[],_,_,h=>by simp at h
 |(n,k)::r,x,hc,h=>by
  have ih:=@vO env r x λy hy=>hc y (Qn9 _ hy)
  have h':List.lookup x ((if (k == NameKind.free && env.scope.kind == .function && env.kindOf n == some .cell)=true then (n,NameKind.cell) else (n,k))::_)=_\/List.lookup x ((if (k == NameKind.free && env.scope.kind == .function && env.kindOf n == some .cell)=true then (n,NameKind.cell) else (n,k))::_)=_:=h
  cases hx:x == n with
  |true=>
   have e:x=n:=by simpa using hx
   subst e
   by_cases hq:(k == NameKind.free && env.scope.kind == .function && env.kindOf x == some .cell)=true
   ·have hk:(k == NameKind.free)=true:=by
     rw[Bool.and_assoc] at hq
     exact(Rl9 _ _▸hq).1
    rw[show k=NameKind.free by simpa using hk]
    exact Qz9
   ·rw[if_neg hq] at h'
    simp only[Rf9,hx] at h'
    rcases h' with z|z
    ·cases z
     exact absurd rfl (hc _ Qz9)
    ·cases z
     exact Qz9
  |false=>
   by_cases hq:(k == NameKind.free && env.scope.kind == .function && env.kindOf n == some .cell)=true
   ·rw[if_pos hq] at h';simp only[Rf9,hx] at h';exact Qn9 _ (ih h')
   ·rw[if_neg hq] at h';simp only[Rf9,hx] at h';exact Qn9 _ (ih h')
structure eU(X:Cx)(scope:Scope)(N:List Str)(k:Nat)(idx:List Nat):Prop where
 kind:scope.kind=.function
 nocell:∀y∈scope.names,y.2≠.cell
 names:∀y∈scope.names,y.2=.local->scope.names.lookup y.1=some .local
 free:∀y∈scope.names,y.2=.free->X.env.kindOf y.1=some .cell\/X.env.kindOf y.1=some .free
 nd:N.Nodup
 len:N.length=k+idx.length
 cap:∀(i:Nat) (x:Str),(N.drop k)[i]?=some x->∃j:Nat,idx[i]?=some j/\X.N[j]?=some x/\scope.names.lookup x=some .free
def cσ(k:Nat)(idx:List Nat)(σ:St):St:=List.replicate k none++idx.map λj=>(σ[j]?).join
section
variable{X:Cx}{pins:List (Addr×Obj)}{σ:St}{H:Hp}{s:Shared}{scope:Scope}{N:List Str}{k:Nat}{idx:List Nat}{fp:List Addr}
theorem eU.cells(S:eU X scope N k idx)(I:Inv X pins σ H s):∀y∈scope.names,y.2=.free->∃c,X.env.cells.lookup y.1=some c:=λy hy h=>I.ok.has y.1 (S.free y hy h)
theorem aIZ{h₁:Heap}{tk:Nat}{oD:Obj}{m:Str->Option Value}(S:eU X scope N k idx)(I:Inv X pins σ H s)(hf:∀b∈fp,zO X pins H b)(ho:∀b∈fp,∃o,s.heap.get? b=some o)(hC:s.heap.objs.size<=C)(hD:s.heap.objs.size<=D)(hDC:D≠C)(hn:h₁.Ns C m)(old:∀b o,s.heap.get? b=some o->h₁.get? b=some o)(eD:h₁.get? D=some oD)(dD:∀v,oD.data≠.cell v) :
  Inv (cxC X scope N fp C s H) [(D,oD)] (cσ k idx σ) H { s with heap:=h₁,toks:=tk }:=by
 have hcl:=S.cells I
 have nst:∀b,s.heap.objs.size<=b->b∉frs X.stack:=λb hb z=>by
  obtain⟨_,o,e,_⟩:=I.stack.mem z
  exact absurd (yV (jU e) hb) (Rw9 _)
 refine⟨⟨I.ok.mod,S.kind,I.ok.glob,I.ok.blt,hC,λx y c h1 h2=>I.ok.inj x y c (pW hcl h1) (pW hcl h2),λx hx=>?_,λx c z _=>(by cases z),I.ok.hd,I.ok.frames,.inl rfl,λb hb=>⟨?_,λx c e=>(hf b hb).2.2.2.2.1 x c (pW hcl e)⟩,I.bs,
  Rn9 I.ok.bsz I.sz,λb o e hb=>?_,λb hb z=>?_,I.stack,I.aEy⟩,rfl,I.bare,Un.kept old,⟨m,hn,λi x v h1 h2 h3=>?_⟩,λx c e=>?_,I.hok.fresh hC,λx c e=>I.freeC x c (pW hcl e),λp hp=>?_,I.hok.kept old,?_⟩
 ·obtain⟨c,e⟩:=hcl _ (vO S.nocell hx) rfl
  exact⟨c,vN hcl (vO S.nocell hx) e⟩
 ·obtain⟨o,e⟩:=ho b hb
  exact vE (yV (jU e) hC)
 ·rcases(hf b hb).2.2.2.1 with z|z
  ·exact I.ok.noex b o e z
  ·exact absurd (yV (jU (I.ok.bs b o e).1) z) (Rw9 _)
 ·rcases xJ.mp (I.aCe b z) with q|q
  ·exact(hf b hb).2.1 q
  ·exact(hf b hb).2.2.1 q
 ·have hi:k<=i:=by
   by_cases hi:i < k
   ·unfold cσ at h2
    rw[Qx9 (by simpa using hi),Tf9,if_pos hi] at h2
    cases h2
   ·omega
  obtain⟨j,rfl⟩ : ∃j,i=k+j:=⟨i - k,by omega⟩
  have h1':N[k+j]?=some x:=h1
  obtain⟨l,e1,e2,e3⟩:=S.cap j x (by rw[List.getElem?_drop];exact h1')
  have h2':σ[l]?=some (some v):=by
   unfold cσ at h2
   rw[Qy9 (by simp),nK] at h2
   simp only[List.length_replicate,Nat.add_sub_cancel_left,e1,Option.map_some,Option.some.injEq] at h2
   cases q:σ[l]? with
   |none=>rw[q] at h2;cases h2
   |some z=>rw[q] at h2;exact congrArg some h2
  obtain⟨m0,hn0,hl⟩:=I.loc
  have hfree:(x,NameKind.free)∈scope.names:=PySem.mem_of_lookup e3
  have hk:=S.free _ hfree rfl
  obtain⟨u,r,l⟩:=hl l x v e2 h2' (by rcases hk with z|z;exact .inr (.inl z);exact .inr (.inr z))
  refine⟨u,r,.inr ⟨nF e3,?_⟩⟩
  rcases l with ⟨z,_⟩|⟨_,c,e,o,q,d⟩
  ·rcases hk with y|y
   ·rw[y] at z;cases z
   ·rw[y] at z;cases z
  ·exact⟨c,vN hcl hfree e,o,old c o q,d⟩
 ·obtain⟨v,o,q,d⟩:=I.cell x c (pW hcl e)
  exact⟨v,o,old c o q,d⟩
 ·have hp':p∈([]:List (Addr×Obj)) ++ [(D,oD)]:=hp
  have e:p=(D,oD):=by simpa using hp'
  subst e
  exact⟨eD,I.hok.fresh hD,hDC,nst D hD,dD⟩
 ·unfold cσ
  show _=N.length
  rw[S.len]
  simp
theorem aL2{s':Shared}{ys:List V}{its:List Value}{n:Nat}(I:Inv X pins σ H s)(hf:∀b∈fp,zO X pins H b)(J:Inv (cxC X scope N fp C s H) pins' σ' H' s')(hC:s.heap.objs.size<=C)(hD:s.heap.objs.size<=D)(hDC:D≠C)(hDn:H' D=none)(eD:s'.heap.get? D=some { cls:=.type "list",data:=.seq its.toArray n })(r:Vals ys its)(hz:ys.length<=sizeLine) :
  Inv X pins σ (upd H' D (.lst ys)) s'/\zO X pins (upd H' D (.lst ys)) C:=by
 have hk:vB X.prog X.w (upd H' D (.lst ys)) s'.heap:=vB.aJ9 J.hok hDn ⟨hz,its,n,r,eD⟩
 have u:Un (frs X.stack) fp H (upd H' D (.lst ys)) s.heap s'.heap:=Un.aJ9 J.base hD hDn
 refine⟨I.aO4 J.os u hk J.bare λb hb=>⟨(hf b hb).2.2.2.1,(hf b hb).2.1,(hf b hb).2.2.2.2.1,(hf b hb).2.2.2.2.2⟩,I.aFJ hC ?_⟩
 rw[aU hDC.symm]
 exact J.free
end
def rO(J:It)(σ₀:St)(g:TG)(tt:TT)(te:TE)(R:List V->Hp->Prop)(H1:Hp):Prop:=
 ∃W:Nat->Nat->List V->Hp->Prop,(∃m,W 0 m [] H1)/\∀i m ys H,W i m ys H->ys.length<=sizeLine/\
  ((J.stop i H/\R ys H)\/(J.go i H/\∃N:List V->Hp->Prop,(∀ys' H',N ys' H'->∃m',m' < m/\W (i+1) m' ys' H')/\
   ∀x H',J.yld i H x H'->g x σ₀ H' λσ2 H2=>tt σ2 H2 λb H3=>if b=true then te σ2 H3 λy H4=>N (ys ++ [y]) H4 else N ys H3))
def aFZ(wi:TI)(k:Nat)(idx:List Nat)(g:TG)(tt:TT)(te:TE):TE:=λσ H Q=>wi σ H λJ H1=>rO J (cσ k idx σ) g tt te (λys H'=>∀p,H' p=none->Q (.ref p) (upd H' p (.lst ys))) H1
def PTs(X:Cx)(ifs:List Expr)(t:TT):Prop:=
 ∀(pins:List (Addr×Obj)) (s:Shared) (σ:St) (H:Hp) (Q:Bool->Hp->Prop),Inv X pins σ H s->t σ H Q->
  wpAny (model X.prog X.w) X.A (forIn ifs true λc r=>if r=true then do let ok <-isTrue c X.env (eval c X.env);pure (ForInStep.yield ok) else pure (ForInStep.yield r)) (TP X pins σ Q) X.xe s
def aOi:TT:=λ_ H Q=>Q true H
theorem aL3:PTs X [] aOi:=λ_ _ _ H _ I h=>wpAny_tests_nil ⟨H,I,h⟩
theorem aL4(h:PT X c t):PTs X [c] t:=λpins s σ H Q I q=>wpAny_tests_one (h pins s σ H Q I q)
def Agr(k:Nat)(σ' σ:St):Prop:=σ'.length=σ.length/\∀i,k<=i->σ'[i]?=σ[i]?
theorem Agr.set{k i:Nat}{σ:St}(h:Agr k σ σb)(hi:i < k):Agr k (σ.set i v) σb:=⟨by rw[Rz9];exact h.1,λj hj=>by rw[Rp9 (by omega)];exact h.2 j hj⟩
def Own(k:Nat)(g:TG):Prop:=∀x σ H (Q:St->Hp->Prop) (σb:St),Agr k σ σb->g x σ H Q->g x σ H λσ' H'=>Agr k σ' σb/\Q σ' H'
def aL5(k:Nat)(g:TGs):Prop:=∀xs σ H (Q:St->Hp->Prop) (σb:St),Agr k σ σb->g xs σ H Q->g xs σ H λσ' H'=>Agr k σ' σb/\Q σ' H'
theorem eV{k i:Nat}(h:i < k):Own k (vI i):=λ_ _ _ _ _ a q=>⟨a.set h,q⟩
theorem vP{k:Nat}:aL5 k aLE:=λ_ _ _ _ _ a ⟨e,q⟩=>⟨e,a,q⟩
theorem d8{k i:Nat}(h:i < k)(hu:aL5 k u):aL5 k (aHY (vI i) u):=λ_ _ _ Q σb a ⟨v,r,e,q⟩=>⟨v,r,e,hu r _ _ Q σb (a.set h) q⟩
theorem zU{K:W.Frag}{n k:Nat}{u:TGs}(hu:aL5 k u):Own k (aLG K n u):=λ_ _ _ Q σb a ⟨l,xs,e,h1,h2,q⟩=>⟨l,xs,e,h1,h2,hu xs _ _ Q σb a q⟩
theorem aKa(its:List Value)(u:Value)(n:Nat):({ cls:=.type "list",data:=.seq (its.toArray.push u) n }:Obj)={ cls:=.type "list",data:=.seq (its ++ [u]).toArray n }:=by
 rw[List.push_toArray]
section
variable{X:Cx}{pins:List (Addr×Obj)}{σ:St}{H:Hp}{s:Shared}{scope:Scope}{N:List Str}{k:Nat}{idx:List Nat}{fp:List Addr}
theorem aCn{elt target iter:Expr}{ifs:List Expr}{pos:Pos}{it:Addr}{tn:Nat->Heap->Prop}{J:It}{g:TG}{tt:TT}{te:TE}{R:List V->Hp->Prop}{E:Value->Shared->Prop}{RR:Value->Addr->Result->Shared->Prop}
  (S:eU X scope N k idx) (hc:X.calm=true) (I:Inv X pins σ H s) (T:Turn X.prog X.w X.K target J fp it tn) (st:tn 0 s.heap) (hf:∀b∈fp,zO X pins H b)
  (hg:∀C,PG (cxC X scope N fp C s H) target g) (ho:Own k g) (ht:∀C,PTs (cxC X scope N fp C s H) ifs tt) (he:∀C,PE (cxC X scope N fp C s H) elt te)
  (hw:rO J (cσ k idx σ) g tt te R H)
  (hRR:∀D C s' m ys H',s'.heap.Ns C m->Inv X pins σ (upd H' D (.lst ys)) s'->zO X pins (upd H' D (.lst ys)) C->H' D=none->R ys H'->RR (.ref D) C (.ok .next) s') :
  wpAny (model X.prog X.w) X.A (newList []) (λacc s₃=>wpAny (model X.prog X.w) X.A (newFunctionEnv scope X.env.globals (nL X.env scope.names []) [] X.env.qual none .none (some X.env)) (λcenv s₄=>
   codeAny (model X.prog X.w) X.A (.compStart (.ListComp elt [⟨target,iter,ifs,0⟩] scope pos) 0 (.ref it) acc { cenv with scope:=relabel scope X.env }) (RR acc cenv.locals) s₄) E s₃) E s:=by
 refine wpAny_newObj_type (wpAny_newFunctionEnv S.nocell (by intro y hy;simp at hy) (λh₁ hns₁ hsb₁=>?_) S.kind)
 dsimp only at hns₁ hsb₁ ⊢
 generalize hH2:s.heap.push { cls:=.type "list",dict:=none,data:=.seq ([]:List Value).toArray } = H2 at hns₁ hsb₁ ⊢
 have hCs:H2.objs.size=s.heap.objs.size+1:=by rw[<-hH2,Ry9]
 have hDC:s.heap.objs.size≠H2.objs.size:=by rw[hCs];exact vE (Tp9 _)
 have hCle:s.heap.objs.size<=H2.objs.size:=by rw[hCs];exact Nat.le_succ _
 have below:∀b,b < s.heap.objs.size->b≠H2.objs.size:=λb hb=>by rw[hCs];exact vE (Tj9 hb)
 have old:∀b o,s.heap.get? b=some o->h₁.get? b=some o:=λb o e=>hsb₁.extBut b o (below b (jU e)) (kS _ (hH2▸kS _ e))
 have hacc:h₁.get? s.heap.objs.size=some { cls:=.type "list",data:=.seq ([]:List Value).toArray 0 }:=hsb₁.extBut _ _ hDC (kS _ (hH2▸xI _ rfl))
 have st₁:tn 0 h₁:=T.keep _ _ _ st λb _ o e=>old b o e
 obtain⟨W,⟨m0,w0⟩,turn⟩:=hw
 have fp0:∀b∈fp,b < s.heap.objs.size:=λb hb=>by
  obtain⟨o,e,_⟩:=T.obj _ _ st b hb
  exact jU e
 have stat:∀{H':Hp} {pl:List (Addr×Obj)},(∀b∈fp,H' b=none)->(∀p∈pl,s.heap.objs.size<=p.1)->∀b∈fp,zO (cxC X scope N fp H2.objs.size s H) pl H' b:=λ{H' pl} hn hp b hb=>by
  refine⟨hn b hb,below b (fp0 b hb),λz=>?_,.inl hb,λx c e=>(hf b hb).2.2.2.2.1 x c (pW (S.cells I) e),λp q z=>?_⟩
  ·have z':b∈frs X.stack:=z
   rcases xJ.mp (I.aCe b z') with q|q
   ·exact(hf b hb).2.1 q
   ·exact(hf b hb).2.2.1 q
  ·have q':p∈([]:List (Addr×Obj))++pl:=q
   have h1:=hp p (by simpa using q')
   rw[z] at h1
   exact absurd (yV (fp0 b hb) h1) (Rw9 _)
 have loop:∀s₃:Shared,s₃={ s with heap:=h₁,toks:=s.toks+([]:List (Str×Value)).length }->
   codeAny (model X.prog X.w) X.A (.compLoop (.ListComp elt [⟨target,iter,ifs,0⟩] scope pos) 0 (.ref it) (.ref s.heap.objs.size) (compEnvC scope (nL X.env scope.names []) H2.objs.size X.env))
    (RR (.ref s.heap.objs.size) H2.objs.size) s₃:=by
  rintro s₃ rfl
  refine aFW (λn s'=>∃i ys its H' nn,Inv (cxC X scope N fp H2.objs.size s H) [(s.heap.objs.size,{ cls:=.type "list",data:=.seq its.toArray nn })] (cσ k idx σ) H' s'/\tn i s'.heap/\(∀b∈fp,H' b=none)/\Vals ys its/\W i n ys H') ?_ m0
   ⟨0,[],[],H,0,aIZ S I hf (λb hb=>let ⟨o,e,_⟩:=T.obj _ _ st b hb;⟨o,e⟩) hCle (fJ _) hDC hns₁ old hacc (λv z=>by cases z),st₁,λb hb=>(hf b hb).1,.nil,w0⟩
  rintro n s' ⟨i,ys,its,H',nn,I',st',fr',rv,w'⟩
  obtain⟨hz,alt⟩:=turn i n ys H' w'
  have pl:∀p∈[((s.heap.objs.size:Addr),({ cls:=.type "list",data:=.seq its.toArray nn }:Obj))],s.heap.objs.size<=p.1:=λp hp=>by
   have e:p=((s.heap.objs.size:Addr),({ cls:=.type "list",data:=.seq its.toArray nn }:Obj)):=by simpa using hp
   rw[e]
   exact fJ _
  rcases alt with ⟨stop,q⟩|⟨go,Nx,hN,step⟩
  ·refine dI (T.done (cxC X scope N fp H2.objs.size s H) rfl rfl rfl hc i _ s' _ H' _ I' (stat fr' pl) st' stop) λr s4 ⟨hr,I4⟩=>?_
   subst hr
   obtain⟨eD,nD,_⟩:=I4.pin _ (Qw9 _ Qz9)
   obtain⟨a1,a2⟩:=aL2 I hf I4 hCle (fJ _) hDC nD eD rv hz
   obtain⟨m4,hn4,_⟩:=I4.loc
   exact hRR _ _ s4 m4 ys H' hn4 a1 a2 nD q
  ·refine dI (T.item (cxC X scope N fp H2.objs.size s H) rfl rfl rfl hc i _ s' _ H' _ I' (stat fr' pl) st' go) λr s4 ⟨u,hr,h4⟩=>?_
   subst hr
   refine dI h4 λ_ s5 ⟨x,H5,I5,r5,y5,st5,fr5⟩=>?_
   have I5':=I5.pinned (stat fr5 pl) (T.obj _ _ st5)
   have noE:∀{α:Type} {t:Sem α} {Q:α->Shared->Prop} {E':Value->Shared->Prop} {sx:Shared},wpAny (model X.prog X.w) X.A t Q (λ_ _=>False) sx->wpAny (model X.prog X.w) X.A t Q E' sx:=λh=>wpAny_mono h (λ_ _ q=>q) λ_ _ z=>z.elim
   refine noE (dI (hg _ _ s5 _ H5 x u _ I5' r5 (ho x _ H5 _ _ ⟨rfl,λ_ _=>rfl⟩ (step x H5 y5))) λ_ s6 ⟨σ6,H6,I6,ag,q6⟩=>?_)
   have back:∀{H7:Hp} {s7:Shared},Inv (cxC X scope N fp H2.objs.size s H) ([((s.heap.objs.size:Addr),({ cls:=.type "list",data:=.seq its.toArray nn }:Obj))] ++ aCg fp s5.heap) σ6 H7 s7->
     Inv (cxC X scope N fp H2.objs.size s H) [((s.heap.objs.size:Addr),({ cls:=.type "list",data:=.seq its.toArray nn }:Obj))] (cσ k idx σ) H7 s7/\tn (i+1) s7.heap/\∀b∈fp,H7 b=none:=λ{H7 s7} I7=>by
    refine⟨I7.zP.weak (by rw[ag.1]) λj v e=>?_,T.keep _ _ _ st5 λb hb o e=>(I7.pin (b,o) (Qw9 _ (Qw9 _ (sU hb e)))).1,λb hb=>?_⟩
    ·have hj:k<=j:=by
      by_cases hj:j < k
      ·unfold cσ at e
       rw[Qx9 (by simpa using hj),Tf9,if_pos hj] at e
       cases e
      ·omega
     rw[ag.2 j hj]
     exact e
    ·obtain⟨o,e,d⟩:=T.obj _ _ st5 b hb
     exact(I7.pin (b,o) (Qw9 _ (Qw9 _ (sU hb e)))).2.1
   refine noE (dI (ht _ _ s6 σ6 H6 _ I6 q6) λb s7 ⟨H7,I7,q7⟩=>?_)
   cases b with
   |false=>
    rw[if_neg Qp9] at q7 ⊢
    obtain⟨m',hm,w7⟩:=hN _ _ q7
    obtain⟨b1,b2,b3⟩:=back I7
    exact⟨m',hm,i+1,ys,its,H7,nn,b1,b2,b3,rv,w7⟩
   |true=>
    rw[if_pos rfl] at q7 ⊢
    refine noE (dI (he _ _ s7 σ6 H7 _ I7 q7) λy s8 ⟨z,H8,I8,r8,q8⟩=>?_)
    obtain⟨m',hm,w8⟩:=hN _ _ q8
    obtain⟨b1,b2,b3⟩:=back I8
    obtain⟨eD,nD,neD,nfD,_⟩:=b1.pin _ (Qw9 _ Qz9)
    have lenV:=rv.length
    refine append_at (hsz:=by rw[kU,<-lenV];exact hz) eD λh9 hs9 hD9=>?_
    have b1':Inv (cxC X scope N fp H2.objs.size s H) [] (cσ k idx σ) H8 s8:=b1.aB4 λp hp=>by cases hp
    have I9:Inv (cxC X scope N fp H2.objs.size s H) [] (cσ k idx σ) H8 { s8 with heap:=h9 }:=b1'.turned (t':=s8.toks) (λb o hb e=>(hs9.2 b hb).trans e) nD neD (.inr (fJ _)) (λx c e z=>by
     obtain⟨v,q⟩:=I.cell x c (pW (S.cells I) e)
     exact absurd (yV q.lt (by rw[z];exact fJ _)) (Rw9 _)) (λp hp=>by
     have hp':p∈([]:List (Addr×Obj)) ++ []:=hp
     simp at hp')
    refine⟨m',hm,i+1,ys ++ [z],its ++ [y],H8,nn+1,I9.aB4 λp hp=>?_,T.keep _ _ _ b2 λb hb o e=>(hs9.2 b (vE (fp0 b hb))).trans e,b3,rv.append (.cons r8 .nil),w8⟩
    have e:p=((s.heap.objs.size:Addr),({ cls:=.type "list",data:=.seq (its ++ [y]).toArray (nn+1) }:Obj)):=by simpa using hp
    subst e
    exact⟨by rw[<-aKa];exact hD9,nD,neD,nfD,λv z=>by cases z⟩
 exact codeAny_compStart_list (loop _ rfl) (T.self _ 0 _ _ _ st₁ (loop _ rfl))
theorem aL6(k:Nat)(idx:List Nat){N:List Str}{elt target iter:Expr}{ifs:List Expr}{pos:Pos}{wi:TI}{g:TG}{tt:TT}{te:TE}(S:eU X scope N k idx)(hc:X.calm=true)(hi:PI X target iter wi)
  (hg:∀fp C s H,PG (cxC X scope N fp C s H) target g) (ho:Own k g) (ht:∀fp C s H,PTs (cxC X scope N fp C s H) ifs tt) (he:∀fp C s H,PE (cxC X scope N fp C s H) elt te)
  (hs:∀x,foldedSetIterable iter X.env x=pure x:=by intro _;rfl):PE X (.ListComp elt [⟨target,iter,ifs,0⟩] scope pos) (aFZ wi k idx g tt te):=by
 intro pins s σ H Q I h
 rw[eval_ListComp]
 refine wpAny_comprehension_free (use:=none) rfl hs (y3 (S.cells I)) S.kind S.names (dI (hi pins s σ H _ I h) λv s1 h1=>dI h1 λitv s2 h2=>?_)
 obtain⟨it,fp,tn,J,H2,e,I2,T,st2,f2,w2⟩:=h2
 subst e
 refine aCn (RR:=λacc C=>compPost (model X.prog X.w) X.A X.xe none (EP X pins σ Q) acc C) S hc I2 T st2 f2 (λC=>hg fp C s2 H2) ho (λC=>ht fp C s2 H2) (λC=>he fp C s2 H2) w2 λD C s' m ys H' hn I' fC hD q=>?_
 refine⟨m,hn,λh'' hs''=>⟨.ref D,_,I'.turned (t':=s'.toks) (λb o hb e=>(hs''.2 b hb).trans e) fC.1 fC.2.1 fC.2.2.2.1 fC.2.2.2.2.1 fC.2.2.2.2.2,rfl,q D hD⟩⟩
theorem aL7(k:Nat)(idx:List Nat){i:Nat}{x:Str}{N:List Str}{elt target iter:Expr}{ifs:List Expr}{pos pos' spos:Pos}{wi:TI}{g:TG}{tt:TT}{te:TE}(hN:X.N.Nodup)(hix:X.N[i]?=some x)(hx:Loc X.env.scope x)
  (S:eU X scope N k idx) (hc:X.calm=true) (hi:PI X target iter wi)
  (hg:∀fp C s H,PG (cxC X scope N fp C s H) target g) (ho:Own k g) (ht:∀fp C s H,PTs (cxC X scope N fp C s H) ifs tt) (he:∀fp C s H,PE (cxC X scope N fp C s H) elt te)
  (hsw:swapsWith (.ListComp elt [⟨target,iter,ifs,0⟩] scope pos) (some (.Name x pos')) spos.line X.env=pure true:=by rfl)
  (hs:∀x,foldedSetIterable iter X.env x=pure x:=by intro _;rfl) (hfn:X.fn x=true\/X.env.scope.names.lookup x=some .local:=by first|exact .inl rfl|exact .inr rfl|assumption) :
  PS X (.Assign [.Name x pos'] (.ListComp elt [⟨target,iter,ifs,0⟩] scope pos) spos) (aFI (aFZ wi k idx g tt te) (vI i)):=by
 intro pins s σ H D I h
 rw[exec_Assign_Name_used _ _ _ _ hsw]
 refine wpAny_bind (wpAny_standAt (wpAny_bind ?_))
 show wpAny _ X.A (do let _ <-comprehension (.ListComp elt [⟨target,iter,ifs,0⟩] scope pos) scope X.env _ (newList []) false (eval iter X.env) (some (assign (.Name x pos') X.env))) _ _ s
 refine wpAny_bind (wpAny_mono (wpAny_comprehension_free (use:=some (assign (.Name x pos') X.env)) (Q:=λ_ s'=>SP X pins D .next s') rfl hs (y3 (S.cells I)) S.kind S.names
  (dI (hi pins s σ H _ I h) λv s1 h1=>dI h1 λitv s2 h2=>?_)) (λ_ s' hq=>wpAny_pure (wpAny_pure hq)) λ_ _ e=>e)
 obtain⟨it,fp,tn,J,H2,e,I2,T,st2,f2,w2⟩:=h2
 subst e
 refine aCn (RR:=λacc C=>compPost (model X.prog X.w) X.A X.xe (some (assign (.Name x pos') X.env)) (λ_ s'=>SP X pins D .next s') acc C) S hc I2 T st2 f2 (λC=>hg fp C s2 H2) ho (λC=>ht fp C s2 H2) (λC=>he fp C s2 H2) w2 λD' C s' m ys H' hn I' fC hD q=>?_
 show wpAny _ X.A (assign (.Name x pos') X.env (.ref D')) _ _ s'
 refine wpAny_assign_Name (aD4 I' hN hix hx (show RelV (.ref D') (.ref D') from rfl) (λs3 I3 ⟨a,sb,ha⟩=>?_) hfn)
 have hCa:C≠a:=by
  rcases ha with z|z
  ·rw[z];exact fC.2.1
  ·exact(fC.2.2.2.2.1 x a z).symm
 refine⟨m,hn.sameBut sb hCa,λh'' hs''=>⟨_,_,I3.turned (t':=s3.toks) (λb o hb e=>(hs''.2 b hb).trans e) fC.1 fC.2.1 fC.2.2.2.1 fC.2.2.2.2.1 fC.2.2.2.2.2,q D' hD⟩⟩
end
theorem jL{K:W.Frag}{a:Addr}{xs:List V}{σ₀:St}{g:TG}{tt:TT}{te:TE}{R:List V->Hp->Prop}{H:Hp}(Pv:Nat->List V->Hp->Prop)(h0:Pv 0 [] H)(hz:xs.length<=sizeLine)
  (hl:∀i ys H,i<=xs.length->Pv i ys H->bS K H a xs/\ys.length<=i)
  (hs:∀i x ys H,xs[i]?=some x->Pv i ys H->g x σ₀ H λσ2 H2=>tt σ2 H2 λb H3=>if b=true then te σ2 H3 λy H4=>Pv (i+1) (ys ++ [y]) H4 else Pv (i+1) ys H3)
  (hd:∀ys H,Pv xs.length ys H->R ys H):rO (Itl K a) σ₀ g tt te R H:=by
 refine⟨λi m ys H=>m=xs.length - i/\i<=xs.length/\Pv i ys H,⟨xs.length,by simp,Rr9 _,h0⟩,?_⟩
 rintro i m ys H ⟨rfl,hi,p⟩
 obtain⟨q,ql⟩:=hl i ys H hi p
 refine⟨by omega,?_⟩
 by_cases hlt:i < xs.length
 ·refine .inr ⟨⟨xs,xs[i],q,by simp[hlt]⟩,Pv (i+1),λys' H' p'=>⟨xs.length - (i+1),by omega,rfl,hlt,p'⟩,λx H' y=>?_⟩
  obtain⟨e,y⟩:=y
  subst e
  exact hs i x ys _ (y xs q) p
 ·have e:i=xs.length:=by omega
  subst e
  exact .inl ⟨⟨xs,q,fJ _⟩,hd ys H p⟩
theorem aKb{K:W.Frag}{a:Addr}{xs:List V}{σ₀:St}{g:TG}{tt:TT}{te:TE}{R:List V->Hp->Prop}{H:Hp}(Pv:Nat->List V->Hp->Prop)(h0:Pv 0 [] H)(hz:xs.length<=sizeLine)
  (hl:∀i ys H,i<=xs.length->Pv i ys H->mX K H a xs/\ys.length<=i)
  (hs:∀i x ys H,xs[i]?=some x->Pv i ys H->g x σ₀ H λσ2 H2=>tt σ2 H2 λb H3=>if b=true then te σ2 H3 λy H4=>Pv (i+1) (ys ++ [y]) H4 else Pv (i+1) ys H3)
  (hd:∀ys H,Pv xs.length ys H->R ys H):rO (Itt K a) σ₀ g tt te R H:=by
 refine⟨λi m ys H=>m=xs.length - i/\i<=xs.length/\Pv i ys H,⟨xs.length,by simp,Rr9 _,h0⟩,?_⟩
 rintro i m ys H ⟨rfl,hi,p⟩
 obtain⟨q,ql⟩:=hl i ys H hi p
 refine⟨by omega,?_⟩
 by_cases hlt:i < xs.length
 ·refine .inr ⟨⟨xs,xs[i],q,by simp[hlt]⟩,Pv (i+1),λys' H' p'=>⟨xs.length - (i+1),by omega,rfl,hlt,p'⟩,λx H' y=>?_⟩
  obtain⟨e,y⟩:=y
  subst e
  exact hs i x ys _ (y xs q) p
 ·have e:i=xs.length:=by omega
  subst e
  exact .inl ⟨⟨xs,q,fJ _⟩,hd ys H p⟩
theorem oX{lo:Int}{n:Nat}{g:TG}{R:List V->Hp->Prop}(Pv:Nat->List V->Hp->Prop)(h0:Pv 0 [] H)(hz:n<=sizeLine)(hl:∀i ys H,i<=n->Pv i ys H->ys.length<=i)(hs:∀i ys H,i < n->Pv i ys H->g (.int (lo+i)) σ₀ H λσ2 H2=>tt σ2 H2 λb H3=>if b=true then te σ2 H3 λy H4=>Pv (i+1) (ys ++ [y]) H4 else Pv (i+1) ys H3)(hd:∀ys H,Pv n ys H->R ys H):rO (Itr lo n) σ₀ g tt te R H:=by
 refine⟨λi m ys H=>m=n - i/\i<=n/\Pv i ys H,⟨n,by simp,Rr9 _,h0⟩,?_⟩
 rintro i m ys H ⟨rfl,hi,p⟩
 have ql:=hl i ys H hi p
 refine⟨by omega,?_⟩
 by_cases hlt:i < n
 ·refine .inr ⟨hlt,Pv (i+1),λys' H' p'=>⟨n - (i+1),by omega,rfl,hlt,p'⟩,λx H' y=>?_⟩
  obtain⟨e,y⟩:=y
  subst e y
  exact hs i ys _ hlt p
 ·have e:i=n:=by omega
  subst e
  exact .inl ⟨fJ _,hd ys H p⟩
end L2
namespace L2
open PySem PySem.Spec PyProof.Rows
theorem aG8:bootBuiltins "int" = some (.type "int"):=by decide +kernel
theorem aL8:bootBuiltins "bool" = some (.type "bool"):=by decide +kernel
theorem lR:bootBuiltins "list" = some (.type "list"):=by decide +kernel
theorem aF0:bootBuiltins "tuple" = some (.type "tuple"):=by decide +kernel
theorem aKc:bootBuiltins "range" = some (.type "range"):=by decide +kernel
theorem gO:bootBuiltins "len" = some (.builtin "len"):=by decide +kernel
theorem aKd:bootBuiltins "abs" = some (.builtin "abs"):=by decide +kernel
theorem aAT:bootBuiltins "max" = some (.builtin "max"):=by decide +kernel
theorem y4:bootBuiltins "min" = some (.builtin "min"):=by decide +kernel
theorem aG9:bootBuiltins "sum" = some (.builtin "sum"):=by decide +kernel
theorem aHa:bootBuiltins "all" = some (.builtin "all"):=by decide +kernel
theorem aI0:bootBuiltins "sorted" = some (.builtin "sorted"):=by decide +kernel
theorem eJ:bootBuiltins "isinstance" = some (.builtin "isinstance"):=by decide +kernel
section
variable{X:Cx}
def aKe:R2:=λx y H Q=>rI0 (λi j=>.int (i+j)) x y H Q\/aPl x y H Q
theorem bL:vJ X (binaryOp .Add) aKe:=aNU.or aN7
def aNd:R2:=λx y H Q=>rI aJN (λi j=>.int (i*j)) x y H Q\/aPm x y H Q
theorem bN:vJ X (binaryOp .Mult) aNd:=aNV.or aN8
def aI1(K:W.Frag):V->Option Int->Option Int->Hp->VK->Prop:=λx lo hi H Q=>aPj K x lo hi H Q\/aPe K x lo hi H Q
theorem aL9:SlR X (aI1 X.K):=aLW.or aN1
def EqN(K:W.Frag)(H:Hp):Nat->V->V->Bool->Prop
 |0,x,y,b=>sA x=true/\sA y=true/\b=eqV x y
 |n+1,x,y,b=>(sA x=true/\sA y=true/\b=eqV x y)\/
  ∃(p q:Addr) (xs ys:List V) (e:Nat->Bool),x=.ref p/\y=.ref q/\((bS K H p xs/\bS K H q ys)\/(mX K H p xs/\mX K H q ys))/\
   (∀(j:Nat) u v,xs[j]?=some u->ys[j]?=some v->EqN K H n u v (e j))/\b=(xs.length == ys.length && (List.range xs.length).all e)
theorem aF1(h:sA x=true):eqV x x=true:=by
 cases x with
 |non=>rfl
 |bl b=>cases b <;> rfl
 |int i=>exact beq_self_eq_true i
 |str z=>exact beq_self_eq_true z
 |_=>exact absurd (show false=true from h) Qp9
theorem aF2(I:Inv X pins σ H s):∀{n:Nat}{x:V}{b:Bool},EqN X.K H n x x b->b=true
 |0,x,b,⟨h,_,e⟩=>by rw[e];exact aF1 h
 |n+1,x,b,h=>by
  rcases h with ⟨h,_,e⟩|⟨p,q,xs,ys,e,e1,e2,hs,he,eb⟩
  ·rw[e];exact aF1 h
  ·subst e1
   cases e2
   have exy:xs=ys:=by
    rcases hs with ⟨h1,h2⟩|⟨h1,h2⟩
    ·exact I.aCf h1 h2
    ·exact I.aD5 h1 h2
   subst exy
   rw[eb,beq_self_eq_true,Sw9,Sm9]
   intro j hj
   have hj':j < xs.length:=Rx9.mp hj
   exact aF2 I (he j xs[j] xs[j] (fH hj') (fH hj'))
theorem aKf(I:Inv X pins σ H s):∀{n:Nat}{A:Around}{x y:V}{u v:Value}{b:Bool},A.units+n < cLine->RelV x u->RelV y v->EqN X.K H n x y b->SeqAt.EqAt A s u v b
 |0,A,x,y,u,v,b,_,rx,ry,⟨h1,h2,e⟩=>by rw[e];exact aJ1 rx ry h1 h2
 |n+1,A,x,y,u,v,b,hu,rx,ry,h=>by
  rcases id h with ⟨h1,h2,e⟩|⟨p,q,xs,ys,e,e1,e2,hs,he,eb⟩
  ·rw[e];exact aJ1 rx ry h1 h2
  ·subst e1 e2
   cases rx
   cases ry
   by_cases hpq:p=q
   ·subst hpq
    rw[aF2 I h]
    exact SeqAt.EqAt.same _
   ·refine SeqAt.EqAt.of_refs hpq ?_
    have items:∀{us vs:List Value},Vals xs us->Vals ys vs->∀j (h1:j < us.toArray.size) (h2:j < vs.toArray.size),SeqAt.EqAt A.in1 s us.toArray[j] vs.toArray[j] (e j):=λ{us vs} r1 r2 j h1 h2=>by
     have l1:=r1.length
     have l2:=r2.length
     rw[kU] at h1 h2
     have g1:xs[j]?=some xs[j]:=fH (by omega)
     have g2:ys[j]?=some ys[j]:=fH (by omega)
     obtain⟨u',eu,ru⟩:=r1.get g1
     obtain⟨v',ev,rv⟩:=r2.get g2
     have eu':us.toArray[j]=u':=by
      rw[Sy9]
      exact Option.some.inj ((fH h1).symm.trans eu)
     have ev':vs.toArray[j]=v':=by
      rw[Sy9]
      exact Option.some.inj ((fH h2).symm.trans ev)
     rw[eu',ev']
     exact aKf I (n:=n) (by show A.units+1+n < cLine;omega) ru rv (he j _ _ g1 g2)
    rcases hs with ⟨h1,h2⟩|⟨h1,h2⟩
    ·obtain⟨us,r1,p1,_⟩:=I.list h1
     obtain⟨vs,r2,p2,_⟩:=I.list h2
     have l1:=r1.length
     have l2:=r2.length
     by_cases hl:xs.length=ys.length
     ·rw[eb,hl,beq_self_eq_true,Sw9,<-hl,show xs.length=us.toArray.size by rw[kU];exact l1]
      exact SeqAt.RcAt.lists p1.isList p2.isList (by rw[kU,kU];omega) (by omega) (items r1 r2)
     ·rw[eb,show(xs.length == ys.length)=false by simpa using hl,St9]
      exact SeqAt.RcAt.lists_lengths p1.isList p2.isList (by rw[kU,kU];simp;omega) (by omega)
    ·obtain⟨us,r1,p1,_⟩:=I.tuple h1
     obtain⟨vs,r2,p2,_⟩:=I.tuple h2
     have l1:=r1.length
     have l2:=r2.length
     have q:=SeqAt.RcAt.tuples (s:=s) (A:=A) (l:=p) (b:=q) (e:=e) p1 p2 (by omega) (items r1 r2)
     rw[kU,kU,<-l1,<-l2] at q
     by_cases hl:xs.length=ys.length
     ·rw[eb,hl,beq_self_eq_true,Sw9]
      rw[hl,Nat.min_self,beq_self_eq_true,Bool.and_true] at q
      exact q
     ·have hb:(xs.length == ys.length)=false:=by simpa using hl
      rw[eb,hb,St9]
      rw[hb,Bool.and_false] at q
      exact q
def mZ(K:W.Frag):R2:=λx y H Q=>∃b,EqN K H 8 x y b/\Q (.bl b) H
def aHb(K:W.Frag):R2:=λx y H Q=>∃b,EqN K H 8 x y b/\Q (.bl (!b)) H
theorem xK{n:Nat}{A:Around}{xs ys:List V}{us vs:List Value}{e:Nat->Bool}(I:Inv X pins σ H s)(hu:A.units+1+n < cLine)(he:∀(j:Nat) u v,xs[j]?=some u->ys[j]?=some v->EqN X.K H n u v (e j))(r1:Vals xs us)(r2:Vals ys vs):∀j (h1:j < us.toArray.size) (h2:j < vs.toArray.size),SeqAt.EqAt A.in1 s us.toArray[j] vs.toArray[j] (e j):=λj h1 h2=>by
 have l1:=r1.length
 have l2:=r2.length
 rw[kU] at h1 h2
 have g1:xs[j]?=some xs[j]:=fH (by omega)
 have g2:ys[j]?=some ys[j]:=fH (by omega)
 obtain⟨u',eu,ru⟩:=r1.get g1
 obtain⟨v',ev,rv⟩:=r2.get g2
 have eu':us.toArray[j]=u':=by
  rw[Sy9]
  exact Option.some.inj ((fH h1).symm.trans eu)
 have ev':vs.toArray[j]=v':=by
  rw[Sy9]
  exact Option.some.inj ((fH h2).symm.trans ev)
 rw[eu',ev']
 exact aKf I (n:=n) (by show A.units+1+n < cLine;omega) ru rv (he j _ _ g1 g2)
theorem aOj(ry:RelV y u)(rx:RelV x v)(fy:sA y=true)(fx:sA x=true):SeqAt.RcAt A s u v (eqV y x):=by
 cases y with
 |non=>
  cases ry
  cases x with
  |non=>cases rx;exact SeqAt.RcAt.none_none
  |bl b=>cases rx;exact SeqAt.RcAt.none_bool b
  |int b=>obtain⟨t,rfl⟩:=rx;exact SeqAt.RcAt.none_int b t
  |str b=>obtain⟨t,rfl⟩:=rx;exact SeqAt.RcAt.none_str b t
  |_=>exact absurd (show false=true from fx) Qp9
 |bl a=>
  cases ry
  cases x with
  |non=>cases rx;exact SeqAt.RcAt.bool_none a
  |bl b=>cases rx;exact SeqAt.RcAt.bool_bool a b
  |int b=>obtain⟨t,rfl⟩:=rx;exact SeqAt.RcAt.bool_int a b t
  |str b=>obtain⟨t,rfl⟩:=rx;exact SeqAt.RcAt.bool_str a b t
  |_=>exact absurd (show false=true from fx) Qp9
 |int a=>
  obtain⟨t',rfl⟩:=ry
  cases x with
  |non=>cases rx;exact SeqAt.RcAt.int_none a t'
  |bl b=>cases rx;exact SeqAt.RcAt.int_bool a t' b
  |int b=>obtain⟨t,rfl⟩:=rx;exact SeqAt.RcAt.int_int a t' b t
  |str b=>obtain⟨t,rfl⟩:=rx;exact SeqAt.RcAt.int_str a t' b t
  |_=>exact absurd (show false=true from fx) Qp9
 |str a=>
  obtain⟨t',rfl⟩:=ry
  cases x with
  |non=>cases rx;exact SeqAt.RcAt.str_none a t'
  |bl b=>cases rx;exact SeqAt.RcAt.str_bool a t' b
  |int b=>obtain⟨t,rfl⟩:=rx;exact SeqAt.RcAt.str_int a t' b t
  |str b=>obtain⟨t,rfl⟩:=rx;exact SeqAt.RcAt.str_str a t' b t
  |_=>exact absurd (show false=true from fx) Qp9
 |_=>exact absurd (show false=true from fy) Qp9
theorem aKg(ry:RelV y u)(rx:RelV x v)(fy:sA y=true)(fx:sA x=true):SeqAt.RcNeAt A s u v (!eqV y x):=by
 cases y with
 |non=>
  cases ry
  cases x with
  |non=>cases rx;exact SeqAt.RcNeAt.none_none
  |bl b=>cases rx;exact SeqAt.RcNeAt.none_bool b
  |int b=>obtain⟨t,rfl⟩:=rx;exact SeqAt.RcNeAt.none_int b t
  |str b=>obtain⟨t,rfl⟩:=rx;exact SeqAt.RcNeAt.none_str b t
  |_=>exact absurd (show false=true from fx) Qp9
 |bl a=>
  cases ry
  cases x with
  |non=>cases rx;exact SeqAt.RcNeAt.bool_none a
  |bl b=>cases rx;exact SeqAt.RcNeAt.bool_bool a b
  |int b=>obtain⟨t,rfl⟩:=rx;exact SeqAt.RcNeAt.bool_int a b t
  |str b=>obtain⟨t,rfl⟩:=rx;exact SeqAt.RcNeAt.bool_str a b t
  |_=>exact absurd (show false=true from fx) Qp9
 |int a=>
  obtain⟨t',rfl⟩:=ry
  cases x with
  |non=>cases rx;exact SeqAt.RcNeAt.int_none a t'
  |bl b=>cases rx;exact SeqAt.RcNeAt.int_bool a t' b
  |int b=>obtain⟨t,rfl⟩:=rx;exact SeqAt.RcNeAt.int_int a t' b t
  |str b=>obtain⟨t,rfl⟩:=rx;exact SeqAt.RcNeAt.int_str a t' b t
  |_=>exact absurd (show false=true from fx) Qp9
 |str a=>
  obtain⟨t',rfl⟩:=ry
  cases x with
  |non=>cases rx;exact SeqAt.RcNeAt.str_none a t'
  |bl b=>cases rx;exact SeqAt.RcNeAt.str_bool a t' b
  |int b=>obtain⟨t,rfl⟩:=rx;exact SeqAt.RcNeAt.str_int a t' b t
  |str b=>obtain⟨t,rfl⟩:=rx;exact SeqAt.RcNeAt.str_str a t' b t
  |_=>exact absurd (show false=true from fx) Qp9
 |_=>exact absurd (show false=true from fy) Qp9
theorem dS(hu:X.A.units+9 < cLine):vJ X (compareOp .Eq) (mZ X.K):=by
 intro pins s σ H x y v u Q I rx ry h
 obtain⟨b,h,q⟩:=h
 have fin:EP X pins σ Q (.bool b) s:=⟨.bl b,H,I,rfl,q⟩
 rcases h with ⟨h1,h2,e⟩|⟨p,l,xs,ys,e,e1,e2,hs,he,eb⟩
 ·exact aOj rx ry h1 h2 X.prog X.w X.xe _ (by rw[<-e];exact fin)
 ·subst e1 e2
  cases rx
  cases ry
  rcases hs with ⟨h1,h2⟩|⟨h1,h2⟩
  ·obtain⟨us,r1,p1,_⟩:=I.list h1
   obtain⟨vs,r2,p2,_⟩:=I.list h2
   have l1:=r1.length
   have l2:=r2.length
   by_cases hl:xs.length=ys.length
   ·refine SeqAt.RcAt.lists p1.isList p2.isList (by rw[kU,kU];omega) (by omega) (xK I (n:=7) (A:=X.A) (by omega) he r1 r2) X.prog X.w X.xe _ ?_
    rw[kU,<-l1]
    rw[eb,hl,beq_self_eq_true,Sw9,<-hl] at fin
    exact fin
   ·refine SeqAt.RcAt.lists_lengths p1.isList p2.isList (by rw[kU,kU];simp;omega) (by omega) X.prog X.w X.xe _ ?_
    rw[eb,show(xs.length == ys.length)=false by simpa using hl,St9] at fin
    exact fin
  ·obtain⟨us,r1,p1,_⟩:=I.tuple h1
   obtain⟨vs,r2,p2,_⟩:=I.tuple h2
   have l1:=r1.length
   have l2:=r2.length
   refine SeqAt.RcAt.tuples p1 p2 (by omega) (xK I (n:=7) (A:=X.A) (by omega) he r1 r2) X.prog X.w X.xe _ ?_
   rw[kU,kU,<-l1,<-l2]
   rw[eb] at fin
   by_cases hl:xs.length=ys.length
   ·rw[hl,beq_self_eq_true,Sw9] at fin
    rw[hl,Nat.min_self,beq_self_eq_true,Bool.and_true]
    exact fin
   ·have hb:(xs.length == ys.length)=false:=by simpa using hl
    rw[hb,St9] at fin
    rw[hb,Bool.and_false]
    exact fin
theorem aEF(hu:X.A.units+9 < cLine):vJ X (compareOp .NotEq) (aHb X.K):=by
 intro pins s σ H x y v u Q I rx ry h
 obtain⟨b,h,q⟩:=h
 have fin:EP X pins σ Q (.bool (!b)) s:=⟨.bl (!b),H,I,rfl,q⟩
 rcases h with ⟨h1,h2,e⟩|⟨p,l,xs,ys,e,e1,e2,hs,he,eb⟩
 ·exact aKg rx ry h1 h2 X.prog X.w X.xe _ (by rw[<-e];exact fin)
 ·subst e1 e2
  cases rx
  cases ry
  rcases hs with ⟨h1,h2⟩|⟨h1,h2⟩
  ·obtain⟨us,r1,p1,_⟩:=I.list h1
   obtain⟨vs,r2,p2,_⟩:=I.list h2
   have l1:=r1.length
   have l2:=r2.length
   by_cases hl:xs.length=ys.length
   ·refine SeqAt.RcNeAt.lists p1.isList p2.isList (by rw[kU,kU];omega) (by omega) (xK I (n:=7) (A:=X.A) (by omega) he r1 r2) X.prog X.w X.xe _ ?_
    rw[kU,<-l1]
    rw[eb,hl,beq_self_eq_true,Sw9,<-hl] at fin
    exact fin
   ·refine SeqAt.RcNeAt.lists_lengths p1.isList p2.isList (by rw[kU,kU];simp;omega) (by omega) X.prog X.w X.xe _ ?_
    rw[eb,show(xs.length == ys.length)=false by simpa using hl,St9] at fin
    exact fin
  ·obtain⟨us,r1,p1,_⟩:=I.tuple h1
   obtain⟨vs,r2,p2,_⟩:=I.tuple h2
   have l1:=r1.length
   have l2:=r2.length
   refine SeqAt.RcNeAt.tuples p1 p2 (by omega) (xK I (n:=7) (A:=X.A) (by omega) he r1 r2) X.prog X.w X.xe _ ?_
   rw[kU,kU,<-l1,<-l2]
   rw[eb] at fin
   by_cases hl:xs.length=ys.length
   ·rw[hl,beq_self_eq_true,Sw9] at fin
    rw[hl,Nat.min_self,beq_self_eq_true,Bool.and_true]
    exact fin
   ·have hb:(xs.length == ys.length)=false:=by simpa using hl
    rw[hb,St9] at fin
    rw[hb,Bool.and_false]
    exact fin
def IsI(K:W.Frag)(H:Hp)(x:V)(c:V)(b:Bool):Prop:=∃t,zQ K H x t/\((∃T,c=.ty T/\PySem.W.kitOne K t (.type T)=some b)\/(∃C,c=.ref C/\PySem.W.kitOne K t (.ref C)=some b))
theorem aKh:eN X (.builtin "isinstance") (λxs H Q=>∃x c b,xs=[x,c]/\IsI X.K H x c b/\Q (.bl b) H):=by
 intro pins s σ H xs us Q I r h
 obtain⟨x,c,b,rfl,⟨t,ty,hc⟩,q⟩:=h
 obtain⟨u,w',rfl,rx,ry⟩:=vals2 r
 rcases hc with ⟨T,rfl,e⟩|⟨C,rfl,e⟩
 ·cases ry
  exact aD6 I rx ty e λtk=>⟨.bl b,H,I.tok _,rfl,q⟩
 ·cases ry
  exact aD6 I rx ty e λtk=>⟨.bl b,H,I.tok _,rfl,q⟩
end
end L2
namespace L2
open PySem PySem.Spec PyProof.Rows
section
variable{X:Cx}
def gIx(K:W.Frag):V->V->Hp->VK->Prop:=λx y H Q=>∃p xs i v,x=.ref p/\y=.int i/\bS K H p xs/\0<=i/\xs[i.toNat]?=some v/\Q v H
theorem aEG:aNN X (gIx X.K):=by
 intro pins s σ H x y v u Q I rx ry h
 obtain⟨p,xs,i,z,rfl,rfl,hq,h0,he,q⟩:=h
 cases rx
 obtain⟨t,rfl⟩:=ry
 obtain⟨its,r,pl,hz⟩:=I.list hq
 obtain⟨w,ew,rw'⟩:=r.get he
 have hl:=r.length
 have hn:=aAP
 have hi:i.toNat < xs.length:=(uS.mp he).1
 exact wpAny_getItem_list pl.isList h0 (by omega) (by simpa using ew) ⟨z,H,I,rw',q⟩
theorem kT{k:Nat}{A:Around}(hr:eO k A):A.units+9 < cLine:=by have:=hr.un;omega
end
section
variable{σ:St}{H:Hp}{nx bk ct:St->Hp->Prop}{rt:VK}{Q:VK}{QT:Bool->Hp->Prop}{QA:List V->Hp->Prop}{QG:St->Hp->Prop}
theorem aV{t:TS}{D:Ends}{σ σ':St}(e:σ'=σ)(h:t D σ H):t D σ' H:=e▸h
theorem aKi{u:TS}(h:t ⟨u ⟨nx,rt,bk,ct⟩,rt,bk,ct⟩ σ H):aJD t u ⟨nx,rt,bk,ct⟩ σ H:=h
theorem aMa(h:nx σ H):aJC ⟨nx,rt,bk,ct⟩ σ H:=h
theorem aOk(h:te σ H λx H1=>g x σ H1 nx):aFI te g ⟨nx,rt,bk,ct⟩ σ H:=h
theorem aMb(h:te σ H λ_ H1=>nx σ H1):aJF te ⟨nx,rt,bk,ct⟩ σ H:=h
theorem aOl(h:te σ H rt):aNB te ⟨nx,rt,bk,ct⟩ σ H:=h
theorem aOm(h:c σ H λb H1=>if b=true then t ⟨nx,rt,bk,ct⟩ σ H1 else u ⟨nx,rt,bk,ct⟩ σ H1):aND c t u ⟨nx,rt,bk,ct⟩ σ H:=h
theorem aOn{i j:Nat}(h:ta σ H λvs H1=>∃v w,vs=[v,w]/\nx ((σ.set i (some v)).set j (some w)) H1):aNJ i j ta ⟨nx,rt,bk,ct⟩ σ H:=h
theorem aEH{i:Nat}(e:σ[i]?=some (some x))(h:te σ H λy H1=>ti x y H1 λz H2=>nx (σ.set i (some z)) H2):aNL i te ti ⟨nx,rt,bk,ct⟩ σ H:=⟨x,e,h⟩
theorem aMc{tget:V->V->Hp->VK->Prop}(h:to σ H λo H1=>ti σ H1 λi H2=>tget o i H2 λx H3=>te σ H3 λy H4=>tip x y H4 λz H5=>tset o i z H5 λH6=>nx σ H6):aJK to ti te tget tip tset ⟨nx,rt,bk,ct⟩ σ H:=h
theorem aOo{g:TG}(h:wi σ H λJ H1=>∃W:Nat->Nat->St->Hp->Prop,(∃m,W 0 m σ H1)/\∀i m σ H,W i m σ H->
 (J.stop i H/\nx σ H)\/(J.go i H/\∃N:St->Hp->Prop,(∀σ' H',N σ' H'->∃m',m' < m/\W (i+1) m' σ' H')/\∀x H',J.yld i H x H'->g x σ H' λσ2 H2=>tb ⟨N,rt,nx,N⟩ σ2 H2)):aNR wi g tb ⟨nx,rt,bk,ct⟩ σ H:=h
theorem aKj{i:Nat}(e:σ.set i (some v)=σ')(h:QG σ' H):vI i v σ H QG:=by unfold vI;rw[e];exact h
theorem gK{K:W.Frag}{n:Nat}{t:TGs}{a:Addr}{xs:List V}(h1:mX K H a xs)(h2:xs.length=n)(h:t xs σ H QG):aLG K n t (.ref a) σ H QG:=⟨a,xs,rfl,h1,h2,h⟩
theorem aMd(h:QG σ H):aLE [] σ H QG:=⟨rfl,h⟩
theorem aKk(h:t v σ H λσ' H'=>u r σ' H' QG):aHY t u (v::r) σ H QG:=⟨v,r,rfl,h⟩
theorem aMe(h:to σ H λo H1=>ti σ H1 λi H2=>t o i v H2 λH3=>QG σ H3):aNF to ti t v σ H QG:=h
theorem pX{xs:List V}{k:Int}{j:Nat}{QH:Hp->Prop}(h1:H p=some (.lst xs))(h2:ixN xs.length k=some j)(h:QH (upd H p (.lst (xs.set j v)))):aM9 (.ref p) (.int k) v H QH:=⟨p,xs,k,j,rfl,rfl,h1,h2,h⟩
theorem aEI{K:W.Frag}{p:Addr}{xs:List V}{i:Int}{v:V}(h1:bS K H p xs)(h0:0<=i)(h2:xs[i.toNat]?=some v)(h:Q v H):gIx K (.ref p) (.int i) H Q:=⟨p,xs,i,v,rfl,rfl,h1,h0,h2,h⟩
theorem aOp{f:Int->Int->Int}{i j:Int}(h:Q (.int (f i j)) H):ipI f (.int i) (.int j) H Q:=⟨i,j,rfl,rfl,h⟩
theorem aOq{i:Nat}(e:σ[i]?=some (some v))(h:Q v H):aNo i σ H Q:=⟨v,e,h⟩
theorem aPV(h:Q v H):tC v σ H Q:=h
theorem aPq(h:ta σ H λx H1=>tb σ H1 λy H2=>r x y H2 Q):tOp r ta tb σ H Q:=h
theorem aPr{r:V->Hp->VK->Prop}(h:ta σ H λx H1=>r x H1 Q):tUn r ta σ H Q:=h
theorem aOr{g:Int->Int->V}{i j:Int}(h:Q (g i j) H):rI0 g (.int i) (.int j) H Q:=⟨i,j,rfl,rfl,h⟩
theorem aPs{C:Int->Int->Prop}{g:Int->Int->V}{i j:Int}(c:C i j)(h:Q (g i j) H):rI C g (.int i) (.int j) H Q:=⟨i,j,rfl,rfl,c,h⟩
theorem aPt{g:Int->V}{i:Int}(h:Q (g i) H):rU g (.int i) H Q:=⟨i,rfl,h⟩
theorem aMf{i j:Int}(h:Q (.int (i+j)) H):aKe (.int i) (.int j) H Q:=.inl ⟨i,j,rfl,rfl,h⟩
theorem xM{xs zs:List V}(h1:H l=some (.lst xs))(h2:H b=some (.lst zs))(hz:xs.length+zs.length<=sizeLine)(h:∀p,H p=none->Q (.ref p) (upd H p (.lst (xs++zs)))):aKe (.ref l) (.ref b) H Q:=.inr ⟨l,b,xs,zs,rfl,rfl,h1,h2,hz,h⟩
theorem aMg{i j:Int}(c:aJN i j)(h:Q (.int (i*j)) H):aNd (.int i) (.int j) H Q:=.inl ⟨i,j,rfl,rfl,c,h⟩
theorem aHc{K:W.Frag}{p:Addr}{xs:List V}{i:Int}{v:V}(h1:bS K H p xs)(h2:uT xs i=some v)(h:Q v H):rIx K (.ref p) (.int i) H Q:=.inl ⟨p,xs,i,v,rfl,rfl,h1,h2,h⟩
theorem aOs{K:W.Frag}{p:Addr}{xs:List V}{i:Int}{v:V}(h1:mX K H p xs)(h2:uT xs i=some v)(h:Q v H):rIx K (.ref p) (.int i) H Q:=.inr (.inl ⟨p,xs,i,v,rfl,rfl,h1,h2,h⟩)
theorem aPu{r:V->Option Int->Option Int->Hp->VK->Prop}(h:te σ H λx H1=>tl σ H1 λl H2=>th σ H2 λu H3=>r x l u H3 Q):tSl r te tl th σ H Q:=h
theorem aI2{QO:Option Int->Hp->Prop}(h:QO none H):aEA σ H QO:=h
theorem aMh{QO:Option Int->Hp->Prop}(h:t σ H λx H1=>∃i,x=.int i/\QO (some i) H1):aJZ t σ H QO:=h
theorem aAU{K:W.Frag}{a:Addr}{xs:List V}{lo hi:Option Int}(h1:bS K H a xs)(h:∀p,H p=none->Q (.ref p) (upd H p (.lst (pV xs lo hi)))):aI1 K (.ref a) lo hi H Q:=.inl ⟨a,xs,rfl,h1,h⟩
theorem aMi(h:ta σ H λx H1=>∃c,x=.bl c/\if c=true then tb σ H1 Q else Q (.bl false) H1):aJz ta tb σ H Q:=h
theorem aOt(h:ta σ H λx H1=>∃c,x=.bl c/\if c=true then Q (.bl true) H1 else tb σ H1 Q):aNx ta tb σ H Q:=h
theorem aMj(h:ta σ H λx H1=>∃c,x=.bl c/\Q (.bl (!c)) H1):aJA ta σ H Q:=h
theorem aOu(h:t σ H λc H1=>if c=true then ta σ H1 Q else tb σ H1 Q):tIf t ta tb σ H Q:=h
theorem aKl(h:ta σ H λx H1=>tb σ H1 λy H2=>r x y H2 λz H3=>∃k,z=.bl k/\(if k=true then tc σ H3 λw' H4=>r' y w' H4 Q else Q (.bl false) H3)):aGV r r' ta tb tc σ H Q:=h
theorem aMk(h:t σ H λx H'=>∃k,x=.bl k/\QT k H'):aJO t σ H QT:=h
theorem aPv(h:t σ H λx H'=>∃k,x=.bl k/\QT k H'):tB t σ H QT:=h
theorem aOv(h:t σ H λc H1=>if c=true then u σ H1 QT else QT false H1):aNs t u σ H QT:=h
theorem aPw(h:t σ H λc H1=>if c=true then QT true H1 else u σ H1 QT):tOr t u σ H QT:=h
theorem aOw(h:t σ H λc H1=>QT (!c) H1):aNt t σ H QT:=h
theorem aOx(h:QT true H):aOi σ H QT:=h
theorem aPx{b:Bool}{P:Bool->Prop}(h:P b):∃k,V.bl b=V.bl k/\P k:=⟨b,rfl,h⟩
theorem aMl{i:Int}{P:Int->Prop}(h:P i):∃k,V.int i=V.int k/\P k:=⟨i,rfl,h⟩
theorem aPy{i:Int}{P:Int->Prop}(h:P i):∃k,[V.int i]=[V.int k]/\P k:=⟨i,rfl,h⟩
theorem aPz{i j:Int}{P:Int->Int->Prop}(h:P i j):∃k l,[V.int i,V.int j]=[V.int k,V.int l]/\P k l:=⟨i,j,rfl,h⟩
theorem aOy(h:QA [] H):oW σ H QA:=h
theorem aMm(h:ta σ H λx H1=>tr σ H1 λxs H2=>QA (x::xs) H2):bJ ta tr σ H QA:=h
theorem aOz(h:t σ H λxs H1=>xs.length<=sizeLine/\∀p,H1 p=none->Q (.ref p) (upd H1 p (.tup xs))):aFL t σ H Q:=h
theorem aOA(h:t σ H λxs H1=>xs.length<=sizeLine/\∀p,H1 p=none->Q (.ref p) (upd H1 p (.lst xs))):yY t σ H Q:=h
theorem aMn(h:t σ H λvs H1=>sp vs H1 Q E):aFM sp [] E t σ H Q:=by
 unfold aFM
 simpa only [Sd9] using h
theorem aPA{r:List V->Hp->VK->Prop}(h:t σ H λvs H1=>r vs H1 Q):tCB r t σ H Q:=h
theorem aMo{k:Nat}{idx:List Nat}(h:wi σ H λJ H1=>rO J (cσ k idx σ) g tt te (λys H'=>∀p,H' p=none->Q (.ref p) (upd H' p (.lst ys))) H1):aFZ wi k idx g tt te σ H Q:=h
theorem aKm{R:It->Hp->Prop}(h:ta σ H λvs H1=>∃j:Int,vs=[.int j]/\-(2 ^ 62)<=j/\j < 2 ^ 62/\R (Itr 0 j.toNat) H1):aH0 ta σ H R:=h
theorem aKn{R:It->Hp->Prop}(h:ta σ H λvs H1=>∃i j:Int,vs=[.int i,.int j]/\(-(2 ^ 62)<=i/\i < 2 ^ 62/\-(2 ^ 62)<=j/\j < 2 ^ 62)/\R (Itr i (j - i).toNat) H1):aH1 ta σ H R:=h
theorem aOB{K:W.Frag}{ta:TE}{f:Str}(h:ta σ H λx H1=>∃a C dx fs v,x=.ref a/\H1 a=some (.ins C dx fs)/\Cls K C/\cX K C f/\fs.lookup f=some v/\Q v H1):aNW K ta f σ H Q:=h
theorem aMp{n:Nat}{P:Prop}(h1:n<=sizeLine)(h:P):n<=sizeLine/\P:=⟨h1,h⟩
theorem cZ{n:Nat}(h:n<=16777216):n<=sizeLine:=by rw[sizeLine_eq];exact h
end
section
variable{A B:Prop}{c:Prop}[Decidable c]
theorem cE(h1:c->A)(h2:¬c->B):if decide c=true then A else B:=by
 by_cases h:c
 ·rw[if_pos (decide_eq_true h)];exact h1 h
 ·rw[if_neg (by simpa using h)];exact h2 h
theorem aH8(h1:¬c->A)(h2:c->B):if (!decide c)=true then A else B:=by
 by_cases h:c
 ·rw[if_neg (by simpa using h)];exact h2 h
 ·rw[if_pos (by simpa using h)];exact h1 h
theorem iW{b:Bool}(h1:b=true->A)(h2:b=false->B):if b=true then A else B:=by
 cases b
 ·exact aOg (h2 rfl)
 ·exact aOh (h1 rfl)
end
def aNe(sc:Scope)(NX:List Str)(scope:Scope)(N:List Str)(k:Nat)(idx:List Nat):Bool:=
 scope.names.all (λy=>!(y.2 == .cell)) && scope.names.all (λy=>!(y.2 == .local) || scope.names.lookup y.1 == some .local) &&
 scope.names.all (λy=>!(y.2 == .free) || (sc.names.lookup y.1 == some .cell || sc.names.lookup y.1 == some .free)) &&
 decide N.Nodup && decide (N.length=k+idx.length) && (List.range idx.length).all λi=>
  match (N.drop k)[i]?,idx[i]? with
  |some x,some j=>decide (NX[j]?=some x) && scope.names.lookup x == some .free
  |_,_=>false
theorem dA{X:Cx}{scope:Scope}{k:Nat}{idx:List Nat}(hsc:X.env.scope=sc)(hN:X.N=NX)(hk:scope.kind=.function)(h:aNe sc NX scope N k idx=true):eU X scope N k idx:=by
 unfold aNe at h
 simp only[Rl9,decide_eq_true_eq] at h
 obtain⟨⟨⟨⟨⟨h1,h2⟩,h3⟩,h4⟩,h5⟩,h6⟩:=h
 rw[Sm9] at h1 h2 h3 h6
 refine⟨hk,λy hy e=>?_,λy hy e=>?_,λy hy e=>?_,h4,h5,λi x e=>?_⟩
 ·have:=h1 y hy
  rw[e] at this
  simp at this
 ·have:=h2 y hy
  rw[e] at this
  simpa using this
 ·have:=h3 y hy
  rw[e] at this
  show X.env.scope.names.lookup y.1=_\/X.env.scope.names.lookup y.1=_
  rw[hsc]
  simpa using this
 ·have hi:i < (N.drop k).length:=(uS.mp e).1
  have hi2:i < idx.length:=by rw[Tq9] at hi;omega
  have q:=h6 i (Rx9.mpr hi2)
  rw[e,fH hi2] at q
  simp only[Rl9,decide_eq_true_eq] at q
  exact⟨idx[i],fH hi2,by rw[hN];exact q.1,by simpa using q.2⟩
theorem bG{H:Hp}{a b:Addr}{o:HO}(h':H b=none)(h:H a=some o):a≠b:=bI h h'
theorem aQ.at(e:aQ H H')(h:H b=some o):H' b=some o:=e b o h
def bM(p:Addr)(H H':Hp):Prop:=∀b o,H b=some o->b≠p->H' b=some o
theorem bM.at(e:bM p H H')(h:H b=some o)(n:b≠p):H' b=some o:=e b o h n
theorem aQ.new{H:Hp}{p:Addr}{o:HO}(h:H p=none):aQ H (upd H p o):=λb u e=>by rw[aU (bI e h)];exact e
theorem bM.upd:bM p H (upd H p o):=λb u e n=>by rw[aU n];exact e
theorem bM.trans(a:bM p H H1)(b:bM p H1 H2):bM p H H2:=λc o h n=>b c o (a c o h n) n
theorem aQ.keep(a:aQ H H'):bM p H H':=λc o h _=>a c o h
end L2
namespace L2
open PySem PySem.Spec PyProof.Rows
section
variable{σ:St}{H:Hp}{nx bk ct:St->Hp->Prop}{rt:VK}
theorem iX{t u:TS}(J:St->Hp->Prop)(h1:∀N:St->Hp->Prop,(∀σ' H',J σ' H'->N σ' H')->t ⟨N,rt,bk,ct⟩ σ H)(h2:∀σ' H',J σ' H'->u ⟨nx,rt,bk,ct⟩ σ' H'):aJD t u ⟨nx,rt,bk,ct⟩ σ H:=h1 _ h2
end
theorem aAV{K:W.Frag}{a:Addr}{xs:List V}{σ₀:St}{g:TG}{tt:TT}{te:TE}{R:List V->Hp->Prop}{H:Hp}(f:V->V)(hS:bS K H a xs)(hz:xs.length<=sizeLine)
  (hs:∀x (N:V->Hp->Prop) (N':Hp->Prop),x∈xs->N (f x) H->g x σ₀ H λσ2 H2=>tt σ2 H2 λb H3=>if b=true then te σ2 H3 λy H4=>N y H4 else N' H3)
  (hd:R (xs.map f) H):rO (Itl K a) σ₀ g tt te R H:=by
 refine jL (λi ys H'=>H'=H/\ys=(xs.take i).map f) ⟨rfl,by simp⟩ hz (λi ys H' hi ⟨e1,e2⟩=>?_) (λi x ys H' hx ⟨e1,e2⟩=>?_) (λys H' ⟨e1,e2⟩=>?_)
 ·subst e1 e2
  exact⟨hS,by simp;omega⟩
 ·subst e1 e2
  refine hs x (λy H4=>H4=H'/\(xs.take i).map f ++ [y]=(xs.take (i+1)).map f) (λH3=>H3=H'/\(xs.take i).map f=(xs.take (i+1)).map f) (vD hx) ⟨rfl,?_⟩
  rw[Sb9,hx,xY]
  rfl
 ·subst e1 e2
  rw[Rc9]
  exact hd
theorem aHd{lo:Int}{n:Nat}{g:TG}{R:List V->Hp->Prop}(f:Nat->V)(hz:n<=sizeLine)(hs:∀i (N:V->Hp->Prop) (N':Hp->Prop),i < n->N (f i) H->g (.int (lo+i)) σ₀ H λσ2 H2=>tt σ2 H2 λb H3=>if b=true then te σ2 H3 λy H4=>N y H4 else N' H3)(hd:R ((List.range n).map f) H):rO (Itr lo n) σ₀ g tt te R H:=by
 refine oX (λi ys H'=>H'=H/\ys=(List.range i).map f) ⟨rfl,by simp⟩ hz (λi ys H' hi ⟨e1,e2⟩=>?_) (λi ys H' hi ⟨e1,e2⟩=>?_) (λys H' ⟨e1,e2⟩=>?_)
 ·subst e1 e2
  simp
 ·subst e1 e2
  refine hs i (λy H4=>H4=H'/\(List.range i).map f ++ [y]=(List.range (i+1)).map f) (λH3=>H3=H'/\(List.range i).map f=(List.range (i+1)).map f) hi ⟨rfl,?_⟩
  rw[List.range_succ,xY]
  rfl
 ·subst e1 e2
  exact hd
theorem aMq{X:Cx}{n:Int}(hg:Gl X x)(hm:∃t,X.mg x=some (.int n t))(hd:(x == ("__debug__" : Str))=false:=by decide):PE X (.Name x pos) (tC (.int n)):=by
 obtain⟨t,hm⟩:=hm
 exact aHX (v:=.int n) hg hm ⟨t,rfl⟩ hd
section
variable{X:Cx}{K:W.Frag}{H:Hp}{Q:VK}
def sD(K:W.Frag):List V->Hp->VK->Prop:=λxs H Q=>∃x n,xs=[x]/\aPc K x H n/\Q (.int n) H
theorem cL:eN X (.builtin "len") (sD X.K):=aJR
theorem aMr{xs:List V}(h:bS K H p xs)(q:Q (.int xs.length) H):sD K [.ref p] H Q:=⟨_,_,rfl,.inl ⟨_,h,rfl⟩,q⟩
theorem aMs{xs:List V}(h:mX K H p xs)(q:Q (.int xs.length) H):sD K [.ref p] H Q:=⟨_,_,rfl,.inr ⟨_,h,rfl⟩,q⟩
def aPB:List V->Hp->VK->Prop:=λxs H Q=>∃i,xs=[.int i]/\Q (.int (if i < 0 then -i else i)) H
theorem aEc:eN X (.builtin "abs") aPB:=aJQ
theorem aOC{i:Int}(h:Q (.int (if i < 0 then -i else i)) H):aPB [.int i] H Q:=⟨i,rfl,h⟩
def aPC:List V->Hp->VK->Prop:=λxs H Q=>∃i j,xs=[.int i,.int j]/\Q (.int (if j > i then j else i)) H
theorem oQ(hc:X.calm=true):eN X (.builtin "max") aPC:=aIM hc
theorem aOD{i j:Int}(h:Q (.int (max i j)) H):aPC [.int i,.int j] H Q:=⟨i,j,rfl,by
 rw[show(if j > i then j else i)=max i j by split <;> omega];exact h⟩
def aPD:List V->Hp->VK->Prop:=λxs H Q=>∃i j,xs=[.int i,.int j]/\Q (.int (if j < i then j else i)) H
theorem oR(hc:X.calm=true):eN X (.builtin "min") aPD:=aIN hc
theorem aOE{i j:Int}(h:Q (.int (min i j)) H):aPD [.int i,.int j] H Q:=⟨i,j,rfl,by
 rw[show(if j < i then j else i)=min i j by split <;> omega];exact h⟩
def aNf:List V->Hp->VK->Prop:=λxs H Q=>(∃i,xs=[.int i]/\Q (.int i) H)\/∃k,xs=[.bl k]/\Q (.int (if k then 1 else 0)) H
theorem aEd:eN X (.type "int") aNf:=aIO
theorem aMt{b:Bool}(h:Q (.int (if b then 1 else 0)) H):aNf [.bl b] H Q:=.inr ⟨b,rfl,h⟩
def aEJ(K:W.Frag):List V->Hp->VK->Prop:=λxs H Q=>∃x c b,xs=[x,c]/\IsI K H x c b/\Q (.bl b) H
theorem kW:eN X (.builtin "isinstance") (aEJ X.K):=aKh
theorem y6{b:Bool}(h1:IsI K H x c b)(h:Q (.bl b) H):aEJ K [x,c] H Q:=⟨x,c,b,rfl,h1,h⟩
def pY(K:W.Frag):List V->Hp->VK->Prop:=λxs H Q=>∃p ys,xs=[.ref p]/\(bS K H p ys\/mX K H p ys)/\∀l,H l=none->Q (.ref l) (upd H l (.lst ys))
theorem kX:eN X (.type "list") (pY X.K):=aED
theorem sE(h1:bS K H p ys)(h:∀l,H l=none->Q (.ref l) (upd H l (.lst ys))):pY K [.ref p] H Q:=⟨p,ys,rfl,.inl h1,h⟩
end
theorem aEK{K:W.Frag}{H:Hp}{p q:Addr}{xs:List V}(h1:bS K H p xs)(h2:bS K H q []):EqN K H 8 (.ref p) (.ref q) xs.isEmpty:=
 .inr ⟨p,q,xs,[],λ_=>true,rfl,rfl,.inl ⟨h1,h2⟩,λj u v _ e=>by simp at e,by cases xs <;> simp⟩
theorem aKo{xs:List V}{n:Nat}(h:xs.length<=n):pV xs none (some (n:Int))=xs:=by
 unfold pV
 rw[HT.aFP,HT.aH3,Nat.min_eq_right h,List.drop_zero,Nat.sub_zero,Rc9]
end L2
namespace L2
open PySem PySem.Spec PyProof.Rows
section
variable{σ:St}{H:Hp}{nx:St->Hp->Prop}{rt:VK}{g:TG}{tb:TS}{Q:VK}
theorem sF{lo:Int}{n:Nat}(Pv:Nat->St->Hp->Prop)(h0:Pv 0 σ H)
  (hs:∀i σ H,i < n->Pv i σ H->g (.int (lo+i)) σ H λσ2 H2=>tb ⟨Pv (i+1),rt,nx,Pv (i+1)⟩ σ2 H2) (hd:∀σ H,Pv n σ H->nx σ H) :
  ∃W:Nat->Nat->St->Hp->Prop,(∃m,W 0 m σ H)/\∀i m σ H,W i m σ H->
   ((Itr lo n).stop i H/\nx σ H)\/((Itr lo n).go i H/\∃N:St->Hp->Prop,(∀σ' H',N σ' H'->∃m',m' < m/\W (i+1) m' σ' H')/\∀x H',(Itr lo n).yld i H x H'->g x σ H' λσ2 H2=>tb ⟨N,rt,nx,N⟩ σ2 H2):=
 aIL (D:=⟨nx,rt,λ_ _=>False,λ_ _=>False⟩) Pv h0 hs hd
theorem aB8{K:W.Frag}{a:Addr}{xs:List V}(Pv:Nat->St->Hp->Prop)(h0:Pv 0 σ H)(hl:∀i σ H,i<=xs.length->Pv i σ H->bS K H a xs)
  (hs:∀i x σ H,xs[i]?=some x->Pv i σ H->g x σ H λσ2 H2=>tb ⟨Pv (i+1),rt,nx,Pv (i+1)⟩ σ2 H2) (hd:∀σ H,Pv xs.length σ H->nx σ H) :
  ∃W:Nat->Nat->St->Hp->Prop,(∃m,W 0 m σ H)/\∀i m σ H,W i m σ H->
   ((Itl K a).stop i H/\nx σ H)\/((Itl K a).go i H/\∃N:St->Hp->Prop,(∀σ' H',N σ' H'->∃m',m' < m/\W (i+1) m' σ' H')/\∀x H',(Itl K a).yld i H x H'->g x σ H' λσ2 H2=>tb ⟨N,rt,nx,N⟩ σ2 H2):=
 aJM (D:=⟨nx,rt,λ_ _=>False,λ_ _=>False⟩) Pv h0 hl hs hd
theorem aOF{K:W.Frag}{a:Addr}{xs:List V}(Pv:Nat->St->Hp->Prop)(h0:Pv 0 σ H)(hl:∀i σ H,i<=xs.length->Pv i σ H->mX K H a xs)
  (hs:∀i x σ H,xs[i]?=some x->Pv i σ H->g x σ H λσ2 H2=>tb ⟨Pv (i+1),rt,nx,Pv (i+1)⟩ σ2 H2) (hd:∀σ H,Pv xs.length σ H->nx σ H) :
  ∃W:Nat->Nat->St->Hp->Prop,(∃m,W 0 m σ H)/\∀i m σ H,W i m σ H->
   ((Itt K a).stop i H/\nx σ H)\/((Itt K a).go i H/\∃N:St->Hp->Prop,(∀σ' H',N σ' H'->∃m',m' < m/\W (i+1) m' σ' H')/\∀x H',(Itt K a).yld i H x H'->g x σ H' λσ2 H2=>tb ⟨N,rt,nx,N⟩ σ2 H2):=
 aLJ (D:=⟨nx,rt,λ_ _=>False,λ_ _=>False⟩) Pv h0 hl hs hd
theorem aOG{K:W.Frag}{i j:Int}(h:Q (.bl (decide (i=j))) H):mZ K (.int i) (.int j) H Q:=⟨_,.inl ⟨rfl,rfl,rfl⟩,h⟩
theorem aOH{K:W.Frag}{i j:Int}(h:Q (.bl (!decide (i=j))) H):aHb K (.int i) (.int j) H Q:=⟨_,.inl ⟨rfl,rfl,rfl⟩,h⟩
end
end L2
namespace L2
open PySem PySem.Spec PyProof.Rows
def noStar:Expr->Bool
 |.Starred _ _=>false
 |_=>true
theorem bO(h:noStar e=true):starEach (e::es) env=(false,eval e env)::starEach es env:=by
 cases e <;> first|rfl|exact absurd h Qp9
theorem jY:∀{es:List Expr},es.all noStar=true->(backTo pos (starEach es env)).any (·.1)=false
 |[],_=>rfl
 |e::es,h=>by
  rw[List.all_cons,Rl9] at h
  rw[bO h.1]
  have ih:=jY (env:=env) (pos:=pos) h.2
  unfold backTo at ih ⊢
  rw[Rb9,List.any_cons]
  rw[ih]
  rfl
section
variable{X:Cx}{CX:CXT}{k:Nat}{f C:Addr}{fd:FuncData}{ps:List Str}{sp:Sp}{dvs:List V}{ds:List Value}{E:XK}{x m:Str}{p pos apos:Pos}{e o:Expr}{es:List Expr}{ta te:TE}{t:TA}
theorem iR(ha:PE X e te)(hr:PA X es t)(hs:noStar e=true:=by rfl):PA X (e::es) (bJ te t):=aLP ha hr (bO hs)
theorem iP{es:List Expr}(h:(e::es).all noStar=true):noStar e=true/\es.all noStar=true:=by
 rw[List.all_cons,Rl9] at h
 exact h
theorem aKp(F:bP X.prog X.w X.K X.mg X.base CX k f fd ps sp)(hr:eO k X.A)(hg:Gl X x)(hm:X.mg x=some (.ref f))(hk:W.keepIn X.K (.ref f)=true)(hb:Binds X.K fd ps ds)(hd:Vals dvs ds)(hx:Passes CX X E)
  (ha:PA X (e::es) t) (hn:(e::es).all noStar=true:=by rfl) (hdb:(x == ("__debug__" : Str))=false:=by decide):PE X (.Call (.Name x p) (e::es) [] pos) (aFM sp dvs E t):=
 aLQ F hr hg hm hk hb hd hx ha hdb (bO (iP hn).1) (jY (iP hn).2)
theorem aKq(M:Mk X.K C f)(F:bP X.prog X.w X.K X.mg X.base CX k f fd ps sp)(hr:eO (k+1) X.A)(hg:Gl X x)(hm:X.mg x=some (.ref C))(hb:Binds X.K fd ps ds)(hd:Vals dvs ds)(hx:Passes CX X E)
  (ha:PA X (e::es) t) (hn:(e::es).all noStar=true:=by rfl) (hdb:(x == ("__debug__" : Str))=false:=by decide):PE X (.Call (.Name x p) (e::es) [] pos) (aFN C sp dvs E t):=
 aLS M F hr hg hm hb hd hx ha hdb (bO (iP hn).1) (jY (iP hn).2)
variable{id T:String}{r:List V->Hp->VK->Prop}
theorem aI3(hc:eN X (.builtin id) r)(hg:Gl X x)(hm:X.mg x=none)(hv:bootBuiltins x=some (.builtin id))(ha:PA X (e::es) t)(hn:(e::es).all noStar=true:=by rfl)(hne:x≠"__name__":=by decide)(hdb:(x == ("__debug__" : Str))=false:=by decide) :
  PE X (.Call (.Name x p) (e::es) [] pos) (tCB r t):=aJX hc hg hm hv ha hne hdb (bO (iP hn).1) (jY (iP hn).2)
theorem aHe(hc:eN X (.type T) r)(hg:Gl X x)(hm:X.mg x=none)(hv:bootBuiltins x=some (.type T))(ha:PA X (e::es) t)(hn:(e::es).all noStar=true:=by rfl)(hne:x≠"__name__":=by decide)(hdb:(x == ("__debug__" : Str))=false:=by decide) :
  PE X (.Call (.Name x p) (e::es) [] pos) (tCB r t):=aIS hc hg hm hv ha hne hdb (bO (iP hn).1) (jY (iP hn).2)
variable{tg a b:Expr}
theorem aHf(hg:Gl X "range")(hm:X.mg "range" = none)(ha:PA X [a] t)(hn:noStar a=true:=by rfl):PI X tg (.Call (.Name "range" p) [a] [] pos) (aH0 t):=aII hg hm ha (bO hn)
theorem aHg(hg:Gl X "range")(hm:X.mg "range" = none)(ha:PA X [a,b] t)(hn:noStar a=true:=by rfl)(hn2:noStar b=true:=by rfl):PI X tg (.Call (.Name "range" p) [a,b] [] pos) (aH1 t):=
 aIJ hg hm ha (by rw[bO hn,bO hn2];rfl) (bO hn2)
end
end L2
namespace L2
open PySem PySem.Spec PyProof.Rows
section
variable{X:Cx}{pos:Pos}{x1:Nat}{e1 e2 e3 e4 e5 e6 e7 e8:Expr}{t1 t2 t3 t4 t5 t6 t7 t8:TE}
theorem aPW(h1:PE X e1 t1)(n1:noStar e1=true:=by rfl):PE X (.List [e1] pos) (yY (bJ t1 oW)):=yZ (iR h1 rN n1)
theorem aPX(h1:PE X e1 t1)(h2:PE X e2 t2)(n1:noStar e1=true:=by rfl)(n2:noStar e2=true:=by rfl):PE X (.List [e1,e2] pos) (yY (bJ t1 (bJ t2 oW))):=yZ (iR h1 (iR h2 rN n2) n1)
theorem aPY{k1}(h1:PE X e1 t1)(h2:PE X e2 t2)(n1:noStar e1=true:=by rfl)(n2:noStar e2=true:=by rfl):PE X (.Tuple [e1,e2] k1 pos) (aFL (bJ t1 (bJ t2 oW))):=aG2 (iR h1 (iR h2 rN n2) n1)
theorem aPZ(h1:PE X e1 t1)(h2:PE X e2 t2)(h3:PE X e3 t3)(n1:noStar e1=true:=by rfl)(n2:noStar e2=true:=by rfl)(n3:noStar e3=true:=by rfl):PE X (.List [e1,e2,e3] pos) (yY (bJ t1 (bJ t2 (bJ t3 oW)))):=yZ (iR h1 (iR h2 (iR h3 rN n3) n2) n1)
theorem aP0{k1}(h1:PE X e1 t1)(h2:PE X e2 t2)(h3:PE X e3 t3)(n1:noStar e1=true:=by rfl)(n2:noStar e2=true:=by rfl)(n3:noStar e3=true:=by rfl):PE X (.Tuple [e1,e2,e3] k1 pos) (aFL (bJ t1 (bJ t2 (bJ t3 oW)))):=aG2 (iR h1 (iR h2 (iR h3 rN n3) n2) n1)
theorem aP1(h1:PE X e1 t1)(h2:PE X e2 t2)(h3:PE X e3 t3)(h4:PE X e4 t4)(n1:noStar e1=true:=by rfl)(n2:noStar e2=true:=by rfl)(n3:noStar e3=true:=by rfl)(n4:noStar e4=true:=by rfl):PE X (.List [e1,e2,e3,e4] pos) (yY (bJ t1 (bJ t2 (bJ t3 (bJ t4 oW))))):=yZ (iR h1 (iR h2 (iR h3 (iR h4 rN n4) n3) n2) n1)
theorem aP2{k1}(h1:PE X e1 t1)(h2:PE X e2 t2)(h3:PE X e3 t3)(h4:PE X e4 t4)(n1:noStar e1=true:=by rfl)(n2:noStar e2=true:=by rfl)(n3:noStar e3=true:=by rfl)(n4:noStar e4=true:=by rfl):PE X (.Tuple [e1,e2,e3,e4] k1 pos) (aFL (bJ t1 (bJ t2 (bJ t3 (bJ t4 oW))))):=aG2 (iR h1 (iR h2 (iR h3 (iR h4 rN n4) n3) n2) n1)
theorem aP3(h1:PE X e1 t1)(h2:PE X e2 t2)(h3:PE X e3 t3)(h4:PE X e4 t4)(h5:PE X e5 t5)(n1:noStar e1=true:=by rfl)(n2:noStar e2=true:=by rfl)(n3:noStar e3=true:=by rfl)(n4:noStar e4=true:=by rfl)(n5:noStar e5=true:=by rfl):PE X (.List [e1,e2,e3,e4,e5] pos) (yY (bJ t1 (bJ t2 (bJ t3 (bJ t4 (bJ t5 oW)))))):=yZ (iR h1 (iR h2 (iR h3 (iR h4 (iR h5 rN n5) n4) n3) n2) n1)
theorem aP4(h1:PE X e1 t1)(h2:PE X e2 t2)(h3:PE X e3 t3)(h4:PE X e4 t4)(h5:PE X e5 t5)(h6:PE X e6 t6)(h7:PE X e7 t7)(n1:noStar e1=true:=by rfl)(n2:noStar e2=true:=by rfl)(n3:noStar e3=true:=by rfl)(n4:noStar e4=true:=by rfl)(n5:noStar e5=true:=by rfl)(n6:noStar e6=true:=by rfl)(n7:noStar e7=true:=by rfl):PE X (.List [e1,e2,e3,e4,e5,e6,e7] pos) (yY (bJ t1 (bJ t2 (bJ t3 (bJ t4 (bJ t5 (bJ t6 (bJ t7 oW)))))))):=yZ (iR h1 (iR h2 (iR h3 (iR h4 (iR h5 (iR h6 (iR h7 rN n7) n6) n5) n4) n3) n2) n1)
end
end L2
namespace L2
open PySem PySem.Spec PyProof.Rows
section
variable{X:Cx}{pins:List (Addr×Obj)}{σ:St}{H:Hp}{s:Shared}{h':Heap}
theorem Inv.aAW{t':Nat}{ch:List Addr}{T:Addr}{o:HO}(I:Inv X pins σ H s)(k:∀b u,b∉ch->s.heap.get? b=some u->h'.get? b=some u)
  (hch:∀b∈ch,zO X pins H b) (hT:s.heap.objs.size<=T) (new:bW X.prog X.w (upd H T o) h' T o):Inv X pins σ (upd H T o) { s with heap:=h',toks:=t' }:=by
 have hn:H T=none:=I.hok.fresh hT
 have nit:∀b u,H b=some u->b∉ch:=λb u e z=>by rw[(hch b z).1] at e;cases e
 have neT:∀b u,H b=some u->b≠T:=λb u e=>bI e hn
 refine I.step (g':=s.gens) (d':=s.drawn) (ch:=ch) (λb hb=>?_) (λb u _ _ hc e _=>k b u hc e) (λb u _ _ hc e _=>⟨u.slots,k b u hc e⟩) (λb u hc e n=>?_)
  (λb u hc e=>⟨u,k b u hc e⟩) (λb xs e=>?_) (λb u v e=>?_) (λb ps e=>⟨#[],?_⟩) (λm hm=>?_) (λb u e=>?_) I.bare
 ·obtain⟨f0,f1,f2,f3,f4,f5⟩:=hch b hb
  exact⟨f3,f1,f4,f5⟩
 ·rw[aU (vE (yV (jU e) hT))];exact n
 ·rw[aU (neT _ _ e)];exact e
 ·rw[aU (neT _ _ e)];exact e
 ·rw[aU (neT _ _ e),e];simp
 ·obtain⟨u,es,ep,ho,r⟩:=hm
  exact⟨u,es,ep,k _ u (λz=>(hch _ z).2.1 rfl) ho,r⟩
 ·by_cases hb:b=T
  ·subst hb;rw[aL] at e;cases e;exact new
  ·rw[aU hb] at e
   refine(I.hok b u e).aCd (λc v hc q=>k c v ?_ q) (λc q=>by rw[aU (bI q hn)];exact q) λc xs _ q=>by rw[aU (bI q hn)];exact q
   rcases hc with z|z
   ·rw[z];exact nit b u e
   ·exact nit c _ z
end
def Ite(K:W.Frag)(a:Addr):It:=
 ⟨λi H=>∃xs x,bS K H a xs/\xs[i]?=some x,λi H x H'=>∃T v,H T=none/\x=.ref T/\H'=upd H T (.tup [.int i,v])/\∀xs,bS K H a xs->xs[i]?=some v,λi H=>∃xs,bS K H a xs/\xs.length<=i⟩
theorem aI4{P:Program}{w:World}{K:W.Frag}{elts:List Expr}{x1:Nat}{tp:Pos}(a e it:Addr)(hei:e≠it) :
  Turn P w K (.Tuple elts x1 tp) (Ite K a) [e,it] e (λi h=>(∃old,IsEnum h e it ((i:Nat):Int) old)/\h.IsListIter it a i) where
 mem:=by simp
 obj:=λi h st b hb=>by
  obtain⟨⟨old,he⟩,st⟩:=st
  rcases xJ.mp hb with z|hb
  ·subst z
   exact⟨_,he,λv z=>by cases z⟩
  ·have z:b=it:=by simpa using hb
   subst z
   obtain⟨o,e,c,d⟩:=st
   exact⟨o,e,λv z=>by rw[d] at z;cases z⟩
 keep:=λi h h' st k=>by
  obtain⟨⟨old,he⟩,st⟩:=st
  exact⟨⟨old,k e (by simp) _ he⟩,st.at λo q=>k it (by simp) o q⟩
 item:=by
  intro X hP hw hK hc i pins s σ H E I hf st hg
  subst hP hw hK
  obtain⟨⟨old,he⟩,st⟩:=st
  obtain⟨xs,x,hq,hx⟩:=hg
  obtain⟨its,rv,p,hz⟩:=I.list hq
  obtain⟨u,hu,ru⟩:=rv.get hx
  have helt:e < s.heap.objs.size:=jU he
  have hilt:it < s.heap.objs.size:=by obtain⟨_,z,_⟩:=id st;exact jU z
  refine wpAny_pyNext_enum_item he st p.isList (x:=u) (by simpa using hu) hei λh1 ho hit1 hT hsz hk=>?_
  refine⟨_,rfl,wpAny_letOwnedTupleGo_enum ho λh2 he2 hs2=>?_⟩
  replace hs2:Heap.SameBut e h1 h2:=hs2
  have hT2:h2.IsTuple s.heap.objs.size #[.int i s.toks,u]:=⟨_,(hs2.2 _ (Sg9 helt)).trans hT,rfl,_,rfl⟩
  have kk:∀b o,b∉[e,it]->s.heap.get? b=some o->h2.get? b=some o:=λb o hb q=>by
   have n1:b≠e:=λz=>hb (by simp[z])
   have n2:b≠it:=λz=>hb (by simp[z])
   exact(hs2.2 b n1).trans (hk b o n1 n2 q)
  have I2:Inv X pins σ (upd H s.heap.objs.size (.tup [.int i,x])) { s with heap:=h2,toks:=s.toks+1 }:=
   I.aAW kk hf (fJ _) (show bW X.prog X.w _ h2 _ (.tup [.int i,x]) from⟨cZ (by simp),[.int i s.toks,u],.cons ⟨_,rfl⟩ (.cons ru .nil),hT2⟩)
  have hfr:H s.heap.objs.size=none:=I.hok.fresh (fJ _)
  refine⟨.ref s.heap.objs.size,_,I2,rfl,⟨_,x,hfr,rfl,rfl,λys hy=>by rw[I.aCf hy hq];exact hx⟩,⟨⟨u,?_⟩,?_⟩,λb hb=>?_⟩
  ·have e1:((i+1:Nat):Int)=(i:Int)+1:=by push_cast;rfl
   rw[e1]
   exact he2
  ·exact hit1.at λo q=>(hs2.2 it hei.symm).trans q
  ·have hlt:b < s.heap.objs.size:=by
    rcases xJ.mp hb with z|hb
    ·rw[z];exact helt
    ·rw[show b=it by simpa using hb];exact hilt
   rw[aU (vE hlt)]
   exact(hf b hb).1
 done:=by
  intro X hP hw hK hc i pins s σ H E I hf st hg
  subst hP hw hK
  obtain⟨⟨old,he⟩,st⟩:=st
  obtain⟨xs,hq,hx⟩:=hg
  obtain⟨its,rv,p,hz⟩:=I.list hq
  obtain⟨f0,f1,f2,f3,f4,f5⟩:=hf it (by simp)
  have hl:=rv.length
  exact wpAny_pyNext_enum_end (I.ok.hd hc) he st p.isList (by simp;omega) λh' eb=>⟨rfl,I.turned (t':=s.toks) (λb o hb e=>eb b o hb e) f0 f1 f3 f4 f5⟩
 self:=λ_ _ _ _ _ st h=>by
  obtain⟨⟨old,he⟩,st⟩:=st
  exact wpAny_pyIter_enum he h
section
variable{X:Cx}{elts:List Expr}{x1:Nat}{tp:Pos}
def aKr(K:W.Frag)(ta:TA):TI:=λσ H R=>ta σ H λvs H1=>∃a,vs=[.ref a]/\(∃xs,bS K H1 a xs)/\R (Ite K a) H1
theorem aMu{a:Expr}{ta:TA}{p pos:Pos}(hg:Gl X "enumerate")(hm:X.mg "enumerate" = none)(ha:PA X [a] ta)(hn:noStar a=true:=by rfl):PI X (.Tuple elts x1 tp) (.Call (.Name "enumerate" p) [a] [] pos) (aKr X.K ta):=by
 intro pins s σ H R I h
 refine Call_ (rM I hg hm boot_enumerate (PyProof.Rows.callWith_type1 (dI (ha pos pins s σ H _ I h) λus s1 ⟨vs,H1,I1,r1,q1⟩=>?_) (bO hn) rfl))
 obtain⟨l,e,⟨xs,hq⟩,q⟩:=q1
 subst e
 obtain⟨u,rfl,ru⟩:=vals1 r1
 cases ru
 obtain⟨its,rv,pl,hz⟩:=I1.list hq
 refine call_enumerate_list pl.isList λh' he hit hsz hk=>?_
 refine wpAny_pyIter_enum he ?_
 refine⟨s1.heap.objs.size+1,[s1.heap.objs.size+1,s1.heap.objs.size],_,_,H1,rfl,I1.kept (t':=s1.toks) hk,aI4 l _ _ (Nat.succ_ne_self _),⟨⟨_,he⟩,hit⟩,λb hb=>?_,q⟩
 have hle:s1.heap.objs.size<=b:=by
  rcases xJ.mp hb with z|hb
  ·rw[z];exact Nat.le_succ _
  ·rw[show b=s1.heap.objs.size by simpa using hb];exact fJ _
 exact I1.aFJ hle (I1.hok.fresh hle)
end
section
variable{σ:St}{H:Hp}{nx:St->Hp->Prop}{rt:VK}{g:TG}{tb:TS}{Q:VK}{K:W.Frag}
def EnQ(K:W.Frag)(R:It->Hp->Prop):List V->Hp->Prop:=λvs H1=>∃a,vs=[.ref a]/\(∃xs,bS K H1 a xs)/\R (Ite K a) H1
def LiQ(K:W.Frag)(R:It->Hp->Prop):V->Hp->Prop:=λx H1=>∃a,x=.ref a/\(∃xs,bS K H1 a xs)/\R (Itl K a) H1
def TiQ(K:W.Frag)(R:It->Hp->Prop):V->Hp->Prop:=λx H1=>∃a,x=.ref a/\(∃xs,mX K H1 a xs)/\R (Itt K a) H1
theorem aKs{R:It->Hp->Prop}(h:ta σ H (EnQ K R)):aKr K ta σ H R:=h
theorem aI5{R:It->Hp->Prop}(h:tl σ H (LiQ K R)):aJL K tl σ H R:=h
theorem aKt{R:It->Hp->Prop}(h:tl σ H (TiQ K R)):aNP K tl σ H R:=h
theorem aF3{R:It->Hp->Prop}(h1:bS K H a xs)(h:R (Ite K a) H):EnQ K R [.ref a] H:=⟨a,rfl,⟨xs,h1⟩,h⟩
theorem pZ{R:It->Hp->Prop}(h1:bS K H a xs)(h:R (Itl K a) H):LiQ K R (.ref a) H:=⟨a,rfl,⟨xs,h1⟩,h⟩
theorem aNg{R:It->Hp->Prop}(h1:mX K H a xs)(h:R (Itt K a) H):TiQ K R (.ref a) H:=⟨a,rfl,⟨xs,h1⟩,h⟩
theorem zV{xs:List V}(Pv:Nat->St->Hp->Prop)(h0:Pv 0 σ H)(hl:∀i σ H,i<=xs.length->Pv i σ H->bS K H a xs)(hs:∀i x σ H T,xs[i]?=some x->Pv i σ H->H T=none->g (.ref T) σ (upd H T (.tup [.int i,x])) λσ2 H2=>tb ⟨Pv (i+1),rt,nx,Pv (i+1)⟩ σ2 H2)(hd:∀σ H,Pv xs.length σ H->nx σ H) :
  ∃W:Nat->Nat->St->Hp->Prop,(∃m,W 0 m σ H)/\∀i m σ H,W i m σ H->
   ((Ite K a).stop i H/\nx σ H)\/((Ite K a).go i H/\∃N:St->Hp->Prop,(∀σ' H',N σ' H'->∃m',m' < m/\W (i+1) m' σ' H')/\∀x H',(Ite K a).yld i H x H'->g x σ H' λσ2 H2=>tb ⟨N,rt,nx,N⟩ σ2 H2):=by
 refine⟨λi m σ H=>m=xs.length - i/\i<=xs.length/\Pv i σ H,⟨xs.length,by simp,Rr9 _,h0⟩,?_⟩
 rintro i m σ H ⟨rfl,hi,p⟩
 have q:=hl i σ H hi p
 by_cases hlt:i < xs.length
 ·refine .inr ⟨⟨xs,xs[i],q,by simp[hlt]⟩,Pv (i+1),λσ' H' p'=>⟨xs.length - (i+1),by omega,rfl,hlt,p'⟩,λx H' y=>?_⟩
  obtain⟨T,v,hT,e1,e2,y⟩:=y
  subst e1 e2
  exact hs i v σ H T (y xs q) p hT
 ·have e:i=xs.length:=by omega
  subst e
  exact .inl ⟨⟨xs,q,fJ _⟩,hd σ H p⟩
end
section
variable{X:Cx}
theorem aCo:∀{bs:List Bool}{us:List Value},Vals (bs.map V.bl) us->us=bs.map Value.bool
 |[],_,.nil=>rfl
 |b::bs,_,.cons r t=>by cases r;rw[aCo t];rfl
def aKu(K:W.Frag):List V->Hp->VK->Prop:=λxs H Q=>∃(p:Addr) (bs:List Bool),xs=[.ref p]/\bS K H p (bs.map V.bl)/\Q (.bl (bs.all id)) H
theorem aAX(hc:X.calm=true):eN X (.builtin "all") (aKu X.K):=by
 intro pins s σ H xs us Q I r h
 obtain⟨p,bs,rfl,hq,q⟩:=h
 obtain⟨u,rfl,rx⟩:=vals1 r
 cases rx
 obtain⟨its,r',pl,hz⟩:=I.list hq
 have e:=aCo r'
 subst e
 have hl:=pl.isList
 have hlt:p < s.heap.objs.size:=by obtain⟨_,e,_⟩:=id hl;exact jU e
 refine call_all_walk (wpAny_pyIter_list hl ?_)
 refine⟨s.heap.objs.size,[s.heap.objs.size,p],[s.heap.objs.size],(bs.map Value.bool).toArray.size,_,_,λi=>(bs[i]?).getD true,rfl,Walks.list (A:=X.A.in1) (I.ok.hd hc) _ p (vE hlt) (bs.map Value.bool).toArray,
  ⟨⟨_,xI _ rfl,rfl,rfl⟩,hl.push _⟩,λi v s' Q' E' hP hQ=>?_,λh' tk hk=>?_⟩
 ·have hP':(bs.map Value.bool)[i]?=some v:=by simpa using hP
  rw[nK] at hP'
  cases hb:bs[i]? with
  |none=>rw[hb] at hP';cases hP'
  |some b=>
   rw[hb] at hP'
   cases hP'
   simp only[hb,Option.getD_some] at hQ
   exact wpAny_truthy_bool hQ
 ·have e:((List.range (bs.map Value.bool).toArray.size).all λi=>(bs[i]?).getD true)=bs.all id:=by
   rw[kU,bZ];exact LSm.range_all bs
  rw[e]
  exact⟨.bl _,H,I.kept (t':=tk) (LSm.kept_iter hk),rfl,q⟩
end
section
variable{X:Cx}{e st:Expr}{te:TE}{ts:TO}{pos p2:Pos}
end
section
variable{X:Cx}{o e:Expr}{to:TE}{t:TA}{apos cpos:Pos}
theorem aOI(ho:PE X o to)(ha:PA X [e] t)(hn:noStar e=true:=by rfl)(hbase:attributeBase o "append" X.env (eval o X.env)=eval o X.env:=by rfl)(hline:(apos.endLine == cpos.line)=true:=by rfl) :
  PE X (.Call (.Attribute o "append" apos) [e] [] cpos) (tBM X.K "list" aB7 to t):=
 aNa PySem.F.plainAttrs_list PySem.F.slot_list_append PySem.F.type_list_append aIT ho ha hbase (by rw[bO hn];rfl) hline (bO hn) (by rfl)
end
section
variable{K:W.Frag}{σ:St}{H:Hp}{Q:VK}
theorem aPE{r:V->List V->Hp->VK->Prop}{t:TA}(h:to σ H λx H1=>tyV K T x H1/\t σ H1 λxs H2=>r x xs H2 Q):tBM K T r to t σ H Q:=h
theorem y7{P:Prop}(h:bS K H p xs)(q:P):tyV K "list" (.ref p) H/\P:=⟨.inl ⟨rfl,xs,h⟩,q⟩
theorem aCp{xs:List V}(h:H l=some (.lst xs))(hz:xs.length < sizeLine)(q:Q .non (upd H l (.lst (xs ++ [y])))):aB7 (.ref l) [y] H Q:=⟨l,xs,y,rfl,rfl,h,hz,q⟩
theorem aOJ:∀(xs ys:List Int),(xs.length == ys.length && (List.range xs.length).all λj=>decide (xs[j]?=ys[j]?))=decide (xs=ys):=by
 intro xs ys
 rw[Bool.eq_iff_iff]
 simp only[Rl9,beq_iff_eq,Sm9,Rx9,decide_eq_true_eq]
 constructor
 ·rintro ⟨hl,h⟩
  apply List.ext_getElem?
  intro i
  by_cases hi:i < xs.length
  ·exact h i hi
  ·rw[Rs9 (by omega),Rs9 (by omega)]
 ·rintro rfl
  exact⟨rfl,λ_ _=>rfl⟩
theorem aKv{n:Nat}{xs ys:List Int}(h:(bS K H p (xs.map V.int)/\bS K H q (ys.map V.int))\/(mX K H p (xs.map V.int)/\mX K H q (ys.map V.int))):EqN K H (n+1) (.ref p) (.ref q) (decide (xs=ys)):=by
 refine .inr ⟨p,q,xs.map V.int,ys.map V.int,λj=>decide (xs[j]?=ys[j]?),rfl,rfl,h,λj u v hu hv=>?_,?_⟩
 ·rw[nK] at hu hv
  cases hx:xs[j]? with
  |none=>rw[hx] at hu;cases hu
  |some a=>
   cases hy:ys[j]? with
   |none=>rw[hy] at hv;cases hv
   |some b=>
    rw[hx] at hu
    rw[hy] at hv
    cases hu
    cases hv
    have z:sA (.int a)=true/\sA (.int b)=true/\(λj=>decide (xs[j]?=ys[j]?)) j=eqV (.int a) (.int b):=by
     refine⟨rfl,rfl,?_⟩
     show decide (xs[j]?=ys[j]?)=decide (a=b)
     rw[hx,hy]
     simp
    cases n with
    |zero=>exact z
    |succ n=>exact .inl z
 ·rw[bZ,bZ]
  exact(aOJ xs ys).symm
theorem aMv{xs ys:List Int}(h1:bS K H p (xs.map V.int))(h2:bS K H q (ys.map V.int))(h:Q (.bl (!decide (xs=ys))) H):aHb K (.ref p) (.ref q) H Q:=⟨_,aKv (.inl ⟨h1,h2⟩),h⟩
end
end L2
namespace L2
open PySem PySem.Spec PyProof.Rows
section
variable{K:W.Frag}{σ:St}{H:Hp}{Q:VK}{nx bk ct:St->Hp->Prop}{rt:VK}
theorem aPF{A B:Prop}(h:B):if (!true)=true then A else B:=aOg h
theorem aPG{A B:Prop}(h:A):if (!false)=true then A else B:=aOh h
theorem aMw{sp:Sp}(h:t σ H λvs H1=>∀x dx,H1 x=none->H1 dx=none->dx≠x->sp (.ref x::vs) (upd (upd H1 dx (.own x)) x (.ins C dx [])) (λv H2=>v=.non/\Q (.ref x) H2) E):aFN C sp [] E t σ H Q:=by
 unfold aFN
 simpa only [Sd9] using h
theorem aMx{t:TA}(h:ta σ H λx H1=>∃a dx fs,x=.ref a/\H1 a=some (.ins C dx fs)/\fs.lookup m=none/\t σ H1 λvs H2=>sp (x::vs) H2 Q E):aH2 C m sp [] E ta t σ H Q:=by
 unfold aH2
 simpa only [Sd9] using h
theorem aMy(h:tv σ H λy H1=>ta σ H1 λx H2=>∃a C dx fs,x=.ref a/\H2 a=some (.ins C dx fs)/\Cls K C/\cX K C f/\fs.length < 1000/\nx σ (upd H2 a (.ins C dx (sV f y fs)))):aNX K ta tv f ⟨nx,rt,bk,ct⟩ σ H:=h
theorem jD{fs:List (Str×V)}{P:Hp->Prop}(h1:H a=some (.ins C dx fs))(c:Cls K C)(n:cX K C f)(hl:fs.length < 1000)(e:sV f y fs=fs')(h:P (upd H a (.ins C dx fs'))) :
  ∃a' C dx fs,V.ref a=V.ref a'/\H a'=some (.ins C dx fs)/\Cls K C/\cX K C f/\fs.length < 1000/\P (upd H a' (.ins C dx (sV f y fs))):=⟨a,C,dx,fs,rfl,h1,c,n,hl,by rw[e];exact h⟩
theorem jE{fs:List (Str×V)}{P:V->Prop}(h1:H a=some (.ins C dx fs))(c:Cls K C)(n:cX K C f)(l:fs.lookup f=some v)(h:P v) :
  ∃a' C dx fs v,V.ref a=V.ref a'/\H a'=some (.ins C dx fs)/\Cls K C/\cX K C f/\fs.lookup f=some v/\P v:=⟨a,C,dx,fs,v,rfl,h1,c,n,l,h⟩
theorem aF4:∀{xs:List V},(∀x∈xs,x=.bl true)->xs=(List.replicate xs.length true).map V.bl
 |[],_=>rfl
 |x::xs,h=>by
  rw[Ra9,Si9,Rb9,<-aF4 (λy hy=>h y (Qn9 _ hy)),h x (Qz9 ..)]
theorem aEL(h1:bS K H p xs)(h2:∀x∈xs,x=.bl true)(h:Q (.bl true) H):aKu K [.ref p] H Q:=by
 refine⟨p,List.replicate xs.length true,rfl,?_,?_⟩
 ·rw[<-aF4 h2];exact h1
 ·rw[show(List.replicate xs.length true).all id=true by simp];exact h
end
end L2
namespace L2
open PySem PySem.Spec PyProof.Rows
section
variable{X:Cx}{pins:List (Addr×Obj)}{σ:St}{H:Hp}{s:Shared}{A:Around}{E:Value->Shared->Prop}{Q:Value->Shared->Prop}{b:Bool}
end
section
variable{X:Cx}{K:W.Frag}{H:Hp}{Q:VK}
def isB:V->V->Option Bool
 |.non,.non=>some true
 |.bl a,.bl b=>some (a == b)
 |.bl _,.non=>some false
 |.int _,.non=>some false
 |.str _,.non=>some false
 |.ref _,.non=>some false
 |_,_=>none
def rIs:R2:=λx y H Q=>∃b,isB x y=some b/\Q (.bl b) H
def aKw:R2:=λx y H Q=>∃b,isB x y=some b/\Q (.bl (!b)) H
theorem aHh:vJ X (compareOp .Is) rIs:=by
 intro pins s σ H x y v u Q I rx ry h
 obtain⟨b,e,q⟩:=h
 have fin:EP X pins σ Q (.bool b) s:=⟨.bl b,H,I,rfl,q⟩
 cases x with
 |non=>cases y with
  |non=>cases e;cases rx;cases ry;exact is_none_gen fin
  |_=>cases e
 |bl a=>cases y with
  |bl c=>cases e;cases rx;cases ry;exact is_bool fin
  |non=>cases e;cases rx;cases ry;exact is_none_gen fin
  |_=>cases e
 |int i=>cases y with
  |non=>cases e;obtain⟨t,rfl⟩:=rx;cases ry;exact is_none_gen fin
  |_=>cases e
 |str i=>cases y with
  |non=>cases e;obtain⟨t,rfl⟩:=rx;cases ry;exact is_none_gen fin
  |_=>cases e
 |ref i=>cases y with
  |non=>cases e;cases rx;cases ry;exact is_none_gen fin
  |_=>cases e
 |_=>cases y <;> cases e
theorem xN:vJ X (compareOp .IsNot) aKw:=by
 intro pins s σ H x y v u Q I rx ry h
 obtain⟨b,e,q⟩:=h
 have fin:EP X pins σ Q (.bool (!b)) s:=⟨.bl (!b),H,I,rfl,q⟩
 cases x with
 |non=>cases y with
  |non=>cases e;cases rx;cases ry;exact isnot_none_gen fin
  |_=>cases e
 |bl a=>cases y with
  |bl c=>cases e;cases rx;cases ry;exact isnot_bool fin
  |non=>cases e;cases rx;cases ry;exact isnot_none_gen fin
  |_=>cases e
 |int i=>cases y with
  |non=>cases e;obtain⟨t,rfl⟩:=rx;cases ry;exact isnot_none_gen fin
  |_=>cases e
 |str i=>cases y with
  |non=>cases e;obtain⟨t,rfl⟩:=rx;cases ry;exact isnot_none_gen fin
  |_=>cases e
 |ref i=>cases y with
  |non=>cases e;cases rx;cases ry;exact isnot_none_gen fin
  |_=>cases e
 |_=>cases y <;> cases e
theorem aPH{b:Bool}(e:isB x y=some b)(h:Q (.bl b) H):rIs x y H Q:=⟨b,e,h⟩
theorem aKx{b:Bool}(e:isB x y=some b)(h:Q (.bl (!b)) H):aKw x y H Q:=⟨b,e,h⟩
end
end L2
namespace L2
open PySem PySem.Spec PyProof.Rows
section
variable{X:Cx}
def aKy(K:W.Frag):List V->Hp->VK->Prop:=λxs H Q=>∃(p:Addr) (ns:List Int),xs=[.ref p]/\bS K H p (ns.map V.int)/\Q (.int (List.sum ns)) H
theorem aAY(hc:X.calm=true):eN X (.builtin "sum") (aKy X.K):=by
 intro pins s σ H xs us Q I r h
 obtain⟨p,ns,rfl,hq,q⟩:=h
 obtain⟨u,rfl,rx⟩:=vals1 r
 cases rx
 obtain⟨its,r',pl,hz⟩:=I.list hq
 have hi:=intsAre_of r'
 obtain⟨xs,hx⟩:=hi.allInts.items
 have hl':s.heap.IsList p (intItems xs):=hx▸pl.isList
 refine sum_intListG (I.ok.hd hc) hl' λh' tk t' hk=>?_
 have e1:ns=xs.toList.map (·.1):=by
  rw[<-nums_intItems,<-hx]
  exact(show numsOf its.toArray.toList=ns from hi.numsOf).symm
 have e2:preSum (numAt xs) xs.size=ns.sum:=by
  rw[preSum_eq,List.take_of_length_le (by simp),e1]
 rw[e2]
 exact⟨.int _,H,I.kept (t':=tk) hk,⟨t',rfl⟩,q⟩
theorem aHi{K:W.Frag}{H:Hp}{Q:VK}{p:Addr}{ns:List Int}(h1:bS K H p (ns.map V.int))(h:Q (.int (List.sum ns)) H):aKy K [.ref p] H Q:=⟨p,ns,rfl,h1,h⟩
end
end L2
namespace L2
open PySem PySem.Spec PyProof.Rows
section
variable{prog:Program}{w:World}{A:Around}{E:Value->Shared->Prop}
end
section
variable{X:Cx}{pos:Pos}
end
end L2
namespace L2
open PySem PySem.Spec PyProof.Rows
section
variable{X:Cx}
def aOK:List V->Hp->VK->Prop:=λxs H Q=>∃i j:Int,xs=[.int i,.int j]/\∀p,H p=none->Q (.ref p) (upd H p (.rng i j))
theorem aI6:eN X (.type "range") aOK:=by
 intro pins s σ H xs us Q I r h
 obtain⟨i,j,rfl,q⟩:=h
 obtain⟨u,w',rfl,rx,ry⟩:=vals2 r
 obtain⟨t,rfl⟩:=rx
 obtain⟨t',rfl⟩:=ry
 refine call_range_2 ?_
 exact⟨.ref s.heap.objs.size,_,I.laid (t':=s.toks+1) (o:=.rng i j) (λb ob q=>kS _ q) (fJ _) ⟨_,_,_,xI _ rfl⟩,rfl,q _ (I.hok.fresh (fJ _))⟩
theorem aOL{H:Hp}{Q:VK}{i j:Int}(h:∀p,H p=none->Q (.ref p) (upd H p (.rng i j))):aOK [.int i,.int j] H Q:=⟨i,j,rfl,h⟩
def upL(lo:Int)(n:Nat):List Int:=(List.range n).map λ(k:Nat)=>lo+(k:Int)
def aHj:List V->Hp->VK->Prop:=λxs H Q=>∃(p:Addr) (lo hi:Int),xs=[.ref p]/\H p=some (.rng lo hi)/\-(2 ^ 62)<=lo/\lo < 2 ^ 62/\-(2 ^ 62)<=hi/\hi < 2 ^ 62/\(hi - lo).toNat<=2 ^ 24/\
 ∀l,H l=none->Q (.ref l) (upd H l (.lst ((upL lo (hi - lo).toNat).map V.int)))
theorem aHk{a:Int}:∀(n:Nat) (its:List Value),its.length=n->(∀(i:Nat) v,its[i]?=some v->∃t,v=Value.int (a+(i:Int)) t)->Vals ((upL a n).map V.int) its:=by
 intro n
 induction n generalizing a with
 |zero=>
  intro its hl _
  rw[List.length_eq_zero_iff.mp hl]
  exact .nil
 |succ n ih=>
  intro its hl h
  cases its with
  |nil=>cases hl
  |cons v its=>
   have e:upL a (n+1)=a::upL (a+1) n:=by
    unfold upL
    rw[List.range_succ_eq_map,Rb9,Rk9]
    congr 1
    ·simp
    ·apply Sj9
     intro k _
     show a+((k+1:Nat):Int)=a+1+(k:Int)
     push_cast;omega
   rw[e,Rb9]
   obtain⟨t,ht⟩:=h 0 v rfl
   refine .cons ⟨t,by rw[ht];simp⟩ (ih its (by simpa using hl) λi w hw=>?_)
   obtain⟨t',ht'⟩:=h (i+1) w (by simpa using hw)
   exact⟨t',by rw[ht'];congr 1;push_cast;omega⟩
theorem aHl(hc:X.calm=true):eN X (.type "list") aHj:=by
 intro pins s σ H xs us Q I r h
 obtain⟨p,lo,hi,rfl,hp,b1,b2,b3,b4,hz,q⟩:=h
 obtain⟨u,rfl,rx⟩:=vals1 r
 cases rx
 obtain⟨t,t',t'',hr⟩:=(show bW X.prog X.w H s.heap p (.rng lo hi) from I.hok p _ hp)
 refine call_list_range (n:=(hi - lo).toNat) (I.ok.hd hc) hr (small_one b1 b2 b3 b4) (by rw[rangeSize_one];split <;> omega) hz λh' tk acc' c' hk hS ha=>?_
 have hv:Vals ((upL lo (hi - lo).toNat).map V.int) acc'.toList:=aHk _ _ (by simpa using ha.1) λi v hv=>by
  obtain⟨t,ht⟩:=ha.2 i v (by simpa using hv)
  exact⟨t,by rw[ht,Ta9]⟩
 have hl:((upL lo (hi - lo).toNat).map V.int).length<=sizeLine:=by
  unfold upL
  rw[bZ,bZ,Tk9]
  exact cZ hz
 exact⟨.ref s.heap.objs.size,_,I.laid (t':=tk) (o:=.lst ((upL lo (hi - lo).toNat).map V.int)) hk (fJ _) ⟨hl,acc'.toList,c',hv,hS⟩,rfl,q _ (I.hok.fresh (fJ _))⟩
theorem aKz{H:Hp}{Q:VK}{lo hi:Int}(hp:H p=some (.rng lo hi))(h1:-(2 ^ 62)<=lo/\lo < 2 ^ 62/\-(2 ^ 62)<=hi/\hi < 2 ^ 62)(hz:(hi - lo).toNat<=2 ^ 24)(h:∀l,H l=none->Q (.ref l) (upd H l (.lst ((upL lo (hi - lo).toNat).map V.int)))):aHj [.ref p] H Q:=
 ⟨p,lo,hi,rfl,hp,h1.1,h1.2.1,h1.2.2.1,h1.2.2.2,hz,h⟩
end
section
variable{X:Cx}{pins:List (Addr×Obj)}{σ:St}{H:Hp}{s:Shared}{h':Heap}
theorem Inv.aI7{t':Nat}{ch:List Addr}(I:Inv X pins σ H s)(k:∀b u,b∉ch->s.heap.get? b=some u->h'.get? b=some u)
  (hch:∀b∈ch,zO X pins H b):Inv X pins σ H { s with heap:=h',toks:=t' }:=by
 have nit:∀b u,H b=some u->b∉ch:=λb u e z=>by rw[(hch b z).1] at e;cases e
 refine I.step (g':=s.gens) (d':=s.drawn) (ch:=ch) (λb hb=>?_) (λb u _ _ hc e _=>k b u hc e) (λb u _ _ hc e _=>⟨u.slots,k b u hc e⟩) (λb u hc e n=>n)
  (λb u hc e=>⟨u,k b u hc e⟩) (λb xs e=>e) (λb u v e=>e) (λb ps e=>⟨#[],by rw[e];simp⟩) (λm hm=>?_) (λb u e=>?_) I.bare
 ·obtain⟨f0,f1,f2,f3,f4,f5⟩:=hch b hb
  exact⟨f3,f1,f4,f5⟩
 ·obtain⟨u,es,ep,ho,r⟩:=hm
  exact⟨u,es,ep,k _ u (λz=>(hch _ z).2.1 rfl) ho,r⟩
 ·refine(I.hok b u e).aCd (λc v hc q=>k c v ?_ q) (λc q=>q) λc xs _ q=>q
  rcases hc with z|z
  ·rw[z];exact nit b u e
  ·exact nit c _ z
end
section
variable{X:Cx}{elts:List Expr}{x1:Nat}{tp:Pos}
theorem aOM:bootBuiltins "zip" = some (.type "zip"):=by decide +kernel
end
section
variable{σ:St}{H:Hp}{nx:St->Hp->Prop}{rt:VK}{g:TG}{tb:TS}{Q:VK}{K:W.Frag}
end
end L2
namespace L2
open PySem PySem.Spec PyProof.Rows
section
variable{X:Cx}{e:Expr}{te:TE}
end
end L2
namespace L2.Z
open PySem PySem.Spec PyProof.Rows L2
structure QE(X:Cx)(e:Expr)(t:TE):Prop where
 h:PE X e t
structure QT(X:Cx)(e:Expr)(t:TT):Prop where
 h:PT X e t
structure QW(X:Cx)(e:Expr)(t:TT):Prop where
 h:PW X e t
structure QA(X:Cx)(es:List Expr)(t:TA):Prop where
 h:PA X es t
structure QS(X:Cx)(st:Stmt)(t:TS):Prop where
 h:PS X st t
structure QSs(X:Cx)(st:List Stmt)(t:TS):Prop where
 h:PSs X st t
structure QG(X:Cx)(tg:Expr)(g:TG):Prop where
 h:PG X tg g
structure QGs(X:Cx)(tg:List Expr)(g:TGs):Prop where
 h:PGs X tg g
structure QI(X:Cx)(tg it:Expr)(w:TI):Prop where
 h:PI X tg it w
structure QTs(X:Cx)(ifs:List Expr)(t:TT):Prop where
 h:PTs X ifs t
structure QO(X:Cx)(o:Option Expr)(t:TO):Prop where
 h:PO X o t
section
variable{X:Cx}{CX:CXT}{k:Nat}{f C:Addr}{fd:FuncData}{ps:List Str}{sp:Sp}{dvs:List V}{ds:List Value}{E:XK}{x m:Str}{p pos apos p2 spos:Pos}{a b c e o:Expr}{es rest:List Expr}{ta tb tc te to ti:TE}{t:TA}{tA tB tt:TT}{id T:String}{r r':R2}{rc:List V->Hp->VK->Prop}{st:Stmt}{sts sts2:List Stmt}{ts us:TS}{g:TG}{gs:TGs}{wi:TI}{tg iter:Expr}
theorem fS{e:Expr}{t:TT}(q:QW X e t):QT X e t:=⟨q.h.pt⟩
theorem pv(i:Nat)(hN:X.N[i]?=some x:=by rfl)(hv:Vis X.env.scope x:=by first|exact Or.inl rfl|exact Or.inr (Or.inl rfl)|exact Or.inr (Or.inr rfl))(hd:(x == ("__debug__" : Str))=false:=by decide)
  (hcd:(x == ("__classdict__" : Str))=false:=by decide):QE X (.Name x pos) (aNo i):=⟨aJy hN hv hd hcd⟩
theorem aB{i j}:QE X (.Constant (.int i) j pos) (tC (.int i)):=⟨L2.aNp⟩
theorem oY{b j}:QE X (.Constant (.bool b) j pos) (tC (.bl b)):=⟨L2.aO5⟩
theorem hV{j}:QE X (.Constant .none j pos) (tC .non):=⟨L2.aNq⟩
theorem aCq{v:V}{u:Value}(hg:Gl X x)(hm:X.mg x=some u)(r:RelV v u)(hd:(x == ("__debug__" : Str))=false:=by decide):QE X (.Name x pos) (tC v):=⟨L2.aHX hg hm r hd⟩
theorem sW{n:Int}(hg:Gl X x)(hm:∃t,X.mg x=some (.int n t))(hd:(x == ("__debug__" : Str))=false:=by decide):QE X (.Name x pos) (tC (.int n)):=⟨L2.aMq hg hm hd⟩
theorem oZ{v:V}{u:Value}(hg:Gl X x)(hm:X.mg x=none)(hv:bootBuiltins x=some u)(r:RelV v u)(hn:x≠"__name__":=by decide)(hd:(x == ("__debug__" : Str))=false:=by decide):QE X (.Name x pos) (tC v):=⟨L2.aLy hg hm hv r hn hd⟩
theorem aI{op:Operator}(ho:vJ X (binaryOp op) r)(ha:QE X a ta)(hb:QE X b tb):QE X (.BinOp a op b pos) (tOp r ta tb):=⟨L2.aO9 ho ha.h hb.h⟩
theorem o5{op:UnaryOp}{ru:V->Hp->VK->Prop}(ho:UnR X (unaryOp op) ru)(ha:QE X a ta):QE X (.UnaryOp op a pos) (tUn ru ta):=⟨L2.aPa ho ha.h⟩
theorem aI8(ha:QE X a ta):QE X (.UnaryOp .Not a pos) (aJA ta):=⟨L2.aNA ha.h⟩
theorem kY{op}(h:QE X a ta):QE X (.BoolOp op [a] pos) ta:=⟨L2.aNy h.h⟩
theorem oS(ha:QE X a ta)(hb:QE X (.BoolOp .And (b::rest) pos) tb):QE X (.BoolOp .And (a::b::rest) pos) (aJz ta tb):=⟨L2.aNz ha.h hb.h⟩
theorem aF5(ha:QE X a ta)(hb:QE X (.BoolOp .Or (b::rest) pos) tb):QE X (.BoolOp .Or (a::b::rest) pos) (aNx ta tb):=⟨L2.aO7 ha.h hb.h⟩
theorem aBi(hc:QT X c tA)(ha:QE X a ta)(hb:QE X b tb):QE X (.IfExp c a b pos) (tIf tA ta tb):=⟨L2.aJB hc.h ha.h hb.h⟩
theorem gQ{op:CmpOp}(ho:vJ X (compareOp op) r)(ha:QE X a ta)(hb:QE X b tb)(hm:behindInMarks op b=false):QE X (.Compare a [op] [b] pos) (tOp r ta tb):=⟨L2.aLL ho ha.h hb.h hm⟩
theorem aW{op:CmpOp}(ho:vJ X (compareOp op) r)(ha:QE X a ta)(hb:QE X b tb)(hm:behindInMarks op b=false):QT X (.Compare a [op] [b] pos) (aJO (tOp r ta tb)):=⟨L2.aLM ho ha.h hb.h hm⟩
theorem vQ{op op':CmpOp}(ho:vJ X (compareOp op) r)(ho':vJ X (compareOp op') r')(ha:QE X a ta)(hb:QE X b tb)(hc:QE X c tc)(hm:lastMarks [op,op'] [b,c]=false:=by with_unfolding_all rfl):QE X (.Compare a [op,op'] [b,c] pos) (aGV r r' ta tb tc):=⟨L2.aJP ho ho' ha.h hb.h hc.h hm⟩
theorem d9(h:QE X e te)(he:∀whole,isTrue e X.env whole=(do let v <-whole;standAt e.pos;holding [v] (truthy v)):=by intro _;rfl):QT X e (L2.tB te):=⟨L2.aNr h.h he⟩
theorem fY(ha:QT X a tA):QT X (.UnaryOp .Not a pos) (aNt tA):=⟨L2.aNw ha.h⟩
theorem gR(ha:QT X a tA):QW X (.BoolOp .And [a] pos) tA:=⟨L2.aLz ha.h⟩
theorem xO(ha:QT X a tA):QW X (.BoolOp .Or [a] pos) tA:=⟨L2.aNu ha.h⟩
theorem jM(ha:QT X a tA)(hb:QW X (.BoolOp .And (b::rest) pos) tB):QW X (.BoolOp .And (a::b::rest) pos) (aNs tA tB):=⟨L2.aNv ha.h hb.h⟩
theorem zW(ha:QT X a tA)(hb:QW X (.BoolOp .Or (b::rest) pos) tB):QW X (.BoolOp .Or (a::b::rest) pos) (tOr tA tB):=⟨L2.aO6 ha.h hb.h⟩
theorem aC:QA X [] oW:=⟨L2.rN⟩
theorem aA(ha:QE X e te)(hr:QA X es t)(hs:noStar e=true:=by rfl):QA X (e::es) (bJ te t):=⟨L2.iR ha.h hr.h hs⟩
theorem aE(F:bP X.prog X.w X.K X.mg X.base CX k f fd ps sp)(hr:eO k X.A)(hg:Gl X x)(hm:X.mg x=some (.ref f))(hk:W.keepIn X.K (.ref f)=true)(hb:Binds X.K fd ps ds)(hd:Vals dvs ds)(hx:Passes CX X E)
  (ha:QA X (e::es) t) (hn:(e::es).all noStar=true:=by rfl) (hdb:(x == ("__debug__" : Str))=false:=by decide):QE X (.Call (.Name x p) (e::es) [] pos) (aFM sp dvs E t):=⟨L2.aKp F hr hg hm hk hb hd hx ha.h hn hdb⟩
theorem vR(M:Mk X.K C f)(F:bP X.prog X.w X.K X.mg X.base CX k f fd ps sp)(hr:eO (k+1) X.A)(hg:Gl X x)(hm:X.mg x=some (.ref C))(hb:Binds X.K fd ps ds)(hd:Vals dvs ds)(hx:Passes CX X E)
  (ha:QA X (e::es) t) (hn:(e::es).all noStar=true:=by rfl) (hdb:(x == ("__debug__" : Str))=false:=by decide):QE X (.Call (.Name x p) (e::es) [] pos) (aFN C sp dvs E t):=⟨L2.aKq M F hr hg hm hb hd hx ha.h hn hdb⟩
theorem aN(hc:eN X (.builtin id) rc)(hg:Gl X x)(hm:X.mg x=none)(hv:bootBuiltins x=some (.builtin id))(ha:QA X (e::es) t)(hn:(e::es).all noStar=true:=by rfl)(hne:x≠"__name__":=by decide)(hdb:(x == ("__debug__" : Str))=false:=by decide) :
  QE X (.Call (.Name x p) (e::es) [] pos) (tCB rc t):=⟨L2.aI3 hc hg hm hv ha.h hn hne hdb⟩
theorem cF(hc:eN X (.type T) rc)(hg:Gl X x)(hm:X.mg x=none)(hv:bootBuiltins x=some (.type T))(ha:QA X (e::es) t)(hn:(e::es).all noStar=true:=by rfl)(hne:x≠"__name__":=by decide)(hdb:(x == ("__debug__" : Str))=false:=by decide) :
  QE X (.Call (.Name x p) (e::es) [] pos) (tCB rc t):=⟨L2.aHe hc hg hm hv ha.h hn hne hdb⟩
theorem sX:QO X none aEA:=⟨L2.aLT⟩
theorem sY(h:QE X e te):QO X (some e) (aJZ te):=⟨L2.aLU h.h⟩
theorem p9{rs:V->Option Int->Option Int->Hp->VK->Prop}{lo hi:Option Expr}{tl th:TO}(hr:SlR X rs)(he:QE X e te)(hl:QO X lo tl)(hu:QO X hi th):QE X (.Subscript e (.Slice lo hi none p2) pos) (tSl rs te tl th):=⟨L2.aJ0 hr he.h hl.h hu.h⟩
theorem kZ(h:QA X es t):QE X (.List es pos) (yY t):=⟨L2.yZ h.h⟩
theorem cN(hg:Gl X "range")(hm:X.mg "range" = none)(ha:QA X [a] t)(hn:noStar a=true:=by rfl):QI X tg (.Call (.Name "range" p) [a] [] pos) (aH0 t):=⟨L2.aHf hg hm ha.h hn⟩
theorem aDt(hg:Gl X "range")(hm:X.mg "range" = none)(ha:QA X [a,b] t)(hn:noStar a=true:=by rfl)(hn2:noStar b=true:=by rfl):QI X tg (.Call (.Name "range" p) [a,b] [] pos) (aH1 t):=⟨L2.aHg hg hm ha.h hn hn2⟩
theorem aO{i:Nat}(hN:X.N.Nodup)(hi:X.N[i]?=some x:=by rfl)(hx:Loc X.env.scope x:=by exact Or.inl rfl)(hf:X.fn x=true\/X.env.scope.names.lookup x=some .local:=by first|exact .inl rfl|exact .inr rfl|assumption):QG X (.Name x pos) (vI i):=⟨L2.aLD hN hi hx hf⟩
theorem cO:QGs X [] aLE:=⟨L2.aLF⟩
theorem bA{e:Expr}{es:List Expr}{t:TG}{u:TGs}(h1:QG X e t)(h2:QGs X es u)(hs:(assignEach (e::es) X.env).map (·.2)=assign e X.env::(assignEach es X.env).map (·.2):=by rfl):QGs X (e::es) (aHY t u):=⟨L2.aJJ h1.h h2.h hs⟩
theorem xP{i:Expr}{tset:aGS}(ho:QE X o to)(hi:QE X i ti)(hs:aJI X tset)
  (ha:∀v,assign (.Subscript o i pos) X.env v=(do
   let ov <-holding [v] (eval o X.env)
   let iv <-holding [v,ov] (eval i X.env)
   standAt pos
   holding [v,ov,iv] (setItem ov iv v)
   release [v,ov,iv] []):=by intro _;rfl):QG X (.Subscript o i pos) (aNF to ti tset):=⟨L2.aNG ho.h hi.h hs ha⟩
theorem cA:QTs X [] aOi:=⟨L2.aL3⟩
theorem aCr(h:QT X c tt):QTs X [c] tt:=⟨L2.aL4 h.h⟩
theorem bD{D:Ends}{σ:St}{H:Hp}(q:QSs X sts ts)(h:ts D σ H):∃t,PSs X sts t/\t D σ H:=⟨ts,q.h,h⟩
theorem imp{ts':TS}(q:QSs X sts ts)(h:∀D σ H,ts' D σ H->ts D σ H):QSs X sts ts':=⟨λpins s σ H D I z=>q.h pins s σ H D I (h D σ H z)⟩
theorem bC:QSs X [] aJC:=⟨L2.aLA⟩
theorem aD(h1:QS X st ts)(h2:QSs X sts us):QSs X (st::sts) (aJD ts us):=⟨L2.aJE h1.h h2.h⟩
theorem aG(h1:QS X st ts):QSs X [st] ts:=⟨L2.aLB h1.h⟩
theorem mT:QS X st aJG:=⟨L2.aJH⟩
theorem lA(he:QE X e te)(hs:swapsWith e none pos.line X.env=pure false:=by rfl):QS X (.Expr e pos) (aJF te):=⟨L2.aLC he.h hs⟩
theorem aM(he:QE X e te):QS X (.Return (some e) pos) (aNB te):=⟨L2.aNC he.h⟩
theorem bH(hc:QT X c tt)(ha:QSs X sts ts)(hb:QSs X sts2 us):QS X (.If c sts sts2 pos) (aND tt ts us):=⟨L2.aO8 hc.h ha.h hb.h⟩
theorem sG{i:Nat}{pos':Pos}(hN:X.N.Nodup)(hi:X.N[i]?=some x)(hx:Loc X.env.scope x)(he:QE X e te)(hs:swapsWith e (some (.Name x pos')) pos.line X.env=pure false:=by rfl)(hf:X.fn x=true\/X.env.scope.names.lookup x=some .local:=by first|exact .inl rfl|exact .inr rfl|assumption) :
  QS X (.Assign [.Name x pos'] e pos) (aFI te (vI i)):=⟨L2.aNI hN hi hx he.h hs hf⟩
theorem aJ{i:Nat}{pos':Pos}(hN:X.N.Nodup)(he:QE X e te)(hi:X.N[i]?=some x:=by rfl)(hx:Loc X.env.scope x:=by exact Or.inl rfl)(hs:swapsWith e (some (.Name x pos')) pos.line X.env=pure false:=by rfl)(hf:X.fn x=true\/X.env.scope.names.lookup x=some .local:=by first|exact .inl rfl|exact .inr rfl|assumption) :
  QS X (.Assign [.Name x pos'] e pos) (aFI te (vI i)):=sG hN hi hx he hs hf
theorem oU(he:QE X e te)(hg:QG X tg g)(hs:swapsWithSole [tg] e pos.line X.env=pure false:=by rfl)(hw:swappedStores [tg] e X.env=pure none:=by rfl)
  (h1:(assignEach [tg] X.env).map (·.2)=[assign tg X.env]:=by rfl):QS X (.Assign [tg] e pos) (aFI te g):=⟨L2.aNH he.h hg.h hs hw h1⟩
theorem xQ{i:Nat}{op:Operator}{tip:TIp}{pos':Pos}(hN:X.N.Nodup)(hi:X.N[i]?=some x)(hx:Loc X.env.scope x)(he:QE X e te)(ho:PIp X op tip)(hf:X.fn x=true\/X.env.scope.names.lookup x=some .local:=by first|exact .inl rfl|exact .inr rfl|assumption) :
  QS X (.AugAssign (.Name x pos') op e pos) (aNL i te tip):=⟨L2.aNM hN hi hx he.h ho hf⟩
theorem sZ{i:Expr}{tget:V->V->Hp->VK->Prop}{tip:TIp}{tset:aGS}{op:Operator}{tpos:Pos}(ho:QE X o to)(hi:QE X i ti)(hg:aNN X tget)(he:QE X e te)(hp:PIp X op tip)(hs:aJI X tset)
  (ha:∀ov iv new,augStore i ov iv new=(do holding [new,ov,iv] (setItem ov iv new);release [new,ov,iv] [];pure .next):=by intros;rfl):QS X (.AugAssign (.Subscript o i tpos) op e pos) (aJK to ti te tget tip tset):=⟨L2.aLH ho.h hi.h hg he.h hp hs ha⟩
theorem cD(hp:PassesOwn (model X.prog X.w) X.A X.env X.xe)(hc:X.calm=true)(hi:QI X tg iter wi)(hg:QG X tg g)(hb:QSs X sts ts)
  (hs:∀x,foldedSetIterable iter X.env x=pure x:=by intro _;rfl):QS X (.For tg iter sts [] pos) (aNR wi g ts):=⟨L2.aNS hp hc hi.h hg.h hb.h hs⟩
variable{scope:Scope}{elt target:Expr}{ifs:List Expr}{N:List Str}
theorem cY{k:Nat}{idx:List Nat}{N:List Str}(S:eU X scope N k idx)(hc:X.calm=true)(hi:QI X target iter wi)
  (hg:∀fp C s H,QG (cxC X scope N fp C s H) target g) (ho:Own k g) (ht:∀fp C s H,QTs (cxC X scope N fp C s H) ifs tt) (he:∀fp C s H,QE (cxC X scope N fp C s H) elt te)
  (hs:∀x,foldedSetIterable iter X.env x=pure x:=by intro _;rfl):QE X (.ListComp elt [⟨target,iter,ifs,0⟩] scope pos) (aFZ wi k idx g tt te):=
 ⟨L2.aL6 k idx S hc hi.h (λfp C s H=>(hg fp C s H).h) ho (λfp C s H=>(ht fp C s H).h) (λfp C s H=>(he fp C s H).h) hs⟩
theorem o6{k:Nat}{idx:List Nat}{i:Nat}{N:List Str}{pos':Pos}(hN:X.N.Nodup)(hix:X.N[i]?=some x)(hx:Loc X.env.scope x)
  (S:eU X scope N k idx) (hc:X.calm=true) (hi:QI X target iter wi)
  (hg:∀fp C s H,QG (cxC X scope N fp C s H) target g) (ho:Own k g) (ht:∀fp C s H,QTs (cxC X scope N fp C s H) ifs tt) (he:∀fp C s H,QE (cxC X scope N fp C s H) elt te)
  (hsw:swapsWith (.ListComp elt [⟨target,iter,ifs,0⟩] scope pos) (some (.Name x pos')) spos.line X.env=pure true:=by rfl)
  (hs:∀x,foldedSetIterable iter X.env x=pure x:=by intro _;rfl) (hfn:X.fn x=true\/X.env.scope.names.lookup x=some .local:=by first|exact .inl rfl|exact .inr rfl|assumption) :
  QS X (.Assign [.Name x pos'] (.ListComp elt [⟨target,iter,ifs,0⟩] scope pos) spos) (aFI (aFZ wi k idx g tt te) (vI i)):=
 ⟨L2.aL7 k idx hN hix hx S hc hi.h (λfp C s H=>(hg fp C s H).h) ho (λfp C s H=>(ht fp C s H).h) (λfp C s H=>(he fp C s H).h) hsw hs hfn⟩
variable{x1:Nat}{e1 e2 e3 e4 e5 e6 e7 e8:Expr}{t1 t2 t3 t4 t5 t6 t7 t8:TE}
theorem xR(h1:QE X e1 t1)(n1:noStar e1=true:=by rfl):QE X (.List [e1] pos) (yY (bJ t1 oW)):=⟨L2.aPW h1.h n1⟩
theorem nM(h1:QE X e1 t1)(h2:QE X e2 t2)(n1:noStar e1=true:=by rfl)(n2:noStar e2=true:=by rfl):QE X (.List [e1,e2] pos) (yY (bJ t1 (bJ t2 oW))):=⟨L2.aPX h1.h h2.h n1 n2⟩
theorem gL{k1}(h1:QE X e1 t1)(h2:QE X e2 t2)(n1:noStar e1=true:=by rfl)(n2:noStar e2=true:=by rfl):QE X (.Tuple [e1,e2] k1 pos) (aFL (bJ t1 (bJ t2 oW))):=⟨L2.aPY h1.h h2.h n1 n2⟩
theorem zX(h1:QE X e1 t1)(h2:QE X e2 t2)(h3:QE X e3 t3)(n1:noStar e1=true:=by rfl)(n2:noStar e2=true:=by rfl)(n3:noStar e3=true:=by rfl):QE X (.List [e1,e2,e3] pos) (yY (bJ t1 (bJ t2 (bJ t3 oW)))):=⟨L2.aPZ h1.h h2.h h3.h n1 n2 n3⟩
theorem aEM{k1}(h1:QE X e1 t1)(h2:QE X e2 t2)(h3:QE X e3 t3)(n1:noStar e1=true:=by rfl)(n2:noStar e2=true:=by rfl)(n3:noStar e3=true:=by rfl):QE X (.Tuple [e1,e2,e3] k1 pos) (aFL (bJ t1 (bJ t2 (bJ t3 oW)))):=⟨L2.aP0 h1.h h2.h h3.h n1 n2 n3⟩
theorem aMz(h1:QE X e1 t1)(h2:QE X e2 t2)(h3:QE X e3 t3)(h4:QE X e4 t4)(n1:noStar e1=true:=by rfl)(n2:noStar e2=true:=by rfl)(n3:noStar e3=true:=by rfl)(n4:noStar e4=true:=by rfl):QE X (.List [e1,e2,e3,e4] pos) (yY (bJ t1 (bJ t2 (bJ t3 (bJ t4 oW))))):=⟨L2.aP1 h1.h h2.h h3.h h4.h n1 n2 n3 n4⟩
theorem aMA{k1}(h1:QE X e1 t1)(h2:QE X e2 t2)(h3:QE X e3 t3)(h4:QE X e4 t4)(n1:noStar e1=true:=by rfl)(n2:noStar e2=true:=by rfl)(n3:noStar e3=true:=by rfl)(n4:noStar e4=true:=by rfl):QE X (.Tuple [e1,e2,e3,e4] k1 pos) (aFL (bJ t1 (bJ t2 (bJ t3 (bJ t4 oW))))):=⟨L2.aP2 h1.h h2.h h3.h h4.h n1 n2 n3 n4⟩
theorem aH9(h1:QE X e1 t1)(h2:QE X e2 t2)(h3:QE X e3 t3)(h4:QE X e4 t4)(h5:QE X e5 t5)(n1:noStar e1=true:=by rfl)(n2:noStar e2=true:=by rfl)(n3:noStar e3=true:=by rfl)(n4:noStar e4=true:=by rfl)(n5:noStar e5=true:=by rfl):QE X (.List [e1,e2,e3,e4,e5] pos) (yY (bJ t1 (bJ t2 (bJ t3 (bJ t4 (bJ t5 oW)))))):=⟨L2.aP3 h1.h h2.h h3.h h4.h h5.h n1 n2 n3 n4 n5⟩
theorem aMB(h1:QE X e1 t1)(h2:QE X e2 t2)(h3:QE X e3 t3)(h4:QE X e4 t4)(h5:QE X e5 t5)(h6:QE X e6 t6)(h7:QE X e7 t7)(n1:noStar e1=true:=by rfl)(n2:noStar e2=true:=by rfl)(n3:noStar e3=true:=by rfl)(n4:noStar e4=true:=by rfl)(n5:noStar e5=true:=by rfl)(n6:noStar e6=true:=by rfl)(n7:noStar e7=true:=by rfl):QE X (.List [e1,e2,e3,e4,e5,e6,e7] pos) (yY (bJ t1 (bJ t2 (bJ t3 (bJ t4 (bJ t5 (bJ t6 (bJ t7 oW)))))))):=⟨L2.aP4 h1.h h2.h h3.h h4.h h5.h h6.h h7.h n1 n2 n3 n4 n5 n6 n7⟩
end
end L2.Z
namespace L2.Z
open PySem PySem.Spec PyProof.Rows L2
section
variable{X:Cx}{CX:CXT}{k:Nat}{f C:Addr}{fd:FuncData}{ps:List Str}{sp:Sp}{dvs:List V}{ds:List Value}{E:XK}{x m:Str}{p pos apos p2 spos cpos tp:Pos}{a b c e o st:Expr}{es rest elts:List Expr}{ta tb tc te to ti:TE}{t:TA}{x1:Nat}{ts:TO}
theorem aHm{pl:Sem Bool}(he:QE X o ta)(c:Cls X.K C)(hm:Meth X.K C m f)(F:bP X.prog X.w X.K X.mg X.base CX k f fd ps sp)(hr:eO k X.A)(hb:Binds X.K fd ps ds)(hd:Vals dvs ds)(hx:Passes CX X E)(ha:QA X (e::es) t)
  (hn:(e::es).all noStar=true:=by rfl)
  (ht:eval (.Call (.Attribute o m apos) (e::es) [] pos) X.env=(do
   let ov <-eval o X.env
   standAt apos.atName
   let (f,first) <-holding [ov] (getMethod ov m pl)
   callWith pos f first (backTo pos (starEach (e::es) X.env)) (backToKw pos (keywordEach [] X.env))):=by rfl) :
  QE X (.Call (.Attribute o m apos) (e::es) [] pos) (aH2 C m sp dvs E ta t):=⟨L2.aLR he.h c hm F hr hb hd hx ha.h (bO (iP hn).1) (jY (iP hn).2) ht⟩
end
end L2.Z
namespace L2.Z
open PySem PySem.Spec PyProof.Rows L2
section
variable{X:Cx}{K':W.Frag}{x m n:Str}{p pos apos p2 spos cpos tp pos':Pos}{a b c e o st iter tg:Expr}{es rest elts:List Expr}{ta tb tc te to ti:TE}{t:TA}{x1:Nat}{ts:TO}
theorem aH(ha:QE X a ta)(hb:QE X b tb)(hs:aH6 b:=by exact λ_ _=>rfl)(hK:X.K=K':=by rfl):QE X (.Subscript a b pos) (tOp (rIx K') ta tb):=by subst hK;exact⟨L2.aPf aN4 ha.h hb.h hs⟩
theorem cC(hl:QE X e te)(hK:X.K=K':=by rfl):QI X tg e (aJL K' te):=by subst hK;exact⟨L2.aLI hl.h⟩
theorem aCs(hl:QE X e te)(hK:X.K=K':=by rfl):QI X tg e (aNP K' te):=by subst hK;exact⟨L2.aNQ hl.h⟩
theorem mU(hg:Gl X "enumerate")(hm:X.mg "enumerate" = none)(ha:QA X [a] t)(hn:noStar a=true:=by rfl)(hK:X.K=K':=by rfl):QI X (.Tuple elts x1 tp) (.Call (.Name "enumerate" p) [a] [] pos) (aKr K' t):=by subst hK;exact⟨L2.aMu hg hm ha.h hn⟩
theorem cP{k1 n:Nat}{gs:TGs}(hc:X.calm=true)(h:QGs X es gs)(hn:(assignEach es X.env).length=n:=by rfl)(hst:(assignEach es X.env).findIdx? (·.1)=none:=by rfl)(hK:X.K=K':=by rfl):QG X (.Tuple es k1 pos) (aLG K' n gs):=by subst hK;exact⟨L2.aNE hc h.h hn hst⟩
theorem cI(he:QE X e ta)(hb:attributeBase e n X.env (eval e X.env)=eval e X.env)(hK:X.K=K':=by rfl):QE X (.Attribute e n pos) (aNW K' ta n):=by subst hK;exact⟨L2.aNY he.h hb⟩
theorem cJ(ha:QE X o ta)(hv:QE X e te)(hs:swapsWith e (some (.Attribute o n pos')) pos.line X.env=pure false)(hK:X.K=K':=by rfl):QS X (.Assign [.Attribute o n pos'] e pos) (aNX K' ta te n):=by subst hK;exact⟨L2.aNZ ha.h hv.h hs⟩
theorem o7(ho:QE X o to)(ha:QA X [e] t)(hn:noStar e=true:=by rfl)(hbase:attributeBase o "append" X.env (eval o X.env)=eval o X.env:=by rfl)(hline:(apos.endLine == cpos.line)=true:=by rfl)(hK:X.K=K':=by rfl) :
  QE X (.Call (.Attribute o "append" apos) [e] [] cpos) (tBM K' "list" aB7 to t):=by subst hK;exact⟨L2.aOI ho.h ha.h hn hbase hline⟩
end
end L2.Z
namespace L2.Z
open PySem PySem.Spec PyProof.Rows L2
section
variable{X:Cx}{K':W.Frag}{p pos tp:Pos}{a b:Expr}{elts:List Expr}{t:TA}{x1:Nat}
end
end L2.Z
namespace L2
open PySem
section
variable{prog:Program}{w:World}{A:Around}{E:Value->Shared->Prop}{s:Shared}
theorem zY{i:Nat}{items}{Q:Value->Shared->Prop}(hit:s.heap.IsTupleIter it t i)(ht:s.heap.IsTuple t items)(hx:items[i]?=some x)(hQ:∀h',h'.IsTupleIter it t (i+1)->Heap.SameBut it s.heap h'->Q x { s with heap:=h' }) :
  wpAny (model prog w) A (Builtin.SmallTypes.nextOf (.ref it)) Q E s:=by
 obtain⟨o,ho,hc,hd⟩:=id hit
 obtain⟨ol,hol,_,nl,hdl⟩:=ht
 unfold Builtin.SmallTypes.nextOf
 refine wpAny_bind (wpAny_callSpecial?_slot (name:=Str.ofString "__next__") hit.typeIs F.slot_tuple_iterator_next
  (wpAny_call_entry F.slot_tuple_iterator_next hit.typeIs F.entry_tuple_iterator_next ?_ (F.args_tuple_iterator_next_1 _)))
 show wpAny _ _ (field (.ref it) 0 >>= _) _ _ s
 refine wpAny_bind (wpAny_field ho hd (x:=.ref t) rfl ?_)
 show wpAny _ _ (if (Value.ref t == Value.none)=true then _ else _) _ _ s
 rw[if_neg (show ¬((Value.ref t == Value.none)=true) from Qp9)]
 show wpAny _ _ (field (.ref it) 1 >>= _) _ _ s
 refine wpAny_bind (wpAny_field ho hd (x:=.int i 0) rfl ?_)
 show wpAny _ _ (seqItems? (.ref t) >>= _) _ _ s
 refine wpAny_bind (wpAny_seqItems hol hdl ?_)
 simp only[Ro9,hx]
 refine wpAny_bind (wpAny_setField ho hd (by simp) (wpAny_pure ⟨x,rfl,wpAny_pure (hQ _ ?_ (Heap.SameBut.update ..))⟩))
 exact⟨_,Sn9 _ ho (Obj.isFreed_of_fields (Obj.data_mapFields hd _)),(Obj.cls_mapFields ..).trans hc,by
  rw[Obj.data_mapFields hd];simp[rawInt]⟩
theorem aAZ{i:Nat}{items}{Q:Value->Shared->Prop}(hh:A.handled=none)(hit:s.heap.IsTupleIter it t i)(ht:s.heap.IsTuple t items)(hx:items[i]?=none)(hE:∀h' e,Heap.ExtBut it s.heap h'->(∃o,h'.get? e=some o/\o.cls=.type "StopIteration")->E (.ref e) { s with heap:=h' }) :
  wpAny (model prog w) A (Builtin.SmallTypes.nextOf (.ref it)) Q E s:=by
 obtain⟨o,ho,hc,hd⟩:=id hit
 obtain⟨ol,hol,_,nl,hdl⟩:=ht
 unfold Builtin.SmallTypes.nextOf
 refine wpAny_bind (wpAny_callSpecial?_slot (name:=Str.ofString "__next__") hit.typeIs F.slot_tuple_iterator_next
  (wpAny_call_entry F.slot_tuple_iterator_next hit.typeIs F.entry_tuple_iterator_next ?_ (F.args_tuple_iterator_next_1 _)))
 show wpAny _ _ (field (.ref it) 0 >>= _) _ _ s
 refine wpAny_bind (wpAny_field ho hd (x:=.ref t) rfl ?_)
 show wpAny _ _ (if (Value.ref t == Value.none)=true then _ else _) _ _ s
 rw[if_neg (show ¬((Value.ref t == Value.none)=true) from Qp9)]
 show wpAny _ _ (field (.ref it) 1 >>= _) _ _ s
 refine wpAny_bind (wpAny_field ho hd (x:=.int i 0) rfl ?_)
 show wpAny _ _ (seqItems? (.ref t) >>= _) _ _ s
 refine wpAny_bind (wpAny_seqItems hol hdl ?_)
 simp only[Ro9,hx]
 refine wpAny_bind (wpAny_rule (wpAny_bind (wpAny_setField ho hd (by simp) ?_)))
 show wpAny _ _ (newExc (.type "StopIteration") [] >>= _) _ _ _
 refine wpAny_bind ?_
 simp only[newExc,newTuple]
 refine wpAny_bind (wpAny_newObj_type ?_ (by size_fits))
 refine wpAny_bind (m:=firstArgMember _ _) (wpAny_of_eq (a:=Value.none) (by first|rfl|(simp only[firstArgMember];rfl)) ?_)
 refine wpAny_newObj_type ?_ (by size_fits)
 simp only[raiseNew]
 refine wpAny_bind (wpAny_handled ?_)
 first|rw[show A.in1.handled=none from hh]|rw[hh]
 refine wpAny_bind (wpAny_pure (wpAny_throw ?_))
 exact hE _ _ (((Heap.SameBut.update ..).extBut.push _).push _) ⟨_,xI _ rfl,rfl⟩
end
def SIt(h:Heap)(k:Bool)(it src:Addr)(i:Nat):Prop:=if k=true then h.IsListIter it src i else h.IsTupleIter it src i
def vC(h:Heap)(k:Bool)(src:Addr)(items:Array Value):Prop:=if k=true then h.IsList src items else h.IsTuple src items
theorem SIt.at{h h':Heap}{k:Bool}{i:Nat}(x:SIt h k it src i)(e:∀o,h.get? it=some o->h'.get? it=some o):SIt h' k it src i:=by
 cases k with
 |true=>obtain⟨o,ho,r⟩:=(show h.IsListIter it src i from x);exact(show h'.IsListIter it src i from⟨o,e o ho,r⟩)
 |false=>obtain⟨o,ho,r⟩:=(show h.IsTupleIter it src i from x);exact(show h'.IsTupleIter it src i from⟨o,e o ho,r⟩)
theorem vC.at{h h':Heap}{k:Bool}(x:vC h k src items)(e:∀o,h.get? src=some o->h'.get? src=some o):vC h' k src items:=by
 cases k with
 |true=>obtain⟨o,ho,r⟩:=(show h.IsList src items from x);exact(show h'.IsList src items from⟨o,e o ho,r⟩)
 |false=>obtain⟨o,ho,r⟩:=(show h.IsTuple src items from x);exact(show h'.IsTuple src items from⟨o,e o ho,r⟩)
theorem SIt.obj{h:Heap}{k:Bool}{i:Nat}(x:SIt h k it src i):∃o vs,h.get? it=some o/\o.data=.fields vs:=by
 cases k with
 |true=>obtain⟨o,ho,_,r⟩:=(show h.IsListIter it src i from x);exact⟨o,_,ho,r⟩
 |false=>obtain⟨o,ho,_,r⟩:=(show h.IsTupleIter it src i from x);exact⟨o,_,ho,r⟩
section
variable{prog:Program}{w:World}{A:Around}{E:Value->Shared->Prop}{s:Shared}
theorem aF6{k:Bool}{i:Nat}{items:Array Value}{Q:Value->Shared->Prop}(hit:SIt s.heap k it src i)(hs:vC s.heap k src items)(hx:items[i]?=some x)(hQ:∀h',SIt h' k it src (i+1)->Heap.SameBut it s.heap h'->Q x { s with heap:=h' }):wpAny (model prog w) A (Builtin.SmallTypes.nextOf (.ref it)) Q E s:=by
 cases k with
 |true=>exact wpAny_nextOf_list_item hit hs hx hQ
 |false=>exact zY hit hs hx hQ
theorem aHn{k:Bool}{i:Nat}{items:Array Value}{Q:Value->Shared->Prop}(hh:A.handled=none)(hit:SIt s.heap k it src i)(hs:vC s.heap k src items)(hx:items[i]?=none)(hE:∀h' e,Heap.ExtBut it s.heap h'->(∃o,h'.get? e=some o/\o.cls=.type "StopIteration")->E (.ref e) { s with heap:=h' }):wpAny (model prog w) A (Builtin.SmallTypes.nextOf (.ref it)) Q E s:=by
 cases k with
 |true=>exact wpAny_nextOf_list_end hh hit hs hx hE
 |false=>exact aAZ hh hit hs hx hE
end
abbrev ZS:=Bool×Addr×Addr
structure ZA(z TI TO:Addr)(L:List ZS):Prop where
 TIz:TI≠z
 TOz:TO≠z
 TITO:TI≠TO
 it:∀t∈L,t.2.1≠z/\t.2.1≠TI/\t.2.1≠TO
 nd:(L.map (·.2.1)).Nodup
abbrev o8(h:Heap)(T:Addr)(vs:Array Value):Prop:=h.get? T=some { cls:=.type "tuple",data:=.seq vs }
def aON(z TO:Addr)(L:List ZS):Prop:=∀t∈L,t.2.2≠z/\t.2.2≠TO/\∀u∈L,t.2.2≠u.2.1
theorem aKA:∀{l:List Addr},l.Nodup->∀{i j:Nat}{a:Addr},l[i]?=some a->l[j]?=some a->i=j
 |[],_,_,_,_,h,_=>by simp at h
 |b::l,n,0,0,_,_,_=>rfl
 |b::l,n,0,j+1,a,h1,h2=>by
  simp at h1 h2
  subst h1
  exact absurd (vD h2) (Rm9.mp n).1
 |b::l,n,i+1,0,a,h1,h2=>by
  simp at h1 h2
  subst h2
  exact absurd (vD h1) (Rm9.mp n).1
 |b::l,n,i+1,j+1,a,h1,h2=>by
  simp at h1 h2
  rw[aKA (Rm9.mp n).2 h1 h2]
section
variable{prog:Program}{w:World}{A:Around}{E:Value->Shared->Prop}{s:Shared}
theorem aP5{arr:Array Value}{j:Nat}{Q:Unit->Shared->Prop}(hT:o8 s.heap T arr)(hz:arr.size<=1000)(h:∀h',o8 h' T (arr.setIfInBounds j x)->Heap.SameBut T s.heap h'->Q () { s with heap:=h' }):wpAny (model prog w) A (updateSeq T (·.setIfInBounds j x)) Q E s:=by
 refine wpAny_updateSeq hT rfl (h _ ?_ (Heap.SameBut.update ..)) (by rw[sizeLine_eq];omega) (by rw[Array.size_setIfInBounds,sizeLine_eq];omega)
 show(s.heap.update T _).get? T=_
 rw[Sn9 _ hT rfl]
 simp[Obj.mapSeq]
structure aOO(z TI TO:Addr)(L:List ZS)(k:Nat)(xs:Nat->Value)(h₀:Heap)(j:Nat)(h:Heap):Prop where
 zz:IsZip h z TI TO .ellipsis
 to:∃arr:Array Value,o8 h TO arr/\arr.size=L.length/\∀i,i < j->arr[i]?=some (xs i)
 it:∀i t,L[i]?=some t->SIt h t.1 t.2.1 t.2.2 (if i < j then k+1 else k)
 off:∀c o,c≠z->c≠TO->(∀t∈L,c≠t.2.1)->h₀.get? c=some o->h.get? c=some o
 sz:h.objs.size=h₀.objs.size
theorem aF7{z TI TO:Addr}{L:List ZS}{k:Nat}{items:Nat->Array Value}{xs:Nat->Value}{arr:Array Value}{Q:Value->Shared->Prop}(hh:A.handled=none)(D:ZA z TI TO L)(S:aON z TO L)(hne:L≠[])(hlen:L.length<=1000)
  (hz:IsZip s.heap z TI TO .none) (hTI:o8 s.heap TI (L.map λt=>Value.ref t.2.1).toArray) (hTO:o8 s.heap TO arr) (harr:arr.size=L.length)
  (hit:∀t∈L,SIt s.heap t.1 t.2.1 t.2.2 k) (hsrc:∀i t,L[i]?=some t->vC s.heap t.1 t.2.2 (items i))
  (hx:∀i,i < L.length->∀x,(items i)[k]?=some x->x=xs i)
  (hQ:(∀i,i < L.length->(items i)[k]?=some (xs i))->∀h' arr',IsZip h' z TI TO (rawInt s.heap.objs.size)->o8 h' TO arr'->arr'.size=L.length->(∀i,i < L.length->arr'[i]?=some (xs i))->(∀t∈L,SIt h' t.1 t.2.1 t.2.2 (k+1))->o8 h' s.heap.objs.size arr'->h'.objs.size=s.heap.objs.size+1->
   (∀c o,c≠z->c≠TO->(∀t∈L,c≠t.2.1)->s.heap.get? c=some o->h'.get? c=some o)->Q (.ref s.heap.objs.size) { s with heap:=h' })
  (hE:(∃i,i < L.length/\(items i)[k]?=none)->∀h' e,(∀c o,c≠z->c≠TO->(∀t∈L,c≠t.2.1)->s.heap.get? c=some o->h'.get? c=some o)->(∃o,h'.get? e=some o/\o.cls=.type "StopIteration")->E (.ref e) { s with heap:=h' }) :
  wpAny (model prog w) A (Builtin.«zip.__next__» ⟨[.ref z],[]⟩) (λfin s'=>∃v,fin=.done (.ret v)/\Q v s') E s:=by
 show wpAny _ _ (field (.ref z) 2 >>= _) _ _ _
 refine wpAny_bind (wpAny_field hz rfl (x:=.bool false) rfl ?_)
 show wpAny _ _ (field (.ref z) 3 >>= _) _ _ _
 refine wpAny_bind (wpAny_field hz rfl (x:=.ref TI) rfl ?_)
 refine wpAny_bind (wpAny_seqItems hTI rfl ?_)
 have hemp:(L.map λt=>Value.ref t.2.1).toArray.isEmpty=false:=by
  cases L with
  |nil=>exact absurd rfl hne
  |cons t L=>rfl
 simp only[hemp,Se9,if_false]
 show wpAny _ _ (Builtin.SmallTypes.ownedTupleIsFree (.ref z) >>= _) _ _ _
 refine wpAny_bind ?_
 unfold Builtin.SmallTypes.ownedTupleIsFree
 refine wpAny_bind (wpAny_field hz rfl (x:=.none) rfl (wpAny_pure ?_))
 simp only[if_true]
 refine wpAny_bind (wpAny_rule ?_)
 refine wpAny_bind (wpAny_field hz rfl (x:=.ref TO) rfl ?_)
 refine wpAny_bind (wpAny_setField_rec hz (by simp) λh₁ hz₁ hs₁=>?_)
 replace hz₁:IsZip h₁ z TI TO .ellipsis:=hz₁
 replace hs₁:Heap.SameBut z s.heap h₁:=hs₁
 refine wpAny_bind ?_
 refine wpAny_forIn_list _ (λrest b s'=>b=((none,()):Option Fin×Unit)/\∃j,rest=((L.map λt=>Value.ref t.2.1).zipIdx).drop j/\j<=L.length/\(∀i,i < j->(items i)[k]?=some (xs i))/\aOO z TI TO L k xs s.heap j s'.heap/\s'={ s with heap:=s'.heap }) _ ?turn ?fin _ _ ⟨rfl,0,rfl,Rr9 _,λi hi=>absurd hi (Nat.not_lt_zero _),?start,rfl⟩
 case start=>
  exact⟨hz₁,⟨arr,hs₁.extBut _ _ D.TOz hTO,harr,λi hi=>absurd hi (Nat.not_lt_zero _)⟩,λi t ht=>by
   rw[if_neg (Nat.not_lt_zero _)]
   exact(hit t (vD ht)).at λo e=>hs₁.extBut _ _ (D.it t (vD ht)).1 e,λc o c1 _ _ e=>hs₁.extBut _ _ c1 e,hs₁.1⟩
 case turn=>
  rintro x rest b s' ⟨rfl,j,er,hj,hxs,M,es⟩
  have hll:((L.map λt=>Value.ref t.2.1).zipIdx).length=L.length:=by simp
  have hjl:j < ((L.map λt=>Value.ref t.2.1).zipIdx).length:=by
   apply Nat.lt_of_not_le
   intro h
   rw[List.drop_eq_nil_of_le h] at er
   cases er
  rw[List.drop_eq_getElem_cons hjl] at er
  injection er with e1 e2
  have hjL:j < L.length:=by rw[<-hll];exact hjl
  have ht:L[j]?=some L[j]:=fH hjL
  have hmem:=Rt9 hjL
  have e3:((L.map λt=>Value.ref t.2.1).zipIdx)[j]=(Value.ref L[j].2.1,j):=by simp
  rw[e3] at e1
  generalize L[j]=t at ht hmem e1
  subst e1 e2
  obtain⟨h',g',d',t',o'⟩:=s'
  injection es with _ e4 e5 e6 e7
  subst e4 e5 e6 e7
  replace M:aOO z TI TO L k xs s.heap j h':=M
  have hitj:=M.it j t ht
  rw[if_neg (Rw9 _)] at hitj
  have hsj:vC h' t.1 t.2.2 (items j):=(hsrc j t ht).at λo e=>M.off _ o (S t hmem).1 (S t hmem).2.1 (S t hmem).2.2 e
  refine wpAny_bind (wpAny_onRaise ?_)
  show wpAny _ _ (Builtin.SmallTypes.nextOf (.ref t.2.1) >>= _) _ _ _
  cases hxk:(items j)[k]? with
  |none=>
   refine wpAny_bind (aHn (s:=⟨h',s.gens,s.drawn,s.toks,s.os⟩) hh hitj hsj hxk λh2 e eb he=>?_)
   replace eb:Heap.ExtBut t.2.1 h' h2:=eb
   obtain⟨oe,hoe,hce⟩:=he
   have hz2:IsZip h2 z TI TO .ellipsis:=eb _ _ (Ne.symm (D.it t hmem).1) M.zz
   have hez:e≠z:=λq=>by subst q;rw[hz2] at hoe;cases hoe;simp at hce
   refine wpAny_setField_rec hz2 (by simp) λh3 _ hs3=>hE ⟨j,hjL,hxk⟩ h3 e (λc o c1 c2 c3 q=>hs3.extBut _ _ c1 (eb _ _ (c3 t hmem) (M.off c o c1 c2 c3 q))) ⟨oe,hs3.extBut _ _ hez hoe,hce⟩
  |some x=>
   have ex:=hx j hjL x hxk
   subst ex
   refine wpAny_bind (aF6 (s:=⟨h',s.gens,s.drawn,s.toks,s.os⟩) hitj hsj hxk λh2 it2 sb2=>wpAny_pure ?_)
   replace sb2:Heap.SameBut t.2.1 h' h2:=sb2
   obtain⟨arr2,hTO2,ha2,hv2⟩:=M.to
   have hTO3:o8 h2 TO arr2:=sb2.extBut _ _ (Ne.symm (D.it t hmem).2.2) hTO2
   refine wpAny_bind (wpAny_seqItems hTO3 rfl ?_)
   refine wpAny_bind (aP5 (s:=⟨h2,s.gens,s.drawn,s.toks,s.os⟩) hTO3 (by omega) λh3 hTO4 sb3=>?_)
   replace sb3:Heap.SameBut TO h2 h3:=sb3
   refine wpAny_bind (wpAny_letGo (wpAny_pure ?_))
   refine⟨rfl,j+1,rfl,hjL,λi hi=>?_,⟨?_,⟨_,hTO4,?_,λi hi=>?_⟩,λi u hu=>?_,λc o c1 c2 c3 q=>?_,?_⟩,rfl⟩
   ·by_cases e:i=j
    ·subst e;exact hxk
    ·exact hxs i (by omega)
   ·exact sb3.extBut _ _ (Ne.symm D.TOz) (sb2.extBut _ _ (Ne.symm (D.it t hmem).1) M.zz)
   ·rw[Array.size_setIfInBounds];exact ha2
   ·by_cases e:i=j
    ·subst e
     rw[Array.getElem?_setIfInBounds_self_of_lt (by omega)]
    ·rw[Array.getElem?_setIfInBounds_ne (Ne.symm e)]
     exact hv2 i (by omega)
   ·have mu:=vD hu
    have nT:u.2.1≠TO:=(D.it u mu).2.2
    by_cases e:i=j
    ·subst e
     rw[ht] at hu
     cases hu
     rw[if_pos (Tp9 _)]
     exact it2.at λo q=>sb3.extBut _ _ nT q
    ·have ne:u.2.1≠t.2.1:=λq=>by
      have n:=D.nd
      have q1:(L.map (·.2.1))[i]?=some u.2.1:=by rw[nK,hu];rfl
      have q2:(L.map (·.2.1))[j]?=some u.2.1:=by rw[nK,ht,q];rfl
      exact e (aKA n q1 q2)
     have:=M.it i u hu
     rw[show(if i < j+1 then k+1 else k)=if i < j then k+1 else k by split <;> split <;> omega]
     exact this.at λo q=>sb3.extBut _ _ nT (sb2.extBut _ _ ne q)
   ·exact sb3.extBut _ _ c2 (sb2.extBut _ _ (c3 t hmem) (M.off c o c1 c2 c3 q))
   ·show h3.objs.size=_
    rw[sb3.1,sb2.1];exact M.sz
 case fin=>
  rintro b s' ⟨rfl,j,er,hj,hxs,M,es⟩
  have hjL:j=L.length:=by
   have:((L.map λt=>Value.ref t.2.1).zipIdx).length<=j:=List.drop_eq_nil_iff.mp er.symm
   simp at this
   omega
  subst hjL
  obtain⟨h',g',d',t',o'⟩:=s'
  injection es with _ e4 e5 e6 e7
  subst e4 e5 e6 e7
  replace M:aOO z TI TO L k xs s.heap L.length h':=M
  obtain⟨arr2,hTO2,ha2,hv2⟩:=M.to
  show wpAny _ _ (seqItems? (.ref TO) >>= _) _ _ _
  refine wpAny_bind (wpAny_seqItems hTO2 rfl ?_)
  refine wpAny_bind (wpAny_newTuple ?_ (by rw[Rg9,sizeLine_eq];omega))
  have hzlt:z < h'.objs.size:=jU M.zz
  show wpAny _ _ (Builtin.SmallTypes.ownedTupleHandOut (.ref z) (.ref h'.objs.size) >>= _) _ _ _
  refine wpAny_bind ?_
  unfold Builtin.SmallTypes.ownedTupleHandOut
  have hz6:IsZip (h'.push { cls:=.type "tuple",data:=.seq arr2.toList.toArray }) z TI TO .ellipsis:=kS _ M.zz
  refine wpAny_bind (wpAny_setField_rec hz6 (by simp) λh7 hz7 hs7=>?_)
  replace hz7:IsZip h7 z TI TO (rawInt h'.objs.size):=hz7
  refine wpAny_setField_rec hz7 (by simp) λh8 hz8 hs8=>?_
  replace hz8:IsZip h8 z TI TO (rawInt h'.objs.size):=hz8
  have up:∀c o,c≠z->h'.get? c=some o->h8.get? c=some o:=λc o c1 e=>hs8.extBut _ _ c1 (hs7.extBut _ _ c1 (kS _ e))
  have hT8:o8 h8 h'.objs.size arr2:=hs8.extBut _ _ (Sg9 hzlt) (hs7.extBut _ _ (Sg9 hzlt) (by
   have:=xI h' (o:={ cls:=.type "tuple",data:=.seq arr2.toList.toArray }) rfl
   simpa using this))
  have hz9:h8.objs.size=h'.objs.size+1:=by rw[hs8.1,hs7.1,Ry9]
  rw[M.sz] at hz8 hT8 hz9
  refine wpAny_pure ⟨_,rfl,?_⟩
  show Q (.ref h'.objs.size) _
  rw[M.sz]
  refine hQ (λi hi=>hxs i hi) h8 arr2 hz8 (up _ _ D.TOz hTO2) ha2 hv2 (λt ht=>?_) hT8 hz9 λc o c1 c2 c3 e=>up c o c1 (M.off c o c1 c2 c3 e)
  obtain⟨i,hi⟩:=Rh9 ht
  have:=M.it i t hi
  rw[if_pos (uS.mp hi).1] at this
  exact this.at λo e=>up _ o (D.it t ht).1 e
end
def ZSt(z TI TO:Addr)(L:List ZS)(i:Nat)(h:Heap):Prop:=
 IsZip h z TI TO .none/\o8 h TI (L.map λt=>Value.ref t.2.1).toArray/\(∃arr,o8 h TO arr/\arr.size=L.length)/\∀t∈L,SIt h t.1 t.2.1 t.2.2 i
abbrev aCt(k:Bool)(src:Addr):Obj:={ cls:=.type (if k=true then "list_iterator" else "tuple_iterator"),data:=.fields #[.ref src,.int 0 0] }
theorem SIt.new{h:Heap}{k:Bool}(e:h.get? it=some (aCt k src)):SIt h k it src 0:=by
 cases k with
 |true=>exact(show h.IsListIter it src 0 from⟨_,e,rfl,rfl⟩)
 |false=>exact(show h.IsTupleIter it src 0 from⟨_,e,rfl,rfl⟩)
section
variable{prog:Program}{w:World}{A:Around}{E:Value->Shared->Prop}{s:Shared}
theorem aCu{k:Bool}{Q:Value->Shared->Prop}(h:vC s.heap k src items)(hQ:Q (.ref s.heap.objs.size) { s with heap:=s.heap.push (aCt k src) }):wpAny (model prog w) A (pyIter (.ref src)) Q E s:=by
 cases k with
 |true=>exact wpAny_pyIter_list h hQ
 |false=>exact wpAny_pyIter_tuple h hQ
end
abbrev zg1(h:Heap)(t:Bool×Addr):Heap:=h.push (aCt t.1 t.2)
abbrev zg2(h:Heap)(t u:Bool×Addr):Heap:=(zg1 h t).push (aCt u.1 u.2)
abbrev zk1(h:Heap)(t u:Bool×Addr):Heap:=(zg2 h t u).push { cls:=.type "tuple",data:=.seq #[.ref h.objs.size,.ref (zg1 h t).objs.size] }
abbrev zk2(h:Heap)(t u:Bool×Addr):Heap:=(zk1 h t u).push { cls:=.type "tuple",data:=.seq #[.none,.none] }
abbrev zk3(h:Heap)(t u:Bool×Addr):Heap:=(zk2 h t u).push { cls:=.type "zip",data:=.fields #[.none,.bool false,.bool false,.ref (zg2 h t u).objs.size,.ref (zk1 h t u).objs.size] }
theorem aF8(t u:Bool×Addr)(xs ys:Array Value) :
  Meets (Builtin.«zip.__new__» ⟨[.type "zip",.ref t.2,.ref u.2],[]⟩) (λ_ R s=>vC s.heap t.1 t.2 xs/\vC s.heap u.1 u.2 ys/\
   R (.ok (.ret (.ref (zk2 s.heap t u).objs.size))) { s with heap:=zk3 s.heap t u }):=
 .of_wp λprog w A R s h=>by
  obtain⟨hp,g,d,tk,os⟩:=s;obtain⟨hl1,hl2,h⟩:=h
  have hsub:=sub_zip
  have hL1:vC (Shared.heap ⟨hp,g,d,tk,os⟩) t.1 t.2 xs:=hl1
  have hL2:vC (Shared.heap ⟨hp.push (aCt t.1 t.2),g,d,tk,os⟩) u.1 u.2 ys:=vC.at hl2 λo e=>kS _ e
  wp_walk using aCu hL1,aCu hL2
  exact⟨_,rfl,h⟩
section
variable{prog:Program}{w:World}{A:Around}{E:Value->Shared->Prop}{s:Shared}
theorem aHo{t u:Bool×Addr}{Q:Value->Shared->Prop}(h1:vC s.heap t.1 t.2 xs)(h2:vC s.heap u.1 u.2 ys)(h:∀h',ZSt (s.heap.objs.size+4) (s.heap.objs.size+2) (s.heap.objs.size+3) [(t.1,s.heap.objs.size,t.2),(u.1,s.heap.objs.size+1,u.2)] 0 h'->(∀c o,s.heap.get? c=some o->h'.get? c=some o)->Q (.ref (s.heap.objs.size+4)) { s with heap:=h' }) :
  wpAny (model prog w) A (call (.type "zip") [.ref t.2,.ref u.2]) Q E s:=by
 refine callType_new F.called_zip (by decide) (F.typeCall_zip_2 _ _) (F.newCall_zip_2 _ _) (λobj=>F.args_object_init_3 obj _ _) F.entry_zip_new
  (aF8 t u xs ys) ⟨h1,h2,?_⟩
 have z1:(zg1 s.heap t).objs.size=s.heap.objs.size+1:=Ry9 ..
 have z2:(zg2 s.heap t u).objs.size=s.heap.objs.size+2:=by rw[Ry9,z1]
 have z3:(zk1 s.heap t u).objs.size=s.heap.objs.size+3:=by rw[Ry9,z2]
 have z4:(zk2 s.heap t u).objs.size=s.heap.objs.size+4:=by rw[Ry9,z3]
 have g5:(zk3 s.heap t u).get? (zk2 s.heap t u).objs.size=some _:=xI _ rfl
 have g4:(zk3 s.heap t u).get? (zk1 s.heap t u).objs.size=some _:=kS _ (xI _ rfl)
 have g3:(zk3 s.heap t u).get? (zg2 s.heap t u).objs.size=some _:=kS _ (kS _ (xI _ rfl))
 have g2:(zk3 s.heap t u).get? (zg1 s.heap t).objs.size=some (aCt u.1 u.2):=kS _ (kS _ (kS _ (xI _ rfl)))
 have g1:(zk3 s.heap t u).get? s.heap.objs.size=some (aCt t.1 t.2):=kS _ (kS _ (kS _ (kS _ (xI _ rfl))))
 show _/\_
 rw[z2,z3,z4] at g5
 rw[z1,z2] at g3
 rw[z3] at g4
 rw[z1] at g2
 rw[z4]
 refine⟨⟨_,g5,rfl⟩,h _ ⟨g5,g3,⟨_,g4,rfl⟩,λx hx=>?_⟩ λc o x=>
  kS _ (kS _ (kS _ (kS _ (kS _ x))))⟩
 simp only[xJ,Sf9,or_false] at hx
 rcases hx with rfl|rfl
 ·exact SIt.new g1
 ·exact SIt.new g2
end
theorem aEN{n a b:Nat}(h:a≠b):@Ne Addr (n+a) (n+b):=λe=>h (Nat.add_left_cancel e)
theorem za2(n:Nat)(t u:Bool×Addr):ZA (n+4) (n+2) (n+3) [(t.1,n,t.2),(u.1,n+1,u.2)]:=by
 refine⟨aEN (by decide),aEN (by decide),aEN (by decide),λx hx=>?_,?_⟩
 ·simp only[xJ,Sf9,or_false] at hx
  rcases hx with rfl|rfl
  ·exact⟨aEN (a:=0) (by decide),aEN (a:=0) (by decide),aEN (a:=0) (by decide)⟩
  ·exact⟨aEN (by decide),aEN (by decide),aEN (by decide)⟩
 ·simp
end L2
namespace L2
open PySem PySem.Spec PyProof.Rows
def Src(H:Hp)(k:Bool)(a:Addr)(xs:List V):Prop:=H a=some (if k=true then .lst xs else .tup xs)
theorem Src.inj{k:Bool}(h:Src H k a xs)(h':Src H k a ys):xs=ys:=by
 unfold Src at h h'
 rw[h] at h'
 cases k with
 |true=>injection h' with e;injection e
 |false=>injection h' with e;injection e
theorem Src.lst{H:Hp}{a:Addr}{xs:List V}(h:H a=some (.lst xs)):Src H true a xs:=h
theorem Src.tup{H:Hp}{a:Addr}{xs:List V}(h:H a=some (.tup xs)):Src H false a xs:=h
theorem Inv.src{s:Shared}{k:Bool}{xs:List V}(I:Inv X pins σ H s)(h:Src H k a xs):∃its:List Value,Vals xs its/\vC s.heap k a its.toArray/\xs.length<=sizeLine:=by
 cases k with
 |true=>
  obtain⟨its,r,p,z⟩:=I.list (bS.of h)
  exact⟨its,r,p.isList,z⟩
 |false=>
  obtain⟨its,r,p,z⟩:=I.tuple (mX.of h)
  exact⟨its,r,p,z⟩
theorem aBj:∀{xs:List V}{us:List Value},xs.length=us.length->(∀(j:Nat) (x:V) (u:Value),xs[j]?=some x->us[j]?=some u->RelV x u)->Vals xs us
 |[],[],_,_=>.nil
 |x::xs,u::us,h,f=>.cons (f 0 x u rfl rfl) (aBj (by simpa using h) λj y v h1 h2=>f (j+1) y v (by simpa using h1) (by simpa using h2))
 |[],_::_,h,_=>by cases h
 |_::_,[],h,_=>by cases h
def ItZ(L:List (Bool×Addr)):It:=
 ⟨λi H=>∀t∈L,∃xs x,Src H t.1 t.2 xs/\xs[i]?=some x,
  λi H v H'=>∃T vs,H T=none/\v=.ref T/\H'=upd H T (.tup vs)/\vs.length=L.length/\∀(j:Nat) (t:Bool×Addr) (xs:List V),L[j]?=some t->Src H t.1 t.2 xs->∃x,xs[i]?=some x/\vs[j]?=some x,
  λi H=>(∀t∈L,∃xs,Src H t.1 t.2 xs)/\∃t∈L,∃xs,Src H t.1 t.2 xs/\xs.length<=i⟩
def zL(L:List ZS):List (Bool×Addr):=L.map λt=>(t.1,t.2.2)
theorem aKB{t:ZS}(h:t∈L):(t.1,t.2.2)∈zL L:=sR.mpr ⟨t,h,rfl⟩
theorem aOP{L:List ZS}{j:Nat}{t:Bool×Addr}(h:(zL L)[j]?=some t):∃u,L[j]?=some u/\t=(u.1,u.2.2):=by
 unfold zL at h
 rw[nK] at h
 cases e:L[j]? with
 |none=>rw[e] at h;cases h
 |some u=>rw[e] at h;cases h;exact⟨u,rfl,rfl⟩
abbrev zFp(z TI TO:Addr)(L:List ZS):List Addr:=z::TI::TO::L.map (·.2.1)
theorem aCv{z TI TO:Addr}{L:List ZS}{t:ZS}(h:t∈L):t.2.1∈zFp z TI TO L:=by
 simp only[zFp,xJ]
 exact .inr (.inr (.inr (sR.mpr ⟨t,h,rfl⟩)))
theorem ZSt.obj{z TI TO:Addr}{L:List ZS}{i:Nat}{h:Heap}(st:ZSt z TI TO L i h):∀b∈zFp z TI TO L,∃o,h.get? b=some o/\∀v,o.data≠.cell v:=λb hb=>by
 obtain⟨hz,hTI,⟨arr,hTO,_⟩,hit⟩:=st
 simp only[zFp,xJ] at hb
 rcases hb with rfl|rfl|rfl|hb
 ·exact⟨_,hz,λv z=>by cases z⟩
 ·exact⟨_,hTI,λv z=>by cases z⟩
 ·exact⟨_,hTO,λv z=>by cases z⟩
 ·obtain⟨t,ht,rfl⟩:=sR.mp hb
  obtain⟨o,vs,e,d⟩:=(hit t ht).obj
  exact⟨o,e,λv z=>by rw[d] at z;cases z⟩
theorem aI9{P:Program}{w:World}{K:W.Frag}{elts:List Expr}{x1:Nat}{tp:Pos}(L:List ZS)(z TI TO:Addr)(D:ZA z TI TO L)(hne:L≠[])(hlen:L.length<=1000) :
  Turn P w K (.Tuple elts x1 tp) (ItZ (zL L)) (zFp z TI TO L) z (ZSt z TI TO L) where
 mem:=by simp[zFp]
 obj:=λi h st=>st.obj
 keep:=λi h h' st k=>by
  obtain⟨hz,hTI,⟨arr,hTO,ha⟩,hit⟩:=st
  exact⟨k z (by simp[zFp]) _ hz,k TI (by simp[zFp]) _ hTI,⟨arr,k TO (by simp[zFp]) _ hTO,ha⟩,λt ht=>(hit t ht).at λo q=>k _ (aCv ht) o q⟩
 item:=by
  intro X hP hw hK hc i pins s σ H E I hf st hg
  subst hP hw hK
  have lts:∀b∈zFp z TI TO L,b < s.heap.objs.size:=λb hb=>by obtain⟨o,e,_⟩:=st.obj b hb;exact jU e
  obtain⟨hz,hTI,⟨arr,hTO,harr⟩,hit⟩:=st
  have key:∀j:Nat,∃r:List Value×Value×V,∀t,L[j]?=some t->vC s.heap t.1 t.2.2 r.1.toArray/\(∀xs,Src H t.1 t.2.2 xs->xs[i]?=some r.2.2)/\r.1[i]?=some r.2.1/\RelV r.2.2 r.2.1/\t.2.2∉zFp z TI TO L:=λj=>by
   cases e:L[j]? with
   |none=>exact⟨([],.none,.non),λt h=>by cases h⟩
   |some t=>
    obtain⟨xs,x,hs,hx⟩:=hg _ (aKB (vD e))
    obtain⟨its,r,src,_⟩:=I.src hs
    obtain⟨u,hu,ru⟩:=r.get hx
    refine⟨(its,u,x),λt' h=>?_⟩
    cases h
    refine⟨src,λys hy=>by rw[hy.inj hs];exact hx,hu,ru,λhm=>?_⟩
    have:=(hf _ hm).1
    unfold Src at hs
    rw[show H t.2.2=some (if t.1=true then .lst xs else .tup xs) from hs] at this
    cases this
  obtain⟨f,hfk⟩:=Classical.axiomOfChoice key
  have S:aON z TO L:=λt ht=>by
   obtain⟨j,hj⟩:=Rh9 ht
   have n:=(hfk j t hj).2.2.2.2
   refine⟨λe=>n (by rw[e];simp[zFp]),λe=>n (by rw[e];simp[zFp]),λu hu e=>n (by rw[e];exact aCv hu)⟩
  have inL:∀j,j < L.length->∃t,L[j]?=some t:=λj hj=>⟨_,fH hj⟩
  unfold pyNext
  have hT:s.TypeIs (.ref z) "zip":=⟨_,hz,rfl⟩
  refine wpAny_bind (wpAny_attempt (wpAny_callSpecial?_slot (name:=Str.ofString "__next__") hT F.slot_zip_next
   (wpAny_call_entry F.slot_zip_next hT F.entry_zip_next (aF7 (items:=λj=>(f j).1.toArray) (xs:=λj=>(f j).2.1) (I.ok.hd hc) D S hne hlen hz hTI hTO harr hit (λj t hj=>(hfk j t hj).1) (λj hj x hx=>?_)
    (λ_ h1 arr' a1 a2 a3 a4 a5 a6 a7 hk=>wpAny_pure ⟨_,rfl,wpAny_letOwnedTupleGo_zip a1 λg2 hz2 hs2=>?_⟩) (λhE=>?_)) (F.args_zip_next_1 _))))
  ·obtain⟨t,ht⟩:=inL j hj
   have e:=(hfk j t ht).2.2.1
   have hx':(f j).1[i]?=some x:=by simpa using hx
   rw[e] at hx'
   exact(Option.some.inj hx').symm
  ·replace hs2:Heap.SameBut z h1 g2:=hs2
   have hT2:g2.IsTuple s.heap.objs.size arr':=⟨_,(hs2.2 _ (Sg9 (lts z (by simp[zFp])))).trans a6,rfl,_,rfl⟩
   have kk:∀b o,b∉zFp z TI TO L->s.heap.get? b=some o->g2.get? b=some o:=λb o hb q=>by
    have n1:b≠z:=λe=>hb (by rw[e];simp[zFp])
    exact(hs2.2 b n1).trans (hk b o n1 (λe=>hb (by rw[e];simp[zFp])) (λt ht e=>hb (by rw[e];exact aCv ht)) q)
   have rv:Vals ((List.range L.length).map λj=>(f j).2.2) arr'.toList:=by
    refine aBj (by simp[a3]) λj x u hx hu=>?_
    rw[nK] at hx
    by_cases hj:j < L.length
    ·rw[Tb9 hj] at hx
     cases hx
     obtain⟨t,ht⟩:=inL j hj
     have e:=a4 j hj
     have hu':arr'[j]?=some u:=by simpa using hu
     rw[e] at hu'
     cases hu'
     exact(hfk j t ht).2.2.2.1
    ·rw[Rs9 (by simpa using hj)] at hx
     cases hx
   have I2:Inv X pins σ (upd H s.heap.objs.size (.tup ((List.range L.length).map λj=>(f j).2.2))) { s with heap:=g2 }:=
    I.aAW (t':=s.toks) kk hf (fJ _) (show bW X.prog X.w _ g2 _ (.tup _) from⟨cZ (by simp;omega),arr'.toList,rv,by simpa using show IsTup g2 s.heap.objs.size arr' from hT2⟩)
   have hfr:H s.heap.objs.size=none:=I.hok.fresh (fJ _)
   refine⟨.ref s.heap.objs.size,_,I2,rfl,⟨_,_,hfr,rfl,rfl,by simp[zL],λj t xs hj hs=>?_⟩,⟨hz2,?_,⟨arr',hs2.extBut _ _ D.TOz a2,a3⟩,λt ht=>(a5 t ht).at λo q=>(hs2.2 _ (D.it t ht).1).trans q⟩,λb hb=>?_⟩
   ·obtain⟨u,hu,rfl⟩:=aOP hj
    have hjl:j < L.length:=(uS.mp hu).1
    refine⟨(f j).2.2,(hfk j u hu).2.1 xs hs,?_⟩
    rw[nK,Tb9 hjl]
    rfl
   ·exact hs2.extBut _ _ D.TIz (hk _ _ D.TIz D.TITO (λt ht=>Ne.symm (D.it t ht).2.1) hTI)
   ·rw[aU (vE (lts b hb))]
    exact(hf b hb).1
  ·exfalso
   obtain⟨j,hj,e⟩:=hE
   obtain⟨t,ht⟩:=inL j hj
   have e':(f j).1[i]?=none:=by simpa using e
   rw[(hfk j t ht).2.2.1] at e'
   cases e'
 done:=by
  intro X hP hw hK hc i pins s σ H E I hf st hg
  subst hP hw hK
  obtain⟨hz,hTI,⟨arr,hTO,harr⟩,hit⟩:=st
  obtain⟨hall,t0,ht0,xs0,hs0,hl0⟩:=hg
  have key:∀j:Nat,∃r:List Value,∀t,L[j]?=some t->vC s.heap t.1 t.2.2 r.toArray/\(∀xs,Src H t.1 t.2.2 xs->xs.length=r.length)/\t.2.2∉zFp z TI TO L:=λj=>by
   cases e:L[j]? with
   |none=>exact⟨[],λt h=>by cases h⟩
   |some t=>
    obtain⟨xs,hs⟩:=hall _ (aKB (vD e))
    obtain⟨its,r,src,_⟩:=I.src hs
    refine⟨its,λt' h=>?_⟩
    cases h
    refine⟨src,λys hy=>by rw[hy.inj hs];exact r.length,λhm=>?_⟩
    have:=(hf _ hm).1
    unfold Src at hs
    rw[show H t.2.2=some (if t.1=true then .lst xs else .tup xs) from hs] at this
    cases this
  obtain⟨f,hfk⟩:=Classical.axiomOfChoice key
  have S:aON z TO L:=λt ht=>by
   obtain⟨j,hj⟩:=Rh9 ht
   have n:=(hfk j t hj).2.2
   refine⟨λe=>n (by rw[e];simp[zFp]),λe=>n (by rw[e];simp[zFp]),λu hu e=>n (by rw[e];exact aCv hu)⟩
  unfold pyNext
  have hT:s.TypeIs (.ref z) "zip":=⟨_,hz,rfl⟩
  refine wpAny_bind (wpAny_attempt (wpAny_callSpecial?_slot (name:=Str.ofString "__next__") hT F.slot_zip_next
   (wpAny_call_entry F.slot_zip_next hT F.entry_zip_next (aF7 (items:=λj=>(f j).toArray) (xs:=λj=>((f j)[i]?).getD .none) (I.ok.hd hc) D S hne hlen hz hTI hTO harr hit (λj t hj=>(hfk j t hj).1) (λj hj x hx=>?_)
    (λhall'=>?_) (λhE h1 e hk he=>?_)) (F.args_zip_next_1 _))))
  ·have hx':(f j)[i]?=some x:=by simpa using hx
   rw[hx'];rfl
  ·exfalso
   obtain⟨u,hu,rfl⟩:=sR.mp ht0
   obtain⟨j,hj⟩:=Rh9 hu
   have e1:=(hfk j u hj).2.1 xs0 hs0
   have e2:=hall' j (uS.mp hj).1
   have e3:(f j)[i]?=some (((f j)[i]?).getD .none):=by simpa using e2
   rw[Rs9 (by omega)] at e3
   cases e3
  ·obtain⟨o,ho,hcl⟩:=he
   refine wpAny_bind (wpAny_isInstance (T:="StopIteration") (b:=true) ⟨o,ho,hcl⟩ isSubtype_stop ?_)
   refine wpAny_pure ⟨rfl,I.aI7 (t':=s.toks) (ch:=zFp z TI TO L) (λb o hb q=>?_) hf⟩
   exact hk b o (λe=>hb (by rw[e];simp[zFp])) (λe=>hb (by rw[e];simp[zFp])) (λt ht e=>hb (by rw[e];exact aCv ht)) q
 self:=λ_ _ _ _ _ st h=>wpAny_pyIter_zip st.1 h
section
variable{X:Cx}{elts:List Expr}{x1:Nat}{tp:Pos}{k1 k2 k3:Bool}
def aOQ(k1 k2:Bool)(R:It->Hp->Prop):List V->Hp->Prop:=λvs H1=>∃a b xs ys,vs=[.ref a,.ref b]/\Src H1 k1 a xs/\Src H1 k2 b ys/\R (ItZ [(k1,a),(k2,b)]) H1
def aKC(k1 k2:Bool)(ta:TA):TI:=λσ H R=>ta σ H (aOQ k1 k2 R)
theorem aMC{a b:Expr}{ta:TA}{p pos:Pos}(hg:Gl X "zip")(hm:X.mg "zip" = none)(ha:PA X [a,b] ta)(hn:noStar a=true:=by rfl)(hn2:noStar b=true:=by rfl):PI X (.Tuple elts x1 tp) (.Call (.Name "zip" p) [a,b] [] pos) (aKC k1 k2 ta):=by
 intro pins s σ H R I h
 have hs2:starEach [b] X.env=[(false,eval b X.env)]:=bO hn2
 have hs:starEach [a,b] X.env=[(false,eval a X.env),(false,eval b X.env)]:=by rw[bO hn,hs2]
 refine Call_ (rM I hg hm aOM (PyProof.Rows.callWith_type1 (dI (ha pos pins s σ H _ I h) λus s1 ⟨vs,H1,I1,r1,q1⟩=>?_) (by rw[hs,hs2]) (by rw[hs2];rfl)))
 obtain⟨l1,l2,xs,ys,e,hq1,hq2,q⟩:=q1
 subst e
 obtain⟨u,v,rfl,ru,rv⟩:=vals2 r1
 cases ru
 cases rv
 obtain⟨its,_,pl,_⟩:=I1.src hq1
 obtain⟨its2,_,pl2,_⟩:=I1.src hq2
 refine aHo (t:=(k1,l1)) (u:=(k2,l2)) pl pl2 λh' st hk=>?_
 refine wpAny_pyIter_zip st.1 ?_
 refine⟨_,_,_,_,H1,rfl,I1.kept (t':=s1.toks) hk,aI9 _ _ _ _ (za2 s1.heap.objs.size (k1,l1) (k2,l2)) (by simp) (by simp),st,λb hb=>?_,q⟩
 have hle:s1.heap.objs.size<=b:=by
  simp only[zFp,Rb9,Te9,xJ,Sf9,or_false] at hb
  rcases hb with rfl|rfl|rfl|rfl|rfl <;> first|exact Nat.le_add_right _ _|exact fJ _
 exact I1.aFJ hle (I1.hok.fresh hle)
end
section
variable{σ:St}{H:Hp}{nx:St->Hp->Prop}{rt:VK}{g:TG}{tb:TS}{Q:VK}{k1 k2 k3:Bool}{a b c:Addr}{xs ys zs:List V}{n:Nat}
theorem aKD{R:It->Hp->Prop}(h:ta σ H (aOQ k1 k2 R)):aKC k1 k2 ta σ H R:=h
theorem aKE{R:It->Hp->Prop}(h1:Src H k1 a xs)(h2:Src H k2 b ys)(h:R (ItZ [(k1,a),(k2,b)]) H):aOQ k1 k2 R [.ref a,.ref b] H:=⟨a,b,xs,ys,rfl,h1,h2,h⟩
theorem aMD{i:Nat}(h1:Src H k1 a xs)(h2:Src H k2 b ys)(e1:xs[i]?=some x)(e2:ys[i]?=some y):(ItZ [(k1,a),(k2,b)]).go i H:=λt ht=>by
 simp only[xJ,Sf9,or_false] at ht
 rcases ht with rfl|rfl
 ·exact⟨xs,x,h1,e1⟩
 ·exact⟨ys,y,h2,e2⟩
theorem aKF{i:Nat}(h1:Src H k1 a xs)(h2:Src H k2 b ys)(h:(ItZ [(k1,a),(k2,b)]).yld i H v H'):∃T x y,H T=none/\v=.ref T/\H'=upd H T (.tup [x,y])/\xs[i]?=some x/\ys[i]?=some y:=by
 obtain⟨T,vs,nT,e1,e2,hl,hv⟩:=h
 obtain⟨x,hx,v0⟩:=hv 0 _ xs rfl h1
 obtain⟨y,hy,v1⟩:=hv 1 _ ys rfl h2
 match vs,hl with
 |[p,q],_=>cases v0;cases v1;exact⟨T,_,_,nT,e1,e2,hx,hy⟩
theorem aJa{i:Nat}(h1:Src H k1 a xs)(h2:Src H k2 b ys)(hm:xs.length<=i\/ys.length<=i):(ItZ [(k1,a),(k2,b)]).stop i H:=by
 refine⟨λt ht=>?_,?_⟩
 ·simp only[xJ,Sf9,or_false] at ht
  rcases ht with rfl|rfl
  ·exact⟨xs,h1⟩
  ·exact⟨ys,h2⟩
 ·rcases hm with h|h
  ·exact⟨(k1,a),by simp,xs,h1,h⟩
  ·exact⟨(k2,b),by simp,ys,h2,h⟩
end
section
variable{σ₀:St}{g:TG}{tt:TT}{te:TE}{R:List V->Hp->Prop}{H:Hp}{k1 k2 k3:Bool}{a b c:Addr}{xs ys zs:List V}{n:Nat}
theorem aEe(n1:n<=xs.length)(n2:n<=ys.length)(nm:xs.length=n\/ys.length=n)(hz:n<=sizeLine)(Pv:Nat->List V->Hp->Prop)(h0:Pv 0 [] H)
  (hl:∀i us H,i<=n->Pv i us H->(Src H k1 a xs/\Src H k2 b ys)/\us.length<=i)
  (hs:∀i x y us H T,xs[i]?=some x->ys[i]?=some y->Pv i us H->H T=none->g (.ref T) σ₀ (upd H T (.tup [x,y])) λσ2 H2=>tt σ2 H2 λb H3=>if b=true then te σ2 H3 λy H4=>Pv (i+1) (us ++ [y]) H4 else Pv (i+1) us H3)
  (hd:∀us H,Pv n us H->R us H):rO (ItZ [(k1,a),(k2,b)]) σ₀ g tt te R H:=by
 refine⟨λi m us H=>m=n - i/\i<=n/\Pv i us H,⟨n,by simp,Rr9 _,h0⟩,?_⟩
 rintro i m us H ⟨rfl,hi,p⟩
 obtain⟨⟨q1,q2⟩,ql⟩:=hl i us H hi p
 refine⟨by omega,?_⟩
 by_cases hlt:i < n
 ·refine .inr ⟨aMD q1 q2 (fH (show i < xs.length by omega)) (fH (show i < ys.length by omega)),Pv (i+1),λus' H' p'=>⟨n - (i+1),by omega,rfl,hlt,p'⟩,λx H' y=>?_⟩
  obtain⟨T,u,v,hT,e1,e2,y1,y2⟩:=aKF q1 q2 y
  subst e1 e2
  exact hs i u v us H T y1 y2 p hT
 ·have e:i=n:=by omega
  subst e
  exact .inl ⟨aJa q1 q2 (by omega),hd us H p⟩
end
section
variable{X:Cx}
def aHp(K:W.Frag):List V->Hp->VK->Prop:=λxs H Q=>∃p ys,xs=[.ref p]/\((bS K H p ys/\∀l,H l=none->Q (.ref l) (upd H l (.tup ys)))\/(mX K H p ys/\Q (.ref p) H))
theorem aJb:eN X (.type "tuple") (aHp X.K):=aDs
theorem aME{K:W.Frag}{H:Hp}{Q:VK}{p:Addr}{ys:List V}(h1:bS K H p ys)(h:∀l,H l=none->Q (.ref l) (upd H l (.tup ys))):aHp K [.ref p] H Q:=⟨p,ys,rfl,.inl ⟨h1,h⟩⟩
structure Isi(K:W.Frag)(C:Addr):Prop where
 ha:PySem.W.findIn K (.ref C) "__class__" = some (some (.builtin "object.__class__"))
 hn:PySem.W.specialIn K (.builtin "object.__class__") "__get__" = some (some (.builtin "getset_descriptor.__get__"))
 htk:PySem.W.takesIn K (.builtin "object.__class__")=some true
 hm:PySem.W.mroIn K C (.type "object")=some true
theorem aIa{K:W.Frag}{H:Hp}{a C dx:Addr}{fs:List (Str×V)}(i:Isi K C)(c:Cls K C)(e:H a=some (.ins C dx fs)):IsI K H (.ref a) (.ref C) true:=
 ⟨.ref C,.ins e c i.ha i.hn i.htk i.hm,.inr ⟨C,rfl,by unfold PySem.W.kitOne;rw[if_pos (by simp)]⟩⟩
end
end L2
namespace L2.Z
open PySem PySem.Spec PyProof.Rows L2
section
variable{X:Cx}{p pos tp:Pos}{a b c:Expr}{elts:List Expr}{t:TA}{x1:Nat}{k1 k2 k3:Bool}
theorem aCw(hg:Gl X "zip")(hm:X.mg "zip" = none)(ha:QA X [a,b] t)(hn:noStar a=true:=by rfl)(hn2:noStar b=true:=by rfl):QI X (.Tuple elts x1 tp) (.Call (.Name "zip" p) [a,b] [] pos) (aKC k1 k2 t):=⟨L2.aMC hg hm ha.h hn hn2⟩
theorem aEf{i j:Nat}{x y:Str}{px py pt:Pos}{kt k2 pt2}(hc:X.calm=true)(hN:X.N.Nodup)(hi:X.N[i]?=some x)(hj:X.N[j]?=some y)(hij:i≠j)
  (hx:X.env.scope.names.lookup x=some .local) (hy:X.env.scope.names.lookup y=some .local) (ha:QA X [a,b] t)
  (hw:swappedStores [.Tuple [.Name x px,.Name y py] kt pt] (.Tuple [a,b] k2 pt2) X.env=pure (some [x,y]):=by rfl)
  (hs:swapsWithSole [.Tuple [.Name x px,.Name y py] kt pt] (.Tuple [a,b] k2 pt2) pos.line X.env=pure false:=by rfl) :
  QS X (.Assign [.Tuple [.Name x px,.Name y py] kt pt] (.Tuple [a,b] k2 pt2) pos) (aNJ i j t):=⟨L2.aNK hc hN hi hj hij hx hy ha.h hw hs⟩
end
end L2.Z
namespace L2
open PySem PySem.Spec PyProof.Rows
theorem nw(o:HO)(n:H p=none):∃H2,upd H p o=H2/\aQ H H2/\H2 p=some o:=⟨_,rfl,aQ.new n,aL⟩
theorem wr(H:Hp)(p:Addr)(o:HO):∃H2,upd H p o=H2/\bM p H H2/\H2 p=some o:=⟨_,rfl,bM.upd,aL⟩
theorem nwi{H:Hp}{x dx C:Addr}(nx:H x=none)(nd:H dx=none)(hd:dx≠x):∃H2,upd (upd H dx (.own x)) x (.ins C dx [])=H2/\aQ H H2/\H2 x=some (.ins C dx []):=
 ⟨_,rfl,λb o e=>by rw[aU (bG nx e),aU (bG nd e)];exact e,aL⟩
end L2
namespace L2
open PySem PySem.Spec PyProof.Rows
end L2
namespace L2
open PySem PySem.Spec PyProof.Rows
def Nx(N:St->Hp->Prop)(σ:St)(H:Hp):Prop:=N σ H
structure Tail(N b:St->Hp->Prop):Prop where
 h:∀σ H,b σ H->N σ H
theorem aMF{nx bk ct:St->Hp->Prop}{t u:TS}(h:∀N,Tail N (u ⟨nx,rt,bk,ct⟩)->t ⟨Nx N,rt,bk,ct⟩ σ H):aJD t u ⟨nx,rt,bk,ct⟩ σ H:=h _ ⟨λ_ _ h=>h⟩
theorem aPI{N b:St->Hp->Prop}(t:Tail N b)(h:b σ H):Nx N σ H:=t.h _ _ h
end L2
namespace L2
open PySem PySem.Spec PyProof.Rows
section
variable{prog:Program}{w:World}{A:Around}{E:Value->Shared->Prop}{s:Shared}{K:W.Frag}{x C:Addr}{ox:Obj}{od:Option Obj}
end
section
variable{X:Cx}
end
end L2
namespace L2
open PySem PySem.Spec PyProof.Rows
section
variable{X:Cx}{pins:List (Addr×Obj)}{σ:St}{H:Hp}{s:Shared}
end
theorem bW.obj{h:Heap}(x:bW P w H h a o):∃u,h.get? a=some u:=by
 cases o with
 |lst xs=>obtain⟨_,_,_,_,e⟩:=x;exact⟨_,e⟩
 |tup xs=>obtain⟨_,_,_,u,e,_⟩:=x;exact⟨u,e⟩
 |dK kvs=>obtain⟨_,_,_,_,u,_,_,e,_⟩:=x;exact⟨u,e⟩
 |dT kvs=>obtain⟨_,_,_,_,u,_,_,e,_⟩:=x;exact⟨u,e⟩
 |set S n=>obtain⟨u,_,_,_,e,_⟩:=x;exact⟨u,e⟩
 |ins C dx fs=>obtain⟨_,_,_,e,_⟩:=x;exact⟨_,e⟩
 |own y=>exact x
 |xd fs=>obtain⟨_,⟨u,_,_,e,_⟩,_⟩:=x;exact⟨u,e⟩
 |rng lo hi=>obtain⟨_,_,_,e⟩:=x;exact⟨_,e⟩
 |frz ob u=>exact⟨_,x.1⟩
 |tbl ps=>exact⟨_,x⟩
 |met f y=>exact⟨_,x⟩
 |ext φ=>exact x.2.1
 |cod q=>obtain⟨o,_,_,e,_⟩:=x;exact⟨o,e⟩
 |ctb pos q=>obtain⟨_,e,_⟩:=x;exact⟨_,e⟩
theorem Inv.aPJ{X:Cx}{pins:List (Addr×Obj)}{σ:St}{H:Hp}{s:Shared}{h':Heap}{a:Addr}{o:HO}{t':Nat}(I:Inv X pins σ H s)(k:∀b u,s.heap.get? b=some u->h'.get? b=some u)(hne:∀b u,s.heap.get? b=some u->b≠a)
  (new:bW X.prog X.w (upd H a o) h' a o):H a=none/\Inv X pins σ (upd H a o) { s with heap:=h',toks:=t' }:=by
 have hn:H a=none:=by
  cases e:H a with
  |none=>rfl
  |some u=>
   obtain⟨ob,z⟩:=(I.hok a u e).obj
   exact absurd rfl (hne a ob z)
 refine⟨hn,I.un ⟨λb u q _ _ _=>k b u q,λb u q _ _ _=>⟨u.slots,k b u q⟩,λb u q n _=>?_,λb u q _=>⟨u,k b u q⟩,λb xs q=>?_,λb u xs q=>?_,λb ps q=>⟨#[],?_⟩⟩ λb u e=>?_⟩
 ·rw[aU (hne b u q)];exact n
 ·rw[aU (bI q hn)];exact q
 ·rw[aU (bI q hn)];exact q
 ·rw[aU (bI q hn),q];simp
 ·by_cases hb:b=a
  ·subst hb;rw[aL] at e;cases e;exact new
  ·rw[aU hb] at e
   exact(I.hok b u e).aCd (λc v _ q=>k c v q) (λc q=>by rw[aU (bI q hn)];exact q) λc xs _ q=>by rw[aU (bI q hn)];exact q
section
variable{X:Cx}{tg:Expr}
end
section
variable{σ:St}{H:Hp}{nx:St->Hp->Prop}{rt:VK}{g:TG}{tb:TS}
end
section
variable{X:Cx}
end
section
variable{X:Cx}{o e:Expr}{to:TE}{apos cpos:Pos}
end
section
variable{K:W.Frag}{σ:St}{H:Hp}{Q:VK}
end
end L2
namespace L2.Z
open PySem PySem.Spec PyProof.Rows
section
variable{X:Cx}{K':W.Frag}{tg o i value l:Expr}{to td ty tv tl:TE}{pos pos' apos cpos:Pos}
theorem y8(hu:X.A.units+9 < cLine)(ho:QE X o td)(hi:QE X i ty)(hv:QE X value tv)(hs:swapsWith value (some (.Subscript o i pos')) pos.line X.env=pure false:=by rfl) :
  QS X (.Assign [.Subscript o i pos'] value pos) (aJ4 td ty tv):=⟨L2.aL1 (by omega) ho.h hi.h hv.h hs⟩
end
end L2.Z
namespace L2
open PySem PySem.Spec PyProof.Rows
section
variable{σ:St}{H:Hp}{Q:VK}{nx bk ct:St->Hp->Prop}{rt:VK}
theorem aMG(h:tv σ H λv H1=>td σ H1 λx H2=>ty σ H2 λy H3=>∃a H4,x=.ref a/\aCm H3 a y v H4/\nx σ H4):aJ4 td ty tv ⟨nx,rt,bk,ct⟩ σ H:=h
end
end L2
namespace L2
open PySem PySem.Spec PyProof.Rows
section
variable{prog:Program}{w:World}{A:Around}{E:Value->Shared->Prop}{s:Shared}{K:W.Frag}{x C:Addr}{ox:Obj}{od:Option Obj}{name:Str}{v:Value}{expr:Bool}
end
section
variable{prog:Program}{w:World}{A:Around}{E:Value->Shared->Prop}{s:Shared}{K:W.Frag}{x C:Addr}{o:Obj}{name:Str}{v:Value}
open PySem.Builtin PySem.Builtin.ObjectAttr in
end
section
variable{prog:Program}{w:World}{A:Around}{E:Value->Shared->Prop}{s:Shared}{K:W.Frag}
variable{nm q:Str}{C N fI:Addr}{bs bm bmB:List Value}{hdct:Bool}{sn:List Str}{sub:List Value}{ab:Bool}{col:Option Bool}{dd:Option Addr}{k0 k1 k2 k3 k5:Option Value}{B newId initId:String}
end
section
variable{M:Model}{A:Around}{E:Value->Shared->Prop}{s:Shared}{base:Heap}{env:Env}{outer:List Env}{L e:Addr}{oe:Obj}{vs:Array Value}{Q:Unit->Shared->Prop}
end
def aP6(C:Addr)(od:Option Addr)(e:Addr):HO:=.ext λh=>∃o vs,h.get? e=some o/\o.cls=.ref C/\o.dict=od/\o.data=.fields vs
section
variable{X:Cx}{pins:List (Addr×Obj)}{σ:St}{H:Hp}{s:Shared}{h':Heap}{C e:Addr}{od:Option Addr}{oe:Obj}
end
end L2
namespace L2
open PySem PySem.Spec PyProof.Rows
section
variable{X:Cx}{pins:List (Addr×Obj)}{σ:St}{H:Hp}{s:Shared}
end
end L2
namespace L2
open PySem PySem.Spec PyProof.Rows
section
variable{X:Cx}{k:Nat}{f C:Addr}{fd:FuncData}{ps:List Str}{sp:Sp}{x:Str}{p pos:Pos}{e:Expr}{es:List Expr}{t:TA}{te:TE}
end
end L2
namespace L2
open PySem PySem.Spec PyProof.Rows
section
variable{X:Cx}{o e value:Expr}{f:Str}{pos pos':Pos}{ta tv:TE}
end
end L2
namespace L2
open PySem PySem.Spec PyProof.Rows
section
variable{prog:Program}{w:World}{A:Around}{E:Value->Shared->Prop}{s:Shared}{K:W.Frag}{x D:Addr}{ox:Obj}{odo:Option Obj}
end
def aA0(H:Hp)(od:Option Addr):Prop:=∀dx,od=some dx->∃fs,H dx=some (.xd fs)
theorem aA0.none:aA0 H none:=λ_ z=>nomatch z
theorem aA0.some(h:H dx=some (.xd fs)):aA0 H (some dx):=λ_ z=>by cases z;exact⟨fs,h⟩
theorem aA0.there{P:Program}{w:World}{H:Hp}{h:Heap}{od:Option Addr}(hok:vB P w H h)(d:aA0 H od):∀dx,od=Option.some dx->∃o,h.get? dx=Option.some o:=λdx z=>by
 obtain⟨fs,e⟩:=d dx z
 exact(hok dx _ e).obj
section
variable{X:Cx}{K:W.Frag}{H:Hp}{Q:VK}
end
end L2
namespace L2
open PySem PySem.Spec PyProof.Rows
abbrev TW:=St->Hp->Addr->Prop
structure aOR(X:Cx)(pins:List (Addr×Obj))(T:Addr):Prop where
 up:X.s₀.heap.objs.size<=T
 loc:T≠X.env.locals
 cell:∀x c,X.env.cells.lookup x=some c->c≠T
 pin:∀p∈X.pn++pins,p.1≠T
structure aP7(X:Cx)(pins:List (Addr×Obj))(H:Hp)(h:Heap)(e:Addr):Prop where
 ex:∃(C:Addr) (od:Option Addr) (oe:Obj) (vs:Array Value) (T:Addr) (oT:Obj) (ts:Array Value),H e=some (aP6 C od e)/\h.get? e=some oe/\oe.data=.fields vs/\vs[1]?=some (.ref T)/\T≠e/\aOR X pins T/\H T=none/\h.get? T=some oT/\oT.data=.fields ts/\ts[3]?=some .none
def aOS(X:Cx)(pins:List (Addr×Obj))(W:TW)(ev:Value)(s':Shared):Prop:=∃(e:Addr) (σ:St) (H':Hp),ev=.ref e/\Inv X pins σ H' s'/\aP7 X pins H' s'.heap e/\W σ H' e
def Cx.tr(X:Cx)(pins:List (Addr×Obj))(W:TW):Cx:={ X with pn:=X.pn++pins,xe:=aOS X pins W }
def Cx.hnd(X:Cx)(e:Addr):Cx:={ X with A:=X.A.mark (some (.ref e)),calm:=false,xe:=λ_ _=>False }
section
variable{X:Cx}{pins pins':List (Addr×Obj)}{σ:St}{H:Hp}{s:Shared}{W:TW}{e:Addr}
theorem Cx.Ok.tr(ok:X.Ok):(X.tr pins W).Ok:=⟨ok.mod,ok.kind,ok.glob,ok.blt,ok.above,ok.inj,ok.has,ok.cab,ok.hd,ok.frames,ok.stk,ok.exf,ok.bs,ok.bsz,ok.noex,ok.exfs,ok.x8,ok.frf⟩
theorem Cx.Ok.hnd(ok:X.Ok):(X.hnd e).Ok:=⟨ok.mod,ok.kind,ok.glob,ok.blt,ok.above,ok.inj,ok.has,ok.cab,(λz=>Bool.noConfusion z),ok.frames,ok.stk,ok.exf,ok.bs,ok.bsz,ok.noex,ok.exfs,ok.x8,ok.frf⟩
theorem Inv.tr(I:Inv X pins σ H s):Inv (X.tr pins W) [] σ H s:=⟨I.ok.tr,I.os,I.bare,I.base,I.loc,I.cell,I.free,I.freeC,λp hp=>I.pin p (by rw[Sd9] at hp;exact hp),I.hok,I.len⟩
theorem Inv.hnd(I:Inv X pins σ H s):Inv (X.hnd e) pins σ H s:=⟨I.ok.hnd,I.os,I.bare,I.base,I.loc,I.cell,I.free,I.freeC,I.pin,I.hok,I.len⟩
end
abbrev TH:=Ends->St->Hp->Addr->Prop
section
variable{X:Cx}{x n:Str}{C0:Addr}{i:Nat}{b₀:Stmt}{suite body:List Stmt}{np pos:Pos}{rest:List ExceptHandler}{h₀:ExceptHandler}{hs:List ExceptHandler}{ts:TS}{th:TH}{tb:TW->TS}
end
end L2
namespace L2
open PySem PySem.Spec PyProof.Rows
section
variable{X:Cx}{pn:List (Addr×Obj)}{W:TW}{k:Nat}{f C:Addr}{fd:FuncData}{ps:List Str}{sp:Sp}{x:Str}{p pos:Pos}{e:Expr}{es:List Expr}{t:TA}
end
structure aEg(k:Nat)(A:Around):Prop where
 dp:A.depth+3*k+5 < recursionLimit
 un:A.units+16*k+200 < cLine
theorem eO.h{k:Nat}(r:eO k A):aEg k A:=⟨r.dp,r.un⟩
theorem aEg.mark{k:Nat}{A:Around}(r:aEg k A)(o:Option Value):aEg k (A.mark o):=⟨r.dp,r.un⟩
theorem aEg.calm{k:Nat}{A:Around}(r:aEg k A):eO k { A with handled:=none }:=⟨rfl,r.dp,r.un⟩
section
variable{X:Cx}{k:Nat}{f:Addr}{fd:FuncData}{ps:List Str}{sp:Sp}{x:Str}{p pos:Pos}{e:Expr}{es:List Expr}{t:TA}
end
end L2
namespace L2
open PySem PySem.Spec PyProof.Rows
section
variable{K:W.Frag}{σ:St}{H:Hp}{Q:VK}{nx bk ct:St->Hp->Prop}{rt:VK}
end
end L2
namespace L2.Z
open PySem PySem.Spec PyProof.Rows L2
section
variable{X:Cx}{K':PySem.W.Frag}{pn:List (Addr×Obj)}{W:TW}{k:Nat}{f C C0:Addr}{fd:FuncData}{ps:List Str}{sp:Sp}{x n:Str}{p pos pos' np:Pos}{e o:Expr}{es:List Expr}{t:TA}{te ta:TE}{E:XK}{i:Nat}{b₀:Stmt}{suite body:List Stmt}{rest hs:List ExceptHandler}{h₀:ExceptHandler}{ts:TS}{th:TH}{tb:TW->TS}
end
end L2.Z
namespace L2
open PySem PySem.Spec PyProof.Rows
section
variable{X:Cx}
end
end L2
namespace L2
open PySem PySem.Spec PyProof.Rows
end L2
namespace L2
open PySem PySem.Spec PyProof.Rows
section
variable{X:Cx}{o e:Expr}{to:TE}{t:TA}{apos cpos:Pos}
theorem aIb:∀{ns:List Int}{us:List Value},Vals (ns.map V.int) us->IntsAre us ns
 |[],_,.nil=>.nil
 |n::ns,_,.cons r t=>by
  obtain⟨k,rfl⟩:=(show ∃k,_=Value.int n k from r)
  exact .cons n k (aIb t)
def aEO(K:W.Frag):V->List V->Hp->VK->Prop:=λx vs H Q=>∃(l:Addr) (ns:List Int) (k:Int),x=.ref l/\vs=[.int k]/\bS K H l (ns.map V.int)/\Q (.int (ns.count k:Nat)) H
theorem aKG:MtR X "list.count" (aEO X.K):=by
 intro pins s σ H x vs v us Q I rx rv h
 obtain⟨l,ns,k,rfl,rfl,hS,q⟩:=h
 cases rx
 obtain⟨u,rfl,ru⟩:=rv.one
 obtain⟨tk,rfl⟩:=(show ∃tk,u=Value.int k tk from ru)
 obtain⟨its,r,pl,hz⟩:=I.list hS
 exact count_list_ints pl.isList (aIb r) ⟨.int (ns.count k:Nat),H,I.tok _,⟨_,rfl⟩,q⟩
theorem aKH(ho:PE X o to)(ha:PA X [e] t)(hn:noStar e=true:=by rfl)(hbase:attributeBase o "count" X.env (eval o X.env)=eval o X.env:=by rfl)(hline:(apos.endLine == cpos.line)=true:=by rfl) :
  PE X (.Call (.Attribute o "count" apos) [e] [] cpos) (tBM X.K "list" (aEO X.K) to t):=
 aNa PySem.F.plainAttrs_list PySem.F.slot_list_count PySem.F.type_list_count aKG ho ha hbase (by rw[bO hn];rfl) hline (bO hn) (by rfl)
theorem aF9{K:W.Frag}{H:Hp}{Q:VK}{l:Addr}{ns:List Int}{k:Int}(h:bS K H l (ns.map V.int))(q:Q (.int (ns.count k:Nat)) H):aEO K (.ref l) [.int k] H Q:=⟨l,ns,k,rfl,rfl,h,q⟩
end
end L2
namespace L2.Z
open PySem PySem.Spec PyProof.Rows L2
theorem zZ{X:Cx}{K':PySem.W.Frag}{o e:Expr}{to:TE}{t:TA}{apos cpos:Pos}(ho:QE X o to)(ha:QA X [e] t)(hn:noStar e=true:=by rfl)(hbase:attributeBase o "count" X.env (eval o X.env)=eval o X.env:=by rfl)(hline:(apos.endLine == cpos.line)=true:=by rfl)(hK:X.K=K':=by rfl) :
  QE X (.Call (.Attribute o "count" apos) [e] [] cpos) (tBM K' "list" (aEO K') to t):=by subst hK;exact⟨L2.aKH ho.h ha.h hn hbase hline⟩
end L2.Z
namespace L2
open PySem PySem.W PyProof.Rows
section
variable{O:KeyOrd}{key:Nat->O.α}{N:Nat}{cmp:Nat->Nat->(Bool->Shared->Prop)->Shared->Prop}{s:Shared}
def kq(key:Nat->O.α)(p:Array Nat)(i:Nat):O.α:=key (p.getD i 0)
def Up(key:Nat->O.α)(p:Array Nat)(k:Nat):Prop:=∀i j,i<=j->j < k->O.kle (kq key p i) (kq key p j)
def Dn(key:Nat->O.α)(p:Array Nat)(k:Nat):Prop:=∀i j,i<=j->j < k->O.kle (kq key p j) (kq key p i)
def Row(N:Nat)(p:Array Nat):Prop:=p.Perm (List.toArray (List.range N))
theorem aGa{p q:Array Nat}{i j:Nat}(h:p[i]?=q[j]?):kq key p i=kq key q j:=by
 unfold kq
 rw[Array.getD_eq_getD_getElem?,Array.getD_eq_getD_getElem?,h]
theorem aKI{p:Array Nat}{a d:Nat}(ha:a < p.size)(hd:d<=a)(k:Nat):kq key (bubble p a d) k=if k=a - d then kq key p a else if a - d < k/\k<=a then kq key p (k - 1) else kq key p k:=by
 have e:=getElem?_bubble ha d hd k
 split
 ·rename_i h;rw[if_pos h] at e;exact aGa e
 ·rename_i h
  rw[if_neg h] at e
  split
  ·rename_i g;rw[if_pos g] at e;exact aGa e
  ·rename_i g;rw[if_neg g] at e;exact aGa e
theorem aEP{p:Array Nat}{i j:Nat}(hj:j<=p.size)(k:Nat):kq key (kas_rev p i j) k=if i<=k/\k < j then kq key p (i+j - 1 - k) else kq key p k:=by
 have e:=getElem?_mirror_all (i:=i) hj k
 split
 ·rename_i h;rw[if_pos h] at e;exact aGa e
 ·rename_i h;rw[if_neg h] at e;exact aGa e
theorem Row.size{p:Array Nat}(h:Row N p):p.size=N:=by
 have:=h.size_eq
 rw[this]
 simp
theorem Row.lt{p:Array Nat}(h:Row N p)(hN:0 < N)(i:Nat):p.getD i 0 < N:=by
 by_cases hi:i < p.size
 ·have e:p.getD i 0=p[i]:=by simp[Array.getD,hi]
  have m:p[i]∈p.toList:=by simp
  have m2:=(Array.perm_iff_toList_perm.mp h).mem_iff.mp m
  rw[e]
  simpa using m2
 ·have e:p.getD i 0=0:=by simp[Array.getD,hi]
  rw[e];exact hN
theorem Row.rev{p:Array Nat}(h:Row N p)(i j:Nat):Row N (kas_rev p i j):=(mirror_perm p i j _).trans h
theorem Row.bub{p:Array Nat}(h:Row N p)(i j:Nat):Row N (bubble p i j):=(bubble_perm p i j).trans h
theorem Up.more{p:Array Nat}{m:Nat}(h:Up key p m)(e:O.kle (kq key p (m - 1)) (kq key p m)):Up key p (m+1):=λi j hij hj=>by
 by_cases hm:j < m
 ·exact h i j hij hm
 ·have ej:j=m:=by omega
  subst ej
  by_cases hi:i=j
  ·subst hi;exact KeyOrd.kle_refl _
  ·exact KeyOrd.kle_trans (h i (j - 1) (by omega) (by omega)) e
theorem Dn.more{p:Array Nat}{m:Nat}(h:Dn key p m)(e:O.kle (kq key p m) (kq key p (m - 1))):Dn key p (m+1):=λi j hij hj=>by
 by_cases hm:j < m
 ·exact h i j hij hm
 ·have ej:j=m:=by omega
  subst ej
  by_cases hi:i=j
  ·subst hi;exact KeyOrd.kle_refl _
  ·exact KeyOrd.kle_trans e (h i (j - 1) (by omega) (by omega))
def Ans(key:Nat->O.α)(N:Nat)(cmp:Nat->Nat->(Bool->Shared->Prop)->Shared->Prop)(s:Shared):Prop:=∀i j (C:Bool->Shared->Prop),i < N->j < N->C (O.blt (key i) (key j)) s->cmp i j C s
theorem Ans.ask{α:Type}(hc:Ans key N cmp s)(hN:0 < N){p:Array Nat}(hp:Row N p){i j:Nat}{k:Bool->KasT α}{Q:α->Shared->Prop}(h1:O.klt (kq key p i) (kq key p j)->(k true).kasWp cmp Q s)(h2:O.kle (kq key p j) (kq key p i)->(k false).kasWp cmp Q s) :
  (KasT.ask (p.getD i 0) (p.getD j 0) k).kasWp cmp Q s:=by
 refine hc _ _ _ (hp.lt hN i) (hp.lt hN j) ?_
 cases e:O.blt (key (p.getD i 0)) (key (p.getD j 0)) with
 |true=>exact h1 e
 |false=>exact h2 e
theorem aHq(hc:Ans key N cmp s)(hN:0 < N){p:Array Nat}(hp:Row N p){Q:Nat->Shared->Prop}:∀{f m:Nat},f=N - m->1<=m->m<=N->Up key p m->
  (∀r,m<=r->r<=N->Up key p r->(r < N->O.klt (kq key p r) (kq key p (r - 1)))->Q r s)->(kas_asc p f m).kasWp cmp Q s
 |0,m,hf,h1,hm,hu,h=>h m (fJ _) hm hu (λz=>by omega)
 |f+1,m,hf,h1,hm,hu,h=>by
  refine hc.ask hN hp (λz=>?_) (λz=>?_)
  ·rw[if_pos rfl]
   exact h m (fJ _) hm hu λ_=>z
  ·rw[if_neg (by decide)]
   exact aHq hc hN hp (by omega) (by omega) (by omega) (hu.more z) λr a b c d=>h r (by omega) b c d
def Blk(key:Nat->O.α)(p:Array Nat)(n q:Nat):Prop:=∀i,n - (q+1)<=i->i < n->kq key p i=kq key p (n - 1)
theorem Blk.same{p:Array Nat}{n q:Nat}(h:Blk key p n q)(hz:n<=p.size)(k:Nat):kq key (kas_rev p (n - (q+1)) n) k=kq key p k:=by
 rw[aEP hz]
 split
 ·rename_i g
  rw[h k g.1 g.2]
  exact h _ (by omega) (by omega)
 ·rfl
theorem aB9(hc:Ans key N cmp s)(hN:0 < N){Q:Array Nat×Nat×Nat->Shared->Prop}:∀{f n q:Nat}{p:Array Nat},Row N p->f=N - n->1<=n->n<=N->q+1<=n->Dn key p n->Blk key p n q->
  (∀p' n' q',Row N p'->1<=n'->n'<=N->q'+1<=n'->Dn key p' n'->Blk key p' n' q'->Q (p',n',q') s)->(kas_desc f p n q).kasWp cmp Q s
 |0,n,q,p,hp,hf,h1,hn,hq,hd,hb,h=>h p n q hp h1 hn hq hd hb
 |f+1,n,q,p,hp,hf,h1,hn,hq,hd,hb,h=>by
  have hz:n<=p.size:=by rw[hp.size];exact hn
  refine hc.ask hN hp (λz=>?_) (λz=>?_)
  ·rw[if_pos rfl]
   have hd':Dn key p (n+1):=hd.more (KeyOrd.kle_of_klt z)
   split
   ·have e:=hb.same hz
    refine aB9 hc hN (hp.rev _ _) (by omega) (by omega) (by omega) (by omega) (λi j a b=>?_) (λi a b=>?_) h
    ·rw[e,e];exact hd' i j a b
    ·have:i=n:=by omega
     subst this;rfl
   ·refine aB9 hc hN hp (by omega) (by omega) (by omega) (by omega) hd' (λi a b=>?_) h
    have:i=n:=by omega
    subst this;rfl
  ·rw[if_neg (by decide)]
   refine hc.ask hN hp (λy=>?_) (λy=>?_)
   ·rw[if_pos rfl]
    exact h p n q hp h1 hn hq hd hb
   ·rw[if_neg (by decide)]
    have e:kq key p (n - 1)=kq key p n:=KeyOrd.kle_antisymm z y
    refine aB9 hc hN hp (by omega) (by omega) (by omega) (by omega) (hd.more y) (λi a b=>?_) h
    show kq key p i=kq key p n
    by_cases hi:i < n
    ·rw[hb i (by omega) hi,e]
    ·have:i=n:=by omega
     subst this;rfl
theorem aIc(hc:Ans key N cmp s)(hN:0 < N){n:Nat}{p:Array Nat}{Q:Nat×Array Nat->Shared->Prop}(hp:Row N p)(h1:1<=n)(hn:n<=N)(hd:Dn key p n)(h:∀m p',Row N p'->1<=m->m<=N->Up key p' m->Q (m,p') s):(kas_tail3 n N p).kasWp cmp Q s:=by
 have hz:n<=p.size:=by rw[hp.size];exact hn
 unfold kas_tail3
 rw[KasT.kasWp_bind]
 refine aHq hc hN (hp.rev 0 n) rfl h1 hn (λi j a b=>?_) λr a b c _=>h r _ (hp.rev 0 n) (by omega) b c
 rw[aEP hz,aEP hz,if_pos ⟨Rr9 _,by omega⟩,if_pos ⟨Rr9 _,b⟩]
 exact hd _ _ (by omega) (by omega)
theorem aBk(hc:Ans key N cmp s)(hN:0 < N){n:Nat}{p:Array Nat}{Q:Nat×Array Nat->Shared->Prop}(hp:Row N p)(h1:1<=n)(hn:n < N)(hd:Dn key p n)(hl:O.klt (kq key p n) (kq key p (n - 1)))(h:∀m p',Row N p'->1<=m->m<=N->Up key p' m->Q (m,p') s) :
  (kas_descPart n N p).kasWp cmp Q s:=by
 unfold kas_descPart
 rw[KasT.kasWp_bind]
 refine aB9 hc hN hp rfl (by omega) (by omega) (by omega) (hd.more (KeyOrd.kle_of_klt hl)) (λi a b=>by have:i=n:=(by omega);subst this;rfl) λp' n' q' r1 r2 r3 r4 r5 r6=>?_
 have hz:n'<=p'.size:=by rw[r1.size];exact r3
 split
 ·refine aIc hc hN (r1.rev _ _) r2 r3 (λi j a b=>?_) h
  have e:=r6.same hz
  show O.kle (kq key (kas_rev p' (n' - (q'+1)) n') j) (kq key (kas_rev p' (n' - (q'+1)) n') i)
  rw[e,e]
  exact r5 i j a b
 ·exact aIc hc hN r1 r2 r3 r5 h
theorem aKJ(hc:Ans key N cmp s)(hN:0 < N){p:Array Nat}{Q:Nat×Array Nat->Shared->Prop}(hp:Row N p)(h:∀m p',Row N p'->1<=m->m<=N->Up key p' m->Q (m,p') s):(kas_count N p).kasWp cmp Q s:=by
 unfold kas_count
 rw[KasT.kasWp_bind]
 refine aHq hc hN hp rfl (fJ _) hN (λi j a b=>by have:i=j:=(by omega);subst this;exact KeyOrd.kle_refl _) λn a b c d=>?_
 have hz:n<=p.size:=by rw[hp.size];exact b
 split
 ·exact h n p hp a b c
 ·rename_i ne
  have nN:n < N:=by
   have:n≠N:=λz=>ne (by simp[z])
   omega
  split
  ·refine hc.ask hN hp (λz=>?_) (λz=>?_)
   ·rw[if_pos rfl]
    exact h n p hp a b c
   ·rw[if_neg (by decide)]
    have all:∀i,i < n->kq key p i=kq key p 0:=λi hi=>KeyOrd.kle_antisymm (KeyOrd.kle_trans (c i (n - 1) (by omega) (by omega)) z) (c 0 i (by omega) hi)
    have e:∀k,kq key (kas_rev p 0 n) k=kq key p k:=λk=>by
     rw[aEP hz]
     split
     ·rw[all _ (by omega),all k (by omega)]
     ·rfl
    refine aBk hc hN (hp.rev 0 n) a nN (λi j x y=>?_) ?_ h
    ·rw[e,e,all i (by omega),all j y]
     exact KeyOrd.kle_refl _
    ·rw[e,e]
     exact d nN
  ·have n1:n=1:=by omega
   subst n1
   exact aBk hc hN hp (fJ _) nN (λi j x y=>by have:i=j:=(by omega);subst this;exact KeyOrd.kle_refl _) (d nN) h
theorem aCx(hc:Ans key N cmp s)(hN:0 < N){p:Array Nat}(hp:Row N p){k:Nat}(hu:Up key p k){Q:Nat->Shared->Prop}:∀{f l r:Nat},l<=r->r<=k->r - l<=f->
  (∀i,i < l->O.kle (kq key p i) (kq key p k))->(∀i,r<=i->i < k->O.klt (kq key p k) (kq key p i))->
  (∀m,m<=k->(∀i,i < m->O.kle (kq key p i) (kq key p k))->(∀i,m<=i->i < k->O.klt (kq key p k) (kq key p i))->Q m s)->(kas_place p k f l r).kasWp cmp Q s
 |0,l,r,hlr,hrk,hf,ha,hb,h=>h l (by omega) ha λi x y=>hb i (by omega) y
 |f+1,l,r,hlr,hrk,hf,ha,hb,h=>by
  unfold kas_place
  by_cases g:l ≥ r
  ·rw[if_pos g]
   exact h l (by omega) ha λi x y=>hb i (by omega) y
  ·rw[if_neg g]
   refine hc.ask hN hp (λz=>?_) (λz=>?_)
   ·rw[if_pos rfl]
    refine aCx hc hN hp hu (by omega) (by omega) (by omega) ha (λi x y=>?_) h
    exact KeyOrd.klt_of_klt_of_kle z (hu _ i x y)
   ·rw[if_neg (by decide)]
    refine aCx hc hN hp hu (by omega) (by omega) (by omega) (λi x=>?_) hb h
    exact KeyOrd.kle_trans (hu i _ (by omega) (by omega)) z
theorem aKK(hc:Ans key N cmp s)(hN:0 < N){Q:Array Nat->Shared->Prop}:∀{f k:Nat}{p:Array Nat},Row N p->f=N - k->k<=N->Up key p k->(∀p',Row N p'->Up key p' N->Q p' s)->(kas_bin f p k).kasWp cmp Q s
 |0,k,p,hp,hf,hk,hu,h=>h p hp (by have:k=N:=(by omega);subst this;exact hu)
 |f+1,k,p,hp,hf,hk,hu,h=>by
  unfold kas_bin
  rw[KasT.kasWp_bind]
  refine aCx hc hN hp hu (Rr9 _) (fJ _) (by omega) (λi x=>by omega) (λi x y=>by omega) λm hm ha hb=>?_
  have kz:k < p.size:=by rw[hp.size];omega
  refine aKK hc hN (hp.bub k (k - m)) (by omega) (by omega) (λi j hij hj=>?_) h
  have em:k - (k - m)=m:=by omega
  rw[aKI kz (by omega),aKI kz (by omega),em]
  by_cases i1:i=m
  ·rw[if_pos i1]
   by_cases j1:j=m
   ·rw[if_pos j1];exact KeyOrd.kle_refl _
   ·rw[if_neg j1,if_pos (by omega)]
    exact KeyOrd.kle_of_klt (hb _ (by omega) (by omega))
  ·rw[if_neg i1]
   by_cases i2:m < i/\i<=k
   ·rw[if_pos i2,if_neg (by omega),if_pos (by omega)]
    exact hu _ _ (by omega) (by omega)
   ·rw[if_neg i2]
    by_cases j1:j=m
    ·rw[if_pos j1]
     exact ha i (by omega)
    ·rw[if_neg j1]
     by_cases j2:m < j/\j<=k
     ·rw[if_pos j2]
      exact hu _ _ (by omega) (by omega)
     ·rw[if_neg j2]
      exact hu _ _ (by omega) (by omega)
theorem aMH(hc:Ans key N cmp s)(hN:0 < N){Q:Array Nat->Shared->Prop}(h:∀p,Row N p->Up key p N->Q p s):(kas_sort N).kasWp cmp Q s:=by
 unfold kas_sort
 rw[KasT.kasWp_bind]
 refine aKJ hc hN (Array.Perm.refl _) λm p hp h1 hm hu=>?_
 split
 ·rename_i z
  have e:max m 1=m:=by omega
  show(kas_bin (N - max m 1) p (max m 1)).kasWp cmp Q s
  rw[e]
  exact aKK hc hN hp rfl hm hu h
 ·rename_i z
  have z':¬m < N:=z
  have e:m=N:=by omega
  subst e
  exact h p hp hu
end
end L2
namespace L2
open PySem PySem.W PyProof.Rows
def vS:List Int->List Int->Bool
 |[],[]=>false
 |[],_::_=>true
 |_::_,[]=>false
 |a::as,b::bs=>if a=b then vS as bs else decide (a < b)
theorem fZ(a b:Int)(as bs:List Int):vS (a::as) (b::bs)=if a=b then vS as bs else decide (a < b):=rfl
theorem aBl:∀as:List Int,vS as as=false
 |[]=>rfl
 |a::as=>by rw[fZ,if_pos rfl];exact aBl as
theorem aCy:∀as bs cs:List Int,vS as bs=true->vS bs cs=true->vS as cs=true
 |[],[],_,h,_=>by cases h
 |[],_::_,[],_,h=>by cases h
 |[],_::_,_::_,_,_=>rfl
 |_::_,[],_,h,_=>by cases h
 |_::_,_::_,[],_,h=>by cases h
 |a::as,b::bs,c::cs,h1,h2=>by
  rw[fZ] at h1 h2 ⊢
  by_cases e1:a=b
  ·subst e1
   rw[if_pos rfl] at h1
   by_cases e2:a=c
   ·rw[if_pos e2] at h2 ⊢;exact aCy as bs cs h1 h2
   ·rw[if_neg e2] at h2 ⊢;exact h2
  ·rw[if_neg e1] at h1
   have l1:=of_decide_eq_true h1
   by_cases e2:b=c
   ·subst e2
    rw[if_neg e1];exact h1
   ·rw[if_neg e2] at h2
    have l2:=of_decide_eq_true h2
    rw[if_neg (by omega)]
    exact decide_eq_true (by omega)
theorem aGb:∀as bs cs:List Int,vS as cs=true->vS as bs=true\/vS bs cs=true
 |[],[],_,h=>.inr h
 |[],_::_,_,_=>.inl rfl
 |_::_,_,[],h=>by cases h
 |_::_,[],_::_,_=>.inr rfl
 |a::as,b::bs,c::cs,h=>by
  rw[fZ] at h
  rw[fZ,fZ]
  by_cases e1:a=b
  ·subst e1
   rw[if_pos rfl]
   by_cases e2:a=c
   ·rw[if_pos e2] at h ⊢;exact aGb as bs cs h
   ·rw[if_neg e2] at h ⊢;exact .inr h
  ·rw[if_neg e1]
   by_cases e2:b=c
   ·subst e2
    rw[if_neg e1] at h
    exact .inl h
   ·rw[if_neg e2]
    by_cases l:a < b
    ·exact .inl (decide_eq_true l)
    ·refine .inr (decide_eq_true ?_)
     by_cases e3:a=c
     ·omega
     ·rw[if_neg e3] at h
      have:=of_decide_eq_true h
      omega
theorem aCz:∀as bs:List Int,vS as bs=false->vS bs as=false->as=bs
 |[],[],_,_=>rfl
 |[],_::_,h,_=>by cases h
 |_::_,[],_,h=>by cases h
 |a::as,b::bs,h1,h2=>by
  rw[fZ] at h1 h2
  by_cases e:a=b
  ·subst e
   rw[if_pos rfl] at h1 h2
   rw[aCz as bs h1 h2]
  ·rw[if_neg e] at h1
   rw[if_neg (Ne.symm e)] at h2
   have:=of_decide_eq_false h1
   have:=of_decide_eq_false h2
   omega
def aJc:KeyOrd:=⟨List Int,vS,aBl,aCy,aGb,aCz⟩
theorem z0:∀{ns:List Int}{its:List Value},Vals (ns.map V.int) its->IntsAre its ns
 |[],_,r=>by cases r;exact .nil
 |n::ns,_,r=>by
  cases r with
  |cons h t=>
   obtain⟨u,rfl⟩:=h
   exact .cons n u (z0 t)
inductive yA (h:Heap):List Value->List (List Int)->Prop
 |nil:yA h [] []
 |cons {x:Addr} {o:Obj} {xs:Array Value} {k:Nat} {t:List Int} {vs:List Value} {ts:List (List Int)} (e:h.get? x=some o) (c:o.cls=.type "tuple") (d:o.data=.seq xs k) (i:IntsAre xs.toList t) (ne:t≠[]) (r:yA h vs ts):yA h (.ref x::vs) (t::ts)
theorem yA.length{vs:List Value}{ts:List (List Int)}(r:yA h vs ts):vs.length=ts.length:=by
 induction r with
 |nil=>rfl
 |cons _ _ _ _ _ _ ih=>rw[Ra9,Ra9,ih]
theorem yA.at_{h:Heap}{vs:List Value}{ts:List (List Int)}(r:yA h vs ts):∀{j:Nat},j < vs.length->∃x o xs k,vs.getD j Value.none=.ref x/\h.get? x=some o/\o.data=.seq xs k/\IntsAre xs.toList (ts.getD j []):=by
 induction r with
 |nil=>intro j hj;simp at hj
 |cons e c d i ne r ih=>
  intro j hj
  cases j with
  |zero=>exact⟨_,_,_,_,rfl,e,d,i⟩
  |succ j=>exact ih (by simpa using hj)
theorem yA.keeps{h h':Heap}{ts:List (List Int)}(r:yA h vs ts)(k:∀(b:Addr) (o:Obj),o.cls=.type "tuple"->h.get? b=some o->h'.get? b=some o):yA h' vs ts:=by
 induction r with
 |nil=>exact .nil
 |cons e c d i ne _ ih=>exact .cons (k _ _ c e) c d i ne ih
theorem yA.aOT{vs:List Value}{ts:List (List Int)}(r:yA h vs ts):∃fs:List Value,KatTups h vs fs/\fs.length=vs.length/\∀v∈fs,∃n u,v=Value.int n u:=by
 induction r with
 |nil=>exact⟨[],.nil,rfl,λv z=>by cases z⟩
 |@cons x o xs k t vs ts e c d i ne _ ih=>
  obtain⟨fs,a1,a2,a3⟩:=ih
  obtain⟨n,u,hx⟩ : ∃n u,xs[0]?=some (Value.int n u):=by
   rw[<-To9]
   generalize xs.toList=l at i
   cases i with
   |nil=>exact absurd rfl ne
   |cons n u _=>exact⟨n,u,rfl⟩
  refine⟨.int n u::fs,.cons e c d hx a1,by rw[Ra9,Ra9,a2],λv z=>?_⟩
  rcases xJ.mp z with z|z
  ·exact⟨n,u,z⟩
  ·exact a3 v z
section
variable{prog:Program}{w:World}{A:Around}{E:Value->Shared->Prop}{s:Shared}
theorem aGc{Q:Bool->Shared->Prop}:∀{xs ys:List Value}{as bs:List Int}{i:Nat}{fin:Bool},IntsAre xs as->IntsAre ys bs->fin=decide (as.length < bs.length)->Q (vS as bs) s->KatLex prog w A true fin Q (xs.zip ys) i s
 |_,_,_,_,i,fin,.nil,.nil,hf,h=>kat_nil (by rw[hf];exact h)
 |_,_,_,_,i,fin,.nil,.cons _ _ _,hf,h=>kat_nil (by rw[hf];exact h)
 |_,_,_,_,i,fin,.cons _ _ _,.nil,hf,h=>kat_nil (by rw[hf];exact h)
 |_,_,_,_,i,fin,.cons a t r,.cons b u q,hf,h=>by
  refine kat_cons (wpAny_eqBool_int ?_)
  rw[fZ] at h
  by_cases e:a=b
  ·rw[if_pos e] at h
   rw[show(a == b)=true by simp[e]]
   refine kat_yes (aGc r q ?_ h)
   rw[hf,Ra9,Ra9]
   congr 1
   apply propext
   constructor <;> intro z <;> omega
  ·rw[if_neg e] at h
   rw[show(a == b)=false by simp[e]]
   refine kat_no ?_
   cases i with
   |zero=>exact oneLt_int h
   |succ i=>
    rw[show(true && (i+1 == 0))=false by simp]
    exact kat_one _ _ (PyProof.Rows.lt_int h)
theorem aKL{ts:List (List Int)}(r:yA s.heap vs ts):Ans (O:=aJc) (λi=>ts.getD i []) vs.length (kas_ask prog w A (tuples' true) vs) s:=λi j C hi hj h=>by
 obtain⟨x,ox,xs,n,e1,g1,d1,i1⟩:=r.at_ hi
 obtain⟨y,oy,ys,k,e2,g2,d2,i2⟩:=r.at_ hj
 unfold kas_ask
 rw[e1,e2]
 refine kat_lt g1 d1 g2 d2 (aGc i1 i2 ?_ h)
 rw[<-i1.length,<-i2.length,Rg9,Rg9]
def aAa(vs:List Value)(p:Array Nat):Array Value:=List.toArray (p.toList.map λi=>vs.getD i Value.none)
theorem aJd{vs:List Value}{ts:List (List Int)}{n:Nat}{P:PySem.Fin->Shared->Prop}(ho:s.heap.get? a=some (seqObj "list" vs.toArray n))(hT:yA s.heap vs ts)(h64:vs.length < 64)(h:∀p,Row vs.length p->Up (O:=aJc) (λi=>ts.getD i []) p vs.length->P (.done (.ret .none)) { s with heap:=sortedHeap s.heap a vs (aAa vs p) }) :
  wpAny (model prog w) A (Builtin.«list.sort» ⟨[.ref a],[]⟩) P E s:=by
 rw[list_sort_plain]
 have la:=jU ho
 refine wpAny_bind (listItems_at ho rfl (wpAny_bind (listUpdate_at ho rfl ?_)))
 obtain⟨e1,g1⟩ : ∃e,(s.heap.update a (Obj.mapSeq λ_=>#[])).get? a=some (seqObj "list" #[] e):=⟨_,get?_update_seq ho λ_=>#[]⟩
 refine wpAny_bind (seqEpoch_at g1 rfl (wpAny_bind (wpAny_newTuple (wpAny_bind (wpAny_newList (wpAny_holding ?_))))))
 generalize hh6:((s.heap.update a (Obj.mapSeq λ_=>#[])).push (seqObj "tuple" vs.toArray 0)).push (seqObj "list" #[] 0)=h6
 have keep6:∀b o,b≠a->s.heap.get? b=some o->h6.get? b=some o:=λb o nb e=>by
  have lb:=jU e
  rw[<-hh6,Tl9 _ _ _ (vE (by rw[size_push',Tr9];exact Tj9 lb)),Tl9 _ _ _ (vE (by rw[Tr9];exact lb)),Heap.get?_update_ne _ _ _ _ nb]
  exact e
 have g6:h6.get? a=some (seqObj "list" #[] e1):=by
  rw[<-hh6,Tl9 _ _ _ (vE (by rw[size_push',Tr9];exact Tj9 la)),Tl9 _ _ _ (vE (by rw[Tr9];exact la))]
  exact g1
 have fin:∀p,Row vs.length p->Up (O:=aJc) (λi=>ts.getD i []) p vs.length->P (.done (.ret .none)) { s with heap:=h6.update a (Obj.mapSeq λ_=>aAa vs p) }:=λp r u=>by
  rw[<-hh6]
  exact h p r u
 have T6:yA h6 vs ts:=hT.keeps λb o c e=>keep6 b o (λz=>by rw[z,ho] at e;cases e;exact absurd c (show ¬Value.type "list" = Value.type "tuple" by decide)) e
 show wpAny (model prog w) A _ P E { s with heap:=h6 }
 have hvz:vs.toArray.size=vs.length:=kU
 dsimp only
 by_cases small:vs.toArray.size < 2
 ·rw[if_pos small,if_pos small]
  refine wpAny_bind (wpAny_pure ?_)
  rw[StateT.run_pure]
  refine wpAny_bind (wpAny_pure ?_)
  have ev:((vs.toArray.zip vs.toArray).map λx=>x.2)=aAa vs (List.toArray (List.range vs.length)):=by
   unfold aAa
   match vs,hvz,small with
   |[],_,_=>simp
   |[v],_,_=>simp
   |_::_::_,_,z=>simp at z;omega
  refine wpAny_bind (seqEpoch_at g6 rfl (wpAny_bind (listUpdate_at g6 rfl ?_ (hsz2:=?_))))
  ·simp only[bne_self_eq_false,Se9,if_false]
   refine wpAny_pure ?_
   show P (.done (.ret .none)) { s with heap:=h6.update a (Obj.mapSeq λ_=>(vs.toArray.zip vs.toArray).map λx=>x.2) }
   rw[ev]
   exact fin _ (Array.Perm.refl _) λi j x y=>by
    have z:i=j:=by omega
    subst z
    exact KeyOrd.kle_refl _
  ·show((vs.toArray.zip vs.toArray).map λx=>x.2).size<=_
   rw[ev,aAa,kU,bZ,sizeLine_eq]
   simp
   omega
 ·rw[if_neg small,if_neg small]
  obtain⟨fs,f1,f2,f3⟩:=T6.aOT
  refine wpAny_bind (kat_kind (s:={ s with heap:=h6 }) (T:=.type "int") f1 (by omega) (λv hv=>?_) rfl ?_)
  ·obtain⟨m,u,rfl⟩:=f3 v hv
   exact Looks.now
  rw[show(Value.type "int" != Value.type "tuple")=true by decide]
  refine wpAny_bind (wpAny_mono (kat_run (ks:=vs) (vs:=vs) (prog:=prog) (w:=w) (A:=A) (E:=E) (s:={ s with heap:=h6 }) (Q:=λst' s'=>s'={ s with heap:=h6 }/\∃p,p.size=vs.length/\arrOf st'=p.map (kas_item (vs.toArray.zip vs.toArray))/\failedOf st'=none/\Row vs.length p/\Up (O:=aJc) (λi=>ts.getD i []) p vs.length)
   (G:=λp s'=>s'={ s with heap:=h6 }/\Row vs.length p/\Up (O:=aJc) (λi=>ts.getD i []) p vs.length) rfl (by omega) h64 (λp st' s' hz har hf hG=>⟨hG.1,p,hz,har,hf,hG.2.1,hG.2.2⟩) (aMH (aKL (s:={ s with heap:=h6 }) T6) (by omega) λp r u=>⟨rfl,r,u⟩)) ?_ λ_ _ e=>e)
  rintro ⟨_,st'⟩ s' ⟨rfl,p,hz,har,hf,hr,hu⟩
  dsimp only at har hf ⊢
  have eo:=kat_snds (ks:=vs) (vs:=vs) rfl har
  refine wpAny_bind (seqEpoch_at g6 rfl (wpAny_bind (listUpdate_at g6 rfl ?_ (hsz2:=?_))))
  ·rw[hf]
   simp only[bne_self_eq_false,Se9,if_false]
   refine wpAny_pure ?_
   show P (.done (.ret .none)) { s with heap:=h6.update a (Obj.mapSeq λ_=>(arrOf st').map (·.2)) }
   rw[eo]
   exact fin p hr hu
  ·show((arrOf st').map (·.2)).size<=_
   rw[eo,kU,bZ,Rg9,hz,sizeLine_eq]
   omega
end
end L2
namespace L2
open PySem PySem.Spec PySem.W PyProof.Rows
theorem range_getD{α:Type}(d:α)(l:List α):(List.range l.length).map (λi=>l.getD i d)=l:=by
 apply List.ext_getElem
 ·simp
 ·intro i h1 h2
  simp[Qh9,fH h2]
theorem aCA:∀(qs:List Addr),Vals (qs.map V.ref) (qs.map Value.ref)
 |[]=>.nil
 |q::qs=>.cons rfl (aCA qs)
structure o9(H:Hp)(qs:List Addr)(ts:List (List Int)):Prop where
 len:qs.length=ts.length
 at_:∀(j:Nat) q t,qs[j]?=some q->ts[j]?=some t->H q=some (.tup (t.map V.int))/\t≠[]
theorem o9.tail{t:List Int}{ts:List (List Int)}(h:o9 H (q::qs) (t::ts)):o9 H qs ts:=⟨by have:=h.len;simpa using this,λj a b x y=>h.at_ (j+1) a b x y⟩
theorem o9.vF{s:Shared}(I:Inv X pins σ H s):∀{qs:List Addr}{ts:List (List Int)},o9 H qs ts->yA s.heap (qs.map Value.ref) ts
 |[],[],_=>.nil
 |[],_::_,h=>by have:=h.len;simp at this
 |_::_,[],h=>by have:=h.len;simp at this
 |q::qs,t::ts,h=>by
  obtain⟨e,ne⟩:=h.at_ 0 q t rfl rfl
  obtain⟨_,its,r,o,g1,g2,n,g3⟩:=(show bW X.prog X.w H s.heap q (.tup (t.map V.int)) from I.hok q _ e)
  exact .cons g1 g2 g3 (by simpa using z0 r) ne (o9.vF I h.tail)
section
variable{X:Cx}
end
end L2
namespace L2
open PySem PySem.Spec PyProof.Rows
section
variable{prog:Program}{w:World}{A:Around}{E:Value->Shared->Prop}{s:Shared}{es:Array DictEntry}{d it vw:Addr}{i ep:Nat}
def Raw(h:Heap)(d:Addr)(es:Array DictEntry)(ep:Nat):Prop:=∃o,h.get? d=some o/\o.cls=.type "dict"/\o.data=.dict es ep
theorem Raw.ty(m:Raw s.heap d es ep):s.TypeIs (.ref d) "dict":=let ⟨o,a,b,_⟩:=m;⟨o,a,b⟩
theorem Raw.keep{h h':Heap}(m:Raw h d es ep)(k:∀o,h.get? d=some o->h'.get? d=some o):Raw h' d es ep:=let ⟨o,a,r⟩:=m;⟨o,k o a,r⟩
theorem aJe(d:Addr)(lo:(d == sysModules)=false):MeetsIn prog w (Builtin.«dict.items» ⟨[.ref d],[]⟩) (λ_ R s=>s.TypeIs (.ref d) "dict"/\
  R (.ok (.ret (.ref s.heap.objs.size))) { s with heap:=s.heap.push { cls:=.type "dict_items",data:=.fields #[.ref d] } }):=
 .of_wp λA R s ⟨ty,h⟩=>by
  unfold Builtin.«dict.items»;with_reducible refine wpAny_bind ?_;unfold Builtin.Dict.noArgs
  refine wpAny_bind (wpAny_notOrdered_dict ty (show wpAny _ _ (pure d) _ _ s from wpAny_pure ?_))
  show wpAny _ _ (Builtin.Dict.showsAll d >>= _) _ _ s;unfold Builtin.Dict.showsAll
  rw[if_neg (λz=>Qp9 (lo.symm.trans z))];refine wpAny_bind (wpAny_pure ?_)
  exact wpAny_bind (wpAny_newObj_type (wpAny_pure (show _ from⟨_,rfl,h⟩)))
theorem aDu{Q:Value->Shared->Prop}(hv:s.heap.IsItemsView vw d)(hm:Raw s.heap d es ep)
  (hQ:Q (.ref s.heap.objs.size) { s with heap:=s.heap.push { cls:=.type "dict_itemiterator",data:=.fields #[.none,.bool false,.ref d,.int 0 0,.int es.size 0,.int ep 0,.none,.none] } }) :
  wpAny (model prog w) A (pyIter (.ref vw)) Q E s:=by
 obtain⟨ov,a1,a2,a3⟩:=id hv;obtain⟨o,b1,b2,b3⟩:=id hm
 refine wpAny_pyIter_slot hv.typeIs F.slot_dict_items_iter (wpAny_call_entry F.slot_dict_items_iter hv.typeIs F.entry_dict_items_iter (show _ from ?_) (F.args_dict_items_iter_1 _))
 unfold Builtin.«dict_items.__iter__»;refine wpAny_bind (wpAny_pure ?_);with_reducible refine wpAny_bind ?_
 unfold Builtin.Dict_items.dictOf;refine wpAny_bind (wpAny_field a1 a3 (x:=.ref d) rfl (wpAny_pure ?_));with_reducible refine wpAny_bind ?_
 unfold Builtin.Dict_items.newIterator;refine wpAny_bind (wpAny_dictEntries b1 b3 (wpAny_bind (wpAny_dictEpoch b1 b3 ?_)))
 have own:Builtin.Dict_items.ownsTuple "dict_itemiterator" = true:=rfl
 simp only[own,if_true]
 refine wpAny_newObj_type (wpAny_pure ⟨_,rfl,"dict_itemiterator",_,⟨_,xI _ rfl,rfl⟩,F.slot_dict_itemiterator_next.lookup,(show _ from ?_)⟩)
  (by simp only[sizeOk,Builtin.Dict_items.ownedTupleFields,kU,xX,Ra9,Tu9,sizeLine_eq];decide)
 simpa [Builtin.Dict_items.ownedTupleFields,rawInt] using hQ
theorem aEQ{Q:Value->Shared->Prop}(lo:(d == sysModules)=false)(hm:Raw s.heap d es ep)
  (hQ:Q (.ref s.heap.objs.size) { s with heap:=s.heap.push { cls:=.type "dict_keyiterator",data:=.fields #[.ref d,.int 0 0,.int es.size 0,.int ep 0] } }) :
  wpAny (model prog w) A (pyIter (.ref d)) Q E s:=by
 obtain⟨o,b1,b2,b3⟩:=id hm
 refine wpAny_pyIter_slot hm.ty F.slot_dict_iter (wpAny_call_entry F.slot_dict_iter hm.ty F.entry_dict_iter (show _ from ?_) (F.args_dict_iter_1 _))
 unfold Builtin.«dict.__iter__»;with_reducible refine wpAny_bind ?_;unfold Builtin.Dict.dictSlotNone
 refine wpAny_bind (wpAny_notOrdered_dict hm.ty (show wpAny _ _ (pure (Value.ref d)) _ _ s from wpAny_pure ?_))
 show wpAny _ _ (Builtin.Dict.showsAll d >>= _) _ _ s;unfold Builtin.Dict.showsAll
 rw[if_neg (λz=>Qp9 (lo.symm.trans z))];refine wpAny_bind (wpAny_pure ?_)
 refine wpAny_bind (wpAny_dictEntries b1 b3 (wpAny_bind (wpAny_dictEpoch b1 b3 ?_)))
 refine wpAny_bind (wpAny_newObj_type (wpAny_pure ⟨_,rfl,"dict_keyiterator",_,⟨_,xI _ rfl,rfl⟩,F.slot_dict_keyiterator_next.lookup,(show _ from ?_)⟩))
 simpa [rawInt] using hQ
def It4(T:String)(h:Heap)(it d:Addr)(i n ep:Nat):Prop:=∃o,h.get? it=some o/\o.cls=.type T/\o.data=.fields #[.ref d,.int i 0,.int n 0,.int ep 0]
theorem It4.ty{n:Nat}(x:It4 T s.heap it d i n ep):s.TypeIs (.ref it) T:=let ⟨o,a,b,_⟩:=x;⟨o,a,b⟩
theorem It4.keep{n:Nat}{h h':Heap}(m:It4 T h it d i n ep)(k:∀o,h.get? it=some o->h'.get? it=some o):It4 T h' it d i n ep:=let ⟨o,a,r⟩:=m;⟨o,k o a,r⟩
theorem It4.turn{n:Nat}{h:Heap}{o:Obj}(a:h.get? it=some o)(b:o.cls=.type T)(c:o.data=.fields #[.ref d,.int i 0,.int n 0,.int ep 0]) :
  It4 T (h.update it (Obj.mapFields (·.setIfInBounds 1 (rawInt ((i:Int)+1))))) it d (i+1) n ep:=
 ⟨_,Sn9 _ a (Obj.isFreed_of_fields (Obj.data_mapFields c _)),(Obj.cls_mapFields ..).trans b,by rw[Obj.data_mapFields c];simp[rawInt]⟩
theorem aGd{Q:Option Value->Shared->Prop}{e:DictEntry}(hit:It4 "dict_keyiterator" s.heap it d i es.size ep)(hm:Raw s.heap d es ep)(hx:es[i]?=some e)
  (hQ:∀h',It4 "dict_keyiterator" h' it d (i+1) es.size ep->Heap.SameBut it s.heap h'->Q (some e.key) { s with heap:=h' }):wpAny (model prog w) A (pyNext (.ref it)) Q E s:=by
 obtain⟨o,a1,a2,a3⟩:=id hit;obtain⟨od,b1,b2,b3⟩:=id hm;have ty:=hit.ty
 unfold pyNext;refine wpAny_bind (wpAny_attempt (wpAny_callSpecial?_slot (name:=Str.ofString "__next__") ty F.slot_dict_keyiterator_next
  (wpAny_call_entry F.slot_dict_keyiterator_next ty F.entry_dict_keyiterator_next (show _ from ?_) (F.args_dict_keyiterator_next_1 _))))
 refine wpAny_bind (wpAny_pure ?_);refine wpAny_bind (show _ from ?_);refine wpAny_bind (show _ from ?_)
 first|refine wpAny_bind (wpAny_typeNameOfWhole_keyiter ty (show _ from wpAny_pure ?_))|refine wpAny_bind (wpAny_typeNameOf_keyiter ty (show _ from wpAny_pure ?_))
 refine wpAny_bind (wpAny_fieldsOf a1 a3 (show _ from ?_));have own:Builtin.Dict_items.ownsTuple "dict_keyiterator" = false:=rfl
 simp only[own,if_false,Se9];show wpAny _ _ (if (Value.ref d == Value.none)=true then _ else _) _ _ s
 rw[if_neg (show ¬((Value.ref d == Value.none)=true) from λz=>nomatch z)];refine wpAny_bind (wpAny_pure ?_)
 refine wpAny_bind (wpAny_dictEntries b1 b3 (show _ from ?_));rw[if_neg (show _ from by simp)];refine wpAny_bind (wpAny_pure ?_)
 refine wpAny_bind (wpAny_dictEpoch b1 b3 (show _ from ?_));rw[if_neg (show _ from by simp)];refine wpAny_pure (show _ from ?_)
 have il:i < es.size:=(Array.getElem?_eq_some_iff.mp hx).1
 have ee:es[i]=e:=(Array.getElem?_eq_some_iff.mp hx).2
 simp only[show ¬((i:Int) < 0) by omega,if_false,Ro9,hx]
 refine wpAny_bind (show _ from ?_)
 first|refine wpAny_bind (wpAny_typeNameOfWhole_keyiter ty (show _ from wpAny_pure ?_))|refine wpAny_bind (wpAny_typeNameOf_keyiter ty (show _ from wpAny_pure ?_))
 refine wpAny_bind (wpAny_isOneOf_keyiter ty (show _ from ?_));show wpAny _ _ (setField (.ref it) 1 (rawInt ((i:Int)+1)) >>= _) _ _ s
 refine wpAny_bind (wpAny_setField a1 a3 (show _ by simp) (show _ from ?_));have t2:=It4.turn a1 a2 a3
 refine wpAny_bind (wpAny_holding (show _ from ?_))
 refine wpAny_bind (wpAny_isOneOf_keyiter (s:={ s with heap:=s.heap.update it (Obj.mapFields (·.setIfInBounds 1 (rawInt ((i:Int)+1)))) }) t2.ty (show _ from ?_))
 exact wpAny_pure (wpAny_pure ⟨_,rfl,wpAny_pure (hQ _ t2 (Heap.SameBut.update ..))⟩)
theorem aHr{Q:Option Value->Shared->Prop}(hh:A.handled=none)(hit:It4 "dict_keyiterator" s.heap it d i es.size ep)(hm:Raw s.heap d es ep)(hx:es.size<=i)
  (hQ:∀h',Heap.ExtBut it s.heap h'->Q none { s with heap:=h' }):wpAny (model prog w) A (pyNext (.ref it)) Q E s:=by
 obtain⟨o,a1,a2,a3⟩:=id hit;obtain⟨od,b1,b2,b3⟩:=id hm;have ty:=hit.ty
 unfold pyNext;refine wpAny_bind (wpAny_attempt (wpAny_callSpecial?_slot (name:=Str.ofString "__next__") ty F.slot_dict_keyiterator_next
  (wpAny_call_entry F.slot_dict_keyiterator_next ty F.entry_dict_keyiterator_next (show _ from ?_) (F.args_dict_keyiterator_next_1 _))))
 refine wpAny_bind (wpAny_pure ?_);refine wpAny_bind (show _ from ?_);refine wpAny_bind (show _ from ?_)
 first|refine wpAny_bind (wpAny_typeNameOfWhole_keyiter ty (show _ from wpAny_pure ?_))|refine wpAny_bind (wpAny_typeNameOf_keyiter ty (show _ from wpAny_pure ?_))
 refine wpAny_bind (wpAny_fieldsOf a1 a3 (show _ from ?_));have own:Builtin.Dict_items.ownsTuple "dict_keyiterator" = false:=rfl
 simp only[own,if_false,Se9];show wpAny _ _ (if (Value.ref d == Value.none)=true then _ else _) _ _ s
 rw[if_neg (show ¬((Value.ref d == Value.none)=true) from λz=>nomatch z)];refine wpAny_bind (wpAny_pure ?_)
 refine wpAny_bind (wpAny_dictEntries b1 b3 (show _ from ?_));rw[if_neg (show _ from by simp)];refine wpAny_bind (wpAny_pure ?_)
 refine wpAny_bind (wpAny_dictEpoch b1 b3 (show _ from ?_));rw[if_neg (show _ from by simp)];refine wpAny_pure (show _ from ?_)
 simp only[show ¬((i:Int) < 0) by omega,if_false,Ro9,Array.getElem?_eq_none hx]
 refine wpAny_bind (show _ from ?_)
 first|refine wpAny_bind (wpAny_typeNameOfWhole_keyiter ty (show _ from wpAny_pure ?_))|refine wpAny_bind (wpAny_typeNameOf_keyiter ty (show _ from wpAny_pure ?_))
 show wpAny _ _ (setField (.ref it) 0 Value.none >>= _) _ _ s
 refine wpAny_bind (wpAny_setField a1 a3 (show _ by simp) (show _ from ?_));show wpAny _ _ (newExc (.type "StopIteration") [] >>= _) _ _ _
 refine wpAny_bind (show _ from ?_);simp only[newExc,newTuple];refine wpAny_bind (wpAny_newObj_type (show _ from ?_) (by size_fits))
 refine wpAny_bind (m:=firstArgMember _ _) (wpAny_of_eq (a:=Value.none) (show _ by first|rfl|(simp only[firstArgMember];rfl)) (show _ from ?_))
 refine wpAny_newObj_type (show _ from ?_) (by size_fits);simp only[raiseNew]
 refine wpAny_bind (wpAny_handled (show _ from ?_));rw[show A.in1.handled=none from hh];refine wpAny_bind (wpAny_pure (wpAny_throw ?_))
 refine wpAny_bind (wpAny_isInstance (T:="StopIteration") (b:=true) ⟨_,xI _ rfl,rfl⟩ isSubtype_stop (show _ from ?_))
 exact wpAny_pure (hQ _ (show _ from((Heap.SameBut.update ..).extBut.push _).push _))
theorem aER{Q:Option Value->Shared->Prop}{e:DictEntry}(hit:IsItemIter s.heap it d i es.size ep ok ov)(hm:Raw s.heap d es ep)(hx:es[i]?=some e)(hQ:∀h',IsItemIterOut h' it d (i+1) es.size ep e.key e.val s.heap.objs.size->h'.get? s.heap.objs.size=some { cls:=.type "tuple",data:=.seq #[e.key,e.val] }->
   h'.objs.size=s.heap.objs.size+1->(∀b o,b≠it->s.heap.get? b=some o->h'.get? b=some o)->Q (some (.ref s.heap.objs.size)) { s with heap:=h' }) :
  wpAny (model prog w) A (pyNext (.ref it)) Q E s:=by
 obtain⟨hp,g,dr,tk,os⟩:=s;obtain⟨od,b1,b2,b3⟩:=id hm
 have ty:Shared.TypeIs ⟨hp,g,dr,tk,os⟩ (.ref it) "dict_itemiterator":=⟨_,hit,rfl⟩
 unfold pyNext;refine wpAny_bind (wpAny_attempt (wpAny_callSpecial?_slot (name:=Str.ofString "__next__") ty F.slot_dict_itemiterator_next
  (wpAny_call_entry F.slot_dict_itemiterator_next ty F.entry_dict_itemiterator_next (show _ from ?_) (F.args_dict_itemiterator_next_1 _))))
 refine wpAny_bind (wpAny_pure ?_);refine wpAny_bind (show _ from ?_);refine wpAny_bind (show _ from ?_)
 first|refine wpAny_bind (wpAny_typeNameOfWhole_itemiter ty (show _ from wpAny_pure ?_))|refine wpAny_bind (wpAny_typeNameOf_itemiter ty (show _ from wpAny_pure ?_))
 refine wpAny_bind (wpAny_fieldsOf hit rfl (show _ from ?_));have own:Builtin.Dict_items.ownsTuple "dict_itemiterator" = true:=rfl
 simp only[own,if_true];show wpAny _ _ (if (Value.ref d == Value.none)=true then _ else _) _ _ _
 rw[if_neg (show ¬((Value.ref d == Value.none)=true) from λz=>nomatch z)];refine wpAny_bind (wpAny_pure ?_)
 refine wpAny_bind (wpAny_dictEntries b1 b3 (show _ from ?_));rw[if_neg (show _ from by simp)];refine wpAny_bind (wpAny_pure ?_)
 refine wpAny_bind (wpAny_dictEpoch b1 b3 (show _ from ?_));rw[if_neg (show _ from by simp)];refine wpAny_pure (show _ from ?_)
 simp only[show ¬((i:Int) < 0) by omega,if_false,Ro9,hx]
 refine wpAny_bind (show _ from ?_)
 first|refine wpAny_bind (wpAny_typeNameOfWhole_itemiter ty (show _ from wpAny_pure ?_))|refine wpAny_bind (wpAny_typeNameOf_itemiter ty (show _ from wpAny_pure ?_))
 refine wpAny_bind (wpAny_isOneOf_itemiter ty (show _ from ?_));show wpAny _ _ (setField (.ref it) 3 (rawInt ((i:Int)+1)) >>= _) _ _ _
 refine wpAny_bind (wpAny_setField_rec hit (show _ by simp) λj1 c1 d1=>(show _ from ?_))
 replace d1:Heap.SameBut it hp j1:=d1
 replace c1:IsItemIter j1 it d (i+1) es.size ep ok ov:=by
  unfold IsItemIter;rw[show((i+1:Nat):Int)=(i:Int)+1 by omega];simpa [rawInt] using c1
 have ty1:Shared.TypeIs ⟨j1,g,dr,tk,os⟩ (.ref it) "dict_itemiterator":=⟨_,c1,rfl⟩
 refine wpAny_bind (wpAny_holding (show _ from ?_));refine wpAny_bind (wpAny_isOneOf_itemiter ty1 (wpAny_bind (wpAny_isOneOf_itemiter ty1 (show _ from ?_))))
 show wpAny _ _ (Builtin.Dict_items.pairFromOwner (.ref it) 6 e.key e.val) _ _ ⟨j1,g,dr,tk,os⟩;unfold Builtin.Dict_items.pairFromOwner
 refine wpAny_bind (wpAny_newTuple (show _ from ?_))
 have c2:IsItemIter (j1.push { cls:=.type "tuple",data:=.seq #[e.key,e.val] }) it d (i+1) es.size ep ok ov:=kS _ c1
 generalize hj2:j1.push { cls:=.type "tuple",data:=.seq #[e.key,e.val] } = j2 at c2
 have z1:j1.objs.size=hp.objs.size:=d1.1
 have il:it < hp.objs.size:=jU hit
 have t2:j2.get? hp.objs.size=some { cls:=.type "tuple",data:=.seq #[e.key,e.val] }:=by rw[<-hj2,<-z1];exact xI _ rfl
 have z2:j2.objs.size=hp.objs.size+1:=by rw[<-hj2,Ry9,z1]
 have k2:∀b o,b≠it->hp.get? b=some o->j2.get? b=some o:=λb o hb q=>by rw[<-hj2];exact kS _ (d1.extBut b o hb q)
 show wpAny _ _ (Builtin.Dict_items.ownedTupleIsFree (.ref it) >>= _) _ _ ⟨j2,g,dr,tk,os⟩;rw[z1];clear hj2 c1 d1 ty1 z1 j1
 refine wpAny_bind (show _ from ?_);unfold Builtin.Dict_items.ownedTupleIsFree;refine wpAny_bind (wpAny_field c2 rfl (x:=.none) rfl (show _ from wpAny_pure ?_))
 simp only[if_true];refine wpAny_bind (wpAny_field c2 rfl (x:=ok) rfl (wpAny_bind (wpAny_field c2 rfl (x:=ov) rfl (show _ from ?_))))
 refine wpAny_bind (wpAny_setField_rec c2 (show _ by simp) λj3 c3 d3=>(show _ from ?_))
 replace d3:Heap.SameBut it j2 j3:=d3;replace c3:IsItemIter j3 it d (i+1) es.size ep e.key ov:=c3
 refine wpAny_bind (wpAny_setField_rec c3 (show _ by simp) λj4 c4 d4=>(show _ from ?_))
 replace d4:Heap.SameBut it j3 j4:=d4;replace c4:IsItemIter j4 it d (i+1) es.size ep e.key e.val:=c4
 refine wpAny_bind (wpAny_setField_rec c4 (show _ by simp) λj5 c5 d5=>(show _ from ?_))
 replace d5:Heap.SameBut it j4 j5:=d5;replace c5:IsItemIterOut j5 it d (i+1) es.size ep e.key e.val hp.objs.size:=c5
 refine wpAny_bind (wpAny_setField_rec c5 (show _ by simp) λj6 c6 d6=>(show _ from ?_))
 replace d6:Heap.SameBut it j5 j6:=d6;replace c6:IsItemIterOut j6 it d (i+1) es.size ep e.key e.val hp.objs.size:=c6
 have up:∀b o,b≠it->j2.get? b=some o->j6.get? b=some o:=λb o hb q=>d6.extBut b o hb (d5.extBut b o hb (d4.extBut b o hb (d3.extBut b o hb q)))
 refine wpAny_bind (wpAny_letGo (wpAny_pure (wpAny_pure ⟨_,rfl,wpAny_pure (hQ j6 c6 (up _ _ (Sg9 il) t2) ?_ λb o hb q=>up b o hb (k2 b o hb q))⟩)))
 show j6.objs.size=_;rw[d6.1,d5.1,d4.1,d3.1,z2]
theorem aGe{Q:Option Value->Shared->Prop}(hh:A.handled=none)(hit:IsItemIter s.heap it d i es.size ep ok ov)(hm:Raw s.heap d es ep)(hx:es.size<=i)(hQ:∀h',Heap.ExtBut it s.heap h'->Q none { s with heap:=h' }):wpAny (model prog w) A (pyNext (.ref it)) Q E s:=by
 obtain⟨od,b1,b2,b3⟩:=id hm;have ty:s.TypeIs (.ref it) "dict_itemiterator":=⟨_,hit,rfl⟩
 unfold pyNext;refine wpAny_bind (wpAny_attempt (wpAny_callSpecial?_slot (name:=Str.ofString "__next__") ty F.slot_dict_itemiterator_next
  (wpAny_call_entry F.slot_dict_itemiterator_next ty F.entry_dict_itemiterator_next (show _ from ?_) (F.args_dict_itemiterator_next_1 _))))
 refine wpAny_bind (wpAny_pure ?_);refine wpAny_bind (show _ from ?_);refine wpAny_bind (show _ from ?_)
 first|refine wpAny_bind (wpAny_typeNameOfWhole_itemiter ty (show _ from wpAny_pure ?_))|refine wpAny_bind (wpAny_typeNameOf_itemiter ty (show _ from wpAny_pure ?_))
 refine wpAny_bind (wpAny_fieldsOf hit rfl (show _ from ?_));have own:Builtin.Dict_items.ownsTuple "dict_itemiterator" = true:=rfl
 simp only[own,if_true];show wpAny _ _ (if (Value.ref d == Value.none)=true then _ else _) _ _ _
 rw[if_neg (show ¬((Value.ref d == Value.none)=true) from λz=>nomatch z)];refine wpAny_bind (wpAny_pure ?_)
 refine wpAny_bind (wpAny_dictEntries b1 b3 (show _ from ?_));rw[if_neg (show _ from by simp)];refine wpAny_bind (wpAny_pure ?_)
 refine wpAny_bind (wpAny_dictEpoch b1 b3 (show _ from ?_));rw[if_neg (show _ from by simp)];refine wpAny_pure (show _ from ?_)
 simp only[show ¬((i:Int) < 0) by omega,if_false,Ro9,Array.getElem?_eq_none hx]
 refine wpAny_bind (show _ from ?_)
 first|refine wpAny_bind (wpAny_typeNameOfWhole_itemiter ty (show _ from wpAny_pure ?_))|refine wpAny_bind (wpAny_typeNameOf_itemiter ty (show _ from wpAny_pure ?_))
 show wpAny _ _ (setField (.ref it) 2 Value.none >>= _) _ _ s
 refine wpAny_bind (wpAny_setField hit rfl (show _ by simp) (show _ from ?_));show wpAny _ _ (newExc (.type "StopIteration") [] >>= _) _ _ _
 refine wpAny_bind (show _ from ?_);simp only[newExc,newTuple];refine wpAny_bind (wpAny_newObj_type (show _ from ?_) (by size_fits))
 refine wpAny_bind (m:=firstArgMember _ _) (wpAny_of_eq (a:=Value.none) (show _ by first|rfl|(simp only[firstArgMember];rfl)) (show _ from ?_))
 refine wpAny_newObj_type (show _ from ?_) (by size_fits);simp only[raiseNew]
 refine wpAny_bind (wpAny_handled (show _ from ?_));rw[show A.in1.handled=none from hh];refine wpAny_bind (wpAny_pure (wpAny_throw ?_))
 refine wpAny_bind (wpAny_isInstance (T:="StopIteration") (b:=true) ⟨_,xI _ rfl,rfl⟩ isSubtype_stop (show _ from ?_))
 exact wpAny_pure (hQ _ (show _ from((Heap.SameBut.update ..).extBut.push _).push _))
end
end L2
namespace L2
open PySem PySem.Spec PyProof.Rows
section
variable{X:Cx}{pins:List (Addr×Obj)}{σ:St}{H:Hp}{s:Shared}
theorem Inv.aMI{d:Addr}{kvs:List (List Key×V)}{o:Obj}(I:Inv X pins σ H s)(e:H d=some (.dT kvs))(ho:s.heap.get? d=some o):Inv X pins σ (upd H d (.frz o (.dT kvs))) s:=by
 have nd:∀b u,H b=some u->u≠.dT kvs->b≠d:=λb u q n z=>by rw[z,e] at q;exact n (Option.some.inj q).symm
 refine I.step (h':=s.heap) (g':=s.gens) (d':=s.drawn) (t':=s.toks) (ch:=[]) (λ_ z=>nomatch z) (λb u _ _ _ q _=>q) (λb u _ _ _ q _=>⟨u.slots,q⟩) (λb u _ _ n=>?_)
  (λb u _ q=>⟨u,q⟩) (λb xs q=>?_) (λb u v q=>?_) (λb ps q=>⟨#[],?_⟩) (λm hm=>hm) (λb u q=>?_) I.bare
 ·rw[aU (λz=>by rw[z,e] at n;cases n)];exact n
 ·rw[aU (nd _ _ q (λz=>by cases z))];exact q
 ·rw[aU (nd _ _ q (λz=>by cases z))];exact q
 ·rw[aU (nd _ _ q (λz=>by cases z)),q];simp
 ·have st:∀c v,H c=some v->bW X.prog X.w H s.heap c v->bW X.prog X.w (upd H d (.frz o (.dT kvs))) s.heap c v:=λc v _ z=>
   z.aCd (λ_ _ _ z=>z) (λc z=>by rw[aU (nd _ _ z (λy=>by cases y))];exact z) λc xs t z=>by rw[aU (nd _ _ z (λy=>by subst y;exact t))];exact z
  by_cases hb:b=d
  ·subst hb;rw[aL] at q;cases q;exact⟨ho,st b _ e (I.hok b _ e)⟩
  ·rw[aU hb] at q
   exact st b u q (I.hok b u q)
end
theorem aES{H:Hp}:∀{kvs:List (List Key×V)}{xs:List (List Key×Addr×Value)},KT H kvs xs->∀{i:Nat}{p:List Key×V},kvs[i]?=some p->∃q,xs[i]?=some q/\H q.2.1=some (.tup (p.1.map kV))/\RelV p.2 q.2.2
 |[],_,r,i,p,h=>by simp at h
 |a::as,_,r,i,p,h=>by
  cases r with
  |cons x t=>
   cases i with
   |zero=>cases h;exact⟨_,rfl,x.2⟩
   |succ i=>exact aES t (i:=i) h
theorem aHs{h:Heap}{kvs:List (List Key×V)}(x:bW P w H h d (.dT kvs)):(d == sysModules)=false/\∃(o:Obj) (es:Array DictEntry) (ep:Nat) (xs:List (List Key×Addr×Value)),
  h.get? d=some o/\o.ExactDict/\o.data=.dict es ep/\KT H kvs xs/\es.toList=xs.map (entryOfKey (tupleKind (eE P w)))/\es.size=kvs.length:=by
 obtain⟨z,y,xs,r,o,es,ep,h1,h2,h3,h4,h5⟩:=x
 refine⟨y,o,es,ep,xs,h1,h2,h3,r,h4,?_⟩
 rw[size_of_entries h4]
 exact(Paired.length r).symm
def Iti(d:Addr)(o:Obj)(kvs:List (List Key×V)):It:=
 ⟨λi H=>H d=some (.frz o (.dT kvs))/\i < kvs.length,λi H x H'=>∃T b kv,H T=none/\x=.ref T/\kvs[i]?=some kv/\H b=some (.tup (kv.1.map kV))/\H'=upd H T (.tup [.ref b,kv.2]),λi H=>H d=some (.frz o (.dT kvs))/\kvs.length<=i⟩
theorem aBJ:entryFor table "dict_itemiterator.__iter__" = some Builtin.«dict_keyiterator.__iter__»:=PySem.entryFor_alias (id':="dict_keyiterator.__iter__") (by kernel_rfl) rfl (by decide +kernel) (show _ by kernel_rfl)
theorem aHt{P:Program}{w:World}{K:PySem.W.Frag}{elts:List Expr}{x1:Nat}{tp:Pos}(d it:Addr)(o:Obj)(kvs:List (List Key×V))(es:Array DictEntry)(ep:Nat)(hc0:o.cls=.type "dict")(hd0:o.data=.dict es ep)(hn:es.size=kvs.length) :
  Turn P w K (.Tuple elts x1 tp) (Iti d o kvs) [it] it (λi h=>∃ok ov,IsItemIter h it d i es.size ep ok ov) where
 mem:=by simp
 obj:=λi h st b hb=>by
  obtain⟨ok,ov,he⟩:=st
  have z:b=it:=by simpa using hb
  subst z
  exact⟨_,he,λv z=>by cases z⟩
 keep:=λi h h' st k=>by
  obtain⟨ok,ov,he⟩:=st
  exact⟨ok,ov,k it (by simp) _ he⟩
 item:=by
  intro X hP hw hK hc i pins s σ H E I hf st hg
  subst hP hw hK
  obtain⟨ok,ov,he⟩:=st
  obtain⟨hd,hi⟩:=hg
  have hO:bW X.prog X.w H s.heap d (.frz o (.dT kvs)):=I.hok d _ hd
  obtain⟨ho,hO⟩:=hO
  obtain⟨lo,o',es',ep',xs,g1,g2,g3,rel,g4,g5⟩:=aHs hO
  have eo:o'=o:=Option.some.inj (g1.symm.trans ho)
  subst eo
  have ee:es'=es/\ep'=ep:=by rw[hd0] at g3;injection g3 with a b;exact⟨a.symm,b.symm⟩
  obtain⟨e1,e2⟩:=ee
  subst e1 e2
  have raw:Raw s.heap d es' ep':=⟨o',ho,hc0,hd0⟩
  have hx:kvs[i]?=some kvs[i]:=fH hi
  obtain⟨q,hq,hb,rv⟩:=aES rel hx
  have hex:es'[i]?=some (entryOfKey (tupleKind (eE X.prog X.w)) q):=by rw[entry_at g4,hq];rfl
  have hilt:it < s.heap.objs.size:=jU he
  refine aER he raw hex λh1 h2' hT hsz hk=>?_
  refine⟨_,rfl,wpAny_letOwnedTupleGo_items h2' λh2 he2 hs2=>?_⟩
  replace hs2:Heap.SameBut it h1 h2:=hs2
  have hT2:h2.IsTuple s.heap.objs.size #[.ref q.2.1,q.2.2]:=⟨_,(hs2.2 _ (Sg9 hilt)).trans hT,rfl,_,rfl⟩
  have kk:∀b o,b∉[it]->s.heap.get? b=some o->h2.get? b=some o:=λb o hb q=>by
   have n1:b≠it:=λz=>hb (by simp[z])
   exact(hs2.2 b n1).trans (hk b o n1 q)
  have I2:Inv X pins σ (upd H s.heap.objs.size (.tup [.ref q.2.1,kvs[i].2])) { s with heap:=h2,toks:=s.toks }:=
   I.aAW kk hf (fJ _) (show bW X.prog X.w _ h2 _ (.tup [.ref q.2.1,kvs[i].2]) from⟨cZ (by simp),[.ref q.2.1,q.2.2],.cons rfl (.cons rv .nil),hT2⟩)
  have hfr:H s.heap.objs.size=none:=I.hok.fresh (fJ _)
  refine⟨.ref s.heap.objs.size,_,I2,rfl,⟨_,q.2.1,kvs[i],hfr,rfl,hx,hb,rfl⟩,⟨_,_,he2⟩,λb hb=>?_⟩
  have z:b=it:=by simpa using hb
  subst z
  rw[aU (vE hilt)]
  exact(hf b (by simp)).1
 done:=by
  intro X hP hw hK hc i pins s σ H E I hf st hg
  subst hP hw hK
  obtain⟨ok,ov,he⟩:=st
  obtain⟨hd,hi⟩:=hg
  have hO:bW X.prog X.w H s.heap d (.frz o (.dT kvs)):=I.hok d _ hd
  obtain⟨f0,f1,f2,f3,f4,f5⟩:=hf it (by simp)
  exact aGe (I.ok.hd hc) he ⟨o,hO.1,hc0,hd0⟩ (by omega) λh' eb=>⟨rfl,I.turned (t':=s.toks) (λb o hb e=>eb b o hb e) f0 f1 f3 f4 f5⟩
 self:=λ_ _ _ _ _ st h=>by
  obtain⟨ok,ov,he⟩:=st
  refine wpAny_pyIter_slot ⟨_,he,rfl⟩ F.slot_dict_itemiterator_iter (wpAny_call_entry F.slot_dict_itemiterator_iter ⟨_,he,rfl⟩ aBJ ?_ (F.args_dict_itemiterator_iter_1 _))
  exact wpAny_pure ⟨_,rfl,"dict_itemiterator",_,⟨_,he,rfl⟩,F.slot_dict_itemiterator_next.lookup,h⟩
section
variable{X:Cx}{elts:List Expr}{x1:Nat}{tp:Pos}
def ImQ(R:It->Hp->Prop):V->Hp->Prop:=λx H1=>∃d kvs,x=.ref d/\H1 d=some (.dT kvs)/\∀o,R (Iti d o kvs) (upd H1 d (.frz o (.dT kvs)))
def aHu(td:TE):TI:=λσ H R=>td σ H (ImQ R)
theorem aKM{o:Expr}{td:TE}{apos cpos:Pos}(ho:PE X o td)(hbase:attributeBase o "items" X.env (eval o X.env)=eval o X.env:=by rfl)(hline:(apos.endLine == cpos.line)=true:=by rfl) :
  PI X (.Tuple elts x1 tp) (.Call (.Attribute o "items" apos) [] [] cpos) (aHu td):=by
 intro pins s σ H R I h
 refine wpAny_Call_method (T:="dict") (id:="dict.items") hbase rfl hline PySem.F.plainAttrs_dict PySem.F.slot_dict_items PySem.F.type_dict_items (dI (ho pins s σ H _ I h) λv s1 ⟨x,H1,I1,r1,q1⟩=>?_)
 obtain⟨d,kvs,e,hd,q⟩:=q1
 subst e
 cases r1
 obtain⟨lo,ob,es,ep,xs,g1,g2,g3,rel,g4,g5⟩:=aHs (show bW X.prog X.w H1 s1.heap d (.dT kvs) from I1.hok d _ hd)
 have raw:Raw s1.heap d es ep:=⟨ob,g1,g2.1,g3⟩
 refine⟨raw.ty,λb z=>by cases z;exact⟨ob,g1,g2.2.1⟩,?_⟩
 refine method_meetsIn PySem.F.slot_dict_items PySem.F.entry_dict_items rfl (PySem.evalArgs_none ⟨rfl,raw.ty,PySem.F.args_dict_items_1 _,_,aJe d lo,raw.ty,?_⟩)
 have I2:=I1.aMI hd g1
 show wpAny _ _ (pyIter (.ref s1.heap.objs.size)) _ _ _
 refine aDu (s:={ s1 with heap:=s1.heap.push { cls:=.type "dict_items",data:=.fields #[.ref d] } }) ⟨_,xI _ rfl,rfl,rfl⟩ (raw.keep λo e=>kS _ e) ?_
 have hk:∀b u,s1.heap.get? b=some u->((s1.heap.push { cls:=.type "dict_items",data:=.fields #[.ref d] }).push { cls:=.type "dict_itemiterator",data:=.fields #[.none,.bool false,.ref d,.int 0 0,.int es.size 0,.int ep 0,.none,.none] }).get? b=some u:=
  λb u e=>kS _ (kS _ e)
 refine⟨_,[(s1.heap.push { cls:=.type "dict_items",data:=.fields #[.ref d] }).objs.size],_,_,_,rfl,I2.kept (t':=s1.toks) hk,aHt d _ ob kvs es ep g2.1 g3 g5,⟨_,_,xI _ rfl⟩,λb hb=>?_,q ob⟩
 have e:b=(s1.heap.push { cls:=.type "dict_items",data:=.fields #[.ref d] }).objs.size:=by simpa using hb
 have hle:s1.heap.objs.size<=b:=by rw[e,Ry9];exact Nat.le_succ _
 exact I2.aFJ hle (I2.hok.fresh hle)
end
section
variable{σ:St}{H:Hp}{nx:St->Hp->Prop}{rt:VK}{g:TG}{tb:TS}
theorem aJf{R:It->Hp->Prop}(h:td σ H (ImQ R)):aHu td σ H R:=h
theorem aPK{R:It->Hp->Prop}(h1:H d=some (.dT kvs))(h:∀o,R (Iti d o kvs) (upd H d (.frz o (.dT kvs)))):ImQ R (.ref d) H:=⟨d,kvs,rfl,h1,h⟩
theorem aKN{kvs:List (List Key×V)}(Pv:Nat->St->Hp->Prop)(h0:Pv 0 σ H)(hl:∀i σ H,i<=kvs.length->Pv i σ H->H d=some (.frz o (.dT kvs)))(hs:∀i kv σ H T b,kvs[i]?=some kv->Pv i σ H->H T=none->H b=some (.tup (kv.1.map kV))->g (.ref T) σ (upd H T (.tup [.ref b,kv.2])) λσ2 H2=>tb ⟨Pv (i+1),rt,nx,Pv (i+1)⟩ σ2 H2)(hd:∀σ H,Pv kvs.length σ H->nx σ H) :
  ∃W:Nat->Nat->St->Hp->Prop,(∃m,W 0 m σ H)/\∀i m σ H,W i m σ H->
   ((Iti d o kvs).stop i H/\nx σ H)\/((Iti d o kvs).go i H/\∃N:St->Hp->Prop,(∀σ' H',N σ' H'->∃m',m' < m/\W (i+1) m' σ' H')/\∀x H',(Iti d o kvs).yld i H x H'->g x σ H' λσ2 H2=>tb ⟨N,rt,nx,N⟩ σ2 H2):=by
 refine⟨λi m σ H=>m=kvs.length - i/\i<=kvs.length/\Pv i σ H,⟨kvs.length,by simp,Rr9 _,h0⟩,?_⟩
 rintro i m σ H ⟨rfl,hi,p⟩
 have q:=hl i σ H hi p
 by_cases hlt:i < kvs.length
 ·refine .inr ⟨⟨q,hlt⟩,Pv (i+1),λσ' H' p'=>⟨kvs.length - (i+1),by omega,rfl,hlt,p'⟩,λx H' y=>?_⟩
  obtain⟨T,b,kv,hT,e1,hk,hb,e2⟩:=y
  subst e1 e2
  exact hs i kv σ H T b hk p hT hb
 ·have e:i=kvs.length:=by omega
  subst e
  exact .inl ⟨⟨q,fJ _⟩,hd σ H p⟩
end
section
variable{X:Cx}{o:Expr}{td:TE}{apos cpos:Pos}
end
section
variable{X:Cx}{ek ev:Expr}{tk tv:TE}{pos:Pos}
theorem aJg{pins:List (Addr×Obj)}{σ:St}{H:Hp}{s:Shared}{a b:Addr}{v:V}{r:Value}{A:Around}{E:Value->Shared->Prop}{kvs:List (List Key×V)}{k:List Key}{Q:Unit->Shared->Prop}(hu:A.units < cLine)(I:Inv X pins σ H s)(e:H a=some (.dT kvs))(eb:H b=some (.tup (k.map kV)))(l:kvs.length < sizeLine)(rv:RelV v r)(h:∀s',Inv X pins σ (upd H a (.dT (putK kvs k v))) s'->Q () s') :
  wpAny (model X.prog X.w) A (dictSet a (.ref b) r) Q E s:=by
 obtain⟨z,hd,xs,rel,dd⟩:=aNc I.hok e
 have hz:xs.length<=sizeLine:=by rw[<-Paired.length rel];exact z
 have hl:(putK kvs k v).length<=sizeLine:=by have:=vL kvs k v;omega
 refine wpAny_dictSet_heap (hsz:=hz) hu (aCl I.hok eb) dd λh' dd' hs=>h _ ?_
 obtain⟨q,es,ep,hq,h2,h3,h4,_,h5⟩:=dd'
 refine aEE I (by rw[e];exact True.intro) hs ⟨q,hq⟩ ⟨hl,hd,_,(rel.put k eb rv).keeps λc ys ec=>?_,q,es,ep,hq,h2,h3,h4,h5⟩
 rw[aU (aM5 ec e (λz=>nomatch z))]
 exact ec
def aHv(tk tv:TE):TE:=λσ H Q=>∀d,H d=none->tk σ (upd H d (.dT [])) λy H1=>tv σ H1 λv H2=>∃b k,y=.ref b/\H2 b=some (.tup (k.map kV))/\H2 d=some (.dT [])/\Q (.ref d) (upd H2 d (.dT [(k,v)]))
theorem aKO(hu:X.A.units < cLine)(hk:PE X ek tk)(hv:PE X ev tv):PE X (.Dict [some ek] [ev] pos) (aHv tk tv):=by
 intro pins s σ H Q I h
 have hn:H s.heap.objs.size=none:=I.hok.fresh (fJ _)
 have I0:Inv X pins σ (upd H s.heap.objs.size (.dT [])) { s with heap:=s.heap.push { cls:=.type "dict",data:=.dict #[] } }:=I.laid (a:=s.heap.objs.size) (o:=.dT []) (t':=s.toks) (λ_ _ q=>kS _ q) (fJ _) (aFU s.heap I.big)
 refine wpAny_Dict_any rfl rfl (by simp) (by simp) ?_
 refine pairTrees_cons_walk (dI (hk pins _ σ _ _ I0 (h _ hn)) λu s1 ⟨y,H1,I1,r1,q1⟩=>dI (hv pins s1 σ H1 _ I1 q1) λv s2 ⟨x,H2,I2,r2,q2⟩=>pairTrees_nil_walk ?_)
 obtain⟨b,k,e,eb,ed,q⟩:=q2
 subst e
 cases r1
 unfold storeAll
 simp only[List.forIn_cons,List.forIn_nil]
 refine wpAny_bind (wpAny_bind (aJg hu I2 ed eb (by rw[sizeLine_eq];decide) r2 λs3 I3=>?_))
 exact wpAny_pure (wpAny_pure ⟨.ref _,_,I3,rfl,q⟩)
end
end L2
namespace L2
section
variable{σ:St}{H:Hp}{Q:VK}
theorem aKP{tk:TE}(h:∀d,H d=none->tk σ (upd H d (.dT [])) λy H1=>tv σ H1 λv H2=>∃b k,y=.ref b/\H2 b=some (.tup (k.map kV))/\H2 d=some (.dT [])/\Q (.ref d) (upd H2 d (.dT [(k,v)]))):aHv tk tv σ H Q:=h
theorem aKQ{ty:TE}(h:td σ H λx H1=>∃a,x=.ref a/\IsD H1 a/\ty σ H1 λy H2=>tx σ H2 λz H3=>∃o,vM H3 a y o/\Q (o.getD z) H3):aG7 td ty tx σ H Q:=h
end
end L2
namespace L2.Z
open PySem PySem.Spec PyProof.Rows L2
section
variable{X:Cx}{o e f ek ev:Expr}{td ty tx tk tv:TE}{pos apos cpos tp:Pos}{elts:List Expr}{x1:Nat}
theorem aGf(ho:QE X o td)(hbase:attributeBase o "items" X.env (eval o X.env)=eval o X.env:=by rfl)(hline:(apos.endLine == cpos.line)=true:=by rfl) :
  QI X (.Tuple elts x1 tp) (.Call (.Attribute o "items" apos) [] [] cpos) (aHu td):=⟨L2.aKM ho.h hbase hline⟩
theorem aGg(hu:X.A.units+9 < cLine)(hk:QE X ek tk)(hv:QE X ev tv):QE X (.Dict [some ek] [ev] pos) (aHv tk tv):=⟨L2.aKO (by omega) hk.h hv.h⟩
theorem aGh(hu:X.A.units+9 < cLine)(ho:QE X o td)(he:QE X e ty)(hf:QE X f tx)(base:attributeBase o "get" X.env (eval o X.env)=eval o X.env:=by rfl)
  (few:((backTo cpos (starEach [e,f] X.env)).all (λx=>!x.1) && (backToKw cpos (keywordEach [] X.env)).all (λx=>x.1.isSome)
   && decide (([e,f]:List Expr).length+([]:List Keyword).length+(if ([]:List Keyword).isEmpty then 0 else 1) < 30))=true:=by rfl)
  (line:(apos.endLine == cpos.line)=true:=by rfl) (trees:backTo cpos (starEach [e,f] X.env)=[(false,eval e X.env),(false,eval f X.env)]:=by rfl) :
  QE X (.Call (.Attribute o "get" apos) [e,f] [] cpos) (aG7 td ty tx):=⟨L2.aJ8 (by omega) ho.h he.h hf.h ⟨base,few,line,trees⟩⟩
end
end L2.Z
namespace L2
open PySem PySem.Spec PyProof.Rows
section
variable{X:Cx}{tg:Expr}
end
section
variable{σ:St}{H:Hp}{Q:VK}{nx:St->Hp->Prop}{rt:VK}{g:TG}{tb:TS}
theorem aKR(h:td σ H λx H1=>ty σ H1 λy H2=>∃a v,x=.ref a/\vM H2 a y (some v)/\Q v H2):aJ3 td ty σ H Q:=h
theorem vM.f{k:List Key}(e:H a=some (.frz o (.dT kvs)))(eb:H b=some (.tup (k.map kV))):vM H a (.ref b) (sC kvs k):=.inr ⟨kvs,k,b,.inr ⟨o,e⟩,rfl,eb,rfl⟩
end
end L2
namespace L2.Z
open PySem PySem.Spec PyProof.Rows L2
section
variable{X:Cx}{o i l tg:Expr}{td ty tl:TE}{pos:Pos}
theorem qA(hu:X.A.units+9 < cLine)(ho:QE X o td)(hi:QE X i ty)(hs:aOb i:=by intro _ _;rfl):QE X (.Subscript o i pos) (aJ3 td ty):=⟨L2.aL0 (by omega) ho.h hi.h hs⟩
end
end L2.Z
namespace L2
open PySem PySem.Spec PyProof.Rows
section
open PySem.SeqAt
open PySem.AutoSeq1 (wpAny_loadPart')
open PySem.MeetsSeq PySem.MeetsSeq2 PySem.MeetsSeq3
end
section
variable{X:Cx}
end
end L2
namespace L2
open PySem PySem.Spec PyProof.Rows
structure Clo(P:Program)(w:World)(K:W.Frag)(mg:Str->Option Value)(base:Heap)(k:Nat)(f:Addr)(sp:Sp):Prop where
 ex:∃(o:Obj) (fd:FuncData) (ps:List Str),base.get? f=some o/\o.data=.func fd/\bP P w K mg base hU k f fd ps sp/\∀(s:Shared) (us:List Value),us.length=ps.length->BindsTo s fd ⟨us,[]⟩ (ps.zip us)
abbrev aEh(q:Str)(params:Arguments)(body:Expr)(scope:Scope)(cl:List (Str×Addr))(pm cd ct:Value):FuncData:=
  { name := "<lambda>", qualname := q, params, body := .expr body, scope, globals := mainGlobals, closure := cl, defaults := .none, kwdefaults := .none, doc := .none, pyModule := pm, annotations := none, code := cd, closureTuple := ct, builtins := builtinsNs }
abbrev vT(q:Str)(scope:Scope)(L f:Addr)(cd:Value)(cl:List (Str×Addr)):Env:=
 { scope:=scope,locals:=L,globals:=mainGlobals,cells:=cl,qual:=q ++ ".<locals>.",func:=some f,code:=cd,frame:=some L,builtins:=builtinsNs }
def cxL(P:Program)(w:World)(K:W.Frag)(mg:Str->Option Value)(base:Heap)(N:List Str)(q:Str)(scope:Scope)(f:Addr)(cd:Value)(cl:List (Str×Addr))(A:Around)(outer:List Env)(s:Shared)(H:Hp):Cx where
 prog:=P
 w:=w
 K:=K
 mg:=mg
 base:=base
 A:=A.deeper (vT q scope s.heap.objs.size f cd cl)
 N:=N
 s₀:=s
 H₀:=H
 env:=vT q scope s.heap.objs.size f cd cl
 outer:=outer
 stack:=vT q scope s.heap.objs.size f cd cl::outer
 ex:=[]
 calm:=true
 fn:=λ_=>false
 pn:=[]
 xe:=λ_ _=>False
structure aOU(base:Heap)(scope:Scope)(N ps:List Str)(cl:List (Str×Addr))(cap:St):Prop where
 kind:scope.kind=.function
 co:scope.isCoroutine=false
 gen:scope.isGenerator=false
 nocell:∀y∈scope.names,y.2≠.cell
 pre:N.take ps.length=ps
 nd:N.Nodup
 len:N.length=ps.length+cap.length
 par:∀x∈ps,scope.names.lookup x=some .local
 inj:∀x y c,cl.lookup x=some c->cl.lookup y=some c->x=y
 has:∀x,scope.names.lookup x=some .free->∃c,cl.lookup x=some c
 all:∀x c,cl.lookup x=some c->∃o v,base.get? c=some o/\o.data=.cell v
 cap:∀(i:Nat) x v,(N.drop ps.length)[i]?=some x->cap[i]?=some (some v)->scope.names.lookup x=some .free/\∃u c o,RelV v u/\cl.lookup x=some c/\base.get? c=some o/\o.data=.cell (some u)
theorem aIe:∀{l:List (Str×Value)},(l.map (·.1)).Nodup->(x,v)∈l->l.lookup x=some v
 |[],_,h=>by cases h
 |(y,u)::r,nd,h=>by
  rw[Rf9]
  rcases xJ.mp h with e|h'
  ·cases e
   rw[beq_self_eq_true]
  ·have ne:x≠y:=λz=>by
    subst z
    exact(Rm9.mp nd).1 (sR.mpr ⟨(x,v),h',rfl⟩)
   rw[beq_eq_false_iff_ne.mpr ne]
   exact aIe (Rm9.mp nd).2 h'
theorem aMJ:∀{P:List Str}{us:List Value}{i:Nat},P.Nodup->P[i]?=some x->us[i]?=some v->P.length=us.length->(P.zip us).reverse.lookup x=some v:=by
 intro P us i nd h1 h2 hl
 have hm:(x,v)∈(P.zip us).reverse:=by
  rw[List.mem_reverse]
  refine vD (i:=i) ?_
  rw[List.getElem?_zip_eq_some]
  exact⟨h1,h2⟩
 refine aIe ?_ hm
 rw[List.map_reverse,List.map_fst_zip (Tx9 hl)]
 exact List.pairwise_reverse.mpr (nd.imp λh=>Ne.symm h)
def aIf(c:Addr)(q:Str)(n:Nat)(tl:TE)(cap:St):Sp:=λws H Q _=>H c=some (.cod q)/\ws.length=n/\tl (ws.map some++cap) H Q
theorem aHw{P:Program}{w:World}{K:W.Frag}{mg:Str->Option Value}{base:Heap}{N ps:List Str}{q:Str}{scope:Scope}{f:Addr}{cd:Value}{cl:List (Str×Addr)}{cap:St}{A:Around}{outer:List Env}{s:Shared}{H:Hp}{us:List Value}{vs:List V}{h':Heap}{tk:Nat}
  (S:aOU base scope N ps cl cap) (hd:A.handled=none) (e0:aDq P w K mg base A outer s H) (hl:vs.length=ps.length) (r:Vals vs us)
  (hns:h'.Ns s.heap.objs.size λx=>(ps.zip us).reverse.lookup x) (hk:∀b o,s.heap.get? b=some o->h'.get? b=some o) :
  Inv (cxL P w K mg base N q scope f cd cl A outer s H) [] (vs.map some++cap) H { s with heap:=h',toks:=tk }:=by
 have noA:∀b:Addr,b∉(cxL P w K mg base N q scope f cd cl A outer s H).ex:=λb z=>absurd (show b∈([]:List Addr) from z) (by simp)
 refine⟨⟨e0.mod,S.kind,rfl,rfl,fJ _,S.inj,λy hy=>?_,λy c z _=>(by cases z),λ_=>hd,Around.frames_deeper e0.frames,.inr ⟨rfl,rfl⟩,λb z=>absurd z (noA b),e0.bs,e0.bsz,λb _ _=>noA b,λb z=>absurd z (noA b),e0.x8,e0.frf⟩,
  rfl,e0.bare,Un.kept hk,⟨_,hns,λi y v h1 h2 h3=>?_⟩,λy c h=>?_,e0.hok.fresh (fJ _),λy c h=>?_,λp hp=>absurd (show p∈([]:List (Addr×Obj)) from hp) (by simp),e0.hok.kept hk,?_⟩
 ·have hy:scope.names.lookup y=some .cell\/scope.names.lookup y=some .free:=hy
  rcases hy with hy|hy
  ·exact absurd rfl (S.nocell _ (PySem.mem_of_lookup hy))
  ·exact S.has y hy
 ·have h1':N[i]?=some y:=h1
  by_cases hi:i < ps.length
  ·rw[Qx9 (by rw[bZ];omega),nK] at h2
   obtain⟨v',hv',e⟩:=Qr9.mp h2
   cases e
   obtain⟨u,hu,rv⟩:=r.get hv'
   have hp:ps[i]?=some y:=by rw[<-S.pre,List.getElem?_take_of_lt hi];exact h1'
   have ndP:ps.Nodup:=by rw[<-S.pre];exact S.nd.sublist (List.take_sublist _ _)
   refine⟨u,rv,.inl ⟨S.par y (vD hp),?_⟩⟩
   exact aMJ ndP hp hu (by rw[<-hl];exact r.length)
  ·obtain⟨j,rfl⟩ : ∃j,i=ps.length+j:=⟨i - ps.length,by omega⟩
   rw[Qy9 (by rw[bZ];omega),bZ,hl,Nat.add_sub_cancel_left] at h2
   obtain⟨hf,u,c,o,rv,ec,eo,ed⟩:=S.cap j y v (by rw[List.getElem?_drop];exact h1') h2
   exact⟨u,rv,.inr ⟨.inr hf,c,ec,o,hk _ _ (e0.bs c o eo).1,ed⟩⟩
 ·obtain⟨o,v,eo,ed⟩:=S.all y c h
  exact⟨v,o,hk _ _ (e0.bs c o eo).1,ed⟩
 ·obtain⟨o,v,eo,ed⟩:=S.all y c h
  exact(e0.bs c o eo).2
 ·show _=N.length
  rw[xX,bZ,hl,S.len]
theorem aOV{P:Program}{w:World}{K:W.Frag}{mg:Str->Option Value}{base:Heap}{k:Nat}{f c:Addr}{q:Str}{params:Arguments}{body:Expr}{scope:Scope}{cl:List (Str×Addr)}{pm ct:Value}{N ps:List Str}{cap:St}{tl:TE}{o:Obj}
  (hf:base.get? f=some o) (ho:o.data=.func (aEh q params body scope cl pm (.ref c) ct)) (S:aOU base scope N ps cl cap)
  (hbody:∀(A:Around) (outer:List Env) (s:Shared) (H:Hp),eO k (A.deeper (vT q scope s.heap.objs.size f (.ref c) cl))->PE (cxL P w K mg base N q scope f (.ref c) cl A outer s H) body tl) :
  bP P w K mg base hU (k+1) f (aEh q params body scope cl pm (.ref c) ct) ps (aIf c q ps.length tl cap):=by
 refine⟨λvs H Q E h=>h.2.1,λA outer s H args us vs Q E hr e0 hb r hsp=>?_⟩
 obtain⟨hcod,hl,hq⟩:=hsp
 have lim:s.heap.NoLimit:=e0.mod.nolimit.keeps λb o e=>(e0.bs b o e).1
 have hcd:s.heap.CodeRec (.ref c) q:=by
  obtain⟨oc,vc,t,z1,z2,z3⟩:=e0.hok c _ hcod
  exact⟨c,oc,vc,t,rfl,z1,z2,z3⟩
 refine PySem.W.kla_callFunE hr.depth (e0.bs f _ hf).1 ho S.co S.gen rfl hcd (hb _ _ _ _ ?_)
 refine wpAny_newFunctionEnv S.nocell (λy hy=>?_) (λh₁ hns hsb=>⟨lim.fresh _ hsb,?_⟩) S.kind
 ·obtain⟨n,v⟩:=y
  exact S.par n (Tt9 hy).1
 show codeAny _ _ (.expr body (vT q scope s.heap.objs.size f (.ref c) cl)) _ _
 have hk₁:∀b o,s.heap.get? b=some o->h₁.get? b=some o:=λb o e=>hsb.extBut b o (vE (jU e)) (kS _ e)
 refine PySem.W.kla_codeExpr ?_
 have I:=aHw (tk:=s.toks+(ps.zip us).length) (q:=q) (f:=f) (cd:=.ref c) S hr.hd e0 hl r hns hk₁
 refine wpAny_mono (hbody A outer s H (hr.deeper _) [] _ _ H _ I hq) (λu s' hs=>?_) λe s' hs=>hs.elim
 obtain⟨v,H',J,rv,z⟩:=hs
 exact⟨v,H',J.os,J.bare,J.base,J.hok,rv,z⟩
def aET(base h:Heap)(Z:List Addr):Heap:=PySem.W.hideAll h ((List.range h.objs.size).filter λa=>!((base.get? a).isSome || Z.contains a))
theorem vU{base h:Heap}(e:h.get? b=some o)(z:(∃u,base.get? b=some u)\/b∈Z):(aET base h Z).get? b=some o:=by
 refine PySem.W.hideAll_get _ e λhm=>?_
 have q:=(Sq9.mp hm).2
 rcases z with ⟨u,z⟩|z
 ·rw[z] at q;simp at q
 ·rw[show Z.contains b=true from List.elem_iff.mpr z] at q
  simp at q
theorem aIg{base h:Heap}(e:(aET base h Z).get? b=some o):h.get? b=some o/\((∃u,base.get? b=some u)\/b∈Z):=by
 have e':h.get? b=some o:=PySem.W.of_hideAll _ e
 refine⟨e',?_⟩
 cases q1:base.get? b with
 |some u=>exact .inl ⟨u,rfl⟩
 |none=>
  cases q2:Z.contains b with
  |true=>exact .inr (List.elem_iff.mp q2)
  |false=>
   have hm:b∈(List.range h.objs.size).filter λa=>!((base.get? a).isSome || Z.contains a):=Sq9.mpr ⟨Rx9.mpr (jU e'),by rw[q1,q2];rfl⟩
   have z:(aET base h Z).get? b=none:=PySem.W.hideAll_none _ hm
   rw[z] at e
   cases e
theorem Mod.keeps{K:W.Frag}{mg:Str->Option Value}{base base':Heap}(M:Mod K mg base)(k:∀b o,base.get? b=some o->base'.get? b=some o):Mod K mg base':=
 ⟨M.kin.keeps k,M.glob.keeps k,(let ⟨mb,h1,h2⟩:=M.blt;⟨mb,h1.keeps k,h2⟩),M.nolimit.keeps k,let ⟨bm,o,e1,e2,e3,r⟩:=M.bm;⟨bm,o,e1,e2,k _ _ e3,r⟩⟩
theorem aHx{h:Heap}(hl:h.FunFrames base l)(hz:∀b∈frs l,b∉Z):h.FunFrames (aET base h Z) l:=by
 induction l with
 |nil=>trivial
 |cons env rest ih=>
  obtain⟨hk,⟨L,o,hf,hn,ho,hd⟩,hr⟩:=hl
  have hL:L∈frs (env::rest):=by unfold frs;rw[Sh9,hf];exact Qz9
  refine⟨hk,⟨L,o,hf,?_,ho,hd⟩,ih hr λb hb=>hz b (by unfold frs;rw[Sh9,hf];exact Qn9 _ hb)⟩
  cases q:(aET base h Z).get? L with
  |none=>rfl
  |some u=>
   rcases(aIg q).2 with ⟨v,z⟩|z
   ·rw[hn] at z;cases z
   ·exact absurd z (hz L hL)
end L2
namespace L2
open PySem PySem.Spec PyProof.Rows
section
variable{X:Cx}{pins:List (Addr×Obj)}{σ:St}{H:Hp}{s:Shared}{c Pt:Addr}{q:Str}{params:Arguments}{body:Expr}{scope:Scope}{pos lpos:Pos}{cl:List (Str×Addr)}
theorem aKS{Q:Value->Shared->Prop}(I:Inv X pins σ H s)(hcode:X.env.code=.ref c)(hC:PySem.W.codeHdIn X.K c Pt=true)(hT:H Pt=some (.ctb pos q))(hq:X.env.qual ++ "<lambda>" = q)(hdef:defaultsOf params X.env=([],[]))(hcl:closureFor scope X.env=pure cl)
  (h:∀(f c':Addr) (pm ct:Value) (o:Obj) (H':Hp) (s':Shared),Inv X pins σ H' s'->aQ H H'->s'.heap.get? f=some o->o.data=.func (aEh q params body scope cl pm (.ref c') ct)->H' f=none->H' c'=some (.cod q)->s.heap.objs.size<=f->Q (.ref f) s') :
  wpAny (model X.prog X.w) X.A (eval (.Lambda params body scope pos) X.env) Q X.xe s:=by
 obtain⟨ps,eP,ht,hc⟩:=I.hok Pt _ hT
 have hg:s.heap.Ns mainGlobals X.mg:=I.mod.glob.keeps I.bk
 have hgP:mainGlobals≠Pt:=λz=>by
  obtain⟨o,es,ep,e,hd,_⟩:=hg
  rw[z,eP] at e
  cases e
  cases hd
 have hb:s.heap.BuiltinsAt X.mg Pt:=by
  obtain⟨bm,o,e1,e2,e3,e4,e5,e6⟩:=I.mod.bm
  have e3':=I.bk _ _ e3
  refine⟨bm,o,e1,e2,λz=>?_,λz=>?_,e3',e4,e5,e6⟩
  ·obtain⟨o',es,ep,e,hd,_⟩:=hg
   rw[z,e] at e3'
   cases e3'
   rw[hd] at e6
   cases e6
  ·rw[z,eP] at e3'
   cases e3'
   cases e4
 have hCd:PySem.W.CodeHd s.heap c Pt:=PySem.W.codeHd_of_K I.kIn hC
 refine PySem.W.kla_eval hdef ?_
 rw[hq]
 rcases hc with hn|⟨c',hs,hcd⟩
 ·refine PySem.W.kla_makeFunction (mg:=X.mg) (P:=Pt) (c:=c) (ps:=ps) hcl I.ok.glob hg hcode hCd eP ht hn hgP hb λc' ctv h' tk hx hge hlt hrec htb=>?_
  have hnc:H c'=none:=I.hok.fresh hge
  have hx2:∀b o,b≠Pt->s.heap.get? b=some o->(h'.push (PySem.W.kla_obj "<lambda>" q params body scope cl ((X.mg "__name__").getD .none) c' ctv)).get? b=some o:=λb o n e=>kS _ (hx b o n e)
  have np:∀b,H b=none->b≠Pt:=λb n z=>by rw[z,hT] at n;cases n
  have ncP:c'≠Pt:=np c' hnc
  refine h h'.objs.size c' _ ctv _ (upd H c' (.cod q)) _ (I.step (h':=h'.push _) (g':=s.gens) (d':=s.drawn) (t':=tk) (ch:=[]) (λ_ z=>nomatch z) (λb o _ _ _ e n=>hx2 b o (np b n) e) (λb o _ _ _ e n=>⟨o.slots,hx2 b o (np b n) e⟩)
   (λb o _ e n=>by rw[aU (vE (yV (jU e) hge))];exact n) (λb o _ e=>?_) (λb xs e=>by rw[aU (bI e hnc)];exact e) (λb o u e=>by rw[aU (bI e hnc)];exact e)
   (λb ps e=>⟨#[],by rw[aU (bI e hnc),e];simp⟩) (λm hm=>hm.extBut (b:=Pt) hx2 (np _ I.free)) (λb u e=>?_) I.bare) (aQ.new hnc) (xI _ rfl) rfl ?_ aL (Rn9 hge (Tn9 hlt))
  ·by_cases hbP:b=Pt
   ·subst hbP
    exact⟨_,kS _ htb⟩
   ·exact⟨o,hx2 b o hbP e⟩
  ·by_cases hbc:b=c'
   ·subst hbc
    rw[aL] at e
    cases e
    obtain⟨c2,oc,vs,t,z1,z2,z3,z4⟩:=hrec
    cases z1
    exact⟨oc,vs,t,kS _ z2,z3,z4⟩
   ·rw[aU hbc] at e
    by_cases hbP:b=Pt
    ·subst hbP
     rw[hT] at e
     cases e
     refine⟨_,kS _ htb,?_,.inr ⟨c',?_,aL⟩⟩
     ·rw[Array.toList_append]
      exact TriplesOk_snoc _ _ _ _ ht
     ·rw[Array.toList_append]
      exact codeAmong_snoc _ ht hn
    ·refine(I.hok b u e).aCd (λd v hd z=>hx2 d v ?_ z) (λd z=>by rw[aU (bI z hnc)];exact z) λd xs _ z=>by rw[aU (bI z hnc)];exact z
     rcases hd with z|z
     ·rw[z];exact hbP
     ·intro y
      rw[y,hT] at z
      cases z
  ·rw[aU (Sg9 hlt)]
   exact I.hok.fresh (Rn9 hge (Tn9 hlt))
 ·refine PySem.W.kla_makeFunctionHit (mg:=X.mg) (P:=Pt) (c:=c) (ps:=ps) hcl I.ok.glob hg hcode hCd eP ht hs hb λctv h' tk hk hsz=>?_
  exact h h'.objs.size c' _ ctv _ H _ (I.kept λb u e=>kS _ (hk b u e)) (aQ.refl _) (xI _ rfl) rfl (I.hok.fresh hsz) hcd hsz
def PAL(X:Cx)(es:List Expr)(params:Arguments)(body:Expr)(scope:Scope)(lpos:Pos)(Pt:Addr)(q:Str)(cl:List (Str×Addr))(t:TA):Prop:=
 ∀(pos:Pos) (pins:List (Addr×Obj)) (s:Shared) (σ:St) (H:Hp) (Q:List V->Hp->Prop),Inv X pins σ H s->t σ H (λvs H1=>H1 Pt=some (.ctb lpos q)/\Q vs H1)->
  wpAny (model X.prog X.w) X.A (spliced (backTo pos (starEach es X.env))) (λus s'=>∃(vs:List V) (us0:List Value) (f c':Addr) (pm ct:Value) (o:Obj) (H1 H2:Hp),us=us0 ++ [.ref f]/\Vals vs us0/\Inv X pins σ H2 s'/\aQ H1 H2/\
   s'.heap.get? f=some o/\o.data=.func (aEh q params body scope cl pm (.ref c') ct)/\H2 f=none/\H2 c'=some (.cod q)/\f∉frs X.stack/\Q vs H1) X.xe s
theorem aKT(hcode:X.env.code=.ref c)(hC:PySem.W.codeHdIn X.K c Pt=true)(hq:X.env.qual ++ "<lambda>" = q)(hdef:defaultsOf params X.env=([],[])){n:Nat}{idx:List Nat}(S:eU X scope N n idx) :
  PAL X [.Lambda params body scope lpos] params body scope lpos Pt q (nL X.env scope.names []) oW:=by
 intro pos pins s σ H Q I h
 obtain⟨hT,hQ⟩:=h
 show wpAny _ _ (spliced ((false,eval (.Lambda params body scope lpos) X.env)::backTo pos (starEach [] X.env))) _ _ s
 refine Calls.spliced_cons (aKS I hcode hC hT hq hdef (y3 (S.cells I)) λf c' pm ct o H' s' I' sm e1 e2 e3 e4 e5=>?_)
 refine Calls.spliced_nil ⟨[],[],f,c',pm,ct,o,H,H',rfl,.nil,I',sm,e1,e2,e3,e4,λz=>?_,hQ⟩
 obtain⟨_,o',e,_⟩:=I.stack.mem z
 exact absurd (yV (jU e) e5) (Rw9 _)
theorem aKU{e:Expr}{es:List Expr}{te:TE}{t:TA}(ha:PE X e te)(hr:PAL X es params body scope lpos Pt q cl t)(hs:starEach (e::es) X.env=(false,eval e X.env)::starEach es X.env:=by rfl) :
  PAL X (e::es) params body scope lpos Pt q cl (bJ te t):=by
 intro pos pins s σ H Q I h
 rw[hs]
 show wpAny _ _ (spliced ((false,eval e X.env)::backTo pos (starEach es X.env))) _ _ s
 refine Calls.spliced_cons (dI (ha pins s σ H _ I h) λu s1 ⟨x,H1,I1,r1,q1⟩=>?_)
 refine dI (hr pos pins s1 σ H1 (λvs H2=>Q (x::vs) H2) I1 q1) λus s2 ⟨vs,us0,f,c',pm,ct,o,H2,H3,e0,r,I3,sm,e1,e2,e3,e4,e5,hQ⟩=>?_
 exact⟨x::vs,u::us0,f,c',pm,ct,o,H2,H3,by rw[e0];rfl,.cons r1 r,I3,sm,e1,e2,e3,e4,e5,hQ⟩
def aHy(Pt:Addr)(lpos:Pos)(q:Str)(sp:(Addr->Sp->Prop)->Sp)(n:Nat)(tl:TE)(idx:List Nat)(t:TA):TE:=λσ H Q=>t σ H λvs H1=>H1 Pt=some (.ctb lpos q)/\
 ∀(f c':Addr) (H2:Hp) (C:Addr->Sp->Prop),aQ H1 H2->H2 c'=some (.cod q)->C f (aIf c' q n tl (idx.map λj=>(σ[j]?).join))->sp C (vs ++ [.ref f]) H2 Q E0
theorem aKV{f:Addr}{fd:FuncData}{ps psL N:List Str}{idx:List Nat}{sp:(Addr->Sp->Prop)->Sp}{k kc:Nat}{x:Str}{p:Pos}{e:Expr}{es:List Expr}{t:TA}{tl:TE}
  (F:∀base':Heap,bP X.prog X.w X.K X.mg base' hU k f fd ps (sp (Clo X.prog X.w X.K X.mg base' (kc+1)))) (hr:eO k X.A) (hg:Gl X x) (hm:X.mg x=some (.ref f)) (hk:W.keepIn X.K (.ref f)=true) (hb:Binds X.K fd ps [])
  (hfn:∀y,X.fn y=true) (S:eU X scope N psL.length idx) (hpre:N.take psL.length=psL) (hpar:psL.all (λx=>scope.names.lookup x == some .local)=true) (hco:scope.isCoroutine=false) (hgen:scope.isGenerator=false)
  (hbind:∀(cl:List (Str×Addr)) (pm cd ct:Value) (us:List Value),us.length=psL.length->bindArgs (aEh q params body scope cl pm cd ct) ⟨us,[]⟩=pure (psL.zip us))
  (ha:PAL X (e::es) params body scope lpos Pt q (nL X.env scope.names []) t)
  (hbody:∀(base':Heap) (f' c':Addr) (cl:List (Str×Addr)) (A:Around) (outer:List Env) (s:Shared) (H:Hp),eO kc (A.deeper (vT q scope s.heap.objs.size f' (.ref c') cl))->PE (cxL X.prog X.w X.K X.mg base' N q scope f' (.ref c') cl A outer s H) body tl)
  (hdb:(x == ("__debug__" : Str))=false:=by decide) (he:starEach (e::es) X.env=(false,eval e X.env)::starEach es X.env:=by rfl) (hpl:(backTo pos (starEach es X.env)).any (·.1)=false:=by rfl) :
  PE X (.Call (.Name x p) (e::es) [] pos) (aHy Pt lpos q sp psL.length tl idx t):=by
 intro pins s σ H Q I h
 refine wpAny_Call_Name_kw (aB5 I hg hm ?_ hdb)
 refine PySem.W.callWith_K (h₀:=X.base) I.ok.mod.kin hk (dI (ha pos pins s σ H _ I h) λus s1 ⟨vs,us0,fl,c',pm,ct,o,H1,H2,e0,r,I2,sm,e1,e2,e3,e4,e5,hQ⟩=>⟨I2.kIn,?_⟩) he hpl
 subst e0
 generalize hcl:nL X.env scope.names []=cl at *
 have cels:=S.cells I2
 have clo:∀{y:Str} {d:Addr},cl.lookup y=some d->X.env.cells.lookup y=some d:=λ{y d} z=>pW cels (by rw[hcl];exact z)
 have lkp:∀{y:Str} {d:Addr},(y,NameKind.free)∈scope.names->X.env.cells.lookup y=some d->cl.lookup y=some d:=λ{y d} h1 h2=>by rw[<-hcl];exact vN cels h1 h2
 have inZ:∀{y:Str} {d:Addr},cl.lookup y=some d->d∈fl::cl.map (·.2):=λ{y d} z=>Qn9 _ (sR.mpr ⟨(y,d),PySem.mem_of_lookup z,rfl⟩)
 have memZ:∀d,d∈cl.map (·.2)->∃y,X.env.cells.lookup y=some d:=λd z=>by
  obtain⟨⟨y,d'⟩,hm,e⟩:=sR.mp z
  have e':d'=d:=e
  subst e'
  rw[<-hcl] at hm
  rcases zT _ _ cels hm with q|q
  ·cases q
  ·exact⟨y,q⟩
 have keepB:∀b u,X.base.get? b=some u->(aET X.base s1.heap (fl::cl.map (·.2))).get? b=some u:=λb u z=>vU (I2.bk b u z) (.inl ⟨u,z⟩)
 have notfs:∀b∈frs X.stack,b∉fl::cl.map (·.2):=λb hb z=>by
  rcases xJ.mp z with rfl|z
  ·exact e5 hb
  ·obtain⟨y,hy⟩:=memZ b z
   rcases xJ.mp (I2.aCe b hb) with q|q
   ·exact I2.cne y b hy q
   ·obtain⟨_,ob,eo,_⟩:=I2.ok.x8.mem q
    exact absurd (yV (jU eo) (I2.ok.cab y b (hfn y) hy)) (Rw9 _)
 have aJU:aDq X.prog X.w X.K X.mg (aET X.base s1.heap (fl::cl.map (·.2))) X.A X.stack s1 H2:=by
  refine⟨I2.ok.frames,I2.ok.mod.keeps keepB,λb u z=>?_,Tx9 (PySem.W.hideAll_size _ _),aHx I2.stack notfs,I2.aEy,I2.hok,I2.bare⟩
  obtain⟨z1,z2⟩:=aIg z
  refine⟨z1,?_⟩
  rcases z2 with ⟨u',z2⟩|z2
  ·exact(I2.bs b u' z2).2
  ·rcases xJ.mp z2 with rfl|z2
   ·exact e3
   ·obtain⟨y,hy⟩:=memZ b z2
    exact I2.freeC y b hy
 have caps:aOU (aET X.base s1.heap (fl::cl.map (·.2))) scope N psL cl (idx.map λj=>(σ[j]?).join):=by
  refine⟨S.kind,hco,hgen,S.nocell,hpre,S.nd,by rw[bZ];exact S.len,λy hy=>?_,λy z d h1 h2=>I2.ok.inj y z d (clo h1) (clo h2),λy hy=>?_,λy d hy=>?_,λi y v h1 h2=>?_⟩
  ·have:=Sm9.mp hpar y hy
   simpa using this
  ·have hmem:=PySem.mem_of_lookup hy
   obtain⟨d,hd⟩:=cels _ hmem rfl
   exact⟨d,lkp hmem hd⟩
  ·obtain⟨v,oc,eo,ed⟩:=I2.cell y d (clo hy)
   exact⟨oc,v,vU eo (.inr (inZ hy)),ed⟩
  ·obtain⟨j,z1,z2,z3⟩:=S.cap i y h1
   refine⟨z3,?_⟩
   rw[nK,z1] at h2
   have h2j:(σ[j]?).join=some v:=Option.some.inj h2
   have h2':σ[j]?=some (some v):=by
    cases qj:σ[j]? with
    |none=>rw[qj] at h2j;cases h2j
    |some w=>rw[qj] at h2j;rw[show w=some v from h2j]
   have hfree:=PySem.mem_of_lookup z3
   have hkind:=S.free _ hfree rfl
   obtain⟨m0,hn0,hl0⟩:=I2.loc
   obtain⟨u,ru,l⟩:=hl0 j y v z2 h2' (by rcases hkind with z|z;exact .inr (.inl z);exact .inr (.inr z))
   rcases l with ⟨z,_⟩|⟨_,d,ed,oc,eo,dd⟩
   ·rcases hkind with w|w
    ·rw[w] at z;cases z
    ·rw[w] at z;cases z
   ·exact⟨u,d,oc,ru,lkp hfree ed,vU eo (.inr (inZ (lkp hfree ed))),dd⟩
 have lamK:=aOV (P:=X.prog) (w:=X.w) (K:=X.K) (mg:=X.mg) (N:=N) (ps:=psL) (vU e1 (.inr Qz9)) e2 caps (hbody _ fl c' cl)
 have hC:Clo X.prog X.w X.K X.mg (aET X.base s1.heap (fl::cl.map (·.2))) (kc+1) fl (aIf c' q psL.length tl (idx.map λj=>(σ[j]?).join)):=
  ⟨o,_,psL,vU e1 (.inr Qz9),e2,lamK,λs us hl=>.of_eq (hbind cl pm (.ref c') ct us hl)⟩
 have hsp:=hQ fl c' H2 _ sm e4 hC
 have r2:Vals (vs ++ [.ref fl]) (us0 ++ [.ref fl]):=r.append (.cons rfl .nil)
 have hl:(us0 ++ [Value.ref fl]).length=ps.length:=by rw[<-r2.length];exact(F _).len _ _ _ _ hsp
 have hb':=hb s1 (us0 ++ [.ref fl]) I2.kIn (by rw[Sd9];exact hl)
 rw[Sd9] at hb'
 refine wpAny_call (codeAny_mono ((F _).run X.A X.stack s1 H2 ⟨us0 ++ [.ref fl],[]⟩ (us0 ++ [.ref fl]) (vs ++ [.ref fl]) Q E0 hr aJU hb' r2 hsp) λr s' hq=>?_)
 cases r with
 |error e=>exact False.elim hq
 |ok fl=>
  cases fl with
  |ret u=>exact I2.after hq
  |next=>exact False.elim hq
  |brk=>exact False.elim hq
  |cont=>exact False.elim hq
def aEU(C:Addr->Sp->Prop)(i:Nat)(t:TA):TE:=λσ H Q=>∃f sp,σ[i]?=some (some (.ref f))/\C f sp/\t σ H λvs H1=>sp vs H1 Q E0
theorem aCB{i k:Nat}{x:Str}{p:Pos}{e:Expr}{es:List Expr}{t:TA}(hN:X.N[i]?=some x)(hv:Vis X.env.scope x)(hr:eO k X.A)(ha:PA X (e::es) t)(hd:(x == ("__debug__" : Str))=false:=by decide)(hcd:(x == ("__classdict__" : Str))=false:=by decide)
  (he:starEach (e::es) X.env=(false,eval e X.env)::starEach es X.env:=by rfl) (hpl:(backTo pos (starEach es X.env)).any (·.1)=false:=by rfl) :
  PE X (.Call (.Name x p) (e::es) [] pos) (aEU (Clo X.prog X.w X.K X.mg X.base k) i t):=by
 intro pins s σ H Q I h
 obtain⟨f,sp,ei,hC,ht⟩:=h
 obtain⟨o,fd,ps,ef,ed,F,hb⟩:=hC.ex
 refine wpAny_Call_Name_kw (dI (aJy hN hv hd hcd pins s σ H (λv H'=>v=.ref f/\H'=H) I ⟨_,ei,rfl,rfl⟩) λu s0 ⟨v,H0,I0,rv,hvf,hH0⟩=>?_)
 subst hvf hH0
 obtain rfl:u=Value.ref f:=rv
 have hin:∀{pins' σ' H' s'},Inv X pins' σ' H' s'->W.Frag.In [(f,o)] s'.heap:=λ{pins' σ' H' s'} J a u z=>by
  rw[Rf9] at z
  split at z
  ·rename_i hb
   cases z
   rw[eq_of_beq hb]
   exact J.bk _ _ ef
  ·cases z
 have hkp:W.keepIn [(f,o)] (.ref f)=true:=by
  obtain⟨oc,od,odt,osl⟩:=o
  have:odt=.func fd:=ed
  subst this
  have z:List.lookup f [(f,({ cls:=oc,dict:=od,data:=.func fd,slots:=osl }:Obj))]=some { cls:=oc,dict:=od,data:=.func fd,slots:=osl }:=by rw[Rf9,beq_self_eq_true]
  unfold W.keepIn
  dsimp only
  rw[z]
 refine PySem.W.callWith_K (h₀:=s0.heap) (hin I0) hkp (dI (ha pos pins s0 σ H0 _ I0 ht) λus s1 ⟨vs,H1,I1,r,q⟩=>⟨hin I1,?_⟩) he hpl
 have hl:us.length=ps.length:=by rw[<-r.length];exact F.len _ _ _ _ q
 refine wpAny_call (codeAny_mono (F.run X.A X.stack s1 H1 ⟨us,[]⟩ us vs Q E0 hr I1.aJU (hb s1 us hl) r q) λr s' hq=>?_)
 cases r with
 |error e=>exact False.elim hq
 |ok fl=>
  cases fl with
  |ret u=>exact I1.after hq
  |next=>exact False.elim hq
  |brk=>exact False.elim hq
  |cont=>exact False.elim hq
end
end L2
namespace L2
open PySem PySem.Spec PyProof.Rows
structure aKW(K:W.Frag)(fd:FuncData)(c Pt:Addr):Prop where
 code:fd.code=.ref c
 hd:PySem.W.codeHdIn K c Pt=true
theorem jC.okC{P:Program}{w:World}{K:W.Frag}{mg:Str->Option Value}{base:Heap}{x qual:Str}{st:Stmt}{f c Pt:Addr}{fd:FuncData}{N ps:List Str}{k:Nat}{sp:Sp}(F:jC K x qual st f fd)(hc:aKW K fd c Pt)(S:aY N ps (aF st))(len:∀vs H Q E,sp vs H Q E->vs.length=ps.length)
  (hbody:∀(A:Around) (outer:List Env) (s:Shared) (H:Hp) (vs:List V) (Q:VK) (E:XK),eO k (A.deeper (envOfC qual (aF st) s.heap.objs.size f (.ref c)))->sp vs H Q E->
   ∃t,PSs (aG3 hU P w K mg base N qual (aF st) f (.ref c) A outer s H E).nox (aX st) t/\t { nx:=λ_ H'=>Q .non H',rt:=Q } (start N vs) H):bP P w K mg base hU (k+1) f fd ps sp:=by
 obtain⟨oc,od,kV,doc,pm,an,cdv,ct,osl,rfl,lk,hcd⟩:=F.ex
 obtain rfl:cdv=.ref c:=hc.code
 refine aM8 lk hcd S len λA outer s H vs Q E hr hsp=>?_
 obtain⟨t,h,q⟩:=hbody A outer s H vs Q E hr hsp
 exact⟨t,h.nox,q⟩
theorem aEi{β:Type}{b:Addr}{p:β}:∀{l:List (Addr×β)},l.lookup b=some p->(b,p)∈l
 |[],h=>by cases h
 |(d,x)::r,h=>by
  rw[Rf9] at h
  cases hb:b == d with
  |true=>rw[hb] at h;cases h;rw[eq_of_beq hb];exact .head _
  |false=>rw[hb] at h;exact .tail _ (aEi h)
theorem aJh{K:PySem.W.Frag}{mg mb:Str->Option Value}{k:Nat}{sp:Sp}{s₁:Shared}{vs:List Value}{ns:List Int}{tabs:List (Addr×Pos×Str)}(KX:K.In s₁.heap)(hns:s₁.heap.Ns mainGlobals mg)(hb:s₁.heap.Ns builtinsNs mb)(hbb:∀x:Str,x≠"__name__"->mb x=bootBuiltins x)(hlim:s₁.heap.NoLimit)(hbm:∃bm o,mg "__builtins__" = some (.ref bm)/\bm≠builtinsNs/\s₁.heap.get? bm=some o/\o.cls=.type "module"/\o.dict=some builtinsNs/\o.data=.plain)(hg:s₁.gens = #[])(ha:s₁.heap.get? a=some { cls:=.type "list",data:=.seq vs.toArray })(hi:IntsAre vs ns)(hl:ns.length<=sizeLine)(hr:eO k callerA)(hT:∀t∈tabs,s₁.heap.get? t.1=some { cls:=.none,data:=.fields #[] }/\K.lookup t.1=none/\∃c,PySem.W.codeHdIn K c t.1=true)(hnd:(tabs.map (·.1)).Nodup)(F:∀base:Heap,K.In base->base.Ns mainGlobals mg->bP P w K mg base hU k fa fd [x] sp)(hbind:∀(s:Shared) (u:Value),BindsTo s fd ⟨[u],[]⟩ [(x,u)])(hsp:∀H:Hp,(∀t∈tabs,H t.1=some (.ctb t.2.1 t.2.2))->bS K H a (ns.map V.int)->sp [.ref a] H (λv H'=>v=.bl true/\aQ H H') λ_ _ _=>False) :
  codeAny (model P w) callerA (.call (.ref fa) ⟨[.ref a],[]⟩) (λr s'=>r=.ok (.ret (.bool true))/\OldK s₁.heap s'.heap/\s'.os=s₁.os/\AllBare s'.gens) s₁:=by
 have rv:=aAS hi
 have lenV:=hi.length
 have core:∀H:Hp,bS K H a (ns.map V.int)->vB P w H s₁.heap->(∀t∈tabs,H t.1=some (.ctb t.2.1 t.2.2))->(∀b u,H b=some u->(b=a/\K.lookup a=none/\∃o xs,u=.frz o (.lst xs))\/∃t∈tabs,b=t.1/\u=.ctb t.2.1 t.2.2)->
   codeAny (model P w) callerA (.call (.ref fa) ⟨[.ref a],[]⟩) (λr s'=>r=.ok (.ret (.bool true))/\OldK s₁.heap s'.heap/\s'.os=s₁.os/\AllBare s'.gens) s₁:=by
  intro H hS hok hTH hA
  have base_of:∀{b:Addr} {o:Obj},s₁.heap.get? b=some o->H b=none->(xZ s₁.heap H).get? b=some o:=λe n=>aFG e n
  have noA:∀{b:Addr} {o:Obj} {es:Array DictEntry} {ep:Nat},s₁.heap.get? b=some o->o.data=.dict es ep->H b=none:=λ{b o es ep} e d=>by
   cases q:H b with
   |none=>rfl
   |some u=>
    rcases hA b u q with ⟨e',_⟩|⟨t,ht,e',_⟩
    ·subst e'
     rw[ha] at e;cases e
     have d':Data.seq vs.toArray _=Data.dict es ep:=d
     cases d'
    ·rw[e',(hT t ht).1] at e;cases e
     have d':Data.fields _=Data.dict es ep:=d
     cases d'
  have nsK:∀{b:Addr} {m:Str->Option Value},s₁.heap.Ns b m->(xZ s₁.heap H).Ns b m:=λ{b m} ⟨o,es,ep,e,d,r⟩=>⟨o,es,ep,base_of e (noA e d),d,r⟩
  have hKb:K.In (xZ s₁.heap H):=λb o e=>base_of (KX b o e) (by
   cases q:H b with
   |none=>rfl
   |some u=>
    rcases hA b u q with ⟨e',hn,_⟩|⟨t,ht,e',_⟩
    ·rw[e',hn] at e;cases e
    ·rw[e',(hT t ht).2.1] at e;cases e)
  have hbm':∃bm o,mg "__builtins__" = some (.ref bm)/\bm≠builtinsNs/\(xZ s₁.heap H).get? bm=some o/\o.cls=.type "module"/\o.dict=some builtinsNs/\o.data=.plain:=by
   obtain⟨bm,ob,b1,b2,b3,b4,b5,b6⟩:=hbm
   refine⟨bm,ob,b1,b2,base_of b3 ?_,b4,b5,b6⟩
   cases q:H bm with
   |none=>rfl
   |some u=>
    rcases hA bm u q with ⟨e',_⟩|⟨t,ht,e',_⟩
    ·rw[e',ha] at b3
     cases b3
     exact absurd (show Value.type "list" = Value.type "module" from b4) (by decide)
    ·rw[e',(hT t ht).1] at b3
     cases b3
     exact absurd (show Value.none=Value.type "module" from b4) (by decide)
  have hM:Mod K mg (xZ s₁.heap H):=⟨hKb,nsK hns,⟨mb,nsK hb,hbb⟩,(let ⟨mc,h1,h2⟩:=hlim;⟨mc,nsK h1,h2⟩),hbm'⟩
  have e0:aDq P w K mg (xZ s₁.heap H) callerA [] s₁ H:=⟨rfl,hM,λb o e=>aHW e,Tx9 (aD3 _ _),trivial,λb hb=>absurd (show b∈([]:List Addr) from hb) (by simp),hok,.of_eq hg⟩
  refine codeAny_mono ((F _ hKb (nsK hns)).run callerA [] s₁ H ⟨[.ref a],[]⟩ [.ref a] [.ref a] _ _ hr e0 (hbind s₁ (.ref a)) (.cons rfl .nil) (hsp H hTH hS)) λr s' h=>?_
  cases r with
  |error e=>exact False.elim h
  |ok fl=>
   cases fl with
   |next=>exact False.elim h
   |brk=>exact False.elim h
   |cont=>exact False.elim h
   |ret u=>
    obtain⟨v,H',os,bare,un,hok',r',q,sm⟩:=h
    have q':v=.bl true:=q
    subst q'
    obtain rfl:u=Value.bool true:=r'
    have key:∀b o,s₁.heap.get? b=some o->s'.heap.get? b=some o\/∃c ps,PySem.W.codeHdIn K c b=true/\o={ cls:=.none,data:=.fields #[] }/\s'.heap.get? b=some { cls:=.none,data:=.fields ps }:=λb o e=>by
     cases q:H b with
     |none=>exact .inl (un.keep b o e q (by intro z;exact absurd (show b∈([]:List Addr) from z) (by simp)) (by simp))
     |some u=>
      rcases hA b u q with ⟨_,_,ob,xs,rfl⟩|⟨t,ht,e',rfl⟩
      ·have z2:=un.frzs b ob _ q
       obtain⟨e1,_⟩:=hok b _ q
       obtain⟨e2,_⟩:=hok' b _ z2
       rw[e] at e1;cases e1
       exact .inl e2
      ·obtain⟨ps,z,_⟩:=hok' b _ (sm b _ q)
       obtain⟨h1,_,c,hc⟩:=hT t ht
       rw[<-e'] at h1 hc
       rw[e] at h1
       exact .inr ⟨c,ps,hc,Option.some.inj h1,z⟩
    refine⟨rfl,⟨λb o e=>?_,λb o e=>?_⟩,os,bare⟩
    ·rcases key b o e with z|⟨c,ps,hc,rfl,z⟩
     ·exact .inl z
     ·refine .inr (.inl ⟨?_,rfl,#[],ps,rfl,?_⟩)
      ·obtain⟨oc,vs,_,_,_,_,_,_,_,f1,f2,f3,f4,_⟩:=PySem.W.codeHd_of_K KX hc
       exact⟨c,oc,vs,f1,f2,f3,f4⟩
      ·rw[z];simp
    ·rcases key b o e with z|⟨c,ps,hc,rfl,z⟩
     ·exact⟨_,z⟩
     ·exact⟨_,z⟩
 have lkT:∀t∈tabs,tabs.lookup t.1=some t.2:=by
  clear hT hsp core
  induction tabs with
  |nil=>intro t h;cases h
  |cons q r ih=>
   intro t ht
   rw[Rf9]
   rcases xJ.mp ht with rfl|ht
   ·rw[beq_self_eq_true]
   ·have ne:t.1≠q.1:=λz=>(Rm9.mp hnd).1 (sR.mpr ⟨t,ht,z⟩)
    rw[beq_eq_false_iff_ne.mpr ne]
    exact ih (Rm9.mp hnd).2 t ht
 have memT:∀{b:Addr} {p:Pos×Str},tabs.lookup b=some p->(b,p)∈tabs:=λ{b p} h=>aEi h
 have naT:∀t∈tabs,t.1≠a:=λt ht z=>by
  have:=(hT t ht).1
  rw[z,ha] at this
  cases this
 have okT:∀(H:Hp) (t:Addr×Pos×Str),t∈tabs->bW P w H s₁.heap t.1 (.ctb t.2.1 t.2.2):=λH t ht=>⟨#[],(hT t ht).1,trivial,.inl rfl⟩
 cases hk:K.lookup a with
 |some o=>
  have e:=KX a o hk
  rw[ha] at e
  cases e
  refine core (λb=>(tabs.lookup b).map λp=>.ctb p.1 p.2) (.inr ⟨_,vs.toArray,_,hk,rfl,rfl,rfl,by rw[kU,lenV];exact hl,by simpa using rv⟩) (λb u z=>?_) (λt ht=>?_) λb u z=>?_
  ·obtain⟨p,hp,rfl⟩:=Qr9.mp z
   exact okT _ _ (memT hp)
  ·show(tabs.lookup t.1).map _=_
   rw[lkT t ht];rfl
  ·obtain⟨p,hp,rfl⟩:=Qr9.mp z
   exact .inr ⟨_,memT hp,rfl,rfl⟩
 |none=>
  refine core (λb=>if b=a then some (.frz { cls:=.type "list",data:=.seq vs.toArray } (.lst (ns.map V.int))) else (tabs.lookup b).map λp=>.ctb p.1 p.2) (.inl (.inr ⟨{ cls:=.type "list",data:=.seq vs.toArray },if_pos rfl⟩)) (λb u z=>?_) (λt ht=>?_) λb u z=>?_
  ·by_cases hb:b=a
   ·have z':=(if_pos hb).symm.trans z
    cases z'
    subst hb
    exact⟨ha,by rw[bZ];exact hl,vs,_,rv,ha⟩
   ·have z':=(if_neg hb).symm.trans z
    obtain⟨p,hp,rfl⟩:=Qr9.mp z'
    exact okT _ _ (memT hp)
  ·show(if t.1=a then _ else (tabs.lookup t.1).map _)=_
   rw[if_neg (naT t ht),lkT t ht];rfl
  ·by_cases hb:b=a
   ·have z':=(if_pos hb).symm.trans z
    cases z'
    exact .inl ⟨hb,hk,_,_,rfl⟩
   ·have z':=(if_neg hb).symm.trans z
    obtain⟨p,hp,rfl⟩:=Qr9.mp z'
    exact .inr ⟨_,memT hp,rfl,rfl⟩
theorem aKX{l:PySem.W.OpenLaw}{n k:Nat}{XP:(Str->Option Value)->Heap->Prop}{YP:World->Heap->Prop}{d:DefRec}{K:Params->W.Frag}{sp:World->Sp}{tabs:List (Addr×Pos×Str)}(hn:l.most=some n)(hn2:n<=sizeLine)(hdf:d.params.defaults=[])(hr:eO k callerA)(hnd:(tabs.map (·.1)).Nodup)(hY:∀(w:World) (h:Heap),YP w h->(K w.params).In h/\∀t∈tabs,h.get? t.1=some { cls:=.none,data:=.fields #[] })(hK:∀(w:World),∀t∈tabs,(K w.params).lookup t.1=none)(F:∀(w:World) (mg:Str->Option Value) (fa:Addr) (h:Heap),(K w.params).In h->h.Ns mainGlobals mg->mg d.name=some (.ref fa)->(∀t∈tabs,∃c,PySem.W.codeHdIn (K w.params) c t.1=true)/\
   ∃fd:FuncData,(∀(s:Shared) (u:Value),BindsTo s fd ⟨[u],[]⟩ [(x,u)])/\
    ∀base:Heap,(K w.params).In base->base.Ns mainGlobals mg->bP l.prog w (K w.params) mg base hU k fa fd [x] (sp w)) (hsp:∀(w:World) (H:Hp) (a:Addr) (ns:List Int),ns.length<=n->(∀t∈tabs,H t.1=some (.ctb t.2.1 t.2.2))->bS (K w.params) H a (ns.map V.int)->sp w [.ref a] H (λv H'=>v=.bl true/\aQ H H') λ_ _ _=>False) :
  PySem.W.WalkO q loose XP YP l.row.toRowW d [] (λf vs=>PySem.call f vs):=by
 refine Att.aFV hn hdf λw s₀ s₁ mg mb fa o pm cd doc a vs ns G Y ho hd hcd hmg hobj hints hlen hg=>?_
 obtain⟨KX,hT⟩:=hY w _ Y
 obtain⟨hcd',fd,hb,hF⟩:=F w mg fa _ KX G.T.g hmg
 exact aJh KX G.T.g G.T.b G.T.builtins G.T.nolimit G.T.bmain hg hobj hints (Rn9 hlen hn2) hr (λt ht=>⟨hT t ht,hK w t ht,hcd' t ht⟩) hnd hF hb (λH hO hS=>hsp w H a ns hlen hO hS)
section
variable{X:Cx}{σ:St}{H:Hp}{Q:VK}
theorem aKY{sp:(Addr->Sp->Prop)->Sp}{n:Nat}{idx:List Nat}(h:t σ H λvs H1=>H1 Pt=some (.ctb lpos q)/\
  ∀(f c':Addr) (H2:Hp) (C:Addr->Sp->Prop),aQ H1 H2->H2 c'=some (.cod q)->C f (aIf c' q n tl (idx.map λj=>(σ[j]?).join))->sp C (vs ++ [.ref f]) H2 Q E0):aHy Pt lpos q sp n tl idx t σ H Q:=h
theorem aGi{C:Addr->Sp->Prop}{i:Nat}(e:σ[i]?=some (some (.ref f)))(hC:C f sp)(h:t σ H λvs H1=>sp vs H1 Q E0):aEU C i t σ H Q:=⟨f,sp,e,hC,h⟩
end
end L2
namespace L2.Z
open PySem PySem.Spec PyProof.Rows L2
section
variable{X:Cx}{c Pt:Addr}{q:Str}{params:Arguments}{body:Expr}{scope:Scope}{pos lpos:Pos}{cl:List (Str×Addr)}
structure QAL(X:Cx)(es:List Expr)(params:Arguments)(body:Expr)(scope:Scope)(lpos:Pos)(Pt:Addr)(q:Str)(cl:List (Str×Addr))(t:TA):Prop where
 h:PAL X es params body scope lpos Pt q cl t
theorem tD(hcode:X.env.code=.ref c)(hC:PySem.W.codeHdIn X.K c Pt=true)(hq:X.env.qual ++ "<lambda>" = q)(hdef:defaultsOf params X.env=([],[])){N:List Str}{n:Nat}{idx:List Nat}(S:eU X scope N n idx) :
  QAL X [.Lambda params body scope lpos] params body scope lpos Pt q (nL X.env scope.names []) oW:=⟨aKT hcode hC hq hdef S⟩
theorem lB{e:Expr}{es:List Expr}{te:TE}{t:TA}(ha:QE X e te)(hr:QAL X es params body scope lpos Pt q cl t)(hn:noStar e=true:=by rfl):QAL X (e::es) params body scope lpos Pt q cl (bJ te t):=
 ⟨aKU ha.h hr.h (bO hn)⟩
theorem qB{f:Addr}{fd:FuncData}{ps psL N:List Str}{idx:List Nat}{sp:(Addr->Sp->Prop)->Sp}{k kc:Nat}{x:Str}{p:Pos}{e:Expr}{es:List Expr}{t:TA}{tl:TE}
  (F:∀base':Heap,bP X.prog X.w X.K X.mg base' hU k f fd ps (sp (Clo X.prog X.w X.K X.mg base' (kc+1)))) (hr:eO k X.A) (hg:Gl X x) (hm:X.mg x=some (.ref f)) (hk:W.keepIn X.K (.ref f)=true) (hb:Binds X.K fd ps [])
  (hfn:∀y,X.fn y=true) (S:eU X scope N psL.length idx) (hpre:N.take psL.length=psL) (hpar:psL.all (λx=>scope.names.lookup x == some .local)=true) (hco:scope.isCoroutine=false) (hgen:scope.isGenerator=false)
  (hbind:∀(cl:List (Str×Addr)) (pm cd ct:Value) (us:List Value),us.length=psL.length->bindArgs (aEh q params body scope cl pm cd ct) ⟨us,[]⟩=pure (psL.zip us))
  (ha:QAL X (e::es) params body scope lpos Pt q (nL X.env scope.names []) t)
  (hbody:∀(base':Heap) (f' c':Addr) (cl:List (Str×Addr)) (A:Around) (outer:List Env) (s:Shared) (H:Hp),eO kc (A.deeper (vT q scope s.heap.objs.size f' (.ref c') cl))->(A.deeper (vT q scope s.heap.objs.size f' (.ref c') cl)).units+9 < cLine->QE (cxL X.prog X.w X.K X.mg base' N q scope f' (.ref c') cl A outer s H) body tl)
  (hn:(e::es).all noStar=true:=by rfl) (hdb:(x == ("__debug__" : Str))=false:=by decide) :
  QE X (.Call (.Name x p) (e::es) [] pos) (aHy Pt lpos q sp psL.length tl idx t):=
 ⟨L2.aKV F hr hg hm hk hb hfn S hpre hpar hco hgen hbind ha.h (λbase' f' c' cl A outer s H hr'=>(hbody base' f' c' cl A outer s H hr' (kT hr')).h) hdb (bO (iP hn).1) (jY (iP hn).2)⟩
theorem aCB{i k:Nat}{x:Str}{p:Pos}{e:Expr}{es:List Expr}{t:TA}(hr:eO k X.A)(ha:QA X (e::es) t)(hN:X.N[i]?=some x:=by rfl)(hv:Vis X.env.scope x:=by first|exact Or.inl rfl|exact Or.inr (Or.inl rfl)|exact Or.inr (Or.inr rfl))
  (hn:(e::es).all noStar=true:=by rfl) (hd:(x == ("__debug__" : Str))=false:=by decide) (hcd:(x == ("__classdict__" : Str))=false:=by decide) :
  QE X (.Call (.Name x p) (e::es) [] pos) (aEU (Clo X.prog X.w X.K X.mg X.base k) i t):=⟨L2.aCB hN hv hr ha.h hd hcd (bO (iP hn).1) (jY (iP hn).2)⟩
end
end L2.Z
namespace PySem
set_option maxRecDepth 100000
namespace F
theorem aHz:typeLookup (.type "list_reverseiterator") "__len__" = pure none:=by rw[typeLookup_type,builtinLookup_eq_fast];kernel_rfl
theorem aKZ:typeLookup (.type "list_reverseiterator") "__length_hint__" = pure (some (.builtin "list_reverseiterator.__length_hint__")):=by rw[typeLookup_type,builtinLookup_eq_fast];kernel_rfl
end F
section
variable{prog:Program}{w:World}{A:Around}{E:Value->Shared->Prop}{s:Shared}
theorem aCC{i:Int}{Q:Bool->Shared->Prop}(hit:s.heap.IsRevIter it l i)(h:Q false s):wpAny (model prog w) A (Builtin.List.listLengthHint (.ref it)) Q E s:=by
 unfold Builtin.List.listLengthHint;refine wpAny_bind (wpAny_specialOf hit.typeIs F.aHz ?_)
 show wpAny _ A (specialOf (Value.ref it) (Str.ofString "__length_hint__") >>= _) _ _ _
 refine wpAny_bind (wpAny_specialOf hit.typeIs F.aKZ ?_)
 generalize hid:("list_reverseiterator.__length_hint__" : String)=id0
 wp_delta
 rw[show splitId id0=some ("list_reverseiterator","__length_hint__") from by subst hid;decide +kernel]
 subst hid
 refine wpAny_bind (wpAny_isInstance (T:="list_reverseiterator") (b:=true) hit.typeIs (by rw[isSubtype_type];kernel_rfl) ?_)
 exact wpAny_ite_split (λz=>absurd z (by decide)) λ_=>wpAny_ite_split (λ_=>wpAny_ite_split (λz=>absurd z (by decide +kernel)) λ_=>wpAny_pure h) λz=>absurd (by decide +kernel) z
end
end PySem
namespace PySem
section
variable{prog:Program}{w:World}{A:Around}{E:Value->Shared->Prop}{s:Shared}
theorem aA1{R:Result->Shared->Prop}{items:Array Value}(hh:A.handled=none)(hit:s.heap.IsRevIter it l ((items.size:Int) - 1))(hl:s.heap.IsList l items)(hne:l≠it)(hlen:items.size<=sizeLine)(S:Addr)(res:Value)(c₀:Nat)(hS:s.heap.get? S=some { cls:=.type "list",data:=.seq #[] c₀ })(hSl:S≠l)(hSI:S≠it)(hR:∀h' tk acc' c',(∀b o,b≠S->b≠it->s.heap.get? b=some o->h'.get? b=some o)->h'.get? S=some { cls:=.type "list",dict:=none,data:=.seq acc' c',slots:=#[] }->
   ItemsOf (λi v=>items[items.size - 1 - i]?=some v) acc' items.size->R (.ok (.ret res)) { s with heap:=h',toks:=tk }) :
  wpAny (model prog w) A.in1 (Builtin.List.listExtendWith (.ref S) (.ref it) res) (λfin s'=>match fin with|.done f=>R (.ok f) s'|.again k=>k.quiet=true/\codeAny (model prog w) A k R s') (λe s'=>R (.error e) s') s:=by
 have hSf:S∉[it,l]:=by simp[hSI,hSl]
 have W:=(Walks.listRev (prog:=prog) (w:=w) (A:=A.in1) hh it l hne items).toS
 unfold Builtin.List.listExtendWith;refine wpAny_bind (wpAny_typeOf (T:="list_reverseiterator") hit.typeIs ?_)
 have h1:Builtin.List.listSameRef (.ref S) (.ref it)=false:=by simp[Builtin.List.listSameRef,hSI]
 have h2:(Value.type "list_reverseiterator" == Value.type "list")=false:=by decide
 have h3:(Value.type "list_reverseiterator" == Value.type "tuple")=false:=by decide
 simp only[h1,h2,h3,Se9,Bool.or_false,if_false]
 refine wpAny_bind (wpAny_pyIter_revIter hit (wpAny_bind (wpAny_holding (aCC hit ?_))))
 refine wpAny_ite_split (λz=>by cases z) (λ_=>wpAny_pure ⟨plainId_quiet F.plain_extend_loop _,?_⟩)
 refine codeAny_extend_loopS W hlen S hSf res items.size 0 _ #[] c₀ rfl (Rr9 _) ⟨Rr9 _,?_,hl⟩ hS (ItemsOf.nil _) λs' acc' c' hm hS' hacc=>?_
 ·rw[show(items.size:Int) - 1 - ((0:Nat):Int)=(items.size:Int) - 1 by omega]
  exact hit
 ·rw[Moved.eq_with hm]
  exact hR s'.heap s'.toks acc' c' (λb o hb hi e=>hm.heap b o (by simp[hb,hi]) e) hS' hacc
theorem aDv{Q:Value->Shared->Prop}{items:Array Value}(hh:A.handled=none)(hit:s.heap.IsRevIter it l ((items.size:Int) - 1))(hl:s.heap.IsList l items)(hne:l≠it)(hlen:items.size<=sizeLine)(hQ:∀h' tk acc' c',(∀b o,b≠it->s.heap.get? b=some o->h'.get? b=some o)->
   h'.get? s.heap.objs.size=some { cls:=.type "list",dict:=none,data:=.seq acc' c',slots:=#[] }->ItemsOf (λi v=>items[items.size - 1 - i]?=some v) acc' items.size->Q (.ref s.heap.objs.size) { s with heap:=h',toks:=tk }) :
  wpAny (model prog w) A (call (.type "list") [.ref it]) Q E s:=by
 have lit:it < s.heap.objs.size:=let ⟨_,e,_⟩:=hit;jU e
 have ll:l < s.heap.objs.size:=let ⟨_,e,_⟩:=hl;jU e
 have hS:(s.heap.push { cls:=.type "list",data:=.seq #[] }).get? s.heap.objs.size=some { cls:=.type "list",data:=.seq #[] }:=by exact xI _ rfl
 have hS₂:=Sn9 (Obj.mapSeq λ_=>(#[]:Array Value)) hS rfl
 have old:∀b o,s.heap.get? b=some o->((s.heap.push { cls:=.type "list",data:=.seq #[] }).update s.heap.objs.size (Obj.mapSeq λ_=>(#[]:Array Value))).get? b=some o:=
  λb o e=>(Th9 _ _ (Sg9 (jU e))).trans (kS _ e)
 refine callType_codes (Q₁:=λx t=>x=.ref s.heap.objs.size/\t={ s with heap:=s.heap.push { cls:=.type "list",data:=.seq #[] } }) F.called_list (F.typeCall_list_1 _) F.entry_list_init (code_list_new _ ⟨rfl,rfl⟩) ?_
 rintro x t ⟨rfl,rfl⟩
 refine⟨⟨_,hS,rfl⟩,F.args_list_init_2 _ _,?_⟩
 show wpAny _ _ (Builtin.List.listItems (.ref s.heap.objs.size) >>= λold=>Builtin.List.listUpdate (.ref s.heap.objs.size) (λ_=>#[]) >>= λ_=>letGo old.toList.reverse >>= λ_=>Builtin.List.listExtendWith (.ref s.heap.objs.size) (.ref it) .none) _ _ _
 refine wpAny_bind (wpAny_listItems hS rfl ?_)
 show wpAny _ _ (updateSeq s.heap.objs.size (λ_=>#[]) >>= λ_=>letGo (#[]:Array Value).toList.reverse >>= λ_=>Builtin.List.listExtendWith (.ref s.heap.objs.size) (.ref it) .none) _ _ _
 refine wpAny_bind (wpAny_updateSeq hS rfl (wpAny_bind (wpAny_letGo (aA1 (A:=A.in1) hh (hit.at λo e=>old _ _ e) (hl.at λo e=>old _ _ e) hne hlen s.heap.objs.size .none _ hS₂ (Sg9 ll) (Sg9 lit) λh' tk acc' c' hk hS' hacc=>?_))))
 exact⟨rfl,hQ h' tk acc' c' (λb o hb e=>hk b o (vE (jU e)) hb (old b o e)) hS' hacc⟩
end
end PySem
namespace L2
open PySem PySem.Spec PyProof.Rows
section
variable{X:Cx}
def aCD(t:TA):TE:=λσ H Q=>t σ H λvs H1=>∃l xs,vs=[.ref l]/\H1 l=some (.lst xs)/\∀q,H1 q=none->Q (.ref q) (upd H1 q (.lst xs.reverse))
theorem aK0{xs:List V}{us:List Value}(r:Vals xs us):Vals xs.reverse us.reverse:=by
 induction r with
 |nil=>exact .nil
 |cons h t ih=>
  simp only[List.reverse_cons]
  exact ih.append (.cons h .nil)
theorem aHA{e:Expr}{t:TA}{p1 p2 pos1 pos2:Pos}(hc:X.calm=true)(hg1:Gl X "list")(hm1:X.mg "list" = none)(hg2:Gl X "reversed")(hm2:X.mg "reversed" = none)(he:PA X [e] t)(hn:noStar e=true:=by rfl) :
  PE X (.Call (.Name "list" p1) [.Call (.Name "reversed" p2) [e] [] pos2] [] pos1) (aCD t):=by
 intro pins s σ H Q I h
 refine Call_ (rM I hg1 hm1 lR (PyProof.Rows.callWith_type1 (Calls.spliced_cons ?_) rfl rfl))
 refine Call_ (rM I hg2 hm2 boot_reversed (PyProof.Rows.callWith_type1 (dI (he pos2 pins s σ H _ I h) λus s1 ⟨vs,H1,I1,r1,l,xs,ex,hl,q⟩=>?_) (bO hn) rfl))
 subst ex
 obtain⟨u,rfl,ru⟩:=vals1 r1
 obtain rfl:u=Value.ref l:=ru
 obtain⟨hz,its,n,rv,eo⟩:=I1.hok l _ hl
 have hlist:s1.heap.IsList l its.toArray:=⟨_,eo,rfl,n,rfl⟩
 refine call_reversed_list hlist (Calls.spliced_nil ?_)
 have hll:l < s1.heap.objs.size:=jU eo
 refine aDv (it:=s1.heap.objs.size) (l:=l) (items:=its.toArray) (I.ok.hd hc) ⟨_,xI _ rfl,rfl,rfl⟩ ⟨_,kS _ eo,rfl,n,rfl⟩ (vE hll) (by rw[kU,<-rv.length];exact hz) λh' tk acc' c' hk hS ha=>?_
 have eacc:acc'.toList=its.reverse:=by
  obtain⟨h1,h2⟩:=ha
  refine List.ext_getElem? λi=>?_
  by_cases hi:i < acc'.size
  ·have e1:acc'[i]?=some acc'[i]:=Sz9 hi
   have e2:=h2 i _ e1
   rw[To9,e1,List.getElem?_reverse (by rw[h1,kU] at hi;exact hi)]
   rw[<-e2,kU,List.getElem?_toArray]
  ·rw[Rs9 (by rw[Rg9];omega),Rs9 (by rw[Tc9];rw[h1,kU] at hi;omega)]
 have hv:Vals xs.reverse acc'.toList:=by rw[eacc];exact aK0 rv
 have sz:s1.heap.objs.size<=(s1.heap.push (revObj l ((its.toArray.size:Int) - 1))).objs.size:=by rw[Ry9];omega
 exact⟨.ref _,_,I1.laid (t':=tk) (o:=.lst xs.reverse) (λb u e=>hk b u (vE (jU e)) (kS _ e)) sz ⟨by rw[Tc9];exact hz,acc'.toList,c',hv,hS⟩,rfl,q _ (I1.hok.fresh sz)⟩
end
end L2
namespace L2
open PySem PySem.Spec PyProof.Rows
section
variable{X:Cx}
def aK1(K:W.Frag):List V->Hp->VK->Prop:=λvs H Q=>∃(p:Addr) (ns:List Int),vs=[.ref p]/\bS K H p (ns.map V.int)/\ns≠[]/\∀m,m∈ns->(∀x∈ns,m<=x)->Q (.int m) H
theorem aJi(hc:X.calm=true):eN X (.builtin "min") (aK1 X.K):=by
 intro pins s σ H vs us Q I r h
 obtain⟨p,ns,rfl,hq,hne,q⟩:=h
 obtain⟨u,rfl,rx⟩:=vals1 r
 cases rx
 obtain⟨its,r',pl,hz⟩:=I.list hq
 have hi:=intsAre_of r'
 obtain⟨xs,hx⟩:=hi.allInts.items
 have e1:ns=xs.toList.map (·.1):=by rw[<-nums_intItems,<-hx];exact(show numsOf its.toArray.toList=ns from hi.numsOf).symm
 have hsz:0 < xs.size:=by
  have z:=Sk9.mpr hne
  rw[e1,bZ,Rg9] at z
  exact z
 refine min_intList (I.ok.hd hc) (hx▸pl.isList:s.heap.IsList p (intItems xs)) hsz λv h' tk hv hk=>?_
 obtain⟨t,rfl⟩:=intItems_at hv
 obtain⟨h1,h2⟩:=argBest_lt (numAt xs) (xs.size - 1)
 refine⟨.int _,H,I.kept (t':=tk) hk,⟨t,rfl⟩,q _ ?_ λx hx'=>?_⟩
 ·rw[e1,numAt_eq];exact getD_mem (by rw[bZ,Rg9];omega)
 ·rw[e1] at hx'
  obtain⟨j,hj,rfl⟩:=mem_getD hx'
  rw[bZ,Rg9] at hj
  rw[<-numAt_eq];exact h2 j (by omega)
theorem aMK{K:W.Frag}{H:Hp}{Q:VK}{p:Addr}{ns:List Int}(h1:bS K H p (ns.map V.int))(hne:ns≠[])(h:∀m,m∈ns->(∀x∈ns,m<=x)->Q (.int m) H):aK1 K [.ref p] H Q:=⟨p,ns,rfl,h1,hne,h⟩
def aCE:TE:=λ_ H Q=>(∀p,H p=none->Q (.ref p) (upd H p (.dK [])))\/∀p,H p=none->Q (.ref p) (upd H p (.dT []))
theorem aK2:PE X (.Dict [] [] pos) aCE:=by
 intro pins s σ H Q I h
 rcases h with h|h
 ·exact aJ6 pins s σ H Q I h
 ·exact aJ7 pins s σ H Q I h
theorem aJj{H:Hp}{Q:VK}(h:∀p,H p=none->Q (.ref p) (upd H p (.dK []))):aCE σ H Q:=.inl h
theorem aEj{H:Hp}{Q:VK}(h:∀p,H p=none->Q (.ref p) (upd H p (.dT []))):aCE σ H Q:=.inr h
def Itw(hi:Int)(n:Nat):It:=⟨λi _=>i < n,λi H x H'=>H'=H/\x=.int (hi - i),λi _=>n<=i⟩
theorem aJk{P:Program}{w:World}{K:W.Frag}{tg:Expr}(it:Addr)(hi:Int)(n:Nat):Turn P w K tg (Itw hi n) [it] it (λi h=>IsRangeIter h it (hi+(i:Nat) * -1) ((n:Int) - (i:Nat)) (-1)) where
 mem:=by simp
 obj:=λi h st b hb=>by
  have e:b=it:=by simpa using hb
  rw[e]
  exact⟨_,st,λv z=>by
   have z':Data.fields _=Data.cell v:=z
   cases z'⟩
 keep:=λi h h' st k=>k it (by simp) _ st
 item:=by
  intro X hP hw hK hc i pins s σ H E I hf st hg
  subst hP hw hK
  obtain⟨f0,f1,f2,f3,f4,f5⟩:=hf it (by simp)
  refine(Walks.range (prog:=X.prog) (w:=X.w) (I.ok.hd hc) it hi (-1) n).item i s _ _ hg st λv h' tk hv st' kk=>?_
  obtain⟨t,rfl⟩:=hv
  refine⟨_,rfl,aHZ (s:={ s with heap:=h',toks:=tk }) (n:="range_iterator") st' rfl rfl (by decide) ⟨.int (hi - i),H,I.turned (λb o hb e=>kk b o (by simpa using hb) e) f0 f1 f3 f4 f5,⟨t,?_⟩,⟨rfl,rfl⟩,st',λb hb=>(hf b hb).1⟩⟩
  congr 1
  omega
 done:=by
  intro X hP hw hK hc i pins s σ H E I hf st hg
  subst hP hw hK
  obtain⟨f0,f1,f2,f3,f4,f5⟩:=hf it (by simp)
  exact wpAny_pyNext_range_end (I.ok.hd hc) st (by have:n<=i:=hg;omega) λh' eb=>⟨rfl,I.turned (t':=s.toks) (λb o hb e=>eb b o hb e) f0 f1 f3 f4 f5⟩
 self:=λ_ _ _ _ _ st h=>wpAny_pyIter_rangeiter st h
theorem aEk(a b:Int):Builtin.Range.rangeSize a b (-1)=(((a - b).toNat:Nat):Int):=by
 unfold Builtin.Range.rangeSize
 rw[if_neg (by decide)]
 split
 ·rw[show -(-1:Int)=1 from rfl,Int.ediv_one];omega
 ·omega
theorem small_down{a b:Int}(h1:-(2 ^ 62)<=a)(h2:a < 2 ^ 62)(h3:-(2 ^ 62)<=b)(h4:b < 2 ^ 62):Builtin.Range.small a b (-1)=true:=by
 unfold Builtin.Range.small
 simp only[aEk,Builtin.Range.rangeFitsLong,Rl9,Bool.or_eq_true,decide_eq_true_eq,beq_iff_eq]
 rw[if_neg (by decide)]
 simp only[Rl9,decide_eq_true_eq]
 omega
def aK3(ta:TA):TI:=λσ H R=>ta σ H λvs H1=>∃i j:Int,vs=[.int i,.int j,.int (-1)]/\(-(2 ^ 62)<=i/\i < 2 ^ 62/\-(2 ^ 62)<=j/\j < 2 ^ 62)/\R (Itw i (i - j).toNat) H1
theorem aJl{a b c:Expr}{ta:TA}{p pos:Pos}{tg:Expr}(hg:Gl X "range")(hm:X.mg "range" = none)(ha:PA X [a,b,c] ta)(hn:[a,b,c].all noStar=true:=by rfl):PI X tg (.Call (.Name "range" p) [a,b,c] [] pos) (aK3 ta):=by
 intro pins s σ H R I h
 refine Call_ (rM I hg hm boot_range (PyProof.Rows.callWith_type1 (dI (ha pos pins s σ H _ I h) λus s1 ⟨vs,H1,I1,r1,i,j,e,⟨q1,q2,q3,q4⟩,q⟩=>?_) (bO (iP hn).1) (jY (iP hn).2)))
 subst e
 obtain⟨u1,us1,rfl,⟨t1,rfl⟩,r2⟩ : ∃u us',us=u::us'/\RelV (.int i) u/\Vals [.int j,.int (-1)] us':=by cases r1 with|cons h t=>exact⟨_,_,rfl,h,t⟩
 obtain⟨u2,u3,rfl,⟨t2,rfl⟩,⟨t3,rfl⟩⟩:=vals2 r2
 refine call_range_3 (by decide) ?_ (.inl (PyProof.noPylong_small (by decide)))
 refine wpAny_pyIter_range (IsRange.new ..) (small_down q1 q2 q3 q4) ?_
 have I2:Inv X pins σ H1 { s1 with heap:=s1.heap.push { cls:=.type "range",data:=.fields #[.int i t1,.int j t2,.int (-1) t3] } }:=I1.kept (t':=s1.toks) λb o e=>kS _ e
 refine⟨_,[_],_,_,H1,rfl,I2.kept (t':=s1.toks) λb o e=>kS _ e,aJk _ i (i - j).toNat,?_,λb hb=>?_,q⟩
 ·show IsRangeIter _ _ (i+((0:Nat):Int) * -1) ((((i - j).toNat:Nat):Int) - ((0:Nat):Int)) (-1)
  rw[show i+((0:Nat):Int) * -1=i by omega,show(((i - j).toNat:Nat):Int) - ((0:Nat):Int)=Builtin.Range.rangeSize i j (-1) by rw[aEk];omega]
  exact xI _ rfl
 ·have e:b=(s1.heap.push { cls:=.type "range",data:=.fields #[.int i t1,.int j t2,.int (-1) t3] }).objs.size:=by simpa using hb
  subst e
  exact I2.aFJ (fJ _) (I2.hok.fresh (fJ _))
theorem aK4{R:It->Hp->Prop}(h:ta σ H λvs H1=>∃i j:Int,vs=[.int i,.int j,.int (-1)]/\(-(2 ^ 62)<=i/\i < 2 ^ 62/\-(2 ^ 62)<=j/\j < 2 ^ 62)/\R (Itw i (i - j).toNat) H1):aK3 ta σ H R:=h
theorem aML{hi:Int}{n:Nat}{σ:St}{H:Hp}{nx:St->Hp->Prop}{rt:VK}{g:TG}{tb:TS}(Pv:Nat->St->Hp->Prop)(h0:Pv 0 σ H)
  (hs:∀i σ H,i < n->Pv i σ H->g (.int (hi - i)) σ H λσ2 H2=>tb ⟨Pv (i+1),rt,nx,Pv (i+1)⟩ σ2 H2) (hd:∀σ H,Pv n σ H->nx σ H) :
  ∃W:Nat->Nat->St->Hp->Prop,(∃m,W 0 m σ H)/\∀i m σ H,W i m σ H->
   ((Itw hi n).stop i H/\nx σ H)\/((Itw hi n).go i H/\∃N:St->Hp->Prop,(∀σ' H',N σ' H'->∃m',m' < m/\W (i+1) m' σ' H')/\∀x H',(Itw hi n).yld i H x H'->g x σ H' λσ2 H2=>tb ⟨N,rt,nx,N⟩ σ2 H2):=by
 refine⟨λi m σ H=>m=n - i/\i<=n/\Pv i σ H,⟨n,by omega,Rr9 _,h0⟩,?_⟩
 rintro i m σ H ⟨rfl,hi',p⟩
 by_cases h:i < n
 ·refine .inr ⟨h,Pv (i+1),λσ' H' p'=>⟨n - (i+1),by omega,rfl,h,p'⟩,?_⟩
  rintro x H' ⟨rfl,rfl⟩
  exact hs i σ H' h p
 ·have e:i=n:=by omega
  subst e
  exact .inl ⟨fJ _,hd σ H p⟩
end
end L2
namespace L2.Z
open PySem PySem.Spec PyProof.Rows L2
section
variable{X:Cx}{tg:Expr}
theorem aDw{e:Expr}{t:TA}{p1 p2 pos1 pos2:Pos}(hc:X.calm=true)(hg1:Gl X "list")(hm1:X.mg "list" = none)(hg2:Gl X "reversed")(hm2:X.mg "reversed" = none)(he:QA X [e] t)(hn:noStar e=true:=by rfl) :
  QE X (.Call (.Name "list" p1) [.Call (.Name "reversed" p2) [e] [] pos2] [] pos1) (aCD t):=⟨L2.aHA hc hg1 hm1 hg2 hm2 he.h hn⟩
theorem vV{pos:Pos}:QE X (.Dict [] [] pos) aCE:=⟨L2.aK2⟩
theorem aEV{a b c:Expr}{ta:TA}{p pos:Pos}(hg:Gl X "range")(hm:X.mg "range" = none)(ha:QA X [a,b,c] ta)(hn:[a,b,c].all noStar=true:=by rfl):QI X tg (.Call (.Name "range" p) [a,b,c] [] pos) (aK3 ta):=⟨L2.aJl hg hm ha.h hn⟩
theorem aBm{P:Program}{w:World}{K:W.Frag}{mg:Str->Option Value}{base:Heap}{i k:Nat}{x:Str}{p pos:Pos}{e:Expr}{es:List Expr}{t:TA}(hr:eO k X.A)(ha:QA X (e::es) t)(hP:X.prog=P:=by rfl)(hw:X.w=w:=by rfl)(hK:X.K=K:=by rfl)(hg:X.mg=mg:=by rfl)(hB:X.base=base:=by rfl)
  (hN:X.N[i]?=some x:=by rfl) (hv:Vis X.env.scope x:=by first|exact Or.inl rfl|exact Or.inr (Or.inl rfl)|exact Or.inr (Or.inr rfl))
  (hn:(e::es).all noStar=true:=by rfl) (hd:(x == ("__debug__" : Str))=false:=by decide) (hcd:(x == ("__classdict__" : Str))=false:=by decide) :
  QE X (.Call (.Name x p) (e::es) [] pos) (aEU (Clo P w K mg base k) i t):=by
 subst hP hw hK hg hB
 exact aCB hr ha hN hv hn hd hcd
end
end L2.Z
namespace L2
open PySem
section
variable{σ:St}{H:Hp}{Q:VK}
theorem aHB(h:t σ H λvs H1=>∃l xs,vs=[.ref l]/\H1 l=some (.lst xs)/\∀q,H1 q=none->Q (.ref q) (upd H1 q (.lst xs.reverse))):aCD t σ H Q:=h
end
end L2
namespace L2
open PySem PySem.Spec PySem.W PyProof.Rows
theorem aJm{A:Around}(hh:A.handled=none)(I d:Addr)(hne:d≠I)(es:Array DictEntry)(ep:Nat) :
  Walks prog w A I [I,d] [I] es.size (λi v=>∃e,es[i]?=some e/\v=e.key) (λi h=>It4 "dict_keyiterator" h I d i es.size ep/\Raw h d es ep) where
 sub:=λb hb=>xJ.mpr (.inl (by simpa using hb))
 frame:=λ_ _ _ st hk=>⟨st.1.keep λo e=>hk I (by simp) o e,st.2.keep λo e=>hk d (by simp) o e⟩
 item:=λi s Q E hi st hQ=>by
  have hx:es[i]?=some es[i]:=Sz9 hi
  refine aGd st.1 st.2 hx λh' a b=>hQ es[i].key h' s.toks ⟨_,hx,rfl⟩ ⟨a,st.2.keep λo e=>b.extBut d o hne e⟩ λb' o hb e=>b.extBut b' o (λz=>hb (Qv9.mpr z)) e
 done:=λs Q E st hQ=>aHr hh st.1 st.2 (fJ _) λh' z=>hQ h' s.toks λb o hb e=>z b o (λy=>hb (Qv9.mpr y)) e
 self:=λ_ _ _ _ st hQ=>wpAny_pyIter_keyiter st.1 hQ
theorem aJn{es:Array DictEntry}{ep:Nat}(lo:(d == sysModules)=false):KdlSrc prog w "dict" d d es.size (λi v=>∃e,es[i]?=some e/\v=e.key) (λh=>Raw h d es ep) where
 type:=λ_ hm=>hm.ty
 there:=λ_ hm=>let ⟨_,e,_⟩:=hm;⟨jU e,jU e⟩
 keep:=λ_ _ hm hk=>hm.keep λo e=>hk d (.inl rfl) o e
 notList:=by decide
 notTuple:=by decide
 hint:=λ_ _ _ _ hm hq=>kdl_hint_dict hm.ty hq
 iter:=λ_ _ hh hm=>⟨_,_,(λ_ _ hq=>aEQ lo hm hq),aJm hh _ d (vE (let ⟨_,e,_⟩:=hm;jU e)) es ep,⟨⟨_,xI _ rfl,rfl,rfl⟩,hm.keep λo e=>kS _ e⟩⟩
section
variable{X:Cx}
def aHC:List V->Hp->VK->Prop:=λxs H Q=>∃(d:Addr) (kvs:List (List Key×V)) (ts:List (List Int)),xs=[.ref d]/\H d=some (.dT kvs)/\kvs.map (·.1)=ts.map (λt=>t.map Sum.inl)/\(∀t∈ts,t≠[])/\ts.length < 64/\
 ∀(p:Addr) (qs:List Addr) (us:List (List Int)),H p=none->o9 H qs us->us.Perm ts->us.Pairwise (λa b=>vS b a=false)->Q (.ref p) (upd H p (.lst (qs.map V.ref)))
theorem aEW(hc:X.calm=true):eN X (.builtin "sorted") aHC:=by
 intro pins s σ H xs us Q I r h
 obtain⟨d,kvs,ts,rfl,hd,ek,hne,h64',q⟩:=h
 obtain⟨u,rfl,ru⟩:=vals1 r
 cases ru
 obtain⟨lo,ob,es,ep,ys,g1,g2,g3,rel,g4,g5⟩:=aHs (show bW X.prog X.w H s.heap d (.dT kvs) from I.hok d _ hd)
 have raw:Raw s.heap d es ep:=⟨ob,g1,g2.1,g3⟩
 have hkl:kvs.length=ts.length:=by have:=congrArg List.length ek;simpa using this
 have hyl:ys.length=kvs.length:=(Paired.length rel).symm
 have ht:o9 H (ys.map (·.2.1)) ts:=by
  refine⟨by rw[bZ,hyl,hkl],λj a t x y=>?_⟩
  have hj:j < kvs.length:=by rw[hkl];exact(uS.mp y).1
  obtain⟨p,hp,hb,_⟩:=aES rel (fH hj)
  rw[nK,hp] at x
  cases x
  refine⟨?_,hne t (vD y)⟩
  have e3:(kvs.map (·.1))[j]?=some kvs[j].1:=by rw[nK,fH hj];rfl
  rw[ek,nK,y] at e3
  have e4:t.map Sum.inl=kvs[j].1:=Option.some.inj e3
  rw[hb,<-e4,Rk9]
  rfl
 have hv:((ys.map (·.2.1)).map Value.ref).length=ts.length:=by rw[bZ];exact ht.len
 refine Calls.call_function_entry kind_sorted plain_sorted entry_sorted (args_sorted1 (.ref d)) ?_
 unfold Builtin.«sorted»
 refine wpAny_bind (m:=checkCount "sorted" 1 1 _) (wpAny_pure (wpAny_bind (PySem.W.kdu_collect (A:=X.A.in1) (aJn (es:=es) (ep:=ep) lo) (I.ok.hd hc) raw (by rw[sizeLine_eq];omega) λh1 tk acc k0 hacc=>?_)))
 have ea:acc.toList=(ys.map (·.2.1)).map Value.ref:=by
  refine List.ext_getElem? λj=>?_
  by_cases hj:j < kvs.length
  ·have hja:j < acc.size:=by rw[hacc.1,g5];exact hj
   have e1:acc[j]?=some acc[j]:=Sz9 hja
   obtain⟨e,he,ev⟩:=hacc.2 j _ e1
   obtain⟨p,hp,hb,_⟩:=aES rel (fH hj)
   rw[entry_at g4,hp] at he
   cases he
   rw[To9,e1,ev,nK,nK,hp]
   rfl
  ·rw[Rs9 (by rw[Rg9,hacc.1,g5];omega),Rs9 (by rw[bZ,bZ,hyl];omega)]
 rw[ea]
 generalize hqs:ys.map (·.2.1)=qs at ht hv ea
 have hq:=ht.len
 have h64:qs.length < 64:=by omega
 refine wpAny_bind (wpAny_newList ?_ (by rw[hv,sizeLine_eq];omega))
 have k1:∀b o,s.heap.get? b=some o->(h1.push (seqObj "list" (qs.map Value.ref).toArray 0)).get? b=some o:=λb o g=>kS _ (k0 b o g)
 have gD:(h1.push (seqObj "list" (qs.map Value.ref).toArray 0)).get? h1.objs.size=some (seqObj "list" (qs.map Value.ref).toArray 0):=xI _ rfl
 refine wpAny_bind (wpAny_holding (wpAny_call_entry (s:={ s with heap:=h1.push (seqObj "list" (qs.map Value.ref).toArray 0),toks:=tk }) slot_list_sort ⟨_,gD,rfl⟩ entry_list_sort (aJd gD ((ht.vF I).keeps λb o _ g=>k1 b o g) (by rw[hv,<-hq];exact h64) λp hr hu=>⟨_,rfl,?_⟩) (args_list_sort (.ref h1.objs.size))))
 rw[hv,<-hq] at hr hu
 have pl:p.toList.Perm (List.range qs.length):=by simpa using Array.perm_iff_toList_perm.mp hr
 have plen:p.toList.length=qs.length:=by have:=pl.length_eq;simpa using this
 have eo:(aAa (qs.map Value.ref) p).toList=(p.toList.map λi=>qs.getD i 0).map Value.ref:=by
  unfold aAa
  show p.toList.map (λi=>(qs.map Value.ref).getD i Value.none)=_
  rw[Rk9]
  refine Sj9 λi hi=>?_
  have li:i < qs.length:=Rx9.mp (pl.mem_iff.mp hi)
  show(qs.map Value.ref).getD i Value.none=Value.ref (qs.getD i 0)
  simp[Qh9,fH li]
 refine wpAny_pure ⟨_,rfl,?_⟩
 obtain⟨c,hc2⟩:=sortedHeap_at (out:=aAa (qs.map Value.ref) p) gD
 have T':o9 H (p.toList.map λi=>qs.getD i 0) (p.toList.map λi=>ts.getD i []):=by
  refine⟨by rw[bZ,bZ],λj a b x y=>?_⟩
  rw[nK] at x y
  obtain⟨i,e1,e2⟩:=Qr9.mp x
  rw[e1] at y
  have li:i < qs.length:=Rx9.mp (pl.mem_iff.mp (vD e1))
  refine ht.at_ i a b ?_ ?_
  ·rw[<-e2];simp[Qh9,fH li]
  ·cases y
   simp[Qh9,fH (show i < ts.length by omega)]
 obtain⟨hn,I2⟩:=I.aPJ (t':=tk) (h':=sortedHeap (h1.push (seqObj "list" (qs.map Value.ref).toArray 0)) h1.objs.size (qs.map Value.ref) (aAa (qs.map Value.ref) p)) (a:=h1.objs.size) (o:=.lst ((p.toList.map λi=>qs.getD i 0).map V.ref)) (λb ob g=>by
   have lb:b < h1.objs.size:=jU (k0 b ob g)
   rw[sortedHeap_old (vE lb) (by rw[size_push'];exact Tj9 lb)]
   exact k1 b ob g) (λb ob g=>vE (jU (k0 b ob g)))
  ⟨by rw[bZ,bZ,plen,sizeLine_eq];omega,(p.toList.map λi=>qs.getD i 0).map Value.ref,c,aCA _,by rw[<-eo,Array.toArray_toList];exact hc2⟩
 refine⟨.ref h1.objs.size,_,I2,rfl,q _ _ _ hn T' ?_ ?_⟩
 ·have:=pl.map (λi=>ts.getD i [])
  rw[hq,range_getD] at this
  exact this
 ·rw[List.pairwise_iff_getElem]
  intro i j hi hj hij
  rw[bZ,plen] at hi hj
  have key:∀k (hk:k < p.toList.length),(p.toList.map λi=>ts.getD i [])[k]'(by rw[bZ];exact hk)=kq (O:=aJc) (λi=>ts.getD i []) p k:=λk hk=>by
   rw[List.getElem_map]
   unfold kq
   have:p.getD k 0=p.toList[k]:=by
    have hk':k < p.size:=by simpa using hk
    simp[Array.getD,hk']
   rw[this]
  rw[key i (by omega),key j (by omega)]
  exact hu i j (by omega) hj
end
section
variable{H:Hp}{Q:VK}
theorem aK5{kvs:List (List Key×V)}{ts:List (List Int)}(h:H d=some (.dT kvs))(e:kvs.map (·.1)=ts.map (λt=>t.map Sum.inl))(hne:∀t∈ts,t≠[])(hl:ts.length < 64)(q:∀(p:Addr) (qs:List Addr) (us:List (List Int)),H p=none->o9 H qs us->us.Perm ts->us.Pairwise (λa b=>vS b a=false)->Q (.ref p) (upd H p (.lst (qs.map V.ref)))):aHC [.ref d] H Q:=⟨d,kvs,ts,rfl,h,e,hne,hl,q⟩
end
end L2
local macro_rules | `(tactic| walk_at "ne") => `(tactic| first
  | assumption
  | (refine Ne.symm ?_; assumption)
  | exact L2.bG (by assumption) (by walk_at "hp")
  | exact Ne.symm (L2.bG (by assumption) (by walk_at "hp")))
local macro_rules | `(tactic| walk_at "hp") => `(tactic| first
  | assumption
  | exact L2.aL
  | (refine Eq.trans (L2.aU (by walk_at "ne")) ?_; walk_at "hp")
  | (refine L2.aQ.at (by assumption) ?_; walk_at "hp")
  | (refine L2.bM.at (by assumption) ?_ (by walk_at "ne"); walk_at "hp"))
local macro_rules | `(tactic| walk_at "sq") => `(tactic| first
  | assumption
  | exact L2.bS.of (by walk_at "hp")
  | exact L2.mX.of (by walk_at "hp")
  | exact L2.aQ.seq (by assumption) (by walk_at "sq"))
local macro_rules | `(tactic| walk_at "cnd") => `(tactic| first
  | omega
  | decide
  | (simp only [List.length_map]; omega)
  | (refine ⟨?_, ?_⟩ <;> first | omega | decide)
  | (refine Or.inl ⟨?_, ?_⟩ <;> first | omega | decide)
  | (refine Or.inr ⟨?_, ?_⟩ <;> first | omega | decide)
  | (refine ⟨?_, ?_, ?_⟩ <;> first | omega | decide))
local macro_rules | `(tactic| walk_at "sz") => `(tactic| (refine L2.cZ ?_; first | decide | (simp only [List.length_cons, List.length_nil, List.length_append]; omega) | omega))
local macro_rules | `(tactic| walk_at "rd") => `(tactic| (with_reducible first
  | refine L2.aMa ?_
  | refine L2.aOn ?_
  | refine L2.aOk ?_
  | refine L2.aMb ?_
  | refine L2.aOl ?_
  | refine L2.rd_retN ?_
  | refine L2.rd_break ?_
  | refine L2.rd_cont ?_
  | refine L2.aOm ?_
  | refine L2.aMc ?_
  | refine L2.aOo ?_
  | refine L2.aMd ?_
  | refine L2.aKk ?_
  | refine L2.aMe ?_
  | refine L2.aJf ?_
  | refine L2.aKR ?_
  | refine L2.aKP ?_
  | refine L2.aKQ ?_
  | refine L2.aOp ?_
  | refine L2.aPV ?_
  | refine L2.aPq ?_
  | refine L2.aPr ?_
  | refine L2.aOr ?_
  | refine L2.aPt ?_
  | refine L2.aMf ?_
  | refine L2.aPu ?_
  | refine L2.aI2 ?_
  | refine L2.aMh ?_
  | refine L2.rd_partN ?_
  | refine L2.rd_pnN ?_
  | refine L2.rd_pnI ?_
  | refine L2.aMi ?_
  | refine L2.aOt ?_
  | refine L2.aMj ?_
  | refine L2.aOu ?_
  | refine L2.aKl ?_
  | refine L2.aMk ?_
  | refine L2.aPv ?_
  | refine L2.aOv ?_
  | refine L2.aPw ?_
  | refine L2.aOw ?_
  | refine L2.aOx ?_
  | refine L2.aPx ?_
  | refine L2.aMl ?_
  | refine L2.aPy ?_
  | refine L2.aPz ?_
  | refine L2.rd_bl2 ?_
  | refine L2.aOy ?_
  | refine L2.aMm ?_
  | refine L2.aOz ?_
  | refine L2.aOA ?_
  | refine L2.aMn ?_
  | refine L2.aPA ?_
  | refine L2.aMo ?_
  | refine L2.aI5 ?_
  | refine L2.aKt ?_
  | refine L2.aKm ?_
  | refine L2.aKn ?_
  | refine L2.aOB ?_
  | refine L2.aOh ?_
  | refine L2.aOg ?_
  | refine L2.aPF ?_
  | refine L2.aPG ?_
  | refine L2.aPE ?_
  | refine L2.aKs ?_
  | refine L2.aKD ?_
  | refine L2.aOL ?_
  | refine L2.aMw ?_
  | refine L2.aMx ?_
  | refine L2.aMy ?_
  | refine L2.aMG ?_
  | refine L2.aKY ?_
  | refine L2.aHB ?_
  | refine L2.aK4 ?_))
local macro_rules | `(tactic| walk_at "st") => `(tactic| first
  | walk_at "rd"
  | ((with_reducible refine L2.aPI (b := ?b) ?t ?_); (case t => assumption))
  | ((with_reducible refine L2.aOq (v := ?v) ?e ?_); (case e => rfl))
  | ((with_reducible refine L2.aKj (σ' := ?s) ?e ?_); (case e => first | (simp only [List.set_cons_zero, List.set_cons_succ]; rfl) | rfl))
  | ((with_reducible refine L2.aPs ?c ?_); (case c => walk_at "cnd"))
  | ((with_reducible refine L2.aMg ?c ?_); (case c => walk_at "cnd"))
  | ((with_reducible refine L2.aHc (xs := ?xs) (v := ?v) ?a ?b ?_); (case a => walk_at "sq"); (case b => first | rfl | assumption))
  | ((with_reducible refine L2.aOs (xs := ?xs) (v := ?v) ?a ?b ?_); (case a => walk_at "sq"); (case b => first | rfl | assumption))
  | (with_reducible refine L2.aOC ?_)
  | (with_reducible refine L2.aOD ?_)
  | (with_reducible refine L2.aOE ?_)
  | (with_reducible refine L2.rd_intI ?_)
  | (with_reducible refine L2.aMt ?_)
  | ((with_reducible refine L2.aMr (xs := ?xs) ?a ?_); (case a => walk_at "sq"))
  | ((with_reducible refine L2.aMs (xs := ?xs) ?a ?_); (case a => walk_at "sq"))
  | (with_reducible refine L2.aOG ?_)
  | (with_reducible refine L2.aOH ?_)
  | ((with_reducible refine L2.rd_eqF ?a ?b ?_); (case a => rfl); (case b => rfl))
  | ((with_reducible refine L2.rd_neF ?a ?b ?_); (case a => rfl); (case b => rfl))
  | ((with_reducible refine L2.aPH (b := ?b) ?e ?_); (case e => rfl))
  | ((with_reducible refine L2.aKx (b := ?b) ?e ?_); (case e => rfl))
  | ((with_reducible refine L2.aMp ?c ?_); (case c => walk_at "sz")))
local macro_rules | `(tactic| walk_at "go") => `(tactic| first
  | (with_reducible refine L2.aMF (fun _ _ => ?_))
  | walk_at "st")
local macro_rules | `(tactic| walk_at "w") => `(tactic| repeat walk_at "go")
local macro_rules | `(tactic| walk_at "gs") => `(tactic| first
  | walk_at "go"
  | ((with_reducible refine L2.iteGF ?e ?_); (case e => rfl))
  | ((with_reducible refine L2.iteGT ?e ?_); (case e => rfl)))
namespace My
open PySem L2 L2.Z
def top(i:Nat):Stmt:=PySem.Challenge.pw_stintwise_k77_bounds_bend_down.main.body.getD i (.Pass ⟨0,0,0,0⟩)
abbrev gS:Stmt:=top 56
abbrev jN:Stmt:=top 57
abbrev lC:Stmt:=top 58
abbrev gA:Stmt:=top 59
abbrev lD:Stmt:=top 12
abbrev jO:Stmt:=top 13
abbrev oV:Stmt:=top 43
abbrev lE:Stmt:=top 44
abbrev eF:Stmt:=top 45
abbrev eW:Stmt:=inClass (top 46) 0
abbrev jP:Stmt:=top 60
abbrev eX:Stmt:=top 61
abbrev eY:Stmt:=inClass (top 46) 3
abbrev sI:Stmt:=top 15
abbrev gB:Stmt:=top 16
abbrev hX:Stmt:=top 62
abbrev lF:Stmt:=top 31
abbrev hZ:Stmt:=inClass (top 32) 0
abbrev jQ:Stmt:=top 20
abbrev eZ:Stmt:=top 21
abbrev iA:Stmt:=top 22
abbrev lG:Stmt:=top 23
abbrev jF:Stmt:=top 2
abbrev fA:Stmt:=top 3
abbrev dP:Stmt:=top 4
abbrev fK:Stmt:=top 5
abbrev jR:Stmt:=top 6
abbrev gC:Stmt:=top 17
abbrev dU:Stmt:=top 49
abbrev iB:Stmt:=inClass (top 50) 0
abbrev iC:Stmt:=top 63
abbrev cQ:Stmt:=top 69
abbrev fL:Stmt:=top 70
abbrev dG:Stmt:=top 71
abbrev fB:Stmt:=top 33
abbrev gE:Stmt:=top 34
abbrev lH:Stmt:=top 35
abbrev fM:Stmt:=top 37
abbrev bQ:Stmt:=top 38
abbrev cV:Stmt:=top 39
abbrev dQ:Stmt:=top 18
abbrev fN:Stmt:=top 24
abbrev gU:Stmt:=top 26
abbrev bT:Stmt:=top 27
abbrev dB:Stmt:=top 28
abbrev iD:Stmt:=top 64
abbrev cB:Stmt:=top 52
abbrev dR:Stmt:=top 53
abbrev eK:Stmt:=top 54
abbrev gW:Stmt:=top 74
abbrev jS:Stmt:=top 65
abbrev eM:Stmt:=top 75
abbrev gX:Stmt:=top 76
abbrev jT:Stmt:=top 77
abbrev gF:Stmt:=top 78
abbrev aEm:Stmt:=top 79
theorem iE:aY ["_law_script","_law_place","_law_cells","_law_at","_law_digits"] ["_law_script","_law_place"] (aF gS):=⟨rfl,rfl,rfl,by decide +kernel,rfl,by decide +kernel,by decide +kernel⟩
theorem iF:aY ["_law_hand","_law_many","_law_got","_law_cell","_law_number"] ["_law_hand","_law_many"] (aF jN):=⟨rfl,rfl,rfl,by decide +kernel,rfl,by decide +kernel,by decide +kernel⟩
theorem qC:aY ["_law_hand","_law_bound","_law_total","_law_k"] ["_law_hand","_law_bound"] (aF lC):=⟨rfl,rfl,rfl,by decide +kernel,rfl,by decide +kernel,by decide +kernel⟩
theorem aCF:aY ["_law_hand"] ["_law_hand"] (aF gA):=⟨rfl,rfl,rfl,by decide +kernel,rfl,by decide +kernel,by decide +kernel⟩
theorem aGj:aY ["thing"] ["thing"] (aF lD):=⟨rfl,rfl,rfl,by decide +kernel,rfl,by decide +kernel,by decide +kernel⟩
theorem aEX:aY ["thing"] ["thing"] (aF jO):=⟨rfl,rfl,rfl,by decide +kernel,rfl,by decide +kernel,by decide +kernel⟩
theorem aHD:aY ["thing"] ["thing"] (aF oV):=⟨rfl,rfl,rfl,by decide +kernel,rfl,by decide +kernel,by decide +kernel⟩
theorem aGk:aY ["thing"] ["thing"] (aF lE):=⟨rfl,rfl,rfl,by decide +kernel,rfl,by decide +kernel,by decide +kernel⟩
theorem aDx:aY ["thing"] ["thing"] (aF eF):=⟨rfl,rfl,rfl,by decide +kernel,rfl,by decide +kernel,by decide +kernel⟩
theorem fT:aY ["self","up","down","begin","run","rest","least","pieces","spans","costs","at","fits"] ["self","up","down","begin","run","rest","least","pieces"] (aF eW):=⟨rfl,rfl,rfl,by decide +kernel,rfl,by decide +kernel,by decide +kernel⟩
theorem dJ:aY ["_law_hand","_law_by","_law_longest","_law_up","_law_down","_law_costs","_law_least","_law_rate","_law_pieces","_law_k"] ["_law_hand","_law_by","_law_longest"] (aF jP):=⟨rfl,rfl,rfl,by decide +kernel,rfl,by decide +kernel,by decide +kernel⟩
theorem aBK:aY ["_law_spec_here"] ["_law_spec_here"] (aF eX):=⟨rfl,rfl,rfl,by decide +kernel,rfl,by decide +kernel,by decide +kernel⟩
theorem fU:aY ["self","price","worth","amount","rate"] ["self","price"] (aF eY):=⟨rfl,rfl,rfl,by decide +kernel,rfl,by decide +kernel,by decide +kernel⟩
theorem aJo:aY ["machine","state","on"] ["machine","state","on"] (aF sI):=⟨rfl,rfl,rfl,by decide +kernel,rfl,by decide +kernel,by decide +kernel⟩
theorem aCG:aY ["machine","state","on"] ["machine","state","on"] (aF gB):=⟨rfl,rfl,rfl,by decide +kernel,rfl,by decide +kernel,by decide +kernel⟩
theorem aDy:aY ["_law_hand","_law_spec_here"] ["_law_hand","_law_spec_here"] (aF hX):=⟨rfl,rfl,rfl,by decide +kernel,rfl,by decide +kernel,by decide +kernel⟩
theorem aGl:aY ["thing"] ["thing"] (aF lF):=⟨rfl,rfl,rfl,by decide +kernel,rfl,by decide +kernel,by decide +kernel⟩
theorem lS:aY ["self","cap","into","out","takes","gives","depths","at","fits"] ["self","cap","into","out","takes","gives"] (aF hZ):=⟨rfl,rfl,rfl,by decide +kernel,rfl,by decide +kernel,by decide +kernel⟩
theorem nO:aY ["machine","state","run","hour","on"] ["machine","state","run"] (aF jQ):=⟨rfl,rfl,rfl,by decide +kernel,rfl,by decide +kernel,by decide +kernel⟩
theorem uU:aY ["machine","state","run","fault"] ["machine","state","run"] (aF eZ):=⟨rfl,rfl,rfl,by decide +kernel,rfl,by decide +kernel,by decide +kernel⟩
theorem gG:aY ["machine","state","run","begins","ahead","hour","on"] ["machine","state","run"] (aF iA):=⟨rfl,rfl,rfl,by decide +kernel,rfl,by decide +kernel,by decide +kernel⟩
theorem aBn:aY ["machine","state","run","begins"] ["machine","state","run"] (aF lG):=⟨rfl,rfl,rfl,by decide +kernel,rfl,by decide +kernel,by decide +kernel⟩
theorem aGm:aY ["ways","behind"] ["ways","behind"] (aF jF):=⟨rfl,rfl,rfl,by decide +kernel,rfl,by decide +kernel,by decide +kernel⟩
theorem m3:aY ["places","hour","behind","ways_at","worths","place"] ["places","hour","behind","ways_at"] (aF fA):=⟨rfl,rfl,rfl,by decide +kernel,rfl,by decide +kernel,by decide +kernel⟩
theorem dF:aY ["layers","ways_at","behind","place","worths","hour"] ["layers","ways_at"] (aF dP):=⟨rfl,rfl,rfl,by decide +kernel,rfl,by decide +kernel,by decide +kernel⟩
theorem yJ:aY ["ways","behind","least"] ["ways","behind"] (aF fK):=⟨rfl,rfl,rfl,by decide +kernel,rfl,by decide +kernel,by decide +kernel⟩
theorem jZ:aY ["place","worths","ways_at","row","hour","way"] ["place","worths","ways_at"] (aF jR):=⟨rfl,rfl,rfl,by decide +kernel,rfl,by decide +kernel,by decide +kernel⟩
theorem fD:aY ["machine","ways","later","state","many","on","behind"] ["machine","ways"] (aF gC):=⟨rfl,rfl,rfl,by decide +kernel,rfl,by decide +kernel,by decide +kernel⟩
theorem aBL:aY ["thing"] ["thing"] (aF dU):=⟨rfl,rfl,rfl,by decide +kernel,rfl,by decide +kernel,by decide +kernel⟩
theorem lT:aY ["self","machines","store","lack","is_store","at","fits"] ["self","machines","store","lack"] (aF iB):=⟨rfl,rfl,rfl,by decide +kernel,rfl,by decide +kernel,by decide +kernel⟩
theorem lU:aY ["_law_hand","_law_by","_law_gives","_law_takes"] ["_law_hand","_law_by"] (aF iC):=⟨rfl,rfl,rfl,by decide +kernel,rfl,by decide +kernel,by decide +kernel⟩
theorem bR:aY ["_law_hand","_law_most_here","_law_by","_law_wide","_law_many","_law_specs","_law_store_here","_law_lack"] ["_law_hand","_law_most_here"] (aF cQ):=⟨rfl,rfl,rfl,by decide +kernel,rfl,by decide +kernel,by decide +kernel⟩
theorem lV:aY ["_law_spec_here","_law_machines","_law_store_here"] ["_law_spec_here"] (aF fL):=⟨rfl,rfl,rfl,by decide +kernel,rfl,by decide +kernel,by decide +kernel⟩
theorem sJ:aY ["_law_hand","_law_spec_here","_law_states"] ["_law_hand","_law_spec_here"] (aF dG):=⟨rfl,rfl,rfl,by decide +kernel,rfl,by decide +kernel,by decide +kernel⟩
theorem m5:aY ["store","level","hours","lowest","highest"] ["store","level","hours"] (aF fB):=⟨rfl,rfl,rfl,by decide +kernel,rfl,by decide +kernel,by decide +kernel⟩
theorem aCH:aY ["store","level"] ["store","level"] (aF gE):=⟨rfl,rfl,rfl,by decide +kernel,rfl,by decide +kernel,by decide +kernel⟩
theorem aBo:aY ["store","level","later","each"] ["store","level","later"] (aF lH):=⟨rfl,rfl,rfl,by decide +kernel,rfl,by decide +kernel,by decide +kernel⟩
theorem aDz:aY ["store","level","price"] ["store","level","price"] (aF fM):=⟨rfl,rfl,rfl,by decide +kernel,rfl,by decide +kernel,by decide +kernel⟩
theorem nG:aY ["store","level","prices","layers"] ["store","level","prices"] (aF bQ):=⟨rfl,rfl,rfl,by decide +kernel,rfl,by decide +kernel,by decide +kernel⟩
theorem lI:aY ["store","level","prices","worths","path"] ["store","level","prices"] (aF cV):=⟨rfl,rfl,rfl,by decide +kernel,rfl,by decide +kernel,by decide +kernel⟩
theorem eG:aY ["machine","state","hours","ways","layers","hour"] ["machine","state","hours"] (aF dQ):=⟨rfl,rfl,rfl,by decide +kernel,rfl,by decide +kernel,by decide +kernel⟩
theorem aDA:aY ["machine","state"] ["machine","state"] (aF fN):=⟨rfl,rfl,rfl,by decide +kernel,rfl,by decide +kernel,by decide +kernel⟩
theorem aEY:aY ["machine","state","price"] ["machine","state","price"] (aF gU):=⟨rfl,rfl,rfl,by decide +kernel,rfl,by decide +kernel,by decide +kernel⟩
theorem nH:aY ["machine","state","prices","layers"] ["machine","state","prices"] (aF bT):=⟨rfl,rfl,rfl,by decide +kernel,rfl,by decide +kernel,by decide +kernel⟩
theorem m6:aY ["machine","state","prices","worths","run"] ["machine","state","prices"] (aF dB):=⟨rfl,rfl,rfl,by decide +kernel,rfl,by decide +kernel,by decide +kernel⟩
theorem aDB:aY ["_law_hand","_law_by","_law_most_here"] ["_law_hand","_law_by","_law_most_here"] (aF iD):=⟨rfl,rfl,rfl,by decide +kernel,rfl,by decide +kernel,by decide +kernel⟩
theorem vW:aY ["works","position","prices"] ["works","position","prices"] (aF cB):=⟨rfl,rfl,rfl,by decide +kernel,rfl,by decide +kernel,by decide +kernel⟩
theorem aAb:aY ["works","position","prices"] ["works","position","prices"] (aF dR):=⟨rfl,rfl,rfl,by decide +kernel,rfl,by decide +kernel,by decide +kernel⟩
theorem pA:aY ["works","position","wants","prices","wanted","machines"] ["works","position","wants","prices"] (aF eK):=⟨rfl,rfl,rfl,by decide +kernel,rfl,by decide +kernel,by decide +kernel⟩
theorem aEZ:aY ["_law_spec_here"] ["_law_spec_here"] (aF gW):=⟨rfl,rfl,rfl,by decide +kernel,rfl,by decide +kernel,by decide +kernel⟩
theorem aE0:aY ["_law_hand","_law_by"] ["_law_hand","_law_by"] (aF jS):=⟨rfl,rfl,rfl,by decide +kernel,rfl,by decide +kernel,by decide +kernel⟩
theorem aCI:aY ["_law_hand","_law_by","_law_lack","_law_hours"] ["_law_hand","_law_by","_law_lack","_law_hours"] (aF eM):=⟨rfl,rfl,rfl,by decide +kernel,rfl,by decide +kernel,by decide +kernel⟩
theorem j0:aY ["_law_hand","_law_most_here","_law_spec_here","_law_hours","_law_wants"] ["_law_hand","_law_most_here"] (aF gX):=⟨rfl,rfl,rfl,by decide +kernel,rfl,by decide +kernel,by decide +kernel⟩
theorem eI:aY ["_law_hand","_law_lack","_law_prices_here","_law_alone","_law_at","_law_low","_law_high","_law_hour","_law_far_here","_law_step","_law_way"] ["_law_hand","_law_lack","_law_prices_here"] (aF jT):=⟨rfl,rfl,rfl,by decide +kernel,rfl,by decide +kernel,by decide +kernel⟩
theorem gY:aY ["_law_spec_here","_law_want_here","_law_wide","_law_one"] ["_law_spec_here","_law_want_here"] (aF gF):=⟨rfl,rfl,rfl,by decide +kernel,rfl,by decide +kernel,by decide +kernel⟩
theorem j7:aY ["_law_script","_law_place","_law_hand","_law_spec_here","_law_position_here","_law_wants","_law_prices_here","_law_works_here","_law_low","_law_high","_law_middle","_law_at","_law_other","_law_apart"] ["_law_script"] (aF aEm):=⟨rfl,rfl,rfl,by decide +kernel,rfl,by decide +kernel,by decide +kernel⟩
structure j8 where
 qD:Addr
 qE:FuncData
 qF:Addr
 qG:FuncData
 tE:Addr
 tF:FuncData
 lW:Addr
 lX:FuncData
 tG:Addr
 tH:FuncData
 qH:Addr
 qI:FuncData
 xS:Addr
 xT:FuncData
 tI:Addr
 tJ:FuncData
 nP:Addr
 nQ:FuncData
 j9:Addr
 kA:FuncData
 qJ:Addr
 qK:FuncData
 kB:Addr
 kC:FuncData
 kD:Addr
 kE:FuncData
 aAc:Addr
 aAd:FuncData
 lY:Addr
 lZ:FuncData
 nR:Addr
 nS:FuncData
 tK:Addr
 tL:FuncData
 nU:Addr
 nV:FuncData
 qL:Addr
 qM:FuncData
 kF:Addr
 kG:FuncData
 nW:Addr
 nX:FuncData
 tM:Addr
 tN:FuncData
 tO:Addr
 tQ:FuncData
 kH:Addr
 kI:FuncData
 iG:Addr
 iH:FuncData
 nY:Addr
 nZ:FuncData
 qN:Addr
 qO:FuncData
 mC:Addr
 mD:FuncData
 kJ:Addr
 kK:FuncData
 oA:Addr
 oB:FuncData
 oC:Addr
 oE:FuncData
 gM:Addr
 gN:FuncData
 oF:Addr
 oG:FuncData
 iY:Addr
 iZ:FuncData
 kL:Addr
 kM:FuncData
 mE:Addr
 mF:FuncData
 tR:Addr
 tS:FuncData
 oH:Addr
 oI:FuncData
 fO:Addr
 dW:FuncData
 jA:Addr
 fV:FuncData
 iI:Addr
 iJ:FuncData
 oJ:Addr
 oK:FuncData
 qP:Addr
 qQ:FuncData
 fP:Addr
 dX:FuncData
 kN:Addr
 gZ:FuncData
 oM:Addr
 oN:FuncData
 eR:Addr
 eS:FuncData
 iK:Addr
 iL:FuncData
 mG:Addr
 mH:FuncData
 qR:Addr
 qS:FuncData
 qT:Addr
 qU:FuncData
 mI:Addr
 mJ:FuncData
 qV:Addr
 qW:FuncData
 qX:Addr
 qY:FuncData
 mK:Addr
 mL:FuncData
 aIh:Addr
 aIi:FuncData
 k_worths_of_levels:Addr
 bU:Addr
 k_cheapest_path:Addr
 dH:Addr
 k_worths_of_states:Addr
 bV:Addr
 k_cheapest_run:Addr
 dY:Addr
 bB:Addr
 bX:Addr
 eT:Addr
structure Txt(K:W.Frag)(mg:Str->Option Value)(a:j8):Prop where
 vX:jC K "_law_open" "_law_open" gS a.qD a.qE
 aBp:Binds K a.qE ["_law_script","_law_place"] []
 aBq:mg "_law_open" = some (.ref a.qD)
 aP:jC K "_law_draw" "_law_draw" jN a.qF a.qG
 aR:Binds K a.qG ["_law_hand","_law_many"] []
 aS:mg "_law_draw" = some (.ref a.qF)
 y9:jC K "_law_far" "_law_far" lC a.tE a.tF
 aCJ:Binds K a.tF ["_law_hand","_law_bound"] []
 aCK:mg "_law_far" = some (.ref a.tE)
 mM:jC K "_law_factor" "_law_factor" gA a.lW a.lX
 rP:Binds K a.lX ["_law_hand"] []
 rQ:mg "_law_factor" = some (.ref a.lW)
 pB:jC K "is_whole" "is_whole" lD a.tG a.tH
 tT:Binds K a.tH ["thing"] []
 tU:mg "is_whole" = some (.ref a.tG)
 dC:jC K "is_amount" "is_amount" jO a.qH a.qI
 dM:Binds K a.qI ["thing"] []
 dN:mg "is_amount" = some (.ref a.qH)
 xU:jC K "is_span" "is_span" oV a.xS a.xT
 aA2:Binds K a.xT ["thing"] []
 aA3:mg "is_span" = some (.ref a.xS)
 zA:jC K "is_piece" "is_piece" lE a.tI a.tJ
 aCL:Binds K a.tJ ["thing"] []
 aCM:mg "is_piece" = some (.ref a.tI)
 tV:jC K "are_pieces" "are_pieces" eF a.nP a.nQ
 aAe:Binds K a.nQ ["thing"] []
 aAf:mg "are_pieces" = some (.ref a.nP)
 vY:jC K "__init__" "Machine.__init__" eW a.j9 a.kA
 vZ:Binds K a.kA ["self","up","down","begin","run","rest","least","pieces"] []
 v8:jC K "_law_spec" "_law_spec" jP a.qJ a.qK
 aBr:Binds K a.qK ["_law_hand","_law_by","_law_longest"] []
 aBs:mg "_law_spec" = some (.ref a.qJ)
 pC:jC K "_law_machine" "_law_machine" eX a.kB a.kC
 v9:Binds K a.kC ["_law_spec_here"] []
 wA:mg "_law_machine" = some (.ref a.kB)
 wB:jC K "gain" "Machine.gain" eY a.kD a.kE
 wC:Binds K a.kE ["self","price"] []
 sL:jC K "may_be" "may_be" sI a.aAc a.aAd
 wD:Binds K a.aAd ["machine","state","on"] []
 wG:mg "may_be" = some (.ref a.aAc)
 iS:jC K "state_after" "state_after" gB a.lY a.lZ
 mN:Binds K a.lZ ["machine","state","on"] []
 mO:mg "state_after" = some (.ref a.lY)
 tW:jC K "_law_state" "_law_state" hX a.nR a.nS
 aAg:Binds K a.nS ["_law_hand","_law_spec_here"] []
 aAh:mg "_law_state" = some (.ref a.nR)
 pD:jC K "is_depth" "is_depth" lF a.tK a.tL
 tX:Binds K a.tL ["thing"] []
 tY:mg "is_depth" = some (.ref a.tK)
 aAi:jC K "__init__" "Store.__init__" hZ a.nU a.nV
 aAj:Binds K a.nV ["self","cap","into","out","takes","gives"] []
 wH:jC K "run_fault" "run_fault" jQ a.qL a.qM
 aBt:Binds K a.qM ["machine","state","run"] []
 aBu:mg "run_fault" = some (.ref a.qL)
 pE:jC K "refuse_fault" "refuse_fault" eZ a.kF a.kG
 wI:Binds K a.kG ["machine","state","run"] []
 wJ:mg "refuse_fault" = some (.ref a.kF)
 tZ:jC K "run_begins" "run_begins" iA a.nW a.nX
 aAk:Binds K a.nX ["machine","state","run"] []
 aAl:mg "run_begins" = some (.ref a.nW)
 zB:jC K "run_cost" "run_cost" lG a.tM a.tN
 aCN:Binds K a.tN ["machine","state","run"] []
 aCO:mg "run_cost" = some (.ref a.tM)
 uA:jC K "least_of" "least_of" jF a.tO a.tQ
 zC:Binds K a.tQ ["ways","behind"] []
 zD:mg "least_of" = some (.ref a.tO)
 pF:jC K "worths_ahead" "worths_ahead" fA a.kH a.kI
 wK:Binds K a.kI ["places","hour","behind","ways_at"] []
 wL:mg "worths_ahead" = some (.ref a.kH)
 iM:jC K "worths_by_hour" "worths_by_hour" dP a.iG a.iH
 lJ:Binds K a.iH ["layers","ways_at"] []
 lK:mg "worths_by_hour" = some (.ref a.iG)
 uB:jC K "first_best" "first_best" fK a.nY a.nZ
 aAm:Binds K a.nZ ["ways","behind"] []
 aAn:mg "first_best" = some (.ref a.nY)
 qZ:jC K "first_row" "first_row" jR a.qN a.qO
 wM:Binds K a.qO ["place","worths","ways_at"] []
 wN:mg "first_row" = some (.ref a.qN)
 rR:jC K "ways_one_on" "ways_one_on" gC a.mC a.mD
 yK:Binds K a.mD ["machine","ways"] []
 yL:mg "ways_one_on" = some (.ref a.mC)
 pG:jC K "are_machines" "are_machines" dU a.kJ a.kK
 wO:Binds K a.kK ["thing"] []
 wQ:mg "are_machines" = some (.ref a.kJ)
 aAo:jC K "__init__" "Works.__init__" iB a.oA a.oB
 aAp:Binds K a.oB ["self","machines","store","lack"] []
 uC:jC K "_law_store" "_law_store" iC a.oC a.oE
 aAq:Binds K a.oE ["_law_hand","_law_by"] []
 aAr:mg "_law_store" = some (.ref a.oC)
 kO:jC K "_law_works_spec" "_law_works_spec" cQ a.gM a.gN
 rA:Binds K a.gN ["_law_hand","_law_most_here"] []
 rB:mg "_law_works_spec" = some (.ref a.gM)
 uD:jC K "_law_works" "_law_works" fL a.oF a.oG
 aAs:Binds K a.oG ["_law_spec_here"] []
 aAt:mg "_law_works" = some (.ref a.oF)
 m7:jC K "_law_position" "_law_position" dG a.iY a.iZ
 uV:Binds K a.iZ ["_law_hand","_law_spec_here"] []
 uW:mg "_law_position" = some (.ref a.iY)
 kP:jC K "levels_after" "levels_after" fB a.kL a.kM
 pH:Binds K a.kM ["store","level","hours"] []
 pI:mg "levels_after" = some (.ref a.kL)
 rS:jC K "levels_from" "levels_from" gE a.mE a.mF
 yM:Binds K a.mF ["store","level"] []
 yN:mg "levels_from" = some (.ref a.mE)
 zE:jC K "drawn_by" "drawn_by" lH a.tR a.tS
 aCP:Binds K a.tS ["store","level","later"] []
 aCQ:mg "drawn_by" = some (.ref a.tR)
 oO:jC K "level_ways" "level_ways" fM a.oH a.oI
 uE:Binds K a.oI ["store","level","price"] []
 uF:mg "level_ways" = some (.ref a.oH)
 jG:jC K "worths_of_levels" "worths_of_levels" bQ a.fO a.dW
 pJ:Binds K a.dW ["store","level","prices"] []
 pK:mg "worths_of_levels" = some (.ref a.fO)
 m8:jC K "cheapest_path" "cheapest_path" cV a.jA a.fV
 uX:Binds K a.fV ["store","level","prices"] []
 uY:mg "cheapest_path" = some (.ref a.jA)
 lM:jC K "states_by_hour" "states_by_hour" dQ a.iI a.iJ
 sM:Binds K a.iJ ["machine","state","hours"] []
 sN:mg "states_by_hour" = some (.ref a.iI)
 uG:jC K "next_hours" "next_hours" fN a.oJ a.oK
 aAu:Binds K a.oK ["machine","state"] []
 aAv:mg "next_hours" = some (.ref a.oJ)
 rC:jC K "hour_ways" "hour_ways" gU a.qP a.qQ
 wR:Binds K a.qQ ["machine","state","price"] []
 wU:mg "hour_ways" = some (.ref a.qP)
 jH:jC K "worths_of_states" "worths_of_states" bT a.fP a.dX
 pL:Binds K a.dX ["machine","state","prices"] []
 pM:mg "worths_of_states" = some (.ref a.fP)
 pN:jC K "cheapest_run" "cheapest_run" dB a.kN a.gZ
 wV:Binds K a.gZ ["machine","state","prices"] []
 wW:mg "cheapest_run" = some (.ref a.kN)
 uH:jC K "_law_price" "_law_price" iD a.oM a.oN
 aAw:Binds K a.oN ["_law_hand","_law_by","_law_most_here"] []
 aAx:mg "_law_price" = some (.ref a.oM)
 iQ:jC K "least_of_machines" "least_of_machines" cB a.eR a.eS
 nI:Binds K a.eS ["works","position","prices"] []
 nJ:mg "least_of_machines" = some (.ref a.eR)
 lN:jC K "least_of_store" "least_of_store" dR a.iK a.iL
 sO:Binds K a.iL ["works","position","prices"] []
 sP:mg "least_of_store" = some (.ref a.iK)
 gH:jC K "price_bound" "price_bound" eK a.mG a.mH
 iT:Binds K a.mH ["works","position","wants","prices"] []
 iU:mg "price_bound" = some (.ref a.mG)
 wX:jC K "_law_most" "_law_most" gW a.qR a.qS
 aBv:Binds K a.qS ["_law_spec_here"] []
 aBw:mg "_law_most" = some (.ref a.qR)
 wY:jC K "_law_want" "_law_want" jS a.qT a.qU
 aBx:Binds K a.qU ["_law_hand","_law_by"] []
 aBy:mg "_law_want" = some (.ref a.qT)
 rT:jC K "_law_prices" "_law_prices" eM a.mI a.mJ
 yO:Binds K a.mJ ["_law_hand","_law_by","_law_lack","_law_hours"] []
 yP:mg "_law_prices" = some (.ref a.mI)
 wZ:jC K "_law_case" "_law_case" gX a.qV a.qW
 aBz:Binds K a.qW ["_law_hand","_law_most_here"] []
 aBA:mg "_law_case" = some (.ref a.qV)
 w4:jC K "_law_ends" "_law_ends" jT a.qX a.qY
 aBB:Binds K a.qY ["_law_hand","_law_lack","_law_prices_here"] []
 aBC:mg "_law_ends" = some (.ref a.qX)
 rV:jC K "_law_widest" "_law_widest" gF a.mK a.mL
 yQ:Binds K a.mL ["_law_spec_here","_law_want_here"] []
 yR:mg "_law_widest" = some (.ref a.mK)
 aNh:jC K "law" "law" aEm a.aIh a.aIi
 aPL:Binds K a.aIi ["_law_script"] []
 aPM:mg "law" = some (.ref a.aIh)
 cM:Cls K a.bB
 aA4:mg "Machine" = some (.ref a.bB)
 aEn:Mk K a.bB a.j9
 m_Machine_gain:Meth K a.bB "gain" a.kD
 uI:cX K a.bB "up"
 pO:cX K a.bB "down"
 m9:cX K a.bB "begin"
 rW:cX K a.bB "run"
 pP:cX K a.bB "rest"
 nB:cX K a.bB "least"
 lO:cX K a.bB "pieces"
 i_Machine:Isi K a.bB
 jB:Cls K a.bX
 aE1:mg "Store" = some (.ref a.bX)
 aIj:Mk K a.bX a.nU
 w5:cX K a.bX "cap"
 uJ:cX K a.bX "into"
 w6:cX K a.bX "out"
 rX:cX K a.bX "takes"
 rY:cX K a.bX "gives"
 i_Store:Isi K a.bX
 uK:Cls K a.eT
 aIk:mg "Works" = some (.ref a.eT)
 aIl:Mk K a.eT a.oA
 lP:cX K a.eT "machines"
 mP:cX K a.eT "store"
 aAy:cX K a.eT "lack"
 i_Works:Isi K a.eT
 jI:aKW K a.dW a.k_worths_of_levels a.bU
 nC:aKW K a.fV a.k_cheapest_path a.dH
 jJ:aKW K a.dX a.k_worths_of_states a.bV
 pQ:aKW K a.gZ a.k_cheapest_run a.dY
 aCR:mg "abs" = none
 aBD:mg "all" = none
 aA5:mg "bool" = none
 dO:mg "enumerate" = none
 aBE:mg "int" = none
 cG:mg "isinstance" = none
 iO:mg "len" = none
 jK:mg "list" = none
 w9:mg "max" = none
 uZ:mg "min" = none
 dZ:mg "range" = none
 lQ:mg "reversed" = none
 sQ:mg "sorted" = none
 aBF:mg "sum" = none
 uL:mg "tuple" = none
 aCS:mg "zip" = none
 gI:∃t,mg "MOST_LEVELS" = some (.int 8 t)
 eA:∃t,mg "LONGEST_STINT" = some (.int 12 t)
 gJ:∃t,mg "MOST_PIECES" = some (.int 4 t)
 eB:∃t,mg "MOST_MACHINES" = some (.int 6 t)
abbrev cR:Pos:=⟨138,34,138,92⟩
abbrev cS:Str:=(("worths_of_levels" : Str) ++ ".<locals>.") ++ "<lambda>"
abbrev fE:Pos:=⟨141,36,141,94⟩
abbrev fF:Str:=(("cheapest_path" : Str) ++ ".<locals>.") ++ "<lambda>"
abbrev cT:Pos:=⟨103,34,103,93⟩
abbrev cU:Str:=(("worths_of_states" : Str) ++ ".<locals>.") ++ "<lambda>"
abbrev fW:Pos:=⟨106,35,106,94⟩
abbrev fX:Str:=(("cheapest_run" : Str) ++ ".<locals>.") ++ "<lambda>"
end My
namespace My
open PySem L2 L2.Z
inductive Th (H:Hp):V->String->Prop where
 |non:Th H .non "NoneType"
 |bl (b:Bool):Th H (.bl b) "bool"
 |int (i:Int):Th H (.int i) "int"
 |str (x:Str):Th H (.str x) "str"
 |lst {p:Addr} {xs:List V} (e:H p=some (.lst xs)):Th H (.ref p) "list"
 |tup {p:Addr} {xs:List V} (e:H p=some (.tup xs)):Th H (.ref p) "tuple"
 |dK {p:Addr} {kvs:List (Key×V)} (e:H p=some (.dK kvs)):Th H (.ref p) "dict"
theorem Th.ty(h:Th H v T):zQ K H v (.type T):=by
 cases h with
 |non=>exact .non
 |bl b=>exact .bl b
 |int i=>exact .int i
 |str x=>exact .str x
 |lst e=>exact .lst e
 |tup e=>exact .tup e
 |dK e=>exact .dK e
theorem Th.keep{H H':Hp}{p:Addr}{v:V}{T:String}(h:Th H v T)(n:∀b,v=.ref b->b≠p)(k:bM p H H'):Th H' v T:=by
 cases h with
 |non=>exact .non
 |bl b=>exact .bl b
 |int i=>exact .int i
 |str x=>exact .str x
 |lst e=>exact .lst (k _ _ e (n _ rfl))
 |tup e=>exact .tup (k _ _ e (n _ rfl))
 |dK e=>exact .dK (k _ _ e (n _ rfl))
theorem aMM(h:Th H v T):IsI K H v (.ty "int") (T == "int" || T == "bool"):=by
 refine⟨_,h.ty,.inl ⟨_,rfl,?_⟩⟩
 cases h <;> rfl
theorem aK6(h:Th H v T):IsI K H v (.ty "bool") (T == "bool"):=by
 refine⟨_,h.ty,.inl ⟨_,rfl,?_⟩⟩
 cases h <;> rfl
def amt:V->Bool
 |.int i=>decide (0<=i) && decide (i<=10 ^ 12)
 |_=>false
structure bE(H:Hp)(p:Addr):Prop where
 ex:∃(d c:Int) (q:Addr) (ms:List Int),H p=some (.lst [.int d,.int c,.ref q])/\H q=some (.lst (ms.map V.int))/\ms≠[]/\q≠p
def d7(p:Addr)(H H':Hp):Prop:=∀(d c:Int) (q:Addr),H p=some (.lst [.int d,.int c,.ref q])->∃d' c':Int,H' p=some (.lst [.int d',.int c',.ref q])
theorem d7.trans(a:d7 p H H1)(b:d7 p H1 H2):d7 p H H2:=λd c q e=>by
 obtain⟨d',c',e'⟩:=a d c q e
 exact b d' c' q e'
theorem d7.of{H H':Hp}(s:∀o,H p=some o->H' p=some o):d7 p H H':=λd c q e=>⟨d,c,s _ e⟩
theorem bE.of(h:bE H p)(k:bM p H H')(s:d7 p H H'):bE H' p:=by
 obtain⟨d,c,q,ms,hp,hq,hne,hqp⟩:=h.ex
 obtain⟨d',c',e⟩:=s d c q hp
 exact⟨⟨d',c',q,ms,e,k _ _ hq hqp,hne,hqp⟩⟩
theorem bE.same(h:bE H p)(s:aQ H H'):bE H' p:=by
 obtain⟨d,c,q,ms,hp,hq,hne,hqp⟩:=h.ex
 exact⟨⟨d,c,q,ms,s _ _ hp,s _ _ hq,hne,hqp⟩⟩
theorem aGn(h:Th H v T):IsI K H v (.ty "list") (T == "list"):=by
 refine⟨_,h.ty,.inl ⟨_,rfl,?_⟩⟩
 cases h <;> rfl
theorem aJp(h:Th H v T):IsI K H v (.ty "tuple") (T == "tuple"):=by
 refine⟨_,h.ty,.inl ⟨_,rfl,?_⟩⟩
 cases h <;> rfl
theorem aK7{ms:List Int}{c:Int}(h:ms≠[]):∃m,m∈ms/\uT (ms.map V.int) (c % ((ms.map V.int).length:Int))=some (.int m):=by
 have hl:0 < ms.length:=Sk9.mpr h
 have e1:=Su9 c (b:=((ms.map V.int).length:Int)) (by rw[bZ];omega)
 have e2:=So9 c (b:=((ms.map V.int).length:Int)) (by rw[bZ];omega)
 obtain⟨j,hj⟩ : ∃j:Nat,c % ((ms.map V.int).length:Int)=(j:Int):=⟨_,(Int.toNat_of_nonneg e1).symm⟩
 rw[hj] at e2 ⊢
 rw[bZ] at e2
 have hjl:j < ms.length:=by omega
 exact⟨ms[j],Rt9 hjl,eQ (by rw[nK,fH hjl];rfl)⟩
theorem aIm(ms:List Int)(lo hi:Option Int):∃r:List Int,pV (ms.map V.int) lo hi=r.map V.int/\r.length=(pV (ms.map V.int) lo hi).length:=by
 unfold pV
 rw[<-List.map_drop,<-List.map_take]
 exact⟨_,rfl,by simp⟩
theorem rot{ms:List Int}{i:Int}(h0:0<=i)(h1:i < ms.length):∃ms':List Int,pV (ms.map V.int) (some i) none++pV (ms.map V.int) none (some i)=ms'.map V.int/\ms'≠[]/\ms'.length<=ms.length+ms.length:=by
 obtain⟨r1,e1,l1⟩:=aIm ms (some i) none
 obtain⟨r2,e2,l2⟩:=aIm ms none (some i)
 have b1:=fG (ms.map V.int) (some i) none
 have b2:=fG (ms.map V.int) none (some i)
 rw[bZ] at b1 b2
 refine⟨r1++r2,by rw[e1,e2,xY],λz=>?_,by rw[xX];omega⟩
 have z1:r1=[]:=(List.append_eq_nil_iff.mp z).1
 obtain⟨j,rfl⟩:=Tg9 h0
 have hj:j < ms.length:=by omega
 rw[z1,Tu9] at l1
 have l3:(pV (ms.map V.int) (some (j:Int)) none).length=ms.length - j:=by
  unfold pV
  rw[HT.aH3,HT.aFP,Re9,Tq9,bZ,Nat.min_eq_left (Tn9 hj)]
  omega
 rw[l3] at l1
 omega
def aE2(K:W.Frag):Sp:=λvs H Q _=>∃(a:Addr) (ns:List Int) (i:Int),vs=[.ref a,.int i]/\bS K H a (ns.map V.int)/\ns.length<=63/\0<=i/\
 ∀p H',aQ H H'->H p=none->bE H' p->Q (.ref p) H'
theorem aE3{mg:Str->Option Value}{a:j8}(tx:Txt K mg a):bP P w K mg base hU 1 a.qD a.qE ["_law_script","_law_place"] (aE2 K):=by
 refine tx.vX.ok iE (λvs H Q E h=>?_) (λcdv A outer s H vs Q E hr h=>?_)
 ·obtain⟨a,ns,i,rfl,_⟩:=h
  rfl
 ·obtain⟨a,ns,i,rfl ,hS,hl,h0,k⟩:=h
  have hu:=kT hr
  refine bD (aD (o6 (k:=1) (idx:=[]) (N:=["_law_cell"]) (i:=2) iE.nd rfl (Or.inl rfl) (dA (sc:=aF gS) (NX:=["_law_script","_law_place","_law_cells","_law_at","_law_digits"]) rfl rfl rfl (by decide +kernel)) rfl (cC (K':=K) (p9 (rs:=aI1 K) aL9 (Z.pv 0) sX (sY aB))) (λ_ _ _ _=>(aO (i:=0) (show(["_law_cell"]:List Str).Nodup by decide +kernel))) (eV (by decide)) (λ_ _ _ _=>cA) (λ_ _ _ _=>(aN aEc (by rfl) tx.aCR aKd (aA (Z.pv 0) aC))))
   (aD (bH (aW (r:=mZ K) (dS hu) (Z.pv 2) (kZ aC) (bK _)) (aG (aJ (i:=2) iE.nd (xR aB))) bC)
   (aD (aJ (i:=3) iE.nd (aI mY (Z.pv 1) (aN (rc:=sD K) cL (by rfl) tx.iO gO (aA (Z.pv 2) aC))))
   (aD (aJ (i:=4) iE.nd aB)
   (aD (bH (fS (jM (aW aM7 (aH (K':=K) (Z.pv 2) (Z.pv 3)) (aI aCh aB aB) (bK _)) (gR (aW aM6 (Z.pv 1) (aN (rc:=sD K) cL (by rfl) tx.iO gO (aA (Z.pv 2) aC)) (bK _))))) (aG (aJ (i:=4) iE.nd (aH (K':=K) (Z.pv 2) (Z.pv 3)))) bC)
   (aG (aM (zX (Z.pv 4) (aI bL aB (aI bN aB (Z.pv 1))) (aI bL (p9 (rs:=aI1 K) aL9 (Z.pv 2) (sY (Z.pv 3)) sX) (p9 (rs:=aI1 K) aL9 (Z.pv 2) sX (sY (Z.pv 3)))))))))))) ?_
  refine aV (σ:=[some (.ref a),some (.int i),none,none,none]) rfl ?_
  refine aKi ?_
  walk_at "w"
  refine aAU hS ?_
  intro p1 n1
  walk_at "w"
  rw[show pV (ns.map V.int) none (some 63)=ns.map V.int from aKo (n:=63) (by rw[bZ];exact hl)]
  refine pZ (bS.of aL) ?_
  refine aAV (λv=>match v with|.int i=>.int (if i < 0 then -i else i)|v=>v) (bS.of aL) (cZ (by rw[bZ];omega)) (λx N N' hx hN=>?_) ?_
  ·obtain⟨y,hy,rfl⟩:=sR.mp hx
   walk_at "w"
   exact hN
  ·intro p2 n2
   repeat walk_at "st"
   have s2:aQ H (upd (upd H p1 (.lst (ns.map V.int))) p2 (.lst ((ns.map V.int).map λv=>match v with|.int i=>.int (if i < 0 then -i else i)|v=>v))):=(aQ.new n1).trans (aQ.new n2)
   rw[Rk9] at s2 ⊢
   generalize hm:ns.map ((λv=>match v with|V.int i=>V.int (if i < 0 then -i else i)|v=>v) ∘ V.int)=xs at s2 ⊢
   obtain⟨ms,rfl⟩ : ∃ms:List Int,xs=ms.map V.int:=⟨ns.map λi=>if i < 0 then -i else i,by rw[<-hm,Rk9];rfl⟩
   have lm:ms.length<=63:=by
    have:=congrArg List.length hm
    simp only[bZ] at this
    omega
   refine iX (λσ' H'=>∃(c:Addr) (ms:List Int),σ'=[some (.ref a),some (.int i),some (.ref c),none,none]/\aQ H H'/\H' c=some (.lst (ms.map V.int))/\ms≠[]/\ms.length<=63) (λN hN=>?_) ?_
   ·walk_at "w"
    intro p3 n3
    walk_at "w"
    refine⟨_,aEK (bS.of (by walk_at "hp")) (bS.of aL),?_⟩
    walk_at "w"
    refine iW (λh=>?_) (λh=>?_)
    ·walk_at "w"
     intro p4 n4
     walk_at "w"
     exact hN _ _ ⟨p4,[0],rfl,(s2.trans (aQ.new n3)).trans (aQ.new n4),aL,by simp,by simp⟩
    ·walk_at "w"
     refine hN _ _ ⟨p2,ms,rfl,s2.trans (aQ.new n3),by walk_at "hp",?_,lm⟩
     rintro rfl
     simp at h
   ·rintro σ' H' ⟨c,ms,rfl,sH,hc,hne,lm⟩
    have hl:0 < ms.length:=Sk9.mpr hne
    obtain⟨m,_,hm⟩:=aK7 (c:=i) hne
    have e1:=Su9 i (b:=((ms.map V.int).length:Int)) (by rw[bZ];omega)
    have e2:=So9 i (b:=((ms.map V.int).length:Int)) (by rw[bZ];omega)
    obtain⟨ms',em,en,el⟩:=rot (ms:=ms) e1 (by rw[bZ] at e2 ⊢;exact e2)
    walk_at "w"
    refine cE (λh=>?_) (λh=>?_)
    ·walk_at "w"
     refine cE (λh=>?_) (λh=>?_)
     all_goals
      walk_at "w"
      refine aAU (bS.of hc) ?_
      intro p5 n5
      walk_at "w"
      refine aAU (bS.of (by walk_at "hp")) ?_
      intro p6 n6
      walk_at "w"
      refine xM (by walk_at "hp") (by walk_at "hp") (cZ (by have:=fG (ms.map V.int) (some (i % ((ms.map V.int).length:Int))) none;have:=fG (ms.map V.int) none (some (i % ((ms.map V.int).length:Int)));simp only[bZ] at *;omega)) ?_
      intro p7 n7
      walk_at "w"
      rw[em]
      walk_at "w"
      intro p8 n8
      walk_at "w"
      have s8:=((aQ.new (o:=.lst (pV (ms.map V.int) (some (i % ((ms.map V.int).length:Int))) none)) n5).trans (aQ.new (o:=.lst (pV (ms.map V.int) none (some (i % ((ms.map V.int).length:Int))))) n6)).trans (aQ.new (o:=.lst (ms'.map V.int)) n7)
      refine k _ _ (sH.trans (s8.trans (aQ.new n8))) ((sH.trans s8).free n8) ⟨⟨_,_,_,ms',aL,by walk_at "hp",en,?_⟩⟩
      exact bG n8 aL
    ·walk_at "w"
     refine aAU (bS.of hc) ?_
     intro p5 n5
     walk_at "w"
     refine aAU (bS.of (by walk_at "hp")) ?_
     intro p6 n6
     walk_at "w"
     refine xM (by walk_at "hp") (by walk_at "hp") (cZ (by have:=fG (ms.map V.int) (some (i % ((ms.map V.int).length:Int))) none;have:=fG (ms.map V.int) none (some (i % ((ms.map V.int).length:Int)));simp only[bZ] at *;omega)) ?_
     intro p7 n7
     walk_at "w"
     rw[em]
     walk_at "w"
     intro p8 n8
     walk_at "w"
     have s8:=((aQ.new (o:=.lst (pV (ms.map V.int) (some (i % ((ms.map V.int).length:Int))) none)) n5).trans (aQ.new (o:=.lst (pV (ms.map V.int) none (some (i % ((ms.map V.int).length:Int))))) n6)).trans (aQ.new (o:=.lst (ms'.map V.int)) n7)
     refine k _ _ (sH.trans (s8.trans (aQ.new n8))) ((sH.trans s8).free n8) ⟨⟨_,_,_,ms',aL,by walk_at "hp",en,?_⟩⟩
     exact bG n8 aL
def aE4(K:W.Frag):Sp:=λvs H Q _=>∃(p:Addr) (n:Int),vs=[.ref p,.int n]/\bE H p/\0 < n/\n < 1073741824/\
 ∀(r:Int) H',0<=r->r < n->bE H' p->bM p H H'->d7 p H H'->Q (.int r) H'
theorem cH{mg:Str->Option Value}{a:j8}(tx:Txt K mg a):bP P w K mg base hU 1 a.qF a.qG ["_law_hand","_law_many"] (aE4 K):=by
 refine tx.aP.ok iF (λvs H Q E h=>?_) (λcdv A outer s H vs Q E hr h=>?_)
 ·obtain⟨p,n,rfl,_⟩:=h
  rfl
 ·obtain⟨p,n,rfl ,hh,h0,h1,k⟩:=h
  have hu:=kT hr
  refine bD (aD (bH (aW aBf (aH (K':=K) (Z.pv 0) aB) aB (bK _)) (aD (aJ (i:=2) iF.nd (aI mY (aH (K':=K) (Z.pv 0) aB) (Z.pv 1)))
   (aD (oU (aI aEz (aH (K':=K) (Z.pv 0) aB) (Z.pv 1)) (xP (Z.pv 0) aB set_list))
   (aG (aM (Z.pv 2))))) bC)
   (aD (sZ (Z.pv 0) aB aEG aB yW set_list)
   (aD (aJ (i:=3) iF.nd (aI mY (aH (K':=K) (aH (K':=K) (Z.pv 0) aB) (aI mY (aH (K':=K) (Z.pv 0) aB) (aN (rc:=sD K) cL (by rfl) tx.iO gO (aA (aH (K':=K) (Z.pv 0) aB) aC)))) aB))
   (aD (aJ (i:=4) iF.nd (aI mY (aI bL (aI bL (aI bN (Z.pv 3) aB) (aI bN (aH (K':=K) (Z.pv 0) aB) aB)) aB) aB))
   (aD (aJ (i:=4) iF.nd (aI mY (aI bL (aI bN (Z.pv 4) (Z.pv 4)) (aH (K':=K) (Z.pv 0) aB)) aB))
   (aD (aJ (i:=4) iF.nd (aI mY (aI bL (aI bN (Z.pv 4) aB) aB) aB))
   (aG (aM (aI mY (aI aEz (aI mY (aI bN (Z.pv 4) (Z.pv 4)) aB) aB) (Z.pv 1)))))))))) ?_
  obtain⟨d,c,q,ms,hp,hq,hne,hqp⟩:=hh.ex
  refine aV (σ:=[some (.ref p),some (.int n),none,none,none]) rfl ?_
  walk_at "w"
  refine cE (λhd=>?_) (λhd=>?_)
  ·walk_at "w"
   refine pX hp rfl ?_
   walk_at "w"
   refine k _ _ (Su9 _ (by omega)) (So9 _ h0) ⟨⟨_,c,q,ms,aL,by walk_at "hp",hne,hqp⟩⟩ bM.upd (λd0 c0 q0 e0=>by rw[hp] at e0;cases e0;exact⟨_,_,aL⟩)
  ·walk_at "w"
   refine aEI (bS.of hp) (by decide) rfl ?_
   walk_at "w"
   refine pX hp rfl ?_
   obtain⟨m,_,hm⟩:=aK7 (c:=c+1) hne
   have hlen:0 < ((ms.map V.int).length:Int):=by rw[bZ];have:=Sk9.mpr hne;omega
   walk_at "w"
   have hq':(upd H p (.lst [.int d,.int (c+1),.ref q])) q=some (.lst (ms.map V.int)):=by walk_at "hp"
   walk_at "w"
   exact k _ _ (Su9 _ (by omega)) (So9 _ h0) ⟨⟨d,c+1,q,ms,aL,hq',hne,hqp⟩⟩ bM.upd (λd0 c0 q0 e0=>by rw[hp] at e0;cases e0;exact⟨_,_,aL⟩)
def aGo(K:W.Frag):Sp:=λvs H Q _=>∃(p:Addr) (b:Int),vs=[.ref p,.int b]/\bE H p/\0 < b/\
 ∀(r:Int) H',0<=r->r < b->bE H' p->bM p H H'->d7 p H H'->Q (.int r) H'
theorem aGp{mg:Str->Option Value}{a:j8}(tx:Txt K mg a):bP P w K mg base hU 2 a.tE a.tF ["_law_hand","_law_bound"] (aGo K):=by
 have aK:=cH (P:=P) (w:=w) (base:=base) tx
 refine tx.y9.ok qC (λvs H Q E h=>?_) (λcdv A outer s H vs Q E hr h=>?_)
 ·obtain⟨p,b,rfl,_⟩:=h
  rfl
 ·obtain⟨p,b,rfl ,hh,h0,k⟩:=h
  have hu:=kT hr
  refine bD (aD (aJ (i:=2) qC.nd aB)
   (aD (cD PassesOwn.never rfl (cN (by rfl) tx.dZ (aA aB aC)) (aO (i:=3) qC.nd) (aG (aJ (i:=2) qC.nd (aI bL (aI bN (Z.pv 2) aB) (aE (aK) (hr.mono (by decide)) (by rfl) tx.aS tx.aP.kp tx.aR .nil aT (aA (Z.pv 0) (aA aB aC)))))))
   (aG (aM (aI mY (Z.pv 2) (Z.pv 1)))))) ?_
  refine aV (σ:=[some (.ref p),some (.int b),none,none]) rfl ?_
  walk_at "w"
  refine⟨by decide,by decide,?_⟩
  refine sF (n:=11) (λi σ' H'=>∃(t:Int) (x:Option V),σ'=[some (.ref p),some (.int b),some (.int t),x]/\bE H' p/\bM p H H'/\d7 p H H') ⟨0,none,rfl,hh,λ_ _ e _=>e,d7.of λ_ e=>e⟩ (λi σ' H' hi ⟨t,x,e,h',kp,sq⟩=>?_) (λσ' H' ⟨t,x,e,h',kp,sq⟩=>?_)
  ·subst e
   walk_at "w"
   refine⟨p,_,rfl,h',by decide,by decide,λr H2 r0 r1 h2 k2 q2=>?_⟩
   walk_at "w"
   exact⟨_,_,rfl,h2,kp.trans k2,sq.trans q2⟩
  ·subst e
   walk_at "w"
   exact k _ _ (Su9 _ (by omega)) (So9 _ h0) h' kp sq
def aCT(K:W.Frag):Sp:=λvs H Q _=>∃(p:Addr),vs=[.ref p]/\bE H p/\∀(r:Int) H',1<=r->r<=50000000000->bE H' p->bM p H H'->d7 p H H'->Q (.int r) H'
theorem aCU{mg:Str->Option Value}{a:j8}(tx:Txt K mg a):bP P w K mg base hU 3 a.lW a.lX ["_law_hand"] (aCT K):=by
 have aK:=cH (P:=P) (w:=w) (base:=base) tx
 have aHE:=aGp (P:=P) (w:=w) (base:=base) tx
 refine tx.mM.ok aCF (λvs H Q E h=>?_) (λcdv A outer s H vs Q E hr h=>?_)
 ·obtain⟨p,rfl,_⟩:=h
  rfl
 ·obtain⟨p,rfl ,hh,k⟩:=h
  have hu:=kT hr
  refine bD (aD (bH (aW aBf (aE (aK) (hr.mono (by decide)) (by rfl) tx.aS tx.aP.kp tx.aR .nil aT (aA (Z.pv 0) (aA aB aC))) aB (bK _)) (aG (aM aB)) bC)
   (aG (aM (aI bL aB (aE (aHE) (hr.mono (by decide)) (by rfl) tx.aCK tx.y9.kp tx.aCJ .nil aT (aA (Z.pv 0) (aA (aI bN aB (aI aCh aB aB)) aC))))))) ?_
  refine aV (σ:=[some (.ref p)]) rfl ?_
  walk_at "w"
  refine⟨p,_,rfl,hh,by decide,by decide,λr1 H1 a1 b1 h1 k1 q1=>?_⟩
  walk_at "w"
  refine cE (λh=>?_) (λh=>?_)
  ·walk_at "w"
   exact k _ _ (by decide) (by decide) h1 k1 q1
  ·walk_at "w"
   refine⟨p,_,rfl,h1,by decide,λr2 H2 a2 b2 h2 k2 q2=>?_⟩
   have b3:r2 < 50000000000:=b2
   walk_at "w"
   exact k _ _ (by omega) (by omega) h2 (k1.trans k2) (q1.trans q2)
structure MS where
 up:Int
 down:Int
 begin_:Int
 run:Int
 rest:Int
 least:Int
 pieces:List (Int×Int)
def Am(i:Int):Prop:=0<=i/\i<=1000000000000
structure aK8(ps:List (Int×Int)):Prop where
 len:ps.length<=4
 pc:∀t∈ps,1<=t.1/\Am t.1/\Am t.2
 up:∀(j:Nat) t u,ps[j]?=some t->ps[j+1]?=some u->t.2<=u.2
structure MS.Good(m:MS):Prop where
 up:1<=m.up/\m.up<=12
 down:1<=m.down/\m.down<=12
 begin_:Am m.begin_
 run:Am m.run
 rest:Am m.rest
 least:Am m.least
 pieces:aK8 m.pieces
structure xA(H:Hp)(qs:List Addr)(ps:List (Int×Int)):Prop where
 len:qs.length=ps.length
 at_:∀(j:Nat) q t,qs[j]?=some q->ps[j]?=some t->H q=some (.tup [.int t.1,.int t.2])
structure yB(H:Hp)(p:Addr)(ps:List (Int×Int)):Prop where
 ex:∃qs,H p=some (.lst (qs.map V.ref))/\xA H qs ps
structure dE(H:Hp)(s:Addr)(m:MS):Prop where
 ex:∃pl,H s=some (.lst [.int m.up,.int m.down,.int m.begin_,.int m.run,.int m.rest,.int m.least,.ref pl])/\yB H pl m.pieces
def mFs(m:MS)(pl:Addr):List (Str×V):=[("up",.int m.up),("down",.int m.down),("begin",.int m.begin_),("run",.int m.run),("rest",.int m.rest),("least",.int m.least),("pieces",.ref pl)]
structure cK(C:Addr)(H:Hp)(a:Addr)(m:MS):Prop where
 ex:∃dx pl,H a=some (.ins C dx (mFs m pl))/\yB H pl m.pieces
theorem xA.at2{H:Hp}{ps:List (Int×Int)}(h:xA H qs ps)(hq:q∈qs):∃t∈ps,H q=some (.tup [.int t.1,.int t.2]):=by
 obtain⟨j,hj,rfl⟩:=List.getElem_of_mem hq
 have hj2:j < ps.length:=by rw[<-h.len];exact hj
 exact⟨ps[j],Rt9 hj2,h.at_ j _ _ (fH hj) (fH hj2)⟩
theorem xA.same{ps:List (Int×Int)}(h:xA H qs ps)(s:aQ H H'):xA H' qs ps:=⟨h.len,λj q t h1 h2=>s _ _ (h.at_ j q t h1 h2)⟩
theorem yB.same{ps:List (Int×Int)}(h:yB H p ps)(s:aQ H H'):yB H' p ps:=by
 obtain⟨qs,h1,h2⟩:=h.ex
 exact⟨qs,s _ _ h1,h2.same s⟩
theorem dE.same(h:dE H p m)(s:aQ H H'):dE H' p m:=by
 obtain⟨pl,h1,h2⟩:=h.ex
 exact⟨pl,s _ _ h1,h2.same s⟩
theorem cK.same(h:cK C H p m)(s:aQ H H'):cK C H' p m:=by
 obtain⟨dx,pl,h1,h2⟩:=h.ex
 exact⟨dx,pl,s _ _ h1,h2.same s⟩
theorem xA.keep{H:Hp}{ps:List (Int×Int)}(h:xA H qs ps)(hp:∀xs,H p≠some (.tup xs))(s:bM p H H'):xA H' qs ps:=
 ⟨h.len,λj q t h1 h2=>by
  have e:=h.at_ j q t h1 h2
  exact s _ _ e (λz=>hp _ (z▸e))⟩
theorem bE.aJx(h:bE H p)(xs:List V):H p≠some (.tup xs):=λz=>by
 obtain⟨d,c,q,ms,hp,_⟩:=h.ex
 rw[hp] at z
 cases z
theorem yB.keep{ps:List (Int×Int)}(h:yB H a ps)(hh:bE H p)(s:bM p H H'):yB H' a ps:=by
 obtain⟨qs,h1,h2⟩:=h.ex
 obtain⟨d,c,q,ms,hp,_⟩:=id hh.ex
 refine⟨qs,s _ _ h1 (λz=>?_),h2.keep hh.aJx s⟩
 rw[z,hp] at h1
 cases qs with
 |nil=>cases h1
 |cons x xs=>cases h1
theorem dE.keep(h:dE H a m)(hh:bE H p)(s:bM p H H'):dE H' a m:=by
 obtain⟨pl,h1,h2⟩:=h.ex
 obtain⟨d,c,q,ms,hp,_⟩:=id hh.ex
 refine⟨pl,s _ _ h1 (λz=>?_),h2.keep hh s⟩
 rw[z,hp] at h1
 cases h1
theorem cK.keep{C:Addr}{H H':Hp}{a p:Addr}{m:MS}(h:cK C H a m)(hh:bE H p)(s:bM p H H'):cK C H' a m:=by
 obtain⟨dx,pl,h1,h2⟩:=h.ex
 obtain⟨d,c,q,ms,hp,_⟩:=id hh.ex
 refine⟨dx,pl,s _ _ h1 (λz=>?_),h2.keep hh s⟩
 rw[z,hp] at h1
 cases h1
theorem uM{i:Int}(h:Am i):amt (.int i)=true:=by
 obtain⟨h1,h2⟩:=h
 have h3:i<=10 ^ 12:=h2
 show(decide (0<=i) && decide (i<=10 ^ 12))=true
 rw[decide_eq_true h1,decide_eq_true h3]
 rfl
def aGq(K:PySem.W.Frag):Sp:=λvs H Q _=>∃v T,vs=[v]/\Th H v T/\Q (.bl (T == "int")) H
theorem xB{mg:Str->Option Value}{a:j8}(tx:Txt K mg a):bP P w K mg base hU 1 a.tG a.tH ["thing"] (aGq K):=by
 refine tx.pB.ok aGj (λvs H Q E h=>?_) (λcdv A outer s H vs Q E hr h=>?_)
 ·obtain⟨v,T,rfl,_⟩:=h
  rfl
 ·obtain⟨v,T,rfl ,ht,k⟩:=h
  have hu:=kT hr
  refine bD (aG (aM (oS (aN (rc:=aEJ K) kW (by rfl) tx.cG eJ (aA (Z.pv 0) (aA (oZ (v:=.ty "int") (by rfl) tx.aBE aG8 rfl) aC))) (kY (aI8 (aN (rc:=aEJ K) kW (by rfl) tx.cG eJ (aA (Z.pv 0) (aA (oZ (v:=.ty "bool") (by rfl) tx.aA5 aL8 rfl) aC)))))))) ?_
  refine aV (σ:=[some v]) rfl ?_
  walk_at "w"
  refine y6 (aMM ht) ?_
  walk_at "w"
  refine iW (λh=>?_) (λh=>?_)
  ·walk_at "w"
   refine y6 (aK6 ht) ?_
   walk_at "w"
   have e:(!(T == "bool"))=(T == "int"):=by cases ht <;> first|rfl|cases h
   rw[e]
   exact k
  ·have e:(T == "int")=false:=by cases ht <;> first|rfl|cases h
   rw[e] at k
   exact k
def aE5(K:W.Frag):Sp:=λvs H Q _=>∃v T,vs=[v]/\Th H v T/\Q (.bl (amt v)) H
theorem oP{mg:Str->Option Value}{a:j8}(tx:Txt K mg a):bP P w K mg base hU 2 a.qH a.qI ["thing"] (aE5 K):=by
 have pR:=xB (P:=P) (w:=w) (base:=base) tx
 refine tx.dC.ok aEX (λvs H Q E h=>?_) (λcdv A outer s H vs Q E hr h=>?_)
 ·obtain⟨v,T,rfl,_⟩:=h
  rfl
 ·obtain⟨v,T,rfl ,ht,k⟩:=h
  have hu:=kT hr
  refine bD (aG (aM (oS (aE (pR) (hr.mono (by decide)) (by rfl) tx.tU tx.pB.kp tx.tT .nil aT (aA (Z.pv 0) aC)) (kY (vQ aCi aCi aB (Z.pv 0) (aI aCh aB aB)))))) ?_
  refine aV (σ:=[some v]) rfl ?_
  walk_at "w"
  refine⟨v,T,rfl,ht,?_⟩
  walk_at "w"
  refine iW (λh=>?_) (λh=>?_)
  ·cases ht with
   |int i=>
    walk_at "w"
    refine cE (λh1=>?_) (λh1=>?_)
    ·walk_at "w"
     have e:amt (.int i)=decide (i<=10 ^ (12:Int).toNat):=by simp[amt,h1]
     rw[<-e]
     exact k
    ·have e:amt (.int i)=false:=by simp[amt,h1]
     rw[e] at k
     exact k
   |_=>cases h
  ·have e:amt v=false:=by cases ht <;> first|rfl|cases h
   rw[e] at k
   exact k
def aHF(K:W.Frag):Sp:=λvs H Q _=>∃(i:Int),vs=[.int i]/\1<=i/\i<=12/\Q (.bl true) H
theorem aHG{mg:Str->Option Value}{a:j8}(tx:Txt K mg a):bP P w K mg base hU 2 a.xS a.xT ["thing"] (aHF K):=by
 have pR:=xB (P:=P) (w:=w) (base:=base) tx
 refine tx.xU.ok aHD (λvs H Q E h=>?_) (λcdv A outer s H vs Q E hr h=>?_)
 ·obtain⟨i,rfl,_⟩:=h
  rfl
 ·obtain⟨i,rfl ,h1,h2,k⟩:=h
  have hu:=kT hr
  refine bD (aG (aM (oS (aE (pR) (hr.mono (by decide)) (by rfl) tx.tU tx.pB.kp tx.tT .nil aT (aA (Z.pv 0) aC)) (kY (vQ aCi aCi aB (Z.pv 0) (sW (n:=12) (by rfl) tx.eA)))))) ?_
  refine aV (σ:=[some (.int i)]) rfl ?_
  walk_at "w"
  refine⟨_,_,rfl,.int i,?_⟩
  walk_at "w"
  refine iW (λ_=>?_) (λh=>by simp at h)
  walk_at "w"
  refine cE (λ_=>?_) (λh=>absurd h1 h)
  walk_at "w"
  rw[decide_eq_true h2]
  exact k
def aGr(K:W.Frag):Sp:=λvs H Q _=>∃(q:Addr) (x y:Int),vs=[.ref q]/\H q=some (.tup [.int x,.int y])/\1<=x/\Am x/\Am y/\Q (.bl true) H
theorem aGs{mg:Str->Option Value}{a:j8}(tx:Txt K mg a):bP P w K mg base hU 3 a.tI a.tJ ["thing"] (aGr K):=by
 have cW:=oP (P:=P) (w:=w) (base:=base) tx
 refine tx.zA.ok aGk (λvs H Q E h=>?_) (λcdv A outer s H vs Q E hr h=>?_)
 ·obtain⟨q,x,y,rfl,_⟩:=h
  rfl
 ·obtain⟨q,x,y,rfl ,hq,h1,h2,h3,k⟩:=h
  have hu:=kT hr
  refine bD (aD (bH (fS (zW (fY (d9 (aN (rc:=aEJ K) kW (by rfl) tx.cG eJ (aA (Z.pv 0) (aA (oZ (v:=.ty "tuple") (by rfl) tx.uL aF0 rfl) aC))))) (xO (aW (r:=aHb K) (aEF hu) (aN (rc:=sD K) cL (by rfl) tx.iO gO (aA (Z.pv 0) aC)) aB (bK _))))) (aG (aM oY)) bC)
   (aG (aM (oS (aE (cW) (hr.mono (by decide)) (by rfl) tx.dN tx.dC.kp tx.dM .nil aT (aA (aH (K':=K) (Z.pv 0) aB) aC)) (oS (gQ aM7 (aH (K':=K) (Z.pv 0) aB) aB (bK _)) (kY (aE (cW) (hr.mono (by decide)) (by rfl) tx.dN tx.dC.kp tx.dM .nil aT (aA (aH (K':=K) (Z.pv 0) aB) aC)))))))) ?_
  refine aV (σ:=[some (.ref q)]) rfl ?_
  walk_at "w"
  refine y6 (aJp (.tup hq)) ?_
  walk_at "w"
  refine iW (λh=>by simp at h) (λ_=>?_)
  walk_at "w"
  refine aH8 (λh=>absurd rfl h) (λ_=>?_)
  walk_at "w"
  refine⟨_,_,rfl,.int x,?_⟩
  rw[uM h2]
  walk_at "w"
  refine cE (λ_=>?_) (λh=>absurd h1 h)
  walk_at "w"
  refine⟨_,_,rfl,.int y,?_⟩
  rw[uM h3]
  exact k
def aDC(K:W.Frag):Sp:=λvs H Q _=>∃(p:Addr) (ps:List (Int×Int)),vs=[.ref p]/\yB H p ps/\aK8 ps/\∀H',aQ H H'->Q (.bl true) H'
theorem aDD{mg:Str->Option Value}{a:j8}(tx:Txt K mg a):bP P w K mg base hU 4 a.nP a.nQ ["thing"] (aDC K):=by
 have aHH:=aGs (P:=P) (w:=w) (base:=base) tx
 refine tx.tV.ok aDx (λvs H Q E h=>?_) (λcdv A outer s H vs Q E hr h=>?_)
 ·obtain⟨p,ps,rfl,_⟩:=h
  rfl
 ·obtain⟨p,ps,rfl ,hp,hg,k⟩:=h
  have hu:=kT hr
  refine bD (aD (bH (fS (zW (fY (d9 (aN (rc:=aEJ K) kW (by rfl) tx.cG eJ (aA (Z.pv 0) (aA (oZ (v:=.ty "list") (by rfl) tx.jK lR rfl) aC))))) (xO (aW aBf (aN (rc:=sD K) cL (by rfl) tx.iO gO (aA (Z.pv 0) aC)) (sW (n:=4) (by rfl) tx.gJ) (bK _))))) (aG (aM oY)) bC)
   (aD (bH (fY (d9 (aN (rc:=aKu K) (aAX rfl) (by rfl) tx.aBD aHa (aA (cY (k:=1) (idx:=[]) (N:=["piece"]) (dA (sc:=aF eF) (NX:=["thing"]) rfl rfl rfl (by decide +kernel)) rfl (cC (K':=K) (Z.pv 0)) (λ_ _ _ _=>(aO (i:=0) (show(["piece"]:List Str).Nodup by decide +kernel))) (eV (by decide)) (λ_ _ _ _=>cA) (λ_ _ _ _=>(aE (aHH) (hr.mono (by decide)) (by rfl) tx.aCM tx.zA.kp tx.aCL .nil aT (aA (Z.pv 0) aC)))) aC)))) (aG (aM oY)) bC)
   (aG (aM (aN (rc:=aKu K) (aAX rfl) (by rfl) tx.aBD aHa (aA (cY (k:=1) (idx:=[0]) (N:=["at","thing"]) (dA (sc:=aF eF) (NX:=["thing"]) rfl rfl rfl (by decide +kernel)) rfl (aDt (by rfl) tx.dZ (aA aB (aA (aN (rc:=sD K) cL (by rfl) tx.iO gO (aA (Z.pv 0) aC)) aC))) (λ_ _ _ _=>(aO (i:=0) (show(["at","thing"]:List Str).Nodup by decide +kernel))) (eV (by decide)) (λ_ _ _ _=>cA) (λ_ _ _ _=>(gQ aCi (aH (K':=K) (aH (K':=K) (Z.pv 1) (aI jW (Z.pv 0) aB)) aB) (aH (K':=K) (aH (K':=K) (Z.pv 1) (Z.pv 0)) aB) (bK _)))) aC)))))) ?_
  obtain⟨qs,h1,h2⟩:=hp.ex
  have hl:=hg.len
  have hql:qs.length<=4:=by rw[h2.len];exact hl
  refine aV (σ:=[some (.ref p)]) rfl ?_
  walk_at "w"
  refine y6 (aGn (.lst h1)) ?_
  walk_at "w"
  refine iW (λh=>by simp at h) (λ_=>?_)
  walk_at "w"
  refine cE (λh=>by rw[bZ] at h;omega) (λ_=>?_)
  walk_at "w"
  refine pZ (bS.of h1) ?_
  refine aAV (λ_=>.bl true) (bS.of h1) (cZ (by rw[bZ];omega)) (λx N N' hxm hN=>?_) ?_
  ·obtain⟨q,hq,rfl⟩:=sR.mp hxm
   obtain⟨t,ht,e⟩:=h2.at2 hq
   obtain⟨g1,g2,g3⟩:=hg.pc t ht
   walk_at "w"
   exact⟨q,t.1,t.2,rfl,e,g1,g2,g3,hN⟩
  ·intro l1 n1
   walk_at "w"
   refine aEL (bS.of aL) (λx hx=>by obtain⟨_,_,rfl⟩:=sR.mp hx;rfl) ?_
   walk_at "w"
   have h1':=aQ.new (o:=.lst ((qs.map V.ref).map λ_=>V.bl true)) n1 _ _ h1
   have h2':=h2.same (aQ.new (o:=.lst ((qs.map V.ref).map λ_=>V.bl true)) n1)
   walk_at "w"
   refine⟨⟨by omega,by omega,by omega,by rw[bZ];omega⟩,?_⟩
   rw[bZ]
   refine aHd (λ_=>.bl true) (cZ (by omega)) (λi N N' hi hN=>?_) ?_
   ·have i1:i < qs.length:=by omega
    have i2:i+1 < qs.length:=by omega
    have j1:i < ps.length:=by rw[<-h2.len];exact i1
    have j2:i+1 < ps.length:=by rw[<-h2.len];exact i2
    have e1:uT (qs.map V.ref) (1+(i:Int) - 1)=some (.ref qs[i]):=by
     rw[show 1+(i:Int) - 1=(i:Int) by omega]
     exact eQ (by rw[nK,fH i1];rfl)
    have e2:uT (qs.map V.ref) (1+(i:Int))=some (.ref qs[i+1]):=by
     rw[show 1+(i:Int)=((i+1:Nat):Int) by omega]
     exact eQ (by rw[nK,fH i2];rfl)
    have t1:=h2'.at_ i _ _ (fH i1) (fH j1)
    have t2:=h2'.at_ (i+1) _ _ (fH i2) (fH j2)
    have t3:=hg.up i _ _ (fH j1) (fH j2)
    walk_at "w"
    rw[decide_eq_true t3]
    exact hN
   ·intro l2 n2
    walk_at "w"
    refine aEL (bS.of aL) (λx hx=>by obtain⟨_,_,rfl⟩:=sR.mp hx;rfl) ?_
    exact k _ ((aQ.new n1).trans (aQ.new n2))
def aBM(K:W.Frag)(C:Addr):Sp:=λvs H Q _=>∃(x dx pl:Addr) (m:MS),vs=[.ref x,.int m.up,.int m.down,.int m.begin_,.int m.run,.int m.rest,.int m.least,.ref pl]/\H x=some (.ins C dx [])/\yB H pl m.pieces/\m.Good/\
 ∀H',cK C H' x m->bM x H H'->Q .non H'
theorem aBN{mg:Str->Option Value}{a:j8}(tx:Txt K mg a):bP P w K mg base hU 5 a.j9 a.kA ["self","up","down","begin","run","rest","least","pieces"] (aBM K a.bB):=by
 have aE6:=aDD (P:=P) (w:=w) (base:=base) tx
 have cW:=oP (P:=P) (w:=w) (base:=base) tx
 have aEo:=aHG (P:=P) (w:=w) (base:=base) tx
 refine tx.vY.ok fT (λvs H Q E h=>?_) (λcdv A outer s H vs Q E hr h=>?_)
 ·obtain⟨x,dx,pl,m,rfl,_⟩:=h
  rfl
 ·obtain⟨x,dx,pl,m,rfl ,hx,hp,hg,k⟩:=h
  have hu:=kT hr
  refine bD (aD (aJ (i:=8) fT.nd (nM (aE (aEo) (hr.mono (by decide)) (by rfl) tx.aA3 tx.xU.kp tx.aA2 .nil aT (aA (Z.pv 1) aC)) (aE (aEo) (hr.mono (by decide)) (by rfl) tx.aA3 tx.xU.kp tx.aA2 .nil aT (aA (Z.pv 2) aC))))
   (aD (aJ (i:=9) fT.nd (aMz (aE (cW) (hr.mono (by decide)) (by rfl) tx.dN tx.dC.kp tx.dM .nil aT (aA (Z.pv 3) aC)) (aE (cW) (hr.mono (by decide)) (by rfl) tx.dN tx.dC.kp tx.dM .nil aT (aA (Z.pv 4) aC)) (aE (cW) (hr.mono (by decide)) (by rfl) tx.dN tx.dC.kp tx.dM .nil aT (aA (Z.pv 5) aC)) (aE (cW) (hr.mono (by decide)) (by rfl) tx.dN tx.dC.kp tx.dM .nil aT (aA (Z.pv 6) aC))))
   (aD (cD PassesOwn.never rfl (mU (K':=K) (by rfl) tx.dO (aA (aI bL (aI bL (Z.pv 8) (Z.pv 9)) (xR (aE (aE6) (hr.mono (by decide)) (by rfl) tx.aAf tx.tV.kp tx.aAe .nil aT (aA (Z.pv 7) aC)))) aC)) (cP (K':=K) (n:=2) rfl (bA (aO (i:=10) fT.nd) (bA (aO (i:=11) fT.nd) cO))) (aG (bH (fY (d9 (Z.pv 11))) (aG mT) bC)))
   (aD (cJ (K':=K) (Z.pv 0) (Z.pv 1) rfl)
   (aD (cJ (K':=K) (Z.pv 0) (Z.pv 2) rfl)
   (aD (cJ (K':=K) (Z.pv 0) (Z.pv 3) rfl)
   (aD (cJ (K':=K) (Z.pv 0) (Z.pv 4) rfl)
   (aD (cJ (K':=K) (Z.pv 0) (Z.pv 5) rfl)
   (aD (cJ (K':=K) (Z.pv 0) (Z.pv 6) rfl)
   (aG (cJ (K':=K) (Z.pv 0) (cF (rc:=pY K) kX (by rfl) tx.jK lR (aA (Z.pv 7) aC)) rfl))))))))))) ?_
  refine aV (σ:=[some (.ref x),some (.int m.up),some (.int m.down),some (.int m.begin_),some (.int m.run),some (.int m.rest),some (.int m.least),some (.ref pl),none,none,none,none]) rfl ?_
  walk_at "w"
  refine⟨_,rfl,hg.up.1,hg.up.2,?_⟩
  walk_at "w"
  refine⟨_,rfl,hg.down.1,hg.down.2,?_⟩
  walk_at "w"
  intro l1 n1
  walk_at "w"
  refine⟨_,_,rfl,.int _,?_⟩
  rw[uM hg.begin_]
  walk_at "w"
  refine⟨_,_,rfl,.int _,?_⟩
  rw[uM hg.run]
  walk_at "w"
  refine⟨_,_,rfl,.int _,?_⟩
  rw[uM hg.rest]
  walk_at "w"
  refine⟨_,_,rfl,.int _,?_⟩
  rw[uM hg.least]
  walk_at "w"
  intro l2 n2
  walk_at "w"
  refine xM (xs:=[.bl true,.bl true]) (zs:=[.bl true,.bl true,.bl true,.bl true]) (by walk_at "hp") aL (cZ (by simp)) ?_
  intro l3 n3
  walk_at "w"
  have s3:aQ H (upd (upd (upd H l1 (.lst [.bl true,.bl true])) l2 (.lst [.bl true,.bl true,.bl true,.bl true])) l3 (.lst ([.bl true,.bl true] ++ [.bl true,.bl true,.bl true,.bl true]))):=((aQ.new n1).trans (aQ.new n2)).trans (aQ.new n3)
  refine⟨pl,m.pieces,rfl,hp.same s3,hg.pieces,λH4 s4=>?_⟩
  walk_at "w"
  intro l5 n5
  walk_at "w"
  refine xM (xs:=[.bl true,.bl true] ++ [.bl true,.bl true,.bl true,.bl true]) (zs:=[.bl true]) (aQ.new n5 _ _ (s4 _ _ aL)) aL (cZ (by simp)) ?_
  intro l6 n6
  walk_at "w"
  have s6:aQ H (upd (upd H4 l5 (.lst [.bl true])) l6 (.lst (([.bl true,.bl true] ++ [.bl true,.bl true,.bl true,.bl true]) ++ [.bl true]))):=(s3.trans s4).trans ((aQ.new n5).trans (aQ.new n6))
  generalize hH6:upd (upd H4 l5 (.lst [.bl true])) l6 (.lst (([.bl true,.bl true] ++ [.bl true,.bl true,.bl true,.bl true]) ++ [.bl true]))=H6 at s6 ⊢
  have e6:H6 l6=some (.lst [.bl true,.bl true,.bl true,.bl true,.bl true,.bl true,.bl true]):=by rw[<-hH6,aL];rfl
  refine aF3 (bS.of e6) ?_
  refine zV (xs:=[.bl true,.bl true,.bl true,.bl true,.bl true,.bl true,.bl true]) (λi σ' H'=>∃y z,σ'=[some (.ref x),some (.int m.up),some (.int m.down),some (.int m.begin_),some (.int m.run),some (.int m.rest),some (.int m.least),some (.ref pl),some (.ref l1),some (.ref l2),y,z]/\aQ H6 H')
   ⟨_,_,rfl,aQ.refl _⟩ (λi σ' H' hi ⟨y,z,e,s⟩=>bS.of (s _ _ e6)) (λi v σ' H' T hv ⟨y,z,e,s⟩ nT=>?_) (λσ' H' ⟨y,z,e,s⟩=>?_)
  ·subst e
   have ev:v=.bl true:=by
    have:=vD hv
    simpa using this
   subst ev
   refine gK (mX.of aL) rfl ?_
   walk_at "w"
   exact⟨_,_,rfl,s.trans (aQ.new nT)⟩
  ·subst e
   have sH:aQ H H':=s6.trans s
   have hx':=sH _ _ hx
   have hp':=hp.same sH
   obtain⟨qs,p1,p2⟩:=hp'.ex
   walk_at "w"
   refine jD (fs':=[("up",.int m.up)]) hx' tx.cM tx.uI (by simp[mFs]) rfl ?_
   walk_at "w"
   refine jD (fs':=[("up",.int m.up),("down",.int m.down)]) aL tx.cM tx.pO (by simp[mFs]) rfl ?_
   rw[jV]
   walk_at "w"
   refine jD (fs':=[("up",.int m.up),("down",.int m.down),("begin",.int m.begin_)]) aL tx.cM tx.m9 (by simp[mFs]) rfl ?_
   rw[jV]
   walk_at "w"
   refine jD (fs':=[("up",.int m.up),("down",.int m.down),("begin",.int m.begin_),("run",.int m.run)]) aL tx.cM tx.rW (by simp[mFs]) rfl ?_
   rw[jV]
   walk_at "w"
   refine jD (fs':=[("up",.int m.up),("down",.int m.down),("begin",.int m.begin_),("run",.int m.run),("rest",.int m.rest)]) aL tx.cM tx.pP (by simp[mFs]) rfl ?_
   rw[jV]
   walk_at "w"
   refine jD (fs':=[("up",.int m.up),("down",.int m.down),("begin",.int m.begin_),("run",.int m.run),("rest",.int m.rest),("least",.int m.least)]) aL tx.cM tx.nB (by simp[mFs]) rfl ?_
   rw[jV]
   walk_at "w"
   have px:pl≠x:=λz=>by rw[z,hx'] at p1;cases p1
   refine sE (ys:=qs.map V.ref) (bS.of (by rw[aU px];exact p1)) ?_
   intro l9 n9
   walk_at "w"
   have x9:x≠l9:=bG n9 aL
   walk_at "w"
   refine jD (fs':=mFs m l9) (by rw[aU x9];exact aL) tx.cM tx.lO (by simp[mFs]) rfl ?_
   walk_at "w"
   refine k _ ⟨dx,l9,aL,qs,?_,p2.len,λj q t h1 h2=>?_⟩ (λb o e nb=>?_)
   ·rw[aU (Ne.symm x9),aL]
   ·have e:=p2.at_ j q t h1 h2
    have qx:q≠x:=λz=>by rw[z,hx'] at e;cases e
    have q9:q≠l9:=bG n9 (by rw[aU qx];exact e)
    rw[aU qx,aU q9,aU qx]
    exact e
   ·have e1:=sH _ _ e
    have b9:b≠l9:=bG n9 (by rw[aU nb];exact e1)
    rw[aU nb,aU b9,aU nb]
    exact e1
structure PcW(ps:List (Int×Int))(r:Int):Prop where
 pc:∀t∈ps,1<=t.1/\Am t.1/\Am t.2
 up:∀(j:Nat) t u,ps[j]?=some t->ps[j+1]?=some u->t.2<=u.2
 top:∀t∈ps,t.2<=r
theorem PcW.nil{r:Int}:PcW [] r:=⟨λ_ h=>by simp at h,λj t u h=>by simp at h,λ_ h=>by simp at h⟩
theorem PcW.snoc{ps:List (Int×Int)}{r r' a:Int}(w:PcW ps r)(hr:r<=r')(h1:1<=a)(h2:Am a)(h3:Am r'):PcW (ps ++ [(a,r')]) r':=by
 refine⟨λt h=>?_,λj t u ht hu=>?_,λt h=>?_⟩
 ·rcases Rd9.mp h with h|h
  ·exact w.pc t h
  ·rw[Qv9.mp h];exact⟨h1,h2,h3⟩
 ·have hj2:j+1 < (ps ++ [(a,r')]).length:=(uS.mp hu).1
  rw[xX,Rj9] at hj2
  have hj:j < ps.length:=by omega
  rw[Qx9 hj] at ht
  by_cases hj3:j+1 < ps.length
  ·rw[Qx9 hj3] at hu
   exact w.up j t u ht hu
  ·rw[Qy9 (by omega),show j+1 - ps.length=0 by omega] at hu
   cases hu
   exact Rq9 (w.top t (vD ht)) hr
 ·rcases Rd9.mp h with h|h
  ·exact Rq9 (w.top t h) hr
  ·rw[Qv9.mp h];exact Tv9 _
theorem xA.snoc{ss:List (Int×Int)}{t:Int×Int}(h:xA H qs ss)(hl:H l=some (.lst xs))(k:bM l H H3)(hT:H3 T=some (.tup [.int t.1,.int t.2])):xA H3 (qs ++ [T]) (ss ++ [t]):=by
 refine⟨by rw[xX,xX,h.len];rfl,λj q u hq hu=>?_⟩
 by_cases hj:j < qs.length
 ·rw[Qx9 hj] at hq
  rw[Qx9 (by rw[<-h.len];exact hj)] at hu
  have e:=h.at_ j q u hq hu
  refine k q _ e λz=>?_
  rw[z,hl] at e
  cases e
 ·have hj2:j < (qs ++ [T]).length:=(uS.mp hq).1
  rw[xX,Rj9] at hj2
  have e:j=qs.length:=by omega
  subst e
  rw[Qy9 (fJ _),Sv9] at hq
  rw[h.len,Qy9 (fJ _),Sv9] at hu
  cases hq
  cases hu
  exact hT
theorem bE.aK9{qs:List Addr}(h:bE H p)(e:H c=some (.lst (qs.map V.ref))):c≠p:=λz=>by
 obtain⟨d,cc,q,ms,hp,_⟩:=h.ex
 rw[z,hp] at e
 cases qs with
 |nil=>cases e
 |cons x xs=>cases e
theorem bE.aGt{xs:List V}(h:bE H p)(e:H c=some (.lst xs))(hl:xs.length≠3):c≠p:=λz=>by
 obtain⟨d,cc,q,ms,hp,_⟩:=h.ex
 rw[z,hp] at e
 cases e
 exact hl rfl
theorem bE.isL{H:Hp}(h:bE H p):∃xs,H p=some (.lst xs):=by
 obtain⟨d,cc,q,ms,hp,_⟩:=h.ex
 exact⟨_,hp⟩
theorem hJ(k:bM p H H')(hh:bE H' p)(n:H' c=none):H c=none:=by
 cases hc:H c with
 |none=>rfl
 |some v=>
  obtain⟨xs,e⟩:=hh.isL
  exact absurd rfl (bG n (k c v hc (λz=>bG n e z.symm)))
def aE7(K:W.Frag):Sp:=λvs H Q _=>∃(p b:Addr) (x y n:Int),vs=[.ref p,.ref b,.int n]/\bE H p/\H b=some (.lst [.int x,.int y])/\1<=x/\x<=50000000000/\1<=y/\y<=50000000000/\1<=n/\n<=12/\
 ∀(s:Addr) (m:MS) H',dE H' s m->m.Good->m.up<=n->m.down<=n->bE H' p->bM p H H'->H s=none->Q (.ref s) H'
theorem aE8{mg:Str->Option Value}{a:j8}(tx:Txt K mg a):bP P w K mg base hU 2 a.qJ a.qK ["_law_hand","_law_by","_law_longest"] (aE7 K):=by
 have aK:=cH (P:=P) (w:=w) (base:=base) tx
 refine tx.v8.ok dJ (λvs H Q E h=>?_) (λcdv A outer s H vs Q E hr h=>?_)
 ·obtain⟨p,b,x,y,n,rfl,_⟩:=h
  rfl
 ·obtain⟨p,b,x,y,n,rfl ,hh,hb,x0,x1,y0,y1,n0,n1,k⟩:=h
  have hu:=kT hr
  refine bD (aD (aJ (i:=3) dJ.nd (aI bL aB (aE (aK) (hr.mono (by decide)) (by rfl) tx.aS tx.aP.kp tx.aR .nil aT (aA (Z.pv 0) (aA (Z.pv 2) aC)))))
   (aD (aJ (i:=4) dJ.nd (aI bL aB (aE (aK) (hr.mono (by decide)) (by rfl) tx.aS tx.aP.kp tx.aR .nil aT (aA (Z.pv 0) (aA (Z.pv 2) aC)))))
   (aD (aJ (i:=5) dJ.nd (zX (aI bN (aH (K':=K) (Z.pv 1) aB) (aE (aK) (hr.mono (by decide)) (by rfl) tx.aS tx.aP.kp tx.aR .nil aT (aA (Z.pv 0) (aA aB aC)))) (aI bN (aH (K':=K) (Z.pv 1) aB) (aE (aK) (hr.mono (by decide)) (by rfl) tx.aS tx.aP.kp tx.aR .nil aT (aA (Z.pv 0) (aA aB aC)))) (aI bN (aH (K':=K) (Z.pv 1) aB) (aE (aK) (hr.mono (by decide)) (by rfl) tx.aS tx.aP.kp tx.aR .nil aT (aA (Z.pv 0) (aA aB aC))))))
   (aD (aJ (i:=6) dJ.nd (aI bN (aH (K':=K) (Z.pv 1) aB) (aE (aK) (hr.mono (by decide)) (by rfl) tx.aS tx.aP.kp tx.aR .nil aT (aA (Z.pv 0) (aA aB aC)))))
   (aD (aJ (i:=7) dJ.nd aB)
   (aD (aJ (i:=8) dJ.nd (kZ aC))
   (aD (cD PassesOwn.never rfl (cN (by rfl) tx.dZ (aA (aE (aK) (hr.mono (by decide)) (by rfl) tx.aS tx.aP.kp tx.aR .nil aT (aA (Z.pv 0) (aA aB aC))) aC)) (aO (i:=9) dJ.nd) (aD (xQ (i:=7) dJ.nd rfl (Or.inl rfl) (aI bN (aH (K':=K) (Z.pv 1) aB) (aE (aK) (hr.mono (by decide)) (by rfl) tx.aS tx.aP.kp tx.aR .nil aT (aA (Z.pv 0) (aA aB aC)))) yW)
   (aG (lA (o7 (K':=K) (Z.pv 8) (aA (gL (aI bN (aH (K':=K) (Z.pv 1) aB) (aI bL aB (aE (aK) (hr.mono (by decide)) (by rfl) tx.aS tx.aP.kp tx.aR .nil aT (aA (Z.pv 0) (aA aB aC))))) (Z.pv 7)) aC))))))
   (aG (aM (aMB (Z.pv 3) (Z.pv 4) (aH (K':=K) (Z.pv 5) aB) (aH (K':=K) (Z.pv 5) aB) (aH (K':=K) (Z.pv 5) aB) (Z.pv 6) (Z.pv 8))))))))))) ?_
  have bp:b≠p:=hh.aGt hb (by simp)
  refine aV (σ:=[some (.ref p),some (.ref b),some (.int n),none,none,none,none,none,none,none]) rfl ?_
  walk_at "w"
  refine⟨p,_,rfl,hh,by omega,by omega,λr1 H1 a1 c1 h1 k1 _=>?_⟩
  have hb1:=k1 _ _ hb bp
  walk_at "w"
  refine⟨p,_,rfl,h1,by omega,by omega,λr2 H2 a2 c2 h2 k2 _=>?_⟩
  have hb2:=k2 _ _ hb1 bp
  walk_at "w"
  refine⟨p,_,rfl,h2,by omega,by omega,λr3 H3 a3 c3 h3 k3 _=>?_⟩
  have hb3:=k3 _ _ hb2 bp
  walk_at "w"
  refine⟨p,_,rfl,h3,by omega,by omega,λr4 H4 a4 c4 h4 k4 _=>?_⟩
  have hb4:=k4 _ _ hb3 bp
  walk_at "w"
  refine⟨p,_,rfl,h4,by omega,by omega,λr5 H5 a5 c5 h5 k5 _=>?_⟩
  have hb5:=k5 _ _ hb4 bp
  walk_at "w"
  intro l6 n6
  walk_at "w"
  have hb6:=aQ.new (o:=.lst [.int (y*r3),.int (y*r4),.int (y*r5)]) n6 _ _ hb5
  have h6:=h5.same (aQ.new (o:=.lst [.int (y*r3),.int (y*r4),.int (y*r5)]) n6)
  walk_at "w"
  refine⟨p,_,rfl,h6,by omega,by omega,λr7 H7 a7 c7 h7 k7 _=>?_⟩
  have hb7:=k7 _ _ hb6 bp
  have l6p:l6≠p:=λz=>by obtain⟨_,e⟩:=h5.isL;exact bG n6 e z.symm
  have e7:H7 l6=some (.lst [.int (y*r3),.int (y*r4),.int (y*r5)]):=k7 _ _ aL l6p
  have kk7:bM p H H7:=k1.trans (k2.trans (k3.trans (k4.trans (k5.trans ((aQ.new n6).keep.trans k7)))))
  have g3:0<=y*r3/\y*r3<=250000000000:=⟨Ri9 (by omega) (by omega),Rq9 (Qq9 (show r3<=5 by omega) (by omega)) (by omega)⟩
  have g4:0<=y*r4/\y*r4<=250000000000:=⟨Ri9 (by omega) (by omega),Rq9 (Qq9 (show r4<=5 by omega) (by omega)) (by omega)⟩
  have g5:0<=y*r5/\y*r5<=250000000000:=⟨Ri9 (by omega) (by omega),Rq9 (Qq9 (show r5<=5 by omega) (by omega)) (by omega)⟩
  have g7:0<=x*r7/\x*r7<=250000000000:=⟨Ri9 (by omega) (by omega),Rq9 (Qq9 (show r7<=5 by omega) (by omega)) (by omega)⟩
  walk_at "w"
  intro l8 n8
  walk_at "w"
  have h8:=h7.same (aQ.new (o:=.lst []) n8)
  walk_at "w"
  refine⟨p,_,rfl,h8,by omega,by omega,λr9 H9 a9 c9 h9 k9 _=>?_⟩
  have l8p:l8≠p:=λz=>by obtain⟨_,e⟩:=h7.isL;exact bG n8 e z.symm
  have e9:H9 l8=some (.lst []):=k9 _ _ aL l8p
  have hb9:=k9 _ _ (aQ.new n8 _ _ hb7) bp
  have e69:H9 l6=some (.lst [.int (y*r3),.int (y*r4),.int (y*r5)]):=k9 _ _ (aQ.new n8 _ _ e7) l6p
  have kk9:bM p H H9:=kk7.trans ((aQ.new n8).keep.trans k9)
  have n8H:H l8=none:=hJ kk7 h7 n8
  have n6H:H l6=none:=hJ (k1.trans (k2.trans (k3.trans (k4.trans k5)))) h5 n6
  walk_at "w"
  refine⟨by omega,by omega,?_⟩
  refine sF (λi σ' H'=>∃qs ps rate x9,σ'=[some (.ref p),some (.ref b),some (.int n),some (.int (1+r1)),some (.int (1+r2)),some (.ref l6),some (.int (x*r7)),some (.int rate),some (.ref l8),x9]/\H' l8=some (.lst (qs.map V.ref))/\xA H' qs ps/\ps.length=i/\PcW ps rate/\
    0<=rate/\rate<=(i:Int)*100000000000/\bE H' p/\bM p H H'/\H' b=some (.lst [.int x,.int y])/\H' l6=some (.lst [.int (y*r3),.int (y*r4),.int (y*r5)]))
   ⟨[],[],0,_,rfl,e9,⟨rfl,λj q t h=>by simp at h⟩,rfl,PcW.nil,by omega,by omega,h9,kk9,hb9,e69⟩
   (λi σ' H' hi ⟨qs,ps,rate,x9,e,f1,f2,f3,f4,f5,f6,f7,f8,f9,f0⟩=>?_) (λσ' H' ⟨qs,ps,rate,x9,e,f1,f2,f3,f4,f5,f6,f7,f8,f9,f0⟩=>?_)
  ·subst e
   have i4:i<=3:=by omega
   walk_at "w"
   refine aEH rfl ?_
   walk_at "w"
   refine⟨p,_,rfl,f7,by omega,by omega,λu1 J1 v1 w1 q1 t1 _=>?_⟩
   have g1:0<=y*u1/\y*u1<=100000000000:=⟨Ri9 (by omega) (by omega),Rq9 (Qq9 (show u1<=2 by omega) (by omega)) (by omega)⟩
   have l8q:l8≠p:=f7.aK9 f1
   have d1:=t1 _ _ f1 l8q
   have d2:=f2.keep f7.aJx t1
   have d3:=t1 _ _ f9 bp
   have d4:=t1 _ _ f0 l6p
   walk_at "w"
   refine y7 (bS.of d1) ?_
   walk_at "w"
   refine⟨p,_,rfl,q1,by omega,by omega,λu2 J2 v2 w2 q2 t2 _=>?_⟩
   have g2:x*1<=x*(1+u2)/\x*(1+u2)<=150000000000:=⟨Qq9 (show 1<=1+u2 by omega) (by omega),Rq9 (Qq9 (show 1+u2<=3 by omega) (by omega)) (by omega)⟩
   rw[Ta9] at g2
   have dd1:=t2 _ _ d1 l8q
   have dd2:=d2.keep q1.aJx t2
   have dd3:=t2 _ _ d3 bp
   have dd4:=t2 _ _ d4 l6p
   walk_at "w"
   intro T nT
   walk_at "w"
   refine aCp (xs:=qs.map V.ref) (aQ.new nT _ _ dd1) (yV (by rw[bZ,f2.len];omega:(qs.map V.ref).length < 1000) (cZ (by simp))) ?_
   walk_at "w"
   have hT8:T≠l8:=Ne.symm (bG nT dd1)
   have kz:bM l8 J2 (upd (upd J2 T (.tup [.int (x*(1+u2)),.int (rate+y*u1)])) l8 (.lst (qs.map V.ref ++ [.ref T]))):=(aQ.new nT).keep.trans bM.upd
   refine⟨qs ++ [T],ps ++ [(x*(1+u2),rate+y*u1)],_,_,rfl,?_,dd2.snoc dd1 kz (by rw[aU hT8,aL]),by rw[xX,f3];rfl,f4.snoc (by omega) (by omega) ⟨by omega,by omega⟩ ⟨by omega,by omega⟩,by omega,by omega,?_,λc o hc hcp=>?_,?_,?_⟩
   ·rw[aL,xY];rfl
   ·obtain⟨dd,cc,q,ms,hp,hq,hne,hqp⟩:=q2.ex
    refine⟨⟨dd,cc,q,ms,kz _ _ hp (Ne.symm l8q),kz _ _ hq (λz=>?_),hne,hqp⟩⟩
    rw[z,dd1] at hq
    cases qs with
    |nil=>cases ms with
     |nil=>exact hne rfl
     |cons _ _=>cases hq
    |cons _ _=>cases ms with
     |nil=>exact hne rfl
     |cons _ _=>cases hq
   ·exact kz _ _ (t2 _ _ (t1 _ _ (f8 _ _ hc hcp) hcp) hcp) (bG n8H hc)
   ·exact kz _ _ dd3 (λz=>by rw[z,dd1] at dd3;cases qs with
     |nil=>cases dd3
     |cons _ _=>cases dd3)
   ·exact kz _ _ dd4 (λz=>by rw[z,dd1] at dd4;cases qs with
     |nil=>cases dd4
     |cons _ _=>cases dd4)
  ·subst e
   walk_at "w"
   intro s ns
   walk_at "w"
   have hr9:r9.toNat<=4:=by omega
   refine k s ⟨1+r1,1+r2,y*r3,y*r4,y*r5,x*r7,ps⟩ _ ⟨l8,aL,qs,aQ.new ns _ _ f1,f2.same (aQ.new ns)⟩ ⟨⟨by show 1<=1+r1;omega,by show 1+r1<=12;omega⟩,⟨by show 1<=1+r2;omega,by show 1+r2<=12;omega⟩,⟨g3.1,by show y*r3<=_;omega⟩,⟨g4.1,by show y*r4<=_;omega⟩,⟨g5.1,by show y*r5<=_;omega⟩,⟨g7.1,by show x*r7<=_;omega⟩,⟨by show ps.length<=4;omega,f4.pc,f4.up⟩⟩ (by show 1+r1<=n;omega) (by show 1+r2<=n;omega) (f7.same (aQ.new ns)) (f8.trans (aQ.new ns).keep) (hJ f8 f7 ns)
def aBO(K:W.Frag)(C:Addr):Sp:=λvs H Q _=>∃(s:Addr) (m:MS),vs=[.ref s]/\dE H s m/\m.Good/\∀x H',cK C H' x m->aQ H H'->H x=none->Q (.ref x) H'
theorem aBP{mg:Str->Option Value}{a:j8}(tx:Txt K mg a):bP P w K mg base hU 7 a.kB a.kC ["_law_spec_here"] (aBO K a.bB):=by
 have aCV:=aBN (P:=P) (w:=w) (base:=base) tx
 refine tx.pC.ok aBK (λvs H Q E h=>?_) (λcdv A outer s H vs Q E hr h=>?_)
 ·obtain⟨s,m,rfl,_⟩:=h
  rfl
 ·obtain⟨s,m,rfl ,hs,hg,k⟩:=h
  have hu:=kT hr
  refine bD (aG (aM (vR tx.aEn (aCV) (hr.mono (by decide)) (by rfl) tx.aA4 tx.vZ .nil aT (aA (aH (K':=K) (Z.pv 0) aB) (aA (aH (K':=K) (Z.pv 0) aB) (aA (aH (K':=K) (Z.pv 0) aB) (aA (aH (K':=K) (Z.pv 0) aB) (aA (aH (K':=K) (Z.pv 0) aB) (aA (aH (K':=K) (Z.pv 0) aB) (aA (cF (rc:=pY K) kX (by rfl) tx.jK lR (aA (aH (K':=K) (Z.pv 0) aB) aC)) aC)))))))))) ?_
  obtain⟨pl,h1,h2⟩:=hs.ex
  obtain⟨qs,h3,h4⟩:=h2.ex
  refine aV (σ:=[some (.ref s)]) rfl ?_
  walk_at "w"
  refine sE (bS.of h3) ?_
  intro l n
  walk_at "w"
  intro x dx nx nd hd
  have sx:aQ H (upd (upd (upd H l (.lst (qs.map V.ref))) dx (.own x)) x (.ins a.bB dx [])):=λb o e=>by
   have e1:=aQ.new (o:=.lst (qs.map V.ref)) n _ _ e
   rw[aU (bG nx e1),aU (bG nd e1)]
   exact e1
  have lx:l≠x:=bG nx aL
  have ld:l≠dx:=bG nd aL
  refine⟨x,dx,l,m,rfl,aL,⟨qs,by rw[aU lx,aU ld,aL],h4.same sx⟩,hg,λH' hM kx=>⟨rfl,?_⟩⟩
  have nxH:H x=none:=(aQ.new n).free nx
  exact k x H' hM (λb o e=>kx _ _ (sx _ _ e) (bG nxH e)) nxH
theorem bE.aGu(hh:bE H p)(n:H c=none):c≠p:=λz=>by
 obtain⟨xs,e⟩:=hh.isL
 exact bG n e z.symm
def aE9:List (Int×Int)->Int
 |[]=>0
 |t::ps=>t.1+aE9 ps
def gn(p:Int):List (Int×Int)->Int
 |[]=>0
 |t::ps=>t.1*max (p - t.2) 0+gn p ps
def Up:List (Int×Int)->Prop
 |[]=>True
 |t::ps=>1<=t.1/\(∀u∈ps,t.2<=u.2)/\Up ps
theorem aLa{p:Int}:∀(a:List (Int×Int)) (t:Int×Int),gn p (a ++ [t])=gn p a+t.1*max (p - t.2) 0
 |[],t=>by show t.1*max (p - t.2) 0+0=0+t.1*max (p - t.2) 0;omega
 |u::a,t=>by
  show u.1*max (p - u.2) 0+gn p (a ++ [t])=u.1*max (p - u.2) 0+gn p a+t.1*max (p - t.2) 0
  rw[aLa a t];omega
theorem aLb:∀(ps:List (Int×Int)),List.sum (ps.filterMap λt=>some t.1)=aE9 ps
 |[]=>rfl
 |t::ps=>by
  rw[Sh9]
  show List.sum (t.1::_)=t.1+aE9 ps
  rw[Sr9,aLb ps]
theorem aLc{H:Hp}{qs:List Addr}{ps:List (Int×Int)}{g:TG}{R:List V->Hp->Prop}(f:Int×Int->Option Int)(h1:H pl=some (.lst (qs.map V.ref)))(h2:xA H qs ps)(hz:ps.length<=4)(hs:∀q t (N:V->Hp->Prop) (N':Hp->Prop),t∈ps->H q=some (.tup [.int t.1,.int t.2])->(∀y,f t=some y->N (.int y) H)->(f t=none->N' H)->g (.ref q) σ₀ H λσ2 H2=>tt σ2 H2 λb H3=>if b=true then te σ2 H3 λy H4=>N y H4 else N' H3)(hd:R ((ps.filterMap f).map V.int) H):rO (Itl K pl) σ₀ g tt te R H:=by
 have hql:qs.length<=4:=by rw[h2.len];exact hz
 refine jL (xs:=qs.map V.ref) (λi ys H'=>H'=H/\ys=((ps.take i).filterMap f).map V.int) ⟨rfl,by simp⟩ (cZ (by rw[bZ];omega)) (λi ys H' hi ⟨e1,e2⟩=>?_) (λi x ys H' hx ⟨e1,e2⟩=>?_) (λys H' ⟨e1,e2⟩=>?_)
 ·subst e1 e2
  refine⟨bS.of h1,?_⟩
  rw[bZ]
  exact Rn9 (List.length_filterMap_le ..) (by rw[Re9];omega)
 ·subst e1 e2
  rw[nK] at hx
  cases hq:qs[i]? with
  |none=>rw[hq] at hx;cases hx
  |some q=>
   rw[hq] at hx
   cases hx
   have li:i < ps.length:=by rw[<-h2.len];exact(uS.mp hq).1
   have ht:ps[i]?=some ps[i]:=fH li
   have e:=h2.at_ i q _ hq ht
   have hm:=Rt9 li
   generalize ps[i]=t at ht e hm
   refine hs q t (λy H4=>H4=H'/\((ps.take i).filterMap f).map V.int ++ [y]=((ps.take (i+1)).filterMap f).map V.int) (λH3=>H3=H'/\((ps.take i).filterMap f).map V.int=((ps.take (i+1)).filterMap f).map V.int) hm e (λy hy=>⟨rfl,?_⟩) (λhy=>⟨rfl,?_⟩)
   ·rw[Sb9,ht,List.filterMap_append,xY]
    simp[hy]
   ·rw[Sb9,ht,List.filterMap_append,xY]
    simp[hy]
 ·subst e1 e2
  rw[bZ,h2.len,Rc9]
  exact hd
def aBQ(K:W.Frag)(C:Addr):Sp:=λvs H Q _=>∃(x:Addr) (m:MS) (pr:Int),vs=[.ref x,.int pr]/\cK C H x m/\m.Good/\0<=pr/\pr<=1000000000001/\Q (.int (pr*m.least+gn pr m.pieces)) H
theorem aBR{mg:Str->Option Value}{a:j8}(tx:Txt K mg a):bP P w K mg base hU 1 a.kD a.kE ["self","price"] (aBQ K a.bB):=by
 refine tx.wB.ok fU (λvs H Q E h=>?_) (λcdv A outer s H vs Q E hr h=>?_)
 ·obtain⟨x,m,pr,rfl,_⟩:=h
  rfl
 ·obtain⟨x,m,pr,rfl ,hm,hg,p0,p1,k⟩:=h
  have hu:=kT hr
  refine bD (aD (aJ (i:=2) fU.nd (aI bN (Z.pv 1) (cI (K':=K) (Z.pv 0) rfl)))
   (aD (cD PassesOwn.never rfl (cC (K':=K) (cI (K':=K) (Z.pv 0) rfl)) (cP (K':=K) (n:=2) rfl (bA (aO (i:=3) fU.nd) (bA (aO (i:=4) fU.nd) cO))) (aG (xQ (i:=2) fU.nd rfl (Or.inl rfl) (aI bN (Z.pv 3) (aN (oQ rfl) (by rfl) tx.w9 aAT (aA (aI jW (Z.pv 1) (Z.pv 4)) (aA aB aC)))) yW)))
   (aG (aM (Z.pv 2))))) ?_
  obtain⟨dx,pl,hx,hp⟩:=hm.ex
  obtain⟨qs,h1,h2⟩:=hp.ex
  refine aV (σ:=[some (.ref x),some (.int pr),none,none,none]) rfl ?_
  walk_at "w"
  refine jE hx tx.cM tx.nB rfl ?_
  walk_at "w"
  refine jE hx tx.cM tx.lO rfl ?_
  refine pZ (bS.of h1) ?_
  refine aB8 (xs:=qs.map V.ref) (λi σ' H'=>H'=H/\∃y z,σ'=[some (.ref x),some (.int pr),some (.int (pr*m.least+gn pr (m.pieces.take i))),y,z]) ⟨rfl,_,_,by rw[show gn pr (m.pieces.take 0)=0 by simp[gn],Int.add_zero]⟩ (λi σ' H' hi ⟨e1,y,z,e⟩=>by subst e1;exact bS.of h1) (λi v σ' H' hv ⟨e1,y,z,e⟩=>?_) (λσ' H' ⟨e1,y,z,e⟩=>?_)
  ·subst e1 e
   rw[nK] at hv
   cases hq:qs[i]? with
   |none=>rw[hq] at hv;cases hv
   |some q=>
    rw[hq] at hv
    cases hv
    have li:i < m.pieces.length:=by rw[<-h2.len];exact(uS.mp hq).1
    have ht:m.pieces[i]?=some m.pieces[i]:=fH li
    have e:=h2.at_ i q _ hq ht
    obtain⟨z1,⟨z2,z3⟩,z4,z5⟩:=hg.pieces.pc _ (Rt9 li)
    generalize m.pieces[i]=t at ht e z1 z2 z3 z4 z5
    refine gK (mX.of e) rfl ?_
    walk_at "w"
    refine aEH rfl ?_
    walk_at "w"
    refine⟨rfl,some (.int t.1),some (.int t.2),?_⟩
    rw[Sb9,ht]
    show _=[some (V.ref x),some (V.int pr),some (V.int (pr*m.least+gn pr (m.pieces.take i ++ [t]))),_,_]
    rw[aLa,Int.add_assoc]
    rfl
  ·subst e1 e
   walk_at "w"
   rw[bZ,h2.len,Rc9]
   exact k
def aJq(K:W.Frag):Sp:=λvs H Q _=>∃(v:V) (t:Addr) (o d on:Int),vs=[v,.ref t,.int on]/\H t=some (.tup [.int o,.int d])/\Q (.bl (decide (o=on) || decide (d=0))) H
theorem xV{mg:Str->Option Value}{a:j8}(tx:Txt K mg a):bP P w K mg base hU 1 a.aAc a.aAd ["machine","state","on"] (aJq K):=by
 refine tx.sL.ok aJo (λvs H Q E h=>?_) (λcdv A outer s H vs Q E hr h=>?_)
 ·obtain⟨v,t,o,d,on,rfl,_⟩:=h
  rfl
 ·obtain⟨v,t,o,d,on,rfl ,ht,k⟩:=h
  have hu:=kT hr
  refine bD (aG (aM (aF5 (gQ (r:=mZ K) (dS hu) (aH (K':=K) (Z.pv 1) aB) (Z.pv 2) (bK _)) (kY (gQ (r:=mZ K) (dS hu) (aH (K':=K) (Z.pv 1) aB) aB (bK _)))))) ?_
  refine aV (σ:=[some v,some (.ref t),some (.int on)]) rfl ?_
  walk_at "w"
  refine cE (λh=>?_) (λh=>?_)
  ·rw[decide_eq_true h,Bool.true_or] at k
   exact k
  ·rw[decide_eq_false h,Bool.false_or] at k
   walk_at "w"
   exact k
def sS(m:MS)(o d on:Int):Int×Int:=if o=on then (on,max (d - 1) 0) else if on=1 then (1,m.up - 1) else (0,m.down - 1)
def aCW(K:W.Frag)(C:Addr):Sp:=λvs H Q _=>∃(q:Addr) (m:MS) (t:Addr) (o d on:Int),vs=[.ref q,.ref t,.int on]/\cK C H q m/\H t=some (.tup [.int o,.int d])/\(o=on\/d=0)/\
 ∀T H',aQ H H'->H T=none->H' T=some (.tup [.int (sS m o d on).1,.int (sS m o d on).2])->Q (.ref T) H'
theorem pS{mg:Str->Option Value}{a:j8}(tx:Txt K mg a):bP P w K mg base hU 2 a.lY a.lZ ["machine","state","on"] (aCW K a.bB):=by
 have pT:=xV (P:=P) (w:=w) (base:=base) tx
 refine tx.iS.ok aCG (λvs H Q E h=>?_) (λcdv A outer s H vs Q E hr h=>?_)
 ·obtain⟨q,m,t,o,d,on,rfl,_⟩:=h
  rfl
 ·obtain⟨q,m,t,o,d,on,rfl ,hm,ht,hmay,k⟩:=h
  have hu:=kT hr
  refine bD (aD (bH (fY (d9 (aE (pT) (hr.mono (by decide)) (by rfl) tx.wG tx.sL.kp tx.wD .nil aT (aA (Z.pv 0) (aA (Z.pv 1) (aA (Z.pv 2) aC)))))) (aG mT) bC)
   (aD (bH (aW (r:=mZ K) (dS hu) (aH (K':=K) (Z.pv 1) aB) (Z.pv 2) (bK _)) (aG (aM (gL (Z.pv 2) (aN (oQ rfl) (by rfl) tx.w9 aAT (aA (aI jW (aH (K':=K) (Z.pv 1) aB) aB) (aA aB aC)))))) bC)
   (aD (bH (aW (r:=mZ K) (dS hu) (Z.pv 2) aB (bK _)) (aG (aM (gL aB (aI jW (cI (K':=K) (Z.pv 0) rfl) aB)))) bC)
   (aG (aM (gL aB (aI jW (cI (K':=K) (Z.pv 0) rfl) aB))))))) ?_
  obtain⟨dx,pl,hq,_⟩:=hm.ex
  refine aV (σ:=[some (.ref q),some (.ref t),some (.int on)]) rfl ?_
  walk_at "w"
  refine⟨_,_,_,_,_,rfl,ht,?_⟩
  walk_at "w"
  rw[show(decide (o=on) || decide (d=0))=true by rcases hmay with h|h <;> simp[h]]
  walk_at "w"
  unfold sS at k
  refine cE (λh=>?_) (λh=>?_)
  ·rw[if_pos h] at k
   walk_at "w"
   intro T nT
   walk_at "w"
   exact k _ _ (aQ.new nT) nT aL
  ·rw[if_neg h] at k
   walk_at "w"
   refine cE (λh1=>?_) (λh1=>?_)
   ·rw[if_pos h1] at k
    walk_at "w"
    refine jE hq tx.cM tx.uI rfl ?_
    walk_at "w"
    intro T nT
    walk_at "w"
    exact k _ _ (aQ.new nT) nT aL
   ·rw[if_neg h1] at k
    walk_at "w"
    refine jE hq tx.cM tx.pO rfl ?_
    walk_at "w"
    intro T nT
    walk_at "w"
    exact k _ _ (aQ.new nT) nT aL
def Bit(o:Int):Prop:=o=0\/o=1
theorem aHI{m:MS}(hg:m.Good){o d on:Int}(ho:Bit on):Bit (sS m o d on).1/\0<=(sS m o d on).2:=by
 obtain⟨u0,u1⟩:=hg.up
 obtain⟨d0,d1⟩:=hg.down
 unfold sS
 split
 ·exact⟨ho,by show 0<=max (d - 1) 0;omega⟩
 ·split
  ·exact⟨.inr rfl,by show 0<=m.up - 1;omega⟩
  ·exact⟨.inl rfl,by show 0<=m.down - 1;omega⟩
theorem aFa{n j:Nat}(h:j < n):ixN n (j:Int)=some j:=by
 unfold ixN
 simp
 omega
def aDE(K:W.Frag):Sp:=λvs H Q _=>∃(p s:Addr) (m:MS),vs=[.ref p,.ref s]/\bE H p/\dE H s m/\m.Good/\
 ∀(t:Addr) (o d:Int) H',H' t=some (.tup [.int o,.int d])->((o=1/\0<=d/\d < m.up)\/(o=0/\0<=d/\d < 60))->bE H' p->bM p H H'->Q (.ref t) H'
theorem aDF{mg:Str->Option Value}{a:j8}(tx:Txt K mg a):bP P w K mg base hU 2 a.nR a.nS ["_law_hand","_law_spec_here"] (aDE K):=by
 have aK:=cH (P:=P) (w:=w) (base:=base) tx
 refine tx.tW.ok aDy (λvs H Q E h=>?_) (λcdv A outer s H vs Q E hr h=>?_)
 ·obtain⟨p,s,m,rfl,_⟩:=h
  rfl
 ·obtain⟨p,s,m,rfl ,hh,hs,hg,k⟩:=h
  have hu:=kT hr
  refine bD (aD (bH (aW (r:=mZ K) (dS hu) (aE (aK) (hr.mono (by decide)) (by rfl) tx.aS tx.aP.kp tx.aR .nil aT (aA (Z.pv 0) (aA aB aC))) aB (bK _)) (aG (aM (gL aB (aE (aK) (hr.mono (by decide)) (by rfl) tx.aS tx.aP.kp tx.aR .nil aT (aA (Z.pv 0) (aA (aH (K':=K) (Z.pv 1) aB) aC)))))) bC)
   (aD (bH (aW (r:=mZ K) (dS hu) (aE (aK) (hr.mono (by decide)) (by rfl) tx.aS tx.aP.kp tx.aR .nil aT (aA (Z.pv 0) (aA aB aC))) aB (bK _)) (aG (aM (gL aB (aE (aK) (hr.mono (by decide)) (by rfl) tx.aS tx.aP.kp tx.aR .nil aT (aA (Z.pv 0) (aA aB aC)))))) bC)
   (aG (aM (gL aB (aE (aK) (hr.mono (by decide)) (by rfl) tx.aS tx.aP.kp tx.aR .nil aT (aA (Z.pv 0) (aA (aH (K':=K) (Z.pv 1) aB) aC)))))))) ?_
  obtain⟨u0,u1⟩:=hg.up
  obtain⟨d0,d1⟩:=hg.down
  refine aV (σ:=[some (.ref p),some (.ref s)]) rfl ?_
  walk_at "w"
  refine⟨p,_,rfl,hh,by decide,by decide,λr1 H1 a1 b1 h1 k1 _=>?_⟩
  have hs1:=hs.keep hh k1
  obtain⟨pl,e1,_⟩:=hs1.ex
  walk_at "w"
  refine cE (λh=>?_) (λh=>?_)
  ·walk_at "w"
   refine⟨p,_,rfl,h1,by omega,by omega,λr2 H2 a2 b2 h2 k2 _=>?_⟩
   walk_at "w"
   intro T nT
   walk_at "w"
   exact k _ _ _ _ aL (.inl ⟨rfl,a2,b2⟩) (h2.same (aQ.new nT)) (k1.trans (k2.trans (aQ.new nT).keep))
  ·walk_at "w"
   refine⟨p,_,rfl,h1,by decide,by decide,λr2 H2 a2 b2 h2 k2 _=>?_⟩
   have hs2:=hs1.keep h1 k2
   obtain⟨pl2,e2,_⟩:=hs2.ex
   walk_at "w"
   refine cE (λh=>?_) (λh=>?_)
   ·walk_at "w"
    refine⟨p,_,rfl,h2,by decide,by decide,λr3 H3 a3 b3 h3 k3 _=>?_⟩
    walk_at "w"
    intro T nT
    walk_at "w"
    exact k _ _ _ _ aL (.inr ⟨rfl,a3,b3⟩) (h3.same (aQ.new nT)) (k1.trans (k2.trans (k3.trans (aQ.new nT).keep)))
   ·walk_at "w"
    refine⟨p,_,rfl,h2,by omega,by omega,λr3 H3 a3 b3 h3 k3 _=>?_⟩
    walk_at "w"
    intro T nT
    walk_at "w"
    exact k _ _ _ _ aL (.inr ⟨rfl,a3,by omega⟩) (h3.same (aQ.new nT)) (k1.trans (k2.trans (k3.trans (aQ.new nT).keep)))
structure RL{α:Type}(P:Addr->α->Prop)(as:List Addr)(xs:List α):Prop where
 len:as.length=xs.length
 at_:∀(j:Nat) a x,as[j]?=some a->xs[j]?=some x->P a x
theorem RL.nil{α:Type}{P:Addr->α->Prop}:RL P [] []:=⟨rfl,λj a x h=>by simp at h⟩
theorem RL.imp{α:Type}{P P':Addr->α->Prop}{as:List Addr}{xs:List α}(h:RL P as xs)(f:∀a x,P a x->P' a x):RL P' as xs:=⟨h.len,λj a x h1 h2=>f a x (h.at_ j a x h1 h2)⟩
theorem RL.snoc{α:Type}{P:Addr->α->Prop}{as:List Addr}{xs:List α}(h:RL P as xs){a:Addr}{x:α}(hp:P a x):RL P (as ++ [a]) (xs ++ [x]):=by
 refine⟨by rw[xX,xX,h.len];rfl,λj q u hq hu=>?_⟩
 by_cases hj:j < as.length
 ·rw[Qx9 hj] at hq
  rw[Qx9 (by rw[<-h.len];exact hj)] at hu
  exact h.at_ j q u hq hu
 ·have hj2:j < (as ++ [a]).length:=(uS.mp hq).1
  rw[xX,Rj9] at hj2
  have e:j=as.length:=by omega
  subst e
  rw[Qy9 (fJ _),Sv9] at hq
  rw[h.len,Qy9 (fJ _),Sv9] at hu
  cases hq
  cases hu
  exact hp
def SmV(H:Hp):Nat->V->V->Prop
 |0,_,_=>False
 |j+1,x,y=>(∃i,x=.int i/\y=.int i)\/(∃b,x=.bl b/\y=.bl b)\/(x=.non/\y=.non)\/(∃s,x=.str s/\y=.str s)\/
  ∃(p q:Addr) (xs ys:List V),x=.ref p/\y=.ref q/\((H p=some (.tup xs)/\H q=some (.tup ys))\/(H p=some (.lst xs)/\H q=some (.lst ys)))/\xs.length=ys.length/\ys.length<=1000000/\∀(i:Nat) u v,xs[i]?=some u->ys[i]?=some v->SmV H j u v
theorem SmV.int{j:Nat}(i:Int):SmV H (j+1) (.int i) (.int i):=.inl ⟨i,rfl,rfl⟩
def aA6(o:HO):Prop:=(∃(d c:Int) (q:Addr),o=.lst [.int d,.int c,.ref q])\/∃(C dx:Addr),o=.ins C dx []
def Tr(H H':Hp):Prop:=∀b o,H b=some o->¬aA6 o->H' b=some o
theorem Tr.trans(a:Tr H H1)(b:Tr H1 H2):Tr H H2:=λc o e n=>b c o (a c o e n) n
theorem _root_.L2.aQ.tr(s:aQ H H'):Tr H H':=λb o e _=>s b o e
theorem bE.tr(hh:bE H p)(k:bM p H H'):Tr H H':=λb o e n=>k b o e λz=>by
 obtain⟨d,c,q,ms,hp,_⟩:=hh.ex
 rw[z,hp] at e
 cases e
 exact n (.inl ⟨d,c,q,rfl⟩)
theorem aLd(hx:H x=some (.ins C dx []))(k:bM x H H'):Tr H H':=λb o e n=>k b o e λz=>by
 rw[z,hx] at e
 cases e
 exact n (.inr ⟨C,dx,rfl⟩)
def Tk(H H':Hp):Prop:=∀b xs,H b=some (.tup xs)->H' b=some (.tup xs)
theorem Tk.trans(a:Tk H H1)(b:Tk H1 H2):Tk H H2:=λc o e=>b c o (a c o e)
theorem aOW:¬aA6 (.tup xs):=λz=>by rcases z with ⟨_,_,_,e⟩|⟨_,_,e⟩ <;> cases e
theorem aHJ(h:fs≠[]):¬aA6 (.ins C dx fs):=λz=>by
 rcases z with ⟨_,_,_,e⟩|⟨_,_,e⟩
 ·cases e
 ·cases e;exact h rfl
theorem aCX{xs:List V}(h:xs.length≠3):¬aA6 (.lst xs):=λz=>by
 rcases z with ⟨_,_,_,e⟩|⟨_,_,e⟩
 ·cases e;exact h rfl
 ·cases e
theorem aAz{qs:List Addr}:¬aA6 (.lst (qs.map V.ref)):=λz=>by
 rcases z with ⟨_,_,_,e⟩|⟨_,_,e⟩
 ·cases qs with
  |nil=>cases e
  |cons x xs=>cases e
 ·cases e
theorem xW{ns:List Int}:¬aA6 (.lst (ns.map V.int)):=λz=>by
 rcases z with ⟨d,c,q,e⟩|⟨_,_,e⟩
 ·injection e with e
  have h:=congrArg (λl=>l[2]?) e
  replace h:(ns.map V.int)[2]?=some (.ref q):=h
  rw[nK] at h
  cases hq:ns[2]? with
  |none=>rw[hq] at h;cases h
  |some n=>rw[hq] at h;cases h
 ·cases e
theorem Tr.tk(s:Tr H H'):Tk H H':=λb xs e=>s b _ e aOW
theorem _root_.L2.aQ.tk(s:aQ H H'):Tk H H':=λb xs e=>s b _ e
def del(l:Addr)(H:Hp):Hp:=λb=>if b=l then none else H b
theorem zF{H:Hp}(n:b≠l):del l H b=H b:=by unfold del;rw[if_neg n]
theorem xC:aQ (del l H) H:=λb o e=>by
 unfold del at e
 split at e
 ·cases e
 ·exact e
theorem aEp:del l H l=none:=by unfold del;rw[if_pos rfl]
theorem mV(e:H b=some o)(n:b≠l):del l H b=some o:=by rw[zF n];exact e
theorem Tr.del(s:Tr H H'):Tr (del l H) (del l H'):=λb o e n=>by
 by_cases hb:b=l
 ·subst hb;rw[aEp] at e;cases e
 ·rw[zF hb] at e ⊢;exact s b o e n
theorem aIn:del l (upd H l o)=del l H:=by
 funext b
 by_cases hb:b=l
 ·subst hb;rw[aEp,aEp]
 ·rw[zF hb,zF hb,aU hb]
theorem xA.tr{ps:List (Int×Int)}(h:xA H qs ps)(s:Tk H H'):xA H' qs ps:=⟨h.len,λj q t h1 h2=>s _ _ (h.at_ j q t h1 h2)⟩
theorem yB.tr{ps:List (Int×Int)}(h:yB H p ps)(s:Tr H H'):yB H' p ps:=by
 obtain⟨qs,h1,h2⟩:=h.ex
 exact⟨qs,s _ _ h1 aAz,h2.tr s.tk⟩
theorem dE.tr(h:dE H p m)(s:Tr H H'):dE H' p m:=by
 obtain⟨pl,h1,h2⟩:=h.ex
 exact⟨pl,s _ _ h1 (aCX (by simp)),h2.tr s⟩
theorem cK.tr(h:cK C H p m)(s:Tr H H'):cK C H' p m:=by
 obtain⟨dx,pl,h1,h2⟩:=h.ex
 exact⟨dx,pl,s _ _ h1 (aHJ (by simp[mFs])),h2.tr s⟩
structure SS where
 cap:Int
 into:Int
 out:Int
 takes:Int
 gives:Int
structure SS.Good(s:SS):Prop where
 cap:0<=s.cap/\s.cap<=8
 into:0<=s.into/\s.into<=8
 out:0<=s.out/\s.out<=8
 takes:Am s.takes
 gives:Am s.gives
def Lv(s:SS)(l n:Int):Prop:=0<=n/\n<=s.cap/\l - s.out<=n/\n<=l+s.into
instance (s:SS) (l n:Int):Decidable (Lv s l n):=by unfold Lv;infer_instance
def dr(s:SS)(l n:Int):Int:=(if l < n then s.takes else s.gives)*(n - l)
theorem aCa{lo n:Int}{k:Nat}:n∈upL lo k↔lo<=n/\n < lo+(k:Int):=by
 unfold upL
 rw[sR]
 constructor
 ·rintro ⟨j,hj,rfl⟩
  have:=Rx9.mp hj
  omega
 ·rintro ⟨h1,h2⟩
  exact⟨(n - lo).toNat,Rx9.mpr (by omega),by omega⟩
theorem aMN(lo:Int)(k:Nat):(upL lo k).length=k:=by
 unfold upL
 rw[bZ,Tk9]
def sFs(s:SS):List (Str×V):=[("cap",.int s.cap),("into",.int s.into),("out",.int s.out),("takes",.int s.takes),("gives",.int s.gives)]
structure aFb(H:Hp)(a:Addr)(s:SS):Prop where
 at_:H a=some (.lst [.int s.cap,.int s.into,.int s.out,.int s.takes,.int s.gives])
structure fQ(C:Addr)(H:Hp)(x:Addr)(s:SS):Prop where
 ex:∃dx,H x=some (.ins C dx (sFs s))
theorem fQ.same(h:fQ C H a s)(e:aQ H H'):fQ C H' a s:=by
 obtain⟨dx,q⟩:=h.ex
 exact⟨dx,e _ _ q⟩
def aGv(K:W.Frag):Sp:=λvs H Q _=>∃(i:Int),vs=[.int i]/\0<=i/\i<=8/\Q (.bl true) H
theorem aGw{mg:Str->Option Value}{a:j8}(tx:Txt K mg a):bP P w K mg base hU 2 a.tK a.tL ["thing"] (aGv K):=by
 have pR:=xB (P:=P) (w:=w) (base:=base) tx
 refine tx.pD.ok aGl (λvs H Q E h=>?_) (λcdv A outer s H vs Q E hr h=>?_)
 ·obtain⟨i,rfl,_⟩:=h
  rfl
 ·obtain⟨i,rfl ,h1,h2,k⟩:=h
  have hu:=kT hr
  refine bD (aG (aM (oS (aE (pR) (hr.mono (by decide)) (by rfl) tx.tU tx.pB.kp tx.tT .nil aT (aA (Z.pv 0) aC)) (kY (vQ aCi aCi aB (Z.pv 0) (sW (n:=8) (by rfl) tx.gI)))))) ?_
  refine aV (σ:=[some (.int i)]) rfl ?_
  walk_at "w"
  refine⟨_,_,rfl,.int i,?_⟩
  walk_at "w"
  refine iW (λ_=>?_) (λh=>by simp at h)
  walk_at "w"
  refine cE (λ_=>?_) (λh=>absurd h1 h)
  walk_at "w"
  rw[decide_eq_true h2]
  exact k
def aDG(K:W.Frag)(C:Addr):Sp:=λvs H Q _=>∃(x dx:Addr) (s:SS),vs=[.ref x,.int s.cap,.int s.into,.int s.out,.int s.takes,.int s.gives]/\H x=some (.ins C dx [])/\s.Good/\
 ∀H',fQ C H' x s->bM x H H'->Q .non H'
theorem aDH{mg:Str->Option Value}{a:j8}(tx:Txt K mg a):bP P w K mg base hU 3 a.nU a.nV ["self","cap","into","out","takes","gives"] (aDG K a.bX):=by
 have cW:=oP (P:=P) (w:=w) (base:=base) tx
 have zG:=aGw (P:=P) (w:=w) (base:=base) tx
 refine tx.aAi.ok lS (λvs H Q E h=>?_) (λcdv A outer s H vs Q E hr h=>?_)
 ·obtain⟨x,dx,ss,rfl,_⟩:=h
  rfl
 ·obtain⟨x,dx,ss,rfl ,hx,hg,k⟩:=h
  have hu:=kT hr
  refine bD (aD (aJ (i:=6) lS.nd (zX (aE (zG) (hr.mono (by decide)) (by rfl) tx.tY tx.pD.kp tx.tX .nil aT (aA (Z.pv 1) aC)) (aE (zG) (hr.mono (by decide)) (by rfl) tx.tY tx.pD.kp tx.tX .nil aT (aA (Z.pv 2) aC)) (aE (zG) (hr.mono (by decide)) (by rfl) tx.tY tx.pD.kp tx.tX .nil aT (aA (Z.pv 3) aC))))
   (aD (cD PassesOwn.never rfl (mU (K':=K) (by rfl) tx.dO (aA (aI bL (Z.pv 6) (nM (aE (cW) (hr.mono (by decide)) (by rfl) tx.dN tx.dC.kp tx.dM .nil aT (aA (Z.pv 4) aC)) (aE (cW) (hr.mono (by decide)) (by rfl) tx.dN tx.dC.kp tx.dM .nil aT (aA (Z.pv 5) aC)))) aC)) (cP (K':=K) (n:=2) rfl (bA (aO (i:=7) lS.nd) (bA (aO (i:=8) lS.nd) cO))) (aG (bH (fY (d9 (Z.pv 8))) (aG mT) bC)))
   (aD (cJ (K':=K) (Z.pv 0) (Z.pv 1) rfl)
   (aD (cJ (K':=K) (Z.pv 0) (Z.pv 2) rfl)
   (aD (cJ (K':=K) (Z.pv 0) (Z.pv 3) rfl)
   (aD (cJ (K':=K) (Z.pv 0) (Z.pv 4) rfl)
   (aG (cJ (K':=K) (Z.pv 0) (Z.pv 5) rfl)))))))) ?_
  refine aV (σ:=[some (.ref x),some (.int ss.cap),some (.int ss.into),some (.int ss.out),some (.int ss.takes),some (.int ss.gives),none,none,none]) rfl ?_
  walk_at "w"
  refine⟨_,rfl,hg.cap.1,hg.cap.2,?_⟩
  walk_at "w"
  refine⟨_,rfl,hg.into.1,hg.into.2,?_⟩
  walk_at "w"
  refine⟨_,rfl,hg.out.1,hg.out.2,?_⟩
  walk_at "w"
  intro l1 n1
  walk_at "w"
  refine⟨_,_,rfl,.int _,?_⟩
  rw[uM hg.takes]
  walk_at "w"
  refine⟨_,_,rfl,.int _,?_⟩
  rw[uM hg.gives]
  walk_at "w"
  intro l2 n2
  walk_at "w"
  refine xM (xs:=[.bl true,.bl true,.bl true]) (zs:=[.bl true,.bl true]) (aQ.new n2 _ _ aL) aL (cZ (by simp)) ?_
  intro l3 n3
  have s3:aQ H (upd (upd (upd H l1 (.lst [.bl true,.bl true,.bl true])) l2 (.lst [.bl true,.bl true])) l3 (.lst ([.bl true,.bl true,.bl true] ++ [.bl true,.bl true]))):=((aQ.new n1).trans (aQ.new n2)).trans (aQ.new n3)
  have e3:(upd (upd (upd H l1 (.lst [.bl true,.bl true,.bl true])) l2 (.lst [.bl true,.bl true])) l3 (.lst ([.bl true,.bl true,.bl true] ++ [.bl true,.bl true]))) l3=some (.lst [.bl true,.bl true,.bl true,.bl true,.bl true]):=aL
  generalize upd (upd (upd H l1 (.lst [.bl true,.bl true,.bl true])) l2 (.lst [.bl true,.bl true])) l3 (.lst ([.bl true,.bl true,.bl true] ++ [.bl true,.bl true]))=H3 at s3 e3 ⊢
  walk_at "w"
  refine aF3 (bS.of e3) ?_
  refine zV (xs:=[.bl true,.bl true,.bl true,.bl true,.bl true]) (λi σ' H'=>∃y z,σ'=[some (.ref x),some (.int ss.cap),some (.int ss.into),some (.int ss.out),some (.int ss.takes),some (.int ss.gives),some (.ref l1),y,z]/\aQ H3 H')
   ⟨_,_,rfl,aQ.refl _⟩ (λi σ' H' hi ⟨y,z,e,s⟩=>bS.of (s _ _ e3)) (λi v σ' H' T hv ⟨y,z,e,s⟩ nT=>?_) (λσ' H' ⟨y,z,e,s⟩=>?_)
  ·subst e
   have ev:v=.bl true:=by
    have:=vD hv
    simpa using this
   subst ev
   refine gK (mX.of aL) rfl ?_
   walk_at "w"
   exact⟨_,_,rfl,s.trans (aQ.new nT)⟩
  ·subst e
   have sH:aQ H H':=s3.trans s
   have hx':=sH _ _ hx
   walk_at "w"
   refine jD (fs':=[("cap",.int ss.cap)]) hx' tx.jB tx.w5 (by simp) rfl ?_
   walk_at "w"
   refine jD (fs':=[("cap",.int ss.cap),("into",.int ss.into)]) aL tx.jB tx.uJ (by simp) rfl ?_
   rw[jV]
   walk_at "w"
   refine jD (fs':=[("cap",.int ss.cap),("into",.int ss.into),("out",.int ss.out)]) aL tx.jB tx.w6 (by simp) rfl ?_
   rw[jV]
   walk_at "w"
   refine jD (fs':=[("cap",.int ss.cap),("into",.int ss.into),("out",.int ss.out),("takes",.int ss.takes)]) aL tx.jB tx.rX (by simp) rfl ?_
   rw[jV]
   walk_at "w"
   refine jD (fs':=sFs ss) aL tx.jB tx.rY (by simp) rfl ?_
   rw[jV]
   walk_at "w"
   exact k _ ⟨dx,aL⟩ (sH.keep.trans bM.upd)
theorem aFb.tr(h:aFb H a s)(e:Tr H H'):aFb H' a s:=⟨e _ _ h.at_ (aCX (by simp))⟩
theorem fQ.tr(h:fQ C H a s)(e:Tr H H'):fQ C H' a s:=by
 obtain⟨dx,q⟩:=h.ex
 exact⟨dx,e _ _ q (aHJ (by simp[sFs]))⟩
def StA(H:Hp)(q:Addr)(t:Int×Int):Prop:=H q=some (.tup [.int t.1,.int t.2])
structure aIo(H:Hp)(t:Addr)(ss:List (Int×Int)):Prop where
 ex:∃qs,H t=some (.tup (qs.map V.ref))/\RL (StA H) qs ss
abbrev Ps:=List (Int×Int)×Int
structure aAA(H:Hp)(a:Addr)(P:Ps):Prop where
 ex:∃t,H a=some (.tup [.ref t,.int P.2])/\aIo H t P.1
structure Hr where
 ons:List Int
 outs:List Int
 lev:Int
structure aMO(H:Hp)(a:Addr)(h:Hr):Prop where
 ex:∃t u,H a=some (.tup [.ref t,.ref u,.int h.lev])/\H t=some (.tup (h.ons.map V.int))/\H u=some (.tup (h.outs.map V.int))
structure aHK(H:Hp)(a:Addr)(hs:List Hr):Prop where
 ex:∃qs,H a=some (.lst (qs.map V.ref))/\RL (aMO H) qs hs
structure aHL(H:Hp)(a:Addr)(hs:List Ps):Prop where
 ex:∃qs,H a=some (.lst (qs.map V.ref))/\RL (aAA H) qs hs
theorem aIo.tk{ss:List (Int×Int)}(h:aIo H t ss)(s:Tk H H'):aIo H' t ss:=by
 obtain⟨qs,h1,h2⟩:=h.ex
 exact⟨qs,s _ _ h1,h2.imp λa x z=>s _ _ z⟩
theorem aAA.tk(h:aAA H a P)(s:Tk H H'):aAA H' a P:=by
 obtain⟨t,h1,h2⟩:=h.ex
 exact⟨t,s _ _ h1,h2.tk s⟩
theorem aMO.tk(x:aMO H a h)(s:Tk H H'):aMO H' a h:=by
 obtain⟨t,u,h1,h2,h3⟩:=x.ex
 exact⟨t,u,s _ _ h1,s _ _ h2,s _ _ h3⟩
theorem aHK.tr{H H':Hp}{a:Addr}{hs:List Hr}(x:aHK H a hs)(s:Tr H H'):aHK H' a hs:=by
 obtain⟨qs,h1,h2⟩:=x.ex
 exact⟨qs,s _ _ h1 aAz,h2.imp λa x z=>z.tk s.tk⟩
theorem aHL.tr{H H':Hp}{a:Addr}{hs:List Ps}(x:aHL H a hs)(s:Tr H H'):aHL H' a hs:=by
 obtain⟨qs,h1,h2⟩:=x.ex
 exact⟨qs,s _ _ h1 aAz,h2.imp λa x z=>z.tk s.tk⟩
structure WS where
 specs:List MS
 store:Option SS
 lack:Int
 x:Int
 y:Int
 wide:Int
structure WS.Good(W:WS):Prop where
 specs:∀m∈W.specs,m.Good
 len:W.specs.length<=6
 store:∀s,W.store=some s->s.Good
 lack:Am W.lack
 x:1<=W.x/\W.x<=50000000000
 y:1<=W.y/\W.y<=50000000000
 wide:W.wide=0\/W.wide=1
structure uN(H:Hp)(l:Addr)(ms:List MS):Prop where
 ex:∃qs,H l=some (.lst (qs.map V.ref))/\RL (dE H) qs ms
structure rD(C:Addr)(H:Hp)(l:Addr)(ms:List MS):Prop where
 ex:∃qs,H l=some (.lst (qs.map V.ref))/\RL (cK C H) qs ms
def aHM(H:Hp)(v:V):Option SS->Prop
 |none=>v=.non
 |some s=>∃a,v=.ref a/\aFb H a s
def aJr(C:Addr)(H:Hp)(v:V):Option SS->Prop
 |none=>v=.non
 |some s=>∃a,v=.ref a/\fQ C H a s
theorem uN.tr(h:uN H l ms)(s:Tr H H'):uN H' l ms:=by
 obtain⟨qs,h1,h2⟩:=h.ex
 exact⟨qs,s _ _ h1 aAz,h2.imp λa x z=>z.tr s⟩
theorem rD.tr(h:rD C H l ms)(s:Tr H H'):rD C H' l ms:=by
 obtain⟨qs,h1,h2⟩:=h.ex
 exact⟨qs,s _ _ h1 aAz,h2.imp λa x z=>z.tr s⟩
theorem aHM.tr:∀{o:Option SS},aHM H v o->Tr H H'->aHM H' v o
 |none,h,_=>h
 |some s,⟨a,e,h⟩,t=>⟨a,e,h.tr t⟩
theorem aJr.tr:∀{o:Option SS},aJr C H v o->Tr H H'->aJr C H' v o
 |none,h,_=>h
 |some s,⟨a,e,h⟩,t=>⟨a,e,h.tr t⟩
structure rE(H:Hp)(a:Addr)(W:WS):Prop where
 ex:∃ls st b,H a=some (.lst [.ref ls,st,.int W.lack,.ref b,.int W.wide])/\uN H ls W.specs/\aHM H st W.store/\H b=some (.lst [.int W.x,.int W.y])
theorem rE.tr(h:rE H a W)(s:Tr H H'):rE H' a W:=by
 obtain⟨ls,st,b,h1,h2,h3,h4⟩:=h.ex
 exact⟨ls,st,b,s _ _ h1 (aCX (by simp)),h2.tr s,h3.tr s,s _ _ h4 (aCX (by simp))⟩
def wFs(lm:Addr)(st:V)(k:Int):List (Str×V):=[("machines",.ref lm),("store",st),("lack",.int k)]
structure rF(CW CM CS:Addr)(H:Hp)(w:Addr)(W:WS):Prop where
 ex:∃dx lm st,H w=some (.ins CW dx (wFs lm st W.lack))/\rD CM H lm W.specs/\aJr CS H st W.store
theorem rF.tr(h:rF CW CM CS H w W)(s:Tr H H'):rF CW CM CS H' w W:=by
 obtain⟨dx,lm,st,h1,h2,h3⟩:=h.ex
 exact⟨dx,lm,st,s _ _ h1 (aHJ (by simp[wFs])),h2.tr s,h3.tr s⟩
def VS(s:Int×Int):Prop:=Bit s.1/\0<=s.2
def aGx:List MS->List (Int×Int)->List Int->List (Int×Int)
 |m::ms,s::ss,o::os=>sS m s.1 s.2 o::aGx ms ss os
 |_,_,_=>[]
theorem aCY:∀{ms:List MS}{ss:List (Int×Int)}{os:List Int},ss.length=ms.length->os.length=ms.length->(aGx ms ss os).length=ms.length
 |[],_,_,_,_=>by simp[aGx]
 |m::ms,s::ss,o::os,h1,h2=>by
  show(sS m s.1 s.2 o::aGx ms ss os).length=_
  rw[Ra9,aCY (by simpa using h1) (by simpa using h2),Ra9]
 |_::_,[],_,h,_=>by cases h
 |_::_,_::_,[],_,h=>by cases h
theorem aGy:∀{ms:List MS}{ss:List (Int×Int)}{os:List Int}{j:Nat}{m:MS}{s:Int×Int}{o:Int},ms[j]?=some m->ss[j]?=some s->os[j]?=some o->(aGx ms ss os)[j]?=some (sS m s.1 s.2 o)
 |m::ms,s::ss,o::os,0,_,_,_,h1,h2,h3=>by cases h1;cases h2;cases h3;rfl
 |m::ms,s::ss,o::os,j+1,_,_,_,h1,h2,h3=>by
  show(aGx ms ss os)[j]?=_
  exact aGy h1 h2 h3
 |[],_,_,_,_,_,_,h,_,_=>by simp at h
 |_::_,[],_,_,_,_,_,_,h,_=>by simp at h
 |_::_,_::_,[],_,_,_,_,_,_,h=>by simp at h
def May(ss:List (Int×Int))(os:List Int):Prop:=∀(j:Nat) (s:Int×Int) (o:Int),ss[j]?=some s->os[j]?=some o->s.1=o\/s.2=0
def aBG(W:WS)(l:Int):Prop:=match W.store with|none=>l=0|some s=>0<=l/\l<=s.cap
def LvW(W:WS)(l n:Int):Prop:=match W.store with|none=>n=0|some s=>Lv s l n
structure aEq(W:WS)(P:Ps):Prop where
 len:P.1.length=W.specs.length
 vs:∀s∈P.1,VS s
 lev:aBG W P.2
def aPN(m:MS)(on out:Int):Prop:=(on=0->out=0)/\(on≠0->m.least<=out/\out<=m.least+aE9 m.pieces)
structure aFc(W:WS)(P:Ps)(h:Hr):Prop where
 ons:h.ons.length=W.specs.length
 outs:h.outs.length=W.specs.length
 bits:∀o∈h.ons,Bit o
 may:May P.1 h.ons
 out:∀(j:Nat) m on out,W.specs[j]?=some m->h.ons[j]?=some on->h.outs[j]?=some out->aPN m on out
 lev:LvW W P.2 h.lev
def nxt(W:WS)(P:Ps)(h:Hr):Ps:=(aGx W.specs P.1 h.ons,h.lev)
theorem LvW.ok{W:WS}{l n:Int}(h:LvW W l n):aBG W n:=by
 unfold LvW at h
 unfold aBG
 cases e:W.store with
 |none=>rw[e] at h;exact h
 |some s=>rw[e] at h;exact⟨h.1,h.2.1⟩
theorem aFc.nxt{W:WS}{P:Ps}{h:Hr}(g:W.Good)(p:aEq W P)(x:aFc W P h):aEq W (nxt W P h):=by
 refine⟨aCY p.len x.ons,λs hs=>?_,x.lev.ok⟩
 obtain⟨j,hj⟩:=Rh9 hs
 have hl:=aCY p.len x.ons
 have hj':j < W.specs.length:=by rw[<-hl];exact(uS.mp hj).1
 have g1:W.specs[j]?=some W.specs[j]:=fH hj'
 have g2:P.1[j]?=some (P.1[j]'(by rw[p.len];exact hj')):=fH _
 have g3:h.ons[j]?=some (h.ons[j]'(by rw[x.ons];exact hj')):=fH _
 replace hj:(aGx W.specs P.1 h.ons)[j]?=some s:=hj
 rw[aGy g1 g2 g3] at hj
 cases hj
 exact aHI (g.specs _ (Rt9 hj')) (x.bits _ (vD g3))
def xD(W:WS):Ps->List Hr->Prop
 |_,[]=>True
 |P,h::hs=>aFc W P h/\xD W (nxt W P h) hs
def aOX(W:WS):Ps->List Hr->Ps
 |P,[]=>P
 |P,h::hs=>aOX W (nxt W P h) hs
theorem xD.pos{W:WS}(g:W.Good):∀{P:Ps}{hs:List Hr},aEq W P->xD W P hs->aEq W (aOX W P hs)
 |_,[],p,_=>p
 |P,h::hs,p,x=>xD.pos (P:=nxt W P h) (hs:=hs) g (x.1.nxt g p) x.2
theorem xD.take:∀{P:Ps}{hs:List Hr}{i:Nat}{h:Hr},xD W P hs->hs[i]?=some h->xD W P (hs.take i)/\aFc W (aOX W P (hs.take i)) h
 |P,g::hs,0,h,x,e=>by cases e;exact⟨trivial,x.1⟩
 |P,g::hs,i+1,h,x,e=>by
  have:=xD.take (i:=i) (h:=h) x.2 e
  exact⟨⟨x.1,this.1⟩,this.2⟩
 |_,[],_,_,_,e=>by simp at e
theorem take_snoc{α:Type}{l:List α}{i:Nat}{x:α}(h:l[i]?=some x):l.take (i+1)=l.take i ++ [x]:=by
 rw[Sb9,h];rfl
theorem RL.get{α:Type}{P:Addr->α->Prop}{as:List Addr}{xs:List α}(h:RL P as xs){i:Nat}(hv:(as.map V.ref)[i]?=some v):∃a x,as[i]?=some a/\v=.ref a/\xs[i]?=some x/\P a x:=by
 rw[nK] at hv
 cases hq:as[i]? with
 |none=>rw[hq] at hv;cases hv
 |some a=>
  rw[hq] at hv
  cases hv
  have li:i < xs.length:=by rw[<-h.len];exact(uS.mp hq).1
  have hx:xs[i]?=some xs[i]:=fH li
  exact⟨a,xs[i],rfl,rfl,hx,h.at_ i a _ hq hx⟩
theorem RL.ix{α:Type}{P:Addr->α->Prop}{as:List Addr}{xs:List α}(h:RL P as xs){i:Nat}(hi:i < xs.length):∃a,as[i]?=some a/\P a xs[i]:=by
 have li:i < as.length:=by rw[h.len];exact hi
 have ha:as[i]?=some as[i]:=fH li
 exact⟨as[i],ha,h.at_ i _ _ ha (fH hi)⟩
theorem aMP{as:List Addr}{i:Nat}(h:as[i]?=some a):uT (as.map V.ref) (i:Int)=some (.ref a):=eQ (by rw[nK,h];rfl)
theorem aCb{ns:List Int}{i:Nat}(h:(ns.map V.int)[i]?=some x):∃n,ns[i]?=some n/\x=.int n:=by
 rw[nK] at h
 cases hq:ns[i]? with
 |none=>rw[hq] at h;cases h
 |some n=>rw[hq] at h;cases h;exact⟨n,rfl,rfl⟩
theorem zH(np:H p=none)(s:aQ H H1)(k:bM p H1 H2):aQ H H2:=λb o e=>k _ _ (s _ _ e) (bG np e)
theorem aCZ{H H1:Hp}{l p:Addr}{o:HO}(n:H l=none)(s:bM p H H1):bM p H (upd H1 l o):=λb u e z=>by rw[aU (bG n e)];exact s b u e z
theorem RL.take{α:Type}{P:Addr->α->Prop}{as:List Addr}{xs:List α}(h:RL P as xs)(i:Nat):RL P (as.take i) (xs.take i):=by
 refine⟨by rw[Re9,Re9,h.len],λj a x h1 h2=>?_⟩
 rw[List.getElem?_take] at h1 h2
 split at h1
 ·rename_i hj
  rw[if_pos hj] at h2
  exact h.at_ j a x h1 h2
 ·cases h1
def flt(m:MS):Int->Int->List Int->Nat->V
 |_,_,[],_=>.non
 |o,d,on::r,i=>if o=on\/d=0 then flt m (sS m o d on).1 (sS m o d on).2 r (i+1) else .int i
theorem aIp{ns:List Int}{i:Nat}{n:Int}(h:ns[i]?=some n):ns.drop i=n::ns.drop (i+1):=by
 obtain⟨hi,e⟩:=uS.mp h
 rw[List.drop_eq_getElem_cons hi,e]
def aFd(K:W.Frag)(C:Addr):Sp:=λvs H Q _=>∃(q:Addr) (m:MS) (t:Addr) (o d:Int) (p:Addr) (ns:List Int),vs=[.ref q,.ref t,.ref p]/\cK C H q m/\H t=some (.tup [.int o,.int d])/\H p=some (.lst (ns.map V.int))/\
 ∀H',aQ H H'->Q (flt m o d ns 0) H'
theorem aFe{mg:Str->Option Value}{a:j8}(tx:Txt K mg a):bP P w K mg base hU 3 a.qL a.qM ["machine","state","run"] (aFd K a.bB):=by
 have pT:=xV (P:=P) (w:=w) (base:=base) tx
 have iV:=pS (P:=P) (w:=w) (base:=base) tx
 refine tx.wH.ok nO (λvs H Q E h=>?_) (λcdv A outer s H vs Q E hr h=>?_)
 ·obtain⟨q,m,t,o,d,p,ns,rfl,_⟩:=h
  rfl
 ·obtain⟨q,m,t,o,d,p,ns,rfl ,hm,ht,hp,k⟩:=h
  have hu:=kT hr
  refine bD (aD (cD PassesOwn.never rfl (mU (K':=K) (by rfl) tx.dO (aA (Z.pv 2) aC)) (cP (K':=K) (n:=2) rfl (bA (aO (i:=3) nO.nd) (bA (aO (i:=4) nO.nd) cO))) (aD (bH (fY (d9 (aE (pT) (hr.mono (by decide)) (by rfl) tx.wG tx.sL.kp tx.wD .nil aT (aA (Z.pv 0) (aA (Z.pv 1) (aA (Z.pv 4) aC)))))) (aG (aM (Z.pv 3))) bC)
   (aG (aJ (i:=1) nO.nd (aE (iV) (hr.mono (by decide)) (by rfl) tx.mO tx.iS.kp tx.mN .nil aT (aA (Z.pv 0) (aA (Z.pv 1) (aA (Z.pv 4) aC))))))))
   (aG (aM hV))) ?_
  refine aV (σ:=[some (.ref q),some (.ref t),some (.ref p),none,none]) rfl ?_
  walk_at "w"
  refine aF3 (bS.of hp) ?_
  refine zV (xs:=ns.map V.int) (λi σ' H'=>∃t' o' d' x3 x4,σ'=[some (.ref q),some (.ref t'),some (.ref p),x3,x4]/\H' t'=some (.tup [.int o',.int d'])/\aQ H H'/\flt m o' d' (ns.drop i) i=flt m o d ns 0)
   ⟨t,o,d,_,_,rfl,ht,aQ.refl _,rfl⟩ (λi σ' H' hi ⟨t',o',d',x3,x4,e,h1,h2,h3⟩=>bS.of (h2 _ _ hp)) (λi x σ' H' T hx ⟨t',o',d',x3,x4,e,h1,h2,h3⟩ nT=>?_) (λσ' H' ⟨t',o',d',x3,x4,e,h1,h2,h3⟩=>?_)
  ·subst e
   rw[nK] at hx
   obtain⟨n,hn,rfl⟩ : ∃n,ns[i]?=some n/\x=.int n:=by
    cases hq:ns[i]? with
    |none=>rw[hq] at hx;cases hx
    |some n=>rw[hq] at hx;cases hx;exact⟨n,rfl,rfl⟩
   rw[aIp hn] at h3
   have sT:=aQ.new (o:=.tup [.int (i:Int),.int n]) nT
   refine gK (mX.of aL) rfl ?_
   walk_at "w"
   refine⟨_,_,_,_,_,rfl,sT _ _ h1,?_⟩
   walk_at "w"
   have h3':(if o'=n\/d'=0 then flt m (sS m o' d' n).1 (sS m o' d' n).2 (ns.drop (i+1)) (i+1) else .int i)=flt m o d ns 0:=h3
   by_cases hmay:o'=n\/d'=0
   ·rw[if_pos hmay] at h3'
    rw[show(decide (o'=n) || decide (d'=0))=true by rcases hmay with h|h <;> simp[h]]
    walk_at "w"
    refine⟨q,m,t',o',d',n,rfl,hm.same (h2.trans sT),sT _ _ h1,hmay,λT2 H2 s2 nT2 hT2=>?_⟩
    walk_at "w"
    exact⟨T2,_,_,_,_,rfl,hT2,(h2.trans sT).trans s2,h3'⟩
   ·rw[if_neg hmay] at h3'
    rw[show(decide (o'=n) || decide (d'=0))=false by simp only[not_or] at hmay;simp[hmay.1,hmay.2]]
    walk_at "w"
    rw[<-h3'] at k
    exact k _ (h2.trans sT)
  ·subst e
   rw[bZ,List.drop_length] at h3
   walk_at "w"
   have h3':V.non=flt m o d ns 0:=h3
   rw[h3']
   exact k _ h2
def bgs:Int->List Int->Nat->List Int
 |_,[],_=>[]
 |o,on::r,i=>(if on=1/\o=0 then [(i:Int)] else [])++bgs on r (i+1)
def aPO(m:MS)(o:Int)(ns:List Int):Int:=m.begin_*((bgs o ns 0).length:Int)+m.run*(ns.count 1:Nat)+m.rest*(ns.count 0:Nat)
def aBS(K:W.Frag)(C:Addr):Sp:=λvs H Q _=>∃(q:Addr) (m:MS) (t:Addr) (o d:Int) (p:Addr) (ns:List Int),vs=[.ref q,.ref t,.ref p]/\cK C H q m/\H t=some (.tup [.int o,.int d])/\H p=some (.lst (ns.map V.int))/\
 flt m o d ns 0=.non/\∀H',aQ H H'->Q .non H'
theorem aBT{mg:Str->Option Value}{a:j8}(tx:Txt K mg a):bP P w K mg base hU 4 a.kF a.kG ["machine","state","run"] (aBS K a.bB):=by
 have aGz:=aFe (P:=P) (w:=w) (base:=base) tx
 refine tx.pE.ok uU (λvs H Q E h=>?_) (λcdv A outer s H vs Q E hr h=>?_)
 ·obtain⟨q,m,t,o,d,p,ns,rfl,_⟩:=h
  rfl
 ·obtain⟨q,m,t,o,d,p,ns,rfl ,hm,ht,hp,hf,k⟩:=h
  have hu:=kT hr
  refine bD (aD (aJ (i:=3) uU.nd (aE (aGz) (hr.mono (by decide)) (by rfl) tx.aBu tx.wH.kp tx.aBt .nil aT (aA (Z.pv 0) (aA (Z.pv 1) (aA (Z.pv 2) aC)))))
   (aG (bH (aW xN (Z.pv 3) hV (bK _)) (aG mT) bC))) ?_
  refine aV (σ:=[some (.ref q),some (.ref t),some (.ref p),none]) rfl ?_
  walk_at "w"
  refine⟨q,m,t,o,d,p,ns,rfl,hm,ht,hp,λH1 s1=>?_⟩
  rw[hf]
  walk_at "w"
  exact k _ s1
def aDI(K:W.Frag)(C:Addr):Sp:=λvs H Q _=>∃(q:Addr) (m:MS) (t:Addr) (o d:Int) (p:Addr) (ns:List Int),vs=[.ref q,.ref t,.ref p]/\cK C H q m/\H t=some (.tup [.int o,.int d])/\H p=some (.lst (ns.map V.int))/\ns.length<=48/\
 flt m o d ns 0=.non/\∀c H',aQ H H'->H c=none->H' c=some (.lst ((bgs o ns 0).map V.int))->Q (.ref c) H'
theorem aDJ{mg:Str->Option Value}{a:j8}(tx:Txt K mg a):bP P w K mg base hU 5 a.nW a.nX ["machine","state","run"] (aDI K a.bB):=by
 have aC3:=aBT (P:=P) (w:=w) (base:=base) tx
 refine tx.tZ.ok gG (λvs H Q E h=>?_) (λcdv A outer s H vs Q E hr h=>?_)
 ·obtain⟨q,m,t,o,d,p,ns,rfl,_⟩:=h
  rfl
 ·obtain⟨q,m,t,o,d,p,ns,rfl ,hm,ht,hp,hl,hn,k1⟩:=h
  have hu:=kT hr
  refine bD (aD (lA (aE (aC3) (hr.mono (by decide)) (by rfl) tx.wJ tx.pE.kp tx.wI .nil aT (aA (Z.pv 0) (aA (Z.pv 1) (aA (Z.pv 2) aC)))))
   (aD (aJ (i:=3) gG.nd (kZ aC))
   (aD (aJ (i:=4) gG.nd (aH (K':=K) (Z.pv 1) aB))
   (aD (cD PassesOwn.never rfl (mU (K':=K) (by rfl) tx.dO (aA (Z.pv 2) aC)) (cP (K':=K) (n:=2) rfl (bA (aO (i:=5) gG.nd) (bA (aO (i:=6) gG.nd) cO))) (aD (bH (fS (jM (aW (r:=mZ K) (dS hu) (Z.pv 6) aB (bK _)) (gR (aW (r:=mZ K) (dS hu) (Z.pv 4) aB (bK _))))) (aG (lA (o7 (K':=K) (Z.pv 3) (aA (Z.pv 5) aC)))) bC)
   (aG (aJ (i:=4) gG.nd (Z.pv 6)))))
   (aG (aM (Z.pv 3))))))) ?_
  refine aV (σ:=[some (.ref q),some (.ref t),some (.ref p),none,none,none,none]) rfl ?_
  walk_at "w"
  refine⟨q,m,t,o,d,p,ns,rfl,hm,ht,hp,hn,λH1 s1=>?_⟩
  walk_at "w"
  intro c nc
  obtain⟨H2,i2,s2,g2⟩:=nw _ nc;rw[i2]
  have ht2:=(s1.trans s2) _ _ ht
  have hp2:=(s1.trans s2) _ _ hp
  have cp:c≠p:=λz=>by rw[z] at nc;exact bG nc (s1 _ _ hp) rfl
  walk_at "w"
  refine aF3 (bS.of hp2) ?_
  refine zV (xs:=ns.map V.int) (λi σ' H'=>∃(a':Int) (bs:List Int) (x5 x6:Option V),σ'=[some (.ref q),some (.ref t),some (.ref p),some (.ref c),some (.int a'),x5,x6]/\H' c=some (.lst (bs.map V.int))/\bs.length<=i/\bs++bgs a' (ns.drop i) i=bgs o ns 0/\aQ H1 H')
   ⟨o,[],_,_,rfl,g2,fJ _,rfl,s2⟩ (λi σ' H' hi ⟨a',bs,x5,x6,e,g,lb,eb,s'⟩=>bS.of (s' _ _ (s1 _ _ hp))) (λi x σ' H' T hx ⟨a',bs,x5,x6,e,g,lb,eb,s'⟩ nT=>?_) (λσ' H' ⟨a',bs,x5,x6,e,g,lb,eb,s'⟩=>?_)
  ·subst e
   rw[nK] at hx
   obtain⟨n,hn',rfl⟩:=Qr9.mp hx
   have hi:i < ns.length:=(uS.mp hn').1
   rw[aIp hn'] at eb
   obtain⟨H3,i3,s3,g3⟩:=nw (.tup [.int (i:Int),.int n]) nT;rw[i3]
   refine gK (mX.of g3) rfl ?_
   have g':=s3 _ _ g
   have eb':bs++((if n=1/\a'=0 then [(i:Int)] else [])++bgs n (ns.drop (i+1)) (i+1))=bgs o ns 0:=eb
   walk_at "w"
   refine cE (λh1=>?_) (λh1=>?_)
   ·walk_at "w"
    refine cE (λh2=>?_) (λh2=>?_)
    ·rw[if_pos ⟨h1,h2⟩,<-List.append_assoc] at eb'
     walk_at "w"
     refine y7 (bS.of g') ?_
     walk_at "w"
     refine aCp (xs:=bs.map V.int) g' (yV (by rw[bZ];omega:(bs.map V.int).length < 1000) (cZ (by simp))) ?_
     obtain⟨H4,i4,k4,g4⟩:=wr H3 c (.lst (bs.map V.int ++ [.int (i:Int)]));rw[i4]
     walk_at "w"
     exact⟨n,bs ++ [(i:Int)],_,_,rfl,by rw[g4,xY];rfl,by rw[xX];simp;exact lb,eb',λb o e=>k4 _ _ (s3 _ _ (s' _ _ e)) (bG nc e)⟩
    ·rw[if_neg (λz=>h2 z.2),List.nil_append] at eb'
     walk_at "w"
     exact⟨n,bs,_,_,rfl,g',by omega,eb',s'.trans s3⟩
   ·rw[if_neg (λz=>h1 z.1),List.nil_append] at eb'
    walk_at "w"
    exact⟨n,bs,_,_,rfl,g',by omega,eb',s'.trans s3⟩
  ·subst e
   rw[bZ,List.drop_length] at eb
   rw[show bs++bgs a' [] ns.length=bs from Sd9 bs] at eb
   walk_at "w"
   exact k1 c _ (s1.trans s') (s1.free nc) (by rw[<-eb];exact g)
def aGA(K:W.Frag)(C:Addr):Sp:=λvs H Q _=>∃(q:Addr) (m:MS) (t:Addr) (o d:Int) (p:Addr) (ns:List Int),vs=[.ref q,.ref t,.ref p]/\cK C H q m/\m.Good/\H t=some (.tup [.int o,.int d])/\H p=some (.lst (ns.map V.int))/\ns.length<=48/\
 flt m o d ns 0=.non/\∀H',aQ H H'->Q (.int (aPO m o ns)) H'
theorem aGB{mg:Str->Option Value}{a:j8}(tx:Txt K mg a):bP P w K mg base hU 6 a.tM a.tN ["machine","state","run"] (aGA K a.bB):=by
 have aFf:=aDJ (P:=P) (w:=w) (base:=base) tx
 refine tx.zB.ok aBn (λvs H Q E h=>?_) (λcdv A outer s H vs Q E hr h=>?_)
 ·obtain⟨q,m,t,o,d,p,ns,rfl,_⟩:=h
  rfl
 ·obtain⟨q,m,t,o,d,p,ns,rfl ,hm,hg,ht,hp,hl,hn,k1⟩:=h
  have hu:=kT hr
  refine bD (aD (aJ (i:=3) aBn.nd (aN (rc:=sD K) cL (by rfl) tx.iO gO (aA (aE (aFf) (hr.mono (by decide)) (by rfl) tx.aAl tx.tZ.kp tx.aAk .nil aT (aA (Z.pv 0) (aA (Z.pv 1) (aA (Z.pv 2) aC)))) aC)))
   (aG (aM (aI bL (aI bL (aI bN (cI (K':=K) (Z.pv 0) rfl) (Z.pv 3)) (aI bN (cI (K':=K) (Z.pv 0) rfl) (zZ (K':=K) (Z.pv 2) (aA aB aC)))) (aI bN (cI (K':=K) (Z.pv 0) rfl) (zZ (K':=K) (Z.pv 2) (aA aB aC))))))) ?_
  obtain⟨b0,b1⟩:=hg.begin_
  obtain⟨u0,u1⟩:=hg.run
  obtain⟨r0,r1⟩:=hg.rest
  refine aV (σ:=[some (.ref q),some (.ref t),some (.ref p),none]) rfl ?_
  walk_at "w"
  refine⟨q,m,t,o,d,p,ns,rfl,hm,ht,hp,hl,hn,λc H1 s1 nc gc=>?_⟩
  obtain⟨dx,pl,hq,_⟩:=(hm.same s1).ex
  have hp1:=s1 _ _ hp
  walk_at "w"
  refine jE hq tx.cM tx.m9 rfl ?_
  walk_at "w"
  refine jE hq tx.cM tx.rW rfl ?_
  walk_at "w"
  refine y7 (bS.of hp1) ?_
  walk_at "w"
  refine aF9 (bS.of hp1) ?_
  walk_at "w"
  refine jE hq tx.cM tx.pP rfl ?_
  walk_at "w"
  refine y7 (bS.of hp1) ?_
  walk_at "w"
  refine aF9 (bS.of hp1) ?_
  walk_at "w"
  rw[bZ]
  exact k1 _ s1
def Ok(m:MS):Int->Int->List Int->Prop
 |_,_,[]=>True
 |o,d,on::r=>(o=on\/d=0)/\Ok m (sS m o d on).1 (sS m o d on).2 r
def ed(m:MS):Int->Int->List Int->Int×Int
 |o,d,[]=>(o,d)
 |o,d,on::r=>ed m (sS m o d on).1 (sS m o d on).2 r
def St0(o d:Int):Prop:=Bit o/\0<=d/\d < 60
theorem St0.sS{m:MS}(g:m.Good){o d on:Int}(h:St0 o d)(b:Bit on):St0 (sS m o d on).1 (sS m o d on).2:=by
 obtain⟨h0,h1,h2⟩:=h
 refine⟨(aHI g b).1,(aHI g b).2,?_⟩
 have u:=g.up
 have v:=g.down
 unfold My.sS
 split
 ·show max (d - 1) 0 < 60;omega
 ·split
  ·show m.up - 1 < 60;omega
  ·show m.down - 1 < 60;omega
def tP(m:MS)(on:Int)(f:Int->Int->Int)(o d:Int):Int:=if o=on\/d=0 then f (sS m o d on).1 (sS m o d on).2 else 0
def tB(m:MS)(f:Int->Int->Int)(o d:Int):Int:=tP m 0 f o d+tP m 1 f o d
def one(_ _:Int):Int:=1
abbrev WP:=(Int×Int)×Int
def rZ(k:Int×Int):List Key:=[.inl k.1,.inl k.2]
def enc(ps:List WP):List (List Key×V):=ps.map λp=>(rZ p.1,V.int p.2)
theorem aAB{a b:Int×Int}(h:rZ a=rZ b):a=b:=by
 unfold rZ at h
 simp only[List.cons.injEq,Sum.inl.injEq,and_true] at h
 exact Prod.ext h.1 h.2
def yC(ps:List WP)(k:Int×Int):Option Int:=(ps.find? λp=>decide (p.1=k)).map (·.2)
def addW(ps:List WP)(k:Int×Int)(v:Int):List WP:=if ps.any (λp=>decide (p.1=k)) then ps.map (λp=>if p.1=k then (p.1,v) else p) else ps ++ [(k,v)]
theorem aMQ(ps:List WP)(k:Int×Int):sC (enc ps) (rZ k)=(yC ps k).map V.int:=by
 unfold sC yC enc
 induction ps with
 |nil=>rfl
 |cons p r ih=>
  by_cases h:p.1=k
  ·simp[h]
  ·have:rZ p.1≠rZ k:=λz=>h (aAB z)
   simp only[Rb9,Rv9,this,h,decide_false]
   exact ih
theorem aMR(ps:List WP)(k:Int×Int)(v:Int):putK (enc ps) (rZ k) (.int v)=enc (addW ps k v):=by
 unfold putK addW enc
 have e:((ps.map λp:WP=>(rZ p.1,V.int p.2)).any λkv=>decide (kv.1=rZ k))=ps.any λp=>decide (p.1=k):=by
  rw[List.any_map]
  congr 1
  funext p
  show decide (rZ p.1=rZ k)=decide (p.1=k)
  exact decide_eq_decide.mpr ⟨aAB,λz=>by rw[z]⟩
 rw[e]
 split
 ·rw[Rk9,Rk9]
  congr 1
  funext p
  show(if rZ p.1=rZ k then (rZ p.1,V.int v) else (rZ p.1,V.int p.2))=(rZ (if p.1=k then (p.1,v) else p).1,V.int (if p.1=k then (p.1,v) else p).2)
  by_cases h:p.1=k
  ·rw[if_pos h,if_pos (by rw[h])]
  ·rw[if_neg h,if_neg λz=>h (aAB z)]
 ·rw[xY]
  rfl
def wsum(f:Int->Int->Int)(ps:List WP):Int:=List.sum (ps.map λp=>p.2*f p.1.1 p.1.2)
theorem aEr(f:Int->Int->Int)(p:WP)(ps:List WP):wsum f (p::ps)=p.2*f p.1.1 p.1.2+wsum f ps:=rfl
theorem aLe(f:Int->Int->Int)(ps qs:List WP):wsum f (ps++qs)=wsum f ps+wsum f qs:=by
 unfold wsum
 rw[xY,List.sum_append]
theorem aMS{ps:List WP}{k:Int×Int}{c:Int}(nd:(ps.map (·.1)).Nodup):((addW ps k ((yC ps k).getD 0+c)).map (·.1)).Nodup/\(∀p∈addW ps k ((yC ps k).getD 0+c),p.1=k\/∃q∈ps,q.1=p.1)/\∀f,wsum f (addW ps k ((yC ps k).getD 0+c))=wsum f ps+c*f k.1 k.2:=by
 unfold addW
 by_cases h:ps.any (λp=>decide (p.1=k))=true
 ·rw[if_pos h]
  refine⟨?_,λp hp=>?_,λf=>?_⟩
  ·rw[Rk9]
   have e:((λp:WP=>p.1) ∘ λp:WP=>if p.1=k then (p.1,(yC ps k).getD 0+c) else p)=λp=>p.1:=by
    funext p
    show(if p.1=k then (p.1,(yC ps k).getD 0+c) else p).1=p.1
    split <;> rfl
   rw[e]
   exact nd
  ·obtain⟨q,hq,rfl⟩:=sR.mp hp
   refine .inr ⟨q,hq,?_⟩
   split <;> rfl
  ·have key:∀(qs:List WP),(qs.map (·.1)).Nodup->qs.any (λp=>decide (p.1=k))=true->∀v,(yC qs k).getD 0+c=v->wsum f (qs.map λp=>if p.1=k then (p.1,v) else p)=wsum f qs+c*f k.1 k.2:=by
    intro qs
    induction qs with
    |nil=>intro _ z;cases z
    |cons p r ih=>
     intro nd h v hv
     rw[Rb9,Rm9] at nd
     rw[Rb9,aEr,aEr]
     by_cases hp:p.1=k
     ·have hn:∀q∈r,¬q.1=k:=λq hq z=>nd.1 (sR.mpr ⟨q,hq,by rw[z,hp]⟩)
      have e1:(r.map λp=>if p.1=k then (p.1,v) else p)=r:=by
       conv=>rhs;rw[<-List.map_id r]
       exact Sj9 λq hq=>if_neg (hn q hq)
      have e2:yC (p::r) k=some p.2:=by unfold yC;simp[hp]
      rw[e2] at hv
      rw[e1,if_pos hp,<-hv,hp]
      show(p.2+c)*f k.1 k.2+wsum f r=_
      rw[Tw9]
      omega
     ·have h':r.any (λp=>decide (p.1=k))=true:=by simpa [hp] using h
      have e2:yC (p::r) k=yC r k:=by unfold yC;simp[hp]
      rw[e2] at hv
      rw[if_neg hp,ih nd.2 h' v hv]
      omega
   exact key ps nd h _ rfl
 ·have hn:yC ps k=none:=by
   unfold yC
   rw[Option.map_eq_none_iff,List.find?_eq_none]
   intro p hp z
   exact h (Ss9.mpr ⟨p,hp,z⟩)
  rw[if_neg h,hn]
  refine⟨?_,λp hp=>?_,λf=>?_⟩
  ·rw[xY,List.nodup_append]
   refine⟨nd,by simp,λa ha b hb=>?_⟩
   rw[Rb9,Te9,Qv9] at hb
   rintro rfl
   obtain⟨q,hq,e⟩:=sR.mp ha
   exact h (Ss9.mpr ⟨q,hq,by simpa using e.trans hb⟩)
  ·rcases Rd9.mp hp with z|z
   ·exact .inr ⟨p,z,rfl⟩
   ·rw[Qv9.mp z];exact .inl rfl
  ·rw[aLe]
   show _+((0+c)*f k.1 k.2+0)=_
   rw[Int.zero_add,Int.add_zero]
theorem aLf:∀(n:Nat) (l:List Nat),l.Nodup->(∀x∈l,x < n)->l.length<=n
 |0,l,_,h=>by
  cases l with
  |nil=>exact fJ _
  |cons x r=>exact absurd (h x (.head _)) (by omega)
 |n+1,l,nd,h=>by
  have:=aLf n (l.erase n) (nd.erase n) (λx hx=>by
   have h1:=(nd.mem_erase_iff.mp hx)
   have:=h x h1.2
   have:=h1.1
   omega)
  rw[List.length_erase] at this
  split at this <;> omega
structure aDK(ps:List WP):Prop where
 nd:(ps.map (·.1)).Nodup
 st:∀p∈ps,St0 p.1.1 p.1.2
theorem aDK.len{ps:List WP}(h:aDK ps):ps.length<=120:=by
 have:=aLf 120 ((ps.map (·.1)).map λk=>(k.1*60+k.2).toNat) (by
  rw[List.Nodup,Sx9]
  refine h.nd.imp_of_mem ?_
  intro a b ha hb hab z
  obtain⟨p,hp,rfl⟩:=sR.mp ha
  obtain⟨q,hq,rfl⟩:=sR.mp hb
  obtain⟨a1,a2,a3⟩:=h.st p hp
  obtain⟨b1,b2,b3⟩:=h.st q hq
  refine hab (Prod.ext ?_ ?_)
  ·rcases a1 with a1|a1 <;> rcases b1 with b1|b1 <;> rw[a1,b1] <;> rw[a1,b1] at z <;> omega
  ·rcases a1 with a1|a1 <;> rcases b1 with b1|b1 <;> rw[a1,b1] at z <;> omega) (λx hx=>by
  obtain⟨k,hk,rfl⟩:=sR.mp hx
  obtain⟨p,hp,rfl⟩:=sR.mp hk
  obtain⟨a1,a2,a3⟩:=h.st p hp
  rcases a1 with a1|a1 <;> rw[a1] <;> omega)
 simpa using this
theorem aDK.add(h:aDK ps){k:Int×Int}(hk:St0 k.1 k.2)(c:Int):aDK (addW ps k ((yC ps k).getD 0+c)):=by
 obtain⟨h1,h2,_⟩:=aMS (k:=k) (c:=c) h.nd
 refine⟨h1,λp hp=>?_⟩
 rcases h2 p hp with z|⟨q,hq,z⟩
 ·rw[z];exact hk
 ·rw[<-z];exact h.st q hq
section
variable{α:Type}
abbrev Wy(α:Type):=Int×α×Int
def bY(f:α->Int):List (Wy α)->Int
 |[]=>0
 |[w]=>w.2.2+f w.2.1
 |w::v::r=>min (w.2.2+f w.2.1) (bY f (v::r))
theorem iN(f:α->Int):∀{ws:List (Wy α)}{w:Wy α},w∈ws->bY f ws<=w.2.2+f w.2.1
 |[],_,h=>by cases h
 |[w],v,h=>by rw[Qv9.mp h];exact Tv9 _
 |w::v::r,u,h=>by
  show min _ _<=_
  rcases xJ.mp h with rfl|h
  ·omega
  ·have:=iN f h;omega
theorem fR(f:α->Int):∀{ws:List (Wy α)},ws≠[]->∃w∈ws,w.2.2+f w.2.1=bY f ws
 |[],h=>absurd rfl h
 |[w],_=>⟨w,.head _,rfl⟩
 |w::v::r,_=>by
  obtain⟨u,hu,e⟩:=fR f (ws:=v::r) (by simp)
  by_cases h:w.2.2+f w.2.1<=bY f (v::r)
  ·exact⟨w,.head _,by show _=min _ _;omega⟩
  ·exact⟨u,Qn9 _ hu,by show _=min _ _;omega⟩
theorem aJs{f:α->Int}{m:Int}(h1:∃w∈ws,w.2.2+f w.2.1=m)(h2:∀w∈ws,m<=w.2.2+f w.2.1):m=bY f ws:=by
 obtain⟨w,hw,e⟩:=h1
 have a:=iN f hw
 obtain⟨u,hu,e2⟩:=fR f (ws:=ws) (λz=>by rw[z] at hw;cases hw)
 have b:=h2 u hu
 omega
def wF(W:Nat->α->List (Wy α)):Nat->Nat->α->Int
 |0,_,_=>0
 |k+1,i,x=>bY (wF W k (i+1)) (W i x)
def nE(f:α->Int)(ws:List (Wy α)):Option (Wy α):=ws.find? λw=>decide (w.2.2+f w.2.1=bY f ws)
theorem aGC(f:α->Int){ws:List (Wy α)}(h:ws≠[]):∃w,nE f ws=some w/\w∈ws/\w.2.2+f w.2.1=bY f ws:=by
 obtain⟨u,hu,e⟩:=fR f h
 cases q:nE f ws with
 |none=>
  unfold nE at q
  rw[List.find?_eq_none] at q
  exact absurd (decide_eq_true e) (q u hu)
 |some w=>
  unfold nE at q
  exact⟨w,rfl,Sc9 q,of_decide_eq_true (List.find?_some (p:=λw:Wy α=>decide (w.2.2+f w.2.1=bY f ws)) q)⟩
def aAC(W:Nat->α->List (Wy α)):Nat->Nat->α->List Int
 |0,_,_=>[]
 |k+1,i,x=>match nE (wF W k (i+1)) (W i x) with
  |none=>[]
  |some w=>w.1::aAC W k (i+1) w.2.1
def aGD(W:Nat->α->List (Wy α)):Nat->α->List Int->Option Int
 |_,_,[]=>some 0
 |i,x,c::r=>match (W i x).find? λw=>decide (w.1=c) with
  |none=>none
  |some w=>(aGD W (i+1) w.2.1 r).map (w.2.2 + ·)
structure Lay(W:Nat->α->List (Wy α))(n:Nat)(L:Nat->α->Prop):Prop where
 ne:∀i x,i < n->L i x->W i x≠[]
 on:∀i x w,i < n->L i x->w∈W i x->L (i+1) w.2.1
theorem aNi{W:Nat->α->List (Wy α)}:∀{row:List Int}{i:Nat}{x:α}{v:Int},aGD W i x row=some v->wF W row.length i x<=v
 |[],_,_,v,h=>by cases h;exact Tv9 _
 |c::r,i,x,v,h=>by
  unfold aGD at h
  cases q:(W i x).find? λw=>decide (w.1=c) with
  |none=>rw[q] at h;cases h
  |some w=>
   rw[q] at h
   obtain⟨u,hu,rfl⟩:=Qr9.mp h
   have a:=aNi hu
   have b:=iN (wF W r.length (i+1)) (Sc9 q)
   show bY (wF W r.length (i+1)) (W i x)<=w.2.2+u
   omega
def aMT(ws:List (Wy α)):Prop:=ws.Pairwise λa b=>a.1 < b.1
theorem aEs{ws:List (Wy α)}(h:aMT ws){w:Wy α}(hw:w∈ws):(ws.find? λv=>decide (v.1=w.1))=some w:=by
 induction ws with
 |nil=>cases hw
 |cons a r ih=>
  obtain⟨h1,h2⟩:=List.pairwise_cons.mp h
  rw[Rv9]
  rcases xJ.mp hw with rfl|hw
  ·simp
  ·have:=h1 w hw
   rw[decide_eq_false (by omega)]
   exact ih h2 hw
theorem aIq{W:Nat->α->List (Wy α)}{n:Nat}{L:Nat->α->Prop}(hl:Lay W n L)(hr:∀i x,aMT (W i x)):∀(k i:Nat) (x:α),i+k<=n->L i x->aGD W i x (aAC W k i x)=some (wF W k i x)/\(aAC W k i x).length=k
 |0,_,_,_,_=>⟨rfl,rfl⟩
 |k+1,i,x,hk,hx=>by
  obtain⟨w,e1,e2,e3⟩:=aGC (wF W k (i+1)) (hl.ne i x (by omega) hx)
  obtain⟨h1,h2⟩:=aIq hl hr k (i+1) w.2.1 (by omega) (hl.on i x w (by omega) hx e2)
  have e:aAC W (k+1) i x=w.1::aAC W k (i+1) w.2.1:=by
   show(match nE (wF W k (i+1)) (W i x) with|none=>[]|some w=>w.1::aAC W k (i+1) w.2.1)=_
   rw[e1]
  rw[e]
  refine⟨?_,by rw[Ra9,h2]⟩
  unfold aGD
  rw[aEs (hr i x) e2]
  show Option.map (w.2.2 + ·) (aGD W (i+1) w.2.1 (aAC W k (i+1) w.2.1))=_
  rw[h1]
  show some (w.2.2+wF W k (i+1) w.2.1)=some (bY (wF W k (i+1)) (W i x))
  rw[e3]
theorem aIr{β:Type}{p:β->Bool}:∀{l:List β}{j:Nat}{w:β},l[j]?=some w->(∀x∈l.take j,p x=false)->p w=true->l.find? p=some w
 |[],_,_,h,_,_=>by simp at h
 |a::r,0,w,h,_,hp=>by
  cases h
  rw[Rv9,hp]
 |a::r,j+1,w,h,hn,hp=>by
  rw[Rv9,hn a (by rw[List.take_succ_cons];exact .head _)]
  exact aIr (l:=r) (j:=j) h (λx hx=>hn x (by rw[List.take_succ_cons];exact Qn9 _ hx)) hp
end
inductive PK (α:Type) where
 |ik (f:α->Key) (inj:∀x y,f x=f y->x=y)
 |tk (f:α->List Key) (inj:∀x y,f x=f y->x=y)
def PK.pv{α:Type}:PK α->Hp->V->α->Prop
 |.ik f _,_,v,x=>v=kV (f x)
 |.tk f _,H,v,x=>∃b,v=.ref b/\H b=some (.tup ((f x).map kV))
def PK.da{α:Type}:PK α->Hp->Addr->List α->(α->Int)->Prop
 |.ik f _,H,d,ps,g=>H d=some (.dK (ps.map λx=>(f x,.int (g x))))
 |.tk f _,H,d,ps,g=>H d=some (.dT (ps.map λx=>(f x,.int (g x))))
section
variable{α:Type}{κ:PK α}{H H':Hp}{v:V}{x:α}{d:Addr}{ps:List α}{g g':α->Int}
theorem PK.rG(h:κ.pv H v x)(s:aQ H H'):κ.pv H' v x:=by
 cases κ with
 |ik f i=>exact h
 |tk f i=>obtain⟨b,e,hb⟩:=h;exact⟨b,e,s _ _ hb⟩
theorem PK.rH(h:κ.da H d ps g)(s:aQ H H'):κ.da H' d ps g:=by
 cases κ with
 |ik f i=>exact s _ _ h
 |tk f i=>exact s _ _ h
theorem vK{κ':Type}[DecidableEq κ']{f:α->κ'}(inj:∀x y,f x=f y->x=y){g:α->Int}:∀{ps:List α},x∈ps->sC (ps.map λx=>(f x,V.int (g x))) (f x)=some (.int (g x))
 |[],h=>by cases h
 |y::r,h=>by
  rw[Rb9]
  by_cases e:f y=f x
  ·rw[mS (show(f y,V.int (g y)).1=f x from e),inj _ _ e]
  ·rw[jX (show ¬(f y,V.int (g y)).1=f x from e)]
   rcases xJ.mp h with rfl|h
   ·exact absurd rfl e
   ·exact vK inj h
theorem aEt{κ':Type}[DecidableEq κ']{f:α->κ'}(inj:∀x y,f x=f y->x=y){g:α->Int}:∀{ps:List α},x∉ps->sC (ps.map λx=>(f x,V.int (g x))) (f x)=none
 |[],_=>rfl
 |y::r,h=>by
  rw[Rb9,jX (show ¬(f y,V.int (g y)).1=f x from λz=>h (by rw[inj _ _ z];exact .head _))]
  exact aEt inj λz=>h (Qn9 _ z)
theorem PK.get(h:κ.da H d ps g)(hv:κ.pv H v x)(hx:x∈ps):vM H d v (some (.int (g x))):=by
 cases κ with
 |ik f i=>
  have hv':v=kV (f x):=hv
  subst hv'
  have z:=vM.k (k:=f x) (show H d=some (.dK _) from h)
  rw[vK i hx] at z
  exact z
 |tk f i=>
  obtain⟨b,rfl,hb⟩:=hv
  have z:=vM.t (show H d=some (.dT _) from h) hb
  rw[vK i hx] at z
  exact z
theorem aCk{κ':Type}[DecidableEq κ']{f:α->κ'}(inj:∀x y,f x=f y->x=y){g:α->Int}{x:α}{ps:List α}(hx:x∉ps):putK (ps.map λx=>(f x,V.int (g x))) (f x) (.int (g x))=(ps ++ [x]).map λx=>(f x,V.int (g x)):=by
 unfold putK
 rw[zS,aEt inj hx,xY]
 rfl
theorem PK.put(h:κ.da H d ps g)(hv:κ.pv H v x)(hx:x∉ps)(hl:ps.length < 1000000):∃H',aCm H d v (.int (g x)) H'/\κ.da H' d (ps ++ [x]) g/\bM d H H':=by
 have lt:ps.length < sizeLine:=yV hl (cZ (by decide))
 cases κ with
 |ik f i=>
  have hv':v=kV (f x):=hv
  subst hv'
  refine⟨_,aCm.k (k:=f x) (show H d=some (.dK _) from h) (by rw[bZ];exact lt),?_,bM.upd⟩
  show upd H d _ d=_
  rw[aL,aCk i hx]
 |tk f i=>
  obtain⟨b,rfl,hb⟩:=hv
  refine⟨_,aCm.t (show H d=some (.dT _) from h) hb (by rw[bZ];exact lt),?_,bM.upd⟩
  show upd H d _ d=_
  rw[aL,aCk i hx]
theorem PK.new{Q:VK}(κ:PK α)(g:α->Int)(h:∀p H',H p=none->aQ H H'->κ.da H' p [] g->Q (.ref p) H'):aCE σ H Q:=by
 cases κ with
 |ik f i=>exact aJj λp np=>h p _ np (aQ.new np) aL
 |tk f i=>exact aEj λp np=>h p _ np (aQ.new np) aL
theorem PK.aLg(h:κ.da H d ps g)(e:H d=some (.lst xs)):False:=by
 cases κ with
 |ik f i=>have h':H d=some (.dK _):=h;rw[e] at h';cases h'
 |tk f i=>have h':H d=some (.dT _):=h;rw[e] at h';cases h'
def aAD(κ:PK α)(H:Hp)(a:Addr)(w:Wy α):Prop:=∃v,H a=some (.tup [.int w.1,v,.int w.2.2])/\κ.pv H v w.2.1
theorem aAD.same(h:aAD κ H a w)(s:aQ H H'):aAD κ H' a w:=let ⟨v,e,p⟩:=h;⟨v,s _ _ e,κ.rG p s⟩
structure uO(κ:PK α)(H:Hp)(l:Addr)(ws:List (Wy α)):Prop where
 ex:∃as,H l=some (.lst (as.map V.ref))/\RL (aAD κ H) as ws
theorem uO.same(h:uO κ H l ws)(s:aQ H H'):uO κ H' l ws:=let ⟨as,e,r⟩:=h.ex;⟨as,s _ _ e,r.imp λ_ _ z=>z.same s⟩
structure xE(κ:PK α)(C:Addr->Sp->Prop)(H:Hp)(f:Addr)(W:Nat->α->List (Wy α))(L:Nat->α->Prop):Prop where
 ex:∃spc,C f spc/\∀(H':Hp) (h:Nat) (v:V) (x:α) (Q:VK),aQ H H'->L h x->κ.pv H' v x->(∀l H'',aQ H' H''->uO κ H'' l (W h x)->Q (.ref l) H'')->spc [.int (h:Int),v] H' Q E0
theorem xE.same{C:Addr->Sp->Prop}{W:Nat->α->List (Wy α)}{L:Nat->α->Prop}(h:xE κ C H f W L)(s:aQ H H'):xE κ C H' f W L:=
 let ⟨spc,c,p⟩:=h.ex;⟨spc,c,λH2 a v x Q s2=>p H2 a v x Q (s.trans s2)⟩
def PVs(κ:PK α)(H:Hp)(vs:List V)(ps:List α):Prop:=vs.length=ps.length/\∀(i:Nat) v x,vs[i]?=some v->ps[i]?=some x->κ.pv H v x
theorem PVs.same(h:PVs κ H vs ps)(s:aQ H H'):PVs κ H' vs ps:=⟨h.1,λi v x h1 h2=>κ.rG (h.2 i v x h1 h2) s⟩
theorem PVs.get{vs:List V}(h:PVs κ H vs ps){i:Nat}(e:vs[i]?=some v):∃x,ps[i]?=some x/\κ.pv H v x:=by
 have li:i < ps.length:=by rw[<-h.1];exact(uS.mp e).1
 exact⟨_,fH li,h.2 i v _ e (fH li)⟩
end
theorem rJ{α:Type}{l:List α}{i:Nat}{x:α}(h:l[i]?=some x):l.take (i+1)=l.take i ++ [x]:=by rw[Sb9,h];rfl
theorem RL.gt{α:Type}{P:Addr->α->Prop}{as:List Addr}{xs:List α}(h:RL P as xs){i:Nat}(hv:(as.map V.ref)[i]?=some v):∃a x,as[i]?=some a/\v=.ref a/\xs[i]?=some x/\P a x:=by
 rw[nK] at hv
 obtain⟨a,e,rfl⟩:=Qr9.mp hv
 have li:i < xs.length:=by rw[<-h.len];exact(uS.mp e).1
 exact⟨a,xs[i],e,rfl,fH li,h.at_ i a _ e (fH li)⟩
def aGE(K:W.Frag):Sp:=λvs H Q _=>∃(α:Type) (κ:PK α) (l d:Addr) (ws:List (Wy α)) (ps:List α) (g:α->Int),vs=[.ref l,.ref d]/\uO κ H l ws/\κ.da H d ps g/\ws≠[]/\ws.length<=10000/\(∀w∈ws,w.2.1∈ps)/\
 ∀H',aQ H H'->Q (.int (bY g ws)) H'
theorem aBH{mg:Str->Option Value}{a:j8}(tx:Txt K mg a):bP P w K mg base hU 1 a.tO a.tQ ["ways","behind"] (aGE K):=by
 refine tx.uA.ok aGm (λvs H Q E h=>?_) (λcdv A outer s H vs Q E hr h=>?_)
 ·obtain⟨α,κ,l,d,ws,ps,g,rfl,_⟩:=h
  rfl
 ·obtain⟨α,κ,l,d,ws,ps,g,rfl ,hw,hd,hne,hlen,hin,k⟩:=h
  have hu:=kT hr
  refine bD (aG (aM (aN (rc:=aK1 K) (aJi rfl) (by rfl) tx.uZ y4 (aA (cY (k:=3) (idx:=[1]) (N:=["choice","later","worth","behind"]) (dA (sc:=aF jF) (NX:=["ways","behind"]) rfl rfl rfl (by decide +kernel)) rfl (cC (K':=K) (Z.pv 0)) (λ_ _ _ _=>(cP (K':=K) (n:=3) rfl (bA (aO (i:=0) (show(["choice","later","worth","behind"]:List Str).Nodup by decide +kernel)) (bA (aO (i:=1) (show(["choice","later","worth","behind"]:List Str).Nodup by decide +kernel)) (bA (aO (i:=2) (show(["choice","later","worth","behind"]:List Str).Nodup by decide +kernel)) cO))))) (zU (d8 (by decide) (d8 (by decide) (d8 (by decide) vP)))) (λ_ _ _ _=>cA) (λ_ _ _ _=>(aI bL (Z.pv 2) (qA hu (Z.pv 3) (Z.pv 1))))) aC)))) ?_
  obtain⟨as,gl,rl⟩:=hw.ex
  have las:=rl.len
  refine aV (σ:=[some (.ref l),some (.ref d)]) rfl ?_
  walk_at "w"
  refine pZ (bS.of gl) ?_
  refine jL (xs:=as.map V.ref) (λj us H'=>H'=H/\us=(((ws.take j).map λw=>w.2.2+g w.2.1).map V.int)) ⟨rfl,rfl⟩ (cZ (by rw[bZ];omega))
   (λj us H' hj ⟨e0,e1⟩=>⟨by rw[e0];exact bS.of gl,by rw[e1,bZ,bZ,Re9];omega⟩) (λj v us H' hv ⟨e0,e1⟩=>?_) (λus H' ⟨e0,e1⟩=>?_)
  ·subst e0
   obtain⟨a1,w,ea,rfl,ew,vv,g1,hp⟩:=rl.gt hv
   refine gK (mX.of g1) rfl ?_
   walk_at "w"
   refine⟨d,_,rfl,κ.get hd hp (hin w (vD ew)),?_⟩
   walk_at "w"
   refine⟨rfl,?_⟩
   rw[e1,rJ ew,xY,xY]
   rfl
  subst e0 e1
  rw[bZ,las,Rc9]
  intro l2 n2
  obtain⟨H2,i2,s2,g2⟩:=nw _ n2;rw[i2]
  walk_at "w"
  refine aMK (bS.of g2) (by simpa using hne) λm hm hle=>?_
  have e:m=bY g ws:=aJs (by
   obtain⟨w,hw,e⟩:=sR.mp hm
   exact⟨w,hw,e⟩) λw hw=>hle _ (sR.mpr ⟨w,hw,rfl⟩)
  rw[e]
  exact k H2 s2
def aBU(K:PySem.W.Frag)(C:Addr->Sp->Prop):Sp:=λvs H Q _=>∃(α:Type) (κ:PK α) (lp d f:Addr) (h:Nat) (us:List V) (ps bs:List α) (g:α->Int) (W:Nat->α->List (Wy α)) (L:Nat->α->Prop),vs=[.ref lp,.int (h:Int),.ref d,.ref f]/\
 H lp=some (.lst us)/\PVs κ H us ps/\ps.Nodup/\ps.length<=10000/\κ.da H d bs g/\xE κ C H f W L/\(∀x∈ps,L h x/\W h x≠[]/\(W h x).length<=10000/\∀w∈W h x,w.2.1∈bs)/\
 ∀q H',aQ H H'->H q=none->κ.da H' q ps (λx=>bY g (W h x))->Q (.ref q) H'
theorem aBV{P:Program}{w:World}{K:PySem.W.Frag}{mg:Str->Option Value}{base:Heap}{a:j8}(tx:Txt K mg a):bP P w K mg base hU 10 a.kH a.kI ["places","hour","behind","ways_at"] (aBU K (Clo P w K mg base (8+1))):=by
 have zI:=aBH (P:=P) (w:=w) (base:=base) tx
 refine tx.pF.ok m3 (λvs H Q E h=>?_) (λcdv A outer s H vs Q E hr h=>?_)
 ·obtain⟨α,κ,lp,d,f,h,us,ps,bs,g,W,L,rfl,_⟩:=h
  rfl
 ·obtain⟨α,κ,lp,d,f,h,us,ps,bs,g,W,L,rfl ,gl,hpv,hnd,hlen,hd,hW,hon,k⟩:=h
  have hu:=kT hr
  refine bD (aD (aJ (i:=4) m3.nd vV)
   (aD (cD PassesOwn.never rfl (cC (K':=K) (Z.pv 0)) (aO (i:=5) m3.nd) (aG (y8 hu (Z.pv 4) (Z.pv 5) (aE (zI) (hr.mono (by decide)) (by rfl) tx.zD tx.uA.kp tx.zC .nil aT (aA (aBm (P:=P) (w:=w) (K:=K) (mg:=mg) (base:=base) (i:=3) (k:=8+1) (hr.mono (by decide)) (aA (Z.pv 1) (aA (Z.pv 5) aC))) (aA (Z.pv 2) aC))))))
   (aG (aM (Z.pv 4))))) ?_
  obtain⟨spc,hC,hp⟩:=hW.ex
  have lus:=hpv.1
  refine aV (σ:=[some (.ref lp),some (.int (h:Int)),some (.ref d),some (.ref f),none,none]) rfl ?_
  walk_at "w"
  refine κ.new (λx=>bY g (W h x)) λwd H1 nwd s1 dw=>?_
  walk_at "w"
  refine pZ (bS.of (s1 _ _ gl)) ?_
  refine aB8 (xs:=us) (λi σ' H'=>aQ H H'/\κ.da H' wd (ps.take i) (λx=>bY g (W h x))/\∃z,σ'=[some (.ref lp),some (.int (h:Int)),some (.ref d),some (.ref f),some (.ref wd),z]) ⟨s1,dw,_,rfl⟩
   (λi σ' H' hi ⟨s',_⟩=>bS.of (s' _ _ gl)) (λi v σ' H' hv ⟨s',dw',z,e⟩=>?_) (λσ' H' ⟨s',dw',z,e⟩=>?_)
  ·subst e
   obtain⟨x,ex,px⟩:=hpv.get hv
   obtain⟨o1,o2,o3,o4⟩:=hon x (vD ex)
   walk_at "w"
   refine aGi rfl hC ?_
   walk_at "w"
   refine hp H' h v x _ s' o1 (κ.rG px s') λl H2 s2 hws=>?_
   have s02:=s'.trans s2
   walk_at "w"
   refine⟨α,κ,l,d,W h x,bs,g,rfl,hws,κ.rH hd s02,o2,o3,o4,λH3 s3=>?_⟩
   have s03:=s02.trans s3
   walk_at "w"
   have nx:x∉ps.take i:=λz=>by
    have hi:i < ps.length:=(uS.mp ex).1
    obtain⟨j,hj,ej⟩:=List.getElem_of_mem z
    rw[Re9] at hj
    rw[List.getElem_take] at ej
    have e2:ps[i]=x:=(uS.mp ex).2
    have:=(List.getElem_inj hnd).mp (ej.trans e2.symm)
    omega
   obtain⟨H4,p4,d4,k4⟩:=κ.put (κ.rH dw' (s2.trans s3)) (κ.rG px s03) nx (by rw[Re9];omega)
   refine⟨wd,H4,rfl,p4,?_⟩
   walk_at "w"
   refine⟨λb o e=>k4 _ _ (s03 _ _ e) (bG nwd e),?_,_,rfl⟩
   rw[rJ ex]
   exact d4
  ·subst e
   walk_at "w"
   rw[lus,Rc9] at dw'
   exact k wd H' s' nwd dw'
structure aGF{α:Type}(κ:PK α)(H:Hp)(a:Addr)(Ls:List (List α)):Prop where
 ex:∃as,H a=some (.lst (as.map V.ref))/\RL (λb ps=>∃us,H b=some (.lst us)/\PVs κ H us ps) as Ls
theorem aGF.same{α:Type}{κ:PK α}{Ls:List (List α)}(h:aGF κ H a Ls)(s:aQ H H'):aGF κ H' a Ls:=
 let ⟨as,e,r⟩:=h.ex;⟨as,s _ _ e,r.imp λ_ _ ⟨us,e,p⟩=>⟨us,s _ _ e,p.same s⟩⟩
structure aHN{α:Type}(κ:PK α)(H:Hp)(a:Addr)(Ls:List (List α))(F:Nat->α->Int):Prop where
 ex:∃ds:List Addr,H a=some (.lst (ds.map V.ref))/\ds.length=Ls.length/\∀(i:Nat) d ps,ds[i]?=some d->Ls[i]?=some ps->κ.da H d ps (F i)
theorem aHN.same{α:Type}{κ:PK α}{H H':Hp}{a:Addr}{Ls:List (List α)}{F:Nat->α->Int}(h:aHN κ H a Ls F)(s:aQ H H'):aHN κ H' a Ls F:=
 let ⟨ds,e,l,r⟩:=h.ex;⟨ds,s _ _ e,l,λi d ps h1 h2=>κ.rH (r i d ps h1 h2) s⟩
structure aIs{α:Type}(W:Nat->α->List (Wy α))(Ls:List (List α)):Prop where
 pos:0 < Ls.length
 nd:∀ps∈Ls,ps.Nodup
 few:∀ps∈Ls,ps.length<=10000
 ne:∀(i:Nat) ps x,Ls[i]?=some ps->i+1 < Ls.length->x∈ps->W i x≠[]/\(W i x).length<=10000
 on:∀(i:Nat) ps qs x w,Ls[i]?=some ps->Ls[i+1]?=some qs->x∈ps->w∈W i x->w.2.1∈qs
theorem aFQ{xs:List V}(h:0 < xs.length):uT xs (-1)=xs[xs.length - 1]?:=by
 have e:ixN xs.length (-1)=some (xs.length - 1):=by
  unfold ixN
  rw[if_neg (by omega),if_pos (by omega)]
  congr 1
  omega
 unfold uT
 rw[e]
 rfl
theorem PK.aIt{α:Type}{κ:PK α}{H H':Hp}{d p:Addr}{ps:List α}{g:α->Int}(h:κ.da H d ps g)(n:d≠p)(k:bM p H H'):κ.da H' d ps g:=by
 cases κ with
 |ik f i=>exact k _ _ h n
 |tk f i=>exact k _ _ h n
theorem PK.aFg{α:Type}{κ:PK α}{H H':Hp}{v:V}{x:α}{p:Addr}{xs:List V}(h:κ.pv H v x)(gp:H p=some (.lst xs))(k:bM p H H'):κ.pv H' v x:=by
 cases κ with
 |ik f i=>exact h
 |tk f i=>
  obtain⟨b,e,hb⟩:=h
  exact⟨b,e,k _ _ hb λz=>by rw[z,gp] at hb;cases hb⟩
theorem aC4{as:List Addr}{i:Nat}(h:as[i]?=some a):(as.map V.ref)[i]?=some (.ref a):=by rw[nK,h];rfl
def kQ(K:PySem.W.Frag)(C:Addr->Sp->Prop):Sp:=λvs H Q _=>∃(α:Type) (κ:PK α) (la f:Addr) (Ls:List (List α)) (W:Nat->α->List (Wy α)) (L:Nat->α->Prop),vs=[.ref la,.ref f]/\aGF κ H la Ls/\aIs W Ls/\Ls.length<=10000/\xE κ C H f W L/\
 (∀(i:Nat) ps x,Ls[i]?=some ps->i+1 < Ls.length->x∈ps->L i x)/\∀q H',aQ H H'->H q=none->aHN κ H' q Ls (λi=>wF W (Ls.length - 1 - i) i)->Q (.ref q) H'
theorem rK{P:Program}{w:World}{K:PySem.W.Frag}{mg:Str->Option Value}{base:Heap}{a:j8}(tx:Txt K mg a):bP P w K mg base hU 11 a.iG a.iH ["layers","ways_at"] (kQ K (Clo P w K mg base (8+1))):=by
 have aC5:=aBV (P:=P) (w:=w) (base:=base) tx
 refine tx.iM.ok dF (λvs H Q E h=>?_) (λcdv A outer s H vs Q E hr h=>?_)
 ·obtain⟨α,κ,la,f,Ls,W,L,rfl,_⟩:=h
  rfl
 ·obtain⟨α,κ,la,f,Ls,W,L,rfl ,hla,hok,hlen,hW,hL,k⟩:=h
  have hu:=kT hr
  refine bD (aD (aJ (i:=2) dF.nd vV)
   (aD (cD PassesOwn.never rfl (cC (K':=K) (aH (K':=K) (Z.pv 0) (o5 yX aB))) (aO (i:=3) dF.nd) (aG (y8 hu (Z.pv 2) (Z.pv 3) aB)))
   (aD (aJ (i:=4) dF.nd (xR (Z.pv 2)))
   (aD (cD PassesOwn.never rfl (aEV (by rfl) tx.dZ (aA (aI jW (aN (rc:=sD K) cL (by rfl) tx.iO gO (aA (Z.pv 0) aC)) aB) (aA (o5 yX aB) (aA (o5 yX aB) aC)))) (aO (i:=5) dF.nd) (aD (aJ (i:=2) dF.nd (aE (aC5) (hr.mono (by decide)) (by rfl) tx.wL tx.pF.kp tx.wK .nil aT (aA (aH (K':=K) (Z.pv 0) (Z.pv 5)) (aA (Z.pv 5) (aA (Z.pv 2) (aA (Z.pv 1) aC))))))
   (aG (lA (o7 (K':=K) (Z.pv 4) (aA (Z.pv 2) aC))))))
   (aG (aM (aDw rfl (by rfl) tx.jK (by rfl) tx.lQ (aA (Z.pv 4) aC)))))))) ?_
  obtain⟨as,ga,ra⟩:=hla.ex
  have las:=ra.len
  have pos:=hok.pos
  obtain⟨n,hn⟩ : ∃n,Ls.length=n+1:=⟨Ls.length - 1,by omega⟩
  have el:as[n]?=some as[n]:=fH (by omega)
  have ll:Ls[n]?=some Ls[n]:=fH (by omega)
  obtain⟨us,gu,pu⟩:=ra.at_ n _ _ el ll
  generalize as[n]=an at el gu
  generalize Ls[n]=pn at ll pu
  have lpn:=hok.few pn (vD ll)
  have ndn:=hok.nd pn (vD ll)
  have lus:=pu.1
  have ai:uT (as.map V.ref) (-1)=some (.ref an):=by
   rw[aFQ (by rw[bZ];omega),bZ,las,hn,Nat.add_sub_cancel]
   exact aC4 el
  refine aV (σ:=[some (.ref la),some (.ref f),none,none,none,none]) rfl ?_
  walk_at "w"
  refine κ.new (λ_=>0) λbd H1 nbd s1 db=>?_
  have ga1:=s1 _ _ ga
  walk_at "w"
  refine pZ (bS.of (s1 _ _ gu)) ?_
  refine aB8 (xs:=us) (λi σ' H'=>aQ H H'/\κ.da H' bd (pn.take i) (λ_=>0)/\∃z,σ'=[some (.ref la),some (.ref f),some (.ref bd),z,none,none]) ⟨s1,db,_,rfl⟩
   (λi σ' H' hi ⟨s',_⟩=>bS.of (s' _ _ gu)) (λi v σ' H' hv ⟨s',dw',z,e⟩=>?_) (λσ' H2 ⟨s2,d2,z,e⟩=>?_)
  ·subst e
   obtain⟨x,ex,px⟩:=pu.get hv
   walk_at "w"
   have nx:x∉pn.take i:=λz=>by
    obtain⟨j,hj,ej⟩:=List.getElem_of_mem z
    rw[Re9] at hj
    rw[List.getElem_take] at ej
    have e2:pn[i]'((uS.mp ex).1)=x:=(uS.mp ex).2
    have:=(List.getElem_inj ndn).mp (ej.trans e2.symm)
    omega
   obtain⟨H4,p4,d4,k4⟩:=κ.put dw' (κ.rG px s') nx (by rw[Re9];omega)
   refine⟨bd,H4,rfl,p4,?_⟩
   walk_at "w"
   refine⟨λb o e=>k4 _ _ (s' _ _ e) (bG nbd e),?_,_,rfl⟩
   rw[rJ ex]
   exact d4
  ·subst e
   rw[lus,Rc9] at d2
   have ga2:=s2 _ _ ga
   walk_at "w"
   intro lw nlw
   obtain⟨H3,i3,s3,g3⟩:=nw _ nlw;rw[i3]
   have s03:=s2.trans s3
   have ga3:=s03 _ _ ga
   have nlH:H lw=none:=s2.free nlw
   walk_at "w"
   refine⟨_,_,rfl,by rw[bZ,las];omega,?_⟩
   rw[show(((as.map V.ref).length:Int) - 2 - -1).toNat=n by rw[bZ,las,hn];omega]
   refine aML (n:=n) (λi σ' H'=>aQ H H'/\(∃ds:List Addr,H' lw=some (.lst (ds.map V.ref))/\ds.length=i+1/\(∃d,ds[i]?=some d/\σ'[2]?=some (some (.ref d)))/\∀(j:Nat) d ps,ds[j]?=some d->Ls[n - j]?=some ps->κ.da H' d ps (wF W j (n - j)))/\∃b z5,σ'=[some (.ref la),some (.ref f),some (.ref b),z,some (.ref lw),z5])
    ⟨s03,⟨[bd],g3,rfl,⟨bd,rfl,rfl⟩,λj d ps h1 h2=>?_⟩,_,_,rfl⟩ (λi σ' H' hi ⟨s',⟨ds,gd,ld,⟨d,ed,e2⟩,hd⟩,b,z5,e⟩=>?_) (λσ' H' ⟨s',⟨ds,gd,ld,⟨d,ed,e2⟩,hd⟩,b,z5,e⟩=>?_)
   ·match j,h1 with
    |0,h1=>
     cases h1
     rw[Nat.sub_zero,ll] at h2
     cases h2
     exact κ.rH d2 s3
    |j+1,h1=>simp at h1
   ·subst e
    have e2':some (some (V.ref b))=some (some (.ref d)):=e2
    cases e2'
    have hh:(((as.map V.ref).length:Int) - 2 - (i:Int))=((n - 1 - i:Nat):Int):=by rw[bZ,las,hn];omega
    rw[hh]
    have ea:as[n - 1 - i]?=some as[n - 1 - i]:=fH (by omega)
    have eL:Ls[n - 1 - i]?=some Ls[n - 1 - i]:=fH (by omega)
    have eL2:Ls[n - i]?=some Ls[n - i]:=fH (by omega)
    obtain⟨us',gu',pu'⟩:=ra.at_ _ _ _ ea eL
    generalize as[n - 1 - i]=ax at ea gu'
    generalize Ls[n - 1 - i]=px at eL pu'
    have db':=hd i d _ ed eL2
    generalize Ls[n - i]=qx at eL2 db'
    have ga':=s' _ _ ga
    have ix:uT (as.map V.ref) ((n - 1 - i:Nat):Int)=some (.ref ax):=eQ (aC4 ea)
    walk_at "w"
    have e1:n - 1 - i+1=n - i:=by omega
    refine⟨α,κ,ax,d,f,n - 1 - i,us',px,qx,wF W i (n - i),W,L,rfl,s' _ _ gu',pu'.same s',hok.nd px (vD eL),hok.few px (vD eL),db',hW.same s',λx hx=>?_,λq H4 s4 nq dq=>?_⟩
    ·obtain⟨n1,n2⟩:=hok.ne _ px x eL (by omega) hx
     exact⟨hL _ px x eL (by omega) hx,n1,n2,λw hw=>hok.on _ px qx x w eL (by rw[e1];exact eL2) hx hw⟩
    have gd4:=s4 _ _ gd
    walk_at "w"
    refine y7 (bS.of gd4) ?_
    walk_at "w"
    refine aCp (xs:=ds.map V.ref) gd4 (yV (by rw[bZ];omega:(ds.map V.ref).length < 20000) (cZ (by decide))) ?_
    obtain⟨H5,i5,k5,g5⟩:=wr H4 lw _;rw[i5]
    walk_at "w"
    refine⟨λb o e=>k5 _ _ (s4 _ _ (s' _ _ e)) (bG nlH e),⟨ds ++ [q],by rw[g5,xY];rfl,by rw[xX,ld];rfl,⟨q,by rw[Qy9 (by omega),ld,Sv9];rfl,rfl⟩,λj d ps h1 h2=>?_⟩,_,_,rfl⟩
    by_cases hj:j < i+1
    ·rw[Qx9 (by omega)] at h1
     have z:=κ.rH (hd j d ps h1 h2) s4
     exact κ.aIt z (λy=>κ.aLg z (by rw[y];exact gd4)) k5
    ·have hj2:j < (ds ++ [q]).length:=(uS.mp h1).1
     rw[xX,Rj9] at hj2
     obtain rfl:j=i+1:=by omega
     rw[Qy9 (by omega),ld,Sv9] at h1
     cases h1
     rw[show n - (i+1)=n - 1 - i by omega,eL] at h2
     cases h2
     have z:=κ.aIt dq (λy=>κ.aLg dq (by rw[y];exact gd4)) k5
     have ee:(λx=>bY (wF W i (n - i)) (W (n - 1 - i) x))=wF W (i+1) (n - (i+1)):=by
      rw[show n - (i+1)=n - 1 - i by omega]
      funext x
      show _=bY (wF W i (n - 1 - i+1)) (W (n - 1 - i) x)
      rw[e1]
     rw[<-ee]
     exact z
   ·subst e
    walk_at "w"
    refine⟨lw,_,rfl,gd,λq nq=>?_⟩
    obtain⟨H5,i5,s5,g5⟩:=nw _ nq;rw[i5]
    walk_at "w"
    refine k q H5 (s'.trans s5) (s'.free nq) ⟨⟨ds.reverse,by rw[g5,List.map_reverse],by rw[Tc9,ld,hn],λi d ps h1 h2=>?_⟩⟩
    have hi:i < ds.length:=by rw[<-Tc9];exact(uS.mp h1).1
    rw[List.getElem?_reverse hi] at h1
    have z:=hd _ d ps h1 (by rw[show n - (ds.length - 1 - i)=i by omega];exact h2)
    rw[show n - (ds.length - 1 - i)=i by omega,show ds.length - 1 - i=Ls.length - 1 - i by omega] at z
    exact κ.rH z s5
def aDL(K:W.Frag):Sp:=λvs H Q _=>∃(α:Type) (κ:PK α) (l d:Addr) (ws:List (Wy α)) (ps:List α) (g:α->Int),vs=[.ref l,.ref d]/\uO κ H l ws/\κ.da H d ps g/\ws≠[]/\ws.length<=10000/\(∀w∈ws,w.2.1∈ps)/\
 ∀a w H',aQ H H'->nE g ws=some w->aAD κ H' a w->Q (.ref a) H'
theorem aDM{mg:Str->Option Value}{a:j8}(tx:Txt K mg a):bP P w K mg base hU 2 a.nY a.nZ ["ways","behind"] (aDL K):=by
 have zI:=aBH (P:=P) (w:=w) (base:=base) tx
 refine tx.uB.ok yJ (λvs H Q E h=>?_) (λcdv A outer s H vs Q E hr h=>?_)
 ·obtain⟨α,κ,l,d,ws,ps,g,rfl,_⟩:=h
  rfl
 ·obtain⟨α,κ,l,d,ws,ps,g,rfl ,hw,hd,hne,hlen,hin,k⟩:=h
  have hu:=kT hr
  refine bD (aD (sG (i:=2) yJ.nd rfl (Or.inr rfl) (aE (zI) (hr.mono (by decide)) (by rfl) tx.zD tx.uA.kp tx.zC .nil aT (aA (Z.pv 0) (aA (Z.pv 1) aC))))
   (aG (aM (aH (K':=K) (cY (k:=1) (idx:=[1,2]) (N:=["way","behind","least"]) (dA (sc:=aF fK) (NX:=["ways","behind","least"]) rfl rfl rfl (by decide +kernel)) rfl (cC (K':=K) (Z.pv 0)) (λ_ _ _ _=>(aO (i:=0) (show(["way","behind","least"]:List Str).Nodup by decide +kernel))) (eV (by decide)) (λ_ _ _ _=>(aCr (aW (r:=mZ K) (dS hu) (aI bL (aH (K':=K) (Z.pv 0) aB) (qA hu (Z.pv 1) (aH (K':=K) (Z.pv 0) aB))) (Z.pv 2) (bK _)))) (λ_ _ _ _=>(Z.pv 0))) aB)))) ?_
  refine aV (σ:=[some (.ref l),some (.ref d),none]) rfl ?_
  walk_at "w"
  refine⟨α,κ,l,d,ws,ps,g,rfl,hw,hd,hne,hlen,hin,λH1 s1=>?_⟩
  obtain⟨as,gl,rl⟩:=(hw.same s1).ex
  have las:=rl.len
  have hd1:=κ.rH hd s1
  walk_at "w"
  refine pZ (bS.of gl) ?_
  refine jL (xs:=as.map V.ref) (λj us H'=>H'=H1/\us.length<=j/\(us=[]->∀w∈ws.take j,¬w.2.2+g w.2.1=bY g ws)/\∀u,us[0]?=some u->∃a w,u=.ref a/\nE g ws=some w/\aAD κ H1 a w) ⟨rfl,fJ _,(λ_ w hw=>by simp at hw),(λu hu=>by simp at hu)⟩ (cZ (by rw[bZ];omega))
   (λj us H' hj ⟨e0,e1,_⟩=>⟨by rw[e0];exact bS.of gl,e1⟩) (λj v us H' hv ⟨e0,e1,e2,e3⟩=>?_) (λus H' ⟨e0,e1,e2,e3⟩=>?_)
  ·subst e0
   obtain⟨a1,w,ea,rfl,ew,vv,g1,hp⟩:=rl.gt hv
   walk_at "w"
   refine⟨d,_,rfl,κ.get hd1 hp (hin w (vD ew)),?_⟩
   walk_at "w"
   refine cE (λh=>?_) (λh=>?_)
   ·walk_at "w"
    refine⟨rfl,by rw[xX,Rj9];omega,(λz=>by simp at z),λu hu=>?_⟩
    cases us with
    |nil=>
     cases hu
     refine⟨a1,w,rfl,?_,vv,g1,hp⟩
     unfold nE
     exact aIr ew (λx hx=>decide_eq_false (e2 rfl x hx)) (decide_eq_true h)
    |cons y r=>exact e3 u hu
   ·walk_at "w"
    refine⟨rfl,by omega,λz x hx=>?_,e3⟩
    rw[rJ ew] at hx
    rcases Rd9.mp hx with q|q
    ·exact e2 z x q
    ·rw[Qv9.mp q];exact h
  subst e0
  rw[bZ,las,Rc9] at e2
  obtain⟨w0,hw0,hw1⟩:=fR g hne
  cases us with
  |nil=>exact absurd hw1 (e2 rfl w0 hw0)
  |cons u0 r=>
   obtain⟨a1,w,rfl,f1,hA⟩:=e3 u0 rfl
   intro l2 n2
   obtain⟨H2,i2,s2,g2⟩:=nw _ n2;rw[i2]
   have ix:uT (V.ref a1::r) 0=some (.ref a1):=eQ (j:=0) rfl
   walk_at "w"
   exact k a1 w H2 (s1.trans s2) f1 (hA.same s2)
def uP(K:PySem.W.Frag)(C:Addr->Sp->Prop):Sp:=λvs H Q _=>∃(α:Type) (κ:PK α) (v:V) (x:α) (p0:List α) (lw f:Addr) (Ls:List (List α)) (W:Nat->α->List (Wy α)) (L:Nat->α->Prop),vs=[v,.ref lw,.ref f]/\κ.pv H v x/\aHN κ H lw Ls (λi=>wF W (Ls.length - 1 - i) i)/\Ls[0]?=some p0/\x∈p0/\aIs W Ls/\Ls.length<=10000/\xE κ C H f W L/\
 (∀(i:Nat) ps x,Ls[i]?=some ps->i+1 < Ls.length->x∈ps->L i x)/\∀q H',aQ H H'->H q=none->H' q=some (.lst ((aAC W (Ls.length - 1) 0 x).map V.int))->Q (.ref q) H'
theorem aAE{mg:Str->Option Value}{a:j8}(tx:Txt K mg a):bP P w K mg base hU 10 a.qN a.qO ["place","worths","ways_at"] (uP K (Clo P w K mg base (8+1))):=by
 have aFh:=aDM (P:=P) (w:=w) (base:=base) tx
 refine tx.qZ.ok jZ (λvs H Q E h=>?_) (λcdv A outer s H vs Q E hr h=>?_)
 ·obtain⟨α,κ,v,x,p0,lw,f,Ls,W,L,rfl,_⟩:=h
  rfl
 ·obtain⟨α,κ,v,x,p0,lw,f,Ls,W,L,rfl ,hv,hds,hp0,hx0,hok,hlen,hW,hL,k⟩:=h
  have hu:=kT hr
  refine bD (aD (aJ (i:=3) jZ.nd (kZ aC))
   (aD (cD PassesOwn.never rfl (cN (by rfl) tx.dZ (aA (aI jW (aN (rc:=sD K) cL (by rfl) tx.iO gO (aA (Z.pv 1) aC)) aB) aC)) (aO (i:=4) jZ.nd) (aD (aJ (i:=5) jZ.nd (aE (aFh) (hr.mono (by decide)) (by rfl) tx.aAn tx.uB.kp tx.aAm .nil aT (aA (aBm (P:=P) (w:=w) (K:=K) (mg:=mg) (base:=base) (i:=2) (k:=8+1) (hr.mono (by decide)) (aA (Z.pv 4) (aA (Z.pv 0) aC))) (aA (aH (K':=K) (Z.pv 1) (aI bL (Z.pv 4) aB)) aC))))
   (aD (lA (o7 (K':=K) (Z.pv 3) (aA (aH (K':=K) (Z.pv 5) aB) aC)))
   (aG (aJ (i:=0) jZ.nd (aH (K':=K) (Z.pv 5) aB))))))
   (aG (aM (Z.pv 3))))) ?_
  obtain⟨ds,gds,lds,hds'⟩:=hds.ex
  obtain⟨spc,hC,hp⟩:=hW.ex
  have pos:=hok.pos
  obtain⟨n,hn⟩ : ∃n,Ls.length=n+1:=⟨Ls.length - 1,by omega⟩
  refine aV (σ:=[some v,some (.ref lw),some (.ref f),none,none,none]) rfl ?_
  walk_at "w"
  intro lr nlr
  obtain⟨H1,i1,s1,g1⟩:=nw _ nlr;rw[i1]
  have gds1:=s1 _ _ gds
  walk_at "w"
  refine⟨by rw[bZ];omega,by rw[bZ];omega,?_⟩
  rw[show(((ds.map V.ref).length:Int) - 1).toNat=n by rw[bZ,lds,hn];omega]
  refine sF (n:=n) (λi σ' H'=>aQ H H'/\∃(row:List Int) (u:V) (y:α) (ps:List α) (z4 z5:Option V),σ'=[some u,some (.ref lw),some (.ref f),some (.ref lr),z4,z5]/\H' lr=some (.lst (row.map V.int))/\row.length=i/\κ.pv H' u y/\Ls[i]?=some ps/\y∈ps/\row++aAC W (n - i) i y=aAC W n 0 x)
   ⟨s1,[],v,x,p0,_,_,rfl,g1,rfl,κ.rG hv s1,hp0,hx0,rfl⟩ (λi σ' H' hi ⟨s',row,u,y,ps,z4,z5,e,gr,lr',py,eps,hy,hrow⟩=>?_) (λσ' H' ⟨s',row,u,y,ps,z4,z5,e,gr,lr',py,eps,hy,hrow⟩=>?_)
  ·subst e
   have eq:Ls[i+1]?=some Ls[i+1]:=fH (by omega)
   have ed:ds[i+1]?=some ds[i+1]:=fH (by omega)
   have hdd:=hds' (i+1) _ _ ed eq
   generalize ds[i+1]=dx at ed hdd
   generalize Ls[i+1]=qs at eq hdd
   obtain⟨n1,n2⟩:=hok.ne i ps y eps (by omega) hy
   have gds':=s' _ _ gds
   have ix:uT (ds.map V.ref) ((0+(i:Int))+1)=some (.ref dx):=by
    rw[show(0+(i:Int))+1=((i+1:Nat):Int) by push_cast;omega]
    exact eQ (aC4 ed)
   walk_at "w"
   refine aGi rfl hC ?_
   walk_at "w"
   rw[show(0+(i:Int))=(i:Int) by omega]
   refine hp H' i u y _ s' (hL i ps y eps (by omega) hy) py λl H2 s2 hws=>?_
   have gds2:=s2 _ _ gds'
   have ix2:uT (ds.map V.ref) ((i:Int)+1)=some (.ref dx):=by rw[<-ix,show(0+(i:Int))=(i:Int) by omega]
   walk_at "w"
   refine⟨α,κ,l,dx,W i y,qs,_,rfl,hws,κ.rH hdd (s'.trans s2),n1,n2,λw hw=>hok.on i ps qs y w eps eq hy hw,λa w H3 s3 fw hA=>?_⟩
   obtain⟨vv,ga,hpv⟩:=hA
   have gr3:=(s2.trans s3) _ _ gr
   have hwm:w∈W i y:=by
    unfold nE at fw
    exact Sc9 fw
   walk_at "w"
   refine y7 (bS.of gr3) ?_
   walk_at "w"
   refine aCp (xs:=row.map V.int) gr3 (yV (by rw[bZ];omega:(row.map V.int).length < 20000) (cZ (by decide))) ?_
   obtain⟨H4,i4,k4,g4⟩:=wr H3 lr _;rw[i4]
   have na:a≠lr:=λz=>by rw[z,gr3] at ga;cases ga
   have ga4:=k4 _ _ ga na
   have hpv4:κ.pv H4 vv w.2.1:=κ.aFg hpv gr3 k4
   walk_at "w"
   refine⟨λb o e=>k4 _ _ ((s'.trans (s2.trans s3)) _ _ e) (bG nlr e),row ++ [w.1],vv,w.2.1,qs,_,_,rfl,by rw[g4,xY];rfl,by rw[xX,lr'];rfl,hpv4,eq,hok.on i ps qs y w eps eq hy hwm,?_⟩
   rw[<-hrow,List.append_assoc]
   congr 1
   obtain⟨m,hm⟩ : ∃m,n - i=m+1:=⟨n - i - 1,by omega⟩
   rw[hm,show n - (i+1)=m by omega]
   have fw':nE (wF W m (i+1)) (W i y)=some w:=by rw[<-fw,show Ls.length - 1 - (i+1)=m by omega]
   show _=(match nE (wF W m (i+1)) (W i y) with|none=>[]|some w=>w.1::aAC W m (i+1) w.2.1)
   rw[fw']
   rfl
  ·subst e
   walk_at "w"
   rw[Sv9,show aAC W 0 n y=[] from rfl,Sd9] at hrow
   refine k lr H' s' nlr ?_
   rw[gr,hrow,hn,Nat.add_sub_cancel]
def On(m:MS)(s s':Int×Int):Prop:=∃on,Bit on/\(s.1=on\/s.2=0)/\s'=sS m s.1 s.2 on
def Rc(m:MS)(a:Int×Int):Nat->Int×Int->Prop
 |0,s=>s=a
 |n+1,s=>∃q,Rc m a n q/\On m q s
def sLt(a b:Int×Int):Prop:=a.1 < b.1\/(a.1=b.1/\a.2 < b.2)
def St1(m:MS)(s:Int×Int):Prop:=(s.1=1/\0<=s.2/\s.2 < m.up)\/(s.1=0/\0<=s.2/\s.2 < 60)
theorem St1.st0{m:MS}(g:m.Good){s:Int×Int}(h:St1 m s):St0 s.1 s.2:=by
 obtain⟨u0,u1⟩:=g.up
 rcases h with ⟨a,b,c⟩|⟨a,b,c⟩
 ·exact⟨.inr a,b,by omega⟩
 ·exact⟨.inl a,b,c⟩
theorem Rc.st{m:MS}(g:m.Good){a:Int×Int}(h:St1 m a):∀{n:Nat}{s:Int×Int},Rc m a n s->St0 s.1 s.2/\(s.2 < 12\/(s.1=0/\s.2=a.2 - n))
 |0,s,hs=>by
  have hs':s=a:=hs
  subst hs'
  obtain⟨u0,u1⟩:=g.up
  refine⟨h.st0 g,?_⟩
  rcases h with ⟨x,y,z⟩|⟨x,y,z⟩
  ·exact .inl (by omega)
  ·exact .inr ⟨x,by omega⟩
 |n+1,s,hs=>by
  obtain⟨q,hq,on,bon,may,rfl⟩:=hs
  obtain⟨i1,i2⟩:=Rc.st g h hq
  obtain⟨u0,u1⟩:=g.up
  obtain⟨d0,d1⟩:=g.down
  refine⟨i1.sS g bon,?_⟩
  unfold My.sS
  by_cases e:q.1=on
  ·rw[if_pos e]
   rcases i2 with i2|⟨i2,i3⟩
   ·exact .inl (by show max (q.2 - 1) 0 < 12;omega)
   ·by_cases z:q.2 - 1 < 12
    ·exact .inl (by show max (q.2 - 1) 0 < 12;omega)
    ·refine .inr ⟨by show on=0;omega,?_⟩
     show max (q.2 - 1) 0=a.2 - ((n+1:Nat):Int)
     omega
  ·rw[if_neg e]
   split
   ·exact .inl (by show m.up - 1 < 12;omega)
   ·exact .inl (by show m.down - 1 < 12;omega)
theorem Rc.few{m:MS}(g:m.Good){a:Int×Int}(h:St1 m a){n:Nat}{ks:List (Int×Int)}(nd:ks.Nodup)(hr:∀k∈ks,Rc m a n k):ks.length<=25:=by
 have:=aLf 25 (ks.map λk=>if k.2 < 12 then (k.1*12+k.2).toNat else 24) (by
  rw[List.Nodup,Sx9]
  refine nd.imp_of_mem ?_
  intro x y hx hy hxy z
  obtain⟨⟨a1,a2,a3⟩,a4⟩:=Rc.st g h (hr x hx)
  obtain⟨⟨b1,b2,b3⟩,b4⟩:=Rc.st g h (hr y hy)
  refine hxy ?_
  by_cases c1:x.2 < 12 <;> by_cases c2:y.2 < 12
  ·rw[if_pos c1,if_pos c2] at z
   refine Prod.ext ?_ ?_
   ·rcases a1 with a1|a1 <;> rcases b1 with b1|b1 <;> rw[a1,b1] <;> rw[a1,b1] at z <;> omega
   ·rcases a1 with a1|a1 <;> rcases b1 with b1|b1 <;> rw[a1,b1] at z <;> omega
  ·rw[if_pos c1,if_neg c2] at z
   rcases a1 with a1|a1 <;> rw[a1] at z <;> omega
  ·rw[if_neg c1,if_pos c2] at z
   rcases b1 with b1|b1 <;> rw[b1] at z <;> omega
  ·rcases a4 with a4|⟨a4,a5⟩
   ·omega
   ·rcases b4 with b4|⟨b4,b5⟩
    ·omega
    ·exact Prod.ext (by omega) (by omega)) (λx hx=>by
  obtain⟨k,hk,rfl⟩:=sR.mp hx
  obtain⟨⟨a1,a2,a3⟩,a4⟩:=Rc.st g h (hr k hk)
  split
  ·rcases a1 with a1|a1 <;> rw[a1] <;> omega
  ·omega)
 simpa using this
structure aLh(m:MS)(a:Int×Int)(Ls:List (List (Int×Int))):Prop where
 at_:∀(i:Nat) ps,Ls[i]?=some ps->ps.Pairwise sLt/\∀s,s∈ps↔Rc m a i s
theorem aLi{ps:List (Int×Int)}(h:ps.Pairwise sLt):ps.Nodup:=h.imp λ{a b} hab z=>by
 subst z
 rcases hab with y|⟨_,y⟩ <;> omega
def gnT(m:MS)(p:Int):Int:=p*m.least+gn p m.pieces
def aOY(m:MS)(s:Int×Int)(on:Int):Int:=aPO m s.1 [on]
def hw(m:MS)(p:Int)(s:Int×Int)(on:Int):Int:=aOY m s on - on*gnT m p
def aFi(s:Int×Int)(on:Int):Bool:=decide (s.1=on) || decide (s.2=0)
def rwy(m:MS)(p:Int)(s:Int×Int):List (Wy (Int×Int)):=(([0,1]:List Int).filter (aFi s)).map λon=>(on,sS m s.1 s.2 on,hw m p s on)
def Wr(m:MS)(ps:List Int)(i:Nat)(s:Int×Int):List (Wy (Int×Int)):=rwy m (ps.getD i 0) s
theorem aAF{s:Int×Int}{on:Int}:aFi s on=true↔s.1=on\/s.2=0:=by unfold aFi;simp
theorem aAG{p:Int}{s:Int×Int}{w:Wy (Int×Int)}:w∈rwy m p s↔∃on,Bit on/\(s.1=on\/s.2=0)/\w=(on,sS m s.1 s.2 on,hw m p s on):=by
 unfold rwy
 rw[sR]
 constructor
 ·rintro ⟨on,h,rfl⟩
  obtain⟨h1,h2⟩:=Sq9.mp h
  exact⟨on,by simpa [Bit] using h1,aAF.mp h2,rfl⟩
 ·rintro ⟨on,b,h,rfl⟩
  exact⟨on,Sq9.mpr ⟨by simpa [Bit] using b,aAF.mpr h⟩,rfl⟩
theorem aLj{p:Int}{s:Int×Int}(b:Bit s.1):rwy m p s≠[]:=λz=>by
 have:_∈rwy m p s:=aAG.mpr ⟨s.1,b,.inl rfl,rfl⟩
 rw[z] at this
 cases this
theorem aIu(m:MS)(p:Int)(s:Int×Int):(rwy m p s).length<=2:=by
 unfold rwy
 rw[bZ]
 exact List.length_filter_le ..
theorem aIv{m:MS}(g:m.Good){a:Int×Int}(h:St1 m a)(qs:List Int){Ls:List (List (Int×Int))}(pos:0 < Ls.length)(hl:aLh m a Ls):aIs (Wr m qs) Ls where
 pos:=pos
 nd:=λps hp=>by
  obtain⟨i,hi⟩:=Rh9 hp
  exact aLi (hl.at_ i ps hi).1
 few:=λps hp=>by
  obtain⟨i,hi⟩:=Rh9 hp
  obtain⟨h1,h2⟩:=hl.at_ i ps hi
  exact Rn9 (Rc.few g h (aLi h1) λk hk=>(h2 k).mp hk) (by decide)
 ne:=λi ps x hi _ hx=>by
  have:=((Rc.st g h (((hl.at_ i ps hi).2 x).mp hx)).1).1
  exact⟨aLj this,Rn9 (aIu ..) (by decide)⟩
 on:=λi ps rs x w hi hj hx hw=>by
  obtain⟨on,b,may,rfl⟩:=aAG.mp hw
  exact((hl.at_ (i+1) rs hj).2 _).mpr ⟨x,((hl.at_ i ps hi).2 x).mp hx,on,b,may,rfl⟩
theorem aIw{m:MS}(g:m.Good){a:Int×Int}(h:St1 m a)(qs:List Int)(n:Nat):Lay (Wr m qs) n (Rc m a) where
 ne:=λi x _ hx=>aLj ((Rc.st g h hx).1).1
 on:=λi x w _ hx hw=>by
  obtain⟨on,b,may,rfl⟩:=aAG.mp hw
  exact⟨x,hx,on,b,may,rfl⟩
def rwF(m:MS)(qs:List Int)(a:Int×Int):Int:=wF (Wr m qs) qs.length 0 a
def rrF(m:MS)(qs:List Int)(a:Int×Int):List Int:=aAC (Wr m qs) qs.length 0 a
def κS:PK (Int×Int):=.tk rZ λ_ _ h=>aAB h
theorem cK.aP8(h:cK C H q m)(e:H w=some (.dT kvs)):cK C (del w H) q m:=by
 obtain⟨dx,pl,h1,h2⟩:=h.ex
 obtain⟨qs,h3,h4⟩:=h2.ex
 refine⟨dx,pl,mV h1 (λz=>by rw[z,e] at h1;cases h1),qs,mV h3 (λz=>by rw[z,e] at h3;cases h3),h4.len,λj a t h5 h6=>?_⟩
 have h7:=h4.at_ j a t h5 h6
 exact mV h7 (λz=>by rw[z,e] at h7;cases h7)
theorem aMU(x:Option Int):(x.map V.int).getD (.int 0)=.int (x.getD 0):=by cases x <;> rfl
theorem aOZ{ps:List WP}{i:Nat}(h:(enc ps)[i]?=some kv):∃p,ps[i]?=some p/\kv=(rZ p.1,V.int p.2):=by
 unfold enc at h
 rw[nK] at h
 obtain⟨p,hp,e⟩:=Qr9.mp h
 exact⟨p,hp,e.symm⟩
theorem aIx(ps:List WP):(enc ps).length=ps.length:=by unfold enc;rw[bZ]
theorem aJt{ps:List WP}{k s:Int×Int}{v:Int}:s∈(addW ps k v).map (·.1)↔s∈ps.map (·.1)\/s=k:=by
 unfold addW
 by_cases h:ps.any (λp=>decide (p.1=k))=true
 ·rw[if_pos h,Rk9]
  have e:((λp:WP=>p.1) ∘ λp:WP=>if p.1=k then (p.1,v) else p)=λp=>p.1:=by
   funext p
   show(if p.1=k then (p.1,v) else p).1=p.1
   split <;> rfl
  rw[e]
  refine⟨.inl,λz=>?_⟩
  rcases z with z|z
  ·exact z
  ·obtain⟨p,hp,e⟩:=Ss9.mp h
   rw[z]
   exact sR.mpr ⟨p,hp,of_decide_eq_true e⟩
 ·rw[if_neg h,xY,Rd9]
  simp
def aC6(K:W.Frag)(C:Addr):Sp:=λvs H Q _=>∃(q:Addr) (m:MS) (w:Addr) (ps:List WP),vs=[.ref q,.ref w]/\cK C H q m/\m.Good/\H w=some (.dT (enc ps))/\aDK ps/\
 ∀w' ps' H',aQ (del w H) H'->H w'=none->H' w'=some (.dT (enc ps'))->aDK ps'->(∀s,s∈ps'.map (·.1)↔∃q∈ps.map (·.1),On m q s)->Q (.ref w') H'
theorem aC7{mg:Str->Option Value}{a:j8}(tx:Txt K mg a):bP P w K mg base hU 3 a.mC a.mD ["machine","ways"] (aC6 K a.bB):=by
 have pT:=xV (P:=P) (w:=w) (base:=base) tx
 have iV:=pS (P:=P) (w:=w) (base:=base) tx
 refine tx.rR.ok fD (λvs H Q E h=>?_) (λcdv A outer s H vs Q E hr h=>?_)
 ·obtain⟨q,m,w,ps,rfl,_⟩:=h
  rfl
 ·obtain⟨q,m,w,ps,rfl ,hm,hg,gw,hW,k⟩:=h
  have hu:=kT hr
  refine bD (aD (aJ (i:=2) fD.nd vV)
   (aD (cD PassesOwn.never rfl (aGf (Z.pv 1)) (cP (K':=K) (n:=2) rfl (bA (aO (i:=3) fD.nd) (bA (aO (i:=4) fD.nd) cO))) (aG (cD PassesOwn.never rfl (aCs (K':=K) (gL aB aB)) (aO (i:=5) fD.nd) (aG (bH (d9 (aE (pT) (hr.mono (by decide)) (by rfl) tx.wG tx.sL.kp tx.wD .nil aT (aA (Z.pv 0) (aA (Z.pv 3) (aA (Z.pv 5) aC))))) (aD (aJ (i:=6) fD.nd (aE (iV) (hr.mono (by decide)) (by rfl) tx.mO tx.iS.kp tx.mN .nil aT (aA (Z.pv 0) (aA (Z.pv 3) (aA (Z.pv 5) aC)))))
   (aG (y8 hu (Z.pv 2) (Z.pv 6) (aI bL (aGh hu (Z.pv 2) (Z.pv 6) aB) (Z.pv 4))))) bC)))))
   (aG (aM (Z.pv 2))))) ?_
  have hmD:=hm.aP8 gw
  refine aV (σ:=[some (.ref q),some (.ref w),none,none,none,none,none]) rfl ?_
  walk_at "w"
  refine aEj ?_
  intro l nl
  obtain⟨H1,i1,s1,g1⟩:=nw _ nl;rw[i1]
  have gw1:=s1 _ _ gw
  have lw:l≠w:=λz=>by rw[z,gw] at nl;cases nl
  have nlD:del w H l=none:=by rw[zF lw];exact nl
  walk_at "w"
  refine aPK gw1 λob=>?_
  obtain⟨H2,i2,k2,g2⟩:=wr H1 w _;rw[i2]
  have g12:=k2 _ _ g1 lw
  have S2:aQ (del w H) H2:=λb o e=>k2 _ _ (s1 _ _ (xC _ _ e)) (λz=>by rw[z,aEp] at e;cases e)
  refine aKN (kvs:=enc ps) (λi σ' H'=>∃(ps':List WP) (z3 z4 z5 z6:Option V),σ'=[some (.ref q),some (.ref w),some (.ref l),z3,z4,z5,z6]/\H' l=some (.dT (enc ps'))/\aDK ps'/\(∀s,s∈ps'.map (·.1)↔∃q∈(ps.take i).map (·.1),On m q s)/\aQ (del w H) H'/\H' w=some (.frz ob (.dT (enc ps))))
   ⟨[],_,_,_,_,rfl,g12,⟨List.nodup_nil,λp hp=>by cases hp⟩,λs=>⟨(λh=>by cases h),(λ⟨q,h,_⟩=>by simp at h)⟩,S2,g2⟩ (λi σ' H' hi ⟨_,_,_,_,_,_,_,_,_,_,h⟩=>h) (λi kv σ' H' T b hk ⟨ps',z3,z4,z5,z6,e,gl,hW',hs,S',gw'⟩ nT gb=>?_) (λσ' H' ⟨ps',z3,z4,z5,z6,e,gl,hW',hs,S',gw'⟩=>?_)
  ·subst e
   obtain⟨p,ep,rfl⟩:=aOZ hk
   have hst:=hW.st p (vD ep)
   have gb0:H' b=some (.tup [.int p.1.1,.int p.1.2]):=gb
   obtain⟨H3,i3,s3,gT⟩:=nw _ nT;rw[i3]
   refine gK (mX.of gT) rfl ?_
   walk_at "w"
   intro Tu nTu
   obtain⟨H4,i4,s4,gTu⟩:=nw _ nTu;rw[i4]
   have gl4:=(s3.trans s4) _ _ gl
   have gb4:=(s3.trans s4) _ _ gb0
   have gw4:=(s3.trans s4) _ _ gw'
   have S4:=S'.trans (s3.trans s4)
   have Tul:Tu≠l:=λz=>by rw[z,gl4] at gTu;cases gTu
   have bl:b≠l:=λz=>by rw[z,gl4] at gb4;cases gb4
   walk_at "w"
   refine aNg (mX.of gTu) ?_
   refine aOF (xs:=([0,1]:List Int).map V.int) (λj σ' H'=>∃(ps':List WP) (z5 z6:Option V),σ'=[some (.ref q),some (.ref w),some (.ref l),some (.ref b),some (.int p.2),z5,z6]/\H' l=some (.dT (enc ps'))/\aDK ps'/\(∀s,s∈ps'.map (·.1)↔(∃q∈(ps.take i).map (·.1),On m q s)\/∃on∈([0,1]:List Int).take j,(p.1.1=on\/p.1.2=0)/\s=sS m p.1.1 p.1.2 on)/\aQ (del w H) H'/\bM l H4 H')
    ⟨ps',_,_,rfl,gl4,hW',λs=>by rw[hs s];simp,S4,λ_ _ e _=>e⟩ (λj σ' H' hj ⟨_,_,_,_,_,_,_,_,h⟩=>mX.of (h _ _ gTu Tul)) (λj v σ' H5 hv ⟨ps',z5,z6,e,gl5,hW5,hs5,S5,k5⟩=>?_) (λσ' H5 ⟨ps',z5,z6,e,gl5,hW5,hs5,S5,k5⟩=>?_)
   ·subst e
    obtain⟨on,eon,rfl⟩:=aCb hv
    have bon:Bit on:=by
     have:=vD eon
     simp at this
     exact this
    have gb5:=k5 _ _ gb4 bl
    have tk:([0,1]:List Int).take (j+1)=([0,1]:List Int).take j ++ [on]:=by rw[Sb9,eon];rfl
    walk_at "w"
    refine⟨_,b,_,_,on,rfl,gb5,?_⟩
    by_cases hmay:p.1.1=on\/p.1.2=0
    ·rw[show(decide (p.1.1=on) || decide (p.1.2=0))=true by simpa using hmay]
     walk_at "w"
     refine⟨q,m,b,_,_,on,rfl,hmD.same S5,gb5,hmay,λT2 H6 s6 nT2 gT2=>?_⟩
     have gl6:=s6 _ _ gl5
     have gk:H6 T2=some (.tup ((rZ (sS m p.1.1 p.1.2 on)).map kV)):=gT2
     have hle:=hW5.len
     walk_at "w"
     refine⟨l,rfl,.inr ⟨_,.inl gl6⟩,?_⟩
     walk_at "w"
     refine⟨_,vM.t gl6 gk,?_⟩
     rw[aMQ,aMU]
     walk_at "w"
     refine⟨l,_,rfl,aCm.t gl6 gk (yV (by rw[aIx];omega:(enc ps').length < 1000) (cZ (by decide))),?_⟩
     rw[aMR]
     obtain⟨H7,i7,k7,g7⟩:=wr H6 l _;rw[i7]
     walk_at "w"
     refine⟨_,_,_,rfl,g7,hW5.add (hst.sS hg bon) p.2,λs=>?_,λb o e=>k7 _ _ ((S5.trans s6) _ _ e) (bG nlD e),k5.trans (s6.keep.trans k7)⟩
     rw[aJt,hs5 s,tk]
     constructor
     ·rintro ((h|⟨on',h1,h2⟩)|h)
      ·exact .inl h
      ·exact .inr ⟨on',Sa9 _ h1,h2⟩
      ·exact .inr ⟨on,Qw9 _ (.head _),hmay,h⟩
     ·rintro (h|⟨on',h1,h2,h3⟩)
      ·exact .inl (.inl h)
      ·rcases Rd9.mp h1 with z|z
       ·exact .inl (.inr ⟨on',z,h2,h3⟩)
       ·rw[Qv9.mp z] at h3;exact .inr h3
    ·rw[show(decide (p.1.1=on) || decide (p.1.2=0))=false by simpa using hmay]
     walk_at "w"
     refine⟨ps',_,_,rfl,gl5,hW5,λs=>?_,S5,k5⟩
     rw[hs5 s,tk]
     constructor
     ·rintro (h|⟨on',h1,h2⟩)
      ·exact .inl h
      ·exact .inr ⟨on',Sa9 _ h1,h2⟩
     ·rintro (h|⟨on',h1,h2,h3⟩)
      ·exact .inl h
      ·rcases Rd9.mp h1 with z|z
       ·exact .inr ⟨on',z,h2,h3⟩
       ·rw[Qv9.mp z] at h2;exact absurd h2 hmay
   ·subst e
    refine⟨ps',_,_,_,_,rfl,gl5,hW5,λs=>?_,S5,k5 _ _ gw4 (Ne.symm lw)⟩
    rw[hs5 s,take_snoc ep,xY]
    constructor
    ·rintro (⟨q,h1,h2⟩|⟨on',h1,h2,h3⟩)
     ·exact⟨q,Sa9 _ h1,h2⟩
     ·exact⟨p.1,Qw9 _ (.head _),on',by simpa [Bit] using h1,h2,h3⟩
    ·rintro ⟨q,h1,on',b1,h2,h3⟩
     rcases Rd9.mp h1 with z|z
     ·exact .inl ⟨q,z,on',b1,h2,h3⟩
     ·rw[show q=p.1 by simpa using z] at h2 h3
      exact .inr ⟨on',by rcases b1 with rfl|rfl <;> simp,h2,h3⟩
  ·subst e
   walk_at "w"
   refine k l ps' H' S' nl gl hW' λs=>?_
   rw[hs s,aIx,Rc9]
def aBW(K:W.Frag)(C:Addr):Sp:=λvs H Q _=>∃(p:Addr) (ms:List MS),vs=[.ref p]/\rD C H p ms/\ms.length<=6/\∀H',aQ H H'->Q (.bl true) H'
theorem aBX{mg:Str->Option Value}{a:j8}(tx:Txt K mg a):bP P w K mg base hU 1 a.kJ a.kK ["thing"] (aBW K a.bB):=by
 refine tx.pG.ok aBL (λvs H Q E h=>?_) (λcdv A outer s H vs Q E hr h=>?_)
 ·obtain⟨p,ms,rfl,_⟩:=h
  rfl
 ·obtain⟨p,ms,rfl ,hp,hl,k⟩:=h
  have hu:=kT hr
  refine bD (aD (bH (fS (zW (fY (d9 (aN (rc:=aEJ K) kW (by rfl) tx.cG eJ (aA (Z.pv 0) (aA (oZ (v:=.ty "list") (by rfl) tx.jK lR rfl) aC))))) (xO (aW aBf (aN (rc:=sD K) cL (by rfl) tx.iO gO (aA (Z.pv 0) aC)) (sW (n:=6) (by rfl) tx.eB) (bK _))))) (aG (aM oY)) bC)
   (aG (aM (aN (rc:=aKu K) (aAX rfl) (by rfl) tx.aBD aHa (aA (cY (k:=1) (idx:=[]) (N:=["machine"]) (dA (sc:=aF dU) (NX:=["thing"]) rfl rfl rfl (by decide +kernel)) rfl (cC (K':=K) (Z.pv 0)) (λ_ _ _ _=>(aO (i:=0) (show(["machine"]:List Str).Nodup by decide +kernel))) (eV (by decide)) (λ_ _ _ _=>cA) (λ_ _ _ _=>(aN (rc:=aEJ K) kW (by rfl) tx.cG eJ (aA (Z.pv 0) (aA (aCq (v:=.ref a.bB) (by rfl) tx.aA4 rfl) aC))))) aC))))) ?_
  obtain⟨qs,h1,h2⟩:=hp.ex
  have hql:qs.length<=6:=by rw[h2.len];exact hl
  refine aV (σ:=[some (.ref p)]) rfl ?_
  walk_at "w"
  refine y6 (aGn (.lst h1)) ?_
  walk_at "w"
  refine iW (λh=>by simp at h) (λ_=>?_)
  walk_at "w"
  refine cE (λh=>by rw[bZ] at h;omega) (λ_=>?_)
  walk_at "w"
  refine pZ (bS.of h1) ?_
  refine aAV (λ_=>.bl true) (bS.of h1) (cZ (by rw[bZ];omega)) (λx N N' hxm hN=>?_) ?_
  ·obtain⟨i,hi⟩:=Rh9 hxm
   obtain⟨q,m,_,rfl,_,hm⟩:=h2.get hi
   obtain⟨dx,pl,hx,_⟩:=hm.ex
   walk_at "w"
   refine y6 (aIa tx.i_Machine tx.cM hx) ?_
   exact hN
  ·intro l1 n1
   walk_at "w"
   refine aEL (bS.of aL) (λx hx=>by obtain⟨_,_,rfl⟩:=sR.mp hx;rfl) ?_
   exact k _ (aQ.new n1)
def aDN(K:PySem.W.Frag)(CW CM CS:Addr):Sp:=λvs H Q _=>∃(x dx lm:Addr) (st:V) (W:WS),vs=[.ref x,.ref lm,st,.int W.lack]/\H x=some (.ins CW dx [])/\rD CM H lm W.specs/\aJr CS H st W.store/\W.specs.length<=6/\Am W.lack/\
 ∀H',rF CW CM CS H' x W->bM x H H'->Q .non H'
theorem aDO{mg:Str->Option Value}{a:j8}(tx:Txt K mg a):bP P w K mg base hU 3 a.oA a.oB ["self","machines","store","lack"] (aDN K a.eT a.bB a.bX):=by
 have aC8:=aBX (P:=P) (w:=w) (base:=base) tx
 have cW:=oP (P:=P) (w:=w) (base:=base) tx
 refine tx.aAo.ok lT (λvs H Q E h=>?_) (λcdv A outer s H vs Q E hr h=>?_)
 ·obtain⟨x,dx,lm,st,W,rfl,_⟩:=h
  rfl
 ·obtain⟨x,dx,lm,st,W,rfl ,hx,hm,hs,hl,ha,k⟩:=h
  have hu:=kT hr
  refine bD (aD (aJ (i:=4) lT.nd (aF5 (gQ aHh (Z.pv 2) hV (bK _)) (kY (aN (rc:=aEJ K) kW (by rfl) tx.cG eJ (aA (Z.pv 2) (aA (aCq (v:=.ref a.bX) (by rfl) tx.aE1 rfl) aC))))))
   (aD (cD PassesOwn.never rfl (mU (K':=K) (by rfl) tx.dO (aA (zX (aE (aC8) (hr.mono (by decide)) (by rfl) tx.wQ tx.pG.kp tx.wO .nil aT (aA (Z.pv 1) aC)) (Z.pv 4) (aE (cW) (hr.mono (by decide)) (by rfl) tx.dN tx.dC.kp tx.dM .nil aT (aA (Z.pv 3) aC))) aC)) (cP (K':=K) (n:=2) rfl (bA (aO (i:=5) lT.nd) (bA (aO (i:=6) lT.nd) cO))) (aG (bH (fY (d9 (Z.pv 6))) (aG mT) bC)))
   (aD (cJ (K':=K) (Z.pv 0) (cF (rc:=pY K) kX (by rfl) tx.jK lR (aA (Z.pv 1) aC)) rfl)
   (aD (cJ (K':=K) (Z.pv 0) (Z.pv 2) rfl)
   (aG (cJ (K':=K) (Z.pv 0) (Z.pv 3) rfl)))))) ?_
  refine aV (σ:=[some (.ref x),some (.ref lm),some st,some (.int W.lack),none,none,none]) rfl ?_
  refine iX (λσ' H'=>σ'=[some (.ref x),some (.ref lm),some st,some (.int W.lack),some (.bl true),none,none]/\H'=H) (λN hN=>?_) ?_
  ·cases e:W.store with
   |none=>
    rw[e] at hs
    replace hs:st=.non:=hs
    subst hs
    walk_at "w"
    exact hN _ _ ⟨rfl,rfl⟩
   |some s=>
    rw[e] at hs
    obtain⟨b,rfl,hb⟩:=hs
    obtain⟨db,hb'⟩:=hb.ex
    walk_at "w"
    refine y6 (aIa tx.i_Store tx.jB hb') ?_
    walk_at "w"
    exact hN _ _ ⟨rfl,rfl⟩
  rintro σ' H' ⟨rfl,rfl⟩
  walk_at "w"
  refine⟨lm,W.specs,rfl,hm,hl,λH1 s1=>?_⟩
  walk_at "w"
  refine⟨_,_,rfl,.int _,?_⟩
  rw[uM ha]
  walk_at "w"
  intro l1 n1
  walk_at "w"
  have s2:=s1.trans (aQ.new (o:=.lst [.bl true,.bl true,.bl true]) n1)
  have e2:(upd H1 l1 (.lst [.bl true,.bl true,.bl true])) l1=some (.lst [.bl true,.bl true,.bl true]):=aL
  generalize upd H1 l1 (.lst [.bl true,.bl true,.bl true])=H2 at s2 e2 ⊢
  refine aF3 (bS.of e2) ?_
  refine zV (xs:=[.bl true,.bl true,.bl true]) (λi σ' H3=>∃y z,σ'=[some (.ref x),some (.ref lm),some st,some (.int W.lack),some (.bl true),y,z]/\aQ H2 H3)
   ⟨_,_,rfl,aQ.refl _⟩ (λi σ' H3 hi ⟨y,z,e,s⟩=>bS.of (s _ _ e2)) (λi v σ' H3 T hv ⟨y,z,e,s⟩ nT=>?_) (λσ' H3 ⟨y,z,e,s⟩=>?_)
  ·subst e
   have ev:v=.bl true:=by
    have:=vD hv
    simpa using this
   subst ev
   refine gK (mX.of aL) rfl ?_
   walk_at "w"
   exact⟨_,_,rfl,s.trans (aQ.new nT)⟩
  ·subst e
   have sH:aQ H' H3:=s2.trans s
   have hx':=sH _ _ hx
   obtain⟨qs,p1,p2⟩:=(hm.tr sH.tr).ex
   walk_at "w"
   refine sE (ys:=qs.map V.ref) (bS.of p1) ?_
   intro l9 n9
   have s9:=aQ.new (o:=.lst (qs.map V.ref)) n9
   have x9:=s9 _ _ hx'
   walk_at "w"
   refine jD (fs':=[("machines",.ref l9)]) x9 tx.uK tx.lP (by simp) rfl ?_
   walk_at "w"
   refine jD (fs':=[("machines",.ref l9),("store",st)]) aL tx.uK tx.mP (by simp) rfl ?_
   rw[jV]
   walk_at "w"
   refine jD (fs':=wFs l9 st W.lack) aL tx.uK tx.aAy (by simp) rfl ?_
   rw[jV]
   walk_at "w"
   have kx:bM x (upd H3 l9 (.lst (qs.map V.ref))) (upd (upd H3 l9 (.lst (qs.map V.ref))) x (.ins a.eT dx (wFs l9 st W.lack))):=bM.upd
   have t9:Tr H3 (upd (upd H3 l9 (.lst (qs.map V.ref))) x (.ins a.eT dx (wFs l9 st W.lack))):=s9.tr.trans (aLd x9 kx)
   have l9x:l9≠x:=Ne.symm (bG n9 hx')
   refine k _ ⟨dx,l9,st,aL,⟨qs,kx _ _ aL l9x,p2.imp λ_ _ z=>z.tr t9⟩,hs.tr (sH.tr.trans t9)⟩ (λb o e nb=>kx _ _ (s9 _ _ (sH _ _ e)) nb)
def aDP(K:W.Frag):Sp:=λvs H Q _=>∃(p b:Addr) (x y:Int),vs=[.ref p,.ref b]/\bE H p/\H b=some (.lst [.int x,.int y])/\1<=x/\x<=50000000000/\
 ∀v (o:Option SS) H',aHM H' v o->(∀s,o=some s->s.Good)->(∀c,v=.ref c->H c=none)->bE H' p->bM p H H'->d7 p H H'->Q v H'
theorem aDQ{mg:Str->Option Value}{a:j8}(tx:Txt K mg a):bP P w K mg base hU 2 a.oC a.oE ["_law_hand","_law_by"] (aDP K):=by
 have aK:=cH (P:=P) (w:=w) (base:=base) tx
 refine tx.uC.ok lU (λvs H Q E h=>?_) (λcdv A outer s H vs Q E hr h=>?_)
 ·obtain⟨p,b,x,y,rfl,_⟩:=h
  rfl
 ·obtain⟨p,b,x,y,rfl ,hh,hb,x0,x1,k⟩:=h
  have hu:=kT hr
  refine bD (aD (bH (aW (r:=mZ K) (dS hu) (aE (aK) (hr.mono (by decide)) (by rfl) tx.aS tx.aP.kp tx.aR .nil aT (aA (Z.pv 0) (aA aB aC))) aB (bK _)) (aG (aM hV)) bC)
   (aD (aJ (i:=2) lU.nd (aI bN (aH (K':=K) (Z.pv 1) aB) (aE (aK) (hr.mono (by decide)) (by rfl) tx.aS tx.aP.kp tx.aR .nil aT (aA (Z.pv 0) (aA aB aC)))))
   (aD (aJ (i:=3) lU.nd (aI bL (Z.pv 2) (aI bN (aH (K':=K) (Z.pv 1) aB) (aE (aK) (hr.mono (by decide)) (by rfl) tx.aS tx.aP.kp tx.aR .nil aT (aA (Z.pv 0) (aA aB aC))))))
   (aD (bH (aW (r:=mZ K) (dS hu) (aE (aK) (hr.mono (by decide)) (by rfl) tx.aS tx.aP.kp tx.aR .nil aT (aA (Z.pv 0) (aA aB aC))) aB (bK _)) (aG (aEf (i:=3) (j:=2) rfl lU.nd rfl rfl (by decide) rfl rfl (aA (Z.pv 2) (aA (Z.pv 3) aC)))) bC)
   (aG (aM (aH9 (aE (aK) (hr.mono (by decide)) (by rfl) tx.aS tx.aP.kp tx.aR .nil aT (aA (Z.pv 0) (aA aB aC))) (aE (aK) (hr.mono (by decide)) (by rfl) tx.aS tx.aP.kp tx.aR .nil aT (aA (Z.pv 0) (aA aB aC))) (aE (aK) (hr.mono (by decide)) (by rfl) tx.aS tx.aP.kp tx.aR .nil aT (aA (Z.pv 0) (aA aB aC))) (Z.pv 3) (Z.pv 2)))))))) ?_
  have bp:b≠p:=hh.aGt hb (by simp)
  refine aV (σ:=[some (.ref p),some (.ref b),none,none]) rfl ?_
  walk_at "w"
  refine⟨p,_,rfl,hh,by decide,by decide,λr1 H1 a1 b1 h1 k1 q1=>?_⟩
  have hb1:=k1 _ _ hb bp
  walk_at "w"
  refine cE (λh=>?_) (λh=>?_)
  ·walk_at "w"
   exact k _ none _ rfl (λs e=>by cases e) (λc e=>by cases e) h1 k1 q1
  ·walk_at "w"
   refine⟨p,_,rfl,h1,by decide,by decide,λr2 H2 a2 b2 h2 k2 q2=>?_⟩
   have hb2:=k2 _ _ hb1 bp
   walk_at "w"
   refine⟨p,_,rfl,h2,by decide,by decide,λr3 H3 a3 b3 h3 k3 q3=>?_⟩
   have g2:0<=x*r2/\x*r2<=150000000000:=⟨Ri9 (by omega) (by omega),Rq9 (Qq9 (show r2<=3 by omega) (by omega)) (by omega)⟩
   have g3:0<=x*r3/\x*r3<=50000000000:=⟨Ri9 (by omega) (by omega),Rq9 (Qq9 (show r3<=1 by omega) (by omega)) (by omega)⟩
   repeat walk_at "st"
   refine iX (λσ' H'=>∃g t:Int,σ'=[some (.ref p),some (.ref b),some (.int g),some (.int t)]/\Am g/\Am t/\bE H' p/\bM p H H'/\d7 p H H') (λN hN=>?_) ?_
   ·walk_at "w"
    refine⟨p,_,rfl,h3,by decide,by decide,λr4 H4 a4 b4 h4 k4 q4=>?_⟩
    walk_at "w"
    refine cE (λh=>?_) (λh=>?_)
    ·walk_at "w"
     refine⟨_,_,rfl,?_⟩
     exact hN _ _ ⟨_,_,rfl,⟨by omega,by omega⟩,⟨by omega,by omega⟩,h4,k1.trans (k2.trans (k3.trans k4)),q1.trans (q2.trans (q3.trans q4))⟩
    ·walk_at "w"
     exact hN _ _ ⟨_,_,rfl,⟨by omega,by omega⟩,⟨by omega,by omega⟩,h4,k1.trans (k2.trans (k3.trans k4)),q1.trans (q2.trans (q3.trans q4))⟩
   ·rintro σ' H4 ⟨g,t,rfl,hg,ht,h4,k4,q4⟩
    walk_at "w"
    refine⟨p,_,rfl,h4,by decide,by decide,λr5 H5 a5 b5 h5 k5 q5=>?_⟩
    walk_at "w"
    refine⟨p,_,rfl,h5,by decide,by decide,λr6 H6 a6 b6 h6 k6 q6=>?_⟩
    walk_at "w"
    refine⟨p,_,rfl,h6,by decide,by decide,λr7 H7 a7 b7 h7 k7 q7=>?_⟩
    walk_at "w"
    intro c nc
    have kk:=k4.trans (k5.trans (k6.trans k7))
    have qq:=q4.trans (q5.trans (q6.trans q7))
    refine k (.ref c) (some ⟨r5,r6,r7,t,g⟩) _ ⟨c,rfl,⟨aL⟩⟩ (λs e=>?_) (λc' e=>by cases e;exact hJ kk h7 nc) (h7.same (aQ.new nc)) (kk.trans (aQ.new nc).keep) (qq.trans (d7.of (aQ.new nc p)))
    cases e
    exact⟨⟨a5,by show r5<=8;omega⟩,⟨a6,by show r6<=8;omega⟩,⟨a7,by show r7<=8;omega⟩,ht,hg⟩
def lvO:Option SS->Int->List Int
 |none,_=>[0]
 |some s,l=>upL (max 0 (l - s.out)) (min s.cap (l+s.into)+1 - max 0 (l - s.out)).toNat
theorem aGG{l:Addr}{H H2:Hp}(h:H l=none)(s:aQ H H2):aQ H (del l H2):=λb o e=>by rw[zF (bG h e)];exact s b o e
theorem aHO{α:Type}{l:List α}{x:α}(h:l.Nodup)(n:x∉l):(l ++ [x]).Nodup:=by
 rw[List.nodup_append]
 refine⟨h,by simp,λa ha b hb z=>?_⟩
 rw[Qv9.mp hb] at z
 exact n (by rw[<-z];exact ha)
theorem aLk:Am (10 ^ (12:Int).toNat):=⟨by decide,by decide⟩
theorem bE.upR{qs:List Addr}(hh:bE H p)(hl:H l=some (.lst (qs.map V.ref)))(k:bM l H H'):bE H' p:=by
 obtain⟨d,c,q,ms,hp,hq,hne,hqp⟩:=hh.ex
 refine⟨⟨d,c,q,ms,k _ _ hp (Ne.symm (hh.aK9 hl)),k _ _ hq (λz=>?_),hne,hqp⟩⟩
 rw[z,hl] at hq
 cases ms with
 |nil=>exact hne rfl
 |cons m ms=>
  cases qs with
  |nil=>cases hq
  |cons _ _=>cases hq
theorem aC9(n:Nat):ixN (n+1) (-1)=some n:=by
 unfold ixN
 rw[if_neg (by omega),if_pos (by omega)]
 congr 1
 omega
theorem RL.set{α:Type}{P:Addr->α->Prop}{as:List Addr}{xs:List α}(h:RL P as xs){i:Nat}{a:Addr}{x:α}(hp:P a x):RL P (as.set i a) (xs.set i x):=by
 refine⟨by rw[Rz9,Rz9,h.len],λj q u hq hu=>?_⟩
 rw[List.getElem?_set] at hq hu
 by_cases e:i=j
 ·rw[if_pos e] at hq hu
  split at hq
  ·split at hu
   ·cases hq;cases hu;exact hp
   ·cases hu
  ·cases hq
 ·rw[if_neg e] at hq hu
  exact h.at_ j q u hq hu
theorem aGH{ms:List MS}{i:Nat}{m:MS}(h:∀m∈ms,m.Good)(g:m.Good):∀m'∈ms.set i m,m'.Good:=λm' hm=>by
 rcases Sp9 hm with h1|h1
 ·exact h m' h1
 ·rw[h1];exact g
theorem aJu{u d b r t l:Int}{ms:List Int}(h:some (HO.lst [.int u,.int d,.int b,.int r,.int t,.int l,.ref pl])=some (HO.lst (ms.map V.int))):False:=by
 injection h with h
 injection h with h
 have z:(ms.map V.int)[6]?=some (.ref pl):=by rw[<-h];rfl
 rw[nK] at z
 obtain⟨n,_,e⟩:=Qr9.mp z
 cases e
theorem aLl{n:Nat}{k:Int}(h0:0<=k)(h:k.toNat < n):ixN n k=some k.toNat:=by
 obtain⟨j,rfl⟩:=Tg9 h0
 unfold ixN
 rw[if_pos h0,if_pos (by omega)]
theorem MS.aO0(m:MS)(g:m.Good){v r:Int}(av:Am v)(r0:0<=r)(r1:r < 4)(pl:Addr):∃m':MS,[V.int m.up,.int m.down,.int m.begin_,.int m.run,.int m.rest,.int m.least,.ref pl].set (2+r).toNat (.int v)=[V.int m'.up,.int m'.down,.int m'.begin_,.int m'.run,.int m'.rest,.int m'.least,.ref pl]/\m'.Good/\m'.pieces=m.pieces:=by
 rcases(show r=0\/r=1\/r=2\/r=3 by omega) with rfl|rfl|rfl|rfl
 ·exact⟨{ m with begin_:=v },rfl,⟨g.up,g.down,av,g.run,g.rest,g.least,g.pieces⟩,rfl⟩
 ·exact⟨{ m with run:=v },rfl,⟨g.up,g.down,g.begin_,av,g.rest,g.least,g.pieces⟩,rfl⟩
 ·exact⟨{ m with rest:=v },rfl,⟨g.up,g.down,g.begin_,g.run,av,g.least,g.pieces⟩,rfl⟩
 ·exact⟨{ m with least:=v },rfl,⟨g.up,g.down,g.begin_,g.run,g.rest,av,g.pieces⟩,rfl⟩
def zJ(K:W.Frag):Sp:=λvs H Q _=>∃(p:Addr) (n:Int),vs=[.ref p,.int n]/\bE H p/\0<=n/\n<=6/\
 ∀(s:Addr) (W:WS) H',rE H' s W->W.Good->bE H' p->bM p H H'->H s=none->Q (.ref s) H'
theorem zK{mg:Str->Option Value}{a:j8}(tx:Txt K mg a):bP P w K mg base hU 4 a.gM a.gN ["_law_hand","_law_most_here"] (zJ K):=by
 have aK:=cH (P:=P) (w:=w) (base:=base) tx
 have yS:=aCU (P:=P) (w:=w) (base:=base) tx
 have aGI:=aE8 (P:=P) (w:=w) (base:=base) tx
 have aFj:=aDQ (P:=P) (w:=w) (base:=base) tx
 refine tx.kO.ok bR (λvs H Q E h=>?_) (λcdv A outer s H vs Q E hr h=>?_)
 ·obtain⟨p,n,rfl,_⟩:=h
  rfl
 ·obtain⟨p,n,rfl ,hh,n0,n1,k⟩:=h
  have hu:=kT hr
  refine bD (aD (sG (i:=2) bR.nd rfl (Or.inr rfl) (nM (aE (yS) (hr.mono (by decide)) (by rfl) tx.rQ tx.mM.kp tx.rP .nil aT (aA (Z.pv 0) aC)) (aE (yS) (hr.mono (by decide)) (by rfl) tx.rQ tx.mM.kp tx.rP .nil aT (aA (Z.pv 0) aC))))
   (aD (sG (i:=3) bR.nd rfl (Or.inr rfl) (cF aEd (by rfl) tx.aBE aG8 (aA (gQ (r:=mZ K) (dS hu) (aE (aK) (hr.mono (by decide)) (by rfl) tx.aS tx.aP.kp tx.aR .nil aT (aA (Z.pv 0) (aA aB aC))) aB (bK _)) aC)))
   (aD (aJ (i:=4) bR.nd (aE (aK) (hr.mono (by decide)) (by rfl) tx.aS tx.aP.kp tx.aR .nil aT (aA (Z.pv 0) (aA (aH (K':=K) (nM (aI bL (Z.pv 1) aB) aB) (Z.pv 3)) aC))))
   (aD (o6 (k:=1) (idx:=[2,0,3]) (N:=["_law_k","_law_by","_law_hand","_law_wide"]) (i:=5) bR.nd rfl (Or.inl rfl) (dA (sc:=aF cQ) (NX:=["_law_hand","_law_most_here","_law_by","_law_wide","_law_many","_law_specs","_law_store_here","_law_lack"]) rfl rfl rfl (by decide +kernel)) rfl (cN (by rfl) tx.dZ (aA (Z.pv 4) aC)) (λ_ _ _ _=>(aO (i:=0) (show(["_law_k","_law_by","_law_hand","_law_wide"]:List Str).Nodup by decide +kernel))) (eV (by decide)) (λ_ _ _ _=>cA) (λ_ _ _ _=>(aE (aGI) (hr.mono (by decide)) (by rfl) tx.aBs tx.v8.kp tx.aBr .nil aT (aA (Z.pv 2) (aA (Z.pv 1) (aA (aH (K':=K) (nM aB aB) (Z.pv 3)) aC))))))
   (aD (bH (fS (jM (aW (r:=aHb K) (aEF hu) (Z.pv 5) (kZ aC) (bK _)) (gR (aW (r:=mZ K) (dS hu) (aE (aK) (hr.mono (by decide)) (by rfl) tx.aS tx.aP.kp tx.aR .nil aT (aA (Z.pv 0) (aA aB aC))) aB (bK _))))) (aG (oU (aI aCh aB aB) (xP (aH (K':=K) (Z.pv 5) aB) (aI bL aB (aE (aK) (hr.mono (by decide)) (by rfl) tx.aS tx.aP.kp tx.aR .nil aT (aA (Z.pv 0) (aA aB aC)))) set_list))) bC)
   (aD (bH (fS (jM (aW (r:=aHb K) (aEF hu) (Z.pv 5) (kZ aC) (bK _)) (gR (aW (r:=mZ K) (dS hu) (aE (aK) (hr.mono (by decide)) (by rfl) tx.aS tx.aP.kp tx.aR .nil aT (aA (Z.pv 0) (aA aB aC))) aB (bK _))))) (aG (oU (aH (K':=K) (Z.pv 5) aB) (xP (Z.pv 5) (o5 yX aB) set_list))) bC)
   (aD (aJ (i:=6) bR.nd (aE (aFj) (hr.mono (by decide)) (by rfl) tx.aAr tx.uC.kp tx.aAq .nil aT (aA (Z.pv 0) (aA (Z.pv 2) aC))))
   (aD (aJ (i:=7) bR.nd (aI bN (aH (K':=K) (Z.pv 2) aB) (aE (aK) (hr.mono (by decide)) (by rfl) tx.aS tx.aP.kp tx.aR .nil aT (aA (Z.pv 0) (aA aB aC)))))
   (aD (bH (fS (jM (aW (r:=mZ K) (dS hu) (Z.pv 3) aB (bK _)) (gR (aW xN (Z.pv 6) hV (bK _))))) (aG (aJ (i:=6) bR.nd (aI bL (zX (aE (aK) (hr.mono (by decide)) (by rfl) tx.aS tx.aP.kp tx.aR .nil aT (aA (Z.pv 0) (aA aB aC))) (aE (aK) (hr.mono (by decide)) (by rfl) tx.aS tx.aP.kp tx.aR .nil aT (aA (Z.pv 0) (aA aB aC))) (aE (aK) (hr.mono (by decide)) (by rfl) tx.aS tx.aP.kp tx.aR .nil aT (aA (Z.pv 0) (aA aB aC)))) (p9 (rs:=aI1 K) aL9 (Z.pv 6) (sY aB) sX)))) bC)
   (aD (bH (fS (jM (aW (r:=mZ K) (dS hu) (Z.pv 3) aB (bK _)) (gR (aW (r:=mZ K) (dS hu) (aE (aK) (hr.mono (by decide)) (by rfl) tx.aS tx.aP.kp tx.aR .nil aT (aA (Z.pv 0) (aA aB aC))) aB (bK _))))) (aG (aJ (i:=7) bR.nd (aI aCh aB aB))) bC)
   (aG (aM (aH9 (Z.pv 5) (Z.pv 6) (Z.pv 7) (Z.pv 2) (Z.pv 3)))))))))))))) ?_
  refine aV (σ:=[some (.ref p),some (.int n),none,none,none,none,none,none]) rfl ?_
  walk_at "w"
  refine⟨p,rfl,hh,λx H1 x0 x1 h1 k1 _=>?_⟩
  walk_at "w"
  refine⟨p,rfl,h1,λy H2 y0 y1 h2 k2 _=>?_⟩
  walk_at "w"
  intro b nb
  obtain⟨H3,e3,sb,hb3⟩:=nw _ nb;rw[e3]
  have h3:=h2.same sb
  have K3:bM p H H3:=k1.trans (k2.trans sb.keep)
  have nbH:H b=none:=hJ (k1.trans k2) h2 nb
  have bp:b≠p:=hh.aGu nbH
  walk_at "w"
  refine⟨p,_,rfl,h3,by decide,by decide,λr4 H4 a4 b4 h4 k4 _=>?_⟩
  walk_at "w"
  obtain⟨wd,hwd,hwd0⟩ : ∃wd:Int,(if decide (r4=7)=true then (1:Int) else 0)=wd/\(wd=0\/wd=1):=by
   by_cases h:r4=7
   ·exact⟨1,by rw[if_pos (decide_eq_true h)],.inr rfl⟩
   ·exact⟨0,by rw[if_neg (by simpa using h)],.inl rfl⟩
  rw[hwd]
  walk_at "w"
  have hb4:=k4 _ _ hb3 bp
  have K4:=K3.trans k4
  intro l1 nl1
  obtain⟨H5,e5,s5,g5⟩:=nw _ nl1;rw[e5]
  obtain⟨M,hM,M0,M1⟩ : ∃M:Int,uT [V.int (n+1),.int 7] wd=some (.int M)/\1<=M/\M<=7:=by
   rcases hwd0 with rfl|rfl
   ·exact⟨n+1,rfl,by omega,by omega⟩
   ·exact⟨7,rfl,by decide,by decide⟩
  have hb5:=s5 _ _ hb4
  have h5:=h4.same s5
  have K5:=K4.trans (s5.keep (p:=p))
  walk_at "w"
  refine⟨p,_,rfl,h5,by omega,by omega,λmany H6 m0 m1 h6 k6 _=>?_⟩
  have hb6:=k6 _ _ hb5 bp
  have K6:=K5.trans k6
  repeat walk_at "st"
  refine iX (λσ' H'=>∃(l:Addr) (qs:List Addr) (ms:List MS),σ'=[some (.ref p),some (.int n),some (.ref b),some (.int wd),some (.int many),some (.ref l),none,none]/\H' l=some (.lst (qs.map V.ref))/\qs.length<=6/\RL (dE (del l H')) qs ms/\(∀m∈ms,m.Good)/\H' b=some (.lst [.int x,.int y])/\bE H' p/\bM p H H'/\H l=none/\b≠l/\l≠p/\qs.Nodup/\∀q∈qs,H q=none) (λN hN=>?_) ?_
  ·walk_at "w"
   refine⟨by omega,by omega,?_⟩
   refine oX (λi us H'=>∃(qs:List Addr) (ms:List MS),us=qs.map V.ref/\qs.length=i/\RL (dE H') qs ms/\(∀m∈ms,m.Good)/\H' b=some (.lst [.int x,.int y])/\bE H' p/\bM p H H'/\qs.Nodup/\∀q∈qs,H q=none) ⟨[],[],rfl,rfl,RL.nil,(λm h=>by cases h),hb6,h6,K6,List.nodup_nil,λq h=>by cases h⟩ (cZ (by omega))
    (λi us H' hi ⟨qs,ms,f1,f2,f3,f4,f5,f6,f7,f8,f9⟩=>by rw[f1,bZ];omega) (λi us H' hi ⟨qs,ms,f1,f2,f3,f4,f5,f6,f7,f8,f9⟩=>?_) (λus H' ⟨qs,ms,f1,f2,f3,f4,f5,f6,f7,f8,f9⟩=>?_)
   ·obtain⟨L,hL,L0,L1⟩ : ∃L:Int,uT [V.int 3,.int 12] wd=some (.int L)/\1<=L/\L<=12:=by
     rcases hwd0 with rfl|rfl
     ·exact⟨3,rfl,by decide,by decide⟩
     ·exact⟨12,rfl,by decide,by decide⟩
    walk_at "w"
    intro l2 nl2
    obtain⟨H7,e7,s7,g7⟩:=nw _ nl2;rw[e7]
    walk_at "w"
    refine⟨p,b,x,y,L,rfl,f6.same s7,s7 _ _ f5,x0,x1,y0,y1,L0,L1,λs m H8 hs gm _ _ h8 k8 nA=>?_⟩
    have nds:(qs ++ [s]).Nodup:=aHO f8 λz=>by
     obtain⟨j,hj⟩:=Rh9 z
     have hj':j < ms.length:=by rw[<-f3.len];exact(uS.mp hj).1
     obtain⟨pl',hq',_⟩:=(f3.at_ j s _ hj (fH hj')).ex
     rw[s7 _ _ hq'] at nA
     cases nA
    have frs:∀q∈qs ++ [s],H q=none:=λq hq=>by
     rcases Rd9.mp hq with z|z
     ·exact f9 q z
     ·rw[Qv9.mp z];exact hJ (f7.trans s7.keep) (f6.same s7) nA
    refine⟨qs ++ [s],ms ++ [m],by rw[f1,xY];rfl,by rw[xX,f2];rfl,(f3.imp λa x z=>z.tr (s7.tr.trans ((f6.same s7).tr k8))).snoc hs,λm' hm'=>?_,k8 _ _ (s7 _ _ f5) bp,h8,f7.trans (s7.keep.trans k8),nds,frs⟩
    rcases Rd9.mp hm' with h|h
    ·exact f4 m' h
    ·rw[Qv9.mp h];exact gm
   ·subst f1
    intro l nl
    obtain⟨H7,e7,sl,g7⟩:=nw _ nl;rw[e7]
    have nlH:H l=none:=hJ f7 f6 nl
    walk_at "w"
    exact hN _ _ ⟨l,qs,ms,rfl,g7,by omega,f3.imp λa x z=>z.same (aGG nl sl),f4,sl _ _ f5,f6.same sl,f7.trans sl.keep,nlH,bG nl f5,hh.aGu nlH,f8,f9⟩
  rintro σ7 H7 ⟨l,qs7,ms7,rfl,hl7,lq7,rl7,gd7,hb7,h7,K7,nlH,bl,lp,nd7,fr7⟩
  refine iX (λσ' H'=>∃(qs:List Addr) (ms:List MS),σ'=[some (.ref p),some (.int n),some (.ref b),some (.int wd),some (.int many),some (.ref l),none,none]/\H' l=some (.lst (qs.map V.ref))/\qs.length<=6/\RL (dE (del l H')) qs ms/\(∀m∈ms,m.Good)/\H' b=some (.lst [.int x,.int y])/\bE H' p/\bM p H H') (λN hN=>?_) ?_
  ·walk_at "w"
   intro f1 nf1
   obtain⟨H8,e8,se1,g8⟩:=nw _ nf1;rw[e8]
   have hl8:=se1 _ _ hl7
   have h8:=h7.same se1
   have hb8:=se1 _ _ hb7
   have K8:=K7.trans (se1.keep (p:=p))
   have rl8:RL (dE (del l H8)) qs7 ms7:=rl7.imp λa x z=>z.tr se1.tr.del
   walk_at "w"
   refine⟨_,aEK (bS.of hl8) (bS.of g8),?_⟩
   walk_at "w"
   refine iW (λhne=>?_) (λhne=>?_)
   ·have hqs:qs7≠[]:=λz=>by rw[z] at hne;simp at hne
    walk_at "w"
    refine⟨p,_,rfl,h8,by decide,by decide,λr9 H9 a9 b9 h9 k9 _=>?_⟩
    have hl9:=k9 _ _ hl8 lp
    have hb9:=k9 _ _ hb8 bp
    have K9:=K8.trans k9
    have rl9:RL (dE (del l H9)) qs7 ms7:=rl8.imp λa x z=>z.tr (h8.tr k9).del
    walk_at "w"
    refine cE (λhr9=>?_) (λhr9=>?_)
    ·obtain⟨q0,qr,rfl⟩ : ∃q0 qr,qs7=q0::qr:=by
      cases qs7 with
      |nil=>exact absurd rfl hqs
      |cons q0 qr=>exact⟨q0,qr,rfl⟩
     have lms:0 < ms7.length:=by rw[<-rl9.len];exact Nat.zero_lt_succ _
     obtain⟨m0',mr,rfl⟩ : ∃m0' mr,ms7=m0'::mr:=by
      cases ms7 with
      |nil=>exact absurd lms (Rw9 _)
      |cons a r=>exact⟨a,r,rfl⟩
     have hs0:=rl9.at_ 0 q0 m0' rfl rfl
     have g0:=gd7 m0' (Qz9 ..)
     walk_at "w"
     refine aHc (bS.of hl9) (eQ (j:=0) rfl) ?_
     walk_at "w"
     refine⟨p,_,rfl,h9,by decide,by decide,λr10 H10 a10 b10 h10 k10 _=>?_⟩
     have hl10:=k10 _ _ hl9 lp
     have hb10:=k10 _ _ hb9 bp
     have K10:=K9.trans k10
     have rl10:RL (dE (del l H10)) (q0::qr) (m0'::mr):=rl9.imp λa x z=>z.tr (h9.tr k10).del
     have hs10:=rl10.at_ 0 q0 m0' rfl rfl
     obtain⟨pl0,hq0,hpc0⟩:=hs10.ex
     have q0l:q0≠l:=λz=>by rw[z,aEp] at hq0;cases hq0
     have hq0':=xC _ _ hq0
     have q0p:q0≠p:=h10.aGt hq0' (by simp)
     have q0b:b≠q0:=λz=>by rw[<-z,hb10] at hq0';cases hq0'
     walk_at "w"
     refine pX (j:=(2+r10).toNat) hq0' (aLl (by omega) (by show(2+r10).toNat < 7;omega)) ?_
     obtain⟨v12,hv12⟩ : ∃v:Int,v=10 ^ (12:Int).toNat:=⟨_,rfl⟩
     rw[<-hv12]
     have av:Am v12:=by rw[hv12];exact aLk
     obtain⟨mm,emm,gmm,epc⟩:=MS.aO0 m0' g0 av a10 b10 pl0
     rw[emm]
     obtain⟨J11,i11,k11,j11⟩:=wr H10 q0 _;rw[i11]
     have pl0q:pl0≠q0:=λz=>by
      obtain⟨qs',e',_⟩:=hpc0.ex
      rw[z,hq0] at e'
      cases qs' with
      |nil=>cases e'
      |cons _ _=>cases e'
     have kd:∀d o,del l H10 d=some o->d≠q0->del l J11 d=some o:=λd o e n=>by
      have nl':d≠l:=λz=>by rw[z,aEp] at e;cases e
      rw[zF nl'] at e ⊢
      exact k11 _ _ e n
     have hpc1:yB (del l J11) pl0 m0'.pieces:=by
      obtain⟨qs',e',t'⟩:=hpc0.ex
      exact⟨qs',kd _ _ e' pl0q,t'.len,λj q t h1 h2=>kd _ _ (t'.at_ j q t h1 h2) λz=>by have y:=t'.at_ j q t h1 h2;rw[z,hq0] at y;cases y⟩
     have hsp:dE (del l J11) q0 mm:=⟨pl0,mV j11 q0l,by rw[epc];exact hpc1⟩
     walk_at "w"
     refine hN _ _ ⟨q0::qr,mm::mr,rfl,k11 _ _ hl10 (Ne.symm q0l),lq7,⟨by have:=rl10.len;simpa using this,λj a z h1 h2=>?_⟩,aGH (i:=0) gd7 gmm,k11 _ _ hb10 q0b,?_,λd o e nd=>k11 _ _ (K10 _ _ e nd) (bG (fr7 q0 (.head _)) e)⟩
     ·match j,h1,h2 with
      |0,h1,h2=>cases h1;cases h2;exact hsp
      |j+1,h1,h2=>
       have hx:=rl10.at_ (j+1) a z h1 h2
       have aq:a≠q0:=λy=>(Rm9.mp nd7).1 (by rw[<-y];exact vD h1)
       obtain⟨pl1,e1',hpc'⟩:=hx.ex
       obtain⟨qs',e2',t'⟩:=hpc'.ex
       have p1q:pl1≠q0:=λy=>by
        rw[y,hq0] at e2'
        cases qs' with
        |nil=>cases e2'
        |cons _ _=>cases e2'
       exact⟨pl1,kd _ _ e1' aq,qs',kd _ _ e2' p1q,t'.len,λj q t h1 h2=>kd _ _ (t'.at_ j q t h1 h2) λy=>by have w:=t'.at_ j q t h1 h2;rw[y,hq0] at w;cases w⟩
     ·obtain⟨dd,cc,qq,mms,hp',hq',hne',hqp'⟩:=h10.ex
      refine⟨⟨dd,cc,qq,mms,k11 _ _ hp' (Ne.symm q0p),k11 _ _ hq' (λy=>?_),hne',hqp'⟩⟩
      rw[y,hq0'] at hq'
      exact aJu hq'
    ·walk_at "w"
     exact hN _ _ ⟨qs7,ms7,rfl,hl9,lq7,rl9,gd7,hb9,h9,K9⟩
   ·walk_at "w"
    exact hN _ _ ⟨qs7,ms7,rfl,hl8,lq7,rl8,gd7,hb8,h8,K8⟩
  rintro σ8 H8 ⟨qs8,ms8,rfl,hl8,lq8,rl8,gd8,hb8,h8,K8⟩
  refine iX (λσ' H'=>∃(ms:List MS),σ'=[some (.ref p),some (.int n),some (.ref b),some (.int wd),some (.int many),some (.ref l),none,none]/\uN H' l ms/\ms.length<=6/\(∀m∈ms,m.Good)/\H' b=some (.lst [.int x,.int y])/\bE H' p/\bM p H H') (λN hN=>?_) ?_
  ·walk_at "w"
   intro f1 nf1
   obtain⟨H9,e9,se1,g9⟩:=nw _ nf1;rw[e9]
   have hl9:=se1 _ _ hl8
   have h9:=h8.same se1
   have hb9:=se1 _ _ hb8
   have K9:=K8.trans (se1.keep (p:=p))
   have rl9:RL (dE (del l H9)) qs8 ms8:=rl8.imp λa x z=>z.tr se1.tr.del
   have lms9:=rl9.len
   walk_at "w"
   refine⟨_,aEK (bS.of hl9) (bS.of g9),?_⟩
   walk_at "w"
   refine iW (λhne=>?_) (λhne=>?_)
   ·have hqs:qs8≠[]:=λz=>by rw[z] at hne;simp at hne
    walk_at "w"
    refine⟨p,_,rfl,h9,by decide,by decide,λr9 H10 a9 b9 h10 k10 _=>?_⟩
    have hl10:=k10 _ _ hl9 lp
    have hb10:=k10 _ _ hb9 bp
    have K10:=K9.trans k10
    have rl10:RL (dE (del l H10)) qs8 ms8:=rl9.imp λa x z=>z.tr (h9.tr k10).del
    walk_at "w"
    refine cE (λhr9=>?_) (λhr9=>?_)
    ·obtain⟨q0,qr,rfl⟩ : ∃q0 qr,qs8=q0::qr:=by
      cases qs8 with
      |nil=>exact absurd rfl hqs
      |cons q0 qr=>exact⟨q0,qr,rfl⟩
     obtain⟨m0',mr,rfl⟩ : ∃m0' mr,ms8=m0'::mr:=by
      cases ms8 with
      |nil=>cases lms9
      |cons a r=>exact⟨a,r,rfl⟩
     have hs0:=rl10.at_ 0 q0 m0' rfl rfl
     walk_at "w"
     refine aHc (bS.of hl10) (eQ (j:=0) rfl) ?_
     walk_at "w"
     refine pX (j:=qr.length) hl10 (by rw[bZ,Ra9];exact aC9 _) ?_
     obtain⟨J11,i11,k11,j11⟩:=wr H10 l _;rw[i11]
     have dl:del l J11=del l H10:=by rw[<-i11,aIn]
     have hset:=rl10.set (i:=qr.length) hs0
     walk_at "w"
     refine hN _ _ ⟨(m0'::mr).set qr.length m0',rfl,⟨(q0::qr).set qr.length q0,?_,hset.imp λa x z=>((dl▸z:dE (del l J11) a x)).same xC⟩,by rw[Rz9,<-lms9];exact lq8,aGH gd8 (gd8 m0' (Qz9 ..)),k11 _ _ hb10 bl,h10.upR hl10 k11,λd o e nd=>k11 _ _ (K10 _ _ e nd) (bG nlH e)⟩
     rw[j11,Ty9]
    ·walk_at "w"
     exact hN _ _ ⟨ms8,rfl,⟨qs8,hl10,rl10.imp λa x z=>z.same xC⟩,by rw[<-lms9];exact lq8,gd8,hb10,h10,K10⟩
   ·walk_at "w"
    exact hN _ _ ⟨ms8,rfl,⟨qs8,hl9,rl9.imp λa x z=>z.same xC⟩,by rw[<-lms9];exact lq8,gd8,hb9,h9,K9⟩
  rintro σ9 H9 ⟨ms9,rfl,sp9,ln9,gd9,hb9,h9,K9⟩
  walk_at "w"
  refine⟨p,b,x,y,rfl,h9,hb9,x0,x1,λv o H10 st10 go10 fr10 h10 k10 _=>?_⟩
  have T10:=h9.tr k10
  have sp10:=sp9.tr T10
  have hb10:=k10 _ _ hb9 bp
  have K10:=K9.trans k10
  walk_at "w"
  refine⟨p,_,rfl,h10,by decide,by decide,λr11 H11 a11 b11 h11 k11 _=>?_⟩
  have T11:=h10.tr k11
  have sp11:=sp10.tr T11
  have st11:=st10.tr T11
  have hb11:=k11 _ _ hb10 bp
  have K11:=K10.trans k11
  have g11:0<=y*r11/\y*r11<=550000000000:=⟨Ri9 (by omega) (by omega),Rq9 (Qq9 (show r11<=11 by omega) (by omega)) (by omega)⟩
  repeat walk_at "st"
  refine iX (λσ' H'=>∃(v:V) (o:Option SS),σ'=[some (.ref p),some (.int n),some (.ref b),some (.int wd),some (.int many),some (.ref l),some v,some (.int (y*r11))]/\uN H' l ms9/\aHM H' v o/\(∀s,o=some s->s.Good)/\H' b=some (.lst [.int x,.int y])/\bE H' p/\bM p H H') (λN hN=>?_) ?_
  ·walk_at "w"
   refine cE (λhw1=>?_) (λhw1=>?_)
   ·cases o with
    |none=>
     replace st11:v=.non:=st11
     subst st11
     walk_at "w"
     exact hN _ _ ⟨_,none,rfl,sp11,rfl,go10,hb11,h11,K11⟩
    |some s=>
     obtain⟨c,rfl,hc⟩:=st11
     have gs:=go10 s rfl
     walk_at "w"
     refine⟨p,_,rfl,h11,by decide,by decide,λu1 H12 a12 b12 h12 k12 _=>?_⟩
     walk_at "w"
     refine⟨p,_,rfl,h12,by decide,by decide,λu2 H13 a13 b13 h13 k13 _=>?_⟩
     walk_at "w"
     refine⟨p,_,rfl,h13,by decide,by decide,λu3 H14 a14 b14 h14 k14 _=>?_⟩
     have T14:=(h11.tr k12).trans ((h12.tr k13).trans (h13.tr k14))
     have hc14:=(hc.tr T14).at_
     walk_at "w"
     intro c1 nc1
     obtain⟨J1,i1,t1,j1⟩:=nw _ nc1;rw[i1]
     have hc15:=t1 _ _ hc14
     walk_at "w"
     refine aAU (bS.of hc15) ?_
     rw[show pV [V.int s.cap,.int s.into,.int s.out,.int s.takes,.int s.gives] (some 3) none=[.int s.takes,.int s.gives] from rfl]
     intro c2 nc2
     obtain⟨J2,i2,t2,j2⟩:=nw _ nc2;rw[i2]
     walk_at "w"
     refine xM (t2 _ _ j1) j2 (cZ (by simp)) ?_
     intro c3 nc3
     obtain⟨J3,i3,t3,j3⟩:=nw _ nc3;rw[i3]
     have tt:=t1.trans (t2.trans t3)
     walk_at "w"
     refine hN _ _ ⟨_,some ⟨u1,u2,u3,s.takes,s.gives⟩,rfl,sp11.tr (T14.trans tt.tr),⟨c3,rfl,⟨j3⟩⟩,λs' e=>?_,(T14.trans tt.tr) _ _ hb11 (aCX (by simp)),h14.same tt,K11.trans (k12.trans (k13.trans (k14.trans tt.keep)))⟩
     cases e
     exact⟨⟨a12,by show u1<=8;omega⟩,⟨a13,by show u2<=8;omega⟩,⟨a14,by show u3<=8;omega⟩,gs.takes,gs.gives⟩
   ·walk_at "w"
    exact hN _ _ ⟨v,o,rfl,sp11,st11,go10,hb11,h11,K11⟩
  rintro σ12 H12 ⟨v,o,rfl,sp12,st12,go12,hb12,h12,K12⟩
  refine iX (λσ' H'=>∃(lk:Int),σ'=[some (.ref p),some (.int n),some (.ref b),some (.int wd),some (.int many),some (.ref l),some v,some (.int lk)]/\Am lk/\uN H' l ms9/\aHM H' v o/\H' b=some (.lst [.int x,.int y])/\bE H' p/\bM p H H') (λN hN=>?_) ?_
  ·walk_at "w"
   refine cE (λhw1=>?_) (λhw1=>?_)
   ·walk_at "w"
    refine⟨p,_,rfl,h12,by decide,by decide,λu1 H13 a13 b13 h13 k13 _=>?_⟩
    have T13:=h12.tr k13
    walk_at "w"
    refine cE (λhz=>?_) (λhz=>?_)
    ·walk_at "w"
     exact hN _ _ ⟨_,rfl,aLk,sp12.tr T13,st12.tr T13,k13 _ _ hb12 bp,h13,K12.trans k13⟩
    ·walk_at "w"
     exact hN _ _ ⟨_,rfl,⟨g11.1,by omega⟩,sp12.tr T13,st12.tr T13,k13 _ _ hb12 bp,h13,K12.trans k13⟩
   ·walk_at "w"
    exact hN _ _ ⟨_,rfl,⟨g11.1,by omega⟩,sp12,st12,hb12,h12,K12⟩
  rintro σ13 H13 ⟨lk,rfl,alk,sp13,st13,hb13,h13,K13⟩
  walk_at "w"
  intro s ns
  obtain⟨J,i,t,j⟩:=nw _ ns;rw[i]
  walk_at "w"
  exact k s ⟨ms9,o,lk,x,y,wd⟩ J ⟨l,v,b,j,sp13.tr t.tr,st13.tr t.tr,t _ _ hb13⟩ ⟨gd9,ln9,go12,alk,⟨x0,x1⟩,⟨y0,y1⟩,hwd0⟩ (h13.same t) (K13.trans t.keep) (hJ K13 h13 ns)
theorem aMV{K:W.Frag}{H:Hp}{n:Nat}{pl pl':Addr}{ps ps':List (Int×Int)}(h:yB H pl ps)(h':yB H pl' ps'):∃b,EqN K H (n+2) (.ref pl) (.ref pl') b/\(b=true->ps=ps'):=by
 obtain⟨qs,h1,h2⟩:=h.ex
 obtain⟨qs',h1',h2'⟩:=h'.ex
 refine⟨_,.inr ⟨pl,pl',_,_,λj=>(2 == 2 && (List.range 2).all λi=>match ps[j]?,ps'[j]? with|some t,some t'=>(match i with|0=>decide (t.1=t'.1)|_=>decide (t.2=t'.2))|_,_=>true),rfl,rfl,.inl ⟨bS.of h1,bS.of h1'⟩,λj u v hu hv=>?_,rfl⟩,λhb=>?_⟩
 ·rw[nK] at hu hv
  cases e1:qs[j]? with
  |none=>rw[e1] at hu;cases hu
  |some q=>
   cases e2:qs'[j]? with
   |none=>rw[e2] at hv;cases hv
   |some q'=>
    rw[e1] at hu
    rw[e2] at hv
    cases hu
    cases hv
    have l1:j < ps.length:=by rw[<-h2.len];exact(uS.mp e1).1
    have l2:j < ps'.length:=by rw[<-h2'.len];exact(uS.mp e2).1
    have t1:=h2.at_ j q _ e1 (fH l1)
    have t2:=h2'.at_ j q' _ e2 (fH l2)
    refine .inr ⟨q,q',_,_,λi=>match ps[j]?,ps'[j]? with|some t,some t'=>(match i with|0=>decide (t.1=t'.1)|_=>decide (t.2=t'.2))|_,_=>true,rfl,rfl,.inr ⟨mX.of t1,mX.of t2⟩,λi u v hu hv=>?_,rfl⟩
    rw[fH l1,fH l2]
    match i,hu,hv with
    |0,hu,hv=>
     cases hu;cases hv
     cases n with
     |zero=>exact⟨rfl,rfl,rfl⟩
     |succ n=>exact .inl ⟨rfl,rfl,rfl⟩
    |1,hu,hv=>
     cases hu;cases hv
     cases n with
     |zero=>exact⟨rfl,rfl,rfl⟩
     |succ n=>exact .inl ⟨rfl,rfl,rfl⟩
    |_+2,hu,_=>simp at hu
 ·rw[Rl9,Sm9] at hb
  obtain⟨b1,b2⟩:=hb
  have hl:ps.length=ps'.length:=by
   have:=beq_iff_eq.mp b1
   rw[bZ,bZ,h2.len,h2'.len] at this
   exact this
  refine List.ext_getElem hl λj l1 l2=>?_
  have c:=b2 j (Rx9.mpr (by rw[bZ,h2.len];exact l1))
  rw[Rl9,Sm9] at c
  have c0:=c.2 0 (by simp)
  have c1:=c.2 1 (by simp)
  simp only[fH l1,fH l2] at c0 c1
  exact Prod.ext (of_decide_eq_true c0) (of_decide_eq_true c1)
theorem aLm{K:W.Frag}{H:Hp}{s t:Addr}{m m':MS}(h1:dE H s m)(h2:dE H t m'):∃b,EqN K H 8 (.ref s) (.ref t) b/\(b=true->m=m'):=by
 obtain⟨pl,e1,p1⟩:=h1.ex
 obtain⟨pl',e2,p2⟩:=h2.ex
 obtain⟨bp,hbp,ep⟩:=aMV (K:=K) (n:=5) p1 p2
 refine⟨_,.inr ⟨s,t,_,_,λj=>match j with|0=>decide (m.up=m'.up)|1=>decide (m.down=m'.down)|2=>decide (m.begin_=m'.begin_)|3=>decide (m.run=m'.run)|4=>decide (m.rest=m'.rest)|5=>decide (m.least=m'.least)|_=>bp,rfl,rfl,.inl ⟨bS.of e1,bS.of e2⟩,λj u v hu hv=>?_,rfl⟩,λhb=>?_⟩
 ·match j,hu,hv with
  |0,hu,hv=>cases hu;cases hv;exact .inl ⟨rfl,rfl,rfl⟩
  |1,hu,hv=>cases hu;cases hv;exact .inl ⟨rfl,rfl,rfl⟩
  |2,hu,hv=>cases hu;cases hv;exact .inl ⟨rfl,rfl,rfl⟩
  |3,hu,hv=>cases hu;cases hv;exact .inl ⟨rfl,rfl,rfl⟩
  |4,hu,hv=>cases hu;cases hv;exact .inl ⟨rfl,rfl,rfl⟩
  |5,hu,hv=>cases hu;cases hv;exact .inl ⟨rfl,rfl,rfl⟩
  |6,hu,hv=>cases hu;cases hv;exact hbp
  |_+7,hu,_=>simp at hu
 ·rw[Rl9,Sm9] at hb
  have q:=λj (hj:j < 7)=>hb.2 j (Rx9.mpr hj)
  have c0:=of_decide_eq_true (q 0 (by decide))
  have c1:=of_decide_eq_true (q 1 (by decide))
  have c2:=of_decide_eq_true (q 2 (by decide))
  have c3:=of_decide_eq_true (q 3 (by decide))
  have c4:=of_decide_eq_true (q 4 (by decide))
  have c5:=of_decide_eq_true (q 5 (by decide))
  have c6:=ep (q 6 (by decide))
  obtain⟨u1,u2,u3,u4,u5,u6,u7⟩:=m
  obtain⟨v1,v2,v3,v4,v5,v6,v7⟩:=m'
  simp only[MS.mk.injEq]
  exact⟨c0,c1,c2,c3,c4,c5,c6⟩
theorem ends{qs:List Addr}(h:qs≠[]):∃q0 ql,qs[0]?=some q0/\qs[qs.length - 1]?=some ql/\uT (qs.map V.ref) 0=some (.ref q0)/\uT (qs.map V.ref) (-1)=some (.ref ql):=by
 have hl:0 < qs.length:=Sk9.mpr h
 refine⟨qs[0],qs[qs.length - 1],fH hl,fH (by omega),aMP (i:=0) (fH hl),?_⟩
 obtain⟨n,hn⟩ : ∃n,qs.length=n+1:=⟨qs.length - 1,by omega⟩
 have e:ixN (qs.map V.ref).length (-1)=some n:=by rw[bZ,hn];exact aC9 n
 unfold uT
 rw[e]
 show(qs.map V.ref)[n]?=_
 rw[nK]
 simp only[hn,Nat.add_sub_cancel]
 rw[fH (by omega)]
 rfl
theorem set_same{α:Type}{xs:List α}{i:Nat}{x:α}(h:xs[i]?=some x):xs.set i x=xs:=by
 obtain⟨hi,e⟩:=uS.mp h
 rw[<-e,List.set_getElem_self]
def aDR(K:PySem.W.Frag)(CW CM CS:Addr):Sp:=λvs H Q _=>∃(s:Addr) (W:WS),vs=[.ref s]/\rE H s W/\W.Good/\∀w H',rF CW CM CS H' w W->aQ H H'->H w=none->Q (.ref w) H'
theorem aDS{mg:Str->Option Value}{a:j8}(tx:Txt K mg a):bP P w K mg base hU 8 a.oF a.oG ["_law_spec_here"] (aDR K a.eT a.bB a.bX):=by
 have aFk:=aDH (P:=P) (w:=w) (base:=base) tx
 have aFl:=aDO (P:=P) (w:=w) (base:=base) tx
 have aDa:=aBP (P:=P) (w:=w) (base:=base) tx
 refine tx.uD.ok lV (λvs H Q E h=>?_) (λcdv A outer s H vs Q E hr h=>?_)
 ·obtain⟨s,W,rfl,_⟩:=h
  rfl
 ·obtain⟨s,W,rfl ,hW,hg,k⟩:=h
  have hu:=kT hr
  refine bD (aD (o6 (k:=1) (idx:=[]) (N:=["_law_one"]) (i:=1) lV.nd rfl (Or.inl rfl) (dA (sc:=aF fL) (NX:=["_law_spec_here","_law_machines","_law_store_here"]) rfl rfl rfl (by decide +kernel)) rfl (cC (K':=K) (aH (K':=K) (Z.pv 0) aB)) (λ_ _ _ _=>(aO (i:=0) (show(["_law_one"]:List Str).Nodup by decide +kernel))) (eV (by decide)) (λ_ _ _ _=>cA) (λ_ _ _ _=>(aE (aDa) (hr.mono (by decide)) (by rfl) tx.wA tx.pC.kp tx.v9 .nil aT (aA (Z.pv 0) aC))))
   (aD (bH (fS (jM (aW aBf (aN (rc:=sD K) cL (by rfl) tx.iO gO (aA (Z.pv 1) aC)) aB (bK _)) (gR (aW (r:=mZ K) (dS hu) (aH (K':=K) (aH (K':=K) (Z.pv 0) aB) aB) (aH (K':=K) (aH (K':=K) (Z.pv 0) aB) (o5 yX aB)) (bK _))))) (aG (oU (aH (K':=K) (Z.pv 1) aB) (xP (Z.pv 1) (o5 yX aB) set_list))) bC)
   (aD (aJ (i:=2) lV.nd (aH (K':=K) (Z.pv 0) aB))
   (aD (bH (aW xN (Z.pv 2) hV (bK _)) (aG (aJ (i:=2) lV.nd (vR tx.aIj (aFk) (hr.mono (by decide)) (by rfl) tx.aE1 tx.aAj .nil aT (aA (aH (K':=K) (Z.pv 2) aB) (aA (aH (K':=K) (Z.pv 2) aB) (aA (aH (K':=K) (Z.pv 2) aB) (aA (aH (K':=K) (Z.pv 2) aB) (aA (aH (K':=K) (Z.pv 2) aB) aC)))))))) bC)
   (aG (aM (vR tx.aIl (aFl) (hr.mono (by decide)) (by rfl) tx.aIk tx.aAp .nil aT (aA (Z.pv 1) (aA (Z.pv 2) (aA (aH (K':=K) (Z.pv 0) aB) aC)))))))))) ?_
  have hlen:=hg.len
  obtain⟨ls,st,b,hs,hsp,hst,hb⟩:=hW.ex
  obtain⟨qs,hl,rl⟩:=hsp.ex
  have lql:=rl.len
  refine aV (σ:=[some (.ref s),none,none]) rfl ?_
  refine iX (λσ' H'=>∃lm qm,σ'=[some (.ref s),some (.ref lm),none]/\H' lm=some (.lst (qm.map V.ref))/\RL (cK a.bB (del lm H')) qm W.specs/\aQ H H'/\H lm=none) (λN hN=>?_) ?_
  ·walk_at "w"
   refine pZ (bS.of hl) ?_
   refine jL (xs:=qs.map V.ref) (λi us H'=>aQ H H'/\∃as,us=as.map V.ref/\as.length=i/\RL (cK a.bB H') as (W.specs.take i)) ⟨aQ.refl _,[],rfl,rfl,RL.nil⟩ (cZ (by rw[bZ];omega))
    (λi us H' hi ⟨s1,as,e1,e2,e3⟩=>⟨bS.of (s1 _ _ hl),by rw[e1,bZ];omega⟩) (λi x us H' hx ⟨s1,as,e1,e2,e3⟩=>?_) (λus H' ⟨s1,as,e1,e2,e3⟩=>?_)
   ·obtain⟨q,m,_,rfl,hm,hq⟩:=rl.get hx
    walk_at "w"
    refine⟨q,m,rfl,hq.tr s1.tr,hg.specs m (vD hm),λy H5 hM s5 ny=>?_⟩
    refine⟨s1.trans s5,as ++ [y],by rw[e1,xY];rfl,by rw[xX,e2];rfl,?_⟩
    rw[take_snoc hm]
    exact(e3.imp λa x z=>z.same s5).snoc hM
   ·subst e1
    intro lm nlm
    obtain⟨H2,e2',s2,g2⟩:=nw _ nlm;rw[e2']
    walk_at "w"
    rw[bZ,lql,Rc9] at e3
    exact hN _ _ ⟨lm,as,rfl,g2,e3.imp λa x z=>z.same (aGG nlm s2),s1.trans s2,s1.free nlm⟩
  rintro σ1 H1 ⟨lm,qm,rfl,hm1,rm1,s1,nlm⟩
  have lqm:=rm1.len
  refine iX (λσ' H'=>σ'=[some (.ref s),some (.ref lm),none]/\rD a.bB H' lm W.specs/\aQ H H') (λN hN=>?_) ?_
  ·walk_at "w"
   refine cE (λh2=>?_) (λh2=>?_)
   ·rw[bZ] at h2
    have hqs:qs≠[]:=λz=>by rw[z] at lql;simp at lql;omega
    have hqm:qm≠[]:=λz=>by rw[z] at h2;simp at h2
    obtain⟨q0,ql,f1,f2,f3,f4⟩:=ends hqs
    obtain⟨a0,al,g1,g2,g3,g4⟩:=ends hqm
    have hn:0 < W.specs.length:=by omega
    have m0:W.specs[0]?=some W.specs[0]:=fH hn
    have mln:W.specs.length - 1 < W.specs.length:=by omega
    have ml:W.specs[W.specs.length - 1]?=some W.specs[W.specs.length - 1]:=fH mln
    have p0:=(rl.at_ 0 q0 _ f1 m0).tr s1.tr
    have pl:=(rl.at_ (qs.length - 1) ql _ f2 (by rw[lql];exact ml)).tr s1.tr
    have hs1:=s1 _ _ hs
    have hl1:=s1 _ _ hl
    generalize W.specs[0]=mA at m0 p0
    generalize W.specs[W.specs.length - 1]=mB at ml pl
    obtain⟨bb,hbb,ebb⟩:=aLm (K:=K) p0 pl
    walk_at "w"
    refine⟨bb,hbb,?_⟩
    walk_at "w"
    refine iW (λh3=>?_) (λh3=>?_)
    ·have em:=ebb h3
     subst em
     walk_at "w"
     refine pX (j:=qm.length - 1) hm1 (by rw[bZ,show qm.length=(qm.length - 1)+1 by omega];exact aC9 _) ?_
     obtain⟨J,i,kj,j⟩:=wr H1 lm _;rw[i]
     have dl:del lm J=del lm H1:=by rw[<-i,aIn]
     have hset:=rm1.set (i:=qm.length - 1) (rm1.at_ 0 a0 mA g1 m0)
     rw[lqm,set_same ml] at hset
     walk_at "w"
     refine hN _ _ ⟨rfl,⟨qm.set (W.specs.length - 1) a0,by rw[j,Ty9,lqm],hset.imp λa x z=>((dl▸z:cK _ (del lm J) a x)).same xC⟩,λb o e=>kj _ _ (s1 _ _ e) (bG nlm e)⟩
    ·walk_at "w"
     exact hN _ _ ⟨rfl,⟨qm,hm1,rm1.imp λa x z=>z.same xC⟩,s1⟩
   ·walk_at "w"
    exact hN _ _ ⟨rfl,⟨qm,hm1,rm1.imp λa x z=>z.same xC⟩,s1⟩
  rintro σ2 H2 ⟨rfl,hM2,s2⟩
  have hs2:=s2 _ _ hs
  refine aKi ?_
  repeat walk_at "st"
  refine iX (λσ' H'=>∃so,σ'=[some (.ref s),some (.ref lm),some so]/\aJr a.bX H' so W.store/\rD a.bB H' lm W.specs/\aQ H H') (λN hN=>?_) ?_
  ·cases e:W.store with
   |none=>
    rw[e] at hst
    replace hst:st=.non:=hst
    subst hst
    walk_at "w"
    exact hN _ _ ⟨_,rfl,(by rw[e];rfl),hM2,s2⟩
   |some ss=>
    rw[e] at hst
    obtain⟨c,rfl,hc⟩:=hst
    have gs:=hg.store ss e
    have hc2:=(hc.tr s2.tr).at_
    walk_at "w"
    intro x dx nx nd hd
    obtain⟨J,i,sj,j⟩:=nwi (C:=a.bX) nx nd hd;rw[i]
    refine⟨x,dx,ss,rfl,j,gs,λH3 hS kx=>⟨rfl,?_⟩⟩
    walk_at "w"
    exact hN _ _ ⟨_,rfl,(by rw[e];exact⟨x,rfl,hS⟩),hM2.tr (sj.tr.trans (aLd j kx)),λb o e=>kx _ _ (sj _ _ (s2 _ _ e)) (bG (s2.free nx) e)⟩
  rintro σ3 H3 ⟨so,rfl,hso,hM3,s3⟩
  have hs3:=s3 _ _ hs
  walk_at "w"
  intro x dx nx nd hd
  obtain⟨J,i,sj,j⟩:=nwi (C:=a.eT) nx nd hd;rw[i]
  refine⟨x,dx,lm,so,W,rfl,j,hM3.tr sj.tr,hso.tr sj.tr,hlen,hg.lack,λH4 hWk kx=>⟨rfl,?_⟩⟩
  exact k x H4 hWk (λb o e=>kx _ _ (sj _ _ (s3 _ _ e)) (bG (s3.free nx) e)) (s3.free nx)
theorem aCc{ss:List (Int×Int)}(h:RL (StA H) qs ss)(s:Tk H H'):RL (StA H') qs ss:=h.imp λa x z=>s _ _ z
def aA7(K:PySem.W.Frag):Sp:=λvs H Q _=>∃(p s:Addr) (W:WS),vs=[.ref p,.ref s]/\bE H p/\rE H s W/\W.Good/\
 ∀(r:Addr) (P:Ps) H',aAA H' r P->aEq W P->(∀(j:Nat) m s,W.specs[j]?=some m->P.1[j]?=some s->St1 m s)->bE H' p->bM p H H'->Q (.ref r) H'
theorem aA8{mg:Str->Option Value}{a:j8}(tx:Txt K mg a):bP P w K mg base hU 3 a.iY a.iZ ["_law_hand","_law_spec_here"] (aA7 K):=by
 have aK:=cH (P:=P) (w:=w) (base:=base) tx
 have aFm:=aDF (P:=P) (w:=w) (base:=base) tx
 refine tx.m7.ok sJ (λvs H Q E h=>?_) (λcdv A outer s H vs Q E hr h=>?_)
 ·obtain⟨p,s,W,rfl,_⟩:=h
  rfl
 ·obtain⟨p,s,W,rfl ,hh,hW,hg,k⟩:=h
  have hu:=kT hr
  refine bD (aD (aJ (i:=2) sJ.nd (cF (rc:=aHp K) aJb (by rfl) tx.uL aF0 (aA (cY (k:=1) (idx:=[0]) (N:=["_law_one","_law_hand"]) (dA (sc:=aF dG) (NX:=["_law_hand","_law_spec_here","_law_states"]) rfl rfl rfl (by decide +kernel)) rfl (cC (K':=K) (aH (K':=K) (Z.pv 1) aB)) (λ_ _ _ _=>(aO (i:=0) (show(["_law_one","_law_hand"]:List Str).Nodup by decide +kernel))) (eV (by decide)) (λ_ _ _ _=>cA) (λ_ _ _ _=>(aE (aFm) (hr.mono (by decide)) (by rfl) tx.aAh tx.tW.kp tx.aAg .nil aT (aA (Z.pv 1) (aA (Z.pv 0) aC))))) aC)))
   (aD (bH (aW aHh (aH (K':=K) (Z.pv 1) aB) hV (bK _)) (aG (aM (gL (Z.pv 2) aB))) bC)
   (aG (aM (gL (Z.pv 2) (aE (aK) (hr.mono (by decide)) (by rfl) tx.aS tx.aP.kp tx.aR .nil aT (aA (Z.pv 0) (aA (aI bL (aH (K':=K) (aH (K':=K) (Z.pv 1) aB) aB) aB) aC)))))))) ?_
  have hlen:=hg.len
  obtain⟨ls,st,b,hs,hsp,hst,hb⟩:=hW.ex
  obtain⟨qs,hl,rl⟩:=hsp.ex
  have lql:=rl.len
  have sp:s≠p:=hh.aGt hs (by simp)
  have lp:ls≠p:=hh.aK9 hl
  refine aV (σ:=[some (.ref p),some (.ref s),none]) rfl ?_
  walk_at "w"
  refine pZ (bS.of hl) ?_
  refine jL (xs:=qs.map V.ref) (λi us H'=>bE H' p/\bM p H H'/\∃ts ss,us=ts.map V.ref/\ts.length=i/\RL (StA H') ts ss/\(∀s∈ss,VS s)/\∀(j:Nat) m s,W.specs[j]?=some m->ss[j]?=some s->St1 m s) ⟨hh,λ_ _ e _=>e,[],[],rfl,rfl,RL.nil,(λs h=>by cases h),λj m s _ h=>by simp at h⟩ (cZ (by rw[bZ];omega))
   (λi us H' hi ⟨h1,k1,ts,ss,e1,e2,e3,e4,e5⟩=>⟨bS.of (k1 _ _ hl lp),by rw[e1,bZ];omega⟩) (λi x us H' hx ⟨h1,k1,ts,ss,e1,e2,e3,e4,e5⟩=>?_) (λus H' ⟨h1,k1,ts,ss,e1,e2,e3,e4,e5⟩=>?_)
  ·obtain⟨q,m,_,rfl,hm,hq⟩:=rl.get hx
   have gm:=hg.specs m (vD hm)
   walk_at "w"
   refine⟨p,q,m,rfl,h1,hq.tr (hh.tr k1),gm,λt o d H2 ht hod h2 k2=>?_⟩
   refine⟨h2,k1.trans k2,ts ++ [t],ss ++ [(o,d)],by rw[e1,xY];rfl,by rw[xX,e2];rfl,(aCc e3 (h1.tr k2).tk).snoc ht,λs hs=>?_,λj m' s' hj hs=>?_⟩
   rotate_left
   ·by_cases hj2:j < ss.length
    ·rw[Qx9 hj2] at hs
     exact e5 j m' s' hj hs
    ·have hj3:j < (ss ++ [(o,d)]).length:=(uS.mp hs).1
     rw[xX,Rj9] at hj3
     have ej:j=i:=by have:=e3.len;omega
     rw[Qy9 (by omega),show j - ss.length=0 by omega] at hs
     cases hs
     rw[ej,hm] at hj
     cases hj
     exact hod
   rcases Rd9.mp hs with h|h
   ·exact e4 s h
   ·rw[Qv9.mp h]
    rcases hod with ⟨z1,z2,_⟩|⟨z1,z2,_⟩
    ·exact⟨.inr z1,z2⟩
    ·exact⟨.inl z1,z2⟩
  ·subst e1
   rw[bZ] at e2
   intro l1 n1
   obtain⟨H2,i2,s2,g2⟩:=nw _ n1;rw[i2]
   walk_at "w"
   refine aME (bS.of g2) ?_
   intro T nT
   obtain⟨H3,i3,s3,g3⟩:=nw _ nT;rw[i3]
   have s23:=s2.trans s3
   have hs3:=s23 _ _ (k1 _ _ hs sp)
   have e33:=aCc e3 s23.tk
   have lss:ss.length=W.specs.length:=by rw[<-e3.len,e2,lql]
   have fin:∀(lev:Int),aBG W lev->∀H4,bE H4 p->bM p H3 H4->Q (.ref T) H4\/True:=λ_ _ _ _ _=>.inr trivial
   cases e:W.store with
   |none=>
    rw[e] at hst
    replace hst:st=.non:=hst
    subst hst
    walk_at "w"
    intro r nr
    obtain⟨H4,i4,s4,g4⟩:=nw _ nr;rw[i4]
    walk_at "w"
    exact k r (ss,0) H4 ⟨T,g4,ts,s4 _ _ g3,aCc e33 s4.tk⟩ ⟨lss,e4,by unfold aBG;rw[e]⟩ e5 (h1.same (s23.trans s4)) (k1.trans (s23.trans s4).keep)
   |some sv=>
    rw[e] at hst
    obtain⟨c,rfl,hc⟩:=hst
    have gs:=(hg.store sv e).cap
    have hc3:=(hc.tr ((hh.tr k1).trans s23.tr)).at_
    walk_at "w"
    refine⟨p,_,rfl,h1.same s23,by omega,by omega,λr5 H5 a5 b5 h5 k5 _=>?_⟩
    have tk5:=((h1.same s23).tr k5).tk
    walk_at "w"
    intro r nr
    obtain⟨H6,i6,s6,g6⟩:=nw _ nr;rw[i6]
    walk_at "w"
    exact k r (ss,r5) H6 ⟨T,g6,ts,s6 _ _ (tk5 _ _ g3),aCc e33 (tk5.trans s6.tk)⟩ ⟨lss,e4,by unfold aBG;rw[e];exact⟨a5,by show r5<=sv.cap;omega⟩⟩ e5 (h5.same s6) (k1.trans (s23.keep.trans (k5.trans s6.keep)))
def aBY(K:W.Frag)(C:Addr):Sp:=λvs H Q _=>∃(x:Addr) (s:SS) (l h:Int),vs=[.ref x,.int l,.int h]/\fQ C H x s/\s.Good/\0<=l/\l<=8/\0<=h/\h<=48/\
 ∀q H',aQ H H'->H' q=some (.lst ((upL (max (l - s.out*h) 0) (min (l+s.into*h) s.cap+1 - max (l - s.out*h) 0).toNat).map V.int))->Q (.ref q) H'
theorem u9{mg:Str->Option Value}{a:j8}(tx:Txt K mg a):bP P w K mg base hU 1 a.kL a.kM ["store","level","hours"] (aBY K a.bX):=by
 refine tx.kP.ok m5 (λvs H Q E h=>?_) (λcdv A outer s H vs Q E hr h=>?_)
 ·obtain⟨x,ss,l,h,rfl,_⟩:=h
  rfl
 ·obtain⟨x,ss,l,h,rfl ,hs,hg,l0,l1,h0,h1,k⟩:=h
  have hu:=kT hr
  refine bD (aD (aJ (i:=3) m5.nd (aN (oQ rfl) (by rfl) tx.w9 aAT (aA (aI jW (Z.pv 1) (aI bN (cI (K':=K) (Z.pv 0) rfl) (Z.pv 2))) (aA aB aC))))
   (aD (aJ (i:=4) m5.nd (aN (oR rfl) (by rfl) tx.uZ y4 (aA (aI bL (Z.pv 1) (aI bN (cI (K':=K) (Z.pv 0) rfl) (Z.pv 2))) (aA (cI (K':=K) (Z.pv 0) rfl) aC))))
   (aG (aM (cF (rc:=aHj) (aHl rfl) (by rfl) tx.jK lR (aA (cF (rc:=aOK) aI6 (by rfl) tx.dZ aKc (aA (Z.pv 3) (aA (aI bL (Z.pv 4) aB) aC))) aC)))))) ?_
  obtain⟨dx,hx⟩:=hs.ex
  obtain⟨c0,c1⟩:=hg.cap
  obtain⟨i0,i1⟩:=hg.into
  obtain⟨o0,o1⟩:=hg.out
  have e1:0<=ss.out*h/\ss.out*h<=384:=⟨Ri9 o0 h0,Rq9 (Int.mul_le_mul o1 h1 h0 (by omega)) (by decide)⟩
  have e2:0<=ss.into*h/\ss.into*h<=384:=⟨Ri9 i0 h0,Rq9 (Int.mul_le_mul i1 h1 h0 (by omega)) (by decide)⟩
  refine aV (σ:=[some (.ref x),some (.int l),some (.int h),none,none]) rfl ?_
  walk_at "w"
  refine jE hx tx.jB tx.w6 rfl ?_
  walk_at "w"
  refine jE hx tx.jB tx.uJ rfl ?_
  walk_at "w"
  refine jE hx tx.jB tx.w5 rfl ?_
  walk_at "w"
  intro p np
  walk_at "w"
  refine aKz aL (by omega) (by omega) ?_
  intro q nq
  exact k q _ ((aQ.new np).trans (aQ.new nq)) aL
def aDb(K:W.Frag)(C:Addr):Sp:=λvs H Q _=>∃(x:Addr) (s:SS) (l:Int),vs=[.ref x,.int l]/\fQ C H x s/\s.Good/\0<=l/\l<=8/\
 ∀q H',aQ H H'->H' q=some (.lst ((upL (max (l - s.out*1) 0) (min (l+s.into*1) s.cap+1 - max (l - s.out*1) 0).toNat).map V.int))->Q (.ref q) H'
theorem aDc{mg:Str->Option Value}{a:j8}(tx:Txt K mg a):bP P w K mg base hU 2 a.mE a.mF ["store","level"] (aDb K a.bX):=by
 have pU:=u9 (P:=P) (w:=w) (base:=base) tx
 refine tx.rS.ok aCH (λvs H Q E h=>?_) (λcdv A outer s H vs Q E hr h=>?_)
 ·obtain⟨x,ss,l,rfl,_⟩:=h
  rfl
 ·obtain⟨x,ss,l,rfl ,hs,hg,l0,l1,k⟩:=h
  have hu:=kT hr
  refine bD (aG (aM (aE (pU) (hr.mono (by decide)) (by rfl) tx.pI tx.kP.kp tx.pH .nil aT (aA (Z.pv 0) (aA (Z.pv 1) (aA aB aC)))))) ?_
  refine aV (σ:=[some (.ref x),some (.int l)]) rfl ?_
  walk_at "w"
  exact⟨x,ss,l,1,rfl,hs,hg,l0,l1,by decide,by decide,k⟩
def aGJ(K:W.Frag)(C:Addr):Sp:=λvs H Q _=>∃(x:Addr) (s:SS) (l n:Int),vs=[.ref x,.int l,.int n]/\fQ C H x s/\s.Good/\Q (.int (dr s l n)) H
theorem aGK{mg:Str->Option Value}{a:j8}(tx:Txt K mg a):bP P w K mg base hU 1 a.tR a.tS ["store","level","later"] (aGJ K a.bX):=by
 refine tx.zE.ok aBo (λvs H Q E h=>?_) (λcdv A outer s H vs Q E hr h=>?_)
 ·obtain⟨x,ss,l,n,rfl,_⟩:=h
  rfl
 ·obtain⟨x,ss,l,n,rfl ,hs,hg,k⟩:=h
  have hu:=kT hr
  refine bD (aD (aJ (i:=3) aBo.nd (aBi (aW aBf (Z.pv 2) (Z.pv 1) (bK _)) (cI (K':=K) (Z.pv 0) rfl) (cI (K':=K) (Z.pv 0) rfl)))
   (aG (aM (aI bN (Z.pv 3) (aI jW (Z.pv 2) (Z.pv 1)))))) ?_
  obtain⟨dx,hx⟩:=hs.ex
  obtain⟨t0,t1⟩:=hg.takes
  obtain⟨g0,g1⟩:=hg.gives
  refine aV (σ:=[some (.ref x),some (.int l),some (.int n),none]) rfl ?_
  walk_at "w"
  unfold dr at k
  refine cE (λh=>?_) (λh=>?_)
  ·rw[if_pos h] at k
   walk_at "w"
   refine jE hx tx.jB tx.rX rfl ?_
   walk_at "w"
   exact k
  ·rw[if_neg h] at k
   walk_at "w"
   refine jE hx tx.jB tx.rY rfl ?_
   walk_at "w"
   exact k
def κI:PK Int:=.ik (λn=>.inl n) λx y h=>Sum.inl.inj h
def upTo(s:SS)(l:Int)(h:Int):List Int:=upL (max (l - s.out*h) 0) (min (l+s.into*h) s.cap+1 - max (l - s.out*h) 0).toNat
def lwy(s:SS)(p x:Int):List (Wy Int):=(upTo s x 1).map λy=>(y,y,p*dr s x y)
def Wl(s:SS)(ps:List Int)(i:Nat)(x:Int):List (Wy Int):=lwy s (ps.getD i 0) x
def Lys(s:SS)(l:Int)(n:Nat):List (List Int):=(List.range (n+1)).map λ(i:Nat)=>upTo s l (i:Int)
theorem mem_upTo{s:SS}{l h n:Int}:n∈upTo s l h↔max (l - s.out*h) 0<=n/\n<=min (l+s.into*h) s.cap:=by
 unfold upTo
 rw[aCa]
 omega
theorem aO1(lo:Int):∀k:Nat,(upL lo k).Pairwise (·< ·):=by
 intro k
 unfold upL
 rw[Sx9]
 exact List.pairwise_lt_range.imp λh=>by omega
theorem aJv(s:SS)(l h:Int):(upTo s l h).Pairwise (·< ·):=aO1 _ _
theorem aDd{s:SS}(g:s.Good)(l h:Int):(upTo s l h).length<=9:=by
 unfold upTo
 rw[aMN]
 have:=g.cap.2
 omega
theorem uQ{l:Int}{n i:Nat}{ps:List Int}(h:(Lys s l n)[i]?=some ps):ps=upTo s l (i:Int)/\i<=n:=by
 unfold Lys at h
 rw[nK] at h
 obtain⟨j,hj,rfl⟩:=Qr9.mp h
 have hi:i < n+1:=by
  have:=(uS.mp hj).1
  rwa[Tk9] at this
 rw[Tb9 hi] at hj
 cases hj
 exact⟨rfl,by omega⟩
theorem rL(s:SS)(l:Int)(n:Nat):(Lys s l n).length=n+1:=by unfold Lys;rw[bZ,Tk9]
theorem aHP{l:Int}{n i:Nat}(h:i<=n):(Lys s l n)[i]?=some (upTo s l (i:Int)):=by
 unfold Lys
 rw[nK,Tb9 (by omega)]
 rfl
theorem aFn{s:SS}{l h n:Int}(hn:n∈upTo s l h):0<=n/\n<=s.cap:=by
 have:=mem_upTo.mp hn
 omega
theorem aJw{s:SS}(g:s.Good){x:Int}(h0:0<=x)(h1:x<=s.cap):x∈upTo s x 1:=by
 have:=g.out.1
 have:=g.into.1
 rw[mem_upTo]
 omega
theorem aMW{s:SS}(g:s.Good){l x n:Int}{i:Nat}(hx:x∈upTo s l (i:Int))(hn:n∈upTo s x 1):n∈upTo s l ((i+1:Nat):Int):=by
 have a:=mem_upTo.mp hx
 have b:=mem_upTo.mp hn
 rw[mem_upTo]
 have e1:s.out*((i+1:Nat):Int)=s.out*(i:Int)+s.out:=by push_cast;rw[Tm9,Ta9]
 have e2:s.into*((i+1:Nat):Int)=s.into*(i:Int)+s.into:=by push_cast;rw[Tm9,Ta9]
 rw[e1,e2]
 rw[Ta9,Ta9] at b
 omega
theorem aLn{s:SS}{l:Int}(h0:0<=l)(h1:l<=s.cap):upTo s l 0=[l]:=by
 unfold upTo
 rw[Int.mul_zero,Int.mul_zero,show max (l - 0) 0=l by omega,show(min (l+0) s.cap+1 - l).toNat=1 by omega]
 unfold upL
 simp
theorem aLo{s:SS}(g:s.Good){l:Int}(ps:List Int)(h0:0<=l)(h1:l<=s.cap):aIs (Wl s ps) (Lys s l ps.length):=by
 refine⟨by rw[rL];omega,λqs hq=>?_,λqs hq=>?_,λi qs x e hi hx=>?_,λi qs rs x w e1 e2 hx hw=>?_⟩
 ·obtain⟨i,ei⟩:=Rh9 hq
  rw[(uQ ei).1]
  exact(aJv _ _ _).imp λh=>Int.ne_of_lt h
 ·obtain⟨i,ei⟩:=Rh9 hq
  rw[(uQ ei).1]
  exact Rn9 (aDd g _ _) (by decide)
 ·rw[(uQ e).1] at hx
  obtain⟨x0,x1⟩:=aFn hx
  unfold Wl lwy
  refine⟨λz=>?_,?_⟩
  ·have:=aJw g x0 x1
   rw[List.map_eq_nil_iff.mp z] at this
   cases this
  ·rw[bZ]
   exact Rn9 (aDd g _ _) (by decide)
 ·rw[(uQ e1).1] at hx
  rw[(uQ e2).1]
  obtain⟨y,hy,rfl⟩:=sR.mp hw
  exact aMW g hx hy
def lwF(s:SS)(ps:List Int)(l:Int):Int:=wF (Wl s ps) ps.length 0 l
def lpF(s:SS)(ps:List Int)(l:Int):List Int:=aAC (Wl s ps) ps.length 0 l
theorem aFo{t:TE}{σ σ':St}{H:Hp}{Q:VK}(e:σ'=σ)(h:t σ H Q):t σ' H Q:=e▸h
theorem intAt{ns:List Int}{i:Nat}(h:(ns.map V.int)[i]?=some x):∃n,ns[i]?=some n/\x=.int n:=by
 rw[nK] at h
 obtain⟨n,e,rfl⟩:=Qr9.mp h
 exact⟨n,e,rfl⟩
theorem aLp(ns:List Int):PVs κI H (ns.map V.int) ns:=by
 refine⟨by rw[bZ],λi v x h1 h2=>?_⟩
 obtain⟨n,e,rfl⟩:=intAt h1
 rw[e] at h2
 cases h2
 rfl
def yT(K:W.Frag)(C:Addr):Sp:=λvs H Q _=>∃(x:Addr) (s:SS) (l p:Int),vs=[.ref x,.int l,.int p]/\fQ C H x s/\s.Good/\0<=l/\l<=s.cap/\Am p/\∀q H',aQ H H'->uO κI H' q (lwy s p l)->Q (.ref q) H'
theorem yU{mg:Str->Option Value}{a:j8}(tx:Txt K mg a):bP P w K mg base hU 3 a.oH a.oI ["store","level","price"] (yT K a.bX):=by
 have aHQ:=aGK (P:=P) (w:=w) (base:=base) tx
 have aDT:=aDc (P:=P) (w:=w) (base:=base) tx
 refine tx.oO.ok aDz (λvs H Q E h=>?_) (λcdv A outer s H vs Q E hr h=>?_)
 ·obtain⟨x,ss,l,p,rfl,_⟩:=h
  rfl
 ·obtain⟨x,ss,l,p,rfl ,hs,hg,l0,l1,hp,k⟩:=h
  have hu:=kT hr
  refine bD (aG (aM (cY (k:=1) (idx:=[1,2,0]) (N:=["later","level","price","store"]) (dA (sc:=aF fM) (NX:=["store","level","price"]) rfl rfl rfl (by decide +kernel)) rfl (cC (K':=K) (aE (aDT) (hr.mono (by decide)) (by rfl) tx.yN tx.rS.kp tx.yM .nil aT (aA (Z.pv 0) (aA (Z.pv 1) aC)))) (λ_ _ _ _=>(aO (i:=0) (show(["later","level","price","store"]:List Str).Nodup by decide +kernel))) (eV (by decide)) (λ_ _ _ _=>cA) (λ_ _ _ _=>(aEM (Z.pv 0) (Z.pv 0) (aI bN (Z.pv 2) (aE (aHQ) (hr.mono (by decide)) (by rfl) tx.aCQ tx.zE.kp tx.aCP .nil aT (aA (Z.pv 3) (aA (Z.pv 1) (aA (Z.pv 0) aC)))))))))) ?_
  obtain⟨p0,p1⟩:=hp
  obtain⟨c0,c1⟩:=hg.cap
  refine aV (σ:=[some (.ref x),some (.int l),some (.int p)]) rfl ?_
  walk_at "w"
  refine⟨x,ss,l,rfl,hs,hg,l0,by omega,λq H1 s1 gq=>?_⟩
  have hlen:=aDd hg l 1
  refine pZ (bS.of gq) ?_
  refine jL (xs:=(upTo ss l 1).map V.int) (λj us H'=>aQ H1 H'/\∃as:List Addr,us=as.map V.ref/\RL (aAD κI H') as ((lwy ss p l).take j)) ⟨aQ.refl _,[],rfl,RL.nil⟩ (cZ (by rw[bZ];omega))
   (λj us H' hj ⟨s',as,e,r⟩=>⟨bS.of (s' _ _ gq),by rw[e,bZ,r.len,Re9];omega⟩) (λj v us H' hv ⟨s',as,e,r⟩=>?_) (λus H' ⟨s',as,e,r⟩=>?_)
  ·obtain⟨y,ey,rfl⟩:=intAt hv
   have ew:(lwy ss p l)[j]?=some (y,y,p*dr ss l y):=by unfold lwy;rw[nK,ey];rfl
   walk_at "w"
   refine⟨x,ss,l,y,rfl,hs.same (s1.trans s'),hg,?_⟩
   walk_at "w"
   intro a na
   obtain⟨H2,i2,s2,g2⟩:=nw _ na;rw[i2]
   refine⟨s'.trans s2,as ++ [a],by rw[e,xY];rfl,?_⟩
   rw[rJ ew]
   exact RL.snoc (r.imp λ_ _ z=>z.same s2) ⟨.int y,g2,rfl⟩
  ·intro q2 nq2
   obtain⟨H2,i2,s2,g2⟩:=nw _ nq2;rw[i2]
   walk_at "w"
   rw[bZ,show(upTo ss l 1).length=(lwy ss p l).length by unfold lwy;rw[bZ],Rc9] at r
   exact k q2 H2 (s1.trans (s'.trans s2)) ⟨as,by rw[g2,e],r.imp λ_ _ z=>z.same s2⟩
theorem aEu{a:j8}{s:SS}{ps:List Int}(C:Addr->Sp->Prop)(f:Addr)(spc:Sp)(hC:C f spc)(hs:fQ a.bX H x s)(hg:s.Good)(hq:H q=some (.lst (ps.map V.int)))(ha:∀n∈ps,Am n)(hl:ps.length<=48)(h:∀(H':Hp) (h:Nat) (y p:Int) (Q:VK),aQ H H'->H' q=some (.lst (ps.map V.int))->uT (ps.map V.int) (h:Int)=some (.int p)->0<=y->y<=s.cap->yT K a.bX [.ref x,.int y,.int p] H' Q E0->spc [.int (h:Int),.int y] H' Q E0) :
  xE κI C H f (Wl s ps) λi y=>i < ps.length/\0<=y/\y<=s.cap:=by
 refine⟨spc,hC,λH' i v y Q s' hL hpv hk=>?_⟩
 have hv:v=.int y:=hpv
 subst hv
 obtain⟨hi,y0,y1⟩:=hL
 have ep:ps[i]?=some ps[i]:=fH hi
 refine h H' i y ps[i] Q s' (s' _ _ hq) (eQ (by rw[nK,ep];rfl)) y0 y1 ⟨x,s,y,ps[i],rfl,hs.same s',hg,y0,y1,ha _ (Rt9 hi),λl H2 s2 hw=>hk l H2 s2 ?_⟩
 unfold Wl
 rw[Qh9,ep]
 exact hw
def yD(K:W.Frag)(C t:Addr):Sp:=λvs H Q _=>∃(x:Addr) (s:SS) (l:Int) (q:Addr) (ps:List Int),vs=[.ref x,.int l,.ref q]/\H t=some (.ctb cR cS)/\fQ C H x s/\s.Good/\0<=l/\l<=s.cap/\H q=some (.lst (ps.map V.int))/\(∀n∈ps,Am n)/\ps.length<=48/\
 ∀r H',aQ H H'->H r=none->aHN κI H' r (Lys s l ps.length) (λi=>wF (Wl s ps) ((Lys s l ps.length).length - 1 - i) i)->Q (.ref r) H'
theorem yE{P:Program}{w:World}{K:PySem.W.Frag}{mg:Str->Option Value}{base:Heap}{a:j8}(tx:Txt K mg a):bP P w K mg base hU 12 a.fO a.dW ["store","level","prices"] (yD K a.bX a.bU):=by
 have pU:=u9 (P:=P) (w:=w) (base:=base) tx
 have kR:=λbase':Heap=>rK (P:=P) (w:=w) (base:=base') tx
 refine tx.jG.okC tx.jI nG (λvs H Q E h=>?_) (λA outer s H vs Q E hr h=>?_)
 ·obtain⟨x,ss,l,q,ps,rfl,_⟩:=h
  rfl
 ·obtain⟨x,ss,l,q,ps,rfl ,gt,hs,hg,l0,l1,hq,ha,hl,k⟩:=h
  have hu:=kT hr
  refine bD (aD (o6 (k:=1) (idx:=[1,0]) (N:=["hours","level","store"]) (i:=3) nG.nd rfl (Or.inl rfl) (dA (sc:=aF bQ) (NX:=["store","level","prices","layers"]) rfl rfl rfl (by decide +kernel)) rfl (cN (by rfl) tx.dZ (aA (aI bL (aN (rc:=sD K) cL (by rfl) tx.iO gO (aA (Z.pv 2) aC)) aB) aC)) (λ_ _ _ _=>(aO (i:=0) (show(["hours","level","store"]:List Str).Nodup by decide +kernel))) (eV (by decide)) (λ_ _ _ _=>cA) (λ_ _ _ _=>(aE (pU) (hr.mono (by decide)) (by rfl) tx.pI tx.kP.kp tx.pH .nil aT (aA (Z.pv 2) (aA (Z.pv 1) (aA (Z.pv 0) aC))))))
   (aG (aM (qB (psL:=["hour","place"]) (N:=["hour","place","prices","store"]) (idx:=[2,0]) (sp:=λC=>kQ K C) (kc:=8) (kR) (hr.mono (by decide)) (by rfl) tx.lK tx.iM.kp tx.lJ (λ_=>rfl) (dA (sc:=aF bQ) (NX:=["store","level","prices","layers"]) rfl rfl rfl (by decide +kernel)) rfl rfl rfl rfl (λ_ _ _ _ us hl=>match us,hl with|[_,_],_=>rfl) (lB (Z.pv 3) (tD (N:=["hour","place","prices","store"]) (n:=2) (idx:=[2,0]) rfl tx.jI.hd rfl rfl (dA (sc:=aF bQ) (NX:=["store","level","prices","layers"]) rfl rfl rfl (by decide +kernel)))) (λ_ _ _ _ _ _ _ _ hr hu=>(aE (yU tx) (hr.mono (by decide)) (by rfl) tx.uF tx.oO.kp tx.uE .nil aT (aA (Z.pv 3) (aA (Z.pv 1) (aA (aH (K':=K) (Z.pv 2) (Z.pv 0)) aC))))))))) ?_
  obtain⟨c0,c1⟩:=hg.cap
  refine aV (σ:=[some (.ref x),some (.int l),some (.ref q),none]) rfl ?_
  walk_at "w"
  refine⟨by rw[bZ];omega,by rw[bZ];omega,?_⟩
  rw[show(((ps.map V.int).length:Int)+1).toNat=ps.length+1 by rw[bZ];omega]
  refine oX (λi us H'=>aQ H H'/\∃as:List Addr,us=as.map V.ref/\RL (λb qs=>∃us,H' b=some (.lst us)/\PVs κI H' us qs) as ((Lys ss l ps.length).take i)) ⟨aQ.refl _,[],rfl,RL.nil⟩ (cZ (by omega)) (λi us H' hi ⟨s',as,e,r⟩=>by rw[e,bZ,r.len,Re9];omega) (λi us H' hi ⟨s',as,e,r⟩=>?_) (λus H' ⟨s',as,e,r⟩=>?_)
  ·walk_at "w"
   refine⟨x,ss,l,_,rfl,hs.same s',hg,l0,by omega,by omega,by omega,λb H2 s2 gb=>?_⟩
   refine⟨s'.trans s2,as ++ [b],by rw[e,xY];rfl,?_⟩
   rw[rJ (aHP (s:=ss) (l:=l) (n:=ps.length) (i:=i) (by omega))]
   refine RL.snoc (r.imp λ_ _ ⟨us,e,p⟩=>⟨us,s2 _ _ e,p.same s2⟩) ⟨_,gb,?_⟩
   rw[show(0+(i:Int))=(i:Int) by omega]
   exact aLp (upTo ss l (i:Int))
  ·intro la nla
   obtain⟨H2,i2,s2,g2⟩:=nw _ nla;rw[i2]
   have s02:=s'.trans s2
   rw[show ps.length+1=(Lys ss l ps.length).length from(rL _ _ _).symm,Rc9] at r
   walk_at "w"
   refine⟨s02 _ _ gt,λf c' H3 Cc s3 hc hC=>?_⟩
   have s03:=s02.trans s3
   refine⟨Int,κI,la,f,Lys ss l ps.length,Wl ss ps,_,rfl,⟨as,by rw[s3 _ _ g2,e],r.imp λ_ _ ⟨us,e,p⟩=>⟨us,(s2.trans s3) _ _ e,p.same (s2.trans s3)⟩⟩,aLo hg ps l0 l1,by rw[rL];omega,aEu (K:=K) (a:=a) Cc f _ hC (hs.same s03) hg (s03 _ _ hq) ha hl (λH' h y p Q s' gq hp y0 y1 hsp=>?_),λi qs y e1 e2 hy=>?_,λr H4 s4 nr hd=>?_⟩
   ·refine⟨s' _ _ hc,rfl,?_⟩
    refine aFo (σ:=[some (.int (h:Int)),some (.int y),some (.ref q),some (.ref x)]) rfl ?_
    walk_at "w"
    exact hsp
   ·rw[(uQ e1).1] at hy
    obtain⟨y0,y1⟩:=aFn hy
    rw[rL] at e2
    exact⟨by omega,y0,y1⟩
   ·exact k r H4 (s03.trans s4) (s03.free nr) hd
def aA9(K:W.Frag)(C t1 t2:Addr):Sp:=λvs H Q _=>∃(x:Addr) (s:SS) (l:Int) (q:Addr) (ps:List Int),vs=[.ref x,.int l,.ref q]/\H t1=some (.ctb cR cS)/\H t2=some (.ctb fE fF)/\fQ C H x s/\s.Good/\0<=l/\l<=s.cap/\H q=some (.lst (ps.map V.int))/\(∀n∈ps,Am n)/\ps.length<=48/\
 ∀T r H',aQ H H'->H r=none->H' T=some (.tup [.int (lwF s ps l),.ref r])->H' r=some (.lst ((lpF s ps l).map V.int))->Q (.ref T) H'
theorem aBa{P:Program}{w:World}{K:PySem.W.Frag}{mg:Str->Option Value}{base:Heap}{a:j8}(tx:Txt K mg a):bP P w K mg base hU 13 a.jA a.fV ["store","level","prices"] (aA9 K a.bX a.bU a.dH):=by
 have zM:=yE (P:=P) (w:=w) (base:=base) tx
 have uR:=λbase':Heap=>aAE (P:=P) (w:=w) (base:=base') tx
 refine tx.m8.okC tx.nC lI (λvs H Q E h=>?_) (λA outer s H vs Q E hr h=>?_)
 ·obtain⟨x,ss,l,q,ps,rfl,_⟩:=h
  rfl
 ·obtain⟨x,ss,l,q,ps,rfl ,gt1,gt2,hs,hg,l0,l1,hq,ha,hl,k⟩:=h
  have hu:=kT hr
  refine bD (aD (aJ (i:=3) lI.nd (aE (zM) (hr.mono (by decide)) (by rfl) tx.pK tx.jG.kp tx.pJ .nil aT (aA (Z.pv 0) (aA (Z.pv 1) (aA (Z.pv 2) aC)))))
   (aD (aJ (i:=4) lI.nd (qB (psL:=["hour","place"]) (N:=["hour","place","prices","store"]) (idx:=[2,0]) (sp:=λC=>uP K C) (kc:=8) (uR) (hr.mono (by decide)) (by rfl) tx.wN tx.qZ.kp tx.wM (λ_=>rfl) (dA (sc:=aF cV) (NX:=["store","level","prices","worths","path"]) rfl rfl rfl (by decide +kernel)) rfl rfl rfl rfl (λ_ _ _ _ us hl=>match us,hl with|[_,_],_=>rfl) (lB (Z.pv 1) (lB (Z.pv 3) (tD (N:=["hour","place","prices","store"]) (n:=2) (idx:=[2,0]) rfl tx.nC.hd rfl rfl (dA (sc:=aF cV) (NX:=["store","level","prices","worths","path"]) rfl rfl rfl (by decide +kernel))))) (λ_ _ _ _ _ _ _ _ hr hu=>(aE (yU tx) (hr.mono (by decide)) (by rfl) tx.uF tx.oO.kp tx.uE .nil aT (aA (Z.pv 3) (aA (Z.pv 1) (aA (aH (K':=K) (Z.pv 2) (Z.pv 0)) aC)))))))
   (aG (aM (gL (qA hu (aH (K':=K) (Z.pv 3) aB) (Z.pv 1)) (Z.pv 4)))))) ?_
  refine aV (σ:=[some (.ref x),some (.int l),some (.ref q),none,none]) rfl ?_
  walk_at "w"
  refine⟨x,ss,l,q,ps,rfl,gt1,hs,hg,l0,l1,hq,ha,hl,λlw H1 s1 nlw hd=>?_⟩
  walk_at "w"
  refine⟨s1 _ _ gt2,λf c' H3 Cc s3 hc hC=>?_⟩
  have s03:=s1.trans s3
  refine⟨Int,κI,.int l,l,upTo ss l 0,lw,f,Lys ss l ps.length,Wl ss ps,_,rfl,rfl,hd.same s3,aHP (i:=0) (by omega),?_,aLo hg ps l0 l1,by rw[rL];omega,aEu (K:=K) (a:=a) Cc f _ hC (hs.same s03) hg (s03 _ _ hq) ha hl (λH' h y p Q s' gq hp y0 y1 hsp=>?_),λi qs y e1 e2 hy=>?_,λr H4 s4 nr gr=>?_⟩
  ·rw[aLn l0 l1];exact .head _
  ·refine⟨s' _ _ hc,rfl,?_⟩
   refine aFo (σ:=[some (.int (h:Int)),some (.int y),some (.ref q),some (.ref x)]) rfl ?_
   walk_at "w"
   exact hsp
  ·rw[(uQ e1).1] at hy
   obtain⟨y0,y1⟩:=aFn hy
   rw[rL] at e2
   exact⟨by omega,y0,y1⟩
  ·obtain⟨ds,gds,lds,hds⟩:=(hd.same (s3.trans s4)).ex
   rw[rL] at lds
   have ed:ds[0]?=some ds[0]:=fH (by omega)
   have h0:=hds 0 _ _ ed (aHP (i:=0) (by omega))
   generalize ds[0]=d0 at ed h0
   have ix:uT (ds.map V.ref) 0=some (.ref d0):=eQ (j:=0) (aC4 ed)
   walk_at "w"
   refine⟨d0,_,rfl,κI.get (v:=.int l) (x:=l) h0 rfl (by rw[show((0:Nat):Int)=0 from rfl,aLn l0 l1];exact .head _),?_⟩
   walk_at "w"
   intro T nT
   obtain⟨H5,i5,s5,g5⟩:=nw _ nT;rw[i5]
   walk_at "w"
   have e1:(Lys ss l ps.length).length - 1=ps.length:=by rw[rL];rfl
   rw[e1] at gr
   rw[Nat.sub_zero,e1] at g5
   exact k T r H5 (s03.trans (s4.trans s5)) (s03.free nr) g5 (s5 _ _ gr)
theorem RL.one{α:Type}{P:Addr->α->Prop}{a:Addr}{x:α}(h:P a x):RL P [a] [x]:=⟨rfl,λj q u hq hu=>by
 match j,hq,hu with
 |0,hq,hu=>cases hq;cases hu;exact h
 |_+1,hq,_=>simp at hq⟩
theorem aLq(ps:List WP):(enc ps).map (·.1)=(ps.map λp=>[p.1.1,p.1.2]).map λt=>t.map Sum.inl:=by
 unfold enc
 rw[Rk9,Rk9]
 rfl
theorem aDU{ps:List WP}{qs:List Addr}{us:List (List Int)}(nd:(ps.map (·.1)).Nodup)(hT:o9 H qs us)(hp:us.Perm (ps.map λp=>[p.1.1,p.1.2]))(hs:us.Pairwise λa b=>vS b a=false) :
  ∃ks:List (Int×Int),ks.Pairwise sLt/\(∀s,s∈ks↔s∈ps.map (·.1))/\PVs κS H (qs.map V.ref) ks:=by
 have hform:∀u∈us,u=[u.getD 0 0,u.getD 1 0]:=λu hu=>by
  obtain⟨p,_,rfl⟩:=sR.mp (hp.mem_iff.mp hu)
  rfl
 have pk:(us.map λu=>(u.getD 0 0,u.getD 1 0)).Perm (ps.map (·.1)):=by
  have:=hp.map λu=>(u.getD 0 0,u.getD 1 0)
  rw[Rk9] at this
  exact this
 have ndk:=pk.nodup_iff.mpr nd
 refine⟨us.map λu=>(u.getD 0 0,u.getD 1 0),?_,λs=>pk.mem_iff,?_⟩
 ·rw[Sx9]
  have nd':us.Pairwise λa b=>(a.getD 0 0,a.getD 1 0)≠(b.getD 0 0,b.getD 1 0):=Sx9.mp ndk
  refine(hs.and nd').imp_of_mem ?_
  intro a b ha hb ⟨h1,h2⟩
  rw[hform a ha,hform b hb] at h1
  generalize a.getD 0 0=a0 at h1 h2 ⊢
  generalize a.getD 1 0=a1 at h1 h2 ⊢
  generalize b.getD 0 0=b0 at h1 h2 ⊢
  generalize b.getD 1 0=b1 at h1 h2 ⊢
  unfold sLt
  show a0 < b0\/(a0=b0/\a1 < b1)
  by_cases e0:a0=b0
  ·subst e0
   by_cases e1:a1=b1
   ·exact absurd (by rw[e1]) h2
   ·rw[fZ,if_pos rfl,fZ,if_neg (λz=>e1 z.symm)] at h1
    have:=of_decide_eq_false h1
    omega
  ·rw[fZ,if_neg (λz=>e0 z.symm)] at h1
   have:=of_decide_eq_false h1
   omega
 ·refine⟨by rw[bZ,bZ,hT.len],λi v x h1 h2=>?_⟩
  rw[nK] at h1 h2
  obtain⟨q,e1,rfl⟩:=Qr9.mp h1
  obtain⟨u,e2,rfl⟩:=Qr9.mp h2
  have:=(hT.at_ i q u e1 e2).1
  rw[hform u (vD e2)] at this
  exact⟨q,rfl,this⟩
def aAH(K:W.Frag)(C:Addr):Sp:=λvs H Q _=>∃(q:Addr) (m:MS) (t:Addr) (a:Int×Int) (n:Nat),vs=[.ref q,.ref t,.int (n:Int)]/\cK C H q m/\m.Good/\H t=some (.tup [.int a.1,.int a.2])/\St1 m a/\n<=1000/\
 ∀la Ls H',aQ H H'->H la=none->aGF κS H' la Ls->aLh m a Ls->Ls.length=n+1->Q (.ref la) H'
theorem aAI{mg:Str->Option Value}{a:j8}(tx:Txt K mg a):bP P w K mg base hU 4 a.iI a.iJ ["machine","state","hours"] (aAH K a.bB):=by
 have aDV:=aC7 (P:=P) (w:=w) (base:=base) tx
 refine tx.lM.ok eG (λvs H Q E h=>?_) (λcdv A outer s H vs Q E hr h=>?_)
 ·obtain⟨q,m,t,st,n,rfl,_⟩:=h
  rfl
 ·obtain⟨q,m,t,st,n,rfl ,hm,hg,ht,hst,hn,k⟩:=h
  have hu:=kT hr
  refine bD (aD (aJ (i:=3) eG.nd (aGg hu (Z.pv 1) aB))
   (aD (aJ (i:=4) eG.nd (xR (xR (Z.pv 1))))
   (aD (cD PassesOwn.never rfl (cN (by rfl) tx.dZ (aA (Z.pv 2) aC)) (aO (i:=5) eG.nd) (aD (aJ (i:=3) eG.nd (aE (aDV) (hr.mono (by decide)) (by rfl) tx.yL tx.rR.kp tx.yK .nil aT (aA (Z.pv 0) (aA (Z.pv 3) aC))))
   (aG (lA (o7 (K':=K) (Z.pv 4) (aA (aN (rc:=aHC) (aEW rfl) (by rfl) tx.sQ aI0 (aA (Z.pv 3) aC)) aC))))))
   (aG (aM (Z.pv 4)))))) ?_
  refine aV (σ:=[some (.ref q),some (.ref t),some (.int (n:Int)),none,none,none]) rfl ?_
  walk_at "w"
  intro w nw0
  obtain⟨H1,i1,s1,g1⟩:=nw _ nw0;rw[i1]
  have ht1:=s1 _ _ ht
  walk_at "w"
  refine⟨t,rZ st,rfl,ht1,g1,?_⟩
  obtain⟨H2,i2,k2,g2⟩:=wr H1 w _;rw[i2]
  have S2:aQ H H2:=λb o e=>k2 _ _ (s1 _ _ e) (bG nw0 e)
  walk_at "w"
  intro l0 nl0
  obtain⟨H3,i3,s3,g3⟩:=nw _ nl0;rw[i3]
  walk_at "w"
  intro la nla
  obtain⟨H4,i4,s4,g4⟩:=nw _ nla;rw[i4]
  have S4:aQ H H4:=S2.trans (s3.trans s4)
  have nlaH:H la=none:=(S2.trans s3).free nla
  have g24:=(s3.trans s4) _ _ g2
  have g34:=s4 _ _ g3
  have ht4:=S4 _ _ ht
  have wla:w≠la:=λz=>by rw[z,g4] at g24;cases g24
  walk_at "w"
  refine⟨by omega,by omega,?_⟩
  refine sF (λi σ' H'=>∃(w:Addr) (ps:List WP) (as:List Addr) (Ls:List (List (Int×Int))) (z5:Option V),σ'=[some (.ref q),some (.ref t),some (.int (n:Int)),some (.ref w),some (.ref la),z5]/\H w=none/\H' w=some (.dT (enc ps))/\aDK ps/\(∀s,s∈ps.map (·.1)↔Rc m st i s)/\aQ H H'/\H' la=some (.lst (as.map V.ref))/\RL (λb ps=>∃us,H' b=some (.lst us)/\PVs κS H' us ps/\b≠la) as Ls/\aLh m st Ls/\Ls.length=i+1)
   ⟨w,[(st,1)],[l0],[[st]],_,rfl,nw0,g24,⟨by simp,λp hp=>by rw[Qv9.mp hp];exact hst.st0 hg⟩,?_,S4,g4,RL.one ⟨_,g34,⟨rfl,λi v x h1 h2=>?_⟩,λz=>?_⟩,⟨λi ps hi=>?_⟩,rfl⟩ (λi σ' H' hi ⟨w',ps,as,Ls,z5,e,nw',gw,hW,hk,S',gla,rla,hL,lL⟩=>?_) (λσ' H' ⟨w',ps,as,Ls,z5,e,nw',gw,hW,hk,S',gla,rla,hL,lL⟩=>?_)
  ·intro s
   show s∈[st]↔s=st
   simp
  ·match i,h1,h2 with
   |0,h1,h2=>cases h1;cases h2;exact⟨t,rfl,ht4⟩
   |_+1,h1,_=>simp at h1
  ·rw[z,nla] at g3
   cases g3
  ·match i,hi with
   |0,hi=>cases hi;exact⟨by simp,λs=>by show s∈[st]↔s=st;simp⟩
   |_+1,hi=>simp at hi
  ·subst e
   walk_at "w"
   refine⟨q,m,w',ps,rfl,hm.same S',hg,gw,hW,λw2 ps2 H5 s5 nw2 gw2 hW2 hk2=>?_⟩
   have S5:aQ H H5:=λb o e=>s5 _ _ (mV (S' _ _ e) (bG nw' e))
   have gla5:H5 la=some (.lst (as.map V.ref)):=s5 _ _ (mV gla λz=>by rw[z,gw] at gla;cases gla)
   have hk3:∀s,s∈ps2.map (·.1)↔Rc m st (i+1) s:=λs=>by
    rw[hk2 s]
    exact⟨λ⟨p,h1,h2⟩=>⟨p,(hk p).mp h1,h2⟩,λ⟨p,h1,h2⟩=>⟨p,(hk p).mpr h1,h2⟩⟩
   have few:=Rc.few hg hst hW2.nd λk hk=>(hk3 k).mp hk
   rw[bZ] at few
   have las:=rla.len
   walk_at "w"
   refine y7 (bS.of gla5) ?_
   walk_at "w"
   refine aK5 gw2 (aLq ps2) (λt ht=>by obtain⟨p,_,rfl⟩:=sR.mp ht;simp) (by rw[bZ];omega) λp qs us np hT hp hs=>?_
   obtain⟨ks,k1,k2',k3⟩:=aDU hW2.nd hT hp hs
   obtain⟨H6,i6,s6,g6⟩:=nw _ np;rw[i6]
   have npla:p≠la:=λz=>by rw[z,gla5] at np;cases np
   walk_at "w"
   refine aCp (xs:=as.map V.ref) (s6 _ _ gla5) (yV (by rw[bZ];omega:(as.map V.ref).length < 20000) (cZ (by decide))) ?_
   obtain⟨H7,i7,k7,g7⟩:=wr H6 la _;rw[i7]
   have w2la:w2≠la:=λz=>by rw[z,gla5] at gw2;cases gw2
   walk_at "w"
   have hR:RL (λb ps=>∃us,H7 b=some (.lst us)/\PVs κS H7 us ps/\b≠la) (as ++ [p]) (Ls ++ [ks]):=by
    refine RL.snoc (rla.imp λb ps ⟨us,a1,a2,a3⟩=>?_) ⟨_,k7 _ _ g6 npla,⟨k3.1,λi v x h1 h2=>PK.aFg (κS.rG (k3.2 i v x h1 h2) s6) (s6 _ _ gla5) k7⟩,npla⟩
    have a1':H5 b=some (.lst us):=s5 _ _ (mV a1 λz=>by rw[z,gw] at a1;cases a1)
    refine⟨us,k7 _ _ (s6 _ _ a1') a3,⟨a2.1,λi v x h1 h2=>?_⟩,a3⟩
    obtain⟨b',e',hb'⟩:=a2.2 i v x h1 h2
    exact PK.aFg (κS.rG (H:=H5) ⟨b',e',s5 _ _ (mV hb' λz=>by rw[z,gw] at hb';cases hb')⟩ s6) (s6 _ _ gla5) k7
   have hLL:aLh m st (Ls ++ [ks]):=by
    refine⟨λj rs hj=>?_⟩
    by_cases hj2:j < Ls.length
    ·rw[Qx9 hj2] at hj
     exact hL.at_ j rs hj
    ·have hj3:j < (Ls ++ [ks]).length:=(uS.mp hj).1
     rw[xX,Rj9] at hj3
     obtain rfl:j=Ls.length:=by omega
     rw[Qy9 (fJ _),Sv9] at hj
     cases hj
     refine⟨k1,λs=>?_⟩
     rw[k2' s,hk3 s,lL]
   exact⟨w2,ps2,as ++ [p],Ls ++ [ks],_,rfl,S'.free nw2,k7 _ _ (s6 _ _ gw2) w2la,hW2,hk3,λb o e=>k7 _ _ (s6 _ _ (S5 _ _ e)) (bG nlaH e),by rw[g7,xY];rfl,hR,hLL,by rw[xX,lL];rfl⟩
  ·subst e
   walk_at "w"
   exact k la Ls H' S' nlaH ⟨as,gla,rla.imp λb ps ⟨us,a1,a2,_⟩=>⟨us,a1,a2⟩⟩ hL (by omega)
def aDW(K:W.Frag)(C:Addr):Sp:=λvs H Q _=>∃(q:Addr) (m:MS) (t:Addr) (a:Int×Int),vs=[.ref q,.ref t]/\cK C H q m/\m.Good/\H t=some (.tup [.int a.1,.int a.2])/\St0 a.1 a.2/\
 ∀l H',aQ H H'->uO κS H' l ((([0,1]:List Int).filter (aFi a)).map λon=>(on,sS m a.1 a.2 on,aOY m a on))->Q (.ref l) H'
theorem aDX{mg:Str->Option Value}{a:j8}(tx:Txt K mg a):bP P w K mg base hU 7 a.oJ a.oK ["machine","state"] (aDW K a.bB):=by
 have pT:=xV (P:=P) (w:=w) (base:=base) tx
 have aHR:=aGB (P:=P) (w:=w) (base:=base) tx
 have iV:=pS (P:=P) (w:=w) (base:=base) tx
 refine tx.uG.ok aDA (λvs H Q E h=>?_) (λcdv A outer s H vs Q E hr h=>?_)
 ·obtain⟨q,m,t,st,rfl,_⟩:=h
  rfl
 ·obtain⟨q,m,t,st,rfl ,hm,hg,ht,hst,k⟩:=h
  have hu:=kT hr
  refine bD (aG (aM (cY (k:=1) (idx:=[0,1]) (N:=["on","machine","state"]) (dA (sc:=aF fN) (NX:=["machine","state"]) rfl rfl rfl (by decide +kernel)) rfl (aCs (K':=K) (gL aB aB)) (λ_ _ _ _=>(aO (i:=0) (show(["on","machine","state"]:List Str).Nodup by decide +kernel))) (eV (by decide)) (λ_ _ _ _=>(aCr (d9 (aE (pT) (hr.mono (by decide)) (by rfl) tx.wG tx.sL.kp tx.wD .nil aT (aA (Z.pv 1) (aA (Z.pv 2) (aA (Z.pv 0) aC))))))) (λ_ _ _ _=>(aEM (Z.pv 0) (aE (iV) (hr.mono (by decide)) (by rfl) tx.mO tx.iS.kp tx.mN .nil aT (aA (Z.pv 1) (aA (Z.pv 2) (aA (Z.pv 0) aC)))) (aE (aHR) (hr.mono (by decide)) (by rfl) tx.aCO tx.zB.kp tx.aCN .nil aT (aA (Z.pv 1) (aA (Z.pv 2) (aA (xR (Z.pv 0)) aC))))))))) ?_
  refine aV (σ:=[some (.ref q),some (.ref t)]) rfl ?_
  walk_at "w"
  intro Tu nTu
  obtain⟨H1,i1,s1,gTu⟩:=nw _ nTu;rw[i1]
  refine aNg (mX.of gTu) ?_
  refine aKb (xs:=([0,1]:List Int).map V.int) (λj us H'=>aQ H1 H'/\∃as:List Addr,us=as.map V.ref/\as.length<=j/\RL (aAD κS H') as (((([0,1]:List Int).take j).filter (aFi st)).map λon=>(on,sS m st.1 st.2 on,aOY m st on))) ⟨aQ.refl _,[],rfl,fJ _,RL.nil⟩ (cZ (by simp))
   (λj us H' hj ⟨s',as,e,la,r⟩=>⟨mX.of (s' _ _ gTu),by rw[e,bZ];exact la⟩) (λj v us H' hv ⟨s',as,e,la,r⟩=>?_) (λus H' ⟨s',as,e,la,r⟩=>?_)
  ·obtain⟨on,eon,rfl⟩:=aCb hv
   have bon:Bit on:=by
    have:=vD eon
    simp at this
    exact this
   have tk:([0,1]:List Int).take (j+1)=([0,1]:List Int).take j ++ [on]:=by rw[Sb9,eon];rfl
   have S':=s1.trans s'
   have ht':=S' _ _ ht
   walk_at "w"
   refine⟨_,t,_,_,on,rfl,ht',?_⟩
   by_cases hmay:st.1=on\/st.2=0
   ·have hmb:aFi st on=true:=aAF.mpr hmay
    rw[show(decide (st.1=on) || decide (st.2=0))=true from hmb]
    walk_at "w"
    refine⟨q,m,t,_,_,on,rfl,hm.same S',ht',hmay,λT2 H3 s3 nT2 gT2=>?_⟩
    walk_at "w"
    intro lo nlo
    obtain⟨H4,i4,s4,g4⟩:=nw _ nlo;rw[i4]
    walk_at "w"
    refine⟨q,m,t,_,_,lo,[on],rfl,hm.same (S'.trans (s3.trans s4)),hg,(s3.trans s4) _ _ ht',g4,by simp,?_,λH5 s5=>?_⟩
    ·show(if st.1=on\/st.2=0 then _ else _)=_
     rw[if_pos hmay]
     rfl
    walk_at "w"
    intro T nT
    obtain⟨H6,i6,s6,g6⟩:=nw _ nT;rw[i6]
    have s36:=s3.trans (s4.trans (s5.trans s6))
    refine⟨s'.trans s36,as ++ [T],by rw[e,xY];rfl,by rw[xX];simp;omega,?_⟩
    rw[tk,List.filter_append,xY,List.filter_cons_of_pos hmb]
    exact RL.snoc (r.imp λ_ _ z=>z.same s36) ⟨_,g6,T2,rfl,(s4.trans (s5.trans s6)) _ _ gT2⟩
   ·have hmb:aFi st on=false:=by cases h:aFi st on;rfl;exact absurd (aAF.mp h) hmay
    rw[show(decide (st.1=on) || decide (st.2=0))=false from hmb]
    walk_at "w"
    refine⟨s',as,e,by omega,?_⟩
    rw[tk,List.filter_append,xY,List.filter_cons_of_neg (by rw[hmb];simp)]
    simpa using r
  ·intro l nl
   obtain⟨H3,i3,s3,g3⟩:=nw _ nl;rw[i3]
   walk_at "w"
   exact k l H3 (s1.trans (s'.trans s3)) ⟨as,by rw[g3,e],r.imp λ_ _ z=>z.same s3⟩
def aAJ(K:W.Frag)(C:Addr):Sp:=λvs H Q _=>∃(q:Addr) (m:MS) (t:Addr) (a:Int×Int) (p:Int),vs=[.ref q,.ref t,.int p]/\cK C H q m/\m.Good/\H t=some (.tup [.int a.1,.int a.2])/\St0 a.1 a.2/\0<=p/\p<=1000000000001/\
 ∀l H',aQ H H'->uO κS H' l (rwy m p a)->Q (.ref l) H'
theorem aAK{mg:Str->Option Value}{a:j8}(tx:Txt K mg a):bP P w K mg base hU 8 a.qP a.qQ ["machine","state","price"] (aAJ K a.bB):=by
 have aDe:=aBR (P:=P) (w:=w) (base:=base) tx
 have aFp:=aDX (P:=P) (w:=w) (base:=base) tx
 refine tx.rC.ok aEY (λvs H Q E h=>?_) (λcdv A outer s H vs Q E hr h=>?_)
 ·obtain⟨q,m,t,st,pr,rfl,_⟩:=h
  rfl
 ·obtain⟨q,m,t,st,pr,rfl ,hm,hg,ht,hst,p0,p1,k⟩:=h
  have hu:=kT hr
  refine bD (aG (aM (cY (k:=3) (idx:=[0,2]) (N:=["on","later","cost","machine","price"]) (dA (sc:=aF gU) (NX:=["machine","state","price"]) rfl rfl rfl (by decide +kernel)) rfl (cC (K':=K) (aE (aFp) (hr.mono (by decide)) (by rfl) tx.aAv tx.uG.kp tx.aAu .nil aT (aA (Z.pv 0) (aA (Z.pv 1) aC)))) (λ_ _ _ _=>(cP (K':=K) (n:=3) rfl (bA (aO (i:=0) (show(["on","later","cost","machine","price"]:List Str).Nodup by decide +kernel)) (bA (aO (i:=1) (show(["on","later","cost","machine","price"]:List Str).Nodup by decide +kernel)) (bA (aO (i:=2) (show(["on","later","cost","machine","price"]:List Str).Nodup by decide +kernel)) cO))))) (zU (d8 (by decide) (d8 (by decide) (d8 (by decide) vP)))) (λ_ _ _ _=>cA) (λ_ _ _ _=>(aEM (Z.pv 0) (Z.pv 1) (aI jW (Z.pv 2) (aI bN (Z.pv 0) (aHm (Z.pv 3) tx.cM tx.m_Machine_gain (aDe) (hr.mono (by decide)) tx.wC .nil aT (aA (Z.pv 4) aC))))))))) ?_
  refine aV (σ:=[some (.ref q),some (.ref t),some (.int pr)]) rfl ?_
  walk_at "w"
  refine⟨q,m,t,st,rfl,hm,hg,ht,hst,λl H1 s1 hw1=>?_⟩
  obtain⟨as,gl,rl⟩:=hw1.ex
  have las:=rl.len
  have lfil:=aIu m pr st
  unfold rwy at lfil
  rw[bZ] at las lfil
  refine pZ (bS.of gl) ?_
  refine jL (xs:=as.map V.ref) (λj us H'=>aQ H1 H'/\∃bs:List Addr,us=bs.map V.ref/\RL (aAD κS H') bs ((rwy m pr st).take j)) ⟨aQ.refl _,[],rfl,RL.nil⟩ (cZ (by rw[bZ];omega))
   (λj us H' hj ⟨s',bs,e,r⟩=>⟨bS.of (s' _ _ gl),by rw[e,bZ,r.len,Re9];omega⟩) (λj v us H' hv ⟨s',bs,e,r⟩=>?_) (λus H' ⟨s',bs,e,r⟩=>?_)
  ·obtain⟨a1,w,ea,rfl,ew,vv,g1,hp⟩:=rl.gt hv
   rw[nK] at ew
   obtain⟨on,eon,rfl⟩:=Qr9.mp ew
   have er:(rwy m pr st)[j]?=some (on,sS m st.1 st.2 on,hw m pr st on):=by unfold rwy;rw[nK,eon];rfl
   obtain⟨b,rfl,hb⟩:=hp
   have bon:0<=on/\on<=1:=by
    have:=(Sq9.mp (vD eon)).1
    simp at this
    omega
   obtain⟨bo0,bo1⟩:=bon
   refine gK (mX.of (s' _ _ g1)) rfl ?_
   walk_at "w"
   have hm2:=hm.same (s1.trans s')
   obtain⟨dx,pl,hq,_⟩:=hm2.ex
   refine⟨q,dx,_,rfl,hq,rfl,?_⟩
   walk_at "w"
   refine⟨q,m,pr,rfl,hm2,hg,p0,p1,?_⟩
   walk_at "w"
   intro T nT
   obtain⟨H3,i3,s3,g3⟩:=nw _ nT;rw[i3]
   refine⟨s'.trans s3,bs ++ [T],by rw[e,xY];rfl,?_⟩
   rw[rJ er]
   exact RL.snoc (r.imp λ_ _ z=>z.same s3) ⟨_,g3,b,rfl,(s'.trans s3) _ _ hb⟩
  ·intro l2 nl2
   obtain⟨H3,i3,s3,g3⟩:=nw _ nl2;rw[i3]
   walk_at "w"
   rw[bZ,las,show(([0,1]:List Int).filter (aFi st)).length=(rwy m pr st).length by unfold rwy;rw[bZ],Rc9] at r
   exact k l2 H3 (s1.trans (s'.trans s3)) ⟨bs,by rw[g3,e],r.imp λ_ _ z=>z.same s3⟩
theorem aEv{a:j8}{m:MS}{ps:List Int}(C:Addr->Sp->Prop)(f:Addr)(spc:Sp)(hC:C f spc)(hs:cK a.bB H x m)(hg:m.Good)(hq:H q=some (.lst (ps.map V.int)))(ha:∀n∈ps,Am n)(h:∀(H':Hp) (h:Nat) (b:Addr) (p:Int) (Q:VK),aQ H H'->H' q=some (.lst (ps.map V.int))->uT (ps.map V.int) (h:Int)=some (.int p)->aAJ K a.bB [.ref x,.ref b,.int p] H' Q E0->spc [.int (h:Int),.ref b] H' Q E0) :
  xE κS C H f (Wr m ps) λi y=>i < ps.length/\St0 y.1 y.2:=by
 refine⟨spc,hC,λH' i v y Q s' hL hpv hk=>?_⟩
 obtain⟨b,rfl,hb⟩:=hpv
 obtain⟨hi,hy⟩:=hL
 have ep:ps[i]?=some ps[i]:=fH hi
 obtain⟨a0,a1⟩:=ha _ (Rt9 hi)
 refine h H' i b ps[i] Q s' (s' _ _ hq) (eQ (by rw[nK,ep];rfl)) ⟨x,m,b,y,ps[i],rfl,hs.same s',hg,hb,hy,a0,by omega,λl H2 s2 hw=>hk l H2 s2 ?_⟩
 unfold Wr
 rw[Qh9,ep]
 exact hw
def yF(K:W.Frag)(C t:Addr):Sp:=λvs H Q _=>∃(x:Addr) (m:MS) (b:Addr) (a:Int×Int) (q:Addr) (ps:List Int),vs=[.ref x,.ref b,.ref q]/\H t=some (.ctb cT cU)/\cK C H x m/\m.Good/\H b=some (.tup [.int a.1,.int a.2])/\St1 m a/\H q=some (.lst (ps.map V.int))/\(∀n∈ps,Am n)/\ps.length<=48/\
 ∀r Ls H',aQ H H'->H r=none->aLh m a Ls->Ls.length=ps.length+1->aHN κS H' r Ls (λi=>wF (Wr m ps) (Ls.length - 1 - i) i)->Q (.ref r) H'
theorem yG{P:Program}{w:World}{K:PySem.W.Frag}{mg:Str->Option Value}{base:Heap}{a:j8}(tx:Txt K mg a):bP P w K mg base hU 12 a.fP a.dX ["machine","state","prices"] (yF K a.bB a.bV):=by
 have aBb:=aAI (P:=P) (w:=w) (base:=base) tx
 have kR:=λbase':Heap=>rK (P:=P) (w:=w) (base:=base') tx
 refine tx.jH.okC tx.jJ nH (λvs H Q E h=>?_) (λA outer s H vs Q E hr h=>?_)
 ·obtain⟨x,m,b,st,q,ps,rfl,_⟩:=h
  rfl
 ·obtain⟨x,m,b,st,q,ps,rfl ,gt,hm,hg,hb,hst,hq,ha,hl,k⟩:=h
  have hu:=kT hr
  refine bD (aD (aJ (i:=3) nH.nd (aE (aBb) (hr.mono (by decide)) (by rfl) tx.sN tx.lM.kp tx.sM .nil aT (aA (Z.pv 0) (aA (Z.pv 1) (aA (aN (rc:=sD K) cL (by rfl) tx.iO gO (aA (Z.pv 2) aC)) aC)))))
   (aG (aM (qB (psL:=["hour","place"]) (N:=["hour","place","machine","prices"]) (idx:=[0,2]) (sp:=λC=>kQ K C) (kc:=8) (kR) (hr.mono (by decide)) (by rfl) tx.lK tx.iM.kp tx.lJ (λ_=>rfl) (dA (sc:=aF bT) (NX:=["machine","state","prices","layers"]) rfl rfl rfl (by decide +kernel)) rfl rfl rfl rfl (λ_ _ _ _ us hl=>match us,hl with|[_,_],_=>rfl) (lB (Z.pv 3) (tD (N:=["hour","place","machine","prices"]) (n:=2) (idx:=[0,2]) rfl tx.jJ.hd rfl rfl (dA (sc:=aF bT) (NX:=["machine","state","prices","layers"]) rfl rfl rfl (by decide +kernel)))) (λ_ _ _ _ _ _ _ _ hr hu=>(aE (aAK tx) (hr.mono (by decide)) (by rfl) tx.wU tx.rC.kp tx.wR .nil aT (aA (Z.pv 2) (aA (Z.pv 1) (aA (aH (K':=K) (Z.pv 3) (Z.pv 0)) aC))))))))) ?_
  refine aV (σ:=[some (.ref x),some (.ref b),some (.ref q),none]) rfl ?_
  walk_at "w"
  refine⟨x,m,b,st,ps.length,by rw[bZ],hm,hg,hb,hst,by omega,λla Ls H1 s1 nla hla hL lL=>?_⟩
  walk_at "w"
  refine⟨s1 _ _ gt,λf c' H3 Cc s3 hc hC=>?_⟩
  have s03:=s1.trans s3
  refine⟨Int×Int,κS,la,f,Ls,Wr m ps,_,rfl,hla.same s3,aIv hg hst ps (by omega) hL,by omega,aEv (K:=K) (a:=a) Cc f _ hC (hm.same s03) hg (s03 _ _ hq) ha (λH' h b' p Q s' gq hp hsp=>?_),λi qs y e1 e2 hy=>?_,λr H4 s4 nr hd=>?_⟩
  ·refine⟨s' _ _ hc,rfl,?_⟩
   refine aFo (σ:=[some (.int (h:Int)),some (.ref b'),some (.ref x),some (.ref q)]) rfl ?_
   walk_at "w"
   exact hsp
  ·exact⟨by omega,(Rc.st hg hst (((hL.at_ i qs e1).2 y).mp hy)).1⟩
  ·exact k r Ls H4 (s03.trans s4) (s03.free nr) hL lL hd
def aBZ(K:W.Frag)(C t1 t2:Addr):Sp:=λvs H Q _=>∃(x:Addr) (m:MS) (b:Addr) (a:Int×Int) (q:Addr) (ps:List Int),vs=[.ref x,.ref b,.ref q]/\H t1=some (.ctb cT cU)/\H t2=some (.ctb fW fX)/\cK C H x m/\m.Good/\H b=some (.tup [.int a.1,.int a.2])/\St1 m a/\H q=some (.lst (ps.map V.int))/\(∀n∈ps,Am n)/\ps.length<=48/\
 ∀T r H',aQ H H'->H r=none->H' T=some (.tup [.int (rwF m ps a),.ref r])->H' r=some (.lst ((rrF m ps a).map V.int))->Q (.ref T) H'
theorem aB0{P:Program}{w:World}{K:PySem.W.Frag}{mg:Str->Option Value}{base:Heap}{a:j8}(tx:Txt K mg a):bP P w K mg base hU 13 a.kN a.gZ ["machine","state","prices"] (aBZ K a.bB a.bV a.dY):=by
 have zN:=yG (P:=P) (w:=w) (base:=base) tx
 have uR:=λbase':Heap=>aAE (P:=P) (w:=w) (base:=base') tx
 refine tx.pN.okC tx.pQ m6 (λvs H Q E h=>?_) (λA outer s H vs Q E hr h=>?_)
 ·obtain⟨x,m,b,st,q,ps,rfl,_⟩:=h
  rfl
 ·obtain⟨x,m,b,st,q,ps,rfl ,gt1,gt2,hm,hg,hb,hst,hq,ha,hl,k⟩:=h
  have hu:=kT hr
  refine bD (aD (aJ (i:=3) m6.nd (aE (zN) (hr.mono (by decide)) (by rfl) tx.pM tx.jH.kp tx.pL .nil aT (aA (Z.pv 0) (aA (Z.pv 1) (aA (Z.pv 2) aC)))))
   (aD (aJ (i:=4) m6.nd (qB (psL:=["hour","place"]) (N:=["hour","place","machine","prices"]) (idx:=[0,2]) (sp:=λC=>uP K C) (kc:=8) (uR) (hr.mono (by decide)) (by rfl) tx.wN tx.qZ.kp tx.wM (λ_=>rfl) (dA (sc:=aF dB) (NX:=["machine","state","prices","worths","run"]) rfl rfl rfl (by decide +kernel)) rfl rfl rfl rfl (λ_ _ _ _ us hl=>match us,hl with|[_,_],_=>rfl) (lB (Z.pv 1) (lB (Z.pv 3) (tD (N:=["hour","place","machine","prices"]) (n:=2) (idx:=[0,2]) rfl tx.pQ.hd rfl rfl (dA (sc:=aF dB) (NX:=["machine","state","prices","worths","run"]) rfl rfl rfl (by decide +kernel))))) (λ_ _ _ _ _ _ _ _ hr hu=>(aE (aAK tx) (hr.mono (by decide)) (by rfl) tx.wU tx.rC.kp tx.wR .nil aT (aA (Z.pv 2) (aA (Z.pv 1) (aA (aH (K':=K) (Z.pv 3) (Z.pv 0)) aC)))))))
   (aG (aM (gL (qA hu (aH (K':=K) (Z.pv 3) aB) (Z.pv 1)) (Z.pv 4)))))) ?_
  refine aV (σ:=[some (.ref x),some (.ref b),some (.ref q),none,none]) rfl ?_
  walk_at "w"
  refine⟨x,m,b,st,q,ps,rfl,gt1,hm,hg,hb,hst,hq,ha,hl,λlw Ls H1 s1 nlw hL lL hd=>?_⟩
  walk_at "w"
  refine⟨s1 _ _ gt2,λf c' H3 Cc s3 hc hC=>?_⟩
  have s03:=s1.trans s3
  have el0:Ls[0]?=some Ls[0]:=fH (by omega)
  have in0:st∈Ls[0]:=((hL.at_ 0 _ el0).2 st).mpr rfl
  refine⟨Int×Int,κS,.ref b,st,Ls[0],lw,f,Ls,Wr m ps,_,rfl,⟨b,rfl,s03 _ _ hb⟩,hd.same s3,el0,in0,aIv hg hst ps (by omega) hL,by omega,aEv (K:=K) (a:=a) Cc f _ hC (hm.same s03) hg (s03 _ _ hq) ha (λH' h b' p Q s' gq hp hsp=>?_),λi qs y e1 e2 hy=>?_,λr H4 s4 nr gr=>?_⟩
  ·refine⟨s' _ _ hc,rfl,?_⟩
   refine aFo (σ:=[some (.int (h:Int)),some (.ref b'),some (.ref x),some (.ref q)]) rfl ?_
   walk_at "w"
   exact hsp
  ·exact⟨by omega,(Rc.st hg hst (((hL.at_ i qs e1).2 y).mp hy)).1⟩
  ·have s04:=s03.trans s4
   obtain⟨ds,gds,lds,hds⟩:=(hd.same (s3.trans s4)).ex
   have ed:ds[0]?=some ds[0]:=fH (by omega)
   have h0:=hds 0 _ _ ed el0
   generalize ds[0]=d0 at ed h0
   have ix:uT (ds.map V.ref) 0=some (.ref d0):=eQ (j:=0) (aC4 ed)
   walk_at "w"
   refine⟨d0,_,rfl,κS.get (v:=.ref b) (x:=st) h0 ⟨b,rfl,s04 _ _ hb⟩ in0,?_⟩
   walk_at "w"
   intro T nT
   obtain⟨H5,i5,s5,g5⟩:=nw _ nT;rw[i5]
   walk_at "w"
   have e1:Ls.length - 1=ps.length:=by omega
   rw[e1] at gr
   rw[Nat.sub_zero,e1] at g5
   exact k T r H5 (s04.trans s5) (s03.free nr) g5 (s5 _ _ gr)
def aDY(K:W.Frag):Sp:=λvs H Q _=>∃(p b:Addr) (x y M:Int),vs=[.ref p,.ref b,.int M]/\bE H p/\H b=some (.lst [.int x,.int y])/\1<=y/\y<=50000000000/\Am M/\
 ∀(r:Int) H',0<=r->r<=M->bE H' p->bM p H H'->d7 p H H'->Q (.int r) H'
theorem aDZ{mg:Str->Option Value}{a:j8}(tx:Txt K mg a):bP P w K mg base hU 2 a.oM a.oN ["_law_hand","_law_by","_law_most_here"] (aDY K):=by
 have aK:=cH (P:=P) (w:=w) (base:=base) tx
 refine tx.uH.ok aDB (λvs H Q E h=>?_) (λcdv A outer s H vs Q E hr h=>?_)
 ·obtain⟨p,b,x,y,M,rfl,_⟩:=h
  rfl
 ·obtain⟨p,b,x,y,M,rfl ,hh,hb,y0,y1,hM,k⟩:=h
  have hu:=kT hr
  refine bD (aG (aM (aN (oR rfl) (by rfl) tx.uZ y4 (aA (aN (oQ rfl) (by rfl) tx.w9 aAT (aA aB (aA (aI jW (aI bL (aI bN (aH (K':=K) (Z.pv 1) aB) (aE (aK) (hr.mono (by decide)) (by rfl) tx.aS tx.aP.kp tx.aR .nil aT (aA (Z.pv 0) (aA aB aC)))) (aE (aK) (hr.mono (by decide)) (by rfl) tx.aS tx.aP.kp tx.aR .nil aT (aA (Z.pv 0) (aA aB aC)))) aB) aC))) (aA (Z.pv 2) aC))))) ?_
  obtain⟨m0,m1⟩:=hM
  have bp:b≠p:=hh.aGt hb (by simp)
  refine aV (σ:=[some (.ref p),some (.ref b),some (.int M)]) rfl ?_
  walk_at "w"
  refine⟨p,_,rfl,hh,by decide,by decide,λr1 H1 a1 b1 h1 k1 q1=>?_⟩
  walk_at "w"
  refine⟨p,_,rfl,h1,by decide,by decide,λr2 H2 a2 b2 h2 k2 q2=>?_⟩
  walk_at "w"
  exact k _ _ (by omega) (by omega) h2 (k1.trans k2) (q1.trans q2)
def lmF(W:WS)(P:Ps)(qs:List Int):List Int:=List.zipWith (λm s=>rwF m qs s) W.specs P.1
def lsF(W:WS)(P:Ps)(qs:List Int):Int:=match W.store with|none=>0|some s=>lwF s qs P.2
def wsF(qs ws:List Int):Int:=List.sum (List.zipWith (λp w=>p*w) qs ws)
def pbF(W:WS)(P:Ps)(ws qs:List Int):Int:=wsF qs ws+List.sum (lmF W P qs)+lsF W P qs
structure aHS(W:WS)(P:Ps):Prop where
 ok:aEq W P
 st:∀(j:Nat) m s,W.specs[j]?=some m->P.1[j]?=some s->St1 m s
structure aHT(H:Hp)(t1 t2 t3 t4:Addr):Prop where
 a:H t1=some (.ctb cT cU)
 b:H t2=some (.ctb fW fX)
 c:H t3=some (.ctb cR cS)
 d:H t4=some (.ctb fE fF)
theorem aHT.same(h:aHT H t1 t2 t3 t4)(s:aQ H H'):aHT H' t1 t2 t3 t4:=⟨s _ _ h.a,s _ _ h.b,s _ _ h.c,s _ _ h.d⟩
theorem aEw{α β γ:Type}{f:α->β->γ}{xs:List α}{ys:List β}{i:Nat}{x:α}{y:β}(h1:xs[i]?=some x)(h2:ys[i]?=some y):List.zipWith f (xs.take (i+1)) (ys.take (i+1))=List.zipWith f (xs.take i) (ys.take i) ++ [f x y]:=by
 have e:(List.zipWith f xs ys)[i]?=some (f x y):=by rw[List.getElem?_zipWith,h1,h2]
 rw[<-List.take_zipWith,<-List.take_zipWith]
 exact take_snoc e
def xF(K:PySem.W.Frag)(CW CM CS t1 t2 t3 t4:Addr):Sp:=λvs H Q _=>∃(w:Addr) (W:WS) (a:Addr) (P:Ps) (q:Addr) (qs:List Int),vs=[.ref w,.ref a,.ref q]/\rF CW CM CS H w W/\W.Good/\aAA H a P/\aHS W P/\H q=some (.lst (qs.map V.int))/\(∀n∈qs,Am n)/\qs.length<=48/\aHT H t1 t2 t3 t4/\
 ∀(l:Addr) (H':Hp),aQ H H'->H' l=some (.lst ((lmF W P qs).map V.int))->Q (.ref l) H'
theorem xG{mg:Str->Option Value}{a:j8}(tx:Txt K mg a):bP P w K mg base hU 14 a.eR a.eS ["works","position","prices"] (xF K a.eT a.bB a.bX a.bV a.dY a.bU a.dH):=by
 have aDf:=aB0 (P:=P) (w:=w) (base:=base) tx
 refine tx.iQ.ok vW (λvs H Q E h=>?_) (λcdv A outer s H vs Q E hr h=>?_)
 ·obtain⟨w,W,ap,P,q,qs,rfl,_⟩:=h
  rfl
 ·obtain⟨w,W,ap,P,q,qs,rfl ,hw,hg,hP,hB,hq,ha,hl,hT,k⟩:=h
  have hu:=kT hr
  refine bD (aG (aM (cY (k:=2) (idx:=[2]) (N:=["machine","state","prices"]) (dA (sc:=aF cB) (NX:=["works","position","prices"]) rfl rfl rfl (by decide +kernel)) rfl (aCw (k1:=true) (k2:=false) (by rfl) tx.aCS (aA (cI (K':=K) (Z.pv 0) rfl) (aA (aH (K':=K) (Z.pv 1) aB) aC))) (λ_ _ _ _=>(cP (K':=K) (n:=2) rfl (bA (aO (i:=0) (show(["machine","state","prices"]:List Str).Nodup by decide +kernel)) (bA (aO (i:=1) (show(["machine","state","prices"]:List Str).Nodup by decide +kernel)) cO)))) (zU (d8 (by decide) (d8 (by decide) vP))) (λ_ _ _ _=>cA) (λ_ _ _ _=>(aH (K':=K) (aE (aDf) (hr.mono (by decide)) (by rfl) tx.wW tx.pN.kp tx.wV .nil aT (aA (Z.pv 0) (aA (Z.pv 1) (aA (Z.pv 2) aC)))) aB))))) ?_
  obtain⟨dx,lm,st,gw,hms,hsto⟩:=hw.ex
  obtain⟨ms,glm,rms⟩:=hms.ex
  obtain⟨t,gP,hts⟩:=hP.ex
  obtain⟨ts,gts,rts⟩:=hts.ex
  have lms:=rms.len
  have lts:=rts.len
  have lpp:=hB.ok.len
  have l6:=hg.len
  refine aV (σ:=[some (.ref w),some (.ref ap),some (.ref q)]) rfl ?_
  walk_at "w"
  refine jE gw tx.uK tx.lP rfl ?_
  walk_at "w"
  refine aKE (Src.lst glm) (Src.tup gts) ?_
  refine aEe (n:=W.specs.length) (by rw[bZ];omega) (by rw[bZ];omega) (.inl (by rw[bZ];omega)) (cZ (by omega))
   (λi us H'=>aQ H H'/\us=((List.zipWith (λm s=>rwF m qs s) (W.specs.take i) (P.1.take i)).map V.int)/\us.length<=i) ⟨aQ.refl _,by simp,fJ _⟩
   (λi us H' hi ⟨s',e1,e2⟩=>⟨⟨Src.lst (s' _ _ glm),Src.tup (s' _ _ gts)⟩,e2⟩)
   (λi x y us H' T hx hy ⟨s',e1,e2⟩ nT=>?_) (λus H' ⟨s',e1,e2⟩=>?_)
  ·obtain⟨xm,m,_,rfl,em,hm⟩:=rms.get hx
   obtain⟨xt,s,_,rfl,es,hs⟩:=rts.get hy
   obtain⟨J,j,sT,gT⟩:=nw _ nT;rw[j]
   have s2:=s'.trans sT
   refine gK (mX.of gT) rfl ?_
   walk_at "w"
   have hT2:=hT.same s2
   refine⟨xm,m,xt,s,q,qs,rfl,hT2.a,hT2.b,hm.same s2,hg.specs m (vD em),s2 _ _ hs,hB.st i m s em es,s2 _ _ hq,ha,hl,λT2 r2 H3 s3 nr2 gT2 gr2=>?_⟩
   walk_at "w"
   refine⟨s2.trans s3,?_,by rw[xX,Rj9];omega⟩
   rw[e1,aEw em es,xY]
   rfl
  ·subst e1
   rw[Rc9,<-lpp,Rc9]
   intro l nl
   obtain⟨J,j,sT,gT⟩:=nw _ nl;rw[j]
   walk_at "w"
   exact k l J (s'.trans sT) gT
def aAL(K:PySem.W.Frag)(CW CM CS t1 t2 t3 t4:Addr):Sp:=λvs H Q _=>∃(w:Addr) (W:WS) (a:Addr) (P:Ps) (q:Addr) (qs:List Int),vs=[.ref w,.ref a,.ref q]/\rF CW CM CS H w W/\W.Good/\aAA H a P/\aHS W P/\H q=some (.lst (qs.map V.int))/\(∀n∈qs,Am n)/\qs.length<=48/\aHT H t1 t2 t3 t4/\
 ∀(H':Hp),aQ H H'->Q (.int (lsF W P qs)) H'
theorem aAM{mg:Str->Option Value}{a:j8}(tx:Txt K mg a):bP P w K mg base hU 14 a.iK a.iL ["works","position","prices"] (aAL K a.eT a.bB a.bX a.bV a.dY a.bU a.dH):=by
 have aB1:=aBa (P:=P) (w:=w) (base:=base) tx
 refine tx.lN.ok aAb (λvs H Q E h=>?_) (λcdv A outer s H vs Q E hr h=>?_)
 ·obtain⟨w,W,ap,P,q,qs,rfl,_⟩:=h
  rfl
 ·obtain⟨w,W,ap,P,q,qs,rfl ,hw,hg,hP,hB,hq,ha,hl,hT,k⟩:=h
  have hu:=kT hr
  refine bD (aG (aM (aBi (aW aHh (cI (K':=K) (Z.pv 0) rfl) hV (bK _)) aB (aH (K':=K) (aE (aB1) (hr.mono (by decide)) (by rfl) tx.uY tx.m8.kp tx.uX .nil aT (aA (cI (K':=K) (Z.pv 0) rfl) (aA (aH (K':=K) (Z.pv 1) aB) (aA (Z.pv 2) aC)))) aB)))) ?_
  obtain⟨dx,lm,st,gw,hms,hsto⟩:=hw.ex
  obtain⟨t,gP,hts⟩:=hP.ex
  have hlev:=hB.ok.lev
  unfold aBG at hlev
  unfold lsF at k
  refine aV (σ:=[some (.ref w),some (.ref ap),some (.ref q)]) rfl ?_
  walk_at "w"
  refine jE gw tx.uK tx.mP rfl ?_
  cases e:W.store with
  |none=>
   rw[e] at hsto k
   replace hsto:st=.non:=hsto
   subst hsto
   repeat walk_at "gs"
   exact k H (aQ.refl _)
  |some sv=>
   rw[e] at hsto k hlev
   obtain⟨c,rfl,hc⟩:=hsto
   replace hlev:0<=P.2/\P.2<=sv.cap:=hlev
   repeat walk_at "gs"
   refine jE gw tx.uK tx.mP rfl ?_
   repeat walk_at "gs"
   refine⟨c,sv,P.2,q,qs,rfl,hT.c,hT.d,hc,hg.store sv e,hlev.1,hlev.2,hq,ha,hl,λT r H2 s2 nr gT gr=>?_⟩
   walk_at "w"
   exact k H2 s2
def aDg(K:PySem.W.Frag)(CW CM CS t1 t2 t3 t4:Addr):Sp:=λvs H Q _=>∃(w:Addr) (W:WS) (a:Addr) (P:Ps) (u:Addr) (ws:List Int) (q:Addr) (qs:List Int),vs=[.ref w,.ref a,.ref u,.ref q]/\rF CW CM CS H w W/\W.Good/\aAA H a P/\aHS W P/\H u=some (.lst (ws.map V.int))/\H q=some (.lst (qs.map V.int))/\ws.length=qs.length/\(∀n∈qs,Am n)/\qs.length<=48/\aHT H t1 t2 t3 t4/\
 ∀(H':Hp),aQ H H'->Q (.int (pbF W P ws qs)) H'
theorem aDh{mg:Str->Option Value}{a:j8}(tx:Txt K mg a):bP P w K mg base hU 15 a.mG a.mH ["works","position","wants","prices"] (aDg K a.eT a.bB a.bX a.bV a.dY a.bU a.dH):=by
 have yH:=xG (P:=P) (w:=w) (base:=base) tx
 have aBc:=aAM (P:=P) (w:=w) (base:=base) tx
 refine tx.gH.ok pA (λvs H Q E h=>?_) (λcdv A outer s H vs Q E hr h=>?_)
 ·obtain⟨w,W,ap,P,u,ws,q,qs,rfl,_⟩:=h
  rfl
 ·obtain⟨w,W,ap,P,u,ws,q,qs,rfl ,hw,hg,hP,hB,hwn,hq,hlen,ha,hl,hT,k⟩:=h
  have hu:=kT hr
  refine bD (aD (aJ (i:=4) pA.nd (aN (rc:=aKy K) (aAY rfl) (by rfl) tx.aBF aG9 (aA (cY (k:=2) (idx:=[]) (N:=["price","want"]) (dA (sc:=aF eK) (NX:=["works","position","wants","prices","wanted","machines"]) rfl rfl rfl (by decide +kernel)) rfl (aCw (k1:=true) (k2:=true) (by rfl) tx.aCS (aA (Z.pv 3) (aA (Z.pv 2) aC))) (λ_ _ _ _=>(cP (K':=K) (n:=2) rfl (bA (aO (i:=0) (show(["price","want"]:List Str).Nodup by decide +kernel)) (bA (aO (i:=1) (show(["price","want"]:List Str).Nodup by decide +kernel)) cO)))) (zU (d8 (by decide) (d8 (by decide) vP))) (λ_ _ _ _=>cA) (λ_ _ _ _=>(aI bN (Z.pv 0) (Z.pv 1)))) aC)))
   (aD (aJ (i:=5) pA.nd (aN (rc:=aKy K) (aAY rfl) (by rfl) tx.aBF aG9 (aA (aE (yH) (hr.mono (by decide)) (by rfl) tx.nJ tx.iQ.kp tx.nI .nil aT (aA (Z.pv 0) (aA (Z.pv 1) (aA (Z.pv 3) aC)))) aC)))
   (aG (aM (aI bL (aI bL (Z.pv 4) (Z.pv 5)) (aE (aBc) (hr.mono (by decide)) (by rfl) tx.sP tx.lN.kp tx.sO .nil aT (aA (Z.pv 0) (aA (Z.pv 1) (aA (Z.pv 3) aC))))))))) ?_
  refine aV (σ:=[some (.ref w),some (.ref ap),some (.ref u),some (.ref q),none,none]) rfl ?_
  walk_at "w"
  refine aKE (Src.lst hq) (Src.lst hwn) ?_
  refine aEe (n:=qs.length) (by rw[bZ];omega) (by rw[bZ];omega) (.inl (by rw[bZ])) (cZ (by omega))
   (λi us H'=>aQ H H'/\us=((List.zipWith (λp w=>p*w) (qs.take i) (ws.take i)).map V.int)/\us.length<=i) ⟨aQ.refl _,by simp,fJ _⟩
   (λi us H' hi ⟨s',e1,e2⟩=>⟨⟨Src.lst (s' _ _ hq),Src.lst (s' _ _ hwn)⟩,e2⟩)
   (λi x y us H' T hx hy ⟨s',e1,e2⟩ nT=>?_) (λus H' ⟨s',e1,e2⟩=>?_)
  ·obtain⟨pr,ep,rfl⟩:=aCb hx
   obtain⟨wn,ew,rfl⟩:=aCb hy
   obtain⟨p0,p1⟩:=ha pr (vD ep)
   obtain⟨J,j,sT,gT⟩:=nw _ nT;rw[j]
   refine gK (mX.of gT) rfl ?_
   walk_at "w"
   refine⟨s'.trans sT,?_,by rw[xX,Rj9];omega⟩
   rw[e1,aEw ep ew,xY]
   rfl
  subst e1
  rw[Rc9,<-hlen,Rc9]
  intro l nl
  obtain⟨H2,i2,s2,g2⟩:=nw _ nl;rw[i2]
  have S2:=s'.trans s2
  walk_at "w"
  refine aHi (bS.of g2) ?_
  walk_at "w"
  refine⟨w,W,ap,P,q,qs,rfl,hw.tr S2.tr,hg,hP.tk S2.tk,hB,S2 _ _ hq,ha,hl,hT.same S2,λl2 H3 s3 g3=>?_⟩
  have S3:=S2.trans s3
  walk_at "w"
  refine aHi (bS.of g3) ?_
  walk_at "w"
  refine⟨w,W,ap,P,q,qs,rfl,hw.tr S3.tr,hg,hP.tk S3.tk,hB,S3 _ _ hq,ha,hl,hT.same S3,λH4 s4=>?_⟩
  walk_at "w"
  exact k H4 (S3.trans s4)
def aFq(K:W.Frag):Sp:=λvs H Q _=>∃(s:Addr) (m:MS),vs=[.ref s]/\dE H s m/\m.Good/\∀H',aQ H H'->Q (.int (m.least+aE9 m.pieces)) H'
theorem aFr{mg:Str->Option Value}{a:j8}(tx:Txt K mg a):bP P w K mg base hU 1 a.qR a.qS ["_law_spec_here"] (aFq K):=by
 refine tx.wX.ok aEZ (λvs H Q E h=>?_) (λcdv A outer s H vs Q E hr h=>?_)
 ·obtain⟨s,m,rfl,_⟩:=h
  rfl
 ·obtain⟨s,m,rfl ,hs,hg,k⟩:=h
  have hu:=kT hr
  refine bD (aG (aM (aI bL (aH (K':=K) (Z.pv 0) aB) (aN (rc:=aKy K) (aAY rfl) (by rfl) tx.aBF aG9 (aA (cY (k:=2) (idx:=[]) (N:=["_law_amount","_law_rate"]) (dA (sc:=aF gW) (NX:=["_law_spec_here"]) rfl rfl rfl (by decide +kernel)) rfl (cC (K':=K) (aH (K':=K) (Z.pv 0) aB)) (λ_ _ _ _=>(cP (K':=K) (n:=2) rfl (bA (aO (i:=0) (show(["_law_amount","_law_rate"]:List Str).Nodup by decide +kernel)) (bA (aO (i:=1) (show(["_law_amount","_law_rate"]:List Str).Nodup by decide +kernel)) cO)))) (zU (d8 (by decide) (d8 (by decide) vP))) (λ_ _ _ _=>cA) (λ_ _ _ _=>(Z.pv 0))) aC))))) ?_
  obtain⟨pl,hx,hp⟩:=hs.ex
  obtain⟨qs,h1,h2⟩:=hp.ex
  refine aV (σ:=[some (.ref s)]) rfl ?_
  walk_at "w"
  refine pZ (bS.of h1) ?_
  refine aLc (λt=>some t.1) h1 h2 hg.pieces.len (λq t N N' hm hq hN hN'=>?_) ?_
  ·refine gK (mX.of hq) rfl ?_
   walk_at "w"
   exact hN _ rfl
  intro l1 n1
  walk_at "w"
  refine aHi (bS.of aL) ?_
  rw[aLb]
  walk_at "w"
  exact k _ (aQ.new n1)
section Enm
variable{α:Type}
def aB2(W:Nat->α->List (Wy α)):Nat->α->List Int->Option (α×Int)
 |_,x,[]=>some (x,0)
 |i,x,c::r=>match (W i x).find? λw=>decide (w.1=c) with
  |none=>none
  |some w=>(aB2 W (i+1) w.2.1 r).map λe=>(e.1,w.2.2+e.2)
theorem aHU{W:Nat->α->List (Wy α)}:∀{row:List Int}{i:Nat}{x:α},aGD W i x row=(aB2 W i x row).map (·.2)
 |[],_,_=>rfl
 |c::r,i,x=>by
  unfold aGD aB2
  cases (W i x).find? λw=>decide (w.1=c) with
  |none=>rfl
  |some w=>
   show Option.map _ _=Option.map _ (Option.map _ _)
   rw[aHU,Option.map_map,Option.map_map]
   rfl
theorem aBd{W:Nat->α->List (Wy α)}{c:Int}:∀{row:List Int}{i:Nat}{x:α},aB2 W i x (row ++ [c])=(aB2 W i x row).bind λe=>((W (i+row.length) e.1).find? λw=>decide (w.1=c)).map λv=>(v.2.1,e.2+v.2.2)
 |[],i,x=>by
  show(match (W i x).find? λw=>decide (w.1=c) with|none=>none|some w=>(some (w.2.1,(0:Int))).map λe=>(e.1,w.2.2+e.2))=((W (i+0) x).find? λw=>decide (w.1=c)).map λv=>(v.2.1,0+v.2.2)
  rw[Nat.add_zero]
  cases (W i x).find? λw=>decide (w.1=c) with
  |none=>rfl
  |some w=>
   show some (w.2.1,w.2.2+0)=some (w.2.1,0+w.2.2)
   rw[Int.add_zero,Int.zero_add]
 |d::r,i,x=>by
  show aB2 W i x (d::(r ++ [c]))=_
  unfold aB2
  cases (W i x).find? λw=>decide (w.1=d) with
  |none=>rfl
  |some w=>
   show Option.map _ (aB2 W (i+1) w.2.1 (r ++ [c]))=(Option.map _ (aB2 W (i+1) w.2.1 r)).bind _
   rw[aBd,Ra9,show i+1+r.length=i+(r.length+1) by omega]
   cases aB2 W (i+1) w.2.1 r with
   |none=>rfl
   |some e=>
    show Option.map _ (Option.map _ _)=Option.map _ _
    rw[Option.map_map]
    congr 1
    funext v
    show(v.2.1,w.2.2+(e.2+v.2.2))=(v.2.1,w.2.2+e.2+v.2.2)
    rw[Int.add_assoc]
end Enm
section Fwd
variable{α:Type}[DecidableEq α]
def aHV(ps:List (α×Int))(k:α):Option Int:=(ps.find? λp=>decide (p.1=k)).map (·.2)
def aLr(ps:List (α×Int))(k:α)(v:Int):List (α×Int):=if ps.any (λp=>decide (p.1=k)) then ps.map (λp=>if p.1=k then (p.1,v) else p) else ps ++ [(k,v)]
theorem aAN{ps:List (α×Int)}{k:α}{v:Int}{q:α×Int}:q∈aLr ps k v↔q=(k,v)\/(q∈ps/\q.1≠k):=by
 unfold aLr
 by_cases h:ps.any (λp=>decide (p.1=k))=true
 ·rw[if_pos h,sR]
  constructor
  ·rintro ⟨p,hp,rfl⟩
   by_cases e:p.1=k
   ·rw[if_pos e,e];exact .inl rfl
   ·rw[if_neg e];exact .inr ⟨hp,e⟩
  ·rintro (rfl|⟨h1,h2⟩)
   ·obtain⟨p,hp,e⟩:=Ss9.mp h
    have e':=of_decide_eq_true e
    exact⟨p,hp,by rw[if_pos e',e']⟩
   ·exact⟨q,h1,if_neg h2⟩
 ·rw[if_neg h,Rd9,Qv9]
  constructor
  ·rintro (h1|h1)
   ·exact .inr ⟨h1,λe=>h (Ss9.mpr ⟨q,h1,decide_eq_true e⟩)⟩
   ·exact .inl h1
  ·rintro (h1|⟨h1,_⟩)
   ·exact .inr h1
   ·exact .inl h1
theorem aMX{ps:List (α×Int)}{k:α}{v:Int}(nd:(ps.map (·.1)).Nodup):((aLr ps k v).map (·.1)).Nodup:=by
 unfold aLr
 by_cases h:ps.any (λp=>decide (p.1=k))=true
 ·rw[if_pos h,Rk9]
  have e:((λp:α×Int=>p.1) ∘ λp:α×Int=>if p.1=k then (p.1,v) else p)=λp=>p.1:=by
   funext p
   show(if p.1=k then (p.1,v) else p).1=p.1
   split <;> rfl
  rw[e]
  exact nd
 ·rw[if_neg h,xY,List.nodup_append]
  refine⟨nd,by simp,λa ha b hb z=>?_⟩
  rw[Rb9,Te9,Qv9] at hb
  obtain⟨p,hp,e⟩:=sR.mp ha
  exact h (Ss9.mpr ⟨p,hp,decide_eq_true (e.trans (z.trans hb))⟩)
theorem aLs{ps:List (α×Int)}{k:α}{v:Int}(h:aHV ps k=some v):(k,v)∈ps:=by
 unfold aHV at h
 obtain⟨p,hp,rfl⟩:=Qr9.mp h
 have e:=of_decide_eq_true (List.find?_some (p:=λp:α×Int=>decide (p.1=k)) hp)
 rw[<-e]
 exact Sc9 hp
theorem aMY{ps:List (α×Int)}(nd:(ps.map (·.1)).Nodup){q:α×Int}(h:q∈ps):aHV ps q.1=some q.2:=by
 induction ps with
 |nil=>cases h
 |cons p r ih=>
  rw[Rb9,Rm9] at nd
  unfold aHV
  rw[Rv9]
  rcases xJ.mp h with rfl|h
  ·rw[decide_eq_true rfl];rfl
  ·have ne:p.1≠q.1:=λe=>nd.1 (by rw[e];exact sR.mpr ⟨q,h,rfl⟩)
   rw[decide_eq_false ne]
   exact ih nd.2 h
structure aEx(cs qs:List (α×Int)):Prop where
 nd:(qs.map (·.1)).Nodup
 so:∀q∈qs,q∈cs
 co:∀c∈cs,∃q∈qs,q.1=c.1/\q.2<=c.2
theorem aEx.nil:aEx ([]:List (α×Int)) []:=⟨List.nodup_nil,(λ_ h=>by cases h),λ_ h=>by cases h⟩
theorem aEx.on{cs qs:List (α×Int)}{y:α}{u:Int}(h:aEx cs qs):aEx (cs ++ [(y,u)]) (aLr qs y (min ((aHV qs y).getD u) u)):=by
 refine⟨aMX h.nd,λq hq=>?_,λc hc=>?_⟩
 ·rcases aAN.mp hq with rfl|⟨h1,_⟩
  ·cases e:aHV qs y with
   |none=>
    show(y,min u u)∈_
    rw[Int.min_self]
    exact Qw9 _ (.head _)
   |some v=>
    show(y,min v u)∈_
    by_cases hv:v<=u
    ·rw[Int.min_eq_left hv]
     exact Sa9 _ (h.so _ (aLs e))
    ·rw[Int.min_eq_right (by omega)]
     exact Qw9 _ (.head _)
  ·exact Sa9 _ (h.so q h1)
 ·rcases Rd9.mp hc with z|z
  ·obtain⟨q,hq,e1,e2⟩:=h.co c z
   by_cases e:q.1=y
   ·refine⟨_,aAN.mpr (.inl rfl),by show y=c.1;rw[<-e,e1],?_⟩
    have:=aMY h.nd hq
    rw[e] at this
    show min ((aHV qs y).getD u) u<=c.2
    rw[this]
    show min q.2 u<=c.2
    omega
   ·exact⟨q,aAN.mpr (.inr ⟨hq,e⟩),e1,e2⟩
  ·rw[Qv9.mp z]
   exact⟨_,aAN.mpr (.inl rfl),rfl,by show min _ u<=u;omega⟩
def aP9(W:Nat->α->List (Wy α))(i:Nat)(ps:List (α×Int)):List (α×Int):=ps.flatMap λp=>(W i p.1).map λw=>(w.2.1,p.2+w.2.2)
structure Fw(W:Nat->α->List (Wy α))(a:α)(i:Nat)(ps:List (α×Int)):Prop where
 nd:(ps.map (·.1)).Nodup
 so:∀p∈ps,∃row:List Int,row.length=i/\aB2 W 0 a row=some p
 co:∀(row:List Int) e,row.length=i->aB2 W 0 a row=some e->∃p∈ps,p.1=e.1/\p.2<=e.2
theorem Fw.on{W:Nat->α->List (Wy α)}(hr:∀i x,aMT (W i x)){i:Nat}{ps qs:List (α×Int)}(h:Fw W a i ps)(hq:aEx (aP9 W i ps) qs):Fw W a (i+1) qs:=by
 refine⟨hq.nd,λq hq'=>?_,λrow e hl he=>?_⟩
 ·obtain⟨p,hp,hc⟩:=List.mem_flatMap.mp (hq.so q hq')
  obtain⟨w,hw,rfl⟩:=sR.mp hc
  obtain⟨row,l1,e1⟩:=h.so p hp
  refine⟨row ++ [w.1],by rw[xX,l1];rfl,?_⟩
  rw[aBd,e1,l1,Nat.zero_add]
  show Option.map _ ((W i p.1).find? _)=_
  rw[aEs (hr i p.1) hw]
  rfl
 ·have hne:row≠[]:=λz=>by rw[z] at hl;cases hl
  have es:=List.dropLast_concat_getLast hne
  have lk:row.dropLast.length=i:=by rw[List.length_dropLast,hl];rfl
  rw[<-es,aBd] at he
  obtain⟨e',he',hv⟩:=Option.bind_eq_some_iff.mp he
  obtain⟨v,hf,ev⟩:=Qr9.mp hv
  rw[lk,Nat.zero_add] at hf
  cases ev
  obtain⟨p,hp,e1,e2⟩:=h.co row.dropLast e' lk he'
  have hw:=Sc9 hf
  obtain⟨q,hq',q1,q2⟩:=hq.co (v.2.1,p.2+v.2.2) (List.mem_flatMap.mpr ⟨p,hp,sR.mpr ⟨v,by rw[e1];exact hw,rfl⟩⟩)
  refine⟨q,hq',q1,?_⟩
  have q2':q.2<=p.2+v.2.2:=q2
  show q.2<=e'.2+v.2.2
  omega
theorem Fw.least{W:Nat->α->List (Wy α)}{n:Nat}{L:Nat->α->Prop}(hl:Lay W n L)(hr:∀i x,aMT (W i x)){a:α}(ha:L 0 a){ps:List (α×Int)}(h:Fw W a n ps):ps≠[]/\∀m,m∈ps.map (·.2)->(∀x∈ps.map (·.2),m<=x)->m=wF W n 0 a:=by
 obtain⟨r1,r2⟩:=aIq hl hr n 0 a (by omega) ha
 rw[aHU] at r1
 obtain⟨e,e1,e2⟩:=Qr9.mp r1
 obtain⟨p,hp,p1,p2⟩:=h.co _ e r2 e1
 refine⟨(λz=>by rw[z] at hp;cases hp),λm hm hle=>?_⟩
 have a1:=hle p.2 (sR.mpr ⟨p,hp,rfl⟩)
 obtain⟨q,hq,rfl⟩:=sR.mp hm
 obtain⟨row,l1,f1⟩:=h.so q hq
 have a2:=aNi (W:=W) (row:=row) (i:=0) (x:=a) (v:=q.2) (by rw[aHU,f1];rfl)
 rw[l1] at a2
 have a3:e.2=wF W n 0 a:=e2
 omega
end Fwd
def drO:Option SS->Int->Int->Int
 |none,_,_=>0
 |some s,l,n=>dr s l n
def Wo(o:Option SS)(qs:List Int)(i:Nat)(x:Int):List (Wy Int):=(lvO o x).map λy=>(y,y,qs.getD i 0*drO o x y)
theorem aMZ(s:SS)(qs:List Int):Wo (some s) qs=Wl s qs:=by
 funext i x
 unfold Wo Wl lwy
 congr 1
 show upL (max 0 (x - s.out)) (min s.cap (x+s.into)+1 - max 0 (x - s.out)).toNat=upL (max (x - s.out*1) 0) (min (x+s.into*1) s.cap+1 - max (x - s.out*1) 0).toNat
 rw[show max 0 (x - s.out)=max (x - s.out*1) 0 by omega,show min s.cap (x+s.into)=min (x+s.into*1) s.cap by omega]
def LvO(o:Option SS)(l:Int):Prop:=match o with|none=>l=0|some s=>0<=l/\l<=s.cap
theorem aO2{l y:Int}(hy:y∈lvO o l):LvO o y:=by
 cases o with
 |none=>exact Qv9.mp hy
 |some s=>
  have h:y∈upL (max 0 (l - s.out)) (min s.cap (l+s.into)+1 - max 0 (l - s.out)).toNat:=hy
  rw[aCa] at h
  show 0<=y/\y<=s.cap
  omega
theorem aLt(g:∀s,o=some s->s.Good)(qs:List Int)(n:Nat):Lay (Wo o qs) n (λ_=>LvO o) where
 ne:=λi x _ hx=>by
  unfold Wo
  cases o with
  |none=>show [_]≠[];simp
  |some s=>
   have h:0<=x/\x<=s.cap:=hx
   have gs:=g s rfl
   have g2:=gs.into
   have g3:=gs.out
   intro z
   have z':=List.map_eq_nil_iff.mp z
   have:x∈lvO (some s) x:=by
    show x∈upL (max 0 (x - s.out)) (min s.cap (x+s.into)+1 - max 0 (x - s.out)).toNat
    rw[aCa]
    omega
   rw[z'] at this
   cases this
 on:=λi x w _ hx hw=>by
  unfold Wo at hw
  obtain⟨y,hy,rfl⟩:=sR.mp hw
  exact aO2 hy
theorem xH{W:WS}{P:Ps}(qs:List Int):wF (Wo W.store qs) qs.length 0 P.2=lsF W P qs:=by
 unfold lsF
 cases e:W.store with
 |none=>
  have key:∀(k i:Nat) (x:Int),wF (Wo none qs) k i x=0:=by
   intro k
   induction k with
   |zero=>intro i x;rfl
   |succ k ih=>
    intro i x
    show qs.getD i 0*0+wF (Wo none qs) k (i+1) 0=0
    rw[ih,Int.mul_zero]
    rfl
  exact key _ _ _
 |some s=>rw[aMZ];rfl
def aFs(K:W.Frag):Sp:=λvs H Q _=>∃(p b:Addr) (x y:Int),vs=[.ref p,.ref b]/\bE H p/\H b=some (.lst [.int x,.int y])/\1<=x/\∀(n:Int) H',0<=n->bE H' p->bM p H H'->d7 p H H'->Q (.int n) H'
theorem aFt{mg:Str->Option Value}{a:j8}(tx:Txt K mg a):bP P w K mg base hU 2 a.qT a.qU ["_law_hand","_law_by"] (aFs K):=by
 have aK:=cH (P:=P) (w:=w) (base:=base) tx
 refine tx.wY.ok aE0 (λvs H Q E h=>?_) (λcdv A outer s H vs Q E hr h=>?_)
 ·obtain⟨p,b,x,y,rfl,_⟩:=h
  rfl
 ·obtain⟨p,b,x,y,rfl ,hh,hb,x0,k⟩:=h
  have hu:=kT hr
  refine bD (aG (aM (aI bL (aI bN (aH (K':=K) (Z.pv 1) aB) (aE (aK) (hr.mono (by decide)) (by rfl) tx.aS tx.aP.kp tx.aR .nil aT (aA (Z.pv 0) (aA aB aC)))) (aE (aK) (hr.mono (by decide)) (by rfl) tx.aS tx.aP.kp tx.aR .nil aT (aA (Z.pv 0) (aA aB aC)))))) ?_
  refine aV (σ:=[some (.ref p),some (.ref b)]) rfl ?_
  walk_at "w"
  refine⟨p,_,rfl,hh,by decide,by decide,λr1 H1 a1 b1 h1 k1 q1=>?_⟩
  walk_at "w"
  refine⟨p,_,rfl,h1,by decide,by decide,λr2 H2 a2 b2 h2 k2 q2=>?_⟩
  walk_at "w"
  have z:=Ri9 (show 0<=x by omega) a1
  exact k _ _ (by omega) h2 (k1.trans k2) (q1.trans q2)
def aDi(K:W.Frag):Sp:=λvs H Q _=>∃(p b:Addr) (x y L:Int) (n:Nat),vs=[.ref p,.ref b,.int L,.int (n:Int)]/\bE H p/\H b=some (.lst [.int x,.int y])/\1<=y/\y<=50000000000/\Am L/\n<=48/\
 ∀(q:Addr) (ps:List Int) (H':Hp),H' q=some (.lst (ps.map V.int))->ps.length=n->(∀r∈ps,0<=r/\r<=L)->bE H' p->bM p H H'->Q (.ref q) H'
theorem aDj{mg:Str->Option Value}{a:j8}(tx:Txt K mg a):bP P w K mg base hU 3 a.mI a.mJ ["_law_hand","_law_by","_law_lack","_law_hours"] (aDi K):=by
 have aFu:=aDZ (P:=P) (w:=w) (base:=base) tx
 refine tx.rT.ok aCI (λvs H Q E h=>?_) (λcdv A outer s H vs Q E hr h=>?_)
 ·obtain⟨p,b,x,y,L,n,rfl,_⟩:=h
  rfl
 ·obtain⟨p,b,x,y,L,n,rfl ,hh,hb,y0,y1,hL,hn,k⟩:=h
  have hu:=kT hr
  refine bD (aG (aM (cY (k:=1) (idx:=[1,0,2]) (N:=["_law_hour","_law_by","_law_hand","_law_lack"]) (dA (sc:=aF eM) (NX:=["_law_hand","_law_by","_law_lack","_law_hours"]) rfl rfl rfl (by decide +kernel)) rfl (cN (by rfl) tx.dZ (aA (Z.pv 3) aC)) (λ_ _ _ _=>(aO (i:=0) (show(["_law_hour","_law_by","_law_hand","_law_lack"]:List Str).Nodup by decide +kernel))) (eV (by decide)) (λ_ _ _ _=>cA) (λ_ _ _ _=>(aE (aFu) (hr.mono (by decide)) (by rfl) tx.aAx tx.uH.kp tx.aAw .nil aT (aA (Z.pv 2) (aA (Z.pv 1) (aA (Z.pv 3) aC)))))))) ?_
  have bp:b≠p:=hh.aGt hb (by simp)
  refine aV (σ:=[some (.ref p),some (.ref b),some (.int L),some (.int (n:Int))]) rfl ?_
  walk_at "w"
  refine⟨by omega,by omega,?_⟩
  rw[Ro9]
  refine oX (λi us H'=>bE H' p/\bM p H H'/\∃ps:List Int,us=ps.map V.int/\ps.length=i/\∀r∈ps,0<=r/\r<=L) ⟨hh,λ_ _ e _=>e,[],rfl,rfl,λr h=>by cases h⟩ (cZ (by omega)) (λi us H' hi ⟨_,_,ps,e1,e2,_⟩=>by rw[e1,bZ];omega) (λi us H' hi ⟨h1,k1,ps,e1,e2,e3⟩=>?_) (λus H' ⟨h1,k1,ps,e1,e2,e3⟩=>?_)
  ·walk_at "w"
   refine⟨p,b,x,y,L,rfl,h1,k1 _ _ hb bp,y0,y1,hL,λr H2 r0 r1 h2 k2 _=>?_⟩
   refine⟨h2,k1.trans k2,ps ++ [r],by rw[e1,xY];rfl,by rw[xX,e2];rfl,λz hz=>?_⟩
   rcases Rd9.mp hz with h|h
   ·exact e3 z h
   ·rw[Qv9.mp h];exact⟨r0,r1⟩
  ·subst e1
   intro q nq
   obtain⟨H2,i2,s2,g2⟩:=nw _ nq;rw[i2]
   walk_at "w"
   exact k q ps H2 g2 e2 e3 (h1.same s2) (k1.trans s2.keep)
theorem aLu{s:SS}(g:s.Good){l n:Int}(h:Lv s l n):-(s.out*s.gives)<=dr s l n/\dr s l n<=s.into*s.takes:=by
 obtain⟨h1,h2,h3,h4⟩:=h
 have a1:=g.takes.1
 have a2:=g.gives.1
 have a3:0<=s.out*s.gives:=Ri9 g.out.1 a2
 have a4:0<=s.into*s.takes:=Ri9 g.into.1 a1
 unfold dr
 by_cases e:l < n
 ·rw[if_pos e]
  have b1:0<=s.takes*(n - l):=Ri9 a1 (by omega)
  have b2:s.takes*(n - l)<=s.takes*s.into:=Qq9 (by omega) a1
  rw[Int.mul_comm s.takes s.into] at b2
  exact⟨by omega,b2⟩
 ·rw[if_neg e]
  have b1:0<=s.gives*(l - n):=Ri9 a2 (by omega)
  have b2:s.gives*(l - n)<=s.gives*s.out:=Qq9 (by omega) a2
  rw[Int.mul_comm s.gives s.out] at b2
  have b3:s.gives*(n - l) = -(s.gives*(l - n)):=by rw[<-Int.mul_neg,Int.neg_sub]
  rw[b3]
  exact⟨by omega,by omega⟩
section Mv
variable{α:Type}
def mvW(g:Wy α->Int)(ws:List (Wy α)):List (Wy α):=ws.map λw=>(w.1,w.2.1,g w)
theorem aBe{g:Wy α->Int}:v∈mvW g ws↔∃w∈ws,v=(w.1,w.2.1,g w):=by
 unfold mvW
 rw[sR]
 exact⟨λ⟨w,h,e⟩=>⟨w,h,e.symm⟩,λ⟨w,h,e⟩=>⟨w,h,e.symm⟩⟩
def aFv(δ:Nat->Int):Nat->Nat->Int
 |0,_=>0
 |k+1,i=>δ i+aFv δ k (i+1)
theorem aDk{W W':Nat->α->List (Wy α)}{δ:Nat->Int}{L:Nat->α->Prop}{n:Nat}(hl:Lay W n L)(h0:∀i,0<=δ i)(h:∀i x,∃g:Wy α->Int,W' i x=mvW g (W i x)/\∀w,w∈W i x->w.2.2 - δ i<=g w/\g w<=w.2.2):∀(k i:Nat) (x:α),i+k<=n->L i x->wF W k i x - aFv δ k i<=wF W' k i x/\wF W' k i x<=wF W k i x
 |0,_,_,_,_=>⟨by show(0:Int) - 0<=0;omega,Tv9 _⟩
 |k+1,i,x,hk,hx=>by
  obtain⟨g,e,hg⟩:=h i x
  have ne:=hl.ne i x (by omega) hx
  show bY (wF W k (i+1)) (W i x) - (δ i+aFv δ k (i+1))<=bY (wF W' k (i+1)) (W' i x)/\bY (wF W' k (i+1)) (W' i x)<=bY (wF W k (i+1)) (W i x)
  constructor
  ·obtain⟨v,hv,ev⟩:=fR (wF W' k (i+1)) (ws:=W' i x) (by rw[e];unfold mvW;simpa using ne)
   rw[e] at hv
   obtain⟨w,hw,rfl⟩:=aBe.mp hv
   have ih:=(aDk hl h0 h k (i+1) w.2.1 (by omega) (hl.on i x w (by omega) hx hw)).1
   have a:=iN (wF W k (i+1)) hw
   have b:=(hg w hw).1
   rw[<-ev]
   show _<=g w+wF W' k (i+1) w.2.1
   omega
  ·obtain⟨w,hw,ew⟩:=fR (wF W k (i+1)) ne
   have ih:=(aDk hl h0 h k (i+1) w.2.1 (by omega) (hl.on i x w (by omega) hx hw)).2
   have a:=iN (wF W' k (i+1)) (ws:=W' i x) (w:=(w.1,w.2.1,g w)) (by rw[e];exact aBe.mpr ⟨w,hw,rfl⟩)
   have b:=(hg w hw).2
   have a':bY (wF W' k (i+1)) (W' i x)<=g w+wF W' k (i+1) w.2.1:=a
   omega
end Mv
theorem aIy{p q:Int}(h:p<=q):∀{ps:List (Int×Int)},(∀t∈ps,1<=t.1)->gn p ps<=gn q ps
 |[],_=>Tv9 _
 |t::ps,hp=>by
  have a:=aIy h (ps:=ps) λu hu=>hp u (Qn9 _ hu)
  have b:=Qq9 (show max (p - t.2) 0<=max (q - t.2) 0 by omega) (show 0<=t.1 by have:=hp t (.head _);omega)
  show t.1*max (p - t.2) 0+gn p ps<=t.1*max (q - t.2) 0+gn q ps
  omega
theorem aGL{m:MS}(g:m.Good){p q:Int}(h:p<=q):gnT m p<=gnT m q:=by
 unfold gnT
 have a:=aIy h (ps:=m.pieces) λt ht=>(g.pieces.pc t ht).1
 have b:=Int.mul_le_mul_of_nonneg_right h g.least.1
 omega
theorem aDl{j:Nat}{D:Int}:∀(k i:Nat),aFv (λn=>if n=j then D else 0) k i=if i<=j/\j < i+k then D else 0
 |0,i=>by
  show(0:Int)=_
  rw[if_neg (by omega)]
 |k+1,i=>by
  show(if i=j then D else 0)+aFv _ k (i+1)=_
  rw[aDl k (i+1)]
  by_cases h:i=j
  ·rw[if_pos h,if_neg (by omega),if_pos (by omega)];omega
  ·rw[if_neg h]
   by_cases h2:i+1<=j/\j < i+1+k
   ·rw[if_pos h2,if_pos (by omega)];omega
   ·rw[if_neg h2,if_neg (by omega)];omega
theorem aGM{m:MS}(g:m.Good){a:Int×Int}(h:St1 m a){ps:List Int}{j:Nat}{p q:Int}(hj:ps[j]?=some p)(hq:p<=q):0<=rwF m ps a - rwF m (ps.set j q) a/\rwF m ps a - rwF m (ps.set j q) a<=gnT m q - gnT m p:=by
 have hl:=aIw g h ps ps.length
 have jl:j < ps.length:=(uS.mp hj).1
 have D0:=aGL g hq
 obtain⟨r1,r2⟩:=aDk (W:=Wr m ps) (W':=Wr m (ps.set j q)) (δ:=λn=>if n=j then gnT m q - gnT m p else 0) hl (λi=>by show 0<=(if i=j then _ else _);split <;> omega) (λi x=>by
  by_cases e:i=j
  ·subst e
   refine⟨λw=>w.2.2 - w.1*(gnT m q - gnT m p),?_,λw hw2=>?_⟩
   ·unfold Wr
    rw[Qh9,Ru9 jl,Qh9,hj]
    show rwy m q x=mvW _ (rwy m p x)
    unfold rwy mvW
    rw[Rk9]
    refine Sj9 λon _=>?_
    show(on,sS m x.1 x.2 on,hw m q x on)=(on,sS m x.1 x.2 on,hw m p x on - on*(gnT m q - gnT m p))
    congr 2
    unfold hw
    rw[Int.mul_sub]
    omega
   ·rw[if_pos rfl]
    obtain⟨on,b,_,rfl⟩:=aAG.mp hw2
    show hw m _ x on - _<=hw m _ x on - on*_/\hw m _ x on - on*_<=hw m _ x on
    rcases b with rfl|rfl
    ·rw[Int.zero_mul];omega
    ·rw[Td9];omega
  ·refine⟨λw=>w.2.2,?_,λw _=>by rw[if_neg e];show w.2.2 - 0<=w.2.2/\w.2.2<=w.2.2;omega⟩
   unfold Wr
   rw[Qh9,Rp9 (λz=>e z.symm),<-Qh9]
   unfold mvW
   simp) ps.length 0 a (by omega) rfl
 rw[aDl,if_pos (by omega)] at r1
 unfold rwF
 rw[Rz9]
 omega
section Nr
variable{α:Type}
theorem aFw{W W':Nat->α->List (Wy α)}{δ:Nat->Int}{L:Nat->α->Prop}{n:Nat}(hl:Lay W n L)(h:∀i x,L i x->∃g:Wy α->Int,W' i x=mvW g (W i x)/\∀w,w∈W i x->w.2.2 - δ i<=g w/\g w<=w.2.2+δ i):∀(k i:Nat) (x:α),i+k<=n->L i x->wF W k i x - aFv δ k i<=wF W' k i x/\wF W' k i x<=wF W k i x+aFv δ k i
 |0,_,_,_,_=>⟨by show(0:Int) - 0<=0;omega,by show(0:Int)<=0+0;omega⟩
 |k+1,i,x,hk,hx=>by
  obtain⟨g,e,hg⟩:=h i x hx
  have ne:=hl.ne i x (by omega) hx
  show bY (wF W k (i+1)) (W i x) - (δ i+aFv δ k (i+1))<=bY (wF W' k (i+1)) (W' i x)/\bY (wF W' k (i+1)) (W' i x)<=bY (wF W k (i+1)) (W i x)+(δ i+aFv δ k (i+1))
  constructor
  ·obtain⟨v,hv,ev⟩:=fR (wF W' k (i+1)) (ws:=W' i x) (by rw[e];unfold mvW;simpa using ne)
   rw[e] at hv
   obtain⟨w,hw,rfl⟩:=aBe.mp hv
   have ih:=(aFw hl h k (i+1) w.2.1 (by omega) (hl.on i x w (by omega) hx hw)).1
   have a:=iN (wF W k (i+1)) hw
   have b:=(hg w hw).1
   rw[<-ev]
   show _<=g w+wF W' k (i+1) w.2.1
   omega
  ·obtain⟨w,hw,ew⟩:=fR (wF W k (i+1)) ne
   have ih:=(aFw hl h k (i+1) w.2.1 (by omega) (hl.on i x w (by omega) hx hw)).2
   have a:=iN (wF W' k (i+1)) (ws:=W' i x) (w:=(w.1,w.2.1,g w)) (by rw[e];exact aBe.mpr ⟨w,hw,rfl⟩)
   have b:=(hg w hw).2
   have a':bY (wF W' k (i+1)) (W' i x)<=g w+wF W' k (i+1) w.2.1:=a
   omega
theorem aFx{W W1 W2:Nat->α->List (Wy α)}{L:Nat->α->Prop}{n:Nat}(hl:Lay W n L)(h:∀i x,L i x->∃g1 g2:Wy α->Int,W1 i x=mvW g1 (W i x)/\W2 i x=mvW g2 (W i x)/\∀w,w∈W i x->g1 w+g2 w<=2*w.2.2):∀(k i:Nat) (x:α),i+k<=n->L i x->wF W1 k i x+wF W2 k i x<=2*wF W k i x
 |0,_,_,_,_=>by show(0:Int)+0<=2*0;omega
 |k+1,i,x,hk,hx=>by
  obtain⟨g1,g2,e1,e2,hg⟩:=h i x hx
  obtain⟨w,hw,ew⟩:=fR (wF W k (i+1)) (hl.ne i x (by omega) hx)
  have ih:=aFx hl h k (i+1) w.2.1 (by omega) (hl.on i x w (by omega) hx hw)
  have a1:=iN (wF W1 k (i+1)) (ws:=W1 i x) (w:=(w.1,w.2.1,g1 w)) (by rw[e1];exact aBe.mpr ⟨w,hw,rfl⟩)
  have a2:=iN (wF W2 k (i+1)) (ws:=W2 i x) (w:=(w.1,w.2.1,g2 w)) (by rw[e2];exact aBe.mpr ⟨w,hw,rfl⟩)
  have a1':bY (wF W1 k (i+1)) (W1 i x)<=g1 w+wF W1 k (i+1) w.2.1:=a1
  have a2':bY (wF W2 k (i+1)) (W2 i x)<=g2 w+wF W2 k (i+1) w.2.1:=a2
  have b:=hg w hw
  show bY (wF W1 k (i+1)) (W1 i x)+bY (wF W2 k (i+1)) (W2 i x)<=2*bY (wF W k (i+1)) (W i x)
  omega
end Nr
theorem aIz{p q r:Int}(h:p+r=2*q):∀{ps:List (Int×Int)},(∀t∈ps,1<=t.1)->2*gn q ps<=gn p ps+gn r ps
 |[],_=>by show 2*(0:Int)<=0+0;omega
 |t::ps,hp=>by
  have a:=aIz h (ps:=ps) λu hu=>hp u (Qn9 _ hu)
  have b:=Qq9 (show 2*max (q - t.2) 0<=max (p - t.2) 0+max (r - t.2) 0 by omega) (show 0<=t.1 by have:=hp t (.head _);omega)
  rw[Tm9,<-Ts9,Int.mul_comm t.1 2,Ts9] at b
  show 2*(t.1*max (q - t.2) 0+gn q ps)<=t.1*max (p - t.2) 0+gn p ps+(t.1*max (r - t.2) 0+gn r ps)
  rw[Tm9]
  omega
theorem aIA(p:Int):∀{ps:List (Int×Int)},(∀t∈ps,1<=t.1)->gn (p+1) ps<=gn p ps+aE9 ps
 |[],_=>by show(0:Int)<=0+0;omega
 |t::ps,hp=>by
  have a:=aIA p (ps:=ps) λu hu=>hp u (Qn9 _ hu)
  have b:=Qq9 (show max (p+1 - t.2) 0<=max (p - t.2) 0+1 by omega) (show 0<=t.1 by have:=hp t (.head _);omega)
  rw[Tm9,Ta9] at b
  show t.1*max (p+1 - t.2) 0+gn (p+1) ps<=t.1*max (p - t.2) 0+gn p ps+(t.1+aE9 ps)
  omega
def mW(m:MS):Int:=m.least+aE9 m.pieces
theorem aDm{m:MS}(g:m.Good)(p:Int):gnT m (p+1) - gnT m p<=mW m:=by
 unfold gnT mW
 have a:=aIA p (ps:=m.pieces) λt ht=>(g.pieces.pc t ht).1
 rw[Tw9,Td9]
 omega
theorem aLv{m:MS}(g:m.Good){p q r:Int}(h:p+r=2*q):2*gnT m q<=gnT m p+gnT m r:=by
 unfold gnT
 have a:=aIz h (ps:=m.pieces) λt ht=>(g.pieces.pc t ht).1
 have b:p*m.least+r*m.least=2*(q*m.least):=by rw[<-Tw9,h,Ts9]
 rw[Tm9]
 omega
structure Mid(lo mid hi:List Int):Prop where
 l1:lo.length=mid.length
 l2:hi.length=mid.length
 at_:∀i,lo.getD i 0+hi.getD i 0=2*mid.getD i 0
theorem rw_conc{m:MS}(g:m.Good){a:Int×Int}(h:St1 m a){lo mid hi:List Int}(hm:Mid lo mid hi):rwF m lo a+rwF m hi a<=2*rwF m mid a:=by
 unfold rwF
 rw[hm.l1,hm.l2]
 refine aFx (aIw g h mid mid.length) (λi x _=>⟨λw=>w.2.2 - w.1*(gnT m (lo.getD i 0) - gnT m (mid.getD i 0)),λw=>w.2.2 - w.1*(gnT m (hi.getD i 0) - gnT m (mid.getD i 0)),?_,?_,λw hw=>?_⟩) mid.length 0 a (by omega) rfl
 ·unfold Wr rwy mvW
  rw[Rk9]
  refine Sj9 λon _=>?_
  show(on,sS m x.1 x.2 on,My.hw m _ x on)=(on,sS m x.1 x.2 on,My.hw m _ x on - on*_)
  congr 2
  unfold My.hw
  rw[Int.mul_sub]
  omega
 ·unfold Wr rwy mvW
  rw[Rk9]
  refine Sj9 λon _=>?_
  show(on,sS m x.1 x.2 on,My.hw m _ x on)=(on,sS m x.1 x.2 on,My.hw m _ x on - on*_)
  congr 2
  unfold My.hw
  rw[Int.mul_sub]
  omega
 ·obtain⟨on,b,_,rfl⟩:=aAG.mp hw
  have c:=aLv g (hm.at_ i)
  show My.hw m _ x on - on*_+(My.hw m _ x on - on*_)<=2*My.hw m _ x on
  rcases b with rfl|rfl
  ·rw[Int.zero_mul,Int.zero_mul];omega
  ·rw[Td9,Td9];omega
theorem aM0(g:∀s,o=some s->s.Good){l:Int}(h:LvO o l){lo mid hi:List Int}(hm:Mid lo mid hi):wF (Wo o lo) lo.length 0 l+wF (Wo o hi) hi.length 0 l<=2*wF (Wo o mid) mid.length 0 l:=by
 rw[hm.l1,hm.l2]
 refine aFx (aLt g mid mid.length) (λi x _=>⟨λw=>lo.getD i 0*drO o x w.1,λw=>hi.getD i 0*drO o x w.1,?_,?_,λw hw=>?_⟩) mid.length 0 l (by omega) h
 ·unfold Wo mvW
  rw[Rk9]
  rfl
 ·unfold Wo mvW
  rw[Rk9]
  rfl
 ·unfold Wo at hw
  obtain⟨y,hy,rfl⟩:=sR.mp hw
  show lo.getD i 0*drO o x y+hi.getD i 0*drO o x y<=2*(mid.getD i 0*drO o x y)
  rw[<-Tw9,hm.at_ i,Ts9]
  exact Tv9 _
theorem aIB:∀{lo mid hi ws:List Int},Mid lo mid hi->wsF lo ws+wsF hi ws=2*wsF mid ws
 |[],[],[],ws,_=>by cases ws <;> rfl
 |p::lo,q::mid,r::hi,[],_=>rfl
 |p::lo,q::mid,r::hi,w::ws,h=>by
  have e:p+r=2*q:=h.at_ 0
  have ih:=aIB (lo:=lo) (mid:=mid) (hi:=hi) (ws:=ws) ⟨by have:=h.l1;simpa using this,by have:=h.l2;simpa using this,λi=>h.at_ (i+1)⟩
  show p*w+wsF lo ws+(r*w+wsF hi ws)=2*(q*w+wsF mid ws)
  have e2:p*w+r*w=2*(q*w):=by rw[<-Tw9,e,Ts9]
  rw[Tm9]
  omega
 |[],_::_,_,_,h=>by have:=h.l1;cases this
 |_::_,[],_,_,h=>by have:=h.l1;cases this
 |_,[],_::_,_,h=>by have:=h.l2;cases this
 |_,_::_,[],_,h=>by have:=h.l2;cases this
theorem aIC:∀{ms:List MS}{ss:List (Int×Int)}{lo mid hi:List Int},(∀m∈ms,m.Good)->(∀(j:Nat) m s,ms[j]?=some m->ss[j]?=some s->St1 m s)->Mid lo mid hi->List.sum (List.zipWith (λm s=>rwF m lo s) ms ss)+List.sum (List.zipWith (λm s=>rwF m hi s) ms ss)<=2*List.sum (List.zipWith (λm s=>rwF m mid s) ms ss)
 |[],ss,lo,mid,hi,_,_,_=>by simp
 |m::ms,[],lo,mid,hi,_,_,_=>by simp
 |m::ms,s::ss,lo,mid,hi,hg,hs,hm=>by
  have ih:=aIC (ms:=ms) (ss:=ss) (λm hm=>hg m (Qn9 _ hm)) (λj m s a b=>hs (j+1) m s a b) hm
  have a:=rw_conc (hg m (.head _)) (hs 0 m s rfl rfl) hm
  rw[Sl9,Sl9,Sl9,Sr9,Sr9,Sr9]
  omega
theorem aID{W:WS}{P:Ps}(hB:aHS W P):LvO W.store P.2:=by
 have:=hB.ok.lev
 unfold aBG at this
 unfold LvO
 exact this
theorem aM1{W:WS}(hg:W.Good)(hB:aHS W P){ws lo mid hi:List Int}(hm:Mid lo mid hi):pbF W P ws lo+pbF W P ws hi<=2*pbF W P ws mid:=by
 have a:=aIB (ws:=ws) hm
 have b:=aIC (ms:=W.specs) (ss:=P.1) hg.specs hB.st hm
 have c:=aM0 hg.store (aID hB) hm
 rw[xH,xH,xH] at c
 unfold pbF lmF
 omega
def wdO(o:Option SS):Int:=match o with|none=>0|some s=>s.into*s.takes+s.out*s.gives
theorem aM2(g:∀s,o=some s->s.Good){x y:Int}(hx:LvO o x)(hy:y∈lvO o x):-wdO o<=drO o x y/\drO o x y<=wdO o:=by
 cases o with
 |none=>exact⟨by show -0<=(0:Int);omega,by show(0:Int)<=0;omega⟩
 |some s=>
  have gs:=g s rfl
  have h1:0<=x/\x<=s.cap:=hx
  have h2:y∈upL (max 0 (x - s.out)) (min s.cap (x+s.into)+1 - max 0 (x - s.out)).toNat:=hy
  rw[aCa] at h2
  obtain⟨b1,b2⟩:=aLu gs (l:=x) (n:=y) (by unfold Lv;omega)
  have a3:0<=s.out*s.gives:=Ri9 gs.out.1 gs.gives.1
  have a4:0<=s.into*s.takes:=Ri9 gs.into.1 gs.takes.1
  show -(s.into*s.takes+s.out*s.gives)<=dr s x y/\dr s x y<=s.into*s.takes+s.out*s.gives
  omega
theorem aM3(g:∀s,o=some s->s.Good){l:Int}(h:LvO o l){qs:List Int}{j:Nat}{u v:Int}(hj:qs[j]?=some u)(h1:v - u=1\/v - u = -1):wF (Wo o qs) qs.length 0 l - wdO o<=wF (Wo o (qs.set j v)) (qs.set j v).length 0 l/\wF (Wo o (qs.set j v)) (qs.set j v).length 0 l<=wF (Wo o qs) qs.length 0 l+wdO o:=by
 have jl:j < qs.length:=(uS.mp hj).1
 rw[Rz9]
 have r:=aFw (W:=Wo o qs) (W':=Wo o (qs.set j v)) (δ:=λn=>if n=j then wdO o else 0) (aLt g qs qs.length) (λi x hx=>by
  by_cases e:i=j
  ·subst e
   refine⟨λw=>v*drO o x w.1,?_,λw hw=>?_⟩
   ·unfold Wo mvW
    rw[Rk9,Qh9,Ru9 jl]
    rfl
   ·rw[if_pos rfl]
    unfold Wo at hw
    obtain⟨y,hy,rfl⟩:=sR.mp hw
    obtain⟨d1,d2⟩:=aM2 g hx hy
    have eg:qs.getD i 0=u:=by rw[Qh9,hj];rfl
    show qs.getD i 0*drO o x y - wdO o<=v*drO o x y/\v*drO o x y<=qs.getD i 0*drO o x y+wdO o
    rw[eg]
    have ev:v*drO o x y=u*drO o x y+(v - u)*drO o x y:=by rw[<-Tw9];congr 1;omega
    rcases h1 with z|z
    ·rw[z,Td9] at ev;omega
    ·rw[z,Int.neg_mul,Td9] at ev;omega
  ·refine⟨λw=>w.2.2,?_,λw _=>by rw[if_neg e];show w.2.2 - 0<=w.2.2/\w.2.2<=w.2.2+0;omega⟩
   unfold Wo
   rw[Qh9,Rp9 (λz=>e z.symm),<-Qh9]
   unfold mvW
   simp) qs.length 0 l (by omega) h
 rw[aDl,if_pos (by omega)] at r
 exact r
theorem rw_near{m:MS}(g:m.Good){a:Int×Int}(h:St1 m a){qs:List Int}{j:Nat}{u v:Int}(hj:qs[j]?=some u)(h1:v - u=1\/v - u = -1):rwF m qs a - mW m<=rwF m (qs.set j v) a/\rwF m (qs.set j v) a<=rwF m qs a+mW m:=by
 have jl:j < qs.length:=(uS.mp hj).1
 have m0:0<=mW m:=by
  have a1:=aGL g (show(0:Int)<=0+1 by decide)
  have a2:=aDm g 0
  omega
 rcases h1 with z|z
 ·obtain⟨r1,r2⟩:=aGM g h hj (show u<=v by omega)
  have s:=aDm g u
  rw[show v=u+1 by omega] at r1 r2 ⊢
  omega
 ·have hj':(qs.set j v)[j]?=some v:=Ru9 jl
  obtain⟨r1,r2⟩:=aGM g h hj' (show v<=u by omega)
  rw[List.set_set,show qs.set j u=qs by rw[<-(uS.mp hj).2];exact List.set_getElem_self jl] at r1 r2
  have s:=aDm g v
  rw[show u=v+1 by omega] at r2
  omega
theorem aLw:∀{qs ws:List Int}{j:Nat}{u v w:Int},qs[j]?=some u->ws[j]?=some w->wsF (qs.set j v) ws=wsF qs ws+(v - u)*w
 |[],_,_,_,_,_,h,_=>by simp at h
 |_::_,[],_,_,_,_,_,h=>by simp at h
 |p::qs,x::ws,0,u,v,w,h1,h2=>by
  cases h1
  cases h2
  show v*x+wsF qs ws=p*x+wsF qs ws+(v - p)*x
  rw[Int.sub_mul]
  omega
 |p::qs,x::ws,j+1,u,v,w,h1,h2=>by
  have ih:=aLw (qs:=qs) (ws:=ws) (j:=j) (v:=v) h1 h2
  show p*x+wsF (qs.set j v) ws=p*x+wsF qs ws+(v - u)*w
  omega
theorem aIE:∀{ms:List MS}{ss:List (Int×Int)}{qs:List Int}{j:Nat}{u v:Int},(∀m∈ms,m.Good)->ss.length=ms.length->(∀(j:Nat) m s,ms[j]?=some m->ss[j]?=some s->St1 m s)->qs[j]?=some u->(v - u=1\/v - u = -1)->
  List.sum (List.zipWith (λm s=>rwF m qs s) ms ss) - List.sum (ms.map mW)<=List.sum (List.zipWith (λm s=>rwF m (qs.set j v) s) ms ss)/\List.sum (List.zipWith (λm s=>rwF m (qs.set j v) s) ms ss)<=List.sum (List.zipWith (λm s=>rwF m qs s) ms ss)+List.sum (ms.map mW)
 |[],ss,qs,j,u,v,_,_,_,_,_=>by simp
 |m::ms,[],qs,j,u,v,_,hl,_,_,_=>by cases hl
 |m::ms,s::ss,qs,j,u,v,hg,hl,hs,hj,h1=>by
  have ih:=aIE (ms:=ms) (ss:=ss) (λm hm=>hg m (Qn9 _ hm)) (by simpa using hl) (λj m s a b=>hs (j+1) m s a b) hj h1
  have a:=rw_near (hg m (.head _)) (hs 0 m s rfl rfl) hj h1
  rw[Sl9,Sl9,Rb9,Sr9,Sr9,Sr9]
  omega
theorem aM4{W:WS}(hg:W.Good)(hB:aHS W P){ws qs:List Int}{j:Nat}{u v w:Int}(hj:qs[j]?=some u)(hw:ws[j]?=some w)(w0:0<=w)(h1:v - u=1\/v - u = -1):-(w+List.sum (W.specs.map mW)+wdO W.store)<=pbF W P ws (qs.set j v) - pbF W P ws qs/\pbF W P ws (qs.set j v) - pbF W P ws qs<=w+List.sum (W.specs.map mW)+wdO W.store:=by
 have a:=aLw (v:=v) hj hw
 have b:=aIE (ms:=W.specs) (ss:=P.1) hg.specs hB.ok.len hB.st hj h1
 have c:=aM3 hg.store (aID hB) hj h1
 rw[xH,xH] at c
 unfold pbF lmF
 rcases h1 with z|z
 ·rw[z,Td9] at a;omega
 ·rw[z,Int.neg_mul,Td9] at a;omega
def aFy(K:W.Frag):Sp:=λvs H Q _=>∃(p:Addr) (n:Int),vs=[.ref p,.int n]/\bE H p/\0<=n/\n<=20/\
 ∀(T s a u q:Addr) (W:WS) (P:Ps) (ws qs:List Int) (H':Hp),H' T=some (.tup [.ref s,.ref a,.ref u,.ref q])->rE H' s W->W.Good->aAA H' a P->aHS W P->H' u=some (.lst (ws.map V.int))->H' q=some (.lst (qs.map V.int))->ws.length=qs.length->(∀n∈qs,0<=n/\n<=W.lack)->(∀n∈ws,0<=n)->qs.length<=48->bE H' p->bM p H H'->Q (.ref T) H'
theorem aFz{mg:Str->Option Value}{a:j8}(tx:Txt K mg a):bP P w K mg base hU 5 a.qV a.qW ["_law_hand","_law_most_here"] (aFy K):=by
 have aK:=cH (P:=P) (w:=w) (base:=base) tx
 have aB3:=aA8 (P:=P) (w:=w) (base:=base) tx
 have aD0:=aDj (P:=P) (w:=w) (base:=base) tx
 have aGN:=aFt (P:=P) (w:=w) (base:=base) tx
 have aAO:=zK (P:=P) (w:=w) (base:=base) tx
 refine tx.wZ.ok j0 (λvs H Q E h=>?_) (λcdv A outer s H vs Q E hr h=>?_)
 ·obtain⟨p,n,rfl,_⟩:=h
  rfl
 ·obtain⟨p,n,rfl ,hh,n0,n1,k⟩:=h
  have hu:=kT hr
  refine bD (aD (sG (i:=2) j0.nd rfl (Or.inr rfl) (aE (aAO) (hr.mono (by decide)) (by rfl) tx.rB tx.kO.kp tx.rA .nil aT (aA (Z.pv 0) (aA aB aC))))
   (aD (aJ (i:=3) j0.nd (aH (K':=K) (nM (aE (aK) (hr.mono (by decide)) (by rfl) tx.aS tx.aP.kp tx.aR .nil aT (aA (Z.pv 0) (aA (aI bL (Z.pv 1) aB) aC))) aB) (aI aEz (aE (aK) (hr.mono (by decide)) (by rfl) tx.aS tx.aP.kp tx.aR .nil aT (aA (Z.pv 0) (aA aB aC))) aB)))
   (aD (bH (aW (r:=mZ K) (dS hu) (aH (K':=K) (Z.pv 2) aB) aB (bK _)) (aG (aJ (i:=3) j0.nd (aN (oR rfl) (by rfl) tx.uZ y4 (aA (Z.pv 3) (aA aB aC))))) bC)
   (aD (o6 (k:=1) (idx:=[0,2]) (N:=["_law_hour","_law_hand","_law_spec_here"]) (i:=4) j0.nd rfl (Or.inl rfl) (dA (sc:=aF gX) (NX:=["_law_hand","_law_most_here","_law_spec_here","_law_hours","_law_wants"]) rfl rfl rfl (by decide +kernel)) rfl (cN (by rfl) tx.dZ (aA (Z.pv 3) aC)) (λ_ _ _ _=>(aO (i:=0) (show(["_law_hour","_law_hand","_law_spec_here"]:List Str).Nodup by decide +kernel))) (eV (by decide)) (λ_ _ _ _=>cA) (λ_ _ _ _=>(aE (aGN) (hr.mono (by decide)) (by rfl) tx.aBy tx.wY.kp tx.aBx .nil aT (aA (Z.pv 1) (aA (aH (K':=K) (Z.pv 2) aB) aC)))))
   (aG (aM (aMA (Z.pv 2) (aE (aB3) (hr.mono (by decide)) (by rfl) tx.uW tx.m7.kp tx.uV .nil aT (aA (Z.pv 0) (aA (Z.pv 2) aC))) (Z.pv 4) (aE (aD0) (hr.mono (by decide)) (by rfl) tx.yP tx.rT.kp tx.yO .nil aT (aA (Z.pv 0) (aA (aH (K':=K) (Z.pv 2) aB) (aA (aH (K':=K) (Z.pv 2) aB) (aA (Z.pv 3) aC)))))))))))) ?_
  refine aV (σ:=[some (.ref p),some (.int n),none,none,none]) rfl ?_
  walk_at "w"
  refine⟨p,3,rfl,hh,by decide,by decide,λs W H1 hW hg h1 k1 ns=>?_⟩
  walk_at "w"
  refine⟨p,_,rfl,h1,by omega,by omega,λr2 H2 a2 b2 h2 k2 _=>?_⟩
  walk_at "w"
  intro l3 nl3
  obtain⟨H3,i3,s3,g3⟩:=nw _ nl3;rw[i3]
  have l3p:l3≠p:=h2.aGu nl3
  have h3:=h2.same s3
  walk_at "w"
  refine⟨p,_,rfl,h3,by decide,by decide,λr4 H4 a4 b4 h4 k4 _=>?_⟩
  have g4:=k4 _ _ g3 l3p
  obtain⟨nh,hnh,nh48⟩ : ∃m:Nat,uT [V.int r2,.int 48] (r4 / 7)=some (.int (m:Int))/\m<=48:=by
   obtain⟨m,rfl⟩:=Tg9 a2
   have:r4 / 7=0\/r4 / 7=1:=by omega
   rcases this with e|e <;> rw[e]
   ·exact⟨m,rfl,by omega⟩
   ·exact⟨48,rfl,by omega⟩
  have T4:Tr H1 H4:=(h1.tr k2).trans (s3.tr.trans (h3.tr k4))
  have K4:bM p H H4:=k1.trans (k2.trans (s3.keep.trans k4))
  have hW4:=hW.tr T4
  repeat walk_at "st"
  refine iX (λσ' H'=>aQ H4 H'/\∃nh:Nat,nh<=48/\σ'=[some (.ref p),some (.int n),some (.ref s),some (.int (nh:Int)),none]) (λN hN=>?_) (λσ' H5 ⟨s5,nh,nh48,e⟩=>?_)
  ·obtain⟨ls,st,bb,es,hsp,hst,hbb⟩:=hW4.ex
   obtain⟨ms,gls,rms⟩:=hsp.ex
   walk_at "w"
   refine cE (λhw1=>?_) (λhw1=>?_)
   ·walk_at "w"
    refine hN _ _ ⟨aQ.refl _,(min (nh:Int) 5).toNat,by omega,?_⟩
    rw[Int.toNat_of_nonneg (by omega)]
   ·walk_at "w"
    exact hN _ _ ⟨aQ.refl _,nh,nh48,rfl⟩
  subst e
  have T5:Tr H1 H5:=T4.trans s5.tr
  have h5:=h4.same s5
  have K5:bM p H H5:=K4.trans s5.keep
  have hW5:=hW.tr T5
  obtain⟨ls,st,bb,es,hsp,hst,hbb⟩:=hW5.ex
  have sp:s≠p:=h5.aGt es (by simp)
  have bbp:bb≠p:=h5.aGt hbb (by simp)
  walk_at "w"
  refine⟨by omega,by omega,?_⟩
  rw[Ro9]
  refine oX (λi us H'=>bE H' p/\bM p H5 H'/\∃ws:List Int,us=ws.map V.int/\ws.length=i/\∀n∈ws,0<=n) ⟨h5,λ_ _ e _=>e,[],rfl,rfl,λn h=>by cases h⟩ (cZ (by omega)) (λi us H' hi ⟨_,_,ps,e1,e2,_⟩=>by rw[e1,bZ];omega) (λi us H' hi ⟨h6,k6,ws,e1,e2,e3⟩=>?_) (λus H' ⟨h6,k6,ws,e1,e2,e3⟩=>?_)
  ·have es6:=k6 _ _ es sp
   walk_at "w"
   refine⟨p,bb,W.x,W.y,rfl,h6,k6 _ _ hbb bbp,hg.x.1,λw H7 w0 h7 k7 _=>?_⟩
   refine⟨h7,k6.trans k7,ws ++ [w],by rw[e1,xY];rfl,by rw[xX,e2];rfl,λn hn=>?_⟩
   rcases Rd9.mp hn with z|z
   ·exact e3 n z
   ·rw[Qv9.mp z];exact w0
  subst e1
  intro u nu
  obtain⟨H7,i7,s7,g7⟩:=nw _ nu;rw[i7]
  have h7:=h6.same s7
  have T7:Tr H1 H7:=T5.trans ((h5.tr k6).trans s7.tr)
  have K7:bM p H H7:=K5.trans (k6.trans s7.keep)
  have hW7:=hW.tr T7
  walk_at "w"
  refine⟨p,s,W,rfl,h7,hW7,hg,λa P H8 hP hPo hPs h8 k8=>?_⟩
  have T8:Tr H7 H8:=h7.tr k8
  have hW8:=hW7.tr T8
  obtain⟨ls8,st8,bb8,es8,hsp8,hst8,hbb8⟩:=hW8.ex
  walk_at "w"
  refine⟨p,bb8,W.x,W.y,W.lack,nh,rfl,h8,hbb8,hg.y.1,hg.y.2,hg.lack,nh48,λq qs H9 gq lq hq h9 k9=>?_⟩
  have T9:Tr H8 H9:=h8.tr k9
  walk_at "w"
  intro T nT
  obtain⟨H10,i10,s10,g10⟩:=nw _ nT;rw[i10]
  have T10:Tr H8 H10:=T9.trans s10.tr
  walk_at "w"
  exact k T s a u q W P ws qs H10 g10 (hW8.tr T10) hg (hP.tk T10.tk) ⟨hPo,hPs⟩ ((T8.trans T10) _ _ g7 xW) (s10 _ _ gq) (by omega) hq e3 (by omega) (h9.same s10) (K7.trans (k8.trans (k9.trans s10.keep)))
def aFA(K:W.Frag):Sp:=λvs H Q _=>∃(p q:Addr) (L:Int) (qs:List Int),vs=[.ref p,.int L,.ref q]/\bE H p/\H q=some (.lst (qs.map V.int))/\q≠p/\(∀n∈qs,0<=n/\n<=L)/\qs.length<=48/\
 ∀(T lo hi:Addr) (ls hs:List Int) (H':Hp),H' T=some (.tup [.ref lo,.ref hi])->H' lo=some (.lst (ls.map V.int))->H' hi=some (.lst (hs.map V.int))->Mid ls qs hs->(∀n∈ls,0<=n/\n<=L)->(∀n∈hs,0<=n/\n<=L)->bE H' p->bM p H H'->Q (.ref T) H'
theorem aFB{mg:Str->Option Value}{a:j8}(tx:Txt K mg a):bP P w K mg base hU 2 a.qX a.qY ["_law_hand","_law_lack","_law_prices_here"] (aFA K):=by
 have aK:=cH (P:=P) (w:=w) (base:=base) tx
 refine tx.w4.ok eI (λvs H Q E h=>?_) (λcdv A outer s H vs Q E hr h=>?_)
 ·obtain⟨p,q,L,qs,rfl,_⟩:=h
  rfl
 ·obtain⟨p,q,L,qs,rfl ,hh,hq,qp,hb,hl,k⟩:=h
  have hu:=kT hr
  refine bD (aD (aJ (i:=3) eI.nd (gQ (r:=mZ K) (dS hu) (aE (aK) (hr.mono (by decide)) (by rfl) tx.aS tx.aP.kp tx.aR .nil aT (aA (Z.pv 0) (aA aB aC))) aB (bK _)))
   (aD (aJ (i:=4) eI.nd (aI mY (aE (aK) (hr.mono (by decide)) (by rfl) tx.aS tx.aP.kp tx.aR .nil aT (aA (Z.pv 0) (aA aB aC))) (aN (oQ rfl) (by rfl) tx.w9 aAT (aA aB (aA (aN (rc:=sD K) cL (by rfl) tx.iO gO (aA (Z.pv 2) aC)) aC)))))
   (aD (aEf (i:=5) (j:=6) rfl eI.nd rfl rfl (by decide) rfl rfl (aA (cF (rc:=pY K) kX (by rfl) tx.jK lR (aA (Z.pv 2) aC)) (aA (cF (rc:=pY K) kX (by rfl) tx.jK lR (aA (Z.pv 2) aC)) aC)))
   (aD (cD PassesOwn.never rfl (cN (by rfl) tx.dZ (aA (aN (rc:=sD K) cL (by rfl) tx.iO gO (aA (Z.pv 2) aC)) aC)) (aO (i:=7) eI.nd) (aD (aJ (i:=8) eI.nd (aN (oR rfl) (by rfl) tx.uZ y4 (aA (aH (K':=K) (Z.pv 2) (Z.pv 7)) (aA (aI jW (Z.pv 1) (aH (K':=K) (Z.pv 2) (Z.pv 7))) aC))))
   (aD (aJ (i:=9) eI.nd (aN (oR rfl) (by rfl) tx.uZ y4 (aA (Z.pv 8) (aA (aH (K':=K) (nM (Z.pv 8) (aE (aK) (hr.mono (by decide)) (by rfl) tx.aS tx.aP.kp tx.aR .nil aT (aA (Z.pv 0) (aA aB aC)))) (aE (aK) (hr.mono (by decide)) (by rfl) tx.aS tx.aP.kp tx.aR .nil aT (aA (Z.pv 0) (aA aB aC)))) aC))))
   (aG (bH (fS (zW (fY (d9 (Z.pv 3))) (xO (aW (r:=mZ K) (dS hu) (Z.pv 7) (Z.pv 4) (bK _))))) (aD (aJ (i:=10) eI.nd (aH (K':=K) (nM (Z.pv 9) (aI jW aB (Z.pv 9))) (aE (aK) (hr.mono (by decide)) (by rfl) tx.aS tx.aP.kp tx.aR .nil aT (aA (Z.pv 0) (aA aB aC)))))
   (aD (sZ (Z.pv 5) (Z.pv 7) aEG (Z.pv 10) aNO set_list)
   (aG (sZ (Z.pv 6) (Z.pv 7) aEG (Z.pv 10) yW set_list)))) bC)))))
   (aG (aM (gL (Z.pv 5) (Z.pv 6)))))))) ?_
  refine aV (σ:=[some (.ref p),some (.int L),some (.ref q),none,none,none,none,none,none,none,none]) rfl ?_
  walk_at "w"
  refine⟨p,_,rfl,hh,by decide,by decide,λr1 H1 a1 b1 h1 k1 q1=>?_⟩
  have hq1:=k1 _ _ hq qp
  walk_at "w"
  refine⟨p,_,rfl,h1,by decide,by decide,λr2 H2 a2 b2 h2 k2 q2=>?_⟩
  have hq2:=k2 _ _ hq1 qp
  have K2:bM p H H2:=k1.trans k2
  have Q2:d7 p H H2:=q1.trans q2
  have mx:0 < max (1:Int) ((qs.map V.int).length:Int):=by omega
  walk_at "w"
  refine sE (bS.of hq2) ?_
  intro lo nlo
  obtain⟨H3,i3,s3,g3⟩:=nw _ nlo;rw[i3]
  have hq3:=s3 _ _ hq2
  have lop:lo≠p:=h2.aGu nlo
  have nloH:H lo=none:=hJ K2 h2 nlo
  walk_at "w"
  refine sE (bS.of hq3) ?_
  intro hi nhi
  obtain⟨H4,i4,s4,g4⟩:=nw _ nhi;rw[i4]
  have hip:hi≠p:=(h2.same s3).aGu nhi
  have nhiH:H hi=none:=hJ (K2.trans s3.keep) (h2.same s3) nhi
  have lohi:lo≠hi:=λz=>by rw[z,nhi] at g3;cases g3
  have g34:=s4 _ _ g3
  have s24:=s3.trans s4
  have K4:bM p H H4:=K2.trans s24.keep
  have Q4:d7 p H H4:=Q2.trans (d7.of (s24 p))
  have hq4:=s4 _ _ hq3
  have qlo:q≠lo:=bG nloH hq
  have qhi:q≠hi:=bG nhiH hq
  refine⟨_,_,rfl,?_⟩
  walk_at "w"
  refine⟨by rw[bZ];omega,by rw[bZ];omega,?_⟩
  rw[bZ,Ro9]
  refine sF (n:=qs.length) (λi σ' H'=>∃(ls hs:List Int) (z3 z4 z7 z8 z9 z10:Option V),σ'=[some (.ref p),some (.int L),some (.ref q),some (.bl (decide (r1=0))),z4,some (.ref lo),some (.ref hi),z7,z8,z9,z10]/\(∃at_:Int,z4=some (.int at_))/\H' lo=some (.lst (ls.map V.int))/\H' hi=some (.lst (hs.map V.int))/\Mid ls qs hs/\(∀n∈ls,0<=n/\n<=L)/\(∀n∈hs,0<=n/\n<=L)/\(∀j,i<=j->ls.getD j 0=qs.getD j 0/\hs.getD j 0=qs.getD j 0)/\bM p H H'/\d7 p H H')
   ⟨qs,qs,none,_,_,_,_,_,rfl,⟨_,rfl⟩,g34,g4,⟨rfl,rfl,λi=>by omega⟩,hb,hb,(λ_ _=>⟨rfl,rfl⟩),K4,Q4⟩ (λi σ' H5 hi' ⟨ls,hs,z3,z4,z7,z8,z9,z10,e,⟨at_,eat⟩,gl,gh,hM,hbl,hbh,hun,K5,Q5⟩=>?_) (λσ' H5 ⟨ls,hs,z3,z4,z7,z8,z9,z10,e,⟨at_,eat⟩,gl,gh,hM,hbl,hbh,hun,K5,Q5⟩=>?_)
  ·subst e eat
   have h5:=hh.of K5 Q5
   have hq5:=K5 _ _ hq qp
   have eu:qs[i]?=some qs[i]:=fH hi'
   obtain⟨u0,u1⟩:=hb _ (Rt9 hi')
   generalize qs[i]=u at eu u0 u1
   have ixu:uT (qs.map V.int) (0+(i:Int))=some (.int u):=by rw[show(0+(i:Int))=(i:Int) by omega];exact eQ (by rw[nK,eu];rfl)
   have egu:qs.getD i 0=u:=by rw[Qh9,eu];rfl
   obtain⟨un1,un2⟩:=hun i (fJ _)
   rw[egu] at un1 un2
   obtain⟨fr,hfr⟩ : ∃fr:Int,fr=min u (L - u):=⟨_,rfl⟩
   walk_at "w"
   rw[<-hfr]
   refine⟨p,_,rfl,h5,by decide,by decide,λr6 H6 a6 b6 h6 k6 q6=>?_⟩
   walk_at "w"
   intro l7 nl7
   obtain⟨H7,i7,s7,g7⟩:=nw _ nl7;rw[i7]
   have l7p:l7≠p:=h6.aGu nl7
   walk_at "w"
   refine⟨p,_,rfl,h6.same s7,by decide,by decide,λr8 H8 a8 b8 h8 k8 q8=>?_⟩
   have g8:=k8 _ _ g7 l7p
   obtain⟨sv,esv,sv0⟩ : ∃sv:Int,uT [V.int fr,.int r6] r8=some (.int sv)/\0<=sv:=by
    rcases(show r8=0\/r8=1 by omega) with rfl|rfl
    ·exact⟨fr,rfl,by omega⟩
    ·exact⟨r6,rfl,a6⟩
   obtain⟨sp,hsp⟩ : ∃sp:Int,sp=min fr sv:=⟨_,rfl⟩
   have K8:bM p H H8:=K5.trans (k6.trans (s7.keep.trans k8))
   have Q8:d7 p H H8:=Q5.trans (q6.trans ((d7.of (s7 p)).trans q8))
   have gl8:=k8 _ _ (s7 _ _ (k6 _ _ gl lop)) lop
   have gh8:=k8 _ _ (s7 _ _ (k6 _ _ gh hip)) hip
   have done:∀(σ':St) (z7 z8 z9 z10:Option V) (ls' hs':List Int) (H':Hp),σ'=[some (.ref p),some (.int L),some (.ref q),some (.bl (decide (r1=0))),some (.int at_),some (.ref lo),some (.ref hi),z7,z8,z9,z10]->H' lo=some (.lst (ls'.map V.int))->H' hi=some (.lst (hs'.map V.int))->Mid ls' qs hs'->(∀n∈ls',0<=n/\n<=L)->(∀n∈hs',0<=n/\n<=L)->(∀j,i+1<=j->ls'.getD j 0=qs.getD j 0/\hs'.getD j 0=qs.getD j 0)->bM p H H'->d7 p H H'->∃(ls hs:List Int) (z3 z4 z7 z8 z9 z10:Option V),σ'=[some (.ref p),some (.int L),some (.ref q),some (.bl (decide (r1=0))),z4,some (.ref lo),some (.ref hi),z7,z8,z9,z10]/\(∃at_:Int,z4=some (.int at_))/\H' lo=some (.lst (ls.map V.int))/\H' hi=some (.lst (hs.map V.int))/\Mid ls qs hs/\(∀n∈ls,0<=n/\n<=L)/\(∀n∈hs,0<=n/\n<=L)/\(∀j,i+1<=j->ls.getD j 0=qs.getD j 0/\hs.getD j 0=qs.getD j 0)/\bM p H H'/\d7 p H H':=λσ' z7 z8 z9 z10 ls' hs' H' a b c d e f g h i=>⟨ls',hs',none,_,z7,z8,z9,z10,a,⟨_,rfl⟩,b,c,d,e,f,g,h,i⟩
   walk_at "w"
   rw[<-hsp]
   repeat walk_at "st"
   refine iW (λc=>?_) (λc=>?_)
   rotate_left
   walk_at "w"
   refine cE (λc2=>?_) (λc2=>?_)
   rotate_left
   ·walk_at "w"
    exact done _ _ _ _ _ ls hs H8 rfl gl8 gh8 hM hbl hbh (λj hj=>hun j (by omega)) K8 Q8
   all_goals walk_at "w"
   all_goals
    intro l9 nl9
    obtain⟨H9,i9,s9,g9⟩:=nw _ nl9;rw[i9]
    have l9p:l9≠p:=h8.aGu nl9
    walk_at "w"
    refine⟨p,_,rfl,h8.same s9,by decide,by decide,λr10 H10 a10 b10 h10 k10 q10=>?_⟩
    have g10:=k10 _ _ g9 l9p
    obtain⟨wy,ewy,wyb⟩ : ∃wy:Int,uT [V.int sp,.int (0 - sp)] r10=some (.int wy)/\(wy=sp\/wy=0 - sp):=by
     rcases(show r10=0\/r10=1 by omega) with rfl|rfl
     ·exact⟨sp,rfl,.inl rfl⟩
     ·exact⟨0 - sp,rfl,.inr rfl⟩
    have K10:bM p H H10:=K8.trans (s9.keep.trans k10)
    have Q10:d7 p H H10:=Q8.trans ((d7.of (s9 p)).trans q10)
    have gl10:=k10 _ _ (s9 _ _ gl8) lop
    have gh10:=k10 _ _ (s9 _ _ gh8) hip
    have il:i < ls.length:=by rw[hM.l1];exact hi'
    have ih:i < hs.length:=by rw[hM.l2];exact hi'
    have el:ls[i]?=some u:=by rw[Qh9,fH il] at un1;rw[fH il];exact congrArg some un1
    have eh:hs[i]?=some u:=by rw[Qh9,fH ih] at un2;rw[fH ih];exact congrArg some un2
    walk_at "w"
    refine aEI (bS.of gl10) (by omega) (v:=.int u) (by rw[show(0+(i:Int)).toNat=i by omega,nK,el];rfl) ?_
    walk_at "w"
    refine pX (j:=i) (k:=0+(i:Int)) gl10 (by rw[show(0+(i:Int))=(i:Int) by omega];exact aFa (by rw[bZ];exact il)) ?_
    rw[<-Ty9]
    have gl11:upd H10 lo (.lst ((ls.set i (u - wy)).map V.int)) lo=some (.lst ((ls.set i (u - wy)).map V.int)):=aL
    have gh11:upd H10 lo (.lst ((ls.set i (u - wy)).map V.int)) hi=some (.lst (hs.map V.int)):=by rw[aU lohi.symm];exact gh10
    have K11:bM p H (upd H10 lo (.lst ((ls.set i (u - wy)).map V.int))):=aCZ nloH K10
    have Q11:d7 p H (upd H10 lo (.lst ((ls.set i (u - wy)).map V.int))):=Q10.trans (d7.of λo e=>by rw[aU lop.symm];exact e)
    generalize upd H10 lo (.lst ((ls.set i (u - wy)).map V.int))=H11 at gl11 gh11 K11 Q11 ⊢
    walk_at "w"
    refine aEI (bS.of gh11) (by omega) (v:=.int u) (by rw[show(0+(i:Int)).toNat=i by omega,nK,eh];rfl) ?_
    walk_at "w"
    refine pX (j:=i) (k:=0+(i:Int)) gh11 (by rw[show(0+(i:Int))=(i:Int) by omega];exact aFa (by rw[bZ];exact ih)) ?_
    rw[<-Ty9]
    refine done _ _ _ _ _ (ls.set i (u - wy)) (hs.set i (u+wy)) _ rfl (by rw[aU lohi];exact gl11) aL ⟨by rw[Rz9];exact hM.l1,by rw[Rz9];exact hM.l2,λj=>?_⟩ (λn hn=>?_) (λn hn=>?_) (λj hj=>?_) (aCZ nhiH K11) (Q11.trans (d7.of λo e=>by rw[aU hip.symm];exact e))
    ·by_cases ej:i=j
     ·subst ej
      rw[Qh9,Ru9 il,Qh9,Ru9 ih,egu]
      show u - wy+(u+wy)=2*u
      omega
     ·rw[Qh9,Rp9 ej,Qh9,Rp9 ej,<-Qh9,<-Qh9]
      exact hM.at_ j
    ·rcases Sp9 hn with z|z
     ·exact hbl n z
     ·omega
    ·rcases Sp9 hn with z|z
     ·exact hbh n z
     ·omega
    ·have hz:=hun j (by omega)
     rw[show(ls.set i (u - wy)).getD j 0=ls.getD j 0 by rw[Qh9,Rp9 (by omega),Qh9],show(hs.set i (u+wy)).getD j 0=hs.getD j 0 by rw[Qh9,Rp9 (by omega),Qh9]]
     exact hz
  ·subst e eat
   walk_at "w"
   intro T nT
   obtain⟨H6,i6,s6,g6⟩:=nw _ nT;rw[i6]
   walk_at "w"
   exact k T lo hi ls hs H6 g6 (s6 _ _ gl) (s6 _ _ gh) hM hbl hbh ((hh.of K5 Q5).same s6) (K5.trans s6.keep)
def aDn(K:PySem.W.Frag):Sp:=λvs H Q _=>∃(s:Addr) (W:WS) (w:Int),vs=[.ref s,.int w]/\rE H s W/\W.Good/\∀H',aQ H H'->Q (.int (w+List.sum (W.specs.map mW)+wdO W.store)) H'
theorem aDo{mg:Str->Option Value}{a:j8}(tx:Txt K mg a):bP P w K mg base hU 2 a.mK a.mL ["_law_spec_here","_law_want_here"] (aDn K):=by
 have aGO:=aFr (P:=P) (w:=w) (base:=base) tx
 refine tx.rV.ok gY (λvs H Q E h=>?_) (λcdv A outer s H vs Q E hr h=>?_)
 ·obtain⟨s,W,w,rfl,_⟩:=h
  rfl
 ·obtain⟨s,W,w,rfl ,hW,hg,k⟩:=h
  have hu:=kT hr
  refine bD (aD (aJ (i:=2) gY.nd (Z.pv 1))
   (aD (cD PassesOwn.never rfl (cC (K':=K) (aH (K':=K) (Z.pv 0) aB)) (aO (i:=3) gY.nd) (aG (xQ (i:=2) gY.nd rfl (Or.inl rfl) (aE (aGO) (hr.mono (by decide)) (by rfl) tx.aBw tx.wX.kp tx.aBv .nil aT (aA (Z.pv 3) aC)) yW)))
   (aD (bH (aW xN (aH (K':=K) (Z.pv 0) aB) hV (bK _)) (aG (xQ (i:=2) gY.nd rfl (Or.inl rfl) (aI bL (aI bN (aH (K':=K) (aH (K':=K) (Z.pv 0) aB) aB) (aH (K':=K) (aH (K':=K) (Z.pv 0) aB) aB)) (aI bN (aH (K':=K) (aH (K':=K) (Z.pv 0) aB) aB) (aH (K':=K) (aH (K':=K) (Z.pv 0) aB) aB))) yW)) bC)
   (aG (aM (Z.pv 2)))))) ?_
  obtain⟨ls,st,bb,es,hsp,hst,hbb⟩:=hW.ex
  obtain⟨ms,gls,rms⟩:=hsp.ex
  have lms:=rms.len
  refine aV (σ:=[some (.ref s),some (.int w),none,none]) rfl ?_
  walk_at "w"
  refine pZ (bS.of gls) ?_
  refine aB8 (xs:=ms.map V.ref) (λi σ' H'=>aQ H H'/\∃(z3:Option V),σ'=[some (.ref s),some (.int w),some (.int (w+List.sum ((W.specs.take i).map mW))),z3]) ⟨aQ.refl _,none,by simp⟩ (λi σ' H' hi ⟨s',_⟩=>bS.of (s' _ _ gls)) (λi v σ' H' hv ⟨s',z3,e⟩=>?_) (λσ' H' ⟨s',z3,e⟩=>?_)
  ·subst e
   obtain⟨xm,m,_,rfl,em,hm⟩:=rms.get hv
   walk_at "w"
   refine aEH rfl ?_
   walk_at "w"
   refine⟨xm,m,rfl,hm.tr s'.tr,hg.specs m (vD em),λH2 s2=>?_⟩
   walk_at "w"
   refine⟨s'.trans s2,some (.ref xm),?_⟩
   rw[rJ em,xY,List.sum_append,Rb9,Te9,Sr9,List.sum_nil,Int.add_zero,show w+((List.map mW (List.take i W.specs)).sum+mW m)=w+(List.map mW (List.take i W.specs)).sum+(m.least+aE9 m.pieces) by unfold mW;omega]
   rfl
  subst e
  rw[bZ,lms,Rc9]
  have es':=s' _ _ es
  unfold wdO at k
  walk_at "w"
  cases eo:W.store with
  |none=>
   rw[eo] at hst k
   replace hst:st=.non:=hst
   subst hst
   repeat walk_at "gs"
   have k':=k H' s'
   rw[show w+List.sum (W.specs.map mW)+(match (none:Option SS) with|none=>0|some s=>s.into*s.takes+s.out*s.gives)=w+List.sum (W.specs.map mW) by show _+0=_;omega] at k'
   exact k'
  |some sv=>
   rw[eo] at hst k
   obtain⟨c,rfl,hc⟩:=hst
   have gs:=hg.store sv eo
   obtain⟨i0,i1⟩:=gs.into
   obtain⟨o0,o1⟩:=gs.out
   have hc':=s' _ _ hc.at_
   repeat walk_at "gs"
   refine aEH rfl ?_
   walk_at "w"
   exact k H' s'
def aFC(K:W.Frag)(t1 t2 t3 t4:Addr):Sp:=λvs H Q _=>∃(a:Addr) (ns:List Int),vs=[.ref a]/\bS K H a (ns.map V.int)/\ns.length<=63/\H t3=some (.ctb cR cS)/\H t4=some (.ctb fE fF)/\H t1=some (.ctb cT cU)/\H t2=some (.ctb fW fX)/\∀H',aQ H H'->Q (.bl true) H'
theorem aO3{mg:Str->Option Value}{a:j8}(tx:Txt K mg a):bP P w K mg base hU 16 a.aIh a.aIi ["_law_script"] (aFC K a.bV a.dY a.bU a.dH):=by
 have aGP:=aFz (P:=P) (w:=w) (base:=base) tx
 have aK:=cH (P:=P) (w:=w) (base:=base) tx
 have aGQ:=aFB (P:=P) (w:=w) (base:=base) tx
 have aGR:=aE3 (P:=P) (w:=w) (base:=base) tx
 have aD1:=aDo (P:=P) (w:=w) (base:=base) tx
 have aFD:=aDS (P:=P) (w:=w) (base:=base) tx
 have mQ:=aDh (P:=P) (w:=w) (base:=base) tx
 refine tx.aNh.ok j7 (λvs H Q E h=>?_) (λcdv A outer s H vs Q E hr h=>?_)
 ·obtain⟨ad,ns,rfl,_⟩:=h
  rfl
 ·obtain⟨ad,ns,rfl ,hS,hl,gt3,gt4,gt1,gt2,k⟩:=h
  have hu:=kT hr
  refine bD (aD (cD PassesOwn.never rfl (cN (by rfl) tx.dZ (aA (aN (oQ rfl) (by rfl) tx.w9 aAT (aA aB (aA (aN (oR rfl) (by rfl) tx.uZ y4 (aA (aN (rc:=sD K) cL (by rfl) tx.iO gO (aA (Z.pv 0) aC)) (aA aB aC))) aC))) aC)) (aO (i:=1) j7.nd) (aD (aJ (i:=2) j7.nd (aE (aGR) (hr.mono (by decide)) (by rfl) tx.aBq tx.vX.kp tx.aBp .nil aT (aA (Z.pv 0) (aA (Z.pv 1) aC))))
   (aD (oU (aE (aGP) (hr.mono (by decide)) (by rfl) tx.aBA tx.wZ.kp tx.aBz .nil aT (aA (Z.pv 2) (aA aB aC))) (cP (K':=K) (n:=4) rfl (bA (aO (i:=3) j7.nd) (bA (aO (i:=4) j7.nd) (bA (aO (i:=5) j7.nd) (bA (aO (i:=6) j7.nd) cO))))))
   (aD (aJ (i:=7) j7.nd (aE (aFD) (hr.mono (by decide)) (by rfl) tx.aAt tx.uD.kp tx.aAs .nil aT (aA (Z.pv 3) aC)))
   (aD (oU (aE (aGQ) (hr.mono (by decide)) (by rfl) tx.aBC tx.w4.kp tx.aBB .nil aT (aA (Z.pv 2) (aA (aH (K':=K) (Z.pv 3) aB) (aA (Z.pv 6) aC)))) (cP (K':=K) (n:=2) rfl (bA (aO (i:=8) j7.nd) (bA (aO (i:=9) j7.nd) cO))))
   (aD (aJ (i:=10) j7.nd (aE (mQ) (hr.mono (by decide)) (by rfl) tx.iU tx.gH.kp tx.iT .nil aT (aA (Z.pv 7) (aA (Z.pv 4) (aA (Z.pv 5) (aA (Z.pv 6) aC))))))
   (aD (bH (aW aM6 (aI bN aB (Z.pv 10)) (aI bL (aE (mQ) (hr.mono (by decide)) (by rfl) tx.iU tx.gH.kp tx.iT .nil aT (aA (Z.pv 7) (aA (Z.pv 4) (aA (Z.pv 5) (aA (Z.pv 8) aC))))) (aE (mQ) (hr.mono (by decide)) (by rfl) tx.iU tx.gH.kp tx.iT .nil aT (aA (Z.pv 7) (aA (Z.pv 4) (aA (Z.pv 5) (aA (Z.pv 9) aC)))))) (bK _)) (aG (aM oY)) bC)
   (aG (bH (fS (jM (aW (r:=aHb K) (aEF hu) (Z.pv 6) (kZ aC) (bK _)) (gR (aW aBf (aH (K':=K) (Z.pv 3) aB) aB (bK _))))) (aD (aJ (i:=11) j7.nd (aI mY (aE (aK) (hr.mono (by decide)) (by rfl) tx.aS tx.aP.kp tx.aR .nil aT (aA (Z.pv 2) (aA aB aC))) (aN (rc:=sD K) cL (by rfl) tx.iO gO (aA (Z.pv 6) aC))))
   (aD (aJ (i:=12) j7.nd (cF (rc:=pY K) kX (by rfl) tx.jK lR (aA (Z.pv 6) aC)))
   (aD (sZ (Z.pv 12) (Z.pv 11) aEG (aH (K':=K) (nM aB (o5 yX aB)) (cF aEd (by rfl) tx.aBE aG8 (aA (gQ (r:=mZ K) (dS hu) (aH (K':=K) (Z.pv 6) (Z.pv 11)) (aH (K':=K) (Z.pv 3) aB) (bK _)) aC))) yW set_list)
   (aD (aJ (i:=13) j7.nd (aI jW (aE (mQ) (hr.mono (by decide)) (by rfl) tx.iU tx.gH.kp tx.iT .nil aT (aA (Z.pv 7) (aA (Z.pv 4) (aA (Z.pv 5) (aA (Z.pv 12) aC))))) (Z.pv 10)))
   (aG (bH (aW aBf (aN aEc (by rfl) tx.aCR aKd (aA (Z.pv 13) aC)) (aE (aD1) (hr.mono (by decide)) (by rfl) tx.yR tx.rV.kp tx.yQ .nil aT (aA (Z.pv 3) (aA (aH (K':=K) (Z.pv 5) (Z.pv 11)) aC))) (bK _)) (aG (aM oY)) bC)))))) bC)))))))))
   (aG (aM oY))) ?_
  have hTb:aHT H _ _ _ _:=⟨gt1,gt2,gt3,gt4⟩
  refine aV (σ:=[some (.ref ad),none,none,none,none,none,none,none,none,none,none,none,none,none]) rfl ?_
  walk_at "w"
  refine⟨by omega,by omega,?_⟩
  refine sF (λi σ' H'=>aQ H H'/\∃(z1 z2 z3 z4 z5 z6 z7 z8 z9 z10 z11 z12 z13:Option V),σ'=[some (.ref ad),z1,z2,z3,z4,z5,z6,z7,z8,z9,z10,z11,z12,z13]) ⟨aQ.refl _,_,_,_,_,_,_,_,_,_,_,_,_,_,rfl⟩ (λi σ' H' hi ⟨s0,z1,z2,z3,z4,z5,z6,z7,z8,z9,z10,z11,z12,z13,e⟩=>?_) (λσ' H' ⟨s0,z1,z2,z3,z4,z5,z6,z7,z8,z9,z10,z11,z12,z13,e⟩=>?_)
  ·subst e
   walk_at "w"
   refine⟨ad,ns,_,rfl,aQ.seq s0 hS,hl,by omega,λp H1 s1 np hh=>?_⟩
   have npH:H p=none:=s0.free np
   have S1:=s0.trans s1
   walk_at "w"
   refine⟨p,6,rfl,hh,by decide,by decide,λT s a1 u q W P ws qs H2 gT hW hg hP hB gu gq hlen hqs hws lqs h2 k2=>?_⟩
   have ha:∀n∈qs,Am n:=λn hn=>⟨(hqs n hn).1,Rq9 (hqs n hn).2 hg.lack.2⟩
   walk_at "w"
   refine gK (mX.of gT) rfl ?_
   walk_at "w"
   refine⟨s,W,rfl,hW,hg,λw H3 hw s3 nw3=>?_⟩
   have hW3:=hW.tr s3.tr
   have gq3:=s3 _ _ gq
   have h3:=h2.same s3
   obtain⟨ls,st,bb,es,hsp,hst,hbb⟩:=hW3.ex
   have qp:q≠p:=λz=>by
    obtain⟨d,c,x,ms,hp,_,_,_⟩:=h3.ex
    rw[z] at gq3
    exact xW (ns:=qs) ((Option.some.inj (gq3.symm.trans hp))▸.inl ⟨d,c,x,rfl⟩)
   walk_at "w"
   refine⟨p,q,W.lack,qs,rfl,h3,gq3,qp,hqs,lqs,λT4 lo hi' los his H4 gT4 glo ghi hM hbl hbh h4 k4=>?_⟩
   have T34:=h3.tr k4
   have T24:Tr H2 H4:=s3.tr.trans T34
   have K4:bM p H1 H4:=k2.trans (s3.keep.trans k4)
   have S4:aQ H H4:=zH npH S1 K4
   have hW4:=hW.tr T24
   have hw4:=hw.tr T34
   have hP4:=hP.tk T24.tk
   have gu4:H4 u=some (.lst (ws.map V.int)):=T24 _ _ gu xW
   have gq4:H4 q=some (.lst (qs.map V.int)):=T24 _ _ gq xW
   have hal:∀n∈los,Am n:=λn hn=>⟨(hbl n hn).1,Rq9 (hbl n hn).2 hg.lack.2⟩
   have hah:∀n∈his,Am n:=λn hn=>⟨(hbh n hn).1,Rq9 (hbh n hn).2 hg.lack.2⟩
   refine gK (mX.of gT4) rfl ?_
   walk_at "w"
   refine⟨w,W,a1,P,u,ws,q,qs,rfl,hw4,hg,hP4,hB,gu4,gq4,hlen,ha,lqs,hTb.same S4,λH5 s5=>?_⟩
   walk_at "w"
   refine⟨w,W,a1,P,u,ws,lo,los,rfl,hw4.tr s5.tr,hg,hP4.tk s5.tk,hB,s5 _ _ gu4,s5 _ _ glo,by rw[hlen,hM.l1],hal,by rw[hM.l1];exact lqs,hTb.same (S4.trans s5),λH6 s6=>?_⟩
   have s46:=s5.trans s6
   walk_at "w"
   refine⟨w,W,a1,P,u,ws,hi',his,rfl,hw4.tr s46.tr,hg,hP4.tk s46.tk,hB,s46 _ _ gu4,s46 _ _ ghi,by rw[hlen,hM.l2],hah,by rw[hM.l2];exact lqs,hTb.same (S4.trans s46),λH7 s7=>?_⟩
   have s47:=s46.trans s7
   have bend:=aM1 hg hB (ws:=ws) hM
   walk_at "w"
   refine cE (λz=>absurd z (by omega)) (λ_=>?_)
   have gq7:=s47 _ _ gq4
   have h7:=h4.same s47
   have T27:Tr H2 H7:=T24.trans s47.tr
   have K7:bM p H1 H7:=K4.trans s47.keep
   have hW7:=hW.tr T27
   obtain⟨ls7,st7,bb7,es7,hsp7,hst7,hbb7⟩:=hW7.ex
   have fin:∀σ' H',bM p H1 H'->(∃(z1 z2 z3 z4 z5 z6 z7 z8 z9 z10 z11 z12 z13:Option V),σ'=[some (.ref ad),z1,z2,z3,z4,z5,z6,z7,z8,z9,z10,z11,z12,z13])->aQ H H'/\∃(z1 z2 z3 z4 z5 z6 z7 z8 z9 z10 z11 z12 z13:Option V),σ'=[some (.ref ad),z1,z2,z3,z4,z5,z6,z7,z8,z9,z10,z11,z12,z13]:=λσ' H' a b=>⟨zH npH S1 a,b⟩
   walk_at "w"
   intro em nem
   obtain⟨H8,i8,s8,g8⟩:=nw _ nem;rw[i8]
   walk_at "w"
   refine aMv (xs:=qs) (ys:=[]) (bS.of (s8 _ _ gq7)) (bS.of g8) ?_
   walk_at "w"
   refine aH8 (λne=>?_) (λ_=>?_)
   rotate_left
   ·walk_at "w"
    exact fin _ _ (K7.trans s8.keep) ⟨_,_,_,_,_,_,_,_,_,_,_,_,_,rfl⟩
   have es8:=s8 _ _ es7
   have h8:=h7.same s8
   have gq8:=s8 _ _ gq7
   have lp:0 < qs.length:=Sk9.mpr ne
   have mx:0 < ((qs.map V.int).length:Int):=by rw[bZ];omega
   walk_at "w"
   refine cE (λlack0=>?_) (λ_=>?_)
   rotate_left
   ·walk_at "w"
    exact fin _ _ (K7.trans s8.keep) ⟨_,_,_,_,_,_,_,_,_,_,_,_,_,rfl⟩
   walk_at "w"
   refine⟨p,_,rfl,h8,by decide,by decide,λr9 H9 a9 b9 h9 k9 _=>?_⟩
   have gq9:=k9 _ _ gq8 qp
   obtain⟨j,hj,jl⟩ : ∃j:Nat,r9 % ((qs.map V.int).length:Int)=(j:Int)/\j < qs.length:=by
    have e1:=Su9 r9 (b:=((qs.map V.int).length:Int)) (by omega)
    have e2:=So9 r9 mx
    refine⟨(r9 % ((qs.map V.int).length:Int)).toNat,(Int.toNat_of_nonneg e1).symm,?_⟩
    rw[bZ] at e1 e2 ⊢
    omega
   walk_at "w"
   rw[hj]
   walk_at "w"
   refine sE (bS.of gq9) ?_
   intro ot not_
   obtain⟨H10,i10,s10,g10⟩:=nw _ not_;rw[i10]
   have h10:=h9.same s10
   have T210:Tr H2 H10:=T27.trans (s8.tr.trans ((h8.tr k9).trans s10.tr))
   have K10:bM p H1 H10:=K7.trans (s8.keep.trans (k9.trans s10.keep))
   have gq10:=s10 _ _ gq9
   have otp:ot≠p:=h9.aGu not_
   have eu:qs[j]?=some qs[j]:=fH jl
   obtain⟨v,hv,hvb⟩ : ∃v:Int,(if decide (qs[j]=W.lack) then (-1:Int) else 1)=v - qs[j]/\0<=v/\v<=W.lack:=by
    obtain⟨a,b⟩:=hqs _ (Rt9 jl)
    by_cases e:qs[j]=W.lack
    ·exact⟨qs[j] - 1,by simp[e];omega,by omega,by omega⟩
    ·exact⟨qs[j] + 1,by simp[e];omega,by omega,by omega⟩
   have ixu:uT (qs.map V.int) (j:Int)=some (.int qs[j]):=eQ (by rw[nK,eu];rfl)
   generalize hu0:qs[j]=u0 at eu hv ixu
   have hW10:=hW.tr T210
   obtain⟨ls10,st10,bb10,es10,hsp10,hst10,hbb10⟩:=hW10.ex
   walk_at "w"
   refine aEI (bS.of g10) (Int.natCast_nonneg _) (v:=.int u0) (by rw[Ro9,nK,eu];rfl) ?_
   walk_at "w"
   intro l11 nl11
   obtain⟨H11,i11,s11,g11⟩:=nw _ nl11;rw[i11]
   have gq11:=s11 _ _ gq10
   have es11:=s11 _ _ es10
   walk_at "w"
   have ix1:uT [V.int 1,.int (-1)] (if decide (u0=W.lack)=true then 1 else 0)=some (.int (v - u0)):=by
    rw[<-hv]
    cases decide (u0=W.lack) <;> rfl
   walk_at "w"
   rw[show u0+(v - u0)=v by omega]
   refine pX (j:=j) (k:=(j:Int)) (s11 _ _ g10) (aFa (by rw[bZ];exact jl)) ?_
   rw[<-Ty9]
   have s1011:aQ H10 H11:=s11
   have notH1:H1 ot=none:=hJ (K7.trans (s8.keep.trans k9)) h9 not_
   have got:upd H11 ot (.lst ((qs.set j v).map V.int)) ot=some (.lst ((qs.set j v).map V.int)):=aL
   have s912:aQ H9 (upd H11 ot (.lst ((qs.set j v).map V.int))):=λb o e=>by rw[aU (bG not_ e)];exact s11 _ _ (s10 _ _ e)
   have K12:bM p H1 (upd H11 ot (.lst ((qs.set j v).map V.int))):=aCZ notH1 (K10.trans s11.keep)
   generalize upd H11 ot (.lst ((qs.set j v).map V.int))=H12 at got s912 K12 ⊢
   have S12:aQ H H12:=zH npH S1 K12
   have T412:Tr H4 H12:=s47.tr.trans (s8.tr.trans ((h8.tr k9).trans s912.tr))
   have aLX:(qs.set j v).length=qs.length:=Rz9
   have haS:∀n∈qs.set j v,Am n:=λn hn=>by
    rcases Sp9 hn with z|z
    ·exact ha n z
    ·rw[z];exact⟨hvb.1,Rq9 hvb.2 hg.lack.2⟩
   walk_at "w"
   refine⟨w,W,a1,P,u,ws,ot,qs.set j v,rfl,hw4.tr T412,hg,hP4.tk T412.tk,hB,T412 _ _ gu4 xW,got,by rw[hlen,aLX],haS,by rw[aLX];exact lqs,hTb.same S12,λH13 s13=>?_⟩
   have jw:j < ws.length:=by rw[hlen];exact jl
   have ew:ws[j]?=some ws[j]:=fH jw
   have w0:=hws _ (Rt9 jw)
   have ixw:uT (ws.map V.int) (j:Int)=some (.int ws[j]):=eQ (by rw[nK,ew];rfl)
   have near:=aM4 hg hB eu ew w0 (v:=v) (by rw[<-hv];cases decide (u0=W.lack) <;> simp)
   generalize ws[j]=wj at ew w0 ixw near
   have T413:Tr H4 H13:=T412.trans s13.tr
   have gu13:H13 u=some (.lst (ws.map V.int)):=T413 _ _ gu4 xW
   walk_at "w"
   refine⟨s,W,wj,rfl,hW4.tr T413,hg,λH14 s14=>?_⟩
   walk_at "w"
   refine cE (λz=>absurd z (by split <;> omega)) (λ_=>?_)
   walk_at "w"
   exact fin _ _ (K12.trans (s13.trans s14).keep) ⟨_,_,_,_,_,_,_,_,_,_,_,_,_,rfl⟩
  ·subst e
   walk_at "w"
   exact k _ s0
end My
namespace My
open PySem L2 L2.Z
theorem all_mk{l:PySem.W.OpenLaw}{w:World}{K:PySem.W.Frag}{h:Heap}{mg:Str->Option Value}{fa:Addr}(X:K.In h)(G:h.Ns mainGlobals mg)(hfa:mg "law" = some (.ref fa))
  {C0:Addr} {C1:Addr} {C2:Addr} {f0:Addr} {od0 an0:Option Addr} {sl0:Array (Option Value)} {oc0 kV0 dc0 pm0 cd0 ct0:Value} {f1:Addr} {od1 an1:Option Addr} {sl1:Array (Option Value)} {oc1 kV1 dc1 pm1 cd1 ct1:Value} {f2:Addr} {od2 an2:Option Addr} {sl2:Array (Option Value)} {oc2 kV2 dc2 pm2 cd2 ct2:Value} {f3:Addr} {od3 an3:Option Addr} {sl3:Array (Option Value)} {oc3 kV3 dc3 pm3 cd3 ct3:Value} {f4:Addr} {od4 an4:Option Addr} {sl4:Array (Option Value)} {oc4 kV4 dc4 pm4 cd4 ct4:Value} {f5:Addr} {od5 an5:Option Addr} {sl5:Array (Option Value)} {oc5 kV5 dc5 pm5 cd5 ct5:Value} {f6:Addr} {od6 an6:Option Addr} {sl6:Array (Option Value)} {oc6 kV6 dc6 pm6 cd6 ct6:Value} {f7:Addr} {od7 an7:Option Addr} {sl7:Array (Option Value)} {oc7 kV7 dc7 pm7 cd7 ct7:Value} {f8:Addr} {od8 an8:Option Addr} {sl8:Array (Option Value)} {oc8 kV8 dc8 pm8 cd8 ct8:Value} {f9:Addr} {od9 an9:Option Addr} {sl9:Array (Option Value)} {oc9 kV9 dc9 pm9 cd9 ct9:Value} {f10:Addr} {od10 an10:Option Addr} {sl10:Array (Option Value)} {oc10 kV10 dc10 pm10 cd10 ct10:Value} {f11:Addr} {od11 an11:Option Addr} {sl11:Array (Option Value)} {oc11 kV11 dc11 pm11 cd11 ct11:Value} {f12:Addr} {od12 an12:Option Addr} {sl12:Array (Option Value)} {oc12 kV12 dc12 pm12 cd12 ct12:Value} {f13:Addr} {od13 an13:Option Addr} {sl13:Array (Option Value)} {oc13 kV13 dc13 pm13 cd13 ct13:Value} {f14:Addr} {od14 an14:Option Addr} {sl14:Array (Option Value)} {oc14 kV14 dc14 pm14 cd14 ct14:Value} {f15:Addr} {od15 an15:Option Addr} {sl15:Array (Option Value)} {oc15 kV15 dc15 pm15 cd15 ct15:Value} {f16:Addr} {od16 an16:Option Addr} {sl16:Array (Option Value)} {oc16 kV16 dc16 pm16 cd16 ct16:Value} {f17:Addr} {od17 an17:Option Addr} {sl17:Array (Option Value)} {oc17 kV17 dc17 pm17 cd17 ct17:Value} {f18:Addr} {od18 an18:Option Addr} {sl18:Array (Option Value)} {oc18 kV18 dc18 pm18 cd18 ct18:Value} {f19:Addr} {od19 an19:Option Addr} {sl19:Array (Option Value)} {oc19 kV19 dc19 pm19 cd19 ct19:Value} {f20:Addr} {od20 an20:Option Addr} {sl20:Array (Option Value)} {oc20 kV20 dc20 pm20 cd20 ct20:Value} {f21:Addr} {od21 an21:Option Addr} {sl21:Array (Option Value)} {oc21 kV21 dc21 pm21 cd21 ct21:Value} {f22:Addr} {od22 an22:Option Addr} {sl22:Array (Option Value)} {oc22 kV22 dc22 pm22 cd22 ct22:Value} {f23:Addr} {od23 an23:Option Addr} {sl23:Array (Option Value)} {oc23 kV23 dc23 pm23 cd23 ct23:Value} {f24:Addr} {od24 an24:Option Addr} {sl24:Array (Option Value)} {oc24 kV24 dc24 pm24 cd24 ct24:Value} {f25:Addr} {od25 an25:Option Addr} {sl25:Array (Option Value)} {oc25 kV25 dc25 pm25 cd25 ct25:Value} {f26:Addr} {od26 an26:Option Addr} {sl26:Array (Option Value)} {oc26 kV26 dc26 pm26 cd26 ct26:Value} {f27:Addr} {od27 an27:Option Addr} {sl27:Array (Option Value)} {oc27 kV27 dc27 pm27 cd27 ct27:Value} {f28:Addr} {od28 an28:Option Addr} {sl28:Array (Option Value)} {oc28 kV28 dc28 pm28 cd28 ct28:Value} {f29:Addr} {od29 an29:Option Addr} {sl29:Array (Option Value)} {oc29 kV29 dc29 pm29 cd29 ct29:Value} {f30:Addr} {od30 an30:Option Addr} {sl30:Array (Option Value)} {oc30 kV30 dc30 pm30 cd30 ct30:Value} {f31:Addr} {od31 an31:Option Addr} {sl31:Array (Option Value)} {oc31 kV31 dc31 pm31 cd31 ct31:Value} {f32:Addr} {od32 an32:Option Addr} {sl32:Array (Option Value)} {oc32 kV32 dc32 pm32 cd32 ct32:Value} {f33:Addr} {od33 an33:Option Addr} {sl33:Array (Option Value)} {oc33 kV33 dc33 pm33 cd33 ct33:Value} {f34:Addr} {od34 an34:Option Addr} {sl34:Array (Option Value)} {oc34 kV34 dc34 pm34 cd34 ct34:Value} {f35:Addr} {od35 an35:Option Addr} {sl35:Array (Option Value)} {oc35 kV35 dc35 pm35 cd35 ct35:Value} {f36:Addr} {od36 an36:Option Addr} {sl36:Array (Option Value)} {oc36 kV36 dc36 pm36 cd36 ct36:Value} {f37:Addr} {od37 an37:Option Addr} {sl37:Array (Option Value)} {oc37 kV37 dc37 pm37 cd37 ct37:Value} {f38:Addr} {od38 an38:Option Addr} {sl38:Array (Option Value)} {oc38 kV38 dc38 pm38 ct38:Value} {kc38 T38:Addr} {tod38:Option Addr} {tvs38:Array Value} {tsl38:Array (Option Value)} {f39:Addr} {od39 an39:Option Addr} {sl39:Array (Option Value)} {oc39 kV39 dc39 pm39 ct39:Value} {kc39 T39:Addr} {tod39:Option Addr} {tvs39:Array Value} {tsl39:Array (Option Value)} {f40:Addr} {od40 an40:Option Addr} {sl40:Array (Option Value)} {oc40 kV40 dc40 pm40 cd40 ct40:Value} {f41:Addr} {od41 an41:Option Addr} {sl41:Array (Option Value)} {oc41 kV41 dc41 pm41 cd41 ct41:Value} {f42:Addr} {od42 an42:Option Addr} {sl42:Array (Option Value)} {oc42 kV42 dc42 pm42 cd42 ct42:Value} {f43:Addr} {od43 an43:Option Addr} {sl43:Array (Option Value)} {oc43 kV43 dc43 pm43 ct43:Value} {kc43 T43:Addr} {tod43:Option Addr} {tvs43:Array Value} {tsl43:Array (Option Value)} {f44:Addr} {od44 an44:Option Addr} {sl44:Array (Option Value)} {oc44 kV44 dc44 pm44 ct44:Value} {kc44 T44:Addr} {tod44:Option Addr} {tvs44:Array Value} {tsl44:Array (Option Value)} {f45:Addr} {od45 an45:Option Addr} {sl45:Array (Option Value)} {oc45 kV45 dc45 pm45 cd45 ct45:Value} {f46:Addr} {od46 an46:Option Addr} {sl46:Array (Option Value)} {oc46 kV46 dc46 pm46 cd46 ct46:Value} {f47:Addr} {od47 an47:Option Addr} {sl47:Array (Option Value)} {oc47 kV47 dc47 pm47 cd47 ct47:Value} {f48:Addr} {od48 an48:Option Addr} {sl48:Array (Option Value)} {oc48 kV48 dc48 pm48 cd48 ct48:Value} {f49:Addr} {od49 an49:Option Addr} {sl49:Array (Option Value)} {oc49 kV49 dc49 pm49 cd49 ct49:Value} {f50:Addr} {od50 an50:Option Addr} {sl50:Array (Option Value)} {oc50 kV50 dc50 pm50 cd50 ct50:Value} {f51:Addr} {od51 an51:Option Addr} {sl51:Array (Option Value)} {oc51 kV51 dc51 pm51 cd51 ct51:Value} {f52:Addr} {od52 an52:Option Addr} {sl52:Array (Option Value)} {oc52 kV52 dc52 pm52 cd52 ct52:Value} {f53:Addr} {od53 an53:Option Addr} {sl53:Array (Option Value)} {oc53 kV53 dc53 pm53 cd53 ct53:Value} {f54:Addr} {od54 an54:Option Addr} {sl54:Array (Option Value)} {oc54 kV54 dc54 pm54 cd54 ct54:Value} {f55:Addr} {od55 an55:Option Addr} {sl55:Array (Option Value)} {oc55 kV55 dc55 pm55 cd55 ct55:Value} {tk_MOST_LEVELS:Tok} {tk_LONGEST_STINT:Tok} {tk_MOST_PIECES:Tok} {tk_MOST_MACHINES:Tok}
  (aC0:PySem.W.nsIn K mainGlobals "Machine" = some (some (.ref C0)))
  (aC1:PySem.W.nsIn K mainGlobals "Store" = some (some (.ref C1)))
  (aC2:PySem.W.nsIn K mainGlobals "Works" = some (some (.ref C2)))
  (a0:PySem.W.nsIn K mainGlobals "_law_open" = some (some (.ref f0)))
  (l0:K.lookup f0=some ⟨oc0,od0,.func (PySem.W.fnOf "_law_open" "_law_open" (aZ gS) (aX gS) (aF gS) .none kV0 dc0 pm0 an0 cd0 ct0),sl0⟩)
  (c0:PySem.W.codeIn K cd0 "_law_open" = true)
  (k0:W.keepIn K (.ref f0)=true)
  (a1:PySem.W.nsIn K mainGlobals "_law_draw" = some (some (.ref f1)))
  (l1:K.lookup f1=some ⟨oc1,od1,.func (PySem.W.fnOf "_law_draw" "_law_draw" (aZ jN) (aX jN) (aF jN) .none kV1 dc1 pm1 an1 cd1 ct1),sl1⟩)
  (c1:PySem.W.codeIn K cd1 "_law_draw" = true)
  (k1:W.keepIn K (.ref f1)=true)
  (a2:PySem.W.nsIn K mainGlobals "_law_far" = some (some (.ref f2)))
  (l2:K.lookup f2=some ⟨oc2,od2,.func (PySem.W.fnOf "_law_far" "_law_far" (aZ lC) (aX lC) (aF lC) .none kV2 dc2 pm2 an2 cd2 ct2),sl2⟩)
  (c2:PySem.W.codeIn K cd2 "_law_far" = true)
  (k2:W.keepIn K (.ref f2)=true)
  (a3:PySem.W.nsIn K mainGlobals "_law_factor" = some (some (.ref f3)))
  (l3:K.lookup f3=some ⟨oc3,od3,.func (PySem.W.fnOf "_law_factor" "_law_factor" (aZ gA) (aX gA) (aF gA) .none kV3 dc3 pm3 an3 cd3 ct3),sl3⟩)
  (c3:PySem.W.codeIn K cd3 "_law_factor" = true)
  (k3:W.keepIn K (.ref f3)=true)
  (a4:PySem.W.nsIn K mainGlobals "is_whole" = some (some (.ref f4)))
  (l4:K.lookup f4=some ⟨oc4,od4,.func (PySem.W.fnOf "is_whole" "is_whole" (aZ lD) (aX lD) (aF lD) .none kV4 dc4 pm4 an4 cd4 ct4),sl4⟩)
  (c4:PySem.W.codeIn K cd4 "is_whole" = true)
  (k4:W.keepIn K (.ref f4)=true)
  (a5:PySem.W.nsIn K mainGlobals "is_amount" = some (some (.ref f5)))
  (l5:K.lookup f5=some ⟨oc5,od5,.func (PySem.W.fnOf "is_amount" "is_amount" (aZ jO) (aX jO) (aF jO) .none kV5 dc5 pm5 an5 cd5 ct5),sl5⟩)
  (c5:PySem.W.codeIn K cd5 "is_amount" = true)
  (k5:W.keepIn K (.ref f5)=true)
  (a6:PySem.W.nsIn K mainGlobals "is_span" = some (some (.ref f6)))
  (l6:K.lookup f6=some ⟨oc6,od6,.func (PySem.W.fnOf "is_span" "is_span" (aZ oV) (aX oV) (aF oV) .none kV6 dc6 pm6 an6 cd6 ct6),sl6⟩)
  (c6:PySem.W.codeIn K cd6 "is_span" = true)
  (k6:W.keepIn K (.ref f6)=true)
  (a7:PySem.W.nsIn K mainGlobals "is_piece" = some (some (.ref f7)))
  (l7:K.lookup f7=some ⟨oc7,od7,.func (PySem.W.fnOf "is_piece" "is_piece" (aZ lE) (aX lE) (aF lE) .none kV7 dc7 pm7 an7 cd7 ct7),sl7⟩)
  (c7:PySem.W.codeIn K cd7 "is_piece" = true)
  (k7:W.keepIn K (.ref f7)=true)
  (a8:PySem.W.nsIn K mainGlobals "are_pieces" = some (some (.ref f8)))
  (l8:K.lookup f8=some ⟨oc8,od8,.func (PySem.W.fnOf "are_pieces" "are_pieces" (aZ eF) (aX eF) (aF eF) .none kV8 dc8 pm8 an8 cd8 ct8),sl8⟩)
  (c8:PySem.W.codeIn K cd8 "are_pieces" = true)
  (k8:W.keepIn K (.ref f8)=true)
  (a9:PySem.W.findIn K (.ref C0) "__init__" = some (some (.ref f9)))
  (i9:PySem.W.isFn K (.ref f9)=true)
  (l9:K.lookup f9=some ⟨oc9,od9,.func (PySem.W.fnOf "__init__" "Machine.__init__" (aZ eW) (aX eW) (aF eW) .none kV9 dc9 pm9 an9 cd9 ct9),sl9⟩)
  (c9:PySem.W.codeIn K cd9 "Machine.__init__" = true)
  (k9:W.keepIn K (.ref f9)=true)
  (a10:PySem.W.nsIn K mainGlobals "_law_spec" = some (some (.ref f10)))
  (l10:K.lookup f10=some ⟨oc10,od10,.func (PySem.W.fnOf "_law_spec" "_law_spec" (aZ jP) (aX jP) (aF jP) .none kV10 dc10 pm10 an10 cd10 ct10),sl10⟩)
  (c10:PySem.W.codeIn K cd10 "_law_spec" = true)
  (k10:W.keepIn K (.ref f10)=true)
  (a11:PySem.W.nsIn K mainGlobals "_law_machine" = some (some (.ref f11)))
  (l11:K.lookup f11=some ⟨oc11,od11,.func (PySem.W.fnOf "_law_machine" "_law_machine" (aZ eX) (aX eX) (aF eX) .none kV11 dc11 pm11 an11 cd11 ct11),sl11⟩)
  (c11:PySem.W.codeIn K cd11 "_law_machine" = true)
  (k11:W.keepIn K (.ref f11)=true)
  (a12:PySem.W.findIn K (.ref C0) "gain" = some (some (.ref f12)))
  (i12:PySem.W.isFn K (.ref f12)=true)
  (l12:K.lookup f12=some ⟨oc12,od12,.func (PySem.W.fnOf "gain" "Machine.gain" (aZ eY) (aX eY) (aF eY) .none kV12 dc12 pm12 an12 cd12 ct12),sl12⟩)
  (c12:PySem.W.codeIn K cd12 "Machine.gain" = true)
  (k12:W.keepIn K (.ref f12)=true)
  (a13:PySem.W.nsIn K mainGlobals "may_be" = some (some (.ref f13)))
  (l13:K.lookup f13=some ⟨oc13,od13,.func (PySem.W.fnOf "may_be" "may_be" (aZ sI) (aX sI) (aF sI) .none kV13 dc13 pm13 an13 cd13 ct13),sl13⟩)
  (c13:PySem.W.codeIn K cd13 "may_be" = true)
  (k13:W.keepIn K (.ref f13)=true)
  (a14:PySem.W.nsIn K mainGlobals "state_after" = some (some (.ref f14)))
  (l14:K.lookup f14=some ⟨oc14,od14,.func (PySem.W.fnOf "state_after" "state_after" (aZ gB) (aX gB) (aF gB) .none kV14 dc14 pm14 an14 cd14 ct14),sl14⟩)
  (c14:PySem.W.codeIn K cd14 "state_after" = true)
  (k14:W.keepIn K (.ref f14)=true)
  (a15:PySem.W.nsIn K mainGlobals "_law_state" = some (some (.ref f15)))
  (l15:K.lookup f15=some ⟨oc15,od15,.func (PySem.W.fnOf "_law_state" "_law_state" (aZ hX) (aX hX) (aF hX) .none kV15 dc15 pm15 an15 cd15 ct15),sl15⟩)
  (c15:PySem.W.codeIn K cd15 "_law_state" = true)
  (k15:W.keepIn K (.ref f15)=true)
  (a16:PySem.W.nsIn K mainGlobals "is_depth" = some (some (.ref f16)))
  (l16:K.lookup f16=some ⟨oc16,od16,.func (PySem.W.fnOf "is_depth" "is_depth" (aZ lF) (aX lF) (aF lF) .none kV16 dc16 pm16 an16 cd16 ct16),sl16⟩)
  (c16:PySem.W.codeIn K cd16 "is_depth" = true)
  (k16:W.keepIn K (.ref f16)=true)
  (a17:PySem.W.findIn K (.ref C1) "__init__" = some (some (.ref f17)))
  (i17:PySem.W.isFn K (.ref f17)=true)
  (l17:K.lookup f17=some ⟨oc17,od17,.func (PySem.W.fnOf "__init__" "Store.__init__" (aZ hZ) (aX hZ) (aF hZ) .none kV17 dc17 pm17 an17 cd17 ct17),sl17⟩)
  (c17:PySem.W.codeIn K cd17 "Store.__init__" = true)
  (k17:W.keepIn K (.ref f17)=true)
  (a18:PySem.W.nsIn K mainGlobals "run_fault" = some (some (.ref f18)))
  (l18:K.lookup f18=some ⟨oc18,od18,.func (PySem.W.fnOf "run_fault" "run_fault" (aZ jQ) (aX jQ) (aF jQ) .none kV18 dc18 pm18 an18 cd18 ct18),sl18⟩)
  (c18:PySem.W.codeIn K cd18 "run_fault" = true)
  (k18:W.keepIn K (.ref f18)=true)
  (a19:PySem.W.nsIn K mainGlobals "refuse_fault" = some (some (.ref f19)))
  (l19:K.lookup f19=some ⟨oc19,od19,.func (PySem.W.fnOf "refuse_fault" "refuse_fault" (aZ eZ) (aX eZ) (aF eZ) .none kV19 dc19 pm19 an19 cd19 ct19),sl19⟩)
  (c19:PySem.W.codeIn K cd19 "refuse_fault" = true)
  (k19:W.keepIn K (.ref f19)=true)
  (a20:PySem.W.nsIn K mainGlobals "run_begins" = some (some (.ref f20)))
  (l20:K.lookup f20=some ⟨oc20,od20,.func (PySem.W.fnOf "run_begins" "run_begins" (aZ iA) (aX iA) (aF iA) .none kV20 dc20 pm20 an20 cd20 ct20),sl20⟩)
  (c20:PySem.W.codeIn K cd20 "run_begins" = true)
  (k20:W.keepIn K (.ref f20)=true)
  (a21:PySem.W.nsIn K mainGlobals "run_cost" = some (some (.ref f21)))
  (l21:K.lookup f21=some ⟨oc21,od21,.func (PySem.W.fnOf "run_cost" "run_cost" (aZ lG) (aX lG) (aF lG) .none kV21 dc21 pm21 an21 cd21 ct21),sl21⟩)
  (c21:PySem.W.codeIn K cd21 "run_cost" = true)
  (k21:W.keepIn K (.ref f21)=true)
  (a22:PySem.W.nsIn K mainGlobals "least_of" = some (some (.ref f22)))
  (l22:K.lookup f22=some ⟨oc22,od22,.func (PySem.W.fnOf "least_of" "least_of" (aZ jF) (aX jF) (aF jF) .none kV22 dc22 pm22 an22 cd22 ct22),sl22⟩)
  (c22:PySem.W.codeIn K cd22 "least_of" = true)
  (k22:W.keepIn K (.ref f22)=true)
  (a23:PySem.W.nsIn K mainGlobals "worths_ahead" = some (some (.ref f23)))
  (l23:K.lookup f23=some ⟨oc23,od23,.func (PySem.W.fnOf "worths_ahead" "worths_ahead" (aZ fA) (aX fA) (aF fA) .none kV23 dc23 pm23 an23 cd23 ct23),sl23⟩)
  (c23:PySem.W.codeIn K cd23 "worths_ahead" = true)
  (k23:W.keepIn K (.ref f23)=true)
  (a24:PySem.W.nsIn K mainGlobals "worths_by_hour" = some (some (.ref f24)))
  (l24:K.lookup f24=some ⟨oc24,od24,.func (PySem.W.fnOf "worths_by_hour" "worths_by_hour" (aZ dP) (aX dP) (aF dP) .none kV24 dc24 pm24 an24 cd24 ct24),sl24⟩)
  (c24:PySem.W.codeIn K cd24 "worths_by_hour" = true)
  (k24:W.keepIn K (.ref f24)=true)
  (a25:PySem.W.nsIn K mainGlobals "first_best" = some (some (.ref f25)))
  (l25:K.lookup f25=some ⟨oc25,od25,.func (PySem.W.fnOf "first_best" "first_best" (aZ fK) (aX fK) (aF fK) .none kV25 dc25 pm25 an25 cd25 ct25),sl25⟩)
  (c25:PySem.W.codeIn K cd25 "first_best" = true)
  (k25:W.keepIn K (.ref f25)=true)
  (a26:PySem.W.nsIn K mainGlobals "first_row" = some (some (.ref f26)))
  (l26:K.lookup f26=some ⟨oc26,od26,.func (PySem.W.fnOf "first_row" "first_row" (aZ jR) (aX jR) (aF jR) .none kV26 dc26 pm26 an26 cd26 ct26),sl26⟩)
  (c26:PySem.W.codeIn K cd26 "first_row" = true)
  (k26:W.keepIn K (.ref f26)=true)
  (a27:PySem.W.nsIn K mainGlobals "ways_one_on" = some (some (.ref f27)))
  (l27:K.lookup f27=some ⟨oc27,od27,.func (PySem.W.fnOf "ways_one_on" "ways_one_on" (aZ gC) (aX gC) (aF gC) .none kV27 dc27 pm27 an27 cd27 ct27),sl27⟩)
  (c27:PySem.W.codeIn K cd27 "ways_one_on" = true)
  (k27:W.keepIn K (.ref f27)=true)
  (a28:PySem.W.nsIn K mainGlobals "are_machines" = some (some (.ref f28)))
  (l28:K.lookup f28=some ⟨oc28,od28,.func (PySem.W.fnOf "are_machines" "are_machines" (aZ dU) (aX dU) (aF dU) .none kV28 dc28 pm28 an28 cd28 ct28),sl28⟩)
  (c28:PySem.W.codeIn K cd28 "are_machines" = true)
  (k28:W.keepIn K (.ref f28)=true)
  (a29:PySem.W.findIn K (.ref C2) "__init__" = some (some (.ref f29)))
  (i29:PySem.W.isFn K (.ref f29)=true)
  (l29:K.lookup f29=some ⟨oc29,od29,.func (PySem.W.fnOf "__init__" "Works.__init__" (aZ iB) (aX iB) (aF iB) .none kV29 dc29 pm29 an29 cd29 ct29),sl29⟩)
  (c29:PySem.W.codeIn K cd29 "Works.__init__" = true)
  (k29:W.keepIn K (.ref f29)=true)
  (a30:PySem.W.nsIn K mainGlobals "_law_store" = some (some (.ref f30)))
  (l30:K.lookup f30=some ⟨oc30,od30,.func (PySem.W.fnOf "_law_store" "_law_store" (aZ iC) (aX iC) (aF iC) .none kV30 dc30 pm30 an30 cd30 ct30),sl30⟩)
  (c30:PySem.W.codeIn K cd30 "_law_store" = true)
  (k30:W.keepIn K (.ref f30)=true)
  (a31:PySem.W.nsIn K mainGlobals "_law_works_spec" = some (some (.ref f31)))
  (l31:K.lookup f31=some ⟨oc31,od31,.func (PySem.W.fnOf "_law_works_spec" "_law_works_spec" (aZ cQ) (aX cQ) (aF cQ) .none kV31 dc31 pm31 an31 cd31 ct31),sl31⟩)
  (c31:PySem.W.codeIn K cd31 "_law_works_spec" = true)
  (k31:W.keepIn K (.ref f31)=true)
  (a32:PySem.W.nsIn K mainGlobals "_law_works" = some (some (.ref f32)))
  (l32:K.lookup f32=some ⟨oc32,od32,.func (PySem.W.fnOf "_law_works" "_law_works" (aZ fL) (aX fL) (aF fL) .none kV32 dc32 pm32 an32 cd32 ct32),sl32⟩)
  (c32:PySem.W.codeIn K cd32 "_law_works" = true)
  (k32:W.keepIn K (.ref f32)=true)
  (a33:PySem.W.nsIn K mainGlobals "_law_position" = some (some (.ref f33)))
  (l33:K.lookup f33=some ⟨oc33,od33,.func (PySem.W.fnOf "_law_position" "_law_position" (aZ dG) (aX dG) (aF dG) .none kV33 dc33 pm33 an33 cd33 ct33),sl33⟩)
  (c33:PySem.W.codeIn K cd33 "_law_position" = true)
  (k33:W.keepIn K (.ref f33)=true)
  (a34:PySem.W.nsIn K mainGlobals "levels_after" = some (some (.ref f34)))
  (l34:K.lookup f34=some ⟨oc34,od34,.func (PySem.W.fnOf "levels_after" "levels_after" (aZ fB) (aX fB) (aF fB) .none kV34 dc34 pm34 an34 cd34 ct34),sl34⟩)
  (c34:PySem.W.codeIn K cd34 "levels_after" = true)
  (k34:W.keepIn K (.ref f34)=true)
  (a35:PySem.W.nsIn K mainGlobals "levels_from" = some (some (.ref f35)))
  (l35:K.lookup f35=some ⟨oc35,od35,.func (PySem.W.fnOf "levels_from" "levels_from" (aZ gE) (aX gE) (aF gE) .none kV35 dc35 pm35 an35 cd35 ct35),sl35⟩)
  (c35:PySem.W.codeIn K cd35 "levels_from" = true)
  (k35:W.keepIn K (.ref f35)=true)
  (a36:PySem.W.nsIn K mainGlobals "drawn_by" = some (some (.ref f36)))
  (l36:K.lookup f36=some ⟨oc36,od36,.func (PySem.W.fnOf "drawn_by" "drawn_by" (aZ lH) (aX lH) (aF lH) .none kV36 dc36 pm36 an36 cd36 ct36),sl36⟩)
  (c36:PySem.W.codeIn K cd36 "drawn_by" = true)
  (k36:W.keepIn K (.ref f36)=true)
  (a37:PySem.W.nsIn K mainGlobals "level_ways" = some (some (.ref f37)))
  (l37:K.lookup f37=some ⟨oc37,od37,.func (PySem.W.fnOf "level_ways" "level_ways" (aZ fM) (aX fM) (aF fM) .none kV37 dc37 pm37 an37 cd37 ct37),sl37⟩)
  (c37:PySem.W.codeIn K cd37 "level_ways" = true)
  (k37:W.keepIn K (.ref f37)=true)
  (a38:PySem.W.nsIn K mainGlobals "worths_of_levels" = some (some (.ref f38)))
  (l38:K.lookup f38=some ⟨oc38,od38,.func (PySem.W.fnOf "worths_of_levels" "worths_of_levels" (aZ bQ) (aX bQ) (aF bQ) .none kV38 dc38 pm38 an38 (.ref kc38) ct38),sl38⟩)
  (c38:PySem.W.codeIn K (.ref kc38) "worths_of_levels" = true)
  (tl38:K.lookup kc38=some ⟨.type "code",tod38,.fields tvs38,tsl38⟩)
  (tv38:(tvs38[11]? : Option Value)=some (.ref T38))
  (th38:PySem.W.codeHdIn K kc38 T38=true)
  (k38:W.keepIn K (.ref f38)=true)
  (a39:PySem.W.nsIn K mainGlobals "cheapest_path" = some (some (.ref f39)))
  (l39:K.lookup f39=some ⟨oc39,od39,.func (PySem.W.fnOf "cheapest_path" "cheapest_path" (aZ cV) (aX cV) (aF cV) .none kV39 dc39 pm39 an39 (.ref kc39) ct39),sl39⟩)
  (c39:PySem.W.codeIn K (.ref kc39) "cheapest_path" = true)
  (tl39:K.lookup kc39=some ⟨.type "code",tod39,.fields tvs39,tsl39⟩)
  (tv39:(tvs39[11]? : Option Value)=some (.ref T39))
  (th39:PySem.W.codeHdIn K kc39 T39=true)
  (k39:W.keepIn K (.ref f39)=true)
  (a40:PySem.W.nsIn K mainGlobals "states_by_hour" = some (some (.ref f40)))
  (l40:K.lookup f40=some ⟨oc40,od40,.func (PySem.W.fnOf "states_by_hour" "states_by_hour" (aZ dQ) (aX dQ) (aF dQ) .none kV40 dc40 pm40 an40 cd40 ct40),sl40⟩)
  (c40:PySem.W.codeIn K cd40 "states_by_hour" = true)
  (k40:W.keepIn K (.ref f40)=true)
  (a41:PySem.W.nsIn K mainGlobals "next_hours" = some (some (.ref f41)))
  (l41:K.lookup f41=some ⟨oc41,od41,.func (PySem.W.fnOf "next_hours" "next_hours" (aZ fN) (aX fN) (aF fN) .none kV41 dc41 pm41 an41 cd41 ct41),sl41⟩)
  (c41:PySem.W.codeIn K cd41 "next_hours" = true)
  (k41:W.keepIn K (.ref f41)=true)
  (a42:PySem.W.nsIn K mainGlobals "hour_ways" = some (some (.ref f42)))
  (l42:K.lookup f42=some ⟨oc42,od42,.func (PySem.W.fnOf "hour_ways" "hour_ways" (aZ gU) (aX gU) (aF gU) .none kV42 dc42 pm42 an42 cd42 ct42),sl42⟩)
  (c42:PySem.W.codeIn K cd42 "hour_ways" = true)
  (k42:W.keepIn K (.ref f42)=true)
  (a43:PySem.W.nsIn K mainGlobals "worths_of_states" = some (some (.ref f43)))
  (l43:K.lookup f43=some ⟨oc43,od43,.func (PySem.W.fnOf "worths_of_states" "worths_of_states" (aZ bT) (aX bT) (aF bT) .none kV43 dc43 pm43 an43 (.ref kc43) ct43),sl43⟩)
  (c43:PySem.W.codeIn K (.ref kc43) "worths_of_states" = true)
  (tl43:K.lookup kc43=some ⟨.type "code",tod43,.fields tvs43,tsl43⟩)
  (tv43:(tvs43[11]? : Option Value)=some (.ref T43))
  (th43:PySem.W.codeHdIn K kc43 T43=true)
  (k43:W.keepIn K (.ref f43)=true)
  (a44:PySem.W.nsIn K mainGlobals "cheapest_run" = some (some (.ref f44)))
  (l44:K.lookup f44=some ⟨oc44,od44,.func (PySem.W.fnOf "cheapest_run" "cheapest_run" (aZ dB) (aX dB) (aF dB) .none kV44 dc44 pm44 an44 (.ref kc44) ct44),sl44⟩)
  (c44:PySem.W.codeIn K (.ref kc44) "cheapest_run" = true)
  (tl44:K.lookup kc44=some ⟨.type "code",tod44,.fields tvs44,tsl44⟩)
  (tv44:(tvs44[11]? : Option Value)=some (.ref T44))
  (th44:PySem.W.codeHdIn K kc44 T44=true)
  (k44:W.keepIn K (.ref f44)=true)
  (a45:PySem.W.nsIn K mainGlobals "_law_price" = some (some (.ref f45)))
  (l45:K.lookup f45=some ⟨oc45,od45,.func (PySem.W.fnOf "_law_price" "_law_price" (aZ iD) (aX iD) (aF iD) .none kV45 dc45 pm45 an45 cd45 ct45),sl45⟩)
  (c45:PySem.W.codeIn K cd45 "_law_price" = true)
  (k45:W.keepIn K (.ref f45)=true)
  (a46:PySem.W.nsIn K mainGlobals "least_of_machines" = some (some (.ref f46)))
  (l46:K.lookup f46=some ⟨oc46,od46,.func (PySem.W.fnOf "least_of_machines" "least_of_machines" (aZ cB) (aX cB) (aF cB) .none kV46 dc46 pm46 an46 cd46 ct46),sl46⟩)
  (c46:PySem.W.codeIn K cd46 "least_of_machines" = true)
  (k46:W.keepIn K (.ref f46)=true)
  (a47:PySem.W.nsIn K mainGlobals "least_of_store" = some (some (.ref f47)))
  (l47:K.lookup f47=some ⟨oc47,od47,.func (PySem.W.fnOf "least_of_store" "least_of_store" (aZ dR) (aX dR) (aF dR) .none kV47 dc47 pm47 an47 cd47 ct47),sl47⟩)
  (c47:PySem.W.codeIn K cd47 "least_of_store" = true)
  (k47:W.keepIn K (.ref f47)=true)
  (a48:PySem.W.nsIn K mainGlobals "price_bound" = some (some (.ref f48)))
  (l48:K.lookup f48=some ⟨oc48,od48,.func (PySem.W.fnOf "price_bound" "price_bound" (aZ eK) (aX eK) (aF eK) .none kV48 dc48 pm48 an48 cd48 ct48),sl48⟩)
  (c48:PySem.W.codeIn K cd48 "price_bound" = true)
  (k48:W.keepIn K (.ref f48)=true)
  (a49:PySem.W.nsIn K mainGlobals "_law_most" = some (some (.ref f49)))
  (l49:K.lookup f49=some ⟨oc49,od49,.func (PySem.W.fnOf "_law_most" "_law_most" (aZ gW) (aX gW) (aF gW) .none kV49 dc49 pm49 an49 cd49 ct49),sl49⟩)
  (c49:PySem.W.codeIn K cd49 "_law_most" = true)
  (k49:W.keepIn K (.ref f49)=true)
  (a50:PySem.W.nsIn K mainGlobals "_law_want" = some (some (.ref f50)))
  (l50:K.lookup f50=some ⟨oc50,od50,.func (PySem.W.fnOf "_law_want" "_law_want" (aZ jS) (aX jS) (aF jS) .none kV50 dc50 pm50 an50 cd50 ct50),sl50⟩)
  (c50:PySem.W.codeIn K cd50 "_law_want" = true)
  (k50:W.keepIn K (.ref f50)=true)
  (a51:PySem.W.nsIn K mainGlobals "_law_prices" = some (some (.ref f51)))
  (l51:K.lookup f51=some ⟨oc51,od51,.func (PySem.W.fnOf "_law_prices" "_law_prices" (aZ eM) (aX eM) (aF eM) .none kV51 dc51 pm51 an51 cd51 ct51),sl51⟩)
  (c51:PySem.W.codeIn K cd51 "_law_prices" = true)
  (k51:W.keepIn K (.ref f51)=true)
  (a52:PySem.W.nsIn K mainGlobals "_law_case" = some (some (.ref f52)))
  (l52:K.lookup f52=some ⟨oc52,od52,.func (PySem.W.fnOf "_law_case" "_law_case" (aZ gX) (aX gX) (aF gX) .none kV52 dc52 pm52 an52 cd52 ct52),sl52⟩)
  (c52:PySem.W.codeIn K cd52 "_law_case" = true)
  (k52:W.keepIn K (.ref f52)=true)
  (a53:PySem.W.nsIn K mainGlobals "_law_ends" = some (some (.ref f53)))
  (l53:K.lookup f53=some ⟨oc53,od53,.func (PySem.W.fnOf "_law_ends" "_law_ends" (aZ jT) (aX jT) (aF jT) .none kV53 dc53 pm53 an53 cd53 ct53),sl53⟩)
  (c53:PySem.W.codeIn K cd53 "_law_ends" = true)
  (k53:W.keepIn K (.ref f53)=true)
  (a54:PySem.W.nsIn K mainGlobals "_law_widest" = some (some (.ref f54)))
  (l54:K.lookup f54=some ⟨oc54,od54,.func (PySem.W.fnOf "_law_widest" "_law_widest" (aZ gF) (aX gF) (aF gF) .none kV54 dc54 pm54 an54 cd54 ct54),sl54⟩)
  (c54:PySem.W.codeIn K cd54 "_law_widest" = true)
  (k54:W.keepIn K (.ref f54)=true)
  (a55:PySem.W.nsIn K mainGlobals "law" = some (some (.ref f55)))
  (l55:K.lookup f55=some ⟨oc55,od55,.func (PySem.W.fnOf "law" "law" (aZ aEm) (aX aEm) (aF aEm) .none kV55 dc55 pm55 an55 cd55 ct55),sl55⟩)
  (c55:PySem.W.codeIn K cd55 "law" = true)
  (k55:W.keepIn K (.ref f55)=true)
  (pg0:PySem.W.plainGet K C0 Str.empty=true)
  (hd0:PySem.W.hasDictIn K C0=true)
  (po0:PySem.W.plainOver K C0=true)
  (sa0:PySem.W.findIn K (.ref C0) "__setattr__" = some (some (.builtin "object.__setattr__")))
  (mk0:PySem.W.makesIn K C0=true)
  (kc0:W.keepIn K (.ref C0)=true)
  (n0_up:PySem.W.findIn K (.ref C0) "up" = some none)
  (n0_down:PySem.W.findIn K (.ref C0) "down" = some none)
  (n0_begin:PySem.W.findIn K (.ref C0) "begin" = some none)
  (n0_run:PySem.W.findIn K (.ref C0) "run" = some none)
  (n0_rest:PySem.W.findIn K (.ref C0) "rest" = some none)
  (n0_least:PySem.W.findIn K (.ref C0) "least" = some none)
  (n0_pieces:PySem.W.findIn K (.ref C0) "pieces" = some none)
  (ia0:PySem.W.findIn K (.ref C0) "__class__" = some (some (.builtin "object.__class__")))
  (in0:PySem.W.specialIn K (.builtin "object.__class__") "__get__" = some (some (.builtin "getset_descriptor.__get__")))
  (it0:PySem.W.takesIn K (.builtin "object.__class__")=some true)
  (im0:PySem.W.mroIn K C0 (.type "object")=some true)
  (pg1:PySem.W.plainGet K C1 Str.empty=true)
  (hd1:PySem.W.hasDictIn K C1=true)
  (po1:PySem.W.plainOver K C1=true)
  (sa1:PySem.W.findIn K (.ref C1) "__setattr__" = some (some (.builtin "object.__setattr__")))
  (mk1:PySem.W.makesIn K C1=true)
  (kc1:W.keepIn K (.ref C1)=true)
  (n1_cap:PySem.W.findIn K (.ref C1) "cap" = some none)
  (n1_into:PySem.W.findIn K (.ref C1) "into" = some none)
  (n1_out:PySem.W.findIn K (.ref C1) "out" = some none)
  (n1_takes:PySem.W.findIn K (.ref C1) "takes" = some none)
  (n1_gives:PySem.W.findIn K (.ref C1) "gives" = some none)
  (ia1:PySem.W.findIn K (.ref C1) "__class__" = some (some (.builtin "object.__class__")))
  (in1:PySem.W.specialIn K (.builtin "object.__class__") "__get__" = some (some (.builtin "getset_descriptor.__get__")))
  (it1:PySem.W.takesIn K (.builtin "object.__class__")=some true)
  (im1:PySem.W.mroIn K C1 (.type "object")=some true)
  (pg2:PySem.W.plainGet K C2 Str.empty=true)
  (hd2:PySem.W.hasDictIn K C2=true)
  (po2:PySem.W.plainOver K C2=true)
  (sa2:PySem.W.findIn K (.ref C2) "__setattr__" = some (some (.builtin "object.__setattr__")))
  (mk2:PySem.W.makesIn K C2=true)
  (kc2:W.keepIn K (.ref C2)=true)
  (n2_machines:PySem.W.findIn K (.ref C2) "machines" = some none)
  (n2_store:PySem.W.findIn K (.ref C2) "store" = some none)
  (n2_lack:PySem.W.findIn K (.ref C2) "lack" = some none)
  (ia2:PySem.W.findIn K (.ref C2) "__class__" = some (some (.builtin "object.__class__")))
  (in2:PySem.W.specialIn K (.builtin "object.__class__") "__get__" = some (some (.builtin "getset_descriptor.__get__")))
  (it2:PySem.W.takesIn K (.builtin "object.__class__")=some true)
  (im2:PySem.W.mroIn K C2 (.type "object")=some true)
  (aCR:PySem.W.nsIn K mainGlobals "abs" = some none)
  (aBD:PySem.W.nsIn K mainGlobals "all" = some none)
  (aA5:PySem.W.nsIn K mainGlobals "bool" = some none)
  (dO:PySem.W.nsIn K mainGlobals "enumerate" = some none)
  (aBE:PySem.W.nsIn K mainGlobals "int" = some none)
  (cG:PySem.W.nsIn K mainGlobals "isinstance" = some none)
  (iO:PySem.W.nsIn K mainGlobals "len" = some none)
  (jK:PySem.W.nsIn K mainGlobals "list" = some none)
  (w9:PySem.W.nsIn K mainGlobals "max" = some none)
  (uZ:PySem.W.nsIn K mainGlobals "min" = some none)
  (dZ:PySem.W.nsIn K mainGlobals "range" = some none)
  (lQ:PySem.W.nsIn K mainGlobals "reversed" = some none)
  (sQ:PySem.W.nsIn K mainGlobals "sorted" = some none)
  (aBF:PySem.W.nsIn K mainGlobals "sum" = some none)
  (uL:PySem.W.nsIn K mainGlobals "tuple" = some none)
  (aCS:PySem.W.nsIn K mainGlobals "zip" = some none)
  (gI:PySem.W.nsIn K mainGlobals "MOST_LEVELS" = some (some (.int 8 tk_MOST_LEVELS)))
  (eA:PySem.W.nsIn K mainGlobals "LONGEST_STINT" = some (some (.int 12 tk_LONGEST_STINT)))
  (gJ:PySem.W.nsIn K mainGlobals "MOST_PIECES" = some (some (.int 4 tk_MOST_PIECES)))
  (eB:PySem.W.nsIn K mainGlobals "MOST_MACHINES" = some (some (.int 6 tk_MOST_MACHINES))) :
  (∃c,PySem.W.codeHdIn K c T38=true)/\(∃c,PySem.W.codeHdIn K c T39=true)/\(∃c,PySem.W.codeHdIn K c T43=true)/\(∃c,PySem.W.codeHdIn K c T44=true)/\∃fd:FuncData,(∀(s:Shared) (v:Value),BindsTo s fd ⟨[v],[]⟩ [("_law_script",v)])/\∀base:Heap,K.In base->base.Ns mainGlobals mg->bP l.prog w K mg base hU 16 fa fd ["_law_script"] (aFC K T43 T44 T38 T39):=by
 have e:=hfa.symm.trans (W.mg_of X G a55)
 cases e
 have F0:=bF (st:=gS) l0 c0 k0
 have b0:=F0.binds (ps:=["_law_script","_law_place"]) λ_ _ _ _ _ _ us hl=>match us,hl with|[_,_],_=>rfl
 have F1:=bF (st:=jN) l1 c1 k1
 have b1:=F1.binds (ps:=["_law_hand","_law_many"]) λ_ _ _ _ _ _ us hl=>match us,hl with|[_,_],_=>rfl
 have F2:=bF (st:=lC) l2 c2 k2
 have b2:=F2.binds (ps:=["_law_hand","_law_bound"]) λ_ _ _ _ _ _ us hl=>match us,hl with|[_,_],_=>rfl
 have F3:=bF (st:=gA) l3 c3 k3
 have b3:=F3.binds (ps:=["_law_hand"]) λ_ _ _ _ _ _ us hl=>match us,hl with|[_],_=>rfl
 have F4:=bF (st:=lD) l4 c4 k4
 have b4:=F4.binds (ps:=["thing"]) λ_ _ _ _ _ _ us hl=>match us,hl with|[_],_=>rfl
 have F5:=bF (st:=jO) l5 c5 k5
 have b5:=F5.binds (ps:=["thing"]) λ_ _ _ _ _ _ us hl=>match us,hl with|[_],_=>rfl
 have F6:=bF (st:=oV) l6 c6 k6
 have b6:=F6.binds (ps:=["thing"]) λ_ _ _ _ _ _ us hl=>match us,hl with|[_],_=>rfl
 have F7:=bF (st:=lE) l7 c7 k7
 have b7:=F7.binds (ps:=["thing"]) λ_ _ _ _ _ _ us hl=>match us,hl with|[_],_=>rfl
 have F8:=bF (st:=eF) l8 c8 k8
 have b8:=F8.binds (ps:=["thing"]) λ_ _ _ _ _ _ us hl=>match us,hl with|[_],_=>rfl
 have F9:=bF (st:=eW) l9 c9 k9
 have b9:=F9.binds (ps:=["self","up","down","begin","run","rest","least","pieces"]) λ_ _ _ _ _ _ us hl=>match us,hl with|[_,_,_,_,_,_,_,_],_=>rfl
 have F10:=bF (st:=jP) l10 c10 k10
 have b10:=F10.binds (ps:=["_law_hand","_law_by","_law_longest"]) λ_ _ _ _ _ _ us hl=>match us,hl with|[_,_,_],_=>rfl
 have F11:=bF (st:=eX) l11 c11 k11
 have b11:=F11.binds (ps:=["_law_spec_here"]) λ_ _ _ _ _ _ us hl=>match us,hl with|[_],_=>rfl
 have F12:=bF (st:=eY) l12 c12 k12
 have b12:=F12.binds (ps:=["self","price"]) λ_ _ _ _ _ _ us hl=>match us,hl with|[_,_],_=>rfl
 have F13:=bF (st:=sI) l13 c13 k13
 have b13:=F13.binds (ps:=["machine","state","on"]) λ_ _ _ _ _ _ us hl=>match us,hl with|[_,_,_],_=>rfl
 have F14:=bF (st:=gB) l14 c14 k14
 have b14:=F14.binds (ps:=["machine","state","on"]) λ_ _ _ _ _ _ us hl=>match us,hl with|[_,_,_],_=>rfl
 have F15:=bF (st:=hX) l15 c15 k15
 have b15:=F15.binds (ps:=["_law_hand","_law_spec_here"]) λ_ _ _ _ _ _ us hl=>match us,hl with|[_,_],_=>rfl
 have F16:=bF (st:=lF) l16 c16 k16
 have b16:=F16.binds (ps:=["thing"]) λ_ _ _ _ _ _ us hl=>match us,hl with|[_],_=>rfl
 have F17:=bF (st:=hZ) l17 c17 k17
 have b17:=F17.binds (ps:=["self","cap","into","out","takes","gives"]) λ_ _ _ _ _ _ us hl=>match us,hl with|[_,_,_,_,_,_],_=>rfl
 have F18:=bF (st:=jQ) l18 c18 k18
 have b18:=F18.binds (ps:=["machine","state","run"]) λ_ _ _ _ _ _ us hl=>match us,hl with|[_,_,_],_=>rfl
 have F19:=bF (st:=eZ) l19 c19 k19
 have b19:=F19.binds (ps:=["machine","state","run"]) λ_ _ _ _ _ _ us hl=>match us,hl with|[_,_,_],_=>rfl
 have F20:=bF (st:=iA) l20 c20 k20
 have b20:=F20.binds (ps:=["machine","state","run"]) λ_ _ _ _ _ _ us hl=>match us,hl with|[_,_,_],_=>rfl
 have F21:=bF (st:=lG) l21 c21 k21
 have b21:=F21.binds (ps:=["machine","state","run"]) λ_ _ _ _ _ _ us hl=>match us,hl with|[_,_,_],_=>rfl
 have F22:=bF (st:=jF) l22 c22 k22
 have b22:=F22.binds (ps:=["ways","behind"]) λ_ _ _ _ _ _ us hl=>match us,hl with|[_,_],_=>rfl
 have F23:=bF (st:=fA) l23 c23 k23
 have b23:=F23.binds (ps:=["places","hour","behind","ways_at"]) λ_ _ _ _ _ _ us hl=>match us,hl with|[_,_,_,_],_=>rfl
 have F24:=bF (st:=dP) l24 c24 k24
 have b24:=F24.binds (ps:=["layers","ways_at"]) λ_ _ _ _ _ _ us hl=>match us,hl with|[_,_],_=>rfl
 have F25:=bF (st:=fK) l25 c25 k25
 have b25:=F25.binds (ps:=["ways","behind"]) λ_ _ _ _ _ _ us hl=>match us,hl with|[_,_],_=>rfl
 have F26:=bF (st:=jR) l26 c26 k26
 have b26:=F26.binds (ps:=["place","worths","ways_at"]) λ_ _ _ _ _ _ us hl=>match us,hl with|[_,_,_],_=>rfl
 have F27:=bF (st:=gC) l27 c27 k27
 have b27:=F27.binds (ps:=["machine","ways"]) λ_ _ _ _ _ _ us hl=>match us,hl with|[_,_],_=>rfl
 have F28:=bF (st:=dU) l28 c28 k28
 have b28:=F28.binds (ps:=["thing"]) λ_ _ _ _ _ _ us hl=>match us,hl with|[_],_=>rfl
 have F29:=bF (st:=iB) l29 c29 k29
 have b29:=F29.binds (ps:=["self","machines","store","lack"]) λ_ _ _ _ _ _ us hl=>match us,hl with|[_,_,_,_],_=>rfl
 have F30:=bF (st:=iC) l30 c30 k30
 have b30:=F30.binds (ps:=["_law_hand","_law_by"]) λ_ _ _ _ _ _ us hl=>match us,hl with|[_,_],_=>rfl
 have F31:=bF (st:=cQ) l31 c31 k31
 have b31:=F31.binds (ps:=["_law_hand","_law_most_here"]) λ_ _ _ _ _ _ us hl=>match us,hl with|[_,_],_=>rfl
 have F32:=bF (st:=fL) l32 c32 k32
 have b32:=F32.binds (ps:=["_law_spec_here"]) λ_ _ _ _ _ _ us hl=>match us,hl with|[_],_=>rfl
 have F33:=bF (st:=dG) l33 c33 k33
 have b33:=F33.binds (ps:=["_law_hand","_law_spec_here"]) λ_ _ _ _ _ _ us hl=>match us,hl with|[_,_],_=>rfl
 have F34:=bF (st:=fB) l34 c34 k34
 have b34:=F34.binds (ps:=["store","level","hours"]) λ_ _ _ _ _ _ us hl=>match us,hl with|[_,_,_],_=>rfl
 have F35:=bF (st:=gE) l35 c35 k35
 have b35:=F35.binds (ps:=["store","level"]) λ_ _ _ _ _ _ us hl=>match us,hl with|[_,_],_=>rfl
 have F36:=bF (st:=lH) l36 c36 k36
 have b36:=F36.binds (ps:=["store","level","later"]) λ_ _ _ _ _ _ us hl=>match us,hl with|[_,_,_],_=>rfl
 have F37:=bF (st:=fM) l37 c37 k37
 have b37:=F37.binds (ps:=["store","level","price"]) λ_ _ _ _ _ _ us hl=>match us,hl with|[_,_,_],_=>rfl
 have F38:=bF (st:=bQ) l38 c38 k38
 have b38:=F38.binds (ps:=["store","level","prices"]) λ_ _ _ _ _ _ us hl=>match us,hl with|[_,_,_],_=>rfl
 have F39:=bF (st:=cV) l39 c39 k39
 have b39:=F39.binds (ps:=["store","level","prices"]) λ_ _ _ _ _ _ us hl=>match us,hl with|[_,_,_],_=>rfl
 have F40:=bF (st:=dQ) l40 c40 k40
 have b40:=F40.binds (ps:=["machine","state","hours"]) λ_ _ _ _ _ _ us hl=>match us,hl with|[_,_,_],_=>rfl
 have F41:=bF (st:=fN) l41 c41 k41
 have b41:=F41.binds (ps:=["machine","state"]) λ_ _ _ _ _ _ us hl=>match us,hl with|[_,_],_=>rfl
 have F42:=bF (st:=gU) l42 c42 k42
 have b42:=F42.binds (ps:=["machine","state","price"]) λ_ _ _ _ _ _ us hl=>match us,hl with|[_,_,_],_=>rfl
 have F43:=bF (st:=bT) l43 c43 k43
 have b43:=F43.binds (ps:=["machine","state","prices"]) λ_ _ _ _ _ _ us hl=>match us,hl with|[_,_,_],_=>rfl
 have F44:=bF (st:=dB) l44 c44 k44
 have b44:=F44.binds (ps:=["machine","state","prices"]) λ_ _ _ _ _ _ us hl=>match us,hl with|[_,_,_],_=>rfl
 have F45:=bF (st:=iD) l45 c45 k45
 have b45:=F45.binds (ps:=["_law_hand","_law_by","_law_most_here"]) λ_ _ _ _ _ _ us hl=>match us,hl with|[_,_,_],_=>rfl
 have F46:=bF (st:=cB) l46 c46 k46
 have b46:=F46.binds (ps:=["works","position","prices"]) λ_ _ _ _ _ _ us hl=>match us,hl with|[_,_,_],_=>rfl
 have F47:=bF (st:=dR) l47 c47 k47
 have b47:=F47.binds (ps:=["works","position","prices"]) λ_ _ _ _ _ _ us hl=>match us,hl with|[_,_,_],_=>rfl
 have F48:=bF (st:=eK) l48 c48 k48
 have b48:=F48.binds (ps:=["works","position","wants","prices"]) λ_ _ _ _ _ _ us hl=>match us,hl with|[_,_,_,_],_=>rfl
 have F49:=bF (st:=gW) l49 c49 k49
 have b49:=F49.binds (ps:=["_law_spec_here"]) λ_ _ _ _ _ _ us hl=>match us,hl with|[_],_=>rfl
 have F50:=bF (st:=jS) l50 c50 k50
 have b50:=F50.binds (ps:=["_law_hand","_law_by"]) λ_ _ _ _ _ _ us hl=>match us,hl with|[_,_],_=>rfl
 have F51:=bF (st:=eM) l51 c51 k51
 have b51:=F51.binds (ps:=["_law_hand","_law_by","_law_lack","_law_hours"]) λ_ _ _ _ _ _ us hl=>match us,hl with|[_,_,_,_],_=>rfl
 have F52:=bF (st:=gX) l52 c52 k52
 have b52:=F52.binds (ps:=["_law_hand","_law_most_here"]) λ_ _ _ _ _ _ us hl=>match us,hl with|[_,_],_=>rfl
 have F53:=bF (st:=jT) l53 c53 k53
 have b53:=F53.binds (ps:=["_law_hand","_law_lack","_law_prices_here"]) λ_ _ _ _ _ _ us hl=>match us,hl with|[_,_,_],_=>rfl
 have F54:=bF (st:=gF) l54 c54 k54
 have b54:=F54.binds (ps:=["_law_spec_here","_law_want_here"]) λ_ _ _ _ _ _ us hl=>match us,hl with|[_,_],_=>rfl
 have F55:=bF (st:=aEm) l55 c55 k55
 have b55:=F55.binds (ps:=["_law_script"]) λ_ _ _ _ _ _ us hl=>match us,hl with|[_],_=>rfl
 have tx:Txt K mg { qD:=f0,qE:=_,qF:=f1,qG:=_,tE:=f2,tF:=_,lW:=f3,lX:=_,tG:=f4,tH:=_,qH:=f5,qI:=_,xS:=f6,xT:=_,tI:=f7,tJ:=_,nP:=f8,nQ:=_,j9:=f9,kA:=_,qJ:=f10,qK:=_,kB:=f11,kC:=_,kD:=f12,kE:=_,aAc:=f13,aAd:=_,lY:=f14,lZ:=_,nR:=f15,nS:=_,tK:=f16,tL:=_,nU:=f17,nV:=_,qL:=f18,qM:=_,kF:=f19,kG:=_,nW:=f20,nX:=_,tM:=f21,tN:=_,tO:=f22,tQ:=_,kH:=f23,kI:=_,iG:=f24,iH:=_,nY:=f25,nZ:=_,qN:=f26,qO:=_,mC:=f27,mD:=_,kJ:=f28,kK:=_,oA:=f29,oB:=_,oC:=f30,oE:=_,gM:=f31,gN:=_,oF:=f32,oG:=_,iY:=f33,iZ:=_,kL:=f34,kM:=_,mE:=f35,mF:=_,tR:=f36,tS:=_,oH:=f37,oI:=_,fO:=f38,dW:=_,k_worths_of_levels:=kc38,bU:=T38,jA:=f39,fV:=_,k_cheapest_path:=kc39,dH:=T39,iI:=f40,iJ:=_,oJ:=f41,oK:=_,qP:=f42,qQ:=_,fP:=f43,dX:=_,k_worths_of_states:=kc43,bV:=T43,kN:=f44,gZ:=_,k_cheapest_run:=kc44,dY:=T44,oM:=f45,oN:=_,eR:=f46,eS:=_,iK:=f47,iL:=_,mG:=f48,mH:=_,qR:=f49,qS:=_,qT:=f50,qU:=_,mI:=f51,mJ:=_,qV:=f52,qW:=_,qX:=f53,qY:=_,mK:=f54,mL:=_,aIh:=fa,aIi:=_,bB:=C0,bX:=C1,eT:=C2 }:={ vX:=F0,aBp:=b0,aBq:=W.mg_of X G a0,aP:=F1,aR:=b1,aS:=W.mg_of X G a1,y9:=F2,aCJ:=b2,aCK:=W.mg_of X G a2,mM:=F3,rP:=b3,rQ:=W.mg_of X G a3,pB:=F4,tT:=b4,tU:=W.mg_of X G a4,dC:=F5,dM:=b5,dN:=W.mg_of X G a5,xU:=F6,aA2:=b6,aA3:=W.mg_of X G a6,zA:=F7,aCL:=b7,aCM:=W.mg_of X G a7,tV:=F8,aAe:=b8,aAf:=W.mg_of X G a8,vY:=F9,vZ:=b9,v8:=F10,aBr:=b10,aBs:=W.mg_of X G a10,pC:=F11,v9:=b11,wA:=W.mg_of X G a11,wB:=F12,wC:=b12,sL:=F13,wD:=b13,wG:=W.mg_of X G a13,iS:=F14,mN:=b14,mO:=W.mg_of X G a14,tW:=F15,aAg:=b15,aAh:=W.mg_of X G a15,pD:=F16,tX:=b16,tY:=W.mg_of X G a16,aAi:=F17,aAj:=b17,wH:=F18,aBt:=b18,aBu:=W.mg_of X G a18,pE:=F19,wI:=b19,wJ:=W.mg_of X G a19,tZ:=F20,aAk:=b20,aAl:=W.mg_of X G a20,zB:=F21,aCN:=b21,aCO:=W.mg_of X G a21,uA:=F22,zC:=b22,zD:=W.mg_of X G a22,pF:=F23,wK:=b23,wL:=W.mg_of X G a23,iM:=F24,lJ:=b24,lK:=W.mg_of X G a24,uB:=F25,aAm:=b25,aAn:=W.mg_of X G a25,qZ:=F26,wM:=b26,wN:=W.mg_of X G a26,rR:=F27,yK:=b27,yL:=W.mg_of X G a27,pG:=F28,wO:=b28,wQ:=W.mg_of X G a28,aAo:=F29,aAp:=b29,uC:=F30,aAq:=b30,aAr:=W.mg_of X G a30,kO:=F31,rA:=b31,rB:=W.mg_of X G a31,uD:=F32,aAs:=b32,aAt:=W.mg_of X G a32,m7:=F33,uV:=b33,uW:=W.mg_of X G a33,kP:=F34,pH:=b34,pI:=W.mg_of X G a34,rS:=F35,yM:=b35,yN:=W.mg_of X G a35,zE:=F36,aCP:=b36,aCQ:=W.mg_of X G a36,oO:=F37,uE:=b37,uF:=W.mg_of X G a37,jG:=F38,pJ:=b38,jI:=⟨rfl,th38⟩,pK:=W.mg_of X G a38,m8:=F39,uX:=b39,nC:=⟨rfl,th39⟩,uY:=W.mg_of X G a39,lM:=F40,sM:=b40,sN:=W.mg_of X G a40,uG:=F41,aAu:=b41,aAv:=W.mg_of X G a41,rC:=F42,wR:=b42,wU:=W.mg_of X G a42,jH:=F43,pL:=b43,jJ:=⟨rfl,th43⟩,pM:=W.mg_of X G a43,pN:=F44,wV:=b44,pQ:=⟨rfl,th44⟩,wW:=W.mg_of X G a44,uH:=F45,aAw:=b45,aAx:=W.mg_of X G a45,iQ:=F46,nI:=b46,nJ:=W.mg_of X G a46,lN:=F47,sO:=b47,sP:=W.mg_of X G a47,gH:=F48,iT:=b48,iU:=W.mg_of X G a48,wX:=F49,aBv:=b49,aBw:=W.mg_of X G a49,wY:=F50,aBx:=b50,aBy:=W.mg_of X G a50,rT:=F51,yO:=b51,yP:=W.mg_of X G a51,wZ:=F52,aBz:=b52,aBA:=W.mg_of X G a52,w4:=F53,aBB:=b53,aBC:=W.mg_of X G a53,rV:=F54,yQ:=b54,yR:=W.mg_of X G a54,aNh:=F55,aPL:=b55,aPM:=W.mg_of X G a55,cM:=⟨pg0,hd0,po0,sa0⟩,aA4:=W.mg_of X G aC0,aEn:=⟨mk0,a9,i9,kc0⟩,m_Machine_gain:=⟨a12,i12,k12⟩,uI:=n0_up,pO:=n0_down,m9:=n0_begin,rW:=n0_run,pP:=n0_rest,nB:=n0_least,lO:=n0_pieces,i_Machine:=⟨ia0,in0,it0,im0⟩,jB:=⟨pg1,hd1,po1,sa1⟩,aE1:=W.mg_of X G aC1,aIj:=⟨mk1,a17,i17,kc1⟩,w5:=n1_cap,uJ:=n1_into,w6:=n1_out,rX:=n1_takes,rY:=n1_gives,i_Store:=⟨ia1,in1,it1,im1⟩,uK:=⟨pg2,hd2,po2,sa2⟩,aIk:=W.mg_of X G aC2,aIl:=⟨mk2,a29,i29,kc2⟩,lP:=n2_machines,mP:=n2_store,aAy:=n2_lack,i_Works:=⟨ia2,in2,it2,im2⟩,aCR:=PySem.W.mg_none_of X G aCR,aBD:=PySem.W.mg_none_of X G aBD,aA5:=PySem.W.mg_none_of X G aA5,dO:=PySem.W.mg_none_of X G dO,aBE:=PySem.W.mg_none_of X G aBE,cG:=PySem.W.mg_none_of X G cG,iO:=PySem.W.mg_none_of X G iO,jK:=PySem.W.mg_none_of X G jK,w9:=PySem.W.mg_none_of X G w9,uZ:=PySem.W.mg_none_of X G uZ,dZ:=PySem.W.mg_none_of X G dZ,lQ:=PySem.W.mg_none_of X G lQ,sQ:=PySem.W.mg_none_of X G sQ,aBF:=PySem.W.mg_none_of X G aBF,uL:=PySem.W.mg_none_of X G uL,aCS:=PySem.W.mg_none_of X G aCS,gI:=⟨_,W.mg_of X G gI⟩,eA:=⟨_,W.mg_of X G eA⟩,gJ:=⟨_,W.mg_of X G gJ⟩,eB:=⟨_,W.mg_of X G eB⟩ }
 exact⟨⟨_,th38⟩,⟨_,th39⟩,⟨_,th43⟩,⟨_,th44⟩,_,λs v=>.of_eq rfl,λbase _ _=>aO3 tx⟩
theorem walk{l:PySem.W.OpenLaw}{XP:(Str->Option Value)->Heap->Prop}{YP:World->Heap->Prop}{d:DefRec}{K:Params->W.Frag}(hn:l.most=some 63)(hdf:d.params.defaults=[])(hI:∀(w:World) (h:Heap),YP w h->(K w.params).In h)(F:∀(w:World) (mg:Str->Option Value) (fa:Addr) (h:Heap),(K w.params).In h->h.Ns mainGlobals mg->mg d.name=some (.ref fa)->
   (∃c,PySem.W.codeHdIn (K w.params) c T38=true)/\(∃c,PySem.W.codeHdIn (K w.params) c T39=true)/\(∃c,PySem.W.codeHdIn (K w.params) c T43=true)/\(∃c,PySem.W.codeHdIn (K w.params) c T44=true)/\∃fd:FuncData,(∀(s:Shared) (u:Value),BindsTo s fd ⟨[u],[]⟩ [("_law_script",u)])/\∀base:Heap,(K w.params).In base->base.Ns mainGlobals mg->bP l.prog w (K w.params) mg base hU 16 fa fd ["_law_script"] (aFC (K w.params) T43 T44 T38 T39)) (hN:decide ([T38,T39,T43,T44]:List Addr).Nodup=true) (hY:∀(w:World) (h:Heap),YP w h->∀t∈([T38,T39,T43,T44]:List Addr),h.get? t=some { cls:=.none,data:=.fields #[] }) (hK:∀w:World,(K w.params).lookup T38=none/\(K w.params).lookup T39=none/\(K w.params).lookup T43=none/\(K w.params).lookup T44=none) :
  PySem.W.WalkO q loose XP YP l.row.toRowW d [] (λf vs=>PySem.call f vs):=by
 refine L2.aKX (tabs:=[(T38,cR,cS),(T39,fE,fF),(T43,cT,cU),(T44,fW,fX)]) (n:=63) (k:=16) (x:="_law_script") (sp:=λw=>aFC (K w.params) T43 T44 T38 T39) hn (by decide) hdf ⟨rfl,by decide,by decide⟩ (of_decide_eq_true hN) (λw h Y=>⟨hI w h Y,λt ht=>hY w h Y t.1 ?_⟩) (λw t ht=>?_) (λw mg fa h x1 x2 x3=>?_) (λ_ _ a ns hl hT hS=>?_)
 ·simp only[xJ,Sf9,or_false] at ht
  rcases ht with rfl|rfl|rfl|rfl <;> simp
 ·have hk:=hK w
  simp only[xJ,Sf9,or_false] at ht
  rcases ht with rfl|rfl|rfl|rfl
  ·exact hk.1
  ·exact hk.2.1
  ·exact hk.2.2.1
  ·exact hk.2.2.2
 ·obtain⟨c38,c39,c43,c44,rest⟩:=F w mg fa h x1 x2 x3
  refine⟨λt ht=>?_,rest⟩
  simp only[xJ,Sf9,or_false] at ht
  rcases ht with rfl|rfl|rfl|rfl
  ·exact c38
  ·exact c39
  ·exact c43
  ·exact c44
 ·exact⟨a,ns,rfl,hS,hl,hT (T38,cR,cS) (by simp),hT (T39,fE,fF) (by simp),hT (T43,cT,cU) (by simp),hT (T44,fW,fX) (by simp),λH' s'=>⟨rfl,s'⟩⟩
end My
open PySem PySem.W PyProof.Rows
set_option maxRecDepth 100000 in
theorem PySem.Challenge.cw_stintwise_k77_bounds_bend_down_holds : PySem.Challenge.rw_stintwise_k77_bounds_bend_down.Holds := by
 w_on;o_law;k_head;(case hw=>w_witness2)
 k_fill
 refine' My.walk (l:=PySem.Challenge.rw_stintwise_k77_bounds_bend_down) rfl rfl (λw h Y=>PySem.W.km_in_of Y) ?F ?hN0 ?hY0 ?hK0
 case F=>
  intro w mg fa h KX G hmg
  refine' My.all_mk KX G hmg ?aC0 ?aC1 ?aC2 ?a0 ?l0 ?c0 ?k0 ?a1 ?l1 ?c1 ?k1 ?a2 ?l2 ?c2 ?k2 ?a3 ?l3 ?c3 ?k3 ?a4 ?l4 ?c4 ?k4 ?a5 ?l5 ?c5 ?k5 ?a6 ?l6 ?c6 ?k6 ?a7 ?l7 ?c7 ?k7 ?a8 ?l8 ?c8 ?k8 ?a9 ?i9 ?l9 ?c9 ?k9 ?a10 ?l10 ?c10 ?k10 ?a11 ?l11 ?c11 ?k11 ?a12 ?i12 ?l12 ?c12 ?k12 ?a13 ?l13 ?c13 ?k13 ?a14 ?l14 ?c14 ?k14 ?a15 ?l15 ?c15 ?k15 ?a16 ?l16 ?c16 ?k16 ?a17 ?i17 ?l17 ?c17 ?k17 ?a18 ?l18 ?c18 ?k18 ?a19 ?l19 ?c19 ?k19 ?a20 ?l20 ?c20 ?k20 ?a21 ?l21 ?c21 ?k21 ?a22 ?l22 ?c22 ?k22 ?a23 ?l23 ?c23 ?k23 ?a24 ?l24 ?c24 ?k24 ?a25 ?l25 ?c25 ?k25 ?a26 ?l26 ?c26 ?k26 ?a27 ?l27 ?c27 ?k27 ?a28 ?l28 ?c28 ?k28 ?a29 ?i29 ?l29 ?c29 ?k29 ?a30 ?l30 ?c30 ?k30 ?a31 ?l31 ?c31 ?k31 ?a32 ?l32 ?c32 ?k32 ?a33 ?l33 ?c33 ?k33 ?a34 ?l34 ?c34 ?k34 ?a35 ?l35 ?c35 ?k35 ?a36 ?l36 ?c36 ?k36 ?a37 ?l37 ?c37 ?k37 ?a38 ?l38 ?c38 ?tl38 ?tv38 ?th38 ?k38 ?a39 ?l39 ?c39 ?tl39 ?tv39 ?th39 ?k39 ?a40 ?l40 ?c40 ?k40 ?a41 ?l41 ?c41 ?k41 ?a42 ?l42 ?c42 ?k42 ?a43 ?l43 ?c43 ?tl43 ?tv43 ?th43 ?k43 ?a44 ?l44 ?c44 ?tl44 ?tv44 ?th44 ?k44 ?a45 ?l45 ?c45 ?k45 ?a46 ?l46 ?c46 ?k46 ?a47 ?l47 ?c47 ?k47 ?a48 ?l48 ?c48 ?k48 ?a49 ?l49 ?c49 ?k49 ?a50 ?l50 ?c50 ?k50 ?a51 ?l51 ?c51 ?k51 ?a52 ?l52 ?c52 ?k52 ?a53 ?l53 ?c53 ?k53 ?a54 ?l54 ?c54 ?k54 ?a55 ?l55 ?c55 ?k55 ?pg0 ?hd0 ?po0 ?sa0 ?mk0 ?kc0 ?n0_up ?n0_down ?n0_begin ?n0_run ?n0_rest ?n0_least ?n0_pieces ?ia0 ?in0 ?it0 ?im0 ?pg1 ?hd1 ?po1 ?sa1 ?mk1 ?kc1 ?n1_cap ?n1_into ?n1_out ?n1_takes ?n1_gives ?ia1 ?in1 ?it1 ?im1 ?pg2 ?hd2 ?po2 ?sa2 ?mk2 ?kc2 ?n2_machines ?n2_store ?n2_lack ?ia2 ?in2 ?it2 ?im2 ?aCR ?aBD ?aA5 ?dO ?aBE ?cG ?iO ?jK ?w9 ?uZ ?dZ ?lQ ?sQ ?aBF ?uL ?aCS ?gI ?eA ?gJ ?eB
  (case aC0=>k_is);(case aC1=>k_is);(case aC2=>k_is);(case a0=>k_is);(case l0=>k_is);(case c0=>k_is);(case k0=>k_is);(case a1=>k_is)
  (case l1=>k_is);(case c1=>k_is);(case k1=>k_is);(case a2=>k_is);(case l2=>k_is);(case c2=>k_is);(case k2=>k_is);(case a3=>k_is)
  (case l3=>k_is);(case c3=>k_is);(case k3=>k_is);(case a4=>k_is);(case l4=>k_is);(case c4=>k_is);(case k4=>k_is);(case a5=>k_is)
  (case l5=>k_is);(case c5=>k_is);(case k5=>k_is);(case a6=>k_is);(case l6=>k_is);(case c6=>k_is);(case k6=>k_is);(case a7=>k_is)
  (case l7=>k_is);(case c7=>k_is);(case k7=>k_is);(case a8=>k_is);(case l8=>k_is);(case c8=>k_is);(case k8=>k_is);(case a9=>k_is)
  (case i9=>k_is);(case l9=>k_is);(case c9=>k_is);(case k9=>k_is);(case a10=>k_is);(case l10=>k_is);(case c10=>k_is);(case k10=>k_is)
  (case a11=>k_is);(case l11=>k_is);(case c11=>k_is);(case k11=>k_is);(case a12=>k_is);(case i12=>k_is);(case l12=>k_is);(case c12=>k_is)
  (case k12=>k_is);(case a13=>k_is);(case l13=>k_is);(case c13=>k_is);(case k13=>k_is);(case a14=>k_is);(case l14=>k_is);(case c14=>k_is)
  (case k14=>k_is);(case a15=>k_is);(case l15=>k_is);(case c15=>k_is);(case k15=>k_is);(case a16=>k_is);(case l16=>k_is);(case c16=>k_is)
  (case k16=>k_is);(case a17=>k_is);(case i17=>k_is);(case l17=>k_is);(case c17=>k_is);(case k17=>k_is);(case a18=>k_is);(case l18=>k_is)
  (case c18=>k_is);(case k18=>k_is);(case a19=>k_is);(case l19=>k_is);(case c19=>k_is);(case k19=>k_is);(case a20=>k_is);(case l20=>k_is)
  (case c20=>k_is);(case k20=>k_is);(case a21=>k_is);(case l21=>k_is);(case c21=>k_is);(case k21=>k_is);(case a22=>k_is);(case l22=>k_is)
  (case c22=>k_is);(case k22=>k_is);(case a23=>k_is);(case l23=>k_is);(case c23=>k_is);(case k23=>k_is);(case a24=>k_is);(case l24=>k_is)
  (case c24=>k_is);(case k24=>k_is);(case a25=>k_is);(case l25=>k_is);(case c25=>k_is);(case k25=>k_is);(case a26=>k_is);(case l26=>k_is)
  (case c26=>k_is);(case k26=>k_is);(case a27=>k_is);(case l27=>k_is);(case c27=>k_is);(case k27=>k_is);(case a28=>k_is);(case l28=>k_is)
  (case c28=>k_is);(case k28=>k_is);(case a29=>k_is);(case i29=>k_is);(case l29=>k_is);(case c29=>k_is);(case k29=>k_is);(case a30=>k_is)
  (case l30=>k_is);(case c30=>k_is);(case k30=>k_is);(case a31=>k_is);(case l31=>k_is);(case c31=>k_is);(case k31=>k_is);(case a32=>k_is)
  (case l32=>k_is);(case c32=>k_is);(case k32=>k_is);(case a33=>k_is);(case l33=>k_is);(case c33=>k_is);(case k33=>k_is);(case a34=>k_is)
  (case l34=>k_is);(case c34=>k_is);(case k34=>k_is);(case a35=>k_is);(case l35=>k_is);(case c35=>k_is);(case k35=>k_is);(case a36=>k_is)
  (case l36=>k_is);(case c36=>k_is);(case k36=>k_is);(case a37=>k_is);(case l37=>k_is);(case c37=>k_is);(case k37=>k_is);(case a38=>k_is)
  (case l38=>k_is);(case c38=>k_is);(case tl38=>k_is);(case tv38=>exact rfl);(case th38=>kernel_rfl);(case k38=>k_is);(case a39=>k_is);(case l39=>k_is)
  (case c39=>k_is);(case tl39=>k_is);(case tv39=>exact rfl);(case th39=>kernel_rfl);(case k39=>k_is);(case a40=>k_is);(case l40=>k_is);(case c40=>k_is)
  (case k40=>k_is);(case a41=>k_is);(case l41=>k_is);(case c41=>k_is);(case k41=>k_is);(case a42=>k_is);(case l42=>k_is);(case c42=>k_is)
  (case k42=>k_is);(case a43=>k_is);(case l43=>k_is);(case c43=>k_is);(case tl43=>k_is);(case tv43=>exact rfl);(case th43=>kernel_rfl);(case k43=>k_is)
  (case a44=>k_is);(case l44=>k_is);(case c44=>k_is);(case tl44=>k_is);(case tv44=>exact rfl);(case th44=>kernel_rfl);(case k44=>k_is);(case a45=>k_is)
  (case l45=>k_is);(case c45=>k_is);(case k45=>k_is);(case a46=>k_is);(case l46=>k_is);(case c46=>k_is);(case k46=>k_is);(case a47=>k_is)
  (case l47=>k_is);(case c47=>k_is);(case k47=>k_is);(case a48=>k_is);(case l48=>k_is);(case c48=>k_is);(case k48=>k_is);(case a49=>k_is)
  (case l49=>k_is);(case c49=>k_is);(case k49=>k_is);(case a50=>k_is);(case l50=>k_is);(case c50=>k_is);(case k50=>k_is);(case a51=>k_is)
  (case l51=>k_is);(case c51=>k_is);(case k51=>k_is);(case a52=>k_is);(case l52=>k_is);(case c52=>k_is);(case k52=>k_is);(case a53=>k_is)
  (case l53=>k_is);(case c53=>k_is);(case k53=>k_is);(case a54=>k_is);(case l54=>k_is);(case c54=>k_is);(case k54=>k_is);(case a55=>k_is)
  (case l55=>k_is);(case c55=>k_is);(case k55=>k_is);(case pg0=>k_is);(case hd0=>k_is);(case po0=>k_is);(case sa0=>k_is);(case mk0=>k_is)
  (case kc0=>k_is);(case n0_up=>k_is);(case n0_down=>k_is);(case n0_begin=>k_is);(case n0_run=>k_is);(case n0_rest=>k_is);(case n0_least=>k_is);(case n0_pieces=>k_is)
  (case ia0=>k_is);(case in0=>k_is);(case it0=>k_is);(case im0=>k_is);(case pg1=>k_is);(case hd1=>k_is);(case po1=>k_is);(case sa1=>k_is)
  (case mk1=>k_is);(case kc1=>k_is);(case n1_cap=>k_is);(case n1_into=>k_is);(case n1_out=>k_is);(case n1_takes=>k_is);(case n1_gives=>k_is);(case ia1=>k_is)
  (case in1=>k_is);(case it1=>k_is);(case im1=>k_is);(case pg2=>k_is);(case hd2=>k_is);(case po2=>k_is);(case sa2=>k_is);(case mk2=>k_is)
  (case kc2=>k_is);(case n2_machines=>k_is);(case n2_store=>k_is);(case n2_lack=>k_is);(case ia2=>k_is);(case in2=>k_is);(case it2=>k_is);(case im2=>k_is)
  (case aCR=>k_is);(case aBD=>k_is);(case aA5=>k_is);(case dO=>k_is);(case aBE=>k_is);(case cG=>k_is);(case iO=>k_is);(case jK=>k_is)
  (case w9=>k_is);(case uZ=>k_is);(case dZ=>k_is);(case lQ=>k_is);(case sQ=>k_is);(case aBF=>k_is);(case uL=>k_is);(case aCS=>k_is)
  (case gI=>k_is);(case eA=>k_is);(case gJ=>k_is);(case eB=>k_is)
 case hN0=>exact rfl
 case hY0=>exact λw h Y t ht=>PySem.W.km_tabs_of Y t (by revert t;decide)
 case hK0=>intro w;exact⟨by kernel_rfl,by kernel_rfl,by kernel_rfl,by kernel_rfl⟩
