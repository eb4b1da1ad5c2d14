import PyProof.Rows.All
import Wide.All
import OpenK.AllK
import Wide.FinOn
import Lean
import PyProof.EqAt
import PyProof.EqKinds
import PyProof.NeKinds
import PyProof.TupleCall
import KE.KDictSum
import KE.KSortTup
import KE.KLam
import KE.KNestM
import PyProof.DictItems
import PyProof.DictValues
import PyProof.Rows.TupDisplay
import PySem.Challenge.RW_stintwise_k78_whole_no_gap_where_all_is
set_option Elab.async false
set_option linter.all false
set_option maxRecDepth 100000
namespace PySem.W.Fast
def tw12082994046446462022:=()
def tw5978232708483003085:=()
def tw7829467242171792002:=()
def tw4519200076001767848:=()
def tw2077333416386214716:=()
def tw8534501528274672008:=()
def tw11255550814989922337:=()
def tw5774334746961697663:=()
def tw9328519943932527325:=()
def tw12431364945677028487:=()
def tw18187997227856265700:=()
def tw16975436724528130052:=()
def tw8783012146744057410:=()
def tw10257788521599393982:=()
def tw9063996360193345130:=()
def tw9265313918763377969:=()
def tw7615676565610056819:=()
def tw11171212957749215308:=()
def tw3763326649593219599:=()
def tw13262241687183936830:=()
def tw9466665959535481408:=()
def tw13955105214842342942:=()
def tw2319694411066659990:=()
def tw1103540019857465985:=()
def tw2961125570922863540:=()
def tw3385392471722172091:=()
def tw7855865470277153100:=()
def tw72525438591768716:=()
def tw13935579643696261708:=()
def tw8430099902930748693:=()
def tw9711236276268315465:=()
def tw11720419597723079815:=()
def tw15695456562739969849:=()
def tw6626875615978790175:=()
def tw17107708425215168850:=()
def tw14065773516350557841:=()
def tw13716306309073944311:=()
def tw17556595154339767910:=()
def tw12466933561019913103:=()
def tw13162577746839326907:=()
def tw11309172779108148376:=()
def tw12376262787431402565:=()
def tw17980584309990249669:=()
def tw14667364491364008438:=()
def tw8208146872689016273:=()
def tw4498722433290578279:=()
def tw9797805322069767053:=()
def tw6412821795812485051:=()
def tw11889439675977884339:=()
def tw14177494289344823901:=()
def tw12359400608485418468:=()
def tw2574111122268123712:=()
def tw7277108466417609021:=()
def tw16448310870487242456:=()
def tw15215637136208962831:=()
def tw15458888515990391399:=()
def tw7586274834833412825:=()
def tw15651428650379986311:=()
def tw1296679845746713959:=()
def tw14687390246028739437:=()
def tw10528780482847300924:=()
def tw9089471368508352480:=()
def tw9395520300920512021:=()
def tw6177871550293975152:=()
def tw7270768073979689356:=()
def tw9462997013647531678:=()
def tw10224201886584143039:=()
def tw10083249795396907051:=()
def tw8437645618902069169:=()
def tw14161346001497460128:=()
def tw856534224488087640:=()
def tw16151652327021032581:=()
def tw12233882606334127314:=()
def tw6227888113118289602:=()
def tw17143825344369113161:=()
def tw6961208656229593567:=()
def tw1523212799106581050:=()
def tw6140080662652641016:=()
def tw2144379427964386800:=()
def tw5858303464535075666:=()
def tw1108540159449992:=()
def tw14962884755798483971:=()
def tw9038759189503199641:=()
def tw14893611199856320568:=()
def tw18247296228733742744:=()
def tw7491734233093161942:=()
def tw15203242446496472602:=()
def tw2920876733741991113:=()
def tw8385943576045857308:=()
def tw15769031178397121590:=()
def tw2771517188104728766:=()
def tw6824435431772216145:=()
def tw16725477464972208225:=()
def tw12419761928568723223:=()
def tw673144217790298350:=()
def tw3104094635462183899:=()
def tw10086526104333409728:=()
def tw12777340477007674705:=()
def tw14984173825741193072:=()
def tw9325587926157517838:=()
def tw17944634731713855784:=()
def tw14041293880440839733:=()
def tw16474128170275320629:=()
def tw17985037964490642911:=()
def tw7527659294050114892:=()
def tw7045950954626811649:=()
def tw4646254288073007414:=()
def tw12459175158668419965:=()
def tw7664083950699171670:=()
def tw17464075495145378346:=()
def tw9770477723783740808:=()
def tw12752547990844718463:=()
def tw8402389000181130494:=()
def tw176027859749958963:=()
def tw1268192081438197423:=()
def tw9424217066357445602:=()
def tw6324517232017461076:=()
def tw8338321281866043923:=()
def tw7379349686684266402:=()
def tw18155174638213462125:=()
def tw4015480957188043894:=()
def tw4644433907985023526:=()
def tw16836745557304346113:=()
def tw4286394787523994492:=()
def tw12399881310918604930:=()
def tw16790992257264399873:=()
def tw16001074429345124080:=()
def tw8197334028860289190:=()
def tw16661318334244446914:=()
def tw7667868976508900007:=()
def tw16901708789607339838:=()
def tw7360385545983911663:=()
def tw18274303196449553681:=()
def tw322033568769736609:=()
def tw3434151540967985380:=()
def tw13473183383003294961:=()
def tw9605645198935124544:=()
def tw9447146194896788384:=()
def tw6679765335576307534:=()
def tw16484076731863712173:=()
def tw13944018390331359813:=()
def tw15954107726988930550:=()
def tw10481606647798531904:=()
def tw16211754331399171867:=()
def tw532734952591970124:=()
def tw13975880238207815108:=()
def tw4509953427274421764:=()
def tw13984947965780911265:=()
def tw5421267282742167528:=()
def tw8958185756642124722:=()
def tw1075116980766930756:=()
def tw9721542180112309299:=()
def tw4797324395206936853:=()
def tw1963643804651409226:=()
def tw11306716461525723471:=()
def tw5212853471849373533:=()
def tw2134227910270630379:=()
def tw17129017908307419080:=()
def tw12458716903195328084:=()
def tw6168045220516471352:=()
def tw17127921858029198534:=()
def tw11525147287164860259:=()
def tw14258144350591395951:=()
def tw6901815798434454395:=()
def tw13618399823022309193:=()
def tw14122823449086757016:=()
def tw7587945295363760568:=()
def tw12926440149431748484:=()
def tw12993925431138620448:=()
def tw15449141381196404297:=()
def tw1383884238138170341:=()
def tw2061338887295158667:=()
def tw18041295980765037451:=()
def tw15006116292491940464:=()
def tw10794567998989221835:=()
def tw18387340385783303278:=()
def tw5636590465330285835:=()
def tw13607773507516554585:=()
def tw11440970678955135524:=()
def tw11720158923232052224:=()
def tw7372576892342219543:=()
def tw14537189801496167526:=()
def tw14281580710907015097:=()
def tw11628234490577272249:=()
def tw10759734106813328537:=()
def tw17276420433345204517:=()
def tw10640103341320046046:=()
def tw7857408640117632996:=()
def tw15244885985348938203:=()
def tw849527650387892410:=()
def tw7929663876560282590:=()
def tw46568962002116121:=()
def tw15796430436548508643:=()
def tw6398960714970385966:=()
def tw1305703570696942320:=()
def tw14667306398767689034:=()
def tw4923059057149124639:=()
def tw6862525494500206630:=()
def tw12583723314231749023:=()
def tw9167925115401245396:=()
def tw8375702763433122202:=()
def tw11390558475700154303:=()
def tw7508982717600353665:=()
def tw12270165748602442200:=()
def tw9255020214823871218:=()
def tw11389959127311320009:=()
def tw15952236797389367397:=()
def tw13607776200303003668:=()
def tw12618952925728088304:=()
def tw16667369915617869952:=()
def tw12959934534181954748:=()
def tw5184393574990563388:=()
def tw16577102107148189753:=()
def tw15838486953743339017:=()
def tw6144819228304397745:=()
def tw18063160946629632323:=()
def tw17943957034562838089:=()
def tw3023951048277055353:=()
def tw17433121522830636163:=()
def tw8664014445126434839:=()
def tw5725664947362957994:=()
def tw7485928498906105519:=()
def tw3986601990287620869:=()
def tw9879796532332719032:=()
def tw6435135690736094091:=()
def tw2270494101437971537:=()
def tw4095044819328618019:=()
def tw16509471418563551570:=()
def tw1059049476857615654:=()
def tw12628940465157916925:=()
def tw3698636174895043473:=()
def tw4273837481819473010:=()
def tw15960730380606654745:=()
def tw14325109946882868942:=()
def tw843223722466214245:=()
def tw15409854100017121123:=()
def tw7274169760036517934:=()
def tw8908983643766748719:=()
def tw3324642500279631562:=()
def tw17618243546109028307:=()
def tw4641481042959633544:=()
def tw3522164160210452553:=()
def tw13835761263637171928:=()
def tw13542798309866680401:=()
def tw17343319329758301103:=()
def tw16853940499978706847:=()
def tw1617051650116780231:=()
def tw12296732551264821230:=()
def tw5267608398308178284:=()
def tw4423738858190847368:=()
def tw15556008071993952597:=()
def tw14384451389292336966:=()
def tw13388491943811233967:=()
def tw11410941269128540310:=()
def tw2569840186704821384:=()
def tw18173812740205096927:=()
def tw9321287985983891619:=()
def tw17128856168350552888:=()
def tw9977423879442846253:=()
def tw3282997148997511745:=()
def tw10999598293476561760:=()
def tw1472117127887007564:=()
def tw14126928379811667129:=()
def tw14009445847195394729:=()
def tw11356845383512099287:=()
def tw9476807620004896778:=()
def tw617015904991669165:=()
def tw17791633233808878292:=()
def tw14522809090448656507:=()
def tw7624334076910816159:=()
def tw10761056968525373594:=()
def tw2913334861885920567:=()
def tw14588516339798586232:=()
def tw6023150938479333107:=()
def tw11291905290124044774:=()
def tw7915374140968514866:=()
def tw12593913513479986547:=()
def tw9786535303095348893:=()
def tw2467239886936703507:=()
def tw2067289369871652877:=()
def tw8061170820197674451:=()
def tw4601451872399066385:=()
def tw10543291398596978957:=()
def tw18199558994291079888:=()
def tw6087387145325056346:=()
def tw15134408759592161485:=()
def tw16847184578499701068:=()
def tw13275346235399212766:=()
def tw11652804821356761733:=()
def tw10924285192609159495:=()
def tw12123259004425106314:=()
def tw7564514152571016481:=()
def tw14995639274093654032:=()
def tw3427152657046456202:=()
def tw4603534889018505720:=()
def tw3139873421104507396:=()
def tw16823027210883355881:=()
def tw1041279407378931853:=()
def tw7077926887129606982:=()
def tw9636263067501329533:=()
def tw15308671027905801953:=()
def tw13416058252929503399:=()
def tw7659720381876462538:=()
def tw229243838084754698:=()
def tw13471740903908342335:=()
def tw5357985960208719333:=()
def tw15452194139449913520:=()
def tw1126445154801527840:=()
def tw14669840615680321700:=()
def tw12223902626541973800:=()
def tw7470531567958642727:=()
def tw9121304077233370198:=()
def tw18268760371963880170:=()
def tw5416860211492901269:=()
end PySem.W.Fast
set_option maxHeartbeats 0
def bL:=@List.length_map
def eU:=@List.getElem?_eq_getElem
def fH:=@PySem.Heap.get?_push_of_some
def qM:=@List.getElem?_eq_some_iff
def oH:=@List.mem_of_getElem?
def mF:=@List.size_toArray
def eA:=@Nat.le_refl
def sI:=@List.length_append
def pG:=@List.getElem?_map
def tE:=@PySem.Heap.get?_push_size
def oA:=@List.map_append
def zE:=@List.mem_cons_of_mem
def j0:=@PySem.Heap.lt_size
def zF:=@Nat.lt_of_lt_of_le
def sZ:=@List.mem_cons
def Qp9:=@List.getD_eq_getElem?_getD
def Qq9:=@Bool.false_ne_true
def Qr9:=@List.mem_cons_self
def Qs9:=@List.getElem?_append_left
def Qt9:=@List.getElem?_append_right
def vP:=@Nat.ne_of_lt
def Qv9:=@List.take_length
def Qw9:=@Option.map_eq_some_iff
def Qx9:=@List.length_cons
def Qy9:=@List.mem_map
def Qz9:=@List.length_take
def Ra9:=@List.mem_append_right
def Rb9:=@List.mem_singleton
def Rc9:=@List.length_singleton
def Rd9:=@List.map_cons
def Re9:=@Int.mul_le_mul_of_nonneg_left
def Rf9:=@List.lookup_cons
def Rg9:=@Array.length_toList
def Rh9:=@List.getElem?_of_mem
def Ri9:=@PySem.Heap.size_push
def Rj9:=@List.not_mem_nil
def Rk9:=@List.mem_append
def Rl9:=@Nat.zero_le
def Rm9:=@Int.toNat_natCast
def Rn9:=@List.nodup_cons
def Ro9:=@List.getElem?_eq_none
def Rp9:=@Bool.and_eq_true
def Rq9:=@List.take_add_one
def Rr9:=@Nat.le_trans
def Rs9:=@Nat.lt_irrefl
def Rt9:=@List.append_nil
def Ru9:=@List.map_map
def Rv9:=@Int.le_trans
def Rw9:=@List.take_of_length_le
def Rx9:=@Int.le_refl
def Ry9:=@List.mem_range
def Rz9:=@Int.mul_nonneg
def Sa9:=@List.find?_cons
def Sb9:=@Bool.false_eq_true
def Sc9:=@List.getElem_mem
def Sd9:=@Nat.ne_of_gt
def Se9:=@Nat.lt_succ_of_lt
def Sf9:=@List.filterMap_cons
def Sg9:=@List.replicate_succ
def Sh9:=@PySem.Heap.get?_update_self
def Si9:=@Int.add_zero
def Sj9:=@Bool.false_and
def Sk9:=@List.drop_eq_getElem_cons
def Sl9:=@List.mem_append_left
def Sm9:=@List.mem_filter
def Sn9:=@Bool.true_and
def So9:=@Int.emod_lt_of_pos
def Sp9:=@Nat.sub_self
def Sq9:=@Int.mul_zero
def Sr9:=@Array.perm_iff_toList_perm
def Ss9:=@List.getElem_toArray
def St9:=@Array.getElem?_eq_getElem
def Su9:=@PySem.Heap.size_update
def Sv9:=@List.map_congr_left
def Sw9:=@List.length_reverse
def Sx9:=@List.length_pos_iff
def Sy9:=@Nat.le_of_lt
def Sz9:=@Int.zero_mul
def Ta9:=@List.getElem?_replicate
def Tb9:=@List.any_cons
def Tc9:=@Nat.not_lt_zero
def Td9:=@Int.emod_nonneg
def Te9:=@PySem.Heap.get?_update_other
def Tf9:=@List.flatten_cons
def Tg9:=@List.append_assoc
def Th9:=@PySem.Heap.get?_push_ne
def Ti9:=@List.ext_getElem?
def Tj9:=@List.pairwise_map
def Tk9:=@List.map_nil
def Tl9:=@Array.getElem?_toList
def Tm9:=@Nat.lt_succ_self
def Tn9:=@List.length_drop
def To9:=@List.all_eq_true
def Tp9:=@List.of_mem_zip
def Tq9:=@List.length_set
def Tr9:=@List.length_nil
def Ts9:=@Int.mul_sub
def Tt9:=@List.sum_append
def Tu9:=@Nat.le_of_eq
namespace L2
open PySem PySem.Spec PyProof.Rows
abbrev Key:=Sum Int Str
def aFt:Key->Value->Bool
 |.inl k,v=>Value.isInt k v
 |.inr x,v=>Value.isStrOf x v
def aRO(w:World):Key->Int
 |.inl k=>hashInt k
 |.inr x=>hashStr w x
theorem eK:∀{k:Key}{v:Value},aFt k v=true->(∃i t,k=Sum.inl i/\v=Value.int i t)\/(∃x t,k=Sum.inr x/\v=Value.str x t)
 |.inl i,v,h=>by
  obtain⟨t,e⟩:=Value.isInt_shape (k:=i) (v:=v) h
  exact .inl ⟨i,t,rfl,e⟩
 |.inr x,v,h=>by
  obtain⟨t,e⟩:=Value.isStrOf_shape (x:=x) (v:=v) h
  exact .inr ⟨x,t,rfl,e⟩
theorem aKe(i:Int)(t:Tok):aFt (.inl i) (.int i t)=true:=by simp[aFt,Value.isInt]
theorem aKf(x:Str)(t:Tok):aFt (.inr x) (.str x t)=true:=by simp[aFt,Value.isStrOf]
theorem aPf(a b:Int):decide ((Sum.inl a:Key)=Sum.inl b)=(a == b):=by
 by_cases e:a=b
 ·subst e;simp
 ·have h:¬(Sum.inl a:Key)=Sum.inl b:=λq=>e (Sum.inl.inj q)
  rw[decide_eq_false h]
  exact(beq_eq_false_iff_ne.mpr e).symm
theorem aPg(a b:Str):decide ((Sum.inr a:Key)=Sum.inr b)=decide (a=b):=by
 by_cases e:a=b
 ·subst e;simp
 ·have h:¬(Sum.inr a:Key)=Sum.inr b:=λq=>e (Sum.inr.inj q)
  rw[decide_eq_false h,decide_eq_false e]
theorem aPh(a:Int)(b:Str):decide ((Sum.inl a:Key)=Sum.inr b)=false:=decide_eq_false (λq=>nomatch q)
theorem aPi(a:Str)(b:Int):decide ((Sum.inr a:Key)=Sum.inl b)=false:=decide_eq_false (λq=>nomatch q)
def eM(prog:Program)(w:World):PySem.KeyKind prog w Key where
 is:=aFt
 hash:=aRO w
 inj:=λv a b ha hb=>by
  rcases eK ha with ⟨i,t,rfl,rfl⟩|⟨x,t,rfl,rfl⟩
  ·rcases eK hb with ⟨j,u,rfl,e⟩|⟨y,u,rfl,e⟩
   ·injection e with e1 _;rw[e1]
   ·exact nomatch e
  ·rcases eK hb with ⟨j,u,rfl,e⟩|⟨y,u,rfl,e⟩
   ·exact nomatch e
   ·injection e with e1 _;rw[e1]
 byValue:=λk v h=>by
  rcases eK h with ⟨i,t,rfl,rfl⟩|⟨x,t,rfl,rfl⟩ <;> rfl
 pyHash:=λhv h=>by
  rcases eK hv with ⟨i,t,rfl,rfl⟩|⟨x,t,rfl,rfl⟩
  ·exact wpAny_pyHash_int h
  ·exact wpAny_pyHash_str h
 eqBool:=λhu hv h=>by
  rcases eK hu with ⟨i,t,rfl,rfl⟩|⟨x,t,rfl,rfl⟩
  ·rcases eK hv with ⟨j,u,rfl,rfl⟩|⟨y,u,rfl,rfl⟩
   ·rw[aPf] at h;exact wpAny_eqBool_int h
   ·rw[aPh] at h;exact SeqAt.EqAt.int_str i t y u _ _ _ _ h
  ·rcases eK hv with ⟨j,u,rfl,rfl⟩|⟨y,u,rfl,rfl⟩
   ·rw[aPi] at h;exact SeqAt.EqAt.str_int x t j u _ _ _ _ h
   ·rw[aPg] at h;exact wpAny_eqBool_str h
 «strs»:=λk x t v h=>by
  rcases eK h with ⟨i,u,rfl,e⟩|⟨y,u,rfl,e⟩
  ·exact nomatch e
  ·injection e with e1 _
   subst e1
   cases v <;> rfl
theorem aHj(prog:Program)(w:World)(i:Int)(t:Tok):(eM prog w).is (.inl i) (.int i t)=true:=aKe i t
theorem aHk(prog:Program)(w:World)(x:Str)(t:Tok):(eM prog w).is (.inr x) (.str x t)=true:=aKf x t
end L2
namespace L2
open PySem PySem.Spec PyProof.Rows
inductive V where
 |non|bl (b:Bool)|int (i:Int)|str (x:Str)|byt (b:Array UInt8)|flt (b:UInt64)|ref (a:Addr)|ty (n:String)
 deriving DecidableEq
def RelV:V->Value->Prop
 |.non,u=>u=Value.none
 |.bl b,u=>u=Value.bool b
 |.int i,u=>∃t,u=Value.int i t
 |.str x,u=>∃t,u=Value.str x t
 |.byt b,u=>∃t,u=Value.bytes b t
 |.flt b,u=>∃t,u=Value.float b t
 |.ref a,u=>u=Value.ref a
 |.ty n,u=>u=Value.type n
abbrev Vals:List V->List Value->Prop:=Paired RelV
theorem Vals.length{xs:List V}{us:List Value}(r:Vals xs us):xs.length=us.length:=Paired.length r
theorem Vals.get:∀{xs:List V}{us:List Value}{i:Nat}{x:V},Vals xs us->xs[i]?=some x->∃u,us[i]?=some u/\RelV x u
 |_,_,_,_,.nil,e=>by simp at e
 |_,_,0,_,.cons r _,e=>by simp at e;subst e;exact⟨_,rfl,r⟩
 |_,_,i+1,x,.cons _ t,e=>by
  obtain⟨u,h1,h2⟩:=Vals.get (i:=i) (x:=x) t (by simpa using e)
  exact⟨u,by simpa using h1,h2⟩
theorem Vals.set(r:RelV x u):∀{xs:List V}{us:List Value}(i:Nat),Vals xs us->Vals (xs.set i x) (us.set i u)
 |_,_,_,.nil=>.nil
 |_,_,0,.cons _ t=>.cons r t
 |_,_,i+1,.cons q t=>.cons q (Vals.set r i t)
theorem Vals.append:∀{xs ys:List V}{us ws:List Value},Vals xs us->Vals ys ws->Vals (xs++ys) (us++ws)
 |_,_,_,_,.nil,s=>s
 |_,_,_,_,.cons r t,s=>.cons r (Vals.append t s)
theorem Vals.take:∀{xs:List V}{us:List Value}(n:Nat),Vals xs us->Vals (xs.take n) (us.take n)
 |_,_,0,_=>.nil
 |_,_,_+1,.nil=>.nil
 |_,_,n+1,.cons r t=>.cons r (Vals.take n t)
theorem Vals.drop:∀{xs:List V}{us:List Value}(n:Nat),Vals xs us->Vals (xs.drop n) (us.drop n)
 |_,_,0,r=>r
 |_,_,_+1,.nil=>.nil
 |_,_,n+1,.cons _ t=>Vals.drop n t
def vY:Option V->Option Value->Prop
 |some v,some u=>RelV v u
 |none,none=>True
 |_,_=>False
def KV{κ:Type}:List (κ×V)->List (κ×Value)->Prop:=Paired λ(p:κ×V) (q:κ×Value)=>p.1=q.1/\RelV p.2 q.2
def kV:Key->V
 |.inl i=>.int i
 |.inr x=>.str x
inductive HO where
 |lst (xs:List V)
 |tup (xs:List V)
 |dK (kvs:List (Key×V))|dT (kvs:List (List Key×V))
 |set (S:Int->Bool) (n:Nat)
 |ins (C dx:Addr) (fs:List (Str×V))
 |own (x:Addr)
 |xd (fs:List (Str×V))
 |met (f x:Addr)
 |rng (lo hi:Int)
 |frz (o:Obj) (u:HO)
 |tbl (ps:Array Value)
 |ext (φ:Heap->Prop)
 |cod (q:Str)|ctb (pos:Pos) (q:Str)
def Sty:HO->Prop
 |.tup _=>True
 |.cod _=>True
 |_=>False
abbrev Hp:=Addr->Option HO
def upd(H:Hp)(a:Addr)(o:HO):Hp:=λb=>if b=a then some o else H b
theorem aP:upd H a o a=some o:=by unfold upd;rw[if_pos rfl]
theorem aW{H:Hp}(h:b≠a):upd H a o b=H b:=by unfold upd;rw[if_neg h]
theorem uI:upd (upd H a o) a u=upd H a u:=by
 funext b;unfold upd;split <;> rfl
theorem aOU{H:Hp}{a b:Addr}{o u:HO}(h:H a=some o)(h':H b=some u)(d:o≠u):a≠b:=by
 intro e;subst e;rw[h] at h';exact d (Option.some.inj h')
theorem bG{H:Hp}{a b:Addr}{o:HO}(h:H a=some o)(h':H b=none):a≠b:=by
 intro e;subst e;rw[h] at h';cases h'
section
variable(P:Program)(w:World)
def cD(H:Hp)(h:Heap)(a:Addr):HO->Prop
 |.lst xs=>xs.length<=sizeLine/\∃(its:List Value) (n:Nat),Vals xs its/\h.get? a=some { cls:=.type "list",data:=.seq its.toArray n }
 |.tup xs=>xs.length<=sizeLine/\∃its:List Value,Vals xs its/\IsTup h a its.toArray
 |.dK kvs=>kvs.length<=sizeLine/\(a == sysModules)=false/\∃vs,KV kvs vs/\h.DictOf (eM P w) a vs
 |.dT kvs=>kvs.length<=sizeLine/\(a == sysModules)=false/\∃xs:List (List Key×Addr×Value),
   Paired (λ(p:List Key×V) (q:List Key×Addr×Value)=>p.1=q.1/\H q.2.1=some (.tup (p.1.map kV))/\RelV p.2 q.2.2) kvs xs/\
   ∃o es ep,h.get? a=some o/\o.ExactDict/\o.data=.dict es ep/\es.toList=xs.map (entryOfKey (tupleKind (eM P w)))/\(xs.map (·.1)).Nodup
 |.set S n=>h.SetOf (intKind P w) a S n
 |.ins C dx fs=>H dx=some (.own a)/\fs.length<=1000/\dx≠a/\h.get? a=some (PySem.W.instObj C dx)/\
   ∃mA,h.Ns1 dx mA/\(∀f,vY (fs.lookup f) (mA f))/\PySem.Within mA (fs.map (·.1))
 |.own _=>∃o,h.get? a=some o
 |.xd fs=>∃mA,h.Ns1 a mA/\∀f,vY (fs.lookup f) (mA f)
 |.rng lo hi=>∃t u v,h.get? a=some { cls:=.type "range",data:=.fields #[.int lo t,.int hi u,.int 1 v] }
 |.frz o u=>h.get? a=some o/\cD H h a u
 |.tbl ps=>h.get? a=some { cls:=.none,data:=.fields ps }
 |.met f x=>h.get? a=some (PySem.W.methodObj (.ref f) (.ref x))
 |.ext φ=>φ h/\(∃o,h.get? a=some o)/\∀h1 h2:Heap,φ h1->(∀o,h1.get? a=some o->h2.get? a=some o)->φ h2
 |.cod q=>∃o vs t,h.get? a=some o/\o.data=.fields vs/\vs[1]?=some (.str q t)
 |.ctb pos q=>∃ps:Array Value,h.get? a=some { cls:=.none,data:=.fields ps }/\TriplesOk ps.toList/\(codeAmong pos ps.toList=none\/∃c,codeAmong pos ps.toList=some (.ref c)/\H c=some (.cod q))
def vZ(H:Hp)(h:Heap):Prop:=∀a o,H a=some o->cD P w H h a o
end
section
variable{P:Program}{w:World}{H H':Hp}{h h':Heap}{a:Addr}{o:HO}
theorem cD.lt(x:cD P w H h a o):a < h.objs.size:=by
 cases o with
 |lst xs=>obtain⟨_,_,_,_,e⟩:=x;exact j0 e
 |tup xs=>obtain⟨_,_,_,p⟩:=x;exact p.lt
 |dK kvs=>obtain⟨_,_,_,_,o,_,_,e,_⟩:=x;exact j0 e
 |dT kvs=>obtain⟨_,_,_,_,o,_,_,e,_⟩:=x;exact j0 e
 |set S n=>obtain⟨o,_,_,_,e,_⟩:=x;exact j0 e
 |ins C dx fs=>obtain⟨_,_,_,e,_⟩:=x;exact j0 e
 |own y=>obtain⟨_,e⟩:=x;exact j0 e
 |xd fs=>obtain⟨_,⟨_,_,_,e,_⟩,_⟩:=x;exact j0 e
 |rng lo hi=>obtain⟨_,_,_,e⟩:=x;exact j0 e
 |frz ob u=>obtain⟨e,_⟩:=x;exact j0 e
 |tbl ps=>exact j0 (show h.get? a=some _ from x)
 |met f y=>exact j0 (show h.get? a=some _ from x)
 |ext φ=>obtain⟨_,⟨_,e⟩,_⟩:=x;exact j0 e
 |cod q=>obtain⟨_,_,_,e,_⟩:=x;exact j0 e
 |ctb pos q=>obtain⟨_,e,_⟩:=x;exact j0 e
theorem Paired.aPj{α β:Type}{F G:α->β->Prop}:∀{l₁:List α}{l₂:List β},Paired F l₁ l₂->(∀a b,F a b->G a b)->Paired G l₁ l₂
 |_,_,.nil,_=>.nil
 |_,_,.cons r t,f=>.cons (f _ _ r) (Paired.aPj t f)
theorem cD.aCJ(x:cD P w H h a o)(k:∀b u,(b=a\/H b=some (.own a))->h.get? b=some u->h'.get? b=some u)
  (ho:∀b,H b=some (.own a)->H' b=some (.own a)) (ht:∀b u,Sty u->H b=some u->H' b=some u):cD P w H' h' a o:=by
 induction o with
 |lst xs=>obtain⟨z,its,n,r,e⟩:=x;exact⟨z,its,n,r,k _ _ (.inl rfl) e⟩
 |tup xs=>obtain⟨z,its,r,ob,e,c⟩:=x;exact⟨z,its,r,ob,k _ _ (.inl rfl) e,c⟩
 |dK kvs=>obtain⟨z,y,vs,r,ob,es,ep,e,c⟩:=x;exact⟨z,y,vs,r,ob,es,ep,k _ _ (.inl rfl) e,c⟩
 |dT kvs=>
  obtain⟨z,y,xs,r,ob,es,ep,e,c⟩:=x
  exact⟨z,y,xs,Paired.aPj r λp q z=>⟨z.1,ht _ _ trivial z.2.1,z.2.2⟩,ob,es,ep,k _ _ (.inl rfl) e,c⟩
 |set S n=>obtain⟨ob,es,ep,t,e,c⟩:=x;exact⟨ob,es,ep,t,k _ _ (.inl rfl) e,c⟩
 |ins C dx fs=>
  obtain⟨d,z,ne,e,mA,⟨od,es,ep,e2,c⟩,r⟩:=x
  exact⟨ho _ d,z,ne,k _ _ (.inl rfl) e,mA,⟨od,es,ep,k _ _ (.inr d) e2,c⟩,r⟩
 |own y=>obtain⟨ob,e⟩:=x;exact⟨ob,k _ _ (.inl rfl) e⟩
 |xd fs=>obtain⟨mA,⟨od,es,ep,e,c⟩,r⟩:=x;exact⟨mA,⟨od,es,ep,k _ _ (.inl rfl) e,c⟩,r⟩
 |rng lo hi=>obtain⟨t,u,v,e⟩:=x;exact⟨t,u,v,k _ _ (.inl rfl) e⟩
 |frz ob u ih=>obtain⟨e,q⟩:=x;exact⟨k _ _ (.inl rfl) e,ih q⟩
 |tbl ps=>
  have e:h.get? a=some { cls:=.none,data:=.fields ps }:=x
  show h'.get? a=some { cls:=.none,data:=.fields ps }
  exact k a _ (.inl rfl) e
 |met f y=>
  have e:h.get? a=some (PySem.W.methodObj (.ref f) (.ref y)):=x
  show h'.get? a=some (PySem.W.methodObj (.ref f) (.ref y))
  exact k a _ (.inl rfl) e
 |ext φ=>obtain⟨p,⟨o,e⟩,st⟩:=x;exact⟨st _ _ p λo q=>k _ _ (.inl rfl) q,⟨o,k _ _ (.inl rfl) e⟩,st⟩
 |cod q=>obtain⟨o,vs,t,e,r⟩:=x;exact⟨o,vs,t,k _ _ (.inl rfl) e,r⟩
 |ctb pos q=>
  obtain⟨ps,e,t,c⟩:=x
  refine⟨ps,k _ _ (.inl rfl) e,t,?_⟩
  rcases c with c|⟨c,e1,e2⟩
  ·exact .inl c
  ·exact .inr ⟨c,e1,ht _ _ trivial e2⟩
theorem vZ.lt(x:vZ P w H h)(e:H a=some o):a < h.objs.size:=(x a o e).lt
theorem vZ.fresh(x:vZ P w H h)(e:h.objs.size<=a):H a=none:=by
 cases q:H a with
 |none=>rfl
 |some u=>exact absurd (zF (x.lt q) e) (Rs9 _)
theorem vZ.kept(x:vZ P w H h)(k:∀b u,h.get? b=some u->h'.get? b=some u):vZ P w H h':=λa o e=>
 (x a o e).aCJ (λb u _ q=>k b u q) (λ_ q=>q) λ_ _ _ q=>q
theorem vZ.laid(x:vZ P w H h)(k:∀b u,h.get? b=some u->h'.get? b=some u)(hp:h.objs.size<=a)(new:cD P w (upd H a o) h' a o):vZ P w (upd H a o) h':=λb u e=>by
 have hn:=x.fresh hp
 by_cases hb:b=a
 ·subst hb;rw[aP] at e;cases e;exact new
 ·rw[aW hb] at e
  exact(x b u e).aCJ (λc v _ q=>k c v q) (λc q=>by rw[aW (bG q hn)];exact q) λc xs _ q=>by rw[aW (bG q hn)];exact q
end
def Rd(H:Hp)(a:Addr)(u:HO):Prop:=H a=some u\/∃o,H a=some (.frz o u)
theorem Rd.of{H:Hp}{a:Addr}{u:HO}(h:H a=some u):Rd H a u:=.inl h
theorem Rd.ok(r:Rd H a u)(x:vZ P w H h):cD P w H h a u:=by
 rcases r with r|⟨o,r⟩
 ·exact x a u r
 ·obtain⟨_,q⟩:=x a _ r
  exact q
def Mut:Option HO->Prop
 |some (.lst _)=>True
 |some (.dK _)=>True
 |some (.dT _)=>True
 |some (.set _ _)=>True
 |some (.ins _ _ _)=>True
 |some (.ext _)=>True
 |_=>False
section
variable{P:Program}{w:World}{H:Hp}{h h':Heap}{x e:Addr}{o':HO}
theorem vZ.write(ok:vZ P w H h)(mu:Mut (H x))(he:e=x\/H e=some (.own x))(k:∀b u,b≠e->h.get? b=some u->h'.get? b=some u)(heo:∃u,h'.get? e=some u)
  (new:cD P w (upd H x o') h' x o'):vZ P w (upd H x o') h':=λb u q=>by
 have nown:∀c y,H c=some (.own y)->c≠x:=λc y r z=>by subst z;rw[r] at mu;exact mu
 have aLb:∀c u,Sty u->H c=some u->c≠x:=λc u y r z=>by
  subst z
  rw[r] at mu
  cases u <;> first|exact mu|exact y
 by_cases hb:b=x
 ·subst hb;rw[aP] at q;cases q;exact new
 ·rw[aW hb] at q
  by_cases hbe:b=e
  ·have q':H b=some (.own x):=by
    rcases he with z|z
    ·exact absurd (hbe.trans z) hb
    ·rw[hbe];exact z
   rw[q] at q';cases q'
   obtain⟨v,hv⟩:=heo
   exact⟨v,by rw[hbe];exact hv⟩
  ·refine(ok b u q).aCJ (λc v hc r=>k c v ?_ r) (λc r=>by rw[aW (nown c b r)];exact r) λc xs y r=>by rw[aW (aLb c xs y r)];exact r
   rcases hc with rfl|hc
   ·exact hbe
   ·rintro rfl
    rcases he with z|z
    ·exact nown c b hc z
    ·rw[hc] at z;cases z;exact hb rfl
end
structure Un(fs ex:List Addr)(H H':Hp)(h h':Heap):Prop where
 keep:∀b o,h.get? b=some o->H b=none->b∉fs->b∉ex->h'.get? b=some o
 slot:∀b o,h.get? b=some o->H b=none->b∈fs->b∉ex->∃sl,h'.get? b=some { o with slots:=sl }
 free:∀b o,h.get? b=some o->H b=none->b∉ex->H' b=none
 there:∀b o,h.get? b=some o->b∉ex->∃o',h'.get? b=some o'
 v3:∀b xs,H b=some (.tup xs)->H' b=some (.tup xs)
 frzs:∀b o u,H b=some (.frz o u)->H' b=some (.frz o u)
 tbls:∀b ps,H b=some (.tbl ps)->∃more,H' b=some (.tbl (ps++more))
section
variable{fs fs' ex ex':List Addr}{H H1 H2:Hp}{h h1 h2 h':Heap}{a x e:Addr}{o:HO}
theorem Un.any(u:Un fs ex H H1 h h1)(q:h.get? b=some ob)(n:H b=none)(hx:b∉ex):∃sl,h1.get? b=some { ob with slots:=sl }:=by
 by_cases hb:b∈fs
 ·exact u.slot b ob q n hb hx
 ·exact⟨ob.slots,u.keep b ob q n hb hx⟩
theorem Un.trans(a:Un fs ex H H1 h h1)(b:Un fs ex H1 H2 h1 h2):Un fs ex H H2 h h2 where
 keep:=λc ob q n hc hx=>b.keep c ob (a.keep c ob q n hc hx) (a.free c ob q n hx) hc hx
 slot:=λc ob q n hc hx=>by
  obtain⟨sl,e1⟩:=a.slot c ob q n hc hx
  obtain⟨sl',e2⟩:=b.slot c _ e1 (a.free c ob q n hx) hc hx
  exact⟨sl',e2⟩
 free:=λc ob q n hx=>by
  obtain⟨o',e1⟩:=a.there c ob q hx
  exact b.free c o' e1 (a.free c ob q n hx) hx
 there:=λc ob q hx=>by
  obtain⟨o',e1⟩:=a.there c ob q hx
  exact b.there c o' e1 hx
 v3:=λc xs q=>b.v3 c xs (a.v3 c xs q)
 frzs:=λc ob xs q=>b.frzs c ob xs (a.frzs c ob xs q)
 tbls:=λc ps q=>by
  obtain⟨m1,e1⟩:=a.tbls c ps q
  obtain⟨m2,e2⟩:=b.tbls c _ e1
  exact⟨m1++m2,by rw[e2,Array.append_assoc]⟩
theorem Un.kept(k:∀b u,h.get? b=some u->h'.get? b=some u):Un fs ex H H h h':=
 ⟨λb ob q _ _ _=>k b ob q,λb ob q _ _ _=>⟨ob.slots,k b ob q⟩,λ_ _ _ n _=>n,λb ob q _=>⟨ob,k b ob q⟩,λ_ _ q=>q,λ_ _ _ q=>q,λ_ ps q=>⟨#[],by rw[q];simp⟩⟩
theorem Un.refl:Un fs ex H H h h:=Un.kept λ_ _ q=>q
theorem Un.laid(k:∀b u,h.get? b=some u->h'.get? b=some u)(hp:h.objs.size<=a)(hn:H a=none):Un fs ex H (upd H a o) h h' where
 keep:=λb u q _ _ _=>k b u q
 slot:=λb u q _ _ _=>⟨u.slots,k b u q⟩
 free:=λb u q n _=>by rw[aW (vP (zF (j0 q) hp))];exact n
 there:=λb u q _=>⟨u,k b u q⟩
 v3:=λb xs q=>by rw[aW (bG q hn)];exact q
 frzs:=λb u xs q=>by rw[aW (bG q hn)];exact q
 tbls:=λb ps q=>⟨#[],by rw[aW (bG q hn),q];simp⟩
theorem Un.write(mu:Mut (H x))(he:e=x\/H e=some (.own x))(k:∀b u,b≠e->h.get? b=some u->h'.get? b=some u)(heo:∃u,h'.get? e=some u):Un fs ex H (upd H x o) h h':=by
 have hx:∀b,H b=none->b≠x:=λb n z=>by subst z;rw[n] at mu;exact mu
 have hb:∀b,H b=none->b≠e:=λb n z=>by
  subst z
  rcases he with r|r
  ·exact hx b n r
  ·rw[n] at r;cases r
 have hm:∀b u,H b=some u->¬Mut (some u)->b≠x:=λb u q nm z=>by subst z;rw[q] at mu;exact nm mu
 refine⟨λb u q n _ _=>k b u (hb b n) q,λb u q n _ _=>⟨u.slots,k b u (hb b n) q⟩,λb u q n _=>by rw[aW (hx b n)];exact n,λb u q _=>?_,
  λb xs q=>by rw[aW (hm b _ q λz=>z)];exact q,λb u xs q=>by rw[aW (hm b _ q λz=>z)];exact q,λb ps q=>⟨#[],by rw[aW (hm b _ q λz=>z),q];simp⟩⟩
 by_cases hbe:b=e
 ·subst hbe;exact heo
 ·exact⟨u,k b u hbe q⟩
end
def trk(h:Heap)(H:Hp):List Addr:=(List.range h.objs.size).filter λa=>(H a).isSome
def zG(h:Heap)(H:Hp):Heap:=PySem.W.hideAll h (trk h H)
theorem aFu(h:Heap)(H:Hp):(zG h H).objs.size=h.objs.size:=PySem.W.hideAll_size _ _
theorem aHl{h:Heap}(e:h.get? b=some o)(n:H b=none):(zG h H).get? b=some o:=
 PySem.W.hideAll_get _ e λhm=>by
  have q:(H b).isSome=true:=(Sm9.mp hm).2
  rw[n] at q;simp at q
theorem aJs{h:Heap}{H:Hp}(e:(zG h H).get? b=some o):h.get? b=some o/\H b=none:=by
 have e':h.get? b=some o:=PySem.W.of_hideAll (trk h H) e
 refine⟨e',?_⟩
 cases q:H b with
 |none=>rfl
 |some x=>
  have hm:b∈trk h H:=Sm9.mpr ⟨Ry9.mpr (j0 e'),by simp[q]⟩
  have z:(zG h H).get? b=none:=PySem.W.hideAll_none (trk h H) hm
  rw[z] at e;cases e
def aNo(g h:Heap)(L:Addr):List (Addr×Obj):=(List.range h.objs.size).filterMap λa=>if a=L\/(g.get? a).isSome=true then none else (h.get? a).map λo=>(a,o)
def rest(g h:Heap)(L d:Addr):List (Addr×Obj):=(aNo g h L).filter λp=>decide (p.1≠d)
end L2
namespace L2
open PySem PySem.Spec PyProof.Rows
structure Mod(K:W.Frag)(mg:Str->Option Value)(base:Heap):Prop where
 kin:K.In base
 glob:base.Ns mainGlobals mg
 blt:∃mb,base.Ns builtinsNs mb/\∀x:Str,x≠"__name__"->mb x=bootBuiltins x
 nolimit:base.NoLimit
 bm:∃bm o,mg "__builtins__" = some (.ref bm)/\bm≠builtinsNs/\base.get? bm=some o/\o.cls=.type "module"/\o.dict=some builtinsNs/\o.data=.plain
structure Cx where
 prog:Program
 w:World
 K:W.Frag
 mg:Str->Option Value
 base:Heap
 A:Around
 N:List Str
 s₀:Shared
 H₀:Hp
 env:Env
 outer:List Env
 stack:List Env
 ex:List Addr
 fn:Str->Bool
 calm:Bool
 pn:List (Addr×Obj)
 xe:Value->Shared->Prop
def frs(l:List Env):List Addr:=l.filterMap (·.frame)
abbrev Cx.fs(X:Cx):List Addr:=frs X.outer
def Vis(sc:Scope)(x:Str):Prop:=sc.names.lookup x=some .local\/sc.names.lookup x=some .cell\/sc.names.lookup x=some .free
def Loc(sc:Scope)(x:Str):Prop:=sc.names.lookup x=some .local\/sc.names.lookup x=some .cell
def Look(env:Env)(h:Heap)(m:Str->Option Value)(x:Str)(u:Value):Prop:=
 (env.kindOf x=some .local/\m x=some u)\/((env.kindOf x=some .cell\/env.kindOf x=some .free)/\∃c,env.cells.lookup x=some c/\h.IsCell c (some u))
structure Cx.Ok(X:Cx):Prop where
 mod:Mod X.K X.mg X.base
 kind:X.env.scope.kind=.function
 glob:X.env.globals=mainGlobals
 blt:X.env.builtins=builtinsNs
 above:X.s₀.heap.objs.size<=X.env.locals
 inj:∀x y c,X.env.cells.lookup x=some c->X.env.cells.lookup y=some c->x=y
 has:∀x,(X.env.kindOf x=some .cell\/X.env.kindOf x=some .free)->∃c,X.env.cells.lookup x=some c
 cab:∀x c,X.fn x=true->X.env.cells.lookup x=some c->X.s₀.heap.objs.size<=c
 hd:X.calm=true->X.A.handled=none
 frames:X.A.frames=some X.stack
 stk:X.stack=X.outer\/(X.stack=X.env::X.outer/\X.env.frame=some X.env.locals)
 exf:∀b∈X.ex,b≠X.env.locals/\∀x c,X.env.cells.lookup x=some c->c≠b
 bs:∀b o,X.base.get? b=some o->X.s₀.heap.get? b=some o/\X.H₀ b=none
 bsz:X.base.objs.size<=X.s₀.heap.objs.size
 noex:∀b o,X.base.get? b=some o->b∉X.ex
 exfs:∀b∈X.ex,b∉X.fs
 zH:X.s₀.heap.FunFrames X.base X.outer
 frf:∀b∈X.fs,X.H₀ b=none
structure Inv(X:Cx)(pins:List (Addr×Obj))(σ:List (Option V))(H:Hp)(s:Shared):Prop where
 ok:X.Ok
 os:s.os=X.s₀.os
 bare:AllBare s.gens
 base:Un X.fs X.ex X.H₀ H X.s₀.heap s.heap
 loc:∃m,s.heap.Ns X.env.locals m/\∀(i:Nat) (x:Str) (v:V),X.N[i]?=some x->σ[i]?=some (some v)->Vis X.env.scope x->∃u,RelV v u/\Look X.env s.heap m x u
 cell:∀x c,X.env.cells.lookup x=some c->∃v,s.heap.IsCell c v
 free:H X.env.locals=none
 freeC:∀x c,X.env.cells.lookup x=some c->H c=none
 pin:∀p∈X.pn++pins,s.heap.get? p.1=some p.2/\H p.1=none/\p.1≠X.env.locals/\p.1∉X.fs/\∀v,p.2.data≠.cell v
 hok:vZ X.prog X.w H s.heap
 len:σ.length=X.N.length
section
variable{X:Cx}{pins:List (Addr×Obj)}{σ:List (Option V)}{H H':Hp}{s:Shared}{h':Heap}
theorem Cx.Ok.aRP(ok:X.Ok)(e:X.base.get? b=some o):b∉X.fs:=λhb=>by
 have:=(ok.zH.mem hb).1
 rw[e] at this;cases this
theorem Inv.bs(I:Inv X pins σ H s):∀b o,X.base.get? b=some o->s.heap.get? b=some o/\H b=none:=λb o e=>
 ⟨I.base.keep b o (I.ok.bs b o e).1 (I.ok.bs b o e).2 (I.ok.aRP e) (I.ok.noex b o e),I.base.free b o (I.ok.bs b o e).1 (I.ok.bs b o e).2 (I.ok.noex b o e)⟩
theorem Inv.bk(I:Inv X pins σ H s):∀b o,X.base.get? b=some o->s.heap.get? b=some o:=λb o e=>(I.bs b o e).1
theorem Inv.mod(I:Inv X pins σ H s):Mod X.K X.mg X.base:=I.ok.mod
theorem Inv.kIn(I:Inv X pins σ H s):X.K.In s.heap:=I.ok.mod.kin.keeps I.bk
theorem Inv.lt(I:Inv X pins σ H s):X.env.locals < s.heap.objs.size:=let ⟨_,hn,_⟩:=I.loc;hn.lt
theorem Inv.sz(I:Inv X pins σ H s):X.s₀.heap.objs.size<=s.heap.objs.size:=Rr9 I.ok.above (Sy9 I.lt)
theorem Inv.aRQ(I:Inv X pins σ H s)(h:s.heap.objs.size<=a):a∉X.fs:=λhb=>by
 obtain⟨_,o,ho,_⟩:=I.ok.zH.mem hb
 exact absurd (zF (j0 ho) (Rr9 I.sz h)) (Rs9 _)
theorem Inv.cne(I:Inv X pins σ H s):∀x c,X.env.cells.lookup x=some c->c≠X.env.locals:=λx c e z=>by
 obtain⟨v,o,ho,hd⟩:=I.cell x c e
 obtain⟨m,⟨o',es,ep,ho',hd',_⟩,_⟩:=I.loc
 rw[z,ho'] at ho;cases ho;rw[hd'] at hd;cases hd
theorem Inv.zH(I:Inv X pins σ H s):s.heap.FunFrames X.base X.outer:=by
 have all:∀(l:List Env),(∀b∈frs l,b∈X.fs)->X.s₀.heap.FunFrames X.base l->s.heap.FunFrames X.base l:=by
  intro l
  induction l with
  |nil=>intro _ _;trivial
  |cons env r ih=>
   intro hs hl
   obtain⟨hk,⟨L,o,hf,hn,ho,hd⟩,hr⟩:=hl
   have hL:L∈X.fs:=hs L (by unfold frs;rw[Sf9,hf];exact Qr9)
   obtain⟨sl,e⟩:=I.base.slot L o ho (I.ok.frf L hL) hL λz=>I.ok.exfs L z hL
   exact⟨hk,⟨L,_,hf,hn,e,hd⟩,ih (λb hb=>hs b (by unfold frs;rw[Sf9,hf];exact zE _ hb)) hr⟩
 exact all X.outer (λ_ hb=>hb) I.ok.zH
theorem Inv.stack(I:Inv X pins σ H s):s.heap.FunFrames X.base X.stack:=by
 rcases I.ok.stk with e|⟨e,hf⟩
 ·rw[e];exact I.zH
 ·rw[e]
  obtain⟨m,hn,_⟩:=I.loc
  refine .cons (by rw[I.ok.kind];decide) hf hn ?_ I.zH
  exact Heap.get?_none_of_le (Rr9 I.ok.bsz I.ok.above)
theorem Inv.aDy(I:Inv X pins σ H s):∀b∈frs X.stack,b∈X.env.locals::X.fs:=λb hb=>by
 rcases I.ok.stk with e|⟨e,hf⟩
 ·rw[e] at hb;exact zE _ hb
 ·rw[e] at hb
  unfold frs at hb
  rw[Sf9,hf] at hb
  exact hb
theorem Inv.aDn(I:Inv X pins σ H s):∀b∈frs X.stack,H b=none:=λb hb=>by
 rcases sZ.mp (I.aDy b hb) with e|hb
 ·rw[e];exact I.free
 ·obtain⟨_,o,ho,_⟩:=I.ok.zH.mem hb
  exact I.base.free b o ho (I.ok.frf b hb) λz=>I.ok.exfs b z hb
theorem Inv.step{g':Array GenState}{t':Nat}{d':Drawn}{ch:List Addr}(I:Inv X pins σ H s)
  (hch:∀b∈ch,(b∈X.ex\/X.s₀.heap.objs.size<=b)/\b≠X.env.locals/\(∀x c,X.env.cells.lookup x=some c->c≠b)/\∀p∈X.pn++pins,p.1≠b)
  (keep:∀b o,b≠X.env.locals->b∉X.fs->b∉ch->s.heap.get? b=some o->H b=none->h'.get? b=some o)
  (slot:∀b o,b≠X.env.locals->b∈X.fs->b∉ch->s.heap.get? b=some o->H b=none->∃sl,h'.get? b=some { o with slots:=sl }) (free:∀b o,b∉ch->s.heap.get? b=some o->H b=none->H' b=none)
  (there:∀b o,b∉ch->s.heap.get? b=some o->∃o',h'.get? b=some o')
  (v3:∀b xs,H b=some (.tup xs)->H' b=some (.tup xs)) (frzs:∀b o u,H b=some (.frz o u)->H' b=some (.frz o u)) (tbls:∀b ps,H b=some (.tbl ps)->∃more,H' b=some (.tbl (ps++more)))
  (ns:∀m,s.heap.Ns X.env.locals m->h'.Ns X.env.locals m) (hok:vZ X.prog X.w H' h') (hg:AllBare g') :
  Inv X pins σ H' { s with heap:=h',gens:=g',drawn:=d',toks:=t' }:=by
 have neL:∀b o,X.s₀.heap.get? b=some o->b≠X.env.locals:=λb o e=>vP (zF (j0 e) I.ok.above)
 have neC:∀b o,X.s₀.heap.get? b=some o->b∉X.ex->b∉ch:=λb o e hx hb=>by
  rcases(hch b hb).1 with z|z
  ·exact hx z
  ·exact absurd (zF (j0 e) z) (Rs9 _)
 have cellK:∀x c,X.env.cells.lookup x=some c->∀v,s.heap.IsCell c v->h'.IsCell c v:=λx c e v ⟨o,ho,hd⟩=>by
  have nch:c∉ch:=λz=>(hch c z).2.2.1 x c e rfl
  by_cases hc:c∈X.fs
  ·obtain⟨sl,q⟩:=slot c o (I.cne x c e) hc nch ho (I.freeC x c e)
   exact⟨_,q,hd⟩
  ·exact⟨o,keep c o (I.cne x c e) hc nch ho (I.freeC x c e),hd⟩
 refine⟨I.ok,I.os,hg,⟨λb o e n hb hx=>?_,λb o e n hb hx=>?_,λb o e n hx=>?_,λb o e hx=>?_,λb xs e=>v3 b xs (I.base.v3 b xs e),λb o xs e=>frzs b o xs (I.base.frzs b o xs e),λb ps e=>?_⟩,?_,λx c e=>?_,?_,λx c e=>?_,λp hp=>?_,hok,I.len⟩
 ·exact keep b o (neL b o e) hb (neC b o e hx) (I.base.keep b o e n hb hx) (I.base.free b o e n hx)
 ·obtain⟨sl,e1⟩:=I.base.slot b o e n hb hx
  obtain⟨sl',e2⟩:=slot b _ (neL b o e) hb (neC b o e hx) e1 (I.base.free b o e n hx)
  exact⟨sl',e2⟩
 ·obtain⟨o',e1⟩:=I.base.there b o e hx
  exact free b o' (neC b o e hx) e1 (I.base.free b o e n hx)
 ·obtain⟨o',e1⟩:=I.base.there b o e hx
  exact there b o' (neC b o e hx) e1
 ·obtain⟨m1,e1⟩:=I.base.tbls b ps e
  obtain⟨m2,e2⟩:=tbls b _ e1
  exact⟨m1++m2,by rw[e2,Array.append_assoc]⟩
 ·obtain⟨m,hn,hl⟩:=I.loc
  refine⟨m,ns m hn,λi x v e1 e2 e3=>?_⟩
  obtain⟨u,r,l⟩:=hl i x v e1 e2 e3
  refine⟨u,r,?_⟩
  rcases l with l|⟨k,c,e,z⟩
  ·exact .inl l
  ·exact .inr ⟨k,c,e,cellK x c e _ z⟩
 ·obtain⟨v,z⟩:=I.cell x c e
  exact⟨v,cellK x c e v z⟩
 ·obtain⟨m,⟨o,_,_,ho,_⟩,_⟩:=I.loc
  exact free _ o (λz=>(hch _ z).2.1 rfl) ho I.free
 ·obtain⟨v,o,ho,hd⟩:=I.cell x c e
  exact free c o (λz=>(hch c z).2.2.1 x c e rfl) ho (I.freeC x c e)
 ·obtain⟨e,n,ne,nf,d⟩:=I.pin p hp
  have nch:p.1∉ch:=λz=>(hch p.1 z).2.2.2 p hp rfl
  exact⟨keep p.1 p.2 ne nf nch e n,free p.1 p.2 nch e n,ne,nf,d⟩
theorem Inv.un{t':Nat}(I:Inv X pins σ H s)(u:Un X.fs [] H H' s.heap h')(hok:vZ X.prog X.w H' h'):Inv X pins σ H' { s with heap:=h',toks:=t' }:=by
 obtain⟨m,⟨o,es,ep,ho,r⟩,_⟩:=id I.loc
 obtain⟨sl,hL⟩:=u.any ho I.free (by simp)
 exact I.step (g':=s.gens) (d':=s.drawn) (ch:=[]) (λ_ z=>nomatch z) (λb o _ hb _ e n=>u.keep b o e n hb (by simp)) (λb o _ hb _ e n=>u.slot b o e n hb (by simp)) (λb o _ e n=>u.free b o e n (by simp)) (λb o _ e=>u.there b o e (by simp)) u.v3 u.frzs u.tbls (λm' hm=>by
  obtain⟨o',es',ep',ho',r'⟩:=hm
  rw[ho] at ho';cases ho'
  exact⟨_,es',ep',hL,r'⟩) hok I.bare
theorem Inv.call{t':Nat}{d':Drawn}(I:Inv X pins σ H s)(u:Un (frs X.stack) ch H H' s.heap h')(hok:vZ X.prog X.w H' h')(hg:AllBare g')(hch:∀b∈ch,(b∈X.ex\/X.s₀.heap.objs.size<=b)/\b≠X.env.locals/\(∀x c,X.env.cells.lookup x=some c->c≠b)/\∀p∈X.pn++pins,p.1≠b) :
  Inv X pins σ H' { s with heap:=h',gens:=g',drawn:=d',toks:=t' }:=by
 obtain⟨m,⟨o,es,ep,ho,r⟩,_⟩:=id I.loc
 obtain⟨sl,hL⟩:=u.any ho I.free λz=>(hch _ z).2.1 rfl
 exact I.step (ch:=ch) hch (λb o hL hb hc e n=>u.keep b o e n (λz=>(sZ.mp (I.aDy b z)).elim hL hb) hc) (λb o _ _ hc e n=>u.any e n hc) (λb o hc e n=>u.free b o e n hc) (λb o hc e=>u.there b o e hc) u.v3 u.frzs u.tbls (λm' hm=>by
  obtain⟨o',es',ep',ho',r'⟩:=hm
  rw[ho] at ho';cases ho'
  exact⟨_,es',ep',hL,r'⟩) hok hg
theorem Inv.turned{t':Nat}{it:Addr}(I:Inv X pins σ H s)(k:∀b o,b≠it->s.heap.get? b=some o->h'.get? b=some o)(hn:H it=none)(hL:it≠X.env.locals)
  (h1:it∈X.ex\/X.s₀.heap.objs.size<=it) (h2:∀x c,X.env.cells.lookup x=some c->c≠it) (h3:∀p∈X.pn++pins,p.1≠it):Inv X pins σ H { s with heap:=h',toks:=t' }:=by
 have nit:∀b u,H b=some u->b≠it:=λb u e z=>by rw[z,hn] at e;cases e
 refine I.step (g':=s.gens) (d':=s.drawn) (ch:=[it]) (λb hb=>?_) (λb o _ _ hc e _=>k b o (λz=>hc (by simp[z])) e) (λb o _ _ hc e _=>⟨o.slots,k b o (λz=>hc (by simp[z])) e⟩) (λ_ _ _ _ n=>n)
  (λb o hc e=>⟨o,k b o (λz=>hc (by simp[z])) e⟩) (λ_ _ e=>e) (λ_ _ _ e=>e) (λb ps e=>⟨#[],by rw[e];simp⟩) (λm hm=>?_) (λb u e=>?_) I.bare
 ·have e:b=it:=by simpa using hb
  subst e
  exact⟨h1,hL,h2,h3⟩
 ·obtain⟨o,es,ep,ho,r⟩:=hm
  exact⟨o,es,ep,k _ o (Ne.symm hL) ho,r⟩
 ·refine(I.hok b u e).aCJ (λc v hc q=>k c v ?_ q) (λ_ q=>q) λ_ _ _ q=>q
  rcases hc with z|z
  ·rw[z];exact nit b u e
  ·exact nit c _ z
theorem Inv.tok(I:Inv X pins σ H s)(t:Nat):Inv X pins σ H { s with toks:=t }:=I.un (h':=s.heap) (t':=t) Un.refl I.hok
theorem Inv.kept{t':Nat}(I:Inv X pins σ H s)(k:∀b u,s.heap.get? b=some u->h'.get? b=some u):Inv X pins σ H { s with heap:=h',toks:=t' }:=I.un (Un.kept k) (I.hok.kept k)
theorem Inv.laid{t':Nat}(I:Inv X pins σ H s)(k:∀b u,s.heap.get? b=some u->h'.get? b=some u)(hp:s.heap.objs.size<=a)(new:cD X.prog X.w (upd H a o) h' a o) :
  Inv X pins σ (upd H a o) { s with heap:=h',toks:=t' }:=I.un (Un.laid k hp (I.hok.fresh hp)) (I.hok.laid k hp new)
theorem Inv.write{t':Nat}(I:Inv X pins σ H s)(mu:Mut (H x))(he:e=x\/H e=some (.own x))(k:∀b u,b≠e->s.heap.get? b=some u->h'.get? b=some u)(heo:∃u,h'.get? e=some u)(new:cD X.prog X.w (upd H x o) h' x o):Inv X pins σ (upd H x o) { s with heap:=h',toks:=t' }:=I.un (Un.write mu he k heo) (I.hok.write mu he k heo new)
theorem Inv.weak{σ':List (Option V)}(I:Inv X pins σ H s)(hl:σ'.length=σ.length)(w:∀(i:Nat) v,σ'[i]?=some (some v)->σ[i]?=some (some v)):Inv X pins σ' H s:=
 ⟨I.ok,I.os,I.bare,I.base,let ⟨m,hn,hl'⟩:=I.loc;⟨m,hn,λi x v e1 e2 e3=>hl' i x v e1 (w i v e2) e3⟩,I.cell,I.free,I.freeC,I.pin,I.hok,hl.trans I.len⟩
theorem Inv.aDo(I:Inv X pins σ H s)(h:∀p∈pins',s.heap.get? p.1=some p.2/\H p.1=none/\p.1≠X.env.locals/\p.1∉X.fs/\∀v,p.2.data≠.cell v):Inv X pins' σ H s:=
 ⟨I.ok,I.os,I.bare,I.base,I.loc,I.cell,I.free,I.freeC,λp hp=>(Rk9.mp hp).elim (λz=>I.pin p (Sl9 _ z)) (h p),I.hok,I.len⟩
theorem aHm{N:List Str}(hN:N.Nodup){i j:Nat}(a:N[i]?=some x)(b:N[j]?=some x):i=j:=by
 obtain⟨h1,e1⟩:=qM.mp a
 obtain⟨h2,e2⟩:=qM.mp b
 exact(List.getElem_inj hN).mp (e1.trans e2.symm)
theorem aFv{E:Value->Shared->Prop}{i:Nat}{Q:Unit->Shared->Prop}(I:Inv X pins σ H s)(hN:X.N.Nodup)(hi:X.N[i]?=some x)(hx:Loc X.env.scope x)(r:RelV v u)(h:∀s',Inv X pins (σ.set i (some v)) H s'->(∃a,Heap.SameBut a s.heap s'.heap/\(a=X.env.locals\/X.env.cells.lookup x=some a))->Q () s')(hf:X.fn x=true\/X.env.scope.names.lookup x=some .local:=by first|exact .inl rfl|exact .inr rfl|assumption):wpAny M A (storeName X.env x u) Q E s:=by
 obtain⟨m,hn,hl⟩:=id I.loc
 have hcls:(X.env.scope.kind == .class || (X.env.scope.kind == .module && X.env.locals != X.env.globals))=false:=by rw[I.ok.kind];rfl
 have hiσ:i < σ.length:=by rw[I.len];exact(qM.mp hi).1
 have cne:=I.cne
 have tracked:∀{a:Addr} {h':Heap},(∃o,s.heap.get? a=some o/\H a=none)->Heap.SameBut a s.heap h'->vZ X.prog X.w H h':=λ{a h'} ha hs b ob e=>by
  obtain⟨_,_,hfree⟩:=ha
  refine(I.hok b ob e).aCJ (λc w' hc q=>(hs.2 c ?_).trans q) (λ_ q=>q) λ_ _ _ q=>q
  rintro rfl
  rcases hc with rfl|hc
  ·rw[hfree] at e;cases e
  ·rw[hfree] at hc;cases hc
 rcases hx with hk|hk
 ·refine wpAny_storeName_local hk hn (λh' hn' hs=>?_) hcls
  obtain⟨oL,_,_,hoL,_⟩:=id hn
  refine h _ ⟨I.ok,I.os,I.bare,⟨λb o e n hb hx=>?_,λb o e n hb hx=>?_,I.base.free,λb o e hx=>?_,I.base.v3,I.base.frzs,I.base.tbls⟩,⟨_,hn',λj y v' e1 e2 e3=>?_⟩,λy c e=>?_,I.free,I.freeC,λp hp=>?_,tracked ⟨oL,hoL,I.free⟩ hs,by simpa using I.len⟩ ⟨_,hs,.inl rfl⟩
  ·exact(hs.2 b (vP (zF (j0 e) I.ok.above))).trans (I.base.keep b o e n hb hx)
  ·obtain⟨sl,e1⟩:=I.base.slot b o e n hb hx
   exact⟨sl,(hs.2 b (vP (zF (j0 e) I.ok.above))).trans e1⟩
  ·obtain⟨o',e1⟩:=I.base.there b o e hx
   exact⟨o',(hs.2 b (vP (zF (j0 e) I.ok.above))).trans e1⟩
  ·by_cases hj:j=i
   ·subst hj
    rw[hi] at e1;cases e1
    rw[List.getElem?_set_self hiσ] at e2
    cases e2
    exact⟨u,r,.inl ⟨hk,by simp⟩⟩
   ·rw[List.getElem?_set_ne (Ne.symm hj)] at e2
    obtain⟨u',r',q⟩:=hl j y v' e1 e2 e3
    refine⟨u',r',?_⟩
    rcases q with ⟨k,e⟩|⟨k,c,e,z⟩
    ·refine .inl ⟨k,?_⟩
     have:y≠x:=λe=>hj (aHm hN e1 (e▸hi))
     simp[this,e]
    ·exact .inr ⟨k,c,e,z.sameBut hs (cne y c e)⟩
  ·obtain⟨w',z⟩:=I.cell y c e
   exact⟨w',z.sameBut hs (cne y c e)⟩
  ·obtain⟨e,n,ne,nf,d⟩:=I.pin p hp
   exact⟨(hs.2 p.1 ne).trans e,n,ne,nf,d⟩
 ·have hfn:X.fn x=true:=by
   rcases hf with z|z
   ·exact z
   ·rw[z] at hk;cases hk
  obtain⟨c,hc⟩:=I.ok.has x (.inl hk)
  obtain⟨w',z⟩:=I.cell x c hc
  refine wpAny_storeName_cell I.ok.kind hk hc z (λh' hc' hs=>?_)
  obtain⟨oc,hoc,hocd⟩:=id z
  refine h { s with heap:=h' } ⟨I.ok,I.os,I.bare,⟨λb o e n hb hx=>?_,λb o e n hb hx=>?_,I.base.free,λb o e hx=>?_,I.base.v3,I.base.frzs,I.base.tbls⟩,⟨m,hn.sameBut hs (Ne.symm (cne x c hc)),λj y v' e1 e2 e3=>?_⟩,λy c' e=>?_,I.free,I.freeC,λp hp=>?_,tracked ⟨oc,hoc,I.freeC x c hc⟩ hs,by simpa using I.len⟩ ⟨c,hs,.inr hc⟩
  ·exact(hs.2 b (vP (zF (j0 e) (I.ok.cab x c hfn hc)))).trans (I.base.keep b o e n hb hx)
  ·obtain⟨sl,e1⟩:=I.base.slot b o e n hb hx
   exact⟨sl,(hs.2 b (vP (zF (j0 e) (I.ok.cab x c hfn hc)))).trans e1⟩
  ·obtain⟨o',e1⟩:=I.base.there b o e hx
   exact⟨o',(hs.2 b (vP (zF (j0 e) (I.ok.cab x c hfn hc)))).trans e1⟩
  ·by_cases hj:j=i
   ·subst hj
    rw[hi] at e1;cases e1
    rw[List.getElem?_set_self hiσ] at e2
    cases e2
    exact⟨u,r,.inr ⟨.inl hk,c,hc,hc'⟩⟩
   ·rw[List.getElem?_set_ne (Ne.symm hj)] at e2
    obtain⟨u',r',q⟩:=hl j y v' e1 e2 e3
    refine⟨u',r',?_⟩
    rcases q with q|⟨k,c',e,z'⟩
    ·exact .inl q
    ·refine .inr ⟨k,c',e,z'.sameBut hs ?_⟩
     rintro rfl
     exact hj (aHm hN e1 (I.ok.inj _ _ _ e hc▸hi))
  ·by_cases hcc:c'=c
   ·subst hcc;exact⟨_,hc'⟩
   ·obtain⟨w2,z2⟩:=I.cell y c' e
    exact⟨w2,z2.sameBut hs hcc⟩
  ·obtain⟨e,n,ne,nf,d⟩:=I.pin p hp
   refine⟨(hs.2 p.1 ?_).trans e,n,ne,nf,d⟩
   intro q
   rw[q,hoc] at e
   have q':oc=p.2:=Option.some.inj e
   exact d w' (by rw[<-q'];exact hocd)
theorem aDz{E:Value->Shared->Prop}{i:Nat}{Q:Unit->Shared->Prop}(I:Inv X pins σ H s)(hN:X.N.Nodup)(hi:X.N[i]?=some x)(hx:Loc X.env.scope x)(r:RelV v u)(h:∀s',Inv X pins (σ.set i (some v)) H s'->Q () s')(hf:X.fn x=true\/X.env.scope.names.lookup x=some .local:=by first|exact .inl rfl|exact .inr rfl|assumption):wpAny M A (storeName X.env x u) Q E s:=
 aFv I hN hi hx r (λs' I' _=>h s' I') hf
theorem Inv.aQ4{s':Shared}(I:Inv X pins σ H s)(ho:s'.os=s.os)(u:Un (frs X.stack) ch H H' s.heap s'.heap)(hok:vZ X.prog X.w H' s'.heap)(hg:AllBare s'.gens)(hch:∀b∈ch,(b∈X.ex\/X.s₀.heap.objs.size<=b)/\b≠X.env.locals/\(∀x c,X.env.cells.lookup x=some c->c≠b)/\∀p∈X.pn++pins,p.1≠b):Inv X pins σ H' s':=by
 obtain⟨h',g',d',t',o'⟩:=s'
 have e:o'=s.os:=ho
 subst e
 exact I.call (g':=g') (t':=t') (d':=d') u hok hg hch
end
abbrev XK:=Value->Option Addr->Hp->Prop
abbrev St:=List (Option V)
abbrev VK:=V->Hp->Prop
abbrev TE:=St->Hp->VK->Prop
abbrev TT:=St->Hp->(Bool->Hp->Prop)->Prop
abbrev TA:=St->Hp->(List V->Hp->Prop)->Prop
structure Ends where
 nx:St->Hp->Prop
 rt:VK
 bk:St->Hp->Prop:=λ_ _=>False
 ct:St->Hp->Prop:=λ_ _=>False
abbrev TS:=Ends->St->Hp->Prop
def EP(X:Cx)(pins:List (Addr×Obj))(σ:St)(Q:VK)(u:Value)(s':Shared):Prop:=∃v H',Inv X pins σ H' s'/\RelV v u/\Q v H'
def TP(X:Cx)(pins:List (Addr×Obj))(σ:St)(Q:Bool->Hp->Prop)(b:Bool)(s':Shared):Prop:=∃H',Inv X pins σ H' s'/\Q b H'
def AP(X:Cx)(pins:List (Addr×Obj))(σ:St)(Q:List V->Hp->Prop)(us:List Value)(s':Shared):Prop:=∃vs H',Inv X pins σ H' s'/\Vals vs us/\Q vs H'
def SP(X:Cx)(pins:List (Addr×Obj))(D:Ends)(f:Flow)(s':Shared):Prop:=
 match f with
 |.next=>∃σ' H',Inv X pins σ' H' s'/\D.nx σ' H'
 |.brk=>∃σ' H',Inv X pins σ' H' s'/\D.bk σ' H'
 |.cont=>∃σ' H',Inv X pins σ' H' s'/\D.ct σ' H'
 |.ret u=>∃v σ' H',Inv X pins σ' H' s'/\RelV v u/\D.rt v H'
def PE(X:Cx)(e:Expr)(t:TE):Prop:=
 ∀(pins:List (Addr×Obj)) (s:Shared) (σ:St) (H:Hp) (Q:VK),Inv X pins σ H s->t σ H Q->wpAny (model X.prog X.w) X.A (eval e X.env) (EP X pins σ Q) X.xe s
def PT(X:Cx)(e:Expr)(t:TT):Prop:=
 ∀(pins:List (Addr×Obj)) (s:Shared) (σ:St) (H:Hp) (Q:Bool->Hp->Prop),Inv X pins σ H s->t σ H Q->wpAny (model X.prog X.w) X.A (isTrue e X.env (eval e X.env)) (TP X pins σ Q) X.xe s
def PW(X:Cx)(e:Expr)(t:TT):Prop:=
 ∀(whole:Sem Value) (pins:List (Addr×Obj)) (s:Shared) (σ:St) (H:Hp) (Q:Bool->Hp->Prop),Inv X pins σ H s->t σ H Q->wpAny (model X.prog X.w) X.A (isTrue e X.env whole) (TP X pins σ Q) X.xe s
theorem PW.pt(h:PW X e t):PT X e t:=h _
def PA(X:Cx)(es:List Expr)(t:TA):Prop:=
 ∀(pos:Pos) (pins:List (Addr×Obj)) (s:Shared) (σ:St) (H:Hp) (Q:List V->Hp->Prop),Inv X pins σ H s->t σ H Q->wpAny (model X.prog X.w) X.A (spliced (backTo pos (starEach es X.env))) (AP X pins σ Q) X.xe s
def PS(X:Cx)(st:Stmt)(t:TS):Prop:=
 ∀(pins:List (Addr×Obj)) (s:Shared) (σ:St) (H:Hp) (D:Ends),Inv X pins σ H s->t D σ H->wpAny (model X.prog X.w) X.A (exec st X.env) (SP X pins D) X.xe s
def PSs(X:Cx)(st:List Stmt)(t:TS):Prop:=
 ∀(pins:List (Addr×Obj)) (s:Shared) (σ:St) (H:Hp) (D:Ends),Inv X pins σ H s->t D σ H->wpAny (model X.prog X.w) X.A (execs st X.env) (SP X pins D) X.xe s
theorem dI{α:Type}{t:Sem α}{Q Q':α->Shared->Prop}{M:Model}{A:Around}{E:Value->Shared->Prop}{s:Shared}(h:wpAny M A t Q E s)(hQ:∀a s,Q a s->Q' a s):wpAny M A t Q' E s:=wpAny_mono h hQ λ_ _ x=>x
end L2
namespace L2
open PySem PySem.Spec PyProof.Rows
section
variable{X:Cx}
def aPk(i:Nat):TE:=λσ H Q=>∃v,σ[i]?=some (some v)/\Q v H
def tC(v:V):TE:=λ_ H Q=>Q v H
theorem aLc{i:Nat}(hN:X.N[i]?=some x)(hv:Vis X.env.scope x)(hd:(x == ("__debug__" : Str))=false:=by decide)(hcd:(x == ("__classdict__" : Str))=false:=by decide):PE X (.Name x pos) (aPk i):=by
 intro pins s σ H Q I h
 obtain⟨v,e,h⟩:=h
 obtain⟨m,hn,hl⟩:=I.loc
 obtain⟨u,r,l⟩:=hl i x v hN e hv
 have fin:EP X pins σ Q u s:=⟨v,H,I,r,h⟩
 rcases l with ⟨hk,hm⟩|⟨hk,c,hc,hcell⟩
 ·exact wpAny_Name (wpAny_loadName_local I.ok.kind hk hn hm fin) hd
 ·rcases hk with hk|hk
  ·exact wpAny_Name (wpAny_loadName_cell I.ok.kind hk hc hcell fin) hd
  ·exact wpAny_Name (wpAny_loadName_free I.ok.kind hk hc hcell fin hcd) hd
theorem aPl{i j pos}:PE X (.Constant (.int i) j pos) (tC (.int i)):=λ_ _ _ H _ I h=>wpAny_Constant_int ⟨.int i,H,I.tok _,⟨_,rfl⟩,h⟩
theorem aQ5{b j pos}:PE X (.Constant (.bool b) j pos) (tC (.bl b)):=λ_ _ _ H _ I h=>Constant_bool ⟨.bl b,H,I,rfl,h⟩
theorem aPm{j pos}:PE X (.Constant .none j pos) (tC .non):=λ_ _ _ H _ I h=>Constant_none ⟨.non,H,I,rfl,h⟩
theorem aPn{x j pos}:PE X (.Constant (.str x) j pos) (tC (.str x)):=λ_ _ _ H _ I h=>Calls.Constant_str ⟨.str x,H,I.tok _,⟨_,rfl⟩,h⟩
def Gl(X:Cx)(x:Str):Prop:=X.env.kindOf x=some .globalImplicit
theorem aDp{E:Value->Shared->Prop}{Q:Value->Shared->Prop}(I:Inv X pins σ H s)(hg:Gl X x)(hm:X.mg x=some u)(h:Q u s)(hd:(x == ("__debug__" : Str))=false:=by decide):wpAny (model X.prog X.w) X.A (eval (.Name x pos) X.env) Q E s:=
 Calls.Name_function_global I.ok.kind hg (Calls.loadGlobal_global (by rw[I.ok.glob];exact I.mod.glob.keeps I.bk) hm h) hd
theorem pH{E:Value->Shared->Prop}{Q:Value->Shared->Prop}(I:Inv X pins σ H s)(hg:Gl X x)(hm:X.mg x=none)(hv:bootBuiltins x=some u)(h:Q u s)(hn:x≠"__name__":=by decide)(hd:(x == ("__debug__" : Str))=false:=by decide):wpAny (model X.prog X.w) X.A (eval (.Name x pos) X.env) Q E s:=by
 obtain⟨mb,h1,h2⟩:=I.mod.blt
 exact Calls.Name_function_global I.ok.kind hg (Calls.loadGlobal_builtin (by rw[I.ok.glob];exact I.mod.glob.keeps I.bk) hm (by rw[I.ok.blt];exact h1.keeps I.bk) ((h2 x hn).trans hv) h) hd
theorem aJt(hg:Gl X x)(hm:X.mg x=some u)(r:RelV v u)(hd:(x == ("__debug__" : Str))=false:=by decide):PE X (.Name x pos) (tC v):=
 λ_ _ _ H _ I h=>aDp I hg hm ⟨v,H,I,r,h⟩ hd
theorem aNp(hg:Gl X x)(hm:X.mg x=none)(hv:bootBuiltins x=some u)(r:RelV v u)(hn:x≠"__name__":=by decide)(hd:(x == ("__debug__" : Str))=false:=by decide):PE X (.Name x pos) (tC v):=
 λ_ _ _ H _ I h=>pH I hg hm hv ⟨v,H,I,r,h⟩ hn hd
variable{a b:Expr}{ta tb:TE}{pos:Pos}
def tB(t:TE):TT:=λσ H Q=>t σ H λx H1=>∃c,x=.bl c/\Q c H1
theorem aPo{e:Expr}{t:TE}(h:PE X e t)(he:∀whole,isTrue e X.env whole=(do let v <-whole;standAt e.pos;holding [v] (truthy v)):=by intro _;rfl):PT X e (tB t):=by
 intro pins s σ H Q I hw
 refine isTrue_plain (dI (h pins s σ H _ I hw) λv s1 ⟨x,H1,I1,r1,q1⟩=>?_) (he _)
 obtain⟨d,rfl,q⟩:=q1
 cases r1
 exact wpAny_truthy_bool ⟨H1,I1,q⟩
variable{tA tB':TT}{rest:List Expr}
def aPp(t u:TT):TT:=λσ H Q=>t σ H λc H1=>if c=true then u σ H1 Q else Q false H1
def tOr(t u:TT):TT:=λσ H Q=>t σ H λc H1=>if c=true then Q true H1 else u σ H1 Q
def aPq(t:TT):TT:=λσ H Q=>t σ H λc H1=>Q (!c) H1
theorem aNq(ha:PT X a tA):PW X (.BoolOp .And [a] pos) tA:=by
 intro wh pins s σ H Q I h
 refine isTrue_and (dI (ha pins s σ H Q I h) λc s1 e=>?_)
 cases c with
 |true=>exact isTrue_and_nil e
 |false=>exact e
theorem aPr(ha:PT X a tA):PW X (.BoolOp .Or [a] pos) tA:=by
 intro wh pins s σ H Q I h
 refine isTrue_or (dI (ha pins s σ H Q I h) λc s1 e=>?_)
 cases c with
 |false=>exact isTrue_or_nil e
 |true=>exact e
theorem aPs(ha:PT X a tA)(hb:PW X (.BoolOp .And (b::rest) pos) tB'):PW X (.BoolOp .And (a::b::rest) pos) (aPp tA tB'):=by
 intro wh pins s σ H Q I h
 refine isTrue_and (dI (ha pins s σ H _ I h) λc s1 ⟨H1,I1,q1⟩=>?_)
 cases c with
 |true=>exact hb wh pins s1 σ H1 Q I1 q1
 |false=>exact⟨H1,I1,q1⟩
theorem aQ6(ha:PT X a tA)(hb:PW X (.BoolOp .Or (b::rest) pos) tB'):PW X (.BoolOp .Or (a::b::rest) pos) (tOr tA tB'):=by
 intro wh pins s σ H Q I h
 refine isTrue_or (dI (ha pins s σ H _ I h) λc s1 ⟨H1,I1,q1⟩=>?_)
 cases c with
 |true=>exact⟨H1,I1,q1⟩
 |false=>exact hb wh pins s1 σ H1 Q I1 q1
theorem aPt(ha:PT X a tA):PT X (.UnaryOp .Not a pos) (aPq tA):=by
 intro pins s σ H Q I h
 exact isTrue_not (ha pins s σ H (λc H1=>Q (!c) H1) I h)
def aLd(ta tb:TE):TE:=λσ H Q=>ta σ H λx H1=>∃c,x=.bl c/\if c=true then tb σ H1 Q else Q (.bl false) H1
def aPu(ta tb:TE):TE:=λσ H Q=>ta σ H λx H1=>∃c,x=.bl c/\if c=true then Q (.bl true) H1 else tb σ H1 Q
def aLe(ta:TE):TE:=λσ H Q=>ta σ H λx H1=>∃c,x=.bl c/\Q (.bl (!c)) H1
theorem aPv{op}(h:PE X a t):PE X (.BoolOp op [a] pos) t:=λpins s σ H Q I hw=>BoolOp_one (h pins s σ H Q I hw)
theorem aPw(ha:PE X a ta)(hb:PE X (.BoolOp .And (b::rest) pos) tb):PE X (.BoolOp .And (a::b::rest) pos) (aLd ta tb):=by
 intro pins s σ H Q I h
 refine BoolOp_and (dI (ha pins s σ H _ I h) λv s1 ⟨x,H1,I1,r1,q1⟩=>?_)
 obtain⟨c,rfl,q1⟩:=q1
 cases r1
 refine wpAny_truthy_bool ?_
 cases c with
 |true=>exact hb pins s1 σ H1 Q I1 q1
 |false=>exact⟨.bl false,H1,I1,rfl,q1⟩
theorem aQ7(ha:PE X a ta)(hb:PE X (.BoolOp .Or (b::rest) pos) tb):PE X (.BoolOp .Or (a::b::rest) pos) (aPu ta tb):=by
 intro pins s σ H Q I h
 refine BoolOp_or (dI (ha pins s σ H _ I h) λv s1 ⟨x,H1,I1,r1,q1⟩=>?_)
 obtain⟨c,rfl,q1⟩:=q1
 cases r1
 refine wpAny_truthy_bool ?_
 cases c with
 |false=>exact hb pins s1 σ H1 Q I1 q1
 |true=>exact⟨.bl true,H1,I1,rfl,q1⟩
theorem aPx(ha:PE X a ta):PE X (.UnaryOp .Not a pos) (aLe ta):=by
 intro pins s σ H Q I h
 refine UnaryOp_ (dI (ha pins s σ H _ I h) λv s1 ⟨x,H1,I1,r1,q1⟩=>?_)
 obtain⟨c,rfl,q1⟩:=q1
 cases r1
 exact not_of (wpAny_truthy_bool ⟨.bl (!c),H1,I1,rfl,q1⟩)
def tIf(t:TT)(ta tb:TE):TE:=λσ H Q=>t σ H λc H1=>if c=true then ta σ H1 Q else tb σ H1 Q
theorem aLf{c:Expr}(hc:PT X c tA)(ha:PE X a ta)(hb:PE X b tb):PE X (.IfExp c a b pos) (tIf tA ta tb):=by
 intro pins s σ H Q I h
 refine wpAny_IfExp (dI (hc pins s σ H _ I h) λd s1 ⟨H1,I1,q1⟩=>?_)
 cases d with
 |true=>exact ha pins s1 σ H1 Q I1 q1
 |false=>exact hb pins s1 σ H1 Q I1 q1
end
end L2
namespace L2
open PySem PySem.Spec PyProof.Rows
def bX(K:W.Frag)(H:Hp)(a:Addr)(xs:List V):Prop:=
 Rd H a (.lst xs)\/
  ∃(o:Obj) (its:Array Value) (n:Nat),K.lookup a=some o/\o.cls=.type "list"/\o.dict=none/\o.data=.seq its n/\its.size<=sizeLine/\Vals xs its.toList
def jQ(K:W.Frag)(H:Hp)(a:Addr)(xs:List V):Prop:=
 Rd H a (.tup xs)\/
  ∃(o:Obj) (its:Array Value) (n:Nat),K.lookup a=some o/\o.cls=.type "tuple"/\o.data=.seq its n/\its.size<=sizeLine/\Vals xs its.toList
def aRR:Value->Option V
 |.none=>some .non
 |.bool b=>some (.bl b)
 |.int i _=>some (.int i)
 |.str x _=>some (.str x)
 |.bytes b _=>some (.byt b)
 |.float b _=>some (.flt b)
 |.ref a=>some (.ref a)
 |.type n=>some (.ty n)
 |_=>none
theorem RelV.abs(r:RelV x u):aRR u=some x:=by
 cases x with
 |non=>cases r;rfl
 |bl _=>cases r;rfl
 |int _=>obtain⟨t,rfl⟩:=r;rfl
 |str _=>obtain⟨t,rfl⟩:=r;rfl
 |byt _=>obtain⟨t,rfl⟩:=r;rfl
 |flt _=>obtain⟨t,rfl⟩:=r;rfl
 |ref _=>cases r;rfl
 |ty _=>cases r;rfl
theorem RelV.inj(r:RelV x u)(q:RelV y u):x=y:=Option.some.inj (r.abs.symm.trans q.abs)
theorem Vals.inj:∀{xs ys:List V}{us:List Value},Vals xs us->Vals ys us->xs=ys
 |_,_,_,.nil,.nil=>rfl
 |_,_,_,.cons r t,.cons r' t'=>by rw[r.inj r',Vals.inj t t']
section
variable{X:Cx}{pins:List (Addr×Obj)}{σ:St}{H:Hp}{s:Shared}{a:Addr}{xs ys:List V}
theorem bX.of{K:W.Frag}(h:H a=some (.lst xs)):bX K H a xs:=.inl (.inl h)
theorem jQ.of{K:W.Frag}(h:H a=some (.tup xs)):jQ K H a xs:=.inl (.inl h)
theorem Inv.list(I:Inv X pins σ H s)(h:bX X.K H a xs):∃its:List Value,Vals xs its/\PlainL s.heap a its.toArray/\xs.length<=sizeLine:=by
 rcases h with h|⟨o,its,n,hk,hc,hd,hs,hz,r⟩
 ·obtain⟨z,its,n,r,e⟩:=h.ok I.hok
  exact⟨its,r,⟨_,n,e,rfl,rfl,rfl⟩,z⟩
 ·refine⟨its.toList,r,⟨o,n,I.kIn a o hk,hc,hd,by simpa using hs⟩,?_⟩
  have e:=r.length
  simp only[Rg9] at e
  omega
theorem Inv.tuple(I:Inv X pins σ H s)(h:jQ X.K H a xs):∃its:List Value,Vals xs its/\IsTup s.heap a its.toArray/\xs.length<=sizeLine:=by
 rcases h with h|⟨o,its,n,hk,hc,hs,hz,r⟩
 ·obtain⟨z,its,r,p⟩:=h.ok I.hok
  exact⟨its,r,p,z⟩
 ·refine⟨its.toList,r,⟨o,I.kIn a o hk,hc,n,by simpa using hs⟩,?_⟩
  have e:=r.length
  simp only[Rg9] at e
  omega
theorem Inv.aDA(I:Inv X pins σ H s)(h:bX X.K H a xs)(h':bX X.K H a ys):xs=ys:=by
 obtain⟨its,r,⟨o,n,e,_,_,d⟩,_⟩:=I.list h
 obtain⟨its',r',⟨o',n',e',_,_,d'⟩,_⟩:=I.list h'
 rw[e] at e';cases e'
 rw[d] at d'
 injection d' with d1 _
 have:its=its':=by simpa using congrArg Array.toList d1
 subst this
 exact r.inj r'
theorem Inv.aFw(I:Inv X pins σ H s)(h:jQ X.K H a xs)(h':jQ X.K H a ys):xs=ys:=by
 obtain⟨its,r,⟨o,e,_,n,d⟩,_⟩:=I.tuple h
 obtain⟨its',r',⟨o',e',_,n',d'⟩,_⟩:=I.tuple h'
 rw[e] at e';cases e'
 rw[d] at d'
 injection d' with d1 _
 have:its=its':=by simpa using congrArg Array.toList d1
 subst this
 exact r.inj r'
end
abbrev Cx.aEU(X:Cx)(E:Value->Shared->Prop):Cx:={ X with xe:=E }
abbrev Cx.nox(X:Cx):Cx:=X.aEU λ_ _=>False
theorem Cx.Ok.aEU{X:Cx}(ok:X.Ok)(E:Value->Shared->Prop):(X.aEU E).Ok:=
 ⟨ok.mod,ok.kind,ok.glob,ok.blt,ok.above,ok.inj,ok.has,ok.cab,ok.hd,ok.frames,ok.stk,ok.exf,ok.bs,ok.bsz,ok.noex,ok.exfs,ok.zH,ok.frf⟩
theorem Cx.Ok.wA{X:Cx}{E:Value->Shared->Prop}(ok:(X.aEU E).Ok):X.Ok:=
 ⟨ok.mod,ok.kind,ok.glob,ok.blt,ok.above,ok.inj,ok.has,ok.cab,ok.hd,ok.frames,ok.stk,ok.exf,ok.bs,ok.bsz,ok.noex,ok.exfs,ok.zH,ok.frf⟩
section
variable{X:Cx}{pins:List (Addr×Obj)}{σ:St}{H:Hp}{s:Shared}{E:Value->Shared->Prop}
theorem Inv.aEU(I:Inv X pins σ H s)(E:Value->Shared->Prop):Inv (X.aEU E) pins σ H s:=⟨I.ok.aEU E,I.os,I.bare,I.base,I.loc,I.cell,I.free,I.freeC,I.pin,I.hok,I.len⟩
theorem Inv.wA(I:Inv (X.aEU E) pins σ H s):Inv X pins σ H s:=⟨I.ok.wA,I.os,I.bare,I.base,I.loc,I.cell,I.free,I.freeC,I.pin,I.hok,I.len⟩
theorem SP.wA(h:SP (X.aEU E) pins D f s'):SP X pins D f s':=by
 cases f with
 |next=>obtain⟨σ',H',I,q⟩:=h;exact⟨σ',H',I.wA,q⟩
 |brk=>obtain⟨σ',H',I,q⟩:=h;exact⟨σ',H',I.wA,q⟩
 |cont=>obtain⟨σ',H',I,q⟩:=h;exact⟨σ',H',I.wA,q⟩
 |ret u=>obtain⟨v,σ',H',I,r,q⟩:=h;exact⟨v,σ',H',I.wA,r,q⟩
theorem PSs.nox{st:List Stmt}{t:TS}(h:PSs X.nox st t):PSs X st t:=λpins s σ H D I hw=>
 wpAny_mono (h pins s σ H D (I.aEU _) hw) (λ_ _ q=>q.wA) λ_ _ z=>False.elim z
end
section
variable{X:Cx}{st:Stmt}{rest:List Stmt}{t u:TS}{e:Expr}{te:TE}{pos:Pos}
def aLg:TS:=λD σ H=>D.nx σ H
def aLh(t u:TS):TS:=λD σ H=>t { D with nx:=u D } σ H
theorem aNr:PSs X [] aLg:=λ_ _ σ H _ I h=>wpAny_execs_nil ⟨σ,H,I,h⟩
theorem aLi(h1:PS X st t)(h2:PSs X rest u):PSs X (st::rest) (aLh t u):=by
 intro pins s σ H D I h
 refine wpAny_execs_cons (dI (h1 pins s σ H { D with nx:=u D } I h) λf s1 q=>?_)
 cases f with
 |next=>
  obtain⟨σ',H',I',q⟩:=q
  exact h2 pins s1 σ' H' D I' q
 |ret v=>exact q
 |brk=>exact q
 |cont=>exact q
theorem aNs(h1:PS X st t):PSs X [st] t:=by
 intro pins s σ H D I h
 refine wpAny_execs_cons (dI (h1 pins s σ H D I h) λf s1 q=>?_)
 cases f with
 |next=>exact wpAny_execs_nil q
 |ret v=>exact q
 |brk=>exact q
 |cont=>exact q
theorem Inv.quiet(I:Inv X pins σ H s):interactive X.env=false:=by simp[interactive,I.ok.kind]
def aLj(te:TE):TS:=λD σ H=>te σ H λ_ H1=>D.nx σ H1
theorem aNt(he:PE X e te)(hs:swapsWith e none pos.line X.env=pure false:=by rfl):PS X (.Expr e pos) (aLj te):=by
 intro pins s σ H D I h
 exact wpAny_Expr_any (dI (he pins s σ H _ I h) λv s1 ⟨x,H1,I1,r1,q1⟩=>⟨σ,H1,I1,q1⟩) I.quiet hs
def aPy(te:TE):TS:=λD σ H=>te σ H D.rt
theorem aPz(he:PE X e te):PS X (.Return (some e) pos) (aPy te):=by
 intro pins s σ H D I h
 exact wpAny_Return_some (dI (he pins s σ H _ I h) λv s1 ⟨x,H1,I1,r1,q1⟩=>⟨x,σ,H1,I1,r1,q1⟩)
def aPA(c:TT)(t u:TS):TS:=λD σ H=>c σ H λb H1=>if b=true then t D σ H1 else u D σ H1
theorem aQ8{c:Expr}{a b:List Stmt}{tc:TT}(hc:PT X c tc)(ha:PSs X a t)(hb:PSs X b u):PS X (.If c a b pos) (aPA tc t u):=by
 intro pins s σ H D I h
 refine wpAny_If (dI (hc pins s σ H _ I h) λd s1 ⟨H1,I1,q1⟩=>?_)
 cases d with
 |true=>exact ha pins s1 σ H1 D I1 q1
 |false=>exact hb pins s1 σ H1 D I1 q1
def aLk:TS:=λ_ _ _=>False
theorem aLl:PS X st aLk:=λ_ _ _ _ _ _ h=>h.elim
end
abbrev TG:=V->St->Hp->(St->Hp->Prop)->Prop
abbrev TGs:=List V->St->Hp->(St->Hp->Prop)->Prop
def PG(X:Cx)(target:Expr)(t:TG):Prop:=
 ∀(pins:List (Addr×Obj)) (s:Shared) (σ:St) (H:Hp) (v:V) (u:Value) (Q:St->Hp->Prop),Inv X pins σ H s->RelV v u->t v σ H Q->
  wpAny (model X.prog X.w) X.A (assign target X.env u) (λ_ s'=>∃σ' H',Inv X pins σ' H' s'/\Q σ' H') X.xe s
def PGs(X:Cx)(ts:List Expr)(t:TGs):Prop:=
 ∀(pins:List (Addr×Obj)) (s:Shared) (σ:St) (H:Hp) (vs:List V) (us:List Value) (Q:St->Hp->Prop),Inv X pins σ H s->Vals vs us->t vs σ H Q->
  wpAny (model X.prog X.w) X.A (assignInOrder ((assignEach ts X.env).map (·.2)) us) (λ_ s'=>∃σ' H',Inv X pins σ' H' s'/\Q σ' H') X.xe s
abbrev aIu:=V->V->V->Hp->(Hp->Prop)->Prop
def aLm(X:Cx)(t:aIu):Prop:=
 ∀(pins:List (Addr×Obj)) (s:Shared) (σ:St) (H:Hp) (o i v:V) (ov iv u:Value) (Q:Hp->Prop),Inv X pins σ H s->RelV o ov->RelV i iv->RelV v u->t o i v H Q->
  wpAny (model X.prog X.w) X.A (setItem ov iv u) (λ_ s'=>∃H',Inv X pins σ H' s'/\Q H') X.xe s
abbrev TIp:=V->V->Hp->VK->Prop
def PIp(X:Cx)(op:Operator)(t:TIp):Prop:=
 ∀(pins:List (Addr×Obj)) (s:Shared) (σ:St) (H:Hp) (x y:V) (v u:Value) (Q:VK),Inv X pins σ H s->RelV x v->RelV y u->t x y H Q->
  wpAny (model X.prog X.w) X.A (inplaceOp op v u) (EP X pins σ Q) X.xe s
section
variable{X:Cx}{pos:Pos}
def wB(i:Nat):TG:=λv σ H Q=>Q (σ.set i (some v)) H
theorem aNu{i:Nat}(hN:X.N.Nodup)(hi:X.N[i]?=some x)(hx:Loc X.env.scope x)(hf:X.fn x=true\/X.env.scope.names.lookup x=some .local:=by first|exact .inl rfl|exact .inr rfl|assumption):PG X (.Name x pos) (wB i):=by
 intro pins s σ H v u Q I r h
 exact wpAny_assign_Name (aDz I hN hi hx r (λs' I'=>⟨_,H,I',h⟩) hf)
def aNv:TGs:=λvs σ H Q=>vs=[]/\Q σ H
def aJu(t:TG)(u:TGs):TGs:=λvs σ H Q=>∃v r,vs=v::r/\t v σ H λσ' H'=>u r σ' H' Q
theorem aNw:PGs X [] aNv:=by
 intro pins s σ H vs us Q I r h
 obtain⟨e,h⟩:=h
 subst e
 cases r
 exact assignInOrder_nil ⟨σ,H,I,h⟩
theorem aLn{e:Expr}{es:List Expr}{t:TG}{u:TGs}(h1:PG X e t)(h2:PGs X es u)
  (hs:(assignEach (e::es) X.env).map (·.2)=assign e X.env::(assignEach es X.env).map (·.2):=by rfl):PGs X (e::es) (aJu t u):=by
 intro pins s σ H vs us Q I r h
 obtain⟨v,vr,e1,h⟩:=h
 subst e1
 cases r with
 |cons r rr=>
  rw[hs]
  refine assignInOrder_cons (dI (h1 pins s σ H _ _ _ I r h) λ_ s1 ⟨σ1,H1,I1,q1⟩=>?_)
  exact h2 pins s1 σ1 H1 _ _ Q I1 rr q1
def aNx(K:W.Frag)(n:Nat)(t:TGs):TG:=λv σ H Q=>∃a xs,v=.ref a/\jQ K H a xs/\xs.length=n/\t xs σ H Q
theorem aPB{k:Nat}{n:Nat}(hc:X.calm=true)(h:PGs X es t)(hn:(assignEach es X.env).length=n:=by rfl)(hst:(assignEach es X.env).findIdx? (·.1)=none:=by rfl):PG X (.Tuple es k pos) (aNx X.K n t):=by
 intro pins s σ H v u Q I r hw
 obtain⟨a,xs,e1,hq,hl,hw⟩:=hw
 subst e1
 cases r
 obtain⟨its,rv,ht,hz⟩:=I.tuple hq
 refine assign_Tuple_tuple (I.ok.hd hc) ht (by simp[hn,<-hl,rv.length]) hst λh' hx=>?_
 have I1:Inv X pins σ H { s with heap:=h' }:=I.kept (t':=s.toks) λb o e=>hx b o (vP (j0 e)) e
 exact h pins _ σ H xs _ Q I1 (by simpa using rv) hw
def aPC(to ti:TE)(t:aIu):TG:=λv σ H Q=>to σ H λo H1=>ti σ H1 λi H2=>t o i v H2 λH3=>Q σ H3
theorem aPD{o i:Expr}{to ti:TE}{t:aIu}(ho:PE X o to)(hi:PE X i ti)(hs:aLm X t)
  (ha:∀v,assign (.Subscript o i pos) X.env v=(do
   let ov <-holding [v] (eval o X.env)
   let iv <-holding [v,ov] (eval i X.env)
   standAt pos
   holding [v,ov,iv] (setItem ov iv v)
   release [v,ov,iv] []):=by intro _;rfl):PG X (.Subscript o i pos) (aPC to ti t):=by
 intro pins s σ H v u Q I r h
 rw[ha]
 refine wpAny_bind (wpAny_holding (dI (ho pins s σ H _ I h) λov s1 ⟨x,H1,I1,r1,q1⟩=>?_))
 refine wpAny_bind (wpAny_holding (dI (hi pins s1 σ H1 _ I1 q1) λiv s2 ⟨y,H2,I2,r2,q2⟩=>?_))
 refine wpAny_bind (wpAny_standAt (wpAny_bind (wpAny_holding (dI (hs pins s2 σ H2 x y v ov iv u _ I2 r1 r2 r q2) λ_ s3 ⟨H3,I3,q3⟩=>?_))))
 exact wpAny_release ⟨σ,H3,I3,q3⟩
def aHn(te:TE)(g:TG):TS:=λD σ H=>te σ H λx H1=>g x σ H1 D.nx
theorem aPE{tg e:Expr}{te:TE}{g:TG}(he:PE X e te)(hg:PG X tg g)(hs:swapsWithSole [tg] e pos.line X.env=pure false:=by rfl)(hw:swappedStores [tg] e X.env=pure none:=by rfl)
  (h1:(assignEach [tg] X.env).map (·.2)=[assign tg X.env]:=by rfl):PS X (.Assign [tg] e pos) (aHn te g):=by
 intro pins s σ H D I h
 refine wpAny_Assign_stores (dI (he pins s σ H _ I h) λv s1 ⟨x,H1,I1,r1,q1⟩=>?_) hs hw
 rw[h1]
 exact dI (hg pins s1 σ H1 x v _ I1 r1 q1) λ_ s2 q=>q
theorem aPF{i:Nat}{x:Str}{e:Expr}{te:TE}{pos':Pos}(hN:X.N.Nodup)(hi:X.N[i]?=some x)(hx:Loc X.env.scope x)(he:PE X e te)(hs:swapsWith e (some (.Name x pos')) pos.line X.env=pure false:=by rfl)(hf:X.fn x=true\/X.env.scope.names.lookup x=some .local:=by first|exact .inl rfl|exact .inr rfl|assumption) :
  PS X (.Assign [.Name x pos'] e pos) (aHn te (wB i)):=by
 intro pins s σ H D I h
 refine wpAny_Assign_Name (dI (he pins s σ H _ I h) λv s1 ⟨y,H1,I1,r1,q1⟩=>?_) hs
 exact aDz I1 hN hi hx r1 (λs2 I2=>⟨_,H1,I2,q1⟩) hf
def aPG(i:Nat)(te:TE)(ti:TIp):TS:=λD σ H=>∃x,σ[i]?=some (some x)/\te σ H λy H1=>ti x y H1 λz H2=>D.nx (σ.set i (some z)) H2
theorem aPH{i:Nat}{x:Str}{e:Expr}{te:TE}{op:Operator}{ti:TIp}{pos':Pos}(hN:X.N.Nodup)(hi:X.N[i]?=some x)(hx:Loc X.env.scope x)(he:PE X e te)(ho:PIp X op ti)(hf:X.fn x=true\/X.env.scope.names.lookup x=some .local:=by first|exact .inl rfl|exact .inr rfl|assumption) :
  PS X (.AugAssign (.Name x pos') op e pos) (aPG i te ti):=by
 intro pins s σ H D I h
 obtain⟨v,e1,h⟩:=h
 obtain⟨m,hn,hl⟩:=I.loc
 have vis:Vis X.env.scope x:=by rcases hx with k|k;exact .inl k;exact .inr (.inl k)
 obtain⟨u,r,l⟩:=hl i x v hi e1 vis
 refine wpAny_AugAssign_Name ?_
 have go:wpAny (model X.prog X.w) X.A (eval e X.env) (λw s₂=>wpAny (model X.prog X.w) X.A (inplaceOp op u w) (λr s₃=>wpAny (model X.prog X.w) X.A (storeName X.env x r) (λ_=>SP X pins D .next) X.xe s₃) X.xe s₂) X.xe s:=by
  refine dI (he pins s σ H _ I h) λw s1 ⟨y,H1,I1,r1,q1⟩=>?_
  refine dI (ho pins s1 σ H1 v y u w _ I1 r r1 q1) λz s2 ⟨zv,H2,I2,r2,q2⟩=>?_
  exact aDz I2 hN hi hx r2 (λs3 I3=>⟨_,H2,I3,q2⟩) hf
 rcases l with ⟨hk,hm⟩|⟨hk,c,hc,hcell⟩
 ·exact wpAny_loadName_local I.ok.kind hk hn hm go
 ·rcases hk with hk|hk
  ·exact wpAny_loadName_cell I.ok.kind hk hc hcell go
  ·rcases hx with k|k
   ·have:X.env.scope.names.lookup x=some .free:=hk
    rw[k] at this;cases this
   ·have:X.env.scope.names.lookup x=some .free:=hk
    rw[k] at this;cases this
def aLo(to ti te:TE)(tget:V->V->Hp->VK->Prop)(tip:TIp)(tset:aIu):TS:=λD σ H=>to σ H λo H1=>ti σ H1 λi H2=>tget o i H2 λx H3=>te σ H3 λy H4=>tip x y H4 λz H5=>tset o i z H5 λH6=>D.nx σ H6
def aPI(X:Cx)(t:V->V->Hp->VK->Prop):Prop:=
 ∀(pins:List (Addr×Obj)) (s:Shared) (σ:St) (H:Hp) (o i:V) (ov iv:Value) (Q:VK),Inv X pins σ H s->RelV o ov->RelV i iv->t o i H Q->
  wpAny (model X.prog X.w) X.A (getItem ov iv) (EP X pins σ Q) X.xe s
theorem aNy{o i e:Expr}{to ti te:TE}{tget:V->V->Hp->VK->Prop}{tip:TIp}{tset:aIu}{op:Operator}{tpos:Pos}(ho:PE X o to)(hi:PE X i ti)(hg:aPI X tget)(he:PE X e te)(hp:PIp X op tip)(hs:aLm X tset)
  (ha:∀ov iv new,augStore i ov iv new=(do holding [new,ov,iv] (setItem ov iv new);release [new,ov,iv] [];pure .next):=by intros;rfl):PS X (.AugAssign (.Subscript o i tpos) op e pos) (aLo to ti te tget tip tset):=by
 intro pins s σ H D I h
 refine wpAny_AugAssign_SubscriptAny (dI (ho pins s σ H _ I h) λov s1 ⟨x1,H1,I1,r1,q1⟩=>?_) ha
 refine dI (hi pins s1 σ H1 _ I1 q1) λiv s2 ⟨x2,H2,I2,r2,q2⟩=>?_
 refine dI (hg pins s2 σ H2 x1 x2 ov iv _ I2 r1 r2 q2) λold s3 ⟨x3,H3,I3,r3,q3⟩=>?_
 refine dI (he pins s3 σ H3 _ I3 q3) λv s4 ⟨x4,H4,I4,r4,q4⟩=>?_
 refine dI (hp pins s4 σ H4 x3 x4 old v _ I4 r3 r4 q4) λnew s5 ⟨x5,H5,I5,r5,q5⟩=>?_
 exact dI (hs pins s5 σ H5 x1 x2 x5 ov iv new _ I5 r1 r2 r5 q5) λ_ s6 ⟨H6,I6,q6⟩=>⟨σ,H6,I6,q6⟩
def ipI(f:Int->Int->Int):TIp:=λx y H Q=>∃i j,x=.int i/\y=.int j/\Q (.int (f i j)) H
theorem aDB:PIp X .Add (ipI λi j=>i+j):=by
 intro pins s σ H x y v u Q I r1 r2 h
 obtain⟨i,j,e1,e2,q⟩:=h
 subst e1;subst e2
 obtain⟨t,rfl⟩:=r1
 obtain⟨t',rfl⟩:=r2
 exact iadd_int ⟨.int _,H,I.tok _,⟨_,rfl⟩,q⟩
theorem aLp:PIp X .Sub (ipI λi j=>i - j):=by
 intro pins s σ H x y v u Q I r1 r2 h
 obtain⟨i,j,e1,e2,q⟩:=h
 subst e1;subst e2
 obtain⟨t,rfl⟩:=r1
 obtain⟨t',rfl⟩:=r2
 exact isub_int ⟨.int _,H,I.tok _,⟨_,rfl⟩,q⟩
end
section
variable{X:Cx}{pos:Pos}
end
structure It where
 go:Nat->Hp->Prop
 yld:Nat->Hp->V->Hp->Prop
 stop:Nat->Hp->Prop
def aAO(X:Cx)(pins:List (Addr×Obj))(H:Hp)(b:Addr):Prop:=
 H b=none/\b≠X.env.locals/\b∉X.fs/\(b∈X.ex\/X.s₀.heap.objs.size<=b)/\(∀x c,X.env.cells.lookup x=some c->c≠b)/\∀p∈X.pn++pins,p.1≠b
theorem Inv.aF8{s:Shared}(I:Inv X pins σ H s)(hb:s.heap.objs.size<=b)(hn:H' b=none):aAO X pins H' b:=by
 refine⟨hn,Sd9 (zF I.lt hb),I.aRQ hb,.inr (Rr9 I.sz hb),λx c e z=>?_,λp hp z=>?_⟩
 ·obtain⟨v,q⟩:=I.cell x c e
  exact absurd (zF q.lt (by rw[z];exact hb)) (Rs9 _)
 ·exact absurd (zF (j0 (I.pin p hp).1) (by rw[z];exact hb)) (Rs9 _)
structure Turn(P:Program)(w:World)(K:W.Frag)(tg:Expr)(J:It)(fp:List Addr)(it:Addr)(tn:Nat->Heap->Prop):Prop where
 mem:it∈fp
 obj:∀i h,tn i h->∀b∈fp,∃o,h.get? b=some o/\∀v,o.data≠.cell v
 keep:∀i h h',tn i h->(∀b∈fp,∀o,h.get? b=some o->h'.get? b=some o)->tn i h'
 item:∀(X:Cx),X.prog=P->X.w=w->X.K=K->X.calm=true->∀(i:Nat) (pins:List (Addr×Obj)) (s:Shared) (σ:St) (H:Hp) (E:Value->Shared->Prop),Inv X pins σ H s->(∀b∈fp,aAO X pins H b)->tn i s.heap->J.go i H->
  wpAny (model P w) X.A (pyNext (.ref it)) (λr s1=>∃u,r=some u/\
   wpAny (model P w) X.A (letOwnedTupleGo tg (.ref it) u) (λ_ s2=>∃x H',Inv X pins σ H' s2/\RelV x u/\J.yld i H x H'/\tn (i+1) s2.heap/\∀b∈fp,H' b=none) E s1) E s
 done:∀(X:Cx),X.prog=P->X.w=w->X.K=K->X.calm=true->∀(i:Nat) (pins:List (Addr×Obj)) (s:Shared) (σ:St) (H:Hp) (E:Value->Shared->Prop),Inv X pins σ H s->(∀b∈fp,aAO X pins H b)->tn i s.heap->J.stop i H->
  wpAny (model P w) X.A (pyNext (.ref it)) (λr s1=>r=none/\Inv X pins σ H s1) E s
 self:∀(A:Around) (i:Nat) (s:Shared) (Q:Value->Shared->Prop) (E:Value->Shared->Prop),tn i s.heap->Q (.ref it) s->wpAny (model P w) A (pyIter (.ref it)) Q E s
abbrev TI:=St->Hp->(It->Hp->Prop)->Prop
def PIE(X:Cx)(pins:List (Addr×Obj))(σ:St)(tg:Expr)(R:It->Hp->Prop)(itv:Value)(s2:Shared):Prop:=
 ∃(it:Addr) (fp:List Addr) (tn:Nat->Heap->Prop) (J:It) (H':Hp),itv=.ref it/\Inv X pins σ H' s2/\Turn X.prog X.w X.K tg J fp it tn/\tn 0 s2.heap/\(∀b∈fp,aAO X pins H' b)/\R J H'
def PI(X:Cx)(tg iter:Expr)(wi:TI):Prop:=
 ∀(pins:List (Addr×Obj)) (s:Shared) (σ:St) (H:Hp) (R:It->Hp->Prop),Inv X pins σ H s->wi σ H R->
  wpAny (model X.prog X.w) X.A (eval iter X.env) (λv s1=>wpAny (model X.prog X.w) X.A (pyIter v) (PIE X pins σ tg R) X.xe s1) X.xe s
theorem aJv{E:Value->Shared->Prop}{s:Shared}{o:Obj}{Q:Unit->Shared->Prop}(ho:s.heap.get? it=some o)(hc:o.cls=.type n)(hd:o.data=.fields vs)(hn:["enumerate","zip","dict_itemiterator","dict_reverseitemiterator","odict_iterator","itertools.zip_longest","itertools.pairwise"].contains n=false)(hQ:Q () s):wpAny M A (letOwnedTupleGo tg (.ref it) u) Q E s:=by
 unfold letOwnedTupleGo
 cases tg <;> first
  |exact wpAny_pure hQ
  |(cases u <;> first
    |exact wpAny_pure hQ
    |(
      refine wpAny_bind (wpAny_load ho ?_)
      rw[hc,hd]
      show wpAny M A (if (["enumerate","zip","dict_itemiterator","dict_reverseitemiterator","odict_iterator","itertools.zip_longest","itertools.pairwise"].contains n && vs[0]? == some (rawInt _))=true then _ else _) Q E s
      rw[if_neg (by intro h;rw[hn,Sj9] at h;cases h)]
      exact wpAny_pure hQ))
def Itl(K:W.Frag)(a:Addr):It:=
 ⟨λi H=>∃xs x,bX K H a xs/\xs[i]?=some x,λi H x H'=>H'=H/\∀xs,bX K H a xs->xs[i]?=some x,λi H=>∃xs,bX K H a xs/\xs.length<=i⟩
def Itt(K:W.Frag)(a:Addr):It:=
 ⟨λi H=>∃xs x,jQ K H a xs/\xs[i]?=some x,λi H x H'=>H'=H/\∀xs,jQ K H a xs->xs[i]?=some x,λi H=>∃xs,jQ K H a xs/\xs.length<=i⟩
def Itr(lo:Int)(n:Nat):It:=⟨λi _=>i < n,λi H x H'=>H'=H/\x=.int (lo+i),λi _=>n<=i⟩
theorem aKg{P:Program}{w:World}{K:W.Frag}{tg:Expr}(a it:Addr):Turn P w K tg (Itl K a) [it] it (λi h=>h.IsListIter it a i) where
 mem:=by simp
 obj:=λi h st b hb=>by
  have e:b=it:=by simpa using hb
  subst e
  obtain⟨o,e,c,d⟩:=st
  exact⟨o,e,λv z=>by rw[d] at z;cases z⟩
 keep:=λi h h' st k=>st.at λo e=>k it (by simp) o e
 item:=by
  intro X hP hw hK hc i pins s σ H E I hf st hg
  subst hP hw hK
  obtain⟨xs,x,hq,hx⟩:=hg
  obtain⟨its,rv,p,hz⟩:=I.list hq
  obtain⟨u,hu,ru⟩:=rv.get hx
  obtain⟨f0,f1,f2,f3,f4,f5⟩:=hf it (by simp)
  refine wpAny_pyNext_list_item st p.isList (x:=u) (by simpa using hu) λh' st' sb=>?_
  have I1:Inv X pins σ H { s with heap:=h' }:=I.turned (t':=s.toks) (λb o hb e=>(sb.2 b hb).trans e) f0 f1 f3 f4 f5
  obtain⟨o,e,c,d⟩:=id st'
  exact⟨u,rfl,aJv (s:={ s with heap:=h' }) e c d (by decide) ⟨x,H,I1,ru,⟨rfl,λys hy=>by rw[I.aDA hy hq];exact hx⟩,st',λb hb=>(hf b hb).1⟩⟩
 done:=by
  intro X hP hw hK hc i pins s σ H E I hf st hg
  subst hP hw hK
  obtain⟨xs,hq,hx⟩:=hg
  obtain⟨its,rv,p,hz⟩:=I.list hq
  obtain⟨f0,f1,f2,f3,f4,f5⟩:=hf it (by simp)
  have hl:=rv.length
  exact wpAny_pyNext_list_end (I.ok.hd hc) st p.isList (by simp;omega) λh' eb=>⟨rfl,I.turned (t':=s.toks) (λb o hb e=>eb b o hb e) f0 f1 f3 f4 f5⟩
 self:=λ_ _ _ _ _ st h=>wpAny_pyIter_listiter st h
theorem aIv{P:Program}{w:World}{K:W.Frag}{tg:Expr}(a it:Addr):Turn P w K tg (Itt K a) [it] it (λi h=>h.IsTupleIter it a i) where
 mem:=by simp
 obj:=λi h st b hb=>by
  have e:b=it:=by simpa using hb
  subst e
  obtain⟨o,e,c,d⟩:=st
  exact⟨o,e,λv z=>by rw[d] at z;cases z⟩
 keep:=λi h h' st k=>st.at λo e=>k it (by simp) o e
 item:=by
  intro X hP hw hK hc i pins s σ H E I hf st hg
  subst hP hw hK
  obtain⟨xs,x,hq,hx⟩:=hg
  obtain⟨its,rv,p,hz⟩:=I.tuple hq
  obtain⟨u,hu,ru⟩:=rv.get hx
  obtain⟨f0,f1,f2,f3,f4,f5⟩:=hf it (by simp)
  refine wpAny_pyNext_tuple_item st (show s.heap.IsTuple a its.toArray from p) (x:=u) (by simpa using hu) λh' st' sb=>?_
  have I1:Inv X pins σ H { s with heap:=h' }:=I.turned (t':=s.toks) (λb o hb e=>(sb.2 b hb).trans e) f0 f1 f3 f4 f5
  obtain⟨o,e,c,d⟩:=id st'
  exact⟨u,rfl,aJv (s:={ s with heap:=h' }) e c d (by decide) ⟨x,H,I1,ru,⟨rfl,λys hy=>by rw[I.aFw hy hq];exact hx⟩,st',λb hb=>(hf b hb).1⟩⟩
 done:=by
  intro X hP hw hK hc i pins s σ H E I hf st hg
  subst hP hw hK
  obtain⟨xs,hq,hx⟩:=hg
  obtain⟨its,rv,p,hz⟩:=I.tuple hq
  obtain⟨f0,f1,f2,f3,f4,f5⟩:=hf it (by simp)
  have hl:=rv.length
  exact wpAny_pyNext_tuple_end (I.ok.hd hc) st (show s.heap.IsTuple a its.toArray from p) (by simp;omega) λh' eb=>⟨rfl,I.turned (t':=s.toks) (λb o hb e=>eb b o hb e) f0 f1 f3 f4 f5⟩
 self:=λ_ _ _ _ _ st h=>wpAny_pyIter_tupleiter st h
theorem aIw{P:Program}{w:World}{K:W.Frag}{tg:Expr}(it:Addr)(lo:Int)(n:Nat):Turn P w K tg (Itr lo n) [it] it (λi h=>IsRangeIter h it (lo+(i:Nat)*1) ((n:Int) - (i:Nat)) 1) where
 mem:=by simp
 obj:=λi h st b hb=>by
  have e:b=it:=by simpa using hb
  subst e
  exact⟨_,st,λv z=>by
   have z':Data.fields _=Data.cell v:=z
   cases z'⟩
 keep:=λi h h' st k=>k it (by simp) _ st
 item:=by
  intro X hP hw hK hc i pins s σ H E I hf st hg
  subst hP hw hK
  obtain⟨f0,f1,f2,f3,f4,f5⟩:=hf it (by simp)
  have W:=Walks.range (prog:=X.prog) (w:=X.w) (I.ok.hd hc) it lo 1 n
  refine W.item i s _ _ hg st λv h' tk hv st' kk=>?_
  obtain⟨t,rfl⟩:=hv
  have I1:Inv X pins σ H { s with heap:=h',toks:=tk }:=I.turned (λb o hb e=>kk b o (by simpa using hb) e) f0 f1 f3 f4 f5
  refine⟨_,rfl,aJv (s:={ s with heap:=h',toks:=tk }) (n:="range_iterator") st' rfl rfl (by decide) ⟨.int (lo+i),H,I1,⟨t,?_⟩,⟨rfl,rfl⟩,st',λb hb=>(hf b hb).1⟩⟩
  rw[Int.mul_one]
 done:=by
  intro X hP hw hK hc i pins s σ H E I hf st hg
  subst hP hw hK
  obtain⟨f0,f1,f2,f3,f4,f5⟩:=hf it (by simp)
  exact wpAny_pyNext_range_end (I.ok.hd hc) st (by have:n<=i:=hg;omega) λh' eb=>⟨rfl,I.turned (t':=s.toks) (λb o hb e=>eb b o hb e) f0 f1 f3 f4 f5⟩
 self:=λ_ _ _ _ _ st h=>wpAny_pyIter_rangeiter st h
end L2
namespace L2
open PySem PySem.Spec PyProof.Rows
section
variable{X:Cx}{tg:Expr}
def aLq(K:W.Frag)(tl:TE):TI:=λσ H R=>tl σ H λx H1=>∃a,x=.ref a/\(∃xs,bX K H1 a xs)/\R (Itl K a) H1
def aPJ(K:W.Frag)(tl:TE):TI:=λσ H R=>tl σ H λx H1=>∃a,x=.ref a/\(∃xs,jQ K H1 a xs)/\R (Itt K a) H1
theorem aNz{l:Expr}{tl:TE}(hl:PE X l tl):PI X tg l (aLq X.K tl):=by
 intro pins s σ H R I h
 refine dI (hl pins s σ H _ I h) λv s1 ⟨x,H1,I1,r1,q1⟩=>?_
 obtain⟨a,e,⟨xs,hq⟩,q⟩:=q1
 subst e
 cases r1
 obtain⟨its,rv,p,hz⟩:=I1.list hq
 refine wpAny_pyIter_list p.isList ?_
 refine⟨s1.heap.objs.size,[s1.heap.objs.size],_,_,H1,rfl,I1.kept (t':=s1.toks) λb o e=>fH _ e,aKg a _,⟨_,tE _ rfl,rfl,rfl⟩,λb hb=>?_,q⟩
 have e:b=s1.heap.objs.size:=by simpa using hb
 subst e
 exact I1.aF8 (eA _) (I1.hok.fresh (eA _))
theorem aPK{l:Expr}{tl:TE}(hl:PE X l tl):PI X tg l (aPJ X.K tl):=by
 intro pins s σ H R I h
 refine dI (hl pins s σ H _ I h) λv s1 ⟨x,H1,I1,r1,q1⟩=>?_
 obtain⟨a,e,⟨xs,hq⟩,q⟩:=q1
 subst e
 cases r1
 obtain⟨its,rv,p,hz⟩:=I1.tuple hq
 refine wpAny_pyIter_tuple (show s1.heap.IsTuple a its.toArray from p) ?_
 refine⟨s1.heap.objs.size,[s1.heap.objs.size],_,_,H1,rfl,I1.kept (t':=s1.toks) λb o e=>fH _ e,aIv a _,⟨_,tE _ rfl,rfl,rfl⟩,λb hb=>?_,q⟩
 have e:b=s1.heap.objs.size:=by simpa using hb
 subst e
 exact I1.aF8 (eA _) (I1.hok.fresh (eA _))
theorem aHo{s:Shared}{R:It->Hp->Prop}{E:Value->Shared->Prop}{lo hi:Int}{t u v:Tok}{tk:Nat}(I:Inv X pins σ H s)(h1:-(2 ^ 62)<=lo)(h2:lo < 2 ^ 62)(h3:-(2 ^ 62)<=hi)(h4:hi < 2 ^ 62)(q:R (Itr lo (hi - lo).toNat) H):wpAny (model X.prog X.w) X.A (pyIter (.ref s.heap.objs.size)) (PIE X pins σ tg R) E { s with heap:=s.heap.push { cls:=.type "range",data:=.fields #[.int lo t,.int hi u,.int 1 v] },toks:=tk }:=by
 refine wpAny_pyIter_range (IsRange.new ..) (small_one h1 h2 h3 h4) ?_
 have I1:Inv X pins σ H { s with heap:=s.heap.push { cls:=.type "range",data:=.fields #[.int lo t,.int hi u,.int 1 v] },toks:=tk }:=I.kept λb o e=>fH _ e
 refine⟨(s.heap.push { cls:=.type "range",data:=.fields #[.int lo t,.int hi u,.int 1 v] }).objs.size,[(s.heap.push { cls:=.type "range",data:=.fields #[.int lo t,.int hi u,.int 1 v] }).objs.size],_,_,H,rfl,
  I1.kept (t':=tk) λb o e=>fH _ e,aIw _ lo (hi - lo).toNat,?_,λb hb=>?_,q⟩
 ·have e1:lo+((0:Nat):Int)*1=lo:=by simp
  have e2:(((hi - lo).toNat:Nat):Int) - ((0:Nat):Int)=Builtin.Range.rangeSize lo hi 1:=by rw[rangeSize_one];split <;> omega
  show IsRangeIter _ _ (lo+((0:Nat):Int)*1) ((((hi - lo).toNat:Nat):Int) - ((0:Nat):Int)) 1
  rw[e1,e2]
  exact tE _ rfl
 ·have e:b=(s.heap.push { cls:=.type "range",data:=.fields #[.int lo t,.int hi u,.int 1 v] }).objs.size:=by simpa using hb
  subst e
  exact I1.aF8 (eA _) (I1.hok.fresh (eA _))
def aJw(ta:TA):TI:=λσ H R=>ta σ H λvs H1=>∃j:Int,vs=[.int j]/\-(2 ^ 62)<=j/\j < 2 ^ 62/\R (Itr 0 j.toNat) H1
def aJx(ta:TA):TI:=λσ H R=>ta σ H λvs H1=>∃i j:Int,vs=[.int i,.int j]/\(-(2 ^ 62)<=i/\i < 2 ^ 62/\-(2 ^ 62)<=j/\j < 2 ^ 62)/\R (Itr i (j - i).toNat) H1
theorem aKh{a:Expr}{ta:TA}{p pos:Pos}(hg:Gl X "range")(hm:X.mg "range" = none)(ha:PA X [a] ta)(hs:starEach [a] X.env=[(false,eval a X.env)]:=by rfl):PI X tg (.Call (.Name "range" p) [a] [] pos) (aJw ta):=by
 intro pins s σ H R I h
 refine Call_ (pH I hg hm boot_range (PyProof.Rows.callWith_type1 (dI (ha pos pins s σ H _ I h) λus s1 ⟨vs,H1,I1,r1,q1⟩=>?_) hs rfl))
 obtain⟨j,e,q1,q2,q⟩:=q1
 subst e
 cases r1 with
 |cons r rr=>
  cases rr
  obtain⟨t,rfl⟩:=r
  exact call_range_1 (aHo I1 (by omega) (by omega) q1 q2 (by simpa using q))
theorem aKi{a b:Expr}{ta:TA}{p pos:Pos}(hg:Gl X "range")(hm:X.mg "range" = none)(ha:PA X [a,b] ta)(hs:starEach [a,b] X.env=[(false,eval a X.env),(false,eval b X.env)]:=by rfl)(hs2:starEach [b] X.env=[(false,eval b X.env)]:=by rfl) :
  PI X tg (.Call (.Name "range" p) [a,b] [] pos) (aJx ta):=by
 intro pins s σ H R I h
 refine Call_ (pH I hg hm boot_range (PyProof.Rows.callWith_type1 (dI (ha pos pins s σ H _ I h) λus s1 ⟨vs,H1,I1,r1,q1⟩=>?_) (by rw[hs,hs2]) (by rw[hs2];rfl)))
 obtain⟨i,j,e,⟨q1,q2,q3,q4⟩,q⟩:=q1
 subst e
 cases r1 with
 |cons r rr=>
  cases rr with
  |cons r' rr=>
   cases rr
   obtain⟨t,rfl⟩:=r
   obtain⟨t',rfl⟩:=r'
   exact call_range_2 (aHo I1 q1 q2 q3 q4 q)
def aPL(wi:TI)(g:TG)(tb:TS):TS:=λD σ H=>wi σ H λJ H1=>∃W:Nat->Nat->St->Hp->Prop,(∃m,W 0 m σ H1)/\∀i m σ H,W i m σ H->
 (J.stop i H/\D.nx σ H)\/(J.go i H/\∃N:St->Hp->Prop,(∀σ' H',N σ' H'->∃m',m' < m/\W (i+1) m' σ' H')/\∀x H',J.yld i H x H'->g x σ H' λσ2 H2=>tb { D with nx:=N,ct:=N,bk:=D.nx } σ2 H2)
def aDC(fp:List Addr)(h:Heap):List (Addr×Obj):=fp.filterMap λb=>(h.get? b).map λo=>(b,o)
theorem uJ{h:Heap}(hb:b∈fp)(e:h.get? b=some o):(b,o)∈aDC fp h:=List.mem_filterMap.mpr ⟨b,hb,by rw[e];rfl⟩
theorem aKj{h:Heap}{p:Addr×Obj}(hp:p∈aDC fp h):p.1∈fp/\h.get? p.1=some p.2:=by
 obtain⟨b,hb,e⟩:=List.mem_filterMap.mp hp
 cases q:h.get? b with
 |none=>rw[q] at e;cases e
 |some o=>
  rw[q] at e
  have e':(b,o)=p:=Option.some.inj e
  subst e'
  exact⟨hb,q⟩
theorem Inv.pinned{s:Shared}(I:Inv X pins σ H s)(hf:∀b∈fp,aAO X pins H b)(ho:∀b∈fp,∃o,s.heap.get? b=some o/\∀v,o.data≠.cell v):Inv X (pins++aDC fp s.heap) σ H s:=
 I.aDo λp hp=>(Rk9.mp hp).elim (λz=>I.pin p (Ra9 _ z)) λz=>by
  obtain⟨hb,e⟩:=aKj z
  obtain⟨f0,f1,f2,_⟩:=hf p.1 hb
  obtain⟨o,e',d⟩:=ho p.1 hb
  rw[e] at e';cases e'
  exact⟨e,f0,f1,f2,d⟩
theorem Inv.aAP(I:Inv X (pins++pl) σ H s):Inv X pins σ H s:=I.aDo λp hp=>I.pin p (Ra9 _ (Sl9 _ hp))
theorem aPM{iter:Expr}{body:List Stmt}{wi:TI}{g:TG}{tb:TS}{pos:Pos}(hp:PassesOwn (model X.prog X.w) X.A X.env X.xe)(hc:X.calm=true)(hi:PI X tg iter wi)(hg:PG X tg g)(hb:PSs X body tb)
  (hs:∀x,foldedSetIterable iter X.env x=pure x:=by intro _;rfl):PS X (.For tg iter body [] pos) (aPL wi g tb):=by
 intro pins s σ H D I h
 refine wpAny_For (dI (hi pins s σ H _ I h) λv s1 h1=>dI h1 λitv s2 h2=>?_) hs
 obtain⟨it,fp,tn,J,H2,e,I2,T,st2,f2,W,⟨m0,w0⟩,turn⟩:=h2
 subst e
 have stat:∀{H':Hp},(∀b∈fp,H' b=none)->∀b∈fp,aAO X pins H' b:=λhn b hb=>⟨hn b hb,(f2 b hb).2⟩
 refine codeAny_forLoop_any (λn s'=>∃i σ' H',Inv X pins σ' H' s'/\tn i s'.heap/\(∀b∈fp,H' b=none)/\W i n σ' H') ?_ m0 ⟨0,σ,H2,I2,st2,λb hb=>(f2 b hb).1,w0⟩
 rintro n s3 ⟨i,σ3,H3,I3,st3,fr3,w3⟩
 rcases turn i n σ3 H3 w3 with ⟨stop,qn⟩|⟨go,N,hN,step⟩
 ·refine wpAny_passesOwn hp (dI (T.done X rfl rfl rfl hc i pins s3 σ3 H3 X.xe I3 (stat fr3) st3 stop) λr s4 ⟨hr,I4⟩=>?_)
  subst hr
  exact wpAny_execs_nil ⟨σ3,H3,I4,qn⟩
 ·refine wpAny_passesOwn hp (dI (T.item X rfl rfl rfl hc i pins s3 σ3 H3 X.xe I3 (stat fr3) st3 go) λr s4 ⟨u,hr,h4⟩=>?_)
  subst hr
  refine wpAny_passesOwn hp (dI h4 λ_ s5 ⟨x,H5,I5,r5,y5,st5,fr5⟩=>?_)
  have I5':=I5.pinned (stat fr5) (T.obj _ _ st5)
  refine wpAny_passesOwn hp (dI (hg _ s5 σ3 H5 x u _ I5' r5 (step x H5 y5)) λ_ s6 ⟨σ6,H6,I6,q6⟩=>?_)
  refine wpAny_passesOwn hp (dI (hb _ s6 σ6 H6 _ I6 q6) λf s7 q7=>?_)
  have again:∀{σ7:St} {H7:Hp},Inv X (pins++aDC fp s5.heap) σ7 H7 s7->N σ7 H7->∃m,m < n/\∃i σ' H',Inv X pins σ' H' s7/\tn i s7.heap/\(∀b∈fp,H' b=none)/\W i m σ' H':=λ{σ7 H7} I7 n7=>by
   obtain⟨m',hm,w7⟩:=hN σ7 H7 n7
   refine⟨m',hm,i+1,σ7,H7,I7.aAP,T.keep _ _ _ st5 λb hb o e=>(I7.pin (b,o) (Ra9 _ (Ra9 _ (uJ hb e)))).1,λb hb=>?_,w7⟩
   obtain⟨o,e,d⟩:=T.obj _ _ st5 b hb
   exact(I7.pin (b,o) (Ra9 _ (Ra9 _ (uJ hb e)))).2.1
  cases f with
  |next=>obtain⟨σ7,H7,I7,n7⟩:=q7;exact again I7 n7
  |cont=>obtain⟨σ7,H7,I7,n7⟩:=q7;exact again I7 n7
  |brk=>obtain⟨σ7,H7,I7,q7⟩:=q7;exact⟨σ7,H7,I7.aAP,q7⟩
  |ret v=>obtain⟨x7,σ7,H7,I7,r7,q7⟩:=q7;exact⟨x7,σ7,H7,I7.aAP,r7,q7⟩
end
theorem aLr{K:W.Frag}{a:Addr}{xs:List V}{g:TG}{tb:TS}{D:Ends}{σ:St}{H:Hp}(Pv:Nat->St->Hp->Prop)(h0:Pv 0 σ H)(hl:∀i σ H,i<=xs.length->Pv i σ H->bX K H a xs)
  (hs:∀i x σ H,xs[i]?=some x->Pv i σ H->g x σ H λσ2 H2=>tb { D with nx:=Pv (i+1),ct:=Pv (i+1),bk:=D.nx } σ2 H2) (hd:∀σ H,Pv xs.length σ H->D.nx σ H) :
  ∃W:Nat->Nat->St->Hp->Prop,(∃m,W 0 m σ H)/\∀i m σ H,W i m σ H->
   ((Itl K a).stop i H/\D.nx σ H)\/((Itl K a).go i H/\∃N:St->Hp->Prop,(∀σ' H',N σ' H'->∃m',m' < m/\W (i+1) m' σ' H')/\∀x H',(Itl K a).yld i H x H'->g x σ H' λσ2 H2=>tb { D with nx:=N,ct:=N,bk:=D.nx } σ2 H2):=by
 refine⟨λi m σ H=>m=xs.length - i/\i<=xs.length/\Pv i σ H,⟨xs.length,by simp,Rl9 _,h0⟩,?_⟩
 rintro i m σ H ⟨rfl,hi,p⟩
 have q:=hl i σ H hi p
 by_cases hlt:i < xs.length
 ·refine .inr ⟨⟨xs,xs[i],q,by simp[hlt]⟩,Pv (i+1),λσ' H' p'=>⟨xs.length - (i+1),by omega,rfl,hlt,p'⟩,λx H' y=>?_⟩
  obtain⟨e,y⟩:=y
  subst e
  exact hs i x σ _ (y xs q) p
 ·have e:i=xs.length:=by omega
  subst e
  exact .inl ⟨⟨xs,q,eA _⟩,hd σ H p⟩
theorem aNA{K:W.Frag}{a:Addr}{xs:List V}{g:TG}{tb:TS}{D:Ends}{σ:St}{H:Hp}(Pv:Nat->St->Hp->Prop)(h0:Pv 0 σ H)(hl:∀i σ H,i<=xs.length->Pv i σ H->jQ K H a xs)
  (hs:∀i x σ H,xs[i]?=some x->Pv i σ H->g x σ H λσ2 H2=>tb { D with nx:=Pv (i+1),ct:=Pv (i+1),bk:=D.nx } σ2 H2) (hd:∀σ H,Pv xs.length σ H->D.nx σ H) :
  ∃W:Nat->Nat->St->Hp->Prop,(∃m,W 0 m σ H)/\∀i m σ H,W i m σ H->
   ((Itt K a).stop i H/\D.nx σ H)\/((Itt K a).go i H/\∃N:St->Hp->Prop,(∀σ' H',N σ' H'->∃m',m' < m/\W (i+1) m' σ' H')/\∀x H',(Itt K a).yld i H x H'->g x σ H' λσ2 H2=>tb { D with nx:=N,ct:=N,bk:=D.nx } σ2 H2):=by
 refine⟨λi m σ H=>m=xs.length - i/\i<=xs.length/\Pv i σ H,⟨xs.length,by simp,Rl9 _,h0⟩,?_⟩
 rintro i m σ H ⟨rfl,hi,p⟩
 have q:=hl i σ H hi p
 by_cases hlt:i < xs.length
 ·refine .inr ⟨⟨xs,xs[i],q,by simp[hlt]⟩,Pv (i+1),λσ' H' p'=>⟨xs.length - (i+1),by omega,rfl,hlt,p'⟩,λx H' y=>?_⟩
  obtain⟨e,y⟩:=y
  subst e
  exact hs i x σ _ (y xs q) p
 ·have e:i=xs.length:=by omega
  subst e
  exact .inl ⟨⟨xs,q,eA _⟩,hd σ H p⟩
theorem aKk{lo:Int}{n:Nat}{g:TG}{tb:TS}{D:Ends}{σ:St}{H:Hp}(Pv:Nat->St->Hp->Prop)(h0:Pv 0 σ H)
  (hs:∀i σ H,i < n->Pv i σ H->g (.int (lo+i)) σ H λσ2 H2=>tb { D with nx:=Pv (i+1),ct:=Pv (i+1),bk:=D.nx } σ2 H2) (hd:∀σ H,Pv n σ H->D.nx σ H) :
  ∃W:Nat->Nat->St->Hp->Prop,(∃m,W 0 m σ H)/\∀i m σ H,W i m σ H->
   ((Itr lo n).stop i H/\D.nx σ H)\/((Itr lo n).go i H/\∃N:St->Hp->Prop,(∀σ' H',N σ' H'->∃m',m' < m/\W (i+1) m' σ' H')/\∀x H',(Itr lo n).yld i H x H'->g x σ H' λσ2 H2=>tb { D with nx:=N,ct:=N,bk:=D.nx } σ2 H2):=by
 refine⟨λi m σ H=>m=n - i/\i<=n/\Pv i σ H,⟨n,by simp,Rl9 _,h0⟩,?_⟩
 rintro i m σ H ⟨rfl,hi,p⟩
 by_cases hlt:i < n
 ·refine .inr ⟨hlt,Pv (i+1),λσ' H' p'=>⟨n - (i+1),by omega,rfl,hlt,p'⟩,λx H' y=>?_⟩
  obtain⟨e,y⟩:=y
  subst e y
  exact hs i σ _ hlt p
 ·have e:i=n:=by omega
  subst e
  exact .inl ⟨eA _,hd σ H p⟩
end L2
namespace L2
open PySem PySem.Spec PyProof.Rows
abbrev R2:=V->V->Hp->VK->Prop
def v9(X:Cx)(f:Value->Value->Sem Value)(r:R2):Prop:=
 ∀(pins:List (Addr×Obj)) (s:Shared) (σ:St) (H:Hp) (x y:V) (v u:Value) (Q:VK),Inv X pins σ H s->RelV x v->RelV y u->r x y H Q->
  wpAny (model X.prog X.w) X.A (f v u) (EP X pins σ Q) X.xe s
def UnR(X:Cx)(f:Value->Sem Value)(r:V->Hp->VK->Prop):Prop:=
 ∀(pins:List (Addr×Obj)) (s:Shared) (σ:St) (H:Hp) (x:V) (v:Value) (Q:VK),Inv X pins σ H s->RelV x v->r x H Q->
  wpAny (model X.prog X.w) X.A (f v) (EP X pins σ Q) X.xe s
def fE(X:Cx)(f:Value)(r:List V->Hp->VK->Prop):Prop:=
 ∀(pins:List (Addr×Obj)) (s:Shared) (σ:St) (H:Hp) (xs:List V) (us:List Value) (Q:VK),Inv X pins σ H s->Vals xs us->r xs H Q->
  wpAny (model X.prog X.w) X.A (call f us) (EP X pins σ Q) X.xe s
def tOp(r:R2)(ta tb:TE):TE:=λσ H Q=>ta σ H λx H1=>tb σ H1 λy H2=>r x y H2 Q
def tUn(r:V->Hp->VK->Prop)(ta:TE):TE:=λσ H Q=>ta σ H λx H1=>r x H1 Q
def rI(C:Int->Int->Prop)(g:Int->Int->V):R2:=λx y H Q=>∃i j,x=.int i/\y=.int j/\C i j/\Q (g i j) H
def rI0(g:Int->Int->V):R2:=λx y H Q=>∃i j,x=.int i/\y=.int j/\Q (g i j) H
def rU(g:Int->V):V->Hp->VK->Prop:=λx H Q=>∃i,x=.int i/\Q (g i) H
section
variable{X:Cx}{a b c:Expr}{ta tb tc:TE}{pos:Pos}
theorem aPN(ha:PE X a ta)(hb:PE X b tb){pins:List (Addr×Obj)}{s:Shared}{σ:St}{H:Hp}{R:V->V->Hp->Prop}(I:Inv X pins σ H s)
  (h:ta σ H λx H1=>tb σ H1 λy H2=>R x y H2) {Q:Value->Shared->Prop} {f:Value->Value->Sem Value}
  (hf:∀v u s2 x y H2,Inv X pins σ H2 s2->RelV x v->RelV y u->R x y H2->wpAny (model X.prog X.w) X.A (f v u) Q X.xe s2) :
  wpAny (model X.prog X.w) X.A (eval a X.env) (λv s₁=>wpAny (model X.prog X.w) X.A (eval b X.env) (λu s₂=>wpAny (model X.prog X.w) X.A (f v u) Q X.xe s₂) X.xe s₁) X.xe s:=by
 refine dI (ha pins s σ H _ I h) λv s1 ⟨x,H1,I1,r1,q1⟩=>?_
 refine dI (hb pins s1 σ H1 _ I1 q1) λu s2 ⟨y,H2,I2,r2,q2⟩=>?_
 exact hf v u s2 x y H2 I2 r1 r2 q2
theorem aQ9(ho:v9 X (binaryOp op) r)(ha:PE X a ta)(hb:PE X b tb):PE X (.BinOp a op b pos) (tOp r ta tb):=by
 intro pins s σ H Q I h
 exact wpAny_BinOp (aPN ha hb I h λv u s2 x y H2 I2 rx ry q=>ho pins s2 σ H2 x y v u Q I2 rx ry q)
theorem aRa{r:V->Hp->VK->Prop}(ho:UnR X (unaryOp op) r)(ha:PE X a ta):PE X (.UnaryOp op a pos) (tUn r ta):=by
 intro pins s σ H Q I h
 exact UnaryOp_ (dI (ha pins s σ H _ I h) λv s1 ⟨x,H1,I1,r1,q1⟩=>ho pins s1 σ H1 x v Q I1 r1 q1)
theorem opI{f:Value->Value->Sem Value}{C:Int->Int->Prop}{g:Int->Int->Int}
  (rule:∀(i j:Int) (t u:Tok) (s:Shared) (Q:Value->Shared->Prop) (E:Value->Shared->Prop),C i j->Q (.int (g i j) s.toks) { s with toks:=s.toks+1 }->wpAny (model X.prog X.w) X.A (f (.int i t) (.int j u)) Q E s) :
  v9 X f (rI C λi j=>.int (g i j)):=by
 intro pins s σ H x y v u Q I rx ry h
 obtain⟨i,j,rfl,rfl,hc,q⟩:=h
 obtain⟨t,rfl⟩:=rx
 obtain⟨t',rfl⟩:=ry
 exact rule i j t t' s _ _ hc ⟨.int (g i j),H,I.tok _,⟨_,rfl⟩,q⟩
theorem aRb{f:Value->Value->Sem Value}{g:Int->Int->Int}
  (rule:∀(i j:Int) (t u:Tok) (s:Shared) (Q:Value->Shared->Prop) (E:Value->Shared->Prop),Q (.int (g i j) s.toks) { s with toks:=s.toks+1 }->wpAny (model X.prog X.w) X.A (f (.int i t) (.int j u)) Q E s) :
  v9 X f (rI0 λi j=>.int (g i j)):=by
 intro pins s σ H x y v u Q I rx ry h
 obtain⟨i,j,rfl,rfl,q⟩:=h
 obtain⟨t,rfl⟩:=rx
 obtain⟨t',rfl⟩:=ry
 exact rule i j t t' s _ _ ⟨.int (g i j),H,I.tok _,⟨_,rfl⟩,q⟩
theorem aNB{f:Value->Value->Sem Value}{g:Int->Int->Bool}
  (rule:∀(i j:Int) (t u:Tok) (s:Shared) (Q:Value->Shared->Prop) (E:Value->Shared->Prop),Q (.bool (g i j)) s->wpAny (model X.prog X.w) X.A (f (.int i t) (.int j u)) Q E s) :
  v9 X f (rI0 λi j=>.bl (g i j)):=by
 intro pins s σ H x y v u Q I rx ry h
 obtain⟨i,j,rfl,rfl,q⟩:=h
 obtain⟨t,rfl⟩:=rx
 obtain⟨t',rfl⟩:=ry
 exact rule i j t t' s _ _ ⟨.bl (g i j),H,I,rfl,q⟩
def aRS(i j:Int):Prop:=0 < j/\j < 1073741824
def aRT(i j:Int):Prop:=0<=j/\j<=1000000/\i.natAbs < 2 ^ 64
def aLs(i j:Int):Prop:=(-(2 ^ 64) < i/\i < 2 ^ 64)\/(-(2 ^ 64) < j/\j < 2 ^ 64)
theorem aLs.ok{i j:Int}(h:aLs i j):IntMulOk i j:=by
 rcases h with ⟨h1,h2⟩|⟨h1,h2⟩
 ·exact .of_left (intBits_le_64 h1 h2)
 ·exact .of_right (intBits_le_64 h1 h2)
theorem aPO:v9 X (binaryOp .Add) (rI0 λi j=>.int (i+j)):=aRb λ_ _ _ _ _ _ _ q=>add_int q
theorem hU:v9 X (binaryOp .Sub) (rI0 λi j=>.int (i - j)):=aRb λ_ _ _ _ _ _ _ q=>sub_int q
theorem aPP:v9 X (binaryOp .Mult) (rI aLs λi j=>.int (i*j)):=opI λ_ _ _ _ _ _ _ hc q=>mul_int q hc.ok
theorem aF9:v9 X (binaryOp .FloorDiv) (rI aRS λi j=>.int (i / j)):=opI λi j _ _ _ _ _ hc q=>by
 have h1:(0:Int) < j:=hc.1
 have h2:j < 1073741824:=hc.2
 exact floordiv_int (by omega) (by rw[Int.fdiv_eq_ediv_of_nonneg i (by omega)];exact q) (.inl (PyProof.noPylong_small (by omega)))
theorem sJ:v9 X (binaryOp .Mod) (rI (λ_ j=>0 < j) λi j=>.int (i % j)):=opI λi j _ _ _ _ _ hc q=>by
 have h1:(0:Int) < j:=hc
 exact mod_int' (by omega) (by rw[Int.fmod_eq_emod_of_nonneg i (by omega)];exact q)
theorem aIx:v9 X (binaryOp .Pow) (rI aRT λi j=>.int (i ^ j.toNat)):=opI λ_ _ _ _ _ _ _ hc q=>pow_int_small hc.1 hc.2.1 hc.2.2 q
theorem unI{f:Value->Sem Value}{g:Int->Int}
  (rule:∀(i:Int) (t:Tok) (s:Shared) (Q:Value->Shared->Prop) (E:Value->Shared->Prop),Q (.int (g i) s.toks) { s with toks:=s.toks+1 }->wpAny (model X.prog X.w) X.A (f (.int i t)) Q E s) :
  UnR X f (rU λi=>.int (g i)):=by
 intro pins s σ H x v Q I rx h
 obtain⟨i,rfl,q⟩:=h
 obtain⟨t,rfl⟩:=rx
 exact rule i t s _ _ ⟨.int (g i),H,I.tok _,⟨_,rfl⟩,q⟩
theorem aDD:UnR X (unaryOp .USub) (rU λi=>.int (-i)):=unI λ_ _ _ _ _ q=>neg_int q
end
section
variable{X:Cx}{a b c:Expr}{ta tb tc:TE}{pos:Pos}
theorem aOV:v9 X (compareOp .Lt) (rI0 λi j=>.bl (decide (i < j))):=aNB λ_ _ _ _ _ _ _ q=>lt_int q
theorem aCb:v9 X (compareOp .LtE) (rI0 λi j=>.bl (decide (i<=j))):=aNB λ_ _ _ _ _ _ _ q=>le_int q
theorem aDE:v9 X (compareOp .Gt) (rI0 λi j=>.bl (decide (j < i))):=aNB λ_ _ _ _ _ _ _ q=>gt_int q
theorem aOW:v9 X (compareOp .GtE) (rI0 λi j=>.bl (decide (j<=i))):=aNB λ_ _ _ _ _ _ _ q=>ge_int q
theorem v9.or{f:Value->Value->Sem Value}{r':R2}(h:v9 X f r)(h':v9 X f r'):v9 X f (λx y H Q=>r x y H Q\/r' x y H Q):=by
 intro pins s σ H x y v u Q I rx ry q
 rcases q with q|q
 ·exact h pins s σ H x y v u Q I rx ry q
 ·exact h' pins s σ H x y v u Q I rx ry q
theorem bY(b:Expr)(h:op≠.In:=by decide)(h2:op≠.NotIn:=by decide):behindInMarks op b=false:=by
 have e1:(op == CmpOp.In)=false:=by cases op <;> first|rfl|exact absurd rfl h
 have e2:(op == CmpOp.NotIn)=false:=by cases op <;> first|rfl|exact absurd rfl h2
 cases b <;> simp[behindInMarks,e1,e2]
theorem aNC(ho:v9 X (compareOp op) r)(ha:PE X a ta)(hb:PE X b tb)(hm:behindInMarks op b=false):PE X (.Compare a [op] [b] pos) (tOp r ta tb):=by
 intro pins s σ H Q I h
 exact wpAny_Compare1 (aPN ha hb I h λv u s2 x y H2 I2 rx ry q=>ho pins s2 σ H2 x y v u Q I2 rx ry q) hm
def aLt(t:TE):TT:=λσ H Q=>t σ H λx H'=>∃k,x=.bl k/\Q k H'
theorem aND{op:CmpOp}{r:R2}(ho:v9 X (compareOp op) r)(ha:PE X a ta)(hb:PE X b tb)(hm:behindInMarks op b=false):PT X (.Compare a [op] [b] pos) (aLt (tOp r ta tb)):=by
 intro pins s σ H Q I h
 refine wpAny_isTrue_Compare1 (dI (ha pins s σ H _ I h) λv s1 ⟨x,H1,I1,r1,q1⟩=>dI (hb pins s1 σ H1 _ I1 q1) λu s2 ⟨y,H2,I2,r2,q2⟩=>
  dI (ho pins s2 σ H2 x y v u _ I2 r1 r2 q2) λc s3 ⟨z,H3,I3,r3,k,e,q3⟩=>?_) hm
 subst e
 cases r3
 exact wpAny_truthy_bool ⟨H3,I3,q3⟩
def aIy(r r':R2)(ta tb tc:TE):TE:=λσ H Q=>ta σ H λx H1=>tb σ H1 λy H2=>r x y H2 λz H3=>∃k,z=.bl k/\
 (if k=true then tc σ H3 λw' H4=>r' y w' H4 Q else Q (.bl false) H3)
theorem aLu{op op':CmpOp}{r r':R2}(ho:v9 X (compareOp op) r)(ho':v9 X (compareOp op') r')(ha:PE X a ta)(hb:PE X b tb)(hc:PE X c tc)
  (hm:lastMarks [op,op'] [b,c]=false:=by with_unfolding_all rfl):PE X (.Compare a [op,op'] [b,c] pos) (aIy r r' ta tb tc):=by
 intro pins s σ H Q I h
 refine Compare_chain (dI (ha pins s σ H _ I h) λv s1 ⟨x,H1,I1,r1,q1⟩=>chain_link (dI (hb pins s1 σ H1 _ I1 q1) λu s2 ⟨y,H2,I2,r2,q2⟩=>
  dI (ho pins s2 σ H2 x y v u _ I2 r1 r2 q2) λd s3 ⟨z,H3,I3,r3,k,e,q3⟩=>?_)) hm
 subst e
 cases r3
 refine wpAny_truthy_bool ?_
 cases k with
 |false=>exact ite_ff ⟨.bl false,H3,I3,rfl,q3⟩
 |true=>exact ite_tt (chain_last (dI (hc pins s3 σ H3 _ I3 q3) λw' s4 ⟨z',H4,I4,r4,q4⟩=>ho' pins s4 σ H4 y z' u w' Q I4 r2 r4 q4))
theorem aBJ:(sizeLine:Nat) < 2 ^ 63:=by rw[sizeLine_eq];decide
theorem vals1(r:Vals [x] us):∃u,us=[u]/\RelV x u:=by
 cases r with
 |cons r1 r2=>cases r2;exact⟨_,rfl,r1⟩
theorem vals2(r:Vals [x,y] us):∃u w',us=[u,w']/\RelV x u/\RelV y w':=by
 cases r with
 |cons r1 r2=>
  cases r2 with
  |cons r3 r4=>cases r4;exact⟨_,_,rfl,r1,r3⟩
theorem aLv:fE X (.builtin "abs") (λxs H Q=>∃i,xs=[.int i]/\Q (.int (if i < 0 then -i else i)) H):=by
 intro pins s σ H xs us Q I r h
 obtain⟨i,rfl,q⟩:=h
 obtain⟨u,rfl,t,rfl⟩:=vals1 r
 exact call_abs_int λu tk=>⟨.int (if i < 0 then -i else i),H,I.tok _,⟨_,rfl⟩,q⟩
theorem aKl(hc:X.calm=true):fE X (.builtin "max") (λxs H Q=>∃i j,xs=[.int i,.int j]/\Q (.int (if j > i then j else i)) H):=by
 intro pins s σ H xs us Q I r h
 obtain⟨i,j,rfl,q⟩:=h
 obtain⟨u,w',rfl,⟨t,rfl⟩,⟨t',rfl⟩⟩:=vals2 r
 refine max_two_ints (I.ok.hd hc) λh' tk k=>⟨_,H,I.kept k,?_,q⟩
 by_cases hj:j > i
 ·rw[if_pos hj,if_pos hj];exact⟨_,rfl⟩
 ·rw[if_neg hj,if_neg hj];exact⟨_,rfl⟩
theorem aKm(hc:X.calm=true):fE X (.builtin "min") (λxs H Q=>∃i j,xs=[.int i,.int j]/\Q (.int (if j < i then j else i)) H):=by
 intro pins s σ H xs us Q I r h
 obtain⟨i,j,rfl,q⟩:=h
 obtain⟨u,w',rfl,⟨t,rfl⟩,⟨t',rfl⟩⟩:=vals2 r
 refine min_two_ints (I.ok.hd hc) λh' tk k=>⟨_,H,I.kept k,?_,q⟩
 by_cases hj:j < i
 ·rw[if_pos hj,if_pos hj];exact⟨_,rfl⟩
 ·rw[if_neg hj,if_neg hj];exact⟨_,rfl⟩
def aRc(K:W.Frag)(x:V)(H:Hp)(n:Nat):Prop:=
 match x with
 |.str y=>y.length<=sizeLine/\n=y.length
 |.byt y=>y.size<=sizeLine/\n=y.size
 |.ref p=>(∃xs,bX K H p xs/\n=xs.length)\/∃xs,jQ K H p xs/\n=xs.length
 |_=>False
theorem aLw:fE X (.builtin "len") (λxs H Q=>∃x n,xs=[x]/\aRc X.K x H n/\Q (.int n) H):=by
 intro pins s σ H xs us Q I r h
 obtain⟨x,n,rfl,e,q⟩:=h
 obtain⟨u,rfl,rx⟩:=vals1 r
 have hl:=aBJ
 have hs:sizeLine=16777216:=sizeLine_eq
 cases x with
 |str y=>
  obtain⟨t,rfl⟩:=rx
  obtain⟨hy,e'⟩ : y.length<=sizeLine/\n=y.length:=e
  subst e'
  exact len_str (by omega) ⟨.int _,H,I.tok _,⟨_,rfl⟩,q⟩
 |byt y=>
  obtain⟨t,rfl⟩:=rx
  obtain⟨hy,e'⟩ : y.size<=sizeLine/\n=y.size:=e
  subst e'
  exact PySem.W.len_bytes (by omega) ⟨.int _,H,I.tok _,⟨_,rfl⟩,q⟩
 |ref p=>
  cases rx
  have e':(∃xs,bX X.K H p xs/\n=xs.length)\/∃xs,jQ X.K H p xs/\n=xs.length:=e
  rcases e' with ⟨xs,hx,e'⟩|⟨xs,hx,e'⟩
  ·subst e'
   obtain⟨its,r',pl,hz⟩:=I.list hx
   have hlen:=r'.length
   exact Calls.call_len_list pl.isList (by simp only[mF];omega) ⟨.int xs.length,H,I.tok _,⟨_,by simp only[mF];rw[hlen]⟩,q⟩
  ·subst e'
   obtain⟨its,r',pl,hz⟩:=I.tuple hx
   have hlen:=r'.length
   exact len_tuple pl (by simp only[mF];omega) ⟨.int xs.length,H,I.tok _,⟨_,by simp only[mF];rw[hlen]⟩,q⟩
 |_=>exact(show False from e).elim
end
end L2
namespace L2
open PySem PySem.Spec PyProof.Rows
structure aIz(h:Heap)(x dx C:Addr)(mA:Str->Option Value):Prop where
 obj:h.get? x=some (PySem.W.instObj C dx)
 ns:h.Ns1 dx mA
 ne:dx≠x
theorem aKn{h:Heap}{mA:Str->Option Value}(n:h.Ns1 dx mA):∃od,h.get? dx=some od/\∀name,PySem.W.lookIn name od=some (mA name):=by
 obtain⟨o,es,ep,ho,hd,hk,_,hm⟩:=n
 refine⟨o,ho,λname=>?_⟩
 have e:=hm name
 unfold nsFind findBy at e
 rw[<-Array.find?_toList] at e
 unfold PySem.W.lookIn
 rw[hd]
 dsimp only
 split
 ·rename_i y q
  rw[q] at e
  exact congrArg some e
 ·rename_i q
  rw[q] at e
  have a:es.toList.any (·.refKey)=false:=by
   rw[List.any_eq_false]
   intro y hy
   obtain⟨z,t,hkey⟩:=hk y (Array.mem_toList_iff.mp hy)
   simp[DictEntry.refKey,hkey]
  have a':¬es.toList.any (·.refKey)=true:=by rw[a];exact Qq9
  rw[if_neg a']
  exact congrArg some e
theorem aIz.look{mA:Str->Option Value}(I:aIz h x dx C mA):∃od,PySem.W.InstAt h x (PySem.W.instObj C dx) C (some od)/\∀name,PySem.W.lookIn name od=some (mA name):=
 let ⟨od,ho,hl⟩:=aKn I.ns
 ⟨od,⟨I.obj,rfl,rfl,ho⟩,hl⟩
section
variable{prog:Program}{w:World}{A:Around}{E:Value->Shared->Prop}{s:Shared}{K:W.Frag}{x dx C f:Addr}{mA:Str->Option Value}{name:Str}{v:Value}
theorem get_map{expr:Bool}{Q:Value->Shared->Prop}(X:K.In s.heap)(I:aIz s.heap x dx C mA)(hg:PySem.W.plainGet K C name=true)(hh:PySem.W.hasDictIn K C=true)
  (ha:W.findIn K (.ref C) name=some none) (hv:mA name=some v) (hv':PySem.W.handedIn v=true) (h:Q v { s with toks:=s.toks+1 }) :
  wpAny (model prog w) A (getAttr (.ref x) name expr) Q E s:=by
 obtain⟨od,J,hl⟩:=I.look
 exact PySem.W.get_value X J (PySem.W.plainGet_of hg).1 (PySem.W.findObj_own hh ha rfl (by rw[hl,hv])) hv' h
theorem aLx{pl:Sem Bool}{Q:Value×List Value->Shared->Prop}(X:K.In s.heap)(I:aIz s.heap x dx C mA)(hg:PySem.W.plainGet K C name=true)
  (hf:W.findIn K (.ref C) name=some (some (.ref f))) (ht:PySem.W.isFn K (.ref f)=true) (hv:mA name=none) (h:Q (.ref f,[.ref x]) s) :
  wpAny (model prog w) A (getMethod (.ref x) name pl) Q E s:=by
 obtain⟨od,J,hl⟩:=I.look
 exact PySem.W.method_fn X J (PySem.W.plainGet_of hg).1 (PySem.W.plainGet_of hg).2 hf (beq_iff_eq.mp ht) (by show(PySem.W.lookIn name od).map (·.isSome)=some false;rw[hl,hv];rfl) h
theorem aNE{ns:List Str}{Q:Unit->Shared->Prop}(X:K.In s.heap)(I:aIz s.heap x dx C mA)
  (hs:PySem.W.findIn K (.ref C) "__setattr__" = some (some (.builtin "object.__setattr__"))) (hp:PySem.W.plainOver K C=true) (ht:PySem.W.takerIn K C name=some none) (hh:PySem.W.hasDictIn K C=true)
  (hw:PySem.Within mA ns) (hsz:ns.length<=sizeLine)
  (h:∀h',aIz h' x dx C (λy=>if y=name then some v else mA y)->Heap.SameBut dx s.heap h'->Q () { s with heap:=h',toks:=s.toks+2 }) :
  wpAny (model prog w) A (setAttr (.ref x) name v) Q E s:=by
 obtain⟨od,J,hl⟩:=I.look
 refine PySem.W.set_plain X J hs (PySem.W.osa_open (s:={ s with toks:=s.toks+1 }) (r:=none) X J hp ht λb=>?_)
 obtain⟨cd,hc,hd'⟩:=PySem.W.any_some hh
 have hx:s.heap.get? x=some ⟨.ref C,some dx,.plain,#[]⟩:=I.obj
 refine wpAny_bind (wpAny_pure (wpAny_bind (wpAny_bind (wpAny_loadPart hx (wpAny_bind (PySem.W.Looks.here (s:={ s with toks:=s.toks+1 }) (PySem.W.looks_clsIn X hc) ?_))))))
 rw[hd']
 refine wpAny_pure (a:=some dx) (wpAny_bind (wpAny_pure (wpAny_bind ?_)))
 refine wpAny_nsSet1 (s:={ s with toks:=s.toks+1 }) I.ns λh' hn2 hs2=>?_
 obtain⟨oD,esD,epD,hoD,hdD,hcD⟩:=hn2.count (PySem.Within.cons name v hw)
 refine wpAny_bind (wpAny_lookBehind hoD (by rw[hdD];exact pastItsLine_dict (Rr9 hcD (by rw[Qx9];omega))) ?_)
 exact wpAny_pure (h _ ⟨(hs2.2 _ (Ne.symm I.ne)).trans I.obj,hn2,I.ne⟩ hs2)
theorem aLy{R:Result->Shared->Prop}(X:K.In s.heap)(hm:PySem.W.makesIn K C=true)(hi:PySem.W.findIn K (.ref C) "__init__" = some (some (.ref f)))(hf:PySem.W.typeIn K (.ref f)=some (.type "function"))(h:codeAny (model prog w) (A.under (.builtin "type.__call__" ⟨.ref C::vs,kw⟩)) (.call (.ref f) ⟨.ref (s.heap.objs.size+1)::vs,kw⟩) (PySem.W.InitBack (s.heap.objs.size+1) R)
   { s with heap:=(s.heap.push PySem.W.emptyDict).push (PySem.W.instObj C s.heap.objs.size) }) :
  codeAny (model prog w) A (.call (.ref C) ⟨vs,kw⟩) R s:=by
 obtain⟨hh,g,d,t,os⟩:=s
 exact PySem.W.make_core (PySem.W.makes_of X hm) (PySem.W.looks_findIn X hi) (λself=>PySem.W.bind_fn X self hf) (.inl rfl) h
end
def uK(f:Str)(v:V):List (Str×V)->List (Str×V)
 |[]=>[(f,v)]
 |(g,x)::r=>if g=f then (g,v)::r else (g,x)::uK f v r
theorem aCc(f g:Str)(v:V):∀fs:List (Str×V),(uK f v fs).lookup g=if g=f then some v else fs.lookup g
 |[]=>by
  show List.lookup g [(f,v)]=_
  by_cases h:g=f
  ·have hb:(g == f)=true:=beq_iff_eq.mpr h
   simp only[List.lookup,hb,if_pos h]
  ·have hb:(g == f)=false:=beq_eq_false_iff_ne.mpr h
   simp only[List.lookup,hb,if_neg h]
 |(k,x)::r=>by
  have ih:=aCc f g v r
  rw[show uK f v ((k,x)::r)=(if k=f then (k,v)::r else (k,x)::uK f v r) from rfl]
  by_cases hk:k=f
  ·rw[if_pos hk]
   by_cases h:g=k
   ·have hb:(g == k)=true:=beq_iff_eq.mpr h
    simp only[List.lookup,hb,if_pos (h.trans hk)]
   ·have hb:(g == k)=false:=beq_eq_false_iff_ne.mpr h
    simp only[List.lookup,hb,if_neg (λe:g=f=>h (e.trans hk.symm))]
  ·rw[if_neg hk]
   by_cases h:g=k
   ·have hb:(g == k)=true:=beq_iff_eq.mpr h
    simp only[List.lookup,hb,if_neg (λe:g=f=>hk (h.symm.trans e))]
   ·have hb:(g == k)=false:=beq_eq_false_iff_ne.mpr h
    simp only[List.lookup,hb]
    exact ih
theorem aBK(f:Str)(v:V):∀fs:List (Str×V),f∈(uK f v fs).map (·.1)/\∀g,g∈fs.map (·.1)->g∈(uK f v fs).map (·.1)
 |[]=>⟨by simp[uK],λg h=>by simp at h⟩
 |(k,x)::r=>by
  obtain⟨i1,i2⟩:=aBK f v r
  rw[show uK f v ((k,x)::r)=(if k=f then (k,v)::r else (k,x)::uK f v r) from rfl]
  by_cases hk:k=f
  ·rw[if_pos hk]
   subst hk
   exact⟨by simp,λg h=>by simpa using h⟩
  ·rw[if_neg hk]
   refine⟨?_,λg h=>?_⟩
   ·rw[Rd9]
    exact zE _ i1
   ·rw[Rd9] at h ⊢
    rcases sZ.mp h with e|e
    ·exact sZ.mpr (.inl e)
    ·exact zE _ (i2 g e)
theorem aCd(f:Str)(v:V):∀fs:List (Str×V),(uK f v fs).length<=fs.length+1
 |[]=>by simp[uK]
 |(k,x)::r=>by
  have ih:=aCd f v r
  rw[show uK f v ((k,x)::r)=(if k=f then (k,v)::r else (k,x)::uK f v r) from rfl]
  by_cases hk:k=f
  ·rw[if_pos hk,Qx9,Qx9];omega
  ·rw[if_neg hk,Qx9,Qx9];omega
theorem vY.some_of(r:vY (some v) o):∃u,o=some u/\RelV v u:=by
 cases o with
 |none=>exact(show False from r).elim
 |some u=>exact⟨u,rfl,r⟩
theorem vY.none_of(r:vY none o):o=none:=by
 cases o with
 |none=>rfl
 |some u=>exact(show False from r).elim
theorem aKo(r:RelV v u):PySem.W.handedIn u=true:=by
 cases v with
 |non=>cases (show u=Value.none from r);rfl
 |bl b=>cases (show u=Value.bool b from r);rfl
 |int i=>obtain⟨t,e⟩:=(show ∃t,u=Value.int i t from r);cases e;rfl
 |str x=>obtain⟨t,e⟩:=(show ∃t,u=Value.str x t from r);cases e;rfl
 |byt b=>obtain⟨t,e⟩:=(show ∃t,u=Value.bytes b t from r);cases e;rfl
 |flt b=>obtain⟨t,e⟩:=(show ∃t,u=Value.float b t from r);cases e;rfl
 |ref a=>cases (show u=Value.ref a from r);rfl
 |ty n=>cases (show u=Value.type n from r);rfl
section
variable{P:Program}{w:World}{H H':Hp}{h h':Heap}{a C dx:Addr}{fs fs':List (Str×V)}
theorem aDq(hok:vZ P w H h)(e:H a=some (.ins C dx fs)):∃mA,aIz h a dx C mA/\(∀f,vY (fs.lookup f) (mA f))/\PySem.Within mA (fs.map (·.1))/\fs.length<=1000/\H dx=some (.own a):=by
 obtain⟨d,z,ne,ob,mA,n,r,q⟩:=(show cD P w H h a (.ins C dx fs) from hok a _ e)
 exact⟨mA,⟨ob,n,ne⟩,r,q,z,d⟩
end
structure Cls(K:W.Frag)(C:Addr):Prop where
 pg:PySem.W.plainGet K C Str.empty=true
 hd:PySem.W.hasDictIn K C=true
 po:PySem.W.plainOver K C=true
 sa:PySem.W.findIn K (.ref C) "__setattr__" = some (some (.builtin "object.__setattr__"))
theorem Cls.get{K:W.Frag}{C:Addr}(c:Cls K C)(f:Str):PySem.W.plainGet K C f=true:=c.pg
def cX(K:W.Frag)(C:Addr)(f:Str):Prop:=W.findIn K (.ref C) f=some none
theorem cX.aRd{K:W.Frag}{C:Addr}{f:Str}(n:cX K C f):PySem.W.takerIn K C f=some none:=by
 unfold PySem.W.takerIn
 rw[show W.findIn K (.ref C) f=some none from n]
 rfl
structure Meth(K:W.Frag)(C:Addr)(m:Str)(f:Addr):Prop where
 at_:W.findIn K (.ref C) m=some (some (.ref f))
 fn:PySem.W.isFn K (.ref f)=true
 kp:W.keepIn K (.ref f)=true
section
variable{X:Cx}{pins:List (Addr×Obj)}{σ:St}{H:Hp}{s:Shared}{a C dx:Addr}{fs:List (Str×V)}{f:Str}{v:V}{A:Around}{E:Value->Shared->Prop}
theorem aIA{b:Bool}{Q:Value->Shared->Prop}(I:Inv X pins σ H s)(e:H a=some (.ins C dx fs))(c:Cls X.K C)(n:cX X.K C f)(l:fs.lookup f=some v)
  (h:∀u s',Inv X pins σ H s'->RelV v u->Q u s'):wpAny (model X.prog X.w) A (getAttr (.ref a) f b) Q E s:=by
 obtain⟨mA,O,r,_,_,_⟩:=aDq I.hok e
 obtain⟨u,hu,ru⟩:=vY.some_of (v:=v) (o:=mA f) (by rw[<-l];exact r f)
 exact get_map I.kIn O (c.get f) c.hd n hu (aKo ru) (h u _ (I.tok _) ru)
theorem aDF{pl:Sem Bool}{Q:Value×List Value->Shared->Prop}(I:Inv X pins σ H s)(e:H a=some (.ins C dx fs))(c:Cls X.K C)(k:Meth X.K C m g)(l:fs.lookup m=none)(h:Q (.ref g,[.ref a]) s):wpAny (model X.prog X.w) A (getMethod (.ref a) m pl) Q E s:=by
 obtain⟨mA,O,r,_,_,_⟩:=aDq I.hok e
 have hn:mA m=none:=vY.none_of (by rw[<-l];exact r m)
 exact aLx I.kIn O (c.get m) k.at_ k.fn hn h
theorem aIB{Q:Unit->Shared->Prop}(I:Inv X pins σ H s)(e:H a=some (.ins C dx fs))(c:Cls X.K C)(n:cX X.K C f)(hl:fs.length < 1000)(ry:RelV y u)(h:∀s',Inv X pins σ (upd H a (.ins C dx (uK f y fs))) s'->Q () s'):wpAny (model X.prog X.w) A (setAttr (.ref a) f u) Q E s:=by
 obtain⟨mA,O,r,wi,_,ho⟩:=aDq I.hok e
 have hz:(fs.map (·.1)).length<=sizeLine:=by rw[bL,sizeLine_eq];omega
 refine aNE I.kIn O c.sa c.po n.aRd c.hd wi hz λh' O' sb=>h _ ?_
 have hd:∃o,h'.get? dx=some o:=let ⟨o,_,_,e',_⟩:=O'.ns;⟨o,e'⟩
 refine I.write (x:=a) (e:=dx) (by rw[e];exact True.intro) (.inr ho) (λb q hb z=>(sb.2 b hb).trans z) hd ?_
 refine⟨by rw[aW O.ne];exact ho,?_,O.ne,O'.obj,_,O'.ns,λg=>?_,λg hg=>?_⟩
 ·have:=aCd f y fs;omega
 ·show vY ((uK f y fs).lookup g) (if g=f then some u else mA g)
  rw[aCc]
  by_cases q:g=f
  ·rw[if_pos q,if_pos q];exact ry
  ·rw[if_neg q,if_neg q];exact r g
 ·by_cases q:g=f
  ·rw[q];exact(aBK f y fs).1
  ·refine(aBK f y fs).2 g (wi g λz=>hg ?_)
   show(if g=f then some u else mA g)=none
   rw[if_neg q];exact z
theorem Inv.made(I:Inv X pins σ H s):Inv X pins σ (upd (upd H s.heap.objs.size (.own (s.heap.objs.size+1))) (s.heap.objs.size+1) (.ins C s.heap.objs.size []))
  { s with heap:=(s.heap.push PySem.W.emptyDict).push (PySem.W.instObj C s.heap.objs.size) }:=by
 have e1:(s.heap.push PySem.W.emptyDict).get? s.heap.objs.size=some PySem.W.emptyDict:=tE s.heap rfl
 have e2:((s.heap.push PySem.W.emptyDict).push (PySem.W.instObj C s.heap.objs.size)).get? (s.heap.objs.size+1)=some (PySem.W.instObj C s.heap.objs.size):=by
  have:=tE (s.heap.push PySem.W.emptyDict) (o:=PySem.W.instObj C s.heap.objs.size) rfl
  rwa[Ri9] at this
 have e3:(s.heap.push PySem.W.emptyDict).Ns s.heap.objs.size (λ_=>none):=⟨PySem.W.emptyDict,#[],_,e1,rfl,(λe he=>absurd he (by simp)),λ_=>rfl⟩
 have I1:=I.laid (a:=s.heap.objs.size) (o:=.own (s.heap.objs.size+1)) (h':=s.heap.push PySem.W.emptyDict) (t':=s.toks) (λb u q=>fH _ q) (eA _) ⟨_,e1⟩
 refine I1.laid (a:=s.heap.objs.size+1) (o:=.ins C s.heap.objs.size []) (t':=s.toks) (λb u q=>fH _ q) (Tu9 (Ri9 _ _)) ?_
 have ne:s.heap.objs.size≠s.heap.objs.size+1:=vP (Tm9 _)
 refine⟨by rw[aW ne,aP],Rl9 _,ne,e2,λ_=>none,(Heap.Ns1.of_empty e3).at λo q=>fH _ q,λ_=>True.intro,λy hy=>absurd rfl hy⟩
theorem aNF{Q:Value->Shared->Prop}(hb:attributeBase e f env (eval e env)=eval e env)(h:wpAny (model prog w) A (eval e env) (λo s₁=>wpAny (model prog w) A (getAttr o f true) Q E s₁) E s):wpAny (model prog w) A (eval (.Attribute e f pos) env) Q E s:=
 Attribute_any_ h (by rw[arm_eval_Attribute,hb])
end
def aPQ(K:W.Frag)(ta:TE)(f:Str):TE:=λσ H Q=>ta σ H λx H1=>∃a C dx fs v,x=.ref a/\H1 a=some (.ins C dx fs)/\Cls K C/\cX K C f/\fs.lookup f=some v/\Q v H1
def aPR(K:W.Frag)(ta tv:TE)(f:Str):TS:=λD σ H=>tv σ H λy H1=>ta σ H1 λx H2=>∃a C dx fs,x=.ref a/\H2 a=some (.ins C dx fs)/\Cls K C/\cX K C f/\fs.length < 1000/\
 D.nx σ (upd H2 a (.ins C dx (uK f y fs)))
section
variable{X:Cx}{o e value:Expr}{f:Str}{pos pos' tpos:Pos}{ta tv:TE}
theorem aPS(he:PE X e ta)(hb:attributeBase e f X.env (eval e X.env)=eval e X.env):PE X (.Attribute e f pos) (aPQ X.K ta f):=by
 intro pins s σ H Q I h
 refine aNF hb (dI (he pins s σ H _ I h) λu s1 ⟨x,H1,I1,rx,a,C,dx,fs,v,ex,ea,c,n,l,q⟩=>?_)
 subst ex
 obtain rfl:u=Value.ref a:=rx
 exact aIA I1 ea c n l λu' s2 I2 ru=>⟨v,H1,I2,ru,q⟩
theorem aPT(ha:PE X o ta)(hv:PE X value tv)(hs:swapsWith value (some (.Attribute o f pos')) pos.line X.env=pure false):PS X (.Assign [.Attribute o f pos'] value pos) (aPR X.K ta tv f):=by
 intro pins s σ H D I h
 refine plainObj_wpAny_Assign_Attribute (dI (hv pins s σ H _ I h) λu s1 ⟨y,H1,I1,ry,q⟩=>dI (ha pins s1 σ H1 _ I1 q) λov s2 ⟨x,H2,I2,rx,a,C,dx,fs,ex,ea,c,n,l,q2⟩=>?_) hs
 subst ex
 obtain rfl:ov=Value.ref a:=rx
 exact aIB I2 ea c n l ry λs3 I3=>⟨σ,_,I3,q2⟩
end
section
variable{X:Cx}{pins:List (Addr×Obj)}{σ:St}{H:Hp}{s:Shared}{A:Around}{E:Value->Shared->Prop}{Q:Value->Shared->Prop}{c:Value}{b:Bool}
inductive aAQ (K:W.Frag) (H:Hp):V->Value->Prop where
 |non:aAQ K H .non (.type "NoneType")
 |bl (x:Bool):aAQ K H (.bl x) (.type "bool")
 |int (i:Int):aAQ K H (.int i) (.type "int")
 |str (x:Str):aAQ K H (.str x) (.type "str")
 |flt (x:UInt64):aAQ K H (.flt x) (.type "float")
 |lst {a:Addr} {xs:List V} (e:H a=some (.lst xs)):aAQ K H (.ref a) (.type "list")
 |frz {a:Addr} {o:Obj} {xs:List V} (e:H a=some (.frz o (.lst xs))):aAQ K H (.ref a) (.type "list")
 |tup {a:Addr} {xs:List V} (e:H a=some (.tup xs)):aAQ K H (.ref a) (.type "tuple")
 |dK {a:Addr} {kvs:List (Key×V)} (e:H a=some (.dK kvs)):aAQ K H (.ref a) (.type "dict")
 |dT {a:Addr} {kvs:List (List Key×V)} (e:H a=some (.dT kvs)):aAQ K H (.ref a) (.type "dict")
 |ins {a C dx:Addr} {fs:List (Str×V)} (e:H a=some (.ins C dx fs)) (cl:Cls K C) (ha:PySem.W.findIn K (.ref C) "__class__" = some (some (.builtin "object.__class__")))
   (hn:PySem.W.specialIn K (.builtin "object.__class__") "__get__" = some (some (.builtin "getset_descriptor.__get__"))) (htk:PySem.W.takesIn K (.builtin "object.__class__")=some true)
   (hm:PySem.W.mroIn K C (.type "object")=some true):aAQ K H (.ref a) (.ref C)
theorem aFx(I:Inv X pins σ H s)(rx:RelV x u)(ty:aAQ X.K H x t)(e:PySem.W.kitOne X.K t c=some b)(h:∀tk,Q (.bool b) { s with toks:=tk }) :
  wpAny (model X.prog X.w) A (call (.builtin "isinstance") [u,c]) Q E s:=by
 cases ty with
 |non=>cases (show u=Value.none from rx);exact PySem.W.kia_one PySem.W.kitx_none I.kIn True.intro e (λz=>nomatch z) h
 |bl y=>cases (show u=Value.bool y from rx);exact PySem.W.kia_one PySem.W.kitx_bool I.kIn True.intro e (λz=>nomatch z) h
 |int i=>obtain⟨t,q⟩:=(show ∃t,u=Value.int i t from rx);cases q;exact PySem.W.kia_one PySem.W.kitx_int I.kIn True.intro e (λz=>nomatch z) h
 |str y=>obtain⟨t,q⟩:=(show ∃t,u=Value.str y t from rx);cases q;exact PySem.W.kia_one PySem.W.kitx_str I.kIn True.intro e (λz=>nomatch z) h
 |flt y=>obtain⟨t,q⟩:=(show ∃t,u=Value.float y t from rx);cases q;exact PySem.W.kia_one PySem.W.kitx_float I.kIn True.intro e (λz=>nomatch z) h
 |@lst a xs ea=>
  cases (show u=Value.ref a from rx)
  obtain⟨_,_,n,_,h1⟩:=(show cD X.prog X.w H s.heap a (.lst xs) from I.hok a _ ea)
  exact PySem.W.kia_one PySem.W.kitx_list I.kIn ⟨_,h1,rfl⟩ e (λz=>nomatch z) h
 |@frz a ob xs ea=>
  cases (show u=Value.ref a from rx)
  obtain⟨_,_,_,n,_,h1⟩:=(show cD X.prog X.w H s.heap a (.frz ob (.lst xs)) from I.hok a _ ea)
  exact PySem.W.kia_one PySem.W.kitx_list I.kIn ⟨_,h1,rfl⟩ e (λz=>nomatch z) h
 |@tup a xs ea=>
  cases (show u=Value.ref a from rx)
  obtain⟨_,_,_,p⟩:=(show cD X.prog X.w H s.heap a (.tup xs) from I.hok a _ ea)
  obtain⟨o,h1,h2,_⟩:=p
  exact PySem.W.kia_one PySem.W.kitx_tuple I.kIn ⟨o,h1,h2⟩ e (λz=>nomatch z) h
 |@dK a kvs ea=>
  cases (show u=Value.ref a from rx)
  obtain⟨_,_,vs,_,p⟩:=(show cD X.prog X.w H s.heap a (.dK kvs) from I.hok a _ ea)
  obtain⟨o,es,ep,h1,h2,_⟩:=p
  exact PySem.W.kia_one PySem.W.kitx_dict I.kIn ⟨o,h1,h2.1⟩ e (λz=>nomatch z) h
 |@dT a kvs ea=>
  cases (show u=Value.ref a from rx)
  obtain⟨_,_,xs,_,o,es,ep,h1,h2,_⟩:=(show cD X.prog X.w H s.heap a (.dT kvs) from I.hok a _ ea)
  exact PySem.W.kia_one PySem.W.kitx_dict I.kIn ⟨o,h1,h2.1⟩ e (λz=>nomatch z) h
 |@ins a C dx fs ea cl ha hn htk hm=>
  cases (show u=Value.ref a from rx)
  obtain⟨mA,O,_⟩:=aDq I.hok ea
  obtain⟨od,J,_⟩:=O.look
  exact PySem.W.kia_one (PySem.W.kitx_own (cl.get _) cl.hd ha hn htk hm) I.kIn J e (λz=>nomatch z) h
end
end L2
namespace L2
open PySem PySem.Spec PyProof.Rows
structure eN(k:Nat)(A:Around):Prop where
 hd:A.handled=none
 dp:A.depth+3*k+5 < recursionLimit
 un:A.units+16*k+200 < cLine
theorem eN.mono{j k:Nat}(r:eN k A)(h:j<=k):eN j A:=⟨r.hd,by have:=r.dp;omega,by have:=r.un;omega⟩
theorem eN.deeper{k:Nat}{A:Around}(r:eN (k+1) A)(env:Env):eN k (A.deeper env):=
 ⟨r.hd,by have:=r.dp;show A.depth+1+3*k+5 < _;omega,by have:=r.un;show A.units+3+16*k+200 < _;omega⟩
theorem aIC{A:Around}:(A.under (.builtin "type.__call__" ⟨.ref C::us,kw⟩)).depth=A.depth+1:=by
 first|rfl|simp[Around.under,Code.weight,Code.isCreation,Code.isGuard,Code.isCaller,Code.frames,Code.isFrame,guardIds]
theorem aID{A:Around}:(A.under (.builtin "type.__call__" ⟨.ref C::us,kw⟩)).units=A.units+1:=by
 first|rfl|simp[Around.under,Code.cUnits,Code.frames,Code.isFrame]
theorem eN.make{k:Nat}{A:Around}(r:eN (k+1) A)(C:Addr)(us:List Value)(kw:List (Str×Value)):eN k (A.under (.builtin "type.__call__" ⟨.ref C::us,kw⟩)):=
 ⟨r.hd,by have:=r.dp;rw[aIC];omega,by have:=r.un;rw[aID];omega⟩
theorem eN.depth{k:Nat}{A:Around}(r:eN k A):A.depth < recursionLimit:=by have:=r.dp;omega
theorem eN.units{k:Nat}{A:Around}(r:eN k A):A.units+64 < cLine:=by have:=r.un;omega
def mH:TA:=λ_ H Q=>Q [] H
def bF(ta:TE)(tr:TA):TA:=λσ H Q=>ta σ H λx H1=>tr σ H1 λxs H2=>Q (x::xs) H2
section
variable{X:Cx}{e:Expr}{es:List Expr}{te:TE}{t:TA}{pos:Pos}
theorem pI:PA X [] mH:=λ_ _ _ _ H Q I h=>Calls.spliced_nil ⟨[],H,I,.nil,h⟩
theorem aNG(ha:PE X e te)(hr:PA X es t)(hs:starEach (e::es) X.env=(false,eval e X.env)::starEach es X.env:=by rfl):PA X (e::es) (bF te t):=by
 intro pos pins s σ H Q I h
 rw[hs]
 show wpAny _ _ (spliced ((false,eval e X.env)::backTo pos (starEach es X.env))) _ _ s
 refine Calls.spliced_cons (dI (ha pins s σ H _ I h) λu s1 ⟨x,H1,I1,r1,q1⟩=>?_)
 exact dI (hr pos pins s1 σ H1 _ I1 q1) λus s2 ⟨xs,H2,I2,r2,q2⟩=>⟨x::xs,H2,I2,.cons r1 r2,q2⟩
def aCK(t:TA):TE:=λσ H Q=>t σ H λxs H1=>xs.length<=sizeLine/\∀p,H1 p=none->Q (.ref p) (upd H1 p (.tup xs))
def aBL(t:TA):TE:=λσ H Q=>t σ H λxs H1=>xs.length<=sizeLine/\∀p,H1 p=none->Q (.ref p) (upd H1 p (.lst xs))
theorem aDG{x1}(h:PA X es t):PE X (.Tuple es x1 pos) (aCK t):=by
 intro pins s σ H Q I hq
 refine wpAny_Tuple_spliced (dI (h pos pins s σ H _ I hq) λus s1 ⟨xs,H1,I1,r,z,q⟩=>⟨by rw[<-r.length];exact z,?_⟩)
 have hf:H1 s1.heap.objs.size=none:=I1.hok.fresh (eA _)
 refine⟨.ref s1.heap.objs.size,upd H1 s1.heap.objs.size (.tup xs),I1.laid (t':=s1.toks) (λb u e=>fH _ e) (eA _) ?_,rfl,q _ hf⟩
 exact⟨z,us,r,⟨_,tE _ rfl,rfl,_,rfl⟩⟩
theorem aBM(h:PA X es t):PE X (.List es pos) (aBL t):=by
 intro pins s σ H Q I hq
 refine wpAny_List_spliced (dI (h pos pins s σ H _ I hq) λus s1 ⟨xs,H1,I1,r,z,q⟩=>⟨by rw[<-r.length];exact z,?_⟩)
 have hf:H1 s1.heap.objs.size=none:=I1.hok.fresh (eA _)
 refine⟨.ref s1.heap.objs.size,upd H1 s1.heap.objs.size (.lst xs),I1.laid (t':=s1.toks) (λb u e=>fH _ e) (eA _) ?_,rfl,q _ hf⟩
 exact⟨z,us,0,r,tE _ rfl⟩
end
abbrev Sp:=List V->Hp->VK->XK->Prop
abbrev CXT:=List Env->Hp->Shared->XK->Value->Shared->Prop
structure aEV(P:Program)(w:World)(K:W.Frag)(mg:Str->Option Value)(base:Heap)(A:Around)(outer:List Env)(s:Shared)(H:Hp):Prop where
 frames:A.frames=some outer
 mod:Mod K mg base
 bs:∀b o,base.get? b=some o->s.heap.get? b=some o/\H b=none
 bsz:base.objs.size<=s.heap.objs.size
 zH:s.heap.FunFrames base outer
 frf:∀b∈frs outer,H b=none
 hok:vZ P w H s.heap
 bare:AllBare s.gens
def CE(outer:List Env)(P:Program)(w:World)(H:Hp)(s:Shared)(Q:VK)(u:Value)(s':Shared):Prop:=
 ∃v H',s'.os=s.os/\AllBare s'.gens/\Un (frs outer) [] H H' s.heap s'.heap/\vZ P w H' s'.heap/\RelV v u/\Q v H'
def CR(CX:CXT)(outer:List Env)(P:Program)(w:World)(H:Hp)(s:Shared)(Q:VK)(E:XK)(r:Result)(s':Shared):Prop:=
 match r with
 |.ok (.ret u)=>CE outer P w H s Q u s'
 |.ok _=>False
 |.error e=>CX outer H s E e s'
structure bS(P:Program)(w:World)(K:W.Frag)(mg:Str->Option Value)(base:Heap)(CX:CXT)(k:Nat)(f:Addr)(fd:FuncData)(ps:List Str)(sp:Sp):Prop where
 len:∀vs H Q E,sp vs H Q E->vs.length=ps.length
 run:∀(A:Around) (outer:List Env) (s:Shared) (H:Hp) (args:Args) (us:List Value) (vs:List V) (Q:VK) (E:XK),eN k A->aEV P w K mg base A outer s H->BindsTo s fd args (ps.zip us)->Vals vs us->sp vs H Q E->
  codeAny (model P w) A (.call (.ref f) args) (CR CX outer P w H s Q E) s
theorem bS.imp{P:Program}{w:World}{K:W.Frag}{mg:Str->Option Value}{base:Heap}{CX:CXT}{k:Nat}{f:Addr}{fd:FuncData}{ps:List Str}{sp sp':Sp}(F:bS P w K mg base CX k f fd ps sp)
  (h:∀vs H Q E,sp' vs H Q E->sp vs H Q E):bS P w K mg base CX k f fd ps sp':=
 ⟨λvs H Q E q=>F.len vs H Q E (h _ _ _ _ q),λA outer s H args us vs Q E hr he hb hv hs=>F.run A outer s H args us vs Q E hr he hb hv (h _ _ _ _ hs)⟩
theorem aEV.make{P:Program}{w:World}{K:W.Frag}{mg:Str->Option Value}{base:Heap}{A:Around}{outer:List Env}{s:Shared}{H:Hp}(e:aEV P w K mg base A outer s H)(C:Addr)(us:List Value)(kw:List (Str×Value)) :
  aEV P w K mg base (A.under (.builtin "type.__call__" ⟨.ref C::us,kw⟩)) outer s H:=⟨by first|exact e.frames|(simpa [Around.under,Code.envs,Code.isFrame,pushEnvs] using e.frames),e.mod,e.bs,e.bsz,e.zH,e.frf,e.hok,e.bare⟩
section
variable{X:Cx}{pins:List (Addr×Obj)}{σ:St}{H:Hp}{s s':Shared}
theorem Inv.aLz(I:Inv X pins σ H s):aEV X.prog X.w X.K X.mg X.base X.A X.stack s H:=
 ⟨I.ok.frames,I.ok.mod,I.bs,Rr9 I.ok.bsz I.sz,I.stack,I.aDn,I.hok,I.bare⟩
theorem Inv.after(I:Inv X pins σ H s)(h:CE X.stack X.prog X.w H s Q u s'):EP X pins σ Q u s':=by
 obtain⟨v,H',os,bare,un,hok,r,q⟩:=h
 obtain⟨hh,g,d,t,os'⟩:=s'
 obtain rfl:os'=s.os:=os
 exact⟨v,H',I.call (h':=hh) (g':=g) (d':=d) (t':=t) (ch:=[]) un hok bare (λb z=>absurd z (by simp)),r,q⟩
end
def aHp(sp:Sp)(dvs:List V)(E:XK)(t:TA):TE:=λσ H Q=>t σ H λvs H1=>sp (vs++dvs) H1 Q E
def aFy(C:Addr)(m:Str)(sp:Sp)(dvs:List V)(E:XK)(ta:TE)(t:TA):TE:=λσ H Q=>ta σ H λx H1=>∃a dx fs,x=.ref a/\H1 a=some (.ins C dx fs)/\fs.lookup m=none/\
 t σ H1 λvs H2=>sp (x::(vs++dvs)) H2 Q E
def aHq(C:Addr)(sp:Sp)(dvs:List V)(E:XK)(t:TA):TE:=λσ H Q=>t σ H λvs H1=>∀x dx,H1 x=none->H1 dx=none->dx≠x->
 sp (.ref x::(vs++dvs)) (upd (upd H1 dx (.own x)) x (.ins C dx [])) (λv H2=>v=.non/\Q (.ref x) H2) E
def Binds(K:W.Frag)(fd:FuncData)(ps:List Str)(ds:List Value):Prop:=
 ∀(s:Shared) (us:List Value),K.In s.heap->(us++ds).length=ps.length->BindsTo s fd ⟨us,[]⟩ (ps.zip (us++ds))
theorem Binds.all{K:W.Frag}{fd:FuncData}{ps:List Str}(h:∀us:List Value,us.length=ps.length->bindArgs fd ⟨us,[]⟩=pure (ps.zip us)):Binds K fd ps []:=λs us _ hl=>by
 rw[Rt9] at hl ⊢
 exact .of_eq (h us hl)
def Passes(CX:CXT)(X:Cx)(E:XK):Prop:=∀(pins:List (Addr×Obj)) (σ:St) (H:Hp) (s:Shared) (e:Value) (s':Shared),Inv X pins σ H s->CX X.stack H s E e s'->X.xe e s'
section
variable{X:Cx}{CX:CXT}{k:Nat}{f C:Addr}{fd:FuncData}{ps:List Str}{sp:Sp}{dvs:List V}{ds:List Value}{E:XK}{x m:Str}{p pos apos:Pos}{e o:Expr}{es:List Expr}{ta:TE}{t:TA}
theorem aIE(F:bS X.prog X.w X.K X.mg X.base CX k f fd ps sp)(hr:eN k X.A)(hb:Binds X.K fd ps ds)(hd:Vals dvs ds)(hx:Passes CX X E)(I:Inv X pins σ H s)(r:Vals vs us)(h:sp (vs++dvs) H Q E):wpAny (model X.prog X.w) X.A (call (.ref f) us) (EP X pins σ Q) X.xe s:=by
 have r2:Vals (vs++dvs) (us++ds):=r.append hd
 have hl:(us++ds).length=ps.length:=by rw[<-r2.length];exact F.len _ _ _ _ h
 refine wpAny_call (codeAny_mono (F.run X.A X.stack s H ⟨us,[]⟩ (us++ds) (vs++dvs) Q E hr I.aLz (hb s us I.kIn hl) r2 h) λr s' hq=>?_)
 cases r with
 |error e=>exact hx pins σ H s e s' I hq
 |ok fl=>
  cases fl with
  |ret u=>exact I.after hq
  |next=>exact False.elim hq
  |brk=>exact False.elim hq
  |cont=>exact False.elim hq
theorem aNH(F:bS X.prog X.w X.K X.mg X.base CX k f fd ps sp)(hr:eN k X.A)(hg:Gl X x)(hm:X.mg x=some (.ref f))(hk:W.keepIn X.K (.ref f)=true)(hb:Binds X.K fd ps ds)(hd:Vals dvs ds)(hx:Passes CX X E)
  (ha:PA X (e::es) t) (hdb:(x == ("__debug__" : Str))=false:=by decide) (he:starEach (e::es) X.env=(false,eval e X.env)::starEach es X.env:=by rfl) (hpl:(backTo pos (starEach es X.env)).any (·.1)=false:=by rfl) :
  PE X (.Call (.Name x p) (e::es) [] pos) (aHp sp dvs E t):=by
 intro pins s σ H Q I h
 refine wpAny_Call_Name_kw (aDp I hg hm ?_ hdb)
 refine PySem.W.callWith_K (h₀:=X.base) I.ok.mod.kin hk (dI (ha pos pins s σ H _ I h) λus s1 ⟨vs,H1,I1,r,q⟩=>⟨I1.kIn,?_⟩) he hpl
 exact aIE F hr hb hd hx I1 r q
theorem aNI{pl:Sem Bool}(he:PE X o ta)(c:Cls X.K C)(hm:Meth X.K C m f)(F:bS X.prog X.w X.K X.mg X.base CX k f fd ps sp)(hr:eN k X.A)(hb:Binds X.K fd ps ds)(hd:Vals dvs ds)(hx:Passes CX X E)(ha:PA X (e::es) t)
  (hst:starEach (e::es) X.env=(false,eval e X.env)::starEach es X.env:=by rfl) (hpl:(backTo pos (starEach es X.env)).any (·.1)=false:=by rfl)
  (ht:eval (.Call (.Attribute o m apos) (e::es) [] pos) X.env=(do
   let ov <-eval o X.env
   standAt apos.atName
   let (f,first) <-holding [ov] (getMethod ov m pl)
   callWith pos f first (backTo pos (starEach (e::es) X.env)) (backToKw pos (keywordEach [] X.env))):=by rfl) :
  PE X (.Call (.Attribute o m apos) (e::es) [] pos) (aFy C m sp dvs E ta t):=by
 intro pins s σ H Q I h
 refine PySem.W.methodCall_KW (pl:=pl) (dI (he pins s σ H _ I h) λu s1 ⟨x,H1,I1,rx,a,dx,fs,ex,ea,l,q⟩=>?_) ht
 subst ex
 obtain rfl:u=Value.ref a:=rx
 refine aDF I1 ea c hm l ?_
 refine PySem.W.callWith_K (first:=[.ref a]) (h₀:=X.base) I.ok.mod.kin hm.kp (dI (ha pos pins s1 σ H1 _ I1 q) λus s2 ⟨vs,H2,I2,r,q2⟩=>⟨I2.kIn,?_⟩) hst hpl
 exact aIE (us:=.ref a::us) (vs:=.ref a::vs) F hr hb hd hx I2 (.cons rfl r) q2
theorem aLA{pl:Sem Bool}(he:PE X o ta)(c:Cls X.K C)(hm:Meth X.K C m f)(F:bS X.prog X.w X.K X.mg X.base CX k f fd ps sp)(hr:eN k X.A)(hb:Binds X.K fd ps ds)(hd:Vals dvs ds)(hx:Passes CX X E)
  (ht:eval (.Call (.Attribute o m apos) [] [] pos) X.env=(do
   let ov <-eval o X.env
   standAt apos.atName
   let (f,first) <-holding [ov] (getMethod ov m pl)
   callWith pos f first (backTo pos (starEach [] X.env)) (backToKw pos (keywordEach [] X.env))):=by rfl) :
  PE X (.Call (.Attribute o m apos) [] [] pos) (aFy C m sp dvs E ta mH):=by
 intro pins s σ H Q I h
 refine PySem.W.methodCall_KW (pl:=pl) (dI (he pins s σ H _ I h) λu s1 ⟨x,H1,I1,rx,a,dx,fs,ex,ea,l,q⟩=>?_) ht
 subst ex
 obtain rfl:u=Value.ref a:=rx
 refine aDF I1 ea c hm l ?_
 exact PySem.W.callWith_K0 (first:=[.ref a]) I1.kIn hm.kp (aIE (us:=[.ref a]) (vs:=[.ref a]) F hr hb hd hx I1 (.cons rfl .nil) q)
structure Mk(K:W.Frag)(C f:Addr):Prop where
 makes:PySem.W.makesIn K C=true
 init:PySem.W.findIn K (.ref C) "__init__" = some (some (.ref f))
 fn:PySem.W.isFn K (.ref f)=true
 kp:W.keepIn K (.ref C)=true
theorem aLB{H:Hp}{Q:VK}(M:Mk X.K C f)(F:bS X.prog X.w X.K X.mg X.base CX k f fd ps sp)(hr:eN (k+1) X.A)(hb:Binds X.K fd ps ds)(hd:Vals dvs ds)(hx:Passes CX X E)(I:Inv X pins σ H s)(r:Vals vs us)(h:∀x dx,H x=none->H dx=none->dx≠x->sp (.ref x::(vs++dvs)) (upd (upd H dx (.own x)) x (.ins C dx [])) (λv H2=>v=.non/\Q (.ref x) H2) E) :
  wpAny (model X.prog X.w) X.A (call (.ref C) us) (EP X pins σ Q) X.xe s:=by
 have hq:=h (s.heap.objs.size+1) s.heap.objs.size (I.hok.fresh (Nat.le_succ _)) (I.hok.fresh (eA _)) (vP (Tm9 _))
 have I2:=Inv.made (C:=C) I
 have r2:Vals (V.ref (s.heap.objs.size+1)::(vs++dvs)) (Value.ref (s.heap.objs.size+1)::(us++ds)):=.cons rfl (r.append hd)
 have hl:(Value.ref (s.heap.objs.size+1)::us++ds).length=ps.length:=by
  have e:=r2.length
  rw[F.len _ _ _ _ hq] at e
  exact e.symm
 refine wpAny_call (aLy (f:=f) I.kIn M.makes M.init (beq_iff_eq.mp M.fn) (codeAny_mono (F.run _ X.stack _ _ ⟨Value.ref (s.heap.objs.size+1)::us,[]⟩ (Value.ref (s.heap.objs.size+1)::(us++ds)) _ _ E (hr.make C us [])
  (I2.aLz.make C us []) (hb _ (Value.ref (s.heap.objs.size+1)::us) I2.kIn hl) r2 hq) λr s' hq'=>?_))
 cases r with
 |error e=>exact hx pins σ _ _ e s' I2 hq'
 |ok fl=>
  cases fl with
  |ret u=>
   obtain⟨v,H',I3,rv,ev,q3⟩:=I2.after hq'
   subst ev
   exact⟨rv,⟨V.ref (s.heap.objs.size+1),H',I3,rfl,q3⟩⟩
  |next=>exact False.elim hq'
  |brk=>exact False.elim hq'
  |cont=>exact False.elim hq'
theorem aNJ(M:Mk X.K C f)(F:bS X.prog X.w X.K X.mg X.base CX k f fd ps sp)(hr:eN (k+1) X.A)(hg:Gl X x)(hm:X.mg x=some (.ref C))(hb:Binds X.K fd ps ds)(hd:Vals dvs ds)(hx:Passes CX X E)
  (ha:PA X (e::es) t) (hdb:(x == ("__debug__" : Str))=false:=by decide) (he:starEach (e::es) X.env=(false,eval e X.env)::starEach es X.env:=by rfl) (hpl:(backTo pos (starEach es X.env)).any (·.1)=false:=by rfl) :
  PE X (.Call (.Name x p) (e::es) [] pos) (aHq C sp dvs E t):=by
 intro pins s σ H Q I h
 refine wpAny_Call_Name_kw (aDp I hg hm ?_ hdb)
 refine PySem.W.callWith_K (h₀:=X.base) I.ok.mod.kin M.kp (dI (ha pos pins s σ H _ I h) λus s1 ⟨vs,H1,I1,r,q⟩=>⟨I1.kIn,?_⟩) he hpl
 exact aLB M F hr hb hd hx I1 r q
end
def PK(X:Cx)(kws:List Keyword)(t:TA):Prop:=
 ∀(pos:Pos) (pins:List (Addr×Obj)) (s:Shared) (σ:St) (H:Hp) (Q:List V->Hp->Prop),Inv X pins σ H s->t σ H Q->wpAny (model X.prog X.w) X.A (evalAll ((backToKw pos (keywordEach kws X.env)).map (·.2))) (AP X pins σ Q) X.xe s
section
variable{X:Cx}{CX:CXT}{k:Nat}{f C:Addr}{fd:FuncData}{ps ks:List Str}{sp:Sp}{E:XK}{x m:Str}{p pos apos kpos:Pos}{e o:Expr}{es:List Expr}{kws:List Keyword}{te ta:TE}{t tk:TA}{nm:Option Str}
variable{g:List Value->List Value->List Value}{gV:List V->List V->List V}
end
structure aX(N P:List Str)(sc:Scope):Prop where
 kind:sc.kind=.function
 co:sc.isCoroutine=false
 gen:sc.isGenerator=false
 nd:N.Nodup
 pre:N.take P.length=P
 par:∀x∈P,sc.names.lookup x=some .local\/sc.names.lookup x=some .cell
 nofree:∀y∈sc.names,y.2≠.free
theorem aFz{kindOf:Str->Option NameKind}:∀{binds:List (Str×Value)}{m:Str->Option Value},(∀v,(x,v)∉binds)->bindL kindOf binds m x=m x
 |[],_,_=>rfl
 |(n,v)::r,m,h=>by
  unfold bindL
  rw[aFz λw hw=>h w (zE _ hw)]
  split
  ·have:x≠n:=by rintro rfl;exact h v Qr9
   simp[this]
  ·rfl
theorem aFA{kindOf:Str->Option NameKind}:∀{binds:List (Str×Value)}{m:Str->Option Value},(∀v,(x,v)∉binds)->bindC kindOf binds m x=m x
 |[],_,_=>rfl
 |(n,v)::r,m,h=>by
  unfold bindC
  rw[aFA λw hw=>h w (zE _ hw)]
  split
  ·rfl
  ·have:x≠n:=by rintro rfl;exact h v Qr9
   simp[this]
theorem aFB{kindOf:Str->Option NameKind}:∀{P:List Str}{vs:List Value}{i:Nat}{m:Str->Option Value},P.Nodup->P[i]?=some x->vs[i]?=some v->kindOf x=some .local->
  bindL kindOf (P.zip vs) m x=some v
 |[],_,_,_,_,h,_,_=>by simp at h
 |_::_,[],_,_,_,_,h,_=>by simp at h
 |p::P,w::vs,0,m,nd,h1,h2,hk=>by
  simp at h1 h2;subst h1;subst h2
  show bindL kindOf ((p,w)::P.zip vs) m p=_
  unfold bindL
  rw[aFz λv hv=>(Rn9.mp nd).1 (Tp9 hv).1,if_pos hk]
  simp
 |p::P,w::vs,i+1,m,nd,h1,h2,hk=>by
  show bindL kindOf ((p,w)::P.zip vs) m x=_
  unfold bindL
  exact aFB (i:=i) (Rn9.mp nd).2 (by simpa using h1) (by simpa using h2) hk
theorem aFC{kindOf:Str->Option NameKind}:∀{P:List Str}{vs:List Value}{i:Nat}{m:Str->Option Value},P.Nodup->P[i]?=some x->vs[i]?=some v->kindOf x≠some .local->
  bindC kindOf (P.zip vs) m x=some v
 |[],_,_,_,_,h,_,_=>by simp at h
 |_::_,[],_,_,_,_,h,_=>by simp at h
 |p::P,w::vs,0,m,nd,h1,h2,hk=>by
  simp at h1 h2;subst h1;subst h2
  show bindC kindOf ((p,w)::P.zip vs) m p=_
  unfold bindC
  rw[aFA λv hv=>(Rn9.mp nd).1 (Tp9 hv).1,if_neg hk]
  simp
 |p::P,w::vs,i+1,m,nd,h1,h2,hk=>by
  show bindC kindOf ((p,w)::P.zip vs) m x=_
  unfold bindC
  exact aFC (i:=i) (Rn9.mp nd).2 (by simpa using h1) (by simpa using h2) hk
def start(N:List Str)(vs:List V):St:=vs.map some++List.replicate (N.length - vs.length) none
def aIF(CX:CXT)(P:Program)(w:World)(K:W.Frag)(mg:Str->Option Value)(base:Heap)(N:List Str)(qual:Str)(scope:Scope)(f:Addr)(cd:Value)(A:Around)(outer:List Env)(s:Shared)(H:Hp)(E:XK):Cx where
 prog:=P
 w:=w
 K:=K
 mg:=mg
 base:=base
 A:=A.deeper (envOfC qual scope s.heap.objs.size f cd)
 N:=N
 s₀:=s
 H₀:=H
 env:=envOfC qual scope s.heap.objs.size f cd
 outer:=outer
 stack:=envOfC qual scope s.heap.objs.size f cd::outer
 ex:=[]
 calm:=true
 fn:=λ_=>true
 pn:=[]
 xe:=λe s'=>wpAny (model P w) (A.deeper (envOfC qual scope s.heap.objs.size f cd)) (leaving (envOfC qual scope s.heap.objs.size f cd) e) (λ_ s''=>CX outer H s E e s'') (λe' s''=>CX outer H s E e' s'') s'
theorem aHr{sc:Scope}{n:Nat}(h:sc.names.lookup x=some .cell):∃c,(cellsFrom n sc.names []).lookup x=some c:=by
 have q:=PySem.W.cellsFrom_some sc.names n [] (.inl h)
 exact Option.isSome_iff_exists.mp q
theorem aKp{CX:CXT}{P:Program}{w:World}{K:W.Frag}{mg:Str->Option Value}{base:Heap}{N ps:List Str}{qual:Str}{scope:Scope}{f:Addr}{cd:Value}{A:Around}{outer:List Env}{s s1:Shared}{H:Hp}{E:XK}{us:List Value}{vs:List V}
  (S:aX N ps scope) (hd:A.handled=none) (e0:aEV P w K mg base A outer s H) (hl:vs.length=ps.length) (r:Vals vs us)
  (x:InCallC s s.heap.objs.size (bindL (envOfC qual scope s.heap.objs.size f cd).kindOf (ps.zip us) λ_=>none) (cellsFrom (s.heap.objs.size+1) scope.names []) (bindC (envOfC qual scope s.heap.objs.size f cd).kindOf (ps.zip us) λ_=>none) s1) :
  Inv (aIF CX P w K mg base N qual scope f cd A outer s H E) [] (start N vs) H s1:=by
 have hpl:ps.length<=N.length:=by have:=congrArg List.length S.pre;rw[Qz9] at this;omega
 obtain⟨h1,tk,rfl,hk⟩:=x.done
 have noA:∀b:Addr,b∉(aIF CX P w K mg base N qual scope f cd A outer s H E).ex:=λb z=>absurd (show b∈([]:List Addr) from z) (by simp)
 refine⟨⟨e0.mod,S.kind,rfl,rfl,eA _,λy z c h1 h2=>?_,λy hy=>?_,λy c _ h=>?_,λ_=>hd,Around.frames_deeper e0.frames,.inr ⟨rfl,rfl⟩,λb z=>absurd z (noA b),e0.bs,e0.bsz,λb _ _=>noA b,λb z=>absurd z (noA b),e0.zH,e0.frf⟩,
  rfl,e0.bare,Un.kept hk,⟨_,x.toInCall.ns,λi y v h1 h2 h3=>?_⟩,λy c h=>⟨_,x.cell y c h⟩,e0.hok.fresh (eA _),λy c h=>?_,λp hp=>absurd (show p∈([]:List (Addr×Obj)) from hp) (by simp),e0.hok.kept hk,?_⟩
 ·exact name_of_addr x.apart (PySem.mem_of_lookup h1) (PySem.mem_of_lookup h2)
 ·have hy:scope.names.lookup y=some .cell\/scope.names.lookup y=some .free:=hy
  rcases hy with hy|hy
  ·exact aHr hy
  ·exact absurd rfl (S.nofree _ (PySem.mem_of_lookup hy))
 ·exact Sy9 (x.above y c (PySem.mem_of_lookup h))
 ·have hi:i < vs.length:=by
   unfold start at h2
   by_cases hi:i < vs.length
   ·exact hi
   ·rw[Qt9 (by simpa using hi)] at h2
    rw[Ta9] at h2
    split at h2 <;> cases h2
  have ha:vs[i]?=some v:=by
   unfold start at h2
   rw[Qs9 (by simpa using hi),pG] at h2
   cases e:vs[i]? with
   |none=>rw[e] at h2;cases h2
   |some a=>rw[e] at h2;cases h2;rfl
  obtain⟨u,hu,rv⟩:=r.get ha
  have hp:ps[i]?=some y:=by
   rw[<-S.pre,List.getElem?_take_of_lt (by omega)];exact h1
  have ndP:ps.Nodup:=by rw[<-S.pre];exact S.nd.sublist (List.take_sublist _ _)
  refine⟨u,rv,?_⟩
  rcases S.par y (oH hp) with k|k
  ·exact .inl ⟨k,aFB ndP hp hu k⟩
  ·obtain⟨c,e⟩:=aHr (n:=s.heap.objs.size+1) k
   refine .inr ⟨.inl k,c,e,?_⟩
   have q:=x.cell y c e
   rw[aFC ndP hp hu (by show scope.names.lookup y≠_;rw[k];decide)] at q
   exact q
 ·exact e0.hok.fresh (Sy9 (x.above y c (PySem.mem_of_lookup h)))
 ·unfold start
  show _=N.length
  rw[sI,bL,List.length_replicate]
  omega
theorem aOX{CX:CXT}{P:Program}{w:World}{K:W.Frag}{mg:Str->Option Value}{base:Heap}{k:Nat}{f:Addr}{name qual:Str}{params:Arguments}{body:List Stmt}{scope:Scope}{dV kV doc pm cdv ct oc:Value}{an od:Option Addr}
  {osl:Array (Option Value)} {N ps:List Str} {sp:Sp} (lk:K.lookup f=some ⟨oc,od,.func (W.fnOf name qual params body scope dV kV doc pm an cdv ct),osl⟩) (hcd:W.codeIn K cdv qual=true) (S:aX N ps scope)
  (len:∀vs H Q E,sp vs H Q E->vs.length=ps.length)
  (hbody:∀(A:Around) (outer:List Env) (s:Shared) (H:Hp) (vs:List V) (Q:VK) (E:XK),eN k (A.deeper (envOfC qual scope s.heap.objs.size f cdv))->sp vs H Q E->
   ∃t,PSs (aIF CX P w K mg base N qual scope f cdv A outer s H E) body t/\t { nx:=λ_ H'=>Q .non H',rt:=Q } (start N vs) H) :
  bS P w K mg base CX (k+1) f (W.fnOf name qual params body scope dV kV doc pm an cdv ct) ps sp:=by
 refine⟨len,λA outer s H args us vs Q E hr e0 hb r hsp=>?_⟩
 have hl:=len _ _ _ _ hsp
 have KX:K.In s.heap:=e0.mod.kin.keeps λb o e=>(e0.bs b o e).1
 have lim:s.heap.NoLimit:=e0.mod.nolimit.keeps λb o e=>(e0.bs b o e).1
 have hkind:∀y∈ps.zip us,scope.names.lookup y.1=some .local\/(scope.names.lookup y.1=some .cell/\((cellsFrom (s.heap.objs.size+1) scope.names []).lookup y.1).isSome=true):=λ⟨n,v⟩ hy=>by
  rcases S.par n (Tp9 hy).1 with q|q
  ·exact .inl q
  ·exact .inr ⟨q,PySem.W.cellsFrom_some _ _ _ (.inl q)⟩
 refine codeAny_call_function hr.depth (KX _ _ lk) rfl S.co S.gen rfl (PySem.W.codeRec_of KX hcd) (hb _ _ _ _ ?_)
 refine wpAny_newFunctionEnv_cells S.kind hkind λenv he s1 x=>?_
 subst he
 refine⟨lim.keeps x.toInCall.keep,codeAny_func ?_⟩
 obtain⟨t,ht,hq⟩:=hbody A outer s H vs Q E (hr.deeper _) hsp
 have I:Inv (aIF CX P w K mg base N qual scope f cdv A outer s H E) [] (start N vs) H s1:=aKp S hr.hd e0 hl r x
 refine wpAny_mono (ht [] s1 (start N vs) H _ I hq) (λfl s' hs=>?_) λe s' hs=>hs
 have fin:∀{σ':St} {H':Hp} {v:V} {u:Value},Inv (aIF CX P w K mg base N qual scope f cdv A outer s H E) [] σ' H' s'->RelV v u->Q v H'->CE outer P w H s Q u s':=
  λ{σ' H' v u} J rv q=>⟨v,H',J.os,J.bare,J.base,J.hok,rv,q⟩
 cases fl with
 |ret u=>
  obtain⟨v,σ',H',J,rv,q⟩:=hs
  exact fin J rv q
 |next=>
  obtain⟨σ',H',J,q⟩:=hs
  exact fin (v:=V.non) (u:=Value.none) J rfl q
 |brk=>
  obtain⟨_,_,_,q⟩:=hs
  exact False.elim q
 |cont=>
  obtain⟨_,_,_,q⟩:=hs
  exact False.elim q
end L2
namespace L2
open PySem PySem.Spec PyProof.Rows
section
variable{X:Cx}{x:Str}{p pos:Pos}{e:Expr}{es:List Expr}{t:TA}{id T:String}{r:List V->Hp->VK->Prop}
def tCB(r:List V->Hp->VK->Prop)(t:TA):TE:=λσ H Q=>t σ H λvs H1=>r vs H1 Q
theorem aLC(hc:fE X (.builtin id) r)(hg:Gl X x)(hm:X.mg x=none)(hv:bootBuiltins x=some (.builtin id))(ha:PA X (e::es) t)(hn:x≠"__name__":=by decide)(hdb:(x == ("__debug__" : Str))=false:=by decide)
  (he:starEach (e::es) X.env=(false,eval e X.env)::starEach es X.env:=by rfl) (hpl:(backTo pos (starEach es X.env)).any (·.1)=false:=by rfl):PE X (.Call (.Name x p) (e::es) [] pos) (tCB r t):=by
 intro pins s σ H Q I h
 refine wpAny_Call_Name_kw (pH I hg hm hv ?_ hn hdb)
 exact PyProof.Rows.callWith_builtin1 (dI (ha pos pins s σ H _ I h) λus s1 ⟨vs,H1,I1,r1,q1⟩=>hc pins s1 σ H1 vs us Q I1 r1 q1) he hpl
theorem aKq(hc:fE X (.type T) r)(hg:Gl X x)(hm:X.mg x=none)(hv:bootBuiltins x=some (.type T))(ha:PA X (e::es) t)(hn:x≠"__name__":=by decide)(hdb:(x == ("__debug__" : Str))=false:=by decide)
  (he:starEach (e::es) X.env=(false,eval e X.env)::starEach es X.env:=by rfl) (hpl:(backTo pos (starEach es X.env)).any (·.1)=false:=by rfl):PE X (.Call (.Name x p) (e::es) [] pos) (tCB r t):=by
 intro pins s σ H Q I h
 refine wpAny_Call_Name_kw (pH I hg hm hv ?_ hn hdb)
 exact PyProof.Rows.callWith_type1 (dI (ha pos pins s σ H _ I h) λus s1 ⟨vs,H1,I1,r1,q1⟩=>hc pins s1 σ H1 vs us Q I1 r1 q1) he hpl
end
end L2
namespace HT
open PySem PyProof.Rows
section
open PySem.SeqAt
open PySem.AutoSeq1 (wpAny_loadPart')
open PySem.MeetsSeq PySem.MeetsSeq2 PySem.MeetsSeq3
end
section
variable{prog:Program}{w:World}{A:Around}{E:Value->Shared->Prop}{s:Shared}
def nR(n d:Nat):Option Int->Nat
 |none=>d
 |some v=>if v < 0 then (v+(n:Int)).toNat else min v.toNat n
theorem aHs(n d:Nat):nR n d none=d:=rfl
theorem aJy(n d k:Nat):nR n d (some (k:Int))=min k n:=by
 show(if (k:Int) < 0 then ((k:Int)+(n:Int)).toNat else min (k:Int).toNat n)=min k n
 rw[if_neg (by omega),Rm9]
theorem aPU(n d:Nat)(hd:d<=n)(o:Option Int):nR n d o<=n:=by
 cases o with
 |none=>exact hd
 |some v=>
  show(if v < 0 then (v+(n:Int)).toNat else min v.toNat n)<=n
  by_cases hv:v < 0
  ·rw[if_pos hv];omega
  ·rw[if_neg hv];exact Nat.min_le_right _ _
theorem aJz(v:Int)(n d:Nat):(if v < 0 then max (v+(n:Int)) 0 else min v (n:Int))=((nR n d (some v):Nat):Int):=by
 show(if v < 0 then max (v+(n:Int)) 0 else min v (n:Int))=(((if v < 0 then (v+(n:Int)).toNat else min v.toNat n):Nat):Int)
 by_cases hv:v < 0
 ·simp only[if_pos hv];omega
 ·simp only[if_neg hv];omega
theorem aIG(lo hi:Option Int)(n:Nat):Builtin.Slice.sliceAdjust lo hi 1 (n:Int)=(((nR n 0 lo:Nat):Int),((nR n n hi:Nat):Int)):=by
 have h1:¬((1:Int) < 0):=by omega
 unfold Builtin.Slice.sliceAdjust
 simp only[h1,if_false]
 refine Prod.ext ?_ ?_
 ·cases lo with
  |none=>rfl
  |some v=>exact aJz v n 0
 ·cases hi with
  |none=>rfl
  |some v=>exact aJz v n n
theorem aIH(i j:Nat):Builtin.Slice.slicePlaces (i:Int) (j:Int) 1=j - i:=by
 unfold Builtin.Slice.slicePlaces
 have h1:(1:Int) > 0:=by omega
 simp only[h1,if_true,Int.ediv_one]
 split <;> omega
theorem aDH{o:Option Int}{Q:Option Int->Shared->Prop}(p:IsPart v o)(h:Q o s):wpAny (model prog w) A (Builtin.Slice.slicePartIndex v) Q E s:=by
 cases p with
 |none=>exact slicePart_none h
 |int i t=>exact slicePart_int h
theorem aBN{lo hi:Option Int}{n:Nat}{Q:Int×Int×Nat->Shared->Prop}(hs:s.heap.IsSliceOf sl vl vu .none)(pl:IsPart vl lo)(pu:IsPart vu hi)(h:Q (((nR n 0 lo:Nat):Int),1,nR n n hi - nR n 0 lo) s):wpAny (model prog w) A (Builtin.Slice.sliceApplied (.ref sl) (pure (n:Int))) Q E s:=by
 obtain⟨os,hos,hcs,hds⟩:=id hs
 unfold Builtin.Slice.sliceApplied Builtin.Slice.sliceFields
 refine wpAny_bind (wpAny_bind (wpAny_field hos hds (x:=vl) rfl (wpAny_bind (wpAny_field hos hds (x:=vu) rfl (wpAny_bind (wpAny_field hos hds (x:=.none) rfl (wpAny_pure ?_)))))))
 refine wpAny_bind (slicePart_none ?_)
 show wpAny _ _ (if ((1:Int) == 0)=true then _ else _) _ _ s
 rw[if_neg (by decide)]
 refine wpAny_bind (aDH pl (wpAny_bind (aDH pu (wpAny_bind (wpAny_pure ?_)))))
 show wpAny _ _ (match Builtin.Slice.sliceAdjust lo hi 1 (n:Int) with|(lo,hi)=>pure (lo,(1:Int),Builtin.Slice.slicePlaces lo hi 1)) _ _ s
 rw[aIG lo hi n]
 show wpAny _ _ (pure (((nR n 0 lo:Nat):Int),(1:Int),Builtin.Slice.slicePlaces ((nR n 0 lo:Nat):Int) ((nR n n hi:Nat):Int) 1)) _ _ s
 rw[aIH]
 exact wpAny_pure h
theorem aLD(xs:Array Value)(i k:Nat):((List.range k).filterMap λ(m:Nat)=>xs[((i:Int)+(m:Int)*1).toNat]?).toArray=((xs.toList.drop i).take k).toArray:=by
 have e:(λ(m:Nat)=>xs[((i:Int)+(m:Int)*1).toNat]?)=λm=>xs[i+m]?:=by
  funext m
  have:((i:Int)+(m:Int)*1).toNat=i+m:=by omega
  rw[this]
 rw[e]
 have:=pick_run xs i k
 rw[List.filterMap_map] at this
 have e2:((λx=>xs[x]?) ∘ λx=>i+x)=λm=>xs[i+m]?:=rfl
 rw[e2] at this
 rw[this]
theorem aAR{items:Array Value}{lo hi:Option Int}{Q:Value->Shared->Prop}(ht:IsTup s.heap t items)(hs:s.heap.IsSliceOf sl vl vu .none)(pl:IsPart vl lo)(pu:IsPart vu hi)(hw:¬(nR items.size 0 lo=0/\nR items.size items.size hi=items.size))(h:Q (.ref s.heap.objs.size) { s with heap:=s.heap.push { cls:=.type "tuple",data:=.seq ((items.toList.drop (nR items.size 0 lo)).take (nR items.size items.size hi - nR items.size 0 lo)).toArray } })(hsz:items.size<=sizeLine):wpAny (model prog w) A (getItem (.ref t) (.ref sl)) Q E s:=by
 have htake:sizeOk (.seq ((items.toList.drop (nR items.size 0 lo)).take (nR items.size items.size hi - nR items.size 0 lo)).toArray):=by
  show((items.toList.drop (nR items.size 0 lo)).take (nR items.size items.size hi - nR items.size 0 lo)).toArray.size<=sizeLine
  rw[mF,Qz9,Tn9,Rg9]
  omega
 have hj:nR items.size items.size hi<=items.size:=aPU _ _ (eA _) hi
 obtain⟨os,hos,hcs,hds⟩:=id hs
 have hTs:s.TypeIs (.ref sl) "slice":=⟨os,hos,hcs⟩
 unfold getItem
 try with_reducible refine wpAny_holding ?_
 first|refine wpAny_bind (wpAny_pure ?_)|skip
 refine wpAny_bind (wpAny_sequenceKey ht.typeIs (by decide) ?_)
 refine wpAny_bind (wpAny_callSpecial?_slot (name:=Str.ofString "__getitem__") ht.typeIs PyProof.Rows.slot_tuple_getitem
  (wpAny_call_entry PyProof.Rows.slot_tuple_getitem ht.typeIs entry_tuple_getitem ?_ (args_tuple_getitem _ _)))
 show wpAny _ _ (Builtin.Tuple.tupleItemsOf (.ref t) >>= _) _ _ s
 refine wpAny_bind (tupleItemsOf_ ht ?_)
 refine wpAny_bind (wpAny_typeOf hTs ?_)
 rw[if_pos (by decide)]
 refine wpAny_bind (aBN hs pl pu ?_)
 have hno:¬((((nR items.size 0 lo:Nat):Int) == 0 && (1:Int) == 1 && (nR items.size items.size hi - nR items.size 0 lo) == items.size)=true):=by
  intro q
  rw[Rp9,Rp9] at q
  have q1:((nR items.size 0 lo:Nat):Int)=0:=eq_of_beq q.1.1
  have q2:nR items.size items.size hi - nR items.size 0 lo=items.size:=eq_of_beq q.2
  exact hw ⟨by omega,by omega⟩
 show wpAny _ _ (if (((nR items.size 0 lo:Nat):Int) == 0 && (1:Int) == 1 && (nR items.size items.size hi - nR items.size 0 lo) == items.size)=true then _ else _) _ _ s
 rw[if_neg hno,aLD]
 first
  |exact wpAny_bind (m:=Builtin.Tuple.tupleExact _) (wpAny_newObj_type (wpAny_pure ⟨_,rfl,wpAny_pure h⟩) htake)
  |exact wpAny_bind (m:=Builtin.Tuple.tupleExact _) (wpAny_newObj_type (wpAny_bind (wpAny_pure (wpAny_pure ⟨_,rfl,wpAny_pure h⟩))) htake)
  |exact wpAny_bind (wpAny_bind (m:=Builtin.Tuple.tupleExact _) (wpAny_newObj_type (wpAny_pure (wpAny_pure ⟨_,rfl,wpAny_pure h⟩)) htake))
  |exact wpAny_bind (wpAny_bind (m:=Builtin.Tuple.tupleExact _) (wpAny_newObj_type (wpAny_pure ⟨_,rfl,wpAny_pure h⟩) htake))
end
end HT
namespace L2
open PySem PySem.Spec PyProof.Rows
abbrev TO:=St->Hp->(Option Int->Hp->Prop)->Prop
def PO(X:Cx)(e:Option Expr)(t:TO):Prop:=
 ∀(pins:List (Addr×Obj)) (s:Shared) (σ:St) (H:Hp) (Q:Option Int->Hp->Prop),Inv X pins σ H s->t σ H Q->
  wpAny (model X.prog X.w) X.A (evalPart e X.env) (λu s'=>∃o H',Inv X pins σ H' s'/\IsPart u o/\Q o H') X.xe s
def aGa:TO:=λ_ H Q=>Q none H
def aLE(t:TE):TO:=λσ H Q=>t σ H λx H1=>∃i,x=.int i/\Q (some i) H1
theorem intsAre_of{ns:List Int}:∀{us:List Value},Vals (ns.map V.int) us->IntsAre us ns:=by
 induction ns with
 |nil=>intro us r;rw[Tk9] at r;cases r;exact .nil
 |cons n ns ih=>
  intro us r
  rw[Rd9] at r
  cases r with
  |cons r1 r2=>
   obtain⟨t,e⟩:=r1
   subst e
   exact .cons n t (ih r2)
section
variable{X:Cx}{e:Expr}{te:TE}{lo hi:Option Expr}{tl th:TO}{pos p2:Pos}
theorem aNK:PO X none aGa:=by
 intro pins s σ H Q I h
 rw[evalPart_none]
 exact wpAny_pure ⟨none,H,I,.none,h⟩
theorem aNL(h:PE X e te):PO X (some e) (aLE te):=by
 intro pins s σ H Q I hw
 rw[evalPart_some]
 refine dI (h pins s σ H _ I hw) λu s1 ⟨x,H1,I1,r1,q1⟩=>?_
 obtain⟨i,rfl,q⟩:=q1
 obtain⟨t,rfl⟩:=r1
 exact⟨some i,H1,I1,.int i t,q⟩
def SlR(X:Cx)(r:V->Option Int->Option Int->Hp->VK->Prop):Prop:=
 ∀(pins:List (Addr×Obj)) (s:Shared) (σ:St) (H:Hp) (x:V) (v vl vu:Value) (lo hi:Option Int) (sl:Addr) (Q:VK),Inv X pins σ H s->RelV x v->s.heap.IsSliceOf sl vl vu .none->IsPart vl lo->IsPart vu hi->r x lo hi H Q->
  ∃T id,typeLookup (.type T) "__getitem__" = pure (some (.builtin id))/\s.TypeIs v T/\wpAny (model X.prog X.w) X.A (getItem v (.ref sl)) (EP X pins σ Q) X.xe s
theorem SlR.or{r r':V->Option Int->Option Int->Hp->VK->Prop}(h:SlR X r)(h':SlR X r'):SlR X (λx lo hi H Q=>r x lo hi H Q\/r' x lo hi H Q):=by
 intro pins s σ H x v vl vu lo hi sl Q I rx hs pl pu q
 rcases q with q|q
 ·exact h pins s σ H x v vl vu lo hi sl Q I rx hs pl pu q
 ·exact h' pins s σ H x v vl vu lo hi sl Q I rx hs pl pu q
def tSl(r:V->Option Int->Option Int->Hp->VK->Prop)(te:TE)(tl th:TO):TE:=λσ H Q=>te σ H λx H1=>tl σ H1 λl H2=>th σ H2 λu H3=>r x l u H3 Q
theorem aLF{r:V->Option Int->Option Int->Hp->VK->Prop}(hr:SlR X r)(he:PE X e te)(hl:PO X lo tl)(hu:PO X hi th):PE X (.Subscript e (.Slice lo hi none p2) pos) (tSl r te tl th):=by
 intro pins s σ H Q I h
 refine Subscript_ (dI (he pins s σ H _ I h) λv s1 ⟨x,H1,I1,r1,q1⟩=>?_)
 refine wpAny_Slice (dI (hl pins s1 σ H1 _ I1 q1) λvl s2 ⟨l,H2,I2,pl,q2⟩=>dI (hu pins s2 σ H2 _ I2 q2) λvu s3 ⟨u,H3,I3,pu,q3⟩=>?_)
 rw[evalPart_none]
 refine wpAny_pure ?_
 have I4:Inv X pins σ H3 { s3 with heap:=s3.heap.push { cls:=.type "slice",data:=.fields #[vl,vu,.none] } }:=I3.kept (t':=s3.toks) λb ob q=>fH _ q
 obtain⟨T,id,hT,ht,hg⟩:=hr pins { s3 with heap:=s3.heap.push { cls:=.type "slice",data:=.fields #[vl,vu,.none] } } σ H3 x v vl vu l u s3.heap.objs.size Q I4 r1 (Heap.IsSliceOf.new ..) pl pu q3
 show wpAny (model X.prog X.w) X.A (subscriptTail e (.Slice lo hi none p2) v (.ref s3.heap.objs.size)) (EP X pins σ Q) X.xe { s3 with heap:=s3.heap.push { cls:=.type "slice",data:=.fields #[vl,vu,.none] } }
 exact tail_any (ops:=[.ref s3.heap.objs.size,v]) ht hT hg (by with_unfolding_all rfl)
def sL(xs:List V)(lo hi:Option Int):List V:=(xs.drop (HT.nR xs.length 0 lo)).take (HT.nR xs.length xs.length hi - HT.nR xs.length 0 lo)
theorem fW(xs:List V)(lo hi:Option Int):(sL xs lo hi).length<=xs.length:=by
 unfold sL
 rw[Qz9,Tn9]
 omega
def aRe(K:W.Frag):V->Option Int->Option Int->Hp->VK->Prop:=λx lo hi H Q=>∃a xs,x=.ref a/\jQ K H a xs/\
 ¬(HT.nR xs.length 0 lo=0/\HT.nR xs.length xs.length hi=xs.length)/\∀p,H p=none->Q (.ref p) (upd H p (.tup (sL xs lo hi)))
theorem aPV:SlR X (aRe X.K):=by
 intro pins s σ H x v vl vu lo hi sl Q I rx hs pl pu h
 obtain⟨a,xs,rfl,hx,hw,q⟩:=h
 cases rx
 obtain⟨its,r,ht,hz⟩:=I.tuple hx
 have hlen:its.toArray.size=xs.length:=by rw[mF];exact r.length.symm
 refine⟨"tuple",_,PyProof.Rows.slot_tuple_getitem.lookup,ht.typeIs,?_⟩
 refine HT.aAR ht hs pl pu (by rw[hlen];exact hw) ?_ (by rw[hlen];exact hz)
 rw[hlen]
 refine⟨.ref s.heap.objs.size,_,I.laid (t':=s.toks) (o:=.tup (sL xs lo hi)) (λb ob q=>fH _ q) (eA _) ?_,rfl,q _ (I.hok.fresh (eA _))⟩
 exact⟨Rr9 (fW xs lo hi) hz,_,(r.drop (HT.nR xs.length 0 lo)).take (HT.nR xs.length xs.length hi - HT.nR xs.length 0 lo),IsTup.new _ _⟩
end
end L2
namespace L2
open PySem PySem.Spec PyProof.Rows
def ixN(n:Nat)(i:Int):Option Nat:=if 0<=i then (if i < n then some i.toNat else none) else if -(n:Int)<=i then some (i+n).toNat else none
def atI{α:Type}(xs:List α)(i:Int):Option α:=(ixN xs.length i).bind λj=>xs[j]?
theorem aJA{n:Nat}{i:Int}{j:Nat}(h:ixN n i=some j):seqIndex? i n=some j/\j < n/\-(n:Int)<=i/\i < n:=by
 unfold ixN at h
 by_cases h0:0<=i
 ·rw[if_pos h0] at h
  by_cases h1:i < n
  ·rw[if_pos h1] at h
   have e:i.toNat=j:=Option.some.inj h
   exact⟨by rw[seqIndex_of h0 h1,e],by omega,by omega,h1⟩
  ·rw[if_neg h1] at h;cases h
 ·rw[if_neg h0] at h
  by_cases h1:-(n:Int)<=i
  ·rw[if_pos h1] at h
   have e:(i+n).toNat=j:=Option.some.inj h
   exact⟨by rw[seqIndex_neg (by omega) h1,e],by omega,h1,by omega⟩
  ·rw[if_neg h1] at h;cases h
theorem aGb{α:Type}{xs:List α}{i:Int}{v:α}(h:atI xs i=some v):∃j,seqIndex? i xs.length=some j/\xs[j]?=some v/\j < xs.length/\-(xs.length:Int)<=i/\i < xs.length:=by
 unfold atI at h
 cases e:ixN xs.length i with
 |none=>rw[e] at h;cases h
 |some j=>
  rw[e] at h
  obtain⟨h1,h2,h3,h4⟩:=aJA e
  exact⟨j,h1,h,h2,h3,h4⟩
theorem m6{α:Type}{xs:List α}{j:Nat}{v:α}(h:xs[j]?=some v):atI xs (j:Int)=some v:=by
 have hj:j < xs.length:=(qM.mp h).1
 have e:ixN xs.length (j:Int)=some j:=by
  unfold ixN
  rw[if_pos (by omega),if_pos (by omega)];simp
 unfold atI;rw[e];exact h
theorem aHt{α:Type}(xs:List α)(v:α):atI (xs ++ [v]) (-1)=some v:=by
 have hl:(xs ++ [v]).length=xs.length+1:=by simp
 have e:ixN (xs ++ [v]).length (-1)=some xs.length:=by
  unfold ixN
  rw[hl,if_neg (by decide),if_pos (by omega)]
  congr 1
  omega
 unfold atI
 rw[e]
 show(xs ++ [v])[xs.length]?=some v
 simp
def aJB(b:Expr):Prop:=∀o i,subscripted b false o i=operate [o,i] (getItem o i)
def IxR(X:Cx)(r:R2):Prop:=
 ∀(value slice:Expr) (pins:List (Addr×Obj)) (s:Shared) (σ:St) (H:Hp) (x y:V) (v u:Value) (Q:VK),Inv X pins σ H s->RelV x v->RelV y u->r x y H Q->
  subscripted slice false v u=operate [v,u] (getItem v u)->wpAny (model X.prog X.w) X.A (subscriptTail value slice v u) (EP X pins σ Q) X.xe s
def MtR(X:Cx)(id:String)(r:V->List V->Hp->VK->Prop):Prop:=
 ∀(pins:List (Addr×Obj)) (s:Shared) (σ:St) (H:Hp) (x:V) (xs:List V) (v:Value) (us:List Value) (Q:VK),Inv X pins σ H s->RelV x v->Vals xs us->r x xs H Q->
  wpAny (model X.prog X.w) X.A (call (.builtin id) (v::us)) (EP X pins σ Q) X.xe s
section
variable{X:Cx}{a b:Expr}{ta tb:TE}{pos:Pos}
theorem IxR.or{r':R2}(h:IxR X r)(h':IxR X r'):IxR X (λx y H Q=>r x y H Q\/r' x y H Q):=by
 intro value slice pins s σ H x y v u Q I rx ry q hs
 rcases q with q|q
 ·exact h value slice pins s σ H x y v u Q I rx ry q hs
 ·exact h' value slice pins s σ H x y v u Q I rx ry q hs
theorem aRf(hr:IxR X r)(ha:PE X a ta)(hb:PE X b tb)(hs:aJB b):PE X (.Subscript a b pos) (tOp r ta tb):=by
 intro pins s σ H Q I h
 exact Subscript_ (aPN ha hb I h λv u s2 x y H2 I2 rx ry q=>hr a b pins s2 σ H2 x y v u Q I2 rx ry q (hs _ _))
def aRg(K:W.Frag):R2:=λx y H Q=>∃p xs i v,x=.ref p/\y=.int i/\bX K H p xs/\atI xs i=some v/\Q v H
def aRh(K:W.Frag):R2:=λx y H Q=>∃p xs i v,x=.ref p/\y=.int i/\jQ K H p xs/\atI xs i=some v/\Q v H
def aRi:R2:=λx y H Q=>∃z i c,x=.str z/\y=.int i/\z.length<=sizeLine/\atI z.cps.toList i=some c/\Q (.str ⟨#[c]⟩) H
theorem aNM:IxR X (aRg X.K):=by
 intro value slice pins s σ H x y v u Q I rx ry h hs
 obtain⟨p,xs,i,z,rfl,rfl,hq,he,q⟩:=h
 cases rx
 obtain⟨t,rfl⟩:=ry
 obtain⟨its,r,pl,hz⟩:=I.list hq
 obtain⟨j,h1,h2,h3,h4,h5⟩:=aGb he
 obtain⟨w,ew,rw'⟩:=r.get h2
 have hl:=r.length
 have hn:=aBJ
 have fin:EP X pins σ Q w s:=⟨z,H,I,rw',q⟩
 by_cases h0:0<=i
 ·have hj:i.toNat=j:=by
   rw[seqIndex_of h0 h5] at h1
   exact Option.some.inj h1
  exact item_listR pl.isList h0 (by omega) (by rw[hj];simpa using ew) fin hs
 ·have hj:(i+(its.toArray.size:Int)).toNat=j:=by
   rw[seqIndex_neg (by omega) h4] at h1
   rw[mF,<-hl]
   exact Option.some.inj h1
  exact subscriptTail_builtinR (x:=w) pl.isList.typeIs slot_list_getitem.lookup
   (wpAny_getItem_list_neg (Q:=λr s'=>r=w/\EP X pins σ Q r s') pl.isList (by omega) (by rw[mF] <;> omega) (by omega) (by rw[hj];simpa using ew) ⟨rfl,fin⟩) hs
theorem aPW:IxR X (aRh X.K):=by
 intro value slice pins s σ H x y v u Q I rx ry h hs
 obtain⟨p,xs,i,z,rfl,rfl,hq,he,q⟩:=h
 cases rx
 obtain⟨t,rfl⟩:=ry
 obtain⟨its,r,pl,hz⟩:=I.tuple hq
 obtain⟨j,h1,h2,h3,h4,h5⟩:=aGb he
 obtain⟨w,ew,rw'⟩:=r.get h2
 have hl:=r.length
 have hn:=aBJ
 have fin:EP X pins σ Q w s:=⟨z,H,I,rw',q⟩
 exact subscriptTail_builtinR (x:=w) pl.typeIs slot_tuple_getitem.lookup
  (getItem_tuple (j:=j) (Q:=λr s'=>r=w/\EP X pins σ Q r s') pl (by omega) (by omega) (by rw[mF,<-hl];exact h1) (by simpa using ew) ⟨rfl,fin⟩) hs
theorem aPX:IxR X aRi:=by
 intro value slice pins s σ H x y v u Q I rx ry h hs
 obtain⟨z,i,c,rfl,rfl,hz,he,q⟩:=h
 obtain⟨t,rfl⟩:=rx
 obtain⟨t',rfl⟩:=ry
 obtain⟨j,h1,h2,h3,h4,h5⟩:=aGb he
 have hl:z.cps.toList.length=z.length:=by simp[Str.length]
 rw[hl] at h1 h4 h5
 have hn:=aBJ
 exact tail_any (typeIs_str s z t) slot_str_getitem.lookup (getItem_str (c:=c) (by
  have e1:decide (i < -(2 ^ 63:Int))=false:=decide_eq_false (by omega)
  have e2:decide (i ≥ 2 ^ 63)=false:=decide_eq_false (by omega)
  rw[e1,e2,Bool.or_false]) (by rw[h1];simpa using h2) ⟨.str ⟨#[c]⟩,H,I.tok _,⟨_,rfl⟩,q⟩) hs
def rIx(K:W.Frag):R2:=λx y H Q=>aRg K x y H Q\/aRh K x y H Q\/aRi x y H Q
theorem aPY:IxR X (rIx X.K):=aNM.or (aPW.or aPX)
theorem aII(its:List Value)(n j:Nat)(u:Value):Obj.mapSeq (·.setIfInBounds j u) { cls:=.type "list",data:=.seq its.toArray n } = { cls:=.type "list",data:=.seq (its.set j u).toArray n }:=by
 simp[Obj.mapSeq]
theorem Inv.lst{pins:List (Addr×Obj)}{σ:St}{H:Hp}{s:Shared}{p:Addr}{xs:List V}(I:Inv X pins σ H s)(h:H p=some (.lst xs)) :
  ∃(its:List Value) (n:Nat),Vals xs its/\s.heap.get? p=some { cls:=.type "list",data:=.seq its.toArray n }/\xs.length<=sizeLine:=by
 obtain⟨z,its,n,r,e⟩:=I.hok p _ h
 exact⟨its,n,r,e,z⟩
theorem Inv.aPZ{s:Shared}{ys:List V}{its its':List Value}{n n':Nat}{f:Obj->Obj}(I:Inv X pins σ H s)(h:H p=some (.lst xs))(ho:s.heap.get? p=some { cls:=.type "list",data:=.seq its.toArray n })(hf:f { cls:=.type "list",data:=.seq its.toArray n } = { cls:=.type "list",data:=.seq its'.toArray n' })(r:Vals ys its')(hz:ys.length<=sizeLine)(t:Nat) :
  Inv X pins σ (upd H p (.lst ys)) { s with heap:=s.heap.update p f,toks:=t }:=by
 have e:(s.heap.update p f).get? p=some { cls:=.type "list",data:=.seq its'.toArray n' }:=by
  rw[Sh9 f ho (by rw[hf] <;> rfl),hf]
 refine I.write (x:=p) (e:=p) (by rw[h];trivial) (.inl rfl) (λb u hb q=>(Te9 _ _ (Ne.symm hb)).trans q) ⟨_,e⟩ ?_
 exact⟨hz,its',n',r,e⟩
def aOY:V->V->V->Hp->(Hp->Prop)->Prop:=λo i v H Q=>∃p xs k j,o=.ref p/\i=.int k/\H p=some (.lst xs)/\ixN xs.length k=some j/\Q (upd H p (.lst (xs.set j v)))
theorem set_list:aLm X aOY:=by
 intro pins s σ H o i v ov iv u Q I ro ri rv h
 obtain⟨p,xs,k,j,rfl,rfl,hp,hj,q⟩:=h
 cases ro
 obtain⟨t,rfl⟩:=ri
 obtain⟨its,n,r,ho,hz⟩:=I.lst hp
 obtain⟨h1,h2,h3,h4⟩:=aJA hj
 have hl:=r.length
 have hn:=aBJ
 have I':Inv X pins σ (upd H p (.lst (xs.set j v))) { s with heap:=s.heap.update p (Obj.mapSeq (·.setIfInBounds j u)) }:=
  I.aPZ hp ho (aII its n j u) (r.set rv j) (by rw[Tq9];exact hz) s.toks
 by_cases h0:0<=k
 ·have hk:k.toNat=j:=by
   rw[seqIndex_of h0 h4] at h1
   exact Option.some.inj h1
  exact PySem.W.ki_setAt ho h0 (by omega) (by rw[mF,<-hl];exact h4) (by rw[hk];exact⟨_,I',q⟩)
 ·have hk:(k+(its.toArray.size:Int)).toNat=j:=by
   rw[seqIndex_neg (by omega) h3] at h1
   rw[mF,<-hl]
   exact Option.some.inj h1
  exact PySem.W.ki_setBack ho (by omega) (by rw[mF,<-hl];exact h3) (by omega) (by rw[hk];exact⟨_,I',q⟩)
theorem aGc(lo hi:Option Int)(n:Nat):(sliceBounds lo hi none n).1=((HT.nR n 0 lo:Nat):Int)/\(sliceBounds lo hi none n).2.1=((HT.nR n n hi:Nat):Int)/\(sliceBounds lo hi none n).2.2=1:=by
 refine⟨?_,?_,rfl⟩
 ·cases lo with
  |none=>simp[sliceBounds,HT.nR]
  |some i=>
   simp only[sliceBounds,HT.nR,Option.getD_none,show(1:Int) > 0 by decide,if_true]
   by_cases h:i < 0
   ·simp only[h,if_true] <;> omega
   ·simp only[h,if_false] <;> omega
 ·cases hi with
  |none=>simp[sliceBounds,HT.nR]
  |some i=>
   simp only[sliceBounds,HT.nR,Option.getD_none,show(1:Int) > 0 by decide,if_true]
   by_cases h:i < 0
   ·simp only[h,if_true] <;> omega
   ·simp only[h,if_false] <;> omega
theorem aEW(its:List Value)(lo hi:Option Int):slicePick its.toArray lo hi none=((its.drop (HT.nR its.length 0 lo)).take (HT.nR its.length its.length hi - HT.nR its.length 0 lo)).toArray:=by
 obtain⟨h1,h2,h3⟩:=aGc lo hi its.toArray.size
 unfold slicePick
 rw[h1,h2,h3]
 simp only[sliceRange_one,pick_run,mF] <;> rfl
def aRj(K:W.Frag):V->Option Int->Option Int->Hp->VK->Prop:=λx lo hi H Q=>∃a xs,x=.ref a/\bX K H a xs/\∀p,H p=none->Q (.ref p) (upd H p (.lst (sL xs lo hi)))
theorem aNN:SlR X (aRj X.K):=by
 intro pins s σ H x v vl vu lo hi sl Q I rx hs pl pu h
 obtain⟨a,xs,rfl,hx,q⟩:=h
 cases rx
 obtain⟨its,r,ht,hz⟩:=I.list hx
 have hlen:=r.length
 refine⟨"list",_,slot_list_getitem.lookup,ht.isList.typeIs,?_⟩
 refine wpAny_getItem_list_slice ht.isList hs pl pu .none (by simp) ?_ (by rw[mF] <;> omega)
 rw[aEW,<-hlen]
 refine⟨.ref s.heap.objs.size,_,I.laid (t':=s.toks) (o:=.lst (sL xs lo hi)) (λb ob q=>fH _ q) (eA _) ?_,rfl,q _ (I.hok.fresh (eA _))⟩
 exact⟨Rr9 (fW xs lo hi) hz,_,0,(r.drop (HT.nR xs.length 0 lo)).take (HT.nR xs.length xs.length hi - HT.nR xs.length 0 lo),tE _ rfl⟩
def j7:V->Bool
 |.non=>true
 |.bl _=>true
 |.int _=>true
 |.str _=>true
 |_=>false
def eqV:V->V->Bool
 |.non,.non=>true
 |.bl a,.bl b=>a == b
 |.bl a,.int b=>(if a then 1 else 0) == b
 |.int a,.bl b=>a == (if b then 1 else 0)
 |.int a,.int b=>a == b
 |.str a,.str b=>a == b
 |_,_=>false
theorem aIJ(ry:RelV y u)(rx:RelV x v)(fy:j7 y=true)(fx:j7 x=true):SeqAt.EqAt A s u v (eqV y x):=by
 cases y with
 |non=>
  cases ry
  cases x with
  |non=>cases rx;exact SeqAt.EqAt.same _
  |bl b=>cases rx;exact SeqAt.EqAt.none_bool b
  |int b=>obtain⟨t,rfl⟩:=rx;exact SeqAt.EqAt.none_int b t
  |str b=>obtain⟨t,rfl⟩:=rx;exact SeqAt.EqAt.none_str b t
  |_=>exact absurd (show false=true from fx) Qq9
 |bl a=>
  cases ry
  cases x with
  |non=>cases rx;exact SeqAt.EqAt.bool_none a
  |bl b=>cases rx;exact SeqAt.EqAt.bool_bool a b
  |int b=>obtain⟨t,rfl⟩:=rx;exact SeqAt.EqAt.bool_int a b t
  |str b=>obtain⟨t,rfl⟩:=rx;exact SeqAt.EqAt.bool_str a b t
  |_=>exact absurd (show false=true from fx) Qq9
 |int a=>
  obtain⟨t',rfl⟩:=ry
  cases x with
  |non=>cases rx;exact SeqAt.EqAt.int_none a t'
  |bl b=>cases rx;exact SeqAt.EqAt.int_bool a t' b
  |int b=>obtain⟨t,rfl⟩:=rx;exact SeqAt.EqAt.int_int a t' b t
  |str b=>obtain⟨t,rfl⟩:=rx;exact SeqAt.EqAt.int_str a t' b t
  |_=>exact absurd (show false=true from fx) Qq9
 |str a=>
  obtain⟨t',rfl⟩:=ry
  cases x with
  |non=>cases rx;exact SeqAt.EqAt.str_none a t'
  |bl b=>cases rx;exact SeqAt.EqAt.str_bool a t' b
  |int b=>obtain⟨t,rfl⟩:=rx;exact SeqAt.EqAt.str_int a t' b t
  |str b=>obtain⟨t,rfl⟩:=rx;exact SeqAt.EqAt.str_str a t' b t
  |_=>exact absurd (show false=true from fx) Qq9
 |_=>exact absurd (show false=true from fy) Qq9
def eqU(x:V)(u:Value):Bool:=match u with
 |.none=>eqV .non x
 |.bool b=>eqV (.bl b) x
 |.int i _=>eqV (.int i) x
 |.str z _=>eqV (.str z) x
 |_=>false
theorem aLG{x y:V}{u:Value}(r:RelV y u)(f:j7 y=true):eqU x u=eqV y x:=by
 cases y with
 |non=>cases r;rfl
 |bl b=>cases r;rfl
 |int i=>obtain⟨t,rfl⟩:=r;rfl
 |str z=>obtain⟨t,rfl⟩:=r;rfl
 |_=>exact absurd (show false=true from f) Qq9
theorem aGd{x:V}:∀{xs:List V}{us:List Value},Vals xs us->xs.all j7=true->us.any (eqU x)=xs.any λy=>eqV y x
 |_,_,.nil,_=>rfl
 |y::xs,u::us,.cons r t,f=>by
  rw[List.all_cons,Rp9] at f
  rw[Tb9,Tb9,aLG r f.1,aGd t f.2]
theorem aDI{A:Around}{s:Shared}{x:V}{v:Value}(rx:RelV x v)(fx:j7 x=true):∀{xs:List V}{us:List Value},Vals xs us->xs.all j7=true->∀u∈us,SeqAt.EqAt A s u v (eqU x u)
 |_,_,.nil,_=>λu hu=>by cases hu
 |y::xs,u::us,.cons r t,f=>λu' hu=>by
  rw[List.all_cons,Rp9] at f
  rcases sZ.mp hu with rfl|hu
  ·rw[aLG r f.1];exact aIJ r rx f.1 fx
  ·exact aDI rx fx t f.2 u' hu
def inV(x:V)(xs:List V):Bool:=xs.any λy=>eqV y x
def rIn(K:W.Frag)(neg:Bool):R2:=λx y H Q=>∃p xs,y=.ref p/\(bX K H p xs\/jQ K H p xs)/\j7 x=true/\xs.all j7=true/\Q (.bl (if neg then !inV x xs else inV x xs)) H
theorem aGe:v9 X (compareOp .NotIn) (rIn X.K true):=by
 intro pins s σ H x y v u Q I rx ry h
 obtain⟨p,xs,rfl,hq,fx,fs,q⟩:=h
 cases ry
 rcases hq with hq|hq
 ·obtain⟨its,r,pl,hz⟩:=I.list hq
  refine SeqAt.notIn_listAt (eqU x) pl.isList (λw hw=>aDI rx fx r fs w (by simpa using hw)) ⟨.bl _,H,I,rfl,?_⟩
  rw[show its.toArray.any (eqU x)=its.any (eqU x) by simp,aGd r fs]
  exact q
 ·obtain⟨its,r,pl,hz⟩:=I.tuple hq
  refine SeqAt.notIn_tupleAt (eqU x) pl (λw hw=>aDI rx fx r fs w (by simpa using hw)) ⟨.bl _,H,I,rfl,?_⟩
  rw[show its.toArray.any (eqU x)=its.any (eqU x) by simp,aGd r fs]
  exact q
theorem aGf:fE X (.type "list") (λxs H Q=>∃p ys,xs=[.ref p]/\(bX X.K H p ys\/jQ X.K H p ys)/\∀l,H l=none->Q (.ref l) (upd H l (.lst ys))):=by
 intro pins s σ H xs us Q I r h
 obtain⟨p,ys,rfl,hq,q⟩:=h
 obtain⟨u,rfl,rx⟩:=vals1 r
 cases rx
 have fin:∀(its:List Value),Vals ys its->ys.length<=sizeLine->∀(h':Heap) (c':Nat),(∀b o',s.heap.get? b=some o'->h'.get? b=some o')->
   h'.get? s.heap.objs.size=some { cls:=.type "list",dict:=none,data:=.seq its.toArray c',slots:=#[] }->EP X pins σ Q (.ref s.heap.objs.size) { s with heap:=h' }:=λits r' hz h' c' kp e=>
  ⟨.ref s.heap.objs.size,_,I.laid (t':=s.toks) kp (eA _) (show cD X.prog X.w _ h' _ (.lst ys) from⟨hz,its,c',r',e⟩),rfl,q _ (I.hok.fresh (eA _))⟩
 rcases hq with hq|hq
 ·obtain⟨its,r',pl,hz⟩:=I.list hq
  have hlen:=r'.length
  obtain⟨o,ho,hc,n,hd⟩:=pl.isList
  exact call_list_seq p (.inl rfl) ho hc hd (λh' c' kp e=>fin its r' hz h' c' kp e) (by simp only[mF] <;> omega)
 ·obtain⟨its,r',pl,hz⟩:=I.tuple hq
  have hlen:=r'.length
  obtain⟨o,ho,hc,n,hd⟩:=pl
  exact call_list_seq p (.inr rfl) ho hc hd (λh' c' kp e=>fin its r' hz h' c' kp e) (by simp only[mF] <;> omega)
theorem aEX:fE X (.type "tuple") (λxs H Q=>∃p ys,xs=[.ref p]/\((bX X.K H p ys/\∀l,H l=none->Q (.ref l) (upd H l (.tup ys)))\/(jQ X.K H p ys/\Q (.ref p) H))):=by
 intro pins s σ H xs us Q I r h
 obtain⟨p,ys,rfl,h⟩:=h
 obtain⟨u,rfl,rx⟩:=vals1 r
 cases rx
 rcases h with ⟨hq,q⟩|⟨hq,q⟩
 ·obtain⟨its,r',pl,hz⟩:=I.list hq
  have hlen:=r'.length
  refine call_tuple_list pl.isList (λh' kp=>?_) (by simp only[mF] <;> omega)
  have I1:Inv X pins σ H { s with heap:=h' }:=I.kept (t':=s.toks) kp
  have I2:Inv X pins σ (upd H h'.objs.size (.tup ys)) { s with heap:=h'.push { cls:=.type "tuple",data:=.seq its.toArray } }:=
   I1.laid (t':=s.toks) (λb o e=>fH _ e) (eA _) (show cD X.prog X.w _ _ _ (.tup ys) from⟨hz,its,r',IsTup.new _ _⟩)
  exact⟨.ref h'.objs.size,_,I2,rfl,q _ (I1.hok.fresh (eA _))⟩
 ·obtain⟨its,r',pl,hz⟩:=I.tuple hq
  exact call_tuple_same pl ⟨.ref p,H,I,rfl,q⟩
def tyV(K:W.Frag)(T:String)(x:V)(H:Hp):Prop:=match x with
 |.str _=>T = "str"
 |.int _=>T = "int"
 |.ref p=>(T = "list"/\∃xs,bX K H p xs)\/(T = "tuple"/\∃o,K.lookup p=some o/\o.cls=.type "tuple"/\o.dict=none)\/
   (T = "dict"/\((∃kvs,H p=some (.dK kvs))\/∃kvs,H p=some (.dT kvs)))\/(T = "set"/\∃S n,H p=some (.set S n))
 |_=>False
theorem aP0{s:Shared}(I:Inv X pins σ H s)(r:RelV x v)(ty:tyV X.K T x H) :
  s.TypeIs v T/\∀a,v=.ref a->∃ob,s.heap.get? a=some ob/\ob.dict=none:=by
 cases x with
 |str z=>
  obtain⟨t,rfl⟩:=r
  cases (show T = "str" from ty)
  exact⟨typeIs_str s z t,λ_ e=>nomatch e⟩
 |int i=>
  obtain⟨t,rfl⟩:=r
  cases (show T = "int" from ty)
  exact⟨typeIs_int s i t,λ_ e=>nomatch e⟩
 |ref p=>
  cases r
  rcases ty with ⟨rfl,xs,hq⟩|⟨rfl,o,hk,hc,hd⟩|⟨rfl,hk⟩|⟨rfl,S,n,hk⟩
  ·obtain⟨its,_,pl,_⟩:=I.list hq
   refine⟨pl.isList.typeIs,λa e=>?_⟩
   cases e
   obtain⟨o,n,e,c,hd,_⟩:=pl
   exact⟨o,e,hd⟩
  ·refine⟨⟨o,I.kIn p o hk,hc⟩,λa e=>?_⟩
   cases e
   exact⟨o,I.kIn _ o hk,hd⟩
  ·have z:∃o,s.heap.get? p=some o/\o.ExactDict:=by
    rcases hk with ⟨kvs,hk⟩|⟨kvs,hk⟩
    ·obtain⟨_,_,_,_,o,_,_,e,ex,_⟩:=I.hok p _ hk
     exact⟨o,e,ex⟩
    ·obtain⟨_,_,_,_,o,_,_,e,ex,_⟩:=I.hok p _ hk
     exact⟨o,e,ex⟩
   obtain⟨o,e,ex⟩:=z
   refine⟨⟨o,e,ex.1⟩,λa e2=>?_⟩
   cases e2
   exact⟨o,e,ex.2.1⟩
  ·obtain⟨o,_,_,_,e,ex,_⟩:=I.hok p _ hk
   refine⟨⟨o,e,ex.1⟩,λa e2=>?_⟩
   cases e2
   exact⟨o,e,ex.2.1⟩
 |_=>exact False.elim ty
def tBM(K:W.Frag)(T:String)(r:V->List V->Hp->VK->Prop)(to:TE)(t:TA):TE:=λσ H Q=>to σ H λx H1=>tyV K T x H1/\t σ H1 λxs H2=>r x xs H2 Q
variable{o e:Expr}{es:List Expr}{to:TE}{t:TA}{name:Str}{apos cpos:Pos}{T id:String}{r:V->List V->Hp->VK->Prop}
theorem aOZ(pa:PlainAttrs T)(slot:Slot T name id)(hty:typeOf (.builtin id)=pure (.type "method_descriptor"))(hm:MtR X id r)(ho:PE X o to)(ha:PA X (e::es) t)
  (hbase:attributeBase o name X.env (eval o X.env)=eval o X.env:=by rfl)
  (hfew:((backTo cpos (starEach (e::es) X.env)).all (λx=>!x.1) && (backToKw cpos (keywordEach [] X.env)).all (λx=>x.1.isSome)
   && decide ((e::es).length+([]:List Keyword).length+(if ([]:List Keyword).isEmpty then 0 else 1) < 30))=true:=by rfl)
  (hline:(apos.endLine == cpos.line)=true:=by rfl) (hs:starEach (e::es) X.env=(false,eval e X.env)::starEach es X.env:=by rfl) (hplain:(backTo cpos (starEach es X.env)).any (·.1)=false:=by rfl) :
  PE X (.Call (.Attribute o name apos) (e::es) [] cpos) (tBM X.K T r to t):=by
 intro pins s σ H Q I h
 refine wpAny_Call_method_late hbase hfew hline rfl (dI (ho pins s σ H _ I h) λv s1 ⟨x,H1,I1,r1,ty,q1⟩=>?_)
 obtain⟨h1,h2⟩:=aP0 I1 r1 ty
 refine⟨T,id,pa,slot,hty,h1,h2,?_⟩
 have hA:=ha cpos pins s1 σ H1 _ I1 q1
 rw[hs] at hA ⊢
 refine Calls.callWith_builtin (by show(false || (backTo cpos (starEach es X.env)).any (·.1))=false;rw[hplain] <;> rfl) (Calls.evalArgs_plain ?_)
 exact dI hA λus s2 ⟨vs,H2,I2,r2,q2⟩=>hm pins s2 σ H2 x vs v us Q I2 r1 r2 q2
end
end L2
namespace L2
open PySem PySem.Spec PyProof.Rows
def MtM(X:Cx)(id:String)(r:V->List V->Hp->VK->Prop):Prop:=
 ∀(pins:List (Addr×Obj)) (s:Shared) (σ:St) (H:Hp) (x:V) (xs:List V) (v:Value) (us:List Value) (Q:VK),Inv X pins σ H s->RelV x v->Vals xs us->r x xs H Q->
  wpAny (model X.prog X.w) X.A (call (.builtin id) (v::us)) (EP X pins σ Q) X.xe s
theorem Vals.one:∀{x:V}{us:List Value},Vals [x] us->∃u,us=[u]/\RelV x u
 |_,_,.cons r .nil=>⟨_,rfl,r⟩
theorem Vals.rep(h:Vals xs us):∀k:Nat,Vals (List.replicate k xs).flatten (List.replicate k us).flatten
 |0=>.nil
 |k+1=>by
  rw[Sg9,Sg9,Tf9,Tf9]
  exact Vals.append h (Vals.rep h k)
theorem foldl_rep(its:List Value):∀(k:Nat) (acc:List Value),
  List.foldl (λx1 x2=>x1++x2) acc.toArray (List.replicate k its.toArray)=(acc++(List.replicate k its).flatten).toArray
 |0,acc=>by simp
 |k+1,acc=>by
  have e:acc.toArray++its.toArray=(acc++its).toArray:=by simp
  have e2:(acc++its)++(List.replicate k its).flatten=acc++(List.replicate (k+1) its).flatten:=by
   rw[Sg9,Tf9,Tg9]
  rw[<-e2,<-foldl_rep its k (acc++its),<-e,Sg9,List.foldl_cons]
section
variable{X:Cx}{pins:List (Addr×Obj)}{σ:St}{H:Hp}{s:Shared}{l b:Addr}{xs ys zs:List V}
theorem Inv.aRU{its its':List Value}{n:Nat}{f:Array Value->Array Value}{t':Nat}(I:Inv X pins σ H s)(hH:H l=some (.lst xs))
  (e:s.heap.get? l=some { cls:=.type "list",data:=.seq its.toArray n }) (hf:f its.toArray=its'.toArray) (hv:Vals ys its') (hz:ys.length<=sizeLine) :
  Inv X pins σ (upd H l (.lst ys)) { s with heap:=s.heap.update l (Obj.mapSeq f),toks:=t' }:=by
 have q:=PySem.IsL.update e f
 rw[hf] at q
 refine I.write (x:=l) (e:=l) (by rw[hH];exact trivial) (.inl rfl) (λb' u hb hu=>(Te9 s.heap (Obj.mapSeq f) (Ne.symm hb)).trans hu) ⟨_,q⟩ ?_
 exact⟨hz,its',_,hv,q⟩
theorem Inv.aRk{t':Nat}(I:Inv X pins σ H s)(hv:Vals ys its)(hz:ys.length<=sizeLine) :
  Inv X pins σ (upd H s.heap.objs.size (.lst ys)) { s with heap:=s.heap.push { cls:=.type "list",data:=.seq its.toArray },toks:=t' }:=
 I.laid (λ_ _ q=>fH _ q) (eA _) ⟨hz,its,0,hv,tE _ rfl⟩
theorem Inv.fresh(I:Inv X pins σ H s):H s.heap.objs.size=none:=I.hok.fresh (eA _)
theorem Inv.aLH(I:Inv X pins σ H s)(hH:H l=some (.lst xs)):xs.length<=sizeLine/\∃(its:List Value) (n:Nat),Vals xs its/\xs.length=its.length/\s.heap.get? l=some { cls:=.type "list",data:=.seq its.toArray n }:=by
 obtain⟨z,its,n,r,e⟩:=I.hok l _ hH
 exact⟨z,its,n,r,r.length,e⟩
theorem aLI{n:Nat}(h:n<=sizeLine):Builtin.List.listTooLong n=false:=by
 unfold Builtin.List.listTooLong
 exact decide_eq_false (by omega)
end
section
variable{X:Cx}
def aDr:V->List V->Hp->VK->Prop:=λx vs H Q=>∃l xs y,x=.ref l/\vs=[y]/\H l=some (.lst xs)/\xs.length < sizeLine/\Q .non (upd H l (.lst (xs ++ [y])))
theorem aKr:MtM X "list.append" aDr:=by
 intro pins s σ H x vs v us Q I rx rv h
 obtain⟨l,xs,y,rfl,rfl,hH,hz,q⟩:=h
 cases rx
 obtain⟨u,rfl,ru⟩:=rv.one
 obtain⟨z,its,n,r,hl,e⟩:=I.aLH hH
 refine call_meets F.slot_list_append ⟨_,e,rfl⟩ F.entry_list_append (F.args_list_append_2 _ _) (PySem.list_append l its.toArray n u (by rw[mF];omega)) ⟨e,?_⟩
 refine⟨.non,_,I.aRU (its':=its ++ [u]) hH e (by simp) (r.append (.cons ru .nil)) ?_,rfl,q⟩
 rw[sI,Rc9]
 omega
def aRl:R2:=λx y H Q=>∃l b xs zs,x=.ref l/\y=.ref b/\H l=some (.lst xs)/\H b=some (.lst zs)/\xs.length+zs.length<=sizeLine/\∀p,H p=none->Q (.ref p) (upd H p (.lst (xs++zs)))
theorem aP1:v9 X (binaryOp .Add) aRl:=by
 intro pins s σ H x y v u Q I rx ry h
 obtain⟨l,b,xs,zs,rfl,rfl,hH,hB,hz,q⟩:=h
 cases rx
 cases ry
 obtain⟨z,its,n,r,hl,e⟩:=I.aLH hH
 obtain⟨z2,its2,n2,r2,hl2,e2⟩:=I.aLH hB
 refine PySem.P.add_list e e2 ?_ (by rw[mF,mF];omega)
 have ea:its.toArray++its2.toArray=(its++its2).toArray:=by simp
 rw[ea]
 exact⟨.ref _,_,I.aRk (t':=s.toks) (r.append r2) (by rw[sI];omega),rfl,q _ I.fresh⟩
def aRm:R2:=λx y H Q=>∃l k xs,x=.ref l/\y=.int k/\H l=some (.lst xs)/\-(2 ^ 63)<=k/\k < 2 ^ 63/\xs.length*k.toNat<=sizeLine/\
 ∀p,H p=none->Q (.ref p) (upd H p (.lst (List.replicate k.toNat xs).flatten))
theorem len_rep{α:Type}(xs:List α)(k:Nat):(List.replicate k xs).flatten.length=k*xs.length:=by
 induction k with
 |zero=>simp
 |succ k ih=>rw[Sg9,Tf9,sI,ih,Nat.succ_mul,Nat.add_comm]
theorem aP2:v9 X (binaryOp .Mult) aRm:=by
 intro pins s σ H x y v u Q I rx ry h
 obtain⟨l,k,xs,rfl,rfl,hH,h1,h2,hz,q⟩:=h
 cases rx
 obtain⟨t,rfl⟩:=ry
 obtain⟨z,its,n,r,hl,e⟩:=I.aLH hH
 have hlen:its.toArray.size*k.toNat<=sizeLine:=by rw[mF,<-hl];exact hz
 have hcap:¬its.toArray.size*k.toNat > (2 ^ 63 - 1) / 8:=by
  have:(sizeLine:Nat)<=(2 ^ 63 - 1) / 8:=by decide
  omega
 have hfit:¬(!Builtin.List.listFitsIndex k)=true:=by
  rw[fitsIndex_both h1 h2]
  exact Qq9
 have hlong:¬Builtin.List.listTooLong (its.toArray.size*k.toNat)=true:=by
  rw[aLI hlen]
  exact Qq9
 have hnew:List.foldl (λx1 x2=>x1++x2) #[] (List.replicate (if its.toArray.isEmpty=true then 0 else k.toNat) its.toArray)=(List.replicate k.toNat its).flatten.toArray:=by
  have f0:∀m:Nat,List.foldl (λx1 x2=>x1++x2) #[] (List.replicate m its.toArray)=(List.replicate m its).flatten.toArray:=λm=>by
   have:=foldl_rep its m []
   rw[List.nil_append] at this
   exact this
  rw[f0]
  cases its with
  |nil=>simp
  |cons a r'=>rw[if_neg (by simp)]
 refine wpAny_binaryOp_repeat_ref (T:="list") (U:="int") (by decide) ⟨_,e,rfl⟩ (λs'=>typeIs_int s' k t) noFill_list_mul F.fills_int_mul F.slot_int_rmul repeat_list F.slot_int_index.lookup
  (call_meets F.slot_int_rmul (typeIs_int s k t) F.entry_int_rmul (F.args_int_rmul_2 _ _) (int___rmul___int_list k t l its.toArray n)
   ⟨e,rfl,⟨_,e,rfl⟩,call_meets F.slot_list_mul ⟨_,e,rfl⟩ F.entry_list_mul (F.args_list_mul_2 _ _) (AutoListH.list___mul___list_int_3 l its.toArray n k t hfit hcap hlong) ⟨e,?_⟩⟩)
 rw[hnew]
 exact⟨.ref _,_,I.aRk (t':=s.toks) (r.rep k.toNat) (by rw[len_rep,Nat.mul_comm];exact hz),rfl,q _ I.fresh⟩
end
section
variable{prog:Program}{w:World}{A:Around}{E:Value->Shared->Prop}{s:Shared}
end
section
variable{X:Cx}
end
end L2
namespace L2
open PySem PySem.Spec PyProof.Rows
section
variable{κ:Type}[DecidableEq κ]
def tF(kvs:List (κ×V))(k:κ):Option V:=(kvs.find? λkv=>decide (kv.1=k)).map (·.2)
def putK(kvs:List (κ×V))(k:κ)(v:V):List (κ×V):=
 if (kvs.any λkv=>decide (kv.1=k))=true then kvs.map (λkv=>if kv.1=k then (kv.1,v) else kv) else kvs ++ [(k,v)]
theorem nS{p:κ×V}(e:p.1=k):tF (p::r) k=some p.2:=by simp[tF,Sa9,e]
theorem kJ{p:κ×V}(e:¬p.1=k):tF (p::r) k=tF r k:=by simp[tF,Sa9,e]
theorem aAS(k:κ):∀kvs:List (κ×V),(kvs.any λkv=>decide (kv.1=k))=(tF kvs k).isSome
 |[]=>rfl
 |p::r=>by
  rw[Tb9]
  by_cases e:p.1=k
  ·simp only[nS e,decide_eq_true e,Bool.true_or,Option.isSome_some]
  ·rw[kJ e,decide_eq_false e,Bool.false_or];exact aAS k r
theorem wC(k j:κ)(y:V):∀kvs:List (κ×V),tF (kvs.map λkv=>if kv.1=k then (kv.1,y) else kv) j=(tF kvs j).map λx=>if j=k then y else x
 |[]=>rfl
 |p::r=>by
  have ih:=wC k j y r
  rw[Rd9]
  by_cases h:p.1=k
  ·rw[if_pos h]
   by_cases e:p.1=j
   ·rw[nS (p:=(p.1,y)) e,nS e,Option.map_some,if_pos (e.symm.trans h)]
   ·rw[kJ (p:=(p.1,y)) e,kJ e,ih]
  ·rw[if_neg h]
   by_cases e:p.1=j
   ·rw[nS (p:=p) e,nS e,Option.map_some,if_neg (λz=>h (e.trans z))]
   ·rw[kJ (p:=p) e,kJ e,ih]
theorem wD(kvs:List (κ×V))(k:κ)(v:V):(putK kvs k v).length<=kvs.length+1:=by
 unfold putK
 split
 ·rw[bL];omega
 ·rw[sI,Qx9,Tr9];omega
theorem aDJ{kvs:List (κ×V)}{k:κ}(v:V)(h:tF kvs k=none):putK kvs k v=kvs ++ [(k,v)]:=by
 unfold putK
 rw[aAS,h]
 exact if_neg (by decide)
theorem vY.aKs{o:Option V}{u:Option Value}(r:vY o u):o.isSome=u.isSome:=by
 cases o with
 |none=>cases u with
  |none=>rfl
  |some _=>exact(show False from r).elim
 |some _=>cases u with
  |none=>exact(show False from r).elim
  |some _=>rfl
theorem vY.getD{o:Option V}{u:Option Value}(r:vY o u)(rd:RelV d d'):RelV (o.getD d) (u.getD d'):=by
 cases o with
 |none=>cases u with
  |none=>exact rd
  |some _=>exact(show False from r).elim
 |some _=>cases u with
  |none=>exact(show False from r).elim
  |some _=>exact r
theorem KV.val(r:KV kvs vs)(k:κ):vY (tF kvs k) (valueAt vs k):=by
 unfold KV at r
 induction r with
 |nil=>exact True.intro
 |@cons p q ps qs h t ih=>
  obtain⟨h1,h2⟩:=h
  by_cases e:p.1=k
  ·have e':q.1=k:=h1.symm.trans e
   have b:valueAt (q::qs) k=some q.2:=by simp[valueAt,Sa9,e']
   rw[nS e,b];exact h2
  ·have e':¬q.1=k:=λz=>e (h1.trans z)
   have b:valueAt (q::qs) k=valueAt qs k:=by simp[valueAt,Sa9,e']
   rw[kJ e,b];exact ih
theorem KV.any{kvs:List (κ×V)}{vs:List (κ×Value)}(r:KV kvs vs)(k:κ):(kvs.any λkv=>decide (kv.1=k))=vs.any λkv=>decide (kv.1=k):=by
 unfold KV at r
 induction r with
 |nil=>rfl
 |cons h t ih=>rw[Tb9,Tb9,ih,h.1]
theorem KV.aP3{kvs:List (κ×V)}{vs:List (κ×Value)}(r:KV kvs vs)(k:κ)(ry:RelV y u) :
  KV (kvs.map λkv=>if kv.1=k then (kv.1,y) else kv) (vs.map λkv=>if kv.1=k then (kv.1,u) else kv):=by
 unfold KV at r ⊢
 induction r with
 |nil=>exact .nil
 |@cons p q ps qs h t ih=>
  rw[Rd9,Rd9]
  refine .cons ?_ ih
  obtain⟨h1,h2⟩:=h
  by_cases e:p.1=k
  ·rw[if_pos e,if_pos (h1.symm.trans e)];exact⟨h1,ry⟩
  ·rw[if_neg e,if_neg (λz=>e (h1.trans z))];exact⟨h1,h2⟩
theorem KV.put(r:KV kvs vs)(k:κ)(ry:RelV y u):KV (putK kvs k y) (stored vs k u):=by
 unfold putK stored
 rw[r.any k]
 by_cases e:(vs.any λkv=>decide (kv.1=k))=true
 ·rw[if_pos e,if_pos e];exact r.aP3 k ry
 ·rw[if_neg e,if_neg e];exact Paired.snoc r ⟨rfl,ry⟩
theorem KV.length{kvs:List (κ×V)}{vs:List (κ×Value)}(r:KV kvs vs):kvs.length=vs.length:=Paired.length r
end
theorem aJC(r:RelV (kV k) u):(eM P w).is k u=true:=by
 cases k with
 |inl i=>obtain⟨t,e⟩:=(show ∃t,u=Value.int i t from r);subst e;exact aHj P w i t
 |inr x=>obtain⟨t,e⟩:=(show ∃t,u=Value.str x t from r);subst e;exact aHk P w x t
theorem aFD:∀{ks:List Key}{us:List Value},Vals (ks.map kV) us->ItemsAre (eM P w) ks us
 |[],_,r=>by rw[Tk9] at r;cases r;exact .nil
 |k::ks,_,r=>by
  rw[Rd9] at r
  cases r with
  |cons h t=>exact .cons (aJC h) (aFD t)
abbrev KT(H:Hp):List (List Key×V)->List (List Key×Addr×Value)->Prop:=Paired λp q=>p.1=q.1/\H q.2.1=some (.tup (p.1.map kV))/\RelV p.2 q.2.2
theorem KT.val(r:KT H kvs xs)(k:List Key):vY (tF kvs k) ((atKey xs k).map (·.2)):=by
 induction r with
 |nil=>exact True.intro
 |@cons p q ps qs h t ih=>
  obtain⟨h1,_,h2⟩:=h
  by_cases e:p.1=k
  ·have e':q.1=k:=h1.symm.trans e
   have b:atKey (q::qs) k=some q.2:=by simp[atKey,Sa9,e']
   rw[nS e,b];exact h2
  ·have e':¬q.1=k:=λz=>e (h1.trans z)
   have b:atKey (q::qs) k=atKey qs k:=by simp[atKey,Sa9,e']
   rw[kJ e,b];exact ih
theorem KT.aP3{kvs:List (List Key×V)}{xs:List (List Key×Addr×Value)}(r:KT H kvs xs)(k:List Key)(ry:RelV y u) :
  KT H (kvs.map λkv=>if kv.1=k then (kv.1,y) else kv) (xs.map (putAt k u)):=by
 induction r with
 |nil=>exact .nil
 |@cons p q ps qs h t ih=>
  rw[Rd9,Rd9]
  refine .cons ?_ ih
  obtain⟨h1,h2,h3⟩:=h
  unfold putAt
  by_cases e:p.1=k
  ·rw[if_pos e,if_pos (h1.symm.trans e)];exact⟨h1,h2,ry⟩
  ·rw[if_neg e,if_neg (λz=>e (h1.trans z))];exact⟨h1,h2,h3⟩
theorem KT.put(r:KT H kvs xs)(k:List Key)(hb:H b=some (.tup (k.map kV)))(ry:RelV y u) :
  KT H (putK kvs k y) (storedH xs k b u):=by
 have e:(kvs.any λkv=>decide (kv.1=k))=(atKey xs k).isSome:=by
  rw[aAS,(r.val k).aKs,Option.isSome_map]
 unfold putK storedH
 rw[e]
 by_cases q:(atKey xs k).isSome=true
 ·rw[if_pos q,if_pos q];exact r.aP3 k ry
 ·rw[if_neg q,if_neg q];exact Paired.snoc r ⟨rfl,hb,ry⟩
theorem KT.keeps{H H':Hp}(r:KT H kvs xs)(ht:∀b ys,H b=some (.tup ys)->H' b=some (.tup ys)):KT H' kvs xs:=
 Paired.aPj r λ_ _ z=>⟨z.1,ht _ _ z.2.1,z.2.2⟩
section
variable{P:Program}{w:World}{H:Hp}{h:Heap}{a:Addr}
theorem aO0(ok:vZ P w H h)(e:Rd H a u):cD P w H h a u:=e.ok ok
theorem aHu{kvs:List (Key×V)}(ok:vZ P w H h)(e:Rd H a (.dK kvs)):kvs.length<=sizeLine/\(a == sysModules)=false/\∃vs,KV kvs vs/\h.DictOf (eM P w) a vs:=
 show cD P w H h a (.dK kvs) from aO0 ok e
theorem aRn{kvs:List (Key×V)}(ok:vZ P w H h)(e:H a=some (.dK kvs)):kvs.length<=sizeLine/\(a == sysModules)=false/\∃vs,KV kvs vs/\h.DictOf (eM P w) a vs:=aHu ok (.inl e)
theorem aDK{ks:List Key}(ok:vZ P w H h)(e:H a=some (.tup (ks.map kV))):(tupleKind (eM P w)).is h ks a:=by
 obtain⟨_,its,r,o,h1,h2,n,h3⟩:=(show cD P w H h a (.tup (ks.map kV)) from ok a _ e)
 exact⟨o,its.toArray,n,h1,h2,h3,by simpa using aFD r⟩
theorem aHv{kvs:List (List Key×V)}(ok:vZ P w H h)(e:Rd H a (.dT kvs)):kvs.length<=sizeLine/\(a == sysModules)=false/\
  ∃xs,KT H kvs xs/\h.DictOfH (tupleKind (eM P w)) a xs:=by
 obtain⟨z,y,xs,r,o,es,ep,h1,h2,h3,h4,h5⟩:=(show cD P w H h a (.dT kvs) from aO0 ok e)
 refine⟨z,y,xs,r,o,es,ep,h1,h2,h3,h4,λx hx=>?_,h5⟩
 have all:∀{l:List (List Key×V)} {m:List (List Key×Addr×Value)},KT H l m->∀x∈m,(tupleKind (eM P w)).is h x.1 x.2.1:=by
  intro l m q
  induction q with
  |nil=>intro x hx;exact nomatch hx
  |@cons p q ps qs hq t ih=>
   intro x hx
   rcases sZ.mp hx with e|hx
   ·subst e
    exact aDK ok (by rw[<-hq.1];exact hq.2.1)
   ·exact ih x hx
 exact all r x hx
theorem aO1{kvs:List (List Key×V)}(ok:vZ P w H h)(e:H a=some (.dT kvs)):kvs.length<=sizeLine/\(a == sysModules)=false/\
  ∃xs,KT H kvs xs/\h.DictOfH (tupleKind (eM P w)) a xs:=aHv ok (.inl e)
end
def wG(H:Hp)(a:Addr)(y:V)(r:Option V):Prop:=
 (∃kvs k,Rd H a (.dK kvs)/\y=kV k/\r=tF kvs k)\/∃kvs k b,Rd H a (.dT kvs)/\y=.ref b/\H b=some (.tup (k.map kV))/\r=tF kvs k
def aDL(H:Hp)(a:Addr)(y v:V)(H':Hp):Prop:=
 (∃kvs k,H a=some (.dK kvs)/\y=kV k/\kvs.length < sizeLine/\H'=upd H a (.dK (putK kvs k v)))\/
 ∃kvs k b,H a=some (.dT kvs)/\y=.ref b/\H b=some (.tup (k.map kV))/\kvs.length < sizeLine/\H'=upd H a (.dT (putK kvs k v))
theorem wG.k{H:Hp}{a:Addr}{kvs:List (Key×V)}{k:Key}(e:H a=some (.dK kvs)):wG H a (kV k) (tF kvs k):=.inl ⟨kvs,k,.inl e,rfl,rfl⟩
theorem wG.t{H:Hp}{a b:Addr}{kvs:List (List Key×V)}{k:List Key}(e:H a=some (.dT kvs))(eb:H b=some (.tup (k.map kV))):wG H a (.ref b) (tF kvs k):=.inr ⟨kvs,k,b,.inl e,rfl,eb,rfl⟩
theorem aDL.k{H:Hp}{a:Addr}{kvs:List (Key×V)}{k:Key}{v:V}(e:H a=some (.dK kvs))(hl:kvs.length < sizeLine):aDL H a (kV k) v (upd H a (.dK (putK kvs k v))):=.inl ⟨kvs,k,e,rfl,hl,rfl⟩
theorem aDL.t{H:Hp}{a b:Addr}{kvs:List (List Key×V)}{k:List Key}{v:V}(e:H a=some (.dT kvs))(eb:H b=some (.tup (k.map kV)))(hl:kvs.length < sizeLine) :
  aDL H a (.ref b) v (upd H a (.dT (putK kvs k v))):=.inr ⟨kvs,k,b,e,rfl,eb,hl,rfl⟩
section
variable{X:Cx}{pins:List (Addr×Obj)}{σ:St}{H:Hp}{s:Shared}{a:Addr}{y v:V}{u r:Value}{o:Option V}{A:Around}{E:Value->Shared->Prop}
theorem Inv.big(I:Inv X pins σ H s):sysModules < s.heap.objs.size:=by
 have h:mainGlobals < s.heap.objs.size:=(I.mod.glob.keeps I.bk).lt
 exact Nat.lt_trans (by decide) h
theorem aKt{Q:Value->Shared->Prop}(hu:A.units+1 < cLine)(I:Inv X pins σ H s)(g:wG H a y (some v))(ry:RelV y u)(h:∀w' s',Inv X pins σ H s'->RelV v w'->Q w' s') :
  wpAny (model X.prog X.w) A (getItem (.ref a) u) Q E s:=by
 rcases g with ⟨kvs,k,e,ey,l⟩|⟨kvs,k,b,e,ey,eb,l⟩
 ·subst ey
  obtain⟨z,hd,vs,rel,dd⟩:=aHu I.hok e
  obtain⟨w',hw,rw'⟩:=vY.some_of (v:=v) (o:=valueAt vs k) (by rw[l];exact rel.val k)
  exact wpAny_getItem_of (aJC ry) dd.mapOf hw (h w' _ (I.tok _) rw')
 ·subst ey
  cases (show u=Value.ref b from ry)
  obtain⟨z,hd,xs,rel,dd⟩:=aHv I.hok e
  obtain⟨w',hw,rw'⟩:=vY.some_of (v:=v) (o:=(atKey xs k).map (·.2)) (by rw[l];exact rel.val k)
  obtain⟨p,hp,hp2⟩:=Qw9.mp hw
  refine wpAny_getItem_heap (tupleKind_room_in1 hu) (aDK I.hok eb) dd hp ?_
  rw[hp2]
  exact h w' _ (I.tok _) rw'
theorem aGg{h':Heap}{t':Nat}(I:Inv X pins σ H s)(mu:Mut (H a))(hs:Heap.SameBut a s.heap h')(he:∃q,h'.get? a=some q)(new:cD X.prog X.w (upd H a ob) h' a ob) :
  Inv X pins σ (upd H a ob) { s with heap:=h',toks:=t' }:=
 I.write (x:=a) (e:=a) mu (.inl rfl) (λb q hb z=>(hs.2 b hb).trans z) he new
theorem aP4{h':Heap}{kvs:List (Key×V)}(z:kvs.length<=sizeLine)(hd:(a == sysModules)=false)(rel:KV kvs vs)(dd:h'.DictOf (eM P w) a vs) :
  cD P w H' h' a (.dK kvs):=⟨z,hd,vs,rel,dd⟩
theorem aKu{H':Hp}{Q:Unit->Shared->Prop}(hu:A.units+1 < cLine)(I:Inv X pins σ H s)(g:aDL H a y v H')(ry:RelV y u)(rv:RelV v r)(h:∀s',Inv X pins σ H' s'->Q () s') :
  wpAny (model X.prog X.w) A (setItem (.ref a) u r) Q E s:=by
 rcases g with ⟨kvs,k,e,ey,l,eH⟩|⟨kvs,k,b,e,ey,eb,l,eH⟩
 ·subst ey eH
  obtain⟨z,hd,vs,rel,dd⟩:=aRn I.hok e
  have hz:vs.length<=sizeLine:=by rw[<-rel.length];exact z
  have hl:(putK kvs k v).length<=sizeLine:=by have:=wD kvs k v;omega
  refine wpAny_setItem_pairs (hsz:=hz) (aJC ry) dd λh' dd' hs=>h _ ?_
  have he:∃q,h'.get? a=some q:=let ⟨q,_,_,hq,_⟩:=dd';⟨q,hq⟩
  exact aGg I (by rw[e];exact True.intro) hs he (aP4 hl hd (rel.put k rv) dd')
 ·subst ey eH
  cases (show u=Value.ref b from ry)
  obtain⟨z,hd,xs,rel,dd⟩:=aO1 I.hok e
  have hz:xs.length<=sizeLine:=by rw[<-Paired.length rel];exact z
  have hl:(putK kvs k v).length<=sizeLine:=by have:=wD kvs k v;omega
  refine wpAny_setItem_heap (hsz:=hz) (tupleKind_room_in1 hu) (aDK I.hok eb) dd λh' dd' hs=>h _ ?_
  obtain⟨q,es,ep,hq,h2,h3,h4,_,h5⟩:=dd'
  refine aGg I (by rw[e];exact True.intro) hs ⟨q,hq⟩ ⟨hl,hd,_,(rel.put k eb rv).keeps λc ys ec=>?_,q,es,ep,hq,h2,h3,h4,h5⟩
  rw[aW (aOU ec e (λz=>nomatch z))]
  exact ec
end
section
variable{X:Cx}{pins:List (Addr×Obj)}{σ:St}{H:Hp}{s:Shared}{a:Addr}{kvs:List (Key×V)}{k:Key}{u:Value}{A:Around}{E:Value->Shared->Prop}
end
def aP5(i:Expr):Prop:=∀ov iv,subscripted i false ov iv=operate [ov,iv] (getItem ov iv)
theorem aNO{prog:Program}{w:World}{A:Around}{E:Value->Shared->Prop}{s:Shared}{env:Env}{value slice:Expr}{pos:Pos}{T id:String}{Q:Value->Shared->Prop}
  (hl:typeLookup (.type T) "__getitem__" = pure (some (.builtin id))) (hs:aP5 slice)
  (h:wpAny (model prog w) A (eval value env) (λo s₁=>wpAny (model prog w) A (eval slice env) (λi s₂=>s₂.TypeIs o T/\wpAny (model prog w) A (getItem o i) Q E s₂) E s₁) E s) :
  wpAny (model prog w) A (eval (.Subscript value slice pos) env) Q E s:=by
 refine Subscript_ (wpAny_mono h (λo s₁ h₁=>wpAny_mono h₁ (λi s₂ h₂=>?_) λ_ _ x=>x) λ_ _ x=>x)
 obtain⟨hT,h₂⟩:=h₂
 unfold subscriptTail
 refine wpAny_bind ?_
 rw[getitemInPython_of_ne hT.not_modules]
 refine wpAny_bind (wpAny_specialOf hT hl ?_)
 have fin:wpAny (model prog w) A (subscripted slice false o i) (λr s₃=>wpAny (model prog w) A (letTemporaryGo value o r >>= λ_=>pure r) Q E s₃) E s₂:=by
  rw[hs o i]
  exact wpAny_operating (wpAny_mono h₂ (λr s₃ h₃=>wpAny_bind (wpAny_letTemporaryGo (wpAny_pure h₃))) λ_ _ x=>x)
 first
  |exact wpAny_pure (wpAny_bind fin)
  |exact wpAny_bind (wpAny_pure (wpAny_bind fin))
  |exact wpAny_bind fin
theorem aHw{s:Shared}(I:Inv X pins σ H s)(g:wG H a y o):s.TypeIs (.ref a) "dict":=by
 rcases g with ⟨kvs,k,e,_,_⟩|⟨kvs,k,b,e,_,_,_⟩
 ·obtain⟨_,_,vs,_,dd⟩:=aHu I.hok e
  exact dd.typeIs
 ·obtain⟨_,_,xs,_,dd⟩:=aHv I.hok e
  exact dd.typeIs
def aLJ(td ty:TE):TE:=λσ H Q=>td σ H λx H1=>ty σ H1 λy H2=>∃a v,x=.ref a/\wG H2 a y (some v)/\Q v H2
def aLK(td ty tv:TE):TS:=λD σ H=>tv σ H λv H1=>td σ H1 λx H2=>ty σ H2 λy H3=>∃a H4,x=.ref a/\aDL H3 a y v H4/\D.nx σ H4
section
variable{X:Cx}{o i e value:Expr}{pos pos' tpos:Pos}{td ty tv:TE}
theorem aNP(hu:X.A.units+1 < cLine)(ho:PE X o td)(hi:PE X i ty)(hs:aP5 i):PE X (.Subscript o i pos) (aLJ td ty):=by
 intro pins s σ H Q I h
 refine aNO PySem.F.slot_dict_getitem.lookup hs (dI (ho pins s σ H _ I h) λu s1 ⟨x,H1,I1,rx,q1⟩=>dI (hi pins s1 σ H1 _ I1 q1) λiv s2 ⟨y,H2,I2,ry,a,v,ex,g,q2⟩=>?_)
 subst ex
 obtain rfl:u=Value.ref a:=rx
 exact⟨aHw I2 g,aKt hu I2 g ry λw' s3 I3 rw'=>⟨v,H2,I3,rw',q2⟩⟩
theorem aNQ(hu:X.A.units+1 < cLine)(ho:PE X o td)(hi:PE X i ty)(hv:PE X value tv)(hs:swapsWith value (some (.Subscript o i pos')) pos.line X.env=pure false) :
  PS X (.Assign [.Subscript o i pos'] value pos) (aLK td ty tv):=by
 intro pins s σ H D I h
 refine wpAny_Assign_Subscript (dI (hv pins s σ H _ I h) λr s1 ⟨v,H1,I1,rv,q1⟩=>dI (ho pins s1 σ H1 _ I1 q1) λu s2 ⟨x,H2,I2,rx,q2⟩=>dI (hi pins s2 σ H2 _ I2 q2) λiv s3 ⟨y,H3,I3,ry,a,H4,ex,g,q3⟩=>?_) hs
 subst ex
 obtain rfl:u=Value.ref a:=rx
 exact aKu hu I3 g ry rv λs4 I4=>⟨σ,H4,I4,q3⟩
end
theorem aLL(h:Heap)(hb:sysModules < h.objs.size):cD P w H (h.push { cls:=.type "dict",data:=.dict #[] }) h.objs.size (.dK []):=
 ⟨Rl9 _,beq_eq_false_iff_ne.mpr (Ne.symm (vP hb)),[],.nil,Heap.DictOf.new h⟩
theorem aHx(h:Heap)(hb:sysModules < h.objs.size):cD P w H (h.push { cls:=.type "dict",data:=.dict #[] }) h.objs.size (.dT []):=
 ⟨Rl9 _,beq_eq_false_iff_ne.mpr (Ne.symm (vP hb)),[],.nil,_,#[],0,tE _ rfl,⟨rfl,rfl,rfl⟩,rfl,rfl,List.nodup_nil⟩
def aP6:TE:=λ_ H Q=>∀p,H p=none->Q (.ref p) (upd H p (.dK []))
def aP7:TE:=λ_ H Q=>∀p,H p=none->Q (.ref p) (upd H p (.dT []))
section
variable{X:Cx}{pos:Pos}
theorem aLM:PE X (.Dict [] [] pos) aP6:=λpins s σ H Q I h=>
 wpAny_Dict_empty ⟨.ref s.heap.objs.size,_,I.laid (a:=s.heap.objs.size) (o:=.dK []) (t':=s.toks) (λ_ _ q=>fH _ q) (eA _) (aLL s.heap I.big),rfl,h _ (I.hok.fresh (eA _))⟩
theorem aLN:PE X (.Dict [] [] pos) aP7:=λpins s σ H Q I h=>
 wpAny_Dict_empty ⟨.ref s.heap.objs.size,_,I.laid (a:=s.heap.objs.size) (o:=.dT []) (t':=s.toks) (λ_ _ q=>fH _ q) (eA _) (aHx s.heap I.big),rfl,h _ (I.hok.fresh (eA _))⟩
end
structure M2(X:Cx)(o:Expr)(m:Str)(apos:Pos)(e f:Expr)(cpos:Pos):Prop where
 base:attributeBase o m X.env (eval o X.env)=eval o X.env
 few:((backTo cpos (starEach [e,f] X.env)).all (λx=>!x.1) && (backToKw cpos (keywordEach [] X.env)).all (λx=>x.1.isSome)
  && decide (([e,f]:List Expr).length+([]:List Keyword).length+(if ([]:List Keyword).isEmpty then 0 else 1) < 30))=true
 line:(apos.endLine == cpos.line)=true
 trees:backTo cpos (starEach [e,f] X.env)=[(false,eval e X.env),(false,eval f X.env)]
def IsD(H:Hp)(a:Addr):Prop:=(∃kvs,Rd H a (.dK kvs))\/∃kvs,Rd H a (.dT kvs)
theorem aP8{s:Shared}(I:Inv X pins σ H s)(d:IsD H a) :
  s.TypeIs (.ref a) "dict"/\(∀b,Value.ref a=.ref b->∃ob,s.heap.get? b=some ob/\ob.dict=none)/\(a == sysModules)=false:=by
 rcases d with ⟨kvs,e⟩|⟨kvs,e⟩
 ·obtain⟨_,hd,vs,_,dd⟩:=aHu I.hok e
  refine⟨dd.typeIs,λb q=>?_,hd⟩
  cases q
  obtain⟨ob,_,_,h1,h2,_⟩:=dd
  exact⟨ob,h1,h2.2.1⟩
 ·obtain⟨_,hd,xs,_,dd⟩:=aHv I.hok e
  refine⟨dd.typeIs,λb q=>?_,hd⟩
  cases q
  obtain⟨ob,_,_,h1,h2,_⟩:=dd
  exact⟨ob,h1,h2.2.1⟩
section
variable{X:Cx}{pins:List (Addr×Obj)}{σ:St}{H:Hp}{s:Shared}{a:Addr}{y d:V}{u r:Value}{o:Option V}{A:Around}{E:Value->Shared->Prop}
theorem aP9{Q:Value->Shared->Prop}(hu:A.units+1 < cLine)(I:Inv X pins σ H s)(g:wG H a y o)(ry:RelV y u)(rd:RelV d r)(h:∀w' s',Inv X pins σ H s'->RelV (o.getD d) w'->Q w' s') :
  wpAny (model X.prog X.w) A (call (.builtin "dict.get") [.ref a,u,r]) Q E s:=by
 rcases g with ⟨kvs,k,e,ey,l⟩|⟨kvs,k,b,e,ey,eb,l⟩
 ·subst ey
  obtain⟨z,hd,vs,rel,dd⟩:=aHu I.hok e
  refine call_meetsIn PySem.F.slot_dict_get dd.typeIs PySem.F.entry_dict_get (PySem.F.args_dict_get_3 _ _ _) (meets_dict_get_default (eM X.prog X.w) a (aJC ry) hd r) ⟨_,dd.mapOf,h _ _ (I.tok _) ?_⟩
  rw[l]
  exact(rel.val k).getD rd
 ·subst ey
  cases (show u=Value.ref b from ry)
  obtain⟨z,hd,xs,rel,dd⟩:=aHv I.hok e
  refine call_meetsIn PySem.F.slot_dict_get dd.typeIs PySem.F.entry_dict_get (PySem.F.args_dict_get_3 _ _ _) (meetsH_dict_get_default (tupleKind (eM X.prog X.w)) a b hd r) ⟨tupleKind_room_in1 hu,k,xs,aDK I.hok eb,dd,h _ _ (I.tok _) ?_⟩
  rw[l]
  exact(rel.val k).getD rd
end
def aIK(td ty tx:TE):TE:=λσ H Q=>td σ H λx H1=>∃a,x=.ref a/\IsD H1 a/\ty σ H1 λy H2=>tx σ H2 λz H3=>∃o,wG H3 a y o/\Q (o.getD z) H3
section
variable{X:Cx}{o e f:Expr}{apos cpos:Pos}{td ty tx:TE}
theorem aLO(hu:X.A.units+1 < cLine)(ho:PE X o td)(he:PE X e ty)(hf:PE X f tx)(m:M2 X o "get" apos e f cpos):PE X (.Call (.Attribute o "get" apos) [e,f] [] cpos) (aIK td ty tx):=by
 intro pins s σ H Q I h
 refine wpAny_Call_method m.base m.few m.line PySem.F.plainAttrs_dict PySem.F.slot_dict_get PySem.F.type_dict_get (dI (ho pins s σ H _ I h) λu s1 ⟨x,H1,I1,rx,a,ex,d,q1⟩=>?_)
 subst ex
 obtain rfl:u=Value.ref a:=rx
 obtain⟨t1,t2,_⟩:=aP8 I1 d
 refine⟨t1,t2,?_⟩
 rw[m.trees]
 refine Calls.callWith_builtin rfl (Calls.evalArgs_plain (Calls.spliced_cons (dI (he pins s1 σ H1 _ I1 q1) λiv s2 ⟨y,H2,I2,ry,q2⟩=>
  Calls.spliced_cons (dI (hf pins s2 σ H2 _ I2 q2) λfv s3 ⟨z,H3,I3,rz,ov,g,q3⟩=>Calls.spliced_nil ?_))))
 exact aP9 hu I3 g ry rz λw' s4 I4 rw'=>⟨_,H3,I4,rw',q3⟩
end
section
variable{X:Cx}{pins:List (Addr×Obj)}{σ:St}{H:Hp}{s:Shared}{a:Addr}{kvs:List (Key×V)}{A:Around}{E:Value->Shared->Prop}
end
section
variable{X:Cx}{pins:List (Addr×Obj)}{σ:St}{H:Hp}{s:Shared}{a:Addr}{y:V}{u:Value}{A:Around}{E:Value->Shared->Prop}
end
end L2
namespace Att
open PySem PySem.W PySem.Calls PyProof.Rows
theorem aCL:∀(ns:List Int) (vs:List Value),WellAll P h vs (ns.map WData.int)->IntsAre vs ns:=by
 intro ns
 induction ns with
 |nil=>
  intro vs w
  rw[Tk9] at w
  cases w
  exact .nil
 |cons n ns ih=>
  intro vs w
  rw[Rd9] at w
  cases w with
  |cons a b=>
   cases a
   exact .cons _ _ (ih _ b)
theorem aKv{l:OpenLaw}{n:Nat}(hn:l.most=some n){h:Heap}(hpre:l.row.toRowW.claim.pre args=true)(hwl:WellAll P h vals args) :
  ∃a vs ns,vals=[Value.ref a]/\args=[WData.list (ns.map WData.int)]/\h.get? a=some { cls:=.type "list",data:=.seq vs.toArray }/\IntsAre vs ns/\ns.length<=n:=by
 have hsh:WShape.hasAll [] args [.list .int]=true:=(pre_splitW hpre).1
 have hc:l.pre.holds [] { args:=args } = true:=(pre_splitW hpre).2
 obtain⟨d,r,rfl,h1,h2⟩:=hasAllW_cons hsh
 obtain rfl:=hasAllW_nil h2
 obtain⟨xs,rfl,h3⟩:=hasW_list h1
 obtain⟨ns,rfl⟩:=items_int h3
 have hlen:ns.length<=n:=by
  unfold OpenLaw.pre at hc
  have h4:(WTm.not (.lt (.lit (.int (n:Int))) (.len (.arg 0)))).holds [] { args:=[.list (ns.map .int)] } = true:=by
   have h4:=(holds_andW hc).1
   rw[hn] at h4
   exact h4
  have h5:=condW_of h4 (w_not (w_lt w_lit (w_len_list (w_arg rfl))))
  rw[bL] at h5
  refine Nat.le_of_not_lt λq=>?_
  have q':(n:Int) < ((ns.length:Nat):Int):=by omega
  first
   |(rw[decide_eq_true q'] at h5;exact absurd h5 (by decide))
   |(simp at h5;omega)
 cases hwl with
 |cons w1 w2=>
  cases w2
  cases w1 with
  |list ho hall=>exact⟨_,_,ns,rfl,rfl,ho,aCL ns _ hall,hlen⟩
theorem aKw(l:OpenLaw)(args:List WData):l.row.toRowW.claim.post args (.bool true) args=true:=
 postW_of (r:=l.row.toRowW) (X:=(true == true))
  (show WShape.has [] (.bool true) .bool=true by first|rfl|decide|simp[WShape.has,WShape.arms,WShape.armsAll])
  (show(WTm.eq .res (.lit (.bool true))).value [] { args:=args,res:=some (.bool true),after:=args } = some (.bool (true == true)) from w_eq_bool (w_res rfl) w_lit) rfl
theorem aHy{l:OpenLaw}{n:Nat}{XP:(Str->Option Value)->Heap->Prop}{YP:World->Heap->Prop}{d:DefRec}(hn:l.most=some n)(hdf:d.params.defaults=[])(call:∀(w:World) (s₀ s₁:Shared) (mg mb:Str->Option Value) (fa:Addr) (o:Obj) (pm cd doc:Value) (a:Addr) (vs:List Value) (ns:List Int),
   Ground q loose [] XP w s₀ mg mb s₁.heap->YP w s₁.heap->
   s₁.heap.get? fa=some o->o.data=.func (docDef d.name d.params d.body d.scope pm cd doc)->s₁.heap.CodeRec cd d.name->mg d.name=some (.ref fa)->
   s₁.heap.get? a=some { cls:=.type "list",data:=.seq vs.toArray }->IntsAre vs ns->ns.length<=n->s₁.gens = #[]->
   codeAny (model l.prog w) callerA (.call (.ref fa) ⟨[.ref a],[]⟩) (λr s'=>r=.ok (.ret (.bool true))/\OldK s₁.heap s'.heap/\s'.os=s₁.os/\AllBare s'.gens) s₁) :
  WalkO q loose XP YP l.row.toRowW d [] (λf vs=>PySem.call f vs):=by
 intro w s₀ s₁ mg mb G Y fa o pm cd doc dV kV ho hd hcd hD hmg hg args vals as hpre hlay hrd hwl hlo
 obtain rfl:dV=.none:=Dflts.none hD hdf
 obtain rfl:kV=.none:=Dflts.noKw hD
 obtain⟨a,vs,ns,rfl,rfl,hobj,hints,hlen⟩:=aKv hn hpre hwl
 refine enter_call (codeAny_mono (call w s₀ s₁ mg mb fa o pm cd doc a vs ns G Y ho (fd_plain hd) hcd hmg hobj hints hlen hg) λr s' hq=>?_)
 obtain⟨rfl,h2,h3,h4⟩:=hq
 exact⟨.inl ⟨.bool true,.bool true,[],rfl,λ_=>rfl,.bool true,aKw l _,λ_=>⟨List.Pairwise.nil,λ_ hm=>(nomatch hm)⟩⟩,h2,h3,h4⟩
section
variable{prog:Program}{w:World}{A:Around}{E:Value->Shared->Prop}{s:Shared}{K:Frag}
end
end Att
namespace L2
open PySem PySem.Spec PyProof.Rows
theorem aBO:∀{vs:List Value}{ns:List Int},IntsAre vs ns->Vals (ns.map V.int) vs
 |_,_,.nil=>.nil
 |_,_,.cons n t h=>.cons ⟨t,rfl⟩ (aBO h)
def aRo(H:Hp):Prop:=∀b,H b=none\/∃o xs,H b=some (.frz o (.lst xs))
theorem aRp{K:PySem.W.Frag}{mg mb:Str->Option Value}{CX:CXT}{k:Nat}{sp:Sp}{s₁:Shared}{vs:List Value}{ns:List Int}(KX:K.In s₁.heap)(hns:s₁.heap.Ns mainGlobals mg)(hb:s₁.heap.Ns builtinsNs mb)(hbb:∀x:Str,x≠"__name__"->mb x=bootBuiltins x)(hlim:s₁.heap.NoLimit)(hbm:∃bm o,mg "__builtins__" = some (.ref bm)/\bm≠builtinsNs/\s₁.heap.get? bm=some o/\o.cls=.type "module"/\o.dict=some builtinsNs/\o.data=.plain)(hg:s₁.gens = #[])(ha:s₁.heap.get? a=some { cls:=.type "list",data:=.seq vs.toArray })(hi:IntsAre vs ns)(hl:ns.length<=sizeLine)(hr:eN k callerA)(F:∀base:Heap,K.In base->base.Ns mainGlobals mg->bS P w K mg base CX k fa fd [x] sp)(hbind:∀(s:Shared) (u:Value),BindsTo s fd ⟨[u],[]⟩ [(x,u)])(hsp:∀H:Hp,aRo H->bX K H a (ns.map V.int)->sp [.ref a] H (λv _=>v=.bl true) λ_ _ _=>False)(hCX:∀H e s',CX [] H s₁ (λ_ _ _=>False) e s'->False) :
  codeAny (model P w) callerA (.call (.ref fa) ⟨[.ref a],[]⟩) (λr s'=>r=.ok (.ret (.bool true))/\OldK s₁.heap s'.heap/\s'.os=s₁.os/\AllBare s'.gens) s₁:=by
 have rv:=aBO hi
 have lenV:=hi.length
 have core:∀H:Hp,aRo H->bX K H a (ns.map V.int)->vZ P w H s₁.heap->(∀b,H b≠none->b=a)->(H a≠none->K.lookup a=none)->
   codeAny (model P w) callerA (.call (.ref fa) ⟨[.ref a],[]⟩) (λr s'=>r=.ok (.ret (.bool true))/\OldK s₁.heap s'.heap/\s'.os=s₁.os/\AllBare s'.gens) s₁:=by
  intro H hO hS hok hA hK
  have base_of:∀{b:Addr} {o:Obj},s₁.heap.get? b=some o->H b=none->(zG s₁.heap H).get? b=some o:=λe n=>aHl e n
  have noA:∀{b:Addr} {o:Obj} {es:Array DictEntry} {ep:Nat},s₁.heap.get? b=some o->o.data=.dict es ep->H b=none:=λ{b o es ep} e d=>by
   cases q:H b with
   |none=>rfl
   |some u=>
    have e':b=a:=hA b (by rw[q];simp)
    subst e'
    rw[ha] at e;cases e
    have d':Data.seq vs.toArray _=Data.dict es ep:=d
    cases d'
  have nsK:∀{b:Addr} {m:Str->Option Value},s₁.heap.Ns b m->(zG s₁.heap H).Ns b m:=λ{b m} ⟨o,es,ep,e,d,r⟩=>⟨o,es,ep,base_of e (noA e d),d,r⟩
  have hKb:K.In (zG s₁.heap H):=λb o e=>base_of (KX b o e) (by
   cases q:H b with
   |none=>rfl
   |some u=>
    have e':b=a:=hA b (by rw[q];simp)
    subst e'
    rw[hK (by rw[q];simp)] at e;cases e)
  have hbm':∃bm o,mg "__builtins__" = some (.ref bm)/\bm≠builtinsNs/\(zG s₁.heap H).get? bm=some o/\o.cls=.type "module"/\o.dict=some builtinsNs/\o.data=.plain:=by
   obtain⟨bm,ob,b1,b2,b3,b4,b5,b6⟩:=hbm
   refine⟨bm,ob,b1,b2,base_of b3 ?_,b4,b5,b6⟩
   cases q:H bm with
   |none=>rfl
   |some u=>
    have e':bm=a:=hA bm (by rw[q];simp)
    rw[e',ha] at b3
    cases b3
    exact absurd (show Value.type "list" = Value.type "module" from b4) (by decide)
  have hM:Mod K mg (zG s₁.heap H):=⟨hKb,nsK hns,⟨mb,nsK hb,hbb⟩,(let ⟨mc,h1,h2⟩:=hlim;⟨mc,nsK h1,h2⟩),hbm'⟩
  have e0:aEV P w K mg (zG s₁.heap H) callerA [] s₁ H:=⟨rfl,hM,λb o e=>aJs e,Tu9 (aFu _ _),trivial,λb hb=>absurd (show b∈([]:List Addr) from hb) (by simp),hok,.of_eq hg⟩
  refine codeAny_mono ((F _ hKb (nsK hns)).run callerA [] s₁ H ⟨[.ref a],[]⟩ [.ref a] [.ref a] _ _ hr e0 (hbind s₁ (.ref a)) (.cons rfl .nil) (hsp H hO hS)) λr s' h=>?_
  cases r with
  |error e=>exact(hCX H e s' h).elim
  |ok fl=>
   cases fl with
   |next=>exact False.elim h
   |brk=>exact False.elim h
   |cont=>exact False.elim h
   |ret u=>
    obtain⟨v,H',os,bare,un,hok',r',q⟩:=h
    have q':v=.bl true:=q
    subst q'
    obtain rfl:u=Value.bool true:=r'
    refine⟨rfl,OldK.of_keep λb o e=>?_,os,bare⟩
    cases q:H b with
    |none=>exact un.keep b o e q (by intro z;exact absurd (show b∈([]:List Addr) from z) (by simp)) (by simp)
    |some u=>
     rcases hO b with z|⟨ob,xs,z⟩
     ·rw[q] at z;cases z
     ·have z2:=un.frzs b ob _ z
      obtain⟨e1,_⟩:=hok b _ z
      obtain⟨e2,_⟩:=hok' b _ z2
      rw[e] at e1;cases e1
      exact e2
 cases hk:K.lookup a with
 |some o=>
  have e:=KX a o hk
  rw[ha] at e
  cases e
  refine core (λ_=>none) (λ_=>.inl rfl) (.inr ⟨_,vs.toArray,_,hk,rfl,rfl,rfl,by rw[mF,lenV];exact hl,by simpa using rv⟩) (λb u z=>by have z':(none:Option HO)=some u:=z;cases z') (λb z=>absurd rfl z) λz=>absurd rfl z
 |none=>
  refine core (λb=>if b=a then some (.frz { cls:=.type "list",data:=.seq vs.toArray } (.lst (ns.map V.int))) else none) (λb=>?_) (.inl (.inr ⟨{ cls:=.type "list",data:=.seq vs.toArray },if_pos rfl⟩)) (λb u z=>?_) (λb z=>?_) λ_=>hk
  ·by_cases hb:b=a
   ·exact .inr ⟨_,_,if_pos hb⟩
   ·exact .inl (if_neg hb)
  ·by_cases hb:b=a
   ·have z':=(if_pos hb).symm.trans z
    cases z'
    subst hb
    exact⟨ha,by rw[bL];exact hl,vs,_,rv,ha⟩
   ·have z':=(if_neg hb).symm.trans z
    cases z'
  ·by_cases hb:b=a
   ·exact hb
   ·exact absurd (if_neg hb) z
end L2
namespace L2
open PySem PySem.Spec PyProof.Rows
end L2
namespace L2
open PySem PySem.Spec PyProof.Rows
def inClass(s:Stmt)(j:Nat):Stmt:=match s with
 |.ClassDef _ _ _ body _ _ _ _ _ _ _=>body.getD j (.Pass ⟨0,0,0,0⟩)
 |_=>.Pass ⟨0,0,0,0⟩
def aV(s:Stmt):Arguments:=match s with
 |.FunctionDef _ a _ _ _ _ _ _ _ _=>a
 |_=>{ posonlyargs:=[],args:=[],vararg:=none,kwonlyargs:=[],kw_defaults:=[],kwarg:=none,defaults:=[] }
def aT(s:Stmt):List Stmt:=match s with
 |.FunctionDef _ _ b _ _ _ _ _ _ _=>b
 |_=>[]
def aF(s:Stmt):Scope:=match s with
 |.FunctionDef _ _ _ _ _ _ sc _ _ _=>sc
 |_=>{ kind:=.function,names:=[],isGenerator:=false,isCoroutine:=false }
abbrev gZ:CXT:=λ_ _ _ _ _ _=>False
abbrev E0:XK:=λ_ _ _=>False
theorem aZ:Passes gZ X E0:=λ_ _ _ _ _ _ _ h=>h.elim
structure jE(K:W.Frag)(x qual:Str)(st:Stmt)(f:Addr)(fd:FuncData):Prop where
 ex:∃(oc:Value) (od:Option Addr) (kV doc pm:Value) (an:Option Addr) (cdv ct:Value) (osl:Array (Option Value)),
  fd=W.fnOf x qual (aV st) (aT st) (aF st) .none kV doc pm an cdv ct/\K.lookup f=some ⟨oc,od,.func fd,osl⟩/\W.codeIn K cdv qual=true
 kp:W.keepIn K (.ref f)=true
section
variable{P:Program}{w:World}{K:W.Frag}{mg:Str->Option Value}{base:Heap}
theorem jE.ok{x qual:Str}{st:Stmt}{f:Addr}{fd:FuncData}{N ps:List Str}{k:Nat}{sp:Sp}(F:jE K x qual st f fd)(S:aX N ps (aF st))(len:∀vs H Q E,sp vs H Q E->vs.length=ps.length)
  (hbody:∀(cdv:Value) (A:Around) (outer:List Env) (s:Shared) (H:Hp) (vs:List V) (Q:VK) (E:XK),eN k (A.deeper (envOfC qual (aF st) s.heap.objs.size f cdv))->sp vs H Q E->
   ∃t,PSs (aIF gZ P w K mg base N qual (aF st) f cdv A outer s H E).nox (aT st) t/\t { nx:=λ_ H'=>Q .non H',rt:=Q } (start N vs) H):bS P w K mg base gZ (k+1) f fd ps sp:=by
 obtain⟨oc,od,kV,doc,pm,an,cdv,ct,osl,rfl,lk,hcd⟩:=F.ex
 refine aOX lk hcd S len λA outer s H vs Q E hr hsp=>?_
 obtain⟨t,h,q⟩:=hbody cdv A outer s H vs Q E hr hsp
 exact⟨t,h.nox,q⟩
theorem jE.binds{x qual:Str}{st:Stmt}{f:Addr}{fd:FuncData}{ps:List Str}(F:jE K x qual st f fd)
  (h:∀(kV doc pm:Value) (an:Option Addr) (cdv ct:Value) (us:List Value),us.length=ps.length->bindArgs (W.fnOf x qual (aV st) (aT st) (aF st) .none kV doc pm an cdv ct) ⟨us,[]⟩=pure (ps.zip us)):Binds K fd ps []:=by
 obtain⟨oc,od,kV,doc,pm,an,cdv,ct,osl,rfl,lk,hcd⟩:=F.ex
 exact .all (h kV doc pm an cdv ct)
theorem bC{x qual:Str}{st:Stmt}{f:Addr}{oc:Value}{od an:Option Addr}{osl:Array (Option Value)}{kV doc pm cdv ct:Value}(l:K.lookup f=some ⟨oc,od,.func (W.fnOf x qual (aV st) (aT st) (aF st) .none kV doc pm an cdv ct),osl⟩)
  (c:W.codeIn K cdv qual=true) (k:W.keepIn K (.ref f)=true):jE K x qual st f (W.fnOf x qual (aV st) (aT st) (aF st) .none kV doc pm an cdv ct):=⟨⟨oc,od,kV,doc,pm,an,cdv,ct,osl,rfl,l,c⟩,k⟩
end
section
variable{X:Cx}
end
theorem aQa{A B:Prop}(h:B):if false=true then A else B:=by
 rw[if_neg Qq9]
 exact h
theorem aQb{A B:Prop}(h:A):if true=true then A else B:=by
 rw[if_pos rfl]
 exact h
def aQ(H H':Hp):Prop:=∀b o,H b=some o->H' b=some o
theorem aQ.refl(H:Hp):aQ H H:=λ_ _ h=>h
theorem aQ.trans(a:aQ H H1)(b:aQ H1 H2):aQ H H2:=λc o h=>b c o (a c o h)
theorem aQ.free(e:aQ H H')(h:H' l=Option.none):H l=Option.none:=by
 cases q:H l with
 |none=>rfl
 |some o=>
  rw[e l o q] at h
  cases h
theorem aQ.seq{K:W.Frag}{H H':Hp}{a:Addr}{xs:List V}(e:aQ H H')(h:bX K H a xs):bX K H' a xs:=by
 rcases h with (h|⟨o,h⟩)|h
 ·exact .inl (.inl (e _ _ h))
 ·exact .inl (.inr ⟨o,e _ _ h⟩)
 ·exact .inr h
section
variable{κ:Type}[DecidableEq κ]
end
end L2
namespace L2
open PySem PySem.Spec PyProof.Rows
section
variable{prog:Program}{w:World}{A:Around}{R:Result->Shared->Prop}{s:Shared}
theorem aHz(I:Nat->Shared->Prop)(turn:∀n s,I n s->wpAny (model prog w) A (pyNext it) (λr s₁=>match r with
   |none=>R (.ok .next) s₁
   |some v=>wpAny (model prog w) A (letOwnedTupleGo target it v) (λ_ s₁'=>wpAny (model prog w) A (assign target env v) (λ_ s₂=>
     wpAny (model prog w) A (forIn ifs true λc r=>if r=true then do let ok <-isTrue c env (eval c env);pure (ForInStep.yield ok) else pure (ForInStep.yield r)) (λok s₃=>
      if ok=true then wpAny (model prog w) A (eval elt env) (λx s₄=>
       wpAny (model prog w) A (call (.builtin "list.append") [acc,x]) (λ_ s₅=>∃m,m < n/\I m s₅) (notedBy (model prog w) A env λe s'=>R (.error e) s') s₄) (notedBy (model prog w) A env λe s'=>R (.error e) s') s₃
      else ∃m,m < n/\I m s₃) (notedBy (model prog w) A env λe s'=>R (.error e) s') s₂) (notedBy (model prog w) A env λe s'=>R (.error e) s') s₁') (notedBy (model prog w) A env λe s'=>R (.error e) s') s₁)
   (notedBy (model prog w) A env λe s'=>R (.error e) s') s) (n:Nat) (h:I n s) :
  codeAny (model prog w) A (.compLoop (.ListComp elt [⟨target,iter,ifs,0⟩] scope pos) 0 it acc env) R s:=by
 refine codeAny_loop rfl I (λn s hI=>?_) n h
 show wpAny _ A ((compTurn (.ListComp elt [⟨target,iter,ifs,0⟩] scope pos) 0 it acc env).onRaise (λx=>do noteFrame x env;theTreesLotGoes x)) _ _ s
 refine wpAny_noted ?_
 rw[compTurn_list]
 refine wpAny_bind (wpAny_standAt (wpAny_bind (wpAny_mono (turn n s hI) (λr s₁ h₁=>?_) λ_ _ h'=>h')))
 cases r with
 |none=>exact wpAny_pure h₁
 |some v=>
  refine wpAny_bind (wpAny_mono h₁ (λ_ s₁' h₁'=>?_) λ_ _ h'=>h')
  refine wpAny_bind (wpAny_mono h₁' (λ_ s₂ h₂=>wpAny_bind (wpAny_mono h₂ (λok s₃ h₃=>?_) λ_ _ h'=>h')) λ_ _ h'=>h')
  cases ok with
  |false=>exact wpAny_pure ⟨rfl,h₃⟩
  |true=>
   exact wpAny_bind (wpAny_bind (wpAny_mono h₃ (λx s₄ h₄=>wpAny_bind (wpAny_mono h₄ (λ_ s₅ h₅=>wpAny_pure (wpAny_pure ⟨rfl,h₅⟩)) λ_ _ h'=>h')) λ_ _ h'=>h'))
end
def oI(env:Env):List (Str×NameKind)->List (Str×Addr)->List (Str×Addr)
 |[],cs=>cs
 |(n,k)::r,cs=>oI env r (if (k == NameKind.free)=true then (n,(env.cells.lookup n).getD 0)::cs else cs)
theorem aAf{scope:Scope}{env:Env}(h:∀x∈scope.names,x.2=.free->∃c,env.cells.lookup x.1=some c):closureFor scope env=pure (oI env scope.names []):=by
 simp only[closureFor]
 generalize ([]:List (Str×Addr))=cs
 revert h cs
 generalize scope.names=names
 intro h
 induction names with
 |nil=>intro cs;rfl
 |cons x r ih=>
  intro cs
  obtain⟨n,k⟩:=x
  have ih:=ih λy hy=>h y (zE _ hy)
  rw[List.forIn_cons]
  by_cases hk:k=.free
  ·subst hk
   obtain⟨c,hc⟩:=h (n,.free) Qr9 rfl
   have hc':env.cells.lookup n=some c:=hc
   have e:oI env ((n,NameKind.free)::r) cs=oI env r ((n,c)::cs):=by
    show oI env r (if (NameKind.free == NameKind.free)=true then (n,(env.cells.lookup n).getD 0)::cs else cs)=_
    rw[hc']
    rfl
   rw[e,<-ih]
   simp only[cellOf,hc',beq_self_eq_true,if_true]
   rfl
  ·have hb:(k == NameKind.free)=false:=by simpa using hk
   have e:oI env ((n,k)::r) cs=oI env r cs:=by
    show oI env r (if (k == NameKind.free)=true then (n,(env.cells.lookup n).getD 0)::cs else cs)=_
    rw[hb]
    rfl
   rw[e,<-ih]
   simp only[hb,Sb9,if_false]
   rfl
theorem aAT{env:Env}:∀(names:List (Str×NameKind)) (cs:List (Str×Addr)),(∀y∈names,y.2=.free->∃c,env.cells.lookup y.1=some c)->(x,c)∈oI env names cs->(x,c)∈cs\/env.cells.lookup x=some c
 |[],cs,_,h=>.inl h
 |(n,k)::r,cs,hf,h=>by
  have h':(x,c)∈oI env r (if (k == NameKind.free)=true then (n,(env.cells.lookup n).getD 0)::cs else cs):=h
  rcases aAT r _ (λy hy=>hf y (zE _ hy)) h' with q|q
  ·by_cases hk:(k == NameKind.free)=true
   ·rw[if_pos hk] at q
    rcases sZ.mp q with e|q
    ·cases e
     obtain⟨c,hc⟩:=hf (x,k) Qr9 (by simpa using hk)
     have hc':env.cells.lookup x=some c:=hc
     rw[hc']
     exact .inr rfl
    ·exact .inl q
   ·rw[if_neg hk] at q
    exact .inl q
  ·exact .inr q
theorem aHA:∀(names:List (Str×NameKind)) (cs:List (Str×Addr)),p∈cs->p∈oI env names cs
 |[],_,h=>h
 |(n,k)::r,cs,h=>by
  show p∈oI env r (if (k == NameKind.free)=true then (n,(env.cells.lookup n).getD 0)::cs else cs)
  refine aHA r _ ?_
  split
  ·exact zE _ h
  ·exact h
theorem aHB{env:Env}:∀(names:List (Str×NameKind)) (cs:List (Str×Addr)),(x,NameKind.free)∈names->env.cells.lookup x=some c->(x,c)∈oI env names cs
 |[],_,h,_=>by cases h
 |(n,k)::r,cs,h,hc=>by
  show(x,c)∈oI env r (if (k == NameKind.free)=true then (n,(env.cells.lookup n).getD 0)::cs else cs)
  rcases sZ.mp h with e|h
  ·cases e
   refine aHA r _ ?_
   rw[if_pos (by simp),hc]
   exact Qr9
  ·exact aHB r _ h hc
theorem zO:∀{l:List (Str×Addr)},(x,c)∈l->(∀d,(x,d)∈l->d=c)->l.lookup x=some c
 |[],h,_=>by cases h
 |(n,d)::r,h,u=>by
  rw[Rf9]
  by_cases e:x=n
  ·subst e
   rw[beq_self_eq_true]
   rw[u d Qr9]
  ·rw[show(x == n)=false by simpa using e]
   rcases sZ.mp h with q|q
   ·cases q
    exact absurd rfl e
   ·exact zO q λd hd=>u d (zE _ hd)
theorem wH{env:Env}(hf:∀y∈names,y.2=.free->∃c,env.cells.lookup y.1=some c)(hx:(x,NameKind.free)∈names)(hc:env.cells.lookup x=some c):(oI env names []).lookup x=some c:=
 zO (aHB names [] hx hc) λd hd=>by
  rcases aAT names [] hf hd with q|q
  ·cases q
  ·rw[hc] at q
   exact(Option.some.inj q).symm
theorem qN{env:Env}(hf:∀y∈names,y.2=.free->∃c,env.cells.lookup y.1=some c)(h:(oI env names []).lookup x=some c):env.cells.lookup x=some c:=by
 rcases aAT names [] hf (PySem.mem_of_lookup h) with q|q
 ·cases q
 ·exact q
end L2
namespace L2
open PySem PySem.Spec PyProof.Rows
def cxC(X:Cx)(scope:Scope)(N:List Str)(fp:List Addr)(C:Addr)(s:Shared)(H:Hp):Cx where
 prog:=X.prog
 w:=X.w
 K:=X.K
 mg:=X.mg
 base:=X.base
 A:=X.A
 N:=N
 s₀:=s
 H₀:=H
 env:=compEnvC scope (oI X.env scope.names []) C X.env
 outer:=X.stack
 stack:=X.stack
 ex:=fp
 fn:=λ_=>false
 calm:=X.calm
 pn:=[]
 xe:=λ_ _=>False
theorem vZ.aLP{P:Program}{w:World}{H:Hp}{h:Heap}{a:Addr}{o:HO}(x:vZ P w H h)(hn:H a=none)(new:cD P w (upd H a o) h a o):vZ P w (upd H a o) h:=λb u e=>by
 by_cases hb:b=a
 ·subst hb;rw[aP] at e;cases e;exact new
 ·rw[aW hb] at e
  exact(x b u e).aCJ (λc v _ q=>q) (λc q=>by rw[aW (bG q hn)];exact q) λc xs _ q=>by rw[aW (bG q hn)];exact q
theorem Un.aLP{fs ex:List Addr}{H H1:Hp}{h h1:Heap}{a:Addr}{o:HO}(u:Un fs ex H H1 h h1)(hs:h.objs.size<=a)(hn:H1 a=none):Un fs ex H (upd H1 a o) h h1 where
 keep:=u.keep
 slot:=u.slot
 free:=λb ob q n hx=>by rw[aW (vP (zF (j0 q) hs))];exact u.free b ob q n hx
 there:=u.there
 v3:=λb xs q=>by rw[aW (bG (u.v3 b xs q) hn)];exact u.v3 b xs q
 frzs:=λb ob xs q=>by rw[aW (bG (u.frzs b ob xs q) hn)];exact u.frzs b ob xs q
 tbls:=λb ps q=>by
  obtain⟨m,e⟩:=u.tbls b ps q
  exact⟨m,by rw[aW (bG e hn)];exact e⟩
theorem oB{env:Env}:∀{names:List (Str×NameKind)}{x:Str},names.lookup x=some .free->
  (names.map λ(n,k)=>if (k == NameKind.free && env.scope.kind == .function && env.kindOf n == some .cell) then (n,NameKind.cell) else (n,k)).lookup x=some .cell\/
  (names.map λ(n,k)=>if (k == NameKind.free && env.scope.kind == .function && env.kindOf n == some .cell) then (n,NameKind.cell) else (n,k)).lookup x=some .free
 |[],_,h=>by simp at h
 |(n,k)::r,x,h=>by
  have ih:=@oB env r x
  show List.lookup x ((if (k == NameKind.free && env.scope.kind == .function && env.kindOf n == some .cell)=true then (n,NameKind.cell) else (n,k))::_)=_\/List.lookup x ((if (k == NameKind.free && env.scope.kind == .function && env.kindOf n == some .cell)=true then (n,NameKind.cell) else (n,k))::_)=_
  cases hx:x == n with
  |true=>
   simp only[Rf9,hx] at h
   cases h
   by_cases hc:(NameKind.free == NameKind.free && env.scope.kind == .function && env.kindOf n == some .cell)=true
   ·rw[if_pos hc];simp only[Rf9,hx];exact .inl trivial
   ·rw[if_neg hc];simp only[Rf9,hx];exact .inr trivial
  |false=>
   simp only[Rf9,hx] at h
   by_cases hc:(k == NameKind.free && env.scope.kind == .function && env.kindOf n == some .cell)=true
   ·rw[if_pos hc];simp only[Rf9,hx];exact ih h
   ·rw[if_neg hc];simp only[Rf9,hx];exact ih h
theorem wI{env:Env}:∀{names:List (Str×NameKind)}{x:Str},(∀y∈names,y.2≠.cell)->
  ((names.map λ(n,k)=>if (k == NameKind.free && env.scope.kind == .function && env.kindOf n == some .cell) then (n,NameKind.cell) else (n,k)).lookup x=some .cell\/
  (names.map λ(n,k)=>if (k == NameKind.free && env.scope.kind == .function && env.kindOf n == some .cell) then (n,NameKind.cell) else (n,k)).lookup x=some .free)->(x,NameKind.free)∈names
 |[],_,_,h=>by simp at h
 |(n,k)::r,x,hc,h=>by
  have ih:=@wI env r x λy hy=>hc y (zE _ hy)
  have h':List.lookup x ((if (k == NameKind.free && env.scope.kind == .function && env.kindOf n == some .cell)=true then (n,NameKind.cell) else (n,k))::_)=_\/List.lookup x ((if (k == NameKind.free && env.scope.kind == .function && env.kindOf n == some .cell)=true then (n,NameKind.cell) else (n,k))::_)=_:=h
  cases hx:x == n with
  |true=>
   have e:x=n:=by simpa using hx
   subst e
   by_cases hq:(k == NameKind.free && env.scope.kind == .function && env.kindOf x == some .cell)=true
   ·have hk:(k == NameKind.free)=true:=by
     rw[Bool.and_assoc] at hq
     exact(Rp9 _ _▸hq).1
    rw[show k=NameKind.free by simpa using hk]
    exact Qr9
   ·rw[if_neg hq] at h'
    simp only[Rf9,hx] at h'
    rcases h' with z|z
    ·cases z
     exact absurd rfl (hc _ Qr9)
    ·cases z
     exact Qr9
  |false=>
   by_cases hq:(k == NameKind.free && env.scope.kind == .function && env.kindOf n == some .cell)=true
   ·rw[if_pos hq] at h';simp only[Rf9,hx] at h';exact zE _ (ih h')
   ·rw[if_neg hq] at h';simp only[Rf9,hx] at h';exact zE _ (ih h')
structure fJ(X:Cx)(scope:Scope)(N:List Str)(k:Nat)(idx:List Nat):Prop where
 kind:scope.kind=.function
 nocell:∀y∈scope.names,y.2≠.cell
 names:∀y∈scope.names,y.2=.local->scope.names.lookup y.1=some .local
 free:∀y∈scope.names,y.2=.free->X.env.kindOf y.1=some .cell\/X.env.kindOf y.1=some .free
 nd:N.Nodup
 len:N.length=k+idx.length
 cap:∀(i:Nat) (x:Str),(N.drop k)[i]?=some x->∃j:Nat,idx[i]?=some j/\X.N[j]?=some x/\scope.names.lookup x=some .free
def cσ(k:Nat)(idx:List Nat)(σ:St):St:=List.replicate k none++idx.map λj=>(σ[j]?).join
section
variable{X:Cx}{pins:List (Addr×Obj)}{σ:St}{H:Hp}{s:Shared}{scope:Scope}{N:List Str}{k:Nat}{idx:List Nat}{fp:List Addr}
theorem fJ.cells(S:fJ X scope N k idx)(I:Inv X pins σ H s):∀y∈scope.names,y.2=.free->∃c,X.env.cells.lookup y.1=some c:=λy hy h=>I.ok.has y.1 (S.free y hy h)
theorem aKx{h₁:Heap}{tk:Nat}{oD:Obj}{m:Str->Option Value}(S:fJ X scope N k idx)(I:Inv X pins σ H s)(hf:∀b∈fp,aAO X pins H b)(ho:∀b∈fp,∃o,s.heap.get? b=some o)(hC:s.heap.objs.size<=C)(hD:s.heap.objs.size<=D)(hDC:D≠C)(hn:h₁.Ns C m)(old:∀b o,s.heap.get? b=some o->h₁.get? b=some o)(eD:h₁.get? D=some oD)(dD:∀v,oD.data≠.cell v) :
  Inv (cxC X scope N fp C s H) [(D,oD)] (cσ k idx σ) H { s with heap:=h₁,toks:=tk }:=by
 have hcl:=S.cells I
 have nst:∀b,s.heap.objs.size<=b->b∉frs X.stack:=λb hb z=>by
  obtain⟨_,o,e,_⟩:=I.stack.mem z
  exact absurd (zF (j0 e) hb) (Rs9 _)
 refine⟨⟨I.ok.mod,S.kind,I.ok.glob,I.ok.blt,hC,λx y c h1 h2=>I.ok.inj x y c (qN hcl h1) (qN hcl h2),λx hx=>?_,λx c z _=>(by cases z),I.ok.hd,I.ok.frames,.inl rfl,λb hb=>⟨?_,λx c e=>(hf b hb).2.2.2.2.1 x c (qN hcl e)⟩,I.bs,
  Rr9 I.ok.bsz I.sz,λb o e hb=>?_,λb hb z=>?_,I.stack,I.aDn⟩,rfl,I.bare,Un.kept old,⟨m,hn,λi x v h1 h2 h3=>?_⟩,λx c e=>?_,I.hok.fresh hC,λx c e=>I.freeC x c (qN hcl e),λp hp=>?_,I.hok.kept old,?_⟩
 ·obtain⟨c,e⟩:=hcl _ (wI S.nocell hx) rfl
  exact⟨c,wH hcl (wI S.nocell hx) e⟩
 ·obtain⟨o,e⟩:=ho b hb
  exact vP (zF (j0 e) hC)
 ·rcases(hf b hb).2.2.2.1 with z|z
  ·exact I.ok.noex b o e z
  ·exact absurd (zF (j0 (I.ok.bs b o e).1) z) (Rs9 _)
 ·rcases sZ.mp (I.aDy b z) with q|q
  ·exact(hf b hb).2.1 q
  ·exact(hf b hb).2.2.1 q
 ·have hi:k<=i:=by
   by_cases hi:i < k
   ·unfold cσ at h2
    rw[Qs9 (by simpa using hi),Ta9,if_pos hi] at h2
    cases h2
   ·omega
  obtain⟨j,rfl⟩ : ∃j,i=k+j:=⟨i - k,by omega⟩
  have h1':N[k+j]?=some x:=h1
  obtain⟨l,e1,e2,e3⟩:=S.cap j x (by rw[List.getElem?_drop];exact h1')
  have h2':σ[l]?=some (some v):=by
   unfold cσ at h2
   rw[Qt9 (by simp),pG] at h2
   simp only[List.length_replicate,Nat.add_sub_cancel_left,e1,Option.map_some,Option.some.injEq] at h2
   cases q:σ[l]? with
   |none=>rw[q] at h2;cases h2
   |some z=>rw[q] at h2;exact congrArg some h2
  obtain⟨m0,hn0,hl⟩:=I.loc
  have hfree:(x,NameKind.free)∈scope.names:=PySem.mem_of_lookup e3
  have hk:=S.free _ hfree rfl
  obtain⟨u,r,l⟩:=hl l x v e2 h2' (by rcases hk with z|z;exact .inr (.inl z);exact .inr (.inr z))
  refine⟨u,r,.inr ⟨oB e3,?_⟩⟩
  rcases l with ⟨z,_⟩|⟨_,c,e,o,q,d⟩
  ·rcases hk with y|y
   ·rw[y] at z;cases z
   ·rw[y] at z;cases z
  ·exact⟨c,wH hcl hfree e,o,old c o q,d⟩
 ·obtain⟨v,o,q,d⟩:=I.cell x c (qN hcl e)
  exact⟨v,o,old c o q,d⟩
 ·have hp':p∈([]:List (Addr×Obj)) ++ [(D,oD)]:=hp
  have e:p=(D,oD):=by simpa using hp'
  subst e
  exact⟨eD,I.hok.fresh hD,hDC,nst D hD,dD⟩
 ·unfold cσ
  show _=N.length
  rw[S.len]
  simp
theorem aNR{s':Shared}{ys:List V}{its:List Value}{n:Nat}(I:Inv X pins σ H s)(hf:∀b∈fp,aAO X pins H b)(J:Inv (cxC X scope N fp C s H) pins' σ' H' s')(hC:s.heap.objs.size<=C)(hD:s.heap.objs.size<=D)(hDC:D≠C)(hDn:H' D=none)(eD:s'.heap.get? D=some { cls:=.type "list",data:=.seq its.toArray n })(r:Vals ys its)(hz:ys.length<=sizeLine) :
  Inv X pins σ (upd H' D (.lst ys)) s'/\aAO X pins (upd H' D (.lst ys)) C:=by
 have hk:vZ X.prog X.w (upd H' D (.lst ys)) s'.heap:=vZ.aLP J.hok hDn ⟨hz,its,n,r,eD⟩
 have u:Un (frs X.stack) fp H (upd H' D (.lst ys)) s.heap s'.heap:=Un.aLP J.base hD hDn
 refine⟨I.aQ4 J.os u hk J.bare λb hb=>⟨(hf b hb).2.2.2.1,(hf b hb).2.1,(hf b hb).2.2.2.2.1,(hf b hb).2.2.2.2.2⟩,I.aF8 hC ?_⟩
 rw[aW hDC.symm]
 exact J.free
end
def nU(J:It)(σ₀:St)(g:TG)(tt:TT)(te:TE)(R:List V->Hp->Prop)(H1:Hp):Prop:=
 ∃W:Nat->Nat->List V->Hp->Prop,(∃m,W 0 m [] H1)/\∀i m ys H,W i m ys H->ys.length<=sizeLine/\
  ((J.stop i H/\R ys H)\/(J.go i H/\∃N:List V->Hp->Prop,(∀ys' H',N ys' H'->∃m',m' < m/\W (i+1) m' ys' H')/\
   ∀x H',J.yld i H x H'->g x σ₀ H' λσ2 H2=>tt σ2 H2 λb H3=>if b=true then te σ2 H3 λy H4=>N (ys ++ [y]) H4 else N ys H3))
def aHC(wi:TI)(k:Nat)(idx:List Nat)(g:TG)(tt:TT)(te:TE):TE:=λσ H Q=>wi σ H λJ H1=>nU J (cσ k idx σ) g tt te (λys H'=>∀p,H' p=none->Q (.ref p) (upd H' p (.lst ys))) H1
def PTs(X:Cx)(ifs:List Expr)(t:TT):Prop:=
 ∀(pins:List (Addr×Obj)) (s:Shared) (σ:St) (H:Hp) (Q:Bool->Hp->Prop),Inv X pins σ H s->t σ H Q->
  wpAny (model X.prog X.w) X.A (forIn ifs true λc r=>if r=true then do let ok <-isTrue c X.env (eval c X.env);pure (ForInStep.yield ok) else pure (ForInStep.yield r)) (TP X pins σ Q) X.xe s
def aQc:TT:=λ_ H Q=>Q true H
theorem aNS:PTs X [] aQc:=λ_ _ _ H _ I h=>wpAny_tests_nil ⟨H,I,h⟩
theorem aNT(h:PT X c t):PTs X [c] t:=λpins s σ H Q I q=>wpAny_tests_one (h pins s σ H Q I q)
def Agr(k:Nat)(σ' σ:St):Prop:=σ'.length=σ.length/\∀i,k<=i->σ'[i]?=σ[i]?
theorem Agr.set{k i:Nat}{σ:St}(h:Agr k σ σb)(hi:i < k):Agr k (σ.set i v) σb:=⟨by rw[Tq9];exact h.1,λj hj=>by rw[List.getElem?_set_ne (by omega)];exact h.2 j hj⟩
def Own(k:Nat)(g:TG):Prop:=∀x σ H (Q:St->Hp->Prop) (σb:St),Agr k σ σb->g x σ H Q->g x σ H λσ' H'=>Agr k σ' σb/\Q σ' H'
def aNU(k:Nat)(g:TGs):Prop:=∀xs σ H (Q:St->Hp->Prop) (σb:St),Agr k σ σb->g xs σ H Q->g xs σ H λσ' H'=>Agr k σ' σb/\Q σ' H'
theorem dJ{k i:Nat}(h:i < k):Own k (wB i):=λ_ _ _ _ _ a q=>⟨a.set h,q⟩
theorem hV{k:Nat}:aNU k aNv:=λ_ _ _ _ _ a ⟨e,q⟩=>⟨e,a,q⟩
theorem bK{k i:Nat}(h:i < k)(hu:aNU k u):aNU k (aJu (wB i) u):=λ_ _ _ Q σb a ⟨v,r,e,q⟩=>⟨v,r,e,hu r _ _ Q σb (a.set h) q⟩
theorem kK{K:W.Frag}{n k:Nat}{u:TGs}(hu:aNU k u):Own k (aNx K n u):=λ_ _ _ Q σb a ⟨l,xs,e,h1,h2,q⟩=>⟨l,xs,e,h1,h2,hu xs _ _ Q σb a q⟩
theorem aLQ(its:List Value)(u:Value)(n:Nat):({ cls:=.type "list",data:=.seq (its.toArray.push u) n }:Obj)={ cls:=.type "list",data:=.seq (its ++ [u]).toArray n }:=by
 rw[List.push_toArray]
section
variable{X:Cx}{pins:List (Addr×Obj)}{σ:St}{H:Hp}{s:Shared}{scope:Scope}{N:List Str}{k:Nat}{idx:List Nat}{fp:List Addr}
theorem aDM{elt target iter:Expr}{ifs:List Expr}{pos:Pos}{it:Addr}{tn:Nat->Heap->Prop}{J:It}{g:TG}{tt:TT}{te:TE}{R:List V->Hp->Prop}{E:Value->Shared->Prop}{RR:Value->Addr->Result->Shared->Prop}
  (S:fJ X scope N k idx) (hc:X.calm=true) (I:Inv X pins σ H s) (T:Turn X.prog X.w X.K target J fp it tn) (st:tn 0 s.heap) (hf:∀b∈fp,aAO X pins H b)
  (hg:∀C,PG (cxC X scope N fp C s H) target g) (ho:Own k g) (ht:∀C,PTs (cxC X scope N fp C s H) ifs tt) (he:∀C,PE (cxC X scope N fp C s H) elt te)
  (hw:nU J (cσ k idx σ) g tt te R H)
  (hRR:∀D C s' m ys H',s'.heap.Ns C m->Inv X pins σ (upd H' D (.lst ys)) s'->aAO X pins (upd H' D (.lst ys)) C->H' D=none->R ys H'->RR (.ref D) C (.ok .next) s') :
  wpAny (model X.prog X.w) X.A (newList []) (λacc s₃=>wpAny (model X.prog X.w) X.A (newFunctionEnv scope X.env.globals (oI X.env scope.names []) [] X.env.qual none .none (some X.env)) (λcenv s₄=>
   codeAny (model X.prog X.w) X.A (.compStart (.ListComp elt [⟨target,iter,ifs,0⟩] scope pos) 0 (.ref it) acc { cenv with scope:=relabel scope X.env }) (RR acc cenv.locals) s₄) E s₃) E s:=by
 refine wpAny_newObj_type (wpAny_newFunctionEnv S.nocell (by intro y hy;simp at hy) (λh₁ hns₁ hsb₁=>?_) S.kind)
 dsimp only at hns₁ hsb₁ ⊢
 generalize hH2:s.heap.push { cls:=.type "list",dict:=none,data:=.seq ([]:List Value).toArray } = H2 at hns₁ hsb₁ ⊢
 have hCs:H2.objs.size=s.heap.objs.size+1:=by rw[<-hH2,Ri9]
 have hDC:s.heap.objs.size≠H2.objs.size:=by rw[hCs];exact vP (Tm9 _)
 have hCle:s.heap.objs.size<=H2.objs.size:=by rw[hCs];exact Nat.le_succ _
 have below:∀b,b < s.heap.objs.size->b≠H2.objs.size:=λb hb=>by rw[hCs];exact vP (Se9 hb)
 have old:∀b o,s.heap.get? b=some o->h₁.get? b=some o:=λb o e=>hsb₁.extBut b o (below b (j0 e)) (fH _ (hH2▸fH _ e))
 have hacc:h₁.get? s.heap.objs.size=some { cls:=.type "list",data:=.seq ([]:List Value).toArray 0 }:=hsb₁.extBut _ _ hDC (fH _ (hH2▸tE _ rfl))
 have st₁:tn 0 h₁:=T.keep _ _ _ st λb _ o e=>old b o e
 obtain⟨W,⟨m0,w0⟩,turn⟩:=hw
 have fp0:∀b∈fp,b < s.heap.objs.size:=λb hb=>by
  obtain⟨o,e,_⟩:=T.obj _ _ st b hb
  exact j0 e
 have stat:∀{H':Hp} {pl:List (Addr×Obj)},(∀b∈fp,H' b=none)->(∀p∈pl,s.heap.objs.size<=p.1)->∀b∈fp,aAO (cxC X scope N fp H2.objs.size s H) pl H' b:=λ{H' pl} hn hp b hb=>by
  refine⟨hn b hb,below b (fp0 b hb),λz=>?_,.inl hb,λx c e=>(hf b hb).2.2.2.2.1 x c (qN (S.cells I) e),λp q z=>?_⟩
  ·have z':b∈frs X.stack:=z
   rcases sZ.mp (I.aDy b z') with q|q
   ·exact(hf b hb).2.1 q
   ·exact(hf b hb).2.2.1 q
  ·have q':p∈([]:List (Addr×Obj))++pl:=q
   have h1:=hp p (by simpa using q')
   rw[z] at h1
   exact absurd (zF (fp0 b hb) h1) (Rs9 _)
 have loop:∀s₃:Shared,s₃={ s with heap:=h₁,toks:=s.toks+([]:List (Str×Value)).length }->
   codeAny (model X.prog X.w) X.A (.compLoop (.ListComp elt [⟨target,iter,ifs,0⟩] scope pos) 0 (.ref it) (.ref s.heap.objs.size) (compEnvC scope (oI X.env scope.names []) H2.objs.size X.env))
    (RR (.ref s.heap.objs.size) H2.objs.size) s₃:=by
  rintro s₃ rfl
  refine aHz (λn s'=>∃i ys its H' nn,Inv (cxC X scope N fp H2.objs.size s H) [(s.heap.objs.size,{ cls:=.type "list",data:=.seq its.toArray nn })] (cσ k idx σ) H' s'/\tn i s'.heap/\(∀b∈fp,H' b=none)/\Vals ys its/\W i n ys H') ?_ m0
   ⟨0,[],[],H,0,aKx S I hf (λb hb=>let ⟨o,e,_⟩:=T.obj _ _ st b hb;⟨o,e⟩) hCle (eA _) hDC hns₁ old hacc (λv z=>by cases z),st₁,λb hb=>(hf b hb).1,.nil,w0⟩
  rintro n s' ⟨i,ys,its,H',nn,I',st',fr',rv,w'⟩
  obtain⟨hz,alt⟩:=turn i n ys H' w'
  have pl:∀p∈[((s.heap.objs.size:Addr),({ cls:=.type "list",data:=.seq its.toArray nn }:Obj))],s.heap.objs.size<=p.1:=λp hp=>by
   have e:p=((s.heap.objs.size:Addr),({ cls:=.type "list",data:=.seq its.toArray nn }:Obj)):=by simpa using hp
   rw[e]
   exact eA _
  rcases alt with ⟨stop,q⟩|⟨go,Nx,hN,step⟩
  ·refine dI (T.done (cxC X scope N fp H2.objs.size s H) rfl rfl rfl hc i _ s' _ H' _ I' (stat fr' pl) st' stop) λr s4 ⟨hr,I4⟩=>?_
   subst hr
   obtain⟨eD,nD,_⟩:=I4.pin _ (Ra9 _ Qr9)
   obtain⟨a1,a2⟩:=aNR I hf I4 hCle (eA _) hDC nD eD rv hz
   obtain⟨m4,hn4,_⟩:=I4.loc
   exact hRR _ _ s4 m4 ys H' hn4 a1 a2 nD q
  ·refine dI (T.item (cxC X scope N fp H2.objs.size s H) rfl rfl rfl hc i _ s' _ H' _ I' (stat fr' pl) st' go) λr s4 ⟨u,hr,h4⟩=>?_
   subst hr
   refine dI h4 λ_ s5 ⟨x,H5,I5,r5,y5,st5,fr5⟩=>?_
   have I5':=I5.pinned (stat fr5 pl) (T.obj _ _ st5)
   have noE:∀{α:Type} {t:Sem α} {Q:α->Shared->Prop} {E':Value->Shared->Prop} {sx:Shared},wpAny (model X.prog X.w) X.A t Q (λ_ _=>False) sx->wpAny (model X.prog X.w) X.A t Q E' sx:=λh=>wpAny_mono h (λ_ _ q=>q) λ_ _ z=>z.elim
   refine noE (dI (hg _ _ s5 _ H5 x u _ I5' r5 (ho x _ H5 _ _ ⟨rfl,λ_ _=>rfl⟩ (step x H5 y5))) λ_ s6 ⟨σ6,H6,I6,ag,q6⟩=>?_)
   have back:∀{H7:Hp} {s7:Shared},Inv (cxC X scope N fp H2.objs.size s H) ([((s.heap.objs.size:Addr),({ cls:=.type "list",data:=.seq its.toArray nn }:Obj))] ++ aDC fp s5.heap) σ6 H7 s7->
     Inv (cxC X scope N fp H2.objs.size s H) [((s.heap.objs.size:Addr),({ cls:=.type "list",data:=.seq its.toArray nn }:Obj))] (cσ k idx σ) H7 s7/\tn (i+1) s7.heap/\∀b∈fp,H7 b=none:=λ{H7 s7} I7=>by
    refine⟨I7.aAP.weak (by rw[ag.1]) λj v e=>?_,T.keep _ _ _ st5 λb hb o e=>(I7.pin (b,o) (Ra9 _ (Ra9 _ (uJ hb e)))).1,λb hb=>?_⟩
    ·have hj:k<=j:=by
      by_cases hj:j < k
      ·unfold cσ at e
       rw[Qs9 (by simpa using hj),Ta9,if_pos hj] at e
       cases e
      ·omega
     rw[ag.2 j hj]
     exact e
    ·obtain⟨o,e,d⟩:=T.obj _ _ st5 b hb
     exact(I7.pin (b,o) (Ra9 _ (Ra9 _ (uJ hb e)))).2.1
   refine noE (dI (ht _ _ s6 σ6 H6 _ I6 q6) λb s7 ⟨H7,I7,q7⟩=>?_)
   cases b with
   |false=>
    rw[if_neg Qq9] at q7 ⊢
    obtain⟨m',hm,w7⟩:=hN _ _ q7
    obtain⟨b1,b2,b3⟩:=back I7
    exact⟨m',hm,i+1,ys,its,H7,nn,b1,b2,b3,rv,w7⟩
   |true=>
    rw[if_pos rfl] at q7 ⊢
    refine noE (dI (he _ _ s7 σ6 H7 _ I7 q7) λy s8 ⟨z,H8,I8,r8,q8⟩=>?_)
    obtain⟨m',hm,w8⟩:=hN _ _ q8
    obtain⟨b1,b2,b3⟩:=back I8
    obtain⟨eD,nD,neD,nfD,_⟩:=b1.pin _ (Ra9 _ Qr9)
    have lenV:=rv.length
    refine append_at (hsz:=by rw[mF,<-lenV];exact hz) eD λh9 hs9 hD9=>?_
    have b1':Inv (cxC X scope N fp H2.objs.size s H) [] (cσ k idx σ) H8 s8:=b1.aDo λp hp=>by cases hp
    have I9:Inv (cxC X scope N fp H2.objs.size s H) [] (cσ k idx σ) H8 { s8 with heap:=h9 }:=b1'.turned (t':=s8.toks) (λb o hb e=>(hs9.2 b hb).trans e) nD neD (.inr (eA _)) (λx c e z=>by
     obtain⟨v,q⟩:=I.cell x c (qN (S.cells I) e)
     exact absurd (zF q.lt (by rw[z];exact eA _)) (Rs9 _)) (λp hp=>by
     have hp':p∈([]:List (Addr×Obj)) ++ []:=hp
     simp at hp')
    refine⟨m',hm,i+1,ys ++ [z],its ++ [y],H8,nn+1,I9.aDo λp hp=>?_,T.keep _ _ _ b2 λb hb o e=>(hs9.2 b (vP (fp0 b hb))).trans e,b3,rv.append (.cons r8 .nil),w8⟩
    have e:p=((s.heap.objs.size:Addr),({ cls:=.type "list",data:=.seq (its ++ [y]).toArray (nn+1) }:Obj)):=by simpa using hp
    subst e
    exact⟨by rw[<-aLQ];exact hD9,nD,neD,nfD,λv z=>by cases z⟩
 exact codeAny_compStart_list (loop _ rfl) (T.self _ 0 _ _ _ st₁ (loop _ rfl))
theorem aNV(k:Nat)(idx:List Nat){N:List Str}{elt target iter:Expr}{ifs:List Expr}{pos:Pos}{wi:TI}{g:TG}{tt:TT}{te:TE}(S:fJ X scope N k idx)(hc:X.calm=true)(hi:PI X target iter wi)
  (hg:∀fp C s H,PG (cxC X scope N fp C s H) target g) (ho:Own k g) (ht:∀fp C s H,PTs (cxC X scope N fp C s H) ifs tt) (he:∀fp C s H,PE (cxC X scope N fp C s H) elt te)
  (hs:∀x,foldedSetIterable iter X.env x=pure x:=by intro _;rfl):PE X (.ListComp elt [⟨target,iter,ifs,0⟩] scope pos) (aHC wi k idx g tt te):=by
 intro pins s σ H Q I h
 rw[eval_ListComp]
 refine wpAny_comprehension_free (use:=none) rfl hs (aAf (S.cells I)) S.kind S.names (dI (hi pins s σ H _ I h) λv s1 h1=>dI h1 λitv s2 h2=>?_)
 obtain⟨it,fp,tn,J,H2,e,I2,T,st2,f2,w2⟩:=h2
 subst e
 refine aDM (RR:=λacc C=>compPost (model X.prog X.w) X.A X.xe none (EP X pins σ Q) acc C) S hc I2 T st2 f2 (λC=>hg fp C s2 H2) ho (λC=>ht fp C s2 H2) (λC=>he fp C s2 H2) w2 λD C s' m ys H' hn I' fC hD q=>?_
 refine⟨m,hn,λh'' hs''=>⟨.ref D,_,I'.turned (t':=s'.toks) (λb o hb e=>(hs''.2 b hb).trans e) fC.1 fC.2.1 fC.2.2.2.1 fC.2.2.2.2.1 fC.2.2.2.2.2,rfl,q D hD⟩⟩
theorem aNW(k:Nat)(idx:List Nat){i:Nat}{x:Str}{N:List Str}{elt target iter:Expr}{ifs:List Expr}{pos pos' spos:Pos}{wi:TI}{g:TG}{tt:TT}{te:TE}(hN:X.N.Nodup)(hix:X.N[i]?=some x)(hx:Loc X.env.scope x)
  (S:fJ X scope N k idx) (hc:X.calm=true) (hi:PI X target iter wi)
  (hg:∀fp C s H,PG (cxC X scope N fp C s H) target g) (ho:Own k g) (ht:∀fp C s H,PTs (cxC X scope N fp C s H) ifs tt) (he:∀fp C s H,PE (cxC X scope N fp C s H) elt te)
  (hsw:swapsWith (.ListComp elt [⟨target,iter,ifs,0⟩] scope pos) (some (.Name x pos')) spos.line X.env=pure true:=by rfl)
  (hs:∀x,foldedSetIterable iter X.env x=pure x:=by intro _;rfl) (hfn:X.fn x=true\/X.env.scope.names.lookup x=some .local:=by first|exact .inl rfl|exact .inr rfl|assumption) :
  PS X (.Assign [.Name x pos'] (.ListComp elt [⟨target,iter,ifs,0⟩] scope pos) spos) (aHn (aHC wi k idx g tt te) (wB i)):=by
 intro pins s σ H D I h
 rw[exec_Assign_Name_used _ _ _ _ hsw]
 refine wpAny_bind (wpAny_standAt (wpAny_bind ?_))
 show wpAny _ X.A (do let _ <-comprehension (.ListComp elt [⟨target,iter,ifs,0⟩] scope pos) scope X.env _ (newList []) false (eval iter X.env) (some (assign (.Name x pos') X.env))) _ _ s
 refine wpAny_bind (wpAny_mono (wpAny_comprehension_free (use:=some (assign (.Name x pos') X.env)) (Q:=λ_ s'=>SP X pins D .next s') rfl hs (aAf (S.cells I)) S.kind S.names
  (dI (hi pins s σ H _ I h) λv s1 h1=>dI h1 λitv s2 h2=>?_)) (λ_ s' hq=>wpAny_pure (wpAny_pure hq)) λ_ _ e=>e)
 obtain⟨it,fp,tn,J,H2,e,I2,T,st2,f2,w2⟩:=h2
 subst e
 refine aDM (RR:=λacc C=>compPost (model X.prog X.w) X.A X.xe (some (assign (.Name x pos') X.env)) (λ_ s'=>SP X pins D .next s') acc C) S hc I2 T st2 f2 (λC=>hg fp C s2 H2) ho (λC=>ht fp C s2 H2) (λC=>he fp C s2 H2) w2 λD' C s' m ys H' hn I' fC hD q=>?_
 show wpAny _ X.A (assign (.Name x pos') X.env (.ref D')) _ _ s'
 refine wpAny_assign_Name (aFv I' hN hix hx (show RelV (.ref D') (.ref D') from rfl) (λs3 I3 ⟨a,sb,ha⟩=>?_) hfn)
 have hCa:C≠a:=by
  rcases ha with z|z
  ·rw[z];exact fC.2.1
  ·exact(fC.2.2.2.2.1 x a z).symm
 refine⟨m,hn.sameBut sb hCa,λh'' hs''=>⟨_,_,I3.turned (t':=s3.toks) (λb o hb e=>(hs''.2 b hb).trans e) fC.1 fC.2.1 fC.2.2.2.1 fC.2.2.2.2.1 fC.2.2.2.2.2,q D' hD⟩⟩
end
theorem eB{K:W.Frag}{a:Addr}{xs:List V}{σ₀:St}{g:TG}{tt:TT}{te:TE}{R:List V->Hp->Prop}{H:Hp}(Pv:Nat->List V->Hp->Prop)(h0:Pv 0 [] H)(hz:xs.length<=sizeLine)
  (hl:∀i ys H,i<=xs.length->Pv i ys H->bX K H a xs/\ys.length<=i)
  (hs:∀i x ys H,xs[i]?=some x->Pv i ys H->g x σ₀ H λσ2 H2=>tt σ2 H2 λb H3=>if b=true then te σ2 H3 λy H4=>Pv (i+1) (ys ++ [y]) H4 else Pv (i+1) ys H3)
  (hd:∀ys H,Pv xs.length ys H->R ys H):nU (Itl K a) σ₀ g tt te R H:=by
 refine⟨λi m ys H=>m=xs.length - i/\i<=xs.length/\Pv i ys H,⟨xs.length,by simp,Rl9 _,h0⟩,?_⟩
 rintro i m ys H ⟨rfl,hi,p⟩
 obtain⟨q,ql⟩:=hl i ys H hi p
 refine⟨by omega,?_⟩
 by_cases hlt:i < xs.length
 ·refine .inr ⟨⟨xs,xs[i],q,by simp[hlt]⟩,Pv (i+1),λys' H' p'=>⟨xs.length - (i+1),by omega,rfl,hlt,p'⟩,λx H' y=>?_⟩
  obtain⟨e,y⟩:=y
  subst e
  exact hs i x ys _ (y xs q) p
 ·have e:i=xs.length:=by omega
  subst e
  exact .inl ⟨⟨xs,q,eA _⟩,hd ys H p⟩
theorem aLR{K:W.Frag}{a:Addr}{xs:List V}{σ₀:St}{g:TG}{tt:TT}{te:TE}{R:List V->Hp->Prop}{H:Hp}(Pv:Nat->List V->Hp->Prop)(h0:Pv 0 [] H)(hz:xs.length<=sizeLine)
  (hl:∀i ys H,i<=xs.length->Pv i ys H->jQ K H a xs/\ys.length<=i)
  (hs:∀i x ys H,xs[i]?=some x->Pv i ys H->g x σ₀ H λσ2 H2=>tt σ2 H2 λb H3=>if b=true then te σ2 H3 λy H4=>Pv (i+1) (ys ++ [y]) H4 else Pv (i+1) ys H3)
  (hd:∀ys H,Pv xs.length ys H->R ys H):nU (Itt K a) σ₀ g tt te R H:=by
 refine⟨λi m ys H=>m=xs.length - i/\i<=xs.length/\Pv i ys H,⟨xs.length,by simp,Rl9 _,h0⟩,?_⟩
 rintro i m ys H ⟨rfl,hi,p⟩
 obtain⟨q,ql⟩:=hl i ys H hi p
 refine⟨by omega,?_⟩
 by_cases hlt:i < xs.length
 ·refine .inr ⟨⟨xs,xs[i],q,by simp[hlt]⟩,Pv (i+1),λys' H' p'=>⟨xs.length - (i+1),by omega,rfl,hlt,p'⟩,λx H' y=>?_⟩
  obtain⟨e,y⟩:=y
  subst e
  exact hs i x ys _ (y xs q) p
 ·have e:i=xs.length:=by omega
  subst e
  exact .inl ⟨⟨xs,q,eA _⟩,hd ys H p⟩
theorem aAg{lo:Int}{n:Nat}{g:TG}{R:List V->Hp->Prop}(Pv:Nat->List V->Hp->Prop)(h0:Pv 0 [] H)(hz:n<=sizeLine)(hl:∀i ys H,i<=n->Pv i ys H->ys.length<=i)(hs:∀i ys H,i < n->Pv i ys H->g (.int (lo+i)) σ₀ H λσ2 H2=>tt σ2 H2 λb H3=>if b=true then te σ2 H3 λy H4=>Pv (i+1) (ys ++ [y]) H4 else Pv (i+1) ys H3)(hd:∀ys H,Pv n ys H->R ys H):nU (Itr lo n) σ₀ g tt te R H:=by
 refine⟨λi m ys H=>m=n - i/\i<=n/\Pv i ys H,⟨n,by simp,Rl9 _,h0⟩,?_⟩
 rintro i m ys H ⟨rfl,hi,p⟩
 have ql:=hl i ys H hi p
 refine⟨by omega,?_⟩
 by_cases hlt:i < n
 ·refine .inr ⟨hlt,Pv (i+1),λys' H' p'=>⟨n - (i+1),by omega,rfl,hlt,p'⟩,λx H' y=>?_⟩
  obtain⟨e,y⟩:=y
  subst e y
  exact hs i ys _ hlt p
 ·have e:i=n:=by omega
  subst e
  exact .inl ⟨eA _,hd ys H p⟩
end L2
namespace L2
open PySem PySem.Spec PyProof.Rows
theorem aQd:bootBuiltins "int" = some (.type "int"):=by decide +kernel
theorem aNX:bootBuiltins "bool" = some (.type "bool"):=by decide +kernel
theorem uL:bootBuiltins "list" = some (.type "list"):=by decide +kernel
theorem wJ:bootBuiltins "tuple" = some (.type "tuple"):=by decide +kernel
theorem aLS:bootBuiltins "range" = some (.type "range"):=by decide +kernel
theorem kL:bootBuiltins "len" = some (.builtin "len"):=by decide +kernel
theorem aQe:bootBuiltins "abs" = some (.builtin "abs"):=by decide +kernel
theorem uM:bootBuiltins "max" = some (.builtin "max"):=by decide +kernel
theorem aDN:bootBuiltins "min" = some (.builtin "min"):=by decide +kernel
theorem kM:bootBuiltins "sum" = some (.builtin "sum"):=by decide +kernel
theorem aIL:bootBuiltins "all" = some (.builtin "all"):=by decide +kernel
theorem aFE:bootBuiltins "sorted" = some (.builtin "sorted"):=by decide +kernel
theorem eV:bootBuiltins "isinstance" = some (.builtin "isinstance"):=by decide +kernel
section
variable{X:Cx}
def aLT:R2:=λx y H Q=>rI0 (λi j=>.int (i+j)) x y H Q\/aRl x y H Q
theorem cM:v9 X (binaryOp .Add) aLT:=aPO.or aP1
def aO2:R2:=λx y H Q=>rI aLs (λi j=>.int (i*j)) x y H Q\/aRm x y H Q
theorem cC:v9 X (binaryOp .Mult) aO2:=aPP.or aP2
def aLU(K:W.Frag):V->Option Int->Option Int->Hp->VK->Prop:=λx lo hi H Q=>aRj K x lo hi H Q\/aRe K x lo hi H Q
theorem aQf:SlR X (aLU X.K):=aNN.or aPV
def EqN(K:W.Frag)(H:Hp):Nat->V->V->Bool->Prop
 |0,x,y,b=>j7 x=true/\j7 y=true/\b=eqV x y
 |n+1,x,y,b=>(j7 x=true/\j7 y=true/\b=eqV x y)\/
  ∃(p q:Addr) (xs ys:List V) (e:Nat->Bool),x=.ref p/\y=.ref q/\((bX K H p xs/\bX K H q ys)\/(jQ K H p xs/\jQ K H q ys))/\
   (∀(j:Nat) u v,xs[j]?=some u->ys[j]?=some v->EqN K H n u v (e j))/\b=(xs.length == ys.length && (List.range xs.length).all e)
theorem aHD(h:j7 x=true):eqV x x=true:=by
 cases x with
 |non=>rfl
 |bl b=>cases b <;> rfl
 |int i=>exact beq_self_eq_true i
 |str z=>exact beq_self_eq_true z
 |_=>exact absurd (show false=true from h) Qq9
theorem aHE(I:Inv X pins σ H s):∀{n:Nat}{x:V}{b:Bool},EqN X.K H n x x b->b=true
 |0,x,b,⟨h,_,e⟩=>by rw[e];exact aHD h
 |n+1,x,b,h=>by
  rcases h with ⟨h,_,e⟩|⟨p,q,xs,ys,e,e1,e2,hs,he,eb⟩
  ·rw[e];exact aHD h
  ·subst e1
   cases e2
   have exy:xs=ys:=by
    rcases hs with ⟨h1,h2⟩|⟨h1,h2⟩
    ·exact I.aDA h1 h2
    ·exact I.aFw h1 h2
   subst exy
   rw[eb,beq_self_eq_true,Sn9,To9]
   intro j hj
   have hj':j < xs.length:=Ry9.mp hj
   exact aHE I (he j xs[j] xs[j] (eU hj') (eU hj'))
theorem aLV(I:Inv X pins σ H s):∀{n:Nat}{A:Around}{x y:V}{u v:Value}{b:Bool},A.units+n < cLine->RelV x u->RelV y v->EqN X.K H n x y b->SeqAt.EqAt A s u v b
 |0,A,x,y,u,v,b,_,rx,ry,⟨h1,h2,e⟩=>by rw[e];exact aIJ rx ry h1 h2
 |n+1,A,x,y,u,v,b,hu,rx,ry,h=>by
  rcases id h with ⟨h1,h2,e⟩|⟨p,q,xs,ys,e,e1,e2,hs,he,eb⟩
  ·rw[e];exact aIJ rx ry h1 h2
  ·subst e1 e2
   cases rx
   cases ry
   by_cases hpq:p=q
   ·subst hpq
    rw[aHE I h]
    exact SeqAt.EqAt.same _
   ·refine SeqAt.EqAt.of_refs hpq ?_
    have items:∀{us vs:List Value},Vals xs us->Vals ys vs->∀j (h1:j < us.toArray.size) (h2:j < vs.toArray.size),SeqAt.EqAt A.in1 s us.toArray[j] vs.toArray[j] (e j):=λ{us vs} r1 r2 j h1 h2=>by
     have l1:=r1.length
     have l2:=r2.length
     rw[mF] at h1 h2
     have g1:xs[j]?=some xs[j]:=eU (by omega)
     have g2:ys[j]?=some ys[j]:=eU (by omega)
     obtain⟨u',eu,ru⟩:=r1.get g1
     obtain⟨v',ev,rv⟩:=r2.get g2
     have eu':us.toArray[j]=u':=by
      rw[Ss9]
      exact Option.some.inj ((eU h1).symm.trans eu)
     have ev':vs.toArray[j]=v':=by
      rw[Ss9]
      exact Option.some.inj ((eU h2).symm.trans ev)
     rw[eu',ev']
     exact aLV I (n:=n) (by show A.units+1+n < cLine;omega) ru rv (he j _ _ g1 g2)
    rcases hs with ⟨h1,h2⟩|⟨h1,h2⟩
    ·obtain⟨us,r1,p1,_⟩:=I.list h1
     obtain⟨vs,r2,p2,_⟩:=I.list h2
     have l1:=r1.length
     have l2:=r2.length
     by_cases hl:xs.length=ys.length
     ·rw[eb,hl,beq_self_eq_true,Sn9,<-hl,show xs.length=us.toArray.size by rw[mF];exact l1]
      exact SeqAt.RcAt.lists p1.isList p2.isList (by rw[mF,mF];omega) (by omega) (items r1 r2)
     ·rw[eb,show(xs.length == ys.length)=false by simpa using hl,Sj9]
      exact SeqAt.RcAt.lists_lengths p1.isList p2.isList (by rw[mF,mF];simp;omega) (by omega)
    ·obtain⟨us,r1,p1,_⟩:=I.tuple h1
     obtain⟨vs,r2,p2,_⟩:=I.tuple h2
     have l1:=r1.length
     have l2:=r2.length
     have q:=SeqAt.RcAt.tuples (s:=s) (A:=A) (l:=p) (b:=q) (e:=e) p1 p2 (by omega) (items r1 r2)
     rw[mF,mF,<-l1,<-l2] at q
     by_cases hl:xs.length=ys.length
     ·rw[eb,hl,beq_self_eq_true,Sn9]
      rw[hl,Nat.min_self,beq_self_eq_true,Bool.and_true] at q
      exact q
     ·have hb:(xs.length == ys.length)=false:=by simpa using hl
      rw[eb,hb,Sj9]
      rw[hb,Bool.and_false] at q
      exact q
def v5(K:W.Frag):R2:=λx y H Q=>∃b,EqN K H 8 x y b/\Q (.bl b) H
def aKy(K:W.Frag):R2:=λx y H Q=>∃b,EqN K H 8 x y b/\Q (.bl (!b)) H
theorem yT{n:Nat}{A:Around}{xs ys:List V}{us vs:List Value}{e:Nat->Bool}(I:Inv X pins σ H s)(hu:A.units+1+n < cLine)(he:∀(j:Nat) u v,xs[j]?=some u->ys[j]?=some v->EqN X.K H n u v (e j))(r1:Vals xs us)(r2:Vals ys vs):∀j (h1:j < us.toArray.size) (h2:j < vs.toArray.size),SeqAt.EqAt A.in1 s us.toArray[j] vs.toArray[j] (e j):=λj h1 h2=>by
 have l1:=r1.length
 have l2:=r2.length
 rw[mF] at h1 h2
 have g1:xs[j]?=some xs[j]:=eU (by omega)
 have g2:ys[j]?=some ys[j]:=eU (by omega)
 obtain⟨u',eu,ru⟩:=r1.get g1
 obtain⟨v',ev,rv⟩:=r2.get g2
 have eu':us.toArray[j]=u':=by
  rw[Ss9]
  exact Option.some.inj ((eU h1).symm.trans eu)
 have ev':vs.toArray[j]=v':=by
  rw[Ss9]
  exact Option.some.inj ((eU h2).symm.trans ev)
 rw[eu',ev']
 exact aLV I (n:=n) (by show A.units+1+n < cLine;omega) ru rv (he j _ _ g1 g2)
theorem aQg(ry:RelV y u)(rx:RelV x v)(fy:j7 y=true)(fx:j7 x=true):SeqAt.RcAt A s u v (eqV y x):=by
 cases y with
 |non=>
  cases ry
  cases x with
  |non=>cases rx;exact SeqAt.RcAt.none_none
  |bl b=>cases rx;exact SeqAt.RcAt.none_bool b
  |int b=>obtain⟨t,rfl⟩:=rx;exact SeqAt.RcAt.none_int b t
  |str b=>obtain⟨t,rfl⟩:=rx;exact SeqAt.RcAt.none_str b t
  |_=>exact absurd (show false=true from fx) Qq9
 |bl a=>
  cases ry
  cases x with
  |non=>cases rx;exact SeqAt.RcAt.bool_none a
  |bl b=>cases rx;exact SeqAt.RcAt.bool_bool a b
  |int b=>obtain⟨t,rfl⟩:=rx;exact SeqAt.RcAt.bool_int a b t
  |str b=>obtain⟨t,rfl⟩:=rx;exact SeqAt.RcAt.bool_str a b t
  |_=>exact absurd (show false=true from fx) Qq9
 |int a=>
  obtain⟨t',rfl⟩:=ry
  cases x with
  |non=>cases rx;exact SeqAt.RcAt.int_none a t'
  |bl b=>cases rx;exact SeqAt.RcAt.int_bool a t' b
  |int b=>obtain⟨t,rfl⟩:=rx;exact SeqAt.RcAt.int_int a t' b t
  |str b=>obtain⟨t,rfl⟩:=rx;exact SeqAt.RcAt.int_str a t' b t
  |_=>exact absurd (show false=true from fx) Qq9
 |str a=>
  obtain⟨t',rfl⟩:=ry
  cases x with
  |non=>cases rx;exact SeqAt.RcAt.str_none a t'
  |bl b=>cases rx;exact SeqAt.RcAt.str_bool a t' b
  |int b=>obtain⟨t,rfl⟩:=rx;exact SeqAt.RcAt.str_int a t' b t
  |str b=>obtain⟨t,rfl⟩:=rx;exact SeqAt.RcAt.str_str a t' b t
  |_=>exact absurd (show false=true from fx) Qq9
 |_=>exact absurd (show false=true from fy) Qq9
theorem aLW(ry:RelV y u)(rx:RelV x v)(fy:j7 y=true)(fx:j7 x=true):SeqAt.RcNeAt A s u v (!eqV y x):=by
 cases y with
 |non=>
  cases ry
  cases x with
  |non=>cases rx;exact SeqAt.RcNeAt.none_none
  |bl b=>cases rx;exact SeqAt.RcNeAt.none_bool b
  |int b=>obtain⟨t,rfl⟩:=rx;exact SeqAt.RcNeAt.none_int b t
  |str b=>obtain⟨t,rfl⟩:=rx;exact SeqAt.RcNeAt.none_str b t
  |_=>exact absurd (show false=true from fx) Qq9
 |bl a=>
  cases ry
  cases x with
  |non=>cases rx;exact SeqAt.RcNeAt.bool_none a
  |bl b=>cases rx;exact SeqAt.RcNeAt.bool_bool a b
  |int b=>obtain⟨t,rfl⟩:=rx;exact SeqAt.RcNeAt.bool_int a b t
  |str b=>obtain⟨t,rfl⟩:=rx;exact SeqAt.RcNeAt.bool_str a b t
  |_=>exact absurd (show false=true from fx) Qq9
 |int a=>
  obtain⟨t',rfl⟩:=ry
  cases x with
  |non=>cases rx;exact SeqAt.RcNeAt.int_none a t'
  |bl b=>cases rx;exact SeqAt.RcNeAt.int_bool a t' b
  |int b=>obtain⟨t,rfl⟩:=rx;exact SeqAt.RcNeAt.int_int a t' b t
  |str b=>obtain⟨t,rfl⟩:=rx;exact SeqAt.RcNeAt.int_str a t' b t
  |_=>exact absurd (show false=true from fx) Qq9
 |str a=>
  obtain⟨t',rfl⟩:=ry
  cases x with
  |non=>cases rx;exact SeqAt.RcNeAt.str_none a t'
  |bl b=>cases rx;exact SeqAt.RcNeAt.str_bool a t' b
  |int b=>obtain⟨t,rfl⟩:=rx;exact SeqAt.RcNeAt.str_int a t' b t
  |str b=>obtain⟨t,rfl⟩:=rx;exact SeqAt.RcNeAt.str_str a t' b t
  |_=>exact absurd (show false=true from fx) Qq9
 |_=>exact absurd (show false=true from fy) Qq9
theorem jF(hu:X.A.units+9 < cLine):v9 X (compareOp .Eq) (v5 X.K):=by
 intro pins s σ H x y v u Q I rx ry h
 obtain⟨b,h,q⟩:=h
 have fin:EP X pins σ Q (.bool b) s:=⟨.bl b,H,I,rfl,q⟩
 rcases h with ⟨h1,h2,e⟩|⟨p,l,xs,ys,e,e1,e2,hs,he,eb⟩
 ·exact aQg rx ry h1 h2 X.prog X.w X.xe _ (by rw[<-e];exact fin)
 ·subst e1 e2
  cases rx
  cases ry
  rcases hs with ⟨h1,h2⟩|⟨h1,h2⟩
  ·obtain⟨us,r1,p1,_⟩:=I.list h1
   obtain⟨vs,r2,p2,_⟩:=I.list h2
   have l1:=r1.length
   have l2:=r2.length
   by_cases hl:xs.length=ys.length
   ·refine SeqAt.RcAt.lists p1.isList p2.isList (by rw[mF,mF];omega) (by omega) (yT I (n:=7) (A:=X.A) (by omega) he r1 r2) X.prog X.w X.xe _ ?_
    rw[mF,<-l1]
    rw[eb,hl,beq_self_eq_true,Sn9,<-hl] at fin
    exact fin
   ·refine SeqAt.RcAt.lists_lengths p1.isList p2.isList (by rw[mF,mF];simp;omega) (by omega) X.prog X.w X.xe _ ?_
    rw[eb,show(xs.length == ys.length)=false by simpa using hl,Sj9] at fin
    exact fin
  ·obtain⟨us,r1,p1,_⟩:=I.tuple h1
   obtain⟨vs,r2,p2,_⟩:=I.tuple h2
   have l1:=r1.length
   have l2:=r2.length
   refine SeqAt.RcAt.tuples p1 p2 (by omega) (yT I (n:=7) (A:=X.A) (by omega) he r1 r2) X.prog X.w X.xe _ ?_
   rw[mF,mF,<-l1,<-l2]
   rw[eb] at fin
   by_cases hl:xs.length=ys.length
   ·rw[hl,beq_self_eq_true,Sn9] at fin
    rw[hl,Nat.min_self,beq_self_eq_true,Bool.and_true]
    exact fin
   ·have hb:(xs.length == ys.length)=false:=by simpa using hl
    rw[hb,Sj9] at fin
    rw[hb,Bool.and_false]
    exact fin
theorem aGh(hu:X.A.units+9 < cLine):v9 X (compareOp .NotEq) (aKy X.K):=by
 intro pins s σ H x y v u Q I rx ry h
 obtain⟨b,h,q⟩:=h
 have fin:EP X pins σ Q (.bool (!b)) s:=⟨.bl (!b),H,I,rfl,q⟩
 rcases h with ⟨h1,h2,e⟩|⟨p,l,xs,ys,e,e1,e2,hs,he,eb⟩
 ·exact aLW rx ry h1 h2 X.prog X.w X.xe _ (by rw[<-e];exact fin)
 ·subst e1 e2
  cases rx
  cases ry
  rcases hs with ⟨h1,h2⟩|⟨h1,h2⟩
  ·obtain⟨us,r1,p1,_⟩:=I.list h1
   obtain⟨vs,r2,p2,_⟩:=I.list h2
   have l1:=r1.length
   have l2:=r2.length
   by_cases hl:xs.length=ys.length
   ·refine SeqAt.RcNeAt.lists p1.isList p2.isList (by rw[mF,mF];omega) (by omega) (yT I (n:=7) (A:=X.A) (by omega) he r1 r2) X.prog X.w X.xe _ ?_
    rw[mF,<-l1]
    rw[eb,hl,beq_self_eq_true,Sn9,<-hl] at fin
    exact fin
   ·refine SeqAt.RcNeAt.lists_lengths p1.isList p2.isList (by rw[mF,mF];simp;omega) (by omega) X.prog X.w X.xe _ ?_
    rw[eb,show(xs.length == ys.length)=false by simpa using hl,Sj9] at fin
    exact fin
  ·obtain⟨us,r1,p1,_⟩:=I.tuple h1
   obtain⟨vs,r2,p2,_⟩:=I.tuple h2
   have l1:=r1.length
   have l2:=r2.length
   refine SeqAt.RcNeAt.tuples p1 p2 (by omega) (yT I (n:=7) (A:=X.A) (by omega) he r1 r2) X.prog X.w X.xe _ ?_
   rw[mF,mF,<-l1,<-l2]
   rw[eb] at fin
   by_cases hl:xs.length=ys.length
   ·rw[hl,beq_self_eq_true,Sn9] at fin
    rw[hl,Nat.min_self,beq_self_eq_true,Bool.and_true]
    exact fin
   ·have hb:(xs.length == ys.length)=false:=by simpa using hl
    rw[hb,Sj9] at fin
    rw[hb,Bool.and_false]
    exact fin
def IsI(K:W.Frag)(H:Hp)(x:V)(c:V)(b:Bool):Prop:=∃t,aAQ K H x t/\((∃T,c=.ty T/\PySem.W.kitOne K t (.type T)=some b)\/(∃C,c=.ref C/\PySem.W.kitOne K t (.ref C)=some b))
theorem aLX:fE X (.builtin "isinstance") (λxs H Q=>∃x c b,xs=[x,c]/\IsI X.K H x c b/\Q (.bl b) H):=by
 intro pins s σ H xs us Q I r h
 obtain⟨x,c,b,rfl,⟨t,ty,hc⟩,q⟩:=h
 obtain⟨u,w',rfl,rx,ry⟩:=vals2 r
 rcases hc with ⟨T,rfl,e⟩|⟨C,rfl,e⟩
 ·cases ry
  exact aFx I rx ty e λtk=>⟨.bl b,H,I.tok _,rfl,q⟩
 ·cases ry
  exact aFx I rx ty e λtk=>⟨.bl b,H,I.tok _,rfl,q⟩
end
end L2
namespace L2
open PySem PySem.Spec PyProof.Rows
section
variable{X:Cx}
def gIx(K:W.Frag):V->V->Hp->VK->Prop:=λx y H Q=>∃p xs i v,x=.ref p/\y=.int i/\bX K H p xs/\0<=i/\xs[i.toNat]?=some v/\Q v H
theorem aLY:aPI X (gIx X.K):=by
 intro pins s σ H x y v u Q I rx ry h
 obtain⟨p,xs,i,z,rfl,rfl,hq,h0,he,q⟩:=h
 cases rx
 obtain⟨t,rfl⟩:=ry
 obtain⟨its,r,pl,hz⟩:=I.list hq
 obtain⟨w,ew,rw'⟩:=r.get he
 have hl:=r.length
 have hn:=aBJ
 have hi:i.toNat < xs.length:=(qM.mp he).1
 exact wpAny_getItem_list pl.isList h0 (by omega) (by simpa using ew) ⟨z,H,I,rw',q⟩
theorem kI{k:Nat}{A:Around}(hr:eN k A):A.units+9 < cLine:=by have:=hr.un;omega
end
section
variable{σ:St}{H:Hp}{nx bk ct:St->Hp->Prop}{rt:VK}{Q:VK}{QT:Bool->Hp->Prop}{QA:List V->Hp->Prop}{QG:St->Hp->Prop}
theorem aS{t:TS}{D:Ends}{σ σ':St}(e:σ'=σ)(h:t D σ H):t D σ' H:=e▸h
theorem aQh{u:TS}(h:t ⟨u ⟨nx,rt,bk,ct⟩,rt,bk,ct⟩ σ H):aLh t u ⟨nx,rt,bk,ct⟩ σ H:=h
theorem aNY(h:nx σ H):aLg ⟨nx,rt,bk,ct⟩ σ H:=h
theorem aQi(h:te σ H λx H1=>g x σ H1 nx):aHn te g ⟨nx,rt,bk,ct⟩ σ H:=h
theorem aNZ(h:te σ H λ_ H1=>nx σ H1):aLj te ⟨nx,rt,bk,ct⟩ σ H:=h
theorem aQj(h:te σ H rt):aPy te ⟨nx,rt,bk,ct⟩ σ H:=h
theorem aQk(h:c σ H λb H1=>if b=true then t ⟨nx,rt,bk,ct⟩ σ H1 else u ⟨nx,rt,bk,ct⟩ σ H1):aPA c t u ⟨nx,rt,bk,ct⟩ σ H:=h
theorem aDO{i:Nat}(e:σ[i]?=some (some x))(h:te σ H λy H1=>ti x y H1 λz H2=>nx (σ.set i (some z)) H2):aPG i te ti ⟨nx,rt,bk,ct⟩ σ H:=⟨x,e,h⟩
theorem aN0{tget:V->V->Hp->VK->Prop}(h:to σ H λo H1=>ti σ H1 λi H2=>tget o i H2 λx H3=>te σ H3 λy H4=>tip x y H4 λz H5=>tset o i z H5 λH6=>nx σ H6):aLo to ti te tget tip tset ⟨nx,rt,bk,ct⟩ σ H:=h
theorem aQl{g:TG}(h:wi σ H λJ H1=>∃W:Nat->Nat->St->Hp->Prop,(∃m,W 0 m σ H1)/\∀i m σ H,W i m σ H->
 (J.stop i H/\nx σ H)\/(J.go i H/\∃N:St->Hp->Prop,(∀σ' H',N σ' H'->∃m',m' < m/\W (i+1) m' σ' H')/\∀x H',J.yld i H x H'->g x σ H' λσ2 H2=>tb ⟨N,rt,nx,N⟩ σ2 H2)):aPL wi g tb ⟨nx,rt,bk,ct⟩ σ H:=h
theorem aLZ{i:Nat}(e:σ.set i (some v)=σ')(h:QG σ' H):wB i v σ H QG:=by unfold wB;rw[e];exact h
theorem cP{K:W.Frag}{n:Nat}{t:TGs}{a:Addr}{xs:List V}(h1:jQ K H a xs)(h2:xs.length=n)(h:t xs σ H QG):aNx K n t (.ref a) σ H QG:=⟨a,xs,rfl,h1,h2,h⟩
theorem aN1(h:QG σ H):aNv [] σ H QG:=⟨rfl,h⟩
theorem aL0(h:t v σ H λσ' H'=>u r σ' H' QG):aJu t u (v::r) σ H QG:=⟨v,r,rfl,h⟩
theorem aN2(h:to σ H λo H1=>ti σ H1 λi H2=>t o i v H2 λH3=>QG σ H3):aPC to ti t v σ H QG:=h
theorem aGi{xs:List V}{k:Int}{j:Nat}{QH:Hp->Prop}(h1:H p=some (.lst xs))(h2:ixN xs.length k=some j)(h:QH (upd H p (.lst (xs.set j v)))):aOY (.ref p) (.int k) v H QH:=⟨p,xs,k,j,rfl,rfl,h1,h2,h⟩
theorem aL1{K:W.Frag}{p:Addr}{xs:List V}{i:Int}{v:V}(h1:bX K H p xs)(h0:0<=i)(h2:xs[i.toNat]?=some v)(h:Q v H):gIx K (.ref p) (.int i) H Q:=⟨p,xs,i,v,rfl,rfl,h1,h0,h2,h⟩
theorem aQm{f:Int->Int->Int}{i j:Int}(h:Q (.int (f i j)) H):ipI f (.int i) (.int j) H Q:=⟨i,j,rfl,rfl,h⟩
theorem aQn{i:Nat}(e:σ[i]?=some (some v))(h:Q v H):aPk i σ H Q:=⟨v,e,h⟩
theorem aRV(h:Q v H):tC v σ H Q:=h
theorem aRq(h:ta σ H λx H1=>tb σ H1 λy H2=>r x y H2 Q):tOp r ta tb σ H Q:=h
theorem aRr{r:V->Hp->VK->Prop}(h:ta σ H λx H1=>r x H1 Q):tUn r ta σ H Q:=h
theorem aQo{g:Int->Int->V}{i j:Int}(h:Q (g i j) H):rI0 g (.int i) (.int j) H Q:=⟨i,j,rfl,rfl,h⟩
theorem aRs{C:Int->Int->Prop}{g:Int->Int->V}{i j:Int}(c:C i j)(h:Q (g i j) H):rI C g (.int i) (.int j) H Q:=⟨i,j,rfl,rfl,c,h⟩
theorem aRt{g:Int->V}{i:Int}(h:Q (g i) H):rU g (.int i) H Q:=⟨i,rfl,h⟩
theorem aN3{i j:Int}(h:Q (.int (i+j)) H):aLT (.int i) (.int j) H Q:=.inl ⟨i,j,rfl,rfl,h⟩
theorem aDs{xs zs:List V}(h1:H l=some (.lst xs))(h2:H b=some (.lst zs))(hz:xs.length+zs.length<=sizeLine)(h:∀p,H p=none->Q (.ref p) (upd H p (.lst (xs++zs)))):aLT (.ref l) (.ref b) H Q:=.inr ⟨l,b,xs,zs,rfl,rfl,h1,h2,hz,h⟩
theorem aN4{i j:Int}(c:aLs i j)(h:Q (.int (i*j)) H):aO2 (.int i) (.int j) H Q:=.inl ⟨i,j,rfl,rfl,c,h⟩
theorem aQp{K:W.Frag}{p:Addr}{xs:List V}{i:Int}{v:V}(h1:bX K H p xs)(h2:atI xs i=some v)(h:Q v H):rIx K (.ref p) (.int i) H Q:=.inl ⟨p,xs,i,v,rfl,rfl,h1,h2,h⟩
theorem aQq{K:W.Frag}{p:Addr}{xs:List V}{i:Int}{v:V}(h1:jQ K H p xs)(h2:atI xs i=some v)(h:Q v H):rIx K (.ref p) (.int i) H Q:=.inr (.inl ⟨p,xs,i,v,rfl,rfl,h1,h2,h⟩)
theorem aRu{r:V->Option Int->Option Int->Hp->VK->Prop}(h:te σ H λx H1=>tl σ H1 λl H2=>th σ H2 λu H3=>r x l u H3 Q):tSl r te tl th σ H Q:=h
theorem aKz{QO:Option Int->Hp->Prop}(h:QO none H):aGa σ H QO:=h
theorem aN5{QO:Option Int->Hp->Prop}(h:t σ H λx H1=>∃i,x=.int i/\QO (some i) H1):aLE t σ H QO:=h
theorem aDP{K:W.Frag}{a:Addr}{xs:List V}{lo hi:Option Int}(h1:bX K H a xs)(h:∀p,H p=none->Q (.ref p) (upd H p (.lst (sL xs lo hi)))):aLU K (.ref a) lo hi H Q:=.inl ⟨a,xs,rfl,h1,h⟩
theorem aN6(h:ta σ H λx H1=>∃c,x=.bl c/\if c=true then tb σ H1 Q else Q (.bl false) H1):aLd ta tb σ H Q:=h
theorem aQr(h:ta σ H λx H1=>∃c,x=.bl c/\if c=true then Q (.bl true) H1 else tb σ H1 Q):aPu ta tb σ H Q:=h
theorem aN7(h:ta σ H λx H1=>∃c,x=.bl c/\Q (.bl (!c)) H1):aLe ta σ H Q:=h
theorem aQs(h:t σ H λc H1=>if c=true then ta σ H1 Q else tb σ H1 Q):tIf t ta tb σ H Q:=h
theorem aL2(h:ta σ H λx H1=>tb σ H1 λy H2=>r x y H2 λz H3=>∃k,z=.bl k/\(if k=true then tc σ H3 λw' H4=>r' y w' H4 Q else Q (.bl false) H3)):aIy r r' ta tb tc σ H Q:=h
theorem aN8(h:t σ H λx H'=>∃k,x=.bl k/\QT k H'):aLt t σ H QT:=h
theorem aRv(h:t σ H λx H'=>∃k,x=.bl k/\QT k H'):tB t σ H QT:=h
theorem aQt(h:t σ H λc H1=>if c=true then u σ H1 QT else QT false H1):aPp t u σ H QT:=h
theorem aRw(h:t σ H λc H1=>if c=true then QT true H1 else u σ H1 QT):tOr t u σ H QT:=h
theorem aQu(h:t σ H λc H1=>QT (!c) H1):aPq t σ H QT:=h
theorem aQv(h:QT true H):aQc σ H QT:=h
theorem aRx{b:Bool}{P:Bool->Prop}(h:P b):∃k,V.bl b=V.bl k/\P k:=⟨b,rfl,h⟩
theorem aN9{i:Int}{P:Int->Prop}(h:P i):∃k,V.int i=V.int k/\P k:=⟨i,rfl,h⟩
theorem aRy{i:Int}{P:Int->Prop}(h:P i):∃k,[V.int i]=[V.int k]/\P k:=⟨i,rfl,h⟩
theorem aRz{i j:Int}{P:Int->Int->Prop}(h:P i j):∃k l,[V.int i,V.int j]=[V.int k,V.int l]/\P k l:=⟨i,j,rfl,h⟩
theorem aQw(h:QA [] H):mH σ H QA:=h
theorem aOa(h:ta σ H λx H1=>tr σ H1 λxs H2=>QA (x::xs) H2):bF ta tr σ H QA:=h
theorem aQx(h:t σ H λxs H1=>xs.length<=sizeLine/\∀p,H1 p=none->Q (.ref p) (upd H1 p (.tup xs))):aCK t σ H Q:=h
theorem aQy(h:t σ H λxs H1=>xs.length<=sizeLine/\∀p,H1 p=none->Q (.ref p) (upd H1 p (.lst xs))):aBL t σ H Q:=h
theorem aOb(h:t σ H λvs H1=>sp vs H1 Q E):aHp sp [] E t σ H Q:=by
 unfold aHp
 simpa only [Rt9] using h
theorem aRA{r:List V->Hp->VK->Prop}(h:t σ H λvs H1=>r vs H1 Q):tCB r t σ H Q:=h
theorem aOc{k:Nat}{idx:List Nat}(h:wi σ H λJ H1=>nU J (cσ k idx σ) g tt te (λys H'=>∀p,H' p=none->Q (.ref p) (upd H' p (.lst ys))) H1):aHC wi k idx g tt te σ H Q:=h
theorem aL3{R:It->Hp->Prop}(h:ta σ H λvs H1=>∃j:Int,vs=[.int j]/\-(2 ^ 62)<=j/\j < 2 ^ 62/\R (Itr 0 j.toNat) H1):aJw ta σ H R:=h
theorem aL4{R:It->Hp->Prop}(h:ta σ H λvs H1=>∃i j:Int,vs=[.int i,.int j]/\(-(2 ^ 62)<=i/\i < 2 ^ 62/\-(2 ^ 62)<=j/\j < 2 ^ 62)/\R (Itr i (j - i).toNat) H1):aJx ta σ H R:=h
theorem aQz{K:W.Frag}{ta:TE}{f:Str}(h:ta σ H λx H1=>∃a C dx fs v,x=.ref a/\H1 a=some (.ins C dx fs)/\Cls K C/\cX K C f/\fs.lookup f=some v/\Q v H1):aPQ K ta f σ H Q:=h
theorem aOd{n:Nat}{P:Prop}(h1:n<=sizeLine)(h:P):n<=sizeLine/\P:=⟨h1,h⟩
theorem cK{n:Nat}(h:n<=16777216):n<=sizeLine:=by rw[sizeLine_eq];exact h
end
section
variable{A B:Prop}{c:Prop}[Decidable c]
theorem cW(h1:c->A)(h2:¬c->B):if decide c=true then A else B:=by
 by_cases h:c
 ·rw[if_pos (decide_eq_true h)];exact h1 h
 ·rw[if_neg (by simpa using h)];exact h2 h
theorem aAU(h1:¬c->A)(h2:c->B):if (!decide c)=true then A else B:=by
 by_cases h:c
 ·rw[if_neg (by simpa using h)];exact h2 h
 ·rw[if_pos (by simpa using h)];exact h1 h
theorem uN{b:Bool}(h1:b=true->A)(h2:b=false->B):if b=true then A else B:=by
 cases b
 ·exact aQa (h2 rfl)
 ·exact aQb (h1 rfl)
end
def aO3(sc:Scope)(NX:List Str)(scope:Scope)(N:List Str)(k:Nat)(idx:List Nat):Bool:=
 scope.names.all (λy=>!(y.2 == .cell)) && scope.names.all (λy=>!(y.2 == .local) || scope.names.lookup y.1 == some .local) &&
 scope.names.all (λy=>!(y.2 == .free) || (sc.names.lookup y.1 == some .cell || sc.names.lookup y.1 == some .free)) &&
 decide N.Nodup && decide (N.length=k+idx.length) && (List.range idx.length).all λi=>
  match (N.drop k)[i]?,idx[i]? with
  |some x,some j=>decide (NX[j]?=some x) && scope.names.lookup x == some .free
  |_,_=>false
theorem cR{X:Cx}{scope:Scope}{k:Nat}{idx:List Nat}(hsc:X.env.scope=sc)(hN:X.N=NX)(hk:scope.kind=.function)(h:aO3 sc NX scope N k idx=true):fJ X scope N k idx:=by
 unfold aO3 at h
 simp only[Rp9,decide_eq_true_eq] at h
 obtain⟨⟨⟨⟨⟨h1,h2⟩,h3⟩,h4⟩,h5⟩,h6⟩:=h
 rw[To9] at h1 h2 h3 h6
 refine⟨hk,λy hy e=>?_,λy hy e=>?_,λy hy e=>?_,h4,h5,λi x e=>?_⟩
 ·have:=h1 y hy
  rw[e] at this
  simp at this
 ·have:=h2 y hy
  rw[e] at this
  simpa using this
 ·have:=h3 y hy
  rw[e] at this
  show X.env.scope.names.lookup y.1=_\/X.env.scope.names.lookup y.1=_
  rw[hsc]
  simpa using this
 ·have hi:i < (N.drop k).length:=(qM.mp e).1
  have hi2:i < idx.length:=by rw[Tn9] at hi;omega
  have q:=h6 i (Ry9.mpr hi2)
  rw[e,eU hi2] at q
  simp only[Rp9,decide_eq_true_eq] at q
  exact⟨idx[i],eU hi2,by rw[hN];exact q.1,by simpa using q.2⟩
theorem bM{H:Hp}{a b:Addr}{o:HO}(h':H b=none)(h:H a=some o):a≠b:=bG h h'
theorem aQ.at(e:aQ H H')(h:H b=some o):H' b=some o:=e b o h
def cU(p:Addr)(H H':Hp):Prop:=∀b o,H b=some o->b≠p->H' b=some o
theorem cU.at(e:cU p H H')(h:H b=some o)(n:b≠p):H' b=some o:=e b o h n
theorem aQ.new{H:Hp}{p:Addr}{o:HO}(h:H p=none):aQ H (upd H p o):=λb u e=>by rw[aW (bG e h)];exact e
theorem cU.upd:cU p H (upd H p o):=λb u e n=>by rw[aW n];exact e
theorem cU.trans(a:cU p H H1)(b:cU p H1 H2):cU p H H2:=λc o h n=>b c o (a c o h n) n
theorem aQ.keep(a:aQ H H'):cU p H H':=λc o h _=>a c o h
end L2
namespace L2
open PySem PySem.Spec PyProof.Rows
section
variable{σ:St}{H:Hp}{nx bk ct:St->Hp->Prop}{rt:VK}
theorem aJD{t u:TS}(J:St->Hp->Prop)(h1:∀N:St->Hp->Prop,(∀σ' H',J σ' H'->N σ' H')->t ⟨N,rt,bk,ct⟩ σ H)(h2:∀σ' H',J σ' H'->u ⟨nx,rt,bk,ct⟩ σ' H'):aLh t u ⟨nx,rt,bk,ct⟩ σ H:=h1 _ h2
end
theorem aBP{K:W.Frag}{a:Addr}{xs:List V}{σ₀:St}{g:TG}{tt:TT}{te:TE}{R:List V->Hp->Prop}{H:Hp}(f:V->V)(hS:bX K H a xs)(hz:xs.length<=sizeLine)
  (hs:∀x (N:V->Hp->Prop) (N':Hp->Prop),x∈xs->N (f x) H->g x σ₀ H λσ2 H2=>tt σ2 H2 λb H3=>if b=true then te σ2 H3 λy H4=>N y H4 else N' H3)
  (hd:R (xs.map f) H):nU (Itl K a) σ₀ g tt te R H:=by
 refine eB (λi ys H'=>H'=H/\ys=(xs.take i).map f) ⟨rfl,by simp⟩ hz (λi ys H' hi ⟨e1,e2⟩=>?_) (λi x ys H' hx ⟨e1,e2⟩=>?_) (λys H' ⟨e1,e2⟩=>?_)
 ·subst e1 e2
  exact⟨hS,by simp;omega⟩
 ·subst e1 e2
  refine hs x (λy H4=>H4=H'/\(xs.take i).map f ++ [y]=(xs.take (i+1)).map f) (λH3=>H3=H'/\(xs.take i).map f=(xs.take (i+1)).map f) (oH hx) ⟨rfl,?_⟩
  rw[Rq9,hx,oA]
  rfl
 ·subst e1 e2
  rw[Qv9]
  exact hd
theorem aIM{lo:Int}{n:Nat}{g:TG}{R:List V->Hp->Prop}(f:Nat->V)(hz:n<=sizeLine)(hs:∀i (N:V->Hp->Prop) (N':Hp->Prop),i < n->N (f i) H->g (.int (lo+i)) σ₀ H λσ2 H2=>tt σ2 H2 λb H3=>if b=true then te σ2 H3 λy H4=>N y H4 else N' H3)(hd:R ((List.range n).map f) H):nU (Itr lo n) σ₀ g tt te R H:=by
 refine aAg (λi ys H'=>H'=H/\ys=(List.range i).map f) ⟨rfl,by simp⟩ hz (λi ys H' hi ⟨e1,e2⟩=>?_) (λi ys H' hi ⟨e1,e2⟩=>?_) (λys H' ⟨e1,e2⟩=>?_)
 ·subst e1 e2
  simp
 ·subst e1 e2
  refine hs i (λy H4=>H4=H'/\(List.range i).map f ++ [y]=(List.range (i+1)).map f) (λH3=>H3=H'/\(List.range i).map f=(List.range (i+1)).map f) hi ⟨rfl,?_⟩
  rw[List.range_succ,oA]
  rfl
 ·subst e1 e2
  exact hd
theorem aOe{X:Cx}{n:Int}(hg:Gl X x)(hm:∃t,X.mg x=some (.int n t))(hd:(x == ("__debug__" : Str))=false:=by decide):PE X (.Name x pos) (tC (.int n)):=by
 obtain⟨t,hm⟩:=hm
 exact aJt (v:=.int n) hg hm ⟨t,rfl⟩ hd
section
variable{X:Cx}{K:W.Frag}{H:Hp}{Q:VK}
def wK(K:W.Frag):List V->Hp->VK->Prop:=λxs H Q=>∃x n,xs=[x]/\aRc K x H n/\Q (.int n) H
theorem dC:fE X (.builtin "len") (wK X.K):=aLw
theorem aOf{xs:List V}(h:bX K H p xs)(q:Q (.int xs.length) H):wK K [.ref p] H Q:=⟨_,_,rfl,.inl ⟨_,h,rfl⟩,q⟩
theorem aOg{xs:List V}(h:jQ K H p xs)(q:Q (.int xs.length) H):wK K [.ref p] H Q:=⟨_,_,rfl,.inr ⟨_,h,rfl⟩,q⟩
def aRB:List V->Hp->VK->Prop:=λxs H Q=>∃i,xs=[.int i]/\Q (.int (if i < 0 then -i else i)) H
theorem aKA:fE X (.builtin "abs") aRB:=aLv
theorem aQA{i:Int}(h:Q (.int (if i < 0 then -i else i)) H):aRB [.int i] H Q:=⟨i,rfl,h⟩
def aRC:List V->Hp->VK->Prop:=λxs H Q=>∃i j,xs=[.int i,.int j]/\Q (.int (if j > i then j else i)) H
theorem iI(hc:X.calm=true):fE X (.builtin "max") aRC:=aKl hc
theorem aQB{i j:Int}(h:Q (.int (max i j)) H):aRC [.int i,.int j] H Q:=⟨i,j,rfl,by
 rw[show(if j > i then j else i)=max i j by split <;> omega];exact h⟩
def aRD:List V->Hp->VK->Prop:=λxs H Q=>∃i j,xs=[.int i,.int j]/\Q (.int (if j < i then j else i)) H
theorem yU(hc:X.calm=true):fE X (.builtin "min") aRD:=aKm hc
theorem aQC{i j:Int}(h:Q (.int (min i j)) H):aRD [.int i,.int j] H Q:=⟨i,j,rfl,by
 rw[show(if j < i then j else i)=min i j by split <;> omega];exact h⟩
def aGj(K:W.Frag):List V->Hp->VK->Prop:=λxs H Q=>∃x c b,xs=[x,c]/\IsI K H x c b/\Q (.bl b) H
theorem mI:fE X (.builtin "isinstance") (aGj X.K):=aLX
theorem aAh{b:Bool}(h1:IsI K H x c b)(h:Q (.bl b) H):aGj K [x,c] H Q:=⟨x,c,b,rfl,h1,h⟩
def aAV(K:W.Frag):List V->Hp->VK->Prop:=λxs H Q=>∃p ys,xs=[.ref p]/\(bX K H p ys\/jQ K H p ys)/\∀l,H l=none->Q (.ref l) (upd H l (.lst ys))
theorem aAi:fE X (.type "list") (aAV X.K):=aGf
theorem aDQ(h1:bX K H p ys)(h:∀l,H l=none->Q (.ref l) (upd H l (.lst ys))):aAV K [.ref p] H Q:=⟨p,ys,rfl,.inl h1,h⟩
end
theorem aOh{K:W.Frag}{H:Hp}{p q:Addr}{xs:List V}(h1:bX K H p xs)(h2:bX K H q []):EqN K H 8 (.ref p) (.ref q) xs.isEmpty:=
 .inr ⟨p,q,xs,[],λ_=>true,rfl,rfl,.inl ⟨h1,h2⟩,λj u v _ e=>by simp at e,by cases xs <;> simp⟩
theorem aL5{xs:List V}{n:Nat}(h:xs.length<=n):sL xs none (some (n:Int))=xs:=by
 unfold sL
 rw[HT.aHs,HT.aJy,Nat.min_eq_right h,List.drop_zero,Nat.sub_zero,Qv9]
end L2
namespace L2
open PySem PySem.Spec PyProof.Rows
section
variable{σ:St}{H:Hp}{nx:St->Hp->Prop}{rt:VK}{g:TG}{tb:TS}{Q:VK}
theorem wM{lo:Int}{n:Nat}(Pv:Nat->St->Hp->Prop)(h0:Pv 0 σ H)
  (hs:∀i σ H,i < n->Pv i σ H->g (.int (lo+i)) σ H λσ2 H2=>tb ⟨Pv (i+1),rt,nx,Pv (i+1)⟩ σ2 H2) (hd:∀σ H,Pv n σ H->nx σ H) :
  ∃W:Nat->Nat->St->Hp->Prop,(∃m,W 0 m σ H)/\∀i m σ H,W i m σ H->
   ((Itr lo n).stop i H/\nx σ H)\/((Itr lo n).go i H/\∃N:St->Hp->Prop,(∀σ' H',N σ' H'->∃m',m' < m/\W (i+1) m' σ' H')/\∀x H',(Itr lo n).yld i H x H'->g x σ H' λσ2 H2=>tb ⟨N,rt,nx,N⟩ σ2 H2):=
 aKk (D:=⟨nx,rt,λ_ _=>False,λ_ _=>False⟩) Pv h0 hs hd
theorem yV{K:W.Frag}{a:Addr}{xs:List V}(Pv:Nat->St->Hp->Prop)(h0:Pv 0 σ H)(hl:∀i σ H,i<=xs.length->Pv i σ H->bX K H a xs)
  (hs:∀i x σ H,xs[i]?=some x->Pv i σ H->g x σ H λσ2 H2=>tb ⟨Pv (i+1),rt,nx,Pv (i+1)⟩ σ2 H2) (hd:∀σ H,Pv xs.length σ H->nx σ H) :
  ∃W:Nat->Nat->St->Hp->Prop,(∃m,W 0 m σ H)/\∀i m σ H,W i m σ H->
   ((Itl K a).stop i H/\nx σ H)\/((Itl K a).go i H/\∃N:St->Hp->Prop,(∀σ' H',N σ' H'->∃m',m' < m/\W (i+1) m' σ' H')/\∀x H',(Itl K a).yld i H x H'->g x σ H' λσ2 H2=>tb ⟨N,rt,nx,N⟩ σ2 H2):=
 aLr (D:=⟨nx,rt,λ_ _=>False,λ_ _=>False⟩) Pv h0 hl hs hd
theorem aQD{K:W.Frag}{a:Addr}{xs:List V}(Pv:Nat->St->Hp->Prop)(h0:Pv 0 σ H)(hl:∀i σ H,i<=xs.length->Pv i σ H->jQ K H a xs)
  (hs:∀i x σ H,xs[i]?=some x->Pv i σ H->g x σ H λσ2 H2=>tb ⟨Pv (i+1),rt,nx,Pv (i+1)⟩ σ2 H2) (hd:∀σ H,Pv xs.length σ H->nx σ H) :
  ∃W:Nat->Nat->St->Hp->Prop,(∃m,W 0 m σ H)/\∀i m σ H,W i m σ H->
   ((Itt K a).stop i H/\nx σ H)\/((Itt K a).go i H/\∃N:St->Hp->Prop,(∀σ' H',N σ' H'->∃m',m' < m/\W (i+1) m' σ' H')/\∀x H',(Itt K a).yld i H x H'->g x σ H' λσ2 H2=>tb ⟨N,rt,nx,N⟩ σ2 H2):=
 aNA (D:=⟨nx,rt,λ_ _=>False,λ_ _=>False⟩) Pv h0 hl hs hd
theorem aQE{K:W.Frag}{i j:Int}(h:Q (.bl (decide (i=j))) H):v5 K (.int i) (.int j) H Q:=⟨_,.inl ⟨rfl,rfl,rfl⟩,h⟩
theorem aQF{K:W.Frag}{i j:Int}(h:Q (.bl (!decide (i=j))) H):aKy K (.int i) (.int j) H Q:=⟨_,.inl ⟨rfl,rfl,rfl⟩,h⟩
end
end L2
namespace L2
open PySem PySem.Spec PyProof.Rows
def noStar:Expr->Bool
 |.Starred _ _=>false
 |_=>true
theorem bN(h:noStar e=true):starEach (e::es) env=(false,eval e env)::starEach es env:=by
 cases e <;> first|rfl|exact absurd h Qq9
theorem kN:∀{es:List Expr},es.all noStar=true->(backTo pos (starEach es env)).any (·.1)=false
 |[],_=>rfl
 |e::es,h=>by
  rw[List.all_cons,Rp9] at h
  rw[bN h.1]
  have ih:=kN (env:=env) (pos:=pos) h.2
  unfold backTo at ih ⊢
  rw[Rd9,Tb9]
  rw[ih]
  rfl
section
variable{X:Cx}{CX:CXT}{k:Nat}{f C:Addr}{fd:FuncData}{ps:List Str}{sp:Sp}{dvs:List V}{ds:List Value}{E:XK}{x m:Str}{p pos apos:Pos}{e o:Expr}{es:List Expr}{ta te:TE}{t:TA}
theorem jG(ha:PE X e te)(hr:PA X es t)(hs:noStar e=true:=by rfl):PA X (e::es) (bF te t):=aNG ha hr (bN hs)
theorem jH{es:List Expr}(h:(e::es).all noStar=true):noStar e=true/\es.all noStar=true:=by
 rw[List.all_cons,Rp9] at h
 exact h
theorem aL6(F:bS X.prog X.w X.K X.mg X.base CX k f fd ps sp)(hr:eN k X.A)(hg:Gl X x)(hm:X.mg x=some (.ref f))(hk:W.keepIn X.K (.ref f)=true)(hb:Binds X.K fd ps ds)(hd:Vals dvs ds)(hx:Passes CX X E)
  (ha:PA X (e::es) t) (hn:(e::es).all noStar=true:=by rfl) (hdb:(x == ("__debug__" : Str))=false:=by decide):PE X (.Call (.Name x p) (e::es) [] pos) (aHp sp dvs E t):=
 aNH F hr hg hm hk hb hd hx ha hdb (bN (jH hn).1) (kN (jH hn).2)
theorem aL7(M:Mk X.K C f)(F:bS X.prog X.w X.K X.mg X.base CX k f fd ps sp)(hr:eN (k+1) X.A)(hg:Gl X x)(hm:X.mg x=some (.ref C))(hb:Binds X.K fd ps ds)(hd:Vals dvs ds)(hx:Passes CX X E)
  (ha:PA X (e::es) t) (hn:(e::es).all noStar=true:=by rfl) (hdb:(x == ("__debug__" : Str))=false:=by decide):PE X (.Call (.Name x p) (e::es) [] pos) (aHq C sp dvs E t):=
 aNJ M F hr hg hm hb hd hx ha hdb (bN (jH hn).1) (kN (jH hn).2)
variable{id T:String}{r:List V->Hp->VK->Prop}
theorem aKB(hc:fE X (.builtin id) r)(hg:Gl X x)(hm:X.mg x=none)(hv:bootBuiltins x=some (.builtin id))(ha:PA X (e::es) t)(hn:(e::es).all noStar=true:=by rfl)(hne:x≠"__name__":=by decide)(hdb:(x == ("__debug__" : Str))=false:=by decide) :
  PE X (.Call (.Name x p) (e::es) [] pos) (tCB r t):=aLC hc hg hm hv ha hne hdb (bN (jH hn).1) (kN (jH hn).2)
theorem aIN(hc:fE X (.type T) r)(hg:Gl X x)(hm:X.mg x=none)(hv:bootBuiltins x=some (.type T))(ha:PA X (e::es) t)(hn:(e::es).all noStar=true:=by rfl)(hne:x≠"__name__":=by decide)(hdb:(x == ("__debug__" : Str))=false:=by decide) :
  PE X (.Call (.Name x p) (e::es) [] pos) (tCB r t):=aKq hc hg hm hv ha hne hdb (bN (jH hn).1) (kN (jH hn).2)
variable{tg a b:Expr}
theorem aIO(hg:Gl X "range")(hm:X.mg "range" = none)(ha:PA X [a] t)(hn:noStar a=true:=by rfl):PI X tg (.Call (.Name "range" p) [a] [] pos) (aJw t):=aKh hg hm ha (bN hn)
theorem aIP(hg:Gl X "range")(hm:X.mg "range" = none)(ha:PA X [a,b] t)(hn:noStar a=true:=by rfl)(hn2:noStar b=true:=by rfl):PI X tg (.Call (.Name "range" p) [a,b] [] pos) (aJx t):=
 aKi hg hm ha (by rw[bN hn,bN hn2];rfl) (bN hn2)
end
end L2
namespace L2
open PySem PySem.Spec PyProof.Rows
section
variable{X:Cx}{pos:Pos}{x1:Nat}{e1 e2 e3 e4 e5 e6 e7 e8:Expr}{t1 t2 t3 t4 t5 t6 t7 t8:TE}
theorem aRW(h1:PE X e1 t1)(n1:noStar e1=true:=by rfl):PE X (.List [e1] pos) (aBL (bF t1 mH)):=aBM (jG h1 pI n1)
theorem aRX{k1}(h1:PE X e1 t1)(n1:noStar e1=true:=by rfl):PE X (.Tuple [e1] k1 pos) (aCK (bF t1 mH)):=aDG (jG h1 pI n1)
theorem aRY(h1:PE X e1 t1)(h2:PE X e2 t2)(n1:noStar e1=true:=by rfl)(n2:noStar e2=true:=by rfl):PE X (.List [e1,e2] pos) (aBL (bF t1 (bF t2 mH))):=aBM (jG h1 (jG h2 pI n2) n1)
theorem aRZ{k1}(h1:PE X e1 t1)(h2:PE X e2 t2)(n1:noStar e1=true:=by rfl)(n2:noStar e2=true:=by rfl):PE X (.Tuple [e1,e2] k1 pos) (aCK (bF t1 (bF t2 mH))):=aDG (jG h1 (jG h2 pI n2) n1)
theorem aR0(h1:PE X e1 t1)(h2:PE X e2 t2)(h3:PE X e3 t3)(n1:noStar e1=true:=by rfl)(n2:noStar e2=true:=by rfl)(n3:noStar e3=true:=by rfl):PE X (.List [e1,e2,e3] pos) (aBL (bF t1 (bF t2 (bF t3 mH)))):=aBM (jG h1 (jG h2 (jG h3 pI n3) n2) n1)
theorem aR1{k1}(h1:PE X e1 t1)(h2:PE X e2 t2)(h3:PE X e3 t3)(n1:noStar e1=true:=by rfl)(n2:noStar e2=true:=by rfl)(n3:noStar e3=true:=by rfl):PE X (.Tuple [e1,e2,e3] k1 pos) (aCK (bF t1 (bF t2 (bF t3 mH)))):=aDG (jG h1 (jG h2 (jG h3 pI n3) n2) n1)
theorem aR2(h1:PE X e1 t1)(h2:PE X e2 t2)(h3:PE X e3 t3)(h4:PE X e4 t4)(n1:noStar e1=true:=by rfl)(n2:noStar e2=true:=by rfl)(n3:noStar e3=true:=by rfl)(n4:noStar e4=true:=by rfl):PE X (.List [e1,e2,e3,e4] pos) (aBL (bF t1 (bF t2 (bF t3 (bF t4 mH))))):=aBM (jG h1 (jG h2 (jG h3 (jG h4 pI n4) n3) n2) n1)
theorem aR3{k1}(h1:PE X e1 t1)(h2:PE X e2 t2)(h3:PE X e3 t3)(h4:PE X e4 t4)(n1:noStar e1=true:=by rfl)(n2:noStar e2=true:=by rfl)(n3:noStar e3=true:=by rfl)(n4:noStar e4=true:=by rfl):PE X (.Tuple [e1,e2,e3,e4] k1 pos) (aCK (bF t1 (bF t2 (bF t3 (bF t4 mH))))):=aDG (jG h1 (jG h2 (jG h3 (jG h4 pI n4) n3) n2) n1)
theorem aR4{k1}(h1:PE X e1 t1)(h2:PE X e2 t2)(h3:PE X e3 t3)(h4:PE X e4 t4)(h5:PE X e5 t5)(n1:noStar e1=true:=by rfl)(n2:noStar e2=true:=by rfl)(n3:noStar e3=true:=by rfl)(n4:noStar e4=true:=by rfl)(n5:noStar e5=true:=by rfl):PE X (.Tuple [e1,e2,e3,e4,e5] k1 pos) (aCK (bF t1 (bF t2 (bF t3 (bF t4 (bF t5 mH)))))):=aDG (jG h1 (jG h2 (jG h3 (jG h4 (jG h5 pI n5) n4) n3) n2) n1)
theorem aR5(h1:PE X e1 t1)(h2:PE X e2 t2)(h3:PE X e3 t3)(h4:PE X e4 t4)(h5:PE X e5 t5)(h6:PE X e6 t6)(h7:PE X e7 t7)(n1:noStar e1=true:=by rfl)(n2:noStar e2=true:=by rfl)(n3:noStar e3=true:=by rfl)(n4:noStar e4=true:=by rfl)(n5:noStar e5=true:=by rfl)(n6:noStar e6=true:=by rfl)(n7:noStar e7=true:=by rfl):PE X (.List [e1,e2,e3,e4,e5,e6,e7] pos) (aBL (bF t1 (bF t2 (bF t3 (bF t4 (bF t5 (bF t6 (bF t7 mH)))))))):=aBM (jG h1 (jG h2 (jG h3 (jG h4 (jG h5 (jG h6 (jG h7 pI n7) n6) n5) n4) n3) n2) n1)
end
end L2
namespace L2
open PySem PySem.Spec PyProof.Rows
section
variable{X:Cx}{pins:List (Addr×Obj)}{σ:St}{H:Hp}{s:Shared}{h':Heap}
theorem Inv.aBQ{t':Nat}{ch:List Addr}{T:Addr}{o:HO}(I:Inv X pins σ H s)(k:∀b u,b∉ch->s.heap.get? b=some u->h'.get? b=some u)
  (hch:∀b∈ch,aAO X pins H b) (hT:s.heap.objs.size<=T) (new:cD X.prog X.w (upd H T o) h' T o):Inv X pins σ (upd H T o) { s with heap:=h',toks:=t' }:=by
 have hn:H T=none:=I.hok.fresh hT
 have nit:∀b u,H b=some u->b∉ch:=λb u e z=>by rw[(hch b z).1] at e;cases e
 have neT:∀b u,H b=some u->b≠T:=λb u e=>bG e hn
 refine I.step (g':=s.gens) (d':=s.drawn) (ch:=ch) (λb hb=>?_) (λb u _ _ hc e _=>k b u hc e) (λb u _ _ hc e _=>⟨u.slots,k b u hc e⟩) (λb u hc e n=>?_)
  (λb u hc e=>⟨u,k b u hc e⟩) (λb xs e=>?_) (λb u v e=>?_) (λb ps e=>⟨#[],?_⟩) (λm hm=>?_) (λb u e=>?_) I.bare
 ·obtain⟨f0,f1,f2,f3,f4,f5⟩:=hch b hb
  exact⟨f3,f1,f4,f5⟩
 ·rw[aW (vP (zF (j0 e) hT))];exact n
 ·rw[aW (neT _ _ e)];exact e
 ·rw[aW (neT _ _ e)];exact e
 ·rw[aW (neT _ _ e),e];simp
 ·obtain⟨u,es,ep,ho,r⟩:=hm
  exact⟨u,es,ep,k _ u (λz=>(hch _ z).2.1 rfl) ho,r⟩
 ·by_cases hb:b=T
  ·subst hb;rw[aP] at e;cases e;exact new
  ·rw[aW hb] at e
   refine(I.hok b u e).aCJ (λc v hc q=>k c v ?_ q) (λc q=>by rw[aW (bG q hn)];exact q) λc xs _ q=>by rw[aW (bG q hn)];exact q
   rcases hc with z|z
   ·rw[z];exact nit b u e
   ·exact nit c _ z
end
def Ite(K:W.Frag)(a:Addr):It:=
 ⟨λi H=>∃xs x,bX K H a xs/\xs[i]?=some x,λi H x H'=>∃T v,H T=none/\x=.ref T/\H'=upd H T (.tup [.int i,v])/\∀xs,bX K H a xs->xs[i]?=some v,λi H=>∃xs,bX K H a xs/\xs.length<=i⟩
theorem aKC{P:Program}{w:World}{K:W.Frag}{elts:List Expr}{x1:Nat}{tp:Pos}(a e it:Addr)(hei:e≠it) :
  Turn P w K (.Tuple elts x1 tp) (Ite K a) [e,it] e (λi h=>(∃old,IsEnum h e it ((i:Nat):Int) old)/\h.IsListIter it a i) where
 mem:=by simp
 obj:=λi h st b hb=>by
  obtain⟨⟨old,he⟩,st⟩:=st
  rcases sZ.mp hb with z|hb
  ·subst z
   exact⟨_,he,λv z=>by cases z⟩
  ·have z:b=it:=by simpa using hb
   subst z
   obtain⟨o,e,c,d⟩:=st
   exact⟨o,e,λv z=>by rw[d] at z;cases z⟩
 keep:=λi h h' st k=>by
  obtain⟨⟨old,he⟩,st⟩:=st
  exact⟨⟨old,k e (by simp) _ he⟩,st.at λo q=>k it (by simp) o q⟩
 item:=by
  intro X hP hw hK hc i pins s σ H E I hf st hg
  subst hP hw hK
  obtain⟨⟨old,he⟩,st⟩:=st
  obtain⟨xs,x,hq,hx⟩:=hg
  obtain⟨its,rv,p,hz⟩:=I.list hq
  obtain⟨u,hu,ru⟩:=rv.get hx
  have helt:e < s.heap.objs.size:=j0 he
  have hilt:it < s.heap.objs.size:=by obtain⟨_,z,_⟩:=id st;exact j0 z
  refine wpAny_pyNext_enum_item he st p.isList (x:=u) (by simpa using hu) hei λh1 ho hit1 hT hsz hk=>?_
  refine⟨_,rfl,wpAny_letOwnedTupleGo_enum ho λh2 he2 hs2=>?_⟩
  replace hs2:Heap.SameBut e h1 h2:=hs2
  have hT2:h2.IsTuple s.heap.objs.size #[.int i s.toks,u]:=⟨_,(hs2.2 _ (Sd9 helt)).trans hT,rfl,_,rfl⟩
  have kk:∀b o,b∉[e,it]->s.heap.get? b=some o->h2.get? b=some o:=λb o hb q=>by
   have n1:b≠e:=λz=>hb (by simp[z])
   have n2:b≠it:=λz=>hb (by simp[z])
   exact(hs2.2 b n1).trans (hk b o n1 n2 q)
  have I2:Inv X pins σ (upd H s.heap.objs.size (.tup [.int i,x])) { s with heap:=h2,toks:=s.toks+1 }:=
   I.aBQ kk hf (eA _) (show cD X.prog X.w _ h2 _ (.tup [.int i,x]) from⟨cK (by simp),[.int i s.toks,u],.cons ⟨_,rfl⟩ (.cons ru .nil),hT2⟩)
  have hfr:H s.heap.objs.size=none:=I.hok.fresh (eA _)
  refine⟨.ref s.heap.objs.size,_,I2,rfl,⟨_,x,hfr,rfl,rfl,λys hy=>by rw[I.aDA hy hq];exact hx⟩,⟨⟨u,?_⟩,?_⟩,λb hb=>?_⟩
  ·have e1:((i+1:Nat):Int)=(i:Int)+1:=by push_cast;rfl
   rw[e1]
   exact he2
  ·exact hit1.at λo q=>(hs2.2 it hei.symm).trans q
  ·have hlt:b < s.heap.objs.size:=by
    rcases sZ.mp hb with z|hb
    ·rw[z];exact helt
    ·rw[show b=it by simpa using hb];exact hilt
   rw[aW (vP hlt)]
   exact(hf b hb).1
 done:=by
  intro X hP hw hK hc i pins s σ H E I hf st hg
  subst hP hw hK
  obtain⟨⟨old,he⟩,st⟩:=st
  obtain⟨xs,hq,hx⟩:=hg
  obtain⟨its,rv,p,hz⟩:=I.list hq
  obtain⟨f0,f1,f2,f3,f4,f5⟩:=hf it (by simp)
  have hl:=rv.length
  exact wpAny_pyNext_enum_end (I.ok.hd hc) he st p.isList (by simp;omega) λh' eb=>⟨rfl,I.turned (t':=s.toks) (λb o hb e=>eb b o hb e) f0 f1 f3 f4 f5⟩
 self:=λ_ _ _ _ _ st h=>by
  obtain⟨⟨old,he⟩,st⟩:=st
  exact wpAny_pyIter_enum he h
section
variable{X:Cx}{elts:List Expr}{x1:Nat}{tp:Pos}
def aL8(K:W.Frag)(ta:TA):TI:=λσ H R=>ta σ H λvs H1=>∃a,vs=[.ref a]/\(∃xs,bX K H1 a xs)/\R (Ite K a) H1
theorem aOi{a:Expr}{ta:TA}{p pos:Pos}(hg:Gl X "enumerate")(hm:X.mg "enumerate" = none)(ha:PA X [a] ta)(hn:noStar a=true:=by rfl):PI X (.Tuple elts x1 tp) (.Call (.Name "enumerate" p) [a] [] pos) (aL8 X.K ta):=by
 intro pins s σ H R I h
 refine Call_ (pH I hg hm boot_enumerate (PyProof.Rows.callWith_type1 (dI (ha pos pins s σ H _ I h) λus s1 ⟨vs,H1,I1,r1,q1⟩=>?_) (bN hn) rfl))
 obtain⟨l,e,⟨xs,hq⟩,q⟩:=q1
 subst e
 obtain⟨u,rfl,ru⟩:=vals1 r1
 cases ru
 obtain⟨its,rv,pl,hz⟩:=I1.list hq
 refine call_enumerate_list pl.isList λh' he hit hsz hk=>?_
 refine wpAny_pyIter_enum he ?_
 refine⟨s1.heap.objs.size+1,[s1.heap.objs.size+1,s1.heap.objs.size],_,_,H1,rfl,I1.kept (t':=s1.toks) hk,aKC l _ _ (Nat.succ_ne_self _),⟨⟨_,he⟩,hit⟩,λb hb=>?_,q⟩
 have hle:s1.heap.objs.size<=b:=by
  rcases sZ.mp hb with z|hb
  ·rw[z];exact Nat.le_succ _
  ·rw[show b=s1.heap.objs.size by simpa using hb];exact eA _
 exact I1.aF8 hle (I1.hok.fresh hle)
end
section
variable{σ:St}{H:Hp}{nx:St->Hp->Prop}{rt:VK}{g:TG}{tb:TS}{Q:VK}{K:W.Frag}
def EnQ(K:W.Frag)(R:It->Hp->Prop):List V->Hp->Prop:=λvs H1=>∃a,vs=[.ref a]/\(∃xs,bX K H1 a xs)/\R (Ite K a) H1
def LiQ(K:W.Frag)(R:It->Hp->Prop):V->Hp->Prop:=λx H1=>∃a,x=.ref a/\(∃xs,bX K H1 a xs)/\R (Itl K a) H1
def TiQ(K:W.Frag)(R:It->Hp->Prop):V->Hp->Prop:=λx H1=>∃a,x=.ref a/\(∃xs,jQ K H1 a xs)/\R (Itt K a) H1
theorem aL9{R:It->Hp->Prop}(h:ta σ H (EnQ K R)):aL8 K ta σ H R:=h
theorem aKD{R:It->Hp->Prop}(h:tl σ H (LiQ K R)):aLq K tl σ H R:=h
theorem aMa{R:It->Hp->Prop}(h:tl σ H (TiQ K R)):aPJ K tl σ H R:=h
theorem aAW{R:It->Hp->Prop}(h1:bX K H a xs)(h:R (Ite K a) H):EnQ K R [.ref a] H:=⟨a,rfl,⟨xs,h1⟩,h⟩
theorem j8{R:It->Hp->Prop}(h1:bX K H a xs)(h:R (Itl K a) H):LiQ K R (.ref a) H:=⟨a,rfl,⟨xs,h1⟩,h⟩
theorem aO4{R:It->Hp->Prop}(h1:jQ K H a xs)(h:R (Itt K a) H):TiQ K R (.ref a) H:=⟨a,rfl,⟨xs,h1⟩,h⟩
theorem oJ{xs:List V}(Pv:Nat->St->Hp->Prop)(h0:Pv 0 σ H)(hl:∀i σ H,i<=xs.length->Pv i σ H->bX K H a xs)(hs:∀i x σ H T,xs[i]?=some x->Pv i σ H->H T=none->g (.ref T) σ (upd H T (.tup [.int i,x])) λσ2 H2=>tb ⟨Pv (i+1),rt,nx,Pv (i+1)⟩ σ2 H2)(hd:∀σ H,Pv xs.length σ H->nx σ H) :
  ∃W:Nat->Nat->St->Hp->Prop,(∃m,W 0 m σ H)/\∀i m σ H,W i m σ H->
   ((Ite K a).stop i H/\nx σ H)\/((Ite K a).go i H/\∃N:St->Hp->Prop,(∀σ' H',N σ' H'->∃m',m' < m/\W (i+1) m' σ' H')/\∀x H',(Ite K a).yld i H x H'->g x σ H' λσ2 H2=>tb ⟨N,rt,nx,N⟩ σ2 H2):=by
 refine⟨λi m σ H=>m=xs.length - i/\i<=xs.length/\Pv i σ H,⟨xs.length,by simp,Rl9 _,h0⟩,?_⟩
 rintro i m σ H ⟨rfl,hi,p⟩
 have q:=hl i σ H hi p
 by_cases hlt:i < xs.length
 ·refine .inr ⟨⟨xs,xs[i],q,by simp[hlt]⟩,Pv (i+1),λσ' H' p'=>⟨xs.length - (i+1),by omega,rfl,hlt,p'⟩,λx H' y=>?_⟩
  obtain⟨T,v,hT,e1,e2,y⟩:=y
  subst e1 e2
  exact hs i v σ H T (y xs q) p hT
 ·have e:i=xs.length:=by omega
  subst e
  exact .inl ⟨⟨xs,q,eA _⟩,hd σ H p⟩
end
section
variable{X:Cx}
theorem aDR:∀{bs:List Bool}{us:List Value},Vals (bs.map V.bl) us->us=bs.map Value.bool
 |[],_,.nil=>rfl
 |b::bs,_,.cons r t=>by cases r;rw[aDR t];rfl
def aMb(K:W.Frag):List V->Hp->VK->Prop:=λxs H Q=>∃(p:Addr) (bs:List Bool),xs=[.ref p]/\bX K H p (bs.map V.bl)/\Q (.bl (bs.all id)) H
theorem aBR(hc:X.calm=true):fE X (.builtin "all") (aMb X.K):=by
 intro pins s σ H xs us Q I r h
 obtain⟨p,bs,rfl,hq,q⟩:=h
 obtain⟨u,rfl,rx⟩:=vals1 r
 cases rx
 obtain⟨its,r',pl,hz⟩:=I.list hq
 have e:=aDR r'
 subst e
 have hl:=pl.isList
 have hlt:p < s.heap.objs.size:=by obtain⟨_,e,_⟩:=id hl;exact j0 e
 refine call_all_walk (wpAny_pyIter_list hl ?_)
 refine⟨s.heap.objs.size,[s.heap.objs.size,p],[s.heap.objs.size],(bs.map Value.bool).toArray.size,_,_,λi=>(bs[i]?).getD true,rfl,Walks.list (A:=X.A.in1) (I.ok.hd hc) _ p (vP hlt) (bs.map Value.bool).toArray,
  ⟨⟨_,tE _ rfl,rfl,rfl⟩,hl.push _⟩,λi v s' Q' E' hP hQ=>?_,λh' tk hk=>?_⟩
 ·have hP':(bs.map Value.bool)[i]?=some v:=by simpa using hP
  rw[pG] at hP'
  cases hb:bs[i]? with
  |none=>rw[hb] at hP';cases hP'
  |some b=>
   rw[hb] at hP'
   cases hP'
   simp only[hb,Option.getD_some] at hQ
   exact wpAny_truthy_bool hQ
 ·have e:((List.range (bs.map Value.bool).toArray.size).all λi=>(bs[i]?).getD true)=bs.all id:=by
   rw[mF,bL];exact LSm.range_all bs
  rw[e]
  exact⟨.bl _,H,I.kept (t':=tk) (LSm.kept_iter hk),rfl,q⟩
end
section
variable{X:Cx}{e st:Expr}{te:TE}{ts:TO}{pos p2:Pos}
end
section
variable{X:Cx}{o e:Expr}{to:TE}{t:TA}{apos cpos:Pos}
theorem aQG(ho:PE X o to)(ha:PA X [e] t)(hn:noStar e=true:=by rfl)(hbase:attributeBase o "append" X.env (eval o X.env)=eval o X.env:=by rfl)(hline:(apos.endLine == cpos.line)=true:=by rfl) :
  PE X (.Call (.Attribute o "append" apos) [e] [] cpos) (tBM X.K "list" aDr to t):=
 aOZ PySem.F.plainAttrs_list PySem.F.slot_list_append PySem.F.type_list_append aKr ho ha hbase (by rw[bN hn];rfl) hline (bN hn) (by rfl)
end
section
variable{K:W.Frag}{σ:St}{H:Hp}{Q:VK}
theorem aRE{r:V->List V->Hp->VK->Prop}{t:TA}(h:to σ H λx H1=>tyV K T x H1/\t σ H1 λxs H2=>r x xs H2 Q):tBM K T r to t σ H Q:=h
theorem uO{P:Prop}(h:bX K H p xs)(q:P):tyV K "list" (.ref p) H/\P:=⟨.inl ⟨rfl,xs,h⟩,q⟩
theorem aAj{xs:List V}(h:H l=some (.lst xs))(hz:xs.length < sizeLine)(q:Q .non (upd H l (.lst (xs ++ [y])))):aDr (.ref l) [y] H Q:=⟨l,xs,y,rfl,rfl,h,hz,q⟩
theorem aQH{x:V}{p:Addr}{xs:List V}(h:bX K H p xs)(f1:j7 x=true)(f2:xs.all j7=true)(q:Q (.bl (!inV x xs)) H):rIn K true x (.ref p) H Q:=⟨p,xs,rfl,.inl h,f1,f2,q⟩
end
end L2
namespace L2
open PySem PySem.Spec PyProof.Rows
section
variable{K:W.Frag}{σ:St}{H:Hp}{Q:VK}{nx bk ct:St->Hp->Prop}{rt:VK}
theorem aRF{A B:Prop}(h:B):if (!true)=true then A else B:=aQa h
theorem aRG{A B:Prop}(h:A):if (!false)=true then A else B:=aQb h
theorem aOj{sp:Sp}(h:t σ H λvs H1=>∀x dx,H1 x=none->H1 dx=none->dx≠x->sp (.ref x::vs) (upd (upd H1 dx (.own x)) x (.ins C dx [])) (λv H2=>v=.non/\Q (.ref x) H2) E):aHq C sp [] E t σ H Q:=by
 unfold aHq
 simpa only [Rt9] using h
theorem aOk{t:TA}(h:ta σ H λx H1=>∃a dx fs,x=.ref a/\H1 a=some (.ins C dx fs)/\fs.lookup m=none/\t σ H1 λvs H2=>sp (x::vs) H2 Q E):aFy C m sp [] E ta t σ H Q:=by
 unfold aFy
 simpa only [Rt9] using h
theorem aOl(h:tv σ H λy H1=>ta σ H1 λx H2=>∃a C dx fs,x=.ref a/\H2 a=some (.ins C dx fs)/\Cls K C/\cX K C f/\fs.length < 1000/\nx σ (upd H2 a (.ins C dx (uK f y fs)))):aPR K ta tv f ⟨nx,rt,bk,ct⟩ σ H:=h
theorem sM{fs:List (Str×V)}{P:Hp->Prop}(h1:H a=some (.ins C dx fs))(c:Cls K C)(n:cX K C f)(hl:fs.length < 1000)(e:uK f y fs=fs')(h:P (upd H a (.ins C dx fs'))) :
  ∃a' C dx fs,V.ref a=V.ref a'/\H a'=some (.ins C dx fs)/\Cls K C/\cX K C f/\fs.length < 1000/\P (upd H a' (.ins C dx (uK f y fs))):=⟨a,C,dx,fs,rfl,h1,c,n,hl,by rw[e];exact h⟩
theorem bZ{fs:List (Str×V)}{P:V->Prop}(h1:H a=some (.ins C dx fs))(c:Cls K C)(n:cX K C f)(l:fs.lookup f=some v)(h:P v) :
  ∃a' C dx fs v,V.ref a=V.ref a'/\H a'=some (.ins C dx fs)/\Cls K C/\cX K C f/\fs.lookup f=some v/\P v:=⟨a,C,dx,fs,v,rfl,h1,c,n,l,h⟩
theorem aHF:∀{xs:List V},(∀x∈xs,x=.bl true)->xs=(List.replicate xs.length true).map V.bl
 |[],_=>rfl
 |x::xs,h=>by
  rw[Qx9,Sg9,Rd9,<-aHF (λy hy=>h y (zE _ hy)),h x (Qr9 ..)]
theorem aGk(h1:bX K H p xs)(h2:∀x∈xs,x=.bl true)(h:Q (.bl true) H):aMb K [.ref p] H Q:=by
 refine⟨p,List.replicate xs.length true,rfl,?_,?_⟩
 ·rw[<-aHF h2];exact h1
 ·rw[show(List.replicate xs.length true).all id=true by simp];exact h
end
end L2
namespace L2
open PySem PySem.Spec PyProof.Rows
section
variable{X:Cx}{pins:List (Addr×Obj)}{σ:St}{H:Hp}{s:Shared}{A:Around}{E:Value->Shared->Prop}{Q:Value->Shared->Prop}{b:Bool}
end
section
variable{X:Cx}{K:W.Frag}{H:Hp}{Q:VK}
def isB:V->V->Option Bool
 |.non,.non=>some true
 |.bl a,.bl b=>some (a == b)
 |.bl _,.non=>some false
 |.int _,.non=>some false
 |.str _,.non=>some false
 |.ref _,.non=>some false
 |_,_=>none
def rIs:R2:=λx y H Q=>∃b,isB x y=some b/\Q (.bl b) H
def aMc:R2:=λx y H Q=>∃b,isB x y=some b/\Q (.bl (!b)) H
theorem aGl:v9 X (compareOp .Is) rIs:=by
 intro pins s σ H x y v u Q I rx ry h
 obtain⟨b,e,q⟩:=h
 have fin:EP X pins σ Q (.bool b) s:=⟨.bl b,H,I,rfl,q⟩
 cases x with
 |non=>cases y with
  |non=>cases e;cases rx;cases ry;exact is_none_gen fin
  |_=>cases e
 |bl a=>cases y with
  |bl c=>cases e;cases rx;cases ry;exact is_bool fin
  |non=>cases e;cases rx;cases ry;exact is_none_gen fin
  |_=>cases e
 |int i=>cases y with
  |non=>cases e;obtain⟨t,rfl⟩:=rx;cases ry;exact is_none_gen fin
  |_=>cases e
 |str i=>cases y with
  |non=>cases e;obtain⟨t,rfl⟩:=rx;cases ry;exact is_none_gen fin
  |_=>cases e
 |ref i=>cases y with
  |non=>cases e;cases rx;cases ry;exact is_none_gen fin
  |_=>cases e
 |_=>cases y <;> cases e
theorem aBS:v9 X (compareOp .IsNot) aMc:=by
 intro pins s σ H x y v u Q I rx ry h
 obtain⟨b,e,q⟩:=h
 have fin:EP X pins σ Q (.bool (!b)) s:=⟨.bl (!b),H,I,rfl,q⟩
 cases x with
 |non=>cases y with
  |non=>cases e;cases rx;cases ry;exact isnot_none_gen fin
  |_=>cases e
 |bl a=>cases y with
  |bl c=>cases e;cases rx;cases ry;exact isnot_bool fin
  |non=>cases e;cases rx;cases ry;exact isnot_none_gen fin
  |_=>cases e
 |int i=>cases y with
  |non=>cases e;obtain⟨t,rfl⟩:=rx;cases ry;exact isnot_none_gen fin
  |_=>cases e
 |str i=>cases y with
  |non=>cases e;obtain⟨t,rfl⟩:=rx;cases ry;exact isnot_none_gen fin
  |_=>cases e
 |ref i=>cases y with
  |non=>cases e;cases rx;cases ry;exact isnot_none_gen fin
  |_=>cases e
 |_=>cases y <;> cases e
theorem aRH{b:Bool}(e:isB x y=some b)(h:Q (.bl b) H):rIs x y H Q:=⟨b,e,h⟩
theorem aMd{b:Bool}(e:isB x y=some b)(h:Q (.bl (!b)) H):aMc x y H Q:=⟨b,e,h⟩
end
end L2
namespace L2
open PySem PySem.Spec PyProof.Rows
section
variable{X:Cx}
def aAX(K:W.Frag):List V->Hp->VK->Prop:=λxs H Q=>∃(p:Addr) (ns:List Int),xs=[.ref p]/\bX K H p (ns.map V.int)/\Q (.int (List.sum ns)) H
theorem eC(hc:X.calm=true):fE X (.builtin "sum") (aAX X.K):=by
 intro pins s σ H xs us Q I r h
 obtain⟨p,ns,rfl,hq,q⟩:=h
 obtain⟨u,rfl,rx⟩:=vals1 r
 cases rx
 obtain⟨its,r',pl,hz⟩:=I.list hq
 have hi:=intsAre_of r'
 obtain⟨xs,hx⟩:=hi.allInts.items
 have hl':s.heap.IsList p (intItems xs):=hx▸pl.isList
 refine sum_intListG (I.ok.hd hc) hl' λh' tk t' hk=>?_
 have e1:ns=xs.toList.map (·.1):=by
  rw[<-nums_intItems,<-hx]
  exact(show numsOf its.toArray.toList=ns from hi.numsOf).symm
 have e2:preSum (numAt xs) xs.size=ns.sum:=by
  rw[preSum_eq,Rw9 (by simp),e1]
 rw[e2]
 exact⟨.int _,H,I.kept (t':=tk) hk,⟨t',rfl⟩,q⟩
theorem nV{K:W.Frag}{H:Hp}{Q:VK}{p:Addr}{ns:List Int}(h1:bX K H p (ns.map V.int))(h:Q (.int (List.sum ns)) H):aAX K [.ref p] H Q:=⟨p,ns,rfl,h1,h⟩
end
end L2
namespace L2
open PySem PySem.Spec PyProof.Rows
section
variable{prog:Program}{w:World}{A:Around}{E:Value->Shared->Prop}
end
section
variable{X:Cx}{pos:Pos}
end
end L2
namespace L2
open PySem PySem.Spec PyProof.Rows
section
variable{X:Cx}
def aQI:List V->Hp->VK->Prop:=λxs H Q=>∃i j:Int,xs=[.int i,.int j]/\∀p,H p=none->Q (.ref p) (upd H p (.rng i j))
theorem aKE:fE X (.type "range") aQI:=by
 intro pins s σ H xs us Q I r h
 obtain⟨i,j,rfl,q⟩:=h
 obtain⟨u,w',rfl,rx,ry⟩:=vals2 r
 obtain⟨t,rfl⟩:=rx
 obtain⟨t',rfl⟩:=ry
 refine call_range_2 ?_
 exact⟨.ref s.heap.objs.size,_,I.laid (t':=s.toks+1) (o:=.rng i j) (λb ob q=>fH _ q) (eA _) ⟨_,_,_,tE _ rfl⟩,rfl,q _ (I.hok.fresh (eA _))⟩
theorem aQJ{H:Hp}{Q:VK}{i j:Int}(h:∀p,H p=none->Q (.ref p) (upd H p (.rng i j))):aQI [.int i,.int j] H Q:=⟨i,j,rfl,h⟩
def upL(lo:Int)(n:Nat):List Int:=(List.range n).map λ(k:Nat)=>lo+(k:Int)
def aIQ:List V->Hp->VK->Prop:=λxs H Q=>∃(p:Addr) (lo hi:Int),xs=[.ref p]/\H p=some (.rng lo hi)/\-(2 ^ 62)<=lo/\lo < 2 ^ 62/\-(2 ^ 62)<=hi/\hi < 2 ^ 62/\(hi - lo).toNat<=2 ^ 24/\
 ∀l,H l=none->Q (.ref l) (upd H l (.lst ((upL lo (hi - lo).toNat).map V.int)))
theorem aIR{a:Int}:∀(n:Nat) (its:List Value),its.length=n->(∀(i:Nat) v,its[i]?=some v->∃t,v=Value.int (a+(i:Int)) t)->Vals ((upL a n).map V.int) its:=by
 intro n
 induction n generalizing a with
 |zero=>
  intro its hl _
  rw[List.length_eq_zero_iff.mp hl]
  exact .nil
 |succ n ih=>
  intro its hl h
  cases its with
  |nil=>cases hl
  |cons v its=>
   have e:upL a (n+1)=a::upL (a+1) n:=by
    unfold upL
    rw[List.range_succ_eq_map,Rd9,Ru9]
    congr 1
    ·simp
    ·apply Sv9
     intro k _
     show a+((k+1:Nat):Int)=a+1+(k:Int)
     push_cast;omega
   rw[e,Rd9]
   obtain⟨t,ht⟩:=h 0 v rfl
   refine .cons ⟨t,by rw[ht];simp⟩ (ih its (by simpa using hl) λi w hw=>?_)
   obtain⟨t',ht'⟩:=h (i+1) w (by simpa using hw)
   exact⟨t',by rw[ht'];congr 1;push_cast;omega⟩
theorem aIS(hc:X.calm=true):fE X (.type "list") aIQ:=by
 intro pins s σ H xs us Q I r h
 obtain⟨p,lo,hi,rfl,hp,b1,b2,b3,b4,hz,q⟩:=h
 obtain⟨u,rfl,rx⟩:=vals1 r
 cases rx
 obtain⟨t,t',t'',hr⟩:=(show cD X.prog X.w H s.heap p (.rng lo hi) from I.hok p _ hp)
 refine call_list_range (n:=(hi - lo).toNat) (I.ok.hd hc) hr (small_one b1 b2 b3 b4) (by rw[rangeSize_one];split <;> omega) hz λh' tk acc' c' hk hS ha=>?_
 have hv:Vals ((upL lo (hi - lo).toNat).map V.int) acc'.toList:=aIR _ _ (by simpa using ha.1) λi v hv=>by
  obtain⟨t,ht⟩:=ha.2 i v (by simpa using hv)
  exact⟨t,by rw[ht,Int.mul_one]⟩
 have hl:((upL lo (hi - lo).toNat).map V.int).length<=sizeLine:=by
  unfold upL
  rw[bL,bL,List.length_range]
  exact cK hz
 exact⟨.ref s.heap.objs.size,_,I.laid (t':=tk) (o:=.lst ((upL lo (hi - lo).toNat).map V.int)) hk (eA _) ⟨hl,acc'.toList,c',hv,hS⟩,rfl,q _ (I.hok.fresh (eA _))⟩
theorem aMe{H:Hp}{Q:VK}{lo hi:Int}(hp:H p=some (.rng lo hi))(h1:-(2 ^ 62)<=lo/\lo < 2 ^ 62/\-(2 ^ 62)<=hi/\hi < 2 ^ 62)(hz:(hi - lo).toNat<=2 ^ 24)(h:∀l,H l=none->Q (.ref l) (upd H l (.lst ((upL lo (hi - lo).toNat).map V.int)))):aIQ [.ref p] H Q:=
 ⟨p,lo,hi,rfl,hp,h1.1,h1.2.1,h1.2.2.1,h1.2.2.2,hz,h⟩
end
section
variable{X:Cx}{pins:List (Addr×Obj)}{σ:St}{H:Hp}{s:Shared}{h':Heap}
theorem Inv.aKF{t':Nat}{ch:List Addr}(I:Inv X pins σ H s)(k:∀b u,b∉ch->s.heap.get? b=some u->h'.get? b=some u)
  (hch:∀b∈ch,aAO X pins H b):Inv X pins σ H { s with heap:=h',toks:=t' }:=by
 have nit:∀b u,H b=some u->b∉ch:=λb u e z=>by rw[(hch b z).1] at e;cases e
 refine I.step (g':=s.gens) (d':=s.drawn) (ch:=ch) (λb hb=>?_) (λb u _ _ hc e _=>k b u hc e) (λb u _ _ hc e _=>⟨u.slots,k b u hc e⟩) (λb u hc e n=>n)
  (λb u hc e=>⟨u,k b u hc e⟩) (λb xs e=>e) (λb u v e=>e) (λb ps e=>⟨#[],by rw[e];simp⟩) (λm hm=>?_) (λb u e=>?_) I.bare
 ·obtain⟨f0,f1,f2,f3,f4,f5⟩:=hch b hb
  exact⟨f3,f1,f4,f5⟩
 ·obtain⟨u,es,ep,ho,r⟩:=hm
  exact⟨u,es,ep,k _ u (λz=>(hch _ z).2.1 rfl) ho,r⟩
 ·refine(I.hok b u e).aCJ (λc v hc q=>k c v ?_ q) (λc q=>q) λc xs _ q=>q
  rcases hc with z|z
  ·rw[z];exact nit b u e
  ·exact nit c _ z
end
section
variable{X:Cx}{elts:List Expr}{x1:Nat}{tp:Pos}
theorem aMf:bootBuiltins "zip" = some (.type "zip"):=by decide +kernel
end
section
variable{σ:St}{H:Hp}{nx:St->Hp->Prop}{rt:VK}{g:TG}{tb:TS}{Q:VK}{K:W.Frag}
end
end L2
namespace L2
open PySem PySem.Spec PyProof.Rows
section
variable{X:Cx}{e:Expr}{te:TE}
end
end L2
namespace L2.Z
open PySem PySem.Spec PyProof.Rows L2
structure QE(X:Cx)(e:Expr)(t:TE):Prop where
 h:PE X e t
structure QT(X:Cx)(e:Expr)(t:TT):Prop where
 h:PT X e t
structure QW(X:Cx)(e:Expr)(t:TT):Prop where
 h:PW X e t
structure QA(X:Cx)(es:List Expr)(t:TA):Prop where
 h:PA X es t
structure QS(X:Cx)(st:Stmt)(t:TS):Prop where
 h:PS X st t
structure QSs(X:Cx)(st:List Stmt)(t:TS):Prop where
 h:PSs X st t
structure QG(X:Cx)(tg:Expr)(g:TG):Prop where
 h:PG X tg g
structure QGs(X:Cx)(tg:List Expr)(g:TGs):Prop where
 h:PGs X tg g
structure QI(X:Cx)(tg it:Expr)(w:TI):Prop where
 h:PI X tg it w
structure QTs(X:Cx)(ifs:List Expr)(t:TT):Prop where
 h:PTs X ifs t
structure QO(X:Cx)(o:Option Expr)(t:TO):Prop where
 h:PO X o t
section
variable{X:Cx}{CX:CXT}{k:Nat}{f C:Addr}{fd:FuncData}{ps:List Str}{sp:Sp}{dvs:List V}{ds:List Value}{E:XK}{x m:Str}{p pos apos p2 spos:Pos}{a b c e o:Expr}{es rest:List Expr}{ta tb tc te to ti:TE}{t:TA}{tA tB tt:TT}{id T:String}{r r':R2}{rc:List V->Hp->VK->Prop}{st:Stmt}{sts sts2:List Stmt}{ts us:TS}{g:TG}{gs:TGs}{wi:TI}{tg iter:Expr}
theorem kO{e:Expr}{t:TT}(q:QW X e t):QT X e t:=⟨q.h.pt⟩
theorem pv(i:Nat)(hN:X.N[i]?=some x:=by rfl)(hv:Vis X.env.scope x:=by first|exact Or.inl rfl|exact Or.inr (Or.inl rfl)|exact Or.inr (Or.inr rfl))(hd:(x == ("__debug__" : Str))=false:=by decide)
  (hcd:(x == ("__classdict__" : Str))=false:=by decide):QE X (.Name x pos) (aPk i):=⟨aLc hN hv hd hcd⟩
theorem aD{i j}:QE X (.Constant (.int i) j pos) (tC (.int i)):=⟨L2.aPl⟩
theorem pJ{b j}:QE X (.Constant (.bool b) j pos) (tC (.bl b)):=⟨L2.aQ5⟩
theorem eE{j}:QE X (.Constant .none j pos) (tC .non):=⟨L2.aPm⟩
theorem yW{x j}:QE X (.Constant (.str x) j pos) (tC (.str x)):=⟨L2.aPn⟩
theorem aDS{v:V}{u:Value}(hg:Gl X x)(hm:X.mg x=some u)(r:RelV v u)(hd:(x == ("__debug__" : Str))=false:=by decide):QE X (.Name x pos) (tC v):=⟨L2.aJt hg hm r hd⟩
theorem aAk{n:Int}(hg:Gl X x)(hm:∃t,X.mg x=some (.int n t))(hd:(x == ("__debug__" : Str))=false:=by decide):QE X (.Name x pos) (tC (.int n)):=⟨L2.aOe hg hm hd⟩
theorem pK{v:V}{u:Value}(hg:Gl X x)(hm:X.mg x=none)(hv:bootBuiltins x=some u)(r:RelV v u)(hn:x≠"__name__":=by decide)(hd:(x == ("__debug__" : Str))=false:=by decide):QE X (.Name x pos) (tC v):=⟨L2.aNp hg hm hv r hn hd⟩
theorem aO{op:Operator}(ho:v9 X (binaryOp op) r)(ha:QE X a ta)(hb:QE X b tb):QE X (.BinOp a op b pos) (tOp r ta tb):=⟨L2.aQ9 ho ha.h hb.h⟩
theorem wN{op:UnaryOp}{ru:V->Hp->VK->Prop}(ho:UnR X (unaryOp op) ru)(ha:QE X a ta):QE X (.UnaryOp op a pos) (tUn ru ta):=⟨L2.aRa ho ha.h⟩
theorem aKG(ha:QE X a ta):QE X (.UnaryOp .Not a pos) (aLe ta):=⟨L2.aPx ha.h⟩
theorem pE{op}(h:QE X a ta):QE X (.BoolOp op [a] pos) ta:=⟨L2.aPv h.h⟩
theorem tG(ha:QE X a ta)(hb:QE X (.BoolOp .And (b::rest) pos) tb):QE X (.BoolOp .And (a::b::rest) pos) (aLd ta tb):=⟨L2.aPw ha.h hb.h⟩
theorem aHG(ha:QE X a ta)(hb:QE X (.BoolOp .Or (b::rest) pos) tb):QE X (.BoolOp .Or (a::b::rest) pos) (aPu ta tb):=⟨L2.aQ7 ha.h hb.h⟩
theorem qO(hc:QT X c tA)(ha:QE X a ta)(hb:QE X b tb):QE X (.IfExp c a b pos) (tIf tA ta tb):=⟨L2.aLf hc.h ha.h hb.h⟩
theorem mJ{op:CmpOp}(ho:v9 X (compareOp op) r)(ha:QE X a ta)(hb:QE X b tb)(hm:behindInMarks op b=false):QE X (.Compare a [op] [b] pos) (tOp r ta tb):=⟨L2.aNC ho ha.h hb.h hm⟩
theorem bA{op:CmpOp}(ho:v9 X (compareOp op) r)(ha:QE X a ta)(hb:QE X b tb)(hm:behindInMarks op b=false):QT X (.Compare a [op] [b] pos) (aLt (tOp r ta tb)):=⟨L2.aND ho ha.h hb.h hm⟩
theorem wO{op op':CmpOp}(ho:v9 X (compareOp op) r)(ho':v9 X (compareOp op') r')(ha:QE X a ta)(hb:QE X b tb)(hc:QE X c tc)(hm:lastMarks [op,op'] [b,c]=false:=by with_unfolding_all rfl):QE X (.Compare a [op,op'] [b,c] pos) (aIy r r' ta tb tc):=⟨L2.aLu ho ho' ha.h hb.h hc.h hm⟩
theorem eF(h:QE X e te)(he:∀whole,isTrue e X.env whole=(do let v <-whole;standAt e.pos;holding [v] (truthy v)):=by intro _;rfl):QT X e (L2.tB te):=⟨L2.aPo h.h he⟩
theorem gM(ha:QT X a tA):QT X (.UnaryOp .Not a pos) (aPq tA):=⟨L2.aPt ha.h⟩
theorem uP(ha:QT X a tA):QW X (.BoolOp .And [a] pos) tA:=⟨L2.aNq ha.h⟩
theorem tH(ha:QT X a tA):QW X (.BoolOp .Or [a] pos) tA:=⟨L2.aPr ha.h⟩
theorem yX(ha:QT X a tA)(hb:QW X (.BoolOp .And (b::rest) pos) tB):QW X (.BoolOp .And (a::b::rest) pos) (aPp tA tB):=⟨L2.aPs ha.h hb.h⟩
theorem wQ(ha:QT X a tA)(hb:QW X (.BoolOp .Or (b::rest) pos) tB):QW X (.BoolOp .Or (a::b::rest) pos) (tOr tA tB):=⟨L2.aQ6 ha.h hb.h⟩
theorem aC:QA X [] mH:=⟨L2.pI⟩
theorem aA(ha:QE X e te)(hr:QA X es t)(hs:noStar e=true:=by rfl):QA X (e::es) (bF te t):=⟨L2.jG ha.h hr.h hs⟩
theorem aH(F:bS X.prog X.w X.K X.mg X.base CX k f fd ps sp)(hr:eN k X.A)(hg:Gl X x)(hm:X.mg x=some (.ref f))(hk:W.keepIn X.K (.ref f)=true)(hb:Binds X.K fd ps ds)(hd:Vals dvs ds)(hx:Passes CX X E)
  (ha:QA X (e::es) t) (hn:(e::es).all noStar=true:=by rfl) (hdb:(x == ("__debug__" : Str))=false:=by decide):QE X (.Call (.Name x p) (e::es) [] pos) (aHp sp dvs E t):=⟨L2.aL6 F hr hg hm hk hb hd hx ha.h hn hdb⟩
theorem aCe(M:Mk X.K C f)(F:bS X.prog X.w X.K X.mg X.base CX k f fd ps sp)(hr:eN (k+1) X.A)(hg:Gl X x)(hm:X.mg x=some (.ref C))(hb:Binds X.K fd ps ds)(hd:Vals dvs ds)(hx:Passes CX X E)
  (ha:QA X (e::es) t) (hn:(e::es).all noStar=true:=by rfl) (hdb:(x == ("__debug__" : Str))=false:=by decide):QE X (.Call (.Name x p) (e::es) [] pos) (aHq C sp dvs E t):=⟨L2.aL7 M F hr hg hm hb hd hx ha.h hn hdb⟩
theorem aL(hc:fE X (.builtin id) rc)(hg:Gl X x)(hm:X.mg x=none)(hv:bootBuiltins x=some (.builtin id))(ha:QA X (e::es) t)(hn:(e::es).all noStar=true:=by rfl)(hne:x≠"__name__":=by decide)(hdb:(x == ("__debug__" : Str))=false:=by decide) :
  QE X (.Call (.Name x p) (e::es) [] pos) (tCB rc t):=⟨L2.aKB hc hg hm hv ha.h hn hne hdb⟩
theorem cZ(hc:fE X (.type T) rc)(hg:Gl X x)(hm:X.mg x=none)(hv:bootBuiltins x=some (.type T))(ha:QA X (e::es) t)(hn:(e::es).all noStar=true:=by rfl)(hne:x≠"__name__":=by decide)(hdb:(x == ("__debug__" : Str))=false:=by decide) :
  QE X (.Call (.Name x p) (e::es) [] pos) (tCB rc t):=⟨L2.aIN hc hg hm hv ha.h hn hne hdb⟩
theorem aAl:QO X none aGa:=⟨L2.aNK⟩
theorem aAm(h:QE X e te):QO X (some e) (aLE te):=⟨L2.aNL h.h⟩
theorem wR{rs:V->Option Int->Option Int->Hp->VK->Prop}{lo hi:Option Expr}{tl th:TO}(hr:SlR X rs)(he:QE X e te)(hl:QO X lo tl)(hu:QO X hi th):QE X (.Subscript e (.Slice lo hi none p2) pos) (tSl rs te tl th):=⟨L2.aLF hr he.h hl.h hu.h⟩
theorem tI(h:QA X es t):QE X (.List es pos) (aBL t):=⟨L2.aBM h.h⟩
theorem eW(hg:Gl X "range")(hm:X.mg "range" = none)(ha:QA X [a] t)(hn:noStar a=true:=by rfl):QI X tg (.Call (.Name "range" p) [a] [] pos) (aJw t):=⟨L2.aIO hg hm ha.h hn⟩
theorem aEY(hg:Gl X "range")(hm:X.mg "range" = none)(ha:QA X [a,b] t)(hn:noStar a=true:=by rfl)(hn2:noStar b=true:=by rfl):QI X tg (.Call (.Name "range" p) [a,b] [] pos) (aJx t):=⟨L2.aIP hg hm ha.h hn hn2⟩
theorem aI{i:Nat}(hN:X.N.Nodup)(hi:X.N[i]?=some x:=by rfl)(hx:Loc X.env.scope x:=by exact Or.inl rfl)(hf:X.fn x=true\/X.env.scope.names.lookup x=some .local:=by first|exact .inl rfl|exact .inr rfl|assumption):QG X (.Name x pos) (wB i):=⟨L2.aNu hN hi hx hf⟩
theorem bH:QGs X [] aNv:=⟨L2.aNw⟩
theorem aM{e:Expr}{es:List Expr}{t:TG}{u:TGs}(h1:QG X e t)(h2:QGs X es u)(hs:(assignEach (e::es) X.env).map (·.2)=assign e X.env::(assignEach es X.env).map (·.2):=by rfl):QGs X (e::es) (aJu t u):=⟨L2.aLn h1.h h2.h hs⟩
theorem aKH{i:Expr}{tset:aIu}(ho:QE X o to)(hi:QE X i ti)(hs:aLm X tset)
  (ha:∀v,assign (.Subscript o i pos) X.env v=(do
   let ov <-holding [v] (eval o X.env)
   let iv <-holding [v,ov] (eval i X.env)
   standAt pos
   holding [v,ov,iv] (setItem ov iv v)
   release [v,ov,iv] []):=by intro _;rfl):QG X (.Subscript o i pos) (aPC to ti tset):=⟨L2.aPD ho.h hi.h hs ha⟩
theorem bT:QTs X [] aQc:=⟨L2.aNS⟩
theorem mK(h:QT X c tt):QTs X [c] tt:=⟨L2.aNT h.h⟩
theorem aY{D:Ends}{σ:St}{H:Hp}(q:QSs X sts ts)(h:ts D σ H):∃t,PSs X sts t/\t D σ H:=⟨ts,q.h,h⟩
theorem imp{ts':TS}(q:QSs X sts ts)(h:∀D σ H,ts' D σ H->ts D σ H):QSs X sts ts':=⟨λpins s σ H D I z=>q.h pins s σ H D I (h D σ H z)⟩
theorem bD:QSs X [] aLg:=⟨L2.aNr⟩
theorem aE(h1:QS X st ts)(h2:QSs X sts us):QSs X (st::sts) (aLh ts us):=⟨L2.aLi h1.h h2.h⟩
theorem aG(h1:QS X st ts):QSs X [st] ts:=⟨L2.aNs h1.h⟩
theorem qP:QS X st aLk:=⟨L2.aLl⟩
theorem hX(he:QE X e te)(hs:swapsWith e none pos.line X.env=pure false:=by rfl):QS X (.Expr e pos) (aLj te):=⟨L2.aNt he.h hs⟩
theorem aN(he:QE X e te):QS X (.Return (some e) pos) (aPy te):=⟨L2.aPz he.h⟩
theorem bV(hc:QT X c tt)(ha:QSs X sts ts)(hb:QSs X sts2 us):QS X (.If c sts sts2 pos) (aPA tt ts us):=⟨L2.aQ8 hc.h ha.h hb.h⟩
theorem mL{i:Nat}{pos':Pos}(hN:X.N.Nodup)(hi:X.N[i]?=some x)(hx:Loc X.env.scope x)(he:QE X e te)(hs:swapsWith e (some (.Name x pos')) pos.line X.env=pure false:=by rfl)(hf:X.fn x=true\/X.env.scope.names.lookup x=some .local:=by first|exact .inl rfl|exact .inr rfl|assumption) :
  QS X (.Assign [.Name x pos'] e pos) (aHn te (wB i)):=⟨L2.aPF hN hi hx he.h hs hf⟩
theorem aK{i:Nat}{pos':Pos}(hN:X.N.Nodup)(he:QE X e te)(hi:X.N[i]?=some x:=by rfl)(hx:Loc X.env.scope x:=by exact Or.inl rfl)(hs:swapsWith e (some (.Name x pos')) pos.line X.env=pure false:=by rfl)(hf:X.fn x=true\/X.env.scope.names.lookup x=some .local:=by first|exact .inl rfl|exact .inr rfl|assumption) :
  QS X (.Assign [.Name x pos'] e pos) (aHn te (wB i)):=mL hN hi hx he hs hf
theorem aKI(he:QE X e te)(hg:QG X tg g)(hs:swapsWithSole [tg] e pos.line X.env=pure false:=by rfl)(hw:swappedStores [tg] e X.env=pure none:=by rfl)
  (h1:(assignEach [tg] X.env).map (·.2)=[assign tg X.env]:=by rfl):QS X (.Assign [tg] e pos) (aHn te g):=⟨L2.aPE he.h hg.h hs hw h1⟩
theorem tJ{i:Nat}{op:Operator}{tip:TIp}{pos':Pos}(hN:X.N.Nodup)(hi:X.N[i]?=some x)(hx:Loc X.env.scope x)(he:QE X e te)(ho:PIp X op tip)(hf:X.fn x=true\/X.env.scope.names.lookup x=some .local:=by first|exact .inl rfl|exact .inr rfl|assumption) :
  QS X (.AugAssign (.Name x pos') op e pos) (aPG i te tip):=⟨L2.aPH hN hi hx he.h ho hf⟩
theorem aDT{i:Expr}{tget:V->V->Hp->VK->Prop}{tip:TIp}{tset:aIu}{op:Operator}{tpos:Pos}(ho:QE X o to)(hi:QE X i ti)(hg:aPI X tget)(he:QE X e te)(hp:PIp X op tip)(hs:aLm X tset)
  (ha:∀ov iv new,augStore i ov iv new=(do holding [new,ov,iv] (setItem ov iv new);release [new,ov,iv] [];pure .next):=by intros;rfl):QS X (.AugAssign (.Subscript o i tpos) op e pos) (aLo to ti te tget tip tset):=⟨L2.aNy ho.h hi.h hg he.h hp hs ha⟩
theorem bW(hp:PassesOwn (model X.prog X.w) X.A X.env X.xe)(hc:X.calm=true)(hi:QI X tg iter wi)(hg:QG X tg g)(hb:QSs X sts ts)
  (hs:∀x,foldedSetIterable iter X.env x=pure x:=by intro _;rfl):QS X (.For tg iter sts [] pos) (aPL wi g ts):=⟨L2.aPM hp hc hi.h hg.h hb.h hs⟩
variable{scope:Scope}{elt target:Expr}{ifs:List Expr}{N:List Str}
theorem bU{k:Nat}{idx:List Nat}{N:List Str}(S:fJ X scope N k idx)(hc:X.calm=true)(hi:QI X target iter wi)
  (hg:∀fp C s H,QG (cxC X scope N fp C s H) target g) (ho:Own k g) (ht:∀fp C s H,QTs (cxC X scope N fp C s H) ifs tt) (he:∀fp C s H,QE (cxC X scope N fp C s H) elt te)
  (hs:∀x,foldedSetIterable iter X.env x=pure x:=by intro _;rfl):QE X (.ListComp elt [⟨target,iter,ifs,0⟩] scope pos) (aHC wi k idx g tt te):=
 ⟨L2.aNV k idx S hc hi.h (λfp C s H=>(hg fp C s H).h) ho (λfp C s H=>(ht fp C s H).h) (λfp C s H=>(he fp C s H).h) hs⟩
theorem mM{k:Nat}{idx:List Nat}{i:Nat}{N:List Str}{pos':Pos}(hN:X.N.Nodup)(hix:X.N[i]?=some x)(hx:Loc X.env.scope x)
  (S:fJ X scope N k idx) (hc:X.calm=true) (hi:QI X target iter wi)
  (hg:∀fp C s H,QG (cxC X scope N fp C s H) target g) (ho:Own k g) (ht:∀fp C s H,QTs (cxC X scope N fp C s H) ifs tt) (he:∀fp C s H,QE (cxC X scope N fp C s H) elt te)
  (hsw:swapsWith (.ListComp elt [⟨target,iter,ifs,0⟩] scope pos) (some (.Name x pos')) spos.line X.env=pure true:=by rfl)
  (hs:∀x,foldedSetIterable iter X.env x=pure x:=by intro _;rfl) (hfn:X.fn x=true\/X.env.scope.names.lookup x=some .local:=by first|exact .inl rfl|exact .inr rfl|assumption) :
  QS X (.Assign [.Name x pos'] (.ListComp elt [⟨target,iter,ifs,0⟩] scope pos) spos) (aHn (aHC wi k idx g tt te) (wB i)):=
 ⟨L2.aNW k idx hN hix hx S hc hi.h (λfp C s H=>(hg fp C s H).h) ho (λfp C s H=>(ht fp C s H).h) (λfp C s H=>(he fp C s H).h) hsw hs hfn⟩
variable{x1:Nat}{e1 e2 e3 e4 e5 e6 e7 e8:Expr}{t1 t2 t3 t4 t5 t6 t7 t8:TE}
theorem qQ(h1:QE X e1 t1)(n1:noStar e1=true:=by rfl):QE X (.List [e1] pos) (aBL (bF t1 mH)):=⟨L2.aRW h1.h n1⟩
theorem aOm{k1}(h1:QE X e1 t1)(n1:noStar e1=true:=by rfl):QE X (.Tuple [e1] k1 pos) (aCK (bF t1 mH)):=⟨L2.aRX h1.h n1⟩
theorem aGm(h1:QE X e1 t1)(h2:QE X e2 t2)(n1:noStar e1=true:=by rfl)(n2:noStar e2=true:=by rfl):QE X (.List [e1,e2] pos) (aBL (bF t1 (bF t2 mH))):=⟨L2.aRY h1.h h2.h n1 n2⟩
theorem jR{k1}(h1:QE X e1 t1)(h2:QE X e2 t2)(n1:noStar e1=true:=by rfl)(n2:noStar e2=true:=by rfl):QE X (.Tuple [e1,e2] k1 pos) (aCK (bF t1 (bF t2 mH))):=⟨L2.aRZ h1.h h2.h n1 n2⟩
theorem aGn(h1:QE X e1 t1)(h2:QE X e2 t2)(h3:QE X e3 t3)(n1:noStar e1=true:=by rfl)(n2:noStar e2=true:=by rfl)(n3:noStar e3=true:=by rfl):QE X (.List [e1,e2,e3] pos) (aBL (bF t1 (bF t2 (bF t3 mH)))):=⟨L2.aR0 h1.h h2.h h3.h n1 n2 n3⟩
theorem yY{k1}(h1:QE X e1 t1)(h2:QE X e2 t2)(h3:QE X e3 t3)(n1:noStar e1=true:=by rfl)(n2:noStar e2=true:=by rfl)(n3:noStar e3=true:=by rfl):QE X (.Tuple [e1,e2,e3] k1 pos) (aCK (bF t1 (bF t2 (bF t3 mH)))):=⟨L2.aR1 h1.h h2.h h3.h n1 n2 n3⟩
theorem aOn(h1:QE X e1 t1)(h2:QE X e2 t2)(h3:QE X e3 t3)(h4:QE X e4 t4)(n1:noStar e1=true:=by rfl)(n2:noStar e2=true:=by rfl)(n3:noStar e3=true:=by rfl)(n4:noStar e4=true:=by rfl):QE X (.List [e1,e2,e3,e4] pos) (aBL (bF t1 (bF t2 (bF t3 (bF t4 mH))))):=⟨L2.aR2 h1.h h2.h h3.h h4.h n1 n2 n3 n4⟩
theorem aOo{k1}(h1:QE X e1 t1)(h2:QE X e2 t2)(h3:QE X e3 t3)(h4:QE X e4 t4)(n1:noStar e1=true:=by rfl)(n2:noStar e2=true:=by rfl)(n3:noStar e3=true:=by rfl)(n4:noStar e4=true:=by rfl):QE X (.Tuple [e1,e2,e3,e4] k1 pos) (aCK (bF t1 (bF t2 (bF t3 (bF t4 mH))))):=⟨L2.aR3 h1.h h2.h h3.h h4.h n1 n2 n3 n4⟩
theorem aOp{k1}(h1:QE X e1 t1)(h2:QE X e2 t2)(h3:QE X e3 t3)(h4:QE X e4 t4)(h5:QE X e5 t5)(n1:noStar e1=true:=by rfl)(n2:noStar e2=true:=by rfl)(n3:noStar e3=true:=by rfl)(n4:noStar e4=true:=by rfl)(n5:noStar e5=true:=by rfl):QE X (.Tuple [e1,e2,e3,e4,e5] k1 pos) (aCK (bF t1 (bF t2 (bF t3 (bF t4 (bF t5 mH)))))):=⟨L2.aR4 h1.h h2.h h3.h h4.h h5.h n1 n2 n3 n4 n5⟩
theorem aJE(h1:QE X e1 t1)(h2:QE X e2 t2)(h3:QE X e3 t3)(h4:QE X e4 t4)(h5:QE X e5 t5)(h6:QE X e6 t6)(h7:QE X e7 t7)(n1:noStar e1=true:=by rfl)(n2:noStar e2=true:=by rfl)(n3:noStar e3=true:=by rfl)(n4:noStar e4=true:=by rfl)(n5:noStar e5=true:=by rfl)(n6:noStar e6=true:=by rfl)(n7:noStar e7=true:=by rfl):QE X (.List [e1,e2,e3,e4,e5,e6,e7] pos) (aBL (bF t1 (bF t2 (bF t3 (bF t4 (bF t5 (bF t6 (bF t7 mH)))))))):=⟨L2.aR5 h1.h h2.h h3.h h4.h h5.h h6.h h7.h n1 n2 n3 n4 n5 n6 n7⟩
end
end L2.Z
namespace L2.Z
open PySem PySem.Spec PyProof.Rows L2
section
variable{X:Cx}{CX:CXT}{k:Nat}{f C:Addr}{fd:FuncData}{ps:List Str}{sp:Sp}{dvs:List V}{ds:List Value}{E:XK}{x m:Str}{p pos apos p2 spos cpos tp:Pos}{a b c e o st:Expr}{es rest elts:List Expr}{ta tb tc te to ti:TE}{t:TA}{x1:Nat}{ts:TO}
theorem aAn{pl:Sem Bool}(he:QE X o ta)(c:Cls X.K C)(hm:Meth X.K C m f)(F:bS X.prog X.w X.K X.mg X.base CX k f fd ps sp)(hr:eN k X.A)(hb:Binds X.K fd ps ds)(hd:Vals dvs ds)(hx:Passes CX X E)(ha:QA X (e::es) t)
  (hn:(e::es).all noStar=true:=by rfl)
  (ht:eval (.Call (.Attribute o m apos) (e::es) [] pos) X.env=(do
   let ov <-eval o X.env
   standAt apos.atName
   let (f,first) <-holding [ov] (getMethod ov m pl)
   callWith pos f first (backTo pos (starEach (e::es) X.env)) (backToKw pos (keywordEach [] X.env))):=by rfl) :
  QE X (.Call (.Attribute o m apos) (e::es) [] pos) (aFy C m sp dvs E ta t):=⟨L2.aNI he.h c hm F hr hb hd hx ha.h (bN (jH hn).1) (kN (jH hn).2) ht⟩
theorem aCf{pl:Sem Bool}(he:QE X o ta)(c:Cls X.K C)(hm:Meth X.K C m f)(F:bS X.prog X.w X.K X.mg X.base CX k f fd ps sp)(hr:eN k X.A)(hb:Binds X.K fd ps ds)(hd:Vals dvs ds)(hx:Passes CX X E)
  (ht:eval (.Call (.Attribute o m apos) [] [] pos) X.env=(do
   let ov <-eval o X.env
   standAt apos.atName
   let (f,first) <-holding [ov] (getMethod ov m pl)
   callWith pos f first (backTo pos (starEach [] X.env)) (backToKw pos (keywordEach [] X.env))):=by rfl) :
  QE X (.Call (.Attribute o m apos) [] [] pos) (aFy C m sp dvs E ta mH):=⟨L2.aLA he.h c hm F hr hb hd hx ht⟩
end
end L2.Z
namespace L2.Z
open PySem PySem.Spec PyProof.Rows L2
section
variable{X:Cx}{K':W.Frag}{x m n:Str}{p pos apos p2 spos cpos tp pos':Pos}{a b c e o st iter tg:Expr}{es rest elts:List Expr}{ta tb tc te to ti:TE}{t:TA}{x1:Nat}{ts:TO}
theorem aJ(ha:QE X a ta)(hb:QE X b tb)(hs:aJB b:=by exact λ_ _=>rfl)(hK:X.K=K':=by rfl):QE X (.Subscript a b pos) (tOp (rIx K') ta tb):=by subst hK;exact⟨L2.aRf aPY ha.h hb.h hs⟩
theorem bO(hl:QE X e te)(hK:X.K=K':=by rfl):QI X tg e (aLq K' te):=by subst hK;exact⟨L2.aNz hl.h⟩
theorem aDU(hl:QE X e te)(hK:X.K=K':=by rfl):QI X tg e (aPJ K' te):=by subst hK;exact⟨L2.aPK hl.h⟩
theorem eO(hg:Gl X "enumerate")(hm:X.mg "enumerate" = none)(ha:QA X [a] t)(hn:noStar a=true:=by rfl)(hK:X.K=K':=by rfl):QI X (.Tuple elts x1 tp) (.Call (.Name "enumerate" p) [a] [] pos) (aL8 K' t):=by subst hK;exact⟨L2.aOi hg hm ha.h hn⟩
theorem bI{k1 n:Nat}{gs:TGs}(hc:X.calm=true)(h:QGs X es gs)(hn:(assignEach es X.env).length=n:=by rfl)(hst:(assignEach es X.env).findIdx? (·.1)=none:=by rfl)(hK:X.K=K':=by rfl):QG X (.Tuple es k1 pos) (aNx K' n gs):=by subst hK;exact⟨L2.aPB hc h.h hn hst⟩
theorem aU(he:QE X e ta)(hb:attributeBase e n X.env (eval e X.env)=eval e X.env)(hK:X.K=K':=by rfl):QE X (.Attribute e n pos) (aPQ K' ta n):=by subst hK;exact⟨L2.aPS he.h hb⟩
theorem eX(ha:QE X o ta)(hv:QE X e te)(hs:swapsWith e (some (.Attribute o n pos')) pos.line X.env=pure false)(hK:X.K=K':=by rfl):QS X (.Assign [.Attribute o n pos'] e pos) (aPR K' ta te n):=by subst hK;exact⟨L2.aPT ha.h hv.h hs⟩
theorem jV(ho:QE X o to)(ha:QA X [e] t)(hn:noStar e=true:=by rfl)(hbase:attributeBase o "append" X.env (eval o X.env)=eval o X.env:=by rfl)(hline:(apos.endLine == cpos.line)=true:=by rfl)(hK:X.K=K':=by rfl) :
  QE X (.Call (.Attribute o "append" apos) [e] [] cpos) (tBM K' "list" aDr to t):=by subst hK;exact⟨L2.aQG ho.h ha.h hn hbase hline⟩
end
end L2.Z
namespace L2.Z
open PySem PySem.Spec PyProof.Rows L2
section
variable{X:Cx}{K':W.Frag}{p pos tp:Pos}{a b:Expr}{elts:List Expr}{t:TA}{x1:Nat}
end
end L2.Z
namespace L2
open PySem
section
variable{prog:Program}{w:World}{A:Around}{E:Value->Shared->Prop}{s:Shared}
theorem aAY{i:Nat}{items}{Q:Value->Shared->Prop}(hit:s.heap.IsTupleIter it t i)(ht:s.heap.IsTuple t items)(hx:items[i]?=some x)(hQ:∀h',h'.IsTupleIter it t (i+1)->Heap.SameBut it s.heap h'->Q x { s with heap:=h' }) :
  wpAny (model prog w) A (Builtin.SmallTypes.nextOf (.ref it)) Q E s:=by
 obtain⟨o,ho,hc,hd⟩:=id hit
 obtain⟨ol,hol,_,nl,hdl⟩:=ht
 unfold Builtin.SmallTypes.nextOf
 refine wpAny_bind (wpAny_callSpecial?_slot (name:=Str.ofString "__next__") hit.typeIs F.slot_tuple_iterator_next
  (wpAny_call_entry F.slot_tuple_iterator_next hit.typeIs F.entry_tuple_iterator_next ?_ (F.args_tuple_iterator_next_1 _)))
 show wpAny _ _ (field (.ref it) 0 >>= _) _ _ s
 refine wpAny_bind (wpAny_field ho hd (x:=.ref t) rfl ?_)
 show wpAny _ _ (if (Value.ref t == Value.none)=true then _ else _) _ _ s
 rw[if_neg (show ¬((Value.ref t == Value.none)=true) from Qq9)]
 show wpAny _ _ (field (.ref it) 1 >>= _) _ _ s
 refine wpAny_bind (wpAny_field ho hd (x:=.int i 0) rfl ?_)
 show wpAny _ _ (seqItems? (.ref t) >>= _) _ _ s
 refine wpAny_bind (wpAny_seqItems hol hdl ?_)
 simp only[Rm9,hx]
 refine wpAny_bind (wpAny_setField ho hd (by simp) (wpAny_pure ⟨x,rfl,wpAny_pure (hQ _ ?_ (Heap.SameBut.update ..))⟩))
 exact⟨_,Sh9 _ ho (Obj.isFreed_of_fields (Obj.data_mapFields hd _)),(Obj.cls_mapFields ..).trans hc,by
  rw[Obj.data_mapFields hd];simp[rawInt]⟩
theorem aBT{i:Nat}{items}{Q:Value->Shared->Prop}(hh:A.handled=none)(hit:s.heap.IsTupleIter it t i)(ht:s.heap.IsTuple t items)(hx:items[i]?=none)(hE:∀h' e,Heap.ExtBut it s.heap h'->(∃o,h'.get? e=some o/\o.cls=.type "StopIteration")->E (.ref e) { s with heap:=h' }) :
  wpAny (model prog w) A (Builtin.SmallTypes.nextOf (.ref it)) Q E s:=by
 obtain⟨o,ho,hc,hd⟩:=id hit
 obtain⟨ol,hol,_,nl,hdl⟩:=ht
 unfold Builtin.SmallTypes.nextOf
 refine wpAny_bind (wpAny_callSpecial?_slot (name:=Str.ofString "__next__") hit.typeIs F.slot_tuple_iterator_next
  (wpAny_call_entry F.slot_tuple_iterator_next hit.typeIs F.entry_tuple_iterator_next ?_ (F.args_tuple_iterator_next_1 _)))
 show wpAny _ _ (field (.ref it) 0 >>= _) _ _ s
 refine wpAny_bind (wpAny_field ho hd (x:=.ref t) rfl ?_)
 show wpAny _ _ (if (Value.ref t == Value.none)=true then _ else _) _ _ s
 rw[if_neg (show ¬((Value.ref t == Value.none)=true) from Qq9)]
 show wpAny _ _ (field (.ref it) 1 >>= _) _ _ s
 refine wpAny_bind (wpAny_field ho hd (x:=.int i 0) rfl ?_)
 show wpAny _ _ (seqItems? (.ref t) >>= _) _ _ s
 refine wpAny_bind (wpAny_seqItems hol hdl ?_)
 simp only[Rm9,hx]
 refine wpAny_bind (wpAny_rule (wpAny_bind (wpAny_setField ho hd (by simp) ?_)))
 show wpAny _ _ (newExc (.type "StopIteration") [] >>= _) _ _ _
 refine wpAny_bind ?_
 simp only[newExc,newTuple]
 refine wpAny_bind (wpAny_newObj_type ?_ (by size_fits))
 refine wpAny_bind (m:=firstArgMember _ _) (wpAny_of_eq (a:=Value.none) (by first|rfl|(simp only[firstArgMember];rfl)) ?_)
 refine wpAny_newObj_type ?_ (by size_fits)
 simp only[raiseNew]
 refine wpAny_bind (wpAny_handled ?_)
 first|rw[show A.in1.handled=none from hh]|rw[hh]
 refine wpAny_bind (wpAny_pure (wpAny_throw ?_))
 exact hE _ _ (((Heap.SameBut.update ..).extBut.push _).push _) ⟨_,tE _ rfl,rfl⟩
end
def SIt(h:Heap)(k:Bool)(it src:Addr)(i:Nat):Prop:=if k=true then h.IsListIter it src i else h.IsTupleIter it src i
def kP(h:Heap)(k:Bool)(src:Addr)(items:Array Value):Prop:=if k=true then h.IsList src items else h.IsTuple src items
theorem SIt.at{h h':Heap}{k:Bool}{i:Nat}(x:SIt h k it src i)(e:∀o,h.get? it=some o->h'.get? it=some o):SIt h' k it src i:=by
 cases k with
 |true=>obtain⟨o,ho,r⟩:=(show h.IsListIter it src i from x);exact(show h'.IsListIter it src i from⟨o,e o ho,r⟩)
 |false=>obtain⟨o,ho,r⟩:=(show h.IsTupleIter it src i from x);exact(show h'.IsTupleIter it src i from⟨o,e o ho,r⟩)
theorem kP.at{h h':Heap}{k:Bool}(x:kP h k src items)(e:∀o,h.get? src=some o->h'.get? src=some o):kP h' k src items:=by
 cases k with
 |true=>obtain⟨o,ho,r⟩:=(show h.IsList src items from x);exact(show h'.IsList src items from⟨o,e o ho,r⟩)
 |false=>obtain⟨o,ho,r⟩:=(show h.IsTuple src items from x);exact(show h'.IsTuple src items from⟨o,e o ho,r⟩)
theorem SIt.obj{h:Heap}{k:Bool}{i:Nat}(x:SIt h k it src i):∃o vs,h.get? it=some o/\o.data=.fields vs:=by
 cases k with
 |true=>obtain⟨o,ho,_,r⟩:=(show h.IsListIter it src i from x);exact⟨o,_,ho,r⟩
 |false=>obtain⟨o,ho,_,r⟩:=(show h.IsTupleIter it src i from x);exact⟨o,_,ho,r⟩
section
variable{prog:Program}{w:World}{A:Around}{E:Value->Shared->Prop}{s:Shared}
theorem aHH{k:Bool}{i:Nat}{items:Array Value}{Q:Value->Shared->Prop}(hit:SIt s.heap k it src i)(hs:kP s.heap k src items)(hx:items[i]?=some x)(hQ:∀h',SIt h' k it src (i+1)->Heap.SameBut it s.heap h'->Q x { s with heap:=h' }):wpAny (model prog w) A (Builtin.SmallTypes.nextOf (.ref it)) Q E s:=by
 cases k with
 |true=>exact wpAny_nextOf_list_item hit hs hx hQ
 |false=>exact aAY hit hs hx hQ
theorem aIT{k:Bool}{i:Nat}{items:Array Value}{Q:Value->Shared->Prop}(hh:A.handled=none)(hit:SIt s.heap k it src i)(hs:kP s.heap k src items)(hx:items[i]?=none)(hE:∀h' e,Heap.ExtBut it s.heap h'->(∃o,h'.get? e=some o/\o.cls=.type "StopIteration")->E (.ref e) { s with heap:=h' }):wpAny (model prog w) A (Builtin.SmallTypes.nextOf (.ref it)) Q E s:=by
 cases k with
 |true=>exact wpAny_nextOf_list_end hh hit hs hx hE
 |false=>exact aBT hh hit hs hx hE
end
abbrev ZS:=Bool×Addr×Addr
structure ZA(z TI TO:Addr)(L:List ZS):Prop where
 TIz:TI≠z
 TOz:TO≠z
 TITO:TI≠TO
 it:∀t∈L,t.2.1≠z/\t.2.1≠TI/\t.2.1≠TO
 nd:(L.map (·.2.1)).Nodup
abbrev pL(h:Heap)(T:Addr)(vs:Array Value):Prop:=h.get? T=some { cls:=.type "tuple",data:=.seq vs }
def aQK(z TO:Addr)(L:List ZS):Prop:=∀t∈L,t.2.2≠z/\t.2.2≠TO/\∀u∈L,t.2.2≠u.2.1
theorem aMg:∀{l:List Addr},l.Nodup->∀{i j:Nat}{a:Addr},l[i]?=some a->l[j]?=some a->i=j
 |[],_,_,_,_,h,_=>by simp at h
 |b::l,n,0,0,_,_,_=>rfl
 |b::l,n,0,j+1,a,h1,h2=>by
  simp at h1 h2
  subst h1
  exact absurd (oH h2) (Rn9.mp n).1
 |b::l,n,i+1,0,a,h1,h2=>by
  simp at h1 h2
  subst h2
  exact absurd (oH h1) (Rn9.mp n).1
 |b::l,n,i+1,j+1,a,h1,h2=>by
  simp at h1 h2
  rw[aMg (Rn9.mp n).2 h1 h2]
section
variable{prog:Program}{w:World}{A:Around}{E:Value->Shared->Prop}{s:Shared}
theorem aR6{arr:Array Value}{j:Nat}{Q:Unit->Shared->Prop}(hT:pL s.heap T arr)(hz:arr.size<=1000)(h:∀h',pL h' T (arr.setIfInBounds j x)->Heap.SameBut T s.heap h'->Q () { s with heap:=h' }):wpAny (model prog w) A (updateSeq T (·.setIfInBounds j x)) Q E s:=by
 refine wpAny_updateSeq hT rfl (h _ ?_ (Heap.SameBut.update ..)) (by rw[sizeLine_eq];omega) (by rw[Array.size_setIfInBounds,sizeLine_eq];omega)
 show(s.heap.update T _).get? T=_
 rw[Sh9 _ hT rfl]
 simp[Obj.mapSeq]
structure aQL(z TI TO:Addr)(L:List ZS)(k:Nat)(xs:Nat->Value)(h₀:Heap)(j:Nat)(h:Heap):Prop where
 zz:IsZip h z TI TO .ellipsis
 to:∃arr:Array Value,pL h TO arr/\arr.size=L.length/\∀i,i < j->arr[i]?=some (xs i)
 it:∀i t,L[i]?=some t->SIt h t.1 t.2.1 t.2.2 (if i < j then k+1 else k)
 off:∀c o,c≠z->c≠TO->(∀t∈L,c≠t.2.1)->h₀.get? c=some o->h.get? c=some o
 sz:h.objs.size=h₀.objs.size
theorem aHI{z TI TO:Addr}{L:List ZS}{k:Nat}{items:Nat->Array Value}{xs:Nat->Value}{arr:Array Value}{Q:Value->Shared->Prop}(hh:A.handled=none)(D:ZA z TI TO L)(S:aQK z TO L)(hne:L≠[])(hlen:L.length<=1000)
  (hz:IsZip s.heap z TI TO .none) (hTI:pL s.heap TI (L.map λt=>Value.ref t.2.1).toArray) (hTO:pL s.heap TO arr) (harr:arr.size=L.length)
  (hit:∀t∈L,SIt s.heap t.1 t.2.1 t.2.2 k) (hsrc:∀i t,L[i]?=some t->kP s.heap t.1 t.2.2 (items i))
  (hx:∀i,i < L.length->∀x,(items i)[k]?=some x->x=xs i)
  (hQ:(∀i,i < L.length->(items i)[k]?=some (xs i))->∀h' arr',IsZip h' z TI TO (rawInt s.heap.objs.size)->pL h' TO arr'->arr'.size=L.length->(∀i,i < L.length->arr'[i]?=some (xs i))->(∀t∈L,SIt h' t.1 t.2.1 t.2.2 (k+1))->pL h' s.heap.objs.size arr'->h'.objs.size=s.heap.objs.size+1->
   (∀c o,c≠z->c≠TO->(∀t∈L,c≠t.2.1)->s.heap.get? c=some o->h'.get? c=some o)->Q (.ref s.heap.objs.size) { s with heap:=h' })
  (hE:(∃i,i < L.length/\(items i)[k]?=none)->∀h' e,(∀c o,c≠z->c≠TO->(∀t∈L,c≠t.2.1)->s.heap.get? c=some o->h'.get? c=some o)->(∃o,h'.get? e=some o/\o.cls=.type "StopIteration")->E (.ref e) { s with heap:=h' }) :
  wpAny (model prog w) A (Builtin.«zip.__next__» ⟨[.ref z],[]⟩) (λfin s'=>∃v,fin=.done (.ret v)/\Q v s') E s:=by
 show wpAny _ _ (field (.ref z) 2 >>= _) _ _ _
 refine wpAny_bind (wpAny_field hz rfl (x:=.bool false) rfl ?_)
 show wpAny _ _ (field (.ref z) 3 >>= _) _ _ _
 refine wpAny_bind (wpAny_field hz rfl (x:=.ref TI) rfl ?_)
 refine wpAny_bind (wpAny_seqItems hTI rfl ?_)
 have hemp:(L.map λt=>Value.ref t.2.1).toArray.isEmpty=false:=by
  cases L with
  |nil=>exact absurd rfl hne
  |cons t L=>rfl
 simp only[hemp,Sb9,if_false]
 show wpAny _ _ (Builtin.SmallTypes.ownedTupleIsFree (.ref z) >>= _) _ _ _
 refine wpAny_bind ?_
 unfold Builtin.SmallTypes.ownedTupleIsFree
 refine wpAny_bind (wpAny_field hz rfl (x:=.none) rfl (wpAny_pure ?_))
 simp only[if_true]
 refine wpAny_bind (wpAny_rule ?_)
 refine wpAny_bind (wpAny_field hz rfl (x:=.ref TO) rfl ?_)
 refine wpAny_bind (wpAny_setField_rec hz (by simp) λh₁ hz₁ hs₁=>?_)
 replace hz₁:IsZip h₁ z TI TO .ellipsis:=hz₁
 replace hs₁:Heap.SameBut z s.heap h₁:=hs₁
 refine wpAny_bind ?_
 refine wpAny_forIn_list _ (λrest b s'=>b=((none,()):Option Fin×Unit)/\∃j,rest=((L.map λt=>Value.ref t.2.1).zipIdx).drop j/\j<=L.length/\(∀i,i < j->(items i)[k]?=some (xs i))/\aQL z TI TO L k xs s.heap j s'.heap/\s'={ s with heap:=s'.heap }) _ ?turn ?fin _ _ ⟨rfl,0,rfl,Rl9 _,λi hi=>absurd hi (Tc9 _),?start,rfl⟩
 case start=>
  exact⟨hz₁,⟨arr,hs₁.extBut _ _ D.TOz hTO,harr,λi hi=>absurd hi (Tc9 _)⟩,λi t ht=>by
   rw[if_neg (Tc9 _)]
   exact(hit t (oH ht)).at λo e=>hs₁.extBut _ _ (D.it t (oH ht)).1 e,λc o c1 _ _ e=>hs₁.extBut _ _ c1 e,hs₁.1⟩
 case turn=>
  rintro x rest b s' ⟨rfl,j,er,hj,hxs,M,es⟩
  have hll:((L.map λt=>Value.ref t.2.1).zipIdx).length=L.length:=by simp
  have hjl:j < ((L.map λt=>Value.ref t.2.1).zipIdx).length:=by
   apply Nat.lt_of_not_le
   intro h
   rw[List.drop_eq_nil_of_le h] at er
   cases er
  rw[Sk9 hjl] at er
  injection er with e1 e2
  have hjL:j < L.length:=by rw[<-hll];exact hjl
  have ht:L[j]?=some L[j]:=eU hjL
  have hmem:=Sc9 hjL
  have e3:((L.map λt=>Value.ref t.2.1).zipIdx)[j]=(Value.ref L[j].2.1,j):=by simp
  rw[e3] at e1
  generalize L[j]=t at ht hmem e1
  subst e1 e2
  obtain⟨h',g',d',t',o'⟩:=s'
  injection es with _ e4 e5 e6 e7
  subst e4 e5 e6 e7
  replace M:aQL z TI TO L k xs s.heap j h':=M
  have hitj:=M.it j t ht
  rw[if_neg (Rs9 _)] at hitj
  have hsj:kP h' t.1 t.2.2 (items j):=(hsrc j t ht).at λo e=>M.off _ o (S t hmem).1 (S t hmem).2.1 (S t hmem).2.2 e
  refine wpAny_bind (wpAny_onRaise ?_)
  show wpAny _ _ (Builtin.SmallTypes.nextOf (.ref t.2.1) >>= _) _ _ _
  cases hxk:(items j)[k]? with
  |none=>
   refine wpAny_bind (aIT (s:=⟨h',s.gens,s.drawn,s.toks,s.os⟩) hh hitj hsj hxk λh2 e eb he=>?_)
   replace eb:Heap.ExtBut t.2.1 h' h2:=eb
   obtain⟨oe,hoe,hce⟩:=he
   have hz2:IsZip h2 z TI TO .ellipsis:=eb _ _ (Ne.symm (D.it t hmem).1) M.zz
   have hez:e≠z:=λq=>by subst q;rw[hz2] at hoe;cases hoe;simp at hce
   refine wpAny_setField_rec hz2 (by simp) λh3 _ hs3=>hE ⟨j,hjL,hxk⟩ h3 e (λc o c1 c2 c3 q=>hs3.extBut _ _ c1 (eb _ _ (c3 t hmem) (M.off c o c1 c2 c3 q))) ⟨oe,hs3.extBut _ _ hez hoe,hce⟩
  |some x=>
   have ex:=hx j hjL x hxk
   subst ex
   refine wpAny_bind (aHH (s:=⟨h',s.gens,s.drawn,s.toks,s.os⟩) hitj hsj hxk λh2 it2 sb2=>wpAny_pure ?_)
   replace sb2:Heap.SameBut t.2.1 h' h2:=sb2
   obtain⟨arr2,hTO2,ha2,hv2⟩:=M.to
   have hTO3:pL h2 TO arr2:=sb2.extBut _ _ (Ne.symm (D.it t hmem).2.2) hTO2
   refine wpAny_bind (wpAny_seqItems hTO3 rfl ?_)
   refine wpAny_bind (aR6 (s:=⟨h2,s.gens,s.drawn,s.toks,s.os⟩) hTO3 (by omega) λh3 hTO4 sb3=>?_)
   replace sb3:Heap.SameBut TO h2 h3:=sb3
   refine wpAny_bind (wpAny_letGo (wpAny_pure ?_))
   refine⟨rfl,j+1,rfl,hjL,λi hi=>?_,⟨?_,⟨_,hTO4,?_,λi hi=>?_⟩,λi u hu=>?_,λc o c1 c2 c3 q=>?_,?_⟩,rfl⟩
   ·by_cases e:i=j
    ·subst e;exact hxk
    ·exact hxs i (by omega)
   ·exact sb3.extBut _ _ (Ne.symm D.TOz) (sb2.extBut _ _ (Ne.symm (D.it t hmem).1) M.zz)
   ·rw[Array.size_setIfInBounds];exact ha2
   ·by_cases e:i=j
    ·subst e
     rw[Array.getElem?_setIfInBounds_self_of_lt (by omega)]
    ·rw[Array.getElem?_setIfInBounds_ne (Ne.symm e)]
     exact hv2 i (by omega)
   ·have mu:=oH hu
    have nT:u.2.1≠TO:=(D.it u mu).2.2
    by_cases e:i=j
    ·subst e
     rw[ht] at hu
     cases hu
     rw[if_pos (Tm9 _)]
     exact it2.at λo q=>sb3.extBut _ _ nT q
    ·have ne:u.2.1≠t.2.1:=λq=>by
      have n:=D.nd
      have q1:(L.map (·.2.1))[i]?=some u.2.1:=by rw[pG,hu];rfl
      have q2:(L.map (·.2.1))[j]?=some u.2.1:=by rw[pG,ht,q];rfl
      exact e (aMg n q1 q2)
     have:=M.it i u hu
     rw[show(if i < j+1 then k+1 else k)=if i < j then k+1 else k by split <;> split <;> omega]
     exact this.at λo q=>sb3.extBut _ _ nT (sb2.extBut _ _ ne q)
   ·exact sb3.extBut _ _ c2 (sb2.extBut _ _ (c3 t hmem) (M.off c o c1 c2 c3 q))
   ·show h3.objs.size=_
    rw[sb3.1,sb2.1];exact M.sz
 case fin=>
  rintro b s' ⟨rfl,j,er,hj,hxs,M,es⟩
  have hjL:j=L.length:=by
   have:((L.map λt=>Value.ref t.2.1).zipIdx).length<=j:=List.drop_eq_nil_iff.mp er.symm
   simp at this
   omega
  subst hjL
  obtain⟨h',g',d',t',o'⟩:=s'
  injection es with _ e4 e5 e6 e7
  subst e4 e5 e6 e7
  replace M:aQL z TI TO L k xs s.heap L.length h':=M
  obtain⟨arr2,hTO2,ha2,hv2⟩:=M.to
  show wpAny _ _ (seqItems? (.ref TO) >>= _) _ _ _
  refine wpAny_bind (wpAny_seqItems hTO2 rfl ?_)
  refine wpAny_bind (wpAny_newTuple ?_ (by rw[Rg9,sizeLine_eq];omega))
  have hzlt:z < h'.objs.size:=j0 M.zz
  show wpAny _ _ (Builtin.SmallTypes.ownedTupleHandOut (.ref z) (.ref h'.objs.size) >>= _) _ _ _
  refine wpAny_bind ?_
  unfold Builtin.SmallTypes.ownedTupleHandOut
  have hz6:IsZip (h'.push { cls:=.type "tuple",data:=.seq arr2.toList.toArray }) z TI TO .ellipsis:=fH _ M.zz
  refine wpAny_bind (wpAny_setField_rec hz6 (by simp) λh7 hz7 hs7=>?_)
  replace hz7:IsZip h7 z TI TO (rawInt h'.objs.size):=hz7
  refine wpAny_setField_rec hz7 (by simp) λh8 hz8 hs8=>?_
  replace hz8:IsZip h8 z TI TO (rawInt h'.objs.size):=hz8
  have up:∀c o,c≠z->h'.get? c=some o->h8.get? c=some o:=λc o c1 e=>hs8.extBut _ _ c1 (hs7.extBut _ _ c1 (fH _ e))
  have hT8:pL h8 h'.objs.size arr2:=hs8.extBut _ _ (Sd9 hzlt) (hs7.extBut _ _ (Sd9 hzlt) (by
   have:=tE h' (o:={ cls:=.type "tuple",data:=.seq arr2.toList.toArray }) rfl
   simpa using this))
  have hz9:h8.objs.size=h'.objs.size+1:=by rw[hs8.1,hs7.1,Ri9]
  rw[M.sz] at hz8 hT8 hz9
  refine wpAny_pure ⟨_,rfl,?_⟩
  show Q (.ref h'.objs.size) _
  rw[M.sz]
  refine hQ (λi hi=>hxs i hi) h8 arr2 hz8 (up _ _ D.TOz hTO2) ha2 hv2 (λt ht=>?_) hT8 hz9 λc o c1 c2 c3 e=>up c o c1 (M.off c o c1 c2 c3 e)
  obtain⟨i,hi⟩:=Rh9 ht
  have:=M.it i t hi
  rw[if_pos (qM.mp hi).1] at this
  exact this.at λo e=>up _ o (D.it t ht).1 e
end
def ZSt(z TI TO:Addr)(L:List ZS)(i:Nat)(h:Heap):Prop:=
 IsZip h z TI TO .none/\pL h TI (L.map λt=>Value.ref t.2.1).toArray/\(∃arr,pL h TO arr/\arr.size=L.length)/\∀t∈L,SIt h t.1 t.2.1 t.2.2 i
abbrev qR(k:Bool)(src:Addr):Obj:={ cls:=.type (if k=true then "list_iterator" else "tuple_iterator"),data:=.fields #[.ref src,.int 0 0] }
theorem SIt.new{h:Heap}{k:Bool}(e:h.get? it=some (qR k src)):SIt h k it src 0:=by
 cases k with
 |true=>exact(show h.IsListIter it src 0 from⟨_,e,rfl,rfl⟩)
 |false=>exact(show h.IsTupleIter it src 0 from⟨_,e,rfl,rfl⟩)
section
variable{prog:Program}{w:World}{A:Around}{E:Value->Shared->Prop}{s:Shared}
theorem pM{k:Bool}{Q:Value->Shared->Prop}(h:kP s.heap k src items)(hQ:Q (.ref s.heap.objs.size) { s with heap:=s.heap.push (qR k src) }):wpAny (model prog w) A (pyIter (.ref src)) Q E s:=by
 cases k with
 |true=>exact wpAny_pyIter_list h hQ
 |false=>exact wpAny_pyIter_tuple h hQ
end
theorem aDV(a b c:Value):checkTypeCall "zip" ⟨[a,b,c],[]⟩=pure ():=by kernel_rfl
theorem aEZ(a b c:Value):checkBuiltinCall "zip.__new__" ⟨[.type "zip",a,b,c],[]⟩=pure ():=by kernel_rfl
theorem aAo(a b c d:Value):argsOk "object.__init__" ⟨[a,b,c,d],[]⟩:=by
 unfold argsOk;rw[signature?_of (id:="object.__init__") (n:=['_','_','t','i','n','i','_','_']) (o:=['t','c','e','j','b','o']) (by kernel_rfl) F.owner_object];kernel_rfl
abbrev zg1(h:Heap)(t:Bool×Addr):Heap:=h.push (qR t.1 t.2)
abbrev zg2(h:Heap)(t u:Bool×Addr):Heap:=(zg1 h t).push (qR u.1 u.2)
abbrev zg3(h:Heap)(t u v:Bool×Addr):Heap:=(zg2 h t u).push (qR v.1 v.2)
abbrev zk1(h:Heap)(t u:Bool×Addr):Heap:=(zg2 h t u).push { cls:=.type "tuple",data:=.seq #[.ref h.objs.size,.ref (zg1 h t).objs.size] }
abbrev zk2(h:Heap)(t u:Bool×Addr):Heap:=(zk1 h t u).push { cls:=.type "tuple",data:=.seq #[.none,.none] }
abbrev zk3(h:Heap)(t u:Bool×Addr):Heap:=(zk2 h t u).push { cls:=.type "zip",data:=.fields #[.none,.bool false,.bool false,.ref (zg2 h t u).objs.size,.ref (zk1 h t u).objs.size] }
abbrev zm1(h:Heap)(t u v:Bool×Addr):Heap:=(zg3 h t u v).push { cls:=.type "tuple",data:=.seq #[.ref h.objs.size,.ref (zg1 h t).objs.size,.ref (zg2 h t u).objs.size] }
abbrev zm2(h:Heap)(t u v:Bool×Addr):Heap:=(zm1 h t u v).push { cls:=.type "tuple",data:=.seq #[.none,.none,.none] }
abbrev zm3(h:Heap)(t u v:Bool×Addr):Heap:=(zm2 h t u v).push { cls:=.type "zip",data:=.fields #[.none,.bool false,.bool false,.ref (zg3 h t u v).objs.size,.ref (zm1 h t u v).objs.size] }
theorem aHJ(t u:Bool×Addr)(xs ys:Array Value) :
  Meets (Builtin.«zip.__new__» ⟨[.type "zip",.ref t.2,.ref u.2],[]⟩) (λ_ R s=>kP s.heap t.1 t.2 xs/\kP s.heap u.1 u.2 ys/\
   R (.ok (.ret (.ref (zk2 s.heap t u).objs.size))) { s with heap:=zk3 s.heap t u }):=
 .of_wp λprog w A R s h=>by
  obtain⟨hp,g,d,tk,os⟩:=s;obtain⟨hl1,hl2,h⟩:=h
  have hsub:=sub_zip
  have hL1:kP (Shared.heap ⟨hp,g,d,tk,os⟩) t.1 t.2 xs:=hl1
  have hL2:kP (Shared.heap ⟨hp.push (qR t.1 t.2),g,d,tk,os⟩) u.1 u.2 ys:=kP.at hl2 λo e=>fH _ e
  wp_walk using pM hL1,pM hL2
  exact⟨_,rfl,h⟩
theorem aHK(t u v:Bool×Addr)(xs ys zs:Array Value) :
  Meets (Builtin.«zip.__new__» ⟨[.type "zip",.ref t.2,.ref u.2,.ref v.2],[]⟩) (λ_ R s=>kP s.heap t.1 t.2 xs/\kP s.heap u.1 u.2 ys/\kP s.heap v.1 v.2 zs/\
   R (.ok (.ret (.ref (zm2 s.heap t u v).objs.size))) { s with heap:=zm3 s.heap t u v }):=
 .of_wp λprog w A R s h=>by
  obtain⟨hp,g,d,tk,os⟩:=s;obtain⟨hl1,hl2,hl3,h⟩:=h
  have hsub:=sub_zip
  have hL1:kP (Shared.heap ⟨hp,g,d,tk,os⟩) t.1 t.2 xs:=hl1
  have hL2:kP (Shared.heap ⟨hp.push (qR t.1 t.2),g,d,tk,os⟩) u.1 u.2 ys:=kP.at hl2 λo e=>fH _ e
  have hL3:kP (Shared.heap ⟨(hp.push (qR t.1 t.2)).push (qR u.1 u.2),g,d,tk,os⟩) v.1 v.2 zs:=kP.at hl3 λo e=>fH _ (fH _ e)
  wp_walk using pM hL1,pM hL2,pM hL3
  exact⟨_,rfl,h⟩
section
variable{prog:Program}{w:World}{A:Around}{E:Value->Shared->Prop}{s:Shared}
theorem aIU{t u:Bool×Addr}{Q:Value->Shared->Prop}(h1:kP s.heap t.1 t.2 xs)(h2:kP s.heap u.1 u.2 ys)(h:∀h',ZSt (s.heap.objs.size+4) (s.heap.objs.size+2) (s.heap.objs.size+3) [(t.1,s.heap.objs.size,t.2),(u.1,s.heap.objs.size+1,u.2)] 0 h'->(∀c o,s.heap.get? c=some o->h'.get? c=some o)->Q (.ref (s.heap.objs.size+4)) { s with heap:=h' }) :
  wpAny (model prog w) A (call (.type "zip") [.ref t.2,.ref u.2]) Q E s:=by
 refine callType_new F.called_zip (by decide) (F.typeCall_zip_2 _ _) (F.newCall_zip_2 _ _) (λobj=>F.args_object_init_3 obj _ _) F.entry_zip_new
  (aHJ t u xs ys) ⟨h1,h2,?_⟩
 have z1:(zg1 s.heap t).objs.size=s.heap.objs.size+1:=Ri9 ..
 have z2:(zg2 s.heap t u).objs.size=s.heap.objs.size+2:=by rw[Ri9,z1]
 have z3:(zk1 s.heap t u).objs.size=s.heap.objs.size+3:=by rw[Ri9,z2]
 have z4:(zk2 s.heap t u).objs.size=s.heap.objs.size+4:=by rw[Ri9,z3]
 have g5:(zk3 s.heap t u).get? (zk2 s.heap t u).objs.size=some _:=tE _ rfl
 have g4:(zk3 s.heap t u).get? (zk1 s.heap t u).objs.size=some _:=fH _ (tE _ rfl)
 have g3:(zk3 s.heap t u).get? (zg2 s.heap t u).objs.size=some _:=fH _ (fH _ (tE _ rfl))
 have g2:(zk3 s.heap t u).get? (zg1 s.heap t).objs.size=some (qR u.1 u.2):=fH _ (fH _ (fH _ (tE _ rfl)))
 have g1:(zk3 s.heap t u).get? s.heap.objs.size=some (qR t.1 t.2):=fH _ (fH _ (fH _ (fH _ (tE _ rfl))))
 show _/\_
 rw[z2,z3,z4] at g5
 rw[z1,z2] at g3
 rw[z3] at g4
 rw[z1] at g2
 rw[z4]
 refine⟨⟨_,g5,rfl⟩,h _ ⟨g5,g3,⟨_,g4,rfl⟩,λx hx=>?_⟩ λc o x=>
  fH _ (fH _ (fH _ (fH _ (fH _ x))))⟩
 simp only[sZ,Rj9,or_false] at hx
 rcases hx with rfl|rfl
 ·exact SIt.new g1
 ·exact SIt.new g2
theorem aIV{t u v:Bool×Addr}{xs ys zs:Array Value}{Q:Value->Shared->Prop}(h1:kP s.heap t.1 t.2 xs)(h2:kP s.heap u.1 u.2 ys)(h3:kP s.heap v.1 v.2 zs)
  (h:∀h',ZSt (s.heap.objs.size+5) (s.heap.objs.size+3) (s.heap.objs.size+4) [(t.1,s.heap.objs.size,t.2),(u.1,s.heap.objs.size+1,u.2),(v.1,s.heap.objs.size+2,v.2)] 0 h'->(∀c o,s.heap.get? c=some o->h'.get? c=some o)->Q (.ref (s.heap.objs.size+5)) { s with heap:=h' }) :
  wpAny (model prog w) A (call (.type "zip") [.ref t.2,.ref u.2,.ref v.2]) Q E s:=by
 refine callType_new F.called_zip (by decide) (aDV _ _ _) (aEZ _ _ _) (λobj=>aAo obj _ _ _) F.entry_zip_new
  (aHK t u v xs ys zs) ⟨h1,h2,h3,?_⟩
 have z1:(zg1 s.heap t).objs.size=s.heap.objs.size+1:=Ri9 ..
 have z2:(zg2 s.heap t u).objs.size=s.heap.objs.size+2:=by rw[Ri9,z1]
 have z3:(zg3 s.heap t u v).objs.size=s.heap.objs.size+3:=by rw[Ri9,z2]
 have z4:(zm1 s.heap t u v).objs.size=s.heap.objs.size+4:=by rw[Ri9,z3]
 have z5:(zm2 s.heap t u v).objs.size=s.heap.objs.size+5:=by rw[Ri9,z4]
 have g6:(zm3 s.heap t u v).get? (zm2 s.heap t u v).objs.size=some _:=tE _ rfl
 have g5:(zm3 s.heap t u v).get? (zm1 s.heap t u v).objs.size=some _:=fH _ (tE _ rfl)
 have g4:(zm3 s.heap t u v).get? (zg3 s.heap t u v).objs.size=some _:=fH _ (fH _ (tE _ rfl))
 have g3:(zm3 s.heap t u v).get? (zg2 s.heap t u).objs.size=some (qR v.1 v.2):=fH _ (fH _ (fH _ (tE _ rfl)))
 have g2:(zm3 s.heap t u v).get? (zg1 s.heap t).objs.size=some (qR u.1 u.2):=fH _ (fH _ (fH _ (fH _ (tE _ rfl))))
 have g1:(zm3 s.heap t u v).get? s.heap.objs.size=some (qR t.1 t.2):=fH _ (fH _ (fH _ (fH _ (fH _ (tE _ rfl)))))
 show _/\_
 rw[z3,z4,z5] at g6
 rw[z1,z2,z3] at g4
 rw[z4] at g5
 rw[z2] at g3
 rw[z1] at g2
 rw[z5]
 refine⟨⟨_,g6,rfl⟩,h _ ⟨g6,g4,⟨_,g5,rfl⟩,λx hx=>?_⟩ λc o x=>
  fH _ (fH _ (fH _ (fH _ (fH _ (fH _ x)))))⟩
 simp only[sZ,Rj9,or_false] at hx
 rcases hx with rfl|rfl|rfl
 ·exact SIt.new g1
 ·exact SIt.new g2
 ·exact SIt.new g3
end
theorem sN{n a b:Nat}(h:a≠b):@Ne Addr (n+a) (n+b):=λe=>h (Nat.add_left_cancel e)
theorem za2(n:Nat)(t u:Bool×Addr):ZA (n+4) (n+2) (n+3) [(t.1,n,t.2),(u.1,n+1,u.2)]:=by
 refine⟨sN (by decide),sN (by decide),sN (by decide),λx hx=>?_,?_⟩
 ·simp only[sZ,Rj9,or_false] at hx
  rcases hx with rfl|rfl
  ·exact⟨sN (a:=0) (by decide),sN (a:=0) (by decide),sN (a:=0) (by decide)⟩
  ·exact⟨sN (by decide),sN (by decide),sN (by decide)⟩
 ·simp
theorem za3(n:Nat)(t u v:Bool×Addr):ZA (n+5) (n+3) (n+4) [(t.1,n,t.2),(u.1,n+1,u.2),(v.1,n+2,v.2)]:=by
 refine⟨sN (by decide),sN (by decide),sN (by decide),λx hx=>?_,?_⟩
 ·simp only[sZ,Rj9,or_false] at hx
  rcases hx with rfl|rfl|rfl
  ·exact⟨sN (a:=0) (by decide),sN (a:=0) (by decide),sN (a:=0) (by decide)⟩
  ·exact⟨sN (by decide),sN (by decide),sN (by decide)⟩
  ·exact⟨sN (by decide),sN (by decide),sN (by decide)⟩
 ·simp
end L2
namespace L2
open PySem PySem.Spec PyProof.Rows
def Src(H:Hp)(k:Bool)(a:Addr)(xs:List V):Prop:=H a=some (if k=true then .lst xs else .tup xs)
theorem Src.inj{k:Bool}(h:Src H k a xs)(h':Src H k a ys):xs=ys:=by
 unfold Src at h h'
 rw[h] at h'
 cases k with
 |true=>injection h' with e;injection e
 |false=>injection h' with e;injection e
theorem Src.lst{H:Hp}{a:Addr}{xs:List V}(h:H a=some (.lst xs)):Src H true a xs:=h
theorem Src.tup{H:Hp}{a:Addr}{xs:List V}(h:H a=some (.tup xs)):Src H false a xs:=h
theorem Inv.src{s:Shared}{k:Bool}{xs:List V}(I:Inv X pins σ H s)(h:Src H k a xs):∃its:List Value,Vals xs its/\kP s.heap k a its.toArray/\xs.length<=sizeLine:=by
 cases k with
 |true=>
  obtain⟨its,r,p,z⟩:=I.list (bX.of h)
  exact⟨its,r,p.isList,z⟩
 |false=>
  obtain⟨its,r,p,z⟩:=I.tuple (jQ.of h)
  exact⟨its,r,p,z⟩
theorem aCg:∀{xs:List V}{us:List Value},xs.length=us.length->(∀(j:Nat) (x:V) (u:Value),xs[j]?=some x->us[j]?=some u->RelV x u)->Vals xs us
 |[],[],_,_=>.nil
 |x::xs,u::us,h,f=>.cons (f 0 x u rfl rfl) (aCg (by simpa using h) λj y v h1 h2=>f (j+1) y v (by simpa using h1) (by simpa using h2))
 |[],_::_,h,_=>by cases h
 |_::_,[],h,_=>by cases h
def ItZ(L:List (Bool×Addr)):It:=
 ⟨λi H=>∀t∈L,∃xs x,Src H t.1 t.2 xs/\xs[i]?=some x,
  λi H v H'=>∃T vs,H T=none/\v=.ref T/\H'=upd H T (.tup vs)/\vs.length=L.length/\∀(j:Nat) (t:Bool×Addr) (xs:List V),L[j]?=some t->Src H t.1 t.2 xs->∃x,xs[i]?=some x/\vs[j]?=some x,
  λi H=>(∀t∈L,∃xs,Src H t.1 t.2 xs)/\∃t∈L,∃xs,Src H t.1 t.2 xs/\xs.length<=i⟩
def zL(L:List ZS):List (Bool×Addr):=L.map λt=>(t.1,t.2.2)
theorem aMh{t:ZS}(h:t∈L):(t.1,t.2.2)∈zL L:=Qy9.mpr ⟨t,h,rfl⟩
theorem aQM{L:List ZS}{j:Nat}{t:Bool×Addr}(h:(zL L)[j]?=some t):∃u,L[j]?=some u/\t=(u.1,u.2.2):=by
 unfold zL at h
 rw[pG] at h
 cases e:L[j]? with
 |none=>rw[e] at h;cases h
 |some u=>rw[e] at h;cases h;exact⟨u,rfl,rfl⟩
abbrev zFp(z TI TO:Addr)(L:List ZS):List Addr:=z::TI::TO::L.map (·.2.1)
theorem aDW{z TI TO:Addr}{L:List ZS}{t:ZS}(h:t∈L):t.2.1∈zFp z TI TO L:=by
 simp only[zFp,sZ]
 exact .inr (.inr (.inr (Qy9.mpr ⟨t,h,rfl⟩)))
theorem ZSt.obj{z TI TO:Addr}{L:List ZS}{i:Nat}{h:Heap}(st:ZSt z TI TO L i h):∀b∈zFp z TI TO L,∃o,h.get? b=some o/\∀v,o.data≠.cell v:=λb hb=>by
 obtain⟨hz,hTI,⟨arr,hTO,_⟩,hit⟩:=st
 simp only[zFp,sZ] at hb
 rcases hb with rfl|rfl|rfl|hb
 ·exact⟨_,hz,λv z=>by cases z⟩
 ·exact⟨_,hTI,λv z=>by cases z⟩
 ·exact⟨_,hTO,λv z=>by cases z⟩
 ·obtain⟨t,ht,rfl⟩:=Qy9.mp hb
  obtain⟨o,vs,e,d⟩:=(hit t ht).obj
  exact⟨o,e,λv z=>by rw[d] at z;cases z⟩
theorem aFF{P:Program}{w:World}{K:W.Frag}{elts:List Expr}{x1:Nat}{tp:Pos}(L:List ZS)(z TI TO:Addr)(D:ZA z TI TO L)(hne:L≠[])(hlen:L.length<=1000) :
  Turn P w K (.Tuple elts x1 tp) (ItZ (zL L)) (zFp z TI TO L) z (ZSt z TI TO L) where
 mem:=by simp[zFp]
 obj:=λi h st=>st.obj
 keep:=λi h h' st k=>by
  obtain⟨hz,hTI,⟨arr,hTO,ha⟩,hit⟩:=st
  exact⟨k z (by simp[zFp]) _ hz,k TI (by simp[zFp]) _ hTI,⟨arr,k TO (by simp[zFp]) _ hTO,ha⟩,λt ht=>(hit t ht).at λo q=>k _ (aDW ht) o q⟩
 item:=by
  intro X hP hw hK hc i pins s σ H E I hf st hg
  subst hP hw hK
  have lts:∀b∈zFp z TI TO L,b < s.heap.objs.size:=λb hb=>by obtain⟨o,e,_⟩:=st.obj b hb;exact j0 e
  obtain⟨hz,hTI,⟨arr,hTO,harr⟩,hit⟩:=st
  have key:∀j:Nat,∃r:List Value×Value×V,∀t,L[j]?=some t->kP s.heap t.1 t.2.2 r.1.toArray/\(∀xs,Src H t.1 t.2.2 xs->xs[i]?=some r.2.2)/\r.1[i]?=some r.2.1/\RelV r.2.2 r.2.1/\t.2.2∉zFp z TI TO L:=λj=>by
   cases e:L[j]? with
   |none=>exact⟨([],.none,.non),λt h=>by cases h⟩
   |some t=>
    obtain⟨xs,x,hs,hx⟩:=hg _ (aMh (oH e))
    obtain⟨its,r,src,_⟩:=I.src hs
    obtain⟨u,hu,ru⟩:=r.get hx
    refine⟨(its,u,x),λt' h=>?_⟩
    cases h
    refine⟨src,λys hy=>by rw[hy.inj hs];exact hx,hu,ru,λhm=>?_⟩
    have:=(hf _ hm).1
    unfold Src at hs
    rw[show H t.2.2=some (if t.1=true then .lst xs else .tup xs) from hs] at this
    cases this
  obtain⟨f,hfk⟩:=Classical.axiomOfChoice key
  have S:aQK z TO L:=λt ht=>by
   obtain⟨j,hj⟩:=Rh9 ht
   have n:=(hfk j t hj).2.2.2.2
   refine⟨λe=>n (by rw[e];simp[zFp]),λe=>n (by rw[e];simp[zFp]),λu hu e=>n (by rw[e];exact aDW hu)⟩
  have inL:∀j,j < L.length->∃t,L[j]?=some t:=λj hj=>⟨_,eU hj⟩
  unfold pyNext
  have hT:s.TypeIs (.ref z) "zip":=⟨_,hz,rfl⟩
  refine wpAny_bind (wpAny_attempt (wpAny_callSpecial?_slot (name:=Str.ofString "__next__") hT F.slot_zip_next
   (wpAny_call_entry F.slot_zip_next hT F.entry_zip_next (aHI (items:=λj=>(f j).1.toArray) (xs:=λj=>(f j).2.1) (I.ok.hd hc) D S hne hlen hz hTI hTO harr hit (λj t hj=>(hfk j t hj).1) (λj hj x hx=>?_)
    (λ_ h1 arr' a1 a2 a3 a4 a5 a6 a7 hk=>wpAny_pure ⟨_,rfl,wpAny_letOwnedTupleGo_zip a1 λg2 hz2 hs2=>?_⟩) (λhE=>?_)) (F.args_zip_next_1 _))))
  ·obtain⟨t,ht⟩:=inL j hj
   have e:=(hfk j t ht).2.2.1
   have hx':(f j).1[i]?=some x:=by simpa using hx
   rw[e] at hx'
   exact(Option.some.inj hx').symm
  ·replace hs2:Heap.SameBut z h1 g2:=hs2
   have hT2:g2.IsTuple s.heap.objs.size arr':=⟨_,(hs2.2 _ (Sd9 (lts z (by simp[zFp])))).trans a6,rfl,_,rfl⟩
   have kk:∀b o,b∉zFp z TI TO L->s.heap.get? b=some o->g2.get? b=some o:=λb o hb q=>by
    have n1:b≠z:=λe=>hb (by rw[e];simp[zFp])
    exact(hs2.2 b n1).trans (hk b o n1 (λe=>hb (by rw[e];simp[zFp])) (λt ht e=>hb (by rw[e];exact aDW ht)) q)
   have rv:Vals ((List.range L.length).map λj=>(f j).2.2) arr'.toList:=by
    refine aCg (by simp[a3]) λj x u hx hu=>?_
    rw[pG] at hx
    by_cases hj:j < L.length
    ·rw[List.getElem?_range hj] at hx
     cases hx
     obtain⟨t,ht⟩:=inL j hj
     have e:=a4 j hj
     have hu':arr'[j]?=some u:=by simpa using hu
     rw[e] at hu'
     cases hu'
     exact(hfk j t ht).2.2.2.1
    ·rw[Ro9 (by simpa using hj)] at hx
     cases hx
   have I2:Inv X pins σ (upd H s.heap.objs.size (.tup ((List.range L.length).map λj=>(f j).2.2))) { s with heap:=g2 }:=
    I.aBQ (t':=s.toks) kk hf (eA _) (show cD X.prog X.w _ g2 _ (.tup _) from⟨cK (by simp;omega),arr'.toList,rv,by simpa using show IsTup g2 s.heap.objs.size arr' from hT2⟩)
   have hfr:H s.heap.objs.size=none:=I.hok.fresh (eA _)
   refine⟨.ref s.heap.objs.size,_,I2,rfl,⟨_,_,hfr,rfl,rfl,by simp[zL],λj t xs hj hs=>?_⟩,⟨hz2,?_,⟨arr',hs2.extBut _ _ D.TOz a2,a3⟩,λt ht=>(a5 t ht).at λo q=>(hs2.2 _ (D.it t ht).1).trans q⟩,λb hb=>?_⟩
   ·obtain⟨u,hu,rfl⟩:=aQM hj
    have hjl:j < L.length:=(qM.mp hu).1
    refine⟨(f j).2.2,(hfk j u hu).2.1 xs hs,?_⟩
    rw[pG,List.getElem?_range hjl]
    rfl
   ·exact hs2.extBut _ _ D.TIz (hk _ _ D.TIz D.TITO (λt ht=>Ne.symm (D.it t ht).2.1) hTI)
   ·rw[aW (vP (lts b hb))]
    exact(hf b hb).1
  ·exfalso
   obtain⟨j,hj,e⟩:=hE
   obtain⟨t,ht⟩:=inL j hj
   have e':(f j).1[i]?=none:=by simpa using e
   rw[(hfk j t ht).2.2.1] at e'
   cases e'
 done:=by
  intro X hP hw hK hc i pins s σ H E I hf st hg
  subst hP hw hK
  obtain⟨hz,hTI,⟨arr,hTO,harr⟩,hit⟩:=st
  obtain⟨hall,t0,ht0,xs0,hs0,hl0⟩:=hg
  have key:∀j:Nat,∃r:List Value,∀t,L[j]?=some t->kP s.heap t.1 t.2.2 r.toArray/\(∀xs,Src H t.1 t.2.2 xs->xs.length=r.length)/\t.2.2∉zFp z TI TO L:=λj=>by
   cases e:L[j]? with
   |none=>exact⟨[],λt h=>by cases h⟩
   |some t=>
    obtain⟨xs,hs⟩:=hall _ (aMh (oH e))
    obtain⟨its,r,src,_⟩:=I.src hs
    refine⟨its,λt' h=>?_⟩
    cases h
    refine⟨src,λys hy=>by rw[hy.inj hs];exact r.length,λhm=>?_⟩
    have:=(hf _ hm).1
    unfold Src at hs
    rw[show H t.2.2=some (if t.1=true then .lst xs else .tup xs) from hs] at this
    cases this
  obtain⟨f,hfk⟩:=Classical.axiomOfChoice key
  have S:aQK z TO L:=λt ht=>by
   obtain⟨j,hj⟩:=Rh9 ht
   have n:=(hfk j t hj).2.2
   refine⟨λe=>n (by rw[e];simp[zFp]),λe=>n (by rw[e];simp[zFp]),λu hu e=>n (by rw[e];exact aDW hu)⟩
  unfold pyNext
  have hT:s.TypeIs (.ref z) "zip":=⟨_,hz,rfl⟩
  refine wpAny_bind (wpAny_attempt (wpAny_callSpecial?_slot (name:=Str.ofString "__next__") hT F.slot_zip_next
   (wpAny_call_entry F.slot_zip_next hT F.entry_zip_next (aHI (items:=λj=>(f j).toArray) (xs:=λj=>((f j)[i]?).getD .none) (I.ok.hd hc) D S hne hlen hz hTI hTO harr hit (λj t hj=>(hfk j t hj).1) (λj hj x hx=>?_)
    (λhall'=>?_) (λhE h1 e hk he=>?_)) (F.args_zip_next_1 _))))
  ·have hx':(f j)[i]?=some x:=by simpa using hx
   rw[hx'];rfl
  ·exfalso
   obtain⟨u,hu,rfl⟩:=Qy9.mp ht0
   obtain⟨j,hj⟩:=Rh9 hu
   have e1:=(hfk j u hj).2.1 xs0 hs0
   have e2:=hall' j (qM.mp hj).1
   have e3:(f j)[i]?=some (((f j)[i]?).getD .none):=by simpa using e2
   rw[Ro9 (by omega)] at e3
   cases e3
  ·obtain⟨o,ho,hcl⟩:=he
   refine wpAny_bind (wpAny_isInstance (T:="StopIteration") (b:=true) ⟨o,ho,hcl⟩ isSubtype_stop ?_)
   refine wpAny_pure ⟨rfl,I.aKF (t':=s.toks) (ch:=zFp z TI TO L) (λb o hb q=>?_) hf⟩
   exact hk b o (λe=>hb (by rw[e];simp[zFp])) (λe=>hb (by rw[e];simp[zFp])) (λt ht e=>hb (by rw[e];exact aDW ht)) q
 self:=λ_ _ _ _ _ st h=>wpAny_pyIter_zip st.1 h
section
variable{X:Cx}{elts:List Expr}{x1:Nat}{tp:Pos}{k1 k2 k3:Bool}
def aQN(k1 k2:Bool)(R:It->Hp->Prop):List V->Hp->Prop:=λvs H1=>∃a b xs ys,vs=[.ref a,.ref b]/\Src H1 k1 a xs/\Src H1 k2 b ys/\R (ItZ [(k1,a),(k2,b)]) H1
def aMi(k1 k2:Bool)(ta:TA):TI:=λσ H R=>ta σ H (aQN k1 k2 R)
def aQO(k1 k2 k3:Bool)(R:It->Hp->Prop):List V->Hp->Prop:=λvs H1=>∃a b c xs ys zs,vs=[.ref a,.ref b,.ref c]/\Src H1 k1 a xs/\Src H1 k2 b ys/\Src H1 k3 c zs/\R (ItZ [(k1,a),(k2,b),(k3,c)]) H1
def aMj(k1 k2 k3:Bool)(ta:TA):TI:=λσ H R=>ta σ H (aQO k1 k2 k3 R)
theorem vals3{x y z:V}{us:List Value}(r:Vals [x,y,z] us):∃u v w,us=[u,v,w]/\RelV x u/\RelV y v/\RelV z w:=by
 cases r with
 |cons r1 r=>
  cases r with
  |cons r2 r=>
   cases r with
   |cons r3 r=>
    cases r
    exact⟨_,_,_,rfl,r1,r2,r3⟩
theorem aOq{a b:Expr}{ta:TA}{p pos:Pos}(hg:Gl X "zip")(hm:X.mg "zip" = none)(ha:PA X [a,b] ta)(hn:noStar a=true:=by rfl)(hn2:noStar b=true:=by rfl):PI X (.Tuple elts x1 tp) (.Call (.Name "zip" p) [a,b] [] pos) (aMi k1 k2 ta):=by
 intro pins s σ H R I h
 have hs2:starEach [b] X.env=[(false,eval b X.env)]:=bN hn2
 have hs:starEach [a,b] X.env=[(false,eval a X.env),(false,eval b X.env)]:=by rw[bN hn,hs2]
 refine Call_ (pH I hg hm aMf (PyProof.Rows.callWith_type1 (dI (ha pos pins s σ H _ I h) λus s1 ⟨vs,H1,I1,r1,q1⟩=>?_) (by rw[hs,hs2]) (by rw[hs2];rfl)))
 obtain⟨l1,l2,xs,ys,e,hq1,hq2,q⟩:=q1
 subst e
 obtain⟨u,v,rfl,ru,rv⟩:=vals2 r1
 cases ru
 cases rv
 obtain⟨its,_,pl,_⟩:=I1.src hq1
 obtain⟨its2,_,pl2,_⟩:=I1.src hq2
 refine aIU (t:=(k1,l1)) (u:=(k2,l2)) pl pl2 λh' st hk=>?_
 refine wpAny_pyIter_zip st.1 ?_
 refine⟨_,_,_,_,H1,rfl,I1.kept (t':=s1.toks) hk,aFF _ _ _ _ (za2 s1.heap.objs.size (k1,l1) (k2,l2)) (by simp) (by simp),st,λb hb=>?_,q⟩
 have hle:s1.heap.objs.size<=b:=by
  simp only[zFp,Rd9,Tk9,sZ,Rj9,or_false] at hb
  rcases hb with rfl|rfl|rfl|rfl|rfl <;> first|exact Nat.le_add_right _ _|exact eA _
 exact I1.aF8 hle (I1.hok.fresh hle)
theorem aOr{a b c:Expr}{ta:TA}{p pos:Pos}(hg:Gl X "zip")(hm:X.mg "zip" = none)(ha:PA X [a,b,c] ta)(hn:noStar a=true:=by rfl)(hn2:noStar b=true:=by rfl)(hn3:noStar c=true:=by rfl):PI X (.Tuple elts x1 tp) (.Call (.Name "zip" p) [a,b,c] [] pos) (aMj k1 k2 k3 ta):=by
 intro pins s σ H R I h
 have hs3:starEach [c] X.env=[(false,eval c X.env)]:=bN hn3
 have hs2:starEach [b,c] X.env=[(false,eval b X.env),(false,eval c X.env)]:=by rw[bN hn2,hs3]
 have hs:starEach [a,b,c] X.env=[(false,eval a X.env),(false,eval b X.env),(false,eval c X.env)]:=by rw[bN hn,hs2]
 refine Call_ (pH I hg hm aMf (PyProof.Rows.callWith_type1 (dI (ha pos pins s σ H _ I h) λus s1 ⟨vs,H1,I1,r1,q1⟩=>?_) (by rw[hs,hs2]) (by rw[hs2];rfl)))
 obtain⟨l1,l2,l3,xs,ys,zs,e,hq1,hq2,hq3,q⟩:=q1
 subst e
 obtain⟨u,v,w,rfl,ru,rv,rw'⟩:=vals3 r1
 cases ru
 cases rv
 cases rw'
 obtain⟨its,_,pl,_⟩:=I1.src hq1
 obtain⟨its2,_,pl2,_⟩:=I1.src hq2
 obtain⟨its3,_,pl3,_⟩:=I1.src hq3
 refine aIV (t:=(k1,l1)) (u:=(k2,l2)) (v:=(k3,l3)) pl pl2 pl3 λh' st hk=>?_
 refine wpAny_pyIter_zip st.1 ?_
 refine⟨_,_,_,_,H1,rfl,I1.kept (t':=s1.toks) hk,aFF _ _ _ _ (za3 s1.heap.objs.size (k1,l1) (k2,l2) (k3,l3)) (by simp) (by simp),st,λb hb=>?_,q⟩
 have hle:s1.heap.objs.size<=b:=by
  simp only[zFp,Rd9,Tk9,sZ,Rj9,or_false] at hb
  rcases hb with rfl|rfl|rfl|rfl|rfl|rfl <;> first|exact Nat.le_add_right _ _|exact eA _
 exact I1.aF8 hle (I1.hok.fresh hle)
end
section
variable{σ:St}{H:Hp}{nx:St->Hp->Prop}{rt:VK}{g:TG}{tb:TS}{Q:VK}{k1 k2 k3:Bool}{a b c:Addr}{xs ys zs:List V}{n:Nat}
theorem aMk{R:It->Hp->Prop}(h:ta σ H (aQN k1 k2 R)):aMi k1 k2 ta σ H R:=h
theorem aMl{ta:TA}{R:It->Hp->Prop}(h:ta σ H (aQO k1 k2 k3 R)):aMj k1 k2 k3 ta σ H R:=h
theorem aDX{R:It->Hp->Prop}(h1:Src H k1 a xs)(h2:Src H k2 b ys)(h:R (ItZ [(k1,a),(k2,b)]) H):aQN k1 k2 R [.ref a,.ref b] H:=⟨a,b,xs,ys,rfl,h1,h2,h⟩
theorem aGo{R:It->Hp->Prop}(h1:Src H k1 a xs)(h2:Src H k2 b ys)(h3:Src H k3 c zs)(h:R (ItZ [(k1,a),(k2,b),(k3,c)]) H):aQO k1 k2 k3 R [.ref a,.ref b,.ref c] H:=⟨a,b,c,xs,ys,zs,rfl,h1,h2,h3,h⟩
theorem aOs{i:Nat}(h1:Src H k1 a xs)(h2:Src H k2 b ys)(e1:xs[i]?=some x)(e2:ys[i]?=some y):(ItZ [(k1,a),(k2,b)]).go i H:=λt ht=>by
 simp only[sZ,Rj9,or_false] at ht
 rcases ht with rfl|rfl
 ·exact⟨xs,x,h1,e1⟩
 ·exact⟨ys,y,h2,e2⟩
theorem aMm{i:Nat}(h1:Src H k1 a xs)(h2:Src H k2 b ys)(h:(ItZ [(k1,a),(k2,b)]).yld i H v H'):∃T x y,H T=none/\v=.ref T/\H'=upd H T (.tup [x,y])/\xs[i]?=some x/\ys[i]?=some y:=by
 obtain⟨T,vs,nT,e1,e2,hl,hv⟩:=h
 obtain⟨x,hx,v0⟩:=hv 0 _ xs rfl h1
 obtain⟨y,hy,v1⟩:=hv 1 _ ys rfl h2
 match vs,hl with
 |[p,q],_=>cases v0;cases v1;exact⟨T,_,_,nT,e1,e2,hx,hy⟩
theorem aKJ{i:Nat}(h1:Src H k1 a xs)(h2:Src H k2 b ys)(hm:xs.length<=i\/ys.length<=i):(ItZ [(k1,a),(k2,b)]).stop i H:=by
 refine⟨λt ht=>?_,?_⟩
 ·simp only[sZ,Rj9,or_false] at ht
  rcases ht with rfl|rfl
  ·exact⟨xs,h1⟩
  ·exact⟨ys,h2⟩
 ·rcases hm with h|h
  ·exact⟨(k1,a),by simp,xs,h1,h⟩
  ·exact⟨(k2,b),by simp,ys,h2,h⟩
theorem aOt{i:Nat}(h1:Src H k1 a xs)(h2:Src H k2 b ys)(h3:Src H k3 c zs){x y z:V}(e1:xs[i]?=some x)(e2:ys[i]?=some y)(e3:zs[i]?=some z):(ItZ [(k1,a),(k2,b),(k3,c)]).go i H:=λt ht=>by
 simp only[sZ,Rj9,or_false] at ht
 rcases ht with rfl|rfl|rfl
 ·exact⟨xs,x,h1,e1⟩
 ·exact⟨ys,y,h2,e2⟩
 ·exact⟨zs,z,h3,e3⟩
theorem aMn{i:Nat}(h1:Src H k1 a xs)(h2:Src H k2 b ys)(h3:Src H k3 c zs){v:V}{H':Hp}(h:(ItZ [(k1,a),(k2,b),(k3,c)]).yld i H v H'):∃T x y z,H T=none/\v=.ref T/\H'=upd H T (.tup [x,y,z])/\xs[i]?=some x/\ys[i]?=some y/\zs[i]?=some z:=by
 obtain⟨T,vs,nT,e1,e2,hl,hv⟩:=h
 obtain⟨x,hx,v0⟩:=hv 0 _ xs rfl h1
 obtain⟨y,hy,v1⟩:=hv 1 _ ys rfl h2
 obtain⟨z,hz,v2⟩:=hv 2 _ zs rfl h3
 match vs,hl with
 |[p,q,r],_=>cases v0;cases v1;cases v2;exact⟨T,_,_,_,nT,e1,e2,hx,hy,hz⟩
theorem aKK{i:Nat}(h1:Src H k1 a xs)(h2:Src H k2 b ys)(h3:Src H k3 c zs)(hm:xs.length<=i\/ys.length<=i\/zs.length<=i):(ItZ [(k1,a),(k2,b),(k3,c)]).stop i H:=by
 refine⟨λt ht=>?_,?_⟩
 ·simp only[sZ,Rj9,or_false] at ht
  rcases ht with rfl|rfl|rfl
  ·exact⟨xs,h1⟩
  ·exact⟨ys,h2⟩
  ·exact⟨zs,h3⟩
 ·rcases hm with h|h|h
  ·exact⟨(k1,a),by simp,xs,h1,h⟩
  ·exact⟨(k2,b),by simp,ys,h2,h⟩
  ·exact⟨(k3,c),by simp,zs,h3,h⟩
end
section
variable{σ₀:St}{g:TG}{tt:TT}{te:TE}{R:List V->Hp->Prop}{H:Hp}{k1 k2 k3:Bool}{a b c:Addr}{xs ys zs:List V}{n:Nat}
theorem tK(n1:n<=xs.length)(n2:n<=ys.length)(nm:xs.length=n\/ys.length=n)(hz:n<=sizeLine)(Pv:Nat->List V->Hp->Prop)(h0:Pv 0 [] H)
  (hl:∀i us H,i<=n->Pv i us H->(Src H k1 a xs/\Src H k2 b ys)/\us.length<=i)
  (hs:∀i x y us H T,xs[i]?=some x->ys[i]?=some y->Pv i us H->H T=none->g (.ref T) σ₀ (upd H T (.tup [x,y])) λσ2 H2=>tt σ2 H2 λb H3=>if b=true then te σ2 H3 λy H4=>Pv (i+1) (us ++ [y]) H4 else Pv (i+1) us H3)
  (hd:∀us H,Pv n us H->R us H):nU (ItZ [(k1,a),(k2,b)]) σ₀ g tt te R H:=by
 refine⟨λi m us H=>m=n - i/\i<=n/\Pv i us H,⟨n,by simp,Rl9 _,h0⟩,?_⟩
 rintro i m us H ⟨rfl,hi,p⟩
 obtain⟨⟨q1,q2⟩,ql⟩:=hl i us H hi p
 refine⟨by omega,?_⟩
 by_cases hlt:i < n
 ·refine .inr ⟨aOs q1 q2 (eU (show i < xs.length by omega)) (eU (show i < ys.length by omega)),Pv (i+1),λus' H' p'=>⟨n - (i+1),by omega,rfl,hlt,p'⟩,λx H' y=>?_⟩
  obtain⟨T,u,v,hT,e1,e2,y1,y2⟩:=aMm q1 q2 y
  subst e1 e2
  exact hs i u v us H T y1 y2 p hT
 ·have e:i=n:=by omega
  subst e
  exact .inl ⟨aKJ q1 q2 (by omega),hd us H p⟩
theorem yZ(n1:n<=xs.length)(n2:n<=ys.length)(n3:n<=zs.length)(nm:xs.length=n\/ys.length=n\/zs.length=n)(hz:n<=sizeLine)(Pv:Nat->List V->Hp->Prop)(h0:Pv 0 [] H)
  (hl:∀i us H,i<=n->Pv i us H->(Src H k1 a xs/\Src H k2 b ys/\Src H k3 c zs)/\us.length<=i)
  (hs:∀i x y z us H T,xs[i]?=some x->ys[i]?=some y->zs[i]?=some z->Pv i us H->H T=none->g (.ref T) σ₀ (upd H T (.tup [x,y,z])) λσ2 H2=>tt σ2 H2 λb H3=>if b=true then te σ2 H3 λy H4=>Pv (i+1) (us ++ [y]) H4 else Pv (i+1) us H3)
  (hd:∀us H,Pv n us H->R us H):nU (ItZ [(k1,a),(k2,b),(k3,c)]) σ₀ g tt te R H:=by
 refine⟨λi m us H=>m=n - i/\i<=n/\Pv i us H,⟨n,by simp,Rl9 _,h0⟩,?_⟩
 rintro i m us H ⟨rfl,hi,p⟩
 obtain⟨⟨q1,q2,q3⟩,ql⟩:=hl i us H hi p
 refine⟨by omega,?_⟩
 by_cases hlt:i < n
 ·refine .inr ⟨aOt q1 q2 q3 (eU (show i < xs.length by omega)) (eU (show i < ys.length by omega)) (eU (show i < zs.length by omega)),Pv (i+1),λus' H' p'=>⟨n - (i+1),by omega,rfl,hlt,p'⟩,λx H' y=>?_⟩
  obtain⟨T,u,v,w,hT,e1,e2,y1,y2,y3⟩:=aMn q1 q2 q3 y
  subst e1 e2
  exact hs i u v w us H T y1 y2 y3 p hT
 ·have e:i=n:=by omega
  subst e
  exact .inl ⟨aKK q1 q2 q3 (by omega),hd us H p⟩
end
section
variable{X:Cx}
def aJF(K:W.Frag):List V->Hp->VK->Prop:=λxs H Q=>∃(p:Addr) (ns:List Int),xs=[.ref p]/\jQ K H p (ns.map V.int)/\Q (.int (List.sum ns)) H
theorem aFG(hc:X.calm=true):fE X (.builtin "sum") (aJF X.K):=by
 intro pins s σ H xs us Q I r h
 obtain⟨p,ns,rfl,hq,q⟩:=h
 obtain⟨u,rfl,rx⟩:=vals1 r
 cases rx
 obtain⟨its,r',pl,hz⟩:=I.tuple hq
 have hi:=intsAre_of r'
 obtain⟨xs,hx⟩:=hi.allInts.items
 have hl':s.heap.IsTuple p (intItems xs):=hx▸pl
 refine PySem.W.ktm_sumG (I.ok.hd hc) hl' λh' tk t' hk=>?_
 have e1:ns=xs.toList.map (·.1):=by
  rw[<-nums_intItems,<-hx]
  exact(show numsOf its.toArray.toList=ns from hi.numsOf).symm
 have e2:preSum (numAt xs) xs.size=ns.sum:=by
  rw[preSum_eq,Rw9 (by simp),e1]
 rw[e2]
 exact⟨.int _,H,I.kept (t':=tk) hk,⟨t',rfl⟩,q⟩
theorem aJG{K:W.Frag}{H:Hp}{Q:VK}{p:Addr}{ns:List Int}(h1:jQ K H p (ns.map V.int))(h:Q (.int (List.sum ns)) H):aJF K [.ref p] H Q:=⟨p,ns,rfl,h1,h⟩
def aBU(K:W.Frag):List V->Hp->VK->Prop:=λxs H Q=>∃p ys,xs=[.ref p]/\((bX K H p ys/\∀l,H l=none->Q (.ref l) (upd H l (.tup ys)))\/(jQ K H p ys/\Q (.ref p) H))
theorem y7:fE X (.type "tuple") (aBU X.K):=aEX
theorem aDt{K:W.Frag}{H:Hp}{Q:VK}{p:Addr}{ys:List V}(h1:bX K H p ys)(h:∀l,H l=none->Q (.ref l) (upd H l (.tup ys))):aBU K [.ref p] H Q:=⟨p,ys,rfl,.inl ⟨h1,h⟩⟩
structure Isi(K:W.Frag)(C:Addr):Prop where
 ha:PySem.W.findIn K (.ref C) "__class__" = some (some (.builtin "object.__class__"))
 hn:PySem.W.specialIn K (.builtin "object.__class__") "__get__" = some (some (.builtin "getset_descriptor.__get__"))
 htk:PySem.W.takesIn K (.builtin "object.__class__")=some true
 hm:PySem.W.mroIn K C (.type "object")=some true
theorem aJH{K:W.Frag}{H:Hp}{a C dx:Addr}{fs:List (Str×V)}(i:Isi K C)(c:Cls K C)(e:H a=some (.ins C dx fs)):IsI K H (.ref a) (.ref C) true:=
 ⟨.ref C,.ins e c i.ha i.hn i.htk i.hm,.inr ⟨C,rfl,by unfold PySem.W.kitOne;rw[if_pos (by simp)]⟩⟩
end
end L2
namespace L2.Z
open PySem PySem.Spec PyProof.Rows L2
section
variable{X:Cx}{p pos tp:Pos}{a b c:Expr}{elts:List Expr}{t:TA}{x1:Nat}{k1 k2 k3:Bool}
theorem pN(hg:Gl X "zip")(hm:X.mg "zip" = none)(ha:QA X [a,b] t)(hn:noStar a=true:=by rfl)(hn2:noStar b=true:=by rfl):QI X (.Tuple elts x1 tp) (.Call (.Name "zip" p) [a,b] [] pos) (aMi k1 k2 t):=⟨L2.aOq hg hm ha.h hn hn2⟩
theorem uQ(hg:Gl X "zip")(hm:X.mg "zip" = none)(ha:QA X [a,b,c] t)(hn:noStar a=true:=by rfl)(hn2:noStar b=true:=by rfl)(hn3:noStar c=true:=by rfl):QI X (.Tuple elts x1 tp) (.Call (.Name "zip" p) [a,b,c] [] pos) (aMj k1 k2 k3 t):=⟨L2.aOr hg hm ha.h hn hn2 hn3⟩
end
end L2.Z
namespace L2
open PySem PySem.Spec PyProof.Rows
theorem nw(o:HO)(n:H p=none):∃H2,upd H p o=H2/\aQ H H2/\H2 p=some o:=⟨_,rfl,aQ.new n,aP⟩
theorem wr(H:Hp)(p:Addr)(o:HO):∃H2,upd H p o=H2/\cU p H H2/\H2 p=some o:=⟨_,rfl,cU.upd,aP⟩
theorem nwi{H:Hp}{x dx C:Addr}(nx:H x=none)(nd:H dx=none)(hd:dx≠x):∃H2,upd (upd H dx (.own x)) x (.ins C dx [])=H2/\aQ H H2/\H2 x=some (.ins C dx []):=
 ⟨_,rfl,λb o e=>by rw[aW (bM nx e),aW (bM nd e)];exact e,aP⟩
end L2
namespace L2
open PySem PySem.Spec PyProof.Rows
end L2
namespace L2
open PySem PySem.Spec PyProof.Rows
def Nx(N:St->Hp->Prop)(σ:St)(H:Hp):Prop:=N σ H
structure Tail(N b:St->Hp->Prop):Prop where
 h:∀σ H,b σ H->N σ H
theorem aOu{nx bk ct:St->Hp->Prop}{t u:TS}(h:∀N,Tail N (u ⟨nx,rt,bk,ct⟩)->t ⟨Nx N,rt,bk,ct⟩ σ H):aLh t u ⟨nx,rt,bk,ct⟩ σ H:=h _ ⟨λ_ _ h=>h⟩
theorem aRI{N b:St->Hp->Prop}(t:Tail N b)(h:b σ H):Nx N σ H:=t.h _ _ h
end L2
namespace L2
open PySem PySem.Spec PyProof.Rows
section
variable{prog:Program}{w:World}{A:Around}{E:Value->Shared->Prop}{s:Shared}{K:W.Frag}{x C:Addr}{ox:Obj}{od:Option Obj}
end
section
variable{X:Cx}
end
end L2
namespace L2
open PySem PySem.Spec PyProof.Rows
section
variable{X:Cx}{pins:List (Addr×Obj)}{σ:St}{H:Hp}{s:Shared}
end
theorem cD.obj{h:Heap}(x:cD P w H h a o):∃u,h.get? a=some u:=by
 cases o with
 |lst xs=>obtain⟨_,_,_,_,e⟩:=x;exact⟨_,e⟩
 |tup xs=>obtain⟨_,_,_,u,e,_⟩:=x;exact⟨u,e⟩
 |dK kvs=>obtain⟨_,_,_,_,u,_,_,e,_⟩:=x;exact⟨u,e⟩
 |dT kvs=>obtain⟨_,_,_,_,u,_,_,e,_⟩:=x;exact⟨u,e⟩
 |set S n=>obtain⟨u,_,_,_,e,_⟩:=x;exact⟨u,e⟩
 |ins C dx fs=>obtain⟨_,_,_,e,_⟩:=x;exact⟨_,e⟩
 |own y=>exact x
 |xd fs=>obtain⟨_,⟨u,_,_,e,_⟩,_⟩:=x;exact⟨u,e⟩
 |rng lo hi=>obtain⟨_,_,_,e⟩:=x;exact⟨_,e⟩
 |frz ob u=>exact⟨_,x.1⟩
 |tbl ps=>exact⟨_,x⟩
 |met f y=>exact⟨_,x⟩
 |ext φ=>exact x.2.1
 |cod q=>obtain⟨o,_,_,e,_⟩:=x;exact⟨o,e⟩
 |ctb pos q=>obtain⟨_,e,_⟩:=x;exact⟨_,e⟩
theorem Inv.aO5{X:Cx}{pins:List (Addr×Obj)}{σ:St}{H:Hp}{s:Shared}{h':Heap}{a:Addr}{o:HO}{t':Nat}(I:Inv X pins σ H s)(k:∀b u,s.heap.get? b=some u->h'.get? b=some u)(hne:∀b u,s.heap.get? b=some u->b≠a)
  (new:cD X.prog X.w (upd H a o) h' a o):H a=none/\Inv X pins σ (upd H a o) { s with heap:=h',toks:=t' }:=by
 have hn:H a=none:=by
  cases e:H a with
  |none=>rfl
  |some u=>
   obtain⟨ob,z⟩:=(I.hok a u e).obj
   exact absurd rfl (hne a ob z)
 refine⟨hn,I.un ⟨λb u q _ _ _=>k b u q,λb u q _ _ _=>⟨u.slots,k b u q⟩,λb u q n _=>?_,λb u q _=>⟨u,k b u q⟩,λb xs q=>?_,λb u xs q=>?_,λb ps q=>⟨#[],?_⟩⟩ λb u e=>?_⟩
 ·rw[aW (hne b u q)];exact n
 ·rw[aW (bG q hn)];exact q
 ·rw[aW (bG q hn)];exact q
 ·rw[aW (bG q hn),q];simp
 ·by_cases hb:b=a
  ·subst hb;rw[aP] at e;cases e;exact new
  ·rw[aW hb] at e
   exact(I.hok b u e).aCJ (λc v _ q=>k c v q) (λc q=>by rw[aW (bG q hn)];exact q) λc xs _ q=>by rw[aW (bG q hn)];exact q
section
variable{X:Cx}{tg:Expr}
end
section
variable{σ:St}{H:Hp}{nx:St->Hp->Prop}{rt:VK}{g:TG}{tb:TS}
end
section
variable{X:Cx}
end
section
variable{X:Cx}{o e:Expr}{to:TE}{apos cpos:Pos}
end
section
variable{K:W.Frag}{σ:St}{H:Hp}{Q:VK}
end
end L2
namespace L2.Z
open PySem PySem.Spec PyProof.Rows
section
variable{X:Cx}{K':W.Frag}{tg o i value l:Expr}{to td ty tv tl:TE}{pos pos' apos cpos:Pos}
theorem aAp(hu:X.A.units+9 < cLine)(ho:QE X o td)(hi:QE X i ty)(hv:QE X value tv)(hs:swapsWith value (some (.Subscript o i pos')) pos.line X.env=pure false:=by rfl) :
  QS X (.Assign [.Subscript o i pos'] value pos) (aLK td ty tv):=⟨L2.aNQ (by omega) ho.h hi.h hv.h hs⟩
end
end L2.Z
namespace L2
open PySem PySem.Spec PyProof.Rows
section
variable{σ:St}{H:Hp}{Q:VK}{nx bk ct:St->Hp->Prop}{rt:VK}
theorem aOv(h:tv σ H λv H1=>td σ H1 λx H2=>ty σ H2 λy H3=>∃a H4,x=.ref a/\aDL H3 a y v H4/\nx σ H4):aLK td ty tv ⟨nx,rt,bk,ct⟩ σ H:=h
end
end L2
namespace L2
open PySem PySem.Spec PyProof.Rows
section
variable{prog:Program}{w:World}{A:Around}{E:Value->Shared->Prop}{s:Shared}{K:W.Frag}{x C:Addr}{ox:Obj}{od:Option Obj}{name:Str}{v:Value}{expr:Bool}
end
section
variable{prog:Program}{w:World}{A:Around}{E:Value->Shared->Prop}{s:Shared}{K:W.Frag}{x C:Addr}{o:Obj}{name:Str}{v:Value}
open PySem.Builtin PySem.Builtin.ObjectAttr in
end
section
variable{prog:Program}{w:World}{A:Around}{E:Value->Shared->Prop}{s:Shared}{K:W.Frag}
variable{nm q:Str}{C N fI:Addr}{bs bm bmB:List Value}{hdct:Bool}{sn:List Str}{sub:List Value}{ab:Bool}{col:Option Bool}{dd:Option Addr}{k0 k1 k2 k3 k5:Option Value}{B newId initId:String}
end
structure Lft(fs:List Addr)(e:Addr)(oe:Obj)(h h':Heap):Prop where
 keep:∀b o,b∉fs->b≠e->h.get? b=some o->h'.get? b=some o
 slot:∀b o,b∈fs->h.get? b=some o->∃sl,h'.get? b=some { o with slots:=sl }
 err:∃vs T oT ts,h'.get? e=some { oe with data:=.fields vs }/\vs[1]?=some (.ref T)/\T≠e/\h.objs.size<=T/\h'.get? T=some oT/\oT.data=.fields ts/\ts[3]?=some .none
section
variable{M:Model}{A:Around}{E:Value->Shared->Prop}{s:Shared}{base:Heap}{env:Env}{outer:List Env}{L e:Addr}{oe:Obj}{vs:Array Value}{Q:Unit->Shared->Prop}
end
def aOw(C:Addr)(od:Option Addr)(e:Addr):HO:=.ext λh=>∃o vs,h.get? e=some o/\o.cls=.ref C/\o.dict=od/\o.data=.fields vs
theorem aOx{P:Program}{w:World}{H:Hp}{h:Heap}{C e:Addr}{od:Option Addr}{o:Obj}{vs:Array Value}(h1:h.get? e=some o)(h2:o.cls=.ref C)(h3:o.dict=od)(h4:o.data=.fields vs):cD P w H h e (aOw C od e):=
 ⟨⟨o,vs,h1,h2,h3,h4⟩,⟨o,h1⟩,λ_ _ z k=>let ⟨o,vs,a,b,c,d⟩:=z;⟨o,vs,k o a,b,c,d⟩⟩
theorem aOy{P:Program}{w:World}{H:Hp}{h:Heap}{C e:Addr}{od:Option Addr}(x:cD P w H h e (aOw C od e)):∃o vs,h.get? e=some o/\o.cls=.ref C/\o.dict=od/\o.data=.fields vs:=x.1
section
variable{X:Cx}{pins:List (Addr×Obj)}{σ:St}{H:Hp}{s:Shared}{h':Heap}{C e:Addr}{od:Option Addr}{oe:Obj}
theorem Inv.left(I:Inv X pins σ H s)(he:H e=some (aOw C od e))(ho:s.heap.get? e=some oe)(lf:Lft (frs X.stack) e oe s.heap h'):Inv X pins σ H { s with heap:=h' }:=by
 obtain⟨o,vs,q1,q2,q3,q4⟩:=aOy (I.hok e _ he)
 rw[ho] at q1
 cases q1
 have stk:=I.aDn
 obtain⟨vs2,T,oT,ts,r1,_⟩:=lf.err
 have tr:∀b u,H b=some u->b∉frs X.stack:=λb u z hb=>by rw[stk b hb] at z;cases z
 refine I.call (g':=s.gens) (d':=s.drawn) (t':=s.toks) (ch:=[]) ⟨λb o z n hb _=>lf.keep b o hb (λq=>by rw[q,he] at n;cases n) z,λb o z n hb _=>lf.slot b o hb z,λb o z n _=>n,λb o z _=>?_,λ_ _ z=>z,λ_ _ _ z=>z,λb ps z=>⟨#[],by rw[z];simp⟩⟩ (λa u z=>?_) I.bare (λb z=>nomatch z)
 ·by_cases hb:b∈frs X.stack
  ·obtain⟨sl,q⟩:=lf.slot b o hb z;exact⟨_,q⟩
  ·by_cases hbe:b=e
   ·subst hbe;exact⟨_,r1⟩
   ·exact⟨o,lf.keep b o hb hbe z⟩
 ·by_cases hae:a=e
  ·subst hae
   rw[he] at z
   cases z
   exact aOx r1 q2 q3 rfl
  ·refine(I.hok a u z).aCJ (λb v hb q=>?_) (λ_ q=>q) λ_ _ _ q=>q
   rcases hb with rfl|hb
   ·exact lf.keep _ v (tr _ _ z) hae q
   ·exact lf.keep _ v (tr _ _ hb) (λy=>by rw[y,he] at hb;cases hb) q
end
end L2
namespace L2
open PySem PySem.Spec PyProof.Rows
section
variable{X:Cx}{pins:List (Addr×Obj)}{σ:St}{H:Hp}{s:Shared}
end
end L2
namespace L2
open PySem PySem.Spec PyProof.Rows
section
variable{X:Cx}{k:Nat}{f C:Addr}{fd:FuncData}{ps:List Str}{sp:Sp}{x:Str}{p pos:Pos}{e:Expr}{es:List Expr}{t:TA}{te:TE}
end
end L2
namespace L2
open PySem PySem.Spec PyProof.Rows
section
variable{X:Cx}{o e value:Expr}{f:Str}{pos pos':Pos}{ta tv:TE}
end
end L2
namespace L2
open PySem PySem.Spec PyProof.Rows
section
variable{prog:Program}{w:World}{A:Around}{E:Value->Shared->Prop}{s:Shared}{K:W.Frag}{x D:Addr}{ox:Obj}{odo:Option Obj}
end
def aBV(H:Hp)(od:Option Addr):Prop:=∀dx,od=some dx->∃fs,H dx=some (.xd fs)
theorem aBV.none:aBV H none:=λ_ z=>nomatch z
theorem aBV.some(h:H dx=some (.xd fs)):aBV H (some dx):=λ_ z=>by cases z;exact⟨fs,h⟩
theorem aBV.there{P:Program}{w:World}{H:Hp}{h:Heap}{od:Option Addr}(hok:vZ P w H h)(d:aBV H od):∀dx,od=Option.some dx->∃o,h.get? dx=Option.some o:=λdx z=>by
 obtain⟨fs,e⟩:=d dx z
 exact(hok dx _ e).obj
section
variable{X:Cx}{K:W.Frag}{H:Hp}{Q:VK}
end
end L2
namespace L2
open PySem PySem.Spec PyProof.Rows
abbrev TW:=St->Hp->Addr->Prop
structure aQP(X:Cx)(pins:List (Addr×Obj))(T:Addr):Prop where
 up:X.s₀.heap.objs.size<=T
 loc:T≠X.env.locals
 cell:∀x c,X.env.cells.lookup x=some c->c≠T
 pin:∀p∈X.pn++pins,p.1≠T
structure aR7(X:Cx)(pins:List (Addr×Obj))(H:Hp)(h:Heap)(e:Addr):Prop where
 ex:∃(C:Addr) (od:Option Addr) (oe:Obj) (vs:Array Value) (T:Addr) (oT:Obj) (ts:Array Value),H e=some (aOw C od e)/\h.get? e=some oe/\oe.data=.fields vs/\vs[1]?=some (.ref T)/\T≠e/\aQP X pins T/\H T=none/\h.get? T=some oT/\oT.data=.fields ts/\ts[3]?=some .none
def aQQ(X:Cx)(pins:List (Addr×Obj))(W:TW)(ev:Value)(s':Shared):Prop:=∃(e:Addr) (σ:St) (H':Hp),ev=.ref e/\Inv X pins σ H' s'/\aR7 X pins H' s'.heap e/\W σ H' e
def Cx.tr(X:Cx)(pins:List (Addr×Obj))(W:TW):Cx:={ X with pn:=X.pn++pins,xe:=aQQ X pins W }
def Cx.hnd(X:Cx)(e:Addr):Cx:={ X with A:=X.A.mark (some (.ref e)),calm:=false,xe:=λ_ _=>False }
section
variable{X:Cx}{pins pins':List (Addr×Obj)}{σ:St}{H:Hp}{s:Shared}{W:TW}{e:Addr}
theorem Cx.Ok.tr(ok:X.Ok):(X.tr pins W).Ok:=⟨ok.mod,ok.kind,ok.glob,ok.blt,ok.above,ok.inj,ok.has,ok.cab,ok.hd,ok.frames,ok.stk,ok.exf,ok.bs,ok.bsz,ok.noex,ok.exfs,ok.zH,ok.frf⟩
theorem Cx.Ok.hnd(ok:X.Ok):(X.hnd e).Ok:=⟨ok.mod,ok.kind,ok.glob,ok.blt,ok.above,ok.inj,ok.has,ok.cab,(λz=>Bool.noConfusion z),ok.frames,ok.stk,ok.exf,ok.bs,ok.bsz,ok.noex,ok.exfs,ok.zH,ok.frf⟩
theorem Inv.tr(I:Inv X pins σ H s):Inv (X.tr pins W) [] σ H s:=⟨I.ok.tr,I.os,I.bare,I.base,I.loc,I.cell,I.free,I.freeC,λp hp=>I.pin p (by rw[Rt9] at hp;exact hp),I.hok,I.len⟩
theorem Inv.hnd(I:Inv X pins σ H s):Inv (X.hnd e) pins σ H s:=⟨I.ok.hnd,I.os,I.bare,I.base,I.loc,I.cell,I.free,I.freeC,I.pin,I.hok,I.len⟩
end
abbrev TH:=Ends->St->Hp->Addr->Prop
section
variable{X:Cx}{x n:Str}{C0:Addr}{i:Nat}{b₀:Stmt}{suite body:List Stmt}{np pos:Pos}{rest:List ExceptHandler}{h₀:ExceptHandler}{hs:List ExceptHandler}{ts:TS}{th:TH}{tb:TW->TS}
end
end L2
namespace L2
open PySem PySem.Spec PyProof.Rows
section
variable{X:Cx}{pn:List (Addr×Obj)}{W:TW}{k:Nat}{f C:Addr}{fd:FuncData}{ps:List Str}{sp:Sp}{x:Str}{p pos:Pos}{e:Expr}{es:List Expr}{t:TA}
end
structure aFH(k:Nat)(A:Around):Prop where
 dp:A.depth+3*k+5 < recursionLimit
 un:A.units+16*k+200 < cLine
theorem eN.h{k:Nat}(r:eN k A):aFH k A:=⟨r.dp,r.un⟩
theorem aFH.mark{k:Nat}{A:Around}(r:aFH k A)(o:Option Value):aFH k (A.mark o):=⟨r.dp,r.un⟩
theorem aFH.calm{k:Nat}{A:Around}(r:aFH k A):eN k { A with handled:=none }:=⟨rfl,r.dp,r.un⟩
section
variable{X:Cx}{k:Nat}{f:Addr}{fd:FuncData}{ps:List Str}{sp:Sp}{x:Str}{p pos:Pos}{e:Expr}{es:List Expr}{t:TA}
end
end L2
namespace L2
open PySem PySem.Spec PyProof.Rows
section
variable{K:W.Frag}{σ:St}{H:Hp}{Q:VK}{nx bk ct:St->Hp->Prop}{rt:VK}
end
end L2
namespace L2.Z
open PySem PySem.Spec PyProof.Rows L2
section
variable{X:Cx}{K':PySem.W.Frag}{pn:List (Addr×Obj)}{W:TW}{k:Nat}{f C C0:Addr}{fd:FuncData}{ps:List Str}{sp:Sp}{x n:Str}{p pos pos' np:Pos}{e o:Expr}{es:List Expr}{t:TA}{te ta:TE}{E:XK}{i:Nat}{b₀:Stmt}{suite body:List Stmt}{rest hs:List ExceptHandler}{h₀:ExceptHandler}{ts:TS}{th:TH}{tb:TW->TS}
end
end L2.Z
namespace L2
open PySem PySem.Spec PyProof.Rows
section
variable{X:Cx}
end
end L2
namespace L2
open PySem PySem.Spec PyProof.Rows
end L2
namespace L2
open PySem PySem.Spec PyProof.Rows
section
variable{X:Cx}{o e:Expr}{to:TE}{t:TA}{apos cpos:Pos}
theorem aJI:∀{ns:List Int}{us:List Value},Vals (ns.map V.int) us->IntsAre us ns
 |[],_,.nil=>.nil
 |n::ns,_,.cons r t=>by
  obtain⟨k,rfl⟩:=(show ∃k,_=Value.int n k from r)
  exact .cons n k (aJI t)
def aGp(K:W.Frag):V->List V->Hp->VK->Prop:=λx vs H Q=>∃(l:Addr) (ns:List Int) (k:Int),x=.ref l/\vs=[.int k]/\bX K H l (ns.map V.int)/\Q (.int (ns.count k:Nat)) H
theorem aMo:MtR X "list.count" (aGp X.K):=by
 intro pins s σ H x vs v us Q I rx rv h
 obtain⟨l,ns,k,rfl,rfl,hS,q⟩:=h
 cases rx
 obtain⟨u,rfl,ru⟩:=rv.one
 obtain⟨tk,rfl⟩:=(show ∃tk,u=Value.int k tk from ru)
 obtain⟨its,r,pl,hz⟩:=I.list hS
 exact count_list_ints pl.isList (aJI r) ⟨.int (ns.count k:Nat),H,I.tok _,⟨_,rfl⟩,q⟩
theorem aMp(ho:PE X o to)(ha:PA X [e] t)(hn:noStar e=true:=by rfl)(hbase:attributeBase o "count" X.env (eval o X.env)=eval o X.env:=by rfl)(hline:(apos.endLine == cpos.line)=true:=by rfl) :
  PE X (.Call (.Attribute o "count" apos) [e] [] cpos) (tBM X.K "list" (aGp X.K) to t):=
 aOZ PySem.F.plainAttrs_list PySem.F.slot_list_count PySem.F.type_list_count aMo ho ha hbase (by rw[bN hn];rfl) hline (bN hn) (by rfl)
theorem aHL{K:W.Frag}{H:Hp}{Q:VK}{l:Addr}{ns:List Int}{k:Int}(h:bX K H l (ns.map V.int))(q:Q (.int (ns.count k:Nat)) H):aGp K (.ref l) [.int k] H Q:=⟨l,ns,k,rfl,rfl,h,q⟩
end
end L2
namespace L2.Z
open PySem PySem.Spec PyProof.Rows L2
theorem aAZ{X:Cx}{K':PySem.W.Frag}{o e:Expr}{to:TE}{t:TA}{apos cpos:Pos}(ho:QE X o to)(ha:QA X [e] t)(hn:noStar e=true:=by rfl)(hbase:attributeBase o "count" X.env (eval o X.env)=eval o X.env:=by rfl)(hline:(apos.endLine == cpos.line)=true:=by rfl)(hK:X.K=K':=by rfl) :
  QE X (.Call (.Attribute o "count" apos) [e] [] cpos) (tBM K' "list" (aGp K') to t):=by subst hK;exact⟨L2.aMp ho.h ha.h hn hbase hline⟩
end L2.Z
namespace L2
open PySem PySem.W PyProof.Rows
section
variable{O:KeyOrd}{key:Nat->O.α}{N:Nat}{cmp:Nat->Nat->(Bool->Shared->Prop)->Shared->Prop}{s:Shared}
def kq(key:Nat->O.α)(p:Array Nat)(i:Nat):O.α:=key (p.getD i 0)
def Up(key:Nat->O.α)(p:Array Nat)(k:Nat):Prop:=∀i j,i<=j->j < k->O.kle (kq key p i) (kq key p j)
def Dn(key:Nat->O.α)(p:Array Nat)(k:Nat):Prop:=∀i j,i<=j->j < k->O.kle (kq key p j) (kq key p i)
def Row(N:Nat)(p:Array Nat):Prop:=p.Perm (List.toArray (List.range N))
theorem aHM{p q:Array Nat}{i j:Nat}(h:p[i]?=q[j]?):kq key p i=kq key q j:=by
 unfold kq
 rw[Array.getD_eq_getD_getElem?,Array.getD_eq_getD_getElem?,h]
theorem aMq{p:Array Nat}{a d:Nat}(ha:a < p.size)(hd:d<=a)(k:Nat):kq key (bubble p a d) k=if k=a - d then kq key p a else if a - d < k/\k<=a then kq key p (k - 1) else kq key p k:=by
 have e:=getElem?_bubble ha d hd k
 split
 ·rename_i h;rw[if_pos h] at e;exact aHM e
 ·rename_i h
  rw[if_neg h] at e
  split
  ·rename_i g;rw[if_pos g] at e;exact aHM e
  ·rename_i g;rw[if_neg g] at e;exact aHM e
theorem aGq{p:Array Nat}{i j:Nat}(hj:j<=p.size)(k:Nat):kq key (kas_rev p i j) k=if i<=k/\k < j then kq key p (i+j - 1 - k) else kq key p k:=by
 have e:=getElem?_mirror_all (i:=i) hj k
 split
 ·rename_i h;rw[if_pos h] at e;exact aHM e
 ·rename_i h;rw[if_neg h] at e;exact aHM e
theorem Row.size{p:Array Nat}(h:Row N p):p.size=N:=by
 have:=h.size_eq
 rw[this]
 simp
theorem Row.lt{p:Array Nat}(h:Row N p)(hN:0 < N)(i:Nat):p.getD i 0 < N:=by
 by_cases hi:i < p.size
 ·have e:p.getD i 0=p[i]:=by simp[Array.getD,hi]
  have m:p[i]∈p.toList:=by simp
  have m2:=(Sr9.mp h).mem_iff.mp m
  rw[e]
  simpa using m2
 ·have e:p.getD i 0=0:=by simp[Array.getD,hi]
  rw[e];exact hN
theorem Row.rev{p:Array Nat}(h:Row N p)(i j:Nat):Row N (kas_rev p i j):=(mirror_perm p i j _).trans h
theorem Row.bub{p:Array Nat}(h:Row N p)(i j:Nat):Row N (bubble p i j):=(bubble_perm p i j).trans h
theorem Up.more{p:Array Nat}{m:Nat}(h:Up key p m)(e:O.kle (kq key p (m - 1)) (kq key p m)):Up key p (m+1):=λi j hij hj=>by
 by_cases hm:j < m
 ·exact h i j hij hm
 ·have ej:j=m:=by omega
  subst ej
  by_cases hi:i=j
  ·subst hi;exact KeyOrd.kle_refl _
  ·exact KeyOrd.kle_trans (h i (j - 1) (by omega) (by omega)) e
theorem Dn.more{p:Array Nat}{m:Nat}(h:Dn key p m)(e:O.kle (kq key p m) (kq key p (m - 1))):Dn key p (m+1):=λi j hij hj=>by
 by_cases hm:j < m
 ·exact h i j hij hm
 ·have ej:j=m:=by omega
  subst ej
  by_cases hi:i=j
  ·subst hi;exact KeyOrd.kle_refl _
  ·exact KeyOrd.kle_trans e (h i (j - 1) (by omega) (by omega))
def Ans(key:Nat->O.α)(N:Nat)(cmp:Nat->Nat->(Bool->Shared->Prop)->Shared->Prop)(s:Shared):Prop:=∀i j (C:Bool->Shared->Prop),i < N->j < N->C (O.blt (key i) (key j)) s->cmp i j C s
theorem Ans.ask{α:Type}(hc:Ans key N cmp s)(hN:0 < N){p:Array Nat}(hp:Row N p){i j:Nat}{k:Bool->KasT α}{Q:α->Shared->Prop}(h1:O.klt (kq key p i) (kq key p j)->(k true).kasWp cmp Q s)(h2:O.kle (kq key p j) (kq key p i)->(k false).kasWp cmp Q s) :
  (KasT.ask (p.getD i 0) (p.getD j 0) k).kasWp cmp Q s:=by
 refine hc _ _ _ (hp.lt hN i) (hp.lt hN j) ?_
 cases e:O.blt (key (p.getD i 0)) (key (p.getD j 0)) with
 |true=>exact h1 e
 |false=>exact h2 e
theorem aIW(hc:Ans key N cmp s)(hN:0 < N){p:Array Nat}(hp:Row N p){Q:Nat->Shared->Prop}:∀{f m:Nat},f=N - m->1<=m->m<=N->Up key p m->
  (∀r,m<=r->r<=N->Up key p r->(r < N->O.klt (kq key p r) (kq key p (r - 1)))->Q r s)->(kas_asc p f m).kasWp cmp Q s
 |0,m,hf,h1,hm,hu,h=>h m (eA _) hm hu (λz=>by omega)
 |f+1,m,hf,h1,hm,hu,h=>by
  refine hc.ask hN hp (λz=>?_) (λz=>?_)
  ·rw[if_pos rfl]
   exact h m (eA _) hm hu λ_=>z
  ·rw[if_neg (by decide)]
   exact aIW hc hN hp (by omega) (by omega) (by omega) (hu.more z) λr a b c d=>h r (by omega) b c d
def Blk(key:Nat->O.α)(p:Array Nat)(n q:Nat):Prop:=∀i,n - (q+1)<=i->i < n->kq key p i=kq key p (n - 1)
theorem Blk.same{p:Array Nat}{n q:Nat}(h:Blk key p n q)(hz:n<=p.size)(k:Nat):kq key (kas_rev p (n - (q+1)) n) k=kq key p k:=by
 rw[aGq hz]
 split
 ·rename_i g
  rw[h k g.1 g.2]
  exact h _ (by omega) (by omega)
 ·rfl
theorem aDu(hc:Ans key N cmp s)(hN:0 < N){Q:Array Nat×Nat×Nat->Shared->Prop}:∀{f n q:Nat}{p:Array Nat},Row N p->f=N - n->1<=n->n<=N->q+1<=n->Dn key p n->Blk key p n q->
  (∀p' n' q',Row N p'->1<=n'->n'<=N->q'+1<=n'->Dn key p' n'->Blk key p' n' q'->Q (p',n',q') s)->(kas_desc f p n q).kasWp cmp Q s
 |0,n,q,p,hp,hf,h1,hn,hq,hd,hb,h=>h p n q hp h1 hn hq hd hb
 |f+1,n,q,p,hp,hf,h1,hn,hq,hd,hb,h=>by
  have hz:n<=p.size:=by rw[hp.size];exact hn
  refine hc.ask hN hp (λz=>?_) (λz=>?_)
  ·rw[if_pos rfl]
   have hd':Dn key p (n+1):=hd.more (KeyOrd.kle_of_klt z)
   split
   ·have e:=hb.same hz
    refine aDu hc hN (hp.rev _ _) (by omega) (by omega) (by omega) (by omega) (λi j a b=>?_) (λi a b=>?_) h
    ·rw[e,e];exact hd' i j a b
    ·have:i=n:=by omega
     subst this;rfl
   ·refine aDu hc hN hp (by omega) (by omega) (by omega) (by omega) hd' (λi a b=>?_) h
    have:i=n:=by omega
    subst this;rfl
  ·rw[if_neg (by decide)]
   refine hc.ask hN hp (λy=>?_) (λy=>?_)
   ·rw[if_pos rfl]
    exact h p n q hp h1 hn hq hd hb
   ·rw[if_neg (by decide)]
    have e:kq key p (n - 1)=kq key p n:=KeyOrd.kle_antisymm z y
    refine aDu hc hN hp (by omega) (by omega) (by omega) (by omega) (hd.more y) (λi a b=>?_) h
    show kq key p i=kq key p n
    by_cases hi:i < n
    ·rw[hb i (by omega) hi,e]
    ·have:i=n:=by omega
     subst this;rfl
theorem aJJ(hc:Ans key N cmp s)(hN:0 < N){n:Nat}{p:Array Nat}{Q:Nat×Array Nat->Shared->Prop}(hp:Row N p)(h1:1<=n)(hn:n<=N)(hd:Dn key p n)(h:∀m p',Row N p'->1<=m->m<=N->Up key p' m->Q (m,p') s):(kas_tail3 n N p).kasWp cmp Q s:=by
 have hz:n<=p.size:=by rw[hp.size];exact hn
 unfold kas_tail3
 rw[KasT.kasWp_bind]
 refine aIW hc hN (hp.rev 0 n) rfl h1 hn (λi j a b=>?_) λr a b c _=>h r _ (hp.rev 0 n) (by omega) b c
 rw[aGq hz,aGq hz,if_pos ⟨Rl9 _,by omega⟩,if_pos ⟨Rl9 _,b⟩]
 exact hd _ _ (by omega) (by omega)
theorem aCh(hc:Ans key N cmp s)(hN:0 < N){n:Nat}{p:Array Nat}{Q:Nat×Array Nat->Shared->Prop}(hp:Row N p)(h1:1<=n)(hn:n < N)(hd:Dn key p n)(hl:O.klt (kq key p n) (kq key p (n - 1)))(h:∀m p',Row N p'->1<=m->m<=N->Up key p' m->Q (m,p') s) :
  (kas_descPart n N p).kasWp cmp Q s:=by
 unfold kas_descPart
 rw[KasT.kasWp_bind]
 refine aDu hc hN hp rfl (by omega) (by omega) (by omega) (hd.more (KeyOrd.kle_of_klt hl)) (λi a b=>by have:i=n:=(by omega);subst this;rfl) λp' n' q' r1 r2 r3 r4 r5 r6=>?_
 have hz:n'<=p'.size:=by rw[r1.size];exact r3
 split
 ·refine aJJ hc hN (r1.rev _ _) r2 r3 (λi j a b=>?_) h
  have e:=r6.same hz
  show O.kle (kq key (kas_rev p' (n' - (q'+1)) n') j) (kq key (kas_rev p' (n' - (q'+1)) n') i)
  rw[e,e]
  exact r5 i j a b
 ·exact aJJ hc hN r1 r2 r3 r5 h
theorem aMr(hc:Ans key N cmp s)(hN:0 < N){p:Array Nat}{Q:Nat×Array Nat->Shared->Prop}(hp:Row N p)(h:∀m p',Row N p'->1<=m->m<=N->Up key p' m->Q (m,p') s):(kas_count N p).kasWp cmp Q s:=by
 unfold kas_count
 rw[KasT.kasWp_bind]
 refine aIW hc hN hp rfl (eA _) hN (λi j a b=>by have:i=j:=(by omega);subst this;exact KeyOrd.kle_refl _) λn a b c d=>?_
 have hz:n<=p.size:=by rw[hp.size];exact b
 split
 ·exact h n p hp a b c
 ·rename_i ne
  have nN:n < N:=by
   have:n≠N:=λz=>ne (by simp[z])
   omega
  split
  ·refine hc.ask hN hp (λz=>?_) (λz=>?_)
   ·rw[if_pos rfl]
    exact h n p hp a b c
   ·rw[if_neg (by decide)]
    have all:∀i,i < n->kq key p i=kq key p 0:=λi hi=>KeyOrd.kle_antisymm (KeyOrd.kle_trans (c i (n - 1) (by omega) (by omega)) z) (c 0 i (by omega) hi)
    have e:∀k,kq key (kas_rev p 0 n) k=kq key p k:=λk=>by
     rw[aGq hz]
     split
     ·rw[all _ (by omega),all k (by omega)]
     ·rfl
    refine aCh hc hN (hp.rev 0 n) a nN (λi j x y=>?_) ?_ h
    ·rw[e,e,all i (by omega),all j y]
     exact KeyOrd.kle_refl _
    ·rw[e,e]
     exact d nN
  ·have n1:n=1:=by omega
   subst n1
   exact aCh hc hN hp (eA _) nN (λi j x y=>by have:i=j:=(by omega);subst this;exact KeyOrd.kle_refl _) (d nN) h
theorem aDY(hc:Ans key N cmp s)(hN:0 < N){p:Array Nat}(hp:Row N p){k:Nat}(hu:Up key p k){Q:Nat->Shared->Prop}:∀{f l r:Nat},l<=r->r<=k->r - l<=f->
  (∀i,i < l->O.kle (kq key p i) (kq key p k))->(∀i,r<=i->i < k->O.klt (kq key p k) (kq key p i))->
  (∀m,m<=k->(∀i,i < m->O.kle (kq key p i) (kq key p k))->(∀i,m<=i->i < k->O.klt (kq key p k) (kq key p i))->Q m s)->(kas_place p k f l r).kasWp cmp Q s
 |0,l,r,hlr,hrk,hf,ha,hb,h=>h l (by omega) ha λi x y=>hb i (by omega) y
 |f+1,l,r,hlr,hrk,hf,ha,hb,h=>by
  unfold kas_place
  by_cases g:l ≥ r
  ·rw[if_pos g]
   exact h l (by omega) ha λi x y=>hb i (by omega) y
  ·rw[if_neg g]
   refine hc.ask hN hp (λz=>?_) (λz=>?_)
   ·rw[if_pos rfl]
    refine aDY hc hN hp hu (by omega) (by omega) (by omega) ha (λi x y=>?_) h
    exact KeyOrd.klt_of_klt_of_kle z (hu _ i x y)
   ·rw[if_neg (by decide)]
    refine aDY hc hN hp hu (by omega) (by omega) (by omega) (λi x=>?_) hb h
    exact KeyOrd.kle_trans (hu i _ (by omega) (by omega)) z
theorem aMs(hc:Ans key N cmp s)(hN:0 < N){Q:Array Nat->Shared->Prop}:∀{f k:Nat}{p:Array Nat},Row N p->f=N - k->k<=N->Up key p k->(∀p',Row N p'->Up key p' N->Q p' s)->(kas_bin f p k).kasWp cmp Q s
 |0,k,p,hp,hf,hk,hu,h=>h p hp (by have:k=N:=(by omega);subst this;exact hu)
 |f+1,k,p,hp,hf,hk,hu,h=>by
  unfold kas_bin
  rw[KasT.kasWp_bind]
  refine aDY hc hN hp hu (Rl9 _) (eA _) (by omega) (λi x=>by omega) (λi x y=>by omega) λm hm ha hb=>?_
  have kz:k < p.size:=by rw[hp.size];omega
  refine aMs hc hN (hp.bub k (k - m)) (by omega) (by omega) (λi j hij hj=>?_) h
  have em:k - (k - m)=m:=by omega
  rw[aMq kz (by omega),aMq kz (by omega),em]
  by_cases i1:i=m
  ·rw[if_pos i1]
   by_cases j1:j=m
   ·rw[if_pos j1];exact KeyOrd.kle_refl _
   ·rw[if_neg j1,if_pos (by omega)]
    exact KeyOrd.kle_of_klt (hb _ (by omega) (by omega))
  ·rw[if_neg i1]
   by_cases i2:m < i/\i<=k
   ·rw[if_pos i2,if_neg (by omega),if_pos (by omega)]
    exact hu _ _ (by omega) (by omega)
   ·rw[if_neg i2]
    by_cases j1:j=m
    ·rw[if_pos j1]
     exact ha i (by omega)
    ·rw[if_neg j1]
     by_cases j2:m < j/\j<=k
     ·rw[if_pos j2]
      exact hu _ _ (by omega) (by omega)
     ·rw[if_neg j2]
      exact hu _ _ (by omega) (by omega)
theorem aOz(hc:Ans key N cmp s)(hN:0 < N){Q:Array Nat->Shared->Prop}(h:∀p,Row N p->Up key p N->Q p s):(kas_sort N).kasWp cmp Q s:=by
 unfold kas_sort
 rw[KasT.kasWp_bind]
 refine aMr hc hN (Array.Perm.refl _) λm p hp h1 hm hu=>?_
 split
 ·rename_i z
  have e:max m 1=m:=by omega
  show(kas_bin (N - max m 1) p (max m 1)).kasWp cmp Q s
  rw[e]
  exact aMs hc hN hp rfl hm hu h
 ·rename_i z
  have z':¬m < N:=z
  have e:m=N:=by omega
  subst e
  exact h p hp hu
end
end L2
namespace L2
open PySem PySem.W PyProof.Rows
def jK:List Int->List Int->Bool
 |[],[]=>false
 |[],_::_=>true
 |_::_,[]=>false
 |a::as,b::bs=>if a=b then jK as bs else decide (a < b)
theorem fK(a b:Int)(as bs:List Int):jK (a::as) (b::bs)=if a=b then jK as bs else decide (a < b):=rfl
theorem wU:∀as:List Int,jK as as=false
 |[]=>rfl
 |a::as=>by rw[fK,if_pos rfl];exact wU as
theorem aAq:∀as bs cs:List Int,jK as bs=true->jK bs cs=true->jK as cs=true
 |[],[],_,h,_=>by cases h
 |[],_::_,[],_,h=>by cases h
 |[],_::_,_::_,_,_=>rfl
 |_::_,[],_,h,_=>by cases h
 |_::_,_::_,[],_,h=>by cases h
 |a::as,b::bs,c::cs,h1,h2=>by
  rw[fK] at h1 h2 ⊢
  by_cases e1:a=b
  ·subst e1
   rw[if_pos rfl] at h1
   by_cases e2:a=c
   ·rw[if_pos e2] at h2 ⊢;exact aAq as bs cs h1 h2
   ·rw[if_neg e2] at h2 ⊢;exact h2
  ·rw[if_neg e1] at h1
   have l1:=of_decide_eq_true h1
   by_cases e2:b=c
   ·subst e2
    rw[if_neg e1];exact h1
   ·rw[if_neg e2] at h2
    have l2:=of_decide_eq_true h2
    rw[if_neg (by omega)]
    exact decide_eq_true (by omega)
theorem aDZ:∀as bs cs:List Int,jK as cs=true->jK as bs=true\/jK bs cs=true
 |[],[],_,h=>.inr h
 |[],_::_,_,_=>.inl rfl
 |_::_,_,[],h=>by cases h
 |_::_,[],_::_,_=>.inr rfl
 |a::as,b::bs,c::cs,h=>by
  rw[fK] at h
  rw[fK,fK]
  by_cases e1:a=b
  ·subst e1
   rw[if_pos rfl]
   by_cases e2:a=c
   ·rw[if_pos e2] at h ⊢;exact aDZ as bs cs h
   ·rw[if_neg e2] at h ⊢;exact .inr h
  ·rw[if_neg e1]
   by_cases e2:b=c
   ·subst e2
    rw[if_neg e1] at h
    exact .inl h
   ·rw[if_neg e2]
    by_cases l:a < b
    ·exact .inl (decide_eq_true l)
    ·refine .inr (decide_eq_true ?_)
     by_cases e3:a=c
     ·omega
     ·rw[if_neg e3] at h
      have:=of_decide_eq_true h
      omega
theorem aAr:∀as bs:List Int,jK as bs=false->jK bs as=false->as=bs
 |[],[],_,_=>rfl
 |[],_::_,h,_=>by cases h
 |_::_,[],_,h=>by cases h
 |a::as,b::bs,h1,h2=>by
  rw[fK] at h1 h2
  by_cases e:a=b
  ·subst e
   rw[if_pos rfl] at h1 h2
   rw[aAr as bs h1 h2]
  ·rw[if_neg e] at h1
   rw[if_neg (Ne.symm e)] at h2
   have:=of_decide_eq_false h1
   have:=of_decide_eq_false h2
   omega
def aIX:KeyOrd:=⟨List Int,jK,wU,aAq,aDZ,aAr⟩
theorem aA0:∀{ns:List Int}{its:List Value},Vals (ns.map V.int) its->IntsAre its ns
 |[],_,r=>by cases r;exact .nil
 |n::ns,_,r=>by
  cases r with
  |cons h t=>
   obtain⟨u,rfl⟩:=h
   exact .cons n u (aA0 t)
inductive zI (h:Heap):List Value->List (List Int)->Prop
 |nil:zI h [] []
 |cons {x:Addr} {o:Obj} {xs:Array Value} {k:Nat} {t:List Int} {vs:List Value} {ts:List (List Int)} (e:h.get? x=some o) (c:o.cls=.type "tuple") (d:o.data=.seq xs k) (i:IntsAre xs.toList t) (ne:t≠[]) (r:zI h vs ts):zI h (.ref x::vs) (t::ts)
theorem zI.length{vs:List Value}{ts:List (List Int)}(r:zI h vs ts):vs.length=ts.length:=by
 induction r with
 |nil=>rfl
 |cons _ _ _ _ _ _ ih=>rw[Qx9,Qx9,ih]
theorem zI.at_{h:Heap}{vs:List Value}{ts:List (List Int)}(r:zI h vs ts):∀{j:Nat},j < vs.length->∃x o xs k,vs.getD j Value.none=.ref x/\h.get? x=some o/\o.data=.seq xs k/\IntsAre xs.toList (ts.getD j []):=by
 induction r with
 |nil=>intro j hj;simp at hj
 |cons e c d i ne r ih=>
  intro j hj
  cases j with
  |zero=>exact⟨_,_,_,_,rfl,e,d,i⟩
  |succ j=>exact ih (by simpa using hj)
theorem zI.keeps{h h':Heap}{ts:List (List Int)}(r:zI h vs ts)(k:∀(b:Addr) (o:Obj),o.cls=.type "tuple"->h.get? b=some o->h'.get? b=some o):zI h' vs ts:=by
 induction r with
 |nil=>exact .nil
 |cons e c d i ne _ ih=>exact .cons (k _ _ c e) c d i ne ih
theorem zI.aQR{vs:List Value}{ts:List (List Int)}(r:zI h vs ts):∃fs:List Value,KatTups h vs fs/\fs.length=vs.length/\∀v∈fs,∃n u,v=Value.int n u:=by
 induction r with
 |nil=>exact⟨[],.nil,rfl,λv z=>by cases z⟩
 |@cons x o xs k t vs ts e c d i ne _ ih=>
  obtain⟨fs,a1,a2,a3⟩:=ih
  obtain⟨n,u,hx⟩ : ∃n u,xs[0]?=some (Value.int n u):=by
   rw[<-Tl9]
   generalize xs.toList=l at i
   cases i with
   |nil=>exact absurd rfl ne
   |cons n u _=>exact⟨n,u,rfl⟩
  refine⟨.int n u::fs,.cons e c d hx a1,by rw[Qx9,Qx9,a2],λv z=>?_⟩
  rcases sZ.mp z with z|z
  ·exact⟨n,u,z⟩
  ·exact a3 v z
section
variable{prog:Program}{w:World}{A:Around}{E:Value->Shared->Prop}{s:Shared}
theorem aHN{Q:Bool->Shared->Prop}:∀{xs ys:List Value}{as bs:List Int}{i:Nat}{fin:Bool},IntsAre xs as->IntsAre ys bs->fin=decide (as.length < bs.length)->Q (jK as bs) s->KatLex prog w A true fin Q (xs.zip ys) i s
 |_,_,_,_,i,fin,.nil,.nil,hf,h=>kat_nil (by rw[hf];exact h)
 |_,_,_,_,i,fin,.nil,.cons _ _ _,hf,h=>kat_nil (by rw[hf];exact h)
 |_,_,_,_,i,fin,.cons _ _ _,.nil,hf,h=>kat_nil (by rw[hf];exact h)
 |_,_,_,_,i,fin,.cons a t r,.cons b u q,hf,h=>by
  refine kat_cons (wpAny_eqBool_int ?_)
  rw[fK] at h
  by_cases e:a=b
  ·rw[if_pos e] at h
   rw[show(a == b)=true by simp[e]]
   refine kat_yes (aHN r q ?_ h)
   rw[hf,Qx9,Qx9]
   congr 1
   apply propext
   constructor <;> intro z <;> omega
  ·rw[if_neg e] at h
   rw[show(a == b)=false by simp[e]]
   refine kat_no ?_
   cases i with
   |zero=>exact oneLt_int h
   |succ i=>
    rw[show(true && (i+1 == 0))=false by simp]
    exact kat_one _ _ (PyProof.Rows.lt_int h)
theorem aMt{ts:List (List Int)}(r:zI s.heap vs ts):Ans (O:=aIX) (λi=>ts.getD i []) vs.length (kas_ask prog w A (tuples' true) vs) s:=λi j C hi hj h=>by
 obtain⟨x,ox,xs,n,e1,g1,d1,i1⟩:=r.at_ hi
 obtain⟨y,oy,ys,k,e2,g2,d2,i2⟩:=r.at_ hj
 unfold kas_ask
 rw[e1,e2]
 refine kat_lt g1 d1 g2 d2 (aHN i1 i2 ?_ h)
 rw[<-i1.length,<-i2.length,Rg9,Rg9]
def tL(vs:List Value)(p:Array Nat):Array Value:=List.toArray (p.toList.map λi=>vs.getD i Value.none)
theorem aFI{vs:List Value}{ts:List (List Int)}{n:Nat}{P:PySem.Fin->Shared->Prop}(ho:s.heap.get? a=some (seqObj "list" vs.toArray n))(hT:zI s.heap vs ts)(h64:vs.length < 64)(h:∀p,Row vs.length p->Up (O:=aIX) (λi=>ts.getD i []) p vs.length->P (.done (.ret .none)) { s with heap:=sortedHeap s.heap a vs (tL vs p) }) :
  wpAny (model prog w) A (Builtin.«list.sort» ⟨[.ref a],[]⟩) P E s:=by
 rw[list_sort_plain]
 have la:=j0 ho
 refine wpAny_bind (listItems_at ho rfl (wpAny_bind (listUpdate_at ho rfl ?_)))
 obtain⟨e1,g1⟩ : ∃e,(s.heap.update a (Obj.mapSeq λ_=>#[])).get? a=some (seqObj "list" #[] e):=⟨_,get?_update_seq ho λ_=>#[]⟩
 refine wpAny_bind (seqEpoch_at g1 rfl (wpAny_bind (wpAny_newTuple (wpAny_bind (wpAny_newList (wpAny_holding ?_))))))
 generalize hh6:((s.heap.update a (Obj.mapSeq λ_=>#[])).push (seqObj "tuple" vs.toArray 0)).push (seqObj "list" #[] 0)=h6
 have keep6:∀b o,b≠a->s.heap.get? b=some o->h6.get? b=some o:=λb o nb e=>by
  have lb:=j0 e
  rw[<-hh6,Th9 _ _ _ (vP (by rw[size_push',Su9];exact Se9 lb)),Th9 _ _ _ (vP (by rw[Su9];exact lb)),Heap.get?_update_ne _ _ _ _ nb]
  exact e
 have g6:h6.get? a=some (seqObj "list" #[] e1):=by
  rw[<-hh6,Th9 _ _ _ (vP (by rw[size_push',Su9];exact Se9 la)),Th9 _ _ _ (vP (by rw[Su9];exact la))]
  exact g1
 have fin:∀p,Row vs.length p->Up (O:=aIX) (λi=>ts.getD i []) p vs.length->P (.done (.ret .none)) { s with heap:=h6.update a (Obj.mapSeq λ_=>tL vs p) }:=λp r u=>by
  rw[<-hh6]
  exact h p r u
 have T6:zI h6 vs ts:=hT.keeps λb o c e=>keep6 b o (λz=>by rw[z,ho] at e;cases e;exact absurd c (show ¬Value.type "list" = Value.type "tuple" by decide)) e
 show wpAny (model prog w) A _ P E { s with heap:=h6 }
 have hvz:vs.toArray.size=vs.length:=mF
 dsimp only
 by_cases small:vs.toArray.size < 2
 ·rw[if_pos small,if_pos small]
  refine wpAny_bind (wpAny_pure ?_)
  rw[StateT.run_pure]
  refine wpAny_bind (wpAny_pure ?_)
  have ev:((vs.toArray.zip vs.toArray).map λx=>x.2)=tL vs (List.toArray (List.range vs.length)):=by
   unfold tL
   match vs,hvz,small with
   |[],_,_=>simp
   |[v],_,_=>simp
   |_::_::_,_,z=>simp at z;omega
  refine wpAny_bind (seqEpoch_at g6 rfl (wpAny_bind (listUpdate_at g6 rfl ?_ (hsz2:=?_))))
  ·simp only[bne_self_eq_false,Sb9,if_false]
   refine wpAny_pure ?_
   show P (.done (.ret .none)) { s with heap:=h6.update a (Obj.mapSeq λ_=>(vs.toArray.zip vs.toArray).map λx=>x.2) }
   rw[ev]
   exact fin _ (Array.Perm.refl _) λi j x y=>by
    have z:i=j:=by omega
    subst z
    exact KeyOrd.kle_refl _
  ·show((vs.toArray.zip vs.toArray).map λx=>x.2).size<=_
   rw[ev,tL,mF,bL,sizeLine_eq]
   simp
   omega
 ·rw[if_neg small,if_neg small]
  obtain⟨fs,f1,f2,f3⟩:=T6.aQR
  refine wpAny_bind (kat_kind (s:={ s with heap:=h6 }) (T:=.type "int") f1 (by omega) (λv hv=>?_) rfl ?_)
  ·obtain⟨m,u,rfl⟩:=f3 v hv
   exact Looks.now
  rw[show(Value.type "int" != Value.type "tuple")=true by decide]
  refine wpAny_bind (wpAny_mono (kat_run (ks:=vs) (vs:=vs) (prog:=prog) (w:=w) (A:=A) (E:=E) (s:={ s with heap:=h6 }) (Q:=λst' s'=>s'={ s with heap:=h6 }/\∃p,p.size=vs.length/\arrOf st'=p.map (kas_item (vs.toArray.zip vs.toArray))/\failedOf st'=none/\Row vs.length p/\Up (O:=aIX) (λi=>ts.getD i []) p vs.length)
   (G:=λp s'=>s'={ s with heap:=h6 }/\Row vs.length p/\Up (O:=aIX) (λi=>ts.getD i []) p vs.length) rfl (by omega) h64 (λp st' s' hz har hf hG=>⟨hG.1,p,hz,har,hf,hG.2.1,hG.2.2⟩) (aOz (aMt (s:={ s with heap:=h6 }) T6) (by omega) λp r u=>⟨rfl,r,u⟩)) ?_ λ_ _ e=>e)
  rintro ⟨_,st'⟩ s' ⟨rfl,p,hz,har,hf,hr,hu⟩
  dsimp only at har hf ⊢
  have eo:=kat_snds (ks:=vs) (vs:=vs) rfl har
  refine wpAny_bind (seqEpoch_at g6 rfl (wpAny_bind (listUpdate_at g6 rfl ?_ (hsz2:=?_))))
  ·rw[hf]
   simp only[bne_self_eq_false,Sb9,if_false]
   refine wpAny_pure ?_
   show P (.done (.ret .none)) { s with heap:=h6.update a (Obj.mapSeq λ_=>(arrOf st').map (·.2)) }
   rw[eo]
   exact fin p hr hu
  ·show((arrOf st').map (·.2)).size<=_
   rw[eo,mF,bL,Rg9,hz,sizeLine_eq]
   omega
end
end L2
namespace L2
open PySem PySem.Spec PySem.W PyProof.Rows
theorem range_getD{α:Type}(d:α)(l:List α):(List.range l.length).map (λi=>l.getD i d)=l:=by
 apply List.ext_getElem
 ·simp
 ·intro i h1 h2
  simp[Qp9,eU h2]
theorem aJK:∀{qs:List Addr}{its:List Value},Vals (qs.map V.ref) its->its=qs.map Value.ref
 |[],_,r=>by cases r;rfl
 |q::qs,_,r=>by
  cases r with
  |cons h t=>
   cases h
   rw[aJK t]
   rfl
theorem aAs:∀(qs:List Addr),Vals (qs.map V.ref) (qs.map Value.ref)
 |[]=>.nil
 |q::qs=>.cons rfl (aAs qs)
structure cI(H:Hp)(qs:List Addr)(ts:List (List Int)):Prop where
 len:qs.length=ts.length
 at_:∀(j:Nat) q t,qs[j]?=some q->ts[j]?=some t->H q=some (.tup (t.map V.int))/\t≠[]
theorem cI.tail{t:List Int}{ts:List (List Int)}(h:cI H (q::qs) (t::ts)):cI H qs ts:=⟨by have:=h.len;simpa using this,λj a b x y=>h.at_ (j+1) a b x y⟩
theorem cI.v3{s:Shared}(I:Inv X pins σ H s):∀{qs:List Addr}{ts:List (List Int)},cI H qs ts->zI s.heap (qs.map Value.ref) ts
 |[],[],_=>.nil
 |[],_::_,h=>by have:=h.len;simp at this
 |_::_,[],h=>by have:=h.len;simp at this
 |q::qs,t::ts,h=>by
  obtain⟨e,ne⟩:=h.at_ 0 q t rfl rfl
  obtain⟨_,its,r,o,g1,g2,n,g3⟩:=(show cD X.prog X.w H s.heap q (.tup (t.map V.int)) from I.hok q _ e)
  exact .cons g1 g2 g3 (by simpa using aA0 r) ne (cI.v3 I h.tail)
section
variable{X:Cx}
def aIY:List V->Hp->VK->Prop:=λxs H Q=>∃(l:Addr) (qs:List Addr) (ts:List (List Int)),xs=[.ref l]/\H l=some (.lst (qs.map V.ref))/\cI H qs ts/\qs.length < 64/\
 ∀(p:Addr) (qs':List Addr) (ts':List (List Int)),H p=none->cI H qs' ts'->ts'.Perm ts->ts'.Pairwise (λa b=>jK b a=false)->Q (.ref p) (upd H p (.lst (qs'.map V.ref)))
theorem aGr:fE X (.builtin "sorted") aIY:=by
 intro pins s σ H xs us Q I r h
 obtain⟨l,qs,ts,rfl,hl,ht,h64,q⟩:=h
 obtain⟨u,rfl,ru⟩:=vals1 r
 cases ru
 obtain⟨z,its,n,rv,hlen,e⟩:=I.aLH hl
 obtain rfl:=aJK rv
 have hq:=ht.len
 have hv:(qs.map Value.ref).length=qs.length:=bL ..
 refine Calls.call_function_entry kind_sorted plain_sorted entry_sorted (args_sorted1 (.ref l)) ?_
 unfold Builtin.«sorted»
 refine wpAny_bind (m:=checkCount "sorted" 1 1 _) (wpAny_pure (wpAny_bind (collect_list (vs:=qs.map Value.ref) ⟨_,e,rfl,_,rfl⟩ (wpAny_bind (wpAny_newList ?_ (by rw[hv,sizeLine_eq];omega))) (by rw[hv,sizeLine_eq];omega))))
 generalize hh1:(s.heap.push (seqObj "list" #[] 0)).update s.heap.objs.size (Obj.mapSeq (·++ (qs.map Value.ref).toArray))=h1
 have z1:h1.objs.size=s.heap.objs.size+1:=by rw[<-hh1,Su9,size_push']
 have k1:∀b o,s.heap.get? b=some o->(h1.push (seqObj "list" (qs.map Value.ref).toArray 0)).get? b=some o:=λb o g=>by
  have lb:=j0 g
  refine fH _ ?_
  rw[<-hh1,Heap.get?_update_ne _ _ _ _ (vP lb)]
  exact fH _ g
 have gD:(h1.push (seqObj "list" (qs.map Value.ref).toArray 0)).get? h1.objs.size=some (seqObj "list" (qs.map Value.ref).toArray 0):=tE _ rfl
 refine wpAny_bind (wpAny_holding (wpAny_call_entry (s:={ s with heap:=h1.push (seqObj "list" (qs.map Value.ref).toArray 0) }) slot_list_sort ⟨_,gD,rfl⟩ entry_list_sort (aFI gD ((ht.v3 I).keeps λb o _ g=>k1 b o g) (by rw[hv];exact h64) λp hr hu=>⟨_,rfl,?_⟩) (args_list_sort (.ref h1.objs.size))))
 rw[hv] at hr hu
 have pl:p.toList.Perm (List.range qs.length):=by simpa using Sr9.mp hr
 have plen:p.toList.length=qs.length:=by have:=pl.length_eq;simpa using this
 have eo:(tL (qs.map Value.ref) p).toList=(p.toList.map λi=>qs.getD i 0).map Value.ref:=by
  unfold tL
  show p.toList.map (λi=>(qs.map Value.ref).getD i Value.none)=_
  rw[Ru9]
  refine Sv9 λi hi=>?_
  have li:i < qs.length:=Ry9.mp (pl.mem_iff.mp hi)
  show(qs.map Value.ref).getD i Value.none=Value.ref (qs.getD i 0)
  simp[Qp9,eU li]
 refine wpAny_pure ⟨_,rfl,?_⟩
 obtain⟨c,hc2⟩:=sortedHeap_at (out:=tL (qs.map Value.ref) p) gD
 have T':cI H (p.toList.map λi=>qs.getD i 0) (p.toList.map λi=>ts.getD i []):=by
  refine⟨by rw[bL,bL],λj a b x y=>?_⟩
  rw[pG] at x y
  obtain⟨i,e1,e2⟩:=Qw9.mp x
  rw[e1] at y
  have li:i < qs.length:=Ry9.mp (pl.mem_iff.mp (oH e1))
  refine ht.at_ i a b ?_ ?_
  ·rw[<-e2];simp[Qp9,eU li]
  ·cases y
   simp[Qp9,eU (show i < ts.length by omega)]
 obtain⟨hn,I2⟩:=I.aO5 (t':=s.toks) (h':=sortedHeap (h1.push (seqObj "list" (qs.map Value.ref).toArray 0)) h1.objs.size (qs.map Value.ref) (tL (qs.map Value.ref) p)) (a:=h1.objs.size) (o:=.lst ((p.toList.map λi=>qs.getD i 0).map V.ref)) (λb ob g=>by
   have lb:b < h1.objs.size:=by rw[z1];exact Se9 (j0 g)
   rw[sortedHeap_old (vP lb) (by rw[size_push'];exact Se9 lb)]
   exact k1 b ob g) (λb ob g=>vP (by rw[z1];exact Se9 (j0 g)))
  ⟨by rw[bL,bL,plen,sizeLine_eq];omega,(p.toList.map λi=>qs.getD i 0).map Value.ref,c,aAs _,by rw[<-eo,Array.toArray_toList];exact hc2⟩
 refine⟨.ref h1.objs.size,_,I2,rfl,q _ _ _ hn T' ?_ ?_⟩
 ·have:=pl.map (λi=>ts.getD i [])
  rw[hq,range_getD] at this
  exact this
 ·rw[List.pairwise_iff_getElem]
  intro i j hi hj hij
  rw[bL,plen] at hi hj
  have key:∀k (hk:k < p.toList.length),(p.toList.map λi=>ts.getD i [])[k]'(by rw[bL];exact hk)=kq (O:=aIX) (λi=>ts.getD i []) p k:=λk hk=>by
   rw[List.getElem_map]
   unfold kq
   have:p.getD k 0=p.toList[k]:=by
    have hk':k < p.size:=by simpa using hk
    simp[Array.getD,hk']
   rw[this]
  rw[key i (by omega),key j (by omega)]
  exact hu i j (by omega) hj
theorem aMu{H:Hp}{Q:VK}{l:Addr}{qs:List Addr}{ts:List (List Int)}(h1:H l=some (.lst (qs.map V.ref)))(h2:cI H qs ts)(h3:qs.length < 64)
  (h:∀(p:Addr) (qs':List Addr) (ts':List (List Int)),H p=none->cI H qs' ts'->ts'.Perm ts->ts'.Pairwise (λa b=>jK b a=false)->Q (.ref p) (upd H p (.lst (qs'.map V.ref)))):aIY [.ref l] H Q:=⟨l,qs,ts,rfl,h1,h2,h3,h⟩
end
end L2
namespace L2
open PySem PySem.Spec PyProof.Rows
section
variable{prog:Program}{w:World}{A:Around}{E:Value->Shared->Prop}{s:Shared}{es:Array DictEntry}{d it vw:Addr}{i ep:Nat}
def Raw(h:Heap)(d:Addr)(es:Array DictEntry)(ep:Nat):Prop:=∃o,h.get? d=some o/\o.cls=.type "dict"/\o.data=.dict es ep
theorem Raw.ty(m:Raw s.heap d es ep):s.TypeIs (.ref d) "dict":=let ⟨o,a,b,_⟩:=m;⟨o,a,b⟩
theorem Raw.keep{h h':Heap}(m:Raw h d es ep)(k:∀o,h.get? d=some o->h'.get? d=some o):Raw h' d es ep:=let ⟨o,a,r⟩:=m;⟨o,k o a,r⟩
theorem aKL(d:Addr)(lo:(d == sysModules)=false):MeetsIn prog w (Builtin.«dict.items» ⟨[.ref d],[]⟩) (λ_ R s=>s.TypeIs (.ref d) "dict"/\
  R (.ok (.ret (.ref s.heap.objs.size))) { s with heap:=s.heap.push { cls:=.type "dict_items",data:=.fields #[.ref d] } }):=
 .of_wp λA R s ⟨ty,h⟩=>by
  unfold Builtin.«dict.items»;with_reducible refine wpAny_bind ?_;unfold Builtin.Dict.noArgs
  refine wpAny_bind (wpAny_notOrdered_dict ty (show wpAny _ _ (pure d) _ _ s from wpAny_pure ?_))
  show wpAny _ _ (Builtin.Dict.showsAll d >>= _) _ _ s;unfold Builtin.Dict.showsAll
  rw[if_neg (λz=>Qq9 (lo.symm.trans z))];refine wpAny_bind (wpAny_pure ?_)
  exact wpAny_bind (wpAny_newObj_type (wpAny_pure (show _ from⟨_,rfl,h⟩)))
theorem aE0{Q:Value->Shared->Prop}(hv:s.heap.IsItemsView vw d)(hm:Raw s.heap d es ep)
  (hQ:Q (.ref s.heap.objs.size) { s with heap:=s.heap.push { cls:=.type "dict_itemiterator",data:=.fields #[.none,.bool false,.ref d,.int 0 0,.int es.size 0,.int ep 0,.none,.none] } }) :
  wpAny (model prog w) A (pyIter (.ref vw)) Q E s:=by
 obtain⟨ov,a1,a2,a3⟩:=id hv;obtain⟨o,b1,b2,b3⟩:=id hm
 refine wpAny_pyIter_slot hv.typeIs F.slot_dict_items_iter (wpAny_call_entry F.slot_dict_items_iter hv.typeIs F.entry_dict_items_iter (show _ from ?_) (F.args_dict_items_iter_1 _))
 unfold Builtin.«dict_items.__iter__»;refine wpAny_bind (wpAny_pure ?_);with_reducible refine wpAny_bind ?_
 unfold Builtin.Dict_items.dictOf;refine wpAny_bind (wpAny_field a1 a3 (x:=.ref d) rfl (wpAny_pure ?_));with_reducible refine wpAny_bind ?_
 unfold Builtin.Dict_items.newIterator;refine wpAny_bind (wpAny_dictEntries b1 b3 (wpAny_bind (wpAny_dictEpoch b1 b3 ?_)))
 have own:Builtin.Dict_items.ownsTuple "dict_itemiterator" = true:=rfl
 simp only[own,if_true]
 refine wpAny_newObj_type (wpAny_pure ⟨_,rfl,"dict_itemiterator",_,⟨_,tE _ rfl,rfl⟩,F.slot_dict_itemiterator_next.lookup,(show _ from ?_)⟩)
  (by simp only[sizeOk,Builtin.Dict_items.ownedTupleFields,mF,sI,Qx9,Tr9,sizeLine_eq];decide)
 simpa [Builtin.Dict_items.ownedTupleFields,rawInt] using hQ
theorem aGs{Q:Value->Shared->Prop}(lo:(d == sysModules)=false)(hm:Raw s.heap d es ep)
  (hQ:Q (.ref s.heap.objs.size) { s with heap:=s.heap.push { cls:=.type "dict_keyiterator",data:=.fields #[.ref d,.int 0 0,.int es.size 0,.int ep 0] } }) :
  wpAny (model prog w) A (pyIter (.ref d)) Q E s:=by
 obtain⟨o,b1,b2,b3⟩:=id hm
 refine wpAny_pyIter_slot hm.ty F.slot_dict_iter (wpAny_call_entry F.slot_dict_iter hm.ty F.entry_dict_iter (show _ from ?_) (F.args_dict_iter_1 _))
 unfold Builtin.«dict.__iter__»;with_reducible refine wpAny_bind ?_;unfold Builtin.Dict.dictSlotNone
 refine wpAny_bind (wpAny_notOrdered_dict hm.ty (show wpAny _ _ (pure (Value.ref d)) _ _ s from wpAny_pure ?_))
 show wpAny _ _ (Builtin.Dict.showsAll d >>= _) _ _ s;unfold Builtin.Dict.showsAll
 rw[if_neg (λz=>Qq9 (lo.symm.trans z))];refine wpAny_bind (wpAny_pure ?_)
 refine wpAny_bind (wpAny_dictEntries b1 b3 (wpAny_bind (wpAny_dictEpoch b1 b3 ?_)))
 refine wpAny_bind (wpAny_newObj_type (wpAny_pure ⟨_,rfl,"dict_keyiterator",_,⟨_,tE _ rfl,rfl⟩,F.slot_dict_keyiterator_next.lookup,(show _ from ?_)⟩))
 simpa [rawInt] using hQ
def It4(T:String)(h:Heap)(it d:Addr)(i n ep:Nat):Prop:=∃o,h.get? it=some o/\o.cls=.type T/\o.data=.fields #[.ref d,.int i 0,.int n 0,.int ep 0]
theorem It4.ty{n:Nat}(x:It4 T s.heap it d i n ep):s.TypeIs (.ref it) T:=let ⟨o,a,b,_⟩:=x;⟨o,a,b⟩
theorem It4.keep{n:Nat}{h h':Heap}(m:It4 T h it d i n ep)(k:∀o,h.get? it=some o->h'.get? it=some o):It4 T h' it d i n ep:=let ⟨o,a,r⟩:=m;⟨o,k o a,r⟩
theorem It4.turn{n:Nat}{h:Heap}{o:Obj}(a:h.get? it=some o)(b:o.cls=.type T)(c:o.data=.fields #[.ref d,.int i 0,.int n 0,.int ep 0]) :
  It4 T (h.update it (Obj.mapFields (·.setIfInBounds 1 (rawInt ((i:Int)+1))))) it d (i+1) n ep:=
 ⟨_,Sh9 _ a (Obj.isFreed_of_fields (Obj.data_mapFields c _)),(Obj.cls_mapFields ..).trans b,by rw[Obj.data_mapFields c];simp[rawInt]⟩
theorem aHO{Q:Option Value->Shared->Prop}{e:DictEntry}(hit:It4 "dict_keyiterator" s.heap it d i es.size ep)(hm:Raw s.heap d es ep)(hx:es[i]?=some e)
  (hQ:∀h',It4 "dict_keyiterator" h' it d (i+1) es.size ep->Heap.SameBut it s.heap h'->Q (some e.key) { s with heap:=h' }):wpAny (model prog w) A (pyNext (.ref it)) Q E s:=by
 obtain⟨o,a1,a2,a3⟩:=id hit;obtain⟨od,b1,b2,b3⟩:=id hm;have ty:=hit.ty
 unfold pyNext;refine wpAny_bind (wpAny_attempt (wpAny_callSpecial?_slot (name:=Str.ofString "__next__") ty F.slot_dict_keyiterator_next
  (wpAny_call_entry F.slot_dict_keyiterator_next ty F.entry_dict_keyiterator_next (show _ from ?_) (F.args_dict_keyiterator_next_1 _))))
 refine wpAny_bind (wpAny_pure ?_);refine wpAny_bind (show _ from ?_);refine wpAny_bind (show _ from ?_)
 first|refine wpAny_bind (wpAny_typeNameOfWhole_keyiter ty (show _ from wpAny_pure ?_))|refine wpAny_bind (wpAny_typeNameOf_keyiter ty (show _ from wpAny_pure ?_))
 refine wpAny_bind (wpAny_fieldsOf a1 a3 (show _ from ?_));have own:Builtin.Dict_items.ownsTuple "dict_keyiterator" = false:=rfl
 simp only[own,if_false,Sb9];show wpAny _ _ (if (Value.ref d == Value.none)=true then _ else _) _ _ s
 rw[if_neg (show ¬((Value.ref d == Value.none)=true) from λz=>nomatch z)];refine wpAny_bind (wpAny_pure ?_)
 refine wpAny_bind (wpAny_dictEntries b1 b3 (show _ from ?_));rw[if_neg (show _ from by simp)];refine wpAny_bind (wpAny_pure ?_)
 refine wpAny_bind (wpAny_dictEpoch b1 b3 (show _ from ?_));rw[if_neg (show _ from by simp)];refine wpAny_pure (show _ from ?_)
 have il:i < es.size:=(Array.getElem?_eq_some_iff.mp hx).1
 have ee:es[i]=e:=(Array.getElem?_eq_some_iff.mp hx).2
 simp only[show ¬((i:Int) < 0) by omega,if_false,Rm9,hx]
 refine wpAny_bind (show _ from ?_)
 first|refine wpAny_bind (wpAny_typeNameOfWhole_keyiter ty (show _ from wpAny_pure ?_))|refine wpAny_bind (wpAny_typeNameOf_keyiter ty (show _ from wpAny_pure ?_))
 refine wpAny_bind (wpAny_isOneOf_keyiter ty (show _ from ?_));show wpAny _ _ (setField (.ref it) 1 (rawInt ((i:Int)+1)) >>= _) _ _ s
 refine wpAny_bind (wpAny_setField a1 a3 (show _ by simp) (show _ from ?_));have t2:=It4.turn a1 a2 a3
 refine wpAny_bind (wpAny_holding (show _ from ?_))
 refine wpAny_bind (wpAny_isOneOf_keyiter (s:={ s with heap:=s.heap.update it (Obj.mapFields (·.setIfInBounds 1 (rawInt ((i:Int)+1)))) }) t2.ty (show _ from ?_))
 exact wpAny_pure (wpAny_pure ⟨_,rfl,wpAny_pure (hQ _ t2 (Heap.SameBut.update ..))⟩)
theorem aIZ{Q:Option Value->Shared->Prop}(hh:A.handled=none)(hit:It4 "dict_keyiterator" s.heap it d i es.size ep)(hm:Raw s.heap d es ep)(hx:es.size<=i)
  (hQ:∀h',Heap.ExtBut it s.heap h'->Q none { s with heap:=h' }):wpAny (model prog w) A (pyNext (.ref it)) Q E s:=by
 obtain⟨o,a1,a2,a3⟩:=id hit;obtain⟨od,b1,b2,b3⟩:=id hm;have ty:=hit.ty
 unfold pyNext;refine wpAny_bind (wpAny_attempt (wpAny_callSpecial?_slot (name:=Str.ofString "__next__") ty F.slot_dict_keyiterator_next
  (wpAny_call_entry F.slot_dict_keyiterator_next ty F.entry_dict_keyiterator_next (show _ from ?_) (F.args_dict_keyiterator_next_1 _))))
 refine wpAny_bind (wpAny_pure ?_);refine wpAny_bind (show _ from ?_);refine wpAny_bind (show _ from ?_)
 first|refine wpAny_bind (wpAny_typeNameOfWhole_keyiter ty (show _ from wpAny_pure ?_))|refine wpAny_bind (wpAny_typeNameOf_keyiter ty (show _ from wpAny_pure ?_))
 refine wpAny_bind (wpAny_fieldsOf a1 a3 (show _ from ?_));have own:Builtin.Dict_items.ownsTuple "dict_keyiterator" = false:=rfl
 simp only[own,if_false,Sb9];show wpAny _ _ (if (Value.ref d == Value.none)=true then _ else _) _ _ s
 rw[if_neg (show ¬((Value.ref d == Value.none)=true) from λz=>nomatch z)];refine wpAny_bind (wpAny_pure ?_)
 refine wpAny_bind (wpAny_dictEntries b1 b3 (show _ from ?_));rw[if_neg (show _ from by simp)];refine wpAny_bind (wpAny_pure ?_)
 refine wpAny_bind (wpAny_dictEpoch b1 b3 (show _ from ?_));rw[if_neg (show _ from by simp)];refine wpAny_pure (show _ from ?_)
 simp only[show ¬((i:Int) < 0) by omega,if_false,Rm9,Array.getElem?_eq_none hx]
 refine wpAny_bind (show _ from ?_)
 first|refine wpAny_bind (wpAny_typeNameOfWhole_keyiter ty (show _ from wpAny_pure ?_))|refine wpAny_bind (wpAny_typeNameOf_keyiter ty (show _ from wpAny_pure ?_))
 show wpAny _ _ (setField (.ref it) 0 Value.none >>= _) _ _ s
 refine wpAny_bind (wpAny_setField a1 a3 (show _ by simp) (show _ from ?_));show wpAny _ _ (newExc (.type "StopIteration") [] >>= _) _ _ _
 refine wpAny_bind (show _ from ?_);simp only[newExc,newTuple];refine wpAny_bind (wpAny_newObj_type (show _ from ?_) (by size_fits))
 refine wpAny_bind (m:=firstArgMember _ _) (wpAny_of_eq (a:=Value.none) (show _ by first|rfl|(simp only[firstArgMember];rfl)) (show _ from ?_))
 refine wpAny_newObj_type (show _ from ?_) (by size_fits);simp only[raiseNew]
 refine wpAny_bind (wpAny_handled (show _ from ?_));rw[show A.in1.handled=none from hh];refine wpAny_bind (wpAny_pure (wpAny_throw ?_))
 refine wpAny_bind (wpAny_isInstance (T:="StopIteration") (b:=true) ⟨_,tE _ rfl,rfl⟩ isSubtype_stop (show _ from ?_))
 exact wpAny_pure (hQ _ (show _ from((Heap.SameBut.update ..).extBut.push _).push _))
theorem aGt{Q:Option Value->Shared->Prop}{e:DictEntry}(hit:IsItemIter s.heap it d i es.size ep ok ov)(hm:Raw s.heap d es ep)(hx:es[i]?=some e)(hQ:∀h',IsItemIterOut h' it d (i+1) es.size ep e.key e.val s.heap.objs.size->h'.get? s.heap.objs.size=some { cls:=.type "tuple",data:=.seq #[e.key,e.val] }->
   h'.objs.size=s.heap.objs.size+1->(∀b o,b≠it->s.heap.get? b=some o->h'.get? b=some o)->Q (some (.ref s.heap.objs.size)) { s with heap:=h' }) :
  wpAny (model prog w) A (pyNext (.ref it)) Q E s:=by
 obtain⟨hp,g,dr,tk,os⟩:=s;obtain⟨od,b1,b2,b3⟩:=id hm
 have ty:Shared.TypeIs ⟨hp,g,dr,tk,os⟩ (.ref it) "dict_itemiterator":=⟨_,hit,rfl⟩
 unfold pyNext;refine wpAny_bind (wpAny_attempt (wpAny_callSpecial?_slot (name:=Str.ofString "__next__") ty F.slot_dict_itemiterator_next
  (wpAny_call_entry F.slot_dict_itemiterator_next ty F.entry_dict_itemiterator_next (show _ from ?_) (F.args_dict_itemiterator_next_1 _))))
 refine wpAny_bind (wpAny_pure ?_);refine wpAny_bind (show _ from ?_);refine wpAny_bind (show _ from ?_)
 first|refine wpAny_bind (wpAny_typeNameOfWhole_itemiter ty (show _ from wpAny_pure ?_))|refine wpAny_bind (wpAny_typeNameOf_itemiter ty (show _ from wpAny_pure ?_))
 refine wpAny_bind (wpAny_fieldsOf hit rfl (show _ from ?_));have own:Builtin.Dict_items.ownsTuple "dict_itemiterator" = true:=rfl
 simp only[own,if_true];show wpAny _ _ (if (Value.ref d == Value.none)=true then _ else _) _ _ _
 rw[if_neg (show ¬((Value.ref d == Value.none)=true) from λz=>nomatch z)];refine wpAny_bind (wpAny_pure ?_)
 refine wpAny_bind (wpAny_dictEntries b1 b3 (show _ from ?_));rw[if_neg (show _ from by simp)];refine wpAny_bind (wpAny_pure ?_)
 refine wpAny_bind (wpAny_dictEpoch b1 b3 (show _ from ?_));rw[if_neg (show _ from by simp)];refine wpAny_pure (show _ from ?_)
 simp only[show ¬((i:Int) < 0) by omega,if_false,Rm9,hx]
 refine wpAny_bind (show _ from ?_)
 first|refine wpAny_bind (wpAny_typeNameOfWhole_itemiter ty (show _ from wpAny_pure ?_))|refine wpAny_bind (wpAny_typeNameOf_itemiter ty (show _ from wpAny_pure ?_))
 refine wpAny_bind (wpAny_isOneOf_itemiter ty (show _ from ?_));show wpAny _ _ (setField (.ref it) 3 (rawInt ((i:Int)+1)) >>= _) _ _ _
 refine wpAny_bind (wpAny_setField_rec hit (show _ by simp) λj1 c1 d1=>(show _ from ?_))
 replace d1:Heap.SameBut it hp j1:=d1
 replace c1:IsItemIter j1 it d (i+1) es.size ep ok ov:=by
  unfold IsItemIter;rw[show((i+1:Nat):Int)=(i:Int)+1 by omega];simpa [rawInt] using c1
 have ty1:Shared.TypeIs ⟨j1,g,dr,tk,os⟩ (.ref it) "dict_itemiterator":=⟨_,c1,rfl⟩
 refine wpAny_bind (wpAny_holding (show _ from ?_));refine wpAny_bind (wpAny_isOneOf_itemiter ty1 (wpAny_bind (wpAny_isOneOf_itemiter ty1 (show _ from ?_))))
 show wpAny _ _ (Builtin.Dict_items.pairFromOwner (.ref it) 6 e.key e.val) _ _ ⟨j1,g,dr,tk,os⟩;unfold Builtin.Dict_items.pairFromOwner
 refine wpAny_bind (wpAny_newTuple (show _ from ?_))
 have c2:IsItemIter (j1.push { cls:=.type "tuple",data:=.seq #[e.key,e.val] }) it d (i+1) es.size ep ok ov:=fH _ c1
 generalize hj2:j1.push { cls:=.type "tuple",data:=.seq #[e.key,e.val] } = j2 at c2
 have z1:j1.objs.size=hp.objs.size:=d1.1
 have il:it < hp.objs.size:=j0 hit
 have t2:j2.get? hp.objs.size=some { cls:=.type "tuple",data:=.seq #[e.key,e.val] }:=by rw[<-hj2,<-z1];exact tE _ rfl
 have z2:j2.objs.size=hp.objs.size+1:=by rw[<-hj2,Ri9,z1]
 have k2:∀b o,b≠it->hp.get? b=some o->j2.get? b=some o:=λb o hb q=>by rw[<-hj2];exact fH _ (d1.extBut b o hb q)
 show wpAny _ _ (Builtin.Dict_items.ownedTupleIsFree (.ref it) >>= _) _ _ ⟨j2,g,dr,tk,os⟩;rw[z1];clear hj2 c1 d1 ty1 z1 j1
 refine wpAny_bind (show _ from ?_);unfold Builtin.Dict_items.ownedTupleIsFree;refine wpAny_bind (wpAny_field c2 rfl (x:=.none) rfl (show _ from wpAny_pure ?_))
 simp only[if_true];refine wpAny_bind (wpAny_field c2 rfl (x:=ok) rfl (wpAny_bind (wpAny_field c2 rfl (x:=ov) rfl (show _ from ?_))))
 refine wpAny_bind (wpAny_setField_rec c2 (show _ by simp) λj3 c3 d3=>(show _ from ?_))
 replace d3:Heap.SameBut it j2 j3:=d3;replace c3:IsItemIter j3 it d (i+1) es.size ep e.key ov:=c3
 refine wpAny_bind (wpAny_setField_rec c3 (show _ by simp) λj4 c4 d4=>(show _ from ?_))
 replace d4:Heap.SameBut it j3 j4:=d4;replace c4:IsItemIter j4 it d (i+1) es.size ep e.key e.val:=c4
 refine wpAny_bind (wpAny_setField_rec c4 (show _ by simp) λj5 c5 d5=>(show _ from ?_))
 replace d5:Heap.SameBut it j4 j5:=d5;replace c5:IsItemIterOut j5 it d (i+1) es.size ep e.key e.val hp.objs.size:=c5
 refine wpAny_bind (wpAny_setField_rec c5 (show _ by simp) λj6 c6 d6=>(show _ from ?_))
 replace d6:Heap.SameBut it j5 j6:=d6;replace c6:IsItemIterOut j6 it d (i+1) es.size ep e.key e.val hp.objs.size:=c6
 have up:∀b o,b≠it->j2.get? b=some o->j6.get? b=some o:=λb o hb q=>d6.extBut b o hb (d5.extBut b o hb (d4.extBut b o hb (d3.extBut b o hb q)))
 refine wpAny_bind (wpAny_letGo (wpAny_pure (wpAny_pure ⟨_,rfl,wpAny_pure (hQ j6 c6 (up _ _ (Sd9 il) t2) ?_ λb o hb q=>up b o hb (k2 b o hb q))⟩)))
 show j6.objs.size=_;rw[d6.1,d5.1,d4.1,d3.1,z2]
theorem aHP{Q:Option Value->Shared->Prop}(hh:A.handled=none)(hit:IsItemIter s.heap it d i es.size ep ok ov)(hm:Raw s.heap d es ep)(hx:es.size<=i)(hQ:∀h',Heap.ExtBut it s.heap h'->Q none { s with heap:=h' }):wpAny (model prog w) A (pyNext (.ref it)) Q E s:=by
 obtain⟨od,b1,b2,b3⟩:=id hm;have ty:s.TypeIs (.ref it) "dict_itemiterator":=⟨_,hit,rfl⟩
 unfold pyNext;refine wpAny_bind (wpAny_attempt (wpAny_callSpecial?_slot (name:=Str.ofString "__next__") ty F.slot_dict_itemiterator_next
  (wpAny_call_entry F.slot_dict_itemiterator_next ty F.entry_dict_itemiterator_next (show _ from ?_) (F.args_dict_itemiterator_next_1 _))))
 refine wpAny_bind (wpAny_pure ?_);refine wpAny_bind (show _ from ?_);refine wpAny_bind (show _ from ?_)
 first|refine wpAny_bind (wpAny_typeNameOfWhole_itemiter ty (show _ from wpAny_pure ?_))|refine wpAny_bind (wpAny_typeNameOf_itemiter ty (show _ from wpAny_pure ?_))
 refine wpAny_bind (wpAny_fieldsOf hit rfl (show _ from ?_));have own:Builtin.Dict_items.ownsTuple "dict_itemiterator" = true:=rfl
 simp only[own,if_true];show wpAny _ _ (if (Value.ref d == Value.none)=true then _ else _) _ _ _
 rw[if_neg (show ¬((Value.ref d == Value.none)=true) from λz=>nomatch z)];refine wpAny_bind (wpAny_pure ?_)
 refine wpAny_bind (wpAny_dictEntries b1 b3 (show _ from ?_));rw[if_neg (show _ from by simp)];refine wpAny_bind (wpAny_pure ?_)
 refine wpAny_bind (wpAny_dictEpoch b1 b3 (show _ from ?_));rw[if_neg (show _ from by simp)];refine wpAny_pure (show _ from ?_)
 simp only[show ¬((i:Int) < 0) by omega,if_false,Rm9,Array.getElem?_eq_none hx]
 refine wpAny_bind (show _ from ?_)
 first|refine wpAny_bind (wpAny_typeNameOfWhole_itemiter ty (show _ from wpAny_pure ?_))|refine wpAny_bind (wpAny_typeNameOf_itemiter ty (show _ from wpAny_pure ?_))
 show wpAny _ _ (setField (.ref it) 2 Value.none >>= _) _ _ s
 refine wpAny_bind (wpAny_setField hit rfl (show _ by simp) (show _ from ?_));show wpAny _ _ (newExc (.type "StopIteration") [] >>= _) _ _ _
 refine wpAny_bind (show _ from ?_);simp only[newExc,newTuple];refine wpAny_bind (wpAny_newObj_type (show _ from ?_) (by size_fits))
 refine wpAny_bind (m:=firstArgMember _ _) (wpAny_of_eq (a:=Value.none) (show _ by first|rfl|(simp only[firstArgMember];rfl)) (show _ from ?_))
 refine wpAny_newObj_type (show _ from ?_) (by size_fits);simp only[raiseNew]
 refine wpAny_bind (wpAny_handled (show _ from ?_));rw[show A.in1.handled=none from hh];refine wpAny_bind (wpAny_pure (wpAny_throw ?_))
 refine wpAny_bind (wpAny_isInstance (T:="StopIteration") (b:=true) ⟨_,tE _ rfl,rfl⟩ isSubtype_stop (show _ from ?_))
 exact wpAny_pure (hQ _ (show _ from((Heap.SameBut.update ..).extBut.push _).push _))
end
end L2
namespace L2
open PySem PySem.Spec PyProof.Rows
section
variable{X:Cx}{pins:List (Addr×Obj)}{σ:St}{H:Hp}{s:Shared}
theorem Inv.aOA{d:Addr}{kvs:List (List Key×V)}{o:Obj}(I:Inv X pins σ H s)(e:H d=some (.dT kvs))(ho:s.heap.get? d=some o):Inv X pins σ (upd H d (.frz o (.dT kvs))) s:=by
 have nd:∀b u,H b=some u->u≠.dT kvs->b≠d:=λb u q n z=>by rw[z,e] at q;exact n (Option.some.inj q).symm
 refine I.step (h':=s.heap) (g':=s.gens) (d':=s.drawn) (t':=s.toks) (ch:=[]) (λ_ z=>nomatch z) (λb u _ _ _ q _=>q) (λb u _ _ _ q _=>⟨u.slots,q⟩) (λb u _ _ n=>?_)
  (λb u _ q=>⟨u,q⟩) (λb xs q=>?_) (λb u v q=>?_) (λb ps q=>⟨#[],?_⟩) (λm hm=>hm) (λb u q=>?_) I.bare
 ·rw[aW (λz=>by rw[z,e] at n;cases n)];exact n
 ·rw[aW (nd _ _ q (λz=>by cases z))];exact q
 ·rw[aW (nd _ _ q (λz=>by cases z))];exact q
 ·rw[aW (nd _ _ q (λz=>by cases z)),q];simp
 ·have st:∀c v,H c=some v->cD X.prog X.w H s.heap c v->cD X.prog X.w (upd H d (.frz o (.dT kvs))) s.heap c v:=λc v _ z=>
   z.aCJ (λ_ _ _ z=>z) (λc z=>by rw[aW (nd _ _ z (λy=>by cases y))];exact z) λc xs t z=>by rw[aW (nd _ _ z (λy=>by subst y;exact t))];exact z
  by_cases hb:b=d
  ·subst hb;rw[aP] at q;cases q;exact⟨ho,st b _ e (I.hok b _ e)⟩
  ·rw[aW hb] at q
   exact st b u q (I.hok b u q)
end
theorem aGu{H:Hp}:∀{kvs:List (List Key×V)}{xs:List (List Key×Addr×Value)},KT H kvs xs->∀{i:Nat}{p:List Key×V},kvs[i]?=some p->∃q,xs[i]?=some q/\H q.2.1=some (.tup (p.1.map kV))/\RelV p.2 q.2.2
 |[],_,r,i,p,h=>by simp at h
 |a::as,_,r,i,p,h=>by
  cases r with
  |cons x t=>
   cases i with
   |zero=>cases h;exact⟨_,rfl,x.2⟩
   |succ i=>exact aGu t (i:=i) h
theorem aI0{h:Heap}{kvs:List (List Key×V)}(x:cD P w H h d (.dT kvs)):(d == sysModules)=false/\∃(o:Obj) (es:Array DictEntry) (ep:Nat) (xs:List (List Key×Addr×Value)),
  h.get? d=some o/\o.ExactDict/\o.data=.dict es ep/\KT H kvs xs/\es.toList=xs.map (entryOfKey (tupleKind (eM P w)))/\es.size=kvs.length:=by
 obtain⟨z,y,xs,r,o,es,ep,h1,h2,h3,h4,h5⟩:=x
 refine⟨y,o,es,ep,xs,h1,h2,h3,r,h4,?_⟩
 rw[size_of_entries h4]
 exact(Paired.length r).symm
def Iti(d:Addr)(o:Obj)(kvs:List (List Key×V)):It:=
 ⟨λi H=>H d=some (.frz o (.dT kvs))/\i < kvs.length,λi H x H'=>∃T b kv,H T=none/\x=.ref T/\kvs[i]?=some kv/\H b=some (.tup (kv.1.map kV))/\H'=upd H T (.tup [.ref b,kv.2]),λi H=>H d=some (.frz o (.dT kvs))/\kvs.length<=i⟩
theorem aCM:entryFor table "dict_itemiterator.__iter__" = some Builtin.«dict_keyiterator.__iter__»:=PySem.entryFor_alias (id':="dict_keyiterator.__iter__") (by kernel_rfl) rfl (by decide +kernel) (show _ by kernel_rfl)
theorem aI1{P:Program}{w:World}{K:PySem.W.Frag}{elts:List Expr}{x1:Nat}{tp:Pos}(d it:Addr)(o:Obj)(kvs:List (List Key×V))(es:Array DictEntry)(ep:Nat)(hc0:o.cls=.type "dict")(hd0:o.data=.dict es ep)(hn:es.size=kvs.length) :
  Turn P w K (.Tuple elts x1 tp) (Iti d o kvs) [it] it (λi h=>∃ok ov,IsItemIter h it d i es.size ep ok ov) where
 mem:=by simp
 obj:=λi h st b hb=>by
  obtain⟨ok,ov,he⟩:=st
  have z:b=it:=by simpa using hb
  subst z
  exact⟨_,he,λv z=>by cases z⟩
 keep:=λi h h' st k=>by
  obtain⟨ok,ov,he⟩:=st
  exact⟨ok,ov,k it (by simp) _ he⟩
 item:=by
  intro X hP hw hK hc i pins s σ H E I hf st hg
  subst hP hw hK
  obtain⟨ok,ov,he⟩:=st
  obtain⟨hd,hi⟩:=hg
  have hO:cD X.prog X.w H s.heap d (.frz o (.dT kvs)):=I.hok d _ hd
  obtain⟨ho,hO⟩:=hO
  obtain⟨lo,o',es',ep',xs,g1,g2,g3,rel,g4,g5⟩:=aI0 hO
  have eo:o'=o:=Option.some.inj (g1.symm.trans ho)
  subst eo
  have ee:es'=es/\ep'=ep:=by rw[hd0] at g3;injection g3 with a b;exact⟨a.symm,b.symm⟩
  obtain⟨e1,e2⟩:=ee
  subst e1 e2
  have raw:Raw s.heap d es' ep':=⟨o',ho,hc0,hd0⟩
  have hx:kvs[i]?=some kvs[i]:=eU hi
  obtain⟨q,hq,hb,rv⟩:=aGu rel hx
  have hex:es'[i]?=some (entryOfKey (tupleKind (eM X.prog X.w)) q):=by rw[entry_at g4,hq];rfl
  have hilt:it < s.heap.objs.size:=j0 he
  refine aGt he raw hex λh1 h2' hT hsz hk=>?_
  refine⟨_,rfl,wpAny_letOwnedTupleGo_items h2' λh2 he2 hs2=>?_⟩
  replace hs2:Heap.SameBut it h1 h2:=hs2
  have hT2:h2.IsTuple s.heap.objs.size #[.ref q.2.1,q.2.2]:=⟨_,(hs2.2 _ (Sd9 hilt)).trans hT,rfl,_,rfl⟩
  have kk:∀b o,b∉[it]->s.heap.get? b=some o->h2.get? b=some o:=λb o hb q=>by
   have n1:b≠it:=λz=>hb (by simp[z])
   exact(hs2.2 b n1).trans (hk b o n1 q)
  have I2:Inv X pins σ (upd H s.heap.objs.size (.tup [.ref q.2.1,kvs[i].2])) { s with heap:=h2,toks:=s.toks }:=
   I.aBQ kk hf (eA _) (show cD X.prog X.w _ h2 _ (.tup [.ref q.2.1,kvs[i].2]) from⟨cK (by simp),[.ref q.2.1,q.2.2],.cons rfl (.cons rv .nil),hT2⟩)
  have hfr:H s.heap.objs.size=none:=I.hok.fresh (eA _)
  refine⟨.ref s.heap.objs.size,_,I2,rfl,⟨_,q.2.1,kvs[i],hfr,rfl,hx,hb,rfl⟩,⟨_,_,he2⟩,λb hb=>?_⟩
  have z:b=it:=by simpa using hb
  subst z
  rw[aW (vP hilt)]
  exact(hf b (by simp)).1
 done:=by
  intro X hP hw hK hc i pins s σ H E I hf st hg
  subst hP hw hK
  obtain⟨ok,ov,he⟩:=st
  obtain⟨hd,hi⟩:=hg
  have hO:cD X.prog X.w H s.heap d (.frz o (.dT kvs)):=I.hok d _ hd
  obtain⟨f0,f1,f2,f3,f4,f5⟩:=hf it (by simp)
  exact aHP (I.ok.hd hc) he ⟨o,hO.1,hc0,hd0⟩ (by omega) λh' eb=>⟨rfl,I.turned (t':=s.toks) (λb o hb e=>eb b o hb e) f0 f1 f3 f4 f5⟩
 self:=λ_ _ _ _ _ st h=>by
  obtain⟨ok,ov,he⟩:=st
  refine wpAny_pyIter_slot ⟨_,he,rfl⟩ F.slot_dict_itemiterator_iter (wpAny_call_entry F.slot_dict_itemiterator_iter ⟨_,he,rfl⟩ aCM ?_ (F.args_dict_itemiterator_iter_1 _))
  exact wpAny_pure ⟨_,rfl,"dict_itemiterator",_,⟨_,he,rfl⟩,F.slot_dict_itemiterator_next.lookup,h⟩
section
variable{X:Cx}{elts:List Expr}{x1:Nat}{tp:Pos}
def ImQ(R:It->Hp->Prop):V->Hp->Prop:=λx H1=>∃d kvs,x=.ref d/\H1 d=some (.dT kvs)/\∀o,R (Iti d o kvs) (upd H1 d (.frz o (.dT kvs)))
def aI2(td:TE):TI:=λσ H R=>td σ H (ImQ R)
theorem aMv{o:Expr}{td:TE}{apos cpos:Pos}(ho:PE X o td)(hbase:attributeBase o "items" X.env (eval o X.env)=eval o X.env:=by rfl)(hline:(apos.endLine == cpos.line)=true:=by rfl) :
  PI X (.Tuple elts x1 tp) (.Call (.Attribute o "items" apos) [] [] cpos) (aI2 td):=by
 intro pins s σ H R I h
 refine wpAny_Call_method (T:="dict") (id:="dict.items") hbase rfl hline PySem.F.plainAttrs_dict PySem.F.slot_dict_items PySem.F.type_dict_items (dI (ho pins s σ H _ I h) λv s1 ⟨x,H1,I1,r1,q1⟩=>?_)
 obtain⟨d,kvs,e,hd,q⟩:=q1
 subst e
 cases r1
 obtain⟨lo,ob,es,ep,xs,g1,g2,g3,rel,g4,g5⟩:=aI0 (show cD X.prog X.w H1 s1.heap d (.dT kvs) from I1.hok d _ hd)
 have raw:Raw s1.heap d es ep:=⟨ob,g1,g2.1,g3⟩
 refine⟨raw.ty,λb z=>by cases z;exact⟨ob,g1,g2.2.1⟩,?_⟩
 refine method_meetsIn PySem.F.slot_dict_items PySem.F.entry_dict_items rfl (PySem.evalArgs_none ⟨rfl,raw.ty,PySem.F.args_dict_items_1 _,_,aKL d lo,raw.ty,?_⟩)
 have I2:=I1.aOA hd g1
 show wpAny _ _ (pyIter (.ref s1.heap.objs.size)) _ _ _
 refine aE0 (s:={ s1 with heap:=s1.heap.push { cls:=.type "dict_items",data:=.fields #[.ref d] } }) ⟨_,tE _ rfl,rfl,rfl⟩ (raw.keep λo e=>fH _ e) ?_
 have hk:∀b u,s1.heap.get? b=some u->((s1.heap.push { cls:=.type "dict_items",data:=.fields #[.ref d] }).push { cls:=.type "dict_itemiterator",data:=.fields #[.none,.bool false,.ref d,.int 0 0,.int es.size 0,.int ep 0,.none,.none] }).get? b=some u:=
  λb u e=>fH _ (fH _ e)
 refine⟨_,[(s1.heap.push { cls:=.type "dict_items",data:=.fields #[.ref d] }).objs.size],_,_,_,rfl,I2.kept (t':=s1.toks) hk,aI1 d _ ob kvs es ep g2.1 g3 g5,⟨_,_,tE _ rfl⟩,λb hb=>?_,q ob⟩
 have e:b=(s1.heap.push { cls:=.type "dict_items",data:=.fields #[.ref d] }).objs.size:=by simpa using hb
 have hle:s1.heap.objs.size<=b:=by rw[e,Ri9];exact Nat.le_succ _
 exact I2.aF8 hle (I2.hok.fresh hle)
end
section
variable{σ:St}{H:Hp}{nx:St->Hp->Prop}{rt:VK}{g:TG}{tb:TS}
theorem aKM{R:It->Hp->Prop}(h:td σ H (ImQ R)):aI2 td σ H R:=h
theorem aRJ{R:It->Hp->Prop}(h1:H d=some (.dT kvs))(h:∀o,R (Iti d o kvs) (upd H d (.frz o (.dT kvs)))):ImQ R (.ref d) H:=⟨d,kvs,rfl,h1,h⟩
theorem aMw{kvs:List (List Key×V)}(Pv:Nat->St->Hp->Prop)(h0:Pv 0 σ H)(hl:∀i σ H,i<=kvs.length->Pv i σ H->H d=some (.frz o (.dT kvs)))(hs:∀i kv σ H T b,kvs[i]?=some kv->Pv i σ H->H T=none->H b=some (.tup (kv.1.map kV))->g (.ref T) σ (upd H T (.tup [.ref b,kv.2])) λσ2 H2=>tb ⟨Pv (i+1),rt,nx,Pv (i+1)⟩ σ2 H2)(hd:∀σ H,Pv kvs.length σ H->nx σ H) :
  ∃W:Nat->Nat->St->Hp->Prop,(∃m,W 0 m σ H)/\∀i m σ H,W i m σ H->
   ((Iti d o kvs).stop i H/\nx σ H)\/((Iti d o kvs).go i H/\∃N:St->Hp->Prop,(∀σ' H',N σ' H'->∃m',m' < m/\W (i+1) m' σ' H')/\∀x H',(Iti d o kvs).yld i H x H'->g x σ H' λσ2 H2=>tb ⟨N,rt,nx,N⟩ σ2 H2):=by
 refine⟨λi m σ H=>m=kvs.length - i/\i<=kvs.length/\Pv i σ H,⟨kvs.length,by simp,Rl9 _,h0⟩,?_⟩
 rintro i m σ H ⟨rfl,hi,p⟩
 have q:=hl i σ H hi p
 by_cases hlt:i < kvs.length
 ·refine .inr ⟨⟨q,hlt⟩,Pv (i+1),λσ' H' p'=>⟨kvs.length - (i+1),by omega,rfl,hlt,p'⟩,λx H' y=>?_⟩
  obtain⟨T,b,kv,hT,e1,hk,hb,e2⟩:=y
  subst e1 e2
  exact hs i kv σ H T b hk p hT hb
 ·have e:i=kvs.length:=by omega
  subst e
  exact .inl ⟨⟨q,eA _⟩,hd σ H p⟩
end
section
variable{X:Cx}{o:Expr}{td:TE}{apos cpos:Pos}
end
section
variable{X:Cx}{ek ev:Expr}{tk tv:TE}{pos:Pos}
theorem aKN{pins:List (Addr×Obj)}{σ:St}{H:Hp}{s:Shared}{a b:Addr}{v:V}{r:Value}{A:Around}{E:Value->Shared->Prop}{kvs:List (List Key×V)}{k:List Key}{Q:Unit->Shared->Prop}(hu:A.units < cLine)(I:Inv X pins σ H s)(e:H a=some (.dT kvs))(eb:H b=some (.tup (k.map kV)))(l:kvs.length < sizeLine)(rv:RelV v r)(h:∀s',Inv X pins σ (upd H a (.dT (putK kvs k v))) s'->Q () s') :
  wpAny (model X.prog X.w) A (dictSet a (.ref b) r) Q E s:=by
 obtain⟨z,hd,xs,rel,dd⟩:=aO1 I.hok e
 have hz:xs.length<=sizeLine:=by rw[<-Paired.length rel];exact z
 have hl:(putK kvs k v).length<=sizeLine:=by have:=wD kvs k v;omega
 refine wpAny_dictSet_heap (hsz:=hz) hu (aDK I.hok eb) dd λh' dd' hs=>h _ ?_
 obtain⟨q,es,ep,hq,h2,h3,h4,_,h5⟩:=dd'
 refine aGg I (by rw[e];exact True.intro) hs ⟨q,hq⟩ ⟨hl,hd,_,(rel.put k eb rv).keeps λc ys ec=>?_,q,es,ep,hq,h2,h3,h4,h5⟩
 rw[aW (aOU ec e (λz=>nomatch z))]
 exact ec
def aI3(tk tv:TE):TE:=λσ H Q=>∀d,H d=none->tk σ (upd H d (.dT [])) λy H1=>tv σ H1 λv H2=>∃b k,y=.ref b/\H2 b=some (.tup (k.map kV))/\H2 d=some (.dT [])/\Q (.ref d) (upd H2 d (.dT [(k,v)]))
theorem aMx(hu:X.A.units < cLine)(hk:PE X ek tk)(hv:PE X ev tv):PE X (.Dict [some ek] [ev] pos) (aI3 tk tv):=by
 intro pins s σ H Q I h
 have hn:H s.heap.objs.size=none:=I.hok.fresh (eA _)
 have I0:Inv X pins σ (upd H s.heap.objs.size (.dT [])) { s with heap:=s.heap.push { cls:=.type "dict",data:=.dict #[] } }:=I.laid (a:=s.heap.objs.size) (o:=.dT []) (t':=s.toks) (λ_ _ q=>fH _ q) (eA _) (aHx s.heap I.big)
 refine wpAny_Dict_any rfl rfl (by simp) (by simp) ?_
 refine pairTrees_cons_walk (dI (hk pins _ σ _ _ I0 (h _ hn)) λu s1 ⟨y,H1,I1,r1,q1⟩=>dI (hv pins s1 σ H1 _ I1 q1) λv s2 ⟨x,H2,I2,r2,q2⟩=>pairTrees_nil_walk ?_)
 obtain⟨b,k,e,eb,ed,q⟩:=q2
 subst e
 cases r1
 unfold storeAll
 simp only[List.forIn_cons,List.forIn_nil]
 refine wpAny_bind (wpAny_bind (aKN hu I2 ed eb (by rw[sizeLine_eq];decide) r2 λs3 I3=>?_))
 exact wpAny_pure (wpAny_pure ⟨.ref _,_,I3,rfl,q⟩)
end
end L2
namespace L2
section
variable{σ:St}{H:Hp}{Q:VK}
theorem aMy{tk:TE}(h:∀d,H d=none->tk σ (upd H d (.dT [])) λy H1=>tv σ H1 λv H2=>∃b k,y=.ref b/\H2 b=some (.tup (k.map kV))/\H2 d=some (.dT [])/\Q (.ref d) (upd H2 d (.dT [(k,v)]))):aI3 tk tv σ H Q:=h
theorem aMz{ty:TE}(h:td σ H λx H1=>∃a,x=.ref a/\IsD H1 a/\ty σ H1 λy H2=>tx σ H2 λz H3=>∃o,wG H3 a y o/\Q (o.getD z) H3):aIK td ty tx σ H Q:=h
end
end L2
namespace L2.Z
open PySem PySem.Spec PyProof.Rows L2
section
variable{X:Cx}{o e f ek ev:Expr}{td ty tx tk tv:TE}{pos apos cpos tp:Pos}{elts:List Expr}{x1:Nat}
theorem aHQ(ho:QE X o td)(hbase:attributeBase o "items" X.env (eval o X.env)=eval o X.env:=by rfl)(hline:(apos.endLine == cpos.line)=true:=by rfl) :
  QI X (.Tuple elts x1 tp) (.Call (.Attribute o "items" apos) [] [] cpos) (aI2 td):=⟨L2.aMv ho.h hbase hline⟩
theorem aHR(hu:X.A.units+9 < cLine)(hk:QE X ek tk)(hv:QE X ev tv):QE X (.Dict [some ek] [ev] pos) (aI3 tk tv):=⟨L2.aMx (by omega) hk.h hv.h⟩
theorem aHS(hu:X.A.units+9 < cLine)(ho:QE X o td)(he:QE X e ty)(hf:QE X f tx)(base:attributeBase o "get" X.env (eval o X.env)=eval o X.env:=by rfl)
  (few:((backTo cpos (starEach [e,f] X.env)).all (λx=>!x.1) && (backToKw cpos (keywordEach [] X.env)).all (λx=>x.1.isSome)
   && decide (([e,f]:List Expr).length+([]:List Keyword).length+(if ([]:List Keyword).isEmpty then 0 else 1) < 30))=true:=by rfl)
  (line:(apos.endLine == cpos.line)=true:=by rfl) (trees:backTo cpos (starEach [e,f] X.env)=[(false,eval e X.env),(false,eval f X.env)]:=by rfl) :
  QE X (.Call (.Attribute o "get" apos) [e,f] [] cpos) (aIK td ty tx):=⟨L2.aLO (by omega) ho.h he.h hf.h ⟨base,few,line,trees⟩⟩
end
end L2.Z
namespace L2
open PySem PySem.Spec PyProof.Rows
section
variable{X:Cx}{tg:Expr}
end
section
variable{σ:St}{H:Hp}{Q:VK}{nx:St->Hp->Prop}{rt:VK}{g:TG}{tb:TS}
theorem aMA(h:td σ H λx H1=>ty σ H1 λy H2=>∃a v,x=.ref a/\wG H2 a y (some v)/\Q v H2):aLJ td ty σ H Q:=h
theorem wG.f{k:List Key}(e:H a=some (.frz o (.dT kvs)))(eb:H b=some (.tup (k.map kV))):wG H a (.ref b) (tF kvs k):=.inr ⟨kvs,k,b,.inr ⟨o,e⟩,rfl,eb,rfl⟩
end
end L2
namespace L2.Z
open PySem PySem.Spec PyProof.Rows L2
section
variable{X:Cx}{o i l tg:Expr}{td ty tl:TE}{pos:Pos}
theorem wV(hu:X.A.units+9 < cLine)(ho:QE X o td)(hi:QE X i ty)(hs:aP5 i:=by intro _ _;rfl):QE X (.Subscript o i pos) (aLJ td ty):=⟨L2.aNP (by omega) ho.h hi.h hs⟩
end
end L2.Z
namespace L2
open PySem PySem.Spec PyProof.Rows
section
open PySem.SeqAt
open PySem.AutoSeq1 (wpAny_loadPart')
open PySem.MeetsSeq PySem.MeetsSeq2 PySem.MeetsSeq3
end
section
variable{X:Cx}
end
end L2
namespace L2
open PySem PySem.Spec PyProof.Rows
structure Clo(P:Program)(w:World)(K:W.Frag)(mg:Str->Option Value)(base:Heap)(k:Nat)(f:Addr)(sp:Sp):Prop where
 ex:∃(o:Obj) (fd:FuncData) (ps:List Str),base.get? f=some o/\o.data=.func fd/\bS P w K mg base gZ k f fd ps sp/\∀(s:Shared) (us:List Value),us.length=ps.length->BindsTo s fd ⟨us,[]⟩ (ps.zip us)
abbrev aFJ(q:Str)(params:Arguments)(body:Expr)(scope:Scope)(cl:List (Str×Addr))(pm cd ct:Value):FuncData:=
  { name := "<lambda>", qualname := q, params, body := .expr body, scope, globals := mainGlobals, closure := cl, defaults := .none, kwdefaults := .none, doc := .none, pyModule := pm, annotations := none, code := cd, closureTuple := ct, builtins := builtinsNs }
abbrev wW(q:Str)(scope:Scope)(L f:Addr)(cd:Value)(cl:List (Str×Addr)):Env:=
 { scope:=scope,locals:=L,globals:=mainGlobals,cells:=cl,qual:=q ++ ".<locals>.",func:=some f,code:=cd,frame:=some L,builtins:=builtinsNs }
def cxL(P:Program)(w:World)(K:W.Frag)(mg:Str->Option Value)(base:Heap)(N:List Str)(q:Str)(scope:Scope)(f:Addr)(cd:Value)(cl:List (Str×Addr))(A:Around)(outer:List Env)(s:Shared)(H:Hp):Cx where
 prog:=P
 w:=w
 K:=K
 mg:=mg
 base:=base
 A:=A.deeper (wW q scope s.heap.objs.size f cd cl)
 N:=N
 s₀:=s
 H₀:=H
 env:=wW q scope s.heap.objs.size f cd cl
 outer:=outer
 stack:=wW q scope s.heap.objs.size f cd cl::outer
 ex:=[]
 calm:=true
 fn:=λ_=>false
 pn:=[]
 xe:=λ_ _=>False
structure aQS(base:Heap)(scope:Scope)(N ps:List Str)(cl:List (Str×Addr))(cap:St):Prop where
 kind:scope.kind=.function
 co:scope.isCoroutine=false
 gen:scope.isGenerator=false
 nocell:∀y∈scope.names,y.2≠.cell
 pre:N.take ps.length=ps
 nd:N.Nodup
 len:N.length=ps.length+cap.length
 par:∀x∈ps,scope.names.lookup x=some .local
 inj:∀x y c,cl.lookup x=some c->cl.lookup y=some c->x=y
 has:∀x,scope.names.lookup x=some .free->∃c,cl.lookup x=some c
 all:∀x c,cl.lookup x=some c->∃o v,base.get? c=some o/\o.data=.cell v
 cap:∀(i:Nat) x v,(N.drop ps.length)[i]?=some x->cap[i]?=some (some v)->scope.names.lookup x=some .free/\∃u c o,RelV v u/\cl.lookup x=some c/\base.get? c=some o/\o.data=.cell (some u)
theorem aJL:∀{l:List (Str×Value)},(l.map (·.1)).Nodup->(x,v)∈l->l.lookup x=some v
 |[],_,h=>by cases h
 |(y,u)::r,nd,h=>by
  rw[Rf9]
  rcases sZ.mp h with e|h'
  ·cases e
   rw[beq_self_eq_true]
  ·have ne:x≠y:=λz=>by
    subst z
    exact(Rn9.mp nd).1 (Qy9.mpr ⟨(x,v),h',rfl⟩)
   rw[beq_eq_false_iff_ne.mpr ne]
   exact aJL (Rn9.mp nd).2 h'
theorem aOB:∀{P:List Str}{us:List Value}{i:Nat},P.Nodup->P[i]?=some x->us[i]?=some v->P.length=us.length->(P.zip us).reverse.lookup x=some v:=by
 intro P us i nd h1 h2 hl
 have hm:(x,v)∈(P.zip us).reverse:=by
  rw[List.mem_reverse]
  refine oH (i:=i) ?_
  rw[List.getElem?_zip_eq_some]
  exact⟨h1,h2⟩
 refine aJL ?_ hm
 rw[List.map_reverse,List.map_fst_zip (Tu9 hl)]
 exact List.pairwise_reverse.mpr (nd.imp λh=>Ne.symm h)
def aJM(c:Addr)(q:Str)(n:Nat)(tl:TE)(cap:St):Sp:=λws H Q _=>H c=some (.cod q)/\ws.length=n/\tl (ws.map some++cap) H Q
theorem aI4{P:Program}{w:World}{K:W.Frag}{mg:Str->Option Value}{base:Heap}{N ps:List Str}{q:Str}{scope:Scope}{f:Addr}{cd:Value}{cl:List (Str×Addr)}{cap:St}{A:Around}{outer:List Env}{s:Shared}{H:Hp}{us:List Value}{vs:List V}{h':Heap}{tk:Nat}
  (S:aQS base scope N ps cl cap) (hd:A.handled=none) (e0:aEV P w K mg base A outer s H) (hl:vs.length=ps.length) (r:Vals vs us)
  (hns:h'.Ns s.heap.objs.size λx=>(ps.zip us).reverse.lookup x) (hk:∀b o,s.heap.get? b=some o->h'.get? b=some o) :
  Inv (cxL P w K mg base N q scope f cd cl A outer s H) [] (vs.map some++cap) H { s with heap:=h',toks:=tk }:=by
 have noA:∀b:Addr,b∉(cxL P w K mg base N q scope f cd cl A outer s H).ex:=λb z=>absurd (show b∈([]:List Addr) from z) (by simp)
 refine⟨⟨e0.mod,S.kind,rfl,rfl,eA _,S.inj,λy hy=>?_,λy c z _=>(by cases z),λ_=>hd,Around.frames_deeper e0.frames,.inr ⟨rfl,rfl⟩,λb z=>absurd z (noA b),e0.bs,e0.bsz,λb _ _=>noA b,λb z=>absurd z (noA b),e0.zH,e0.frf⟩,
  rfl,e0.bare,Un.kept hk,⟨_,hns,λi y v h1 h2 h3=>?_⟩,λy c h=>?_,e0.hok.fresh (eA _),λy c h=>?_,λp hp=>absurd (show p∈([]:List (Addr×Obj)) from hp) (by simp),e0.hok.kept hk,?_⟩
 ·have hy:scope.names.lookup y=some .cell\/scope.names.lookup y=some .free:=hy
  rcases hy with hy|hy
  ·exact absurd rfl (S.nocell _ (PySem.mem_of_lookup hy))
  ·exact S.has y hy
 ·have h1':N[i]?=some y:=h1
  by_cases hi:i < ps.length
  ·rw[Qs9 (by rw[bL];omega),pG] at h2
   obtain⟨v',hv',e⟩:=Qw9.mp h2
   cases e
   obtain⟨u,hu,rv⟩:=r.get hv'
   have hp:ps[i]?=some y:=by rw[<-S.pre,List.getElem?_take_of_lt hi];exact h1'
   have ndP:ps.Nodup:=by rw[<-S.pre];exact S.nd.sublist (List.take_sublist _ _)
   refine⟨u,rv,.inl ⟨S.par y (oH hp),?_⟩⟩
   exact aOB ndP hp hu (by rw[<-hl];exact r.length)
  ·obtain⟨j,rfl⟩ : ∃j,i=ps.length+j:=⟨i - ps.length,by omega⟩
   rw[Qt9 (by rw[bL];omega),bL,hl,Nat.add_sub_cancel_left] at h2
   obtain⟨hf,u,c,o,rv,ec,eo,ed⟩:=S.cap j y v (by rw[List.getElem?_drop];exact h1') h2
   exact⟨u,rv,.inr ⟨.inr hf,c,ec,o,hk _ _ (e0.bs c o eo).1,ed⟩⟩
 ·obtain⟨o,v,eo,ed⟩:=S.all y c h
  exact⟨v,o,hk _ _ (e0.bs c o eo).1,ed⟩
 ·obtain⟨o,v,eo,ed⟩:=S.all y c h
  exact(e0.bs c o eo).2
 ·show _=N.length
  rw[sI,bL,hl,S.len]
theorem aQT{P:Program}{w:World}{K:W.Frag}{mg:Str->Option Value}{base:Heap}{k:Nat}{f c:Addr}{q:Str}{params:Arguments}{body:Expr}{scope:Scope}{cl:List (Str×Addr)}{pm ct:Value}{N ps:List Str}{cap:St}{tl:TE}{o:Obj}
  (hf:base.get? f=some o) (ho:o.data=.func (aFJ q params body scope cl pm (.ref c) ct)) (S:aQS base scope N ps cl cap)
  (hbody:∀(A:Around) (outer:List Env) (s:Shared) (H:Hp),eN k (A.deeper (wW q scope s.heap.objs.size f (.ref c) cl))->PE (cxL P w K mg base N q scope f (.ref c) cl A outer s H) body tl) :
  bS P w K mg base gZ (k+1) f (aFJ q params body scope cl pm (.ref c) ct) ps (aJM c q ps.length tl cap):=by
 refine⟨λvs H Q E h=>h.2.1,λA outer s H args us vs Q E hr e0 hb r hsp=>?_⟩
 obtain⟨hcod,hl,hq⟩:=hsp
 have lim:s.heap.NoLimit:=e0.mod.nolimit.keeps λb o e=>(e0.bs b o e).1
 have hcd:s.heap.CodeRec (.ref c) q:=by
  obtain⟨oc,vc,t,z1,z2,z3⟩:=e0.hok c _ hcod
  exact⟨c,oc,vc,t,rfl,z1,z2,z3⟩
 refine PySem.W.kla_callFunE hr.depth (e0.bs f _ hf).1 ho S.co S.gen rfl hcd (hb _ _ _ _ ?_)
 refine wpAny_newFunctionEnv S.nocell (λy hy=>?_) (λh₁ hns hsb=>⟨lim.fresh _ hsb,?_⟩) S.kind
 ·obtain⟨n,v⟩:=y
  exact S.par n (Tp9 hy).1
 show codeAny _ _ (.expr body (wW q scope s.heap.objs.size f (.ref c) cl)) _ _
 have hk₁:∀b o,s.heap.get? b=some o->h₁.get? b=some o:=λb o e=>hsb.extBut b o (vP (j0 e)) (fH _ e)
 refine PySem.W.kla_codeExpr ?_
 have I:=aI4 (tk:=s.toks+(ps.zip us).length) (q:=q) (f:=f) (cd:=.ref c) S hr.hd e0 hl r hns hk₁
 refine wpAny_mono (hbody A outer s H (hr.deeper _) [] _ _ H _ I hq) (λu s' hs=>?_) λe s' hs=>hs.elim
 obtain⟨v,H',J,rv,z⟩:=hs
 exact⟨v,H',J.os,J.bare,J.base,J.hok,rv,z⟩
def aGv(base h:Heap)(Z:List Addr):Heap:=PySem.W.hideAll h ((List.range h.objs.size).filter λa=>!((base.get? a).isSome || Z.contains a))
theorem wX{base h:Heap}(e:h.get? b=some o)(z:(∃u,base.get? b=some u)\/b∈Z):(aGv base h Z).get? b=some o:=by
 refine PySem.W.hideAll_get _ e λhm=>?_
 have q:=(Sm9.mp hm).2
 rcases z with ⟨u,z⟩|z
 ·rw[z] at q;simp at q
 ·rw[show Z.contains b=true from List.elem_iff.mpr z] at q
  simp at q
theorem aJN{base h:Heap}(e:(aGv base h Z).get? b=some o):h.get? b=some o/\((∃u,base.get? b=some u)\/b∈Z):=by
 have e':h.get? b=some o:=PySem.W.of_hideAll _ e
 refine⟨e',?_⟩
 cases q1:base.get? b with
 |some u=>exact .inl ⟨u,rfl⟩
 |none=>
  cases q2:Z.contains b with
  |true=>exact .inr (List.elem_iff.mp q2)
  |false=>
   have hm:b∈(List.range h.objs.size).filter λa=>!((base.get? a).isSome || Z.contains a):=Sm9.mpr ⟨Ry9.mpr (j0 e'),by rw[q1,q2];rfl⟩
   have z:(aGv base h Z).get? b=none:=PySem.W.hideAll_none _ hm
   rw[z] at e
   cases e
theorem Mod.keeps{K:W.Frag}{mg:Str->Option Value}{base base':Heap}(M:Mod K mg base)(k:∀b o,base.get? b=some o->base'.get? b=some o):Mod K mg base':=
 ⟨M.kin.keeps k,M.glob.keeps k,(let ⟨mb,h1,h2⟩:=M.blt;⟨mb,h1.keeps k,h2⟩),M.nolimit.keeps k,let ⟨bm,o,e1,e2,e3,r⟩:=M.bm;⟨bm,o,e1,e2,k _ _ e3,r⟩⟩
theorem aI5{h:Heap}(hl:h.FunFrames base l)(hz:∀b∈frs l,b∉Z):h.FunFrames (aGv base h Z) l:=by
 induction l with
 |nil=>trivial
 |cons env rest ih=>
  obtain⟨hk,⟨L,o,hf,hn,ho,hd⟩,hr⟩:=hl
  have hL:L∈frs (env::rest):=by unfold frs;rw[Sf9,hf];exact Qr9
  refine⟨hk,⟨L,o,hf,?_,ho,hd⟩,ih hr λb hb=>hz b (by unfold frs;rw[Sf9,hf];exact zE _ hb)⟩
  cases q:(aGv base h Z).get? L with
  |none=>rfl
  |some u=>
   rcases(aJN q).2 with ⟨v,z⟩|z
   ·rw[hn] at z;cases z
   ·exact absurd z (hz L hL)
end L2
namespace L2
open PySem PySem.Spec PyProof.Rows
section
variable{X:Cx}{pins:List (Addr×Obj)}{σ:St}{H:Hp}{s:Shared}{c Pt:Addr}{q:Str}{params:Arguments}{body:Expr}{scope:Scope}{pos lpos:Pos}{cl:List (Str×Addr)}
theorem aMB{Q:Value->Shared->Prop}(I:Inv X pins σ H s)(hcode:X.env.code=.ref c)(hC:PySem.W.codeHdIn X.K c Pt=true)(hT:H Pt=some (.ctb pos q))(hq:X.env.qual ++ "<lambda>" = q)(hdef:defaultsOf params X.env=([],[]))(hcl:closureFor scope X.env=pure cl)
  (h:∀(f c':Addr) (pm ct:Value) (o:Obj) (H':Hp) (s':Shared),Inv X pins σ H' s'->aQ H H'->s'.heap.get? f=some o->o.data=.func (aFJ q params body scope cl pm (.ref c') ct)->H' f=none->H' c'=some (.cod q)->s.heap.objs.size<=f->Q (.ref f) s') :
  wpAny (model X.prog X.w) X.A (eval (.Lambda params body scope pos) X.env) Q X.xe s:=by
 obtain⟨ps,eP,ht,hc⟩:=I.hok Pt _ hT
 have hg:s.heap.Ns mainGlobals X.mg:=I.mod.glob.keeps I.bk
 have hgP:mainGlobals≠Pt:=λz=>by
  obtain⟨o,es,ep,e,hd,_⟩:=hg
  rw[z,eP] at e
  cases e
  cases hd
 have hb:s.heap.BuiltinsAt X.mg Pt:=by
  obtain⟨bm,o,e1,e2,e3,e4,e5,e6⟩:=I.mod.bm
  have e3':=I.bk _ _ e3
  refine⟨bm,o,e1,e2,λz=>?_,λz=>?_,e3',e4,e5,e6⟩
  ·obtain⟨o',es,ep,e,hd,_⟩:=hg
   rw[z,e] at e3'
   cases e3'
   rw[hd] at e6
   cases e6
  ·rw[z,eP] at e3'
   cases e3'
   cases e4
 have hCd:PySem.W.CodeHd s.heap c Pt:=PySem.W.codeHd_of_K I.kIn hC
 refine PySem.W.kla_eval hdef ?_
 rw[hq]
 rcases hc with hn|⟨c',hs,hcd⟩
 ·refine PySem.W.kla_makeFunction (mg:=X.mg) (P:=Pt) (c:=c) (ps:=ps) hcl I.ok.glob hg hcode hCd eP ht hn hgP hb λc' ctv h' tk hx hge hlt hrec htb=>?_
  have hnc:H c'=none:=I.hok.fresh hge
  have hx2:∀b o,b≠Pt->s.heap.get? b=some o->(h'.push (PySem.W.kla_obj "<lambda>" q params body scope cl ((X.mg "__name__").getD .none) c' ctv)).get? b=some o:=λb o n e=>fH _ (hx b o n e)
  have np:∀b,H b=none->b≠Pt:=λb n z=>by rw[z,hT] at n;cases n
  have ncP:c'≠Pt:=np c' hnc
  refine h h'.objs.size c' _ ctv _ (upd H c' (.cod q)) _ (I.step (h':=h'.push _) (g':=s.gens) (d':=s.drawn) (t':=tk) (ch:=[]) (λ_ z=>nomatch z) (λb o _ _ _ e n=>hx2 b o (np b n) e) (λb o _ _ _ e n=>⟨o.slots,hx2 b o (np b n) e⟩)
   (λb o _ e n=>by rw[aW (vP (zF (j0 e) hge))];exact n) (λb o _ e=>?_) (λb xs e=>by rw[aW (bG e hnc)];exact e) (λb o u e=>by rw[aW (bG e hnc)];exact e)
   (λb ps e=>⟨#[],by rw[aW (bG e hnc),e];simp⟩) (λm hm=>hm.extBut (b:=Pt) hx2 (np _ I.free)) (λb u e=>?_) I.bare) (aQ.new hnc) (tE _ rfl) rfl ?_ aP (Rr9 hge (Sy9 hlt))
  ·by_cases hbP:b=Pt
   ·subst hbP
    exact⟨_,fH _ htb⟩
   ·exact⟨o,hx2 b o hbP e⟩
  ·by_cases hbc:b=c'
   ·subst hbc
    rw[aP] at e
    cases e
    obtain⟨c2,oc,vs,t,z1,z2,z3,z4⟩:=hrec
    cases z1
    exact⟨oc,vs,t,fH _ z2,z3,z4⟩
   ·rw[aW hbc] at e
    by_cases hbP:b=Pt
    ·subst hbP
     rw[hT] at e
     cases e
     refine⟨_,fH _ htb,?_,.inr ⟨c',?_,aP⟩⟩
     ·rw[Array.toList_append]
      exact TriplesOk_snoc _ _ _ _ ht
     ·rw[Array.toList_append]
      exact codeAmong_snoc _ ht hn
    ·refine(I.hok b u e).aCJ (λd v hd z=>hx2 d v ?_ z) (λd z=>by rw[aW (bG z hnc)];exact z) λd xs _ z=>by rw[aW (bG z hnc)];exact z
     rcases hd with z|z
     ·rw[z];exact hbP
     ·intro y
      rw[y,hT] at z
      cases z
  ·rw[aW (Sd9 hlt)]
   exact I.hok.fresh (Rr9 hge (Sy9 hlt))
 ·refine PySem.W.kla_makeFunctionHit (mg:=X.mg) (P:=Pt) (c:=c) (ps:=ps) hcl I.ok.glob hg hcode hCd eP ht hs hb λctv h' tk hk hsz=>?_
  exact h h'.objs.size c' _ ctv _ H _ (I.kept λb u e=>fH _ (hk b u e)) (aQ.refl _) (tE _ rfl) rfl (I.hok.fresh hsz) hcd hsz
def PAL(X:Cx)(es:List Expr)(params:Arguments)(body:Expr)(scope:Scope)(lpos:Pos)(Pt:Addr)(q:Str)(cl:List (Str×Addr))(t:TA):Prop:=
 ∀(pos:Pos) (pins:List (Addr×Obj)) (s:Shared) (σ:St) (H:Hp) (Q:List V->Hp->Prop),Inv X pins σ H s->t σ H (λvs H1=>H1 Pt=some (.ctb lpos q)/\Q vs H1)->
  wpAny (model X.prog X.w) X.A (spliced (backTo pos (starEach es X.env))) (λus s'=>∃(vs:List V) (us0:List Value) (f c':Addr) (pm ct:Value) (o:Obj) (H1 H2:Hp),us=us0 ++ [.ref f]/\Vals vs us0/\Inv X pins σ H2 s'/\aQ H1 H2/\
   s'.heap.get? f=some o/\o.data=.func (aFJ q params body scope cl pm (.ref c') ct)/\H2 f=none/\H2 c'=some (.cod q)/\f∉frs X.stack/\Q vs H1) X.xe s
theorem aMC(hcode:X.env.code=.ref c)(hC:PySem.W.codeHdIn X.K c Pt=true)(hq:X.env.qual ++ "<lambda>" = q)(hdef:defaultsOf params X.env=([],[])){n:Nat}{idx:List Nat}(S:fJ X scope N n idx) :
  PAL X [.Lambda params body scope lpos] params body scope lpos Pt q (oI X.env scope.names []) mH:=by
 intro pos pins s σ H Q I h
 obtain⟨hT,hQ⟩:=h
 show wpAny _ _ (spliced ((false,eval (.Lambda params body scope lpos) X.env)::backTo pos (starEach [] X.env))) _ _ s
 refine Calls.spliced_cons (aMB I hcode hC hT hq hdef (aAf (S.cells I)) λf c' pm ct o H' s' I' sm e1 e2 e3 e4 e5=>?_)
 refine Calls.spliced_nil ⟨[],[],f,c',pm,ct,o,H,H',rfl,.nil,I',sm,e1,e2,e3,e4,λz=>?_,hQ⟩
 obtain⟨_,o',e,_⟩:=I.stack.mem z
 exact absurd (zF (j0 e) e5) (Rs9 _)
theorem aMD{e:Expr}{es:List Expr}{te:TE}{t:TA}(ha:PE X e te)(hr:PAL X es params body scope lpos Pt q cl t)(hs:starEach (e::es) X.env=(false,eval e X.env)::starEach es X.env:=by rfl) :
  PAL X (e::es) params body scope lpos Pt q cl (bF te t):=by
 intro pos pins s σ H Q I h
 rw[hs]
 show wpAny _ _ (spliced ((false,eval e X.env)::backTo pos (starEach es X.env))) _ _ s
 refine Calls.spliced_cons (dI (ha pins s σ H _ I h) λu s1 ⟨x,H1,I1,r1,q1⟩=>?_)
 refine dI (hr pos pins s1 σ H1 (λvs H2=>Q (x::vs) H2) I1 q1) λus s2 ⟨vs,us0,f,c',pm,ct,o,H2,H3,e0,r,I3,sm,e1,e2,e3,e4,e5,hQ⟩=>?_
 exact⟨x::vs,u::us0,f,c',pm,ct,o,H2,H3,by rw[e0];rfl,.cons r1 r,I3,sm,e1,e2,e3,e4,e5,hQ⟩
def aI6(Pt:Addr)(lpos:Pos)(q:Str)(sp:(Addr->Sp->Prop)->Sp)(n:Nat)(tl:TE)(idx:List Nat)(t:TA):TE:=λσ H Q=>t σ H λvs H1=>H1 Pt=some (.ctb lpos q)/\
 ∀(f c':Addr) (H2:Hp) (C:Addr->Sp->Prop),aQ H1 H2->H2 c'=some (.cod q)->C f (aJM c' q n tl (idx.map λj=>(σ[j]?).join))->sp C (vs ++ [.ref f]) H2 Q E0
theorem aME{f:Addr}{fd:FuncData}{ps psL N:List Str}{idx:List Nat}{sp:(Addr->Sp->Prop)->Sp}{k kc:Nat}{x:Str}{p:Pos}{e:Expr}{es:List Expr}{t:TA}{tl:TE}
  (F:∀base':Heap,bS X.prog X.w X.K X.mg base' gZ k f fd ps (sp (Clo X.prog X.w X.K X.mg base' (kc+1)))) (hr:eN k X.A) (hg:Gl X x) (hm:X.mg x=some (.ref f)) (hk:W.keepIn X.K (.ref f)=true) (hb:Binds X.K fd ps [])
  (hfn:∀y,X.fn y=true) (S:fJ X scope N psL.length idx) (hpre:N.take psL.length=psL) (hpar:psL.all (λx=>scope.names.lookup x == some .local)=true) (hco:scope.isCoroutine=false) (hgen:scope.isGenerator=false)
  (hbind:∀(cl:List (Str×Addr)) (pm cd ct:Value) (us:List Value),us.length=psL.length->bindArgs (aFJ q params body scope cl pm cd ct) ⟨us,[]⟩=pure (psL.zip us))
  (ha:PAL X (e::es) params body scope lpos Pt q (oI X.env scope.names []) t)
  (hbody:∀(base':Heap) (f' c':Addr) (cl:List (Str×Addr)) (A:Around) (outer:List Env) (s:Shared) (H:Hp),eN kc (A.deeper (wW q scope s.heap.objs.size f' (.ref c') cl))->PE (cxL X.prog X.w X.K X.mg base' N q scope f' (.ref c') cl A outer s H) body tl)
  (hdb:(x == ("__debug__" : Str))=false:=by decide) (he:starEach (e::es) X.env=(false,eval e X.env)::starEach es X.env:=by rfl) (hpl:(backTo pos (starEach es X.env)).any (·.1)=false:=by rfl) :
  PE X (.Call (.Name x p) (e::es) [] pos) (aI6 Pt lpos q sp psL.length tl idx t):=by
 intro pins s σ H Q I h
 refine wpAny_Call_Name_kw (aDp I hg hm ?_ hdb)
 refine PySem.W.callWith_K (h₀:=X.base) I.ok.mod.kin hk (dI (ha pos pins s σ H _ I h) λus s1 ⟨vs,us0,fl,c',pm,ct,o,H1,H2,e0,r,I2,sm,e1,e2,e3,e4,e5,hQ⟩=>⟨I2.kIn,?_⟩) he hpl
 subst e0
 generalize hcl:oI X.env scope.names []=cl at *
 have cels:=S.cells I2
 have clo:∀{y:Str} {d:Addr},cl.lookup y=some d->X.env.cells.lookup y=some d:=λ{y d} z=>qN cels (by rw[hcl];exact z)
 have lkp:∀{y:Str} {d:Addr},(y,NameKind.free)∈scope.names->X.env.cells.lookup y=some d->cl.lookup y=some d:=λ{y d} h1 h2=>by rw[<-hcl];exact wH cels h1 h2
 have inZ:∀{y:Str} {d:Addr},cl.lookup y=some d->d∈fl::cl.map (·.2):=λ{y d} z=>zE _ (Qy9.mpr ⟨(y,d),PySem.mem_of_lookup z,rfl⟩)
 have memZ:∀d,d∈cl.map (·.2)->∃y,X.env.cells.lookup y=some d:=λd z=>by
  obtain⟨⟨y,d'⟩,hm,e⟩:=Qy9.mp z
  have e':d'=d:=e
  subst e'
  rw[<-hcl] at hm
  rcases aAT _ _ cels hm with q|q
  ·cases q
  ·exact⟨y,q⟩
 have keepB:∀b u,X.base.get? b=some u->(aGv X.base s1.heap (fl::cl.map (·.2))).get? b=some u:=λb u z=>wX (I2.bk b u z) (.inl ⟨u,z⟩)
 have notfs:∀b∈frs X.stack,b∉fl::cl.map (·.2):=λb hb z=>by
  rcases sZ.mp z with rfl|z
  ·exact e5 hb
  ·obtain⟨y,hy⟩:=memZ b z
   rcases sZ.mp (I2.aDy b hb) with q|q
   ·exact I2.cne y b hy q
   ·obtain⟨_,ob,eo,_⟩:=I2.ok.zH.mem q
    exact absurd (zF (j0 eo) (I2.ok.cab y b (hfn y) hy)) (Rs9 _)
 have aLz:aEV X.prog X.w X.K X.mg (aGv X.base s1.heap (fl::cl.map (·.2))) X.A X.stack s1 H2:=by
  refine⟨I2.ok.frames,I2.ok.mod.keeps keepB,λb u z=>?_,Tu9 (PySem.W.hideAll_size _ _),aI5 I2.stack notfs,I2.aDn,I2.hok,I2.bare⟩
  obtain⟨z1,z2⟩:=aJN z
  refine⟨z1,?_⟩
  rcases z2 with ⟨u',z2⟩|z2
  ·exact(I2.bs b u' z2).2
  ·rcases sZ.mp z2 with rfl|z2
   ·exact e3
   ·obtain⟨y,hy⟩:=memZ b z2
    exact I2.freeC y b hy
 have caps:aQS (aGv X.base s1.heap (fl::cl.map (·.2))) scope N psL cl (idx.map λj=>(σ[j]?).join):=by
  refine⟨S.kind,hco,hgen,S.nocell,hpre,S.nd,by rw[bL];exact S.len,λy hy=>?_,λy z d h1 h2=>I2.ok.inj y z d (clo h1) (clo h2),λy hy=>?_,λy d hy=>?_,λi y v h1 h2=>?_⟩
  ·have:=To9.mp hpar y hy
   simpa using this
  ·have hmem:=PySem.mem_of_lookup hy
   obtain⟨d,hd⟩:=cels _ hmem rfl
   exact⟨d,lkp hmem hd⟩
  ·obtain⟨v,oc,eo,ed⟩:=I2.cell y d (clo hy)
   exact⟨oc,v,wX eo (.inr (inZ hy)),ed⟩
  ·obtain⟨j,z1,z2,z3⟩:=S.cap i y h1
   refine⟨z3,?_⟩
   rw[pG,z1] at h2
   have h2j:(σ[j]?).join=some v:=Option.some.inj h2
   have h2':σ[j]?=some (some v):=by
    cases qj:σ[j]? with
    |none=>rw[qj] at h2j;cases h2j
    |some w=>rw[qj] at h2j;rw[show w=some v from h2j]
   have hfree:=PySem.mem_of_lookup z3
   have hkind:=S.free _ hfree rfl
   obtain⟨m0,hn0,hl0⟩:=I2.loc
   obtain⟨u,ru,l⟩:=hl0 j y v z2 h2' (by rcases hkind with z|z;exact .inr (.inl z);exact .inr (.inr z))
   rcases l with ⟨z,_⟩|⟨_,d,ed,oc,eo,dd⟩
   ·rcases hkind with w|w
    ·rw[w] at z;cases z
    ·rw[w] at z;cases z
   ·exact⟨u,d,oc,ru,lkp hfree ed,wX eo (.inr (inZ (lkp hfree ed))),dd⟩
 have lamK:=aQT (P:=X.prog) (w:=X.w) (K:=X.K) (mg:=X.mg) (N:=N) (ps:=psL) (wX e1 (.inr Qr9)) e2 caps (hbody _ fl c' cl)
 have hC:Clo X.prog X.w X.K X.mg (aGv X.base s1.heap (fl::cl.map (·.2))) (kc+1) fl (aJM c' q psL.length tl (idx.map λj=>(σ[j]?).join)):=
  ⟨o,_,psL,wX e1 (.inr Qr9),e2,lamK,λs us hl=>.of_eq (hbind cl pm (.ref c') ct us hl)⟩
 have hsp:=hQ fl c' H2 _ sm e4 hC
 have r2:Vals (vs ++ [.ref fl]) (us0 ++ [.ref fl]):=r.append (.cons rfl .nil)
 have hl:(us0 ++ [Value.ref fl]).length=ps.length:=by rw[<-r2.length];exact(F _).len _ _ _ _ hsp
 have hb':=hb s1 (us0 ++ [.ref fl]) I2.kIn (by rw[Rt9];exact hl)
 rw[Rt9] at hb'
 refine wpAny_call (codeAny_mono ((F _).run X.A X.stack s1 H2 ⟨us0 ++ [.ref fl],[]⟩ (us0 ++ [.ref fl]) (vs ++ [.ref fl]) Q E0 hr aLz hb' r2 hsp) λr s' hq=>?_)
 cases r with
 |error e=>exact False.elim hq
 |ok fl=>
  cases fl with
  |ret u=>exact I2.after hq
  |next=>exact False.elim hq
  |brk=>exact False.elim hq
  |cont=>exact False.elim hq
def aGw(C:Addr->Sp->Prop)(i:Nat)(t:TA):TE:=λσ H Q=>∃f sp,σ[i]?=some (some (.ref f))/\C f sp/\t σ H λvs H1=>sp vs H1 Q E0
theorem aD0{i k:Nat}{x:Str}{p:Pos}{e:Expr}{es:List Expr}{t:TA}(hN:X.N[i]?=some x)(hv:Vis X.env.scope x)(hr:eN k X.A)(ha:PA X (e::es) t)(hd:(x == ("__debug__" : Str))=false:=by decide)(hcd:(x == ("__classdict__" : Str))=false:=by decide)
  (he:starEach (e::es) X.env=(false,eval e X.env)::starEach es X.env:=by rfl) (hpl:(backTo pos (starEach es X.env)).any (·.1)=false:=by rfl) :
  PE X (.Call (.Name x p) (e::es) [] pos) (aGw (Clo X.prog X.w X.K X.mg X.base k) i t):=by
 intro pins s σ H Q I h
 obtain⟨f,sp,ei,hC,ht⟩:=h
 obtain⟨o,fd,ps,ef,ed,F,hb⟩:=hC.ex
 refine wpAny_Call_Name_kw (dI (aLc hN hv hd hcd pins s σ H (λv H'=>v=.ref f/\H'=H) I ⟨_,ei,rfl,rfl⟩) λu s0 ⟨v,H0,I0,rv,hvf,hH0⟩=>?_)
 subst hvf hH0
 obtain rfl:u=Value.ref f:=rv
 have hin:∀{pins' σ' H' s'},Inv X pins' σ' H' s'->W.Frag.In [(f,o)] s'.heap:=λ{pins' σ' H' s'} J a u z=>by
  rw[Rf9] at z
  split at z
  ·rename_i hb
   cases z
   rw[eq_of_beq hb]
   exact J.bk _ _ ef
  ·cases z
 have hkp:W.keepIn [(f,o)] (.ref f)=true:=by
  obtain⟨oc,od,odt,osl⟩:=o
  have:odt=.func fd:=ed
  subst this
  have z:List.lookup f [(f,({ cls:=oc,dict:=od,data:=.func fd,slots:=osl }:Obj))]=some { cls:=oc,dict:=od,data:=.func fd,slots:=osl }:=by rw[Rf9,beq_self_eq_true]
  unfold W.keepIn
  dsimp only
  rw[z]
 refine PySem.W.callWith_K (h₀:=s0.heap) (hin I0) hkp (dI (ha pos pins s0 σ H0 _ I0 ht) λus s1 ⟨vs,H1,I1,r,q⟩=>⟨hin I1,?_⟩) he hpl
 have hl:us.length=ps.length:=by rw[<-r.length];exact F.len _ _ _ _ q
 refine wpAny_call (codeAny_mono (F.run X.A X.stack s1 H1 ⟨us,[]⟩ us vs Q E0 hr I1.aLz (hb s1 us hl) r q) λr s' hq=>?_)
 cases r with
 |error e=>exact False.elim hq
 |ok fl=>
  cases fl with
  |ret u=>exact I1.after hq
  |next=>exact False.elim hq
  |brk=>exact False.elim hq
  |cont=>exact False.elim hq
end
end L2
namespace L2
open PySem PySem.Spec PyProof.Rows
structure aQU(K:W.Frag)(fd:FuncData)(c Pt:Addr):Prop where
 code:fd.code=.ref c
 hd:PySem.W.codeHdIn K c Pt=true
theorem jE.okC{P:Program}{w:World}{K:W.Frag}{mg:Str->Option Value}{base:Heap}{x qual:Str}{st:Stmt}{f c Pt:Addr}{fd:FuncData}{N ps:List Str}{k:Nat}{sp:Sp}(F:jE K x qual st f fd)(hc:aQU K fd c Pt)(S:aX N ps (aF st))(len:∀vs H Q E,sp vs H Q E->vs.length=ps.length)
  (hbody:∀(A:Around) (outer:List Env) (s:Shared) (H:Hp) (vs:List V) (Q:VK) (E:XK),eN k (A.deeper (envOfC qual (aF st) s.heap.objs.size f (.ref c)))->sp vs H Q E->
   ∃t,PSs (aIF gZ P w K mg base N qual (aF st) f (.ref c) A outer s H E).nox (aT st) t/\t { nx:=λ_ H'=>Q .non H',rt:=Q } (start N vs) H):bS P w K mg base gZ (k+1) f fd ps sp:=by
 obtain⟨oc,od,kV,doc,pm,an,cdv,ct,osl,rfl,lk,hcd⟩:=F.ex
 obtain rfl:cdv=.ref c:=hc.code
 refine aOX lk hcd S len λA outer s H vs Q E hr hsp=>?_
 obtain⟨t,h,q⟩:=hbody A outer s H vs Q E hr hsp
 exact⟨t,h.nox,q⟩
theorem aFK{β:Type}{b:Addr}{p:β}:∀{l:List (Addr×β)},l.lookup b=some p->(b,p)∈l
 |[],h=>by cases h
 |(d,x)::r,h=>by
  rw[Rf9] at h
  cases hb:b == d with
  |true=>rw[hb] at h;cases h;rw[eq_of_beq hb];exact .head _
  |false=>rw[hb] at h;exact .tail _ (aFK h)
theorem aKO{K:PySem.W.Frag}{mg mb:Str->Option Value}{k:Nat}{sp:Sp}{s₁:Shared}{vs:List Value}{ns:List Int}{tabs:List (Addr×Pos×Str)}(KX:K.In s₁.heap)(hns:s₁.heap.Ns mainGlobals mg)(hb:s₁.heap.Ns builtinsNs mb)(hbb:∀x:Str,x≠"__name__"->mb x=bootBuiltins x)(hlim:s₁.heap.NoLimit)(hbm:∃bm o,mg "__builtins__" = some (.ref bm)/\bm≠builtinsNs/\s₁.heap.get? bm=some o/\o.cls=.type "module"/\o.dict=some builtinsNs/\o.data=.plain)(hg:s₁.gens = #[])(ha:s₁.heap.get? a=some { cls:=.type "list",data:=.seq vs.toArray })(hi:IntsAre vs ns)(hl:ns.length<=sizeLine)(hr:eN k callerA)(hT:∀t∈tabs,s₁.heap.get? t.1=some { cls:=.none,data:=.fields #[] }/\K.lookup t.1=none/\∃c,PySem.W.codeHdIn K c t.1=true)(hnd:(tabs.map (·.1)).Nodup)(F:∀base:Heap,K.In base->base.Ns mainGlobals mg->bS P w K mg base gZ k fa fd [x] sp)(hbind:∀(s:Shared) (u:Value),BindsTo s fd ⟨[u],[]⟩ [(x,u)])(hsp:∀H:Hp,(∀t∈tabs,H t.1=some (.ctb t.2.1 t.2.2))->bX K H a (ns.map V.int)->sp [.ref a] H (λv H'=>v=.bl true/\aQ H H') λ_ _ _=>False) :
  codeAny (model P w) callerA (.call (.ref fa) ⟨[.ref a],[]⟩) (λr s'=>r=.ok (.ret (.bool true))/\OldK s₁.heap s'.heap/\s'.os=s₁.os/\AllBare s'.gens) s₁:=by
 have rv:=aBO hi
 have lenV:=hi.length
 have core:∀H:Hp,bX K H a (ns.map V.int)->vZ P w H s₁.heap->(∀t∈tabs,H t.1=some (.ctb t.2.1 t.2.2))->(∀b u,H b=some u->(b=a/\K.lookup a=none/\∃o xs,u=.frz o (.lst xs))\/∃t∈tabs,b=t.1/\u=.ctb t.2.1 t.2.2)->
   codeAny (model P w) callerA (.call (.ref fa) ⟨[.ref a],[]⟩) (λr s'=>r=.ok (.ret (.bool true))/\OldK s₁.heap s'.heap/\s'.os=s₁.os/\AllBare s'.gens) s₁:=by
  intro H hS hok hTH hA
  have base_of:∀{b:Addr} {o:Obj},s₁.heap.get? b=some o->H b=none->(zG s₁.heap H).get? b=some o:=λe n=>aHl e n
  have noA:∀{b:Addr} {o:Obj} {es:Array DictEntry} {ep:Nat},s₁.heap.get? b=some o->o.data=.dict es ep->H b=none:=λ{b o es ep} e d=>by
   cases q:H b with
   |none=>rfl
   |some u=>
    rcases hA b u q with ⟨e',_⟩|⟨t,ht,e',_⟩
    ·subst e'
     rw[ha] at e;cases e
     have d':Data.seq vs.toArray _=Data.dict es ep:=d
     cases d'
    ·rw[e',(hT t ht).1] at e;cases e
     have d':Data.fields _=Data.dict es ep:=d
     cases d'
  have nsK:∀{b:Addr} {m:Str->Option Value},s₁.heap.Ns b m->(zG s₁.heap H).Ns b m:=λ{b m} ⟨o,es,ep,e,d,r⟩=>⟨o,es,ep,base_of e (noA e d),d,r⟩
  have hKb:K.In (zG s₁.heap H):=λb o e=>base_of (KX b o e) (by
   cases q:H b with
   |none=>rfl
   |some u=>
    rcases hA b u q with ⟨e',hn,_⟩|⟨t,ht,e',_⟩
    ·rw[e',hn] at e;cases e
    ·rw[e',(hT t ht).2.1] at e;cases e)
  have hbm':∃bm o,mg "__builtins__" = some (.ref bm)/\bm≠builtinsNs/\(zG s₁.heap H).get? bm=some o/\o.cls=.type "module"/\o.dict=some builtinsNs/\o.data=.plain:=by
   obtain⟨bm,ob,b1,b2,b3,b4,b5,b6⟩:=hbm
   refine⟨bm,ob,b1,b2,base_of b3 ?_,b4,b5,b6⟩
   cases q:H bm with
   |none=>rfl
   |some u=>
    rcases hA bm u q with ⟨e',_⟩|⟨t,ht,e',_⟩
    ·rw[e',ha] at b3
     cases b3
     exact absurd (show Value.type "list" = Value.type "module" from b4) (by decide)
    ·rw[e',(hT t ht).1] at b3
     cases b3
     exact absurd (show Value.none=Value.type "module" from b4) (by decide)
  have hM:Mod K mg (zG s₁.heap H):=⟨hKb,nsK hns,⟨mb,nsK hb,hbb⟩,(let ⟨mc,h1,h2⟩:=hlim;⟨mc,nsK h1,h2⟩),hbm'⟩
  have e0:aEV P w K mg (zG s₁.heap H) callerA [] s₁ H:=⟨rfl,hM,λb o e=>aJs e,Tu9 (aFu _ _),trivial,λb hb=>absurd (show b∈([]:List Addr) from hb) (by simp),hok,.of_eq hg⟩
  refine codeAny_mono ((F _ hKb (nsK hns)).run callerA [] s₁ H ⟨[.ref a],[]⟩ [.ref a] [.ref a] _ _ hr e0 (hbind s₁ (.ref a)) (.cons rfl .nil) (hsp H hTH hS)) λr s' h=>?_
  cases r with
  |error e=>exact False.elim h
  |ok fl=>
   cases fl with
   |next=>exact False.elim h
   |brk=>exact False.elim h
   |cont=>exact False.elim h
   |ret u=>
    obtain⟨v,H',os,bare,un,hok',r',q,sm⟩:=h
    have q':v=.bl true:=q
    subst q'
    obtain rfl:u=Value.bool true:=r'
    have key:∀b o,s₁.heap.get? b=some o->s'.heap.get? b=some o\/∃c ps,PySem.W.codeHdIn K c b=true/\o={ cls:=.none,data:=.fields #[] }/\s'.heap.get? b=some { cls:=.none,data:=.fields ps }:=λb o e=>by
     cases q:H b with
     |none=>exact .inl (un.keep b o e q (by intro z;exact absurd (show b∈([]:List Addr) from z) (by simp)) (by simp))
     |some u=>
      rcases hA b u q with ⟨_,_,ob,xs,rfl⟩|⟨t,ht,e',rfl⟩
      ·have z2:=un.frzs b ob _ q
       obtain⟨e1,_⟩:=hok b _ q
       obtain⟨e2,_⟩:=hok' b _ z2
       rw[e] at e1;cases e1
       exact .inl e2
      ·obtain⟨ps,z,_⟩:=hok' b _ (sm b _ q)
       obtain⟨h1,_,c,hc⟩:=hT t ht
       rw[<-e'] at h1 hc
       rw[e] at h1
       exact .inr ⟨c,ps,hc,Option.some.inj h1,z⟩
    refine⟨rfl,⟨λb o e=>?_,λb o e=>?_⟩,os,bare⟩
    ·rcases key b o e with z|⟨c,ps,hc,rfl,z⟩
     ·exact .inl z
     ·refine .inr (.inl ⟨?_,rfl,#[],ps,rfl,?_⟩)
      ·obtain⟨oc,vs,_,_,_,_,_,_,_,f1,f2,f3,f4,_⟩:=PySem.W.codeHd_of_K KX hc
       exact⟨c,oc,vs,f1,f2,f3,f4⟩
      ·rw[z];simp
    ·rcases key b o e with z|⟨c,ps,hc,rfl,z⟩
     ·exact⟨_,z⟩
     ·exact⟨_,z⟩
 have lkT:∀t∈tabs,tabs.lookup t.1=some t.2:=by
  clear hT hsp core
  induction tabs with
  |nil=>intro t h;cases h
  |cons q r ih=>
   intro t ht
   rw[Rf9]
   rcases sZ.mp ht with rfl|ht
   ·rw[beq_self_eq_true]
   ·have ne:t.1≠q.1:=λz=>(Rn9.mp hnd).1 (Qy9.mpr ⟨t,ht,z⟩)
    rw[beq_eq_false_iff_ne.mpr ne]
    exact ih (Rn9.mp hnd).2 t ht
 have memT:∀{b:Addr} {p:Pos×Str},tabs.lookup b=some p->(b,p)∈tabs:=λ{b p} h=>aFK h
 have naT:∀t∈tabs,t.1≠a:=λt ht z=>by
  have:=(hT t ht).1
  rw[z,ha] at this
  cases this
 have okT:∀(H:Hp) (t:Addr×Pos×Str),t∈tabs->cD P w H s₁.heap t.1 (.ctb t.2.1 t.2.2):=λH t ht=>⟨#[],(hT t ht).1,trivial,.inl rfl⟩
 cases hk:K.lookup a with
 |some o=>
  have e:=KX a o hk
  rw[ha] at e
  cases e
  refine core (λb=>(tabs.lookup b).map λp=>.ctb p.1 p.2) (.inr ⟨_,vs.toArray,_,hk,rfl,rfl,rfl,by rw[mF,lenV];exact hl,by simpa using rv⟩) (λb u z=>?_) (λt ht=>?_) λb u z=>?_
  ·obtain⟨p,hp,rfl⟩:=Qw9.mp z
   exact okT _ _ (memT hp)
  ·show(tabs.lookup t.1).map _=_
   rw[lkT t ht];rfl
  ·obtain⟨p,hp,rfl⟩:=Qw9.mp z
   exact .inr ⟨_,memT hp,rfl,rfl⟩
 |none=>
  refine core (λb=>if b=a then some (.frz { cls:=.type "list",data:=.seq vs.toArray } (.lst (ns.map V.int))) else (tabs.lookup b).map λp=>.ctb p.1 p.2) (.inl (.inr ⟨{ cls:=.type "list",data:=.seq vs.toArray },if_pos rfl⟩)) (λb u z=>?_) (λt ht=>?_) λb u z=>?_
  ·by_cases hb:b=a
   ·have z':=(if_pos hb).symm.trans z
    cases z'
    subst hb
    exact⟨ha,by rw[bL];exact hl,vs,_,rv,ha⟩
   ·have z':=(if_neg hb).symm.trans z
    obtain⟨p,hp,rfl⟩:=Qw9.mp z'
    exact okT _ _ (memT hp)
  ·show(if t.1=a then _ else (tabs.lookup t.1).map _)=_
   rw[if_neg (naT t ht),lkT t ht];rfl
  ·by_cases hb:b=a
   ·have z':=(if_pos hb).symm.trans z
    cases z'
    exact .inl ⟨hb,hk,_,_,rfl⟩
   ·have z':=(if_neg hb).symm.trans z
    obtain⟨p,hp,rfl⟩:=Qw9.mp z'
    exact .inr ⟨_,memT hp,rfl,rfl⟩
theorem aMF{l:PySem.W.OpenLaw}{n k:Nat}{XP:(Str->Option Value)->Heap->Prop}{YP:World->Heap->Prop}{d:DefRec}{K:Params->W.Frag}{sp:World->Sp}{tabs:List (Addr×Pos×Str)}(hn:l.most=some n)(hn2:n<=sizeLine)(hdf:d.params.defaults=[])(hr:eN k callerA)(hnd:(tabs.map (·.1)).Nodup)(hY:∀(w:World) (h:Heap),YP w h->(K w.params).In h/\∀t∈tabs,h.get? t.1=some { cls:=.none,data:=.fields #[] })(hK:∀(w:World),∀t∈tabs,(K w.params).lookup t.1=none)(F:∀(w:World) (mg:Str->Option Value) (fa:Addr) (h:Heap),(K w.params).In h->h.Ns mainGlobals mg->mg d.name=some (.ref fa)->(∀t∈tabs,∃c,PySem.W.codeHdIn (K w.params) c t.1=true)/\
   ∃fd:FuncData,(∀(s:Shared) (u:Value),BindsTo s fd ⟨[u],[]⟩ [(x,u)])/\
    ∀base:Heap,(K w.params).In base->base.Ns mainGlobals mg->bS l.prog w (K w.params) mg base gZ k fa fd [x] (sp w)) (hsp:∀(w:World) (H:Hp) (a:Addr) (ns:List Int),ns.length<=n->(∀t∈tabs,H t.1=some (.ctb t.2.1 t.2.2))->bX (K w.params) H a (ns.map V.int)->sp w [.ref a] H (λv H'=>v=.bl true/\aQ H H') λ_ _ _=>False) :
  PySem.W.WalkO q loose XP YP l.row.toRowW d [] (λf vs=>PySem.call f vs):=by
 refine Att.aHy hn hdf λw s₀ s₁ mg mb fa o pm cd doc a vs ns G Y ho hd hcd hmg hobj hints hlen hg=>?_
 obtain⟨KX,hT⟩:=hY w _ Y
 obtain⟨hcd',fd,hb,hF⟩:=F w mg fa _ KX G.T.g hmg
 exact aKO KX G.T.g G.T.b G.T.builtins G.T.nolimit G.T.bmain hg hobj hints (Rr9 hlen hn2) hr (λt ht=>⟨hT t ht,hK w t ht,hcd' t ht⟩) hnd hF hb (λH hO hS=>hsp w H a ns hlen hO hS)
section
variable{X:Cx}{σ:St}{H:Hp}{Q:VK}
theorem aMG{sp:(Addr->Sp->Prop)->Sp}{n:Nat}{idx:List Nat}(h:t σ H λvs H1=>H1 Pt=some (.ctb lpos q)/\
  ∀(f c':Addr) (H2:Hp) (C:Addr->Sp->Prop),aQ H1 H2->H2 c'=some (.cod q)->C f (aJM c' q n tl (idx.map λj=>(σ[j]?).join))->sp C (vs ++ [.ref f]) H2 Q E0):aI6 Pt lpos q sp n tl idx t σ H Q:=h
theorem aHT{C:Addr->Sp->Prop}{i:Nat}(e:σ[i]?=some (some (.ref f)))(hC:C f sp)(h:t σ H λvs H1=>sp vs H1 Q E0):aGw C i t σ H Q:=⟨f,sp,e,hC,h⟩
end
end L2
namespace L2.Z
open PySem PySem.Spec PyProof.Rows L2
section
variable{X:Cx}{c Pt:Addr}{q:Str}{params:Arguments}{body:Expr}{scope:Scope}{pos lpos:Pos}{cl:List (Str×Addr)}
structure QAL(X:Cx)(es:List Expr)(params:Arguments)(body:Expr)(scope:Scope)(lpos:Pos)(Pt:Addr)(q:Str)(cl:List (Str×Addr))(t:TA):Prop where
 h:PAL X es params body scope lpos Pt q cl t
theorem aD1(hcode:X.env.code=.ref c)(hC:PySem.W.codeHdIn X.K c Pt=true)(hq:X.env.qual ++ "<lambda>" = q)(hdef:defaultsOf params X.env=([],[])){N:List Str}{n:Nat}{idx:List Nat}(S:fJ X scope N n idx) :
  QAL X [.Lambda params body scope lpos] params body scope lpos Pt q (oI X.env scope.names []) mH:=⟨aMC hcode hC hq hdef S⟩
theorem aAt{e:Expr}{es:List Expr}{te:TE}{t:TA}(ha:QE X e te)(hr:QAL X es params body scope lpos Pt q cl t)(hn:noStar e=true:=by rfl):QAL X (e::es) params body scope lpos Pt q cl (bF te t):=
 ⟨aMD ha.h hr.h (bN hn)⟩
theorem aCi{f:Addr}{fd:FuncData}{ps psL N:List Str}{idx:List Nat}{sp:(Addr->Sp->Prop)->Sp}{k kc:Nat}{x:Str}{p:Pos}{e:Expr}{es:List Expr}{t:TA}{tl:TE}
  (F:∀base':Heap,bS X.prog X.w X.K X.mg base' gZ k f fd ps (sp (Clo X.prog X.w X.K X.mg base' (kc+1)))) (hr:eN k X.A) (hg:Gl X x) (hm:X.mg x=some (.ref f)) (hk:W.keepIn X.K (.ref f)=true) (hb:Binds X.K fd ps [])
  (hfn:∀y,X.fn y=true) (S:fJ X scope N psL.length idx) (hpre:N.take psL.length=psL) (hpar:psL.all (λx=>scope.names.lookup x == some .local)=true) (hco:scope.isCoroutine=false) (hgen:scope.isGenerator=false)
  (hbind:∀(cl:List (Str×Addr)) (pm cd ct:Value) (us:List Value),us.length=psL.length->bindArgs (aFJ q params body scope cl pm cd ct) ⟨us,[]⟩=pure (psL.zip us))
  (ha:QAL X (e::es) params body scope lpos Pt q (oI X.env scope.names []) t)
  (hbody:∀(base':Heap) (f' c':Addr) (cl:List (Str×Addr)) (A:Around) (outer:List Env) (s:Shared) (H:Hp),eN kc (A.deeper (wW q scope s.heap.objs.size f' (.ref c') cl))->(A.deeper (wW q scope s.heap.objs.size f' (.ref c') cl)).units+9 < cLine->QE (cxL X.prog X.w X.K X.mg base' N q scope f' (.ref c') cl A outer s H) body tl)
  (hn:(e::es).all noStar=true:=by rfl) (hdb:(x == ("__debug__" : Str))=false:=by decide) :
  QE X (.Call (.Name x p) (e::es) [] pos) (aI6 Pt lpos q sp psL.length tl idx t):=
 ⟨L2.aME F hr hg hm hk hb hfn S hpre hpar hco hgen hbind ha.h (λbase' f' c' cl A outer s H hr'=>(hbody base' f' c' cl A outer s H hr' (kI hr')).h) hdb (bN (jH hn).1) (kN (jH hn).2)⟩
theorem aD0{i k:Nat}{x:Str}{p:Pos}{e:Expr}{es:List Expr}{t:TA}(hr:eN k X.A)(ha:QA X (e::es) t)(hN:X.N[i]?=some x:=by rfl)(hv:Vis X.env.scope x:=by first|exact Or.inl rfl|exact Or.inr (Or.inl rfl)|exact Or.inr (Or.inr rfl))
  (hn:(e::es).all noStar=true:=by rfl) (hd:(x == ("__debug__" : Str))=false:=by decide) (hcd:(x == ("__classdict__" : Str))=false:=by decide) :
  QE X (.Call (.Name x p) (e::es) [] pos) (aGw (Clo X.prog X.w X.K X.mg X.base k) i t):=⟨L2.aD0 hN hv hr ha.h hd hcd (bN (jH hn).1) (kN (jH hn).2)⟩
end
end L2.Z
namespace PySem
set_option maxRecDepth 100000
namespace F
theorem aI7:typeLookup (.type "list_reverseiterator") "__len__" = pure none:=by rw[typeLookup_type,builtinLookup_eq_fast];kernel_rfl
theorem aMH:typeLookup (.type "list_reverseiterator") "__length_hint__" = pure (some (.builtin "list_reverseiterator.__length_hint__")):=by rw[typeLookup_type,builtinLookup_eq_fast];kernel_rfl
end F
section
variable{prog:Program}{w:World}{A:Around}{E:Value->Shared->Prop}{s:Shared}
theorem aD2{i:Int}{Q:Bool->Shared->Prop}(hit:s.heap.IsRevIter it l i)(h:Q false s):wpAny (model prog w) A (Builtin.List.listLengthHint (.ref it)) Q E s:=by
 unfold Builtin.List.listLengthHint;refine wpAny_bind (wpAny_specialOf hit.typeIs F.aI7 ?_)
 show wpAny _ A (specialOf (Value.ref it) (Str.ofString "__length_hint__") >>= _) _ _ _
 refine wpAny_bind (wpAny_specialOf hit.typeIs F.aMH ?_)
 generalize hid:("list_reverseiterator.__length_hint__" : String)=id0
 wp_delta
 rw[show splitId id0=some ("list_reverseiterator","__length_hint__") from by subst hid;decide +kernel]
 subst hid
 refine wpAny_bind (wpAny_isInstance (T:="list_reverseiterator") (b:=true) hit.typeIs (by rw[isSubtype_type];kernel_rfl) ?_)
 exact wpAny_ite_split (λz=>absurd z (by decide)) λ_=>wpAny_ite_split (λ_=>wpAny_ite_split (λz=>absurd z (by decide +kernel)) λ_=>wpAny_pure h) λz=>absurd (by decide +kernel) z
end
end PySem
namespace PySem
section
variable{prog:Program}{w:World}{A:Around}{E:Value->Shared->Prop}{s:Shared}
theorem aBW{R:Result->Shared->Prop}{items:Array Value}(hh:A.handled=none)(hit:s.heap.IsRevIter it l ((items.size:Int) - 1))(hl:s.heap.IsList l items)(hne:l≠it)(hlen:items.size<=sizeLine)(S:Addr)(res:Value)(c₀:Nat)(hS:s.heap.get? S=some { cls:=.type "list",data:=.seq #[] c₀ })(hSl:S≠l)(hSI:S≠it)(hR:∀h' tk acc' c',(∀b o,b≠S->b≠it->s.heap.get? b=some o->h'.get? b=some o)->h'.get? S=some { cls:=.type "list",dict:=none,data:=.seq acc' c',slots:=#[] }->
   ItemsOf (λi v=>items[items.size - 1 - i]?=some v) acc' items.size->R (.ok (.ret res)) { s with heap:=h',toks:=tk }) :
  wpAny (model prog w) A.in1 (Builtin.List.listExtendWith (.ref S) (.ref it) res) (λfin s'=>match fin with|.done f=>R (.ok f) s'|.again k=>k.quiet=true/\codeAny (model prog w) A k R s') (λe s'=>R (.error e) s') s:=by
 have hSf:S∉[it,l]:=by simp[hSI,hSl]
 have W:=(Walks.listRev (prog:=prog) (w:=w) (A:=A.in1) hh it l hne items).toS
 unfold Builtin.List.listExtendWith;refine wpAny_bind (wpAny_typeOf (T:="list_reverseiterator") hit.typeIs ?_)
 have h1:Builtin.List.listSameRef (.ref S) (.ref it)=false:=by simp[Builtin.List.listSameRef,hSI]
 have h2:(Value.type "list_reverseiterator" == Value.type "list")=false:=by decide
 have h3:(Value.type "list_reverseiterator" == Value.type "tuple")=false:=by decide
 simp only[h1,h2,h3,Sb9,Bool.or_false,if_false]
 refine wpAny_bind (wpAny_pyIter_revIter hit (wpAny_bind (wpAny_holding (aD2 hit ?_))))
 refine wpAny_ite_split (λz=>by cases z) (λ_=>wpAny_pure ⟨plainId_quiet F.plain_extend_loop _,?_⟩)
 refine codeAny_extend_loopS W hlen S hSf res items.size 0 _ #[] c₀ rfl (Rl9 _) ⟨Rl9 _,?_,hl⟩ hS (ItemsOf.nil _) λs' acc' c' hm hS' hacc=>?_
 ·rw[show(items.size:Int) - 1 - ((0:Nat):Int)=(items.size:Int) - 1 by omega]
  exact hit
 ·rw[Moved.eq_with hm]
  exact hR s'.heap s'.toks acc' c' (λb o hb hi e=>hm.heap b o (by simp[hb,hi]) e) hS' hacc
theorem aE1{Q:Value->Shared->Prop}{items:Array Value}(hh:A.handled=none)(hit:s.heap.IsRevIter it l ((items.size:Int) - 1))(hl:s.heap.IsList l items)(hne:l≠it)(hlen:items.size<=sizeLine)(hQ:∀h' tk acc' c',(∀b o,b≠it->s.heap.get? b=some o->h'.get? b=some o)->
   h'.get? s.heap.objs.size=some { cls:=.type "list",dict:=none,data:=.seq acc' c',slots:=#[] }->ItemsOf (λi v=>items[items.size - 1 - i]?=some v) acc' items.size->Q (.ref s.heap.objs.size) { s with heap:=h',toks:=tk }) :
  wpAny (model prog w) A (call (.type "list") [.ref it]) Q E s:=by
 have lit:it < s.heap.objs.size:=let ⟨_,e,_⟩:=hit;j0 e
 have ll:l < s.heap.objs.size:=let ⟨_,e,_⟩:=hl;j0 e
 have hS:(s.heap.push { cls:=.type "list",data:=.seq #[] }).get? s.heap.objs.size=some { cls:=.type "list",data:=.seq #[] }:=by exact tE _ rfl
 have hS₂:=Sh9 (Obj.mapSeq λ_=>(#[]:Array Value)) hS rfl
 have old:∀b o,s.heap.get? b=some o->((s.heap.push { cls:=.type "list",data:=.seq #[] }).update s.heap.objs.size (Obj.mapSeq λ_=>(#[]:Array Value))).get? b=some o:=
  λb o e=>(Te9 _ _ (Sd9 (j0 e))).trans (fH _ e)
 refine callType_codes (Q₁:=λx t=>x=.ref s.heap.objs.size/\t={ s with heap:=s.heap.push { cls:=.type "list",data:=.seq #[] } }) F.called_list (F.typeCall_list_1 _) F.entry_list_init (code_list_new _ ⟨rfl,rfl⟩) ?_
 rintro x t ⟨rfl,rfl⟩
 refine⟨⟨_,hS,rfl⟩,F.args_list_init_2 _ _,?_⟩
 show wpAny _ _ (Builtin.List.listItems (.ref s.heap.objs.size) >>= λold=>Builtin.List.listUpdate (.ref s.heap.objs.size) (λ_=>#[]) >>= λ_=>letGo old.toList.reverse >>= λ_=>Builtin.List.listExtendWith (.ref s.heap.objs.size) (.ref it) .none) _ _ _
 refine wpAny_bind (wpAny_listItems hS rfl ?_)
 show wpAny _ _ (updateSeq s.heap.objs.size (λ_=>#[]) >>= λ_=>letGo (#[]:Array Value).toList.reverse >>= λ_=>Builtin.List.listExtendWith (.ref s.heap.objs.size) (.ref it) .none) _ _ _
 refine wpAny_bind (wpAny_updateSeq hS rfl (wpAny_bind (wpAny_letGo (aBW (A:=A.in1) hh (hit.at λo e=>old _ _ e) (hl.at λo e=>old _ _ e) hne hlen s.heap.objs.size .none _ hS₂ (Sd9 ll) (Sd9 lit) λh' tk acc' c' hk hS' hacc=>?_))))
 exact⟨rfl,hQ h' tk acc' c' (λb o hb e=>hk b o (vP (j0 e)) hb (old b o e)) hS' hacc⟩
end
end PySem
namespace L2
open PySem PySem.Spec PyProof.Rows
section
variable{X:Cx}
def aD3(t:TA):TE:=λσ H Q=>t σ H λvs H1=>∃l xs,vs=[.ref l]/\H1 l=some (.lst xs)/\∀q,H1 q=none->Q (.ref q) (upd H1 q (.lst xs.reverse))
theorem aMI{xs:List V}{us:List Value}(r:Vals xs us):Vals xs.reverse us.reverse:=by
 induction r with
 |nil=>exact .nil
 |cons h t ih=>
  simp only[List.reverse_cons]
  exact ih.append (.cons h .nil)
theorem aI8{e:Expr}{t:TA}{p1 p2 pos1 pos2:Pos}(hc:X.calm=true)(hg1:Gl X "list")(hm1:X.mg "list" = none)(hg2:Gl X "reversed")(hm2:X.mg "reversed" = none)(he:PA X [e] t)(hn:noStar e=true:=by rfl) :
  PE X (.Call (.Name "list" p1) [.Call (.Name "reversed" p2) [e] [] pos2] [] pos1) (aD3 t):=by
 intro pins s σ H Q I h
 refine Call_ (pH I hg1 hm1 uL (PyProof.Rows.callWith_type1 (Calls.spliced_cons ?_) rfl rfl))
 refine Call_ (pH I hg2 hm2 boot_reversed (PyProof.Rows.callWith_type1 (dI (he pos2 pins s σ H _ I h) λus s1 ⟨vs,H1,I1,r1,l,xs,ex,hl,q⟩=>?_) (bN hn) rfl))
 subst ex
 obtain⟨u,rfl,ru⟩:=vals1 r1
 obtain rfl:u=Value.ref l:=ru
 obtain⟨hz,its,n,rv,eo⟩:=I1.hok l _ hl
 have hlist:s1.heap.IsList l its.toArray:=⟨_,eo,rfl,n,rfl⟩
 refine call_reversed_list hlist (Calls.spliced_nil ?_)
 have hll:l < s1.heap.objs.size:=j0 eo
 refine aE1 (it:=s1.heap.objs.size) (l:=l) (items:=its.toArray) (I.ok.hd hc) ⟨_,tE _ rfl,rfl,rfl⟩ ⟨_,fH _ eo,rfl,n,rfl⟩ (vP hll) (by rw[mF,<-rv.length];exact hz) λh' tk acc' c' hk hS ha=>?_
 have eacc:acc'.toList=its.reverse:=by
  obtain⟨h1,h2⟩:=ha
  refine Ti9 λi=>?_
  by_cases hi:i < acc'.size
  ·have e1:acc'[i]?=some acc'[i]:=St9 hi
   have e2:=h2 i _ e1
   rw[Tl9,e1,List.getElem?_reverse (by rw[h1,mF] at hi;exact hi)]
   rw[<-e2,mF,List.getElem?_toArray]
  ·rw[Ro9 (by rw[Rg9];omega),Ro9 (by rw[Sw9];rw[h1,mF] at hi;omega)]
 have hv:Vals xs.reverse acc'.toList:=by rw[eacc];exact aMI rv
 have sz:s1.heap.objs.size<=(s1.heap.push (revObj l ((its.toArray.size:Int) - 1))).objs.size:=by rw[Ri9];omega
 exact⟨.ref _,_,I1.laid (t':=tk) (o:=.lst xs.reverse) (λb u e=>hk b u (vP (j0 e)) (fH _ e)) sz ⟨by rw[Sw9];exact hz,acc'.toList,c',hv,hS⟩,rfl,q _ (I1.hok.fresh sz)⟩
end
end L2
namespace L2
open PySem PySem.Spec PyProof.Rows
section
variable{X:Cx}
def aMJ(K:W.Frag):List V->Hp->VK->Prop:=λvs H Q=>∃(p:Addr) (ns:List Int),vs=[.ref p]/\bX K H p (ns.map V.int)/\ns≠[]/\∀m,m∈ns->(∀x∈ns,m<=x)->Q (.int m) H
theorem aKP(hc:X.calm=true):fE X (.builtin "min") (aMJ X.K):=by
 intro pins s σ H vs us Q I r h
 obtain⟨p,ns,rfl,hq,hne,q⟩:=h
 obtain⟨u,rfl,rx⟩:=vals1 r
 cases rx
 obtain⟨its,r',pl,hz⟩:=I.list hq
 have hi:=intsAre_of r'
 obtain⟨xs,hx⟩:=hi.allInts.items
 have e1:ns=xs.toList.map (·.1):=by rw[<-nums_intItems,<-hx];exact(show numsOf its.toArray.toList=ns from hi.numsOf).symm
 have hsz:0 < xs.size:=by
  have z:=Sx9.mpr hne
  rw[e1,bL,Rg9] at z
  exact z
 refine min_intList (I.ok.hd hc) (hx▸pl.isList:s.heap.IsList p (intItems xs)) hsz λv h' tk hv hk=>?_
 obtain⟨t,rfl⟩:=intItems_at hv
 obtain⟨h1,h2⟩:=argBest_lt (numAt xs) (xs.size - 1)
 refine⟨.int _,H,I.kept (t':=tk) hk,⟨t,rfl⟩,q _ ?_ λx hx'=>?_⟩
 ·rw[e1,numAt_eq];exact getD_mem (by rw[bL,Rg9];omega)
 ·rw[e1] at hx'
  obtain⟨j,hj,rfl⟩:=mem_getD hx'
  rw[bL,Rg9] at hj
  rw[<-numAt_eq];exact h2 j (by omega)
theorem aOC{K:W.Frag}{H:Hp}{Q:VK}{p:Addr}{ns:List Int}(h1:bX K H p (ns.map V.int))(hne:ns≠[])(h:∀m,m∈ns->(∀x∈ns,m<=x)->Q (.int m) H):aMJ K [.ref p] H Q:=⟨p,ns,rfl,h1,hne,h⟩
def aD4:TE:=λ_ H Q=>(∀p,H p=none->Q (.ref p) (upd H p (.dK [])))\/∀p,H p=none->Q (.ref p) (upd H p (.dT []))
theorem aMK:PE X (.Dict [] [] pos) aD4:=by
 intro pins s σ H Q I h
 rcases h with h|h
 ·exact aLM pins s σ H Q I h
 ·exact aLN pins s σ H Q I h
theorem aKQ{H:Hp}{Q:VK}(h:∀p,H p=none->Q (.ref p) (upd H p (.dK []))):aD4 σ H Q:=.inl h
theorem aFL{H:Hp}{Q:VK}(h:∀p,H p=none->Q (.ref p) (upd H p (.dT []))):aD4 σ H Q:=.inr h
def Itw(hi:Int)(n:Nat):It:=⟨λi _=>i < n,λi H x H'=>H'=H/\x=.int (hi - i),λi _=>n<=i⟩
theorem aKR{P:Program}{w:World}{K:W.Frag}{tg:Expr}(it:Addr)(hi:Int)(n:Nat):Turn P w K tg (Itw hi n) [it] it (λi h=>IsRangeIter h it (hi+(i:Nat) * -1) ((n:Int) - (i:Nat)) (-1)) where
 mem:=by simp
 obj:=λi h st b hb=>by
  have e:b=it:=by simpa using hb
  rw[e]
  exact⟨_,st,λv z=>by
   have z':Data.fields _=Data.cell v:=z
   cases z'⟩
 keep:=λi h h' st k=>k it (by simp) _ st
 item:=by
  intro X hP hw hK hc i pins s σ H E I hf st hg
  subst hP hw hK
  obtain⟨f0,f1,f2,f3,f4,f5⟩:=hf it (by simp)
  refine(Walks.range (prog:=X.prog) (w:=X.w) (I.ok.hd hc) it hi (-1) n).item i s _ _ hg st λv h' tk hv st' kk=>?_
  obtain⟨t,rfl⟩:=hv
  refine⟨_,rfl,aJv (s:={ s with heap:=h',toks:=tk }) (n:="range_iterator") st' rfl rfl (by decide) ⟨.int (hi - i),H,I.turned (λb o hb e=>kk b o (by simpa using hb) e) f0 f1 f3 f4 f5,⟨t,?_⟩,⟨rfl,rfl⟩,st',λb hb=>(hf b hb).1⟩⟩
  congr 1
  omega
 done:=by
  intro X hP hw hK hc i pins s σ H E I hf st hg
  subst hP hw hK
  obtain⟨f0,f1,f2,f3,f4,f5⟩:=hf it (by simp)
  exact wpAny_pyNext_range_end (I.ok.hd hc) st (by have:n<=i:=hg;omega) λh' eb=>⟨rfl,I.turned (t':=s.toks) (λb o hb e=>eb b o hb e) f0 f1 f3 f4 f5⟩
 self:=λ_ _ _ _ _ st h=>wpAny_pyIter_rangeiter st h
theorem aFM(a b:Int):Builtin.Range.rangeSize a b (-1)=(((a - b).toNat:Nat):Int):=by
 unfold Builtin.Range.rangeSize
 rw[if_neg (by decide)]
 split
 ·rw[show -(-1:Int)=1 from rfl,Int.ediv_one];omega
 ·omega
theorem small_down{a b:Int}(h1:-(2 ^ 62)<=a)(h2:a < 2 ^ 62)(h3:-(2 ^ 62)<=b)(h4:b < 2 ^ 62):Builtin.Range.small a b (-1)=true:=by
 unfold Builtin.Range.small
 simp only[aFM,Builtin.Range.rangeFitsLong,Rp9,Bool.or_eq_true,decide_eq_true_eq,beq_iff_eq]
 rw[if_neg (by decide)]
 simp only[Rp9,decide_eq_true_eq]
 omega
def aML(ta:TA):TI:=λσ H R=>ta σ H λvs H1=>∃i j:Int,vs=[.int i,.int j,.int (-1)]/\(-(2 ^ 62)<=i/\i < 2 ^ 62/\-(2 ^ 62)<=j/\j < 2 ^ 62)/\R (Itw i (i - j).toNat) H1
theorem aKS{a b c:Expr}{ta:TA}{p pos:Pos}{tg:Expr}(hg:Gl X "range")(hm:X.mg "range" = none)(ha:PA X [a,b,c] ta)(hn:[a,b,c].all noStar=true:=by rfl):PI X tg (.Call (.Name "range" p) [a,b,c] [] pos) (aML ta):=by
 intro pins s σ H R I h
 refine Call_ (pH I hg hm boot_range (PyProof.Rows.callWith_type1 (dI (ha pos pins s σ H _ I h) λus s1 ⟨vs,H1,I1,r1,i,j,e,⟨q1,q2,q3,q4⟩,q⟩=>?_) (bN (jH hn).1) (kN (jH hn).2)))
 subst e
 obtain⟨u1,us1,rfl,⟨t1,rfl⟩,r2⟩ : ∃u us',us=u::us'/\RelV (.int i) u/\Vals [.int j,.int (-1)] us':=by cases r1 with|cons h t=>exact⟨_,_,rfl,h,t⟩
 obtain⟨u2,u3,rfl,⟨t2,rfl⟩,⟨t3,rfl⟩⟩:=vals2 r2
 refine call_range_3 (by decide) ?_ (.inl (PyProof.noPylong_small (by decide)))
 refine wpAny_pyIter_range (IsRange.new ..) (small_down q1 q2 q3 q4) ?_
 have I2:Inv X pins σ H1 { s1 with heap:=s1.heap.push { cls:=.type "range",data:=.fields #[.int i t1,.int j t2,.int (-1) t3] } }:=I1.kept (t':=s1.toks) λb o e=>fH _ e
 refine⟨_,[_],_,_,H1,rfl,I2.kept (t':=s1.toks) λb o e=>fH _ e,aKR _ i (i - j).toNat,?_,λb hb=>?_,q⟩
 ·show IsRangeIter _ _ (i+((0:Nat):Int) * -1) ((((i - j).toNat:Nat):Int) - ((0:Nat):Int)) (-1)
  rw[show i+((0:Nat):Int) * -1=i by omega,show(((i - j).toNat:Nat):Int) - ((0:Nat):Int)=Builtin.Range.rangeSize i j (-1) by rw[aFM];omega]
  exact tE _ rfl
 ·have e:b=(s1.heap.push { cls:=.type "range",data:=.fields #[.int i t1,.int j t2,.int (-1) t3] }).objs.size:=by simpa using hb
  subst e
  exact I2.aF8 (eA _) (I2.hok.fresh (eA _))
theorem aMM{R:It->Hp->Prop}(h:ta σ H λvs H1=>∃i j:Int,vs=[.int i,.int j,.int (-1)]/\(-(2 ^ 62)<=i/\i < 2 ^ 62/\-(2 ^ 62)<=j/\j < 2 ^ 62)/\R (Itw i (i - j).toNat) H1):aML ta σ H R:=h
theorem aOD{hi:Int}{n:Nat}{σ:St}{H:Hp}{nx:St->Hp->Prop}{rt:VK}{g:TG}{tb:TS}(Pv:Nat->St->Hp->Prop)(h0:Pv 0 σ H)
  (hs:∀i σ H,i < n->Pv i σ H->g (.int (hi - i)) σ H λσ2 H2=>tb ⟨Pv (i+1),rt,nx,Pv (i+1)⟩ σ2 H2) (hd:∀σ H,Pv n σ H->nx σ H) :
  ∃W:Nat->Nat->St->Hp->Prop,(∃m,W 0 m σ H)/\∀i m σ H,W i m σ H->
   ((Itw hi n).stop i H/\nx σ H)\/((Itw hi n).go i H/\∃N:St->Hp->Prop,(∀σ' H',N σ' H'->∃m',m' < m/\W (i+1) m' σ' H')/\∀x H',(Itw hi n).yld i H x H'->g x σ H' λσ2 H2=>tb ⟨N,rt,nx,N⟩ σ2 H2):=by
 refine⟨λi m σ H=>m=n - i/\i<=n/\Pv i σ H,⟨n,by omega,Rl9 _,h0⟩,?_⟩
 rintro i m σ H ⟨rfl,hi',p⟩
 by_cases h:i < n
 ·refine .inr ⟨h,Pv (i+1),λσ' H' p'=>⟨n - (i+1),by omega,rfl,h,p'⟩,?_⟩
  rintro x H' ⟨rfl,rfl⟩
  exact hs i σ H' h p
 ·have e:i=n:=by omega
  subst e
  exact .inl ⟨eA _,hd σ H p⟩
end
end L2
namespace L2.Z
open PySem PySem.Spec PyProof.Rows L2
section
variable{X:Cx}{tg:Expr}
theorem aE2{e:Expr}{t:TA}{p1 p2 pos1 pos2:Pos}(hc:X.calm=true)(hg1:Gl X "list")(hm1:X.mg "list" = none)(hg2:Gl X "reversed")(hm2:X.mg "reversed" = none)(he:QA X [e] t)(hn:noStar e=true:=by rfl) :
  QE X (.Call (.Name "list" p1) [.Call (.Name "reversed" p2) [e] [] pos2] [] pos1) (aD3 t):=⟨L2.aI8 hc hg1 hm1 hg2 hm2 he.h hn⟩
theorem wY{pos:Pos}:QE X (.Dict [] [] pos) aD4:=⟨L2.aMK⟩
theorem aGx{a b c:Expr}{ta:TA}{p pos:Pos}(hg:Gl X "range")(hm:X.mg "range" = none)(ha:QA X [a,b,c] ta)(hn:[a,b,c].all noStar=true:=by rfl):QI X tg (.Call (.Name "range" p) [a,b,c] [] pos) (aML ta):=⟨L2.aKS hg hm ha.h hn⟩
theorem aCj{P:Program}{w:World}{K:W.Frag}{mg:Str->Option Value}{base:Heap}{i k:Nat}{x:Str}{p pos:Pos}{e:Expr}{es:List Expr}{t:TA}(hr:eN k X.A)(ha:QA X (e::es) t)(hP:X.prog=P:=by rfl)(hw:X.w=w:=by rfl)(hK:X.K=K:=by rfl)(hg:X.mg=mg:=by rfl)(hB:X.base=base:=by rfl)
  (hN:X.N[i]?=some x:=by rfl) (hv:Vis X.env.scope x:=by first|exact Or.inl rfl|exact Or.inr (Or.inl rfl)|exact Or.inr (Or.inr rfl))
  (hn:(e::es).all noStar=true:=by rfl) (hd:(x == ("__debug__" : Str))=false:=by decide) (hcd:(x == ("__classdict__" : Str))=false:=by decide) :
  QE X (.Call (.Name x p) (e::es) [] pos) (aGw (Clo P w K mg base k) i t):=by
 subst hP hw hK hg hB
 exact aD0 hr ha hN hv hn hd hcd
end
end L2.Z
namespace L2
open PySem
section
variable{σ:St}{H:Hp}{Q:VK}
theorem aI9(h:t σ H λvs H1=>∃l xs,vs=[.ref l]/\H1 l=some (.lst xs)/\∀q,H1 q=none->Q (.ref q) (upd H1 q (.lst xs.reverse))):aD3 t σ H Q:=h
end
end L2
namespace L2
open PySem PySem.Spec PySem.W PyProof.Rows
theorem aKT{A:Around}(hh:A.handled=none)(I d:Addr)(hne:d≠I)(es:Array DictEntry)(ep:Nat) :
  Walks prog w A I [I,d] [I] es.size (λi v=>∃e,es[i]?=some e/\v=e.key) (λi h=>It4 "dict_keyiterator" h I d i es.size ep/\Raw h d es ep) where
 sub:=λb hb=>sZ.mpr (.inl (by simpa using hb))
 frame:=λ_ _ _ st hk=>⟨st.1.keep λo e=>hk I (by simp) o e,st.2.keep λo e=>hk d (by simp) o e⟩
 item:=λi s Q E hi st hQ=>by
  have hx:es[i]?=some es[i]:=St9 hi
  refine aHO st.1 st.2 hx λh' a b=>hQ es[i].key h' s.toks ⟨_,hx,rfl⟩ ⟨a,st.2.keep λo e=>b.extBut d o hne e⟩ λb' o hb e=>b.extBut b' o (λz=>hb (Rb9.mpr z)) e
 done:=λs Q E st hQ=>aIZ hh st.1 st.2 (eA _) λh' z=>hQ h' s.toks λb o hb e=>z b o (λy=>hb (Rb9.mpr y)) e
 self:=λ_ _ _ _ st hQ=>wpAny_pyIter_keyiter st.1 hQ
theorem aKU{es:Array DictEntry}{ep:Nat}(lo:(d == sysModules)=false):KdlSrc prog w "dict" d d es.size (λi v=>∃e,es[i]?=some e/\v=e.key) (λh=>Raw h d es ep) where
 type:=λ_ hm=>hm.ty
 there:=λ_ hm=>let ⟨_,e,_⟩:=hm;⟨j0 e,j0 e⟩
 keep:=λ_ _ hm hk=>hm.keep λo e=>hk d (.inl rfl) o e
 notList:=by decide
 notTuple:=by decide
 hint:=λ_ _ _ _ hm hq=>kdl_hint_dict hm.ty hq
 iter:=λ_ _ hh hm=>⟨_,_,(λ_ _ hq=>aGs lo hm hq),aKT hh _ d (vP (let ⟨_,e,_⟩:=hm;j0 e)) es ep,⟨⟨_,tE _ rfl,rfl,rfl⟩,hm.keep λo e=>fH _ e⟩⟩
section
variable{X:Cx}
def aJa:List V->Hp->VK->Prop:=λxs H Q=>∃(d:Addr) (kvs:List (List Key×V)) (ts:List (List Int)),xs=[.ref d]/\H d=some (.dT kvs)/\kvs.map (·.1)=ts.map (λt=>t.map Sum.inl)/\(∀t∈ts,t≠[])/\ts.length < 64/\
 ∀(p:Addr) (qs:List Addr) (us:List (List Int)),H p=none->cI H qs us->us.Perm ts->us.Pairwise (λa b=>jK b a=false)->Q (.ref p) (upd H p (.lst (qs.map V.ref)))
theorem aGy(hc:X.calm=true):fE X (.builtin "sorted") aJa:=by
 intro pins s σ H xs us Q I r h
 obtain⟨d,kvs,ts,rfl,hd,ek,hne,h64',q⟩:=h
 obtain⟨u,rfl,ru⟩:=vals1 r
 cases ru
 obtain⟨lo,ob,es,ep,ys,g1,g2,g3,rel,g4,g5⟩:=aI0 (show cD X.prog X.w H s.heap d (.dT kvs) from I.hok d _ hd)
 have raw:Raw s.heap d es ep:=⟨ob,g1,g2.1,g3⟩
 have hkl:kvs.length=ts.length:=by have:=congrArg List.length ek;simpa using this
 have hyl:ys.length=kvs.length:=(Paired.length rel).symm
 have ht:cI H (ys.map (·.2.1)) ts:=by
  refine⟨by rw[bL,hyl,hkl],λj a t x y=>?_⟩
  have hj:j < kvs.length:=by rw[hkl];exact(qM.mp y).1
  obtain⟨p,hp,hb,_⟩:=aGu rel (eU hj)
  rw[pG,hp] at x
  cases x
  refine⟨?_,hne t (oH y)⟩
  have e3:(kvs.map (·.1))[j]?=some kvs[j].1:=by rw[pG,eU hj];rfl
  rw[ek,pG,y] at e3
  have e4:t.map Sum.inl=kvs[j].1:=Option.some.inj e3
  rw[hb,<-e4,Ru9]
  rfl
 have hv:((ys.map (·.2.1)).map Value.ref).length=ts.length:=by rw[bL];exact ht.len
 refine Calls.call_function_entry kind_sorted plain_sorted entry_sorted (args_sorted1 (.ref d)) ?_
 unfold Builtin.«sorted»
 refine wpAny_bind (m:=checkCount "sorted" 1 1 _) (wpAny_pure (wpAny_bind (PySem.W.kdu_collect (A:=X.A.in1) (aKU (es:=es) (ep:=ep) lo) (I.ok.hd hc) raw (by rw[sizeLine_eq];omega) λh1 tk acc k0 hacc=>?_)))
 have ea:acc.toList=(ys.map (·.2.1)).map Value.ref:=by
  refine Ti9 λj=>?_
  by_cases hj:j < kvs.length
  ·have hja:j < acc.size:=by rw[hacc.1,g5];exact hj
   have e1:acc[j]?=some acc[j]:=St9 hja
   obtain⟨e,he,ev⟩:=hacc.2 j _ e1
   obtain⟨p,hp,hb,_⟩:=aGu rel (eU hj)
   rw[entry_at g4,hp] at he
   cases he
   rw[Tl9,e1,ev,pG,pG,hp]
   rfl
  ·rw[Ro9 (by rw[Rg9,hacc.1,g5];omega),Ro9 (by rw[bL,bL,hyl];omega)]
 rw[ea]
 generalize hqs:ys.map (·.2.1)=qs at ht hv ea
 have hq:=ht.len
 have h64:qs.length < 64:=by omega
 refine wpAny_bind (wpAny_newList ?_ (by rw[hv,sizeLine_eq];omega))
 have k1:∀b o,s.heap.get? b=some o->(h1.push (seqObj "list" (qs.map Value.ref).toArray 0)).get? b=some o:=λb o g=>fH _ (k0 b o g)
 have gD:(h1.push (seqObj "list" (qs.map Value.ref).toArray 0)).get? h1.objs.size=some (seqObj "list" (qs.map Value.ref).toArray 0):=tE _ rfl
 refine wpAny_bind (wpAny_holding (wpAny_call_entry (s:={ s with heap:=h1.push (seqObj "list" (qs.map Value.ref).toArray 0),toks:=tk }) slot_list_sort ⟨_,gD,rfl⟩ entry_list_sort (aFI gD ((ht.v3 I).keeps λb o _ g=>k1 b o g) (by rw[hv,<-hq];exact h64) λp hr hu=>⟨_,rfl,?_⟩) (args_list_sort (.ref h1.objs.size))))
 rw[hv,<-hq] at hr hu
 have pl:p.toList.Perm (List.range qs.length):=by simpa using Sr9.mp hr
 have plen:p.toList.length=qs.length:=by have:=pl.length_eq;simpa using this
 have eo:(tL (qs.map Value.ref) p).toList=(p.toList.map λi=>qs.getD i 0).map Value.ref:=by
  unfold tL
  show p.toList.map (λi=>(qs.map Value.ref).getD i Value.none)=_
  rw[Ru9]
  refine Sv9 λi hi=>?_
  have li:i < qs.length:=Ry9.mp (pl.mem_iff.mp hi)
  show(qs.map Value.ref).getD i Value.none=Value.ref (qs.getD i 0)
  simp[Qp9,eU li]
 refine wpAny_pure ⟨_,rfl,?_⟩
 obtain⟨c,hc2⟩:=sortedHeap_at (out:=tL (qs.map Value.ref) p) gD
 have T':cI H (p.toList.map λi=>qs.getD i 0) (p.toList.map λi=>ts.getD i []):=by
  refine⟨by rw[bL,bL],λj a b x y=>?_⟩
  rw[pG] at x y
  obtain⟨i,e1,e2⟩:=Qw9.mp x
  rw[e1] at y
  have li:i < qs.length:=Ry9.mp (pl.mem_iff.mp (oH e1))
  refine ht.at_ i a b ?_ ?_
  ·rw[<-e2];simp[Qp9,eU li]
  ·cases y
   simp[Qp9,eU (show i < ts.length by omega)]
 obtain⟨hn,I2⟩:=I.aO5 (t':=tk) (h':=sortedHeap (h1.push (seqObj "list" (qs.map Value.ref).toArray 0)) h1.objs.size (qs.map Value.ref) (tL (qs.map Value.ref) p)) (a:=h1.objs.size) (o:=.lst ((p.toList.map λi=>qs.getD i 0).map V.ref)) (λb ob g=>by
   have lb:b < h1.objs.size:=j0 (k0 b ob g)
   rw[sortedHeap_old (vP lb) (by rw[size_push'];exact Se9 lb)]
   exact k1 b ob g) (λb ob g=>vP (j0 (k0 b ob g)))
  ⟨by rw[bL,bL,plen,sizeLine_eq];omega,(p.toList.map λi=>qs.getD i 0).map Value.ref,c,aAs _,by rw[<-eo,Array.toArray_toList];exact hc2⟩
 refine⟨.ref h1.objs.size,_,I2,rfl,q _ _ _ hn T' ?_ ?_⟩
 ·have:=pl.map (λi=>ts.getD i [])
  rw[hq,range_getD] at this
  exact this
 ·rw[List.pairwise_iff_getElem]
  intro i j hi hj hij
  rw[bL,plen] at hi hj
  have key:∀k (hk:k < p.toList.length),(p.toList.map λi=>ts.getD i [])[k]'(by rw[bL];exact hk)=kq (O:=aIX) (λi=>ts.getD i []) p k:=λk hk=>by
   rw[List.getElem_map]
   unfold kq
   have:p.getD k 0=p.toList[k]:=by
    have hk':k < p.size:=by simpa using hk
    simp[Array.getD,hk']
   rw[this]
  rw[key i (by omega),key j (by omega)]
  exact hu i j (by omega) hj
end
section
variable{H:Hp}{Q:VK}
theorem aMN{kvs:List (List Key×V)}{ts:List (List Int)}(h:H d=some (.dT kvs))(e:kvs.map (·.1)=ts.map (λt=>t.map Sum.inl))(hne:∀t∈ts,t≠[])(hl:ts.length < 64)(q:∀(p:Addr) (qs:List Addr) (us:List (List Int)),H p=none->cI H qs us->us.Perm ts->us.Pairwise (λa b=>jK b a=false)->Q (.ref p) (upd H p (.lst (qs.map V.ref)))):aJa [.ref d] H Q:=⟨d,kvs,ts,rfl,h,e,hne,hl,q⟩
end
end L2
local macro_rules | `(tactic| walk_at "ne") => `(tactic| first
  | assumption
  | (refine Ne.symm ?_; assumption)
  | exact L2.bM (by assumption) (by walk_at "hp")
  | exact Ne.symm (L2.bM (by assumption) (by walk_at "hp")))
local macro_rules | `(tactic| walk_at "hp") => `(tactic| first
  | assumption
  | exact L2.aP
  | (refine Eq.trans (L2.aW (by walk_at "ne")) ?_; walk_at "hp")
  | (refine L2.aQ.at (by assumption) ?_; walk_at "hp")
  | (refine L2.cU.at (by assumption) ?_ (by walk_at "ne"); walk_at "hp"))
local macro_rules | `(tactic| walk_at "sq") => `(tactic| first
  | assumption
  | exact L2.bX.of (by walk_at "hp")
  | exact L2.jQ.of (by walk_at "hp")
  | exact L2.aQ.seq (by assumption) (by walk_at "sq"))
local macro_rules | `(tactic| walk_at "cnd") => `(tactic| first
  | omega
  | decide
  | (simp only [List.length_map]; omega)
  | (refine ⟨?_, ?_⟩ <;> first | omega | decide)
  | (refine Or.inl ⟨?_, ?_⟩ <;> first | omega | decide)
  | (refine Or.inr ⟨?_, ?_⟩ <;> first | omega | decide)
  | (refine ⟨?_, ?_, ?_⟩ <;> first | omega | decide))
local macro_rules | `(tactic| walk_at "sz") => `(tactic| (refine L2.cK ?_; first | decide | (simp only [List.length_cons, List.length_nil, List.length_append]; omega) | omega))
local macro_rules | `(tactic| walk_at "rd") => `(tactic| (with_reducible first
  | refine L2.aNY ?_
  | refine L2.rd_par ?_
  | refine L2.aQi ?_
  | refine L2.aNZ ?_
  | refine L2.aQj ?_
  | refine L2.rd_retN ?_
  | refine L2.rd_break ?_
  | refine L2.rd_cont ?_
  | refine L2.aQk ?_
  | refine L2.aN0 ?_
  | refine L2.aQl ?_
  | refine L2.aN1 ?_
  | refine L2.aL0 ?_
  | refine L2.aN2 ?_
  | refine L2.aKM ?_
  | refine L2.aMA ?_
  | refine L2.aMy ?_
  | refine L2.aMz ?_
  | refine L2.aQm ?_
  | refine L2.aRV ?_
  | refine L2.aRq ?_
  | refine L2.aRr ?_
  | refine L2.aQo ?_
  | refine L2.aRt ?_
  | refine L2.aN3 ?_
  | refine L2.aRu ?_
  | refine L2.aKz ?_
  | refine L2.aN5 ?_
  | refine L2.rd_partN ?_
  | refine L2.rd_pnN ?_
  | refine L2.rd_pnI ?_
  | refine L2.aN6 ?_
  | refine L2.aQr ?_
  | refine L2.aN7 ?_
  | refine L2.aQs ?_
  | refine L2.aL2 ?_
  | refine L2.aN8 ?_
  | refine L2.aRv ?_
  | refine L2.aQt ?_
  | refine L2.aRw ?_
  | refine L2.aQu ?_
  | refine L2.aQv ?_
  | refine L2.aRx ?_
  | refine L2.aN9 ?_
  | refine L2.aRy ?_
  | refine L2.aRz ?_
  | refine L2.rd_bl2 ?_
  | refine L2.aQw ?_
  | refine L2.aOa ?_
  | refine L2.aQx ?_
  | refine L2.aQy ?_
  | refine L2.aOb ?_
  | refine L2.aRA ?_
  | refine L2.aOc ?_
  | refine L2.aKD ?_
  | refine L2.aMa ?_
  | refine L2.aL3 ?_
  | refine L2.aL4 ?_
  | refine L2.aQz ?_
  | refine L2.aQb ?_
  | refine L2.aQa ?_
  | refine L2.aRF ?_
  | refine L2.aRG ?_
  | refine L2.aRE ?_
  | refine L2.aL9 ?_
  | refine L2.aMk ?_
  | refine L2.aMl ?_
  | refine L2.aQJ ?_
  | refine L2.aOj ?_
  | refine L2.aOk ?_
  | refine L2.aOl ?_
  | refine L2.aOv ?_
  | refine L2.aMG ?_
  | refine L2.aI9 ?_
  | refine L2.aMM ?_))
local macro_rules | `(tactic| walk_at "st") => `(tactic| first
  | walk_at "rd"
  | ((with_reducible refine L2.aRI (b := ?b) ?t ?_); (case t => assumption))
  | ((with_reducible refine L2.aQn (v := ?v) ?e ?_); (case e => rfl))
  | ((with_reducible refine L2.aLZ (σ' := ?s) ?e ?_); (case e => first | (simp only [List.set_cons_zero, List.set_cons_succ]; rfl) | rfl))
  | ((with_reducible refine L2.aRs ?c ?_); (case c => walk_at "cnd"))
  | ((with_reducible refine L2.aN4 ?c ?_); (case c => walk_at "cnd"))
  | ((with_reducible refine L2.aQp (xs := ?xs) (v := ?v) ?a ?b ?_); (case a => walk_at "sq"); (case b => first | rfl | assumption))
  | ((with_reducible refine L2.aQq (xs := ?xs) (v := ?v) ?a ?b ?_); (case a => walk_at "sq"); (case b => first | rfl | assumption))
  | (with_reducible refine L2.aQA ?_)
  | (with_reducible refine L2.aQB ?_)
  | (with_reducible refine L2.aQC ?_)
  | (with_reducible refine L2.rd_intI ?_)
  | (with_reducible refine L2.rd_intB ?_)
  | ((with_reducible refine L2.aOf (xs := ?xs) ?a ?_); (case a => walk_at "sq"))
  | ((with_reducible refine L2.aOg (xs := ?xs) ?a ?_); (case a => walk_at "sq"))
  | (with_reducible refine L2.aQE ?_)
  | (with_reducible refine L2.aQF ?_)
  | ((with_reducible refine L2.rd_eqF ?a ?b ?_); (case a => rfl); (case b => rfl))
  | ((with_reducible refine L2.rd_neF ?a ?b ?_); (case a => rfl); (case b => rfl))
  | ((with_reducible refine L2.aRH (b := ?b) ?e ?_); (case e => rfl))
  | ((with_reducible refine L2.aMd (b := ?b) ?e ?_); (case e => rfl))
  | ((with_reducible refine L2.aOd ?c ?_); (case c => walk_at "sz")))
local macro_rules | `(tactic| walk_at "go") => `(tactic| first
  | (with_reducible refine L2.aOu (fun _ _ => ?_))
  | walk_at "st")
local macro_rules | `(tactic| walk_at "w") => `(tactic| repeat walk_at "go")
local macro_rules | `(tactic| walk_at "gs") => `(tactic| first
  | walk_at "go"
  | ((with_reducible refine L2.iteGF ?e ?_); (case e => rfl))
  | ((with_reducible refine L2.iteGT ?e ?_); (case e => rfl)))
namespace My
open PySem L2 L2.Z
def top(i:Nat):Stmt:=PySem.Challenge.pw_stintwise_k78_whole_no_gap_where_all_is.main.body.getD i (.Pass ⟨0,0,0,0⟩)
abbrev hZ:Stmt:=top 78
abbrev j9:Stmt:=top 79
abbrev mN:Stmt:=top 80
abbrev gN:Stmt:=top 81
abbrev mO:Stmt:=top 12
abbrev kC:Stmt:=top 13
abbrev pF:Stmt:=top 43
abbrev mP:Stmt:=top 44
abbrev eQ:Stmt:=top 45
abbrev fL:Stmt:=inClass (top 46) 0
abbrev kD:Stmt:=top 82
abbrev fM:Stmt:=top 83
abbrev fN:Stmt:=inClass (top 46) 3
abbrev tN:Stmt:=top 15
abbrev gO:Stmt:=top 16
abbrev dY:Stmt:=top 49
abbrev iJ:Stmt:=inClass (top 50) 0
abbrev cY:Stmt:=top 54
abbrev fO:Stmt:=top 59
abbrev mQ:Stmt:=top 35
abbrev mR:Stmt:=top 53
abbrev fP:Stmt:=top 60
abbrev dZ:Stmt:=inClass (top 46) 1
abbrev dE:Stmt:=inClass (top 46) 2
abbrev eY:Stmt:=top 66
abbrev dM:Stmt:=top 67
abbrev iA:Stmt:=top 68
abbrev iE:Stmt:=top 69
abbrev fQ:Stmt:=top 33
abbrev fR:Stmt:=top 51
abbrev gQ:Stmt:=top 52
abbrev gR:Stmt:=top 56
abbrev iK:Stmt:=top 57
abbrev iL:Stmt:=top 58
abbrev kE:Stmt:=top 20
abbrev fS:Stmt:=top 21
abbrev iM:Stmt:=top 22
abbrev mS:Stmt:=top 23
abbrev jW:Stmt:=top 2
abbrev fT:Stmt:=top 3
abbrev dR:Stmt:=top 4
abbrev fZ:Stmt:=top 5
abbrev kF:Stmt:=top 6
abbrev gS:Stmt:=top 17
abbrev dS:Stmt:=top 18
abbrev gA:Stmt:=top 24
abbrev iF:Stmt:=top 26
abbrev cF:Stmt:=top 27
abbrev dB:Stmt:=top 28
abbrev gH:Stmt:=top 39
abbrev cL:Stmt:=top 62
abbrev dU:Stmt:=top 63
abbrev eZ:Stmt:=top 64
abbrev dW:Stmt:=top 71
abbrev iG:Stmt:=top 72
abbrev d7:Stmt:=top 73
abbrev iN:Stmt:=top 74
abbrev fU:Stmt:=top 76
abbrev kG:Stmt:=top 84
abbrev kH:Stmt:=top 85
abbrev tO:Stmt:=top 86
theorem iO:aX ["_law_script","_law_place","_law_cells","_law_at","_law_digits"] ["_law_script","_law_place"] (aF hZ):=⟨rfl,rfl,rfl,by decide +kernel,rfl,by decide +kernel,by decide +kernel⟩
theorem iP:aX ["_law_hand","_law_many","_law_got","_law_cell","_law_number"] ["_law_hand","_law_many"] (aF j9):=⟨rfl,rfl,rfl,by decide +kernel,rfl,by decide +kernel,by decide +kernel⟩
theorem qS:aX ["_law_hand","_law_bound","_law_total","_law_k"] ["_law_hand","_law_bound"] (aF mN):=⟨rfl,rfl,rfl,by decide +kernel,rfl,by decide +kernel,by decide +kernel⟩
theorem aD5:aX ["_law_hand"] ["_law_hand"] (aF gN):=⟨rfl,rfl,rfl,by decide +kernel,rfl,by decide +kernel,by decide +kernel⟩
theorem aHU:aX ["thing"] ["thing"] (aF mO):=⟨rfl,rfl,rfl,by decide +kernel,rfl,by decide +kernel,by decide +kernel⟩
theorem aGz:aX ["thing"] ["thing"] (aF kC):=⟨rfl,rfl,rfl,by decide +kernel,rfl,by decide +kernel,by decide +kernel⟩
theorem aJb:aX ["thing"] ["thing"] (aF pF):=⟨rfl,rfl,rfl,by decide +kernel,rfl,by decide +kernel,by decide +kernel⟩
theorem aHV:aX ["thing"] ["thing"] (aF mP):=⟨rfl,rfl,rfl,by decide +kernel,rfl,by decide +kernel,by decide +kernel⟩
theorem aE3:aX ["thing"] ["thing"] (aF eQ):=⟨rfl,rfl,rfl,by decide +kernel,rfl,by decide +kernel,by decide +kernel⟩
theorem gI:aX ["self","up","down","begin","run","rest","least","pieces","spans","costs","at","fits"] ["self","up","down","begin","run","rest","least","pieces"] (aF fL):=⟨rfl,rfl,rfl,by decide +kernel,rfl,by decide +kernel,by decide +kernel⟩
theorem dN:aX ["_law_hand","_law_by","_law_longest","_law_up","_law_down","_law_costs","_law_least","_law_rate","_law_pieces","_law_k"] ["_law_hand","_law_by","_law_longest"] (aF kD):=⟨rfl,rfl,rfl,by decide +kernel,rfl,by decide +kernel,by decide +kernel⟩
theorem aCN:aX ["_law_spec_here"] ["_law_spec_here"] (aF fM):=⟨rfl,rfl,rfl,by decide +kernel,rfl,by decide +kernel,by decide +kernel⟩
theorem gJ:aX ["self","price","worth","amount","rate"] ["self","price"] (aF fN):=⟨rfl,rfl,rfl,by decide +kernel,rfl,by decide +kernel,by decide +kernel⟩
theorem aKV:aX ["machine","state","on"] ["machine","state","on"] (aF tN):=⟨rfl,rfl,rfl,by decide +kernel,rfl,by decide +kernel,by decide +kernel⟩
theorem aD6:aX ["machine","state","on"] ["machine","state","on"] (aF gO):=⟨rfl,rfl,rfl,by decide +kernel,rfl,by decide +kernel,by decide +kernel⟩
theorem aCO:aX ["thing"] ["thing"] (aF dY):=⟨rfl,rfl,rfl,by decide +kernel,rfl,by decide +kernel,by decide +kernel⟩
theorem m7:aX ["self","machines","store","lack","is_store","at","fits"] ["self","machines","store","lack"] (aF iJ):=⟨rfl,rfl,rfl,by decide +kernel,rfl,by decide +kernel,by decide +kernel⟩
theorem qT:aX ["works","position","ons","level","states"] ["works","position","ons","level"] (aF cY):=⟨rfl,rfl,rfl,by decide +kernel,rfl,by decide +kernel,by decide +kernel⟩
theorem eG:aX ["works","position","plan","positions","ons","outputs","level"] ["works","position","plan"] (aF fO):=⟨rfl,rfl,rfl,by decide +kernel,rfl,by decide +kernel,by decide +kernel⟩
theorem aCk:aX ["store","level","later","each"] ["store","level","later"] (aF mQ):=⟨rfl,rfl,rfl,by decide +kernel,rfl,by decide +kernel,by decide +kernel⟩
theorem aHW:aX ["works","level","later"] ["works","level","later"] (aF mR):=⟨rfl,rfl,rfl,by decide +kernel,rfl,by decide +kernel,by decide +kernel⟩
theorem vQ:aX ["works","level","want","planned","over"] ["works","level","want","planned"] (aF fP):=⟨rfl,rfl,rfl,by decide +kernel,rfl,by decide +kernel,by decide +kernel⟩
theorem aCP:aX ["self"] ["self"] (aF dZ):=⟨rfl,rfl,rfl,by decide +kernel,rfl,by decide +kernel,by decide +kernel⟩
theorem cG:aX ["self","output","wanted","cost","amount","rate","taken"] ["self","output"] (aF dE):=⟨rfl,rfl,rfl,by decide +kernel,rfl,by decide +kernel,by decide +kernel⟩
theorem aD7:aX ["works","states","ons"] ["works","states","ons"] (aF eY):=⟨rfl,rfl,rfl,by decide +kernel,rfl,by decide +kernel,by decide +kernel⟩
theorem gU:aX ["works","position","want","planned","ons","running","resting","making","lacking"] ["works","position","want","planned"] (aF dM):=⟨rfl,rfl,rfl,by decide +kernel,rfl,by decide +kernel,by decide +kernel⟩
theorem aA1:aX ["works","position","wants","plan","positions"] ["works","position","wants","plan"] (aF iA):=⟨rfl,rfl,rfl,by decide +kernel,rfl,by decide +kernel,by decide +kernel⟩
theorem aGA:aX ["works","position","wants","plan"] ["works","position","wants","plan"] (aF iE):=⟨rfl,rfl,rfl,by decide +kernel,rfl,by decide +kernel,by decide +kernel⟩
theorem nW:aX ["store","level","hours","lowest","highest"] ["store","level","hours"] (aF fQ):=⟨rfl,rfl,rfl,by decide +kernel,rfl,by decide +kernel,by decide +kernel⟩
theorem aCQ:aX ["works","level","hours"] ["works","level","hours"] (aF fR):=⟨rfl,rfl,rfl,by decide +kernel,rfl,by decide +kernel,by decide +kernel⟩
theorem aD8:aX ["works","level"] ["works","level"] (aF gQ):=⟨rfl,rfl,rfl,by decide +kernel,rfl,by decide +kernel,by decide +kernel⟩
theorem aD9:aX ["machine","on","output"] ["machine","on","output"] (aF gR):=⟨rfl,rfl,rfl,by decide +kernel,rfl,by decide +kernel,by decide +kernel⟩
theorem jL:aX ["works","position","hour","planned","at","machine"] ["works","position","hour","planned"] (aF iK):=⟨rfl,rfl,rfl,by decide +kernel,rfl,by decide +kernel,by decide +kernel⟩
theorem jM:aX ["works","position","wants","plan","hour","planned","fault"] ["works","position","wants","plan"] (aF iL):=⟨rfl,rfl,rfl,by decide +kernel,rfl,by decide +kernel,by decide +kernel⟩
theorem oK:aX ["machine","state","run","hour","on"] ["machine","state","run"] (aF kE):=⟨rfl,rfl,rfl,by decide +kernel,rfl,by decide +kernel,by decide +kernel⟩
theorem vR:aX ["machine","state","run","fault"] ["machine","state","run"] (aF fS):=⟨rfl,rfl,rfl,by decide +kernel,rfl,by decide +kernel,by decide +kernel⟩
theorem gW:aX ["machine","state","run","begins","ahead","hour","on"] ["machine","state","run"] (aF iM):=⟨rfl,rfl,rfl,by decide +kernel,rfl,by decide +kernel,by decide +kernel⟩
theorem aCl:aX ["machine","state","run","begins"] ["machine","state","run"] (aF mS):=⟨rfl,rfl,rfl,by decide +kernel,rfl,by decide +kernel,by decide +kernel⟩
theorem aHX:aX ["ways","behind"] ["ways","behind"] (aF jW):=⟨rfl,rfl,rfl,by decide +kernel,rfl,by decide +kernel,by decide +kernel⟩
theorem nX:aX ["places","hour","behind","ways_at","worths","place"] ["places","hour","behind","ways_at"] (aF fT):=⟨rfl,rfl,rfl,by decide +kernel,rfl,by decide +kernel,by decide +kernel⟩
theorem dF:aX ["layers","ways_at","behind","place","worths","hour"] ["layers","ways_at"] (aF dR):=⟨rfl,rfl,rfl,by decide +kernel,rfl,by decide +kernel,by decide +kernel⟩
theorem zP:aX ["ways","behind","least"] ["ways","behind"] (aF fZ):=⟨rfl,rfl,rfl,by decide +kernel,rfl,by decide +kernel,by decide +kernel⟩
theorem kQ:aX ["place","worths","ways_at","row","hour","way"] ["place","worths","ways_at"] (aF kF):=⟨rfl,rfl,rfl,by decide +kernel,rfl,by decide +kernel,by decide +kernel⟩
theorem fV:aX ["machine","ways","later","state","many","on","behind"] ["machine","ways"] (aF gS):=⟨rfl,rfl,rfl,by decide +kernel,rfl,by decide +kernel,by decide +kernel⟩
theorem eR:aX ["machine","state","hours","ways","layers","hour"] ["machine","state","hours"] (aF dS):=⟨rfl,rfl,rfl,by decide +kernel,rfl,by decide +kernel,by decide +kernel⟩
theorem aE4:aX ["machine","state"] ["machine","state"] (aF gA):=⟨rfl,rfl,rfl,by decide +kernel,rfl,by decide +kernel,by decide +kernel⟩
theorem aGB:aX ["machine","state","price"] ["machine","state","price"] (aF iF):=⟨rfl,rfl,rfl,by decide +kernel,rfl,by decide +kernel,by decide +kernel⟩
theorem oC:aX ["machine","state","prices","layers"] ["machine","state","prices"] (aF cF):=⟨rfl,rfl,rfl,by decide +kernel,rfl,by decide +kernel,by decide +kernel⟩
theorem nY:aX ["machine","state","prices","worths","run"] ["machine","state","prices"] (aF dB):=⟨rfl,rfl,rfl,by decide +kernel,rfl,by decide +kernel,by decide +kernel⟩
theorem wZ:aX ["works","position","prices"] ["works","position","prices"] (aF cL):=⟨rfl,rfl,rfl,by decide +kernel,rfl,by decide +kernel,by decide +kernel⟩
theorem aA2:aX ["works","position","prices"] ["works","position","prices"] (aF dU):=⟨rfl,rfl,rfl,by decide +kernel,rfl,by decide +kernel,by decide +kernel⟩
theorem pO:aX ["works","position","wants","prices","wanted","machines"] ["works","position","wants","prices"] (aF eZ):=⟨rfl,rfl,rfl,by decide +kernel,rfl,by decide +kernel,by decide +kernel⟩
theorem dG:aX ["machines","pieces","at","machine","place","piece"] ["machines"] (aF dW):=⟨rfl,rfl,rfl,by decide +kernel,rfl,by decide +kernel,by decide +kernel⟩
theorem dO:aX ["machines","want","lack","outputs","wanted","rate","at","place","amount","taken"] ["machines","want","lack"] (aF iG):=⟨rfl,rfl,rfl,by decide +kernel,rfl,by decide +kernel,by decide +kernel⟩
theorem vS:aX ["machines","want","lack","outputs","making"] ["machines","want","lack","outputs"] (aF d7):=⟨rfl,rfl,rfl,by decide +kernel,rfl,by decide +kernel,by decide +kernel⟩
theorem zQ:aX ["machines","want","lack","shared"] ["machines","want","lack"] (aF iN):=⟨rfl,rfl,rfl,by decide +kernel,rfl,by decide +kernel,by decide +kernel⟩
theorem aCR:aX ["machines","want","lack"] ["machines","want","lack"] (aF fU):=⟨rfl,rfl,rfl,by decide +kernel,rfl,by decide +kernel,by decide +kernel⟩
theorem aGC:aX ["_law_hand","_law_by"] ["_law_hand","_law_by"] (aF kG):=⟨rfl,rfl,rfl,by decide +kernel,rfl,by decide +kernel,by decide +kernel⟩
theorem aA3:aX ["_law_hand","_law_by","_law_spec_here"] ["_law_hand","_law_by"] (aF kH):=⟨rfl,rfl,rfl,by decide +kernel,rfl,by decide +kernel,by decide +kernel⟩
theorem mT:aX ["_law_script","_law_place","_law_hand","_law_by","_law_machines","_law_works","_law_position","_law_hours","_law_wants","_law_prices","_law_due","_law_ons","_law_plan"] ["_law_script"] (aF tO):=⟨rfl,rfl,rfl,by decide +kernel,rfl,by decide +kernel,by decide +kernel⟩
structure jX where
 qU:Addr
 qV:FuncData
 qW:Addr
 qX:FuncData
 uR:Addr
 uS:FuncData
 m8:Addr
 m9:FuncData
 uT:Addr
 uU:FuncData
 qY:Addr
 qZ:FuncData
 y8:Addr
 y9:FuncData
 uV:Addr
 uW:FuncData
 oM:Addr
 oN:FuncData
 kR:Addr
 kS:FuncData
 rA:Addr
 rB:FuncData
 kT:Addr
 kU:FuncData
 kW:Addr
 kX:FuncData
 aA4:Addr
 aA5:FuncData
 nA:Addr
 nB:FuncData
 kY:Addr
 kZ:FuncData
 oO:Addr
 oP:FuncData
 iQ:Addr
 iR:FuncData
 lA:Addr
 lB:FuncData
 uX:Addr
 uY:FuncData
 uZ:Addr
 u4:FuncData
 lC:Addr
 lD:FuncData
 lE:Addr
 lF:FuncData
 g9:Addr
 hJ:FuncData
 nC:Addr
 nE:FuncData
 oQ:Addr
 oR:FuncData
 rC:Addr
 rD:FuncData
 rE:Addr
 rF:FuncData
 lG:Addr
 lH:FuncData
 lI:Addr
 lJ:FuncData
 nF:Addr
 nG:FuncData
 nH:Addr
 nI:FuncData
 oS:Addr
 oU:FuncData
 oV:Addr
 oW:FuncData
 rG:Addr
 rH:FuncData
 lK:Addr
 lM:FuncData
 oX:Addr
 oY:FuncData
 u5:Addr
 u6:FuncData
 u7:Addr
 u9:FuncData
 lN:Addr
 lO:FuncData
 iS:Addr
 iT:FuncData
 oZ:Addr
 o5:FuncData
 rJ:Addr
 rK:FuncData
 nJ:Addr
 nK:FuncData
 iU:Addr
 iV:FuncData
 o6:Addr
 o7:FuncData
 rL:Addr
 rM:FuncData
 gE:Addr
 d8:FuncData
 lP:Addr
 iH:FuncData
 jS:Addr
 jT:FuncData
 fF:Addr
 fG:FuncData
 iW:Addr
 iX:FuncData
 nL:Addr
 nM:FuncData
 iY:Addr
 iZ:FuncData
 rN:Addr
 rO:FuncData
 lQ:Addr
 lR:FuncData
 o8:Addr
 o9:FuncData
 lS:Addr
 lT:FuncData
 rP:Addr
 rQ:FuncData
 rR:Addr
 rS:FuncData
 aJO:Addr
 aJP:FuncData
 k_worths_of_states:Addr
 cH:Addr
 k_cheapest_run:Addr
 d9:Addr
 aR:Addr
 cE:Addr
 cJ:Addr
structure Txt(K:W.Frag)(mg:Str->Option Value)(a:jX):Prop where
 w4:jE K "_law_open" "_law_open" hZ a.qU a.qV
 aCm:Binds K a.qV ["_law_script","_law_place"] []
 aCn:mg "_law_open" = some (.ref a.qU)
 bP:jE K "_law_draw" "_law_draw" j9 a.qW a.qX
 bQ:Binds K a.qX ["_law_hand","_law_many"] []
 bR:mg "_law_draw" = some (.ref a.qW)
 aAu:jE K "_law_far" "_law_far" mN a.uR a.uS
 aEa:Binds K a.uS ["_law_hand","_law_bound"] []
 aEb:mg "_law_far" = some (.ref a.uR)
 nO:jE K "_law_factor" "_law_factor" gN a.m8 a.m9
 sO:Binds K a.m9 ["_law_hand"] []
 sP:mg "_law_factor" = some (.ref a.m8)
 vA:jE K "is_whole" "is_whole" mO a.uT a.uU
 aAv:Binds K a.uU ["thing"] []
 aAw:mg "is_whole" = some (.ref a.uT)
 eS:jE K "is_amount" "is_amount" kC a.qY a.qZ
 fX:Binds K a.qZ ["thing"] []
 fY:mg "is_amount" = some (.ref a.qY)
 zA:jE K "is_span" "is_span" pF a.y8 a.y9
 aBX:Binds K a.y9 ["thing"] []
 aBY:mg "is_span" = some (.ref a.y8)
 aAx:jE K "is_piece" "is_piece" mP a.uV a.uW
 aEc:Binds K a.uW ["thing"] []
 aEd:mg "is_piece" = some (.ref a.uV)
 vB:jE K "are_pieces" "are_pieces" eQ a.oM a.oN
 aA6:Binds K a.oN ["thing"] []
 aA7:mg "are_pieces" = some (.ref a.oM)
 w5:jE K "__init__" "Machine.__init__" fL a.kR a.kS
 w6:Binds K a.kS ["self","up","down","begin","run","rest","least","pieces"] []
 w9:jE K "_law_spec" "_law_spec" kD a.rA a.rB
 aCo:Binds K a.rB ["_law_hand","_law_by","_law_longest"] []
 aCp:mg "_law_spec" = some (.ref a.rA)
 pP:jE K "_law_machine" "_law_machine" fM a.kT a.kU
 xA:Binds K a.kU ["_law_spec_here"] []
 xB:mg "_law_machine" = some (.ref a.kT)
 xC:jE K "gain" "Machine.gain" fN a.kW a.kX
 xD:Binds K a.kX ["self","price"] []
 pQ:jE K "may_be" "may_be" tN a.aA4 a.aA5
 tP:Binds K a.aA5 ["machine","state","on"] []
 tT:mg "may_be" = some (.ref a.aA4)
 gX:jE K "state_after" "state_after" gO a.nA a.nB
 jN:Binds K a.nB ["machine","state","on"] []
 jO:mg "state_after" = some (.ref a.nA)
 pR:jE K "are_machines" "are_machines" dY a.kY a.kZ
 xE:Binds K a.kZ ["thing"] []
 xF:mg "are_machines" = some (.ref a.kY)
 aA8:jE K "__init__" "Works.__init__" iJ a.oO a.oP
 aA9:Binds K a.oP ["self","machines","store","lack"] []
 jA:jE K "position_after" "position_after" cY a.iQ a.iR
 mU:Binds K a.iR ["works","position","ons","level"] []
 mV:mg "position_after" = some (.ref a.iQ)
 pS:jE K "positions_of" "positions_of" fO a.lA a.lB
 xG:Binds K a.lB ["works","position","plan"] []
 xH:mg "positions_of" = some (.ref a.lA)
 aAy:jE K "drawn_by" "drawn_by" mQ a.uX a.uY
 aEe:Binds K a.uY ["store","level","later"] []
 aEf:mg "drawn_by" = some (.ref a.uX)
 aAz:jE K "drawn_in" "drawn_in" mR a.uZ a.u4
 aEg:Binds K a.u4 ["works","level","later"] []
 aEh:mg "drawn_in" = some (.ref a.uZ)
 pT:jE K "left_in_hour" "left_in_hour" fP a.lC a.lD
 xI:Binds K a.lD ["works","level","want","planned"] []
 xJ:mg "left_in_hour" = some (.ref a.lC)
 xK:jE K "most" "Machine.most" dZ a.lE a.lF
 pU:Binds K a.lF ["self"] []
 rT:jE K "cost_at" "Machine.cost_at" dE a.g9 a.hJ
 lU:Binds K a.hJ ["self","output"] []
 sQ:jE K "begin_costs" "begin_costs" eY a.nC a.nE
 zR:Binds K a.nE ["works","states","ons"] []
 zS:mg "begin_costs" = some (.ref a.nC)
 vC:jE K "hour_costs" "hour_costs" dM a.oQ a.oR
 aBa:Binds K a.oR ["works","position","want","planned"] []
 aBb:mg "hour_costs" = some (.ref a.oQ)
 xM:jE K "ledger_of" "ledger_of" iA a.rC a.rD
 aCq:Binds K a.rD ["works","position","wants","plan"] []
 aCr:mg "ledger_of" = some (.ref a.rC)
 xN:jE K "plan_cost" "plan_cost" iE a.rE a.rF
 aCs:Binds K a.rF ["works","position","wants","plan"] []
 aCt:mg "plan_cost" = some (.ref a.rE)
 pV:jE K "levels_after" "levels_after" fQ a.lG a.lH
 xO:Binds K a.lH ["store","level","hours"] []
 xP:mg "levels_after" = some (.ref a.lG)
 pW:jE K "later_levels" "later_levels" fR a.lI a.lJ
 xQ:Binds K a.lJ ["works","level","hours"] []
 xR:mg "later_levels" = some (.ref a.lI)
 sR:jE K "next_levels" "next_levels" gQ a.nF a.nG
 zT:Binds K a.nG ["works","level"] []
 zU:mg "next_levels" = some (.ref a.nF)
 sS:jE K "output_fits" "output_fits" gR a.nH a.nI
 zV:Binds K a.nI ["machine","on","output"] []
 zW:mg "output_fits" = some (.ref a.nH)
 vD:jE K "hour_fault" "hour_fault" iK a.oS a.oU
 aBc:Binds K a.oU ["works","position","hour","planned"] []
 aBd:mg "hour_fault" = some (.ref a.oS)
 vE:jE K "plan_fault" "plan_fault" iL a.oV a.oW
 aBe:Binds K a.oW ["works","position","wants","plan"] []
 aBf:mg "plan_fault" = some (.ref a.oV)
 xS:jE K "run_fault" "run_fault" kE a.rG a.rH
 aCu:Binds K a.rH ["machine","state","run"] []
 aCv:mg "run_fault" = some (.ref a.rG)
 pX:jE K "refuse_fault" "refuse_fault" fS a.lK a.lM
 xT:Binds K a.lM ["machine","state","run"] []
 xU:mg "refuse_fault" = some (.ref a.lK)
 vF:jE K "run_begins" "run_begins" iM a.oX a.oY
 aBg:Binds K a.oY ["machine","state","run"] []
 aBh:mg "run_begins" = some (.ref a.oX)
 aAA:jE K "run_cost" "run_cost" mS a.u5 a.u6
 aEi:Binds K a.u6 ["machine","state","run"] []
 aEj:mg "run_cost" = some (.ref a.u5)
 vG:jE K "least_of" "least_of" jW a.u7 a.u9
 aAB:Binds K a.u9 ["ways","behind"] []
 aAC:mg "least_of" = some (.ref a.u7)
 pY:jE K "worths_ahead" "worths_ahead" fT a.lN a.lO
 xV:Binds K a.lO ["places","hour","behind","ways_at"] []
 xW:mg "worths_ahead" = some (.ref a.lN)
 mW:jE K "worths_by_hour" "worths_by_hour" dR a.iS a.iT
 tU:Binds K a.iT ["layers","ways_at"] []
 tV:mg "worths_by_hour" = some (.ref a.iS)
 vH:jE K "first_best" "first_best" fZ a.oZ a.o5
 aBi:Binds K a.o5 ["ways","behind"] []
 aBj:mg "first_best" = some (.ref a.oZ)
 xX:jE K "first_row" "first_row" kF a.rJ a.rK
 aCw:Binds K a.rK ["place","worths","ways_at"] []
 aCx:mg "first_row" = some (.ref a.rJ)
 sU:jE K "ways_one_on" "ways_one_on" gS a.nJ a.nK
 zX:Binds K a.nK ["machine","ways"] []
 zY:mg "ways_one_on" = some (.ref a.nJ)
 mX:jE K "states_by_hour" "states_by_hour" dS a.iU a.iV
 tW:Binds K a.iV ["machine","state","hours"] []
 tX:mg "states_by_hour" = some (.ref a.iU)
 vI:jE K "next_hours" "next_hours" gA a.o6 a.o7
 aBk:Binds K a.o7 ["machine","state"] []
 aBl:mg "next_hours" = some (.ref a.o6)
 rV:jE K "hour_ways" "hour_ways" iF a.rL a.rM
 xY:Binds K a.rM ["machine","state","price"] []
 xZ:mg "hour_ways" = some (.ref a.rL)
 jY:jE K "worths_of_states" "worths_of_states" cF a.gE a.d8
 pZ:Binds K a.d8 ["machine","state","prices"] []
 p9:mg "worths_of_states" = some (.ref a.gE)
 qA:jE K "cheapest_run" "cheapest_run" dB a.lP a.iH
 x8:Binds K a.iH ["machine","state","prices"] []
 yA:mg "cheapest_run" = some (.ref a.lP)
 vT:jE K "cheapest_path" "cheapest_path" gH a.jS a.jT
 vU:Binds K a.jT ["store","level","prices"] []
 vV:mg "cheapest_path" = some (.ref a.jS)
 jI:jE K "least_of_machines" "least_of_machines" cL a.fF a.fG
 oE:Binds K a.fG ["works","position","prices"] []
 oF:mg "least_of_machines" = some (.ref a.fF)
 mY:jE K "least_of_store" "least_of_store" dU a.iW a.iX
 tY:Binds K a.iX ["works","position","prices"] []
 tZ:mg "least_of_store" = some (.ref a.iW)
 sV:jE K "price_bound" "price_bound" eZ a.nL a.nM
 zZ:Binds K a.nM ["works","position","wants","prices"] []
 z0:mg "price_bound" = some (.ref a.nL)
 mZ:jE K "pieces_by_rate" "pieces_by_rate" dW a.iY a.iZ
 uA:Binds K a.iZ ["machines"] []
 uB:mg "pieces_by_rate" = some (.ref a.iY)
 rW:jE K "share_out" "share_out" iG a.rN a.rO
 yB:Binds K a.rO ["machines","want","lack"] []
 yC:mg "share_out" = some (.ref a.rN)
 qB:jE K "outputs_cost" "outputs_cost" d7 a.lQ a.lR
 yD:Binds K a.lR ["machines","want","lack","outputs"] []
 yE:mg "outputs_cost" = some (.ref a.lQ)
 lV:jE K "share_cost" "share_cost" iN a.o8 a.o9
 pA:Binds K a.o9 ["machines","want","lack"] []
 pB:mg "share_cost" = some (.ref a.o8)
 qC:jE K "margin_price" "margin_price" fU a.lS a.lT
 yF:Binds K a.lT ["machines","want","lack"] []
 yG:mg "margin_price" = some (.ref a.lS)
 yH:jE K "_law_want" "_law_want" kG a.rP a.rQ
 aCy:Binds K a.rQ ["_law_hand","_law_by"] []
 aCz:mg "_law_want" = some (.ref a.rP)
 yI:jE K "_law_easy" "_law_easy" kH a.rR a.rS
 aCA:Binds K a.rS ["_law_hand","_law_by"] []
 aCB:mg "_law_easy" = some (.ref a.rR)
 aO6:jE K "law" "law" tO a.aJO a.aJP
 aRK:Binds K a.aJP ["_law_script"] []
 aRL:mg "law" = some (.ref a.aJO)
 bE:Cls K a.aR
 aBZ:mg "Machine" = some (.ref a.aR)
 aFN:Mk K a.aR a.kR
 m_Machine_gain:Meth K a.aR "gain" a.kW
 m_Machine_most:Meth K a.aR "most" a.lE
 m_Machine_cost_at:Meth K a.aR "cost_at" a.g9
 vJ:cX K a.aR "up"
 qD:cX K a.aR "down"
 jU:cX K a.aR "begin"
 nP:cX K a.aR "run"
 lW:cX K a.aR "rest"
 cV:cX K a.aR "least"
 dX:cX K a.aR "pieces"
 i_Machine:Isi K a.aR
 vK:Cls K a.cE
 aJQ:mg "Store" = some (.ref a.cE)
 aCC:cX K a.cE "cap"
 aBm:cX K a.cE "into"
 aCD:cX K a.cE "out"
 aAa:cX K a.cE "takes"
 aAb:cX K a.cE "gives"
 i_Store:Isi K a.cE
 dA:Cls K a.cJ
 aJR:mg "Works" = some (.ref a.cJ)
 aJS:Mk K a.cJ a.oO
 cB:cX K a.cJ "machines"
 fA:cX K a.cJ "store"
 jB:cX K a.cJ "lack"
 i_Works:Isi K a.cJ
 jZ:aQU K a.d8 a.k_worths_of_states a.cH
 qE:aQU K a.iH a.k_cheapest_run a.d9
 aFO:mg "abs" = none
 aCE:mg "all" = none
 aB0:mg "bool" = none
 cN:mg "enumerate" = none
 aFP:mg "int" = none
 cQ:mg "isinstance" = none
 lX:mg "len" = none
 nZ:mg "list" = none
 rX:mg "max" = none
 aAc:mg "min" = none
 gF:mg "range" = none
 m3:mg "reversed" = none
 qF:mg "sorted" = none
 lY:mg "sum" = none
 nQ:mg "tuple" = none
 rY:mg "zip" = none
 eI:∃t,mg "LONGEST_STINT" = some (.int 12 t)
 gY:∃t,mg "MOST_PIECES" = some (.int 4 t)
 eJ:∃t,mg "MOST_MACHINES" = some (.int 6 t)
abbrev cS:Pos:=⟨103,34,103,93⟩
abbrev cT:Str:=(("worths_of_states" : Str) ++ ".<locals>.") ++ "<lambda>"
abbrev gK:Pos:=⟨106,35,106,94⟩
abbrev gL:Str:=(("cheapest_run" : Str) ++ ".<locals>.") ++ "<lambda>"
end My
namespace My
open PySem L2 L2.Z
inductive Th (H:Hp):V->String->Prop where
 |non:Th H .non "NoneType"
 |bl (b:Bool):Th H (.bl b) "bool"
 |int (i:Int):Th H (.int i) "int"
 |str (x:Str):Th H (.str x) "str"
 |lst {p:Addr} {xs:List V} (e:H p=some (.lst xs)):Th H (.ref p) "list"
 |tup {p:Addr} {xs:List V} (e:H p=some (.tup xs)):Th H (.ref p) "tuple"
 |dK {p:Addr} {kvs:List (Key×V)} (e:H p=some (.dK kvs)):Th H (.ref p) "dict"
theorem Th.ty(h:Th H v T):aAQ K H v (.type T):=by
 cases h with
 |non=>exact .non
 |bl b=>exact .bl b
 |int i=>exact .int i
 |str x=>exact .str x
 |lst e=>exact .lst e
 |tup e=>exact .tup e
 |dK e=>exact .dK e
theorem Th.keep{H H':Hp}{p:Addr}{v:V}{T:String}(h:Th H v T)(n:∀b,v=.ref b->b≠p)(k:cU p H H'):Th H' v T:=by
 cases h with
 |non=>exact .non
 |bl b=>exact .bl b
 |int i=>exact .int i
 |str x=>exact .str x
 |lst e=>exact .lst (k _ _ e (n _ rfl))
 |tup e=>exact .tup (k _ _ e (n _ rfl))
 |dK e=>exact .dK (k _ _ e (n _ rfl))
theorem aOE(h:Th H v T):IsI K H v (.ty "int") (T == "int" || T == "bool"):=by
 refine⟨_,h.ty,.inl ⟨_,rfl,?_⟩⟩
 cases h <;> rfl
theorem aMO(h:Th H v T):IsI K H v (.ty "bool") (T == "bool"):=by
 refine⟨_,h.ty,.inl ⟨_,rfl,?_⟩⟩
 cases h <;> rfl
def amt:V->Bool
 |.int i=>decide (0<=i) && decide (i<=10 ^ 12)
 |_=>false
structure cA(H:Hp)(p:Addr):Prop where
 ex:∃(d c:Int) (q:Addr) (ms:List Int),H p=some (.lst [.int d,.int c,.ref q])/\H q=some (.lst (ms.map V.int))/\ms≠[]/\q≠p
def uC(p:Addr)(H H':Hp):Prop:=∀(d c:Int) (q:Addr),H p=some (.lst [.int d,.int c,.ref q])->∃d' c':Int,H' p=some (.lst [.int d',.int c',.ref q])
theorem uC.trans(a:uC p H H1)(b:uC p H1 H2):uC p H H2:=λd c q e=>by
 obtain⟨d',c',e'⟩:=a d c q e
 exact b d' c' q e'
theorem uC.of{H H':Hp}(s:∀o,H p=some o->H' p=some o):uC p H H':=λd c q e=>⟨d,c,s _ e⟩
theorem cA.of(h:cA H p)(k:cU p H H')(s:uC p H H'):cA H' p:=by
 obtain⟨d,c,q,ms,hp,hq,hne,hqp⟩:=h.ex
 obtain⟨d',c',e⟩:=s d c q hp
 exact⟨⟨d',c',q,ms,e,k _ _ hq hqp,hne,hqp⟩⟩
theorem cA.same(h:cA H p)(s:aQ H H'):cA H' p:=by
 obtain⟨d,c,q,ms,hp,hq,hne,hqp⟩:=h.ex
 exact⟨⟨d,c,q,ms,s _ _ hp,s _ _ hq,hne,hqp⟩⟩
theorem aHY(h:Th H v T):IsI K H v (.ty "list") (T == "list"):=by
 refine⟨_,h.ty,.inl ⟨_,rfl,?_⟩⟩
 cases h <;> rfl
theorem aKW(h:Th H v T):IsI K H v (.ty "tuple") (T == "tuple"):=by
 refine⟨_,h.ty,.inl ⟨_,rfl,?_⟩⟩
 cases h <;> rfl
theorem aMP{ms:List Int}{c:Int}(h:ms≠[]):∃m,m∈ms/\atI (ms.map V.int) (c % ((ms.map V.int).length:Int))=some (.int m):=by
 have hl:0 < ms.length:=Sx9.mpr h
 have e1:=Td9 c (b:=((ms.map V.int).length:Int)) (by rw[bL];omega)
 have e2:=So9 c (b:=((ms.map V.int).length:Int)) (by rw[bL];omega)
 obtain⟨j,hj⟩ : ∃j:Nat,c % ((ms.map V.int).length:Int)=(j:Int):=⟨_,(Int.toNat_of_nonneg e1).symm⟩
 rw[hj] at e2 ⊢
 rw[bL] at e2
 have hjl:j < ms.length:=by omega
 exact⟨ms[j],Sc9 hjl,m6 (by rw[pG,eU hjl];rfl)⟩
theorem aJT(ms:List Int)(lo hi:Option Int):∃r:List Int,sL (ms.map V.int) lo hi=r.map V.int/\r.length=(sL (ms.map V.int) lo hi).length:=by
 unfold sL
 rw[<-List.map_drop,<-List.map_take]
 exact⟨_,rfl,by simp⟩
theorem rot{ms:List Int}{i:Int}(h0:0<=i)(h1:i < ms.length):∃ms':List Int,sL (ms.map V.int) (some i) none++sL (ms.map V.int) none (some i)=ms'.map V.int/\ms'≠[]/\ms'.length<=ms.length+ms.length:=by
 obtain⟨r1,e1,l1⟩:=aJT ms (some i) none
 obtain⟨r2,e2,l2⟩:=aJT ms none (some i)
 have b1:=fW (ms.map V.int) (some i) none
 have b2:=fW (ms.map V.int) none (some i)
 rw[bL] at b1 b2
 refine⟨r1++r2,by rw[e1,e2,oA],λz=>?_,by rw[sI];omega⟩
 have z1:r1=[]:=(List.append_eq_nil_iff.mp z).1
 obtain⟨j,rfl⟩:=Int.eq_ofNat_of_zero_le h0
 have hj:j < ms.length:=by omega
 rw[z1,Tr9] at l1
 have l3:(sL (ms.map V.int) (some (j:Int)) none).length=ms.length - j:=by
  unfold sL
  rw[HT.aJy,HT.aHs,Qz9,Tn9,bL,Nat.min_eq_left (Sy9 hj)]
  omega
 rw[l3] at l1
 omega
def aGD(K:W.Frag):Sp:=λvs H Q _=>∃(a:Addr) (ns:List Int) (i:Int),vs=[.ref a,.int i]/\bX K H a (ns.map V.int)/\ns.length<=63/\0<=i/\
 ∀p H',aQ H H'->H p=none->cA H' p->Q (.ref p) H'
theorem aGE{mg:Str->Option Value}{a:jX}(tx:Txt K mg a):bS P w K mg base gZ 1 a.qU a.qV ["_law_script","_law_place"] (aGD K):=by
 refine tx.w4.ok iO (λvs H Q E h=>?_) (λcdv A outer s H vs Q E hr h=>?_)
 ·obtain⟨a,ns,i,rfl,_⟩:=h
  rfl
 ·obtain⟨a,ns,i,rfl ,hS,hl,h0,k⟩:=h
  have hu:=kI hr
  refine aY (aE (mM (k:=1) (idx:=[]) (N:=["_law_cell"]) (i:=2) iO.nd rfl (Or.inl rfl) (cR (sc:=aF hZ) (NX:=["_law_script","_law_place","_law_cells","_law_at","_law_digits"]) rfl rfl rfl (by decide +kernel)) rfl (bO (K':=K) (wR (rs:=aLU K) aQf (Z.pv 0) aAl (aAm aD))) (λ_ _ _ _=>(aI (i:=0) (show(["_law_cell"]:List Str).Nodup by decide +kernel))) (dJ (by decide)) (λ_ _ _ _=>bT) (λ_ _ _ _=>(aL aKA (by rfl) tx.aFO aQe (aA (Z.pv 0) aC))))
   (aE (bV (bA (r:=v5 K) (jF hu) (Z.pv 2) (tI aC) (bY _)) (aG (aK (i:=2) iO.nd (qQ aD))) bD)
   (aE (aK (i:=3) iO.nd (aO sJ (Z.pv 1) (aL (rc:=wK K) dC (by rfl) tx.lX kL (aA (Z.pv 2) aC))))
   (aE (aK (i:=4) iO.nd aD)
   (aE (bV (kO (yX (bA aOW (aJ (K':=K) (Z.pv 2) (Z.pv 3)) (aO aIx aD aD) (bY _)) (uP (bA aOV (Z.pv 1) (aL (rc:=wK K) dC (by rfl) tx.lX kL (aA (Z.pv 2) aC)) (bY _))))) (aG (aK (i:=4) iO.nd (aJ (K':=K) (Z.pv 2) (Z.pv 3)))) bD)
   (aG (aN (aGn (Z.pv 4) (aO cM aD (aO cC aD (Z.pv 1))) (aO cM (wR (rs:=aLU K) aQf (Z.pv 2) (aAm (Z.pv 3)) aAl) (wR (rs:=aLU K) aQf (Z.pv 2) aAl (aAm (Z.pv 3)))))))))))) ?_
  refine aS (σ:=[some (.ref a),some (.int i),none,none,none]) rfl ?_
  refine aQh ?_
  walk_at "w"
  refine aDP hS ?_
  intro p1 n1
  walk_at "w"
  rw[show sL (ns.map V.int) none (some 63)=ns.map V.int from aL5 (n:=63) (by rw[bL];exact hl)]
  refine j8 (bX.of aP) ?_
  refine aBP (λv=>match v with|.int i=>.int (if i < 0 then -i else i)|v=>v) (bX.of aP) (cK (by rw[bL];omega)) (λx N N' hx hN=>?_) ?_
  ·obtain⟨y,hy,rfl⟩:=Qy9.mp hx
   walk_at "w"
   exact hN
  ·intro p2 n2
   repeat walk_at "st"
   have s2:aQ H (upd (upd H p1 (.lst (ns.map V.int))) p2 (.lst ((ns.map V.int).map λv=>match v with|.int i=>.int (if i < 0 then -i else i)|v=>v))):=(aQ.new n1).trans (aQ.new n2)
   rw[Ru9] at s2 ⊢
   generalize hm:ns.map ((λv=>match v with|V.int i=>V.int (if i < 0 then -i else i)|v=>v) ∘ V.int)=xs at s2 ⊢
   obtain⟨ms,rfl⟩ : ∃ms:List Int,xs=ms.map V.int:=⟨ns.map λi=>if i < 0 then -i else i,by rw[<-hm,Ru9];rfl⟩
   have lm:ms.length<=63:=by
    have:=congrArg List.length hm
    simp only[bL] at this
    omega
   refine aJD (λσ' H'=>∃(c:Addr) (ms:List Int),σ'=[some (.ref a),some (.int i),some (.ref c),none,none]/\aQ H H'/\H' c=some (.lst (ms.map V.int))/\ms≠[]/\ms.length<=63) (λN hN=>?_) ?_
   ·walk_at "w"
    intro p3 n3
    walk_at "w"
    refine⟨_,aOh (bX.of (by walk_at "hp")) (bX.of aP),?_⟩
    walk_at "w"
    refine uN (λh=>?_) (λh=>?_)
    ·walk_at "w"
     intro p4 n4
     walk_at "w"
     exact hN _ _ ⟨p4,[0],rfl,(s2.trans (aQ.new n3)).trans (aQ.new n4),aP,by simp,by simp⟩
    ·walk_at "w"
     refine hN _ _ ⟨p2,ms,rfl,s2.trans (aQ.new n3),by walk_at "hp",?_,lm⟩
     rintro rfl
     simp at h
   ·rintro σ' H' ⟨c,ms,rfl,sH,hc,hne,lm⟩
    have hl:0 < ms.length:=Sx9.mpr hne
    obtain⟨m,_,hm⟩:=aMP (c:=i) hne
    have e1:=Td9 i (b:=((ms.map V.int).length:Int)) (by rw[bL];omega)
    have e2:=So9 i (b:=((ms.map V.int).length:Int)) (by rw[bL];omega)
    obtain⟨ms',em,en,el⟩:=rot (ms:=ms) e1 (by rw[bL] at e2 ⊢;exact e2)
    walk_at "w"
    refine cW (λh=>?_) (λh=>?_)
    ·walk_at "w"
     refine cW (λh=>?_) (λh=>?_)
     all_goals
      walk_at "w"
      refine aDP (bX.of hc) ?_
      intro p5 n5
      walk_at "w"
      refine aDP (bX.of (by walk_at "hp")) ?_
      intro p6 n6
      walk_at "w"
      refine aDs (by walk_at "hp") (by walk_at "hp") (cK (by have:=fW (ms.map V.int) (some (i % ((ms.map V.int).length:Int))) none;have:=fW (ms.map V.int) none (some (i % ((ms.map V.int).length:Int)));simp only[bL] at *;omega)) ?_
      intro p7 n7
      walk_at "w"
      rw[em]
      walk_at "w"
      intro p8 n8
      walk_at "w"
      have s8:=((aQ.new (o:=.lst (sL (ms.map V.int) (some (i % ((ms.map V.int).length:Int))) none)) n5).trans (aQ.new (o:=.lst (sL (ms.map V.int) none (some (i % ((ms.map V.int).length:Int))))) n6)).trans (aQ.new (o:=.lst (ms'.map V.int)) n7)
      refine k _ _ (sH.trans (s8.trans (aQ.new n8))) ((sH.trans s8).free n8) ⟨⟨_,_,_,ms',aP,by walk_at "hp",en,?_⟩⟩
      exact bM n8 aP
    ·walk_at "w"
     refine aDP (bX.of hc) ?_
     intro p5 n5
     walk_at "w"
     refine aDP (bX.of (by walk_at "hp")) ?_
     intro p6 n6
     walk_at "w"
     refine aDs (by walk_at "hp") (by walk_at "hp") (cK (by have:=fW (ms.map V.int) (some (i % ((ms.map V.int).length:Int))) none;have:=fW (ms.map V.int) none (some (i % ((ms.map V.int).length:Int)));simp only[bL] at *;omega)) ?_
     intro p7 n7
     walk_at "w"
     rw[em]
     walk_at "w"
     intro p8 n8
     walk_at "w"
     have s8:=((aQ.new (o:=.lst (sL (ms.map V.int) (some (i % ((ms.map V.int).length:Int))) none)) n5).trans (aQ.new (o:=.lst (sL (ms.map V.int) none (some (i % ((ms.map V.int).length:Int))))) n6)).trans (aQ.new (o:=.lst (ms'.map V.int)) n7)
     refine k _ _ (sH.trans (s8.trans (aQ.new n8))) ((sH.trans s8).free n8) ⟨⟨_,_,_,ms',aP,by walk_at "hp",en,?_⟩⟩
     exact bM n8 aP
def aGF(K:W.Frag):Sp:=λvs H Q _=>∃(p:Addr) (n:Int),vs=[.ref p,.int n]/\cA H p/\0 < n/\n < 1073741824/\
 ∀(r:Int) H',0<=r->r < n->cA H' p->cU p H H'->uC p H H'->Q (.int r) H'
theorem lZ{mg:Str->Option Value}{a:jX}(tx:Txt K mg a):bS P w K mg base gZ 1 a.qW a.qX ["_law_hand","_law_many"] (aGF K):=by
 refine tx.bP.ok iP (λvs H Q E h=>?_) (λcdv A outer s H vs Q E hr h=>?_)
 ·obtain⟨p,n,rfl,_⟩:=h
  rfl
 ·obtain⟨p,n,rfl ,hh,h0,h1,k⟩:=h
  have hu:=kI hr
  refine aY (aE (bV (bA aDE (aJ (K':=K) (Z.pv 0) aD) aD (bY _)) (aE (aK (i:=2) iP.nd (aO sJ (aJ (K':=K) (Z.pv 0) aD) (Z.pv 1)))
   (aE (aKI (aO aF9 (aJ (K':=K) (Z.pv 0) aD) (Z.pv 1)) (aKH (Z.pv 0) aD set_list))
   (aG (aN (Z.pv 2))))) bD)
   (aE (aDT (Z.pv 0) aD aLY aD aDB set_list)
   (aE (aK (i:=3) iP.nd (aO sJ (aJ (K':=K) (aJ (K':=K) (Z.pv 0) aD) (aO sJ (aJ (K':=K) (Z.pv 0) aD) (aL (rc:=wK K) dC (by rfl) tx.lX kL (aA (aJ (K':=K) (Z.pv 0) aD) aC)))) aD))
   (aE (aK (i:=4) iP.nd (aO sJ (aO cM (aO cM (aO cC (Z.pv 3) aD) (aO cC (aJ (K':=K) (Z.pv 0) aD) aD)) aD) aD))
   (aE (aK (i:=4) iP.nd (aO sJ (aO cM (aO cC (Z.pv 4) (Z.pv 4)) (aJ (K':=K) (Z.pv 0) aD)) aD))
   (aE (aK (i:=4) iP.nd (aO sJ (aO cM (aO cC (Z.pv 4) aD) aD) aD))
   (aG (aN (aO sJ (aO aF9 (aO sJ (aO cC (Z.pv 4) (Z.pv 4)) aD) aD) (Z.pv 1)))))))))) ?_
  obtain⟨d,c,q,ms,hp,hq,hne,hqp⟩:=hh.ex
  refine aS (σ:=[some (.ref p),some (.int n),none,none,none]) rfl ?_
  walk_at "w"
  refine cW (λhd=>?_) (λhd=>?_)
  ·walk_at "w"
   refine aGi hp rfl ?_
   walk_at "w"
   refine k _ _ (Td9 _ (by omega)) (So9 _ h0) ⟨⟨_,c,q,ms,aP,by walk_at "hp",hne,hqp⟩⟩ cU.upd (λd0 c0 q0 e0=>by rw[hp] at e0;cases e0;exact⟨_,_,aP⟩)
  ·walk_at "w"
   refine aL1 (bX.of hp) (by decide) rfl ?_
   walk_at "w"
   refine aGi hp rfl ?_
   obtain⟨m,_,hm⟩:=aMP (c:=c+1) hne
   have hlen:0 < ((ms.map V.int).length:Int):=by rw[bL];have:=Sx9.mpr hne;omega
   walk_at "w"
   have hq':(upd H p (.lst [.int d,.int (c+1),.ref q])) q=some (.lst (ms.map V.int)):=by walk_at "hp"
   walk_at "w"
   exact k _ _ (Td9 _ (by omega)) (So9 _ h0) ⟨⟨d,c+1,q,ms,aP,hq',hne,hqp⟩⟩ cU.upd (λd0 c0 q0 e0=>by rw[hp] at e0;cases e0;exact⟨_,_,aP⟩)
def aHZ(K:W.Frag):Sp:=λvs H Q _=>∃(p:Addr) (b:Int),vs=[.ref p,.int b]/\cA H p/\0 < b/\
 ∀(r:Int) H',0<=r->r < b->cA H' p->cU p H H'->uC p H H'->Q (.int r) H'
theorem aH0{mg:Str->Option Value}{a:jX}(tx:Txt K mg a):bS P w K mg base gZ 2 a.uR a.uS ["_law_hand","_law_bound"] (aHZ K):=by
 have bJ:=lZ (P:=P) (w:=w) (base:=base) tx
 refine tx.aAu.ok qS (λvs H Q E h=>?_) (λcdv A outer s H vs Q E hr h=>?_)
 ·obtain⟨p,b,rfl,_⟩:=h
  rfl
 ·obtain⟨p,b,rfl ,hh,h0,k⟩:=h
  have hu:=kI hr
  refine aY (aE (aK (i:=2) qS.nd aD)
   (aE (bW PassesOwn.never rfl (eW (by rfl) tx.gF (aA aD aC)) (aI (i:=3) qS.nd) (aG (aK (i:=2) qS.nd (aO cM (aO cC (Z.pv 2) aD) (aH (bJ) (hr.mono (by decide)) (by rfl) tx.bR tx.bP.kp tx.bQ .nil aZ (aA (Z.pv 0) (aA aD aC)))))))
   (aG (aN (aO sJ (Z.pv 2) (Z.pv 1)))))) ?_
  refine aS (σ:=[some (.ref p),some (.int b),none,none]) rfl ?_
  walk_at "w"
  refine⟨by decide,by decide,?_⟩
  refine wM (n:=11) (λi σ' H'=>∃(t:Int) (x:Option V),σ'=[some (.ref p),some (.int b),some (.int t),x]/\cA H' p/\cU p H H'/\uC p H H') ⟨0,none,rfl,hh,λ_ _ e _=>e,uC.of λ_ e=>e⟩ (λi σ' H' hi ⟨t,x,e,h',kp,sq⟩=>?_) (λσ' H' ⟨t,x,e,h',kp,sq⟩=>?_)
  ·subst e
   walk_at "w"
   refine⟨p,_,rfl,h',by decide,by decide,λr H2 r0 r1 h2 k2 q2=>?_⟩
   walk_at "w"
   exact⟨_,_,rfl,h2,kp.trans k2,sq.trans q2⟩
  ·subst e
   walk_at "w"
   exact k _ _ (Td9 _ (by omega)) (So9 _ h0) h' kp sq
def aEk(K:W.Frag):Sp:=λvs H Q _=>∃(p:Addr),vs=[.ref p]/\cA H p/\∀(r:Int) H',1<=r->r<=50000000000->cA H' p->cU p H H'->uC p H H'->Q (.int r) H'
theorem aEm{mg:Str->Option Value}{a:jX}(tx:Txt K mg a):bS P w K mg base gZ 3 a.m8 a.m9 ["_law_hand"] (aEk K):=by
 have bJ:=lZ (P:=P) (w:=w) (base:=base) tx
 have aJc:=aH0 (P:=P) (w:=w) (base:=base) tx
 refine tx.nO.ok aD5 (λvs H Q E h=>?_) (λcdv A outer s H vs Q E hr h=>?_)
 ·obtain⟨p,rfl,_⟩:=h
  rfl
 ·obtain⟨p,rfl ,hh,k⟩:=h
  have hu:=kI hr
  refine aY (aE (bV (bA aDE (aH (bJ) (hr.mono (by decide)) (by rfl) tx.bR tx.bP.kp tx.bQ .nil aZ (aA (Z.pv 0) (aA aD aC))) aD (bY _)) (aG (aN aD)) bD)
   (aG (aN (aO cM aD (aH (aJc) (hr.mono (by decide)) (by rfl) tx.aEb tx.aAu.kp tx.aEa .nil aZ (aA (Z.pv 0) (aA (aO cC aD (aO aIx aD aD)) aC))))))) ?_
  refine aS (σ:=[some (.ref p)]) rfl ?_
  walk_at "w"
  refine⟨p,_,rfl,hh,by decide,by decide,λr1 H1 a1 b1 h1 k1 q1=>?_⟩
  walk_at "w"
  refine cW (λh=>?_) (λh=>?_)
  ·walk_at "w"
   exact k _ _ (by decide) (by decide) h1 k1 q1
  ·walk_at "w"
   refine⟨p,_,rfl,h1,by decide,λr2 H2 a2 b2 h2 k2 q2=>?_⟩
   have b3:r2 < 50000000000:=b2
   walk_at "w"
   exact k _ _ (by omega) (by omega) h2 (k1.trans k2) (q1.trans q2)
structure MS where
 up:Int
 down:Int
 begin_:Int
 run:Int
 rest:Int
 least:Int
 pieces:List (Int×Int)
def Am(i:Int):Prop:=0<=i/\i<=1000000000000
structure aGG(ps:List (Int×Int)):Prop where
 len:ps.length<=4
 pc:∀t∈ps,1<=t.1/\Am t.1/\Am t.2
 up:∀(j:Nat) t u,ps[j]?=some t->ps[j+1]?=some u->t.2<=u.2
structure MS.Good(m:MS):Prop where
 up:1<=m.up/\m.up<=12
 down:1<=m.down/\m.down<=12
 begin_:Am m.begin_
 run:Am m.run
 rest:Am m.rest
 least:Am m.least
 pieces:aGG m.pieces
structure yJ(H:Hp)(qs:List Addr)(ps:List (Int×Int)):Prop where
 len:qs.length=ps.length
 at_:∀(j:Nat) q t,qs[j]?=some q->ps[j]?=some t->H q=some (.tup [.int t.1,.int t.2])
structure aB1(H:Hp)(p:Addr)(ps:List (Int×Int)):Prop where
 ex:∃qs,H p=some (.lst (qs.map V.ref))/\yJ H qs ps
structure sW(H:Hp)(s:Addr)(m:MS):Prop where
 ex:∃pl,H s=some (.lst [.int m.up,.int m.down,.int m.begin_,.int m.run,.int m.rest,.int m.least,.ref pl])/\aB1 H pl m.pieces
def mFs(m:MS)(pl:Addr):List (Str×V):=[("up",.int m.up),("down",.int m.down),("begin",.int m.begin_),("run",.int m.run),("rest",.int m.rest),("least",.int m.least),("pieces",.ref pl)]
structure cO(C:Addr)(H:Hp)(a:Addr)(m:MS):Prop where
 ex:∃dx pl,H a=some (.ins C dx (mFs m pl))/\aB1 H pl m.pieces
theorem yJ.at2{H:Hp}{ps:List (Int×Int)}(h:yJ H qs ps)(hq:q∈qs):∃t∈ps,H q=some (.tup [.int t.1,.int t.2]):=by
 obtain⟨j,hj,rfl⟩:=List.getElem_of_mem hq
 have hj2:j < ps.length:=by rw[<-h.len];exact hj
 exact⟨ps[j],Sc9 hj2,h.at_ j _ _ (eU hj) (eU hj2)⟩
theorem yJ.same{ps:List (Int×Int)}(h:yJ H qs ps)(s:aQ H H'):yJ H' qs ps:=⟨h.len,λj q t h1 h2=>s _ _ (h.at_ j q t h1 h2)⟩
theorem aB1.same{ps:List (Int×Int)}(h:aB1 H p ps)(s:aQ H H'):aB1 H' p ps:=by
 obtain⟨qs,h1,h2⟩:=h.ex
 exact⟨qs,s _ _ h1,h2.same s⟩
theorem cO.same(h:cO C H p m)(s:aQ H H'):cO C H' p m:=by
 obtain⟨dx,pl,h1,h2⟩:=h.ex
 exact⟨dx,pl,s _ _ h1,h2.same s⟩
theorem yJ.keep{H:Hp}{ps:List (Int×Int)}(h:yJ H qs ps)(hp:∀xs,H p≠some (.tup xs))(s:cU p H H'):yJ H' qs ps:=
 ⟨h.len,λj q t h1 h2=>by
  have e:=h.at_ j q t h1 h2
  exact s _ _ e (λz=>hp _ (z▸e))⟩
theorem cA.aLb(h:cA H p)(xs:List V):H p≠some (.tup xs):=λz=>by
 obtain⟨d,c,q,ms,hp,_⟩:=h.ex
 rw[hp] at z
 cases z
theorem aB1.keep{ps:List (Int×Int)}(h:aB1 H a ps)(hh:cA H p)(s:cU p H H'):aB1 H' a ps:=by
 obtain⟨qs,h1,h2⟩:=h.ex
 obtain⟨d,c,q,ms,hp,_⟩:=id hh.ex
 refine⟨qs,s _ _ h1 (λz=>?_),h2.keep hh.aLb s⟩
 rw[z,hp] at h1
 cases qs with
 |nil=>cases h1
 |cons x xs=>cases h1
theorem sW.keep(h:sW H a m)(hh:cA H p)(s:cU p H H'):sW H' a m:=by
 obtain⟨pl,h1,h2⟩:=h.ex
 obtain⟨d,c,q,ms,hp,_⟩:=id hh.ex
 refine⟨pl,s _ _ h1 (λz=>?_),h2.keep hh s⟩
 rw[z,hp] at h1
 cases h1
theorem cO.keep{C:Addr}{H H':Hp}{a p:Addr}{m:MS}(h:cO C H a m)(hh:cA H p)(s:cU p H H'):cO C H' a m:=by
 obtain⟨dx,pl,h1,h2⟩:=h.ex
 obtain⟨d,c,q,ms,hp,_⟩:=id hh.ex
 refine⟨dx,pl,s _ _ h1 (λz=>?_),h2.keep hh s⟩
 rw[z,hp] at h1
 cases h1
theorem aAD{i:Int}(h:Am i):amt (.int i)=true:=by
 obtain⟨h1,h2⟩:=h
 have h3:i<=10 ^ 12:=h2
 show(decide (0<=i) && decide (i<=10 ^ 12))=true
 rw[decide_eq_true h1,decide_eq_true h3]
 rfl
def aH1(K:PySem.W.Frag):Sp:=λvs H Q _=>∃v T,vs=[v]/\Th H v T/\Q (.bl (T == "int")) H
theorem aCF{mg:Str->Option Value}{a:jX}(tx:Txt K mg a):bS P w K mg base gZ 1 a.uT a.uU ["thing"] (aH1 K):=by
 refine tx.vA.ok aHU (λvs H Q E h=>?_) (λcdv A outer s H vs Q E hr h=>?_)
 ·obtain⟨v,T,rfl,_⟩:=h
  rfl
 ·obtain⟨v,T,rfl ,ht,k⟩:=h
  have hu:=kI hr
  refine aY (aG (aN (tG (aL (rc:=aGj K) mI (by rfl) tx.cQ eV (aA (Z.pv 0) (aA (pK (v:=.ty "int") (by rfl) tx.aFP aQd rfl) aC))) (pE (aKG (aL (rc:=aGj K) mI (by rfl) tx.cQ eV (aA (Z.pv 0) (aA (pK (v:=.ty "bool") (by rfl) tx.aB0 aNX rfl) aC)))))))) ?_
  refine aS (σ:=[some v]) rfl ?_
  walk_at "w"
  refine aAh (aOE ht) ?_
  walk_at "w"
  refine uN (λh=>?_) (λh=>?_)
  ·walk_at "w"
   refine aAh (aMO ht) ?_
   walk_at "w"
   have e:(!(T == "bool"))=(T == "int"):=by cases ht <;> first|rfl|cases h
   rw[e]
   exact k
  ·have e:(T == "int")=false:=by cases ht <;> first|rfl|cases h
   rw[e] at k
   exact k
def aGH(K:W.Frag):Sp:=λvs H Q _=>∃v T,vs=[v]/\Th H v T/\Q (.bl (amt v)) H
theorem vL{mg:Str->Option Value}{a:jX}(tx:Txt K mg a):bS P w K mg base gZ 2 a.qY a.qZ ["thing"] (aGH K):=by
 have aAE:=aCF (P:=P) (w:=w) (base:=base) tx
 refine tx.eS.ok aGz (λvs H Q E h=>?_) (λcdv A outer s H vs Q E hr h=>?_)
 ·obtain⟨v,T,rfl,_⟩:=h
  rfl
 ·obtain⟨v,T,rfl ,ht,k⟩:=h
  have hu:=kI hr
  refine aY (aG (aN (tG (aH (aAE) (hr.mono (by decide)) (by rfl) tx.aAw tx.vA.kp tx.aAv .nil aZ (aA (Z.pv 0) aC)) (pE (wO aCb aCb aD (Z.pv 0) (aO aIx aD aD)))))) ?_
  refine aS (σ:=[some v]) rfl ?_
  walk_at "w"
  refine⟨v,T,rfl,ht,?_⟩
  walk_at "w"
  refine uN (λh=>?_) (λh=>?_)
  ·cases ht with
   |int i=>
    walk_at "w"
    refine cW (λh1=>?_) (λh1=>?_)
    ·walk_at "w"
     have e:amt (.int i)=decide (i<=10 ^ (12:Int).toNat):=by simp[amt,h1]
     rw[<-e]
     exact k
    ·have e:amt (.int i)=false:=by simp[amt,h1]
     rw[e] at k
     exact k
   |_=>cases h
  ·have e:amt v=false:=by cases ht <;> first|rfl|cases h
   rw[e] at k
   exact k
def aJd(K:W.Frag):Sp:=λvs H Q _=>∃(i:Int),vs=[.int i]/\1<=i/\i<=12/\Q (.bl true) H
theorem aJe{mg:Str->Option Value}{a:jX}(tx:Txt K mg a):bS P w K mg base gZ 2 a.y8 a.y9 ["thing"] (aJd K):=by
 have aAE:=aCF (P:=P) (w:=w) (base:=base) tx
 refine tx.zA.ok aJb (λvs H Q E h=>?_) (λcdv A outer s H vs Q E hr h=>?_)
 ·obtain⟨i,rfl,_⟩:=h
  rfl
 ·obtain⟨i,rfl ,h1,h2,k⟩:=h
  have hu:=kI hr
  refine aY (aG (aN (tG (aH (aAE) (hr.mono (by decide)) (by rfl) tx.aAw tx.vA.kp tx.aAv .nil aZ (aA (Z.pv 0) aC)) (pE (wO aCb aCb aD (Z.pv 0) (aAk (n:=12) (by rfl) tx.eI)))))) ?_
  refine aS (σ:=[some (.int i)]) rfl ?_
  walk_at "w"
  refine⟨_,_,rfl,.int i,?_⟩
  walk_at "w"
  refine uN (λ_=>?_) (λh=>by simp at h)
  walk_at "w"
  refine cW (λ_=>?_) (λh=>absurd h1 h)
  walk_at "w"
  rw[decide_eq_true h2]
  exact k
def aH2(K:W.Frag):Sp:=λvs H Q _=>∃(q:Addr) (x y:Int),vs=[.ref q]/\H q=some (.tup [.int x,.int y])/\1<=x/\Am x/\Am y/\Q (.bl true) H
theorem aH3{mg:Str->Option Value}{a:jX}(tx:Txt K mg a):bS P w K mg base gZ 3 a.uV a.uW ["thing"] (aH2 K):=by
 have eT:=vL (P:=P) (w:=w) (base:=base) tx
 refine tx.aAx.ok aHV (λvs H Q E h=>?_) (λcdv A outer s H vs Q E hr h=>?_)
 ·obtain⟨q,x,y,rfl,_⟩:=h
  rfl
 ·obtain⟨q,x,y,rfl ,hq,h1,h2,h3,k⟩:=h
  have hu:=kI hr
  refine aY (aE (bV (kO (wQ (gM (eF (aL (rc:=aGj K) mI (by rfl) tx.cQ eV (aA (Z.pv 0) (aA (pK (v:=.ty "tuple") (by rfl) tx.nQ wJ rfl) aC))))) (tH (bA (r:=aKy K) (aGh hu) (aL (rc:=wK K) dC (by rfl) tx.lX kL (aA (Z.pv 0) aC)) aD (bY _))))) (aG (aN pJ)) bD)
   (aG (aN (tG (aH (eT) (hr.mono (by decide)) (by rfl) tx.fY tx.eS.kp tx.fX .nil aZ (aA (aJ (K':=K) (Z.pv 0) aD) aC)) (tG (mJ aOW (aJ (K':=K) (Z.pv 0) aD) aD (bY _)) (pE (aH (eT) (hr.mono (by decide)) (by rfl) tx.fY tx.eS.kp tx.fX .nil aZ (aA (aJ (K':=K) (Z.pv 0) aD) aC)))))))) ?_
  refine aS (σ:=[some (.ref q)]) rfl ?_
  walk_at "w"
  refine aAh (aKW (.tup hq)) ?_
  walk_at "w"
  refine uN (λh=>by simp at h) (λ_=>?_)
  walk_at "w"
  refine aAU (λh=>absurd rfl h) (λ_=>?_)
  walk_at "w"
  refine⟨_,_,rfl,.int x,?_⟩
  rw[aAD h2]
  walk_at "w"
  refine cW (λ_=>?_) (λh=>absurd h1 h)
  walk_at "w"
  refine⟨_,_,rfl,.int y,?_⟩
  rw[aAD h3]
  exact k
def aE5(K:W.Frag):Sp:=λvs H Q _=>∃(p:Addr) (ps:List (Int×Int)),vs=[.ref p]/\aB1 H p ps/\aGG ps/\∀H',aQ H H'->Q (.bl true) H'
theorem aE6{mg:Str->Option Value}{a:jX}(tx:Txt K mg a):bS P w K mg base gZ 4 a.oM a.oN ["thing"] (aE5 K):=by
 have aJf:=aH3 (P:=P) (w:=w) (base:=base) tx
 refine tx.vB.ok aE3 (λvs H Q E h=>?_) (λcdv A outer s H vs Q E hr h=>?_)
 ·obtain⟨p,ps,rfl,_⟩:=h
  rfl
 ·obtain⟨p,ps,rfl ,hp,hg,k⟩:=h
  have hu:=kI hr
  refine aY (aE (bV (kO (wQ (gM (eF (aL (rc:=aGj K) mI (by rfl) tx.cQ eV (aA (Z.pv 0) (aA (pK (v:=.ty "list") (by rfl) tx.nZ uL rfl) aC))))) (tH (bA aDE (aL (rc:=wK K) dC (by rfl) tx.lX kL (aA (Z.pv 0) aC)) (aAk (n:=4) (by rfl) tx.gY) (bY _))))) (aG (aN pJ)) bD)
   (aE (bV (gM (eF (aL (rc:=aMb K) (aBR rfl) (by rfl) tx.aCE aIL (aA (bU (k:=1) (idx:=[]) (N:=["piece"]) (cR (sc:=aF eQ) (NX:=["thing"]) rfl rfl rfl (by decide +kernel)) rfl (bO (K':=K) (Z.pv 0)) (λ_ _ _ _=>(aI (i:=0) (show(["piece"]:List Str).Nodup by decide +kernel))) (dJ (by decide)) (λ_ _ _ _=>bT) (λ_ _ _ _=>(aH (aJf) (hr.mono (by decide)) (by rfl) tx.aEd tx.aAx.kp tx.aEc .nil aZ (aA (Z.pv 0) aC)))) aC)))) (aG (aN pJ)) bD)
   (aG (aN (aL (rc:=aMb K) (aBR rfl) (by rfl) tx.aCE aIL (aA (bU (k:=1) (idx:=[0]) (N:=["at","thing"]) (cR (sc:=aF eQ) (NX:=["thing"]) rfl rfl rfl (by decide +kernel)) rfl (aEY (by rfl) tx.gF (aA aD (aA (aL (rc:=wK K) dC (by rfl) tx.lX kL (aA (Z.pv 0) aC)) aC))) (λ_ _ _ _=>(aI (i:=0) (show(["at","thing"]:List Str).Nodup by decide +kernel))) (dJ (by decide)) (λ_ _ _ _=>bT) (λ_ _ _ _=>(mJ aCb (aJ (K':=K) (aJ (K':=K) (Z.pv 1) (aO hU (Z.pv 0) aD)) aD) (aJ (K':=K) (aJ (K':=K) (Z.pv 1) (Z.pv 0)) aD) (bY _)))) aC)))))) ?_
  obtain⟨qs,h1,h2⟩:=hp.ex
  have hl:=hg.len
  have hql:qs.length<=4:=by rw[h2.len];exact hl
  refine aS (σ:=[some (.ref p)]) rfl ?_
  walk_at "w"
  refine aAh (aHY (.lst h1)) ?_
  walk_at "w"
  refine uN (λh=>by simp at h) (λ_=>?_)
  walk_at "w"
  refine cW (λh=>by rw[bL] at h;omega) (λ_=>?_)
  walk_at "w"
  refine j8 (bX.of h1) ?_
  refine aBP (λ_=>.bl true) (bX.of h1) (cK (by rw[bL];omega)) (λx N N' hxm hN=>?_) ?_
  ·obtain⟨q,hq,rfl⟩:=Qy9.mp hxm
   obtain⟨t,ht,e⟩:=h2.at2 hq
   obtain⟨g1,g2,g3⟩:=hg.pc t ht
   walk_at "w"
   exact⟨q,t.1,t.2,rfl,e,g1,g2,g3,hN⟩
  ·intro l1 n1
   walk_at "w"
   refine aGk (bX.of aP) (λx hx=>by obtain⟨_,_,rfl⟩:=Qy9.mp hx;rfl) ?_
   walk_at "w"
   have h1':=aQ.new (o:=.lst ((qs.map V.ref).map λ_=>V.bl true)) n1 _ _ h1
   have h2':=h2.same (aQ.new (o:=.lst ((qs.map V.ref).map λ_=>V.bl true)) n1)
   walk_at "w"
   refine⟨⟨by omega,by omega,by omega,by rw[bL];omega⟩,?_⟩
   rw[bL]
   refine aIM (λ_=>.bl true) (cK (by omega)) (λi N N' hi hN=>?_) ?_
   ·have i1:i < qs.length:=by omega
    have i2:i+1 < qs.length:=by omega
    have j1:i < ps.length:=by rw[<-h2.len];exact i1
    have j2:i+1 < ps.length:=by rw[<-h2.len];exact i2
    have e1:atI (qs.map V.ref) (1+(i:Int) - 1)=some (.ref qs[i]):=by
     rw[show 1+(i:Int) - 1=(i:Int) by omega]
     exact m6 (by rw[pG,eU i1];rfl)
    have e2:atI (qs.map V.ref) (1+(i:Int))=some (.ref qs[i+1]):=by
     rw[show 1+(i:Int)=((i+1:Nat):Int) by omega]
     exact m6 (by rw[pG,eU i2];rfl)
    have t1:=h2'.at_ i _ _ (eU i1) (eU j1)
    have t2:=h2'.at_ (i+1) _ _ (eU i2) (eU j2)
    have t3:=hg.up i _ _ (eU j1) (eU j2)
    walk_at "w"
    rw[decide_eq_true t3]
    exact hN
   ·intro l2 n2
    walk_at "w"
    refine aGk (bX.of aP) (λx hx=>by obtain⟨_,_,rfl⟩:=Qy9.mp hx;rfl) ?_
    exact k _ ((aQ.new n1).trans (aQ.new n2))
def aCS(K:W.Frag)(C:Addr):Sp:=λvs H Q _=>∃(x dx pl:Addr) (m:MS),vs=[.ref x,.int m.up,.int m.down,.int m.begin_,.int m.run,.int m.rest,.int m.least,.ref pl]/\H x=some (.ins C dx [])/\aB1 H pl m.pieces/\m.Good/\
 ∀H',cO C H' x m->cU x H H'->Q .non H'
theorem aCT{mg:Str->Option Value}{a:jX}(tx:Txt K mg a):bS P w K mg base gZ 5 a.kR a.kS ["self","up","down","begin","run","rest","least","pieces"] (aCS K a.aR):=by
 have aGI:=aE6 (P:=P) (w:=w) (base:=base) tx
 have eT:=vL (P:=P) (w:=w) (base:=base) tx
 have aFQ:=aJe (P:=P) (w:=w) (base:=base) tx
 refine tx.w5.ok gI (λvs H Q E h=>?_) (λcdv A outer s H vs Q E hr h=>?_)
 ·obtain⟨x,dx,pl,m,rfl,_⟩:=h
  rfl
 ·obtain⟨x,dx,pl,m,rfl ,hx,hp,hg,k⟩:=h
  have hu:=kI hr
  refine aY (aE (aK (i:=8) gI.nd (aGm (aH (aFQ) (hr.mono (by decide)) (by rfl) tx.aBY tx.zA.kp tx.aBX .nil aZ (aA (Z.pv 1) aC)) (aH (aFQ) (hr.mono (by decide)) (by rfl) tx.aBY tx.zA.kp tx.aBX .nil aZ (aA (Z.pv 2) aC))))
   (aE (aK (i:=9) gI.nd (aOn (aH (eT) (hr.mono (by decide)) (by rfl) tx.fY tx.eS.kp tx.fX .nil aZ (aA (Z.pv 3) aC)) (aH (eT) (hr.mono (by decide)) (by rfl) tx.fY tx.eS.kp tx.fX .nil aZ (aA (Z.pv 4) aC)) (aH (eT) (hr.mono (by decide)) (by rfl) tx.fY tx.eS.kp tx.fX .nil aZ (aA (Z.pv 5) aC)) (aH (eT) (hr.mono (by decide)) (by rfl) tx.fY tx.eS.kp tx.fX .nil aZ (aA (Z.pv 6) aC))))
   (aE (bW PassesOwn.never rfl (eO (K':=K) (by rfl) tx.cN (aA (aO cM (aO cM (Z.pv 8) (Z.pv 9)) (qQ (aH (aGI) (hr.mono (by decide)) (by rfl) tx.aA7 tx.vB.kp tx.aA6 .nil aZ (aA (Z.pv 7) aC)))) aC)) (bI (K':=K) (n:=2) rfl (aM (aI (i:=10) gI.nd) (aM (aI (i:=11) gI.nd) bH))) (aG (bV (gM (eF (Z.pv 11))) (aG qP) bD)))
   (aE (eX (K':=K) (Z.pv 0) (Z.pv 1) rfl)
   (aE (eX (K':=K) (Z.pv 0) (Z.pv 2) rfl)
   (aE (eX (K':=K) (Z.pv 0) (Z.pv 3) rfl)
   (aE (eX (K':=K) (Z.pv 0) (Z.pv 4) rfl)
   (aE (eX (K':=K) (Z.pv 0) (Z.pv 5) rfl)
   (aE (eX (K':=K) (Z.pv 0) (Z.pv 6) rfl)
   (aG (eX (K':=K) (Z.pv 0) (cZ (rc:=aAV K) aAi (by rfl) tx.nZ uL (aA (Z.pv 7) aC)) rfl))))))))))) ?_
  refine aS (σ:=[some (.ref x),some (.int m.up),some (.int m.down),some (.int m.begin_),some (.int m.run),some (.int m.rest),some (.int m.least),some (.ref pl),none,none,none,none]) rfl ?_
  walk_at "w"
  refine⟨_,rfl,hg.up.1,hg.up.2,?_⟩
  walk_at "w"
  refine⟨_,rfl,hg.down.1,hg.down.2,?_⟩
  walk_at "w"
  intro l1 n1
  walk_at "w"
  refine⟨_,_,rfl,.int _,?_⟩
  rw[aAD hg.begin_]
  walk_at "w"
  refine⟨_,_,rfl,.int _,?_⟩
  rw[aAD hg.run]
  walk_at "w"
  refine⟨_,_,rfl,.int _,?_⟩
  rw[aAD hg.rest]
  walk_at "w"
  refine⟨_,_,rfl,.int _,?_⟩
  rw[aAD hg.least]
  walk_at "w"
  intro l2 n2
  walk_at "w"
  refine aDs (xs:=[.bl true,.bl true]) (zs:=[.bl true,.bl true,.bl true,.bl true]) (by walk_at "hp") aP (cK (by simp)) ?_
  intro l3 n3
  walk_at "w"
  have s3:aQ H (upd (upd (upd H l1 (.lst [.bl true,.bl true])) l2 (.lst [.bl true,.bl true,.bl true,.bl true])) l3 (.lst ([.bl true,.bl true] ++ [.bl true,.bl true,.bl true,.bl true]))):=((aQ.new n1).trans (aQ.new n2)).trans (aQ.new n3)
  refine⟨pl,m.pieces,rfl,hp.same s3,hg.pieces,λH4 s4=>?_⟩
  walk_at "w"
  intro l5 n5
  walk_at "w"
  refine aDs (xs:=[.bl true,.bl true] ++ [.bl true,.bl true,.bl true,.bl true]) (zs:=[.bl true]) (aQ.new n5 _ _ (s4 _ _ aP)) aP (cK (by simp)) ?_
  intro l6 n6
  walk_at "w"
  have s6:aQ H (upd (upd H4 l5 (.lst [.bl true])) l6 (.lst (([.bl true,.bl true] ++ [.bl true,.bl true,.bl true,.bl true]) ++ [.bl true]))):=(s3.trans s4).trans ((aQ.new n5).trans (aQ.new n6))
  generalize hH6:upd (upd H4 l5 (.lst [.bl true])) l6 (.lst (([.bl true,.bl true] ++ [.bl true,.bl true,.bl true,.bl true]) ++ [.bl true]))=H6 at s6 ⊢
  have e6:H6 l6=some (.lst [.bl true,.bl true,.bl true,.bl true,.bl true,.bl true,.bl true]):=by rw[<-hH6,aP];rfl
  refine aAW (bX.of e6) ?_
  refine oJ (xs:=[.bl true,.bl true,.bl true,.bl true,.bl true,.bl true,.bl true]) (λi σ' H'=>∃y z,σ'=[some (.ref x),some (.int m.up),some (.int m.down),some (.int m.begin_),some (.int m.run),some (.int m.rest),some (.int m.least),some (.ref pl),some (.ref l1),some (.ref l2),y,z]/\aQ H6 H')
   ⟨_,_,rfl,aQ.refl _⟩ (λi σ' H' hi ⟨y,z,e,s⟩=>bX.of (s _ _ e6)) (λi v σ' H' T hv ⟨y,z,e,s⟩ nT=>?_) (λσ' H' ⟨y,z,e,s⟩=>?_)
  ·subst e
   have ev:v=.bl true:=by
    have:=oH hv
    simpa using this
   subst ev
   refine cP (jQ.of aP) rfl ?_
   walk_at "w"
   exact⟨_,_,rfl,s.trans (aQ.new nT)⟩
  ·subst e
   have sH:aQ H H':=s6.trans s
   have hx':=sH _ _ hx
   have hp':=hp.same sH
   obtain⟨qs,p1,p2⟩:=hp'.ex
   walk_at "w"
   refine sM (fs':=[("up",.int m.up)]) hx' tx.bE tx.vJ (by simp[mFs]) rfl ?_
   walk_at "w"
   refine sM (fs':=[("up",.int m.up),("down",.int m.down)]) aP tx.bE tx.qD (by simp[mFs]) rfl ?_
   rw[uI]
   walk_at "w"
   refine sM (fs':=[("up",.int m.up),("down",.int m.down),("begin",.int m.begin_)]) aP tx.bE tx.jU (by simp[mFs]) rfl ?_
   rw[uI]
   walk_at "w"
   refine sM (fs':=[("up",.int m.up),("down",.int m.down),("begin",.int m.begin_),("run",.int m.run)]) aP tx.bE tx.nP (by simp[mFs]) rfl ?_
   rw[uI]
   walk_at "w"
   refine sM (fs':=[("up",.int m.up),("down",.int m.down),("begin",.int m.begin_),("run",.int m.run),("rest",.int m.rest)]) aP tx.bE tx.lW (by simp[mFs]) rfl ?_
   rw[uI]
   walk_at "w"
   refine sM (fs':=[("up",.int m.up),("down",.int m.down),("begin",.int m.begin_),("run",.int m.run),("rest",.int m.rest),("least",.int m.least)]) aP tx.bE tx.cV (by simp[mFs]) rfl ?_
   rw[uI]
   walk_at "w"
   have px:pl≠x:=λz=>by rw[z,hx'] at p1;cases p1
   refine aDQ (ys:=qs.map V.ref) (bX.of (by rw[aW px];exact p1)) ?_
   intro l9 n9
   walk_at "w"
   have x9:x≠l9:=bM n9 aP
   walk_at "w"
   refine sM (fs':=mFs m l9) (by rw[aW x9];exact aP) tx.bE tx.dX (by simp[mFs]) rfl ?_
   walk_at "w"
   refine k _ ⟨dx,l9,aP,qs,?_,p2.len,λj q t h1 h2=>?_⟩ (λb o e nb=>?_)
   ·rw[aW (Ne.symm x9),aP]
   ·have e:=p2.at_ j q t h1 h2
    have qx:q≠x:=λz=>by rw[z,hx'] at e;cases e
    have q9:q≠l9:=bM n9 (by rw[aW qx];exact e)
    rw[aW qx,aW q9,aW qx]
    exact e
   ·have e1:=sH _ _ e
    have b9:b≠l9:=bM n9 (by rw[aW nb];exact e1)
    rw[aW nb,aW b9,aW nb]
    exact e1
structure PcW(ps:List (Int×Int))(r:Int):Prop where
 pc:∀t∈ps,1<=t.1/\Am t.1/\Am t.2
 up:∀(j:Nat) t u,ps[j]?=some t->ps[j+1]?=some u->t.2<=u.2
 top:∀t∈ps,t.2<=r
theorem PcW.nil{r:Int}:PcW [] r:=⟨λ_ h=>by simp at h,λj t u h=>by simp at h,λ_ h=>by simp at h⟩
theorem PcW.snoc{ps:List (Int×Int)}{r r' a:Int}(w:PcW ps r)(hr:r<=r')(h1:1<=a)(h2:Am a)(h3:Am r'):PcW (ps ++ [(a,r')]) r':=by
 refine⟨λt h=>?_,λj t u ht hu=>?_,λt h=>?_⟩
 ·rcases Rk9.mp h with h|h
  ·exact w.pc t h
  ·rw[Rb9.mp h];exact⟨h1,h2,h3⟩
 ·have hj2:j+1 < (ps ++ [(a,r')]).length:=(qM.mp hu).1
  rw[sI,Rc9] at hj2
  have hj:j < ps.length:=by omega
  rw[Qs9 hj] at ht
  by_cases hj3:j+1 < ps.length
  ·rw[Qs9 hj3] at hu
   exact w.up j t u ht hu
  ·rw[Qt9 (by omega),show j+1 - ps.length=0 by omega] at hu
   cases hu
   exact Rv9 (w.top t (oH ht)) hr
 ·rcases Rk9.mp h with h|h
  ·exact Rv9 (w.top t h) hr
  ·rw[Rb9.mp h];exact Rx9 _
theorem yJ.snoc{ss:List (Int×Int)}{t:Int×Int}(h:yJ H qs ss)(hl:H l=some (.lst xs))(k:cU l H H3)(hT:H3 T=some (.tup [.int t.1,.int t.2])):yJ H3 (qs ++ [T]) (ss ++ [t]):=by
 refine⟨by rw[sI,sI,h.len];rfl,λj q u hq hu=>?_⟩
 by_cases hj:j < qs.length
 ·rw[Qs9 hj] at hq
  rw[Qs9 (by rw[<-h.len];exact hj)] at hu
  have e:=h.at_ j q u hq hu
  refine k q _ e λz=>?_
  rw[z,hl] at e
  cases e
 ·have hj2:j < (qs ++ [T]).length:=(qM.mp hq).1
  rw[sI,Rc9] at hj2
  have e:j=qs.length:=by omega
  subst e
  rw[Qt9 (eA _),Sp9] at hq
  rw[h.len,Qt9 (eA _),Sp9] at hu
  cases hq
  cases hu
  exact hT
theorem cA.aO7{qs:List Addr}(h:cA H p)(e:H c=some (.lst (qs.map V.ref))):c≠p:=λz=>by
 obtain⟨d,cc,q,ms,hp,_⟩:=h.ex
 rw[z,hp] at e
 cases qs with
 |nil=>cases e
 |cons x xs=>cases e
theorem cA.aR8{xs:List V}(h:cA H p)(e:H c=some (.lst xs))(hl:xs.length≠3):c≠p:=λz=>by
 obtain⟨d,cc,q,ms,hp,_⟩:=h.ex
 rw[z,hp] at e
 cases e
 exact hl rfl
theorem cA.isL{H:Hp}(h:cA H p):∃xs,H p=some (.lst xs):=by
 obtain⟨d,cc,q,ms,hp,_⟩:=h.ex
 exact⟨_,hp⟩
theorem aEn(k:cU p H H')(hh:cA H' p)(n:H' c=none):H c=none:=by
 cases hc:H c with
 |none=>rfl
 |some v=>
  obtain⟨xs,e⟩:=hh.isL
  exact absurd rfl (bM n (k c v hc (λz=>bM n e z.symm)))
def aGJ(K:W.Frag):Sp:=λvs H Q _=>∃(p b:Addr) (x y n:Int),vs=[.ref p,.ref b,.int n]/\cA H p/\H b=some (.lst [.int x,.int y])/\1<=x/\x<=50000000000/\1<=y/\y<=50000000000/\1<=n/\n<=12/\
 ∀(s:Addr) (m:MS) H',sW H' s m->m.Good->m.up<=n->m.down<=n->cA H' p->cU p H H'->H s=none->Q (.ref s) H'
theorem aGK{mg:Str->Option Value}{a:jX}(tx:Txt K mg a):bS P w K mg base gZ 2 a.rA a.rB ["_law_hand","_law_by","_law_longest"] (aGJ K):=by
 have bJ:=lZ (P:=P) (w:=w) (base:=base) tx
 refine tx.w9.ok dN (λvs H Q E h=>?_) (λcdv A outer s H vs Q E hr h=>?_)
 ·obtain⟨p,b,x,y,n,rfl,_⟩:=h
  rfl
 ·obtain⟨p,b,x,y,n,rfl ,hh,hb,x0,x1,y0,y1,n0,n1,k⟩:=h
  have hu:=kI hr
  refine aY (aE (aK (i:=3) dN.nd (aO cM aD (aH (bJ) (hr.mono (by decide)) (by rfl) tx.bR tx.bP.kp tx.bQ .nil aZ (aA (Z.pv 0) (aA (Z.pv 2) aC)))))
   (aE (aK (i:=4) dN.nd (aO cM aD (aH (bJ) (hr.mono (by decide)) (by rfl) tx.bR tx.bP.kp tx.bQ .nil aZ (aA (Z.pv 0) (aA (Z.pv 2) aC)))))
   (aE (aK (i:=5) dN.nd (aGn (aO cC (aJ (K':=K) (Z.pv 1) aD) (aH (bJ) (hr.mono (by decide)) (by rfl) tx.bR tx.bP.kp tx.bQ .nil aZ (aA (Z.pv 0) (aA aD aC)))) (aO cC (aJ (K':=K) (Z.pv 1) aD) (aH (bJ) (hr.mono (by decide)) (by rfl) tx.bR tx.bP.kp tx.bQ .nil aZ (aA (Z.pv 0) (aA aD aC)))) (aO cC (aJ (K':=K) (Z.pv 1) aD) (aH (bJ) (hr.mono (by decide)) (by rfl) tx.bR tx.bP.kp tx.bQ .nil aZ (aA (Z.pv 0) (aA aD aC))))))
   (aE (aK (i:=6) dN.nd (aO cC (aJ (K':=K) (Z.pv 1) aD) (aH (bJ) (hr.mono (by decide)) (by rfl) tx.bR tx.bP.kp tx.bQ .nil aZ (aA (Z.pv 0) (aA aD aC)))))
   (aE (aK (i:=7) dN.nd aD)
   (aE (aK (i:=8) dN.nd (tI aC))
   (aE (bW PassesOwn.never rfl (eW (by rfl) tx.gF (aA (aH (bJ) (hr.mono (by decide)) (by rfl) tx.bR tx.bP.kp tx.bQ .nil aZ (aA (Z.pv 0) (aA aD aC))) aC)) (aI (i:=9) dN.nd) (aE (tJ (i:=7) dN.nd rfl (Or.inl rfl) (aO cC (aJ (K':=K) (Z.pv 1) aD) (aH (bJ) (hr.mono (by decide)) (by rfl) tx.bR tx.bP.kp tx.bQ .nil aZ (aA (Z.pv 0) (aA aD aC)))) aDB)
   (aG (hX (jV (K':=K) (Z.pv 8) (aA (jR (aO cC (aJ (K':=K) (Z.pv 1) aD) (aO cM aD (aH (bJ) (hr.mono (by decide)) (by rfl) tx.bR tx.bP.kp tx.bQ .nil aZ (aA (Z.pv 0) (aA aD aC))))) (Z.pv 7)) aC))))))
   (aG (aN (aJE (Z.pv 3) (Z.pv 4) (aJ (K':=K) (Z.pv 5) aD) (aJ (K':=K) (Z.pv 5) aD) (aJ (K':=K) (Z.pv 5) aD) (Z.pv 6) (Z.pv 8))))))))))) ?_
  have bp:b≠p:=hh.aR8 hb (by simp)
  refine aS (σ:=[some (.ref p),some (.ref b),some (.int n),none,none,none,none,none,none,none]) rfl ?_
  walk_at "w"
  refine⟨p,_,rfl,hh,by omega,by omega,λr1 H1 a1 c1 h1 k1 _=>?_⟩
  have hb1:=k1 _ _ hb bp
  walk_at "w"
  refine⟨p,_,rfl,h1,by omega,by omega,λr2 H2 a2 c2 h2 k2 _=>?_⟩
  have hb2:=k2 _ _ hb1 bp
  walk_at "w"
  refine⟨p,_,rfl,h2,by omega,by omega,λr3 H3 a3 c3 h3 k3 _=>?_⟩
  have hb3:=k3 _ _ hb2 bp
  walk_at "w"
  refine⟨p,_,rfl,h3,by omega,by omega,λr4 H4 a4 c4 h4 k4 _=>?_⟩
  have hb4:=k4 _ _ hb3 bp
  walk_at "w"
  refine⟨p,_,rfl,h4,by omega,by omega,λr5 H5 a5 c5 h5 k5 _=>?_⟩
  have hb5:=k5 _ _ hb4 bp
  walk_at "w"
  intro l6 n6
  walk_at "w"
  have hb6:=aQ.new (o:=.lst [.int (y*r3),.int (y*r4),.int (y*r5)]) n6 _ _ hb5
  have h6:=h5.same (aQ.new (o:=.lst [.int (y*r3),.int (y*r4),.int (y*r5)]) n6)
  walk_at "w"
  refine⟨p,_,rfl,h6,by omega,by omega,λr7 H7 a7 c7 h7 k7 _=>?_⟩
  have hb7:=k7 _ _ hb6 bp
  have l6p:l6≠p:=λz=>by obtain⟨_,e⟩:=h5.isL;exact bM n6 e z.symm
  have e7:H7 l6=some (.lst [.int (y*r3),.int (y*r4),.int (y*r5)]):=k7 _ _ aP l6p
  have kk7:cU p H H7:=k1.trans (k2.trans (k3.trans (k4.trans (k5.trans ((aQ.new n6).keep.trans k7)))))
  have g3:0<=y*r3/\y*r3<=250000000000:=⟨Rz9 (by omega) (by omega),Rv9 (Re9 (show r3<=5 by omega) (by omega)) (by omega)⟩
  have g4:0<=y*r4/\y*r4<=250000000000:=⟨Rz9 (by omega) (by omega),Rv9 (Re9 (show r4<=5 by omega) (by omega)) (by omega)⟩
  have g5:0<=y*r5/\y*r5<=250000000000:=⟨Rz9 (by omega) (by omega),Rv9 (Re9 (show r5<=5 by omega) (by omega)) (by omega)⟩
  have g7:0<=x*r7/\x*r7<=250000000000:=⟨Rz9 (by omega) (by omega),Rv9 (Re9 (show r7<=5 by omega) (by omega)) (by omega)⟩
  walk_at "w"
  intro l8 n8
  walk_at "w"
  have h8:=h7.same (aQ.new (o:=.lst []) n8)
  walk_at "w"
  refine⟨p,_,rfl,h8,by omega,by omega,λr9 H9 a9 c9 h9 k9 _=>?_⟩
  have l8p:l8≠p:=λz=>by obtain⟨_,e⟩:=h7.isL;exact bM n8 e z.symm
  have e9:H9 l8=some (.lst []):=k9 _ _ aP l8p
  have hb9:=k9 _ _ (aQ.new n8 _ _ hb7) bp
  have e69:H9 l6=some (.lst [.int (y*r3),.int (y*r4),.int (y*r5)]):=k9 _ _ (aQ.new n8 _ _ e7) l6p
  have kk9:cU p H H9:=kk7.trans ((aQ.new n8).keep.trans k9)
  have n8H:H l8=none:=aEn kk7 h7 n8
  have n6H:H l6=none:=aEn (k1.trans (k2.trans (k3.trans (k4.trans k5)))) h5 n6
  walk_at "w"
  refine⟨by omega,by omega,?_⟩
  refine wM (λi σ' H'=>∃qs ps rate x9,σ'=[some (.ref p),some (.ref b),some (.int n),some (.int (1+r1)),some (.int (1+r2)),some (.ref l6),some (.int (x*r7)),some (.int rate),some (.ref l8),x9]/\H' l8=some (.lst (qs.map V.ref))/\yJ H' qs ps/\ps.length=i/\PcW ps rate/\
    0<=rate/\rate<=(i:Int)*100000000000/\cA H' p/\cU p H H'/\H' b=some (.lst [.int x,.int y])/\H' l6=some (.lst [.int (y*r3),.int (y*r4),.int (y*r5)]))
   ⟨[],[],0,_,rfl,e9,⟨rfl,λj q t h=>by simp at h⟩,rfl,PcW.nil,by omega,by omega,h9,kk9,hb9,e69⟩
   (λi σ' H' hi ⟨qs,ps,rate,x9,e,f1,f2,f3,f4,f5,f6,f7,f8,f9,f0⟩=>?_) (λσ' H' ⟨qs,ps,rate,x9,e,f1,f2,f3,f4,f5,f6,f7,f8,f9,f0⟩=>?_)
  ·subst e
   have i4:i<=3:=by omega
   walk_at "w"
   refine aDO rfl ?_
   walk_at "w"
   refine⟨p,_,rfl,f7,by omega,by omega,λu1 J1 v1 w1 q1 t1 _=>?_⟩
   have g1:0<=y*u1/\y*u1<=100000000000:=⟨Rz9 (by omega) (by omega),Rv9 (Re9 (show u1<=2 by omega) (by omega)) (by omega)⟩
   have l8q:l8≠p:=f7.aO7 f1
   have d1:=t1 _ _ f1 l8q
   have d2:=f2.keep f7.aLb t1
   have d3:=t1 _ _ f9 bp
   have d4:=t1 _ _ f0 l6p
   walk_at "w"
   refine uO (bX.of d1) ?_
   walk_at "w"
   refine⟨p,_,rfl,q1,by omega,by omega,λu2 J2 v2 w2 q2 t2 _=>?_⟩
   have g2:x*1<=x*(1+u2)/\x*(1+u2)<=150000000000:=⟨Re9 (show 1<=1+u2 by omega) (by omega),Rv9 (Re9 (show 1+u2<=3 by omega) (by omega)) (by omega)⟩
   rw[Int.mul_one] at g2
   have dd1:=t2 _ _ d1 l8q
   have dd2:=d2.keep q1.aLb t2
   have dd3:=t2 _ _ d3 bp
   have dd4:=t2 _ _ d4 l6p
   walk_at "w"
   intro T nT
   walk_at "w"
   refine aAj (xs:=qs.map V.ref) (aQ.new nT _ _ dd1) (zF (by rw[bL,f2.len];omega:(qs.map V.ref).length < 1000) (cK (by simp))) ?_
   walk_at "w"
   have hT8:T≠l8:=Ne.symm (bM nT dd1)
   have kz:cU l8 J2 (upd (upd J2 T (.tup [.int (x*(1+u2)),.int (rate+y*u1)])) l8 (.lst (qs.map V.ref ++ [.ref T]))):=(aQ.new nT).keep.trans cU.upd
   refine⟨qs ++ [T],ps ++ [(x*(1+u2),rate+y*u1)],_,_,rfl,?_,dd2.snoc dd1 kz (by rw[aW hT8,aP]),by rw[sI,f3];rfl,f4.snoc (by omega) (by omega) ⟨by omega,by omega⟩ ⟨by omega,by omega⟩,by omega,by omega,?_,λc o hc hcp=>?_,?_,?_⟩
   ·rw[aP,oA];rfl
   ·obtain⟨dd,cc,q,ms,hp,hq,hne,hqp⟩:=q2.ex
    refine⟨⟨dd,cc,q,ms,kz _ _ hp (Ne.symm l8q),kz _ _ hq (λz=>?_),hne,hqp⟩⟩
    rw[z,dd1] at hq
    cases qs with
    |nil=>cases ms with
     |nil=>exact hne rfl
     |cons _ _=>cases hq
    |cons _ _=>cases ms with
     |nil=>exact hne rfl
     |cons _ _=>cases hq
   ·exact kz _ _ (t2 _ _ (t1 _ _ (f8 _ _ hc hcp) hcp) hcp) (bM n8H hc)
   ·exact kz _ _ dd3 (λz=>by rw[z,dd1] at dd3;cases qs with
     |nil=>cases dd3
     |cons _ _=>cases dd3)
   ·exact kz _ _ dd4 (λz=>by rw[z,dd1] at dd4;cases qs with
     |nil=>cases dd4
     |cons _ _=>cases dd4)
  ·subst e
   walk_at "w"
   intro s ns
   walk_at "w"
   have hr9:r9.toNat<=4:=by omega
   refine k s ⟨1+r1,1+r2,y*r3,y*r4,y*r5,x*r7,ps⟩ _ ⟨l8,aP,qs,aQ.new ns _ _ f1,f2.same (aQ.new ns)⟩ ⟨⟨by show 1<=1+r1;omega,by show 1+r1<=12;omega⟩,⟨by show 1<=1+r2;omega,by show 1+r2<=12;omega⟩,⟨g3.1,by show y*r3<=_;omega⟩,⟨g4.1,by show y*r4<=_;omega⟩,⟨g5.1,by show y*r5<=_;omega⟩,⟨g7.1,by show x*r7<=_;omega⟩,⟨by show ps.length<=4;omega,f4.pc,f4.up⟩⟩ (by show 1+r1<=n;omega) (by show 1+r2<=n;omega) (f7.same (aQ.new ns)) (f8.trans (aQ.new ns).keep) (aEn f8 f7 ns)
def aCU(K:W.Frag)(C:Addr):Sp:=λvs H Q _=>∃(s:Addr) (m:MS),vs=[.ref s]/\sW H s m/\m.Good/\∀x H',cO C H' x m->aQ H H'->H x=none->Q (.ref x) H'
theorem aCV{mg:Str->Option Value}{a:jX}(tx:Txt K mg a):bS P w K mg base gZ 7 a.kT a.kU ["_law_spec_here"] (aCU K a.aR):=by
 have aEo:=aCT (P:=P) (w:=w) (base:=base) tx
 refine tx.pP.ok aCN (λvs H Q E h=>?_) (λcdv A outer s H vs Q E hr h=>?_)
 ·obtain⟨s,m,rfl,_⟩:=h
  rfl
 ·obtain⟨s,m,rfl ,hs,hg,k⟩:=h
  have hu:=kI hr
  refine aY (aG (aN (aCe tx.aFN (aEo) (hr.mono (by decide)) (by rfl) tx.aBZ tx.w6 .nil aZ (aA (aJ (K':=K) (Z.pv 0) aD) (aA (aJ (K':=K) (Z.pv 0) aD) (aA (aJ (K':=K) (Z.pv 0) aD) (aA (aJ (K':=K) (Z.pv 0) aD) (aA (aJ (K':=K) (Z.pv 0) aD) (aA (aJ (K':=K) (Z.pv 0) aD) (aA (cZ (rc:=aAV K) aAi (by rfl) tx.nZ uL (aA (aJ (K':=K) (Z.pv 0) aD) aC)) aC)))))))))) ?_
  obtain⟨pl,h1,h2⟩:=hs.ex
  obtain⟨qs,h3,h4⟩:=h2.ex
  refine aS (σ:=[some (.ref s)]) rfl ?_
  walk_at "w"
  refine aDQ (bX.of h3) ?_
  intro l n
  walk_at "w"
  intro x dx nx nd hd
  have sx:aQ H (upd (upd (upd H l (.lst (qs.map V.ref))) dx (.own x)) x (.ins a.aR dx [])):=λb o e=>by
   have e1:=aQ.new (o:=.lst (qs.map V.ref)) n _ _ e
   rw[aW (bM nx e1),aW (bM nd e1)]
   exact e1
  have lx:l≠x:=bM nx aP
  have ld:l≠dx:=bM nd aP
  refine⟨x,dx,l,m,rfl,aP,⟨qs,by rw[aW lx,aW ld,aP],h4.same sx⟩,hg,λH' hM kx=>⟨rfl,?_⟩⟩
  have nxH:H x=none:=(aQ.new n).free nx
  exact k x H' hM (λb o e=>kx _ _ (sx _ _ e) (bM nxH e)) nxH
theorem cA.aRM(hh:cA H p)(n:H c=none):c≠p:=λz=>by
 obtain⟨xs,e⟩:=hh.isL
 exact bM n e z.symm
def aAF:List (Int×Int)->Int
 |[]=>0
 |t::ps=>t.1+aAF ps
def cst:List (Int×Int)->Int->Int
 |[],_=>0
 |t::ps,left=>max 0 (min left t.1)*t.2+cst ps (left - max 0 (min left t.1))
def gn(p:Int):List (Int×Int)->Int
 |[]=>0
 |t::ps=>t.1*max (p - t.2) 0+gn p ps
def loA(p:Int):List (Int×Int)->Int
 |[]=>0
 |t::ps=>(if t.2 < p then t.1 else 0)+loA p ps
def eqA(p:Int):List (Int×Int)->Int
 |[]=>0
 |t::ps=>(if t.2=p then t.1 else 0)+eqA p ps
def Up:List (Int×Int)->Prop
 |[]=>True
 |t::ps=>1<=t.1/\(∀u∈ps,t.2<=u.2)/\Up ps
theorem aMQ{p:Int}:∀{ps:List (Int×Int)},Up ps->0<=gn p ps
 |[],_=>Rx9 _
 |t::ps,h=>by
  have:=aMQ (p:=p) h.2.2
  have h1:0<=t.1*max (p - t.2) 0:=Rz9 (by have:=h.1;omega) (by omega)
  show 0<=t.1*max (p - t.2) 0+gn p ps
  omega
theorem aMR{p:Int}:∀{ps:List (Int×Int)},Up ps->0<=loA p ps/\0<=eqA p ps/\loA p ps+eqA p ps<=aAF ps
 |[],_=>⟨Rx9 _,Rx9 _,Rx9 _⟩
 |t::ps,h=>by
  have:=aMR (p:=p) h.2.2
  have h0:=h.1
  show 0<=(if t.2 < p then t.1 else 0)+loA p ps/\0<=(if t.2=p then t.1 else 0)+eqA p ps/\((if t.2 < p then t.1 else 0)+loA p ps)+((if t.2=p then t.1 else 0)+eqA p ps)<=t.1+aAF ps
  split <;> split <;> omega
theorem aBn{p:Int}:∀{ps:List (Int×Int)},(∀u∈ps,p<=u.2)->gn p ps=0/\loA p ps=0
 |[],_=>⟨rfl,rfl⟩
 |t::ps,h=>by
  have ih:=aBn (p:=p) (ps:=ps) (λu hu=>h u (zE _ hu))
  have h1:=h t (Qr9 ..)
  constructor
  ·show t.1*max (p - t.2) 0+gn p ps=0
   rw[show max (p - t.2) 0=0 by omega,Sq9,ih.1];rfl
  ·show(if t.2 < p then t.1 else 0)+loA p ps=0
   rw[if_neg (by omega),ih.2];rfl
theorem aMS{p:Int}:∀{ps:List (Int×Int)},(∀u∈ps,p < u.2)->eqA p ps=0
 |[],_=>rfl
 |t::ps,h=>by
  have ih:=aMS (p:=p) (ps:=ps) (λu hu=>h u (zE _ hu))
  have h1:=h t (Qr9 ..)
  show(if t.2=p then t.1 else 0)+eqA p ps=0
  rw[if_neg (by omega),ih];rfl
theorem aH4:∀(ps:List (Int×Int)),cst ps 0=0
 |[]=>rfl
 |t::ps=>by
  show max 0 (min 0 t.1)*t.2+cst ps (0 - max 0 (min 0 t.1))=0
  rw[show max 0 (min 0 t.1)=0 by omega,Sz9,Int.sub_zero,aH4 ps];rfl
theorem best{p:Int}:∀{ps:List (Int×Int)}{left:Int},Up ps->0<=left->left<=aAF ps->
  p*left - cst ps left<=gn p ps/\(p*left - cst ps left=gn p ps↔loA p ps<=left/\left<=loA p ps+eqA p ps)
 |[],left,_,h0,h1=>by
  have e:left=0:=by have:left<=0:=h1;omega
  subst e
  show p*0 - 0<=0/\(p*0 - 0=0↔(0:Int)<=0/\(0:Int)<=0+0)
  simp
 |t::ps,left,h,h0,h1=>by
  obtain⟨a,r⟩:=t
  obtain⟨ha,hr,hup⟩:=h
  replace ha:1<=a:=ha
  replace hr:∀u∈ps,r<=u.2:=hr
  replace h1:left<=a+aAF ps:=h1
  have gp:=aMQ (p:=p) hup
  have lp:=aMR (p:=p) hup
  show p*left - (max 0 (min left a)*r+cst ps (left - max 0 (min left a)))<=a*max (p - r) 0+gn p ps/\
   (p*left - (max 0 (min left a)*r+cst ps (left - max 0 (min left a)))=a*max (p - r) 0+gn p ps↔(if r < p then a else 0)+loA p ps<=left/\left<=((if r < p then a else 0)+loA p ps)+((if r=p then a else 0)+eqA p ps))
  by_cases hla:left < a
  ·rw[show max 0 (min left a)=left by omega,Int.sub_self,aH4,Si9,show p*left - left*r=left*(p - r) by rw[Int.mul_comm p left,<-Ts9]]
   by_cases h2:r < p
   ·have e1:left*(p - r) < a*(p - r):=Int.mul_lt_mul_of_pos_right hla (by omega)
    rw[show max (p - r) 0=p - r by omega,if_pos h2,if_neg (by omega)]
    omega
   ·have hz:=aBn (p:=p) (ps:=ps) (λu hu=>by have:=hr u hu;omega)
    rw[show max (p - r) 0=0 by omega,Sq9,hz.1,hz.2,if_neg h2]
    by_cases h3:r=p
    ·rw[if_pos h3,show p - r=0 by omega,Sq9]
     omega
    ·rw[if_neg h3,aMS (p:=p) (ps:=ps) (λu hu=>by have:=hr u hu;omega)]
     by_cases h4:left=0
     ·subst h4;simp
     ·have e1:left*(p - r) < 0:=Int.mul_neg_of_pos_of_neg (by omega) (by omega)
      omega
  ·have ih:=best (p:=p) (ps:=ps) (left:=left - a) hup (by omega) (by omega)
   rw[show max 0 (min left a)=a by omega]
   have e0:p*left - (a*r+cst ps (left - a))=a*(p - r)+(p*(left - a) - cst ps (left - a)):=by
    rw[Ts9,Ts9,Int.mul_comm a p];omega
   rw[e0]
   by_cases h2:r < p
   ·rw[show max (p - r) 0=p - r by omega,if_pos h2,if_neg (by omega)]
    generalize a*(p - r)=w
    obtain⟨i1,i2⟩:=ih
    refine⟨by omega,?_⟩
    constructor
    ·intro h
     have:=i2.mp (by omega)
     omega
    ·intro h
     have:=i2.mpr (by omega)
     omega
   ·have hz:=aBn (p:=p) (ps:=ps) (λu hu=>by have:=hr u hu;omega)
    rw[hz.1,hz.2] at ih
    obtain⟨i1,i2⟩:=ih
    rw[show max (p - r) 0=0 by omega,Sq9,hz.1,hz.2,if_neg h2]
    by_cases h3:r=p
    ·rw[if_pos h3,show p - r=0 by omega,Sq9]
     refine⟨by omega,?_⟩
     constructor
     ·intro h
      have:=i2.mp (by omega)
      omega
     ·intro h
      have:=i2.mpr (by omega)
      omega
    ·have e1:a*(p - r) < 0:=Int.mul_neg_of_pos_of_neg (by omega) (by omega)
     rw[if_neg h3,aMS (p:=p) (ps:=ps) (λu hu=>by have:=hr u hu;omega)]
     omega
theorem aO8:∀{ps:List (Int×Int)},(∀t∈ps,1<=t.1)->(∀(j:Nat) t u,ps[j]?=some t->ps[j+1]?=some u->t.2<=u.2)->Up ps
 |[],_,_=>trivial
 |t::ps,h1,h2=>by
  have hu:Up ps:=aO8 (λu hu=>h1 u (zE _ hu)) (λj t u a b=>h2 (j+1) t u a b)
  refine⟨h1 t (Qr9 ..),?_,hu⟩
  cases ps with
  |nil=>intro u hu;cases hu
  |cons v ps=>
   have hv:t.2<=v.2:=h2 0 t v rfl rfl
   intro u hm
   rcases sZ.mp hm with rfl|hm
   ·exact hv
   ·exact Rv9 hv (hu.2.1 u hm)
theorem aGG.up'{ps:List (Int×Int)}(h:aGG ps):Up ps:=aO8 (λt ht=>(h.pc t ht).1) h.up
theorem aMT{p:Int}:∀(a:List (Int×Int)) (t:Int×Int),gn p (a ++ [t])=gn p a+t.1*max (p - t.2) 0
 |[],t=>by show t.1*max (p - t.2) 0+0=0+t.1*max (p - t.2) 0;omega
 |u::a,t=>by
  show u.1*max (p - u.2) 0+gn p (a ++ [t])=u.1*max (p - u.2) 0+gn p a+t.1*max (p - t.2) 0
  rw[aMT a t];omega
theorem aJg:∀(ps:List (Int×Int)),List.sum (ps.filterMap λt=>some t.1)=aAF ps
 |[]=>rfl
 |t::ps=>by
  rw[Sf9]
  show List.sum (t.1::_)=t.1+aAF ps
  rw[List.sum_cons,aJg ps]
theorem aMU{H:Hp}{qs:List Addr}{ps:List (Int×Int)}{g:TG}{R:List V->Hp->Prop}(f:Int×Int->Option Int)(h1:H pl=some (.lst (qs.map V.ref)))(h2:yJ H qs ps)(hz:ps.length<=4)(hs:∀q t (N:V->Hp->Prop) (N':Hp->Prop),t∈ps->H q=some (.tup [.int t.1,.int t.2])->(∀y,f t=some y->N (.int y) H)->(f t=none->N' H)->g (.ref q) σ₀ H λσ2 H2=>tt σ2 H2 λb H3=>if b=true then te σ2 H3 λy H4=>N y H4 else N' H3)(hd:R ((ps.filterMap f).map V.int) H):nU (Itl K pl) σ₀ g tt te R H:=by
 have hql:qs.length<=4:=by rw[h2.len];exact hz
 refine eB (xs:=qs.map V.ref) (λi ys H'=>H'=H/\ys=((ps.take i).filterMap f).map V.int) ⟨rfl,by simp⟩ (cK (by rw[bL];omega)) (λi ys H' hi ⟨e1,e2⟩=>?_) (λi x ys H' hx ⟨e1,e2⟩=>?_) (λys H' ⟨e1,e2⟩=>?_)
 ·subst e1 e2
  refine⟨bX.of h1,?_⟩
  rw[bL]
  exact Rr9 (List.length_filterMap_le ..) (by rw[Qz9];omega)
 ·subst e1 e2
  rw[pG] at hx
  cases hq:qs[i]? with
  |none=>rw[hq] at hx;cases hx
  |some q=>
   rw[hq] at hx
   cases hx
   have li:i < ps.length:=by rw[<-h2.len];exact(qM.mp hq).1
   have ht:ps[i]?=some ps[i]:=eU li
   have e:=h2.at_ i q _ hq ht
   have hm:=Sc9 li
   generalize ps[i]=t at ht e hm
   refine hs q t (λy H4=>H4=H'/\((ps.take i).filterMap f).map V.int ++ [y]=((ps.take (i+1)).filterMap f).map V.int) (λH3=>H3=H'/\((ps.take i).filterMap f).map V.int=((ps.take (i+1)).filterMap f).map V.int) hm e (λy hy=>⟨rfl,?_⟩) (λhy=>⟨rfl,?_⟩)
   ·rw[Rq9,ht,List.filterMap_append,oA]
    simp[hy]
   ·rw[Rq9,ht,List.filterMap_append,oA]
    simp[hy]
 ·subst e1 e2
  rw[bL,h2.len,Qv9]
  exact hd
def aCW(K:W.Frag)(C:Addr):Sp:=λvs H Q _=>∃(x:Addr) (m:MS) (pr:Int),vs=[.ref x,.int pr]/\cO C H x m/\m.Good/\0<=pr/\pr<=1000000000001/\Q (.int (pr*m.least+gn pr m.pieces)) H
theorem aCX{mg:Str->Option Value}{a:jX}(tx:Txt K mg a):bS P w K mg base gZ 1 a.kW a.kX ["self","price"] (aCW K a.aR):=by
 refine tx.xC.ok gJ (λvs H Q E h=>?_) (λcdv A outer s H vs Q E hr h=>?_)
 ·obtain⟨x,m,pr,rfl,_⟩:=h
  rfl
 ·obtain⟨x,m,pr,rfl ,hm,hg,p0,p1,k⟩:=h
  have hu:=kI hr
  refine aY (aE (aK (i:=2) gJ.nd (aO cC (Z.pv 1) (aU (K':=K) (Z.pv 0) rfl)))
   (aE (bW PassesOwn.never rfl (bO (K':=K) (aU (K':=K) (Z.pv 0) rfl)) (bI (K':=K) (n:=2) rfl (aM (aI (i:=3) gJ.nd) (aM (aI (i:=4) gJ.nd) bH))) (aG (tJ (i:=2) gJ.nd rfl (Or.inl rfl) (aO cC (Z.pv 3) (aL (iI rfl) (by rfl) tx.rX uM (aA (aO hU (Z.pv 1) (Z.pv 4)) (aA aD aC)))) aDB)))
   (aG (aN (Z.pv 2))))) ?_
  obtain⟨dx,pl,hx,hp⟩:=hm.ex
  obtain⟨qs,h1,h2⟩:=hp.ex
  refine aS (σ:=[some (.ref x),some (.int pr),none,none,none]) rfl ?_
  walk_at "w"
  refine bZ hx tx.bE tx.cV rfl ?_
  walk_at "w"
  refine bZ hx tx.bE tx.dX rfl ?_
  refine j8 (bX.of h1) ?_
  refine yV (xs:=qs.map V.ref) (λi σ' H'=>H'=H/\∃y z,σ'=[some (.ref x),some (.int pr),some (.int (pr*m.least+gn pr (m.pieces.take i))),y,z]) ⟨rfl,_,_,by rw[show gn pr (m.pieces.take 0)=0 by simp[gn],Si9]⟩ (λi σ' H' hi ⟨e1,y,z,e⟩=>by subst e1;exact bX.of h1) (λi v σ' H' hv ⟨e1,y,z,e⟩=>?_) (λσ' H' ⟨e1,y,z,e⟩=>?_)
  ·subst e1 e
   rw[pG] at hv
   cases hq:qs[i]? with
   |none=>rw[hq] at hv;cases hv
   |some q=>
    rw[hq] at hv
    cases hv
    have li:i < m.pieces.length:=by rw[<-h2.len];exact(qM.mp hq).1
    have ht:m.pieces[i]?=some m.pieces[i]:=eU li
    have e:=h2.at_ i q _ hq ht
    obtain⟨z1,⟨z2,z3⟩,z4,z5⟩:=hg.pieces.pc _ (Sc9 li)
    generalize m.pieces[i]=t at ht e z1 z2 z3 z4 z5
    refine cP (jQ.of e) rfl ?_
    walk_at "w"
    refine aDO rfl ?_
    walk_at "w"
    refine⟨rfl,some (.int t.1),some (.int t.2),?_⟩
    rw[Rq9,ht]
    show _=[some (V.ref x),some (V.int pr),some (V.int (pr*m.least+gn pr (m.pieces.take i ++ [t]))),_,_]
    rw[aMT,Int.add_assoc]
    rfl
  ·subst e1 e
   walk_at "w"
   rw[bL,h2.len,Qv9]
   exact k
def aKX(K:W.Frag):Sp:=λvs H Q _=>∃(v:V) (t:Addr) (o d on:Int),vs=[v,.ref t,.int on]/\H t=some (.tup [.int o,.int d])/\Q (.bl (decide (o=on) || decide (d=0))) H
theorem uD{mg:Str->Option Value}{a:jX}(tx:Txt K mg a):bS P w K mg base gZ 1 a.aA4 a.aA5 ["machine","state","on"] (aKX K):=by
 refine tx.pQ.ok aKV (λvs H Q E h=>?_) (λcdv A outer s H vs Q E hr h=>?_)
 ·obtain⟨v,t,o,d,on,rfl,_⟩:=h
  rfl
 ·obtain⟨v,t,o,d,on,rfl ,ht,k⟩:=h
  have hu:=kI hr
  refine aY (aG (aN (aHG (mJ (r:=v5 K) (jF hu) (aJ (K':=K) (Z.pv 1) aD) (Z.pv 2) (bY _)) (pE (mJ (r:=v5 K) (jF hu) (aJ (K':=K) (Z.pv 1) aD) aD (bY _)))))) ?_
  refine aS (σ:=[some v,some (.ref t),some (.int on)]) rfl ?_
  walk_at "w"
  refine cW (λh=>?_) (λh=>?_)
  ·rw[decide_eq_true h,Bool.true_or] at k
   exact k
  ·rw[decide_eq_false h,Bool.false_or] at k
   walk_at "w"
   exact k
def tD(m:MS)(o d on:Int):Int×Int:=if o=on then (on,max (d - 1) 0) else if on=1 then (1,m.up - 1) else (0,m.down - 1)
def aEp(K:W.Frag)(C:Addr):Sp:=λvs H Q _=>∃(q:Addr) (m:MS) (t:Addr) (o d on:Int),vs=[.ref q,.ref t,.int on]/\cO C H q m/\H t=some (.tup [.int o,.int d])/\(o=on\/d=0)/\
 ∀T H',aQ H H'->H T=none->H' T=some (.tup [.int (tD m o d on).1,.int (tD m o d on).2])->Q (.ref T) H'
theorem mB{mg:Str->Option Value}{a:jX}(tx:Txt K mg a):bS P w K mg base gZ 2 a.nA a.nB ["machine","state","on"] (aEp K a.aR):=by
 have mC:=uD (P:=P) (w:=w) (base:=base) tx
 refine tx.gX.ok aD6 (λvs H Q E h=>?_) (λcdv A outer s H vs Q E hr h=>?_)
 ·obtain⟨q,m,t,o,d,on,rfl,_⟩:=h
  rfl
 ·obtain⟨q,m,t,o,d,on,rfl ,hm,ht,hmay,k⟩:=h
  have hu:=kI hr
  refine aY (aE (bV (gM (eF (aH (mC) (hr.mono (by decide)) (by rfl) tx.tT tx.pQ.kp tx.tP .nil aZ (aA (Z.pv 0) (aA (Z.pv 1) (aA (Z.pv 2) aC)))))) (aG qP) bD)
   (aE (bV (bA (r:=v5 K) (jF hu) (aJ (K':=K) (Z.pv 1) aD) (Z.pv 2) (bY _)) (aG (aN (jR (Z.pv 2) (aL (iI rfl) (by rfl) tx.rX uM (aA (aO hU (aJ (K':=K) (Z.pv 1) aD) aD) (aA aD aC)))))) bD)
   (aE (bV (bA (r:=v5 K) (jF hu) (Z.pv 2) aD (bY _)) (aG (aN (jR aD (aO hU (aU (K':=K) (Z.pv 0) rfl) aD)))) bD)
   (aG (aN (jR aD (aO hU (aU (K':=K) (Z.pv 0) rfl) aD))))))) ?_
  obtain⟨dx,pl,hq,_⟩:=hm.ex
  refine aS (σ:=[some (.ref q),some (.ref t),some (.int on)]) rfl ?_
  walk_at "w"
  refine⟨_,_,_,_,_,rfl,ht,?_⟩
  walk_at "w"
  rw[show(decide (o=on) || decide (d=0))=true by rcases hmay with h|h <;> simp[h]]
  walk_at "w"
  unfold tD at k
  refine cW (λh=>?_) (λh=>?_)
  ·rw[if_pos h] at k
   walk_at "w"
   intro T nT
   walk_at "w"
   exact k _ _ (aQ.new nT) nT aP
  ·rw[if_neg h] at k
   walk_at "w"
   refine cW (λh1=>?_) (λh1=>?_)
   ·rw[if_pos h1] at k
    walk_at "w"
    refine bZ hq tx.bE tx.vJ rfl ?_
    walk_at "w"
    intro T nT
    walk_at "w"
    exact k _ _ (aQ.new nT) nT aP
   ·rw[if_neg h1] at k
    walk_at "w"
    refine bZ hq tx.bE tx.qD rfl ?_
    walk_at "w"
    intro T nT
    walk_at "w"
    exact k _ _ (aQ.new nT) nT aP
def Bit(o:Int):Prop:=o=0\/o=1
theorem aJh{m:MS}(hg:m.Good){o d on:Int}(ho:Bit on):Bit (tD m o d on).1/\0<=(tD m o d on).2:=by
 obtain⟨u0,u1⟩:=hg.up
 obtain⟨d0,d1⟩:=hg.down
 unfold tD
 split
 ·exact⟨ho,by show 0<=max (d - 1) 0;omega⟩
 ·split
  ·exact⟨.inr rfl,by show 0<=m.up - 1;omega⟩
  ·exact⟨.inl rfl,by show 0<=m.down - 1;omega⟩
theorem aMV(ns:List Int)(j:Nat)(v:Int):(ns.map V.int).set j (.int v)=(ns.set j v).map V.int:=by
 rw[List.map_set]
theorem aOF{n j:Nat}(h:j < n):ixN n (j:Int)=some j:=by
 unfold ixN
 simp
 omega
structure RL{α:Type}(P:Addr->α->Prop)(as:List Addr)(xs:List α):Prop where
 len:as.length=xs.length
 at_:∀(j:Nat) a x,as[j]?=some a->xs[j]?=some x->P a x
theorem RL.nil{α:Type}{P:Addr->α->Prop}:RL P [] []:=⟨rfl,λj a x h=>by simp at h⟩
theorem RL.imp{α:Type}{P P':Addr->α->Prop}{as:List Addr}{xs:List α}(h:RL P as xs)(f:∀a x,P a x->P' a x):RL P' as xs:=⟨h.len,λj a x h1 h2=>f a x (h.at_ j a x h1 h2)⟩
theorem RL.snoc{α:Type}{P:Addr->α->Prop}{as:List Addr}{xs:List α}(h:RL P as xs){a:Addr}{x:α}(hp:P a x):RL P (as ++ [a]) (xs ++ [x]):=by
 refine⟨by rw[sI,sI,h.len];rfl,λj q u hq hu=>?_⟩
 by_cases hj:j < as.length
 ·rw[Qs9 hj] at hq
  rw[Qs9 (by rw[<-h.len];exact hj)] at hu
  exact h.at_ j q u hq hu
 ·have hj2:j < (as ++ [a]).length:=(qM.mp hq).1
  rw[sI,Rc9] at hj2
  have e:j=as.length:=by omega
  subst e
  rw[Qt9 (eA _),Sp9] at hq
  rw[h.len,Qt9 (eA _),Sp9] at hu
  cases hq
  cases hu
  exact hp
def SmV(H:Hp):Nat->V->V->Prop
 |0,_,_=>False
 |j+1,x,y=>(∃i,x=.int i/\y=.int i)\/(∃b,x=.bl b/\y=.bl b)\/(x=.non/\y=.non)\/(∃s,x=.str s/\y=.str s)\/
  ∃(p q:Addr) (xs ys:List V),x=.ref p/\y=.ref q/\((H p=some (.tup xs)/\H q=some (.tup ys))\/(H p=some (.lst xs)/\H q=some (.lst ys)))/\xs.length=ys.length/\ys.length<=1000000/\∀(i:Nat) u v,xs[i]?=some u->ys[i]?=some v->SmV H j u v
theorem SmV.int{j:Nat}(i:Int):SmV H (j+1) (.int i) (.int i):=.inl ⟨i,rfl,rfl⟩
def aEq(o:HO):Prop:=(∃(d c:Int) (q:Addr),o=.lst [.int d,.int c,.ref q])\/∃(C dx:Addr),o=.ins C dx []
def Tr(H H':Hp):Prop:=∀b o,H b=some o->¬aEq o->H' b=some o
theorem Tr.trans(a:Tr H H1)(b:Tr H1 H2):Tr H H2:=λc o e n=>b c o (a c o e n) n
theorem _root_.L2.aQ.tr(s:aQ H H'):Tr H H':=λb o e _=>s b o e
theorem cA.tr(hh:cA H p)(k:cU p H H'):Tr H H':=λb o e n=>k b o e λz=>by
 obtain⟨d,c,q,ms,hp,_⟩:=hh.ex
 rw[z,hp] at e
 cases e
 exact n (.inl ⟨d,c,q,rfl⟩)
theorem aQV(hx:H x=some (.ins C dx []))(k:cU x H H'):Tr H H':=λb o e n=>k b o e λz=>by
 rw[z,hx] at e
 cases e
 exact n (.inr ⟨C,dx,rfl⟩)
def Tk(H H':Hp):Prop:=∀b xs,H b=some (.tup xs)->H' b=some (.tup xs)
theorem Tk.trans(a:Tk H H1)(b:Tk H1 H2):Tk H H2:=λc o e=>b c o (a c o e)
theorem aQW:¬aEq (.tup xs):=λz=>by rcases z with ⟨_,_,_,e⟩|⟨_,_,e⟩ <;> cases e
theorem aJi(h:fs≠[]):¬aEq (.ins C dx fs):=λz=>by
 rcases z with ⟨_,_,_,e⟩|⟨_,_,e⟩
 ·cases e
 ·cases e;exact h rfl
theorem aGL{xs:List V}(h:xs.length≠3):¬aEq (.lst xs):=λz=>by
 rcases z with ⟨_,_,_,e⟩|⟨_,_,e⟩
 ·cases e;exact h rfl
 ·cases e
theorem pC{qs:List Addr}:¬aEq (.lst (qs.map V.ref)):=λz=>by
 rcases z with ⟨_,_,_,e⟩|⟨_,_,e⟩
 ·cases qs with
  |nil=>cases e
  |cons x xs=>cases e
 ·cases e
theorem Tr.tk(s:Tr H H'):Tk H H':=λb xs e=>s b _ e aQW
theorem _root_.L2.aQ.tk(s:aQ H H'):Tk H H':=λb xs e=>s b _ e
theorem aMW{H:Hp}{l:Addr}{xs ys:List V}(h:H l=some (.lst xs)):Tk H (upd H l (.lst ys)):=λb zs e=>by
 have n:b≠l:=λz=>by rw[z,h] at e;cases e
 rw[aW n];exact e
def del(l:Addr)(H:Hp):Hp:=λb=>if b=l then none else H b
theorem aJj{H:Hp}(n:b≠l):del l H b=H b:=by unfold del;rw[if_neg n]
theorem aQX:aQ (del l H) H:=λb o e=>by
 unfold del at e
 split at e
 ·cases e
 ·exact e
theorem aO9:del l H l=none:=by unfold del;rw[if_pos rfl]
theorem qG(e:H b=some o)(n:b≠l):del l H b=some o:=by rw[aJj n];exact e
theorem Tr.del(s:Tr H H'):Tr (del l H) (del l H'):=λb o e n=>by
 by_cases hb:b=l
 ·subst hb;rw[aO9] at e;cases e
 ·rw[aJj hb] at e ⊢;exact s b o e n
theorem yJ.tr{ps:List (Int×Int)}(h:yJ H qs ps)(s:Tk H H'):yJ H' qs ps:=⟨h.len,λj q t h1 h2=>s _ _ (h.at_ j q t h1 h2)⟩
theorem aB1.tr{ps:List (Int×Int)}(h:aB1 H p ps)(s:Tr H H'):aB1 H' p ps:=by
 obtain⟨qs,h1,h2⟩:=h.ex
 exact⟨qs,s _ _ h1 pC,h2.tr s.tk⟩
theorem sW.tr(h:sW H p m)(s:Tr H H'):sW H' p m:=by
 obtain⟨pl,h1,h2⟩:=h.ex
 exact⟨pl,s _ _ h1 (aGL (by simp)),h2.tr s⟩
theorem cO.tr(h:cO C H p m)(s:Tr H H'):cO C H' p m:=by
 obtain⟨dx,pl,h1,h2⟩:=h.ex
 exact⟨dx,pl,s _ _ h1 (aJi (by simp[mFs])),h2.tr s⟩
structure SS where
 cap:Int
 into:Int
 out:Int
 takes:Int
 gives:Int
structure SS.Good(s:SS):Prop where
 cap:0<=s.cap/\s.cap<=8
 into:0<=s.into/\s.into<=8
 out:0<=s.out/\s.out<=8
 takes:Am s.takes
 gives:Am s.gives
def Lv(s:SS)(l n:Int):Prop:=0<=n/\n<=s.cap/\l - s.out<=n/\n<=l+s.into
instance (s:SS) (l n:Int):Decidable (Lv s l n):=by unfold Lv;infer_instance
def pf(s:SS):Int->List Int->Nat->V
 |_,[],_=>.non
 |l,n::r,i=>if Lv s l n then pf s n r (i+1) else .int i
def dr(s:SS)(l n:Int):Int:=(if l < n then s.takes else s.gives)*(n - l)
def pw(s:SS):Int->List Int->List Int->Int
 |l,p::ps,n::ns=>p*dr s l n+pw s n ps ns
 |_,_,_=>0
theorem aJU{lo n:Int}{k:Nat}:n∈upL lo k↔lo<=n/\n < lo+(k:Int):=by
 unfold upL
 rw[Qy9]
 constructor
 ·rintro ⟨j,hj,rfl⟩
  have:=Ry9.mp hj
  omega
 ·rintro ⟨h1,h2⟩
  exact⟨(n - lo).toNat,Ry9.mpr (by omega),by omega⟩
theorem aH5(n:Int):∀xs:List Int,inV (.int n) (xs.map V.int)=decide (n∈xs)
 |[]=>rfl
 |x::xs=>by
  show(eqV (.int x) (.int n) || inV (.int n) (xs.map V.int))=_
  rw[aH5 n xs,show eqV (.int x) (.int n)=decide (x=n) from rfl]
  rw[Bool.eq_iff_iff]
  simp only[Bool.or_eq_true,decide_eq_true_eq,sZ]
  exact⟨λh=>h.elim (λz=>.inl z.symm) .inr,λh=>h.elim (λz=>.inl z.symm) .inr⟩
def sFs(s:SS):List (Str×V):=[("cap",.int s.cap),("into",.int s.into),("out",.int s.out),("takes",.int s.takes),("gives",.int s.gives)]
structure aGM(H:Hp)(a:Addr)(s:SS):Prop where
 at_:H a=some (.lst [.int s.cap,.int s.into,.int s.out,.int s.takes,.int s.gives])
structure zB(C:Addr)(H:Hp)(x:Addr)(s:SS):Prop where
 ex:∃dx,H x=some (.ins C dx (sFs s))
theorem aGM.tr(h:aGM H a s)(e:Tr H H'):aGM H' a s:=⟨e _ _ h.at_ (aGL (by simp))⟩
theorem zB.tr(h:zB C H a s)(e:Tr H H'):zB C H' a s:=by
 obtain⟨dx,q⟩:=h.ex
 exact⟨dx,e _ _ q (aJi (by simp[sFs]))⟩
def StA(H:Hp)(q:Addr)(t:Int×Int):Prop:=H q=some (.tup [.int t.1,.int t.2])
structure aH6(H:Hp)(t:Addr)(ss:List (Int×Int)):Prop where
 ex:∃qs,H t=some (.tup (qs.map V.ref))/\RL (StA H) qs ss
abbrev Ps:=List (Int×Int)×Int
structure mG(H:Hp)(a:Addr)(P:Ps):Prop where
 ex:∃t,H a=some (.tup [.ref t,.int P.2])/\aH6 H t P.1
structure Hr where
 ons:List Int
 outs:List Int
 lev:Int
structure aH7(H:Hp)(a:Addr)(h:Hr):Prop where
 ex:∃t u,H a=some (.tup [.ref t,.ref u,.int h.lev])/\H t=some (.tup (h.ons.map V.int))/\H u=some (.tup (h.outs.map V.int))
structure yK(H:Hp)(a:Addr)(hs:List Hr):Prop where
 ex:∃qs,H a=some (.lst (qs.map V.ref))/\RL (aH7 H) qs hs
structure aGN(H:Hp)(a:Addr)(hs:List Ps):Prop where
 ex:∃qs,H a=some (.lst (qs.map V.ref))/\RL (mG H) qs hs
theorem aH6.tk{ss:List (Int×Int)}(h:aH6 H t ss)(s:Tk H H'):aH6 H' t ss:=by
 obtain⟨qs,h1,h2⟩:=h.ex
 exact⟨qs,s _ _ h1,h2.imp λa x z=>s _ _ z⟩
theorem mG.tk(h:mG H a P)(s:Tk H H'):mG H' a P:=by
 obtain⟨t,h1,h2⟩:=h.ex
 exact⟨t,s _ _ h1,h2.tk s⟩
theorem aH7.tk(x:aH7 H a h)(s:Tk H H'):aH7 H' a h:=by
 obtain⟨t,u,h1,h2,h3⟩:=x.ex
 exact⟨t,u,s _ _ h1,s _ _ h2,s _ _ h3⟩
theorem yK.tr{H H':Hp}{a:Addr}{hs:List Hr}(x:yK H a hs)(s:Tr H H'):yK H' a hs:=by
 obtain⟨qs,h1,h2⟩:=x.ex
 exact⟨qs,s _ _ h1 pC,h2.imp λa x z=>z.tk s.tk⟩
theorem aGN.tr{H H':Hp}{a:Addr}{hs:List Ps}(x:aGN H a hs)(s:Tr H H'):aGN H' a hs:=by
 obtain⟨qs,h1,h2⟩:=x.ex
 exact⟨qs,s _ _ h1 pC,h2.imp λa x z=>z.tk s.tk⟩
structure WS where
 specs:List MS
 store:Option SS
 lack:Int
 x:Int
 y:Int
 wide:Int
structure WS.Good(W:WS):Prop where
 specs:∀m∈W.specs,m.Good
 len:W.specs.length<=6
 store:∀s,W.store=some s->s.Good
 lack:Am W.lack
 x:1<=W.x/\W.x<=50000000000
 y:1<=W.y/\W.y<=50000000000
 wide:W.wide=0\/W.wide=1
structure aDv(H:Hp)(l:Addr)(ms:List MS):Prop where
 ex:∃qs,H l=some (.lst (qs.map V.ref))/\RL (sW H) qs ms
structure jC(C:Addr)(H:Hp)(l:Addr)(ms:List MS):Prop where
 ex:∃qs,H l=some (.lst (qs.map V.ref))/\RL (cO C H) qs ms
def aOG(H:Hp)(v:V):Option SS->Prop
 |none=>v=.non
 |some s=>∃a,v=.ref a/\aGM H a s
def aMX(C:Addr)(H:Hp)(v:V):Option SS->Prop
 |none=>v=.non
 |some s=>∃a,v=.ref a/\zB C H a s
theorem aDv.tr(h:aDv H l ms)(s:Tr H H'):aDv H' l ms:=by
 obtain⟨qs,h1,h2⟩:=h.ex
 exact⟨qs,s _ _ h1 pC,h2.imp λa x z=>z.tr s⟩
theorem jC.tr(h:jC C H l ms)(s:Tr H H'):jC C H' l ms:=by
 obtain⟨qs,h1,h2⟩:=h.ex
 exact⟨qs,s _ _ h1 pC,h2.imp λa x z=>z.tr s⟩
theorem aOG.tr:∀{o:Option SS},aOG H v o->Tr H H'->aOG H' v o
 |none,h,_=>h
 |some s,⟨a,e,h⟩,t=>⟨a,e,h.tr t⟩
theorem aMX.tr:∀{o:Option SS},aMX C H v o->Tr H H'->aMX C H' v o
 |none,h,_=>h
 |some s,⟨a,e,h⟩,t=>⟨a,e,h.tr t⟩
structure aGO(H:Hp)(a:Addr)(W:WS):Prop where
 ex:∃ls st b,H a=some (.lst [.ref ls,st,.int W.lack,.ref b,.int W.wide])/\aDv H ls W.specs/\aOG H st W.store/\H b=some (.lst [.int W.x,.int W.y])
theorem aGO.tr(h:aGO H a W)(s:Tr H H'):aGO H' a W:=by
 obtain⟨ls,st,b,h1,h2,h3,h4⟩:=h.ex
 exact⟨ls,st,b,s _ _ h1 (aGL (by simp)),h2.tr s,h3.tr s,s _ _ h4 (aGL (by simp))⟩
def wFs(lm:Addr)(st:V)(k:Int):List (Str×V):=[("machines",.ref lm),("store",st),("lack",.int k)]
structure dP(CW CM CS:Addr)(H:Hp)(w:Addr)(W:WS):Prop where
 ex:∃dx lm st,H w=some (.ins CW dx (wFs lm st W.lack))/\jC CM H lm W.specs/\aMX CS H st W.store
theorem dP.tr(h:dP CW CM CS H w W)(s:Tr H H'):dP CW CM CS H' w W:=by
 obtain⟨dx,lm,st,h1,h2,h3⟩:=h.ex
 exact⟨dx,lm,st,s _ _ h1 (aJi (by simp[wFs])),h2.tr s,h3.tr s⟩
def VS(s:Int×Int):Prop:=Bit s.1/\0<=s.2
def yL:List MS->List (Int×Int)->List Int->List (Int×Int)
 |m::ms,s::ss,o::os=>tD m s.1 s.2 o::yL ms ss os
 |_,_,_=>[]
theorem uE:∀{ms:List MS}{ss:List (Int×Int)}{os:List Int},ss.length=ms.length->os.length=ms.length->(yL ms ss os).length=ms.length
 |[],_,_,_,_=>by simp[yL]
 |m::ms,s::ss,o::os,h1,h2=>by
  show(tD m s.1 s.2 o::yL ms ss os).length=_
  rw[Qx9,uE (by simpa using h1) (by simpa using h2),Qx9]
 |_::_,[],_,h,_=>by cases h
 |_::_,_::_,[],_,h=>by cases h
theorem aEr:∀{ms:List MS}{ss:List (Int×Int)}{os:List Int}{j:Nat}{m:MS}{s:Int×Int}{o:Int},ms[j]?=some m->ss[j]?=some s->os[j]?=some o->(yL ms ss os)[j]?=some (tD m s.1 s.2 o)
 |m::ms,s::ss,o::os,0,_,_,_,h1,h2,h3=>by cases h1;cases h2;cases h3;rfl
 |m::ms,s::ss,o::os,j+1,_,_,_,h1,h2,h3=>by
  show(yL ms ss os)[j]?=_
  exact aEr h1 h2 h3
 |[],_,_,_,_,_,_,h,_,_=>by simp at h
 |_::_,[],_,_,_,_,_,_,h,_=>by simp at h
 |_::_,_::_,[],_,_,_,_,_,_,h=>by simp at h
theorem aKY{ms:List MS}{ss:List (Int×Int)}{os:List Int}(h1:ss.length=ms.length)(h2:os.length=ms.length){i:Nat}{m:MS}{s:Int×Int}{o:Int}(g1:ms[i]?=some m)(g2:ss[i]?=some s)(g3:os[i]?=some o) :
  (yL ms ss os).take (i+1)=(yL ms ss os).take i ++ [tD m s.1 s.2 o]:=by
 rw[Rq9,aEr g1 g2 g3]
 rfl
def May(ss:List (Int×Int))(os:List Int):Prop:=∀(j:Nat) (s:Int×Int) (o:Int),ss[j]?=some s->os[j]?=some o->s.1=o\/s.2=0
def yM(W:WS)(l:Int):Prop:=match W.store with|none=>l=0|some s=>0<=l/\l<=s.cap
def LvW(W:WS)(l n:Int):Prop:=match W.store with|none=>n=0|some s=>Lv s l n
structure vW(W:WS)(P:Ps):Prop where
 len:P.1.length=W.specs.length
 vs:∀s∈P.1,VS s
 lev:yM W P.2
def aJV(m:MS)(on out:Int):Prop:=(on=0->out=0)/\(on≠0->m.least<=out/\out<=m.least+aAF m.pieces)
structure qH(W:WS)(P:Ps)(h:Hr):Prop where
 ons:h.ons.length=W.specs.length
 outs:h.outs.length=W.specs.length
 bits:∀o∈h.ons,Bit o
 may:May P.1 h.ons
 out:∀(j:Nat) m on out,W.specs[j]?=some m->h.ons[j]?=some on->h.outs[j]?=some out->aJV m on out
 lev:LvW W P.2 h.lev
def nxt(W:WS)(P:Ps)(h:Hr):Ps:=(yL W.specs P.1 h.ons,h.lev)
theorem LvW.ok{W:WS}{l n:Int}(h:LvW W l n):yM W n:=by
 unfold LvW at h
 unfold yM
 cases e:W.store with
 |none=>rw[e] at h;exact h
 |some s=>rw[e] at h;exact⟨h.1,h.2.1⟩
theorem qH.nxt{W:WS}{P:Ps}{h:Hr}(g:W.Good)(p:vW W P)(x:qH W P h):vW W (nxt W P h):=by
 refine⟨uE p.len x.ons,λs hs=>?_,x.lev.ok⟩
 obtain⟨j,hj⟩:=Rh9 hs
 have hl:=uE p.len x.ons
 have hj':j < W.specs.length:=by rw[<-hl];exact(qM.mp hj).1
 have g1:W.specs[j]?=some W.specs[j]:=eU hj'
 have g2:P.1[j]?=some (P.1[j]'(by rw[p.len];exact hj')):=eU _
 have g3:h.ons[j]?=some (h.ons[j]'(by rw[x.ons];exact hj')):=eU _
 replace hj:(yL W.specs P.1 h.ons)[j]?=some s:=hj
 rw[aEr g1 g2 g3] at hj
 cases hj
 exact aJh (g.specs _ (Sc9 hj')) (x.bits _ (oH g3))
def dQ(W:WS):Ps->List Hr->Prop
 |_,[]=>True
 |P,h::hs=>qH W P h/\dQ W (nxt W P h) hs
def aBo(W:WS):Ps->List Hr->Ps
 |P,[]=>P
 |P,h::hs=>aBo W (nxt W P h) hs
def aEs(W:WS):Ps->List Hr->List Ps
 |P,[]=>[P]
 |P,h::hs=>P::aEs W (nxt W P h) hs
theorem aB2(W:WS):∀(P:Ps) (hs:List Hr) (h:Hr),aBo W P (hs ++ [h])=nxt W (aBo W P hs) h
 |_,[],_=>rfl
 |P,g::hs,h=>aB2 W (nxt W P g) hs h
theorem dQ.snoc{W:WS}:∀{P:Ps}{hs:List Hr}{h:Hr},dQ W P hs->qH W (aBo W P hs) h->dQ W P (hs ++ [h])
 |_,[],_,_,x=>⟨x,trivial⟩
 |P,g::hs,h,p,x=>⟨p.1,dQ.snoc p.2 x⟩
theorem aFR(W:WS):∀(P:Ps) (hs:List Hr) (h:Hr),aEs W P (hs ++ [h])=aEs W P hs ++ [nxt W (aBo W P hs) h]
 |_,[],_=>rfl
 |P,g::hs,h=>by
  show P::aEs W (nxt W P g) (hs ++ [h])=P::(aEs W (nxt W P g) hs ++ [nxt W (aBo W P (g::hs)) h])
  rw[aFR W (nxt W P g) hs h]
  rfl
theorem dQ.pos{W:WS}(g:W.Good):∀{P:Ps}{hs:List Hr},vW W P->dQ W P hs->vW W (aBo W P hs)
 |_,[],p,_=>p
 |P,h::hs,p,x=>dQ.pos (P:=nxt W P h) (hs:=hs) g (x.1.nxt g p) x.2
theorem dQ.take:∀{P:Ps}{hs:List Hr}{i:Nat}{h:Hr},dQ W P hs->hs[i]?=some h->dQ W P (hs.take i)/\qH W (aBo W P (hs.take i)) h
 |P,g::hs,0,h,x,e=>by cases e;exact⟨trivial,x.1⟩
 |P,g::hs,i+1,h,x,e=>by
  have:=dQ.take (i:=i) (h:=h) x.2 e
  exact⟨⟨x.1,this.1⟩,this.2⟩
 |_,[],_,_,_,e=>by simp at e
theorem take_snoc{α:Type}{l:List α}{i:Nat}{x:α}(h:l[i]?=some x):l.take (i+1)=l.take i ++ [x]:=by
 rw[Rq9,h];rfl
theorem RL.get{α:Type}{P:Addr->α->Prop}{as:List Addr}{xs:List α}(h:RL P as xs){i:Nat}(hv:(as.map V.ref)[i]?=some v):∃a x,as[i]?=some a/\v=.ref a/\xs[i]?=some x/\P a x:=by
 rw[pG] at hv
 cases hq:as[i]? with
 |none=>rw[hq] at hv;cases hv
 |some a=>
  rw[hq] at hv
  cases hv
  have li:i < xs.length:=by rw[<-h.len];exact(qM.mp hq).1
  have hx:xs[i]?=some xs[i]:=eU li
  exact⟨a,xs[i],rfl,rfl,hx,h.at_ i a _ hq hx⟩
theorem RL.ix{α:Type}{P:Addr->α->Prop}{as:List Addr}{xs:List α}(h:RL P as xs){i:Nat}(hi:i < xs.length):∃a,as[i]?=some a/\P a xs[i]:=by
 have li:i < as.length:=by rw[h.len];exact hi
 have ha:as[i]?=some as[i]:=eU li
 exact⟨as[i],ha,h.at_ i _ _ ha (eU hi)⟩
theorem aOH{as:List Addr}{i:Nat}(h:as[i]?=some a):atI (as.map V.ref) (i:Int)=some (.ref a):=m6 (by rw[pG,h];rfl)
theorem aGP{ns:List Int}{i:Nat}{n:Int}(h:ns[i]?=some n):atI (ns.map V.int) (i:Int)=some (.int n):=m6 (by rw[pG,h];rfl)
theorem gG{ns:List Int}{i:Nat}(h:(ns.map V.int)[i]?=some x):∃n,ns[i]?=some n/\x=.int n:=by
 rw[pG] at h
 cases hq:ns[i]? with
 |none=>rw[hq] at h;cases h
 |some n=>rw[hq] at h;cases h;exact⟨n,rfl,rfl⟩
theorem aJk(np:H p=none)(s:aQ H H1)(k:cU p H1 H2):aQ H H2:=λb o e=>k _ _ (s _ _ e) (bM np e)
theorem aMY{H H1:Hp}{l:Addr}{o:HO}(n:H l=none)(s:aQ H H1):aQ H (upd H1 l o):=λb u e=>by rw[aW (bM n e)];exact s b u e
theorem aMZ(W:WS)(P:Ps)(hs:List Hr):(aEs W P hs).length=hs.length+1:=by
 induction hs generalizing P with
 |nil=>rfl
 |cons h hs ih=>show(P::aEs W (nxt W P h) hs).length=_;rw[Qx9,ih,Qx9]
theorem RL.take{α:Type}{P:Addr->α->Prop}{as:List Addr}{xs:List α}(h:RL P as xs)(i:Nat):RL P (as.take i) (xs.take i):=by
 refine⟨by rw[Qz9,Qz9,h.len],λj a x h1 h2=>?_⟩
 rw[List.getElem?_take] at h1 h2
 split at h1
 ·rename_i hj
  rw[if_pos hj] at h2
  exact h.at_ j a x h1 h2
 ·cases h1
def aCY(K:W.Frag)(C:Addr):Sp:=λvs H Q _=>∃(p:Addr) (ms:List MS),vs=[.ref p]/\jC C H p ms/\ms.length<=6/\∀H',aQ H H'->Q (.bl true) H'
theorem aCZ{mg:Str->Option Value}{a:jX}(tx:Txt K mg a):bS P w K mg base gZ 1 a.kY a.kZ ["thing"] (aCY K a.aR):=by
 refine tx.pR.ok aCO (λvs H Q E h=>?_) (λcdv A outer s H vs Q E hr h=>?_)
 ·obtain⟨p,ms,rfl,_⟩:=h
  rfl
 ·obtain⟨p,ms,rfl ,hp,hl,k⟩:=h
  have hu:=kI hr
  refine aY (aE (bV (kO (wQ (gM (eF (aL (rc:=aGj K) mI (by rfl) tx.cQ eV (aA (Z.pv 0) (aA (pK (v:=.ty "list") (by rfl) tx.nZ uL rfl) aC))))) (tH (bA aDE (aL (rc:=wK K) dC (by rfl) tx.lX kL (aA (Z.pv 0) aC)) (aAk (n:=6) (by rfl) tx.eJ) (bY _))))) (aG (aN pJ)) bD)
   (aG (aN (aL (rc:=aMb K) (aBR rfl) (by rfl) tx.aCE aIL (aA (bU (k:=1) (idx:=[]) (N:=["machine"]) (cR (sc:=aF dY) (NX:=["thing"]) rfl rfl rfl (by decide +kernel)) rfl (bO (K':=K) (Z.pv 0)) (λ_ _ _ _=>(aI (i:=0) (show(["machine"]:List Str).Nodup by decide +kernel))) (dJ (by decide)) (λ_ _ _ _=>bT) (λ_ _ _ _=>(aL (rc:=aGj K) mI (by rfl) tx.cQ eV (aA (Z.pv 0) (aA (aDS (v:=.ref a.aR) (by rfl) tx.aBZ rfl) aC))))) aC))))) ?_
  obtain⟨qs,h1,h2⟩:=hp.ex
  have hql:qs.length<=6:=by rw[h2.len];exact hl
  refine aS (σ:=[some (.ref p)]) rfl ?_
  walk_at "w"
  refine aAh (aHY (.lst h1)) ?_
  walk_at "w"
  refine uN (λh=>by simp at h) (λ_=>?_)
  walk_at "w"
  refine cW (λh=>by rw[bL] at h;omega) (λ_=>?_)
  walk_at "w"
  refine j8 (bX.of h1) ?_
  refine aBP (λ_=>.bl true) (bX.of h1) (cK (by rw[bL];omega)) (λx N N' hxm hN=>?_) ?_
  ·obtain⟨i,hi⟩:=Rh9 hxm
   obtain⟨q,m,_,rfl,_,hm⟩:=h2.get hi
   obtain⟨dx,pl,hx,_⟩:=hm.ex
   walk_at "w"
   refine aAh (aJH tx.i_Machine tx.bE hx) ?_
   exact hN
  ·intro l1 n1
   walk_at "w"
   refine aGk (bX.of aP) (λx hx=>by obtain⟨_,_,rfl⟩:=Qy9.mp hx;rfl) ?_
   exact k _ (aQ.new n1)
def aE7(K:PySem.W.Frag)(CW CM CS:Addr):Sp:=λvs H Q _=>∃(x dx lm:Addr) (st:V) (W:WS),vs=[.ref x,.ref lm,st,.int W.lack]/\H x=some (.ins CW dx [])/\jC CM H lm W.specs/\aMX CS H st W.store/\W.specs.length<=6/\Am W.lack/\
 ∀H',dP CW CM CS H' x W->cU x H H'->Q .non H'
theorem aE8{mg:Str->Option Value}{a:jX}(tx:Txt K mg a):bS P w K mg base gZ 3 a.oO a.oP ["self","machines","store","lack"] (aE7 K a.cJ a.aR a.cE):=by
 have aEt:=aCZ (P:=P) (w:=w) (base:=base) tx
 have eT:=vL (P:=P) (w:=w) (base:=base) tx
 refine tx.aA8.ok m7 (λvs H Q E h=>?_) (λcdv A outer s H vs Q E hr h=>?_)
 ·obtain⟨x,dx,lm,st,W,rfl,_⟩:=h
  rfl
 ·obtain⟨x,dx,lm,st,W,rfl ,hx,hm,hs,hl,ha,k⟩:=h
  have hu:=kI hr
  refine aY (aE (aK (i:=4) m7.nd (aHG (mJ aGl (Z.pv 2) eE (bY _)) (pE (aL (rc:=aGj K) mI (by rfl) tx.cQ eV (aA (Z.pv 2) (aA (aDS (v:=.ref a.cE) (by rfl) tx.aJQ rfl) aC))))))
   (aE (bW PassesOwn.never rfl (eO (K':=K) (by rfl) tx.cN (aA (aGn (aH (aEt) (hr.mono (by decide)) (by rfl) tx.xF tx.pR.kp tx.xE .nil aZ (aA (Z.pv 1) aC)) (Z.pv 4) (aH (eT) (hr.mono (by decide)) (by rfl) tx.fY tx.eS.kp tx.fX .nil aZ (aA (Z.pv 3) aC))) aC)) (bI (K':=K) (n:=2) rfl (aM (aI (i:=5) m7.nd) (aM (aI (i:=6) m7.nd) bH))) (aG (bV (gM (eF (Z.pv 6))) (aG qP) bD)))
   (aE (eX (K':=K) (Z.pv 0) (cZ (rc:=aAV K) aAi (by rfl) tx.nZ uL (aA (Z.pv 1) aC)) rfl)
   (aE (eX (K':=K) (Z.pv 0) (Z.pv 2) rfl)
   (aG (eX (K':=K) (Z.pv 0) (Z.pv 3) rfl)))))) ?_
  refine aS (σ:=[some (.ref x),some (.ref lm),some st,some (.int W.lack),none,none,none]) rfl ?_
  refine aJD (λσ' H'=>σ'=[some (.ref x),some (.ref lm),some st,some (.int W.lack),some (.bl true),none,none]/\H'=H) (λN hN=>?_) ?_
  ·cases e:W.store with
   |none=>
    rw[e] at hs
    replace hs:st=.non:=hs
    subst hs
    walk_at "w"
    exact hN _ _ ⟨rfl,rfl⟩
   |some s=>
    rw[e] at hs
    obtain⟨b,rfl,hb⟩:=hs
    obtain⟨db,hb'⟩:=hb.ex
    walk_at "w"
    refine aAh (aJH tx.i_Store tx.vK hb') ?_
    walk_at "w"
    exact hN _ _ ⟨rfl,rfl⟩
  rintro σ' H' ⟨rfl,rfl⟩
  walk_at "w"
  refine⟨lm,W.specs,rfl,hm,hl,λH1 s1=>?_⟩
  walk_at "w"
  refine⟨_,_,rfl,.int _,?_⟩
  rw[aAD ha]
  walk_at "w"
  intro l1 n1
  walk_at "w"
  have s2:=s1.trans (aQ.new (o:=.lst [.bl true,.bl true,.bl true]) n1)
  have e2:(upd H1 l1 (.lst [.bl true,.bl true,.bl true])) l1=some (.lst [.bl true,.bl true,.bl true]):=aP
  generalize upd H1 l1 (.lst [.bl true,.bl true,.bl true])=H2 at s2 e2 ⊢
  refine aAW (bX.of e2) ?_
  refine oJ (xs:=[.bl true,.bl true,.bl true]) (λi σ' H3=>∃y z,σ'=[some (.ref x),some (.ref lm),some st,some (.int W.lack),some (.bl true),y,z]/\aQ H2 H3)
   ⟨_,_,rfl,aQ.refl _⟩ (λi σ' H3 hi ⟨y,z,e,s⟩=>bX.of (s _ _ e2)) (λi v σ' H3 T hv ⟨y,z,e,s⟩ nT=>?_) (λσ' H3 ⟨y,z,e,s⟩=>?_)
  ·subst e
   have ev:v=.bl true:=by
    have:=oH hv
    simpa using this
   subst ev
   refine cP (jQ.of aP) rfl ?_
   walk_at "w"
   exact⟨_,_,rfl,s.trans (aQ.new nT)⟩
  ·subst e
   have sH:aQ H' H3:=s2.trans s
   have hx':=sH _ _ hx
   obtain⟨qs,p1,p2⟩:=(hm.tr sH.tr).ex
   walk_at "w"
   refine aDQ (ys:=qs.map V.ref) (bX.of p1) ?_
   intro l9 n9
   have s9:=aQ.new (o:=.lst (qs.map V.ref)) n9
   have x9:=s9 _ _ hx'
   walk_at "w"
   refine sM (fs':=[("machines",.ref l9)]) x9 tx.dA tx.cB (by simp) rfl ?_
   walk_at "w"
   refine sM (fs':=[("machines",.ref l9),("store",st)]) aP tx.dA tx.fA (by simp) rfl ?_
   rw[uI]
   walk_at "w"
   refine sM (fs':=wFs l9 st W.lack) aP tx.dA tx.jB (by simp) rfl ?_
   rw[uI]
   walk_at "w"
   have kx:cU x (upd H3 l9 (.lst (qs.map V.ref))) (upd (upd H3 l9 (.lst (qs.map V.ref))) x (.ins a.cJ dx (wFs l9 st W.lack))):=cU.upd
   have t9:Tr H3 (upd (upd H3 l9 (.lst (qs.map V.ref))) x (.ins a.cJ dx (wFs l9 st W.lack))):=s9.tr.trans (aQV x9 kx)
   have l9x:l9≠x:=Ne.symm (bM n9 hx')
   refine k _ ⟨dx,l9,st,aP,⟨qs,kx _ _ aP l9x,p2.imp λ_ _ z=>z.tr t9⟩,hs.tr (sH.tr.trans t9)⟩ (λb o e nb=>kx _ _ (s9 _ _ (sH _ _ e)) nb)
def aBp(K:PySem.W.Frag)(CW CM CS:Addr):Sp:=λvs H Q _=>∃(w p t:Addr) (W:WS) (P:Ps) (os:List Int) (lev:Int),vs=[.ref w,.ref p,.ref t,.int lev]/\dP CW CM CS H w W/\W.Good/\mG H p P/\P.1.length=W.specs.length/\H t=some (.tup (os.map V.int))/\os.length=W.specs.length/\May P.1 os/\
 ∀r H',aQ H H'->mG H' r (yL W.specs P.1 os,lev)->Q (.ref r) H'
theorem rZ{P:Program}{w:World}{K:PySem.W.Frag}{mg:Str->Option Value}{base:Heap}{a:jX}(tx:Txt K mg a):bS P w K mg base gZ 3 a.iQ a.iR ["works","position","ons","level"] (aBp K a.cJ a.aR a.cE):=by
 have fB:=mB (P:=P) (w:=w) (base:=base) tx
 refine tx.jA.ok qT (λvs H Q E h=>?_) (λcdv A outer s H vs Q E hr h=>?_)
 ·obtain⟨w,p,t,W,P,os,lev,rfl,_⟩:=h
  rfl
 ·obtain⟨w,p,t,W,P,os,lev,rfl ,hW,hg,hP,hl1,ht,hl2,hmay,k⟩:=h
  have hu:=kI hr
  refine aY (aE (mM (k:=3) (idx:=[]) (N:=["machine","state","on"]) (i:=4) qT.nd rfl (Or.inl rfl) (cR (sc:=aF cY) (NX:=["works","position","ons","level","states"]) rfl rfl rfl (by decide +kernel)) rfl (uQ (k1:=true) (k2:=false) (k3:=false) (by rfl) tx.rY (aA (aU (K':=K) (Z.pv 0) rfl) (aA (aJ (K':=K) (Z.pv 1) aD) (aA (Z.pv 2) aC)))) (λ_ _ _ _=>(bI (K':=K) (n:=3) rfl (aM (aI (i:=0) (show(["machine","state","on"]:List Str).Nodup by decide +kernel)) (aM (aI (i:=1) (show(["machine","state","on"]:List Str).Nodup by decide +kernel)) (aM (aI (i:=2) (show(["machine","state","on"]:List Str).Nodup by decide +kernel)) bH))))) (kK (bK (by decide) (bK (by decide) (bK (by decide) hV)))) (λ_ _ _ _=>bT) (λ_ _ _ _=>(aH (fB) (hr.mono (by decide)) (by rfl) tx.jO tx.gX.kp tx.jN .nil aZ (aA (Z.pv 0) (aA (Z.pv 1) (aA (Z.pv 2) aC))))))
   (aG (aN (jR (cZ (rc:=aBU K) y7 (by rfl) tx.nQ wJ (aA (Z.pv 4) aC)) (Z.pv 3))))) ?_
  have hlen:=hg.len
  obtain⟨dx,lm,st,hw,hM,hst⟩:=hW.ex
  obtain⟨qm,hm,rm⟩:=hM.ex
  obtain⟨t1,hp,hs⟩:=hP.ex
  obtain⟨qs,ht1,rs⟩:=hs.ex
  have lm1:=rm.len
  have ls1:=rs.len
  refine aS (σ:=[some (.ref w),some (.ref p),some (.ref t),some (.int lev),none]) rfl ?_
  walk_at "w"
  refine bZ hw tx.dA tx.cB rfl ?_
  walk_at "w"
  refine aGo (Src.lst hm) (Src.tup ht1) (Src.tup ht) ?_
  refine yZ (n:=W.specs.length) (by rw[bL];omega) (by rw[bL];omega) (by rw[bL];omega) (.inl (by rw[bL];omega)) (cK (by omega))
   (λi us H'=>aQ H H'/\∃rs',us=rs'.map V.ref/\rs'.length=i/\RL (StA H') rs' ((yL W.specs P.1 os).take i)) ⟨aQ.refl _,[],rfl,rfl,RL.nil⟩
   (λi us H' hi ⟨s1,rs',e1,e2,e3⟩=>⟨⟨Src.lst (s1 _ _ hm),Src.tup (s1 _ _ ht1),Src.tup (s1 _ _ ht)⟩,by rw[e1,bL];omega⟩)
   (λi x y z us H' T hx hy hz ⟨s1,rs',e1,e2,e3⟩ nT=>?_) (λus H' ⟨s1,rs',e1,e2,e3⟩=>?_)
  ·obtain⟨q,m,_,rfl,hmi,hqm⟩:=rm.get hx
   obtain⟨sq,sv,_,rfl,hsi,hsa⟩:=rs.get hy
   obtain⟨on,hoi,rfl⟩:=gG hz
   have sT:=aQ.new (o:=.tup [.ref q,.ref sq,.int on]) nT
   have s2:=s1.trans sT
   refine cP (jQ.of aP) rfl ?_
   walk_at "w"
   refine⟨q,m,sq,sv.1,sv.2,on,rfl,hqm.same s2,s2 _ _ hsa,hmay i sv on hsi hoi,λT2 H2 s3 nT2 hT2=>?_⟩
   refine⟨s2.trans s3,rs' ++ [T2],by rw[e1,oA];rfl,by rw[sI,e2];rfl,?_⟩
   rw[aKY hl1 hl2 hmi hsi hoi]
   exact(e3.imp λb v z=>(sT.trans s3) _ _ z).snoc hT2
  ·subst e1
   intro l nl
   have sl:=aQ.new (o:=.lst (rs'.map V.ref)) nl
   walk_at "w"
   refine aDt (bX.of aP) ?_
   intro T nT
   have sT:=aQ.new (o:=.tup (rs'.map V.ref)) nT
   walk_at "w"
   intro r nr
   have sr:=aQ.new (o:=.tup [.ref T,.int lev]) nr
   walk_at "w"
   rw[Rw9 (by rw[uE hl1 hl2];exact eA _)] at e3
   exact k r _ (s1.trans (sl.trans (sT.trans sr))) ⟨T,aP,rs',sr _ _ aP,e3.imp λb v z=>(sl.trans (sT.trans sr)) _ _ z⟩
def aC3(K:PySem.W.Frag)(CW CM CS:Addr):Sp:=λvs H Q _=>∃(w p l:Addr) (W:WS) (P:Ps) (hs:List Hr),vs=[.ref w,.ref p,.ref l]/\dP CW CM CS H w W/\W.Good/\mG H p P/\vW W P/\yK H l hs/\dQ W P hs/\hs.length<=1000/\
 ∀r H',aQ H H'->aGN H' r (aEs W P hs)->Q (.ref r) H'
theorem aC4{P:Program}{w:World}{K:PySem.W.Frag}{mg:Str->Option Value}{base:Heap}{a:jX}(tx:Txt K mg a):bS P w K mg base gZ 4 a.lA a.lB ["works","position","plan"] (aC3 K a.cJ a.aR a.cE):=by
 have m5:=rZ (P:=P) (w:=w) (base:=base) tx
 refine tx.pS.ok eG (λvs H Q E h=>?_) (λcdv A outer s H vs Q E hr h=>?_)
 ·obtain⟨w,p,l,W,P,hs,rfl,_⟩:=h
  rfl
 ·obtain⟨w,p,l,W,P,hs,rfl ,hW,hg,hP,hok,hL,hpl,hz,k⟩:=h
  have hu:=kI hr
  refine aY (aE (aK (i:=3) eG.nd (qQ (Z.pv 1)))
   (aE (bW PassesOwn.never rfl (bO (K':=K) (Z.pv 2)) (bI (K':=K) (n:=3) rfl (aM (aI (i:=4) eG.nd) (aM (aI (i:=5) eG.nd) (aM (aI (i:=6) eG.nd) bH)))) (aE (aK (i:=1) eG.nd (aH (m5) (hr.mono (by decide)) (by rfl) tx.mV tx.jA.kp tx.mU .nil aZ (aA (Z.pv 0) (aA (Z.pv 1) (aA (Z.pv 4) (aA (Z.pv 6) aC))))))
   (aG (hX (jV (K':=K) (Z.pv 3) (aA (Z.pv 1) aC))))))
   (aG (aN (Z.pv 3))))) ?_
  obtain⟨ql,hl,rl⟩:=hL.ex
  have ll:=rl.len
  refine aS (σ:=[some (.ref w),some (.ref p),some (.ref l),none,none,none,none]) rfl ?_
  walk_at "w"
  intro c nc
  walk_at "w"
  have sc:=aQ.new (o:=.lst [.ref p]) nc
  have ec:(upd H c (.lst [.ref p])) c=some (.lst ([p].map V.ref)):=aP
  generalize upd H c (.lst [.ref p])=H1 at sc ec ⊢
  refine j8 (bX.of (sc _ _ hl)) ?_
  refine yV (xs:=ql.map V.ref) (λi σ' H'=>∃p' x4 x5 x6 cs,σ'=[some (.ref w),some (.ref p'),some (.ref l),some (.ref c),x4,x5,x6]/\aQ H H'/\mG H' p' (aBo W P (hs.take i))/\H' c=some (.lst (cs.map V.ref))/\cs.length=i+1/\RL (mG H') cs (aEs W P (hs.take i)))
   ⟨p,_,_,_,[p],rfl,sc,hP.tk sc.tk,ec,rfl,⟨rfl,λj b x h1 h2=>?_⟩⟩ (λi σ' H' hi ⟨p',x4,x5,x6,cs,e,s1,hp',hc,lc,rc⟩=>bX.of (s1 _ _ hl)) (λi v σ' H' hv ⟨p',x4,x5,x6,cs,e,s1,hp',hc,lc,rc⟩=>?_) (λσ' H' ⟨p',x4,x5,x6,cs,e,s1,hp',hc,lc,rc⟩=>?_)
  ·match j,h1,h2 with
   |0,h1,h2=>cases h1;cases h2;exact hP.tk sc.tk
   |_+1,h1,_=>simp at h1
  ·subst e
   obtain⟨q,h,_,rfl,hh,hq⟩:=rl.get hv
   obtain⟨pt,ph⟩:=hpl.take hh
   have pos:=pt.pos hg hok
   have hi:i < hs.length:=(qM.mp hh).1
   obtain⟨t,u,g1,g2,g3⟩:=(hq.tk s1.tk).ex
   refine cP (jQ.of g1) rfl ?_
   walk_at "w"
   refine⟨w,p',t,W,_,h.ons,h.lev,rfl,hW.tr s1.tr,hg,hp',pos.len,g2,ph.ons,ph.may,λr H2 s2 hr=>?_⟩
   have hc2:=s2 _ _ hc
   walk_at "w"
   refine uO (bX.of hc2) ?_
   walk_at "w"
   refine aAj (xs:=cs.map V.ref) hc2 (zF (by rw[bL,lc];omega:(cs.map V.ref).length < 2000) (cK (by simp))) ?_
   walk_at "w"
   have tk3:Tk H2 (upd H2 c (.lst (cs.map V.ref ++ [.ref r]))):=aMW hc2
   refine⟨r,_,_,_,cs ++ [r],rfl,aMY nc (s1.trans s2),?_,by rw[aP,oA];rfl,by rw[sI,lc];rfl,?_⟩
   ·rw[take_snoc hh,aB2]
    exact hr.tk tk3
   ·rw[take_snoc hh,aFR]
    exact(rc.imp λb v z=>z.tk (s2.tk.trans tk3)).snoc (hr.tk tk3)
  ·subst e
   walk_at "w"
   rw[bL,ll,Qv9] at rc
   exact k c _ s1 ⟨cs,hc,rc⟩
def drO:Option SS->Int->Int->Int
 |none,_,_=>0
 |some s,l,n=>dr s l n
def ovr(W:WS)(l want:Int)(h:Hr):Int:=List.sum h.outs - want - drO W.store l h.lev
def lo1(W:WS)(l want:Int)(h:Hr):Int×Int:=(max (ovr W l want h) 0,max (-(ovr W l want h)) 0)
theorem aH8(W:WS):∀{P:Ps}{hs:List Hr}{i:Nat},i<=hs.length->(aEs W P hs)[i]?=some (aBo W P (hs.take i))
 |P,[],0,_=>rfl
 |P,[],i+1,h=>by simp at h
 |P,g::hs,0,_=>rfl
 |P,g::hs,i+1,h=>by
  show(aEs W (nxt W P g) hs)[i]?=_
  exact aH8 W (P:=nxt W P g) (by simpa using h)
structure aM0(H:Hp)(a:Addr)(ps:List (Int×Int)):Prop where
 ex:∃qs,H a=some (.lst (qs.map V.ref))/\RL (StA H) qs ps
theorem aM0.tr{H H':Hp}{a:Addr}{ps:List (Int×Int)}(h:aM0 H a ps)(s:Tr H H'):aM0 H' a ps:=by
 obtain⟨qs,h1,h2⟩:=h.ex
 exact⟨qs,s _ _ h1 pC,h2.imp λa x z=>s.tk _ _ z⟩
def aH9(K:W.Frag)(C:Addr):Sp:=λvs H Q _=>∃(x:Addr) (s:SS) (l n:Int),vs=[.ref x,.int l,.int n]/\zB C H x s/\s.Good/\Q (.int (dr s l n)) H
theorem aIa{mg:Str->Option Value}{a:jX}(tx:Txt K mg a):bS P w K mg base gZ 1 a.uX a.uY ["store","level","later"] (aH9 K a.cE):=by
 refine tx.aAy.ok aCk (λvs H Q E h=>?_) (λcdv A outer s H vs Q E hr h=>?_)
 ·obtain⟨x,ss,l,n,rfl,_⟩:=h
  rfl
 ·obtain⟨x,ss,l,n,rfl ,hs,hg,k⟩:=h
  have hu:=kI hr
  refine aY (aE (aK (i:=3) aCk.nd (qO (bA aDE (Z.pv 2) (Z.pv 1) (bY _)) (aU (K':=K) (Z.pv 0) rfl) (aU (K':=K) (Z.pv 0) rfl)))
   (aG (aN (aO cC (Z.pv 3) (aO hU (Z.pv 2) (Z.pv 1)))))) ?_
  obtain⟨dx,hx⟩:=hs.ex
  obtain⟨t0,t1⟩:=hg.takes
  obtain⟨g0,g1⟩:=hg.gives
  refine aS (σ:=[some (.ref x),some (.int l),some (.int n),none]) rfl ?_
  walk_at "w"
  unfold dr at k
  refine cW (λh=>?_) (λh=>?_)
  ·rw[if_pos h] at k
   walk_at "w"
   refine bZ hx tx.vK tx.aAa rfl ?_
   walk_at "w"
   exact k
  ·rw[if_neg h] at k
   walk_at "w"
   refine bZ hx tx.vK tx.aAb rfl ?_
   walk_at "w"
   exact k
def aIb(K:PySem.W.Frag)(CW CM CS:Addr):Sp:=λvs H Q _=>∃(w:Addr) (W:WS) (l n:Int),vs=[.ref w,.int l,.int n]/\dP CW CM CS H w W/\W.Good/\Q (.int (drO W.store l n)) H
theorem aIc{P:Program}{w:World}{K:PySem.W.Frag}{mg:Str->Option Value}{base:Heap}{a:jX}(tx:Txt K mg a):bS P w K mg base gZ 2 a.uZ a.u4 ["works","level","later"] (aIb K a.cJ a.aR a.cE):=by
 have aJl:=aIa (P:=P) (w:=w) (base:=base) tx
 refine tx.aAz.ok aHW (λvs H Q E h=>?_) (λcdv A outer s H vs Q E hr h=>?_)
 ·obtain⟨w,W,l,n,rfl,_⟩:=h
  rfl
 ·obtain⟨w,W,l,n,rfl ,hW,hg,k⟩:=h
  have hu:=kI hr
  refine aY (aG (aN (qO (bA aGl (aU (K':=K) (Z.pv 0) rfl) eE (bY _)) aD (aH (aJl) (hr.mono (by decide)) (by rfl) tx.aEf tx.aAy.kp tx.aEe .nil aZ (aA (aU (K':=K) (Z.pv 0) rfl) (aA (Z.pv 1) (aA (Z.pv 2) aC))))))) ?_
  obtain⟨dx,lm,st,hw,hM,hst⟩:=hW.ex
  refine aS (σ:=[some (.ref w),some (.int l),some (.int n)]) rfl ?_
  walk_at "w"
  refine bZ hw tx.dA tx.fA rfl ?_
  cases e:W.store with
  |none=>
   rw[e] at hst k
   replace hst:st=.non:=hst
   subst hst
   walk_at "w"
   exact k
  |some s=>
   rw[e] at hst k
   obtain⟨c,rfl,hc⟩:=hst
   walk_at "w"
   refine bZ hw tx.dA tx.fA rfl ?_
   walk_at "w"
   exact⟨c,s,l,n,rfl,hc,hg.store s e,k⟩
def aC5(K:PySem.W.Frag)(CW CM CS:Addr):Sp:=λvs H Q _=>∃(w y:Addr) (W:WS) (l want:Int) (h:Hr),vs=[.ref w,.int l,.int want,.ref y]/\dP CW CM CS H w W/\W.Good/\aH7 H y h/\
 ∀T H',aQ H H'->StA H' T (lo1 W l want h)->Q (.ref T) H'
theorem aC6{P:Program}{w:World}{K:PySem.W.Frag}{mg:Str->Option Value}{base:Heap}{a:jX}(tx:Txt K mg a):bS P w K mg base gZ 3 a.lC a.lD ["works","level","want","planned"] (aC5 K a.cJ a.aR a.cE):=by
 have aJm:=aIc (P:=P) (w:=w) (base:=base) tx
 refine tx.pT.ok vQ (λvs H Q E h=>?_) (λcdv A outer s H vs Q E hr h=>?_)
 ·obtain⟨w,y,W,l,want,h,rfl,_⟩:=h
  rfl
 ·obtain⟨w,y,W,l,want,h,rfl ,hW,hg,hh,k⟩:=h
  have hu:=kI hr
  refine aY (aE (aK (i:=4) vQ.nd (aO hU (aO hU (aL (rc:=aJF K) (aFG rfl) (by rfl) tx.lY kM (aA (aJ (K':=K) (Z.pv 3) aD) aC)) (Z.pv 2)) (aH (aJm) (hr.mono (by decide)) (by rfl) tx.aEh tx.aAz.kp tx.aEg .nil aZ (aA (Z.pv 0) (aA (Z.pv 1) (aA (aJ (K':=K) (Z.pv 3) aD) aC))))))
   (aG (aN (jR (aL (iI rfl) (by rfl) tx.rX uM (aA (Z.pv 4) (aA aD aC))) (aL (iI rfl) (by rfl) tx.rX uM (aA (wN aDD (Z.pv 4)) (aA aD aC))))))) ?_
  obtain⟨t,u,g1,g2,g3⟩:=hh.ex
  refine aS (σ:=[some (.ref w),some (.int l),some (.int want),some (.ref y),none]) rfl ?_
  walk_at "w"
  refine aJG (jQ.of g3) ?_
  walk_at "w"
  refine⟨w,W,l,h.lev,rfl,hW,hg,?_⟩
  walk_at "w"
  intro T nT
  obtain⟨H1,i1,s1,e1⟩:=nw _ nT;rw[i1]
  exact k T H1 s1 e1
def sumTo(f:Nat->Int):Nat->Int
 |0=>0
 |n+1=>sumTo f n+f n
theorem uF(ns:List Int)(x:Int):List.sum (ns ++ [x])=List.sum ns+x:=by
 rw[Tt9,List.sum_cons,List.sum_nil]
 omega
def tB(ms:List MS)(ss:List (Int×Int))(os:List Int)(j:Nat):Int:=match ms[j]?,ss[j]?,os[j]? with
 |some m,some s,some o=>if o=1/\s.1=0 then m.begin_ else 0
 |_,_,_=>0
def tR(ms:List MS)(os:List Int)(j:Nat):Int:=match ms[j]?,os[j]? with
 |some m,some o=>if o=1 then m.run else 0
 |_,_=>0
def tS(ms:List MS)(os:List Int)(j:Nat):Int:=match ms[j]?,os[j]? with
 |some m,some o=>if o=0 then m.rest else 0
 |_,_=>0
def tM(ms:List MS)(os us:List Int)(j:Nat):Int:=match ms[j]?,os[j]?,us[j]? with
 |some m,some o,some u=>if o=1 then cst m.pieces (u - m.least) else 0
 |_,_,_=>0
theorem aPa{ms:List MS}{ss:List (Int×Int)}{os:List Int}{j:Nat}{m:MS}{s:Int×Int}{o:Int}(h1:ms[j]?=some m)(h2:ss[j]?=some s)(h3:os[j]?=some o):tB ms ss os j=if o=1/\s.1=0 then m.begin_ else 0:=by
 unfold tB;rw[h1,h2,h3]
theorem aPb{ms:List MS}{os:List Int}{j:Nat}{m:MS}{o:Int}(h1:ms[j]?=some m)(h3:os[j]?=some o):tR ms os j=if o=1 then m.run else 0:=by
 unfold tR;rw[h1,h3]
theorem aPc{ms:List MS}{os:List Int}{j:Nat}{m:MS}{o:Int}(h1:ms[j]?=some m)(h3:os[j]?=some o):tS ms os j=if o=0 then m.rest else 0:=by
 unfold tS;rw[h1,h3]
theorem aPd{ms:List MS}{os us:List Int}{j:Nat}{m:MS}{o u:Int}(h1:ms[j]?=some m)(h2:os[j]?=some o)(h3:us[j]?=some u):tM ms os us j=if o=1 then cst m.pieces (u - m.least) else 0:=by
 unfold tM;rw[h1,h2,h3]
def aKZ(W:WS)(P:Ps)(w:Int)(h:Hr):List Int:=[sumTo (tB W.specs P.1 h.ons) W.specs.length,sumTo (tR W.specs h.ons) W.specs.length,sumTo (tS W.specs h.ons) W.specs.length,sumTo (tM W.specs h.ons h.outs) W.specs.length,W.lack*max (-(ovr W P.2 w h)) 0]
def rws(W:WS):Ps->List Int->List Hr->List (List Int)
 |P,w::ws,h::hs=>aKZ W P w h::rws W (nxt W P h) ws hs
 |_,_,_=>[]
theorem aJW(W:WS):∀{P:Ps}{ws:List Int}{hs:List Hr}{i:Nat}{w:Int}{h:Hr},ws[i]?=some w->hs[i]?=some h->(rws W P ws hs)[i]?=some (aKZ W (aBo W P (hs.take i)) w h)
 |P,w::ws,h::hs,0,_,_,e1,e2=>by cases e1;cases e2;rfl
 |P,w::ws,h::hs,i+1,_,_,e1,e2=>by
  show(rws W (nxt W P h) ws hs)[i]?=_
  exact aJW W (P:=nxt W P h) e1 e2
 |_,[],_,_,_,_,e,_=>by simp at e
 |_,_::_,[],_,_,_,_,e=>by simp at e
theorem aGQ(W:WS):∀{P:Ps}{ws:List Int}{hs:List Hr},ws.length=hs.length->(rws W P ws hs).length=hs.length
 |_,[],[],_=>rfl
 |P,w::ws,h::hs,e=>by
  show(aKZ W P w h::rws W (nxt W P h) ws hs).length=_
  rw[Qx9,aGQ W (by simpa using e),Qx9]
 |_,[],_::_,e=>by cases e
 |_,_::_,[],e=>by cases e
def RwA(H:Hp)(q:Addr)(r:List Int):Prop:=H q=some (.tup (r.map V.int))
structure aGR(H:Hp)(a:Addr)(rs:List (List Int)):Prop where
 ex:∃qs,H a=some (.lst (qs.map V.ref))/\RL (RwA H) qs rs
theorem aGR.tr{H H':Hp}{a:Addr}{rs:List (List Int)}(h:aGR H a rs)(s:Tr H H'):aGR H' a rs:=by
 obtain⟨qs,h1,h2⟩:=h.ex
 exact⟨qs,s _ _ h1 pC,h2.imp λa x z=>s.tk _ _ z⟩
theorem aJX{H:Hp}{qs:List Addr}{rs:List (List Int)}(h:RL (RwA H) qs rs){H':Hp}(s:Tk H H'):RL (RwA H') qs rs:=h.imp λa x z=>s _ _ z
theorem aK0{K:W.Frag}{H:Hp}{r:Addr}{qs:List Addr}{rows:List (List Int)}{σ₀:St}{g:TG}{tt:TT}{te:TE}{R:List V->Hp->Prop}(h1:H r=some (.lst (qs.map V.ref)))(h2:RL (RwA H) qs rows)(hz:rows.length<=1000)
  (hs:∀q x (N:V->Hp->Prop) (N':Hp->Prop),RwA H q x->N (.int (List.sum x)) H->g (.ref q) σ₀ H λσ2 H2=>tt σ2 H2 λb H3=>if b=true then te σ2 H3 λy H4=>N y H4 else N' H3)
  (hd:R ((rows.map List.sum).map V.int) H):nU (Itl K r) σ₀ g tt te R H:=by
 have hql:qs.length<=1000:=by rw[h2.len];exact hz
 refine eB (xs:=qs.map V.ref) (λi ys H'=>H'=H/\ys=((rows.take i).map List.sum).map V.int) ⟨rfl,by simp⟩ (cK (by rw[bL];omega)) (λi ys H' hi ⟨e1,e2⟩=>?_) (λi x ys H' hx ⟨e1,e2⟩=>?_) (λys H' ⟨e1,e2⟩=>?_)
 ·subst e1 e2
  refine⟨bX.of h1,?_⟩
  rw[bL,bL,Qz9]
  omega
 ·subst e1 e2
  obtain⟨q,y,_,rfl,ey,hq⟩:=h2.get hx
  refine hs q y (λy H4=>H4=H'/\((rows.take i).map List.sum).map V.int ++ [y]=((rows.take (i+1)).map List.sum).map V.int) (λH3=>H3=H'/\((rows.take i).map List.sum).map V.int=((rows.take (i+1)).map List.sum).map V.int) hq ⟨rfl,?_⟩
  rw[take_snoc ey,oA,oA]
  rfl
 ·subst e1 e2
  rw[bL,h2.len,Qv9]
  exact hd
def aC7(K:W.Frag)(C:Addr):Sp:=λvs H Q _=>∃(x:Addr) (m:MS),vs=[.ref x]/\cO C H x m/\m.Good/\∀H',aQ H H'->Q (.int (m.least+aAF m.pieces)) H'
theorem vX{P:Program}{w:World}{K:PySem.W.Frag}{mg:Str->Option Value}{base:Heap}{a:jX}(tx:Txt K mg a):bS P w K mg base gZ 1 a.lE a.lF ["self"] (aC7 K a.aR):=by
 refine tx.xK.ok aCP (λvs H Q E h=>?_) (λcdv A outer s H vs Q E hr h=>?_)
 ·obtain⟨x,m,rfl,_⟩:=h
  rfl
 ·obtain⟨x,m,rfl ,hm,hg,k⟩:=h
  have hu:=kI hr
  refine aY (aG (aN (aO cM (aU (K':=K) (Z.pv 0) rfl) (aL (rc:=aAX K) (eC rfl) (by rfl) tx.lY kM (aA (bU (k:=1) (idx:=[]) (N:=["piece"]) (cR (sc:=aF dZ) (NX:=["self"]) rfl rfl rfl (by decide +kernel)) rfl (bO (K':=K) (aU (K':=K) (Z.pv 0) rfl)) (λ_ _ _ _=>(aI (i:=0) (show(["piece"]:List Str).Nodup by decide +kernel))) (dJ (by decide)) (λ_ _ _ _=>bT) (λ_ _ _ _=>(aJ (K':=K) (Z.pv 0) aD))) aC))))) ?_
  obtain⟨dx,pl,hx,hp⟩:=hm.ex
  obtain⟨qs,h1,h2⟩:=hp.ex
  refine aS (σ:=[some (.ref x)]) rfl ?_
  walk_at "w"
  refine bZ hx tx.bE tx.cV rfl ?_
  walk_at "w"
  refine bZ hx tx.bE tx.dX rfl ?_
  refine j8 (bX.of h1) ?_
  refine aMU (λt=>some t.1) h1 h2 hg.pieces.len (λq t N N' hm hq hN hN'=>?_) ?_
  ·walk_at "w"
   exact hN _ rfl
  intro l1 n1
  obtain⟨H1,i1,s1,e1⟩:=nw _ n1;rw[i1]
  walk_at "w"
  refine nV (bX.of e1) ?_
  rw[aJg]
  walk_at "w"
  exact k H1 s1
def aAG(K:W.Frag)(C:Addr):Sp:=λvs H Q _=>∃(x:Addr) (m:MS) (out:Int),vs=[.ref x,.int out]/\cO C H x m/\m.Good/\m.least<=out/\out<=m.least+aAF m.pieces/\∀H',aQ H H'->Q (.int (cst m.pieces (out - m.least))) H'
theorem qI{P:Program}{w:World}{K:PySem.W.Frag}{mg:Str->Option Value}{base:Heap}{a:jX}(tx:Txt K mg a):bS P w K mg base gZ 2 a.g9 a.hJ ["self","output"] (aAG K a.aR):=by
 have qJ:=vX (P:=P) (w:=w) (base:=base) tx
 refine tx.rT.ok cG (λvs H Q E h=>?_) (λcdv A outer s H vs Q E hr h=>?_)
 ·obtain⟨x,m,out,rfl,_⟩:=h
  rfl
 ·obtain⟨x,m,out,rfl ,hm,hg,o0,o1,k⟩:=h
  have hu:=kI hr
  refine aY (aE (bV (kO (wQ (bA aOV (Z.pv 1) (aU (K':=K) (Z.pv 0) rfl) (bY _)) (tH (bA aDE (Z.pv 1) (aCf (Z.pv 0) tx.bE tx.m_Machine_most (qJ) (hr.mono (by decide)) tx.pU .nil aZ) (bY _))))) (aG (aN eE)) bD)
   (aE (aK (i:=2) cG.nd (aO hU (Z.pv 1) (aU (K':=K) (Z.pv 0) rfl)))
   (aE (aK (i:=3) cG.nd aD)
   (aE (bW PassesOwn.never rfl (bO (K':=K) (aU (K':=K) (Z.pv 0) rfl)) (bI (K':=K) (n:=2) rfl (aM (aI (i:=4) cG.nd) (aM (aI (i:=5) cG.nd) bH))) (aE (aK (i:=6) cG.nd (aL (yU rfl) (by rfl) tx.aAc aDN (aA (Z.pv 4) (aA (Z.pv 2) aC))))
   (aE (tJ (i:=3) cG.nd rfl (Or.inl rfl) (aO cC (Z.pv 6) (Z.pv 5)) aDB)
   (aG (tJ (i:=2) cG.nd rfl (Or.inl rfl) (Z.pv 6) aLp)))))
   (aG (aN (Z.pv 3))))))) ?_
  obtain⟨dx,pl,hx,hp⟩:=hm.ex
  obtain⟨qs,h1,h2⟩:=hp.ex
  refine aS (σ:=[some (.ref x),some (.int out),none,none,none,none,none]) rfl ?_
  walk_at "w"
  refine bZ hx tx.bE tx.cV rfl ?_
  walk_at "w"
  refine cW (λh=>absurd h (by omega)) (λ_=>?_)
  walk_at "w"
  refine⟨x,dx,_,rfl,hx,rfl,?_⟩
  walk_at "w"
  refine⟨x,m,rfl,hm,hg,λH1 s1=>?_⟩
  walk_at "w"
  refine cW (λh=>absurd h (by omega)) (λ_=>?_)
  have hx1:=s1 _ _ hx
  walk_at "w"
  refine bZ hx1 tx.bE tx.cV rfl ?_
  walk_at "w"
  refine bZ hx1 tx.bE tx.dX rfl ?_
  have g1:=s1 _ _ h1
  refine j8 (bX.of g1) ?_
  refine yV (xs:=qs.map V.ref) (λi σ' H'=>H'=H1/\∃c left x4 x5 x6,σ'=[some (.ref x),some (.int out),some (.int left),some (.int c),x4,x5,x6]/\0<=left/\c+cst (m.pieces.drop i) left=cst m.pieces (out - m.least)) ⟨rfl,0,_,_,_,_,rfl,by omega,by rw[List.drop_zero,Int.zero_add]⟩ (λi σ' H' hi ⟨e1,c,left,x4,x5,x6,e,el,ec⟩=>by subst e1;exact bX.of g1) (λi v σ' H' hv ⟨e1,c,left,x4,x5,x6,e,el,ec⟩=>?_) (λσ' H' ⟨e1,c,left,x4,x5,x6,e,el,ec⟩=>?_)
  ·subst e1 e
   rw[pG] at hv
   cases hq:qs[i]? with
   |none=>rw[hq] at hv;cases hv
   |some q=>
    rw[hq] at hv
    cases hv
    have li:i < m.pieces.length:=by rw[<-h2.len];exact(qM.mp hq).1
    have ht:m.pieces[i]?=some m.pieces[i]:=eU li
    have e:=s1 _ _ (h2.at_ i q _ hq ht)
    have ed:m.pieces.drop i=m.pieces[i] :: m.pieces.drop (i+1):=Sk9 li
    obtain⟨z1,⟨z2,z3⟩,z4,z5⟩:=hg.pieces.pc _ (Sc9 li)
    generalize m.pieces[i]=t at ht e z1 z2 z3 z4 z5 ed
    refine cP (jQ.of e) rfl ?_
    walk_at "w"
    refine aDO rfl ?_
    walk_at "w"
    refine aDO rfl ?_
    walk_at "w"
    rw[ed] at ec
    have ec':c+(max 0 (min left t.1)*t.2+cst (m.pieces.drop (i+1)) (left - max 0 (min left t.1)))=cst m.pieces (out - m.least):=ec
    rw[show max 0 (min left t.1)=min t.1 left by omega] at ec'
    exact⟨rfl,_,_,_,_,_,rfl,by omega,by omega⟩
  ·subst e1 e
   walk_at "w"
   rw[bL,h2.len,List.drop_length] at ec
   have ec':c+0=cst m.pieces (out - m.least):=ec
   have k':=k H' s1
   rw[<-ec',Si9] at k'
   exact k'
def aEu(K:PySem.W.Frag)(CW CM CS:Addr):Sp:=λvs H Q _=>∃(w t ou:Addr) (W:WS) (ss:List (Int×Int)) (os:List Int),vs=[.ref w,.ref t,.ref ou]/\dP CW CM CS H w W/\aH6 H t ss/\H ou=some (.tup (os.map V.int))/\ss.length=W.specs.length/\os.length=W.specs.length/\W.specs.length<=6/\∀H',aQ H H'->Q (.int (sumTo (tB W.specs ss os) W.specs.length)) H'
theorem aEv{P:Program}{w:World}{K:PySem.W.Frag}{mg:Str->Option Value}{base:Heap}{a:jX}(tx:Txt K mg a):bS P w K mg base gZ 1 a.nC a.nE ["works","states","ons"] (aEu K a.cJ a.aR a.cE):=by
 refine tx.sQ.ok aD7 (λvs H Q E h=>?_) (λcdv A outer s H vs Q E hr h=>?_)
 ·obtain⟨w,t,ou,W,ss,os,rfl,_⟩:=h
  rfl
 ·obtain⟨w,t,ou,W,ss,os,rfl ,hW,hS,go,l1,l2,hz,k⟩:=h
  have hu:=kI hr
  refine aY (aG (aN (aL (rc:=aAX K) (eC rfl) (by rfl) tx.lY kM (aA (bU (k:=3) (idx:=[]) (N:=["machine","state","on"]) (cR (sc:=aF eY) (NX:=["works","states","ons"]) rfl rfl rfl (by decide +kernel)) rfl (uQ (k1:=true) (k2:=false) (k3:=false) (by rfl) tx.rY (aA (aU (K':=K) (Z.pv 0) rfl) (aA (Z.pv 1) (aA (Z.pv 2) aC)))) (λ_ _ _ _=>(bI (K':=K) (n:=3) rfl (aM (aI (i:=0) (show(["machine","state","on"]:List Str).Nodup by decide +kernel)) (aM (aI (i:=1) (show(["machine","state","on"]:List Str).Nodup by decide +kernel)) (aM (aI (i:=2) (show(["machine","state","on"]:List Str).Nodup by decide +kernel)) bH))))) (kK (bK (by decide) (bK (by decide) (bK (by decide) hV)))) (λ_ _ _ _=>(mK (kO (yX (bA (r:=v5 K) (jF hu) (Z.pv 2) aD (bY _)) (uP (bA (r:=v5 K) (jF hu) (aJ (K':=K) (Z.pv 1) aD) aD (bY _))))))) (λ_ _ _ _=>(aU (K':=K) (Z.pv 0) rfl))) aC)))) ?_
  obtain⟨dx,lm,st,hw,hM,hst⟩:=hW.ex
  obtain⟨qm,gm,rm⟩:=hM.ex
  obtain⟨qs,gt,rt⟩:=hS.ex
  have lqm:=rm.len
  have lqs:=rt.len
  refine aS (σ:=[some (.ref w),some (.ref t),some (.ref ou)]) rfl ?_
  walk_at "w"
  refine bZ hw tx.dA tx.cB rfl ?_
  walk_at "w"
  refine aGo (Src.lst gm) (Src.tup gt) (Src.tup go) ?_
  refine yZ (n:=W.specs.length) (by rw[bL];omega) (by rw[bL];omega) (by rw[bL];omega) (.inl (by rw[bL];omega)) (cK (by omega))
   (λi us H'=>aQ H H'/\∃ns:List Int,us=ns.map V.int/\ns.length<=i/\List.sum ns=sumTo (tB W.specs ss os) i) ⟨aQ.refl _,[],rfl,eA _,rfl⟩
   (λi us H' hi ⟨s1,ns,e1,e2,e3⟩=>⟨⟨Src.lst (s1 _ _ gm),Src.tup (s1 _ _ gt),Src.tup (s1 _ _ go)⟩,by rw[e1,bL];exact e2⟩)
   (λi x y z us H' T hx hy hz ⟨s1,ns,e1,e2,e3⟩ nT=>?_) (λus H' ⟨s1,ns,e1,e2,e3⟩=>?_)
  ·obtain⟨qa,m,_,rfl,em,hma⟩:=rm.get hx
   obtain⟨qb,sv,_,rfl,es,hsv⟩:=rt.get hy
   obtain⟨o,eo,rfl⟩:=gG hz
   obtain⟨J,j,sT,gT⟩:=nw _ nT;rw[j]
   have s2:=s1.trans sT
   obtain⟨dm,pl,hmx,_⟩:=(hma.tr s2.tr).ex
   have hsv2:J qb=some (.tup [.int sv.1,.int sv.2]):=s2 _ _ hsv
   have et:=aPa em es eo
   refine cP (jQ.of gT) rfl ?_
   walk_at "w"
   refine cW (λh1=>?_) (λh1=>?_)
   ·walk_at "w"
    refine cW (λh2=>?_) (λh2=>?_)
    ·walk_at "w"
     refine bZ hmx tx.bE tx.jU rfl ?_
     refine⟨s2,ns ++ [m.begin_],by rw[e1,oA];rfl,by rw[sI,Rc9];omega,?_⟩
     rw[uF,e3]
     show _=sumTo _ i+tB W.specs ss os i
     rw[et,if_pos ⟨h1,h2⟩]
    ·refine⟨s2,ns,e1,by omega,?_⟩
     rw[e3]
     show _=sumTo _ i+tB W.specs ss os i
     rw[et,if_neg λz=>h2 z.2,Si9]
   ·refine⟨s2,ns,e1,by omega,?_⟩
    rw[e3]
    show _=sumTo _ i+tB W.specs ss os i
    rw[et,if_neg λz=>h1 z.1,Si9]
  ·subst e1
   intro l nl
   obtain⟨H2,i2,s2,g2⟩:=nw _ nl;rw[i2]
   walk_at "w"
   refine nV (bX.of g2) ?_
   rw[e3]
   exact k H2 (s1.trans s2)
def aE9(K:PySem.W.Frag)(CW CM CS:Addr):Sp:=λvs H Q _=>∃(w x y:Addr) (W:WS) (P:Ps) (want:Int) (h:Hr),vs=[.ref w,.ref x,.int want,.ref y]/\dP CW CM CS H w W/\W.Good/\mG H x P/\vW W P/\aH7 H y h/\qH W P h/\
 ∀T H',aQ H H'->RwA H' T (aKZ W P want h)->Q (.ref T) H'
theorem aFa{P:Program}{w:World}{K:PySem.W.Frag}{mg:Str->Option Value}{base:Heap}{a:jX}(tx:Txt K mg a):bS P w K mg base gZ 4 a.oQ a.oR ["works","position","want","planned"] (aE9 K a.cJ a.aR a.cE):=by
 have mD:=qI (P:=P) (w:=w) (base:=base) tx
 have aFb:=aEv (P:=P) (w:=w) (base:=base) tx
 have aEw:=aC6 (P:=P) (w:=w) (base:=base) tx
 refine tx.vC.ok gU (λvs H Q E h=>?_) (λcdv A outer s H vs Q E hr h=>?_)
 ·obtain⟨w,x,y,W,P,want,h,rfl,_⟩:=h
  rfl
 ·obtain⟨w,x,y,W,P,want,h,rfl ,hW,hg,hP,hok,hh,hho,k⟩:=h
  have hu:=kI hr
  refine aY (aE (aK (i:=4) gU.nd (aJ (K':=K) (Z.pv 3) aD))
   (aE (aK (i:=5) gU.nd (aL (rc:=aAX K) (eC rfl) (by rfl) tx.lY kM (aA (bU (k:=2) (idx:=[]) (N:=["machine","on"]) (cR (sc:=aF dM) (NX:=["works","position","want","planned","ons","running","resting","making","lacking"]) rfl rfl rfl (by decide +kernel)) rfl (pN (k1:=true) (k2:=false) (by rfl) tx.rY (aA (aU (K':=K) (Z.pv 0) rfl) (aA (Z.pv 4) aC))) (λ_ _ _ _=>(bI (K':=K) (n:=2) rfl (aM (aI (i:=0) (show(["machine","on"]:List Str).Nodup by decide +kernel)) (aM (aI (i:=1) (show(["machine","on"]:List Str).Nodup by decide +kernel)) bH)))) (kK (bK (by decide) (bK (by decide) hV))) (λ_ _ _ _=>(mK (bA (r:=v5 K) (jF hu) (Z.pv 1) aD (bY _)))) (λ_ _ _ _=>(aU (K':=K) (Z.pv 0) rfl))) aC)))
   (aE (aK (i:=6) gU.nd (aL (rc:=aAX K) (eC rfl) (by rfl) tx.lY kM (aA (bU (k:=2) (idx:=[]) (N:=["machine","on"]) (cR (sc:=aF dM) (NX:=["works","position","want","planned","ons","running","resting","making","lacking"]) rfl rfl rfl (by decide +kernel)) rfl (pN (k1:=true) (k2:=false) (by rfl) tx.rY (aA (aU (K':=K) (Z.pv 0) rfl) (aA (Z.pv 4) aC))) (λ_ _ _ _=>(bI (K':=K) (n:=2) rfl (aM (aI (i:=0) (show(["machine","on"]:List Str).Nodup by decide +kernel)) (aM (aI (i:=1) (show(["machine","on"]:List Str).Nodup by decide +kernel)) bH)))) (kK (bK (by decide) (bK (by decide) hV))) (λ_ _ _ _=>(mK (bA (r:=v5 K) (jF hu) (Z.pv 1) aD (bY _)))) (λ_ _ _ _=>(aU (K':=K) (Z.pv 0) rfl))) aC)))
   (aE (aK (i:=7) gU.nd (aL (rc:=aAX K) (eC rfl) (by rfl) tx.lY kM (aA (bU (k:=3) (idx:=[]) (N:=["machine","on","output"]) (cR (sc:=aF dM) (NX:=["works","position","want","planned","ons","running","resting","making","lacking"]) rfl rfl rfl (by decide +kernel)) rfl (uQ (k1:=true) (k2:=false) (k3:=false) (by rfl) tx.rY (aA (aU (K':=K) (Z.pv 0) rfl) (aA (Z.pv 4) (aA (aJ (K':=K) (Z.pv 3) aD) aC)))) (λ_ _ _ _=>(bI (K':=K) (n:=3) rfl (aM (aI (i:=0) (show(["machine","on","output"]:List Str).Nodup by decide +kernel)) (aM (aI (i:=1) (show(["machine","on","output"]:List Str).Nodup by decide +kernel)) (aM (aI (i:=2) (show(["machine","on","output"]:List Str).Nodup by decide +kernel)) bH))))) (kK (bK (by decide) (bK (by decide) (bK (by decide) hV)))) (λ_ _ _ _=>(mK (bA (r:=v5 K) (jF hu) (Z.pv 1) aD (bY _)))) (λ_ _ _ _=>(aAn (Z.pv 0) tx.bE tx.m_Machine_cost_at (mD) (hr.mono (by decide)) tx.lU .nil aZ (aA (Z.pv 2) aC)))) aC)))
   (aE (aK (i:=8) gU.nd (aO cC (aU (K':=K) (Z.pv 0) rfl) (aJ (K':=K) (aH (aEw) (hr.mono (by decide)) (by rfl) tx.xJ tx.pT.kp tx.xI .nil aZ (aA (Z.pv 0) (aA (aJ (K':=K) (Z.pv 1) aD) (aA (Z.pv 2) (aA (Z.pv 3) aC))))) aD)))
   (aG (aN (aOp (aH (aFb) (hr.mono (by decide)) (by rfl) tx.zS tx.sQ.kp tx.zR .nil aZ (aA (Z.pv 0) (aA (aJ (K':=K) (Z.pv 1) aD) (aA (Z.pv 4) aC)))) (Z.pv 5) (Z.pv 6) (Z.pv 7) (Z.pv 8))))))))) ?_
  obtain⟨dx,lm,st,hw,hM,hst⟩:=hW.ex
  obtain⟨qm,gm,rm⟩:=hM.ex
  obtain⟨t,gx,hS⟩:=hP.ex
  obtain⟨ta,tu,gy,ga,gu⟩:=hh.ex
  have lqm:=rm.len
  have hlen:=hg.len
  have lo:=hho.ons
  have lu:=hho.outs
  obtain⟨k0,k1⟩:=hg.lack
  refine aS (σ:=[some (.ref w),some (.ref x),some (.int want),some (.ref y),none,none,none,none,none]) rfl ?_
  walk_at "w"
  refine bZ hw tx.dA tx.cB rfl ?_
  walk_at "w"
  refine aDX (Src.lst gm) (Src.tup ga) ?_
  refine tK (n:=W.specs.length) (by rw[bL];omega) (by rw[bL];omega) (.inl (by rw[bL];omega)) (cK (by omega))
   (λi us H'=>aQ H H'/\∃ns:List Int,us=ns.map V.int/\ns.length<=i/\List.sum ns=sumTo (tR W.specs h.ons) i) ⟨aQ.refl _,[],rfl,eA _,rfl⟩
   (λi us H' hi ⟨s1,ns,e1,e2,e3⟩=>⟨⟨Src.lst (s1 _ _ gm),Src.tup (s1 _ _ ga)⟩,by rw[e1,bL];exact e2⟩)
   (λi x y us H' T hx hy ⟨s1,ns,e1,e2,e3⟩ nT=>?_) (λus H' ⟨s1,ns,e1,e2,e3⟩=>?_)
  ·obtain⟨qa,m,_,rfl,em,hma⟩:=rm.get hx
   obtain⟨o,eo,rfl⟩:=gG hy
   obtain⟨J,j,sT,gT⟩:=nw _ nT;rw[j]
   have s2:=s1.trans sT
   obtain⟨dm,pl,hmx,_⟩:=(hma.tr s2.tr).ex
   have et:=aPb em eo
   refine cP (jQ.of gT) rfl ?_
   walk_at "w"
   refine cW (λh1=>?_) (λh1=>?_)
   ·walk_at "w"
    refine bZ hmx tx.bE tx.nP rfl ?_
    refine⟨s2,ns ++ [m.run],by rw[e1,oA];rfl,by rw[sI,Rc9];omega,?_⟩
    rw[uF,e3]
    show _=sumTo _ i+tR W.specs h.ons i
    rw[et,if_pos h1]
   ·refine⟨s2,ns,e1,by omega,?_⟩
    rw[e3]
    show _=sumTo _ i+tR W.specs h.ons i
    rw[et,if_neg h1,Si9]
  subst e1
  intro l nl
  obtain⟨H2,i2,s2,g2⟩:=nw _ nl;rw[i2]
  walk_at "w"
  refine nV (bX.of g2) ?_
  rw[e3]
  have S2:=s1.trans s2
  have hw2:=S2 _ _ hw
  have ga2:=S2 _ _ ga
  walk_at "w"
  refine bZ hw2 tx.dA tx.cB rfl ?_
  walk_at "w"
  refine aDX (Src.lst (S2 _ _ gm)) (Src.tup ga2) ?_
  refine tK (n:=W.specs.length) (by rw[bL];omega) (by rw[bL];omega) (.inl (by rw[bL];omega)) (cK (by omega))
   (λi us H'=>aQ H H'/\∃ns:List Int,us=ns.map V.int/\ns.length<=i/\List.sum ns=sumTo (tS W.specs h.ons) i) ⟨S2,[],rfl,eA _,rfl⟩
   (λi us H' hi ⟨s1,ns,e1,e2,e3⟩=>⟨⟨Src.lst (s1 _ _ gm),Src.tup (s1 _ _ ga)⟩,by rw[e1,bL];exact e2⟩)
   (λi x y us H' T hx hy ⟨s1,ns,e1,e2,e3⟩ nT=>?_) (λus H' ⟨s1,ns,e1,e2,e3⟩=>?_)
  ·obtain⟨qa,m,_,rfl,em,hma⟩:=rm.get hx
   obtain⟨o,eo,rfl⟩:=gG hy
   obtain⟨J,j,sT,gT⟩:=nw _ nT;rw[j]
   have s2:=s1.trans sT
   obtain⟨dm,pl,hmx,_⟩:=(hma.tr s2.tr).ex
   have et:=aPc em eo
   refine cP (jQ.of gT) rfl ?_
   walk_at "w"
   refine cW (λh1=>?_) (λh1=>?_)
   ·walk_at "w"
    refine bZ hmx tx.bE tx.lW rfl ?_
    refine⟨s2,ns ++ [m.rest],by rw[e1,oA];rfl,by rw[sI,Rc9];omega,?_⟩
    rw[uF,e3]
    show _=sumTo _ i+tS W.specs h.ons i
    rw[et,if_pos h1]
   ·refine⟨s2,ns,e1,by omega,?_⟩
    rw[e3]
    show _=sumTo _ i+tS W.specs h.ons i
    rw[et,if_neg h1,Si9]
  subst e1
  intro l nl
  obtain⟨H3,i3,s3,g3⟩:=nw _ nl;rw[i3]
  walk_at "w"
  refine nV (bX.of g3) ?_
  rw[e3]
  have S3:=s1.trans s3
  have hw3:=S3 _ _ hw
  have gy3:=S3 _ _ gy
  walk_at "w"
  refine bZ hw3 tx.dA tx.cB rfl ?_
  walk_at "w"
  refine aGo (Src.lst (S3 _ _ gm)) (Src.tup (S3 _ _ ga)) (Src.tup (S3 _ _ gu)) ?_
  refine yZ (n:=W.specs.length) (by rw[bL];omega) (by rw[bL];omega) (by rw[bL];omega) (.inl (by rw[bL];omega)) (cK (by omega))
   (λi us H'=>aQ H H'/\∃ns:List Int,us=ns.map V.int/\ns.length<=i/\List.sum ns=sumTo (tM W.specs h.ons h.outs) i) ⟨S3,[],rfl,eA _,rfl⟩
   (λi us H' hi ⟨s1,ns,e1,e2,e3⟩=>⟨⟨Src.lst (s1 _ _ gm),Src.tup (s1 _ _ ga),Src.tup (s1 _ _ gu)⟩,by rw[e1,bL];exact e2⟩)
   (λi x y z us H' T hx hy hz ⟨s1,ns,e1,e2,e3⟩ nT=>?_) (λus H' ⟨s1,ns,e1,e2,e3⟩=>?_)
  ·obtain⟨qa,m,_,rfl,em,hma⟩:=rm.get hx
   obtain⟨o,eo,rfl⟩:=gG hy
   obtain⟨u,eu,rfl⟩:=gG hz
   obtain⟨J,j,sT,gT⟩:=nw _ nT;rw[j]
   have s2:=s1.trans sT
   have hmJ:=hma.tr s2.tr
   obtain⟨dm,pl,hmx,_⟩:=hmJ.ex
   have et:=aPd em eo eu
   refine cP (jQ.of gT) rfl ?_
   walk_at "w"
   refine cW (λh1=>?_) (λh1=>?_)
   ·walk_at "w"
    refine⟨qa,dm,_,rfl,hmx,rfl,?_⟩
    walk_at "w"
    obtain⟨u0,u1⟩:=(hho.out i m o u em eo eu).2 (by omega)
    refine⟨qa,m,u,rfl,hmJ,hg.specs m (oH em),u0,u1,λJ2 t2=>?_⟩
    refine⟨s2.trans t2,ns ++ [cst m.pieces (u - m.least)],by rw[e1,oA];rfl,by rw[sI,Rc9];omega,?_⟩
    rw[uF,e3]
    show _=sumTo _ i+tM W.specs h.ons h.outs i
    rw[et,if_pos h1]
   ·refine⟨s2,ns,e1,by omega,?_⟩
    rw[e3]
    show _=sumTo _ i+tM W.specs h.ons h.outs i
    rw[et,if_neg h1,Si9]
  subst e1
  intro l nl
  obtain⟨H4,i4,s4,g4⟩:=nw _ nl;rw[i4]
  walk_at "w"
  refine nV (bX.of g4) ?_
  rw[e3]
  have S4:=s1.trans s4
  have hw4:=S4 _ _ hw
  have gx4:=S4 _ _ gx
  walk_at "w"
  refine bZ hw4 tx.dA tx.jB rfl ?_
  walk_at "w"
  refine⟨w,y,W,P.2,want,h,rfl,hW.tr S4.tr,hg,hh.tk S4.tk,λT1 H5 s5 hT1=>?_⟩
  have S5:=S4.trans s5
  have gx5:=S5 _ _ gx
  replace hT1:H5 T1=some (.tup [.int (max (ovr W P.2 want h) 0),.int (max (-(ovr W P.2 want h)) 0)]):=hT1
  walk_at "w"
  refine⟨w,t,ta,W,P.1,h.ons,rfl,hW.tr S5.tr,hS.tk S5.tk,S5 _ _ ga,hok.len,lo,hlen,λH6 s6=>?_⟩
  walk_at "w"
  intro T nT
  obtain⟨H7,i7,s7,g7⟩:=nw _ nT;rw[i7]
  walk_at "w"
  exact k T H7 (S5.trans (s6.trans s7)) g7
def aGS(K:PySem.W.Frag)(CW CM CS:Addr):Sp:=λvs H Q _=>∃(w p lw l:Addr) (W:WS) (P:Ps) (ws:List Int) (hs:List Hr),vs=[.ref w,.ref p,.ref lw,.ref l]/\dP CW CM CS H w W/\W.Good/\mG H p P/\vW W P/\H lw=some (.lst (ws.map V.int))/\yK H l hs/\dQ W P hs/\ws.length=hs.length/\hs.length<=1000/\
 ∀r H',aQ H H'->H r=none->aGR H' r (rws W P ws hs)->Q (.ref r) H'
theorem aGT{P:Program}{w:World}{K:PySem.W.Frag}{mg:Str->Option Value}{base:Heap}{a:jX}(tx:Txt K mg a):bS P w K mg base gZ 5 a.rC a.rD ["works","position","wants","plan"] (aGS K a.cJ a.aR a.cE):=by
 have aGU:=aFa (P:=P) (w:=w) (base:=base) tx
 have aEx:=aC4 (P:=P) (w:=w) (base:=base) tx
 refine tx.xM.ok aA1 (λvs H Q E h=>?_) (λcdv A outer s H vs Q E hr h=>?_)
 ·obtain⟨w,p,lw,l,W,P,ws,hs,rfl,_⟩:=h
  rfl
 ·obtain⟨w,p,lw,l,W,P,ws,hs,rfl ,hW,hg,hP,hok,hw,hL,hpl,hlen,hz,k⟩:=h
  have hu:=kI hr
  refine aY (aE (aK (i:=4) aA1.nd (aH (aEx) (hr.mono (by decide)) (by rfl) tx.xH tx.pS.kp tx.xG .nil aZ (aA (Z.pv 0) (aA (Z.pv 1) (aA (Z.pv 3) aC)))))
   (aG (aN (bU (k:=3) (idx:=[0]) (N:=["ahead","want","planned","works"]) (cR (sc:=aF iA) (NX:=["works","position","wants","plan","positions"]) rfl rfl rfl (by decide +kernel)) rfl (uQ (k1:=true) (k2:=true) (k3:=true) (by rfl) tx.rY (aA (Z.pv 4) (aA (Z.pv 2) (aA (Z.pv 3) aC)))) (λ_ _ _ _=>(bI (K':=K) (n:=3) rfl (aM (aI (i:=0) (show(["ahead","want","planned","works"]:List Str).Nodup by decide +kernel)) (aM (aI (i:=1) (show(["ahead","want","planned","works"]:List Str).Nodup by decide +kernel)) (aM (aI (i:=2) (show(["ahead","want","planned","works"]:List Str).Nodup by decide +kernel)) bH))))) (kK (bK (by decide) (bK (by decide) (bK (by decide) hV)))) (λ_ _ _ _=>bT) (λ_ _ _ _=>(aH (aGU) (hr.mono (by decide)) (by rfl) tx.aBb tx.vC.kp tx.aBa .nil aZ (aA (Z.pv 3) (aA (Z.pv 0) (aA (Z.pv 1) (aA (Z.pv 2) aC)))))))))) ?_
  refine aS (σ:=[some (.ref w),some (.ref p),some (.ref lw),some (.ref l),none]) rfl ?_
  walk_at "w"
  refine⟨w,p,l,W,P,hs,rfl,hW,hg,hP,hok,hL,hpl,hz,λr H1 s1 hr=>?_⟩
  obtain⟨qp,gp,rp⟩:=hr.ex
  obtain⟨ql,gl,rl⟩:=(hL.tr s1.tr).ex
  have lqp:=rp.len
  rw[aMZ] at lqp
  have lql:=rl.len
  have hw1:=s1 _ _ hw
  walk_at "w"
  refine aGo (Src.lst gp) (Src.lst hw1) (Src.lst gl) ?_
  refine yZ (n:=hs.length) (by rw[bL];omega) (by rw[bL];omega) (by rw[bL];omega) (.inr (.inl (by rw[bL];omega))) (cK (by omega))
   (λi us H'=>aQ H1 H'/\∃rs,us=rs.map V.ref/\rs.length=i/\RL (RwA H') rs ((rws W P ws hs).take i)) ⟨aQ.refl _,[],rfl,rfl,RL.nil⟩
   (λi us H' hi ⟨s2,rs,e1,e2,e3⟩=>⟨⟨Src.lst (s2 _ _ gp),Src.lst (s2 _ _ hw1),Src.lst (s2 _ _ gl)⟩,by rw[e1,bL];omega⟩)
   (λi x y z us H' T hx hy hz ⟨s2,rs,e1,e2,e3⟩ nT=>?_) (λus H' ⟨s2,rs,e1,e2,e3⟩=>?_)
  ·obtain⟨q,Pq,_,rfl,hPq,hq⟩:=rp.get hx
   obtain⟨wv,hwv,rfl⟩:=gG hy
   obtain⟨qh,h,_,rfl,hhv,hqh⟩:=rl.get hz
   have hi:i < hs.length:=(qM.mp hhv).1
   rw[aH8 W (by omega)] at hPq
   cases hPq
   obtain⟨J,j,sT,gT⟩:=nw _ nT;rw[j]
   have s3:=s2.trans sT
   obtain⟨o1,o2⟩:=hpl.take hhv
   refine cP (jQ.of gT) rfl ?_
   walk_at "w"
   refine⟨w,q,qh,W,_,wv,h,rfl,hW.tr (s1.trans s3).tr,hg,hq.tk s3.tk,o1.pos hg hok,hqh.tk s3.tk,o2,λT2 H2 s4 hT2=>?_⟩
   refine⟨s3.trans s4,rs ++ [T2],by rw[e1,oA];rfl,by rw[sI,e2];rfl,?_⟩
   rw[take_snoc (aJW W hwv hhv)]
   exact(aJX e3 (sT.trans s4).tk).snoc hT2
  ·subst e1
   intro r nr
   obtain⟨H3,i3,s3,g3⟩:=nw _ nr;rw[i3]
   rw[Rw9 (by rw[aGQ W hlen];exact eA _)] at e3
   exact k r H3 (s1.trans (s2.trans s3)) ((s1.trans s2).free nr) ⟨rs,g3,aJX e3 s3.tk⟩
def aGV(K:PySem.W.Frag)(CW CM CS:Addr):Sp:=λvs H Q _=>∃(w p lw l:Addr) (W:WS) (P:Ps) (ws:List Int) (hs:List Hr),vs=[.ref w,.ref p,.ref lw,.ref l]/\dP CW CM CS H w W/\W.Good/\mG H p P/\vW W P/\H lw=some (.lst (ws.map V.int))/\yK H l hs/\dQ W P hs/\ws.length=hs.length/\hs.length<=1000/\
 ∀H',aQ H H'->Q (.int (List.sum ((rws W P ws hs).map List.sum))) H'
theorem aGW{P:Program}{w:World}{K:PySem.W.Frag}{mg:Str->Option Value}{base:Heap}{a:jX}(tx:Txt K mg a):bS P w K mg base gZ 6 a.rE a.rF ["works","position","wants","plan"] (aGV K a.cJ a.aR a.cE):=by
 have aIe:=aGT (P:=P) (w:=w) (base:=base) tx
 refine tx.xN.ok aGA (λvs H Q E h=>?_) (λcdv A outer s H vs Q E hr h=>?_)
 ·obtain⟨w,p,lw,l,W,P,ws,hs,rfl,_⟩:=h
  rfl
 ·obtain⟨w,p,lw,l,W,P,ws,hs,rfl ,hW,hg,hP,hok,hw,hL,hpl,hlen,hz,k⟩:=h
  have hu:=kI hr
  refine aY (aG (aN (aL (rc:=aAX K) (eC rfl) (by rfl) tx.lY kM (aA (bU (k:=1) (idx:=[]) (N:=["costs"]) (cR (sc:=aF iE) (NX:=["works","position","wants","plan"]) rfl rfl rfl (by decide +kernel)) rfl (bO (K':=K) (aH (aIe) (hr.mono (by decide)) (by rfl) tx.aCr tx.xM.kp tx.aCq .nil aZ (aA (Z.pv 0) (aA (Z.pv 1) (aA (Z.pv 2) (aA (Z.pv 3) aC)))))) (λ_ _ _ _=>(aI (i:=0) (show(["costs"]:List Str).Nodup by decide +kernel))) (dJ (by decide)) (λ_ _ _ _=>bT) (λ_ _ _ _=>(aL (rc:=aJF K) (aFG rfl) (by rfl) tx.lY kM (aA (Z.pv 0) aC)))) aC)))) ?_
  refine aS (σ:=[some (.ref w),some (.ref p),some (.ref lw),some (.ref l)]) rfl ?_
  walk_at "w"
  refine⟨w,p,lw,l,W,P,ws,hs,rfl,hW,hg,hP,hok,hw,hL,hpl,hlen,hz,λr H1 s1 nr hr=>?_⟩
  obtain⟨qs,gr,rr⟩:=hr.ex
  refine j8 (bX.of gr) ?_
  refine aK0 gr rr (by rw[aGQ W hlen];omega) (λq x N N' hq hN=>?_) ?_
  ·walk_at "w"
   refine aJG (jQ.of hq) ?_
   exact hN
  intro l2 n2
  obtain⟨H2,i2,s2,g2⟩:=nw _ n2;rw[i2]
  walk_at "w"
  refine nV (bX.of g2) ?_
  exact k H2 (s1.trans s2)
def lvO:Option SS->Int->List Int
 |none,_=>[0]
 |some s,l=>upL (max 0 (l - s.out)) (min s.cap (l+s.into)+1 - max 0 (l - s.out)).toNat
theorem aQY{W:WS}(g:W.Good){l n:Int}(h:yM W l)(hn:n∈lvO W.store l):LvW W l n:=by
 unfold yM at h
 unfold LvW
 cases e:W.store with
 |none=>
  rw[e] at hn
  exact Rb9.mp hn
 |some s=>
  rw[e] at hn h
  replace h:0<=l/\l<=s.cap:=h
  have hn':n∈upL (max 0 (l - s.out)) (min s.cap (l+s.into)+1 - max 0 (l - s.out)).toNat:=hn
  rw[aJU] at hn'
  show Lv s l n
  unfold Lv
  omega
inductive Fh where
 |run (k:Nat)
 |out (k:Nat)
 |lev
inductive Flt where
 |no
 |hours
 |at_ (i:Nat) (f:Fh)
structure aK1(W:WS)(h:Hr):Prop where
 ons:h.ons.length=W.specs.length
 outs:h.outs.length=W.specs.length
 bits:∀o∈h.ons,Bit o
theorem qH.shape{W:WS}{P:Ps}{h:Hr}(x:qH W P h):aK1 W h:=⟨x.ons,x.outs,x.bits⟩
theorem dQ.shape{W:WS}:∀{P:Ps}{hs:List Hr},dQ W P hs->∀h∈hs,aK1 W h
 |_,[],_,h,m=>by cases m
 |P,g::hs,x,h,m=>by
  rcases sZ.mp m with rfl|m
  ·exact x.1.shape
  ·exact dQ.shape (P:=nxt W P g) x.2 h m
def aEy(P:Ps)(h:Hr)(j:Nat):Prop:=∀s o,P.1[j]?=some s->h.ons[j]?=some o->s.1=o\/s.2=0
def aFS(W:WS)(h:Hr)(j:Nat):Prop:=∀m on out,W.specs[j]?=some m->h.ons[j]?=some on->h.outs[j]?=some out->aJV m on out
inductive HF (W:WS) (P:Ps) (h:Hr):Fh->Prop where
 |run (k:Nat) (a:∀j,j < k->aEy P h j) (n:¬aEy P h k):HF W P h (.run k)
 |out (k:Nat) (a:∀j,aEy P h j) (b:∀j,j < k->aFS W h j) (n:¬aFS W h k):HF W P h (.out k)
 |lev (a:∀j,aEy P h j) (b:∀j,aFS W h j) (n:¬LvW W P.2 h.lev):HF W P h .lev
theorem aFT{p:Nat->Prop}{k k':Nat}(a:∀j,j < k->p j)(n:¬p k)(a':∀j,j < k'->p j)(n':¬p k'):k=k':=by
 rcases Nat.lt_trichotomy k k' with h|h|h
 ·exact absurd (a' k h) n
 ·exact h
 ·exact absurd (a k' h) n'
theorem HF.uniq{W:WS}{P:Ps}{h:Hr}{f g:Fh}(x:HF W P h f)(y:HF W P h g):f=g:=by
 cases x with
 |run k a n=>
  cases y with
  |run k' a' n'=>rw[aFT a n a' n']
  |out _ m=>exact absurd (m k) n
  |lev m=>exact absurd (m k) n
 |out k a b n=>
  cases y with
  |run k' a' n'=>exact absurd (a k') n'
  |out k' _ b' n'=>rw[aFT b n b' n']
  |lev _ m=>exact absurd (m k) n
 |lev a b n=>
  cases y with
  |run k' a' n'=>exact absurd (a k') n'
  |out k' _ _ n'=>exact absurd (b k') n'
  |lev=>rfl
theorem HF.no{W:WS}{P:Ps}{h:Hr}{f:Fh}(x:HF W P h f)(z:qH W P h):False:=by
 cases x with
 |run k _ n=>exact n λs o a b=>z.may k s o a b
 |out k _ _ n=>exact n λm on out a b c=>z.out k m on out a b c
 |lev _ _ n=>exact n z.lev
theorem aK1.all{W:WS}{P:Ps}{h:Hr}(s:aK1 W h)(a:∀j,aEy P h j)(b:∀j,aFS W h j)(l:LvW W P.2 h.lev):qH W P h:=
 ⟨s.ons,s.outs,s.bits,λj s o x y=>a j s o x y,λj m on out x y z=>b j m on out x y z,l⟩
inductive PF (W:WS) (P:Ps) (n:Nat) (hs:List Hr):Flt->Prop where
 |hours (h:hs.length≠n):PF W P n hs .hours
 |no (h:hs.length=n) (p:dQ W P hs):PF W P n hs .no
 |at_ (i:Nat) (g:Hr) (f:Fh) (h:hs.length=n) (p:dQ W P (hs.take i)) (e:hs[i]?=some g) (x:HF W (aBo W P (hs.take i)) g f):PF W P n hs (.at_ i f)
theorem aPe{W:WS}{P:Ps}{hs:List Hr}{i i':Nat}{g:Hr}{f:Fh}(p':dQ W P (hs.take i'))(h:i < i')(e:hs[i]?=some g)(x:HF W (aBo W P (hs.take i)) g f):False:=by
 have e':(hs.take i')[i]?=some g:=by rw[List.getElem?_take,if_pos h];exact e
 have z:=(p'.take e').2
 rw[List.take_take,Nat.min_eq_left (Sy9 h)] at z
 exact x.no z
theorem PF.uniq{W:WS}{P:Ps}{n:Nat}{hs:List Hr}{f g:Flt}(x:PF W P n hs f)(y:PF W P n hs g):f=g:=by
 cases x with
 |hours h=>
  cases y with
  |hours=>rfl
  |no h'=>exact absurd h' h
  |at_ _ _ _ h'=>exact absurd h' h
 |no h p=>
  cases y with
  |hours h'=>exact absurd h h'
  |no=>rfl
  |at_ i g f _ _ e x=>exact(x.no (p.take e).2).elim
 |at_ i g f h p e x=>
  cases y with
  |hours h'=>exact absurd h h'
  |no _ p=>exact(x.no (p.take e).2).elim
  |at_ i' g' f' _ p' e' x'=>
   rcases Nat.lt_trichotomy i i' with l|l|l
   ·exact(aPe p' l e x).elim
   ·subst l
    rw[e] at e'
    cases e'
    rw[x.uniq x']
   ·exact(aPe p l e' x').elim
def FhV(i:Nat):Fh->List V
 |.run k=>[.str "run",.int i,.int k]
 |.out k=>[.str "output",.int i,.int k]
 |.lev=>[.str "level",.int i]
def aM1(H:Hp)(v:V):Flt->Prop
 |.no=>v=.non
 |.hours=>∃a,v=.ref a/\H a=some (.tup [.str "hours"])
 |.at_ i f=>∃a,v=.ref a/\H a=some (.tup (FhV i f))
theorem aM1.tk{H H':Hp}{v:V}(t:Tk H H'):∀{f:Flt},aM1 H v f->aM1 H' v f
 |.no,h=>h
 |.hours,⟨a,e,h⟩=>⟨a,e,t _ _ h⟩
 |.at_ _ _,⟨a,e,h⟩=>⟨a,e,t _ _ h⟩
theorem aM2{W:WS}(g:W.Good){l n:Int}(h:yM W l):n∈lvO W.store l↔LvW W l n:=by
 refine⟨aQY g h,λz=>?_⟩
 unfold yM at h
 unfold LvW at z
 cases e:W.store with
 |none=>rw[e] at z;exact Rb9.mpr z
 |some s=>
  rw[e] at z h
  replace h:0<=l/\l<=s.cap:=h
  obtain⟨a,b,c,d⟩ : Lv s l n:=z
  show n∈upL (max 0 (l - s.out)) (min s.cap (l+s.into)+1 - max 0 (l - s.out)).toNat
  rw[aJU]
  omega
theorem aM3(ns:List Int):(ns.map V.int).all j7=true:=by
 rw[To9]
 intro x hx
 obtain⟨n,_,rfl⟩:=Qy9.mp hx
 rfl
def aM4(m:MS)(on out:Int):Bool:=if on=0 then decide (out=0) else decide (m.least<=out) && decide (out<=m.least+aAF m.pieces)
theorem aIf{m:MS}{on out:Int}:aM4 m on out=true↔aJV m on out:=by
 unfold aM4 aJV
 by_cases h:on=0
 ·rw[if_pos h]
  simp[h]
 ·rw[if_neg h]
  simp[h]
def aC8(K:W.Frag)(C:Addr):Sp:=λvs H Q _=>∃(x:Addr) (s:SS) (l h:Int),vs=[.ref x,.int l,.int h]/\zB C H x s/\s.Good/\0<=l/\l<=8/\0<=h/\h<=48/\
 ∀q H',aQ H H'->H q=none->H' q=some (.lst ((upL (max (l - s.out*h) 0) (min (l+s.into*h) s.cap+1 - max (l - s.out*h) 0).toNat).map V.int))->Q (.ref q) H'
theorem aC9{mg:Str->Option Value}{a:jX}(tx:Txt K mg a):bS P w K mg base gZ 1 a.lG a.lH ["store","level","hours"] (aC8 K a.cE):=by
 refine tx.pV.ok nW (λvs H Q E h=>?_) (λcdv A outer s H vs Q E hr h=>?_)
 ·obtain⟨x,ss,l,h,rfl,_⟩:=h
  rfl
 ·obtain⟨x,ss,l,h,rfl ,hs,hg,l0,l1,h0,h1,k⟩:=h
  have hu:=kI hr
  refine aY (aE (aK (i:=3) nW.nd (aL (iI rfl) (by rfl) tx.rX uM (aA (aO hU (Z.pv 1) (aO cC (aU (K':=K) (Z.pv 0) rfl) (Z.pv 2))) (aA aD aC))))
   (aE (aK (i:=4) nW.nd (aL (yU rfl) (by rfl) tx.aAc aDN (aA (aO cM (Z.pv 1) (aO cC (aU (K':=K) (Z.pv 0) rfl) (Z.pv 2))) (aA (aU (K':=K) (Z.pv 0) rfl) aC))))
   (aG (aN (cZ (rc:=aIQ) (aIS rfl) (by rfl) tx.nZ uL (aA (cZ (rc:=aQI) aKE (by rfl) tx.gF aLS (aA (Z.pv 3) (aA (aO cM (Z.pv 4) aD) aC))) aC)))))) ?_
  obtain⟨dx,hx⟩:=hs.ex
  obtain⟨c0,c1⟩:=hg.cap
  obtain⟨i0,i1⟩:=hg.into
  obtain⟨o0,o1⟩:=hg.out
  have e1:0<=ss.out*h/\ss.out*h<=384:=⟨Rz9 o0 h0,Rv9 (Int.mul_le_mul o1 h1 h0 (by omega)) (by decide)⟩
  have e2:0<=ss.into*h/\ss.into*h<=384:=⟨Rz9 i0 h0,Rv9 (Int.mul_le_mul i1 h1 h0 (by omega)) (by decide)⟩
  refine aS (σ:=[some (.ref x),some (.int l),some (.int h),none,none]) rfl ?_
  walk_at "w"
  refine bZ hx tx.vK tx.aCD rfl ?_
  walk_at "w"
  refine bZ hx tx.vK tx.aBm rfl ?_
  walk_at "w"
  refine bZ hx tx.vK tx.aCC rfl ?_
  walk_at "w"
  intro p np
  walk_at "w"
  refine aMe aP (by omega) (by omega) ?_
  intro q nq
  exact k q _ ((aQ.new np).trans (aQ.new nq)) ((aQ.new np).free nq) aP
def aDa(K:PySem.W.Frag)(CW CM CS:Addr):Sp:=λvs H Q _=>∃(w:Addr) (W:WS) (l:Int),vs=[.ref w,.int l,.int 1]/\dP CW CM CS H w W/\W.Good/\yM W l/\∀q H',aQ H H'->H q=none->H' q=some (.lst ((lvO W.store l).map V.int))->Q (.ref q) H'
theorem aDb{P:Program}{w:World}{K:PySem.W.Frag}{mg:Str->Option Value}{base:Heap}{a:jX}(tx:Txt K mg a):bS P w K mg base gZ 2 a.lI a.lJ ["works","level","hours"] (aDa K a.cJ a.aR a.cE):=by
 have aEz:=aC9 (P:=P) (w:=w) (base:=base) tx
 refine tx.pW.ok aCQ (λvs H Q E h=>?_) (λcdv A outer s H vs Q E hr h=>?_)
 ·obtain⟨w,W,l,rfl,_⟩:=h
  rfl
 ·obtain⟨w,W,l,rfl ,hW,hg,hl,k⟩:=h
  have hu:=kI hr
  refine aY (aG (aN (qO (bA aGl (aU (K':=K) (Z.pv 0) rfl) eE (bY _)) (qQ aD) (aH (aEz) (hr.mono (by decide)) (by rfl) tx.xP tx.pV.kp tx.xO .nil aZ (aA (aU (K':=K) (Z.pv 0) rfl) (aA (Z.pv 1) (aA (Z.pv 2) aC))))))) ?_
  obtain⟨dx,lm,st,hw,hM,hst⟩:=hW.ex
  unfold yM at hl
  refine aS (σ:=[some (.ref w),some (.int l),some (.int 1)]) rfl ?_
  walk_at "w"
  refine bZ hw tx.dA tx.fA rfl ?_
  cases e:W.store with
  |none=>
   rw[e] at hst k
   replace hst:st=.non:=hst
   subst hst
   walk_at "w"
   intro q nq
   walk_at "w"
   exact k q _ (aQ.new nq) nq aP
  |some s=>
   rw[e] at hst k hl
   replace hl:0<=l/\l<=s.cap:=hl
   obtain⟨c,rfl,hc⟩:=hst
   have g1:=(hg.store s e).cap
   walk_at "w"
   refine bZ hw tx.dA tx.fA rfl ?_
   walk_at "w"
   refine⟨c,s,l,1,rfl,hc,hg.store s e,by omega,by omega,by decide,by decide,λq H' s1 nq hq=>k q H' s1 nq ?_⟩
   rw[hq]
   show _=some (HO.lst ((upL (max 0 (l - s.out)) (min s.cap (l+s.into)+1 - max 0 (l - s.out)).toNat).map V.int))
   rw[Int.mul_one,Int.mul_one,Int.max_comm 0,Int.min_comm s.cap]
def aEA(K:PySem.W.Frag)(CW CM CS:Addr):Sp:=λvs H Q _=>∃(w:Addr) (W:WS) (l:Int),vs=[.ref w,.int l]/\dP CW CM CS H w W/\W.Good/\yM W l/\∀q H',aQ H H'->H q=none->H' q=some (.lst ((lvO W.store l).map V.int))->Q (.ref q) H'
theorem aEB{P:Program}{w:World}{K:PySem.W.Frag}{mg:Str->Option Value}{base:Heap}{a:jX}(tx:Txt K mg a):bS P w K mg base gZ 3 a.nF a.nG ["works","level"] (aEA K a.cJ a.aR a.cE):=by
 have aEC:=aDb (P:=P) (w:=w) (base:=base) tx
 refine tx.sR.ok aD8 (λvs H Q E h=>?_) (λcdv A outer s H vs Q E hr h=>?_)
 ·obtain⟨w,W,l,rfl,_⟩:=h
  rfl
 ·obtain⟨w,W,l,rfl ,hW,hg,hl,k⟩:=h
  have hu:=kI hr
  refine aY (aG (aN (aH (aEC) (hr.mono (by decide)) (by rfl) tx.xR tx.pW.kp tx.xQ .nil aZ (aA (Z.pv 0) (aA (Z.pv 1) (aA aD aC)))))) ?_
  refine aS (σ:=[some (.ref w),some (.int l)]) rfl ?_
  walk_at "w"
  exact⟨w,W,l,rfl,hW,hg,hl,k⟩
def aED(K:W.Frag)(C:Addr):Sp:=λvs H Q _=>∃(x:Addr) (m:MS) (on out:Int),vs=[.ref x,.int on,.int out]/\cO C H x m/\m.Good/\∀H',aQ H H'->Q (.bl (aM4 m on out)) H'
theorem aEE{P:Program}{w:World}{K:PySem.W.Frag}{mg:Str->Option Value}{base:Heap}{a:jX}(tx:Txt K mg a):bS P w K mg base gZ 2 a.nH a.nI ["machine","on","output"] (aED K a.aR):=by
 have qJ:=vX (P:=P) (w:=w) (base:=base) tx
 refine tx.sS.ok aD9 (λvs H Q E h=>?_) (λcdv A outer s H vs Q E hr h=>?_)
 ·obtain⟨x,m,on,out,rfl,_⟩:=h
  rfl
 ·obtain⟨x,m,on,out,rfl ,hm,hg,k⟩:=h
  have hu:=kI hr
  refine aY (aE (bV (bA (r:=v5 K) (jF hu) (Z.pv 1) aD (bY _)) (aG (aN (mJ (r:=v5 K) (jF hu) (Z.pv 2) aD (bY _)))) bD)
   (aG (aN (wO aCb aCb (aU (K':=K) (Z.pv 0) rfl) (Z.pv 2) (aCf (Z.pv 0) tx.bE tx.m_Machine_most (qJ) (hr.mono (by decide)) tx.pU .nil aZ))))) ?_
  obtain⟨dx,pl,hx,hp⟩:=hm.ex
  refine aS (σ:=[some (.ref x),some (.int on),some (.int out)]) rfl ?_
  unfold aM4 at k
  walk_at "w"
  refine cW (λh=>?_) (λh=>?_)
  ·rw[if_pos h] at k
   walk_at "w"
   exact k _ (aQ.refl _)
  ·rw[if_neg h] at k
   walk_at "w"
   refine bZ hx tx.bE tx.cV rfl ?_
   walk_at "w"
   refine cW (λh1=>?_) (λh1=>?_)
   ·rw[decide_eq_true h1,Sn9] at k
    walk_at "w"
    refine⟨x,dx,_,rfl,hx,rfl,?_⟩
    walk_at "w"
    refine⟨x,m,rfl,hm,hg,λH1 s1=>?_⟩
    walk_at "w"
    exact k _ s1
   ·rw[decide_eq_false h1,Sj9] at k
    walk_at "w"
    exact k _ (aQ.refl _)
def aFc(K:PySem.W.Frag)(CW CM CS:Addr):Sp:=λvs H Q _=>∃(w p y:Addr) (W:WS) (P:Ps) (h:Hr) (i:Nat),vs=[.ref w,.ref p,.int i,.ref y]/\dP CW CM CS H w W/\W.Good/\mG H p P/\vW W P/\aH7 H y h/\aK1 W h/\
 (∀f v H',aQ H H'->HF W P h f->aM1 H' v (.at_ i f)->Q v H')/\(qH W P h->∀H',aQ H H'->Q .non H')
theorem aFd{P:Program}{w:World}{K:PySem.W.Frag}{mg:Str->Option Value}{base:Heap}{a:jX}(tx:Txt K mg a):bS P w K mg base gZ 4 a.oS a.oU ["works","position","hour","planned"] (aFc K a.cJ a.aR a.cE):=by
 have mC:=uD (P:=P) (w:=w) (base:=base) tx
 have aFe:=aEB (P:=P) (w:=w) (base:=base) tx
 have aFf:=aEE (P:=P) (w:=w) (base:=base) tx
 refine tx.vD.ok jL (λvs H Q E h=>?_) (λcdv A outer s H vs Q E hr h=>?_)
 ·obtain⟨w,p,y,W,P,h,i,rfl,_⟩:=h
  rfl
 ·obtain⟨w,p,y,W,P,h,i,rfl ,hW,hg,hP,hok,hh,ho,k1,k2⟩:=h
  have hu:=kI hr
  refine aY (aE (bW PassesOwn.never rfl (eO (K':=K) (by rfl) tx.cN (aA (aU (K':=K) (Z.pv 0) rfl) aC)) (bI (K':=K) (n:=2) rfl (aM (aI (i:=4) jL.nd) (aM (aI (i:=5) jL.nd) bH))) (aG (bV (gM (eF (aH (mC) (hr.mono (by decide)) (by rfl) tx.tT tx.pQ.kp tx.tP .nil aZ (aA (Z.pv 5) (aA (aJ (K':=K) (aJ (K':=K) (Z.pv 1) aD) (Z.pv 4)) (aA (aJ (K':=K) (aJ (K':=K) (Z.pv 3) aD) (Z.pv 4)) aC)))))) (aG (aN (yY yW (Z.pv 2) (Z.pv 4)))) bD)))
   (aE (bW PassesOwn.never rfl (eO (K':=K) (by rfl) tx.cN (aA (aU (K':=K) (Z.pv 0) rfl) aC)) (bI (K':=K) (n:=2) rfl (aM (aI (i:=4) jL.nd) (aM (aI (i:=5) jL.nd) bH))) (aG (bV (gM (eF (aH (aFf) (hr.mono (by decide)) (by rfl) tx.zW tx.sS.kp tx.zV .nil aZ (aA (Z.pv 5) (aA (aJ (K':=K) (aJ (K':=K) (Z.pv 3) aD) (Z.pv 4)) (aA (aJ (K':=K) (aJ (K':=K) (Z.pv 3) aD) (Z.pv 4)) aC)))))) (aG (aN (yY yW (Z.pv 2) (Z.pv 4)))) bD)))
   (aE (bV (bA (r:=rIn K true) aGe (aJ (K':=K) (Z.pv 3) aD) (aH (aFe) (hr.mono (by decide)) (by rfl) tx.zU tx.sR.kp tx.zT .nil aZ (aA (Z.pv 0) (aA (aJ (K':=K) (Z.pv 1) aD) aC))) (by with_unfolding_all rfl)) (aG (aN (jR yW (Z.pv 2)))) bD)
   (aG (aN eE))))) ?_
  have hlen:=hg.len
  obtain⟨dx,lm,st,hw,hM,hst⟩:=hW.ex
  obtain⟨qm,hm,rm⟩:=hM.ex
  obtain⟨t1,hp,hs⟩:=hP.ex
  obtain⟨qs,ht1,rs⟩:=hs.ex
  obtain⟨t,u,g1,g2,g3⟩:=hh.ex
  have lm1:=rm.len
  have ls1:=rs.len
  have pl:=hok.len
  have l1:=ho.ons
  have l2:=ho.outs
  refine aS (σ:=[some (.ref w),some (.ref p),some (.int i),some (.ref y),none,none]) rfl ?_
  walk_at "w"
  refine bZ hw tx.dA tx.cB rfl ?_
  walk_at "w"
  refine aAW (bX.of hm) ?_
  refine oJ (xs:=qm.map V.ref) (λj σ' H'=>∃y4 y5,σ'=[some (.ref w),some (.ref p),some (.int i),some (.ref y),y4,y5]/\aQ H H'/\∀j',j' < j->aEy P h j')
   ⟨_,_,rfl,aQ.refl _,λj' z=>absurd z (Tc9 _)⟩ (λj σ' H' hj ⟨y4,y5,e,s1,mm⟩=>bX.of (s1 _ _ hm)) (λj v σ' H' T hv ⟨y4,y5,e,s1,mm⟩ nT=>?_) (λσ' H' ⟨y4,y5,e,s1,mm⟩=>?_)
  ·subst e
   obtain⟨q,m,eq,rfl,em,hq⟩:=rm.get hv
   have hj:j < W.specs.length:=(qM.mp em).1
   obtain⟨sq,esq,hsq⟩:=rs.ix (show j < P.1.length by omega)
   have es:P.1[j]?=some (P.1[j]'(by omega)):=eU _
   generalize P.1[j]'(by omega)=sv at hsq es
   obtain⟨on,eo⟩ : ∃on,h.ons[j]?=some on:=⟨_,eU (by omega)⟩
   obtain⟨H1,i1,s2,gT⟩:=nw _ nT;rw[i1]
   have s3:=s1.trans s2
   have hp1:=s3 _ _ hp
   have ht2:=s3 _ _ ht1
   have g11:=s3 _ _ g1
   have g21:=s3 _ _ g2
   have x1:atI (qs.map V.ref) (j:Int)=some (.ref sq):=aOH esq
   have x2:atI (h.ons.map V.int) (j:Int)=some (.int on):=aGP eo
   refine cP (jQ.of gT) rfl ?_
   walk_at "w"
   refine⟨_,sq,sv.1,sv.2,on,rfl,s3 _ _ hsq,?_⟩
   walk_at "w"
   by_cases hmay:sv.1=on\/sv.2=0
   ·rw[show(decide (sv.1=on) || decide (sv.2=0))=true by rcases hmay with h|h <;> simp[h]]
    walk_at "w"
    refine⟨_,_,rfl,s3,λj' hj'=>?_⟩
    by_cases z:j' < j
    ·exact mm j' z
    ·have e:j'=j:=by omega
     subst e
     intro s o a b
     rw[es] at a
     rw[eo] at b
     cases a
     cases b
     exact hmay
   ·rw[show(decide (sv.1=on) || decide (sv.2=0))=false by simp only[not_or] at hmay;simp[hmay.1,hmay.2]]
    walk_at "w"
    intro T2 nT2
    obtain⟨H2,i2,s4,g4⟩:=nw _ nT2;rw[i2]
    walk_at "w"
    exact k1 (.run j) _ H2 (s3.trans s4) (.run j mm λz=>hmay (z sv on es eo)) ⟨T2,rfl,g4⟩
  subst e
  rw[bL,lm1] at mm
  have may:∀j,aEy P h j:=λj s o a b=>mm j (by have:=(qM.mp a).1;omega) s o a b
  have hw':=s1 _ _ hw
  walk_at "w"
  refine bZ hw' tx.dA tx.cB rfl ?_
  walk_at "w"
  refine aAW (bX.of (s1 _ _ hm)) ?_
  refine oJ (xs:=qm.map V.ref) (λj σ' H'=>∃y4 y5,σ'=[some (.ref w),some (.ref p),some (.int i),some (.ref y),y4,y5]/\aQ H H'/\∀j',j' < j->aFS W h j')
   ⟨_,_,rfl,s1,λj' z=>absurd z (Tc9 _)⟩ (λj σ' H' hj ⟨y4,y5,e,s1,mo⟩=>bX.of (s1 _ _ hm)) (λj v σ' H' T hv ⟨y4,y5,e,s1,mo⟩ nT=>?_) (λσ' H' ⟨y4,y5,e,s1,mo⟩=>?_)
  ·subst e
   obtain⟨q,m,eq,rfl,em,hq⟩:=rm.get hv
   have hj:j < W.specs.length:=(qM.mp em).1
   obtain⟨on,eo⟩ : ∃on,h.ons[j]?=some on:=⟨_,eU (by omega)⟩
   obtain⟨ou,eu⟩ : ∃ou,h.outs[j]?=some ou:=⟨_,eU (by omega)⟩
   obtain⟨H1,i1,s2,gT⟩:=nw _ nT;rw[i1]
   have s3:=s1.trans s2
   have g11:=s3 _ _ g1
   have g21:=s3 _ _ g2
   have g31:=s3 _ _ g3
   have x1:atI (h.outs.map V.int) (j:Int)=some (.int ou):=aGP eu
   have x2:atI (h.ons.map V.int) (j:Int)=some (.int on):=aGP eo
   refine cP (jQ.of gT) rfl ?_
   walk_at "w"
   refine⟨q,m,on,ou,rfl,hq.tr s3.tr,hg.specs _ (oH em),λH2 s4=>?_⟩
   walk_at "w"
   by_cases hout:aM4 m on ou=true
   ·rw[hout]
    walk_at "w"
    refine⟨_,_,rfl,s3.trans s4,λj' hj'=>?_⟩
    by_cases z:j' < j
    ·exact mo j' z
    ·have e:j'=j:=by omega
     subst e
     intro m' on' ou' a b c
     rw[em] at a
     rw[eo] at b
     rw[eu] at c
     cases a
     cases b
     cases c
     exact aIf.mp hout
   ·rw[Bool.not_eq_true] at hout
    rw[hout]
    walk_at "w"
    intro T2 nT2
    obtain⟨H3,i2,s5,g4⟩:=nw _ nT2;rw[i2]
    walk_at "w"
    refine k1 (.out j) _ H3 (s3.trans (s4.trans s5)) (.out j may mo λz=>?_) ⟨T2,rfl,g4⟩
    have z':=aIf.mpr (z m on ou em eo eu)
    rw[hout] at z'
    cases z'
  subst e
  rw[bL,lm1] at mo
  have out:∀j,aFS W h j:=λj m on ou a b c=>mo j (qM.mp a).1 m on ou a b c
  have g11:=s1 _ _ g1
  have hp1:=s1 _ _ hp
  walk_at "w"
  refine⟨w,W,P.2,rfl,hW.tr s1.tr,hg,hok.lev,λq H5 s5 nq hq=>?_⟩
  walk_at "w"
  refine aQH (bX.of hq) rfl (aM3 _) ?_
  rw[aH5]
  walk_at "w"
  refine aAU (λz=>?_) (λz=>?_)
  ·walk_at "w"
   intro T2 nT2
   obtain⟨H3,i2,s6,g4⟩:=nw _ nT2;rw[i2]
   walk_at "w"
   exact k1 .lev _ H3 (s1.trans (s5.trans s6)) (.lev may out λy=>z ((aM2 hg hok.lev).mpr y)) ⟨T2,rfl,g4⟩
  ·walk_at "w"
   exact k2 (ho.all may out ((aM2 hg hok.lev).mp z)) _ (s1.trans s5)
def aFg(K:PySem.W.Frag)(CW CM CS:Addr):Sp:=λvs H Q _=>∃(w p lw l:Addr) (W:WS) (P:Ps) (ws:List Int) (hs:List Hr),vs=[.ref w,.ref p,.ref lw,.ref l]/\dP CW CM CS H w W/\W.Good/\mG H p P/\vW W P/\H lw=some (.lst (ws.map V.int))/\yK H l hs/\(∀h∈hs,aK1 W h)/\
 ∀f v H',aQ H H'->PF W P ws.length hs f->aM1 H' v f->Q v H'
theorem aFh{P:Program}{w:World}{K:PySem.W.Frag}{mg:Str->Option Value}{base:Heap}{a:jX}(tx:Txt K mg a):bS P w K mg base gZ 5 a.oV a.oW ["works","position","wants","plan"] (aFg K a.cJ a.aR a.cE):=by
 have aGX:=aFd (P:=P) (w:=w) (base:=base) tx
 have m5:=rZ (P:=P) (w:=w) (base:=base) tx
 refine tx.vE.ok jM (λvs H Q E h=>?_) (λcdv A outer s H vs Q E hr h=>?_)
 ·obtain⟨w,p,lw,l,W,P,ws,hs,rfl,_⟩:=h
  rfl
 ·obtain⟨w,p,lw,l,W,P,ws,hs,rfl ,hW,hg,hP,hok,hw,hL,hall,k⟩:=h
  have hu:=kI hr
  refine aY (aE (bV (bA (r:=aKy K) (aGh hu) (aL (rc:=wK K) dC (by rfl) tx.lX kL (aA (Z.pv 3) aC)) (aL (rc:=wK K) dC (by rfl) tx.lX kL (aA (Z.pv 2) aC)) (bY _)) (aG (aN (aOm yW))) bD)
   (aE (bW PassesOwn.never rfl (eO (K':=K) (by rfl) tx.cN (aA (Z.pv 3) aC)) (bI (K':=K) (n:=2) rfl (aM (aI (i:=4) jM.nd) (aM (aI (i:=5) jM.nd) bH))) (aE (aK (i:=6) jM.nd (aH (aGX) (hr.mono (by decide)) (by rfl) tx.aBd tx.vD.kp tx.aBc .nil aZ (aA (Z.pv 0) (aA (Z.pv 1) (aA (Z.pv 4) (aA (Z.pv 5) aC))))))
   (aE (bV (bA aBS (Z.pv 6) eE (bY _)) (aG (aN (Z.pv 6))) bD)
   (aG (aK (i:=1) jM.nd (aH (m5) (hr.mono (by decide)) (by rfl) tx.mV tx.jA.kp tx.mU .nil aZ (aA (Z.pv 0) (aA (Z.pv 1) (aA (aJ (K':=K) (Z.pv 5) aD) (aA (aJ (K':=K) (Z.pv 5) aD) aC))))))))))
   (aG (aN eE)))) ?_
  obtain⟨ql,hl,rl⟩:=hL.ex
  have ll:=rl.len
  refine aS (σ:=[some (.ref w),some (.ref p),some (.ref lw),some (.ref l),none,none,none]) rfl ?_
  walk_at "w"
  rw[bL,bL,ll]
  refine aAU (λz=>?_) (λz=>?_)
  ·walk_at "w"
   intro T nT
   obtain⟨H1,i1,s1,e1⟩:=nw _ nT;rw[i1]
   walk_at "w"
   exact k .hours _ H1 s1 (.hours (by omega)) ⟨T,rfl,e1⟩
  have hz:hs.length=ws.length:=by omega
  walk_at "w"
  refine aAW (bX.of hl) ?_
  refine oJ (xs:=ql.map V.ref) (λi σ' H'=>∃p' y4 y5 y6,σ'=[some (.ref w),some (.ref p'),some (.ref lw),some (.ref l),y4,y5,y6]/\aQ H H'/\mG H' p' (aBo W P (hs.take i))/\dQ W P (hs.take i))
   ⟨p,_,_,_,rfl,aQ.refl _,hP,trivial⟩ (λi σ' H' hi ⟨p',y4,y5,y6,e,s1,hp',po⟩=>bX.of (s1 _ _ hl)) (λi v σ' H' T hv ⟨p',y4,y5,y6,e,s1,hp',po⟩ nT=>?_) (λσ' H' ⟨p',y4,y5,y6,e,s1,hp',po⟩=>?_)
  ·subst e
   obtain⟨q,h,_,rfl,hh,hq⟩:=rl.get hv
   have pos:=po.pos hg hok
   obtain⟨H1,i1,s2,gT⟩:=nw _ nT;rw[i1]
   have s3:=s1.trans s2
   obtain⟨t,u,g1,g2,g3⟩:=(hq.tk s3.tk).ex
   refine cP (jQ.of gT) rfl ?_
   walk_at "w"
   refine⟨w,p',q,W,_,h,i,rfl,hW.tr s3.tr,hg,hp'.tk s2.tk,pos,hq.tk s3.tk,hall h (oH hh),λf v H2 s4 hf hv=>?_,λhk H2 s4=>?_⟩
   ·obtain⟨c,rfl,hc⟩:=id hv
    walk_at "w"
    exact k (.at_ i f) _ H2 (s3.trans s4) (.at_ i h f hz po hh hf) hv
   ·have g14:=s4 _ _ g1
    walk_at "w"
    refine⟨w,p',t,W,_,h.ons,h.lev,rfl,hW.tr (s3.trans s4).tr,hg,hp'.tk (s2.trans s4).tk,pos.len,s4 _ _ g2,hk.ons,hk.may,λr H3 s5 hr=>?_⟩
    walk_at "w"
    refine⟨r,_,_,_,rfl,s3.trans (s4.trans s5),?_,?_⟩
    ·rw[take_snoc hh,aB2]
     exact hr
    ·rw[take_snoc hh]
     exact po.snoc hk
  ·subst e
   rw[bL,ll,Qv9] at po
   walk_at "w"
   exact k .no _ H' s1 (.no hz po) rfl
def flt(m:MS):Int->Int->List Int->Nat->V
 |_,_,[],_=>.non
 |o,d,on::r,i=>if o=on\/d=0 then flt m (tD m o d on).1 (tD m o d on).2 r (i+1) else .int i
theorem aJY{ns:List Int}{i:Nat}{n:Int}(h:ns[i]?=some n):ns.drop i=n::ns.drop (i+1):=by
 obtain⟨hi,e⟩:=qM.mp h
 rw[Sk9 hi,e]
def aGY(K:W.Frag)(C:Addr):Sp:=λvs H Q _=>∃(q:Addr) (m:MS) (t:Addr) (o d:Int) (p:Addr) (ns:List Int),vs=[.ref q,.ref t,.ref p]/\cO C H q m/\H t=some (.tup [.int o,.int d])/\H p=some (.lst (ns.map V.int))/\
 ∀H',aQ H H'->Q (flt m o d ns 0) H'
theorem aGZ{mg:Str->Option Value}{a:jX}(tx:Txt K mg a):bS P w K mg base gZ 3 a.rG a.rH ["machine","state","run"] (aGY K a.aR):=by
 have mC:=uD (P:=P) (w:=w) (base:=base) tx
 have fB:=mB (P:=P) (w:=w) (base:=base) tx
 refine tx.xS.ok oK (λvs H Q E h=>?_) (λcdv A outer s H vs Q E hr h=>?_)
 ·obtain⟨q,m,t,o,d,p,ns,rfl,_⟩:=h
  rfl
 ·obtain⟨q,m,t,o,d,p,ns,rfl ,hm,ht,hp,k⟩:=h
  have hu:=kI hr
  refine aY (aE (bW PassesOwn.never rfl (eO (K':=K) (by rfl) tx.cN (aA (Z.pv 2) aC)) (bI (K':=K) (n:=2) rfl (aM (aI (i:=3) oK.nd) (aM (aI (i:=4) oK.nd) bH))) (aE (bV (gM (eF (aH (mC) (hr.mono (by decide)) (by rfl) tx.tT tx.pQ.kp tx.tP .nil aZ (aA (Z.pv 0) (aA (Z.pv 1) (aA (Z.pv 4) aC)))))) (aG (aN (Z.pv 3))) bD)
   (aG (aK (i:=1) oK.nd (aH (fB) (hr.mono (by decide)) (by rfl) tx.jO tx.gX.kp tx.jN .nil aZ (aA (Z.pv 0) (aA (Z.pv 1) (aA (Z.pv 4) aC))))))))
   (aG (aN eE))) ?_
  refine aS (σ:=[some (.ref q),some (.ref t),some (.ref p),none,none]) rfl ?_
  walk_at "w"
  refine aAW (bX.of hp) ?_
  refine oJ (xs:=ns.map V.int) (λi σ' H'=>∃t' o' d' x3 x4,σ'=[some (.ref q),some (.ref t'),some (.ref p),x3,x4]/\H' t'=some (.tup [.int o',.int d'])/\aQ H H'/\flt m o' d' (ns.drop i) i=flt m o d ns 0)
   ⟨t,o,d,_,_,rfl,ht,aQ.refl _,rfl⟩ (λi σ' H' hi ⟨t',o',d',x3,x4,e,h1,h2,h3⟩=>bX.of (h2 _ _ hp)) (λi x σ' H' T hx ⟨t',o',d',x3,x4,e,h1,h2,h3⟩ nT=>?_) (λσ' H' ⟨t',o',d',x3,x4,e,h1,h2,h3⟩=>?_)
  ·subst e
   rw[pG] at hx
   obtain⟨n,hn,rfl⟩ : ∃n,ns[i]?=some n/\x=.int n:=by
    cases hq:ns[i]? with
    |none=>rw[hq] at hx;cases hx
    |some n=>rw[hq] at hx;cases hx;exact⟨n,rfl,rfl⟩
   rw[aJY hn] at h3
   have sT:=aQ.new (o:=.tup [.int (i:Int),.int n]) nT
   refine cP (jQ.of aP) rfl ?_
   walk_at "w"
   refine⟨_,_,_,_,_,rfl,sT _ _ h1,?_⟩
   walk_at "w"
   have h3':(if o'=n\/d'=0 then flt m (tD m o' d' n).1 (tD m o' d' n).2 (ns.drop (i+1)) (i+1) else .int i)=flt m o d ns 0:=h3
   by_cases hmay:o'=n\/d'=0
   ·rw[if_pos hmay] at h3'
    rw[show(decide (o'=n) || decide (d'=0))=true by rcases hmay with h|h <;> simp[h]]
    walk_at "w"
    refine⟨q,m,t',o',d',n,rfl,hm.same (h2.trans sT),sT _ _ h1,hmay,λT2 H2 s2 nT2 hT2=>?_⟩
    walk_at "w"
    exact⟨T2,_,_,_,_,rfl,hT2,(h2.trans sT).trans s2,h3'⟩
   ·rw[if_neg hmay] at h3'
    rw[show(decide (o'=n) || decide (d'=0))=false by simp only[not_or] at hmay;simp[hmay.1,hmay.2]]
    walk_at "w"
    rw[<-h3'] at k
    exact k _ (h2.trans sT)
  ·subst e
   rw[bL,List.drop_length] at h3
   walk_at "w"
   have h3':V.non=flt m o d ns 0:=h3
   rw[h3']
   exact k _ h2
def bgs:Int->List Int->Nat->List Int
 |_,[],_=>[]
 |o,on::r,i=>(if on=1/\o=0 then [(i:Int)] else [])++bgs on r (i+1)
def aQZ(m:MS)(o:Int)(ns:List Int):Int:=m.begin_*((bgs o ns 0).length:Int)+m.run*(ns.count 1:Nat)+m.rest*(ns.count 0:Nat)
def aDc(K:W.Frag)(C:Addr):Sp:=λvs H Q _=>∃(q:Addr) (m:MS) (t:Addr) (o d:Int) (p:Addr) (ns:List Int),vs=[.ref q,.ref t,.ref p]/\cO C H q m/\H t=some (.tup [.int o,.int d])/\H p=some (.lst (ns.map V.int))/\
 flt m o d ns 0=.non/\∀H',aQ H H'->Q .non H'
theorem aDd{mg:Str->Option Value}{a:jX}(tx:Txt K mg a):bS P w K mg base gZ 4 a.lK a.lM ["machine","state","run"] (aDc K a.aR):=by
 have aIg:=aGZ (P:=P) (w:=w) (base:=base) tx
 refine tx.pX.ok vR (λvs H Q E h=>?_) (λcdv A outer s H vs Q E hr h=>?_)
 ·obtain⟨q,m,t,o,d,p,ns,rfl,_⟩:=h
  rfl
 ·obtain⟨q,m,t,o,d,p,ns,rfl ,hm,ht,hp,hf,k⟩:=h
  have hu:=kI hr
  refine aY (aE (aK (i:=3) vR.nd (aH (aIg) (hr.mono (by decide)) (by rfl) tx.aCv tx.xS.kp tx.aCu .nil aZ (aA (Z.pv 0) (aA (Z.pv 1) (aA (Z.pv 2) aC)))))
   (aG (bV (bA aBS (Z.pv 3) eE (bY _)) (aG qP) bD))) ?_
  refine aS (σ:=[some (.ref q),some (.ref t),some (.ref p),none]) rfl ?_
  walk_at "w"
  refine⟨q,m,t,o,d,p,ns,rfl,hm,ht,hp,λH1 s1=>?_⟩
  rw[hf]
  walk_at "w"
  exact k _ s1
def aFi(K:W.Frag)(C:Addr):Sp:=λvs H Q _=>∃(q:Addr) (m:MS) (t:Addr) (o d:Int) (p:Addr) (ns:List Int),vs=[.ref q,.ref t,.ref p]/\cO C H q m/\H t=some (.tup [.int o,.int d])/\H p=some (.lst (ns.map V.int))/\ns.length<=48/\
 flt m o d ns 0=.non/\∀c H',aQ H H'->H c=none->H' c=some (.lst ((bgs o ns 0).map V.int))->Q (.ref c) H'
theorem aFj{mg:Str->Option Value}{a:jX}(tx:Txt K mg a):bS P w K mg base gZ 5 a.oX a.oY ["machine","state","run"] (aFi K a.aR):=by
 have aEF:=aDd (P:=P) (w:=w) (base:=base) tx
 refine tx.vF.ok gW (λvs H Q E h=>?_) (λcdv A outer s H vs Q E hr h=>?_)
 ·obtain⟨q,m,t,o,d,p,ns,rfl,_⟩:=h
  rfl
 ·obtain⟨q,m,t,o,d,p,ns,rfl ,hm,ht,hp,hl,hn,k1⟩:=h
  have hu:=kI hr
  refine aY (aE (hX (aH (aEF) (hr.mono (by decide)) (by rfl) tx.xU tx.pX.kp tx.xT .nil aZ (aA (Z.pv 0) (aA (Z.pv 1) (aA (Z.pv 2) aC)))))
   (aE (aK (i:=3) gW.nd (tI aC))
   (aE (aK (i:=4) gW.nd (aJ (K':=K) (Z.pv 1) aD))
   (aE (bW PassesOwn.never rfl (eO (K':=K) (by rfl) tx.cN (aA (Z.pv 2) aC)) (bI (K':=K) (n:=2) rfl (aM (aI (i:=5) gW.nd) (aM (aI (i:=6) gW.nd) bH))) (aE (bV (kO (yX (bA (r:=v5 K) (jF hu) (Z.pv 6) aD (bY _)) (uP (bA (r:=v5 K) (jF hu) (Z.pv 4) aD (bY _))))) (aG (hX (jV (K':=K) (Z.pv 3) (aA (Z.pv 5) aC)))) bD)
   (aG (aK (i:=4) gW.nd (Z.pv 6)))))
   (aG (aN (Z.pv 3))))))) ?_
  refine aS (σ:=[some (.ref q),some (.ref t),some (.ref p),none,none,none,none]) rfl ?_
  walk_at "w"
  refine⟨q,m,t,o,d,p,ns,rfl,hm,ht,hp,hn,λH1 s1=>?_⟩
  walk_at "w"
  intro c nc
  obtain⟨H2,i2,s2,g2⟩:=nw _ nc;rw[i2]
  have ht2:=(s1.trans s2) _ _ ht
  have hp2:=(s1.trans s2) _ _ hp
  have cp:c≠p:=λz=>by rw[z] at nc;exact bM nc (s1 _ _ hp) rfl
  walk_at "w"
  refine aAW (bX.of hp2) ?_
  refine oJ (xs:=ns.map V.int) (λi σ' H'=>∃(a':Int) (bs:List Int) (x5 x6:Option V),σ'=[some (.ref q),some (.ref t),some (.ref p),some (.ref c),some (.int a'),x5,x6]/\H' c=some (.lst (bs.map V.int))/\bs.length<=i/\bs++bgs a' (ns.drop i) i=bgs o ns 0/\aQ H1 H')
   ⟨o,[],_,_,rfl,g2,eA _,rfl,s2⟩ (λi σ' H' hi ⟨a',bs,x5,x6,e,g,lb,eb,s'⟩=>bX.of (s' _ _ (s1 _ _ hp))) (λi x σ' H' T hx ⟨a',bs,x5,x6,e,g,lb,eb,s'⟩ nT=>?_) (λσ' H' ⟨a',bs,x5,x6,e,g,lb,eb,s'⟩=>?_)
  ·subst e
   rw[pG] at hx
   obtain⟨n,hn',rfl⟩:=Qw9.mp hx
   have hi:i < ns.length:=(qM.mp hn').1
   rw[aJY hn'] at eb
   obtain⟨H3,i3,s3,g3⟩:=nw (.tup [.int (i:Int),.int n]) nT;rw[i3]
   refine cP (jQ.of g3) rfl ?_
   have g':=s3 _ _ g
   have eb':bs++((if n=1/\a'=0 then [(i:Int)] else [])++bgs n (ns.drop (i+1)) (i+1))=bgs o ns 0:=eb
   walk_at "w"
   refine cW (λh1=>?_) (λh1=>?_)
   ·walk_at "w"
    refine cW (λh2=>?_) (λh2=>?_)
    ·rw[if_pos ⟨h1,h2⟩,<-Tg9] at eb'
     walk_at "w"
     refine uO (bX.of g') ?_
     walk_at "w"
     refine aAj (xs:=bs.map V.int) g' (zF (by rw[bL];omega:(bs.map V.int).length < 1000) (cK (by simp))) ?_
     obtain⟨H4,i4,k4,g4⟩:=wr H3 c (.lst (bs.map V.int ++ [.int (i:Int)]));rw[i4]
     walk_at "w"
     exact⟨n,bs ++ [(i:Int)],_,_,rfl,by rw[g4,oA];rfl,by rw[sI];simp;exact lb,eb',λb o e=>k4 _ _ (s3 _ _ (s' _ _ e)) (bM nc e)⟩
    ·rw[if_neg (λz=>h2 z.2),List.nil_append] at eb'
     walk_at "w"
     exact⟨n,bs,_,_,rfl,g',by omega,eb',s'.trans s3⟩
   ·rw[if_neg (λz=>h1 z.1),List.nil_append] at eb'
    walk_at "w"
    exact⟨n,bs,_,_,rfl,g',by omega,eb',s'.trans s3⟩
  ·subst e
   rw[bL,List.drop_length] at eb
   rw[show bs++bgs a' [] ns.length=bs from Rt9 bs] at eb
   walk_at "w"
   exact k1 c _ (s1.trans s') (s1.free nc) (by rw[<-eb];exact g)
def aIh(K:W.Frag)(C:Addr):Sp:=λvs H Q _=>∃(q:Addr) (m:MS) (t:Addr) (o d:Int) (p:Addr) (ns:List Int),vs=[.ref q,.ref t,.ref p]/\cO C H q m/\m.Good/\H t=some (.tup [.int o,.int d])/\H p=some (.lst (ns.map V.int))/\ns.length<=48/\
 flt m o d ns 0=.non/\∀H',aQ H H'->Q (.int (aQZ m o ns)) H'
theorem aIi{mg:Str->Option Value}{a:jX}(tx:Txt K mg a):bS P w K mg base gZ 6 a.u5 a.u6 ["machine","state","run"] (aIh K a.aR):=by
 have aG0:=aFj (P:=P) (w:=w) (base:=base) tx
 refine tx.aAA.ok aCl (λvs H Q E h=>?_) (λcdv A outer s H vs Q E hr h=>?_)
 ·obtain⟨q,m,t,o,d,p,ns,rfl,_⟩:=h
  rfl
 ·obtain⟨q,m,t,o,d,p,ns,rfl ,hm,hg,ht,hp,hl,hn,k1⟩:=h
  have hu:=kI hr
  refine aY (aE (aK (i:=3) aCl.nd (aL (rc:=wK K) dC (by rfl) tx.lX kL (aA (aH (aG0) (hr.mono (by decide)) (by rfl) tx.aBh tx.vF.kp tx.aBg .nil aZ (aA (Z.pv 0) (aA (Z.pv 1) (aA (Z.pv 2) aC)))) aC)))
   (aG (aN (aO cM (aO cM (aO cC (aU (K':=K) (Z.pv 0) rfl) (Z.pv 3)) (aO cC (aU (K':=K) (Z.pv 0) rfl) (aAZ (K':=K) (Z.pv 2) (aA aD aC)))) (aO cC (aU (K':=K) (Z.pv 0) rfl) (aAZ (K':=K) (Z.pv 2) (aA aD aC))))))) ?_
  obtain⟨b0,b1⟩:=hg.begin_
  obtain⟨u0,u1⟩:=hg.run
  obtain⟨r0,r1⟩:=hg.rest
  refine aS (σ:=[some (.ref q),some (.ref t),some (.ref p),none]) rfl ?_
  walk_at "w"
  refine⟨q,m,t,o,d,p,ns,rfl,hm,ht,hp,hl,hn,λc H1 s1 nc gc=>?_⟩
  obtain⟨dx,pl,hq,_⟩:=(hm.same s1).ex
  have hp1:=s1 _ _ hp
  walk_at "w"
  refine bZ hq tx.bE tx.jU rfl ?_
  walk_at "w"
  refine bZ hq tx.bE tx.nP rfl ?_
  walk_at "w"
  refine uO (bX.of hp1) ?_
  walk_at "w"
  refine aHL (bX.of hp1) ?_
  walk_at "w"
  refine bZ hq tx.bE tx.lW rfl ?_
  walk_at "w"
  refine uO (bX.of hp1) ?_
  walk_at "w"
  refine aHL (bX.of hp1) ?_
  walk_at "w"
  rw[bL]
  exact k1 _ s1
def Ok(m:MS):Int->Int->List Int->Prop
 |_,_,[]=>True
 |o,d,on::r=>(o=on\/d=0)/\Ok m (tD m o d on).1 (tD m o d on).2 r
def ed(m:MS):Int->Int->List Int->Int×Int
 |o,d,[]=>(o,d)
 |o,d,on::r=>ed m (tD m o d on).1 (tD m o d on).2 r
def St0(o d:Int):Prop:=Bit o/\0<=d/\d < 60
theorem St0.tD{m:MS}(g:m.Good){o d on:Int}(h:St0 o d)(b:Bit on):St0 (tD m o d on).1 (tD m o d on).2:=by
 obtain⟨h0,h1,h2⟩:=h
 refine⟨(aJh g b).1,(aJh g b).2,?_⟩
 have u:=g.up
 have v:=g.down
 unfold My.tD
 split
 ·show max (d - 1) 0 < 60;omega
 ·split
  ·show m.up - 1 < 60;omega
  ·show m.down - 1 < 60;omega
def one(_ _:Int):Int:=1
abbrev WP:=(Int×Int)×Int
def sX(k:Int×Int):List Key:=[.inl k.1,.inl k.2]
def enc(ps:List WP):List (List Key×V):=ps.map λp=>(sX p.1,V.int p.2)
theorem aBq{a b:Int×Int}(h:sX a=sX b):a=b:=by
 unfold sX at h
 simp only[List.cons.injEq,Sum.inl.injEq,and_true] at h
 exact Prod.ext h.1 h.2
def zJ(ps:List WP)(k:Int×Int):Option Int:=(ps.find? λp=>decide (p.1=k)).map (·.2)
def addW(ps:List WP)(k:Int×Int)(v:Int):List WP:=if ps.any (λp=>decide (p.1=k)) then ps.map (λp=>if p.1=k then (p.1,v) else p) else ps ++ [(k,v)]
theorem aOI(ps:List WP)(k:Int×Int):tF (enc ps) (sX k)=(zJ ps k).map V.int:=by
 unfold tF zJ enc
 induction ps with
 |nil=>rfl
 |cons p r ih=>
  by_cases h:p.1=k
  ·simp[h]
  ·have:sX p.1≠sX k:=λz=>h (aBq z)
   simp only[Rd9,Sa9,this,h,decide_false]
   exact ih
theorem aOJ(ps:List WP)(k:Int×Int)(v:Int):putK (enc ps) (sX k) (.int v)=enc (addW ps k v):=by
 unfold putK addW enc
 have e:((ps.map λp:WP=>(sX p.1,V.int p.2)).any λkv=>decide (kv.1=sX k))=ps.any λp=>decide (p.1=k):=by
  rw[List.any_map]
  congr 1
  funext p
  show decide (sX p.1=sX k)=decide (p.1=k)
  exact decide_eq_decide.mpr ⟨aBq,λz=>by rw[z]⟩
 rw[e]
 split
 ·rw[Ru9,Ru9]
  congr 1
  funext p
  show(if sX p.1=sX k then (sX p.1,V.int v) else (sX p.1,V.int p.2))=(sX (if p.1=k then (p.1,v) else p).1,V.int (if p.1=k then (p.1,v) else p).2)
  by_cases h:p.1=k
  ·rw[if_pos h,if_pos (by rw[h])]
  ·rw[if_neg h,if_neg λz=>h (aBq z)]
 ·rw[oA]
  rfl
def wsum(f:Int->Int->Int)(ps:List WP):Int:=List.sum (ps.map λp=>p.2*f p.1.1 p.1.2)
theorem aFU(f:Int->Int->Int)(p:WP)(ps:List WP):wsum f (p::ps)=p.2*f p.1.1 p.1.2+wsum f ps:=rfl
theorem aM5(f:Int->Int->Int)(ps qs:List WP):wsum f (ps++qs)=wsum f ps+wsum f qs:=by
 unfold wsum
 rw[oA,Tt9]
theorem aOK{ps:List WP}{k:Int×Int}{c:Int}(nd:(ps.map (·.1)).Nodup):((addW ps k ((zJ ps k).getD 0+c)).map (·.1)).Nodup/\(∀p∈addW ps k ((zJ ps k).getD 0+c),p.1=k\/∃q∈ps,q.1=p.1)/\∀f,wsum f (addW ps k ((zJ ps k).getD 0+c))=wsum f ps+c*f k.1 k.2:=by
 unfold addW
 by_cases h:ps.any (λp=>decide (p.1=k))=true
 ·rw[if_pos h]
  refine⟨?_,λp hp=>?_,λf=>?_⟩
  ·rw[Ru9]
   have e:((λp:WP=>p.1) ∘ λp:WP=>if p.1=k then (p.1,(zJ ps k).getD 0+c) else p)=λp=>p.1:=by
    funext p
    show(if p.1=k then (p.1,(zJ ps k).getD 0+c) else p).1=p.1
    split <;> rfl
   rw[e]
   exact nd
  ·obtain⟨q,hq,rfl⟩:=Qy9.mp hp
   refine .inr ⟨q,hq,?_⟩
   split <;> rfl
  ·have key:∀(qs:List WP),(qs.map (·.1)).Nodup->qs.any (λp=>decide (p.1=k))=true->∀v,(zJ qs k).getD 0+c=v->wsum f (qs.map λp=>if p.1=k then (p.1,v) else p)=wsum f qs+c*f k.1 k.2:=by
    intro qs
    induction qs with
    |nil=>intro _ z;cases z
    |cons p r ih=>
     intro nd h v hv
     rw[Rd9,Rn9] at nd
     rw[Rd9,aFU,aFU]
     by_cases hp:p.1=k
     ·have hn:∀q∈r,¬q.1=k:=λq hq z=>nd.1 (Qy9.mpr ⟨q,hq,by rw[z,hp]⟩)
      have e1:(r.map λp=>if p.1=k then (p.1,v) else p)=r:=by
       conv=>rhs;rw[<-List.map_id r]
       exact Sv9 λq hq=>if_neg (hn q hq)
      have e2:zJ (p::r) k=some p.2:=by unfold zJ;simp[hp]
      rw[e2] at hv
      rw[e1,if_pos hp,<-hv,hp]
      show(p.2+c)*f k.1 k.2+wsum f r=_
      rw[Int.add_mul]
      omega
     ·have h':r.any (λp=>decide (p.1=k))=true:=by simpa [hp] using h
      have e2:zJ (p::r) k=zJ r k:=by unfold zJ;simp[hp]
      rw[e2] at hv
      rw[if_neg hp,ih nd.2 h' v hv]
      omega
   exact key ps nd h _ rfl
 ·have hn:zJ ps k=none:=by
   unfold zJ
   rw[Option.map_eq_none_iff,List.find?_eq_none]
   intro p hp z
   exact h (List.any_eq_true.mpr ⟨p,hp,z⟩)
  rw[if_neg h,hn]
  refine⟨?_,λp hp=>?_,λf=>?_⟩
  ·rw[oA,List.nodup_append]
   refine⟨nd,by simp,λa ha b hb=>?_⟩
   rw[Rd9,Tk9,Rb9] at hb
   rintro rfl
   obtain⟨q,hq,e⟩:=Qy9.mp ha
   exact h (List.any_eq_true.mpr ⟨q,hq,by simpa using e.trans hb⟩)
  ·rcases Rk9.mp hp with z|z
   ·exact .inr ⟨p,z,rfl⟩
   ·rw[Rb9.mp z];exact .inl rfl
  ·rw[aM5]
   show _+((0+c)*f k.1 k.2+0)=_
   rw[Int.zero_add,Si9]
theorem aM6:∀(n:Nat) (l:List Nat),l.Nodup->(∀x∈l,x < n)->l.length<=n
 |0,l,_,h=>by
  cases l with
  |nil=>exact eA _
  |cons x r=>exact absurd (h x (.head _)) (by omega)
 |n+1,l,nd,h=>by
  have:=aM6 n (l.erase n) (nd.erase n) (λx hx=>by
   have h1:=(nd.mem_erase_iff.mp hx)
   have:=h x h1.2
   have:=h1.1
   omega)
  rw[List.length_erase] at this
  split at this <;> omega
structure aFk(ps:List WP):Prop where
 nd:(ps.map (·.1)).Nodup
 st:∀p∈ps,St0 p.1.1 p.1.2
theorem aFk.len{ps:List WP}(h:aFk ps):ps.length<=120:=by
 have:=aM6 120 ((ps.map (·.1)).map λk=>(k.1*60+k.2).toNat) (by
  rw[List.Nodup,Tj9]
  refine h.nd.imp_of_mem ?_
  intro a b ha hb hab z
  obtain⟨p,hp,rfl⟩:=Qy9.mp ha
  obtain⟨q,hq,rfl⟩:=Qy9.mp hb
  obtain⟨a1,a2,a3⟩:=h.st p hp
  obtain⟨b1,b2,b3⟩:=h.st q hq
  refine hab (Prod.ext ?_ ?_)
  ·rcases a1 with a1|a1 <;> rcases b1 with b1|b1 <;> rw[a1,b1] <;> rw[a1,b1] at z <;> omega
  ·rcases a1 with a1|a1 <;> rcases b1 with b1|b1 <;> rw[a1,b1] at z <;> omega) (λx hx=>by
  obtain⟨k,hk,rfl⟩:=Qy9.mp hx
  obtain⟨p,hp,rfl⟩:=Qy9.mp hk
  obtain⟨a1,a2,a3⟩:=h.st p hp
  rcases a1 with a1|a1 <;> rw[a1] <;> omega)
 simpa using this
theorem aFk.add(h:aFk ps){k:Int×Int}(hk:St0 k.1 k.2)(c:Int):aFk (addW ps k ((zJ ps k).getD 0+c)):=by
 obtain⟨h1,h2,_⟩:=aOK (k:=k) (c:=c) h.nd
 refine⟨h1,λp hp=>?_⟩
 rcases h2 p hp with z|⟨q,hq,z⟩
 ·rw[z];exact hk
 ·rw[<-z];exact h.st q hq
section
variable{α:Type}
abbrev Wy(α:Type):=Int×α×Int
def jJ(f:α->Int):List (Wy α)->Int
 |[]=>0
 |[w]=>w.2.2+f w.2.1
 |w::v::r=>min (w.2.2+f w.2.1) (jJ f (v::r))
theorem aFV(f:α->Int):∀{ws:List (Wy α)}{w:Wy α},w∈ws->jJ f ws<=w.2.2+f w.2.1
 |[],_,h=>by cases h
 |[w],v,h=>by rw[Rb9.mp h];exact Rx9 _
 |w::v::r,u,h=>by
  show min _ _<=_
  rcases sZ.mp h with rfl|h
  ·omega
  ·have:=aFV f h;omega
theorem aAH(f:α->Int):∀{ws:List (Wy α)},ws≠[]->∃w∈ws,w.2.2+f w.2.1=jJ f ws
 |[],h=>absurd rfl h
 |[w],_=>⟨w,.head _,rfl⟩
 |w::v::r,_=>by
  obtain⟨u,hu,e⟩:=aAH f (ws:=v::r) (by simp)
  by_cases h:w.2.2+f w.2.1<=jJ f (v::r)
  ·exact⟨w,.head _,by show _=min _ _;omega⟩
  ·exact⟨u,zE _ hu,by show _=min _ _;omega⟩
theorem aFW{f:α->Int}{m:Int}(h1:∃w∈ws,w.2.2+f w.2.1=m)(h2:∀w∈ws,m<=w.2.2+f w.2.1):m=jJ f ws:=by
 obtain⟨w,hw,e⟩:=h1
 have a:=aFV f hw
 obtain⟨u,hu,e2⟩:=aAH f (ws:=ws) (λz=>by rw[z] at hw;cases hw)
 have b:=h2 u hu
 omega
def wF(W:Nat->α->List (Wy α)):Nat->Nat->α->Int
 |0,_,_=>0
 |k+1,i,x=>jJ (wF W k (i+1)) (W i x)
def aAI(f:α->Int)(ws:List (Wy α)):Option (Wy α):=ws.find? λw=>decide (w.2.2+f w.2.1=jJ f ws)
def aJn(W:Nat->α->List (Wy α)):Nat->Nat->α->List Int
 |0,_,_=>[]
 |k+1,i,x=>match aAI (wF W k (i+1)) (W i x) with
  |none=>[]
  |some w=>w.1::aJn W k (i+1) w.2.1
theorem aJZ{β:Type}{p:β->Bool}:∀{l:List β}{j:Nat}{w:β},l[j]?=some w->(∀x∈l.take j,p x=false)->p w=true->l.find? p=some w
 |[],_,_,h,_,_=>by simp at h
 |a::r,0,w,h,_,hp=>by
  cases h
  rw[Sa9,hp]
 |a::r,j+1,w,h,hn,hp=>by
  rw[Sa9,hn a (by rw[List.take_succ_cons];exact .head _)]
  exact aJZ (l:=r) (j:=j) h (λx hx=>hn x (by rw[List.take_succ_cons];exact zE _ hx)) hp
end
inductive PK (α:Type) where
 |ik (f:α->Key) (inj:∀x y,f x=f y->x=y)
 |tk (f:α->List Key) (inj:∀x y,f x=f y->x=y)
def PK.pv{α:Type}:PK α->Hp->V->α->Prop
 |.ik f _,_,v,x=>v=kV (f x)
 |.tk f _,H,v,x=>∃b,v=.ref b/\H b=some (.tup ((f x).map kV))
def PK.da{α:Type}:PK α->Hp->Addr->List α->(α->Int)->Prop
 |.ik f _,H,d,ps,g=>H d=some (.dK (ps.map λx=>(f x,.int (g x))))
 |.tk f _,H,d,ps,g=>H d=some (.dT (ps.map λx=>(f x,.int (g x))))
section
variable{α:Type}{κ:PK α}{H H':Hp}{v:V}{x:α}{d:Addr}{ps:List α}{g g':α->Int}
theorem PK.sE(h:κ.pv H v x)(s:aQ H H'):κ.pv H' v x:=by
 cases κ with
 |ik f i=>exact h
 |tk f i=>obtain⟨b,e,hb⟩:=h;exact⟨b,e,s _ _ hb⟩
theorem PK.sF(h:κ.da H d ps g)(s:aQ H H'):κ.da H' d ps g:=by
 cases κ with
 |ik f i=>exact s _ _ h
 |tk f i=>exact s _ _ h
theorem wC{κ':Type}[DecidableEq κ']{f:α->κ'}(inj:∀x y,f x=f y->x=y){g:α->Int}:∀{ps:List α},x∈ps->tF (ps.map λx=>(f x,V.int (g x))) (f x)=some (.int (g x))
 |[],h=>by cases h
 |y::r,h=>by
  rw[Rd9]
  by_cases e:f y=f x
  ·rw[nS (show(f y,V.int (g y)).1=f x from e),inj _ _ e]
  ·rw[kJ (show ¬(f y,V.int (g y)).1=f x from e)]
   rcases sZ.mp h with rfl|h
   ·exact absurd rfl e
   ·exact wC inj h
theorem aFX{κ':Type}[DecidableEq κ']{f:α->κ'}(inj:∀x y,f x=f y->x=y){g:α->Int}:∀{ps:List α},x∉ps->tF (ps.map λx=>(f x,V.int (g x))) (f x)=none
 |[],_=>rfl
 |y::r,h=>by
  rw[Rd9,kJ (show ¬(f y,V.int (g y)).1=f x from λz=>h (by rw[inj _ _ z];exact .head _))]
  exact aFX inj λz=>h (zE _ z)
theorem PK.get(h:κ.da H d ps g)(hv:κ.pv H v x)(hx:x∈ps):wG H d v (some (.int (g x))):=by
 cases κ with
 |ik f i=>
  have hv':v=kV (f x):=hv
  subst hv'
  have z:=wG.k (k:=f x) (show H d=some (.dK _) from h)
  rw[wC i hx] at z
  exact z
 |tk f i=>
  obtain⟨b,rfl,hb⟩:=hv
  have z:=wG.t (show H d=some (.dT _) from h) hb
  rw[wC i hx] at z
  exact z
theorem aDJ{κ':Type}[DecidableEq κ']{f:α->κ'}(inj:∀x y,f x=f y->x=y){g:α->Int}{x:α}{ps:List α}(hx:x∉ps):putK (ps.map λx=>(f x,V.int (g x))) (f x) (.int (g x))=(ps ++ [x]).map λx=>(f x,V.int (g x)):=by
 unfold putK
 rw[aAS,aFX inj hx,oA]
 rfl
theorem PK.put(h:κ.da H d ps g)(hv:κ.pv H v x)(hx:x∉ps)(hl:ps.length < 1000000):∃H',aDL H d v (.int (g x)) H'/\κ.da H' d (ps ++ [x]) g/\cU d H H':=by
 have lt:ps.length < sizeLine:=zF hl (cK (by decide))
 cases κ with
 |ik f i=>
  have hv':v=kV (f x):=hv
  subst hv'
  refine⟨_,aDL.k (k:=f x) (show H d=some (.dK _) from h) (by rw[bL];exact lt),?_,cU.upd⟩
  show upd H d _ d=_
  rw[aP,aDJ i hx]
 |tk f i=>
  obtain⟨b,rfl,hb⟩:=hv
  refine⟨_,aDL.t (show H d=some (.dT _) from h) hb (by rw[bL];exact lt),?_,cU.upd⟩
  show upd H d _ d=_
  rw[aP,aDJ i hx]
theorem PK.new{Q:VK}(κ:PK α)(g:α->Int)(h:∀p H',H p=none->aQ H H'->κ.da H' p [] g->Q (.ref p) H'):aD4 σ H Q:=by
 cases κ with
 |ik f i=>exact aKQ λp np=>h p _ np (aQ.new np) aP
 |tk f i=>exact aFL λp np=>h p _ np (aQ.new np) aP
theorem PK.aM7(h:κ.da H d ps g)(e:H d=some (.lst xs)):False:=by
 cases κ with
 |ik f i=>have h':H d=some (.dK _):=h;rw[e] at h';cases h'
 |tk f i=>have h':H d=some (.dT _):=h;rw[e] at h';cases h'
def aCG(κ:PK α)(H:Hp)(a:Addr)(w:Wy α):Prop:=∃v,H a=some (.tup [.int w.1,v,.int w.2.2])/\κ.pv H v w.2.1
theorem aCG.same(h:aCG κ H a w)(s:aQ H H'):aCG κ H' a w:=let ⟨v,e,p⟩:=h;⟨v,s _ _ e,κ.sE p s⟩
structure yN(κ:PK α)(H:Hp)(l:Addr)(ws:List (Wy α)):Prop where
 ex:∃as,H l=some (.lst (as.map V.ref))/\RL (aCG κ H) as ws
theorem yN.same(h:yN κ H l ws)(s:aQ H H'):yN κ H' l ws:=let ⟨as,e,r⟩:=h.ex;⟨as,s _ _ e,r.imp λ_ _ z=>z.same s⟩
structure aAJ(κ:PK α)(C:Addr->Sp->Prop)(H:Hp)(f:Addr)(W:Nat->α->List (Wy α))(L:Nat->α->Prop):Prop where
 ex:∃spc,C f spc/\∀(H':Hp) (h:Nat) (v:V) (x:α) (Q:VK),aQ H H'->L h x->κ.pv H' v x->(∀l H'',aQ H' H''->yN κ H'' l (W h x)->Q (.ref l) H'')->spc [.int (h:Int),v] H' Q E0
theorem aAJ.same{C:Addr->Sp->Prop}{W:Nat->α->List (Wy α)}{L:Nat->α->Prop}(h:aAJ κ C H f W L)(s:aQ H H'):aAJ κ C H' f W L:=
 let ⟨spc,c,p⟩:=h.ex;⟨spc,c,λH2 a v x Q s2=>p H2 a v x Q (s.trans s2)⟩
def PVs(κ:PK α)(H:Hp)(vs:List V)(ps:List α):Prop:=vs.length=ps.length/\∀(i:Nat) v x,vs[i]?=some v->ps[i]?=some x->κ.pv H v x
theorem PVs.same(h:PVs κ H vs ps)(s:aQ H H'):PVs κ H' vs ps:=⟨h.1,λi v x h1 h2=>κ.sE (h.2 i v x h1 h2) s⟩
theorem PVs.get{vs:List V}(h:PVs κ H vs ps){i:Nat}(e:vs[i]?=some v):∃x,ps[i]?=some x/\κ.pv H v x:=by
 have li:i < ps.length:=by rw[<-h.1];exact(qM.mp e).1
 exact⟨_,eU li,h.2 i v _ e (eU li)⟩
end
theorem aBr{α:Type}{l:List α}{i:Nat}{x:α}(h:l[i]?=some x):l.take (i+1)=l.take i ++ [x]:=by rw[Rq9,h];rfl
theorem RL.gt{α:Type}{P:Addr->α->Prop}{as:List Addr}{xs:List α}(h:RL P as xs){i:Nat}(hv:(as.map V.ref)[i]?=some v):∃a x,as[i]?=some a/\v=.ref a/\xs[i]?=some x/\P a x:=by
 rw[pG] at hv
 obtain⟨a,e,rfl⟩:=Qw9.mp hv
 have li:i < xs.length:=by rw[<-h.len];exact(qM.mp e).1
 exact⟨a,xs[i],e,rfl,eU li,h.at_ i a _ e (eU li)⟩
def aIj(K:W.Frag):Sp:=λvs H Q _=>∃(α:Type) (κ:PK α) (l d:Addr) (ws:List (Wy α)) (ps:List α) (g:α->Int),vs=[.ref l,.ref d]/\yN κ H l ws/\κ.da H d ps g/\ws≠[]/\ws.length<=10000/\(∀w∈ws,w.2.1∈ps)/\
 ∀H',aQ H H'->Q (.int (jJ g ws)) H'
theorem aCH{mg:Str->Option Value}{a:jX}(tx:Txt K mg a):bS P w K mg base gZ 1 a.u7 a.u9 ["ways","behind"] (aIj K):=by
 refine tx.vG.ok aHX (λvs H Q E h=>?_) (λcdv A outer s H vs Q E hr h=>?_)
 ·obtain⟨α,κ,l,d,ws,ps,g,rfl,_⟩:=h
  rfl
 ·obtain⟨α,κ,l,d,ws,ps,g,rfl ,hw,hd,hne,hlen,hin,k⟩:=h
  have hu:=kI hr
  refine aY (aG (aN (aL (rc:=aMJ K) (aKP rfl) (by rfl) tx.aAc aDN (aA (bU (k:=3) (idx:=[1]) (N:=["choice","later","worth","behind"]) (cR (sc:=aF jW) (NX:=["ways","behind"]) rfl rfl rfl (by decide +kernel)) rfl (bO (K':=K) (Z.pv 0)) (λ_ _ _ _=>(bI (K':=K) (n:=3) rfl (aM (aI (i:=0) (show(["choice","later","worth","behind"]:List Str).Nodup by decide +kernel)) (aM (aI (i:=1) (show(["choice","later","worth","behind"]:List Str).Nodup by decide +kernel)) (aM (aI (i:=2) (show(["choice","later","worth","behind"]:List Str).Nodup by decide +kernel)) bH))))) (kK (bK (by decide) (bK (by decide) (bK (by decide) hV)))) (λ_ _ _ _=>bT) (λ_ _ _ _=>(aO cM (Z.pv 2) (wV hu (Z.pv 3) (Z.pv 1))))) aC)))) ?_
  obtain⟨as,gl,rl⟩:=hw.ex
  have las:=rl.len
  refine aS (σ:=[some (.ref l),some (.ref d)]) rfl ?_
  walk_at "w"
  refine j8 (bX.of gl) ?_
  refine eB (xs:=as.map V.ref) (λj us H'=>H'=H/\us=(((ws.take j).map λw=>w.2.2+g w.2.1).map V.int)) ⟨rfl,rfl⟩ (cK (by rw[bL];omega))
   (λj us H' hj ⟨e0,e1⟩=>⟨by rw[e0];exact bX.of gl,by rw[e1,bL,bL,Qz9];omega⟩) (λj v us H' hv ⟨e0,e1⟩=>?_) (λus H' ⟨e0,e1⟩=>?_)
  ·subst e0
   obtain⟨a1,w,ea,rfl,ew,vv,g1,hp⟩:=rl.gt hv
   refine cP (jQ.of g1) rfl ?_
   walk_at "w"
   refine⟨d,_,rfl,κ.get hd hp (hin w (oH ew)),?_⟩
   walk_at "w"
   refine⟨rfl,?_⟩
   rw[e1,aBr ew,oA,oA]
   rfl
  subst e0 e1
  rw[bL,las,Qv9]
  intro l2 n2
  obtain⟨H2,i2,s2,g2⟩:=nw _ n2;rw[i2]
  walk_at "w"
  refine aOC (bX.of g2) (by simpa using hne) λm hm hle=>?_
  have e:m=jJ g ws:=aFW (by
   obtain⟨w,hw,e⟩:=Qy9.mp hm
   exact⟨w,hw,e⟩) λw hw=>hle _ (Qy9.mpr ⟨w,hw,rfl⟩)
  rw[e]
  exact k H2 s2
def aDe(K:PySem.W.Frag)(C:Addr->Sp->Prop):Sp:=λvs H Q _=>∃(α:Type) (κ:PK α) (lp d f:Addr) (h:Nat) (us:List V) (ps bs:List α) (g:α->Int) (W:Nat->α->List (Wy α)) (L:Nat->α->Prop),vs=[.ref lp,.int (h:Int),.ref d,.ref f]/\
 H lp=some (.lst us)/\PVs κ H us ps/\ps.Nodup/\ps.length<=10000/\κ.da H d bs g/\aAJ κ C H f W L/\(∀x∈ps,L h x/\W h x≠[]/\(W h x).length<=10000/\∀w∈W h x,w.2.1∈bs)/\
 ∀q H',aQ H H'->H q=none->κ.da H' q ps (λx=>jJ g (W h x))->Q (.ref q) H'
theorem aDf{P:Program}{w:World}{K:PySem.W.Frag}{mg:Str->Option Value}{base:Heap}{a:jX}(tx:Txt K mg a):bS P w K mg base gZ 10 a.lN a.lO ["places","hour","behind","ways_at"] (aDe K (Clo P w K mg base (8+1))):=by
 have aAK:=aCH (P:=P) (w:=w) (base:=base) tx
 refine tx.pY.ok nX (λvs H Q E h=>?_) (λcdv A outer s H vs Q E hr h=>?_)
 ·obtain⟨α,κ,lp,d,f,h,us,ps,bs,g,W,L,rfl,_⟩:=h
  rfl
 ·obtain⟨α,κ,lp,d,f,h,us,ps,bs,g,W,L,rfl ,gl,hpv,hnd,hlen,hd,hW,hon,k⟩:=h
  have hu:=kI hr
  refine aY (aE (aK (i:=4) nX.nd wY)
   (aE (bW PassesOwn.never rfl (bO (K':=K) (Z.pv 0)) (aI (i:=5) nX.nd) (aG (aAp hu (Z.pv 4) (Z.pv 5) (aH (aAK) (hr.mono (by decide)) (by rfl) tx.aAC tx.vG.kp tx.aAB .nil aZ (aA (aCj (P:=P) (w:=w) (K:=K) (mg:=mg) (base:=base) (i:=3) (k:=8+1) (hr.mono (by decide)) (aA (Z.pv 1) (aA (Z.pv 5) aC))) (aA (Z.pv 2) aC))))))
   (aG (aN (Z.pv 4))))) ?_
  obtain⟨spc,hC,hp⟩:=hW.ex
  have lus:=hpv.1
  refine aS (σ:=[some (.ref lp),some (.int (h:Int)),some (.ref d),some (.ref f),none,none]) rfl ?_
  walk_at "w"
  refine κ.new (λx=>jJ g (W h x)) λwd H1 nwd s1 dw=>?_
  walk_at "w"
  refine j8 (bX.of (s1 _ _ gl)) ?_
  refine yV (xs:=us) (λi σ' H'=>aQ H H'/\κ.da H' wd (ps.take i) (λx=>jJ g (W h x))/\∃z,σ'=[some (.ref lp),some (.int (h:Int)),some (.ref d),some (.ref f),some (.ref wd),z]) ⟨s1,dw,_,rfl⟩
   (λi σ' H' hi ⟨s',_⟩=>bX.of (s' _ _ gl)) (λi v σ' H' hv ⟨s',dw',z,e⟩=>?_) (λσ' H' ⟨s',dw',z,e⟩=>?_)
  ·subst e
   obtain⟨x,ex,px⟩:=hpv.get hv
   obtain⟨o1,o2,o3,o4⟩:=hon x (oH ex)
   walk_at "w"
   refine aHT rfl hC ?_
   walk_at "w"
   refine hp H' h v x _ s' o1 (κ.sE px s') λl H2 s2 hws=>?_
   have s02:=s'.trans s2
   walk_at "w"
   refine⟨α,κ,l,d,W h x,bs,g,rfl,hws,κ.sF hd s02,o2,o3,o4,λH3 s3=>?_⟩
   have s03:=s02.trans s3
   walk_at "w"
   have nx:x∉ps.take i:=λz=>by
    have hi:i < ps.length:=(qM.mp ex).1
    obtain⟨j,hj,ej⟩:=List.getElem_of_mem z
    rw[Qz9] at hj
    rw[List.getElem_take] at ej
    have e2:ps[i]=x:=(qM.mp ex).2
    have:=(List.getElem_inj hnd).mp (ej.trans e2.symm)
    omega
   obtain⟨H4,p4,d4,k4⟩:=κ.put (κ.sF dw' (s2.trans s3)) (κ.sE px s03) nx (by rw[Qz9];omega)
   refine⟨wd,H4,rfl,p4,?_⟩
   walk_at "w"
   refine⟨λb o e=>k4 _ _ (s03 _ _ e) (bM nwd e),?_,_,rfl⟩
   rw[aBr ex]
   exact d4
  ·subst e
   walk_at "w"
   rw[lus,Qv9] at dw'
   exact k wd H' s' nwd dw'
structure aIk{α:Type}(κ:PK α)(H:Hp)(a:Addr)(Ls:List (List α)):Prop where
 ex:∃as,H a=some (.lst (as.map V.ref))/\RL (λb ps=>∃us,H b=some (.lst us)/\PVs κ H us ps) as Ls
theorem aIk.same{α:Type}{κ:PK α}{Ls:List (List α)}(h:aIk κ H a Ls)(s:aQ H H'):aIk κ H' a Ls:=
 let ⟨as,e,r⟩:=h.ex;⟨as,s _ _ e,r.imp λ_ _ ⟨us,e,p⟩=>⟨us,s _ _ e,p.same s⟩⟩
structure aK2{α:Type}(κ:PK α)(H:Hp)(a:Addr)(Ls:List (List α))(F:Nat->α->Int):Prop where
 ex:∃ds:List Addr,H a=some (.lst (ds.map V.ref))/\ds.length=Ls.length/\∀(i:Nat) d ps,ds[i]?=some d->Ls[i]?=some ps->κ.da H d ps (F i)
theorem aK2.same{α:Type}{κ:PK α}{H H':Hp}{a:Addr}{Ls:List (List α)}{F:Nat->α->Int}(h:aK2 κ H a Ls F)(s:aQ H H'):aK2 κ H' a Ls F:=
 let ⟨ds,e,l,r⟩:=h.ex;⟨ds,s _ _ e,l,λi d ps h1 h2=>κ.sF (r i d ps h1 h2) s⟩
structure aM8{α:Type}(W:Nat->α->List (Wy α))(Ls:List (List α)):Prop where
 pos:0 < Ls.length
 nd:∀ps∈Ls,ps.Nodup
 few:∀ps∈Ls,ps.length<=10000
 ne:∀(i:Nat) ps x,Ls[i]?=some ps->i+1 < Ls.length->x∈ps->W i x≠[]/\(W i x).length<=10000
 on:∀(i:Nat) ps qs x w,Ls[i]?=some ps->Ls[i+1]?=some qs->x∈ps->w∈W i x->w.2.1∈qs
theorem aHt{xs:List V}(h:0 < xs.length):atI xs (-1)=xs[xs.length - 1]?:=by
 have e:ixN xs.length (-1)=some (xs.length - 1):=by
  unfold ixN
  rw[if_neg (by omega),if_pos (by omega)]
  congr 1
  omega
 unfold atI
 rw[e]
 rfl
theorem PK.aJ0{α:Type}{κ:PK α}{H H':Hp}{d p:Addr}{ps:List α}{g:α->Int}(h:κ.da H d ps g)(n:d≠p)(k:cU p H H'):κ.da H' d ps g:=by
 cases κ with
 |ik f i=>exact k _ _ h n
 |tk f i=>exact k _ _ h n
theorem PK.aG1{α:Type}{κ:PK α}{H H':Hp}{v:V}{x:α}{p:Addr}{xs:List V}(h:κ.pv H v x)(gp:H p=some (.lst xs))(k:cU p H H'):κ.pv H' v x:=by
 cases κ with
 |ik f i=>exact h
 |tk f i=>
  obtain⟨b,e,hb⟩:=h
  exact⟨b,e,k _ _ hb λz=>by rw[z,gp] at hb;cases hb⟩
theorem aG2{as:List Addr}{i:Nat}(h:as[i]?=some a):(as.map V.ref)[i]?=some (.ref a):=by rw[pG,h];rfl
def sG(K:PySem.W.Frag)(C:Addr->Sp->Prop):Sp:=λvs H Q _=>∃(α:Type) (κ:PK α) (la f:Addr) (Ls:List (List α)) (W:Nat->α->List (Wy α)) (L:Nat->α->Prop),vs=[.ref la,.ref f]/\aIk κ H la Ls/\aM8 W Ls/\Ls.length<=10000/\aAJ κ C H f W L/\
 (∀(i:Nat) ps x,Ls[i]?=some ps->i+1 < Ls.length->x∈ps->L i x)/\∀q H',aQ H H'->H q=none->aK2 κ H' q Ls (λi=>wF W (Ls.length - 1 - i) i)->Q (.ref q) H'
theorem aBs{P:Program}{w:World}{K:PySem.W.Frag}{mg:Str->Option Value}{base:Heap}{a:jX}(tx:Txt K mg a):bS P w K mg base gZ 11 a.iS a.iT ["layers","ways_at"] (sG K (Clo P w K mg base (8+1))):=by
 have aEG:=aDf (P:=P) (w:=w) (base:=base) tx
 refine tx.mW.ok dF (λvs H Q E h=>?_) (λcdv A outer s H vs Q E hr h=>?_)
 ·obtain⟨α,κ,la,f,Ls,W,L,rfl,_⟩:=h
  rfl
 ·obtain⟨α,κ,la,f,Ls,W,L,rfl ,hla,hok,hlen,hW,hL,k⟩:=h
  have hu:=kI hr
  refine aY (aE (aK (i:=2) dF.nd wY)
   (aE (bW PassesOwn.never rfl (bO (K':=K) (aJ (K':=K) (Z.pv 0) (wN aDD aD))) (aI (i:=3) dF.nd) (aG (aAp hu (Z.pv 2) (Z.pv 3) aD)))
   (aE (aK (i:=4) dF.nd (qQ (Z.pv 2)))
   (aE (bW PassesOwn.never rfl (aGx (by rfl) tx.gF (aA (aO hU (aL (rc:=wK K) dC (by rfl) tx.lX kL (aA (Z.pv 0) aC)) aD) (aA (wN aDD aD) (aA (wN aDD aD) aC)))) (aI (i:=5) dF.nd) (aE (aK (i:=2) dF.nd (aH (aEG) (hr.mono (by decide)) (by rfl) tx.xW tx.pY.kp tx.xV .nil aZ (aA (aJ (K':=K) (Z.pv 0) (Z.pv 5)) (aA (Z.pv 5) (aA (Z.pv 2) (aA (Z.pv 1) aC))))))
   (aG (hX (jV (K':=K) (Z.pv 4) (aA (Z.pv 2) aC))))))
   (aG (aN (aE2 rfl (by rfl) tx.nZ (by rfl) tx.m3 (aA (Z.pv 4) aC)))))))) ?_
  obtain⟨as,ga,ra⟩:=hla.ex
  have las:=ra.len
  have pos:=hok.pos
  obtain⟨n,hn⟩ : ∃n,Ls.length=n+1:=⟨Ls.length - 1,by omega⟩
  have el:as[n]?=some as[n]:=eU (by omega)
  have ll:Ls[n]?=some Ls[n]:=eU (by omega)
  obtain⟨us,gu,pu⟩:=ra.at_ n _ _ el ll
  generalize as[n]=an at el gu
  generalize Ls[n]=pn at ll pu
  have lpn:=hok.few pn (oH ll)
  have ndn:=hok.nd pn (oH ll)
  have lus:=pu.1
  have ai:atI (as.map V.ref) (-1)=some (.ref an):=by
   rw[aHt (by rw[bL];omega),bL,las,hn,Nat.add_sub_cancel]
   exact aG2 el
  refine aS (σ:=[some (.ref la),some (.ref f),none,none,none,none]) rfl ?_
  walk_at "w"
  refine κ.new (λ_=>0) λbd H1 nbd s1 db=>?_
  have ga1:=s1 _ _ ga
  walk_at "w"
  refine j8 (bX.of (s1 _ _ gu)) ?_
  refine yV (xs:=us) (λi σ' H'=>aQ H H'/\κ.da H' bd (pn.take i) (λ_=>0)/\∃z,σ'=[some (.ref la),some (.ref f),some (.ref bd),z,none,none]) ⟨s1,db,_,rfl⟩
   (λi σ' H' hi ⟨s',_⟩=>bX.of (s' _ _ gu)) (λi v σ' H' hv ⟨s',dw',z,e⟩=>?_) (λσ' H2 ⟨s2,d2,z,e⟩=>?_)
  ·subst e
   obtain⟨x,ex,px⟩:=pu.get hv
   walk_at "w"
   have nx:x∉pn.take i:=λz=>by
    obtain⟨j,hj,ej⟩:=List.getElem_of_mem z
    rw[Qz9] at hj
    rw[List.getElem_take] at ej
    have e2:pn[i]'((qM.mp ex).1)=x:=(qM.mp ex).2
    have:=(List.getElem_inj ndn).mp (ej.trans e2.symm)
    omega
   obtain⟨H4,p4,d4,k4⟩:=κ.put dw' (κ.sE px s') nx (by rw[Qz9];omega)
   refine⟨bd,H4,rfl,p4,?_⟩
   walk_at "w"
   refine⟨λb o e=>k4 _ _ (s' _ _ e) (bM nbd e),?_,_,rfl⟩
   rw[aBr ex]
   exact d4
  ·subst e
   rw[lus,Qv9] at d2
   have ga2:=s2 _ _ ga
   walk_at "w"
   intro lw nlw
   obtain⟨H3,i3,s3,g3⟩:=nw _ nlw;rw[i3]
   have s03:=s2.trans s3
   have ga3:=s03 _ _ ga
   have nlH:H lw=none:=s2.free nlw
   walk_at "w"
   refine⟨_,_,rfl,by rw[bL,las];omega,?_⟩
   rw[show(((as.map V.ref).length:Int) - 2 - -1).toNat=n by rw[bL,las,hn];omega]
   refine aOD (n:=n) (λi σ' H'=>aQ H H'/\(∃ds:List Addr,H' lw=some (.lst (ds.map V.ref))/\ds.length=i+1/\(∃d,ds[i]?=some d/\σ'[2]?=some (some (.ref d)))/\∀(j:Nat) d ps,ds[j]?=some d->Ls[n - j]?=some ps->κ.da H' d ps (wF W j (n - j)))/\∃b z5,σ'=[some (.ref la),some (.ref f),some (.ref b),z,some (.ref lw),z5])
    ⟨s03,⟨[bd],g3,rfl,⟨bd,rfl,rfl⟩,λj d ps h1 h2=>?_⟩,_,_,rfl⟩ (λi σ' H' hi ⟨s',⟨ds,gd,ld,⟨d,ed,e2⟩,hd⟩,b,z5,e⟩=>?_) (λσ' H' ⟨s',⟨ds,gd,ld,⟨d,ed,e2⟩,hd⟩,b,z5,e⟩=>?_)
   ·match j,h1 with
    |0,h1=>
     cases h1
     rw[Nat.sub_zero,ll] at h2
     cases h2
     exact κ.sF d2 s3
    |j+1,h1=>simp at h1
   ·subst e
    have e2':some (some (V.ref b))=some (some (.ref d)):=e2
    cases e2'
    have hh:(((as.map V.ref).length:Int) - 2 - (i:Int))=((n - 1 - i:Nat):Int):=by rw[bL,las,hn];omega
    rw[hh]
    have ea:as[n - 1 - i]?=some as[n - 1 - i]:=eU (by omega)
    have eL:Ls[n - 1 - i]?=some Ls[n - 1 - i]:=eU (by omega)
    have eL2:Ls[n - i]?=some Ls[n - i]:=eU (by omega)
    obtain⟨us',gu',pu'⟩:=ra.at_ _ _ _ ea eL
    generalize as[n - 1 - i]=ax at ea gu'
    generalize Ls[n - 1 - i]=px at eL pu'
    have db':=hd i d _ ed eL2
    generalize Ls[n - i]=qx at eL2 db'
    have ga':=s' _ _ ga
    have ix:atI (as.map V.ref) ((n - 1 - i:Nat):Int)=some (.ref ax):=m6 (aG2 ea)
    walk_at "w"
    have e1:n - 1 - i+1=n - i:=by omega
    refine⟨α,κ,ax,d,f,n - 1 - i,us',px,qx,wF W i (n - i),W,L,rfl,s' _ _ gu',pu'.same s',hok.nd px (oH eL),hok.few px (oH eL),db',hW.same s',λx hx=>?_,λq H4 s4 nq dq=>?_⟩
    ·obtain⟨n1,n2⟩:=hok.ne _ px x eL (by omega) hx
     exact⟨hL _ px x eL (by omega) hx,n1,n2,λw hw=>hok.on _ px qx x w eL (by rw[e1];exact eL2) hx hw⟩
    have gd4:=s4 _ _ gd
    walk_at "w"
    refine uO (bX.of gd4) ?_
    walk_at "w"
    refine aAj (xs:=ds.map V.ref) gd4 (zF (by rw[bL];omega:(ds.map V.ref).length < 20000) (cK (by decide))) ?_
    obtain⟨H5,i5,k5,g5⟩:=wr H4 lw _;rw[i5]
    walk_at "w"
    refine⟨λb o e=>k5 _ _ (s4 _ _ (s' _ _ e)) (bM nlH e),⟨ds ++ [q],by rw[g5,oA];rfl,by rw[sI,ld];rfl,⟨q,by rw[Qt9 (by omega),ld,Sp9];rfl,rfl⟩,λj d ps h1 h2=>?_⟩,_,_,rfl⟩
    by_cases hj:j < i+1
    ·rw[Qs9 (by omega)] at h1
     have z:=κ.sF (hd j d ps h1 h2) s4
     exact κ.aJ0 z (λy=>κ.aM7 z (by rw[y];exact gd4)) k5
    ·have hj2:j < (ds ++ [q]).length:=(qM.mp h1).1
     rw[sI,Rc9] at hj2
     obtain rfl:j=i+1:=by omega
     rw[Qt9 (by omega),ld,Sp9] at h1
     cases h1
     rw[show n - (i+1)=n - 1 - i by omega,eL] at h2
     cases h2
     have z:=κ.aJ0 dq (λy=>κ.aM7 dq (by rw[y];exact gd4)) k5
     have ee:(λx=>jJ (wF W i (n - i)) (W (n - 1 - i) x))=wF W (i+1) (n - (i+1)):=by
      rw[show n - (i+1)=n - 1 - i by omega]
      funext x
      show _=jJ (wF W i (n - 1 - i+1)) (W (n - 1 - i) x)
      rw[e1]
     rw[<-ee]
     exact z
   ·subst e
    walk_at "w"
    refine⟨lw,_,rfl,gd,λq nq=>?_⟩
    obtain⟨H5,i5,s5,g5⟩:=nw _ nq;rw[i5]
    walk_at "w"
    refine k q H5 (s'.trans s5) (s'.free nq) ⟨⟨ds.reverse,by rw[g5,List.map_reverse],by rw[Sw9,ld,hn],λi d ps h1 h2=>?_⟩⟩
    have hi:i < ds.length:=by rw[<-Sw9];exact(qM.mp h1).1
    rw[List.getElem?_reverse hi] at h1
    have z:=hd _ d ps h1 (by rw[show n - (ds.length - 1 - i)=i by omega];exact h2)
    rw[show n - (ds.length - 1 - i)=i by omega,show ds.length - 1 - i=Ls.length - 1 - i by omega] at z
    exact κ.sF z s5
def aFl(K:W.Frag):Sp:=λvs H Q _=>∃(α:Type) (κ:PK α) (l d:Addr) (ws:List (Wy α)) (ps:List α) (g:α->Int),vs=[.ref l,.ref d]/\yN κ H l ws/\κ.da H d ps g/\ws≠[]/\ws.length<=10000/\(∀w∈ws,w.2.1∈ps)/\
 ∀a w H',aQ H H'->aAI g ws=some w->aCG κ H' a w->Q (.ref a) H'
theorem aFm{mg:Str->Option Value}{a:jX}(tx:Txt K mg a):bS P w K mg base gZ 2 a.oZ a.o5 ["ways","behind"] (aFl K):=by
 have aAK:=aCH (P:=P) (w:=w) (base:=base) tx
 refine tx.vH.ok zP (λvs H Q E h=>?_) (λcdv A outer s H vs Q E hr h=>?_)
 ·obtain⟨α,κ,l,d,ws,ps,g,rfl,_⟩:=h
  rfl
 ·obtain⟨α,κ,l,d,ws,ps,g,rfl ,hw,hd,hne,hlen,hin,k⟩:=h
  have hu:=kI hr
  refine aY (aE (mL (i:=2) zP.nd rfl (Or.inr rfl) (aH (aAK) (hr.mono (by decide)) (by rfl) tx.aAC tx.vG.kp tx.aAB .nil aZ (aA (Z.pv 0) (aA (Z.pv 1) aC))))
   (aG (aN (aJ (K':=K) (bU (k:=1) (idx:=[1,2]) (N:=["way","behind","least"]) (cR (sc:=aF fZ) (NX:=["ways","behind","least"]) rfl rfl rfl (by decide +kernel)) rfl (bO (K':=K) (Z.pv 0)) (λ_ _ _ _=>(aI (i:=0) (show(["way","behind","least"]:List Str).Nodup by decide +kernel))) (dJ (by decide)) (λ_ _ _ _=>(mK (bA (r:=v5 K) (jF hu) (aO cM (aJ (K':=K) (Z.pv 0) aD) (wV hu (Z.pv 1) (aJ (K':=K) (Z.pv 0) aD))) (Z.pv 2) (bY _)))) (λ_ _ _ _=>(Z.pv 0))) aD)))) ?_
  refine aS (σ:=[some (.ref l),some (.ref d),none]) rfl ?_
  walk_at "w"
  refine⟨α,κ,l,d,ws,ps,g,rfl,hw,hd,hne,hlen,hin,λH1 s1=>?_⟩
  obtain⟨as,gl,rl⟩:=(hw.same s1).ex
  have las:=rl.len
  have hd1:=κ.sF hd s1
  walk_at "w"
  refine j8 (bX.of gl) ?_
  refine eB (xs:=as.map V.ref) (λj us H'=>H'=H1/\us.length<=j/\(us=[]->∀w∈ws.take j,¬w.2.2+g w.2.1=jJ g ws)/\∀u,us[0]?=some u->∃a w,u=.ref a/\aAI g ws=some w/\aCG κ H1 a w) ⟨rfl,eA _,(λ_ w hw=>by simp at hw),(λu hu=>by simp at hu)⟩ (cK (by rw[bL];omega))
   (λj us H' hj ⟨e0,e1,_⟩=>⟨by rw[e0];exact bX.of gl,e1⟩) (λj v us H' hv ⟨e0,e1,e2,e3⟩=>?_) (λus H' ⟨e0,e1,e2,e3⟩=>?_)
  ·subst e0
   obtain⟨a1,w,ea,rfl,ew,vv,g1,hp⟩:=rl.gt hv
   walk_at "w"
   refine⟨d,_,rfl,κ.get hd1 hp (hin w (oH ew)),?_⟩
   walk_at "w"
   refine cW (λh=>?_) (λh=>?_)
   ·walk_at "w"
    refine⟨rfl,by rw[sI,Rc9];omega,(λz=>by simp at z),λu hu=>?_⟩
    cases us with
    |nil=>
     cases hu
     refine⟨a1,w,rfl,?_,vv,g1,hp⟩
     unfold aAI
     exact aJZ ew (λx hx=>decide_eq_false (e2 rfl x hx)) (decide_eq_true h)
    |cons y r=>exact e3 u hu
   ·walk_at "w"
    refine⟨rfl,by omega,λz x hx=>?_,e3⟩
    rw[aBr ew] at hx
    rcases Rk9.mp hx with q|q
    ·exact e2 z x q
    ·rw[Rb9.mp q];exact h
  subst e0
  rw[bL,las,Qv9] at e2
  obtain⟨w0,hw0,hw1⟩:=aAH g hne
  cases us with
  |nil=>exact absurd hw1 (e2 rfl w0 hw0)
  |cons u0 r=>
   obtain⟨a1,w,rfl,f1,hA⟩:=e3 u0 rfl
   intro l2 n2
   obtain⟨H2,i2,s2,g2⟩:=nw _ n2;rw[i2]
   have ix:atI (V.ref a1::r) 0=some (.ref a1):=m6 (j:=0) rfl
   walk_at "w"
   exact k a1 w H2 (s1.trans s2) f1 (hA.same s2)
def aBt(K:PySem.W.Frag)(C:Addr->Sp->Prop):Sp:=λvs H Q _=>∃(α:Type) (κ:PK α) (v:V) (x:α) (p0:List α) (lw f:Addr) (Ls:List (List α)) (W:Nat->α->List (Wy α)) (L:Nat->α->Prop),vs=[v,.ref lw,.ref f]/\κ.pv H v x/\aK2 κ H lw Ls (λi=>wF W (Ls.length - 1 - i) i)/\Ls[0]?=some p0/\x∈p0/\aM8 W Ls/\Ls.length<=10000/\aAJ κ C H f W L/\
 (∀(i:Nat) ps x,Ls[i]?=some ps->i+1 < Ls.length->x∈ps->L i x)/\∀q H',aQ H H'->H q=none->H' q=some (.lst ((aJn W (Ls.length - 1) 0 x).map V.int))->Q (.ref q) H'
theorem aG3{mg:Str->Option Value}{a:jX}(tx:Txt K mg a):bS P w K mg base gZ 10 a.rJ a.rK ["place","worths","ways_at"] (aBt K (Clo P w K mg base (8+1))):=by
 have aG4:=aFm (P:=P) (w:=w) (base:=base) tx
 refine tx.xX.ok kQ (λvs H Q E h=>?_) (λcdv A outer s H vs Q E hr h=>?_)
 ·obtain⟨α,κ,v,x,p0,lw,f,Ls,W,L,rfl,_⟩:=h
  rfl
 ·obtain⟨α,κ,v,x,p0,lw,f,Ls,W,L,rfl ,hv,hds,hp0,hx0,hok,hlen,hW,hL,k⟩:=h
  have hu:=kI hr
  refine aY (aE (aK (i:=3) kQ.nd (tI aC))
   (aE (bW PassesOwn.never rfl (eW (by rfl) tx.gF (aA (aO hU (aL (rc:=wK K) dC (by rfl) tx.lX kL (aA (Z.pv 1) aC)) aD) aC)) (aI (i:=4) kQ.nd) (aE (aK (i:=5) kQ.nd (aH (aG4) (hr.mono (by decide)) (by rfl) tx.aBj tx.vH.kp tx.aBi .nil aZ (aA (aCj (P:=P) (w:=w) (K:=K) (mg:=mg) (base:=base) (i:=2) (k:=8+1) (hr.mono (by decide)) (aA (Z.pv 4) (aA (Z.pv 0) aC))) (aA (aJ (K':=K) (Z.pv 1) (aO cM (Z.pv 4) aD)) aC))))
   (aE (hX (jV (K':=K) (Z.pv 3) (aA (aJ (K':=K) (Z.pv 5) aD) aC)))
   (aG (aK (i:=0) kQ.nd (aJ (K':=K) (Z.pv 5) aD))))))
   (aG (aN (Z.pv 3))))) ?_
  obtain⟨ds,gds,lds,hds'⟩:=hds.ex
  obtain⟨spc,hC,hp⟩:=hW.ex
  have pos:=hok.pos
  obtain⟨n,hn⟩ : ∃n,Ls.length=n+1:=⟨Ls.length - 1,by omega⟩
  refine aS (σ:=[some v,some (.ref lw),some (.ref f),none,none,none]) rfl ?_
  walk_at "w"
  intro lr nlr
  obtain⟨H1,i1,s1,g1⟩:=nw _ nlr;rw[i1]
  have gds1:=s1 _ _ gds
  walk_at "w"
  refine⟨by rw[bL];omega,by rw[bL];omega,?_⟩
  rw[show(((ds.map V.ref).length:Int) - 1).toNat=n by rw[bL,lds,hn];omega]
  refine wM (n:=n) (λi σ' H'=>aQ H H'/\∃(row:List Int) (u:V) (y:α) (ps:List α) (z4 z5:Option V),σ'=[some u,some (.ref lw),some (.ref f),some (.ref lr),z4,z5]/\H' lr=some (.lst (row.map V.int))/\row.length=i/\κ.pv H' u y/\Ls[i]?=some ps/\y∈ps/\row++aJn W (n - i) i y=aJn W n 0 x)
   ⟨s1,[],v,x,p0,_,_,rfl,g1,rfl,κ.sE hv s1,hp0,hx0,rfl⟩ (λi σ' H' hi ⟨s',row,u,y,ps,z4,z5,e,gr,lr',py,eps,hy,hrow⟩=>?_) (λσ' H' ⟨s',row,u,y,ps,z4,z5,e,gr,lr',py,eps,hy,hrow⟩=>?_)
  ·subst e
   have eq:Ls[i+1]?=some Ls[i+1]:=eU (by omega)
   have ed:ds[i+1]?=some ds[i+1]:=eU (by omega)
   have hdd:=hds' (i+1) _ _ ed eq
   generalize ds[i+1]=dx at ed hdd
   generalize Ls[i+1]=qs at eq hdd
   obtain⟨n1,n2⟩:=hok.ne i ps y eps (by omega) hy
   have gds':=s' _ _ gds
   have ix:atI (ds.map V.ref) ((0+(i:Int))+1)=some (.ref dx):=by
    rw[show(0+(i:Int))+1=((i+1:Nat):Int) by push_cast;omega]
    exact m6 (aG2 ed)
   walk_at "w"
   refine aHT rfl hC ?_
   walk_at "w"
   rw[show(0+(i:Int))=(i:Int) by omega]
   refine hp H' i u y _ s' (hL i ps y eps (by omega) hy) py λl H2 s2 hws=>?_
   have gds2:=s2 _ _ gds'
   have ix2:atI (ds.map V.ref) ((i:Int)+1)=some (.ref dx):=by rw[<-ix,show(0+(i:Int))=(i:Int) by omega]
   walk_at "w"
   refine⟨α,κ,l,dx,W i y,qs,_,rfl,hws,κ.sF hdd (s'.trans s2),n1,n2,λw hw=>hok.on i ps qs y w eps eq hy hw,λa w H3 s3 fw hA=>?_⟩
   obtain⟨vv,ga,hpv⟩:=hA
   have gr3:=(s2.trans s3) _ _ gr
   have hwm:w∈W i y:=by
    unfold aAI at fw
    exact List.mem_of_find?_eq_some fw
   walk_at "w"
   refine uO (bX.of gr3) ?_
   walk_at "w"
   refine aAj (xs:=row.map V.int) gr3 (zF (by rw[bL];omega:(row.map V.int).length < 20000) (cK (by decide))) ?_
   obtain⟨H4,i4,k4,g4⟩:=wr H3 lr _;rw[i4]
   have na:a≠lr:=λz=>by rw[z,gr3] at ga;cases ga
   have ga4:=k4 _ _ ga na
   have hpv4:κ.pv H4 vv w.2.1:=κ.aG1 hpv gr3 k4
   walk_at "w"
   refine⟨λb o e=>k4 _ _ ((s'.trans (s2.trans s3)) _ _ e) (bM nlr e),row ++ [w.1],vv,w.2.1,qs,_,_,rfl,by rw[g4,oA];rfl,by rw[sI,lr'];rfl,hpv4,eq,hok.on i ps qs y w eps eq hy hwm,?_⟩
   rw[<-hrow,Tg9]
   congr 1
   obtain⟨m,hm⟩ : ∃m,n - i=m+1:=⟨n - i - 1,by omega⟩
   rw[hm,show n - (i+1)=m by omega]
   have fw':aAI (wF W m (i+1)) (W i y)=some w:=by rw[<-fw,show Ls.length - 1 - (i+1)=m by omega]
   show _=(match aAI (wF W m (i+1)) (W i y) with|none=>[]|some w=>w.1::aJn W m (i+1) w.2.1)
   rw[fw']
   rfl
  ·subst e
   walk_at "w"
   rw[Sp9,show aJn W 0 n y=[] from rfl,Rt9] at hrow
   refine k lr H' s' nlr ?_
   rw[gr,hrow,hn,Nat.add_sub_cancel]
def On(m:MS)(s s':Int×Int):Prop:=∃on,Bit on/\(s.1=on\/s.2=0)/\s'=tD m s.1 s.2 on
def Rc(m:MS)(a:Int×Int):Nat->Int×Int->Prop
 |0,s=>s=a
 |n+1,s=>∃q,Rc m a n q/\On m q s
def sLt(a b:Int×Int):Prop:=a.1 < b.1\/(a.1=b.1/\a.2 < b.2)
def St1(m:MS)(s:Int×Int):Prop:=(s.1=1/\0<=s.2/\s.2 < m.up)\/(s.1=0/\0<=s.2/\s.2 < 60)
theorem St1.st0{m:MS}(g:m.Good){s:Int×Int}(h:St1 m s):St0 s.1 s.2:=by
 obtain⟨u0,u1⟩:=g.up
 rcases h with ⟨a,b,c⟩|⟨a,b,c⟩
 ·exact⟨.inr a,b,by omega⟩
 ·exact⟨.inl a,b,c⟩
theorem Rc.st{m:MS}(g:m.Good){a:Int×Int}(h:St1 m a):∀{n:Nat}{s:Int×Int},Rc m a n s->St0 s.1 s.2/\(s.2 < 12\/(s.1=0/\s.2=a.2 - n))
 |0,s,hs=>by
  have hs':s=a:=hs
  subst hs'
  obtain⟨u0,u1⟩:=g.up
  refine⟨h.st0 g,?_⟩
  rcases h with ⟨x,y,z⟩|⟨x,y,z⟩
  ·exact .inl (by omega)
  ·exact .inr ⟨x,by omega⟩
 |n+1,s,hs=>by
  obtain⟨q,hq,on,bon,may,rfl⟩:=hs
  obtain⟨i1,i2⟩:=Rc.st g h hq
  obtain⟨u0,u1⟩:=g.up
  obtain⟨d0,d1⟩:=g.down
  refine⟨i1.tD g bon,?_⟩
  unfold My.tD
  by_cases e:q.1=on
  ·rw[if_pos e]
   rcases i2 with i2|⟨i2,i3⟩
   ·exact .inl (by show max (q.2 - 1) 0 < 12;omega)
   ·by_cases z:q.2 - 1 < 12
    ·exact .inl (by show max (q.2 - 1) 0 < 12;omega)
    ·refine .inr ⟨by show on=0;omega,?_⟩
     show max (q.2 - 1) 0=a.2 - ((n+1:Nat):Int)
     omega
  ·rw[if_neg e]
   split
   ·exact .inl (by show m.up - 1 < 12;omega)
   ·exact .inl (by show m.down - 1 < 12;omega)
theorem Rc.few{m:MS}(g:m.Good){a:Int×Int}(h:St1 m a){n:Nat}{ks:List (Int×Int)}(nd:ks.Nodup)(hr:∀k∈ks,Rc m a n k):ks.length<=25:=by
 have:=aM6 25 (ks.map λk=>if k.2 < 12 then (k.1*12+k.2).toNat else 24) (by
  rw[List.Nodup,Tj9]
  refine nd.imp_of_mem ?_
  intro x y hx hy hxy z
  obtain⟨⟨a1,a2,a3⟩,a4⟩:=Rc.st g h (hr x hx)
  obtain⟨⟨b1,b2,b3⟩,b4⟩:=Rc.st g h (hr y hy)
  refine hxy ?_
  by_cases c1:x.2 < 12 <;> by_cases c2:y.2 < 12
  ·rw[if_pos c1,if_pos c2] at z
   refine Prod.ext ?_ ?_
   ·rcases a1 with a1|a1 <;> rcases b1 with b1|b1 <;> rw[a1,b1] <;> rw[a1,b1] at z <;> omega
   ·rcases a1 with a1|a1 <;> rcases b1 with b1|b1 <;> rw[a1,b1] at z <;> omega
  ·rw[if_pos c1,if_neg c2] at z
   rcases a1 with a1|a1 <;> rw[a1] at z <;> omega
  ·rw[if_neg c1,if_pos c2] at z
   rcases b1 with b1|b1 <;> rw[b1] at z <;> omega
  ·rcases a4 with a4|⟨a4,a5⟩
   ·omega
   ·rcases b4 with b4|⟨b4,b5⟩
    ·omega
    ·exact Prod.ext (by omega) (by omega)) (λx hx=>by
  obtain⟨k,hk,rfl⟩:=Qy9.mp hx
  obtain⟨⟨a1,a2,a3⟩,a4⟩:=Rc.st g h (hr k hk)
  split
  ·rcases a1 with a1|a1 <;> rw[a1] <;> omega
  ·omega)
 simpa using this
structure aM9(m:MS)(a:Int×Int)(Ls:List (List (Int×Int))):Prop where
 at_:∀(i:Nat) ps,Ls[i]?=some ps->ps.Pairwise sLt/\∀s,s∈ps↔Rc m a i s
theorem aNa{ps:List (Int×Int)}(h:ps.Pairwise sLt):ps.Nodup:=h.imp λ{a b} hab z=>by
 subst z
 rcases hab with y|⟨_,y⟩ <;> omega
def gnT(m:MS)(p:Int):Int:=p*m.least+gn p m.pieces
def aNb(m:MS)(s:Int×Int)(on:Int):Int:=aQZ m s.1 [on]
def hw(m:MS)(p:Int)(s:Int×Int)(on:Int):Int:=aNb m s on - on*gnT m p
def aG5(s:Int×Int)(on:Int):Bool:=decide (s.1=on) || decide (s.2=0)
def rwy(m:MS)(p:Int)(s:Int×Int):List (Wy (Int×Int)):=(([0,1]:List Int).filter (aG5 s)).map λon=>(on,tD m s.1 s.2 on,hw m p s on)
def Wr(m:MS)(ps:List Int)(i:Nat)(s:Int×Int):List (Wy (Int×Int)):=rwy m (ps.getD i 0) s
theorem aBu{s:Int×Int}{on:Int}:aG5 s on=true↔s.1=on\/s.2=0:=by unfold aG5;simp
theorem aDw{p:Int}{s:Int×Int}{w:Wy (Int×Int)}:w∈rwy m p s↔∃on,Bit on/\(s.1=on\/s.2=0)/\w=(on,tD m s.1 s.2 on,hw m p s on):=by
 unfold rwy
 rw[Qy9]
 constructor
 ·rintro ⟨on,h,rfl⟩
  obtain⟨h1,h2⟩:=Sm9.mp h
  exact⟨on,by simpa [Bit] using h1,aBu.mp h2,rfl⟩
 ·rintro ⟨on,b,h,rfl⟩
  exact⟨on,Sm9.mpr ⟨by simpa [Bit] using b,aBu.mpr h⟩,rfl⟩
theorem aQ0{p:Int}{s:Int×Int}(b:Bit s.1):rwy m p s≠[]:=λz=>by
 have:_∈rwy m p s:=aDw.mpr ⟨s.1,b,.inl rfl,rfl⟩
 rw[z] at this
 cases this
theorem aJ1(m:MS)(p:Int)(s:Int×Int):(rwy m p s).length<=2:=by
 unfold rwy
 rw[bL]
 exact List.length_filter_le ..
theorem aJ2{m:MS}(g:m.Good){a:Int×Int}(h:St1 m a)(qs:List Int){Ls:List (List (Int×Int))}(pos:0 < Ls.length)(hl:aM9 m a Ls):aM8 (Wr m qs) Ls where
 pos:=pos
 nd:=λps hp=>by
  obtain⟨i,hi⟩:=Rh9 hp
  exact aNa (hl.at_ i ps hi).1
 few:=λps hp=>by
  obtain⟨i,hi⟩:=Rh9 hp
  obtain⟨h1,h2⟩:=hl.at_ i ps hi
  exact Rr9 (Rc.few g h (aNa h1) λk hk=>(h2 k).mp hk) (by decide)
 ne:=λi ps x hi _ hx=>by
  have:=((Rc.st g h (((hl.at_ i ps hi).2 x).mp hx)).1).1
  exact⟨aQ0 this,Rr9 (aJ1 ..) (by decide)⟩
 on:=λi ps rs x w hi hj hx hw=>by
  obtain⟨on,b,may,rfl⟩:=aDw.mp hw
  exact((hl.at_ (i+1) rs hj).2 _).mpr ⟨x,((hl.at_ i ps hi).2 x).mp hx,on,b,may,rfl⟩
def rwF(m:MS)(qs:List Int)(a:Int×Int):Int:=wF (Wr m qs) qs.length 0 a
def rrF(m:MS)(qs:List Int)(a:Int×Int):List Int:=aJn (Wr m qs) qs.length 0 a
def κS:PK (Int×Int):=.tk sX λ_ _ h=>aBq h
theorem cO.aR9(h:cO C H q m)(e:H w=some (.dT kvs)):cO C (del w H) q m:=by
 obtain⟨dx,pl,h1,h2⟩:=h.ex
 obtain⟨qs,h3,h4⟩:=h2.ex
 refine⟨dx,pl,qG h1 (λz=>by rw[z,e] at h1;cases h1),qs,qG h3 (λz=>by rw[z,e] at h3;cases h3),h4.len,λj a t h5 h6=>?_⟩
 have h7:=h4.at_ j a t h5 h6
 exact qG h7 (λz=>by rw[z,e] at h7;cases h7)
theorem aOL(x:Option Int):(x.map V.int).getD (.int 0)=.int (x.getD 0):=by cases x <;> rfl
theorem aQ1{ps:List WP}{i:Nat}(h:(enc ps)[i]?=some kv):∃p,ps[i]?=some p/\kv=(sX p.1,V.int p.2):=by
 unfold enc at h
 rw[pG] at h
 obtain⟨p,hp,e⟩:=Qw9.mp h
 exact⟨p,hp,e.symm⟩
theorem aJ3(ps:List WP):(enc ps).length=ps.length:=by unfold enc;rw[bL]
theorem aK3{ps:List WP}{k s:Int×Int}{v:Int}:s∈(addW ps k v).map (·.1)↔s∈ps.map (·.1)\/s=k:=by
 unfold addW
 by_cases h:ps.any (λp=>decide (p.1=k))=true
 ·rw[if_pos h,Ru9]
  have e:((λp:WP=>p.1) ∘ λp:WP=>if p.1=k then (p.1,v) else p)=λp=>p.1:=by
   funext p
   show(if p.1=k then (p.1,v) else p).1=p.1
   split <;> rfl
  rw[e]
  refine⟨.inl,λz=>?_⟩
  rcases z with z|z
  ·exact z
  ·obtain⟨p,hp,e⟩:=List.any_eq_true.mp h
   rw[z]
   exact Qy9.mpr ⟨p,hp,of_decide_eq_true e⟩
 ·rw[if_neg h,oA,Rk9]
  simp
def aEH(K:W.Frag)(C:Addr):Sp:=λvs H Q _=>∃(q:Addr) (m:MS) (w:Addr) (ps:List WP),vs=[.ref q,.ref w]/\cO C H q m/\m.Good/\H w=some (.dT (enc ps))/\aFk ps/\
 ∀w' ps' H',aQ (del w H) H'->H w'=none->H' w'=some (.dT (enc ps'))->aFk ps'->(∀s,s∈ps'.map (·.1)↔∃q∈ps.map (·.1),On m q s)->Q (.ref w') H'
theorem aEI{mg:Str->Option Value}{a:jX}(tx:Txt K mg a):bS P w K mg base gZ 3 a.nJ a.nK ["machine","ways"] (aEH K a.aR):=by
 have mC:=uD (P:=P) (w:=w) (base:=base) tx
 have fB:=mB (P:=P) (w:=w) (base:=base) tx
 refine tx.sU.ok fV (λvs H Q E h=>?_) (λcdv A outer s H vs Q E hr h=>?_)
 ·obtain⟨q,m,w,ps,rfl,_⟩:=h
  rfl
 ·obtain⟨q,m,w,ps,rfl ,hm,hg,gw,hW,k⟩:=h
  have hu:=kI hr
  refine aY (aE (aK (i:=2) fV.nd wY)
   (aE (bW PassesOwn.never rfl (aHQ (Z.pv 1)) (bI (K':=K) (n:=2) rfl (aM (aI (i:=3) fV.nd) (aM (aI (i:=4) fV.nd) bH))) (aG (bW PassesOwn.never rfl (aDU (K':=K) (jR aD aD)) (aI (i:=5) fV.nd) (aG (bV (eF (aH (mC) (hr.mono (by decide)) (by rfl) tx.tT tx.pQ.kp tx.tP .nil aZ (aA (Z.pv 0) (aA (Z.pv 3) (aA (Z.pv 5) aC))))) (aE (aK (i:=6) fV.nd (aH (fB) (hr.mono (by decide)) (by rfl) tx.jO tx.gX.kp tx.jN .nil aZ (aA (Z.pv 0) (aA (Z.pv 3) (aA (Z.pv 5) aC)))))
   (aG (aAp hu (Z.pv 2) (Z.pv 6) (aO cM (aHS hu (Z.pv 2) (Z.pv 6) aD) (Z.pv 4))))) bD)))))
   (aG (aN (Z.pv 2))))) ?_
  have hmD:=hm.aR9 gw
  refine aS (σ:=[some (.ref q),some (.ref w),none,none,none,none,none]) rfl ?_
  walk_at "w"
  refine aFL ?_
  intro l nl
  obtain⟨H1,i1,s1,g1⟩:=nw _ nl;rw[i1]
  have gw1:=s1 _ _ gw
  have lw:l≠w:=λz=>by rw[z,gw] at nl;cases nl
  have nlD:del w H l=none:=by rw[aJj lw];exact nl
  walk_at "w"
  refine aRJ gw1 λob=>?_
  obtain⟨H2,i2,k2,g2⟩:=wr H1 w _;rw[i2]
  have g12:=k2 _ _ g1 lw
  have S2:aQ (del w H) H2:=λb o e=>k2 _ _ (s1 _ _ (aQX _ _ e)) (λz=>by rw[z,aO9] at e;cases e)
  refine aMw (kvs:=enc ps) (λi σ' H'=>∃(ps':List WP) (z3 z4 z5 z6:Option V),σ'=[some (.ref q),some (.ref w),some (.ref l),z3,z4,z5,z6]/\H' l=some (.dT (enc ps'))/\aFk ps'/\(∀s,s∈ps'.map (·.1)↔∃q∈(ps.take i).map (·.1),On m q s)/\aQ (del w H) H'/\H' w=some (.frz ob (.dT (enc ps))))
   ⟨[],_,_,_,_,rfl,g12,⟨List.nodup_nil,λp hp=>by cases hp⟩,λs=>⟨(λh=>by cases h),(λ⟨q,h,_⟩=>by simp at h)⟩,S2,g2⟩ (λi σ' H' hi ⟨_,_,_,_,_,_,_,_,_,_,h⟩=>h) (λi kv σ' H' T b hk ⟨ps',z3,z4,z5,z6,e,gl,hW',hs,S',gw'⟩ nT gb=>?_) (λσ' H' ⟨ps',z3,z4,z5,z6,e,gl,hW',hs,S',gw'⟩=>?_)
  ·subst e
   obtain⟨p,ep,rfl⟩:=aQ1 hk
   have hst:=hW.st p (oH ep)
   have gb0:H' b=some (.tup [.int p.1.1,.int p.1.2]):=gb
   obtain⟨H3,i3,s3,gT⟩:=nw _ nT;rw[i3]
   refine cP (jQ.of gT) rfl ?_
   walk_at "w"
   intro Tu nTu
   obtain⟨H4,i4,s4,gTu⟩:=nw _ nTu;rw[i4]
   have gl4:=(s3.trans s4) _ _ gl
   have gb4:=(s3.trans s4) _ _ gb0
   have gw4:=(s3.trans s4) _ _ gw'
   have S4:=S'.trans (s3.trans s4)
   have Tul:Tu≠l:=λz=>by rw[z,gl4] at gTu;cases gTu
   have bl:b≠l:=λz=>by rw[z,gl4] at gb4;cases gb4
   walk_at "w"
   refine aO4 (jQ.of gTu) ?_
   refine aQD (xs:=([0,1]:List Int).map V.int) (λj σ' H'=>∃(ps':List WP) (z5 z6:Option V),σ'=[some (.ref q),some (.ref w),some (.ref l),some (.ref b),some (.int p.2),z5,z6]/\H' l=some (.dT (enc ps'))/\aFk ps'/\(∀s,s∈ps'.map (·.1)↔(∃q∈(ps.take i).map (·.1),On m q s)\/∃on∈([0,1]:List Int).take j,(p.1.1=on\/p.1.2=0)/\s=tD m p.1.1 p.1.2 on)/\aQ (del w H) H'/\cU l H4 H')
    ⟨ps',_,_,rfl,gl4,hW',λs=>by rw[hs s];simp,S4,λ_ _ e _=>e⟩ (λj σ' H' hj ⟨_,_,_,_,_,_,_,_,h⟩=>jQ.of (h _ _ gTu Tul)) (λj v σ' H5 hv ⟨ps',z5,z6,e,gl5,hW5,hs5,S5,k5⟩=>?_) (λσ' H5 ⟨ps',z5,z6,e,gl5,hW5,hs5,S5,k5⟩=>?_)
   ·subst e
    obtain⟨on,eon,rfl⟩:=gG hv
    have bon:Bit on:=by
     have:=oH eon
     simp at this
     exact this
    have gb5:=k5 _ _ gb4 bl
    have tk:([0,1]:List Int).take (j+1)=([0,1]:List Int).take j ++ [on]:=by rw[Rq9,eon];rfl
    walk_at "w"
    refine⟨_,b,_,_,on,rfl,gb5,?_⟩
    by_cases hmay:p.1.1=on\/p.1.2=0
    ·rw[show(decide (p.1.1=on) || decide (p.1.2=0))=true by simpa using hmay]
     walk_at "w"
     refine⟨q,m,b,_,_,on,rfl,hmD.same S5,gb5,hmay,λT2 H6 s6 nT2 gT2=>?_⟩
     have gl6:=s6 _ _ gl5
     have gk:H6 T2=some (.tup ((sX (tD m p.1.1 p.1.2 on)).map kV)):=gT2
     have hle:=hW5.len
     walk_at "w"
     refine⟨l,rfl,.inr ⟨_,.inl gl6⟩,?_⟩
     walk_at "w"
     refine⟨_,wG.t gl6 gk,?_⟩
     rw[aOI,aOL]
     walk_at "w"
     refine⟨l,_,rfl,aDL.t gl6 gk (zF (by rw[aJ3];omega:(enc ps').length < 1000) (cK (by decide))),?_⟩
     rw[aOJ]
     obtain⟨H7,i7,k7,g7⟩:=wr H6 l _;rw[i7]
     walk_at "w"
     refine⟨_,_,_,rfl,g7,hW5.add (hst.tD hg bon) p.2,λs=>?_,λb o e=>k7 _ _ ((S5.trans s6) _ _ e) (bM nlD e),k5.trans (s6.keep.trans k7)⟩
     rw[aK3,hs5 s,tk]
     constructor
     ·rintro ((h|⟨on',h1,h2⟩)|h)
      ·exact .inl h
      ·exact .inr ⟨on',Sl9 _ h1,h2⟩
      ·exact .inr ⟨on,Ra9 _ (.head _),hmay,h⟩
     ·rintro (h|⟨on',h1,h2,h3⟩)
      ·exact .inl (.inl h)
      ·rcases Rk9.mp h1 with z|z
       ·exact .inl (.inr ⟨on',z,h2,h3⟩)
       ·rw[Rb9.mp z] at h3;exact .inr h3
    ·rw[show(decide (p.1.1=on) || decide (p.1.2=0))=false by simpa using hmay]
     walk_at "w"
     refine⟨ps',_,_,rfl,gl5,hW5,λs=>?_,S5,k5⟩
     rw[hs5 s,tk]
     constructor
     ·rintro (h|⟨on',h1,h2⟩)
      ·exact .inl h
      ·exact .inr ⟨on',Sl9 _ h1,h2⟩
     ·rintro (h|⟨on',h1,h2,h3⟩)
      ·exact .inl h
      ·rcases Rk9.mp h1 with z|z
       ·exact .inr ⟨on',z,h2,h3⟩
       ·rw[Rb9.mp z] at h2;exact absurd h2 hmay
   ·subst e
    refine⟨ps',_,_,_,_,rfl,gl5,hW5,λs=>?_,S5,k5 _ _ gw4 (Ne.symm lw)⟩
    rw[hs5 s,take_snoc ep,oA]
    constructor
    ·rintro (⟨q,h1,h2⟩|⟨on',h1,h2,h3⟩)
     ·exact⟨q,Sl9 _ h1,h2⟩
     ·exact⟨p.1,Ra9 _ (.head _),on',by simpa [Bit] using h1,h2,h3⟩
    ·rintro ⟨q,h1,on',b1,h2,h3⟩
     rcases Rk9.mp h1 with z|z
     ·exact .inl ⟨q,z,on',b1,h2,h3⟩
     ·rw[show q=p.1 by simpa using z] at h2 h3
      exact .inr ⟨on',by rcases b1 with rfl|rfl <;> simp,h2,h3⟩
  ·subst e
   walk_at "w"
   refine k l ps' H' S' nl gl hW' λs=>?_
   rw[hs s,aJ3,Qv9]
theorem RL.app{α:Type}{P:Addr->α->Prop}{as bs:List Addr}{xs ys:List α}(h:RL P as xs)(h':RL P bs ys):RL P (as++bs) (xs++ys):=by
 refine⟨by rw[sI,sI,h.len,h'.len],λj q u hq hu=>?_⟩
 by_cases hj:j < as.length
 ·rw[Qs9 hj] at hq
  rw[Qs9 (by rw[<-h.len];exact hj)] at hu
  exact h.at_ j q u hq hu
 ·rw[Qt9 (by omega)] at hq
  rw[Qt9 (by rw[<-h.len];omega),<-h.len] at hu
  exact h'.at_ _ q u hq hu
theorem RL.one{α:Type}{P:Addr->α->Prop}{a:Addr}{x:α}(h:P a x):RL P [a] [x]:=⟨rfl,λj q u hq hu=>by
 match j,hq,hu with
 |0,hq,hu=>cases hq;cases hu;exact h
 |_+1,hq,_=>simp at hq⟩
theorem aNc{t:TE}{σ σ':St}{H:Hp}{Q:VK}(e:σ'=σ)(h:t σ H Q):t σ' H Q:=e▸h
theorem aNd(ps:List WP):(enc ps).map (·.1)=(ps.map λp=>[p.1.1,p.1.2]).map λt=>t.map Sum.inl:=by
 unfold enc
 rw[Ru9,Ru9]
 rfl
theorem aFn{ps:List WP}{qs:List Addr}{us:List (List Int)}(nd:(ps.map (·.1)).Nodup)(hT:cI H qs us)(hp:us.Perm (ps.map λp=>[p.1.1,p.1.2]))(hs:us.Pairwise λa b=>jK b a=false) :
  ∃ks:List (Int×Int),ks.Pairwise sLt/\(∀s,s∈ks↔s∈ps.map (·.1))/\PVs κS H (qs.map V.ref) ks:=by
 have hform:∀u∈us,u=[u.getD 0 0,u.getD 1 0]:=λu hu=>by
  obtain⟨p,_,rfl⟩:=Qy9.mp (hp.mem_iff.mp hu)
  rfl
 have pk:(us.map λu=>(u.getD 0 0,u.getD 1 0)).Perm (ps.map (·.1)):=by
  have:=hp.map λu=>(u.getD 0 0,u.getD 1 0)
  rw[Ru9] at this
  exact this
 have ndk:=pk.nodup_iff.mpr nd
 refine⟨us.map λu=>(u.getD 0 0,u.getD 1 0),?_,λs=>pk.mem_iff,?_⟩
 ·rw[Tj9]
  have nd':us.Pairwise λa b=>(a.getD 0 0,a.getD 1 0)≠(b.getD 0 0,b.getD 1 0):=Tj9.mp ndk
  refine(hs.and nd').imp_of_mem ?_
  intro a b ha hb ⟨h1,h2⟩
  rw[hform a ha,hform b hb] at h1
  generalize a.getD 0 0=a0 at h1 h2 ⊢
  generalize a.getD 1 0=a1 at h1 h2 ⊢
  generalize b.getD 0 0=b0 at h1 h2 ⊢
  generalize b.getD 1 0=b1 at h1 h2 ⊢
  unfold sLt
  show a0 < b0\/(a0=b0/\a1 < b1)
  by_cases e0:a0=b0
  ·subst e0
   by_cases e1:a1=b1
   ·exact absurd (by rw[e1]) h2
   ·rw[fK,if_pos rfl,fK,if_neg (λz=>e1 z.symm)] at h1
    have:=of_decide_eq_false h1
    omega
  ·rw[fK,if_neg (λz=>e0 z.symm)] at h1
   have:=of_decide_eq_false h1
   omega
 ·refine⟨by rw[bL,bL,hT.len],λi v x h1 h2=>?_⟩
  rw[pG] at h1 h2
  obtain⟨q,e1,rfl⟩:=Qw9.mp h1
  obtain⟨u,e2,rfl⟩:=Qw9.mp h2
  have:=(hT.at_ i q u e1 e2).1
  rw[hform u (oH e2)] at this
  exact⟨q,rfl,this⟩
def aBv(K:W.Frag)(C:Addr):Sp:=λvs H Q _=>∃(q:Addr) (m:MS) (t:Addr) (a:Int×Int) (n:Nat),vs=[.ref q,.ref t,.int (n:Int)]/\cO C H q m/\m.Good/\H t=some (.tup [.int a.1,.int a.2])/\St1 m a/\n<=1000/\
 ∀la Ls H',aQ H H'->H la=none->aIk κS H' la Ls->aM9 m a Ls->Ls.length=n+1->Q (.ref la) H'
theorem aBw{mg:Str->Option Value}{a:jX}(tx:Txt K mg a):bS P w K mg base gZ 4 a.iU a.iV ["machine","state","hours"] (aBv K a.aR):=by
 have aFo:=aEI (P:=P) (w:=w) (base:=base) tx
 refine tx.mX.ok eR (λvs H Q E h=>?_) (λcdv A outer s H vs Q E hr h=>?_)
 ·obtain⟨q,m,t,st,n,rfl,_⟩:=h
  rfl
 ·obtain⟨q,m,t,st,n,rfl ,hm,hg,ht,hst,hn,k⟩:=h
  have hu:=kI hr
  refine aY (aE (aK (i:=3) eR.nd (aHR hu (Z.pv 1) aD))
   (aE (aK (i:=4) eR.nd (qQ (qQ (Z.pv 1))))
   (aE (bW PassesOwn.never rfl (eW (by rfl) tx.gF (aA (Z.pv 2) aC)) (aI (i:=5) eR.nd) (aE (aK (i:=3) eR.nd (aH (aFo) (hr.mono (by decide)) (by rfl) tx.zY tx.sU.kp tx.zX .nil aZ (aA (Z.pv 0) (aA (Z.pv 3) aC))))
   (aG (hX (jV (K':=K) (Z.pv 4) (aA (aL (rc:=aJa) (aGy rfl) (by rfl) tx.qF aFE (aA (Z.pv 3) aC)) aC))))))
   (aG (aN (Z.pv 4)))))) ?_
  refine aS (σ:=[some (.ref q),some (.ref t),some (.int (n:Int)),none,none,none]) rfl ?_
  walk_at "w"
  intro w nw0
  obtain⟨H1,i1,s1,g1⟩:=nw _ nw0;rw[i1]
  have ht1:=s1 _ _ ht
  walk_at "w"
  refine⟨t,sX st,rfl,ht1,g1,?_⟩
  obtain⟨H2,i2,k2,g2⟩:=wr H1 w _;rw[i2]
  have S2:aQ H H2:=λb o e=>k2 _ _ (s1 _ _ e) (bM nw0 e)
  walk_at "w"
  intro l0 nl0
  obtain⟨H3,i3,s3,g3⟩:=nw _ nl0;rw[i3]
  walk_at "w"
  intro la nla
  obtain⟨H4,i4,s4,g4⟩:=nw _ nla;rw[i4]
  have S4:aQ H H4:=S2.trans (s3.trans s4)
  have nlaH:H la=none:=(S2.trans s3).free nla
  have g24:=(s3.trans s4) _ _ g2
  have g34:=s4 _ _ g3
  have ht4:=S4 _ _ ht
  have wla:w≠la:=λz=>by rw[z,g4] at g24;cases g24
  walk_at "w"
  refine⟨by omega,by omega,?_⟩
  refine wM (λi σ' H'=>∃(w:Addr) (ps:List WP) (as:List Addr) (Ls:List (List (Int×Int))) (z5:Option V),σ'=[some (.ref q),some (.ref t),some (.int (n:Int)),some (.ref w),some (.ref la),z5]/\H w=none/\H' w=some (.dT (enc ps))/\aFk ps/\(∀s,s∈ps.map (·.1)↔Rc m st i s)/\aQ H H'/\H' la=some (.lst (as.map V.ref))/\RL (λb ps=>∃us,H' b=some (.lst us)/\PVs κS H' us ps/\b≠la) as Ls/\aM9 m st Ls/\Ls.length=i+1)
   ⟨w,[(st,1)],[l0],[[st]],_,rfl,nw0,g24,⟨by simp,λp hp=>by rw[Rb9.mp hp];exact hst.st0 hg⟩,?_,S4,g4,RL.one ⟨_,g34,⟨rfl,λi v x h1 h2=>?_⟩,λz=>?_⟩,⟨λi ps hi=>?_⟩,rfl⟩ (λi σ' H' hi ⟨w',ps,as,Ls,z5,e,nw',gw,hW,hk,S',gla,rla,hL,lL⟩=>?_) (λσ' H' ⟨w',ps,as,Ls,z5,e,nw',gw,hW,hk,S',gla,rla,hL,lL⟩=>?_)
  ·intro s
   show s∈[st]↔s=st
   simp
  ·match i,h1,h2 with
   |0,h1,h2=>cases h1;cases h2;exact⟨t,rfl,ht4⟩
   |_+1,h1,_=>simp at h1
  ·rw[z,nla] at g3
   cases g3
  ·match i,hi with
   |0,hi=>cases hi;exact⟨by simp,λs=>by show s∈[st]↔s=st;simp⟩
   |_+1,hi=>simp at hi
  ·subst e
   walk_at "w"
   refine⟨q,m,w',ps,rfl,hm.same S',hg,gw,hW,λw2 ps2 H5 s5 nw2 gw2 hW2 hk2=>?_⟩
   have S5:aQ H H5:=λb o e=>s5 _ _ (qG (S' _ _ e) (bM nw' e))
   have gla5:H5 la=some (.lst (as.map V.ref)):=s5 _ _ (qG gla λz=>by rw[z,gw] at gla;cases gla)
   have hk3:∀s,s∈ps2.map (·.1)↔Rc m st (i+1) s:=λs=>by
    rw[hk2 s]
    exact⟨λ⟨p,h1,h2⟩=>⟨p,(hk p).mp h1,h2⟩,λ⟨p,h1,h2⟩=>⟨p,(hk p).mpr h1,h2⟩⟩
   have few:=Rc.few hg hst hW2.nd λk hk=>(hk3 k).mp hk
   rw[bL] at few
   have las:=rla.len
   walk_at "w"
   refine uO (bX.of gla5) ?_
   walk_at "w"
   refine aMN gw2 (aNd ps2) (λt ht=>by obtain⟨p,_,rfl⟩:=Qy9.mp ht;simp) (by rw[bL];omega) λp qs us np hT hp hs=>?_
   obtain⟨ks,k1,k2',k3⟩:=aFn hW2.nd hT hp hs
   obtain⟨H6,i6,s6,g6⟩:=nw _ np;rw[i6]
   have npla:p≠la:=λz=>by rw[z,gla5] at np;cases np
   walk_at "w"
   refine aAj (xs:=as.map V.ref) (s6 _ _ gla5) (zF (by rw[bL];omega:(as.map V.ref).length < 20000) (cK (by decide))) ?_
   obtain⟨H7,i7,k7,g7⟩:=wr H6 la _;rw[i7]
   have w2la:w2≠la:=λz=>by rw[z,gla5] at gw2;cases gw2
   walk_at "w"
   have hR:RL (λb ps=>∃us,H7 b=some (.lst us)/\PVs κS H7 us ps/\b≠la) (as ++ [p]) (Ls ++ [ks]):=by
    refine RL.snoc (rla.imp λb ps ⟨us,a1,a2,a3⟩=>?_) ⟨_,k7 _ _ g6 npla,⟨k3.1,λi v x h1 h2=>PK.aG1 (κS.sE (k3.2 i v x h1 h2) s6) (s6 _ _ gla5) k7⟩,npla⟩
    have a1':H5 b=some (.lst us):=s5 _ _ (qG a1 λz=>by rw[z,gw] at a1;cases a1)
    refine⟨us,k7 _ _ (s6 _ _ a1') a3,⟨a2.1,λi v x h1 h2=>?_⟩,a3⟩
    obtain⟨b',e',hb'⟩:=a2.2 i v x h1 h2
    exact PK.aG1 (κS.sE (H:=H5) ⟨b',e',s5 _ _ (qG hb' λz=>by rw[z,gw] at hb';cases hb')⟩ s6) (s6 _ _ gla5) k7
   have hLL:aM9 m st (Ls ++ [ks]):=by
    refine⟨λj rs hj=>?_⟩
    by_cases hj2:j < Ls.length
    ·rw[Qs9 hj2] at hj
     exact hL.at_ j rs hj
    ·have hj3:j < (Ls ++ [ks]).length:=(qM.mp hj).1
     rw[sI,Rc9] at hj3
     obtain rfl:j=Ls.length:=by omega
     rw[Qt9 (eA _),Sp9] at hj
     cases hj
     refine⟨k1,λs=>?_⟩
     rw[k2' s,hk3 s,lL]
   exact⟨w2,ps2,as ++ [p],Ls ++ [ks],_,rfl,S'.free nw2,k7 _ _ (s6 _ _ gw2) w2la,hW2,hk3,λb o e=>k7 _ _ (s6 _ _ (S5 _ _ e)) (bM nlaH e),by rw[g7,oA];rfl,hR,hLL,by rw[sI,lL];rfl⟩
  ·subst e
   walk_at "w"
   exact k la Ls H' S' nlaH ⟨as,gla,rla.imp λb ps ⟨us,a1,a2,_⟩=>⟨us,a1,a2⟩⟩ hL (by omega)
def aFp(K:W.Frag)(C:Addr):Sp:=λvs H Q _=>∃(q:Addr) (m:MS) (t:Addr) (a:Int×Int),vs=[.ref q,.ref t]/\cO C H q m/\m.Good/\H t=some (.tup [.int a.1,.int a.2])/\St0 a.1 a.2/\
 ∀l H',aQ H H'->yN κS H' l ((([0,1]:List Int).filter (aG5 a)).map λon=>(on,tD m a.1 a.2 on,aNb m a on))->Q (.ref l) H'
theorem aFq{mg:Str->Option Value}{a:jX}(tx:Txt K mg a):bS P w K mg base gZ 7 a.o6 a.o7 ["machine","state"] (aFp K a.aR):=by
 have mC:=uD (P:=P) (w:=w) (base:=base) tx
 have aJo:=aIi (P:=P) (w:=w) (base:=base) tx
 have fB:=mB (P:=P) (w:=w) (base:=base) tx
 refine tx.vI.ok aE4 (λvs H Q E h=>?_) (λcdv A outer s H vs Q E hr h=>?_)
 ·obtain⟨q,m,t,st,rfl,_⟩:=h
  rfl
 ·obtain⟨q,m,t,st,rfl ,hm,hg,ht,hst,k⟩:=h
  have hu:=kI hr
  refine aY (aG (aN (bU (k:=1) (idx:=[0,1]) (N:=["on","machine","state"]) (cR (sc:=aF gA) (NX:=["machine","state"]) rfl rfl rfl (by decide +kernel)) rfl (aDU (K':=K) (jR aD aD)) (λ_ _ _ _=>(aI (i:=0) (show(["on","machine","state"]:List Str).Nodup by decide +kernel))) (dJ (by decide)) (λ_ _ _ _=>(mK (eF (aH (mC) (hr.mono (by decide)) (by rfl) tx.tT tx.pQ.kp tx.tP .nil aZ (aA (Z.pv 1) (aA (Z.pv 2) (aA (Z.pv 0) aC))))))) (λ_ _ _ _=>(yY (Z.pv 0) (aH (fB) (hr.mono (by decide)) (by rfl) tx.jO tx.gX.kp tx.jN .nil aZ (aA (Z.pv 1) (aA (Z.pv 2) (aA (Z.pv 0) aC)))) (aH (aJo) (hr.mono (by decide)) (by rfl) tx.aEj tx.aAA.kp tx.aEi .nil aZ (aA (Z.pv 1) (aA (Z.pv 2) (aA (qQ (Z.pv 0)) aC))))))))) ?_
  refine aS (σ:=[some (.ref q),some (.ref t)]) rfl ?_
  walk_at "w"
  intro Tu nTu
  obtain⟨H1,i1,s1,gTu⟩:=nw _ nTu;rw[i1]
  refine aO4 (jQ.of gTu) ?_
  refine aLR (xs:=([0,1]:List Int).map V.int) (λj us H'=>aQ H1 H'/\∃as:List Addr,us=as.map V.ref/\as.length<=j/\RL (aCG κS H') as (((([0,1]:List Int).take j).filter (aG5 st)).map λon=>(on,tD m st.1 st.2 on,aNb m st on))) ⟨aQ.refl _,[],rfl,eA _,RL.nil⟩ (cK (by simp))
   (λj us H' hj ⟨s',as,e,la,r⟩=>⟨jQ.of (s' _ _ gTu),by rw[e,bL];exact la⟩) (λj v us H' hv ⟨s',as,e,la,r⟩=>?_) (λus H' ⟨s',as,e,la,r⟩=>?_)
  ·obtain⟨on,eon,rfl⟩:=gG hv
   have bon:Bit on:=by
    have:=oH eon
    simp at this
    exact this
   have tk:([0,1]:List Int).take (j+1)=([0,1]:List Int).take j ++ [on]:=by rw[Rq9,eon];rfl
   have S':=s1.trans s'
   have ht':=S' _ _ ht
   walk_at "w"
   refine⟨_,t,_,_,on,rfl,ht',?_⟩
   by_cases hmay:st.1=on\/st.2=0
   ·have hmb:aG5 st on=true:=aBu.mpr hmay
    rw[show(decide (st.1=on) || decide (st.2=0))=true from hmb]
    walk_at "w"
    refine⟨q,m,t,_,_,on,rfl,hm.same S',ht',hmay,λT2 H3 s3 nT2 gT2=>?_⟩
    walk_at "w"
    intro lo nlo
    obtain⟨H4,i4,s4,g4⟩:=nw _ nlo;rw[i4]
    walk_at "w"
    refine⟨q,m,t,_,_,lo,[on],rfl,hm.same (S'.trans (s3.trans s4)),hg,(s3.trans s4) _ _ ht',g4,by simp,?_,λH5 s5=>?_⟩
    ·show(if st.1=on\/st.2=0 then _ else _)=_
     rw[if_pos hmay]
     rfl
    walk_at "w"
    intro T nT
    obtain⟨H6,i6,s6,g6⟩:=nw _ nT;rw[i6]
    have s36:=s3.trans (s4.trans (s5.trans s6))
    refine⟨s'.trans s36,as ++ [T],by rw[e,oA];rfl,by rw[sI];simp;omega,?_⟩
    rw[tk,List.filter_append,oA,List.filter_cons_of_pos hmb]
    exact RL.snoc (r.imp λ_ _ z=>z.same s36) ⟨_,g6,T2,rfl,(s4.trans (s5.trans s6)) _ _ gT2⟩
   ·have hmb:aG5 st on=false:=by cases h:aG5 st on;rfl;exact absurd (aBu.mp h) hmay
    rw[show(decide (st.1=on) || decide (st.2=0))=false from hmb]
    walk_at "w"
    refine⟨s',as,e,by omega,?_⟩
    rw[tk,List.filter_append,oA,List.filter_cons_of_neg (by rw[hmb];simp)]
    simpa using r
  ·intro l nl
   obtain⟨H3,i3,s3,g3⟩:=nw _ nl;rw[i3]
   walk_at "w"
   exact k l H3 (s1.trans (s'.trans s3)) ⟨as,by rw[g3,e],r.imp λ_ _ z=>z.same s3⟩
def aBx(K:W.Frag)(C:Addr):Sp:=λvs H Q _=>∃(q:Addr) (m:MS) (t:Addr) (a:Int×Int) (p:Int),vs=[.ref q,.ref t,.int p]/\cO C H q m/\m.Good/\H t=some (.tup [.int a.1,.int a.2])/\St0 a.1 a.2/\0<=p/\p<=1000000000001/\
 ∀l H',aQ H H'->yN κS H' l (rwy m p a)->Q (.ref l) H'
theorem aBy{mg:Str->Option Value}{a:jX}(tx:Txt K mg a):bS P w K mg base gZ 8 a.rL a.rM ["machine","state","price"] (aBx K a.aR):=by
 have aEJ:=aCX (P:=P) (w:=w) (base:=base) tx
 have aG6:=aFq (P:=P) (w:=w) (base:=base) tx
 refine tx.rV.ok aGB (λvs H Q E h=>?_) (λcdv A outer s H vs Q E hr h=>?_)
 ·obtain⟨q,m,t,st,pr,rfl,_⟩:=h
  rfl
 ·obtain⟨q,m,t,st,pr,rfl ,hm,hg,ht,hst,p0,p1,k⟩:=h
  have hu:=kI hr
  refine aY (aG (aN (bU (k:=3) (idx:=[0,2]) (N:=["on","later","cost","machine","price"]) (cR (sc:=aF iF) (NX:=["machine","state","price"]) rfl rfl rfl (by decide +kernel)) rfl (bO (K':=K) (aH (aG6) (hr.mono (by decide)) (by rfl) tx.aBl tx.vI.kp tx.aBk .nil aZ (aA (Z.pv 0) (aA (Z.pv 1) aC)))) (λ_ _ _ _=>(bI (K':=K) (n:=3) rfl (aM (aI (i:=0) (show(["on","later","cost","machine","price"]:List Str).Nodup by decide +kernel)) (aM (aI (i:=1) (show(["on","later","cost","machine","price"]:List Str).Nodup by decide +kernel)) (aM (aI (i:=2) (show(["on","later","cost","machine","price"]:List Str).Nodup by decide +kernel)) bH))))) (kK (bK (by decide) (bK (by decide) (bK (by decide) hV)))) (λ_ _ _ _=>bT) (λ_ _ _ _=>(yY (Z.pv 0) (Z.pv 1) (aO hU (Z.pv 2) (aO cC (Z.pv 0) (aAn (Z.pv 3) tx.bE tx.m_Machine_gain (aEJ) (hr.mono (by decide)) tx.xD .nil aZ (aA (Z.pv 4) aC))))))))) ?_
  refine aS (σ:=[some (.ref q),some (.ref t),some (.int pr)]) rfl ?_
  walk_at "w"
  refine⟨q,m,t,st,rfl,hm,hg,ht,hst,λl H1 s1 hw1=>?_⟩
  obtain⟨as,gl,rl⟩:=hw1.ex
  have las:=rl.len
  have lfil:=aJ1 m pr st
  unfold rwy at lfil
  rw[bL] at las lfil
  refine j8 (bX.of gl) ?_
  refine eB (xs:=as.map V.ref) (λj us H'=>aQ H1 H'/\∃bs:List Addr,us=bs.map V.ref/\RL (aCG κS H') bs ((rwy m pr st).take j)) ⟨aQ.refl _,[],rfl,RL.nil⟩ (cK (by rw[bL];omega))
   (λj us H' hj ⟨s',bs,e,r⟩=>⟨bX.of (s' _ _ gl),by rw[e,bL,r.len,Qz9];omega⟩) (λj v us H' hv ⟨s',bs,e,r⟩=>?_) (λus H' ⟨s',bs,e,r⟩=>?_)
  ·obtain⟨a1,w,ea,rfl,ew,vv,g1,hp⟩:=rl.gt hv
   rw[pG] at ew
   obtain⟨on,eon,rfl⟩:=Qw9.mp ew
   have er:(rwy m pr st)[j]?=some (on,tD m st.1 st.2 on,hw m pr st on):=by unfold rwy;rw[pG,eon];rfl
   obtain⟨b,rfl,hb⟩:=hp
   have bon:0<=on/\on<=1:=by
    have:=(Sm9.mp (oH eon)).1
    simp at this
    omega
   obtain⟨bo0,bo1⟩:=bon
   refine cP (jQ.of (s' _ _ g1)) rfl ?_
   walk_at "w"
   have hm2:=hm.same (s1.trans s')
   obtain⟨dx,pl,hq,_⟩:=hm2.ex
   refine⟨q,dx,_,rfl,hq,rfl,?_⟩
   walk_at "w"
   refine⟨q,m,pr,rfl,hm2,hg,p0,p1,?_⟩
   walk_at "w"
   intro T nT
   obtain⟨H3,i3,s3,g3⟩:=nw _ nT;rw[i3]
   refine⟨s'.trans s3,bs ++ [T],by rw[e,oA];rfl,?_⟩
   rw[aBr er]
   exact RL.snoc (r.imp λ_ _ z=>z.same s3) ⟨_,g3,b,rfl,(s'.trans s3) _ _ hb⟩
  ·intro l2 nl2
   obtain⟨H3,i3,s3,g3⟩:=nw _ nl2;rw[i3]
   walk_at "w"
   rw[bL,las,show(([0,1]:List Int).filter (aG5 st)).length=(rwy m pr st).length by unfold rwy;rw[bL],Qv9] at r
   exact k l2 H3 (s1.trans (s'.trans s3)) ⟨bs,by rw[g3,e],r.imp λ_ _ z=>z.same s3⟩
theorem aFY{a:jX}{m:MS}{ps:List Int}(C:Addr->Sp->Prop)(f:Addr)(spc:Sp)(hC:C f spc)(hs:cO a.aR H x m)(hg:m.Good)(hq:H q=some (.lst (ps.map V.int)))(ha:∀n∈ps,Am n)(h:∀(H':Hp) (h:Nat) (b:Addr) (p:Int) (Q:VK),aQ H H'->H' q=some (.lst (ps.map V.int))->atI (ps.map V.int) (h:Int)=some (.int p)->aBx K a.aR [.ref x,.ref b,.int p] H' Q E0->spc [.int (h:Int),.ref b] H' Q E0) :
  aAJ κS C H f (Wr m ps) λi y=>i < ps.length/\St0 y.1 y.2:=by
 refine⟨spc,hC,λH' i v y Q s' hL hpv hk=>?_⟩
 obtain⟨b,rfl,hb⟩:=hpv
 obtain⟨hi,hy⟩:=hL
 have ep:ps[i]?=some ps[i]:=eU hi
 obtain⟨a0,a1⟩:=ha _ (Sc9 hi)
 refine h H' i b ps[i] Q s' (s' _ _ hq) (m6 (by rw[pG,ep];rfl)) ⟨x,m,b,y,ps[i],rfl,hs.same s',hg,hb,hy,a0,by omega,λl H2 s2 hw=>hk l H2 s2 ?_⟩
 unfold Wr
 rw[Qp9,ep]
 exact hw
def zK(K:W.Frag)(C t:Addr):Sp:=λvs H Q _=>∃(x:Addr) (m:MS) (b:Addr) (a:Int×Int) (q:Addr) (ps:List Int),vs=[.ref x,.ref b,.ref q]/\H t=some (.ctb cS cT)/\cO C H x m/\m.Good/\H b=some (.tup [.int a.1,.int a.2])/\St1 m a/\H q=some (.lst (ps.map V.int))/\(∀n∈ps,Am n)/\ps.length<=48/\
 ∀r Ls H',aQ H H'->H r=none->aM9 m a Ls->Ls.length=ps.length+1->aK2 κS H' r Ls (λi=>wF (Wr m ps) (Ls.length - 1 - i) i)->Q (.ref r) H'
theorem zM{P:Program}{w:World}{K:PySem.W.Frag}{mg:Str->Option Value}{base:Heap}{a:jX}(tx:Txt K mg a):bS P w K mg base gZ 12 a.gE a.d8 ["machine","state","prices"] (zK K a.aR a.cH):=by
 have aB3:=aBw (P:=P) (w:=w) (base:=base) tx
 have aBz:=λbase':Heap=>aBs (P:=P) (w:=w) (base:=base') tx
 refine tx.jY.okC tx.jZ oC (λvs H Q E h=>?_) (λA outer s H vs Q E hr h=>?_)
 ·obtain⟨x,m,b,st,q,ps,rfl,_⟩:=h
  rfl
 ·obtain⟨x,m,b,st,q,ps,rfl ,gt,hm,hg,hb,hst,hq,ha,hl,k⟩:=h
  have hu:=kI hr
  refine aY (aE (aK (i:=3) oC.nd (aH (aB3) (hr.mono (by decide)) (by rfl) tx.tX tx.mX.kp tx.tW .nil aZ (aA (Z.pv 0) (aA (Z.pv 1) (aA (aL (rc:=wK K) dC (by rfl) tx.lX kL (aA (Z.pv 2) aC)) aC)))))
   (aG (aN (aCi (psL:=["hour","place"]) (N:=["hour","place","machine","prices"]) (idx:=[0,2]) (sp:=λC=>sG K C) (kc:=8) (aBz) (hr.mono (by decide)) (by rfl) tx.tV tx.mW.kp tx.tU (λ_=>rfl) (cR (sc:=aF cF) (NX:=["machine","state","prices","layers"]) rfl rfl rfl (by decide +kernel)) rfl rfl rfl rfl (λ_ _ _ _ us hl=>match us,hl with|[_,_],_=>rfl) (aAt (Z.pv 3) (aD1 (N:=["hour","place","machine","prices"]) (n:=2) (idx:=[0,2]) rfl tx.jZ.hd rfl rfl (cR (sc:=aF cF) (NX:=["machine","state","prices","layers"]) rfl rfl rfl (by decide +kernel)))) (λ_ _ _ _ _ _ _ _ hr hu=>(aH (aBy tx) (hr.mono (by decide)) (by rfl) tx.xZ tx.rV.kp tx.xY .nil aZ (aA (Z.pv 2) (aA (Z.pv 1) (aA (aJ (K':=K) (Z.pv 3) (Z.pv 0)) aC))))))))) ?_
  refine aS (σ:=[some (.ref x),some (.ref b),some (.ref q),none]) rfl ?_
  walk_at "w"
  refine⟨x,m,b,st,ps.length,by rw[bL],hm,hg,hb,hst,by omega,λla Ls H1 s1 nla hla hL lL=>?_⟩
  walk_at "w"
  refine⟨s1 _ _ gt,λf c' H3 Cc s3 hc hC=>?_⟩
  have s03:=s1.trans s3
  refine⟨Int×Int,κS,la,f,Ls,Wr m ps,_,rfl,hla.same s3,aJ2 hg hst ps (by omega) hL,by omega,aFY (K:=K) (a:=a) Cc f _ hC (hm.same s03) hg (s03 _ _ hq) ha (λH' h b' p Q s' gq hp hsp=>?_),λi qs y e1 e2 hy=>?_,λr H4 s4 nr hd=>?_⟩
  ·refine⟨s' _ _ hc,rfl,?_⟩
   refine aNc (σ:=[some (.int (h:Int)),some (.ref b'),some (.ref x),some (.ref q)]) rfl ?_
   walk_at "w"
   exact hsp
  ·exact⟨by omega,(Rc.st hg hst (((hL.at_ i qs e1).2 y).mp hy)).1⟩
  ·exact k r Ls H4 (s03.trans s4) (s03.free nr) hL lL hd
def aDg(K:W.Frag)(C t1 t2:Addr):Sp:=λvs H Q _=>∃(x:Addr) (m:MS) (b:Addr) (a:Int×Int) (q:Addr) (ps:List Int),vs=[.ref x,.ref b,.ref q]/\H t1=some (.ctb cS cT)/\H t2=some (.ctb gK gL)/\cO C H x m/\m.Good/\H b=some (.tup [.int a.1,.int a.2])/\St1 m a/\H q=some (.lst (ps.map V.int))/\(∀n∈ps,Am n)/\ps.length<=48/\
 ∀T r H',aQ H H'->H r=none->H' T=some (.tup [.int (rwF m ps a),.ref r])->H' r=some (.lst ((rrF m ps a).map V.int))->Q (.ref T) H'
theorem aDh{P:Program}{w:World}{K:PySem.W.Frag}{mg:Str->Option Value}{base:Heap}{a:jX}(tx:Txt K mg a):bS P w K mg base gZ 13 a.lP a.iH ["machine","state","prices"] (aDg K a.aR a.cH a.d9):=by
 have aAL:=zM (P:=P) (w:=w) (base:=base) tx
 have aG7:=λbase':Heap=>aG3 (P:=P) (w:=w) (base:=base') tx
 refine tx.qA.okC tx.qE nY (λvs H Q E h=>?_) (λA outer s H vs Q E hr h=>?_)
 ·obtain⟨x,m,b,st,q,ps,rfl,_⟩:=h
  rfl
 ·obtain⟨x,m,b,st,q,ps,rfl ,gt1,gt2,hm,hg,hb,hst,hq,ha,hl,k⟩:=h
  have hu:=kI hr
  refine aY (aE (aK (i:=3) nY.nd (aH (aAL) (hr.mono (by decide)) (by rfl) tx.p9 tx.jY.kp tx.pZ .nil aZ (aA (Z.pv 0) (aA (Z.pv 1) (aA (Z.pv 2) aC)))))
   (aE (aK (i:=4) nY.nd (aCi (psL:=["hour","place"]) (N:=["hour","place","machine","prices"]) (idx:=[0,2]) (sp:=λC=>aBt K C) (kc:=8) (aG7) (hr.mono (by decide)) (by rfl) tx.aCx tx.xX.kp tx.aCw (λ_=>rfl) (cR (sc:=aF dB) (NX:=["machine","state","prices","worths","run"]) rfl rfl rfl (by decide +kernel)) rfl rfl rfl rfl (λ_ _ _ _ us hl=>match us,hl with|[_,_],_=>rfl) (aAt (Z.pv 1) (aAt (Z.pv 3) (aD1 (N:=["hour","place","machine","prices"]) (n:=2) (idx:=[0,2]) rfl tx.qE.hd rfl rfl (cR (sc:=aF dB) (NX:=["machine","state","prices","worths","run"]) rfl rfl rfl (by decide +kernel))))) (λ_ _ _ _ _ _ _ _ hr hu=>(aH (aBy tx) (hr.mono (by decide)) (by rfl) tx.xZ tx.rV.kp tx.xY .nil aZ (aA (Z.pv 2) (aA (Z.pv 1) (aA (aJ (K':=K) (Z.pv 3) (Z.pv 0)) aC)))))))
   (aG (aN (jR (wV hu (aJ (K':=K) (Z.pv 3) aD) (Z.pv 1)) (Z.pv 4)))))) ?_
  refine aS (σ:=[some (.ref x),some (.ref b),some (.ref q),none,none]) rfl ?_
  walk_at "w"
  refine⟨x,m,b,st,q,ps,rfl,gt1,hm,hg,hb,hst,hq,ha,hl,λlw Ls H1 s1 nlw hL lL hd=>?_⟩
  walk_at "w"
  refine⟨s1 _ _ gt2,λf c' H3 Cc s3 hc hC=>?_⟩
  have s03:=s1.trans s3
  have el0:Ls[0]?=some Ls[0]:=eU (by omega)
  have in0:st∈Ls[0]:=((hL.at_ 0 _ el0).2 st).mpr rfl
  refine⟨Int×Int,κS,.ref b,st,Ls[0],lw,f,Ls,Wr m ps,_,rfl,⟨b,rfl,s03 _ _ hb⟩,hd.same s3,el0,in0,aJ2 hg hst ps (by omega) hL,by omega,aFY (K:=K) (a:=a) Cc f _ hC (hm.same s03) hg (s03 _ _ hq) ha (λH' h b' p Q s' gq hp hsp=>?_),λi qs y e1 e2 hy=>?_,λr H4 s4 nr gr=>?_⟩
  ·refine⟨s' _ _ hc,rfl,?_⟩
   refine aNc (σ:=[some (.int (h:Int)),some (.ref b'),some (.ref x),some (.ref q)]) rfl ?_
   walk_at "w"
   exact hsp
  ·exact⟨by omega,(Rc.st hg hst (((hL.at_ i qs e1).2 y).mp hy)).1⟩
  ·have s04:=s03.trans s4
   obtain⟨ds,gds,lds,hds⟩:=(hd.same (s3.trans s4)).ex
   have ed:ds[0]?=some ds[0]:=eU (by omega)
   have h0:=hds 0 _ _ ed el0
   generalize ds[0]=d0 at ed h0
   have ix:atI (ds.map V.ref) 0=some (.ref d0):=m6 (j:=0) (aG2 ed)
   walk_at "w"
   refine⟨d0,_,rfl,κS.get (v:=.ref b) (x:=st) h0 ⟨b,rfl,s04 _ _ hb⟩ in0,?_⟩
   walk_at "w"
   intro T nT
   obtain⟨H5,i5,s5,g5⟩:=nw _ nT;rw[i5]
   walk_at "w"
   have e1:Ls.length - 1=ps.length:=by omega
   rw[e1] at gr
   rw[Nat.sub_zero,e1] at g5
   exact k T r H5 (s04.trans s5) (s03.free nr) g5 (s5 _ _ gr)
def aB4(K:W.Frag):Sp:=λ_ _ _ _=>False
theorem aB5{P:Program}{w:World}{K:PySem.W.Frag}{mg:Str->Option Value}{base:Heap}{a:jX}(_:Txt K mg a):bS P w K mg base gZ 1 a.jS a.jT ["store","level","prices"] (aB4 K):=⟨λvs H Q E h=>h.elim,λA outer s H args us vs Q E _ _ _ _ h=>h.elim⟩
def lmF(W:WS)(P:Ps)(qs:List Int):List Int:=List.zipWith (λm s=>rwF m qs s) W.specs P.1
def wsF(qs ws:List Int):Int:=List.sum (List.zipWith (λp w=>p*w) qs ws)
def pbF(W:WS)(P:Ps)(ws qs:List Int):Int:=wsF qs ws+List.sum (lmF W P qs)
structure aQ2(W:WS)(P:Ps):Prop where
 ok:vW W P
 st:∀(j:Nat) m s,W.specs[j]?=some m->P.1[j]?=some s->St1 m s
structure aK4(H:Hp)(t1 t2:Addr):Prop where
 a:H t1=some (.ctb cS cT)
 b:H t2=some (.ctb gK gL)
theorem aK4.same(h:aK4 H t1 t2)(s:aQ H H'):aK4 H' t1 t2:=⟨s _ _ h.a,s _ _ h.b⟩
theorem aFZ{α β γ:Type}{f:α->β->γ}{xs:List α}{ys:List β}{i:Nat}{x:α}{y:β}(h1:xs[i]?=some x)(h2:ys[i]?=some y):List.zipWith f (xs.take (i+1)) (ys.take (i+1))=List.zipWith f (xs.take i) (ys.take i) ++ [f x y]:=by
 have e:(List.zipWith f xs ys)[i]?=some (f x y):=by rw[List.getElem?_zipWith,h1,h2]
 rw[<-List.take_zipWith,<-List.take_zipWith]
 exact take_snoc e
def yO(K:PySem.W.Frag)(CW CM CS t1 t2:Addr):Sp:=λvs H Q _=>∃(w:Addr) (W:WS) (a:Addr) (P:Ps) (q:Addr) (qs:List Int),vs=[.ref w,.ref a,.ref q]/\dP CW CM CS H w W/\W.Good/\W.store=none/\mG H a P/\aQ2 W P/\H q=some (.lst (qs.map V.int))/\(∀n∈qs,Am n)/\qs.length<=48/\aK4 H t1 t2/\
 ∀(l:Addr) (H':Hp),aQ H H'->H' l=some (.lst ((lmF W P qs).map V.int))->Q (.ref l) H'
theorem yP{mg:Str->Option Value}{a:jX}(tx:Txt K mg a):bS P w K mg base gZ 14 a.fF a.fG ["works","position","prices"] (yO K a.cJ a.aR a.cE a.cH a.d9):=by
 have aEK:=aDh (P:=P) (w:=w) (base:=base) tx
 refine tx.jI.ok wZ (λvs H Q E h=>?_) (λcdv A outer s H vs Q E hr h=>?_)
 ·obtain⟨w,W,ap,P,q,qs,rfl,_⟩:=h
  rfl
 ·obtain⟨w,W,ap,P,q,qs,rfl ,hw,hg,hno,hP,hB,hq,ha,hl,hT,k⟩:=h
  have hu:=kI hr
  refine aY (aG (aN (bU (k:=2) (idx:=[2]) (N:=["machine","state","prices"]) (cR (sc:=aF cL) (NX:=["works","position","prices"]) rfl rfl rfl (by decide +kernel)) rfl (pN (k1:=true) (k2:=false) (by rfl) tx.rY (aA (aU (K':=K) (Z.pv 0) rfl) (aA (aJ (K':=K) (Z.pv 1) aD) aC))) (λ_ _ _ _=>(bI (K':=K) (n:=2) rfl (aM (aI (i:=0) (show(["machine","state","prices"]:List Str).Nodup by decide +kernel)) (aM (aI (i:=1) (show(["machine","state","prices"]:List Str).Nodup by decide +kernel)) bH)))) (kK (bK (by decide) (bK (by decide) hV))) (λ_ _ _ _=>bT) (λ_ _ _ _=>(aJ (K':=K) (aH (aEK) (hr.mono (by decide)) (by rfl) tx.yA tx.qA.kp tx.x8 .nil aZ (aA (Z.pv 0) (aA (Z.pv 1) (aA (Z.pv 2) aC)))) aD))))) ?_
  obtain⟨dx,lm,st,gw,hms,hsto⟩:=hw.ex
  obtain⟨ms,glm,rms⟩:=hms.ex
  obtain⟨t,gP,hts⟩:=hP.ex
  obtain⟨ts,gts,rts⟩:=hts.ex
  have lms:=rms.len
  have lts:=rts.len
  have lpp:=hB.ok.len
  have l6:=hg.len
  refine aS (σ:=[some (.ref w),some (.ref ap),some (.ref q)]) rfl ?_
  walk_at "w"
  refine bZ gw tx.dA tx.cB rfl ?_
  walk_at "w"
  refine aDX (Src.lst glm) (Src.tup gts) ?_
  refine tK (n:=W.specs.length) (by rw[bL];omega) (by rw[bL];omega) (.inl (by rw[bL];omega)) (cK (by omega))
   (λi us H'=>aQ H H'/\us=((List.zipWith (λm s=>rwF m qs s) (W.specs.take i) (P.1.take i)).map V.int)/\us.length<=i) ⟨aQ.refl _,by simp,eA _⟩
   (λi us H' hi ⟨s',e1,e2⟩=>⟨⟨Src.lst (s' _ _ glm),Src.tup (s' _ _ gts)⟩,e2⟩)
   (λi x y us H' T hx hy ⟨s',e1,e2⟩ nT=>?_) (λus H' ⟨s',e1,e2⟩=>?_)
  ·obtain⟨xm,m,_,rfl,em,hm⟩:=rms.get hx
   obtain⟨xt,s,_,rfl,es,hs⟩:=rts.get hy
   obtain⟨J,j,sT,gT⟩:=nw _ nT;rw[j]
   have s2:=s'.trans sT
   refine cP (jQ.of gT) rfl ?_
   walk_at "w"
   have hT2:=hT.same s2
   refine⟨xm,m,xt,s,q,qs,rfl,hT2.a,hT2.b,hm.same s2,hg.specs m (oH em),s2 _ _ hs,hB.st i m s em es,s2 _ _ hq,ha,hl,λT2 r2 H3 s3 nr2 gT2 gr2=>?_⟩
   walk_at "w"
   refine⟨s2.trans s3,?_,by rw[sI,Rc9];omega⟩
   rw[e1,aFZ em es,oA]
   rfl
  ·subst e1
   rw[Qv9,<-lpp,Qv9]
   intro l nl
   obtain⟨J,j,sT,gT⟩:=nw _ nl;rw[j]
   walk_at "w"
   exact k l J (s'.trans sT) gT
def aBA(K:PySem.W.Frag)(CW CM CS t1 t2:Addr):Sp:=λvs H Q _=>∃(w:Addr) (W:WS) (a:Addr) (q:Addr),vs=[.ref w,.ref a,.ref q]/\dP CW CM CS H w W/\W.store=none/\Q (.int 0) H
theorem aBB{mg:Str->Option Value}{a:jX}(tx:Txt K mg a):bS P w K mg base gZ 2 a.iW a.iX ["works","position","prices"] (aBA K a.cJ a.aR a.cE a.cH a.d9):=by
 have aDi:=aB5 (P:=P) (w:=w) (base:=base) tx
 refine tx.mY.ok aA2 (λvs H Q E h=>?_) (λcdv A outer s H vs Q E hr h=>?_)
 ·obtain⟨w,W,ap,q,rfl,_⟩:=h
  rfl
 ·obtain⟨w,W,ap,q,rfl ,hw,hno,k⟩:=h
  have hu:=kI hr
  refine aY (aG (aN (qO (bA aGl (aU (K':=K) (Z.pv 0) rfl) eE (bY _)) aD (aJ (K':=K) (aH (aDi) (hr.mono (by decide)) (by rfl) tx.vV tx.vT.kp tx.vU .nil aZ (aA (aU (K':=K) (Z.pv 0) rfl) (aA (aJ (K':=K) (Z.pv 1) aD) (aA (Z.pv 2) aC)))) aD)))) ?_
  obtain⟨dx,lm,st,gw,hms,hsto⟩:=hw.ex
  rw[hno] at hsto
  replace hsto:st=.non:=hsto
  subst hsto
  refine aS (σ:=[some (.ref w),some (.ref ap),some (.ref q)]) rfl ?_
  walk_at "w"
  refine bZ gw tx.dA tx.fA rfl ?_
  repeat walk_at "gs"
  exact k
def aEL(K:PySem.W.Frag)(CW CM CS t1 t2:Addr):Sp:=λvs H Q _=>∃(w:Addr) (W:WS) (a:Addr) (P:Ps) (u:Addr) (ws:List Int) (q:Addr) (qs:List Int),vs=[.ref w,.ref a,.ref u,.ref q]/\dP CW CM CS H w W/\W.Good/\W.store=none/\mG H a P/\aQ2 W P/\H u=some (.lst (ws.map V.int))/\H q=some (.lst (qs.map V.int))/\ws.length=qs.length/\(∀n∈qs,Am n)/\qs.length<=48/\aK4 H t1 t2/\
 ∀(H':Hp),aQ H H'->Q (.int (pbF W P ws qs)) H'
theorem aEM{mg:Str->Option Value}{a:jX}(tx:Txt K mg a):bS P w K mg base gZ 15 a.nL a.nM ["works","position","wants","prices"] (aEL K a.cJ a.aR a.cE a.cH a.d9):=by
 have zN:=yP (P:=P) (w:=w) (base:=base) tx
 have aB6:=aBB (P:=P) (w:=w) (base:=base) tx
 refine tx.sV.ok pO (λvs H Q E h=>?_) (λcdv A outer s H vs Q E hr h=>?_)
 ·obtain⟨w,W,ap,P,u,ws,q,qs,rfl,_⟩:=h
  rfl
 ·obtain⟨w,W,ap,P,u,ws,q,qs,rfl ,hw,hg,hno,hP,hB,hwn,hq,hlen,ha,hl,hT,k⟩:=h
  have hu:=kI hr
  refine aY (aE (aK (i:=4) pO.nd (aL (rc:=aAX K) (eC rfl) (by rfl) tx.lY kM (aA (bU (k:=2) (idx:=[]) (N:=["price","want"]) (cR (sc:=aF eZ) (NX:=["works","position","wants","prices","wanted","machines"]) rfl rfl rfl (by decide +kernel)) rfl (pN (k1:=true) (k2:=true) (by rfl) tx.rY (aA (Z.pv 3) (aA (Z.pv 2) aC))) (λ_ _ _ _=>(bI (K':=K) (n:=2) rfl (aM (aI (i:=0) (show(["price","want"]:List Str).Nodup by decide +kernel)) (aM (aI (i:=1) (show(["price","want"]:List Str).Nodup by decide +kernel)) bH)))) (kK (bK (by decide) (bK (by decide) hV))) (λ_ _ _ _=>bT) (λ_ _ _ _=>(aO cC (Z.pv 0) (Z.pv 1)))) aC)))
   (aE (aK (i:=5) pO.nd (aL (rc:=aAX K) (eC rfl) (by rfl) tx.lY kM (aA (aH (zN) (hr.mono (by decide)) (by rfl) tx.oF tx.jI.kp tx.oE .nil aZ (aA (Z.pv 0) (aA (Z.pv 1) (aA (Z.pv 3) aC)))) aC)))
   (aG (aN (aO cM (aO cM (Z.pv 4) (Z.pv 5)) (aH (aB6) (hr.mono (by decide)) (by rfl) tx.tZ tx.mY.kp tx.tY .nil aZ (aA (Z.pv 0) (aA (Z.pv 1) (aA (Z.pv 3) aC))))))))) ?_
  refine aS (σ:=[some (.ref w),some (.ref ap),some (.ref u),some (.ref q),none,none]) rfl ?_
  walk_at "w"
  refine aDX (Src.lst hq) (Src.lst hwn) ?_
  refine tK (n:=qs.length) (by rw[bL];omega) (by rw[bL];omega) (.inl (by rw[bL])) (cK (by omega))
   (λi us H'=>aQ H H'/\us=((List.zipWith (λp w=>p*w) (qs.take i) (ws.take i)).map V.int)/\us.length<=i) ⟨aQ.refl _,by simp,eA _⟩
   (λi us H' hi ⟨s',e1,e2⟩=>⟨⟨Src.lst (s' _ _ hq),Src.lst (s' _ _ hwn)⟩,e2⟩)
   (λi x y us H' T hx hy ⟨s',e1,e2⟩ nT=>?_) (λus H' ⟨s',e1,e2⟩=>?_)
  ·obtain⟨pr,ep,rfl⟩:=gG hx
   obtain⟨wn,ew,rfl⟩:=gG hy
   obtain⟨p0,p1⟩:=ha pr (oH ep)
   obtain⟨J,j,sT,gT⟩:=nw _ nT;rw[j]
   refine cP (jQ.of gT) rfl ?_
   walk_at "w"
   refine⟨s'.trans sT,?_,by rw[sI,Rc9];omega⟩
   rw[e1,aFZ ep ew,oA]
   rfl
  subst e1
  rw[Qv9,<-hlen,Qv9]
  intro l nl
  obtain⟨H2,i2,s2,g2⟩:=nw _ nl;rw[i2]
  have S2:=s'.trans s2
  walk_at "w"
  refine nV (bX.of g2) ?_
  walk_at "w"
  refine⟨w,W,ap,P,q,qs,rfl,hw.tr S2.tr,hg,hno,hP.tk S2.tk,hB,S2 _ _ hq,ha,hl,hT.same S2,λl2 H3 s3 g3=>?_⟩
  have S3:=S2.trans s3
  walk_at "w"
  refine nV (bX.of g3) ?_
  walk_at "w"
  refine⟨w,W,ap,q,rfl,hw.tr S3.tr,hno,?_⟩
  walk_at "w"
  rw[Si9]
  exact k _ S3
theorem _root_.L2.cI.tk{H H':Hp}{qs:List Addr}{ts:List (List Int)}(h:cI H qs ts)(s:Tk H H'):cI H' qs ts:=⟨h.len,λj q t x y=>⟨s _ _ (h.at_ j q t x y).1,(h.at_ j q t x y).2⟩⟩
theorem _root_.L2.cI.nil{H:Hp}:cI H [] []:=⟨rfl,λj q t x=>by simp at x⟩
theorem _root_.L2.cI.app{H:Hp}{qs qs':List Addr}{ts ts':List (List Int)}(h:cI H qs ts)(h':cI H qs' ts'):cI H (qs++qs') (ts++ts'):=by
 refine⟨by rw[sI,sI,h.len,h'.len],λj q u hq hu=>?_⟩
 by_cases hj:j < qs.length
 ·rw[Qs9 hj] at hq
  rw[Qs9 (by rw[<-h.len];exact hj)] at hu
  exact h.at_ j q u hq hu
 ·rw[Qt9 (by omega)] at hq
  rw[Qt9 (by rw[<-h.len];omega),<-h.len] at hu
  exact h'.at_ _ q u hq hu
theorem _root_.L2.cI.one{H:Hp}{q:Addr}{t:List Int}(h:H q=some (.tup (t.map V.int)))(ne:t≠[]):cI H [q] [t]:=⟨rfl,λj a b x y=>by
 match j,x,y with
 |0,x,y=>cases x;cases y;exact⟨h,ne⟩
 |_+1,x,_=>simp at x⟩
theorem _root_.L2.cI.get{H:Hp}{qs:List Addr}{ts:List (List Int)}(h:cI H qs ts){i:Nat}{v:V}(hv:(qs.map V.ref)[i]?=some v):∃q t,qs[i]?=some q/\v=.ref q/\ts[i]?=some t/\H q=some (.tup (t.map V.int)):=by
 rw[pG] at hv
 cases hq:qs[i]? with
 |none=>rw[hq] at hv;cases hv
 |some q=>
  rw[hq] at hv
  cases hv
  have li:i < ts.length:=by rw[<-h.len];exact(qM.mp hq).1
  exact⟨q,ts[i],rfl,rfl,eU li,(h.at_ i q _ hq (eU li)).1⟩
def aAM(at_:Nat)(ps:List (Int×Int)):List (List Int):=ps.mapIdx λj t=>[t.2,(at_:Int),(j:Int),t.1]
def oG(ms:List MS)(i:Nat):List (List Int):=((ms.mapIdx λk m=>aAM k m.pieces).take i).flatten
def jP(ms:List MS):List (List Int):=oG ms ms.length
theorem aBC{a j:Nat}{ps:List (Int×Int)}{t:Int×Int}(h:ps[j]?=some t):(aAM a ps)[j]?=some [t.2,(a:Int),(j:Int),t.1]:=by
 unfold aAM
 rw[List.getElem?_mapIdx,h]
 rfl
theorem yQ(a:Nat)(ps:List (Int×Int)):(aAM a ps).length=ps.length:=List.length_mapIdx
theorem aK5{a j:Nat}{ps:List (Int×Int)}{t:Int×Int}(h:ps[j]?=some t):(aAM a ps).take (j+1)=(aAM a ps).take j ++ [[t.2,(a:Int),(j:Int),t.1]]:=take_snoc (aBC h)
theorem qK{ms:List MS}{i:Nat}{m:MS}(h:ms[i]?=some m):oG ms (i+1)=oG ms i++aAM i m.pieces:=by
 unfold oG
 rw[take_snoc (x:=aAM i m.pieces) (by rw[List.getElem?_mapIdx,h];rfl),List.flatten_append]
 simp
theorem aB7{ms:List MS}(g:∀m∈ms,m.Good):∀{i:Nat},i<=ms.length->(oG ms i).length<=4*i
 |0,_=>by simp[oG]
 |i+1,h=>by
  have em:ms[i]?=some ms[i]:=eU (by omega)
  have:=(g _ (oH em)).pieces.len
  have ih:=aB7 g (i:=i) (by omega)
  rw[qK em,sI,yQ]
  omega
theorem aF0{ms:List MS}{t:List Int}:∀{i:Nat},i<=ms.length->t∈oG ms i->∃(k j:Nat) (m:MS) (p:Int×Int),ms[k]?=some m/\m.pieces[j]?=some p/\t=[p.2,(k:Int),(j:Int),p.1]
 |0,_,h=>by simp[oG] at h
 |i+1,hi,h=>by
  have em:ms[i]?=some ms[i]:=eU (by omega)
  rw[qK em] at h
  rcases Rk9.mp h with h|h
  ·exact aF0 (by omega) h
  ·obtain⟨j,hj⟩:=Rh9 h
   have lj:j < (ms[i]).pieces.length:=by
    have:=(qM.mp hj).1
    rw[yQ] at this
    exact this
   have ep:(ms[i]).pieces[j]?=some (ms[i]).pieces[j]:=eU lj
   rw[aBC ep] at hj
   cases hj
   exact⟨i,j,_,_,em,ep,rfl⟩
def jD(l:List (List Int)):List (List Int):=l.mergeSort λa b=>!jK b a
theorem aK6(a b:List Int):((!jK b a) || (!jK a b))=true:=by
 cases e:jK b a with
 |false=>rfl
 |true=>
  cases e2:jK a b with
  |false=>rfl
  |true=>have:=aAq _ _ _ e e2;rw[wU] at this;cases this
theorem aK7(a b c:List Int)(h1:(!jK b a)=true)(h2:(!jK c b)=true):(!jK c a)=true:=by
 cases e:jK c a with
 |false=>rfl
 |true=>
  rcases aDZ c b a e with z|z
  ·rw[z] at h2;cases h2
  ·rw[z] at h1;cases h1
theorem zC(l:List (List Int)):(jD l).Perm l:=List.mergeSort_perm l _
theorem aJ4(l:List (List Int)):(jD l).Pairwise λa b=>jK b a=false:=by
 have:=List.pairwise_mergeSort (le:=λa b=>!jK b a) aK7 aK6 l
 exact this.imp λh=>by simpa using h
theorem aK8{ts l:List (List Int)}(h1:ts.Perm l)(h2:ts.Pairwise λa b=>jK b a=false):ts=jD l:=by
 refine List.Perm.eq_of_pairwise (le:=λa b=>jK b a=false) (λa b _ _ x y=>(aAr a b y x)) h2 (aJ4 l) (h1.trans (zC l).symm)
def stp(lack:Int)(st:List Int×Int)(t:List Int):List Int×Int:=match t with
 |[rate,at_,_,am]=>if rate<=lack/\0 < st.2 then (st.1.set at_.toNat (st.1.getD at_.toNat 0+min am st.2),st.2 - min am st.2) else st
 |_=>st
def sY(ms:List MS)(want lack:Int)(i:Nat):List Int×Int:=((jD (jP ms)).take i).foldl (stp lack) (ms.map (·.least),want - List.sum (ms.map (·.least)))
def shF(ms:List MS)(want lack:Int):List Int×Int:=sY ms want lack (jD (jP ms)).length
theorem aB8{ms:List MS}{want lack:Int}{i:Nat}{t:List Int}(h:(jD (jP ms))[i]?=some t):sY ms want lack (i+1)=stp lack (sY ms want lack i) t:=by
 unfold sY
 rw[take_snoc h,List.foldl_append]
 rfl
theorem aOM(lack:Int)(st:List Int×Int)(t:List Int):(stp lack st t).1.length=st.1.length:=by
 unfold stp
 split
 ·split
  ·exact Tq9
  ·rfl
 ·rfl
theorem yR(ms:List MS)(want lack:Int):∀i,(sY ms want lack i).1.length=ms.length
 |0=>by show(ms.map (·.least)).length=_;rw[bL]
 |i+1=>by
  cases e:(jD (jP ms))[i]? with
  |some t=>rw[aB8 e,aOM,yR ms want lack i]
  |none=>
   have:(jD (jP ms)).take (i+1)=(jD (jP ms)).take i:=by rw[Rq9,e];simp
   have e2:sY ms want lack (i+1)=sY ms want lack i:=by unfold sY;rw[this]
   rw[e2,yR ms want lack i]
theorem aEN{ms:List MS}{i:Nat}{t:List Int}(h:(jD (jP ms))[i]?=some t):∃(k j:Nat) (m:MS) (p:Int×Int),ms[k]?=some m/\m.pieces[j]?=some p/\t=[p.2,(k:Int),(j:Int),p.1]:=
 aF0 (eA _) ((zC _).mem_iff.mp (oH h))
def aBD(K:W.Frag)(C:Addr):Sp:=λvs H Q _=>∃(l:Addr) (ms:List MS),vs=[.ref l]/\jC C H l ms/\(∀m∈ms,m.Good)/\ms.length<=7/\
 ∀r rs H',aQ H H'->H r=none->H' r=some (.lst (rs.map V.ref))->cI H' rs (jD (jP ms))->Q (.ref r) H'
theorem aBE{P:Program}{w:World}{K:PySem.W.Frag}{mg:Str->Option Value}{base:Heap}{a:jX}(tx:Txt K mg a):bS P w K mg base gZ 1 a.iY a.iZ ["machines"] (aBD K a.aR):=by
 refine tx.mZ.ok dG (λvs H Q E h=>?_) (λcdv A outer s H vs Q E hr h=>?_)
 ·obtain⟨l,ms,rfl,_⟩:=h
  rfl
 ·obtain⟨l,ms,rfl ,hM,hg,hz,k⟩:=h
  have hu:=kI hr
  refine aY (aE (aK (i:=1) dG.nd (tI aC))
   (aE (bW PassesOwn.never rfl (eO (K':=K) (by rfl) tx.cN (aA (Z.pv 0) aC)) (bI (K':=K) (n:=2) rfl (aM (aI (i:=2) dG.nd) (aM (aI (i:=3) dG.nd) bH))) (aG (bW PassesOwn.never rfl (eO (K':=K) (by rfl) tx.cN (aA (aU (K':=K) (Z.pv 3) rfl) aC)) (bI (K':=K) (n:=2) rfl (aM (aI (i:=4) dG.nd) (aM (aI (i:=5) dG.nd) bH))) (aG (hX (jV (K':=K) (Z.pv 1) (aA (aOo (aJ (K':=K) (Z.pv 5) aD) (Z.pv 2) (Z.pv 4) (aJ (K':=K) (Z.pv 5) aD)) aC)))))))
   (aG (aN (aL (rc:=aIY) aGr (by rfl) tx.qF aFE (aA (Z.pv 1) aC)))))) ?_
  obtain⟨qm,gm,rm⟩:=hM.ex
  have lqm:=rm.len
  refine aS (σ:=[some (.ref l),none,none,none,none,none]) rfl ?_
  walk_at "w"
  intro c nc
  obtain⟨H1,i1,s1,g1⟩:=nw _ nc;rw[i1]
  have gm1:=s1 _ _ gm
  walk_at "w"
  refine aAW (bX.of gm1) ?_
  refine oJ (xs:=qm.map V.ref) (λi σ' H'=>∃(ys:List Addr) (z2 z3 z4 z5:Option V),σ'=[some (.ref l),some (.ref c),z2,z3,z4,z5]/\aQ H H'/\H' c=some (.lst (ys.map V.ref))/\cI H' ys (oG ms i))
   ⟨[],_,_,_,_,rfl,s1,g1,cI.nil⟩ (λi σ' H' hi ⟨ys,z2,z3,z4,z5,e,s2,gc,tc⟩=>bX.of (s2 _ _ gm)) (λi v σ' H' T hv ⟨ys,z2,z3,z4,z5,e,s2,gc,tc⟩ nT=>?_) (λσ' H' ⟨ys,z2,z3,z4,z5,e,s2,gc,tc⟩=>?_)
  ·subst e
   obtain⟨q,m,eq,rfl,em,hq⟩:=rm.get hv
   have im:i < ms.length:=(qM.mp em).1
   have gmm:=hg m (oH em)
   have plen:=gmm.pieces.len
   obtain⟨dx,pl,gq,hp⟩:=hq.ex
   obtain⟨qp,gpl,tp⟩:=hp.ex
   have lqp:=tp.len
   obtain⟨H2,i2,s3,gT⟩:=nw _ nT;rw[i2]
   have S2:=s2.trans s3
   have gq2:=S2 _ _ gq
   have gpl2:=S2 _ _ gpl
   refine cP (jQ.of gT) rfl ?_
   walk_at "w"
   refine bZ gq2 tx.bE tx.dX rfl ?_
   walk_at "w"
   refine aAW (bX.of gpl2) ?_
   refine oJ (xs:=qp.map V.ref) (λj σ' H3=>∃(ys:List Addr) (z4 z5:Option V),σ'=[some (.ref l),some (.ref c),some (.int (i:Int)),some (.ref q),z4,z5]/\aQ H H3/\H3 c=some (.lst (ys.map V.ref))/\cI H3 ys (oG ms i++(aAM i m.pieces).take j))
    ⟨ys,_,_,rfl,S2,s3 _ _ gc,by rw[List.take_zero,Rt9];exact tc.tk s3.tk⟩ (λj σ' H3 hj ⟨ys,z4,z5,e,s4,gc4,tc4⟩=>bX.of (s4 _ _ gpl)) (λj v σ' H3 T hv ⟨ys,z4,z5,e,s4,gc4,tc4⟩ nT=>?_) (λσ' H3 ⟨ys,z4,z5,e,s4,gc4,tc4⟩=>?_)
   ·subst e
    rw[pG] at hv
    obtain⟨qj,eqj,rfl⟩:=Qw9.mp hv
    have lj:j < m.pieces.length:=by rw[<-lqp];exact(qM.mp eqj).1
    have ep:m.pieces[j]?=some m.pieces[j]:=eU lj
    have gj:=tp.at_ j qj _ eqj ep
    generalize m.pieces[j]=pr at gj ep
    have lys:ys.length<=40:=by
     rw[tc4.len,sI,Qz9]
     have:=aB7 hg (i:=i) (by omega)
     omega
    obtain⟨H4,i4,s5,gT4⟩:=nw _ nT;rw[i4]
    have gc5:=s5 _ _ gc4
    have gj5:=(s4.trans s5) _ _ gj
    refine cP (jQ.of gT4) rfl ?_
    walk_at "w"
    refine uO (bX.of gc5) ?_
    walk_at "w"
    intro T5 nT5
    obtain⟨H6,i6,s6,g6⟩:=nw _ nT5;rw[i6]
    have gc6:=s6 _ _ gc5
    walk_at "w"
    refine aAj (xs:=ys.map V.ref) gc6 (zF (by rw[bL];omega:(ys.map V.ref).length < 2000) (cK (by simp))) ?_
    obtain⟨H7,i7,k7,g7⟩:=wr H6 c _;rw[i7]
    have tk7:Tk H6 H7:=by rw[<-i7];exact aMW gc6
    walk_at "w"
    refine⟨ys ++ [T5],_,_,rfl,λb o e=>k7 _ _ ((s4.trans (s5.trans s6)) _ _ e) (bM nc e),by rw[g7,oA];rfl,?_⟩
    rw[aK5 ep,<-Tg9]
    exact(tc4.tk (s5.tk.trans (s6.tk.trans tk7))).app (cI.one (t:=[pr.2,(i:Int),(j:Int),pr.1]) (tk7 _ _ g6) (by simp))
   ·subst e
    rw[bL,lqp,Rw9 (by rw[yQ];exact eA _),<-qK em] at tc4
    exact⟨ys,_,_,_,_,rfl,s4,gc4,tc4⟩
  subst e
  rw[bL,lqm] at tc
  walk_at "w"
  refine aMu gc tc (by rw[tc.len];have:=aB7 hg (i:=ms.length) (eA _);omega) (λr rs ts' nr tr' pm pw=>?_)
  obtain⟨H8,i8,s8,g8⟩:=nw (.lst (rs.map V.ref)) nr;rw[i8]
  have et:=aK8 pm pw
  subst et
  exact k r rs H8 (s2.trans s8) (s2.free nr) g8 (tr'.tk s8.tk)
def aG8(K:W.Frag)(C:Addr):Sp:=λvs H Q _=>∃(l:Addr) (ms:List MS) (want lack:Int),vs=[.ref l,.int want,.int lack]/\jC C H l ms/\(∀m∈ms,m.Good)/\ms.length<=7/\
 ∀T lo H',aQ H H'->H lo=none->H' T=some (.tup [.ref lo,.int (max (-(shF ms want lack).2) 0),.int (max (shF ms want lack).2 0)])->H' lo=some (.lst ((shF ms want lack).1.map V.int))->Q (.ref T) H'
theorem aBF{P:Program}{w:World}{K:PySem.W.Frag}{mg:Str->Option Value}{base:Heap}{a:jX}(tx:Txt K mg a):bS P w K mg base gZ 2 a.rN a.rO ["machines","want","lack"] (aG8 K a.aR):=by
 have aB9:=aBE (P:=P) (w:=w) (base:=base) tx
 refine tx.rW.ok dO (λvs H Q E h=>?_) (λcdv A outer s H vs Q E hr h=>?_)
 ·obtain⟨l,ms,want,lack,rfl,_⟩:=h
  rfl
 ·obtain⟨l,ms,want,lack,rfl ,hM,hg,hz,k⟩:=h
  have hu:=kI hr
  refine aY (aE (mM (k:=1) (idx:=[]) (N:=["machine"]) (i:=3) dO.nd rfl (Or.inl rfl) (cR (sc:=aF iG) (NX:=["machines","want","lack","outputs","wanted","rate","at","place","amount","taken"]) rfl rfl rfl (by decide +kernel)) rfl (bO (K':=K) (Z.pv 0)) (λ_ _ _ _=>(aI (i:=0) (show(["machine"]:List Str).Nodup by decide +kernel))) (dJ (by decide)) (λ_ _ _ _=>bT) (λ_ _ _ _=>(aU (K':=K) (Z.pv 0) rfl)))
   (aE (aK (i:=4) dO.nd (aO hU (Z.pv 1) (aL (rc:=aAX K) (eC rfl) (by rfl) tx.lY kM (aA (Z.pv 3) aC))))
   (aE (bW PassesOwn.never rfl (bO (K':=K) (aH (aB9) (hr.mono (by decide)) (by rfl) tx.uB tx.mZ.kp tx.uA .nil aZ (aA (Z.pv 0) aC))) (bI (K':=K) (n:=4) rfl (aM (aI (i:=5) dO.nd) (aM (aI (i:=6) dO.nd) (aM (aI (i:=7) dO.nd) (aM (aI (i:=8) dO.nd) bH))))) (aG (bV (kO (yX (bA aCb (Z.pv 5) (Z.pv 2) (bY _)) (uP (bA aDE (Z.pv 4) aD (bY _))))) (aE (aK (i:=9) dO.nd (aL (yU rfl) (by rfl) tx.aAc aDN (aA (Z.pv 8) (aA (Z.pv 4) aC))))
   (aE (aDT (Z.pv 3) (Z.pv 6) aLY (Z.pv 9) aDB set_list)
   (aG (tJ (i:=4) dO.nd rfl (Or.inl rfl) (Z.pv 9) aLp)))) bD)))
   (aG (aN (yY (Z.pv 3) (aL (iI rfl) (by rfl) tx.rX uM (aA (wN aDD (Z.pv 4)) (aA aD aC))) (aL (iI rfl) (by rfl) tx.rX uM (aA (Z.pv 4) (aA aD aC))))))))) ?_
  obtain⟨qm,gm,rm⟩:=hM.ex
  have lqm:=rm.len
  refine aS (σ:=[some (.ref l),some (.int want),some (.int lack),none,none,none,none,none,none,none]) rfl ?_
  walk_at "w"
  refine j8 (bX.of gm) ?_
  refine eB (xs:=qm.map V.ref) (λj us H2=>H2=H/\us=((ms.take j).map (·.least)).map V.int) ⟨rfl,rfl⟩ (cK (by rw[bL];omega))
   (λj us H2 hj ⟨e0,e1⟩=>⟨by rw[e0];exact bX.of gm,by rw[e1,bL,bL,Qz9];omega⟩) (λj v us H2 hv ⟨e0,e1⟩=>?_) (λus H2 ⟨e0,e1⟩=>?_)
  ·subst e0
   obtain⟨q,m,eq,rfl,em,hq⟩:=rm.get hv
   obtain⟨dx,pl,gq,hp⟩:=hq.ex
   walk_at "w"
   refine bZ gq tx.bE tx.cV rfl ?_
   refine⟨rfl,?_⟩
   rw[e1,take_snoc em,oA,oA]
   rfl
  subst e0 e1
  rw[bL,lqm,Qv9]
  intro lo nlo
  obtain⟨H1,i1,s1,g1⟩:=nw _ nlo;rw[i1]
  walk_at "w"
  refine nV (bX.of g1) ?_
  walk_at "w"
  refine⟨l,ms,rfl,hM.tr s1.tr,hg,hz,λr rs H3 s3 nr gr tr'=>?_⟩
  have lrs:=tr'.len
  have g13:=s3 _ _ g1
  have rlo:r≠lo:=λz=>by rw[z,g1] at nr;cases nr
  refine j8 (bX.of gr) ?_
  refine yV (xs:=rs.map V.ref) (λi σ' H'=>∃(z5 z6 z7 z8 z9:Option V),σ'=[some (.ref l),some (.int want),some (.int lack),some (.ref lo),some (.int (sY ms want lack i).2),z5,z6,z7,z8,z9]/\cU lo H3 H'/\H' lo=some (.lst ((sY ms want lack i).1.map V.int)))
   ⟨_,_,_,_,_,rfl,λ_ _ e _=>e,g13⟩ (λi σ' H' hi ⟨z5,z6,z7,z8,z9,e,kl,gl⟩=>bX.of (kl _ _ gr rlo)) (λi v σ' H' hv ⟨z5,z6,z7,z8,z9,e,kl,gl⟩=>?_) (λσ' H' ⟨z5,z6,z7,z8,z9,e,kl,gl⟩=>?_)
  ·subst e
   obtain⟨q,t,eq,rfl,et,hq⟩:=tr'.get hv
   obtain⟨kk,jj,m,pr,em,ep,rfl⟩:=aEN et
   have hq3:H3 q=some (.tup [.int pr.2,.int (kk:Int),.int (jj:Int),.int pr.1]):=hq
   have qlo:q≠lo:=λz=>by rw[z,g13] at hq3;cases hq3
   have hq':=kl _ _ hq3 qlo
   have kl':kk < (sY ms want lack i).1.length:=by rw[yR];exact(qM.mp em).1
   have es:=aB8 (want:=want) (lack:=lack) et
   have ev:(sY ms want lack i).1[kk]?=some ((sY ms want lack i).1.getD kk 0):=by
    rw[Qp9,eU kl']
    rfl
   rw[es]
   generalize sY ms want lack i=st at gl kl' ev
   refine cP (jQ.of hq') rfl ?_
   walk_at "w"
   have no:¬(pr.2<=lack/\0 < st.2)->stp lack st [pr.2,(kk:Int),(jj:Int),pr.1]=st:=λz=>by
    show(if pr.2<=lack/\0 < st.2 then _ else st)=st
    rw[if_neg z]
   have yes:(pr.2<=lack/\0 < st.2)->stp lack st [pr.2,(kk:Int),(jj:Int),pr.1]=(st.1.set kk (st.1.getD kk 0+min pr.1 st.2),st.2 - min pr.1 st.2):=λz=>by
    show(if pr.2<=lack/\0 < st.2 then (st.1.set (kk:Int).toNat (st.1.getD (kk:Int).toNat 0+min pr.1 st.2),st.2 - min pr.1 st.2) else st)=_
    rw[if_pos z,Rm9]
   refine cW (λh1=>?_) (λh1=>?_)
   ·walk_at "w"
    refine cW (λh2=>?_) (λh2=>?_)
    ·rw[yes ⟨h1,h2⟩]
     walk_at "w"
     refine aL1 (bX.of gl) (Int.natCast_nonneg _) (by rw[Rm9,pG,ev];rfl) ?_
     walk_at "w"
     refine aGi gl (aOF (by rw[bL];exact kl')) ?_
     obtain⟨H5,i5,k5,g5⟩:=wr H' lo _;rw[i5]
     rw[aMV] at g5
     walk_at "w"
     refine aDO rfl ?_
     walk_at "w"
     exact⟨_,_,_,_,_,rfl,kl.trans k5,g5⟩
    ·rw[no (λz=>h2 z.2)]
     walk_at "w"
     exact⟨_,_,_,_,_,rfl,kl,gl⟩
   ·rw[no (λz=>h1 z.1)]
    walk_at "w"
    exact⟨_,_,_,_,_,rfl,kl,gl⟩
  ·subst e
   rw[bL,lrs] at gl ⊢
   have S':aQ _ H':=λb o e=>kl _ _ ((s1.trans s3) _ _ e) (bM nlo e)
   walk_at "w"
   intro T nT
   obtain⟨H6,i6,s6,g6⟩:=nw _ nT;rw[i6]
   walk_at "w"
   exact k T lo H6 (S'.trans s6) nlo g6 (s6 _ _ gl)
def amA(i:Nat)(t:List Int):Int:=match t with
 |[_,a,_,m]=>if a=(i:Int) then m else 0
 |_=>0
def mE(i:Nat)(ts:List (List Int)):Int:=List.sum (ts.map (amA i))
theorem aJ5(i:Nat)(ts us:List (List Int)):mE i (ts++us)=mE i ts+mE i us:=by
 unfold mE
 rw[oA,Tt9]
theorem aON(i:Nat)(t:List Int):mE i [t]=amA i t:=by
 unfold mE
 show amA i t+0=amA i t
 omega
theorem uG(i:Nat)(t:List Int)(ts:List (List Int)):mE i (t::ts)=amA i t+mE i ts:=rfl
theorem aNe{i:Nat}{ts us:List (List Int)}(h:ts.Perm us):mE i ts=mE i us:=by
 induction h with
 |nil=>rfl
 |cons x _ ih=>rw[uG,uG,ih]
 |swap x y l=>rw[uG,uG,uG,uG];omega
 |trans _ _ h1 h2=>rw[h1,h2]
theorem aNf(i k:Nat)(ps:List (Int×Int)):mE i (aAM k ps)=if k=i then aAF ps else 0:=by
 have e:(aAM k ps).map (amA i)=ps.map λt=>if k=i then t.1 else 0:=by
  apply Ti9
  intro j
  rw[pG,pG]
  cases h:ps[j]? with
  |none=>
   have:(aAM k ps)[j]?=none:=Ro9 (by rw[yQ];exact List.getElem?_eq_none_iff.mp h)
   rw[this]
   rfl
  |some t=>
   rw[aBC h]
   show some (if (k:Int)=(i:Int) then t.1 else 0)=some (if k=i then t.1 else 0)
   by_cases z:k=i
   ·rw[if_pos z,if_pos (by omega)]
   ·rw[if_neg z,if_neg (by omega)]
 unfold mE
 rw[e]
 by_cases z:k=i
 ·simp only[if_pos z]
  have:=aJg ps
  rw[<-this]
  congr 1
  induction ps with
  |nil=>rfl
  |cons p ps ih=>simp
 ·simp only[if_neg z]
  clear e
  induction ps with
  |nil=>rfl
  |cons p ps ih=>
   show 0+List.sum (ps.map λ_=>(0:Int))=0
   rw[ih]
   rfl
theorem aF1{ms:List MS}{i:Nat}{m:MS}(h:ms[i]?=some m):∀{n:Nat},n<=ms.length->mE i (oG ms n)=if i < n then aAF m.pieces else 0
 |0,_=>by
  rw[if_neg (by omega)]
  simp[oG,mE]
 |n+1,hn=>by
  have em:ms[n]?=some ms[n]:=eU (by omega)
  rw[qK em,aJ5,aF1 h (by omega),aNf]
  by_cases z:n=i
  ·subst z
   rw[em] at h
   cases h
   rw[if_pos rfl,if_neg (by omega),if_pos (by omega)]
   omega
  ·rw[if_neg z]
   by_cases y:i < n
   ·rw[if_pos y,if_pos (by omega)];omega
   ·rw[if_neg y,if_neg (by omega)];rfl
theorem aOO{ms:List MS}{i:Nat}{m:MS}(h:ms[i]?=some m):mE i (jD (jP ms))=aAF m.pieces:=by
 rw[aNe (zC _)]
 show mE i (oG ms ms.length)=_
 rw[aF1 h (eA _),if_pos (qM.mp h).1]
theorem aIl{l:List Int}{k i:Nat}{v:Int}(hk:k < l.length):(l.set k v).getD i 0=if k=i then v else l.getD i 0:=by
 rw[Qp9,List.getElem?_set,Qp9]
 by_cases z:k=i
 ·subst z
  rw[if_pos rfl,if_pos rfl,if_pos hk]
  rfl
 ·rw[if_neg z,if_neg z]
theorem aNg(lack:Int)(st:List Int×Int)(r j p:Int)(k:Nat):stp lack st [r,(k:Int),j,p]=if r<=lack/\0 < st.2 then (st.1.set k (st.1.getD k 0+min p st.2),st.2 - min p st.2) else st:=by
 show(if r<=lack/\0 < st.2 then (st.1.set (k:Int).toNat (st.1.getD (k:Int).toNat 0+min p st.2),st.2 - min p st.2) else st)=_
 rw[Rm9]
theorem aJ6{ms:List MS}(g:∀m∈ms,m.Good)(want lack:Int):∀{n:Nat},n<=(jD (jP ms)).length->∀{i:Nat}{m:MS},ms[i]?=some m->m.least<=(sY ms want lack n).1.getD i 0/\(sY ms want lack n).1.getD i 0<=m.least+mE i ((jD (jP ms)).take n)
 |0,_,i,m,h=>by
  have e:(sY ms want lack 0).1.getD i 0=m.least:=by
   show(ms.map (·.least)).getD i 0=_
   rw[Qp9,pG,h]
   rfl
  rw[e]
  show m.least<=m.least/\m.least<=m.least+0
  omega
 |n+1,hn,i,m,h=>by
  have et:(jD (jP ms))[n]?=some (jD (jP ms))[n]:=eU (by omega)
  generalize (jD (jP ms))[n]=t at et
  obtain⟨k,j,m',p,em,ep,rfl⟩:=aEN et
  obtain⟨i1,i2⟩:=aJ6 g want lack (n:=n) (by omega) h
  have hk:k < (sY ms want lack n).1.length:=by rw[yR];exact(qM.mp em).1
  have p1:=((g m' (oH em)).pieces.pc p (oH ep)).1
  rw[aB8 et,take_snoc et,aJ5,aON,aNg]
  show _/\_<=m.least+(mE i ((jD (jP ms)).take n)+if (k:Int)=(i:Int) then p.1 else 0)
  generalize mE i ((jD (jP ms)).take n)=A at i2
  split
  ·rename_i c
   show m.least<=((sY ms want lack n).1.set k _).getD i 0/\((sY ms want lack n).1.set k _).getD i 0<=_
   rw[aIl hk]
   by_cases z:k=i
   ·subst z
    rw[if_pos rfl,if_pos rfl]
    omega
   ·rw[if_neg z,if_neg (by omega)]
    omega
  ·by_cases z:(k:Int)=(i:Int)
   ·rw[if_pos z];omega
   ·rw[if_neg z];omega
def InR(ms:List MS)(outs:List Int):Prop:=∀(i:Nat) m o,ms[i]?=some m->outs[i]?=some o->m.least<=o/\o<=m.least+aAF m.pieces
theorem aDx(ms:List MS)(want lack:Int):(shF ms want lack).1.length=ms.length:=yR ms want lack _
theorem aJp{ms:List MS}(g:∀m∈ms,m.Good)(want lack:Int):InR ms (shF ms want lack).1:=λi m o h ho=>by
 have:=aJ6 g want lack (n:=(jD (jP ms)).length) (eA _) h
 rw[Qv9,aOO h] at this
 have e:(shF ms want lack).1.getD i 0=o:=by rw[Qp9,ho];rfl
 unfold shF at e
 rw[e] at this
 exact this
def tQ(ms:List MS)(outs:List Int)(j:Nat):Int:=match ms[j]?,outs[j]? with
 |some m,some o=>cst m.pieces (o - m.least)
 |_,_=>0
theorem aNh{ms:List MS}{outs:List Int}{j:Nat}{m:MS}{o:Int}(h1:ms[j]?=some m)(h2:outs[j]?=some o):tQ ms outs j=cst m.pieces (o - m.least):=by
 unfold tQ
 rw[h1,h2]
def aOP(ms:List MS)(outs:List Int)(want lack:Int):Int:=sumTo (tQ ms outs) ms.length+lack*max (want - List.sum outs) 0
def shC(ms:List MS)(want lack:Int):Int:=aOP ms (shF ms want lack).1 want lack
def aDj(K:W.Frag)(C:Addr):Sp:=λvs H Q _=>∃(l lo:Addr) (ms:List MS) (outs:List Int) (want lack:Int),vs=[.ref l,.int want,.int lack,.ref lo]/\jC C H l ms/\(∀m∈ms,m.Good)/\ms.length<=7/\H lo=some (.lst (outs.map V.int))/\outs.length=ms.length/\InR ms outs/\Am lack/\
 ∀H',aQ H H'->Q (.int (aOP ms outs want lack)) H'
theorem aDk{P:Program}{w:World}{K:PySem.W.Frag}{mg:Str->Option Value}{base:Heap}{a:jX}(tx:Txt K mg a):bS P w K mg base gZ 3 a.lQ a.lR ["machines","want","lack","outputs"] (aDj K a.aR):=by
 have mD:=qI (P:=P) (w:=w) (base:=base) tx
 refine tx.qB.ok vS (λvs H Q E h=>?_) (λcdv A outer s H vs Q E hr h=>?_)
 ·obtain⟨l,lo,ms,outs,want,lack,rfl,_⟩:=h
  rfl
 ·obtain⟨l,lo,ms,outs,want,lack,rfl ,hM,hg,hz,ho,hl,hin,hk,k⟩:=h
  have hu:=kI hr
  refine aY (aE (aK (i:=4) vS.nd (aL (rc:=aAX K) (eC rfl) (by rfl) tx.lY kM (aA (bU (k:=2) (idx:=[]) (N:=["machine","output"]) (cR (sc:=aF d7) (NX:=["machines","want","lack","outputs","making"]) rfl rfl rfl (by decide +kernel)) rfl (pN (k1:=true) (k2:=true) (by rfl) tx.rY (aA (Z.pv 0) (aA (Z.pv 3) aC))) (λ_ _ _ _=>(bI (K':=K) (n:=2) rfl (aM (aI (i:=0) (show(["machine","output"]:List Str).Nodup by decide +kernel)) (aM (aI (i:=1) (show(["machine","output"]:List Str).Nodup by decide +kernel)) bH)))) (kK (bK (by decide) (bK (by decide) hV))) (λ_ _ _ _=>bT) (λ_ _ _ _=>(aAn (Z.pv 0) tx.bE tx.m_Machine_cost_at (mD) (hr.mono (by decide)) tx.lU .nil aZ (aA (Z.pv 1) aC)))) aC)))
   (aG (aN (aO cM (Z.pv 4) (aO cC (Z.pv 2) (aL (iI rfl) (by rfl) tx.rX uM (aA (aO hU (Z.pv 1) (aL (rc:=aAX K) (eC rfl) (by rfl) tx.lY kM (aA (Z.pv 3) aC))) (aA aD aC)))))))) ?_
  obtain⟨qm,gm,rm⟩:=hM.ex
  have lqm:=rm.len
  obtain⟨k0,k1⟩:=hk
  refine aS (σ:=[some (.ref l),some (.int want),some (.int lack),some (.ref lo),none]) rfl ?_
  walk_at "w"
  refine aDX (Src.lst gm) (Src.lst ho) ?_
  refine tK (n:=ms.length) (by rw[bL];omega) (by rw[bL];omega) (.inl (by rw[bL];omega)) (cK (by omega))
   (λi us H'=>aQ H H'/\∃ns:List Int,us=ns.map V.int/\ns.length=i/\List.sum ns=sumTo (tQ ms outs) i) ⟨aQ.refl _,[],rfl,rfl,rfl⟩
   (λi us H' hi ⟨s1,ns,e1,e2,e3⟩=>⟨⟨Src.lst (s1 _ _ gm),Src.lst (s1 _ _ ho)⟩,by rw[e1,bL];omega⟩)
   (λi x y us H' T hx hy ⟨s1,ns,e1,e2,e3⟩ nT=>?_) (λus H' ⟨s1,ns,e1,e2,e3⟩=>?_)
  ·obtain⟨q,m,eq,rfl,em,hq⟩:=rm.get hx
   obtain⟨o,eo,rfl⟩:=gG hy
   obtain⟨o0,o1⟩:=hin i m o em eo
   obtain⟨H2,i2,s2,gT⟩:=nw _ nT;rw[i2]
   have S2:=s1.trans s2
   obtain⟨dm,pm,hm2,_⟩:=(hq.tr S2.tr).ex
   refine cP (jQ.of gT) rfl ?_
   walk_at "w"
   refine⟨q,dm,_,rfl,hm2,rfl,?_⟩
   walk_at "w"
   refine⟨q,m,o,rfl,hq.tr S2.tr,hg m (oH em),o0,o1,λH3 s3=>?_⟩
   refine⟨S2.trans s3,ns ++ [cst m.pieces (o - m.least)],by rw[e1,oA];rfl,by rw[sI,e2];rfl,?_⟩
   rw[uF,e3]
   show _=sumTo _ i+tQ ms outs i
   rw[aNh em eo]
  subst e1
  intro l2 n2
  obtain⟨H2,i2,s2,g2⟩:=nw _ n2;rw[i2]
  walk_at "w"
  refine nV (bX.of g2) ?_
  rw[e3]
  have ho2:=(s1.trans s2) _ _ ho
  walk_at "w"
  refine nV (bX.of ho2) ?_
  walk_at "w"
  exact k H2 (s1.trans s2)
def aFr(K:W.Frag)(C:Addr):Sp:=λvs H Q _=>∃(l:Addr) (ms:List MS) (want lack:Int),vs=[.ref l,.int want,.int lack]/\jC C H l ms/\(∀m∈ms,m.Good)/\ms.length<=7/\Am lack/\
 ∀H',aQ H H'->Q (.int (shC ms want lack)) H'
theorem aAd{P:Program}{w:World}{K:PySem.W.Frag}{mg:Str->Option Value}{base:Heap}{a:jX}(tx:Txt K mg a):bS P w K mg base gZ 4 a.o8 a.o9 ["machines","want","lack"] (aFr K a.aR):=by
 have aEO:=aDk (P:=P) (w:=w) (base:=base) tx
 have yS:=aBF (P:=P) (w:=w) (base:=base) tx
 refine tx.lV.ok zQ (λvs H Q E h=>?_) (λcdv A outer s H vs Q E hr h=>?_)
 ·obtain⟨l,ms,want,lack,rfl,_⟩:=h
  rfl
 ·obtain⟨l,ms,want,lack,rfl ,hM,hg,hz,hk,k⟩:=h
  have hu:=kI hr
  refine aY (aE (aK (i:=3) zQ.nd (aH (yS) (hr.mono (by decide)) (by rfl) tx.yC tx.rW.kp tx.yB .nil aZ (aA (Z.pv 0) (aA (Z.pv 1) (aA (Z.pv 2) aC)))))
   (aG (aN (aH (aEO) (hr.mono (by decide)) (by rfl) tx.yE tx.qB.kp tx.yD .nil aZ (aA (Z.pv 0) (aA (Z.pv 1) (aA (Z.pv 2) (aA (aJ (K':=K) (Z.pv 3) aD) aC)))))))) ?_
  refine aS (σ:=[some (.ref l),some (.int want),some (.int lack),none]) rfl ?_
  walk_at "w"
  refine⟨l,ms,want,lack,rfl,hM,hg,hz,λT lo H1 s1 nlo gT glo=>?_⟩
  walk_at "w"
  exact⟨l,lo,ms,_,want,lack,rfl,hM.tr s1.tr,hg,hz,glo,aDx ms want lack,aJp hg want lack,hk,λH2 s2=>k H2 (s1.trans s2)⟩
def amQ(q:Int->Bool)(i:Nat)(t:List Int):Int:=match t with
 |[r,a,_,m]=>if a=(i:Int)/\q r=true then m else 0
 |_=>0
def vM(q:Int->Bool)(i:Nat)(ts:List (List Int)):Int:=List.sum (ts.map (amQ q i))
theorem dH(q:Int->Bool)(i:Nat)(t:List Int)(ts:List (List Int)):vM q i (t::ts)=amQ q i t+vM q i ts:=rfl
theorem aNi(q:Int->Bool)(i:Nat)(ts us:List (List Int)):vM q i (ts++us)=vM q i ts+vM q i us:=by
 unfold vM
 rw[oA,Tt9]
theorem aK9{q:Int->Bool}{i:Nat}{ts us:List (List Int)}(h:ts.Perm us):vM q i ts=vM q i us:=by
 induction h with
 |nil=>rfl
 |cons x _ ih=>rw[dH,dH,ih]
 |swap x y l=>rw[dH,dH,dH,dH];omega
 |trans _ _ h1 h2=>rw[h1,h2]
def aG9(q:Int->Bool):List (Int×Int)->Int
 |[]=>0
 |t::ps=>(if q t.2=true then t.1 else 0)+aG9 q ps
theorem aIm(q:Int->Bool):∀ps:List (Int×Int),List.sum (ps.map λt=>if q t.2=true then t.1 else 0)=aG9 q ps
 |[]=>rfl
 |t::ps=>by
  show(if q t.2=true then t.1 else 0)+List.sum (ps.map λt=>if q t.2=true then t.1 else 0)=_
  rw[aIm q ps]
  rfl
theorem aEP{α:Type}:∀l:List α,List.sum (l.map λ_=>(0:Int))=0
 |[]=>rfl
 |_::l=>by
  show 0+List.sum (l.map λ_=>(0:Int))=0
  rw[aEP l]
  rfl
theorem aLa(q:Int->Bool)(i k:Nat)(ps:List (Int×Int)):vM q i (aAM k ps)=if k=i then aG9 q ps else 0:=by
 have e:(aAM k ps).map (amQ q i)=ps.map λt=>if k=i then (if q t.2=true then t.1 else 0) else 0:=by
  apply Ti9
  intro j
  rw[pG,pG]
  cases h:ps[j]? with
  |none=>
   have:(aAM k ps)[j]?=none:=Ro9 (by rw[yQ];exact List.getElem?_eq_none_iff.mp h)
   rw[this]
   rfl
  |some t=>
   rw[aBC h]
   show some (if (k:Int)=(i:Int)/\q t.2=true then t.1 else 0)=some (if k=i then (if q t.2=true then t.1 else 0) else 0)
   by_cases z:k=i
   ·rw[if_pos z]
    by_cases y:q t.2=true
    ·rw[if_pos y,if_pos ⟨by omega,y⟩]
    ·rw[if_neg y,if_neg (λc=>y c.2)]
   ·rw[if_neg z,if_neg (λc=>z (by have:=c.1;omega))]
 unfold vM
 rw[e]
 by_cases z:k=i
 ·simp only[if_pos z]
  exact aIm q ps
 ·simp only[if_neg z]
  exact aEP ps
theorem aEQ{q:Int->Bool}{ms:List MS}{i:Nat}{m:MS}(h:ms[i]?=some m):∀{n:Nat},n<=ms.length->vM q i (oG ms n)=if i < n then aG9 q m.pieces else 0
 |0,_=>by
  rw[if_neg (by omega)]
  simp[oG,vM]
 |n+1,hn=>by
  have em:ms[n]?=some ms[n]:=eU (by omega)
  rw[qK em,aNi,aEQ h (by omega),aLa]
  by_cases z:n=i
  ·subst z
   rw[em] at h
   cases h
   rw[if_pos rfl,if_neg (by omega),if_pos (by omega)]
   omega
  ·rw[if_neg z]
   by_cases y:i < n
   ·rw[if_pos y,if_pos (by omega)];omega
   ·rw[if_neg y,if_neg (by omega)];rfl
theorem aIn{q:Int->Bool}{ms:List MS}{i:Nat}{m:MS}(h:ms[i]?=some m):vM q i (jD (jP ms))=aG9 q m.pieces:=by
 rw[aK9 (zC _)]
 show vM q i (oG ms ms.length)=_
 rw[aEQ h (eA _),if_pos (qM.mp h).1]
def ltQ(p:Int):Int->Bool:=λr=>decide (r < p)
def eqQ(p:Int):Int->Bool:=λr=>decide (r=p)
theorem aJ7(p:Int):∀ps:List (Int×Int),aG9 (ltQ p) ps=loA p ps
 |[]=>rfl
 |t::ps=>by
  show(if decide (t.2 < p)=true then t.1 else 0)+aG9 (ltQ p) ps=(if t.2 < p then t.1 else 0)+loA p ps
  rw[aJ7 p ps]
  simp
theorem aJ8(p:Int):∀ps:List (Int×Int),aG9 (eqQ p) ps=eqA p ps
 |[]=>rfl
 |t::ps=>by
  show(if decide (t.2=p)=true then t.1 else 0)+aG9 (eqQ p) ps=(if t.2=p then t.1 else 0)+eqA p ps
  rw[aJ8 p ps]
  simp
structure Rw4(n:Nat)(ts:List (List Int)):Prop where
 four:∀t∈ts,∃(r j m:Int) (k:Nat),t=[r,(k:Int),j,m]/\k < n/\1<=m/\0<=r
 up:ts.Pairwise λa b=>a.headD 0<=b.headD 0
theorem Rw4.tail{n:Nat}{t:List Int}{ts:List (List Int)}(h:Rw4 n (t::ts)):Rw4 n ts:=⟨λu hu=>h.four u (zE _ hu),(List.pairwise_cons.mp h.up).2⟩
theorem Rw4.hd{n:Nat}{t:List Int}{ts:List (List Int)}(h:Rw4 n (t::ts)):∃(r j m:Int) (k:Nat),t=[r,(k:Int),j,m]/\k < n/\1<=m/\0<=r/\∀u∈ts,r<=u.headD 0:=by
 obtain⟨r,j,m,k,e,h1,h2,h3⟩:=h.four t (Qr9 ..)
 refine⟨r,j,m,k,e,h1,h2,h3,λu hu=>?_⟩
 have:=(List.pairwise_cons.mp h.up).1 u hu
 rw[e] at this
 exact this
theorem vN{ms:List MS}(g:∀m∈ms,m.Good):Rw4 ms.length (jD (jP ms)):=by
 have four:∀t∈jD (jP ms),∃(r j m:Int) (k:Nat),t=[r,(k:Int),j,m]/\k < ms.length/\1<=m/\0<=r:=λt ht=>by
  obtain⟨i,hi⟩:=Rh9 ht
  obtain⟨k,j,m,p,em,ep,rfl⟩:=aEN hi
  have pc:=(g m (oH em)).pieces.pc p (oH ep)
  exact⟨p.2,j,p.1,k,rfl,(qM.mp em).1,pc.1,pc.2.2.1⟩
 refine⟨four,?_⟩
 have up:=aJ4 (jP ms)
 refine List.Pairwise.imp_of_mem (λ{a b} ha hb h=>?_) up
 obtain⟨r,j,m,k,rfl,_⟩:=four a ha
 obtain⟨r',j',m',k',rfl,_⟩:=four b hb
 show r<=r'
 rw[fK] at h
 by_cases z:r'=r
 ·omega
 ·rw[if_neg z] at h
  have:=of_decide_eq_false h
  omega
def yOf(lack:Int)(i:Nat):List (List Int)->Int->Int
 |[],_=>0
 |[r,a,_,m] :: ts,w=>if r<=lack/\0 < w then (if a=(i:Int) then min m w else 0)+yOf lack i ts (w - min m w) else yOf lack i ts w
 |_::ts,w=>yOf lack i ts w
def wOf(lack:Int):List (List Int)->Int->Int
 |[],w=>w
 |[r,_,_,m] :: ts,w=>if r<=lack/\0 < w then wOf lack ts (w - min m w) else wOf lack ts w
 |_::ts,w=>wOf lack ts w
def lam(lack:Int):List (List Int)->Int->Int
 |[],_=>lack
 |[r,_,_,m] :: ts,w=>if r<=lack then (if w<=m then r else lam lack ts (w - m)) else lam lack ts w
 |_::ts,w=>lam lack ts w
theorem uH(lack:Int)(i:Nat)(r a j m:Int)(ts:List (List Int))(w:Int):yOf lack i ([r,a,j,m] :: ts) w=if r<=lack/\0 < w then (if a=(i:Int) then min m w else 0)+yOf lack i ts (w - min m w) else yOf lack i ts w:=rfl
theorem aER(lack:Int)(r a j m:Int)(ts:List (List Int))(w:Int):wOf lack ([r,a,j,m] :: ts) w=if r<=lack/\0 < w then wOf lack ts (w - min m w) else wOf lack ts w:=rfl
theorem aBG(lack:Int)(r a j m:Int)(ts:List (List Int))(w:Int):lam lack ([r,a,j,m] :: ts) w=if r<=lack then (if w<=m then r else lam lack ts (w - m)) else lam lack ts w:=rfl
theorem aBH{lack:Int}{i:Nat}{n:Nat}:∀{ts:List (List Int)}{w:Int},Rw4 n ts->w<=0->yOf lack i ts w=0
 |[],_,_,_=>rfl
 |t::ts,w,h,hw=>by
  obtain⟨r,j,m,k,rfl,_⟩:=h.hd
  rw[uH,if_neg (by omega)]
  exact aBH h.tail hw
theorem aBI{lack:Int}{n:Nat}:∀{ts:List (List Int)}{w:Int},Rw4 n ts->w<=0->wOf lack ts w=w
 |[],_,_,_=>rfl
 |t::ts,w,h,hw=>by
  obtain⟨r,j,m,k,rfl,_⟩:=h.hd
  rw[aER,if_neg (by omega)]
  exact aBI h.tail hw
theorem aHa{lack:Int}{n:Nat}:∀{ts:List (List Int)}{w:Int},Rw4 n ts->lam lack ts w<=lack
 |[],_,_=>Rx9 _
 |t::ts,w,h=>by
  obtain⟨r,j,m,k,rfl,_⟩:=h.hd
  rw[aBG]
  split
  ·split
   ·assumption
   ·exact aHa h.tail
  ·exact aHa h.tail
theorem aJq{lack:Int}{n:Nat}{r0:Int}(h0:r0<=lack):∀{ts:List (List Int)}{w:Int},Rw4 n ts->(∀u∈ts,r0<=u.headD 0)->r0<=lam lack ts w
 |[],_,_,_=>h0
 |t::ts,w,h,hu=>by
  have h1:=hu t (Qr9 ..)
  obtain⟨r,j,m,k,rfl,_⟩:=h.hd
  have h2:r0<=r:=h1
  rw[aBG]
  have ih:∀w',r0<=lam lack ts w':=λw'=>aJq h0 h.tail (λu hm=>hu u (zE _ hm))
  split
  ·split
   ·exact h2
   ·exact ih _
  ·exact ih _
theorem aJ9{p:Int}{i n:Nat}:∀{ts:List (List Int)},Rw4 n ts->(∀u∈ts,p<=u.headD 0)->vM (ltQ p) i ts=0
 |[],_,_=>rfl
 |t::ts,h,hu=>by
  have h1:=hu t (Qr9 ..)
  obtain⟨r,j,m,k,rfl,_⟩:=h.hd
  have h2:p<=r:=h1
  rw[dH,aJ9 h.tail (λu hm=>hu u (zE _ hm))]
  show(if (k:Int)=(i:Int)/\decide (r < p)=true then m else 0)+0=0
  rw[if_neg (λc=>by have:=of_decide_eq_true c.2;omega)]
  rfl
theorem aKa{q:Int->Bool}{i n:Nat}:∀{ts:List (List Int)},Rw4 n ts->0<=vM q i ts
 |[],_=>Rx9 _
 |t::ts,h=>by
  have ih:=aKa (q:=q) (i:=i) h.tail
  obtain⟨r,j,m,k,rfl,_,h2,_⟩:=h.hd
  rw[dH]
  have:0<=amQ q i [r,(k:Int),j,m]:=by
   show 0<=(if (k:Int)=(i:Int)/\q r=true then m else 0)
   split <;> omega
  omega
theorem aNj{lack:Int}{i n:Nat}:∀{ts:List (List Int)}{w v:Int},Rw4 n ts->1<=w->(v=w\/v=w - 1)->
  vM (ltQ (lam lack ts w)) i ts<=yOf lack i ts v/\yOf lack i ts v<=vM (ltQ (lam lack ts w)) i ts+vM (eqQ (lam lack ts w)) i ts
 |[],w,v,_,_,_=>by
  show(0:Int)<=0/\(0:Int)<=0+0
  omega
 |t::ts,w,v,h,h1,hv=>by
  obtain⟨r,j,m,k,rfl,_,m1,_,hu⟩:=h.hd
  have ht:=h.tail
  rw[aBG]
  by_cases c1:r<=lack
  ·rw[if_pos c1]
   by_cases c2:w<=m
   ·rw[if_pos c2,dH,dH,aJ9 ht hu]
    have nn:=aKa (q:=eqQ r) (i:=i) ht
    have e1:amQ (ltQ r) i [r,(k:Int),j,m]=0:=by
     show(if (k:Int)=(i:Int)/\decide (r < r)=true then m else 0)=0
     rw[if_neg (λc=>by have:=of_decide_eq_true c.2;omega)]
    have e2:amQ (eqQ r) i [r,(k:Int),j,m]=if (k:Int)=(i:Int) then m else 0:=by
     show(if (k:Int)=(i:Int)/\decide (r=r)=true then m else 0)=_
     by_cases z:(k:Int)=(i:Int)
     ·rw[if_pos z,if_pos ⟨z,by simp⟩]
     ·rw[if_neg z,if_neg (λc=>z c.1)]
    rw[e1,e2,uH]
    by_cases c3:0 < v
    ·rw[if_pos ⟨c1,c3⟩,show min m v=v by omega,Int.sub_self,aBH ht (Rx9 0)]
     split <;> omega
    ·rw[if_neg (λc=>c3 c.2),aBH ht (by omega)]
     split <;> omega
   ·rw[if_neg c2]
    have lg:=aJq c1 (w:=w - m) ht hu
    have ih:=aNj (lack:=lack) (i:=i) (w:=w - m) (v:=v - m) ht (by omega) (by omega)
    generalize lam lack ts (w - m)=p at lg ih
    rw[uH,if_pos ⟨c1,by omega⟩,show min m v=m by omega,dH,dH]
    have e1:amQ (ltQ p) i [r,(k:Int),j,m]=if (k:Int)=(i:Int)/\decide (r < p)=true then m else 0:=rfl
    have e2:amQ (eqQ p) i [r,(k:Int),j,m]=if (k:Int)=(i:Int)/\decide (r=p)=true then m else 0:=rfl
    rw[e1,e2]
    by_cases z:(k:Int)=(i:Int)
    ·rw[if_pos z]
     by_cases y:r < p
     ·rw[if_pos ⟨z,decide_eq_true y⟩,if_neg (λc=>by have:=of_decide_eq_true c.2;omega)]
      omega
     ·rw[if_neg (λc=>y (of_decide_eq_true c.2)),if_pos ⟨z,decide_eq_true (by omega)⟩]
      omega
    ·rw[if_neg z,if_neg (λc=>z c.1),if_neg (λc=>z c.1)]
     omega
  ·rw[if_neg c1,uH,if_neg (λc=>c1 c.1),dH,dH]
   have ll:=aHa (lack:=lack) (w:=w) ht
   have ih:=aNj (lack:=lack) (i:=i) (w:=w) (v:=v) ht h1 hv
   generalize lam lack ts w=p at ll ih
   have e1:amQ (ltQ p) i [r,(k:Int),j,m]=0:=by
    show(if (k:Int)=(i:Int)/\decide (r < p)=true then m else 0)=0
    rw[if_neg (λc=>by have:=of_decide_eq_true c.2;omega)]
   have e2:amQ (eqQ p) i [r,(k:Int),j,m]=0:=by
    show(if (k:Int)=(i:Int)/\decide (r=p)=true then m else 0)=0
    rw[if_neg (λc=>by have:=of_decide_eq_true c.2;omega)]
   rw[e1,e2]
   omega
theorem aHb{lack:Int}{n:Nat}:∀{ts:List (List Int)}{w v:Int},Rw4 n ts->1<=w->(v=w\/v=w - 1)->0<=wOf lack ts v/\(0 < wOf lack ts v->lam lack ts w=lack)
 |[],w,v,_,_,_=>⟨by show 0<=v;omega,λ_=>rfl⟩
 |t::ts,w,v,h,h1,hv=>by
  obtain⟨r,j,m,k,rfl,_,m1,_,hu⟩:=h.hd
  have ht:=h.tail
  rw[aBG,aER]
  by_cases c1:r<=lack
  ·rw[if_pos c1]
   by_cases c2:w<=m
   ·have e:(if r<=lack/\0 < v then wOf lack ts (v - min m v) else wOf lack ts v)=0:=by
     by_cases c3:0 < v
     ·rw[if_pos ⟨c1,c3⟩,show min m v=v by omega,Int.sub_self]
      exact aBI ht (Rx9 0)
     ·rw[if_neg (λc=>c3 c.2),aBI ht (by omega)]
      omega
    rw[e]
    exact⟨Rx9 _,λz=>by omega⟩
   ·rw[if_neg c2,if_pos ⟨c1,by omega⟩,show min m v=m by omega]
    exact aHb ht (by omega) (by omega)
  ·rw[if_neg c1,if_neg (λc=>c1 c.1)]
   exact aHb ht h1 hv
theorem sum_set{l:List Int}{k:Nat}{x:Int}(hk:k < l.length):List.sum (l.set k (l.getD k 0+x))=List.sum l+x:=by
 induction l generalizing k with
 |nil=>simp at hk
 |cons a l ih=>
  cases k with
  |zero=>
   show(a+x)+List.sum l=a+List.sum l+x
   omega
  |succ k=>
   have:=ih (k:=k) (by simpa using hk)
   show a+List.sum (l.set k (l.getD k 0+x))=a+List.sum l+x
   rw[this]
   omega
theorem vO{lack:Int}{n:Nat}:∀{ts:List (List Int)}{outs:List Int}{w:Int},Rw4 n ts->outs.length=n->
  (ts.foldl (stp lack) (outs,w)).2=wOf lack ts w/\(ts.foldl (stp lack) (outs,w)).1.length=n/\List.sum (ts.foldl (stp lack) (outs,w)).1+wOf lack ts w=List.sum outs+w/\∀i,i < n->(ts.foldl (stp lack) (outs,w)).1.getD i 0=outs.getD i 0+yOf lack i ts w
 |[],outs,w,_,hl=>⟨rfl,hl,rfl,λi _=>by show outs.getD i 0=outs.getD i 0+0;omega⟩
 |t::ts,outs,w,h,hl=>by
  obtain⟨r,j,m,k,rfl,hk,m1,_,hu⟩:=h.hd
  rw[List.foldl_cons,aNg,aER]
  by_cases c:r<=lack/\0 < w
  ·rw[if_pos c,if_pos c]
   obtain⟨i1,i2,i3,i4⟩:=vO (lack:=lack) (ts:=ts) (outs:=outs.set k (outs.getD k 0+min m w)) (w:=w - min m w) h.tail (by rw[Tq9];exact hl)
   refine⟨i1,i2,?_,λi hi=>?_⟩
   ·rw[sum_set (by omega)] at i3
    show List.sum (ts.foldl (stp lack) (outs.set k (outs.getD k 0+min m w),w - min m w)).1+wOf lack ts (w - min m w)=List.sum outs+w
    omega
   ·rw[i4 i hi,aIl (by omega),uH,if_pos c]
    by_cases z:k=i
    ·subst z
     rw[if_pos rfl,if_pos rfl]
     omega
    ·rw[if_neg z,if_neg (by omega)]
     omega
  ·rw[if_neg c,if_neg c]
   obtain⟨i1,i2,i3,i4⟩:=vO (lack:=lack) (ts:=ts) (outs:=outs) (w:=w) h.tail hl
   refine⟨i1,i2,i3,λi hi=>?_⟩
   rw[i4 i hi,uH,if_neg c]
def qL(ms:List MS):Int:=List.sum (ms.map (·.least))
def wL(ms:List MS)(want lack:Int):Int:=wOf lack (jD (jP ms)) (want - qL ms)
theorem aNk(ms:List MS)(want lack:Int):shF ms want lack=(jD (jP ms)).foldl (stp lack) (ms.map (·.least),want - qL ms):=by
 unfold shF sY qL
 rw[Qv9]
theorem aOQ{ms:List MS}(g:∀m∈ms,m.Good)(want lack:Int):List.sum (shF ms want lack).1+wL ms want lack=want:=by
 have:=(vO (lack:=lack) (ts:=jD (jP ms)) (outs:=ms.map (·.least)) (w:=want - qL ms) (vN g) (by rw[bL])).2.2.1
 rw[<-aNk] at this
 unfold wL
 have e:List.sum (ms.map (·.least))=qL ms:=rfl
 omega
theorem aRN{ms:List MS}(g:∀m∈ms,m.Good)(want lack:Int){i:Nat}{m:MS}(h:ms[i]?=some m):(shF ms want lack).1.getD i 0=m.least+yOf lack i (jD (jP ms)) (want - qL ms):=by
 have li:=(qM.mp h).1
 have:=(vO (lack:=lack) (ts:=jD (jP ms)) (outs:=ms.map (·.least)) (w:=want - qL ms) (vN g) (by rw[bL])).2.2.2 i li
 rw[<-aNk] at this
 rw[this]
 congr 1
 rw[Qp9,pG,h]
 rfl
def aCI(p:Int)(m:MS):Int:=p*m.least+gn p m.pieces
def v7(p:Int)(ms:List MS):Int:=List.sum (ms.map (aCI p))
theorem aNl{f g:Nat->Int}:∀{n:Nat},(∀k,k < n->f k<=g k)->sumTo f n<=sumTo g n
 |0,_=>Rx9 _
 |n+1,h=>by
  have h1:=aNl (n:=n) λk hk=>h k (by omega)
  have h2:=h n (by omega)
  show sumTo f n+f n<=sumTo g n+g n
  omega
theorem aCa{f g:Nat->Int}:∀{n:Nat},(∀k,k < n->f k=g k)->sumTo f n=sumTo g n
 |0,_=>rfl
 |n+1,h=>by
  show sumTo f n+f n=sumTo g n+g n
  rw[aCa (n:=n) λk hk=>h k (by omega),h n (by omega)]
theorem aAN(l:List Int):∀n,n<=l.length->sumTo (λj=>l.getD j 0) n=List.sum (l.take n)
 |0,_=>rfl
 |n+1,h=>by
  have e:l[n]?=some l[n]:=eU (by omega)
  rw[take_snoc e,uF,<-aAN l n (by omega)]
  show sumTo _ n+l.getD n 0=_
  rw[Qp9,e]
  rfl
theorem aF2(p:Int)(f g:Nat->Int):∀n,sumTo (λj=>p*f j - g j) n=p*sumTo f n - sumTo g n
 |0=>by show(0:Int)=p*0 - 0;omega
 |n+1=>by
  show sumTo (λj=>p*f j - g j) n+(p*f n - g n)=p*(sumTo f n+f n) - (sumTo g n+g n)
  rw[aF2 p f g n,Int.mul_add]
  omega
theorem aOR{ms:List MS}{outs:List Int}(hl:outs.length=ms.length)(p:Int):sumTo (λj=>p*outs.getD j 0 - (ms.map (aCI p)).getD j 0) ms.length=p*List.sum outs - v7 p ms:=by
 rw[aF2,aAN outs ms.length (by omega),aAN (ms.map (aCI p)) ms.length (by rw[bL];omega),<-hl,Qv9,hl,Rw9 (by rw[bL];omega)]
 rfl
theorem aOS{ms:List MS}{p:Int}{j:Nat}{m:MS}(h:ms[j]?=some m):(ms.map (aCI p)).getD j 0=p*m.least+gn p m.pieces:=by
 rw[Qp9,pG,h]
 rfl
theorem aNm{ms:List MS}(g:∀m∈ms,m.Good){want lack p:Int}
  (h:∀i m,ms[i]?=some m->loA p m.pieces<=yOf lack i (jD (jP ms)) (want - qL ms)/\yOf lack i (jD (jP ms)) (want - qL ms)<=loA p m.pieces+eqA p m.pieces)
  (h1:0 < wL ms want lack->p=lack) (h2:wL ms want lack < 0->p=0):shC ms want lack=p*want - v7 p ms:=by
 have hl:=aDx ms want lack
 have hin:=aJp g want lack
 have e1:sumTo (tQ ms (shF ms want lack).1) ms.length=sumTo (λj=>p*(shF ms want lack).1.getD j 0 - (ms.map (aCI p)).getD j 0) ms.length:=aCa λj hj=>by
  have em:ms[j]?=some ms[j]:=eU hj
  have ey:=aRN g want lack em
  have eo:(shF ms want lack).1[j]?=some ((shF ms want lack).1[j]'(by omega)):=eU _
  have ed:(shF ms want lack).1.getD j 0=(shF ms want lack).1[j]'(by omega):=by rw[Qp9,eo];rfl
  have gm:=g _ (oH em)
  obtain⟨o0,o1⟩:=hin j _ _ em eo
  have hh:=h j _ em
  have b:=(best (p:=p) (ps:=(ms[j]).pieces) (left:=(shF ms want lack).1[j]'(by omega) - (ms[j]).least) gm.pieces.up' (by omega) (by omega)).2.mpr (by omega)
  rw[aNh em eo,aOS em,ed]
  rw[Ts9] at b
  omega
 have es:=aOQ g want lack
 unfold shC aOP
 rw[e1,aOR hl]
 rw[show want - List.sum (shF ms want lack).1=wL ms want lack by omega,show List.sum (shF ms want lack).1=want - wL ms want lack by omega,Ts9]
 by_cases z:0 < wL ms want lack
 ·rw[h1 z,show max (wL ms want lack) 0=wL ms want lack by omega]
  omega
 ·rw[show max (wL ms want lack) 0=0 by omega,Sq9]
  by_cases y:wL ms want lack < 0
  ·rw[h2 y]
   omega
  ·rw[show wL ms want lack=0 by omega,Sq9]
   omega
def fD(ms:List MS)(want lack:Int):Int:=if want=0 then 0 else shC ms want lack - shC ms (want - 1) lack
theorem aOT:∀{ps:List (Int×Int)},(∀t∈ps,0<=t.2)->gn 0 ps=0:=λh=>(aBn (p:=0) h).1
theorem aF3{ms:List MS}(g:∀m∈ms,m.Good):v7 0 ms=0:=by
 unfold v7
 induction ms with
 |nil=>rfl
 |cons m ms ih=>
  have gm:=g m (Qr9 ..)
  show aCI 0 m+List.sum (ms.map (aCI 0))=0
  rw[ih λx hx=>g x (zE _ hx)]
  unfold aCI
  rw[aOT λt ht=>(gm.pieces.pc t ht).2.2.1,Sz9]
  rfl
theorem aIo{ms:List MS}(g:∀m∈ms,m.Good){want lack:Int}(h:want - qL ms<=0):shC ms want lack=0:=by
 have e:=aNm g (want:=want) (lack:=lack) (p:=0) (λi m em=>?_) (λz=>?_) (λ_=>rfl)
 ·rw[e,aF3 g,Sz9]
  rfl
 ·have gm:=g m (oH em)
  rw[aBH (vN g) h,(aBn (p:=0) (ps:=m.pieces) λt ht=>(gm.pieces.pc t ht).2.2.1).2]
  have:=(aMR (p:=0) gm.pieces.up').2.1
  omega
 ·unfold wL at z
  rw[aBI (vN g) h] at z
  omega
theorem aKb{ms:List MS}(g:∀m∈ms,m.Good){want lack v:Int}(h:1<=want - qL ms)(hv:v=want\/v=want - 1):shC ms v lack=lam lack (jD (jP ms)) (want - qL ms)*v - v7 (lam lack (jD (jP ms)) (want - qL ms)) ms:=by
 have sw:=aHb (lack:=lack) (w:=want - qL ms) (v:=v - qL ms) (vN g) h (by omega)
 refine aNm g (λi m em=>?_) (λz=>?_) (λz=>?_)
 ·have s:=aNj (lack:=lack) (i:=i) (w:=want - qL ms) (v:=v - qL ms) (vN g) h (by omega)
  rw[aIn em,aIn em,aJ7,aJ8] at s
  exact s
 ·exact sw.2 z
 ·have:=sw.1
  unfold wL at z
  omega
theorem aF4{ms:List MS}(g:∀m∈ms,m.Good){want lack:Int}(w0:0<=want)(hk:0<=lack):0<=fD ms want lack/\fD ms want lack<=lack/\shC ms want lack=fD ms want lack*want - v7 (fD ms want lack) ms:=by
 have lst:0<=qL ms:=by
  unfold qL
  have:∀l:List MS,(∀m∈l,m.Good)->0<=List.sum (l.map (·.least)):=λl=>by
   induction l with
   |nil=>intro _;exact Rx9 _
   |cons m l ih=>
    intro h
    have h1:=ih λx hx=>h x (zE _ hx)
    have h2:=(h m (Qr9 ..)).least.1
    show 0<=m.least+List.sum (l.map (·.least))
    omega
  exact this ms g
 by_cases z:1<=want - qL ms
 ·have e1:=aKb (lack:=lack) g z (.inl rfl)
  have e2:=aKb (lack:=lack) g z (.inr rfl)
  have l1:=aHa (lack:=lack) (w:=want - qL ms) (vN g)
  have l0:0<=lam lack (jD (jP ms)) (want - qL ms):=aJq hk (vN g) λu hu=>by
   obtain⟨r,j,m,k,rfl,_,_,h3⟩:=(vN g).four u hu
   exact h3
  generalize lam lack (jD (jP ms)) (want - qL ms)=p at e1 e2 l1 l0
  have em:fD ms want lack=p:=by
   unfold fD
   rw[if_neg (by omega),e1,e2,Ts9]
   omega
  rw[em]
  exact⟨l0,l1,e1⟩
 ·have e1:=aIo (lack:=lack) g (want:=want) (by omega)
  have e2:=aIo (lack:=lack) g (want:=want - 1) (by omega)
  have em:fD ms want lack=0:=by
   unfold fD
   split
   ·rfl
   ·rw[e1,e2]
    rfl
  rw[em,e1,aF3 g,Sz9]
  exact⟨Rx9 _,hk,rfl⟩
def aDl(K:W.Frag)(C:Addr):Sp:=λvs H Q _=>∃(l:Addr) (ms:List MS) (want lack:Int),vs=[.ref l,.int want,.int lack]/\jC C H l ms/\(∀m∈ms,m.Good)/\ms.length<=7/\Am lack/\
 ∀H',aQ H H'->Q (.int (fD ms want lack)) H'
theorem aDm{P:Program}{w:World}{K:PySem.W.Frag}{mg:Str->Option Value}{base:Heap}{a:jX}(tx:Txt K mg a):bS P w K mg base gZ 5 a.lS a.lT ["machines","want","lack"] (aDl K a.aR):=by
 have pD:=aAd (P:=P) (w:=w) (base:=base) tx
 refine tx.qC.ok aCR (λvs H Q E h=>?_) (λcdv A outer s H vs Q E hr h=>?_)
 ·obtain⟨l,ms,want,lack,rfl,_⟩:=h
  rfl
 ·obtain⟨l,ms,want,lack,rfl ,hM,hg,hz,hk,k⟩:=h
  have hu:=kI hr
  refine aY (aE (bV (bA (r:=v5 K) (jF hu) (Z.pv 1) aD (bY _)) (aG (aN aD)) bD)
   (aG (aN (aO hU (aH (pD) (hr.mono (by decide)) (by rfl) tx.pB tx.lV.kp tx.pA .nil aZ (aA (Z.pv 0) (aA (Z.pv 1) (aA (Z.pv 2) aC)))) (aH (pD) (hr.mono (by decide)) (by rfl) tx.pB tx.lV.kp tx.pA .nil aZ (aA (Z.pv 0) (aA (aO hU (Z.pv 1) aD) (aA (Z.pv 2) aC)))))))) ?_
  refine aS (σ:=[some (.ref l),some (.int want),some (.int lack)]) rfl ?_
  unfold fD at k
  walk_at "w"
  refine cW (λh=>?_) (λh=>?_)
  ·rw[if_pos h] at k
   walk_at "w"
   exact k _ (aQ.refl _)
  ·rw[if_neg h] at k
   walk_at "w"
   refine⟨l,ms,want,lack,rfl,hM,hg,hz,hk,λH1 s1=>?_⟩
   walk_at "w"
   refine⟨l,ms,want - 1,lack,rfl,hM.tr s1.tr,hg,hz,hk,λH2 s2=>?_⟩
   walk_at "w"
   exact k _ (s1.trans s2)
def aHc(K:W.Frag):Sp:=λvs H Q _=>∃(p b:Addr) (x y:Int),vs=[.ref p,.ref b]/\cA H p/\H b=some (.lst [.int x,.int y])/\1<=x/\∀(n:Int) H',0<=n->cA H' p->cU p H H'->uC p H H'->Q (.int n) H'
theorem aHd{mg:Str->Option Value}{a:jX}(tx:Txt K mg a):bS P w K mg base gZ 2 a.rP a.rQ ["_law_hand","_law_by"] (aHc K):=by
 have bJ:=lZ (P:=P) (w:=w) (base:=base) tx
 refine tx.yH.ok aGC (λvs H Q E h=>?_) (λcdv A outer s H vs Q E hr h=>?_)
 ·obtain⟨p,b,x,y,rfl,_⟩:=h
  rfl
 ·obtain⟨p,b,x,y,rfl ,hh,hb,x0,k⟩:=h
  have hu:=kI hr
  refine aY (aG (aN (aO cM (aO cC (aJ (K':=K) (Z.pv 1) aD) (aH (bJ) (hr.mono (by decide)) (by rfl) tx.bR tx.bP.kp tx.bQ .nil aZ (aA (Z.pv 0) (aA aD aC)))) (aH (bJ) (hr.mono (by decide)) (by rfl) tx.bR tx.bP.kp tx.bQ .nil aZ (aA (Z.pv 0) (aA aD aC)))))) ?_
  refine aS (σ:=[some (.ref p),some (.ref b)]) rfl ?_
  walk_at "w"
  refine⟨p,_,rfl,hh,by decide,by decide,λr1 H1 a1 b1 h1 k1 q1=>?_⟩
  walk_at "w"
  refine⟨p,_,rfl,h1,by decide,by decide,λr2 H2 a2 b2 h2 k2 q2=>?_⟩
  walk_at "w"
  have z:=Rz9 (show 0<=x by omega) a1
  exact k _ _ (by omega) h2 (k1.trans k2) (q1.trans q2)
structure v8(m:MS):Prop where
 up:m.up=1
 down:m.down=1
 begin_:m.begin_=0
 run:m.run=0
 rest:m.rest=0
 least:m.least=0
theorem v8.tD{m:MS}(e:v8 m){s:Int×Int}(h:s.2=0)(on:Int):(My.tD m s.1 s.2 on).2=0:=by
 unfold My.tD
 rw[h,e.up,e.down]
 split
 ·show max ((0:Int) - 1) 0=0
  omega
 ·split <;> rfl
theorem v8.hc{m:MS}(e:v8 m)(s:Int×Int)(on:Int):aNb m s on=0:=by
 unfold aNb aQZ
 rw[e.begin_,e.run,e.rest,Sz9,Sz9,Sz9]
 rfl
theorem v8.gn{m:MS}(e:v8 m)(g:m.Good)(p:Int):0<=gnT m p:=by
 unfold gnT
 rw[e.least,Sq9]
 have:=aMQ (p:=p) g.pieces.up'
 omega
theorem v8.worth{m:MS}(e:v8 m)(g:m.Good)(qs:List Int):∀(k i:Nat) (s:Int×Int),i+k=qs.length->s.2=0->wF (Wr m qs) k i s = -List.sum ((qs.drop i).map (gnT m))
 |0,i,s,hl,_=>by
  rw[List.drop_of_length_le (by omega)]
  rfl
 |k+1,i,s,hl,h0=>by
  have hi:i < qs.length:=by omega
  rw[Sk9 hi]
  have eg:qs.getD i 0=qs[i]:=by rw[Qp9,eU hi];rfl
  show jJ (wF (Wr m qs) k (i+1)) (rwy m (qs.getD i 0) s) = -(gnT m qs[i] + List.sum ((qs.drop (i+1)).map (gnT m)))
  rw[eg]
  have ih:∀on,wF (Wr m qs) k (i+1) (My.tD m s.1 s.2 on) = -List.sum ((qs.drop (i+1)).map (gnT m)):=λon=>v8.worth e g qs k (i+1) _ (by omega) (e.tD h0 on)
  have nn:=e.gn g qs[i]
  symm
  refine aFW ⟨_,aDw.mpr ⟨1,.inr rfl,.inr h0,rfl⟩,?_⟩ (λw hw'=>?_)
  ·show hw m qs[i] s 1+wF (Wr m qs) k (i+1) (My.tD m s.1 s.2 1)=_
   rw[ih 1]
   unfold hw
   rw[e.hc]
   omega
  ·obtain⟨on,bon,_,rfl⟩:=aDw.mp hw'
   show _<=hw m qs[i] s on+wF (Wr m qs) k (i+1) (My.tD m s.1 s.2 on)
   rw[ih on]
   unfold hw
   rw[e.hc]
   rcases bon with rfl|rfl <;> omega
theorem aKc(qs:List Int):∀{ms:List MS}{ss:List (Int×Int)},ss.length=ms.length->(∀m∈ms,v8 m)->(∀m∈ms,m.Good)->(∀s∈ss,s.2=0)->List.sum (List.zipWith (λm s=>rwF m qs s) ms ss) = -List.sum (qs.map λq=>v7 q ms)
 |[],[],_,_,_,_=>by
  show 0 = -List.sum (qs.map λ_=>(0:Int))
  rw[aEP qs]
  rfl
 |[],_::_,h,_,_,_=>by cases h
 |_::_,[],h,_,_,_=>by cases h
 |m::ms,s::ss,hl,he,hg,hs=>by
  have ih:=aKc qs (ms:=ms) (ss:=ss) (by simpa using hl) (λx hx=>he x (zE _ hx)) (λx hx=>hg x (zE _ hx)) (λx hx=>hs x (zE _ hx))
  have e1:rwF m qs s = -List.sum (qs.map (gnT m)):=(he m (.head _)).worth (hg m (.head _)) qs qs.length 0 s (by omega) (hs s (.head _))
  have e2:∀l:List Int,List.sum (l.map λq=>v7 q (m::ms))=List.sum (l.map (gnT m))+List.sum (l.map λq=>v7 q ms):=λl=>by
   induction l with
   |nil=>rfl
   |cons q l ih=>
    show v7 q (m::ms)+List.sum (l.map λq=>v7 q (m::ms))=gnT m q+List.sum (l.map (gnT m))+(v7 q ms+List.sum (l.map λq=>v7 q ms))
    have e3:v7 q (m::ms)=gnT m q+v7 q ms:=rfl
    omega
  show rwF m qs s+List.sum (List.zipWith (λm s=>rwF m qs s) ms ss)=_
  have e4:=e2 qs
  omega
theorem aKd{ms:List MS}{lack:Int}(hg:∀m∈ms,m.Good)(hk:0<=lack):∀ws:List Int,(∀w∈ws,0<=w)->List.sum (List.zipWith (λp w=>p*w) (ws.map λw=>fD ms w lack) ws) - List.sum ((ws.map λw=>fD ms w lack).map λq=>v7 q ms)=List.sum (ws.map λw=>shC ms w lack)
 |[],_=>rfl
 |w::ws,h=>by
  have ih:=aKd hg hk ws λx hx=>h x (zE _ hx)
  have e:=(aF4 hg (want:=w) (lack:=lack) (h w (.head _)) hk).2.2
  show fD ms w lack*w+List.sum (List.zipWith (λp w=>p*w) (ws.map λw=>fD ms w lack) ws) - (v7 (fD ms w lack) ms+List.sum ((ws.map λw=>fD ms w lack).map λq=>v7 q ms))=shC ms w lack+List.sum (ws.map λw=>shC ms w lack)
  omega
def hrE(W:WS)(w:Int):Hr:=⟨W.specs.map λ_=>1,(shF W.specs w W.lack).1,0⟩
theorem aF5:∀{ms:List MS}{ss:List (Int×Int)}{os:List Int},(∀m∈ms,v8 m)->(∀s∈ss,s.2=0)->∀t∈yL ms ss os,t.2=0
 |m::ms,s::ss,o::os,he,hs,t,ht=>by
  rcases sZ.mp (show t∈tD m s.1 s.2 o::yL ms ss os from ht) with rfl|z
  ·exact(he m (.head _)).tD (hs s (.head _)) o
  ·exact aF5 (λx hx=>he x (zE _ hx)) (λx hx=>hs x (zE _ hx)) t z
 |[],_,_,_,_,t,ht=>by simp[yL] at ht
 |_::_,[],_,_,_,t,ht=>by simp[yL] at ht
 |_::_,_::_,[],_,_,t,ht=>by simp[yL] at ht
theorem aJr{W:WS}{w:Int}{j:Nat}{on:Int}(h:(hrE W w).ons[j]?=some on):on=1:=by
 have h':(W.specs.map λ_=>(1:Int))[j]?=some on:=h
 rw[pG] at h'
 obtain⟨m,_,rfl⟩:=Qw9.mp h'
 rfl
theorem aF6{W:WS}(hg:W.Good)(he:∀m∈W.specs,v8 m)(hno:W.store=none):∀(ws:List Int) (P:Ps),P.1.length=W.specs.length->(∀s∈P.1,s.2=0)->dQ W P (ws.map (hrE W))
 |[],_,_,_=>trivial
 |w::ws,P,hl,hs=>by
  have lo:(hrE W w).ons.length=W.specs.length:=bL ..
  refine⟨⟨lo,aDx W.specs w W.lack,λo ho=>?_,λj s o h1 _=>.inr (hs s (oH h1)),λj m on out h1 h2 h3=>?_,by unfold LvW;rw[hno];rfl⟩,aF6 hg he hno ws (nxt W P (hrE W w)) (uE hl lo) (aF5 he hs)⟩
  ·obtain⟨j,hj⟩:=Rh9 ho
   exact .inr (aJr hj)
  ·exact⟨λz=>absurd (aJr h2) (by omega),λ_=>aJp hg.specs w W.lack j m out h1 h3⟩
theorem zD{f:Nat->Int}:∀{n:Nat},(∀k,k < n->f k=0)->sumTo f n=0
 |0,_=>rfl
 |n+1,h=>by
  show sumTo f n+f n=0
  rw[zD λk hk=>h k (by omega),h n (by omega)]
  rfl
theorem aNn{W:WS}(he:∀m∈W.specs,v8 m)(hno:W.store=none)(P:Ps)(hl:P.1.length=W.specs.length)(w:Int):List.sum (aKZ W P w (hrE W w))=shC W.specs w W.lack:=by
 have lo:(hrE W w).ons.length=W.specs.length:=bL ..
 have at3:∀k,k < W.specs.length->∃m s,W.specs[k]?=some m/\v8 m/\P.1[k]?=some s/\(hrE W w).ons[k]?=some 1:=λk hk=>by
  have h1:W.specs[k]?=some W.specs[k]:=eU hk
  have h3:(hrE W w).ons[k]?=some ((hrE W w).ons[k]'(by omega)):=eU _
  exact⟨_,_,h1,he _ (oH h1),eU (by omega),by rw[h3,aJr h3]⟩
 have e1:sumTo (tB W.specs P.1 (hrE W w).ons) W.specs.length=0:=zD λk hk=>by
  obtain⟨m,s,h1,h2,h3,h4⟩:=at3 k hk
  rw[aPa h1 h3 h4,h2.begin_]
  split <;> rfl
 have e2:sumTo (tR W.specs (hrE W w).ons) W.specs.length=0:=zD λk hk=>by
  obtain⟨m,s,h1,h2,h3,h4⟩:=at3 k hk
  rw[aPb h1 h4,h2.run]
  split <;> rfl
 have e3:sumTo (tS W.specs (hrE W w).ons) W.specs.length=0:=zD λk hk=>by
  obtain⟨m,s,h1,h2,h3,h4⟩:=at3 k hk
  rw[aPc h1 h4,h2.rest]
  split <;> rfl
 have e4:sumTo (tM W.specs (hrE W w).ons (hrE W w).outs) W.specs.length=sumTo (tQ W.specs (shF W.specs w W.lack).1) W.specs.length:=aCa λk hk=>by
  obtain⟨m,s,h1,h2,h3,h4⟩:=at3 k hk
  have h5:(shF W.specs w W.lack).1[k]?=some ((shF W.specs w W.lack).1[k]'(by rw[aDx];exact hk)):=eU _
  rw[aPd h1 h4 (show(hrE W w).outs[k]?=_ from h5),if_pos rfl,aNh h1 h5]
 have e5:-(ovr W P.2 w (hrE W w))=w - List.sum (shF W.specs w W.lack).1:=by
  show -(List.sum (shF W.specs w W.lack).1 - w - drO W.store P.2 0)=_
  rw[hno]
  show -(List.sum (shF W.specs w W.lack).1 - w - 0)=_
  omega
 show sumTo (tB W.specs P.1 (hrE W w).ons) W.specs.length+(sumTo (tR W.specs (hrE W w).ons) W.specs.length+(sumTo (tS W.specs (hrE W w).ons) W.specs.length+(sumTo (tM W.specs (hrE W w).ons (hrE W w).outs) W.specs.length+(W.lack*max (-(ovr W P.2 w (hrE W w))) 0+0))))=_
 rw[e1,e2,e3,e4,e5]
 unfold shC aOP
 omega
theorem aF7{W:WS}(he:∀m∈W.specs,v8 m)(hno:W.store=none):∀(ws:List Int) (P:Ps),P.1.length=W.specs.length->List.sum ((rws W P ws (ws.map (hrE W))).map List.sum)=List.sum (ws.map λw=>shC W.specs w W.lack)
 |[],_,_=>rfl
 |w::ws,P,hl=>by
  show List.sum (aKZ W P w (hrE W w))+List.sum ((rws W (nxt W P (hrE W w)) ws (ws.map (hrE W))).map List.sum)=shC W.specs w W.lack+List.sum (ws.map λw=>shC W.specs w W.lack)
  rw[aNn he hno P hl w,aF7 he hno ws (nxt W P (hrE W w)) (uE hl (bL ..))]
def aHe(K:W.Frag):Sp:=λvs H Q _=>∃(p b:Addr) (x y:Int),vs=[.ref p,.ref b]/\cA H p/\H b=some (.lst [.int x,.int y])/\1<=x/\x<=50000000000/\1<=y/\y<=50000000000/\
 ∀(s:Addr) (m:MS) H',sW H' s m->m.Good->v8 m->cA H' p->cU p H H'->Q (.ref s) H'
theorem aHf{P:Program}{w:World}{K:PySem.W.Frag}{mg:Str->Option Value}{base:Heap}{a:jX}(tx:Txt K mg a):bS P w K mg base gZ 3 a.rR a.rS ["_law_hand","_law_by"] (aHe K):=by
 have aIp:=aGK (P:=P) (w:=w) (base:=base) tx
 refine tx.yI.ok aA3 (λvs H Q E h=>?_) (λcdv A outer s H vs Q E hr h=>?_)
 ·obtain⟨p,b,x,y,rfl,_⟩:=h
  rfl
 ·obtain⟨p,b,x,y,rfl ,hh,hb,x0,x1,y0,y1,k⟩:=h
  have hu:=kI hr
  refine aY (aE (aK (i:=2) aA3.nd (aH (aIp) (hr.mono (by decide)) (by rfl) tx.aCp tx.w9.kp tx.aCo .nil aZ (aA (Z.pv 0) (aA (Z.pv 1) (aA aD aC)))))
   (aG (aN (aJE aD aD aD aD aD aD (aJ (K':=K) (Z.pv 2) aD))))) ?_
  refine aS (σ:=[some (.ref p),some (.ref b),none]) rfl ?_
  walk_at "w"
  refine⟨p,b,x,y,1,rfl,hh,hb,x0,x1,y0,y1,by decide,by decide,λs m H1 hs hg _ _ h1 k1 ns=>?_⟩
  obtain⟨pl,h2,h3⟩:=hs.ex
  walk_at "w"
  intro t nt
  obtain⟨H2,i2,s2,g2⟩:=nw _ nt;rw[i2]
  walk_at "w"
  have am0:Am 0:=⟨by decide,by decide⟩
  exact k t ⟨1,1,0,0,0,0,m.pieces⟩ H2 ⟨pl,g2,h3.same s2⟩ ⟨(show(1:Int)<=1/\(1:Int)<=12 by decide),(show(1:Int)<=1/\(1:Int)<=12 by decide),am0,am0,am0,am0,hg.pieces⟩ ⟨rfl,rfl,rfl,rfl,rfl,rfl⟩ (h1.same s2) (k1.trans s2.keep)
def aHg(K:W.Frag)(t1 t2:Addr):Sp:=λvs H Q _=>∃(a:Addr) (ns:List Int),vs=[.ref a]/\bX K H a (ns.map V.int)/\ns.length<=63/\H t1=some (.ctb cS cT)/\H t2=some (.ctb gK gL)/\∀H',aQ H H'->Q (.bl true) H'
theorem aQ3{mg:Str->Option Value}{a:jX}(tx:Txt K mg a):bS P w K mg base gZ 16 a.aJO a.aJP ["_law_script"] (aHg K a.cH a.d9):=by
 have aHh:=aE8 (P:=P) (w:=w) (base:=base) tx
 have bJ:=lZ (P:=P) (w:=w) (base:=base) tx
 have aIq:=aHf (P:=P) (w:=w) (base:=base) tx
 have aAe:=aEm (P:=P) (w:=w) (base:=base) tx
 have aES:=aCV (P:=P) (w:=w) (base:=base) tx
 have aIr:=aGE (P:=P) (w:=w) (base:=base) tx
 have aIs:=aHd (P:=P) (w:=w) (base:=base) tx
 have aET:=aDm (P:=P) (w:=w) (base:=base) tx
 have aIt:=aGW (P:=P) (w:=w) (base:=base) tx
 have aHi:=aFh (P:=P) (w:=w) (base:=base) tx
 have aFs:=aEM (P:=P) (w:=w) (base:=base) tx
 have pD:=aAd (P:=P) (w:=w) (base:=base) tx
 have yS:=aBF (P:=P) (w:=w) (base:=base) tx
 refine tx.aO6.ok mT (λvs H Q E h=>?_) (λcdv A outer s H vs Q E hr h=>?_)
 ·obtain⟨ad,ns,rfl,_⟩:=h
  rfl
 ·obtain⟨ad,ns,rfl ,hS,hl,gt1,gt2,k⟩:=h
  have hu:=kI hr
  refine aY (aE (bW PassesOwn.never rfl (eW (by rfl) tx.gF (aA (aL (iI rfl) (by rfl) tx.rX uM (aA aD (aA (aL (yU rfl) (by rfl) tx.aAc aDN (aA (aL (rc:=wK K) dC (by rfl) tx.lX kL (aA (Z.pv 0) aC)) (aA aD aC))) aC))) aC)) (aI (i:=1) mT.nd) (aE (mL (i:=2) mT.nd rfl (Or.inr rfl) (aH (aIr) (hr.mono (by decide)) (by rfl) tx.aCn tx.w4.kp tx.aCm .nil aZ (aA (Z.pv 0) (aA (Z.pv 1) aC))))
   (aE (mL (i:=3) mT.nd rfl (Or.inr rfl) (aGm (aH (aAe) (hr.mono (by decide)) (by rfl) tx.sP tx.nO.kp tx.sO .nil aZ (aA (Z.pv 2) aC)) (aH (aAe) (hr.mono (by decide)) (by rfl) tx.sP tx.nO.kp tx.sO .nil aZ (aA (Z.pv 2) aC))))
   (aE (mL (i:=4) mT.nd rfl (Or.inr rfl) (bU (k:=1) (idx:=[3,2]) (N:=["_law_k","_law_by","_law_hand"]) (cR (sc:=aF tO) (NX:=["_law_script","_law_place","_law_hand","_law_by","_law_machines","_law_works","_law_position","_law_hours","_law_wants","_law_prices","_law_due","_law_ons","_law_plan"]) rfl rfl rfl (by decide +kernel)) rfl (eW (by rfl) tx.gF (aA (aH (bJ) (hr.mono (by decide)) (by rfl) tx.bR tx.bP.kp tx.bQ .nil aZ (aA (Z.pv 2) (aA aD aC))) aC)) (λ_ _ _ _=>(aI (i:=0) (show(["_law_k","_law_by","_law_hand"]:List Str).Nodup by decide +kernel))) (dJ (by decide)) (λ_ _ _ _=>bT) (λ_ _ _ _=>(aH (aES) (hr.mono (by decide)) (by rfl) tx.xB tx.pP.kp tx.xA .nil aZ (aA (aH (aIq) (hr.mono (by decide)) (by rfl) tx.aCB tx.yI.kp tx.aCA .nil aZ (aA (Z.pv 2) (aA (Z.pv 1) aC))) aC)))))
   (aE (mL (i:=5) mT.nd rfl (Or.inr rfl) (aCe tx.aJS (aHh) (hr.mono (by decide)) (by rfl) tx.aJR tx.aA9 .nil aZ (aA (Z.pv 4) (aA eE (aA (aO cC (aJ (K':=K) (Z.pv 3) aD) (aH (bJ) (hr.mono (by decide)) (by rfl) tx.bR tx.bP.kp tx.bQ .nil aZ (aA (Z.pv 2) (aA aD aC)))) aC)))))
   (aE (aK (i:=6) mT.nd (jR (cZ (rc:=aBU K) y7 (by rfl) tx.nQ wJ (aA (bU (k:=1) (idx:=[2]) (N:=["_law_machine_here","_law_hand"]) (cR (sc:=aF tO) (NX:=["_law_script","_law_place","_law_hand","_law_by","_law_machines","_law_works","_law_position","_law_hours","_law_wants","_law_prices","_law_due","_law_ons","_law_plan"]) rfl rfl rfl (by decide +kernel)) rfl (bO (K':=K) (Z.pv 4)) (λ_ _ _ _=>(aI (i:=0) (show(["_law_machine_here","_law_hand"]:List Str).Nodup by decide +kernel))) (dJ (by decide)) (λ_ _ _ _=>bT) (λ_ _ _ _=>(jR (aH (bJ) (hr.mono (by decide)) (by rfl) tx.bR tx.bP.kp tx.bQ .nil aZ (aA (Z.pv 1) (aA aD aC))) aD))) aC)) aD))
   (aE (aK (i:=7) mT.nd (aJ (K':=K) (aGm (aH (bJ) (hr.mono (by decide)) (by rfl) tx.bR tx.bP.kp tx.bQ .nil aZ (aA (Z.pv 2) (aA aD aC))) aD) (aO aF9 (aH (bJ) (hr.mono (by decide)) (by rfl) tx.bR tx.bP.kp tx.bQ .nil aZ (aA (Z.pv 2) (aA aD aC))) aD)))
   (aE (mM (k:=1) (idx:=[3,2]) (N:=["_law_hour","_law_by","_law_hand"]) (i:=8) mT.nd rfl (Or.inl rfl) (cR (sc:=aF tO) (NX:=["_law_script","_law_place","_law_hand","_law_by","_law_machines","_law_works","_law_position","_law_hours","_law_wants","_law_prices","_law_due","_law_ons","_law_plan"]) rfl rfl rfl (by decide +kernel)) rfl (eW (by rfl) tx.gF (aA (Z.pv 7) aC)) (λ_ _ _ _=>(aI (i:=0) (show(["_law_hour","_law_by","_law_hand"]:List Str).Nodup by decide +kernel))) (dJ (by decide)) (λ_ _ _ _=>bT) (λ_ _ _ _=>(aH (aIs) (hr.mono (by decide)) (by rfl) tx.aCz tx.yH.kp tx.aCy .nil aZ (aA (Z.pv 2) (aA (Z.pv 1) aC)))))
   (aE (mM (k:=1) (idx:=[4,5]) (N:=["_law_want_here","_law_machines","_law_works"]) (i:=9) mT.nd rfl (Or.inl rfl) (cR (sc:=aF tO) (NX:=["_law_script","_law_place","_law_hand","_law_by","_law_machines","_law_works","_law_position","_law_hours","_law_wants","_law_prices","_law_due","_law_ons","_law_plan"]) rfl rfl rfl (by decide +kernel)) rfl (bO (K':=K) (Z.pv 8)) (λ_ _ _ _=>(aI (i:=0) (show(["_law_want_here","_law_machines","_law_works"]:List Str).Nodup by decide +kernel))) (dJ (by decide)) (λ_ _ _ _=>bT) (λ_ _ _ _=>(aH (aET) (hr.mono (by decide)) (by rfl) tx.yG tx.qC.kp tx.yF .nil aZ (aA (Z.pv 1) (aA (Z.pv 0) (aA (aU (K':=K) (Z.pv 2) rfl) aC))))))
   (aE (aK (i:=10) mT.nd (aL (rc:=aAX K) (eC rfl) (by rfl) tx.lY kM (aA (bU (k:=1) (idx:=[4,5]) (N:=["_law_want_here","_law_machines","_law_works"]) (cR (sc:=aF tO) (NX:=["_law_script","_law_place","_law_hand","_law_by","_law_machines","_law_works","_law_position","_law_hours","_law_wants","_law_prices","_law_due","_law_ons","_law_plan"]) rfl rfl rfl (by decide +kernel)) rfl (bO (K':=K) (Z.pv 8)) (λ_ _ _ _=>(aI (i:=0) (show(["_law_want_here","_law_machines","_law_works"]:List Str).Nodup by decide +kernel))) (dJ (by decide)) (λ_ _ _ _=>bT) (λ_ _ _ _=>(aH (pD) (hr.mono (by decide)) (by rfl) tx.pB tx.lV.kp tx.pA .nil aZ (aA (Z.pv 1) (aA (Z.pv 0) (aA (aU (K':=K) (Z.pv 2) rfl) aC)))))) aC)))
   (aE (bV (bA (r:=aKy K) (aGh hu) (aH (aFs) (hr.mono (by decide)) (by rfl) tx.z0 tx.sV.kp tx.zZ .nil aZ (aA (Z.pv 5) (aA (Z.pv 6) (aA (Z.pv 8) (aA (Z.pv 9) aC))))) (Z.pv 10) (bY _)) (aG (aN pJ)) bD)
   (aE (mL (i:=11) mT.nd rfl (Or.inr rfl) (cZ (rc:=aBU K) y7 (by rfl) tx.nQ wJ (aA (bU (k:=1) (idx:=[]) (N:=["_law_machine_here"]) (cR (sc:=aF tO) (NX:=["_law_script","_law_place","_law_hand","_law_by","_law_machines","_law_works","_law_position","_law_hours","_law_wants","_law_prices","_law_due","_law_ons","_law_plan"]) rfl rfl rfl (by decide +kernel)) rfl (bO (K':=K) (Z.pv 4)) (λ_ _ _ _=>(aI (i:=0) (show(["_law_machine_here"]:List Str).Nodup by decide +kernel))) (dJ (by decide)) (λ_ _ _ _=>bT) (λ_ _ _ _=>aD)) aC)))
   (aE (mM (k:=1) (idx:=[4,11,5]) (N:=["_law_want_here","_law_machines","_law_ons","_law_works"]) (i:=12) mT.nd rfl (Or.inl rfl) (cR (sc:=aF tO) (NX:=["_law_script","_law_place","_law_hand","_law_by","_law_machines","_law_works","_law_position","_law_hours","_law_wants","_law_prices","_law_due","_law_ons","_law_plan"]) rfl rfl rfl (by decide +kernel)) rfl (bO (K':=K) (Z.pv 8)) (λ_ _ _ _=>(aI (i:=0) (show(["_law_want_here","_law_machines","_law_ons","_law_works"]:List Str).Nodup by decide +kernel))) (dJ (by decide)) (λ_ _ _ _=>bT) (λ_ _ _ _=>(yY (Z.pv 2) (cZ (rc:=aBU K) y7 (by rfl) tx.nQ wJ (aA (aJ (K':=K) (aH (yS) (hr.mono (by decide)) (by rfl) tx.yC tx.rW.kp tx.yB .nil aZ (aA (Z.pv 1) (aA (Z.pv 0) (aA (aU (K':=K) (Z.pv 3) rfl) aC)))) aD) aC)) aD)))
   (aG (bV (kO (wQ (bA aBS (aH (aHi) (hr.mono (by decide)) (by rfl) tx.aBf tx.vE.kp tx.aBe .nil aZ (aA (Z.pv 5) (aA (Z.pv 6) (aA (Z.pv 8) (aA (Z.pv 12) aC))))) eE (bY _)) (tH (bA (r:=aKy K) (aGh hu) (aH (aIt) (hr.mono (by decide)) (by rfl) tx.aCt tx.xN.kp tx.aCs .nil aZ (aA (Z.pv 5) (aA (Z.pv 6) (aA (Z.pv 8) (aA (Z.pv 12) aC))))) (Z.pv 10) (bY _))))) (aG (aN pJ)) bD)))))))))))))))
   (aG (aN pJ))) ?_
  have hTb:aK4 H _ _:=⟨gt1,gt2⟩
  refine aS (σ:=[some (.ref ad),none,none,none,none,none,none,none,none,none,none,none,none]) rfl ?_
  walk_at "w"
  refine⟨by omega,by omega,?_⟩
  refine wM (λi σ' H'=>aQ H H'/\∃(z1 z2 z3 z4 z5 z6 z7 z8 z9 z10 z11 z12:Option V),σ'=[some (.ref ad),z1,z2,z3,z4,z5,z6,z7,z8,z9,z10,z11,z12]) ⟨aQ.refl _,_,_,_,_,_,_,_,_,_,_,_,_,rfl⟩ (λi σ' H' hi ⟨s0,z1,z2,z3,z4,z5,z6,z7,z8,z9,z10,z11,z12,e⟩=>?_) (λσ' H' ⟨s0,z1,z2,z3,z4,z5,z6,z7,z8,z9,z10,z11,z12,e⟩=>?_)
  ·subst e
   walk_at "w"
   refine⟨ad,ns,_,rfl,aQ.seq s0 hS,hl,by omega,λp H1 s1 np hh=>?_⟩
   have npH:H p=none:=s0.free np
   have S1:=s0.trans s1
   walk_at "w"
   refine⟨p,rfl,hh,λx H2 x0 x1 h2 k2 _=>?_⟩
   walk_at "w"
   refine⟨p,rfl,h2,λy H3 y0 y1 h3 k3 _=>?_⟩
   walk_at "w"
   intro b nb
   obtain⟨H4,i4,s4,g4⟩:=nw _ nb;rw[i4]
   have h4:=h3.same s4
   have bp:b≠p:=h3.aRM nb
   have K4:cU p H1 H4:=k2.trans (k3.trans s4.keep)
   walk_at "w"
   refine⟨p,_,rfl,h4,by decide,by decide,λn5 H5 a5 b5 h5 k5 _=>?_⟩
   have g5:=k5 _ _ g4 bp
   walk_at "w"
   refine⟨by omega,by omega,?_⟩
   refine aAg (λi us H'=>cA H' p/\cU p H5 H'/\∃xs ms,us=xs.map V.ref/\ms.length=i/\RL (cO a.aR H') xs ms/\∀m∈ms,m.Good/\v8 m) ⟨h5,λ_ _ e _=>e,[],[],rfl,rfl,RL.nil,λm h=>by cases h⟩ (cK (by omega)) (λi us H' hi ⟨_,_,xs,ms,e1,e2,e3,_⟩=>by rw[e1,bL,e3.len];omega) (λi us H6 hi ⟨h6,k6,xs,ms,e1,e2,e3,e4⟩=>?_) (λus H6 ⟨h6,k6,xs,ms,e1,e2,e3,e4⟩=>?_)
   ·have g6:=k6 _ _ g5 bp
    walk_at "w"
    refine⟨p,b,x,y,rfl,h6,g6,x0,x1,y0,y1,λs m H7 hs hg he h7 k7=>?_⟩
    walk_at "w"
    refine⟨s,m,rfl,hs,hg,λxm H8 hM s8 nx=>?_⟩
    refine⟨h7.same s8,k6.trans (k7.trans s8.keep),xs ++ [xm],ms ++ [m],by rw[e1,oA];rfl,by rw[sI,e2];rfl,(e3.imp λa y z=>(z.keep h6 k7).same s8).snoc hM,λm' hm=>?_⟩
    rcases Rk9.mp hm with z|z
    ·exact e4 m' z
    ·rw[Rb9.mp z];exact⟨hg,he⟩
   subst e1
   have hms6:ms.length<=6:=by omega
   have hgs:∀m∈ms,m.Good:=λm hm=>(e4 m hm).1
   have hes:∀m∈ms,v8 m:=λm hm=>(e4 m hm).2
   have lxs:=e3.len
   intro lm nlm
   obtain⟨H7,i7,s7,g7⟩:=nw _ nlm;rw[i7]
   have h7:=h6.same s7
   have hM7:jC a.aR H7 lm ms:=⟨xs,g7,e3.imp λa y z=>z.same s7⟩
   have K7:cU p H4 H7:=k5.trans (k6.trans s7.keep)
   have g47:=K7 _ _ g4 bp
   walk_at "w"
   refine⟨p,_,rfl,h7,by decide,by decide,λr8 H8 a8 b8 h8 k8 _=>?_⟩
   have k0:0<=y*r8:=Rz9 (by omega) a8
   have k1:y*r8<=1000000000000:=Rv9 (Re9 (show r8<=11 by omega) (by omega)) (by omega)
   walk_at "w"
   intro w dx nwx nd hd
   obtain⟨J,i9,sj,j⟩:=nwi (C:=a.cJ) nwx nd hd;rw[i9]
   have hM8:=hM7.tr (h7.tr k8)
   obtain⟨W,hW⟩ : ∃W:WS,W=⟨ms,none,y*r8,x,y,0⟩:=⟨_,rfl⟩
   have hWs:W.specs=ms:=by rw[hW]
   have hno:W.store=none:=by rw[hW]
   have hWl:W.lack=y*r8:=by rw[hW]
   have hg:W.Good:=by
    rw[hW]
    exact⟨hgs,hms6,(λs z=>by cases z),⟨k0,k1⟩,⟨x0,x1⟩,⟨y0,y1⟩,.inl rfl⟩
   rw[<-hWl]
   refine⟨w,dx,lm,.non,W,rfl,j,(by rw[hWs];exact hM8.tr sj.tr),(by rw[hno];rfl),(by rw[hWs];exact hms6),hg.lack,λH9 hw kx=>⟨rfl,?_⟩⟩
   have s89:aQ H8 H9:=λb o e=>kx _ _ (sj _ _ e) (bM nwx e)
   have h9:=h8.same s89
   have hM9:=hM8.tr s89.tr
   have T79:Tr H7 H9:=(h7.tr k8).trans s89.tr
   have g79:=T79 _ _ g7 pC
   have lmp:lm≠p:=h9.aO7 g79
   have K9:cU p H4 H9:=K7.trans (k8.trans s89.keep)
   have g49:=K9 _ _ g4 bp
   walk_at "w"
   refine j8 (bX.of g79) ?_
   refine eB (xs:=xs.map V.ref) (λi us H'=>cA H' p/\cU p H9 H'/\∃ts ss,us=ts.map V.ref/\ss.length=i/\RL (StA H') ts ss/\∀s∈ss,Bit s.1/\s.2=0) ⟨h9,λ_ _ e _=>e,[],[],rfl,rfl,RL.nil,λs h=>by cases h⟩ (cK (by rw[bL];omega))
    (λi us H' hi ⟨_,kA,ts,ss,e1,e2,e3,_⟩=>⟨bX.of (kA _ _ g79 lmp),by rw[e1,bL,e3.len];omega⟩) (λi v us HA hv ⟨hA,kA,ts,ss,e1,e2,e3,e4⟩=>?_) (λus HA ⟨hA,kA,ts,ss,e1,e2,e3,e4⟩=>?_)
   ·walk_at "w"
    refine⟨p,_,rfl,hA,by decide,by decide,λr HB aB bB hB kB _=>?_⟩
    walk_at "w"
    intro T nT
    obtain⟨HC,iC,sC,gC⟩:=nw _ nT;rw[iC]
    refine⟨hB.same sC,kA.trans (kB.trans sC.keep),ts ++ [T],ss ++ [(r,0)],by rw[e1,oA];rfl,by rw[sI,e2];rfl,(e3.imp λa x z=>sC.tk _ _ ((hA.tr kB).tk _ _ z)).snoc gC,λs hs=>?_⟩
    rcases Rk9.mp hs with z|z
    ·exact e4 s z
    ·rw[Rb9.mp z];exact⟨by unfold Bit;show r=0\/r=1;omega,rfl⟩
   subst e1
   rw[bL,lxs] at e2
   intro l1 n1
   obtain⟨HB,iB,sB,gB⟩:=nw _ n1;rw[iB]
   walk_at "w"
   refine aDt (bX.of gB) ?_
   intro T nT
   obtain⟨HC,iC,sC,gC⟩:=nw _ nT;rw[iC]
   walk_at "w"
   intro a1 na1
   obtain⟨HD,iD,sD,gD⟩:=nw _ na1;rw[iD]
   have sAD:=sB.trans (sC.trans sD)
   have hP:mG HD a1 (ss,0):=⟨T,gD,ts,sD _ _ gC,e3.imp λa x z=>sAD _ _ z⟩
   have hPo:vW W (ss,0):=⟨by rw[hWs];exact e2,λs hs=>⟨(e4 s hs).1,by rw[(e4 s hs).2];omega⟩,by unfold yM;rw[hno]⟩
   have hPB:aQ2 W (ss,0):=⟨hPo,λj m s h1 h2=>by
    have:=e4 s (oH h2)
    have gm:=hg.specs m (oH h1)
    rcases this.1 with z|z
    ·exact .inr ⟨z,by omega,by omega⟩
    ·exact .inl ⟨z,by omega,by have:=gm.up.1;omega⟩⟩
   have hdue:∀s∈ss,s.2=0:=λs hs=>(e4 s hs).2
   have hD:=hA.same sAD
   have K9D:cU p H9 HD:=kA.trans sAD.keep
   walk_at "w"
   refine⟨p,_,rfl,hD,by decide,by decide,λr10 H10 a10 b10 h10 k10 _=>?_⟩
   walk_at "w"
   intro l11 nl11
   obtain⟨H11,i11,s11,g11⟩:=nw _ nl11;rw[i11]
   have l11p:l11≠p:=h10.aRM nl11
   have h11:=h10.same s11
   walk_at "w"
   refine⟨p,_,rfl,h11,by decide,by decide,λr12 H12 a12 b12 h12 k12 _=>?_⟩
   have g12:=k12 _ _ g11 l11p
   obtain⟨nh,hnh,nh48⟩ : ∃m:Nat,atI [V.int r10,.int 48] (r12 / 7)=some (.int (m:Int))/\m<=48:=by
    obtain⟨m,rfl⟩:=Int.eq_ofNat_of_zero_le a10
    have:r12 / 7=0\/r12 / 7=1:=by omega
    rcases this with e|e <;> rw[e]
    ·exact⟨m,rfl,by omega⟩
    ·exact⟨48,rfl,by omega⟩
   have KD12:cU p HD H12:=k10.trans (s11.keep.trans k12)
   have K912:cU p H9 H12:=K9D.trans KD12
   have g412:=K912 _ _ g49 bp
   walk_at "w"
   refine⟨by omega,by omega,?_⟩
   rw[Rm9]
   refine aAg (λi us H'=>cA H' p/\cU p H12 H'/\∃ws:List Int,us=ws.map V.int/\ws.length=i/\∀n∈ws,0<=n) ⟨h12,λ_ _ e _=>e,[],rfl,rfl,λn h=>by cases h⟩ (cK (by omega)) (λi us H' hi ⟨_,_,ps,e1,e2,_⟩=>by rw[e1,bL];omega) (λi us H' hi ⟨h6,k6,ws,e1,e2,e3⟩=>?_) (λus H13 ⟨h13,k13,ws,f1,f2,f3⟩=>?_)
   ·have g6:=k6 _ _ g412 bp
    walk_at "w"
    refine⟨p,b,x,y,rfl,h6,g6,x0,λw' H7 w0 h7 k7 _=>?_⟩
    refine⟨h7,k6.trans k7,ws ++ [w'],by rw[e1,oA];rfl,by rw[sI,e2];rfl,λn hn=>?_⟩
    rcases Rk9.mp hn with z|z
    ·exact e3 n z
    ·rw[Rb9.mp z];exact w0
   subst f1
   intro u nu
   obtain⟨H14,i14,s14,g14⟩:=nw _ nu;rw[i14]
   have K914:cU p H9 H14:=K912.trans (k13.trans s14.keep)
   have TD14:Tr HD H14:=(hD.tr KD12).trans ((h12.tr k13).trans s14.tr)
   have T914:Tr H9 H14:=h9.tr K914
   have hw14:=hw.tr T914
   have hM14:jC a.aR H14 lm ms:=hM9.tr T914
   have hP14:=hP.tk TD14.tk
   obtain⟨dx',lm',st',gw,_,_⟩:=id hw14.ex
   have glm:=T914 _ _ g79 pC
   have lws:ws.length<=48:=by omega
   have S14:aQ H H14:=aJk npH S1 (K4.trans (K9.trans K914))
   walk_at "w"
   refine j8 (bX.of g14) ?_
   refine eB (xs:=ws.map V.int) (λi us H'=>aQ H14 H'/\us=((ws.take i).map λw=>fD ms w W.lack).map V.int) ⟨aQ.refl _,rfl⟩ (cK (by rw[bL];omega))
    (λi us H' hi ⟨sA,e1⟩=>⟨bX.of (sA _ _ g14),by rw[e1,bL,bL,Qz9];omega⟩) (λi v us HA' hv ⟨sA,e1⟩=>?_) (λus H15 ⟨s15,e1⟩=>?_)
   ·obtain⟨wn,ew,rfl⟩:=gG hv
    have gwA:=sA _ _ gw
    walk_at "w"
    refine bZ gwA tx.dA tx.jB rfl ?_
    walk_at "w"
    refine⟨lm,ms,wn,W.lack,rfl,hM14.tr sA.tr,hgs,by omega,hg.lack,λHB' sB'=>⟨sA.trans sB',?_⟩⟩
    rw[e1,take_snoc ew,oA,oA]
    rfl
   subst e1
   rw[bL,Qv9]
   intro q nq
   obtain⟨H16,i16,s16,g16⟩:=nw _ nq;rw[i16]
   have S1416:=s15.trans s16
   have g1416:=S1416 _ _ g14
   walk_at "w"
   refine j8 (bX.of g1416) ?_
   refine eB (xs:=ws.map V.int) (λi us H'=>aQ H16 H'/\us=((ws.take i).map λw=>shC ms w W.lack).map V.int) ⟨aQ.refl _,rfl⟩ (cK (by rw[bL];omega))
    (λi us H' hi ⟨sA,e1⟩=>⟨bX.of (sA _ _ g1416),by rw[e1,bL,bL,Qz9];omega⟩) (λi v us HA' hv ⟨sA,e1⟩=>?_) (λus H17 ⟨s17,e1⟩=>?_)
   ·obtain⟨wn,ew,rfl⟩:=gG hv
    have gwA:=(S1416.trans sA) _ _ gw
    walk_at "w"
    refine bZ gwA tx.dA tx.jB rfl ?_
    walk_at "w"
    refine⟨lm,ms,wn,W.lack,rfl,hM14.tr (S1416.trans sA).tr,hgs,by omega,hg.lack,λHB' sB'=>⟨sA.trans sB',?_⟩⟩
    rw[e1,take_snoc ew,oA,oA]
    rfl
   subst e1
   rw[bL,Qv9]
   intro l18 n18
   obtain⟨H18,i18,s18,g18⟩:=nw _ n18;rw[i18]
   have S1618:=s17.trans s18
   have S1418:=S1416.trans S1618
   walk_at "w"
   refine nV (bX.of g18) ?_
   walk_at "w"
   have hqa:∀n∈ws.map λw=>fD ms w W.lack,Am n:=λn hn=>by
    obtain⟨w',hw',rfl⟩:=Qy9.mp hn
    have mo:=aF4 hgs (f3 w' hw') hg.lack.1
    exact⟨mo.1,Rv9 mo.2.1 hg.lack.2⟩
   refine⟨w,W,a1,(ss,0),u,ws,q,_,rfl,hw14.tr S1418.tr,hg,hno,hP14.tk S1418.tk,hPB,S1418 _ _ g14,S1618 _ _ g16,by rw[bL],hqa,by rw[bL];exact lws,hTb.same (S14.trans S1418),λH19 s19=>?_⟩
   have eb:pbF W (ss,0) ws (ws.map λw=>fD ms w W.lack)=List.sum (ws.map λw=>shC ms w W.lack):=by
    unfold pbF wsF lmF
    rw[hWs]
    have e1:=aKc (ws.map λw=>fD ms w W.lack) (ms:=ms) (ss:=ss) e2 hes hgs hdue
    have e2':=aKd hgs hg.lack.1 ws f3
    show _+List.sum (List.zipWith (λm s=>rwF m (ws.map λw=>fD ms w W.lack) s) ms ss)=_
    omega
   rw[eb]
   walk_at "w"
   refine aAU (λz=>absurd rfl z) (λ_=>?_)
   have S1419:=S1418.trans s19
   have glm19:=S1419 _ _ glm
   walk_at "w"
   refine j8 (bX.of glm19) ?_
   refine eB (xs:=xs.map V.ref) (λi us H'=>H'=H19/\us=((ms.take i).map λ_=>(1:Int)).map V.int) ⟨rfl,rfl⟩ (cK (by rw[bL];omega))
    (λi us H' hi ⟨e0,e1⟩=>⟨by subst e0;exact bX.of glm19,by rw[e1,bL,bL,Qz9];omega⟩) (λi v us HA' hv ⟨e0,e1⟩=>?_) (λus H20 ⟨e0,e1⟩=>?_)
   ·subst e0
    have hi2:i < ms.length:=by
     have:=(qM.mp hv).1
     rw[bL,lxs] at this
     exact this
    walk_at "w"
    refine⟨rfl,?_⟩
    rw[e1,take_snoc (eU hi2),oA,oA]
    rfl
   subst e0 e1
   rw[bL,lxs,Qv9]
   intro l21 n21
   obtain⟨H21,i21,s21,g21⟩:=nw _ n21;rw[i21]
   walk_at "w"
   refine aDt (bX.of g21) ?_
   intro T22 n22
   obtain⟨H22,i22,s22,g22⟩:=nw _ n22;rw[i22]
   have S1422:=S1419.trans (s21.trans s22)
   have g1422:=S1422 _ _ g14
   walk_at "w"
   refine j8 (bX.of g1422) ?_
   refine eB (xs:=ws.map V.int) (λi us H'=>aQ H22 H'/\∃rs,us=rs.map V.ref/\RL (aH7 H') rs ((ws.take i).map (hrE W))) ⟨aQ.refl _,[],rfl,RL.nil⟩ (cK (by rw[bL];omega))
    (λi us H' hi ⟨sA,rs,e1,e2⟩=>⟨bX.of (sA _ _ g1422),by rw[e1,bL,e2.len,bL,Qz9];omega⟩) (λi v us HA' hv ⟨sA,rs,e1,e2⟩=>?_) (λus H23 ⟨s23,rs,e1,e2⟩=>?_)
   ·obtain⟨wn,ew,rfl⟩:=gG hv
    have gwA:=(S1422.trans sA) _ _ gw
    walk_at "w"
    refine bZ gwA tx.dA tx.jB rfl ?_
    walk_at "w"
    refine⟨lm,ms,wn,W.lack,rfl,hM14.tr (S1422.trans sA).tr,hgs,by omega,λT' lo HB' sB' nlo gT' glo=>?_⟩
    walk_at "w"
    refine aDt (bX.of glo) ?_
    intro T3 n3
    obtain⟨HC',iC',sC',gC'⟩:=nw _ n3;rw[iC']
    walk_at "w"
    intro T4 n4
    obtain⟨HD',iD',sD',gD'⟩:=nw _ n4;rw[iD']
    have sAll:=sB'.trans (sC'.trans sD')
    refine⟨sA.trans sAll,rs ++ [T4],by rw[e1,oA];rfl,?_⟩
    rw[take_snoc ew,oA]
    refine(e2.imp λa x z=>z.tk sAll.tk).snoc ⟨T22,T3,gD',?_,?_⟩
    ·show HD' T22=some (.tup ((W.specs.map λ_=>(1:Int)).map V.int))
     rw[hWs]
     exact(sA.trans sAll) _ _ g22
    ·show HD' T3=some (.tup ((shF W.specs wn W.lack).1.map V.int))
     rw[hWs]
     exact sD' _ _ gC'
   subst e1
   rw[bL,Qv9] at e2
   intro lp nlp
   obtain⟨H24,i24,s24,g24⟩:=nw _ nlp;rw[i24]
   have S1424:=S1422.trans (s23.trans s24)
   have hL:yK H24 lp (ws.map (hrE W)):=⟨rs,g24,e2.imp λa x z=>z.tk s24.tk⟩
   have hpo:dQ W (ss,0) (ws.map (hrE W)):=aF6 hg (by rw[hWs];exact hes) hno ws _ hPo.len hdue
   walk_at "w"
   refine⟨w,a1,u,lp,W,(ss,0),ws,_,rfl,hw14.tr S1424.tr,hg,hP14.tk S1424.tk,hPo,S1424 _ _ g14,hL,hpo.shape,λf v H25 s25 pf fv=>?_⟩
   have ef:=pf.uniq (.no (bL ..) hpo)
   subst ef
   replace fv:v=.non:=fv
   subst fv
   have S1425:=S1424.trans s25
   repeat walk_at "gs"
   refine⟨w,a1,u,lp,W,(ss,0),ws,_,rfl,hw14.tr S1425.tr,hg,hP14.tk S1425.tk,hPo,S1425 _ _ g14,hL.tr s25.tr,hpo,by rw[bL],by rw[bL];omega,λH26 s26=>?_⟩
   rw[aF7 (by rw[hWs];exact hes) hno ws (ss,0) hPo.len,hWs]
   walk_at "w"
   refine aAU (λz=>absurd rfl z) (λ_=>?_)
   walk_at "w"
   exact⟨S14.trans (S1425.trans s26),_,_,_,_,_,_,_,_,_,_,_,_,rfl⟩
  ·subst e
   walk_at "w"
   exact k _ s0
end My
namespace My
open PySem L2 L2.Z
theorem all_mk{l:PySem.W.OpenLaw}{w:World}{K:PySem.W.Frag}{h:Heap}{mg:Str->Option Value}{fa:Addr}(X:K.In h)(G:h.Ns mainGlobals mg)(hfa:mg "law" = some (.ref fa))
  {C0:Addr} {C1:Addr} {C2:Addr} {f0:Addr} {od0 an0:Option Addr} {sl0:Array (Option Value)} {oc0 kV0 dc0 pm0 cd0 ct0:Value} {f1:Addr} {od1 an1:Option Addr} {sl1:Array (Option Value)} {oc1 kV1 dc1 pm1 cd1 ct1:Value} {f2:Addr} {od2 an2:Option Addr} {sl2:Array (Option Value)} {oc2 kV2 dc2 pm2 cd2 ct2:Value} {f3:Addr} {od3 an3:Option Addr} {sl3:Array (Option Value)} {oc3 kV3 dc3 pm3 cd3 ct3:Value} {f4:Addr} {od4 an4:Option Addr} {sl4:Array (Option Value)} {oc4 kV4 dc4 pm4 cd4 ct4:Value} {f5:Addr} {od5 an5:Option Addr} {sl5:Array (Option Value)} {oc5 kV5 dc5 pm5 cd5 ct5:Value} {f6:Addr} {od6 an6:Option Addr} {sl6:Array (Option Value)} {oc6 kV6 dc6 pm6 cd6 ct6:Value} {f7:Addr} {od7 an7:Option Addr} {sl7:Array (Option Value)} {oc7 kV7 dc7 pm7 cd7 ct7:Value} {f8:Addr} {od8 an8:Option Addr} {sl8:Array (Option Value)} {oc8 kV8 dc8 pm8 cd8 ct8:Value} {f9:Addr} {od9 an9:Option Addr} {sl9:Array (Option Value)} {oc9 kV9 dc9 pm9 cd9 ct9:Value} {f10:Addr} {od10 an10:Option Addr} {sl10:Array (Option Value)} {oc10 kV10 dc10 pm10 cd10 ct10:Value} {f11:Addr} {od11 an11:Option Addr} {sl11:Array (Option Value)} {oc11 kV11 dc11 pm11 cd11 ct11:Value} {f12:Addr} {od12 an12:Option Addr} {sl12:Array (Option Value)} {oc12 kV12 dc12 pm12 cd12 ct12:Value} {f13:Addr} {od13 an13:Option Addr} {sl13:Array (Option Value)} {oc13 kV13 dc13 pm13 cd13 ct13:Value} {f14:Addr} {od14 an14:Option Addr} {sl14:Array (Option Value)} {oc14 kV14 dc14 pm14 cd14 ct14:Value} {f15:Addr} {od15 an15:Option Addr} {sl15:Array (Option Value)} {oc15 kV15 dc15 pm15 cd15 ct15:Value} {f16:Addr} {od16 an16:Option Addr} {sl16:Array (Option Value)} {oc16 kV16 dc16 pm16 cd16 ct16:Value} {f17:Addr} {od17 an17:Option Addr} {sl17:Array (Option Value)} {oc17 kV17 dc17 pm17 cd17 ct17:Value} {f18:Addr} {od18 an18:Option Addr} {sl18:Array (Option Value)} {oc18 kV18 dc18 pm18 cd18 ct18:Value} {f19:Addr} {od19 an19:Option Addr} {sl19:Array (Option Value)} {oc19 kV19 dc19 pm19 cd19 ct19:Value} {f20:Addr} {od20 an20:Option Addr} {sl20:Array (Option Value)} {oc20 kV20 dc20 pm20 cd20 ct20:Value} {f21:Addr} {od21 an21:Option Addr} {sl21:Array (Option Value)} {oc21 kV21 dc21 pm21 cd21 ct21:Value} {f22:Addr} {od22 an22:Option Addr} {sl22:Array (Option Value)} {oc22 kV22 dc22 pm22 cd22 ct22:Value} {f23:Addr} {od23 an23:Option Addr} {sl23:Array (Option Value)} {oc23 kV23 dc23 pm23 cd23 ct23:Value} {f24:Addr} {od24 an24:Option Addr} {sl24:Array (Option Value)} {oc24 kV24 dc24 pm24 cd24 ct24:Value} {f25:Addr} {od25 an25:Option Addr} {sl25:Array (Option Value)} {oc25 kV25 dc25 pm25 cd25 ct25:Value} {f26:Addr} {od26 an26:Option Addr} {sl26:Array (Option Value)} {oc26 kV26 dc26 pm26 cd26 ct26:Value} {f27:Addr} {od27 an27:Option Addr} {sl27:Array (Option Value)} {oc27 kV27 dc27 pm27 cd27 ct27:Value} {f28:Addr} {od28 an28:Option Addr} {sl28:Array (Option Value)} {oc28 kV28 dc28 pm28 cd28 ct28:Value} {f29:Addr} {od29 an29:Option Addr} {sl29:Array (Option Value)} {oc29 kV29 dc29 pm29 cd29 ct29:Value} {f30:Addr} {od30 an30:Option Addr} {sl30:Array (Option Value)} {oc30 kV30 dc30 pm30 cd30 ct30:Value} {f31:Addr} {od31 an31:Option Addr} {sl31:Array (Option Value)} {oc31 kV31 dc31 pm31 cd31 ct31:Value} {f32:Addr} {od32 an32:Option Addr} {sl32:Array (Option Value)} {oc32 kV32 dc32 pm32 cd32 ct32:Value} {f33:Addr} {od33 an33:Option Addr} {sl33:Array (Option Value)} {oc33 kV33 dc33 pm33 cd33 ct33:Value} {f34:Addr} {od34 an34:Option Addr} {sl34:Array (Option Value)} {oc34 kV34 dc34 pm34 cd34 ct34:Value} {f35:Addr} {od35 an35:Option Addr} {sl35:Array (Option Value)} {oc35 kV35 dc35 pm35 cd35 ct35:Value} {f36:Addr} {od36 an36:Option Addr} {sl36:Array (Option Value)} {oc36 kV36 dc36 pm36 cd36 ct36:Value} {f37:Addr} {od37 an37:Option Addr} {sl37:Array (Option Value)} {oc37 kV37 dc37 pm37 cd37 ct37:Value} {f38:Addr} {od38 an38:Option Addr} {sl38:Array (Option Value)} {oc38 kV38 dc38 pm38 cd38 ct38:Value} {f39:Addr} {od39 an39:Option Addr} {sl39:Array (Option Value)} {oc39 kV39 dc39 pm39 cd39 ct39:Value} {f40:Addr} {od40 an40:Option Addr} {sl40:Array (Option Value)} {oc40 kV40 dc40 pm40 cd40 ct40:Value} {f41:Addr} {od41 an41:Option Addr} {sl41:Array (Option Value)} {oc41 kV41 dc41 pm41 cd41 ct41:Value} {f42:Addr} {od42 an42:Option Addr} {sl42:Array (Option Value)} {oc42 kV42 dc42 pm42 cd42 ct42:Value} {f43:Addr} {od43 an43:Option Addr} {sl43:Array (Option Value)} {oc43 kV43 dc43 pm43 cd43 ct43:Value} {f44:Addr} {od44 an44:Option Addr} {sl44:Array (Option Value)} {oc44 kV44 dc44 pm44 cd44 ct44:Value} {f45:Addr} {od45 an45:Option Addr} {sl45:Array (Option Value)} {oc45 kV45 dc45 pm45 cd45 ct45:Value} {f46:Addr} {od46 an46:Option Addr} {sl46:Array (Option Value)} {oc46 kV46 dc46 pm46 cd46 ct46:Value} {f47:Addr} {od47 an47:Option Addr} {sl47:Array (Option Value)} {oc47 kV47 dc47 pm47 ct47:Value} {kc47 T47:Addr} {tod47:Option Addr} {tvs47:Array Value} {tsl47:Array (Option Value)} {f48:Addr} {od48 an48:Option Addr} {sl48:Array (Option Value)} {oc48 kV48 dc48 pm48 ct48:Value} {kc48 T48:Addr} {tod48:Option Addr} {tvs48:Array Value} {tsl48:Array (Option Value)} {f49:Addr} {od49 an49:Option Addr} {sl49:Array (Option Value)} {oc49 kV49 dc49 pm49 cd49 ct49:Value} {f50:Addr} {od50 an50:Option Addr} {sl50:Array (Option Value)} {oc50 kV50 dc50 pm50 cd50 ct50:Value} {f51:Addr} {od51 an51:Option Addr} {sl51:Array (Option Value)} {oc51 kV51 dc51 pm51 cd51 ct51:Value} {f52:Addr} {od52 an52:Option Addr} {sl52:Array (Option Value)} {oc52 kV52 dc52 pm52 cd52 ct52:Value} {f53:Addr} {od53 an53:Option Addr} {sl53:Array (Option Value)} {oc53 kV53 dc53 pm53 cd53 ct53:Value} {f54:Addr} {od54 an54:Option Addr} {sl54:Array (Option Value)} {oc54 kV54 dc54 pm54 cd54 ct54:Value} {f55:Addr} {od55 an55:Option Addr} {sl55:Array (Option Value)} {oc55 kV55 dc55 pm55 cd55 ct55:Value} {f56:Addr} {od56 an56:Option Addr} {sl56:Array (Option Value)} {oc56 kV56 dc56 pm56 cd56 ct56:Value} {f57:Addr} {od57 an57:Option Addr} {sl57:Array (Option Value)} {oc57 kV57 dc57 pm57 cd57 ct57:Value} {f58:Addr} {od58 an58:Option Addr} {sl58:Array (Option Value)} {oc58 kV58 dc58 pm58 cd58 ct58:Value} {f59:Addr} {od59 an59:Option Addr} {sl59:Array (Option Value)} {oc59 kV59 dc59 pm59 cd59 ct59:Value} {f60:Addr} {od60 an60:Option Addr} {sl60:Array (Option Value)} {oc60 kV60 dc60 pm60 cd60 ct60:Value} {tk_LONGEST_STINT:Tok} {tk_MOST_PIECES:Tok} {tk_MOST_MACHINES:Tok}
  (aC0:PySem.W.nsIn K mainGlobals "Machine" = some (some (.ref C0)))
  (aC1:PySem.W.nsIn K mainGlobals "Store" = some (some (.ref C1)))
  (aC2:PySem.W.nsIn K mainGlobals "Works" = some (some (.ref C2)))
  (a0:PySem.W.nsIn K mainGlobals "_law_open" = some (some (.ref f0)))
  (l0:K.lookup f0=some ⟨oc0,od0,.func (PySem.W.fnOf "_law_open" "_law_open" (aV hZ) (aT hZ) (aF hZ) .none kV0 dc0 pm0 an0 cd0 ct0),sl0⟩)
  (c0:PySem.W.codeIn K cd0 "_law_open" = true)
  (k0:W.keepIn K (.ref f0)=true)
  (a1:PySem.W.nsIn K mainGlobals "_law_draw" = some (some (.ref f1)))
  (l1:K.lookup f1=some ⟨oc1,od1,.func (PySem.W.fnOf "_law_draw" "_law_draw" (aV j9) (aT j9) (aF j9) .none kV1 dc1 pm1 an1 cd1 ct1),sl1⟩)
  (c1:PySem.W.codeIn K cd1 "_law_draw" = true)
  (k1:W.keepIn K (.ref f1)=true)
  (a2:PySem.W.nsIn K mainGlobals "_law_far" = some (some (.ref f2)))
  (l2:K.lookup f2=some ⟨oc2,od2,.func (PySem.W.fnOf "_law_far" "_law_far" (aV mN) (aT mN) (aF mN) .none kV2 dc2 pm2 an2 cd2 ct2),sl2⟩)
  (c2:PySem.W.codeIn K cd2 "_law_far" = true)
  (k2:W.keepIn K (.ref f2)=true)
  (a3:PySem.W.nsIn K mainGlobals "_law_factor" = some (some (.ref f3)))
  (l3:K.lookup f3=some ⟨oc3,od3,.func (PySem.W.fnOf "_law_factor" "_law_factor" (aV gN) (aT gN) (aF gN) .none kV3 dc3 pm3 an3 cd3 ct3),sl3⟩)
  (c3:PySem.W.codeIn K cd3 "_law_factor" = true)
  (k3:W.keepIn K (.ref f3)=true)
  (a4:PySem.W.nsIn K mainGlobals "is_whole" = some (some (.ref f4)))
  (l4:K.lookup f4=some ⟨oc4,od4,.func (PySem.W.fnOf "is_whole" "is_whole" (aV mO) (aT mO) (aF mO) .none kV4 dc4 pm4 an4 cd4 ct4),sl4⟩)
  (c4:PySem.W.codeIn K cd4 "is_whole" = true)
  (k4:W.keepIn K (.ref f4)=true)
  (a5:PySem.W.nsIn K mainGlobals "is_amount" = some (some (.ref f5)))
  (l5:K.lookup f5=some ⟨oc5,od5,.func (PySem.W.fnOf "is_amount" "is_amount" (aV kC) (aT kC) (aF kC) .none kV5 dc5 pm5 an5 cd5 ct5),sl5⟩)
  (c5:PySem.W.codeIn K cd5 "is_amount" = true)
  (k5:W.keepIn K (.ref f5)=true)
  (a6:PySem.W.nsIn K mainGlobals "is_span" = some (some (.ref f6)))
  (l6:K.lookup f6=some ⟨oc6,od6,.func (PySem.W.fnOf "is_span" "is_span" (aV pF) (aT pF) (aF pF) .none kV6 dc6 pm6 an6 cd6 ct6),sl6⟩)
  (c6:PySem.W.codeIn K cd6 "is_span" = true)
  (k6:W.keepIn K (.ref f6)=true)
  (a7:PySem.W.nsIn K mainGlobals "is_piece" = some (some (.ref f7)))
  (l7:K.lookup f7=some ⟨oc7,od7,.func (PySem.W.fnOf "is_piece" "is_piece" (aV mP) (aT mP) (aF mP) .none kV7 dc7 pm7 an7 cd7 ct7),sl7⟩)
  (c7:PySem.W.codeIn K cd7 "is_piece" = true)
  (k7:W.keepIn K (.ref f7)=true)
  (a8:PySem.W.nsIn K mainGlobals "are_pieces" = some (some (.ref f8)))
  (l8:K.lookup f8=some ⟨oc8,od8,.func (PySem.W.fnOf "are_pieces" "are_pieces" (aV eQ) (aT eQ) (aF eQ) .none kV8 dc8 pm8 an8 cd8 ct8),sl8⟩)
  (c8:PySem.W.codeIn K cd8 "are_pieces" = true)
  (k8:W.keepIn K (.ref f8)=true)
  (a9:PySem.W.findIn K (.ref C0) "__init__" = some (some (.ref f9)))
  (i9:PySem.W.isFn K (.ref f9)=true)
  (l9:K.lookup f9=some ⟨oc9,od9,.func (PySem.W.fnOf "__init__" "Machine.__init__" (aV fL) (aT fL) (aF fL) .none kV9 dc9 pm9 an9 cd9 ct9),sl9⟩)
  (c9:PySem.W.codeIn K cd9 "Machine.__init__" = true)
  (k9:W.keepIn K (.ref f9)=true)
  (a10:PySem.W.nsIn K mainGlobals "_law_spec" = some (some (.ref f10)))
  (l10:K.lookup f10=some ⟨oc10,od10,.func (PySem.W.fnOf "_law_spec" "_law_spec" (aV kD) (aT kD) (aF kD) .none kV10 dc10 pm10 an10 cd10 ct10),sl10⟩)
  (c10:PySem.W.codeIn K cd10 "_law_spec" = true)
  (k10:W.keepIn K (.ref f10)=true)
  (a11:PySem.W.nsIn K mainGlobals "_law_machine" = some (some (.ref f11)))
  (l11:K.lookup f11=some ⟨oc11,od11,.func (PySem.W.fnOf "_law_machine" "_law_machine" (aV fM) (aT fM) (aF fM) .none kV11 dc11 pm11 an11 cd11 ct11),sl11⟩)
  (c11:PySem.W.codeIn K cd11 "_law_machine" = true)
  (k11:W.keepIn K (.ref f11)=true)
  (a12:PySem.W.findIn K (.ref C0) "gain" = some (some (.ref f12)))
  (i12:PySem.W.isFn K (.ref f12)=true)
  (l12:K.lookup f12=some ⟨oc12,od12,.func (PySem.W.fnOf "gain" "Machine.gain" (aV fN) (aT fN) (aF fN) .none kV12 dc12 pm12 an12 cd12 ct12),sl12⟩)
  (c12:PySem.W.codeIn K cd12 "Machine.gain" = true)
  (k12:W.keepIn K (.ref f12)=true)
  (a13:PySem.W.nsIn K mainGlobals "may_be" = some (some (.ref f13)))
  (l13:K.lookup f13=some ⟨oc13,od13,.func (PySem.W.fnOf "may_be" "may_be" (aV tN) (aT tN) (aF tN) .none kV13 dc13 pm13 an13 cd13 ct13),sl13⟩)
  (c13:PySem.W.codeIn K cd13 "may_be" = true)
  (k13:W.keepIn K (.ref f13)=true)
  (a14:PySem.W.nsIn K mainGlobals "state_after" = some (some (.ref f14)))
  (l14:K.lookup f14=some ⟨oc14,od14,.func (PySem.W.fnOf "state_after" "state_after" (aV gO) (aT gO) (aF gO) .none kV14 dc14 pm14 an14 cd14 ct14),sl14⟩)
  (c14:PySem.W.codeIn K cd14 "state_after" = true)
  (k14:W.keepIn K (.ref f14)=true)
  (a15:PySem.W.nsIn K mainGlobals "are_machines" = some (some (.ref f15)))
  (l15:K.lookup f15=some ⟨oc15,od15,.func (PySem.W.fnOf "are_machines" "are_machines" (aV dY) (aT dY) (aF dY) .none kV15 dc15 pm15 an15 cd15 ct15),sl15⟩)
  (c15:PySem.W.codeIn K cd15 "are_machines" = true)
  (k15:W.keepIn K (.ref f15)=true)
  (a16:PySem.W.findIn K (.ref C2) "__init__" = some (some (.ref f16)))
  (i16:PySem.W.isFn K (.ref f16)=true)
  (l16:K.lookup f16=some ⟨oc16,od16,.func (PySem.W.fnOf "__init__" "Works.__init__" (aV iJ) (aT iJ) (aF iJ) .none kV16 dc16 pm16 an16 cd16 ct16),sl16⟩)
  (c16:PySem.W.codeIn K cd16 "Works.__init__" = true)
  (k16:W.keepIn K (.ref f16)=true)
  (a17:PySem.W.nsIn K mainGlobals "position_after" = some (some (.ref f17)))
  (l17:K.lookup f17=some ⟨oc17,od17,.func (PySem.W.fnOf "position_after" "position_after" (aV cY) (aT cY) (aF cY) .none kV17 dc17 pm17 an17 cd17 ct17),sl17⟩)
  (c17:PySem.W.codeIn K cd17 "position_after" = true)
  (k17:W.keepIn K (.ref f17)=true)
  (a18:PySem.W.nsIn K mainGlobals "positions_of" = some (some (.ref f18)))
  (l18:K.lookup f18=some ⟨oc18,od18,.func (PySem.W.fnOf "positions_of" "positions_of" (aV fO) (aT fO) (aF fO) .none kV18 dc18 pm18 an18 cd18 ct18),sl18⟩)
  (c18:PySem.W.codeIn K cd18 "positions_of" = true)
  (k18:W.keepIn K (.ref f18)=true)
  (a19:PySem.W.nsIn K mainGlobals "drawn_by" = some (some (.ref f19)))
  (l19:K.lookup f19=some ⟨oc19,od19,.func (PySem.W.fnOf "drawn_by" "drawn_by" (aV mQ) (aT mQ) (aF mQ) .none kV19 dc19 pm19 an19 cd19 ct19),sl19⟩)
  (c19:PySem.W.codeIn K cd19 "drawn_by" = true)
  (k19:W.keepIn K (.ref f19)=true)
  (a20:PySem.W.nsIn K mainGlobals "drawn_in" = some (some (.ref f20)))
  (l20:K.lookup f20=some ⟨oc20,od20,.func (PySem.W.fnOf "drawn_in" "drawn_in" (aV mR) (aT mR) (aF mR) .none kV20 dc20 pm20 an20 cd20 ct20),sl20⟩)
  (c20:PySem.W.codeIn K cd20 "drawn_in" = true)
  (k20:W.keepIn K (.ref f20)=true)
  (a21:PySem.W.nsIn K mainGlobals "left_in_hour" = some (some (.ref f21)))
  (l21:K.lookup f21=some ⟨oc21,od21,.func (PySem.W.fnOf "left_in_hour" "left_in_hour" (aV fP) (aT fP) (aF fP) .none kV21 dc21 pm21 an21 cd21 ct21),sl21⟩)
  (c21:PySem.W.codeIn K cd21 "left_in_hour" = true)
  (k21:W.keepIn K (.ref f21)=true)
  (a22:PySem.W.findIn K (.ref C0) "most" = some (some (.ref f22)))
  (i22:PySem.W.isFn K (.ref f22)=true)
  (l22:K.lookup f22=some ⟨oc22,od22,.func (PySem.W.fnOf "most" "Machine.most" (aV dZ) (aT dZ) (aF dZ) .none kV22 dc22 pm22 an22 cd22 ct22),sl22⟩)
  (c22:PySem.W.codeIn K cd22 "Machine.most" = true)
  (k22:W.keepIn K (.ref f22)=true)
  (a23:PySem.W.findIn K (.ref C0) "cost_at" = some (some (.ref f23)))
  (i23:PySem.W.isFn K (.ref f23)=true)
  (l23:K.lookup f23=some ⟨oc23,od23,.func (PySem.W.fnOf "cost_at" "Machine.cost_at" (aV dE) (aT dE) (aF dE) .none kV23 dc23 pm23 an23 cd23 ct23),sl23⟩)
  (c23:PySem.W.codeIn K cd23 "Machine.cost_at" = true)
  (k23:W.keepIn K (.ref f23)=true)
  (a24:PySem.W.nsIn K mainGlobals "begin_costs" = some (some (.ref f24)))
  (l24:K.lookup f24=some ⟨oc24,od24,.func (PySem.W.fnOf "begin_costs" "begin_costs" (aV eY) (aT eY) (aF eY) .none kV24 dc24 pm24 an24 cd24 ct24),sl24⟩)
  (c24:PySem.W.codeIn K cd24 "begin_costs" = true)
  (k24:W.keepIn K (.ref f24)=true)
  (a25:PySem.W.nsIn K mainGlobals "hour_costs" = some (some (.ref f25)))
  (l25:K.lookup f25=some ⟨oc25,od25,.func (PySem.W.fnOf "hour_costs" "hour_costs" (aV dM) (aT dM) (aF dM) .none kV25 dc25 pm25 an25 cd25 ct25),sl25⟩)
  (c25:PySem.W.codeIn K cd25 "hour_costs" = true)
  (k25:W.keepIn K (.ref f25)=true)
  (a26:PySem.W.nsIn K mainGlobals "ledger_of" = some (some (.ref f26)))
  (l26:K.lookup f26=some ⟨oc26,od26,.func (PySem.W.fnOf "ledger_of" "ledger_of" (aV iA) (aT iA) (aF iA) .none kV26 dc26 pm26 an26 cd26 ct26),sl26⟩)
  (c26:PySem.W.codeIn K cd26 "ledger_of" = true)
  (k26:W.keepIn K (.ref f26)=true)
  (a27:PySem.W.nsIn K mainGlobals "plan_cost" = some (some (.ref f27)))
  (l27:K.lookup f27=some ⟨oc27,od27,.func (PySem.W.fnOf "plan_cost" "plan_cost" (aV iE) (aT iE) (aF iE) .none kV27 dc27 pm27 an27 cd27 ct27),sl27⟩)
  (c27:PySem.W.codeIn K cd27 "plan_cost" = true)
  (k27:W.keepIn K (.ref f27)=true)
  (a28:PySem.W.nsIn K mainGlobals "levels_after" = some (some (.ref f28)))
  (l28:K.lookup f28=some ⟨oc28,od28,.func (PySem.W.fnOf "levels_after" "levels_after" (aV fQ) (aT fQ) (aF fQ) .none kV28 dc28 pm28 an28 cd28 ct28),sl28⟩)
  (c28:PySem.W.codeIn K cd28 "levels_after" = true)
  (k28:W.keepIn K (.ref f28)=true)
  (a29:PySem.W.nsIn K mainGlobals "later_levels" = some (some (.ref f29)))
  (l29:K.lookup f29=some ⟨oc29,od29,.func (PySem.W.fnOf "later_levels" "later_levels" (aV fR) (aT fR) (aF fR) .none kV29 dc29 pm29 an29 cd29 ct29),sl29⟩)
  (c29:PySem.W.codeIn K cd29 "later_levels" = true)
  (k29:W.keepIn K (.ref f29)=true)
  (a30:PySem.W.nsIn K mainGlobals "next_levels" = some (some (.ref f30)))
  (l30:K.lookup f30=some ⟨oc30,od30,.func (PySem.W.fnOf "next_levels" "next_levels" (aV gQ) (aT gQ) (aF gQ) .none kV30 dc30 pm30 an30 cd30 ct30),sl30⟩)
  (c30:PySem.W.codeIn K cd30 "next_levels" = true)
  (k30:W.keepIn K (.ref f30)=true)
  (a31:PySem.W.nsIn K mainGlobals "output_fits" = some (some (.ref f31)))
  (l31:K.lookup f31=some ⟨oc31,od31,.func (PySem.W.fnOf "output_fits" "output_fits" (aV gR) (aT gR) (aF gR) .none kV31 dc31 pm31 an31 cd31 ct31),sl31⟩)
  (c31:PySem.W.codeIn K cd31 "output_fits" = true)
  (k31:W.keepIn K (.ref f31)=true)
  (a32:PySem.W.nsIn K mainGlobals "hour_fault" = some (some (.ref f32)))
  (l32:K.lookup f32=some ⟨oc32,od32,.func (PySem.W.fnOf "hour_fault" "hour_fault" (aV iK) (aT iK) (aF iK) .none kV32 dc32 pm32 an32 cd32 ct32),sl32⟩)
  (c32:PySem.W.codeIn K cd32 "hour_fault" = true)
  (k32:W.keepIn K (.ref f32)=true)
  (a33:PySem.W.nsIn K mainGlobals "plan_fault" = some (some (.ref f33)))
  (l33:K.lookup f33=some ⟨oc33,od33,.func (PySem.W.fnOf "plan_fault" "plan_fault" (aV iL) (aT iL) (aF iL) .none kV33 dc33 pm33 an33 cd33 ct33),sl33⟩)
  (c33:PySem.W.codeIn K cd33 "plan_fault" = true)
  (k33:W.keepIn K (.ref f33)=true)
  (a34:PySem.W.nsIn K mainGlobals "run_fault" = some (some (.ref f34)))
  (l34:K.lookup f34=some ⟨oc34,od34,.func (PySem.W.fnOf "run_fault" "run_fault" (aV kE) (aT kE) (aF kE) .none kV34 dc34 pm34 an34 cd34 ct34),sl34⟩)
  (c34:PySem.W.codeIn K cd34 "run_fault" = true)
  (k34:W.keepIn K (.ref f34)=true)
  (a35:PySem.W.nsIn K mainGlobals "refuse_fault" = some (some (.ref f35)))
  (l35:K.lookup f35=some ⟨oc35,od35,.func (PySem.W.fnOf "refuse_fault" "refuse_fault" (aV fS) (aT fS) (aF fS) .none kV35 dc35 pm35 an35 cd35 ct35),sl35⟩)
  (c35:PySem.W.codeIn K cd35 "refuse_fault" = true)
  (k35:W.keepIn K (.ref f35)=true)
  (a36:PySem.W.nsIn K mainGlobals "run_begins" = some (some (.ref f36)))
  (l36:K.lookup f36=some ⟨oc36,od36,.func (PySem.W.fnOf "run_begins" "run_begins" (aV iM) (aT iM) (aF iM) .none kV36 dc36 pm36 an36 cd36 ct36),sl36⟩)
  (c36:PySem.W.codeIn K cd36 "run_begins" = true)
  (k36:W.keepIn K (.ref f36)=true)
  (a37:PySem.W.nsIn K mainGlobals "run_cost" = some (some (.ref f37)))
  (l37:K.lookup f37=some ⟨oc37,od37,.func (PySem.W.fnOf "run_cost" "run_cost" (aV mS) (aT mS) (aF mS) .none kV37 dc37 pm37 an37 cd37 ct37),sl37⟩)
  (c37:PySem.W.codeIn K cd37 "run_cost" = true)
  (k37:W.keepIn K (.ref f37)=true)
  (a38:PySem.W.nsIn K mainGlobals "least_of" = some (some (.ref f38)))
  (l38:K.lookup f38=some ⟨oc38,od38,.func (PySem.W.fnOf "least_of" "least_of" (aV jW) (aT jW) (aF jW) .none kV38 dc38 pm38 an38 cd38 ct38),sl38⟩)
  (c38:PySem.W.codeIn K cd38 "least_of" = true)
  (k38:W.keepIn K (.ref f38)=true)
  (a39:PySem.W.nsIn K mainGlobals "worths_ahead" = some (some (.ref f39)))
  (l39:K.lookup f39=some ⟨oc39,od39,.func (PySem.W.fnOf "worths_ahead" "worths_ahead" (aV fT) (aT fT) (aF fT) .none kV39 dc39 pm39 an39 cd39 ct39),sl39⟩)
  (c39:PySem.W.codeIn K cd39 "worths_ahead" = true)
  (k39:W.keepIn K (.ref f39)=true)
  (a40:PySem.W.nsIn K mainGlobals "worths_by_hour" = some (some (.ref f40)))
  (l40:K.lookup f40=some ⟨oc40,od40,.func (PySem.W.fnOf "worths_by_hour" "worths_by_hour" (aV dR) (aT dR) (aF dR) .none kV40 dc40 pm40 an40 cd40 ct40),sl40⟩)
  (c40:PySem.W.codeIn K cd40 "worths_by_hour" = true)
  (k40:W.keepIn K (.ref f40)=true)
  (a41:PySem.W.nsIn K mainGlobals "first_best" = some (some (.ref f41)))
  (l41:K.lookup f41=some ⟨oc41,od41,.func (PySem.W.fnOf "first_best" "first_best" (aV fZ) (aT fZ) (aF fZ) .none kV41 dc41 pm41 an41 cd41 ct41),sl41⟩)
  (c41:PySem.W.codeIn K cd41 "first_best" = true)
  (k41:W.keepIn K (.ref f41)=true)
  (a42:PySem.W.nsIn K mainGlobals "first_row" = some (some (.ref f42)))
  (l42:K.lookup f42=some ⟨oc42,od42,.func (PySem.W.fnOf "first_row" "first_row" (aV kF) (aT kF) (aF kF) .none kV42 dc42 pm42 an42 cd42 ct42),sl42⟩)
  (c42:PySem.W.codeIn K cd42 "first_row" = true)
  (k42:W.keepIn K (.ref f42)=true)
  (a43:PySem.W.nsIn K mainGlobals "ways_one_on" = some (some (.ref f43)))
  (l43:K.lookup f43=some ⟨oc43,od43,.func (PySem.W.fnOf "ways_one_on" "ways_one_on" (aV gS) (aT gS) (aF gS) .none kV43 dc43 pm43 an43 cd43 ct43),sl43⟩)
  (c43:PySem.W.codeIn K cd43 "ways_one_on" = true)
  (k43:W.keepIn K (.ref f43)=true)
  (a44:PySem.W.nsIn K mainGlobals "states_by_hour" = some (some (.ref f44)))
  (l44:K.lookup f44=some ⟨oc44,od44,.func (PySem.W.fnOf "states_by_hour" "states_by_hour" (aV dS) (aT dS) (aF dS) .none kV44 dc44 pm44 an44 cd44 ct44),sl44⟩)
  (c44:PySem.W.codeIn K cd44 "states_by_hour" = true)
  (k44:W.keepIn K (.ref f44)=true)
  (a45:PySem.W.nsIn K mainGlobals "next_hours" = some (some (.ref f45)))
  (l45:K.lookup f45=some ⟨oc45,od45,.func (PySem.W.fnOf "next_hours" "next_hours" (aV gA) (aT gA) (aF gA) .none kV45 dc45 pm45 an45 cd45 ct45),sl45⟩)
  (c45:PySem.W.codeIn K cd45 "next_hours" = true)
  (k45:W.keepIn K (.ref f45)=true)
  (a46:PySem.W.nsIn K mainGlobals "hour_ways" = some (some (.ref f46)))
  (l46:K.lookup f46=some ⟨oc46,od46,.func (PySem.W.fnOf "hour_ways" "hour_ways" (aV iF) (aT iF) (aF iF) .none kV46 dc46 pm46 an46 cd46 ct46),sl46⟩)
  (c46:PySem.W.codeIn K cd46 "hour_ways" = true)
  (k46:W.keepIn K (.ref f46)=true)
  (a47:PySem.W.nsIn K mainGlobals "worths_of_states" = some (some (.ref f47)))
  (l47:K.lookup f47=some ⟨oc47,od47,.func (PySem.W.fnOf "worths_of_states" "worths_of_states" (aV cF) (aT cF) (aF cF) .none kV47 dc47 pm47 an47 (.ref kc47) ct47),sl47⟩)
  (c47:PySem.W.codeIn K (.ref kc47) "worths_of_states" = true)
  (tl47:K.lookup kc47=some ⟨.type "code",tod47,.fields tvs47,tsl47⟩)
  (tv47:(tvs47[11]? : Option Value)=some (.ref T47))
  (th47:PySem.W.codeHdIn K kc47 T47=true)
  (k47:W.keepIn K (.ref f47)=true)
  (a48:PySem.W.nsIn K mainGlobals "cheapest_run" = some (some (.ref f48)))
  (l48:K.lookup f48=some ⟨oc48,od48,.func (PySem.W.fnOf "cheapest_run" "cheapest_run" (aV dB) (aT dB) (aF dB) .none kV48 dc48 pm48 an48 (.ref kc48) ct48),sl48⟩)
  (c48:PySem.W.codeIn K (.ref kc48) "cheapest_run" = true)
  (tl48:K.lookup kc48=some ⟨.type "code",tod48,.fields tvs48,tsl48⟩)
  (tv48:(tvs48[11]? : Option Value)=some (.ref T48))
  (th48:PySem.W.codeHdIn K kc48 T48=true)
  (k48:W.keepIn K (.ref f48)=true)
  (a49:PySem.W.nsIn K mainGlobals "cheapest_path" = some (some (.ref f49)))
  (l49:K.lookup f49=some ⟨oc49,od49,.func (PySem.W.fnOf "cheapest_path" "cheapest_path" (aV gH) (aT gH) (aF gH) .none kV49 dc49 pm49 an49 cd49 ct49),sl49⟩)
  (c49:PySem.W.codeIn K cd49 "cheapest_path" = true)
  (k49:W.keepIn K (.ref f49)=true)
  (a50:PySem.W.nsIn K mainGlobals "least_of_machines" = some (some (.ref f50)))
  (l50:K.lookup f50=some ⟨oc50,od50,.func (PySem.W.fnOf "least_of_machines" "least_of_machines" (aV cL) (aT cL) (aF cL) .none kV50 dc50 pm50 an50 cd50 ct50),sl50⟩)
  (c50:PySem.W.codeIn K cd50 "least_of_machines" = true)
  (k50:W.keepIn K (.ref f50)=true)
  (a51:PySem.W.nsIn K mainGlobals "least_of_store" = some (some (.ref f51)))
  (l51:K.lookup f51=some ⟨oc51,od51,.func (PySem.W.fnOf "least_of_store" "least_of_store" (aV dU) (aT dU) (aF dU) .none kV51 dc51 pm51 an51 cd51 ct51),sl51⟩)
  (c51:PySem.W.codeIn K cd51 "least_of_store" = true)
  (k51:W.keepIn K (.ref f51)=true)
  (a52:PySem.W.nsIn K mainGlobals "price_bound" = some (some (.ref f52)))
  (l52:K.lookup f52=some ⟨oc52,od52,.func (PySem.W.fnOf "price_bound" "price_bound" (aV eZ) (aT eZ) (aF eZ) .none kV52 dc52 pm52 an52 cd52 ct52),sl52⟩)
  (c52:PySem.W.codeIn K cd52 "price_bound" = true)
  (k52:W.keepIn K (.ref f52)=true)
  (a53:PySem.W.nsIn K mainGlobals "pieces_by_rate" = some (some (.ref f53)))
  (l53:K.lookup f53=some ⟨oc53,od53,.func (PySem.W.fnOf "pieces_by_rate" "pieces_by_rate" (aV dW) (aT dW) (aF dW) .none kV53 dc53 pm53 an53 cd53 ct53),sl53⟩)
  (c53:PySem.W.codeIn K cd53 "pieces_by_rate" = true)
  (k53:W.keepIn K (.ref f53)=true)
  (a54:PySem.W.nsIn K mainGlobals "share_out" = some (some (.ref f54)))
  (l54:K.lookup f54=some ⟨oc54,od54,.func (PySem.W.fnOf "share_out" "share_out" (aV iG) (aT iG) (aF iG) .none kV54 dc54 pm54 an54 cd54 ct54),sl54⟩)
  (c54:PySem.W.codeIn K cd54 "share_out" = true)
  (k54:W.keepIn K (.ref f54)=true)
  (a55:PySem.W.nsIn K mainGlobals "outputs_cost" = some (some (.ref f55)))
  (l55:K.lookup f55=some ⟨oc55,od55,.func (PySem.W.fnOf "outputs_cost" "outputs_cost" (aV d7) (aT d7) (aF d7) .none kV55 dc55 pm55 an55 cd55 ct55),sl55⟩)
  (c55:PySem.W.codeIn K cd55 "outputs_cost" = true)
  (k55:W.keepIn K (.ref f55)=true)
  (a56:PySem.W.nsIn K mainGlobals "share_cost" = some (some (.ref f56)))
  (l56:K.lookup f56=some ⟨oc56,od56,.func (PySem.W.fnOf "share_cost" "share_cost" (aV iN) (aT iN) (aF iN) .none kV56 dc56 pm56 an56 cd56 ct56),sl56⟩)
  (c56:PySem.W.codeIn K cd56 "share_cost" = true)
  (k56:W.keepIn K (.ref f56)=true)
  (a57:PySem.W.nsIn K mainGlobals "margin_price" = some (some (.ref f57)))
  (l57:K.lookup f57=some ⟨oc57,od57,.func (PySem.W.fnOf "margin_price" "margin_price" (aV fU) (aT fU) (aF fU) .none kV57 dc57 pm57 an57 cd57 ct57),sl57⟩)
  (c57:PySem.W.codeIn K cd57 "margin_price" = true)
  (k57:W.keepIn K (.ref f57)=true)
  (a58:PySem.W.nsIn K mainGlobals "_law_want" = some (some (.ref f58)))
  (l58:K.lookup f58=some ⟨oc58,od58,.func (PySem.W.fnOf "_law_want" "_law_want" (aV kG) (aT kG) (aF kG) .none kV58 dc58 pm58 an58 cd58 ct58),sl58⟩)
  (c58:PySem.W.codeIn K cd58 "_law_want" = true)
  (k58:W.keepIn K (.ref f58)=true)
  (a59:PySem.W.nsIn K mainGlobals "_law_easy" = some (some (.ref f59)))
  (l59:K.lookup f59=some ⟨oc59,od59,.func (PySem.W.fnOf "_law_easy" "_law_easy" (aV kH) (aT kH) (aF kH) .none kV59 dc59 pm59 an59 cd59 ct59),sl59⟩)
  (c59:PySem.W.codeIn K cd59 "_law_easy" = true)
  (k59:W.keepIn K (.ref f59)=true)
  (a60:PySem.W.nsIn K mainGlobals "law" = some (some (.ref f60)))
  (l60:K.lookup f60=some ⟨oc60,od60,.func (PySem.W.fnOf "law" "law" (aV tO) (aT tO) (aF tO) .none kV60 dc60 pm60 an60 cd60 ct60),sl60⟩)
  (c60:PySem.W.codeIn K cd60 "law" = true)
  (k60:W.keepIn K (.ref f60)=true)
  (pg0:PySem.W.plainGet K C0 Str.empty=true)
  (hd0:PySem.W.hasDictIn K C0=true)
  (po0:PySem.W.plainOver K C0=true)
  (sa0:PySem.W.findIn K (.ref C0) "__setattr__" = some (some (.builtin "object.__setattr__")))
  (mk0:PySem.W.makesIn K C0=true)
  (kc0:W.keepIn K (.ref C0)=true)
  (n0_up:PySem.W.findIn K (.ref C0) "up" = some none)
  (n0_down:PySem.W.findIn K (.ref C0) "down" = some none)
  (n0_begin:PySem.W.findIn K (.ref C0) "begin" = some none)
  (n0_run:PySem.W.findIn K (.ref C0) "run" = some none)
  (n0_rest:PySem.W.findIn K (.ref C0) "rest" = some none)
  (n0_least:PySem.W.findIn K (.ref C0) "least" = some none)
  (n0_pieces:PySem.W.findIn K (.ref C0) "pieces" = some none)
  (ia0:PySem.W.findIn K (.ref C0) "__class__" = some (some (.builtin "object.__class__")))
  (in0:PySem.W.specialIn K (.builtin "object.__class__") "__get__" = some (some (.builtin "getset_descriptor.__get__")))
  (it0:PySem.W.takesIn K (.builtin "object.__class__")=some true)
  (im0:PySem.W.mroIn K C0 (.type "object")=some true)
  (pg1:PySem.W.plainGet K C1 Str.empty=true)
  (hd1:PySem.W.hasDictIn K C1=true)
  (po1:PySem.W.plainOver K C1=true)
  (sa1:PySem.W.findIn K (.ref C1) "__setattr__" = some (some (.builtin "object.__setattr__")))
  (mk1:PySem.W.makesIn K C1=true)
  (kc1:W.keepIn K (.ref C1)=true)
  (n1_cap:PySem.W.findIn K (.ref C1) "cap" = some none)
  (n1_into:PySem.W.findIn K (.ref C1) "into" = some none)
  (n1_out:PySem.W.findIn K (.ref C1) "out" = some none)
  (n1_takes:PySem.W.findIn K (.ref C1) "takes" = some none)
  (n1_gives:PySem.W.findIn K (.ref C1) "gives" = some none)
  (ia1:PySem.W.findIn K (.ref C1) "__class__" = some (some (.builtin "object.__class__")))
  (in1:PySem.W.specialIn K (.builtin "object.__class__") "__get__" = some (some (.builtin "getset_descriptor.__get__")))
  (it1:PySem.W.takesIn K (.builtin "object.__class__")=some true)
  (im1:PySem.W.mroIn K C1 (.type "object")=some true)
  (pg2:PySem.W.plainGet K C2 Str.empty=true)
  (hd2:PySem.W.hasDictIn K C2=true)
  (po2:PySem.W.plainOver K C2=true)
  (sa2:PySem.W.findIn K (.ref C2) "__setattr__" = some (some (.builtin "object.__setattr__")))
  (mk2:PySem.W.makesIn K C2=true)
  (kc2:W.keepIn K (.ref C2)=true)
  (n2_machines:PySem.W.findIn K (.ref C2) "machines" = some none)
  (n2_store:PySem.W.findIn K (.ref C2) "store" = some none)
  (n2_lack:PySem.W.findIn K (.ref C2) "lack" = some none)
  (ia2:PySem.W.findIn K (.ref C2) "__class__" = some (some (.builtin "object.__class__")))
  (in2:PySem.W.specialIn K (.builtin "object.__class__") "__get__" = some (some (.builtin "getset_descriptor.__get__")))
  (it2:PySem.W.takesIn K (.builtin "object.__class__")=some true)
  (im2:PySem.W.mroIn K C2 (.type "object")=some true)
  (aFO:PySem.W.nsIn K mainGlobals "abs" = some none)
  (aCE:PySem.W.nsIn K mainGlobals "all" = some none)
  (aB0:PySem.W.nsIn K mainGlobals "bool" = some none)
  (cN:PySem.W.nsIn K mainGlobals "enumerate" = some none)
  (aFP:PySem.W.nsIn K mainGlobals "int" = some none)
  (cQ:PySem.W.nsIn K mainGlobals "isinstance" = some none)
  (lX:PySem.W.nsIn K mainGlobals "len" = some none)
  (nZ:PySem.W.nsIn K mainGlobals "list" = some none)
  (rX:PySem.W.nsIn K mainGlobals "max" = some none)
  (aAc:PySem.W.nsIn K mainGlobals "min" = some none)
  (gF:PySem.W.nsIn K mainGlobals "range" = some none)
  (m3:PySem.W.nsIn K mainGlobals "reversed" = some none)
  (qF:PySem.W.nsIn K mainGlobals "sorted" = some none)
  (lY:PySem.W.nsIn K mainGlobals "sum" = some none)
  (nQ:PySem.W.nsIn K mainGlobals "tuple" = some none)
  (rY:PySem.W.nsIn K mainGlobals "zip" = some none)
  (eI:PySem.W.nsIn K mainGlobals "LONGEST_STINT" = some (some (.int 12 tk_LONGEST_STINT)))
  (gY:PySem.W.nsIn K mainGlobals "MOST_PIECES" = some (some (.int 4 tk_MOST_PIECES)))
  (eJ:PySem.W.nsIn K mainGlobals "MOST_MACHINES" = some (some (.int 6 tk_MOST_MACHINES))) :
  (∃c,PySem.W.codeHdIn K c T47=true)/\(∃c,PySem.W.codeHdIn K c T48=true)/\∃fd:FuncData,(∀(s:Shared) (v:Value),BindsTo s fd ⟨[v],[]⟩ [("_law_script",v)])/\∀base:Heap,K.In base->base.Ns mainGlobals mg->bS l.prog w K mg base gZ 16 fa fd ["_law_script"] (aHg K T47 T48):=by
 have e:=hfa.symm.trans (W.mg_of X G a60)
 cases e
 have F0:=bC (st:=hZ) l0 c0 k0
 have b0:=F0.binds (ps:=["_law_script","_law_place"]) λ_ _ _ _ _ _ us hl=>match us,hl with|[_,_],_=>rfl
 have F1:=bC (st:=j9) l1 c1 k1
 have b1:=F1.binds (ps:=["_law_hand","_law_many"]) λ_ _ _ _ _ _ us hl=>match us,hl with|[_,_],_=>rfl
 have F2:=bC (st:=mN) l2 c2 k2
 have b2:=F2.binds (ps:=["_law_hand","_law_bound"]) λ_ _ _ _ _ _ us hl=>match us,hl with|[_,_],_=>rfl
 have F3:=bC (st:=gN) l3 c3 k3
 have b3:=F3.binds (ps:=["_law_hand"]) λ_ _ _ _ _ _ us hl=>match us,hl with|[_],_=>rfl
 have F4:=bC (st:=mO) l4 c4 k4
 have b4:=F4.binds (ps:=["thing"]) λ_ _ _ _ _ _ us hl=>match us,hl with|[_],_=>rfl
 have F5:=bC (st:=kC) l5 c5 k5
 have b5:=F5.binds (ps:=["thing"]) λ_ _ _ _ _ _ us hl=>match us,hl with|[_],_=>rfl
 have F6:=bC (st:=pF) l6 c6 k6
 have b6:=F6.binds (ps:=["thing"]) λ_ _ _ _ _ _ us hl=>match us,hl with|[_],_=>rfl
 have F7:=bC (st:=mP) l7 c7 k7
 have b7:=F7.binds (ps:=["thing"]) λ_ _ _ _ _ _ us hl=>match us,hl with|[_],_=>rfl
 have F8:=bC (st:=eQ) l8 c8 k8
 have b8:=F8.binds (ps:=["thing"]) λ_ _ _ _ _ _ us hl=>match us,hl with|[_],_=>rfl
 have F9:=bC (st:=fL) l9 c9 k9
 have b9:=F9.binds (ps:=["self","up","down","begin","run","rest","least","pieces"]) λ_ _ _ _ _ _ us hl=>match us,hl with|[_,_,_,_,_,_,_,_],_=>rfl
 have F10:=bC (st:=kD) l10 c10 k10
 have b10:=F10.binds (ps:=["_law_hand","_law_by","_law_longest"]) λ_ _ _ _ _ _ us hl=>match us,hl with|[_,_,_],_=>rfl
 have F11:=bC (st:=fM) l11 c11 k11
 have b11:=F11.binds (ps:=["_law_spec_here"]) λ_ _ _ _ _ _ us hl=>match us,hl with|[_],_=>rfl
 have F12:=bC (st:=fN) l12 c12 k12
 have b12:=F12.binds (ps:=["self","price"]) λ_ _ _ _ _ _ us hl=>match us,hl with|[_,_],_=>rfl
 have F13:=bC (st:=tN) l13 c13 k13
 have b13:=F13.binds (ps:=["machine","state","on"]) λ_ _ _ _ _ _ us hl=>match us,hl with|[_,_,_],_=>rfl
 have F14:=bC (st:=gO) l14 c14 k14
 have b14:=F14.binds (ps:=["machine","state","on"]) λ_ _ _ _ _ _ us hl=>match us,hl with|[_,_,_],_=>rfl
 have F15:=bC (st:=dY) l15 c15 k15
 have b15:=F15.binds (ps:=["thing"]) λ_ _ _ _ _ _ us hl=>match us,hl with|[_],_=>rfl
 have F16:=bC (st:=iJ) l16 c16 k16
 have b16:=F16.binds (ps:=["self","machines","store","lack"]) λ_ _ _ _ _ _ us hl=>match us,hl with|[_,_,_,_],_=>rfl
 have F17:=bC (st:=cY) l17 c17 k17
 have b17:=F17.binds (ps:=["works","position","ons","level"]) λ_ _ _ _ _ _ us hl=>match us,hl with|[_,_,_,_],_=>rfl
 have F18:=bC (st:=fO) l18 c18 k18
 have b18:=F18.binds (ps:=["works","position","plan"]) λ_ _ _ _ _ _ us hl=>match us,hl with|[_,_,_],_=>rfl
 have F19:=bC (st:=mQ) l19 c19 k19
 have b19:=F19.binds (ps:=["store","level","later"]) λ_ _ _ _ _ _ us hl=>match us,hl with|[_,_,_],_=>rfl
 have F20:=bC (st:=mR) l20 c20 k20
 have b20:=F20.binds (ps:=["works","level","later"]) λ_ _ _ _ _ _ us hl=>match us,hl with|[_,_,_],_=>rfl
 have F21:=bC (st:=fP) l21 c21 k21
 have b21:=F21.binds (ps:=["works","level","want","planned"]) λ_ _ _ _ _ _ us hl=>match us,hl with|[_,_,_,_],_=>rfl
 have F22:=bC (st:=dZ) l22 c22 k22
 have b22:=F22.binds (ps:=["self"]) λ_ _ _ _ _ _ us hl=>match us,hl with|[_],_=>rfl
 have F23:=bC (st:=dE) l23 c23 k23
 have b23:=F23.binds (ps:=["self","output"]) λ_ _ _ _ _ _ us hl=>match us,hl with|[_,_],_=>rfl
 have F24:=bC (st:=eY) l24 c24 k24
 have b24:=F24.binds (ps:=["works","states","ons"]) λ_ _ _ _ _ _ us hl=>match us,hl with|[_,_,_],_=>rfl
 have F25:=bC (st:=dM) l25 c25 k25
 have b25:=F25.binds (ps:=["works","position","want","planned"]) λ_ _ _ _ _ _ us hl=>match us,hl with|[_,_,_,_],_=>rfl
 have F26:=bC (st:=iA) l26 c26 k26
 have b26:=F26.binds (ps:=["works","position","wants","plan"]) λ_ _ _ _ _ _ us hl=>match us,hl with|[_,_,_,_],_=>rfl
 have F27:=bC (st:=iE) l27 c27 k27
 have b27:=F27.binds (ps:=["works","position","wants","plan"]) λ_ _ _ _ _ _ us hl=>match us,hl with|[_,_,_,_],_=>rfl
 have F28:=bC (st:=fQ) l28 c28 k28
 have b28:=F28.binds (ps:=["store","level","hours"]) λ_ _ _ _ _ _ us hl=>match us,hl with|[_,_,_],_=>rfl
 have F29:=bC (st:=fR) l29 c29 k29
 have b29:=F29.binds (ps:=["works","level","hours"]) λ_ _ _ _ _ _ us hl=>match us,hl with|[_,_,_],_=>rfl
 have F30:=bC (st:=gQ) l30 c30 k30
 have b30:=F30.binds (ps:=["works","level"]) λ_ _ _ _ _ _ us hl=>match us,hl with|[_,_],_=>rfl
 have F31:=bC (st:=gR) l31 c31 k31
 have b31:=F31.binds (ps:=["machine","on","output"]) λ_ _ _ _ _ _ us hl=>match us,hl with|[_,_,_],_=>rfl
 have F32:=bC (st:=iK) l32 c32 k32
 have b32:=F32.binds (ps:=["works","position","hour","planned"]) λ_ _ _ _ _ _ us hl=>match us,hl with|[_,_,_,_],_=>rfl
 have F33:=bC (st:=iL) l33 c33 k33
 have b33:=F33.binds (ps:=["works","position","wants","plan"]) λ_ _ _ _ _ _ us hl=>match us,hl with|[_,_,_,_],_=>rfl
 have F34:=bC (st:=kE) l34 c34 k34
 have b34:=F34.binds (ps:=["machine","state","run"]) λ_ _ _ _ _ _ us hl=>match us,hl with|[_,_,_],_=>rfl
 have F35:=bC (st:=fS) l35 c35 k35
 have b35:=F35.binds (ps:=["machine","state","run"]) λ_ _ _ _ _ _ us hl=>match us,hl with|[_,_,_],_=>rfl
 have F36:=bC (st:=iM) l36 c36 k36
 have b36:=F36.binds (ps:=["machine","state","run"]) λ_ _ _ _ _ _ us hl=>match us,hl with|[_,_,_],_=>rfl
 have F37:=bC (st:=mS) l37 c37 k37
 have b37:=F37.binds (ps:=["machine","state","run"]) λ_ _ _ _ _ _ us hl=>match us,hl with|[_,_,_],_=>rfl
 have F38:=bC (st:=jW) l38 c38 k38
 have b38:=F38.binds (ps:=["ways","behind"]) λ_ _ _ _ _ _ us hl=>match us,hl with|[_,_],_=>rfl
 have F39:=bC (st:=fT) l39 c39 k39
 have b39:=F39.binds (ps:=["places","hour","behind","ways_at"]) λ_ _ _ _ _ _ us hl=>match us,hl with|[_,_,_,_],_=>rfl
 have F40:=bC (st:=dR) l40 c40 k40
 have b40:=F40.binds (ps:=["layers","ways_at"]) λ_ _ _ _ _ _ us hl=>match us,hl with|[_,_],_=>rfl
 have F41:=bC (st:=fZ) l41 c41 k41
 have b41:=F41.binds (ps:=["ways","behind"]) λ_ _ _ _ _ _ us hl=>match us,hl with|[_,_],_=>rfl
 have F42:=bC (st:=kF) l42 c42 k42
 have b42:=F42.binds (ps:=["place","worths","ways_at"]) λ_ _ _ _ _ _ us hl=>match us,hl with|[_,_,_],_=>rfl
 have F43:=bC (st:=gS) l43 c43 k43
 have b43:=F43.binds (ps:=["machine","ways"]) λ_ _ _ _ _ _ us hl=>match us,hl with|[_,_],_=>rfl
 have F44:=bC (st:=dS) l44 c44 k44
 have b44:=F44.binds (ps:=["machine","state","hours"]) λ_ _ _ _ _ _ us hl=>match us,hl with|[_,_,_],_=>rfl
 have F45:=bC (st:=gA) l45 c45 k45
 have b45:=F45.binds (ps:=["machine","state"]) λ_ _ _ _ _ _ us hl=>match us,hl with|[_,_],_=>rfl
 have F46:=bC (st:=iF) l46 c46 k46
 have b46:=F46.binds (ps:=["machine","state","price"]) λ_ _ _ _ _ _ us hl=>match us,hl with|[_,_,_],_=>rfl
 have F47:=bC (st:=cF) l47 c47 k47
 have b47:=F47.binds (ps:=["machine","state","prices"]) λ_ _ _ _ _ _ us hl=>match us,hl with|[_,_,_],_=>rfl
 have F48:=bC (st:=dB) l48 c48 k48
 have b48:=F48.binds (ps:=["machine","state","prices"]) λ_ _ _ _ _ _ us hl=>match us,hl with|[_,_,_],_=>rfl
 have F49:=bC (st:=gH) l49 c49 k49
 have b49:=F49.binds (ps:=["store","level","prices"]) λ_ _ _ _ _ _ us hl=>match us,hl with|[_,_,_],_=>rfl
 have F50:=bC (st:=cL) l50 c50 k50
 have b50:=F50.binds (ps:=["works","position","prices"]) λ_ _ _ _ _ _ us hl=>match us,hl with|[_,_,_],_=>rfl
 have F51:=bC (st:=dU) l51 c51 k51
 have b51:=F51.binds (ps:=["works","position","prices"]) λ_ _ _ _ _ _ us hl=>match us,hl with|[_,_,_],_=>rfl
 have F52:=bC (st:=eZ) l52 c52 k52
 have b52:=F52.binds (ps:=["works","position","wants","prices"]) λ_ _ _ _ _ _ us hl=>match us,hl with|[_,_,_,_],_=>rfl
 have F53:=bC (st:=dW) l53 c53 k53
 have b53:=F53.binds (ps:=["machines"]) λ_ _ _ _ _ _ us hl=>match us,hl with|[_],_=>rfl
 have F54:=bC (st:=iG) l54 c54 k54
 have b54:=F54.binds (ps:=["machines","want","lack"]) λ_ _ _ _ _ _ us hl=>match us,hl with|[_,_,_],_=>rfl
 have F55:=bC (st:=d7) l55 c55 k55
 have b55:=F55.binds (ps:=["machines","want","lack","outputs"]) λ_ _ _ _ _ _ us hl=>match us,hl with|[_,_,_,_],_=>rfl
 have F56:=bC (st:=iN) l56 c56 k56
 have b56:=F56.binds (ps:=["machines","want","lack"]) λ_ _ _ _ _ _ us hl=>match us,hl with|[_,_,_],_=>rfl
 have F57:=bC (st:=fU) l57 c57 k57
 have b57:=F57.binds (ps:=["machines","want","lack"]) λ_ _ _ _ _ _ us hl=>match us,hl with|[_,_,_],_=>rfl
 have F58:=bC (st:=kG) l58 c58 k58
 have b58:=F58.binds (ps:=["_law_hand","_law_by"]) λ_ _ _ _ _ _ us hl=>match us,hl with|[_,_],_=>rfl
 have F59:=bC (st:=kH) l59 c59 k59
 have b59:=F59.binds (ps:=["_law_hand","_law_by"]) λ_ _ _ _ _ _ us hl=>match us,hl with|[_,_],_=>rfl
 have F60:=bC (st:=tO) l60 c60 k60
 have b60:=F60.binds (ps:=["_law_script"]) λ_ _ _ _ _ _ us hl=>match us,hl with|[_],_=>rfl
 have tx:Txt K mg { qU:=f0,qV:=_,qW:=f1,qX:=_,uR:=f2,uS:=_,m8:=f3,m9:=_,uT:=f4,uU:=_,qY:=f5,qZ:=_,y8:=f6,y9:=_,uV:=f7,uW:=_,oM:=f8,oN:=_,kR:=f9,kS:=_,rA:=f10,rB:=_,kT:=f11,kU:=_,kW:=f12,kX:=_,aA4:=f13,aA5:=_,nA:=f14,nB:=_,kY:=f15,kZ:=_,oO:=f16,oP:=_,iQ:=f17,iR:=_,lA:=f18,lB:=_,uX:=f19,uY:=_,uZ:=f20,u4:=_,lC:=f21,lD:=_,lE:=f22,lF:=_,g9:=f23,hJ:=_,nC:=f24,nE:=_,oQ:=f25,oR:=_,rC:=f26,rD:=_,rE:=f27,rF:=_,lG:=f28,lH:=_,lI:=f29,lJ:=_,nF:=f30,nG:=_,nH:=f31,nI:=_,oS:=f32,oU:=_,oV:=f33,oW:=_,rG:=f34,rH:=_,lK:=f35,lM:=_,oX:=f36,oY:=_,u5:=f37,u6:=_,u7:=f38,u9:=_,lN:=f39,lO:=_,iS:=f40,iT:=_,oZ:=f41,o5:=_,rJ:=f42,rK:=_,nJ:=f43,nK:=_,iU:=f44,iV:=_,o6:=f45,o7:=_,rL:=f46,rM:=_,gE:=f47,d8:=_,k_worths_of_states:=kc47,cH:=T47,lP:=f48,iH:=_,k_cheapest_run:=kc48,d9:=T48,jS:=f49,jT:=_,fF:=f50,fG:=_,iW:=f51,iX:=_,nL:=f52,nM:=_,iY:=f53,iZ:=_,rN:=f54,rO:=_,lQ:=f55,lR:=_,o8:=f56,o9:=_,lS:=f57,lT:=_,rP:=f58,rQ:=_,rR:=f59,rS:=_,aJO:=fa,aJP:=_,aR:=C0,cE:=C1,cJ:=C2 }:={ w4:=F0,aCm:=b0,aCn:=W.mg_of X G a0,bP:=F1,bQ:=b1,bR:=W.mg_of X G a1,aAu:=F2,aEa:=b2,aEb:=W.mg_of X G a2,nO:=F3,sO:=b3,sP:=W.mg_of X G a3,vA:=F4,aAv:=b4,aAw:=W.mg_of X G a4,eS:=F5,fX:=b5,fY:=W.mg_of X G a5,zA:=F6,aBX:=b6,aBY:=W.mg_of X G a6,aAx:=F7,aEc:=b7,aEd:=W.mg_of X G a7,vB:=F8,aA6:=b8,aA7:=W.mg_of X G a8,w5:=F9,w6:=b9,w9:=F10,aCo:=b10,aCp:=W.mg_of X G a10,pP:=F11,xA:=b11,xB:=W.mg_of X G a11,xC:=F12,xD:=b12,pQ:=F13,tP:=b13,tT:=W.mg_of X G a13,gX:=F14,jN:=b14,jO:=W.mg_of X G a14,pR:=F15,xE:=b15,xF:=W.mg_of X G a15,aA8:=F16,aA9:=b16,jA:=F17,mU:=b17,mV:=W.mg_of X G a17,pS:=F18,xG:=b18,xH:=W.mg_of X G a18,aAy:=F19,aEe:=b19,aEf:=W.mg_of X G a19,aAz:=F20,aEg:=b20,aEh:=W.mg_of X G a20,pT:=F21,xI:=b21,xJ:=W.mg_of X G a21,xK:=F22,pU:=b22,rT:=F23,lU:=b23,sQ:=F24,zR:=b24,zS:=W.mg_of X G a24,vC:=F25,aBa:=b25,aBb:=W.mg_of X G a25,xM:=F26,aCq:=b26,aCr:=W.mg_of X G a26,xN:=F27,aCs:=b27,aCt:=W.mg_of X G a27,pV:=F28,xO:=b28,xP:=W.mg_of X G a28,pW:=F29,xQ:=b29,xR:=W.mg_of X G a29,sR:=F30,zT:=b30,zU:=W.mg_of X G a30,sS:=F31,zV:=b31,zW:=W.mg_of X G a31,vD:=F32,aBc:=b32,aBd:=W.mg_of X G a32,vE:=F33,aBe:=b33,aBf:=W.mg_of X G a33,xS:=F34,aCu:=b34,aCv:=W.mg_of X G a34,pX:=F35,xT:=b35,xU:=W.mg_of X G a35,vF:=F36,aBg:=b36,aBh:=W.mg_of X G a36,aAA:=F37,aEi:=b37,aEj:=W.mg_of X G a37,vG:=F38,aAB:=b38,aAC:=W.mg_of X G a38,pY:=F39,xV:=b39,xW:=W.mg_of X G a39,mW:=F40,tU:=b40,tV:=W.mg_of X G a40,vH:=F41,aBi:=b41,aBj:=W.mg_of X G a41,xX:=F42,aCw:=b42,aCx:=W.mg_of X G a42,sU:=F43,zX:=b43,zY:=W.mg_of X G a43,mX:=F44,tW:=b44,tX:=W.mg_of X G a44,vI:=F45,aBk:=b45,aBl:=W.mg_of X G a45,rV:=F46,xY:=b46,xZ:=W.mg_of X G a46,jY:=F47,pZ:=b47,jZ:=⟨rfl,th47⟩,p9:=W.mg_of X G a47,qA:=F48,x8:=b48,qE:=⟨rfl,th48⟩,yA:=W.mg_of X G a48,vT:=F49,vU:=b49,vV:=W.mg_of X G a49,jI:=F50,oE:=b50,oF:=W.mg_of X G a50,mY:=F51,tY:=b51,tZ:=W.mg_of X G a51,sV:=F52,zZ:=b52,z0:=W.mg_of X G a52,mZ:=F53,uA:=b53,uB:=W.mg_of X G a53,rW:=F54,yB:=b54,yC:=W.mg_of X G a54,qB:=F55,yD:=b55,yE:=W.mg_of X G a55,lV:=F56,pA:=b56,pB:=W.mg_of X G a56,qC:=F57,yF:=b57,yG:=W.mg_of X G a57,yH:=F58,aCy:=b58,aCz:=W.mg_of X G a58,yI:=F59,aCA:=b59,aCB:=W.mg_of X G a59,aO6:=F60,aRK:=b60,aRL:=W.mg_of X G a60,bE:=⟨pg0,hd0,po0,sa0⟩,aBZ:=W.mg_of X G aC0,aFN:=⟨mk0,a9,i9,kc0⟩,m_Machine_gain:=⟨a12,i12,k12⟩,m_Machine_most:=⟨a22,i22,k22⟩,m_Machine_cost_at:=⟨a23,i23,k23⟩,vJ:=n0_up,qD:=n0_down,jU:=n0_begin,nP:=n0_run,lW:=n0_rest,cV:=n0_least,dX:=n0_pieces,i_Machine:=⟨ia0,in0,it0,im0⟩,vK:=⟨pg1,hd1,po1,sa1⟩,aJQ:=W.mg_of X G aC1,aCC:=n1_cap,aBm:=n1_into,aCD:=n1_out,aAa:=n1_takes,aAb:=n1_gives,i_Store:=⟨ia1,in1,it1,im1⟩,dA:=⟨pg2,hd2,po2,sa2⟩,aJR:=W.mg_of X G aC2,aJS:=⟨mk2,a16,i16,kc2⟩,cB:=n2_machines,fA:=n2_store,jB:=n2_lack,i_Works:=⟨ia2,in2,it2,im2⟩,aFO:=PySem.W.mg_none_of X G aFO,aCE:=PySem.W.mg_none_of X G aCE,aB0:=PySem.W.mg_none_of X G aB0,cN:=PySem.W.mg_none_of X G cN,aFP:=PySem.W.mg_none_of X G aFP,cQ:=PySem.W.mg_none_of X G cQ,lX:=PySem.W.mg_none_of X G lX,nZ:=PySem.W.mg_none_of X G nZ,rX:=PySem.W.mg_none_of X G rX,aAc:=PySem.W.mg_none_of X G aAc,gF:=PySem.W.mg_none_of X G gF,m3:=PySem.W.mg_none_of X G m3,qF:=PySem.W.mg_none_of X G qF,lY:=PySem.W.mg_none_of X G lY,nQ:=PySem.W.mg_none_of X G nQ,rY:=PySem.W.mg_none_of X G rY,eI:=⟨_,W.mg_of X G eI⟩,gY:=⟨_,W.mg_of X G gY⟩,eJ:=⟨_,W.mg_of X G eJ⟩ }
 exact⟨⟨_,th47⟩,⟨_,th48⟩,_,λs v=>.of_eq rfl,λbase _ _=>aQ3 tx⟩
theorem walk{l:PySem.W.OpenLaw}{XP:(Str->Option Value)->Heap->Prop}{YP:World->Heap->Prop}{d:DefRec}{K:Params->W.Frag}(hn:l.most=some 63)(hdf:d.params.defaults=[])(hI:∀(w:World) (h:Heap),YP w h->(K w.params).In h)(F:∀(w:World) (mg:Str->Option Value) (fa:Addr) (h:Heap),(K w.params).In h->h.Ns mainGlobals mg->mg d.name=some (.ref fa)->
   (∃c,PySem.W.codeHdIn (K w.params) c T47=true)/\(∃c,PySem.W.codeHdIn (K w.params) c T48=true)/\∃fd:FuncData,(∀(s:Shared) (u:Value),BindsTo s fd ⟨[u],[]⟩ [("_law_script",u)])/\∀base:Heap,(K w.params).In base->base.Ns mainGlobals mg->bS l.prog w (K w.params) mg base gZ 16 fa fd ["_law_script"] (aHg (K w.params) T47 T48)) (hN:decide ([T47,T48]:List Addr).Nodup=true) (hY:∀(w:World) (h:Heap),YP w h->∀t∈([T47,T48]:List Addr),h.get? t=some { cls:=.none,data:=.fields #[] }) (hK:∀w:World,(K w.params).lookup T47=none/\(K w.params).lookup T48=none) :
  PySem.W.WalkO q loose XP YP l.row.toRowW d [] (λf vs=>PySem.call f vs):=by
 refine L2.aMF (tabs:=[(T47,cS,cT),(T48,gK,gL)]) (n:=63) (k:=16) (x:="_law_script") (sp:=λw=>aHg (K w.params) T47 T48) hn (by decide) hdf ⟨rfl,by decide,by decide⟩ (of_decide_eq_true hN) (λw h Y=>⟨hI w h Y,λt ht=>hY w h Y t.1 ?_⟩) (λw t ht=>?_) (λw mg fa h x1 x2 x3=>?_) (λ_ _ a ns hl hT hS=>?_)
 ·simp only[sZ,Rj9,or_false] at ht
  rcases ht with rfl|rfl <;> simp
 ·have hk:=hK w
  simp only[sZ,Rj9,or_false] at ht
  rcases ht with rfl|rfl
  ·exact hk.1
  ·exact hk.2
 ·obtain⟨c47,c48,rest⟩:=F w mg fa h x1 x2 x3
  refine⟨λt ht=>?_,rest⟩
  simp only[sZ,Rj9,or_false] at ht
  rcases ht with rfl|rfl
  ·exact c47
  ·exact c48
 ·exact⟨a,ns,rfl,hS,hl,hT (T47,cS,cT) (by simp),hT (T48,gK,gL) (by simp),λH' s'=>⟨rfl,s'⟩⟩
end My
open PySem PySem.W PyProof.Rows
set_option maxRecDepth 100000 in
theorem PySem.Challenge.cw_stintwise_k78_whole_no_gap_where_all_is_holds : PySem.Challenge.rw_stintwise_k78_whole_no_gap_where_all_is.Holds := by
 w_on;o_law;k_head;(case hw=>w_witness2)
 k_fill
 refine' My.walk (l:=PySem.Challenge.rw_stintwise_k78_whole_no_gap_where_all_is) rfl rfl (λw h Y=>PySem.W.km_in_of Y) ?F ?hN0 ?hY0 ?hK0
 case F=>
  intro w mg fa h KX G hmg
  refine' My.all_mk KX G hmg ?aC0 ?aC1 ?aC2 ?a0 ?l0 ?c0 ?k0 ?a1 ?l1 ?c1 ?k1 ?a2 ?l2 ?c2 ?k2 ?a3 ?l3 ?c3 ?k3 ?a4 ?l4 ?c4 ?k4 ?a5 ?l5 ?c5 ?k5 ?a6 ?l6 ?c6 ?k6 ?a7 ?l7 ?c7 ?k7 ?a8 ?l8 ?c8 ?k8 ?a9 ?i9 ?l9 ?c9 ?k9 ?a10 ?l10 ?c10 ?k10 ?a11 ?l11 ?c11 ?k11 ?a12 ?i12 ?l12 ?c12 ?k12 ?a13 ?l13 ?c13 ?k13 ?a14 ?l14 ?c14 ?k14 ?a15 ?l15 ?c15 ?k15 ?a16 ?i16 ?l16 ?c16 ?k16 ?a17 ?l17 ?c17 ?k17 ?a18 ?l18 ?c18 ?k18 ?a19 ?l19 ?c19 ?k19 ?a20 ?l20 ?c20 ?k20 ?a21 ?l21 ?c21 ?k21 ?a22 ?i22 ?l22 ?c22 ?k22 ?a23 ?i23 ?l23 ?c23 ?k23 ?a24 ?l24 ?c24 ?k24 ?a25 ?l25 ?c25 ?k25 ?a26 ?l26 ?c26 ?k26 ?a27 ?l27 ?c27 ?k27 ?a28 ?l28 ?c28 ?k28 ?a29 ?l29 ?c29 ?k29 ?a30 ?l30 ?c30 ?k30 ?a31 ?l31 ?c31 ?k31 ?a32 ?l32 ?c32 ?k32 ?a33 ?l33 ?c33 ?k33 ?a34 ?l34 ?c34 ?k34 ?a35 ?l35 ?c35 ?k35 ?a36 ?l36 ?c36 ?k36 ?a37 ?l37 ?c37 ?k37 ?a38 ?l38 ?c38 ?k38 ?a39 ?l39 ?c39 ?k39 ?a40 ?l40 ?c40 ?k40 ?a41 ?l41 ?c41 ?k41 ?a42 ?l42 ?c42 ?k42 ?a43 ?l43 ?c43 ?k43 ?a44 ?l44 ?c44 ?k44 ?a45 ?l45 ?c45 ?k45 ?a46 ?l46 ?c46 ?k46 ?a47 ?l47 ?c47 ?tl47 ?tv47 ?th47 ?k47 ?a48 ?l48 ?c48 ?tl48 ?tv48 ?th48 ?k48 ?a49 ?l49 ?c49 ?k49 ?a50 ?l50 ?c50 ?k50 ?a51 ?l51 ?c51 ?k51 ?a52 ?l52 ?c52 ?k52 ?a53 ?l53 ?c53 ?k53 ?a54 ?l54 ?c54 ?k54 ?a55 ?l55 ?c55 ?k55 ?a56 ?l56 ?c56 ?k56 ?a57 ?l57 ?c57 ?k57 ?a58 ?l58 ?c58 ?k58 ?a59 ?l59 ?c59 ?k59 ?a60 ?l60 ?c60 ?k60 ?pg0 ?hd0 ?po0 ?sa0 ?mk0 ?kc0 ?n0_up ?n0_down ?n0_begin ?n0_run ?n0_rest ?n0_least ?n0_pieces ?ia0 ?in0 ?it0 ?im0 ?pg1 ?hd1 ?po1 ?sa1 ?mk1 ?kc1 ?n1_cap ?n1_into ?n1_out ?n1_takes ?n1_gives ?ia1 ?in1 ?it1 ?im1 ?pg2 ?hd2 ?po2 ?sa2 ?mk2 ?kc2 ?n2_machines ?n2_store ?n2_lack ?ia2 ?in2 ?it2 ?im2 ?aFO ?aCE ?aB0 ?cN ?aFP ?cQ ?lX ?nZ ?rX ?aAc ?gF ?m3 ?qF ?lY ?nQ ?rY ?eI ?gY ?eJ
  (case aC0=>k_is);(case aC1=>k_is);(case aC2=>k_is);(case a0=>k_is);(case l0=>k_is);(case c0=>k_is);(case k0=>k_is);(case a1=>k_is)
  (case l1=>k_is);(case c1=>k_is);(case k1=>k_is);(case a2=>k_is);(case l2=>k_is);(case c2=>k_is);(case k2=>k_is);(case a3=>k_is)
  (case l3=>k_is);(case c3=>k_is);(case k3=>k_is);(case a4=>k_is);(case l4=>k_is);(case c4=>k_is);(case k4=>k_is);(case a5=>k_is)
  (case l5=>k_is);(case c5=>k_is);(case k5=>k_is);(case a6=>k_is);(case l6=>k_is);(case c6=>k_is);(case k6=>k_is);(case a7=>k_is)
  (case l7=>k_is);(case c7=>k_is);(case k7=>k_is);(case a8=>k_is);(case l8=>k_is);(case c8=>k_is);(case k8=>k_is);(case a9=>k_is)
  (case i9=>k_is);(case l9=>k_is);(case c9=>k_is);(case k9=>k_is);(case a10=>k_is);(case l10=>k_is);(case c10=>k_is);(case k10=>k_is)
  (case a11=>k_is);(case l11=>k_is);(case c11=>k_is);(case k11=>k_is);(case a12=>k_is);(case i12=>k_is);(case l12=>k_is);(case c12=>k_is)
  (case k12=>k_is);(case a13=>k_is);(case l13=>k_is);(case c13=>k_is);(case k13=>k_is);(case a14=>k_is);(case l14=>k_is);(case c14=>k_is)
  (case k14=>k_is);(case a15=>k_is);(case l15=>k_is);(case c15=>k_is);(case k15=>k_is);(case a16=>k_is);(case i16=>k_is);(case l16=>k_is)
  (case c16=>k_is);(case k16=>k_is);(case a17=>k_is);(case l17=>k_is);(case c17=>k_is);(case k17=>k_is);(case a18=>k_is);(case l18=>k_is)
  (case c18=>k_is);(case k18=>k_is);(case a19=>k_is);(case l19=>k_is);(case c19=>k_is);(case k19=>k_is);(case a20=>k_is);(case l20=>k_is)
  (case c20=>k_is);(case k20=>k_is);(case a21=>k_is);(case l21=>k_is);(case c21=>k_is);(case k21=>k_is);(case a22=>k_is);(case i22=>k_is)
  (case l22=>k_is);(case c22=>k_is);(case k22=>k_is);(case a23=>k_is);(case i23=>k_is);(case l23=>k_is);(case c23=>k_is);(case k23=>k_is)
  (case a24=>k_is);(case l24=>k_is);(case c24=>k_is);(case k24=>k_is);(case a25=>k_is);(case l25=>k_is);(case c25=>k_is);(case k25=>k_is)
  (case a26=>k_is);(case l26=>k_is);(case c26=>k_is);(case k26=>k_is);(case a27=>k_is);(case l27=>k_is);(case c27=>k_is);(case k27=>k_is)
  (case a28=>k_is);(case l28=>k_is);(case c28=>k_is);(case k28=>k_is);(case a29=>k_is);(case l29=>k_is);(case c29=>k_is);(case k29=>k_is)
  (case a30=>k_is);(case l30=>k_is);(case c30=>k_is);(case k30=>k_is);(case a31=>k_is);(case l31=>k_is);(case c31=>k_is);(case k31=>k_is)
  (case a32=>k_is);(case l32=>k_is);(case c32=>k_is);(case k32=>k_is);(case a33=>k_is);(case l33=>k_is);(case c33=>k_is);(case k33=>k_is)
  (case a34=>k_is);(case l34=>k_is);(case c34=>k_is);(case k34=>k_is);(case a35=>k_is);(case l35=>k_is);(case c35=>k_is);(case k35=>k_is)
  (case a36=>k_is);(case l36=>k_is);(case c36=>k_is);(case k36=>k_is);(case a37=>k_is);(case l37=>k_is);(case c37=>k_is);(case k37=>k_is)
  (case a38=>k_is);(case l38=>k_is);(case c38=>k_is);(case k38=>k_is);(case a39=>k_is);(case l39=>k_is);(case c39=>k_is);(case k39=>k_is)
  (case a40=>k_is);(case l40=>k_is);(case c40=>k_is);(case k40=>k_is);(case a41=>k_is);(case l41=>k_is);(case c41=>k_is);(case k41=>k_is)
  (case a42=>k_is);(case l42=>k_is);(case c42=>k_is);(case k42=>k_is);(case a43=>k_is);(case l43=>k_is);(case c43=>k_is);(case k43=>k_is)
  (case a44=>k_is);(case l44=>k_is);(case c44=>k_is);(case k44=>k_is);(case a45=>k_is);(case l45=>k_is);(case c45=>k_is);(case k45=>k_is)
  (case a46=>k_is);(case l46=>k_is);(case c46=>k_is);(case k46=>k_is);(case a47=>k_is);(case l47=>k_is);(case c47=>k_is);(case tl47=>k_is)
  (case tv47=>exact rfl);(case th47=>kernel_rfl);(case k47=>k_is);(case a48=>k_is);(case l48=>k_is);(case c48=>k_is);(case tl48=>k_is);(case tv48=>exact rfl)
  (case th48=>kernel_rfl);(case k48=>k_is);(case a49=>k_is);(case l49=>k_is);(case c49=>k_is);(case k49=>k_is);(case a50=>k_is);(case l50=>k_is)
  (case c50=>k_is);(case k50=>k_is);(case a51=>k_is);(case l51=>k_is);(case c51=>k_is);(case k51=>k_is);(case a52=>k_is);(case l52=>k_is)
  (case c52=>k_is);(case k52=>k_is);(case a53=>k_is);(case l53=>k_is);(case c53=>k_is);(case k53=>k_is);(case a54=>k_is);(case l54=>k_is)
  (case c54=>k_is);(case k54=>k_is);(case a55=>k_is);(case l55=>k_is);(case c55=>k_is);(case k55=>k_is);(case a56=>k_is);(case l56=>k_is)
  (case c56=>k_is);(case k56=>k_is);(case a57=>k_is);(case l57=>k_is);(case c57=>k_is);(case k57=>k_is);(case a58=>k_is);(case l58=>k_is)
  (case c58=>k_is);(case k58=>k_is);(case a59=>k_is);(case l59=>k_is);(case c59=>k_is);(case k59=>k_is);(case a60=>k_is);(case l60=>k_is)
  (case c60=>k_is);(case k60=>k_is);(case pg0=>k_is);(case hd0=>k_is);(case po0=>k_is);(case sa0=>k_is);(case mk0=>k_is);(case kc0=>k_is)
  (case n0_up=>k_is);(case n0_down=>k_is);(case n0_begin=>k_is);(case n0_run=>k_is);(case n0_rest=>k_is);(case n0_least=>k_is);(case n0_pieces=>k_is);(case ia0=>k_is)
  (case in0=>k_is);(case it0=>k_is);(case im0=>k_is);(case pg1=>k_is);(case hd1=>k_is);(case po1=>k_is);(case sa1=>k_is);(case mk1=>k_is)
  (case kc1=>k_is);(case n1_cap=>k_is);(case n1_into=>k_is);(case n1_out=>k_is);(case n1_takes=>k_is);(case n1_gives=>k_is);(case ia1=>k_is);(case in1=>k_is)
  (case it1=>k_is);(case im1=>k_is);(case pg2=>k_is);(case hd2=>k_is);(case po2=>k_is);(case sa2=>k_is);(case mk2=>k_is);(case kc2=>k_is)
  (case n2_machines=>k_is);(case n2_store=>k_is);(case n2_lack=>k_is);(case ia2=>k_is);(case in2=>k_is);(case it2=>k_is);(case im2=>k_is);(case aFO=>k_is)
  (case aCE=>k_is);(case aB0=>k_is);(case cN=>k_is);(case aFP=>k_is);(case cQ=>k_is);(case lX=>k_is);(case nZ=>k_is);(case rX=>k_is)
  (case aAc=>k_is);(case gF=>k_is);(case m3=>k_is);(case qF=>k_is);(case lY=>k_is);(case nQ=>k_is);(case rY=>k_is);(case eI=>k_is)
  (case gY=>k_is);(case eJ=>k_is)
 case hN0=>exact rfl
 case hY0=>exact λw h Y t ht=>PySem.W.km_tabs_of Y t (by revert t;decide)
 case hK0=>intro w;exact⟨by kernel_rfl,by kernel_rfl⟩
