import PyProof.Rows.All
import Wide.All
import OpenK.AllK
import Wide.FinOn
import Lean
import PyProof.EqAt
import PyProof.EqKinds
import PyProof.NeKinds
import PyProof.TupleCall
import KE.KDictSum
import KE.KSortTup
import KE.KLam
import KE.KNestM
import PyProof.DictItems
import PyProof.DictValues
import PyProof.Rows.TupDisplay
import KE.KItemsList
import KE.KDictOf
import PyProof.AttrMissHeap
import PySem.Challenge.RW_stintwise_k75_prices_raised
set_option Elab.async false
set_option linter.all false
set_option maxRecDepth 100000
set_option compiler.extract_closed false
set_option genSizeOf false
structure PySem.W.Fast:Prop where(tw13695295962957280649 tw15043410304010622848 tw9456999465927447019 tw15498023305781610464 tw14357622118574511621 tw6650077681856793425 tw2882710791225523640 tw8494645521140977783 tw9111159396833173704 tw1922567857698607674 tw12054720579747102369 tw10812088698101057525 tw9133789318036458198 tw5317987715372745991 tw14062129195525536431 tw16609648549606844263 tw14435135855853932592 tw5721947604511632736 tw12492153344543885921 tw2845113964418484897 tw10615353629122537275 tw6159451674700521308 tw17517097692166829781 tw2213681920710258400 tw15274252982040927831 tw9049215444910847423 tw7334384699689185316 tw10446844749874537447 tw14315184895206635747 tw5428361496109853068 tw9666886078249795177 tw5838004681748631237 tw16885231982457870303 tw3733503099814886380 tw1392369307540266678 tw16430677646060826070 tw1759800032616255182 tw10990200358685599477 tw8730951231845676522 tw2302911229490392901 tw4321400264671107153 tw7101877581398266795 tw2594401143408610345 tw6412196185984757299 tw12641164728388598872 tw13064633705554810628 tw5643173250917235696 tw5002637218601531776 tw13992889974107020865 tw12601101082052343255 tw7179034563439978644 tw10509666951841015343 tw10552129946884450343 tw12009623435782594197 tw6212167115999416143 tw8142753378456473099 tw2531053097241916463 tw11667467947809568198 tw4391434449779250901 tw11956693461996953165 tw13316119898252719070 tw2389778086970280229 tw2839796914380692132 tw5228976700192160086 tw17591115949939082025 tw16995016524907591266 tw5585461647005216388 tw5467473590166748893 tw8853741013590741603 tw3434710988134376265 tw9648042407024465995 tw13372814464604931350 tw15756280274068109753 tw9792574541501671676 tw11456975217810752222 tw8970577224663002875 tw2812157361286622742 tw6100362484786603652 tw4688990612412394303 tw16147589095343323458 tw4068685050731003794 tw6261462982728114669 tw12452449663094847253 tw2374896307426929458 tw15885568570976196789 tw16297373226623215106 tw11630518106610911585 tw14617438582684434197 tw6726408572651325055 tw17241058526831893643 tw9994510755358945277 tw10947465140027134957 tw15058376567408982867 tw8814416105821444848 tw2498456548222330380 tw2725376865877961152 tw14912421148851866178 tw10204677336406006844 tw10824624880034670226 tw14453600598393459507 tw12427925138993380507 tw1489246768577912961 tw4317737929086117774 tw12986038927873996837 tw16183270929378514288 tw5030537938306389674 tw8922629174476140957 tw16514066619723102103 tw11519818793985237470 tw18253243260403357046 tw13212690854429343815 tw3508128843757805052 tw18384878365696601667 tw3896299714531646317 tw4441859625393094911 tw17857382453081886441 tw16386763404483781914 tw526543783193941313 tw10150208961470196123 tw2050273574921202720 tw15434357240961973156 tw6586229701965900112 tw5927960330234655519 tw18363937342480127483 tw1238554299350364452 tw17657458857475306823 tw1755975949983158066 tw2369765805985644870 tw6932396123782208129 tw7710339290443606838 tw15026057375122060258 tw11474946157661406061 tw14874364494292162222 tw13111208415128537299 tw14018833592607554762 tw8649001784715594884 tw10684243285455695816 tw3582038200447064357 tw12378504211950957317 tw9156433220589494453 tw8501709320443135540 tw11117118727199514746 tw1737299266663591081 tw13513749320380423486 tw11663341803956328216 tw8456776026119048861 tw2249394418012992648 tw11029037409687413045 tw884157014246547898 tw2380312776652704013 tw9715372311400354159 tw10789145633197072388 tw7376816170057166439 tw6997381260436902300 tw7594594637837389693 tw5478098468854707835 tw7799485009805188787 tw6729878912798364594 tw9653288762976093801 tw15681944532216179834 tw2650614186806795616 tw17363808233509707113 tw16359107318114458909 tw6288405394395861923 tw3963438012522459147 tw6963088187927824288 tw10517945538728767221 tw4081642019416727546 tw8206873827966178560 tw7616256431603704698 tw3932728258728301970 tw16995291202722902894 tw698706727410735419 tw3821209402558304456 tw15540066644216852463 tw14999864765466032601 tw1957890612425070567 tw9800798927478498527 tw10975350356738495331 tw7507323205647763472 tw9634501879717098946 tw17981275451358720576 tw10935233864290704352 tw17206334062199894161 tw17636054040762412173 tw1669614577768221492 tw13704274211062127635 tw14421964814927503256 tw9682127867991589859 tw14498786861082868893 tw4793156102464259408 tw14390606059172605446 tw13594205168254610994 tw11871572332107804701 tw16200521197421821804 tw10983044953034738403 tw10778661639605880294 tw10715560997610245136 tw3815586974752322338 tw13060916067527901496 tw8639047944460506809 tw17962809804127084439 tw9368902692994890531 tw6901160660767448822 tw4006700236573071989 tw15142166691464704821 tw7915013239809309229 tw578439339909958390 tw15361631084818582307 tw9452300300723624289 tw197979550432580145 tw1587219925281537264 tw16136499208351499000 tw9287776976238534578 tw1233329258170486725 tw18377834732924286752 tw11624168529320870263 tw11891712656360643935 tw848691387428613186 tw4980520284366574883 tw15140185502214377412 tw17190300040150668126 tw4813639288741903431 tw12451836049920623649 tw4758398908358684308 tw6346064149269443166 tw18409481682302239543 tw8175943368774055367 tw11836809443359132811 tw10211967757273360987 tw14795639976240662989 tw870210220430793050 tw17669525793412051808 tw14414295633735143961 tw11408817649692825280 tw13911114095949851157 tw12478349285871374148 tw14090268923831258275 tw1282807070636276323 tw11226552791388356610 tw8302538102504004004 tw14264536288033857895 tw10389888960578558461 tw13140869145682253644 tw15504150347119662619 tw4052125204584726150 tw9035198013891077122 tw4399263434898691924 tw13739920099619155248 tw16110780494881602700 tw7086816518687281636 tw9006398080482635558 tw15147239920806324259 tw11660796234565479752 tw15295978455070849470 tw15231329072845517561 tw4431878546126920797 tw8856373652531766833 tw1527074752236965303 tw10439073776297928797 tw6240643229704975668 tw5658260180839511667 tw14207196288880192699 tw11327300177816184754 tw5827959017942513946 tw7155546932027871005 tw13404135264352810161 tw7134695722247986908 tw11861120282839739896 tw9550983034049254626 tw2757834492100699812 tw10880594226900900174 tw9493082414049513266 tw4657311327649957859 tw1644514004183022655 tw7612344982907132778 tw6506636300773321870 tw6299040135618779905 tw199129823270615258 tw18366051935758234314 tw11816747665810739126 tw638611097775643869 tw16842390960175485275 tw15063644140420588232 tw12131277601244178452 tw14885965695516967904 tw13274692010818902584 tw1243742553032336200 tw1653712988917086792 tw18252789548289314015 tw14020036629941237343 tw11542462682088796222 tw6141690394897778919 tw1741911240858124722 tw15372702617820132585 tw9505399688837366008 tw2482464882005063623 tw5668373998315973773 tw11919853569120053593 tw7176118039771464597 tw886587637401765105 tw3082049165217214999 tw15282620261855551808 tw14388757960774015568 tw10772918139446266088 tw7320175288931193978 tw12274566602392650509 tw15760430996744962274 tw18152952814394227113 tw15339644151081101861 tw6129413189512545809 tw1200525021530265981 tw873977111817413207 tw14439896161324313139 tw12523850245152390921 tw1610919581309996631 tw6726970316191249262 tw4453350508813364916 tw3082281469374733327 tw1484712909378361059 tw5951932667806154442 tw17380446957970594108 tw10918325064726220581 tw381067889953926318 tw1758380537894035522 tw17407177414487803735 tw3635373695136811843 tw16505770257641926845 tw15324161940795224830 tw6776575871556358782 tw13488585071970356655 tw5372339991210962024 tw962959513039644433 tw9479899411182610165 tw16078222791417032236 tw15949475494421199032 tw7089735763565593421 tw11206519022730189314:True)
set_option maxHeartbeats 0
def bX:=@List.length_map
def bG:=@PySem.wpAny_bind
def eS:=@List.getElem?_eq_getElem
def eG:=@PySem.Heap.get?_push_of_some
def lU:=@List.getElem?_eq_some_iff
def cM:=@PySem.wpAny_pure
def kP:=@List.mem_of_getElem?
def iR:=@List.size_toArray
def dQ:=@Nat.le_refl
def lA:=@PySem.Heap.get?_push_size
def lB:=@List.length_append
def iK:=@List.map_append
def kQ:=@List.getElem?_map
def fZ:=@List.mem_map
def iB:=@PySem.Heap.lt_size
def qI:=@Nat.lt_of_lt_of_le
def rC:=@List.mem_singleton
def kl:=@Option.map_eq_some_iff
def bZ:=@if_neg
def lC:=@List.mem_cons
def ki:=@List.mem_cons_of_mem
def uC:=@List.take_length
def xI:=@Bool.false_ne_true
def cO:=@if_pos
def oH:=@Nat.ne_of_lt
def oj:=@List.mem_cons_self
def uh:=@List.getElem?_append_left
def vg:=@List.getElem?_append_right
def vf:=@List.getD_eq_getElem?_getD
def uY:=@List.map_cons
def se:=@List.mem_append_right
def oi:=@List.length_cons
def mi:=@decide_eq_true
def qb:=@PySem.wpAny_newObj_type
def oh:=@List.mem_append
def kh:=@List.map_map
def qw:=@of_decide_eq_true
def qa:=@List.length_take
def kr:=@Nat.le_trans
def ve:=@List.getElem?_of_mem
def qu:=@List.lookup_cons
def pz:=@List.append_nil
def rq:=@PySem.wpAny_call_entry
def ot:=@PySem.Heap.size_push
def ko:=@Nat.zero_le
def rp:=@decide_eq_false
def ya:=@Array.length_toList
def vd:=@List.not_mem_nil
def ug:=@List.nodup_cons
def uf:=@List.find?_cons
def rm:=@Nat.lt_irrefl
def wm:=@Bool.and_eq_true
def xy:=@Int.toNat_natCast
def Bp:=@List.getElem?_eq_none
def wk:=@List.length_set
def Bo:=@List.mem_append_left
def AN:=@Bool.false_eq_true
def Ft:=@Array.getElem?_eq_some_iff
def Bn:=@PySem.wpAny_setField_rec
def zg:=@List.mem_filter
def wj:=@List.sum_cons
def vb:=@List.map_nil
def DM:=@List.length_singleton
def Bm:=@PySem.wpAny_dictEntries
def zf:=@List.mem_range
def ud:=@PySem.sizeLine_eq
def wg:=@Nat.ne_of_gt
def Bk:=@List.mem_flatMap
def DL:=@List.filterMap_cons
def sy:=@PySem.wpAny_mono
def Cv:=@Nat.lt_succ_of_lt
def Cu:=@List.take_add_one
def Ct:=@List.pairwise_map
def DK:=@List.map_eq_nil_iff
def He:=@List.mem_of_find?_eq_some
def Bi:=@PySem.wpAny_dictEpoch
def LO:=@PySem.wpAny_typeNameOfWhole_itemiter
def xx:=@Nat.zero_add
def Cs:=@List.getElem_mem
def wc:=@Int.le_refl
def AM:=@PySem.wpAny_holding
def Hb:=@List.length_eq_zero_iff
def Ha:=@Int.eq_ofNat_of_zero_le
def zd:=@Int.add_zero
def DJ:=@List.append_assoc
def DI:=@List.flatMap_cons
def Fs:=@List.replicate_succ
def Fq:=@List.length_pos_iff
def Fp:=@List.flatMap_append
def DH:=@Nat.lt_succ_self
def DG:=@List.all_eq_true
def DF:=@List.any_eq_true
def DE:=@List.flatMap_nil
def G9:=@PySem.Heap.get?_update_self
def LK:=@PySem.wpAny_typeNameOf_itemiter
def LJ:=@Array.getElem?_eq_getElem
def DD:=@List.sum_append
def Bh:=@Int.le_trans
def Bg:=@Int.mul_zero
def Cr:=@PySem.wpAny_attempt
def DC:=@Bool.false_and
def DB:=@PySem.wpAny_setField
def LI:=@List.take_of_length_le
def G8:=@Int.emod_lt_of_pos
def Cq:=@Nat.le_of_lt
def Cp:=@Int.mul_comm
def DA:=@Bool.true_and
def LH:=@List.getElem?_set_ne
def LG:=@List.getElem_toArray
def QL:=@List.drop_eq_getElem_cons
def Fo:=@PySem.wpAny_fieldsOf
def G7:=@List.length_drop
def Co:=@Int.mul_one
def LF:=@List.map_congr_left
def LD:=@List.getElem?_range
def LC:=@List.length_reverse
def LB:=@List.getElem_of_mem
def QK:=@List.getElem?_take_of_lt
def Dz:=@Nat.sub_self
def QJ:=@List.getElem?_replicate
def Lz:=@List.length_nil
def G6:=@Int.emod_nonneg
def QF:=@List.getElem?_set_self
def QD:=@PySem.Heap.get?_update_other
def QC:=@Array.getElem?_eq_none
def Ly:=@List.flatten_cons
def Lw:=@List.length_range
def Lu:=@PySem.Heap.get?_push_ne
def QB:=@List.length_replicate
def Qz:=@Array.getElem?_toList
def Fn:=@List.sum_nil
def Lr:=@PySem.Heap.size_update
def Lp:=@List.getElem_map
def Ln:=@List.drop_length
def Lm:=@List.of_mem_zip
def Ll:=@Nat.min_eq_left
def G5:=@Nat.le_of_eq
def G4:=@Nat.lt_trans
abbrev ao:=List (PySem.Addr×PySem.Obj)
abbrev aw:=List (Int×Int)
abbrev cj:=List (List Int)
abbrev ah:=List PySem.Value
abbrev ae:=List Int
abbrev ak:=List PySem.Str
abbrev au:=List PySem.Addr
abbrev ay:=Option PySem.Value
abbrev aj:=PySem.Value->PySem.Shared->Prop
abbrev ar:=Int×Int
namespace L2
open PySem PySem.Spec PyProof.Rows
abbrev Key:=Sum Int Str
def Cn:Key->Value->Bool
 |.inl k,v=>Value.isInt k v
 |.inr x,v=>Value.isStrOf x v
def aRU(w:World):Key->Int
 |.inl k=>hashInt k
 |.inr x=>hashStr w x
theorem dH:∀{k:Key}{v:Value},Cn k v=true->(∃i t,k=Sum.inl i/\v=Value.int i t)\/(∃x t,k=Sum.inr x/\v=Value.str x t)
 |.inl i,v,h=>by
  obtain⟨t,e⟩:=Value.isInt_shape (k:=i) (v:=v) h;exact .inl ⟨i,t,rfl,e⟩
 |.inr x,v,h=>by
  obtain⟨t,e⟩:=Value.isStrOf_shape (x:=x) (v:=v) h;exact .inr ⟨x,t,rfl,e⟩
theorem aJv(i:Int)(t:Tok):Cn (.inl i) (.int i t)=true:=by simp[Cn,Value.isInt]
theorem aJw(x:Str)(t:Tok):Cn (.inr x) (.str x t)=true:=by simp[Cn,Value.isStrOf]
theorem aOW(a b:Int):decide ((Sum.inl a:Key)=Sum.inl b)=(a == b):=by
 by_cases e:a=b
 ·subst e;simp
 ·have h:¬(Sum.inl a:Key)=Sum.inl b:=λq=>e (Sum.inl.inj q);rw[rp h];exact(beq_eq_false_iff_ne.mpr e).symm
theorem aOX(a b:Str):decide ((Sum.inr a:Key)=Sum.inr b)=decide (a=b):=by
 by_cases e:a=b
 ·subst e;simp
 ·have h:¬(Sum.inr a:Key)=Sum.inr b:=λq=>e (Sum.inr.inj q);rw[rp h,rp e]
theorem aOY(a:Int)(b:Str):decide ((Sum.inl a:Key)=Sum.inr b)=false:=rp (λq=>nomatch q)
theorem aOZ(a:Str)(b:Int):decide ((Sum.inr a:Key)=Sum.inl b)=false:=rp (λq=>nomatch q)
def dO(prog:Program)(w:World):PySem.KeyKind prog w Key where
 is:=Cn
 hash:=aRU w
 inj:=λv a b ha hb=>by
  rcases dH ha with ⟨i,t,rfl,rfl⟩|⟨x,t,rfl,rfl⟩
  ·rcases dH hb with ⟨j,u,rfl,e⟩|⟨y,u,rfl,e⟩
   ·injection e with e1 _;rw[e1]
   ·exact nomatch e
  ·rcases dH hb with ⟨j,u,rfl,e⟩|⟨y,u,rfl,e⟩
   ·exact nomatch e
   ·injection e with e1 _;rw[e1]
 byValue:=λk v h=>by
  rcases dH h with ⟨i,t,rfl,rfl⟩|⟨x,t,rfl,rfl⟩ <;> rfl
 pyHash:=λhv h=>by
  rcases dH hv with ⟨i,t,rfl,rfl⟩|⟨x,t,rfl,rfl⟩
  ·exact wpAny_pyHash_int h
  ·exact wpAny_pyHash_str h
 eqBool:=λhu hv h=>by
  rcases dH hu with ⟨i,t,rfl,rfl⟩|⟨x,t,rfl,rfl⟩
  ·rcases dH hv with ⟨j,u,rfl,rfl⟩|⟨y,u,rfl,rfl⟩
   ·rw[aOW] at h;exact wpAny_eqBool_int h
   ·rw[aOY] at h;exact SeqAt.EqAt.int_str i t y u _ _ _ _ h
  ·rcases dH hv with ⟨j,u,rfl,rfl⟩|⟨y,u,rfl,rfl⟩
   ·rw[aOZ] at h;exact SeqAt.EqAt.str_int x t j u _ _ _ _ h
   ·rw[aOX] at h;exact wpAny_eqBool_str h
 «strs»:=λk x t v h=>by
  rcases dH h with ⟨i,u,rfl,e⟩|⟨y,u,rfl,e⟩
  ·exact nomatch e
  ·injection e with e1 _
   subst e1;cases v <;> rfl
theorem aGb(prog:Program)(w:World)(i:Int)(t:Tok):(dO prog w).is (.inl i) (.int i t)=true:=aJv i t
theorem aGc(prog:Program)(w:World)(x:Str)(t:Tok):(dO prog w).is (.inr x) (.str x t)=true:=aJw x t
inductive V where
 |bt|bl (b:Bool)|int (i:Int)|str (x:Str)|ES (b:Array UInt8)|qt (b:UInt64)|ref (a:Addr)|ty (n:String)
 deriving DecidableEq
def RelV:V->Value->Prop
 |.bt,u=>u=Value.none
 |.bl b,u=>u=Value.bool b
 |.int i,u=>∃t,u=Value.int i t
 |.str x,u=>∃t,u=Value.str x t
 |.ES b,u=>∃t,u=Value.bytes b t
 |.qt b,u=>∃t,u=Value.float b t
 |.ref a,u=>u=Value.ref a
 |.ty n,u=>u=Value.type n
abbrev Vals:List V->ah->Prop:=Paired RelV
theorem Vals.length{xs:List V}{us:ah}(r:Vals xs us):xs.length=us.length:=Paired.length r
theorem Vals.get:∀{xs:List V}{us:ah}{i:Nat}{x:V},Vals xs us->xs[i]?=some x->∃u,us[i]?=some u/\RelV x u
 |_,_,_,_,.nil,e=>by simp at e
 |_,_,0,_,.cons r _,e=>by simp at e;subst e;exact⟨_,rfl,r⟩
 |_,_,i+1,x,.cons _ t,e=>by
  obtain⟨u,h1,h2⟩:=Vals.get (i:=i) (x:=x) t (by simpa using e);exact⟨u,by simpa using h1,h2⟩
theorem Vals.set(r:RelV x u):∀{xs:List V}{us:ah}(i:Nat),Vals xs us->Vals (xs.set i x) (us.set i u)
 |_,_,_,.nil=>.nil
 |_,_,0,.cons _ t=>.cons r t
 |_,_,i+1,.cons q t=>.cons q (Vals.set r i t)
theorem Vals.append:∀{xs ys:List V}{us ws:ah},Vals xs us->Vals ys ws->Vals (xs++ys) (us++ws)
 |_,_,_,_,.nil,s=>s
 |_,_,_,_,.cons r t,s=>.cons r (Vals.append t s)
theorem Vals.take:∀{xs:List V}{us:ah}(n:Nat),Vals xs us->Vals (xs.take n) (us.take n)
 |_,_,0,_=>.nil
 |_,_,_+1,.nil=>.nil
 |_,_,n+1,.cons r t=>.cons r (Vals.take n t)
theorem Vals.drop:∀{xs:List V}{us:ah}(n:Nat),Vals xs us->Vals (xs.drop n) (us.drop n)
 |_,_,0,r=>r
 |_,_,_+1,.nil=>.nil
 |_,_,n+1,.cons _ t=>Vals.drop n t
def rD:Option V->ay->Prop
 |some v,some u=>RelV v u
 |none,none=>True
 |_,_=>False
def KV{κ:Type}:List (κ×V)->List (κ×Value)->Prop:=Paired λ(p:κ×V) (q:κ×Value)=>p.1=q.1/\RelV p.2 q.2
def kV:Key->V
 |.inl i=>.int i
 |.inr x=>.str x
inductive HO where
 |lst (xs:List V)
 |tup (xs:List V)
 |dK (kvs:List (Key×V))|dT (kvs:List (List Key×V))
 |set (S:Int->Bool) (n:Nat)
 |ins (C dx:Addr) (fs:List (Str×V))
 |own (x:Addr)
 |xd (fs:List (Str×V))
 |met (f x:Addr)
 |Ai (lo hi:Int)
 |bu (o:Obj) (u:HO)
 |BO (ps:Array Value)
 |ext (φ:Heap->Prop)
 |xv (q:Str)|pq (pos:Pos) (q:Str)
def Sty:HO->Prop
 |.tup _=>True
 |.xv _=>True
 |_=>False
abbrev Hp:=Addr->Option HO
def upd(H:Hp)(a:Addr)(o:HO):Hp:=λb=>if b=a then some o else H b
theorem aN:upd H a o a=some o:=by unfold upd;rw[cO rfl]
theorem aT{H:Hp}(h:b≠a):upd H a o b=H b:=by unfold upd;rw[bZ h]
theorem gN:upd (upd H a o) a u=upd H a u:=by
 funext b;unfold upd;split <;> rfl
theorem X8{H:Hp}{a b:Addr}{o u:HO}(h:H a=some o)(h':H b=some u)(d:o≠u):a≠b:=by
 intro e;subst e;rw[h] at h';exact d (Option.some.inj h')
theorem bM{H:Hp}{a b:Addr}{o:HO}(h:H a=some o)(h':H b=none):a≠b:=by
 intro e;subst e;rw[h] at h';cases h'
section
variable(P:Program)(w:World)
def bS(H:Hp)(h:Heap)(a:Addr):HO->Prop
 |.lst xs=>xs.length<=sizeLine/\∃(its:ah) (n:Nat),Vals xs its/\h.get? a=some { cls:=.type "list",data:=.seq its.toArray n }
 |.tup xs=>xs.length<=sizeLine/\∃its:ah,Vals xs its/\IsTup h a its.toArray
 |.dK kvs=>kvs.length<=sizeLine/\(a == sysModules)=false/\∃vs,KV kvs vs/\h.DictOf (dO P w) a vs
 |.dT kvs=>kvs.length<=sizeLine/\(a == sysModules)=false/\∃xs:List (List Key×Addr×Value),
   Paired (λ(p:List Key×V) (q:List Key×Addr×Value)=>p.1=q.1/\H q.2.1=some (.tup (p.1.map kV))/\RelV p.2 q.2.2) kvs xs/\
   ∃o es ep,h.get? a=some o/\o.ExactDict/\o.data=.dict es ep/\es.toList=xs.map (entryOfKey (tupleKind (dO P w)))/\(xs.map (·.1)).Nodup
 |.set S n=>h.SetOf (intKind P w) a S n
 |.ins C dx fs=>H dx=some (.own a)/\fs.length<=1000/\dx≠a/\h.get? a=some (PySem.W.instObj C dx)/\
   ∃mA,h.Ns1 dx mA/\(∀f,rD (fs.lookup f) (mA f))/\PySem.Within mA (fs.map (·.1))
 |.own _=>∃o,h.get? a=some o
 |.xd fs=>∃mA,h.Ns1 a mA/\∀f,rD (fs.lookup f) (mA f)
 |.Ai lo hi=>∃t u v,h.get? a=some { cls:=.type "range",data:=.fields #[.int lo t,.int hi u,.int 1 v] }
 |.bu o u=>h.get? a=some o/\bS H h a u
 |.BO ps=>h.get? a=some { cls:=.none,data:=.fields ps }
 |.met f x=>h.get? a=some (PySem.W.methodObj (.ref f) (.ref x))
 |.ext φ=>φ h/\(∃o,h.get? a=some o)/\∀h1 h2:Heap,φ h1->(∀o,h1.get? a=some o->h2.get? a=some o)->φ h2
 |.xv q=>∃o vs t,h.get? a=some o/\o.data=.fields vs/\vs[1]?=some (.str q t)
 |.pq pos q=>∃ps:Array Value,h.get? a=some { cls:=.none,data:=.fields ps }/\TriplesOk ps.toList/\(codeAmong pos ps.toList=none\/∃c,codeAmong pos ps.toList=some (.ref c)/\H c=some (.xv q))
def o9(H:Hp)(h:Heap):Prop:=∀a o,H a=some o->bS P w H h a o
end
section
variable{P:Program}{w:World}{H H':Hp}{h h':Heap}{a:Addr}{o:HO}
theorem bS.lt(x:bS P w H h a o):a < h.objs.size:=by
 cases o with
 |lst xs=>obtain⟨_,_,_,_,e⟩:=x;exact iB e
 |tup xs=>obtain⟨_,_,_,p⟩:=x;exact p.lt
 |dK kvs=>obtain⟨_,_,_,_,o,_,_,e,_⟩:=x;exact iB e
 |dT kvs=>obtain⟨_,_,_,_,o,_,_,e,_⟩:=x;exact iB e
 |set S n=>obtain⟨o,_,_,_,e,_⟩:=x;exact iB e
 |ins C dx fs=>obtain⟨_,_,_,e,_⟩:=x;exact iB e
 |own y=>obtain⟨_,e⟩:=x;exact iB e
 |xd fs=>obtain⟨_,⟨_,_,_,e,_⟩,_⟩:=x;exact iB e
 |Ai lo hi=>obtain⟨_,_,_,e⟩:=x;exact iB e
 |bu ob u=>obtain⟨e,_⟩:=x;exact iB e
 |BO ps=>exact iB (show h.get? a=some _ from x)
 |met f y=>exact iB (show h.get? a=some _ from x)
 |ext φ=>obtain⟨_,⟨_,e⟩,_⟩:=x;exact iB e
 |xv q=>obtain⟨_,_,_,e,_⟩:=x;exact iB e
 |pq pos q=>obtain⟨_,e,_⟩:=x;exact iB e
theorem Paired.OJ{α β:Type}{F G:α->β->Prop}:∀{Hz:List α}{Hy:List β},Paired F Hz Hy->(∀a b,F a b->G a b)->Paired G Hz Hy
 |_,_,.nil,_=>.nil
 |_,_,.cons r t,f=>.cons (f _ _ r) (Paired.OJ t f)
theorem bS.wK(x:bS P w H h a o)(k:∀b u,(b=a\/H b=some (.own a))->h.get? b=some u->h'.get? b=some u)
  (ho:∀b,H b=some (.own a)->H' b=some (.own a)) (ht:∀b u,Sty u->H b=some u->H' b=some u):bS P w H' h' a o:=by
 induction o with
 |lst xs=>obtain⟨z,its,n,r,e⟩:=x;exact⟨z,its,n,r,k _ _ (.inl rfl) e⟩
 |tup xs=>obtain⟨z,its,r,ob,e,c⟩:=x;exact⟨z,its,r,ob,k _ _ (.inl rfl) e,c⟩
 |dK kvs=>obtain⟨z,y,vs,r,ob,es,ep,e,c⟩:=x;exact⟨z,y,vs,r,ob,es,ep,k _ _ (.inl rfl) e,c⟩
 |dT kvs=>
  obtain⟨z,y,xs,r,ob,es,ep,e,c⟩:=x;exact⟨z,y,xs,Paired.OJ r λp q z=>⟨z.1,ht _ _ trivial z.2.1,z.2.2⟩,ob,es,ep,k _ _ (.inl rfl) e,c⟩
 |set S n=>obtain⟨ob,es,ep,t,e,c⟩:=x;exact⟨ob,es,ep,t,k _ _ (.inl rfl) e,c⟩
 |ins C dx fs=>
  obtain⟨d,z,ne,e,mA,⟨od,es,ep,e2,c⟩,r⟩:=x;exact⟨ho _ d,z,ne,k _ _ (.inl rfl) e,mA,⟨od,es,ep,k _ _ (.inr d) e2,c⟩,r⟩
 |own y=>obtain⟨ob,e⟩:=x;exact⟨ob,k _ _ (.inl rfl) e⟩
 |xd fs=>obtain⟨mA,⟨od,es,ep,e,c⟩,r⟩:=x;exact⟨mA,⟨od,es,ep,k _ _ (.inl rfl) e,c⟩,r⟩
 |Ai lo hi=>obtain⟨t,u,v,e⟩:=x;exact⟨t,u,v,k _ _ (.inl rfl) e⟩
 |bu ob u ih=>obtain⟨e,q⟩:=x;exact⟨k _ _ (.inl rfl) e,ih q⟩
 |BO ps=>
  have e:h.get? a=some { cls:=.none,data:=.fields ps }:=x;show h'.get? a=some { cls:=.none,data:=.fields ps };exact k a _ (.inl rfl) e
 |met f y=>
  have e:h.get? a=some (PySem.W.methodObj (.ref f) (.ref y)):=x;show h'.get? a=some (PySem.W.methodObj (.ref f) (.ref y));exact k a _ (.inl rfl) e
 |ext φ=>obtain⟨p,⟨o,e⟩,st⟩:=x;exact⟨st _ _ p λo q=>k _ _ (.inl rfl) q,⟨o,k _ _ (.inl rfl) e⟩,st⟩
 |xv q=>obtain⟨o,vs,t,e,r⟩:=x;exact⟨o,vs,t,k _ _ (.inl rfl) e,r⟩
 |pq pos q=>
  obtain⟨ps,e,t,c⟩:=x;refine⟨ps,k _ _ (.inl rfl) e,t,?_⟩;rcases c with c|⟨c,e1,e2⟩
  ·exact .inl c
  ·exact .inr ⟨c,e1,ht _ _ trivial e2⟩
theorem o9.lt(x:o9 P w H h)(e:H a=some o):a < h.objs.size:=(x a o e).lt
theorem o9.fresh(x:o9 P w H h)(e:h.objs.size<=a):H a=none:=by
 cases q:H a with
 |none=>rfl
 |some u=>exact absurd (qI (x.lt q) e) (rm _)
theorem o9.kept(x:o9 P w H h)(k:∀b u,h.get? b=some u->h'.get? b=some u):o9 P w H h':=λa o e=>
 (x a o e).wK (λb u _ q=>k b u q) (λ_ q=>q) λ_ _ _ q=>q
theorem o9.laid(x:o9 P w H h)(k:∀b u,h.get? b=some u->h'.get? b=some u)(hp:h.objs.size<=a)(new:bS P w (upd H a o) h' a o):o9 P w (upd H a o) h':=λb u e=>by
 have hn:=x.fresh hp;by_cases hb:b=a
 ·subst hb;rw[aN] at e;cases e;exact new
 ·rw[aT hb] at e;exact(x b u e).wK (λc v _ q=>k c v q) (λc q=>by rw[aT (bM q hn)];exact q) λc xs _ q=>by rw[aT (bM q hn)];exact q
end
def Rd(H:Hp)(a:Addr)(u:HO):Prop:=H a=some u\/∃o,H a=some (.bu o u)
theorem Rd.of(h:H a=some u):Rd H a u:=.inl h
theorem Rd.ok(r:Rd H a u)(x:o9 P w H h):bS P w H h a u:=by
 rcases r with r|⟨o,r⟩
 ·exact x a u r
 ·obtain⟨_,q⟩:=x a _ r;exact q
def Hj:Option HO->Prop
 |some (.lst _)=>True
 |some (.dK _)=>True
 |some (.dT _)=>True
 |some (.set _ _)=>True
 |some (.ins _ _ _)=>True
 |some (.ext _)=>True
 |_=>False
section
variable{P:Program}{w:World}{H:Hp}{h h':Heap}{x e:Addr}{o':HO}
theorem o9.write(ok:o9 P w H h)(mu:Hj (H x))(he:e=x\/H e=some (.own x))(k:∀b u,b≠e->h.get? b=some u->h'.get? b=some u)(EA:∃u,h'.get? e=some u)
  (new:bS P w (upd H x o') h' x o'):o9 P w (upd H x o') h':=λb u q=>by
 have Hu:∀c y,H c=some (.own y)->c≠x:=λc y r z=>by subst z;rw[r] at mu;exact mu
 have GD:∀c u,Sty u->H c=some u->c≠x:=λc u y r z=>by
  subst z;rw[r] at mu;cases u <;> first|exact mu|exact y
 by_cases hb:b=x
 ·subst hb;rw[aN] at q;cases q;exact new
 ·rw[aT hb] at q;by_cases As:b=e
  ·have q':H b=some (.own x):=by
    rcases he with z|z
    ·exact absurd (As.trans z) hb
    ·rw[As];exact z
   rw[q] at q';cases q';obtain⟨v,hv⟩:=EA;exact⟨v,by rw[As];exact hv⟩
  ·refine(ok b u q).wK (λc v hc r=>k c v ?_ r) (λc r=>by rw[aT (Hu c b r)];exact r) λc xs y r=>by rw[aT (GD c xs y r)];exact r
   rcases hc with rfl|hc
   ·exact As
   ·rintro rfl;rcases he with z|z
    ·exact Hu c b hc z
    ·rw[hc] at z;cases z;exact hb rfl
end
structure Un(fs ex:au)(H H':Hp)(h h':Heap):Prop where
 keep:∀b o,h.get? b=some o->H b=none->b∉fs->b∉ex->h'.get? b=some o
 slot:∀b o,h.get? b=some o->H b=none->b∈fs->b∉ex->∃sl,h'.get? b=some { o with slots:=sl }
 free:∀b o,h.get? b=some o->H b=none->b∉ex->H' b=none
 there:∀b o,h.get? b=some o->b∉ex->∃o',h'.get? b=some o'
 pA:∀b xs,H b=some (.tup xs)->H' b=some (.tup xs)
 dm:∀b o u,H b=some (.bu o u)->H' b=some (.bu o u)
 jb:∀b ps,H b=some (.BO ps)->∃more,H' b=some (.BO (ps++more))
section
variable{fs fs' ex ex':au}{H H1 H2:Hp}{h h1 h2 h':Heap}{a x e:Addr}{o:HO}
theorem Un.any(u:Un fs ex H H1 h h1)(q:h.get? b=some ob)(n:H b=none)(hx:b∉ex):∃sl,h1.get? b=some { ob with slots:=sl }:=by
 by_cases hb:b∈fs
 ·exact u.slot b ob q n hb hx
 ·exact⟨ob.slots,u.keep b ob q n hb hx⟩
theorem Un.trans(a:Un fs ex H H1 h h1)(b:Un fs ex H1 H2 h1 h2):Un fs ex H H2 h h2 where
 keep:=λc ob q n hc hx=>b.keep c ob (a.keep c ob q n hc hx) (a.free c ob q n hx) hc hx
 slot:=λc ob q n hc hx=>by
  obtain⟨sl,e1⟩:=a.slot c ob q n hc hx;obtain⟨Mm,e2⟩:=b.slot c _ e1 (a.free c ob q n hx) hc hx;exact⟨Mm,e2⟩
 free:=λc ob q n hx=>by
  obtain⟨o',e1⟩:=a.there c ob q hx;exact b.free c o' e1 (a.free c ob q n hx) hx
 there:=λc ob q hx=>by
  obtain⟨o',e1⟩:=a.there c ob q hx;exact b.there c o' e1 hx
 pA:=λc xs q=>b.pA c xs (a.pA c xs q)
 dm:=λc ob xs q=>b.dm c ob xs (a.dm c ob xs q)
 jb:=λc ps q=>by
  obtain⟨m1,e1⟩:=a.jb c ps q;obtain⟨m2,e2⟩:=b.jb c _ e1;exact⟨m1++m2,by rw[e2,Array.append_assoc]⟩
theorem Un.kept(k:∀b u,h.get? b=some u->h'.get? b=some u):Un fs ex H H h h':=
 ⟨λb ob q _ _ _=>k b ob q,λb ob q _ _ _=>⟨ob.slots,k b ob q⟩,λ_ _ _ n _=>n,λb ob q _=>⟨ob,k b ob q⟩,λ_ _ q=>q,λ_ _ _ q=>q,λ_ ps q=>⟨#[],by rw[q];simp⟩⟩
theorem Un.refl:Un fs ex H H h h:=Un.kept λ_ _ q=>q
theorem Un.laid(k:∀b u,h.get? b=some u->h'.get? b=some u)(hp:h.objs.size<=a)(hn:H a=none):Un fs ex H (upd H a o) h h' where
 keep:=λb u q _ _ _=>k b u q
 slot:=λb u q _ _ _=>⟨u.slots,k b u q⟩
 free:=λb u q n _=>by rw[aT (oH (qI (iB q) hp))];exact n
 there:=λb u q _=>⟨u,k b u q⟩
 pA:=λb xs q=>by rw[aT (bM q hn)];exact q
 dm:=λb u xs q=>by rw[aT (bM q hn)];exact q
 jb:=λb ps q=>⟨#[],by rw[aT (bM q hn),q];simp⟩
theorem Un.write(mu:Hj (H x))(he:e=x\/H e=some (.own x))(k:∀b u,b≠e->h.get? b=some u->h'.get? b=some u)(EA:∃u,h'.get? e=some u):Un fs ex H (upd H x o) h h':=by
 have hx:∀b,H b=none->b≠x:=λb n z=>by subst z;rw[n] at mu;exact mu
 have hb:∀b,H b=none->b≠e:=λb n z=>by
  subst z;rcases he with r|r
  ·exact hx b n r
  ·rw[n] at r;cases r
 have hm:∀b u,H b=some u->¬Hj (some u)->b≠x:=λb u q nm z=>by subst z;rw[q] at mu;exact nm mu
 refine⟨λb u q n _ _=>k b u (hb b n) q,λb u q n _ _=>⟨u.slots,k b u (hb b n) q⟩,λb u q n _=>by rw[aT (hx b n)];exact n,λb u q _=>?_,
  λb xs q=>by rw[aT (hm b _ q λz=>z)];exact q,λb u xs q=>by rw[aT (hm b _ q λz=>z)];exact q,λb ps q=>⟨#[],by rw[aT (hm b _ q λz=>z),q];simp⟩⟩
 by_cases As:b=e
 ·subst As;exact EA
 ·exact⟨u,k b u As q⟩
end
def IQ(h:Heap)(H:Hp):au:=(List.range h.objs.size).filter λa=>(H a).isSome
def uN(h:Heap)(H:Hp):Heap:=PySem.W.hideAll h (IQ h H)
theorem aEk(h:Heap)(H:Hp):(uN h H).objs.size=h.objs.size:=PySem.W.hideAll_size _ _
theorem ZI{h:Heap}(e:h.get? b=some o)(n:H b=none):(uN h H).get? b=some o:=
 PySem.W.hideAll_get _ e λhm=>by
  have q:(H b).isSome=true:=(zg.mp hm).2;rw[n] at q;simp at q
theorem Za{h:Heap}{H:Hp}(e:(uN h H).get? b=some o):h.get? b=some o/\H b=none:=by
 have e':h.get? b=some o:=PySem.W.of_hideAll (IQ h H) e;refine⟨e',?_⟩;cases q:H b with
 |none=>rfl
 |some x=>
  have hm:b∈IQ h H:=zg.mpr ⟨zf.mpr (iB e'),by simp[q]⟩;have z:(uN h H).get? b=none:=PySem.W.hideAll_none (IQ h H) hm;rw[z] at e;cases e
def aMU(g h:Heap)(L:Addr):ao:=(List.range h.objs.size).filterMap λa=>if a=L\/(g.get? a).isSome=true then none else (h.get? a).map λo=>(a,o)
def rest(g h:Heap)(L d:Addr):ao:=(aMU g h L).filter λp=>decide (p.1≠d)
structure Mod(K:W.Frag)(mg:Str->ay)(base:Heap):Prop where
 CZ:K.In base
 glob:base.Ns mainGlobals mg
 blt:∃mb,base.Ns builtinsNs mb/\∀x:Str,x≠"__name__"->mb x=bootBuiltins x
 nolimit:base.NoLimit
 bm:∃bm o,mg "__builtins__" = some (.ref bm)/\bm≠builtinsNs/\base.get? bm=some o/\o.cls=.type "module"/\o.dict=some builtinsNs/\o.data=.plain
structure Cx where
 prog:Program
 w:World
 K:W.Frag
 mg:Str->ay
 base:Heap
 A:Around
 N:ak
 cq:Shared
 sg:Hp
 env:Env
 outer:List Env
 stack:List Env
 ex:au
 fn:Str->Bool
 calm:Bool
 pn:ao
 xe:aj
def mh(l:List Env):au:=l.filterMap (·.frame)
abbrev Cx.fs(X:Cx):au:=mh X.outer
def Dy(sc:Scope)(x:Str):Prop:=sc.names.lookup x=some .local\/sc.names.lookup x=some .cell\/sc.names.lookup x=some .free
def Loc(sc:Scope)(x:Str):Prop:=sc.names.lookup x=some .local\/sc.names.lookup x=some .cell
def Look(env:Env)(h:Heap)(m:Str->ay)(x:Str)(u:Value):Prop:=
 (env.kindOf x=some .local/\m x=some u)\/((env.kindOf x=some .cell\/env.kindOf x=some .free)/\∃c,env.cells.lookup x=some c/\h.IsCell c (some u))
structure Cx.Ok(X:Cx):Prop where
 mod:Mod X.K X.mg X.base
 kind:X.env.scope.kind=.function
 glob:X.env.globals=mainGlobals
 blt:X.env.builtins=builtinsNs
 above:X.cq.heap.objs.size<=X.env.locals
 inj:∀x y c,X.env.cells.lookup x=some c->X.env.cells.lookup y=some c->x=y
 has:∀x,(X.env.kindOf x=some .cell\/X.env.kindOf x=some .free)->∃c,X.env.cells.lookup x=some c
 B7:∀x c,X.fn x=true->X.env.cells.lookup x=some c->X.cq.heap.objs.size<=c
 hd:X.calm=true->X.A.handled=none
 frames:X.A.frames=some X.stack
 BR:X.stack=X.outer\/(X.stack=X.env::X.outer/\X.env.frame=some X.env.locals)
 J0:∀b∈X.ex,b≠X.env.locals/\∀x c,X.env.cells.lookup x=some c->c≠b
 bs:∀b o,X.base.get? b=some o->X.cq.heap.get? b=some o/\X.sg b=none
 yu:X.base.objs.size<=X.cq.heap.objs.size
 uo:∀b o,X.base.get? b=some o->b∉X.ex
 xa:∀b∈X.ex,b∉X.fs
 uO:X.cq.heap.FunFrames X.base X.outer
 AD:∀b∈X.fs,X.sg b=none
structure Inv(X:Cx)(pins:ao)(σ:List (Option V))(H:Hp)(s:Shared):Prop where
 ok:X.Ok
 os:s.os=X.cq.os
 bare:AllBare s.gens
 base:Un X.fs X.ex X.sg H X.cq.heap s.heap
 loc:∃m,s.heap.Ns X.env.locals m/\∀(i:Nat) (x:Str) (v:V),X.N[i]?=some x->σ[i]?=some (some v)->Dy X.env.scope x->∃u,RelV v u/\Look X.env s.heap m x u
 cell:∀x c,X.env.cells.lookup x=some c->∃v,s.heap.IsCell c v
 free:H X.env.locals=none
 df:∀x c,X.env.cells.lookup x=some c->H c=none
 pin:∀p∈X.pn++pins,s.heap.get? p.1=some p.2/\H p.1=none/\p.1≠X.env.locals/\p.1∉X.fs/\∀v,p.2.data≠.cell v
 bc:o9 X.prog X.w H s.heap
 len:σ.length=X.N.length
section
variable{X:Cx}{pins:ao}{σ:List (Option V)}{H H':Hp}{s:Shared}{h':Heap}
theorem Cx.Ok.aRV(ok:X.Ok)(e:X.base.get? b=some o):b∉X.fs:=λhb=>by
 have:=(ok.uO.mem hb).1;rw[e] at this;cases this
theorem Inv.bs(I:Inv X pins σ H s):∀b o,X.base.get? b=some o->s.heap.get? b=some o/\H b=none:=λb o e=>
 ⟨I.base.keep b o (I.ok.bs b o e).1 (I.ok.bs b o e).2 (I.ok.aRV e) (I.ok.uo b o e),I.base.free b o (I.ok.bs b o e).1 (I.ok.bs b o e).2 (I.ok.uo b o e)⟩
theorem Inv.bk(I:Inv X pins σ H s):∀b o,X.base.get? b=some o->s.heap.get? b=some o:=λb o e=>(I.bs b o e).1
theorem Inv.mod(I:Inv X pins σ H s):Mod X.K X.mg X.base:=I.ok.mod
theorem Inv.kg(I:Inv X pins σ H s):X.K.In s.heap:=I.ok.mod.CZ.keeps I.bk
theorem Inv.lt(I:Inv X pins σ H s):X.env.locals < s.heap.objs.size:=let ⟨_,hn,_⟩:=I.loc;hn.lt
theorem Inv.sz(I:Inv X pins σ H s):X.cq.heap.objs.size<=s.heap.objs.size:=kr I.ok.above (Cq I.lt)
theorem Inv.aRW(I:Inv X pins σ H s)(h:s.heap.objs.size<=a):a∉X.fs:=λhb=>by
 obtain⟨_,o,ho,_⟩:=I.ok.uO.mem hb;exact absurd (qI (iB ho) (kr I.sz h)) (rm _)
theorem Inv.B6(I:Inv X pins σ H s):∀x c,X.env.cells.lookup x=some c->c≠X.env.locals:=λx c e z=>by
 obtain⟨v,o,ho,hd⟩:=I.cell x c e;obtain⟨m,⟨o',es,ep,yl,ED,_⟩,_⟩:=I.loc;rw[z,yl] at ho;cases ho;rw[ED] at hd;cases hd
theorem Inv.uO(I:Inv X pins σ H s):s.heap.FunFrames X.base X.outer:=by
 have all:∀(l:List Env),(∀b∈mh l,b∈X.fs)->X.cq.heap.FunFrames X.base l->s.heap.FunFrames X.base l:=by
  intro l;induction l with
  |nil=>intro _ _;trivial
  |cons env r ih=>
   intro hs hl;obtain⟨hk,⟨L,o,hf,hn,ho,hd⟩,hr⟩:=hl;have hL:L∈X.fs:=hs L (by unfold mh;rw[DL,hf];exact oj);obtain⟨sl,e⟩:=I.base.slot L o ho (I.ok.AD L hL) hL λz=>I.ok.xa L z hL;exact⟨hk,⟨L,_,hf,hn,e,hd⟩,ih (λb hb=>hs b (by unfold mh;rw[DL,hf];exact ki _ hb)) hr⟩
 exact all X.outer (λ_ hb=>hb) I.ok.uO
theorem Inv.stack(I:Inv X pins σ H s):s.heap.FunFrames X.base X.stack:=by
 rcases I.ok.BR with e|⟨e,hf⟩
 ·rw[e];exact I.uO
 ·rw[e];obtain⟨m,hn,_⟩:=I.loc;refine .cons (by rw[I.ok.kind];decide) hf hn ?_ I.uO;exact Heap.get?_none_of_le (kr I.ok.yu I.ok.above)
theorem Inv.G0(I:Inv X pins σ H s):∀b∈mh X.stack,b∈X.env.locals::X.fs:=λb hb=>by
 rcases I.ok.BR with e|⟨e,hf⟩
 ·rw[e] at hb;exact ki _ hb
 ·rw[e] at hb;unfold mh at hb;rw[DL,hf] at hb;exact hb
theorem Inv.Ld(I:Inv X pins σ H s):∀b∈mh X.stack,H b=none:=λb hb=>by
 rcases lC.mp (I.G0 b hb) with e|hb
 ·rw[e];exact I.free
 ·obtain⟨_,o,ho,_⟩:=I.ok.uO.mem hb;exact I.base.free b o ho (I.ok.AD b hb) λz=>I.ok.xa b z hb
theorem Inv.step{g':Array GenState}{t':Nat}{d':Drawn}{ch:au}(I:Inv X pins σ H s)
  (qi:∀b∈ch,(b∈X.ex\/X.cq.heap.objs.size<=b)/\b≠X.env.locals/\(∀x c,X.env.cells.lookup x=some c->c≠b)/\∀p∈X.pn++pins,p.1≠b)
  (keep:∀b o,b≠X.env.locals->b∉X.fs->b∉ch->s.heap.get? b=some o->H b=none->h'.get? b=some o)
  (slot:∀b o,b≠X.env.locals->b∈X.fs->b∉ch->s.heap.get? b=some o->H b=none->∃sl,h'.get? b=some { o with slots:=sl }) (free:∀b o,b∉ch->s.heap.get? b=some o->H b=none->H' b=none)
  (there:∀b o,b∉ch->s.heap.get? b=some o->∃o',h'.get? b=some o')
  (pA:∀b xs,H b=some (.tup xs)->H' b=some (.tup xs)) (dm:∀b o u,H b=some (.bu o u)->H' b=some (.bu o u)) (jb:∀b ps,H b=some (.BO ps)->∃more,H' b=some (.BO (ps++more)))
  (ns:∀m,s.heap.Ns X.env.locals m->h'.Ns X.env.locals m) (bc:o9 X.prog X.w H' h') (hg:AllBare g') :
  Inv X pins σ H' { s with heap:=h',gens:=g',drawn:=d',toks:=t' }:=by
 have U2:∀b o,X.cq.heap.get? b=some o->b≠X.env.locals:=λb o e=>oH (qI (iB e) I.ok.above);have Jj:∀b o,X.cq.heap.get? b=some o->b∉X.ex->b∉ch:=λb o e hx hb=>by
  rcases(qi b hb).1 with z|z
  ·exact hx z
  ·exact absurd (qI (iB e) z) (rm _)
 have cellK:∀x c,X.env.cells.lookup x=some c->∀v,s.heap.IsCell c v->h'.IsCell c v:=λx c e v ⟨o,ho,hd⟩=>by
  have FY:c∉ch:=λz=>(qi c z).2.2.1 x c e rfl;by_cases hc:c∈X.fs
  ·obtain⟨sl,q⟩:=slot c o (I.B6 x c e) hc FY ho (I.df x c e);exact⟨_,q,hd⟩
  ·exact⟨o,keep c o (I.B6 x c e) hc FY ho (I.df x c e),hd⟩
 refine⟨I.ok,I.os,hg,⟨λb o e n hb hx=>?_,λb o e n hb hx=>?_,λb o e n hx=>?_,λb o e hx=>?_,λb xs e=>pA b xs (I.base.pA b xs e),λb o xs e=>dm b o xs (I.base.dm b o xs e),λb ps e=>?_⟩,?_,λx c e=>?_,?_,λx c e=>?_,λp hp=>?_,bc,I.len⟩
 ·exact keep b o (U2 b o e) hb (Jj b o e hx) (I.base.keep b o e n hb hx) (I.base.free b o e n hx)
 ·obtain⟨sl,e1⟩:=I.base.slot b o e n hb hx;obtain⟨Mm,e2⟩:=slot b _ (U2 b o e) hb (Jj b o e hx) e1 (I.base.free b o e n hx);exact⟨Mm,e2⟩
 ·obtain⟨o',e1⟩:=I.base.there b o e hx;exact free b o' (Jj b o e hx) e1 (I.base.free b o e n hx)
 ·obtain⟨o',e1⟩:=I.base.there b o e hx;exact there b o' (Jj b o e hx) e1
 ·obtain⟨m1,e1⟩:=I.base.jb b ps e;obtain⟨m2,e2⟩:=jb b _ e1;exact⟨m1++m2,by rw[e2,Array.append_assoc]⟩
 ·obtain⟨m,hn,hl⟩:=I.loc;refine⟨m,ns m hn,λi x v e1 e2 e3=>?_⟩;obtain⟨u,r,l⟩:=hl i x v e1 e2 e3;refine⟨u,r,?_⟩;rcases l with l|⟨k,c,e,z⟩
  ·exact .inl l
  ·exact .inr ⟨k,c,e,cellK x c e _ z⟩
 ·obtain⟨v,z⟩:=I.cell x c e;exact⟨v,cellK x c e v z⟩
 ·obtain⟨m,⟨o,_,_,ho,_⟩,_⟩:=I.loc;exact free _ o (λz=>(qi _ z).2.1 rfl) ho I.free
 ·obtain⟨v,o,ho,hd⟩:=I.cell x c e;exact free c o (λz=>(qi c z).2.2.1 x c e rfl) ho (I.df x c e)
 ·obtain⟨e,n,ne,nf,d⟩:=I.pin p hp;have FY:p.1∉ch:=λz=>(qi p.1 z).2.2.2 p hp rfl;exact⟨keep p.1 p.2 ne nf FY e n,free p.1 p.2 FY e n,ne,nf,d⟩
theorem Inv.un{t':Nat}(I:Inv X pins σ H s)(u:Un X.fs [] H H' s.heap h')(bc:o9 X.prog X.w H' h'):Inv X pins σ H' { s with heap:=h',toks:=t' }:=by
 obtain⟨m,⟨o,es,ep,ho,r⟩,_⟩:=id I.loc;obtain⟨sl,hL⟩:=u.any ho I.free (by simp);exact I.step (g':=s.gens) (d':=s.drawn) (ch:=[]) (λ_ z=>nomatch z) (λb o _ hb _ e n=>u.keep b o e n hb (by simp)) (λb o _ hb _ e n=>u.slot b o e n hb (by simp)) (λb o _ e n=>u.free b o e n (by simp)) (λb o _ e=>u.there b o e (by simp)) u.pA u.dm u.jb (λm' hm=>by
  obtain⟨o',uy,xr,yl,r'⟩:=hm;rw[ho] at yl;cases yl;exact⟨_,uy,xr,hL,r'⟩) bc I.bare
theorem Inv.call{t':Nat}{d':Drawn}(I:Inv X pins σ H s)(u:Un (mh X.stack) ch H H' s.heap h')(bc:o9 X.prog X.w H' h')(hg:AllBare g')(qi:∀b∈ch,(b∈X.ex\/X.cq.heap.objs.size<=b)/\b≠X.env.locals/\(∀x c,X.env.cells.lookup x=some c->c≠b)/\∀p∈X.pn++pins,p.1≠b) :
  Inv X pins σ H' { s with heap:=h',gens:=g',drawn:=d',toks:=t' }:=by
 obtain⟨m,⟨o,es,ep,ho,r⟩,_⟩:=id I.loc;obtain⟨sl,hL⟩:=u.any ho I.free λz=>(qi _ z).2.1 rfl;exact I.step (ch:=ch) qi (λb o hL hb hc e n=>u.keep b o e n (λz=>(lC.mp (I.G0 b z)).elim hL hb) hc) (λb o _ _ hc e n=>u.any e n hc) (λb o hc e n=>u.free b o e n hc) (λb o hc e=>u.there b o e hc) u.pA u.dm u.jb (λm' hm=>by
  obtain⟨o',uy,xr,yl,r'⟩:=hm;rw[ho] at yl;cases yl;exact⟨_,uy,xr,hL,r'⟩) bc hg
theorem Inv.turned{t':Nat}{it:Addr}(I:Inv X pins σ H s)(k:∀b o,b≠it->s.heap.get? b=some o->h'.get? b=some o)(hn:H it=none)(hL:it≠X.env.locals)
  (h1:it∈X.ex\/X.cq.heap.objs.size<=it) (h2:∀x c,X.env.cells.lookup x=some c->c≠it) (h3:∀p∈X.pn++pins,p.1≠it):Inv X pins σ H { s with heap:=h',toks:=t' }:=by
 have BY:∀b u,H b=some u->b≠it:=λb u e z=>by rw[z,hn] at e;cases e
 refine I.step (g':=s.gens) (d':=s.drawn) (ch:=[it]) (λb hb=>?_) (λb o _ _ hc e _=>k b o (λz=>hc (by simp[z])) e) (λb o _ _ hc e _=>⟨o.slots,k b o (λz=>hc (by simp[z])) e⟩) (λ_ _ _ _ n=>n)
  (λb o hc e=>⟨o,k b o (λz=>hc (by simp[z])) e⟩) (λ_ _ e=>e) (λ_ _ _ e=>e) (λb ps e=>⟨#[],by rw[e];simp⟩) (λm hm=>?_) (λb u e=>?_) I.bare
 ·have e:b=it:=by simpa using hb
  subst e;exact⟨h1,hL,h2,h3⟩
 ·obtain⟨o,es,ep,ho,r⟩:=hm;exact⟨o,es,ep,k _ o (Ne.symm hL) ho,r⟩
 ·refine(I.bc b u e).wK (λc v hc q=>k c v ?_ q) (λ_ q=>q) λ_ _ _ q=>q;rcases hc with z|z
  ·rw[z];exact BY b u e
  ·exact BY c _ z
theorem Inv.tok(I:Inv X pins σ H s)(t:Nat):Inv X pins σ H { s with toks:=t }:=I.un (h':=s.heap) (t':=t) Un.refl I.bc
theorem Inv.kept{t':Nat}(I:Inv X pins σ H s)(k:∀b u,s.heap.get? b=some u->h'.get? b=some u):Inv X pins σ H { s with heap:=h',toks:=t' }:=I.un (Un.kept k) (I.bc.kept k)
theorem Inv.laid{t':Nat}(I:Inv X pins σ H s)(k:∀b u,s.heap.get? b=some u->h'.get? b=some u)(hp:s.heap.objs.size<=a)(new:bS X.prog X.w (upd H a o) h' a o) :
  Inv X pins σ (upd H a o) { s with heap:=h',toks:=t' }:=I.un (Un.laid k hp (I.bc.fresh hp)) (I.bc.laid k hp new)
theorem Inv.write{t':Nat}(I:Inv X pins σ H s)(mu:Hj (H x))(he:e=x\/H e=some (.own x))(k:∀b u,b≠e->s.heap.get? b=some u->h'.get? b=some u)(EA:∃u,h'.get? e=some u)(new:bS X.prog X.w (upd H x o) h' x o):Inv X pins σ (upd H x o) { s with heap:=h',toks:=t' }:=I.un (Un.write mu he k EA) (I.bc.write mu he k EA new)
theorem Inv.weak{σ':List (Option V)}(I:Inv X pins σ H s)(hl:σ'.length=σ.length)(w:∀(i:Nat) v,σ'[i]?=some (some v)->σ[i]?=some (some v)):Inv X pins σ' H s:=
 ⟨I.ok,I.os,I.bare,I.base,let ⟨m,hn,Nm⟩:=I.loc;⟨m,hn,λi x v e1 e2 e3=>Nm i x v e1 (w i v e2) e3⟩,I.cell,I.free,I.df,I.pin,I.bc,hl.trans I.len⟩
theorem Inv.Lc(I:Inv X pins σ H s)(h:∀p∈ou,s.heap.get? p.1=some p.2/\H p.1=none/\p.1≠X.env.locals/\p.1∉X.fs/\∀v,p.2.data≠.cell v):Inv X ou σ H s:=
 ⟨I.ok,I.os,I.bare,I.base,I.loc,I.cell,I.free,I.df,λp hp=>(oh.mp hp).elim (λz=>I.pin p (Bo _ z)) (h p),I.bc,I.len⟩
theorem ZH{N:ak}(hN:N.Nodup){i j:Nat}(a:N[i]?=some x)(b:N[j]?=some x):i=j:=by
 obtain⟨h1,e1⟩:=lU.mp a;obtain⟨h2,e2⟩:=lU.mp b;exact(List.getElem_inj hN).mp (e1.trans e2.symm)
theorem Z9{E:aj}{i:Nat}{Q:Unit->Shared->Prop}(I:Inv X pins σ H s)(hN:X.N.Nodup)(hi:X.N[i]?=some x)(hx:Loc X.env.scope x)(r:RelV v u)(h:∀s',Inv X pins (σ.set i (some v)) H s'->(∃a,Heap.SameBut a s.heap s'.heap/\(a=X.env.locals\/X.env.cells.lookup x=some a))->Q () s')(hf:X.fn x=true\/X.env.scope.names.lookup x=some .local:=by first|exact .inl rfl|exact .inr rfl|assumption):wpAny M A (storeName X.env x u) Q E s:=by
 obtain⟨m,hn,hl⟩:=id I.loc;have TL:(X.env.scope.kind == .class || (X.env.scope.kind == .module && X.env.locals != X.env.globals))=false:=by rw[I.ok.kind];rfl
 have HF:i < σ.length:=by rw[I.len];exact(lU.mp hi).1
 have B6:=I.B6;have tracked:∀{a:Addr} {h':Heap},(∃o,s.heap.get? a=some o/\H a=none)->Heap.SameBut a s.heap h'->o9 X.prog X.w H h':=λ{a h'} ha hs b ob e=>by
  obtain⟨_,_,iu⟩:=ha;refine(I.bc b ob e).wK (λc w' hc q=>(hs.2 c ?_).trans q) (λ_ q=>q) λ_ _ _ q=>q;rintro rfl;rcases hc with rfl|hc
  ·rw[iu] at e;cases e
  ·rw[iu] at hc;cases hc
 rcases hx with hk|hk
 ·refine wpAny_storeName_local hk hn (λh' JD hs=>?_) TL;obtain⟨oL,_,_,hoL,_⟩:=id hn;refine h _ ⟨I.ok,I.os,I.bare,⟨λb o e n hb hx=>?_,λb o e n hb hx=>?_,I.base.free,λb o e hx=>?_,I.base.pA,I.base.dm,I.base.jb⟩,⟨_,JD,λj y v' e1 e2 e3=>?_⟩,λy c e=>?_,I.free,I.df,λp hp=>?_,tracked ⟨oL,hoL,I.free⟩ hs,by simpa using I.len⟩ ⟨_,hs,.inl rfl⟩
  ·exact(hs.2 b (oH (qI (iB e) I.ok.above))).trans (I.base.keep b o e n hb hx)
  ·obtain⟨sl,e1⟩:=I.base.slot b o e n hb hx;exact⟨sl,(hs.2 b (oH (qI (iB e) I.ok.above))).trans e1⟩
  ·obtain⟨o',e1⟩:=I.base.there b o e hx;exact⟨o',(hs.2 b (oH (qI (iB e) I.ok.above))).trans e1⟩
  ·by_cases hj:j=i
   ·subst hj;rw[hi] at e1;cases e1;rw[QF HF] at e2;cases e2;exact⟨u,r,.inl ⟨hk,by simp⟩⟩
   ·rw[LH (Ne.symm hj)] at e2;obtain⟨u',r',q⟩:=hl j y v' e1 e2 e3;refine⟨u',r',?_⟩;rcases q with ⟨k,e⟩|⟨k,c,e,z⟩
    ·refine .inl ⟨k,?_⟩;have:y≠x:=λe=>hj (ZH hN e1 (e▸hi));simp[this,e]
    ·exact .inr ⟨k,c,e,z.sameBut hs (B6 y c e)⟩
  ·obtain⟨w',z⟩:=I.cell y c e;exact⟨w',z.sameBut hs (B6 y c e)⟩
  ·obtain⟨e,n,ne,nf,d⟩:=I.pin p hp;exact⟨(hs.2 p.1 ne).trans e,n,ne,nf,d⟩
 ·have yn:X.fn x=true:=by
   rcases hf with z|z
   ·exact z
   ·rw[z] at hk;cases hk
  obtain⟨c,hc⟩:=I.ok.has x (.inl hk);obtain⟨w',z⟩:=I.cell x c hc;refine wpAny_storeName_cell I.ok.kind hk hc z (λh' B4 hs=>?_);obtain⟨oc,Vz,Tx⟩:=id z;refine h { s with heap:=h' } ⟨I.ok,I.os,I.bare,⟨λb o e n hb hx=>?_,λb o e n hb hx=>?_,I.base.free,λb o e hx=>?_,I.base.pA,I.base.dm,I.base.jb⟩,⟨m,hn.sameBut hs (Ne.symm (B6 x c hc)),λj y v' e1 e2 e3=>?_⟩,λy c' e=>?_,I.free,I.df,λp hp=>?_,tracked ⟨oc,Vz,I.df x c hc⟩ hs,by simpa using I.len⟩ ⟨c,hs,.inr hc⟩
  ·exact(hs.2 b (oH (qI (iB e) (I.ok.B7 x c yn hc)))).trans (I.base.keep b o e n hb hx)
  ·obtain⟨sl,e1⟩:=I.base.slot b o e n hb hx;exact⟨sl,(hs.2 b (oH (qI (iB e) (I.ok.B7 x c yn hc)))).trans e1⟩
  ·obtain⟨o',e1⟩:=I.base.there b o e hx;exact⟨o',(hs.2 b (oH (qI (iB e) (I.ok.B7 x c yn hc)))).trans e1⟩
  ·by_cases hj:j=i
   ·subst hj;rw[hi] at e1;cases e1;rw[QF HF] at e2;cases e2;exact⟨u,r,.inr ⟨.inl hk,c,hc,B4⟩⟩
   ·rw[LH (Ne.symm hj)] at e2;obtain⟨u',r',q⟩:=hl j y v' e1 e2 e3;refine⟨u',r',?_⟩;rcases q with q|⟨k,c',e,z'⟩
    ·exact .inl q
    ·refine .inr ⟨k,c',e,z'.sameBut hs ?_⟩;rintro rfl;exact hj (ZH hN e1 (I.ok.inj _ _ _ e hc▸hi))
  ·by_cases VL:c'=c
   ·subst VL;exact⟨_,B4⟩
   ·obtain⟨w2,z2⟩:=I.cell y c' e;exact⟨w2,z2.sameBut hs VL⟩
  ·obtain⟨e,n,ne,nf,d⟩:=I.pin p hp;refine⟨(hs.2 p.1 ?_).trans e,n,ne,nf,d⟩;intro q;rw[q,Vz] at e;have q':oc=p.2:=Option.some.inj e;exact d w' (by rw[<-q'];exact Tx)
theorem rM{E:aj}{i:Nat}{Q:Unit->Shared->Prop}(I:Inv X pins σ H s)(hN:X.N.Nodup)(hi:X.N[i]?=some x)(hx:Loc X.env.scope x)(r:RelV v u)(h:∀s',Inv X pins (σ.set i (some v)) H s'->Q () s')(hf:X.fn x=true\/X.env.scope.names.lookup x=some .local:=by first|exact .inl rfl|exact .inr rfl|assumption):wpAny M A (storeName X.env x u) Q E s:=
 Z9 I hN hi hx r (λs' I' _=>h s' I') hf
theorem Inv.aQV{s':Shared}(I:Inv X pins σ H s)(ho:s'.os=s.os)(u:Un (mh X.stack) ch H H' s.heap s'.heap)(bc:o9 X.prog X.w H' s'.heap)(hg:AllBare s'.gens)(qi:∀b∈ch,(b∈X.ex\/X.cq.heap.objs.size<=b)/\b≠X.env.locals/\(∀x c,X.env.cells.lookup x=some c->c≠b)/\∀p∈X.pn++pins,p.1≠b):Inv X pins σ H' s':=by
 obtain⟨h',g',d',t',o'⟩:=s';have e:o'=s.os:=ho;subst e;exact I.call (g':=g') (t':=t') (d':=d') u bc hg qi
end
abbrev XK:=Value->Option Addr->Hp->Prop
abbrev St:=List (Option V)
abbrev VK:=V->Hp->Prop
abbrev TE:=St->Hp->VK->Prop
abbrev TT:=St->Hp->(Bool->Hp->Prop)->Prop
abbrev TA:=St->Hp->(List V->Hp->Prop)->Prop
structure Ends where
 nx:St->Hp->Prop
 rt:VK
 bk:St->Hp->Prop:=λ_ _=>False
 ct:St->Hp->Prop:=λ_ _=>False
abbrev TS:=Ends->St->Hp->Prop
def EP(X:Cx)(pins:ao)(σ:St)(Q:VK)(u:Value)(s':Shared):Prop:=∃v H',Inv X pins σ H' s'/\RelV v u/\Q v H'
def TP(X:Cx)(pins:ao)(σ:St)(Q:Bool->Hp->Prop)(b:Bool)(s':Shared):Prop:=∃H',Inv X pins σ H' s'/\Q b H'
def AP(X:Cx)(pins:ao)(σ:St)(Q:List V->Hp->Prop)(us:ah)(s':Shared):Prop:=∃vs H',Inv X pins σ H' s'/\Vals vs us/\Q vs H'
def SP(X:Cx)(pins:ao)(D:Ends)(f:Flow)(s':Shared):Prop:=
 match f with
 |.next=>∃σ' H',Inv X pins σ' H' s'/\D.nx σ' H'
 |.brk=>∃σ' H',Inv X pins σ' H' s'/\D.bk σ' H'
 |.cont=>∃σ' H',Inv X pins σ' H' s'/\D.ct σ' H'
 |.ret u=>∃v σ' H',Inv X pins σ' H' s'/\RelV v u/\D.rt v H'
def PE(X:Cx)(e:Expr)(t:TE):Prop:=
 ∀(pins:ao) (s:Shared) (σ:St) (H:Hp) (Q:VK),Inv X pins σ H s->t σ H Q->wpAny (model X.prog X.w) X.A (eval e X.env) (EP X pins σ Q) X.xe s
def PT(X:Cx)(e:Expr)(t:TT):Prop:=
 ∀(pins:ao) (s:Shared) (σ:St) (H:Hp) (Q:Bool->Hp->Prop),Inv X pins σ H s->t σ H Q->wpAny (model X.prog X.w) X.A (isTrue e X.env (eval e X.env)) (TP X pins σ Q) X.xe s
def PW(X:Cx)(e:Expr)(t:TT):Prop:=
 ∀(whole:Sem Value) (pins:ao) (s:Shared) (σ:St) (H:Hp) (Q:Bool->Hp->Prop),Inv X pins σ H s->t σ H Q->wpAny (model X.prog X.w) X.A (isTrue e X.env whole) (TP X pins σ Q) X.xe s
theorem PW.pt(h:PW X e t):PT X e t:=h _
def PA(X:Cx)(es:List Expr)(t:TA):Prop:=
 ∀(pos:Pos) (pins:ao) (s:Shared) (σ:St) (H:Hp) (Q:List V->Hp->Prop),Inv X pins σ H s->t σ H Q->wpAny (model X.prog X.w) X.A (spliced (backTo pos (starEach es X.env))) (AP X pins σ Q) X.xe s
def PS(X:Cx)(st:Stmt)(t:TS):Prop:=
 ∀(pins:ao) (s:Shared) (σ:St) (H:Hp) (D:Ends),Inv X pins σ H s->t D σ H->wpAny (model X.prog X.w) X.A (exec st X.env) (SP X pins D) X.xe s
def tf(X:Cx)(st:List Stmt)(t:TS):Prop:=
 ∀(pins:ao) (s:Shared) (σ:St) (H:Hp) (D:Ends),Inv X pins σ H s->t D σ H->wpAny (model X.prog X.w) X.A (execs st X.env) (SP X pins D) X.xe s
theorem dC{α:Type}{t:Sem α}{Q Q':α->Shared->Prop}{E:aj}(h:wpAny M A t Q E s)(hQ:∀a s,Q a s->Q' a s):wpAny M A t Q' E s:=sy h hQ λ_ _ x=>x
section
variable{X:Cx}
def OI(i:Nat):TE:=λσ H Q=>∃v,σ[i]?=some (some v)/\Q v H
def tC(v:V):TE:=λ_ H Q=>Q v H
theorem YF{i:Nat}(hN:X.N[i]?=some x)(hv:Dy X.env.scope x)(hd:(x == ("__debug__" : Str))=false:=by decide)(mv:(x == ("__classdict__" : Str))=false:=by decide):PE X (.Name x pos) (OI i):=by
 intro pins s σ H Q I h;obtain⟨v,e,h⟩:=h;obtain⟨m,hn,hl⟩:=I.loc;obtain⟨u,r,l⟩:=hl i x v hN e hv;have fin:EP X pins σ Q u s:=⟨v,H,I,r,h⟩
 rcases l with ⟨hk,hm⟩|⟨hk,c,hc,pd⟩
 ·exact wpAny_Name (wpAny_loadName_local I.ok.kind hk hn hm fin) hd
 ·rcases hk with hk|hk
  ·exact wpAny_Name (wpAny_loadName_cell I.ok.kind hk hc pd fin) hd
  ·exact wpAny_Name (wpAny_loadName_free I.ok.kind hk hc pd fin mv) hd
theorem aO2{i j pos}:PE X (.Constant (.int i) j pos) (tC (.int i)):=λ_ _ _ H _ I h=>wpAny_Constant_int ⟨.int i,H,I.tok _,⟨_,rfl⟩,h⟩
theorem aQW{b j pos}:PE X (.Constant (.bool b) j pos) (tC (.bl b)):=λ_ _ _ H _ I h=>Constant_bool ⟨.bl b,H,I,rfl,h⟩
theorem aO3{j pos}:PE X (.Constant .none j pos) (tC .bt):=λ_ _ _ H _ I h=>Constant_none ⟨.bt,H,I,rfl,h⟩
def Gl(X:Cx)(x:Str):Prop:=X.env.kindOf x=some .globalImplicit
theorem Lb{E:aj}{Q:aj}(I:Inv X pins σ H s)(hg:Gl X x)(hm:X.mg x=some u)(h:Q u s)(hd:(x == ("__debug__" : Str))=false:=by decide):wpAny (model X.prog X.w) X.A (eval (.Name x pos) X.env) Q E s:=
 Calls.Name_function_global I.ok.kind hg (Calls.loadGlobal_global (by rw[I.ok.glob];exact I.mod.glob.keeps I.bk) hm h) hd
theorem lV{E:aj}{Q:aj}(I:Inv X pins σ H s)(hg:Gl X x)(hm:X.mg x=none)(hv:bootBuiltins x=some u)(h:Q u s)(hn:x≠"__name__":=by decide)(hd:(x == ("__debug__" : Str))=false:=by decide):wpAny (model X.prog X.w) X.A (eval (.Name x pos) X.env) Q E s:=by
 obtain⟨mb,h1,h2⟩:=I.mod.blt;exact Calls.Name_function_global I.ok.kind hg (Calls.loadGlobal_builtin (by rw[I.ok.glob];exact I.mod.glob.keeps I.bk) hm (by rw[I.ok.blt];exact h1.keeps I.bk) ((h2 x hn).trans hv) h) hd
theorem Y9(hg:Gl X x)(hm:X.mg x=some u)(r:RelV v u)(hd:(x == ("__debug__" : Str))=false:=by decide):PE X (.Name x pos) (tC v):=
 λ_ _ _ H _ I h=>Lb I hg hm ⟨v,H,I,r,h⟩ hd
theorem aMV(hg:Gl X x)(hm:X.mg x=none)(hv:bootBuiltins x=some u)(r:RelV v u)(hn:x≠"__name__":=by decide)(hd:(x == ("__debug__" : Str))=false:=by decide):PE X (.Name x pos) (tC v):=
 λ_ _ _ H _ I h=>lV I hg hm hv ⟨v,H,I,r,h⟩ hn hd
variable{a b:Expr}{ta tb:TE}{pos:Pos}
def tB(t:TE):TT:=λσ H Q=>t σ H λx H1=>∃c,x=.bl c/\Q c H1
theorem aO4{e:Expr}(h:PE X e t)(he:∀whole,isTrue e X.env whole=(do let v <-whole;standAt e.pos;holding [v] (truthy v)):=by intro _;rfl):PT X e (tB t):=by
 intro pins s σ H Q I hw;refine isTrue_plain (dC (h pins s σ H _ I hw) λv s1 zq=>?_) (he _);obtain⟨x,H1,I1,r1,q1⟩:=zq;obtain⟨d,rfl,q⟩:=q1;cases r1;exact wpAny_truthy_bool ⟨H1,I1,q⟩
variable{tA IS:TT}{rest:List Expr}
def OH(t u:TT):TT:=λσ H Q=>t σ H λc H1=>if c=true then u σ H1 Q else Q false H1
def Mj(t u:TT):TT:=λσ H Q=>t σ H λc H1=>if c=true then Q true H1 else u σ H1 Q
def OG(t:TT):TT:=λσ H Q=>t σ H λc H1=>Q (!c) H1
theorem aMW(ha:PT X a tA):PW X (.BoolOp .And [a] pos) tA:=by
 intro wh pins s σ H Q I h;refine isTrue_and (dC (ha pins s σ H Q I h) λc s1 e=>?_);cases c with
 |true=>exact isTrue_and_nil e
 |false=>exact e
theorem aO7(ha:PT X a tA):PW X (.BoolOp .Or [a] pos) tA:=by
 intro wh pins s σ H Q I h;refine isTrue_or (dC (ha pins s σ H Q I h) λc s1 e=>?_);cases c with
 |false=>exact isTrue_or_nil e
 |true=>exact e
theorem aO8(ha:PT X a tA)(hb:PW X (.BoolOp .And (b::rest) pos) IS):PW X (.BoolOp .And (a::b::rest) pos) (OH tA IS):=by
 intro wh pins s σ H Q I h;refine isTrue_and (dC (ha pins s σ H _ I h) λc s1 ⟨H1,I1,q1⟩=>?_);cases c with
 |true=>exact hb wh pins s1 σ H1 Q I1 q1
 |false=>exact⟨H1,I1,q1⟩
theorem aQX(ha:PT X a tA)(hb:PW X (.BoolOp .Or (b::rest) pos) IS):PW X (.BoolOp .Or (a::b::rest) pos) (Mj tA IS):=by
 intro wh pins s σ H Q I h;refine isTrue_or (dC (ha pins s σ H _ I h) λc s1 ⟨H1,I1,q1⟩=>?_);cases c with
 |true=>exact⟨H1,I1,q1⟩
 |false=>exact hb wh pins s1 σ H1 Q I1 q1
theorem aO9(ha:PT X a tA):PT X (.UnaryOp .Not a pos) (OG tA):=by
 intro pins s σ H Q I h;exact isTrue_not (ha pins s σ H (λc H1=>Q (!c) H1) I h)
def O3(ta tb:TE):TE:=λσ H Q=>ta σ H λx H1=>∃c,x=.bl c/\if c=true then tb σ H1 Q else Q (.bl false) H1
def OA(ta tb:TE):TE:=λσ H Q=>ta σ H λx H1=>∃c,x=.bl c/\if c=true then Q (.bl true) H1 else tb σ H1 Q
def O2(ta:TE):TE:=λσ H Q=>ta σ H λx H1=>∃c,x=.bl c/\Q (.bl (!c)) H1
theorem aPb{op}(h:PE X a t):PE X (.BoolOp op [a] pos) t:=λpins s σ H Q I hw=>BoolOp_one (h pins s σ H Q I hw)
theorem aPc(ha:PE X a ta)(hb:PE X (.BoolOp .And (b::rest) pos) tb):PE X (.BoolOp .And (a::b::rest) pos) (O3 ta tb):=by
 intro pins s σ H Q I h;refine BoolOp_and (dC (ha pins s σ H _ I h) λv s1 zq=>?_);obtain⟨x,H1,I1,r1,q1⟩:=zq;obtain⟨c,rfl,q1⟩:=q1;cases r1;refine wpAny_truthy_bool ?_;cases c with
 |true=>exact hb pins s1 σ H1 Q I1 q1
 |false=>exact⟨.bl false,H1,I1,rfl,q1⟩
theorem aQY(ha:PE X a ta)(hb:PE X (.BoolOp .Or (b::rest) pos) tb):PE X (.BoolOp .Or (a::b::rest) pos) (OA ta tb):=by
 intro pins s σ H Q I h;refine BoolOp_or (dC (ha pins s σ H _ I h) λv s1 zq=>?_);obtain⟨x,H1,I1,r1,q1⟩:=zq;obtain⟨c,rfl,q1⟩:=q1;cases r1;refine wpAny_truthy_bool ?_;cases c with
 |false=>exact hb pins s1 σ H1 Q I1 q1
 |true=>exact⟨.bl true,H1,I1,rfl,q1⟩
theorem aPd(ha:PE X a ta):PE X (.UnaryOp .Not a pos) (O2 ta):=by
 intro pins s σ H Q I h;refine UnaryOp_ (dC (ha pins s σ H _ I h) λv s1 zq=>?_);obtain⟨x,H1,I1,r1,q1⟩:=zq;obtain⟨c,rfl,q1⟩:=q1;cases r1;exact not_of (wpAny_truthy_bool ⟨.bl (!c),H1,I1,rfl,q1⟩)
def Ml(t:TT)(ta tb:TE):TE:=λσ H Q=>t σ H λc H1=>if c=true then ta σ H1 Q else tb σ H1 Q
theorem aKC{c:Expr}(hc:PT X c tA)(ha:PE X a ta)(hb:PE X b tb):PE X (.IfExp c a b pos) (Ml tA ta tb):=by
 intro pins s σ H Q I h;refine wpAny_IfExp (dC (hc pins s σ H _ I h) λd s1 ⟨H1,I1,q1⟩=>?_);cases d with
 |true=>exact ha pins s1 σ H1 Q I1 q1
 |false=>exact hb pins s1 σ H1 Q I1 q1
end
def bR(K:W.Frag)(H:Hp)(a:Addr)(xs:List V):Prop:=
 Rd H a (.lst xs)\/
  ∃(o:Obj) (its:Array Value) (n:Nat),K.lookup a=some o/\o.cls=.type "list"/\o.dict=none/\o.data=.seq its n/\its.size<=sizeLine/\Vals xs its.toList
def iC(K:W.Frag)(H:Hp)(a:Addr)(xs:List V):Prop:=
 Rd H a (.tup xs)\/
  ∃(o:Obj) (its:Array Value) (n:Nat),K.lookup a=some o/\o.cls=.type "tuple"/\o.data=.seq its n/\its.size<=sizeLine/\Vals xs its.toList
def aRX:Value->Option V
 |.none=>some .bt
 |.bool b=>some (.bl b)
 |.int i _=>some (.int i)
 |.str x _=>some (.str x)
 |.bytes b _=>some (.ES b)
 |.float b _=>some (.qt b)
 |.ref a=>some (.ref a)
 |.type n=>some (.ty n)
 |_=>none
theorem RelV.abs(r:RelV x u):aRX u=some x:=by
 cases x with
 |bt=>cases r;rfl
 |bl _=>cases r;rfl
 |int _=>obtain⟨t,rfl⟩:=r;rfl
 |str _=>obtain⟨t,rfl⟩:=r;rfl
 |ES _=>obtain⟨t,rfl⟩:=r;rfl
 |qt _=>obtain⟨t,rfl⟩:=r;rfl
 |ref _=>cases r;rfl
 |ty _=>cases r;rfl
theorem RelV.inj(r:RelV x u)(q:RelV y u):x=y:=Option.some.inj (r.abs.symm.trans q.abs)
theorem Vals.inj:∀{xs ys:List V}{us:ah},Vals xs us->Vals ys us->xs=ys
 |_,_,_,.nil,.nil=>rfl
 |_,_,_,.cons r t,.cons r' t'=>by rw[r.inj r',Vals.inj t t']
section
variable{X:Cx}{pins:ao}{σ:St}{H:Hp}{s:Shared}{a:Addr}{xs ys:List V}
theorem bR.of{K:W.Frag}(h:H a=some (.lst xs)):bR K H a xs:=.inl (.inl h)
theorem iC.of{K:W.Frag}(h:H a=some (.tup xs)):iC K H a xs:=.inl (.inl h)
theorem Inv.list(I:Inv X pins σ H s)(h:bR X.K H a xs):∃its:ah,Vals xs its/\PlainL s.heap a its.toArray/\xs.length<=sizeLine:=by
 rcases h with h|⟨o,its,n,hk,hc,hd,hs,hz,r⟩
 ·obtain⟨z,its,n,r,e⟩:=h.ok I.bc;exact⟨its,r,⟨_,n,e,rfl,rfl,rfl⟩,z⟩
 ·refine⟨its.toList,r,⟨o,n,I.kg a o hk,hc,hd,by simpa using hs⟩,?_⟩;have e:=r.length;simp only[ya] at e;lia
theorem Inv.tuple(I:Inv X pins σ H s)(h:iC X.K H a xs):∃its:ah,Vals xs its/\IsTup s.heap a its.toArray/\xs.length<=sizeLine:=by
 rcases h with h|⟨o,its,n,hk,hc,hs,hz,r⟩
 ·obtain⟨z,its,r,p⟩:=h.ok I.bc;exact⟨its,r,p,z⟩
 ·refine⟨its.toList,r,⟨o,I.kg a o hk,hc,n,by simpa using hs⟩,?_⟩;have e:=r.length;simp only[ya] at e;lia
theorem Inv.Qk(I:Inv X pins σ H s)(h:bR X.K H a xs)(h':bR X.K H a ys):xs=ys:=by
 obtain⟨its,r,⟨o,n,e,_,_,d⟩,_⟩:=I.list h;obtain⟨its',r',⟨o',n',e',_,_,d'⟩,_⟩:=I.list h';rw[e] at e';cases e';rw[d] at d';injection d' with d1 _
 have:its=its':=by simpa using congrArg Array.toList d1
 subst this;exact r.inj r'
theorem Inv.Z8(I:Inv X pins σ H s)(h:iC X.K H a xs)(h':iC X.K H a ys):xs=ys:=by
 obtain⟨its,r,⟨o,e,_,n,d⟩,_⟩:=I.tuple h;obtain⟨its',r',⟨o',e',_,n',d'⟩,_⟩:=I.tuple h';rw[e] at e';cases e';rw[d] at d';injection d' with d1 _
 have:its=its':=by simpa using congrArg Array.toList d1
 subst this;exact r.inj r'
end
abbrev Cx.AG(X:Cx)(E:aj):Cx:={ X with xe:=E }
abbrev Cx.Eo(X:Cx):Cx:=X.AG λ_ _=>False
theorem Cx.Ok.AG{X:Cx}(ok:X.Ok)(E:aj):(X.AG E).Ok:=
 ⟨ok.mod,ok.kind,ok.glob,ok.blt,ok.above,ok.inj,ok.has,ok.B7,ok.hd,ok.frames,ok.BR,ok.J0,ok.bs,ok.yu,ok.uo,ok.xa,ok.uO,ok.AD⟩
theorem Cx.Ok.rN{X:Cx}{E:aj}(ok:(X.AG E).Ok):X.Ok:=
 ⟨ok.mod,ok.kind,ok.glob,ok.blt,ok.above,ok.inj,ok.has,ok.B7,ok.hd,ok.frames,ok.BR,ok.J0,ok.bs,ok.yu,ok.uo,ok.xa,ok.uO,ok.AD⟩
section
variable{X:Cx}{pins:ao}{σ:St}{H:Hp}{s:Shared}{E:aj}
theorem Inv.AG(I:Inv X pins σ H s)(E:aj):Inv (X.AG E) pins σ H s:=⟨I.ok.AG E,I.os,I.bare,I.base,I.loc,I.cell,I.free,I.df,I.pin,I.bc,I.len⟩
theorem Inv.rN(I:Inv (X.AG E) pins σ H s):Inv X pins σ H s:=⟨I.ok.rN,I.os,I.bare,I.base,I.loc,I.cell,I.free,I.df,I.pin,I.bc,I.len⟩
theorem SP.rN(h:SP (X.AG E) pins D f s'):SP X pins D f s':=by
 cases f with
 |next=>obtain⟨σ',H',I,q⟩:=h;exact⟨σ',H',I.rN,q⟩
 |brk=>obtain⟨σ',H',I,q⟩:=h;exact⟨σ',H',I.rN,q⟩
 |cont=>obtain⟨σ',H',I,q⟩:=h;exact⟨σ',H',I.rN,q⟩
 |ret u=>obtain⟨v,σ',H',I,r,q⟩:=h;exact⟨v,σ',H',I.rN,r,q⟩
theorem tf.Eo{st:List Stmt}{t:TS}(h:tf X.Eo st t):tf X st t:=λpins s σ H D I hw=>
 sy (h pins s σ H D (I.AG _) hw) (λ_ _ q=>q.rN) λ_ _ z=>False.elim z
end
section
variable{X:Cx}{st:Stmt}{rest:List Stmt}{t u:TS}{e:Expr}{te:TE}{pos:Pos}
def O1:TS:=λD σ H=>D.nx σ H
def GI(t u:TS):TS:=λD σ H=>t { D with nx:=u D } σ H
theorem aMX:tf X [] O1:=λ_ _ σ H _ I h=>wpAny_execs_nil ⟨σ,H,I,h⟩
theorem aKF(h1:PS X st t)(h2:tf X rest u):tf X (st::rest) (GI t u):=by
 intro pins s σ H D I h;refine wpAny_execs_cons (dC (h1 pins s σ H { D with nx:=u D } I h) λf s1 q=>?_);cases f with
 |next=>
  obtain⟨σ',H',I',q⟩:=q;exact h2 pins s1 σ' H' D I' q
 |ret v=>exact q
 |brk=>exact q
 |cont=>exact q
theorem aMY(h1:PS X st t):tf X [st] t:=by
 intro pins s σ H D I h;refine wpAny_execs_cons (dC (h1 pins s σ H D I h) λf s1 q=>?_);cases f with
 |next=>exact wpAny_execs_nil q
 |ret v=>exact q
 |brk=>exact q
 |cont=>exact q
theorem Inv.quiet(I:Inv X pins σ H s):interactive X.env=false:=by simp[interactive,I.ok.kind]
def O0(te:TE):TS:=λD σ H=>te σ H λ_ H1=>D.nx σ H1
theorem aMZ(he:PE X e te)(hs:swapsWith e none pos.line X.env=pure false:=by rfl):PS X (.Expr e pos) (O0 te):=by
 intro pins s σ H D I h;exact wpAny_Expr_any (dC (he pins s σ H _ I h) λv s1 ⟨x,H1,I1,r1,q1⟩=>⟨σ,H1,I1,q1⟩) I.quiet hs
def Oz(te:TE):TS:=λD σ H=>te σ H D.rt
theorem aPf(he:PE X e te):PS X (.Return (some e) pos) (Oz te):=by
 intro pins s σ H D I h;exact wpAny_Return_some (dC (he pins s σ H _ I h) λv s1 ⟨x,H1,I1,r1,q1⟩=>⟨x,σ,H1,I1,r1,q1⟩)
def Oy(c:TT)(t u:TS):TS:=λD σ H=>c σ H λb H1=>if b=true then t D σ H1 else u D σ H1
theorem aQZ(hc:PT X c tc)(ha:tf X a t)(hb:tf X b u):PS X (.If c a b pos) (Oy tc t u):=by
 intro pins s σ H D I h;refine wpAny_If (dC (hc pins s σ H _ I h) λd s1 ⟨H1,I1,q1⟩=>?_);cases d with
 |true=>exact ha pins s1 σ H1 D I1 q1
 |false=>exact hb pins s1 σ H1 D I1 q1
def YH:TS:=λ_ _ _=>False
theorem aKI:PS X st YH:=λ_ _ _ _ _ _ h=>h.elim
end
abbrev TG:=V->St->Hp->(St->Hp->Prop)->Prop
abbrev ze:=List V->St->Hp->(St->Hp->Prop)->Prop
def PG(X:Cx)(target:Expr)(t:TG):Prop:=
 ∀(pins:ao) (s:Shared) (σ:St) (H:Hp) (v:V) (u:Value) (Q:St->Hp->Prop),Inv X pins σ H s->RelV v u->t v σ H Q->
  wpAny (model X.prog X.w) X.A (assign target X.env u) (λ_ s'=>∃σ' H',Inv X pins σ' H' s'/\Q σ' H') X.xe s
def Hh(X:Cx)(ts:List Expr)(t:ze):Prop:=
 ∀(pins:ao) (s:Shared) (σ:St) (H:Hp) (vs:List V) (us:ah) (Q:St->Hp->Prop),Inv X pins σ H s->Vals vs us->t vs σ H Q->
  wpAny (model X.prog X.w) X.A (assignInOrder ((assignEach ts X.env).map (·.2)) us) (λ_ s'=>∃σ' H',Inv X pins σ' H' s'/\Q σ' H') X.xe s
abbrev Ox:=V->V->V->Hp->(Hp->Prop)->Prop
def GH(X:Cx)(t:Ox):Prop:=
 ∀(pins:ao) (s:Shared) (σ:St) (H:Hp) (o i v:V) (ov iv u:Value) (Q:Hp->Prop),Inv X pins σ H s->RelV o ov->RelV i iv->RelV v u->t o i v H Q->
  wpAny (model X.prog X.w) X.A (setItem ov iv u) (λ_ s'=>∃H',Inv X pins σ H' s'/\Q H') X.xe s
abbrev LL:=V->V->Hp->VK->Prop
def Fx(X:Cx)(op:Operator)(t:LL):Prop:=
 ∀(pins:ao) (s:Shared) (σ:St) (H:Hp) (x y:V) (v u:Value) (Q:VK),Inv X pins σ H s->RelV x v->RelV y u->t x y H Q->
  wpAny (model X.prog X.w) X.A (inplaceOp op v u) (EP X pins σ Q) X.xe s
section
variable{X:Cx}{pos:Pos}
def qJ(i:Nat):TG:=λv σ H Q=>Q (σ.set i (some v)) H
theorem aM0{i:Nat}(hN:X.N.Nodup)(hi:X.N[i]?=some x)(hx:Loc X.env.scope x)(hf:X.fn x=true\/X.env.scope.names.lookup x=some .local:=by first|exact .inl rfl|exact .inr rfl|assumption):PG X (.Name x pos) (qJ i):=by
 intro pins s σ H v u Q I r h;exact wpAny_assign_Name (rM I hN hi hx r (λs' I'=>⟨_,H,I',h⟩) hf)
def Km:ze:=λvs σ H Q=>vs=[]/\Q σ H
def Kv(t:TG)(u:ze):ze:=λvs σ H Q=>∃v r,vs=v::r/\t v σ H λσ' H'=>u r σ' H' Q
theorem aM2:Hh X [] Km:=by
 intro pins s σ H vs us Q I r h;obtain⟨e,h⟩:=h;subst e;cases r;exact assignInOrder_nil ⟨σ,H,I,h⟩
theorem aKK(h1:PG X e t)(h2:Hh X es u)(hs:(assignEach (e::es) X.env).map (·.2)=assign e X.env::(assignEach es X.env).map (·.2):=by rfl):Hh X (e::es) (Kv t u):=by
 intro pins s σ H vs us Q I r h;obtain⟨v,vr,e1,h⟩:=h;subst e1;cases r with
 |cons r rr=>
  rw[hs];refine assignInOrder_cons (dC (h1 pins s σ H _ _ _ I r h) λ_ s1 zq=>?_);obtain⟨σ1,H1,I1,q1⟩:=zq;exact h2 pins s1 σ1 H1 _ _ Q I1 rr q1
def Kl(K:W.Frag)(n:Nat)(t:ze):TG:=λv σ H Q=>∃a xs,v=.ref a/\iC K H a xs/\xs.length=n/\t xs σ H Q
theorem aPi{k:Nat}{n:Nat}(hc:X.calm=true)(h:Hh X es t)(hn:(assignEach es X.env).length=n:=by rfl)(eg:(assignEach es X.env).findIdx? (·.1)=none:=by rfl):PG X (.Tuple es k pos) (Kl X.K n t):=by
 intro pins s σ H v u Q I r hw;obtain⟨a,xs,e1,hq,hl,hw⟩:=hw;subst e1;cases r;obtain⟨its,rv,ht,hz⟩:=I.tuple hq;refine assign_Tuple_tuple (I.ok.hd hc) ht (by simp[hn,<-hl,rv.length]) eg λh' hx=>?_;have I1:Inv X pins σ H { s with heap:=h' }:=I.kept (t':=s.toks) λb o e=>hx b o (oH (iB e)) e;exact h pins _ σ H xs _ Q I1 (by simpa using rv) hw
def Ow(to ti:TE)(t:Ox):TG:=λv σ H Q=>to σ H λo H1=>ti σ H1 λi H2=>t o i v H2 λH3=>Q σ H3
theorem aPk(ho:PE X o to)(hi:PE X i ti)(hs:GH X t)(ha:∀v,assign (.Subscript o i pos) X.env v=(do
   let ov <-holding [v] (eval o X.env)
   let iv <-holding [v,ov] (eval i X.env)
   standAt pos
   holding [v,ov,iv] (setItem ov iv v)
   release [v,ov,iv] []):=by intro _;rfl):PG X (.Subscript o i pos) (Ow to ti t):=by
 intro pins s σ H v u Q I r h;rw[ha];refine bG (AM (dC (ho pins s σ H _ I h) λov s1 zq=>?_));obtain⟨x,H1,I1,r1,q1⟩:=zq;refine bG (AM (dC (hi pins s1 σ H1 _ I1 q1) λiv s2 zq=>?_));obtain⟨y,H2,I2,r2,q2⟩:=zq;refine bG (wpAny_standAt (bG (AM (dC (hs pins s2 σ H2 x y v ov iv u _ I2 r1 r2 r q2) λ_ s3 ⟨H3,I3,q3⟩=>?_))));exact wpAny_release ⟨σ,H3,I3,q3⟩
def Ce(te:TE)(g:TG):TS:=λD σ H=>te σ H λx H1=>g x σ H1 D.nx
theorem aPl(he:PE X e te)(hg:PG X tg g)(hs:swapsWithSole [tg] e pos.line X.env=pure false:=by rfl)(hw:swappedStores [tg] e X.env=pure none:=by rfl)(h1:(assignEach [tg] X.env).map (·.2)=[assign tg X.env]:=by rfl):PS X (.Assign [tg] e pos) (Ce te g):=by
 intro pins s σ H D I h;refine wpAny_Assign_stores (dC (he pins s σ H _ I h) λv s1 zq=>?_) hs hw;obtain⟨x,H1,I1,r1,q1⟩:=zq;rw[h1];exact dC (hg pins s1 σ H1 x v _ I1 r1 q1) λ_ s2 q=>q
theorem aPm{i:Nat}(hN:X.N.Nodup)(hi:X.N[i]?=some x)(hx:Loc X.env.scope x)(he:PE X e te)(hs:swapsWith e (some (.Name x pos')) pos.line X.env=pure false:=by rfl)(hf:X.fn x=true\/X.env.scope.names.lookup x=some .local:=by first|exact .inl rfl|exact .inr rfl|assumption) :
  PS X (.Assign [.Name x pos'] e pos) (Ce te (qJ i)):=by
 intro pins s σ H D I h;refine wpAny_Assign_Name (dC (he pins s σ H _ I h) λv s1 zq=>?_) hs;obtain⟨y,H1,I1,r1,q1⟩:=zq;exact rM I1 hN hi hx r1 (λs2 I2=>⟨_,H1,I2,q1⟩) hf
def Ov(i j:Nat)(ta:TA):TS:=λD σ H=>ta σ H λvs H1=>∃v w,vs=[v,w]/\D.nx ((σ.set i (some v)).set j (some w)) H1
theorem aPo{i j:Nat}{x y:Str}{a b:Expr}{ta:TA}{px py pt:Pos}{kt k2 CU}(hc:X.calm=true)(hN:X.N.Nodup)(hi:X.N[i]?=some x)(hj:X.N[j]?=some y)(A3:i≠j)
  (hx:X.env.scope.names.lookup x=some .local) (hy:X.env.scope.names.lookup y=some .local) (ha:PA X [a,b] ta)
  (hw:swappedStores [.Tuple [.Name x px,.Name y py] kt pt] (.Tuple [a,b] k2 CU) X.env=pure (some [x,y]))
  (hs:swapsWithSole [.Tuple [.Name x px,.Name y py] kt pt] (.Tuple [a,b] k2 CU) pos.line X.env=pure false:=by rfl) :
  PS X (.Assign [.Tuple [.Name x px,.Name y py] kt pt] (.Tuple [a,b] k2 CU) pos) (Ov i j ta):=by
 intro pins s σ H D I h;rw[exec_Assign_arm];refine bG (wpAny_standAt ?_);rw[hs];refine bG (cM ?_);rw[bZ (by decide)];refine bG (Tuple_ (dC (ha _ pins s σ H _ I h) λus s1 zq=>?_));obtain⟨vs,H1,I1,r1,q1⟩:=zq;obtain⟨v,w,e1,q1⟩:=q1;subst e1;obtain⟨u1,u2,rfl,rv,rb⟩ : ∃u1 u2,us=[u1,u2]/\RelV v u1/\RelV w u2:=by
  cases r1 with
  |cons p q=>
   cases q with
   |cons p' q'=>
    cases q';exact⟨_,_,rfl,p,p'⟩
 refine qb ?_ (by show 2<=sizeLine;decide);have I2:Inv X pins σ H1 { s1 with heap:=s1.heap.push { cls:=.type "tuple",data:=.seq [u1,u2].toArray } }:=I1.kept (t':=s1.toks) λb o e=>eG _ e;rw[hw];refine bG (cM ?_);show wpAny (model X.prog X.w) X.A (do rule "assign.swapped-stores";let items <-unpackItems (.ref s1.heap.objs.size) 2 none;assignInOrder [λv=>bindName X.env y v,λv=>bindName X.env x v] items.reverse;pure Flow.next) _ _ _;refine bG (wpAny_rule (bG (unpackItems_tuple (items:=#[u1,u2]) (I.ok.hd hc) (IsTup.new s1.heap _) λh' og=>?_)));have I3:=I2.kept (h':=h') (t':=s1.toks) λb o e=>og b o (oH (iB e)) e;show wpAny _ _ (assignInOrder [λv=>bindName X.env y v,λv=>bindName X.env x v] [u2,u1] >>= λ_=>pure Flow.next) _ _ _;refine bG (assignInOrder_cons (wpAny_bindName (rM I3 hN hj (.inl hy) rb (λs2 I4=>?_) (.inr hy))));refine assignInOrder_cons (wpAny_bindName (rM I4 hN hi (.inl hx) rv (λs3 I5=>assignInOrder_nil (cM ?_)) (.inr hx)))
 rw[List.set_comm _ _ (Ne.symm A3)] at I5;exact⟨_,H1,I5,q1⟩
def Ou(i:Nat)(te:TE)(ti:LL):TS:=λD σ H=>∃x,σ[i]?=some (some x)/\te σ H λy H1=>ti x y H1 λz H2=>D.nx (σ.set i (some z)) H2
theorem aPq{i:Nat}(hN:X.N.Nodup)(hi:X.N[i]?=some x)(hx:Loc X.env.scope x)(he:PE X e te)(ho:Fx X op ti)(hf:X.fn x=true\/X.env.scope.names.lookup x=some .local:=by first|exact .inl rfl|exact .inr rfl|assumption) :
  PS X (.AugAssign (.Name x pos') op e pos) (Ou i te ti):=by
 intro pins s σ H D I h;obtain⟨v,e1,h⟩:=h;obtain⟨m,hn,hl⟩:=I.loc;have vis:Dy X.env.scope x:=by rcases hx with k|k;exact .inl k;exact .inr (.inl k)
 obtain⟨u,r,l⟩:=hl i x v hi e1 vis;refine wpAny_AugAssign_Name ?_;have go:wpAny (model X.prog X.w) X.A (eval e X.env) (λw mx=>wpAny (model X.prog X.w) X.A (inplaceOp op u w) (λr jg=>wpAny (model X.prog X.w) X.A (storeName X.env x r) (λ_=>SP X pins D .next) X.xe jg) X.xe mx) X.xe s:=by
  refine dC (he pins s σ H _ I h) λw s1 zq=>?_;obtain⟨y,H1,I1,r1,q1⟩:=zq;refine dC (ho pins s1 σ H1 v y u w _ I1 r r1 q1) λz s2 zq=>?_;obtain⟨zv,H2,I2,r2,q2⟩:=zq;exact rM I2 hN hi hx r2 (λs3 I3=>⟨_,H2,I3,q2⟩) hf
 rcases l with ⟨hk,hm⟩|⟨hk,c,hc,pd⟩
 ·exact wpAny_loadName_local I.ok.kind hk hn hm go
 ·rcases hk with hk|hk
  ·exact wpAny_loadName_cell I.ok.kind hk hc pd go
  ·rcases hx with k|k
   ·have:X.env.scope.names.lookup x=some .free:=hk;rw[k] at this;cases this
   ·have:X.env.scope.names.lookup x=some .free:=hk;rw[k] at this;cases this
def OZ(to ti te:TE)(oo:V->V->Hp->VK->Prop)(AS:LL)(qc:Ox):TS:=λD σ H=>to σ H λo H1=>ti σ H1 λi H2=>oo o i H2 λx H3=>te σ H3 λy H4=>AS x y H4 λz H5=>qc o i z H5 λH6=>D.nx σ H6
def Ot(X:Cx)(t:V->V->Hp->VK->Prop):Prop:=
 ∀(pins:ao) (s:Shared) (σ:St) (H:Hp) (o i:V) (ov iv:Value) (Q:VK),Inv X pins σ H s->RelV o ov->RelV i iv->t o i H Q->
  wpAny (model X.prog X.w) X.A (getItem ov iv) (EP X pins σ Q) X.xe s
theorem aM4{oo:V->V->Hp->VK->Prop}(ho:PE X o to)(hi:PE X i ti)(hg:Ot X oo)(he:PE X e te)(hp:Fx X op AS)(hs:GH X qc)(ha:∀ov iv new,augStore i ov iv new=(do holding [new,ov,iv] (setItem ov iv new);release [new,ov,iv] [];pure .next):=by intros;rfl):PS X (.AugAssign (.Subscript o i DT) op e pos) (OZ to ti te oo AS qc):=by
 intro pins s σ H D I h;refine wpAny_AugAssign_SubscriptAny (dC (ho pins s σ H _ I h) λov s1 zq=>?_) ha;obtain⟨x1,H1,I1,r1,q1⟩:=zq;refine dC (hi pins s1 σ H1 _ I1 q1) λiv s2 zq=>?_;obtain⟨x2,H2,I2,r2,q2⟩:=zq;refine dC (hg pins s2 σ H2 x1 x2 ov iv _ I2 r1 r2 q2) λold s3 zq=>?_;obtain⟨x3,H3,I3,r3,q3⟩:=zq;refine dC (he pins s3 σ H3 _ I3 q3) λv s4 zq=>?_;obtain⟨x4,H4,I4,r4,q4⟩:=zq;refine dC (hp pins s4 σ H4 x3 x4 old v _ I4 r3 r4 q4) λnew s5 zq=>?_;obtain⟨x5,H5,I5,r5,q5⟩:=zq;exact dC (hs pins s5 σ H5 x1 x2 x5 ov iv new _ I5 r1 r2 r5 q5) λ_ s6 ⟨H6,I6,q6⟩=>⟨σ,H6,I6,q6⟩
def MP(f:Int->Int->Int):LL:=λx y H Q=>∃i j,x=.int i/\y=.int j/\Q (.int (f i j)) H
theorem Fj:Fx X .Add (MP λi j=>i+j):=by
 intro pins s σ H x y v u Q I r1 r2 h;obtain⟨i,j,e1,e2,q⟩:=h;subst e1;subst e2;obtain⟨t,rfl⟩:=r1;obtain⟨t',rfl⟩:=r2;exact iadd_int ⟨.int _,H,I.tok _,⟨_,rfl⟩,q⟩
theorem aPs:Fx X .Sub (MP λi j=>i - j):=by
 intro pins s σ H x y v u Q I r1 r2 h;obtain⟨i,j,e1,e2,q⟩:=h;subst e1;subst e2;obtain⟨t,rfl⟩:=r1;obtain⟨t',rfl⟩:=r2;exact isub_int ⟨.int _,H,I.tok _,⟨_,rfl⟩,q⟩
def YG(c:TT)(tb:TS):TS:=λD σ H=>∃W:Nat->St->Hp->Prop,(∃m,W m σ H)/\∀m σ H,W m σ H->
 c σ H λb H1=>if b=true then ∃N:St->Hp->Prop,(∀σ' H',N σ' H'->∃m',m' < m/\W m' σ' H')/\tb { D with nx:=N,ct:=N,bk:=D.nx } σ H1 else D.nx σ H1
theorem aKN{c:Expr}{body:List Stmt}{tc:TT}{tb:TS}(hp:PassesOwn (model X.prog X.w) X.A X.env X.xe)(hc:PT X c tc)(hb:tf X body tb):PS X (.While c body [] pos) (YG tc tb):=by
 intro pins s σ H D I h;obtain⟨W,⟨m0,w0⟩,turn⟩:=h;refine wpAny_While (codeAny_whileLoop (λn s'=>∃σ' H',Inv X pins σ' H' s'/\W n σ' H') ?_ m0 ⟨σ,H,I,w0⟩);rintro n s1 ⟨σ1,H1,I1,w1⟩;refine wpAny_passesOwn hp (dC (hc pins s1 σ1 H1 _ I1 (turn n σ1 H1 w1)) λb s2 ⟨H2,I2,q2⟩=>?_);cases b with
 |true=>
  obtain⟨N,hN,q2⟩:=q2;rw[cO rfl];refine wpAny_passesOwn hp (dC (hb pins s2 σ1 H2 _ I2 q2) λf s3 q3=>?_);cases f with
  |next=>
   obtain⟨σ3,H3,I3,n3⟩:=q3;obtain⟨m',hm,w3⟩:=hN σ3 H3 n3;exact⟨m',hm,σ3,H3,I3,w3⟩
  |cont=>
   obtain⟨σ3,H3,I3,n3⟩:=q3;obtain⟨m',hm,w3⟩:=hN σ3 H3 n3;exact⟨m',hm,σ3,H3,I3,w3⟩
  |brk=>exact q3
  |ret v=>exact q3
 |false=>
  rw[bZ xI];exact wpAny_execs_nil ⟨σ1,H2,I2,q2⟩
end
structure It where
 go:Nat->Hp->Prop
 oq:Nat->Hp->V->Hp->Prop
 stop:Nat->Hp->Prop
def xJ(X:Cx)(pins:ao)(H:Hp)(b:Addr):Prop:=
 H b=none/\b≠X.env.locals/\b∉X.fs/\(b∈X.ex\/X.cq.heap.objs.size<=b)/\(∀x c,X.env.cells.lookup x=some c->c≠b)/\∀p∈X.pn++pins,p.1≠b
theorem Inv.xw{s:Shared}(I:Inv X pins σ H s)(hb:s.heap.objs.size<=b)(hn:H' b=none):xJ X pins H' b:=by
 refine⟨hn,wg (qI I.lt hb),I.aRW hb,.inr (kr I.sz hb),λx c e z=>?_,λp hp z=>?_⟩
 ·obtain⟨v,q⟩:=I.cell x c e;exact absurd (qI q.lt (by rw[z];exact hb)) (rm _)
 ·exact absurd (qI (iB (I.pin p hp).1) (by rw[z];exact hb)) (rm _)
structure Turn(P:Program)(w:World)(K:W.Frag)(tg:Expr)(J:It)(fp:au)(it:Addr)(tn:Nat->Heap->Prop):Prop where
 mem:it∈fp
 obj:∀i h,tn i h->∀b∈fp,∃o,h.get? b=some o/\∀v,o.data≠.cell v
 keep:∀i h h',tn i h->(∀b∈fp,∀o,h.get? b=some o->h'.get? b=some o)->tn i h'
 item:∀(X:Cx),X.prog=P->X.w=w->X.K=K->X.calm=true->∀(i:Nat) (pins:ao) (s:Shared) (σ:St) (H:Hp) (E:aj),Inv X pins σ H s->(∀b∈fp,xJ X pins H b)->tn i s.heap->J.go i H->
  wpAny (model P w) X.A (pyNext (.ref it)) (λr s1=>∃u,r=some u/\
   wpAny (model P w) X.A (letOwnedTupleGo tg (.ref it) u) (λ_ s2=>∃x H',Inv X pins σ H' s2/\RelV x u/\J.oq i H x H'/\tn (i+1) s2.heap/\∀b∈fp,H' b=none) E s1) E s
 done:∀(X:Cx),X.prog=P->X.w=w->X.K=K->X.calm=true->∀(i:Nat) (pins:ao) (s:Shared) (σ:St) (H:Hp) (E:aj),Inv X pins σ H s->(∀b∈fp,xJ X pins H b)->tn i s.heap->J.stop i H->
  wpAny (model P w) X.A (pyNext (.ref it)) (λr s1=>r=none/\Inv X pins σ H s1) E s
 self:∀(A:Around) (i:Nat) (s:Shared) (Q:aj) (E:aj),tn i s.heap->Q (.ref it) s->wpAny (model P w) A (pyIter (.ref it)) Q E s
abbrev TI:=St->Hp->(It->Hp->Prop)->Prop
def PIE(X:Cx)(pins:ao)(σ:St)(tg:Expr)(R:It->Hp->Prop)(Jq:Value)(s2:Shared):Prop:=
 ∃(it:Addr) (fp:au) (tn:Nat->Heap->Prop) (J:It) (H':Hp),Jq=.ref it/\Inv X pins σ H' s2/\Turn X.prog X.w X.K tg J fp it tn/\tn 0 s2.heap/\(∀b∈fp,xJ X pins H' b)/\R J H'
def PI(X:Cx)(tg iter:Expr)(wi:TI):Prop:=
 ∀(pins:ao) (s:Shared) (σ:St) (H:Hp) (R:It->Hp->Prop),Inv X pins σ H s->wi σ H R->
  wpAny (model X.prog X.w) X.A (eval iter X.env) (λv s1=>wpAny (model X.prog X.w) X.A (pyIter v) (PIE X pins σ tg R) X.xe s1) X.xe s
theorem E4{E:aj}{s:Shared}{o:Obj}{Q:Unit->Shared->Prop}(ho:s.heap.get? it=some o)(hc:o.cls=.type n)(hd:o.data=.fields vs)(hn:["enumerate","zip","dict_itemiterator","dict_reverseitemiterator","odict_iterator","itertools.zip_longest","itertools.pairwise"].contains n=false)(hQ:Q () s):wpAny M A (letOwnedTupleGo tg (.ref it) u) Q E s:=by
 unfold letOwnedTupleGo;cases tg <;> first
  |exact cM hQ
  |(cases u <;> first
    |exact cM hQ
    |(
      refine bG (wpAny_load ho ?_);rw[hc,hd];show wpAny M A (if (["enumerate","zip","dict_itemiterator","dict_reverseitemiterator","odict_iterator","itertools.zip_longest","itertools.pairwise"].contains n && vs[0]? == some (rawInt _))=true then _ else _) Q E s;rw[bZ (by intro h;rw[hn,DC] at h;cases h)];exact cM hQ))
def wq(K:W.Frag)(a:Addr):It:=
 ⟨λi H=>∃xs x,bR K H a xs/\xs[i]?=some x,λi H x H'=>H'=H/\∀xs,bR K H a xs->xs[i]?=some x,λi H=>∃xs,bR K H a xs/\xs.length<=i⟩
def zi(K:W.Frag)(a:Addr):It:=
 ⟨λi H=>∃xs x,iC K H a xs/\xs[i]?=some x,λi H x H'=>H'=H/\∀xs,iC K H a xs->xs[i]?=some x,λi H=>∃xs,iC K H a xs/\xs.length<=i⟩
def vh(lo:Int)(n:Nat):It:=⟨λi _=>i < n,λi H x H'=>H'=H/\x=.int (lo+i),λi _=>n<=i⟩
theorem aJx{P:Program}{w:World}{K:W.Frag}{tg:Expr}(a it:Addr):Turn P w K tg (wq K a) [it] it (λi h=>h.IsListIter it a i) where
 mem:=by simp
 obj:=λi h st b hb=>by
  have e:b=it:=by simpa using hb
  subst e;obtain⟨o,e,c,d⟩:=st;exact⟨o,e,λv z=>by rw[d] at z;cases z⟩
 keep:=λi h h' st k=>st.at λo e=>k it (by simp) o e
 item:=by
  intro X hP hw hK hc i pins s σ H E I hf st hg;subst hP hw hK;obtain⟨xs,x,hq,hx⟩:=hg;obtain⟨its,rv,p,hz⟩:=I.list hq;obtain⟨u,hu,ru⟩:=rv.get hx;obtain⟨f0,f1,f2,f3,f4,f5⟩:=hf it (by simp);refine wpAny_pyNext_list_item st p.isList (x:=u) (by simpa using hu) λh' km sb=>?_;have I1:Inv X pins σ H { s with heap:=h' }:=I.turned (t':=s.toks) (λb o hb e=>(sb.2 b hb).trans e) f0 f1 f3 f4 f5;obtain⟨o,e,c,d⟩:=id km;exact⟨u,rfl,E4 (s:={ s with heap:=h' }) e c d (by decide) ⟨x,H,I1,ru,⟨rfl,λys hy=>by rw[I.Qk hy hq];exact hx⟩,km,λb hb=>(hf b hb).1⟩⟩
 done:=by
  intro X hP hw hK hc i pins s σ H E I hf st hg;subst hP hw hK;obtain⟨xs,hq,hx⟩:=hg;obtain⟨its,rv,p,hz⟩:=I.list hq;obtain⟨f0,f1,f2,f3,f4,f5⟩:=hf it (by simp);have hl:=rv.length;exact wpAny_pyNext_list_end (I.ok.hd hc) st p.isList (by simp;lia) λh' eb=>⟨rfl,I.turned (t':=s.toks) (λb o hb e=>eb b o hb e) f0 f1 f3 f4 f5⟩
 self:=λ_ _ _ _ _ st h=>wpAny_pyIter_listiter st h
theorem aHA{P:Program}{w:World}{K:W.Frag}{tg:Expr}(a it:Addr):Turn P w K tg (zi K a) [it] it (λi h=>h.IsTupleIter it a i) where
 mem:=by simp
 obj:=λi h st b hb=>by
  have e:b=it:=by simpa using hb
  subst e;obtain⟨o,e,c,d⟩:=st;exact⟨o,e,λv z=>by rw[d] at z;cases z⟩
 keep:=λi h h' st k=>st.at λo e=>k it (by simp) o e
 item:=by
  intro X hP hw hK hc i pins s σ H E I hf st hg;subst hP hw hK;obtain⟨xs,x,hq,hx⟩:=hg;obtain⟨its,rv,p,hz⟩:=I.tuple hq;obtain⟨u,hu,ru⟩:=rv.get hx;obtain⟨f0,f1,f2,f3,f4,f5⟩:=hf it (by simp);refine wpAny_pyNext_tuple_item st (show s.heap.IsTuple a its.toArray from p) (x:=u) (by simpa using hu) λh' km sb=>?_;have I1:Inv X pins σ H { s with heap:=h' }:=I.turned (t':=s.toks) (λb o hb e=>(sb.2 b hb).trans e) f0 f1 f3 f4 f5;obtain⟨o,e,c,d⟩:=id km;exact⟨u,rfl,E4 (s:={ s with heap:=h' }) e c d (by decide) ⟨x,H,I1,ru,⟨rfl,λys hy=>by rw[I.Z8 hy hq];exact hx⟩,km,λb hb=>(hf b hb).1⟩⟩
 done:=by
  intro X hP hw hK hc i pins s σ H E I hf st hg;subst hP hw hK;obtain⟨xs,hq,hx⟩:=hg;obtain⟨its,rv,p,hz⟩:=I.tuple hq;obtain⟨f0,f1,f2,f3,f4,f5⟩:=hf it (by simp);have hl:=rv.length;exact wpAny_pyNext_tuple_end (I.ok.hd hc) st (show s.heap.IsTuple a its.toArray from p) (by simp;lia) λh' eb=>⟨rfl,I.turned (t':=s.toks) (λb o hb e=>eb b o hb e) f0 f1 f3 f4 f5⟩
 self:=λ_ _ _ _ _ st h=>wpAny_pyIter_tupleiter st h
theorem aHB{P:Program}{w:World}{K:W.Frag}{tg:Expr}(it:Addr)(lo:Int)(n:Nat):Turn P w K tg (vh lo n) [it] it (λi h=>IsRangeIter h it (lo+(i:Nat)*1) ((n:Int) - (i:Nat)) 1) where
 mem:=by simp
 obj:=λi h st b hb=>by
  have e:b=it:=by simpa using hb
  subst e;exact⟨_,st,λv z=>by
   have z':Data.fields _=Data.cell v:=z;cases z'⟩
 keep:=λi h h' st k=>k it (by simp) _ st
 item:=by
  intro X hP hw hK hc i pins s σ H E I hf st hg;subst hP hw hK;obtain⟨f0,f1,f2,f3,f4,f5⟩:=hf it (by simp);have W:=Walks.range (prog:=X.prog) (w:=X.w) (I.ok.hd hc) it lo 1 n;refine W.item i s _ _ hg st λv h' tk hv km kk=>?_;obtain⟨t,rfl⟩:=hv;have I1:Inv X pins σ H { s with heap:=h',toks:=tk }:=I.turned (λb o hb e=>kk b o (by simpa using hb) e) f0 f1 f3 f4 f5;refine⟨_,rfl,E4 (s:={ s with heap:=h',toks:=tk }) (n:="range_iterator") km rfl rfl (by decide) ⟨.int (lo+i),H,I1,⟨t,?_⟩,⟨rfl,rfl⟩,km,λb hb=>(hf b hb).1⟩⟩;rw[Co]
 done:=by
  intro X hP hw hK hc i pins s σ H E I hf st hg;subst hP hw hK;obtain⟨f0,f1,f2,f3,f4,f5⟩:=hf it (by simp);exact wpAny_pyNext_range_end (I.ok.hd hc) st (by have:n<=i:=hg;lia) λh' eb=>⟨rfl,I.turned (t':=s.toks) (λb o hb e=>eb b o hb e) f0 f1 f3 f4 f5⟩
 self:=λ_ _ _ _ _ st h=>wpAny_pyIter_rangeiter st h
section
variable{X:Cx}{tg:Expr}
def OY(K:W.Frag)(tl:TE):TI:=λσ H R=>tl σ H λx H1=>∃a,x=.ref a/\(∃xs,bR K H1 a xs)/\R (wq K a) H1
def Oq(K:W.Frag)(tl:TE):TI:=λσ H R=>tl σ H λx H1=>∃a,x=.ref a/\(∃xs,iC K H1 a xs)/\R (zi K a) H1
theorem aM5{l:Expr}{tl:TE}(hl:PE X l tl):PI X tg l (OY X.K tl):=by
 intro pins s σ H R I h;refine dC (hl pins s σ H _ I h) λv s1 zq=>?_;obtain⟨x,H1,I1,r1,q1⟩:=zq;obtain⟨a,e,⟨xs,hq⟩,q⟩:=q1;subst e;cases r1;obtain⟨its,rv,p,hz⟩:=I1.list hq;refine wpAny_pyIter_list p.isList ?_;refine⟨s1.heap.objs.size,[s1.heap.objs.size],_,_,H1,rfl,I1.kept (t':=s1.toks) λb o e=>eG _ e,aJx a _,⟨_,lA _ rfl,rfl,rfl⟩,λb hb=>?_,q⟩;have e:b=s1.heap.objs.size:=by simpa using hb
 subst e;exact I1.xw (dQ _) (I1.bc.fresh (dQ _))
theorem aPu{l:Expr}{tl:TE}(hl:PE X l tl):PI X tg l (Oq X.K tl):=by
 intro pins s σ H R I h;refine dC (hl pins s σ H _ I h) λv s1 zq=>?_;obtain⟨x,H1,I1,r1,q1⟩:=zq;obtain⟨a,e,⟨xs,hq⟩,q⟩:=q1;subst e;cases r1;obtain⟨its,rv,p,hz⟩:=I1.tuple hq;refine wpAny_pyIter_tuple (show s1.heap.IsTuple a its.toArray from p) ?_;refine⟨s1.heap.objs.size,[s1.heap.objs.size],_,_,H1,rfl,I1.kept (t':=s1.toks) λb o e=>eG _ e,aHA a _,⟨_,lA _ rfl,rfl,rfl⟩,λb hb=>?_,q⟩;have e:b=s1.heap.objs.size:=by simpa using hb
 subst e;exact I1.xw (dQ _) (I1.bc.fresh (dQ _))
theorem ZG{s:Shared}{R:It->Hp->Prop}{E:aj}{lo hi:Int}{t u v:Tok}{tk:Nat}(I:Inv X pins σ H s)(h1:-(2 ^ 62)<=lo)(h2:lo < 2 ^ 62)(h3:-(2 ^ 62)<=hi)(h4:hi < 2 ^ 62)(q:R (vh lo (hi - lo).toNat) H):wpAny (model X.prog X.w) X.A (pyIter (.ref s.heap.objs.size)) (PIE X pins σ tg R) E { s with heap:=s.heap.push { cls:=.type "range",data:=.fields #[.int lo t,.int hi u,.int 1 v] },toks:=tk }:=by
 refine wpAny_pyIter_range (IsRange.new ..) (small_one h1 h2 h3 h4) ?_;have I1:Inv X pins σ H { s with heap:=s.heap.push { cls:=.type "range",data:=.fields #[.int lo t,.int hi u,.int 1 v] },toks:=tk }:=I.kept λb o e=>eG _ e;refine⟨(s.heap.push { cls:=.type "range",data:=.fields #[.int lo t,.int hi u,.int 1 v] }).objs.size,[(s.heap.push { cls:=.type "range",data:=.fields #[.int lo t,.int hi u,.int 1 v] }).objs.size],_,_,H,rfl,
  I1.kept (t':=tk) λb o e=>eG _ e,aHB _ lo (hi - lo).toNat,?_,λb hb=>?_,q⟩
 ·have e1:lo+((0:Nat):Int)*1=lo:=by simp
  have e2:(((hi - lo).toNat:Nat):Int) - ((0:Nat):Int)=Builtin.Range.rangeSize lo hi 1:=by rw[rangeSize_one];split <;> lia
  show IsRangeIter _ _ (lo+((0:Nat):Int)*1) ((((hi - lo).toNat:Nat):Int) - ((0:Nat):Int)) 1;rw[e1,e2];exact lA _ rfl
 ·have e:b=(s.heap.push { cls:=.type "range",data:=.fields #[.int lo t,.int hi u,.int 1 v] }).objs.size:=by simpa using hb
  subst e;exact I1.xw (dQ _) (I1.bc.fresh (dQ _))
def Ku(ta:TA):TI:=λσ H R=>ta σ H λvs H1=>∃j:Int,vs=[.int j]/\-(2 ^ 62)<=j/\j < 2 ^ 62/\R (vh 0 j.toNat) H1
def Kt(ta:TA):TI:=λσ H R=>ta σ H λvs H1=>∃i j:Int,vs=[.int i,.int j]/\(-(2 ^ 62)<=i/\i < 2 ^ 62/\-(2 ^ 62)<=j/\j < 2 ^ 62)/\R (vh i (j - i).toNat) H1
theorem aJy(hg:Gl X "range")(hm:X.mg "range" = none)(ha:PA X [a] ta)(hs:starEach [a] X.env=[(false,eval a X.env)]:=by rfl):PI X tg (.Call (.Name "range" p) [a] [] pos) (Ku ta):=by
 intro pins s σ H R I h;refine Call_ (lV I hg hm boot_range (PyProof.Rows.callWith_type1 (dC (ha pos pins s σ H _ I h) λus s1 zq=>?_) hs rfl));obtain⟨vs,H1,I1,r1,q1⟩:=zq;obtain⟨j,e,q1,q2,q⟩:=q1;subst e;cases r1 with
 |cons r rr=>
  cases rr;obtain⟨t,rfl⟩:=r;exact call_range_1 (ZG I1 (by lia) (by lia) q1 q2 (by simpa using q))
theorem aJz(hg:Gl X "range")(hm:X.mg "range" = none)(ha:PA X [a,b] ta)(hs:starEach [a,b] X.env=[(false,eval a X.env),(false,eval b X.env)]:=by rfl)(dv:starEach [b] X.env=[(false,eval b X.env)]:=by rfl) :
  PI X tg (.Call (.Name "range" p) [a,b] [] pos) (Kt ta):=by
 intro pins s σ H R I h;refine Call_ (lV I hg hm boot_range (PyProof.Rows.callWith_type1 (dC (ha pos pins s σ H _ I h) λus s1 ⟨vs,H1,I1,r1,q1⟩=>?_) (by rw[hs,dv]) (by rw[dv];rfl)));obtain⟨i,j,e,⟨q1,q2,q3,q4⟩,q⟩:=q1;subst e;cases r1 with
 |cons r rr=>
  cases rr with
  |cons r' rr=>
   cases rr;obtain⟨t,rfl⟩:=r;obtain⟨t',rfl⟩:=r';exact call_range_2 (ZG I1 q1 q2 q3 q4 q)
def Oo(wi:TI)(g:TG)(tb:TS):TS:=λD σ H=>wi σ H λJ H1=>∃W:Nat->Nat->St->Hp->Prop,(∃m,W 0 m σ H1)/\∀i m σ H,W i m σ H->
 (J.stop i H/\D.nx σ H)\/(J.go i H/\∃N:St->Hp->Prop,(∀σ' H',N σ' H'->∃m',m' < m/\W (i+1) m' σ' H')/\∀x H',J.oq i H x H'->g x σ H' λσ2 H2=>tb { D with nx:=N,ct:=N,bk:=D.nx } σ2 H2)
def GZ(fp:au)(h:Heap):ao:=fp.filterMap λb=>(h.get? b).map λo=>(b,o)
theorem pB{h:Heap}(hb:b∈fp)(e:h.get? b=some o):(b,o)∈GZ fp h:=List.mem_filterMap.mpr ⟨b,hb,by rw[e];rfl⟩
theorem aJA{h:Heap}{p:Addr×Obj}(hp:p∈GZ fp h):p.1∈fp/\h.get? p.1=some p.2:=by
 obtain⟨b,hb,e⟩:=List.mem_filterMap.mp hp;cases q:h.get? b with
 |none=>rw[q] at e;cases e
 |some o=>
  rw[q] at e;have e':(b,o)=p:=Option.some.inj e;subst e';exact⟨hb,q⟩
theorem Inv.pinned{s:Shared}(I:Inv X pins σ H s)(hf:∀b∈fp,xJ X pins H b)(ho:∀b∈fp,∃o,s.heap.get? b=some o/\∀v,o.data≠.cell v):Inv X (pins++GZ fp s.heap) σ H s:=
 I.Lc λp hp=>(oh.mp hp).elim (λz=>I.pin p (se _ z)) λz=>by
  obtain⟨hb,e⟩:=aJA z;obtain⟨f0,f1,f2,_⟩:=hf p.1 hb;obtain⟨o,e',d⟩:=ho p.1 hb;rw[e] at e';cases e';exact⟨e,f0,f1,f2,d⟩
theorem Inv.xK(I:Inv X (pins++pl) σ H s):Inv X pins σ H s:=I.Lc λp hp=>I.pin p (se _ (Bo _ hp))
theorem aPw(hp:PassesOwn (model X.prog X.w) X.A X.env X.xe)(hc:X.calm=true)(hi:PI X tg iter wi)(hg:PG X tg g)(hb:tf X body tb)(hs:∀x,foldedSetIterable iter X.env x=pure x:=by intro _;rfl):PS X (.For tg iter body [] pos) (Oo wi g tb):=by
 intro pins s σ H D I h;refine wpAny_For (dC (hi pins s σ H _ I h) λv s1 h1=>dC h1 λJq s2 h2=>?_) hs;obtain⟨it,fp,tn,J,H2,e,I2,T,FJ,f2,W,⟨m0,w0⟩,turn⟩:=h2;subst e;have uj:∀{H':Hp},(∀b∈fp,H' b=none)->∀b∈fp,xJ X pins H' b:=λhn b hb=>⟨hn b hb,(f2 b hb).2⟩
 refine codeAny_forLoop_any (λn s'=>∃i σ' H',Inv X pins σ' H' s'/\tn i s'.heap/\(∀b∈fp,H' b=none)/\W i n σ' H') ?_ m0 ⟨0,σ,H2,I2,FJ,λb hb=>(f2 b hb).1,w0⟩;rintro n s3 ⟨i,σ3,H3,I3,UD,Wg,w3⟩;rcases turn i n σ3 H3 w3 with ⟨stop,qn⟩|⟨go,N,hN,step⟩
 ·refine wpAny_passesOwn hp (dC (T.done X rfl rfl rfl hc i pins s3 σ3 H3 X.xe I3 (uj Wg) UD stop) λr s4 ⟨hr,I4⟩=>?_);subst hr;exact wpAny_execs_nil ⟨σ3,H3,I4,qn⟩
 ·refine wpAny_passesOwn hp (dC (T.item X rfl rfl rfl hc i pins s3 σ3 H3 X.xe I3 (uj Wg) UD go) λr s4 ⟨u,hr,h4⟩=>?_);subst hr;refine wpAny_passesOwn hp (dC h4 λ_ s5 zq=>?_);obtain⟨x,H5,I5,r5,y5,BS,N2⟩:=zq;have QY:=I5.pinned (uj N2) (T.obj _ _ BS);refine wpAny_passesOwn hp (dC (hg _ s5 σ3 H5 x u _ QY r5 (step x H5 y5)) λ_ s6 zq=>?_);obtain⟨σ6,H6,I6,q6⟩:=zq;refine wpAny_passesOwn hp (dC (hb _ s6 σ6 H6 _ I6 q6) λf s7 q7=>?_);have again:∀{σ7:St} {H7:Hp},Inv X (pins++GZ fp s5.heap) σ7 H7 s7->N σ7 H7->∃m,m < n/\∃i σ' H',Inv X pins σ' H' s7/\tn i s7.heap/\(∀b∈fp,H' b=none)/\W i m σ' H':=λ{σ7 H7} I7 n7=>by
   obtain⟨m',hm,w7⟩:=hN σ7 H7 n7;refine⟨m',hm,i+1,σ7,H7,I7.xK,T.keep _ _ _ BS λb hb o e=>(I7.pin (b,o) (se _ (se _ (pB hb e)))).1,λb hb=>?_,w7⟩;obtain⟨o,e,d⟩:=T.obj _ _ BS b hb;exact(I7.pin (b,o) (se _ (se _ (pB hb e)))).2.1
  cases f with
  |next=>obtain⟨σ7,H7,I7,n7⟩:=q7;exact again I7 n7
  |cont=>obtain⟨σ7,H7,I7,n7⟩:=q7;exact again I7 n7
  |brk=>obtain⟨σ7,H7,I7,q7⟩:=q7;exact⟨σ7,H7,I7.xK,q7⟩
  |ret v=>obtain⟨x7,σ7,H7,I7,r7,q7⟩:=q7;exact⟨x7,σ7,H7,I7.xK,r7,q7⟩
end
theorem aKP{K:W.Frag}{a:Addr}{xs:List V}{g:TG}{tb:TS}{D:Ends}{σ:St}{H:Hp}(Pv:Nat->St->Hp->Prop)(h0:Pv 0 σ H)(hl:∀i σ H,i<=xs.length->Pv i σ H->bR K H a xs)
  (hs:∀i x σ H,xs[i]?=some x->Pv i σ H->g x σ H λσ2 H2=>tb { D with nx:=Pv (i+1),ct:=Pv (i+1),bk:=D.nx } σ2 H2) (hd:∀σ H,Pv xs.length σ H->D.nx σ H) :
  ∃W:Nat->Nat->St->Hp->Prop,(∃m,W 0 m σ H)/\∀i m σ H,W i m σ H->
   ((wq K a).stop i H/\D.nx σ H)\/((wq K a).go i H/\∃N:St->Hp->Prop,(∀σ' H',N σ' H'->∃m',m' < m/\W (i+1) m' σ' H')/\∀x H',(wq K a).oq i H x H'->g x σ H' λσ2 H2=>tb { D with nx:=N,ct:=N,bk:=D.nx } σ2 H2):=by
 refine⟨λi m σ H=>m=xs.length - i/\i<=xs.length/\Pv i σ H,⟨xs.length,by simp,ko _,h0⟩,?_⟩;rintro i m σ H ⟨rfl,hi,p⟩;have q:=hl i σ H hi p;by_cases cw:i < xs.length
 ·refine .inr ⟨⟨xs,xs[i],q,by simp[cw]⟩,Pv (i+1),λσ' H' p'=>⟨xs.length - (i+1),by lia,rfl,cw,p'⟩,λx H' y=>?_⟩;obtain⟨e,y⟩:=y;subst e;exact hs i x σ _ (y xs q) p
 ·have e:i=xs.length:=by lia
  subst e;exact .inl ⟨⟨xs,q,dQ _⟩,hd σ H p⟩
theorem aM6{K:W.Frag}{a:Addr}{xs:List V}{g:TG}{tb:TS}{D:Ends}{σ:St}{H:Hp}(Pv:Nat->St->Hp->Prop)(h0:Pv 0 σ H)(hl:∀i σ H,i<=xs.length->Pv i σ H->iC K H a xs)
  (hs:∀i x σ H,xs[i]?=some x->Pv i σ H->g x σ H λσ2 H2=>tb { D with nx:=Pv (i+1),ct:=Pv (i+1),bk:=D.nx } σ2 H2) (hd:∀σ H,Pv xs.length σ H->D.nx σ H) :
  ∃W:Nat->Nat->St->Hp->Prop,(∃m,W 0 m σ H)/\∀i m σ H,W i m σ H->
   ((zi K a).stop i H/\D.nx σ H)\/((zi K a).go i H/\∃N:St->Hp->Prop,(∀σ' H',N σ' H'->∃m',m' < m/\W (i+1) m' σ' H')/\∀x H',(zi K a).oq i H x H'->g x σ H' λσ2 H2=>tb { D with nx:=N,ct:=N,bk:=D.nx } σ2 H2):=by
 refine⟨λi m σ H=>m=xs.length - i/\i<=xs.length/\Pv i σ H,⟨xs.length,by simp,ko _,h0⟩,?_⟩;rintro i m σ H ⟨rfl,hi,p⟩;have q:=hl i σ H hi p;by_cases cw:i < xs.length
 ·refine .inr ⟨⟨xs,xs[i],q,by simp[cw]⟩,Pv (i+1),λσ' H' p'=>⟨xs.length - (i+1),by lia,rfl,cw,p'⟩,λx H' y=>?_⟩;obtain⟨e,y⟩:=y;subst e;exact hs i x σ _ (y xs q) p
 ·have e:i=xs.length:=by lia
  subst e;exact .inl ⟨⟨xs,q,dQ _⟩,hd σ H p⟩
theorem aJB{lo:Int}{n:Nat}{g:TG}{tb:TS}{D:Ends}{σ:St}{H:Hp}(Pv:Nat->St->Hp->Prop)(h0:Pv 0 σ H)
  (hs:∀i σ H,i < n->Pv i σ H->g (.int (lo+i)) σ H λσ2 H2=>tb { D with nx:=Pv (i+1),ct:=Pv (i+1),bk:=D.nx } σ2 H2) (hd:∀σ H,Pv n σ H->D.nx σ H) :
  ∃W:Nat->Nat->St->Hp->Prop,(∃m,W 0 m σ H)/\∀i m σ H,W i m σ H->
   ((vh lo n).stop i H/\D.nx σ H)\/((vh lo n).go i H/\∃N:St->Hp->Prop,(∀σ' H',N σ' H'->∃m',m' < m/\W (i+1) m' σ' H')/\∀x H',(vh lo n).oq i H x H'->g x σ H' λσ2 H2=>tb { D with nx:=N,ct:=N,bk:=D.nx } σ2 H2):=by
 refine⟨λi m σ H=>m=n - i/\i<=n/\Pv i σ H,⟨n,by simp,ko _,h0⟩,?_⟩;rintro i m σ H ⟨rfl,hi,p⟩;by_cases cw:i < n
 ·refine .inr ⟨cw,Pv (i+1),λσ' H' p'=>⟨n - (i+1),by lia,rfl,cw,p'⟩,λx H' y=>?_⟩;obtain⟨e,y⟩:=y;subst e y;exact hs i σ _ cw p
 ·have e:i=n:=by lia
  subst e;exact .inl ⟨dQ _,hd σ H p⟩
abbrev R2:=V->V->Hp->VK->Prop
def rK(X:Cx)(f:Value->Value->Sem Value)(r:R2):Prop:=
 ∀(pins:ao) (s:Shared) (σ:St) (H:Hp) (x y:V) (v u:Value) (Q:VK),Inv X pins σ H s->RelV x v->RelV y u->r x y H Q->
  wpAny (model X.prog X.w) X.A (f v u) (EP X pins σ Q) X.xe s
def LA(X:Cx)(f:Value->Sem Value)(r:V->Hp->VK->Prop):Prop:=
 ∀(pins:ao) (s:Shared) (σ:St) (H:Hp) (x:V) (v:Value) (Q:VK),Inv X pins σ H s->RelV x v->r x H Q->
  wpAny (model X.prog X.w) X.A (f v) (EP X pins σ Q) X.xe s
def eJ(X:Cx)(f:Value)(r:List V->Hp->VK->Prop):Prop:=
 ∀(pins:ao) (s:Shared) (σ:St) (H:Hp) (xs:List V) (us:ah) (Q:VK),Inv X pins σ H s->Vals xs us->r xs H Q->
  wpAny (model X.prog X.w) X.A (call f us) (EP X pins σ Q) X.xe s
def AU(r:R2)(ta tb:TE):TE:=λσ H Q=>ta σ H λx H1=>tb σ H1 λy H2=>r x y H2 Q
def Mh(r:V->Hp->VK->Prop)(ta:TE):TE:=λσ H Q=>ta σ H λx H1=>r x H1 Q
def rI(C:Int->Int->Prop)(g:Int->Int->V):R2:=λx y H Q=>∃i j,x=.int i/\y=.int j/\C i j/\Q (g i j) H
def Aj(g:Int->Int->V):R2:=λx y H Q=>∃i j,x=.int i/\y=.int j/\Q (g i j) H
def rU(g:Int->V):V->Hp->VK->Prop:=λx H Q=>∃i,x=.int i/\Q (g i) H
section
variable{X:Cx}{a b c:Expr}{ta tb tc:TE}{pos:Pos}
theorem Om(ha:PE X a ta)(hb:PE X b tb){R:V->V->Hp->Prop}(I:Inv X pins σ H s)(h:ta σ H λx H1=>tb σ H1 λy H2=>R x y H2){Q:aj}{f:Value->Value->Sem Value}(hf:∀v u s2 x y H2,Inv X pins σ H2 s2->RelV x v->RelV y u->R x y H2->wpAny (model X.prog X.w) X.A (f v u) Q X.xe s2) :
  wpAny (model X.prog X.w) X.A (eval a X.env) (λv az=>wpAny (model X.prog X.w) X.A (eval b X.env) (λu mx=>wpAny (model X.prog X.w) X.A (f v u) Q X.xe mx) X.xe az) X.xe s:=by
 refine dC (ha pins s σ H _ I h) λv s1 zq=>?_;obtain⟨x,H1,I1,r1,q1⟩:=zq;refine dC (hb pins s1 σ H1 _ I1 q1) λu s2 zq=>?_;obtain⟨y,H2,I2,r2,q2⟩:=zq;exact hf v u s2 x y H2 I2 r1 r2 q2
theorem aQ0(ho:rK X (binaryOp op) r)(ha:PE X a ta)(hb:PE X b tb):PE X (.BinOp a op b pos) (AU r ta tb):=by
 intro pins s σ H Q I h;exact wpAny_BinOp (Om ha hb I h λv u s2 x y H2 I2 rx ry q=>ho pins s2 σ H2 x y v u Q I2 rx ry q)
theorem aQ1{r:V->Hp->VK->Prop}(ho:LA X (unaryOp op) r)(ha:PE X a ta):PE X (.UnaryOp op a pos) (Mh r ta):=by
 intro pins s σ H Q I h;exact UnaryOp_ (dC (ha pins s σ H _ I h) λv s1 ⟨x,H1,I1,r1,q1⟩=>ho pins s1 σ H1 x v Q I1 r1 q1)
theorem Je{f:Value->Value->Sem Value}{C:Int->Int->Prop}{g:Int->Int->Int}
  (rule:∀(i j:Int) (t u:Tok) (s:Shared) (Q:aj) (E:aj),C i j->Q (.int (g i j) s.toks) { s with toks:=s.toks+1 }->wpAny (model X.prog X.w) X.A (f (.int i t) (.int j u)) Q E s) :
  rK X f (rI C λi j=>.int (g i j)):=by
 intro pins s σ H x y v u Q I rx ry h;obtain⟨i,j,rfl,rfl,hc,q⟩:=h;obtain⟨t,rfl⟩:=rx;obtain⟨t',rfl⟩:=ry;exact rule i j t t' s _ _ hc ⟨.int (g i j),H,I.tok _,⟨_,rfl⟩,q⟩
theorem XO{f:Value->Value->Sem Value}{g:Int->Int->Int}
  (rule:∀(i j:Int) (t u:Tok) (s:Shared) (Q:aj) (E:aj),Q (.int (g i j) s.toks) { s with toks:=s.toks+1 }->wpAny (model X.prog X.w) X.A (f (.int i t) (.int j u)) Q E s) :
  rK X f (Aj λi j=>.int (g i j)):=by
 intro pins s σ H x y v u Q I rx ry h;obtain⟨i,j,rfl,rfl,q⟩:=h;obtain⟨t,rfl⟩:=rx;obtain⟨t',rfl⟩:=ry;exact rule i j t t' s _ _ ⟨.int (g i j),H,I.tok _,⟨_,rfl⟩,q⟩
theorem Kk{f:Value->Value->Sem Value}{g:Int->Int->Bool}
  (rule:∀(i j:Int) (t u:Tok) (s:Shared) (Q:aj) (E:aj),Q (.bool (g i j)) s->wpAny (model X.prog X.w) X.A (f (.int i t) (.int j u)) Q E s) :
  rK X f (Aj λi j=>.bl (g i j)):=by
 intro pins s σ H x y v u Q I rx ry h;obtain⟨i,j,rfl,rfl,q⟩:=h;obtain⟨t,rfl⟩:=rx;obtain⟨t',rfl⟩:=ry;exact rule i j t t' s _ _ ⟨.bl (g i j),H,I,rfl,q⟩
def aRY(i j:Int):Prop:=0 < j/\j < 1073741824
def aRZ(i j:Int):Prop:=0<=j/\j<=1000000/\i.natAbs < 2 ^ 64
def GG(i j:Int):Prop:=(-(2 ^ 64) < i/\i < 2 ^ 64)\/(-(2 ^ 64) < j/\j < 2 ^ 64)
theorem GG.ok{i j:Int}(h:GG i j):IntMulOk i j:=by
 rcases h with ⟨h1,h2⟩|⟨h1,h2⟩
 ·exact .of_left (intBits_le_64 h1 h2)
 ·exact .of_right (intBits_le_64 h1 h2)
theorem aPy:rK X (binaryOp .Add) (Aj λi j=>.int (i+j)):=XO λ_ _ _ _ _ _ _ q=>add_int q
theorem fA:rK X (binaryOp .Sub) (Aj λi j=>.int (i - j)):=XO λ_ _ _ _ _ _ _ q=>sub_int q
theorem aPz:rK X (binaryOp .Mult) (rI GG λi j=>.int (i*j)):=Je λ_ _ _ _ _ _ _ hc q=>mul_int q hc.ok
theorem La:rK X (binaryOp .FloorDiv) (rI aRY λi j=>.int (i / j)):=Je λi j _ _ _ _ _ hc q=>by
 have h1:(0:Int) < j:=hc.1;have h2:j < 1073741824:=hc.2;exact floordiv_int (by lia) (by rw[Int.fdiv_eq_ediv_of_nonneg i (by lia)];exact q) (.inl (PyProof.noPylong_small (by lia)))
theorem lW:rK X (binaryOp .Mod) (rI (λ_ j=>0 < j) λi j=>.int (i % j)):=Je λi j _ _ _ _ _ hc q=>by
 have h1:(0:Int) < j:=hc;exact mod_int' (by lia) (by rw[Int.fmod_eq_emod_of_nonneg i (by lia)];exact q)
theorem GY:rK X (binaryOp .Pow) (rI aRZ λi j=>.int (i ^ j.toNat)):=Je λ_ _ _ _ _ _ _ hc q=>pow_int_small hc.1 hc.2.1 hc.2.2 q
theorem unI{f:Value->Sem Value}{g:Int->Int}
  (rule:∀(i:Int) (t:Tok) (s:Shared) (Q:aj) (E:aj),Q (.int (g i) s.toks) { s with toks:=s.toks+1 }->wpAny (model X.prog X.w) X.A (f (.int i t)) Q E s) :
  LA X f (rU λi=>.int (g i)):=by
 intro pins s σ H x v Q I rx h;obtain⟨i,rfl,q⟩:=h;obtain⟨t,rfl⟩:=rx;exact rule i t s _ _ ⟨.int (g i),H,I.tok _,⟨_,rfl⟩,q⟩
theorem rO:LA X (unaryOp .USub) (rU λi=>.int (-i)):=unI λ_ _ _ _ _ q=>neg_int q
theorem Cm:rK X (compareOp .Lt) (Aj λi j=>.bl (decide (i < j))):=Kk λ_ _ _ _ _ _ _ q=>lt_int q
theorem Ck:rK X (compareOp .LtE) (Aj λi j=>.bl (decide (i<=j))):=Kk λ_ _ _ _ _ _ _ q=>le_int q
theorem rP:rK X (compareOp .Gt) (Aj λi j=>.bl (decide (j < i))):=Kk λ_ _ _ _ _ _ _ q=>gt_int q
theorem X7:rK X (compareOp .GtE) (Aj λi j=>.bl (decide (j<=i))):=Kk λ_ _ _ _ _ _ _ q=>ge_int q
theorem rK.or{f:Value->Value->Sem Value}{r':R2}(h:rK X f r)(h':rK X f r'):rK X f (λx y H Q=>r x y H Q\/r' x y H Q):=by
 intro pins s σ H x y v u Q I rx ry q;rcases q with q|q
 ·exact h pins s σ H x y v u Q I rx ry q
 ·exact h' pins s σ H x y v u Q I rx ry q
theorem bJ(b:Expr)(h:op≠.In:=by decide)(h2:op≠.NotIn:=by decide):behindInMarks op b=false:=by
 have e1:(op == CmpOp.In)=false:=by cases op <;> first|rfl|exact absurd rfl h
 have e2:(op == CmpOp.NotIn)=false:=by cases op <;> first|rfl|exact absurd rfl h2
 cases b <;> simp[behindInMarks,e1,e2]
theorem aM8(ho:rK X (compareOp op) r)(ha:PE X a ta)(hb:PE X b tb)(hm:behindInMarks op b=false):PE X (.Compare a [op] [b] pos) (AU r ta tb):=by
 intro pins s σ H Q I h;exact wpAny_Compare1 (Om ha hb I h λv u s2 x y H2 I2 rx ry q=>ho pins s2 σ H2 x y v u Q I2 rx ry q) hm
def OX(t:TE):TT:=λσ H Q=>t σ H λx H'=>∃k,x=.bl k/\Q k H'
theorem aM9(ho:rK X (compareOp op) r)(ha:PE X a ta)(hb:PE X b tb)(hm:behindInMarks op b=false):PT X (.Compare a [op] [b] pos) (OX (AU r ta tb)):=by
 intro pins s σ H Q I h;refine wpAny_isTrue_Compare1 (dC (ha pins s σ H _ I h) λv s1 ⟨x,H1,I1,r1,q1⟩=>dC (hb pins s1 σ H1 _ I1 q1) λu s2 ⟨y,H2,I2,r2,q2⟩=>
  dC (ho pins s2 σ H2 x y v u _ I2 r1 r2 q2) λc s3 ⟨z,H3,I3,r3,k,e,q3⟩=>?_) hm
 subst e;cases r3;exact wpAny_truthy_bool ⟨H3,I3,q3⟩
def PC(r r':R2)(ta tb tc:TE):TE:=λσ H Q=>ta σ H λx H1=>tb σ H1 λy H2=>r x y H2 λz H3=>∃k,z=.bl k/\
 (if k=true then tc σ H3 λw' H4=>r' y w' H4 Q else Q (.bl false) H3)
theorem aKS(ho:rK X (compareOp op) r)(yl:rK X (compareOp FT) r')(ha:PE X a ta)(hb:PE X b tb)(hc:PE X c tc)(hm:lastMarks [op,FT] [b,c]=false:=by with_unfolding_all rfl):PE X (.Compare a [op,FT] [b,c] pos) (PC r r' ta tb tc):=by
 intro pins s σ H Q I h;refine Compare_chain (dC (ha pins s σ H _ I h) λv s1 ⟨x,H1,I1,r1,q1⟩=>chain_link (dC (hb pins s1 σ H1 _ I1 q1) λu s2 ⟨y,H2,I2,r2,q2⟩=>
  dC (ho pins s2 σ H2 x y v u _ I2 r1 r2 q2) λd s3 ⟨z,H3,I3,r3,k,e,q3⟩=>?_)) hm
 subst e;cases r3;refine wpAny_truthy_bool ?_;cases k with
 |false=>exact ite_ff ⟨.bl false,H3,I3,rfl,q3⟩
 |true=>exact ite_tt (chain_last (dC (hc pins s3 σ H3 _ I3 q3) λw' s4 ⟨z',H4,I4,r4,q4⟩=>yl pins s4 σ H4 y z' u w' Q I4 r2 r4 q4))
theorem Fi:(sizeLine:Nat) < 2 ^ 63:=by rw[ud];decide
theorem vals1(r:Vals [x] us):∃u,us=[u]/\RelV x u:=by
 cases r with
 |cons r1 r2=>cases r2;exact⟨_,rfl,r1⟩
theorem vals2(r:Vals [x,y] us):∃u w',us=[u,w']/\RelV x u/\RelV y w':=by
 cases r with
 |cons r1 r2=>
  cases r2 with
  |cons r3 r4=>cases r4;exact⟨_,_,rfl,r1,r3⟩
theorem aKT:eJ X (.builtin "abs") (λxs H Q=>∃i,xs=[.int i]/\Q (.int (if i < 0 then -i else i)) H):=by
 intro pins s σ H xs us Q I r h;obtain⟨i,rfl,q⟩:=h;obtain⟨u,rfl,t,rfl⟩:=vals1 r;exact call_abs_int λu tk=>⟨.int (if i < 0 then -i else i),H,I.tok _,⟨_,rfl⟩,q⟩
theorem aJC(hc:X.calm=true):eJ X (.builtin "max") (λxs H Q=>∃i j,xs=[.int i,.int j]/\Q (.int (if j > i then j else i)) H):=by
 intro pins s σ H xs us Q I r h;obtain⟨i,j,rfl,q⟩:=h;obtain⟨u,w',rfl,⟨t,rfl⟩,⟨t',rfl⟩⟩:=vals2 r;refine max_two_ints (I.ok.hd hc) λh' tk k=>⟨_,H,I.kept k,?_,q⟩
 by_cases hj:j > i
 ·rw[cO hj,cO hj];exact⟨_,rfl⟩
 ·rw[bZ hj,bZ hj];exact⟨_,rfl⟩
theorem aJD(hc:X.calm=true):eJ X (.builtin "min") (λxs H Q=>∃i j,xs=[.int i,.int j]/\Q (.int (if j < i then j else i)) H):=by
 intro pins s σ H xs us Q I r h;obtain⟨i,j,rfl,q⟩:=h;obtain⟨u,w',rfl,⟨t,rfl⟩,⟨t',rfl⟩⟩:=vals2 r;refine min_two_ints (I.ok.hd hc) λh' tk k=>⟨_,H,I.kept k,?_,q⟩
 by_cases hj:j < i
 ·rw[cO hj,cO hj];exact⟨_,rfl⟩
 ·rw[bZ hj,bZ hj];exact⟨_,rfl⟩
theorem aJE:eJ X (.type "int") (λxs H Q=>(∃i,xs=[.int i]/\Q (.int i) H)\/∃k,xs=[.bl k]/\Q (.int (if k then 1 else 0)) H):=by
 intro pins s σ H xs us Q I r h;rcases h with ⟨i,rfl,q⟩|⟨k,rfl,q⟩
 ·obtain⟨u,rfl,t,rfl⟩:=vals1 r;exact call_int_int ⟨.int i,H,I,⟨_,rfl⟩,q⟩
 ·obtain⟨u,rfl,r1⟩:=vals1 r;cases r1;exact call_int_bool ⟨.int (if k then 1 else 0),H,I.tok _,⟨_,rfl⟩,q⟩
def XN(K:W.Frag)(x:V)(H:Hp)(n:Nat):Prop:=
 match x with
 |.str y=>y.length<=sizeLine/\n=y.length
 |.ES y=>y.size<=sizeLine/\n=y.size
 |.ref p=>(∃xs,bR K H p xs/\n=xs.length)\/∃xs,iC K H p xs/\n=xs.length
 |_=>False
theorem aKU:eJ X (.builtin "len") (λxs H Q=>∃x n,xs=[x]/\XN X.K x H n/\Q (.int n) H):=by
 intro pins s σ H xs us Q I r h;obtain⟨x,n,rfl,e,q⟩:=h;obtain⟨u,rfl,rx⟩:=vals1 r;have hl:=Fi;have hs:sizeLine=16777216:=ud;cases x with
 |str y=>
  obtain⟨t,rfl⟩:=rx;obtain⟨hy,e'⟩ : y.length<=sizeLine/\n=y.length:=e;subst e';exact len_str (by lia) ⟨.int _,H,I.tok _,⟨_,rfl⟩,q⟩
 |ES y=>
  obtain⟨t,rfl⟩:=rx;obtain⟨hy,e'⟩ : y.size<=sizeLine/\n=y.size:=e;subst e';exact PySem.W.len_bytes (by lia) ⟨.int _,H,I.tok _,⟨_,rfl⟩,q⟩
 |ref p=>
  cases rx;have e':(∃xs,bR X.K H p xs/\n=xs.length)\/∃xs,iC X.K H p xs/\n=xs.length:=e;rcases e' with ⟨xs,hx,e'⟩|⟨xs,hx,e'⟩
  ·subst e';obtain⟨its,r',pl,hz⟩:=I.list hx;have hlen:=r'.length;exact Calls.call_len_list pl.isList (by simp only[iR];lia) ⟨.int xs.length,H,I.tok _,⟨_,by simp only[iR];rw[hlen]⟩,q⟩
  ·subst e';obtain⟨its,r',pl,hz⟩:=I.tuple hx;have hlen:=r'.length;exact len_tuple pl (by simp only[iR];lia) ⟨.int xs.length,H,I.tok _,⟨_,by simp only[iR];rw[hlen]⟩,q⟩
 |_=>exact(show False from e).elim
end
structure Dv(h:Heap)(x dx C:Addr)(mA:Str->ay):Prop where
 obj:h.get? x=some (PySem.W.instObj C dx)
 ns:h.Ns1 dx mA
 ne:dx≠x
theorem aJF{h:Heap}{mA:Str->ay}(n:h.Ns1 dx mA):∃od,h.get? dx=some od/\∀name,PySem.W.lookIn name od=some (mA name):=by
 obtain⟨o,es,ep,ho,hd,hk,_,hm⟩:=n;refine⟨o,ho,λname=>?_⟩;have e:=hm name;unfold nsFind findBy at e;rw[<-Array.find?_toList] at e;unfold PySem.W.lookIn;rw[hd];dsimp only;split
 ·rename_i y q;rw[q] at e;exact congrArg some e
 ·rename_i q;rw[q] at e;have a:es.toList.any (·.refKey)=false:=by
   rw[List.any_eq_false];intro y hy;obtain⟨z,t,D2⟩:=hk y (Array.mem_toList_iff.mp hy);simp[DictEntry.refKey,D2]
  have a':¬es.toList.any (·.refKey)=true:=by rw[a];exact xI
  rw[bZ a'];exact congrArg some e
theorem Dv.look{mA:Str->ay}(I:Dv h x dx C mA):∃od,PySem.W.InstAt h x (PySem.W.instObj C dx) C (some od)/\∀name,PySem.W.lookIn name od=some (mA name):=
 let ⟨od,ho,hl⟩:=aJF I.ns
 ⟨od,⟨I.obj,rfl,rfl,ho⟩,hl⟩
section
variable{prog:Program}{w:World}{A:Around}{E:aj}{s:Shared}{K:W.Frag}{x dx C f:Addr}{mA:Str->ay}{name:Str}{v:Value}
theorem get_map{expr:Bool}{Q:aj}(X:K.In s.heap)(I:Dv s.heap x dx C mA)(hg:PySem.W.plainGet K C name=true)(hh:PySem.W.hasDictIn K C=true)
  (ha:W.findIn K (.ref C) name=some none) (hv:mA name=some v) (ph:PySem.W.handedIn v=true) (h:Q v { s with toks:=s.toks+1 }) :
  wpAny (model prog w) A (getAttr (.ref x) name expr) Q E s:=by
 obtain⟨od,J,hl⟩:=I.look;exact PySem.W.get_value X J (PySem.W.plainGet_of hg).1 (PySem.W.findObj_own hh ha rfl (by rw[hl,hv])) ph h
theorem aKV{pl:Sem Bool}{Q:Value×ah->Shared->Prop}(X:K.In s.heap)(I:Dv s.heap x dx C mA)(hg:PySem.W.plainGet K C name=true)
  (hf:W.findIn K (.ref C) name=some (some (.ref f))) (ht:PySem.W.isFn K (.ref f)=true) (hv:mA name=none) (h:Q (.ref f,[.ref x]) s) :
  wpAny (model prog w) A (getMethod (.ref x) name pl) Q E s:=by
 obtain⟨od,J,hl⟩:=I.look;exact PySem.W.method_fn X J (PySem.W.plainGet_of hg).1 (PySem.W.plainGet_of hg).2 hf (beq_iff_eq.mp ht) (by show(PySem.W.lookIn name od).map (·.isSome)=some false;rw[hl,hv];rfl) h
theorem aNa{ns:ak}{Q:Unit->Shared->Prop}(X:K.In s.heap)(I:Dv s.heap x dx C mA)
  (hs:PySem.W.findIn K (.ref C) "__setattr__" = some (some (.builtin "object.__setattr__"))) (hp:PySem.W.plainOver K C=true) (ht:PySem.W.takerIn K C name=some none) (hh:PySem.W.hasDictIn K C=true)
  (hw:PySem.Within mA ns) (hsz:ns.length<=sizeLine)
  (h:∀h',Dv h' x dx C (λy=>if y=name then some v else mA y)->Heap.SameBut dx s.heap h'->Q () { s with heap:=h',toks:=s.toks+2 }) :
  wpAny (model prog w) A (setAttr (.ref x) name v) Q E s:=by
 obtain⟨od,J,hl⟩:=I.look;refine PySem.W.set_plain X J hs (PySem.W.osa_open (s:={ s with toks:=s.toks+1 }) (r:=none) X J hp ht λb=>?_);obtain⟨cd,hc,ED⟩:=PySem.W.any_some hh;have hx:s.heap.get? x=some ⟨.ref C,some dx,.plain,#[]⟩:=I.obj;refine bG (cM (bG (bG (wpAny_loadPart hx (bG (PySem.W.Looks.here (s:={ s with toks:=s.toks+1 }) (PySem.W.looks_clsIn X hc) ?_))))));rw[ED];refine cM (a:=some dx) (bG (cM (bG ?_)));refine wpAny_nsSet1 (s:={ s with toks:=s.toks+1 }) I.ns λh' rg dv=>?_;obtain⟨oD,esD,epD,hoD,hdD,hcD⟩:=rg.count (PySem.Within.cons name v hw);refine bG (wpAny_lookBehind hoD (by rw[hdD];exact pastItsLine_dict (kr hcD (by rw[oi];lia))) ?_);exact cM (h _ ⟨(dv.2 _ (Ne.symm I.ne)).trans I.obj,rg,I.ne⟩ dv)
theorem aKW{R:Result->Shared->Prop}(X:K.In s.heap)(hm:PySem.W.makesIn K C=true)(hi:PySem.W.findIn K (.ref C) "__init__" = some (some (.ref f)))(hf:PySem.W.typeIn K (.ref f)=some (.type "function"))(h:codeAny (model prog w) (A.under (.builtin "type.__call__" ⟨.ref C::vs,kw⟩)) (.call (.ref f) ⟨.ref (s.heap.objs.size+1)::vs,kw⟩) (PySem.W.InitBack (s.heap.objs.size+1) R)
   { s with heap:=(s.heap.push PySem.W.emptyDict).push (PySem.W.instObj C s.heap.objs.size) }) :
  codeAny (model prog w) A (.call (.ref C) ⟨vs,kw⟩) R s:=by
 obtain⟨hh,g,d,t,os⟩:=s;exact PySem.W.make_core (PySem.W.makes_of X hm) (PySem.W.looks_findIn X hi) (λself=>PySem.W.bind_fn X self hf) (.inl rfl) h
end
def pC(f:Str)(v:V):List (Str×V)->List (Str×V)
 |[]=>[(f,v)]
 |(g,x)::r=>if g=f then (g,v)::r else (g,x)::pC f v r
theorem aAQ(f g:Str)(v:V):∀fs:List (Str×V),(pC f v fs).lookup g=if g=f then some v else fs.lookup g
 |[]=>by
  show List.lookup g [(f,v)]=_;by_cases h:g=f
  ·have hb:(g == f)=true:=beq_iff_eq.mpr h;simp only[List.lookup,hb,cO h]
  ·have hb:(g == f)=false:=beq_eq_false_iff_ne.mpr h;simp only[List.lookup,hb,bZ h]
 |(k,x)::r=>by
  have ih:=aAQ f g v r;rw[show pC f v ((k,x)::r)=(if k=f then (k,v)::r else (k,x)::pC f v r) from rfl];by_cases hk:k=f
  ·rw[cO hk];by_cases h:g=k
   ·have hb:(g == k)=true:=beq_iff_eq.mpr h;simp only[List.lookup,hb,cO (h.trans hk)]
   ·have hb:(g == k)=false:=beq_eq_false_iff_ne.mpr h;simp only[List.lookup,hb,bZ (λe:g=f=>h (e.trans hk.symm))]
  ·rw[bZ hk];by_cases h:g=k
   ·have hb:(g == k)=true:=beq_iff_eq.mpr h;simp only[List.lookup,hb,bZ (λe:g=f=>hk (h.symm.trans e))]
   ·have hb:(g == k)=false:=beq_eq_false_iff_ne.mpr h;simp only[List.lookup,hb];exact ih
theorem Qp(f:Str)(v:V):∀fs:List (Str×V),f∈(pC f v fs).map (·.1)/\∀g,g∈fs.map (·.1)->g∈(pC f v fs).map (·.1)
 |[]=>⟨by simp[pC],λg h=>by simp at h⟩
 |(k,x)::r=>by
  obtain⟨i1,i2⟩:=Qp f v r;rw[show pC f v ((k,x)::r)=(if k=f then (k,v)::r else (k,x)::pC f v r) from rfl];by_cases hk:k=f
  ·rw[cO hk];subst hk;exact⟨by simp,λg h=>by simpa using h⟩
  ·rw[bZ hk];refine⟨?_,λg h=>?_⟩
   ·rw[uY];exact ki _ i1
   ·rw[uY] at h ⊢;rcases lC.mp h with e|e
    ·exact lC.mpr (.inl e)
    ·exact ki _ (i2 g e)
theorem aAR(f:Str)(v:V):∀fs:List (Str×V),(pC f v fs).length<=fs.length+1
 |[]=>by simp[pC]
 |(k,x)::r=>by
  have ih:=aAR f v r;rw[show pC f v ((k,x)::r)=(if k=f then (k,v)::r else (k,x)::pC f v r) from rfl];by_cases hk:k=f
  ·rw[cO hk,oi,oi];lia
  ·rw[bZ hk,oi,oi];lia
theorem rD.some_of(r:rD (some v) o):∃u,o=some u/\RelV v u:=by
 cases o with
 |none=>exact(show False from r).elim
 |some u=>exact⟨u,rfl,r⟩
theorem rD.none_of(r:rD none o):o=none:=by
 cases o with
 |none=>rfl
 |some u=>exact(show False from r).elim
theorem aJG(r:RelV v u):PySem.W.handedIn u=true:=by
 cases v with
 |bt=>cases (show u=Value.none from r);rfl
 |bl b=>cases (show u=Value.bool b from r);rfl
 |int i=>obtain⟨t,e⟩:=(show ∃t,u=Value.int i t from r);cases e;rfl
 |str x=>obtain⟨t,e⟩:=(show ∃t,u=Value.str x t from r);cases e;rfl
 |ES b=>obtain⟨t,e⟩:=(show ∃t,u=Value.bytes b t from r);cases e;rfl
 |qt b=>obtain⟨t,e⟩:=(show ∃t,u=Value.float b t from r);cases e;rfl
 |ref a=>cases (show u=Value.ref a from r);rfl
 |ty n=>cases (show u=Value.type n from r);rfl
section
variable{P:Program}{w:World}{H H':Hp}{h h':Heap}{a C dx:Addr}{fs fs':List (Str×V)}
theorem K1(bc:o9 P w H h)(e:H a=some (.ins C dx fs)):∃mA,Dv h a dx C mA/\(∀f,rD (fs.lookup f) (mA f))/\PySem.Within mA (fs.map (·.1))/\fs.length<=1000/\H dx=some (.own a):=by
 obtain⟨d,z,ne,ob,mA,n,r,q⟩:=(show bS P w H h a (.ins C dx fs) from bc a _ e)
 exact⟨mA,⟨ob,n,ne⟩,r,q,z,d⟩
end
structure mw(K:W.Frag)(C:Addr):Prop where
 pg:PySem.W.plainGet K C Str.empty=true
 hd:PySem.W.hasDictIn K C=true
 po:PySem.W.plainOver K C=true
 sa:PySem.W.findIn K (.ref C) "__setattr__" = some (some (.builtin "object.__setattr__"))
theorem mw.get{K:W.Frag}{C:Addr}(c:mw K C)(f:Str):PySem.W.plainGet K C f=true:=c.pg
def cX(K:W.Frag)(C:Addr)(f:Str):Prop:=W.findIn K (.ref C) f=some none
theorem cX.aQ4{K:W.Frag}{C:Addr}{f:Str}(n:cX K C f):PySem.W.takerIn K C f=some none:=by
 unfold PySem.W.takerIn;rw[show W.findIn K (.ref C) f=some none from n];rfl
structure Meth(K:W.Frag)(C:Addr)(m:Str)(f:Addr):Prop where
 at_:W.findIn K (.ref C) m=some (some (.ref f))
 fn:PySem.W.isFn K (.ref f)=true
 kp:W.keepIn K (.ref f)=true
section
variable{X:Cx}{pins:ao}{σ:St}{H:Hp}{s:Shared}{a C dx:Addr}{fs:List (Str×V)}{f:Str}{v:V}{A:Around}{E:aj}
theorem aHE{b:Bool}{Q:aj}(I:Inv X pins σ H s)(e:H a=some (.ins C dx fs))(c:mw X.K C)(n:cX X.K C f)(l:fs.lookup f=some v)
  (h:∀u s',Inv X pins σ H s'->RelV v u->Q u s'):wpAny (model X.prog X.w) A (getAttr (.ref a) f b) Q E s:=by
 obtain⟨mA,O,r,_,_,_⟩:=K1 I.bc e;obtain⟨u,hu,ru⟩:=rD.some_of (v:=v) (o:=mA f) (by rw[<-l];exact r f);exact get_map I.kg O (c.get f) c.hd n hu (aJG ru) (h u _ (I.tok _) ru)
theorem aCa{pl:Sem Bool}{Q:Value×ah->Shared->Prop}(I:Inv X pins σ H s)(e:H a=some (.ins C dx fs))(c:mw X.K C)(k:Meth X.K C m g)(l:fs.lookup m=none)(h:Q (.ref g,[.ref a]) s):wpAny (model X.prog X.w) A (getMethod (.ref a) m pl) Q E s:=by
 obtain⟨mA,O,r,_,_,_⟩:=K1 I.bc e;have hn:mA m=none:=rD.none_of (by rw[<-l];exact r m);exact aKV I.kg O (c.get m) k.at_ k.fn hn h
theorem aHF{Q:Unit->Shared->Prop}(I:Inv X pins σ H s)(e:H a=some (.ins C dx fs))(c:mw X.K C)(n:cX X.K C f)(hl:fs.length < 1000)(ry:RelV y u)(h:∀s',Inv X pins σ (upd H a (.ins C dx (pC f y fs))) s'->Q () s'):wpAny (model X.prog X.w) A (setAttr (.ref a) f u) Q E s:=by
 obtain⟨mA,O,r,wi,_,ho⟩:=K1 I.bc e;have hz:(fs.map (·.1)).length<=sizeLine:=by rw[bX,ud];lia
 refine aNa I.kg O c.sa c.po n.aQ4 c.hd wi hz λh' O' sb=>h _ ?_;have hd:∃o,h'.get? dx=some o:=let ⟨o,_,_,e',_⟩:=O'.ns;⟨o,e'⟩
 refine I.write (x:=a) (e:=dx) (by rw[e];exact True.intro) (.inr ho) (λb q hb z=>(sb.2 b hb).trans z) hd ?_;refine⟨by rw[aT O.ne];exact ho,?_,O.ne,O'.obj,_,O'.ns,λg=>?_,λg hg=>?_⟩
 ·have:=aAR f y fs;lia
 ·show rD ((pC f y fs).lookup g) (if g=f then some u else mA g);rw[aAQ];by_cases q:g=f
  ·rw[cO q,cO q];exact ry
  ·rw[bZ q,bZ q];exact r g
 ·by_cases q:g=f
  ·rw[q];exact(Qp f y fs).1
  ·refine(Qp f y fs).2 g (wi g λz=>hg ?_);show(if g=f then some u else mA g)=none;rw[bZ q];exact z
theorem Inv.made(I:Inv X pins σ H s):Inv X pins σ (upd (upd H s.heap.objs.size (.own (s.heap.objs.size+1))) (s.heap.objs.size+1) (.ins C s.heap.objs.size []))
  { s with heap:=(s.heap.push PySem.W.emptyDict).push (PySem.W.instObj C s.heap.objs.size) }:=by
 have e1:(s.heap.push PySem.W.emptyDict).get? s.heap.objs.size=some PySem.W.emptyDict:=lA s.heap rfl;have e2:((s.heap.push PySem.W.emptyDict).push (PySem.W.instObj C s.heap.objs.size)).get? (s.heap.objs.size+1)=some (PySem.W.instObj C s.heap.objs.size):=by
  have:=lA (s.heap.push PySem.W.emptyDict) (o:=PySem.W.instObj C s.heap.objs.size) rfl
  rwa[ot] at this
 have e3:(s.heap.push PySem.W.emptyDict).Ns s.heap.objs.size (λ_=>none):=⟨PySem.W.emptyDict,#[],_,e1,rfl,(λe he=>absurd he (by simp)),λ_=>rfl⟩
 have I1:=I.laid (a:=s.heap.objs.size) (o:=.own (s.heap.objs.size+1)) (h':=s.heap.push PySem.W.emptyDict) (t':=s.toks) (λb u q=>eG _ q) (dQ _) ⟨_,e1⟩;refine I1.laid (a:=s.heap.objs.size+1) (o:=.ins C s.heap.objs.size []) (t':=s.toks) (λb u q=>eG _ q) (G5 (ot _ _)) ?_;have ne:s.heap.objs.size≠s.heap.objs.size+1:=oH (DH _);refine⟨by rw[aT ne,aN],ko _,ne,e2,λ_=>none,(Heap.Ns1.of_empty e3).at λo q=>eG _ q,λ_=>True.intro,λy hy=>absurd rfl hy⟩
theorem aNb{Q:aj}(hb:attributeBase e f env (eval e env)=eval e env)(h:wpAny (model prog w) A (eval e env) (λo az=>wpAny (model prog w) A (getAttr o f true) Q E az) E s):wpAny (model prog w) A (eval (.Attribute e f pos) env) Q E s:=
 Attribute_any_ h (by rw[arm_eval_Attribute,hb])
end
def OF(K:W.Frag)(ta:TE)(f:Str):TE:=λσ H Q=>ta σ H λx H1=>∃a C dx fs v,x=.ref a/\H1 a=some (.ins C dx fs)/\mw K C/\cX K C f/\fs.lookup f=some v/\Q v H1
def OE(K:W.Frag)(ta tv:TE)(f:Str):TS:=λD σ H=>tv σ H λy H1=>ta σ H1 λx H2=>∃a C dx fs,x=.ref a/\H2 a=some (.ins C dx fs)/\mw K C/\cX K C f/\fs.length < 1000/\
 D.nx σ (upd H2 a (.ins C dx (pC f y fs)))
section
variable{X:Cx}{o e value:Expr}{f:Str}{pos pos' DT:Pos}{ta tv:TE}
theorem aPC(he:PE X e ta)(hb:attributeBase e f X.env (eval e X.env)=eval e X.env):PE X (.Attribute e f pos) (OF X.K ta f):=by
 intro pins s σ H Q I h;refine aNb hb (dC (he pins s σ H _ I h) λu s1 zq=>?_);obtain⟨x,H1,I1,rx,a,C,dx,fs,v,ex,ea,c,n,l,q⟩:=zq;subst ex;obtain rfl:u=Value.ref a:=rx;exact aHE I1 ea c n l λu' s2 I2 ru=>⟨v,H1,I2,ru,q⟩
theorem aPD(ha:PE X o ta)(hv:PE X value tv)(hs:swapsWith value (some (.Attribute o f pos')) pos.line X.env=pure false):PS X (.Assign [.Attribute o f pos'] value pos) (OE X.K ta tv f):=by
 intro pins s σ H D I h;refine plainObj_wpAny_Assign_Attribute (dC (hv pins s σ H _ I h) λu s1 ⟨y,H1,I1,ry,q⟩=>dC (ha pins s1 σ H1 _ I1 q) λov s2 zq=>?_) hs;obtain⟨x,H2,I2,rx,a,C,dx,fs,ex,ea,c,n,l,q2⟩:=zq;subst ex;obtain rfl:ov=Value.ref a:=rx;exact aHF I2 ea c n l ry λs3 I3=>⟨σ,_,I3,q2⟩
end
section
variable{X:Cx}{pins:ao}{σ:St}{H:Hp}{s:Shared}{A:Around}{E:aj}{Q:aj}{c:Value}{b:Bool}
inductive xM (K:W.Frag) (H:Hp):V->Value->Prop where
 |bt:xM K H .bt (.type "NoneType")
 |bl (x:Bool):xM K H (.bl x) (.type "bool")
 |int (i:Int):xM K H (.int i) (.type "int")
 |str (x:Str):xM K H (.str x) (.type "str")
 |qt (x:UInt64):xM K H (.qt x) (.type "float")
 |lst {a:Addr} {xs:List V} (e:H a=some (.lst xs)):xM K H (.ref a) (.type "list")
 |bu {a:Addr} {o:Obj} {xs:List V} (e:H a=some (.bu o (.lst xs))):xM K H (.ref a) (.type "list")
 |tup {a:Addr} {xs:List V} (e:H a=some (.tup xs)):xM K H (.ref a) (.type "tuple")
 |dK {a:Addr} {kvs:List (Key×V)} (e:H a=some (.dK kvs)):xM K H (.ref a) (.type "dict")
 |dT {a:Addr} {kvs:List (List Key×V)} (e:H a=some (.dT kvs)):xM K H (.ref a) (.type "dict")
 |ins {a C dx:Addr} {fs:List (Str×V)} (e:H a=some (.ins C dx fs)) (cl:mw K C) (ha:PySem.W.findIn K (.ref C) "__class__" = some (some (.builtin "object.__class__")))
   (hn:PySem.W.specialIn K (.builtin "object.__class__") "__get__" = some (some (.builtin "getset_descriptor.__get__"))) (Jx:PySem.W.takesIn K (.builtin "object.__class__")=some true)
   (hm:PySem.W.mroIn K C (.type "object")=some true):xM K H (.ref a) (.ref C)
theorem Z7(I:Inv X pins σ H s)(rx:RelV x u)(ty:xM X.K H x t)(e:PySem.W.kitOne X.K t c=some b)(h:∀tk,Q (.bool b) { s with toks:=tk }) :
  wpAny (model X.prog X.w) A (call (.builtin "isinstance") [u,c]) Q E s:=by
 cases ty with
 |bt=>cases (show u=Value.none from rx);exact PySem.W.kia_one PySem.W.kitx_none I.kg True.intro e (λz=>nomatch z) h
 |bl y=>cases (show u=Value.bool y from rx);exact PySem.W.kia_one PySem.W.kitx_bool I.kg True.intro e (λz=>nomatch z) h
 |int i=>obtain⟨t,q⟩:=(show ∃t,u=Value.int i t from rx);cases q;exact PySem.W.kia_one PySem.W.kitx_int I.kg True.intro e (λz=>nomatch z) h
 |str y=>obtain⟨t,q⟩:=(show ∃t,u=Value.str y t from rx);cases q;exact PySem.W.kia_one PySem.W.kitx_str I.kg True.intro e (λz=>nomatch z) h
 |qt y=>obtain⟨t,q⟩:=(show ∃t,u=Value.float y t from rx);cases q;exact PySem.W.kia_one PySem.W.kitx_float I.kg True.intro e (λz=>nomatch z) h
 |@lst a xs ea=>
  cases (show u=Value.ref a from rx);obtain⟨_,_,n,_,h1⟩:=(show bS X.prog X.w H s.heap a (.lst xs) from I.bc a _ ea)
  exact PySem.W.kia_one PySem.W.kitx_list I.kg ⟨_,h1,rfl⟩ e (λz=>nomatch z) h
 |@bu a ob xs ea=>
  cases (show u=Value.ref a from rx);obtain⟨_,_,_,n,_,h1⟩:=(show bS X.prog X.w H s.heap a (.bu ob (.lst xs)) from I.bc a _ ea)
  exact PySem.W.kia_one PySem.W.kitx_list I.kg ⟨_,h1,rfl⟩ e (λz=>nomatch z) h
 |@tup a xs ea=>
  cases (show u=Value.ref a from rx);obtain⟨_,_,_,p⟩:=(show bS X.prog X.w H s.heap a (.tup xs) from I.bc a _ ea)
  obtain⟨o,h1,h2,_⟩:=p;exact PySem.W.kia_one PySem.W.kitx_tuple I.kg ⟨o,h1,h2⟩ e (λz=>nomatch z) h
 |@dK a kvs ea=>
  cases (show u=Value.ref a from rx);obtain⟨_,_,vs,_,p⟩:=(show bS X.prog X.w H s.heap a (.dK kvs) from I.bc a _ ea)
  obtain⟨o,es,ep,h1,h2,_⟩:=p;exact PySem.W.kia_one PySem.W.kitx_dict I.kg ⟨o,h1,h2.1⟩ e (λz=>nomatch z) h
 |@dT a kvs ea=>
  cases (show u=Value.ref a from rx);obtain⟨_,_,xs,_,o,es,ep,h1,h2,_⟩:=(show bS X.prog X.w H s.heap a (.dT kvs) from I.bc a _ ea)
  exact PySem.W.kia_one PySem.W.kitx_dict I.kg ⟨o,h1,h2.1⟩ e (λz=>nomatch z) h
 |@ins a C dx fs ea cl ha hn Jx hm=>
  cases (show u=Value.ref a from rx);obtain⟨mA,O,_⟩:=K1 I.bc ea;obtain⟨od,J,_⟩:=O.look;exact PySem.W.kia_one (PySem.W.kitx_own (cl.get _) cl.hd ha hn Jx hm) I.kg J e (λz=>nomatch z) h
end
structure eK(k:Nat)(A:Around):Prop where
 hd:A.handled=none
 dp:A.depth+3*k+5 < recursionLimit
 un:A.units+16*k+200 < cLine
theorem eK.mono{j k:Nat}(r:eK k A)(h:j<=k):eK j A:=⟨r.hd,by have:=r.dp;lia,by have:=r.un;lia⟩
theorem eK.deeper{k:Nat}{A:Around}(r:eK (k+1) A)(env:Env):eK k (A.deeper env):=
 ⟨r.hd,by have:=r.dp;show A.depth+1+3*k+5 < _;lia,by have:=r.un;show A.units+3+16*k+200 < _;lia⟩
theorem aHG{A:Around}:(A.under (.builtin "type.__call__" ⟨.ref C::us,kw⟩)).depth=A.depth+1:=by
 first|rfl|simp[Around.under,Code.weight,Code.isCreation,Code.isGuard,Code.isCaller,Code.frames,Code.isFrame,guardIds]
theorem aHH{A:Around}:(A.under (.builtin "type.__call__" ⟨.ref C::us,kw⟩)).units=A.units+1:=by
 first|rfl|simp[Around.under,Code.cUnits,Code.frames,Code.isFrame]
theorem eK.make{k:Nat}{A:Around}(r:eK (k+1) A)(C:Addr)(us:ah)(kw:List (Str×Value)):eK k (A.under (.builtin "type.__call__" ⟨.ref C::us,kw⟩)):=
 ⟨r.hd,by have:=r.dp;rw[aHG];lia,by have:=r.un;rw[aHH];lia⟩
theorem eK.depth{k:Nat}{A:Around}(r:eK k A):A.depth < recursionLimit:=by have:=r.dp;lia
theorem eK.units{k:Nat}{A:Around}(r:eK k A):A.units+64 < cLine:=by have:=r.un;lia
def kR:TA:=λ_ H Q=>Q [] H
def bN(ta:TE)(tr:TA):TA:=λσ H Q=>ta σ H λx H1=>tr σ H1 λxs H2=>Q (x::xs) H2
section
variable{X:Cx}{e:Expr}{es:List Expr}{te:TE}{t:TA}{pos:Pos}
theorem nR:PA X [] kR:=λ_ _ _ _ H Q I h=>Calls.spliced_nil ⟨[],H,I,.nil,h⟩
theorem aNc(ha:PE X e te)(hr:PA X es t)(hs:starEach (e::es) X.env=(false,eval e X.env)::starEach es X.env:=by rfl):PA X (e::es) (bN te t):=by
 intro pos pins s σ H Q I h;rw[hs];show wpAny _ _ (spliced ((false,eval e X.env)::backTo pos (starEach es X.env))) _ _ s;refine Calls.spliced_cons (dC (ha pins s σ H _ I h) λu s1 zq=>?_);obtain⟨x,H1,I1,r1,q1⟩:=zq;exact dC (hr pos pins s1 σ H1 _ I1 q1) λus s2 ⟨xs,H2,I2,r2,q2⟩=>⟨x::xs,H2,I2,.cons r1 r2,q2⟩
def Cd(t:TA):TE:=λσ H Q=>t σ H λxs H1=>xs.length<=sizeLine/\∀p,H1 p=none->Q (.ref p) (upd H1 p (.tup xs))
def wL(t:TA):TE:=λσ H Q=>t σ H λxs H1=>xs.length<=sizeLine/\∀p,H1 p=none->Q (.ref p) (upd H1 p (.lst xs))
theorem PB{x1}(h:PA X es t):PE X (.Tuple es x1 pos) (Cd t):=by
 intro pins s σ H Q I hq;refine wpAny_Tuple_spliced (dC (h pos pins s σ H _ I hq) λus s1 zq=>?_);obtain⟨xs,H1,I1,r,z,q⟩:=zq;refine⟨by rw[<-r.length];exact z,?_⟩;have hf:H1 s1.heap.objs.size=none:=I1.bc.fresh (dQ _);refine⟨.ref s1.heap.objs.size,upd H1 s1.heap.objs.size (.tup xs),I1.laid (t':=s1.toks) (λb u e=>eG _ e) (dQ _) ?_,rfl,q _ hf⟩;exact⟨z,us,r,⟨_,lA _ rfl,rfl,_,rfl⟩⟩
theorem wM(h:PA X es t):PE X (.List es pos) (wL t):=by
 intro pins s σ H Q I hq;refine wpAny_List_spliced (dC (h pos pins s σ H _ I hq) λus s1 zq=>?_);obtain⟨xs,H1,I1,r,z,q⟩:=zq;refine⟨by rw[<-r.length];exact z,?_⟩;have hf:H1 s1.heap.objs.size=none:=I1.bc.fresh (dQ _);refine⟨.ref s1.heap.objs.size,upd H1 s1.heap.objs.size (.lst xs),I1.laid (t':=s1.toks) (λb u e=>eG _ e) (dQ _) ?_,rfl,q _ hf⟩;exact⟨z,us,0,r,lA _ rfl⟩
end
abbrev Sp:=List V->Hp->VK->XK->Prop
abbrev vi:=List Env->Hp->Shared->XK->aj
structure AF(P:Program)(w:World)(K:W.Frag)(mg:Str->ay)(base:Heap)(A:Around)(outer:List Env)(s:Shared)(H:Hp):Prop where
 frames:A.frames=some outer
 mod:Mod K mg base
 bs:∀b o,base.get? b=some o->s.heap.get? b=some o/\H b=none
 yu:base.objs.size<=s.heap.objs.size
 uO:s.heap.FunFrames base outer
 AD:∀b∈mh outer,H b=none
 bc:o9 P w H s.heap
 bare:AllBare s.gens
def CE(outer:List Env)(P:Program)(w:World)(H:Hp)(s:Shared)(Q:VK)(u:Value)(s':Shared):Prop:=
 ∃v H',s'.os=s.os/\AllBare s'.gens/\Un (mh outer) [] H H' s.heap s'.heap/\o9 P w H' s'.heap/\RelV v u/\Q v H'
def CR(CX:vi)(outer:List Env)(P:Program)(w:World)(H:Hp)(s:Shared)(Q:VK)(E:XK)(r:Result)(s':Shared):Prop:=
 match r with
 |.ok (.ret u)=>CE outer P w H s Q u s'
 |.ok _=>False
 |.error e=>CX outer H s E e s'
structure bT(P:Program)(w:World)(K:W.Frag)(mg:Str->ay)(base:Heap)(CX:vi)(k:Nat)(f:Addr)(fd:FuncData)(ps:ak)(sp:Sp):Prop where
 len:∀vs H Q E,sp vs H Q E->vs.length=ps.length
 run:∀(A:Around) (outer:List Env) (s:Shared) (H:Hp) (args:Args) (us:ah) (vs:List V) (Q:VK) (E:XK),eK k A->AF P w K mg base A outer s H->BindsTo s fd args (ps.zip us)->Vals vs us->sp vs H Q E->
  codeAny (model P w) A (.call (.ref f) args) (CR CX outer P w H s Q E) s
theorem bT.imp{P:Program}{w:World}{K:W.Frag}{mg:Str->ay}{base:Heap}{CX:vi}{k:Nat}{f:Addr}{fd:FuncData}{ps:ak}{sp UG:Sp}(F:bT P w K mg base CX k f fd ps sp)
  (h:∀vs H Q E,UG vs H Q E->sp vs H Q E):bT P w K mg base CX k f fd ps UG:=
 ⟨λvs H Q E q=>F.len vs H Q E (h _ _ _ _ q),λA outer s H args us vs Q E hr he hb hv hs=>F.run A outer s H args us vs Q E hr he hb hv (h _ _ _ _ hs)⟩
theorem AF.make{P:Program}{w:World}{K:W.Frag}{mg:Str->ay}{base:Heap}{A:Around}{outer:List Env}{s:Shared}{H:Hp}(e:AF P w K mg base A outer s H)(C:Addr)(us:ah)(kw:List (Str×Value)) :
  AF P w K mg base (A.under (.builtin "type.__call__" ⟨.ref C::us,kw⟩)) outer s H:=⟨by first|exact e.frames|(simpa [Around.under,Code.envs,Code.isFrame,pushEnvs] using e.frames),e.mod,e.bs,e.yu,e.uO,e.AD,e.bc,e.bare⟩
section
variable{X:Cx}{pins:ao}{σ:St}{H:Hp}{s s':Shared}
theorem Inv.GF(I:Inv X pins σ H s):AF X.prog X.w X.K X.mg X.base X.A X.stack s H:=
 ⟨I.ok.frames,I.ok.mod,I.bs,kr I.ok.yu I.sz,I.stack,I.Ld,I.bc,I.bare⟩
theorem Inv.after(I:Inv X pins σ H s)(h:CE X.stack X.prog X.w H s Q u s'):EP X pins σ Q u s':=by
 obtain⟨v,H',os,bare,un,bc,r,q⟩:=h;obtain⟨hh,g,d,t,os'⟩:=s';obtain rfl:os'=s.os:=os;exact⟨v,H',I.call (h':=hh) (g':=g) (d':=d) (t':=t) (ch:=[]) un bc bare (λb z=>absurd z (by simp)),r,q⟩
end
def EZ(sp:Sp)(fo:List V)(E:XK)(t:TA):TE:=λσ H Q=>t σ H λvs H1=>sp (vs++fo) H1 Q E
def E3(C:Addr)(m:Str)(sp:Sp)(fo:List V)(E:XK)(ta:TE)(t:TA):TE:=λσ H Q=>ta σ H λx H1=>∃a dx fs,x=.ref a/\H1 a=some (.ins C dx fs)/\fs.lookup m=none/\
 t σ H1 λvs H2=>sp (x::(vs++fo)) H2 Q E
def GL(C:Addr)(sp:Sp)(fo:List V)(E:XK)(t:TA):TE:=λσ H Q=>t σ H λvs H1=>∀x dx,H1 x=none->H1 dx=none->dx≠x->
 sp (.ref x::(vs++fo)) (upd (upd H1 dx (.own x)) x (.ins C dx [])) (λv H2=>v=.bt/\Q (.ref x) H2) E
def Binds(K:W.Frag)(fd:FuncData)(ps:ak)(ds:ah):Prop:=
 ∀(s:Shared) (us:ah),K.In s.heap->(us++ds).length=ps.length->BindsTo s fd ⟨us,[]⟩ (ps.zip (us++ds))
theorem Binds.all{K:W.Frag}{fd:FuncData}{ps:ak}(h:∀us:ah,us.length=ps.length->bindArgs fd ⟨us,[]⟩=pure (ps.zip us)):Binds K fd ps []:=λs us _ hl=>by
 rw[pz] at hl ⊢;exact .of_eq (h us hl)
def Passes(CX:vi)(X:Cx)(E:XK):Prop:=∀(pins:ao) (σ:St) (H:Hp) (s:Shared) (e:Value) (s':Shared),Inv X pins σ H s->CX X.stack H s E e s'->X.xe e s'
section
variable{X:Cx}{CX:vi}{k:Nat}{f C:Addr}{fd:FuncData}{ps:ak}{sp:Sp}{fo:List V}{ds:ah}{E:XK}{x m:Str}{p pos apos:Pos}{e o:Expr}{es:List Expr}{ta:TE}{t:TA}
theorem Py(F:bT X.prog X.w X.K X.mg X.base CX k f fd ps sp)(hr:eK k X.A)(hb:Binds X.K fd ps ds)(hd:Vals fo ds)(hx:Passes CX X E)(I:Inv X pins σ H s)(r:Vals vs us)(h:sp (vs++fo) H Q E):wpAny (model X.prog X.w) X.A (call (.ref f) us) (EP X pins σ Q) X.xe s:=by
 have r2:Vals (vs++fo) (us++ds):=r.append hd;have hl:(us++ds).length=ps.length:=by rw[<-r2.length];exact F.len _ _ _ _ h
 refine wpAny_call (codeAny_mono (F.run X.A X.stack s H ⟨us,[]⟩ (us++ds) (vs++fo) Q E hr I.GF (hb s us I.kg hl) r2 h) λr s' hq=>?_);cases r with
 |error e=>exact hx pins σ H s e s' I hq
 |ok fl=>
  cases fl with
  |ret u=>exact I.after hq
  |next=>exact False.elim hq
  |brk=>exact False.elim hq
  |cont=>exact False.elim hq
theorem aNd(F:bT X.prog X.w X.K X.mg X.base CX k f fd ps sp)(hr:eK k X.A)(hg:Gl X x)(hm:X.mg x=some (.ref f))(hk:W.keepIn X.K (.ref f)=true)(hb:Binds X.K fd ps ds)(hd:Vals fo ds)(hx:Passes CX X E)
  (ha:PA X (e::es) t) (jf:(x == ("__debug__" : Str))=false:=by decide) (he:starEach (e::es) X.env=(false,eval e X.env)::starEach es X.env:=by rfl) (uu:(backTo pos (starEach es X.env)).any (·.1)=false:=by rfl) :
  PE X (.Call (.Name x p) (e::es) [] pos) (EZ sp fo E t):=by
 intro pins s σ H Q I h;refine wpAny_Call_Name_kw (Lb I hg hm ?_ jf);refine PySem.W.callWith_K (h₀:=X.base) I.ok.mod.CZ hk (dC (ha pos pins s σ H _ I h) λus s1 zq=>?_) he uu;obtain⟨vs,H1,I1,r,q⟩:=zq;refine⟨I1.kg,?_⟩;exact Py F hr hb hd hx I1 r q
theorem aNe{pl:Sem Bool}(he:PE X o ta)(c:mw X.K C)(hm:Meth X.K C m f)(F:bT X.prog X.w X.K X.mg X.base CX k f fd ps sp)(hr:eK k X.A)(hb:Binds X.K fd ps ds)(hd:Vals fo ds)(hx:Passes CX X E)(ha:PA X (e::es) t)
  (eg:starEach (e::es) X.env=(false,eval e X.env)::starEach es X.env:=by rfl) (uu:(backTo pos (starEach es X.env)).any (·.1)=false:=by rfl)
  (ht:eval (.Call (.Attribute o m apos) (e::es) [] pos) X.env=(do
   let ov <-eval o X.env
   standAt apos.atName
   let (f,first) <-holding [ov] (getMethod ov m pl)
   callWith pos f first (backTo pos (starEach (e::es) X.env)) (backToKw pos (keywordEach [] X.env))):=by rfl) :
  PE X (.Call (.Attribute o m apos) (e::es) [] pos) (E3 C m sp fo E ta t):=by
 intro pins s σ H Q I h;refine PySem.W.methodCall_KW (pl:=pl) (dC (he pins s σ H _ I h) λu s1 zq=>?_) ht;obtain⟨x,H1,I1,rx,a,dx,fs,ex,ea,l,q⟩:=zq;subst ex;obtain rfl:u=Value.ref a:=rx;refine aCa I1 ea c hm l ?_;refine PySem.W.callWith_K (first:=[.ref a]) (h₀:=X.base) I.ok.mod.CZ hm.kp (dC (ha pos pins s1 σ H1 _ I1 q) λus s2 zq=>?_) eg uu;obtain⟨vs,H2,I2,r,q2⟩:=zq;refine⟨I2.kg,?_⟩;exact Py (us:=.ref a::us) (vs:=.ref a::vs) F hr hb hd hx I2 (.cons rfl r) q2
theorem aKY{pl:Sem Bool}(he:PE X o ta)(c:mw X.K C)(hm:Meth X.K C m f)(F:bT X.prog X.w X.K X.mg X.base CX k f fd ps sp)(hr:eK k X.A)(hb:Binds X.K fd ps ds)(hd:Vals fo ds)(hx:Passes CX X E)
  (ht:eval (.Call (.Attribute o m apos) [] [] pos) X.env=(do
   let ov <-eval o X.env
   standAt apos.atName
   let (f,first) <-holding [ov] (getMethod ov m pl)
   callWith pos f first (backTo pos (starEach [] X.env)) (backToKw pos (keywordEach [] X.env))):=by rfl) :
  PE X (.Call (.Attribute o m apos) [] [] pos) (E3 C m sp fo E ta kR):=by
 intro pins s σ H Q I h;refine PySem.W.methodCall_KW (pl:=pl) (dC (he pins s σ H _ I h) λu s1 zq=>?_) ht;obtain⟨x,H1,I1,rx,a,dx,fs,ex,ea,l,q⟩:=zq;subst ex;obtain rfl:u=Value.ref a:=rx;refine aCa I1 ea c hm l ?_;exact PySem.W.callWith_K0 (first:=[.ref a]) I1.kg hm.kp (Py (us:=[.ref a]) (vs:=[.ref a]) F hr hb hd hx I1 (.cons rfl .nil) q)
structure Mk(K:W.Frag)(C f:Addr):Prop where
 makes:PySem.W.makesIn K C=true
 init:PySem.W.findIn K (.ref C) "__init__" = some (some (.ref f))
 fn:PySem.W.isFn K (.ref f)=true
 kp:W.keepIn K (.ref C)=true
theorem aKZ{H:Hp}{Q:VK}(M:Mk X.K C f)(F:bT X.prog X.w X.K X.mg X.base CX k f fd ps sp)(hr:eK (k+1) X.A)(hb:Binds X.K fd ps ds)(hd:Vals fo ds)(hx:Passes CX X E)(I:Inv X pins σ H s)(r:Vals vs us)(h:∀x dx,H x=none->H dx=none->dx≠x->sp (.ref x::(vs++fo)) (upd (upd H dx (.own x)) x (.ins C dx [])) (λv H2=>v=.bt/\Q (.ref x) H2) E) :
  wpAny (model X.prog X.w) X.A (call (.ref C) us) (EP X pins σ Q) X.xe s:=by
 have hq:=h (s.heap.objs.size+1) s.heap.objs.size (I.bc.fresh (Nat.le_succ _)) (I.bc.fresh (dQ _)) (oH (DH _));have I2:=Inv.made (C:=C) I;have r2:Vals (V.ref (s.heap.objs.size+1)::(vs++fo)) (Value.ref (s.heap.objs.size+1)::(us++ds)):=.cons rfl (r.append hd);have hl:(Value.ref (s.heap.objs.size+1)::us++ds).length=ps.length:=by
  have e:=r2.length;rw[F.len _ _ _ _ hq] at e;exact e.symm
 refine wpAny_call (aKW (f:=f) I.kg M.makes M.init (beq_iff_eq.mp M.fn) (codeAny_mono (F.run _ X.stack _ _ ⟨Value.ref (s.heap.objs.size+1)::us,[]⟩ (Value.ref (s.heap.objs.size+1)::(us++ds)) _ _ E (hr.make C us [])
  (I2.GF.make C us []) (hb _ (Value.ref (s.heap.objs.size+1)::us) I2.kg hl) r2 hq) λr s' om=>?_))
 cases r with
 |error e=>exact hx pins σ _ _ e s' I2 om
 |ok fl=>
  cases fl with
  |ret u=>
   obtain⟨v,H',I3,rv,ev,q3⟩:=I2.after om;subst ev;exact⟨rv,⟨V.ref (s.heap.objs.size+1),H',I3,rfl,q3⟩⟩
  |next=>exact False.elim om
  |brk=>exact False.elim om
  |cont=>exact False.elim om
theorem aNf(M:Mk X.K C f)(F:bT X.prog X.w X.K X.mg X.base CX k f fd ps sp)(hr:eK (k+1) X.A)(hg:Gl X x)(hm:X.mg x=some (.ref C))(hb:Binds X.K fd ps ds)(hd:Vals fo ds)(hx:Passes CX X E)
  (ha:PA X (e::es) t) (jf:(x == ("__debug__" : Str))=false:=by decide) (he:starEach (e::es) X.env=(false,eval e X.env)::starEach es X.env:=by rfl) (uu:(backTo pos (starEach es X.env)).any (·.1)=false:=by rfl) :
  PE X (.Call (.Name x p) (e::es) [] pos) (GL C sp fo E t):=by
 intro pins s σ H Q I h;refine wpAny_Call_Name_kw (Lb I hg hm ?_ jf);refine PySem.W.callWith_K (h₀:=X.base) I.ok.mod.CZ M.kp (dC (ha pos pins s σ H _ I h) λus s1 zq=>?_) he uu;obtain⟨vs,H1,I1,r,q⟩:=zq;refine⟨I1.kg,?_⟩;exact aKZ M F hr hb hd hx I1 r q
end
def PK(X:Cx)(U9:List Keyword)(t:TA):Prop:=
 ∀(pos:Pos) (pins:ao) (s:Shared) (σ:St) (H:Hp) (Q:List V->Hp->Prop),Inv X pins σ H s->t σ H Q->wpAny (model X.prog X.w) X.A (evalAll ((backToKw pos (keywordEach U9 X.env)).map (·.2))) (AP X pins σ Q) X.xe s
structure aX(N P:ak)(sc:Scope):Prop where
 kind:sc.kind=.function:=by exact rfl
 co:sc.isCoroutine=false:=by exact rfl
 gen:sc.isGenerator=false:=by exact rfl
 nd:N.Nodup:=by decide +kernel
 pre:N.take P.length=P:=by exact rfl
 par:∀x∈P,sc.names.lookup x=some .local\/sc.names.lookup x=some .cell:=by decide +kernel
 Ea:∀y∈sc.names,y.2≠.free:=by decide +kernel
theorem Z6{kindOf:Str->Option NameKind}:∀{binds:List (Str×Value)}{m:Str->ay},(∀v,(x,v)∉binds)->bindL kindOf binds m x=m x
 |[],_,_=>rfl
 |(n,v)::r,m,h=>by
  unfold bindL;rw[Z6 λw hw=>h w (ki _ hw)];split
  ·have:x≠n:=by rintro rfl;exact h v oj
   simp[this]
  ·rfl
theorem Z5{kindOf:Str->Option NameKind}:∀{binds:List (Str×Value)}{m:Str->ay},(∀v,(x,v)∉binds)->bindC kindOf binds m x=m x
 |[],_,_=>rfl
 |(n,v)::r,m,h=>by
  unfold bindC;rw[Z5 λw hw=>h w (ki _ hw)];split
  ·rfl
  ·have:x≠n:=by rintro rfl;exact h v oj
   simp[this]
theorem Z4{kindOf:Str->Option NameKind}:∀{P:ak}{vs:ah}{i:Nat}{m:Str->ay},P.Nodup->P[i]?=some x->vs[i]?=some v->kindOf x=some .local->
  bindL kindOf (P.zip vs) m x=some v
 |[],_,_,_,_,h,_,_=>by simp at h
 |_::_,[],_,_,_,_,h,_=>by simp at h
 |p::P,w::vs,0,m,nd,h1,h2,hk=>by
  simp at h1 h2;subst h1;subst h2;show bindL kindOf ((p,w)::P.zip vs) m p=_;unfold bindL;rw[Z6 λv hv=>(ug.mp nd).1 (Lm hv).1,cO hk];simp
 |p::P,w::vs,i+1,m,nd,h1,h2,hk=>by
  show bindL kindOf ((p,w)::P.zip vs) m x=_;unfold bindL;exact Z4 (i:=i) (ug.mp nd).2 (by simpa using h1) (by simpa using h2) hk
theorem Z3{kindOf:Str->Option NameKind}:∀{P:ak}{vs:ah}{i:Nat}{m:Str->ay},P.Nodup->P[i]?=some x->vs[i]?=some v->kindOf x≠some .local->
  bindC kindOf (P.zip vs) m x=some v
 |[],_,_,_,_,h,_,_=>by simp at h
 |_::_,[],_,_,_,_,h,_=>by simp at h
 |p::P,w::vs,0,m,nd,h1,h2,hk=>by
  simp at h1 h2;subst h1;subst h2;show bindC kindOf ((p,w)::P.zip vs) m p=_;unfold bindC;rw[Z5 λv hv=>(ug.mp nd).1 (Lm hv).1,bZ hk];simp
 |p::P,w::vs,i+1,m,nd,h1,h2,hk=>by
  show bindC kindOf ((p,w)::P.zip vs) m x=_;unfold bindC;exact Z3 (i:=i) (ug.mp nd).2 (by simpa using h1) (by simpa using h2) hk
def start(N:ak)(vs:List V):St:=vs.map some++List.replicate (N.length - vs.length) none
def Du(CX:vi)(P:Program)(w:World)(K:W.Frag)(mg:Str->ay)(base:Heap)(N:ak)(qual:Str)(scope:Scope)(f:Addr)(cd:Value)(A:Around)(outer:List Env)(s:Shared)(H:Hp)(E:XK):Cx where
 prog:=P
 w:=w
 K:=K
 mg:=mg
 base:=base
 A:=A.deeper (envOfC qual scope s.heap.objs.size f cd)
 N:=N
 cq:=s
 sg:=H
 env:=envOfC qual scope s.heap.objs.size f cd
 outer:=outer
 stack:=envOfC qual scope s.heap.objs.size f cd::outer
 ex:=[]
 calm:=true
 fn:=λ_=>true
 pn:=[]
 xe:=λe s'=>wpAny (model P w) (A.deeper (envOfC qual scope s.heap.objs.size f cd)) (leaving (envOfC qual scope s.heap.objs.size f cd) e) (λ_ Ms=>CX outer H s E e Ms) (λe' Ms=>CX outer H s E e' Ms) s'
theorem ZF{sc:Scope}{n:Nat}(h:sc.names.lookup x=some .cell):∃c,(cellsFrom n sc.names []).lookup x=some c:=by
 have q:=PySem.W.cellsFrom_some sc.names n [] (.inl h);exact Option.isSome_iff_exists.mp q
theorem aJH{CX:vi}{P:Program}{w:World}{K:W.Frag}{mg:Str->ay}{base:Heap}{N ps:ak}{qual:Str}{scope:Scope}{f:Addr}{cd:Value}{A:Around}{outer:List Env}{s s1:Shared}{H:Hp}{E:XK}{us:ah}{vs:List V}
  (S:aX N ps scope) (hd:A.handled=none) (e0:AF P w K mg base A outer s H) (hl:vs.length=ps.length) (r:Vals vs us)
  (x:InCallC s s.heap.objs.size (bindL (envOfC qual scope s.heap.objs.size f cd).kindOf (ps.zip us) λ_=>none) (cellsFrom (s.heap.objs.size+1) scope.names []) (bindC (envOfC qual scope s.heap.objs.size f cd).kindOf (ps.zip us) λ_=>none) s1) :
  Inv (Du CX P w K mg base N qual scope f cd A outer s H E) [] (start N vs) H s1:=by
 have uu:ps.length<=N.length:=by have:=congrArg List.length S.pre;rw[qa] at this;lia
 obtain⟨h1,tk,rfl,hk⟩:=x.done;have yj:∀b:Addr,b∉(Du CX P w K mg base N qual scope f cd A outer s H E).ex:=λb z=>absurd (show b∈([]:au) from z) (by simp);refine⟨⟨e0.mod,S.kind,rfl,rfl,dQ _,λy z c h1 h2=>?_,λy hy=>?_,λy c _ h=>?_,λ_=>hd,Around.frames_deeper e0.frames,.inr ⟨rfl,rfl⟩,λb z=>absurd z (yj b),e0.bs,e0.yu,λb _ _=>yj b,λb z=>absurd z (yj b),e0.uO,e0.AD⟩,
  rfl,e0.bare,Un.kept hk,⟨_,x.toInCall.ns,λi y v h1 h2 h3=>?_⟩,λy c h=>⟨_,x.cell y c h⟩,e0.bc.fresh (dQ _),λy c h=>?_,λp hp=>absurd (show p∈([]:ao) from hp) (by simp),e0.bc.kept hk,?_⟩
 ·exact name_of_addr x.apart (PySem.mem_of_lookup h1) (PySem.mem_of_lookup h2)
 ·have hy:scope.names.lookup y=some .cell\/scope.names.lookup y=some .free:=hy;rcases hy with hy|hy
  ·exact ZF hy
  ·exact absurd rfl (S.Ea _ (PySem.mem_of_lookup hy))
 ·exact Cq (x.above y c (PySem.mem_of_lookup h))
 ·have hi:i < vs.length:=by
   unfold start at h2;by_cases hi:i < vs.length
   ·exact hi
   ·rw[vg (by simpa using hi)] at h2;rw[QJ] at h2;split at h2 <;> cases h2
  have ha:vs[i]?=some v:=by
   unfold start at h2;rw[uh (by simpa using hi),kQ] at h2;cases e:vs[i]? with
   |none=>rw[e] at h2;cases h2
   |some a=>rw[e] at h2;cases h2;rfl
  obtain⟨u,hu,rv⟩:=r.get ha;have hp:ps[i]?=some y:=by
   rw[<-S.pre,QK (by lia)];exact h1
  have Jk:ps.Nodup:=by rw[<-S.pre];exact S.nd.sublist (List.take_sublist _ _)
  refine⟨u,rv,?_⟩;rcases S.par y (kP hp) with k|k
  ·exact .inl ⟨k,Z4 Jk hp hu k⟩
  ·obtain⟨c,e⟩:=ZF (n:=s.heap.objs.size+1) k;refine .inr ⟨.inl k,c,e,?_⟩;have q:=x.cell y c e;rw[Z3 Jk hp hu (by show scope.names.lookup y≠_;rw[k];decide)] at q;exact q
 ·exact e0.bc.fresh (Cq (x.above y c (PySem.mem_of_lookup h)))
 ·unfold start;show _=N.length;rw[lB,bX,QB];lia
theorem X6{CX:vi}{P:Program}{w:World}{K:W.Frag}{mg:Str->ay}{base:Heap}{k:Nat}{f:Addr}{name qual:Str}{params:Arguments}{body:List Stmt}{scope:Scope}{dV kV doc pm bj ct oc:Value}{an od:Option Addr}
  {xi:Array (ay)} {N ps:ak} {sp:Sp} (lk:K.lookup f=some ⟨oc,od,.func (W.fnOf name qual params body scope dV kV doc pm an bj ct),xi⟩) (mv:W.codeIn K bj qual=true) (S:aX N ps scope)
  (len:∀vs H Q E,sp vs H Q E->vs.length=ps.length)
  (fq:∀(A:Around) (outer:List Env) (s:Shared) (H:Hp) (vs:List V) (Q:VK) (E:XK),eK k (A.deeper (envOfC qual scope s.heap.objs.size f bj))->sp vs H Q E->
   ∃t,tf (Du CX P w K mg base N qual scope f bj A outer s H E) body t/\t { nx:=λ_ H'=>Q .bt H',rt:=Q } (start N vs) H) :
  bT P w K mg base CX (k+1) f (W.fnOf name qual params body scope dV kV doc pm an bj ct) ps sp:=by
 refine⟨len,λA outer s H args us vs Q E hr e0 hb r je=>?_⟩;have hl:=len _ _ _ _ je;have KX:K.In s.heap:=e0.mod.CZ.keeps λb o e=>(e0.bs b o e).1;have lim:s.heap.NoLimit:=e0.mod.nolimit.keeps λb o e=>(e0.bs b o e).1;have vm:∀y∈ps.zip us,scope.names.lookup y.1=some .local\/(scope.names.lookup y.1=some .cell/\((cellsFrom (s.heap.objs.size+1) scope.names []).lookup y.1).isSome=true):=λ⟨n,v⟩ hy=>by
  rcases S.par n (Lm hy).1 with q|q
  ·exact .inl q
  ·exact .inr ⟨q,PySem.W.cellsFrom_some _ _ _ (.inl q)⟩
 refine codeAny_call_function hr.depth (KX _ _ lk) rfl S.co S.gen rfl (PySem.W.codeRec_of KX mv) (hb _ _ _ _ ?_)
 refine wpAny_newFunctionEnv_cells S.kind vm λenv he s1 x=>?_;subst he;refine⟨lim.keeps x.toInCall.keep,codeAny_func ?_⟩;obtain⟨t,ht,hq⟩:=fq A outer s H vs Q E (hr.deeper _) je;have I:Inv (Du CX P w K mg base N qual scope f bj A outer s H E) [] (start N vs) H s1:=aJH S hr.hd e0 hl r x;refine sy (ht [] s1 (start N vs) H _ I hq) (λfl s' hs=>?_) λe s' hs=>hs;have fin:∀{σ':St} {H':Hp} {v:V} {u:Value},Inv (Du CX P w K mg base N qual scope f bj A outer s H E) [] σ' H' s'->RelV v u->Q v H'->CE outer P w H s Q u s':=
  λ{σ' H' v u} J rv q=>⟨v,H',J.os,J.bare,J.base,J.bc,rv,q⟩
 cases fl with
 |ret u=>
  obtain⟨v,σ',H',J,rv,q⟩:=hs;exact fin J rv q
 |next=>
  obtain⟨σ',H',J,q⟩:=hs;exact fin (v:=V.bt) (u:=Value.none) J rfl q
 |brk=>
  obtain⟨_,_,_,q⟩:=hs;exact False.elim q
 |cont=>
  obtain⟨_,_,_,q⟩:=hs;exact False.elim q
section
variable{X:Cx}{x:Str}{p pos:Pos}{e:Expr}{es:List Expr}{t:TA}{id T:String}{r:List V->Hp->VK->Prop}
def CK(r:List V->Hp->VK->Prop)(t:TA):TE:=λσ H Q=>t σ H λvs H1=>r vs H1 Q
theorem aK0(hc:eJ X (.builtin id) r)(hg:Gl X x)(hm:X.mg x=none)(hv:bootBuiltins x=some (.builtin id))(ha:PA X (e::es) t)(hn:x≠"__name__":=by decide)(jf:(x == ("__debug__" : Str))=false:=by decide)
  (he:starEach (e::es) X.env=(false,eval e X.env)::starEach es X.env:=by rfl) (uu:(backTo pos (starEach es X.env)).any (·.1)=false:=by rfl):PE X (.Call (.Name x p) (e::es) [] pos) (CK r t):=by
 intro pins s σ H Q I h;refine wpAny_Call_Name_kw (lV I hg hm hv ?_ hn jf);exact PyProof.Rows.callWith_builtin1 (dC (ha pos pins s σ H _ I h) λus s1 ⟨vs,H1,I1,r1,q1⟩=>hc pins s1 σ H1 vs us Q I1 r1 q1) he uu
theorem aJI(hc:eJ X (.type T) r)(hg:Gl X x)(hm:X.mg x=none)(hv:bootBuiltins x=some (.type T))(ha:PA X (e::es) t)(hn:x≠"__name__":=by decide)(jf:(x == ("__debug__" : Str))=false:=by decide)
  (he:starEach (e::es) X.env=(false,eval e X.env)::starEach es X.env:=by rfl) (uu:(backTo pos (starEach es X.env)).any (·.1)=false:=by rfl):PE X (.Call (.Name x p) (e::es) [] pos) (CK r t):=by
 intro pins s σ H Q I h;refine wpAny_Call_Name_kw (lV I hg hm hv ?_ hn jf);exact PyProof.Rows.callWith_type1 (dC (ha pos pins s σ H _ I h) λus s1 ⟨vs,H1,I1,r1,q1⟩=>hc pins s1 σ H1 vs us Q I1 r1 q1) he uu
end
end L2
namespace HT
open PySem PyProof.Rows
section
open PySem.SeqAt
open PySem.AutoSeq1 (wpAny_loadPart')
open PySem.MeetsSeq PySem.MeetsSeq2 PySem.MeetsSeq3
end
section
variable{prog:Program}{w:World}{A:Around}{E:aj}{s:Shared}
def kD(n d:Nat):Option Int->Nat
 |none=>d
 |some v=>if v < 0 then (v+(n:Int)).toNat else min v.toNat n
theorem xN(n d:Nat):kD n d none=d:=rfl
theorem K0(n d k:Nat):kD n d (some (k:Int))=min k n:=by
 show(if (k:Int) < 0 then ((k:Int)+(n:Int)).toNat else min (k:Int).toNat n)=min k n;rw[bZ (by lia),xy]
theorem aPE(n d:Nat)(hd:d<=n)(o:Option Int):kD n d o<=n:=by
 cases o with
 |none=>exact hd
 |some v=>
  show(if v < 0 then (v+(n:Int)).toNat else min v.toNat n)<=n;by_cases hv:v < 0
  ·rw[cO hv];lia
  ·rw[bZ hv];exact Nat.min_le_right _ _
theorem Y8(v:Int)(n d:Nat):(if v < 0 then max (v+(n:Int)) 0 else min v (n:Int))=((kD n d (some v):Nat):Int):=by
 show(if v < 0 then max (v+(n:Int)) 0 else min v (n:Int))=(((if v < 0 then (v+(n:Int)).toNat else min v.toNat n):Nat):Int)
 by_cases hv:v < 0
 ·simp only[cO hv];lia
 ·simp only[bZ hv];lia
theorem aHL(lo hi:Option Int)(n:Nat):Builtin.Slice.sliceAdjust lo hi 1 (n:Int)=(((kD n 0 lo:Nat):Int),((kD n n hi:Nat):Int)):=by
 have h1:¬((1:Int) < 0):=by lia
 unfold Builtin.Slice.sliceAdjust;simp only[h1,if_false];refine Prod.ext ?_ ?_
 ·cases lo with
  |none=>rfl
  |some v=>exact Y8 v n 0
 ·cases hi with
  |none=>rfl
  |some v=>exact Y8 v n n
theorem aHM(i j:Nat):Builtin.Slice.slicePlaces (i:Int) (j:Int) 1=j - i:=by
 unfold Builtin.Slice.slicePlaces;have h1:(1:Int) > 0:=by lia
 simp only[h1,if_true,Int.ediv_one];split <;> lia
theorem aCb{o:Option Int}{Q:Option Int->Shared->Prop}(p:IsPart v o)(h:Q o s):wpAny (model prog w) A (Builtin.Slice.slicePartIndex v) Q E s:=by
 cases p with
 |none=>exact slicePart_none h
 |int i t=>exact slicePart_int h
theorem aAo{lo hi:Option Int}{n:Nat}{Q:Int×Int×Nat->Shared->Prop}(hs:s.heap.IsSliceOf sl vl vu .none)(pl:IsPart vl lo)(pu:IsPart vu hi)(h:Q (((kD n 0 lo:Nat):Int),1,kD n n hi - kD n 0 lo) s):wpAny (model prog w) A (Builtin.Slice.sliceApplied (.ref sl) (pure (n:Int))) Q E s:=by
 obtain⟨os,F9,VI,EB⟩:=id hs;unfold Builtin.Slice.sliceApplied Builtin.Slice.sliceFields;refine bG (bG (wpAny_field F9 EB (x:=vl) rfl (bG (wpAny_field F9 EB (x:=vu) rfl (bG (wpAny_field F9 EB (x:=.none) rfl (cM ?_)))))));refine bG (slicePart_none ?_);show wpAny _ _ (if ((1:Int) == 0)=true then _ else _) _ _ s;rw[bZ (by decide)];refine bG (aCb pl (bG (aCb pu (bG (cM ?_)))));show wpAny _ _ (match Builtin.Slice.sliceAdjust lo hi 1 (n:Int) with|(lo,hi)=>pure (lo,(1:Int),Builtin.Slice.slicePlaces lo hi 1)) _ _ s;rw[aHL lo hi n];show wpAny _ _ (pure (((kD n 0 lo:Nat):Int),(1:Int),Builtin.Slice.slicePlaces ((kD n 0 lo:Nat):Int) ((kD n n hi:Nat):Int) 1)) _ _ s;rw[aHM];exact cM h
theorem aK1(xs:Array Value)(i k:Nat):((List.range k).filterMap λ(m:Nat)=>xs[((i:Int)+(m:Int)*1).toNat]?).toArray=((xs.toList.drop i).take k).toArray:=by
 have e:(λ(m:Nat)=>xs[((i:Int)+(m:Int)*1).toNat]?)=λm=>xs[i+m]?:=by
  funext m
  have:((i:Int)+(m:Int)*1).toNat=i+m:=by lia
  rw[this]
 rw[e];have:=pick_run xs i k;rw[List.filterMap_map] at this;have e2:((λx=>xs[x]?) ∘ λx=>i+x)=λm=>xs[i+m]?:=rfl;rw[e2] at this;rw[this]
theorem xO{items:Array Value}{lo hi:Option Int}{Q:aj}(ht:IsTup s.heap t items)(hs:s.heap.IsSliceOf sl vl vu .none)(pl:IsPart vl lo)(pu:IsPart vu hi)(hw:¬(kD items.size 0 lo=0/\kD items.size items.size hi=items.size))(h:Q (.ref s.heap.objs.size) { s with heap:=s.heap.push { cls:=.type "tuple",data:=.seq ((items.toList.drop (kD items.size 0 lo)).take (kD items.size items.size hi - kD items.size 0 lo)).toArray } })(hsz:items.size<=sizeLine):wpAny (model prog w) A (getItem (.ref t) (.ref sl)) Q E s:=by
 have vk:sizeOk (.seq ((items.toList.drop (kD items.size 0 lo)).take (kD items.size items.size hi - kD items.size 0 lo)).toArray):=by
  show((items.toList.drop (kD items.size 0 lo)).take (kD items.size items.size hi - kD items.size 0 lo)).toArray.size<=sizeLine;rw[iR,qa,G7,ya];lia
 have hj:kD items.size items.size hi<=items.size:=aPE _ _ (dQ _) hi;obtain⟨os,F9,VI,EB⟩:=id hs;have hTs:s.TypeIs (.ref sl) "slice":=⟨os,F9,VI⟩
 unfold getItem;try with_reducible refine AM ?_
 first|refine bG (cM ?_)|skip
 refine bG (wpAny_sequenceKey ht.typeIs (by decide) ?_);refine bG (wpAny_callSpecial?_slot (name:=Str.ofString "__getitem__") ht.typeIs PyProof.Rows.slot_tuple_getitem
  (rq PyProof.Rows.slot_tuple_getitem ht.typeIs entry_tuple_getitem ?_ (args_tuple_getitem _ _)))
 show wpAny _ _ (Builtin.Tuple.tupleItemsOf (.ref t) >>= _) _ _ s;refine bG (tupleItemsOf_ ht ?_);refine bG (wpAny_typeOf hTs ?_);rw[cO (by decide)];refine bG (aAo hs pl pu ?_);have hno:¬((((kD items.size 0 lo:Nat):Int) == 0 && (1:Int) == 1 && (kD items.size items.size hi - kD items.size 0 lo) == items.size)=true):=by
  intro q;rw[wm,wm] at q;have q1:((kD items.size 0 lo:Nat):Int)=0:=eq_of_beq q.1.1;have q2:kD items.size items.size hi - kD items.size 0 lo=items.size:=eq_of_beq q.2;exact hw ⟨by lia,by lia⟩
 show wpAny _ _ (if (((kD items.size 0 lo:Nat):Int) == 0 && (1:Int) == 1 && (kD items.size items.size hi - kD items.size 0 lo) == items.size)=true then _ else _) _ _ s;rw[bZ hno,aK1];first
  |exact bG (m:=Builtin.Tuple.tupleExact _) (qb (cM ⟨_,rfl,cM h⟩) vk)
  |exact bG (m:=Builtin.Tuple.tupleExact _) (qb (bG (cM (cM ⟨_,rfl,cM h⟩))) vk)
  |exact bG (bG (m:=Builtin.Tuple.tupleExact _) (qb (cM (cM ⟨_,rfl,cM h⟩)) vk))
  |exact bG (bG (m:=Builtin.Tuple.tupleExact _) (qb (cM ⟨_,rfl,cM h⟩) vk))
end
end HT
namespace L2
open PySem PySem.Spec PyProof.Rows
abbrev TO:=St->Hp->(Option Int->Hp->Prop)->Prop
def PO(X:Cx)(e:Option Expr)(t:TO):Prop:=
 ∀(pins:ao) (s:Shared) (σ:St) (H:Hp) (Q:Option Int->Hp->Prop),Inv X pins σ H s->t σ H Q->
  wpAny (model X.prog X.w) X.A (evalPart e X.env) (λu s'=>∃o H',Inv X pins σ H' s'/\IsPart u o/\Q o H') X.xe s
def P4:TO:=λ_ H Q=>Q none H
def O8(t:TE):TO:=λσ H Q=>t σ H λx H1=>∃i,x=.int i/\Q (some i) H1
theorem intsAre_of{ns:ae}:∀{us:ah},Vals (ns.map V.int) us->IntsAre us ns:=by
 induction ns with
 |nil=>intro us r;rw[vb] at r;cases r;exact .nil
 |cons n ns ih=>
  intro us r;rw[uY] at r;cases r with
  |cons r1 r2=>
   obtain⟨t,e⟩:=r1;subst e;exact .cons n t (ih r2)
section
variable{X:Cx}{e:Expr}{te:TE}{lo hi:Option Expr}{tl th:TO}{pos p2:Pos}
theorem aNg:PO X none P4:=by
 intro pins s σ H Q I h;rw[evalPart_none];exact cM ⟨none,H,I,.none,h⟩
theorem aNh(h:PE X e te):PO X (some e) (O8 te):=by
 intro pins s σ H Q I hw;rw[evalPart_some];refine dC (h pins s σ H _ I hw) λu s1 zq=>?_;obtain⟨x,H1,I1,r1,q1⟩:=zq;obtain⟨i,rfl,q⟩:=q1;obtain⟨t,rfl⟩:=r1;exact⟨some i,H1,I1,.int i t,q⟩
def Bl(X:Cx)(r:V->Option Int->Option Int->Hp->VK->Prop):Prop:=
 ∀(pins:ao) (s:Shared) (σ:St) (H:Hp) (x:V) (v vl vu:Value) (lo hi:Option Int) (sl:Addr) (Q:VK),Inv X pins σ H s->RelV x v->s.heap.IsSliceOf sl vl vu .none->IsPart vl lo->IsPart vu hi->r x lo hi H Q->
  ∃T id,typeLookup (.type T) "__getitem__" = pure (some (.builtin id))/\s.TypeIs v T/\wpAny (model X.prog X.w) X.A (getItem v (.ref sl)) (EP X pins σ Q) X.xe s
theorem Bl.or{r r':V->Option Int->Option Int->Hp->VK->Prop}(h:Bl X r)(h':Bl X r'):Bl X (λx lo hi H Q=>r x lo hi H Q\/r' x lo hi H Q):=by
 intro pins s σ H x v vl vu lo hi sl Q I rx hs pl pu q;rcases q with q|q
 ·exact h pins s σ H x v vl vu lo hi sl Q I rx hs pl pu q
 ·exact h' pins s σ H x v vl vu lo hi sl Q I rx hs pl pu q
def Mi(r:V->Option Int->Option Int->Hp->VK->Prop)(te:TE)(tl th:TO):TE:=λσ H Q=>te σ H λx H1=>tl σ H1 λl H2=>th σ H2 λu H3=>r x l u H3 Q
theorem aK3{r:V->Option Int->Option Int->Hp->VK->Prop}(hr:Bl X r)(he:PE X e te)(hl:PO X lo tl)(hu:PO X hi th):PE X (.Subscript e (.Slice lo hi none p2) pos) (Mi r te tl th):=by
 intro pins s σ H Q I h;refine Subscript_ (dC (he pins s σ H _ I h) λv s1 zq=>?_);obtain⟨x,H1,I1,r1,q1⟩:=zq;refine wpAny_Slice (dC (hl pins s1 σ H1 _ I1 q1) λvl s2 ⟨l,H2,I2,pl,q2⟩=>dC (hu pins s2 σ H2 _ I2 q2) λvu s3 zq=>?_);obtain⟨u,H3,I3,pu,q3⟩:=zq;rw[evalPart_none];refine cM ?_;have I4:Inv X pins σ H3 { s3 with heap:=s3.heap.push { cls:=.type "slice",data:=.fields #[vl,vu,.none] } }:=I3.kept (t':=s3.toks) λb ob q=>eG _ q;obtain⟨T,id,hT,ht,hg⟩:=hr pins { s3 with heap:=s3.heap.push { cls:=.type "slice",data:=.fields #[vl,vu,.none] } } σ H3 x v vl vu l u s3.heap.objs.size Q I4 r1 (Heap.IsSliceOf.new ..) pl pu q3;show wpAny (model X.prog X.w) X.A (subscriptTail e (.Slice lo hi none p2) v (.ref s3.heap.objs.size)) (EP X pins σ Q) X.xe { s3 with heap:=s3.heap.push { cls:=.type "slice",data:=.fields #[vl,vu,.none] } };exact tail_any (ops:=[.ref s3.heap.objs.size,v]) ht hT hg (by with_unfolding_all rfl)
def kE(xs:List V)(lo hi:Option Int):List V:=(xs.drop (HT.kD xs.length 0 lo)).take (HT.kD xs.length xs.length hi - HT.kD xs.length 0 lo)
theorem eZ(xs:List V)(lo hi:Option Int):(kE xs lo hi).length<=xs.length:=by
 unfold kE;rw[qa,G7];lia
def XM(K:W.Frag):V->Option Int->Option Int->Hp->VK->Prop:=λx lo hi H Q=>∃a xs,x=.ref a/\iC K H a xs/\
 ¬(HT.kD xs.length 0 lo=0/\HT.kD xs.length xs.length hi=xs.length)/\∀p,H p=none->Q (.ref p) (upd H p (.tup (kE xs lo hi)))
theorem aPF:Bl X (XM X.K):=by
 intro pins s σ H x v vl vu lo hi sl Q I rx hs pl pu h;obtain⟨a,xs,rfl,hx,hw,q⟩:=h;cases rx;obtain⟨its,r,ht,hz⟩:=I.tuple hx;have hlen:its.toArray.size=xs.length:=by rw[iR];exact r.length.symm
 refine⟨"tuple",_,PyProof.Rows.slot_tuple_getitem.lookup,ht.typeIs,?_⟩;refine HT.xO ht hs pl pu (by rw[hlen];exact hw) ?_ (by rw[hlen];exact hz);rw[hlen];refine⟨.ref s.heap.objs.size,_,I.laid (t':=s.toks) (o:=.tup (kE xs lo hi)) (λb ob q=>eG _ q) (dQ _) ?_,rfl,q _ (I.bc.fresh (dQ _))⟩;exact⟨kr (eZ xs lo hi) hz,_,(r.drop (HT.kD xs.length 0 lo)).take (HT.kD xs.length xs.length hi - HT.kD xs.length 0 lo),IsTup.new _ _⟩
end
def pf(n:Nat)(i:Int):Option Nat:=if 0<=i then (if i < n then some i.toNat else none) else if -(n:Int)<=i then some (i+n).toNat else none
def uP{α:Type}(xs:List α)(i:Int):Option α:=(pf xs.length i).bind λj=>xs[j]?
theorem Y7{n:Nat}{i:Int}{j:Nat}(h:pf n i=some j):seqIndex? i n=some j/\j < n/\-(n:Int)<=i/\i < n:=by
 unfold pf at h;by_cases h0:0<=i
 ·rw[cO h0] at h;by_cases h1:i < n
  ·rw[cO h1] at h;have e:i.toNat=j:=Option.some.inj h;exact⟨by rw[seqIndex_of h0 h1,e],by lia,by lia,h1⟩
  ·rw[bZ h1] at h;cases h
 ·rw[bZ h0] at h;by_cases h1:-(n:Int)<=i
  ·rw[cO h1] at h;have e:(i+n).toNat=j:=Option.some.inj h;exact⟨by rw[seqIndex_neg (by lia) h1,e],by lia,h1,by lia⟩
  ·rw[bZ h1] at h;cases h
theorem P1{α:Type}{xs:List α}{i:Int}{v:α}(h:uP xs i=some v):∃j,seqIndex? i xs.length=some j/\xs[j]?=some v/\j < xs.length/\-(xs.length:Int)<=i/\i < xs.length:=by
 unfold uP at h;cases e:pf xs.length i with
 |none=>rw[e] at h;cases h
 |some j=>
  rw[e] at h;obtain⟨h1,h2,h3,h4⟩:=Y7 e;exact⟨j,h1,h,h2,h3,h4⟩
theorem iD{α:Type}{xs:List α}{j:Nat}{v:α}(h:xs[j]?=some v):uP xs (j:Int)=some v:=by
 have hj:j < xs.length:=(lU.mp h).1;have e:pf xs.length (j:Int)=some j:=by
  unfold pf;rw[cO (by lia),cO (by lia)];simp
 unfold uP;rw[e];exact h
theorem Qh{α:Type}(xs:List α)(v:α):uP (xs ++ [v]) (-1)=some v:=by
 have hl:(xs ++ [v]).length=xs.length+1:=by simp
 have e:pf (xs ++ [v]).length (-1)=some xs.length:=by
  unfold pf;rw[hl,bZ (by decide),cO (by lia)];congr 1;lia
 unfold uP;rw[e];show(xs ++ [v])[xs.length]?=some v;simp
def Y6(b:Expr):Prop:=∀o i,subscripted b false o i=operate [o,i] (getItem o i)
def Br(X:Cx)(r:R2):Prop:=
 ∀(value slice:Expr) (pins:ao) (s:Shared) (σ:St) (H:Hp) (x y:V) (v u:Value) (Q:VK),Inv X pins σ H s->RelV x v->RelV y u->r x y H Q->
  subscripted slice false v u=operate [v,u] (getItem v u)->wpAny (model X.prog X.w) X.A (subscriptTail value slice v u) (EP X pins σ Q) X.xe s
def MtR(X:Cx)(id:String)(r:V->List V->Hp->VK->Prop):Prop:=
 ∀(pins:ao) (s:Shared) (σ:St) (H:Hp) (x:V) (xs:List V) (v:Value) (us:ah) (Q:VK),Inv X pins σ H s->RelV x v->Vals xs us->r x xs H Q->
  wpAny (model X.prog X.w) X.A (call (.builtin id) (v::us)) (EP X pins σ Q) X.xe s
section
variable{X:Cx}{a b:Expr}{ta tb:TE}{pos:Pos}
theorem Br.or{r':R2}(h:Br X r)(h':Br X r'):Br X (λx y H Q=>r x y H Q\/r' x y H Q):=by
 intro value slice pins s σ H x y v u Q I rx ry q hs;rcases q with q|q
 ·exact h value slice pins s σ H x y v u Q I rx ry q hs
 ·exact h' value slice pins s σ H x y v u Q I rx ry q hs
theorem aQ6(hr:Br X r)(ha:PE X a ta)(hb:PE X b tb)(hs:Y6 b):PE X (.Subscript a b pos) (AU r ta tb):=by
 intro pins s σ H Q I h;exact Subscript_ (Om ha hb I h λv u s2 x y H2 I2 rx ry q=>hr a b pins s2 σ H2 x y v u Q I2 rx ry q (hs _ _))
def XJ(K:W.Frag):R2:=λx y H Q=>∃p xs i v,x=.ref p/\y=.int i/\bR K H p xs/\uP xs i=some v/\Q v H
def XI(K:W.Frag):R2:=λx y H Q=>∃p xs i v,x=.ref p/\y=.int i/\iC K H p xs/\uP xs i=some v/\Q v H
def XH:R2:=λx y H Q=>∃z i c,x=.str z/\y=.int i/\z.length<=sizeLine/\uP z.cps.toList i=some c/\Q (.str ⟨#[c]⟩) H
theorem aNi:Br X (XJ X.K):=by
 intro value slice pins s σ H x y v u Q I rx ry h hs;obtain⟨p,xs,i,z,rfl,rfl,hq,he,q⟩:=h;cases rx;obtain⟨t,rfl⟩:=ry;obtain⟨its,r,pl,hz⟩:=I.list hq;obtain⟨j,h1,h2,h3,h4,h5⟩:=P1 he;obtain⟨w,ew,rb⟩:=r.get h2;have hl:=r.length;have hn:=Fi;have fin:EP X pins σ Q w s:=⟨z,H,I,rb,q⟩
 by_cases h0:0<=i
 ·have hj:i.toNat=j:=by
   rw[seqIndex_of h0 h5] at h1;exact Option.some.inj h1
  exact item_listR pl.isList h0 (by lia) (by rw[hj];simpa using ew) fin hs
 ·have hj:(i+(its.toArray.size:Int)).toNat=j:=by
   rw[seqIndex_neg (by lia) h4] at h1;rw[iR,<-hl];exact Option.some.inj h1
  exact subscriptTail_builtinR (x:=w) pl.isList.typeIs slot_list_getitem.lookup
   (wpAny_getItem_list_neg (Q:=λr s'=>r=w/\EP X pins σ Q r s') pl.isList (by lia) (by rw[iR] <;> lia) (by lia) (by rw[hj];simpa using ew) ⟨rfl,fin⟩) hs
theorem aPG:Br X (XI X.K):=by
 intro value slice pins s σ H x y v u Q I rx ry h hs;obtain⟨p,xs,i,z,rfl,rfl,hq,he,q⟩:=h;cases rx;obtain⟨t,rfl⟩:=ry;obtain⟨its,r,pl,hz⟩:=I.tuple hq;obtain⟨j,h1,h2,h3,h4,h5⟩:=P1 he;obtain⟨w,ew,rb⟩:=r.get h2;have hl:=r.length;have hn:=Fi;have fin:EP X pins σ Q w s:=⟨z,H,I,rb,q⟩
 exact subscriptTail_builtinR (x:=w) pl.typeIs slot_tuple_getitem.lookup
  (getItem_tuple (j:=j) (Q:=λr s'=>r=w/\EP X pins σ Q r s') pl (by lia) (by lia) (by rw[iR,<-hl];exact h1) (by simpa using ew) ⟨rfl,fin⟩) hs
theorem aPH:Br X XH:=by
 intro value slice pins s σ H x y v u Q I rx ry h hs;obtain⟨z,i,c,rfl,rfl,hz,he,q⟩:=h;obtain⟨t,rfl⟩:=rx;obtain⟨t',rfl⟩:=ry;obtain⟨j,h1,h2,h3,h4,h5⟩:=P1 he;have hl:z.cps.toList.length=z.length:=by simp[Str.length]
 rw[hl] at h1 h4 h5;have hn:=Fi;exact tail_any (typeIs_str s z t) slot_str_getitem.lookup (getItem_str (c:=c) (by
  have e1:decide (i < -(2 ^ 63:Int))=false:=rp (by lia);have e2:decide (i ≥ 2 ^ 63)=false:=rp (by lia);rw[e1,e2,Bool.or_false]) (by rw[h1];simpa using h2) ⟨.str ⟨#[c]⟩,H,I.tok _,⟨_,rfl⟩,q⟩) hs
def Ja(K:W.Frag):R2:=λx y H Q=>XJ K x y H Q\/XI K x y H Q\/XH x y H Q
theorem aPI:Br X (Ja X.K):=aNi.or (aPG.or aPH)
theorem aHN(its:ah)(n j:Nat)(u:Value):Obj.mapSeq (·.setIfInBounds j u) { cls:=.type "list",data:=.seq its.toArray n } = { cls:=.type "list",data:=.seq (its.set j u).toArray n }:=by
 simp[Obj.mapSeq]
theorem Inv.lst{pins:ao}{σ:St}{H:Hp}{s:Shared}{p:Addr}{xs:List V}(I:Inv X pins σ H s)(h:H p=some (.lst xs)) :
  ∃(its:ah) (n:Nat),Vals xs its/\s.heap.get? p=some { cls:=.type "list",data:=.seq its.toArray n }/\xs.length<=sizeLine:=by
 obtain⟨z,its,n,r,e⟩:=I.bc p _ h;exact⟨its,n,r,e,z⟩
theorem Inv.aPJ{s:Shared}{ys:List V}{its its':ah}{n n':Nat}{f:Obj->Obj}(I:Inv X pins σ H s)(h:H p=some (.lst xs))(ho:s.heap.get? p=some { cls:=.type "list",data:=.seq its.toArray n })(hf:f { cls:=.type "list",data:=.seq its.toArray n } = { cls:=.type "list",data:=.seq its'.toArray n' })(r:Vals ys its')(hz:ys.length<=sizeLine)(t:Nat) :
  Inv X pins σ (upd H p (.lst ys)) { s with heap:=s.heap.update p f,toks:=t }:=by
 have e:(s.heap.update p f).get? p=some { cls:=.type "list",data:=.seq its'.toArray n' }:=by
  rw[G9 f ho (by rw[hf] <;> rfl),hf]
 refine I.write (x:=p) (e:=p) (by rw[h];trivial) (.inl rfl) (λb u hb q=>(QD _ _ (Ne.symm hb)).trans q) ⟨_,e⟩ ?_;exact⟨hz,its',n',r,e⟩
def X5:V->V->V->Hp->(Hp->Prop)->Prop:=λo i v H Q=>∃p xs k j,o=.ref p/\i=.int k/\H p=some (.lst xs)/\pf xs.length k=some j/\Q (upd H p (.lst (xs.set j v)))
theorem set_list:GH X X5:=by
 intro pins s σ H o i v ov iv u Q I ro ri rv h;obtain⟨p,xs,k,j,rfl,rfl,hp,hj,q⟩:=h;cases ro;obtain⟨t,rfl⟩:=ri;obtain⟨its,n,r,ho,hz⟩:=I.lst hp;obtain⟨h1,h2,h3,h4⟩:=Y7 hj;have hl:=r.length;have hn:=Fi;have I':Inv X pins σ (upd H p (.lst (xs.set j v))) { s with heap:=s.heap.update p (Obj.mapSeq (·.setIfInBounds j u)) }:=
  I.aPJ hp ho (aHN its n j u) (r.set rv j) (by rw[wk];exact hz) s.toks
 by_cases h0:0<=k
 ·have hk:k.toNat=j:=by
   rw[seqIndex_of h0 h4] at h1;exact Option.some.inj h1
  exact PySem.W.ki_setAt ho h0 (by lia) (by rw[iR,<-hl];exact h4) (by rw[hk];exact⟨_,I',q⟩)
 ·have hk:(k+(its.toArray.size:Int)).toNat=j:=by
   rw[seqIndex_neg (by lia) h3] at h1;rw[iR,<-hl];exact Option.some.inj h1
  exact PySem.W.ki_setBack ho (by lia) (by rw[iR,<-hl];exact h3) (by lia) (by rw[hk];exact⟨_,I',q⟩)
theorem aE9(lo hi:Option Int)(n:Nat):(sliceBounds lo hi none n).1=((HT.kD n 0 lo:Nat):Int)/\(sliceBounds lo hi none n).2.1=((HT.kD n n hi:Nat):Int)/\(sliceBounds lo hi none n).2.2=1:=by
 refine⟨?_,?_,rfl⟩
 ·cases lo with
  |none=>simp[sliceBounds,HT.kD]
  |some i=>
   simp only[sliceBounds,HT.kD,Option.getD_none,show(1:Int) > 0 by decide,if_true];by_cases h:i < 0
   ·simp only[h,if_true] <;> lia
   ·simp only[h,if_false] <;> lia
 ·cases hi with
  |none=>simp[sliceBounds,HT.kD]
  |some i=>
   simp only[sliceBounds,HT.kD,Option.getD_none,show(1:Int) > 0 by decide,if_true];by_cases h:i < 0
   ·simp only[h,if_true] <;> lia
   ·simp only[h,if_false] <;> lia
theorem aDA(its:ah)(lo hi:Option Int):slicePick its.toArray lo hi none=((its.drop (HT.kD its.length 0 lo)).take (HT.kD its.length its.length hi - HT.kD its.length 0 lo)).toArray:=by
 obtain⟨h1,h2,h3⟩:=aE9 lo hi its.toArray.size;unfold slicePick;rw[h1,h2,h3];simp only[sliceRange_one,pick_run,iR] <;> rfl
def XC(K:W.Frag):V->Option Int->Option Int->Hp->VK->Prop:=λx lo hi H Q=>∃a xs,x=.ref a/\bR K H a xs/\∀p,H p=none->Q (.ref p) (upd H p (.lst (kE xs lo hi)))
theorem aNj:Bl X (XC X.K):=by
 intro pins s σ H x v vl vu lo hi sl Q I rx hs pl pu h;obtain⟨a,xs,rfl,hx,q⟩:=h;cases rx;obtain⟨its,r,ht,hz⟩:=I.list hx;have hlen:=r.length;refine⟨"list",_,slot_list_getitem.lookup,ht.isList.typeIs,?_⟩;refine wpAny_getItem_list_slice ht.isList hs pl pu .none (by simp) ?_ (by rw[iR] <;> lia);rw[aDA,<-hlen];refine⟨.ref s.heap.objs.size,_,I.laid (t':=s.toks) (o:=.lst (kE xs lo hi)) (λb ob q=>eG _ q) (dQ _) ?_,rfl,q _ (I.bc.fresh (dQ _))⟩;exact⟨kr (eZ xs lo hi) hz,_,0,(r.drop (HT.kD xs.length 0 lo)).take (HT.kD xs.length xs.length hi - HT.kD xs.length 0 lo),lA _ rfl⟩
def oI:V->Bool
 |.bt=>true
 |.bl _=>true
 |.int _=>true
 |.str _=>true
 |_=>false
def eqV:V->V->Bool
 |.bt,.bt=>true
 |.bl a,.bl b=>a == b
 |.bl a,.int b=>(if a then 1 else 0) == b
 |.int a,.bl b=>a == (if b then 1 else 0)
 |.int a,.int b=>a == b
 |.str a,.str b=>a == b
 |_,_=>false
theorem YJ(ry:RelV y u)(rx:RelV x v)(fy:oI y=true)(fx:oI x=true):SeqAt.EqAt A s u v (eqV y x):=by
 cases y with
 |bt=>
  cases ry;cases x with
  |bt=>cases rx;exact SeqAt.EqAt.same _
  |bl b=>cases rx;exact SeqAt.EqAt.none_bool b
  |int b=>obtain⟨t,rfl⟩:=rx;exact SeqAt.EqAt.none_int b t
  |str b=>obtain⟨t,rfl⟩:=rx;exact SeqAt.EqAt.none_str b t
  |_=>exact absurd (show false=true from fx) xI
 |bl a=>
  cases ry;cases x with
  |bt=>cases rx;exact SeqAt.EqAt.bool_none a
  |bl b=>cases rx;exact SeqAt.EqAt.bool_bool a b
  |int b=>obtain⟨t,rfl⟩:=rx;exact SeqAt.EqAt.bool_int a b t
  |str b=>obtain⟨t,rfl⟩:=rx;exact SeqAt.EqAt.bool_str a b t
  |_=>exact absurd (show false=true from fx) xI
 |int a=>
  obtain⟨t',rfl⟩:=ry;cases x with
  |bt=>cases rx;exact SeqAt.EqAt.int_none a t'
  |bl b=>cases rx;exact SeqAt.EqAt.int_bool a t' b
  |int b=>obtain⟨t,rfl⟩:=rx;exact SeqAt.EqAt.int_int a t' b t
  |str b=>obtain⟨t,rfl⟩:=rx;exact SeqAt.EqAt.int_str a t' b t
  |_=>exact absurd (show false=true from fx) xI
 |str a=>
  obtain⟨t',rfl⟩:=ry;cases x with
  |bt=>cases rx;exact SeqAt.EqAt.str_none a t'
  |bl b=>cases rx;exact SeqAt.EqAt.str_bool a t' b
  |int b=>obtain⟨t,rfl⟩:=rx;exact SeqAt.EqAt.str_int a t' b t
  |str b=>obtain⟨t,rfl⟩:=rx;exact SeqAt.EqAt.str_str a t' b t
  |_=>exact absurd (show false=true from fx) xI
 |_=>exact absurd (show false=true from fy) xI
theorem aFa:eJ X (.type "list") (λxs H Q=>∃p ys,xs=[.ref p]/\(bR X.K H p ys\/iC X.K H p ys)/\∀l,H l=none->Q (.ref l) (upd H l (.lst ys))):=by
 intro pins s σ H xs us Q I r h;obtain⟨p,ys,rfl,hq,q⟩:=h;obtain⟨u,rfl,rx⟩:=vals1 r;cases rx;have fin:∀(its:ah),Vals ys its->ys.length<=sizeLine->∀(h':Heap) (c':Nat),(∀b o',s.heap.get? b=some o'->h'.get? b=some o')->
   h'.get? s.heap.objs.size=some { cls:=.type "list",dict:=none,data:=.seq its.toArray c',slots:=#[] }->EP X pins σ Q (.ref s.heap.objs.size) { s with heap:=h' }:=λits r' hz h' c' kp e=>
  ⟨.ref s.heap.objs.size,_,I.laid (t':=s.toks) kp (dQ _) (show bS X.prog X.w _ h' _ (.lst ys) from⟨hz,its,c',r',e⟩),rfl,q _ (I.bc.fresh (dQ _))⟩
 rcases hq with hq|hq
 ·obtain⟨its,r',pl,hz⟩:=I.list hq;have hlen:=r'.length;obtain⟨o,ho,hc,n,hd⟩:=pl.isList;exact call_list_seq p (.inl rfl) ho hc hd (λh' c' kp e=>fin its r' hz h' c' kp e) (by simp only[iR] <;> lia)
 ·obtain⟨its,r',pl,hz⟩:=I.tuple hq;have hlen:=r'.length;obtain⟨o,ho,hc,n,hd⟩:=pl;exact call_list_seq p (.inr rfl) ho hc hd (λh' c' kp e=>fin its r' hz h' c' kp e) (by simp only[iR] <;> lia)
theorem aDB:eJ X (.type "tuple") (λxs H Q=>∃p ys,xs=[.ref p]/\((bR X.K H p ys/\∀l,H l=none->Q (.ref l) (upd H l (.tup ys)))\/(iC X.K H p ys/\Q (.ref p) H))):=by
 intro pins s σ H xs us Q I r h;obtain⟨p,ys,rfl,h⟩:=h;obtain⟨u,rfl,rx⟩:=vals1 r;cases rx;rcases h with ⟨hq,q⟩|⟨hq,q⟩
 ·obtain⟨its,r',pl,hz⟩:=I.list hq;have hlen:=r'.length;refine call_tuple_list pl.isList (λh' kp=>?_) (by simp only[iR] <;> lia);have I1:Inv X pins σ H { s with heap:=h' }:=I.kept (t':=s.toks) kp;have I2:Inv X pins σ (upd H h'.objs.size (.tup ys)) { s with heap:=h'.push { cls:=.type "tuple",data:=.seq its.toArray } }:=
   I1.laid (t':=s.toks) (λb o e=>eG _ e) (dQ _) (show bS X.prog X.w _ _ _ (.tup ys) from⟨hz,its,r',IsTup.new _ _⟩)
  exact⟨.ref h'.objs.size,_,I2,rfl,q _ (I1.bc.fresh (dQ _))⟩
 ·obtain⟨its,r',pl,hz⟩:=I.tuple hq;exact call_tuple_same pl ⟨.ref p,H,I,rfl,q⟩
def IP(K:W.Frag)(T:String)(x:V)(H:Hp):Prop:=match x with
 |.str _=>T = "str"
 |.int _=>T = "int"
 |.ref p=>(T = "list"/\∃xs,bR K H p xs)\/(T = "tuple"/\∃o,K.lookup p=some o/\o.cls=.type "tuple"/\o.dict=none)\/
   (T = "dict"/\((∃kvs,H p=some (.dK kvs))\/∃kvs,H p=some (.dT kvs)))\/(T = "set"/\∃S n,H p=some (.set S n))
 |_=>False
theorem aPK{s:Shared}(I:Inv X pins σ H s)(r:RelV x v)(ty:IP X.K T x H) :
  s.TypeIs v T/\∀a,v=.ref a->∃ob,s.heap.get? a=some ob/\ob.dict=none:=by
 cases x with
 |str z=>
  obtain⟨t,rfl⟩:=r;cases (show T = "str" from ty);exact⟨typeIs_str s z t,λ_ e=>nomatch e⟩
 |int i=>
  obtain⟨t,rfl⟩:=r;cases (show T = "int" from ty);exact⟨typeIs_int s i t,λ_ e=>nomatch e⟩
 |ref p=>
  cases r;rcases ty with ⟨rfl,xs,hq⟩|⟨rfl,o,hk,hc,hd⟩|⟨rfl,hk⟩|⟨rfl,S,n,hk⟩
  ·obtain⟨its,_,pl,_⟩:=I.list hq;refine⟨pl.isList.typeIs,λa e=>?_⟩;cases e;obtain⟨o,n,e,c,hd,_⟩:=pl;exact⟨o,e,hd⟩
  ·refine⟨⟨o,I.kg p o hk,hc⟩,λa e=>?_⟩;cases e;exact⟨o,I.kg _ o hk,hd⟩
  ·have z:∃o,s.heap.get? p=some o/\o.ExactDict:=by
    rcases hk with ⟨kvs,hk⟩|⟨kvs,hk⟩
    ·obtain⟨_,_,_,_,o,_,_,e,ex,_⟩:=I.bc p _ hk;exact⟨o,e,ex⟩
    ·obtain⟨_,_,_,_,o,_,_,e,ex,_⟩:=I.bc p _ hk;exact⟨o,e,ex⟩
   obtain⟨o,e,ex⟩:=z;refine⟨⟨o,e,ex.1⟩,λa e2=>?_⟩;cases e2;exact⟨o,e,ex.2.1⟩
  ·obtain⟨o,_,_,_,e,ex,_⟩:=I.bc p _ hk;refine⟨⟨o,e,ex.1⟩,λa e2=>?_⟩;cases e2;exact⟨o,e,ex.2.1⟩
 |_=>exact False.elim ty
def BP(K:W.Frag)(T:String)(r:V->List V->Hp->VK->Prop)(to:TE)(t:TA):TE:=λσ H Q=>to σ H λx H1=>IP K T x H1/\t σ H1 λxs H2=>r x xs H2 Q
variable{o e:Expr}{es:List Expr}{to:TE}{t:TA}{name:Str}{apos bf:Pos}{T id:String}{r:V->List V->Hp->VK->Prop}
theorem O7(pa:PlainAttrs T)(slot:Slot T name id)(hty:typeOf (.builtin id)=pure (.type "method_descriptor"))(hm:MtR X id r)(ho:PE X o to)(ha:PA X (e::es) t)
  (br:attributeBase o name X.env (eval o X.env)=eval o X.env:=by rfl)
  (D5:((backTo bf (starEach (e::es) X.env)).all (λx=>!x.1) && (backToKw bf (keywordEach [] X.env)).all (λx=>x.1.isSome)
   && decide ((e::es).length+([]:List Keyword).length+(if ([]:List Keyword).isEmpty then 0 else 1) < 30))=true:=by rfl)
  (bq:(apos.endLine == bf.line)=true:=by rfl) (hs:starEach (e::es) X.env=(false,eval e X.env)::starEach es X.env:=by rfl) (Ee:(backTo bf (starEach es X.env)).any (·.1)=false:=by rfl) :
  PE X (.Call (.Attribute o name apos) (e::es) [] bf) (BP X.K T r to t):=by
 intro pins s σ H Q I h;refine wpAny_Call_method_late br D5 bq rfl (dC (ho pins s σ H _ I h) λv s1 zq=>?_);obtain⟨x,H1,I1,r1,ty,q1⟩:=zq;obtain⟨h1,h2⟩:=aPK I1 r1 ty;refine⟨T,id,pa,slot,hty,h1,h2,?_⟩;have hA:=ha bf pins s1 σ H1 _ I1 q1;rw[hs] at hA ⊢;refine Calls.callWith_builtin (by show(false || (backTo bf (starEach es X.env)).any (·.1))=false;rw[Ee] <;> rfl) (Calls.evalArgs_plain ?_);exact dC hA λus s2 ⟨vs,H2,I2,r2,q2⟩=>hm pins s2 σ H2 x vs v us Q I2 r1 r2 q2
end
def MtM(X:Cx)(id:String)(r:V->List V->Hp->VK->Prop):Prop:=
 ∀(pins:ao) (s:Shared) (σ:St) (H:Hp) (x:V) (xs:List V) (v:Value) (us:ah) (Q:VK),Inv X pins σ H s->RelV x v->Vals xs us->r x xs H Q->
  wpAny (model X.prog X.w) X.A (call (.builtin id) (v::us)) (EP X pins σ Q) X.xe s
theorem Vals.one:∀{x:V}{us:ah},Vals [x] us->∃u,us=[u]/\RelV x u
 |_,_,.cons r .nil=>⟨_,rfl,r⟩
theorem Vals.zero:∀{us:ah},Vals [] us->us=[]
 |_,.nil=>rfl
theorem Vals.rep(h:Vals xs us):∀k:Nat,Vals (List.replicate k xs).flatten (List.replicate k us).flatten
 |0=>.nil
 |k+1=>by
  rw[Fs,Fs,Ly,Ly];exact Vals.append h (Vals.rep h k)
theorem foldl_rep(its:ah):∀(k:Nat) (acc:ah),
  List.foldl (λx1 x2=>x1++x2) acc.toArray (List.replicate k its.toArray)=(acc++(List.replicate k its).flatten).toArray
 |0,acc=>by simp
 |k+1,acc=>by
  have e:acc.toArray++its.toArray=(acc++its).toArray:=by simp
  have e2:(acc++its)++(List.replicate k its).flatten=acc++(List.replicate (k+1) its).flatten:=by
   rw[Fs,Ly,DJ]
  rw[<-e2,<-foldl_rep its k (acc++its),<-e,Fs,List.foldl_cons]
section
variable{X:Cx}{pins:ao}{σ:St}{H:Hp}{s:Shared}{l b:Addr}{xs ys zs:List V}
theorem Inv.XB{its its':ah}{n:Nat}{f:Array Value->Array Value}{t':Nat}(I:Inv X pins σ H s)(hH:H l=some (.lst xs))
  (e:s.heap.get? l=some { cls:=.type "list",data:=.seq its.toArray n }) (hf:f its.toArray=its'.toArray) (hv:Vals ys its') (hz:ys.length<=sizeLine) :
  Inv X pins σ (upd H l (.lst ys)) { s with heap:=s.heap.update l (Obj.mapSeq f),toks:=t' }:=by
 have q:=PySem.IsL.update e f;rw[hf] at q;refine I.write (x:=l) (e:=l) (by rw[hH];exact trivial) (.inl rfl) (λb' u hb hu=>(QD s.heap (Obj.mapSeq f) (Ne.symm hb)).trans hu) ⟨_,q⟩ ?_;exact⟨hz,its',_,hv,q⟩
theorem Inv.XA{t':Nat}(I:Inv X pins σ H s)(hv:Vals ys its)(hz:ys.length<=sizeLine) :
  Inv X pins σ (upd H s.heap.objs.size (.lst ys)) { s with heap:=s.heap.push { cls:=.type "list",data:=.seq its.toArray },toks:=t' }:=
 I.laid (λ_ _ q=>eG _ q) (dQ _) ⟨hz,its,0,hv,lA _ rfl⟩
theorem Inv.fresh(I:Inv X pins σ H s):H s.heap.objs.size=none:=I.bc.fresh (dQ _)
theorem Inv.EW(I:Inv X pins σ H s)(hH:H l=some (.lst xs)):xs.length<=sizeLine/\∃(its:ah) (n:Nat),Vals xs its/\xs.length=its.length/\s.heap.get? l=some { cls:=.type "list",data:=.seq its.toArray n }:=by
 obtain⟨z,its,n,r,e⟩:=I.bc l _ hH;exact⟨z,its,n,r,r.length,e⟩
theorem ZE{n:Nat}(h:n<=sizeLine):Builtin.List.listTooLong n=false:=by
 unfold Builtin.List.listTooLong;exact rp (by lia)
end
section
variable{X:Cx}
def KZ:V->List V->Hp->VK->Prop:=λx vs H Q=>∃l xs y,x=.ref l/\vs=[y]/\H l=some (.lst xs)/\xs.length < sizeLine/\Q .bt (upd H l (.lst (xs ++ [y])))
theorem aJK:MtM X "list.append" KZ:=by
 intro pins s σ H x vs v us Q I rx rv h;obtain⟨l,xs,y,rfl,rfl,hH,hz,q⟩:=h;cases rx;obtain⟨u,rfl,ru⟩:=rv.one;obtain⟨z,its,n,r,hl,e⟩:=I.EW hH;refine call_meets F.slot_list_append ⟨_,e,rfl⟩ F.entry_list_append (F.args_list_append_2 _ _) (PySem.list_append l its.toArray n u (by rw[iR];lia)) ⟨e,?_⟩;refine⟨.bt,_,I.XB (its':=its ++ [u]) hH e (by simp) (r.append (.cons ru .nil)) ?_,rfl,q⟩;rw[lB,DM];lia
def KY:V->List V->Hp->VK->Prop:=λx vs H Q=>∃l b xs zs,x=.ref l/\vs=[.ref b]/\H l=some (.lst xs)/\H b=some (.lst zs)/\xs.length+zs.length<=sizeLine/\Q .bt (upd H l (.lst (xs++zs)))
theorem aJL:MtM X "list.extend" KY:=by
 intro pins s σ H x vs v us Q I rx rv h;obtain⟨l,b,xs,zs,rfl,rfl,hH,hB,hz,q⟩:=h;cases rx;obtain⟨u,rfl,ru⟩:=rv.one;cases ru;obtain⟨z,its,n,r,hl,e⟩:=I.EW hH;obtain⟨z2,qe,n2,r2,Ge,e2⟩:=I.EW hB;have hsz:its.toArray.size+qe.toArray.size<=sizeLine:=by rw[iR,iR];lia
 have zw:¬(!its.toArray.isEmpty && Builtin.List.listTooLong (its.toArray.size+qe.toArray.size))=true:=by
  rw[ZE hsz,Bool.and_false];exact xI
 refine call_meets F.slot_list_extend ⟨_,e,rfl⟩ F.entry_list_extend (F.args_list_extend_2 _ _)
  (AutoSeq1.list_extend_list_list_0 l its.toArray n b qe.toArray n2 zw (by rw[iR];lia) (by lia)) ⟨e,e2,?_⟩
 refine⟨.bt,_,I.XB (its':=its++qe) hH e (by simp) (r.append r2) ?_,rfl,q⟩;rw[lB];lia
def Xz:R2:=λx y H Q=>∃l b xs zs,x=.ref l/\y=.ref b/\H l=some (.lst xs)/\H b=some (.lst zs)/\xs.length+zs.length<=sizeLine/\∀p,H p=none->Q (.ref p) (upd H p (.lst (xs++zs)))
theorem aPL:rK X (binaryOp .Add) Xz:=by
 intro pins s σ H x y v u Q I rx ry h;obtain⟨l,b,xs,zs,rfl,rfl,hH,hB,hz,q⟩:=h;cases rx;cases ry;obtain⟨z,its,n,r,hl,e⟩:=I.EW hH;obtain⟨z2,qe,n2,r2,Ge,e2⟩:=I.EW hB;refine PySem.P.add_list e e2 ?_ (by rw[iR,iR];lia);have ea:its.toArray++qe.toArray=(its++qe).toArray:=by simp
 rw[ea];exact⟨.ref _,_,I.XA (t':=s.toks) (r.append r2) (by rw[lB];lia),rfl,q _ I.fresh⟩
def Xy:R2:=λx y H Q=>∃l k xs,x=.ref l/\y=.int k/\H l=some (.lst xs)/\-(2 ^ 63)<=k/\k < 2 ^ 63/\xs.length*k.toNat<=sizeLine/\
 ∀p,H p=none->Q (.ref p) (upd H p (.lst (List.replicate k.toNat xs).flatten))
theorem len_rep{α:Type}(xs:List α)(k:Nat):(List.replicate k xs).flatten.length=k*xs.length:=by
 induction k with
 |zero=>simp
 |succ k ih=>rw[Fs,Ly,lB,ih,Nat.succ_mul,Nat.add_comm]
theorem aPM:rK X (binaryOp .Mult) Xy:=by
 intro pins s σ H x y v u Q I rx ry h;obtain⟨l,k,xs,rfl,rfl,hH,h1,h2,hz,q⟩:=h;cases rx;obtain⟨t,rfl⟩:=ry;obtain⟨z,its,n,r,hl,e⟩:=I.EW hH;have hlen:its.toArray.size*k.toNat<=sizeLine:=by rw[iR,<-hl];exact hz
 have TN:¬its.toArray.size*k.toNat > (2 ^ 63 - 1) / 8:=by
  have:(sizeLine:Nat)<=(2 ^ 63 - 1) / 8:=by decide
  lia
 have TF:¬(!Builtin.List.listFitsIndex k)=true:=by
  rw[fitsIndex_both h1 h2];exact xI
 have zw:¬Builtin.List.listTooLong (its.toArray.size*k.toNat)=true:=by
  rw[ZE hlen];exact xI
 have Tz:List.foldl (λx1 x2=>x1++x2) #[] (List.replicate (if its.toArray.isEmpty=true then 0 else k.toNat) its.toArray)=(List.replicate k.toNat its).flatten.toArray:=by
  have f0:∀m:Nat,List.foldl (λx1 x2=>x1++x2) #[] (List.replicate m its.toArray)=(List.replicate m its).flatten.toArray:=λm=>by
   have:=foldl_rep its m [];rw[List.nil_append] at this;exact this
  rw[f0];cases its with
  |nil=>simp
  |cons a r'=>rw[bZ (by simp)]
 refine wpAny_binaryOp_repeat_ref (T:="list") (U:="int") (by decide) ⟨_,e,rfl⟩ (λs'=>typeIs_int s' k t) noFill_list_mul F.fills_int_mul F.slot_int_rmul repeat_list F.slot_int_index.lookup
  (call_meets F.slot_int_rmul (typeIs_int s k t) F.entry_int_rmul (F.args_int_rmul_2 _ _) (int___rmul___int_list k t l its.toArray n)
   ⟨e,rfl,⟨_,e,rfl⟩,call_meets F.slot_list_mul ⟨_,e,rfl⟩ F.entry_list_mul (F.args_list_mul_2 _ _) (AutoListH.list___mul___list_int_3 l its.toArray n k t TF TN zw) ⟨e,?_⟩⟩)
 rw[Tz];exact⟨.ref _,_,I.XA (t':=s.toks) (r.rep k.toNat) (by rw[len_rep,Nat.mul_comm];exact hz),rfl,q _ I.fresh⟩
end
section
variable{κ:Type}[DecidableEq κ]
def lH(kvs:List (κ×V))(k:κ):Option V:=(kvs.find? λkv=>decide (kv.1=k)).map (·.2)
def putK(kvs:List (κ×V))(k:κ)(v:V):List (κ×V):=
 if (kvs.any λkv=>decide (kv.1=k))=true then kvs.map (λkv=>if kv.1=k then (kv.1,v) else kv) else kvs ++ [(k,v)]
theorem hJ{p:κ×V}(e:p.1=k):lH (p::r) k=some p.2:=by simp[lH,uf,e]
theorem gA{p:κ×V}(e:¬p.1=k):lH (p::r) k=lH r k:=by simp[lH,uf,e]
theorem xP(k:κ):∀kvs:List (κ×V),(kvs.any λkv=>decide (kv.1=k))=(lH kvs k).isSome
 |[]=>rfl
 |p::r=>by
  rw[List.any_cons];by_cases e:p.1=k
  ·simp only[hJ e,mi e,Bool.true_or,Option.isSome_some]
  ·rw[gA e,rp e,Bool.false_or];exact xP k r
theorem rQ(k j:κ)(y:V):∀kvs:List (κ×V),lH (kvs.map λkv=>if kv.1=k then (kv.1,y) else kv) j=(lH kvs j).map λx=>if j=k then y else x
 |[]=>rfl
 |p::r=>by
  have ih:=rQ k j y r;rw[uY];by_cases h:p.1=k
  ·rw[cO h];by_cases e:p.1=j
   ·rw[hJ (p:=(p.1,y)) e,hJ e,Option.map_some,cO (e.symm.trans h)]
   ·rw[gA (p:=(p.1,y)) e,gA e,ih]
  ·rw[bZ h];by_cases e:p.1=j
   ·rw[hJ (p:=p) e,hJ e,Option.map_some,bZ (λz=>h (e.trans z))]
   ·rw[gA (p:=p) e,gA e,ih]
theorem m5(kvs:List (κ×V))(k:κ)(v:V):(putK kvs k v).length<=kvs.length+1:=by
 unfold putK;split
 ·rw[bX];lia
 ·rw[lB,oi,Lz];lia
theorem Qg{kvs:List (κ×V)}{k:κ}(v:V)(h:lH kvs k=none):putK kvs k v=kvs ++ [(k,v)]:=by
 unfold putK;rw[xP,h];exact bZ (by decide)
theorem rD.Qo{o:Option V}{u:ay}(r:rD o u):o.isSome=u.isSome:=by
 cases o with
 |none=>cases u with
  |none=>rfl
  |some _=>exact(show False from r).elim
 |some _=>cases u with
  |none=>exact(show False from r).elim
  |some _=>rfl
theorem rD.getD{o:Option V}{u:ay}(r:rD o u)(rd:RelV d d'):RelV (o.getD d) (u.getD d'):=by
 cases o with
 |none=>cases u with
  |none=>exact rd
  |some _=>exact(show False from r).elim
 |some _=>cases u with
  |none=>exact(show False from r).elim
  |some _=>exact r
theorem KV.val(r:KV kvs vs)(k:κ):rD (lH kvs k) (valueAt vs k):=by
 unfold KV at r;induction r with
 |nil=>exact True.intro
 |@cons p q ps qs h t ih=>
  obtain⟨h1,h2⟩:=h;by_cases e:p.1=k
  ·have e':q.1=k:=h1.symm.trans e;have b:valueAt (q::qs) k=some q.2:=by simp[valueAt,uf,e']
   rw[hJ e,b];exact h2
  ·have e':¬q.1=k:=λz=>e (h1.trans z);have b:valueAt (q::qs) k=valueAt qs k:=by simp[valueAt,uf,e']
   rw[gA e,b];exact ih
theorem KV.any{kvs:List (κ×V)}{vs:List (κ×Value)}(r:KV kvs vs)(k:κ):(kvs.any λkv=>decide (kv.1=k))=vs.any λkv=>decide (kv.1=k):=by
 unfold KV at r;induction r with
 |nil=>rfl
 |cons h t ih=>rw[List.any_cons,List.any_cons,ih,h.1]
theorem KV.OD{kvs:List (κ×V)}{vs:List (κ×Value)}(r:KV kvs vs)(k:κ)(ry:RelV y u) :
  KV (kvs.map λkv=>if kv.1=k then (kv.1,y) else kv) (vs.map λkv=>if kv.1=k then (kv.1,u) else kv):=by
 unfold KV at r ⊢;induction r with
 |nil=>exact .nil
 |@cons p q ps qs h t ih=>
  rw[uY,uY];refine .cons ?_ ih;obtain⟨h1,h2⟩:=h;by_cases e:p.1=k
  ·rw[cO e,cO (h1.symm.trans e)];exact⟨h1,ry⟩
  ·rw[bZ e,bZ (λz=>e (h1.trans z))];exact⟨h1,h2⟩
theorem KV.put(r:KV kvs vs)(k:κ)(ry:RelV y u):KV (putK kvs k y) (stored vs k u):=by
 unfold putK stored;rw[r.any k];by_cases e:(vs.any λkv=>decide (kv.1=k))=true
 ·rw[cO e,cO e];exact r.OD k ry
 ·rw[bZ e,bZ e];exact Paired.snoc r ⟨rfl,ry⟩
theorem KV.length{kvs:List (κ×V)}{vs:List (κ×Value)}(r:KV kvs vs):kvs.length=vs.length:=Paired.length r
end
theorem E2(r:RelV (kV k) u):(dO P w).is k u=true:=by
 cases k with
 |inl i=>obtain⟨t,e⟩:=(show ∃t,u=Value.int i t from r);subst e;exact aGb P w i t
 |inr x=>obtain⟨t,e⟩:=(show ∃t,u=Value.str x t from r);subst e;exact aGc P w x t
theorem Z2:∀{ks:List Key}{us:ah},Vals (ks.map kV) us->ItemsAre (dO P w) ks us
 |[],_,r=>by rw[vb] at r;cases r;exact .nil
 |k::ks,_,r=>by
  rw[uY] at r;cases r with
  |cons h t=>exact .cons (E2 h) (Z2 t)
abbrev KT(H:Hp):List (List Key×V)->List (List Key×Addr×Value)->Prop:=Paired λp q=>p.1=q.1/\H q.2.1=some (.tup (p.1.map kV))/\RelV p.2 q.2.2
theorem KT.val(r:KT H kvs xs)(k:List Key):rD (lH kvs k) ((atKey xs k).map (·.2)):=by
 induction r with
 |nil=>exact True.intro
 |@cons p q ps qs h t ih=>
  obtain⟨h1,_,h2⟩:=h;by_cases e:p.1=k
  ·have e':q.1=k:=h1.symm.trans e;have b:atKey (q::qs) k=some q.2:=by simp[atKey,uf,e']
   rw[hJ e,b];exact h2
  ·have e':¬q.1=k:=λz=>e (h1.trans z);have b:atKey (q::qs) k=atKey qs k:=by simp[atKey,uf,e']
   rw[gA e,b];exact ih
theorem KT.OD{kvs:List (List Key×V)}{xs:List (List Key×Addr×Value)}(r:KT H kvs xs)(k:List Key)(ry:RelV y u) :
  KT H (kvs.map λkv=>if kv.1=k then (kv.1,y) else kv) (xs.map (putAt k u)):=by
 induction r with
 |nil=>exact .nil
 |@cons p q ps qs h t ih=>
  rw[uY,uY];refine .cons ?_ ih;obtain⟨h1,h2,h3⟩:=h;unfold putAt;by_cases e:p.1=k
  ·rw[cO e,cO (h1.symm.trans e)];exact⟨h1,h2,ry⟩
  ·rw[bZ e,bZ (λz=>e (h1.trans z))];exact⟨h1,h2,h3⟩
theorem KT.put(r:KT H kvs xs)(k:List Key)(hb:H b=some (.tup (k.map kV)))(ry:RelV y u) :
  KT H (putK kvs k y) (storedH xs k b u):=by
 have e:(kvs.any λkv=>decide (kv.1=k))=(atKey xs k).isSome:=by
  rw[xP,(r.val k).Qo,Option.isSome_map]
 unfold putK storedH;rw[e];by_cases q:(atKey xs k).isSome=true
 ·rw[cO q,cO q];exact r.OD k ry
 ·rw[bZ q,bZ q];exact Paired.snoc r ⟨rfl,hb,ry⟩
theorem KT.keeps{H H':Hp}(r:KT H kvs xs)(ht:∀b ys,H b=some (.tup ys)->H' b=some (.tup ys)):KT H' kvs xs:=
 Paired.OJ r λ_ _ z=>⟨z.1,ht _ _ z.2.1,z.2.2⟩
section
variable{P:Program}{w:World}{H:Hp}{h:Heap}{a:Addr}
theorem GK(ok:o9 P w H h)(e:Rd H a u):bS P w H h a u:=e.ok ok
theorem Dw{kvs:List (Key×V)}(ok:o9 P w H h)(e:Rd H a (.dK kvs)):kvs.length<=sizeLine/\(a == sysModules)=false/\∃vs,KV kvs vs/\h.DictOf (dO P w) a vs:=
 show bS P w H h a (.dK kvs) from GK ok e
theorem O6{kvs:List (Key×V)}(ok:o9 P w H h)(e:H a=some (.dK kvs)):kvs.length<=sizeLine/\(a == sysModules)=false/\∃vs,KV kvs vs/\h.DictOf (dO P w) a vs:=Dw ok (.inl e)
theorem Fh{ks:List Key}(ok:o9 P w H h)(e:H a=some (.tup (ks.map kV))):(tupleKind (dO P w)).is h ks a:=by
 obtain⟨_,its,r,o,h1,h2,n,h3⟩:=(show bS P w H h a (.tup (ks.map kV)) from ok a _ e)
 exact⟨o,its.toArray,n,h1,h2,h3,by simpa using Z2 r⟩
theorem E1{kvs:List (List Key×V)}(ok:o9 P w H h)(e:Rd H a (.dT kvs)):kvs.length<=sizeLine/\(a == sysModules)=false/\
  ∃xs,KT H kvs xs/\h.DictOfH (tupleKind (dO P w)) a xs:=by
 obtain⟨z,y,xs,r,o,es,ep,h1,h2,h3,h4,h5⟩:=(show bS P w H h a (.dT kvs) from GK ok e)
 refine⟨z,y,xs,r,o,es,ep,h1,h2,h3,h4,λx hx=>?_,h5⟩;have all:∀{l:List (List Key×V)} {m:List (List Key×Addr×Value)},KT H l m->∀x∈m,(tupleKind (dO P w)).is h x.1 x.2.1:=by
  intro l m q;induction q with
  |nil=>intro x hx;exact nomatch hx
  |@cons p q ps qs hq t ih=>
   intro x hx;rcases lC.mp hx with e|hx
   ·subst e;exact Fh ok (by rw[<-hq.1];exact hq.2.1)
   ·exact ih x hx
 exact all r x hx
theorem X4{kvs:List (List Key×V)}(ok:o9 P w H h)(e:H a=some (.dT kvs)):kvs.length<=sizeLine/\(a == sysModules)=false/\
  ∃xs,KT H kvs xs/\h.DictOfH (tupleKind (dO P w)) a xs:=E1 ok (.inl e)
end
def kF(H:Hp)(a:Addr)(y:V)(r:Option V):Prop:=
 (∃kvs k,Rd H a (.dK kvs)/\y=kV k/\r=lH kvs k)\/∃kvs k b,Rd H a (.dT kvs)/\y=.ref b/\H b=some (.tup (k.map kV))/\r=lH kvs k
def uQ(H:Hp)(a:Addr)(y v:V)(H':Hp):Prop:=
 (∃kvs k,H a=some (.dK kvs)/\y=kV k/\kvs.length < sizeLine/\H'=upd H a (.dK (putK kvs k v)))\/
 ∃kvs k b,H a=some (.dT kvs)/\y=.ref b/\H b=some (.tup (k.map kV))/\kvs.length < sizeLine/\H'=upd H a (.dT (putK kvs k v))
theorem kF.k{H:Hp}{a:Addr}{kvs:List (Key×V)}{k:Key}(e:H a=some (.dK kvs)):kF H a (kV k) (lH kvs k):=.inl ⟨kvs,k,.inl e,rfl,rfl⟩
theorem kF.t{k:List Key}(e:H a=some (.dT kvs))(eb:H b=some (.tup (k.map kV))):kF H a (.ref b) (lH kvs k):=.inr ⟨kvs,k,b,.inl e,rfl,eb,rfl⟩
theorem uQ.k{H:Hp}{a:Addr}{kvs:List (Key×V)}{k:Key}{v:V}(e:H a=some (.dK kvs))(hl:kvs.length < sizeLine):uQ H a (kV k) v (upd H a (.dK (putK kvs k v))):=.inl ⟨kvs,k,e,rfl,hl,rfl⟩
theorem uQ.t{kvs:List (List Key×V)}{k:List Key}(e:H a=some (.dT kvs))(eb:H b=some (.tup (k.map kV)))(hl:kvs.length < sizeLine) :
  uQ H a (.ref b) v (upd H a (.dT (putK kvs k v))):=.inr ⟨kvs,k,b,e,rfl,eb,hl,rfl⟩
section
variable{X:Cx}{pins:ao}{σ:St}{H:Hp}{s:Shared}{a:Addr}{y v:V}{u r:Value}{o:Option V}{A:Around}{E:aj}
theorem Inv.big(I:Inv X pins σ H s):sysModules < s.heap.objs.size:=by
 have h:mainGlobals < s.heap.objs.size:=(I.mod.glob.keeps I.bk).lt;exact G4 (by decide) h
theorem aJM{Q:aj}(hu:A.units+1 < cLine)(I:Inv X pins σ H s)(g:kF H a y (some v))(ry:RelV y u)(h:∀w' s',Inv X pins σ H s'->RelV v w'->Q w' s') :
  wpAny (model X.prog X.w) A (getItem (.ref a) u) Q E s:=by
 rcases g with ⟨kvs,k,e,ey,l⟩|⟨kvs,k,b,e,ey,eb,l⟩
 ·subst ey;obtain⟨z,hd,vs,rel,dd⟩:=Dw I.bc e;obtain⟨w',hw,rb⟩:=rD.some_of (v:=v) (o:=valueAt vs k) (by rw[l];exact rel.val k);exact wpAny_getItem_of (E2 ry) dd.mapOf hw (h w' _ (I.tok _) rb)
 ·subst ey;cases (show u=Value.ref b from ry);obtain⟨z,hd,xs,rel,dd⟩:=E1 I.bc e;obtain⟨w',hw,rb⟩:=rD.some_of (v:=v) (o:=(atKey xs k).map (·.2)) (by rw[l];exact rel.val k);obtain⟨p,hp,Nf⟩:=kl.mp hw;refine wpAny_getItem_heap (tupleKind_room_in1 hu) (Fh I.bc eb) dd hp ?_;rw[Nf];exact h w' _ (I.tok _) rb
theorem aNk{Q:aj}(hu:A.units+1 < cLine)(I:Inv X pins σ H s)(g:kF H a y o)(ry:RelV y u)(h:∀s',Inv X pins σ H s'->Q (.bool (!o.isSome)) s') :
  wpAny (model X.prog X.w) A (compareOp .NotIn u (.ref a)) Q E s:=by
 rcases g with ⟨kvs,k,e,ey,l⟩|⟨kvs,k,b,e,ey,eb,l⟩
 ·subst ey;obtain⟨z,hd,vs,rel,dd⟩:=Dw I.bc e;refine wpAny_notIn_of (E2 ry) hd dd.mapOf ?_;rw[<-(rel.val k).Qo,<-l];exact h _ (I.tok _)
 ·subst ey;cases (show u=Value.ref b from ry);obtain⟨z,hd,xs,rel,dd⟩:=E1 I.bc e;refine wpAny_notIn_heap (tupleKind_room_in1 hu) (Fh I.bc eb) hd dd ?_;have q:=(rel.val k).Qo;rw[Option.isSome_map] at q;rw[<-q,<-l];exact h _ (I.tok _)
theorem KW{h':Heap}{t':Nat}(I:Inv X pins σ H s)(mu:Hj (H a))(hs:Heap.SameBut a s.heap h')(he:∃q,h'.get? a=some q)(new:bS X.prog X.w (upd H a ob) h' a ob) :
  Inv X pins σ (upd H a ob) { s with heap:=h',toks:=t' }:=
 I.write (x:=a) (e:=a) mu (.inl rfl) (λb q hb z=>(hs.2 b hb).trans z) he new
theorem YI{h':Heap}{kvs:List (Key×V)}(z:kvs.length<=sizeLine)(hd:(a == sysModules)=false)(rel:KV kvs vs)(dd:h'.DictOf (dO P w) a vs) :
  bS P w H' h' a (.dK kvs):=⟨z,hd,vs,rel,dd⟩
theorem aJN{H':Hp}{Q:Unit->Shared->Prop}(hu:A.units+1 < cLine)(I:Inv X pins σ H s)(g:uQ H a y v H')(ry:RelV y u)(rv:RelV v r)(h:∀s',Inv X pins σ H' s'->Q () s') :
  wpAny (model X.prog X.w) A (setItem (.ref a) u r) Q E s:=by
 rcases g with ⟨kvs,k,e,ey,l,eH⟩|⟨kvs,k,b,e,ey,eb,l,eH⟩
 ·subst ey eH;obtain⟨z,hd,vs,rel,dd⟩:=O6 I.bc e;have hz:vs.length<=sizeLine:=by rw[<-rel.length];exact z
  have hl:(putK kvs k v).length<=sizeLine:=by have:=m5 kvs k v;lia
  refine wpAny_setItem_pairs (hsz:=hz) (E2 ry) dd λh' Bb hs=>h _ ?_;have he:∃q,h'.get? a=some q:=let ⟨q,_,_,hq,_⟩:=Bb;⟨q,hq⟩
  exact KW I (by rw[e];exact True.intro) hs he (YI hl hd (rel.put k rv) Bb)
 ·subst ey eH;cases (show u=Value.ref b from ry);obtain⟨z,hd,xs,rel,dd⟩:=X4 I.bc e;have hz:xs.length<=sizeLine:=by rw[<-Paired.length rel];exact z
  have hl:(putK kvs k v).length<=sizeLine:=by have:=m5 kvs k v;lia
  refine wpAny_setItem_heap (hsz:=hz) (tupleKind_room_in1 hu) (Fh I.bc eb) dd λh' Bb hs=>h _ ?_;obtain⟨q,es,ep,hq,h2,h3,h4,_,h5⟩:=Bb;refine KW I (by rw[e];exact True.intro) hs ⟨q,hq⟩ ⟨hl,hd,_,(rel.put k eb rv).keeps λc ys ec=>?_,q,es,ep,hq,h2,h3,h4,h5⟩;rw[aT (X8 ec e (λz=>nomatch z))];exact ec
end
def OC(i:Expr):Prop:=∀ov iv,subscripted i false ov iv=operate [ov,iv] (getItem ov iv)
theorem aNl{prog:Program}{w:World}{A:Around}{E:aj}{s:Shared}{env:Env}{value slice:Expr}{pos:Pos}{T id:String}{Q:aj}
  (hl:typeLookup (.type T) "__getitem__" = pure (some (.builtin id))) (hs:OC slice)
  (h:wpAny (model prog w) A (eval value env) (λo az=>wpAny (model prog w) A (eval slice env) (λi mx=>mx.TypeIs o T/\wpAny (model prog w) A (getItem o i) Q E mx) E az) E s) :
  wpAny (model prog w) A (eval (.Subscript value slice pos) env) Q E s:=by
 refine Subscript_ (sy h (λo az de=>sy de (λi mx zo=>?_) λ_ _ x=>x) λ_ _ x=>x);obtain⟨hT,zo⟩:=zo;unfold subscriptTail;refine bG ?_;rw[getitemInPython_of_ne hT.not_modules];refine bG (wpAny_specialOf hT hl ?_);have fin:wpAny (model prog w) A (subscripted slice false o i) (λr jg=>wpAny (model prog w) A (letTemporaryGo value o r >>= λ_=>pure r) Q E jg) E mx:=by
  rw[hs o i];exact wpAny_operating (sy zo (λr jg By=>bG (wpAny_letTemporaryGo (cM By))) λ_ _ x=>x)
 first
  |exact cM (bG fin)
  |exact bG (cM (bG fin))
  |exact bG fin
theorem aGn{s:Shared}(I:Inv X pins σ H s)(g:kF H a y o):s.TypeIs (.ref a) "dict":=by
 rcases g with ⟨kvs,k,e,_,_⟩|⟨kvs,k,b,e,_,_,_⟩
 ·obtain⟨_,_,vs,_,dd⟩:=Dw I.bc e;exact dd.typeIs
 ·obtain⟨_,_,xs,_,dd⟩:=E1 I.bc e;exact dd.typeIs
def O5(td ty:TE):TE:=λσ H Q=>td σ H λx H1=>ty σ H1 λy H2=>∃a v,x=.ref a/\kF H2 a y (some v)/\Q v H2
def O4(td ty tv:TE):TS:=λD σ H=>tv σ H λv H1=>td σ H1 λx H2=>ty σ H2 λy H3=>∃a H4,x=.ref a/\uQ H3 a y v H4/\D.nx σ H4
section
variable{X:Cx}{o i e value:Expr}{pos pos' DT:Pos}{td ty tv:TE}
theorem aNm(hu:X.A.units+1 < cLine)(ho:PE X o td)(hi:PE X i ty)(hs:OC i):PE X (.Subscript o i pos) (O5 td ty):=by
 intro pins s σ H Q I h;refine aNl PySem.F.slot_dict_getitem.lookup hs (dC (ho pins s σ H _ I h) λu s1 ⟨x,H1,I1,rx,q1⟩=>dC (hi pins s1 σ H1 _ I1 q1) λiv s2 zq=>?_);obtain⟨y,H2,I2,ry,a,v,ex,g,q2⟩:=zq;subst ex;obtain rfl:u=Value.ref a:=rx;exact⟨aGn I2 g,aJM hu I2 g ry λw' s3 I3 rb=>⟨v,H2,I3,rb,q2⟩⟩
theorem aNn(hu:X.A.units+1 < cLine)(ho:PE X o td)(hi:PE X i ty)(hv:PE X value tv)(hs:swapsWith value (some (.Subscript o i pos')) pos.line X.env=pure false) :
  PS X (.Assign [.Subscript o i pos'] value pos) (O4 td ty tv):=by
 intro pins s σ H D I h;refine wpAny_Assign_Subscript (dC (hv pins s σ H _ I h) λr s1 ⟨v,H1,I1,rv,q1⟩=>dC (ho pins s1 σ H1 _ I1 q1) λu s2 ⟨x,H2,I2,rx,q2⟩=>dC (hi pins s2 σ H2 _ I2 q2) λiv s3 zq=>?_) hs;obtain⟨y,H3,I3,ry,a,H4,ex,g,q3⟩:=zq;subst ex;obtain rfl:u=Value.ref a:=rx;exact aJN hu I3 g ry rv λs4 I4=>⟨σ,H4,I4,q3⟩
end
theorem ZD(h:Heap)(hb:sysModules < h.objs.size):bS P w H (h.push { cls:=.type "dict",data:=.dict #[] }) h.objs.size (.dK []):=
 ⟨ko _,beq_eq_false_iff_ne.mpr (Ne.symm (oH hb)),[],.nil,Heap.DictOf.new h⟩
theorem ZC(h:Heap)(hb:sysModules < h.objs.size):bS P w H (h.push { cls:=.type "dict",data:=.dict #[] }) h.objs.size (.dT []):=
 ⟨ko _,beq_eq_false_iff_ne.mpr (Ne.symm (oH hb)),[],.nil,_,#[],0,lA _ rfl,⟨rfl,rfl,rfl⟩,rfl,rfl,List.nodup_nil⟩
def aPP:TE:=λ_ H Q=>∀p,H p=none->Q (.ref p) (upd H p (.dK []))
def aPQ:TE:=λ_ H Q=>∀p,H p=none->Q (.ref p) (upd H p (.dT []))
section
variable{X:Cx}{pos:Pos}
theorem aLa:PE X (.Dict [] [] pos) aPP:=λpins s σ H Q I h=>
 wpAny_Dict_empty ⟨.ref s.heap.objs.size,_,I.laid (a:=s.heap.objs.size) (o:=.dK []) (t':=s.toks) (λ_ _ q=>eG _ q) (dQ _) (ZD s.heap I.big),rfl,h _ (I.bc.fresh (dQ _))⟩
theorem aLb:PE X (.Dict [] [] pos) aPQ:=λpins s σ H Q I h=>
 wpAny_Dict_empty ⟨.ref s.heap.objs.size,_,I.laid (a:=s.heap.objs.size) (o:=.dT []) (t':=s.toks) (λ_ _ q=>eG _ q) (dQ _) (ZC s.heap I.big),rfl,h _ (I.bc.fresh (dQ _))⟩
end
structure M1(X:Cx)(o:Expr)(m:Str)(apos:Pos)(e:Expr)(bf:Pos):Prop where
 base:attributeBase o m X.env (eval o X.env)=eval o X.env
 rL:((backTo bf (starEach [e] X.env)).all (λx=>!x.1) && (backToKw bf (keywordEach [] X.env)).all (λx=>x.1.isSome)
  && decide (([e]:List Expr).length+([]:List Keyword).length+(if ([]:List Keyword).isEmpty then 0 else 1) < 30))=true
 line:(apos.endLine == bf.line)=true
 trees:backTo bf (starEach [e] X.env)=[(false,eval e X.env)]
structure M2(X:Cx)(o:Expr)(m:Str)(apos:Pos)(e f:Expr)(bf:Pos):Prop where
 base:attributeBase o m X.env (eval o X.env)=eval o X.env
 rL:((backTo bf (starEach [e,f] X.env)).all (λx=>!x.1) && (backToKw bf (keywordEach [] X.env)).all (λx=>x.1.isSome)
  && decide (([e,f]:List Expr).length+([]:List Keyword).length+(if ([]:List Keyword).isEmpty then 0 else 1) < 30))=true
 line:(apos.endLine == bf.line)=true
 trees:backTo bf (starEach [e,f] X.env)=[(false,eval e X.env),(false,eval f X.env)]
def DR(H:Hp)(a:Addr):Prop:=(∃kvs,Rd H a (.dK kvs))\/∃kvs,Rd H a (.dT kvs)
theorem aPR{s:Shared}(I:Inv X pins σ H s)(d:DR H a) :
  s.TypeIs (.ref a) "dict"/\(∀b,Value.ref a=.ref b->∃ob,s.heap.get? b=some ob/\ob.dict=none)/\(a == sysModules)=false:=by
 rcases d with ⟨kvs,e⟩|⟨kvs,e⟩
 ·obtain⟨_,hd,vs,_,dd⟩:=Dw I.bc e;refine⟨dd.typeIs,λb q=>?_,hd⟩;cases q;obtain⟨ob,_,_,h1,h2,_⟩:=dd;exact⟨ob,h1,h2.2.1⟩
 ·obtain⟨_,hd,xs,_,dd⟩:=E1 I.bc e;refine⟨dd.typeIs,λb q=>?_,hd⟩;cases q;obtain⟨ob,_,_,h1,h2,_⟩:=dd;exact⟨ob,h1,h2.2.1⟩
section
variable{X:Cx}{pins:ao}{σ:St}{H:Hp}{s:Shared}{a:Addr}{y d:V}{u r:Value}{o:Option V}{A:Around}{E:aj}
theorem aPS{Q:aj}(hu:A.units+1 < cLine)(I:Inv X pins σ H s)(g:kF H a y o)(ry:RelV y u)(rd:RelV d r)(h:∀w' s',Inv X pins σ H s'->RelV (o.getD d) w'->Q w' s') :
  wpAny (model X.prog X.w) A (call (.builtin "dict.get") [.ref a,u,r]) Q E s:=by
 rcases g with ⟨kvs,k,e,ey,l⟩|⟨kvs,k,b,e,ey,eb,l⟩
 ·subst ey;obtain⟨z,hd,vs,rel,dd⟩:=Dw I.bc e;refine call_meetsIn PySem.F.slot_dict_get dd.typeIs PySem.F.entry_dict_get (PySem.F.args_dict_get_3 _ _ _) (meets_dict_get_default (dO X.prog X.w) a (E2 ry) hd r) ⟨_,dd.mapOf,h _ _ (I.tok _) ?_⟩;rw[l];exact(rel.val k).getD rd
 ·subst ey;cases (show u=Value.ref b from ry);obtain⟨z,hd,xs,rel,dd⟩:=E1 I.bc e;refine call_meetsIn PySem.F.slot_dict_get dd.typeIs PySem.F.entry_dict_get (PySem.F.args_dict_get_3 _ _ _) (meetsH_dict_get_default (tupleKind (dO X.prog X.w)) a b hd r) ⟨tupleKind_room_in1 hu,k,xs,Fh I.bc eb,dd,h _ _ (I.tok _) ?_⟩;rw[l];exact(rel.val k).getD rd
end
def Pw(td ty tx:TE):TE:=λσ H Q=>td σ H λx H1=>∃a,x=.ref a/\DR H1 a/\ty σ H1 λy H2=>tx σ H2 λz H3=>∃o,kF H3 a y o/\Q (o.getD z) H3
section
variable{X:Cx}{o e f:Expr}{apos bf:Pos}{td ty tx:TE}
theorem aLc(hu:X.A.units+1 < cLine)(ho:PE X o td)(he:PE X e ty)(hf:PE X f tx)(m:M2 X o "get" apos e f bf):PE X (.Call (.Attribute o "get" apos) [e,f] [] bf) (Pw td ty tx):=by
 intro pins s σ H Q I h;refine wpAny_Call_method m.base m.rL m.line PySem.F.plainAttrs_dict PySem.F.slot_dict_get PySem.F.type_dict_get (dC (ho pins s σ H _ I h) λu s1 zq=>?_);obtain⟨x,H1,I1,rx,a,ex,d,q1⟩:=zq;subst ex;obtain rfl:u=Value.ref a:=rx;obtain⟨t1,t2,_⟩:=aPR I1 d;refine⟨t1,t2,?_⟩;rw[m.trees];refine Calls.callWith_builtin rfl (Calls.evalArgs_plain (Calls.spliced_cons (dC (he pins s1 σ H1 _ I1 q1) λiv s2 ⟨y,H2,I2,ry,q2⟩=>
  Calls.spliced_cons (dC (hf pins s2 σ H2 _ I2 q2) λfv s3 ⟨z,H3,I3,rz,ov,g,q3⟩=>Calls.spliced_nil ?_))))
 exact aPS hu I3 g ry rz λw' s4 I4 rb=>⟨_,H3,I4,rb,q3⟩
end
end L2
namespace Att
open PySem PySem.W PySem.Calls PyProof.Rows
theorem aBB:∀(ns:ae) (vs:ah),WellAll P h vs (ns.map WData.int)->IntsAre vs ns:=by
 intro ns;induction ns with
 |nil=>
  intro vs w;rw[vb] at w;cases w;exact .nil
 |cons n ns ih=>
  intro vs w;rw[uY] at w;cases w with
  |cons a b=>
   cases a;exact .cons _ _ (ih _ b)
theorem aJO{l:OpenLaw}{n:Nat}(hn:l.most=some n){h:Heap}(sf:l.row.toRowW.claim.pre args=true)(MX:WellAll P h vals args) :
  ∃a vs ns,vals=[Value.ref a]/\args=[WData.list (ns.map WData.int)]/\h.get? a=some { cls:=.type "list",data:=.seq vs.toArray }/\IntsAre vs ns/\ns.length<=n:=by
 have hsh:WShape.hasAll [] args [.list .int]=true:=(pre_splitW sf).1;have hc:l.pre.holds [] { args:=args } = true:=(pre_splitW sf).2;obtain⟨d,r,rfl,h1,h2⟩:=hasAllW_cons hsh;obtain rfl:=hasAllW_nil h2;obtain⟨xs,rfl,h3⟩:=hasW_list h1;obtain⟨ns,rfl⟩:=items_int h3;have hlen:ns.length<=n:=by
  unfold OpenLaw.pre at hc;have h4:(WTm.not (.lt (.lit (.int (n:Int))) (.len (.arg 0)))).holds [] { args:=[.list (ns.map .int)] } = true:=by
   have h4:=(holds_andW hc).1;rw[hn] at h4;exact h4
  have h5:=condW_of h4 (w_not (w_lt w_lit (w_len_list (w_arg rfl))));rw[bX] at h5;refine Nat.le_of_not_lt λq=>?_;have q':(n:Int) < ((ns.length:Nat):Int):=by lia
  first
   |(rw[mi q'] at h5;exact absurd h5 (by decide))
   |(simp at h5;lia)
 cases MX with
 |cons w1 w2=>
  cases w2;cases w1 with
  |list ho fm=>exact⟨_,_,ns,rfl,rfl,ho,aBB ns _ fm,hlen⟩
theorem aJP(l:OpenLaw)(args:List WData):l.row.toRowW.claim.post args (.bool true) args=true:=
 postW_of (r:=l.row.toRowW) (X:=(true == true))
  (show WShape.has [] (.bool true) .bool=true by first|rfl|decide|simp[WShape.has,WShape.arms,WShape.armsAll])
  (show(WTm.eq .res (.lit (.bool true))).value [] { args:=args,res:=some (.bool true),after:=args } = some (.bool (true == true)) from w_eq_bool (w_res rfl) w_lit) rfl
theorem aGq{l:OpenLaw}{n:Nat}{XP:(Str->ay)->Heap->Prop}{YP:World->Heap->Prop}{d:DefRec}(hn:l.most=some n)(Gh:d.params.defaults=[])(call:∀(w:World) (cq az:Shared) (mg mb:Str->ay) (fa:Addr) (o:Obj) (pm cd doc:Value) (a:Addr) (vs:ah) (ns:ae),
   Ground q loose [] XP w cq mg mb az.heap->YP w az.heap->
   az.heap.get? fa=some o->o.data=.func (docDef d.name d.params d.body d.scope pm cd doc)->az.heap.CodeRec cd d.name->mg d.name=some (.ref fa)->
   az.heap.get? a=some { cls:=.type "list",data:=.seq vs.toArray }->IntsAre vs ns->ns.length<=n->az.gens = #[]->
   codeAny (model l.prog w) callerA (.call (.ref fa) ⟨[.ref a],[]⟩) (λr s'=>r=.ok (.ret (.bool true))/\OldK az.heap s'.heap/\s'.os=az.os/\AllBare s'.gens) az) :
  WalkO q loose XP YP l.row.toRowW d [] (λf vs=>PySem.call f vs):=by
 intro w cq az mg mb G Y fa o pm cd doc dV kV ho hd mv hD Gb hg args vals as sf a0k hrd MX hlo;obtain rfl:dV=.none:=Dflts.none hD Gh;obtain rfl:kV=.none:=Dflts.noKw hD;obtain⟨a,vs,ns,rfl,rfl,D0,hints,hlen⟩:=aJO hn sf MX;refine enter_call (codeAny_mono (call w cq az mg mb fa o pm cd doc a vs ns G Y ho (fd_plain hd) mv Gb D0 hints hlen hg) λr s' hq=>?_);obtain⟨rfl,h2,h3,h4⟩:=hq;exact⟨.inl ⟨.bool true,.bool true,[],rfl,λ_=>rfl,.bool true,aJP l _,λ_=>⟨List.Pairwise.nil,λ_ hm=>(nomatch hm)⟩⟩,h2,h3,h4⟩
end Att
namespace L2
open PySem PySem.Spec PyProof.Rows
theorem Qn:∀{vs:ah}{ns:ae},IntsAre vs ns->Vals (ns.map V.int) vs
 |_,_,.nil=>.nil
 |_,_,.cons n t h=>.cons ⟨t,rfl⟩ (Qn h)
def Xx(H:Hp):Prop:=∀b,H b=none\/∃o xs,H b=some (.bu o (.lst xs))
theorem aRg{K:PySem.W.Frag}{mg mb:Str->ay}{CX:vi}{k:Nat}{sp:Sp}{az:Shared}{vs:ah}{ns:ae}(KX:K.In az.heap)(A0:az.heap.Ns mainGlobals mg)(hb:az.heap.Ns builtinsNs mb)(Au:∀x:Str,x≠"__name__"->mb x=bootBuiltins x)(D1:az.heap.NoLimit)(Nz:∃bm o,mg "__builtins__" = some (.ref bm)/\bm≠builtinsNs/\az.heap.get? bm=some o/\o.cls=.type "module"/\o.dict=some builtinsNs/\o.data=.plain)(hg:az.gens = #[])(ha:az.heap.get? a=some { cls:=.type "list",data:=.seq vs.toArray })(hi:IntsAre vs ns)(hl:ns.length<=sizeLine)(hr:eK k callerA)(F:∀base:Heap,K.In base->base.Ns mainGlobals mg->bT P w K mg base CX k fa fd [x] sp)(mz:∀(s:Shared) (u:Value),BindsTo s fd ⟨[u],[]⟩ [(x,u)])(je:∀H:Hp,Xx H->bR K H a (ns.map V.int)->sp [.ref a] H (λv _=>v=.bl true) λ_ _ _=>False)(hCX:∀H e s',CX [] H az (λ_ _ _=>False) e s'->False) :
  codeAny (model P w) callerA (.call (.ref fa) ⟨[.ref a],[]⟩) (λr s'=>r=.ok (.ret (.bool true))/\OldK az.heap s'.heap/\s'.os=az.os/\AllBare s'.gens) az:=by
 have rv:=Qn hi;have zl:=hi.length;have core:∀H:Hp,Xx H->bR K H a (ns.map V.int)->o9 P w H az.heap->(∀b,H b≠none->b=a)->(H a≠none->K.lookup a=none)->
   codeAny (model P w) callerA (.call (.ref fa) ⟨[.ref a],[]⟩) (λr s'=>r=.ok (.ret (.bool true))/\OldK az.heap s'.heap/\s'.os=az.os/\AllBare s'.gens) az:=by
  intro H hO hS bc hA hK;have fe:∀{b:Addr} {o:Obj},az.heap.get? b=some o->H b=none->(uN az.heap H).get? b=some o:=λe n=>ZI e n;have yj:∀{b:Addr} {o:Obj} {es:Array DictEntry} {ep:Nat},az.heap.get? b=some o->o.data=.dict es ep->H b=none:=λ{b o es ep} e d=>by
   cases q:H b with
   |none=>rfl
   |some u=>
    have e':b=a:=hA b (by rw[q];simp);subst e';rw[ha] at e;cases e;have d':Data.seq vs.toArray _=Data.dict es ep:=d;cases d'
  have AX:∀{b:Addr} {m:Str->ay},az.heap.Ns b m->(uN az.heap H).Ns b m:=λ{b m} ⟨o,es,ep,e,d,r⟩=>⟨o,es,ep,fe e (yj e d),d,r⟩
  have Gm:K.In (uN az.heap H):=λb o e=>fe (KX b o e) (by
   cases q:H b with
   |none=>rfl
   |some u=>
    have e':b=a:=hA b (by rw[q];simp);subst e';rw[hK (by rw[q];simp)] at e;cases e)
  have D6:∃bm o,mg "__builtins__" = some (.ref bm)/\bm≠builtinsNs/\(uN az.heap H).get? bm=some o/\o.cls=.type "module"/\o.dict=some builtinsNs/\o.data=.plain:=by
   obtain⟨bm,ob,b1,b2,b3,b4,b5,b6⟩:=Nz;refine⟨bm,ob,b1,b2,fe b3 ?_,b4,b5,b6⟩;cases q:H bm with
   |none=>rfl
   |some u=>
    have e':bm=a:=hA bm (by rw[q];simp);rw[e',ha] at b3;cases b3;exact absurd (show Value.type "list" = Value.type "module" from b4) (by decide)
  have hM:Mod K mg (uN az.heap H):=⟨Gm,AX A0,⟨mb,AX hb,Au⟩,(let ⟨mc,h1,h2⟩:=D1;⟨mc,AX h1,h2⟩),D6⟩
  have e0:AF P w K mg (uN az.heap H) callerA [] az H:=⟨rfl,hM,λb o e=>Za e,G5 (aEk _ _),trivial,λb hb=>absurd (show b∈([]:au) from hb) (by simp),bc,.of_eq hg⟩
  refine codeAny_mono ((F _ Gm (AX A0)).run callerA [] az H ⟨[.ref a],[]⟩ [.ref a] [.ref a] _ _ hr e0 (mz az (.ref a)) (.cons rfl .nil) (je H hO hS)) λr s' h=>?_;cases r with
  |error e=>exact(hCX H e s' h).elim
  |ok fl=>
   cases fl with
   |next=>exact False.elim h
   |brk=>exact False.elim h
   |cont=>exact False.elim h
   |ret u=>
    obtain⟨v,H',os,bare,un,BB,r',q⟩:=h;have q':v=.bl true:=q;subst q';obtain rfl:u=Value.bool true:=r';refine⟨rfl,OldK.of_keep λb o e=>?_,os,bare⟩;cases q:H b with
    |none=>exact un.keep b o e q (by intro z;exact absurd (show b∈([]:au) from z) (by simp)) (by simp)
    |some u=>
     rcases hO b with z|⟨ob,xs,z⟩
     ·rw[q] at z;cases z
     ·have z2:=un.dm b ob _ z;obtain⟨e1,_⟩:=bc b _ z;obtain⟨e2,_⟩:=BB b _ z2;rw[e] at e1;cases e1;exact e2
 cases hk:K.lookup a with
 |some o=>
  have e:=KX a o hk;rw[ha] at e;cases e;refine core (λ_=>none) (λ_=>.inl rfl) (.inr ⟨_,vs.toArray,_,hk,rfl,rfl,rfl,by rw[iR,zl];exact hl,by simpa using rv⟩) (λb u z=>by have z':(none:Option HO)=some u:=z;cases z') (λb z=>absurd rfl z) λz=>absurd rfl z
 |none=>
  refine core (λb=>if b=a then some (.bu { cls:=.type "list",data:=.seq vs.toArray } (.lst (ns.map V.int))) else none) (λb=>?_) (.inl (.inr ⟨{ cls:=.type "list",data:=.seq vs.toArray },cO rfl⟩)) (λb u z=>?_) (λb z=>?_) λ_=>hk
  ·by_cases hb:b=a
   ·exact .inr ⟨_,_,cO hb⟩
   ·exact .inl (bZ hb)
  ·by_cases hb:b=a
   ·have z':=(cO hb).symm.trans z;cases z';subst hb;exact⟨ha,by rw[bX];exact hl,vs,_,rv,ha⟩
   ·have z':=(bZ hb).symm.trans z;cases z'
  ·by_cases hb:b=a
   ·exact hb
   ·exact absurd (bZ hb) z
def inClass(s:Stmt)(j:Nat):Stmt:=match s with
 |.ClassDef _ _ _ body _ _ _ _ _ _ _=>body.getD j (.Pass ⟨0,0,0,0⟩)
 |_=>.Pass ⟨0,0,0,0⟩
def m6(s:Stmt):Arguments:=match s with
 |.FunctionDef _ a _ _ _ _ _ _ _ _=>a
 |_=>{ posonlyargs:=[],args:=[],vararg:=none,kwonlyargs:=[],kw_defaults:=[],kwarg:=none,defaults:=[] }
def jY(s:Stmt):List Stmt:=match s with
 |.FunctionDef _ _ b _ _ _ _ _ _ _=>b
 |_=>[]
def aL(s:Stmt):Scope:=match s with
 |.FunctionDef _ _ _ _ _ _ sc _ _ _=>sc
 |_=>{ kind:=.function,names:=[],isGenerator:=false,isCoroutine:=false }
abbrev eY:vi:=λ_ _ _ _ _ _=>False
abbrev E0:XK:=λ_ _ _=>False
theorem aW:Passes eY X E0:=λ_ _ _ _ _ _ _ h=>h.elim
structure Bs(K:W.Frag)(x qual:Str)(st:Stmt)(f:Addr)(fd:FuncData):Prop where
 ex:∃(oc:Value) (od:Option Addr) (kV doc pm:Value) (an:Option Addr) (bj ct:Value) (xi:Array (ay)),
  fd=W.fnOf x qual (m6 st) (jY st) (aL st) .none kV doc pm an bj ct/\K.lookup f=some ⟨oc,od,.func fd,xi⟩/\W.codeIn K bj qual=true
 kp:W.keepIn K (.ref f)=true
structure FB(K:W.Frag)(x q:Str)(st:Stmt)(f:Addr)(d:FuncData)(ps:ak):Prop where
 F:Bs K x q st f d
 b:Binds K d ps []
structure FG(K:W.Frag)(mg:Str->ay)(x:Str)(st:Stmt)(f:Addr)(d:FuncData)(ps:ak):Prop where
 F:Bs K x x st f d
 b:Binds K d ps []
 g:mg x=some (.ref f)
section
variable{P:Program}{w:World}{K:W.Frag}{mg:Str->ay}{base:Heap}
theorem Bs.ok{x qual:Str}{st:Stmt}{f:Addr}{fd:FuncData}{N ps:ak}{k:Nat}{sp:Sp}(F:Bs K x qual st f fd)(S:aX N ps (aL st))(len:∀vs H Q E,sp vs H Q E->vs.length=ps.length)
  (fq:∀(bj:Value) (A:Around) (outer:List Env) (s:Shared) (H:Hp) (vs:List V) (Q:VK) (E:XK),eK k (A.deeper (envOfC qual (aL st) s.heap.objs.size f bj))->sp vs H Q E->
   ∃t,tf (Du eY P w K mg base N qual (aL st) f bj A outer s H E).Eo (jY st) t/\t { nx:=λ_ H'=>Q .bt H',rt:=Q } (start N vs) H):bT P w K mg base eY (k+1) f fd ps sp:=by
 obtain⟨oc,od,kV,doc,pm,an,bj,ct,xi,rfl,lk,mv⟩:=F.ex;refine X6 lk mv S len λA outer s H vs Q E hr je=>?_;obtain⟨t,h,q⟩:=fq bj A outer s H vs Q E hr je;exact⟨t,h.Eo,q⟩
theorem Bs.binds{x qual:Str}{st:Stmt}{f:Addr}{fd:FuncData}{ps:ak}(F:Bs K x qual st f fd)
  (h:∀(kV doc pm:Value) (an:Option Addr) (bj ct:Value) (us:ah),us.length=ps.length->bindArgs (W.fnOf x qual (m6 st) (jY st) (aL st) .none kV doc pm an bj ct) ⟨us,[]⟩=pure (ps.zip us)):Binds K fd ps []:=by
 obtain⟨oc,od,kV,doc,pm,an,bj,ct,xi,rfl,lk,mv⟩:=F.ex;exact .all (h kV doc pm an bj ct)
theorem Yw{x qual:Str}{st:Stmt}{f:Addr}{oc:Value}{od an:Option Addr}{xi:Array (ay)}{kV doc pm bj ct:Value}(l:K.lookup f=some ⟨oc,od,.func (W.fnOf x qual (m6 st) (jY st) (aL st) .none kV doc pm an bj ct),xi⟩)
  (c:W.codeIn K bj qual=true) (k:W.keepIn K (.ref f)=true):Bs K x qual st f (W.fnOf x qual (m6 st) (jY st) (aL st) .none kV doc pm an bj ct):=⟨⟨oc,od,kV,doc,pm,an,bj,ct,xi,rfl,l,c⟩,k⟩
end
theorem Kh{A B:Prop}(h:B):if false=true then A else B:=by
 rw[bZ xI];exact h
theorem Kg{A B:Prop}(h:A):if true=true then A else B:=by
 rw[cO rfl];exact h
def aO(H H':Hp):Prop:=∀b o,H b=some o->H' b=some o
theorem aO.refl(H:Hp):aO H H:=λ_ _ h=>h
theorem aO.trans(a:aO H H1)(b:aO H1 H2):aO H H2:=λc o h=>b c o (a c o h)
theorem aO.free(e:aO H H')(h:H' l=Option.none):H l=Option.none:=by
 cases q:H l with
 |none=>rfl
 |some o=>
  rw[e l o q] at h;cases h
theorem aO.seq{K:W.Frag}{H H':Hp}{a:Addr}{xs:List V}(e:aO H H')(h:bR K H a xs):bR K H' a xs:=by
 rcases h with (h|⟨o,h⟩)|h
 ·exact .inl (.inl (e _ _ h))
 ·exact .inl (.inr ⟨o,e _ _ h⟩)
 ·exact .inr h
section
variable{prog:Program}{w:World}{A:Around}{R:Result->Shared->Prop}{s:Shared}
theorem aGr(I:Nat->Shared->Prop)(turn:∀n s,I n s->wpAny (model prog w) A (pyNext it) (λr az=>match r with
   |none=>R (.ok .next) az
   |some v=>wpAny (model prog w) A (letOwnedTupleGo target it v) (λ_ CF=>wpAny (model prog w) A (assign target env v) (λ_ mx=>
     wpAny (model prog w) A (forIn ifs true λc r=>if r=true then do let ok <-isTrue c env (eval c env);pure (ForInStep.yield ok) else pure (ForInStep.yield r)) (λok jg=>
      if ok=true then wpAny (model prog w) A (eval elt env) (λx Bt=>
       wpAny (model prog w) A (call (.builtin "list.append") [acc,x]) (λ_ Hm=>∃m,m < n/\I m Hm) (notedBy (model prog w) A env λe s'=>R (.error e) s') Bt) (notedBy (model prog w) A env λe s'=>R (.error e) s') jg
      else ∃m,m < n/\I m jg) (notedBy (model prog w) A env λe s'=>R (.error e) s') mx) (notedBy (model prog w) A env λe s'=>R (.error e) s') CF) (notedBy (model prog w) A env λe s'=>R (.error e) s') az)
   (notedBy (model prog w) A env λe s'=>R (.error e) s') s) (n:Nat) (h:I n s) :
  codeAny (model prog w) A (.compLoop (.ListComp elt [⟨target,iter,ifs,0⟩] scope pos) 0 it acc env) R s:=by
 refine codeAny_loop rfl I (λn s hI=>?_) n h;show wpAny _ A ((compTurn (.ListComp elt [⟨target,iter,ifs,0⟩] scope pos) 0 it acc env).onRaise (λx=>do noteFrame x env;theTreesLotGoes x)) _ _ s;refine wpAny_noted ?_;rw[compTurn_list];refine bG (wpAny_standAt (bG (sy (turn n s hI) (λr az de=>?_) λ_ _ h'=>h')));cases r with
 |none=>exact cM de
 |some v=>
  refine bG (sy de (λ_ CF Iz=>?_) λ_ _ h'=>h');refine bG (sy Iz (λ_ mx zo=>bG (sy zo (λok jg By=>?_) λ_ _ h'=>h')) λ_ _ h'=>h');cases ok with
  |false=>exact cM ⟨rfl,By⟩
  |true=>
   exact bG (bG (sy By (λx Bt Tj=>bG (sy Tj (λ_ Hm Ti=>cM (cM ⟨rfl,Ti⟩)) λ_ _ h'=>h')) λ_ _ h'=>h'))
end
def kG(env:Env):List (Str×NameKind)->List (Str×Addr)->List (Str×Addr)
 |[],cs=>cs
 |(n,k)::r,cs=>kG env r (if (k == NameKind.free)=true then (n,(env.cells.lookup n).getD 0)::cs else cs)
theorem wN{scope:Scope}{env:Env}(h:∀x∈scope.names,x.2=.free->∃c,env.cells.lookup x.1=some c):closureFor scope env=pure (kG env scope.names []):=by
 simp only[closureFor];generalize ([]:List (Str×Addr))=cs;revert h cs;generalize scope.names=names;intro h;induction names with
 |nil=>intro cs;rfl
 |cons x r ih=>
  intro cs;obtain⟨n,k⟩:=x;have ih:=ih λy hy=>h y (ki _ hy);rw[List.forIn_cons];by_cases hk:k=.free
  ·subst hk;obtain⟨c,hc⟩:=h (n,.free) oj rfl;have B4:env.cells.lookup n=some c:=hc;have e:kG env ((n,NameKind.free)::r) cs=kG env r ((n,c)::cs):=by
    show kG env r (if (NameKind.free == NameKind.free)=true then (n,(env.cells.lookup n).getD 0)::cs else cs)=_;rw[B4];rfl
   rw[e,<-ih];simp only[cellOf,B4,beq_self_eq_true,if_true];rfl
  ·have hb:(k == NameKind.free)=false:=by simpa using hk
   have e:kG env ((n,k)::r) cs=kG env r cs:=by
    show kG env r (if (k == NameKind.free)=true then (n,(env.cells.lookup n).getD 0)::cs else cs)=_;rw[hb];rfl
   rw[e,<-ih];simp only[hb,AN,if_false];rfl
theorem xQ{env:Env}:∀(names:List (Str×NameKind)) (cs:List (Str×Addr)),(∀y∈names,y.2=.free->∃c,env.cells.lookup y.1=some c)->(x,c)∈kG env names cs->(x,c)∈cs\/env.cells.lookup x=some c
 |[],cs,_,h=>.inl h
 |(n,k)::r,cs,hf,h=>by
  have h':(x,c)∈kG env r (if (k == NameKind.free)=true then (n,(env.cells.lookup n).getD 0)::cs else cs):=h;rcases xQ r _ (λy hy=>hf y (ki _ hy)) h' with q|q
  ·by_cases hk:(k == NameKind.free)=true
   ·rw[cO hk] at q;rcases lC.mp q with e|q
    ·cases e;obtain⟨c,hc⟩:=hf (x,k) oj (by simpa using hk);have B4:env.cells.lookup x=some c:=hc;rw[B4];exact .inr rfl
    ·exact .inl q
   ·rw[bZ hk] at q;exact .inl q
  ·exact .inr q
theorem Zz:∀(names:List (Str×NameKind)) (cs:List (Str×Addr)),p∈cs->p∈kG env names cs
 |[],_,h=>h
 |(n,k)::r,cs,h=>by
  show p∈kG env r (if (k == NameKind.free)=true then (n,(env.cells.lookup n).getD 0)::cs else cs);refine Zz r _ ?_;split
  ·exact ki _ h
  ·exact h
theorem Zy{env:Env}:∀(names:List (Str×NameKind)) (cs:List (Str×Addr)),(x,NameKind.free)∈names->env.cells.lookup x=some c->(x,c)∈kG env names cs
 |[],_,h,_=>by cases h
 |(n,k)::r,cs,h,hc=>by
  show(x,c)∈kG env r (if (k == NameKind.free)=true then (n,(env.cells.lookup n).getD 0)::cs else cs);rcases lC.mp h with e|h
  ·cases e;refine Zz r _ ?_;rw[cO (by simp),hc];exact oj
  ·exact Zy r _ h hc
theorem uZ:∀{l:List (Str×Addr)},(x,c)∈l->(∀d,(x,d)∈l->d=c)->l.lookup x=some c
 |[],h,_=>by cases h
 |(n,d)::r,h,u=>by
  rw[qu];by_cases e:x=n
  ·subst e;rw[beq_self_eq_true];rw[u d oj]
  ·rw[show(x == n)=false by simpa using e];rcases lC.mp h with q|q
   ·cases q;exact absurd rfl e
   ·exact uZ q λd hd=>u d (ki _ hd)
theorem rR{env:Env}(hf:∀y∈names,y.2=.free->∃c,env.cells.lookup y.1=some c)(hx:(x,NameKind.free)∈names)(hc:env.cells.lookup x=some c):(kG env names []).lookup x=some c:=
 uZ (Zy names [] hx hc) λd hd=>by
  rcases xQ names [] hf hd with q|q
  ·cases q
  ·rw[hc] at q;exact(Option.some.inj q).symm
theorem lI{env:Env}(hf:∀y∈names,y.2=.free->∃c,env.cells.lookup y.1=some c)(h:(kG env names []).lookup x=some c):env.cells.lookup x=some c:=by
 rcases xQ names [] hf (PySem.mem_of_lookup h) with q|q
 ·cases q
 ·exact q
def wb(X:Cx)(scope:Scope)(N:ak)(fp:au)(C:Addr)(s:Shared)(H:Hp):Cx where
 prog:=X.prog
 w:=X.w
 K:=X.K
 mg:=X.mg
 base:=X.base
 A:=X.A
 N:=N
 cq:=s
 sg:=H
 env:=compEnvC scope (kG X.env scope.names []) C X.env
 outer:=X.stack
 stack:=X.stack
 ex:=fp
 fn:=λ_=>false
 calm:=X.calm
 pn:=[]
 xe:=λ_ _=>False
theorem o9.OS{P:Program}{w:World}{H:Hp}{h:Heap}{a:Addr}{o:HO}(x:o9 P w H h)(hn:H a=none)(new:bS P w (upd H a o) h a o):o9 P w (upd H a o) h:=λb u e=>by
 by_cases hb:b=a
 ·subst hb;rw[aN] at e;cases e;exact new
 ·rw[aT hb] at e;exact(x b u e).wK (λc v _ q=>q) (λc q=>by rw[aT (bM q hn)];exact q) λc xs _ q=>by rw[aT (bM q hn)];exact q
theorem Un.OS{fs ex:au}{H H1:Hp}{h h1:Heap}{a:Addr}{o:HO}(u:Un fs ex H H1 h h1)(hs:h.objs.size<=a)(hn:H1 a=none):Un fs ex H (upd H1 a o) h h1 where
 keep:=u.keep
 slot:=u.slot
 free:=λb ob q n hx=>by rw[aT (oH (qI (iB q) hs))];exact u.free b ob q n hx
 there:=u.there
 pA:=λb xs q=>by rw[aT (bM (u.pA b xs q) hn)];exact u.pA b xs q
 dm:=λb ob xs q=>by rw[aT (bM (u.dm b ob xs q) hn)];exact u.dm b ob xs q
 jb:=λb ps q=>by
  obtain⟨m,e⟩:=u.jb b ps q;exact⟨m,by rw[aT (bM e hn)];exact e⟩
theorem lD{env:Env}:∀{names:List (Str×NameKind)}{x:Str},names.lookup x=some .free->
  (names.map λ(n,k)=>if (k == NameKind.free && env.scope.kind == .function && env.kindOf n == some .cell) then (n,NameKind.cell) else (n,k)).lookup x=some .cell\/
  (names.map λ(n,k)=>if (k == NameKind.free && env.scope.kind == .function && env.kindOf n == some .cell) then (n,NameKind.cell) else (n,k)).lookup x=some .free
 |[],_,h=>by simp at h
 |(n,k)::r,x,h=>by
  have ih:=@lD env r x;show List.lookup x ((if (k == NameKind.free && env.scope.kind == .function && env.kindOf n == some .cell)=true then (n,NameKind.cell) else (n,k))::_)=_\/List.lookup x ((if (k == NameKind.free && env.scope.kind == .function && env.kindOf n == some .cell)=true then (n,NameKind.cell) else (n,k))::_)=_;cases hx:x == n with
  |true=>
   simp only[qu,hx] at h;cases h;by_cases hc:(NameKind.free == NameKind.free && env.scope.kind == .function && env.kindOf n == some .cell)=true
   ·rw[cO hc];simp only[qu,hx];exact .inl trivial
   ·rw[bZ hc];simp only[qu,hx];exact .inr trivial
  |false=>
   simp only[qu,hx] at h;by_cases hc:(k == NameKind.free && env.scope.kind == .function && env.kindOf n == some .cell)=true
   ·rw[cO hc];simp only[qu,hx];exact ih h
   ·rw[bZ hc];simp only[qu,hx];exact ih h
theorem xR{env:Env}{ow:Option Str}:∀{names:List (Str×NameKind)}{x:Str},(∀z∈names,z.2=.cell->ow=some z.1)->
  ((names.map λ(n,k)=>if (k == NameKind.free && env.scope.kind == .function && env.kindOf n == some .cell) then (n,NameKind.cell) else (n,k)).lookup x=some .cell\/
  (names.map λ(n,k)=>if (k == NameKind.free && env.scope.kind == .function && env.kindOf n == some .cell) then (n,NameKind.cell) else (n,k)).lookup x=some .free)->ow=some x\/(x,NameKind.free)∈names
 |[],_,_,h=>by simp at h
 |(n,k)::r,x,hc,h=>by
  have ih:=@xR env ow r x λz hz=>hc z (ki _ hz);have h':List.lookup x ((if (k == NameKind.free && env.scope.kind == .function && env.kindOf n == some .cell)=true then (n,NameKind.cell) else (n,k))::_)=_\/List.lookup x ((if (k == NameKind.free && env.scope.kind == .function && env.kindOf n == some .cell)=true then (n,NameKind.cell) else (n,k))::_)=_:=h;cases hx:x == n with
  |true=>
   have e:x=n:=by simpa using hx
   subst e;by_cases hq:(k == NameKind.free && env.scope.kind == .function && env.kindOf x == some .cell)=true
   ·have hk:(k == NameKind.free)=true:=by
     rw[Bool.and_assoc] at hq;exact(wm _ _▸hq).1
    rw[show k=NameKind.free by simpa using hk];exact .inr oj
   ·rw[bZ hq] at h';simp only[qu,hx] at h';rcases h' with z|z
    ·cases z;exact .inl (hc _ oj rfl)
    ·cases z;exact .inr oj
  |false=>
   have go:_->ow=some x\/(x,NameKind.free)∈(n,k)::r:=λq=>(ih q).imp id (ki _);by_cases hq:(k == NameKind.free && env.scope.kind == .function && env.kindOf n == some .cell)=true
   ·rw[cO hq] at h';simp only[qu,hx] at h';exact go h'
   ·rw[bZ hq] at h';simp only[qu,hx] at h';exact go h'
structure eU(X:Cx)(scope:Scope)(N:ak)(k:Nat)(idx:List Nat):Prop where
 kind:scope.kind=.function
 fc:∀y∈scope.names,y.2≠.cell
 names:∀y∈scope.names,y.2=.local->scope.names.lookup y.1=some .local
 free:∀y∈scope.names,y.2=.free->X.env.kindOf y.1=some .cell\/X.env.kindOf y.1=some .free
 nd:N.Nodup
 len:N.length=k+idx.length
 bz:∀(i:Nat) (x:Str),(N.drop k)[i]?=some x->∃j:Nat,idx[i]?=some j/\X.N[j]?=some x/\scope.names.lookup x=some .free
def xu(k:Nat)(idx:List Nat)(σ:St):St:=List.replicate k none++idx.map λj=>(σ[j]?).join
def BX(ow:Option Str)(a:Addr):List (Str×Addr):=match ow with|none=>[]|some y=>[(y,a)]
def pow(ow:Option Str)(h:Heap):Heap:=match ow with|none=>h|some _=>h.push { cls:=.type "cell",data:=.cell none }
def wa(X:Cx)(ow:Option Str)(scope:Scope)(N:ak)(fp:au)(C:Addr)(s:Shared)(H:Hp):Cx:=
 { wb X scope N fp C s H with env:=compEnvC scope (BX ow (C+1)++kG X.env scope.names []) C X.env,fn:=λx=>match ow with|none=>false|some y=>x == y }
structure rS(X:Cx)(ow:Option Str)(scope:Scope)(N:ak)(k:Nat)(idx:List Nat):Prop where
 kind:scope.kind=.function
 cf:∀n acc,cellsFrom n scope.names acc=BX ow n++acc
 pc:∀h,pushCells h scope.names=pow ow h
 fc:∀z∈scope.names,z.2=.cell->ow=some z.1
 names:∀z∈scope.names,z.2=.local->scope.names.lookup z.1=some .local
 free:∀z∈scope.names,z.2=.free->ow≠some z.1/\(X.env.kindOf z.1=some .cell\/X.env.kindOf z.1=some .free)
 nd:N.Nodup
 len:N.length=k+idx.length
 bz:∀(i:Nat) (x:Str),(N.drop k)[i]?=some x->∃j:Nat,idx[i]?=some j/\X.N[j]?=some x/\scope.names.lookup x=some .free
theorem Qf:∀{names:List (Str×NameKind)},(∀y∈names,y.2≠.cell)->(∀n acc,cellsFrom n names acc=acc)/\∀h,pushCells h names=h
 |[],_=>⟨λ_ _=>rfl,λ_=>rfl⟩
 |(x,k)::r,h=>by
  have ih:=Qf λy hy=>h y (ki _ hy);have hk:¬(k == NameKind.cell)=true:=by simpa using h _ oj
  refine⟨λn acc=>?_,λhp=>?_⟩
  ·unfold cellsFrom;rw[bZ hk];exact ih.1 n acc
  ·unfold pushCells;rw[bZ hk];exact ih.2 hp
theorem eU.Gw{k:Nat}{idx:List Nat}(S:eU X scope N k idx):rS X none scope N k idx:=
 ⟨S.kind,(Qf S.fc).1,(Qf S.fc).2,λz hz e=>absurd e (S.fc z hz),S.names,λz hz e=>⟨nofun,S.free z hz e⟩,S.nd,S.len,S.bz⟩
theorem Cj{cl:List (Str×Addr)}(h:(BX ow a++cl).lookup x=some c):(ow=some x/\c=a)\/(ow≠some x/\cl.lookup x=some c):=by
 cases ow with
 |none=>exact .inr ⟨nofun,h⟩
 |some y=>
  have h':((y,a)::cl).lookup x=some c:=h;rw[qu] at h';cases e:x == y with
  |true=>rw[e] at h';cases h';exact .inl ⟨by rw[beq_iff_eq.mp e],rfl⟩
  |false=>rw[e] at h';exact .inr ⟨λz=>by cases z;simp at e,h'⟩
theorem Zx{cl:List (Str×Addr)}(h:ow≠some x):(BX ow a++cl).lookup x=cl.lookup x:=by
 cases ow with
 |none=>rfl
 |some y=>
  show((y,a)::cl).lookup x=_;rw[qu,show(x == y)=false from beq_eq_false_iff_ne.mpr λz=>h (by rw[z])]
theorem aLf:(BX (some y) a++cl).lookup y=some a:=by
 show((y,a)::cl).lookup y=_;rw[qu,show(y == y)=true by simp]
theorem PQ{h:Heap}(e:h.get? b=some o):(pow ow h).get? b=some o:=by
 cases ow with
 |none=>exact e
 |some y=>exact eG _ e
theorem aPT{h:Heap}(e:a=h.objs.size):(pow (some y) h).get? a=some { cls:=.type "cell",data:=.cell none }:=by
 rw[e];exact lA _ rfl
theorem aDC{E:aj}{s:Shared}{scope:Scope}{Q:Env->Shared->Prop}(cf:∀n acc,cellsFrom n scope.names acc=BX ow n++acc)(pc:∀h,pushCells h scope.names=pow ow h)(hQ:Q (newEnv scope s.heap.objs.size globals (BX ow (s.heap.objs.size+1)++cl) qual none .none (some env) builtinsNs) { s with heap:=pow ow (s.heap.push { cls:=.type "dict",data:=.dict #[] }) }) :
  wpAny M A (newFunctionEnv scope globals cl [] qual none .none (some env)) Q E s:=by
 simp only[newFunctionEnv,Option.isSome_some,if_true];refine bG (wpAny_alloc ?_);refine bG (wpAny_layCells _ (λname kind cells=>by cases hkc:kind == NameKind.cell <;> simp[hkc]) _ _ _ _ ?_);rw[cf,pc,show({ s with heap:=s.heap.push { cls:=.type "dict",data:=.dict #[] } }:Shared).heap.objs.size=s.heap.objs.size+1 from ot ..];rw[List.forIn_nil];exact bG (cM (cM hQ))
section
variable{X:Cx}{pins:ao}{σ:St}{H:Hp}{s:Shared}{ow:Option Str}{scope:Scope}{N:ak}{k:Nat}{idx:List Nat}{fp:au}
theorem rS.cells(S:rS X ow scope N k idx)(I:Inv X pins σ H s):∀z∈scope.names,z.2=.free->∃c,X.env.cells.lookup z.1=some c:=λz hz h=>I.ok.has z.1 (S.free z hz h).2
theorem aJQ{de:Heap}{tk:Nat}{oD:Obj}{m:Str->ay}(S:rS X ow scope N k idx)(I:Inv X pins σ H s)(hf:∀b∈fp,xJ X pins H b)(ho:∀b∈fp,∃o,s.heap.get? b=some o)(hC:s.heap.objs.size<=C)(hD:s.heap.objs.size<=D)(EH:D≠C)(hn:de.Ns C m)(old:∀b o,s.heap.get? b=some o->de.get? b=some o)(eD:de.get? D=some oD)(dD:∀v,oD.data≠.cell v)(ec:∀y,ow=some y->de.get? (C+1)=some { cls:=.type "cell",data:=.cell none }) :
  Inv (wa X ow scope N fp C s H) [(D,oD)] (xu k idx σ) H { s with heap:=de,toks:=tk }:=by
 have qh:=S.cells I;have Hs:∀{x:Str} {c:Addr},(kG X.env scope.names []).lookup x=some c->c < s.heap.objs.size:=λ{x c} e=>by
  obtain⟨v,q⟩:=I.cell x c (lI qh e);exact q.lt
 have yp:s.heap.objs.size < C+1:=Nat.lt_succ_of_le hC;have nst:∀b,s.heap.objs.size<=b->b∉mh X.stack:=λb hb z=>by
  obtain⟨_,o,e,_⟩:=I.stack.mem z;exact absurd (qI (iB e) hb) (rm _)
 refine⟨⟨I.ok.mod,S.kind,I.ok.glob,I.ok.blt,hC,λx x2 c h1 h2=>?_,λx hx=>?_,λx c z e=>?_,I.ok.hd,I.ok.frames,.inl rfl,λb hb=>⟨?_,λx c e=>?_⟩,I.bs,
  kr I.ok.yu I.sz,λb o e hb=>?_,λb hb z=>?_,I.stack,I.Ld⟩,rfl,I.bare,Un.kept old,⟨m,hn,λi x v h1 h2 h3=>?_⟩,λx c e=>?_,I.bc.fresh hC,λx c e=>?_,λp hp=>?_,I.bc.kept old,?_⟩
 ·rcases Cj h1 with ⟨a1,a2⟩|⟨a1,a2⟩ <;> rcases Cj h2 with ⟨b1,b2⟩|⟨b1,b2⟩
  ·cases a1.symm.trans b1;rfl
  ·have:=Hs b2;rw[a2] at this;exact absurd (G4 this yp) (rm _)
  ·have:=Hs a2;rw[b2] at this;exact absurd (G4 this yp) (rm _)
  ·exact I.ok.inj x x2 c (lI qh a2) (lI qh b2)
 ·rcases xR S.fc hx with q|q
  ·cases q;exact⟨C+1,aLf⟩
  ·obtain⟨c,e⟩:=qh _ q rfl;exact⟨c,(Zx (S.free _ q rfl).1).trans (rR qh q e)⟩
 ·rcases Cj e with ⟨a1,a2⟩|⟨a1,a2⟩
  ·rw[a2];exact Cq yp
  ·cases ow with
   |none=>cases z
   |some y=>
    have z':(x == y)=true:=z;exact absurd (by rw[beq_iff_eq.mp z']) a1
 ·obtain⟨o,e⟩:=ho b hb;exact oH (qI (iB e) hC)
 ·rcases Cj e with ⟨a1,a2⟩|⟨a1,a2⟩
  ·obtain⟨o,q⟩:=ho b hb;have:=iB q;intro z;rw[a2] at z;rw[<-z] at this;exact absurd (G4 this yp) (rm _)
  ·exact(hf b hb).2.2.2.2.1 x c (lI qh a2)
 ·rcases(hf b hb).2.2.2.1 with z|z
  ·exact I.ok.uo b o e z
  ·exact absurd (qI (iB (I.ok.bs b o e).1) z) (rm _)
 ·rcases lC.mp (I.G0 b z) with q|q
  ·exact(hf b hb).2.1 q
  ·exact(hf b hb).2.2.1 q
 ·have hi:k<=i:=by
   by_cases hi:i < k
   ·unfold xu at h2;rw[uh (by simpa using hi),QJ,cO hi] at h2;cases h2
   ·lia
  obtain⟨j,rfl⟩ : ∃j,i=k+j:=⟨i - k,by lia⟩
  have vx:N[k+j]?=some x:=h1;obtain⟨l,e1,e2,e3⟩:=S.bz j x (by rw[List.getElem?_drop];exact vx);have rj:σ[l]?=some (some v):=by
   unfold xu at h2;rw[vg (by simp),kQ] at h2;simp only[QB,Nat.add_sub_cancel_left,e1,Option.map_some,Option.some.injEq] at h2;cases q:σ[l]? with
   |none=>rw[q] at h2;cases h2
   |some z=>rw[q] at h2;exact congrArg some h2
  obtain⟨m0,hn0,hl⟩:=I.loc;have iu:(x,NameKind.free)∈scope.names:=PySem.mem_of_lookup e3;have hk:=(S.free _ iu rfl).2;obtain⟨u,r,l⟩:=hl l x v e2 rj (by rcases hk with z|z;exact .inr (.inl z);exact .inr (.inr z));refine⟨u,r,.inr ⟨lD e3,?_⟩⟩;rcases l with ⟨z,_⟩|⟨_,c,e,o,q,d⟩
  ·rcases hk with w|w
   ·rw[w] at z;cases z
   ·rw[w] at z;cases z
  ·exact⟨c,(Zx (S.free _ iu rfl).1).trans (rR qh iu e),o,old c o q,d⟩
 ·rcases Cj e with ⟨a1,a2⟩|⟨a1,a2⟩
  ·rw[a2];exact⟨none,_,ec _ a1,rfl⟩
  ·obtain⟨v,o,q,d⟩:=I.cell x c (lI qh a2);exact⟨v,o,old c o q,d⟩
 ·rcases Cj e with ⟨a1,a2⟩|⟨a1,a2⟩
  ·rw[a2];exact I.bc.fresh (Cq yp)
  ·exact I.df x c (lI qh a2)
 ·have vp:p∈([]:ao) ++ [(D,oD)]:=hp;have e:p=(D,oD):=by simpa using vp
  subst e;exact⟨eD,I.bc.fresh hD,EH,nst D hD,dD⟩
 ·unfold xu;show _=N.length;rw[S.len];simp
theorem aNq{s':Shared}{ys:List V}{its:ah}{n:Nat}(I:Inv X pins σ H s)(hf:∀b∈fp,xJ X pins H b)(J:Inv (wa X ow scope N fp C s H) ou σ' H' s')(hC:s.heap.objs.size<=C)(hD:s.heap.objs.size<=D)(EH:D≠C)(VW:H' D=none)(eD:s'.heap.get? D=some { cls:=.type "list",data:=.seq its.toArray n })(r:Vals ys its)(hz:ys.length<=sizeLine) :
  Inv X pins σ (upd H' D (.lst ys)) s'/\xJ X pins (upd H' D (.lst ys)) C:=by
 have hk:o9 X.prog X.w (upd H' D (.lst ys)) s'.heap:=o9.OS J.bc VW ⟨hz,its,n,r,eD⟩;have u:Un (mh X.stack) fp H (upd H' D (.lst ys)) s.heap s'.heap:=Un.OS J.base hD VW;refine⟨I.aQV J.os u hk J.bare λb hb=>⟨(hf b hb).2.2.2.1,(hf b hb).2.1,(hf b hb).2.2.2.2.1,(hf b hb).2.2.2.2.2⟩,I.xw hC ?_⟩;rw[aT EH.symm];exact J.free
theorem eU.cells(S:eU X scope N k idx)(I:Inv X pins σ H s):∀y∈scope.names,y.2=.free->∃c,X.env.cells.lookup y.1=some c:=S.Gw.cells I
end
def kS(J:It)(σ₀:St)(g:TG)(tt:TT)(te:TE)(R:List V->Hp->Prop)(H1:Hp):Prop:=
 ∃W:Nat->Nat->List V->Hp->Prop,(∃m,W 0 m [] H1)/\∀i m ys H,W i m ys H->ys.length<=sizeLine/\
  ((J.stop i H/\R ys H)\/(J.go i H/\∃N:List V->Hp->Prop,(∀Eh H',N Eh H'->∃m',m' < m/\W (i+1) m' Eh H')/\
   ∀x H',J.oq i H x H'->g x σ₀ H' λσ2 H2=>tt σ2 H2 λb H3=>if b=true then te σ2 H3 λy H4=>N (ys ++ [y]) H4 else N ys H3))
def GJ(wi:TI)(k:Nat)(idx:List Nat)(g:TG)(tt:TT)(te:TE):TE:=λσ H Q=>wi σ H λJ H1=>kS J (xu k idx σ) g tt te (λys H'=>∀p,H' p=none->Q (.ref p) (upd H' p (.lst ys))) H1
def Fv(X:Cx)(ifs:List Expr)(t:TT):Prop:=
 ∀(pins:ao) (s:Shared) (σ:St) (H:Hp) (Q:Bool->Hp->Prop),Inv X pins σ H s->t σ H Q->
  wpAny (model X.prog X.w) X.A (forIn ifs true λc r=>if r=true then do let ok <-isTrue c X.env (eval c X.env);pure (ForInStep.yield ok) else pure (ForInStep.yield r)) (TP X pins σ Q) X.xe s
def OB:TT:=λ_ H Q=>Q true H
theorem aNr:Fv X [] OB:=λ_ _ _ H _ I h=>wpAny_tests_nil ⟨H,I,h⟩
theorem aNs(h:PT X c t):Fv X [c] t:=λpins s σ H Q I q=>wpAny_tests_one (h pins s σ H Q I q)
def DS(k:Nat)(σ' σ:St):Prop:=σ'.length=σ.length/\∀i,k<=i->σ'[i]?=σ[i]?
theorem DS.set{k i:Nat}{σ:St}(h:DS k σ σb)(hi:i < k):DS k (σ.set i v) σb:=⟨by rw[wk];exact h.1,λj hj=>by rw[LH (by lia)];exact h.2 j hj⟩
def Own(k:Nat)(g:TG):Prop:=∀x σ H (Q:St->Hp->Prop) (σb:St),DS k σ σb->g x σ H Q->g x σ H λσ' H'=>DS k σ' σb/\Q σ' H'
def Kf(k:Nat)(g:ze):Prop:=∀xs σ H (Q:St->Hp->Prop) (σb:St),DS k σ σb->g xs σ H Q->g xs σ H λσ' H'=>DS k σ' σb/\Q σ' H'
theorem dI{k i:Nat}(h:i < k):Own k (qJ i):=λ_ _ _ _ _ a q=>⟨a.set h,q⟩
theorem lX{k:Nat}:Kf k Km:=λ_ _ _ _ _ a ⟨e,q⟩=>⟨e,a,q⟩
theorem cU{k i:Nat}(h:i < k)(hu:Kf k u):Kf k (Kv (qJ i) u):=λ_ _ _ Q σb a ⟨v,r,e,q⟩=>⟨v,r,e,hu r _ _ Q σb (a.set h) q⟩
theorem pD{K:W.Frag}{n k:Nat}{u:ze}(hu:Kf k u):Own k (Kl K n u):=λ_ _ _ Q σb a ⟨l,xs,e,h1,h2,q⟩=>⟨l,xs,e,h1,h2,hu xs _ _ Q σb a q⟩
theorem aLg(its:ah)(u:Value)(n:Nat):({ cls:=.type "list",data:=.seq (its.toArray.push u) n }:Obj)={ cls:=.type "list",data:=.seq (its ++ [u]).toArray n }:=by
 rw[List.push_toArray]
section
variable{X:Cx}{pins:ao}{σ:St}{H:Hp}{s:Shared}{ow:Option Str}{scope:Scope}{N:ak}{k:Nat}{idx:List Nat}{fp:au}
theorem aAT{tn:Nat->Heap->Prop}{R:List V->Hp->Prop}{E:aj}{RR:Value->Addr->Result->Shared->Prop}(S:rS X ow scope N k idx)(hc:X.calm=true)(I:Inv X pins σ H s)(T:Turn X.prog X.w X.K target J fp it tn)(st:tn 0 s.heap)(hf:∀b∈fp,xJ X pins H b)(hg:∀C,PG (wa X ow scope N fp C s H) target g)(ho:Own k g)(ht:∀C,Fv (wa X ow scope N fp C s H) ifs tt)(he:∀C,PE (wa X ow scope N fp C s H) elt te)(hw:kS J (xu k idx σ) g tt te R H)(hRR:∀D C s' m ys H',s'.heap.Ns C m->Inv X pins σ (upd H' D (.lst ys)) s'->xJ X pins (upd H' D (.lst ys)) C->H' D=none->R ys H'->RR (.ref D) C (.ok .next) s') :
  wpAny (model X.prog X.w) X.A (newList []) (λacc jg=>wpAny (model X.prog X.w) X.A (newFunctionEnv scope X.env.globals (kG X.env scope.names []) [] X.env.qual none .none (some X.env)) (λHS Bt=>
   codeAny (model X.prog X.w) X.A (.compStart (.ListComp elt [⟨target,iter,ifs,0⟩] scope pos) 0 (.ref it) acc { HS with scope:=relabel scope X.env }) (RR acc HS.locals) Bt) E jg) E s:=by
 refine qb (aDC S.cf S.pc ?_);dsimp only;generalize NN:s.heap.push { cls:=.type "list",dict:=none,data:=.seq ([]:ah).toArray } = H2;have yp:H2.objs.size=s.heap.objs.size+1:=by rw[<-NN,ot]
 have EH:s.heap.objs.size≠H2.objs.size:=by rw[yp];exact oH (DH _)
 have HJ:s.heap.objs.size<=H2.objs.size:=by rw[yp];exact Nat.le_succ _
 have below:∀b,b < s.heap.objs.size->b≠H2.objs.size:=λb hb=>by rw[yp];exact oH (Cv hb)
 generalize JG:pow ow (H2.push { cls:=.type "dict",data:=.dict #[] })=de;have Ef:de.Ns H2.objs.size (λ_=>none):=JG▸(Heap.Ns.new H2 (.type "dict")).keeps λb o e=>PQ e;have old:∀b o,s.heap.get? b=some o->de.get? b=some o:=λb o e=>JG▸PQ (eG _ (NN▸eG _ e));have qf:de.get? s.heap.objs.size=some { cls:=.type "list",data:=.seq ([]:ah).toArray 0 }:=JG▸PQ (eG _ (NN▸lA _ rfl));have pd:∀y,ow=some y->de.get? (H2.objs.size+1)=some { cls:=.type "cell",data:=.cell none }:=λy e=>by
  subst e;rw[<-JG];exact aPT (ot ..).symm
 have CG:tn 0 de:=T.keep _ _ _ st λb _ o e=>old b o e;obtain⟨W,⟨m0,w0⟩,turn⟩:=hw;have JP:∀b∈fp,b < s.heap.objs.size:=λb hb=>by
  obtain⟨o,e,_⟩:=T.obj _ _ st b hb;exact iB e
 have uj:∀{H':Hp} {pl:ao},(∀b∈fp,H' b=none)->(∀p∈pl,s.heap.objs.size<=p.1)->∀b∈fp,xJ (wa X ow scope N fp H2.objs.size s H) pl H' b:=λ{H' pl} hn hp b hb=>by
  refine⟨hn b hb,below b (JP b hb),λz=>?_,.inl hb,λx c e=>by
   rcases Cj e with ⟨a1,a2⟩|⟨a1,a2⟩
   ·have:=JP b hb;intro z;rw[a2] at z;rw[<-z,yp] at this;exact absurd (G4 this (Cv (DH _))) (rm _)
   ·exact(hf b hb).2.2.2.2.1 x c (lI (S.cells I) a2),λp q z=>?_⟩
  ·have z':b∈mh X.stack:=z;rcases lC.mp (I.G0 b z') with q|q
   ·exact(hf b hb).2.1 q
   ·exact(hf b hb).2.2.1 q
  ·have q':p∈([]:ao)++pl:=q;have h1:=hp p (by simpa using q');rw[z] at h1;exact absurd (qI (JP b hb) h1) (rm _)
 have loop:∀jg:Shared,jg={ s with heap:=de }->
   codeAny (model X.prog X.w) X.A (.compLoop (.ListComp elt [⟨target,iter,ifs,0⟩] scope pos) 0 (.ref it) (.ref s.heap.objs.size) (compEnvC scope (BX ow (H2.objs.size+1)++kG X.env scope.names []) H2.objs.size X.env))
    (RR (.ref s.heap.objs.size) H2.objs.size) jg:=by
  rintro jg rfl;refine aGr (λn s'=>∃i ys its H' nn,Inv (wa X ow scope N fp H2.objs.size s H) [(s.heap.objs.size,{ cls:=.type "list",data:=.seq its.toArray nn })] (xu k idx σ) H' s'/\tn i s'.heap/\(∀b∈fp,H' b=none)/\Vals ys its/\W i n ys H') ?_ m0
   ⟨0,[],[],H,0,aJQ S I hf (λb hb=>let ⟨o,e,_⟩:=T.obj _ _ st b hb;⟨o,e⟩) HJ (dQ _) EH Ef old qf (λv z=>by cases z) pd,CG,λb hb=>(hf b hb).1,.nil,w0⟩
  rintro n s' ⟨i,ys,its,H',nn,I',km,Wh,rv,w'⟩;obtain⟨hz,alt⟩:=turn i n ys H' w';have pl:∀p∈[((s.heap.objs.size:Addr),({ cls:=.type "list",data:=.seq its.toArray nn }:Obj))],s.heap.objs.size<=p.1:=λp hp=>by
   have e:p=((s.heap.objs.size:Addr),({ cls:=.type "list",data:=.seq its.toArray nn }:Obj)):=by simpa using hp
   rw[e];exact dQ _
  rcases alt with ⟨stop,q⟩|⟨go,Nx,hN,step⟩
  ·refine dC (T.done (wa X ow scope N fp H2.objs.size s H) rfl rfl rfl hc i _ s' _ H' _ I' (uj Wh pl) km stop) λr s4 ⟨hr,I4⟩=>?_;subst hr;obtain⟨eD,nD,_⟩:=I4.pin _ (se _ oj);obtain⟨a1,a2⟩:=aNq I hf I4 HJ (dQ _) EH nD eD rv hz;obtain⟨m4,hn4,_⟩:=I4.loc;exact hRR _ _ s4 m4 ys H' hn4 a1 a2 nD q
  ·refine dC (T.item (wa X ow scope N fp H2.objs.size s H) rfl rfl rfl hc i _ s' _ H' _ I' (uj Wh pl) km go) λr s4 ⟨u,hr,h4⟩=>?_;subst hr;refine dC h4 λ_ s5 zq=>?_;obtain⟨x,H5,I5,r5,y5,BS,N2⟩:=zq;have QY:=I5.pinned (uj N2 pl) (T.obj _ _ BS);have Mv:∀{α:Type} {t:Sem α} {Q:α->Shared->Prop} {E':aj} {sx:Shared},wpAny (model X.prog X.w) X.A t Q (λ_ _=>False) sx->wpAny (model X.prog X.w) X.A t Q E' sx:=λh=>sy h (λ_ _ q=>q) λ_ _ z=>z.elim;refine Mv (dC (hg _ _ s5 _ H5 x u _ QY r5 (ho x _ H5 _ _ ⟨rfl,λ_ _=>rfl⟩ (step x H5 y5))) λ_ s6 ⟨σ6,H6,I6,ag,q6⟩=>?_);have back:∀{H7:Hp} {s7:Shared},Inv (wa X ow scope N fp H2.objs.size s H) ([((s.heap.objs.size:Addr),({ cls:=.type "list",data:=.seq its.toArray nn }:Obj))] ++ GZ fp s5.heap) σ6 H7 s7->
     Inv (wa X ow scope N fp H2.objs.size s H) [((s.heap.objs.size:Addr),({ cls:=.type "list",data:=.seq its.toArray nn }:Obj))] (xu k idx σ) H7 s7/\tn (i+1) s7.heap/\∀b∈fp,H7 b=none:=λ{H7 s7} I7=>by
    refine⟨I7.xK.weak (by rw[ag.1]) λj v e=>?_,T.keep _ _ _ BS λb hb o e=>(I7.pin (b,o) (se _ (se _ (pB hb e)))).1,λb hb=>?_⟩
    ·have hj:k<=j:=by
      by_cases hj:j < k
      ·unfold xu at e;rw[uh (by simpa using hj),QJ,cO hj] at e;cases e
      ·lia
     rw[ag.2 j hj];exact e
    ·obtain⟨o,e,d⟩:=T.obj _ _ BS b hb;exact(I7.pin (b,o) (se _ (se _ (pB hb e)))).2.1
   refine Mv (dC (ht _ _ s6 σ6 H6 _ I6 q6) λb s7 ⟨H7,I7,q7⟩=>?_);cases b with
   |false=>
    rw[bZ xI] at q7 ⊢;obtain⟨m',hm,w7⟩:=hN _ _ q7;obtain⟨b1,b2,b3⟩:=back I7;exact⟨m',hm,i+1,ys,its,H7,nn,b1,b2,b3,rv,w7⟩
   |true=>
    rw[cO rfl] at q7 ⊢;refine Mv (dC (he _ _ s7 σ6 H7 _ I7 q7) λyv s8 zq=>?_);obtain⟨z,H8,I8,r8,q8⟩:=zq;obtain⟨m',hm,w8⟩:=hN _ _ q8;obtain⟨b1,b2,b3⟩:=back I8;obtain⟨eD,nD,U3,nfD,_⟩:=b1.pin _ (se _ oj);have zl:=rv.length;refine append_at (hsz:=by rw[iR,<-zl];exact hz) eD λh9 Vu hD9=>?_;have b1':Inv (wa X ow scope N fp H2.objs.size s H) [] (xu k idx σ) H8 s8:=b1.Lc λp hp=>by cases hp
    have I9:Inv (wa X ow scope N fp H2.objs.size s H) [] (xu k idx σ) H8 { s8 with heap:=h9 }:=b1'.turned (t':=s8.toks) (λb o hb e=>(Vu.2 b hb).trans e) nD U3 (.inr (dQ _)) (λx c e z=>by
     rcases Cj e with ⟨a1,a2⟩|⟨a1,a2⟩
     ·rw[a2,yp] at z;exact absurd z (wg (Cv (DH _)))
     ·obtain⟨v,q⟩:=I.cell x c (lI (S.cells I) a2);exact absurd (qI q.lt (by rw[z];exact dQ _)) (rm _)) (λp hp=>by
     have vp:p∈([]:ao) ++ []:=hp;simp at vp)
    refine⟨m',hm,i+1,ys ++ [z],its ++ [yv],H8,nn+1,I9.Lc λp hp=>?_,T.keep _ _ _ b2 λb hb o e=>(Vu.2 b (oH (JP b hb))).trans e,b3,rv.append (.cons r8 .nil),w8⟩;have e:p=((s.heap.objs.size:Addr),({ cls:=.type "list",data:=.seq (its ++ [yv]).toArray (nn+1) }:Obj)):=by simpa using hp
    subst e;exact⟨by rw[<-aLg];exact hD9,nD,U3,nfD,λv z=>by cases z⟩
 exact codeAny_compStart_list (loop _ rfl) (T.self _ 0 _ _ _ CG (loop _ rfl))
theorem aNu(k:Nat)(idx:List Nat)(S:eU X scope N k idx)(hc:X.calm=true)(hi:PI X target iter wi)(hg:∀fp C s H,PG (wb X scope N fp C s H) target g)(ho:Own k g)(ht:∀fp C s H,Fv (wb X scope N fp C s H) ifs tt)(he:∀fp C s H,PE (wb X scope N fp C s H) elt te)(hs:∀x,foldedSetIterable iter X.env x=pure x:=by intro _;rfl):PE X (.ListComp elt [⟨target,iter,ifs,0⟩] scope pos) (GJ wi k idx g tt te):=by
 intro pins s σ H Q I h;rw[eval_ListComp];refine wpAny_comprehension_free (use:=none) rfl hs (wN (S.Gw.cells I)) S.kind S.names (dC (hi pins s σ H _ I h) λv s1 h1=>dC h1 λJq s2 h2=>?_);obtain⟨it,fp,tn,J,H2,e,I2,T,FJ,f2,w2⟩:=h2;subst e;refine aAT (RR:=λacc C=>compPost (model X.prog X.w) X.A X.xe none (EP X pins σ Q) acc C) S.Gw hc I2 T FJ f2 (λC=>hg fp C s2 H2) ho (λC=>ht fp C s2 H2) (λC=>he fp C s2 H2) w2 λD C s' m ys H' hn I' fC hD q=>?_;refine⟨m,hn,λh'' DY=>⟨.ref D,_,I'.turned (t':=s'.toks) (λb o hb e=>(DY.2 b hb).trans e) fC.1 fC.2.1 fC.2.2.2.1 fC.2.2.2.2.1 fC.2.2.2.2.2,rfl,q D hD⟩⟩
theorem aNv(k:Nat)(idx:List Nat){i:Nat}{uk:Pos}(hN:X.N.Nodup)(Np:X.N[i]?=some x)(hx:Loc X.env.scope x)(S:eU X scope N k idx)(hc:X.calm=true)(hi:PI X target iter wi)(hg:∀fp C s H,PG (wb X scope N fp C s H) target g)(ho:Own k g)(ht:∀fp C s H,Fv (wb X scope N fp C s H) ifs tt)(he:∀fp C s H,PE (wb X scope N fp C s H) elt te)(M8:swapsWith (.ListComp elt [⟨target,iter,ifs,0⟩] scope pos) (some (.Name x pos')) uk.line X.env=pure true:=by rfl)(hs:∀x,foldedSetIterable iter X.env x=pure x:=by intro _;rfl)(yn:X.fn x=true\/X.env.scope.names.lookup x=some .local:=by first|exact .inl rfl|exact .inr rfl|assumption) :
  PS X (.Assign [.Name x pos'] (.ListComp elt [⟨target,iter,ifs,0⟩] scope pos) uk) (Ce (GJ wi k idx g tt te) (qJ i)):=by
 intro pins s σ H D I h;rw[exec_Assign_Name_used _ _ _ _ M8];refine bG (wpAny_standAt (bG ?_));show wpAny _ X.A (do let _ <-comprehension (.ListComp elt [⟨target,iter,ifs,0⟩] scope pos) scope X.env _ (newList []) false (eval iter X.env) (some (assign (.Name x pos') X.env))) _ _ s;refine bG (sy (wpAny_comprehension_free (use:=some (assign (.Name x pos') X.env)) (Q:=λ_ s'=>SP X pins D .next s') rfl hs (wN (S.Gw.cells I)) S.kind S.names
  (dC (hi pins s σ H _ I h) λv s1 h1=>dC h1 λJq s2 h2=>?_)) (λ_ s' hq=>cM (cM hq)) λ_ _ e=>e)
 obtain⟨it,fp,tn,J,H2,e,I2,T,FJ,f2,w2⟩:=h2;subst e;refine aAT (RR:=λacc C=>compPost (model X.prog X.w) X.A X.xe (some (assign (.Name x pos') X.env)) (λ_ s'=>SP X pins D .next s') acc C) S.Gw hc I2 T FJ f2 (λC=>hg fp C s2 H2) ho (λC=>ht fp C s2 H2) (λC=>he fp C s2 H2) w2 λD' C s' m ys H' hn I' fC hD q=>?_;show wpAny _ X.A (assign (.Name x pos') X.env (.ref D')) _ _ s';refine wpAny_assign_Name (Z9 I' hN Np hx (show RelV (.ref D') (.ref D') from rfl) (λs3 I3 ⟨a,sb,ha⟩=>?_) yn);have hCa:C≠a:=by
  rcases ha with z|z
  ·rw[z];exact fC.2.1
  ·exact(fC.2.2.2.2.1 x a z).symm
 refine⟨m,hn.sameBut sb hCa,λh'' DY=>⟨_,_,I3.turned (t':=s3.toks) (λb o hb e=>(DY.2 b hb).trans e) fC.1 fC.2.1 fC.2.2.2.1 fC.2.2.2.2.1 fC.2.2.2.2.2,q D' hD⟩⟩
end
theorem fR{K:W.Frag}{a:Addr}{xs:List V}{σ₀:St}{g:TG}{tt:TT}{te:TE}{R:List V->Hp->Prop}{H:Hp}(Pv:Nat->List V->Hp->Prop)(h0:Pv 0 [] H)(hz:xs.length<=sizeLine)
  (hl:∀i ys H,i<=xs.length->Pv i ys H->bR K H a xs/\ys.length<=i)
  (hs:∀i x ys H,xs[i]?=some x->Pv i ys H->g x σ₀ H λσ2 H2=>tt σ2 H2 λb H3=>if b=true then te σ2 H3 λy H4=>Pv (i+1) (ys ++ [y]) H4 else Pv (i+1) ys H3)
  (hd:∀ys H,Pv xs.length ys H->R ys H):kS (wq K a) σ₀ g tt te R H:=by
 refine⟨λi m ys H=>m=xs.length - i/\i<=xs.length/\Pv i ys H,⟨xs.length,by simp,ko _,h0⟩,?_⟩;rintro i m ys H ⟨rfl,hi,p⟩;obtain⟨q,ql⟩:=hl i ys H hi p;refine⟨by lia,?_⟩;by_cases cw:i < xs.length
 ·refine .inr ⟨⟨xs,xs[i],q,by simp[cw]⟩,Pv (i+1),λEh H' p'=>⟨xs.length - (i+1),by lia,rfl,cw,p'⟩,λx H' y=>?_⟩;obtain⟨e,y⟩:=y;subst e;exact hs i x ys _ (y xs q) p
 ·have e:i=xs.length:=by lia
  subst e;exact .inl ⟨⟨xs,q,dQ _⟩,hd ys H p⟩
theorem aLh{K:W.Frag}{a:Addr}{xs:List V}{σ₀:St}{g:TG}{tt:TT}{te:TE}{R:List V->Hp->Prop}{H:Hp}(Pv:Nat->List V->Hp->Prop)(h0:Pv 0 [] H)(hz:xs.length<=sizeLine)
  (hl:∀i ys H,i<=xs.length->Pv i ys H->iC K H a xs/\ys.length<=i)
  (hs:∀i x ys H,xs[i]?=some x->Pv i ys H->g x σ₀ H λσ2 H2=>tt σ2 H2 λb H3=>if b=true then te σ2 H3 λy H4=>Pv (i+1) (ys ++ [y]) H4 else Pv (i+1) ys H3)
  (hd:∀ys H,Pv xs.length ys H->R ys H):kS (zi K a) σ₀ g tt te R H:=by
 refine⟨λi m ys H=>m=xs.length - i/\i<=xs.length/\Pv i ys H,⟨xs.length,by simp,ko _,h0⟩,?_⟩;rintro i m ys H ⟨rfl,hi,p⟩;obtain⟨q,ql⟩:=hl i ys H hi p;refine⟨by lia,?_⟩;by_cases cw:i < xs.length
 ·refine .inr ⟨⟨xs,xs[i],q,by simp[cw]⟩,Pv (i+1),λEh H' p'=>⟨xs.length - (i+1),by lia,rfl,cw,p'⟩,λx H' y=>?_⟩;obtain⟨e,y⟩:=y;subst e;exact hs i x ys _ (y xs q) p
 ·have e:i=xs.length:=by lia
  subst e;exact .inl ⟨⟨xs,q,dQ _⟩,hd ys H p⟩
theorem jN{lo:Int}{n:Nat}{g:TG}{R:List V->Hp->Prop}(Pv:Nat->List V->Hp->Prop)(h0:Pv 0 [] H)(hz:n<=sizeLine)(hl:∀i ys H,i<=n->Pv i ys H->ys.length<=i)(hs:∀i ys H,i < n->Pv i ys H->g (.int (lo+i)) σ₀ H λσ2 H2=>tt σ2 H2 λb H3=>if b=true then te σ2 H3 λy H4=>Pv (i+1) (ys ++ [y]) H4 else Pv (i+1) ys H3)(hd:∀ys H,Pv n ys H->R ys H):kS (vh lo n) σ₀ g tt te R H:=by
 refine⟨λi m ys H=>m=n - i/\i<=n/\Pv i ys H,⟨n,by simp,ko _,h0⟩,?_⟩;rintro i m ys H ⟨rfl,hi,p⟩;have ql:=hl i ys H hi p;refine⟨by lia,?_⟩;by_cases cw:i < n
 ·refine .inr ⟨cw,Pv (i+1),λEh H' p'=>⟨n - (i+1),by lia,rfl,cw,p'⟩,λx H' y=>?_⟩;obtain⟨e,y⟩:=y;subst e y;exact hs i ys _ cw p
 ·have e:i=n:=by lia
  subst e;exact .inl ⟨dQ _,hd ys H p⟩
theorem KL:bootBuiltins "int" = some (.type "int"):=by decide +kernel
theorem Y5:bootBuiltins "bool" = some (.type "bool"):=by decide +kernel
theorem iS:bootBuiltins "list" = some (.type "list"):=by decide +kernel
theorem Zw:bootBuiltins "tuple" = some (.type "tuple"):=by decide +kernel
theorem Zv:bootBuiltins "range" = some (.type "range"):=by decide +kernel
theorem jO:bootBuiltins "len" = some (.builtin "len"):=by decide +kernel
theorem aPV:bootBuiltins "abs" = some (.builtin "abs"):=by decide +kernel
theorem wO:bootBuiltins "max" = some (.builtin "max"):=by decide +kernel
theorem gB:bootBuiltins "min" = some (.builtin "min"):=by decide +kernel
theorem Yv:bootBuiltins "sum" = some (.builtin "sum"):=by decide +kernel
theorem Pu:bootBuiltins "all" = some (.builtin "all"):=by decide +kernel
theorem aJR:bootBuiltins "sorted" = some (.builtin "sorted"):=by decide +kernel
theorem dF:bootBuiltins "isinstance" = some (.builtin "isinstance"):=by decide +kernel
section
variable{X:Cx}
def OR:R2:=λx y H Q=>Aj (λi j=>.int (i+j)) x y H Q\/Xz x y H Q
theorem bC:rK X (binaryOp .Add) OR:=aPy.or aPL
def X3:R2:=λx y H Q=>rI GG (λi j=>.int (i*j)) x y H Q\/Xy x y H Q
theorem bV:rK X (binaryOp .Mult) X3:=aPz.or aPM
def zc(K:W.Frag):V->Option Int->Option Int->Hp->VK->Prop:=λx lo hi H Q=>XC K x lo hi H Q\/XM K x lo hi H Q
theorem Bd:Bl X (zc X.K):=aNj.or aPF
def ui(K:W.Frag)(H:Hp):Nat->V->V->Bool->Prop
 |0,x,y,b=>oI x=true/\oI y=true/\b=eqV x y
 |n+1,x,y,b=>(oI x=true/\oI y=true/\b=eqV x y)\/
  ∃(p q:Addr) (xs ys:List V) (e:Nat->Bool),x=.ref p/\y=.ref q/\((bR K H p xs/\bR K H q ys)\/(iC K H p xs/\iC K H q ys))/\
   (∀(j:Nat) u v,xs[j]?=some u->ys[j]?=some v->ui K H n u v (e j))/\b=(xs.length == ys.length && (List.range xs.length).all e)
theorem Zu(h:oI x=true):eqV x x=true:=by
 cases x with
 |bt=>rfl
 |bl b=>cases b <;> rfl
 |int i=>exact beq_self_eq_true i
 |str z=>exact beq_self_eq_true z
 |_=>exact absurd (show false=true from h) xI
theorem Zt(I:Inv X pins σ H s):∀{n:Nat}{x:V}{b:Bool},ui X.K H n x x b->b=true
 |0,x,b,⟨h,_,e⟩=>by rw[e];exact Zu h
 |n+1,x,b,h=>by
  rcases h with ⟨h,_,e⟩|⟨p,q,xs,ys,e,e1,e2,hs,he,eb⟩
  ·rw[e];exact Zu h
  ·subst e1;cases e2;have exy:xs=ys:=by
    rcases hs with ⟨h1,h2⟩|⟨h1,h2⟩
    ·exact I.Qk h1 h2
    ·exact I.Z8 h1 h2
   subst exy;rw[eb,beq_self_eq_true,DA,DG];intro j hj;have A2:j < xs.length:=zf.mp hj;exact Zt I (he j xs[j] xs[j] (eS A2) (eS A2))
theorem Yu(I:Inv X pins σ H s):∀{n:Nat}{A:Around}{x y:V}{u v:Value}{b:Bool},A.units+n < cLine->RelV x u->RelV y v->ui X.K H n x y b->SeqAt.EqAt A s u v b
 |0,A,x,y,u,v,b,_,rx,ry,⟨h1,h2,e⟩=>by rw[e];exact YJ rx ry h1 h2
 |n+1,A,x,y,u,v,b,hu,rx,ry,h=>by
  rcases id h with ⟨h1,h2,e⟩|⟨p,q,xs,ys,e,e1,e2,hs,he,eb⟩
  ·rw[e];exact YJ rx ry h1 h2
  ·subst e1 e2;cases rx;cases ry;by_cases Vx:p=q
   ·subst Vx;rw[Zt I h];exact SeqAt.EqAt.same _
   ·refine SeqAt.EqAt.of_refs Vx ?_;have items:∀{us vs:ah},Vals xs us->Vals ys vs->∀j (h1:j < us.toArray.size) (h2:j < vs.toArray.size),SeqAt.EqAt A.in1 s us.toArray[j] vs.toArray[j] (e j):=λ{us vs} r1 r2 j h1 h2=>by
     have l1:=r1.length;have l2:=r2.length;rw[iR] at h1 h2;have g1:xs[j]?=some xs[j]:=eS (by lia);have g2:ys[j]?=some ys[j]:=eS (by lia);obtain⟨u',eu,ru⟩:=r1.get g1;obtain⟨v',ev,rv⟩:=r2.get g2;have N4:us.toArray[j]=u':=by
      rw[LG];exact Option.some.inj ((eS h1).symm.trans eu)
     have N3:vs.toArray[j]=v':=by
      rw[LG];exact Option.some.inj ((eS h2).symm.trans ev)
     rw[N4,N3];exact Yu I (n:=n) (by show A.units+1+n < cLine;lia) ru rv (he j _ _ g1 g2)
    rcases hs with ⟨h1,h2⟩|⟨h1,h2⟩
    ·obtain⟨us,r1,p1,_⟩:=I.list h1;obtain⟨vs,r2,p2,_⟩:=I.list h2;have l1:=r1.length;have l2:=r2.length;by_cases hl:xs.length=ys.length
     ·rw[eb,hl,beq_self_eq_true,DA,<-hl,show xs.length=us.toArray.size by rw[iR];exact l1];exact SeqAt.RcAt.lists p1.isList p2.isList (by rw[iR,iR];lia) (by lia) (items r1 r2)
     ·rw[eb,show(xs.length == ys.length)=false by simpa using hl,DC];exact SeqAt.RcAt.lists_lengths p1.isList p2.isList (by rw[iR,iR];simp;lia) (by lia)
    ·obtain⟨us,r1,p1,_⟩:=I.tuple h1;obtain⟨vs,r2,p2,_⟩:=I.tuple h2;have l1:=r1.length;have l2:=r2.length;have q:=SeqAt.RcAt.tuples (s:=s) (A:=A) (l:=p) (b:=q) (e:=e) p1 p2 (by lia) (items r1 r2);rw[iR,iR,<-l1,<-l2] at q;by_cases hl:xs.length=ys.length
     ·rw[eb,hl,beq_self_eq_true,DA];rw[hl,Nat.min_self,beq_self_eq_true,Bool.and_true] at q;exact q
     ·have hb:(xs.length == ys.length)=false:=by simpa using hl
      rw[eb,hb,DC];rw[hb,Bool.and_false] at q;exact q
def kT(K:W.Frag):R2:=λx y H Q=>∃b,ui K H 8 x y b/\Q (.bl b) H
def EV(K:W.Frag):R2:=λx y H Q=>∃b,ui K H 8 x y b/\Q (.bl (!b)) H
theorem uD{n:Nat}{A:Around}{xs ys:List V}{us vs:ah}{e:Nat->Bool}(I:Inv X pins σ H s)(hu:A.units+1+n < cLine)(he:∀(j:Nat) u v,xs[j]?=some u->ys[j]?=some v->ui X.K H n u v (e j))(r1:Vals xs us)(r2:Vals ys vs):∀j (h1:j < us.toArray.size) (h2:j < vs.toArray.size),SeqAt.EqAt A.in1 s us.toArray[j] vs.toArray[j] (e j):=λj h1 h2=>by
 have l1:=r1.length;have l2:=r2.length;rw[iR] at h1 h2;have g1:xs[j]?=some xs[j]:=eS (by lia);have g2:ys[j]?=some ys[j]:=eS (by lia);obtain⟨u',eu,ru⟩:=r1.get g1;obtain⟨v',ev,rv⟩:=r2.get g2;have N4:us.toArray[j]=u':=by
  rw[LG];exact Option.some.inj ((eS h1).symm.trans eu)
 have N3:vs.toArray[j]=v':=by
  rw[LG];exact Option.some.inj ((eS h2).symm.trans ev)
 rw[N4,N3];exact Yu I (n:=n) (by show A.units+1+n < cLine;lia) ru rv (he j _ _ g1 g2)
theorem aPW(ry:RelV y u)(rx:RelV x v)(fy:oI y=true)(fx:oI x=true):SeqAt.RcAt A s u v (eqV y x):=by
 cases y with
 |bt=>
  cases ry;cases x with
  |bt=>cases rx;exact SeqAt.RcAt.none_none
  |bl b=>cases rx;exact SeqAt.RcAt.none_bool b
  |int b=>obtain⟨t,rfl⟩:=rx;exact SeqAt.RcAt.none_int b t
  |str b=>obtain⟨t,rfl⟩:=rx;exact SeqAt.RcAt.none_str b t
  |_=>exact absurd (show false=true from fx) xI
 |bl a=>
  cases ry;cases x with
  |bt=>cases rx;exact SeqAt.RcAt.bool_none a
  |bl b=>cases rx;exact SeqAt.RcAt.bool_bool a b
  |int b=>obtain⟨t,rfl⟩:=rx;exact SeqAt.RcAt.bool_int a b t
  |str b=>obtain⟨t,rfl⟩:=rx;exact SeqAt.RcAt.bool_str a b t
  |_=>exact absurd (show false=true from fx) xI
 |int a=>
  obtain⟨t',rfl⟩:=ry;cases x with
  |bt=>cases rx;exact SeqAt.RcAt.int_none a t'
  |bl b=>cases rx;exact SeqAt.RcAt.int_bool a t' b
  |int b=>obtain⟨t,rfl⟩:=rx;exact SeqAt.RcAt.int_int a t' b t
  |str b=>obtain⟨t,rfl⟩:=rx;exact SeqAt.RcAt.int_str a t' b t
  |_=>exact absurd (show false=true from fx) xI
 |str a=>
  obtain⟨t',rfl⟩:=ry;cases x with
  |bt=>cases rx;exact SeqAt.RcAt.str_none a t'
  |bl b=>cases rx;exact SeqAt.RcAt.str_bool a t' b
  |int b=>obtain⟨t,rfl⟩:=rx;exact SeqAt.RcAt.str_int a t' b t
  |str b=>obtain⟨t,rfl⟩:=rx;exact SeqAt.RcAt.str_str a t' b t
  |_=>exact absurd (show false=true from fx) xI
 |_=>exact absurd (show false=true from fy) xI
theorem aLl(ry:RelV y u)(rx:RelV x v)(fy:oI y=true)(fx:oI x=true):SeqAt.RcNeAt A s u v (!eqV y x):=by
 cases y with
 |bt=>
  cases ry;cases x with
  |bt=>cases rx;exact SeqAt.RcNeAt.none_none
  |bl b=>cases rx;exact SeqAt.RcNeAt.none_bool b
  |int b=>obtain⟨t,rfl⟩:=rx;exact SeqAt.RcNeAt.none_int b t
  |str b=>obtain⟨t,rfl⟩:=rx;exact SeqAt.RcNeAt.none_str b t
  |_=>exact absurd (show false=true from fx) xI
 |bl a=>
  cases ry;cases x with
  |bt=>cases rx;exact SeqAt.RcNeAt.bool_none a
  |bl b=>cases rx;exact SeqAt.RcNeAt.bool_bool a b
  |int b=>obtain⟨t,rfl⟩:=rx;exact SeqAt.RcNeAt.bool_int a b t
  |str b=>obtain⟨t,rfl⟩:=rx;exact SeqAt.RcNeAt.bool_str a b t
  |_=>exact absurd (show false=true from fx) xI
 |int a=>
  obtain⟨t',rfl⟩:=ry;cases x with
  |bt=>cases rx;exact SeqAt.RcNeAt.int_none a t'
  |bl b=>cases rx;exact SeqAt.RcNeAt.int_bool a t' b
  |int b=>obtain⟨t,rfl⟩:=rx;exact SeqAt.RcNeAt.int_int a t' b t
  |str b=>obtain⟨t,rfl⟩:=rx;exact SeqAt.RcNeAt.int_str a t' b t
  |_=>exact absurd (show false=true from fx) xI
 |str a=>
  obtain⟨t',rfl⟩:=ry;cases x with
  |bt=>cases rx;exact SeqAt.RcNeAt.str_none a t'
  |bl b=>cases rx;exact SeqAt.RcNeAt.str_bool a t' b
  |int b=>obtain⟨t,rfl⟩:=rx;exact SeqAt.RcNeAt.str_int a t' b t
  |str b=>obtain⟨t,rfl⟩:=rx;exact SeqAt.RcNeAt.str_str a t' b t
  |_=>exact absurd (show false=true from fx) xI
 |_=>exact absurd (show false=true from fy) xI
theorem eB(hu:X.A.units+9 < cLine):rK X (compareOp .Eq) (kT X.K):=by
 intro pins s σ H x y v u Q I rx ry h;obtain⟨b,h,q⟩:=h;have fin:EP X pins σ Q (.bool b) s:=⟨.bl b,H,I,rfl,q⟩
 rcases h with ⟨h1,h2,e⟩|⟨p,l,xs,ys,e,e1,e2,hs,he,eb⟩
 ·exact aPW rx ry h1 h2 X.prog X.w X.xe _ (by rw[<-e];exact fin)
 ·subst e1 e2;cases rx;cases ry;rcases hs with ⟨h1,h2⟩|⟨h1,h2⟩
  ·obtain⟨us,r1,p1,_⟩:=I.list h1;obtain⟨vs,r2,p2,_⟩:=I.list h2;have l1:=r1.length;have l2:=r2.length;by_cases hl:xs.length=ys.length
   ·refine SeqAt.RcAt.lists p1.isList p2.isList (by rw[iR,iR];lia) (by lia) (uD I (n:=7) (A:=X.A) (by lia) he r1 r2) X.prog X.w X.xe _ ?_;rw[iR,<-l1];rw[eb,hl,beq_self_eq_true,DA,<-hl] at fin;exact fin
   ·refine SeqAt.RcAt.lists_lengths p1.isList p2.isList (by rw[iR,iR];simp;lia) (by lia) X.prog X.w X.xe _ ?_;rw[eb,show(xs.length == ys.length)=false by simpa using hl,DC] at fin;exact fin
  ·obtain⟨us,r1,p1,_⟩:=I.tuple h1;obtain⟨vs,r2,p2,_⟩:=I.tuple h2;have l1:=r1.length;have l2:=r2.length;refine SeqAt.RcAt.tuples p1 p2 (by lia) (uD I (n:=7) (A:=X.A) (by lia) he r1 r2) X.prog X.w X.xe _ ?_;rw[iR,iR,<-l1,<-l2];rw[eb] at fin;by_cases hl:xs.length=ys.length
   ·rw[hl,beq_self_eq_true,DA] at fin;rw[hl,Nat.min_self,beq_self_eq_true,Bool.and_true];exact fin
   ·have hb:(xs.length == ys.length)=false:=by simpa using hl
    rw[hb,DC] at fin;rw[hb,Bool.and_false];exact fin
theorem KJ(hu:X.A.units+9 < cLine):rK X (compareOp .NotEq) (EV X.K):=by
 intro pins s σ H x y v u Q I rx ry h;obtain⟨b,h,q⟩:=h;have fin:EP X pins σ Q (.bool (!b)) s:=⟨.bl (!b),H,I,rfl,q⟩
 rcases h with ⟨h1,h2,e⟩|⟨p,l,xs,ys,e,e1,e2,hs,he,eb⟩
 ·exact aLl rx ry h1 h2 X.prog X.w X.xe _ (by rw[<-e];exact fin)
 ·subst e1 e2;cases rx;cases ry;rcases hs with ⟨h1,h2⟩|⟨h1,h2⟩
  ·obtain⟨us,r1,p1,_⟩:=I.list h1;obtain⟨vs,r2,p2,_⟩:=I.list h2;have l1:=r1.length;have l2:=r2.length;by_cases hl:xs.length=ys.length
   ·refine SeqAt.RcNeAt.lists p1.isList p2.isList (by rw[iR,iR];lia) (by lia) (uD I (n:=7) (A:=X.A) (by lia) he r1 r2) X.prog X.w X.xe _ ?_;rw[iR,<-l1];rw[eb,hl,beq_self_eq_true,DA,<-hl] at fin;exact fin
   ·refine SeqAt.RcNeAt.lists_lengths p1.isList p2.isList (by rw[iR,iR];simp;lia) (by lia) X.prog X.w X.xe _ ?_;rw[eb,show(xs.length == ys.length)=false by simpa using hl,DC] at fin;exact fin
  ·obtain⟨us,r1,p1,_⟩:=I.tuple h1;obtain⟨vs,r2,p2,_⟩:=I.tuple h2;have l1:=r1.length;have l2:=r2.length;refine SeqAt.RcNeAt.tuples p1 p2 (by lia) (uD I (n:=7) (A:=X.A) (by lia) he r1 r2) X.prog X.w X.xe _ ?_;rw[iR,iR,<-l1,<-l2];rw[eb] at fin;by_cases hl:xs.length=ys.length
   ·rw[hl,beq_self_eq_true,DA] at fin;rw[hl,Nat.min_self,beq_self_eq_true,Bool.and_true];exact fin
   ·have hb:(xs.length == ys.length)=false:=by simpa using hl
    rw[hb,DC] at fin;rw[hb,Bool.and_false];exact fin
def CA(K:W.Frag)(H:Hp)(x:V)(c:V)(b:Bool):Prop:=∃t,xM K H x t/\((∃T,c=.ty T/\PySem.W.kitOne K t (.type T)=some b)\/(∃C,c=.ref C/\PySem.W.kitOne K t (.ref C)=some b))
theorem aLm:eJ X (.builtin "isinstance") (λxs H Q=>∃x c b,xs=[x,c]/\CA X.K H x c b/\Q (.bl b) H):=by
 intro pins s σ H xs us Q I r h;obtain⟨x,c,b,rfl,⟨t,ty,hc⟩,q⟩:=h;obtain⟨u,w',rfl,rx,ry⟩:=vals2 r;rcases hc with ⟨T,rfl,e⟩|⟨C,rfl,e⟩
 ·cases ry;exact Z7 I rx ty e λtk=>⟨.bl b,H,I.tok _,rfl,q⟩
 ·cases ry;exact Z7 I rx ty e λtk=>⟨.bl b,H,I.tok _,rfl,q⟩
def Wb(K:W.Frag):V->V->Hp->VK->Prop:=λx y H Q=>∃p xs i v,x=.ref p/\y=.int i/\bR K H p xs/\0<=i/\xs[i.toNat]?=some v/\Q v H
theorem aPX:Ot X (Wb X.K):=by
 intro pins s σ H x y v u Q I rx ry h;obtain⟨p,xs,i,z,rfl,rfl,hq,h0,he,q⟩:=h;cases rx;obtain⟨t,rfl⟩:=ry;obtain⟨its,r,pl,hz⟩:=I.list hq;obtain⟨w,ew,rb⟩:=r.get he;have hl:=r.length;have hn:=Fi;have hi:i.toNat < xs.length:=(lU.mp he).1;exact wpAny_getItem_list pl.isList h0 (by lia) (by simpa using ew) ⟨z,H,I,rb,q⟩
theorem gM{k:Nat}{A:Around}(hr:eK k A):A.units+9 < cLine:=by have:=hr.un;lia
end
section
variable{σ:St}{H:Hp}{nx bk ct:St->Hp->Prop}{rt:VK}{Q:VK}{QT:Bool->Hp->Prop}{QA:List V->Hp->Prop}{QG:St->Hp->Prop}
theorem aV{t:TS}{D:Ends}{σ σ':St}(e:σ'=σ)(h:t D σ H):t D σ' H:=e▸h
theorem Yt{u:TS}(h:t ⟨u ⟨nx,rt,bk,ct⟩,rt,bk,ct⟩ σ H):GI t u ⟨nx,rt,bk,ct⟩ σ H:=h
theorem aNw(h:nx σ H):O1 ⟨nx,rt,bk,ct⟩ σ H:=h
theorem aPY(h:te σ H λx H1=>g x σ H1 nx):Ce te g ⟨nx,rt,bk,ct⟩ σ H:=h
theorem aNx(h:te σ H λ_ H1=>nx σ H1):O0 te ⟨nx,rt,bk,ct⟩ σ H:=h
theorem aPZ(h:te σ H rt):Oz te ⟨nx,rt,bk,ct⟩ σ H:=h
theorem aP0(h:c σ H λb H1=>if b=true then t ⟨nx,rt,bk,ct⟩ σ H1 else u ⟨nx,rt,bk,ct⟩ σ H1):Oy c t u ⟨nx,rt,bk,ct⟩ σ H:=h
theorem aP1{i j:Nat}{ta:TA}(h:ta σ H λvs H1=>∃v w,vs=[v,w]/\nx ((σ.set i (some v)).set j (some w)) H1):Ov i j ta ⟨nx,rt,bk,ct⟩ σ H:=h
theorem Fg{i:Nat}(e:σ[i]?=some (some x))(h:te σ H λy H1=>ti x y H1 λz H2=>nx (σ.set i (some z)) H2):Ou i te ti ⟨nx,rt,bk,ct⟩ σ H:=⟨x,e,h⟩
theorem aNy{oo:V->V->Hp->VK->Prop}(h:to σ H λo H1=>ti σ H1 λi H2=>oo o i H2 λx H3=>te σ H3 λy H4=>AS x y H4 λz H5=>qc o i z H5 λH6=>nx σ H6):OZ to ti te oo AS qc ⟨nx,rt,bk,ct⟩ σ H:=h
theorem aP2{g:TG}(h:wi σ H λJ H1=>∃W:Nat->Nat->St->Hp->Prop,(∃m,W 0 m σ H1)/\∀i m σ H,W i m σ H->
 (J.stop i H/\nx σ H)\/(J.go i H/\∃N:St->Hp->Prop,(∀σ' H',N σ' H'->∃m',m' < m/\W (i+1) m' σ' H')/\∀x H',J.oq i H x H'->g x σ H' λσ2 H2=>tb ⟨N,rt,nx,N⟩ σ2 H2)):Oo wi g tb ⟨nx,rt,bk,ct⟩ σ H:=h
theorem aLo{i:Nat}(e:σ.set i (some v)=σ')(h:QG σ' H):qJ i v σ H QG:=by unfold qJ;rw[e];exact h
theorem cV{K:W.Frag}{n:Nat}{t:ze}{a:Addr}{xs:List V}(h1:iC K H a xs)(h2:xs.length=n)(h:t xs σ H QG):Kl K n t (.ref a) σ H QG:=⟨a,xs,rfl,h1,h2,h⟩
theorem aNz(h:QG σ H):Km [] σ H QG:=⟨rfl,h⟩
theorem aLp(h:t v σ H λσ' H'=>u r σ' H' QG):Kv t u (v::r) σ H QG:=⟨v,r,rfl,h⟩
theorem aNA(h:to σ H λo H1=>ti σ H1 λi H2=>t o i v H2 λH3=>QG σ H3):Ow to ti t v σ H QG:=h
theorem uE{xs:List V}{k:Int}{j:Nat}{QH:Hp->Prop}(h1:H p=some (.lst xs))(h2:pf xs.length k=some j)(h:QH (upd H p (.lst (xs.set j v)))):X5 (.ref p) (.int k) v H QH:=⟨p,xs,k,j,rfl,rfl,h1,h2,h⟩
theorem aP3{K:W.Frag}{p:Addr}{xs:List V}{i:Int}{v:V}(h1:bR K H p xs)(h0:0<=i)(h2:xs[i.toNat]?=some v)(h:Q v H):Wb K (.ref p) (.int i) H Q:=⟨p,xs,i,v,rfl,rfl,h1,h0,h2,h⟩
theorem aP4{f:Int->Int->Int}{i j:Int}(h:Q (.int (f i j)) H):MP f (.int i) (.int j) H Q:=⟨i,j,rfl,rfl,h⟩
theorem aP5{i:Nat}(e:σ[i]?=some (some v))(h:Q v H):OI i σ H Q:=⟨v,e,h⟩
theorem aR0(h:Q v H):tC v σ H Q:=h
theorem aRh(h:ta σ H λx H1=>tb σ H1 λy H2=>r x y H2 Q):AU r ta tb σ H Q:=h
theorem aRi{r:V->Hp->VK->Prop}(h:ta σ H λx H1=>r x H1 Q):Mh r ta σ H Q:=h
theorem aP6{g:Int->Int->V}{i j:Int}(h:Q (g i j) H):Aj g (.int i) (.int j) H Q:=⟨i,j,rfl,rfl,h⟩
theorem aRj{C:Int->Int->Prop}{g:Int->Int->V}{i j:Int}(c:C i j)(h:Q (g i j) H):rI C g (.int i) (.int j) H Q:=⟨i,j,rfl,rfl,c,h⟩
theorem aRk{g:Int->V}{i:Int}(h:Q (g i) H):rU g (.int i) H Q:=⟨i,rfl,h⟩
theorem aNB{i j:Int}(h:Q (.int (i+j)) H):OR (.int i) (.int j) H Q:=.inl ⟨i,j,rfl,rfl,h⟩
theorem iT{xs zs:List V}(h1:H l=some (.lst xs))(h2:H b=some (.lst zs))(hz:xs.length+zs.length<=sizeLine)(h:∀p,H p=none->Q (.ref p) (upd H p (.lst (xs++zs)))):OR (.ref l) (.ref b) H Q:=.inr ⟨l,b,xs,zs,rfl,rfl,h1,h2,hz,h⟩
theorem aNC{i j:Int}(c:GG i j)(h:Q (.int (i*j)) H):X3 (.int i) (.int j) H Q:=.inl ⟨i,j,rfl,rfl,c,h⟩
theorem GW{K:W.Frag}{p:Addr}{xs:List V}{i:Int}{v:V}(h1:bR K H p xs)(h2:uP xs i=some v)(h:Q v H):Ja K (.ref p) (.int i) H Q:=.inl ⟨p,xs,i,v,rfl,rfl,h1,h2,h⟩
theorem aP7{K:W.Frag}{p:Addr}{xs:List V}{i:Int}{v:V}(h1:iC K H p xs)(h2:uP xs i=some v)(h:Q v H):Ja K (.ref p) (.int i) H Q:=.inr (.inl ⟨p,xs,i,v,rfl,rfl,h1,h2,h⟩)
theorem aRl{r:V->Option Int->Option Int->Hp->VK->Prop}(h:te σ H λx H1=>tl σ H1 λl H2=>th σ H2 λu H3=>r x l u H3 Q):Mi r te tl th σ H Q:=h
theorem aJT{QO:Option Int->Hp->Prop}(h:QO none H):P4 σ H QO:=h
theorem aND{QO:Option Int->Hp->Prop}(h:t σ H λx H1=>∃i,x=.int i/\QO (some i) H1):O8 t σ H QO:=h
theorem lY{K:W.Frag}{a:Addr}{xs:List V}{lo hi:Option Int}(h1:bR K H a xs)(h:∀p,H p=none->Q (.ref p) (upd H p (.lst (kE xs lo hi)))):zc K (.ref a) lo hi H Q:=.inl ⟨a,xs,rfl,h1,h⟩
theorem aNE(h:ta σ H λx H1=>∃c,x=.bl c/\if c=true then tb σ H1 Q else Q (.bl false) H1):O3 ta tb σ H Q:=h
theorem aP8(h:ta σ H λx H1=>∃c,x=.bl c/\if c=true then Q (.bl true) H1 else tb σ H1 Q):OA ta tb σ H Q:=h
theorem aNF(h:ta σ H λx H1=>∃c,x=.bl c/\Q (.bl (!c)) H1):O2 ta σ H Q:=h
theorem aP9{t:TT}{ta tb:TE}(h:t σ H λc H1=>if c=true then ta σ H1 Q else tb σ H1 Q):Ml t ta tb σ H Q:=h
theorem aLq(h:ta σ H λx H1=>tb σ H1 λy H2=>r x y H2 λz H3=>∃k,z=.bl k/\(if k=true then tc σ H3 λw' H4=>r' y w' H4 Q else Q (.bl false) H3)):PC r r' ta tb tc σ H Q:=h
theorem aNG(h:t σ H λx H'=>∃k,x=.bl k/\QT k H'):OX t σ H QT:=h
theorem aRm(h:t σ H λx H'=>∃k,x=.bl k/\QT k H'):tB t σ H QT:=h
theorem aQa(h:t σ H λc H1=>if c=true then u σ H1 QT else QT false H1):OH t u σ H QT:=h
theorem aRn(h:t σ H λc H1=>if c=true then QT true H1 else u σ H1 QT):Mj t u σ H QT:=h
theorem aQb(h:t σ H λc H1=>QT (!c) H1):OG t σ H QT:=h
theorem aQc(h:QT true H):OB σ H QT:=h
theorem aRo{b:Bool}{P:Bool->Prop}(h:P b):∃k,V.bl b=V.bl k/\P k:=⟨b,rfl,h⟩
theorem aNH{i:Int}{P:Int->Prop}(h:P i):∃k,V.int i=V.int k/\P k:=⟨i,rfl,h⟩
theorem aRp{i:Int}{P:Int->Prop}(h:P i):∃k,[V.int i]=[V.int k]/\P k:=⟨i,rfl,h⟩
theorem aRq{i j:Int}{P:Int->Int->Prop}(h:P i j):∃k l,[V.int i,V.int j]=[V.int k,V.int l]/\P k l:=⟨i,j,rfl,h⟩
theorem aQd(h:QA [] H):kR σ H QA:=h
theorem aNI(h:ta σ H λx H1=>tr σ H1 λxs H2=>QA (x::xs) H2):bN ta tr σ H QA:=h
theorem aQe(h:t σ H λxs H1=>xs.length<=sizeLine/\∀p,H1 p=none->Q (.ref p) (upd H1 p (.tup xs))):Cd t σ H Q:=h
theorem aQf(h:t σ H λxs H1=>xs.length<=sizeLine/\∀p,H1 p=none->Q (.ref p) (upd H1 p (.lst xs))):wL t σ H Q:=h
theorem aNJ(h:t σ H λvs H1=>sp vs H1 Q E):EZ sp [] E t σ H Q:=by
 unfold EZ;simpa only [pz] using h
theorem aRr{r:List V->Hp->VK->Prop}(h:t σ H λvs H1=>r vs H1 Q):CK r t σ H Q:=h
theorem aNK{k:Nat}{idx:List Nat}(h:wi σ H λJ H1=>kS J (xu k idx σ) g tt te (λys H'=>∀p,H' p=none->Q (.ref p) (upd H' p (.lst ys))) H1):GJ wi k idx g tt te σ H Q:=h
theorem aLr{R:It->Hp->Prop}(h:ta σ H λvs H1=>∃j:Int,vs=[.int j]/\-(2 ^ 62)<=j/\j < 2 ^ 62/\R (vh 0 j.toNat) H1):Ku ta σ H R:=h
theorem aLs{R:It->Hp->Prop}(h:ta σ H λvs H1=>∃i j:Int,vs=[.int i,.int j]/\(-(2 ^ 62)<=i/\i < 2 ^ 62/\-(2 ^ 62)<=j/\j < 2 ^ 62)/\R (vh i (j - i).toNat) H1):Kt ta σ H R:=h
theorem aQg{K:W.Frag}{ta:TE}{f:Str}(h:ta σ H λx H1=>∃a C dx fs v,x=.ref a/\H1 a=some (.ins C dx fs)/\mw K C/\cX K C f/\fs.lookup f=some v/\Q v H1):OF K ta f σ H Q:=h
theorem aNL{n:Nat}{P:Prop}(h1:n<=sizeLine)(h:P):n<=sizeLine/\P:=⟨h1,h⟩
theorem cB{n:Nat}(h:n<=16777216):n<=sizeLine:=by rw[ud];exact h
end
section
variable{A B:Prop}{c:Prop}[Decidable c]
theorem cA(h1:c->A)(h2:¬c->B):if decide c=true then A else B:=by
 by_cases h:c
 ·rw[cO (mi h)];exact h1 h
 ·rw[bZ (by simpa using h)];exact h2 h
theorem aNM(h1:¬c->A)(h2:c->B):if (!decide c)=true then A else B:=by
 by_cases h:c
 ·rw[bZ (by simpa using h)];exact h2 h
 ·rw[cO (by simpa using h)];exact h1 h
theorem iE{b:Bool}(h1:b=true->A)(h2:b=false->B):if b=true then A else B:=by
 cases b
 ·exact Kh (h2 rfl)
 ·exact Kg (h1 rfl)
end
def X2(sc:Scope)(NX:ak)(scope:Scope)(N:ak)(k:Nat)(idx:List Nat):Bool:=
 scope.names.all (λy=>!(y.2 == .cell)) && scope.names.all (λy=>!(y.2 == .local) || scope.names.lookup y.1 == some .local) &&
 scope.names.all (λy=>!(y.2 == .free) || (sc.names.lookup y.1 == some .cell || sc.names.lookup y.1 == some .free)) &&
 decide N.Nodup && decide (N.length=k+idx.length) && (List.range idx.length).all λi=>
  match (N.drop k)[i]?,idx[i]? with
  |some x,some j=>decide (NX[j]?=some x) && scope.names.lookup x == some .free
  |_,_=>false
theorem dJ{X:Cx}{scope:Scope}{k:Nat}{idx:List Nat}(hsc:X.env.scope=sc)(hN:X.N=NX)(hk:scope.kind=.function)(h:X2 sc NX scope N k idx=true):eU X scope N k idx:=by
 unfold X2 at h;simp only[wm,decide_eq_true_eq] at h;obtain⟨⟨⟨⟨⟨h1,h2⟩,h3⟩,h4⟩,h5⟩,h6⟩:=h;rw[DG] at h1 h2 h3 h6;refine⟨hk,λy hy e=>?_,λy hy e=>?_,λy hy e=>?_,h4,h5,λi x e=>?_⟩
 ·have:=h1 y hy;rw[e] at this;simp at this
 ·have:=h2 y hy;rw[e] at this;simpa using this
 ·have:=h3 y hy;rw[e] at this;show X.env.scope.names.lookup y.1=_\/X.env.scope.names.lookup y.1=_;rw[hsc];simpa using this
 ·have hi:i < (N.drop k).length:=(lU.mp e).1;have Nq:i < idx.length:=by rw[G7] at hi;lia
  have q:=h6 i (zf.mpr Nq);rw[e,eS Nq] at q;simp only[wm,decide_eq_true_eq] at q;exact⟨idx[i],eS Nq,by rw[hN];exact q.1,by simpa using q.2⟩
theorem bB{H:Hp}{a b:Addr}{o:HO}(h':H b=none)(h:H a=some o):a≠b:=bM h h'
theorem aO.at(e:aO H H')(h:H b=some o):H' b=some o:=e b o h
def bL(p:Addr)(H H':Hp):Prop:=∀b o,H b=some o->b≠p->H' b=some o
theorem bL.at(e:bL p H H')(h:H b=some o)(n:b≠p):H' b=some o:=e b o h n
theorem aO.new(h:H p=none):aO H (upd H p o):=λb u e=>by rw[aT (bM e h)];exact e
theorem bL.upd:bL p H (upd H p o):=λb u e n=>by rw[aT n];exact e
theorem bL.trans(a:bL p H H1)(b:bL p H1 H2):bL p H H2:=λc o h n=>b c o (a c o h n) n
theorem aO.keep(a:aO H H'):bL p H H':=λc o h _=>a c o h
section
variable{σ:St}{H:Hp}{nx bk ct:St->Hp->Prop}{rt:VK}
theorem fW{t u:TS}(J:St->Hp->Prop)(h1:∀N:St->Hp->Prop,(∀σ' H',J σ' H'->N σ' H')->t ⟨N,rt,bk,ct⟩ σ H)(h2:∀σ' H',J σ' H'->u ⟨nx,rt,bk,ct⟩ σ' H'):GI t u ⟨nx,rt,bk,ct⟩ σ H:=h1 _ h2
end
theorem Qm{K:W.Frag}{a:Addr}{xs:List V}{σ₀:St}{g:TG}{tt:TT}{te:TE}{R:List V->Hp->Prop}{H:Hp}(f:V->V)(hS:bR K H a xs)(hz:xs.length<=sizeLine)
  (hs:∀x (N:V->Hp->Prop) (N':Hp->Prop),x∈xs->N (f x) H->g x σ₀ H λσ2 H2=>tt σ2 H2 λb H3=>if b=true then te σ2 H3 λy H4=>N y H4 else N' H3)
  (hd:R (xs.map f) H):kS (wq K a) σ₀ g tt te R H:=by
 refine fR (λi ys H'=>H'=H/\ys=(xs.take i).map f) ⟨rfl,by simp⟩ hz (λi ys H' hi z1q=>?_) (λi x ys H' hx z2q=>?_) (λys H' z3q=>?_)
 ·obtain⟨e1,e2⟩:=z1q;subst e1 e2;exact⟨hS,by simp;lia⟩
 ·obtain⟨e1,e2⟩:=z2q;subst e1 e2;refine hs x (λy H4=>H4=H'/\(xs.take i).map f ++ [y]=(xs.take (i+1)).map f) (λH3=>H3=H'/\(xs.take i).map f=(xs.take (i+1)).map f) (kP hx) ⟨rfl,?_⟩;rw[Cu,hx,iK];rfl
 ·obtain⟨e1,e2⟩:=z3q;subst e1 e2;rw[uC];exact hd
theorem aHQ{lo:Int}{n:Nat}{g:TG}{R:List V->Hp->Prop}(f:Nat->V)(hz:n<=sizeLine)(hs:∀i (N:V->Hp->Prop) (N':Hp->Prop),i < n->N (f i) H->g (.int (lo+i)) σ₀ H λσ2 H2=>tt σ2 H2 λb H3=>if b=true then te σ2 H3 λy H4=>N y H4 else N' H3)(hd:R ((List.range n).map f) H):kS (vh lo n) σ₀ g tt te R H:=by
 refine jN (λi ys H'=>H'=H/\ys=(List.range i).map f) ⟨rfl,by simp⟩ hz (λi ys H' hi z4q=>?_) (λi ys H' hi z5q=>?_) (λys H' z6q=>?_)
 ·obtain⟨e1,e2⟩:=z4q;subst e1 e2;simp
 ·obtain⟨e1,e2⟩:=z5q;subst e1 e2;refine hs i (λy H4=>H4=H'/\(List.range i).map f ++ [y]=(List.range (i+1)).map f) (λH3=>H3=H'/\(List.range i).map f=(List.range (i+1)).map f) hi ⟨rfl,?_⟩;rw[List.range_succ,iK];rfl
 ·obtain⟨e1,e2⟩:=z6q;subst e1 e2;exact hd
theorem aNN{X:Cx}{n:Int}(hg:Gl X x)(hm:∃t,X.mg x=some (.int n t))(hd:(x == ("__debug__" : Str))=false:=by decide):PE X (.Name x pos) (tC (.int n)):=by
 obtain⟨t,hm⟩:=hm;exact Y9 (v:=.int n) hg hm ⟨t,rfl⟩ hd
section
variable{X:Cx}{K:W.Frag}{H:Hp}{Q:VK}
def uR(K:W.Frag):List V->Hp->VK->Prop:=λxs H Q=>∃x n,xs=[x]/\XN K x H n/\Q (.int n) H
theorem dY:eJ X (.builtin "len") (uR X.K):=aKU
theorem aNO{xs:List V}(h:bR K H p xs)(q:Q (.int xs.length) H):uR K [.ref p] H Q:=⟨_,_,rfl,.inl ⟨_,h,rfl⟩,q⟩
theorem aNP{xs:List V}(h:iC K H p xs)(q:Q (.int xs.length) H):uR K [.ref p] H Q:=⟨_,_,rfl,.inr ⟨_,h,rfl⟩,q⟩
def Xw:List V->Hp->VK->Prop:=λxs H Q=>∃i,xs=[.int i]/\Q (.int (if i < 0 then -i else i)) H
theorem aJU:eJ X (.builtin "abs") Xw:=aKT
theorem aQh{i:Int}(h:Q (.int (if i < 0 then -i else i)) H):Xw [.int i] H Q:=⟨i,rfl,h⟩
def Xv:List V->Hp->VK->Prop:=λxs H Q=>∃i j,xs=[.int i,.int j]/\Q (.int (if j > i then j else i)) H
theorem jP(hc:X.calm=true):eJ X (.builtin "max") Xv:=aJC hc
theorem aQi{i j:Int}(h:Q (.int (max i j)) H):Xv [.int i,.int j] H Q:=⟨i,j,rfl,by
 rw[show(if j > i then j else i)=max i j by split <;> lia];exact h⟩
def Xu:List V->Hp->VK->Prop:=λxs H Q=>∃i j,xs=[.int i,.int j]/\Q (.int (if j < i then j else i)) H
theorem dZ(hc:X.calm=true):eJ X (.builtin "min") Xu:=aJD hc
theorem aQj{i j:Int}(h:Q (.int (min i j)) H):Xu [.int i,.int j] H Q:=⟨i,j,rfl,by
 rw[show(if j < i then j else i)=min i j by split <;> lia];exact h⟩
def X1:List V->Hp->VK->Prop:=λxs H Q=>(∃i,xs=[.int i]/\Q (.int i) H)\/∃k,xs=[.bl k]/\Q (.int (if k then 1 else 0)) H
theorem Z1:eJ X (.type "int") X1:=aJE
theorem aNQ{b:Bool}(h:Q (.int (if b then 1 else 0)) H):X1 [.bl b] H Q:=.inr ⟨b,rfl,h⟩
def zb(K:W.Frag):List V->Hp->VK->Prop:=λxs H Q=>∃x c b,xs=[x,c]/\CA K H x c b/\Q (.bl b) H
theorem gO:eJ X (.builtin "isinstance") (zb X.K):=aLm
theorem pE{b:Bool}(h1:CA K H x c b)(h:Q (.bl b) H):zb K [x,c] H Q:=⟨x,c,b,rfl,h1,h⟩
def m7(K:W.Frag):List V->Hp->VK->Prop:=λxs H Q=>∃p ys,xs=[.ref p]/\(bR K H p ys\/iC K H p ys)/\∀l,H l=none->Q (.ref l) (upd H l (.lst ys))
theorem jQ:eJ X (.type "list") (m7 X.K):=aFa
theorem oJ(h1:bR K H p ys)(h:∀l,H l=none->Q (.ref l) (upd H l (.lst ys))):m7 K [.ref p] H Q:=⟨p,ys,rfl,.inl h1,h⟩
end
theorem PN{K:W.Frag}{H:Hp}{p q:Addr}{xs:List V}(h1:bR K H p xs)(h2:bR K H q []):ui K H 8 (.ref p) (.ref q) xs.isEmpty:=
 .inr ⟨p,q,xs,[],λ_=>true,rfl,rfl,.inl ⟨h1,h2⟩,λj u v _ e=>by simp at e,by cases xs <;> simp⟩
theorem aLt{xs:List V}{n:Nat}(h:xs.length<=n):kE xs none (some (n:Int))=xs:=by
 unfold kE;rw[HT.xN,HT.K0,Nat.min_eq_right h,List.drop_zero,Nat.sub_zero,uC]
section
variable{σ:St}{H:Hp}{nx:St->Hp->Prop}{rt:VK}{g:TG}{tb:TS}{Q:VK}
theorem lZ{lo:Int}{n:Nat}(Pv:Nat->St->Hp->Prop)(h0:Pv 0 σ H)
  (hs:∀i σ H,i < n->Pv i σ H->g (.int (lo+i)) σ H λσ2 H2=>tb ⟨Pv (i+1),rt,nx,Pv (i+1)⟩ σ2 H2) (hd:∀σ H,Pv n σ H->nx σ H) :
  ∃W:Nat->Nat->St->Hp->Prop,(∃m,W 0 m σ H)/\∀i m σ H,W i m σ H->
   ((vh lo n).stop i H/\nx σ H)\/((vh lo n).go i H/\∃N:St->Hp->Prop,(∀σ' H',N σ' H'->∃m',m' < m/\W (i+1) m' σ' H')/\∀x H',(vh lo n).oq i H x H'->g x σ H' λσ2 H2=>tb ⟨N,rt,nx,N⟩ σ2 H2):=
 aJB (D:=⟨nx,rt,λ_ _=>False,λ_ _=>False⟩) Pv h0 hs hd
theorem eT{K:W.Frag}{a:Addr}{xs:List V}(Pv:Nat->St->Hp->Prop)(h0:Pv 0 σ H)(hl:∀i σ H,i<=xs.length->Pv i σ H->bR K H a xs)
  (hs:∀i x σ H,xs[i]?=some x->Pv i σ H->g x σ H λσ2 H2=>tb ⟨Pv (i+1),rt,nx,Pv (i+1)⟩ σ2 H2) (hd:∀σ H,Pv xs.length σ H->nx σ H) :
  ∃W:Nat->Nat->St->Hp->Prop,(∃m,W 0 m σ H)/\∀i m σ H,W i m σ H->
   ((wq K a).stop i H/\nx σ H)\/((wq K a).go i H/\∃N:St->Hp->Prop,(∀σ' H',N σ' H'->∃m',m' < m/\W (i+1) m' σ' H')/\∀x H',(wq K a).oq i H x H'->g x σ H' λσ2 H2=>tb ⟨N,rt,nx,N⟩ σ2 H2):=
 aKP (D:=⟨nx,rt,λ_ _=>False,λ_ _=>False⟩) Pv h0 hl hs hd
theorem aQk{K:W.Frag}{a:Addr}{xs:List V}(Pv:Nat->St->Hp->Prop)(h0:Pv 0 σ H)(hl:∀i σ H,i<=xs.length->Pv i σ H->iC K H a xs)
  (hs:∀i x σ H,xs[i]?=some x->Pv i σ H->g x σ H λσ2 H2=>tb ⟨Pv (i+1),rt,nx,Pv (i+1)⟩ σ2 H2) (hd:∀σ H,Pv xs.length σ H->nx σ H) :
  ∃W:Nat->Nat->St->Hp->Prop,(∃m,W 0 m σ H)/\∀i m σ H,W i m σ H->
   ((zi K a).stop i H/\nx σ H)\/((zi K a).go i H/\∃N:St->Hp->Prop,(∀σ' H',N σ' H'->∃m',m' < m/\W (i+1) m' σ' H')/\∀x H',(zi K a).oq i H x H'->g x σ H' λσ2 H2=>tb ⟨N,rt,nx,N⟩ σ2 H2):=
 aM6 (D:=⟨nx,rt,λ_ _=>False,λ_ _=>False⟩) Pv h0 hl hs hd
theorem aQl{K:W.Frag}{i j:Int}(h:Q (.bl (decide (i=j))) H):kT K (.int i) (.int j) H Q:=⟨_,.inl ⟨rfl,rfl,rfl⟩,h⟩
theorem aQm{K:W.Frag}{i j:Int}(h:Q (.bl (!decide (i=j))) H):EV K (.int i) (.int j) H Q:=⟨_,.inl ⟨rfl,rfl,rfl⟩,h⟩
end
def noStar:Expr->Bool
 |.Starred _ _=>false
 |_=>true
theorem bO(h:noStar e=true):starEach (e::es) env=(false,eval e env)::starEach es env:=by
 cases e <;> first|rfl|exact absurd h xI
theorem iU:∀{es:List Expr},es.all noStar=true->(backTo pos (starEach es env)).any (·.1)=false
 |[],_=>rfl
 |e::es,h=>by
  rw[List.all_cons,wm] at h;rw[bO h.1];have ih:=iU (env:=env) (pos:=pos) h.2;unfold backTo at ih ⊢;rw[uY,List.any_cons];rw[ih];rfl
section
variable{X:Cx}{CX:vi}{k:Nat}{f C:Addr}{fd:FuncData}{ps:ak}{sp:Sp}{fo:List V}{ds:ah}{E:XK}{x m:Str}{p pos apos:Pos}{e o:Expr}{es:List Expr}{ta te:TE}{t:TA}
theorem hU(ha:PE X e te)(hr:PA X es t)(hs:noStar e=true:=by rfl):PA X (e::es) (bN te t):=aNc ha hr (bO hs)
theorem gY{es:List Expr}(h:(e::es).all noStar=true):noStar e=true/\es.all noStar=true:=by
 rw[List.all_cons,wm] at h;exact h
theorem aLu(F:bT X.prog X.w X.K X.mg X.base CX k f fd ps sp)(hr:eK k X.A)(hg:Gl X x)(hm:X.mg x=some (.ref f))(hk:W.keepIn X.K (.ref f)=true)(hb:Binds X.K fd ps ds)(hd:Vals fo ds)(hx:Passes CX X E)
  (ha:PA X (e::es) t) (hn:(e::es).all noStar=true:=by rfl) (jf:(x == ("__debug__" : Str))=false:=by decide):PE X (.Call (.Name x p) (e::es) [] pos) (EZ sp fo E t):=
 aNd F hr hg hm hk hb hd hx ha jf (bO (gY hn).1) (iU (gY hn).2)
theorem aLv(M:Mk X.K C f)(F:bT X.prog X.w X.K X.mg X.base CX k f fd ps sp)(hr:eK (k+1) X.A)(hg:Gl X x)(hm:X.mg x=some (.ref C))(hb:Binds X.K fd ps ds)(hd:Vals fo ds)(hx:Passes CX X E)
  (ha:PA X (e::es) t) (hn:(e::es).all noStar=true:=by rfl) (jf:(x == ("__debug__" : Str))=false:=by decide):PE X (.Call (.Name x p) (e::es) [] pos) (GL C sp fo E t):=
 aNf M F hr hg hm hb hd hx ha jf (bO (gY hn).1) (iU (gY hn).2)
variable{id T:String}{r:List V->Hp->VK->Prop}
theorem aJV(hc:eJ X (.builtin id) r)(hg:Gl X x)(hm:X.mg x=none)(hv:bootBuiltins x=some (.builtin id))(ha:PA X (e::es) t)(hn:(e::es).all noStar=true:=by rfl)(bw:x≠"__name__":=by decide)(jf:(x == ("__debug__" : Str))=false:=by decide) :
  PE X (.Call (.Name x p) (e::es) [] pos) (CK r t):=aK0 hc hg hm hv ha bw jf (bO (gY hn).1) (iU (gY hn).2)
theorem aHR(hc:eJ X (.type T) r)(hg:Gl X x)(hm:X.mg x=none)(hv:bootBuiltins x=some (.type T))(ha:PA X (e::es) t)(hn:(e::es).all noStar=true:=by rfl)(bw:x≠"__name__":=by decide)(jf:(x == ("__debug__" : Str))=false:=by decide) :
  PE X (.Call (.Name x p) (e::es) [] pos) (CK r t):=aJI hc hg hm hv ha bw jf (bO (gY hn).1) (iU (gY hn).2)
variable{tg a b:Expr}
theorem aHS(hg:Gl X "range")(hm:X.mg "range" = none)(ha:PA X [a] t)(hn:noStar a=true:=by rfl):PI X tg (.Call (.Name "range" p) [a] [] pos) (Ku t):=aJy hg hm ha (bO hn)
theorem aHT(hg:Gl X "range")(hm:X.mg "range" = none)(ha:PA X [a,b] t)(hn:noStar a=true:=by rfl)(rg:noStar b=true:=by rfl):PI X tg (.Call (.Name "range" p) [a,b] [] pos) (Kt t):=
 aJz hg hm ha (by rw[bO hn,bO rg];rfl) (bO rg)
end
section
variable{X:Cx}{pos:Pos}{x1:Nat}{e1 e2 e3 e4 e5 e6 e7 e8:Expr}{t1 t2 t3 t4 t5 t6 t7 t8:TE}
theorem aR1(h1:PE X e1 t1)(n1:noStar e1=true:=by rfl):PE X (.List [e1] pos) (wL (bN t1 kR)):=wM (hU h1 nR n1)
theorem aR2(h1:PE X e1 t1)(h2:PE X e2 t2)(n1:noStar e1=true:=by rfl)(n2:noStar e2=true:=by rfl):PE X (.List [e1,e2] pos) (wL (bN t1 (bN t2 kR))):=wM (hU h1 (hU h2 nR n2) n1)
theorem aR3{k1}(h1:PE X e1 t1)(h2:PE X e2 t2)(n1:noStar e1=true:=by rfl)(n2:noStar e2=true:=by rfl):PE X (.Tuple [e1,e2] k1 pos) (Cd (bN t1 (bN t2 kR))):=PB (hU h1 (hU h2 nR n2) n1)
theorem aR4(h1:PE X e1 t1)(h2:PE X e2 t2)(h3:PE X e3 t3)(n1:noStar e1=true:=by rfl)(n2:noStar e2=true:=by rfl)(n3:noStar e3=true:=by rfl):PE X (.List [e1,e2,e3] pos) (wL (bN t1 (bN t2 (bN t3 kR)))):=wM (hU h1 (hU h2 (hU h3 nR n3) n2) n1)
theorem aR5{k1}(h1:PE X e1 t1)(h2:PE X e2 t2)(h3:PE X e3 t3)(n1:noStar e1=true:=by rfl)(n2:noStar e2=true:=by rfl)(n3:noStar e3=true:=by rfl):PE X (.Tuple [e1,e2,e3] k1 pos) (Cd (bN t1 (bN t2 (bN t3 kR)))):=PB (hU h1 (hU h2 (hU h3 nR n3) n2) n1)
theorem aR6(h1:PE X e1 t1)(h2:PE X e2 t2)(h3:PE X e3 t3)(h4:PE X e4 t4)(n1:noStar e1=true:=by rfl)(n2:noStar e2=true:=by rfl)(n3:noStar e3=true:=by rfl)(n4:noStar e4=true:=by rfl):PE X (.List [e1,e2,e3,e4] pos) (wL (bN t1 (bN t2 (bN t3 (bN t4 kR))))):=wM (hU h1 (hU h2 (hU h3 (hU h4 nR n4) n3) n2) n1)
theorem aR7{k1}(h1:PE X e1 t1)(h2:PE X e2 t2)(h3:PE X e3 t3)(h4:PE X e4 t4)(n1:noStar e1=true:=by rfl)(n2:noStar e2=true:=by rfl)(n3:noStar e3=true:=by rfl)(n4:noStar e4=true:=by rfl):PE X (.Tuple [e1,e2,e3,e4] k1 pos) (Cd (bN t1 (bN t2 (bN t3 (bN t4 kR))))):=PB (hU h1 (hU h2 (hU h3 (hU h4 nR n4) n3) n2) n1)
theorem aR8(h1:PE X e1 t1)(h2:PE X e2 t2)(h3:PE X e3 t3)(h4:PE X e4 t4)(h5:PE X e5 t5)(n1:noStar e1=true:=by rfl)(n2:noStar e2=true:=by rfl)(n3:noStar e3=true:=by rfl)(n4:noStar e4=true:=by rfl)(n5:noStar e5=true:=by rfl):PE X (.List [e1,e2,e3,e4,e5] pos) (wL (bN t1 (bN t2 (bN t3 (bN t4 (bN t5 kR)))))):=wM (hU h1 (hU h2 (hU h3 (hU h4 (hU h5 nR n5) n4) n3) n2) n1)
theorem aR9(h1:PE X e1 t1)(h2:PE X e2 t2)(h3:PE X e3 t3)(h4:PE X e4 t4)(h5:PE X e5 t5)(h6:PE X e6 t6)(h7:PE X e7 t7)(n1:noStar e1=true:=by rfl)(n2:noStar e2=true:=by rfl)(n3:noStar e3=true:=by rfl)(n4:noStar e4=true:=by rfl)(n5:noStar e5=true:=by rfl)(n6:noStar e6=true:=by rfl)(n7:noStar e7=true:=by rfl):PE X (.List [e1,e2,e3,e4,e5,e6,e7] pos) (wL (bN t1 (bN t2 (bN t3 (bN t4 (bN t5 (bN t6 (bN t7 kR)))))))):=wM (hU h1 (hU h2 (hU h3 (hU h4 (hU h5 (hU h6 (hU h7 nR n7) n6) n5) n4) n3) n2) n1)
end
section
variable{X:Cx}{pins:ao}{σ:St}{H:Hp}{s:Shared}{h':Heap}
theorem Inv.uF{t':Nat}{ch:au}{T:Addr}{o:HO}(I:Inv X pins σ H s)(k:∀b u,b∉ch->s.heap.get? b=some u->h'.get? b=some u)
  (qi:∀b∈ch,xJ X pins H b) (hT:s.heap.objs.size<=T) (new:bS X.prog X.w (upd H T o) h' T o):Inv X pins σ (upd H T o) { s with heap:=h',toks:=t' }:=by
 have hn:H T=none:=I.bc.fresh hT;have BY:∀b u,H b=some u->b∉ch:=λb u e z=>by rw[(qi b z).1] at e;cases e
 have neT:∀b u,H b=some u->b≠T:=λb u e=>bM e hn;refine I.step (g':=s.gens) (d':=s.drawn) (ch:=ch) (λb hb=>?_) (λb u _ _ hc e _=>k b u hc e) (λb u _ _ hc e _=>⟨u.slots,k b u hc e⟩) (λb u hc e n=>?_)
  (λb u hc e=>⟨u,k b u hc e⟩) (λb xs e=>?_) (λb u v e=>?_) (λb ps e=>⟨#[],?_⟩) (λm hm=>?_) (λb u e=>?_) I.bare
 ·obtain⟨f0,f1,f2,f3,f4,f5⟩:=qi b hb;exact⟨f3,f1,f4,f5⟩
 ·rw[aT (oH (qI (iB e) hT))];exact n
 ·rw[aT (neT _ _ e)];exact e
 ·rw[aT (neT _ _ e)];exact e
 ·rw[aT (neT _ _ e),e];simp
 ·obtain⟨u,es,ep,ho,r⟩:=hm;exact⟨u,es,ep,k _ u (λz=>(qi _ z).2.1 rfl) ho,r⟩
 ·by_cases hb:b=T
  ·subst hb;rw[aN] at e;cases e;exact new
  ·rw[aT hb] at e;refine(I.bc b u e).wK (λc v hc q=>k c v ?_ q) (λc q=>by rw[aT (bM q hn)];exact q) λc xs _ q=>by rw[aT (bM q hn)];exact q
   rcases hc with z|z
   ·rw[z];exact BY b u e
   ·exact BY c _ z
end
def DQ(K:W.Frag)(a:Addr):It:=
 ⟨λi H=>∃xs x,bR K H a xs/\xs[i]?=some x,λi H x H'=>∃T v,H T=none/\x=.ref T/\H'=upd H T (.tup [.int i,v])/\∀xs,bR K H a xs->xs[i]?=some v,λi H=>∃xs,bR K H a xs/\xs.length<=i⟩
theorem aJW{P:Program}{w:World}{K:W.Frag}{elts:List Expr}{x1:Nat}{tp:Pos}(a e it:Addr)(VG:e≠it) :
  Turn P w K (.Tuple elts x1 tp) (DQ K a) [e,it] e (λi h=>(∃old,IsEnum h e it ((i:Nat):Int) old)/\h.IsListIter it a i) where
 mem:=by simp
 obj:=λi h st b hb=>by
  obtain⟨⟨old,he⟩,st⟩:=st;rcases lC.mp hb with z|hb
  ·subst z;exact⟨_,he,λv z=>by cases z⟩
  ·have z:b=it:=by simpa using hb
   subst z;obtain⟨o,e,c,d⟩:=st;exact⟨o,e,λv z=>by rw[d] at z;cases z⟩
 keep:=λi h h' st k=>by
  obtain⟨⟨old,he⟩,st⟩:=st;exact⟨⟨old,k e (by simp) _ he⟩,st.at λo q=>k it (by simp) o q⟩
 item:=by
  intro X hP hw hK hc i pins s σ H E I hf st hg;subst hP hw hK;obtain⟨⟨old,he⟩,st⟩:=st;obtain⟨xs,x,hq,hx⟩:=hg;obtain⟨its,rv,p,hz⟩:=I.list hq;obtain⟨u,hu,ru⟩:=rv.get hx;have HG:e < s.heap.objs.size:=iB he;have uq:it < s.heap.objs.size:=by obtain⟨_,z,_⟩:=id st;exact iB z
  refine wpAny_pyNext_enum_item he st p.isList (x:=u) (by simpa using hu) VG λh1 ho TC hT hsz hk=>?_;refine⟨_,rfl,wpAny_letOwnedTupleGo_enum ho λh2 Gg dv=>?_⟩
  replace dv:Heap.SameBut e h1 h2:=dv
  have A6:h2.IsTuple s.heap.objs.size #[.int i s.toks,u]:=⟨_,(dv.2 _ (wg HG)).trans hT,rfl,_,rfl⟩
  have kk:∀b o,b∉[e,it]->s.heap.get? b=some o->h2.get? b=some o:=λb o hb q=>by
   have n1:b≠e:=λz=>hb (by simp[z]);have n2:b≠it:=λz=>hb (by simp[z]);exact(dv.2 b n1).trans (hk b o n1 n2 q)
  have I2:Inv X pins σ (upd H s.heap.objs.size (.tup [.int i,x])) { s with heap:=h2,toks:=s.toks+1 }:=
   I.uF kk hf (dQ _) (show bS X.prog X.w _ h2 _ (.tup [.int i,x]) from⟨cB (by simp),[.int i s.toks,u],.cons ⟨_,rfl⟩ (.cons ru .nil),A6⟩)
  have De:H s.heap.objs.size=none:=I.bc.fresh (dQ _);refine⟨.ref s.heap.objs.size,_,I2,rfl,⟨_,x,De,rfl,rfl,λys hy=>by rw[I.Qk hy hq];exact hx⟩,⟨⟨u,?_⟩,?_⟩,λb hb=>?_⟩
  ·have e1:((i+1:Nat):Int)=(i:Int)+1:=by push_cast;rfl
   rw[e1];exact Gg
  ·exact TC.at λo q=>(dv.2 it VG.symm).trans q
  ·have cw:b < s.heap.objs.size:=by
    rcases lC.mp hb with z|hb
    ·rw[z];exact HG
    ·rw[show b=it by simpa using hb];exact uq
   rw[aT (oH cw)];exact(hf b hb).1
 done:=by
  intro X hP hw hK hc i pins s σ H E I hf st hg;subst hP hw hK;obtain⟨⟨old,he⟩,st⟩:=st;obtain⟨xs,hq,hx⟩:=hg;obtain⟨its,rv,p,hz⟩:=I.list hq;obtain⟨f0,f1,f2,f3,f4,f5⟩:=hf it (by simp);have hl:=rv.length;exact wpAny_pyNext_enum_end (I.ok.hd hc) he st p.isList (by simp;lia) λh' eb=>⟨rfl,I.turned (t':=s.toks) (λb o hb e=>eb b o hb e) f0 f1 f3 f4 f5⟩
 self:=λ_ _ _ _ _ st h=>by
  obtain⟨⟨old,he⟩,st⟩:=st;exact wpAny_pyIter_enum he h
section
variable{X:Cx}{elts:List Expr}{x1:Nat}{tp:Pos}
def OQ(K:W.Frag)(ta:TA):TI:=λσ H R=>ta σ H λvs H1=>∃a,vs=[.ref a]/\(∃xs,bR K H1 a xs)/\R (DQ K a) H1
theorem aNR{a:Expr}{ta:TA}{p pos:Pos}(hg:Gl X "enumerate")(hm:X.mg "enumerate" = none)(ha:PA X [a] ta)(hn:noStar a=true:=by rfl):PI X (.Tuple elts x1 tp) (.Call (.Name "enumerate" p) [a] [] pos) (OQ X.K ta):=by
 intro pins s σ H R I h;refine Call_ (lV I hg hm boot_enumerate (PyProof.Rows.callWith_type1 (dC (ha pos pins s σ H _ I h) λus s1 zq=>?_) (bO hn) rfl));obtain⟨vs,H1,I1,r1,q1⟩:=zq;obtain⟨l,e,⟨xs,hq⟩,q⟩:=q1;subst e;obtain⟨u,rfl,ru⟩:=vals1 r1;cases ru;obtain⟨its,rv,pl,hz⟩:=I1.list hq;refine call_enumerate_list pl.isList λh' he hit hsz hk=>?_;refine wpAny_pyIter_enum he ?_;refine⟨s1.heap.objs.size+1,[s1.heap.objs.size+1,s1.heap.objs.size],_,_,H1,rfl,I1.kept (t':=s1.toks) hk,aJW l _ _ (Nat.succ_ne_self _),⟨⟨_,he⟩,hit⟩,λb hb=>?_,q⟩;have hle:s1.heap.objs.size<=b:=by
  rcases lC.mp hb with z|hb
  ·rw[z];exact Nat.le_succ _
  ·rw[show b=s1.heap.objs.size by simpa using hb];exact dQ _
 exact I1.xw hle (I1.bc.fresh hle)
end
section
variable{σ:St}{H:Hp}{nx:St->Hp->Prop}{rt:VK}{g:TG}{tb:TS}{Q:VK}{K:W.Frag}
def EnQ(K:W.Frag)(R:It->Hp->Prop):List V->Hp->Prop:=λvs H1=>∃a,vs=[.ref a]/\(∃xs,bR K H1 a xs)/\R (DQ K a) H1
def LiQ(K:W.Frag)(R:It->Hp->Prop):V->Hp->Prop:=λx H1=>∃a,x=.ref a/\(∃xs,bR K H1 a xs)/\R (wq K a) H1
def TiQ(K:W.Frag)(R:It->Hp->Prop):V->Hp->Prop:=λx H1=>∃a,x=.ref a/\(∃xs,iC K H1 a xs)/\R (zi K a) H1
theorem aLx{R:It->Hp->Prop}(h:ta σ H (EnQ K R)):OQ K ta σ H R:=h
theorem aJX{R:It->Hp->Prop}(h:tl σ H (LiQ K R)):OY K tl σ H R:=h
theorem aLy{R:It->Hp->Prop}(h:tl σ H (TiQ K R)):Oq K tl σ H R:=h
theorem GP{R:It->Hp->Prop}(h1:bR K H a xs)(h:R (DQ K a) H):EnQ K R [.ref a] H:=⟨a,rfl,⟨xs,h1⟩,h⟩
theorem eM{R:It->Hp->Prop}(h1:bR K H a xs)(h:R (wq K a) H):LiQ K R (.ref a) H:=⟨a,rfl,⟨xs,h1⟩,h⟩
theorem X0{R:It->Hp->Prop}(h1:iC K H a xs)(h:R (zi K a) H):TiQ K R (.ref a) H:=⟨a,rfl,⟨xs,h1⟩,h⟩
theorem xS{xs:List V}(Pv:Nat->St->Hp->Prop)(h0:Pv 0 σ H)(hl:∀i σ H,i<=xs.length->Pv i σ H->bR K H a xs)(hs:∀i x σ H T,xs[i]?=some x->Pv i σ H->H T=none->g (.ref T) σ (upd H T (.tup [.int i,x])) λσ2 H2=>tb ⟨Pv (i+1),rt,nx,Pv (i+1)⟩ σ2 H2)(hd:∀σ H,Pv xs.length σ H->nx σ H) :
  ∃W:Nat->Nat->St->Hp->Prop,(∃m,W 0 m σ H)/\∀i m σ H,W i m σ H->
   ((DQ K a).stop i H/\nx σ H)\/((DQ K a).go i H/\∃N:St->Hp->Prop,(∀σ' H',N σ' H'->∃m',m' < m/\W (i+1) m' σ' H')/\∀x H',(DQ K a).oq i H x H'->g x σ H' λσ2 H2=>tb ⟨N,rt,nx,N⟩ σ2 H2):=by
 refine⟨λi m σ H=>m=xs.length - i/\i<=xs.length/\Pv i σ H,⟨xs.length,by simp,ko _,h0⟩,?_⟩;rintro i m σ H ⟨rfl,hi,p⟩;have q:=hl i σ H hi p;by_cases cw:i < xs.length
 ·refine .inr ⟨⟨xs,xs[i],q,by simp[cw]⟩,Pv (i+1),λσ' H' p'=>⟨xs.length - (i+1),by lia,rfl,cw,p'⟩,λx H' y=>?_⟩;obtain⟨T,v,hT,e1,e2,y⟩:=y;subst e1 e2;exact hs i v σ H T (y xs q) p hT
 ·have e:i=xs.length:=by lia
  subst e;exact .inl ⟨⟨xs,q,dQ _⟩,hd σ H p⟩
end
section
variable{X:Cx}
theorem aCj:∀{bs:List Bool}{us:ah},Vals (bs.map V.bl) us->us=bs.map Value.bool
 |[],_,.nil=>rfl
 |b::bs,_,.cons r t=>by cases r;rw[aCj t];rfl
def GB(K:W.Frag):List V->Hp->VK->Prop:=λxs H Q=>∃(p:Addr) (bs:List Bool),xs=[.ref p]/\bR K H p (bs.map V.bl)/\Q (.bl (bs.all id)) H
theorem Ql(hc:X.calm=true):eJ X (.builtin "all") (GB X.K):=by
 intro pins s σ H xs us Q I r h;obtain⟨p,bs,rfl,hq,q⟩:=h;obtain⟨u,rfl,rx⟩:=vals1 r;cases rx;obtain⟨its,r',pl,hz⟩:=I.list hq;have e:=aCj r';subst e;have hl:=pl.isList;have cw:p < s.heap.objs.size:=by obtain⟨_,e,_⟩:=id hl;exact iB e
 refine call_all_walk (wpAny_pyIter_list hl ?_);refine⟨s.heap.objs.size,[s.heap.objs.size,p],[s.heap.objs.size],(bs.map Value.bool).toArray.size,_,_,λi=>(bs[i]?).getD true,rfl,Walks.list (A:=X.A.in1) (I.ok.hd hc) _ p (oH cw) (bs.map Value.bool).toArray,
  ⟨⟨_,lA _ rfl,rfl,rfl⟩,hl.push _⟩,λi v s' Q' E' hP hQ=>?_,λh' tk hk=>?_⟩
 ·have Gk:(bs.map Value.bool)[i]?=some v:=by simpa using hP
  rw[kQ] at Gk;cases hb:bs[i]? with
  |none=>rw[hb] at Gk;cases Gk
  |some b=>
   rw[hb] at Gk;cases Gk;simp only[hb,Option.getD_some] at hQ;exact wpAny_truthy_bool hQ
 ·have e:((List.range (bs.map Value.bool).toArray.size).all λi=>(bs[i]?).getD true)=bs.all id:=by
   rw[iR,bX];exact LSm.range_all bs
  rw[e];exact⟨.bl _,H,I.kept (t':=tk) (LSm.kept_iter hk),rfl,q⟩
end
section
variable{X:Cx}{o e:Expr}{to:TE}{t:TA}{apos bf:Pos}
theorem aQn(ho:PE X o to)(ha:PA X [e] t)(hn:noStar e=true:=by rfl)(br:attributeBase o "append" X.env (eval o X.env)=eval o X.env:=by rfl)(bq:(apos.endLine == bf.line)=true:=by rfl) :
  PE X (.Call (.Attribute o "append" apos) [e] [] bf) (BP X.K "list" KZ to t):=
 O7 PySem.F.plainAttrs_list PySem.F.slot_list_append PySem.F.type_list_append aJK ho ha br (by rw[bO hn];rfl) bq (bO hn) (by rfl)
end
section
variable{K:W.Frag}{σ:St}{H:Hp}{Q:VK}
theorem aRv{r:V->List V->Hp->VK->Prop}{t:TA}(h:to σ H λx H1=>IP K T x H1/\t σ H1 λxs H2=>r x xs H2 Q):BP K T r to t σ H Q:=h
theorem iV{P:Prop}(h:bR K H p xs)(q:P):IP K "list" (.ref p) H/\P:=⟨.inl ⟨rfl,xs,h⟩,q⟩
theorem mC{xs:List V}(h:H l=some (.lst xs))(hz:xs.length < sizeLine)(q:Q .bt (upd H l (.lst (xs ++ [y])))):KZ (.ref l) [y] H Q:=⟨l,xs,y,rfl,rfl,h,hz,q⟩
theorem aQo:∀(xs ys:ae),(xs.length == ys.length && (List.range xs.length).all λj=>decide (xs[j]?=ys[j]?))=decide (xs=ys):=by
 intro xs ys;rw[Bool.eq_iff_iff];simp only[wm,beq_iff_eq,DG,zf,decide_eq_true_eq];constructor
 ·rintro ⟨hl,h⟩;apply List.ext_getElem?;intro i;by_cases hi:i < xs.length
  ·exact h i hi
  ·rw[Bp (by lia),Bp (by lia)]
 ·rintro rfl;exact⟨rfl,λ_ _=>rfl⟩
theorem ZT{n:Nat}{xs ys:ae}(h:(bR K H p (xs.map V.int)/\bR K H q (ys.map V.int))\/(iC K H p (xs.map V.int)/\iC K H q (ys.map V.int))):ui K H (n+1) (.ref p) (.ref q) (decide (xs=ys)):=by
 refine .inr ⟨p,q,xs.map V.int,ys.map V.int,λj=>decide (xs[j]?=ys[j]?),rfl,rfl,h,λj u v hu hv=>?_,?_⟩
 ·rw[kQ] at hu hv;cases hx:xs[j]? with
  |none=>rw[hx] at hu;cases hu
  |some a=>
   cases hy:ys[j]? with
   |none=>rw[hy] at hv;cases hv
   |some b=>
    rw[hx] at hu;rw[hy] at hv;cases hu;cases hv;have z:oI (.int a)=true/\oI (.int b)=true/\(λj=>decide (xs[j]?=ys[j]?)) j=eqV (.int a) (.int b):=by
     refine⟨rfl,rfl,?_⟩;show decide (xs[j]?=ys[j]?)=decide (a=b);rw[hx,hy];simp
    cases n with
    |zero=>exact z
    |succ n=>exact .inl z
 ·rw[bX,bX];exact(aQo xs ys).symm
end
section
variable{K:W.Frag}{σ:St}{H:Hp}{Q:VK}{nx bk ct:St->Hp->Prop}{rt:VK}
theorem aRw{A B:Prop}(h:B):if (!true)=true then A else B:=Kh h
theorem aRx{A B:Prop}(h:A):if (!false)=true then A else B:=Kg h
theorem aRy{A B:Prop}{b:Bool}(e:b=false)(h:B):if b=true then A else B:=by rw[e];exact Kh h
theorem aRz{A B:Prop}{b:Bool}(e:b=true)(h:A):if b=true then A else B:=by rw[e];exact Kg h
theorem aNS{sp:Sp}(h:t σ H λvs H1=>∀x dx,H1 x=none->H1 dx=none->dx≠x->sp (.ref x::vs) (upd (upd H1 dx (.own x)) x (.ins C dx [])) (λv H2=>v=.bt/\Q (.ref x) H2) E):GL C sp [] E t σ H Q:=by
 unfold GL;simpa only [pz] using h
theorem aNT{t:TA}(h:ta σ H λx H1=>∃a dx fs,x=.ref a/\H1 a=some (.ins C dx fs)/\fs.lookup m=none/\t σ H1 λvs H2=>sp (x::vs) H2 Q E):E3 C m sp [] E ta t σ H Q:=by
 unfold E3;simpa only [pz] using h
theorem aNU(h:tv σ H λy H1=>ta σ H1 λx H2=>∃a C dx fs,x=.ref a/\H2 a=some (.ins C dx fs)/\mw K C/\cX K C f/\fs.length < 1000/\nx σ (upd H2 a (.ins C dx (pC f y fs)))):OE K ta tv f ⟨nx,rt,bk,ct⟩ σ H:=h
theorem gC{fs:List (Str×V)}{P:Hp->Prop}(h1:H a=some (.ins C dx fs))(c:mw K C)(n:cX K C f)(hl:fs.length < 1000)(e:pC f y fs=fs')(h:P (upd H a (.ins C dx fs'))) :
  ∃a' C dx fs,V.ref a=V.ref a'/\H a'=some (.ins C dx fs)/\mw K C/\cX K C f/\fs.length < 1000/\P (upd H a' (.ins C dx (pC f y fs))):=⟨a,C,dx,fs,rfl,h1,c,n,hl,by rw[e];exact h⟩
theorem dM{fs:List (Str×V)}{P:V->Prop}(h1:H a=some (.ins C dx fs))(c:mw K C)(n:cX K C f)(l:fs.lookup f=some v)(h:P v) :
  ∃a' C dx fs v,V.ref a=V.ref a'/\H a'=some (.ins C dx fs)/\mw K C/\cX K C f/\fs.lookup f=some v/\P v:=⟨a,C,dx,fs,v,rfl,h1,c,n,l,h⟩
theorem ZR:∀{xs:List V},(∀x∈xs,x=.bl true)->xs=(List.replicate xs.length true).map V.bl
 |[],_=>rfl
 |x::xs,h=>by
  rw[oi,Fs,uY,<-ZR (λy hy=>h y (ki _ hy)),h x (oj ..)]
theorem PM(h1:bR K H p xs)(h2:∀x∈xs,x=.bl true)(h:Q (.bl true) H):GB K [.ref p] H Q:=by
 refine⟨p,List.replicate xs.length true,rfl,?_,?_⟩
 ·rw[<-ZR h2];exact h1
 ·rw[show(List.replicate xs.length true).all id=true by simp];exact h
end
section
variable{X:Cx}{K:W.Frag}{H:Hp}{Q:VK}
def Jt:V->V->Option Bool
 |.bt,.bt=>some true
 |.bl a,.bl b=>some (a == b)
 |.bl _,.bt=>some false
 |.int _,.bt=>some false
 |.str _,.bt=>some false
 |.ref _,.bt=>some false
 |_,_=>none
def UR:R2:=λx y H Q=>∃b,Jt x y=some b/\Q (.bl b) H
def YE:R2:=λx y H Q=>∃b,Jt x y=some b/\Q (.bl (!b)) H
theorem wQ:rK X (compareOp .Is) UR:=by
 intro pins s σ H x y v u Q I rx ry h;obtain⟨b,e,q⟩:=h;have fin:EP X pins σ Q (.bool b) s:=⟨.bl b,H,I,rfl,q⟩
 cases x with
 |bt=>cases y with
  |bt=>cases e;cases rx;cases ry;exact is_none_gen fin
  |_=>cases e
 |bl a=>cases y with
  |bl c=>cases e;cases rx;cases ry;exact is_bool fin
  |bt=>cases e;cases rx;cases ry;exact is_none_gen fin
  |_=>cases e
 |int i=>cases y with
  |bt=>cases e;obtain⟨t,rfl⟩:=rx;cases ry;exact is_none_gen fin
  |_=>cases e
 |str i=>cases y with
  |bt=>cases e;obtain⟨t,rfl⟩:=rx;cases ry;exact is_none_gen fin
  |_=>cases e
 |ref i=>cases y with
  |bt=>cases e;cases rx;cases ry;exact is_none_gen fin
  |_=>cases e
 |_=>cases y <;> cases e
theorem uG:rK X (compareOp .IsNot) YE:=by
 intro pins s σ H x y v u Q I rx ry h;obtain⟨b,e,q⟩:=h;have fin:EP X pins σ Q (.bool (!b)) s:=⟨.bl (!b),H,I,rfl,q⟩
 cases x with
 |bt=>cases y with
  |bt=>cases e;cases rx;cases ry;exact isnot_none_gen fin
  |_=>cases e
 |bl a=>cases y with
  |bl c=>cases e;cases rx;cases ry;exact isnot_bool fin
  |bt=>cases e;cases rx;cases ry;exact isnot_none_gen fin
  |_=>cases e
 |int i=>cases y with
  |bt=>cases e;obtain⟨t,rfl⟩:=rx;cases ry;exact isnot_none_gen fin
  |_=>cases e
 |str i=>cases y with
  |bt=>cases e;obtain⟨t,rfl⟩:=rx;cases ry;exact isnot_none_gen fin
  |_=>cases e
 |ref i=>cases y with
  |bt=>cases e;cases rx;cases ry;exact isnot_none_gen fin
  |_=>cases e
 |_=>cases y <;> cases e
theorem aRA{b:Bool}(e:Jt x y=some b)(h:Q (.bl b) H):UR x y H Q:=⟨b,e,h⟩
theorem aLB{b:Bool}(e:Jt x y=some b)(h:Q (.bl (!b)) H):YE x y H Q:=⟨b,e,h⟩
end
section
variable{X:Cx}
def Kj(K:W.Frag):List V->Hp->VK->Prop:=λxs H Q=>∃(p:Addr) (ns:ae),xs=[.ref p]/\bR K H p (ns.map V.int)/\Q (.int (List.sum ns)) H
theorem Z0(hc:X.calm=true):eJ X (.builtin "sum") (Kj X.K):=by
 intro pins s σ H xs us Q I r h;obtain⟨p,ns,rfl,hq,q⟩:=h;obtain⟨u,rfl,rx⟩:=vals1 r;cases rx;obtain⟨its,r',pl,hz⟩:=I.list hq;have hi:=intsAre_of r';obtain⟨xs,hx⟩:=hi.allInts.items;have Nm:s.heap.IsList p (intItems xs):=hx▸pl.isList;refine sum_intListG (I.ok.hd hc) Nm λh' tk t' hk=>?_;have e1:ns=xs.toList.map (·.1):=by
  rw[<-nums_intItems,<-hx];exact(show numsOf its.toArray.toList=ns from hi.numsOf).symm
 have e2:preSum (numAt xs) xs.size=ns.sum:=by
  rw[preSum_eq,LI (by simp),e1]
 rw[e2];exact⟨.int _,H,I.kept (t':=tk) hk,⟨t',rfl⟩,q⟩
theorem YD{K:W.Frag}{H:Hp}{Q:VK}{p:Addr}{ns:ae}(h1:bR K H p (ns.map V.int))(h:Q (.int (List.sum ns)) H):Kj K [.ref p] H Q:=⟨p,ns,rfl,h1,h⟩
def Ki:List V->Hp->VK->Prop:=λxs H Q=>∃i j:Int,xs=[.int i,.int j]/\∀p,H p=none->Q (.ref p) (upd H p (.Ai i j))
theorem aEA:eJ X (.type "range") Ki:=by
 intro pins s σ H xs us Q I r h;obtain⟨i,j,rfl,q⟩:=h;obtain⟨u,w',rfl,rx,ry⟩:=vals2 r;obtain⟨t,rfl⟩:=rx;obtain⟨t',rfl⟩:=ry;refine call_range_2 ?_;exact⟨.ref s.heap.objs.size,_,I.laid (t':=s.toks+1) (o:=.Ai i j) (λb ob q=>eG _ q) (dQ _) ⟨_,_,_,lA _ rfl⟩,rfl,q _ (I.bc.fresh (dQ _))⟩
theorem aQp{H:Hp}{Q:VK}{i j:Int}(h:∀p,H p=none->Q (.ref p) (upd H p (.Ai i j))):Ki [.int i,.int j] H Q:=⟨i,j,rfl,h⟩
def mf(lo:Int)(n:Nat):ae:=(List.range n).map λ(k:Nat)=>lo+(k:Int)
def KI:List V->Hp->VK->Prop:=λxs H Q=>∃(p:Addr) (lo hi:Int),xs=[.ref p]/\H p=some (.Ai lo hi)/\-(2 ^ 62)<=lo/\lo < 2 ^ 62/\-(2 ^ 62)<=hi/\hi < 2 ^ 62/\(hi - lo).toNat<=2 ^ 24/\
 ∀l,H l=none->Q (.ref l) (upd H l (.lst ((mf lo (hi - lo).toNat).map V.int)))
theorem aHU{a:Int}:∀(n:Nat) (its:ah),its.length=n->(∀(i:Nat) v,its[i]?=some v->∃t,v=Value.int (a+(i:Int)) t)->Vals ((mf a n).map V.int) its:=by
 intro n;induction n generalizing a with
 |zero=>
  intro its hl _;rw[Hb.mp hl];exact .nil
 |succ n ih=>
  intro its hl h;cases its with
  |nil=>cases hl
  |cons v its=>
   have e:mf a (n+1)=a::mf (a+1) n:=by
    unfold mf;rw[List.range_succ_eq_map,uY,kh];congr 1
    ·simp
    ·apply LF;intro k _;show a+((k+1:Nat):Int)=a+1+(k:Int)
     push_cast;lia
   rw[e,uY];obtain⟨t,ht⟩:=h 0 v rfl;refine .cons ⟨t,by rw[ht];simp⟩ (ih its (by simpa using hl) λi w hw=>?_);obtain⟨t',F8⟩:=h (i+1) w (by simpa using hw);exact⟨t',by rw[F8];congr 1;push_cast;lia⟩
theorem aCk(hc:X.calm=true):eJ X (.type "list") KI:=by
 intro pins s σ H xs us Q I r h;obtain⟨p,lo,hi,rfl,hp,b1,b2,b3,b4,hz,q⟩:=h;obtain⟨u,rfl,rx⟩:=vals1 r;cases rx;obtain⟨t,t',t'',hr⟩:=(show bS X.prog X.w H s.heap p (.Ai lo hi) from I.bc p _ hp)
 refine call_list_range (n:=(hi - lo).toNat) (I.ok.hd hc) hr (small_one b1 b2 b3 b4) (by rw[rangeSize_one];split <;> lia) hz λh' tk fb c' hk hS ha=>?_;have hv:Vals ((mf lo (hi - lo).toNat).map V.int) fb.toList:=aHU _ _ (by simpa using ha.1) λi v hv=>by
  obtain⟨t,ht⟩:=ha.2 i v (by simpa using hv);exact⟨t,by rw[ht,Co]⟩
 have hl:((mf lo (hi - lo).toNat).map V.int).length<=sizeLine:=by
  unfold mf;rw[bX,bX,Lw];exact cB hz
 exact⟨.ref s.heap.objs.size,_,I.laid (t':=tk) (o:=.lst ((mf lo (hi - lo).toNat).map V.int)) hk (dQ _) ⟨hl,fb.toList,c',hv,hS⟩,rfl,q _ (I.bc.fresh (dQ _))⟩
theorem ZQ{H:Hp}{Q:VK}{p:Addr}{lo hi:Int}(hp:H p=some (.Ai lo hi))(h1:-(2 ^ 62)<=lo/\lo < 2 ^ 62/\-(2 ^ 62)<=hi/\hi < 2 ^ 62)(hz:(hi - lo).toNat<=2 ^ 24)(h:∀l,H l=none->Q (.ref l) (upd H l (.lst ((mf lo (hi - lo).toNat).map V.int)))):KI [.ref p] H Q:=
 ⟨p,lo,hi,rfl,hp,h1.1,h1.2.1,h1.2.2.1,h1.2.2.2,hz,h⟩
end
section
variable{X:Cx}{pins:ao}{σ:St}{H:Hp}{s:Shared}{h':Heap}
theorem Inv.aJY{t':Nat}{ch:au}(I:Inv X pins σ H s)(k:∀b u,b∉ch->s.heap.get? b=some u->h'.get? b=some u)
  (qi:∀b∈ch,xJ X pins H b):Inv X pins σ H { s with heap:=h',toks:=t' }:=by
 have BY:∀b u,H b=some u->b∉ch:=λb u e z=>by rw[(qi b z).1] at e;cases e
 refine I.step (g':=s.gens) (d':=s.drawn) (ch:=ch) (λb hb=>?_) (λb u _ _ hc e _=>k b u hc e) (λb u _ _ hc e _=>⟨u.slots,k b u hc e⟩) (λb u hc e n=>n)
  (λb u hc e=>⟨u,k b u hc e⟩) (λb xs e=>e) (λb u v e=>e) (λb ps e=>⟨#[],by rw[e];simp⟩) (λm hm=>?_) (λb u e=>?_) I.bare
 ·obtain⟨f0,f1,f2,f3,f4,f5⟩:=qi b hb;exact⟨f3,f1,f4,f5⟩
 ·obtain⟨u,es,ep,ho,r⟩:=hm;exact⟨u,es,ep,k _ u (λz=>(qi _ z).2.1 rfl) ho,r⟩
 ·refine(I.bc b u e).wK (λc v hc q=>k c v ?_ q) (λc q=>q) λc xs _ q=>q;rcases hc with z|z
  ·rw[z];exact BY b u e
  ·exact BY c _ z
end
section
variable{X:Cx}{elts:List Expr}{x1:Nat}{tp:Pos}
theorem YC:bootBuiltins "zip" = some (.type "zip"):=by decide +kernel
end
section
variable{X:Cx}{e:Expr}{te:TE}
theorem Y4{K:W.Frag}{H:Hp}{p q a b c d:Addr}{xs ys:ae}(h1:H p=some (.lst [.ref a,.ref b]))(h2:H q=some (.lst [.ref c,.ref d]))(ha:H a=some (.lst (xs.map V.int)))(hc:H c=some (.lst (xs.map V.int)))
  (hb:H b=some (.lst (ys.map V.int))) (hd:H d=some (.lst (ys.map V.int))):ui K H 8 (.ref p) (.ref q) true:=by
 refine .inr ⟨p,q,[.ref a,.ref b],[.ref c,.ref d],λ_=>true,rfl,rfl,.inl ⟨bR.of h1,bR.of h2⟩,λj u v hu hv=>?_,rfl⟩
 match j,hu,hv with
 |0,hu,hv=>
  cases hu;cases hv;have z:=ZT (K:=K) (n:=6) (.inl ⟨bR.of ha,bR.of hc⟩)
  rwa[mi rfl] at z
 |1,hu,hv=>
  cases hu;cases hv;have z:=ZT (K:=K) (n:=6) (.inl ⟨bR.of hb,bR.of hd⟩)
  rwa[mi rfl] at z
 |_+2,hu,hv=>simp at hu
end
end L2
namespace L2.Z
open PySem PySem.Spec PyProof.Rows L2
structure QE(X:Cx)(e:Expr)(t:TE):Prop where
 h:PE X e t
structure QT(X:Cx)(e:Expr)(t:TT):Prop where
 h:PT X e t
structure QW(X:Cx)(e:Expr)(t:TT):Prop where
 h:PW X e t
structure QA(X:Cx)(es:List Expr)(t:TA):Prop where
 h:PA X es t
structure QS(X:Cx)(st:Stmt)(t:TS):Prop where
 h:PS X st t
structure zh(X:Cx)(st:List Stmt)(t:TS):Prop where
 h:tf X st t
structure QG(X:Cx)(tg:Expr)(g:TG):Prop where
 h:PG X tg g
structure LV(X:Cx)(tg:List Expr)(g:ze):Prop where
 h:Hh X tg g
structure QI(X:Cx)(tg it:Expr)(w:TI):Prop where
 h:PI X tg it w
structure LU(X:Cx)(ifs:List Expr)(t:TT):Prop where
 h:Fv X ifs t
structure QO(X:Cx)(o:Option Expr)(t:TO):Prop where
 h:PO X o t
section
variable{X:Cx}{CX:vi}{k:Nat}{f C:Addr}{fd:FuncData}{ps:ak}{sp:Sp}{fo:List V}{ds:ah}{E:XK}{x m:Str}{p pos apos p2 uk:Pos}{a b c e o:Expr}{es rest:List Expr}{ta tb tc te to ti:TE}{t:TA}{tA tB tt:TT}{id T:String}{r r':R2}{rc:List V->Hp->VK->Prop}{st:Stmt}{vn Hn:List Stmt}{ts us:TS}{g:TG}{gs:ze}{wi:TI}{tg iter:Expr}
theorem eN{e:Expr}{t:TT}(q:QW X e t):QT X e t:=⟨q.h.pt⟩
theorem aA(i:Nat)(hN:X.N[i]?=some x:=by rfl)(hv:Dy X.env.scope x:=by first|exact Or.inl rfl|exact Or.inr (Or.inl rfl)|exact Or.inr (Or.inr rfl))(hd:(x == ("__debug__" : Str))=false:=by decide)
  (mv:(x == ("__classdict__" : Str))=false:=by decide):QE X (.Name x pos) (OI i):=⟨YF hN hv hd mv⟩
theorem aC{i j}:QE X (.Constant (.int i) j pos) (tC (.int i)):=⟨L2.aO2⟩
theorem iW{b j}:QE X (.Constant (.bool b) j pos) (tC (.bl b)):=⟨L2.aQW⟩
theorem c8{j}:QE X (.Constant .none j pos) (tC .bt):=⟨L2.aO3⟩
theorem aCl{v:V}{u:Value}(hg:Gl X x)(hm:X.mg x=some u)(r:RelV v u)(hd:(x == ("__debug__" : Str))=false:=by decide):QE X (.Name x pos) (tC v):=⟨L2.Y9 hg hm r hd⟩
theorem pF{n:Int}(hg:Gl X x)(hm:∃t,X.mg x=some (.int n t))(hd:(x == ("__debug__" : Str))=false:=by decide):QE X (.Name x pos) (tC (.int n)):=⟨L2.aNN hg hm hd⟩
theorem iL(hg:Gl X x)(hm:X.mg x=none)(hv:bootBuiltins x=some u)(r:RelV v u)(hn:x≠"__name__":=by decide)(hd:(x == ("__debug__" : Str))=false:=by decide):QE X (.Name x pos) (tC v):=⟨L2.aMV hg hm hv r hn hd⟩
theorem aI(ho:rK X (binaryOp op) r)(ha:QE X a ta)(hb:QE X b tb):QE X (.BinOp a op b pos) (AU r ta tb):=⟨L2.aQ0 ho ha.h hb.h⟩
theorem kH{ru:V->Hp->VK->Prop}(ho:LA X (unaryOp op) ru)(ha:QE X a ta):QE X (.UnaryOp op a pos) (Mh ru ta):=⟨L2.aQ1 ho ha.h⟩
theorem aEB(ha:QE X a ta):QE X (.UnaryOp .Not a pos) (O2 ta):=⟨L2.aPd ha.h⟩
theorem gQ{op}(h:QE X a ta):QE X (.BoolOp op [a] pos) ta:=⟨L2.aPb h.h⟩
theorem jR(ha:QE X a ta)(hb:QE X (.BoolOp .And (b::rest) pos) tb):QE X (.BoolOp .And (a::b::rest) pos) (O3 ta tb):=⟨L2.aPc ha.h hb.h⟩
theorem Qe(ha:QE X a ta)(hb:QE X (.BoolOp .Or (b::rest) pos) tb):QE X (.BoolOp .Or (a::b::rest) pos) (OA ta tb):=⟨L2.aQY ha.h hb.h⟩
theorem aAU(hc:QT X c tA)(ha:QE X a ta)(hb:QE X b tb):QE X (.IfExp c a b pos) (Ml tA ta tb):=⟨L2.aKC hc.h ha.h hb.h⟩
theorem fB(ho:rK X (compareOp op) r)(ha:QE X a ta)(hb:QE X b tb)(hm:behindInMarks op b=false):QE X (.Compare a [op] [b] pos) (AU r ta tb):=⟨L2.aM8 ho ha.h hb.h hm⟩
theorem aU(ho:rK X (compareOp op) r)(ha:QE X a ta)(hb:QE X b tb)(hm:behindInMarks op b=false):QT X (.Compare a [op] [b] pos) (OX (AU r ta tb)):=⟨L2.aM9 ho ha.h hb.h hm⟩
theorem rT(ho:rK X (compareOp op) r)(yl:rK X (compareOp FT) r')(ha:QE X a ta)(hb:QE X b tb)(hc:QE X c tc)(hm:lastMarks [op,FT] [b,c]=false:=by with_unfolding_all rfl):QE X (.Compare a [op,FT] [b,c] pos) (PC r r' ta tb tc):=⟨L2.aKS ho yl ha.h hb.h hc.h hm⟩
theorem eA(h:QE X e te)(he:∀whole,isTrue e X.env whole=(do let v <-whole;standAt e.pos;holding [v] (truthy v)):=by intro _;rfl):QT X e (L2.tB te):=⟨L2.aO4 h.h he⟩
theorem eV(ha:QT X a tA):QT X (.UnaryOp .Not a pos) (OG tA):=⟨L2.aO9 ha.h⟩
theorem gE(ha:QT X a tA):QW X (.BoolOp .And [a] pos) tA:=⟨L2.aMW ha.h⟩
theorem lR(ha:QT X a tA):QW X (.BoolOp .Or [a] pos) tA:=⟨L2.aO7 ha.h⟩
theorem iN(ha:QT X a tA)(hb:QW X (.BoolOp .And (b::rest) pos) tB):QW X (.BoolOp .And (a::b::rest) pos) (OH tA tB):=⟨L2.aO8 ha.h hb.h⟩
theorem mD(ha:QT X a tA)(hb:QW X (.BoolOp .Or (b::rest) pos) tB):QW X (.BoolOp .Or (a::b::rest) pos) (Mj tA tB):=⟨L2.aQX ha.h hb.h⟩
theorem aD:QA X [] kR:=⟨L2.nR⟩
theorem aB(ha:QE X e te)(hr:QA X es t)(hs:noStar e=true:=by rfl):QA X (e::es) (bN te t):=⟨L2.hU ha.h hr.h hs⟩
theorem aG(F:bT X.prog X.w X.K X.mg X.base CX k f fd ps sp)(hr:eK k X.A)(hg:Gl X x)(hm:X.mg x=some (.ref f))(hk:W.keepIn X.K (.ref f)=true)(hb:Binds X.K fd ps ds)(hd:Vals fo ds)(hx:Passes CX X E)
  (ha:QA X (e::es) t) (hn:(e::es).all noStar=true:=by rfl) (jf:(x == ("__debug__" : Str))=false:=by decide):QE X (.Call (.Name x p) (e::es) [] pos) (EZ sp fo E t):=⟨L2.aLu F hr hg hm hk hb hd hx ha.h hn jf⟩
theorem bg{j:Nat}{st:Stmt}(F:bT X.prog X.w X.K X.mg X.base eY k f fd ps sp)(hr:eK j X.A)(Y:FG X.K X.mg x st f fd ps)(ha:QA X (e::es) t)(hj:k<=j:=by decide)(hg:Gl X x:=by rfl)(hn:(e::es).all noStar=true:=by rfl)(jf:(x == ("__debug__" : Str))=false:=by decide):QE X (.Call (.Name x p) (e::es) [] pos) (EZ sp [] E0 t):=aG F (hr.mono hj) hg Y.g Y.F.kp Y.b .nil aW ha hn jf
theorem kI(M:Mk X.K C f)(F:bT X.prog X.w X.K X.mg X.base CX k f fd ps sp)(hr:eK (k+1) X.A)(hg:Gl X x)(hm:X.mg x=some (.ref C))(hb:Binds X.K fd ps ds)(hd:Vals fo ds)(hx:Passes CX X E)
  (ha:QA X (e::es) t) (hn:(e::es).all noStar=true:=by rfl) (jf:(x == ("__debug__" : Str))=false:=by decide):QE X (.Call (.Name x p) (e::es) [] pos) (GL C sp fo E t):=⟨L2.aLv M F hr hg hm hb hd hx ha.h hn jf⟩
theorem aP(hc:eJ X (.builtin id) rc)(hg:Gl X x)(hm:X.mg x=none)(hv:bootBuiltins x=some (.builtin id))(ha:QA X (e::es) t)(hn:(e::es).all noStar=true:=by rfl)(bw:x≠"__name__":=by decide)(jf:(x == ("__debug__" : Str))=false:=by decide) :
  QE X (.Call (.Name x p) (e::es) [] pos) (CK rc t):=⟨L2.aJV hc hg hm hv ha.h hn bw jf⟩
theorem cG(hc:eJ X (.type T) rc)(hg:Gl X x)(hm:X.mg x=none)(hv:bootBuiltins x=some (.type T))(ha:QA X (e::es) t)(hn:(e::es).all noStar=true:=by rfl)(bw:x≠"__name__":=by decide)(jf:(x == ("__debug__" : Str))=false:=by decide) :
  QE X (.Call (.Name x p) (e::es) [] pos) (CK rc t):=⟨L2.aHR hc hg hm hv ha.h hn bw jf⟩
theorem fD:QO X none P4:=⟨L2.aNg⟩
theorem fE(h:QE X e te):QO X (some e) (O8 te):=⟨L2.aNh h.h⟩
theorem eO{rs:V->Option Int->Option Int->Hp->VK->Prop}{lo hi:Option Expr}{tl th:TO}(hr:Bl X rs)(he:QE X e te)(hl:QO X lo tl)(hu:QO X hi th):QE X (.Subscript e (.Slice lo hi none p2) pos) (Mi rs te tl th):=⟨L2.aK3 hr he.h hl.h hu.h⟩
theorem lS(h:QA X es t):QE X (.List es pos) (wL t):=⟨L2.wM h.h⟩
theorem cL(hg:Gl X "range")(hm:X.mg "range" = none)(ha:QA X [a] t)(hn:noStar a=true:=by rfl):QI X tg (.Call (.Name "range" p) [a] [] pos) (Ku t):=⟨L2.aHS hg hm ha.h hn⟩
theorem aDD(hg:Gl X "range")(hm:X.mg "range" = none)(ha:QA X [a,b] t)(hn:noStar a=true:=by rfl)(rg:noStar b=true:=by rfl):QI X tg (.Call (.Name "range" p) [a,b] [] pos) (Kt t):=⟨L2.aHT hg hm ha.h hn rg⟩
theorem aJ{i:Nat}(hN:X.N.Nodup)(hi:X.N[i]?=some x:=by rfl)(hx:Loc X.env.scope x:=by exact Or.inl rfl)(hf:X.fn x=true\/X.env.scope.names.lookup x=some .local:=by first|exact .inl rfl|exact .inr rfl|assumption):QG X (.Name x pos) (qJ i):=⟨L2.aM0 hN hi hx hf⟩
theorem bP:LV X [] Km:=⟨L2.aM2⟩
theorem aR{e:Expr}{es:List Expr}{t:TG}{u:ze}(h1:QG X e t)(h2:LV X es u)(hs:(assignEach (e::es) X.env).map (·.2)=assign e X.env::(assignEach es X.env).map (·.2):=by rfl):LV X (e::es) (Kv t u):=⟨L2.aKK h1.h h2.h hs⟩
theorem oK(ho:QE X o to)(hi:QE X i ti)(hs:GH X qc)(ha:∀v,assign (.Subscript o i pos) X.env v=(do
   let ov <-holding [v] (eval o X.env)
   let iv <-holding [v,ov] (eval i X.env)
   standAt pos
   holding [v,ov,iv] (setItem ov iv v)
   release [v,ov,iv] []):=by intro _;rfl):QG X (.Subscript o i pos) (Ow to ti qc):=⟨L2.aPk ho.h hi.h hs ha⟩
theorem bU:LU X [] OB:=⟨L2.aNr⟩
theorem aHV(h:QT X c tt):LU X [c] tt:=⟨L2.aNs h.h⟩
theorem aZ(q:zh X vn ts)(h:ts D σ H):∃t,tf X vn t/\t D σ H:=⟨ts,q.h,h⟩
theorem imp{Mg:TS}(q:zh X vn ts)(h:∀D σ H,Mg D σ H->ts D σ H):zh X vn Mg:=⟨λpins s σ H D I z=>q.h pins s σ H D I (h D σ H z)⟩
theorem aY:zh X [] O1:=⟨L2.aMX⟩
theorem aE(h1:QS X st ts)(h2:zh X vn us):zh X (st::vn) (GI ts us):=⟨L2.aKF h1.h h2.h⟩
theorem aF(h1:QS X st ts):zh X [st] ts:=⟨L2.aMY h1.h⟩
theorem kJ:QS X st YH:=⟨L2.aKI⟩
theorem dE(he:QE X e te)(hs:swapsWith e none pos.line X.env=pure false:=by rfl):QS X (.Expr e pos) (O0 te):=⟨L2.aMZ he.h hs⟩
theorem aM(he:QE X e te):QS X (.Return (some e) pos) (Oz te):=⟨L2.aPf he.h⟩
theorem bD(hc:QT X c tt)(ha:zh X vn ts)(hb:zh X Hn us):QS X (.If c vn Hn pos) (Oy tt ts us):=⟨L2.aQZ hc.h ha.h hb.h⟩
theorem oM{i:Nat}(hN:X.N.Nodup)(hi:X.N[i]?=some x)(hx:Loc X.env.scope x)(he:QE X e te)(hs:swapsWith e (some (.Name x pos')) pos.line X.env=pure false:=by rfl)(hf:X.fn x=true\/X.env.scope.names.lookup x=some .local:=by first|exact .inl rfl|exact .inr rfl|assumption) :
  QS X (.Assign [.Name x pos'] e pos) (Ce te (qJ i)):=⟨L2.aPm hN hi hx he.h hs hf⟩
theorem aK{i:Nat}(hN:X.N.Nodup)(he:QE X e te)(hi:X.N[i]?=some x:=by rfl)(hx:Loc X.env.scope x:=by exact Or.inl rfl)(hs:swapsWith e (some (.Name x pos')) pos.line X.env=pure false:=by rfl)(hf:X.fn x=true\/X.env.scope.names.lookup x=some .local:=by first|exact .inl rfl|exact .inr rfl|assumption) :
  QS X (.Assign [.Name x pos'] e pos) (Ce te (qJ i)):=oM hN hi hx he hs hf
theorem jS(he:QE X e te)(hg:QG X tg g)(hs:swapsWithSole [tg] e pos.line X.env=pure false:=by rfl)(hw:swappedStores [tg] e X.env=pure none:=by rfl)
  (h1:(assignEach [tg] X.env).map (·.2)=[assign tg X.env]:=by rfl):QS X (.Assign [tg] e pos) (Ce te g):=⟨L2.aPl he.h hg.h hs hw h1⟩
theorem lT{i:Nat}(hN:X.N.Nodup)(hi:X.N[i]?=some x)(hx:Loc X.env.scope x)(he:QE X e te)(ho:Fx X op AS)(hf:X.fn x=true\/X.env.scope.names.lookup x=some .local:=by first|exact .inl rfl|exact .inr rfl|assumption) :
  QS X (.AugAssign (.Name x pos') op e pos) (Ou i te AS):=⟨L2.aPq hN hi hx he.h ho hf⟩
theorem aHW{oo:V->V->Hp->VK->Prop}(ho:QE X o to)(hi:QE X i ti)(hg:Ot X oo)(he:QE X e te)(hp:Fx X op AS)(hs:GH X qc)(ha:∀ov iv new,augStore i ov iv new=(do holding [new,ov,iv] (setItem ov iv new);release [new,ov,iv] [];pure .next):=by intros;rfl):QS X (.AugAssign (.Subscript o i DT) op e pos) (OZ to ti te oo AS qc):=⟨L2.aM4 ho.h hi.h hg he.h hp hs ha⟩
theorem bI(hp:PassesOwn (model X.prog X.w) X.A X.env X.xe)(hc:X.calm=true)(hi:QI X tg iter wi)(hg:QG X tg g)(hb:zh X vn ts)
  (hs:∀x,foldedSetIterable iter X.env x=pure x:=by intro _;rfl):QS X (.For tg iter vn [] pos) (Oo wi g ts):=⟨L2.aPw hp hc hi.h hg.h hb.h hs⟩
variable{scope:Scope}{elt target:Expr}{ifs:List Expr}{N:ak}
theorem cR{k:Nat}{idx:List Nat}(S:eU X scope N k idx)(hc:X.calm=true)(hi:QI X target iter wi)(hg:∀fp C s H,QG (wb X scope N fp C s H) target g)(ho:Own k g)(ht:∀fp C s H,LU (wb X scope N fp C s H) ifs tt)(he:∀fp C s H,QE (wb X scope N fp C s H) elt te)(hs:∀x,foldedSetIterable iter X.env x=pure x:=by intro _;rfl):QE X (.ListComp elt [⟨target,iter,ifs,0⟩] scope pos) (GJ wi k idx g tt te):=
 ⟨L2.aNu k idx S hc hi.h (λfp C s H=>(hg fp C s H).h) ho (λfp C s H=>(ht fp C s H).h) (λfp C s H=>(he fp C s H).h) hs⟩
theorem fF{k:Nat}{idx:List Nat}{i:Nat}(hN:X.N.Nodup)(Np:X.N[i]?=some x)(hx:Loc X.env.scope x)(S:eU X scope N k idx)(hc:X.calm=true)(hi:QI X target iter wi)(hg:∀fp C s H,QG (wb X scope N fp C s H) target g)(ho:Own k g)(ht:∀fp C s H,LU (wb X scope N fp C s H) ifs tt)(he:∀fp C s H,QE (wb X scope N fp C s H) elt te)(M8:swapsWith (.ListComp elt [⟨target,iter,ifs,0⟩] scope pos) (some (.Name x pos')) uk.line X.env=pure true:=by rfl)(hs:∀x,foldedSetIterable iter X.env x=pure x:=by intro _;rfl)(yn:X.fn x=true\/X.env.scope.names.lookup x=some .local:=by first|exact .inl rfl|exact .inr rfl|assumption) :
  QS X (.Assign [.Name x pos'] (.ListComp elt [⟨target,iter,ifs,0⟩] scope pos) uk) (Ce (GJ wi k idx g tt te) (qJ i)):=
 ⟨L2.aNv k idx hN Np hx S hc hi.h (λfp C s H=>(hg fp C s H).h) ho (λfp C s H=>(ht fp C s H).h) (λfp C s H=>(he fp C s H).h) M8 hs yn⟩
variable{x1:Nat}{e1 e2 e3 e4 e5 e6 e7 e8:Expr}{t1 t2 t3 t4 t5 t6 t7 t8:TE}
theorem iF(h1:QE X e1 t1)(n1:noStar e1=true:=by rfl):QE X (.List [e1] pos) (wL (bN t1 kR)):=⟨L2.aR1 h1.h n1⟩
theorem iX(h1:QE X e1 t1)(h2:QE X e2 t2)(n1:noStar e1=true:=by rfl)(n2:noStar e2=true:=by rfl):QE X (.List [e1,e2] pos) (wL (bN t1 (bN t2 kR))):=⟨L2.aR2 h1.h h2.h n1 n2⟩
theorem gR{k1}(h1:QE X e1 t1)(h2:QE X e2 t2)(n1:noStar e1=true:=by rfl)(n2:noStar e2=true:=by rfl):QE X (.Tuple [e1,e2] k1 pos) (Cd (bN t1 (bN t2 kR))):=⟨L2.aR3 h1.h h2.h n1 n2⟩
theorem uH(h1:QE X e1 t1)(h2:QE X e2 t2)(h3:QE X e3 t3)(n1:noStar e1=true:=by rfl)(n2:noStar e2=true:=by rfl)(n3:noStar e3=true:=by rfl):QE X (.List [e1,e2,e3] pos) (wL (bN t1 (bN t2 (bN t3 kR)))):=⟨L2.aR4 h1.h h2.h h3.h n1 n2 n3⟩
theorem xT{k1}(h1:QE X e1 t1)(h2:QE X e2 t2)(h3:QE X e3 t3)(n1:noStar e1=true:=by rfl)(n2:noStar e2=true:=by rfl)(n3:noStar e3=true:=by rfl):QE X (.Tuple [e1,e2,e3] k1 pos) (Cd (bN t1 (bN t2 (bN t3 kR)))):=⟨L2.aR5 h1.h h2.h h3.h n1 n2 n3⟩
theorem aNX(h1:QE X e1 t1)(h2:QE X e2 t2)(h3:QE X e3 t3)(h4:QE X e4 t4)(n1:noStar e1=true:=by rfl)(n2:noStar e2=true:=by rfl)(n3:noStar e3=true:=by rfl)(n4:noStar e4=true:=by rfl):QE X (.List [e1,e2,e3,e4] pos) (wL (bN t1 (bN t2 (bN t3 (bN t4 kR))))):=⟨L2.aR6 h1.h h2.h h3.h h4.h n1 n2 n3 n4⟩
theorem pG{k1}(h1:QE X e1 t1)(h2:QE X e2 t2)(h3:QE X e3 t3)(h4:QE X e4 t4)(n1:noStar e1=true:=by rfl)(n2:noStar e2=true:=by rfl)(n3:noStar e3=true:=by rfl)(n4:noStar e4=true:=by rfl):QE X (.Tuple [e1,e2,e3,e4] k1 pos) (Cd (bN t1 (bN t2 (bN t3 (bN t4 kR))))):=⟨L2.aR7 h1.h h2.h h3.h h4.h n1 n2 n3 n4⟩
theorem Y3(h1:QE X e1 t1)(h2:QE X e2 t2)(h3:QE X e3 t3)(h4:QE X e4 t4)(h5:QE X e5 t5)(n1:noStar e1=true:=by rfl)(n2:noStar e2=true:=by rfl)(n3:noStar e3=true:=by rfl)(n4:noStar e4=true:=by rfl)(n5:noStar e5=true:=by rfl):QE X (.List [e1,e2,e3,e4,e5] pos) (wL (bN t1 (bN t2 (bN t3 (bN t4 (bN t5 kR)))))):=⟨L2.aR8 h1.h h2.h h3.h h4.h h5.h n1 n2 n3 n4 n5⟩
theorem aNY(h1:QE X e1 t1)(h2:QE X e2 t2)(h3:QE X e3 t3)(h4:QE X e4 t4)(h5:QE X e5 t5)(h6:QE X e6 t6)(h7:QE X e7 t7)(n1:noStar e1=true:=by rfl)(n2:noStar e2=true:=by rfl)(n3:noStar e3=true:=by rfl)(n4:noStar e4=true:=by rfl)(n5:noStar e5=true:=by rfl)(n6:noStar e6=true:=by rfl)(n7:noStar e7=true:=by rfl):QE X (.List [e1,e2,e3,e4,e5,e6,e7] pos) (wL (bN t1 (bN t2 (bN t3 (bN t4 (bN t5 (bN t6 (bN t7 kR)))))))):=⟨L2.aR9 h1.h h2.h h3.h h4.h h5.h h6.h h7.h n1 n2 n3 n4 n5 n6 n7⟩
end
section
variable{X:Cx}{CX:vi}{k:Nat}{f C:Addr}{fd:FuncData}{ps:ak}{sp:Sp}{fo:List V}{ds:ah}{E:XK}{x m:Str}{p pos apos p2 uk bf tp:Pos}{a b c e o st:Expr}{es rest elts:List Expr}{ta tb tc te to ti:TE}{t:TA}{x1:Nat}{ts:TO}
theorem jT{pl:Sem Bool}(he:QE X o ta)(c:mw X.K C)(hm:Meth X.K C m f)(F:bT X.prog X.w X.K X.mg X.base CX k f fd ps sp)(hr:eK k X.A)(hb:Binds X.K fd ps ds)(hd:Vals fo ds)(hx:Passes CX X E)(ha:QA X (e::es) t)
  (hn:(e::es).all noStar=true:=by rfl)
  (ht:eval (.Call (.Attribute o m apos) (e::es) [] pos) X.env=(do
   let ov <-eval o X.env
   standAt apos.atName
   let (f,first) <-holding [ov] (getMethod ov m pl)
   callWith pos f first (backTo pos (starEach (e::es) X.env)) (backToKw pos (keywordEach [] X.env))):=by rfl) :
  QE X (.Call (.Attribute o m apos) (e::es) [] pos) (E3 C m sp fo E ta t):=⟨L2.aNe he.h c hm F hr hb hd hx ha.h (bO (gY hn).1) (iU (gY hn).2) ht⟩
theorem aAV{pl:Sem Bool}(he:QE X o ta)(c:mw X.K C)(hm:Meth X.K C m f)(F:bT X.prog X.w X.K X.mg X.base CX k f fd ps sp)(hr:eK k X.A)(hb:Binds X.K fd ps ds)(hd:Vals fo ds)(hx:Passes CX X E)
  (ht:eval (.Call (.Attribute o m apos) [] [] pos) X.env=(do
   let ov <-eval o X.env
   standAt apos.atName
   let (f,first) <-holding [ov] (getMethod ov m pl)
   callWith pos f first (backTo pos (starEach [] X.env)) (backToKw pos (keywordEach [] X.env))):=by rfl) :
  QE X (.Call (.Attribute o m apos) [] [] pos) (E3 C m sp fo E ta kR):=⟨L2.aKY he.h c hm F hr hb hd hx ht⟩
theorem aGE{vn:List Stmt}{tt:TT}{ts:TS}(hp:PassesOwn (model X.prog X.w) X.A X.env X.xe)(hc:QT X c tt)(hb:zh X vn ts):QS X (.While c vn [] pos) (YG tt ts):=⟨L2.aKN hp hc.h hb.h⟩
end
section
variable{X:Cx}{K':W.Frag}{x m n:Str}{p pos apos p2 uk bf tp pos':Pos}{a b c e o st iter tg:Expr}{es rest elts:List Expr}{ta tb tc te to ti:TE}{t:TA}{x1:Nat}{ts:TO}
theorem aH(ha:QE X a ta)(hb:QE X b tb)(hs:Y6 b:=by exact λ_ _=>rfl)(hK:X.K=K':=by rfl):QE X (.Subscript a b pos) (AU (Ja K') ta tb):=by subst hK;exact⟨L2.aQ6 aPI ha.h hb.h hs⟩
theorem bH(hl:QE X e te)(hK:X.K=K':=by rfl):QI X tg e (OY K' te):=by subst hK;exact⟨L2.aM5 hl.h⟩
theorem aCn(hl:QE X e te)(hK:X.K=K':=by rfl):QI X tg e (Oq K' te):=by subst hK;exact⟨L2.aPu hl.h⟩
theorem kK(hg:Gl X "enumerate")(hm:X.mg "enumerate" = none)(ha:QA X [a] t)(hn:noStar a=true:=by rfl)(hK:X.K=K':=by rfl):QI X (.Tuple elts x1 tp) (.Call (.Name "enumerate" p) [a] [] pos) (OQ K' t):=by subst hK;exact⟨L2.aNR hg hm ha.h hn⟩
theorem bQ{k1 n:Nat}(hc:X.calm=true)(h:LV X es gs)(hn:(assignEach es X.env).length=n:=by rfl)(eg:(assignEach es X.env).findIdx? (·.1)=none:=by rfl)(hK:X.K=K':=by rfl):QG X (.Tuple es k1 pos) (Kl K' n gs):=by subst hK;exact⟨L2.aPi hc h.h hn eg⟩
theorem bK(he:QE X e ta)(hb:attributeBase e n X.env (eval e X.env)=eval e X.env)(hK:X.K=K':=by rfl):QE X (.Attribute e n pos) (OF K' ta n):=by subst hK;exact⟨L2.aPC he.h hb⟩
theorem cI(ha:QE X o ta)(hv:QE X e te)(hs:swapsWith e (some (.Attribute o n pos')) pos.line X.env=pure false)(hK:X.K=K':=by rfl):QS X (.Assign [.Attribute o n pos'] e pos) (OE K' ta te n):=by subst hK;exact⟨L2.aPD ha.h hv.h hs⟩
theorem eC(ho:QE X o to)(ha:QA X [e] t)(hn:noStar e=true:=by rfl)(br:attributeBase o "append" X.env (eval o X.env)=eval o X.env:=by rfl)(bq:(apos.endLine == bf.line)=true:=by rfl)(hK:X.K=K':=by rfl) :
  QE X (.Call (.Attribute o "append" apos) [e] [] bf) (BP K' "list" KZ to t):=by subst hK;exact⟨L2.aQn ho.h ha.h hn br bq⟩
end
end L2.Z
namespace L2
open PySem
section
variable{prog:Program}{w:World}{A:Around}{E:aj}{s:Shared}
theorem xU{it t:Addr}{i:Nat}{items}{x:Value}{Q:aj}(hit:s.heap.IsTupleIter it t i)
  (ht:s.heap.IsTuple t items) (hx:items[i]?=some x)
  (hQ:∀h',h'.IsTupleIter it t (i+1)->Heap.SameBut it s.heap h'->Q x { s with heap:=h' }) :
  wpAny (model prog w) A (Builtin.SmallTypes.nextOf (.ref it)) Q E s:=by
 obtain⟨o,ho,hc,hd⟩:=id hit;obtain⟨ol,Ng,_,nl,EC⟩:=ht;unfold Builtin.SmallTypes.nextOf;refine bG (wpAny_callSpecial?_slot (name:=Str.ofString "__next__") hit.typeIs F.slot_tuple_iterator_next
  (rq F.slot_tuple_iterator_next hit.typeIs F.entry_tuple_iterator_next ?_ (F.args_tuple_iterator_next_1 _)))
 show wpAny _ _ (field (.ref it) 0 >>= _) _ _ s;refine bG (wpAny_field ho hd (x:=.ref t) rfl ?_);show wpAny _ _ (if (Value.ref t == Value.none)=true then _ else _) _ _ s;rw[bZ (show ¬((Value.ref t == Value.none)=true) from xI)];show wpAny _ _ (field (.ref it) 1 >>= _) _ _ s;refine bG (wpAny_field ho hd (x:=.int i 0) rfl ?_);show wpAny _ _ (seqItems? (.ref t) >>= _) _ _ s;refine bG (wpAny_seqItems Ng EC ?_);simp only[xy,hx];refine bG (DB ho hd (by simp) (cM ⟨x,rfl,cM (hQ _ ?_ (Heap.SameBut.update ..))⟩));exact⟨_,G9 _ ho (Obj.isFreed_of_fields (Obj.data_mapFields hd _)),(Obj.cls_mapFields ..).trans hc,by
  rw[Obj.data_mapFields hd];simp[rawInt]⟩
theorem aAv{it t:Addr}{i:Nat}{items}{Q:aj}(hh:A.handled=none)
  (hit:s.heap.IsTupleIter it t i) (ht:s.heap.IsTuple t items) (hx:items[i]?=none)
  (hE:∀h' e,Heap.ExtBut it s.heap h'->(∃o,h'.get? e=some o/\o.cls=.type "StopIteration")->E (.ref e) { s with heap:=h' }) :
  wpAny (model prog w) A (Builtin.SmallTypes.nextOf (.ref it)) Q E s:=by
 obtain⟨o,ho,hc,hd⟩:=id hit;obtain⟨ol,Ng,_,nl,EC⟩:=ht;unfold Builtin.SmallTypes.nextOf;refine bG (wpAny_callSpecial?_slot (name:=Str.ofString "__next__") hit.typeIs F.slot_tuple_iterator_next
  (rq F.slot_tuple_iterator_next hit.typeIs F.entry_tuple_iterator_next ?_ (F.args_tuple_iterator_next_1 _)))
 show wpAny _ _ (field (.ref it) 0 >>= _) _ _ s;refine bG (wpAny_field ho hd (x:=.ref t) rfl ?_);show wpAny _ _ (if (Value.ref t == Value.none)=true then _ else _) _ _ s;rw[bZ (show ¬((Value.ref t == Value.none)=true) from xI)];show wpAny _ _ (field (.ref it) 1 >>= _) _ _ s;refine bG (wpAny_field ho hd (x:=.int i 0) rfl ?_);show wpAny _ _ (seqItems? (.ref t) >>= _) _ _ s;refine bG (wpAny_seqItems Ng EC ?_);simp only[xy,hx];refine bG (wpAny_rule (bG (DB ho hd (by simp) ?_)));show wpAny _ _ (newExc (.type "StopIteration") [] >>= _) _ _ _;refine bG ?_;simp only[newExc,newTuple];refine bG (qb ?_ (by size_fits));refine bG (m:=firstArgMember _ _) (wpAny_of_eq (a:=Value.none) (by first|rfl|(simp only[firstArgMember];rfl)) ?_);refine qb ?_ (by size_fits);simp only[raiseNew];refine bG (wpAny_handled ?_);first|rw[show A.in1.handled=none from hh]|rw[hh]
 refine bG (cM (wpAny_throw ?_));exact hE _ _ (((Heap.SameBut.update ..).extBut.push _).push _) ⟨_,lA _ rfl,rfl⟩
end
def pw(h:Heap)(k:Bool)(it src:Addr)(i:Nat):Prop:=if k=true then h.IsListIter it src i else h.IsTupleIter it src i
def iY(h:Heap)(k:Bool)(src:Addr)(items:Array Value):Prop:=if k=true then h.IsList src items else h.IsTuple src items
theorem pw.at{h h':Heap}{k:Bool}{i:Nat}(x:pw h k it src i)(e:∀o,h.get? it=some o->h'.get? it=some o):pw h' k it src i:=by
 cases k with
 |true=>obtain⟨o,ho,r⟩:=(show h.IsListIter it src i from x);exact(show h'.IsListIter it src i from⟨o,e o ho,r⟩)
 |false=>obtain⟨o,ho,r⟩:=(show h.IsTupleIter it src i from x);exact(show h'.IsTupleIter it src i from⟨o,e o ho,r⟩)
theorem iY.at{h h':Heap}{k:Bool}(x:iY h k src items)(e:∀o,h.get? src=some o->h'.get? src=some o):iY h' k src items:=by
 cases k with
 |true=>obtain⟨o,ho,r⟩:=(show h.IsList src items from x);exact(show h'.IsList src items from⟨o,e o ho,r⟩)
 |false=>obtain⟨o,ho,r⟩:=(show h.IsTuple src items from x);exact(show h'.IsTuple src items from⟨o,e o ho,r⟩)
theorem pw.obj{h:Heap}{k:Bool}{i:Nat}(x:pw h k it src i):∃o vs,h.get? it=some o/\o.data=.fields vs:=by
 cases k with
 |true=>obtain⟨o,ho,_,r⟩:=(show h.IsListIter it src i from x);exact⟨o,_,ho,r⟩
 |false=>obtain⟨o,ho,_,r⟩:=(show h.IsTupleIter it src i from x);exact⟨o,_,ho,r⟩
section
variable{prog:Program}{w:World}{A:Around}{E:aj}{s:Shared}
theorem aGF{k:Bool}{it src:Addr}{i:Nat}{items:Array Value}{x:Value}{Q:aj}(hit:pw s.heap k it src i)(hs:iY s.heap k src items)(hx:items[i]?=some x)
  (hQ:∀h',pw h' k it src (i+1)->Heap.SameBut it s.heap h'->Q x { s with heap:=h' }):wpAny (model prog w) A (Builtin.SmallTypes.nextOf (.ref it)) Q E s:=by
 cases k with
 |true=>exact wpAny_nextOf_list_item hit hs hx hQ
 |false=>exact xU hit hs hx hQ
theorem aHX{k:Bool}{it src:Addr}{i:Nat}{items:Array Value}{Q:aj}(hh:A.handled=none)(hit:pw s.heap k it src i)(hs:iY s.heap k src items)(hx:items[i]?=none)
  (hE:∀h' e,Heap.ExtBut it s.heap h'->(∃o,h'.get? e=some o/\o.cls=.type "StopIteration")->E (.ref e) { s with heap:=h' }):wpAny (model prog w) A (Builtin.SmallTypes.nextOf (.ref it)) Q E s:=by
 cases k with
 |true=>exact wpAny_nextOf_list_end hh hit hs hx hE
 |false=>exact aAv hh hit hs hx hE
end
abbrev ZS:=Bool×Addr×Addr
structure ZA(z TI TO:Addr)(L:List ZS):Prop where
 TIz:TI≠z
 TOz:TO≠z
 TITO:TI≠TO
 it:∀t∈L,t.2.1≠z/\t.2.1≠TI/\t.2.1≠TO
 nd:(L.map (·.2.1)).Nodup
abbrev mE(h:Heap)(T:Addr)(vs:Array Value):Prop:=h.get? T=some { cls:=.type "tuple",data:=.seq vs }
def Oi(z TO:Addr)(L:List ZS):Prop:=∀t∈L,t.2.2≠z/\t.2.2≠TO/\∀u∈L,t.2.2≠u.2.1
theorem YB:∀{l:au},l.Nodup->∀{i j:Nat}{a:Addr},l[i]?=some a->l[j]?=some a->i=j
 |[],_,_,_,_,h,_=>by simp at h
 |b::l,n,0,0,_,_,_=>rfl
 |b::l,n,0,j+1,a,h1,h2=>by
  simp at h1 h2;subst h1;exact absurd (kP h2) (ug.mp n).1
 |b::l,n,i+1,0,a,h1,h2=>by
  simp at h1 h2;subst h2;exact absurd (kP h1) (ug.mp n).1
 |b::l,n,i+1,j+1,a,h1,h2=>by
  simp at h1 h2;rw[YB (ug.mp n).2 h1 h2]
section
variable{prog:Program}{w:World}{A:Around}{E:aj}{s:Shared}
theorem aSa{T:Addr}{arr:Array Value}{x:Value}{j:Nat}{Q:Unit->Shared->Prop}(hT:mE s.heap T arr)(hz:arr.size<=1000)
  (h:∀h',mE h' T (arr.setIfInBounds j x)->Heap.SameBut T s.heap h'->Q () { s with heap:=h' }):wpAny (model prog w) A (updateSeq T (·.setIfInBounds j x)) Q E s:=by
 refine wpAny_updateSeq hT rfl (h _ ?_ (Heap.SameBut.update ..)) (by rw[ud];lia) (by rw[Array.size_setIfInBounds,ud];lia);show(s.heap.update T _).get? T=_;rw[G9 _ hT rfl];simp[Obj.mapSeq]
structure Oh(z TI TO:Addr)(L:List ZS)(k:Nat)(xs:Nat->Value)(h₀:Heap)(j:Nat)(h:Heap):Prop where
 zz:IsZip h z TI TO .ellipsis
 to:∃arr:Array Value,mE h TO arr/\arr.size=L.length/\∀i,i < j->arr[i]?=some (xs i)
 it:∀i t,L[i]?=some t->pw h t.1 t.2.1 t.2.2 (if i < j then k+1 else k)
 off:∀c o,c≠z->c≠TO->(∀t∈L,c≠t.2.1)->h₀.get? c=some o->h.get? c=some o
 sz:h.objs.size=h₀.objs.size
theorem ZP{z TI TO:Addr}{L:List ZS}{k:Nat}{items:Nat->Array Value}{xs:Nat->Value}{arr:Array Value}{Q:aj}(hh:A.handled=none)(D:ZA z TI TO L)(S:Oi z TO L)(bw:L≠[])(hlen:L.length<=1000)
  (hz:IsZip s.heap z TI TO .none) (Ax:mE s.heap TI (L.map λt=>Value.ref t.2.1).toArray) (A5:mE s.heap TO arr) (zt:arr.size=L.length)
  (hit:∀t∈L,pw s.heap t.1 t.2.1 t.2.2 k) (Tp:∀i t,L[i]?=some t->iY s.heap t.1 t.2.2 (items i))
  (hx:∀i,i < L.length->∀x,(items i)[k]?=some x->x=xs i)
  (hQ:(∀i,i < L.length->(items i)[k]?=some (xs i))->∀h' my,IsZip h' z TI TO (rawInt s.heap.objs.size)->mE h' TO my->my.size=L.length->(∀i,i < L.length->my[i]?=some (xs i))->(∀t∈L,pw h' t.1 t.2.1 t.2.2 (k+1))->mE h' s.heap.objs.size my->h'.objs.size=s.heap.objs.size+1->
   (∀c o,c≠z->c≠TO->(∀t∈L,c≠t.2.1)->s.heap.get? c=some o->h'.get? c=some o)->Q (.ref s.heap.objs.size) { s with heap:=h' })
  (hE:(∃i,i < L.length/\(items i)[k]?=none)->∀h' e,(∀c o,c≠z->c≠TO->(∀t∈L,c≠t.2.1)->s.heap.get? c=some o->h'.get? c=some o)->(∃o,h'.get? e=some o/\o.cls=.type "StopIteration")->E (.ref e) { s with heap:=h' }) :
  wpAny (model prog w) A (Builtin.«zip.__next__» ⟨[.ref z],[]⟩) (λfin s'=>∃v,fin=.done (.ret v)/\Q v s') E s:=by
 show wpAny _ _ (field (.ref z) 2 >>= _) _ _ _;refine bG (wpAny_field hz rfl (x:=.bool false) rfl ?_);show wpAny _ _ (field (.ref z) 3 >>= _) _ _ _;refine bG (wpAny_field hz rfl (x:=.ref TI) rfl ?_);refine bG (wpAny_seqItems Ax rfl ?_);have TJ:(L.map λt=>Value.ref t.2.1).toArray.isEmpty=false:=by
  cases L with
  |nil=>exact absurd rfl bw
  |cons t L=>rfl
 simp only[TJ,AN,if_false];show wpAny _ _ (Builtin.SmallTypes.ownedTupleIsFree (.ref z) >>= _) _ _ _;refine bG ?_;unfold Builtin.SmallTypes.ownedTupleIsFree;refine bG (wpAny_field hz rfl (x:=.none) rfl (cM ?_));simp only[if_true];refine bG (wpAny_rule ?_);refine bG (wpAny_field hz rfl (x:=.ref TO) rfl ?_);refine bG (Bn hz (by simp) λde zu oz=>?_)
 replace zu:IsZip de z TI TO .ellipsis:=zu
 replace oz:Heap.SameBut z s.heap de:=oz
 refine bG ?_;refine wpAny_forIn_list _ (λrest b s'=>b=((none,()):Option Fin×Unit)/\∃j,rest=((L.map λt=>Value.ref t.2.1).zipIdx).drop j/\j<=L.length/\(∀i,i < j->(items i)[k]?=some (xs i))/\Oh z TI TO L k xs s.heap j s'.heap/\s'={ s with heap:=s'.heap }) _ ?turn ?fin _ _ ⟨rfl,0,rfl,ko _,λi hi=>absurd hi (Nat.not_lt_zero _),?start,rfl⟩
 case start=>
  exact⟨zu,⟨arr,oz.extBut _ _ D.TOz A5,zt,λi hi=>absurd hi (Nat.not_lt_zero _)⟩,λi t ht=>by
   rw[bZ (Nat.not_lt_zero _)];exact(hit t (kP ht)).at λo e=>oz.extBut _ _ (D.it t (kP ht)).1 e,λc o c1 _ _ e=>oz.extBut _ _ c1 e,oz.1⟩
 case turn=>
  rintro x rest b s' ⟨rfl,j,er,hj,MV,M,es⟩;have Nl:((L.map λt=>Value.ref t.2.1).zipIdx).length=L.length:=by simp
  have Dc:j < ((L.map λt=>Value.ref t.2.1).zipIdx).length:=by
   apply Nat.lt_of_not_le;intro h;rw[List.drop_eq_nil_of_le h] at er;cases er
  rw[QL Dc] at er;injection er with e1 e2
  have Dd:j < L.length:=by rw[<-Nl];exact Dc
  have ht:L[j]?=some L[j]:=eS Dd;have mj:=Cs Dd;have e3:((L.map λt=>Value.ref t.2.1).zipIdx)[j]=(Value.ref L[j].2.1,j):=by simp
  rw[e3] at e1;generalize L[j]=t at ht mj e1;subst e1 e2;obtain⟨h',g',d',t',o'⟩:=s';injection es with _ e4 e5 e6 e7
  subst e4 e5 e6 e7
  replace M:Oh z TI TO L k xs s.heap j h':=M
  have D3:=M.it j t ht;rw[bZ (rm _)] at D3;have Vs:iY h' t.1 t.2.2 (items j):=(Tp j t ht).at λo e=>M.off _ o (S t mj).1 (S t mj).2.1 (S t mj).2.2 e;refine bG (wpAny_onRaise ?_);show wpAny _ _ (Builtin.SmallTypes.nextOf (.ref t.2.1) >>= _) _ _ _;cases F6:(items j)[k]? with
  |none=>
   refine bG (aHX (s:=⟨h',s.gens,s.drawn,s.toks,s.os⟩) hh D3 Vs F6 λh2 e eb he=>?_)
   replace eb:Heap.ExtBut t.2.1 h' h2:=eb
   obtain⟨oe,Nh,VJ⟩:=he;have Jw:IsZip h2 z TI TO .ellipsis:=eb _ _ (Ne.symm (D.it t mj).1) M.zz;have hez:e≠z:=λq=>by subst q;rw[Jw] at Nh;cases Nh;simp at VJ
   refine Bn Jw (by simp) λh3 _ Ew=>hE ⟨j,Dd,F6⟩ h3 e (λc o c1 c2 c3 q=>Ew.extBut _ _ c1 (eb _ _ (c3 t mj) (M.off c o c1 c2 c3 q))) ⟨oe,Ew.extBut _ _ hez Nh,VJ⟩
  |some x=>
   have ex:=hx j Dd x F6;subst ex;refine bG (aGF (s:=⟨h',s.gens,s.drawn,s.toks,s.os⟩) D3 Vs F6 λh2 MO CO=>cM ?_)
   replace CO:Heap.SameBut t.2.1 h' h2:=CO
   obtain⟨xb,BC,NI,M3⟩:=M.to;have HI:mE h2 TO xb:=CO.extBut _ _ (Ne.symm (D.it t mj).2.2) BC;refine bG (wpAny_seqItems HI rfl ?_);refine bG (aSa (s:=⟨h2,s.gens,s.drawn,s.toks,s.os⟩) HI (by lia) λh3 TV CN=>?_)
   replace CN:Heap.SameBut TO h2 h3:=CN
   refine bG (wpAny_letGo (cM ?_));refine⟨rfl,j+1,rfl,Dd,λi hi=>?_,⟨?_,⟨_,TV,?_,λi hi=>?_⟩,λi u hu=>?_,λc o c1 c2 c3 q=>?_,?_⟩,rfl⟩
   ·by_cases e:i=j
    ·subst e;exact F6
    ·exact MV i (by lia)
   ·exact CN.extBut _ _ (Ne.symm D.TOz) (CO.extBut _ _ (Ne.symm (D.it t mj).1) M.zz)
   ·rw[Array.size_setIfInBounds];exact NI
   ·by_cases e:i=j
    ·subst e;rw[Array.getElem?_setIfInBounds_self_of_lt (by lia)]
    ·rw[Array.getElem?_setIfInBounds_ne (Ne.symm e)];exact M3 i (by lia)
   ·have mu:=kP hu;have nT:u.2.1≠TO:=(D.it u mu).2.2;by_cases e:i=j
    ·subst e;rw[ht] at hu;cases hu;rw[cO (DH _)];exact MO.at λo q=>CN.extBut _ _ nT q
    ·have ne:u.2.1≠t.2.1:=λq=>by
      have n:=D.nd;have q1:(L.map (·.2.1))[i]?=some u.2.1:=by rw[kQ,hu];rfl
      have q2:(L.map (·.2.1))[j]?=some u.2.1:=by rw[kQ,ht,q];rfl
      exact e (YB n q1 q2)
     have:=M.it i u hu;rw[show(if i < j+1 then k+1 else k)=if i < j then k+1 else k by split <;> split <;> lia];exact this.at λo q=>CN.extBut _ _ nT (CO.extBut _ _ ne q)
   ·exact CN.extBut _ _ c2 (CO.extBut _ _ (c3 t mj) (M.off c o c1 c2 c3 q))
   ·show h3.objs.size=_;rw[CN.1,CO.1];exact M.sz
 case fin=>
  rintro b s' ⟨rfl,j,er,hj,MV,M,es⟩;have Dd:j=L.length:=by
   have:((L.map λt=>Value.ref t.2.1).zipIdx).length<=j:=List.drop_eq_nil_iff.mp er.symm;simp at this;lia
  subst Dd;obtain⟨h',g',d',t',o'⟩:=s';injection es with _ e4 e5 e6 e7
  subst e4 e5 e6 e7
  replace M:Oh z TI TO L k xs s.heap L.length h':=M
  obtain⟨xb,BC,NI,M3⟩:=M.to;show wpAny _ _ (seqItems? (.ref TO) >>= _) _ _ _;refine bG (wpAny_seqItems BC rfl ?_);refine bG (wpAny_newTuple ?_ (by rw[ya,ud];lia));have HA:z < h'.objs.size:=iB M.zz;show wpAny _ _ (Builtin.SmallTypes.ownedTupleHandOut (.ref z) (.ref h'.objs.size) >>= _) _ _ _;refine bG ?_;unfold Builtin.SmallTypes.ownedTupleHandOut;have hz6:IsZip (h'.push { cls:=.type "tuple",data:=.seq xb.toList.toArray }) z TI TO .ellipsis:=eG _ M.zz;refine bG (Bn hz6 (by simp) λh7 MU Na=>?_)
  replace MU:IsZip h7 z TI TO (rawInt h'.objs.size):=MU
  refine Bn MU (by simp) λh8 Jv M9=>?_
  replace Jv:IsZip h8 z TI TO (rawInt h'.objs.size):=Jv
  have up:∀c o,c≠z->h'.get? c=some o->h8.get? c=some o:=λc o c1 e=>M9.extBut _ _ c1 (Na.extBut _ _ c1 (eG _ e));have JJ:mE h8 h'.objs.size xb:=M9.extBut _ _ (wg HA) (Na.extBut _ _ (wg HA) (by
   have:=lA h' (o:={ cls:=.type "tuple",data:=.seq xb.toList.toArray }) rfl;simpa using this))
  have Vl:h8.objs.size=h'.objs.size+1:=by rw[M9.1,Na.1,ot]
  rw[M.sz] at Jv JJ Vl;refine cM ⟨_,rfl,?_⟩;show Q (.ref h'.objs.size) _;rw[M.sz];refine hQ (λi hi=>MV i hi) h8 xb Jv (up _ _ D.TOz BC) NI M3 (λt ht=>?_) JJ Vl λc o c1 c2 c3 e=>up c o c1 (M.off c o c1 c2 c3 e);obtain⟨i,hi⟩:=ve ht;have:=M.it i t hi;rw[cO (lU.mp hi).1] at this;exact this.at λo e=>up _ o (D.it t ht).1 e
end
def G3(z TI TO:Addr)(L:List ZS)(i:Nat)(h:Heap):Prop:=
 IsZip h z TI TO .none/\mE h TI (L.map λt=>Value.ref t.2.1).toArray/\(∃arr,mE h TO arr/\arr.size=L.length)/\∀t∈L,pw h t.1 t.2.1 t.2.2 i
abbrev m8(k:Bool)(src:Addr):Obj:={ cls:=.type (if k=true then "list_iterator" else "tuple_iterator"),data:=.fields #[.ref src,.int 0 0] }
theorem pw.new{h:Heap}{k:Bool}{it src:Addr}(e:h.get? it=some (m8 k src)):pw h k it src 0:=by
 cases k with
 |true=>exact(show h.IsListIter it src 0 from⟨_,e,rfl,rfl⟩)
 |false=>exact(show h.IsTupleIter it src 0 from⟨_,e,rfl,rfl⟩)
section
variable{prog:Program}{w:World}{A:Around}{E:aj}{s:Shared}
theorem mF{k:Bool}{src:Addr}{items:Array Value}{Q:aj}(h:iY s.heap k src items)(hQ:Q (.ref s.heap.objs.size) { s with heap:=s.heap.push (m8 k src) }):wpAny (model prog w) A (pyIter (.ref src)) Q E s:=by
 cases k with
 |true=>exact wpAny_pyIter_list h hQ
 |false=>exact wpAny_pyIter_tuple h hQ
end
theorem aCo(a b c:Value):checkTypeCall "zip" ⟨[a,b,c],[]⟩=pure ():=by kernel_rfl
theorem aDE(a b c:Value):checkBuiltinCall "zip.__new__" ⟨[.type "zip",a,b,c],[]⟩=pure ():=by kernel_rfl
theorem wR(a b c d:Value):argsOk "object.__init__" ⟨[a,b,c,d],[]⟩:=by
 unfold argsOk;rw[signature?_of (id:="object.__init__") (n:=['_','_','t','i','n','i','_','_']) (o:=['t','c','e','j','b','o']) (by kernel_rfl) F.owner_object];kernel_rfl
abbrev CJ(h:Heap)(t:Bool×Addr):Heap:=h.push (m8 t.1 t.2)
abbrev BM(h:Heap)(t u:Bool×Addr):Heap:=(CJ h t).push (m8 u.1 u.2)
abbrev IM(h:Heap)(t u v:Bool×Addr):Heap:=(BM h t u).push (m8 v.1 v.2)
abbrev IL(h:Heap)(t u:Bool×Addr):Heap:=(BM h t u).push { cls:=.type "tuple",data:=.seq #[.ref h.objs.size,.ref (CJ h t).objs.size] }
abbrev IK(h:Heap)(t u:Bool×Addr):Heap:=(IL h t u).push { cls:=.type "tuple",data:=.seq #[.none,.none] }
abbrev Eg(h:Heap)(t u:Bool×Addr):Heap:=(IK h t u).push { cls:=.type "zip",data:=.fields #[.none,.bool false,.bool false,.ref (BM h t u).objs.size,.ref (IL h t u).objs.size] }
abbrev IJ(h:Heap)(t u v:Bool×Addr):Heap:=(IM h t u v).push { cls:=.type "tuple",data:=.seq #[.ref h.objs.size,.ref (CJ h t).objs.size,.ref (BM h t u).objs.size] }
abbrev II(h:Heap)(t u v:Bool×Addr):Heap:=(IJ h t u v).push { cls:=.type "tuple",data:=.seq #[.none,.none,.none] }
abbrev CI(h:Heap)(t u v:Bool×Addr):Heap:=(II h t u v).push { cls:=.type "zip",data:=.fields #[.none,.bool false,.bool false,.ref (IM h t u v).objs.size,.ref (IJ h t u v).objs.size] }
theorem aGH(t u:Bool×Addr)(xs ys:Array Value) :
  Meets (Builtin.«zip.__new__» ⟨[.type "zip",.ref t.2,.ref u.2],[]⟩) (λ_ R s=>iY s.heap t.1 t.2 xs/\iY s.heap u.1 u.2 ys/\
   R (.ok (.ret (.ref (IK s.heap t u).objs.size))) { s with heap:=Eg s.heap t u }):=
 .of_wp λprog w A R s h=>by
  obtain⟨hp,g,d,tk,os⟩:=s;obtain⟨JF,Ge,h⟩:=h;have To:=sub_zip;have A7:iY (Shared.heap ⟨hp,g,d,tk,os⟩) t.1 t.2 xs:=JF;have EG:iY (Shared.heap ⟨hp.push (m8 t.1 t.2),g,d,tk,os⟩) u.1 u.2 ys:=iY.at Ge λo e=>eG _ e
  wp_walk using mF A7,mF EG
  exact⟨_,rfl,h⟩
theorem aGI(t u v:Bool×Addr)(xs ys zs:Array Value) :
  Meets (Builtin.«zip.__new__» ⟨[.type "zip",.ref t.2,.ref u.2,.ref v.2],[]⟩) (λ_ R s=>iY s.heap t.1 t.2 xs/\iY s.heap u.1 u.2 ys/\iY s.heap v.1 v.2 zs/\
   R (.ok (.ret (.ref (II s.heap t u v).objs.size))) { s with heap:=CI s.heap t u v }):=
 .of_wp λprog w A R s h=>by
  obtain⟨hp,g,d,tk,os⟩:=s;obtain⟨JF,Ge,hl3,h⟩:=h;have To:=sub_zip;have A7:iY (Shared.heap ⟨hp,g,d,tk,os⟩) t.1 t.2 xs:=JF;have EG:iY (Shared.heap ⟨hp.push (m8 t.1 t.2),g,d,tk,os⟩) u.1 u.2 ys:=iY.at Ge λo e=>eG _ e;have hL3:iY (Shared.heap ⟨(hp.push (m8 t.1 t.2)).push (m8 u.1 u.2),g,d,tk,os⟩) v.1 v.2 zs:=iY.at hl3 λo e=>eG _ (eG _ e)
  wp_walk using mF A7,mF EG,mF hL3
  exact⟨_,rfl,h⟩
section
variable{prog:Program}{w:World}{A:Around}{E:aj}{s:Shared}
theorem aHY{t u:Bool×Addr}{xs ys:Array Value}{Q:aj}(h1:iY s.heap t.1 t.2 xs)(h2:iY s.heap u.1 u.2 ys)
  (h:∀h',G3 (s.heap.objs.size+4) (s.heap.objs.size+2) (s.heap.objs.size+3) [(t.1,s.heap.objs.size,t.2),(u.1,s.heap.objs.size+1,u.2)] 0 h'->(∀c o,s.heap.get? c=some o->h'.get? c=some o)->Q (.ref (s.heap.objs.size+4)) { s with heap:=h' }) :
  wpAny (model prog w) A (call (.type "zip") [.ref t.2,.ref u.2]) Q E s:=by
 refine callType_new F.called_zip (by decide) (F.typeCall_zip_2 _ _) (F.newCall_zip_2 _ _) (λobj=>F.args_object_init_3 obj _ _) F.entry_zip_new
  (aGH t u xs ys) ⟨h1,h2,?_⟩
 have z1:(CJ s.heap t).objs.size=s.heap.objs.size+1:=ot ..;have z2:(BM s.heap t u).objs.size=s.heap.objs.size+2:=by rw[ot,z1]
 have z3:(IL s.heap t u).objs.size=s.heap.objs.size+3:=by rw[ot,z2]
 have z4:(IK s.heap t u).objs.size=s.heap.objs.size+4:=by rw[ot,z3]
 have g5:(Eg s.heap t u).get? (IK s.heap t u).objs.size=some _:=lA _ rfl;have g4:(Eg s.heap t u).get? (IL s.heap t u).objs.size=some _:=eG _ (lA _ rfl);have g3:(Eg s.heap t u).get? (BM s.heap t u).objs.size=some _:=eG _ (eG _ (lA _ rfl));have g2:(Eg s.heap t u).get? (CJ s.heap t).objs.size=some (m8 u.1 u.2):=eG _ (eG _ (eG _ (lA _ rfl)));have g1:(Eg s.heap t u).get? s.heap.objs.size=some (m8 t.1 t.2):=eG _ (eG _ (eG _ (eG _ (lA _ rfl))));show _/\_;rw[z2,z3,z4] at g5;rw[z1,z2] at g3;rw[z3] at g4;rw[z1] at g2;rw[z4];refine⟨⟨_,g5,rfl⟩,h _ ⟨g5,g3,⟨_,g4,rfl⟩,λx hx=>?_⟩ λc o x=>
  eG _ (eG _ (eG _ (eG _ (eG _ x))))⟩
 simp only[lC,vd,or_false] at hx;rcases hx with rfl|rfl
 ·exact pw.new g1
 ·exact pw.new g2
theorem aHZ{t u v:Bool×Addr}{xs ys zs:Array Value}{Q:aj}(h1:iY s.heap t.1 t.2 xs)(h2:iY s.heap u.1 u.2 ys)(h3:iY s.heap v.1 v.2 zs)
  (h:∀h',G3 (s.heap.objs.size+5) (s.heap.objs.size+3) (s.heap.objs.size+4) [(t.1,s.heap.objs.size,t.2),(u.1,s.heap.objs.size+1,u.2),(v.1,s.heap.objs.size+2,v.2)] 0 h'->(∀c o,s.heap.get? c=some o->h'.get? c=some o)->Q (.ref (s.heap.objs.size+5)) { s with heap:=h' }) :
  wpAny (model prog w) A (call (.type "zip") [.ref t.2,.ref u.2,.ref v.2]) Q E s:=by
 refine callType_new F.called_zip (by decide) (aCo _ _ _) (aDE _ _ _) (λobj=>wR obj _ _ _) F.entry_zip_new
  (aGI t u v xs ys zs) ⟨h1,h2,h3,?_⟩
 have z1:(CJ s.heap t).objs.size=s.heap.objs.size+1:=ot ..;have z2:(BM s.heap t u).objs.size=s.heap.objs.size+2:=by rw[ot,z1]
 have z3:(IM s.heap t u v).objs.size=s.heap.objs.size+3:=by rw[ot,z2]
 have z4:(IJ s.heap t u v).objs.size=s.heap.objs.size+4:=by rw[ot,z3]
 have z5:(II s.heap t u v).objs.size=s.heap.objs.size+5:=by rw[ot,z4]
 have g6:(CI s.heap t u v).get? (II s.heap t u v).objs.size=some _:=lA _ rfl;have g5:(CI s.heap t u v).get? (IJ s.heap t u v).objs.size=some _:=eG _ (lA _ rfl);have g4:(CI s.heap t u v).get? (IM s.heap t u v).objs.size=some _:=eG _ (eG _ (lA _ rfl));have g3:(CI s.heap t u v).get? (BM s.heap t u).objs.size=some (m8 v.1 v.2):=eG _ (eG _ (eG _ (lA _ rfl)));have g2:(CI s.heap t u v).get? (CJ s.heap t).objs.size=some (m8 u.1 u.2):=eG _ (eG _ (eG _ (eG _ (lA _ rfl))));have g1:(CI s.heap t u v).get? s.heap.objs.size=some (m8 t.1 t.2):=eG _ (eG _ (eG _ (eG _ (eG _ (lA _ rfl)))));show _/\_;rw[z3,z4,z5] at g6;rw[z1,z2,z3] at g4;rw[z4] at g5;rw[z2] at g3;rw[z1] at g2;rw[z5];refine⟨⟨_,g6,rfl⟩,h _ ⟨g6,g4,⟨_,g5,rfl⟩,λx hx=>?_⟩ λc o x=>
  eG _ (eG _ (eG _ (eG _ (eG _ (eG _ x)))))⟩
 simp only[lC,vd,or_false] at hx;rcases hx with rfl|rfl|rfl
 ·exact pw.new g1
 ·exact pw.new g2
 ·exact pw.new g3
end
theorem nS{n a b:Nat}(h:a≠b):@Ne Addr (n+a) (n+b):=λe=>h (Nat.add_left_cancel e)
theorem za2(n:Nat)(t u:Bool×Addr):ZA (n+4) (n+2) (n+3) [(t.1,n,t.2),(u.1,n+1,u.2)]:=by
 refine⟨nS (by decide),nS (by decide),nS (by decide),λx hx=>?_,?_⟩
 ·simp only[lC,vd,or_false] at hx;rcases hx with rfl|rfl
  ·exact⟨nS (a:=0) (by decide),nS (a:=0) (by decide),nS (a:=0) (by decide)⟩
  ·exact⟨nS (by decide),nS (by decide),nS (by decide)⟩
 ·simp
theorem za3(n:Nat)(t u v:Bool×Addr):ZA (n+5) (n+3) (n+4) [(t.1,n,t.2),(u.1,n+1,u.2),(v.1,n+2,v.2)]:=by
 refine⟨nS (by decide),nS (by decide),nS (by decide),λx hx=>?_,?_⟩
 ·simp only[lC,vd,or_false] at hx;rcases hx with rfl|rfl|rfl
  ·exact⟨nS (a:=0) (by decide),nS (a:=0) (by decide),nS (a:=0) (by decide)⟩
  ·exact⟨nS (by decide),nS (by decide),nS (by decide)⟩
  ·exact⟨nS (by decide),nS (by decide),nS (by decide)⟩
 ·simp
end L2
namespace L2
open PySem PySem.Spec PyProof.Rows
def Src(H:Hp)(k:Bool)(a:Addr)(xs:List V):Prop:=H a=some (if k=true then .lst xs else .tup xs)
theorem Src.inj{k:Bool}(h:Src H k a xs)(h':Src H k a ys):xs=ys:=by
 unfold Src at h h';rw[h] at h';cases k with
 |true=>injection h' with e;injection e
 |false=>injection h' with e;injection e
theorem Src.lst{H:Hp}{a:Addr}{xs:List V}(h:H a=some (.lst xs)):Src H true a xs:=h
theorem Src.tup{H:Hp}{a:Addr}{xs:List V}(h:H a=some (.tup xs)):Src H false a xs:=h
theorem Inv.src{s:Shared}{k:Bool}{xs:List V}(I:Inv X pins σ H s)(h:Src H k a xs):∃its:ah,Vals xs its/\iY s.heap k a its.toArray/\xs.length<=sizeLine:=by
 cases k with
 |true=>
  obtain⟨its,r,p,z⟩:=I.list (bR.of h);exact⟨its,r,p.isList,z⟩
 |false=>
  obtain⟨its,r,p,z⟩:=I.tuple (iC.of h);exact⟨its,r,p,z⟩
theorem aAW:∀{xs:List V}{us:ah},xs.length=us.length->(∀(j:Nat) (x:V) (u:Value),xs[j]?=some x->us[j]?=some u->RelV x u)->Vals xs us
 |[],[],_,_=>.nil
 |x::xs,u::us,h,f=>.cons (f 0 x u rfl rfl) (aAW (by simpa using h) λj y v h1 h2=>f (j+1) y v (by simpa using h1) (by simpa using h2))
 |[],_::_,h,_=>by cases h
 |_::_,[],h,_=>by cases h
def tj(L:List (Bool×Addr)):It:=
 ⟨λi H=>∀t∈L,∃xs x,Src H t.1 t.2 xs/\xs[i]?=some x,
  λi H v H'=>∃T vs,H T=none/\v=.ref T/\H'=upd H T (.tup vs)/\vs.length=L.length/\∀(j:Nat) (t:Bool×Addr) (xs:List V),L[j]?=some t->Src H t.1 t.2 xs->∃x,xs[i]?=some x/\vs[j]?=some x,
  λi H=>(∀t∈L,∃xs,Src H t.1 t.2 xs)/\∃t∈L,∃xs,Src H t.1 t.2 xs/\xs.length<=i⟩
def zL(L:List ZS):List (Bool×Addr):=L.map λt=>(t.1,t.2.2)
theorem YA{L:List ZS}{t:ZS}(h:t∈L):(t.1,t.2.2)∈zL L:=fZ.mpr ⟨t,h,rfl⟩
theorem aQs{L:List ZS}{j:Nat}{t:Bool×Addr}(h:(zL L)[j]?=some t):∃u,L[j]?=some u/\t=(u.1,u.2.2):=by
 unfold zL at h;rw[kQ] at h;cases e:L[j]? with
 |none=>rw[e] at h;cases h
 |some u=>rw[e] at h;cases h;exact⟨u,rfl,rfl⟩
abbrev me(z TI TO:Addr)(L:List ZS):au:=z::TI::TO::L.map (·.2.1)
theorem GV{z TI TO:Addr}{L:List ZS}{t:ZS}(h:t∈L):t.2.1∈me z TI TO L:=by
 simp only[me,lC];exact .inr (.inr (.inr (fZ.mpr ⟨t,h,rfl⟩)))
theorem G3.obj{z TI TO:Addr}{L:List ZS}{i:Nat}{h:Heap}(st:G3 z TI TO L i h):∀b∈me z TI TO L,∃o,h.get? b=some o/\∀v,o.data≠.cell v:=λb hb=>by
 obtain⟨hz,Ax,⟨arr,A5,_⟩,hit⟩:=st;simp only[me,lC] at hb;rcases hb with rfl|rfl|rfl|hb
 ·exact⟨_,hz,λv z=>by cases z⟩
 ·exact⟨_,Ax,λv z=>by cases z⟩
 ·exact⟨_,A5,λv z=>by cases z⟩
 ·obtain⟨t,ht,rfl⟩:=fZ.mp hb;obtain⟨o,vs,e,d⟩:=(hit t ht).obj;exact⟨o,e,λv z=>by rw[d] at z;cases z⟩
theorem aEC{P:Program}{w:World}{K:W.Frag}{elts:List Expr}{x1:Nat}{tp:Pos}(L:List ZS)(z TI TO:Addr)(D:ZA z TI TO L)(bw:L≠[])(hlen:L.length<=1000) :
  Turn P w K (.Tuple elts x1 tp) (tj (zL L)) (me z TI TO L) z (G3 z TI TO L) where
 mem:=by simp[me]
 obj:=λi h st=>st.obj
 keep:=λi h h' st k=>by
  obtain⟨hz,Ax,⟨arr,A5,ha⟩,hit⟩:=st;exact⟨k z (by simp[me]) _ hz,k TI (by simp[me]) _ Ax,⟨arr,k TO (by simp[me]) _ A5,ha⟩,λt ht=>(hit t ht).at λo q=>k _ (GV ht) o q⟩
 item:=by
  intro X hP hw hK hc i pins s σ H E I hf st hg;subst hP hw hK;have Jm:∀b∈me z TI TO L,b < s.heap.objs.size:=λb hb=>by obtain⟨o,e,_⟩:=st.obj b hb;exact iB e
  obtain⟨hz,Ax,⟨arr,A5,zt⟩,hit⟩:=st;have key:∀j:Nat,∃r:ah×Value×V,∀t,L[j]?=some t->iY s.heap t.1 t.2.2 r.1.toArray/\(∀xs,Src H t.1 t.2.2 xs->xs[i]?=some r.2.2)/\r.1[i]?=some r.2.1/\RelV r.2.2 r.2.1/\t.2.2∉me z TI TO L:=λj=>by
   cases e:L[j]? with
   |none=>exact⟨([],.none,.bt),λt h=>by cases h⟩
   |some t=>
    obtain⟨xs,x,hs,hx⟩:=hg _ (YA (kP e));obtain⟨its,r,src,_⟩:=I.src hs;obtain⟨u,hu,ru⟩:=r.get hx;refine⟨(its,u,x),λt' h=>?_⟩;cases h;refine⟨src,λys hy=>by rw[hy.inj hs];exact hx,hu,ru,λhm=>?_⟩;have:=(hf _ hm).1;unfold Src at hs;rw[show H t.2.2=some (if t.1=true then .lst xs else .tup xs) from hs] at this;cases this
  obtain⟨f,Ar⟩:=Classical.axiomOfChoice key;have S:Oi z TO L:=λt ht=>by
   obtain⟨j,hj⟩:=ve ht;have n:=(Ar j t hj).2.2.2.2;refine⟨λe=>n (by rw[e];simp[me]),λe=>n (by rw[e];simp[me]),λu hu e=>n (by rw[e];exact GV hu)⟩
  have MQ:∀j,j < L.length->∃t,L[j]?=some t:=λj hj=>⟨_,eS hj⟩
  unfold pyNext;have hT:s.TypeIs (.ref z) "zip":=⟨_,hz,rfl⟩
  refine bG (Cr (wpAny_callSpecial?_slot (name:=Str.ofString "__next__") hT F.slot_zip_next
   (rq F.slot_zip_next hT F.entry_zip_next (ZP (items:=λj=>(f j).1.toArray) (xs:=λj=>(f j).2.1) (I.ok.hd hc) D S bw hlen hz Ax A5 zt hit (λj t hj=>(Ar j t hj).1) (λj hj x hx=>?_)
    (λ_ h1 my a1 a2 a3 a4 a5 a6 a7 hk=>cM ⟨_,rfl,wpAny_letOwnedTupleGo_zip a1 λg2 Jw dv=>?_⟩) (λhE=>?_)) (F.args_zip_next_1 _))))
  ·obtain⟨t,ht⟩:=MQ j hj;have e:=(Ar j t ht).2.2.1;have og:(f j).1[i]?=some x:=by simpa using hx
   rw[e] at og;exact(Option.some.inj og).symm
  ·replace dv:Heap.SameBut z h1 g2:=dv
   have A6:g2.IsTuple s.heap.objs.size my:=⟨_,(dv.2 _ (wg (Jm z (by simp[me])))).trans a6,rfl,_,rfl⟩
   have kk:∀b o,b∉me z TI TO L->s.heap.get? b=some o->g2.get? b=some o:=λb o hb q=>by
    have n1:b≠z:=λe=>hb (by rw[e];simp[me]);exact(dv.2 b n1).trans (hk b o n1 (λe=>hb (by rw[e];simp[me])) (λt ht e=>hb (by rw[e];exact GV ht)) q)
   have rv:Vals ((List.range L.length).map λj=>(f j).2.2) my.toList:=by
    refine aAW (by simp[a3]) λj x u hx hu=>?_;rw[kQ] at hx;by_cases hj:j < L.length
    ·rw[LD hj] at hx;cases hx;obtain⟨t,ht⟩:=MQ j hj;have e:=a4 j hj;have Vq:my[j]?=some u:=by simpa using hu
     rw[e] at Vq;cases Vq;exact(Ar j t ht).2.2.2.1
    ·rw[Bp (by simpa using hj)] at hx;cases hx
   have I2:Inv X pins σ (upd H s.heap.objs.size (.tup ((List.range L.length).map λj=>(f j).2.2))) { s with heap:=g2 }:=
    I.uF (t':=s.toks) kk hf (dQ _) (show bS X.prog X.w _ g2 _ (.tup _) from⟨cB (by simp;lia),my.toList,rv,by simpa using show IsTup g2 s.heap.objs.size my from A6⟩)
   have De:H s.heap.objs.size=none:=I.bc.fresh (dQ _);refine⟨.ref s.heap.objs.size,_,I2,rfl,⟨_,_,De,rfl,rfl,by simp[zL],λj t xs hj hs=>?_⟩,⟨Jw,?_,⟨my,dv.extBut _ _ D.TOz a2,a3⟩,λt ht=>(a5 t ht).at λo q=>(dv.2 _ (D.it t ht).1).trans q⟩,λb hb=>?_⟩
   ·obtain⟨u,hu,rfl⟩:=aQs hj;have Dc:j < L.length:=(lU.mp hu).1;refine⟨(f j).2.2,(Ar j u hu).2.1 xs hs,?_⟩;rw[kQ,LD Dc];rfl
   ·exact dv.extBut _ _ D.TIz (hk _ _ D.TIz D.TITO (λt ht=>Ne.symm (D.it t ht).2.1) Ax)
   ·rw[aT (oH (Jm b hb))];exact(hf b hb).1
  ·exfalso;obtain⟨j,hj,e⟩:=hE;obtain⟨t,ht⟩:=MQ j hj;have e':(f j).1[i]?=none:=by simpa using e
   rw[(Ar j t ht).2.2.1] at e';cases e'
 done:=by
  intro X hP hw hK hc i pins s σ H E I hf st hg;subst hP hw hK;obtain⟨hz,Ax,⟨arr,A5,zt⟩,hit⟩:=st;obtain⟨fm,t0,ht0,xs0,Ex,VB⟩:=hg;have key:∀j:Nat,∃r:ah,∀t,L[j]?=some t->iY s.heap t.1 t.2.2 r.toArray/\(∀xs,Src H t.1 t.2.2 xs->xs.length=r.length)/\t.2.2∉me z TI TO L:=λj=>by
   cases e:L[j]? with
   |none=>exact⟨[],λt h=>by cases h⟩
   |some t=>
    obtain⟨xs,hs⟩:=fm _ (YA (kP e));obtain⟨its,r,src,_⟩:=I.src hs;refine⟨its,λt' h=>?_⟩;cases h;refine⟨src,λys hy=>by rw[hy.inj hs];exact r.length,λhm=>?_⟩;have:=(hf _ hm).1;unfold Src at hs;rw[show H t.2.2=some (if t.1=true then .lst xs else .tup xs) from hs] at this;cases this
  obtain⟨f,Ar⟩:=Classical.axiomOfChoice key;have S:Oi z TO L:=λt ht=>by
   obtain⟨j,hj⟩:=ve ht;have n:=(Ar j t hj).2.2;refine⟨λe=>n (by rw[e];simp[me]),λe=>n (by rw[e];simp[me]),λu hu e=>n (by rw[e];exact GV hu)⟩
  unfold pyNext;have hT:s.TypeIs (.ref z) "zip":=⟨_,hz,rfl⟩
  refine bG (Cr (wpAny_callSpecial?_slot (name:=Str.ofString "__next__") hT F.slot_zip_next
   (rq F.slot_zip_next hT F.entry_zip_next (ZP (items:=λj=>(f j).toArray) (xs:=λj=>((f j)[i]?).getD .none) (I.ok.hd hc) D S bw hlen hz Ax A5 zt hit (λj t hj=>(Ar j t hj).1) (λj hj x hx=>?_)
    (λID=>?_) (λhE h1 e hk he=>?_)) (F.args_zip_next_1 _))))
  ·have og:(f j)[i]?=some x:=by simpa using hx
   rw[og];rfl
  ·exfalso;obtain⟨u,hu,rfl⟩:=fZ.mp ht0;obtain⟨j,hj⟩:=ve hu;have e1:=(Ar j u hj).2.1 xs0 Ex;have e2:=ID j (lU.mp hj).1;have e3:(f j)[i]?=some (((f j)[i]?).getD .none):=by simpa using e2
   rw[Bp (by lia)] at e3;cases e3
  ·obtain⟨o,ho,qh⟩:=he;refine bG (wpAny_isInstance (T:="StopIteration") (b:=true) ⟨o,ho,qh⟩ isSubtype_stop ?_);refine cM ⟨rfl,I.aJY (t':=s.toks) (ch:=me z TI TO L) (λb o hb q=>?_) hf⟩;exact hk b o (λe=>hb (by rw[e];simp[me])) (λe=>hb (by rw[e];simp[me])) (λt ht e=>hb (by rw[e];exact GV ht)) q
 self:=λ_ _ _ _ _ st h=>wpAny_pyIter_zip st.1 h
section
variable{X:Cx}{elts:List Expr}{x1:Nat}{tp:Pos}{k1 k2 k3:Bool}
def Og(k1 k2:Bool)(R:It->Hp->Prop):List V->Hp->Prop:=λvs H1=>∃a b xs ys,vs=[.ref a,.ref b]/\Src H1 k1 a xs/\Src H1 k2 b ys/\R (tj [(k1,a),(k2,b)]) H1
def OV(k1 k2:Bool)(ta:TA):TI:=λσ H R=>ta σ H (Og k1 k2 R)
def Of(k1 k2 k3:Bool)(R:It->Hp->Prop):List V->Hp->Prop:=λvs H1=>∃a b c xs ys zs,vs=[.ref a,.ref b,.ref c]/\Src H1 k1 a xs/\Src H1 k2 b ys/\Src H1 k3 c zs/\R (tj [(k1,a),(k2,b),(k3,c)]) H1
def OU(k1 k2 k3:Bool)(ta:TA):TI:=λσ H R=>ta σ H (Of k1 k2 k3 R)
theorem vals3{x y z:V}{us:ah}(r:Vals [x,y,z] us):∃u v w,us=[u,v,w]/\RelV x u/\RelV y v/\RelV z w:=by
 cases r with
 |cons r1 r=>
  cases r with
  |cons r2 r=>
   cases r with
   |cons r3 r=>
    cases r;exact⟨_,_,_,rfl,r1,r2,r3⟩
theorem aNZ{a b:Expr}{ta:TA}{p pos:Pos}(hg:Gl X "zip")(hm:X.mg "zip" = none)(ha:PA X [a,b] ta)(hn:noStar a=true:=by rfl)(rg:noStar b=true:=by rfl):PI X (.Tuple elts x1 tp) (.Call (.Name "zip" p) [a,b] [] pos) (OV k1 k2 ta):=by
 intro pins s σ H R I h;have dv:starEach [b] X.env=[(false,eval b X.env)]:=bO rg;have hs:starEach [a,b] X.env=[(false,eval a X.env),(false,eval b X.env)]:=by rw[bO hn,dv]
 refine Call_ (lV I hg hm YC (PyProof.Rows.callWith_type1 (dC (ha pos pins s σ H _ I h) λus s1 ⟨vs,H1,I1,r1,q1⟩=>?_) (by rw[hs,dv]) (by rw[dv];rfl)));obtain⟨l1,l2,xs,ys,e,B1,C4,q⟩:=q1;subst e;obtain⟨u,v,rfl,ru,rv⟩:=vals2 r1;cases ru;cases rv;obtain⟨its,_,pl,_⟩:=I1.src B1;obtain⟨qe,_,Jc,_⟩:=I1.src C4;refine aHY (t:=(k1,l1)) (u:=(k2,l2)) pl Jc λh' st hk=>?_;refine wpAny_pyIter_zip st.1 ?_;refine⟨_,_,_,_,H1,rfl,I1.kept (t':=s1.toks) hk,aEC _ _ _ _ (za2 s1.heap.objs.size (k1,l1) (k2,l2)) (by simp) (by simp),st,λb hb=>?_,q⟩;have hle:s1.heap.objs.size<=b:=by
  simp only[me,uY,vb,lC,vd,or_false] at hb;rcases hb with rfl|rfl|rfl|rfl|rfl <;> first|exact Nat.le_add_right _ _|exact dQ _
 exact I1.xw hle (I1.bc.fresh hle)
theorem aN0{a b c:Expr}{ta:TA}{p pos:Pos}(hg:Gl X "zip")(hm:X.mg "zip" = none)(ha:PA X [a,b,c] ta)(hn:noStar a=true:=by rfl)(rg:noStar b=true:=by rfl)(Ni:noStar c=true:=by rfl):PI X (.Tuple elts x1 tp) (.Call (.Name "zip" p) [a,b,c] [] pos) (OU k1 k2 k3 ta):=by
 intro pins s σ H R I h;have Ew:starEach [c] X.env=[(false,eval c X.env)]:=bO Ni;have dv:starEach [b,c] X.env=[(false,eval b X.env),(false,eval c X.env)]:=by rw[bO rg,Ew]
 have hs:starEach [a,b,c] X.env=[(false,eval a X.env),(false,eval b X.env),(false,eval c X.env)]:=by rw[bO hn,dv]
 refine Call_ (lV I hg hm YC (PyProof.Rows.callWith_type1 (dC (ha pos pins s σ H _ I h) λus s1 ⟨vs,H1,I1,r1,q1⟩=>?_) (by rw[hs,dv]) (by rw[dv];rfl)));obtain⟨l1,l2,l3,xs,ys,zs,e,B1,C4,Nd,q⟩:=q1;subst e;obtain⟨u,v,w,rfl,ru,rv,rb⟩:=vals3 r1;cases ru;cases rv;cases rb;obtain⟨its,_,pl,_⟩:=I1.src B1;obtain⟨qe,_,Jc,_⟩:=I1.src C4;obtain⟨a0i,_,pl3,_⟩:=I1.src Nd;refine aHZ (t:=(k1,l1)) (u:=(k2,l2)) (v:=(k3,l3)) pl Jc pl3 λh' st hk=>?_;refine wpAny_pyIter_zip st.1 ?_;refine⟨_,_,_,_,H1,rfl,I1.kept (t':=s1.toks) hk,aEC _ _ _ _ (za3 s1.heap.objs.size (k1,l1) (k2,l2) (k3,l3)) (by simp) (by simp),st,λb hb=>?_,q⟩;have hle:s1.heap.objs.size<=b:=by
  simp only[me,uY,vb,lC,vd,or_false] at hb;rcases hb with rfl|rfl|rfl|rfl|rfl|rfl <;> first|exact Nat.le_add_right _ _|exact dQ _
 exact I1.xw hle (I1.bc.fresh hle)
end
section
variable{σ:St}{H:Hp}{nx:St->Hp->Prop}{rt:VK}{g:TG}{tb:TS}{Q:VK}{k1 k2 k3:Bool}{a b c:Addr}{xs ys zs:List V}{n:Nat}
theorem aLI{ta:TA}{R:It->Hp->Prop}(h:ta σ H (Og k1 k2 R)):OV k1 k2 ta σ H R:=h
theorem aLJ{ta:TA}{R:It->Hp->Prop}(h:ta σ H (Of k1 k2 k3 R)):OU k1 k2 k3 ta σ H R:=h
theorem KH{R:It->Hp->Prop}(h1:Src H k1 a xs)(h2:Src H k2 b ys)(h:R (tj [(k1,a),(k2,b)]) H):Og k1 k2 R [.ref a,.ref b] H:=⟨a,b,xs,ys,rfl,h1,h2,h⟩
theorem aQv{R:It->Hp->Prop}(h1:Src H k1 a xs)(h2:Src H k2 b ys)(h3:Src H k3 c zs)(h:R (tj [(k1,a),(k2,b),(k3,c)]) H):Of k1 k2 k3 R [.ref a,.ref b,.ref c] H:=⟨a,b,c,xs,ys,zs,rfl,h1,h2,h3,h⟩
theorem Y2{i:Nat}(h1:Src H k1 a xs)(h2:Src H k2 b ys){x y:V}(e1:xs[i]?=some x)(e2:ys[i]?=some y):(tj [(k1,a),(k2,b)]).go i H:=λt ht=>by
 simp only[lC,vd,or_false] at ht;rcases ht with rfl|rfl
 ·exact⟨xs,x,h1,e1⟩
 ·exact⟨ys,y,h2,e2⟩
theorem ZO{i:Nat}(h1:Src H k1 a xs)(h2:Src H k2 b ys){v:V}{H':Hp}(h:(tj [(k1,a),(k2,b)]).oq i H v H'):∃T x y,H T=none/\v=.ref T/\H'=upd H T (.tup [x,y])/\xs[i]?=some x/\ys[i]?=some y:=by
 obtain⟨T,vs,nT,e1,e2,hl,hv⟩:=h;obtain⟨x,hx,v0⟩:=hv 0 _ xs rfl h1;obtain⟨y,hy,v1⟩:=hv 1 _ ys rfl h2
 match vs,hl with
 |[p,q],_=>cases v0;cases v1;exact⟨T,_,_,nT,e1,e2,hx,hy⟩
theorem aED{i:Nat}(h1:Src H k1 a xs)(h2:Src H k2 b ys)(hm:xs.length<=i\/ys.length<=i):(tj [(k1,a),(k2,b)]).stop i H:=by
 refine⟨λt ht=>?_,?_⟩
 ·simp only[lC,vd,or_false] at ht;rcases ht with rfl|rfl
  ·exact⟨xs,h1⟩
  ·exact⟨ys,h2⟩
 ·rcases hm with h|h
  ·exact⟨(k1,a),by simp,xs,h1,h⟩
  ·exact⟨(k2,b),by simp,ys,h2,h⟩
theorem aN1{i:Nat}(h1:Src H k1 a xs)(h2:Src H k2 b ys)(h3:Src H k3 c zs){x y z:V}(e1:xs[i]?=some x)(e2:ys[i]?=some y)(e3:zs[i]?=some z):(tj [(k1,a),(k2,b),(k3,c)]).go i H:=λt ht=>by
 simp only[lC,vd,or_false] at ht;rcases ht with rfl|rfl|rfl
 ·exact⟨xs,x,h1,e1⟩
 ·exact⟨ys,y,h2,e2⟩
 ·exact⟨zs,z,h3,e3⟩
theorem aLK{i:Nat}(h1:Src H k1 a xs)(h2:Src H k2 b ys)(h3:Src H k3 c zs){v:V}{H':Hp}(h:(tj [(k1,a),(k2,b),(k3,c)]).oq i H v H'):∃T x y z,H T=none/\v=.ref T/\H'=upd H T (.tup [x,y,z])/\xs[i]?=some x/\ys[i]?=some y/\zs[i]?=some z:=by
 obtain⟨T,vs,nT,e1,e2,hl,hv⟩:=h;obtain⟨x,hx,v0⟩:=hv 0 _ xs rfl h1;obtain⟨y,hy,v1⟩:=hv 1 _ ys rfl h2;obtain⟨z,hz,v2⟩:=hv 2 _ zs rfl h3
 match vs,hl with
 |[p,q,r],_=>cases v0;cases v1;cases v2;exact⟨T,_,_,_,nT,e1,e2,hx,hy,hz⟩
theorem aJZ{i:Nat}(h1:Src H k1 a xs)(h2:Src H k2 b ys)(h3:Src H k3 c zs)(hm:xs.length<=i\/ys.length<=i\/zs.length<=i):(tj [(k1,a),(k2,b),(k3,c)]).stop i H:=by
 refine⟨λt ht=>?_,?_⟩
 ·simp only[lC,vd,or_false] at ht;rcases ht with rfl|rfl|rfl
  ·exact⟨xs,h1⟩
  ·exact⟨ys,h2⟩
  ·exact⟨zs,h3⟩
 ·rcases hm with h|h|h
  ·exact⟨(k1,a),by simp,xs,h1,h⟩
  ·exact⟨(k2,b),by simp,ys,h2,h⟩
  ·exact⟨(k3,c),by simp,zs,h3,h⟩
theorem Y1(n1:n<=xs.length)(n2:n<=ys.length)(nm:xs.length=n\/ys.length=n)(Pv:Nat->St->Hp->Prop)(h0:Pv 0 σ H)(hl:∀i σ H,i<=n->Pv i σ H->Src H k1 a xs/\Src H k2 b ys)
  (hs:∀i x y σ H T,xs[i]?=some x->ys[i]?=some y->Pv i σ H->H T=none->g (.ref T) σ (upd H T (.tup [x,y])) λσ2 H2=>tb ⟨Pv (i+1),rt,nx,Pv (i+1)⟩ σ2 H2) (hd:∀σ H,Pv n σ H->nx σ H) :
  ∃W:Nat->Nat->St->Hp->Prop,(∃m,W 0 m σ H)/\∀i m σ H,W i m σ H->
   ((tj [(k1,a),(k2,b)]).stop i H/\nx σ H)\/((tj [(k1,a),(k2,b)]).go i H/\∃N:St->Hp->Prop,(∀σ' H',N σ' H'->∃m',m' < m/\W (i+1) m' σ' H')/\∀x H',(tj [(k1,a),(k2,b)]).oq i H x H'->g x σ H' λσ2 H2=>tb ⟨N,rt,nx,N⟩ σ2 H2):=by
 refine⟨λi m σ H=>m=n - i/\i<=n/\Pv i σ H,⟨n,by simp,ko _,h0⟩,?_⟩;rintro i m σ H ⟨rfl,hi,p⟩;obtain⟨q1,q2⟩:=hl i σ H hi p;by_cases cw:i < n
 ·refine .inr ⟨Y2 q1 q2 (eS (show i < xs.length by lia)) (eS (show i < ys.length by lia)),Pv (i+1),λσ' H' p'=>⟨n - (i+1),by lia,rfl,cw,p'⟩,λx H' y=>?_⟩;obtain⟨T,u,v,hT,e1,e2,y1,y2⟩:=ZO q1 q2 y;subst e1 e2;exact hs i u v σ H T y1 y2 p hT
 ·have e:i=n:=by lia
  subst e;exact .inl ⟨aED q1 q2 (by lia),hd σ H p⟩
end
section
variable{σ₀:St}{g:TG}{tt:TT}{te:TE}{R:List V->Hp->Prop}{H:Hp}{k1 k2 k3:Bool}{a b c:Addr}{xs ys zs:List V}{n:Nat}
theorem aEE(n1:n<=xs.length)(n2:n<=ys.length)(nm:xs.length=n\/ys.length=n)(hz:n<=sizeLine)(Pv:Nat->List V->Hp->Prop)(h0:Pv 0 [] H)
  (hl:∀i us H,i<=n->Pv i us H->(Src H k1 a xs/\Src H k2 b ys)/\us.length<=i)
  (hs:∀i x y us H T,xs[i]?=some x->ys[i]?=some y->Pv i us H->H T=none->g (.ref T) σ₀ (upd H T (.tup [x,y])) λσ2 H2=>tt σ2 H2 λb H3=>if b=true then te σ2 H3 λy H4=>Pv (i+1) (us ++ [y]) H4 else Pv (i+1) us H3)
  (hd:∀us H,Pv n us H->R us H):kS (tj [(k1,a),(k2,b)]) σ₀ g tt te R H:=by
 refine⟨λi m us H=>m=n - i/\i<=n/\Pv i us H,⟨n,by simp,ko _,h0⟩,?_⟩;rintro i m us H ⟨rfl,hi,p⟩;obtain⟨⟨q1,q2⟩,ql⟩:=hl i us H hi p;refine⟨by lia,?_⟩;by_cases cw:i < n
 ·refine .inr ⟨Y2 q1 q2 (eS (show i < xs.length by lia)) (eS (show i < ys.length by lia)),Pv (i+1),λEi H' p'=>⟨n - (i+1),by lia,rfl,cw,p'⟩,λx H' y=>?_⟩;obtain⟨T,u,v,hT,e1,e2,y1,y2⟩:=ZO q1 q2 y;subst e1 e2;exact hs i u v us H T y1 y2 p hT
 ·have e:i=n:=by lia
  subst e;exact .inl ⟨aED q1 q2 (by lia),hd us H p⟩
theorem aJ0(n1:n<=xs.length)(n2:n<=ys.length)(n3:n<=zs.length)(nm:xs.length=n\/ys.length=n\/zs.length=n)(hz:n<=sizeLine)(Pv:Nat->List V->Hp->Prop)(h0:Pv 0 [] H)
  (hl:∀i us H,i<=n->Pv i us H->(Src H k1 a xs/\Src H k2 b ys/\Src H k3 c zs)/\us.length<=i)
  (hs:∀i x y z us H T,xs[i]?=some x->ys[i]?=some y->zs[i]?=some z->Pv i us H->H T=none->g (.ref T) σ₀ (upd H T (.tup [x,y,z])) λσ2 H2=>tt σ2 H2 λb H3=>if b=true then te σ2 H3 λy H4=>Pv (i+1) (us ++ [y]) H4 else Pv (i+1) us H3)
  (hd:∀us H,Pv n us H->R us H):kS (tj [(k1,a),(k2,b),(k3,c)]) σ₀ g tt te R H:=by
 refine⟨λi m us H=>m=n - i/\i<=n/\Pv i us H,⟨n,by simp,ko _,h0⟩,?_⟩;rintro i m us H ⟨rfl,hi,p⟩;obtain⟨⟨q1,q2,q3⟩,ql⟩:=hl i us H hi p;refine⟨by lia,?_⟩;by_cases cw:i < n
 ·refine .inr ⟨aN1 q1 q2 q3 (eS (show i < xs.length by lia)) (eS (show i < ys.length by lia)) (eS (show i < zs.length by lia)),Pv (i+1),λEi H' p'=>⟨n - (i+1),by lia,rfl,cw,p'⟩,λx H' y=>?_⟩;obtain⟨T,u,v,w,hT,e1,e2,y1,y2,y3⟩:=aLK q1 q2 q3 y;subst e1 e2;exact hs i u v w us H T y1 y2 y3 p hT
 ·have e:i=n:=by lia
  subst e;exact .inl ⟨aJZ q1 q2 q3 (by lia),hd us H p⟩
end
section
variable{X:Cx}
def PH(K:W.Frag):List V->Hp->VK->Prop:=λxs H Q=>∃p ys,xs=[.ref p]/\((bR K H p ys/\∀l,H l=none->Q (.ref l) (upd H l (.tup ys)))\/(iC K H p ys/\Q (.ref p) H))
theorem aJ1:eJ X (.type "tuple") (PH X.K):=aDB
theorem aN2{K:W.Frag}{H:Hp}{Q:VK}{p:Addr}{ys:List V}(h1:bR K H p ys)(h:∀l,H l=none->Q (.ref l) (upd H l (.tup ys))):PH K [.ref p] H Q:=⟨p,ys,rfl,.inl ⟨h1,h⟩⟩
structure LZ(K:W.Frag)(C:Addr):Prop where
 ha:PySem.W.findIn K (.ref C) "__class__" = some (some (.builtin "object.__class__"))
 hn:PySem.W.specialIn K (.builtin "object.__class__") "__get__" = some (some (.builtin "getset_descriptor.__get__"))
 Jx:PySem.W.takesIn K (.builtin "object.__class__")=some true
 hm:PySem.W.mroIn K C (.type "object")=some true
theorem Y0{K:W.Frag}{H:Hp}{a C dx:Addr}{fs:List (Str×V)}(i:LZ K C)(c:mw K C)(e:H a=some (.ins C dx fs)):CA K H (.ref a) (.ref C) true:=
 ⟨.ref C,.ins e c i.ha i.hn i.Jx i.hm,.inr ⟨C,rfl,by unfold PySem.W.kitOne;rw[cO (by simp)]⟩⟩
end
end L2
namespace L2.Z
open PySem PySem.Spec PyProof.Rows L2
section
variable{X:Cx}{p pos tp:Pos}{a b c:Expr}{elts:List Expr}{t:TA}{x1:Nat}{k1 k2 k3:Bool}
theorem pH(hg:Gl X "zip")(hm:X.mg "zip" = none)(ha:QA X [a,b] t)(hn:noStar a=true:=by rfl)(rg:noStar b=true:=by rfl):QI X (.Tuple elts x1 tp) (.Call (.Name "zip" p) [a,b] [] pos) (OV k1 k2 t):=⟨L2.aNZ hg hm ha.h hn rg⟩
theorem aH1(hg:Gl X "zip")(hm:X.mg "zip" = none)(ha:QA X [a,b,c] t)(hn:noStar a=true:=by rfl)(rg:noStar b=true:=by rfl)(Ni:noStar c=true:=by rfl):QI X (.Tuple elts x1 tp) (.Call (.Name "zip" p) [a,b,c] [] pos) (OU k1 k2 k3 t):=⟨L2.aN0 hg hm ha.h hn rg Ni⟩
theorem aJ2{i j:Nat}{x y:Str}{px py pt:Pos}{kt k2 CU}(hc:X.calm=true)(hN:X.N.Nodup)(hi:X.N[i]?=some x)(hj:X.N[j]?=some y)(A3:i≠j)
  (hx:X.env.scope.names.lookup x=some .local) (hy:X.env.scope.names.lookup y=some .local) (ha:QA X [a,b] t)
  (hw:swappedStores [.Tuple [.Name x px,.Name y py] kt pt] (.Tuple [a,b] k2 CU) X.env=pure (some [x,y]):=by rfl)
  (hs:swapsWithSole [.Tuple [.Name x px,.Name y py] kt pt] (.Tuple [a,b] k2 CU) pos.line X.env=pure false:=by rfl) :
  QS X (.Assign [.Tuple [.Name x px,.Name y py] kt pt] (.Tuple [a,b] k2 CU) pos) (Ov i j t):=⟨L2.aPo hc hN hi hj A3 hx hy ha.h hw hs⟩
end
end L2.Z
namespace L2
open PySem PySem.Spec PyProof.Rows
theorem nw(o:HO)(n:H p=none):∃H2,upd H p o=H2/\aO H H2/\H2 p=some o:=⟨_,rfl,aO.new n,aN⟩
theorem wr(H:Hp)(p:Addr)(o:HO):∃H2,upd H p o=H2/\bL p H H2/\H2 p=some o:=⟨_,rfl,bL.upd,aN⟩
theorem Jf{H:Hp}{x dx C:Addr}(nx:H x=none)(nd:H dx=none)(hd:dx≠x):∃H2,upd (upd H dx (.own x)) x (.ins C dx [])=H2/\aO H H2/\H2 x=some (.ins C dx []):=
 ⟨_,rfl,λb o e=>by rw[aT (bB nx e),aT (bB nd e)];exact e,aN⟩
def Nx(N:St->Hp->Prop)(σ:St)(H:Hp):Prop:=N σ H
structure Tail(N b:St->Hp->Prop):Prop where
 h:∀σ H,b σ H->N σ H
theorem aN3{nx bk ct:St->Hp->Prop}{t u:TS}(h:∀N,Tail N (u ⟨nx,rt,bk,ct⟩)->t ⟨Nx N,rt,bk,ct⟩ σ H):GI t u ⟨nx,rt,bk,ct⟩ σ H:=h _ ⟨λ_ _ h=>h⟩
theorem aRB{N b:St->Hp->Prop}(t:Tail N b)(h:b σ H):Nx N σ H:=t.h _ _ h
theorem aJ3{k:Key}{u:Value}(h:Cn k u=true):RelV (kV k) u:=by
 rcases dH h with ⟨i,t,rfl,rfl⟩|⟨x,t,rfl,rfl⟩
 ·exact⟨t,rfl⟩
 ·exact⟨t,rfl⟩
theorem Yz:∀{kvs:List (Key×V)}{vs:List (Key×Value)},KV kvs vs->∀{i:Nat}{p:Key×V},kvs[i]?=some p->∃q,vs[i]?=some q/\p.1=q.1
 |[],_,r,i,p,h=>by simp at h
 |a::as,_,r,i,p,h=>by
  cases r with
  |cons x t=>
   cases i with
   |zero=>cases h;exact⟨_,rfl,x.1⟩
   |succ i=>exact Yz t (i:=i) h
section
variable{X:Cx}{pins:ao}{σ:St}{H:Hp}{s:Shared}
theorem Inv.freeze{d:Addr}{kvs:List (Key×V)}{o:Obj}(I:Inv X pins σ H s)(e:H d=some (.dK kvs))(ho:s.heap.get? d=some o):Inv X pins σ (upd H d (.bu o (.dK kvs))) s:=by
 have nd:∀b u,H b=some u->u≠.dK kvs->b≠d:=λb u q n z=>by rw[z,e] at q;exact n (Option.some.inj q).symm
 refine I.step (h':=s.heap) (g':=s.gens) (d':=s.drawn) (t':=s.toks) (ch:=[]) (λ_ z=>nomatch z) (λb u _ _ _ q _=>q) (λb u _ _ _ q _=>⟨u.slots,q⟩) (λb u _ _ n=>?_)
  (λb u _ q=>⟨u,q⟩) (λb xs q=>?_) (λb u v q=>?_) (λb ps q=>⟨#[],?_⟩) (λm hm=>hm) (λb u q=>?_) I.bare
 ·rw[aT (λz=>by rw[z,e] at n;cases n)];exact n
 ·rw[aT (nd _ _ q (λz=>by cases z))];exact q
 ·rw[aT (nd _ _ q (λz=>by cases z))];exact q
 ·rw[aT (nd _ _ q (λz=>by cases z)),q];simp
 ·by_cases hb:b=d
  ·subst hb;rw[aN] at q;cases q;exact⟨ho,I.bc b _ e⟩
  ·rw[aT hb] at q;exact(I.bc b u q).wK (λ_ _ _ z=>z) (λc z=>by rw[aT (nd _ _ z (λy=>by cases y))];exact z) λc xs t z=>by rw[aT (nd _ _ z (λy=>by subst y;exact t))];exact z
end
theorem bS.obj{h:Heap}(x:bS P w H h a o):∃u,h.get? a=some u:=by
 cases o with
 |lst xs=>obtain⟨_,_,_,_,e⟩:=x;exact⟨_,e⟩
 |tup xs=>obtain⟨_,_,_,u,e,_⟩:=x;exact⟨u,e⟩
 |dK kvs=>obtain⟨_,_,_,_,u,_,_,e,_⟩:=x;exact⟨u,e⟩
 |dT kvs=>obtain⟨_,_,_,_,u,_,_,e,_⟩:=x;exact⟨u,e⟩
 |set S n=>obtain⟨u,_,_,_,e,_⟩:=x;exact⟨u,e⟩
 |ins C dx fs=>obtain⟨_,_,_,e,_⟩:=x;exact⟨_,e⟩
 |own y=>exact x
 |xd fs=>obtain⟨_,⟨u,_,_,e,_⟩,_⟩:=x;exact⟨u,e⟩
 |Ai lo hi=>obtain⟨_,_,_,e⟩:=x;exact⟨_,e⟩
 |bu ob u=>exact⟨_,x.1⟩
 |BO ps=>exact⟨_,x⟩
 |met f y=>exact⟨_,x⟩
 |ext φ=>exact x.2.1
 |xv q=>obtain⟨o,_,_,e,_⟩:=x;exact⟨o,e⟩
 |pq pos q=>obtain⟨_,e,_⟩:=x;exact⟨_,e⟩
theorem Inv.aRC{X:Cx}{s:Shared}{h':Heap}{t':Nat}(I:Inv X pins σ H s)(k:∀b u,s.heap.get? b=some u->h'.get? b=some u)(bw:∀b u,s.heap.get? b=some u->b≠a)(new:bS X.prog X.w (upd H a o) h' a o):H a=none/\Inv X pins σ (upd H a o) { s with heap:=h',toks:=t' }:=by
 have hn:H a=none:=by
  cases e:H a with
  |none=>rfl
  |some u=>
   obtain⟨ob,z⟩:=(I.bc a u e).obj;exact absurd rfl (bw a ob z)
 refine⟨hn,I.un ⟨λb u q _ _ _=>k b u q,λb u q _ _ _=>⟨u.slots,k b u q⟩,λb u q n _=>?_,λb u q _=>⟨u,k b u q⟩,λb xs q=>?_,λb u xs q=>?_,λb ps q=>⟨#[],?_⟩⟩ λb u e=>?_⟩
 ·rw[aT (bw b u q)];exact n
 ·rw[aT (bM q hn)];exact q
 ·rw[aT (bM q hn)];exact q
 ·rw[aT (bM q hn),q];simp
 ·by_cases hb:b=a
  ·subst hb;rw[aN] at e;cases e;exact new
  ·rw[aT hb] at e;exact(I.bc b u e).wK (λc v _ q=>k c v q) (λc q=>by rw[aT (bM q hn)];exact q) λc xs _ q=>by rw[aT (bM q hn)];exact q
def FD(d:Addr)(o:Obj)(kvs:List (Key×V)):It:=
 ⟨λi H=>H d=some (.bu o (.dK kvs))/\i < kvs.length,λi H x H'=>H'=H/\∃kv,kvs[i]?=some kv/\x=kV kv.1,λi H=>H d=some (.bu o (.dK kvs))/\kvs.length<=i⟩
theorem aJ4{P:Program}{w:World}{K:W.Frag}{tg:Expr}(d it:Addr)(o:Obj)(kvs:List (Key×V))(vs:List (Key×Value))(ep:Nat)(rel:KV kvs vs)
  (hD:∀h:Heap,h.get? d=some o->h.DictAt (dO P w) d vs ep):Turn P w K tg (FD d o kvs) [it] it (λi h=>h.IsKeyIter it d i vs.length ep) where
 mem:=by simp
 obj:=λi h st b hb=>by
  have e:b=it:=by simpa using hb
  subst e;obtain⟨u,e,c,q⟩:=st;exact⟨u,e,λv z=>by rw[q] at z;cases z⟩
 keep:=λi h h' st k=>st.at λu e=>k it (by simp) u e
 item:=by
  intro X hP hw hK hc i pins s σ H E I hf st hg;subst hP hw hK;obtain⟨hd,hi⟩:=hg;have ho:s.heap.get? d=some o:=(show bS X.prog X.w H s.heap d (.bu o (.dK kvs)) from I.bc d _ hd).1;obtain⟨f0,f1,f2,f3,f4,f5⟩:=hf it (by simp);have hx:kvs[i]?=some kvs[i]:=eS hi;obtain⟨⟨qk,qv⟩,hq,r1⟩:=Yz rel hx;refine wpAny_pyNext_dict_item st (hD _ ho) hq λkey h' D2 km sb=>?_;have I1:Inv X pins σ H { s with heap:=h' }:=I.turned (t':=s.toks) (λb u hb e=>(sb.2 b hb).trans e) f0 f1 f3 f4 f5;obtain⟨u,e',c',d'⟩:=id km;exact⟨key,rfl,E4 (s:={ s with heap:=h' }) e' c' d' (by decide) ⟨kV kvs[i].1,H,I1,aJ3 (by rw[r1];exact D2),⟨rfl,kvs[i],hx,rfl⟩,km,λb hb=>(hf b hb).1⟩⟩
 done:=by
  intro X hP hw hK hc i pins s σ H E I hf st hg;subst hP hw hK;obtain⟨hd,hi⟩:=hg;have ho:s.heap.get? d=some o:=(show bS X.prog X.w H s.heap d (.bu o (.dK kvs)) from I.bc d _ hd).1;obtain⟨f0,f1,f2,f3,f4,f5⟩:=hf it (by simp);have hl:kvs.length=vs.length:=Paired.length rel;exact wpAny_pyNext_dict_end (I.ok.hd hc) st (hD _ ho) (Bp (by lia)) λh' eb=>⟨rfl,I.turned (t':=s.toks) (λb u hb e=>eb b u hb e) f0 f1 f3 f4 f5⟩
 self:=λ_ _ _ _ _ st h=>wpAny_pyIter_keyiter st h
section
variable{X:Cx}{tg:Expr}
def Q2(R:It->Hp->Prop):V->Hp->Prop:=λx H1=>∃d kvs,x=.ref d/\H1 d=some (.dK kvs)/\∀o,R (FD d o kvs) (upd H1 d (.bu o (.dK kvs)))
def OT(tl:TE):TI:=λσ H R=>tl σ H (Q2 R)
theorem aN4{l:Expr}{tl:TE}(hl:PE X l tl):PI X tg l (OT tl):=by
 intro pins s σ H R I h;refine dC (hl pins s σ H _ I h) λv s1 zq=>?_;obtain⟨x,H1,I1,r1,q1⟩:=zq;obtain⟨d,kvs,e,hd,q⟩:=q1;subst e;cases r1;obtain⟨hz,hS,vs,rel,dd⟩:=O6 I1.bc hd;obtain⟨ep,VP⟩:=dd.dictAt;obtain⟨o,es,ho,rest⟩:=id VP;have I2:=I1.freeze hd ho;refine wpAny_pyIter_dict hS VP ?_;refine⟨s1.heap.objs.size,[s1.heap.objs.size],_,_,_,rfl,I2.kept (t':=s1.toks) λb u e=>eG _ e,aJ4 d _ o kvs vs ep rel (λh z=>⟨o,es,z,rest⟩),⟨_,lA _ rfl,rfl,rfl⟩,λb hb=>?_,q o⟩;have e:b=s1.heap.objs.size:=by simpa using hb
 subst e;exact I2.xw (dQ _) (I2.bc.fresh (dQ _))
end
section
variable{σ:St}{H:Hp}{nx:St->Hp->Prop}{rt:VK}{g:TG}{tb:TS}
theorem aLN{tl:TE}{R:It->Hp->Prop}(h:tl σ H (Q2 R)):OT tl σ H R:=h
theorem aRD{d:Addr}{kvs:List (Key×V)}{R:It->Hp->Prop}(h1:H d=some (.dK kvs))(h:∀o,R (FD d o kvs) (upd H d (.bu o (.dK kvs)))):Q2 R (.ref d) H:=⟨d,kvs,rfl,h1,h⟩
theorem aN5{d:Addr}{o:Obj}{kvs:List (Key×V)}(Pv:Nat->St->Hp->Prop)(h0:Pv 0 σ H)(hl:∀i σ H,i<=kvs.length->Pv i σ H->H d=some (.bu o (.dK kvs)))
  (hs:∀i kv σ H,kvs[i]?=some kv->Pv i σ H->g (kV kv.1) σ H λσ2 H2=>tb ⟨Pv (i+1),rt,nx,Pv (i+1)⟩ σ2 H2) (hd:∀σ H,Pv kvs.length σ H->nx σ H) :
  ∃W:Nat->Nat->St->Hp->Prop,(∃m,W 0 m σ H)/\∀i m σ H,W i m σ H->
   ((FD d o kvs).stop i H/\nx σ H)\/((FD d o kvs).go i H/\∃N:St->Hp->Prop,(∀σ' H',N σ' H'->∃m',m' < m/\W (i+1) m' σ' H')/\∀x H',(FD d o kvs).oq i H x H'->g x σ H' λσ2 H2=>tb ⟨N,rt,nx,N⟩ σ2 H2):=by
 refine⟨λi m σ H=>m=kvs.length - i/\i<=kvs.length/\Pv i σ H,⟨kvs.length,by simp,ko _,h0⟩,?_⟩;rintro i m σ H ⟨rfl,hi,p⟩;have q:=hl i σ H hi p;rcases Nat.lt_or_ge i kvs.length with cw|A4
 ·refine .inr ⟨⟨q,cw⟩,Pv (i+1),λσ' H' z=>⟨kvs.length - (i+1),by lia,rfl,by lia,z⟩,?_⟩;rintro x H' ⟨rfl,kv,hk,rfl⟩;exact hs i kv σ H' hk p
 ·have e:i=kvs.length:=by lia
  subst e;exact .inl ⟨⟨q,dQ _⟩,hd σ H p⟩
end
end L2
namespace L2.Z
open PySem PySem.Spec PyProof.Rows
section
variable{X:Cx}{K':W.Frag}{tg o i value l:Expr}{to td ty tv tl:TE}{pos pos' apos bf:Pos}
theorem aH2(hl:QE X l tl):QI X tg l (OT tl):=⟨L2.aN4 hl.h⟩
theorem fG(hu:X.A.units+9 < cLine)(ho:QE X o td)(hi:QE X i ty)(hv:QE X value tv)(hs:swapsWith value (some (.Subscript o i pos')) pos.line X.env=pure false:=by rfl) :
  QS X (.Assign [.Subscript o i pos'] value pos) (O4 td ty tv):=⟨L2.aNn (by lia) ho.h hi.h hv.h hs⟩
end
end L2.Z
namespace L2
open PySem PySem.Spec PyProof.Rows
section
variable{σ:St}{H:Hp}{Q:VK}{nx bk ct:St->Hp->Prop}{rt:VK}
theorem aN6(h:tv σ H λv H1=>td σ H1 λx H2=>ty σ H2 λy H3=>∃a H4,x=.ref a/\uQ H3 a y v H4/\nx σ H4):O4 td ty tv ⟨nx,rt,bk,ct⟩ σ H:=h
end
section
variable{prog:Program}{w:World}{A:Around}{E:aj}{s:Shared}{K:W.Frag}{x C:Addr}{o:Obj}{name:Str}{v:Value}
open PySem.Builtin PySem.Builtin.ObjectAttr in
end
structure Lft(fs:au)(e:Addr)(oe:Obj)(h h':Heap):Prop where
 keep:∀b o,b∉fs->b≠e->h.get? b=some o->h'.get? b=some o
 slot:∀b o,b∈fs->h.get? b=some o->∃sl,h'.get? b=some { o with slots:=sl }
 err:∃vs T oT ts,h'.get? e=some { oe with data:=.fields vs }/\vs[1]?=some (.ref T)/\T≠e/\h.objs.size<=T/\h'.get? T=some oT/\oT.data=.fields ts/\ts[3]?=some .none
 ctx:∀UA vs,oe.data=.fields UA->h'.get? e=some { oe with data:=.fields vs }->vs[2]?=UA[2]?
def GC(C:Addr)(od:Option Addr)(e:Addr):HO:=.ext λh=>∃o vs,h.get? e=some o/\o.cls=.ref C/\o.dict=od/\o.data=.fields vs/\(od≠none->vs[2]?=some .none)
theorem aN7{P:Program}{w:World}{H:Hp}{h:Heap}{C e:Addr}{od:Option Addr}{o:Obj}{vs:Array Value}(h1:h.get? e=some o)(h2:o.cls=.ref C)(h3:o.dict=od)(h4:o.data=.fields vs)(h5:od≠none->vs[2]?=some .none):bS P w H h e (GC C od e):=
 ⟨⟨o,vs,h1,h2,h3,h4,h5⟩,⟨o,h1⟩,λ_ _ z k=>let ⟨o,vs,a,b,c,d⟩:=z;⟨o,vs,k o a,b,c,d⟩⟩
theorem aN8{P:Program}{w:World}{H:Hp}{h:Heap}{C e:Addr}{od:Option Addr}(x:bS P w H h e (GC C od e)):∃o vs,h.get? e=some o/\o.cls=.ref C/\o.dict=od/\o.data=.fields vs:=by
 obtain⟨o,vs,a,b,c,d,_⟩:=x.1;exact⟨o,vs,a,b,c,d⟩
theorem aN9{P:Program}{w:World}{H:Hp}{h:Heap}{C e:Addr}{od:Option Addr}{o:Obj}{vs:Array Value}(x:bS P w H h e (GC C od e))(h1:h.get? e=some o)(h4:o.data=.fields vs)(n:od≠none):vs[2]?=some .none:=by
 obtain⟨o',vs',a,b,c,d,f⟩:=x.1;rw[h1] at a;cases a;rw[h4] at d;cases d;exact f n
section
variable{X:Cx}{pins:ao}{σ:St}{H:Hp}{s:Shared}{h':Heap}{C e:Addr}{od:Option Addr}{oe:Obj}
theorem Inv.left(I:Inv X pins σ H s)(he:H e=some (GC C od e))(ho:s.heap.get? e=some oe)(lf:Lft (mh X.stack) e oe s.heap h'):Inv X pins σ H { s with heap:=h' }:=by
 obtain⟨o,vs,q1,q2,q3,q4⟩:=aN8 (I.bc e _ he);rw[ho] at q1;cases q1;have BR:=I.Ld;obtain⟨vs2,T,oT,ts,r1,_⟩:=lf.err;have tr:∀b u,H b=some u->b∉mh X.stack:=λb u z hb=>by rw[BR b hb] at z;cases z
 refine I.call (g':=s.gens) (d':=s.drawn) (t':=s.toks) (ch:=[]) ⟨λb o z n hb _=>lf.keep b o hb (λq=>by rw[q,he] at n;cases n) z,λb o z n hb _=>lf.slot b o hb z,λb o z n _=>n,λb o z _=>?_,λ_ _ z=>z,λ_ _ _ z=>z,λb ps z=>⟨#[],by rw[z];simp⟩⟩ (λa u z=>?_) I.bare (λb z=>nomatch z)
 ·by_cases hb:b∈mh X.stack
  ·obtain⟨sl,q⟩:=lf.slot b o hb z;exact⟨_,q⟩
  ·by_cases As:b=e
   ·subst As;exact⟨_,r1⟩
   ·exact⟨o,lf.keep b o hb As z⟩
 ·by_cases VQ:a=e
  ·subst VQ;rw[he] at z;cases z;exact aN7 r1 q2 q3 rfl λn=>(lf.ctx _ _ q4 r1).trans (aN9 (I.bc _ _ he) ho q4 n)
  ·refine(I.bc a u z).wK (λb v hb q=>?_) (λ_ q=>q) λ_ _ _ q=>q;rcases hb with rfl|hb
   ·exact lf.keep _ v (tr _ _ z) VQ q
   ·exact lf.keep _ v (tr _ _ hb) (λy=>by rw[y,he] at hb;cases hb) q
end
def Ff(H:Hp)(od:Option Addr):Prop:=∀dx,od=some dx->∃fs,H dx=some (.xd fs)
theorem Ff.none:Ff H none:=λ_ z=>nomatch z
theorem Ff.some(h:H dx=some (.xd fs)):Ff H (some dx):=λ_ z=>by cases z;exact⟨fs,h⟩
theorem Ff.there{h:Heap}(bc:o9 P w H h)(d:Ff H od):∀dx,od=Option.some dx->∃o,h.get? dx=Option.some o:=λdx z=>by
 obtain⟨fs,e⟩:=d dx z;exact(bc dx _ e).obj
abbrev TW:=St->Hp->Addr->Prop
structure aQw(X:Cx)(pins:ao)(T:Addr):Prop where
 up:X.cq.heap.objs.size<=T
 loc:T≠X.env.locals
 cell:∀x c,X.env.cells.lookup x=some c->c≠T
 pin:∀p∈X.pn++pins,p.1≠T
structure aSb(X:Cx)(pins:ao)(H:Hp)(h:Heap)(e:Addr):Prop where
 ex:∃(C:Addr) (od:Option Addr) (oe:Obj) (vs:Array Value) (T:Addr) (oT:Obj) (ts:Array Value),H e=some (GC C od e)/\h.get? e=some oe/\oe.data=.fields vs/\vs[1]?=some (.ref T)/\T≠e/\aQw X pins T/\H T=none/\h.get? T=some oT/\oT.data=.fields ts/\3 < ts.size
def aQx(X:Cx)(pins:ao)(W:TW)(ev:Value)(s':Shared):Prop:=∃(e:Addr) (σ:St) (H':Hp),ev=.ref e/\Inv X pins σ H' s'/\aSb X pins H' s'.heap e/\W σ H' e
def Cx.tr(X:Cx)(pins:ao)(W:TW):Cx:={ X with pn:=X.pn++pins,xe:=aQx X pins W }
def Cx.xn(X:Cx)(e:Addr):Cx:={ X with A:=X.A.mark (some (.ref e)),calm:=false,xe:=λ_ _=>False }
section
variable{X:Cx}{pins ou:ao}{σ:St}{H:Hp}{s:Shared}{W:TW}{e:Addr}
theorem Cx.Ok.tr(ok:X.Ok):(X.tr pins W).Ok:=⟨ok.mod,ok.kind,ok.glob,ok.blt,ok.above,ok.inj,ok.has,ok.B7,ok.hd,ok.frames,ok.BR,ok.J0,ok.bs,ok.yu,ok.uo,ok.xa,ok.uO,ok.AD⟩
theorem Cx.Ok.xn(ok:X.Ok):(X.xn e).Ok:=⟨ok.mod,ok.kind,ok.glob,ok.blt,ok.above,ok.inj,ok.has,ok.B7,(λz=>Bool.noConfusion z),ok.frames,ok.BR,ok.J0,ok.bs,ok.yu,ok.uo,ok.xa,ok.uO,ok.AD⟩
theorem Inv.tr(I:Inv X pins σ H s):Inv (X.tr pins W) [] σ H s:=⟨I.ok.tr,I.os,I.bare,I.base,I.loc,I.cell,I.free,I.df,λp hp=>I.pin p (by rw[pz] at hp;exact hp),I.bc,I.len⟩
theorem Inv.xn(I:Inv X pins σ H s):Inv (X.xn e) pins σ H s:=⟨I.ok.xn,I.os,I.bare,I.base,I.loc,I.cell,I.free,I.df,I.pin,I.bc,I.len⟩
end
abbrev TH:=Ends->St->Hp->Addr->Prop
structure E9(k:Nat)(A:Around):Prop where
 dp:A.depth+3*k+5 < recursionLimit
 un:A.units+16*k+200 < cLine
theorem eK.h{k:Nat}(r:eK k A):E9 k A:=⟨r.dp,r.un⟩
theorem E9.mark{k:Nat}{A:Around}(r:E9 k A)(o:ay):E9 k (A.mark o):=⟨r.dp,r.un⟩
theorem E9.calm{k:Nat}(r:E9 k A):eK k { A with handled:=none }:=⟨rfl,r.dp,r.un⟩
end L2
namespace L2.Z
open PySem PySem.Spec PyProof.Rows L2
end L2.Z
namespace L2
open PySem PySem.Spec PyProof.Rows
section
variable{X:Cx}{o e:Expr}{to:TE}{t:TA}{apos bf:Pos}
theorem Zh:∀{ns:ae}{us:ah},Vals (ns.map V.int) us->IntsAre us ns
 |[],_,.nil=>.nil
 |n::ns,_,.cons r t=>by
  obtain⟨k,rfl⟩:=(show ∃k,_=Value.int n k from r)
  exact .cons n k (Zh t)
def KG(K:W.Frag):V->List V->Hp->VK->Prop:=λx vs H Q=>∃(l:Addr) (ns:ae) (k:Int),x=.ref l/\vs=[.int k]/\bR K H l (ns.map V.int)/\Q (.int (ns.count k:Nat)) H
theorem aLP:MtR X "list.count" (KG X.K):=by
 intro pins s σ H x vs v us Q I rx rv h;obtain⟨l,ns,k,rfl,rfl,hS,q⟩:=h;cases rx;obtain⟨u,rfl,ru⟩:=rv.one;obtain⟨tk,rfl⟩:=(show ∃tk,u=Value.int k tk from ru)
 obtain⟨its,r,pl,hz⟩:=I.list hS;exact count_list_ints pl.isList (Zh r) ⟨.int (ns.count k:Nat),H,I.tok _,⟨_,rfl⟩,q⟩
theorem aLQ(ho:PE X o to)(ha:PA X [e] t)(hn:noStar e=true:=by rfl)(br:attributeBase o "count" X.env (eval o X.env)=eval o X.env:=by rfl)(bq:(apos.endLine == bf.line)=true:=by rfl) :
  PE X (.Call (.Attribute o "count" apos) [e] [] bf) (BP X.K "list" (KG X.K) to t):=
 O7 PySem.F.plainAttrs_list PySem.F.slot_list_count PySem.F.type_list_count aLP ho ha br (by rw[bO hn];rfl) bq (bO hn) (by rfl)
theorem ZN{K:W.Frag}{H:Hp}{Q:VK}{l:Addr}{ns:ae}{k:Int}(h:bR K H l (ns.map V.int))(q:Q (.int (ns.count k:Nat)) H):KG K (.ref l) [.int k] H Q:=⟨l,ns,k,rfl,rfl,h,q⟩
end
end L2
namespace L2.Z
open PySem PySem.Spec PyProof.Rows L2
theorem xV{X:Cx}{apos bf:Pos}(ho:QE X o to)(ha:QA X [e] t)(hn:noStar e=true:=by rfl)(br:attributeBase o "count" X.env (eval o X.env)=eval o X.env:=by rfl)(bq:(apos.endLine == bf.line)=true:=by rfl)(hK:X.K=K':=by rfl) :
  QE X (.Call (.Attribute o "count" apos) [e] [] bf) (BP K' "list" (KG K') to t):=by subst hK;exact⟨L2.aLQ ho.h ha.h hn br bq⟩
end L2.Z
namespace L2
open PySem PySem.W PyProof.Rows
section
variable{O:KeyOrd}{key:Nat->O.α}{N:Nat}{cmp:Nat->Nat->(Bool->Shared->Prop)->Shared->Prop}{s:Shared}
def kq(key:Nat->O.α)(p:Array Nat)(i:Nat):O.α:=key (p.getD i 0)
def Up(key:Nat->O.α)(p:Array Nat)(k:Nat):Prop:=∀i j,i<=j->j < k->O.kle (kq key p i) (kq key p j)
def Dn(key:Nat->O.α)(p:Array Nat)(k:Nat):Prop:=∀i j,i<=j->j < k->O.kle (kq key p j) (kq key p i)
def Row(N:Nat)(p:Array Nat):Prop:=p.Perm (List.toArray (List.range N))
theorem GO{p q:Array Nat}{i j:Nat}(h:p[i]?=q[j]?):kq key p i=kq key q j:=by
 unfold kq;rw[Array.getD_eq_getD_getElem?,Array.getD_eq_getD_getElem?,h]
theorem Yy{p:Array Nat}{a d:Nat}(ha:a < p.size)(hd:d<=a)(k:Nat):kq key (bubble p a d) k=if k=a - d then kq key p a else if a - d < k/\k<=a then kq key p (k - 1) else kq key p k:=by
 have e:=getElem?_bubble ha d hd k;split
 ·rename_i h;rw[cO h] at e;exact GO e
 ·rename_i h;rw[bZ h] at e;split
  ·rename_i g;rw[cO g] at e;exact GO e
  ·rename_i g;rw[bZ g] at e;exact GO e
theorem KD{p:Array Nat}{i j:Nat}(hj:j<=p.size)(k:Nat):kq key (kas_rev p i j) k=if i<=k/\k < j then kq key p (i+j - 1 - k) else kq key p k:=by
 have e:=getElem?_mirror_all (i:=i) hj k;split
 ·rename_i h;rw[cO h] at e;exact GO e
 ·rename_i h;rw[bZ h] at e;exact GO e
theorem Row.size{p:Array Nat}(h:Row N p):p.size=N:=by
 have:=h.size_eq;rw[this];simp
theorem Row.lt{p:Array Nat}(h:Row N p)(hN:0 < N)(i:Nat):p.getD i 0 < N:=by
 by_cases hi:i < p.size
 ·have e:p.getD i 0=p[i]:=by simp[Array.getD,hi]
  have m:p[i]∈p.toList:=by simp
  have m2:=(Array.perm_iff_toList_perm.mp h).mem_iff.mp m;rw[e];simpa using m2
 ·have e:p.getD i 0=0:=by simp[Array.getD,hi]
  rw[e];exact hN
theorem Row.rev{p:Array Nat}(h:Row N p)(i j:Nat):Row N (kas_rev p i j):=(mirror_perm p i j _).trans h
theorem Row.bub{p:Array Nat}(h:Row N p)(i j:Nat):Row N (bubble p i j):=(bubble_perm p i j).trans h
theorem Up.more{p:Array Nat}{m:Nat}(h:Up key p m)(e:O.kle (kq key p (m - 1)) (kq key p m)):Up key p (m+1):=λi j A3 hj=>by
 by_cases hm:j < m
 ·exact h i j A3 hm
 ·have ej:j=m:=by lia
  subst ej;by_cases hi:i=j
  ·subst hi;exact KeyOrd.kle_refl _
  ·exact KeyOrd.kle_trans (h i (j - 1) (by lia) (by lia)) e
theorem Dn.more{p:Array Nat}{m:Nat}(h:Dn key p m)(e:O.kle (kq key p m) (kq key p (m - 1))):Dn key p (m+1):=λi j A3 hj=>by
 by_cases hm:j < m
 ·exact h i j A3 hm
 ·have ej:j=m:=by lia
  subst ej;by_cases hi:i=j
  ·subst hi;exact KeyOrd.kle_refl _
  ·exact KeyOrd.kle_trans e (h i (j - 1) (by lia) (by lia))
def zj(key:Nat->O.α)(N:Nat)(cmp:Nat->Nat->(Bool->Shared->Prop)->Shared->Prop)(s:Shared):Prop:=∀i j (C:Bool->Shared->Prop),i < N->j < N->C (O.blt (key i) (key j)) s->cmp i j C s
theorem zj.ask{α:Type}(hc:zj key N cmp s)(hN:0 < N){p:Array Nat}(hp:Row N p){i j:Nat}{k:Bool->KasT α}{Q:α->Shared->Prop}(h1:O.klt (kq key p i) (kq key p j)->(k true).kasWp cmp Q s)(h2:O.kle (kq key p j) (kq key p i)->(k false).kasWp cmp Q s) :
  (KasT.ask (p.getD i 0) (p.getD j 0) k).kasWp cmp Q s:=by
 refine hc _ _ _ (hp.lt hN i) (hp.lt hN j) ?_;cases e:O.blt (key (p.getD i 0)) (key (p.getD j 0)) with
 |true=>exact h1 e
 |false=>exact h2 e
theorem PF(hc:zj key N cmp s)(hN:0 < N){p:Array Nat}(hp:Row N p){Q:Nat->Shared->Prop}:∀{f m:Nat},f=N - m->1<=m->m<=N->Up key p m->
  (∀r,m<=r->r<=N->Up key p r->(r < N->O.klt (kq key p r) (kq key p (r - 1)))->Q r s)->(kas_asc p f m).kasWp cmp Q s
 |0,m,hf,h1,hm,hu,h=>h m (dQ _) hm hu (λz=>by lia)
 |f+1,m,hf,h1,hm,hu,h=>by
  refine hc.ask hN hp (λz=>?_) (λz=>?_)
  ·rw[cO rfl];exact h m (dQ _) hm hu λ_=>z
  ·rw[bZ (by decide)];exact PF hc hN hp (by lia) (by lia) (by lia) (hu.more z) λr a b c d=>h r (by lia) b c d
def L8(key:Nat->O.α)(p:Array Nat)(n q:Nat):Prop:=∀i,n - (q+1)<=i->i < n->kq key p i=kq key p (n - 1)
theorem L8.same{p:Array Nat}{n q:Nat}(h:L8 key p n q)(hz:n<=p.size)(k:Nat):kq key (kas_rev p (n - (q+1)) n) k=kq key p k:=by
 rw[KD hz];split
 ·rename_i g;rw[h k g.1 g.2];exact h _ (by lia) (by lia)
 ·rfl
theorem KU(hc:zj key N cmp s)(hN:0 < N){Q:Array Nat×Nat×Nat->Shared->Prop}:∀{f n q:Nat}{p:Array Nat},Row N p->f=N - n->1<=n->n<=N->q+1<=n->Dn key p n->L8 key p n q->
  (∀p' n' q',Row N p'->1<=n'->n'<=N->q'+1<=n'->Dn key p' n'->L8 key p' n' q'->Q (p',n',q') s)->(kas_desc f p n q).kasWp cmp Q s
 |0,n,q,p,hp,hf,h1,hn,hq,hd,hb,h=>h p n q hp h1 hn hq hd hb
 |f+1,n,q,p,hp,hf,h1,hn,hq,hd,hb,h=>by
  have hz:n<=p.size:=by rw[hp.size];exact hn
  refine hc.ask hN hp (λz=>?_) (λz=>?_)
  ·rw[cO rfl];have ED:Dn key p (n+1):=hd.more (KeyOrd.kle_of_klt z);split
   ·have e:=hb.same hz;refine KU hc hN (hp.rev _ _) (by lia) (by lia) (by lia) (by lia) (λi j a b=>?_) (λi a b=>?_) h
    ·rw[e,e];exact ED i j a b
    ·have:i=n:=by lia
     subst this;rfl
   ·refine KU hc hN hp (by lia) (by lia) (by lia) (by lia) ED (λi a b=>?_) h;have:i=n:=by lia
    subst this;rfl
  ·rw[bZ (by decide)];refine hc.ask hN hp (λy=>?_) (λy=>?_)
   ·rw[cO rfl];exact h p n q hp h1 hn hq hd hb
   ·rw[bZ (by decide)];have e:kq key p (n - 1)=kq key p n:=KeyOrd.kle_antisymm z y;refine KU hc hN hp (by lia) (by lia) (by lia) (by lia) (hd.more y) (λi a b=>?_) h;show kq key p i=kq key p n;by_cases hi:i < n
    ·rw[hb i (by lia) hi,e]
    ·have:i=n:=by lia
     subst this;rfl
theorem Zg(hc:zj key N cmp s)(hN:0 < N){n:Nat}{p:Array Nat}{Q:Nat×Array Nat->Shared->Prop}(hp:Row N p)(h1:1<=n)(hn:n<=N)(hd:Dn key p n)(h:∀m p',Row N p'->1<=m->m<=N->Up key p' m->Q (m,p') s):(kas_tail3 n N p).kasWp cmp Q s:=by
 have hz:n<=p.size:=by rw[hp.size];exact hn
 unfold kas_tail3;rw[KasT.kasWp_bind];refine PF hc hN (hp.rev 0 n) rfl h1 hn (λi j a b=>?_) λr a b c _=>h r _ (hp.rev 0 n) (by lia) b c;rw[KD hz,KD hz,cO ⟨ko _,by lia⟩,cO ⟨ko _,b⟩];exact hd _ _ (by lia) (by lia)
theorem aAX(hc:zj key N cmp s)(hN:0 < N){n:Nat}{p:Array Nat}{Q:Nat×Array Nat->Shared->Prop}(hp:Row N p)(h1:1<=n)(hn:n < N)(hd:Dn key p n)(hl:O.klt (kq key p n) (kq key p (n - 1)))(h:∀m p',Row N p'->1<=m->m<=N->Up key p' m->Q (m,p') s) :
  (kas_descPart n N p).kasWp cmp Q s:=by
 unfold kas_descPart;rw[KasT.kasWp_bind];refine KU hc hN hp rfl (by lia) (by lia) (by lia) (hd.more (KeyOrd.kle_of_klt hl)) (λi a b=>by have:i=n:=(by lia);subst this;rfl) λp' n' q' r1 r2 r3 r4 r5 r6=>?_;have hz:n'<=p'.size:=by rw[r1.size];exact r3
 split
 ·refine Zg hc hN (r1.rev _ _) r2 r3 (λi j a b=>?_) h;have e:=r6.same hz;show O.kle (kq key (kas_rev p' (n' - (q'+1)) n') j) (kq key (kas_rev p' (n' - (q'+1)) n') i);rw[e,e];exact r5 i j a b
 ·exact Zg hc hN r1 r2 r3 r5 h
theorem aLS(hc:zj key N cmp s)(hN:0 < N){p:Array Nat}{Q:Nat×Array Nat->Shared->Prop}(hp:Row N p)(h:∀m p',Row N p'->1<=m->m<=N->Up key p' m->Q (m,p') s):(kas_count N p).kasWp cmp Q s:=by
 unfold kas_count;rw[KasT.kasWp_bind];refine PF hc hN hp rfl (dQ _) hN (λi j a b=>by have:i=j:=(by lia);subst this;exact KeyOrd.kle_refl _) λn a b c d=>?_;have hz:n<=p.size:=by rw[hp.size];exact b
 split
 ·exact h n p hp a b c
 ·rename_i ne;have nN:n < N:=by
   have:n≠N:=λz=>ne (by simp[z]);lia
  split
  ·refine hc.ask hN hp (λz=>?_) (λz=>?_)
   ·rw[cO rfl];exact h n p hp a b c
   ·rw[bZ (by decide)];have all:∀i,i < n->kq key p i=kq key p 0:=λi hi=>KeyOrd.kle_antisymm (KeyOrd.kle_trans (c i (n - 1) (by lia) (by lia)) z) (c 0 i (by lia) hi);have e:∀k,kq key (kas_rev p 0 n) k=kq key p k:=λk=>by
     rw[KD hz];split
     ·rw[all _ (by lia),all k (by lia)]
     ·rfl
    refine aAX hc hN (hp.rev 0 n) a nN (λi j x y=>?_) ?_ h
    ·rw[e,e,all i (by lia),all j y];exact KeyOrd.kle_refl _
    ·rw[e,e];exact d nN
  ·have n1:n=1:=by lia
   subst n1;exact aAX hc hN hp (dQ _) nN (λi j x y=>by have:i=j:=(by lia);subst this;exact KeyOrd.kle_refl _) (d nN) h
theorem Qd(hc:zj key N cmp s)(hN:0 < N){p:Array Nat}(hp:Row N p){k:Nat}(hu:Up key p k){Q:Nat->Shared->Prop}:∀{f l r:Nat},l<=r->r<=k->r - l<=f->
  (∀i,i < l->O.kle (kq key p i) (kq key p k))->(∀i,r<=i->i < k->O.klt (kq key p k) (kq key p i))->
  (∀m,m<=k->(∀i,i < m->O.kle (kq key p i) (kq key p k))->(∀i,m<=i->i < k->O.klt (kq key p k) (kq key p i))->Q m s)->(kas_place p k f l r).kasWp cmp Q s
 |0,l,r,hlr,hrk,hf,ha,hb,h=>h l (by lia) ha λi x y=>hb i (by lia) y
 |f+1,l,r,hlr,hrk,hf,ha,hb,h=>by
  unfold kas_place;by_cases g:l ≥ r
  ·rw[cO g];exact h l (by lia) ha λi x y=>hb i (by lia) y
  ·rw[bZ g];refine hc.ask hN hp (λz=>?_) (λz=>?_)
   ·rw[cO rfl];refine Qd hc hN hp hu (by lia) (by lia) (by lia) ha (λi x y=>?_) h;exact KeyOrd.klt_of_klt_of_kle z (hu _ i x y)
   ·rw[bZ (by decide)];refine Qd hc hN hp hu (by lia) (by lia) (by lia) (λi x=>?_) hb h;exact KeyOrd.kle_trans (hu i _ (by lia) (by lia)) z
theorem Yx(hc:zj key N cmp s)(hN:0 < N){Q:Array Nat->Shared->Prop}:∀{f k:Nat}{p:Array Nat},Row N p->f=N - k->k<=N->Up key p k->(∀p',Row N p'->Up key p' N->Q p' s)->(kas_bin f p k).kasWp cmp Q s
 |0,k,p,hp,hf,hk,hu,h=>h p hp (by have:k=N:=(by lia);subst this;exact hu)
 |f+1,k,p,hp,hf,hk,hu,h=>by
  unfold kas_bin;rw[KasT.kasWp_bind];refine Qd hc hN hp hu (ko _) (dQ _) (by lia) (λi x=>by lia) (λi x y=>by lia) λm hm ha hb=>?_;have kz:k < p.size:=by rw[hp.size];lia
  refine Yx hc hN (hp.bub k (k - m)) (by lia) (by lia) (λi j A3 hj=>?_) h;have em:k - (k - m)=m:=by lia
  rw[Yy kz (by lia),Yy kz (by lia),em];by_cases i1:i=m
  ·rw[cO i1];by_cases j1:j=m
   ·rw[cO j1];exact KeyOrd.kle_refl _
   ·rw[bZ j1,cO (by lia)];exact KeyOrd.kle_of_klt (hb _ (by lia) (by lia))
  ·rw[bZ i1];by_cases i2:m < i/\i<=k
   ·rw[cO i2,bZ (by lia),cO (by lia)];exact hu _ _ (by lia) (by lia)
   ·rw[bZ i2];by_cases j1:j=m
    ·rw[cO j1];exact ha i (by lia)
    ·rw[bZ j1];by_cases j2:m < j/\j<=k
     ·rw[cO j2];exact hu _ _ (by lia) (by lia)
     ·rw[bZ j2];exact hu _ _ (by lia) (by lia)
theorem aOa(hc:zj key N cmp s)(hN:0 < N){Q:Array Nat->Shared->Prop}(h:∀p,Row N p->Up key p N->Q p s):(kas_sort N).kasWp cmp Q s:=by
 unfold kas_sort;rw[KasT.kasWp_bind];refine aLS hc hN (Array.Perm.refl _) λm p hp h1 hm hu=>?_;split
 ·rename_i z;have e:max m 1=m:=by lia
  show(kas_bin (N - max m 1) p (max m 1)).kasWp cmp Q s;rw[e];exact Yx hc hN hp rfl hm hu h
 ·rename_i z;have z':¬m < N:=z;have e:m=N:=by lia
  subst e;exact h p hp hu
end
def rV:ae->ae->Bool
 |[],[]=>false
 |[],_::_=>true
 |_::_,[]=>false
 |a::as,b::bs=>if a=b then rV as bs else decide (a < b)
theorem fS(a b:Int)(as bs:ae):rV (a::as) (b::bs)=if a=b then rV as bs else decide (a < b):=rfl
theorem aAY:∀as:ae,rV as as=false
 |[]=>rfl
 |a::as=>by rw[fS,cO rfl];exact aAY as
theorem aCr:∀as bs cs:ae,rV as bs=true->rV bs cs=true->rV as cs=true
 |[],[],_,h,_=>by cases h
 |[],_::_,[],_,h=>by cases h
 |[],_::_,_::_,_,_=>rfl
 |_::_,[],_,h,_=>by cases h
 |_::_,_::_,[],_,h=>by cases h
 |a::as,b::bs,c::cs,h1,h2=>by
  rw[fS] at h1 h2 ⊢;by_cases e1:a=b
  ·subst e1;rw[cO rfl] at h1;by_cases e2:a=c
   ·rw[cO e2] at h2 ⊢;exact aCr as bs cs h1 h2
   ·rw[bZ e2] at h2 ⊢;exact h2
  ·rw[bZ e1] at h1;have l1:=qw h1;by_cases e2:b=c
   ·subst e2;rw[bZ e1];exact h1
   ·rw[bZ e2] at h2;have l2:=qw h2;rw[bZ (by lia)];exact mi (by lia)
theorem ZM:∀as bs cs:ae,rV as cs=true->rV as bs=true\/rV bs cs=true
 |[],[],_,h=>.inr h
 |[],_::_,_,_=>.inl rfl
 |_::_,_,[],h=>by cases h
 |_::_,[],_::_,_=>.inr rfl
 |a::as,b::bs,c::cs,h=>by
  rw[fS] at h;rw[fS,fS];by_cases e1:a=b
  ·subst e1;rw[cO rfl];by_cases e2:a=c
   ·rw[cO e2] at h ⊢;exact ZM as bs cs h
   ·rw[bZ e2] at h ⊢;exact .inr h
  ·rw[bZ e1];by_cases e2:b=c
   ·subst e2;rw[bZ e1] at h;exact .inl h
   ·rw[bZ e2];by_cases l:a < b
    ·exact .inl (mi l)
    ·refine .inr (mi ?_);by_cases e3:a=c
     ·lia
     ·rw[bZ e3] at h;have:=qw h;lia
theorem aCs:∀as bs:ae,rV as bs=false->rV bs as=false->as=bs
 |[],[],_,_=>rfl
 |[],_::_,h,_=>by cases h
 |_::_,[],_,h=>by cases h
 |a::as,b::bs,h1,h2=>by
  rw[fS] at h1 h2;by_cases e:a=b
  ·subst e;rw[cO rfl] at h1 h2;rw[aCs as bs h1 h2]
  ·rw[bZ e] at h1;rw[bZ (Ne.symm e)] at h2;have:=of_decide_eq_false h1;have:=of_decide_eq_false h2;lia
def EY:KeyOrd:=⟨ae,rV,aAY,aCr,ZM,aCs⟩
theorem xW:∀{ns:ae}{its:ah},Vals (ns.map V.int) its->IntsAre its ns
 |[],_,r=>by cases r;exact .nil
 |n::ns,_,r=>by
  cases r with
  |cons h t=>
   obtain⟨u,rfl⟩:=h;exact .cons n u (xW t)
inductive uS (h:Heap):ah->cj->Prop
 |nil:uS h [] []
 |cons {x:Addr} {o:Obj} {xs:Array Value} {k:Nat} {t:ae} {vs:ah} {ts:cj} (e:h.get? x=some o) (c:o.cls=.type "tuple") (d:o.data=.seq xs k) (i:IntsAre xs.toList t) (ne:t≠[]) (r:uS h vs ts):uS h (.ref x::vs) (t::ts)
theorem uS.length{vs:ah}{ts:cj}(r:uS h vs ts):vs.length=ts.length:=by
 induction r with
 |nil=>rfl
 |cons _ _ _ _ _ _ ih=>rw[oi,oi,ih]
theorem uS.at_{h:Heap}{vs:ah}{ts:cj}(r:uS h vs ts):∀{j:Nat},j < vs.length->∃x o xs k,vs.getD j Value.none=.ref x/\h.get? x=some o/\o.data=.seq xs k/\IntsAre xs.toList (ts.getD j []):=by
 induction r with
 |nil=>intro j hj;simp at hj
 |cons e c d i ne r ih=>
  intro j hj;cases j with
  |zero=>exact⟨_,_,_,_,rfl,e,d,i⟩
  |succ j=>exact ih (by simpa using hj)
theorem uS.keeps{h h':Heap}{ts:cj}(r:uS h vs ts)(k:∀(b:Addr) (o:Obj),o.cls=.type "tuple"->h.get? b=some o->h'.get? b=some o):uS h' vs ts:=by
 induction r with
 |nil=>exact .nil
 |cons e c d i ne _ ih=>exact .cons (k _ _ c e) c d i ne ih
theorem uS.aQy{vs:ah}{ts:cj}(r:uS h vs ts):∃fs:ah,KatTups h vs fs/\fs.length=vs.length/\∀v∈fs,∃n u,v=Value.int n u:=by
 induction r with
 |nil=>exact⟨[],.nil,rfl,λv z=>by cases z⟩
 |@cons x o xs k t vs ts e c d i ne _ ih=>
  obtain⟨fs,a1,a2,a3⟩:=ih;obtain⟨n,u,hx⟩ : ∃n u,xs[0]?=some (Value.int n u):=by
   rw[<-Qz];generalize xs.toList=l at i;cases i with
   |nil=>exact absurd rfl ne
   |cons n u _=>exact⟨n,u,rfl⟩
  refine⟨.int n u::fs,.cons e c d hx a1,by rw[oi,oi,a2],λv z=>?_⟩;rcases lC.mp z with z|z
  ·exact⟨n,u,z⟩
  ·exact a3 v z
section
variable{prog:Program}{w:World}{A:Around}{E:aj}{s:Shared}
theorem ZL{Q:Bool->Shared->Prop}:∀{xs ys:ah}{as bs:ae}{i:Nat}{fin:Bool},IntsAre xs as->IntsAre ys bs->fin=decide (as.length < bs.length)->Q (rV as bs) s->KatLex prog w A true fin Q (xs.zip ys) i s
 |_,_,_,_,i,fin,.nil,.nil,hf,h=>kat_nil (by rw[hf];exact h)
 |_,_,_,_,i,fin,.nil,.cons _ _ _,hf,h=>kat_nil (by rw[hf];exact h)
 |_,_,_,_,i,fin,.cons _ _ _,.nil,hf,h=>kat_nil (by rw[hf];exact h)
 |_,_,_,_,i,fin,.cons a t r,.cons b u q,hf,h=>by
  refine kat_cons (wpAny_eqBool_int ?_);rw[fS] at h;by_cases e:a=b
  ·rw[cO e] at h;rw[show(a == b)=true by simp[e]];refine kat_yes (ZL r q ?_ h);rw[hf,oi,oi];congr 1;apply propext;constructor <;> intro z <;> lia
  ·rw[bZ e] at h;rw[show(a == b)=false by simp[e]];refine kat_no ?_;cases i with
   |zero=>exact oneLt_int h
   |succ i=>
    rw[show(true && (i+1 == 0))=false by simp];exact kat_one _ _ (PyProof.Rows.lt_int h)
theorem aLU{ts:cj}(r:uS s.heap vs ts):zj (O:=EY) (λi=>ts.getD i []) vs.length (kas_ask prog w A (tuples' true) vs) s:=λi j C hi hj h=>by
 obtain⟨x,ox,xs,n,e1,g1,d1,i1⟩:=r.at_ hi;obtain⟨y,oy,ys,k,e2,g2,d2,i2⟩:=r.at_ hj;unfold kas_ask;rw[e1,e2];refine kat_lt g1 d1 g2 d2 (ZL i1 i2 ?_ h);rw[<-i1.length,<-i2.length,ya,ya]
def xX(vs:ah)(p:Array Nat):Array Value:=List.toArray (p.toList.map λi=>vs.getD i Value.none)
theorem aJ6{vs:ah}{ts:cj}{n:Nat}{P:PySem.Fin->Shared->Prop}(ho:s.heap.get? a=some (seqObj "list" vs.toArray n))(hT:uS s.heap vs ts)(NO:vs.length < 64)(h:∀p,Row vs.length p->Up (O:=EY) (λi=>ts.getD i []) p vs.length->P (.done (.ret .none)) { s with heap:=sortedHeap s.heap a vs (xX vs p) }) :
  wpAny (model prog w) A (Builtin.«list.sort» ⟨[.ref a],[]⟩) P E s:=by
 rw[list_sort_plain];have la:=iB ho;refine bG (listItems_at ho rfl (bG (listUpdate_at ho rfl ?_)));obtain⟨e1,g1⟩ : ∃e,(s.heap.update a (Obj.mapSeq λ_=>#[])).get? a=some (seqObj "list" #[] e):=⟨_,get?_update_seq ho λ_=>#[]⟩
 refine bG (seqEpoch_at g1 rfl (bG (wpAny_newTuple (bG (wpAny_newList (AM ?_))))));generalize Nr:((s.heap.update a (Obj.mapSeq λ_=>#[])).push (seqObj "tuple" vs.toArray 0)).push (seqObj "list" #[] 0)=h6;have Iy:∀b o,b≠a->s.heap.get? b=some o->h6.get? b=some o:=λb o nb e=>by
  have lb:=iB e;rw[<-Nr,Lu _ _ _ (oH (by rw[size_push',Lr];exact Cv lb)),Lu _ _ _ (oH (by rw[Lr];exact lb)),Heap.get?_update_ne _ _ _ _ nb];exact e
 have g6:h6.get? a=some (seqObj "list" #[] e1):=by
  rw[<-Nr,Lu _ _ _ (oH (by rw[size_push',Lr];exact Cv la)),Lu _ _ _ (oH (by rw[Lr];exact la))];exact g1
 have fin:∀p,Row vs.length p->Up (O:=EY) (λi=>ts.getD i []) p vs.length->P (.done (.ret .none)) { s with heap:=h6.update a (Obj.mapSeq λ_=>xX vs p) }:=λp r u=>by
  rw[<-Nr];exact h p r u
 have T6:uS h6 vs ts:=hT.keeps λb o c e=>Iy b o (λz=>by rw[z,ho] at e;cases e;exact absurd c (show ¬Value.type "list" = Value.type "tuple" by decide)) e;show wpAny (model prog w) A _ P E { s with heap:=h6 };have hvz:vs.toArray.size=vs.length:=iR;dsimp only;by_cases small:vs.toArray.size < 2
 ·rw[cO small,cO small];refine bG (cM ?_);rw[StateT.run_pure];refine bG (cM ?_);have ev:((vs.toArray.zip vs.toArray).map λx=>x.2)=xX vs (List.toArray (List.range vs.length)):=by
   unfold xX
   match vs,hvz,small with
   |[],_,_=>simp
   |[v],_,_=>simp
   |_::_::_,_,z=>simp at z;lia
  refine bG (seqEpoch_at g6 rfl (bG (listUpdate_at g6 rfl ?_ (hsz2:=?_))))
  ·simp only[bne_self_eq_false,AN,if_false];refine cM ?_;show P (.done (.ret .none)) { s with heap:=h6.update a (Obj.mapSeq λ_=>(vs.toArray.zip vs.toArray).map λx=>x.2) };rw[ev];exact fin _ (Array.Perm.refl _) λi j x y=>by
    have z:i=j:=by lia
    subst z;exact KeyOrd.kle_refl _
  ·show((vs.toArray.zip vs.toArray).map λx=>x.2).size<=_;rw[ev,xX,iR,bX,ud];simp;lia
 ·rw[bZ small,bZ small];obtain⟨fs,f1,f2,f3⟩:=T6.aQy;refine bG (kat_kind (s:={ s with heap:=h6 }) (T:=.type "int") f1 (by lia) (λv hv=>?_) rfl ?_)
  ·obtain⟨m,u,rfl⟩:=f3 v hv;exact Looks.now
  rw[show(Value.type "int" != Value.type "tuple")=true by decide];refine bG (sy (kat_run (ks:=vs) (vs:=vs) (prog:=prog) (w:=w) (A:=A) (E:=E) (s:={ s with heap:=h6 }) (Q:=λkm s'=>s'={ s with heap:=h6 }/\∃p,p.size=vs.length/\arrOf km=p.map (kas_item (vs.toArray.zip vs.toArray))/\failedOf km=none/\Row vs.length p/\Up (O:=EY) (λi=>ts.getD i []) p vs.length)
   (G:=λp s'=>s'={ s with heap:=h6 }/\Row vs.length p/\Up (O:=EY) (λi=>ts.getD i []) p vs.length) rfl (by lia) NO (λp km s' hz JI hf hG=>⟨hG.1,p,hz,JI,hf,hG.2.1,hG.2.2⟩) (aOa (aLU (s:={ s with heap:=h6 }) T6) (by lia) λp r u=>⟨rfl,r,u⟩)) ?_ λ_ _ e=>e)
  rintro ⟨_,km⟩ s' ⟨rfl,p,hz,JI,hf,hr,hu⟩;dsimp only at JI hf ⊢;have eo:=kat_snds (ks:=vs) (vs:=vs) rfl JI;refine bG (seqEpoch_at g6 rfl (bG (listUpdate_at g6 rfl ?_ (hsz2:=?_))))
  ·rw[hf];simp only[bne_self_eq_false,AN,if_false];refine cM ?_;show P (.done (.ret .none)) { s with heap:=h6.update a (Obj.mapSeq λ_=>(arrOf km).map (·.2)) };rw[eo];exact fin p hr hu
  ·show((arrOf km).map (·.2)).size<=_;rw[eo,iR,bX,ya,hz,ud];lia
end
end L2
namespace L2
open PySem PySem.Spec PySem.W PyProof.Rows
theorem range_getD{α:Type}(d:α)(l:List α):(List.range l.length).map (λi=>l.getD i d)=l:=by
 apply List.ext_getElem
 ·simp
 ·intro i h1 h2;simp[vf,eS h2]
theorem aCt:∀(qs:au),Vals (qs.map V.ref) (qs.map Value.ref)
 |[]=>.nil
 |q::qs=>.cons rfl (aCt qs)
structure mG(H:Hp)(qs:au)(ts:cj):Prop where
 len:qs.length=ts.length
 at_:∀(j:Nat) q t,qs[j]?=some q->ts[j]?=some t->H q=some (.tup (t.map V.int))/\t≠[]
theorem mG.tail{t:ae}{ts:cj}(h:mG H (q::qs) (t::ts)):mG H qs ts:=⟨by have:=h.len;simpa using this,λj a b x y=>h.at_ (j+1) a b x y⟩
theorem mG.pA{s:Shared}(I:Inv X pins σ H s):∀{qs:au}{ts:cj},mG H qs ts->uS s.heap (qs.map Value.ref) ts
 |[],[],_=>.nil
 |[],_::_,h=>by have:=h.len;simp at this
 |_::_,[],h=>by have:=h.len;simp at this
 |q::qs,t::ts,h=>by
  obtain⟨e,ne⟩:=h.at_ 0 q t rfl rfl;obtain⟨_,its,r,o,g1,g2,n,g3⟩:=(show bS X.prog X.w H s.heap q (.tup (t.map V.int)) from I.bc q _ e)
  exact .cons g1 g2 g3 (by simpa using xW r) ne (mG.pA I h.tail)
end L2
namespace L2
open PySem PySem.Spec PyProof.Rows
section
variable{prog:Program}{w:World}{A:Around}{E:aj}{s:Shared}{es:Array DictEntry}{d it vw:Addr}{i ep:Nat}
def Raw(h:Heap)(d:Addr)(es:Array DictEntry)(ep:Nat):Prop:=∃o,h.get? d=some o/\o.cls=.type "dict"/\o.data=.dict es ep
theorem Raw.ty(m:Raw s.heap d es ep):s.TypeIs (.ref d) "dict":=let ⟨o,a,b,_⟩:=m;⟨o,a,b⟩
theorem Raw.keep{h h':Heap}(m:Raw h d es ep)(k:∀o,h.get? d=some o->h'.get? d=some o):Raw h' d es ep:=let ⟨o,a,r⟩:=m;⟨o,k o a,r⟩
theorem aEG(d:Addr)(lo:(d == sysModules)=false):MeetsIn prog w (Builtin.«dict.items» ⟨[.ref d],[]⟩) (λ_ R s=>s.TypeIs (.ref d) "dict"/\
  R (.ok (.ret (.ref s.heap.objs.size))) { s with heap:=s.heap.push { cls:=.type "dict_items",data:=.fields #[.ref d] } }):=
 .of_wp λA R s ⟨ty,h⟩=>by
  unfold Builtin.«dict.items»;with_reducible refine bG ?_;unfold Builtin.Dict.noArgs
  refine bG (wpAny_notOrdered_dict ty (show wpAny _ _ (pure d) _ _ s from cM ?_));show wpAny _ _ (Builtin.Dict.showsAll d >>= _) _ _ s;unfold Builtin.Dict.showsAll;rw[bZ (λz=>xI (lo.symm.trans z))];refine bG (cM ?_);exact bG (qb (cM (show _ from⟨_,rfl,h⟩)))
theorem aH4(d:Addr)(lo:(d == sysModules)=false):MeetsIn prog w (Builtin.«dict.values» ⟨[.ref d],[]⟩) (λ_ R s=>s.TypeIs (.ref d) "dict"/\
  R (.ok (.ret (.ref s.heap.objs.size))) { s with heap:=s.heap.push { cls:=.type "dict_values",data:=.fields #[.ref d] } }):=
 .of_wp λA R s ⟨ty,h⟩=>by
  refine bG (show _ from ?_);unfold Builtin.Dict.noArgs;refine bG (wpAny_notOrdered_dict ty (show wpAny _ _ (pure d) _ _ s from cM ?_));show wpAny _ _ (Builtin.Dict.showsAll d >>= _) _ _ s;unfold Builtin.Dict.showsAll;rw[bZ (λz=>xI (lo.symm.trans z))];refine bG (cM ?_);exact bG (qb (cM (show _ from⟨_,rfl,h⟩)))
theorem u9{Q:aj}(hv:s.heap.IsItemsView vw d)(hm:Raw s.heap d es ep)
  (hQ:Q (.ref s.heap.objs.size) { s with heap:=s.heap.push { cls:=.type "dict_itemiterator",data:=.fields #[.none,.bool false,.ref d,.int 0 0,.int es.size 0,.int ep 0,.none,.none] } }) :
  wpAny (model prog w) A (pyIter (.ref vw)) Q E s:=by
 obtain⟨ov,a1,a2,a3⟩:=id hv;obtain⟨o,b1,b2,b3⟩:=id hm;refine wpAny_pyIter_slot hv.typeIs F.slot_dict_items_iter (rq F.slot_dict_items_iter hv.typeIs F.entry_dict_items_iter (show _ from ?_) (F.args_dict_items_iter_1 _));unfold Builtin.«dict_items.__iter__»;refine bG (cM ?_);with_reducible refine bG ?_
 unfold Builtin.Dict_items.dictOf;refine bG (wpAny_field a1 a3 (x:=.ref d) rfl (cM ?_));with_reducible refine bG ?_
 unfold Builtin.Dict_items.newIterator;refine bG (Bm b1 b3 (bG (Bi b1 b3 ?_)));have own:Builtin.Dict_items.ownsTuple "dict_itemiterator" = true:=rfl;simp only[own,if_true];refine qb (cM ⟨_,rfl,"dict_itemiterator",_,⟨_,lA _ rfl,rfl⟩,F.slot_dict_itemiterator_next.lookup,(show _ from ?_)⟩)
  (by simp only[sizeOk,Builtin.Dict_items.ownedTupleFields,iR,lB,oi,Lz,ud];decide)
 simpa [Builtin.Dict_items.ownedTupleFields,rawInt] using hQ
theorem aCu{Q:aj}(hv:s.heap.IsValuesView vw d)(hm:Raw s.heap d es ep)
  (hQ:Q (.ref s.heap.objs.size) { s with heap:=s.heap.push { cls:=.type "dict_valueiterator",data:=.fields #[.ref d,.int 0 0,.int es.size 0,.int ep 0] } }) :
  wpAny (model prog w) A (pyIter (.ref vw)) Q E s:=by
 obtain⟨ov,a1,a2,a3⟩:=id hv;obtain⟨o,b1,b2,b3⟩:=id hm;refine wpAny_pyIter_slot hv.typeIs F.slot_dict_values_iter (rq F.slot_dict_values_iter hv.typeIs F.entry_dict_values_iter (show _ from ?_) (F.args_dict_values_iter_1 _));unfold Builtin.«dict_values.__iter__»;refine bG (cM ?_);with_reducible refine bG ?_
 unfold Builtin.Dict_items.dictOf;refine bG (wpAny_field a1 a3 (x:=.ref d) rfl (cM ?_));with_reducible refine bG ?_
 unfold Builtin.Dict_items.newIterator;refine bG (Bm b1 b3 (bG (Bi b1 b3 ?_)));have own:Builtin.Dict_items.ownsTuple "dict_valueiterator" = false:=rfl;simp only[own,AN,if_false];refine qb (cM ⟨_,rfl,"dict_valueiterator",_,⟨_,lA _ rfl,rfl⟩,F.slot_dict_valueiterator_next.lookup,(show _ from ?_)⟩);simpa [rawInt] using hQ
theorem xY{Q:aj}(lo:(d == sysModules)=false)(hm:Raw s.heap d es ep)
  (hQ:Q (.ref s.heap.objs.size) { s with heap:=s.heap.push { cls:=.type "dict_keyiterator",data:=.fields #[.ref d,.int 0 0,.int es.size 0,.int ep 0] } }) :
  wpAny (model prog w) A (pyIter (.ref d)) Q E s:=by
 obtain⟨o,b1,b2,b3⟩:=id hm;refine wpAny_pyIter_slot hm.ty F.slot_dict_iter (rq F.slot_dict_iter hm.ty F.entry_dict_iter (show _ from ?_) (F.args_dict_iter_1 _));unfold Builtin.«dict.__iter__»;with_reducible refine bG ?_;unfold Builtin.Dict.dictSlotNone
 refine bG (wpAny_notOrdered_dict hm.ty (show wpAny _ _ (pure (Value.ref d)) _ _ s from cM ?_));show wpAny _ _ (Builtin.Dict.showsAll d >>= _) _ _ s;unfold Builtin.Dict.showsAll;rw[bZ (λz=>xI (lo.symm.trans z))];refine bG (cM ?_);refine bG (Bm b1 b3 (bG (Bi b1 b3 ?_)));refine bG (qb (cM ⟨_,rfl,"dict_keyiterator",_,⟨_,lA _ rfl,rfl⟩,F.slot_dict_keyiterator_next.lookup,(show _ from ?_)⟩));simpa [rawInt] using hQ
def qy(T:String)(h:Heap)(it d:Addr)(i n ep:Nat):Prop:=∃o,h.get? it=some o/\o.cls=.type T/\o.data=.fields #[.ref d,.int i 0,.int n 0,.int ep 0]
theorem qy.ty{n:Nat}(x:qy T s.heap it d i n ep):s.TypeIs (.ref it) T:=let ⟨o,a,b,_⟩:=x;⟨o,a,b⟩
theorem qy.keep{n:Nat}{h h':Heap}(m:qy T h it d i n ep)(k:∀o,h.get? it=some o->h'.get? it=some o):qy T h' it d i n ep:=let ⟨o,a,r⟩:=m;⟨o,k o a,r⟩
theorem qy.turn{n:Nat}{h:Heap}{o:Obj}(a:h.get? it=some o)(b:o.cls=.type T)(c:o.data=.fields #[.ref d,.int i 0,.int n 0,.int ep 0]) :
  qy T (h.update it (Obj.mapFields (·.setIfInBounds 1 (rawInt ((i:Int)+1))))) it d (i+1) n ep:=
 ⟨_,G9 _ a (Obj.isFreed_of_fields (Obj.data_mapFields c _)),(Obj.cls_mapFields ..).trans b,by rw[Obj.data_mapFields c];simp[rawInt]⟩
theorem aDF{Q:ay->Shared->Prop}{e:DictEntry}(hit:qy "dict_valueiterator" s.heap it d i es.size ep)(hm:Raw s.heap d es ep)(hx:es[i]?=some e)
  (hQ:∀h',qy "dict_valueiterator" h' it d (i+1) es.size ep->Heap.SameBut it s.heap h'->Q (some e.val) { s with heap:=h' }):wpAny (model prog w) A (pyNext (.ref it)) Q E s:=by
 obtain⟨o,a1,a2,a3⟩:=id hit;obtain⟨od,b1,b2,b3⟩:=id hm;have ty:=hit.ty;unfold pyNext;refine bG (Cr (wpAny_callSpecial?_slot (name:=Str.ofString "__next__") ty F.slot_dict_valueiterator_next
  (rq F.slot_dict_valueiterator_next ty F.entry_dict_valueiterator_next (show _ from ?_) (F.args_dict_valueiterator_next_1 _))))
 refine bG (cM ?_);refine bG (show _ from ?_);refine bG (show _ from ?_);first|refine bG (wpAny_typeNameOfWhole_valiter ty (show _ from cM ?_))|refine bG (wpAny_typeNameOf_valiter ty (show _ from cM ?_))
 refine bG (Fo a1 a3 (show _ from ?_));have own:Builtin.Dict_items.ownsTuple "dict_valueiterator" = false:=rfl;simp only[own,if_false,AN];show wpAny _ _ (if (Value.ref d == Value.none)=true then _ else _) _ _ s;rw[bZ (show ¬((Value.ref d == Value.none)=true) from λz=>nomatch z)];refine bG (cM ?_);refine bG (Bm b1 b3 (show _ from ?_));rw[bZ (show _ from by simp)];refine bG (cM ?_);refine bG (Bi b1 b3 (show _ from ?_));rw[bZ (show _ from by simp)];refine cM (show _ from ?_);have il:i < es.size:=(Ft.mp hx).1;have ee:es[i]=e:=(Ft.mp hx).2;simp only[show ¬((i:Int) < 0) by lia,if_false,xy,hx];refine bG (show _ from ?_);first|refine bG (wpAny_typeNameOfWhole_valiter ty (show _ from cM ?_))|refine bG (wpAny_typeNameOf_valiter ty (show _ from cM ?_))
 refine bG (wpAny_isOneOf_valiter ty (show _ from ?_));show wpAny _ _ (setField (.ref it) 1 (rawInt ((i:Int)+1)) >>= _) _ _ s;refine bG (DB a1 a3 (show _ by simp) (show _ from ?_));have t2:=qy.turn a1 a2 a3;refine bG (AM (show _ from ?_));refine bG (wpAny_isOneOf_valiter (s:={ s with heap:=s.heap.update it (Obj.mapFields (·.setIfInBounds 1 (rawInt ((i:Int)+1)))) }) t2.ty (show _ from ?_));refine bG (wpAny_isOneOf_valiter (s:={ s with heap:=s.heap.update it (Obj.mapFields (·.setIfInBounds 1 (rawInt ((i:Int)+1)))) }) t2.ty (show _ from ?_));exact cM (cM ⟨_,rfl,cM (hQ _ t2 (Heap.SameBut.update ..))⟩)
theorem aAZ{Q:ay->Shared->Prop}{e:DictEntry}(hit:qy "dict_keyiterator" s.heap it d i es.size ep)(hm:Raw s.heap d es ep)(hx:es[i]?=some e)
  (hQ:∀h',qy "dict_keyiterator" h' it d (i+1) es.size ep->Heap.SameBut it s.heap h'->Q (some e.key) { s with heap:=h' }):wpAny (model prog w) A (pyNext (.ref it)) Q E s:=by
 obtain⟨o,a1,a2,a3⟩:=id hit;obtain⟨od,b1,b2,b3⟩:=id hm;have ty:=hit.ty;unfold pyNext;refine bG (Cr (wpAny_callSpecial?_slot (name:=Str.ofString "__next__") ty F.slot_dict_keyiterator_next
  (rq F.slot_dict_keyiterator_next ty F.entry_dict_keyiterator_next (show _ from ?_) (F.args_dict_keyiterator_next_1 _))))
 refine bG (cM ?_);refine bG (show _ from ?_);refine bG (show _ from ?_);first|refine bG (wpAny_typeNameOfWhole_keyiter ty (show _ from cM ?_))|refine bG (wpAny_typeNameOf_keyiter ty (show _ from cM ?_))
 refine bG (Fo a1 a3 (show _ from ?_));have own:Builtin.Dict_items.ownsTuple "dict_keyiterator" = false:=rfl;simp only[own,if_false,AN];show wpAny _ _ (if (Value.ref d == Value.none)=true then _ else _) _ _ s;rw[bZ (show ¬((Value.ref d == Value.none)=true) from λz=>nomatch z)];refine bG (cM ?_);refine bG (Bm b1 b3 (show _ from ?_));rw[bZ (show _ from by simp)];refine bG (cM ?_);refine bG (Bi b1 b3 (show _ from ?_));rw[bZ (show _ from by simp)];refine cM (show _ from ?_);have il:i < es.size:=(Ft.mp hx).1;have ee:es[i]=e:=(Ft.mp hx).2;simp only[show ¬((i:Int) < 0) by lia,if_false,xy,hx];refine bG (show _ from ?_);first|refine bG (wpAny_typeNameOfWhole_keyiter ty (show _ from cM ?_))|refine bG (wpAny_typeNameOf_keyiter ty (show _ from cM ?_))
 refine bG (wpAny_isOneOf_keyiter ty (show _ from ?_));show wpAny _ _ (setField (.ref it) 1 (rawInt ((i:Int)+1)) >>= _) _ _ s;refine bG (DB a1 a3 (show _ by simp) (show _ from ?_));have t2:=qy.turn a1 a2 a3;refine bG (AM (show _ from ?_));refine bG (wpAny_isOneOf_keyiter (s:={ s with heap:=s.heap.update it (Obj.mapFields (·.setIfInBounds 1 (rawInt ((i:Int)+1)))) }) t2.ty (show _ from ?_));exact cM (cM ⟨_,rfl,cM (hQ _ t2 (Heap.SameBut.update ..))⟩)
theorem aFl{Q:ay->Shared->Prop}(hh:A.handled=none)(hit:qy "dict_valueiterator" s.heap it d i es.size ep)(hm:Raw s.heap d es ep)(hx:es.size<=i)
  (hQ:∀h',Heap.ExtBut it s.heap h'->Q none { s with heap:=h' }):wpAny (model prog w) A (pyNext (.ref it)) Q E s:=by
 obtain⟨o,a1,a2,a3⟩:=id hit;obtain⟨od,b1,b2,b3⟩:=id hm;have ty:=hit.ty;unfold pyNext;refine bG (Cr (wpAny_callSpecial?_slot (name:=Str.ofString "__next__") ty F.slot_dict_valueiterator_next
  (rq F.slot_dict_valueiterator_next ty F.entry_dict_valueiterator_next (show _ from ?_) (F.args_dict_valueiterator_next_1 _))))
 refine bG (cM ?_);refine bG (show _ from ?_);refine bG (show _ from ?_);first|refine bG (wpAny_typeNameOfWhole_valiter ty (show _ from cM ?_))|refine bG (wpAny_typeNameOf_valiter ty (show _ from cM ?_))
 refine bG (Fo a1 a3 (show _ from ?_));have own:Builtin.Dict_items.ownsTuple "dict_valueiterator" = false:=rfl;simp only[own,if_false,AN];show wpAny _ _ (if (Value.ref d == Value.none)=true then _ else _) _ _ s;rw[bZ (show ¬((Value.ref d == Value.none)=true) from λz=>nomatch z)];refine bG (cM ?_);refine bG (Bm b1 b3 (show _ from ?_));rw[bZ (show _ from by simp)];refine bG (cM ?_);refine bG (Bi b1 b3 (show _ from ?_));rw[bZ (show _ from by simp)];refine cM (show _ from ?_);simp only[show ¬((i:Int) < 0) by lia,if_false,xy,QC hx];refine bG (show _ from ?_);first|refine bG (wpAny_typeNameOfWhole_valiter ty (show _ from cM ?_))|refine bG (wpAny_typeNameOf_valiter ty (show _ from cM ?_))
 show wpAny _ _ (setField (.ref it) 0 Value.none >>= _) _ _ s;refine bG (DB a1 a3 (show _ by simp) (show _ from ?_));show wpAny _ _ (newExc (.type "StopIteration") [] >>= _) _ _ _;refine bG (show _ from ?_);simp only[newExc,newTuple];refine bG (qb (show _ from ?_) (by size_fits));refine bG (m:=firstArgMember _ _) (wpAny_of_eq (a:=Value.none) (show _ by first|rfl|(simp only[firstArgMember];rfl)) (show _ from ?_));refine qb (show _ from ?_) (by size_fits);simp only[raiseNew];refine bG (wpAny_handled (show _ from ?_));rw[show A.in1.handled=none from hh];refine bG (cM (wpAny_throw ?_));refine bG (wpAny_isInstance (T:="StopIteration") (b:=true) ⟨_,lA _ rfl,rfl⟩ isSubtype_stop (show _ from ?_));exact cM (hQ _ (show _ from((Heap.SameBut.update ..).extBut.push _).push _))
theorem aCv{Q:ay->Shared->Prop}(hh:A.handled=none)(hit:qy "dict_keyiterator" s.heap it d i es.size ep)(hm:Raw s.heap d es ep)(hx:es.size<=i)
  (hQ:∀h',Heap.ExtBut it s.heap h'->Q none { s with heap:=h' }):wpAny (model prog w) A (pyNext (.ref it)) Q E s:=by
 obtain⟨o,a1,a2,a3⟩:=id hit;obtain⟨od,b1,b2,b3⟩:=id hm;have ty:=hit.ty;unfold pyNext;refine bG (Cr (wpAny_callSpecial?_slot (name:=Str.ofString "__next__") ty F.slot_dict_keyiterator_next
  (rq F.slot_dict_keyiterator_next ty F.entry_dict_keyiterator_next (show _ from ?_) (F.args_dict_keyiterator_next_1 _))))
 refine bG (cM ?_);refine bG (show _ from ?_);refine bG (show _ from ?_);first|refine bG (wpAny_typeNameOfWhole_keyiter ty (show _ from cM ?_))|refine bG (wpAny_typeNameOf_keyiter ty (show _ from cM ?_))
 refine bG (Fo a1 a3 (show _ from ?_));have own:Builtin.Dict_items.ownsTuple "dict_keyiterator" = false:=rfl;simp only[own,if_false,AN];show wpAny _ _ (if (Value.ref d == Value.none)=true then _ else _) _ _ s;rw[bZ (show ¬((Value.ref d == Value.none)=true) from λz=>nomatch z)];refine bG (cM ?_);refine bG (Bm b1 b3 (show _ from ?_));rw[bZ (show _ from by simp)];refine bG (cM ?_);refine bG (Bi b1 b3 (show _ from ?_));rw[bZ (show _ from by simp)];refine cM (show _ from ?_);simp only[show ¬((i:Int) < 0) by lia,if_false,xy,QC hx];refine bG (show _ from ?_);first|refine bG (wpAny_typeNameOfWhole_keyiter ty (show _ from cM ?_))|refine bG (wpAny_typeNameOf_keyiter ty (show _ from cM ?_))
 show wpAny _ _ (setField (.ref it) 0 Value.none >>= _) _ _ s;refine bG (DB a1 a3 (show _ by simp) (show _ from ?_));show wpAny _ _ (newExc (.type "StopIteration") [] >>= _) _ _ _;refine bG (show _ from ?_);simp only[newExc,newTuple];refine bG (qb (show _ from ?_) (by size_fits));refine bG (m:=firstArgMember _ _) (wpAny_of_eq (a:=Value.none) (show _ by first|rfl|(simp only[firstArgMember];rfl)) (show _ from ?_));refine qb (show _ from ?_) (by size_fits);simp only[raiseNew];refine bG (wpAny_handled (show _ from ?_));rw[show A.in1.handled=none from hh];refine bG (cM (wpAny_throw ?_));refine bG (wpAny_isInstance (T:="StopIteration") (b:=true) ⟨_,lA _ rfl,rfl⟩ isSubtype_stop (show _ from ?_));exact cM (hQ _ (show _ from((Heap.SameBut.update ..).extBut.push _).push _))
theorem xZ{Q:ay->Shared->Prop}{e:DictEntry}(hit:IsItemIter s.heap it d i es.size ep ok ov)(hm:Raw s.heap d es ep)(hx:es[i]?=some e)(hQ:∀h',IsItemIterOut h' it d (i+1) es.size ep e.key e.val s.heap.objs.size->h'.get? s.heap.objs.size=some { cls:=.type "tuple",data:=.seq #[e.key,e.val] }->
   h'.objs.size=s.heap.objs.size+1->(∀b o,b≠it->s.heap.get? b=some o->h'.get? b=some o)->Q (some (.ref s.heap.objs.size)) { s with heap:=h' }) :
  wpAny (model prog w) A (pyNext (.ref it)) Q E s:=by
 obtain⟨hp,g,dr,tk,os⟩:=s;obtain⟨od,b1,b2,b3⟩:=id hm;have ty:Shared.TypeIs ⟨hp,g,dr,tk,os⟩ (.ref it) "dict_itemiterator":=⟨_,hit,rfl⟩
 unfold pyNext;refine bG (Cr (wpAny_callSpecial?_slot (name:=Str.ofString "__next__") ty F.slot_dict_itemiterator_next
  (rq F.slot_dict_itemiterator_next ty F.entry_dict_itemiterator_next (show _ from ?_) (F.args_dict_itemiterator_next_1 _))))
 refine bG (cM ?_);refine bG (show _ from ?_);refine bG (show _ from ?_);first|refine bG (LO ty (show _ from cM ?_))|refine bG (LK ty (show _ from cM ?_))
 refine bG (Fo hit rfl (show _ from ?_));have own:Builtin.Dict_items.ownsTuple "dict_itemiterator" = true:=rfl;simp only[own,if_true];show wpAny _ _ (if (Value.ref d == Value.none)=true then _ else _) _ _ _;rw[bZ (show ¬((Value.ref d == Value.none)=true) from λz=>nomatch z)];refine bG (cM ?_);refine bG (Bm b1 b3 (show _ from ?_));rw[bZ (show _ from by simp)];refine bG (cM ?_);refine bG (Bi b1 b3 (show _ from ?_));rw[bZ (show _ from by simp)];refine cM (show _ from ?_);simp only[show ¬((i:Int) < 0) by lia,if_false,xy,hx];refine bG (show _ from ?_);first|refine bG (LO ty (show _ from cM ?_))|refine bG (LK ty (show _ from cM ?_))
 refine bG (wpAny_isOneOf_itemiter ty (show _ from ?_));show wpAny _ _ (setField (.ref it) 3 (rawInt ((i:Int)+1)) >>= _) _ _ _;refine bG (Bn hit (show _ by simp) λj1 c1 d1=>(show _ from ?_))
 replace d1:Heap.SameBut it hp j1:=d1
 replace c1:IsItemIter j1 it d (i+1) es.size ep ok ov:=by
  unfold IsItemIter;rw[show((i+1:Nat):Int)=(i:Int)+1 by lia];simpa [rawInt] using c1
 have Mf:Shared.TypeIs ⟨j1,g,dr,tk,os⟩ (.ref it) "dict_itemiterator":=⟨_,c1,rfl⟩
 refine bG (AM (show _ from ?_));refine bG (wpAny_isOneOf_itemiter Mf (bG (wpAny_isOneOf_itemiter Mf (show _ from ?_))));show wpAny _ _ (Builtin.Dict_items.pairFromOwner (.ref it) 6 e.key e.val) _ _ ⟨j1,g,dr,tk,os⟩;unfold Builtin.Dict_items.pairFromOwner;refine bG (wpAny_newTuple (show _ from ?_));have c2:IsItemIter (j1.push { cls:=.type "tuple",data:=.seq #[e.key,e.val] }) it d (i+1) es.size ep ok ov:=eG _ c1;generalize pj:j1.push { cls:=.type "tuple",data:=.seq #[e.key,e.val] } = j2 at c2;have z1:j1.objs.size=hp.objs.size:=d1.1;have il:it < hp.objs.size:=iB hit;have t2:j2.get? hp.objs.size=some { cls:=.type "tuple",data:=.seq #[e.key,e.val] }:=by rw[<-pj,<-z1];exact lA _ rfl
 have z2:j2.objs.size=hp.objs.size+1:=by rw[<-pj,ot,z1]
 have k2:∀b o,b≠it->hp.get? b=some o->j2.get? b=some o:=λb o hb q=>by rw[<-pj];exact eG _ (d1.extBut b o hb q)
 show wpAny _ _ (Builtin.Dict_items.ownedTupleIsFree (.ref it) >>= _) _ _ ⟨j2,g,dr,tk,os⟩;rw[z1];clear pj c1 d1 Mf z1 j1;refine bG (show _ from ?_);unfold Builtin.Dict_items.ownedTupleIsFree;refine bG (wpAny_field c2 rfl (x:=.none) rfl (show _ from cM ?_));simp only[if_true];refine bG (wpAny_field c2 rfl (x:=ok) rfl (bG (wpAny_field c2 rfl (x:=ov) rfl (show _ from ?_))));refine bG (Bn c2 (show _ by simp) λj3 c3 d3=>(show _ from ?_))
 replace d3:Heap.SameBut it j2 j3:=d3;replace c3:IsItemIter j3 it d (i+1) es.size ep e.key ov:=c3
 refine bG (Bn c3 (show _ by simp) λj4 c4 d4=>(show _ from ?_))
 replace d4:Heap.SameBut it j3 j4:=d4;replace c4:IsItemIter j4 it d (i+1) es.size ep e.key e.val:=c4
 refine bG (Bn c4 (show _ by simp) λj5 c5 d5=>(show _ from ?_))
 replace d5:Heap.SameBut it j4 j5:=d5;replace c5:IsItemIterOut j5 it d (i+1) es.size ep e.key e.val hp.objs.size:=c5
 refine bG (Bn c5 (show _ by simp) λj6 c6 d6=>(show _ from ?_))
 replace d6:Heap.SameBut it j5 j6:=d6;replace c6:IsItemIterOut j6 it d (i+1) es.size ep e.key e.val hp.objs.size:=c6
 have up:∀b o,b≠it->j2.get? b=some o->j6.get? b=some o:=λb o hb q=>d6.extBut b o hb (d5.extBut b o hb (d4.extBut b o hb (d3.extBut b o hb q)));refine bG (wpAny_letGo (cM (cM ⟨_,rfl,cM (hQ j6 c6 (up _ _ (wg il) t2) ?_ λb o hb q=>up b o hb (k2 b o hb q))⟩)));show j6.objs.size=_;rw[d6.1,d5.1,d4.1,d3.1,z2]
theorem aA0{Q:ay->Shared->Prop}(hh:A.handled=none)(hit:IsItemIter s.heap it d i es.size ep ok ov)(hm:Raw s.heap d es ep)(hx:es.size<=i)(hQ:∀h',Heap.ExtBut it s.heap h'->Q none { s with heap:=h' }):wpAny (model prog w) A (pyNext (.ref it)) Q E s:=by
 obtain⟨od,b1,b2,b3⟩:=id hm;have ty:s.TypeIs (.ref it) "dict_itemiterator":=⟨_,hit,rfl⟩
 unfold pyNext;refine bG (Cr (wpAny_callSpecial?_slot (name:=Str.ofString "__next__") ty F.slot_dict_itemiterator_next
  (rq F.slot_dict_itemiterator_next ty F.entry_dict_itemiterator_next (show _ from ?_) (F.args_dict_itemiterator_next_1 _))))
 refine bG (cM ?_);refine bG (show _ from ?_);refine bG (show _ from ?_);first|refine bG (LO ty (show _ from cM ?_))|refine bG (LK ty (show _ from cM ?_))
 refine bG (Fo hit rfl (show _ from ?_));have own:Builtin.Dict_items.ownsTuple "dict_itemiterator" = true:=rfl;simp only[own,if_true];show wpAny _ _ (if (Value.ref d == Value.none)=true then _ else _) _ _ _;rw[bZ (show ¬((Value.ref d == Value.none)=true) from λz=>nomatch z)];refine bG (cM ?_);refine bG (Bm b1 b3 (show _ from ?_));rw[bZ (show _ from by simp)];refine bG (cM ?_);refine bG (Bi b1 b3 (show _ from ?_));rw[bZ (show _ from by simp)];refine cM (show _ from ?_);simp only[show ¬((i:Int) < 0) by lia,if_false,xy,QC hx];refine bG (show _ from ?_);first|refine bG (LO ty (show _ from cM ?_))|refine bG (LK ty (show _ from cM ?_))
 show wpAny _ _ (setField (.ref it) 2 Value.none >>= _) _ _ s;refine bG (DB hit rfl (show _ by simp) (show _ from ?_));show wpAny _ _ (newExc (.type "StopIteration") [] >>= _) _ _ _;refine bG (show _ from ?_);simp only[newExc,newTuple];refine bG (qb (show _ from ?_) (by size_fits));refine bG (m:=firstArgMember _ _) (wpAny_of_eq (a:=Value.none) (show _ by first|rfl|(simp only[firstArgMember];rfl)) (show _ from ?_));refine qb (show _ from ?_) (by size_fits);simp only[raiseNew];refine bG (wpAny_handled (show _ from ?_));rw[show A.in1.handled=none from hh];refine bG (cM (wpAny_throw ?_));refine bG (wpAny_isInstance (T:="StopIteration") (b:=true) ⟨_,lA _ rfl,rfl⟩ isSubtype_stop (show _ from ?_));exact cM (hQ _ (show _ from((Heap.SameBut.update ..).extBut.push _).push _))
end
section
variable{X:Cx}{pins:ao}{σ:St}{H:Hp}{s:Shared}
theorem Inv.Zf(I:Inv X pins σ H s)(e:H d=some (.dT kvs))(ho:s.heap.get? d=some o):Inv X pins σ (upd H d (.bu o (.dT kvs))) s:=by
 have nd:∀b u,H b=some u->u≠.dT kvs->b≠d:=λb u q n z=>by rw[z,e] at q;exact n (Option.some.inj q).symm
 refine I.step (h':=s.heap) (g':=s.gens) (d':=s.drawn) (t':=s.toks) (ch:=[]) (λ_ z=>nomatch z) (λb u _ _ _ q _=>q) (λb u _ _ _ q _=>⟨u.slots,q⟩) (λb u _ _ n=>?_)
  (λb u _ q=>⟨u,q⟩) (λb xs q=>?_) (λb u v q=>?_) (λb ps q=>⟨#[],?_⟩) (λm hm=>hm) (λb u q=>?_) I.bare
 ·rw[aT (λz=>by rw[z,e] at n;cases n)];exact n
 ·rw[aT (nd _ _ q (λz=>by cases z))];exact q
 ·rw[aT (nd _ _ q (λz=>by cases z))];exact q
 ·rw[aT (nd _ _ q (λz=>by cases z)),q];simp
 ·have st:∀c v,H c=some v->bS X.prog X.w H s.heap c v->bS X.prog X.w (upd H d (.bu o (.dT kvs))) s.heap c v:=λc v _ z=>
   z.wK (λ_ _ _ z=>z) (λc z=>by rw[aT (nd _ _ z (λy=>by cases y))];exact z) λc xs t z=>by rw[aT (nd _ _ z (λy=>by subst y;exact t))];exact z
  by_cases hb:b=d
  ·subst hb;rw[aN] at q;cases q;exact⟨ho,st b _ e (I.bc b _ e)⟩
  ·rw[aT hb] at q;exact st b u q (I.bc b u q)
end
theorem Fe{H:Hp}:∀{kvs:List (List Key×V)}{xs:List (List Key×Addr×Value)},KT H kvs xs->∀{i:Nat}{p:List Key×V},kvs[i]?=some p->∃q,xs[i]?=some q/\H q.2.1=some (.tup (p.1.map kV))/\RelV p.2 q.2.2
 |[],_,r,i,p,h=>by simp at h
 |a::as,_,r,i,p,h=>by
  cases r with
  |cons x t=>
   cases i with
   |zero=>cases h;exact⟨_,rfl,x.2⟩
   |succ i=>exact Fe t (i:=i) h
theorem wU{h:Heap}{kvs:List (List Key×V)}(x:bS P w H h d (.dT kvs)):(d == sysModules)=false/\∃(o:Obj) (es:Array DictEntry) (ep:Nat) (xs:List (List Key×Addr×Value)),
  h.get? d=some o/\o.ExactDict/\o.data=.dict es ep/\KT H kvs xs/\es.toList=xs.map (entryOfKey (tupleKind (dO P w)))/\es.size=kvs.length:=by
 obtain⟨z,y,xs,r,o,es,ep,h1,h2,h3,h4,h5⟩:=x;refine⟨y,o,es,ep,xs,h1,h2,h3,r,h4,?_⟩;rw[size_of_entries h4];exact(Paired.length r).symm
def DP(d:Addr)(o:Obj)(kvs:List (List Key×V)):It:=
 ⟨λi H=>H d=some (.bu o (.dT kvs))/\i < kvs.length,λi H x H'=>∃T b kv,H T=none/\x=.ref T/\kvs[i]?=some kv/\H b=some (.tup (kv.1.map kV))/\H'=upd H T (.tup [.ref b,kv.2]),λi H=>H d=some (.bu o (.dT kvs))/\kvs.length<=i⟩
theorem qK:entryFor table "dict_itemiterator.__iter__" = some Builtin.«dict_keyiterator.__iter__»:=PySem.entryFor_alias (id':="dict_keyiterator.__iter__") (by kernel_rfl) rfl (by decide +kernel) (show _ by kernel_rfl)
theorem aH5{P:Program}{w:World}{K:PySem.W.Frag}{elts:List Expr}{x1:Nat}{tp:Pos}(d it:Addr)(o:Obj)(kvs:List (List Key×V))(es:Array DictEntry)(ep:Nat)(B3:o.cls=.type "dict")(vt:o.data=.dict es ep)(hn:es.size=kvs.length) :
  Turn P w K (.Tuple elts x1 tp) (DP d o kvs) [it] it (λi h=>∃ok ov,IsItemIter h it d i es.size ep ok ov) where
 mem:=by simp
 obj:=λi h st b hb=>by
  obtain⟨ok,ov,he⟩:=st;have z:b=it:=by simpa using hb
  subst z;exact⟨_,he,λv z=>by cases z⟩
 keep:=λi h h' st k=>by
  obtain⟨ok,ov,he⟩:=st;exact⟨ok,ov,k it (by simp) _ he⟩
 item:=by
  intro X hP hw hK hc i pins s σ H E I hf st hg;subst hP hw hK;obtain⟨ok,ov,he⟩:=st;obtain⟨hd,hi⟩:=hg;have hO:bS X.prog X.w H s.heap d (.bu o (.dT kvs)):=I.bc d _ hd;obtain⟨ho,hO⟩:=hO;obtain⟨lo,o',uy,xr,xs,g1,g2,g3,rel,g4,g5⟩:=wU hO;have eo:o'=o:=Option.some.inj (g1.symm.trans ho);subst eo;have ee:uy=es/\xr=ep:=by rw[vt] at g3;injection g3 with a b;exact⟨a.symm,b.symm⟩
  obtain⟨e1,e2⟩:=ee;subst e1 e2;have raw:Raw s.heap d uy xr:=⟨o',ho,B3,vt⟩
  have hx:kvs[i]?=some kvs[i]:=eS hi;obtain⟨q,hq,hb,rv⟩:=Fe rel hx;have hex:uy[i]?=some (entryOfKey (tupleKind (dO X.prog X.w)) q):=by rw[entry_at g4,hq];rfl
  have uq:it < s.heap.objs.size:=iB he;refine xZ he raw hex λh1 rj hT hsz hk=>?_;refine⟨_,rfl,wpAny_letOwnedTupleGo_items rj λh2 Gg dv=>?_⟩
  replace dv:Heap.SameBut it h1 h2:=dv
  have A6:h2.IsTuple s.heap.objs.size #[.ref q.2.1,q.2.2]:=⟨_,(dv.2 _ (wg uq)).trans hT,rfl,_,rfl⟩
  have kk:∀b o,b∉[it]->s.heap.get? b=some o->h2.get? b=some o:=λb o hb q=>by
   have n1:b≠it:=λz=>hb (by simp[z]);exact(dv.2 b n1).trans (hk b o n1 q)
  have I2:Inv X pins σ (upd H s.heap.objs.size (.tup [.ref q.2.1,kvs[i].2])) { s with heap:=h2,toks:=s.toks }:=
   I.uF kk hf (dQ _) (show bS X.prog X.w _ h2 _ (.tup [.ref q.2.1,kvs[i].2]) from⟨cB (by simp),[.ref q.2.1,q.2.2],.cons rfl (.cons rv .nil),A6⟩)
  have De:H s.heap.objs.size=none:=I.bc.fresh (dQ _);refine⟨.ref s.heap.objs.size,_,I2,rfl,⟨_,q.2.1,kvs[i],De,rfl,hx,hb,rfl⟩,⟨_,_,Gg⟩,λb hb=>?_⟩;have z:b=it:=by simpa using hb
  subst z;rw[aT (oH uq)];exact(hf b (by simp)).1
 done:=by
  intro X hP hw hK hc i pins s σ H E I hf st hg;subst hP hw hK;obtain⟨ok,ov,he⟩:=st;obtain⟨hd,hi⟩:=hg;have hO:bS X.prog X.w H s.heap d (.bu o (.dT kvs)):=I.bc d _ hd;obtain⟨f0,f1,f2,f3,f4,f5⟩:=hf it (by simp);exact aA0 (I.ok.hd hc) he ⟨o,hO.1,B3,vt⟩ (by lia) λh' eb=>⟨rfl,I.turned (t':=s.toks) (λb o hb e=>eb b o hb e) f0 f1 f3 f4 f5⟩
 self:=λ_ _ _ _ _ st h=>by
  obtain⟨ok,ov,he⟩:=st;refine wpAny_pyIter_slot ⟨_,he,rfl⟩ F.slot_dict_itemiterator_iter (rq F.slot_dict_itemiterator_iter ⟨_,he,rfl⟩ qK ?_ (F.args_dict_itemiterator_iter_1 _));exact cM ⟨_,rfl,"dict_itemiterator",_,⟨_,he,rfl⟩,F.slot_dict_itemiterator_next.lookup,h⟩
section
variable{X:Cx}{elts:List Expr}{x1:Nat}{tp:Pos}
def QV(R:It->Hp->Prop):V->Hp->Prop:=λx H1=>∃d kvs,x=.ref d/\H1 d=some (.dT kvs)/\∀o,R (DP d o kvs) (upd H1 d (.bu o (.dT kvs)))
def KC(td:TE):TI:=λσ H R=>td σ H (QV R)
theorem ZK{o:Expr}{td:TE}{apos bf:Pos}(ho:PE X o td)(br:attributeBase o "items" X.env (eval o X.env)=eval o X.env:=by rfl)(bq:(apos.endLine == bf.line)=true:=by rfl) :
  PI X (.Tuple elts x1 tp) (.Call (.Attribute o "items" apos) [] [] bf) (KC td):=by
 intro pins s σ H R I h;refine wpAny_Call_method (T:="dict") (id:="dict.items") br rfl bq PySem.F.plainAttrs_dict PySem.F.slot_dict_items PySem.F.type_dict_items (dC (ho pins s σ H _ I h) λv s1 zq=>?_);obtain⟨x,H1,I1,r1,q1⟩:=zq;obtain⟨d,kvs,e,hd,q⟩:=q1;subst e;cases r1;obtain⟨lo,ob,es,ep,xs,g1,g2,g3,rel,g4,g5⟩:=wU (show bS X.prog X.w H1 s1.heap d (.dT kvs) from I1.bc d _ hd);have raw:Raw s1.heap d es ep:=⟨ob,g1,g2.1,g3⟩
 refine⟨raw.ty,λb z=>by cases z;exact⟨ob,g1,g2.2.1⟩,?_⟩;refine method_meetsIn PySem.F.slot_dict_items PySem.F.entry_dict_items rfl (PySem.evalArgs_none ⟨rfl,raw.ty,PySem.F.args_dict_items_1 _,_,aEG d lo,raw.ty,?_⟩);have I2:=I1.Zf hd g1;show wpAny _ _ (pyIter (.ref s1.heap.objs.size)) _ _ _;refine u9 (s:={ s1 with heap:=s1.heap.push { cls:=.type "dict_items",data:=.fields #[.ref d] } }) ⟨_,lA _ rfl,rfl,rfl⟩ (raw.keep λo e=>eG _ e) ?_;have hk:∀b u,s1.heap.get? b=some u->((s1.heap.push { cls:=.type "dict_items",data:=.fields #[.ref d] }).push { cls:=.type "dict_itemiterator",data:=.fields #[.none,.bool false,.ref d,.int 0 0,.int es.size 0,.int ep 0,.none,.none] }).get? b=some u:=
  λb u e=>eG _ (eG _ e)
 refine⟨_,[(s1.heap.push { cls:=.type "dict_items",data:=.fields #[.ref d] }).objs.size],_,_,_,rfl,I2.kept (t':=s1.toks) hk,aH5 d _ ob kvs es ep g2.1 g3 g5,⟨_,_,lA _ rfl⟩,λb hb=>?_,q ob⟩;have e:b=(s1.heap.push { cls:=.type "dict_items",data:=.fields #[.ref d] }).objs.size:=by simpa using hb
 have hle:s1.heap.objs.size<=b:=by rw[e,ot];exact Nat.le_succ _
 exact I2.xw hle (I2.bc.fresh hle)
end
section
variable{σ:St}{H:Hp}{nx:St->Hp->Prop}{rt:VK}{g:TG}{tb:TS}
theorem aJ7{R:It->Hp->Prop}(h:td σ H (QV R)):KC td σ H R:=h
theorem aRE{R:It->Hp->Prop}(h1:H d=some (.dT kvs))(h:∀o,R (DP d o kvs) (upd H d (.bu o (.dT kvs)))):QV R (.ref d) H:=⟨d,kvs,rfl,h1,h⟩
theorem rW{kvs:List (List Key×V)}(Pv:Nat->St->Hp->Prop)(h0:Pv 0 σ H)(hl:∀i σ H,i<=kvs.length->Pv i σ H->H d=some (.bu o (.dT kvs)))(hs:∀i kv σ H T b,kvs[i]?=some kv->Pv i σ H->H T=none->H b=some (.tup (kv.1.map kV))->g (.ref T) σ (upd H T (.tup [.ref b,kv.2])) λσ2 H2=>tb ⟨Pv (i+1),rt,nx,Pv (i+1)⟩ σ2 H2)(hd:∀σ H,Pv kvs.length σ H->nx σ H) :
  ∃W:Nat->Nat->St->Hp->Prop,(∃m,W 0 m σ H)/\∀i m σ H,W i m σ H->
   ((DP d o kvs).stop i H/\nx σ H)\/((DP d o kvs).go i H/\∃N:St->Hp->Prop,(∀σ' H',N σ' H'->∃m',m' < m/\W (i+1) m' σ' H')/\∀x H',(DP d o kvs).oq i H x H'->g x σ H' λσ2 H2=>tb ⟨N,rt,nx,N⟩ σ2 H2):=by
 refine⟨λi m σ H=>m=kvs.length - i/\i<=kvs.length/\Pv i σ H,⟨kvs.length,by simp,ko _,h0⟩,?_⟩;rintro i m σ H ⟨rfl,hi,p⟩;have q:=hl i σ H hi p;by_cases cw:i < kvs.length
 ·refine .inr ⟨⟨q,cw⟩,Pv (i+1),λσ' H' p'=>⟨kvs.length - (i+1),by lia,rfl,cw,p'⟩,λx H' y=>?_⟩;obtain⟨T,b,kv,hT,e1,hk,hb,e2⟩:=y;subst e1 e2;exact hs i kv σ H T b hk p hT hb
 ·have e:i=kvs.length:=by lia
  subst e;exact .inl ⟨⟨q,dQ _⟩,hd σ H p⟩
end
theorem aJ8{prog:Program}{w:World}{A:Around}(hh:A.handled=none)(I d:Addr)(bw:d≠I)(es:Array DictEntry)(ep:Nat) :
  Walks prog w A I [I,d] [I] es.size (λi v=>∃e,es[i]?=some e/\v=e.val) (λi h=>qy "dict_valueiterator" h I d i es.size ep/\Raw h d es ep) where
 sub:=λb hb=>lC.mpr (.inl (by simpa using hb))
 frame:=λ_ _ _ st hk=>⟨st.1.keep λo e=>hk I (by simp) o e,st.2.keep λo e=>hk d (by simp) o e⟩
 item:=λi s Q E hi st hQ=>by
  have hx:es[i]?=some es[i]:=LJ hi;refine aDF st.1 st.2 hx λh' a b=>hQ es[i].val h' s.toks ⟨_,hx,rfl⟩ ⟨a,st.2.keep λo e=>b.extBut d o bw e⟩ λb' o hb e=>b.extBut b' o (λz=>hb (rC.mpr z)) e
 done:=λs Q E st hQ=>aFl hh st.1 st.2 (dQ _) λh' z=>hQ h' s.toks λb o hb e=>z b o (λy=>hb (rC.mpr y)) e
 self:=λ_ _ _ _ st hQ=>wpAny_pyIter_valiter st.1 hQ
section
variable{X:Cx}{o:Expr}{td:TE}{apos bf:Pos}
def EX(b d:Addr):Heap->Prop:=λh=>h.IsValuesView b d
end
section
variable{X:Cx}{ek ev:Expr}{tk tv:TE}{pos:Pos}
theorem aKa{A:Around}{E:aj}{kvs:List (List Key×V)}{k:List Key}{Q:Unit->Shared->Prop}(hu:A.units < cLine)(I:Inv X pins σ H s)(e:H a=some (.dT kvs))(eb:H b=some (.tup (k.map kV)))(l:kvs.length < sizeLine)(rv:RelV v r)(h:∀s',Inv X pins σ (upd H a (.dT (putK kvs k v))) s'->Q () s') :
  wpAny (model X.prog X.w) A (dictSet a (.ref b) r) Q E s:=by
 obtain⟨z,hd,xs,rel,dd⟩:=X4 I.bc e;have hz:xs.length<=sizeLine:=by rw[<-Paired.length rel];exact z
 have hl:(putK kvs k v).length<=sizeLine:=by have:=m5 kvs k v;lia
 refine wpAny_dictSet_heap (hsz:=hz) hu (Fh I.bc eb) dd λh' Bb hs=>h _ ?_;obtain⟨q,es,ep,hq,h2,h3,h4,_,h5⟩:=Bb;refine KW I (by rw[e];exact True.intro) hs ⟨q,hq⟩ ⟨hl,hd,_,(rel.put k eb rv).keeps λc ys ec=>?_,q,es,ep,hq,h2,h3,h4,h5⟩;rw[aT (X8 ec e (λz=>nomatch z))];exact ec
def KA(tk tv:TE):TE:=λσ H Q=>∀d,H d=none->tk σ (upd H d (.dT [])) λy H1=>tv σ H1 λv H2=>∃b k,y=.ref b/\H2 b=some (.tup (k.map kV))/\H2 d=some (.dT [])/\Q (.ref d) (upd H2 d (.dT [(k,v)]))
theorem ZJ(hu:X.A.units < cLine)(hk:PE X ek tk)(hv:PE X ev tv):PE X (.Dict [some ek] [ev] pos) (KA tk tv):=by
 intro pins s σ H Q I h;have hn:H s.heap.objs.size=none:=I.bc.fresh (dQ _);have I0:Inv X pins σ (upd H s.heap.objs.size (.dT [])) { s with heap:=s.heap.push { cls:=.type "dict",data:=.dict #[] } }:=I.laid (a:=s.heap.objs.size) (o:=.dT []) (t':=s.toks) (λ_ _ q=>eG _ q) (dQ _) (ZC s.heap I.big);refine wpAny_Dict_any rfl rfl (by simp) (by simp) ?_;refine pairTrees_cons_walk (dC (hk pins _ σ _ _ I0 (h _ hn)) λu s1 ⟨y,H1,I1,r1,q1⟩=>dC (hv pins s1 σ H1 _ I1 q1) λv s2 ⟨x,H2,I2,r2,q2⟩=>pairTrees_nil_walk ?_);obtain⟨b,k,e,eb,ed,q⟩:=q2;subst e;cases r1;unfold storeAll;simp only[List.forIn_cons,List.forIn_nil];refine bG (bG (aKa hu I2 ed eb (by rw[ud];decide) r2 λs3 I3=>?_));exact cM (cM ⟨.ref _,_,I3,rfl,q⟩)
end
end L2
namespace L2
section
variable{σ:St}{H:Hp}{Q:VK}
theorem aLV{tk:TE}(h:∀d,H d=none->tk σ (upd H d (.dT [])) λy H1=>tv σ H1 λv H2=>∃b k,y=.ref b/\H2 b=some (.tup (k.map kV))/\H2 d=some (.dT [])/\Q (.ref d) (upd H2 d (.dT [(k,v)]))):KA tk tv σ H Q:=h
theorem aLW{ty:TE}(h:td σ H λx H1=>∃a,x=.ref a/\DR H1 a/\ty σ H1 λy H2=>tx σ H2 λz H3=>∃o,kF H3 a y o/\Q (o.getD z) H3):Pw td ty tx σ H Q:=h
end
end L2
namespace L2.Z
open PySem PySem.Spec PyProof.Rows L2
section
variable{X:Cx}{o e f ek ev:Expr}{td ty tx tk tv:TE}{pos apos bf tp:Pos}{elts:List Expr}{x1:Nat}
theorem aGQ(ho:QE X o td)(br:attributeBase o "items" X.env (eval o X.env)=eval o X.env:=by rfl)(bq:(apos.endLine == bf.line)=true:=by rfl) :
  QI X (.Tuple elts x1 tp) (.Call (.Attribute o "items" apos) [] [] bf) (KC td):=⟨L2.ZK ho.h br bq⟩
theorem aA1(hu:X.A.units+9 < cLine)(hk:QE X ek tk)(hv:QE X ev tv):QE X (.Dict [some ek] [ev] pos) (KA tk tv):=⟨L2.ZJ (by lia) hk.h hv.h⟩
theorem kL(hu:X.A.units+9 < cLine)(ho:QE X o td)(he:QE X e ty)(hf:QE X f tx)(base:attributeBase o "get" X.env (eval o X.env)=eval o X.env:=by rfl)
  (rL:((backTo bf (starEach [e,f] X.env)).all (λx=>!x.1) && (backToKw bf (keywordEach [] X.env)).all (λx=>x.1.isSome)
   && decide (([e,f]:List Expr).length+([]:List Keyword).length+(if ([]:List Keyword).isEmpty then 0 else 1) < 30))=true:=by rfl)
  (line:(apos.endLine == bf.line)=true:=by rfl) (trees:backTo bf (starEach [e,f] X.env)=[(false,eval e X.env),(false,eval f X.env)]:=by rfl) :
  QE X (.Call (.Attribute o "get" apos) [e,f] [] bf) (Pw td ty tx):=⟨L2.aLc (by lia) ho.h he.h hf.h ⟨base,rL,line,trees⟩⟩
end
end L2.Z
namespace L2
open PySem PySem.Spec PyProof.Rows
def FC(d:Addr)(o:Obj)(kvs:List (List Key×V)):It:=
 ⟨λi H=>H d=some (.bu o (.dT kvs))/\i < kvs.length,λi H x H'=>H'=H/\∃b kv,kvs[i]?=some kv/\x=.ref b/\H b=some (.tup (kv.1.map kV)),λi H=>H d=some (.bu o (.dT kvs))/\kvs.length<=i⟩
theorem aH6{P:Program}{w:World}{K:PySem.W.Frag}{tg:Expr}(d it:Addr)(o:Obj)(kvs:List (List Key×V))(es:Array DictEntry)(ep:Nat)(B3:o.cls=.type "dict")(vt:o.data=.dict es ep)(hn:es.size=kvs.length) :
  Turn P w K tg (FC d o kvs) [it] it (λi h=>qy "dict_keyiterator" h it d i es.size ep) where
 mem:=by simp
 obj:=λi h st b hb=>by
  have z:b=it:=by simpa using hb
  subst z;obtain⟨u,e,c,q⟩:=st;exact⟨u,e,λv z=>by rw[q] at z;cases z⟩
 keep:=λi h h' st k=>st.keep λu e=>k it (by simp) u e
 item:=by
  intro X hP hw hK hc i pins s σ H E I hf st hg;subst hP hw hK;obtain⟨hd,hi⟩:=hg;have hO:bS X.prog X.w H s.heap d (.bu o (.dT kvs)):=I.bc d _ hd;obtain⟨ho,hO⟩:=hO;obtain⟨lo,o',uy,xr,xs,g1,g2,g3,rel,g4,g5⟩:=wU hO;have eo:o'=o:=Option.some.inj (g1.symm.trans ho);subst eo;have ee:uy=es/\xr=ep:=by rw[vt] at g3;injection g3 with a b;exact⟨a.symm,b.symm⟩
  obtain⟨e1,e2⟩:=ee;subst e1 e2;have raw:Raw s.heap d uy xr:=⟨o',ho,B3,vt⟩
  have hx:kvs[i]?=some kvs[i]:=eS hi;obtain⟨q,hq,hb,rv⟩:=Fe rel hx;have hex:uy[i]?=some (entryOfKey (tupleKind (dO X.prog X.w)) q):=by rw[entry_at g4,hq];rfl
  obtain⟨f0,f1,f2,f3,f4,f5⟩:=hf it (by simp);refine aAZ st raw hex λh' km sb=>?_;have I1:Inv X pins σ H { s with heap:=h' }:=I.turned (t':=s.toks) (λb u hb e=>(sb.2 b hb).trans e) f0 f1 f3 f4 f5;obtain⟨u,e',c',d'⟩:=id km;exact⟨_,rfl,E4 (s:={ s with heap:=h' }) e' c' d' (by decide) ⟨.ref q.2.1,H,I1,rfl,⟨rfl,q.2.1,kvs[i],hx,rfl,hb⟩,km,λb hb=>(hf b hb).1⟩⟩
 done:=by
  intro X hP hw hK hc i pins s σ H E I hf st hg;subst hP hw hK;obtain⟨hd,hi⟩:=hg;have hO:bS X.prog X.w H s.heap d (.bu o (.dT kvs)):=I.bc d _ hd;obtain⟨f0,f1,f2,f3,f4,f5⟩:=hf it (by simp);exact aCv (I.ok.hd hc) st ⟨o,hO.1,B3,vt⟩ (by lia) λh' eb=>⟨rfl,I.turned (t':=s.toks) (λb o hb e=>eb b o hb e) f0 f1 f3 f4 f5⟩
 self:=λ_ _ _ _ _ st h=>wpAny_pyIter_keyiter st h
section
variable{X:Cx}{tg:Expr}
def Q1(R:It->Hp->Prop):V->Hp->Prop:=λx H1=>∃d kvs,x=.ref d/\H1 d=some (.dT kvs)/\∀o,R (FC d o kvs) (upd H1 d (.bu o (.dT kvs)))
def PD(tl:TE):TI:=λσ H R=>tl σ H (Q1 R)
theorem aLX{l:Expr}{tl:TE}(hl:PE X l tl):PI X tg l (PD tl):=by
 intro pins s σ H R I h;refine dC (hl pins s σ H _ I h) λv s1 zq=>?_;obtain⟨x,H1,I1,r1,q1⟩:=zq;obtain⟨d,kvs,e,hd,q⟩:=q1;subst e;cases r1;obtain⟨lo,ob,es,ep,xs,g1,g2,g3,rel,g4,g5⟩:=wU (show bS X.prog X.w H1 s1.heap d (.dT kvs) from I1.bc d _ hd);have raw:Raw s1.heap d es ep:=⟨ob,g1,g2.1,g3⟩
 have I2:=I1.Zf hd g1;refine xY lo raw ?_;refine⟨s1.heap.objs.size,[s1.heap.objs.size],_,_,_,rfl,I2.kept (t':=s1.toks) λb u e=>eG _ e,aH6 d _ ob kvs es ep g2.1 g3 g5,⟨_,lA _ rfl,rfl,rfl⟩,λb hb=>?_,q ob⟩;have e:b=s1.heap.objs.size:=by simpa using hb
 subst e;exact I2.xw (dQ _) (I2.bc.fresh (dQ _))
end
section
variable{σ:St}{H:Hp}{Q:VK}{nx:St->Hp->Prop}{rt:VK}{g:TG}{tb:TS}
theorem aKb{R:It->Hp->Prop}(h:tl σ H (Q1 R)):PD tl σ H R:=h
theorem aRF{R:It->Hp->Prop}(h1:H d=some (.dT kvs))(h:∀o,R (FC d o kvs) (upd H d (.bu o (.dT kvs)))):Q1 R (.ref d) H:=⟨d,kvs,rfl,h1,h⟩
theorem aLY(h:td σ H λx H1=>ty σ H1 λy H2=>∃a v,x=.ref a/\kF H2 a y (some v)/\Q v H2):O5 td ty σ H Q:=h
theorem kF.f{k:List Key}(e:H a=some (.bu o (.dT kvs)))(eb:H b=some (.tup (k.map kV))):kF H a (.ref b) (lH kvs k):=.inr ⟨kvs,k,b,.inr ⟨o,e⟩,rfl,eb,rfl⟩
end
end L2
namespace L2.Z
open PySem PySem.Spec PyProof.Rows L2
section
variable{X:Cx}{o i l tg:Expr}{td ty tl:TE}{pos:Pos}
theorem aGR(hl:QE X l tl):QI X tg l (PD tl):=⟨L2.aLX hl.h⟩
theorem iO(hu:X.A.units+9 < cLine)(ho:QE X o td)(hi:QE X i ty)(hs:OC i:=by intro _ _;rfl):QE X (.Subscript o i pos) (O5 td ty):=⟨L2.aNm (by lia) ho.h hi.h hs⟩
end
end L2.Z
namespace L2
open PySem PySem.Spec PyProof.Rows
section
open PySem.SeqAt
open PySem.AutoSeq1 (wpAny_loadPart')
open PySem.MeetsSeq PySem.MeetsSeq2 PySem.MeetsSeq3
end
structure CB(P:Program)(w:World)(K:W.Frag)(mg:Str->ay)(base:Heap)(k:Nat)(f:Addr)(sp:Sp):Prop where
 ex:∃(o:Obj) (fd:FuncData) (ps:ak),base.get? f=some o/\o.data=.func fd/\bT P w K mg base eY k f fd ps sp/\∀(s:Shared) (us:ah),us.length=ps.length->BindsTo s fd ⟨us,[]⟩ (ps.zip us)
abbrev E8(q:Str)(params:Arguments)(body:Expr)(scope:Scope)(cl:List (Str×Addr))(pm cd ct:Value):FuncData:=
  { name := "<lambda>", qualname := q, params, body := .expr body, scope, globals := mainGlobals, closure := cl, defaults := .none, kwdefaults := .none, doc := .none, pyModule := pm, annotations := none, code := cd, closureTuple := ct, builtins := builtinsNs }
abbrev rX(q:Str)(scope:Scope)(L f:Addr)(cd:Value)(cl:List (Str×Addr)):Env:=
 { scope:=scope,locals:=L,globals:=mainGlobals,cells:=cl,qual:=q ++ ".<locals>.",func:=some f,code:=cd,frame:=some L,builtins:=builtinsNs }
def Gy(P:Program)(w:World)(K:W.Frag)(mg:Str->ay)(base:Heap)(N:ak)(q:Str)(scope:Scope)(f:Addr)(cd:Value)(cl:List (Str×Addr))(A:Around)(outer:List Env)(s:Shared)(H:Hp):Cx where
 prog:=P
 w:=w
 K:=K
 mg:=mg
 base:=base
 A:=A.deeper (rX q scope s.heap.objs.size f cd cl)
 N:=N
 cq:=s
 sg:=H
 env:=rX q scope s.heap.objs.size f cd cl
 outer:=outer
 stack:=rX q scope s.heap.objs.size f cd cl::outer
 ex:=[]
 calm:=true
 fn:=λ_=>false
 pn:=[]
 xe:=λ_ _=>False
structure Oe(base:Heap)(scope:Scope)(N ps:ak)(cl:List (Str×Addr))(bz:St):Prop where
 kind:scope.kind=.function
 co:scope.isCoroutine=false
 gen:scope.isGenerator=false
 fc:∀y∈scope.names,y.2≠.cell
 pre:N.take ps.length=ps
 nd:N.Nodup
 len:N.length=ps.length+bz.length
 par:∀x∈ps,scope.names.lookup x=some .local
 inj:∀x y c,cl.lookup x=some c->cl.lookup y=some c->x=y
 has:∀x,scope.names.lookup x=some .free->∃c,cl.lookup x=some c
 all:∀x c,cl.lookup x=some c->∃o v,base.get? c=some o/\o.data=.cell v
 bz:∀(i:Nat) x v,(N.drop ps.length)[i]?=some x->bz[i]?=some (some v)->scope.names.lookup x=some .free/\∃u c o,RelV v u/\cl.lookup x=some c/\base.get? c=some o/\o.data=.cell (some u)
theorem Ze:∀{l:List (Str×Value)},(l.map (·.1)).Nodup->(x,v)∈l->l.lookup x=some v
 |[],_,h=>by cases h
 |(y,u)::r,nd,h=>by
  rw[qu];rcases lC.mp h with e|h'
  ·cases e;rw[beq_self_eq_true]
  ·have ne:x≠y:=λz=>by
    subst z;exact(ug.mp nd).1 (fZ.mpr ⟨(x,v),h',rfl⟩)
   rw[beq_eq_false_iff_ne.mpr ne];exact Ze (ug.mp nd).2 h'
theorem aOb:∀{P:ak}{us:ah}{i:Nat},P.Nodup->P[i]?=some x->us[i]?=some v->P.length=us.length->(P.zip us).reverse.lookup x=some v:=by
 intro P us i nd h1 h2 hl;have hm:(x,v)∈(P.zip us).reverse:=by
  rw[List.mem_reverse];refine kP (i:=i) ?_;rw[List.getElem?_zip_eq_some];exact⟨h1,h2⟩
 refine Ze ?_ hm;rw[List.map_reverse,List.map_fst_zip (G5 hl)];exact List.pairwise_reverse.mpr (nd.imp λh=>Ne.symm h)
def Ky(c:Addr)(q:Str)(n:Nat)(tl:TE)(bz:St):Sp:=λws H Q _=>H c=some (.xv q)/\ws.length=n/\tl (ws.map some++bz) H Q
theorem aH8{P:Program}{w:World}{K:W.Frag}{mg:Str->ay}{base:Heap}{N ps:ak}{q:Str}{scope:Scope}{f:Addr}{cd:Value}{cl:List (Str×Addr)}{bz:St}{A:Around}{outer:List Env}{s:Shared}{H:Hp}{us:ah}{vs:List V}{h':Heap}{tk:Nat}
  (S:Oe base scope N ps cl bz) (hd:A.handled=none) (e0:AF P w K mg base A outer s H) (hl:vs.length=ps.length) (r:Vals vs us)
  (A0:h'.Ns s.heap.objs.size λx=>(ps.zip us).reverse.lookup x) (hk:∀b o,s.heap.get? b=some o->h'.get? b=some o) :
  Inv (Gy P w K mg base N q scope f cd cl A outer s H) [] (vs.map some++bz) H { s with heap:=h',toks:=tk }:=by
 have yj:∀b:Addr,b∉(Gy P w K mg base N q scope f cd cl A outer s H).ex:=λb z=>absurd (show b∈([]:au) from z) (by simp);refine⟨⟨e0.mod,S.kind,rfl,rfl,dQ _,S.inj,λy hy=>?_,λy c z _=>(by cases z),λ_=>hd,Around.frames_deeper e0.frames,.inr ⟨rfl,rfl⟩,λb z=>absurd z (yj b),e0.bs,e0.yu,λb _ _=>yj b,λb z=>absurd z (yj b),e0.uO,e0.AD⟩,
  rfl,e0.bare,Un.kept hk,⟨_,A0,λi y v h1 h2 h3=>?_⟩,λy c h=>?_,e0.bc.fresh (dQ _),λy c h=>?_,λp hp=>absurd (show p∈([]:ao) from hp) (by simp),e0.bc.kept hk,?_⟩
 ·have hy:scope.names.lookup y=some .cell\/scope.names.lookup y=some .free:=hy;rcases hy with hy|hy
  ·exact absurd rfl (S.fc _ (PySem.mem_of_lookup hy))
  ·exact S.has y hy
 ·have vx:N[i]?=some y:=h1;by_cases hi:i < ps.length
  ·rw[uh (by rw[bX];lia),kQ] at h2;obtain⟨v',ph,e⟩:=kl.mp h2;cases e;obtain⟨u,hu,rv⟩:=r.get ph;have hp:ps[i]?=some y:=by rw[<-S.pre,QK hi];exact vx
   have Jk:ps.Nodup:=by rw[<-S.pre];exact S.nd.sublist (List.take_sublist _ _)
   refine⟨u,rv,.inl ⟨S.par y (kP hp),?_⟩⟩;exact aOb Jk hp hu (by rw[<-hl];exact r.length)
  ·obtain⟨j,rfl⟩ : ∃j,i=ps.length+j:=⟨i - ps.length,by lia⟩
   rw[vg (by rw[bX];lia),bX,hl,Nat.add_sub_cancel_left] at h2;obtain⟨hf,u,c,o,rv,ec,eo,ed⟩:=S.bz j y v (by rw[List.getElem?_drop];exact vx) h2;exact⟨u,rv,.inr ⟨.inr hf,c,ec,o,hk _ _ (e0.bs c o eo).1,ed⟩⟩
 ·obtain⟨o,v,eo,ed⟩:=S.all y c h;exact⟨v,o,hk _ _ (e0.bs c o eo).1,ed⟩
 ·obtain⟨o,v,eo,ed⟩:=S.all y c h;exact(e0.bs c o eo).2
 ·show _=N.length;rw[lB,bX,hl,S.len]
theorem aQA{P:Program}{w:World}{K:W.Frag}{mg:Str->ay}{base:Heap}{k:Nat}{f c:Addr}{q:Str}{params:Arguments}{body:Expr}{scope:Scope}{cl:List (Str×Addr)}{pm ct:Value}{N ps:ak}{bz:St}{tl:TE}{o:Obj}
  (hf:base.get? f=some o) (ho:o.data=.func (E8 q params body scope cl pm (.ref c) ct)) (S:Oe base scope N ps cl bz)
  (fq:∀(A:Around) (outer:List Env) (s:Shared) (H:Hp),eK k (A.deeper (rX q scope s.heap.objs.size f (.ref c) cl))->PE (Gy P w K mg base N q scope f (.ref c) cl A outer s H) body tl) :
  bT P w K mg base eY (k+1) f (E8 q params body scope cl pm (.ref c) ct) ps (Ky c q ps.length tl bz):=by
 refine⟨λvs H Q E h=>h.2.1,λA outer s H args us vs Q E hr e0 hb r je=>?_⟩;obtain⟨TK,hl,hq⟩:=je;have lim:s.heap.NoLimit:=e0.mod.nolimit.keeps λb o e=>(e0.bs b o e).1;have mv:s.heap.CodeRec (.ref c) q:=by
  obtain⟨oc,vc,t,z1,z2,z3⟩:=e0.bc c _ TK;exact⟨c,oc,vc,t,rfl,z1,z2,z3⟩
 refine PySem.W.kla_callFunE hr.depth (e0.bs f _ hf).1 ho S.co S.gen rfl mv (hb _ _ _ _ ?_);refine wpAny_newFunctionEnv S.fc (λy hy=>?_) (λde A0 Vt=>⟨lim.fresh _ Vt,?_⟩) S.kind
 ·obtain⟨n,v⟩:=y;exact S.par n (Lm hy).1
 show codeAny _ _ (.expr body (rX q scope s.heap.objs.size f (.ref c) cl)) _ _;have IB:∀b o,s.heap.get? b=some o->de.get? b=some o:=λb o e=>Vt.extBut b o (oH (iB e)) (eG _ e);refine PySem.W.kla_codeExpr ?_;have I:=aH8 (tk:=s.toks+(ps.zip us).length) (q:=q) (f:=f) (cd:=.ref c) S hr.hd e0 hl r A0 IB;refine sy (fq A outer s H (hr.deeper _) [] _ _ H _ I hq) (λu s' hs=>?_) λe s' hs=>hs.elim;obtain⟨v,H',J,rv,z⟩:=hs;exact⟨v,H',J.os,J.bare,J.base,J.bc,rv,z⟩
def Bc(base h:Heap)(Z:au):Heap:=PySem.W.hideAll h ((List.range h.objs.size).filter λa=>!((base.get? a).isSome || Z.contains a))
theorem rY{base h:Heap}(e:h.get? b=some o)(z:(∃u,base.get? b=some u)\/b∈Z):(Bc base h Z).get? b=some o:=by
 refine PySem.W.hideAll_get _ e λhm=>?_;have q:=(zg.mp hm).2;rcases z with ⟨u,z⟩|z
 ·rw[z] at q;simp at q
 ·rw[show Z.contains b=true from List.elem_iff.mpr z] at q;simp at q
theorem Zd{base h:Heap}(e:(Bc base h Z).get? b=some o):h.get? b=some o/\((∃u,base.get? b=some u)\/b∈Z):=by
 have e':h.get? b=some o:=PySem.W.of_hideAll _ e;refine⟨e',?_⟩;cases q1:base.get? b with
 |some u=>exact .inl ⟨u,rfl⟩
 |none=>
  cases q2:Z.contains b with
  |true=>exact .inr (List.elem_iff.mp q2)
  |false=>
   have hm:b∈(List.range h.objs.size).filter λa=>!((base.get? a).isSome || Z.contains a):=zg.mpr ⟨zf.mpr (iB e'),by rw[q1,q2];rfl⟩;have z:(Bc base h Z).get? b=none:=PySem.W.hideAll_none _ hm;rw[z] at e;cases e
theorem Mod.keeps{K:W.Frag}{mg:Str->ay}{base cv:Heap}(M:Mod K mg base)(k:∀b o,base.get? b=some o->cv.get? b=some o):Mod K mg cv:=
 ⟨M.CZ.keeps k,M.glob.keeps k,(let ⟨mb,h1,h2⟩:=M.blt;⟨mb,h1.keeps k,h2⟩),M.nolimit.keeps k,let ⟨bm,o,e1,e2,e3,r⟩:=M.bm;⟨bm,o,e1,e2,k _ _ e3,r⟩⟩
theorem aH9{h:Heap}(hl:h.FunFrames base l)(hz:∀b∈mh l,b∉Z):h.FunFrames (Bc base h Z) l:=by
 induction l with
 |nil=>trivial
 |cons env rest ih=>
  obtain⟨hk,⟨L,o,hf,hn,ho,hd⟩,hr⟩:=hl;have hL:L∈mh (env::rest):=by unfold mh;rw[DL,hf];exact oj
  refine⟨hk,⟨L,o,hf,?_,ho,hd⟩,ih hr λb hb=>hz b (by unfold mh;rw[DL,hf];exact ki _ hb)⟩;cases q:(Bc base h Z).get? L with
  |none=>rfl
  |some u=>
   rcases(Zd q).2 with ⟨v,z⟩|z
   ·rw[hn] at z;cases z
   ·exact absurd z (hz L hL)
section
variable{X:Cx}{pins:ao}{σ:St}{H:Hp}{s:Shared}{c Pt:Addr}{q:Str}{params:Arguments}{body:Expr}{scope:Scope}{pos cz:Pos}{cl:List (Str×Addr)}
theorem aLZ{Q:aj}(I:Inv X pins σ H s)(pb:X.env.code=.ref c)(hC:PySem.W.codeHdIn X.K c Pt=true)(hT:H Pt=some (.pq pos q))(hq:X.env.qual ++ "<lambda>" = q)(zr:defaultsOf params X.env=([],[]))(qh:closureFor scope X.env=pure cl)
  (h:∀(f c':Addr) (pm ct:Value) (o:Obj) (H':Hp) (s':Shared),Inv X pins σ H' s'->aO H H'->s'.heap.get? f=some o->o.data=.func (E8 q params body scope cl pm (.ref c') ct)->H' f=none->H' c'=some (.xv q)->s.heap.objs.size<=f->Q (.ref f) s') :
  wpAny (model X.prog X.w) X.A (eval (.Lambda params body scope pos) X.env) Q X.xe s:=by
 obtain⟨ps,eP,ht,hc⟩:=I.bc Pt _ hT;have hg:s.heap.Ns mainGlobals X.mg:=I.mod.glob.keeps I.bk;have hgP:mainGlobals≠Pt:=λz=>by
  obtain⟨o,es,ep,e,hd,_⟩:=hg;rw[z,eP] at e;cases e;cases hd
 have hb:s.heap.BuiltinsAt X.mg Pt:=by
  obtain⟨bm,o,e1,e2,e3,e4,e5,e6⟩:=I.mod.bm;have Gv:=I.bk _ _ e3;refine⟨bm,o,e1,e2,λz=>?_,λz=>?_,Gv,e4,e5,e6⟩
  ·obtain⟨o',es,ep,e,hd,_⟩:=hg;rw[z,e] at Gv;cases Gv;rw[hd] at e6;cases e6
  ·rw[z,eP] at Gv;cases Gv;cases e4
 have VX:PySem.W.CodeHd s.heap c Pt:=PySem.W.codeHd_of_K I.kg hC;refine PySem.W.kla_eval zr ?_;rw[hq];rcases hc with hn|⟨c',hs,mv⟩
 ·refine PySem.W.kla_makeFunction (mg:=X.mg) (P:=Pt) (c:=c) (ps:=ps) qh I.ok.glob hg pb VX eP ht hn hgP hb λc' J8 h' tk hx A4 cw Ts Vr=>?_;have C7:H c'=none:=I.bc.fresh A4;have F7:∀b o,b≠Pt->s.heap.get? b=some o->(h'.push (PySem.W.kla_obj "<lambda>" q params body scope cl ((X.mg "__name__").getD .none) c' J8)).get? b=some o:=λb o n e=>eG _ (hx b o n e);have np:∀b,H b=none->b≠Pt:=λb n z=>by rw[z,hT] at n;cases n
  have ncP:c'≠Pt:=np c' C7;refine h h'.objs.size c' _ J8 _ (upd H c' (.xv q)) _ (I.step (h':=h'.push _) (g':=s.gens) (d':=s.drawn) (t':=tk) (ch:=[]) (λ_ z=>nomatch z) (λb o _ _ _ e n=>F7 b o (np b n) e) (λb o _ _ _ e n=>⟨o.slots,F7 b o (np b n) e⟩)
   (λb o _ e n=>by rw[aT (oH (qI (iB e) A4))];exact n) (λb o _ e=>?_) (λb xs e=>by rw[aT (bM e C7)];exact e) (λb o u e=>by rw[aT (bM e C7)];exact e)
   (λb ps e=>⟨#[],by rw[aT (bM e C7),e];simp⟩) (λm hm=>hm.extBut (b:=Pt) F7 (np _ I.free)) (λb u e=>?_) I.bare) (aO.new C7) (lA _ rfl) rfl ?_ aN (kr A4 (Cq cw))
  ·by_cases Gj:b=Pt
   ·subst Gj;exact⟨_,eG _ Vr⟩
   ·exact⟨o,F7 b o Gj e⟩
  ·by_cases VN:b=c'
   ·subst VN;rw[aN] at e;cases e;obtain⟨c2,oc,vs,t,z1,z2,z3,z4⟩:=Ts;cases z1;exact⟨oc,vs,t,eG _ z2,z3,z4⟩
   ·rw[aT VN] at e;by_cases Gj:b=Pt
    ·subst Gj;rw[hT] at e;cases e;refine⟨_,eG _ Vr,?_,.inr ⟨c',?_,aN⟩⟩
     ·rw[Array.toList_append];exact TriplesOk_snoc _ _ _ _ ht
     ·rw[Array.toList_append];exact codeAmong_snoc _ ht hn
    ·refine(I.bc b u e).wK (λd v hd z=>F7 d v ?_ z) (λd z=>by rw[aT (bM z C7)];exact z) λd xs _ z=>by rw[aT (bM z C7)];exact z
     rcases hd with z|z
     ·rw[z];exact Gj
     ·intro y;rw[y,hT] at z;cases z
  ·rw[aT (wg cw)];exact I.bc.fresh (kr A4 (Cq cw))
 ·refine PySem.W.kla_makeFunctionHit (mg:=X.mg) (P:=Pt) (c:=c) (ps:=ps) qh I.ok.glob hg pb VX eP ht hs hb λJ8 h' tk hk hsz=>?_;exact h h'.objs.size c' _ J8 _ H _ (I.kept λb u e=>eG _ (hk b u e)) (aO.refl _) (lA _ rfl) rfl (I.bc.fresh hsz) mv hsz
def Hi(X:Cx)(es:List Expr)(params:Arguments)(body:Expr)(scope:Scope)(cz:Pos)(Pt:Addr)(q:Str)(cl:List (Str×Addr))(t:TA):Prop:=
 ∀(pos:Pos) (pins:ao) (s:Shared) (σ:St) (H:Hp) (Q:List V->Hp->Prop),Inv X pins σ H s->t σ H (λvs H1=>H1 Pt=some (.pq cz q)/\Q vs H1)->
  wpAny (model X.prog X.w) X.A (spliced (backTo pos (starEach es X.env))) (λus s'=>∃(vs:List V) (Af:ah) (f c':Addr) (pm ct:Value) (o:Obj) (H1 H2:Hp),us=Af ++ [.ref f]/\Vals vs Af/\Inv X pins σ H2 s'/\aO H1 H2/\
   s'.heap.get? f=some o/\o.data=.func (E8 q params body scope cl pm (.ref c') ct)/\H2 f=none/\H2 c'=some (.xv q)/\f∉mh X.stack/\Q vs H1) X.xe s
theorem aL0(pb:X.env.code=.ref c)(hC:PySem.W.codeHdIn X.K c Pt=true)(hq:X.env.qual ++ "<lambda>" = q)(zr:defaultsOf params X.env=([],[])){n:Nat}{idx:List Nat}(S:eU X scope N n idx) :
  Hi X [.Lambda params body scope cz] params body scope cz Pt q (kG X.env scope.names []) kR:=by
 intro pos pins s σ H Q I h;obtain⟨hT,hQ⟩:=h;show wpAny _ _ (spliced ((false,eval (.Lambda params body scope cz) X.env)::backTo pos (starEach [] X.env))) _ _ s;refine Calls.spliced_cons (aLZ I pb hC hT hq zr (wN (S.cells I)) λf c' pm ct o H' s' I' sm e1 e2 e3 e4 e5=>?_);refine Calls.spliced_nil ⟨[],[],f,c',pm,ct,o,H,H',rfl,.nil,I',sm,e1,e2,e3,e4,λz=>?_,hQ⟩;obtain⟨_,o',e,_⟩:=I.stack.mem z;exact absurd (qI (iB e) e5) (rm _)
theorem aL1(ha:PE X e te)(hr:Hi X es params body scope cz Pt q cl t)(hs:starEach (e::es) X.env=(false,eval e X.env)::starEach es X.env:=by rfl) :
  Hi X (e::es) params body scope cz Pt q cl (bN te t):=by
 intro pos pins s σ H Q I h;rw[hs];show wpAny _ _ (spliced ((false,eval e X.env)::backTo pos (starEach es X.env))) _ _ s;refine Calls.spliced_cons (dC (ha pins s σ H _ I h) λu s1 zq=>?_);obtain⟨x,H1,I1,r1,q1⟩:=zq;refine dC (hr pos pins s1 σ H1 (λvs H2=>Q (x::vs) H2) I1 q1) λus s2 zq=>?_;obtain⟨vs,Af,f,c',pm,ct,o,H2,H3,e0,r,I3,sm,e1,e2,e3,e4,e5,hQ⟩:=zq;exact⟨x::vs,u::Af,f,c',pm,ct,o,H2,H3,by rw[e0];rfl,.cons r1 r,I3,sm,e1,e2,e3,e4,e5,hQ⟩
def Pl(Pt:Addr)(cz:Pos)(q:Str)(sp:(Addr->Sp->Prop)->Sp)(n:Nat)(tl:TE)(idx:List Nat)(t:TA):TE:=λσ H Q=>t σ H λvs H1=>H1 Pt=some (.pq cz q)/\
 ∀(f c':Addr) (H2:Hp) (C:Addr->Sp->Prop),aO H1 H2->H2 c'=some (.xv q)->C f (Ky c' q n tl (idx.map λj=>(σ[j]?).join))->sp C (vs ++ [.ref f]) H2 Q E0
theorem aL2{f:Addr}{fd:FuncData}{ps psL N:ak}{idx:List Nat}{sp:(Addr->Sp->Prop)->Sp}{k kc:Nat}{x:Str}{p:Pos}{e:Expr}{es:List Expr}{t:TA}{tl:TE}
  (F:∀cv:Heap,bT X.prog X.w X.K X.mg cv eY k f fd ps (sp (CB X.prog X.w X.K X.mg cv (kc+1)))) (hr:eK k X.A) (hg:Gl X x) (hm:X.mg x=some (.ref f)) (hk:W.keepIn X.K (.ref f)=true) (hb:Binds X.K fd ps [])
  (yn:∀y,X.fn y=true) (S:eU X scope N psL.length idx) (sf:N.take psL.length=psL) (DZ:psL.all (λx=>scope.names.lookup x == some .local)=true) (Ny:scope.isCoroutine=false) (D4:scope.isGenerator=false)
  (mz:∀(cl:List (Str×Addr)) (pm cd ct:Value) (us:ah),us.length=psL.length->bindArgs (E8 q params body scope cl pm cd ct) ⟨us,[]⟩=pure (psL.zip us))
  (ha:Hi X (e::es) params body scope cz Pt q (kG X.env scope.names []) t)
  (fq:∀(cv:Heap) (f' c':Addr) (cl:List (Str×Addr)) (A:Around) (outer:List Env) (s:Shared) (H:Hp),eK kc (A.deeper (rX q scope s.heap.objs.size f' (.ref c') cl))->PE (Gy X.prog X.w X.K X.mg cv N q scope f' (.ref c') cl A outer s H) body tl)
  (jf:(x == ("__debug__" : Str))=false:=by decide) (he:starEach (e::es) X.env=(false,eval e X.env)::starEach es X.env:=by rfl) (uu:(backTo pos (starEach es X.env)).any (·.1)=false:=by rfl) :
  PE X (.Call (.Name x p) (e::es) [] pos) (Pl Pt cz q sp psL.length tl idx t):=by
 intro pins s σ H Q I h;refine wpAny_Call_Name_kw (Lb I hg hm ?_ jf);refine PySem.W.callWith_K (h₀:=X.base) I.ok.mod.CZ hk (dC (ha pos pins s σ H _ I h) λus s1 zq=>?_) he uu;obtain⟨vs,Af,fl,c',pm,ct,o,H1,H2,e0,r,I2,sm,e1,e2,e3,e4,e5,hQ⟩:=zq;refine⟨I2.kg,?_⟩;subst e0;generalize qh:kG X.env scope.names []=cl at *
 have BE:=S.cells I2;have Oa:∀{y:Str} {d:Addr},cl.lookup y=some d->X.env.cells.lookup y=some d:=λ{y d} z=>lI BE (by rw[qh];exact z)
 have MJ:∀{y:Str} {d:Addr},(y,NameKind.free)∈scope.names->X.env.cells.lookup y=some d->cl.lookup y=some d:=λ{y d} h1 h2=>by rw[<-qh];exact rR BE h1 h2
 have Vk:∀{y:Str} {d:Addr},cl.lookup y=some d->d∈fl::cl.map (·.2):=λ{y d} z=>ki _ (fZ.mpr ⟨(y,d),PySem.mem_of_lookup z,rfl⟩)
 have Hx:∀d,d∈cl.map (·.2)->∃y,X.env.cells.lookup y=some d:=λd z=>by
  obtain⟨⟨y,d'⟩,hm,e⟩:=fZ.mp z;have e':d'=d:=e;subst e';rw[<-qh] at hm;rcases xQ _ _ BE hm with q|q
  ·cases q
  ·exact⟨y,q⟩
 have Iw:∀b u,X.base.get? b=some u->(Bc X.base s1.heap (fl::cl.map (·.2))).get? b=some u:=λb u z=>rY (I2.bk b u z) (.inl ⟨u,z⟩);have Ir:∀b∈mh X.stack,b∉fl::cl.map (·.2):=λb hb z=>by
  rcases lC.mp z with rfl|z
  ·exact e5 hb
  ·obtain⟨y,hy⟩:=Hx b z;rcases lC.mp (I2.G0 b hb) with q|q
   ·exact I2.B6 y b hy q
   ·obtain⟨_,ob,eo,_⟩:=I2.ok.uO.mem q;exact absurd (qI (iB eo) (I2.ok.B7 y b (yn y) hy)) (rm _)
 have GF:AF X.prog X.w X.K X.mg (Bc X.base s1.heap (fl::cl.map (·.2))) X.A X.stack s1 H2:=by
  refine⟨I2.ok.frames,I2.ok.mod.keeps Iw,λb u z=>?_,G5 (PySem.W.hideAll_size _ _),aH9 I2.stack Ir,I2.Ld,I2.bc,I2.bare⟩;obtain⟨z1,z2⟩:=Zd z;refine⟨z1,?_⟩;rcases z2 with ⟨u',z2⟩|z2
  ·exact(I2.bs b u' z2).2
  ·rcases lC.mp z2 with rfl|z2
   ·exact e3
   ·obtain⟨y,hy⟩:=Hx b z2;exact I2.df y b hy
 have Uh:Oe (Bc X.base s1.heap (fl::cl.map (·.2))) scope N psL cl (idx.map λj=>(σ[j]?).join):=by
  refine⟨S.kind,Ny,D4,S.fc,sf,S.nd,by rw[bX];exact S.len,λy hy=>?_,λy z d h1 h2=>I2.ok.inj y z d (Oa h1) (Oa h2),λy hy=>?_,λy d hy=>?_,λi y v h1 h2=>?_⟩
  ·have:=DG.mp DZ y hy;simpa using this
  ·have mj:=PySem.mem_of_lookup hy;obtain⟨d,hd⟩:=BE _ mj rfl;exact⟨d,MJ mj hd⟩
  ·obtain⟨v,oc,eo,ed⟩:=I2.cell y d (Oa hy);exact⟨oc,v,rY eo (.inr (Vk hy)),ed⟩
  ·obtain⟨j,z1,z2,z3⟩:=S.bz i y h1;refine⟨z3,?_⟩;rw[kQ,z1] at h2;have JK:(σ[j]?).join=some v:=Option.some.inj h2;have rj:σ[j]?=some (some v):=by
    cases qj:σ[j]? with
    |none=>rw[qj] at JK;cases JK
    |some w=>rw[qj] at JK;rw[show w=some v from JK]
   have iu:=PySem.mem_of_lookup z3;have vm:=S.free _ iu rfl;obtain⟨m0,hn0,VB⟩:=I2.loc;obtain⟨u,ru,l⟩:=VB j y v z2 rj (by rcases vm with z|z;exact .inr (.inl z);exact .inr (.inr z));rcases l with ⟨z,_⟩|⟨_,d,ed,oc,eo,dd⟩
   ·rcases vm with w|w
    ·rw[w] at z;cases z
    ·rw[w] at z;cases z
   ·exact⟨u,d,oc,ru,MJ iu ed,rY eo (.inr (Vk (MJ iu ed))),dd⟩
 have Te:=aQA (P:=X.prog) (w:=X.w) (K:=X.K) (mg:=X.mg) (N:=N) (ps:=psL) (rY e1 (.inr oj)) e2 Uh (fq _ fl c' cl);have hC:CB X.prog X.w X.K X.mg (Bc X.base s1.heap (fl::cl.map (·.2))) (kc+1) fl (Ky c' q psL.length tl (idx.map λj=>(σ[j]?).join)):=
  ⟨o,_,psL,rY e1 (.inr oj),e2,Te,λs us hl=>.of_eq (mz cl pm (.ref c') ct us hl)⟩
 have je:=hQ fl c' H2 _ sm e4 hC;have r2:Vals (vs ++ [.ref fl]) (Af ++ [.ref fl]):=r.append (.cons rfl .nil);have hl:(Af ++ [Value.ref fl]).length=ps.length:=by rw[<-r2.length];exact(F _).len _ _ _ _ je
 have Aw:=hb s1 (Af ++ [.ref fl]) I2.kg (by rw[pz];exact hl);rw[pz] at Aw;refine wpAny_call (codeAny_mono ((F _).run X.A X.stack s1 H2 ⟨Af ++ [.ref fl],[]⟩ (Af ++ [.ref fl]) (vs ++ [.ref fl]) Q E0 hr GF Aw r2 je) λr s' hq=>?_);cases r with
 |error e=>exact False.elim hq
 |ok fl=>
  cases fl with
  |ret u=>exact I2.after hq
  |next=>exact False.elim hq
  |brk=>exact False.elim hq
  |cont=>exact False.elim hq
def Kz(C:Addr->Sp->Prop)(i:Nat)(t:TA):TE:=λσ H Q=>∃f sp,σ[i]?=some (some (.ref f))/\C f sp/\t σ H λvs H1=>sp vs H1 Q E0
theorem Qc{i k:Nat}(hN:X.N[i]?=some x)(hv:Dy X.env.scope x)(hr:eK k X.A)(ha:PA X (e::es) t)(hd:(x == ("__debug__" : Str))=false:=by decide)(mv:(x == ("__classdict__" : Str))=false:=by decide)(he:starEach (e::es) X.env=(false,eval e X.env)::starEach es X.env:=by rfl)(uu:(backTo pos (starEach es X.env)).any (·.1)=false:=by rfl) :
  PE X (.Call (.Name x p) (e::es) [] pos) (Kz (CB X.prog X.w X.K X.mg X.base k) i t):=by
 intro pins s σ H Q I h;obtain⟨f,sp,ei,hC,ht⟩:=h;obtain⟨o,fd,ps,ef,ed,F,hb⟩:=hC.ex;refine wpAny_Call_Name_kw (dC (YF hN hv hd mv pins s σ H (λv H'=>v=.ref f/\H'=H) I ⟨_,ei,rfl,rfl⟩) λu s0 ⟨v,H0,I0,rv,hvf,hH0⟩=>?_);subst hvf hH0;obtain rfl:u=Value.ref f:=rv;have uv:∀{ou σ' H' s'},Inv X ou σ' H' s'->W.Frag.In [(f,o)] s'.heap:=λ{ou σ' H' s'} J a u z=>by
  rw[qu] at z;split at z
  ·rename_i hb;cases z;rw[eq_of_beq hb];exact J.bk _ _ ef
  ·cases z
 have hkp:W.keepIn [(f,o)] (.ref f)=true:=by
  obtain⟨oc,od,odt,xi⟩:=o;have:odt=.func fd:=ed;subst this;have z:List.lookup f [(f,({ cls:=oc,dict:=od,data:=.func fd,slots:=xi }:Obj))]=some { cls:=oc,dict:=od,data:=.func fd,slots:=xi }:=by rw[qu,beq_self_eq_true]
  unfold W.keepIn;dsimp only;rw[z]
 refine PySem.W.callWith_K (h₀:=s0.heap) (uv I0) hkp (dC (ha pos pins s0 σ H0 _ I0 ht) λus s1 zq=>?_) he uu;obtain⟨vs,H1,I1,r,q⟩:=zq;refine⟨uv I1,?_⟩;have hl:us.length=ps.length:=by rw[<-r.length];exact F.len _ _ _ _ q
 refine wpAny_call (codeAny_mono (F.run X.A X.stack s1 H1 ⟨us,[]⟩ us vs Q E0 hr I1.GF (hb s1 us hl) r q) λr s' hq=>?_);cases r with
 |error e=>exact False.elim hq
 |ok fl=>
  cases fl with
  |ret u=>exact I1.after hq
  |next=>exact False.elim hq
  |brk=>exact False.elim hq
  |cont=>exact False.elim hq
end
structure XG(K:W.Frag)(fd:FuncData)(c Pt:Addr):Prop where
 code:fd.code=.ref c
 hd:PySem.W.codeHdIn K c Pt=true
theorem Bs.okC{P:Program}{w:World}{K:W.Frag}{mg:Str->ay}{base:Heap}{x qual:Str}{st:Stmt}{f c Pt:Addr}{fd:FuncData}{N ps:ak}{k:Nat}{sp:Sp}(F:Bs K x qual st f fd)(hc:XG K fd c Pt)(S:aX N ps (aL st))(len:∀vs H Q E,sp vs H Q E->vs.length=ps.length)
  (fq:∀(A:Around) (outer:List Env) (s:Shared) (H:Hp) (vs:List V) (Q:VK) (E:XK),eK k (A.deeper (envOfC qual (aL st) s.heap.objs.size f (.ref c)))->sp vs H Q E->
   ∃t,tf (Du eY P w K mg base N qual (aL st) f (.ref c) A outer s H E).Eo (jY st) t/\t { nx:=λ_ H'=>Q .bt H',rt:=Q } (start N vs) H):bT P w K mg base eY (k+1) f fd ps sp:=by
 obtain⟨oc,od,kV,doc,pm,an,bj,ct,xi,rfl,lk,mv⟩:=F.ex;obtain rfl:bj=.ref c:=hc.code;refine X6 lk mv S len λA outer s H vs Q E hr je=>?_;obtain⟨t,h,q⟩:=fq A outer s H vs Q E hr je;exact⟨t,h.Eo,q⟩
theorem aEI{β:Type}{p:β}:∀{l:List (Addr×β)},l.lookup b=some p->(b,p)∈l
 |[],h=>by cases h
 |(d,x)::r,h=>by
  rw[qu] at h;cases hb:b == d with
  |true=>rw[hb] at h;cases h;rw[eq_of_beq hb];exact .head _
  |false=>rw[hb] at h;exact .tail _ (aEI h)
theorem aKc{K:PySem.W.Frag}{mg mb:Str->ay}{k:Nat}{sp:Sp}{az:Shared}{vs:ah}{ns:ae}{tabs:List (Addr×Pos×Str)}(KX:K.In az.heap)(A0:az.heap.Ns mainGlobals mg)(hb:az.heap.Ns builtinsNs mb)(Au:∀x:Str,x≠"__name__"->mb x=bootBuiltins x)(D1:az.heap.NoLimit)(Nz:∃bm o,mg "__builtins__" = some (.ref bm)/\bm≠builtinsNs/\az.heap.get? bm=some o/\o.cls=.type "module"/\o.dict=some builtinsNs/\o.data=.plain)(hg:az.gens = #[])(ha:az.heap.get? a=some { cls:=.type "list",data:=.seq vs.toArray })(hi:IntsAre vs ns)(hl:ns.length<=sizeLine)(hr:eK k callerA)(hT:∀t∈tabs,az.heap.get? t.1=some { cls:=.none,data:=.fields #[] }/\K.lookup t.1=none/\∃c,PySem.W.codeHdIn K c t.1=true)(xn:(tabs.map (·.1)).Nodup)(F:∀base:Heap,K.In base->base.Ns mainGlobals mg->bT P w K mg base eY k fa fd [x] sp)(mz:∀(s:Shared) (u:Value),BindsTo s fd ⟨[u],[]⟩ [(x,u)])(je:∀H:Hp,(∀t∈tabs,H t.1=some (.pq t.2.1 t.2.2))->bR K H a (ns.map V.int)->sp [.ref a] H (λv H'=>v=.bl true/\aO H H') λ_ _ _=>False) :
  codeAny (model P w) callerA (.call (.ref fa) ⟨[.ref a],[]⟩) (λr s'=>r=.ok (.ret (.bool true))/\OldK az.heap s'.heap/\s'.os=az.os/\AllBare s'.gens) az:=by
 have rv:=Qn hi;have zl:=hi.length;have core:∀H:Hp,bR K H a (ns.map V.int)->o9 P w H az.heap->(∀t∈tabs,H t.1=some (.pq t.2.1 t.2.2))->(∀b u,H b=some u->(b=a/\K.lookup a=none/\∃o xs,u=.bu o (.lst xs))\/∃t∈tabs,b=t.1/\u=.pq t.2.1 t.2.2)->
   codeAny (model P w) callerA (.call (.ref fa) ⟨[.ref a],[]⟩) (λr s'=>r=.ok (.ret (.bool true))/\OldK az.heap s'.heap/\s'.os=az.os/\AllBare s'.gens) az:=by
  intro H hS bc hTH hA;have fe:∀{b:Addr} {o:Obj},az.heap.get? b=some o->H b=none->(uN az.heap H).get? b=some o:=λe n=>ZI e n;have yj:∀{b:Addr} {o:Obj} {es:Array DictEntry} {ep:Nat},az.heap.get? b=some o->o.data=.dict es ep->H b=none:=λ{b o es ep} e d=>by
   cases q:H b with
   |none=>rfl
   |some u=>
    rcases hA b u q with ⟨e',_⟩|⟨t,ht,e',_⟩
    ·subst e';rw[ha] at e;cases e;have d':Data.seq vs.toArray _=Data.dict es ep:=d;cases d'
    ·rw[e',(hT t ht).1] at e;cases e;have d':Data.fields _=Data.dict es ep:=d;cases d'
  have AX:∀{b:Addr} {m:Str->ay},az.heap.Ns b m->(uN az.heap H).Ns b m:=λ{b m} ⟨o,es,ep,e,d,r⟩=>⟨o,es,ep,fe e (yj e d),d,r⟩
  have Gm:K.In (uN az.heap H):=λb o e=>fe (KX b o e) (by
   cases q:H b with
   |none=>rfl
   |some u=>
    rcases hA b u q with ⟨e',hn,_⟩|⟨t,ht,e',_⟩
    ·rw[e',hn] at e;cases e
    ·rw[e',(hT t ht).2.1] at e;cases e)
  have D6:∃bm o,mg "__builtins__" = some (.ref bm)/\bm≠builtinsNs/\(uN az.heap H).get? bm=some o/\o.cls=.type "module"/\o.dict=some builtinsNs/\o.data=.plain:=by
   obtain⟨bm,ob,b1,b2,b3,b4,b5,b6⟩:=Nz;refine⟨bm,ob,b1,b2,fe b3 ?_,b4,b5,b6⟩;cases q:H bm with
   |none=>rfl
   |some u=>
    rcases hA bm u q with ⟨e',_⟩|⟨t,ht,e',_⟩
    ·rw[e',ha] at b3;cases b3;exact absurd (show Value.type "list" = Value.type "module" from b4) (by decide)
    ·rw[e',(hT t ht).1] at b3;cases b3;exact absurd (show Value.none=Value.type "module" from b4) (by decide)
  have hM:Mod K mg (uN az.heap H):=⟨Gm,AX A0,⟨mb,AX hb,Au⟩,(let ⟨mc,h1,h2⟩:=D1;⟨mc,AX h1,h2⟩),D6⟩
  have e0:AF P w K mg (uN az.heap H) callerA [] az H:=⟨rfl,hM,λb o e=>Za e,G5 (aEk _ _),trivial,λb hb=>absurd (show b∈([]:au) from hb) (by simp),bc,.of_eq hg⟩
  refine codeAny_mono ((F _ Gm (AX A0)).run callerA [] az H ⟨[.ref a],[]⟩ [.ref a] [.ref a] _ _ hr e0 (mz az (.ref a)) (.cons rfl .nil) (je H hTH hS)) λr s' h=>?_;cases r with
  |error e=>exact False.elim h
  |ok fl=>
   cases fl with
   |next=>exact False.elim h
   |brk=>exact False.elim h
   |cont=>exact False.elim h
   |ret u=>
    obtain⟨v,H',os,bare,un,BB,r',q,sm⟩:=h;have q':v=.bl true:=q;subst q';obtain rfl:u=Value.bool true:=r';have key:∀b o,az.heap.get? b=some o->s'.heap.get? b=some o\/∃c ps,PySem.W.codeHdIn K c b=true/\o={ cls:=.none,data:=.fields #[] }/\s'.heap.get? b=some { cls:=.none,data:=.fields ps }:=λb o e=>by
     cases q:H b with
     |none=>exact .inl (un.keep b o e q (by intro z;exact absurd (show b∈([]:au) from z) (by simp)) (by simp))
     |some u=>
      rcases hA b u q with ⟨_,_,ob,xs,rfl⟩|⟨t,ht,e',rfl⟩
      ·have z2:=un.dm b ob _ q;obtain⟨e1,_⟩:=bc b _ q;obtain⟨e2,_⟩:=BB b _ z2;rw[e] at e1;cases e1;exact .inl e2
      ·obtain⟨ps,z,_⟩:=BB b _ (sm b _ q);obtain⟨h1,_,c,hc⟩:=hT t ht;rw[<-e'] at h1 hc;rw[e] at h1;exact .inr ⟨c,ps,hc,Option.some.inj h1,z⟩
    refine⟨rfl,⟨λb o e=>?_,λb o e=>?_⟩,os,bare⟩
    ·rcases key b o e with z|⟨c,ps,hc,rfl,z⟩
     ·exact .inl z
     ·refine .inr (.inl ⟨?_,rfl,#[],ps,rfl,?_⟩)
      ·obtain⟨oc,vs,_,_,_,_,_,_,_,f1,f2,f3,f4,_⟩:=PySem.W.codeHd_of_K KX hc;exact⟨c,oc,vs,f1,f2,f3,f4⟩
      ·rw[z];simp
    ·rcases key b o e with z|⟨c,ps,hc,rfl,z⟩
     ·exact⟨_,z⟩
     ·exact⟨_,z⟩
 have U7:∀t∈tabs,tabs.lookup t.1=some t.2:=by
  clear hT je core;induction tabs with
  |nil=>intro t h;cases h
  |cons q r ih=>
   intro t ht;rw[qu];rcases lC.mp ht with rfl|ht
   ·rw[beq_self_eq_true]
   ·have ne:t.1≠q.1:=λz=>(ug.mp xn).1 (fZ.mpr ⟨t,ht,z⟩);rw[beq_eq_false_iff_ne.mpr ne];exact ih (ug.mp xn).2 t ht
 have Bw:∀{b:Addr} {p:Pos×Str},tabs.lookup b=some p->(b,p)∈tabs:=λ{b p} h=>aEI h
 have naT:∀t∈tabs,t.1≠a:=λt ht z=>by
  have:=(hT t ht).1;rw[z,ha] at this;cases this
 have UY:∀(H:Hp) (t:Addr×Pos×Str),t∈tabs->bS P w H az.heap t.1 (.pq t.2.1 t.2.2):=λH t ht=>⟨#[],(hT t ht).1,trivial,.inl rfl⟩
 cases hk:K.lookup a with
 |some o=>
  have e:=KX a o hk;rw[ha] at e;cases e;refine core (λb=>(tabs.lookup b).map λp=>.pq p.1 p.2) (.inr ⟨_,vs.toArray,_,hk,rfl,rfl,rfl,by rw[iR,zl];exact hl,by simpa using rv⟩) (λb u z=>?_) (λt ht=>?_) λb u z=>?_
  ·obtain⟨p,hp,rfl⟩:=kl.mp z;exact UY _ _ (Bw hp)
  ·show(tabs.lookup t.1).map _=_;rw[U7 t ht];rfl
  ·obtain⟨p,hp,rfl⟩:=kl.mp z;exact .inr ⟨_,Bw hp,rfl,rfl⟩
 |none=>
  refine core (λb=>if b=a then some (.bu { cls:=.type "list",data:=.seq vs.toArray } (.lst (ns.map V.int))) else (tabs.lookup b).map λp=>.pq p.1 p.2) (.inl (.inr ⟨{ cls:=.type "list",data:=.seq vs.toArray },cO rfl⟩)) (λb u z=>?_) (λt ht=>?_) λb u z=>?_
  ·by_cases hb:b=a
   ·have z':=(cO hb).symm.trans z;cases z';subst hb;exact⟨ha,by rw[bX];exact hl,vs,_,rv,ha⟩
   ·have z':=(bZ hb).symm.trans z;obtain⟨p,hp,rfl⟩:=kl.mp z';exact UY _ _ (Bw hp)
  ·show(if t.1=a then _ else (tabs.lookup t.1).map _)=_;rw[bZ (naT t ht),U7 t ht];rfl
  ·by_cases hb:b=a
   ·have z':=(cO hb).symm.trans z;cases z';exact .inl ⟨hb,hk,_,_,rfl⟩
   ·have z':=(bZ hb).symm.trans z;obtain⟨p,hp,rfl⟩:=kl.mp z';exact .inr ⟨_,Bw hp,rfl,rfl⟩
theorem aL3{l:PySem.W.OpenLaw}{n k:Nat}{XP:(Str->ay)->Heap->Prop}{YP:World->Heap->Prop}{d:DefRec}{K:Params->W.Frag}{sp:World->Sp}{tabs:List (Addr×Pos×Str)}(hn:l.most=some n)(rg:n<=sizeLine)(Gh:d.params.defaults=[])(hr:eK k callerA)(xn:(tabs.map (·.1)).Nodup)(hY:∀(w:World) (h:Heap),YP w h->(K w.params).In h/\∀t∈tabs,h.get? t.1=some { cls:=.none,data:=.fields #[] })(hK:∀(w:World),∀t∈tabs,(K w.params).lookup t.1=none)(F:∀(w:World) (mg:Str->ay) (fa:Addr) (h:Heap),(K w.params).In h->h.Ns mainGlobals mg->mg d.name=some (.ref fa)->(∀t∈tabs,∃c,PySem.W.codeHdIn (K w.params) c t.1=true)/\
   ∃fd:FuncData,(∀(s:Shared) (u:Value),BindsTo s fd ⟨[u],[]⟩ [(x,u)])/\
    ∀base:Heap,(K w.params).In base->base.Ns mainGlobals mg->bT l.prog w (K w.params) mg base eY k fa fd [x] (sp w)) (je:∀(w:World) (H:Hp) (a:Addr) (ns:ae),ns.length<=n->(∀t∈tabs,H t.1=some (.pq t.2.1 t.2.2))->bR (K w.params) H a (ns.map V.int)->sp w [.ref a] H (λv H'=>v=.bl true/\aO H H') λ_ _ _=>False) :
  PySem.W.WalkO q loose XP YP l.row.toRowW d [] (λf vs=>PySem.call f vs):=by
 refine Att.aGq hn Gh λw cq az mg mb fa o pm cd doc a vs ns G Y ho hd mv Gb D0 hints hlen hg=>?_;obtain⟨KX,hT⟩:=hY w _ Y;obtain⟨TM,fd,hb,hF⟩:=F w mg fa _ KX G.T.g Gb;exact aKc KX G.T.g G.T.b G.T.builtins G.T.nolimit G.T.bmain hg D0 hints (kr hlen rg) hr (λt ht=>⟨hT t ht,hK w t ht,TM t ht⟩) xn hF hb (λH hO hS=>je w H a ns hlen hO hS)
section
variable{X:Cx}{σ:St}{H:Hp}{Q:VK}
theorem aL4{sp:(Addr->Sp->Prop)->Sp}{n:Nat}{idx:List Nat}(h:t σ H λvs H1=>H1 Pt=some (.pq cz q)/\
  ∀(f c':Addr) (H2:Hp) (C:Addr->Sp->Prop),aO H1 H2->H2 c'=some (.xv q)->C f (Ky c' q n tl (idx.map λj=>(σ[j]?).join))->sp C (vs ++ [.ref f]) H2 Q E0):Pl Pt cz q sp n tl idx t σ H Q:=h
theorem aL5{C:Addr->Sp->Prop}{i:Nat}(e:σ[i]?=some (some (.ref f)))(hC:C f sp)(h:t σ H λvs H1=>sp vs H1 Q E0):Kz C i t σ H Q:=⟨f,sp,e,hC,h⟩
end
end L2
namespace L2.Z
open PySem PySem.Spec PyProof.Rows L2
section
variable{X:Cx}{c Pt:Addr}{q:Str}{params:Arguments}{body:Expr}{scope:Scope}{pos cz:Pos}{cl:List (Str×Addr)}
structure LW(X:Cx)(es:List Expr)(params:Arguments)(body:Expr)(scope:Scope)(cz:Pos)(Pt:Addr)(q:Str)(cl:List (Str×Addr))(t:TA):Prop where
 h:Hi X es params body scope cz Pt q cl t
theorem aIb(pb:X.env.code=.ref c)(hC:PySem.W.codeHdIn X.K c Pt=true)(hq:X.env.qual ++ "<lambda>" = q)(zr:defaultsOf params X.env=([],[])){n:Nat}{idx:List Nat}(S:eU X scope N n idx) :
  LW X [.Lambda params body scope cz] params body scope cz Pt q (kG X.env scope.names []) kR:=⟨aL0 pb hC hq zr S⟩
theorem aIc(ha:QE X e te)(hr:LW X es params body scope cz Pt q cl t)(hn:noStar e=true:=by rfl):LW X (e::es) params body scope cz Pt q cl (bN te t):=
 ⟨aL1 ha.h hr.h (bO hn)⟩
theorem aGS{psL N:ak}{idx:List Nat}{sp:(Addr->Sp->Prop)->Sp}{k kc:Nat}(F:∀cv:Heap,bT X.prog X.w X.K X.mg cv eY k f fd ps (sp (CB X.prog X.w X.K X.mg cv (kc+1))))(hr:eK k X.A)(hg:Gl X x)(hm:X.mg x=some (.ref f))(hk:PySem.W.keepIn X.K (.ref f)=true)(hb:Binds X.K fd ps [])(yn:∀y,X.fn y=true)(S:eU X scope N psL.length idx)(sf:N.take psL.length=psL)(DZ:psL.all (λx=>scope.names.lookup x == some .local)=true)(Ny:scope.isCoroutine=false)(D4:scope.isGenerator=false)(mz:∀(cl:List (Str×Addr)) (pm cd ct:Value) (us:ah),us.length=psL.length->bindArgs (E8 q params body scope cl pm cd ct) ⟨us,[]⟩=pure (psL.zip us))(ha:LW X (e::es) params body scope cz Pt q (kG X.env scope.names []) t)(fq:∀(cv:Heap) (f' c':Addr) (cl:List (Str×Addr)) (A:Around) (outer:List Env) (s:Shared) (H:Hp),eK kc (A.deeper (rX q scope s.heap.objs.size f' (.ref c') cl))->(A.deeper (rX q scope s.heap.objs.size f' (.ref c') cl)).units+9 < cLine->QE (Gy X.prog X.w X.K X.mg cv N q scope f' (.ref c') cl A outer s H) body tl)(hn:(e::es).all noStar=true:=by rfl)(jf:(x == ("__debug__" : Str))=false:=by decide) :
  QE X (.Call (.Name x p) (e::es) [] pos) (Pl Pt cz q sp psL.length tl idx t):=
 ⟨L2.aL2 F hr hg hm hk hb yn S sf DZ Ny D4 mz ha.h (λcv f' c' cl A outer s H Vv=>(fq cv f' c' cl A outer s H Vv (gM Vv)).h) jf (bO (gY hn).1) (iU (gY hn).2)⟩
theorem Qc{i k:Nat}(hr:eK k X.A)(ha:QA X (e::es) t)(hN:X.N[i]?=some x:=by rfl)(hv:Dy X.env.scope x:=by first|exact Or.inl rfl|exact Or.inr (Or.inl rfl)|exact Or.inr (Or.inr rfl))(hn:(e::es).all noStar=true:=by rfl)(hd:(x == ("__debug__" : Str))=false:=by decide)(mv:(x == ("__classdict__" : Str))=false:=by decide) :
  QE X (.Call (.Name x p) (e::es) [] pos) (Kz (CB X.prog X.w X.K X.mg X.base k) i t):=⟨L2.Qc hN hv hr ha.h hd mv (bO (gY hn).1) (iU (gY hn).2)⟩
end
end L2.Z
namespace PySem
set_option maxRecDepth 100000
namespace F
theorem aIe:typeLookup (.type "list_reverseiterator") "__len__" = pure none:=by rw[typeLookup_type,builtinLookup_eq_fast];kernel_rfl
theorem aL6:typeLookup (.type "list_reverseiterator") "__length_hint__" = pure (some (.builtin "list_reverseiterator.__length_hint__")):=by rw[typeLookup_type,builtinLookup_eq_fast];kernel_rfl
end F
section
variable{prog:Program}{w:World}{A:Around}{E:aj}{s:Shared}
theorem aCx{i:Int}{Q:Bool->Shared->Prop}(hit:s.heap.IsRevIter it l i)(h:Q false s):wpAny (model prog w) A (Builtin.List.listLengthHint (.ref it)) Q E s:=by
 unfold Builtin.List.listLengthHint;refine bG (wpAny_specialOf hit.typeIs F.aIe ?_);show wpAny _ A (specialOf (Value.ref it) (Str.ofString "__length_hint__") >>= _) _ _ _;refine bG (wpAny_specialOf hit.typeIs F.aL6 ?_);generalize VF:("list_reverseiterator.__length_hint__" : String)=id0
 wp_delta
 rw[show splitId id0=some ("list_reverseiterator","__length_hint__") from by subst VF;decide +kernel];subst VF;refine bG (wpAny_isInstance (T:="list_reverseiterator") (b:=true) hit.typeIs (by rw[isSubtype_type];kernel_rfl) ?_);exact wpAny_ite_split (λz=>absurd z (by decide)) λ_=>wpAny_ite_split (λ_=>wpAny_ite_split (λz=>absurd z (by decide +kernel)) λ_=>cM h) λz=>absurd (by decide +kernel) z
theorem aAy{R:Result->Shared->Prop}{items:Array Value}(hh:A.handled=none)(hit:s.heap.IsRevIter it l ((items.size:Int) - 1))(hl:s.heap.IsList l items)(bw:l≠it)(hlen:items.size<=sizeLine)(S:Addr)(res:Value)(c₀:Nat)(hS:s.heap.get? S=some { cls:=.type "list",data:=.seq #[] c₀ })(hSl:S≠l)(VT:S≠it)(hR:∀h' tk fb c',(∀b o,b≠S->b≠it->s.heap.get? b=some o->h'.get? b=some o)->h'.get? S=some { cls:=.type "list",dict:=none,data:=.seq fb c',slots:=#[] }->
   ItemsOf (λi v=>items[items.size - 1 - i]?=some v) fb items.size->R (.ok (.ret res)) { s with heap:=h',toks:=tk }) :
  wpAny (model prog w) A.in1 (Builtin.List.listExtendWith (.ref S) (.ref it) res) (λfin s'=>match fin with|.done f=>R (.ok f) s'|.again k=>k.quiet=true/\codeAny (model prog w) A k R s') (λe s'=>R (.error e) s') s:=by
 have hSf:S∉[it,l]:=by simp[VT,hSl]
 have W:=(Walks.listRev (prog:=prog) (w:=w) (A:=A.in1) hh it l bw items).toS;unfold Builtin.List.listExtendWith;refine bG (wpAny_typeOf (T:="list_reverseiterator") hit.typeIs ?_);have h1:Builtin.List.listSameRef (.ref S) (.ref it)=false:=by simp[Builtin.List.listSameRef,VT]
 have h2:(Value.type "list_reverseiterator" == Value.type "list")=false:=by decide
 have h3:(Value.type "list_reverseiterator" == Value.type "tuple")=false:=by decide
 simp only[h1,h2,h3,AN,Bool.or_false,if_false];refine bG (wpAny_pyIter_revIter hit (bG (AM (aCx hit ?_))));refine wpAny_ite_split (λz=>by cases z) (λ_=>cM ⟨plainId_quiet F.plain_extend_loop _,?_⟩);refine codeAny_extend_loopS W hlen S hSf res items.size 0 _ #[] c₀ rfl (ko _) ⟨ko _,?_,hl⟩ hS (ItemsOf.nil _) λs' fb c' hm NL qf=>?_
 ·rw[show(items.size:Int) - 1 - ((0:Nat):Int)=(items.size:Int) - 1 by lia];exact hit
 ·rw[Moved.eq_with hm];exact hR s'.heap s'.toks fb c' (λb o hb hi e=>hm.heap b o (by simp[hb,hi]) e) NL qf
theorem aDG{Q:aj}{items:Array Value}(hh:A.handled=none)(hit:s.heap.IsRevIter it l ((items.size:Int) - 1))(hl:s.heap.IsList l items)(bw:l≠it)(hlen:items.size<=sizeLine)(hQ:∀h' tk fb c',(∀b o,b≠it->s.heap.get? b=some o->h'.get? b=some o)->
   h'.get? s.heap.objs.size=some { cls:=.type "list",dict:=none,data:=.seq fb c',slots:=#[] }->ItemsOf (λi v=>items[items.size - 1 - i]?=some v) fb items.size->Q (.ref s.heap.objs.size) { s with heap:=h',toks:=tk }) :
  wpAny (model prog w) A (call (.type "list") [.ref it]) Q E s:=by
 have lit:it < s.heap.objs.size:=let ⟨_,e,_⟩:=hit;iB e
 have ll:l < s.heap.objs.size:=let ⟨_,e,_⟩:=hl;iB e
 have hS:(s.heap.push { cls:=.type "list",data:=.seq #[] }).get? s.heap.objs.size=some { cls:=.type "list",data:=.seq #[] }:=by exact lA _ rfl
 have IE:=G9 (Obj.mapSeq λ_=>(#[]:Array Value)) hS rfl;have old:∀b o,s.heap.get? b=some o->((s.heap.push { cls:=.type "list",data:=.seq #[] }).update s.heap.objs.size (Obj.mapSeq λ_=>(#[]:Array Value))).get? b=some o:=
  λb o e=>(QD _ _ (wg (iB e))).trans (eG _ e)
 refine callType_codes (Q₁:=λx t=>x=.ref s.heap.objs.size/\t={ s with heap:=s.heap.push { cls:=.type "list",data:=.seq #[] } }) F.called_list (F.typeCall_list_1 _) F.entry_list_init (code_list_new _ ⟨rfl,rfl⟩) ?_;rintro x t ⟨rfl,rfl⟩;refine⟨⟨_,hS,rfl⟩,F.args_list_init_2 _ _,?_⟩;show wpAny _ _ (Builtin.List.listItems (.ref s.heap.objs.size) >>= λold=>Builtin.List.listUpdate (.ref s.heap.objs.size) (λ_=>#[]) >>= λ_=>letGo old.toList.reverse >>= λ_=>Builtin.List.listExtendWith (.ref s.heap.objs.size) (.ref it) .none) _ _ _;refine bG (wpAny_listItems hS rfl ?_);show wpAny _ _ (updateSeq s.heap.objs.size (λ_=>#[]) >>= λ_=>letGo (#[]:Array Value).toList.reverse >>= λ_=>Builtin.List.listExtendWith (.ref s.heap.objs.size) (.ref it) .none) _ _ _;refine bG (wpAny_updateSeq hS rfl (bG (wpAny_letGo (aAy (A:=A.in1) hh (hit.at λo e=>old _ _ e) (hl.at λo e=>old _ _ e) bw hlen s.heap.objs.size .none _ IE (wg ll) (wg lit) λh' tk fb c' hk NL qf=>?_))))
 exact⟨rfl,hQ h' tk fb c' (λb o hb e=>hk b o (oH (iB e)) hb (old b o e)) NL qf⟩
end
end PySem
namespace L2
open PySem PySem.Spec PyProof.Rows
section
variable{X:Cx}
def Qb(t:TA):TE:=λσ H Q=>t σ H λvs H1=>∃l xs,vs=[.ref l]/\H1 l=some (.lst xs)/\∀q,H1 q=none->Q (.ref q) (upd H1 q (.lst xs.reverse))
theorem aL7{xs:List V}{us:ah}(r:Vals xs us):Vals xs.reverse us.reverse:=by
 induction r with
 |nil=>exact .nil
 |cons h t ih=>
  simp only[List.reverse_cons];exact ih.append (.cons h .nil)
theorem aIf(hc:X.calm=true)(Nu:Gl X "list")(C8:X.mg "list" = none)(Nt:Gl X "reversed")(Nj:X.mg "reversed" = none)(he:PA X [e] t)(hn:noStar e=true:=by rfl) :
  PE X (.Call (.Name "list" p1) [.Call (.Name "reversed" p2) [e] [] Ho] [] SV) (Qb t):=by
 intro pins s σ H Q I h;refine Call_ (lV I Nu C8 iS (PyProof.Rows.callWith_type1 (Calls.spliced_cons ?_) rfl rfl));refine Call_ (lV I Nt Nj boot_reversed (PyProof.Rows.callWith_type1 (dC (he Ho pins s σ H _ I h) λus s1 zq=>?_) (bO hn) rfl));obtain⟨vs,H1,I1,r1,l,xs,ex,hl,q⟩:=zq;subst ex;obtain⟨u,rfl,ru⟩:=vals1 r1;obtain rfl:u=Value.ref l:=ru;obtain⟨hz,its,n,rv,eo⟩:=I1.bc l _ hl;have IA:s1.heap.IsList l its.toArray:=⟨_,eo,rfl,n,rfl⟩
 refine call_reversed_list IA (Calls.spliced_nil ?_);have Nl:l < s1.heap.objs.size:=iB eo;refine aDG (it:=s1.heap.objs.size) (l:=l) (items:=its.toArray) (I.ok.hd hc) ⟨_,lA _ rfl,rfl,rfl⟩ ⟨_,eG _ eo,rfl,n,rfl⟩ (oH Nl) (by rw[iR,<-rv.length];exact hz) λh' tk fb c' hk hS ha=>?_;have Ua:fb.toList=its.reverse:=by
  obtain⟨h1,h2⟩:=ha;refine List.ext_getElem? λi=>?_;by_cases hi:i < fb.size
  ·have e1:fb[i]?=some fb[i]:=LJ hi;have e2:=h2 i _ e1;rw[Qz,e1,List.getElem?_reverse (by rw[h1,iR] at hi;exact hi)];rw[<-e2,iR,List.getElem?_toArray]
  ·rw[Bp (by rw[ya];lia),Bp (by rw[LC];rw[h1,iR] at hi;lia)]
 have hv:Vals xs.reverse fb.toList:=by rw[Ua];exact aL7 rv
 have sz:s1.heap.objs.size<=(s1.heap.push (revObj l ((its.toArray.size:Int) - 1))).objs.size:=by rw[ot];lia
 exact⟨.ref _,_,I1.laid (t':=tk) (o:=.lst xs.reverse) (λb u e=>hk b u (oH (iB e)) (eG _ e)) sz ⟨by rw[LC];exact hz,fb.toList,c',hv,hS⟩,rfl,q _ (I1.bc.fresh sz)⟩
def Kx(K:W.Frag):List V->Hp->VK->Prop:=λvs H Q=>∃(p:Addr) (ns:ae),vs=[.ref p]/\bR K H p (ns.map V.int)/\ns≠[]/\∀m,m∈ns->(∀x∈ns,m<=x)->Q (.int m) H
theorem aEJ(hc:X.calm=true):eJ X (.builtin "min") (Kx X.K):=by
 intro pins s σ H vs us Q I r h;obtain⟨p,ns,rfl,hq,bw,q⟩:=h;obtain⟨u,rfl,rx⟩:=vals1 r;cases rx;obtain⟨its,r',pl,hz⟩:=I.list hq;have hi:=intsAre_of r';obtain⟨xs,hx⟩:=hi.allInts.items;have e1:ns=xs.toList.map (·.1):=by rw[<-nums_intItems,<-hx];exact(show numsOf its.toArray.toList=ns from hi.numsOf).symm
 have hsz:0 < xs.size:=by
  have z:=Fq.mpr bw;rw[e1,bX,ya] at z;exact z
 refine min_intList (I.ok.hd hc) (hx▸pl.isList:s.heap.IsList p (intItems xs)) hsz λv h' tk hv hk=>?_;obtain⟨t,rfl⟩:=intItems_at hv;obtain⟨h1,h2⟩:=argBest_lt (numAt xs) (xs.size - 1);refine⟨.int _,H,I.kept (t':=tk) hk,⟨t,rfl⟩,q _ ?_ λx og=>?_⟩
 ·rw[e1,numAt_eq];exact getD_mem (by rw[bX,ya];lia)
 ·rw[e1] at og;obtain⟨j,hj,rfl⟩:=mem_getD og;rw[bX,ya] at hj;rw[<-numAt_eq];exact h2 j (by lia)
theorem Zc{K:W.Frag}{H:Hp}{Q:VK}{p:Addr}{ns:ae}(h1:bR K H p (ns.map V.int))(bw:ns≠[])(h:∀m,m∈ns->(∀x∈ns,m<=x)->Q (.int m) H):Kx K [.ref p] H Q:=⟨p,ns,rfl,h1,bw,h⟩
def Fd:TE:=λ_ H Q=>(∀p,H p=none->Q (.ref p) (upd H p (.dK [])))\/∀p,H p=none->Q (.ref p) (upd H p (.dT []))
theorem aL8:PE X (.Dict [] [] pos) Fd:=by
 intro pins s σ H Q I h;rcases h with h|h
 ·exact aLa pins s σ H Q I h
 ·exact aLb pins s σ H Q I h
theorem Qx{H:Hp}{Q:VK}(h:∀p,H p=none->Q (.ref p) (upd H p (.dK []))):Fd σ H Q:=.inl h
theorem uI{H:Hp}{Q:VK}(h:∀p,H p=none->Q (.ref p) (upd H p (.dT []))):Fd σ H Q:=.inr h
def FA(hi:Int)(n:Nat):It:=⟨λi _=>i < n,λi H x H'=>H'=H/\x=.int (hi - i),λi _=>n<=i⟩
theorem aKd{P:Program}{w:World}{K:W.Frag}{tg:Expr}(it:Addr)(hi:Int)(n:Nat):Turn P w K tg (FA hi n) [it] it (λi h=>IsRangeIter h it (hi+(i:Nat) * -1) ((n:Int) - (i:Nat)) (-1)) where
 mem:=by simp
 obj:=λi h st b hb=>by
  have e:b=it:=by simpa using hb
  rw[e];exact⟨_,st,λv z=>by
   have z':Data.fields _=Data.cell v:=z;cases z'⟩
 keep:=λi h h' st k=>k it (by simp) _ st
 item:=by
  intro X hP hw hK hc i pins s σ H E I hf st hg;subst hP hw hK;obtain⟨f0,f1,f2,f3,f4,f5⟩:=hf it (by simp);refine(Walks.range (prog:=X.prog) (w:=X.w) (I.ok.hd hc) it hi (-1) n).item i s _ _ hg st λv h' tk hv km kk=>?_;obtain⟨t,rfl⟩:=hv;refine⟨_,rfl,E4 (s:={ s with heap:=h',toks:=tk }) (n:="range_iterator") km rfl rfl (by decide) ⟨.int (hi - i),H,I.turned (λb o hb e=>kk b o (by simpa using hb) e) f0 f1 f3 f4 f5,⟨t,?_⟩,⟨rfl,rfl⟩,km,λb hb=>(hf b hb).1⟩⟩;congr 1;lia
 done:=by
  intro X hP hw hK hc i pins s σ H E I hf st hg;subst hP hw hK;obtain⟨f0,f1,f2,f3,f4,f5⟩:=hf it (by simp);exact wpAny_pyNext_range_end (I.ok.hd hc) st (by have:n<=i:=hg;lia) λh' eb=>⟨rfl,I.turned (t':=s.toks) (λb o hb e=>eb b o hb e) f0 f1 f3 f4 f5⟩
 self:=λ_ _ _ _ _ st h=>wpAny_pyIter_rangeiter st h
theorem aEK(a b:Int):Builtin.Range.rangeSize a b (-1)=(((a - b).toNat:Nat):Int):=by
 unfold Builtin.Range.rangeSize;rw[bZ (by decide)];split
 ·rw[show -(-1:Int)=1 from rfl,Int.ediv_one];lia
 ·lia
theorem small_down{a b:Int}(h1:-(2 ^ 62)<=a)(h2:a < 2 ^ 62)(h3:-(2 ^ 62)<=b)(h4:b < 2 ^ 62):Builtin.Range.small a b (-1)=true:=by
 unfold Builtin.Range.small;simp only[aEK,Builtin.Range.rangeFitsLong,wm,Bool.or_eq_true,decide_eq_true_eq,beq_iff_eq];rw[bZ (by decide)];simp only[wm,decide_eq_true_eq];lia
def OW(ta:TA):TI:=λσ H R=>ta σ H λvs H1=>∃i j:Int,vs=[.int i,.int j,.int (-1)]/\(-(2 ^ 62)<=i/\i < 2 ^ 62/\-(2 ^ 62)<=j/\j < 2 ^ 62)/\R (FA i (i - j).toNat) H1
theorem aKe(hg:Gl X "range")(hm:X.mg "range" = none)(ha:PA X [a,b,c] ta)(hn:[a,b,c].all noStar=true:=by rfl):PI X tg (.Call (.Name "range" p) [a,b,c] [] pos) (OW ta):=by
 intro pins s σ H R I h;refine Call_ (lV I hg hm boot_range (PyProof.Rows.callWith_type1 (dC (ha pos pins s σ H _ I h) λus s1 zq=>?_) (bO (gY hn).1) (iU (gY hn).2)));obtain⟨vs,H1,I1,r1,i,j,e,⟨q1,q2,q3,q4⟩,q⟩:=zq;subst e;obtain⟨u1,us1,rfl,⟨t1,rfl⟩,r2⟩ : ∃u Ei,us=u::Ei/\RelV (.int i) u/\Vals [.int j,.int (-1)] Ei:=by cases r1 with|cons h t=>exact⟨_,_,rfl,h,t⟩
 obtain⟨u2,u3,rfl,⟨t2,rfl⟩,⟨t3,rfl⟩⟩:=vals2 r2;refine call_range_3 (by decide) ?_ (.inl (PyProof.noPylong_small (by decide)));refine wpAny_pyIter_range (IsRange.new ..) (small_down q1 q2 q3 q4) ?_;have I2:Inv X pins σ H1 { s1 with heap:=s1.heap.push { cls:=.type "range",data:=.fields #[.int i t1,.int j t2,.int (-1) t3] } }:=I1.kept (t':=s1.toks) λb o e=>eG _ e;refine⟨_,[_],_,_,H1,rfl,I2.kept (t':=s1.toks) λb o e=>eG _ e,aKd _ i (i - j).toNat,?_,λb hb=>?_,q⟩
 ·show IsRangeIter _ _ (i+((0:Nat):Int) * -1) ((((i - j).toNat:Nat):Int) - ((0:Nat):Int)) (-1);rw[show i+((0:Nat):Int) * -1=i by lia,show(((i - j).toNat:Nat):Int) - ((0:Nat):Int)=Builtin.Range.rangeSize i j (-1) by rw[aEK];lia];exact lA _ rfl
 ·have e:b=(s1.heap.push { cls:=.type "range",data:=.fields #[.int i t1,.int j t2,.int (-1) t3] }).objs.size:=by simpa using hb
  subst e;exact I2.xw (dQ _) (I2.bc.fresh (dQ _))
theorem aMa{R:It->Hp->Prop}(h:ta σ H λvs H1=>∃i j:Int,vs=[.int i,.int j,.int (-1)]/\(-(2 ^ 62)<=i/\i < 2 ^ 62/\-(2 ^ 62)<=j/\j < 2 ^ 62)/\R (FA i (i - j).toNat) H1):OW ta σ H R:=h
theorem aOc{hi:Int}{n:Nat}{σ:St}{H:Hp}{nx:St->Hp->Prop}{rt:VK}{g:TG}{tb:TS}(Pv:Nat->St->Hp->Prop)(h0:Pv 0 σ H)
  (hs:∀i σ H,i < n->Pv i σ H->g (.int (hi - i)) σ H λσ2 H2=>tb ⟨Pv (i+1),rt,nx,Pv (i+1)⟩ σ2 H2) (hd:∀σ H,Pv n σ H->nx σ H) :
  ∃W:Nat->Nat->St->Hp->Prop,(∃m,W 0 m σ H)/\∀i m σ H,W i m σ H->
   ((FA hi n).stop i H/\nx σ H)\/((FA hi n).go i H/\∃N:St->Hp->Prop,(∀σ' H',N σ' H'->∃m',m' < m/\W (i+1) m' σ' H')/\∀x H',(FA hi n).oq i H x H'->g x σ H' λσ2 H2=>tb ⟨N,rt,nx,N⟩ σ2 H2):=by
 refine⟨λi m σ H=>m=n - i/\i<=n/\Pv i σ H,⟨n,by lia,ko _,h0⟩,?_⟩;rintro i m σ H ⟨rfl,B2,p⟩;by_cases h:i < n
 ·refine .inr ⟨h,Pv (i+1),λσ' H' p'=>⟨n - (i+1),by lia,rfl,h,p'⟩,?_⟩;rintro x H' ⟨rfl,rfl⟩;exact hs i σ H' h p
 ·have e:i=n:=by lia
  subst e;exact .inl ⟨dQ _,hd σ H p⟩
end
end L2
namespace L2.Z
open PySem PySem.Spec PyProof.Rows L2
section
variable{X:Cx}{tg:Expr}
theorem aDH(hc:X.calm=true)(Nu:Gl X "list")(C8:X.mg "list" = none)(Nt:Gl X "reversed")(Nj:X.mg "reversed" = none)(he:QA X [e] t)(hn:noStar e=true:=by rfl) :
  QE X (.Call (.Name "list" p1) [.Call (.Name "reversed" p2) [e] [] Ho] [] SV) (Qb t):=⟨L2.aIf hc Nu C8 Nt Nj he.h hn⟩
theorem eQ:QE X (.Dict [] [] pos) Fd:=⟨L2.aL8⟩
theorem aFq(hg:Gl X "range")(hm:X.mg "range" = none)(ha:QA X [a,b,c] ta)(hn:[a,b,c].all noStar=true:=by rfl):QI X tg (.Call (.Name "range" p) [a,b,c] [] pos) (OW ta):=⟨L2.aKe hg hm ha.h hn⟩
theorem aGT{P:Program}{w:World}{K:W.Frag}{mg:Str->ay}{base:Heap}{i k:Nat}{x:Str}{p pos:Pos}{e:Expr}{es:List Expr}{t:TA}(hr:eK k X.A)(ha:QA X (e::es) t)(hP:X.prog=P:=by rfl)(hw:X.w=w:=by rfl)(hK:X.K=K:=by rfl)(hg:X.mg=mg:=by rfl)(hB:X.base=base:=by rfl)
  (hN:X.N[i]?=some x:=by rfl) (hv:Dy X.env.scope x:=by first|exact Or.inl rfl|exact Or.inr (Or.inl rfl)|exact Or.inr (Or.inr rfl))
  (hn:(e::es).all noStar=true:=by rfl) (hd:(x == ("__debug__" : Str))=false:=by decide) (mv:(x == ("__classdict__" : Str))=false:=by decide) :
  QE X (.Call (.Name x p) (e::es) [] pos) (Kz (CB P w K mg base k) i t):=by
 subst hP hw hK hg hB;exact Qc hr ha hN hv hn hd mv
end
end L2.Z
namespace L2
open PySem
section
variable{σ:St}{H:Hp}{Q:VK}
theorem aIg(h:t σ H λvs H1=>∃l xs,vs=[.ref l]/\H1 l=some (.lst xs)/\∀q,H1 q=none->Q (.ref q) (upd H1 q (.lst xs.reverse))):Qb t σ H Q:=h
end
end L2
namespace L2
open PySem PySem.Spec PySem.W PyProof.Rows
section
variable{X:Cx}{o:Expr}{td:TE}{apos bf:Pos}
theorem aRH{h:Heap}(ok:o9 P w H h)(x:DR H d):(d == sysModules)=false/\∃(o:Obj) (es:Array DictEntry) (ep:Nat),h.get? d=some o/\o.ExactDict/\o.data=.dict es ep:=by
 rcases x with ⟨kvs,x⟩|⟨kvs,x⟩
 ·obtain⟨_,y,vs,_,o,es,ep,h1,h2,h3,_⟩:=Dw ok x;exact⟨y,o,es,ep,h1,h2,h3⟩
 ·obtain⟨y,o,es,ep,_,h1,h2,h3,_⟩:=wU (GK ok x);exact⟨y,o,es,ep,h1,h2,h3⟩
end
section
variable{X:Cx}{pins:ao}{σ:St}{H:Hp}{s:Shared}
theorem XZ:∀{kvs:List (Key×V)}{vs:List (Key×Value)},KV kvs vs->∀{i:Nat}{p:Key×V},kvs[i]?=some p->∃q,vs[i]?=some q/\p.1=q.1/\RelV p.2 q.2
 |[],_,r,i,p,h=>by simp at h
 |a::as,_,r,i,p,h=>by
  cases r with
  |cons x t=>
   cases i with
   |zero=>cases h;exact⟨_,rfl,x⟩
   |succ i=>exact XZ t (i:=i) h
theorem Pk{P:Program}{w:World}{H:Hp}{h:Heap}{d:Addr}{kvs:List (Key×V)}(x:bS P w H h d (.dK kvs)):(d == sysModules)=false/\∃(o:Obj) (es:Array DictEntry) (ep:Nat),h.get? d=some o/\o.ExactDict/\o.data=.dict es ep/\es.size=kvs.length/\
  ∀(i:Nat) (p:Key×V),kvs[i]?=some p->∃e,es[i]?=some e/\RelV (kV p.1) e.key/\RelV p.2 e.val:=by
 obtain⟨z,y,vs,r,o,es,ep,h1,h2,h3,h4,h5,h6⟩:=x;have hz:es.size=vs.length:=by rw[<-h5.length];simp
 have hl:kvs.length=vs.length:=Paired.length r;refine⟨y,o,es,ep,h1,h2,h3,by lia,λi p hp=>?_⟩;obtain⟨q,e1,e2,e3⟩:=XZ r hp;have il:i < es.size:=by rw[hz];exact(lU.mp e1).1
 obtain⟨a,b⟩:=h5.get? (e:=es[i]) (by simp[il]) e1;refine⟨es[i],by simp[il],?_,by rw[b];exact e3⟩;have e8:Cn q.1 es[i].key=true:=a;rw[e2];rcases dH e8 with ⟨n,t,e7,e9⟩|⟨x,t,e7,e9⟩
 ·rw[e7,e9];exact⟨t,rfl⟩
 ·rw[e7,e9];exact⟨t,rfl⟩
end
def Cz(d:Addr)(o:Obj)(kvs:List (Key×V)):It:=
 ⟨λi H=>H d=some (.bu o (.dK kvs))/\i < kvs.length,λi H x H'=>∃T kv,H T=none/\x=.ref T/\kvs[i]?=some kv/\H'=upd H T (.tup [kV kv.1,kv.2]),λi H=>H d=some (.bu o (.dK kvs))/\kvs.length<=i⟩
theorem aGU{P:Program}{w:World}{K:PySem.W.Frag}{elts:List Expr}{x1:Nat}{tp:Pos}(d it:Addr)(o:Obj)(kvs:List (Key×V))(es:Array DictEntry)(ep:Nat)(B3:o.cls=.type "dict")(vt:o.data=.dict es ep)(hn:es.size=kvs.length) :
  Turn P w K (.Tuple elts x1 tp) (Cz d o kvs) [it] it (λi h=>∃ok ov,IsItemIter h it d i es.size ep ok ov) where
 mem:=by simp
 obj:=λi h st b hb=>by
  obtain⟨ok,ov,he⟩:=st;have z:b=it:=by simpa using hb
  subst z;exact⟨_,he,λv z=>by cases z⟩
 keep:=λi h h' st k=>by
  obtain⟨ok,ov,he⟩:=st;exact⟨ok,ov,k it (by simp) _ he⟩
 item:=by
  intro X hP hw hK hc i pins s σ H E I hf st hg;subst hP hw hK;obtain⟨ok,ov,he⟩:=st;obtain⟨hd,hi⟩:=hg;have hO:bS X.prog X.w H s.heap d (.bu o (.dK kvs)):=I.bc d _ hd;obtain⟨ho,hO⟩:=hO;obtain⟨lo,o',uy,xr,g1,g2,g3,g5,row⟩:=Pk hO;have eo:o'=o:=Option.some.inj (g1.symm.trans ho);subst eo;have ee:uy=es/\xr=ep:=by rw[vt] at g3;injection g3 with a b;exact⟨a.symm,b.symm⟩
  obtain⟨e1,e2⟩:=ee;subst e1 e2;have raw:Raw s.heap d uy xr:=⟨o',ho,B3,vt⟩
  have hx:kvs[i]?=some kvs[i]:=eS hi;obtain⟨e,hex,rk,rv⟩:=row i _ hx;have uq:it < s.heap.objs.size:=iB he;refine xZ he raw hex λh1 rj hT hsz hk=>?_;refine⟨_,rfl,wpAny_letOwnedTupleGo_items rj λh2 Gg dv=>?_⟩
  replace dv:Heap.SameBut it h1 h2:=dv
  have A6:h2.IsTuple s.heap.objs.size #[e.key,e.val]:=⟨_,(dv.2 _ (wg uq)).trans hT,rfl,_,rfl⟩
  have kk:∀b o,b∉[it]->s.heap.get? b=some o->h2.get? b=some o:=λb o hb q=>by
   have n1:b≠it:=λz=>hb (by simp[z]);exact(dv.2 b n1).trans (hk b o n1 q)
  have I2:Inv X pins σ (upd H s.heap.objs.size (.tup [kV kvs[i].1,kvs[i].2])) { s with heap:=h2,toks:=s.toks }:=
   I.uF kk hf (dQ _) (show bS X.prog X.w _ h2 _ (.tup [kV kvs[i].1,kvs[i].2]) from⟨cB (by simp),[e.key,e.val],.cons rk (.cons rv .nil),A6⟩)
  have De:H s.heap.objs.size=none:=I.bc.fresh (dQ _);refine⟨.ref s.heap.objs.size,_,I2,rfl,⟨_,kvs[i],De,rfl,hx,rfl⟩,⟨_,_,Gg⟩,λb hb=>?_⟩;have z:b=it:=by simpa using hb
  subst z;rw[aT (oH uq)];exact(hf b (by simp)).1
 done:=by
  intro X hP hw hK hc i pins s σ H E I hf st hg;subst hP hw hK;obtain⟨ok,ov,he⟩:=st;obtain⟨hd,hi⟩:=hg;have hO:bS X.prog X.w H s.heap d (.bu o (.dK kvs)):=I.bc d _ hd;obtain⟨f0,f1,f2,f3,f4,f5⟩:=hf it (by simp);exact aA0 (I.ok.hd hc) he ⟨o,hO.1,B3,vt⟩ (by lia) λh' eb=>⟨rfl,I.turned (t':=s.toks) (λb o hb e=>eb b o hb e) f0 f1 f3 f4 f5⟩
 self:=λ_ _ _ _ _ st h=>by
  obtain⟨ok,ov,he⟩:=st;refine wpAny_pyIter_slot ⟨_,he,rfl⟩ F.slot_dict_itemiterator_iter (rq F.slot_dict_itemiterator_iter ⟨_,he,rfl⟩ qK ?_ (F.args_dict_itemiterator_iter_1 _));exact cM ⟨_,rfl,"dict_itemiterator",_,⟨_,he,rfl⟩,F.slot_dict_itemiterator_next.lookup,h⟩
section
variable{X:Cx}{elts:List Expr}{x1:Nat}{tp:Pos}{tg:Expr}
def QX(R:It->Hp->Prop):V->Hp->Prop:=λx H1=>∃d kvs,x=.ref d/\H1 d=some (.dK kvs)/\∀o,R (Cz d o kvs) (upd H1 d (.bu o (.dK kvs)))
def KS(td:TE):TI:=λσ H R=>td σ H (QX R)
theorem aEL{o:Expr}{td:TE}{apos bf:Pos}(ho:PE X o td)(br:attributeBase o "items" X.env (eval o X.env)=eval o X.env:=by rfl)(bq:(apos.endLine == bf.line)=true:=by rfl) :
  PI X (.Tuple elts x1 tp) (.Call (.Attribute o "items" apos) [] [] bf) (KS td):=by
 intro pins s σ H R I h;refine wpAny_Call_method (T:="dict") (id:="dict.items") br rfl bq PySem.F.plainAttrs_dict PySem.F.slot_dict_items PySem.F.type_dict_items (dC (ho pins s σ H _ I h) λv s1 zq=>?_);obtain⟨x,H1,I1,r1,q1⟩:=zq;obtain⟨d,kvs,e,hd,q⟩:=q1;subst e;cases r1;obtain⟨lo,ob,es,ep,g1,g2,g3,g5,row⟩:=Pk (show bS X.prog X.w H1 s1.heap d (.dK kvs) from I1.bc d _ hd);have raw:Raw s1.heap d es ep:=⟨ob,g1,g2.1,g3⟩
 refine⟨raw.ty,λb z=>by cases z;exact⟨ob,g1,g2.2.1⟩,?_⟩;refine method_meetsIn PySem.F.slot_dict_items PySem.F.entry_dict_items rfl (PySem.evalArgs_none ⟨rfl,raw.ty,PySem.F.args_dict_items_1 _,_,aEG d lo,raw.ty,?_⟩);have I2:=I1.freeze hd g1;show wpAny _ _ (pyIter (.ref s1.heap.objs.size)) _ _ _;refine u9 (s:={ s1 with heap:=s1.heap.push { cls:=.type "dict_items",data:=.fields #[.ref d] } }) ⟨_,lA _ rfl,rfl,rfl⟩ (raw.keep λo e=>eG _ e) ?_;have hk:∀b u,s1.heap.get? b=some u->((s1.heap.push { cls:=.type "dict_items",data:=.fields #[.ref d] }).push { cls:=.type "dict_itemiterator",data:=.fields #[.none,.bool false,.ref d,.int 0 0,.int es.size 0,.int ep 0,.none,.none] }).get? b=some u:=
  λb u e=>eG _ (eG _ e)
 refine⟨_,[(s1.heap.push { cls:=.type "dict_items",data:=.fields #[.ref d] }).objs.size],_,_,_,rfl,I2.kept (t':=s1.toks) hk,aGU d _ ob kvs es ep g2.1 g3 g5,⟨_,_,lA _ rfl⟩,λb hb=>?_,q ob⟩;have e:b=(s1.heap.push { cls:=.type "dict_items",data:=.fields #[.ref d] }).objs.size:=by simpa using hb
 have hle:s1.heap.objs.size<=b:=by rw[e,ot];exact Nat.le_succ _
 exact I2.xw hle (I2.bc.fresh hle)
theorem Inv.XF{X:Cx}{pins:ao}{σ:St}{H:Hp}{s:Shared}{d:Addr}{o:Obj}{kvs:List (Key×V)}(I:Inv X pins σ H s)(e:H d=some (.bu o (.dK kvs)))(h0:∀o u,X.sg d≠some (.bu o u)):Inv X pins σ (upd H d (.dK kvs)) s:=by
 have nd:∀b u,H b=some u->u≠.bu o (.dK kvs)->b≠d:=λb u q n z=>by rw[z,e] at q;exact n (Option.some.inj q).symm
 have nn:∀b,H b=none->b≠d:=λb q z=>by rw[z,e] at q;cases q
 obtain⟨a1,a2,a3,a4,a5,a6,a7,a8,a9,Bf,G2⟩:=I;refine⟨a1,a2,a3,⟨a4.keep,a4.slot,λb u q n hx=>?_,a4.there,λb xs q=>?_,λb u v q=>?_,λb ps q=>?_⟩,a5,a6,?_,λx c q=>?_,λp hp=>?_,λb u q=>?_,G2⟩
 ·have:=a4.free b u q n hx;rw[aT (nn b this)];exact this
 ·have:=a4.pA b xs q;rw[aT (nd b _ this (λz=>by cases z))];exact this
 ·have:=a4.dm b u v q;rw[aT (λz=>h0 u v (by rw[<-z];exact q))];exact this
 ·obtain⟨more,this⟩:=a4.jb b ps q;exact⟨more,by rw[aT (nd b _ this (λz=>by cases z))];exact this⟩
 ·rw[aT (nn _ a7)];exact a7
 ·rw[aT (nn _ (a8 x c q))];exact a8 x c q
 ·obtain⟨b1,b2,b3⟩:=a9 p hp;exact⟨b1,by rw[aT (nn _ b2)];exact b2,b3⟩
 ·have st:∀c v,bS X.prog X.w H s.heap c v->bS X.prog X.w (upd H d (.dK kvs)) s.heap c v:=λc v z=>
   z.wK (λ_ _ _ z=>z) (λc z=>by rw[aT (nd _ _ z (λy=>by cases y))];exact z) λc xs t z=>by rw[aT (nd _ _ z (λy=>by subst y;exact t))];exact z
  by_cases hb:b=d
  ·subst hb;rw[aN] at q;cases q;exact st b _ (Bf b _ e).2
  ·rw[aT hb] at q;exact st b u (Bf b u q)
def ON(t:TE):TE:=λσ H Q=>t σ H λv H'=>∃d kvs,H d=some (.dK kvs)/\∃o,H' d=some (.bu o (.dK kvs))/\Q v (upd H' d (.dK kvs))
theorem aOd{e:Expr}{t:TE}(he:PE X e t):PE X e (ON t):=by
 intro pins s σ H Q I h;refine dC (he pins s σ H _ I h) λv s1 zq=>?_;obtain⟨x,H1,I1,r1,d,kvs,hd,o,q1,q2⟩:=zq;exact⟨x,_,I1.XF q1 (λo u z=>by have y:=I.base.dm d o u z;rw[hd] at y;cases y),r1,q2⟩
end
section
variable{σ:St}{H:Hp}{Q:VK}{nx:St->Hp->Prop}{rt:VK}{g:TG}{tb:TS}
theorem aIi{td:TE}{R:It->Hp->Prop}(h:td σ H (QX R)):KS td σ H R:=h
theorem aRJ{d:Addr}{kvs:List (Key×V)}{R:It->Hp->Prop}(h1:H d=some (.dK kvs))(h:∀o,R (Cz d o kvs) (upd H d (.bu o (.dK kvs)))):QX R (.ref d) H:=⟨d,kvs,rfl,h1,h⟩
theorem aOe{t:TE}(h:t σ H λv H'=>∃d kvs,H d=some (.dK kvs)/\∃o,H' d=some (.bu o (.dK kvs))/\Q v (upd H' d (.dK kvs))):ON t σ H Q:=h
end
section
variable{X:Cx}
def Zb:R2:=λy x H Q=>∃a o,x=.ref a/\kF H a y o/\Q (.bl (!o.isSome)) H
theorem aKf(hu:X.A.units+9 < cLine):rK X (compareOp .NotIn) Zb:=by
 intro pins s σ H x y u v Q I rx ry h;obtain⟨a,o,e,g,q⟩:=h;subst e;cases ry;exact aNk (by lia) I g rx λs' I'=>⟨.bl (!o.isSome),H,I',rfl,q⟩
end
end L2
namespace L2.Z
open PySem PySem.Spec PyProof.Rows L2
section
variable{X:Cx}{o e tg:Expr}{td ty t:TE}{pos apos bf tp:Pos}{elts:List Expr}{x1:Nat}
theorem aFr(ho:QE X o td)(br:attributeBase o "items" X.env (eval o X.env)=eval o X.env:=by rfl)(bq:(apos.endLine == bf.line)=true:=by rfl) :
  QI X (.Tuple elts x1 tp) (.Call (.Attribute o "items" apos) [] [] bf) (KS td):=⟨L2.aEL ho.h br bq⟩
theorem aIj(he:QE X e t):QE X e (ON t):=⟨L2.aOd he.h⟩
end
end L2.Z
namespace L2
open PySem PySem.Spec PyProof.Rows
theorem aGV{d:Addr}{o:Obj}{kvs:List (Key×V)}{σ₀:St}{g:TG}{tt:TT}{te:TE}{R:List V->Hp->Prop}{H:Hp}(Pv:Nat->List V->Hp->Prop)(h0:Pv 0 [] H)(hz:kvs.length<=sizeLine)
  (hl:∀i ys H,i<=kvs.length->Pv i ys H->H d=some (.bu o (.dK kvs))/\ys.length<=i)
  (hs:∀i kv ys H T,kvs[i]?=some kv->Pv i ys H->H T=none->g (.ref T) σ₀ (upd H T (.tup [kV kv.1,kv.2])) λσ2 H2=>tt σ2 H2 λb H3=>if b=true then te σ2 H3 λy H4=>Pv (i+1) (ys ++ [y]) H4 else Pv (i+1) ys H3)
  (hd:∀ys H,Pv kvs.length ys H->R ys H):kS (Cz d o kvs) σ₀ g tt te R H:=by
 refine⟨λi m ys H=>m=kvs.length - i/\i<=kvs.length/\Pv i ys H,⟨kvs.length,by simp,ko _,h0⟩,?_⟩;rintro i m ys H ⟨rfl,hi,p⟩;obtain⟨q,ql⟩:=hl i ys H hi p;refine⟨by lia,?_⟩;by_cases cw:i < kvs.length
 ·refine .inr ⟨⟨q,cw⟩,Pv (i+1),λEh H' p'=>⟨kvs.length - (i+1),by lia,rfl,cw,p'⟩,λx H' y=>?_⟩;obtain⟨T,kv,nT,e1,hk,e2⟩:=y;subst e1 e2;exact hs i kv ys H T hk p nT
 ·have e:i=kvs.length:=by lia
  subst e;exact .inl ⟨⟨q,dQ _⟩,hd ys H p⟩
end L2
namespace L2
open PySem PySem.Spec PySem.W PyProof.Rows
theorem aKg{A:Around}(hh:A.handled=none)(I d:Addr)(bw:d≠I)(es:Array DictEntry)(ep:Nat) :
  Walks prog w A I [I,d] [I] es.size (λi v=>∃e,es[i]?=some e/\v=e.key) (λi h=>qy "dict_keyiterator" h I d i es.size ep/\Raw h d es ep) where
 sub:=λb hb=>lC.mpr (.inl (by simpa using hb))
 frame:=λ_ _ _ st hk=>⟨st.1.keep λo e=>hk I (by simp) o e,st.2.keep λo e=>hk d (by simp) o e⟩
 item:=λi s Q E hi st hQ=>by
  have hx:es[i]?=some es[i]:=LJ hi;refine aAZ st.1 st.2 hx λh' a b=>hQ es[i].key h' s.toks ⟨_,hx,rfl⟩ ⟨a,st.2.keep λo e=>b.extBut d o bw e⟩ λb' o hb e=>b.extBut b' o (λz=>hb (rC.mpr z)) e
 done:=λs Q E st hQ=>aCv hh st.1 st.2 (dQ _) λh' z=>hQ h' s.toks λb o hb e=>z b o (λy=>hb (rC.mpr y)) e
 self:=λ_ _ _ _ st hQ=>wpAny_pyIter_keyiter st.1 hQ
theorem aKh{es:Array DictEntry}{ep:Nat}(lo:(d == sysModules)=false):KdlSrc prog w "dict" d d es.size (λi v=>∃e,es[i]?=some e/\v=e.key) (λh=>Raw h d es ep) where
 type:=λ_ hm=>hm.ty
 there:=λ_ hm=>let ⟨_,e,_⟩:=hm;⟨iB e,iB e⟩
 keep:=λ_ _ hm hk=>hm.keep λo e=>hk d (.inl rfl) o e
 notList:=by decide
 notTuple:=by decide
 hint:=λ_ _ _ _ hm hq=>kdl_hint_dict hm.ty hq
 iter:=λ_ _ hh hm=>⟨_,_,(λ_ _ hq=>xY lo hm hq),aKg hh _ d (oH (let ⟨_,e,_⟩:=hm;iB e)) es ep,⟨⟨_,lA _ rfl,rfl,rfl⟩,hm.keep λo e=>eG _ e⟩⟩
section
variable{X:Cx}
def Pj:List V->Hp->VK->Prop:=λxs H Q=>∃(d:Addr) (kvs:List (List Key×V)) (ts:cj),xs=[.ref d]/\H d=some (.dT kvs)/\kvs.map (·.1)=ts.map (λt=>t.map Sum.inl)/\(∀t∈ts,t≠[])/\ts.length < 64/\
 ∀(p:Addr) (qs:au) (us:cj),H p=none->mG H qs us->us.Perm ts->us.Pairwise (λa b=>rV b a=false)->Q (.ref p) (upd H p (.lst (qs.map V.ref)))
theorem aFs(hc:X.calm=true):eJ X (.builtin "sorted") Pj:=by
 intro pins s σ H xs us Q I r h;obtain⟨d,kvs,ts,rfl,hd,ek,bw,a0m,q⟩:=h;obtain⟨u,rfl,ru⟩:=vals1 r;cases ru;obtain⟨lo,ob,es,ep,ys,g1,g2,g3,rel,g4,g5⟩:=wU (show bS X.prog X.w H s.heap d (.dT kvs) from I.bc d _ hd);have raw:Raw s.heap d es ep:=⟨ob,g1,g2.1,g3⟩
 have VD:kvs.length=ts.length:=by have:=congrArg List.length ek;simpa using this
 have Vm:ys.length=kvs.length:=(Paired.length rel).symm;have ht:mG H (ys.map (·.2.1)) ts:=by
  refine⟨by rw[bX,Vm,VD],λj a t x y=>?_⟩;have hj:j < kvs.length:=by rw[VD];exact(lU.mp y).1
  obtain⟨p,hp,hb,_⟩:=Fe rel (eS hj);rw[kQ,hp] at x;cases x;refine⟨?_,bw t (kP y)⟩;have e3:(kvs.map (·.1))[j]?=some kvs[j].1:=by rw[kQ,eS hj];rfl
  rw[ek,kQ,y] at e3;have e4:t.map Sum.inl=kvs[j].1:=Option.some.inj e3;rw[hb,<-e4,kh];rfl
 have hv:((ys.map (·.2.1)).map Value.ref).length=ts.length:=by rw[bX];exact ht.len
 refine Calls.call_function_entry kind_sorted plain_sorted entry_sorted (args_sorted1 (.ref d)) ?_
 unfold Builtin.«sorted»;refine bG (m:=checkCount "sorted" 1 1 _) (cM (bG (PySem.W.kdu_collect (A:=X.A.in1) (aKh (es:=es) (ep:=ep) lo) (I.ok.hd hc) raw (by rw[ud];lia) λh1 tk acc k0 qf=>?_)));have ea:acc.toList=(ys.map (·.2.1)).map Value.ref:=by
  refine List.ext_getElem? λj=>?_;by_cases hj:j < kvs.length
  ·have hja:j < acc.size:=by rw[qf.1,g5];exact hj
   have e1:acc[j]?=some acc[j]:=LJ hja;obtain⟨e,he,ev⟩:=qf.2 j _ e1;obtain⟨p,hp,hb,_⟩:=Fe rel (eS hj);rw[entry_at g4,hp] at he;cases he;rw[Qz,e1,ev,kQ,kQ,hp];rfl
  ·rw[Bp (by rw[ya,qf.1,g5];lia),Bp (by rw[bX,bX,Vm];lia)]
 rw[ea];generalize B0:ys.map (·.2.1)=qs at ht hv ea;have hq:=ht.len;have NO:qs.length < 64:=by lia
 refine bG (wpAny_newList ?_ (by rw[hv,ud];lia));have k1:∀b o,s.heap.get? b=some o->(h1.push (seqObj "list" (qs.map Value.ref).toArray 0)).get? b=some o:=λb o g=>eG _ (k0 b o g);have gD:(h1.push (seqObj "list" (qs.map Value.ref).toArray 0)).get? h1.objs.size=some (seqObj "list" (qs.map Value.ref).toArray 0):=lA _ rfl;refine bG (AM (rq (s:={ s with heap:=h1.push (seqObj "list" (qs.map Value.ref).toArray 0),toks:=tk }) slot_list_sort ⟨_,gD,rfl⟩ entry_list_sort (aJ6 gD ((ht.pA I).keeps λb o _ g=>k1 b o g) (by rw[hv,<-hq];exact NO) λp hr hu=>⟨_,rfl,?_⟩) (args_list_sort (.ref h1.objs.size))));rw[hv,<-hq] at hr hu;have pl:p.toList.Perm (List.range qs.length):=by simpa using Array.perm_iff_toList_perm.mp hr
 have Hq:p.toList.length=qs.length:=by have:=pl.length_eq;simpa using this
 have eo:(xX (qs.map Value.ref) p).toList=(p.toList.map λi=>qs.getD i 0).map Value.ref:=by
  unfold xX;show p.toList.map (λi=>(qs.map Value.ref).getD i Value.none)=_;rw[kh];refine LF λi hi=>?_;have li:i < qs.length:=zf.mp (pl.mem_iff.mp hi);show(qs.map Value.ref).getD i Value.none=Value.ref (qs.getD i 0);simp[vf,eS li]
 refine cM ⟨_,rfl,?_⟩;obtain⟨c,VM⟩:=sortedHeap_at (out:=xX (qs.map Value.ref) p) gD;have T':mG H (p.toList.map λi=>qs.getD i 0) (p.toList.map λi=>ts.getD i []):=by
  refine⟨by rw[bX,bX],λj a b x y=>?_⟩;rw[kQ] at x y;obtain⟨i,e1,e2⟩:=kl.mp x;rw[e1] at y;have li:i < qs.length:=zf.mp (pl.mem_iff.mp (kP e1));refine ht.at_ i a b ?_ ?_
  ·rw[<-e2];simp[vf,eS li]
  ·cases y;simp[vf,eS (show i < ts.length by lia)]
 obtain⟨hn,I2⟩:=I.aRC (t':=tk) (h':=sortedHeap (h1.push (seqObj "list" (qs.map Value.ref).toArray 0)) h1.objs.size (qs.map Value.ref) (xX (qs.map Value.ref) p)) (a:=h1.objs.size) (o:=.lst ((p.toList.map λi=>qs.getD i 0).map V.ref)) (λb ob g=>by
   have lb:b < h1.objs.size:=iB (k0 b ob g);rw[sortedHeap_old (oH lb) (by rw[size_push'];exact Cv lb)];exact k1 b ob g) (λb ob g=>oH (iB (k0 b ob g)))
  ⟨by rw[bX,bX,Hq,ud];lia,(p.toList.map λi=>qs.getD i 0).map Value.ref,c,aCt _,by rw[<-eo,Array.toArray_toList];exact VM⟩
 refine⟨.ref h1.objs.size,_,I2,rfl,q _ _ _ hn T' ?_ ?_⟩
 ·have:=pl.map (λi=>ts.getD i []);rw[hq,range_getD] at this;exact this
 ·rw[List.pairwise_iff_getElem];intro i j hi hj A3;rw[bX,Hq] at hi hj;have key:∀k (hk:k < p.toList.length),(p.toList.map λi=>ts.getD i [])[k]'(by rw[bX];exact hk)=kq (O:=EY) (λi=>ts.getD i []) p k:=λk hk=>by
   rw[Lp];unfold kq;have:p.getD k 0=p.toList[k]:=by
    have hk':k < p.size:=by simpa using hk
    simp[Array.getD,hk']
   rw[this]
  rw[key i (by lia),key j (by lia)];exact hu i j (by lia) hj
end
section
variable{H:Hp}{Q:VK}
theorem aMc{kvs:List (List Key×V)}{ts:cj}(h:H d=some (.dT kvs))(e:kvs.map (·.1)=ts.map (λt=>t.map Sum.inl))(bw:∀t∈ts,t≠[])(hl:ts.length < 64)(q:∀(p:Addr) (qs:au) (us:cj),H p=none->mG H qs us->us.Perm ts->us.Pairwise (λa b=>rV b a=false)->Q (.ref p) (upd H p (.lst (qs.map V.ref)))):Pj [.ref d] H Q:=⟨d,kvs,ts,rfl,h,e,bw,hl,q⟩
end
section
variable{X:Cx}{o:Expr}{td:TE}{apos bf:Pos}
def Ph(td:TE):TE:=λσ H Q=>td σ H λx H1=>∃d,x=.ref d/\DR H1 d/\∀b,H1 b=none->Q (.ref b) (upd H1 b (.ext (EX b d)))
theorem aMd(ho:PE X o td)(br:attributeBase o "values" X.env (eval o X.env)=eval o X.env:=by rfl)(bq:(apos.endLine == bf.line)=true:=by rfl):PE X (.Call (.Attribute o "values" apos) [] [] bf) (Ph td):=by
 intro pins s σ H Q I h;refine wpAny_Call_method (T:="dict") (id:="dict.values") br rfl bq PySem.F.plainAttrs_dict PySem.F.slot_dict_values PySem.F.type_dict_values (dC (ho pins s σ H _ I h) λv s1 zq=>?_);obtain⟨x,H1,I1,r1,q1⟩:=zq;obtain⟨d,e,hd,q⟩:=q1;subst e;cases r1;obtain⟨lo,ob,es,ep,g1,g2,g3⟩:=aRH I1.bc hd;have raw:Raw s1.heap d es ep:=⟨ob,g1,g2.1,g3⟩
 refine⟨raw.ty,λb z=>by cases z;exact⟨ob,g1,g2.2.1⟩,?_⟩;refine method_meetsIn PySem.F.slot_dict_values PySem.F.entry_dict_values rfl (PySem.evalArgs_none ⟨rfl,raw.ty,PySem.F.args_dict_values_1 _,_,aH4 d lo,raw.ty,?_⟩);have hn:H1 s1.heap.objs.size=none:=I1.bc.fresh (dQ _);refine⟨.ref s1.heap.objs.size,_,I1.laid (a:=s1.heap.objs.size) (o:=.ext (EX s1.heap.objs.size d)) (t':=s1.toks) (λ_ _ q=>eG _ q) (dQ _) ⟨⟨_,lA _ rfl,rfl,rfl⟩,⟨_,lA _ rfl⟩,λh1 h2 z k=>?_⟩,rfl,q _ hn⟩;obtain⟨o',a,r⟩:=z;exact⟨o',k o' a,r⟩
def Qy(H:Hp)(d:Addr)(ns:ae):Prop:=(∃kvs,Rd H d (.dT kvs)/\kvs.map (·.2)=ns.map V.int)\/∃kvs,Rd H d (.dK kvs)/\kvs.map (·.2)=ns.map V.int
theorem aOf{P:Program}{w:World}{H:Hp}{h:Heap}{d:Addr}{ns:ae}(ok:o9 P w H h)(x:Qy H d ns):(d == sysModules)=false/\∃(o:Obj) (es:Array DictEntry) (ep:Nat),h.get? d=some o/\o.ExactDict/\o.data=.dict es ep/\es.size=ns.length/\∀(i:Nat) e,es[i]?=some e->∃t,e.val=.int (ns.getD i 0) t:=by
 have val:∀{kvs:List V} {i:Nat},kvs=ns.map V.int->∀(hi:i < kvs.length),kvs[i]=V.int (ns.getD i 0):=λ{kvs i} e hi=>by
  subst e;rw[Lp,vf,eS (by simpa using hi)];rfl
 rcases x with ⟨kvs,x,en⟩|⟨kvs,x,en⟩
 ·obtain⟨lo,ob,es,ep,xs,g1,g2,g3,rel,g4,g5⟩:=wU (GK ok x);have ln:ns.length=kvs.length:=by have:=congrArg List.length en;simpa using this.symm
  refine⟨lo,ob,es,ep,g1,g2,g3,by lia,λi e he=>?_⟩;have il:i < kvs.length:=by rw[<-g5];exact(Ft.mp he).1
  obtain⟨p,hp,_,rv⟩:=Fe rel (eS il);have e2:es[i]?=some (entryOfKey (tupleKind (dO P w)) p):=by rw[entry_at g4,hp];rfl
  rw[he] at e2;cases e2;have e4:=val en (i:=i) (by simpa using il);rw[Lp] at e4;rw[e4] at rv;exact rv
 ·obtain⟨lo,ob,es,ep,g1,g2,g3,g5,row⟩:=Pk (GK ok x);have ln:ns.length=kvs.length:=by have:=congrArg List.length en;simpa using this.symm
  refine⟨lo,ob,es,ep,g1,g2,g3,by lia,λi e he=>?_⟩;have il:i < kvs.length:=by rw[<-g5];exact(Ft.mp he).1
  obtain⟨e',hex,rk,rv⟩:=row i _ (eS il);rw[he] at hex;cases hex;have e4:=val en (i:=i) (by simpa using il);rw[Lp] at e4;rw[e4] at rv;exact rv
def Kw:List V->Hp->VK->Prop:=λxs H Q=>∃(b d:Addr) (ns:ae),xs=[.ref b]/\H b=some (.ext (EX b d))/\Qy H d ns/\ns≠[]/\∀m,m∈ns->(∀x∈ns,m<=x)->Q (.int m) H
theorem aEM(hc:X.calm=true):eJ X (.builtin "min") Kw:=by
 intro pins s σ H xs us Q I r h;obtain⟨b,d,ns,rfl,hb,hd,bw,q⟩:=h;obtain⟨u,rfl,ru⟩:=vals1 r;cases ru;obtain⟨lo,ob,es,ep,g1,g2,g3,g5,row⟩:=aOf I.bc hd;have raw:Raw s.heap d es ep:=⟨ob,g1,g2.1,g3⟩
 have hv:s.heap.IsValuesView b d:=(show bS X.prog X.w H s.heap b (.ext (EX b d)) from I.bc b _ hb).1;have EC:d < s.heap.objs.size:=iB g1;have a0j:0 < ns.length:=Fq.mpr bw;refine call_min_walkS (aCu hv raw ⟨s.heap.objs.size,[s.heap.objs.size,d],[s.heap.objs.size],_,es.size,_,_,_,rfl,(aJ8 (A:=X.A.in1) (show X.A.in1.handled=none from I.ok.hd hc) s.heap.objs.size d (oH EC) es ep).toS,⟨⟨_,lA _ rfl,rfl,rfl⟩,raw.keep λo e=>eG _ e⟩,λb' Aw=>?_,by lia,CmpOf.ints_lt (λi=>ns.getD i 0) (λi v hi=>?_),λv s' hP hm=>?_⟩)
 ·show b' < (s.heap.push _).objs.size;rw[ot];rcases lC.mp Aw with z|z
  ·rw[z];exact DH _
  ·rw[show b'=d by simpa using z];exact Cv EC
 ·obtain⟨e,he,rfl⟩:=hi;exact row i e he
 ·obtain⟨e,he,rfl⟩:=hP;obtain⟨t,et⟩:=row _ e he;obtain⟨b1,b2⟩:=argBest_lt (λi=>ns.getD i 0) (es.size - 1);rw[et,Moved.eq_with hm];refine⟨.int _,H,I.kept (t':=s'.toks) (λb' u e=>hm.heap b' u (λz=>oH (iB e) (by simpa using z)) (eG _ e)),⟨t,rfl⟩,q _ ?_ λx hx=>?_⟩
  ·have hj:PySem.argBest (λi j=>decide (ns.getD i 0 < ns.getD j 0)) (es.size - 1) < ns.length:=by lia
   rw[vf,eS hj];exact Cs hj
  ·obtain⟨i,hi,rfl⟩:=LB hx;have:=b2 i (by lia);rw[vf (l:=ns) (i:=i),eS hi] at this;exact this
end
section
variable{σ:St}{H:Hp}{Q:VK}
theorem aMe{td:TE}(h:td σ H λx H1=>∃d,x=.ref d/\DR H1 d/\∀b,H1 b=none->Q (.ref b) (upd H1 b (.ext (EX b d)))):Ph td σ H Q:=h
theorem YZ{b d:Addr}{ns:ae}(h1:H b=some (.ext (EX b d)))(h2:Qy H d ns)(bw:ns≠[])(h:∀m,m∈ns->(∀x∈ns,m<=x)->Q (.int m) H):Kw [.ref b] H Q:=⟨b,d,ns,rfl,h1,h2,bw,h⟩
end
end L2
namespace L2.Z
open PySem PySem.Spec PyProof.Rows
section
variable{X:Cx}{o:Expr}{td:TE}{apos bf:Pos}
theorem aA2(ho:QE X o td)(br:attributeBase o "values" X.env (eval o X.env)=eval o X.env:=by rfl)(bq:(apos.endLine == bf.line)=true:=by rfl) :
  QE X (.Call (.Attribute o "values" apos) [] [] bf) (Ph td):=⟨L2.aMd ho.h br bq⟩
end
end L2.Z
namespace L2
open PySem PySem.Spec PySem.W PyProof.Rows
section
variable{X:Cx}{ek ev:Expr}{tk tv:TE}{pos:Pos}
theorem aIm{pins:ao}{σ:St}{H:Hp}{s:Shared}{a:Addr}{v:V}{r u:Value}{A:Around}{E:aj}{kvs:List (Key×V)}{k:Key}{Q:Unit->Shared->Prop}(I:Inv X pins σ H s)(e:H a=some (.dK kvs))(ru:RelV (kV k) u)(l:kvs.length < sizeLine)(rv:RelV v r)(h:∀s',Inv X pins σ (upd H a (.dK (putK kvs k v))) s'->Q () s') :
  wpAny (model X.prog X.w) A (dictSet a u r) Q E s:=by
 obtain⟨z,hd,vs,rel,dd⟩:=O6 I.bc e;have hz:vs.length<=sizeLine:=by rw[<-rel.length];exact z
 have hl:(putK kvs k v).length<=sizeLine:=by have:=m5 kvs k v;lia
 refine wpAny_dictSet_pairs (hsz:=hz) (E2 ru) dd λh' Bb hs=>h _ ?_;have he:∃q,h'.get? a=some q:=let ⟨q,_,_,hq,_⟩:=Bb;⟨q,hq⟩
 exact KW I (by rw[e];exact True.intro) hs he (YI hl hd (rel.put k rv) Bb)
def Lj(tk tv:TE):TE:=λσ H Q=>∀d,H d=none->tk σ (upd H d (.dK [])) λy H1=>tv σ H1 λv H2=>∃k,y=kV k/\H2 d=some (.dK [])/\Q (.ref d) (upd H2 d (.dK [(k,v)]))
theorem aEN(hk:PE X ek tk)(hv:PE X ev tv):PE X (.Dict [some ek] [ev] pos) (Lj tk tv):=by
 intro pins s σ H Q I h;have hn:H s.heap.objs.size=none:=I.bc.fresh (dQ _);have I0:Inv X pins σ (upd H s.heap.objs.size (.dK [])) { s with heap:=s.heap.push { cls:=.type "dict",data:=.dict #[] } }:=I.laid (a:=s.heap.objs.size) (o:=.dK []) (t':=s.toks) (λ_ _ q=>eG _ q) (dQ _) (ZD s.heap I.big);refine wpAny_Dict_any rfl rfl (by simp) (by simp) ?_;refine pairTrees_cons_walk (dC (hk pins _ σ _ _ I0 (h _ hn)) λu s1 ⟨y,H1,I1,r1,q1⟩=>dC (hv pins s1 σ H1 _ I1 q1) λv s2 ⟨x,H2,I2,r2,q2⟩=>pairTrees_nil_walk ?_);obtain⟨k,e,ed,q⟩:=q2;subst e;unfold storeAll;simp only[List.forIn_cons,List.forIn_nil];refine bG (bG (aIm I2 ed r1 (by rw[ud];decide) r2 λs3 I3=>?_));exact cM (cM ⟨.ref _,_,I3,rfl,q⟩)
end
section
variable{σ:St}{H:Hp}{Q:VK}{nx:St->Hp->Prop}{rt:VK}{g:TG}{tb:TS}
theorem aKi{tk tv:TE}(h:∀d,H d=none->tk σ (upd H d (.dK [])) λy H1=>tv σ H1 λv H2=>∃k,y=kV k/\H2 d=some (.dK [])/\Q (.ref d) (upd H2 d (.dK [(k,v)]))):Lj tk tv σ H Q:=h
theorem aMf{d:Addr}{o:Obj}{kvs:List (List Key×V)}(Pv:Nat->St->Hp->Prop)(h0:Pv 0 σ H)(hl:∀i σ H,i<=kvs.length->Pv i σ H->H d=some (.bu o (.dT kvs)))
  (hs:∀i kv σ H b,kvs[i]?=some kv->Pv i σ H->H b=some (.tup (kv.1.map kV))->g (.ref b) σ H λσ2 H2=>tb ⟨Pv (i+1),rt,nx,Pv (i+1)⟩ σ2 H2) (hd:∀σ H,Pv kvs.length σ H->nx σ H) :
  ∃W:Nat->Nat->St->Hp->Prop,(∃m,W 0 m σ H)/\∀i m σ H,W i m σ H->
   ((FC d o kvs).stop i H/\nx σ H)\/((FC d o kvs).go i H/\∃N:St->Hp->Prop,(∀σ' H',N σ' H'->∃m',m' < m/\W (i+1) m' σ' H')/\∀x H',(FC d o kvs).oq i H x H'->g x σ H' λσ2 H2=>tb ⟨N,rt,nx,N⟩ σ2 H2):=by
 refine⟨λi m σ H=>m=kvs.length - i/\i<=kvs.length/\Pv i σ H,⟨kvs.length,by simp,ko _,h0⟩,?_⟩;rintro i m σ H ⟨rfl,hi,p⟩;have q:=hl i σ H hi p;rcases Nat.lt_or_ge i kvs.length with cw|A4
 ·refine .inr ⟨⟨q,cw⟩,Pv (i+1),λσ' H' z=>⟨kvs.length - (i+1),by lia,rfl,by lia,z⟩,?_⟩;rintro x H' ⟨rfl,b,kv,hk,rfl,hb⟩;exact hs i kv σ H' b hk p hb
 ·have e:i=kvs.length:=by lia
  subst e;exact .inl ⟨⟨q,dQ _⟩,hd σ H p⟩
end
theorem kF.fk{H:Hp}{a:Addr}{o:Obj}{kvs:List (Key×V)}{k:Key}(e:H a=some (.bu o (.dK kvs))):kF H a (kV k) (lH kvs k):=.inl ⟨kvs,k,.inr ⟨o,e⟩,rfl,rfl⟩
end L2
namespace L2.Z
open PySem PySem.Spec PyProof.Rows
section
variable{X:Cx}{ek ev:Expr}{tk tv:TE}{pos:Pos}
theorem aFt(hk:QE X ek tk)(hv:QE X ev tv):QE X (.Dict [some ek] [ev] pos) (Lj tk tv):=⟨L2.aEN hk.h hv.h⟩
end
end L2.Z
namespace L2
open PySem PySem.Spec PyProof.Rows
section
variable{X:Cx}{o e:Expr}{to:TE}{t:TA}{apos bf:Pos}
theorem aKj(ho:PE X o to)(ha:PA X [e] t)(hn:noStar e=true:=by rfl)(br:attributeBase o "extend" X.env (eval o X.env)=eval o X.env:=by rfl)(bq:(apos.endLine == bf.line)=true:=by rfl) :
  PE X (.Call (.Attribute o "extend" apos) [e] [] bf) (BP X.K "list" KY to t):=
 O7 PySem.F.plainAttrs_list PySem.F.slot_list_extend PySem.F.type_list_extend aJL ho ha br (by rw[bO hn];rfl) bq (bO hn) (by rfl)
end
section
variable{H:Hp}{Q:VK}
theorem aKk{l b:Addr}{xs ys:List V}(h:H l=some (.lst xs))(h2:H b=some (.lst ys))(hz:xs.length+ys.length<=sizeLine)(q:Q .bt (upd H l (.lst (xs++ys)))):KY (.ref l) [.ref b] H Q:=⟨l,b,xs,ys,rfl,rfl,h,h2,hz,q⟩
end
end L2
namespace L2.Z
open PySem PySem.Spec PyProof.Rows L2
section
variable{X:Cx}{K':W.Frag}{o e:Expr}{to:TE}{t:TA}{apos bf:Pos}
theorem aDI(ho:QE X o to)(ha:QA X [e] t)(hn:noStar e=true:=by rfl)(br:attributeBase o "extend" X.env (eval o X.env)=eval o X.env:=by rfl)(bq:(apos.endLine == bf.line)=true:=by rfl)(hK:X.K=K':=by rfl) :
  QE X (.Call (.Attribute o "extend" apos) [e] [] bf) (BP K' "list" KY to t):=by subst hK;exact⟨L2.aKj ho.h ha.h hn br bq⟩
end
end L2.Z
namespace L2
open PySem PySem.Spec PySem.W PyProof.Rows
section
variable{prog:Program}{w:World}{A:Around}{E:aj}{s:Shared}{it d:Addr}{es:Array DictEntry}{ep i:Nat}
def prO(e:DictEntry):Obj:={ cls:=.type "tuple",data:=.seq #[e.key,e.val] }
structure XE(es:Array DictEntry)(lo:Addr)(h:Heap)(as:au):Prop where
 rise:as.Pairwise (·< ·)
 above:∀a∈as,lo < a
 at_:∀(j:Nat) (a:Addr),as[j]?=some a->∃e,es[j]?=some e/\h.get? a=some (prO e)
theorem XE.there{lo:Addr}{h:Heap}{as:au}(g:XE es lo h as){a:Addr}(ha:a∈as):a < h.objs.size:=by
 obtain⟨j,hj⟩:=List.mem_iff_getElem?.mp ha;obtain⟨_,_,e⟩:=g.at_ j a hj;exact iB e
end
section
variable{X:Cx}{tg:Expr}
theorem Inv.aRL(I:Inv X pins σ H s)(e:H d=some (.bu o (.dT kvs)))(h0:∀o u,X.sg d≠some (.bu o u)):Inv X pins σ (upd H d (.dT kvs)) s:=by
 have nd:∀b u,H b=some u->u≠.bu o (.dT kvs)->b≠d:=λb u q n z=>by rw[z,e] at q;exact n (Option.some.inj q).symm
 have nn:∀b,H b=none->b≠d:=λb q z=>by rw[z,e] at q;cases q
 obtain⟨a1,a2,a3,a4,a5,a6,a7,a8,a9,Bf,G2⟩:=I;refine⟨a1,a2,a3,⟨a4.keep,a4.slot,λb u q n hx=>?_,a4.there,λb xs q=>?_,λb u v q=>?_,λb ps q=>?_⟩,a5,a6,?_,λx c q=>?_,λp hp=>?_,λb u q=>?_,G2⟩
 ·have:=a4.free b u q n hx;rw[aT (nn b this)];exact this
 ·have:=a4.pA b xs q;rw[aT (nd b _ this (λz=>by cases z))];exact this
 ·have:=a4.dm b u v q;rw[aT (λz=>h0 u v (by rw[<-z];exact q))];exact this
 ·obtain⟨more,this⟩:=a4.jb b ps q;exact⟨more,by rw[aT (nd b _ this (λz=>by cases z))];exact this⟩
 ·rw[aT (nn _ a7)];exact a7
 ·rw[aT (nn _ (a8 x c q))];exact a8 x c q
 ·obtain⟨b1,b2,b3⟩:=a9 p hp;exact⟨b1,by rw[aT (nn _ b2)];exact b2,b3⟩
 ·have st:∀c v,bS X.prog X.w H s.heap c v->bS X.prog X.w (upd H d (.dT kvs)) s.heap c v:=λc v z=>
   z.wK (λ_ _ _ z=>z) (λc z=>by rw[aT (nd _ _ z (λy=>by cases y))];exact z) λc xs t z=>by rw[aT (nd _ _ z (λy=>by subst y;exact t))];exact z
  by_cases hb:b=d
  ·subst hb;rw[aN] at q;cases q;exact st b _ (Bf b _ e).2
  ·rw[aT hb] at q;exact st b u (Bf b u q)
end
end L2
namespace L2.Z
open PySem PySem.Spec PyProof.Rows L2
end L2.Z
namespace L2
open PySem PySem.Spec PySem.W PyProof.Rows
section
variable{X:Cx}{elts:List Expr}{x1:Nat}{tp:Pos}
def PL(td:TE):TI:=λσ H R=>KC td σ H R\/KS td σ H R
theorem aKl{o:Expr}{td:TE}{apos bf:Pos}(ho:PE X o td)(br:attributeBase o "items" X.env (eval o X.env)=eval o X.env:=by rfl)(bq:(apos.endLine == bf.line)=true:=by rfl) :
  PI X (.Tuple elts x1 tp) (.Call (.Attribute o "items" apos) [] [] bf) (PL td):=by
 intro pins s σ H R I h;rcases h with h|h
 ·exact ZK ho br bq pins s σ H R I h
 ·exact aEL ho br bq pins s σ H R I h
def PJ(tk tv:TE):TE:=λσ H Q=>KA tk tv σ H Q\/Lj tk tv σ H Q
theorem aKm{ek ev:Expr}{tk tv:TE}{pos:Pos}(hu:X.A.units < cLine)(hk:PE X ek tk)(hv:PE X ev tv):PE X (.Dict [some ek] [ev] pos) (PJ tk tv):=by
 intro pins s σ H Q I h;rcases h with h|h
 ·exact ZJ hu hk hv pins s σ H Q I h
 ·exact aEN hk hv pins s σ H Q I h
def AK(u:HO):Prop:=(∃kvs,u=.dK kvs)\/∃kvs,u=.dT kvs
def Pg(t:TE):TE:=λσ H Q=>t σ H λv H'=>∃d u,AK u/\H d=some u/\∃o,H' d=some (.bu o u)/\Q v (upd H' d u)
theorem aMg{e:Expr}{t:TE}(he:PE X e t):PE X e (Pg t):=by
 intro pins s σ H Q I h;refine dC (he pins s σ H _ I h) λv s1 zq=>?_;obtain⟨x,H1,I1,r1,d,u,hu,hd,o,q1,q2⟩:=zq;rcases hu with ⟨kvs,rfl⟩|⟨kvs,rfl⟩
 ·exact⟨x,_,I1.XF q1 (λo u z=>by have y:=I.base.dm d o u z;rw[hd] at y;cases y),r1,q2⟩
 ·exact⟨x,_,I1.aRL q1 (λo u z=>by have y:=I.base.dm d o u z;rw[hd] at y;cases y),r1,q2⟩
end
section
variable{σ:St}{H:Hp}{Q:VK}{nx:St->Hp->Prop}{rt:VK}{g:TG}{tb:TS}
theorem aMh{t:TE}(h:t σ H λv H'=>∃d u,AK u/\H d=some u/\∃o,H' d=some (.bu o u)/\Q v (upd H' d u)):Pg t σ H Q:=h
theorem aKn{d:Addr}{o:Obj}{kvs:List (Key×V)}(Pv:Nat->St->Hp->Prop)(h0:Pv 0 σ H)(hl:∀i σ H,i<=kvs.length->Pv i σ H->H d=some (.bu o (.dK kvs)))
  (hs:∀i kv σ H T,kvs[i]?=some kv->Pv i σ H->H T=none->g (.ref T) σ (upd H T (.tup [kV kv.1,kv.2])) λσ2 H2=>tb ⟨Pv (i+1),rt,nx,Pv (i+1)⟩ σ2 H2) (hd:∀σ H,Pv kvs.length σ H->nx σ H) :
  ∃W:Nat->Nat->St->Hp->Prop,(∃m,W 0 m σ H)/\∀i m σ H,W i m σ H->
   ((Cz d o kvs).stop i H/\nx σ H)\/((Cz d o kvs).go i H/\∃N:St->Hp->Prop,(∀σ' H',N σ' H'->∃m',m' < m/\W (i+1) m' σ' H')/\∀x H',(Cz d o kvs).oq i H x H'->g x σ H' λσ2 H2=>tb ⟨N,rt,nx,N⟩ σ2 H2):=by
 refine⟨λi m σ H=>m=kvs.length - i/\i<=kvs.length/\Pv i σ H,⟨kvs.length,by simp,ko _,h0⟩,?_⟩;rintro i m σ H ⟨rfl,hi,p⟩;have q:=hl i σ H hi p;by_cases cw:i < kvs.length
 ·refine .inr ⟨⟨q,cw⟩,Pv (i+1),λσ' H' p'=>⟨kvs.length - (i+1),by lia,rfl,cw,p'⟩,λx H' y=>?_⟩;obtain⟨T,kv,hT,e1,hk,e2⟩:=y;subst e1 e2;exact hs i kv σ H T hk p hT
 ·have e:i=kvs.length:=by lia
  subst e;exact .inl ⟨⟨q,dQ _⟩,hd σ H p⟩
end
end L2
namespace L2.Z
open PySem PySem.Spec PyProof.Rows L2
section
variable{X:Cx}{o e ek ev:Expr}{td tk tv t:TE}{pos apos bf tp:Pos}{elts:List Expr}{x1:Nat}
theorem yA(ho:QE X o td)(br:attributeBase o "items" X.env (eval o X.env)=eval o X.env:=by rfl)(bq:(apos.endLine == bf.line)=true:=by rfl) :
  QI X (.Tuple elts x1 tp) (.Call (.Attribute o "items" apos) [] [] bf) (PL td):=⟨L2.aKl ho.h br bq⟩
theorem aFw(hu:X.A.units+9 < cLine)(hk:QE X ek tk)(hv:QE X ev tv):QE X (.Dict [some ek] [ev] pos) (PJ tk tv):=⟨L2.aKm (by lia) hk.h hv.h⟩
theorem aA3(he:QE X e t):QE X e (Pg t):=⟨L2.aMg he.h⟩
end
end L2.Z
local macro_rules | `(tactic| walk_at "ne") => `(tactic| first
  | assumption
  | (refine Ne.symm ?_; assumption)
  | exact L2.bB (by assumption) (by walk_at "hp")
  | exact Ne.symm (L2.bB (by assumption) (by walk_at "hp")))
local macro_rules | `(tactic| walk_at "hp") => `(tactic| first
  | assumption
  | exact L2.aN
  | (refine Eq.trans (L2.aT (by walk_at "ne")) ?_; walk_at "hp")
  | (refine L2.aO.at (by assumption) ?_; walk_at "hp")
  | (refine L2.bL.at (by assumption) ?_ (by walk_at "ne"); walk_at "hp"))
local macro_rules | `(tactic| walk_at "sq") => `(tactic| first
  | assumption
  | exact L2.bR.of (by walk_at "hp")
  | exact L2.iC.of (by walk_at "hp")
  | exact L2.aO.seq (by assumption) (by walk_at "sq"))
local macro_rules | `(tactic| walk_at "cnd") => `(tactic| first
  | lia
  | decide
  | (simp only [List.length_map]; lia)
  | (refine ⟨?_, ?_⟩ <;> first | lia | decide)
  | (refine Or.inl ⟨?_, ?_⟩ <;> first | lia | decide)
  | (refine Or.inr ⟨?_, ?_⟩ <;> first | lia | decide)
  | (refine ⟨?_, ?_, ?_⟩ <;> first | lia | decide))
local macro_rules | `(tactic| walk_at "sz") => `(tactic| (refine L2.cB ?_; first | decide | (simp only [List.length_cons, List.length_nil, List.length_append]; lia) | lia))
local macro_rules | `(tactic| walk_at "rd") => `(tactic| (with_reducible first
  | refine L2.aNw ?_
  | refine L2.aP1 ?_
  | refine L2.aPY ?_
  | refine L2.aNx ?_
  | refine L2.aPZ ?_
  | refine L2.Ma ?_
  | refine L2.IH ?_
  | refine L2.Mc ?_
  | refine L2.aP0 ?_
  | refine L2.aNy ?_
  | refine L2.aP2 ?_
  | refine L2.aNz ?_
  | refine L2.aLp ?_
  | refine L2.aNA ?_
  | refine L2.aJ7 ?_
  | refine L2.aIi ?_
  | refine L2.aOe ?_
  | refine L2.aMh ?_
  | refine L2.L9 ?_
  | refine L2.aKb ?_
  | refine L2.aLY ?_
  | refine L2.aMe ?_
  | refine L2.aLV ?_
  | refine L2.aKi ?_
  | refine L2.aLW ?_
  | refine L2.aP4 ?_
  | refine L2.aR0 ?_
  | refine L2.aRh ?_
  | refine L2.aRi ?_
  | refine L2.aP6 ?_
  | refine L2.aRk ?_
  | refine L2.aNB ?_
  | refine L2.aRl ?_
  | refine L2.aJT ?_
  | refine L2.aND ?_
  | refine L2.IG ?_
  | refine L2.Um ?_
  | refine L2.Uo ?_
  | refine L2.aNE ?_
  | refine L2.aP8 ?_
  | refine L2.aNF ?_
  | refine L2.aP9 ?_
  | refine L2.aLq ?_
  | refine L2.aNG ?_
  | refine L2.aRm ?_
  | refine L2.aQa ?_
  | refine L2.aRn ?_
  | refine L2.aQb ?_
  | refine L2.aQc ?_
  | refine L2.aRo ?_
  | refine L2.aNH ?_
  | refine L2.aRp ?_
  | refine L2.aRq ?_
  | refine L2.Us ?_
  | refine L2.aQd ?_
  | refine L2.aNI ?_
  | refine L2.aQe ?_
  | refine L2.aQf ?_
  | refine L2.aNJ ?_
  | refine L2.aRr ?_
  | refine L2.aNK ?_
  | refine L2.aJX ?_
  | refine L2.aLy ?_
  | refine L2.aLr ?_
  | refine L2.aLs ?_
  | refine L2.aQg ?_
  | refine L2.Kg ?_
  | refine L2.Kh ?_
  | refine L2.aRw ?_
  | refine L2.aRx ?_
  | refine L2.aRv ?_
  | refine L2.aLx ?_
  | refine L2.aLI ?_
  | refine L2.aLJ ?_
  | refine L2.aQp ?_
  | refine L2.aNS ?_
  | refine L2.aNT ?_
  | refine L2.aNU ?_
  | refine L2.aLN ?_
  | refine L2.aN6 ?_
  | refine L2.aL4 ?_
  | refine L2.aIg ?_
  | refine L2.aMa ?_))
local macro_rules | `(tactic| walk_at "st") => `(tactic| first
  | walk_at "rd"
  | ((with_reducible refine L2.aRB (b := ?b) ?t ?_); (case t => assumption))
  | ((with_reducible refine L2.aP5 (v := ?v) ?e ?_); (case e => rfl))
  | ((with_reducible refine L2.aLo (σ' := ?s) ?e ?_); (case e => first | (simp only [List.set_cons_zero, List.set_cons_succ]; rfl) | rfl))
  | ((with_reducible refine L2.aRj ?c ?_); (case c => walk_at "cnd"))
  | ((with_reducible refine L2.aNC ?c ?_); (case c => walk_at "cnd"))
  | ((with_reducible refine L2.GW (xs := ?xs) (v := ?v) ?a ?b ?_); (case a => walk_at "sq"); (case b => first | rfl | assumption))
  | ((with_reducible refine L2.aP7 (xs := ?xs) (v := ?v) ?a ?b ?_); (case a => walk_at "sq"); (case b => first | rfl | assumption))
  | (with_reducible refine L2.aQh ?_)
  | (with_reducible refine L2.aQi ?_)
  | (with_reducible refine L2.aQj ?_)
  | (with_reducible refine L2.Mb ?_)
  | (with_reducible refine L2.aNQ ?_)
  | ((with_reducible refine L2.aNO (xs := ?xs) ?a ?_); (case a => walk_at "sq"))
  | ((with_reducible refine L2.aNP (xs := ?xs) ?a ?_); (case a => walk_at "sq"))
  | (with_reducible refine L2.aQl ?_)
  | (with_reducible refine L2.aQm ?_)
  | ((with_reducible refine L2.Ur ?a ?b ?_); (case a => rfl); (case b => rfl))
  | ((with_reducible refine L2.Uq ?a ?b ?_); (case a => rfl); (case b => rfl))
  | ((with_reducible refine L2.aRA (b := ?b) ?e ?_); (case e => rfl))
  | ((with_reducible refine L2.aLB (b := ?b) ?e ?_); (case e => rfl))
  | ((with_reducible refine L2.aNL ?c ?_); (case c => walk_at "sz")))
local macro_rules | `(tactic| walk_at "go") => `(tactic| first
  | (with_reducible refine L2.aN3 (fun _ _ => ?_))
  | walk_at "st")
local macro_rules | `(tactic| walk_at "w") => `(tactic| repeat walk_at "go")
local macro_rules | `(tactic| walk_at "l") => `(tactic| (intro vs H Q E h; first | (cases h; subst_vars; rfl) | (repeat (first | (obtain ⟨e, _⟩ := h; subst e; rfl) | obtain ⟨_, h⟩ := h))))
local macro_rules | `(tactic| walk_at "gs") => `(tactic| first
  | walk_at "go"
  | ((with_reducible refine L2.aRy ?e ?_); (case e => rfl))
  | ((with_reducible refine L2.aRz ?e ?_); (case e => rfl)))
namespace My
open PySem L2 L2.Z
abbrev aa:List Str:=["_law_script","_law_place","_law_hand","_law_spec_here","_law_hours","_law_wants","_law_position_here","_law_prices_here","_law_works_here","_law_hour","_law_found_here","_law_dearer","_law_rows","_law_other","_law_turned","_law_more","_law_row"]
abbrev ba:List Str:=["machine","state","run"]
abbrev fv:List Str:=["thing"]
abbrev gr:List Str:=["machine","state","hours"]
abbrev gz:List Str:=["_law_hand","_law_by","_law_lack","_law_hours"]
abbrev kf:List Str:=["_law_hand","_law_spec_here"]
abbrev p9:List Str:=["_law_spec_here","_law_position_here","_law_wants","_law_prices_here"]
abbrev ue:List Str:=["machine","state","on"]
abbrev aaa:List Str:=["_law_hand","_law_works_here","_law_spec_here","_law_asked"]
abbrev aba:List Str:=["_law_spec_here","_law_state_here","_law_on"]
abbrev aca:List Str:=["_law_store_here","_law_level","_law_later"]
abbrev ada:List Str:=["_law_spec_here","_law_price_here"]
abbrev aea:List Str:=["self","up","down","begin","run","rest","least","pieces"]
abbrev afa:List Str:=["_law_hand","_law_by"]
abbrev aga:List Str:=["store","level","hours"]
abbrev aha:List Str:=["_law_spec_here","_law_state_here","_law_prices_here"]
abbrev aia:List Str:=["_law_hand","_law_case","_law_hour","_law_found_here"]
abbrev aja:List Str:=["machine","state"]
abbrev aka:List Str:=["works","position","wants","prices","hour","lones","heads","price","tails"]
abbrev ala:List Str:=["_law_store_here","_law_level","_law_prices_here"]
abbrev ama:List Str:=["_law_hand","_law_by","_law_most"]
abbrev ana:List Str:=["_law_spec_here"]
abbrev aoa:List Str:=["works","position","wants","prices","hour"]
abbrev apa:List Str:=["self","cap","into","out","takes","gives"]
abbrev aqa:List Str:=["_law_case","_law_hour","_law_price_here"]
abbrev ara:List Str:=["_law_store_here","_law_level"]
abbrev asa:List Str:=["lones","heads","price"]
abbrev ata:List Str:=["works","want","lones","heads","tails"]
abbrev aua:List Str:=["_law_k","_law_hand","_law_spec_here"]
abbrev ava:List Str:=["self","place","price"]
abbrev awa:List Str:=["_law_hand","_law_by","_law_longest"]
abbrev axa:List Str:=["places","hour","behind","ways_at"]
abbrev aya:List Str:=["_law_hand","_law_most","_law_by","_law_wide","_law_many","_law_specs","_law_store_here","_law_lack"]
abbrev aza:List Str:=["choice","later","worth","behind"]
abbrev aDa:List Str:=["self","machines","store","lack"]
abbrev aIa:List Str:=["self","prices"]
abbrev aJa:List Str:=["drawn","later","cost","price"]
abbrev aPa:List Str:=["self","layers","ways"]
abbrev aRa:List Str:=["_law_hand","_law_bound_here"]
abbrev aTa:List Str:=["_law_amount","_law_rate","_law_price_here"]
abbrev aUa:List Str:=["works","position","hours"]
abbrev aVa:List Str:=["_law_script","_law_place"]
abbrev aWa:List Str:=["store","level","hours","ways","place"]
abbrev aXa:List Str:=["ways","behind"]
abbrev aYa:List Str:=["want","by_drawn","price"]
abbrev aZa:List Str:=["lack","want","by_drawn"]
abbrev a1a:List Str:=["store","level","later"]
abbrev a2a:List Str:=["self","ahead","behind"]
abbrev a3a:List Str:=["_law_hand","_law_most"]
abbrev a4a:List Str:=["_law_hand","_law_many"]
abbrev a5a:List Str:=["_law_script","_law_place","_law_cells","_law_at_here","_law_digits"]
abbrev a6a:List Str:=["self","ahead","price"]
abbrev a7a:List Str:=["_law_script"]
abbrev a8a:List Str:=["store","level"]
abbrev a9a:List Str:=["self"]
abbrev baa:List Str:=["lone","head","tail"]
abbrev bba:List Str:=["layers","ways_at"]
abbrev bca:List Str:=["_law_spec_here","_law_machines","_law_store_here"]
abbrev bda:List Str:=["works","want","lones","heads","tails","by_drawn"]
abbrev bea:List Str:=["machine","ways"]
abbrev bfa:List Str:=["_law_thing"]
abbrev bga:List Str:=["drawn","worth","price"]
abbrev bha:List Str:=["self","output"]
abbrev bia:List Str:=["machine"]
abbrev bja:List Str:=["_law_hour","_law_by","_law_hand","_law_lack"]
abbrev bka:List Str:=["machine","state","ways","on","later","cost"]
abbrev bla:List Str:=["_law_hand"]
abbrev bma:List Str:=["want","by_drawn","price","bound","worths"]
abbrev bna:List Str:=["lone","head","price"]
abbrev boa:List Str:=["_law_k","_law_by","_law_hand","_law_wide"]
abbrev bpa:List Str:=["_law_hand","_law_spec_here","_law_states"]
abbrev bqa:List Str:=["works","position","hours","lones"]
abbrev bra:List Str:=["output","cost","later","machine"]
abbrev bsa:List Str:=["hour","place","prices","self"]
def top(i:Nat):Stmt:=PySem.Challenge.pw_stintwise_k75_prices_raised.main.body.getD i (.Pass ⟨0,0,0,0⟩)
abbrev m9:Stmt:=top 55
abbrev rZ:Stmt:=top 56
abbrev wV:Stmt:=top 57
abbrev pI:Stmt:=top 77
abbrev nU:Stmt:=top 58
abbrev wW:Stmt:=top 10
abbrev sA:Stmt:=top 11
abbrev Qw:Stmt:=top 33
abbrev wX:Stmt:=top 34
abbrev iZ:Stmt:=top 35
abbrev mH:Stmt:=inClass (top 36) 0
abbrev sC:Stmt:=top 59
abbrev mI:Stmt:=top 60
abbrev nB:Stmt:=top 67
abbrev Qa:Stmt:=top 13
abbrev nV:Stmt:=top 14
abbrev pJ:Stmt:=top 61
abbrev pK:Stmt:=top 65
abbrev wY:Stmt:=top 25
abbrev pL:Stmt:=inClass (top 26) 0
abbrev sD:Stmt:=top 18
abbrev mJ:Stmt:=top 19
abbrev pM:Stmt:=top 20
abbrev wZ:Stmt:=top 21
abbrev pN:Stmt:=top 2
abbrev mK:Stmt:=top 3
abbrev jU:Stmt:=top 4
abbrev nW:Stmt:=top 15
abbrev i8:Stmt:=top 39
abbrev pO:Stmt:=inClass (top 40) 0
abbrev pP:Stmt:=top 62
abbrev nX:Stmt:=top 71
abbrev fX:Stmt:=top 68
abbrev lJ:Stmt:=top 69
abbrev iG:Stmt:=top 70
abbrev mL:Stmt:=top 27
abbrev nY:Stmt:=top 28
abbrev w4:Stmt:=top 29
abbrev jV:Stmt:=top 16
abbrev lK:Stmt:=top 22
abbrev pQ:Stmt:=top 63
abbrev jW:Stmt:=top 74
abbrev pR:Stmt:=top 72
abbrev sE:Stmt:=top 64
abbrev jA:Stmt:=top 75
abbrev pS:Stmt:=top 76
abbrev jZ:Stmt:=top 73
abbrev jB:Stmt:=inClass (top 36) 1
abbrev jC:Stmt:=inClass (top 36) 2
abbrev sF:Stmt:=inClass (top 42) 0
abbrev fH:Stmt:=inClass (top 42) 1
abbrev cD:Stmt:=inClass (top 42) 2
abbrev fJ:Stmt:=inClass (top 42) 3
abbrev gF:Stmt:=inClass (top 42) 4
abbrev fK:Stmt:=inClass (top 42) 5
abbrev pT:Stmt:=top 43
abbrev fY:Stmt:=top 44
abbrev mM:Stmt:=top 45
abbrev jD:Stmt:=top 46
abbrev pU:Stmt:=top 47
abbrev pV:Stmt:=top 49
abbrev pW:Stmt:=top 50
abbrev jE:Stmt:=top 52
abbrev lM:Stmt:=top 51
abbrev gH:Stmt:=top 53
abbrev Qv:Stmt:=top 78
abbrev pX:Stmt:=top 79
abbrev pY:Stmt:=top 80
abbrev GN:Stmt:=top 81
theorem gS:aX a5a aVa (aL m9):={}
theorem gU:aX ["_law_hand","_law_many","_law_got","_law_cell","_law_number"] a4a (aL rZ):={}
theorem nC:aX ["_law_hand","_law_bound_here","_law_total","_law_k"] aRa (aL wV):={}
theorem aDK:aX bfa bfa (aL pI):={}
theorem aCA:aX bla bla (aL nU):={}
theorem aGX:aX fv fv (aL wW):={}
theorem aFx:aX fv fv (aL sA):={}
theorem aIo:aX fv fv (aL Qw):={}
theorem aGY:aX fv fv (aL wX):={}
theorem aDL:aX fv fv (aL iZ):={}
theorem fO:aX ["self","up","down","begin","run","rest","least","pieces","spans","costs","at","fits"] aea (aL mH):={}
theorem dS:aX ["_law_hand","_law_by","_law_longest","_law_up","_law_down","_law_costs","_law_least","_law_rate","_law_pieces","_law_k"] awa (aL sC):={}
theorem aBC:aX ana ana (aL mI):={}
theorem aFy:aX ada ada (aL nB):={}
theorem aKo:aX ue ue (aL Qa):={}
theorem aCB:aX ue ue (aL nV):={}
theorem aDM:aX kf kf (aL pJ):={}
theorem aDN:aX aba aba (aL pK):={}
theorem aGZ:aX fv fv (aL wY):={}
theorem j0:aX ["self","cap","into","out","takes","gives","depths","at","fits"] apa (aL pL):={}
theorem lN:aX ["machine","state","run","hour","on"] ba (aL sD):={}
theorem qL:aX ["machine","state","run","fault"] ba (aL mJ):={}
theorem fT:aX ["machine","state","run","begins","ahead","hour","on"] ba (aL pM):={}
theorem aA4:aX ["machine","state","run","begins"] ba (aL wZ):={}
theorem aG0:aX aXa aXa (aL pN):={}
theorem kU:aX ["places","hour","behind","ways_at","worths","place"] axa (aL mK):={}
theorem dP:aX ["layers","ways_at","behind","place","worths","hour"] bba (aL jU):={}
theorem eW:aX ["machine","ways","later","state","many","on","behind"] bea (aL nW):={}
theorem aBD:aX fv fv (aL i8):={}
theorem j7:aX ["self","machines","store","lack","is_store","at","fits"] aDa (aL pO):={}
theorem j8:aX ["_law_hand","_law_by","_law_gives","_law_takes"] afa (aL pP):={}
theorem aCC:aX ara ara (aL nX):={}
theorem cF:aX aya a3a (aL fX):={}
theorem j9:aX bca ana (aL lJ):={}
theorem oN:aX bpa kf (aL iG):={}
theorem kW:aX ["store","level","hours","lowest","highest"] aga (aL mL):={}
theorem aCD:aX a8a a8a (aL nY):={}
theorem aA5:aX ["store","level","later","each"] a1a (aL w4):={}
theorem eR:aX ["machine","state","hours","ways","layers","hour"] gr (aL jV):={}
theorem aDO:aX aja aja (aL lK):={}
theorem aDP:aX ama ama (aL pQ):={}
theorem cC:aX ["_law_spec_here","_law_state_here","_law_prices_here","_law_known","_law_price_here","_law_later","_law_one","_law_runs","_law_on","_law_two","_law_worth"] aha (aL jW):={}
theorem aDQ:aX aca aca (aL pR):={}
theorem aFz:aX afa afa (aL sE):={}
theorem cJ:aX ["_law_store_here","_law_level","_law_prices_here","_law_known","_law_price_here","_law_later","_law_one","_law_two","_law_worth"] ala (aL jA):={}
theorem dW:aX ["_law_spec_here","_law_position_here","_law_wants","_law_prices_here","_law_bound_here","_law_price_here","_law_want_here","_law_one","_law_state_here"] p9 (aL pS):={}
theorem aCE:aX gz gz (aL jZ):={}
theorem aBE:aX a9a a9a (aL jB):={}
theorem cK:aX ["self","output","wanted","cost","amount","rate","taken"] bha (aL jC):={}
theorem aFA:aX aPa aPa (aL sF):={}
theorem uT:aX ava ava (aL fH):={}
theorem rE:aX aIa aIa (aL cD):={}
theorem oO:aX a9a a9a (aL fJ):={}
theorem cH:aX ["self","ahead","price","behind","place","worth","drawn","later","own"] a6a (aL gF):={}
theorem bW:aX ["self","ahead","behind","worths","place","worth","drawn","later","cost","whole"] a2a (aL fK):={}
theorem kA:aX ["machine","corners","amount","rate"] bia (aL pT):={}
theorem eE:aX bka aja (aL fY):={}
theorem fP:aX ["machine","state","hours","layers","ways","layer","place"] gr (aL mM):={}
theorem nZ:aX aWa aga (aL jD):={}
theorem aA6:aX bqa aUa (aL pU):={}
theorem nE:aX bma aYa (aL pV):={}
theorem fU:aX ["lack","want","by_drawn","low","high","middle"] aZa (aL pW):={}
theorem aBF:aX asa asa (aL jE):={}
theorem vA:aX bda ata (aL lM):={}
theorem eI:aX aka aoa (aL gH):={}
theorem mN:aX ["_law_case","_law_hour","_law_price_here","_law_spec_here","_law_position_here","_law_wants","_law_prices_here"] aqa (aL Qv):={}
theorem fV:aX ["_law_hand","_law_case","_law_hour","_law_found_here","_law_lack","_law_best","_law_others","_law_k","_law_price_here"] aia (aL pX):={}
theorem dX:aX ["_law_hand","_law_works_here","_law_spec_here","_law_asked","_law_position_here","_law_wants","_law_prices_here","_law_hour","_law_handed","_law_found_here","_law_case"] aaa (aL pY):={}
theorem fL:aX aa a7a (aL GN):={}
theorem BL{n:Nat}:∀{us:ah},us.length=n+1->∃a r,us=a::r/\r.length=n
 |a::r,h=>⟨a,r,rfl,Nat.succ.inj h⟩
theorem Xs(us:ah)(h:us.length=1):∃a0,us=[a0]:=by obtain⟨a,r,rfl,g⟩:=BL h;cases List.eq_nil_of_length_eq_zero g;exact⟨a,rfl⟩
theorem Od(us:ah)(h:us.length=2):∃a0 a1,us=[a0,a1]:=by obtain⟨a0,r,rfl,g⟩:=BL h;obtain⟨a1,rfl⟩:=Xs r g;exact⟨a0,a1,rfl⟩
theorem Xr(us:ah)(h:us.length=3):∃a0 a1 a2,us=[a0,a1,a2]:=by obtain⟨a0,r,rfl,g⟩:=BL h;obtain⟨a1,a2,rfl⟩:=Od r g;exact⟨a0,a1,a2,rfl⟩
theorem Xq(us:ah)(h:us.length=4):∃a0 a1 a2 a3,us=[a0,a1,a2,a3]:=by obtain⟨a0,r,rfl,g⟩:=BL h;obtain⟨a1,a2,a3,rfl⟩:=Xr r g;exact⟨a0,a1,a2,a3,rfl⟩
theorem Xp(us:ah)(h:us.length=5):∃a0 a1 a2 a3 a4,us=[a0,a1,a2,a3,a4]:=by obtain⟨a0,r,rfl,g⟩:=BL h;obtain⟨a1,a2,a3,a4,rfl⟩:=Xq r g;exact⟨a0,a1,a2,a3,a4,rfl⟩
theorem Xo(us:ah)(h:us.length=6):∃a0 a1 a2 a3 a4 a5,us=[a0,a1,a2,a3,a4,a5]:=by obtain⟨a0,r,rfl,g⟩:=BL h;obtain⟨a1,a2,a3,a4,a5,rfl⟩:=Xp r g;exact⟨a0,a1,a2,a3,a4,a5,rfl⟩
theorem ar7(us:ah)(h:us.length=7):∃a0 a1 a2 a3 a4 a5 a6,us=[a0,a1,a2,a3,a4,a5,a6]:=by obtain⟨a0,r,rfl,g⟩:=BL h;obtain⟨a1,a2,a3,a4,a5,a6,rfl⟩:=Xo r g;exact⟨a0,a1,a2,a3,a4,a5,a6,rfl⟩
theorem ar8(us:ah)(h:us.length=8):∃a0 a1 a2 a3 a4 a5 a6 a7,us=[a0,a1,a2,a3,a4,a5,a6,a7]:=by obtain⟨a0,r,rfl,g⟩:=BL h;obtain⟨a1,a2,a3,a4,a5,a6,a7,rfl⟩:=ar7 r g;exact⟨a0,a1,a2,a3,a4,a5,a6,a7,rfl⟩
set_option genInjectivity false in
set_option genSizeOf false in
structure Adr where
 aA7:Addr
 aA8:FuncData
 aA9:Addr
 aBa:FuncData
 aCF:Addr
 aCG:FuncData
 yB:Addr
 yC:FuncData
 vB:Addr
 vC:FuncData
 aCH:Addr
 aCI:FuncData
 aBb:Addr
 aBc:FuncData
 aEO:Addr
 aEP:FuncData
 aCJ:Addr
 aCK:FuncData
 yD:Addr
 yE:FuncData
 mO:Addr
 sG:FuncData
 aBd:Addr
 aBe:FuncData
 sI:Addr
 sJ:FuncData
 aBf:Addr
 aBg:FuncData
 ZZ:Addr
 ZY:FuncData
 vD:Addr
 vE:FuncData
 yF:Addr
 yG:FuncData
 yH:Addr
 yI:FuncData
 aCL:Addr
 aCM:FuncData
 pZ:Addr
 yJ:FuncData
 aBh:Addr
 aBi:FuncData
 sL:Addr
 sM:FuncData
 yK:Addr
 yL:FuncData
 aCN:Addr
 aCO:FuncData
 aCP:Addr
 aCQ:FuncData
 sN:Addr
 sO:FuncData
 oP:Addr
 oQ:FuncData
 vF:Addr
 vG:FuncData
 sP:Addr
 sQ:FuncData
 qA:Addr
 yM:FuncData
 yN:Addr
 yO:FuncData
 vH:Addr
 vI:FuncData
 nF:Addr
 nG:FuncData
 yP:Addr
 yQ:FuncData
 qM:Addr
 qN:FuncData
 sR:Addr
 sS:FuncData
 vJ:Addr
 vK:FuncData
 aCR:Addr
 aCS:FuncData
 oR:Addr
 oS:FuncData
 yR:Addr
 yS:FuncData
 yT:Addr
 yU:FuncData
 oU:Addr
 oV:FuncData
 yV:Addr
 yW:FuncData
 aBj:Addr
 aBk:FuncData
 nH:Addr
 nI:FuncData
 yX:Addr
 yY:FuncData
 vL:Addr
 vM:FuncData
 mP:Addr
 sU:FuncData
 jF:Addr
 nJ:FuncData
 sV:Addr
 aBl:FuncData
 iM:Addr
 mQ:FuncData
 gI:Addr
 gJ:FuncData
 fM:Addr
 jG:FuncData
 gK:Addr
 kM:FuncData
 fN:Addr
 jH:FuncData
 yZ:Addr
 y4:FuncData
 nK:Addr
 nL:FuncData
 sW:Addr
 sX:FuncData
 y6:Addr
 y7:FuncData
 aCT:Addr
 aCU:FuncData
 aCV:Addr
 aCW:FuncData
 y8:Addr
 y9:FuncData
 sY:Addr
 sZ:FuncData
 zA:Addr
 zB:FuncData
 tD:Addr
 tE:FuncData
 aEQ:Addr
 aER:FuncData
 zC:Addr
 zD:FuncData
 zE:Addr
 zF:FuncData
 XY:Addr
 XX:FuncData
 ip:Addr
 dN:Addr
 cS:Addr
 bA:Addr
 cN:Addr
 dU:Addr
structure Txt(K:W.Frag)(mg:Str->ay)(a:Adr):Prop where
 lz:FG K mg "_law_open" m9 a.aA7 a.aA8 aVa
 af:FG K mg "_law_draw" rZ a.aA9 a.aBa a4a
 jd:FG K mg "_law_far" wV a.aCF a.aCG aRa
 jr:FG K mg "_law_whole" pI a.yB a.yC bfa
 dt:FG K mg "_law_factor" nU a.vB a.vC bla
 ff:FG K mg "is_whole" wW a.aCH a.aCI fv
 bo:FG K mg "is_amount" sA a.aBb a.aBc fv
 ku:FG K mg "is_span" Qw a.aEO a.aEP fv
 nk:FG K mg "is_piece" wX a.aCJ a.aCK fv
 jo:FG K mg "are_pieces" iZ a.yD a.yE fv
 ic:FB K "__init__" "Machine.__init__" mH a.mO a.sG aea
 ly:FG K mg "_law_spec" sC a.aBd a.aBe awa
 ia:FG K mg "_law_machine" mI a.sI a.sJ ana
 md:FG K mg "_law_gain" nB a.aBf a.aBg ada
 ft:FG K mg "may_be" Qa a.ZZ a.ZY ue
 ck:FG K mg "state_after" nV a.vD a.vE ue
 jt:FG K mg "_law_state" pJ a.yF a.yG kf
 jy:FG K mg "_law_after" pK a.yH a.yI aba
 fg:FG K mg "is_depth" wY a.aCL a.aCM fv
 ka:FB K "__init__" "Store.__init__" pL a.pZ a.yJ apa
 lu:FG K mg "run_fault" sD a.aBh a.aBi ba
 gg:FG K mg "refuse_fault" mJ a.sL a.sM ba
 jh:FG K mg "run_begins" pM a.yK a.yL ba
 ng:FG K mg "run_cost" wZ a.aCN a.aCO ba
 nj:FG K mg "least_of" pN a.aCP a.aCQ aXa
 fz:FG K mg "worths_ahead" mK a.sN a.sO axa
 bx:FG K mg "worths_by_hour" jU a.oP a.oQ bba
 iw:FG K mg "ways_one_on" nW a.vF a.vG bea
 gy:FG K mg "are_machines" i8 a.sP a.sQ fv
 jz:FB K "__init__" "Works.__init__" pO a.qA a.yM aDa
 js:FG K mg "_law_store" pP a.yN a.yO afa
 ja:FG K mg "_law_levels" nX a.vH a.vI ara
 dh:FG K mg "_law_works_spec" fX a.nF a.nG a3a
 jq:FG K mg "_law_works" lJ a.yP a.yQ ana
 cu:FG K mg "_law_position" iG a.qM a.qN kf
 cx:FG K mg "levels_after" mL a.sR a.sS aga
 iy:FG K mg "levels_from" nY a.vJ a.vK a8a
 nt:FG K mg "drawn_by" w4 a.aCR a.aCS a1a
 dy:FG K mg "states_by_hour" jV a.oR a.oS gr
 ji:FG K mg "next_hours" lK a.yR a.yS aja
 jv:FG K mg "_law_price" pQ a.yT a.yU ama
 dz:FG K mg "_law_least_run" jW a.oU a.oV aha
 jw:FG K mg "_law_drawn" pR a.yV a.yW aca
 fu:FG K mg "_law_want" sE a.aBj a.aBk afa
 di:FG K mg "_law_least_path" jA a.nH a.nI ala
 jx:FG K mg "_law_bound" pS a.yX a.yY p9
 iz:FG K mg "_law_prices" jZ a.vL a.vM gz
 ib:FB K "most" "Machine.most" jB a.mP a.sU a9a
 dj:FB K "cost_at" "Machine.cost_at" jC a.jF a.nJ bha
 fw:FB K "__init__" "Lone.__init__" sF a.sV a.aBl aPa
 b8:FB K "priced_ways" "Lone.priced_ways" fH a.iM a.mQ ava
 cm:FB K "worths_to_end" "Lone.worths_to_end" cD a.gI a.gJ aIa
 cg:FB K "worths_at_first" "Lone.worths_at_first" fJ a.fM a.jG a9a
 cn:FB K "worths_behind" "Lone.worths_behind" gF a.gK a.kM a6a
 cb:FB K "worths_by_drawn" "Lone.worths_by_drawn" fK a.fN a.jH a2a
 jm:FG K mg "corners_of" pT a.yZ a.y4 bia
 dg:FG K mg "ways_of_machine" fY a.nK a.nL aja
 gj:FG K mg "lone_machine" mM a.sW a.sX gr
 jk:FG K mg "lone_store" jD a.y6 a.y7 aga
 ni:FG K mg "lones_of" pU a.aCT a.aCU aUa
 jc:FG K mg "bound_at" pV a.aCV a.aCW aYa
 jl:FG K mg "least_best" pW a.y8 a.y9 aZa
 gv:FG K mg "heads_behind" jE a.sY a.sZ asa
 jn:FG K mg "best_price" lM a.zA a.zB ata
 gi:FG K mg "raised_price" gH a.tD a.tE aoa
 iq:FG K mg "_law_at" Qv a.aEQ a.aER aqa
 ju:FG K mg "_law_right" pX a.zC a.zD aia
 fh:FG K mg "_law_found" pY a.zE a.zF aaa
 Im:FG K mg "law" GN a.XY a.XX a7a
 kX:mw K a.cS
 Yj:mg "Lone" = some (.ref a.cS)
 Yi:Mk K a.cS a.sV
 cy:Meth K a.cS "priced_ways" a.iM
 ie:Meth K a.cS "worths_to_end" a.gI
 fj:Meth K a.cS "worths_at_first" a.fM
 ig:Meth K a.cS "worths_behind" a.gK
 fi:Meth K a.cS "worths_by_drawn" a.fN
 oA:cX K a.cS "layers"
 tF:cX K a.cS "ways"
 cE:mw K a.bA
 aES:mg "Machine" = some (.ref a.bA)
 aKp:Mk K a.bA a.mO
 oa:Meth K a.bA "most" a.mP
 kb:Meth K a.bA "cost_at" a.jF
 zG:cX K a.bA "up"
 tG:cX K a.bA "down"
 qO:cX K a.bA "begin"
 vN:cX K a.bA "run"
 tH:cX K a.bA "rest"
 fQ:cX K a.bA "least"
 gW:cX K a.bA "pieces"
 xg:LZ K a.bA
 iH:mw K a.cN
 YY:mg "Store" = some (.ref a.cN)
 aOg:Mk K a.cN a.pZ
 tI:cX K a.cN "cap"
 zH:cX K a.cN "into"
 aBm:cX K a.cN "out"
 vO:cX K a.cN "takes"
 vP:cX K a.cN "gives"
 BK:LZ K a.cN
 qB:mw K a.dU
 aOh:mg "Works" = some (.ref a.dU)
 aOi:Mk K a.dU a.qA
 oW:cX K a.dU "machines"
 oB:cX K a.dU "store"
 zI:cX K a.dU "lack"
 Md:LZ K a.dU
 kN:XG K a.gJ a.ip a.dN
 OM:mg "abs" = none
 GQ:mg "all" = none
 KQ:mg "bool" = none
 gL:mg "enumerate" = none
 E7:mg "int" = none
 cY:mg "isinstance" = none
 mR:mg "len" = none
 jX:mg "list" = none
 zJ:mg "max" = none
 jI:mg "min" = none
 eF:mg "range" = none
 w5:mg "reversed" = none
 Qi:mg "sorted" = none
 Ks:mg "sum" = none
 Li:mg "tuple" = none
 Dx:mg "zip" = none
 oC:∃t,mg "MOST_LEVELS" = some (.int 8 t)
 kY:∃t,mg "LONGEST_STINT" = some (.int 12 t)
 oE:∃t,mg "MOST_PIECES" = some (.int 4 t)
 kZ:∃t,mg "MOST_MACHINES" = some (.int 6 t)
abbrev cP:Pos:=⟨190,43,190,100⟩
abbrev cQ:Str:=(("Lone.worths_to_end" : Str) ++ ".<locals>.") ++ "<lambda>"
inductive Th (H:Hp):V->String->Prop where
 |bt:Th H .bt "NoneType"
 |bl (b:Bool):Th H (.bl b) "bool"
 |int (i:Int):Th H (.int i) "int"
 |str (x:Str):Th H (.str x) "str"
 |lst {p:Addr} {xs:List V} (e:H p=some (.lst xs)):Th H (.ref p) "list"
 |tup {p:Addr} {xs:List V} (e:H p=some (.tup xs)):Th H (.ref p) "tuple"
 |dK {p:Addr} {kvs:List (Key×V)} (e:H p=some (.dK kvs)):Th H (.ref p) "dict"
theorem Th.ty{K:W.Frag}{H:Hp}{v:V}{T:String}(h:Th H v T):xM K H v (.type T):=by
 cases h with
 |bt=>exact .bt
 |bl b=>exact .bl b
 |int i=>exact .int i
 |str x=>exact .str x
 |lst e=>exact .lst e
 |tup e=>exact .tup e
 |dK e=>exact .dK e
theorem Th.keep(h:Th H v T)(n:∀b,v=.ref b->b≠p)(k:bL p H H'):Th H' v T:=by
 cases h with
 |bt=>exact .bt
 |bl b=>exact .bl b
 |int i=>exact .int i
 |str x=>exact .str x
 |lst e=>exact .lst (k _ _ e (n _ rfl))
 |tup e=>exact .tup (k _ _ e (n _ rfl))
 |dK e=>exact .dK (k _ _ e (n _ rfl))
theorem YX(h:Th H v T):CA K H v (.ty "int") (T == "int" || T == "bool"):=by
 refine⟨_,h.ty,.inl ⟨_,rfl,?_⟩⟩;cases h <;> rfl
theorem ZX(h:Th H v T):CA K H v (.ty "bool") (T == "bool"):=by
 refine⟨_,h.ty,.inl ⟨_,rfl,?_⟩⟩;cases h <;> rfl
def Dr:V->Bool
 |.int i=>decide (0<=i) && decide (i<=10 ^ 12)
 |_=>false
structure bE(H:Hp)(p:Addr):Prop where
 ex:∃(d c:Int) (q:Addr) (ms:ae),H p=some (.lst [.int d,.int c,.ref q])/\H q=some (.lst (ms.map V.int))/\ms≠[]/\q≠p
def hV(p:Addr)(H H':Hp):Prop:=∀(d c:Int) (q:Addr),H p=some (.lst [.int d,.int c,.ref q])->∃d' c':Int,H' p=some (.lst [.int d',.int c',.ref q])
theorem hV.trans(a:hV p H H1)(b:hV p H1 H2):hV p H H2:=λd c q e=>by
 obtain⟨d',c',e'⟩:=a d c q e;exact b d' c' q e'
theorem hV.of{H H':Hp}(s:∀o,H p=some o->H' p=some o):hV p H H':=λd c q e=>⟨d,c,s _ e⟩
theorem bE.of(h:bE H p)(k:bL p H H')(s:hV p H H'):bE H' p:=by
 obtain⟨d,c,q,ms,hp,hq,bw,yk⟩:=h.ex;obtain⟨d',c',e⟩:=s d c q hp;exact⟨⟨d',c',q,ms,e,k _ _ hq yk,bw,yk⟩⟩
theorem bE.same(h:bE H p)(s:aO H H'):bE H' p:=by
 obtain⟨d,c,q,ms,hp,hq,bw,yk⟩:=h.ex;exact⟨⟨d,c,q,ms,s _ _ hp,s _ _ hq,bw,yk⟩⟩
theorem ZW(h:Th H v T):CA K H v (.ty "list") (T == "list"):=by
 refine⟨_,h.ty,.inl ⟨_,rfl,?_⟩⟩;cases h <;> rfl
theorem aKq(h:Th H v T):CA K H v (.ty "tuple") (T == "tuple"):=by
 refine⟨_,h.ty,.inl ⟨_,rfl,?_⟩⟩;cases h <;> rfl
theorem Yh{ms:ae}{c:Int}(h:ms≠[]):∃m,m∈ms/\uP (ms.map V.int) (c % ((ms.map V.int).length:Int))=some (.int m):=by
 have hl:0 < ms.length:=Fq.mpr h;have e1:=G6 c (b:=((ms.map V.int).length:Int)) (by rw[bX];lia);have e2:=G8 c (b:=((ms.map V.int).length:Int)) (by rw[bX];lia);obtain⟨j,hj⟩ : ∃j:Nat,c % ((ms.map V.int).length:Int)=(j:Int):=⟨_,(Int.toNat_of_nonneg e1).symm⟩
 rw[hj] at e2 ⊢;rw[bX] at e2;have Dc:j < ms.length:=by lia
 exact⟨ms[j],Cs Dc,iD (by rw[kQ,eS Dc];rfl)⟩
theorem YW(ms:ae)(lo hi:Option Int):∃r:ae,kE (ms.map V.int) lo hi=r.map V.int/\r.length=(kE (ms.map V.int) lo hi).length:=by
 unfold kE;rw[<-List.map_drop,<-List.map_take];exact⟨_,rfl,by simp⟩
theorem rot{ms:ae}{i:Int}(h0:0<=i)(h1:i < ms.length):∃AZ:ae,kE (ms.map V.int) (some i) none++kE (ms.map V.int) none (some i)=AZ.map V.int/\AZ≠[]/\AZ.length<=ms.length+ms.length:=by
 obtain⟨r1,e1,l1⟩:=YW ms (some i) none;obtain⟨r2,e2,l2⟩:=YW ms none (some i);have b1:=eZ (ms.map V.int) (some i) none;have b2:=eZ (ms.map V.int) none (some i);rw[bX] at b1 b2;refine⟨r1++r2,by rw[e1,e2,iK],λz=>?_,by rw[lB];lia⟩;have z1:r1=[]:=(List.append_eq_nil_iff.mp z).1;obtain⟨j,rfl⟩:=Ha h0;have hj:j < ms.length:=by lia
 rw[z1,Lz] at l1;have l3:(kE (ms.map V.int) (some (j:Int)) none).length=ms.length - j:=by
  unfold kE;rw[HT.K0,HT.xN,qa,G7,bX,Ll (Cq hj)];lia
 rw[l3] at l1;lia
inductive zK  (K:W.Frag) (vs:List V) (H:Hp) (Q:VK) (E:XK):Prop
 |mk:∀(a:Addr) (ns:ae) (i:Int),(vs=[.ref a,.int i])->(bR K H a (ns.map V.int))->(ns.length<=63)->(0<=i)->(∀p H',aO H H'->H p=none->bE H' p->Q (.ref p) H')->zK K vs H Q E
theorem aFC(tx:Txt K mg a):bT P w K mg base eY 1 a.aA7 a.aA8 aVa (zK K):=by
 refine tx.lz.F.ok gS (by walk_at "l") λbj A outer s H vs Q E hr h=>?_;obtain⟨a,ns,i,rfl ,hS,hl,h0,k⟩:=h;have hu:=gM hr;refine aZ (aE (fF (k:=1) (idx:=[]) (N:=["_law_cell"]) (i:=2) gS.nd rfl (Or.inl rfl) (dJ (sc:=aL m9) (NX:=a5a) rfl rfl rfl (by decide +kernel)) rfl (bH (K':=K) (eO (rs:=zc K) Bd (aA 0) fD (fE aC))) (λ_ _ _ _=>(aJ (i:=0) (show(["_law_cell"]:ak).Nodup by decide +kernel))) (dI (by decide)) (λ_ _ _ _=>bU) (λ_ _ _ _=>(aP aJU (by rfl) tx.OM aPV (aB (aA 0) aD))))
  (aE (bD (aU (r:=kT K) (eB hu) (aA 2) (lS aD) (bJ _)) (aF (aK (i:=2) gS.nd (iF aC))) aY)
  (aE (aK (i:=3) gS.nd (aI lW (aA 1) (aP (rc:=uR K) dY (by rfl) tx.mR jO (aB (aA 2) aD))))
  (aE (aK (i:=4) gS.nd aC)
  (aE (bD (eN (iN (aU X7 (aH (K':=K) (aA 2) (aA 3)) (aI GY aC aC) (bJ _)) (gE (aU Cm (aA 1) (aP (rc:=uR K) dY (by rfl) tx.mR jO (aB (aA 2) aD)) (bJ _))))) (aF (aK (i:=4) gS.nd (aH (K':=K) (aA 2) (aA 3)))) aY)
  (aF (aM (uH (aA 4) (aI bC aC (aI bV aC (aA 1))) (aI bC (eO (rs:=zc K) Bd (aA 2) (fE (aA 3)) fD) (eO (rs:=zc K) Bd (aA 2) fD (fE (aA 3)))))))))))) ?_
 refine aV (σ:=[some (.ref a),some (.int i),none,none,none]) rfl ?_;refine Yt ?_;walk_at "w";refine lY hS ?_;intro p1 n1;walk_at "w";rw[show kE (ns.map V.int) none (some 63)=ns.map V.int from aLt (n:=63) (by rw[bX];exact hl)];refine eM (bR.of aN) ?_;refine Qm (λv=>match v with|.int i=>.int (if i < 0 then -i else i)|v=>v) (bR.of aN) (cB (by rw[bX];lia)) (λx N N' hx hN=>?_) ?_
 ·obtain⟨y,hy,rfl⟩:=fZ.mp hx;walk_at "w";exact hN
 ·intro p2 n2;repeat walk_at "st"
  have s2:aO H (upd (upd H p1 (.lst (ns.map V.int))) p2 (.lst ((ns.map V.int).map λv=>match v with|.int i=>.int (if i < 0 then -i else i)|v=>v))):=(aO.new n1).trans (aO.new n2);rw[kh] at s2 ⊢;generalize hm:ns.map ((λv=>match v with|V.int i=>V.int (if i < 0 then -i else i)|v=>v) ∘ V.int)=xs at s2 ⊢;obtain⟨ms,rfl⟩ : ∃ms:ae,xs=ms.map V.int:=⟨ns.map λi=>if i < 0 then -i else i,by rw[<-hm,kh];rfl⟩
  have lm:ms.length<=63:=by
   have:=congrArg List.length hm;simp only[bX] at this;lia
  refine fW (λσ' H'=>∃(c:Addr) (ms:ae),σ'=[some (.ref a),some (.int i),some (.ref c),none,none]/\aO H H'/\H' c=some (.lst (ms.map V.int))/\ms≠[]/\ms.length<=63) (λN hN=>?_) ?_
  ·walk_at "w";intro p3 n3;walk_at "w";refine⟨_,PN (bR.of (by walk_at "hp")) (bR.of aN),?_⟩;walk_at "w";refine iE (λh=>?_) (λh=>?_)
   ·walk_at "w";intro p4 n4;walk_at "w";exact hN _ _ ⟨p4,[0],rfl,(s2.trans (aO.new n3)).trans (aO.new n4),aN,by simp,by simp⟩
   ·walk_at "w";refine hN _ _ ⟨p2,ms,rfl,s2.trans (aO.new n3),by walk_at "hp",?_,lm⟩;rintro rfl;simp at h
  ·rintro σ' H' ⟨c,ms,rfl,sH,hc,bw,lm⟩;have hl:0 < ms.length:=Fq.mpr bw;obtain⟨m,_,hm⟩:=Yh (c:=i) bw;have e1:=G6 i (b:=((ms.map V.int).length:Int)) (by rw[bX];lia);have e2:=G8 i (b:=((ms.map V.int).length:Int)) (by rw[bX];lia);obtain⟨AZ,em,en,el⟩:=rot (ms:=ms) e1 (by rw[bX] at e2 ⊢;exact e2);walk_at "w";refine cA (λh=>?_) (λh=>?_)
   ·walk_at "w";refine cA (λh=>?_) (λh=>?_);all_goals
     walk_at "w";refine lY (bR.of hc) ?_;intro p5 n5;walk_at "w";refine lY (bR.of (by walk_at "hp")) ?_;intro p6 n6;walk_at "w";refine iT (by walk_at "hp") (by walk_at "hp") (cB (by have:=eZ (ms.map V.int) (some (i % ((ms.map V.int).length:Int))) none;have:=eZ (ms.map V.int) none (some (i % ((ms.map V.int).length:Int)));simp only[bX] at *;lia)) ?_;intro p7 n7;walk_at "w";rw[em];walk_at "w";intro p8 n8;walk_at "w";have s8:=((aO.new (o:=.lst (kE (ms.map V.int) (some (i % ((ms.map V.int).length:Int))) none)) n5).trans (aO.new (o:=.lst (kE (ms.map V.int) none (some (i % ((ms.map V.int).length:Int))))) n6)).trans (aO.new (o:=.lst (AZ.map V.int)) n7);refine k _ _ (sH.trans (s8.trans (aO.new n8))) ((sH.trans s8).free n8) ⟨⟨_,_,_,AZ,aN,by walk_at "hp",en,?_⟩⟩;exact bB n8 aN
   ·walk_at "w";refine lY (bR.of hc) ?_;intro p5 n5;walk_at "w";refine lY (bR.of (by walk_at "hp")) ?_;intro p6 n6;walk_at "w";refine iT (by walk_at "hp") (by walk_at "hp") (cB (by have:=eZ (ms.map V.int) (some (i % ((ms.map V.int).length:Int))) none;have:=eZ (ms.map V.int) none (some (i % ((ms.map V.int).length:Int)));simp only[bX] at *;lia)) ?_;intro p7 n7;walk_at "w";rw[em];walk_at "w";intro p8 n8;walk_at "w";have s8:=((aO.new (o:=.lst (kE (ms.map V.int) (some (i % ((ms.map V.int).length:Int))) none)) n5).trans (aO.new (o:=.lst (kE (ms.map V.int) none (some (i % ((ms.map V.int).length:Int))))) n6)).trans (aO.new (o:=.lst (AZ.map V.int)) n7);refine k _ _ (sH.trans (s8.trans (aO.new n8))) ((sH.trans s8).free n8) ⟨⟨_,_,_,AZ,aN,by walk_at "hp",en,?_⟩⟩;exact bB n8 aN
inductive zM  (K:W.Frag) (vs:List V) (H:Hp) (Q:VK) (E:XK):Prop
 |mk:∀(p:Addr) (n:Int),(vs=[.ref p,.int n])->bE H p->(0 < n)->(n < 1073741824)->(∀(r:Int) H',0<=r->r < n->bE H' p->bL p H H'->hV p H H'->Q (.int r) H')->zM K vs H Q E
theorem cZ(tx:Txt K mg a):bT P w K mg base eY 1 a.aA9 a.aBa a4a (zM K):=by
 refine tx.af.F.ok gU (by walk_at "l") λbj A outer s H vs Q E hr h=>?_;obtain⟨p,n,rfl ,hh,h0,h1,k⟩:=h;have hu:=gM hr;refine aZ (aE (bD (aU rP (aH (K':=K) (aA 0) aC) aC (bJ _)) (aE (aK (i:=2) gU.nd (aI lW (aH (K':=K) (aA 0) aC) (aA 1)))
  (aE (jS (aI La (aH (K':=K) (aA 0) aC) (aA 1)) (oK (aA 0) aC set_list))
  (aF (aM (aA 2))))) aY)
  (aE (aHW (aA 0) aC aPX aC Fj set_list)
  (aE (aK (i:=3) gU.nd (aI lW (aH (K':=K) (aH (K':=K) (aA 0) aC) (aI lW (aH (K':=K) (aA 0) aC) (aP (rc:=uR K) dY (by rfl) tx.mR jO (aB (aH (K':=K) (aA 0) aC) aD)))) aC))
  (aE (aK (i:=4) gU.nd (aI lW (aI bC (aI bC (aI bV (aA 3) aC) (aI bV (aH (K':=K) (aA 0) aC) aC)) aC) aC))
  (aE (aK (i:=4) gU.nd (aI lW (aI bC (aI bV (aA 4) (aA 4)) (aH (K':=K) (aA 0) aC)) aC))
  (aE (aK (i:=4) gU.nd (aI lW (aI bC (aI bV (aA 4) aC) aC) aC))
  (aF (aM (aI lW (aI La (aI lW (aI bV (aA 4) (aA 4)) aC) aC) (aA 1)))))))))) ?_
 obtain⟨d,c,q,ms,hp,hq,bw,yk⟩:=hh.ex;refine aV (σ:=[some (.ref p),some (.int n),none,none,none]) rfl ?_;walk_at "w";refine cA (λhd=>?_) (λhd=>?_)
 ·walk_at "w";refine uE hp rfl ?_;walk_at "w";refine k _ _ (G6 _ (by lia)) (G8 _ h0) ⟨⟨_,c,q,ms,aN,by walk_at "hp",bw,yk⟩⟩ bL.upd (λd0 c0 q0 e0=>by rw[hp] at e0;cases e0;exact⟨_,_,aN⟩)
 ·walk_at "w";refine aP3 (bR.of hp) (by decide) rfl ?_;walk_at "w";refine uE hp rfl ?_;obtain⟨m,_,hm⟩:=Yh (c:=c+1) bw;have hlen:0 < ((ms.map V.int).length:Int):=by rw[bX];have:=Fq.mpr bw;lia
  walk_at "w";have om:(upd H p (.lst [.int d,.int (c+1),.ref q])) q=some (.lst (ms.map V.int)):=by walk_at "hp"
  walk_at "w";exact k _ _ (G6 _ (by lia)) (G8 _ h0) ⟨⟨d,c+1,q,ms,aN,om,bw,yk⟩⟩ bL.upd (λd0 c0 q0 e0=>by rw[hp] at e0;cases e0;exact⟨_,_,aN⟩)
inductive aBn  (K:W.Frag) (vs:List V) (H:Hp) (Q:VK) (E:XK):Prop
 |mk:∀(p:Addr) (b:Int),(vs=[.ref p,.int b])->bE H p->(0 < b)->(∀(r:Int) H',0<=r->r < b->bE H' p->bL p H H'->hV p H H'->Q (.int r) H')->aBn K vs H Q E
theorem aBo(tx:Txt K mg a):bT P w K mg base eY 2 a.aCF a.aCG aRa (aBn K):=by
 have aS:=cZ (P:=P) (w:=w) (base:=base) tx;refine tx.jd.F.ok nC (by walk_at "l") λbj A outer s H vs Q E hr h=>?_;obtain⟨p,b,rfl ,hh,h0,k⟩:=h;have hu:=gM hr;refine aZ (aE (aK (i:=2) nC.nd aC)
  (aE (bI PassesOwn.never rfl (cL (by rfl) tx.eF (aB aC aD)) (aJ (i:=3) nC.nd) (aF (aK (i:=2) nC.nd (aI bC (aI bV (aA 2) aC) (bg aS hr tx.af (aB (aA 0) (aB aC aD)))))))
  (aF (aM (aI lW (aA 2) (aA 1)))))) ?_
 refine aV (σ:=[some (.ref p),some (.int b),none,none]) rfl ?_;walk_at "w";refine⟨by decide,by decide,?_⟩;refine lZ (n:=11) (λi σ' H'=>∃(t:Int) (x:Option V),σ'=[some (.ref p),some (.int b),some (.int t),x]/\bE H' p/\bL p H H'/\hV p H H') ⟨0,none,rfl,hh,λ_ _ e _=>e,hV.of λ_ e=>e⟩ (λi σ' H' hi z7q=>?_) (λσ' H' z8q=>?_)
 ·obtain⟨t,x,e,h',kp,sq⟩:=z7q;subst e;walk_at "w";refine⟨p,_,rfl,h',by decide,by decide,λr H2 r0 r1 h2 k2 q2=>?_⟩;walk_at "w";exact⟨_,_,rfl,h2,kp.trans k2,sq.trans q2⟩
 ·obtain⟨t,x,e,h',kp,sq⟩:=z8q;subst e;walk_at "w";exact k _ _ (G6 _ (by lia)) (G8 _ h0) h' kp sq
inductive vQ  (K:W.Frag) (vs:List V) (H:Hp) (Q:VK) (E:XK):Prop
 |mk:∀v T,(vs=[v])->Th H v T->(Q (.bl (T == "int")) H)->vQ K vs H Q E
theorem aDR(tx:Txt K mg a):bT P w K mg base eY 1 a.yB a.yC bfa (vQ K):=by
 refine tx.jr.F.ok aDK (by walk_at "l") λbj A outer s H vs Q E hr h=>?_;obtain⟨v,T,rfl ,ht,k⟩:=h;have hu:=gM hr;refine aZ (aF (aM (jR (aP (rc:=zb K) gO (by rfl) tx.cY dF (aB (aA 0) (aB (iL (v:=.ty "int") (by rfl) tx.E7 KL rfl) aD))) (gQ (aEB (aP (rc:=zb K) gO (by rfl) tx.cY dF (aB (aA 0) (aB (iL (v:=.ty "bool") (by rfl) tx.KQ Y5 rfl) aD)))))))) ?_;refine aV (σ:=[some v]) rfl ?_;walk_at "w";refine pE (YX ht) ?_;walk_at "w";refine iE (λh=>?_) (λh=>?_)
 ·walk_at "w";refine pE (ZX ht) ?_;walk_at "w";have e:(!(T == "bool"))=(T == "int"):=by cases ht <;> first|rfl|cases h
  rw[e];exact k
 ·have e:(T == "int")=false:=by cases ht <;> first|rfl|cases h
  rw[e] at k;exact k
inductive tJ  (K:W.Frag) (vs:List V) (H:Hp) (Q:VK) (E:XK):Prop
 |mk:∀(p:Addr),(vs=[.ref p])->bE H p->(∀(r:Int) H',1<=r->r<=50000000000->bE H' p->bL p H H'->hV p H H'->Q (.int r) H')->tJ K vs H Q E
theorem aCZ(tx:Txt K mg a):bT P w K mg base eY 3 a.vB a.vC bla (tJ K):=by
 have aS:=cZ (P:=P) (w:=w) (base:=base) tx;have w6:=aBo (P:=P) (w:=w) (base:=base) tx;refine tx.dt.F.ok aCA (by walk_at "l") λbj A outer s H vs Q E hr h=>?_;obtain⟨p,rfl ,hh,k⟩:=h;have hu:=gM hr;refine aZ (aE (bD (aU rP (bg aS hr tx.af (aB (aA 0) (aB aC aD))) aC (bJ _)) (aF (aM aC)) aY)
  (aF (aM (aI bC aC (bg w6 hr tx.jd (aB (aA 0) (aB (aI bV aC (aI GY aC aC)) aD))))))) ?_
 refine aV (σ:=[some (.ref p)]) rfl ?_;walk_at "w";refine⟨p,_,rfl,hh,by decide,by decide,λr1 H1 a1 b1 h1 k1 q1=>?_⟩;walk_at "w";refine cA (λh=>?_) (λh=>?_)
 ·walk_at "w";exact k _ _ (by decide) (by decide) h1 k1 q1
 ·walk_at "w";refine⟨p,_,rfl,h1,by decide,λr2 H2 a2 b2 h2 k2 q2=>?_⟩;have b3:r2 < 50000000000:=b2;walk_at "w";exact k _ _ (by lia) (by lia) h2 (k1.trans k2) (q1.trans q2)
structure MS where
 up:Int
 down:Int
 begin_:Int
 run:Int
 rest:Int
 least:Int
 pieces:aw
def Am(i:Int):Prop:=0<=i/\i<=1000000000000
structure KP(ps:aw):Prop where
 len:ps.length<=4
 pc:∀t∈ps,1<=t.1/\Am t.1/\Am t.2
 up:∀(j:Nat) t u,ps[j]?=some t->ps[j+1]?=some u->t.2<=u.2
structure MS.Good(m:MS):Prop where
 up:1<=m.up/\m.up<=12
 down:1<=m.down/\m.down<=12
 begin_:Am m.begin_
 run:Am m.run
 rest:Am m.rest
 least:Am m.least
 pieces:KP m.pieces
structure tK(H:Hp)(qs:au)(ps:aw):Prop where
 len:qs.length=ps.length
 at_:∀(j:Nat) q t,qs[j]?=some q->ps[j]?=some t->H q=some (.tup [.int t.1,.int t.2])
structure uU(H:Hp)(p:Addr)(ps:aw):Prop where
 ex:∃qs,H p=some (.lst (qs.map V.ref))/\tK H qs ps
structure dB(H:Hp)(s:Addr)(m:MS):Prop where
 ex:∃pl,H s=some (.lst [.int m.up,.int m.down,.int m.begin_,.int m.run,.int m.rest,.int m.least,.ref pl])/\uU H pl m.pieces
def Al(m:MS)(pl:Addr):List (Str×V):=[("up",.int m.up),("down",.int m.down),("begin",.int m.begin_),("run",.int m.run),("rest",.int m.rest),("least",.int m.least),("pieces",.ref pl)]
structure cT(C:Addr)(H:Hp)(a:Addr)(m:MS):Prop where
 ex:∃dx pl,H a=some (.ins C dx (Al m pl))/\uU H pl m.pieces
theorem tK.at2{H:Hp}{ps:aw}(h:tK H qs ps)(hq:q∈qs):∃t∈ps,H q=some (.tup [.int t.1,.int t.2]):=by
 obtain⟨j,hj,rfl⟩:=LB hq;have pj:j < ps.length:=by rw[<-h.len];exact hj
 exact⟨ps[j],Cs pj,h.at_ j _ _ (eS hj) (eS pj)⟩
theorem tK.same{ps:aw}(h:tK H qs ps)(s:aO H H'):tK H' qs ps:=⟨h.len,λj q t h1 h2=>s _ _ (h.at_ j q t h1 h2)⟩
theorem uU.same{ps:aw}(h:uU H p ps)(s:aO H H'):uU H' p ps:=by
 obtain⟨qs,h1,h2⟩:=h.ex;exact⟨qs,s _ _ h1,h2.same s⟩
theorem dB.same(h:dB H p m)(s:aO H H'):dB H' p m:=by
 obtain⟨pl,h1,h2⟩:=h.ex;exact⟨pl,s _ _ h1,h2.same s⟩
theorem cT.same(h:cT C H p m)(s:aO H H'):cT C H' p m:=by
 obtain⟨dx,pl,h1,h2⟩:=h.ex;exact⟨dx,pl,s _ _ h1,h2.same s⟩
theorem tK.keep{H:Hp}{ps:aw}(h:tK H qs ps)(hp:∀xs,H p≠some (.tup xs))(s:bL p H H'):tK H' qs ps:=
 ⟨h.len,λj q t h1 h2=>by
  have e:=h.at_ j q t h1 h2;exact s _ _ e (λz=>hp _ (z▸e))⟩
theorem bE.GD(h:bE H p)(xs:List V):H p≠some (.tup xs):=λz=>by
 obtain⟨d,c,q,ms,hp,_⟩:=h.ex;rw[hp] at z;cases z
theorem uU.keep{ps:aw}(h:uU H a ps)(hh:bE H p)(s:bL p H H'):uU H' a ps:=by
 obtain⟨qs,h1,h2⟩:=h.ex;obtain⟨d,c,q,ms,hp,_⟩:=id hh.ex;refine⟨qs,s _ _ h1 (λz=>?_),h2.keep hh.GD s⟩;rw[z,hp] at h1;cases qs with
 |nil=>cases h1
 |cons x xs=>cases h1
theorem dB.keep(h:dB H a m)(hh:bE H p)(s:bL p H H'):dB H' a m:=by
 obtain⟨pl,h1,h2⟩:=h.ex;obtain⟨d,c,q,ms,hp,_⟩:=id hh.ex;refine⟨pl,s _ _ h1 (λz=>?_),h2.keep hh s⟩;rw[z,hp] at h1;cases h1
theorem cT.keep(h:cT C H a m)(hh:bE H p)(s:bL p H H'):cT C H' a m:=by
 obtain⟨dx,pl,h1,h2⟩:=h.ex;obtain⟨d,c,q,ms,hp,_⟩:=id hh.ex;refine⟨dx,pl,s _ _ h1 (λz=>?_),h2.keep hh s⟩;rw[z,hp] at h1;cases h1
theorem qC{i:Int}(h:Am i):Dr (.int i)=true:=by
 obtain⟨h1,h2⟩:=h;have h3:i<=10 ^ 12:=h2;show(decide (0<=i) && decide (i<=10 ^ 12))=true;rw[mi h1,mi h3];rfl
inductive aBp  (K:W.Frag) (vs:List V) (H:Hp) (Q:VK) (E:XK):Prop
 |mk:∀v T,(vs=[v])->Th H v T->(Q (.bl (T == "int")) H)->aBp K vs H Q E
theorem tL(tx:Txt K mg a):bT P w K mg base eY 1 a.aCH a.aCI fv (aBp K):=by
 refine tx.ff.F.ok aGX (by walk_at "l") λbj A outer s H vs Q E hr h=>?_;obtain⟨v,T,rfl ,ht,k⟩:=h;have hu:=gM hr;refine aZ (aF (aM (jR (aP (rc:=zb K) gO (by rfl) tx.cY dF (aB (aA 0) (aB (iL (v:=.ty "int") (by rfl) tx.E7 KL rfl) aD))) (gQ (aEB (aP (rc:=zb K) gO (by rfl) tx.cY dF (aB (aA 0) (aB (iL (v:=.ty "bool") (by rfl) tx.KQ Y5 rfl) aD)))))))) ?_;refine aV (σ:=[some v]) rfl ?_;walk_at "w";refine pE (YX ht) ?_;walk_at "w";refine iE (λh=>?_) (λh=>?_)
 ·walk_at "w";refine pE (ZX ht) ?_;walk_at "w";have e:(!(T == "bool"))=(T == "int"):=by cases ht <;> first|rfl|cases h
  rw[e];exact k
 ·have e:(T == "int")=false:=by cases ht <;> first|rfl|cases h
  rw[e] at k;exact k
inductive zN  (K:W.Frag) (vs:List V) (H:Hp) (Q:VK) (E:XK):Prop
 |mk:∀v T,(vs=[v])->Th H v T->(Q (.bl (Dr v)) H)->zN K vs H Q E
theorem lO(tx:Txt K mg a):bT P w K mg base eY 2 a.aBb a.aBc fv (zN K):=by
 have mS:=tL (P:=P) (w:=w) (base:=base) tx;refine tx.bo.F.ok aFx (by walk_at "l") λbj A outer s H vs Q E hr h=>?_;obtain⟨v,T,rfl ,ht,k⟩:=h;have hu:=gM hr;refine aZ (aF (aM (jR (bg mS hr tx.ff (aB (aA 0) aD)) (gQ (rT Ck Ck aC (aA 0) (aI GY aC aC)))))) ?_;refine aV (σ:=[some v]) rfl ?_;walk_at "w";refine⟨v,T,rfl,ht,?_⟩;walk_at "w";refine iE (λh=>?_) (λh=>?_)
 ·cases ht with
  |int i=>
   walk_at "w";refine cA (λh1=>?_) (λh1=>?_)
   ·walk_at "w";have e:Dr (.int i)=decide (i<=10 ^ (12:Int).toNat):=by simp[Dr,h1]
    rw[<-e];exact k
   ·have e:Dr (.int i)=false:=by simp[Dr,h1]
    rw[e] at k;exact k
  |_=>cases h
 ·have e:Dr v=false:=by cases ht <;> first|rfl|cases h
  rw[e] at k;exact k
inductive aC4  (K:W.Frag) (vs:List V) (H:Hp) (Q:VK) (E:XK):Prop
 |mk:∀(i:Int),(vs=[.int i])->(1<=i)->(i<=12)->(Q (.bl true) H)->aC4 K vs H Q E
theorem aIp(tx:Txt K mg a):bT P w K mg base eY 2 a.aEO a.aEP fv (aC4 K):=by
 have mS:=tL (P:=P) (w:=w) (base:=base) tx;refine tx.ku.F.ok aIo (by walk_at "l") λbj A outer s H vs Q E hr h=>?_;obtain⟨i,rfl ,h1,h2,k⟩:=h;have hu:=gM hr;refine aZ (aF (aM (jR (bg mS hr tx.ff (aB (aA 0) aD)) (gQ (rT Ck Ck aC (aA 0) (pF (n:=12) (by rfl) tx.kY)))))) ?_;refine aV (σ:=[some (.int i)]) rfl ?_;walk_at "w";refine⟨_,_,rfl,.int i,?_⟩;walk_at "w";refine iE (λ_=>?_) (λh=>by simp at h);walk_at "w";refine cA (λ_=>?_) (λh=>absurd h1 h);walk_at "w";rw[mi h2];exact k
inductive aBq  (K:W.Frag) (vs:List V) (H:Hp) (Q:VK) (E:XK):Prop
 |mk:∀(q:Addr) (x y:Int),(vs=[.ref q])->(H q=some (.tup [.int x,.int y]))->(1<=x)->Am x->Am y->(Q (.bl true) H)->aBq K vs H Q E
theorem aG6(tx:Txt K mg a):bT P w K mg base eY 3 a.aCJ a.aCK fv (aBq K):=by
 have dA:=lO (P:=P) (w:=w) (base:=base) tx;refine tx.nk.F.ok aGY (by walk_at "l") λbj A outer s H vs Q E hr h=>?_;obtain⟨q,x,y,rfl ,hq,h1,h2,h3,k⟩:=h;have hu:=gM hr;refine aZ (aE (bD (eN (mD (eV (eA (aP (rc:=zb K) gO (by rfl) tx.cY dF (aB (aA 0) (aB (iL (v:=.ty "tuple") (by rfl) tx.Li Zw rfl) aD))))) (lR (aU (r:=EV K) (KJ hu) (aP (rc:=uR K) dY (by rfl) tx.mR jO (aB (aA 0) aD)) aC (bJ _))))) (aF (aM iW)) aY)
  (aF (aM (jR (bg dA hr tx.bo (aB (aH (K':=K) (aA 0) aC) aD)) (jR (fB X7 (aH (K':=K) (aA 0) aC) aC (bJ _)) (gQ (bg dA hr tx.bo (aB (aH (K':=K) (aA 0) aC) aD)))))))) ?_
 refine aV (σ:=[some (.ref q)]) rfl ?_;walk_at "w";refine pE (aKq (.tup hq)) ?_;walk_at "w";refine iE (λh=>by simp at h) (λ_=>?_);walk_at "w";refine aNM (λh=>absurd rfl h) (λ_=>?_);walk_at "w";refine⟨_,_,rfl,.int x,?_⟩;rw[qC h2];walk_at "w";refine cA (λ_=>?_) (λh=>absurd h1 h);walk_at "w";refine⟨_,_,rfl,.int y,?_⟩;rw[qC h3];exact k
inductive vR  (K:W.Frag) (vs:List V) (H:Hp) (Q:VK) (E:XK):Prop
 |mk:∀(p:Addr) (ps:aw),(vs=[.ref p])->uU H p ps->KP ps->(∀H',aO H H'->Q (.bl true) H')->vR K vs H Q E
theorem aDS(tx:Txt K mg a):bT P w K mg base eY 4 a.yD a.yE fv (vR K):=by
 have aIq:=aG6 (P:=P) (w:=w) (base:=base) tx;refine tx.jo.F.ok aDL (by walk_at "l") λbj A outer s H vs Q E hr h=>?_;obtain⟨p,ps,rfl ,hp,hg,k⟩:=h;have hu:=gM hr;refine aZ (aE (bD (eN (mD (eV (eA (aP (rc:=zb K) gO (by rfl) tx.cY dF (aB (aA 0) (aB (iL (v:=.ty "list") (by rfl) tx.jX iS rfl) aD))))) (lR (aU rP (aP (rc:=uR K) dY (by rfl) tx.mR jO (aB (aA 0) aD)) (pF (n:=4) (by rfl) tx.oE) (bJ _))))) (aF (aM iW)) aY)
  (aE (bD (eV (eA (aP (rc:=GB K) (Ql rfl) (by rfl) tx.GQ Pu (aB (cR (k:=1) (idx:=[]) (N:=["piece"]) (dJ (sc:=aL iZ) (NX:=fv) rfl rfl rfl (by decide +kernel)) rfl (bH (K':=K) (aA 0)) (λ_ _ _ _=>(aJ (i:=0) (show(["piece"]:ak).Nodup by decide +kernel))) (dI (by decide)) (λ_ _ _ _=>bU) (λ_ _ _ _=>(bg aIq hr tx.nk (aB (aA 0) aD)))) aD)))) (aF (aM iW)) aY)
  (aF (aM (aP (rc:=GB K) (Ql rfl) (by rfl) tx.GQ Pu (aB (cR (k:=1) (idx:=[0]) (N:=["at","thing"]) (dJ (sc:=aL iZ) (NX:=fv) rfl rfl rfl (by decide +kernel)) rfl (aDD (by rfl) tx.eF (aB aC (aB (aP (rc:=uR K) dY (by rfl) tx.mR jO (aB (aA 0) aD)) aD))) (λ_ _ _ _=>(aJ (i:=0) (show(["at","thing"]:ak).Nodup by decide +kernel))) (dI (by decide)) (λ_ _ _ _=>bU) (λ_ _ _ _=>(fB Ck (aH (K':=K) (aH (K':=K) (aA 1) (aI fA (aA 0) aC)) aC) (aH (K':=K) (aH (K':=K) (aA 1) (aA 0)) aC) (bJ _)))) aD)))))) ?_
 obtain⟨qs,h1,h2⟩:=hp.ex;have hl:=hg.len;have Vw:qs.length<=4:=by rw[h2.len];exact hl
 refine aV (σ:=[some (.ref p)]) rfl ?_;walk_at "w";refine pE (ZW (.lst h1)) ?_;walk_at "w";refine iE (λh=>by simp at h) (λ_=>?_);walk_at "w";refine cA (λh=>by rw[bX] at h;lia) (λ_=>?_);walk_at "w";refine eM (bR.of h1) ?_;refine Qm (λ_=>.bl true) (bR.of h1) (cB (by rw[bX];lia)) (λx N N' F5 hN=>?_) ?_
 ·obtain⟨q,hq,rfl⟩:=fZ.mp F5;obtain⟨t,ht,e⟩:=h2.at2 hq;obtain⟨g1,g2,g3⟩:=hg.pc t ht;walk_at "w";exact⟨q,t.1,t.2,rfl,e,g1,g2,g3,hN⟩
 ·intro l1 n1;walk_at "w";refine PM (bR.of aN) (λx hx=>by obtain⟨_,_,rfl⟩:=fZ.mp hx;rfl) ?_;walk_at "w";have vx:=aO.new (o:=.lst ((qs.map V.ref).map λ_=>V.bl true)) n1 _ _ h1;have rj:=h2.same (aO.new (o:=.lst ((qs.map V.ref).map λ_=>V.bl true)) n1);walk_at "w";refine⟨⟨by lia,by lia,by lia,by rw[bX];lia⟩,?_⟩;rw[bX];refine aHQ (λ_=>.bl true) (cB (by lia)) (λi N N' hi hN=>?_) ?_
  ·have i1:i < qs.length:=by lia
   have i2:i+1 < qs.length:=by lia
   have j1:i < ps.length:=by rw[<-h2.len];exact i1
   have j2:i+1 < ps.length:=by rw[<-h2.len];exact i2
   have e1:uP (qs.map V.ref) (1+(i:Int) - 1)=some (.ref qs[i]):=by
    rw[show 1+(i:Int) - 1=(i:Int) by lia];exact iD (by rw[kQ,eS i1];rfl)
   have e2:uP (qs.map V.ref) (1+(i:Int))=some (.ref qs[i+1]):=by
    rw[show 1+(i:Int)=((i+1:Nat):Int) by lia];exact iD (by rw[kQ,eS i2];rfl)
   have t1:=rj.at_ i _ _ (eS i1) (eS j1);have t2:=rj.at_ (i+1) _ _ (eS i2) (eS j2);have t3:=hg.up i _ _ (eS j1) (eS j2);walk_at "w";rw[mi t3];exact hN
  ·intro l2 n2;walk_at "w";refine PM (bR.of aN) (λx hx=>by obtain⟨_,_,rfl⟩:=fZ.mp hx;rfl) ?_;exact k _ ((aO.new n1).trans (aO.new n2))
inductive qP  (K:W.Frag) (C:Addr) (vs:List V) (H:Hp) (Q:VK) (E:XK):Prop
 |mk:∀(x dx pl:Addr) (m:MS),(vs=[.ref x,.int m.up,.int m.down,.int m.begin_,.int m.run,.int m.rest,.int m.least,.ref pl])->(H x=some (.ins C dx []))->uU H pl m.pieces->m.Good->(∀H',cT C H' x m->bL x H H'->Q .bt H')->qP K C vs H Q E
theorem aBG(tx:Txt K mg a):bT P w K mg base eY 5 a.mO a.sG aea (qP K a.bA):=by
 have aFE:=aDS (P:=P) (w:=w) (base:=base) tx;have dA:=lO (P:=P) (w:=w) (base:=base) tx;have aEU:=aIp (P:=P) (w:=w) (base:=base) tx;refine tx.ic.F.ok fO (by walk_at "l") λbj A outer s H vs Q E hr h=>?_;obtain⟨x,dx,pl,m,rfl ,hx,hp,hg,k⟩:=h;have hu:=gM hr;refine aZ (aE (aK (i:=8) fO.nd (iX (bg aEU hr tx.ku (aB (aA 1) aD)) (bg aEU hr tx.ku (aB (aA 2) aD))))
  (aE (aK (i:=9) fO.nd (aNX (bg dA hr tx.bo (aB (aA 3) aD)) (bg dA hr tx.bo (aB (aA 4) aD)) (bg dA hr tx.bo (aB (aA 5) aD)) (bg dA hr tx.bo (aB (aA 6) aD))))
  (aE (bI PassesOwn.never rfl (kK (K':=K) (by rfl) tx.gL (aB (aI bC (aI bC (aA 8) (aA 9)) (iF (bg aFE hr tx.jo (aB (aA 7) aD)))) aD)) (bQ (K':=K) (n:=2) rfl (aR (aJ (i:=10) fO.nd) (aR (aJ (i:=11) fO.nd) bP))) (aF (bD (eV (eA (aA 11))) (aF kJ) aY)))
  (aE (cI (K':=K) (aA 0) (aA 1) rfl)
  (aE (cI (K':=K) (aA 0) (aA 2) rfl)
  (aE (cI (K':=K) (aA 0) (aA 3) rfl)
  (aE (cI (K':=K) (aA 0) (aA 4) rfl)
  (aE (cI (K':=K) (aA 0) (aA 5) rfl)
  (aE (cI (K':=K) (aA 0) (aA 6) rfl)
  (aF (cI (K':=K) (aA 0) (cG (rc:=m7 K) jQ (by rfl) tx.jX iS (aB (aA 7) aD)) rfl))))))))))) ?_
 refine aV (σ:=[some (.ref x),some (.int m.up),some (.int m.down),some (.int m.begin_),some (.int m.run),some (.int m.rest),some (.int m.least),some (.ref pl),none,none,none,none]) rfl ?_;walk_at "w";refine⟨_,rfl,hg.up.1,hg.up.2,?_⟩;walk_at "w";refine⟨_,rfl,hg.down.1,hg.down.2,?_⟩;walk_at "w";intro l1 n1;walk_at "w";refine⟨_,_,rfl,.int _,?_⟩;rw[qC hg.begin_];walk_at "w";refine⟨_,_,rfl,.int _,?_⟩;rw[qC hg.run];walk_at "w";refine⟨_,_,rfl,.int _,?_⟩;rw[qC hg.rest];walk_at "w";refine⟨_,_,rfl,.int _,?_⟩;rw[qC hg.least];walk_at "w";intro l2 n2;walk_at "w";refine iT (xs:=[.bl true,.bl true]) (zs:=[.bl true,.bl true,.bl true,.bl true]) (by walk_at "hp") aN (cB (by simp)) ?_;intro l3 n3;walk_at "w";have s3:aO H (upd (upd (upd H l1 (.lst [.bl true,.bl true])) l2 (.lst [.bl true,.bl true,.bl true,.bl true])) l3 (.lst ([.bl true,.bl true] ++ [.bl true,.bl true,.bl true,.bl true]))):=((aO.new n1).trans (aO.new n2)).trans (aO.new n3)
 refine⟨pl,m.pieces,rfl,hp.same s3,hg.pieces,λH4 s4=>?_⟩;walk_at "w";intro l5 n5;walk_at "w";refine iT (xs:=[.bl true,.bl true] ++ [.bl true,.bl true,.bl true,.bl true]) (zs:=[.bl true]) (aO.new n5 _ _ (s4 _ _ aN)) aN (cB (by simp)) ?_;intro l6 n6;walk_at "w";have s6:aO H (upd (upd H4 l5 (.lst [.bl true])) l6 (.lst (([.bl true,.bl true] ++ [.bl true,.bl true,.bl true,.bl true]) ++ [.bl true]))):=(s3.trans s4).trans ((aO.new n5).trans (aO.new n6));generalize hH6:upd (upd H4 l5 (.lst [.bl true])) l6 (.lst (([.bl true,.bl true] ++ [.bl true,.bl true,.bl true,.bl true]) ++ [.bl true]))=H6 at s6 ⊢;have e6:H6 l6=some (.lst [.bl true,.bl true,.bl true,.bl true,.bl true,.bl true,.bl true]):=by rw[<-hH6,aN];rfl
 refine GP (bR.of e6) ?_;refine xS (xs:=[.bl true,.bl true,.bl true,.bl true,.bl true,.bl true,.bl true]) (λi σ' H'=>∃y z,σ'=[some (.ref x),some (.int m.up),some (.int m.down),some (.int m.begin_),some (.int m.run),some (.int m.rest),some (.int m.least),some (.ref pl),some (.ref l1),some (.ref l2),y,z]/\aO H6 H')
  ⟨_,_,rfl,aO.refl _⟩ (λi σ' H' hi ⟨y,z,e,s⟩=>bR.of (s _ _ e6)) (λi v σ' H' T hv z9q nT=>?_) (λσ' H' SI=>?_)
 ·obtain⟨y,z,e,s⟩:=z9q;subst e;have ev:v=.bl true:=by
   have:=kP hv;simpa using this
  subst ev;refine cV (iC.of aN) rfl ?_;walk_at "w";exact⟨_,_,rfl,s.trans (aO.new nT)⟩
 ·obtain⟨y,z,e,s⟩:=SI;subst e;have sH:aO H H':=s6.trans s;have og:=sH _ _ hx;have vp:=hp.same sH;obtain⟨qs,p1,p2⟩:=vp.ex;walk_at "w";refine gC (fs':=[("up",.int m.up)]) og tx.cE tx.zG (by simp[Al]) rfl ?_;walk_at "w";refine gC (fs':=[("up",.int m.up),("down",.int m.down)]) aN tx.cE tx.tG (by simp[Al]) rfl ?_;rw[gN];walk_at "w";refine gC (fs':=[("up",.int m.up),("down",.int m.down),("begin",.int m.begin_)]) aN tx.cE tx.qO (by simp[Al]) rfl ?_;rw[gN];walk_at "w";refine gC (fs':=[("up",.int m.up),("down",.int m.down),("begin",.int m.begin_),("run",.int m.run)]) aN tx.cE tx.vN (by simp[Al]) rfl ?_;rw[gN];walk_at "w";refine gC (fs':=[("up",.int m.up),("down",.int m.down),("begin",.int m.begin_),("run",.int m.run),("rest",.int m.rest)]) aN tx.cE tx.tH (by simp[Al]) rfl ?_;rw[gN];walk_at "w";refine gC (fs':=[("up",.int m.up),("down",.int m.down),("begin",.int m.begin_),("run",.int m.run),("rest",.int m.rest),("least",.int m.least)]) aN tx.cE tx.fQ (by simp[Al]) rfl ?_
  rw[gN];walk_at "w";have px:pl≠x:=λz=>by rw[z,og] at p1;cases p1
  refine oJ (ys:=qs.map V.ref) (bR.of (by rw[aT px];exact p1)) ?_;intro l9 n9;walk_at "w";have x9:x≠l9:=bB n9 aN;walk_at "w";refine gC (fs':=Al m l9) (by rw[aT x9];exact aN) tx.cE tx.gW (by simp[Al]) rfl ?_;walk_at "w";refine k _ ⟨dx,l9,aN,qs,?_,p2.len,λj q t h1 h2=>?_⟩ (λb o e nb=>?_)
  ·rw[aT (Ne.symm x9),aN]
  ·have e:=p2.at_ j q t h1 h2;have qx:q≠x:=λz=>by rw[z,og] at e;cases e
   have q9:q≠l9:=bB n9 (by rw[aT qx];exact e);rw[aT qx,aT q9,aT qx];exact e
  ·have e1:=sH _ _ e;have b9:b≠l9:=bB n9 (by rw[aT nb];exact e1);rw[aT nb,aT b9,aT nb];exact e1
structure DO(ps:aw)(r:Int):Prop where
 pc:∀t∈ps,1<=t.1/\Am t.1/\Am t.2
 up:∀(j:Nat) t u,ps[j]?=some t->ps[j+1]?=some u->t.2<=u.2
 top:∀t∈ps,t.2<=r
theorem DO.nil{r:Int}:DO [] r:=⟨λ_ h=>by simp at h,λj t u h=>by simp at h,λ_ h=>by simp at h⟩
theorem DO.snoc{ps:aw}{r r' a:Int}(w:DO ps r)(hr:r<=r')(h1:1<=a)(h2:Am a)(h3:Am r'):DO (ps ++ [(a,r')]) r':=by
 refine⟨λt h=>?_,λj t u ht hu=>?_,λt h=>?_⟩
 ·rcases oh.mp h with h|h
  ·exact w.pc t h
  ·rw[rC.mp h];exact⟨h1,h2,h3⟩
 ·have pj:j+1 < (ps ++ [(a,r')]).length:=(lU.mp hu).1;rw[lB,DM] at pj;have hj:j < ps.length:=by lia
  rw[uh hj] at ht;by_cases Gf:j+1 < ps.length
  ·rw[uh Gf] at hu;exact w.up j t u ht hu
  ·rw[vg (by lia),show j+1 - ps.length=0 by lia] at hu;cases hu;exact Bh (w.top t (kP ht)) hr
 ·rcases oh.mp h with h|h
  ·exact Bh (w.top t h) hr
  ·rw[rC.mp h];exact wc _
theorem tK.snoc{ss:aw}{t:ar}(h:tK H qs ss)(hl:H l=some (.lst xs))(k:bL l H H3)(hT:H3 T=some (.tup [.int t.1,.int t.2])):tK H3 (qs ++ [T]) (ss ++ [t]):=by
 refine⟨by rw[lB,lB,h.len];rfl,λj q u hq hu=>?_⟩;by_cases hj:j < qs.length
 ·rw[uh hj] at hq;rw[uh (by rw[<-h.len];exact hj)] at hu;have e:=h.at_ j q u hq hu;refine k q _ e λz=>?_;rw[z,hl] at e;cases e
 ·have pj:j < (qs ++ [T]).length:=(lU.mp hq).1;rw[lB,DM] at pj;have e:j=qs.length:=by lia
  subst e;rw[vg (dQ _),Dz] at hq;rw[h.len,vg (dQ _),Dz] at hu;cases hq;cases hu;exact hT
theorem bE.OL{qs:au}(h:bE H p)(e:H c=some (.lst (qs.map V.ref))):c≠p:=λz=>by
 obtain⟨d,cc,q,ms,hp,_⟩:=h.ex;rw[z,hp] at e;cases qs with
 |nil=>cases e
 |cons x xs=>cases e
theorem bE.AJ{xs:List V}(h:bE H p)(e:H c=some (.lst xs))(hl:xs.length≠3):c≠p:=λz=>by
 obtain⟨d,cc,q,ms,hp,_⟩:=h.ex;rw[z,hp] at e;cases e;exact hl rfl
theorem bE.Js{H:Hp}(h:bE H p):∃xs,H p=some (.lst xs):=by
 obtain⟨d,cc,q,ms,hp,_⟩:=h.ex;exact⟨_,hp⟩
theorem kO(k:bL p H H')(hh:bE H' p)(n:H' c=none):H c=none:=by
 cases hc:H c with
 |none=>rfl
 |some v=>
  obtain⟨xs,e⟩:=hh.Js;exact absurd rfl (bB n (k c v hc (λz=>bB n e z.symm)))
theorem Cf{x r n B:Int}(x0:1<=x)(x1:x<=50000000000)(a:0<=r)(c:r < n)(h:50000000000*(n - 1)<=B):0<=x*r/\x*r<=B:=
 ⟨Int.mul_nonneg (by lia) a,Bh (Int.mul_le_mul x1 (show r<=n - 1 by lia) a (by lia)) h⟩
theorem aRM{x u n B:Int}(x0:1<=x)(x1:x<=50000000000)(a:0<=u)(c:u < n)(h:50000000000*n<=B):x<=x*(1+u)/\x*(1+u)<=B:=
 ⟨by have:=Int.mul_le_mul_of_nonneg_left (show 1<=1+u by lia) (show 0<=x by lia);rw[Co] at this;exact this,Bh (Int.mul_le_mul x1 (show 1+u<=n by lia) (by lia) (by lia)) h⟩
theorem up1{r n:Int}(a:0<=r)(c:r < n)(n1:n<=12):(1<=1+r/\1+r<=12)/\1+r<=n:=by lia
theorem J9{z:Int}(h:0<=z/\z<=250000000000):Am z:=⟨h.1,by have:=h.2;lia⟩
theorem IX{ir z:Int}{i:Nat}(f5:0<=ir)(f6:ir<=(i:Int)*100000000000)(g:0<=z/\z<=100000000000)(i4:i<=3):ir<=ir+z/\Am (ir+z)/\0<=ir+z/\ir+z<=((i+1:Nat):Int)*100000000000:=⟨by lia,⟨by lia,by lia⟩,by lia,by lia⟩
theorem xB{x z:Int}(x0:1<=x)(g:x<=z/\z<=150000000000):1<=z/\Am z:=⟨by lia,⟨by lia,by lia⟩⟩
inductive zO  (K:W.Frag) (vs:List V) (H:Hp) (Q:VK) (E:XK):Prop
 |mk:∀(p b:Addr) (x y n:Int),(vs=[.ref p,.ref b,.int n])->bE H p->(H b=some (.lst [.int x,.int y]))->(1<=x)->(x<=50000000000)->(1<=y)->(y<=50000000000)->(1<=n)->(n<=12)->(∀(s:Addr) (m:MS) H',dB H' s m->m.Good->m.up<=n->m.down<=n->bE H' p->bL p H H'->H s=none->Q (.ref s) H')->zO K vs H Q E
theorem aFF(tx:Txt K mg a):bT P w K mg base eY 2 a.aBd a.aBe awa (zO K):=by
 have aS:=cZ (P:=P) (w:=w) (base:=base) tx;refine tx.ly.F.ok dS (by walk_at "l") λbj A outer s H vs Q E hr h=>?_;obtain⟨p,b,x,y,n,rfl ,hh,hb,x0,x1,y0,y1,n0,n1,k⟩:=h;have hu:=gM hr;refine aZ (aE (aK (i:=3) dS.nd (aI bC aC (bg aS hr tx.af (aB (aA 0) (aB (aA 2) aD)))))
  (aE (aK (i:=4) dS.nd (aI bC aC (bg aS hr tx.af (aB (aA 0) (aB (aA 2) aD)))))
  (aE (aK (i:=5) dS.nd (uH (aI bV (aH (K':=K) (aA 1) aC) (bg aS hr tx.af (aB (aA 0) (aB aC aD)))) (aI bV (aH (K':=K) (aA 1) aC) (bg aS hr tx.af (aB (aA 0) (aB aC aD)))) (aI bV (aH (K':=K) (aA 1) aC) (bg aS hr tx.af (aB (aA 0) (aB aC aD))))))
  (aE (aK (i:=6) dS.nd (aI bV (aH (K':=K) (aA 1) aC) (bg aS hr tx.af (aB (aA 0) (aB aC aD)))))
  (aE (aK (i:=7) dS.nd aC)
  (aE (aK (i:=8) dS.nd (lS aD))
  (aE (bI PassesOwn.never rfl (cL (by rfl) tx.eF (aB (bg aS hr tx.af (aB (aA 0) (aB aC aD))) aD)) (aJ (i:=9) dS.nd) (aE (lT (i:=7) dS.nd rfl (Or.inl rfl) (aI bV (aH (K':=K) (aA 1) aC) (bg aS hr tx.af (aB (aA 0) (aB aC aD)))) Fj)
  (aF (dE (eC (K':=K) (aA 8) (aB (gR (aI bV (aH (K':=K) (aA 1) aC) (aI bC aC (bg aS hr tx.af (aB (aA 0) (aB aC aD))))) (aA 7)) aD))))))
  (aF (aM (aNY (aA 3) (aA 4) (aH (K':=K) (aA 5) aC) (aH (K':=K) (aA 5) aC) (aH (K':=K) (aA 5) aC) (aA 6) (aA 8))))))))))) ?_
 have bp:b≠p:=hh.AJ hb (by simp);refine aV (σ:=[some (.ref p),some (.ref b),some (.int n),none,none,none,none,none,none,none]) rfl ?_;walk_at "w";refine⟨p,_,rfl,hh,by lia,by lia,λr1 H1 a1 c1 h1 k1 _=>?_⟩;have NG:=k1 _ _ hb bp;walk_at "w";refine⟨p,_,rfl,h1,by lia,by lia,λr2 H2 a2 c2 h2 k2 _=>?_⟩;have VO:=k2 _ _ NG bp;walk_at "w";refine⟨p,_,rfl,h2,by decide,by decide,λr3 H3 a3 c3 h3 k3 _=>?_⟩;have NF:=k3 _ _ VO bp;walk_at "w";refine⟨p,_,rfl,h3,by decide,by decide,λr4 H4 a4 c4 h4 k4 _=>?_⟩;have ND:=k4 _ _ NF bp;walk_at "w";refine⟨p,_,rfl,h4,by decide,by decide,λr5 H5 a5 c5 h5 k5 _=>?_⟩;have NC:=k5 _ _ ND bp;walk_at "w";intro l6 n6;walk_at "w";have NB:=aO.new (o:=.lst [.int (y*r3),.int (y*r4),.int (y*r5)]) n6 _ _ NC;have h6:=h5.same (aO.new (o:=.lst [.int (y*r3),.int (y*r4),.int (y*r5)]) n6);walk_at "w";refine⟨p,_,rfl,h6,by decide,by decide,λr7 H7 a7 c7 h7 k7 _=>?_⟩;have NA:=k7 _ _ NB bp;have Jp:l6≠p:=λz=>by obtain⟨_,e⟩:=h5.Js;exact bB n6 e z.symm
 have e7:H7 l6=some (.lst [.int (y*r3),.int (y*r4),.int (y*r5)]):=k7 _ _ aN Jp;have Va:bL p H H7:=k1.trans (k2.trans (k3.trans (k4.trans (k5.trans ((aO.new n6).keep.trans k7)))));have g3:0<=y*r3/\y*r3<=250000000000:=Cf y0 y1 a3 c3 (by decide);have g4:0<=y*r4/\y*r4<=250000000000:=Cf y0 y1 a4 c4 (by decide);have g5:0<=y*r5/\y*r5<=250000000000:=Cf y0 y1 a5 c5 (by decide);have g7:0<=x*r7/\x*r7<=250000000000:=Cf x0 x1 a7 c7 (by decide);walk_at "w";intro l8 n8;walk_at "w";have h8:=h7.same (aO.new (o:=.lst []) n8);walk_at "w";refine⟨p,_,rfl,h8,by decide,by decide,λr9 H9 a9 c9 h9 k9 _=>?_⟩;have l8p:l8≠p:=λz=>by obtain⟨_,e⟩:=h7.Js;exact bB n8 e z.symm
 have e9:H9 l8=some (.lst []):=k9 _ _ aN l8p;have Av:=k9 _ _ (aO.new n8 _ _ NA) bp;have e69:H9 l6=some (.lst [.int (y*r3),.int (y*r4),.int (y*r5)]):=k9 _ _ (aO.new n8 _ _ e7) Jp;have kk9:bL p H H9:=Va.trans ((aO.new n8).keep.trans k9);have n8H:H l8=none:=kO Va h7 n8;have n6H:H l6=none:=kO (k1.trans (k2.trans (k3.trans (k4.trans k5)))) h5 n6;walk_at "w";refine⟨by lia,by lia,?_⟩;refine lZ (λi σ' H'=>∃qs ps ir x9,σ'=[some (.ref p),some (.ref b),some (.int n),some (.int (1+r1)),some (.int (1+r2)),some (.ref l6),some (.int (x*r7)),some (.int ir),some (.ref l8),x9]/\H' l8=some (.lst (qs.map V.ref))/\tK H' qs ps/\ps.length=i/\DO ps ir/\
   0<=ir/\ir<=(i:Int)*100000000000/\bE H' p/\bL p H H'/\H' b=some (.lst [.int x,.int y])/\H' l6=some (.lst [.int (y*r3),.int (y*r4),.int (y*r5)]))
  ⟨[],[],0,_,rfl,e9,⟨rfl,λj q t h=>by simp at h⟩,rfl,DO.nil,by lia,by lia,h9,kk9,Av,e69⟩
  (λi σ' H' hi SH=>?_) (λσ' H' SG=>?_)
 ·obtain⟨qs,ps,ir,x9,e,f1,f2,f3,f4,f5,f6,f7,f8,f9,f0⟩:=SH;subst e;have i4:i<=3:=by lia
  walk_at "w";refine Fg rfl ?_;walk_at "w";refine⟨p,_,rfl,f7,by decide,by decide,λu1 J1 v1 w1 q1 t1 _=>?_⟩;have g1:0<=y*u1/\y*u1<=100000000000:=Cf y0 y1 v1 w1 (by decide);have MK:l8≠p:=f7.OL f1;have d1:=t1 _ _ f1 MK;have d2:=f2.keep f7.GD t1;have d3:=t1 _ _ f9 bp;have d4:=t1 _ _ f0 Jp;walk_at "w";refine iV (bR.of d1) ?_;walk_at "w";refine⟨p,_,rfl,q1,by decide,by decide,λu2 J2 v2 w2 q2 t2 _=>?_⟩;have g2:x<=x*(1+u2)/\x*(1+u2)<=150000000000:=aRM x0 x1 v2 w2 (by decide);have ER:=t2 _ _ d1 MK;have dd2:=d2.keep q1.GD t2;have J7:=t2 _ _ d3 bp;have J6:=t2 _ _ d4 Jp;walk_at "w";intro T nT;walk_at "w";refine mC (xs:=qs.map V.ref) (aO.new nT _ _ ER) (qI (by rw[bX,f2.len];lia:(qs.map V.ref).length < 1000) (cB (by simp))) ?_;walk_at "w";have JJ:T≠l8:=Ne.symm (bB nT ER);have kz:bL l8 J2 (upd (upd J2 T (.tup [.int (x*(1+u2)),.int (ir+y*u1)])) l8 (.lst (qs.map V.ref ++ [.ref T]))):=(aO.new nT).keep.trans bL.upd
  refine⟨qs ++ [T],ps ++ [(x*(1+u2),ir+y*u1)],_,_,rfl,?_,dd2.snoc ER kz (by rw[aT JJ,aN]),by rw[lB,f3];rfl,f4.snoc (IX f5 f6 g1 i4).1 (xB x0 g2).1 (xB x0 g2).2 (IX f5 f6 g1 i4).2.1,(IX f5 f6 g1 i4).2.2.1,(IX f5 f6 g1 i4).2.2.2,?_,λc o hc Nw=>?_,?_,?_⟩
  ·rw[aN,iK];rfl
  ·obtain⟨dd,cc,q,ms,hp,hq,bw,yk⟩:=q2.ex;refine⟨⟨dd,cc,q,ms,kz _ _ hp (Ne.symm MK),kz _ _ hq (λz=>?_),bw,yk⟩⟩;rw[z,ER] at hq;cases qs with
   |nil=>cases ms with
    |nil=>exact bw rfl
    |cons _ _=>cases hq
   |cons _ _=>cases ms with
    |nil=>exact bw rfl
    |cons _ _=>cases hq
  ·exact kz _ _ (t2 _ _ (t1 _ _ (f8 _ _ hc Nw) Nw) Nw) (bB n8H hc)
  ·exact kz _ _ J7 (λz=>by rw[z,ER] at J7;cases qs with
    |nil=>cases J7
    |cons _ _=>cases J7)
  ·exact kz _ _ J6 (λz=>by rw[z,ER] at J6;cases qs with
    |nil=>cases J6
    |cons _ _=>cases J6)
 ·obtain⟨qs,ps,ir,x9,e,f1,f2,f3,f4,f5,f6,f7,f8,f9,f0⟩:=SG;subst e;walk_at "w";intro s ns;walk_at "w";have Jz:r9.toNat<=4:=by lia
  refine k s ⟨1+r1,1+r2,y*r3,y*r4,y*r5,x*r7,ps⟩ _ ⟨l8,aN,qs,aO.new ns _ _ f1,f2.same (aO.new ns)⟩ ⟨(up1 a1 c1 n1).1,(up1 a2 c2 n1).1,J9 g3,J9 g4,J9 g5,J9 g7,⟨by show ps.length<=4;lia,f4.pc,f4.up⟩⟩ (up1 a1 c1 n1).2 (up1 a2 c2 n1).2 (f7.same (aO.new ns)) (f8.trans (aO.new ns).keep) (kO f8 f7 ns)
inductive qQ  (K:W.Frag) (C:Addr) (vs:List V) (H:Hp) (Q:VK) (E:XK):Prop
 |mk:∀(s:Addr) (m:MS),(vs=[.ref s])->dB H s m->m.Good->(∀x H',cT C H' x m->aO H H'->H x=none->Q (.ref x) H')->qQ K C vs H Q E
theorem aBH(tx:Txt K mg a):bT P w K mg base eY 7 a.sI a.sJ ana (qQ K a.bA):=by
 have aC5:=aBG (P:=P) (w:=w) (base:=base) tx;refine tx.ia.F.ok aBC (by walk_at "l") λbj A outer s H vs Q E hr h=>?_;obtain⟨s,m,rfl ,hs,hg,k⟩:=h;have hu:=gM hr;refine aZ (aF (aM (kI tx.aKp (aC5) (hr.mono (by decide)) (by rfl) tx.aES tx.ic.b .nil aW (aB (aH (K':=K) (aA 0) aC) (aB (aH (K':=K) (aA 0) aC) (aB (aH (K':=K) (aA 0) aC) (aB (aH (K':=K) (aA 0) aC) (aB (aH (K':=K) (aA 0) aC) (aB (aH (K':=K) (aA 0) aC) (aB (cG (rc:=m7 K) jQ (by rfl) tx.jX iS (aB (aH (K':=K) (aA 0) aC) aD)) aD)))))))))) ?_;obtain⟨pl,h1,h2⟩:=hs.ex;obtain⟨qs,h3,h4⟩:=h2.ex;refine aV (σ:=[some (.ref s)]) rfl ?_;walk_at "w";refine oJ (bR.of h3) ?_;intro l n;walk_at "w";intro x dx nx nd hd;have sx:aO H (upd (upd (upd H l (.lst (qs.map V.ref))) dx (.own x)) x (.ins a.bA dx [])):=λb o e=>by
  have e1:=aO.new (o:=.lst (qs.map V.ref)) n _ _ e;rw[aT (bB nx e1),aT (bB nd e1)];exact e1
 have lx:l≠x:=bB nx aN;have ld:l≠dx:=bB nd aN;refine⟨x,dx,l,m,rfl,aN,⟨qs,by rw[aT lx,aT ld,aN],h4.same sx⟩,hg,λH' hM kx=>⟨rfl,?_⟩⟩;have UZ:H x=none:=(aO.new n).free nx;exact k x H' hM (λb o e=>kx _ _ (sx _ _ e) (bB UZ e)) UZ
theorem bE.GA(hh:bE H p)(n:H c=none):c≠p:=λz=>by
 obtain⟨xs,e⟩:=hh.Js;exact bB n e z.symm
def oF:aw->Int
 |[]=>0
 |t::ps=>t.1+oF ps
def cst:aw->Int->Int
 |[],_=>0
 |t::ps,left=>max 0 (min left t.1)*t.2+cst ps (left - max 0 (min left t.1))
def gn(p:Int):aw->Int
 |[]=>0
 |t::ps=>t.1*max (p - t.2) 0+gn p ps
def pe(p:Int):aw->Int
 |[]=>0
 |t::ps=>(if t.2 < p then t.1 else 0)+pe p ps
def A9(p:Int):aw->Int
 |[]=>0
 |t::ps=>(if t.2=p then t.1 else 0)+A9 p ps
def Up:aw->Prop
 |[]=>True
 |t::ps=>1<=t.1/\(∀u∈ps,t.2<=u.2)/\Up ps
theorem XW{p:Int}:∀{ps:aw},Up ps->0<=gn p ps
 |[],_=>wc _
 |t::ps,h=>by
  have:=XW (p:=p) h.2.2;have h1:0<=t.1*max (p - t.2) 0:=Int.mul_nonneg (by have:=h.1;lia) (by lia);show 0<=t.1*max (p - t.2) 0+gn p ps;lia
theorem Kr{p:Int}:∀{ps:aw},Up ps->0<=pe p ps/\0<=A9 p ps/\pe p ps+A9 p ps<=oF ps
 |[],_=>⟨wc _,wc _,wc _⟩
 |t::ps,h=>by
  have:=Kr (p:=p) h.2.2;have h0:=h.1;show 0<=(if t.2 < p then t.1 else 0)+pe p ps/\0<=(if t.2=p then t.1 else 0)+A9 p ps/\((if t.2 < p then t.1 else 0)+pe p ps)+((if t.2=p then t.1 else 0)+A9 p ps)<=t.1+oF ps;split <;> split <;> lia
theorem Lh{p:Int}:∀{ps:aw},(∀u∈ps,p<=u.2)->gn p ps=0/\pe p ps=0
 |[],_=>⟨rfl,rfl⟩
 |t::ps,h=>by
  have ih:=Lh (p:=p) (ps:=ps) (λu hu=>h u (ki _ hu));have h1:=h t (oj ..);constructor
  ·show t.1*max (p - t.2) 0+gn p ps=0;rw[show max (p - t.2) 0=0 by lia,Bg,ih.1];rfl
  ·show(if t.2 < p then t.1 else 0)+pe p ps=0;rw[bZ (by lia),ih.2];rfl
theorem OK{p:Int}:∀{ps:aw},(∀u∈ps,p < u.2)->A9 p ps=0
 |[],_=>rfl
 |t::ps,h=>by
  have ih:=OK (p:=p) (ps:=ps) (λu hu=>h u (ki _ hu));have h1:=h t (oj ..);show(if t.2=p then t.1 else 0)+A9 p ps=0;rw[bZ (by lia),ih];rfl
theorem ZV:∀(ps:aw),cst ps 0=0
 |[]=>rfl
 |t::ps=>by
  show max 0 (min 0 t.1)*t.2+cst ps (0 - max 0 (min 0 t.1))=0;rw[show max 0 (min 0 t.1)=0 by lia,Int.zero_mul,Int.sub_zero,ZV ps];rfl
theorem best{p:Int}:∀{ps:aw}{left:Int},Up ps->0<=left->left<=oF ps->
  p*left - cst ps left<=gn p ps/\(p*left - cst ps left=gn p ps↔pe p ps<=left/\left<=pe p ps+A9 p ps)
 |[],left,_,h0,h1=>by
  have e:left=0:=by have:left<=0:=h1;lia
  subst e;show p*0 - 0<=0/\(p*0 - 0=0↔(0:Int)<=0/\(0:Int)<=0+0)
  simp
 |t::ps,left,h,h0,h1=>by
  obtain⟨a,r⟩:=t;obtain⟨ha,hr,M4⟩:=h
  replace ha:1<=a:=ha
  replace hr:∀u∈ps,r<=u.2:=hr
  replace h1:left<=a+oF ps:=h1
  have gp:=XW (p:=p) M4;have lp:=Kr (p:=p) M4;show p*left - (max 0 (min left a)*r+cst ps (left - max 0 (min left a)))<=a*max (p - r) 0+gn p ps/\
   (p*left - (max 0 (min left a)*r+cst ps (left - max 0 (min left a)))=a*max (p - r) 0+gn p ps↔(if r < p then a else 0)+pe p ps<=left/\left<=((if r < p then a else 0)+pe p ps)+((if r=p then a else 0)+A9 p ps))
  by_cases Ez:left < a
  ·rw[show max 0 (min left a)=left by lia,Int.sub_self,ZV,zd,show p*left - left*r=left*(p - r) by rw[Cp p left,<-Int.mul_sub]];by_cases h2:r < p
   ·have e1:left*(p - r) < a*(p - r):=Int.mul_lt_mul_of_pos_right Ez (by lia);rw[show max (p - r) 0=p - r by lia,cO h2,bZ (by lia)];lia
   ·have hz:=Lh (p:=p) (ps:=ps) (λu hu=>by have:=hr u hu;lia);rw[show max (p - r) 0=0 by lia,Bg,hz.1,hz.2,bZ h2];by_cases h3:r=p
    ·rw[cO h3,show p - r=0 by lia,Bg];lia
    ·rw[bZ h3,OK (p:=p) (ps:=ps) (λu hu=>by have:=hr u hu;lia)];by_cases h4:left=0
     ·subst h4;simp
     ·have e1:left*(p - r) < 0:=Int.mul_neg_of_pos_of_neg (by lia) (by lia);lia
  ·have ih:=best (p:=p) (ps:=ps) (left:=left - a) M4 (by lia) (by lia);rw[show max 0 (min left a)=a by lia];have e0:p*left - (a*r+cst ps (left - a))=a*(p - r)+(p*(left - a) - cst ps (left - a)):=by
    rw[Int.mul_sub,Int.mul_sub,Cp a p];lia
   rw[e0];by_cases h2:r < p
   ·rw[show max (p - r) 0=p - r by lia,cO h2,bZ (by lia)];generalize a*(p - r)=w;obtain⟨i1,i2⟩:=ih;refine⟨by lia,?_⟩;constructor
    ·intro h;have:=i2.mp (by lia);lia
    ·intro h;have:=i2.mpr (by lia);lia
   ·have hz:=Lh (p:=p) (ps:=ps) (λu hu=>by have:=hr u hu;lia);rw[hz.1,hz.2] at ih;obtain⟨i1,i2⟩:=ih;rw[show max (p - r) 0=0 by lia,Bg,hz.1,hz.2,bZ h2];by_cases h3:r=p
    ·rw[cO h3,show p - r=0 by lia,Bg];refine⟨by lia,?_⟩;constructor
     ·intro h;have:=i2.mp (by lia);lia
     ·intro h;have:=i2.mpr (by lia);lia
    ·have e1:a*(p - r) < 0:=Int.mul_neg_of_pos_of_neg (by lia) (by lia);rw[bZ h3,OK (p:=p) (ps:=ps) (λu hu=>by have:=hr u hu;lia)];lia
theorem XU:∀{ps:aw},(∀t∈ps,1<=t.1)->(∀(j:Nat) t u,ps[j]?=some t->ps[j+1]?=some u->t.2<=u.2)->Up ps
 |[],_,_=>trivial
 |t::ps,h1,h2=>by
  have hu:Up ps:=XU (λu hu=>h1 u (ki _ hu)) (λj t u a b=>h2 (j+1) t u a b);refine⟨h1 t (oj ..),?_,hu⟩;cases ps with
  |nil=>intro u hu;cases hu
  |cons v ps=>
   have hv:t.2<=v.2:=h2 0 t v rfl rfl;intro u hm;rcases lC.mp hm with rfl|hm
   ·exact hv
   ·exact Bh hv (hu.2.1 u hm)
theorem KP.UB{ps:aw}(h:KP ps):Up ps:=XU (λt ht=>(h.pc t ht).1) h.up
theorem Yg:∀(ps:aw),List.sum (ps.filterMap λt=>some t.1)=oF ps
 |[]=>rfl
 |t::ps=>by
  rw[DL];show List.sum (t.1::_)=t.1+oF ps;rw[wj,Yg ps]
theorem Yf{p:Int}:∀(ps:aw),List.sum (ps.filterMap λt=>some (max 0 (p - t.2)*t.1))=gn p ps
 |[]=>rfl
 |t::ps=>by
  rw[DL];show List.sum (max 0 (p - t.2)*t.1::_)=t.1*max (p - t.2) 0+gn p ps;rw[wj,Yf ps,Cp,show max 0 (p - t.2)=max (p - t.2) 0 by lia]
theorem ZU{H:Hp}{qs:au}{ps:aw}{g:TG}{R:List V->Hp->Prop}(f:ar->Option Int)(h1:H pl=some (.lst (qs.map V.ref)))(h2:tK H qs ps)(hz:ps.length<=4)(hs:∀q t (N:V->Hp->Prop) (N':Hp->Prop),t∈ps->H q=some (.tup [.int t.1,.int t.2])->(∀y,f t=some y->N (.int y) H)->(f t=none->N' H)->g (.ref q) σ₀ H λσ2 H2=>tt σ2 H2 λb H3=>if b=true then te σ2 H3 λy H4=>N y H4 else N' H3)(hd:R ((ps.filterMap f).map V.int) H):kS (wq K pl) σ₀ g tt te R H:=by
 have Vw:qs.length<=4:=by rw[h2.len];exact hz
 refine fR (xs:=qs.map V.ref) (λi ys H'=>H'=H/\ys=((ps.take i).filterMap f).map V.int) ⟨rfl,by simp⟩ (cB (by rw[bX];lia)) (λi ys H' hi SF=>?_) (λi x ys H' hx SE=>?_) (λys H' SD=>?_)
 ·obtain⟨e1,e2⟩:=SF;subst e1 e2;refine⟨bR.of h1,?_⟩;rw[bX];exact kr (List.length_filterMap_le ..) (by rw[qa];lia)
 ·obtain⟨e1,e2⟩:=SE;subst e1 e2;rw[kQ] at hx;cases hq:qs[i]? with
  |none=>rw[hq] at hx;cases hx
  |some q=>
   rw[hq] at hx;cases hx;have li:i < ps.length:=by rw[<-h2.len];exact(lU.mp hq).1
   have ht:ps[i]?=some ps[i]:=eS li;have e:=h2.at_ i q _ hq ht;have hm:=Cs li;generalize ps[i]=t at ht e hm;refine hs q t (λy H4=>H4=H'/\((ps.take i).filterMap f).map V.int ++ [y]=((ps.take (i+1)).filterMap f).map V.int) (λH3=>H3=H'/\((ps.take i).filterMap f).map V.int=((ps.take (i+1)).filterMap f).map V.int) hm e (λy hy=>⟨rfl,?_⟩) (λhy=>⟨rfl,?_⟩)
   ·rw[Cu,ht,List.filterMap_append,iK];simp[hy]
   ·rw[Cu,ht,List.filterMap_append,iK];simp[hy]
 ·obtain⟨e1,e2⟩:=SD;subst e1 e2;rw[bX,h2.len,uC];exact hd
inductive zP  (K:W.Frag) (vs:List V) (H:Hp) (Q:VK) (E:XK):Prop
 |mk:∀(s:Addr) (m:MS) (pr:Int),(vs=[.ref s,.int pr])->dB H s m->m.Good->(0<=pr)->(pr<=1000000000001)->(∀H',aO H H'->Q (.int (pr*m.least+gn pr m.pieces)) H')->zP K vs H Q E
theorem aFG(tx:Txt K mg a):bT P w K mg base eY 1 a.aBf a.aBg ada (zP K):=by
 refine tx.md.F.ok aFy (by walk_at "l") λbj A outer s H vs Q E hr h=>?_;obtain⟨s,m,pr,rfl ,hs,hg,p0,p1,k⟩:=h;have hu:=gM hr;refine aZ (aF (aM (aI bC (aI bV (aA 1) (aH (K':=K) (aA 0) aC)) (aP (rc:=Kj K) (Z0 rfl) (by rfl) tx.Ks Yv (aB (cR (k:=2) (idx:=[1]) (N:=aTa) (dJ (sc:=aL nB) (NX:=ada) rfl rfl rfl (by decide +kernel)) rfl (bH (K':=K) (aH (K':=K) (aA 0) aC)) (λ_ _ _ _=>(bQ (K':=K) (n:=2) rfl (aR (aJ (i:=0) (show(aTa:ak).Nodup by decide +kernel)) (aR (aJ (i:=1) (show(aTa:ak).Nodup by decide +kernel)) bP)))) (pD (cU (by decide) (cU (by decide) lX))) (λ_ _ _ _=>bU) (λ_ _ _ _=>(aI bV (aP (jP rfl) (by rfl) tx.zJ wO (aB aC (aB (aI fA (aA 2) (aA 1)) aD))) (aA 0)))) aD))))) ?_;obtain⟨pl,hx,hp⟩:=hs.ex;obtain⟨qs,h1,h2⟩:=hp.ex;refine aV (σ:=[some (.ref s),some (.int pr)]) rfl ?_;walk_at "w";refine eM (bR.of h1) ?_;refine ZU (λt=>some (max 0 (pr - t.2)*t.1)) h1 h2 hg.pieces.len (λq t N N' hm hq hN hN'=>?_) ?_
 ·obtain⟨z1,⟨z2,z3⟩,z4,z5⟩:=hg.pieces.pc _ hm;refine cV (iC.of hq) rfl ?_;walk_at "w";exact hN _ rfl
 intro l1 n1;walk_at "w";refine YD (bR.of aN) ?_;rw[Yf];walk_at "w";exact k _ (aO.new n1)
inductive aEV  (K:W.Frag) (vs:List V) (H:Hp) (Q:VK) (E:XK):Prop
 |mk:∀(v:V) (t:Addr) (o d on:Int),(vs=[v,.ref t,.int on])->(H t=some (.tup [.int o,.int d]))->(Q (.bl (decide (o=on) || decide (d=0))) H)->aEV K vs H Q E
theorem uJ(tx:Txt K mg a):bT P w K mg base eY 1 a.ZZ a.ZY ue (aEV K):=by
 refine tx.ft.F.ok aKo (by walk_at "l") λbj A outer s H vs Q E hr h=>?_;obtain⟨v,t,o,d,on,rfl ,ht,k⟩:=h;have hu:=gM hr;refine aZ (aF (aM (Qe (fB (r:=kT K) (eB hu) (aH (K':=K) (aA 1) aC) (aA 2) (bJ _)) (gQ (fB (r:=kT K) (eB hu) (aH (K':=K) (aA 1) aC) aC (bJ _)))))) ?_;refine aV (σ:=[some v,some (.ref t),some (.int on)]) rfl ?_;walk_at "w";refine cA (λh=>?_) (λh=>?_)
 ·rw[mi h,Bool.true_or] at k;exact k
 ·rw[rp h,Bool.false_or] at k;walk_at "w";exact k
def lE(m:MS)(o d on:Int):ar:=if o=on then (on,max (d - 1) 0) else if on=1 then (1,m.up - 1) else (0,m.down - 1)
inductive tM  (K:W.Frag) (C:Addr) (vs:List V) (H:Hp) (Q:VK) (E:XK):Prop
 |mk:∀(q:Addr) (m:MS) (t:Addr) (o d on:Int),(vs=[.ref q,.ref t,.int on])->cT C H q m->(H t=some (.tup [.int o,.int d]))->((o=on\/d=0))->(∀T H',aO H H'->H T=none->H' T=some (.tup [.int (lE m o d on).1,.int (lE m o d on).2])->Q (.ref T) H')->tM K C vs H Q E
theorem mT(tx:Txt K mg a):bT P w K mg base eY 2 a.vD a.vE ue (tM K a.bA):=by
 have mU:=uJ (P:=P) (w:=w) (base:=base) tx;refine tx.ck.F.ok aCB (by walk_at "l") λbj A outer s H vs Q E hr h=>?_;obtain⟨q,m,t,o,d,on,rfl ,hm,ht,dk,k⟩:=h;have hu:=gM hr;refine aZ (aE (bD (eV (eA (bg mU hr tx.ft (aB (aA 0) (aB (aA 1) (aB (aA 2) aD)))))) (aF kJ) aY)
  (aE (bD (aU (r:=kT K) (eB hu) (aH (K':=K) (aA 1) aC) (aA 2) (bJ _)) (aF (aM (gR (aA 2) (aP (jP rfl) (by rfl) tx.zJ wO (aB (aI fA (aH (K':=K) (aA 1) aC) aC) (aB aC aD)))))) aY)
  (aE (bD (aU (r:=kT K) (eB hu) (aA 2) aC (bJ _)) (aF (aM (gR aC (aI fA (bK (K':=K) (aA 0) rfl) aC)))) aY)
  (aF (aM (gR aC (aI fA (bK (K':=K) (aA 0) rfl) aC))))))) ?_
 obtain⟨dx,pl,hq,_⟩:=hm.ex;refine aV (σ:=[some (.ref q),some (.ref t),some (.int on)]) rfl ?_;walk_at "w";refine⟨_,_,_,_,_,rfl,ht,?_⟩;walk_at "w";rw[show(decide (o=on) || decide (d=0))=true by rcases dk with h|h <;> simp[h]];walk_at "w";unfold lE at k;refine cA (λh=>?_) (λh=>?_)
 ·rw[cO h] at k;walk_at "w";intro T nT;walk_at "w";exact k _ _ (aO.new nT) nT aN
 ·rw[bZ h] at k;walk_at "w";refine cA (λh1=>?_) (λh1=>?_)
  ·rw[cO h1] at k;walk_at "w";refine dM hq tx.cE tx.zG rfl ?_;walk_at "w";intro T nT;walk_at "w";exact k _ _ (aO.new nT) nT aN
  ·rw[bZ h1] at k;walk_at "w";refine dM hq tx.cE tx.tG rfl ?_;walk_at "w";intro T nT;walk_at "w";exact k _ _ (aO.new nT) nT aN
def mq(o:Int):Prop:=o=0\/o=1
theorem Pf{m:MS}(hg:m.Good){o d on:Int}(ho:mq on):mq (lE m o d on).1/\0<=(lE m o d on).2:=by
 obtain⟨u0,u1⟩:=hg.up;obtain⟨d0,d1⟩:=hg.down;unfold lE;split
 ·exact⟨ho,by show 0<=max (d - 1) 0;lia⟩
 ·split
  ·exact⟨.inr rfl,by show 0<=m.up - 1;lia⟩
  ·exact⟨.inl rfl,by show 0<=m.down - 1;lia⟩
theorem aOj{n j:Nat}(h:j < n):pf n (j:Int)=some j:=by
 unfold pf;simp;lia
inductive vS  (K:W.Frag) (vs:List V) (H:Hp) (Q:VK) (E:XK):Prop
 |mk:∀(p s:Addr) (m:MS),(vs=[.ref p,.ref s])->bE H p->dB H s m->m.Good->(∀(t:Addr) (o d:Int) H',H' t=some (.tup [.int o,.int d])->((o=1/\0<=d/\d < m.up)\/(o=0/\0<=d/\d < 60))->bE H' p->bL p H H'->Q (.ref t) H')->vS K vs H Q E
theorem aDU(tx:Txt K mg a):bT P w K mg base eY 2 a.yF a.yG kf (vS K):=by
 have aS:=cZ (P:=P) (w:=w) (base:=base) tx;refine tx.jt.F.ok aDM (by walk_at "l") λbj A outer s H vs Q E hr h=>?_;obtain⟨p,s,m,rfl ,hh,hs,hg,k⟩:=h;have hu:=gM hr;refine aZ (aE (bD (aU (r:=kT K) (eB hu) (bg aS hr tx.af (aB (aA 0) (aB aC aD))) aC (bJ _)) (aF (aM (gR aC (bg aS hr tx.af (aB (aA 0) (aB (aH (K':=K) (aA 1) aC) aD)))))) aY)
  (aE (bD (aU (r:=kT K) (eB hu) (bg aS hr tx.af (aB (aA 0) (aB aC aD))) aC (bJ _)) (aF (aM (gR aC (bg aS hr tx.af (aB (aA 0) (aB aC aD)))))) aY)
  (aF (aM (gR aC (bg aS hr tx.af (aB (aA 0) (aB (aH (K':=K) (aA 1) aC) aD)))))))) ?_
 obtain⟨u0,u1⟩:=hg.up;obtain⟨d0,d1⟩:=hg.down;refine aV (σ:=[some (.ref p),some (.ref s)]) rfl ?_;walk_at "w";refine⟨p,_,rfl,hh,by decide,by decide,λr1 H1 a1 b1 h1 k1 _=>?_⟩;have Nb:=hs.keep hh k1;obtain⟨pl,e1,_⟩:=Nb.ex;walk_at "w";refine cA (λh=>?_) (λh=>?_)
 ·walk_at "w";refine⟨p,_,rfl,h1,by lia,by lia,λr2 H2 a2 b2 h2 k2 _=>?_⟩;walk_at "w";intro T nT;walk_at "w";exact k _ _ _ _ aN (.inl ⟨rfl,a2,b2⟩) (h2.same (aO.new nT)) (k1.trans (k2.trans (aO.new nT).keep))
 ·walk_at "w";refine⟨p,_,rfl,h1,by decide,by decide,λr2 H2 a2 b2 h2 k2 _=>?_⟩;have dv:=Nb.keep h1 k2;obtain⟨Jc,e2,_⟩:=dv.ex;walk_at "w";refine cA (λh=>?_) (λh=>?_)
  ·walk_at "w";refine⟨p,_,rfl,h2,by decide,by decide,λr3 H3 a3 b3 h3 k3 _=>?_⟩;walk_at "w";intro T nT;walk_at "w";exact k _ _ _ _ aN (.inr ⟨rfl,a3,b3⟩) (h3.same (aO.new nT)) (k1.trans (k2.trans (k3.trans (aO.new nT).keep)))
  ·walk_at "w";refine⟨p,_,rfl,h2,by lia,by lia,λr3 H3 a3 b3 h3 k3 _=>?_⟩;walk_at "w";intro T nT;walk_at "w";exact k _ _ _ _ aN (.inr ⟨rfl,a3,by lia⟩) (h3.same (aO.new nT)) (k1.trans (k2.trans (k3.trans (aO.new nT).keep)))
inductive vT  (K:W.Frag) (vs:List V) (H:Hp) (Q:VK) (E:XK):Prop
 |mk:∀(s:Addr) (m:MS) (t:Addr) (o d on:Int),(vs=[.ref s,.ref t,.int on])->dB H s m->(H t=some (.tup [.int o,.int d]))->mq on->mq o->(0<=d)->(((o=on\/d=0)->∀T H',aO H H'->H T=none->H' T=some (.tup [.int (lE m o d on).1,.int (lE m o d on).2])->Q (.ref T) H'))->((¬(o=on\/d=0)->Q .bt H))->vT K vs H Q E
theorem aDV(tx:Txt K mg a):bT P w K mg base eY 1 a.yH a.yI aba (vT K):=by
 refine tx.jy.F.ok aDN (by walk_at "l") λbj A outer s H vs Q E hr h=>?_;obtain⟨s,m,t,o,d,on,rfl ,hs,ht,Ga,ho,hd,k1,k2⟩:=h;have hu:=gM hr;refine aZ (aE (bD (aU (r:=kT K) (eB hu) (aA 2) (aH (K':=K) (aA 1) aC) (bJ _)) (aF (aM (gR (aA 2) (aP (jP rfl) (by rfl) tx.zJ wO (aB aC (aB (aI fA (aH (K':=K) (aA 1) aC) aC) aD)))))) aY)
  (aE (bD (aU rP (aH (K':=K) (aA 1) aC) aC (bJ _)) (aF (aM c8)) aY)
  (aF (aM (gR (aA 2) (aI fA (aH (K':=K) (iX (aH (K':=K) (aA 0) aC) (aH (K':=K) (aA 0) aC)) (aA 2)) aC)))))) ?_
 obtain⟨pl,e1,_⟩:=hs.ex;refine aV (σ:=[some (.ref s),some (.ref t),some (.int on)]) rfl ?_;walk_at "w";refine cA (λh=>?_) (λh=>?_)
 ·have k3:=k1 (.inl h.symm);unfold lE at k3;rw[cO h.symm] at k3;walk_at "w";rw[show max 0 (d - 1)=max (d - 1) 0 by lia];intro T nT;walk_at "w";exact k3 _ _ (aO.new nT) nT aN
 ·walk_at "w";refine cA (λh1=>?_) (λh1=>?_)
  ·walk_at "w";exact k2 (λz=>by rcases z with z|z;exact h z.symm;lia)
  ·have k3:=k1 (.inr (by lia));unfold lE at k3;rw[bZ (λz=>h z.symm)] at k3;walk_at "w";intro l nl;walk_at "w";have sl:=aO.new (o:=.lst [.int m.down,.int m.up]) nl;rcases Ga with rfl|rfl
   ·refine GW (bR.of aN) rfl ?_;rw[bZ (by decide)] at k3;walk_at "w";intro T nT;walk_at "w";exact k3 _ _ (sl.trans (aO.new nT)) (sl.free nT) aN
   ·refine GW (bR.of aN) rfl ?_;rw[cO rfl] at k3;walk_at "w";intro T nT;walk_at "w";exact k3 _ _ (sl.trans (aO.new nT)) (sl.free nT) aN
structure RL{α:Type}(P:Addr->α->Prop)(as:au)(xs:List α):Prop where
 len:as.length=xs.length
 at_:∀(j:Nat) a x,as[j]?=some a->xs[j]?=some x->P a x
theorem RL.nil{α:Type}{P:Addr->α->Prop}:RL P [] []:=⟨rfl,λj a x h=>by simp at h⟩
theorem RL.imp{α:Type}{P P':Addr->α->Prop}{xs:List α}(h:RL P as xs)(f:∀a x,P a x->P' a x):RL P' as xs:=⟨h.len,λj a x h1 h2=>f a x (h.at_ j a x h1 h2)⟩
theorem RL.snoc{α:Type}{P:Addr->α->Prop}{xs:List α}(h:RL P as xs){x:α}(hp:P a x):RL P (as ++ [a]) (xs ++ [x]):=by
 refine⟨by rw[lB,lB,h.len];rfl,λj q u hq hu=>?_⟩;by_cases hj:j < as.length
 ·rw[uh hj] at hq;rw[uh (by rw[<-h.len];exact hj)] at hu;exact h.at_ j q u hq hu
 ·have pj:j < (as ++ [a]).length:=(lU.mp hq).1;rw[lB,DM] at pj;have e:j=as.length:=by lia
  subst e;rw[vg (dQ _),Dz] at hq;rw[h.len,vg (dQ _),Dz] at hu;cases hq;cases hu;exact hp
def QN(H:Hp):Nat->V->V->Prop
 |0,_,_=>False
 |j+1,x,y=>(∃i,x=.int i/\y=.int i)\/(∃b,x=.bl b/\y=.bl b)\/(x=.bt/\y=.bt)\/(∃s,x=.str s/\y=.str s)\/
  ∃(p q:Addr) (xs ys:List V),x=.ref p/\y=.ref q/\((H p=some (.tup xs)/\H q=some (.tup ys))\/(H p=some (.lst xs)/\H q=some (.lst ys)))/\xs.length=ys.length/\ys.length<=1000000/\∀(i:Nat) u v,xs[i]?=some u->ys[i]?=some v->QN H j u v
theorem QN.int{j:Nat}(i:Int):QN H (j+1) (.int i) (.int i):=.inl ⟨i,rfl,rfl⟩
def Fm(o:HO):Prop:=(∃(d c:Int) (q:Addr),o=.lst [.int d,.int c,.ref q])\/∃(C dx:Addr),o=.ins C dx []
def Tr(H H':Hp):Prop:=∀b o,H b=some o->¬Fm o->H' b=some o
theorem Tr.trans(a:Tr H H1)(b:Tr H1 H2):Tr H H2:=λc o e n=>b c o (a c o e n) n
theorem _root_.L2.aO.tr(s:aO H H'):Tr H H':=λb o e _=>s b o e
theorem bE.tr(hh:bE H p)(k:bL p H H'):Tr H H':=λb o e n=>k b o e λz=>by
 obtain⟨d,c,q,ms,hp,_⟩:=hh.ex;rw[z,hp] at e;cases e;exact n (.inl ⟨d,c,q,rfl⟩)
theorem Ye(hx:H x=some (.ins C dx []))(k:bL x H H'):Tr H H':=λb o e n=>k b o e λz=>by
 rw[z,hx] at e;cases e;exact n (.inr ⟨C,dx,rfl⟩)
def Tk(H H':Hp):Prop:=∀b xs,H b=some (.tup xs)->H' b=some (.tup xs)
theorem Tk.trans(a:Tk H H1)(b:Tk H1 H2):Tk H H2:=λc o e=>b c o (a c o e)
theorem Yd:¬Fm (.tup xs):=λz=>by rcases z with ⟨_,_,_,e⟩|⟨_,_,e⟩ <;> cases e
theorem Pe(h:fs≠[]):¬Fm (.ins C dx fs):=λz=>by
 rcases z with ⟨_,_,_,e⟩|⟨_,_,e⟩
 ·cases e
 ·cases e;exact h rfl
theorem oG{xs:List V}(h:xs.length≠3):¬Fm (.lst xs):=λz=>by
 rcases z with ⟨_,_,_,e⟩|⟨_,_,e⟩
 ·cases e;exact h rfl
 ·cases e
theorem zQ{qs:au}:¬Fm (.lst (qs.map V.ref)):=λz=>by
 rcases z with ⟨_,_,_,e⟩|⟨_,_,e⟩
 ·cases qs with
  |nil=>cases e
  |cons x xs=>cases e
 ·cases e
theorem PZ{ns:ae}:¬Fm (.lst (ns.map V.int)):=λz=>by
 rcases z with ⟨d,c,q,e⟩|⟨_,_,e⟩
 ·injection e with e
  have h:=congrArg (λl=>l[2]?) e
  replace h:(ns.map V.int)[2]?=some (.ref q):=h
  rw[kQ] at h;cases hq:ns[2]? with
  |none=>rw[hq] at h;cases h
  |some n=>rw[hq] at h;cases h
 ·cases e
theorem Tr.tk(s:Tr H H'):Tk H H':=λb xs e=>s b _ e Yd
theorem _root_.L2.aO.tk(s:aO H H'):Tk H H':=λb xs e=>s b _ e
def del(l:Addr)(H:Hp):Hp:=λb=>if b=l then none else H b
theorem w9{H:Hp}(n:b≠l):del l H b=H b:=by unfold del;rw[bZ n]
theorem jJ:aO (del l H) H:=λb o e=>by
 unfold del at e;split at e
 ·cases e
 ·exact e
theorem E6:del l H l=none:=by unfold del;rw[cO rfl]
theorem dR(e:H b=some o)(n:b≠l):del l H b=some o:=by rw[w9 n];exact e
theorem Tr.del(s:Tr H H'):Tr (del l H) (del l H'):=λb o e n=>by
 by_cases hb:b=l
 ·subst hb;rw[E6] at e;cases e
 ·rw[w9 hb] at e ⊢;exact s b o e n
theorem zR:del l (upd H l o)=del l H:=by
 funext b
 by_cases hb:b=l
 ·subst hb;rw[E6,E6]
 ·rw[w9 hb,w9 hb,aT hb]
theorem tK.tr{ps:aw}(h:tK H qs ps)(s:Tk H H'):tK H' qs ps:=⟨h.len,λj q t h1 h2=>s _ _ (h.at_ j q t h1 h2)⟩
theorem uU.tr{ps:aw}(h:uU H p ps)(s:Tr H H'):uU H' p ps:=by
 obtain⟨qs,h1,h2⟩:=h.ex;exact⟨qs,s _ _ h1 zQ,h2.tr s.tk⟩
theorem dB.tr(h:dB H p m)(s:Tr H H'):dB H' p m:=by
 obtain⟨pl,h1,h2⟩:=h.ex;exact⟨pl,s _ _ h1 (oG (by simp)),h2.tr s⟩
theorem cT.tr(h:cT C H p m)(s:Tr H H'):cT C H' p m:=by
 obtain⟨dx,pl,h1,h2⟩:=h.ex;exact⟨dx,pl,s _ _ h1 (Pe (by simp[Al])),h2.tr s⟩
structure SS where
 bz:Int
 into:Int
 out:Int
 takes:Int
 gives:Int
structure SS.Good(s:SS):Prop where
 bz:0<=s.bz/\s.bz<=8
 into:0<=s.into/\s.into<=8
 out:0<=s.out/\s.out<=8
 takes:Am s.takes
 gives:Am s.gives
def Lv(s:SS)(l n:Int):Prop:=0<=n/\n<=s.bz/\l - s.out<=n/\n<=l+s.into
instance (s:SS) (l n:Int):Decidable (Lv s l n):=by unfold Lv;infer_instance
def dr(s:SS)(l n:Int):Int:=(if l < n then s.takes else s.gives)*(n - l)
theorem PY{lo n:Int}{k:Nat}:n∈mf lo k↔lo<=n/\n < lo+(k:Int):=by
 unfold mf;rw[fZ];constructor
 ·rintro ⟨j,hj,rfl⟩;have:=zf.mp hj;lia
 ·rintro ⟨h1,h2⟩;exact⟨(n - lo).toNat,zf.mpr (by lia),by lia⟩
theorem aOk(lo:Int)(k:Nat):(mf lo k).length=k:=by
 unfold mf;rw[bX,Lw]
def Mn(s:SS):List (Str×V):=[("cap",.int s.bz),("into",.int s.into),("out",.int s.out),("takes",.int s.takes),("gives",.int s.gives)]
structure KO(H:Hp)(a:Addr)(s:SS):Prop where
 at_:H a=some (.lst [.int s.bz,.int s.into,.int s.out,.int s.takes,.int s.gives])
structure iI(C:Addr)(H:Hp)(x:Addr)(s:SS):Prop where
 ex:∃dx,H x=some (.ins C dx (Mn s))
theorem iI.same(h:iI C H a s)(e:aO H H'):iI C H' a s:=by
 obtain⟨dx,q⟩:=h.ex;exact⟨dx,e _ _ q⟩
inductive aBr  (K:W.Frag) (vs:List V) (H:Hp) (Q:VK) (E:XK):Prop
 |mk:∀(i:Int),(vs=[.int i])->(0<=i)->(i<=8)->(Q (.bl true) H)->aBr K vs H Q E
theorem aHa(tx:Txt K mg a):bT P w K mg base eY 2 a.aCL a.aCM fv (aBr K):=by
 have mS:=tL (P:=P) (w:=w) (base:=base) tx;refine tx.fg.F.ok aGZ (by walk_at "l") λbj A outer s H vs Q E hr h=>?_;obtain⟨i,rfl ,h1,h2,k⟩:=h;have hu:=gM hr;refine aZ (aF (aM (jR (bg mS hr tx.ff (aB (aA 0) aD)) (gQ (rT Ck Ck aC (aA 0) (pF (n:=8) (by rfl) tx.oC)))))) ?_;refine aV (σ:=[some (.int i)]) rfl ?_;walk_at "w";refine⟨_,_,rfl,.int i,?_⟩;walk_at "w";refine iE (λ_=>?_) (λh=>by simp at h);walk_at "w";refine cA (λ_=>?_) (λh=>absurd h1 h);walk_at "w";rw[mi h2];exact k
inductive vU  (K:W.Frag) (C:Addr) (vs:List V) (H:Hp) (Q:VK) (E:XK):Prop
 |mk:∀(x dx:Addr) (s:SS),(vs=[.ref x,.int s.bz,.int s.into,.int s.out,.int s.takes,.int s.gives])->(H x=some (.ins C dx []))->s.Good->(∀H',iI C H' x s->bL x H H'->Q .bt H')->vU K C vs H Q E
theorem aDW(tx:Txt K mg a):bT P w K mg base eY 3 a.pZ a.yJ apa (vU K a.cN):=by
 have dA:=lO (P:=P) (w:=w) (base:=base) tx;have xA:=aHa (P:=P) (w:=w) (base:=base) tx;refine tx.ka.F.ok j0 (by walk_at "l") λbj A outer s H vs Q E hr h=>?_;obtain⟨x,dx,ss,rfl ,hx,hg,k⟩:=h;have hu:=gM hr;refine aZ (aE (aK (i:=6) j0.nd (uH (bg xA hr tx.fg (aB (aA 1) aD)) (bg xA hr tx.fg (aB (aA 2) aD)) (bg xA hr tx.fg (aB (aA 3) aD))))
  (aE (bI PassesOwn.never rfl (kK (K':=K) (by rfl) tx.gL (aB (aI bC (aA 6) (iX (bg dA hr tx.bo (aB (aA 4) aD)) (bg dA hr tx.bo (aB (aA 5) aD)))) aD)) (bQ (K':=K) (n:=2) rfl (aR (aJ (i:=7) j0.nd) (aR (aJ (i:=8) j0.nd) bP))) (aF (bD (eV (eA (aA 8))) (aF kJ) aY)))
  (aE (cI (K':=K) (aA 0) (aA 1) rfl)
  (aE (cI (K':=K) (aA 0) (aA 2) rfl)
  (aE (cI (K':=K) (aA 0) (aA 3) rfl)
  (aE (cI (K':=K) (aA 0) (aA 4) rfl)
  (aF (cI (K':=K) (aA 0) (aA 5) rfl)))))))) ?_
 refine aV (σ:=[some (.ref x),some (.int ss.bz),some (.int ss.into),some (.int ss.out),some (.int ss.takes),some (.int ss.gives),none,none,none]) rfl ?_;walk_at "w";refine⟨_,rfl,hg.bz.1,hg.bz.2,?_⟩;walk_at "w";refine⟨_,rfl,hg.into.1,hg.into.2,?_⟩;walk_at "w";refine⟨_,rfl,hg.out.1,hg.out.2,?_⟩;walk_at "w";intro l1 n1;walk_at "w";refine⟨_,_,rfl,.int _,?_⟩;rw[qC hg.takes];walk_at "w";refine⟨_,_,rfl,.int _,?_⟩;rw[qC hg.gives];walk_at "w";intro l2 n2;walk_at "w";refine iT (xs:=[.bl true,.bl true,.bl true]) (zs:=[.bl true,.bl true]) (aO.new n2 _ _ aN) aN (cB (by simp)) ?_;intro l3 n3;have s3:aO H (upd (upd (upd H l1 (.lst [.bl true,.bl true,.bl true])) l2 (.lst [.bl true,.bl true])) l3 (.lst ([.bl true,.bl true,.bl true] ++ [.bl true,.bl true]))):=((aO.new n1).trans (aO.new n2)).trans (aO.new n3);have e3:(upd (upd (upd H l1 (.lst [.bl true,.bl true,.bl true])) l2 (.lst [.bl true,.bl true])) l3 (.lst ([.bl true,.bl true,.bl true] ++ [.bl true,.bl true]))) l3=some (.lst [.bl true,.bl true,.bl true,.bl true,.bl true]):=aN
 generalize upd (upd (upd H l1 (.lst [.bl true,.bl true,.bl true])) l2 (.lst [.bl true,.bl true])) l3 (.lst ([.bl true,.bl true,.bl true] ++ [.bl true,.bl true]))=H3 at s3 e3 ⊢;walk_at "w";refine GP (bR.of e3) ?_;refine xS (xs:=[.bl true,.bl true,.bl true,.bl true,.bl true]) (λi σ' H'=>∃y z,σ'=[some (.ref x),some (.int ss.bz),some (.int ss.into),some (.int ss.out),some (.int ss.takes),some (.int ss.gives),some (.ref l1),y,z]/\aO H3 H')
  ⟨_,_,rfl,aO.refl _⟩ (λi σ' H' hi ⟨y,z,e,s⟩=>bR.of (s _ _ e3)) (λi v σ' H' T hv SA nT=>?_) (λσ' H' Sz=>?_)
 ·obtain⟨y,z,e,s⟩:=SA;subst e;have ev:v=.bl true:=by
   have:=kP hv;simpa using this
  subst ev;refine cV (iC.of aN) rfl ?_;walk_at "w";exact⟨_,_,rfl,s.trans (aO.new nT)⟩
 ·obtain⟨y,z,e,s⟩:=Sz;subst e;have sH:aO H H':=s3.trans s;have og:=sH _ _ hx;walk_at "w";refine gC (fs':=[("cap",.int ss.bz)]) og tx.iH tx.tI (by simp) rfl ?_;walk_at "w";refine gC (fs':=[("cap",.int ss.bz),("into",.int ss.into)]) aN tx.iH tx.zH (by simp) rfl ?_;rw[gN];walk_at "w";refine gC (fs':=[("cap",.int ss.bz),("into",.int ss.into),("out",.int ss.out)]) aN tx.iH tx.aBm (by simp) rfl ?_;rw[gN];walk_at "w";refine gC (fs':=[("cap",.int ss.bz),("into",.int ss.into),("out",.int ss.out),("takes",.int ss.takes)]) aN tx.iH tx.vO (by simp) rfl ?_;rw[gN];walk_at "w";refine gC (fs':=Mn ss) aN tx.iH tx.vP (by simp) rfl ?_;rw[gN];walk_at "w";exact k _ ⟨dx,aN⟩ (sH.keep.trans bL.upd)
theorem KO.tr(h:KO H a s)(e:Tr H H'):KO H' a s:=⟨e _ _ h.at_ (oG (by simp))⟩
theorem iI.tr(h:iI C H a s)(e:Tr H H'):iI C H' a s:=by
 obtain⟨dx,q⟩:=h.ex;exact⟨dx,e _ _ q (Pe (by simp[Mn]))⟩
def LP(H:Hp)(q:Addr)(t:ar):Prop:=H q=some (.tup [.int t.1,.int t.2])
structure Kq(H:Hp)(t:Addr)(ss:aw):Prop where
 ex:∃qs,H t=some (.tup (qs.map V.ref))/\RL (LP H) qs ss
abbrev Ps:=aw×Int
structure zS(H:Hp)(a:Addr)(P:Ps):Prop where
 ex:∃t,H a=some (.tup [.ref t,.int P.2])/\Kq H t P.1
structure Hr where
 tu:ae
 outs:ae
 Ap:Int
structure Kd(H:Hp)(a:Addr)(h:Hr):Prop where
 ex:∃t u,H a=some (.tup [.ref t,.ref u,.int h.Ap])/\H t=some (.tup (h.tu.map V.int))/\H u=some (.tup (h.outs.map V.int))
structure Pd(H:Hp)(a:Addr)(hs:List Hr):Prop where
 ex:∃qs,H a=some (.lst (qs.map V.ref))/\RL (Kd H) qs hs
structure Pc(H:Hp)(a:Addr)(hs:List Ps):Prop where
 ex:∃qs,H a=some (.lst (qs.map V.ref))/\RL (zS H) qs hs
theorem Kq.tk{ss:aw}(h:Kq H t ss)(s:Tk H H'):Kq H' t ss:=by
 obtain⟨qs,h1,h2⟩:=h.ex;exact⟨qs,s _ _ h1,h2.imp λa x z=>s _ _ z⟩
theorem zS.tk(h:zS H a P)(s:Tk H H'):zS H' a P:=by
 obtain⟨t,h1,h2⟩:=h.ex;exact⟨t,s _ _ h1,h2.tk s⟩
theorem Kd.tk(x:Kd H a h)(s:Tk H H'):Kd H' a h:=by
 obtain⟨t,u,h1,h2,h3⟩:=x.ex;exact⟨t,u,s _ _ h1,s _ _ h2,s _ _ h3⟩
theorem Pd.tr(x:Pd H a hs)(s:Tr H H'):Pd H' a hs:=by
 obtain⟨qs,h1,h2⟩:=x.ex;exact⟨qs,s _ _ h1 zQ,h2.imp λa x z=>z.tk s.tk⟩
theorem Pc.tr(x:Pc H a hs)(s:Tr H H'):Pc H' a hs:=by
 obtain⟨qs,h1,h2⟩:=x.ex;exact⟨qs,s _ _ h1 zQ,h2.imp λa x z=>z.tk s.tk⟩
structure WS where
 specs:List MS
 store:Option SS
 bh:Int
 x:Int
 y:Int
 wide:Int
structure WS.Good(W:WS):Prop where
 specs:∀m∈W.specs,m.Good
 len:W.specs.length<=6
 store:∀s,W.store=some s->s.Good
 bh:Am W.bh
 x:1<=W.x/\W.x<=50000000000
 y:1<=W.y/\W.y<=50000000000
 wide:W.wide=0\/W.wide=1
structure qD(H:Hp)(l:Addr)(ms:List MS):Prop where
 ex:∃qs,H l=some (.lst (qs.map V.ref))/\RL (dB H) qs ms
structure nM(C:Addr)(H:Hp)(l:Addr)(ms:List MS):Prop where
 ex:∃qs,H l=some (.lst (qs.map V.ref))/\RL (cT C H) qs ms
def AI(H:Hp)(v:V):Option SS->Prop
 |none=>v=.bt
 |some s=>∃a,v=.ref a/\KO H a s
def EU(C:Addr)(H:Hp)(v:V):Option SS->Prop
 |none=>v=.bt
 |some s=>∃a,v=.ref a/\iI C H a s
theorem qD.tr(h:qD H l ms)(s:Tr H H'):qD H' l ms:=by
 obtain⟨qs,h1,h2⟩:=h.ex;exact⟨qs,s _ _ h1 zQ,h2.imp λa x z=>z.tr s⟩
theorem nM.tr(h:nM C H l ms)(s:Tr H H'):nM C H' l ms:=by
 obtain⟨qs,h1,h2⟩:=h.ex;exact⟨qs,s _ _ h1 zQ,h2.imp λa x z=>z.tr s⟩
theorem AI.tr:∀{o:Option SS},AI H v o->Tr H H'->AI H' v o
 |none,h,_=>h
 |some s,⟨a,e,h⟩,t=>⟨a,e,h.tr t⟩
theorem EU.tr:∀{o:Option SS},EU C H v o->Tr H H'->EU C H' v o
 |none,h,_=>h
 |some s,⟨a,e,h⟩,t=>⟨a,e,h.tr t⟩
structure nO(H:Hp)(a:Addr)(W:WS):Prop where
 ex:∃ls st b,H a=some (.lst [.ref ls,st,.int W.bh,.ref b,.int W.wide])/\qD H ls W.specs/\AI H st W.store/\H b=some (.lst [.int W.x,.int W.y])
theorem nO.tr(h:nO H a W)(s:Tr H H'):nO H' a W:=by
 obtain⟨ls,st,b,h1,h2,h3,h4⟩:=h.ex;exact⟨ls,st,b,s _ _ h1 (oG (by simp)),h2.tr s,h3.tr s,s _ _ h4 (oG (by simp))⟩
def FI(lm:Addr)(st:V)(k:Int):List (Str×V):=[("machines",.ref lm),("store",st),("lack",.int k)]
structure kB(CW CM CS:Addr)(H:Hp)(w:Addr)(W:WS):Prop where
 ex:∃dx lm st,H w=some (.ins CW dx (FI lm st W.bh))/\nM CM H lm W.specs/\EU CS H st W.store
theorem kB.tr(h:kB CW CM CS H w W)(s:Tr H H'):kB CW CM CS H' w W:=by
 obtain⟨dx,lm,st,h1,h2,h3⟩:=h.ex;exact⟨dx,lm,st,s _ _ h1 (Pe (by simp[FI])),h2.tr s,h3.tr s⟩
def VS(s:ar):Prop:=mq s.1/\0<=s.2
def Cb:List MS->aw->ae->aw
 |m::ms,s::ss,o::os=>lE m s.1 s.2 o::Cb ms ss os
 |_,_,_=>[]
theorem Qj:∀{ms:List MS}{ss:aw}{os:ae},ss.length=ms.length->os.length=ms.length->(Cb ms ss os).length=ms.length
 |[],_,_,_,_=>by simp[Cb]
 |m::ms,s::ss,o::os,h1,h2=>by
  show(lE m s.1 s.2 o::Cb ms ss os).length=_;rw[oi,Qj (by simpa using h1) (by simpa using h2),oi]
 |_::_,[],_,h,_=>by cases h
 |_::_,_::_,[],_,h=>by cases h
theorem Zs:∀{ms:List MS}{ss:aw}{os:ae}{j:Nat}{m:MS}{s:ar}{o:Int},ms[j]?=some m->ss[j]?=some s->os[j]?=some o->(Cb ms ss os)[j]?=some (lE m s.1 s.2 o)
 |m::ms,s::ss,o::os,0,_,_,_,h1,h2,h3=>by cases h1;cases h2;cases h3;rfl
 |m::ms,s::ss,o::os,j+1,_,_,_,h1,h2,h3=>by
  show(Cb ms ss os)[j]?=_;exact Zs h1 h2 h3
 |[],_,_,_,_,_,_,h,_,_=>by simp at h
 |_::_,[],_,_,_,_,_,_,h,_=>by simp at h
 |_::_,_::_,[],_,_,_,_,_,_,h=>by simp at h
def May(ss:aw)(os:ae):Prop:=∀(j:Nat) (s:ar) (o:Int),ss[j]?=some s->os[j]?=some o->s.1=o\/s.2=0
def Ci(W:WS)(l:Int):Prop:=match W.store with|none=>l=0|some s=>0<=l/\l<=s.bz
def LX(W:WS)(l n:Int):Prop:=match W.store with|none=>n=0|some s=>Lv s l n
structure E5(W:WS)(P:Ps):Prop where
 len:P.1.length=W.specs.length
 vs:∀s∈P.1,VS s
 Ap:Ci W P.2
def aRN(m:MS)(on out:Int):Prop:=(on=0->out=0)/\(on≠0->m.least<=out/\out<=m.least+oF m.pieces)
structure KN(W:WS)(P:Ps)(h:Hr):Prop where
 tu:h.tu.length=W.specs.length
 outs:h.outs.length=W.specs.length
 bits:∀o∈h.tu,mq o
 may:May P.1 h.tu
 out:∀(j:Nat) m on out,W.specs[j]?=some m->h.tu[j]?=some on->h.outs[j]?=some out->aRN m on out
 Ap:LX W P.2 h.Ap
def Em(W:WS)(P:Ps)(h:Hr):Ps:=(Cb W.specs P.1 h.tu,h.Ap)
theorem LX.ok{l n:Int}(h:LX W l n):Ci W n:=by
 unfold LX at h;unfold Ci;cases e:W.store with
 |none=>rw[e] at h;exact h
 |some s=>rw[e] at h;exact⟨h.1,h.2.1⟩
theorem KN.Em{W:WS}(g:W.Good)(p:E5 W P)(x:KN W P h):E5 W (Em W P h):=by
 refine⟨Qj p.len x.tu,λs hs=>?_,x.Ap.ok⟩;obtain⟨j,hj⟩:=ve hs;have hl:=Qj p.len x.tu;have A2:j < W.specs.length:=by rw[<-hl];exact(lU.mp hj).1
 have g1:W.specs[j]?=some W.specs[j]:=eS A2;have g2:P.1[j]?=some (P.1[j]'(by rw[p.len];exact A2)):=eS _;have g3:h.tu[j]?=some (h.tu[j]'(by rw[x.tu];exact A2)):=eS _
 replace hj:(Cb W.specs P.1 h.tu)[j]?=some s:=hj
 rw[Zs g1 g2 g3] at hj;cases hj;exact Pf (g.specs _ (Cs A2)) (x.bits _ (kP g3))
def tN(W:WS):Ps->List Hr->Prop
 |_,[]=>True
 |P,h::hs=>KN W P h/\tN W (Em W P h) hs
def Ol(W:WS):Ps->List Hr->Ps
 |P,[]=>P
 |P,h::hs=>Ol W (Em W P h) hs
theorem tN.pos{W:WS}(g:W.Good):∀{P:Ps}{hs:List Hr},E5 W P->tN W P hs->E5 W (Ol W P hs)
 |_,[],p,_=>p
 |P,h::hs,p,x=>tN.pos (P:=Em W P h) (hs:=hs) g (x.1.Em g p) x.2
theorem tN.take:∀{P:Ps}{hs:List Hr}{i:Nat}{h:Hr},tN W P hs->hs[i]?=some h->tN W P (hs.take i)/\KN W (Ol W P (hs.take i)) h
 |P,g::hs,0,h,x,e=>by cases e;exact⟨trivial,x.1⟩
 |P,g::hs,i+1,h,x,e=>by
  have:=tN.take (i:=i) (h:=h) x.2 e;exact⟨⟨x.1,this.1⟩,this.2⟩
 |_,[],_,_,_,e=>by simp at e
theorem take_snoc{α:Type}{l:List α}{i:Nat}{x:α}(h:l[i]?=some x):l.take (i+1)=l.take i ++ [x]:=by
 rw[Cu,h];rfl
theorem RL.get{α:Type}{P:Addr->α->Prop}{as:au}{xs:List α}(h:RL P as xs){i:Nat}(hv:(as.map V.ref)[i]?=some v):∃a x,as[i]?=some a/\v=.ref a/\xs[i]?=some x/\P a x:=by
 rw[kQ] at hv;cases hq:as[i]? with
 |none=>rw[hq] at hv;cases hv
 |some a=>
  rw[hq] at hv;cases hv;have li:i < xs.length:=by rw[<-h.len];exact(lU.mp hq).1
  have hx:xs[i]?=some xs[i]:=eS li;exact⟨a,xs[i],rfl,rfl,hx,h.at_ i a _ hq hx⟩
theorem aOm{as:au}{i:Nat}(h:as[i]?=some a):uP (as.map V.ref) (i:Int)=some (.ref a):=iD (by rw[kQ,h];rfl)
theorem iJ{ns:ae}{i:Nat}(h:(ns.map V.int)[i]?=some x):∃n,ns[i]?=some n/\x=.int n:=by
 rw[kQ] at h;cases hq:ns[i]? with
 |none=>rw[hq] at h;cases h
 |some n=>rw[hq] at h;cases h;exact⟨n,rfl,rfl⟩
theorem qE(np:H p=none)(s:aO H H1)(k:bL p H1 H2):aO H H2:=λb o e=>k _ _ (s _ _ e) (bB np e)
theorem RL.take{α:Type}{P:Addr->α->Prop}{as:au}{xs:List α}(h:RL P as xs)(i:Nat):RL P (as.take i) (xs.take i):=by
 refine⟨by rw[qa,qa,h.len],λj a x h1 h2=>?_⟩;rw[List.getElem?_take] at h1 h2;split at h1
 ·rename_i hj;rw[cO hj] at h2;exact h.at_ j a x h1 h2
 ·cases h1
def qt(m:MS):Int->Int->ae->Nat->V
 |_,_,[],_=>.bt
 |o,d,on::r,i=>if o=on\/d=0 then qt m (lE m o d on).1 (lE m o d on).2 r (i+1) else .int i
theorem YV{ns:ae}{i:Nat}{n:Int}(h:ns[i]?=some n):ns.drop i=n::ns.drop (i+1):=by
 obtain⟨hi,e⟩:=lU.mp h;rw[QL hi,e]
inductive zT  (K:W.Frag) (C:Addr) (vs:List V) (H:Hp) (Q:VK) (E:XK):Prop
 |mk:∀(q:Addr) (m:MS) (t:Addr) (o d:Int) (p:Addr) (ns:ae),(vs=[.ref q,.ref t,.ref p])->cT C H q m->(H t=some (.tup [.int o,.int d]))->(H p=some (.lst (ns.map V.int)))->(∀H',aO H H'->Q (qt m o d ns 0) H')->zT K C vs H Q E
theorem aFL(tx:Txt K mg a):bT P w K mg base eY 3 a.aBh a.aBi ba (zT K a.bA):=by
 have mU:=uJ (P:=P) (w:=w) (base:=base) tx;have hX:=mT (P:=P) (w:=w) (base:=base) tx;refine tx.lu.F.ok lN (by walk_at "l") λbj A outer s H vs Q E hr h=>?_;obtain⟨q,m,t,o,d,p,ns,rfl ,hm,ht,hp,k⟩:=h;have hu:=gM hr;refine aZ (aE (bI PassesOwn.never rfl (kK (K':=K) (by rfl) tx.gL (aB (aA 2) aD)) (bQ (K':=K) (n:=2) rfl (aR (aJ (i:=3) lN.nd) (aR (aJ (i:=4) lN.nd) bP))) (aE (bD (eV (eA (bg mU hr tx.ft (aB (aA 0) (aB (aA 1) (aB (aA 4) aD)))))) (aF (aM (aA 3))) aY)
  (aF (aK (i:=1) lN.nd (bg hX hr tx.ck (aB (aA 0) (aB (aA 1) (aB (aA 4) aD))))))))
  (aF (aM c8))) ?_
 refine aV (σ:=[some (.ref q),some (.ref t),some (.ref p),none,none]) rfl ?_;walk_at "w";refine GP (bR.of hp) ?_;refine xS (xs:=ns.map V.int) (λi σ' H'=>∃t' o' d' x3 x4,σ'=[some (.ref q),some (.ref t'),some (.ref p),x3,x4]/\H' t'=some (.tup [.int o',.int d'])/\aO H H'/\qt m o' d' (ns.drop i) i=qt m o d ns 0)
  ⟨t,o,d,_,_,rfl,ht,aO.refl _,rfl⟩ (λi σ' H' hi ⟨t',o',d',x3,x4,e,h1,h2,h3⟩=>bR.of (h2 _ _ hp)) (λi x σ' H' T hx Sy nT=>?_) (λσ' H' Sx=>?_)
 ·obtain⟨t',o',d',x3,x4,e,h1,h2,h3⟩:=Sy;subst e;rw[kQ] at hx;obtain⟨n,hn,rfl⟩ : ∃n,ns[i]?=some n/\x=.int n:=by
   cases hq:ns[i]? with
   |none=>rw[hq] at hx;cases hx
   |some n=>rw[hq] at hx;cases hx;exact⟨n,rfl,rfl⟩
  rw[YV hn] at h3;have sT:=aO.new (o:=.tup [.int (i:Int),.int n]) nT;refine cV (iC.of aN) rfl ?_;walk_at "w";refine⟨_,_,_,_,_,rfl,sT _ _ h1,?_⟩;walk_at "w";have EI:(if o'=n\/d'=0 then qt m (lE m o' d' n).1 (lE m o' d' n).2 (ns.drop (i+1)) (i+1) else .int i)=qt m o d ns 0:=h3;by_cases dk:o'=n\/d'=0
  ·rw[cO dk] at EI;rw[show(decide (o'=n) || decide (d'=0))=true by rcases dk with h|h <;> simp[h]];walk_at "w";refine⟨q,m,t',o',d',n,rfl,hm.same (h2.trans sT),sT _ _ h1,dk,λT2 H2 s2 Jl A6=>?_⟩;walk_at "w";exact⟨T2,_,_,_,_,rfl,A6,(h2.trans sT).trans s2,EI⟩
  ·rw[bZ dk] at EI;rw[show(decide (o'=n) || decide (d'=0))=false by simp only[not_or] at dk;simp[dk.1,dk.2]];walk_at "w";rw[<-EI] at k;exact k _ (h2.trans sT)
 ·obtain⟨t',o',d',x3,x4,e,h1,h2,h3⟩:=Sx;subst e;rw[bX,Ln] at h3;walk_at "w";have EI:V.bt=qt m o d ns 0:=h3;rw[EI];exact k _ h2
def yx:Int->ae->Nat->ae
 |_,[],_=>[]
 |o,on::r,i=>(if on=1/\o=0 then [(i:Int)] else [])++yx on r (i+1)
def ET(m:MS)(o:Int)(ns:ae):Int:=m.begin_*((yx o ns 0).length:Int)+m.run*(ns.count 1:Nat)+m.rest*(ns.count 0:Nat)
inductive qR  (K:W.Frag) (C:Addr) (vs:List V) (H:Hp) (Q:VK) (E:XK):Prop
 |mk:∀(q:Addr) (m:MS) (t:Addr) (o d:Int) (p:Addr) (ns:ae),(vs=[.ref q,.ref t,.ref p])->cT C H q m->(H t=some (.tup [.int o,.int d]))->(H p=some (.lst (ns.map V.int)))->(qt m o d ns 0=.bt)->(∀H',aO H H'->Q .bt H')->qR K C vs H Q E
theorem aBI(tx:Txt K mg a):bT P w K mg base eY 4 a.sL a.sM ba (qR K a.bA):=by
 have aHd:=aFL (P:=P) (w:=w) (base:=base) tx;refine tx.gg.F.ok qL (by walk_at "l") λbj A outer s H vs Q E hr h=>?_;obtain⟨q,m,t,o,d,p,ns,rfl ,hm,ht,hp,hf,k⟩:=h;have hu:=gM hr;refine aZ (aE (aK (i:=3) qL.nd (bg aHd hr tx.lu (aB (aA 0) (aB (aA 1) (aB (aA 2) aD)))))
  (aF (bD (aU uG (aA 3) c8 (bJ _)) (aF kJ) aY))) ?_
 refine aV (σ:=[some (.ref q),some (.ref t),some (.ref p),none]) rfl ?_;walk_at "w";refine⟨q,m,t,o,d,p,ns,rfl,hm,ht,hp,λH1 s1=>?_⟩;rw[hf];walk_at "w";exact k _ s1
inductive vV  (K:W.Frag) (C:Addr) (vs:List V) (H:Hp) (Q:VK) (E:XK):Prop
 |mk:∀(q:Addr) (m:MS) (t:Addr) (o d:Int) (p:Addr) (ns:ae),(vs=[.ref q,.ref t,.ref p])->cT C H q m->(H t=some (.tup [.int o,.int d]))->(H p=some (.lst (ns.map V.int)))->(ns.length<=48)->(qt m o d ns 0=.bt)->(∀c H',aO H H'->H c=none->H' c=some (.lst ((yx o ns 0).map V.int))->Q (.ref c) H')->vV K C vs H Q E
theorem aDY(tx:Txt K mg a):bT P w K mg base eY 5 a.yK a.yL ba (vV K a.bA):=by
 have aC7:=aBI (P:=P) (w:=w) (base:=base) tx;refine tx.jh.F.ok fT (by walk_at "l") λbj A outer s H vs Q E hr h=>?_;obtain⟨q,m,t,o,d,p,ns,rfl ,hm,ht,hp,hl,hn,k1⟩:=h;have hu:=gM hr;refine aZ (aE (dE (bg aC7 hr tx.gg (aB (aA 0) (aB (aA 1) (aB (aA 2) aD)))))
  (aE (aK (i:=3) fT.nd (lS aD))
  (aE (aK (i:=4) fT.nd (aH (K':=K) (aA 1) aC))
  (aE (bI PassesOwn.never rfl (kK (K':=K) (by rfl) tx.gL (aB (aA 2) aD)) (bQ (K':=K) (n:=2) rfl (aR (aJ (i:=5) fT.nd) (aR (aJ (i:=6) fT.nd) bP))) (aE (bD (eN (iN (aU (r:=kT K) (eB hu) (aA 6) aC (bJ _)) (gE (aU (r:=kT K) (eB hu) (aA 4) aC (bJ _))))) (aF (dE (eC (K':=K) (aA 3) (aB (aA 5) aD)))) aY)
  (aF (aK (i:=4) fT.nd (aA 6)))))
  (aF (aM (aA 3))))))) ?_
 refine aV (σ:=[some (.ref q),some (.ref t),some (.ref p),none,none,none,none]) rfl ?_;walk_at "w";refine⟨q,m,t,o,d,p,ns,rfl,hm,ht,hp,hn,λH1 s1=>?_⟩;walk_at "w";intro c nc;obtain⟨H2,i2,s2,g2⟩:=nw _ nc;rw[i2];have ht2:=(s1.trans s2) _ _ ht;have Nf:=(s1.trans s2) _ _ hp;have cp:c≠p:=λz=>by rw[z] at nc;exact bB nc (s1 _ _ hp) rfl
 walk_at "w";refine GP (bR.of Nf) ?_;refine xS (xs:=ns.map V.int) (λi σ' H'=>∃(a':Int) (bs:ae) (x5 x6:Option V),σ'=[some (.ref q),some (.ref t),some (.ref p),some (.ref c),some (.int a'),x5,x6]/\H' c=some (.lst (bs.map V.int))/\bs.length<=i/\bs++yx a' (ns.drop i) i=yx o ns 0/\aO H1 H')
  ⟨o,[],_,_,rfl,g2,dQ _,rfl,s2⟩ (λi σ' H' hi ⟨a',bs,x5,x6,e,g,lb,eb,s'⟩=>bR.of (s' _ _ (s1 _ _ hp))) (λi x σ' H' T hx Sw nT=>?_) (λσ' H' Sv=>?_)
 ·obtain⟨a',bs,x5,x6,e,g,lb,eb,s'⟩:=Sw;subst e;rw[kQ] at hx;obtain⟨n,JD,rfl⟩:=kl.mp hx;have hi:i < ns.length:=(lU.mp JD).1;rw[YV JD] at eb;obtain⟨H3,i3,s3,g3⟩:=nw (.tup [.int (i:Int),.int n]) nT;rw[i3];refine cV (iC.of g3) rfl ?_;have g':=s3 _ _ g;have EM:bs++((if n=1/\a'=0 then [(i:Int)] else [])++yx n (ns.drop (i+1)) (i+1))=yx o ns 0:=eb;walk_at "w";refine cA (λh1=>?_) (λh1=>?_)
  ·walk_at "w";refine cA (λh2=>?_) (λh2=>?_)
   ·rw[cO ⟨h1,h2⟩,<-DJ] at EM;walk_at "w";refine iV (bR.of g') ?_;walk_at "w";refine mC (xs:=bs.map V.int) g' (qI (by rw[bX];lia:(bs.map V.int).length < 1000) (cB (by simp))) ?_;obtain⟨H4,i4,k4,g4⟩:=wr H3 c (.lst (bs.map V.int ++ [.int (i:Int)]));rw[i4];walk_at "w";exact⟨n,bs ++ [(i:Int)],_,_,rfl,by rw[g4,iK];rfl,by rw[lB];simp;exact lb,EM,λb o e=>k4 _ _ (s3 _ _ (s' _ _ e)) (bB nc e)⟩
   ·rw[bZ (λz=>h2 z.2),List.nil_append] at EM;walk_at "w";exact⟨n,bs,_,_,rfl,g',by lia,EM,s'.trans s3⟩
  ·rw[bZ (λz=>h1 z.1),List.nil_append] at EM;walk_at "w";exact⟨n,bs,_,_,rfl,g',by lia,EM,s'.trans s3⟩
 ·obtain⟨a',bs,x5,x6,e,g,lb,eb,s'⟩:=Sv;subst e;rw[bX,Ln] at eb;rw[show bs++yx a' [] ns.length=bs from pz bs] at eb;walk_at "w";exact k1 c _ (s1.trans s') (s1.free nc) (by rw[<-eb];exact g)
inductive aBt  (K:W.Frag) (C:Addr) (vs:List V) (H:Hp) (Q:VK) (E:XK):Prop
 |mk:∀(q:Addr) (m:MS) (t:Addr) (o d:Int) (p:Addr) (ns:ae),(vs=[.ref q,.ref t,.ref p])->cT C H q m->m.Good->(H t=some (.tup [.int o,.int d]))->(H p=some (.lst (ns.map V.int)))->(ns.length<=48)->(qt m o d ns 0=.bt)->(∀H',aO H H'->Q (.int (ET m o ns)) H')->aBt K C vs H Q E
theorem aHe(tx:Txt K mg a):bT P w K mg base eY 6 a.aCN a.aCO ba (aBt K a.bA):=by
 have aFM:=aDY (P:=P) (w:=w) (base:=base) tx;refine tx.ng.F.ok aA4 (by walk_at "l") λbj A outer s H vs Q E hr h=>?_;obtain⟨q,m,t,o,d,p,ns,rfl ,hm,hg,ht,hp,hl,hn,k1⟩:=h;have hu:=gM hr;refine aZ (aE (aK (i:=3) aA4.nd (aP (rc:=uR K) dY (by rfl) tx.mR jO (aB (bg aFM hr tx.jh (aB (aA 0) (aB (aA 1) (aB (aA 2) aD)))) aD)))
  (aF (aM (aI bC (aI bC (aI bV (bK (K':=K) (aA 0) rfl) (aA 3)) (aI bV (bK (K':=K) (aA 0) rfl) (xV (K':=K) (aA 2) (aB aC aD)))) (aI bV (bK (K':=K) (aA 0) rfl) (xV (K':=K) (aA 2) (aB aC aD))))))) ?_
 obtain⟨b0,b1⟩:=hg.begin_;obtain⟨u0,u1⟩:=hg.run;obtain⟨r0,r1⟩:=hg.rest;refine aV (σ:=[some (.ref q),some (.ref t),some (.ref p),none]) rfl ?_;walk_at "w";refine⟨q,m,t,o,d,p,ns,rfl,hm,ht,hp,hl,hn,λc H1 s1 nc gc=>?_⟩;obtain⟨dx,pl,hq,_⟩:=(hm.same s1).ex;have JB:=s1 _ _ hp;walk_at "w";refine dM hq tx.cE tx.qO rfl ?_;walk_at "w";refine dM hq tx.cE tx.vN rfl ?_;walk_at "w";refine iV (bR.of JB) ?_;walk_at "w";refine ZN (bR.of JB) ?_;walk_at "w";refine dM hq tx.cE tx.tH rfl ?_;walk_at "w";refine iV (bR.of JB) ?_;walk_at "w";refine ZN (bR.of JB) ?_;walk_at "w";rw[bX];exact k1 _ s1
def Ok(m:MS):Int->Int->ae->Prop
 |_,_,[]=>True
 |o,d,on::r=>(o=on\/d=0)/\Ok m (lE m o d on).1 (lE m o d on).2 r
def ed(m:MS):Int->Int->ae->ar
 |o,d,[]=>(o,d)
 |o,d,on::r=>ed m (lE m o d on).1 (lE m o d on).2 r
def Bj(o d:Int):Prop:=mq o/\0<=d/\d < 60
theorem Bj.lE{m:MS}(g:m.Good){o d on:Int}(h:Bj o d)(b:mq on):Bj (lE m o d on).1 (lE m o d on).2:=by
 obtain⟨h0,h1,h2⟩:=h;refine⟨(Pf g b).1,(Pf g b).2,?_⟩;have u:=g.up;have v:=g.down;unfold My.lE;split
 ·show max (d - 1) 0 < 60;lia
 ·split
  ·show m.up - 1 < 60;lia
  ·show m.down - 1 < 60;lia
def tP(m:MS)(on:Int)(f:Int->Int->Int)(o d:Int):Int:=if o=on\/d=0 then f (lE m o d on).1 (lE m o d on).2 else 0
def tB(m:MS)(f:Int->Int->Int)(o d:Int):Int:=tP m 0 f o d+tP m 1 f o d
def one(_ _:Int):Int:=1
abbrev WP:=(ar)×Int
def lP(k:ar):List Key:=[.inl k.1,.inl k.2]
def enc(ps:List WP):List (List Key×V):=ps.map λp=>(lP p.1,V.int p.2)
theorem zU{a b:ar}(h:lP a=lP b):a=b:=by
 unfold lP at h;simp only[List.cons.injEq,Sum.inl.injEq,and_true] at h;exact Prod.ext h.1 h.2
def tO(ps:List WP)(k:ar):Option Int:=(ps.find? λp=>decide (p.1=k)).map (·.2)
def addW(ps:List WP)(k:ar)(v:Int):List WP:=if ps.any (λp=>decide (p.1=k)) then ps.map (λp=>if p.1=k then (p.1,v) else p) else ps ++ [(k,v)]
theorem PX(ps:List WP)(k:ar):lH (enc ps) (lP k)=(tO ps k).map V.int:=by
 unfold lH tO enc;induction ps with
 |nil=>rfl
 |cons p r ih=>
  by_cases h:p.1=k
  ·simp[h]
  ·have:lP p.1≠lP k:=λz=>h (zU z);simp only[uY,uf,this,h,decide_false];exact ih
theorem YU(ps:List WP)(k:ar)(v:Int):putK (enc ps) (lP k) (.int v)=enc (addW ps k v):=by
 unfold putK addW enc;have e:((ps.map λp:WP=>(lP p.1,V.int p.2)).any λkv=>decide (kv.1=lP k))=ps.any λp=>decide (p.1=k):=by
  rw[List.any_map];congr 1;funext p
  show decide (lP p.1=lP k)=decide (p.1=k);exact decide_eq_decide.mpr ⟨zU,λz=>by rw[z]⟩
 rw[e];split
 ·rw[kh,kh];congr 1;funext p
  show(if lP p.1=lP k then (lP p.1,V.int v) else (lP p.1,V.int p.2))=(lP (if p.1=k then (p.1,v) else p).1,V.int (if p.1=k then (p.1,v) else p).2)
  by_cases h:p.1=k
  ·rw[cO h,cO (by rw[h])]
  ·rw[bZ h,bZ λz=>h (zU z)]
 ·rw[iK];rfl
def wsum(f:Int->Int->Int)(ps:List WP):Int:=List.sum (ps.map λp=>p.2*f p.1.1 p.1.2)
theorem aEY(f:Int->Int->Int)(p:WP)(ps:List WP):wsum f (p::ps)=p.2*f p.1.1 p.1.2+wsum f ps:=rfl
theorem aMt(f:Int->Int->Int)(ps qs:List WP):wsum f (ps++qs)=wsum f ps+wsum f qs:=by
 unfold wsum;rw[iK,DD]
theorem aOn{ps:List WP}{k:ar}{c:Int}(nd:(ps.map (·.1)).Nodup):((addW ps k ((tO ps k).getD 0+c)).map (·.1)).Nodup/\(∀p∈addW ps k ((tO ps k).getD 0+c),p.1=k\/∃q∈ps,q.1=p.1)/\∀f,wsum f (addW ps k ((tO ps k).getD 0+c))=wsum f ps+c*f k.1 k.2:=by
 unfold addW;by_cases h:ps.any (λp=>decide (p.1=k))=true
 ·rw[cO h];refine⟨?_,λp hp=>?_,λf=>?_⟩
  ·rw[kh];have e:((λp:WP=>p.1) ∘ λp:WP=>if p.1=k then (p.1,(tO ps k).getD 0+c) else p)=λp=>p.1:=by
    funext p
    show(if p.1=k then (p.1,(tO ps k).getD 0+c) else p).1=p.1;split <;> rfl
   rw[e];exact nd
  ·obtain⟨q,hq,rfl⟩:=fZ.mp hp;refine .inr ⟨q,hq,?_⟩;split <;> rfl
  ·have key:∀(qs:List WP),(qs.map (·.1)).Nodup->qs.any (λp=>decide (p.1=k))=true->∀v,(tO qs k).getD 0+c=v->wsum f (qs.map λp=>if p.1=k then (p.1,v) else p)=wsum f qs+c*f k.1 k.2:=by
    intro qs;induction qs with
    |nil=>intro _ z;cases z
    |cons p r ih=>
     intro nd h v hv;rw[uY,ug] at nd;rw[uY,aEY,aEY];by_cases hp:p.1=k
     ·have hn:∀q∈r,¬q.1=k:=λq hq z=>nd.1 (fZ.mpr ⟨q,hq,by rw[z,hp]⟩);have e1:(r.map λp=>if p.1=k then (p.1,v) else p)=r:=by
       conv=>rhs;rw[<-List.map_id r]
       exact LF λq hq=>bZ (hn q hq)
      have e2:tO (p::r) k=some p.2:=by unfold tO;simp[hp]
      rw[e2] at hv;rw[e1,cO hp,<-hv,hp];show(p.2+c)*f k.1 k.2+wsum f r=_;rw[Int.add_mul];lia
     ·have h':r.any (λp=>decide (p.1=k))=true:=by simpa [hp] using h
      have e2:tO (p::r) k=tO r k:=by unfold tO;simp[hp]
      rw[e2] at hv;rw[bZ hp,ih nd.2 h' v hv];lia
   exact key ps nd h _ rfl
 ·have hn:tO ps k=none:=by
   unfold tO;rw[Option.map_eq_none_iff,List.find?_eq_none];intro p hp z;exact h (DF.mpr ⟨p,hp,z⟩)
  rw[bZ h,hn];refine⟨?_,λp hp=>?_,λf=>?_⟩
  ·rw[iK,List.nodup_append];refine⟨nd,by simp,λa ha b hb=>?_⟩;rw[uY,vb,rC] at hb;rintro rfl;obtain⟨q,hq,e⟩:=fZ.mp ha;exact h (DF.mpr ⟨q,hq,by simpa using e.trans hb⟩)
  ·rcases oh.mp hp with z|z
   ·exact .inr ⟨p,z,rfl⟩
   ·rw[rC.mp z];exact .inl rfl
  ·rw[aMt];show _+((0+c)*f k.1 k.2+0)=_;rw[Int.zero_add,zd]
theorem Kp:∀(n:Nat) (l:List Nat),l.Nodup->(∀x∈l,x < n)->l.length<=n
 |0,l,_,h=>by
  cases l with
  |nil=>exact dQ _
  |cons x r=>exact absurd (h x (.head _)) (by lia)
 |n+1,l,nd,h=>by
  have:=Kp n (l.erase n) (nd.erase n) (λx hx=>by
   have h1:=(nd.mem_erase_iff.mp hx)
   have:=h x h1.2;have:=h1.1;lia)
  rw[List.length_erase] at this;split at this <;> lia
structure AH(ps:List WP):Prop where
 nd:(ps.map (·.1)).Nodup
 st:∀p∈ps,Bj p.1.1 p.1.2
theorem AH.len{ps:List WP}(h:AH ps):ps.length<=120:=by
 have:=Kp 120 ((ps.map (·.1)).map λk=>(k.1*60+k.2).toNat) (by
  rw[List.Nodup,Ct];refine h.nd.imp_of_mem ?_;intro a b ha hb NH z;obtain⟨p,hp,rfl⟩:=fZ.mp ha;obtain⟨q,hq,rfl⟩:=fZ.mp hb;obtain⟨a1,a2,a3⟩:=h.st p hp;obtain⟨b1,b2,b3⟩:=h.st q hq;refine NH (Prod.ext ?_ ?_)
  ·rcases a1 with a1|a1 <;> rcases b1 with b1|b1 <;> rw[a1,b1] <;> rw[a1,b1] at z <;> lia
  ·rcases a1 with a1|a1 <;> rcases b1 with b1|b1 <;> rw[a1,b1] at z <;> lia) (λx hx=>by
  obtain⟨k,hk,rfl⟩:=fZ.mp hx;obtain⟨p,hp,rfl⟩:=fZ.mp hk;obtain⟨a1,a2,a3⟩:=h.st p hp;rcases a1 with a1|a1 <;> rw[a1] <;> lia)
 simpa using this
theorem AH.add(h:AH ps){k:ar}(hk:Bj k.1 k.2)(c:Int):AH (addW ps k ((tO ps k).getD 0+c)):=by
 obtain⟨h1,h2,_⟩:=aOn (k:=k) (c:=c) h.nd;refine⟨h1,λp hp=>?_⟩;rcases h2 p hp with z|⟨q,hq,z⟩
 ·rw[z];exact hk
 ·rw[<-z];exact h.st q hq
section
variable{α:Type}
abbrev Wy(α:Type):=Int×α×Int
def cW(f:α->Int):List (Wy α)->Int
 |[]=>0
 |[w]=>w.2.2+f w.2.1
 |w::v::r=>min (w.2.2+f w.2.1) (cW f (v::r))
theorem oX(f:α->Int):∀{ws:List (Wy α)}{w:Wy α},w∈ws->cW f ws<=w.2.2+f w.2.1
 |[],_,h=>by cases h
 |[w],v,h=>by rw[rC.mp h];exact wc _
 |w::v::r,u,h=>by
  show min _ _<=_;rcases lC.mp h with rfl|h
  ·lia
  ·have:=oX f h;lia
theorem mV(f:α->Int):∀{ws:List (Wy α)},ws≠[]->∃w∈ws,w.2.2+f w.2.1=cW f ws
 |[],h=>absurd rfl h
 |[w],_=>⟨w,.head _,rfl⟩
 |w::v::r,_=>by
  obtain⟨u,hu,e⟩:=mV f (ws:=v::r) (by simp);by_cases h:w.2.2+f w.2.1<=cW f (v::r)
  ·exact⟨w,.head _,by show _=min _ _;lia⟩
  ·exact⟨u,ki _ hu,by show _=min _ _;lia⟩
theorem aEZ{f:α->Int}{m:Int}(h1:∃w∈ws,w.2.2+f w.2.1=m)(h2:∀w∈ws,m<=w.2.2+f w.2.1):m=cW f ws:=by
 obtain⟨w,hw,e⟩:=h1;have a:=oX f hw;obtain⟨u,hu,e2⟩:=mV f (ws:=ws) (λz=>by rw[z] at hw;cases hw);have b:=h2 u hu;lia
def wF(W:Nat->α->List (Wy α)):Nat->Nat->α->Int
 |0,_,_=>0
 |k+1,i,x=>cW (wF W k (i+1)) (W i x)
def Fl(f:α->Int)(ws:List (Wy α)):Option (Wy α):=ws.find? λw=>decide (w.2.2+f w.2.1=cW f ws)
theorem aHf(f:α->Int)(h:ws≠[]):∃w,Fl f ws=some w/\w∈ws/\w.2.2+f w.2.1=cW f ws:=by
 obtain⟨u,hu,e⟩:=mV f h;cases q:Fl f ws with
 |none=>
  unfold Fl at q;rw[List.find?_eq_none] at q;exact absurd (mi e) (q u hu)
 |some w=>
  unfold Fl at q;exact⟨w,rfl,He q,qw (List.find?_some (p:=λw:Wy α=>decide (w.2.2+f w.2.1=cW f ws)) q)⟩
def Ds(W:Nat->α->List (Wy α)):Nat->Nat->α->ae
 |0,_,_=>[]
 |k+1,i,x=>match Fl (wF W k (i+1)) (W i x) with
  |none=>[]
  |some w=>w.1::Ds W k (i+1) w.2.1
def Ca(W:Nat->α->List (Wy α)):Nat->α->ae->Option Int
 |_,_,[]=>some 0
 |i,x,c::r=>match (W i x).find? λw=>decide (w.1=c) with
  |none=>none
  |some w=>(Ca W (i+1) w.2.1 r).map (w.2.2 + ·)
structure Lay(W:Nat->α->List (Wy α))(n:Nat)(L:Nat->α->Prop):Prop where
 ne:∀i x,i < n->L i x->W i x≠[]
 on:∀i x w,i < n->L i x->w∈W i x->L (i+1) w.2.1
theorem XT{W:Nat->α->List (Wy α)}:∀{row:ae}{i:Nat}{x:α}{v:Int},Ca W i x row=some v->wF W row.length i x<=v
 |[],_,_,v,h=>by cases h;exact wc _
 |c::r,i,x,v,h=>by
  unfold Ca at h;cases q:(W i x).find? λw=>decide (w.1=c) with
  |none=>rw[q] at h;cases h
  |some w=>
   rw[q] at h;obtain⟨u,hu,rfl⟩:=kl.mp h;have a:=XT hu;have b:=oX (wF W r.length (i+1)) (He q);show cW (wF W r.length (i+1)) (W i x)<=w.2.2+u;lia
def Be(ws:List (Wy α)):Prop:=ws.Pairwise λa b=>a.1 < b.1
theorem Qu{ws:List (Wy α)}(h:Be ws){w:Wy α}(hw:w∈ws):(ws.find? λv=>decide (v.1=w.1))=some w:=by
 induction ws with
 |nil=>cases hw
 |cons a r ih=>
  obtain⟨h1,h2⟩:=List.pairwise_cons.mp h;rw[uf];rcases lC.mp hw with rfl|hw
  ·simp
  ·have:=h1 w hw;rw[rp (by lia)];exact ih h2 hw
theorem YT{W:Nat->α->List (Wy α)}{n:Nat}{L:Nat->α->Prop}(hl:Lay W n L)(hr:∀i x,Be (W i x)):∀(k i:Nat) (x:α),i+k<=n->L i x->Ca W i x (Ds W k i x)=some (wF W k i x)/\(Ds W k i x).length=k
 |0,_,_,_,_=>⟨rfl,rfl⟩
 |k+1,i,x,hk,hx=>by
  obtain⟨w,e1,e2,e3⟩:=aHf (wF W k (i+1)) (hl.ne i x (by lia) hx);obtain⟨h1,h2⟩:=YT hl hr k (i+1) w.2.1 (by lia) (hl.on i x w (by lia) hx e2);have e:Ds W (k+1) i x=w.1::Ds W k (i+1) w.2.1:=by
   show(match Fl (wF W k (i+1)) (W i x) with|none=>[]|some w=>w.1::Ds W k (i+1) w.2.1)=_;rw[e1]
  rw[e];refine⟨?_,by rw[oi,h2]⟩;unfold Ca;rw[Qu (hr i x) e2];show Option.map (w.2.2 + ·) (Ca W (i+1) w.2.1 (Ds W k (i+1) w.2.1))=_;rw[h1];show some (w.2.2+wF W k (i+1) w.2.1)=some (cW (wF W k (i+1)) (W i x));rw[e3]
end
inductive PK (α:Type) where
 |ik (f:α->Key) (inj:∀x y,f x=f y->x=y)
 |tk (f:α->List Key) (inj:∀x y,f x=f y->x=y)
def PK.pv{α:Type}:PK α->Hp->V->α->Prop
 |.ik f _,_,v,x=>v=kV (f x)
 |.tk f _,H,v,x=>∃b,v=.ref b/\H b=some (.tup ((f x).map kV))
def PK.da{α:Type}:PK α->Hp->Addr->List α->(α->Int)->Prop
 |.ik f _,H,d,ps,g=>H d=some (.dK (ps.map λx=>(f x,.int (g x))))
 |.tk f _,H,d,ps,g=>H d=some (.dT (ps.map λx=>(f x,.int (g x))))
section
variable{α:Type}{κ:PK α}{H H':Hp}{v:V}{x:α}{d:Addr}{ps:List α}{g g':α->Int}
theorem PK.gX(h:κ.pv H v x)(s:aO H H'):κ.pv H' v x:=by
 cases κ with
 |ik f i=>exact h
 |tk f i=>obtain⟨b,e,hb⟩:=h;exact⟨b,e,s _ _ hb⟩
theorem PK.uK(h:κ.da H d ps g)(s:aO H H'):κ.da H' d ps g:=by
 cases κ with
 |ik f i=>exact s _ _ h
 |tk f i=>exact s _ _ h
theorem rQ{κ':Type}[DecidableEq κ']{f:α->κ'}(inj:∀x y,f x=f y->x=y){g:α->Int}:∀{ps:List α},x∈ps->lH (ps.map λx=>(f x,V.int (g x))) (f x)=some (.int (g x))
 |[],h=>by cases h
 |y::r,h=>by
  rw[uY];by_cases e:f y=f x
  ·rw[hJ (show(f y,V.int (g y)).1=f x from e),inj _ _ e]
  ·rw[gA (show ¬(f y,V.int (g y)).1=f x from e)];rcases lC.mp h with rfl|h
   ·exact absurd rfl e
   ·exact rQ inj h
theorem aE0{κ':Type}[DecidableEq κ']{f:α->κ'}(inj:∀x y,f x=f y->x=y){g:α->Int}:∀{ps:List α},x∉ps->lH (ps.map λx=>(f x,V.int (g x))) (f x)=none
 |[],_=>rfl
 |y::r,h=>by
  rw[uY,gA (show ¬(f y,V.int (g y)).1=f x from λz=>h (by rw[inj _ _ z];exact .head _))];exact aE0 inj λz=>h (ki _ z)
theorem PK.get(h:κ.da H d ps g)(hv:κ.pv H v x)(hx:x∈ps):kF H d v (some (.int (g x))):=by
 cases κ with
 |ik f i=>
  have ph:v=kV (f x):=hv;subst ph;have z:=kF.k (k:=f x) (show H d=some (.dK _) from h);rw[rQ i hx] at z;exact z
 |tk f i=>
  obtain⟨b,rfl,hb⟩:=hv;have z:=kF.t (show H d=some (.dT _) from h) hb;rw[rQ i hx] at z;exact z
theorem Qg{κ':Type}[DecidableEq κ']{f:α->κ'}(inj:∀x y,f x=f y->x=y){g:α->Int}{x:α}{ps:List α}(hx:x∉ps):putK (ps.map λx=>(f x,V.int (g x))) (f x) (.int (g x))=(ps ++ [x]).map λx=>(f x,V.int (g x)):=by
 unfold putK;rw[xP,aE0 inj hx,iK];rfl
theorem PK.put(h:κ.da H d ps g)(hv:κ.pv H v x)(hx:x∉ps)(hl:ps.length < 1000000):∃H',uQ H d v (.int (g x)) H'/\κ.da H' d (ps ++ [x]) g/\bL d H H':=by
 have lt:ps.length < sizeLine:=qI hl (cB (by decide));cases κ with
 |ik f i=>
  have ph:v=kV (f x):=hv;subst ph;refine⟨_,uQ.k (k:=f x) (show H d=some (.dK _) from h) (by rw[bX];exact lt),?_,bL.upd⟩;show upd H d _ d=_;rw[aN,Qg i hx]
 |tk f i=>
  obtain⟨b,rfl,hb⟩:=hv;refine⟨_,uQ.t (show H d=some (.dT _) from h) hb (by rw[bX];exact lt),?_,bL.upd⟩;show upd H d _ d=_;rw[aN,Qg i hx]
theorem PK.new{Q:VK}(κ:PK α)(g:α->Int)(h:∀p H',H p=none->aO H H'->κ.da H' p [] g->Q (.ref p) H'):Fd σ H Q:=by
 cases κ with
 |ik f i=>exact Qx λp np=>h p _ np (aO.new np) aN
 |tk f i=>exact uI λp np=>h p _ np (aO.new np) aN
theorem PK.Yc(h:κ.da H d ps g)(e:H d=some (.lst xs)):False:=by
 cases κ with
 |ik f i=>have h':H d=some (.dK _):=h;rw[e] at h';cases h'
 |tk f i=>have h':H d=some (.dT _):=h;rw[e] at h';cases h'
def oY(κ:PK α)(H:Hp)(a:Addr)(w:Wy α):Prop:=∃v,H a=some (.tup [.int w.1,v,.int w.2.2])/\κ.pv H v w.2.1
theorem oY.same(h:oY κ H a w)(s:aO H H'):oY κ H' a w:=let ⟨v,e,p⟩:=h;⟨v,s _ _ e,κ.gX p s⟩
structure gZ(κ:PK α)(H:Hp)(l:Addr)(ws:List (Wy α)):Prop where
 ex:∃as,H l=some (.lst (as.map V.ref))/\RL (oY κ H) as ws
theorem gZ.same(h:gZ κ H l ws)(s:aO H H'):gZ κ H' l ws:=let ⟨as,e,r⟩:=h.ex;⟨as,s _ _ e,r.imp λ_ _ z=>z.same s⟩
structure GX(κ:PK α)(C:Addr->Sp->Prop)(H:Hp)(f:Addr)(W:Nat->α->List (Wy α))(L:Nat->α->Prop):Prop where
 ex:∃FK,C f FK/\∀(H':Hp) (h:Nat) (v:V) (x:α) (Q:VK),aO H H'->L h x->κ.pv H' v x->(∀l Q0,aO H' Q0->gZ κ Q0 l (W h x)->Q (.ref l) Q0)->FK [.int (h:Int),v] H' Q E0
theorem GX.same{C:Addr->Sp->Prop}{W:Nat->α->List (Wy α)}{L:Nat->α->Prop}(h:GX κ C H f W L)(s:aO H H'):GX κ C H' f W L:=
 let ⟨FK,c,p⟩:=h.ex;⟨FK,c,λH2 a v x Q s2=>p H2 a v x Q (s.trans s2)⟩
def yb(κ:PK α)(H:Hp)(vs:List V)(ps:List α):Prop:=vs.length=ps.length/\∀(i:Nat) v x,vs[i]?=some v->ps[i]?=some x->κ.pv H v x
theorem yb.same(h:yb κ H vs ps)(s:aO H H'):yb κ H' vs ps:=⟨h.1,λi v x h1 h2=>κ.gX (h.2 i v x h1 h2) s⟩
theorem yb.get{vs:List V}(h:yb κ H vs ps){i:Nat}(e:vs[i]?=some v):∃x,ps[i]?=some x/\κ.pv H v x:=by
 have li:i < ps.length:=by rw[<-h.1];exact(lU.mp e).1
 exact⟨_,eS li,h.2 i v _ e (eS li)⟩
end
theorem dG{α:Type}{l:List α}{i:Nat}{x:α}(h:l[i]?=some x):l.take (i+1)=l.take i ++ [x]:=by rw[Cu,h];rfl
theorem RL.gt{α:Type}{P:Addr->α->Prop}{as:au}{xs:List α}(h:RL P as xs){i:Nat}(hv:(as.map V.ref)[i]?=some v):∃a x,as[i]?=some a/\v=.ref a/\xs[i]?=some x/\P a x:=by
 rw[kQ] at hv;obtain⟨a,e,rfl⟩:=kl.mp hv;have li:i < xs.length:=by rw[<-h.len];exact(lU.mp e).1
 exact⟨a,xs[i],e,rfl,eS li,h.at_ i a _ e (eS li)⟩
inductive aBu  (K:W.Frag) (vs:List V) (H:Hp) (Q:VK) (E:XK):Prop
 |mk:∀(α:Type) (κ:PK α) (l d:Addr) (ws:List (Wy α)) (ps:List α) (g:α->Int),(vs=[.ref l,.ref d])->gZ κ H l ws->κ.da H d ps g->(ws≠[])->(ws.length<=10000)->((∀w∈ws,w.2.1∈ps))->(∀H',aO H H'->Q (.int (cW g ws)) H')->aBu K vs H Q E
theorem aHh(tx:Txt K mg a):bT P w K mg base eY 1 a.aCP a.aCQ aXa (aBu K):=by
 refine tx.nj.F.ok aG0 (by walk_at "l") λbj A outer s H vs Q E hr h=>?_;obtain⟨α,κ,l,d,ws,ps,g,rfl ,hw,hd,bw,hlen,uv,k⟩:=h;have hu:=gM hr;refine aZ (aF (aM (aP (rc:=Kx K) (aEJ rfl) (by rfl) tx.jI gB (aB (cR (k:=3) (idx:=[1]) (N:=aza) (dJ (sc:=aL pN) (NX:=aXa) rfl rfl rfl (by decide +kernel)) rfl (bH (K':=K) (aA 0)) (λ_ _ _ _=>(bQ (K':=K) (n:=3) rfl (aR (aJ (i:=0) (show(aza:ak).Nodup by decide +kernel)) (aR (aJ (i:=1) (show(aza:ak).Nodup by decide +kernel)) (aR (aJ (i:=2) (show(aza:ak).Nodup by decide +kernel)) bP))))) (pD (cU (by decide) (cU (by decide) (cU (by decide) lX)))) (λ_ _ _ _=>bU) (λ_ _ _ _=>(aI bC (aA 2) (iO hu (aA 3) (aA 1))))) aD)))) ?_;obtain⟨as,gl,rl⟩:=hw.ex;have si:=rl.len;refine aV (σ:=[some (.ref l),some (.ref d)]) rfl ?_;walk_at "w";refine eM (bR.of gl) ?_;refine fR (xs:=as.map V.ref) (λj us H'=>H'=H/\us=(((ws.take j).map λw=>w.2.2+g w.2.1).map V.int)) ⟨rfl,rfl⟩ (cB (by rw[bX];lia))
  (λj us H' hj ⟨e0,e1⟩=>⟨by rw[e0];exact bR.of gl,by rw[e1,bX,bX,qa];lia⟩) (λj v us H' hv Su=>?_) (λus H' Ss=>?_)
 ·obtain⟨e0,e1⟩:=Su;subst e0;obtain⟨a1,w,ea,rfl,ew,vv,g1,hp⟩:=rl.gt hv;refine cV (iC.of g1) rfl ?_;walk_at "w";refine⟨d,_,rfl,κ.get hd hp (uv w (kP ew)),?_⟩;walk_at "w";refine⟨rfl,?_⟩;rw[e1,dG ew,iK,iK];rfl
 obtain⟨e0,e1⟩:=Ss;subst e0 e1;rw[bX,si,uC];intro l2 n2;obtain⟨H2,i2,s2,g2⟩:=nw _ n2;rw[i2];walk_at "w";refine Zc (bR.of g2) (by simpa using bw) λm hm hle=>?_;have e:m=cW g ws:=aEZ (by
  obtain⟨w,hw,e⟩:=fZ.mp hm;exact⟨w,hw,e⟩) λw hw=>hle _ (fZ.mpr ⟨w,hw,rfl⟩)
 rw[e];exact k H2 s2
inductive qS  (K:W.Frag) (C:Addr->Sp->Prop) (vs:List V) (H:Hp) (Q:VK) (E:XK):Prop
 |mk:∀(α:Type) (κ:PK α) (lp d f:Addr) (h:Nat) (us:List V) (ps bs:List α) (g:α->Int) (W:Nat->α->List (Wy α)) (L:Nat->α->Prop),(vs=[.ref lp,.int (h:Int),.ref d,.ref f])->(H lp=some (.lst us))->yb κ H us ps->ps.Nodup->(ps.length<=10000)->κ.da H d bs g->GX κ C H f W L->((∀x∈ps,L h x/\W h x≠[]/\(W h x).length<=10000/\∀w∈W h x,w.2.1∈bs))->(∀q H',aO H H'->H q=none->κ.da H' q ps (λx=>cW g (W h x))->Q (.ref q) H')->qS K C vs H Q E
theorem aBJ(tx:Txt K mg a):bT P w K mg base eY 3 a.sN a.sO axa (qS K (CB P w K mg base (1+1))):=by
 have aIw:=aHh (P:=P) (w:=w) (base:=base) tx;refine tx.fz.F.ok kU (by walk_at "l") λbj A outer s H vs Q E hr h=>?_;obtain⟨α,κ,lp,d,f,h,us,ps,bs,g,W,L,rfl ,gl,sr,xn,hlen,hd,hW,Ga,k⟩:=h;have hu:=gM hr;refine aZ (aE (aK (i:=4) kU.nd eQ)
  (aE (bI PassesOwn.never rfl (bH (K':=K) (aA 0)) (aJ (i:=5) kU.nd) (aF (fG hu (aA 4) (aA 5) (bg aIw hr tx.nj (aB (aGT (P:=P) (w:=w) (K:=K) (mg:=mg) (base:=base) (i:=3) (k:=1+1) (hr.mono (by decide)) (aB (aA 1) (aB (aA 5) aD))) (aB (aA 2) aD))))))
  (aF (aM (aA 4))))) ?_
 obtain⟨FK,hC,hp⟩:=hW.ex;have FZ:=sr.1;refine aV (σ:=[some (.ref lp),some (.int (h:Int)),some (.ref d),some (.ref f),none,none]) rfl ?_;walk_at "w";refine κ.new (λx=>cW g (W h x)) λwd H1 En s1 dw=>?_;walk_at "w";refine eM (bR.of (s1 _ _ gl)) ?_;refine eT (xs:=us) (λi σ' H'=>aO H H'/\κ.da H' wd (ps.take i) (λx=>cW g (W h x))/\∃z,σ'=[some (.ref lp),some (.int (h:Int)),some (.ref d),some (.ref f),some (.ref wd),z]) ⟨s1,dw,_,rfl⟩
  (λi σ' H' hi ⟨s',_⟩=>bR.of (s' _ _ gl)) (λi v σ' H' hv Sr=>?_) (λσ' H' Sq=>?_)
 ·obtain⟨s',EN,z,e⟩:=Sr;subst e;obtain⟨x,ex,px⟩:=sr.get hv;obtain⟨o1,o2,o3,o4⟩:=Ga x (kP ex);walk_at "w";refine aL5 rfl hC ?_;walk_at "w";refine hp H' h v x _ s' o1 (κ.gX px s') λl H2 s2 sk=>?_;have UQ:=s'.trans s2;walk_at "w";refine⟨α,κ,l,d,W h x,bs,g,rfl,sk,κ.uK hd UQ,o2,o3,o4,λH3 s3=>?_⟩;have xh:=UQ.trans s3;walk_at "w";have nx:x∉ps.take i:=λz=>by
   have hi:i < ps.length:=(lU.mp ex).1;obtain⟨j,hj,ej⟩:=LB z;rw[qa] at hj;rw[List.getElem_take] at ej;have e2:ps[i]=x:=(lU.mp ex).2;have:=(List.getElem_inj xn).mp (ej.trans e2.symm);lia
  obtain⟨H4,p4,d4,k4⟩:=κ.put (κ.uK EN (s2.trans s3)) (κ.gX px xh) nx (by rw[qa];lia);refine⟨wd,H4,rfl,p4,?_⟩;walk_at "w";refine⟨λb o e=>k4 _ _ (xh _ _ e) (bB En e),?_,_,rfl⟩;rw[dG ex];exact d4
 ·obtain⟨s',EN,z,e⟩:=Sq;subst e;walk_at "w";rw[FZ,uC] at EN;exact k wd H' s' En EN
structure Fc{α:Type}(κ:PK α)(H:Hp)(a:Addr)(Ls:List (List α)):Prop where
 ex:∃as,H a=some (.lst (as.map V.ref))/\RL (λb ps=>∃us,H b=some (.lst us)/\yb κ H us ps) as Ls
theorem Fc.same{α:Type}{κ:PK α}{Ls:List (List α)}(h:Fc κ H a Ls)(s:aO H H'):Fc κ H' a Ls:=
 let ⟨as,e,r⟩:=h.ex;⟨as,s _ _ e,r.imp λ_ _ ⟨us,e,p⟩=>⟨us,s _ _ e,p.same s⟩⟩
structure XD{α:Type}(κ:PK α)(H:Hp)(a:Addr)(Ls:List (List α))(F:Nat->α->Int):Prop where
 ex:∃ds:au,H a=some (.lst (ds.map V.ref))/\ds.length=Ls.length/\∀(i:Nat) d ps,ds[i]?=some d->Ls[i]?=some ps->κ.da H d ps (F i)
structure Ko{α:Type}(W:Nat->α->List (Wy α))(Ls:List (List α)):Prop where
 pos:0 < Ls.length
 nd:∀ps∈Ls,ps.Nodup
 rL:∀ps∈Ls,ps.length<=10000
 ne:∀(i:Nat) ps x,Ls[i]?=some ps->i+1 < Ls.length->x∈ps->W i x≠[]/\(W i x).length<=10000
 on:∀(i:Nat) ps qs x w,Ls[i]?=some ps->Ls[i+1]?=some qs->x∈ps->w∈W i x->w.2.1∈qs
theorem Qh{xs:List V}(h:0 < xs.length):uP xs (-1)=xs[xs.length - 1]?:=by
 have e:pf xs.length (-1)=some (xs.length - 1):=by
  unfold pf;rw[bZ (by lia),cO (by lia)];congr 1;lia
 unfold uP;rw[e];rfl
theorem PK.YS{α:Type}{κ:PK α}{ps:List α}{g:α->Int}(h:κ.da H d ps g)(n:d≠p)(k:bL p H H'):κ.da H' d ps g:=by
 cases κ with
 |ik f i=>exact k _ _ h n
 |tk f i=>exact k _ _ h n
theorem PK.Lg{α:Type}{κ:PK α}{x:α}(h:κ.pv H v x)(gp:H p=some (.lst xs))(k:bL p H H'):κ.pv H' v x:=by
 cases κ with
 |ik f i=>exact h
 |tk f i=>
  obtain⟨b,e,hb⟩:=h;exact⟨b,e,k _ _ hb λz=>by rw[z,gp] at hb;cases hb⟩
theorem Pb{as:au}{i:Nat}(h:as[i]?=some a):(as.map V.ref)[i]?=some (.ref a):=by rw[kQ,h];rfl
inductive jK  (K:W.Frag) (C:Addr->Sp->Prop) (vs:List V) (H:Hp) (Q:VK) (E:XK):Prop
 |mk:∀(α:Type) (κ:PK α) (la f:Addr) (Ls:List (List α)) (W:Nat->α->List (Wy α)) (L:Nat->α->Prop),(vs=[.ref la,.ref f])->Fc κ H la Ls->Ko W Ls->(Ls.length<=10000)->GX κ C H f W L->((∀(i:Nat) ps x,Ls[i]?=some ps->i+1 < Ls.length->x∈ps->L i x))->(∀q H',aO H H'->H q=none->XD κ H' q Ls (λi=>wF W (Ls.length - 1 - i) i)->Q (.ref q) H')->jK K C vs H Q E
theorem zV(tx:Txt K mg a):bT P w K mg base eY 4 a.oP a.oQ bba (jK K (CB P w K mg base (1+1))):=by
 have aC9:=aBJ (P:=P) (w:=w) (base:=base) tx;refine tx.bx.F.ok dP (by walk_at "l") λbj A outer s H vs Q E hr h=>?_;obtain⟨α,κ,la,f,Ls,W,L,rfl ,Ez,bc,hlen,hW,hL,k⟩:=h;have hu:=gM hr;refine aZ (aE (aK (i:=2) dP.nd eQ)
  (aE (bI PassesOwn.never rfl (bH (K':=K) (aH (K':=K) (aA 0) (kH rO aC))) (aJ (i:=3) dP.nd) (aF (fG hu (aA 2) (aA 3) aC)))
  (aE (aK (i:=4) dP.nd (iF (aA 2)))
  (aE (bI PassesOwn.never rfl (aFq (by rfl) tx.eF (aB (aI fA (aP (rc:=uR K) dY (by rfl) tx.mR jO (aB (aA 0) aD)) aC) (aB (kH rO aC) (aB (kH rO aC) aD)))) (aJ (i:=5) dP.nd) (aE (aK (i:=2) dP.nd (bg aC9 hr tx.fz (aB (aH (K':=K) (aA 0) (aA 5)) (aB (aA 5) (aB (aA 2) (aB (aA 1) aD))))))
  (aF (dE (eC (K':=K) (aA 4) (aB (aA 2) aD))))))
  (aF (aM (aDH rfl (by rfl) tx.jX (by rfl) tx.w5 (aB (aA 4) aD)))))))) ?_
 obtain⟨as,ga,ra⟩:=Ez.ex;have si:=ra.len;have pos:=bc.pos;obtain⟨n,hn⟩ : ∃n,Ls.length=n+1:=⟨Ls.length - 1,by lia⟩
 have el:as[n]?=some as[n]:=eS (by lia);have ll:Ls[n]?=some Ls[n]:=eS (by lia);obtain⟨us,gu,pu⟩:=ra.at_ n _ _ el ll;generalize as[n]=an at el gu;generalize Ls[n]=pn at ll pu;have lpn:=bc.rL pn (kP ll);have ndn:=bc.nd pn (kP ll);have FZ:=pu.1;have ai:uP (as.map V.ref) (-1)=some (.ref an):=by
  rw[Qh (by rw[bX];lia),bX,si,hn,Nat.add_sub_cancel];exact Pb el
 refine aV (σ:=[some (.ref la),some (.ref f),none,none,none,none]) rfl ?_;walk_at "w";refine κ.new (λ_=>0) λbd H1 nbd s1 db=>?_;have ga1:=s1 _ _ ga;walk_at "w";refine eM (bR.of (s1 _ _ gu)) ?_;refine eT (xs:=us) (λi σ' H'=>aO H H'/\κ.da H' bd (pn.take i) (λ_=>0)/\∃z,σ'=[some (.ref la),some (.ref f),some (.ref bd),z,none,none]) ⟨s1,db,_,rfl⟩
  (λi σ' H' hi ⟨s',_⟩=>bR.of (s' _ _ gu)) (λi v σ' H' hv So=>?_) (λσ' H2 Sn=>?_)
 ·obtain⟨s',EN,z,e⟩:=So;subst e;obtain⟨x,ex,px⟩:=pu.get hv;walk_at "w";have nx:x∉pn.take i:=λz=>by
   obtain⟨j,hj,ej⟩:=LB z;rw[qa] at hj;rw[List.getElem_take] at ej;have e2:pn[i]'((lU.mp ex).1)=x:=(lU.mp ex).2;have:=(List.getElem_inj ndn).mp (ej.trans e2.symm);lia
  obtain⟨H4,p4,d4,k4⟩:=κ.put EN (κ.gX px s') nx (by rw[qa];lia);refine⟨bd,H4,rfl,p4,?_⟩;walk_at "w";refine⟨λb o e=>k4 _ _ (s' _ _ e) (bB nbd e),?_,_,rfl⟩;rw[dG ex];exact d4
 ·obtain⟨s2,d2,z,e⟩:=Sn;subst e;rw[FZ,uC] at d2;have ga2:=s2 _ _ ga;walk_at "w";intro lw Jh;obtain⟨H3,i3,s3,g3⟩:=nw _ Jh;rw[i3];have xh:=s2.trans s3;have V9:=xh _ _ ga;have xk:H lw=none:=s2.free Jh;walk_at "w";refine⟨_,_,rfl,by rw[bX,si];lia,?_⟩;rw[show(((as.map V.ref).length:Int) - 2 - -1).toNat=n by rw[bX,si,hn];lia];refine aOc (n:=n) (λi σ' H'=>aO H H'/\(∃ds:au,H' lw=some (.lst (ds.map V.ref))/\ds.length=i+1/\(∃d,ds[i]?=some d/\σ'[2]?=some (some (.ref d)))/\∀(j:Nat) d ps,ds[j]?=some d->Ls[n - j]?=some ps->κ.da H' d ps (wF W j (n - j)))/\∃b z5,σ'=[some (.ref la),some (.ref f),some (.ref b),z,some (.ref lw),z5])
   ⟨xh,⟨[bd],g3,rfl,⟨bd,rfl,rfl⟩,λj d ps h1 h2=>?_⟩,_,_,rfl⟩ (λi σ' H' hi Sm=>?_) (λσ' H' Sl=>?_)
  ·match j,h1 with
   |0,h1=>
    cases h1;rw[Nat.sub_zero,ll] at h2;cases h2;exact κ.uK d2 s3
   |j+1,h1=>simp at h1
  ·obtain⟨s',⟨ds,gd,ld,⟨d,ed,e2⟩,hd⟩,b,z5,e⟩:=Sm;subst e;have Ba:some (some (V.ref b))=some (some (.ref d)):=e2;cases Ba;have hh:(((as.map V.ref).length:Int) - 2 - (i:Int))=((n - 1 - i:Nat):Int):=by rw[bX,si,hn];lia
   rw[hh];have ea:as[n - 1 - i]?=some as[n - 1 - i]:=eS (by lia);have eL:Ls[n - 1 - i]?=some Ls[n - 1 - i]:=eS (by lia);have N6:Ls[n - i]?=some Ls[n - i]:=eS (by lia);obtain⟨Ei,V0,UW⟩:=ra.at_ _ _ _ ea eL;generalize as[n - 1 - i]=ax at ea V0;generalize Ls[n - 1 - i]=px at eL UW;have Xl:=hd i d _ ed N6;generalize Ls[n - i]=qx at N6 Xl;have Wa:=s' _ _ ga;have ix:uP (as.map V.ref) ((n - 1 - i:Nat):Int)=some (.ref ax):=iD (Pb ea);walk_at "w";have e1:n - 1 - i+1=n - i:=by lia
   refine⟨α,κ,ax,d,f,n - 1 - i,Ei,px,qx,wF W i (n - i),W,L,rfl,s' _ _ V0,UW.same s',bc.nd px (kP eL),bc.rL px (kP eL),Xl,hW.same s',λx hx=>?_,λq H4 s4 nq dq=>?_⟩
   ·obtain⟨n1,n2⟩:=bc.ne _ px x eL (by lia) hx;exact⟨hL _ px x eL (by lia) hx,n1,n2,λw hw=>bc.on _ px qx x w eL (by rw[e1];exact N6) hx hw⟩
   have A8:=s4 _ _ gd;walk_at "w";refine iV (bR.of A8) ?_;walk_at "w";refine mC (xs:=ds.map V.ref) A8 (qI (by rw[bX];lia:(ds.map V.ref).length < 20000) (cB (by decide))) ?_;obtain⟨H5,i5,k5,g5⟩:=wr H4 lw _;rw[i5];walk_at "w";refine⟨λb o e=>k5 _ _ (s4 _ _ (s' _ _ e)) (bB xk e),⟨ds ++ [q],by rw[g5,iK];rfl,by rw[lB,ld];rfl,⟨q,by rw[vg (by lia),ld,Dz];rfl,rfl⟩,λj d ps h1 h2=>?_⟩,_,_,rfl⟩;by_cases hj:j < i+1
   ·rw[uh (by lia)] at h1;have z:=κ.uK (hd j d ps h1 h2) s4;exact κ.YS z (λy=>κ.Yc z (by rw[y];exact A8)) k5
   ·have pj:j < (ds ++ [q]).length:=(lU.mp h1).1;rw[lB,DM] at pj;obtain rfl:j=i+1:=by lia
    rw[vg (by lia),ld,Dz] at h1;cases h1;rw[show n - (i+1)=n - 1 - i by lia,eL] at h2;cases h2;have z:=κ.YS dq (λy=>κ.Yc dq (by rw[y];exact A8)) k5;have ee:(λx=>cW (wF W i (n - i)) (W (n - 1 - i) x))=wF W (i+1) (n - (i+1)):=by
     rw[show n - (i+1)=n - 1 - i by lia];funext x
     show _=cW (wF W i (n - 1 - i+1)) (W (n - 1 - i) x);rw[e1]
    rw[<-ee];exact z
  ·obtain⟨s',⟨ds,gd,ld,⟨d,ed,e2⟩,hd⟩,b,z5,e⟩:=Sl;subst e;walk_at "w";refine⟨lw,_,rfl,gd,λq nq=>?_⟩;obtain⟨H5,i5,s5,g5⟩:=nw _ nq;rw[i5];walk_at "w";refine k q H5 (s'.trans s5) (s'.free nq) ⟨⟨ds.reverse,by rw[g5,List.map_reverse],by rw[LC,ld,hn],λi d ps h1 h2=>?_⟩⟩;have hi:i < ds.length:=by rw[<-LC];exact(lU.mp h1).1
   rw[List.getElem?_reverse hi] at h1;have z:=hd _ d ps h1 (by rw[show n - (ds.length - 1 - i)=i by lia];exact h2);rw[show n - (ds.length - 1 - i)=i by lia,show ds.length - 1 - i=Ls.length - 1 - i by lia] at z;exact κ.uK z s5
def On(m:MS)(s s':ar):Prop:=∃on,mq on/\(s.1=on\/s.2=0)/\s'=lE m s.1 s.2 on
def Rc(m:MS)(a:ar):Nat->ar->Prop
 |0,s=>s=a
 |n+1,s=>∃q,Rc m a n q/\On m q s
def AV(a b:ar):Prop:=a.1 < b.1\/(a.1=b.1/\a.2 < b.2)
def we(m:MS)(s:ar):Prop:=(s.1=1/\0<=s.2/\s.2 < m.up)\/(s.1=0/\0<=s.2/\s.2 < 60)
theorem we.UE{m:MS}(g:m.Good){s:ar}(h:we m s):Bj s.1 s.2:=by
 obtain⟨u0,u1⟩:=g.up;rcases h with ⟨a,b,c⟩|⟨a,b,c⟩
 ·exact⟨.inr a,b,by lia⟩
 ·exact⟨.inl a,b,c⟩
theorem Rc.st{m:MS}(g:m.Good){a:ar}(h:we m a):∀{n:Nat}{s:ar},Rc m a n s->Bj s.1 s.2/\(s.2 < 12\/(s.1=0/\s.2=a.2 - n))
 |0,s,hs=>by
  have vo:s=a:=hs;subst vo;obtain⟨u0,u1⟩:=g.up;refine⟨h.UE g,?_⟩;rcases h with ⟨x,y,z⟩|⟨x,y,z⟩
  ·exact .inl (by lia)
  ·exact .inr ⟨x,by lia⟩
 |n+1,s,hs=>by
  obtain⟨q,hq,on,yw,may,rfl⟩:=hs;obtain⟨i1,i2⟩:=Rc.st g h hq;obtain⟨u0,u1⟩:=g.up;obtain⟨d0,d1⟩:=g.down;refine⟨i1.lE g yw,?_⟩;unfold My.lE;by_cases e:q.1=on
  ·rw[cO e];rcases i2 with i2|⟨i2,i3⟩
   ·exact .inl (by show max (q.2 - 1) 0 < 12;lia)
   ·by_cases z:q.2 - 1 < 12
    ·exact .inl (by show max (q.2 - 1) 0 < 12;lia)
    ·refine .inr ⟨by show on=0;lia,?_⟩;show max (q.2 - 1) 0=a.2 - ((n+1:Nat):Int)
     lia
  ·rw[bZ e];split
   ·exact .inl (by show m.up - 1 < 12;lia)
   ·exact .inl (by show m.down - 1 < 12;lia)
theorem aQC{x1 x2 y1 y2:Int}(a1:x1=0\/x1=1)(b1:y1=0\/y1=1)(a2:0<=x2)(b2:0<=y2)(c1:x2 < 12)(c2:y2 < 12)(z:(x1*12+x2).toNat=(y1*12+y2).toNat):x1=y1/\x2=y2:=by
 rcases a1 with rfl|rfl <;> rcases b1 with rfl|rfl <;> lia
theorem Pa{x1 x2:Int}(a1:x1=0\/x1=1)(a2:0<=x2)(c1:x2 < 12):(x1*12+x2).toNat < 24:=by
 rcases a1 with rfl|rfl <;> lia
theorem aQD{x1 x2 y1 y2 d:Int}(c1:¬x2 < 12)(c2:¬y2 < 12)(a:x2 < 12\/(x1=0/\x2=d))(b:y2 < 12\/(y1=0/\y2=d)):x1=y1/\x2=y2:=by lia
theorem Rc.rL{m:MS}(g:m.Good){a:ar}(h:we m a){n:Nat}{ks:aw}(nd:ks.Nodup)(hr:∀k∈ks,Rc m a n k):ks.length<=25:=by
 have:=Kp 25 (ks.map λk=>if k.2 < 12 then (k.1*12+k.2).toNat else 24) (by
  rw[List.Nodup,Ct];refine nd.imp_of_mem ?_;intro x y hx hy Vo z;obtain⟨⟨a1,a2,a3⟩,a4⟩:=Rc.st g h (hr x hx);obtain⟨⟨b1,b2,b3⟩,b4⟩:=Rc.st g h (hr y hy);refine Vo ?_;by_cases c1:x.2 < 12 <;> by_cases c2:y.2 < 12
  ·rw[cO c1,cO c2] at z;obtain⟨u,v⟩:=aQC a1 b1 a2 b2 c1 c2 z;exact Prod.ext u v
  ·rw[cO c1,bZ c2] at z;exact absurd z (oH (Pa a1 a2 c1))
  ·rw[bZ c1,cO c2] at z;exact absurd z.symm (oH (Pa b1 b2 c2))
  ·obtain⟨u,v⟩:=aQD c1 c2 a4 b4;exact Prod.ext u v) (λx hx=>by
  obtain⟨k,hk,rfl⟩:=fZ.mp hx;obtain⟨⟨a1,a2,a3⟩,a4⟩:=Rc.st g h (hr k hk);split
  ·rename_i c;exact Cv (Pa a1 a2 c)
  ·decide)
 simpa using this
structure Gz(m:MS)(a:ar)(Ls:List (aw)):Prop where
 at_:∀(i:Nat) ps,Ls[i]?=some ps->ps.Pairwise AV/\∀s,s∈ps↔Rc m a i s
theorem O9{ps:aw}(h:ps.Pairwise AV):ps.Nodup:=h.imp λ{a b} NH z=>by
 subst z;rcases NH with y|⟨_,y⟩ <;> lia
theorem Zr:∀{ps qs:aw},ps.Pairwise AV->qs.Pairwise AV->(∀s,s∈ps↔s∈qs)->ps=qs
 |[],[],_,_,_=>rfl
 |[],q::qs,_,_,h=>by have:=(h q).mpr (.head _);cases this
 |p::ps,[],_,_,h=>by have:=(h p).mp (.head _);cases this
 |p::ps,q::qs,h1,h2,h=>by
  obtain⟨a1,a2⟩:=List.pairwise_cons.mp h1;obtain⟨b1,b2⟩:=List.pairwise_cons.mp h2;have e:p=q:=by
   rcases lC.mp ((h p).mp (.head _)) with z|z
   ·exact z
   ·rcases lC.mp ((h q).mpr (.head _)) with y|y
    ·exact y.symm
    ·have x1:=b1 p z;have x2:=a1 q y;unfold AV at x1 x2;lia
  subst e;congr 1;refine Zr a2 b2 λs=>⟨λhs=>?_,λhs=>?_⟩
  ·rcases lC.mp ((h s).mp (ki _ hs)) with z|z
   ·subst z;have:=a1 s hs;unfold AV at this;lia
   ·exact z
  ·rcases lC.mp ((h s).mpr (ki _ hs)) with z|z
   ·subst z;have:=b1 s hs;unfold AV at this;lia
   ·exact z
def AB(m:MS)(p:Int):Int:=p*m.least+gn p m.pieces
def zW(m:MS)(s:ar)(on:Int):Int:=ET m s.1 [on]
def hw(m:MS)(p:Int)(s:ar)(on:Int):Int:=zW m s on - on*AB m p
def uV(s:ar)(on:Int):Bool:=decide (s.1=on) || decide (s.2=0)
def yh(m:MS)(p:Int)(s:ar):List (Wy (ar)):=(([0,1]:ae).filter (uV s)).map λon=>(on,lE m s.1 s.2 on,hw m p s on)
def Wr(m:MS)(ps:ae)(i:Nat)(s:ar):List (Wy (ar)):=yh m (ps.getD i 0) s
theorem hZ{s:ar}{on:Int}:uV s on=true↔s.1=on\/s.2=0:=by unfold uV;simp
theorem uL{p:Int}{s:ar}{w:Wy (ar)}:w∈yh m p s↔∃on,mq on/\(s.1=on\/s.2=0)/\w=(on,lE m s.1 s.2 on,hw m p s on):=by
 unfold yh;rw[fZ];constructor
 ·rintro ⟨on,h,rfl⟩;obtain⟨h1,h2⟩:=zg.mp h;exact⟨on,by simpa [mq] using h1,hZ.mp h2,rfl⟩
 ·rintro ⟨on,b,h,rfl⟩;exact⟨on,zg.mpr ⟨by simpa [mq] using b,hZ.mpr h⟩,rfl⟩
theorem Yb{p:Int}{s:ar}(b:mq s.1):yh m p s≠[]:=λz=>by
 have:_∈yh m p s:=uL.mpr ⟨s.1,b,.inl rfl,rfl⟩;rw[z] at this;cases this
theorem aOo(m:MS)(p:Int)(s:ar):(yh m p s).length<=2:=by
 unfold yh;rw[bX];exact List.length_filter_le ..
theorem P9(m:MS)(p:Int)(s:ar):Be (yh m p s):=by
 unfold Be yh;rw[Ct];exact List.Pairwise.filter _ (by simp)
theorem aOp{m:MS}(g:m.Good){a:ar}(h:we m a)(qs:ae){Ls:List (aw)}(pos:0 < Ls.length)(hl:Gz m a Ls):Ko (Wr m qs) Ls where
 pos:=pos
 nd:=λps hp=>by
  obtain⟨i,hi⟩:=ve hp;exact O9 (hl.at_ i ps hi).1
 rL:=λps hp=>by
  obtain⟨i,hi⟩:=ve hp;obtain⟨h1,h2⟩:=hl.at_ i ps hi;exact kr (Rc.rL g h (O9 h1) λk hk=>(h2 k).mp hk) (by decide)
 ne:=λi ps x hi _ hx=>by
  have:=((Rc.st g h (((hl.at_ i ps hi).2 x).mp hx)).1).1;exact⟨Yb this,kr (aOo ..) (by decide)⟩
 on:=λi ps rs x w hi hj hx hw=>by
  obtain⟨on,b,may,rfl⟩:=uL.mp hw;exact((hl.at_ (i+1) rs hj).2 _).mpr ⟨x,((hl.at_ i ps hi).2 x).mp hx,on,b,may,rfl⟩
theorem aOq{m:MS}(g:m.Good){a:ar}(h:we m a)(qs:ae)(n:Nat):Lay (Wr m qs) n (Rc m a) where
 ne:=λi x _ hx=>Yb ((Rc.st g h hx).1).1
 on:=λi x w _ hx hw=>by
  obtain⟨on,b,may,rfl⟩:=uL.mp hw;exact⟨x,hx,on,b,may,rfl⟩
def Ek(m:MS)(qs:ae)(a:ar):Int:=wF (Wr m qs) qs.length 0 a
def κS:PK (ar):=.tk lP λ_ _ h=>zU h
theorem cT.aSc(h:cT C H q m)(e:H w=some (.dT kvs)):cT C (del w H) q m:=by
 obtain⟨dx,pl,h1,h2⟩:=h.ex;obtain⟨qs,h3,h4⟩:=h2.ex;refine⟨dx,pl,dR h1 (λz=>by rw[z,e] at h1;cases h1),qs,dR h3 (λz=>by rw[z,e] at h3;cases h3),h4.len,λj a t h5 h6=>?_⟩;have h7:=h4.at_ j a t h5 h6;exact dR h7 (λz=>by rw[z,e] at h7;cases h7)
theorem aOr(x:Option Int):(x.map V.int).getD (.int 0)=.int (x.getD 0):=by cases x <;> rfl
theorem Ya{ps:List WP}{i:Nat}(h:(enc ps)[i]?=some kv):∃p,ps[i]?=some p/\kv=(lP p.1,V.int p.2):=by
 unfold enc at h;rw[kQ] at h;obtain⟨p,hp,e⟩:=kl.mp h;exact⟨p,hp,e.symm⟩
theorem Lf(ps:List WP):(enc ps).length=ps.length:=by unfold enc;rw[bX]
theorem aKt{ps:List WP}{k s:ar}{v:Int}:s∈(addW ps k v).map (·.1)↔s∈ps.map (·.1)\/s=k:=by
 unfold addW;by_cases h:ps.any (λp=>decide (p.1=k))=true
 ·rw[cO h,kh];have e:((λp:WP=>p.1) ∘ λp:WP=>if p.1=k then (p.1,v) else p)=λp=>p.1:=by
   funext p
   show(if p.1=k then (p.1,v) else p).1=p.1;split <;> rfl
  rw[e];refine⟨.inl,λz=>?_⟩;rcases z with z|z
  ·exact z
  ·obtain⟨p,hp,e⟩:=DF.mp h;rw[z];exact fZ.mpr ⟨p,hp,qw e⟩
 ·rw[bZ h,iK,oh];simp
inductive tQ  (K:W.Frag) (C:Addr) (vs:List V) (H:Hp) (Q:VK) (E:XK):Prop
 |mk:∀(q:Addr) (m:MS) (w:Addr) (ps:List WP),(vs=[.ref q,.ref w])->cT C H q m->m.Good->(H w=some (.dT (enc ps)))->AH ps->(∀w' ke H',aO (del w H) H'->H w'=none->H' w'=some (.dT (enc ke))->AH ke->(∀s,s∈ke.map (·.1)↔∃q∈ps.map (·.1),On m q s)->Q (.ref w') H')->tQ K C vs H Q E
theorem aDb(tx:Txt K mg a):bT P w K mg base eY 3 a.vF a.vG bea (tQ K a.bA):=by
 have mU:=uJ (P:=P) (w:=w) (base:=base) tx;have hX:=mT (P:=P) (w:=w) (base:=base) tx;refine tx.iw.F.ok eW (by walk_at "l") λbj A outer s H vs Q E hr h=>?_;obtain⟨q,m,w,ps,rfl ,hm,hg,gw,hW,k⟩:=h;have hu:=gM hr;refine aZ (aE (aK (i:=2) eW.nd eQ)
  (aE (bI PassesOwn.never rfl (aGQ (aA 1)) (bQ (K':=K) (n:=2) rfl (aR (aJ (i:=3) eW.nd) (aR (aJ (i:=4) eW.nd) bP))) (aF (bI PassesOwn.never rfl (aCn (K':=K) (gR aC aC)) (aJ (i:=5) eW.nd) (aF (bD (eA (bg mU hr tx.ft (aB (aA 0) (aB (aA 3) (aB (aA 5) aD))))) (aE (aK (i:=6) eW.nd (bg hX hr tx.ck (aB (aA 0) (aB (aA 3) (aB (aA 5) aD)))))
  (aF (fG hu (aA 2) (aA 6) (aI bC (kL hu (aA 2) (aA 6) aC) (aA 4))))) aY)))))
  (aF (aM (aA 2))))) ?_
 have hmD:=hm.aSc gw;refine aV (σ:=[some (.ref q),some (.ref w),none,none,none,none,none]) rfl ?_;walk_at "w";refine uI ?_;intro l nl;obtain⟨H1,i1,s1,g1⟩:=nw _ nl;rw[i1];have gw1:=s1 _ _ gw;have lw:l≠w:=λz=>by rw[z,gw] at nl;cases nl
 have nlD:del w H l=none:=by rw[w9 lw];exact nl
 walk_at "w";refine aRE gw1 λob=>?_;obtain⟨H2,i2,k2,g2⟩:=wr H1 w _;rw[i2];have g12:=k2 _ _ g1 lw;have S2:aO (del w H) H2:=λb o e=>k2 _ _ (s1 _ _ (jJ _ _ e)) (λz=>by rw[z,E6] at e;cases e);refine rW (kvs:=enc ps) (λi σ' H'=>∃(ke:List WP) (z3 z4 z5 z6:Option V),σ'=[some (.ref q),some (.ref w),some (.ref l),z3,z4,z5,z6]/\H' l=some (.dT (enc ke))/\AH ke/\(∀s,s∈ke.map (·.1)↔∃q∈(ps.take i).map (·.1),On m q s)/\aO (del w H) H'/\H' w=some (.bu ob (.dT (enc ps))))
  ⟨[],_,_,_,_,rfl,g12,⟨List.nodup_nil,λp hp=>by cases hp⟩,λs=>⟨(λh=>by cases h),(λ⟨q,h,_⟩=>by simp at h)⟩,S2,g2⟩ (λi σ' H' hi ⟨_,_,_,_,_,_,_,_,_,_,h⟩=>h) (λi kv σ' H' T b hk Sk nT gb=>?_) (λσ' H' Sj=>?_)
 ·obtain⟨ke,z3,z4,z5,z6,e,gl,NK,hs,S',VZ⟩:=Sk;subst e;obtain⟨p,ep,rfl⟩:=Ya hk;have eg:=hW.st p (kP ep);have Dk:H' b=some (.tup [.int p.1.1,.int p.1.2]):=gb;obtain⟨H3,i3,s3,gT⟩:=nw _ nT;rw[i3];refine cV (iC.of gT) rfl ?_;walk_at "w";intro Tu MB;obtain⟨H4,i4,s4,Dl⟩:=nw _ MB;rw[i4];have Dh:=(s3.trans s4) _ _ gl;have xq:=(s3.trans s4) _ _ Dk;have NR:=(s3.trans s4) _ _ VZ;have S4:=S'.trans (s3.trans s4);have Tul:Tu≠l:=λz=>by rw[z,Dh] at Dl;cases Dl
  have bl:b≠l:=λz=>by rw[z,Dh] at xq;cases xq
  walk_at "w";refine X0 (iC.of Dl) ?_;refine aQk (xs:=([0,1]:ae).map V.int) (λj σ' H'=>∃(ke:List WP) (z5 z6:Option V),σ'=[some (.ref q),some (.ref w),some (.ref l),some (.ref b),some (.int p.2),z5,z6]/\H' l=some (.dT (enc ke))/\AH ke/\(∀s,s∈ke.map (·.1)↔(∃q∈(ps.take i).map (·.1),On m q s)\/∃on∈([0,1]:ae).take j,(p.1.1=on\/p.1.2=0)/\s=lE m p.1.1 p.1.2 on)/\aO (del w H) H'/\bL l H4 H')
   ⟨ke,_,_,rfl,Dh,NK,λs=>by rw[hs s];simp,S4,λ_ _ e _=>e⟩ (λj σ' H' hj ⟨_,_,_,_,_,_,_,_,h⟩=>iC.of (h _ _ Dl Tul)) (λj v σ' H5 hv Si=>?_) (λσ' H5 Sh=>?_)
  ·obtain⟨ke,z5,z6,e,su,EE,Jy,S5,k5⟩:=Si;subst e;obtain⟨on,vz,rfl⟩:=iJ hv;have yw:mq on:=by
    have:=kP vz;simp at this;exact this
   have Gp:=k5 _ _ xq bl;have tk:([0,1]:ae).take (j+1)=([0,1]:ae).take j ++ [on]:=by rw[Cu,vz];rfl
   walk_at "w";refine⟨_,b,_,_,on,rfl,Gp,?_⟩;by_cases dk:p.1.1=on\/p.1.2=0
   ·rw[show(decide (p.1.1=on) || decide (p.1.2=0))=true by simpa using dk];walk_at "w";refine⟨q,m,b,_,_,on,rfl,hmD.same S5,Gp,dk,λT2 H6 s6 Jl NW=>?_⟩;have yr:=s6 _ _ su;have gk:H6 T2=some (.tup ((lP (lE m p.1.1 p.1.2 on)).map kV)):=NW;have hle:=EE.len;walk_at "w";refine⟨l,rfl,.inr ⟨_,.inl yr⟩,?_⟩;walk_at "w";refine⟨_,kF.t yr gk,?_⟩;rw[PX,aOr];walk_at "w";refine⟨l,_,rfl,uQ.t yr gk (qI (by rw[Lf];lia:(enc ke).length < 1000) (cB (by decide))),?_⟩;rw[YU];obtain⟨H7,i7,k7,g7⟩:=wr H6 l _;rw[i7];walk_at "w";refine⟨_,_,_,rfl,g7,EE.add (eg.lE hg yw) p.2,λs=>?_,λb o e=>k7 _ _ ((S5.trans s6) _ _ e) (bB nlD e),k5.trans (s6.keep.trans k7)⟩;rw[aKt,Jy s,tk];constructor
    ·rintro ((h|⟨xj,h1,h2⟩)|h)
     ·exact .inl h
     ·exact .inr ⟨xj,Bo _ h1,h2⟩
     ·exact .inr ⟨on,se _ (.head _),dk,h⟩
    ·rintro (h|⟨xj,h1,h2,h3⟩)
     ·exact .inl (.inl h)
     ·rcases oh.mp h1 with z|z
      ·exact .inl (.inr ⟨xj,z,h2,h3⟩)
      ·rw[rC.mp z] at h3;exact .inr h3
   ·rw[show(decide (p.1.1=on) || decide (p.1.2=0))=false by simpa using dk];walk_at "w";refine⟨ke,_,_,rfl,su,EE,λs=>?_,S5,k5⟩;rw[Jy s,tk];constructor
    ·rintro (h|⟨xj,h1,h2⟩)
     ·exact .inl h
     ·exact .inr ⟨xj,Bo _ h1,h2⟩
    ·rintro (h|⟨xj,h1,h2,h3⟩)
     ·exact .inl h
     ·rcases oh.mp h1 with z|z
      ·exact .inr ⟨xj,z,h2,h3⟩
      ·rw[rC.mp z] at h2;exact absurd h2 dk
  ·obtain⟨ke,z5,z6,e,su,EE,Jy,S5,k5⟩:=Sh;subst e;refine⟨ke,_,_,_,_,rfl,su,EE,λs=>?_,S5,k5 _ _ NR (Ne.symm lw)⟩;rw[Jy s,take_snoc ep,iK];constructor
   ·rintro (⟨q,h1,h2⟩|⟨xj,h1,h2,h3⟩)
    ·exact⟨q,Bo _ h1,h2⟩
    ·exact⟨p.1,se _ (.head _),xj,by simpa [mq] using h1,h2,h3⟩
   ·rintro ⟨q,h1,xj,b1,h2,h3⟩;rcases oh.mp h1 with z|z
    ·exact .inl ⟨q,z,xj,b1,h2,h3⟩
    ·rw[show q=p.1 by simpa using z] at h2 h3;exact .inr ⟨xj,by rcases b1 with rfl|rfl <;> simp,h2,h3⟩
 ·obtain⟨ke,z3,z4,z5,z6,e,gl,NK,hs,S',VZ⟩:=Sj;subst e;walk_at "w";refine k l ke H' S' nl gl NK λs=>?_;rw[hs s,Lf,uC]
inductive qT  (K:W.Frag) (C:Addr) (vs:List V) (H:Hp) (Q:VK) (E:XK):Prop
 |mk:∀(p:Addr) (ms:List MS),(vs=[.ref p])->nM C H p ms->(ms.length<=6)->(∀H',aO H H'->Q (.bl true) H')->qT K C vs H Q E
theorem aBK(tx:Txt K mg a):bT P w K mg base eY 1 a.sP a.sQ fv (qT K a.bA):=by
 refine tx.gy.F.ok aBD (by walk_at "l") λbj A outer s H vs Q E hr h=>?_;obtain⟨p,ms,rfl ,hp,hl,k⟩:=h;have hu:=gM hr;refine aZ (aE (bD (eN (mD (eV (eA (aP (rc:=zb K) gO (by rfl) tx.cY dF (aB (aA 0) (aB (iL (v:=.ty "list") (by rfl) tx.jX iS rfl) aD))))) (lR (aU rP (aP (rc:=uR K) dY (by rfl) tx.mR jO (aB (aA 0) aD)) (pF (n:=6) (by rfl) tx.kZ) (bJ _))))) (aF (aM iW)) aY)
  (aF (aM (aP (rc:=GB K) (Ql rfl) (by rfl) tx.GQ Pu (aB (cR (k:=1) (idx:=[]) (N:=bia) (dJ (sc:=aL i8) (NX:=fv) rfl rfl rfl (by decide +kernel)) rfl (bH (K':=K) (aA 0)) (λ_ _ _ _=>(aJ (i:=0) (show(bia:ak).Nodup by decide +kernel))) (dI (by decide)) (λ_ _ _ _=>bU) (λ_ _ _ _=>(aP (rc:=zb K) gO (by rfl) tx.cY dF (aB (aA 0) (aB (aCl (v:=.ref a.bA) (by rfl) tx.aES rfl) aD))))) aD))))) ?_
 obtain⟨qs,h1,h2⟩:=hp.ex;have Vw:qs.length<=6:=by rw[h2.len];exact hl
 refine aV (σ:=[some (.ref p)]) rfl ?_;walk_at "w";refine pE (ZW (.lst h1)) ?_;walk_at "w";refine iE (λh=>by simp at h) (λ_=>?_);walk_at "w";refine cA (λh=>by rw[bX] at h;lia) (λ_=>?_);walk_at "w";refine eM (bR.of h1) ?_;refine Qm (λ_=>.bl true) (bR.of h1) (cB (by rw[bX];lia)) (λx N N' F5 hN=>?_) ?_
 ·obtain⟨i,hi⟩:=ve F5;obtain⟨q,m,_,rfl,_,hm⟩:=h2.get hi;obtain⟨dx,pl,hx,_⟩:=hm.ex;walk_at "w";refine pE (Y0 tx.xg tx.cE hx) ?_;exact hN
 ·intro l1 n1;walk_at "w";refine PM (bR.of aN) (λx hx=>by obtain⟨_,_,rfl⟩:=fZ.mp hx;rfl) ?_;exact k _ (aO.new n1)
inductive vW  (K:W.Frag) (CW CM CS:Addr) (vs:List V) (H:Hp) (Q:VK) (E:XK):Prop
 |mk:∀(x dx lm:Addr) (st:V) (W:WS),(vs=[.ref x,.ref lm,st,.int W.bh])->(H x=some (.ins CW dx []))->nM CM H lm W.specs->EU CS H st W.store->(W.specs.length<=6)->Am W.bh->(∀H',kB CW CM CS H' x W->bL x H H'->Q .bt H')->vW K CW CM CS vs H Q E
theorem aD0(tx:Txt K mg a):bT P w K mg base eY 3 a.qA a.yM aDa (vW K a.dU a.bA a.cN):=by
 have aDc:=aBK (P:=P) (w:=w) (base:=base) tx;have dA:=lO (P:=P) (w:=w) (base:=base) tx;refine tx.jz.F.ok j7 (by walk_at "l") λbj A outer s H vs Q E hr h=>?_;obtain⟨x,dx,lm,st,W,rfl ,hx,hm,hs,hl,ha,k⟩:=h;have hu:=gM hr;refine aZ (aE (aK (i:=4) j7.nd (Qe (fB wQ (aA 2) c8 (bJ _)) (gQ (aP (rc:=zb K) gO (by rfl) tx.cY dF (aB (aA 2) (aB (aCl (v:=.ref a.cN) (by rfl) tx.YY rfl) aD))))))
  (aE (bI PassesOwn.never rfl (kK (K':=K) (by rfl) tx.gL (aB (uH (bg aDc hr tx.gy (aB (aA 1) aD)) (aA 4) (bg dA hr tx.bo (aB (aA 3) aD))) aD)) (bQ (K':=K) (n:=2) rfl (aR (aJ (i:=5) j7.nd) (aR (aJ (i:=6) j7.nd) bP))) (aF (bD (eV (eA (aA 6))) (aF kJ) aY)))
  (aE (cI (K':=K) (aA 0) (cG (rc:=m7 K) jQ (by rfl) tx.jX iS (aB (aA 1) aD)) rfl)
  (aE (cI (K':=K) (aA 0) (aA 2) rfl)
  (aF (cI (K':=K) (aA 0) (aA 3) rfl)))))) ?_
 refine aV (σ:=[some (.ref x),some (.ref lm),some st,some (.int W.bh),none,none,none]) rfl ?_;refine fW (λσ' H'=>σ'=[some (.ref x),some (.ref lm),some st,some (.int W.bh),some (.bl true),none,none]/\H'=H) (λN hN=>?_) ?_
 ·cases e:W.store with
  |none=>
   rw[e] at hs
   replace hs:st=.bt:=hs
   subst hs;walk_at "w";exact hN _ _ ⟨rfl,rfl⟩
  |some s=>
   rw[e] at hs;obtain⟨b,rfl,hb⟩:=hs;obtain⟨db,Aw⟩:=hb.ex;walk_at "w";refine pE (Y0 tx.BK tx.iH Aw) ?_;walk_at "w";exact hN _ _ ⟨rfl,rfl⟩
 rintro σ' H' ⟨rfl,rfl⟩;walk_at "w";refine⟨lm,W.specs,rfl,hm,hl,λH1 s1=>?_⟩;walk_at "w";refine⟨_,_,rfl,.int _,?_⟩;rw[qC ha];walk_at "w";intro l1 n1;walk_at "w";have s2:=s1.trans (aO.new (o:=.lst [.bl true,.bl true,.bl true]) n1);have e2:(upd H1 l1 (.lst [.bl true,.bl true,.bl true])) l1=some (.lst [.bl true,.bl true,.bl true]):=aN;generalize upd H1 l1 (.lst [.bl true,.bl true,.bl true])=H2 at s2 e2 ⊢;refine GP (bR.of e2) ?_;refine xS (xs:=[.bl true,.bl true,.bl true]) (λi σ' H3=>∃y z,σ'=[some (.ref x),some (.ref lm),some st,some (.int W.bh),some (.bl true),y,z]/\aO H2 H3)
  ⟨_,_,rfl,aO.refl _⟩ (λi σ' H3 hi ⟨y,z,e,s⟩=>bR.of (s _ _ e2)) (λi v σ' H3 T hv Sg nT=>?_) (λσ' H3 Sf=>?_)
 ·obtain⟨y,z,e,s⟩:=Sg;subst e;have ev:v=.bl true:=by
   have:=kP hv;simpa using this
  subst ev;refine cV (iC.of aN) rfl ?_;walk_at "w";exact⟨_,_,rfl,s.trans (aO.new nT)⟩
 ·obtain⟨y,z,e,s⟩:=Sf;subst e;have sH:aO H' H3:=s2.trans s;have og:=sH _ _ hx;obtain⟨qs,p1,p2⟩:=(hm.tr sH.tr).ex;walk_at "w";refine oJ (ys:=qs.map V.ref) (bR.of p1) ?_;intro l9 n9;have s9:=aO.new (o:=.lst (qs.map V.ref)) n9;have x9:=s9 _ _ og;walk_at "w";refine gC (fs':=[("machines",.ref l9)]) x9 tx.qB tx.oW (by simp) rfl ?_;walk_at "w";refine gC (fs':=[("machines",.ref l9),("store",st)]) aN tx.qB tx.oB (by simp) rfl ?_;rw[gN];walk_at "w";refine gC (fs':=FI l9 st W.bh) aN tx.qB tx.zI (by simp) rfl ?_;rw[gN];walk_at "w";have kx:bL x (upd H3 l9 (.lst (qs.map V.ref))) (upd (upd H3 l9 (.lst (qs.map V.ref))) x (.ins a.dU dx (FI l9 st W.bh))):=bL.upd;have t9:Tr H3 (upd (upd H3 l9 (.lst (qs.map V.ref))) x (.ins a.dU dx (FI l9 st W.bh))):=s9.tr.trans (Ye x9 kx);have l9x:l9≠x:=Ne.symm (bB n9 og);refine k _ ⟨dx,l9,st,aN,⟨qs,kx _ _ aN l9x,p2.imp λ_ _ z=>z.tr t9⟩,hs.tr (sH.tr.trans t9)⟩ (λb o e nb=>kx _ _ (s9 _ _ (sH _ _ e)) nb)
inductive vX  (K:W.Frag) (vs:List V) (H:Hp) (Q:VK) (E:XK):Prop
 |mk:∀(p b:Addr) (x y:Int),(vs=[.ref p,.ref b])->bE H p->(H b=some (.lst [.int x,.int y]))->(1<=x)->(x<=50000000000)->(∀v (o:Option SS) H',AI H' v o->(∀s,o=some s->s.Good)->(∀c,v=.ref c->H c=none)->bE H' p->bL p H H'->hV p H H'->Q v H')->vX K vs H Q E
theorem aD1(tx:Txt K mg a):bT P w K mg base eY 2 a.yN a.yO afa (vX K):=by
 have aS:=cZ (P:=P) (w:=w) (base:=base) tx;refine tx.js.F.ok j8 (by walk_at "l") λbj A outer s H vs Q E hr h=>?_;obtain⟨p,b,x,y,rfl ,hh,hb,x0,x1,k⟩:=h;have hu:=gM hr;refine aZ (aE (bD (aU (r:=kT K) (eB hu) (bg aS hr tx.af (aB (aA 0) (aB aC aD))) aC (bJ _)) (aF (aM c8)) aY)
  (aE (aK (i:=2) j8.nd (aI bV (aH (K':=K) (aA 1) aC) (bg aS hr tx.af (aB (aA 0) (aB aC aD)))))
  (aE (aK (i:=3) j8.nd (aI bC (aA 2) (aI bV (aH (K':=K) (aA 1) aC) (bg aS hr tx.af (aB (aA 0) (aB aC aD))))))
  (aE (bD (aU (r:=kT K) (eB hu) (bg aS hr tx.af (aB (aA 0) (aB aC aD))) aC (bJ _)) (aF (aJ2 (i:=3) (j:=2) rfl j8.nd rfl rfl (by decide) rfl rfl (aB (aA 2) (aB (aA 3) aD)))) aY)
  (aF (aM (Y3 (bg aS hr tx.af (aB (aA 0) (aB aC aD))) (bg aS hr tx.af (aB (aA 0) (aB aC aD))) (bg aS hr tx.af (aB (aA 0) (aB aC aD))) (aA 3) (aA 2)))))))) ?_
 have bp:b≠p:=hh.AJ hb (by simp);refine aV (σ:=[some (.ref p),some (.ref b),none,none]) rfl ?_;walk_at "w";refine⟨p,_,rfl,hh,by decide,by decide,λr1 H1 a1 b1 h1 k1 q1=>?_⟩;have NG:=k1 _ _ hb bp;walk_at "w";refine cA (λh=>?_) (λh=>?_)
 ·walk_at "w";exact k _ none _ rfl (λs e=>by cases e) (λc e=>by cases e) h1 k1 q1
 ·walk_at "w";refine⟨p,_,rfl,h1,by decide,by decide,λr2 H2 a2 b2 h2 k2 q2=>?_⟩;have VO:=k2 _ _ NG bp;walk_at "w";refine⟨p,_,rfl,h2,by decide,by decide,λr3 H3 a3 b3 h3 k3 q3=>?_⟩;have g2:0<=x*r2/\x*r2<=150000000000:=Cf x0 x1 a2 b2 (by decide);have g3:0<=x*r3/\x*r3<=50000000000:=Cf x0 x1 a3 b3 (by decide);repeat walk_at "st"
  refine fW (λσ' H'=>∃g t:Int,σ'=[some (.ref p),some (.ref b),some (.int g),some (.int t)]/\Am g/\Am t/\bE H' p/\bL p H H'/\hV p H H') (λN hN=>?_) ?_
  ·walk_at "w";refine⟨p,_,rfl,h3,by decide,by decide,λr4 H4 a4 b4 h4 k4 q4=>?_⟩;walk_at "w";refine cA (λh=>?_) (λh=>?_)
   ·walk_at "w";refine⟨_,_,rfl,?_⟩;exact hN _ _ ⟨_,_,rfl,⟨by lia,by lia⟩,⟨by lia,by lia⟩,h4,k1.trans (k2.trans (k3.trans k4)),q1.trans (q2.trans (q3.trans q4))⟩
   ·walk_at "w";exact hN _ _ ⟨_,_,rfl,⟨by lia,by lia⟩,⟨by lia,by lia⟩,h4,k1.trans (k2.trans (k3.trans k4)),q1.trans (q2.trans (q3.trans q4))⟩
  ·rintro σ' H4 ⟨g,t,rfl,hg,ht,h4,k4,q4⟩;walk_at "w";refine⟨p,_,rfl,h4,by decide,by decide,λr5 H5 a5 b5 h5 k5 q5=>?_⟩;walk_at "w";refine⟨p,_,rfl,h5,by decide,by decide,λr6 H6 a6 b6 h6 k6 q6=>?_⟩;walk_at "w";refine⟨p,_,rfl,h6,by decide,by decide,λr7 H7 a7 b7 h7 k7 q7=>?_⟩;walk_at "w";intro c nc;have kk:=k4.trans (k5.trans (k6.trans k7));have qq:=q4.trans (q5.trans (q6.trans q7));refine k (.ref c) (some ⟨r5,r6,r7,t,g⟩) _ ⟨c,rfl,⟨aN⟩⟩ (λs e=>?_) (λc' e=>by cases e;exact kO kk h7 nc) (h7.same (aO.new nc)) (kk.trans (aO.new nc).keep) (qq.trans (hV.of (aO.new nc p)));cases e;exact⟨⟨a5,by show r5<=8;lia⟩,⟨a6,by show r6<=8;lia⟩,⟨a7,by show r7<=8;lia⟩,ht,hg⟩
def An:Option SS->Int->ae
 |none,_=>[0]
 |some s,l=>mf (max 0 (l - s.out)) (min s.bz (l+s.into)+1 - max 0 (l - s.out)).toNat
inductive tR  (K:W.Frag) (vs:List V) (H:Hp) (Q:VK) (E:XK):Prop
 |mk:∀(v:V) (o:Option SS) (l:Int),(vs=[v,.int l])->AI H v o->((∀s,o=some s->s.Good/\0<=l/\l<=s.bz))->(∀q H',aO H H'->H q=none->H' q=some (.lst ((An o l).map V.int))->Q (.ref q) H')->tR K vs H Q E
theorem aDd(tx:Txt K mg a):bT P w K mg base eY 1 a.vH a.vI ara (tR K):=by
 refine tx.ja.F.ok aCC (by walk_at "l") λbj A outer s H vs Q E hr h=>?_;obtain⟨v,o,l,rfl ,hv,hg,k⟩:=h;have hu:=gM hr;refine aZ (aE (bD (aU wQ (aA 0) c8 (bJ _)) (aF (aM (iF aC))) aY)
  (aF (aM (cG (rc:=KI) (aCk rfl) (by rfl) tx.jX iS (aB (cG (rc:=Ki) aEA (by rfl) tx.eF Zv (aB (aP (jP rfl) (by rfl) tx.zJ wO (aB aC (aB (aI fA (aA 1) (aH (K':=K) (aA 0) aC)) aD))) (aB (aI bC (aP (dZ rfl) (by rfl) tx.jI gB (aB (aH (K':=K) (aA 0) aC) (aB (aI bC (aA 1) (aH (K':=K) (aA 0) aC)) aD))) aC) aD))) aD))))) ?_
 refine aV (σ:=[some v,some (.int l)]) rfl ?_;cases o with
 |none=>
  replace hv:v=.bt:=hv
  subst hv;walk_at "w";intro q nq;walk_at "w";exact k q _ (aO.new nq) nq aN
 |some s=>
  obtain⟨b,rfl,hb⟩:=hv;obtain⟨gs,l0,l1⟩:=hg s rfl;obtain⟨c0,c1⟩:=gs.bz;obtain⟨i0,i1⟩:=gs.into;obtain⟨o0,o1⟩:=gs.out;have e1:=hb.at_;walk_at "w";intro p np;walk_at "w";refine ZQ aN (by lia) (by lia) ?_;intro q nq;exact k q _ ((aO.new np).trans (aO.new nq)) ((aO.new np).free nq) aN
theorem P8{l:Addr}{H H2:Hp}(h:H l=none)(s:aO H H2):aO H (del l H2):=λb o e=>by rw[w9 (bB h e)];exact s b o e
theorem aIA{α:Type}{l:List α}{x:α}(h:l.Nodup)(n:x∉l):(l ++ [x]).Nodup:=by
 rw[List.nodup_append];refine⟨h,by simp,λa ha b hb z=>?_⟩;rw[rC.mp hb] at z;exact n (by rw[<-z];exact ha)
theorem X9:Am (10 ^ (12:Int).toNat):=⟨by decide,by decide⟩
theorem bE.upR{H H':Hp}{p l:Addr}{qs:au}(hh:bE H p)(hl:H l=some (.lst (qs.map V.ref)))(k:bL l H H'):bE H' p:=by
 obtain⟨d,c,q,ms,hp,hq,bw,yk⟩:=hh.ex;refine⟨⟨d,c,q,ms,k _ _ hp (Ne.symm (hh.OL hl)),k _ _ hq (λz=>?_),bw,yk⟩⟩;rw[z,hl] at hq;cases ms with
 |nil=>exact bw rfl
 |cons m ms=>
  cases qs with
  |nil=>cases hq
  |cons _ _=>cases hq
theorem P7(n:Nat):pf (n+1) (-1)=some n:=by
 unfold pf;rw[bZ (by lia),cO (by lia)];congr 1;lia
theorem RL.set{α:Type}{P:Addr->α->Prop}{as:au}{xs:List α}(h:RL P as xs){i:Nat}{a:Addr}{x:α}(hp:P a x):RL P (as.set i a) (xs.set i x):=by
 refine⟨by rw[wk,wk,h.len],λj q u hq hu=>?_⟩;rw[List.getElem?_set] at hq hu;by_cases e:i=j
 ·rw[cO e] at hq hu;split at hq
  ·split at hu
   ·cases hq;cases hu;exact hp
   ·cases hu
  ·cases hq
 ·rw[bZ e] at hq hu;exact h.at_ j q u hq hu
theorem Zq{ms:List MS}{i:Nat}{m:MS}(h:∀m∈ms,m.Good)(g:m.Good):∀m'∈ms.set i m,m'.Good:=λm' hm=>by
 rcases List.mem_or_eq_of_mem_set hm with h1|h1
 ·exact h m' h1
 ·rw[h1];exact g
theorem aKu{u d b r t l:Int}{pl:Addr}{ms:ae}(h:some (HO.lst [.int u,.int d,.int b,.int r,.int t,.int l,.ref pl])=some (HO.lst (ms.map V.int))):False:=by
 injection h with h
 injection h with h
 have z:(ms.map V.int)[6]?=some (.ref pl):=by rw[<-h];rfl
 rw[kQ] at z;obtain⟨n,_,e⟩:=kl.mp z;cases e
theorem aMz{n:Nat}{k:Int}(h0:0<=k)(h:k.toNat < n):pf n k=some k.toNat:=by
 obtain⟨j,rfl⟩:=Ha h0;unfold pf;rw[cO h0,cO (by lia)]
theorem MS.aQE(m:MS)(g:m.Good){v r:Int}(av:Am v)(r0:0<=r)(r1:r < 4)(pl:Addr):∃m':MS,[V.int m.up,.int m.down,.int m.begin_,.int m.run,.int m.rest,.int m.least,.ref pl].set (2+r).toNat (.int v)=[V.int m'.up,.int m'.down,.int m'.begin_,.int m'.run,.int m'.rest,.int m'.least,.ref pl]/\m'.Good/\m'.pieces=m.pieces:=by
 rcases(show r=0\/r=1\/r=2\/r=3 by lia) with rfl|rfl|rfl|rfl
 ·exact⟨{ m with begin_:=v },rfl,⟨g.up,g.down,av,g.run,g.rest,g.least,g.pieces⟩,rfl⟩
 ·exact⟨{ m with run:=v },rfl,⟨g.up,g.down,g.begin_,av,g.rest,g.least,g.pieces⟩,rfl⟩
 ·exact⟨{ m with rest:=v },rfl,⟨g.up,g.down,g.begin_,g.run,av,g.least,g.pieces⟩,rfl⟩
 ·exact⟨{ m with least:=v },rfl,⟨g.up,g.down,g.begin_,g.run,g.rest,av,g.pieces⟩,rfl⟩
inductive mW  (K:W.Frag) (vs:List V) (H:Hp) (Q:VK) (E:XK):Prop
 |mk:∀(p:Addr) (n:Int),(vs=[.ref p,.int n])->bE H p->(0<=n)->(n<=6)->(∀(s:Addr) (W:WS) H',nO H' s W->W.Good->bE H' p->bL p H H'->H s=none->Q (.ref s) H')->mW K vs H Q E
theorem xC(tx:Txt K mg a):bT P w K mg base eY 4 a.nF a.nG a3a (mW K):=by
 have aS:=cZ (P:=P) (w:=w) (base:=base) tx;have vY:=aCZ (P:=P) (w:=w) (base:=base) tx;have aHk:=aFF (P:=P) (w:=w) (base:=base) tx;have aFP:=aD1 (P:=P) (w:=w) (base:=base) tx;refine tx.dh.F.ok cF (by walk_at "l") λbj A outer s H vs Q E hr h=>?_;obtain⟨p,n,rfl ,hh,n0,n1,k⟩:=h;have hu:=gM hr;refine aZ (aE (oM (i:=2) cF.nd rfl (Or.inr rfl) (iX (bg vY hr tx.dt (aB (aA 0) aD)) (bg vY hr tx.dt (aB (aA 0) aD))))
  (aE (oM (i:=3) cF.nd rfl (Or.inr rfl) (cG Z1 (by rfl) tx.E7 KL (aB (fB (r:=kT K) (eB hu) (bg aS hr tx.af (aB (aA 0) (aB aC aD))) aC (bJ _)) aD)))
  (aE (aK (i:=4) cF.nd (bg aS hr tx.af (aB (aA 0) (aB (aH (K':=K) (iX (aI bC (aA 1) aC) aC) (aA 3)) aD))))
  (aE (fF (k:=1) (idx:=[2,0,3]) (N:=boa) (i:=5) cF.nd rfl (Or.inl rfl) (dJ (sc:=aL fX) (NX:=aya) rfl rfl rfl (by decide +kernel)) rfl (cL (by rfl) tx.eF (aB (aA 4) aD)) (λ_ _ _ _=>(aJ (i:=0) (show(boa:ak).Nodup by decide +kernel))) (dI (by decide)) (λ_ _ _ _=>bU) (λ_ _ _ _=>(bg aHk hr tx.ly (aB (aA 2) (aB (aA 1) (aB (aH (K':=K) (iX aC aC) (aA 3)) aD))))))
  (aE (bD (eN (iN (aU (r:=EV K) (KJ hu) (aA 5) (lS aD) (bJ _)) (gE (aU (r:=kT K) (eB hu) (bg aS hr tx.af (aB (aA 0) (aB aC aD))) aC (bJ _))))) (aF (jS (aI GY aC aC) (oK (aH (K':=K) (aA 5) aC) (aI bC aC (bg aS hr tx.af (aB (aA 0) (aB aC aD)))) set_list))) aY)
  (aE (bD (eN (iN (aU (r:=EV K) (KJ hu) (aA 5) (lS aD) (bJ _)) (gE (aU (r:=kT K) (eB hu) (bg aS hr tx.af (aB (aA 0) (aB aC aD))) aC (bJ _))))) (aF (jS (aH (K':=K) (aA 5) aC) (oK (aA 5) (kH rO aC) set_list))) aY)
  (aE (aK (i:=6) cF.nd (bg aFP hr tx.js (aB (aA 0) (aB (aA 2) aD))))
  (aE (aK (i:=7) cF.nd (aI bV (aH (K':=K) (aA 2) aC) (bg aS hr tx.af (aB (aA 0) (aB aC aD)))))
  (aE (bD (eN (iN (aU (r:=kT K) (eB hu) (aA 3) aC (bJ _)) (gE (aU uG (aA 6) c8 (bJ _))))) (aF (aK (i:=6) cF.nd (aI bC (uH (bg aS hr tx.af (aB (aA 0) (aB aC aD))) (bg aS hr tx.af (aB (aA 0) (aB aC aD))) (bg aS hr tx.af (aB (aA 0) (aB aC aD)))) (eO (rs:=zc K) Bd (aA 6) (fE aC) fD)))) aY)
  (aE (bD (eN (iN (aU (r:=kT K) (eB hu) (aA 3) aC (bJ _)) (gE (aU (r:=kT K) (eB hu) (bg aS hr tx.af (aB (aA 0) (aB aC aD))) aC (bJ _))))) (aF (aK (i:=7) cF.nd (aI GY aC aC))) aY)
  (aF (aM (Y3 (aA 5) (aA 6) (aA 7) (aA 2) (aA 3)))))))))))))) ?_
 refine aV (σ:=[some (.ref p),some (.int n),none,none,none,none,none,none]) rfl ?_;walk_at "w";refine⟨p,rfl,hh,λx H1 x0 x1 h1 k1 _=>?_⟩;walk_at "w";refine⟨p,rfl,h1,λy H2 y0 y1 h2 k2 _=>?_⟩;walk_at "w";intro b nb;obtain⟨H3,e3,sb,NF⟩:=nw _ nb;rw[e3];have h3:=h2.same sb;have K3:bL p H H3:=k1.trans (k2.trans sb.keep);have nbH:H b=none:=kO (k1.trans k2) h2 nb;have bp:b≠p:=hh.GA nbH;walk_at "w";refine⟨p,_,rfl,h3,by decide,by decide,λr4 H4 a4 b4 h4 k4 _=>?_⟩;walk_at "w";obtain⟨wd,hwd,DX⟩ : ∃wd:Int,(if decide (r4=7)=true then (1:Int) else 0)=wd/\(wd=0\/wd=1):=by
  by_cases h:r4=7
  ·exact⟨1,by rw[cO (mi h)],.inr rfl⟩
  ·exact⟨0,by rw[bZ (by simpa using h)],.inl rfl⟩
 rw[hwd];walk_at "w";have ND:=k4 _ _ NF bp;have K4:=K3.trans k4;intro l1 Mz;obtain⟨H5,e5,s5,g5⟩:=nw _ Mz;rw[e5];obtain⟨M,hM,M0,M1⟩ : ∃M:Int,uP [V.int (n+1),.int 7] wd=some (.int M)/\1<=M/\M<=7:=by
  rcases DX with rfl|rfl
  ·exact⟨n+1,rfl,by lia,by lia⟩
  ·exact⟨7,rfl,by decide,by decide⟩
 have NC:=s5 _ _ ND;have h5:=h4.same s5;have K5:=K4.trans (s5.keep (p:=p));walk_at "w";refine⟨p,_,rfl,h5,by lia,by lia,λmany H6 m0 m1 h6 k6 _=>?_⟩;have NB:=k6 _ _ NC bp;have K6:=K5.trans k6;repeat walk_at "st"
 refine fW (λσ' H'=>∃(l:Addr) (qs:au) (ms:List MS),σ'=[some (.ref p),some (.int n),some (.ref b),some (.int wd),some (.int many),some (.ref l),none,none]/\H' l=some (.lst (qs.map V.ref))/\qs.length<=6/\RL (dB (del l H')) qs ms/\(∀m∈ms,m.Good)/\H' b=some (.lst [.int x,.int y])/\bE H' p/\bL p H H'/\H l=none/\b≠l/\l≠p/\qs.Nodup/\∀q∈qs,H q=none) (λN hN=>?_) ?_
 ·walk_at "w";refine⟨by lia,by lia,?_⟩;refine jN (λi us H'=>∃(qs:au) (ms:List MS),us=qs.map V.ref/\qs.length=i/\RL (dB H') qs ms/\(∀m∈ms,m.Good)/\H' b=some (.lst [.int x,.int y])/\bE H' p/\bL p H H'/\qs.Nodup/\∀q∈qs,H q=none) ⟨[],[],rfl,rfl,RL.nil,(λm h=>by cases h),NB,h6,K6,List.nodup_nil,λq h=>by cases h⟩ (cB (by lia))
   (λi us H' hi ⟨qs,ms,f1,f2,f3,f4,f5,f6,f7,f8,f9⟩=>by rw[f1,bX];lia) (λi us H' hi Se=>?_) (λus H' Sd=>?_)
  ·obtain⟨qs,ms,f1,f2,f3,f4,f5,f6,f7,f8,f9⟩:=Se;obtain⟨L,hL,L0,L1⟩ : ∃L:Int,uP [V.int 3,.int 12] wd=some (.int L)/\1<=L/\L<=12:=by
    rcases DX with rfl|rfl
    ·exact⟨3,rfl,by decide,by decide⟩
    ·exact⟨12,rfl,by decide,by decide⟩
   walk_at "w";intro l2 AY;obtain⟨H7,e7,s7,g7⟩:=nw _ AY;rw[e7];walk_at "w";refine⟨p,b,x,y,L,rfl,f6.same s7,s7 _ _ f5,x0,x1,y0,y1,L0,L1,λs m H8 hs gm _ _ h8 k8 nA=>?_⟩;have nds:(qs ++ [s]).Nodup:=aIA f8 λz=>by
    obtain⟨j,hj⟩:=ve z;have A2:j < ms.length:=by rw[<-f3.len];exact(lU.mp hj).1
    obtain⟨FR,om,_⟩:=(f3.at_ j s _ hj (eS A2)).ex;rw[s7 _ _ om] at nA;cases nA
   have mh:∀q∈qs ++ [s],H q=none:=λq hq=>by
    rcases oh.mp hq with z|z
    ·exact f9 q z
    ·rw[rC.mp z];exact kO (f7.trans s7.keep) (f6.same s7) nA
   refine⟨qs ++ [s],ms ++ [m],by rw[f1,iK];rfl,by rw[lB,f2];rfl,(f3.imp λa x z=>z.tr (s7.tr.trans ((f6.same s7).tr k8))).snoc hs,λm' hm'=>?_,k8 _ _ (s7 _ _ f5) bp,h8,f7.trans (s7.keep.trans k8),nds,mh⟩;rcases oh.mp hm' with h|h
   ·exact f4 m' h
   ·rw[rC.mp h];exact gm
  ·obtain⟨qs,ms,f1,f2,f3,f4,f5,f6,f7,f8,f9⟩:=Sd;subst f1;intro l nl;obtain⟨H7,e7,sl,g7⟩:=nw _ nl;rw[e7];have xk:H l=none:=kO f7 f6 nl;walk_at "w";exact hN _ _ ⟨l,qs,ms,rfl,g7,by lia,f3.imp λa x z=>z.same (P8 nl sl),f4,sl _ _ f5,f6.same sl,f7.trans sl.keep,xk,bB nl f5,hh.GA xk,f8,f9⟩
 rintro σ7 H7 ⟨l,CT,CV,rfl,hl7,MG,rl7,uw,NA,h7,K7,xk,bl,lp,nd7,fr7⟩;refine fW (λσ' H'=>∃(qs:au) (ms:List MS),σ'=[some (.ref p),some (.int n),some (.ref b),some (.int wd),some (.int many),some (.ref l),none,none]/\H' l=some (.lst (qs.map V.ref))/\qs.length<=6/\RL (dB (del l H')) qs ms/\(∀m∈ms,m.Good)/\H' b=some (.lst [.int x,.int y])/\bE H' p/\bL p H H') (λN hN=>?_) ?_
 ·walk_at "w";intro f1 MA;obtain⟨H8,e8,yd,g8⟩:=nw _ MA;rw[e8];have Gd:=yd _ _ hl7;have h8:=h7.same yd;have JH:=yd _ _ NA;have K8:=K7.trans (yd.keep (p:=p));have IZ:RL (dB (del l H8)) CT CV:=rl7.imp λa x z=>z.tr yd.tr.del;walk_at "w";refine⟨_,PN (bR.of Gd) (bR.of g8),?_⟩;walk_at "w";refine iE (λbw=>?_) (λbw=>?_)
  ·have B0:CT≠[]:=λz=>by rw[z] at bw;simp at bw
   walk_at "w";refine⟨p,_,rfl,h8,by decide,by decide,λr9 H9 a9 b9 h9 k9 _=>?_⟩;have C9:=k9 _ _ Gd lp;have Av:=k9 _ _ JH bp;have K9:=K8.trans k9;have BW:RL (dB (del l H9)) CT CV:=IZ.imp λa x z=>z.tr (h8.tr k9).del;walk_at "w";refine cA (λJz=>?_) (λJz=>?_)
   ·obtain⟨q0,qr,rfl⟩ : ∃q0 qr,CT=q0::qr:=by
     cases CT with
     |nil=>exact absurd rfl B0
     |cons q0 qr=>exact⟨q0,qr,rfl⟩
    have F0:0 < CV.length:=by rw[<-BW.len];exact Nat.zero_lt_succ _
    obtain⟨ua,mr,rfl⟩ : ∃ua mr,CV=ua::mr:=by
     cases CV with
     |nil=>exact absurd F0 (rm _)
     |cons a r=>exact⟨a,r,rfl⟩
    have Ex:=BW.at_ 0 q0 ua rfl rfl;have g0:=uw ua (oj ..);walk_at "w";refine GW (bR.of C9) (iD (j:=0) rfl) ?_;walk_at "w";refine⟨p,_,rfl,h9,by decide,by decide,λUS yc Bf b10 xp mn _=>?_⟩;have wy:=mn _ _ C9 lp;have ur:=mn _ _ Av bp;have Fy:=K9.trans mn;have um:RL (dB (del l yc)) (q0::qr) (ua::mr):=BW.imp λa x z=>z.tr (h9.tr mn).del;have Tq:=um.at_ 0 q0 ua rfl rfl;obtain⟨Jd,C6,HE⟩:=Tq.ex;have UT:q0≠l:=λz=>by rw[z,E6] at C6;cases C6
    have zp:=jJ _ _ C6;have q0p:q0≠p:=xp.AJ zp (by simp);have q0b:b≠q0:=λz=>by rw[<-z,ur] at zp;cases zp
    walk_at "w";refine uE (j:=(2+US).toNat) zp (aMz (by lia) (by show(2+US).toNat < 7;lia)) ?_;obtain⟨v12,HC⟩ : ∃v:Int,v=10 ^ (12:Int).toNat:=⟨_,rfl⟩
    rw[<-HC];have av:Am v12:=by rw[HC];exact X9
    obtain⟨mm,emm,gmm,epc⟩:=MS.aQE ua g0 av Bf b10 Jd;rw[emm];obtain⟨Fz,Ju,qg,MN⟩:=wr yc q0 _;rw[Ju];have SY:Jd≠q0:=λz=>by
     obtain⟨tq,e',_⟩:=HE.ex;rw[z,C6] at e';cases tq with
     |nil=>cases e'
     |cons _ _=>cases e'
    have kd:∀d o,del l yc d=some o->d≠q0->del l Fz d=some o:=λd o e n=>by
     have nl':d≠l:=λz=>by rw[z,E6] at e;cases e
     rw[w9 nl'] at e ⊢;exact qg _ _ e n
    have Tv:uU (del l Fz) Jd ua.pieces:=by
     obtain⟨tq,e',t'⟩:=HE.ex;exact⟨tq,kd _ _ e' SY,t'.len,λj q t h1 h2=>kd _ _ (t'.at_ j q t h1 h2) λz=>by have y:=t'.at_ j q t h1 h2;rw[z,C6] at y;cases y⟩
    have je:dB (del l Fz) q0 mm:=⟨Jd,dR MN UT,by rw[epc];exact Tv⟩
    walk_at "w";refine hN _ _ ⟨q0::qr,mm::mr,rfl,qg _ _ wy (Ne.symm UT),MG,⟨by have:=um.len;simpa using this,λj a z h1 h2=>?_⟩,Zq (i:=0) uw gmm,qg _ _ ur q0b,?_,λd o e nd=>qg _ _ (Fy _ _ e nd) (bB (fr7 q0 (.head _)) e)⟩
    ·match j,h1,h2 with
     |0,h1,h2=>cases h1;cases h2;exact je
     |j+1,h1,h2=>
      have hx:=um.at_ (j+1) a z h1 h2;have aq:a≠q0:=λy=>(ug.mp nd7).1 (by rw[<-y];exact kP h1);obtain⟨UX,e1',Tw⟩:=hx.ex;obtain⟨tq,Ba,t'⟩:=Tw.ex;have p1q:UX≠q0:=λy=>by
       rw[y,C6] at Ba;cases tq with
       |nil=>cases Ba
       |cons _ _=>cases Ba
      exact⟨UX,kd _ _ e1' aq,tq,kd _ _ Ba p1q,t'.len,λj q t h1 h2=>kd _ _ (t'.at_ j q t h1 h2) λy=>by have w:=t'.at_ j q t h1 h2;rw[y,C6] at w;cases w⟩
    ·obtain⟨dd,cc,qq,mms,vp,om,TB,Tt⟩:=xp.ex;refine⟨⟨dd,cc,qq,mms,qg _ _ vp (Ne.symm q0p),qg _ _ om (λy=>?_),TB,Tt⟩⟩;rw[y,zp] at om;exact aKu om
   ·walk_at "w";exact hN _ _ ⟨CT,CV,rfl,C9,MG,BW,uw,Av,h9,K9⟩
  ·walk_at "w";exact hN _ _ ⟨CT,CV,rfl,Gd,MG,IZ,uw,JH,h8,K8⟩
 rintro σ8 H8 ⟨CQ,Es,rfl,Gd,MF,IZ,Di,JH,h8,K8⟩;refine fW (λσ' H'=>∃(ms:List MS),σ'=[some (.ref p),some (.int n),some (.ref b),some (.int wd),some (.int many),some (.ref l),none,none]/\qD H' l ms/\ms.length<=6/\(∀m∈ms,m.Good)/\H' b=some (.lst [.int x,.int y])/\bE H' p/\bL p H H') (λN hN=>?_) ?_
 ·walk_at "w";intro f1 MA;obtain⟨H9,e9,yd,g9⟩:=nw _ MA;rw[e9];have C9:=yd _ _ Gd;have h9:=h8.same yd;have Av:=yd _ _ JH;have K9:=K8.trans (yd.keep (p:=p));have BW:RL (dB (del l H9)) CQ Es:=IZ.imp λa x z=>z.tr yd.tr.del;have Bx:=BW.len;walk_at "w";refine⟨_,PN (bR.of C9) (bR.of g9),?_⟩;walk_at "w";refine iE (λbw=>?_) (λbw=>?_)
  ·have B0:CQ≠[]:=λz=>by rw[z] at bw;simp at bw
   walk_at "w";refine⟨p,_,rfl,h9,by decide,by decide,λr9 yc a9 b9 xp mn _=>?_⟩;have wy:=mn _ _ C9 lp;have ur:=mn _ _ Av bp;have Fy:=K9.trans mn;have um:RL (dB (del l yc)) CQ Es:=BW.imp λa x z=>z.tr (h9.tr mn).del;walk_at "w";refine cA (λJz=>?_) (λJz=>?_)
   ·obtain⟨q0,qr,rfl⟩ : ∃q0 qr,CQ=q0::qr:=by
     cases CQ with
     |nil=>exact absurd rfl B0
     |cons q0 qr=>exact⟨q0,qr,rfl⟩
    obtain⟨ua,mr,rfl⟩ : ∃ua mr,Es=ua::mr:=by
     cases Es with
     |nil=>cases Bx
     |cons a r=>exact⟨a,r,rfl⟩
    have Ex:=um.at_ 0 q0 ua rfl rfl;walk_at "w";refine GW (bR.of wy) (iD (j:=0) rfl) ?_;walk_at "w";refine uE (j:=qr.length) wy (by rw[bX,oi];exact P7 _) ?_;obtain⟨Fz,Ju,qg,MN⟩:=wr yc l _;rw[Ju];have dl:del l Fz=del l yc:=by rw[<-Ju,zR]
    have Bz:=um.set (i:=qr.length) Ex;walk_at "w";refine hN _ _ ⟨(ua::mr).set qr.length ua,rfl,⟨(q0::qr).set qr.length q0,?_,Bz.imp λa x z=>((dl▸z:dB (del l Fz) a x)).same jJ⟩,by rw[wk,<-Bx];exact MF,Zq Di (Di ua (oj ..)),qg _ _ ur bl,xp.upR wy qg,λd o e nd=>qg _ _ (Fy _ _ e nd) (bB xk e)⟩;rw[MN,List.map_set]
   ·walk_at "w";exact hN _ _ ⟨Es,rfl,⟨CQ,wy,um.imp λa x z=>z.same jJ⟩,by rw[<-Bx];exact MF,Di,ur,xp,Fy⟩
  ·walk_at "w";exact hN _ _ ⟨Es,rfl,⟨CQ,C9,BW.imp λa x z=>z.same jJ⟩,by rw[<-Bx];exact MF,Di,Av,h9,K9⟩
 rintro σ9 H9 ⟨MC,rfl,sp9,ln9,gd9,Av,h9,K9⟩;walk_at "w";refine⟨p,b,x,y,rfl,h9,Av,x0,x1,λv o yc SM D9 a0o xp mn _=>?_⟩;have Hd:=h9.tr mn;have SQ:=sp9.tr Hd;have ur:=mn _ _ Av bp;have Fy:=K9.trans mn;walk_at "w";refine⟨p,_,rfl,xp,by decide,by decide,λMt L7 G2 b11 EK qg _=>?_⟩;have Hc:=xp.tr qg;have DW:=SQ.tr Hc;have zk:=SM.tr Hc;have D8:=qg _ _ ur bp;have Hk:=Fy.trans qg;have We:0<=y*Mt/\y*Mt<=550000000000:=Cf y0 y1 G2 b11 (by decide);repeat walk_at "st"
 refine fW (λσ' H'=>∃(v:V) (o:Option SS),σ'=[some (.ref p),some (.int n),some (.ref b),some (.int wd),some (.int many),some (.ref l),some v,some (.int (y*Mt))]/\qD H' l MC/\AI H' v o/\(∀s,o=some s->s.Good)/\H' b=some (.lst [.int x,.int y])/\bE H' p/\bL p H H') (λN hN=>?_) ?_
 ·walk_at "w";refine cA (λAq=>?_) (λAq=>?_)
  ·cases o with
   |none=>
    replace zk:v=.bt:=zk
    subst zk;walk_at "w";exact hN _ _ ⟨_,none,rfl,DW,rfl,D9,D8,EK,Hk⟩
   |some s=>
    obtain⟨c,rfl,hc⟩:=zk;have gs:=D9 s rfl;walk_at "w";refine⟨p,_,rfl,EK,by decide,by decide,λu1 H12 a12 b12 AA Vi _=>?_⟩;walk_at "w";refine⟨p,_,rfl,AA,by decide,by decide,λu2 L6 Lk Xn Az xl _=>?_⟩;walk_at "w";refine⟨p,_,rfl,Az,by decide,by decide,λu3 H14 a14 b14 EJ Vh _=>?_⟩;have QM:=(EK.tr Vi).trans ((AA.tr xl).trans (Az.tr Vh));have TR:=(hc.tr QM).at_;walk_at "w";intro c1 nc1;obtain⟨J1,i1,t1,j1⟩:=nw _ nc1;rw[i1];have TQ:=t1 _ _ TR;walk_at "w";refine lY (bR.of TQ) ?_;rw[show kE [V.int s.bz,.int s.into,.int s.out,.int s.takes,.int s.gives] (some 3) none=[.int s.takes,.int s.gives] from rfl];intro c2 nc2;obtain⟨J2,i2,t2,j2⟩:=nw _ nc2;rw[i2];walk_at "w";refine iT (t2 _ _ j1) j2 (cB (by simp)) ?_;intro c3 nc3;obtain⟨J3,i3,t3,j3⟩:=nw _ nc3;rw[i3];have tt:=t1.trans (t2.trans t3);walk_at "w";refine hN _ _ ⟨_,some ⟨u1,u2,u3,s.takes,s.gives⟩,rfl,DW.tr (QM.trans tt.tr),⟨c3,rfl,⟨j3⟩⟩,λs' e=>?_,(QM.trans tt.tr) _ _ D8 (oG (by simp)),EJ.same tt,Hk.trans (Vi.trans (xl.trans (Vh.trans tt.keep)))⟩
    cases e;exact⟨⟨a12,by show u1<=8;lia⟩,⟨Lk,by show u2<=8;lia⟩,⟨a14,by show u3<=8;lia⟩,gs.takes,gs.gives⟩
  ·walk_at "w";exact hN _ _ ⟨v,o,rfl,DW,zk,D9,D8,EK,Hk⟩
 rintro σ12 H12 ⟨v,o,rfl,DV,DU,T1,D7,AA,QU⟩;refine fW (λσ' H'=>∃(lk:Int),σ'=[some (.ref p),some (.int n),some (.ref b),some (.int wd),some (.int many),some (.ref l),some v,some (.int lk)]/\Am lk/\qD H' l MC/\AI H' v o/\H' b=some (.lst [.int x,.int y])/\bE H' p/\bL p H H') (λN hN=>?_) ?_
 ·walk_at "w";refine cA (λAq=>?_) (λAq=>?_)
  ·walk_at "w";refine⟨p,_,rfl,AA,by decide,by decide,λu1 L6 Lk Xn Az xl _=>?_⟩;have LN:=AA.tr xl;walk_at "w";refine cA (λhz=>?_) (λhz=>?_)
   ·walk_at "w";exact hN _ _ ⟨_,rfl,X9,DV.tr LN,DU.tr LN,xl _ _ D7 bp,Az,QU.trans xl⟩
   ·walk_at "w";exact hN _ _ ⟨_,rfl,⟨We.1,by lia⟩,DV.tr LN,DU.tr LN,xl _ _ D7 bp,Az,QU.trans xl⟩
  ·walk_at "w";exact hN _ _ ⟨_,rfl,⟨We.1,by lia⟩,DV,DU,D7,AA,QU⟩
 rintro σ13 L6 ⟨lk,rfl,alk,SO,SK,TU,Az,LY⟩;walk_at "w";intro s ns;obtain⟨J,i,t,j⟩:=nw _ ns;rw[i];walk_at "w";exact k s ⟨MC,o,lk,x,y,wd⟩ J ⟨l,v,b,j,SO.tr t.tr,SK.tr t.tr,t _ _ TU⟩ ⟨gd9,ln9,T1,alk,⟨x0,x1⟩,⟨y0,y1⟩,DX⟩ (Az.same t) (LY.trans t.keep) (kO LY Az ns)
theorem aOs{K:W.Frag}{H:Hp}{n:Nat}{pl FR:Addr}{ps ke:aw}(h:uU H pl ps)(h':uU H FR ke):∃b,ui K H (n+2) (.ref pl) (.ref FR) b/\(b=true->ps=ke):=by
 obtain⟨qs,h1,h2⟩:=h.ex;obtain⟨tq,vx,rj⟩:=h'.ex;refine⟨_,.inr ⟨pl,FR,_,_,λj=>(2 == 2 && (List.range 2).all λi=>match ps[j]?,ke[j]? with|some t,some t'=>(match i with|0=>decide (t.1=t'.1)|_=>decide (t.2=t'.2))|_,_=>true),rfl,rfl,.inl ⟨bR.of h1,bR.of vx⟩,λj u v hu hv=>?_,rfl⟩,λhb=>?_⟩
 ·rw[kQ] at hu hv;cases e1:qs[j]? with
  |none=>rw[e1] at hu;cases hu
  |some q=>
   cases e2:tq[j]? with
   |none=>rw[e2] at hv;cases hv
   |some q'=>
    rw[e1] at hu;rw[e2] at hv;cases hu;cases hv;have l1:j < ps.length:=by rw[<-h2.len];exact(lU.mp e1).1
    have l2:j < ke.length:=by rw[<-rj.len];exact(lU.mp e2).1
    have t1:=h2.at_ j q _ e1 (eS l1);have t2:=rj.at_ j q' _ e2 (eS l2);refine .inr ⟨q,q',_,_,λi=>match ps[j]?,ke[j]? with|some t,some t'=>(match i with|0=>decide (t.1=t'.1)|_=>decide (t.2=t'.2))|_,_=>true,rfl,rfl,.inr ⟨iC.of t1,iC.of t2⟩,λi u v hu hv=>?_,rfl⟩;rw[eS l1,eS l2]
    match i,hu,hv with
    |0,hu,hv=>
     cases hu;cases hv;cases n with
     |zero=>exact⟨rfl,rfl,rfl⟩
     |succ n=>exact .inl ⟨rfl,rfl,rfl⟩
    |1,hu,hv=>
     cases hu;cases hv;cases n with
     |zero=>exact⟨rfl,rfl,rfl⟩
     |succ n=>exact .inl ⟨rfl,rfl,rfl⟩
    |_+2,hu,_=>simp at hu
 ·rw[wm,DG] at hb;obtain⟨b1,b2⟩:=hb;have hl:ps.length=ke.length:=by
   have:=beq_iff_eq.mp b1;rw[bX,bX,h2.len,rj.len] at this;exact this
  refine List.ext_getElem hl λj l1 l2=>?_;have c:=b2 j (zf.mpr (by rw[bX,h2.len];exact l1));rw[wm,DG] at c;have c0:=c.2 0 (by simp);have c1:=c.2 1 (by simp);simp only[eS l1,eS l2] at c0 c1;exact Prod.ext (qw c0) (qw c1)
theorem aMA{K:W.Frag}{H:Hp}{s t:Addr}{m m':MS}(h1:dB H s m)(h2:dB H t m'):∃b,ui K H 8 (.ref s) (.ref t) b/\(b=true->m=m'):=by
 obtain⟨pl,e1,p1⟩:=h1.ex;obtain⟨FR,e2,p2⟩:=h2.ex;obtain⟨bp,hbp,ep⟩:=aOs (K:=K) (n:=5) p1 p2;refine⟨_,.inr ⟨s,t,_,_,λj=>match j with|0=>decide (m.up=m'.up)|1=>decide (m.down=m'.down)|2=>decide (m.begin_=m'.begin_)|3=>decide (m.run=m'.run)|4=>decide (m.rest=m'.rest)|5=>decide (m.least=m'.least)|_=>bp,rfl,rfl,.inl ⟨bR.of e1,bR.of e2⟩,λj u v hu hv=>?_,rfl⟩,λhb=>?_⟩
 ·match j,hu,hv with
  |0,hu,hv=>cases hu;cases hv;exact .inl ⟨rfl,rfl,rfl⟩
  |1,hu,hv=>cases hu;cases hv;exact .inl ⟨rfl,rfl,rfl⟩
  |2,hu,hv=>cases hu;cases hv;exact .inl ⟨rfl,rfl,rfl⟩
  |3,hu,hv=>cases hu;cases hv;exact .inl ⟨rfl,rfl,rfl⟩
  |4,hu,hv=>cases hu;cases hv;exact .inl ⟨rfl,rfl,rfl⟩
  |5,hu,hv=>cases hu;cases hv;exact .inl ⟨rfl,rfl,rfl⟩
  |6,hu,hv=>cases hu;cases hv;exact hbp
  |_+7,hu,_=>simp at hu
 ·rw[wm,DG] at hb;have q:=λj (hj:j < 7)=>hb.2 j (zf.mpr hj);have c0:=qw (q 0 (by decide));have c1:=qw (q 1 (by decide));have c2:=qw (q 2 (by decide));have c3:=qw (q 3 (by decide));have c4:=qw (q 4 (by decide));have c5:=qw (q 5 (by decide));have c6:=ep (q 6 (by decide));obtain⟨u1,u2,u3,u4,u5,u6,u7⟩:=m;obtain⟨v1,v2,v3,v4,v5,v6,v7⟩:=m';simp only[MS.mk.injEq];exact⟨c0,c1,c2,c3,c4,c5,c6⟩
theorem ends{qs:au}(h:qs≠[]):∃q0 ql,qs[0]?=some q0/\qs[qs.length - 1]?=some ql/\uP (qs.map V.ref) 0=some (.ref q0)/\uP (qs.map V.ref) (-1)=some (.ref ql):=by
 have hl:0 < qs.length:=Fq.mpr h;refine⟨qs[0],qs[qs.length - 1],eS hl,eS (by lia),aOm (i:=0) (eS hl),?_⟩;obtain⟨n,hn⟩ : ∃n,qs.length=n+1:=⟨qs.length - 1,by lia⟩
 have e:pf (qs.map V.ref).length (-1)=some n:=by rw[bX,hn];exact P7 n
 unfold uP;rw[e];show(qs.map V.ref)[n]?=_;rw[kQ];simp only[hn,Nat.add_sub_cancel];rw[eS (by lia)];rfl
theorem set_same{α:Type}{xs:List α}{i:Nat}{x:α}(h:xs[i]?=some x):xs.set i x=xs:=by
 obtain⟨hi,e⟩:=lU.mp h;rw[<-e,List.set_getElem_self]
inductive vZ  (K:W.Frag) (CW CM CS:Addr) (vs:List V) (H:Hp) (Q:VK) (E:XK):Prop
 |mk:∀(s:Addr) (W:WS),(vs=[.ref s])->nO H s W->W.Good->(∀w H',kB CW CM CS H' w W->aO H H'->H w=none->Q (.ref w) H')->vZ K CW CM CS vs H Q E
theorem aD2(tx:Txt K mg a):bT P w K mg base eY 8 a.yP a.yQ ana (vZ K a.dU a.bA a.cN):=by
 have aFQ:=aDW (P:=P) (w:=w) (base:=base) tx;have aFR:=aD0 (P:=P) (w:=w) (base:=base) tx;have aDg:=aBH (P:=P) (w:=w) (base:=base) tx;refine tx.jq.F.ok j9 (by walk_at "l") λbj A outer s H vs Q E hr h=>?_;obtain⟨s,W,rfl ,hW,hg,k⟩:=h;have hu:=gM hr;refine aZ (aE (fF (k:=1) (idx:=[]) (N:=["_law_one"]) (i:=1) j9.nd rfl (Or.inl rfl) (dJ (sc:=aL lJ) (NX:=bca) rfl rfl rfl (by decide +kernel)) rfl (bH (K':=K) (aH (K':=K) (aA 0) aC)) (λ_ _ _ _=>(aJ (i:=0) (show(["_law_one"]:ak).Nodup by decide +kernel))) (dI (by decide)) (λ_ _ _ _=>bU) (λ_ _ _ _=>(bg aDg hr tx.ia (aB (aA 0) aD))))
  (aE (bD (eN (iN (aU rP (aP (rc:=uR K) dY (by rfl) tx.mR jO (aB (aA 1) aD)) aC (bJ _)) (gE (aU (r:=kT K) (eB hu) (aH (K':=K) (aH (K':=K) (aA 0) aC) aC) (aH (K':=K) (aH (K':=K) (aA 0) aC) (kH rO aC)) (bJ _))))) (aF (jS (aH (K':=K) (aA 1) aC) (oK (aA 1) (kH rO aC) set_list))) aY)
  (aE (aK (i:=2) j9.nd (aH (K':=K) (aA 0) aC))
  (aE (bD (aU uG (aA 2) c8 (bJ _)) (aF (aK (i:=2) j9.nd (kI tx.aOg (aFQ) (hr.mono (by decide)) (by rfl) tx.YY tx.ka.b .nil aW (aB (aH (K':=K) (aA 2) aC) (aB (aH (K':=K) (aA 2) aC) (aB (aH (K':=K) (aA 2) aC) (aB (aH (K':=K) (aA 2) aC) (aB (aH (K':=K) (aA 2) aC) aD)))))))) aY)
  (aF (aM (kI tx.aOi (aFR) (hr.mono (by decide)) (by rfl) tx.aOh tx.jz.b .nil aW (aB (aA 1) (aB (aA 2) (aB (aH (K':=K) (aA 0) aC) aD)))))))))) ?_
 have hlen:=hg.len;obtain⟨ls,st,b,hs,je,eg,hb⟩:=hW.ex;obtain⟨qs,hl,rl⟩:=je.ex;have Et:=rl.len;refine aV (σ:=[some (.ref s),none,none]) rfl ?_;refine fW (λσ' H'=>∃lm qm,σ'=[some (.ref s),some (.ref lm),none]/\H' lm=some (.lst (qm.map V.ref))/\RL (cT a.bA (del lm H')) qm W.specs/\aO H H'/\H lm=none) (λN hN=>?_) ?_
 ·walk_at "w";refine eM (bR.of hl) ?_;refine fR (xs:=qs.map V.ref) (λi us H'=>aO H H'/\∃as,us=as.map V.ref/\as.length=i/\RL (cT a.bA H') as (W.specs.take i)) ⟨aO.refl _,[],rfl,rfl,RL.nil⟩ (cB (by rw[bX];lia))
   (λi us H' hi ⟨s1,as,e1,e2,e3⟩=>⟨bR.of (s1 _ _ hl),by rw[e1,bX];lia⟩) (λi x us H' hx Sb=>?_) (λus H' Sa=>?_)
  ·obtain⟨s1,as,e1,e2,e3⟩:=Sb;obtain⟨q,m,_,rfl,hm,hq⟩:=rl.get hx;walk_at "w";refine⟨q,m,rfl,hq.tr s1.tr,hg.specs m (kP hm),λy H5 hM s5 ny=>?_⟩;refine⟨s1.trans s5,as ++ [y],by rw[e1,iK];rfl,by rw[lB,e2];rfl,?_⟩;rw[take_snoc hm];exact(e3.imp λa x z=>z.same s5).snoc hM
  ·obtain⟨s1,as,e1,e2,e3⟩:=Sa;subst e1;intro lm FV;obtain⟨H2,Ba,s2,g2⟩:=nw _ FV;rw[Ba];walk_at "w";rw[bX,Et,uC] at e3;exact hN _ _ ⟨lm,as,rfl,g2,e3.imp λa x z=>z.same (P8 FV s2),s1.trans s2,s1.free FV⟩
 rintro σ1 H1 ⟨lm,qm,rfl,C8,FO,s1,FV⟩;have U6:=FO.len;refine fW (λσ' H'=>σ'=[some (.ref s),some (.ref lm),none]/\nM a.bA H' lm W.specs/\aO H H') (λN hN=>?_) ?_
 ·walk_at "w";refine cA (λh2=>?_) (λh2=>?_)
  ·rw[bX] at h2;have B0:qs≠[]:=λz=>by rw[z] at Et;simp at Et;lia
   have hqm:qm≠[]:=λz=>by rw[z] at h2;simp at h2
   obtain⟨q0,ql,f1,f2,f3,f4⟩:=ends B0;obtain⟨a0,al,g1,g2,g3,g4⟩:=ends hqm;have hn:0 < W.specs.length:=by lia
   have m0:W.specs[0]?=some W.specs[0]:=eS hn;have mln:W.specs.length - 1 < W.specs.length:=by lia
   have ml:W.specs[W.specs.length - 1]?=some W.specs[W.specs.length - 1]:=eS mln;have p0:=(rl.at_ 0 q0 _ f1 m0).tr s1.tr;have pl:=(rl.at_ (qs.length - 1) ql _ f2 (by rw[Et];exact ml)).tr s1.tr;have Nb:=s1 _ _ hs;have JF:=s1 _ _ hl;generalize W.specs[0]=mA at m0 p0;generalize W.specs[W.specs.length - 1]=mB at ml pl;obtain⟨bb,Au,ebb⟩:=aMA (K:=K) p0 pl;walk_at "w";refine⟨bb,Au,?_⟩;walk_at "w";refine iE (λh3=>?_) (λh3=>?_)
   ·have em:=ebb h3;subst em;walk_at "w";refine uE (j:=qm.length - 1) C8 (by rw[bX,show qm.length=(qm.length - 1)+1 by lia];exact P7 _) ?_;obtain⟨J,i,kj,j⟩:=wr H1 lm _;rw[i];have dl:del lm J=del lm H1:=by rw[<-i,zR]
    have Bz:=FO.set (i:=qm.length - 1) (FO.at_ 0 a0 mA g1 m0);rw[U6,set_same ml] at Bz;walk_at "w";refine hN _ _ ⟨rfl,⟨qm.set (W.specs.length - 1) a0,by rw[j,List.map_set,U6],Bz.imp λa x z=>((dl▸z:cT _ (del lm J) a x)).same jJ⟩,λb o e=>kj _ _ (s1 _ _ e) (bB FV e)⟩
   ·walk_at "w";exact hN _ _ ⟨rfl,⟨qm,C8,FO.imp λa x z=>z.same jJ⟩,s1⟩
  ·walk_at "w";exact hN _ _ ⟨rfl,⟨qm,C8,FO.imp λa x z=>z.same jJ⟩,s1⟩
 rintro σ2 H2 ⟨rfl,VV,s2⟩;have dv:=s2 _ _ hs;refine Yt ?_;repeat walk_at "st"
 refine fW (λσ' H'=>∃so,σ'=[some (.ref s),some (.ref lm),some so]/\EU a.cN H' so W.store/\nM a.bA H' lm W.specs/\aO H H') (λN hN=>?_) ?_
 ·cases e:W.store with
  |none=>
   rw[e] at eg
   replace eg:st=.bt:=eg
   subst eg;walk_at "w";exact hN _ _ ⟨_,rfl,(by rw[e];rfl),VV,s2⟩
  |some ss=>
   rw[e] at eg;obtain⟨c,rfl,hc⟩:=eg;have gs:=hg.store ss e;have VM:=(hc.tr s2.tr).at_;walk_at "w";intro x dx nx nd hd;obtain⟨J,i,sj,j⟩:=Jf (C:=a.cN) nx nd hd;rw[i];refine⟨x,dx,ss,rfl,j,gs,λH3 hS kx=>⟨rfl,?_⟩⟩;walk_at "w";exact hN _ _ ⟨_,rfl,(by rw[e];exact⟨x,rfl,hS⟩),VV.tr (sj.tr.trans (Ye j kx)),λb o e=>kx _ _ (sj _ _ (s2 _ _ e)) (bB (s2.free nx) e)⟩
 rintro σ3 H3 ⟨so,rfl,hso,hM3,s3⟩;have Ew:=s3 _ _ hs;walk_at "w";intro x dx nx nd hd;obtain⟨J,i,sj,j⟩:=Jf (C:=a.dU) nx nd hd;rw[i];refine⟨x,dx,lm,so,W,rfl,j,hM3.tr sj.tr,hso.tr sj.tr,hlen,hg.bh,λH4 hWk kx=>⟨rfl,?_⟩⟩;exact k x H4 hWk (λb o e=>kx _ _ (sj _ _ (s3 _ _ e)) (bB (s3.free nx) e)) (s3.free nx)
theorem Le{H:Hp}{qs:au}{ss:aw}(h:RL (LP H) qs ss){H':Hp}(s:Tk H H'):RL (LP H') qs ss:=h.imp λa x z=>s _ _ z
inductive oZ  (K:W.Frag) (vs:List V) (H:Hp) (Q:VK) (E:XK):Prop
 |mk:∀(p s:Addr) (W:WS),(vs=[.ref p,.ref s])->bE H p->nO H s W->W.Good->(∀(r:Addr) (P:Ps) H',zS H' r P->E5 W P->(∀(j:Nat) m s,W.specs[j]?=some m->P.1[j]?=some s->we m s)->bE H' p->bL p H H'->Q (.ref r) H')->oZ K vs H Q E
theorem aAG(tx:Txt K mg a):bT P w K mg base eY 3 a.qM a.qN kf (oZ K):=by
 have aS:=cZ (P:=P) (w:=w) (base:=base) tx;have aFS:=aDU (P:=P) (w:=w) (base:=base) tx;refine tx.cu.F.ok oN (by walk_at "l") λbj A outer s H vs Q E hr h=>?_;obtain⟨p,s,W,rfl ,hh,hW,hg,k⟩:=h;have hu:=gM hr;refine aZ (aE (aK (i:=2) oN.nd (cG (rc:=PH K) aJ1 (by rfl) tx.Li Zw (aB (cR (k:=1) (idx:=[0]) (N:=["_law_one","_law_hand"]) (dJ (sc:=aL iG) (NX:=bpa) rfl rfl rfl (by decide +kernel)) rfl (bH (K':=K) (aH (K':=K) (aA 1) aC)) (λ_ _ _ _=>(aJ (i:=0) (show(["_law_one","_law_hand"]:ak).Nodup by decide +kernel))) (dI (by decide)) (λ_ _ _ _=>bU) (λ_ _ _ _=>(bg aFS hr tx.jt (aB (aA 1) (aB (aA 0) aD))))) aD)))
  (aE (bD (aU wQ (aH (K':=K) (aA 1) aC) c8 (bJ _)) (aF (aM (gR (aA 2) aC))) aY)
  (aF (aM (gR (aA 2) (bg aS hr tx.af (aB (aA 0) (aB (aI bC (aH (K':=K) (aH (K':=K) (aA 1) aC) aC) aC) aD)))))))) ?_
 have hlen:=hg.len;obtain⟨ls,st,b,hs,je,eg,hb⟩:=hW.ex;obtain⟨qs,hl,rl⟩:=je.ex;have Et:=rl.len;have sp:s≠p:=hh.AJ hs (by simp);have lp:ls≠p:=hh.OL hl;refine aV (σ:=[some (.ref p),some (.ref s),none]) rfl ?_;walk_at "w";refine eM (bR.of hl) ?_;refine fR (xs:=qs.map V.ref) (λi us H'=>bE H' p/\bL p H H'/\∃ts ss,us=ts.map V.ref/\ts.length=i/\RL (LP H') ts ss/\(∀s∈ss,VS s)/\∀(j:Nat) m s,W.specs[j]?=some m->ss[j]?=some s->we m s) ⟨hh,λ_ _ e _=>e,[],[],rfl,rfl,RL.nil,(λs h=>by cases h),λj m s _ h=>by simp at h⟩ (cB (by rw[bX];lia))
  (λi us H' hi ⟨h1,k1,ts,ss,e1,e2,e3,e4,e5⟩=>⟨bR.of (k1 _ _ hl lp),by rw[e1,bX];lia⟩) (λi x us H' hx R9=>?_) (λus H' R8=>?_)
 ·obtain⟨h1,k1,ts,ss,e1,e2,e3,e4,e5⟩:=R9;obtain⟨q,m,_,rfl,hm,hq⟩:=rl.get hx;have gm:=hg.specs m (kP hm);walk_at "w";refine⟨p,q,m,rfl,h1,hq.tr (hh.tr k1),gm,λt o d H2 ht Vy h2 k2=>?_⟩;refine⟨h2,k1.trans k2,ts ++ [t],ss ++ [(o,d)],by rw[e1,iK];rfl,by rw[lB,e2];rfl,(Le e3 (h1.tr k2).tk).snoc ht,λs hs=>?_,λj m' s' hj hs=>?_⟩
  rotate_left
  ·by_cases pj:j < ss.length
   ·rw[uh pj] at hs;exact e5 j m' s' hj hs
   ·have Gf:j < (ss ++ [(o,d)]).length:=(lU.mp hs).1;rw[lB,DM] at Gf;have ej:j=i:=by have:=e3.len;lia
    rw[vg (by lia),show j - ss.length=0 by lia] at hs;cases hs;rw[ej,hm] at hj;cases hj;exact Vy
  rcases oh.mp hs with h|h
  ·exact e4 s h
  ·rw[rC.mp h];rcases Vy with ⟨z1,z2,_⟩|⟨z1,z2,_⟩
   ·exact⟨.inr z1,z2⟩
   ·exact⟨.inl z1,z2⟩
 ·obtain⟨h1,k1,ts,ss,e1,e2,e3,e4,e5⟩:=R8;subst e1;rw[bX] at e2;intro l1 n1;obtain⟨H2,i2,s2,g2⟩:=nw _ n1;rw[i2];walk_at "w";refine aN2 (bR.of g2) ?_;intro T nT;obtain⟨H3,i3,s3,g3⟩:=nw _ nT;rw[i3];have BU:=s2.trans s3;have Ew:=BU _ _ (k1 _ _ hs sp);have Xj:=Le e3 BU.tk;have U5:ss.length=W.specs.length:=by rw[<-e3.len,e2,Et]
  have fin:∀(Ap:Int),Ci W Ap->∀H4,bE H4 p->bL p H3 H4->Q (.ref T) H4\/True:=λ_ _ _ _ _=>.inr trivial;cases e:W.store with
  |none=>
   rw[e] at eg
   replace eg:st=.bt:=eg
   subst eg;walk_at "w";intro r nr;obtain⟨H4,i4,s4,g4⟩:=nw _ nr;rw[i4];walk_at "w";exact k r (ss,0) H4 ⟨T,g4,ts,s4 _ _ g3,Le Xj s4.tk⟩ ⟨U5,e4,by unfold Ci;rw[e]⟩ e5 (h1.same (BU.trans s4)) (k1.trans (BU.trans s4).keep)
  |some sv=>
   rw[e] at eg;obtain⟨c,rfl,hc⟩:=eg;have gs:=(hg.store sv e).bz;have hc3:=(hc.tr ((hh.tr k1).trans BU.tr)).at_;walk_at "w";refine⟨p,_,rfl,h1.same BU,by lia,by lia,λr5 H5 a5 b5 h5 k5 _=>?_⟩;have UC:=((h1.same BU).tr k5).tk;walk_at "w";intro r nr;obtain⟨H6,i6,s6,g6⟩:=nw _ nr;rw[i6];walk_at "w";exact k r (ss,r5) H6 ⟨T,g6,ts,s6 _ _ (UC _ _ g3),Le Xj (UC.trans s6.tk)⟩ ⟨U5,e4,by unfold Ci;rw[e];exact⟨a5,by show r5<=sv.bz;lia⟩⟩ e5 (h5.same s6) (k1.trans (BU.keep.trans (k5.trans s6.keep)))
inductive qU  (K:W.Frag) (C:Addr) (vs:List V) (H:Hp) (Q:VK) (E:XK):Prop
 |mk:∀(x:Addr) (s:SS) (l h:Int),(vs=[.ref x,.int l,.int h])->iI C H x s->s.Good->(0<=l)->(l<=8)->(0<=h)->(h<=48)->(∀q H',aO H H'->H' q=some (.lst ((mf (max (l - s.out*h) 0) (min (l+s.into*h) s.bz+1 - max (l - s.out*h) 0).toNat).map V.int))->Q (.ref q) H')->qU K C vs H Q E
theorem qV(tx:Txt K mg a):bT P w K mg base eY 1 a.sR a.sS aga (qU K a.cN):=by
 refine tx.cx.F.ok kW (by walk_at "l") λbj A outer s H vs Q E hr h=>?_;obtain⟨x,ss,l,h,rfl ,hs,hg,l0,l1,h0,h1,k⟩:=h;have hu:=gM hr;refine aZ (aE (aK (i:=3) kW.nd (aP (jP rfl) (by rfl) tx.zJ wO (aB (aI fA (aA 1) (aI bV (bK (K':=K) (aA 0) rfl) (aA 2))) (aB aC aD))))
  (aE (aK (i:=4) kW.nd (aP (dZ rfl) (by rfl) tx.jI gB (aB (aI bC (aA 1) (aI bV (bK (K':=K) (aA 0) rfl) (aA 2))) (aB (bK (K':=K) (aA 0) rfl) aD))))
  (aF (aM (cG (rc:=KI) (aCk rfl) (by rfl) tx.jX iS (aB (cG (rc:=Ki) aEA (by rfl) tx.eF Zv (aB (aA 3) (aB (aI bC (aA 4) aC) aD))) aD)))))) ?_
 obtain⟨dx,hx⟩:=hs.ex;obtain⟨c0,c1⟩:=hg.bz;obtain⟨i0,i1⟩:=hg.into;obtain⟨o0,o1⟩:=hg.out;have e1:0<=ss.out*h/\ss.out*h<=384:=⟨Int.mul_nonneg o0 h0,Bh (Int.mul_le_mul o1 h1 h0 (by lia)) (by decide)⟩
 have e2:0<=ss.into*h/\ss.into*h<=384:=⟨Int.mul_nonneg i0 h0,Bh (Int.mul_le_mul i1 h1 h0 (by lia)) (by decide)⟩
 refine aV (σ:=[some (.ref x),some (.int l),some (.int h),none,none]) rfl ?_;walk_at "w";refine dM hx tx.iH tx.aBm rfl ?_;walk_at "w";refine dM hx tx.iH tx.zH rfl ?_;walk_at "w";refine dM hx tx.iH tx.tI rfl ?_;walk_at "w";intro p np;walk_at "w";refine ZQ aN (by lia) (by lia) ?_;intro q nq;exact k q _ ((aO.new np).trans (aO.new nq)) aN
inductive tS  (K:W.Frag) (C:Addr) (vs:List V) (H:Hp) (Q:VK) (E:XK):Prop
 |mk:∀(x:Addr) (s:SS) (l:Int),(vs=[.ref x,.int l])->iI C H x s->s.Good->(0<=l)->(l<=8)->(∀q H',aO H H'->H' q=some (.lst ((mf (max (l - s.out*1) 0) (min (l+s.into*1) s.bz+1 - max (l - s.out*1) 0).toNat).map V.int))->Q (.ref q) H')->tS K C vs H Q E
theorem aDh(tx:Txt K mg a):bT P w K mg base eY 2 a.vJ a.vK a8a (tS K a.cN):=by
 have mX:=qV (P:=P) (w:=w) (base:=base) tx;refine tx.iy.F.ok aCD (by walk_at "l") λbj A outer s H vs Q E hr h=>?_;obtain⟨x,ss,l,rfl ,hs,hg,l0,l1,k⟩:=h;have hu:=gM hr;refine aZ (aF (aM (bg mX hr tx.cx (aB (aA 0) (aB (aA 1) (aB aC aD)))))) ?_;refine aV (σ:=[some (.ref x),some (.int l)]) rfl ?_;walk_at "w";exact⟨x,ss,l,1,rfl,hs,hg,l0,l1,by decide,by decide,k⟩
inductive aBv  (K:W.Frag) (C:Addr) (vs:List V) (H:Hp) (Q:VK) (E:XK):Prop
 |mk:∀(x:Addr) (s:SS) (l n:Int),(vs=[.ref x,.int l,.int n])->iI C H x s->s.Good->(Q (.int (dr s l n)) H)->aBv K C vs H Q E
theorem aHl(tx:Txt K mg a):bT P w K mg base eY 1 a.aCR a.aCS a1a (aBv K a.cN):=by
 refine tx.nt.F.ok aA5 (by walk_at "l") λbj A outer s H vs Q E hr h=>?_;obtain⟨x,ss,l,n,rfl ,hs,hg,k⟩:=h;have hu:=gM hr;refine aZ (aE (aK (i:=3) aA5.nd (aAU (aU rP (aA 2) (aA 1) (bJ _)) (bK (K':=K) (aA 0) rfl) (bK (K':=K) (aA 0) rfl)))
  (aF (aM (aI bV (aA 3) (aI fA (aA 2) (aA 1)))))) ?_
 obtain⟨dx,hx⟩:=hs.ex;obtain⟨t0,t1⟩:=hg.takes;obtain⟨g0,g1⟩:=hg.gives;refine aV (σ:=[some (.ref x),some (.int l),some (.int n),none]) rfl ?_;walk_at "w";unfold dr at k;refine cA (λh=>?_) (λh=>?_)
 ·rw[cO h] at k;walk_at "w";refine dM hx tx.iH tx.vO rfl ?_;walk_at "w";exact k
 ·rw[bZ h] at k;walk_at "w";refine dM hx tx.iH tx.vP rfl ?_;walk_at "w";exact k
def κI:PK Int:=.ik (λn=>.inl n) λx y h=>Sum.inl.inj h
def upTo(s:SS)(l:Int)(h:Int):ae:=mf (max (l - s.out*h) 0) (min (l+s.into*h) s.bz+1 - max (l - s.out*h) 0).toNat
def MD(s:SS)(p x:Int):List (Wy Int):=(upTo s x 1).map λy=>(y,y,p*dr s x y)
def Wl(s:SS)(ps:ae)(i:Nat)(x:Int):List (Wy Int):=MD s (ps.getD i 0) x
def wo(s:SS)(l:Int)(n:Nat):cj:=(List.range (n+1)).map λ(i:Nat)=>upTo s l (i:Int)
theorem mem_upTo{s:SS}{l h n:Int}:n∈upTo s l h↔max (l - s.out*h) 0<=n/\n<=min (l+s.into*h) s.bz:=by
 unfold upTo;rw[PY];lia
theorem Ys(lo:Int):∀k:Nat,(mf lo k).Pairwise (·< ·):=by
 intro k;unfold mf;rw[Ct];exact List.pairwise_lt_range.imp λh=>by lia
theorem aKv(s:SS)(l h:Int):(upTo s l h).Pairwise (·< ·):=Ys _ _
theorem tT{s:SS}(g:s.Good)(l h:Int):(upTo s l h).length<=9:=by
 unfold upTo;rw[aOk];have:=g.bz.2;lia
theorem lQ{s:SS}{l:Int}{n i:Nat}{ps:ae}(h:(wo s l n)[i]?=some ps):ps=upTo s l (i:Int)/\i<=n:=by
 unfold wo at h;rw[kQ] at h;obtain⟨j,hj,rfl⟩:=kl.mp h;have hi:i < n+1:=by
  have:=(lU.mp hj).1
  rwa[Lw] at this
 rw[LD hi] at hj;cases hj;exact⟨rfl,by lia⟩
theorem PV(s:SS)(l:Int)(n:Nat):(wo s l n).length=n+1:=by unfold wo;rw[bX,Lw]
theorem Pr{s:SS}{l:Int}{n i:Nat}(h:i<=n):(wo s l n)[i]?=some (upTo s l (i:Int)):=by
 unfold wo;rw[kQ,LD (by lia)];rfl
theorem PU{s:SS}{l h n:Int}(hn:n∈upTo s l h):0<=n/\n<=s.bz:=by
 have:=mem_upTo.mp hn;lia
theorem aE2{s:SS}(g:s.Good){x:Int}(h0:0<=x)(h1:x<=s.bz):x∈upTo s x 1:=by
 have:=g.out.1;have:=g.into.1;rw[mem_upTo];lia
theorem YR{s:SS}(g:s.Good){l x n:Int}{i:Nat}(hx:x∈upTo s l (i:Int))(hn:n∈upTo s x 1):n∈upTo s l ((i+1:Nat):Int):=by
 have a:=mem_upTo.mp hx;have b:=mem_upTo.mp hn;rw[mem_upTo];have e1:s.out*((i+1:Nat):Int)=s.out*(i:Int)+s.out:=by push_cast;rw[Int.mul_add,Co]
 have e2:s.into*((i+1:Nat):Int)=s.into*(i:Int)+s.into:=by push_cast;rw[Int.mul_add,Co]
 rw[e1,e2];rw[Co,Co] at b;lia
theorem aQF{s:SS}{l:Int}(h0:0<=l)(h1:l<=s.bz):upTo s l 0=[l]:=by
 unfold upTo;rw[Bg,Bg,show max (l - 0) 0=l by lia,show(min (l+0) s.bz+1 - l).toNat=1 by lia];unfold mf;simp
theorem aQG{s:SS}(g:s.Good){l:Int}(ps:ae)(h0:0<=l)(h1:l<=s.bz):Ko (Wl s ps) (wo s l ps.length):=by
 refine⟨by rw[PV];lia,λqs hq=>?_,λqs hq=>?_,λi qs x e hi hx=>?_,λi qs rs x w e1 e2 hx hw=>?_⟩
 ·obtain⟨i,ei⟩:=ve hq;rw[(lQ ei).1];exact(aKv _ _ _).imp λh=>Int.ne_of_lt h
 ·obtain⟨i,ei⟩:=ve hq;rw[(lQ ei).1];exact kr (tT g _ _) (by decide)
 ·rw[(lQ e).1] at hx;obtain⟨x0,x1⟩:=PU hx;unfold Wl MD;refine⟨λz=>?_,?_⟩
  ·have:=aE2 g x0 x1;rw[DK.mp z] at this;cases this
  ·rw[bX];exact kr (tT g _ _) (by decide)
 ·rw[(lQ e1).1] at hx;rw[(lQ e2).1];obtain⟨y,hy,rfl⟩:=fZ.mp hw;exact YR g hx hy
def U4(s:SS)(ps:ae)(l:Int):Int:=wF (Wl s ps) ps.length 0 l
theorem aQH{t:TE}{σ σ':St}{H:Hp}{Q:VK}(e:σ'=σ)(h:t σ H Q):t σ' H Q:=e▸h
theorem intAt{ns:ae}{i:Nat}{x:V}(h:(ns.map V.int)[i]?=some x):∃n,ns[i]?=some n/\x=.int n:=by
 rw[kQ] at h;obtain⟨n,e,rfl⟩:=kl.mp h;exact⟨n,e,rfl⟩
theorem aMC{H:Hp}(ns:ae):yb κI H (ns.map V.int) ns:=by
 refine⟨by rw[bX],λi v x h1 h2=>?_⟩;obtain⟨n,e,rfl⟩:=intAt h1;rw[e] at h2;cases h2;rfl
theorem P6(xs:List V)(m:Nat):kE xs none (some (m:Int))=xs.take m:=by
 unfold kE;rw[HT.xN,HT.K0,List.drop_zero,Nat.sub_zero];by_cases h:m<=xs.length
 ·rw[Ll h]
 ·rw[Nat.min_eq_right (by lia),uC,LI (by lia)]
theorem Zp(xs:List V)(m:Nat):kE xs (some (m:Int)) none=xs.drop m:=by
 unfold kE;rw[HT.K0,HT.xN];by_cases h:m<=xs.length
 ·rw[Ll h];exact LI (by rw[G7];exact dQ _)
 ·rw[Nat.min_eq_right (by lia),Ln,List.drop_of_length_le (by lia)];simp
theorem RL.app{α:Type}{P:Addr->α->Prop}{xs ys:List α}(h:RL P as xs)(h':RL P bs ys):RL P (as++bs) (xs++ys):=by
 refine⟨by rw[lB,lB,h.len,h'.len],λj q u hq hu=>?_⟩;by_cases hj:j < as.length
 ·rw[uh hj] at hq;rw[uh (by rw[<-h.len];exact hj)] at hu;exact h.at_ j q u hq hu
 ·rw[vg (by lia)] at hq;rw[vg (by rw[<-h.len];lia),<-h.len] at hu;exact h'.at_ _ q u hq hu
theorem RL.one{α:Type}{P:Addr->α->Prop}{x:α}(h:P a x):RL P [a] [x]:=⟨rfl,λj q u hq hu=>by
 match j,hq,hu with
 |0,hq,hu=>cases hq;cases hu;exact h
 |_+1,hq,_=>simp at hq⟩
theorem aMD(ps:List WP):(enc ps).map (·.1)=(ps.map λp=>[p.1.1,p.1.2]).map λt=>t.map Sum.inl:=by
 unfold enc;rw[kh,kh];rfl
theorem aD3{ps:List WP}{qs:au}{us:cj}(nd:(ps.map (·.1)).Nodup)(hT:mG H qs us)(hp:us.Perm (ps.map λp=>[p.1.1,p.1.2]))(hs:us.Pairwise λa b=>rV b a=false) :
  ∃ks:aw,ks.Pairwise AV/\(∀s,s∈ks↔s∈ps.map (·.1))/\yb κS H (qs.map V.ref) ks:=by
 have zx:∀u∈us,u=[u.getD 0 0,u.getD 1 0]:=λu hu=>by
  obtain⟨p,_,rfl⟩:=fZ.mp (hp.mem_iff.mp hu);rfl
 have pk:(us.map λu=>(u.getD 0 0,u.getD 1 0)).Perm (ps.map (·.1)):=by
  have:=hp.map λu=>(u.getD 0 0,u.getD 1 0)
  rw[kh] at this;exact this
 have ndk:=pk.nodup_iff.mpr nd;refine⟨us.map λu=>(u.getD 0 0,u.getD 1 0),?_,λs=>pk.mem_iff,?_⟩
 ·rw[Ct];have nd':us.Pairwise λa b=>(a.getD 0 0,a.getD 1 0)≠(b.getD 0 0,b.getD 1 0):=Ct.mp ndk;refine(hs.and nd').imp_of_mem ?_;intro a b ha hb ⟨h1,h2⟩;rw[zx a ha,zx b hb] at h1;generalize a.getD 0 0=a0 at h1 h2 ⊢;generalize a.getD 1 0=a1 at h1 h2 ⊢;generalize b.getD 0 0=b0 at h1 h2 ⊢;generalize b.getD 1 0=b1 at h1 h2 ⊢;unfold AV;show a0 < b0\/(a0=b0/\a1 < b1)
  by_cases e0:a0=b0
  ·subst e0;by_cases e1:a1=b1
   ·exact absurd (by rw[e1]) h2
   ·rw[fS,cO rfl,fS,bZ (λz=>e1 z.symm)] at h1;have:=of_decide_eq_false h1;lia
  ·rw[fS,bZ (λz=>e0 z.symm)] at h1;have:=of_decide_eq_false h1;lia
 ·refine⟨by rw[bX,bX,hT.len],λi v x h1 h2=>?_⟩;rw[kQ] at h1 h2;obtain⟨q,e1,rfl⟩:=kl.mp h1;obtain⟨u,e2,rfl⟩:=kl.mp h2;have:=(hT.at_ i q u e1 e2).1;rw[zx u (kP e2)] at this;exact⟨q,rfl,this⟩
inductive nP  (K:W.Frag) (C:Addr) (vs:List V) (H:Hp) (Q:VK) (E:XK):Prop
 |mk:∀(q:Addr) (m:MS) (t:Addr) (a:ar) (n:Nat),(vs=[.ref q,.ref t,.int (n:Int)])->cT C H q m->m.Good->(H t=some (.tup [.int a.1,.int a.2]))->we m a->(n<=1000)->(∀la Ls H',aO H H'->H la=none->Fc κS H' la Ls->Gz m a Ls->Ls.length=n+1->Q (.ref la) H')->nP K C vs H Q E
theorem zX(tx:Txt K mg a):bT P w K mg base eY 4 a.oR a.oS gr (nP K a.bA):=by
 have aD4:=aDb (P:=P) (w:=w) (base:=base) tx;refine tx.dy.F.ok eR (by walk_at "l") λbj A outer s H vs Q E hr h=>?_;obtain⟨q,m,t,st,n,rfl ,hm,hg,ht,eg,hn,k⟩:=h;have hu:=gM hr;refine aZ (aE (aK (i:=3) eR.nd (aA1 hu (aA 1) aC))
  (aE (aK (i:=4) eR.nd (iF (iF (aA 1))))
  (aE (bI PassesOwn.never rfl (cL (by rfl) tx.eF (aB (aA 2) aD)) (aJ (i:=5) eR.nd) (aE (aK (i:=3) eR.nd (bg aD4 hr tx.iw (aB (aA 0) (aB (aA 3) aD))))
  (aF (dE (eC (K':=K) (aA 4) (aB (aP (rc:=Pj) (aFs rfl) (by rfl) tx.Qi aJR (aB (aA 3) aD)) aD))))))
  (aF (aM (aA 4)))))) ?_
 refine aV (σ:=[some (.ref q),some (.ref t),some (.int (n:Int)),none,none,none]) rfl ?_;walk_at "w";intro w yi;obtain⟨H1,i1,s1,g1⟩:=nw _ yi;rw[i1];have M7:=s1 _ _ ht;walk_at "w";refine⟨t,lP st,rfl,M7,g1,?_⟩;obtain⟨H2,i2,k2,g2⟩:=wr H1 w _;rw[i2];have S2:aO H H2:=λb o e=>k2 _ _ (s1 _ _ e) (bB yi e);walk_at "w";intro l0 nl0;obtain⟨H3,i3,s3,g3⟩:=nw _ nl0;rw[i3];walk_at "w";intro la Er;obtain⟨H4,i4,s4,g4⟩:=nw _ Er;rw[i4];have S4:aO H H4:=S2.trans (s3.trans s4);have Hv:H la=none:=(S2.trans s3).free Er;have Gq:=(s3.trans s4) _ _ g2;have Dm:=s4 _ _ g3;have ht4:=S4 _ _ ht;have wla:w≠la:=λz=>by rw[z,g4] at Gq;cases Gq
 walk_at "w";refine⟨by lia,by lia,?_⟩;refine lZ (λi σ' H'=>∃(w:Addr) (ps:List WP) (as:au) (Ls:List (aw)) (z5:Option V),σ'=[some (.ref q),some (.ref t),some (.int (n:Int)),some (.ref w),some (.ref la),z5]/\H w=none/\H' w=some (.dT (enc ps))/\AH ps/\(∀s,s∈ps.map (·.1)↔Rc m st i s)/\aO H H'/\H' la=some (.lst (as.map V.ref))/\RL (λb ps=>∃us,H' b=some (.lst us)/\yb κS H' us ps/\b≠la) as Ls/\Gz m st Ls/\Ls.length=i+1)
  ⟨w,[(st,1)],[l0],[[st]],_,rfl,yi,Gq,⟨by simp,λp hp=>by rw[rC.mp hp];exact eg.UE hg⟩,?_,S4,g4,RL.one ⟨_,Dm,⟨rfl,λi v x h1 h2=>?_⟩,λz=>?_⟩,⟨λi ps hi=>?_⟩,rfl⟩ (λi σ' H' hi R7=>?_) (λσ' H' R6=>?_)
 ·intro s;show s∈[st]↔s=st;simp
 ·match i,h1,h2 with
  |0,h1,h2=>cases h1;cases h2;exact⟨t,rfl,ht4⟩
  |_+1,h1,_=>simp at h1
 ·rw[z,Er] at g3;cases g3
 ·match i,hi with
  |0,hi=>cases hi;exact⟨by simp,λs=>by show s∈[st]↔s=st;simp⟩
  |_+1,hi=>simp at hi
 ·obtain⟨w',ps,as,Ls,z5,e,U0,gw,hW,hk,S',Gn,IY,hL,lL⟩:=R7;subst e;walk_at "w";refine⟨q,m,w',ps,rfl,hm.same S',hg,gw,hW,λw2 Mu H5 s5 nw2 Dg NJ hk2=>?_⟩;have S5:aO H H5:=λb o e=>s5 _ _ (dR (S' _ _ e) (bB U0 e));have wz:H5 la=some (.lst (as.map V.ref)):=s5 _ _ (dR Gn λz=>by rw[z,gw] at Gn;cases Gn);have Nn:∀s,s∈Mu.map (·.1)↔Rc m st (i+1) s:=λs=>by
   rw[hk2 s];exact⟨λ⟨p,h1,h2⟩=>⟨p,(hk p).mp h1,h2⟩,λ⟨p,h1,h2⟩=>⟨p,(hk p).mpr h1,h2⟩⟩
  have rL:=Rc.rL hg eg NJ.nd λk hk=>(Nn k).mp hk;rw[bX] at rL;have si:=IY.len;walk_at "w";refine iV (bR.of wz) ?_;walk_at "w";refine aMc Dg (aMD Mu) (λt ht=>by obtain⟨p,_,rfl⟩:=fZ.mp ht;simp) (by rw[bX];lia) λp qs us np hT hp hs=>?_;obtain⟨ks,k1,k2',k3⟩:=aD3 NJ.nd hT hp hs;obtain⟨H6,i6,s6,g6⟩:=nw _ np;rw[i6];have Ht:p≠la:=λz=>by rw[z,wz] at np;cases np
  walk_at "w";refine mC (xs:=as.map V.ref) (s6 _ _ wz) (qI (by rw[bX];lia:(as.map V.ref).length < 20000) (cB (by decide))) ?_;obtain⟨H7,i7,k7,g7⟩:=wr H6 la _;rw[i7];have SJ:w2≠la:=λz=>by rw[z,wz] at Dg;cases Dg
  walk_at "w";have hR:RL (λb ps=>∃us,H7 b=some (.lst us)/\yb κS H7 us ps/\b≠la) (as ++ [p]) (Ls ++ [ks]):=by
   refine RL.snoc (IY.imp λb ps zq=>?_) ⟨_,k7 _ _ g6 Ht,⟨k3.1,λi v x h1 h2=>PK.Lg (κS.gX (k3.2 i v x h1 h2) s6) (s6 _ _ wz) k7⟩,Ht⟩;obtain⟨us,a1,a2,a3⟩:=zq;have a1':H5 b=some (.lst us):=s5 _ _ (dR a1 λz=>by rw[z,gw] at a1;cases a1);refine⟨us,k7 _ _ (s6 _ _ a1') a3,⟨a2.1,λi v x h1 h2=>?_⟩,a3⟩;obtain⟨b',e',Aw⟩:=a2.2 i v x h1 h2;exact PK.Lg (κS.gX (H:=H5) ⟨b',e',s5 _ _ (dR Aw λz=>by rw[z,gw] at Aw;cases Aw)⟩ s6) (s6 _ _ wz) k7
  have hLL:Gz m st (Ls ++ [ks]):=by
   refine⟨λj rs hj=>?_⟩;by_cases pj:j < Ls.length
   ·rw[uh pj] at hj;exact hL.at_ j rs hj
   ·have Gf:j < (Ls ++ [ks]).length:=(lU.mp hj).1;rw[lB,DM] at Gf;obtain rfl:j=Ls.length:=by lia
    rw[vg (dQ _),Dz] at hj;cases hj;refine⟨k1,λs=>?_⟩;rw[k2' s,Nn s,lL]
  exact⟨w2,Mu,as ++ [p],Ls ++ [ks],_,rfl,S'.free nw2,k7 _ _ (s6 _ _ Dg) SJ,NJ,Nn,λb o e=>k7 _ _ (s6 _ _ (S5 _ _ e)) (bB Hv e),by rw[g7,iK];rfl,hR,hLL,by rw[lB,lL];rfl⟩
 ·obtain⟨w',ps,as,Ls,z5,e,U0,gw,hW,hk,S',Gn,IY,hL,lL⟩:=R6;subst e;walk_at "w";exact k la Ls H' S' Hv ⟨as,Gn,IY.imp λb ps ⟨us,a1,a2,_⟩=>⟨us,a1,a2⟩⟩ hL (by lia)
inductive v8  (K:W.Frag) (C:Addr) (vs:List V) (H:Hp) (Q:VK) (E:XK):Prop
 |mk:∀(q:Addr) (m:MS) (t:Addr) (a:ar),(vs=[.ref q,.ref t])->cT C H q m->m.Good->(H t=some (.tup [.int a.1,.int a.2]))->Bj a.1 a.2->(∀l H',aO H H'->gZ κS H' l ((([0,1]:ae).filter (uV a)).map λon=>(on,lE m a.1 a.2 on,zW m a on))->Q (.ref l) H')->v8 K C vs H Q E
theorem aD5(tx:Txt K mg a):bT P w K mg base eY 7 a.yR a.yS aja (v8 K a.bA):=by
 have mU:=uJ (P:=P) (w:=w) (base:=base) tx;have aIC:=aHe (P:=P) (w:=w) (base:=base) tx;have hX:=mT (P:=P) (w:=w) (base:=base) tx;refine tx.ji.F.ok aDO (by walk_at "l") λbj A outer s H vs Q E hr h=>?_;obtain⟨q,m,t,st,rfl ,hm,hg,ht,eg,k⟩:=h;have hu:=gM hr;refine aZ (aF (aM (cR (k:=1) (idx:=[0,1]) (N:=["on","machine","state"]) (dJ (sc:=aL lK) (NX:=aja) rfl rfl rfl (by decide +kernel)) rfl (aCn (K':=K) (gR aC aC)) (λ_ _ _ _=>(aJ (i:=0) (show(["on","machine","state"]:ak).Nodup by decide +kernel))) (dI (by decide)) (λ_ _ _ _=>(aHV (eA (bg mU hr tx.ft (aB (aA 1) (aB (aA 2) (aB (aA 0) aD))))))) (λ_ _ _ _=>(xT (aA 0) (bg hX hr tx.ck (aB (aA 1) (aB (aA 2) (aB (aA 0) aD)))) (bg aIC hr tx.ng (aB (aA 1) (aB (aA 2) (aB (iF (aA 0)) aD))))))))) ?_;refine aV (σ:=[some (.ref q),some (.ref t)]) rfl ?_;walk_at "w";intro Tu MB;obtain⟨H1,i1,s1,Dl⟩:=nw _ MB;rw[i1];refine X0 (iC.of Dl) ?_;refine aLh (xs:=([0,1]:ae).map V.int) (λj us H'=>aO H1 H'/\∃as:au,us=as.map V.ref/\as.length<=j/\RL (oY κS H') as (((([0,1]:ae).take j).filter (uV st)).map λon=>(on,lE m st.1 st.2 on,zW m st on))) ⟨aO.refl _,[],rfl,dQ _,RL.nil⟩ (cB (by simp))
  (λj us H' hj ⟨s',as,e,la,r⟩=>⟨iC.of (s' _ _ Dl),by rw[e,bX];exact la⟩) (λj v us H' hv R5=>?_) (λus H' R4=>?_)
 ·obtain⟨s',as,e,la,r⟩:=R5;obtain⟨on,vz,rfl⟩:=iJ hv;have yw:mq on:=by
   have:=kP vz;simp at this;exact this
  have tk:([0,1]:ae).take (j+1)=([0,1]:ae).take j ++ [on]:=by rw[Cu,vz];rfl
  have S':=s1.trans s';have F8:=S' _ _ ht;walk_at "w";refine⟨_,t,_,_,on,rfl,F8,?_⟩;by_cases dk:st.1=on\/st.2=0
  ·have A1:uV st on=true:=hZ.mpr dk;rw[show(decide (st.1=on) || decide (st.2=0))=true from A1];walk_at "w";refine⟨q,m,t,_,_,on,rfl,hm.same S',F8,dk,λT2 H3 s3 Jl NW=>?_⟩;walk_at "w";intro lo FU;obtain⟨H4,i4,s4,g4⟩:=nw _ FU;rw[i4];walk_at "w";refine⟨q,m,t,_,_,lo,[on],rfl,hm.same (S'.trans (s3.trans s4)),hg,(s3.trans s4) _ _ F8,g4,by simp,?_,λH5 s5=>?_⟩
   ·show(if st.1=on\/st.2=0 then _ else _)=_;rw[cO dk];rfl
   walk_at "w";intro T nT;obtain⟨H6,i6,s6,g6⟩:=nw _ nT;rw[i6];have ye:=s3.trans (s4.trans (s5.trans s6));refine⟨s'.trans ye,as ++ [T],by rw[e,iK];rfl,by rw[lB];simp;lia,?_⟩;rw[tk,List.filter_append,iK,List.filter_cons_of_pos A1];exact RL.snoc (r.imp λ_ _ z=>z.same ye) ⟨_,g6,T2,rfl,(s4.trans (s5.trans s6)) _ _ NW⟩
  ·have A1:uV st on=false:=by cases h:uV st on;rfl;exact absurd (hZ.mp h) dk
   rw[show(decide (st.1=on) || decide (st.2=0))=false from A1];walk_at "w";refine⟨s',as,e,by lia,?_⟩;rw[tk,List.filter_append,iK,List.filter_cons_of_neg (by rw[A1];simp)];simpa using r
 ·obtain⟨s',as,e,la,r⟩:=R4;intro l nl;obtain⟨H3,i3,s3,g3⟩:=nw _ nl;rw[i3];walk_at "w";exact k l H3 (s1.trans (s'.trans s3)) ⟨as,by rw[g3,e],r.imp λ_ _ z=>z.same s3⟩
inductive v9  (K:W.Frag) (vs:List V) (H:Hp) (Q:VK) (E:XK):Prop
 |mk:∀(p b:Addr) (x y M:Int),(vs=[.ref p,.ref b,.int M])->bE H p->(H b=some (.lst [.int x,.int y]))->(1<=y)->(y<=50000000000)->Am M->(∀(r:Int) H',0<=r->r<=M->bE H' p->bL p H H'->hV p H H'->Q (.int r) H')->v9 K vs H Q E
theorem aD6(tx:Txt K mg a):bT P w K mg base eY 2 a.yT a.yU ama (v9 K):=by
 have aS:=cZ (P:=P) (w:=w) (base:=base) tx;refine tx.jv.F.ok aDP (by walk_at "l") λbj A outer s H vs Q E hr h=>?_;obtain⟨p,b,x,y,M,rfl ,hh,hb,y0,y1,hM,k⟩:=h;have hu:=gM hr;refine aZ (aF (aM (aP (dZ rfl) (by rfl) tx.jI gB (aB (aP (jP rfl) (by rfl) tx.zJ wO (aB aC (aB (aI fA (aI bC (aI bV (aH (K':=K) (aA 1) aC) (bg aS hr tx.af (aB (aA 0) (aB aC aD)))) (bg aS hr tx.af (aB (aA 0) (aB aC aD)))) aC) aD))) (aB (aA 2) aD))))) ?_;obtain⟨m0,m1⟩:=hM;have bp:b≠p:=hh.AJ hb (by simp);refine aV (σ:=[some (.ref p),some (.ref b),some (.int M)]) rfl ?_;walk_at "w";refine⟨p,_,rfl,hh,by decide,by decide,λr1 H1 a1 b1 h1 k1 q1=>?_⟩;walk_at "w";refine⟨p,_,rfl,h1,by decide,by decide,λr2 H2 a2 b2 h2 k2 q2=>?_⟩;walk_at "w";exact k _ _ (by lia) (by lia) h2 (k1.trans k2) (q1.trans q2)
def F1(W:WS)(P:Ps)(qs:ae):ae:=List.zipWith (λm s=>Ek m qs s) W.specs P.1
def Ao(W:WS)(P:Ps)(qs:ae):Int:=match W.store with|none=>0|some s=>U4 s qs P.2
def BN(qs ws:ae):Int:=List.sum (List.zipWith (λp w=>p*w) qs ws)
def Ak(W:WS)(P:Ps)(ws qs:ae):Int:=BN qs ws+List.sum (F1 W P qs)+Ao W P qs
structure Kc(W:WS)(P:Ps):Prop where
 ok:E5 W P
 st:∀(j:Nat) m s,W.specs[j]?=some m->P.1[j]?=some s->we m s
theorem Qt{α β γ:Type}{f:α->β->γ}{xs:List α}{ys:List β}{i:Nat}{x:α}{y:β}(h1:xs[i]?=some x)(h2:ys[i]?=some y):List.zipWith f (xs.take (i+1)) (ys.take (i+1))=List.zipWith f (xs.take i) (ys.take i) ++ [f x y]:=by
 have e:(List.zipWith f xs ys)[i]?=some (f x y):=by rw[List.getElem?_zipWith,h1,h2]
 rw[<-List.take_zipWith,<-List.take_zipWith];exact take_snoc e
section Enm
variable{α:Type}
def GU(W:Nat->α->List (Wy α))(a:α):Nat->List (ae×α×Int)
 |0=>[([],a,0)]
 |k+1=>(GU W a k).flatMap λf=>(W k f.2.1).map λv=>(f.1 ++ [v.1],v.2.1,f.2.2+v.2.2)
def uW(W:Nat->α->List (Wy α)):Nat->α->ae->Option (α×Int)
 |_,x,[]=>some (x,0)
 |i,x,c::r=>match (W i x).find? λw=>decide (w.1=c) with
  |none=>none
  |some w=>(uW W (i+1) w.2.1 r).map λe=>(e.1,w.2.2+e.2)
theorem Pq{W:Nat->α->List (Wy α)}:∀{row:ae}{i:Nat}{x:α},Ca W i x row=(uW W i x row).map (·.2)
 |[],_,_=>rfl
 |c::r,i,x=>by
  unfold Ca uW;cases (W i x).find? λw=>decide (w.1=c) with
  |none=>rfl
  |some w=>
   show Option.map _ _=Option.map _ (Option.map _ _);rw[Pq,Option.map_map,Option.map_map];rfl
theorem o5{W:Nat->α->List (Wy α)}{c:Int}:∀{row:ae}{i:Nat}{x:α},uW W i x (row ++ [c])=(uW W i x row).bind λe=>((W (i+row.length) e.1).find? λw=>decide (w.1=c)).map λv=>(v.2.1,e.2+v.2.2)
 |[],i,x=>by
  show(match (W i x).find? λw=>decide (w.1=c) with|none=>none|some w=>(some (w.2.1,(0:Int))).map λe=>(e.1,w.2.2+e.2))=((W (i+0) x).find? λw=>decide (w.1=c)).map λv=>(v.2.1,0+v.2.2)
  rw[Nat.add_zero];cases (W i x).find? λw=>decide (w.1=c) with
  |none=>rfl
  |some w=>
   show some (w.2.1,w.2.2+0)=some (w.2.1,0+w.2.2);rw[zd,Int.zero_add]
 |d::r,i,x=>by
  show uW W i x (d::(r ++ [c]))=_;unfold uW;cases (W i x).find? λw=>decide (w.1=d) with
  |none=>rfl
  |some w=>
   show Option.map _ (uW W (i+1) w.2.1 (r ++ [c]))=(Option.map _ (uW W (i+1) w.2.1 r)).bind _;rw[o5,oi,show i+1+r.length=i+(r.length+1) by lia];cases uW W (i+1) w.2.1 r with
   |none=>rfl
   |some e=>
    show Option.map _ (Option.map _ _)=Option.map _ _;rw[Option.map_map];congr 1;funext v
    show(v.2.1,w.2.2+(e.2+v.2.2))=(v.2.1,w.2.2+e.2+v.2.2)
    rw[Int.add_assoc]
theorem Qs{W:Nat->α->List (Wy α)}(hr:∀i x,Be (W i x)){a:α}:∀{k:Nat}{f:ae×α×Int},f∈GU W a k↔f.1.length=k/\uW W 0 a f.1=some (f.2.1,f.2.2)
 |0,f=>by
  show f∈[([],a,(0:Int))]↔_;rw[rC];constructor
  ·rintro rfl;exact⟨rfl,rfl⟩
  ·rintro ⟨h1,h2⟩;obtain⟨f1,f2,f3⟩:=f;have e:f1=[]:=Hb.mp h1;subst e;cases h2;rfl
 |k+1,f=>by
  show f∈(GU W a k).flatMap _↔_;rw[Bk];constructor
  ·rintro ⟨g,hg,hf⟩;obtain⟨v,hv,rfl⟩:=fZ.mp hf;obtain⟨h1,h2⟩:=(Qs hr).mp hg;refine⟨by show(g.1 ++ [v.1]).length=k+1;rw[lB,h1];rfl,?_⟩;show uW W 0 a (g.1 ++ [v.1])=_;rw[o5,h2,h1,xx];show Option.map _ ((W k g.2.1).find? _)=_;rw[Qu (hr k g.2.1) hv];rfl
  ·rintro ⟨h1,h2⟩;obtain⟨f1,f2,f3⟩:=f;have vx:f1.length=k+1:=h1;have bw:f1≠[]:=λz=>by rw[z] at vx;cases vx
   have es:=List.dropLast_concat_getLast bw;have rj:uW W 0 a f1=some (f2,f3):=h2;rw[<-es,o5] at rj;obtain⟨e,he,hv⟩:=Option.bind_eq_some_iff.mp rj;obtain⟨v,hf,ev⟩:=kl.mp hv;have lk:f1.dropLast.length=k:=by rw[List.length_dropLast,vx];rfl
   rw[lk,xx] at hf;cases ev;have vc:v.1=f1.getLast bw:=qw (List.find?_some (p:=λw:Wy α=>decide (w.1=f1.getLast bw)) hf);refine⟨(f1.dropLast,e.1,e.2),(Qs hr).mpr ⟨lk,he⟩,fZ.mpr ⟨v,He hf,?_⟩⟩;show(f1.dropLast ++ [v.1],v.2.1,e.2+v.2.2)=(f1,v.2.1,e.2+v.2.2)
   rw[vc,es]
end Enm
section Fwd
variable{α:Type}[DecidableEq α]
def za(ps:List (α×Int))(k:α):Option Int:=(ps.find? λp=>decide (p.1=k)).map (·.2)
def yz(ps:List (α×Int))(k:α)(v:Int):List (α×Int):=if ps.any (λp=>decide (p.1=k)) then ps.map (λp=>if p.1=k then (p.1,v) else p) else ps ++ [(k,v)]
theorem o6{ps:List (α×Int)}{k:α}{v:Int}{q:α×Int}:q∈yz ps k v↔q=(k,v)\/(q∈ps/\q.1≠k):=by
 unfold yz;by_cases h:ps.any (λp=>decide (p.1=k))=true
 ·rw[cO h,fZ];constructor
  ·rintro ⟨p,hp,rfl⟩;by_cases e:p.1=k
   ·rw[cO e,e];exact .inl rfl
   ·rw[bZ e];exact .inr ⟨hp,e⟩
  ·rintro (rfl|⟨h1,h2⟩)
   ·obtain⟨p,hp,e⟩:=DF.mp h;have e':=qw e;exact⟨p,hp,by rw[cO e',e']⟩
   ·exact⟨q,h1,bZ h2⟩
 ·rw[bZ h,oh,rC];constructor
  ·rintro (h1|h1)
   ·exact .inr ⟨h1,λe=>h (DF.mpr ⟨q,h1,mi e⟩)⟩
   ·exact .inl h1
  ·rintro (h1|⟨h1,_⟩)
   ·exact .inr h1
   ·exact .inl h1
theorem aOu{ps:List (α×Int)}{k:α}{v:Int}(nd:(ps.map (·.1)).Nodup):((yz ps k v).map (·.1)).Nodup:=by
 unfold yz;by_cases h:ps.any (λp=>decide (p.1=k))=true
 ·rw[cO h,kh];have e:((λp:α×Int=>p.1) ∘ λp:α×Int=>if p.1=k then (p.1,v) else p)=λp=>p.1:=by
   funext p
   show(if p.1=k then (p.1,v) else p).1=p.1;split <;> rfl
  rw[e];exact nd
 ·rw[bZ h,iK,List.nodup_append];refine⟨nd,by simp,λa ha b hb z=>?_⟩;rw[uY,vb,rC] at hb;obtain⟨p,hp,e⟩:=fZ.mp ha;exact h (DF.mpr ⟨p,hp,mi (e.trans (z.trans hb))⟩)
theorem Zo(ps:List (α×Int))(k:α)(v:Int):(yz ps k v).length<=ps.length+1:=by
 unfold yz;split
 ·rw[bX];lia
 ·rw[lB];simp
theorem aME{ps:List (α×Int)}{k:α}{v:Int}(h:za ps k=some v):(k,v)∈ps:=by
 unfold za at h;obtain⟨p,hp,rfl⟩:=kl.mp h;have e:=qw (List.find?_some (p:=λp:α×Int=>decide (p.1=k)) hp);rw[<-e];exact He hp
theorem PR{ps:List (α×Int)}(nd:(ps.map (·.1)).Nodup){q:α×Int}(h:q∈ps):za ps q.1=some q.2:=by
 induction ps with
 |nil=>cases h
 |cons p r ih=>
  rw[uY,ug] at nd;unfold za;rw[uf];rcases lC.mp h with rfl|h
  ·rw[mi rfl];rfl
  ·have ne:p.1≠q.1:=λe=>nd.1 (by rw[e];exact fZ.mpr ⟨q,h,rfl⟩);rw[rp ne];exact ih nd.2 h
structure iA(cs qs:List (α×Int)):Prop where
 nd:(qs.map (·.1)).Nodup
 so:∀q∈qs,q∈cs
 co:∀c∈cs,∃q∈qs,q.1=c.1/\q.2<=c.2
theorem iA.nil:iA ([]:List (α×Int)) []:=⟨List.nodup_nil,(λ_ h=>by cases h),λ_ h=>by cases h⟩
theorem iA.on{cs qs:List (α×Int)}{y:α}{u:Int}(h:iA cs qs):iA (cs ++ [(y,u)]) (yz qs y (min ((za qs y).getD u) u)):=by
 refine⟨aOu h.nd,λq hq=>?_,λc hc=>?_⟩
 ·rcases o6.mp hq with rfl|⟨h1,_⟩
  ·cases e:za qs y with
   |none=>
    show(y,min u u)∈_;rw[Int.min_self];exact se _ (.head _)
   |some v=>
    show(y,min v u)∈_;by_cases hv:v<=u
    ·rw[Int.min_eq_left hv];exact Bo _ (h.so _ (aME e))
    ·rw[Int.min_eq_right (by lia)];exact se _ (.head _)
  ·exact Bo _ (h.so q h1)
 ·rcases oh.mp hc with z|z
  ·obtain⟨q,hq,e1,e2⟩:=h.co c z;by_cases e:q.1=y
   ·refine⟨_,o6.mpr (.inl rfl),by show y=c.1;rw[<-e,e1],?_⟩;have:=PR h.nd hq;rw[e] at this;show min ((za qs y).getD u) u<=c.2;rw[this];show min q.2 u<=c.2;lia
   ·exact⟨q,o6.mpr (.inr ⟨hq,e⟩),e1,e2⟩
  ·rw[rC.mp z];exact⟨_,o6.mpr (.inl rfl),rfl,by show min _ u<=u;lia⟩
def AL(W:Nat->α->List (Wy α))(i:Nat)(ps:List (α×Int)):List (α×Int):=ps.flatMap λp=>(W i p.1).map λw=>(w.2.1,p.2+w.2.2)
structure Fw(W:Nat->α->List (Wy α))(a:α)(i:Nat)(ps:List (α×Int)):Prop where
 nd:(ps.map (·.1)).Nodup
 so:∀p∈ps,∃row:ae,row.length=i/\uW W 0 a row=some p
 co:∀(row:ae) e,row.length=i->uW W 0 a row=some e->∃p∈ps,p.1=e.1/\p.2<=e.2
theorem Fw.zero(W:Nat->α->List (Wy α))(a:α):Fw W a 0 [(a,0)]:=by
 refine⟨by simp,λp hp=>⟨[],rfl,by rw[rC.mp hp];rfl⟩,λrow e hl he=>?_⟩;rw[Hb.mp hl] at he;cases he;exact⟨_,.head _,rfl,wc _⟩
theorem Fw.on{W:Nat->α->List (Wy α)}(hr:∀i x,Be (W i x)){a:α}{i:Nat}{ps qs:List (α×Int)}(h:Fw W a i ps)(hq:iA (AL W i ps) qs):Fw W a (i+1) qs:=by
 refine⟨hq.nd,λq om=>?_,λrow e hl he=>?_⟩
 ·obtain⟨p,hp,hc⟩:=Bk.mp (hq.so q om);obtain⟨w,hw,rfl⟩:=fZ.mp hc;obtain⟨row,l1,e1⟩:=h.so p hp;refine⟨row ++ [w.1],by rw[lB,l1];rfl,?_⟩;rw[o5,e1,l1,xx];show Option.map _ ((W i p.1).find? _)=_;rw[Qu (hr i p.1) hw];rfl
 ·have bw:row≠[]:=λz=>by rw[z] at hl;cases hl
  have es:=List.dropLast_concat_getLast bw;have lk:row.dropLast.length=i:=by rw[List.length_dropLast,hl];rfl
  rw[<-es,o5] at he;obtain⟨e',he',hv⟩:=Option.bind_eq_some_iff.mp he;obtain⟨v,hf,ev⟩:=kl.mp hv;rw[lk,xx] at hf;cases ev;obtain⟨p,hp,e1,e2⟩:=h.co row.dropLast e' lk he';have hw:=He hf;obtain⟨q,om,q1,q2⟩:=hq.co (v.2.1,p.2+v.2.2) (Bk.mpr ⟨p,hp,fZ.mpr ⟨v,by rw[e1];exact hw,rfl⟩⟩);refine⟨q,om,q1,?_⟩;have q2':q.2<=p.2+v.2.2:=q2;show q.2<=e'.2+v.2.2;lia
theorem Fw.least{W:Nat->α->List (Wy α)}{n:Nat}{L:Nat->α->Prop}(hl:Lay W n L)(hr:∀i x,Be (W i x)){a:α}(ha:L 0 a){ps:List (α×Int)}(h:Fw W a n ps):ps≠[]/\∀m,m∈ps.map (·.2)->(∀x∈ps.map (·.2),m<=x)->m=wF W n 0 a:=by
 obtain⟨r1,r2⟩:=YT hl hr n 0 a (by lia) ha;rw[Pq] at r1;obtain⟨e,e1,e2⟩:=kl.mp r1;obtain⟨p,hp,p1,p2⟩:=h.co _ e r2 e1;refine⟨(λz=>by rw[z] at hp;cases hp),λm hm hle=>?_⟩;have a1:=hle p.2 (fZ.mpr ⟨p,hp,rfl⟩);obtain⟨q,hq,rfl⟩:=fZ.mp hm;obtain⟨row,l1,f1⟩:=h.so q hq;have a2:=XT (W:=W) (row:=row) (i:=0) (x:=a) (v:=q.2) (by rw[Pq,f1];rfl);rw[l1] at a2;have a3:e.2=wF W n 0 a:=e2;lia
end Fwd
theorem aSd(m:MS)(p:Int)(s:ar):hw m p s 0=m.rest:=by
 show ET m s.1 [0] - 0*AB m p=_;unfold ET;rw[show yx s.1 [0] 0=[] by show(if (0:Int)=1/\s.1=0 then [((0:Nat):Int)] else []) ++ []=[];rw[bZ (by lia)];rfl];simp
theorem aSe(m:MS)(p:Int){s:ar}(b:mq s.1):hw m p s 1=m.run+m.begin_*(1 - s.1) - AB m p:=by
 show ET m s.1 [1] - 1*AB m p=_;unfold ET;rcases b with b|b
 ·rw[show yx s.1 [1] 0=[0] by show(if (1:Int)=1/\s.1=0 then [((0:Nat):Int)] else []) ++ []=[0];rw[cO ⟨rfl,b⟩];rfl,b];simp;lia
 ·rw[show yx s.1 [1] 0=[] by show(if (1:Int)=1/\s.1=0 then [((0:Nat):Int)] else []) ++ []=[];rw[bZ (by lia)];rfl,b];simp
theorem Zn{m:MS}{ps:ae}{a:ar}:∀{k:Nat}{f:ae×(ar)×Int},f∈GU (Wr m ps) a k->Rc m a k f.2.1
 |0,f,h=>by
  have h':f∈[([],a,(0:Int))]:=h;rw[rC.mp h'];rfl
 |k+1,f,h=>by
  have h':f∈(GU (Wr m ps) a k).flatMap _:=h;obtain⟨g,hg,hf⟩:=Bk.mp h';obtain⟨v,hv,rfl⟩:=fZ.mp hf;obtain⟨on,b,may,rfl⟩:=uL.mp hv;exact⟨g.2.1,Zn hg,on,b,may,rfl⟩
def uc(m:MS)(pr:Int)(p:WP)(tu:ae):List WP:=(tu.filter (uV p.1)).map λon=>(lE m p.1.1 p.1.2 on,p.2+hw m pr p.1 on)
theorem aMF(m:MS)(pr:Int)(p:WP):((yh m pr p.1).map λw=>(w.2.1,p.2+w.2.2))=uc m pr p [0,1]:=by
 unfold uc yh;rw[kh];rfl
theorem zY(x:Option Int)(n:Int):(x.map V.int).getD (.int n)=.int (x.getD n):=by cases x <;> rfl
theorem aQI{m:MS}{qs:ae}{a:ar}:∀{row:ae}{e:(ar)×Int},uW (Wr m qs) 0 a row=some e->Rc m a row.length e.1:=λ{row e} h=>Zn (ps:=qs) (f:=(row,e.1,e.2)) ((Qs (λ_ _=>P9 _ _ _)).mpr ⟨rfl,h⟩)
inductive nQ  (K:W.Frag) (vs:List V) (H:Hp) (Q:VK) (E:XK):Prop
 |mk:∀(s:Addr) (m:MS) (t:Addr) (a:ar) (q:Addr) (qs:ae),(vs=[.ref s,.ref t,.ref q])->dB H s m->m.Good->(H t=some (.tup [.int a.1,.int a.2]))->we m a->(H q=some (.lst (qs.map V.int)))->((∀n∈qs,Am n))->(qs.length<=48)->(∀(H':Hp),aO H H'->Q (.int (Ek m qs a)) H')->nQ K vs H Q E
theorem zZ(tx:Txt K mg a):bT P w K mg base eY 2 a.oU a.oV aha (nQ K):=by
 have aFW:=aDV (P:=P) (w:=w) (base:=base) tx;have aHp:=aFG (P:=P) (w:=w) (base:=base) tx;refine tx.dz.F.ok cC (by walk_at "l") λbj A outer s H vs Q E hr h=>?_;obtain⟨s,m,t,st,q,qs,rfl ,hs,hg,ht,eg,hq,ha,hl,k⟩:=h;have hu:=gM hr;refine aZ (aE (aK (i:=3) cC.nd (aA1 hu (aA 1) aC))
  (aE (bI PassesOwn.never rfl (bH (K':=K) (aA 2)) (aJ (i:=4) cC.nd) (aE (aK (i:=5) cC.nd eQ)
  (aE (bI PassesOwn.never rfl (aGR (aA 3)) (aJ (i:=6) cC.nd) (aE (aK (i:=7) cC.nd (aI fA (aI bC (aH (K':=K) (aA 0) aC) (aI bV (aH (K':=K) (aA 0) aC) (aI fA aC (aH (K':=K) (aA 6) aC)))) (bg aHp hr tx.md (aB (aA 0) (aB (aA 4) aD)))))
  (aF (bI PassesOwn.never rfl (cL (by rfl) tx.eF (aB aC aD)) (aJ (i:=8) cC.nd) (aE (aK (i:=9) cC.nd (bg aFW hr tx.jy (aB (aA 0) (aB (aA 6) (aB (aA 8) aD)))))
  (aF (bD (aU uG (aA 9) c8 (bJ _)) (aE (aK (i:=10) cC.nd (aI bC (iO hu (aA 3) (aA 6)) (aH (K':=K) (iX (aH (K':=K) (aA 0) aC) (aA 7)) (aA 8))))
  (aF (fG hu (aA 5) (aA 9) (aP (dZ rfl) (by rfl) tx.jI gB (aB (kL hu (aA 5) (aA 9) (aA 10)) (aB (aA 10) aD)))))) aY)))))))
  (aF (aK (i:=3) cC.nd (aA 5))))))
  (aF (aM (aP (rc:=Kw) (aEM rfl) (by rfl) tx.jI gB (aB (aA2 (aA 3)) aD)))))) ?_
 obtain⟨bg0,bg1⟩:=hg.begin_;refine aV (σ:=[some (.ref s),some (.ref t),some (.ref q),none,none,none,none,none,none,none,none]) rfl ?_;walk_at "w";intro w yi;obtain⟨H1,i1,s1,g1⟩:=nw _ yi;rw[i1];have M7:=s1 _ _ ht;walk_at "w";refine⟨t,lP st,rfl,M7,g1,?_⟩;obtain⟨H2,i2,k2,g2⟩:=wr H1 w _;rw[i2];have S2:aO H H2:=λb o e=>k2 _ _ (s1 _ _ e) (bB yi e);have C4:=S2 _ _ hq;walk_at "w";refine eM (bR.of C4) ?_;refine eT (xs:=qs.map V.int) (λi σ' H'=>aO H H'/\∃(d:Addr) (ps:List WP) (z4 z5 z6 z7 z8 z9 qz:Option V),σ'=[some (.ref s),some (.ref t),some (.ref q),some (.ref d),z4,z5,z6,z7,z8,z9,qz]/\H d=none/\H' d=some (.dT (enc ps))/\Fw (Wr m qs) st i ps)
  ⟨S2,w,[(st,0)],_,_,_,_,_,_,_,rfl,yi,g2,Fw.zero _ _⟩ (λi σ' H' hi ⟨s',_⟩=>bR.of (s' _ _ hq)) (λi v σ' H' hv R3=>?_) (λσ' H' R1=>?_)
 ·obtain⟨s',d,ps,z4,z5,z6,z7,z8,z9,qz,e,nd,gd,hF⟩:=R3;subst e;obtain⟨pr,ep,rfl⟩:=iJ hv;obtain⟨p0,p1⟩:=ha pr (kP ep);have Dq:qs.getD i 0=pr:=by rw[vf,ep];rfl
  have VU:∀p∈ps,Rc m st i p.1:=λp hp=>by
   obtain⟨row,l1,e1⟩:=hF.so p hp;rw[<-l1];exact aQI e1
  walk_at "w";refine uI ?_;intro l nl;obtain⟨H3,i3,s3,g3⟩:=nw _ nl;rw[i3];have yt:=s3 _ _ gd;have xk:H l=none:=s'.free nl;have dl:d≠l:=λz=>by rw[z,nl] at gd;cases gd
  walk_at "w";refine aRF yt λob=>?_;obtain⟨H4,i4,k4,g4⟩:=wr H3 d _;rw[i4];have S4:aO H H4:=λb o e=>k4 _ _ (s3 _ _ (s' _ _ e)) (bB nd e);have Dm:=k4 _ _ g3 (Ne.symm dl);refine aMf (kvs:=enc ps) (λj σ' H'=>aO H H'/\H' d=some (.bu ob (.dT (enc ps)))/\∃(rs:List WP) (z6 z7 z8 z9 qz:Option V),σ'=[some (.ref s),some (.ref t),some (.ref q),some (.ref d),some (.int pr),some (.ref l),z6,z7,z8,z9,qz]/\H' l=some (.dT (enc rs))/\iA ((ps.take j).flatMap λp=>uc m pr p [0,1]) rs/\∀r∈rs,Rc m st (i+1) r.1)
   ⟨S4,g4,[],_,_,_,_,_,rfl,Dm,iA.nil,λr h=>by cases h⟩ (λj σ' H' hj ⟨_,h,_⟩=>h) (λj kv σ' H5 b hk R0 gb=>?_) (λσ' H5 RZ=>?_)
  ·obtain⟨s5,EL,rs,z6,z7,z8,z9,qz,e,su,hM,hR⟩:=R0;subst e;obtain⟨p,Gu,rfl⟩:=Ya hk;have Ey:=kP Gu;have Dk:H5 b=some (.tup [.int p.1.1,.int p.1.2]):=gb;obtain⟨⟨sb,sd,_⟩,_⟩:=Rc.st hg eg (VU p Ey);have sbb:0<=p.1.1/\p.1.1<=1:=by rcases sb with z|z <;> lia
   obtain⟨a0e,a0d⟩:=sbb;obtain⟨pl,Xg,_⟩:=(hs.same s5).ex;have bl:b≠l:=λz=>by rw[z,su] at Dk;cases Dk
   have bd:b≠d:=λz=>by rw[z,EL] at Dk;cases Dk
   walk_at "w";refine⟨s,m,pr,rfl,hs.same s5,hg,p0,by lia,λH6 s6=>?_⟩;have Mo:=s5.trans s6;have yr:=s6 _ _ su;have NT:=s6 _ _ EL;have vy:=s6 _ _ Dk;walk_at "w";refine⟨by decide,by decide,?_⟩;refine lZ (n:=2) (λjj σ' H'=>aO H H'/\H' d=some (.bu ob (.dT (enc ps)))/\H' b=some (.tup [.int p.1.1,.int p.1.2])/\∃(rs:List WP) (z8 z9 qz:Option V),σ'=[some (.ref s),some (.ref t),some (.ref q),some (.ref d),some (.int pr),some (.ref l),some (.ref b),some (.int (m.run+m.begin_*(1 - p.1.1) - (pr*m.least+gn pr m.pieces))),z8,z9,qz]/\H' l=some (.dT (enc rs))/\iA (((ps.take j).flatMap λp=>uc m pr p [0,1])++uc m pr p (([0,1]:ae).take jj)) rs/\∀r∈rs,Rc m st (i+1) r.1)
    ⟨Mo,NT,vy,rs,_,_,_,rfl,yr,by rw[show uc m pr p (([0,1]:ae).take 0)=[] from rfl,pz];exact hM,hR⟩ (λjj σ' H7 hjj RY=>?_) (λσ' H7 RX=>?_)
   ·obtain⟨s7,uw,JN,rs,z8,z9,qz,e,yq,yo,Ay⟩:=RY;subst e;have yw:mq (0+(jj:Int)):=by rcases(show jj=0\/jj=1 by lia) with rfl|rfl;exact .inl rfl;exact .inr rfl
    have vz:([0,1]:ae)[jj]?=some (0+(jj:Int)):=by rcases(show jj=0\/jj=1 by lia) with rfl|rfl <;> rfl
    generalize 0+(jj:Int)=on at yw vz;have tk:([0,1]:ae).take (jj+1)=([0,1]:ae).take jj ++ [on]:=by rw[Cu,vz];rfl
    have Xd:uc m pr p (([0,1]:ae).take (jj+1))=uc m pr p (([0,1]:ae).take jj)++uc m pr p [on]:=by
     unfold uc;rw[tk,List.filter_append,iK]
    have rL:=Rc.rL hg eg yo.nd (λx hx=>by
     obtain⟨r,hr,rfl⟩:=fZ.mp hx;exact Ay r hr)
    rw[bX] at rL;walk_at "w";refine⟨s,m,b,p.1.1,p.1.2,on,rfl,hs.same s7,JN,yw,sb,sd,λmay T H8 s8 nT gT=>?_,λTb=>?_⟩
    ·have A1:uV p.1 on=true:=hZ.mpr may;have s78:=s7.trans s8;have Di:=s8 _ _ uw;have V7:H8 b=some (.tup ((lP p.1).map kV)):=s8 _ _ JN;have gl8:=s8 _ _ yq;obtain⟨pl8,Xe,_⟩:=(hs.same s78).ex;repeat walk_at "gs"
     have ym:=kF.f Di V7;rw[PX,show tO ps p.1=some p.2 from PR hF.nd Ey] at ym;refine⟨d,_,rfl,ym,?_⟩;walk_at "w";intro l2 AY;obtain⟨H9,i9,s9,g9⟩:=nw _ AY;rw[i9];have ixo:uP [V.int m.rest,.int (m.run+m.begin_*(1 - p.1.1) - (pr*m.least+gn pr m.pieces))] on=some (.int (hw m pr p.1 on)):=by
      rcases yw with rfl|rfl
      ·rw[aSd];rfl
      ·rw[aSe m pr sb];rfl
     have NS:=s9 _ _ gl8;have gk:H9 T=some (.tup ((lP (lE m p.1.1 p.1.2 on)).map kV)):=s9 _ _ gT;walk_at "w";refine⟨l,rfl,.inr ⟨_,.inl NS⟩,?_⟩;walk_at "w";refine⟨_,kF.t NS gk,?_⟩;rw[PX,zY];walk_at "w";refine⟨l,_,rfl,uQ.t NS gk (qI (by rw[Lf];lia:(enc rs).length < 1000) (cB (by decide))),?_⟩;rw[YU];obtain⟨yc,F4,mn,N1⟩:=wr H9 l _;rw[F4];have s89:=s8.trans s9;walk_at "w";refine⟨λb' o' e'=>mn _ _ (s89 _ _ (s7 _ _ e')) (bB xk e'),mn _ _ (s9 _ _ Di) dl,mn _ _ (s9 _ _ V7) bl,_,_,_,_,rfl,N1,?_,λr hr=>?_⟩
     ·rw[Xd,<-DJ,show uc m pr p [on]=[(lE m p.1.1 p.1.2 on,p.2+hw m pr p.1 on)] by unfold uc;rw[List.filter_cons_of_pos A1];rfl];exact yo.on
     ·rcases o6.mp hr with rfl|⟨h1,_⟩
      ·exact⟨p.1,VU p Ey,on,yw,may,rfl⟩
      ·exact Ay r h1
    ·have A1:¬uV p.1 on=true:=λz=>Tb (hZ.mp z);repeat walk_at "gs"
     refine⟨s7,uw,JN,rs,_,_,_,rfl,yq,?_,Ay⟩;rw[Xd,show uc m pr p [on]=[] by unfold uc;rw[List.filter_cons_of_neg A1];rfl,pz];exact yo
   ·obtain⟨s7,uw,JN,rs,z8,z9,qz,e,yq,yo,Ay⟩:=RX;subst e;refine⟨s7,uw,rs,_,_,_,_,_,rfl,yq,?_,Ay⟩;rw[dG Gu,Fp,DI,DE,pz];exact yo
  ·obtain⟨s5,EL,rs,z6,z7,z8,z9,qz,e,su,hM,hR⟩:=RZ;subst e;rw[Lf,uC] at hM;walk_at "w";refine⟨s5,l,rs,_,_,_,_,_,_,_,rfl,xk,su,hF.on (λ_ _=>P9 _ _ _) ?_⟩;have ec:AL (Wr m qs) i ps=ps.flatMap λp=>uc m pr p [0,1]:=by
    unfold AL;congr 1;funext p
    unfold Wr;rw[Dq];exact aMF m pr p
   show iA (AL (Wr m qs) i ps) rs;rw[ec];exact hM
 ·obtain⟨s',d,ps,z4,z5,z6,z7,z8,z9,qz,e,nd,gd,hF⟩:=R1;subst e;rw[bX] at hF;obtain⟨ne,fl⟩:=hF.least (aOq hg eg qs qs.length) (λ_ _=>P9 _ _ _) rfl;walk_at "w";refine⟨d,rfl,.inr ⟨_,.inl gd⟩,λb nb=>?_⟩;obtain⟨H3,i3,s3,g3⟩:=nw _ nb;rw[i3];walk_at "w";refine YZ g3 (.inl ⟨_,.inl (s3 _ _ gd),show(enc ps).map (·.2)=(ps.map (·.2)).map V.int by unfold enc;rw[kh,kh];rfl⟩) (by simpa using ne) λmm h1 h2=>?_;rw[fl mm h1 h2];exact k H3 (s'.trans s3)
def rF(ps:aw):List (Key×V):=ps.map λp=>(Sum.inl p.1,V.int p.2)
theorem Zm(ps:aw):(rF ps).length=ps.length:=by unfold rF;rw[bX]
theorem P5(k:Int):∀ps:aw,lH (rF ps) (.inl k:Key)=(za ps k).map V.int
 |[]=>rfl
 |p::r=>by
  show lH ((Sum.inl p.1,V.int p.2)::rF r) _=_;unfold za;rw[uf];by_cases e:p.1=k
  ·rw[hJ (show((Sum.inl p.1:Key),V.int p.2).1=.inl k by rw[e]),mi e];rfl
  ·rw[gA (show ¬((Sum.inl p.1:Key),V.int p.2).1=.inl k from λz=>e (Sum.inl.inj z)),rp e];exact P5 k r
theorem aMG(ps:aw)(k v:Int):putK (rF ps) (.inl k:Key) (.int v)=rF (yz ps k v):=by
 unfold putK yz rF;have e:((ps.map λp:ar=>((Sum.inl p.1:Key),V.int p.2)).any λkv=>decide (kv.1=.inl k))=ps.any λp=>decide (p.1=k):=by
  rw[List.any_map];congr 1;funext p
  show decide ((Sum.inl p.1:Key)=.inl k)=decide (p.1=k);exact decide_eq_decide.mpr ⟨Sum.inl.inj,λz=>by rw[z]⟩
 rw[e];split
 ·rw[kh,kh];congr 1;funext p
  show(if (Sum.inl p.1:Key)=.inl k then ((Sum.inl p.1:Key),V.int v) else (Sum.inl p.1,V.int p.2))=(Sum.inl (if p.1=k then (p.1,v) else p).1,V.int (if p.1=k then (p.1,v) else p).2)
  by_cases h:p.1=k
  ·rw[cO h,cO (by rw[h])]
  ·rw[bZ h,bZ λz=>h (Sum.inl.inj z)]
 ·rw[iK];rfl
theorem aOv{ps:aw}{i:Nat}{kv:Key×V}(h:(rF ps)[i]?=some kv):∃p,ps[i]?=some p/\kv=(.inl p.1,V.int p.2):=by
 unfold rF at h;rw[kQ] at h;obtain⟨p,hp,e⟩:=kl.mp h;exact⟨p,hp,e.symm⟩
def EO:Option SS->Int->Int->Int
 |none,_,_=>0
 |some s,l,n=>dr s l n
theorem aOw{s:SS}{l n:Int}:(if n < l then (n - l)*s.gives else (n - l)*s.takes)=dr s l n:=by
 unfold dr;by_cases h1:n < l
 ·rw[cO h1,bZ (by lia),Cp]
 ·rw[bZ h1];by_cases h2:l < n
  ·rw[cO h2,Cp]
  ·have e:n=l:=by lia
   subst e;rw[bZ h2,Int.sub_self,Int.zero_mul,Bg]
def Wo(o:Option SS)(qs:ae)(i:Nat)(x:Int):List (Wy Int):=(An o x).map λy=>(y,y,qs.getD i 0*EO o x y)
theorem aOx(s:SS)(qs:ae):Wo (some s) qs=Wl s qs:=by
 funext i x
 unfold Wo Wl MD;congr 1;show mf (max 0 (x - s.out)) (min s.bz (x+s.into)+1 - max 0 (x - s.out)).toNat=mf (max (x - s.out*1) 0) (min (x+s.into*1) s.bz+1 - max (x - s.out*1) 0).toNat;rw[show max 0 (x - s.out)=max (x - s.out*1) 0 by lia,show min s.bz (x+s.into)=min (x+s.into*1) s.bz by lia]
def Bq(o:Option SS)(l:Int):Prop:=match o with|none=>l=0|some s=>0<=l/\l<=s.bz
theorem Yr{o:Option SS}{l y:Int}(hy:y∈An o l):Bq o y:=by
 cases o with
 |none=>exact rC.mp hy
 |some s=>
  have h:y∈mf (max 0 (l - s.out)) (min s.bz (l+s.into)+1 - max 0 (l - s.out)).toNat:=hy;rw[PY] at h;show 0<=y/\y<=s.bz;lia
theorem YQ(o:Option SS)(qs:ae)(i:Nat)(x:Int):Be (Wo o qs i x):=by
 unfold Be Wo;rw[Ct];cases o with
 |none=>show List.Pairwise _ [0];simp
 |some s=>exact Ys _ _
theorem aQJ{o:Option SS}(g:∀s,o=some s->s.Good)(qs:ae)(n:Nat):Lay (Wo o qs) n (λ_=>Bq o) where
 ne:=λi x _ hx=>by
  unfold Wo;cases o with
  |none=>show [_]≠[];simp
  |some s=>
   have h:0<=x/\x<=s.bz:=hx;have gs:=g s rfl;have g2:=gs.into;have g3:=gs.out;intro z;have z':=DK.mp z;have:x∈An (some s) x:=by
    show x∈mf (max 0 (x - s.out)) (min s.bz (x+s.into)+1 - max 0 (x - s.out)).toNat;rw[PY];lia
   rw[z'] at this;cases this
 on:=λi x w _ hx hw=>by
  unfold Wo at hw;obtain⟨y,hy,rfl⟩:=fZ.mp hw;exact Yr hy
theorem aMI{W:WS}{P:Ps}(qs:ae):wF (Wo W.store qs) qs.length 0 P.2=Ao W P qs:=by
 unfold Ao;cases e:W.store with
 |none=>
  have key:∀(k i:Nat) (x:Int),wF (Wo none qs) k i x=0:=by
   intro k;induction k with
   |zero=>intro i x;rfl
   |succ k ih=>
    intro i x;show qs.getD i 0*0+wF (Wo none qs) k (i+1) 0=0;rw[ih,Bg];rfl
  exact key _ _ _
 |some s=>rw[aOx];rfl
theorem aQK{o:Option SS}(g:∀s,o=some s->s.Good){ps:aw}(nd:(ps.map (·.1)).Nodup)(h:∀p∈ps,Bq o p.1):ps.length<=9:=by
 have b:∀p∈ps,0<=p.1/\p.1<=8:=λp hp=>by
  have:=h p hp;cases o with
  |none=>have z:p.1=0:=this;lia
  |some s=>have z:0<=p.1/\p.1<=s.bz:=this;have:=(g s rfl).bz.2;lia
 have:=Kp 9 ((ps.map (·.1)).map Int.toNat) (by
  rw[List.Nodup,Ct];refine nd.imp_of_mem ?_;intro x y hx hy Vo z;obtain⟨p,hp,rfl⟩:=fZ.mp hx;obtain⟨q,hq,rfl⟩:=fZ.mp hy;have:=b p hp;have:=b q hq;lia) (λx hx=>by
  obtain⟨y,hy,rfl⟩:=fZ.mp hx;obtain⟨p,hp,rfl⟩:=fZ.mp hy;have:=b p hp;lia)
 simpa using this
inductive wA  (K:W.Frag) (vs:List V) (H:Hp) (Q:VK) (E:XK):Prop
 |mk:∀(v:V) (o:Option SS) (l n:Int),(vs=[v,.int l,.int n])->AI H v o->((∀s,o=some s->s.Good))->(Q (.int (EO o l n)) H)->wA K vs H Q E
theorem aD8(tx:Txt K mg a):bT P w K mg base eY 1 a.yV a.yW aca (wA K):=by
 refine tx.jw.F.ok aDQ (by walk_at "l") λbj A outer s H vs Q E hr h=>?_;obtain⟨v,o,l,n,rfl ,hv,hg,k⟩:=h;have hu:=gM hr;refine aZ (aE (bD (aU wQ (aA 0) c8 (bJ _)) (aF (aM aC)) aY)
  (aE (bD (aU Cm (aA 2) (aA 1) (bJ _)) (aF (aM (aI bV (aI fA (aA 2) (aA 1)) (aH (K':=K) (aA 0) aC)))) aY)
  (aF (aM (aI bV (aI fA (aA 2) (aA 1)) (aH (K':=K) (aA 0) aC)))))) ?_
 refine aV (σ:=[some v,some (.int l),some (.int n)]) rfl ?_;cases o with
 |none=>
  replace hv:v=.bt:=hv
  subst hv;walk_at "w";exact k
 |some s=>
  obtain⟨c,rfl,hc⟩:=hv;have B4:=hc.at_;obtain⟨t0,t1⟩:=(hg s rfl).takes;obtain⟨g0,g1⟩:=(hg s rfl).gives;have k':Q (.int (dr s l n)) H:=k;rw[<-aOw] at k';walk_at "w";refine cA (λh=>?_) (λh=>?_)
  ·rw[cO h] at k';walk_at "w";exact k'
  ·rw[bZ h] at k';walk_at "w";exact k'
inductive aAa  (K:W.Frag) (vs:List V) (H:Hp) (Q:VK) (E:XK):Prop
 |mk:∀(p b:Addr) (x y:Int),(vs=[.ref p,.ref b])->bE H p->(H b=some (.lst [.int x,.int y]))->(∀(n:Int) H',bE H' p->bL p H H'->hV p H H'->Q (.int n) H')->aAa K vs H Q E
theorem aFX(tx:Txt K mg a):bT P w K mg base eY 2 a.aBj a.aBk afa (aAa K):=by
 have aS:=cZ (P:=P) (w:=w) (base:=base) tx;refine tx.fu.F.ok aFz (by walk_at "l") λbj A outer s H vs Q E hr h=>?_;obtain⟨p,b,x,y,rfl ,hh,hb,k⟩:=h;have hu:=gM hr;refine aZ (aF (aM (aI bC (aI bV (aH (K':=K) (aA 1) aC) (bg aS hr tx.af (aB (aA 0) (aB aC aD)))) (bg aS hr tx.af (aB (aA 0) (aB aC aD)))))) ?_;refine aV (σ:=[some (.ref p),some (.ref b)]) rfl ?_;walk_at "w";refine⟨p,_,rfl,hh,by decide,by decide,λr1 H1 a1 b1 h1 k1 q1=>?_⟩;walk_at "w";refine⟨p,_,rfl,h1,by decide,by decide,λr2 H2 a2 b2 h2 k2 q2=>?_⟩;walk_at "w";exact k _ _ h2 (k1.trans k2) (q1.trans q2)
inductive mY  (K:W.Frag) (vs:List V) (H:Hp) (Q:VK) (E:XK):Prop
 |mk:∀(v:V) (o:Option SS) (l:Int) (q:Addr) (qs:ae),(vs=[v,.int l,.ref q])->AI H v o->((∀s,o=some s->s.Good))->Bq o l->(H q=some (.lst (qs.map V.int)))->((∀n∈qs,Am n))->(qs.length<=48)->(∀(H':Hp),aO H H'->Q (.int (wF (Wo o qs) qs.length 0 l)) H')->mY K vs H Q E
theorem xD(tx:Txt K mg a):bT P w K mg base eY 2 a.nH a.nI ala (mY K):=by
 have aFY:=aD8 (P:=P) (w:=w) (base:=base) tx;have aD9:=aDd (P:=P) (w:=w) (base:=base) tx;refine tx.di.F.ok cJ (by walk_at "l") λbj A outer s H vs Q E hr h=>?_;obtain⟨v,o,lv,q,qs,rfl ,hs,hg,JE,hq,ha,hl,k⟩:=h;have hu:=gM hr;refine aZ (aE (aK (i:=3) cJ.nd (aFt (aA 1) aC))
  (aE (bI PassesOwn.never rfl (bH (K':=K) (aA 2)) (aJ (i:=4) cJ.nd) (aE (aK (i:=5) cJ.nd eQ)
  (aE (bI PassesOwn.never rfl (aH2 (aA 3)) (aJ (i:=6) cJ.nd) (aF (bI PassesOwn.never rfl (bH (K':=K) (bg aD9 hr tx.ja (aB (aA 0) (aB (aA 6) aD)))) (aJ (i:=7) cJ.nd) (aE (aK (i:=8) cJ.nd (aI bC (iO hu (aA 3) (aA 6)) (aI bV (aA 4) (bg aFY hr tx.jw (aB (aA 0) (aB (aA 6) (aB (aA 7) aD)))))))
  (aF (fG hu (aA 5) (aA 7) (aP (dZ rfl) (by rfl) tx.jI gB (aB (kL hu (aA 5) (aA 7) (aA 8)) (aB (aA 8) aD)))))))))
  (aF (aK (i:=3) cJ.nd (aA 5))))))
  (aF (aM (aP (rc:=Kw) (aEM rfl) (by rfl) tx.jI gB (aB (aA2 (aA 3)) aD)))))) ?_
 refine aV (σ:=[some v,some (.int lv),some (.ref q),none,none,none,none,none,none]) rfl ?_;walk_at "w";intro w yi;obtain⟨H1,i1,s1,g1⟩:=nw _ yi;rw[i1];walk_at "w";refine⟨.inl lv,rfl,g1,?_⟩;obtain⟨H2,i2,k2,g2⟩:=wr H1 w _;rw[i2];have S2:aO H H2:=λb o e=>k2 _ _ (s1 _ _ e) (bB yi e);have C4:=S2 _ _ hq;walk_at "w";refine eM (bR.of C4) ?_;refine eT (xs:=qs.map V.int) (λi σ' H'=>aO H H'/\∃(d:Addr) (ps:aw) (z4 z5 z6 z7 z8:Option V),σ'=[some v,some (.int lv),some (.ref q),some (.ref d),z4,z5,z6,z7,z8]/\H d=none/\H' d=some (.dK (rF ps))/\Fw (Wo o qs) lv i ps/\∀p∈ps,Bq o p.1)
  ⟨S2,w,[(lv,0)],_,_,_,_,_,rfl,yi,g2,Fw.zero _ _,λp hp=>by rw[rC.mp hp];exact JE⟩ (λi σ' H' hi ⟨s',_⟩=>bR.of (s' _ _ hq)) (λi v' σ' H' hv RW=>?_) (λσ' H' RV=>?_)
 ·obtain⟨s',d,ps,z4,z5,z6,z7,z8,e,nd,gd,hF,hL⟩:=RW;subst e;obtain⟨pr,ep,rfl⟩:=iJ hv;obtain⟨p0,p1⟩:=ha pr (kP ep);have Dq:qs.getD i 0=pr:=by rw[vf,ep];rfl
  walk_at "w";refine Qx ?_;intro l nl;obtain⟨H3,i3,s3,g3⟩:=nw _ nl;rw[i3];have yt:=s3 _ _ gd;have xk:H l=none:=s'.free nl;have dl:d≠l:=λz=>by rw[z,nl] at gd;cases gd
  walk_at "w";refine aRD yt λob=>?_;obtain⟨H4,i4,k4,g4⟩:=wr H3 d _;rw[i4];have S4:aO H H4:=λb o e=>k4 _ _ (s3 _ _ (s' _ _ e)) (bB nd e);have Dm:=k4 _ _ g3 (Ne.symm dl);refine aN5 (kvs:=rF ps) (λj σ' H'=>aO H H'/\H' d=some (.bu ob (.dK (rF ps)))/\∃(rs:aw) (z6 z7 z8:Option V),σ'=[some v,some (.int lv),some (.ref q),some (.ref d),some (.int pr),some (.ref l),z6,z7,z8]/\H' l=some (.dK (rF rs))/\iA ((ps.take j).flatMap λp=>(An o p.1).map λy=>(y,p.2+pr*EO o p.1 y)) rs/\∀r∈rs,Bq o r.1)
   ⟨S4,g4,[],_,_,_,rfl,Dm,iA.nil,λr h=>by cases h⟩ (λj σ' H' hj ⟨_,h,_⟩=>h) (λj kv σ' H5 hk RU=>?_) (λσ' H5 RT=>?_)
  ·obtain⟨s5,EL,rs,z6,z7,z8,e,su,hM,hR⟩:=RU;subst e;obtain⟨p,Gu,rfl⟩:=aOv hk;have Ey:=kP Gu;have VA:=hL p Ey;show qJ 6 (.int p.1) _ _ _;walk_at "w";refine⟨v,o,p.1,rfl,hs.tr s5.tr,λsv e=>⟨hg sv e,by rw[e] at VA;exact VA⟩,λll H6 s6 nll V3=>?_⟩;have Mo:=s5.trans s6;have yr:=s6 _ _ su;have NT:=s6 _ _ EL;refine eM (bR.of V3) ?_;refine eT (xs:=(An o p.1).map V.int) (λjj σ' H'=>aO H H'/\H' ll=some (.lst ((An o p.1).map V.int))/\H' d=some (.bu ob (.dK (rF ps)))/\∃(rs:aw) (z7 z8:Option V),σ'=[some v,some (.int lv),some (.ref q),some (.ref d),some (.int pr),some (.ref l),some (.int p.1),z7,z8]/\H' l=some (.dK (rF rs))/\iA (((ps.take j).flatMap λp=>(An o p.1).map λy=>(y,p.2+pr*EO o p.1 y))++(((An o p.1).take jj).map λy=>(y,p.2+pr*EO o p.1 y))) rs/\∀r∈rs,Bq o r.1)
    ⟨Mo,V3,NT,rs,_,_,rfl,yr,by rw[List.take_zero,vb,pz];exact hM,hR⟩ (λjj σ' H' hj ⟨_,h,_⟩=>bR.of h) (λjj v' σ' H7 hv RS=>?_) (λσ' H7 RQ=>?_)
   ·obtain⟨s7,BD,uw,rs,z7,z8,e,yq,yo,Ay⟩:=RS;subst e;obtain⟨y,ey,rfl⟩:=iJ hv;have hym:=kP ey;have rL:=aQK hg yo.nd Ay;have lll:ll≠l:=λz=>by rw[z,yq] at BD;cases BD
    have ym:=kF.fk (k:=(.inl p.1:Key)) uw;rw[P5,PR hF.nd Ey] at ym;walk_at "w";refine⟨d,_,rfl,ym,?_⟩;walk_at "w";refine⟨v,o,p.1,y,rfl,hs.tr s7.tr,hg,?_⟩;walk_at "w";refine⟨l,rfl,.inl ⟨_,.inl yq⟩,?_⟩;walk_at "w";refine⟨_,kF.k (k:=(.inl y:Key)) yq,?_⟩;rw[P5,zY];walk_at "w";refine⟨l,_,rfl,uQ.k (k:=(.inl y:Key)) yq (qI (by rw[Zm];lia:(rF rs).length < 1000) (cB (by decide))),?_⟩;rw[aMG];obtain⟨yc,F4,mn,N1⟩:=wr H7 l _;rw[F4];walk_at "w";refine⟨λb' o' e'=>mn _ _ (s7 _ _ e') (bB xk e'),mn _ _ BD lll,mn _ _ uw dl,_,_,_,rfl,N1,?_,λr hr=>?_⟩
    ·rw[dG ey,iK,<-DJ];exact yo.on
    ·rcases o6.mp hr with rfl|⟨h1,_⟩
     ·exact Yr hym
     ·exact Ay r h1
   ·obtain⟨s7,BD,uw,rs,z7,z8,e,yq,yo,Ay⟩:=RQ;subst e;rw[bX,uC] at yo;refine⟨s7,uw,rs,_,_,_,rfl,yq,?_,Ay⟩;rw[dG Gu,Fp,DI,DE,pz];exact yo
  ·obtain⟨s5,EL,rs,z6,z7,z8,e,su,hM,hR⟩:=RT;subst e;rw[Zm,uC] at hM;walk_at "w";refine⟨s5,l,rs,_,_,_,_,_,rfl,xk,su,hF.on (YQ o qs) ?_,hR⟩;have ec:AL (Wo o qs) i ps=ps.flatMap λp=>(An o p.1).map λy=>(y,p.2+pr*EO o p.1 y):=by
    unfold AL;congr 1;funext p
    unfold Wo;rw[Dq,kh];rfl
   rw[ec];exact hM
 ·obtain⟨s',d,ps,z4,z5,z6,z7,z8,e,nd,gd,hF,hL⟩:=RV;subst e;rw[bX] at hF;obtain⟨ne,fl⟩:=hF.least (aQJ hg qs qs.length) (YQ o qs) JE;walk_at "w";refine⟨d,rfl,.inl ⟨_,.inl gd⟩,λb nb=>?_⟩;obtain⟨H3,i3,s3,g3⟩:=nw _ nb;rw[i3];walk_at "w";refine YZ g3 (.inr ⟨_,.inl (s3 _ _ gd),show(rF ps).map (·.2)=(ps.map (·.2)).map V.int by unfold rF;rw[kh,kh];rfl⟩) (by simpa using ne) λmm h1 h2=>?_;rw[fl mm h1 h2];exact k H3 (s'.trans s3)
inductive wB  (K:W.Frag) (vs:List V) (H:Hp) (Q:VK) (E:XK):Prop
 |mk:∀(s:Addr) (W:WS) (a:Addr) (P:Ps) (u:Addr) (ws:ae) (q:Addr) (qs:ae),(vs=[.ref s,.ref a,.ref u,.ref q])->nO H s W->W.Good->zS H a P->Kc W P->(H u=some (.lst (ws.map V.int)))->(H q=some (.lst (qs.map V.int)))->(ws.length=qs.length)->((∀n∈qs,Am n))->(qs.length<=48)->(∀(H':Hp),aO H H'->Q (.int (Ak W P ws qs)) H')->wB K vs H Q E
theorem aEa(tx:Txt K mg a):bT P w K mg base eY 3 a.yX a.yY p9 (wB K):=by
 have aAb:=xD (P:=P) (w:=w) (base:=base) tx;have aAJ:=zZ (P:=P) (w:=w) (base:=base) tx;refine tx.jx.F.ok dW (by walk_at "l") λbj A outer s H vs Q E hr h=>?_;obtain⟨s,W,ap,P,u,ws,q,qs,rfl ,hW,hg,hP,hB,MW,hq,hlen,ha,hl,k⟩:=h;have hu:=gM hr;refine aZ (aE (aK (i:=4) dW.nd (bg aAb hr tx.di (aB (aH (K':=K) (aA 0) aC) (aB (aH (K':=K) (aA 1) aC) (aB (aA 3) aD)))))
  (aE (bI PassesOwn.never rfl (pH (k1:=true) (k2:=true) (by rfl) tx.Dx (aB (aA 3) (aB (aA 2) aD))) (bQ (K':=K) (n:=2) rfl (aR (aJ (i:=5) dW.nd) (aR (aJ (i:=6) dW.nd) bP))) (aF (lT (i:=4) dW.nd rfl (Or.inl rfl) (aI bV (aA 5) (aA 6)) Fj)))
  (aE (bI PassesOwn.never rfl (pH (k1:=true) (k2:=false) (by rfl) tx.Dx (aB (aH (K':=K) (aA 0) aC) (aB (aH (K':=K) (aA 1) aC) aD))) (bQ (K':=K) (n:=2) rfl (aR (aJ (i:=7) dW.nd) (aR (aJ (i:=8) dW.nd) bP))) (aF (lT (i:=4) dW.nd rfl (Or.inl rfl) (bg aAJ hr tx.dz (aB (aA 7) (aB (aA 8) (aB (aA 3) aD)))) Fj)))
  (aF (aM (aA 4)))))) ?_
 obtain⟨ls,st,bb,es,je,eg,Au⟩:=hW.ex;obtain⟨ms,V1,El⟩:=je.ex;obtain⟨t,gP,M6⟩:=hP.ex;obtain⟨ts,JL,FN⟩:=M6.ex;have F0:=El.len;have Jm:=FN.len;have MH:=hB.ok.len;have l6:=hg.len;have JE:Bq W.store P.2:=by
  have:=hB.ok.Ap;unfold Ci at this;unfold Bq;exact this
 refine aV (σ:=[some (.ref s),some (.ref ap),some (.ref u),some (.ref q),none,none,none,none,none]) rfl ?_;walk_at "w";refine⟨st,W.store,P.2,q,qs,rfl,eg,hg.store,JE,hq,ha,hl,λH1 s1=>?_⟩;rw[aMI];have B1:=s1 _ _ hq;have Aq:=s1 _ _ MW;walk_at "w";refine KH (Src.lst B1) (Src.lst Aq) ?_;refine Y1 (n:=qs.length) (by rw[bX];lia) (by rw[bX];lia) (.inl (by rw[bX]))
  (λi σ' H'=>aO H1 H'/\∃(z5 z6:Option V),σ'=[some (.ref s),some (.ref ap),some (.ref u),some (.ref q),some (.int (Ao W P qs+List.sum (List.zipWith (λp w=>p*w) (qs.take i) (ws.take i)))),z5,z6,none,none]) ⟨aO.refl _,none,none,by simp⟩
  (λi σ' H' hi ⟨s',_⟩=>⟨Src.lst (s' _ _ B1),Src.lst (s' _ _ Aq)⟩) (λi x y σ' H' T hx hy RP nT=>?_) (λσ' H' RO=>?_)
 ·obtain⟨s',z5,z6,e⟩:=RP;subst e;obtain⟨pr,ep,rfl⟩:=iJ hx;obtain⟨wn,ew,rfl⟩:=iJ hy;obtain⟨p0,p1⟩:=ha pr (kP ep);obtain⟨J,j,sT,gT⟩:=nw _ nT;rw[j];refine cV (iC.of gT) rfl ?_;walk_at "w";refine Fg rfl ?_;walk_at "w";refine⟨s'.trans sT,some (.int pr),some (.int wn),?_⟩;rw[Qt ep ew,DD,wj,Fn,zd,Int.add_assoc];rfl
 obtain⟨s',z5,z6,e⟩:=RO;subst e;rw[uC,<-hlen,uC];have S2:=s1.trans s';have HP:=S2 _ _ V1;have HK:=S2 _ _ JL;have es2:=S2 _ _ es;have gP2:=S2 _ _ gP;walk_at "w";refine KH (Src.lst HP) (Src.tup HK) ?_;refine Y1 (n:=W.specs.length) (by rw[bX];lia) (by rw[bX];lia) (.inl (by rw[bX];lia))
  (λi σ' H3=>aO H' H3/\∃(z7 z8:Option V),σ'=[some (.ref s),some (.ref ap),some (.ref u),some (.ref q),some (.int (Ao W P qs+BN qs ws+List.sum (List.zipWith (λm s=>Ek m qs s) (W.specs.take i) (P.1.take i)))),z5,z6,z7,z8]) ⟨aO.refl _,none,none,by simp[BN]⟩
  (λi σ' H3 hi ⟨s3,_⟩=>⟨Src.lst (s3 _ _ HP),Src.tup (s3 _ _ HK)⟩) (λi x y σ' H3 T hx hy RN nT=>?_) (λσ' H3 RM=>?_)
 ·obtain⟨s3,z7,z8,e⟩:=RN;subst e;obtain⟨xm,m,_,rfl,em,hm⟩:=El.get hx;obtain⟨xt,s0,_,rfl,Xh,Ex⟩:=FN.get hy;obtain⟨J,j,sT,gT⟩:=nw _ nT;rw[j];have S3:=S2.trans (s3.trans sT);refine cV (iC.of gT) rfl ?_;walk_at "w";refine Fg rfl ?_;walk_at "w";refine⟨xm,m,xt,s0,q,qs,rfl,hm.tr S3.tr,hg.specs m (kP em),S3 _ _ Ex,hB.st i m s0 em Xh,S3 _ _ hq,ha,hl,λH4 s4=>?_⟩;walk_at "w";refine⟨s3.trans (sT.trans s4),some (.ref xm),some (.ref xt),?_⟩;rw[Qt em Xh,DD,wj,Fn,zd,<-Int.add_assoc (Ao W P qs+BN qs ws)];rfl
 obtain⟨s3,z7,z8,e⟩:=RM;subst e;rw[uC,<-MH,uC];walk_at "w";rw[show Ao W P qs+BN qs ws+List.sum (List.zipWith (λm s=>Ek m qs s) W.specs P.1)=Ak W P ws qs by unfold Ak F1;lia];exact k H3 (S2.trans s3)
inductive tU  (K:W.Frag) (vs:List V) (H:Hp) (Q:VK) (E:XK):Prop
 |mk:∀(p b:Addr) (x y L:Int) (n:Nat),(vs=[.ref p,.ref b,.int L,.int (n:Int)])->bE H p->(H b=some (.lst [.int x,.int y]))->(1<=y)->(y<=50000000000)->Am L->(n<=48)->(∀(q:Addr) (ps:ae) (H':Hp),H' q=some (.lst (ps.map V.int))->ps.length=n->(∀r∈ps,0<=r/\r<=L)->bE H' p->bL p H H'->Q (.ref q) H')->tU K vs H Q E
theorem aDn(tx:Txt K mg a):bT P w K mg base eY 3 a.vL a.vM gz (tU K):=by
 have aFZ:=aD6 (P:=P) (w:=w) (base:=base) tx;refine tx.iz.F.ok aCE (by walk_at "l") λbj A outer s H vs Q E hr h=>?_;obtain⟨p,b,x,y,L,n,rfl ,hh,hb,y0,y1,hL,hn,k⟩:=h;have hu:=gM hr;refine aZ (aF (aM (cR (k:=1) (idx:=[1,0,2]) (N:=bja) (dJ (sc:=aL jZ) (NX:=gz) rfl rfl rfl (by decide +kernel)) rfl (cL (by rfl) tx.eF (aB (aA 3) aD)) (λ_ _ _ _=>(aJ (i:=0) (show(bja:ak).Nodup by decide +kernel))) (dI (by decide)) (λ_ _ _ _=>bU) (λ_ _ _ _=>(bg aFZ hr tx.jv (aB (aA 2) (aB (aA 1) (aB (aA 3) aD)))))))) ?_;have bp:b≠p:=hh.AJ hb (by simp);refine aV (σ:=[some (.ref p),some (.ref b),some (.int L),some (.int (n:Int))]) rfl ?_;walk_at "w";refine⟨by lia,by lia,?_⟩;rw[xy];refine jN (λi us H'=>bE H' p/\bL p H H'/\∃ps:ae,us=ps.map V.int/\ps.length=i/\∀r∈ps,0<=r/\r<=L) ⟨hh,λ_ _ e _=>e,[],rfl,rfl,λr h=>by cases h⟩ (cB (by lia)) (λi us H' hi ⟨_,_,ps,e1,e2,_⟩=>by rw[e1,bX];lia) (λi us H' hi RK=>?_) (λus H' RJ=>?_)
 ·obtain⟨h1,k1,ps,e1,e2,e3⟩:=RK;walk_at "w";refine⟨p,b,x,y,L,rfl,h1,k1 _ _ hb bp,y0,y1,hL,λr H2 r0 r1 h2 k2 _=>?_⟩;refine⟨h2,k1.trans k2,ps ++ [r],by rw[e1,iK];rfl,by rw[lB,e2];rfl,λz hz=>?_⟩;rcases oh.mp hz with h|h
  ·exact e3 z h
  ·rw[rC.mp h];exact⟨r0,r1⟩
 ·obtain⟨h1,k1,ps,e1,e2,e3⟩:=RJ;subst e1;intro q nq;obtain⟨H2,i2,s2,g2⟩:=nw _ nq;rw[i2];walk_at "w";exact k q ps H2 g2 e2 e3 (h1.same s2) (k1.trans s2.keep)
section Ul
variable{α:Type}{W W':Nat->α->List (Wy α)}
def Pz(w:α->List (Wy α))(qs:ae)(i:Nat)(x:α):List (Wy α):=(w x).map λv=>(v.1,v.2.1,v.2.2+v.1*qs.getD i 0)
def Go(W:Nat->α->List (Wy α)):Nat->Nat->α->α->Int->Prop
 |0,_,x,y,v=>y=x/\v=0
 |k+1,i,x,y,v=>∃w∈W i x,∃u,Go W k (i+1) w.2.1 y u/\v=w.2.2+u
theorem Go.le:∀{k i:Nat}{x y:α}{v:Int},Go W k i x y v->wF W k i x<=v
 |0,_,_,_,_,⟨_,e⟩=>by rw[e];exact wc _
 |k+1,i,x,y,v,⟨w,hw,u,hu,e⟩=>by
  have a:=Go.le hu;have b:=oX (wF W k (i+1)) hw;show cW (wF W k (i+1)) (W i x)<=v;lia
theorem Go.ex{n:Nat}{L:Nat->α->Prop}(hl:Lay W n L):∀(k i:Nat) (x:α),i+k<=n->L i x->∃y,Go W k i x y (wF W k i x)
 |0,_,x,_,_=>⟨x,rfl,rfl⟩
 |k+1,i,x,hk,hx=>by
  obtain⟨w,hw,e⟩:=mV (wF W k (i+1)) (hl.ne i x (by lia) hx);obtain⟨y,hy⟩:=Go.ex hl k (i+1) w.2.1 (by lia) (hl.on i x w (by lia) hx hw);exact⟨y,w,hw,_,hy,e.symm⟩
theorem Go.app:∀{j i k:Nat}{x y z:α}{u v:Int},Go W j i x y u->Go W k (i+j) y z v->Go W (j+k) i x z (u+v)
 |0,i,k,x,y,z,u,v,⟨e1,e2⟩,h=>by subst e1 e2;rw[xx,Int.zero_add];exact h
 |j+1,i,k,x,y,z,u,v,⟨w,hw,t,ht,e⟩,h=>by
  rw[show j+1+k=(j+k)+1 by lia];exact⟨w,hw,t+v,Go.app ht (by rw[show i+1+j=i+(j+1) by lia];exact h),by lia⟩
theorem Go.split:∀{j i k:Nat}{x z:α}{v:Int},Go W (j+k) i x z v->∃y t u,Go W j i x y t/\Go W k (i+j) y z u/\v=t+u
 |0,i,k,x,z,v,h=>⟨x,0,v,⟨rfl,rfl⟩,by rw[xx] at h;exact h,by lia⟩
 |j+1,i,k,x,z,v,h=>by
  rw[show j+1+k=(j+k)+1 by lia] at h;obtain⟨w,hw,s,hs,e⟩:=h;obtain⟨y,t,u,h1,h2,e2⟩:=Go.split hs;exact⟨y,w.2.2+t,u,⟨w,hw,t,h1,rfl⟩,by rw[show i+(j+1)=i+1+j by lia];exact h2,by lia⟩
theorem Go.one{i:Nat}{x:α}{w:Wy α}(h:w∈W i x):Go W 1 i x w.2.1 w.2.2:=⟨w,h,0,⟨rfl,rfl⟩,by lia⟩
theorem Go.Pp{i:Nat}{x y:α}{v:Int}(h:Go W 1 i x y v):∃w∈W i x,y=w.2.1/\v=w.2.2:=by
 obtain⟨w,hw,u,⟨e1,e2⟩,e⟩:=h;exact⟨w,hw,e1,by lia⟩
theorem Go.congr:∀{k i:Nat}{x y:α}{v:Int},(∀m,i<=m->m < i+k->W m=W' m)->Go W k i x y v->Go W' k i x y v
 |0,_,_,_,_,_,h=>h
 |k+1,i,x,y,v,e,⟨w,hw,u,hu,ev⟩=>⟨w,by rw[<-e i (by lia) (by lia)];exact hw,u,Go.congr (λm h1 h2=>e m (by lia) (by lia)) hu,ev⟩
theorem P0:∀{k i:Nat},(∀m x f,i<=m->m < i+k->cW f (W m x)=cW f (W' m x))->∀x,wF W k i x=wF W' k i x
 |0,_,_,_=>rfl
 |k+1,i,e,x=>by
  show cW (wF W k (i+1)) (W i x)=cW (wF W' k (i+1)) (W' i x);rw[e i x _ (by lia) (by lia),funext (P0 (k:=k) (i:=i+1) λm x f h1 h2=>e m x f (by lia) (by lia))]
structure tm(W:Nat->α->List (Wy α))(a:α)(i:Nat)(ps:List (α×Int)):Prop where
 nd:(ps.map (·.1)).Nodup
 so:∀p∈ps,Go W i 0 a p.1 p.2
 co:∀y v,Go W i 0 a y v->∃p∈ps,p.1=y/\p.2<=v
theorem tm.zero(W:Nat->α->List (Wy α))(a:α):tm W a 0 [(a,0)]:=by
 refine⟨by simp,λp hp=>?_,λy v ⟨e1,e2⟩=>⟨_,.head _,e1.symm,by rw[e2];exact wc _⟩⟩;rw[rC.mp hp];exact⟨rfl,rfl⟩
theorem tm.on[DecidableEq α]{a:α}{i:Nat}{ps qs:List (α×Int)}(h:tm W a i ps)(hq:iA (AL W i ps) qs):tm W a (i+1) qs:=by
 refine⟨hq.nd,λq om=>?_,λy v g=>?_⟩
 ·obtain⟨p,hp,hc⟩:=Bk.mp (hq.so q om);obtain⟨w,hw,rfl⟩:=fZ.mp hc;exact Go.app (h.so p hp) (Go.one (by rw[xx];exact hw))
 ·obtain⟨z,t,u,h1,h2,e⟩:=Go.split g;obtain⟨w,hw,e1,e2⟩:=Go.Pp h2;rw[xx] at hw;obtain⟨p,hp,p1,p2⟩:=h.co z t h1;obtain⟨q,B1,q1,q2⟩:=hq.co (w.2.1,p.2+w.2.2) (Bk.mpr ⟨p,hp,fZ.mpr ⟨w,by rw[p1];exact hw,rfl⟩⟩);have q2':q.2<=p.2+w.2.2:=q2;exact⟨q,B1,by rw[q1,e1],by lia⟩
theorem tm.lay{n:Nat}{L:Nat->α->Prop}(hl:Lay W n L){a:α}(ha:L 0 a):∀{i:Nat}{y:α}{v:Int},i<=n->Go W i 0 a y v->L i y
 |0,y,v,_,⟨e,_⟩=>by rw[e];exact ha
 |i+1,y,v,hi,g=>by
  obtain⟨z,t,u,h1,h2,e⟩:=Go.split g;obtain⟨w,hw,e1,e2⟩:=Go.Pp h2;rw[xx] at hw;rw[e1];exact hl.on i z w (by lia) (tm.lay hl ha (by lia) h1) hw
structure LM(rows:aw)(p m:Int):Prop where
 at_:∃r∈rows,r.2+r.1*p=m
 le:∀r∈rows,m<=r.2+r.1*p
def Kb(w:α->List (Wy α))(t:α->Int)(ps:List (α×Int)):aw:=ps.flatMap λp=>(w p.1).map λv=>(v.1,p.2+v.2.2+t v.2.1)
theorem Yq{w:α->List (Wy α)}{qs:ae}{h:Nat}{p:Int}{m:Nat}(hm:m≠h):Pz w (qs.set h p) m=Pz w qs m:=by
 funext x
 unfold Pz;rw[vf,LH (Ne.symm hm),<-vf]
theorem aMK{w:α->List (Wy α)}{a:α}{qs:ae}{h n:Nat}{L:Nat->α->Prop}(hl:∀tq,Lay (Pz w tq) n L)(ha:L 0 a)(hn:qs.length=n)(hh:h < n){ps:List (α×Int)}(hp:tm (Pz w qs) a h ps){rows:aw}
  (hr:iA (Kb w (wF (Pz w qs) (n - (h+1)) (h+1)) ps) rows) (p:Int):LM rows p (wF (Pz w (qs.set h p)) n 0 a):=by
 have lo:∀{x y:α} {v:Int} {FQ FP:ae},(∀m,m≠h->Pz w FQ m=Pz w FP m)->Go (Pz w FQ) h 0 x y v->Go (Pz w FP) h 0 x y v:=λe g=>g.congr λm _ h2=>e m (by lia);have up:∀{x y:α} {v:Int} {FQ FP:ae},(∀m,m≠h->Pz w FQ m=Pz w FP m)->Go (Pz w FQ) (n - (h+1)) (h+1) x y v->Go (Pz w FP) (n - (h+1)) (h+1) x y v:=λe g=>g.congr λm h1 _=>e m (by lia);have e1:∀m,m≠h->Pz w (qs.set h p) m=Pz w qs m:=λm hm=>Yq hm;have e2:∀m,m≠h->Pz w qs m=Pz w (qs.set h p) m:=λm hm=>(Yq hm).symm;have eh:(qs.set h p).getD h 0=p:=by rw[vf,QF (by lia)];rfl
 have en:n=h+(1+(n - (h+1))):=by lia
 have LE:∀r∈rows,wF (Pz w (qs.set h p)) n 0 a<=r.2+r.1*p:=λr JA=>by
  obtain⟨q,hq,hc⟩:=Bk.mp (hr.so r JA);obtain⟨v,hv,rfl⟩:=fZ.mp hc;have g1:=hp.so q hq;have Lq:=tm.lay (hl qs) ha (by lia) g1;have Lv:=(hl qs).on h q.1 (v.1,v.2.1,v.2.2+v.1*qs.getD h 0) hh Lq (fZ.mpr ⟨v,hv,rfl⟩);obtain⟨y,g3⟩:=Go.ex (hl qs) (n - (h+1)) (h+1) v.2.1 (by lia) Lv;have g2:Go (Pz w (qs.set h p)) 1 (0+h) q.1 v.2.1 (v.2.2+v.1*p):=Go.one (w:=(v.1,v.2.1,v.2.2+v.1*p)) (by rw[xx];exact fZ.mpr ⟨v,hv,by rw[eh]⟩);have g:=Go.app (lo e2 g1) (Go.app g2 (by rw[xx];exact up e2 g3));rw[<-en] at g;have:=g.le;show _<=q.2+v.2.2+wF (Pz w qs) (n - (h+1)) (h+1) v.2.1+v.1*p;lia
 refine⟨?_,LE⟩;obtain⟨y,g⟩:=Go.ex (hl (qs.set h p)) n 0 a (by lia) ha;have g':=g;rw[en] at g';obtain⟨z,t,u,g1,Gr,e⟩:=Go.split g';rw[xx] at Gr;obtain⟨z2,t2,u2,g2,g3,e'⟩:=Go.split Gr;obtain⟨v',ph,ez,et⟩:=Go.Pp g2;obtain⟨v,hv,rfl⟩:=fZ.mp ph;obtain⟨q,hq,q1,q2⟩:=hp.co z t (lo e1 g1);obtain⟨r,JA,r1,r2⟩:=hr.co (v.1,q.2+v.2.2+wF (Pz w qs) (n - (h+1)) (h+1) v.2.1) (Bk.mpr ⟨q,hq,fZ.mpr ⟨v,by rw[q1];exact hv,rfl⟩⟩);have ez':z2=v.2.1:=ez;have et':t2=v.2.2+v.1*(qs.set h p).getD h 0:=et;rw[eh] at et';have c3:=(up e1 g3).le;rw[ez'] at c3;have r1':r.1=v.1:=r1;have r2':r.2<=q.2+v.2.2+wF (Pz w qs) (n - (h+1)) (h+1) v.2.1:=r2;have:=LE r JA;refine⟨r,JA,?_⟩;rw[r1'] at this ⊢;rw[<-en] at e;lia
end Ul
def AE(g:Int->Int):Prop:=∀p,g (p+2)+g p<=2*g (p+1)
theorem LM.aSf{rows:aw}{m:Int->Int}(h:∀p,LM rows p (m p)):AE m:=λp=>by
 obtain⟨r,hr,e⟩:=(h (p+1)).at_;have a:=(h (p+2)).le r hr;have b:=(h p).le r hr;have e1:r.1*(p+1)=r.1*p+r.1:=by rw[Int.mul_add,Co]
 have e2:r.1*(p+2)=r.1*p+2*r.1:=by rw[Int.mul_add];lia
 lia
theorem AE.step{g:Int->Int}(h:AE g){p:Int}:∀k:Nat,g (p+k+1) - g (p+k)<=g (p+1) - g p
 |0=>by rw[show p+((0:Nat):Int)=p by lia];exact wc _
 |k+1=>by
  have a:=AE.step h (p:=p) k;have b:=h (p+k);rw[show p+((k+1:Nat):Int)=p+k+1 by lia,show p+(k:Int)+1+1=p+k+2 by lia];lia
theorem AE.mono{g:Int->Int}(h:AE g){p q:Int}(hq:p<=q):g (q+1) - g q<=g (p+1) - g p:=by
 have:=AE.step h (p:=p) (q - p).toNat;rw[show p+((q - p).toNat:Int)=q by lia] at this;exact this
structure tV(N:Int)(g:Int->Int)(r:Int):Prop where
 lo:0<=r
 hi:r<=N
 up:∀p,0<=p->p < r->g p < g (p+1)
 dn:∀p,r<=p->p < N->g (p+1)<=g p
theorem tV.best{N:Int}{g:Int->Int}{r:Int}(h:tV N g r){p:Int}(p0:0<=p)(p1:p<=N):g p<=g r:=by
 by_cases e:p<=r
 ·have key:∀k:Nat,(k:Int)<=r->g (r - k)<=g r:=λk=>by
   induction k with
   |zero=>intro _;rw[show r - ((0:Nat):Int)=r by lia];exact wc _
   |succ k ih=>
    intro hk;have a:=ih (by lia);have b:=h.up (r - ((k+1:Nat):Int)) (by lia) (by lia);rw[show r - ((k+1:Nat):Int)+1=r - k by lia] at b;lia
  have:=key (r - p).toNat (by lia);rw[show r - ((r - p).toNat:Int)=p by lia] at this;exact this
 ·have key:∀k:Nat,r+k<=N->g (r+k)<=g r:=λk=>by
   induction k with
   |zero=>intro _;rw[show r+((0:Nat):Int)=r by lia];exact wc _
   |succ k ih=>
    intro hk;have a:=ih (by lia);have b:=h.dn (r+k) (by lia) (by lia);rw[show r+((k+1:Nat):Int)=r+k+1 by lia];lia
  have:=key (p - r).toNat (by lia);rw[show r+((p - r).toNat:Int)=p by lia] at this;exact this
theorem tV.first{N:Int}{g:Int->Int}{r:Int}(h:tV N g r)(z:r≠0):g (r - 1) < g r:=by
 have a:=h.lo;have:=h.up (r - 1) (by lia) (by lia);rw[show r - 1+1=r by lia] at this;exact this
theorem tV.shift{N:Int}{g f:Int->Int}{r c:Int}(h:tV N g r)(e:∀p,f p=c+g p):tV N f r:=
 ⟨h.lo,h.hi,λp a b=>by rw[e,e];have:=h.up p a b;lia,λp a b=>by rw[e,e];have:=h.dn p a b;lia⟩
def bF(want:Int)(ms:List (Int->Int))(p:Int):Int:=p*want+List.sum (ms.map λm=>m p)
theorem YO(want:Int):∀{ms:List (Int->Int)},(∀m∈ms,AE m)->AE (bF want ms)
 |[],_,p=>by
  show(p+2)*want+0+(p*want+0)<=2*((p+1)*want+0)
  rw[Int.add_mul,Int.add_mul];lia
 |m::ms,h,p=>by
  have a:=YO want (λx hx=>h x (ki _ hx)) p;have b:=h m (.head _) p;have e:∀q,bF want (m::ms) q=m q+bF want ms q:=λq=>by
   unfold bF;rw[uY,wj];lia
  rw[e,e,e];lia
section
variable{α:Type}{κ:PK α}{H H':Hp}{v:V}{x:α}{d:Addr}{rows:List (α×V)}
def PK.ho(κ:PK α)(rows:List (α×V)):HO:=match κ with
 |.ik f _=>.dK (rows.map λp=>(f p.1,p.2))
 |.tk f _=>.dT (rows.map λp=>(f p.1,p.2))
theorem PK.ub(κ:PK α)(rows:List (α×V)):AK (κ.ho rows):=by
 cases κ with
 |ik f i=>exact .inl ⟨_,rfl⟩
 |tk f i=>exact .inr ⟨_,rfl⟩
def tW[DecidableEq α](rows:List (α×V))(x:α):Option V:=(rows.find? λp=>decide (p.1=x)).map (·.2)
def Dt[DecidableEq α](rows:List (α×V))(x:α)(u:V):List (α×V):=if rows.any (λp=>decide (p.1=x)) then rows.map (λp=>if p.1=x then (p.1,u) else p) else rows ++ [(x,u)]
theorem Qr{κ':Type}[DecidableEq κ'][DecidableEq α]{f:α->κ'}(inj:∀x y,f x=f y->x=y):∀rows:List (α×V),lH (rows.map λp=>(f p.1,p.2)) (f x)=tW rows x
 |[]=>rfl
 |p::r=>by
  rw[uY];unfold tW;rw[uf];by_cases e:p.1=x
  ·rw[hJ (show(f p.1,p.2).1=f x by rw[e]),mi e];rfl
  ·rw[gA (show ¬(f p.1,p.2).1=f x from λz=>e (inj _ _ z)),rp e];exact Qr inj r
theorem aE3{κ':Type}[DecidableEq κ'][DecidableEq α]{f:α->κ'}(inj:∀x y,f x=f y->x=y)(rows:List (α×V))(u:V):putK (rows.map λp=>(f p.1,p.2)) (f x) u=(Dt rows x u).map λp=>(f p.1,p.2):=by
 unfold putK Dt;have e:((rows.map λp:α×V=>(f p.1,p.2)).any λkv=>decide (kv.1=f x))=rows.any λp=>decide (p.1=x):=by
  rw[List.any_map];congr 1;funext p
  show decide (f p.1=f x)=decide (p.1=x);exact decide_eq_decide.mpr ⟨inj _ _,λz=>by rw[z]⟩
 rw[e];split
 ·rw[kh,kh];congr 1;funext p
  show(if f p.1=f x then (f p.1,u) else (f p.1,p.2))=(f (if p.1=x then (p.1,u) else p).1,(if p.1=x then (p.1,u) else p).2)
  by_cases h:p.1=x
  ·rw[cO h,cO (by rw[h])]
  ·rw[bZ h,bZ λz=>h (inj _ _ z)]
 ·rw[iK];rfl
theorem PK.tW[DecidableEq α](h:Rd H d (κ.ho rows))(hv:κ.pv H v x):kF H d v (tW rows x):=by
 cases κ with
 |ik f i=>
  have ph:v=kV (f x):=hv;subst ph;rw[<-Qr i];exact .inl ⟨_,f x,h,rfl,rfl⟩
 |tk f i=>
  obtain⟨b,rfl,hb⟩:=hv;rw[<-Qr i];exact .inr ⟨_,f x,b,h,rfl,hb,rfl⟩
theorem PK.Ka[DecidableEq α](h:H d=some (κ.ho rows))(hv:κ.pv H v x)(hl:rows.length < 1000000)(u:V):uQ H d v u (upd H d (κ.ho (Dt rows x u))):=by
 have lt:rows.length < sizeLine:=qI hl (cB (by decide));cases κ with
 |ik f i=>
  have ph:v=kV (f x):=hv;subst ph;have z:=uQ.k (k:=f x) (v:=u) (show H d=some (.dK _) from h) (by rw[bX];exact lt);rw[aE3 i] at z;exact z
 |tk f i=>
  obtain⟨b,rfl,hb⟩:=hv;have z:=uQ.t (v:=u) (show H d=some (.dT _) from h) hb (by rw[bX];exact lt);rw[aE3 i] at z;exact z
theorem PK.Ke{σ:St}{Q:VK}(κ:PK α)(h:∀p H',H p=none->aO H H'->H' p=some (κ.ho [])->Q (.ref p) H'):Fd σ H Q:=by
 cases κ with
 |ik f i=>exact Qx λp np=>h p _ np (aO.new np) aN
 |tk f i=>exact uI λp np=>h p _ np (aO.new np) aN
def PK.Jr(κ:PK α)(d:Addr)(o:PySem.Obj)(rows:List (α×V)):It:=match κ with
 |.ik f _=>Cz d o (rows.map λp=>(f p.1,p.2))
 |.tk f _=>DP d o (rows.map λp=>(f p.1,p.2))
theorem PK.Zl{σ:St}{td:TE}{R:It->Hp->Prop}(κ:PK α)(ht:∀Q:VK,Q (.ref d) H->td σ H Q)(h:H d=some (κ.ho rows))(hR:∀o,R (κ.Jr d o rows) (upd H d (.bu o (κ.ho rows)))):PL td σ H R:=by
 cases κ with
 |ik f i=>exact .inr (ht _ ⟨d,_,rfl,h,hR⟩)
 |tk f i=>exact .inl (ht _ ⟨d,_,rfl,h,hR⟩)
theorem PK.rW{σ:St}{nx:St->Hp->Prop}{rt:VK}{g:TG}{tb:TS}{o:PySem.Obj}(κ:PK α)(Pv:Nat->St->Hp->Prop)(h0:Pv 0 σ H)(hl:∀i σ H,i<=rows.length->Pv i σ H->H d=some (.bu o (κ.ho rows)))
  (hs:∀i p σ H T v,rows[i]?=some p->Pv i σ H->H T=none->κ.pv H v p.1->g (.ref T) σ (upd H T (.tup [v,p.2])) λσ2 H2=>tb ⟨Pv (i+1),rt,nx,Pv (i+1)⟩ σ2 H2) (hd:∀σ H,Pv rows.length σ H->nx σ H) :
  ∃W:Nat->Nat->St->Hp->Prop,(∃m,W 0 m σ H)/\∀i m σ H,W i m σ H->
   ((κ.Jr d o rows).stop i H/\nx σ H)\/((κ.Jr d o rows).go i H/\∃N:St->Hp->Prop,(∀σ' H',N σ' H'->∃m',m' < m/\W (i+1) m' σ' H')/\∀x H',(κ.Jr d o rows).oq i H x H'->g x σ H' λσ2 H2=>tb ⟨N,rt,nx,N⟩ σ2 H2):=by
 cases κ with
 |ik f j=>
  refine aKn Pv h0 (λi σ H hi p=>hl i σ H (by rwa[bX] at hi) p) (λi kv σ H T hk p nT=>?_) (λσ H p=>hd σ H (by rwa[bX] at p));rw[kQ] at hk;obtain⟨q,hq,rfl⟩:=kl.mp hk;exact hs i q σ H T _ hq p nT rfl
 |tk f j=>
  refine L2.rW Pv h0 (λi σ H hi p=>hl i σ H (by rwa[bX] at hi) p) (λi kv σ H T b hk p nT hb=>?_) (λσ H p=>hd σ H (by rwa[bX] at p));rw[kQ] at hk;obtain⟨q,hq,rfl⟩:=kl.mp hk;exact hs i q σ H T _ hq p nT ⟨b,rfl,hb⟩
theorem PK.aRP{σ:St}{tk tv:TE}{Q:VK}{u vv:V}(κ:PK α)(hk:∀H1 (Q:VK),aO H H1->Q u H1->tk σ H1 Q)(hv:∀H1 (Q:VK),aO H H1->Q vv H1->tv σ H1 Q)(hp:κ.pv H u x)(h:∀d H',H d=none->aO H H'->H' d=some (κ.ho [(x,vv)])->Q (.ref d) H'):PJ tk tv σ H Q:=by
 cases κ with
 |ik f i=>
  have vp:u=kV (f x):=hp;subst vp;exact .inr λd nd=>hk _ _ (aO.new nd) (hv _ _ (aO.new nd) ⟨f x,rfl,aN,by rw[gN];exact h d _ nd (aO.new nd) aN⟩)
 |tk f i=>
  obtain⟨b,rfl,hb⟩:=hp;exact .inl λd nd=>hk _ _ (aO.new nd) (hv _ _ (aO.new nd) ⟨b,f x,rfl,aO.new nd _ _ hb,aN,by rw[gN];exact h d _ nd (aO.new nd) aN⟩)
def ri(rows:List (α×Int)):List (α×V):=rows.map λp=>(p.1,V.int p.2)
theorem Po[DecidableEq α]:∀rows:List (α×Int),tW (ri rows) x=(za rows x).map V.int
 |[]=>rfl
 |p::r=>by
  show tW ((p.1,V.int p.2)::ri r) x=_;unfold tW za;rw[uf,uf];by_cases e:p.1=x
  ·rw[show decide ((p.1,V.int p.2).1=x)=true from mi e];rfl
  ·rw[show decide ((p.1,V.int p.2).1=x)=false from rp e];exact Po r
theorem Yp[DecidableEq α](rows:List (α×Int))(u:Int):Dt (ri rows) x (.int u)=ri (yz rows x u):=by
 unfold Dt yz ri;rw[List.any_map];show(if (rows.any λp=>decide (p.1=x))=true then _ else _)=_;by_cases h:(rows.any λp=>decide (p.1=x))=true
 ·rw[cO h,cO h,kh,kh];congr 1;funext p
  show(if p.1=x then (p.1,V.int u) else (p.1,V.int p.2))=((if p.1=x then (p.1,u) else p).1,V.int (if p.1=x then (p.1,u) else p).2)
  split <;> rfl
 ·rw[bZ h,bZ h,iK];rfl
theorem xE(rows:List (α×Int)):(ri rows).length=rows.length:=bX ..
theorem OP{rows:List (α×Int)}{i:Nat}{p:α×V}(h:(ri rows)[i]?=some p):∃q,rows[i]?=some q/\p=(q.1,V.int q.2):=by
 unfold ri at h;rw[kQ] at h;obtain⟨q,hq,e⟩:=kl.mp h;exact⟨q,hq,e.symm⟩
theorem tX[DecidableEq α]{g:α->V}:∀{ks:List α},x∈ks->tW (ks.map λy=>(y,g y)) x=some (g x)
 |[],h=>by cases h
 |y::r,h=>by
  rw[uY];unfold tW;rw[uf];by_cases e:y=x
  ·subst e;rw[show decide ((y,g y).1=y)=true from mi rfl];rfl
  ·rw[show decide ((y,g y).1=x)=false from rp e];rcases lC.mp h with z|z
   ·exact absurd z.symm e
   ·exact tX z
theorem aE4[DecidableEq α]{g:α->V}:∀{ks:List α},x∉ks->tW (ks.map λy=>(y,g y)) x=none
 |[],_=>rfl
 |y::r,h=>by
  rw[uY];unfold tW;rw[uf,show decide ((y,g y).1=x)=false from rp λe=>h (by rw[show y=x from e];exact .head _)];exact aE4 λz=>h (ki _ z)
theorem Zk[DecidableEq α]{g:α->V}{ks:List α}{u:V}(h:x∉ks):Dt (ks.map λy=>(y,g y)) x u=(ks.map λy=>(y,g y)) ++ [(x,u)]:=by
 unfold Dt;rw[bZ];intro z;obtain⟨p,hp,e⟩:=DF.mp z;obtain⟨y,hy,rfl⟩:=fZ.mp hp;exact h (by rw[<-show y=x from qw e];exact hy)
end
theorem YN{α:Type}[DecidableEq α]:∀{us ts:List α},us.Nodup->(∀t∈us,t∈ts)->us.length<=ts.length
 |[],_,_,_=>ko _
 |a::us,ts,nd,h=>by
  rw[ug] at nd;have ha:a∈ts:=h a (.head _);have:=YN (us:=us) (ts:=ts.erase a) nd.2 λt ht=>(List.mem_erase_of_ne (λz=>nd.1 (by rw[<-z];exact ht))).mpr (h t (ki _ ht));rw[List.length_erase_of_mem ha] at this;have:=List.length_pos_of_mem ha;rw[oi];lia
section
variable{α:Type}{w:α->List (Wy α)}{a:α}{n:Nat}{Ls:List (List α)}
def Lx(Ls:List (List α))(i:Nat)(x:α):Prop:=∃ps,Ls[i]?=some ps/\x∈ps
structure yy(w:α->List (Wy α))(a:α)(n:Nat)(Ls:List (List α)):Prop where
 len:Ls.length=n+1
 fst:Ls[0]?=some [a]
 nd:∀ps∈Ls,ps.Nodup
 rL:∀ps∈Ls,ps.length<=100
 ne:∀(i:Nat) x,Lx Ls i x->w x≠[]/\(w x).length<=100
 on:∀(i:Nat) x v,i < n->Lx Ls i x->v∈w x->Lx Ls (i+1) v.2.1
theorem yy.lay(h:yy w a n Ls)(qs:ae):Lay (Pz w qs) n (Lx Ls) where
 ne:=λi x hi hx z=>(h.ne i x hx).1 (DK.mp z)
 on:=λi x v hi hx hv=>by
  obtain⟨u,hu,rfl⟩:=fZ.mp hv;exact h.on i x u hi hx hu
theorem yy.ok(h:yy w a n Ls)(qs:ae):Ko (Pz w qs) Ls where
 pos:=by rw[h.len];lia
 nd:=h.nd
 rL:=λps hp=>kr (h.rL ps hp) (by decide)
 ne:=λi ps x hi _ hx=>⟨λz=>(h.ne i x ⟨ps,hi,hx⟩).1 (DK.mp z),by
  unfold Pz;rw[bX];exact kr (h.ne i x ⟨ps,hi,hx⟩).2 (by decide)⟩
 on:=λi ps rs x v hi hj hx hv=>by
  obtain⟨u,hu,rfl⟩:=fZ.mp hv;have li:=(lU.mp hj).1;have:=h.len;obtain⟨rs',e,z⟩:=h.on i x u (by lia) ⟨ps,hi,hx⟩ hu;rw[hj] at e;cases e;exact z
theorem yy.Oc(h:yy w a n Ls):Lx Ls 0 a:=⟨_,h.fst,.head _⟩
theorem yy.hd(h:yy w a n Ls){qs:ae}{i:Nat}{rows:List (α×Int)}(hi:i<=n)(hp:tm (Pz w qs) a i rows):(∀p∈rows,Lx Ls i p.1)/\rows.length<=100:=by
 have key:∀p∈rows,Lx Ls i p.1:=λp vp=>tm.lay (h.lay qs) h.Oc hi (hp.so p vp);refine⟨key,?_⟩;have li:i < Ls.length:=by rw[h.len];lia
 have e:Ls[i]?=some Ls[i]:=eS li;have:=@YN α (λ_ _=>Classical.propDecidable _) (rows.map (·.1)) Ls[i] hp.nd λt ht=>by
  obtain⟨p,vp,rfl⟩:=fZ.mp ht;obtain⟨ps,e',z⟩:=key p vp;rw[e] at e';cases e';exact z
 rw[bX] at this;exact kr this (h.rL _ (kP e))
structure qF(C:Addr)(κ:PK α)(H:Hp)(o:Addr)(a:α)(n:Nat)(w:α->List (Wy α))(Ls:List (List α)):Prop where
 ok:yy w a n Ls
 ex:∃(dx la wd:Addr) (ks:List α) (g:α->Addr),H o=some (.ins C dx [("layers",.ref la),("ways",.ref wd)])/\Fc κ H la Ls/\H wd=some (κ.ho (ks.map λx=>(x,.ref (g x))))/\(∀x∈ks,gZ κ H (g x) (w x))/\∀i x,Lx Ls i x->x∈ks
theorem qF.same{C:Addr}{κ:PK α}{H H':Hp}{o:Addr}(h:qF C κ H o a n w Ls)(s:aO H H'):qF C κ H' o a n w Ls:=by
 obtain⟨dx,la,wd,ks,g,h1,h2,h3,h4,h5⟩:=h.ex;exact⟨h.ok,dx,la,wd,ks,g,s _ _ h1,h2.same s,s _ _ h3,λx hx=>(h4 x hx).same s,h5⟩
end
section
variable{α:Type}{κ:PK α}{H H':Hp}{d:Addr}{rows:List (α×V)}
theorem PK.Vj(h:Rd H d (κ.ho rows)):DR H d:=by
 cases κ with
 |ik f i=>exact .inl ⟨_,h⟩
 |tk f i=>exact .inr ⟨_,h⟩
theorem PK.XS{ts:List α}{g:α->Int}(h:κ.da H d ts g):H d=some (κ.ho (ts.map λx=>(x,V.int (g x)))):=by
 cases κ with
 |ik f i=>
  show H d=some (.dK (List.map _ (List.map _ ts)));rw[kh];exact h
 |tk f i=>
  show H d=some (.dT (List.map _ (List.map _ ts)));rw[kh];exact h
theorem kC{u o:HO}{b:Addr}(hu:AK u)(hd:H d=some u)(e:H b=some o)(n:¬AK o):b≠d:=λz=>by
 rw[z,hd] at e;cases e;exact n hu
theorem GS{xs:List V}:¬AK (.lst xs):=λz=>by rcases z with ⟨_,z⟩|⟨_,z⟩ <;> cases z
theorem KR{xs:List V}:¬AK (.tup xs):=λz=>by rcases z with ⟨_,z⟩|⟨_,z⟩ <;> cases z
theorem aQL{c x:Addr}{fs:List (Str×V)}:¬AK (.ins c x fs):=λz=>by rcases z with ⟨_,z⟩|⟨_,z⟩ <;> cases z
theorem PK.Jb{v:V}{x:α}{u:HO}(h:κ.pv H v x)(hu:AK u)(hd:H d=some u)(k:bL d H H'):κ.pv H' v x:=by
 cases κ with
 |ik f i=>exact h
 |tk f i=>
  obtain⟨b,e,hb⟩:=h;exact⟨b,e,k _ _ hb (kC hu hd hb KR)⟩
theorem gZ.Cg{l:Addr}{ws:List (Wy α)}{u:HO}(h:gZ κ H l ws)(hu:AK u)(hd:H d=some u)(k:bL d H H'):gZ κ H' l ws:=by
 obtain⟨as,e,r⟩:=h.ex;exact⟨as,k _ _ e (kC hu hd e GS),r.imp λ_ _ ⟨v,e,p⟩=>⟨v,k _ _ e (kC hu hd e KR),κ.Jb p hu hd k⟩⟩
theorem aRQ{ks:List α}{g:α->Addr}{rs:List (α×Int)}(h:κ.ho (ks.map λx=>(x,V.ref (g x)))=κ.ho (ri rs)):ks=[]:=by
 cases ks with
 |nil=>rfl
 |cons x ks=>
  cases rs with
  |nil=>
   cases κ with
   |ik f i=>cases h
   |tk f i=>cases h
  |cons r rs=>
   cases κ with
   |ik f i=>
    have e:=HO.dK.inj h;have:=congrArg (λl:List (Key×V)=>(l.head?.map (·.2))) e;cases this
   |tk f i=>
    have e:=HO.dT.inj h;have:=congrArg (λl:List (List Key×V)=>(l.head?.map (·.2))) e;cases this
theorem qF.Cg{C o:Addr}{a:α}{n:Nat}{w:α->List (Wy α)}{Ls:List (List α)}{rs:List (α×Int)}(h:qF C κ H o a n w Ls)(hd:H d=some (κ.ho (ri rs)))(k:bL d H H'):qF C κ H' o a n w Ls:=by
 obtain⟨dx,la,wd,ks,g,h1,⟨as,e,r⟩,h3,h4,h5⟩:=h.ex;have hu:=κ.ub (ri rs);have ks0:ks≠[]:=λz=>by
  have:=h5 0 a h.ok.Oc;rw[z] at this;cases this
 refine⟨h.ok,dx,la,wd,ks,g,k _ _ h1 (kC hu hd h1 aQL),⟨as,k _ _ e (kC hu hd e GS),r.imp λ_ _ ⟨us,e,p⟩=>⟨us,k _ _ e (kC hu hd e GS),p.1,λi v x h1 h2=>κ.Jb (p.2 i v x h1 h2) hu hd k⟩⟩,k _ _ h3 λz=>?_,λx hx=>(h4 x hx).Cg hu hd k,h5⟩;rw[z,hd] at h3;exact ks0 (aRQ (Option.some.inj h3.symm))
end
inductive qW  (K:W.Frag) (C:Addr) (vs:List V) (H:Hp) (Q:VK) (E:XK):Prop
 |mk:∀(x:Addr) (m:MS),(vs=[.ref x])->cT C H x m->m.Good->(∀H',aO H H'->Q (.int (m.least+oF m.pieces)) H')->qW K C vs H Q E
theorem aBL(tx:Txt K mg a):bT P w K mg base eY 1 a.mP a.sU a9a (qW K a.bA):=by
 refine tx.ib.F.ok aBE (by walk_at "l") λbj A outer s H vs Q E hr h=>?_;obtain⟨x,m,rfl ,hm,hg,k⟩:=h;have hu:=gM hr;refine aZ (aF (aM (aI bC (bK (K':=K) (aA 0) rfl) (aP (rc:=Kj K) (Z0 rfl) (by rfl) tx.Ks Yv (aB (cR (k:=1) (idx:=[]) (N:=["piece"]) (dJ (sc:=aL jB) (NX:=a9a) rfl rfl rfl (by decide +kernel)) rfl (bH (K':=K) (bK (K':=K) (aA 0) rfl)) (λ_ _ _ _=>(aJ (i:=0) (show(["piece"]:ak).Nodup by decide +kernel))) (dI (by decide)) (λ_ _ _ _=>bU) (λ_ _ _ _=>(aH (K':=K) (aA 0) aC))) aD))))) ?_;obtain⟨dx,pl,hx,hp⟩:=hm.ex;obtain⟨qs,h1,h2⟩:=hp.ex;refine aV (σ:=[some (.ref x)]) rfl ?_;walk_at "w";refine dM hx tx.cE tx.fQ rfl ?_;walk_at "w";refine dM hx tx.cE tx.gW rfl ?_;refine eM (bR.of h1) ?_;refine ZU (λt=>some t.1) h1 h2 hg.pieces.len (λq t N N' hm hq hN hN'=>?_) ?_
 ·walk_at "w";exact hN _ rfl
 intro l1 n1;obtain⟨H1,i1,s1,e1⟩:=nw _ n1;rw[i1];walk_at "w";refine YD (bR.of e1) ?_;rw[Yg];walk_at "w";exact k H1 s1
inductive mZ  (K:W.Frag) (C:Addr) (vs:List V) (H:Hp) (Q:VK) (E:XK):Prop
 |mk:∀(x:Addr) (m:MS) (out:Int),(vs=[.ref x,.int out])->cT C H x m->m.Good->(m.least<=out)->(out<=m.least+oF m.pieces)->(∀H',aO H H'->Q (.int (cst m.pieces (out - m.least))) H')->mZ K C vs H Q E
theorem xF(tx:Txt K mg a):bT P w K mg base eY 2 a.jF a.nJ bha (mZ K a.bA):=by
 have aDq:=aBL (P:=P) (w:=w) (base:=base) tx;refine tx.dj.F.ok cK (by walk_at "l") λbj A outer s H vs Q E hr h=>?_;obtain⟨x,m,out,rfl ,hm,hg,o0,o1,k⟩:=h;have hu:=gM hr;refine aZ (aE (bD (eN (mD (aU Cm (aA 1) (bK (K':=K) (aA 0) rfl) (bJ _)) (lR (aU rP (aA 1) (aAV (aA 0) tx.cE tx.oa (aDq) (hr.mono (by decide)) tx.ib.b .nil aW) (bJ _))))) (aF (aM c8)) aY)
  (aE (aK (i:=2) cK.nd (aI fA (aA 1) (bK (K':=K) (aA 0) rfl)))
  (aE (aK (i:=3) cK.nd aC)
  (aE (bI PassesOwn.never rfl (bH (K':=K) (bK (K':=K) (aA 0) rfl)) (bQ (K':=K) (n:=2) rfl (aR (aJ (i:=4) cK.nd) (aR (aJ (i:=5) cK.nd) bP))) (aE (aK (i:=6) cK.nd (aP (dZ rfl) (by rfl) tx.jI gB (aB (aA 4) (aB (aA 2) aD))))
  (aE (lT (i:=3) cK.nd rfl (Or.inl rfl) (aI bV (aA 6) (aA 5)) Fj)
  (aF (lT (i:=2) cK.nd rfl (Or.inl rfl) (aA 6) aPs)))))
  (aF (aM (aA 3))))))) ?_
 obtain⟨dx,pl,hx,hp⟩:=hm.ex;obtain⟨qs,h1,h2⟩:=hp.ex;refine aV (σ:=[some (.ref x),some (.int out),none,none,none,none,none]) rfl ?_;walk_at "w";refine dM hx tx.cE tx.fQ rfl ?_;walk_at "w";refine cA (λh=>absurd h (by lia)) (λ_=>?_);walk_at "w";refine⟨x,dx,_,rfl,hx,rfl,?_⟩;walk_at "w";refine⟨x,m,rfl,hm,hg,λH1 s1=>?_⟩;walk_at "w";refine cA (λh=>absurd h (by lia)) (λ_=>?_);have Eu:=s1 _ _ hx;walk_at "w";refine dM Eu tx.cE tx.fQ rfl ?_;walk_at "w";refine dM Eu tx.cE tx.gW rfl ?_;have g1:=s1 _ _ h1;refine eM (bR.of g1) ?_;refine eT (xs:=qs.map V.ref) (λi σ' H'=>H'=H1/\∃c left x4 x5 x6,σ'=[some (.ref x),some (.int out),some (.int left),some (.int c),x4,x5,x6]/\0<=left/\c+cst (m.pieces.drop i) left=cst m.pieces (out - m.least)) ⟨rfl,0,_,_,_,_,rfl,by lia,by rw[List.drop_zero,Int.zero_add]⟩ (λi σ' H' hi ⟨e1,c,left,x4,x5,x6,e,el,ec⟩=>by subst e1;exact bR.of g1) (λi v σ' H' hv RI=>?_) (λσ' H' RH=>?_)
 ·obtain⟨e1,c,left,x4,x5,x6,e,el,ec⟩:=RI;subst e1 e;rw[kQ] at hv;cases hq:qs[i]? with
  |none=>rw[hq] at hv;cases hv
  |some q=>
   rw[hq] at hv;cases hv;have li:i < m.pieces.length:=by rw[<-h2.len];exact(lU.mp hq).1
   have ht:m.pieces[i]?=some m.pieces[i]:=eS li;have e:=s1 _ _ (h2.at_ i q _ hq ht);have ed:m.pieces.drop i=m.pieces[i] :: m.pieces.drop (i+1):=QL li;obtain⟨z1,⟨z2,z3⟩,z4,z5⟩:=hg.pieces.pc _ (Cs li);generalize m.pieces[i]=t at ht e z1 z2 z3 z4 z5 ed;refine cV (iC.of e) rfl ?_;walk_at "w";refine Fg rfl ?_;walk_at "w";refine Fg rfl ?_;walk_at "w";rw[ed] at ec;have N5:c+(max 0 (min left t.1)*t.2+cst (m.pieces.drop (i+1)) (left - max 0 (min left t.1)))=cst m.pieces (out - m.least):=ec;rw[show max 0 (min left t.1)=min t.1 left by lia] at N5;exact⟨rfl,_,_,_,_,_,rfl,by lia,by lia⟩
 ·obtain⟨e1,c,left,x4,x5,x6,e,el,ec⟩:=RH;subst e1 e;walk_at "w";rw[bX,h2.len,Ln] at ec;have N5:c+0=cst m.pieces (out - m.least):=ec;have k':=k H' s1;rw[<-N5,zd] at k';exact k'
theorem aDr{α:Type}{f:α->Int}{A B:List (Wy α)}(h1:∀w∈B,∃v∈A,v.2.2+f v.2.1<=w.2.2+f w.2.1)(h2:∀v∈A,∃w∈B,w.2.2+f w.2.1<=v.2.2+f v.2.1):cW f A=cW f B:=by
 cases A with
 |nil=>
  cases B with
  |nil=>rfl
  |cons w r=>obtain⟨v,hv,_⟩:=h1 w (.head _);cases hv
 |cons v0 r=>
  obtain⟨v,hv,e⟩:=mV f (ws:=v0::r) (by simp);obtain⟨w,hw,l⟩:=h2 v hv;have le:∀u∈B,cW f (v0::r)<=u.2.2+f u.2.1:=λu hu=>by
   obtain⟨v',ph,l'⟩:=h1 u hu;have:=oX f ph;lia
  have:=le w hw;exact aEZ ⟨w,hw,by lia⟩ le
def kn(l:Int):aw->ae
 |[]=>[l]
 |t::r=>l::kn (l+t.1) r
theorem uM(l:Int):∀ps:aw,(kn l ps).length=ps.length+1
 |[]=>rfl
 |t::r=>by show(kn (l+t.1) r).length+1=_;rw[uM];rfl
theorem Pn{o:Int}:∀{ps:aw}{l:Int},Up ps->o∈kn l ps->0<=o - l/\o - l<=oF ps
 |[],l,_,h=>by
  rw[rC.mp h];show 0<=l - l/\l - l<=0;lia
 |t::r,l,⟨h1,h2,h3⟩,h=>by
  have s:=(Kr (p:=0) h3)
  show 0<=o - l/\o - l<=t.1+oF r;rcases lC.mp h with z|z
  ·lia
  ·have:=Pn h3 z;lia
theorem Yo{p:Int}:∀{ps:aw}{l:Int},Up ps->l+pe p ps∈kn l ps
 |[],l,_=>by show l+0∈[l];simp
 |t::r,l,⟨h1,h2,h3⟩=>by
  show l+((if t.2 < p then t.1 else 0)+pe p r)∈l::kn (l+t.1) r;by_cases e:t.2 < p
  ·rw[cO e,show l+(t.1+pe p r)=l+t.1+pe p r by lia];exact ki _ (Yo h3)
  ·rw[bZ e,(Lh (p:=p) λu hu=>by have:=h2 u hu;lia).2,show l+(0+0)=l by lia];exact .head _
def rf(m:MS)(s:ar)(on:Int):List (Wy (ar)):=if on=0 then [(0,lE m s.1 s.2 on,zW m s on)] else (kn m.least m.pieces).map λo=>(-o,lE m s.1 s.2 on,zW m s on+cst m.pieces (o - m.least))
def tw(m:MS)(s:ar):List (Wy (ar)):=(([0,1]:ae).filter (uV s)).flatMap (rf m s)
theorem G1{m:MS}{s:ar}{v:Wy (ar)}:v∈tw m s↔∃on,mq on/\(s.1=on\/s.2=0)/\v∈rf m s on:=by
 unfold tw;rw[Bk];constructor
 ·rintro ⟨on,h,hv⟩;obtain⟨h1,h2⟩:=zg.mp h;exact⟨on,by simpa [mq] using h1,hZ.mp h2,hv⟩
 ·rintro ⟨on,b,h,hv⟩;exact⟨on,zg.mpr ⟨by simpa [mq] using b,hZ.mpr h⟩,hv⟩
theorem Yn{m:MS}{s:ar}{on:Int}{v:Wy (ar)}(h:v∈rf m s on):v.2.1=lE m s.1 s.2 on:=by
 unfold rf at h;split at h
 ·rw[rC.mp h]
 ·obtain⟨o,_,rfl⟩:=fZ.mp h;rfl
theorem YM{m:MS}(g:m.Good)(s:ar)(on:Int):(rf m s on).length<=5:=by
 unfold rf;split
 ·exact Nat.le_of_ble_eq_true rfl
 ·rw[bX,uM];have:=g.pieces.len;lia
theorem aOB{m:MS}(g:m.Good)(s:ar):(tw m s).length<=10:=by
 have a:=YM g s 0;have b:=YM g s 1;unfold tw;rw[List.filter_cons,List.filter_cons,List.filter_nil];split <;> split <;> simp only[DI,DE,lB,Lz] <;> lia
theorem aQM{m:MS}{s:ar}{on:Int}:rf m s on≠[]:=by
 unfold rf;split
 ·exact λz=>by cases z
 ·intro z;have:=congrArg List.length z;rw[bX,uM] at this;simp at this
theorem aQN{m:MS}{s:ar}(b:mq s.1):tw m s≠[]:=λz=>by
 cases e:rf m s s.1 with
 |nil=>exact aQM e
 |cons v r=>
  have:v∈tw m s:=G1.mpr ⟨s.1,b,.inl rfl,by rw[e];exact .head _⟩;rw[z] at this;cases this
theorem aQO{m:MS}(g:m.Good)(p:Int):(∀o∈kn m.least m.pieces,-AB m p<=cst m.pieces (o - m.least)+(-o)*p)/\∃o∈kn m.least m.pieces,cst m.pieces (o - m.least)+(-o)*p = -AB m p:=by
 have up:=g.pieces.UB;have e:∀o:Int,(-o)*p = -(p*(o - m.least)) - p*m.least:=λo=>by
  rw[Int.mul_sub,Int.neg_mul,Cp o p];lia
 have lo:=Kr (p:=p) up;constructor
 ·intro o ho;obtain⟨a1,a2⟩:=Pn up ho;have:=(best (p:=p) up a1 a2).1;rw[e];unfold AB;lia
 ·refine⟨m.least+pe p m.pieces,Yo up,?_⟩;have e2:m.least+pe p m.pieces - m.least=pe p m.pieces:=by lia
  have:=((best (p:=p) up (left:=pe p m.pieces) (by lia) (by lia)).2).mpr ⟨by lia,by lia⟩;rw[e,e2];unfold AB;lia
theorem aKw{m:MS}(g:m.Good)(qs:ae)(i:Nat)(s:ar)(f:ar->Int):cW f (Pz (tw m) qs i s)=cW f (Wr m qs i s):=by
 obtain⟨c1,c2⟩:=aQO g (qs.getD i 0);refine aDr (λw hw=>?_) (λv hv=>?_)
 ·obtain⟨on,b,may,rfl⟩:=uL.mp hw;show ∃v∈Pz (tw m) qs i s,v.2.2+f v.2.1<=zW m s on - on*AB m (qs.getD i 0)+f (lE m s.1 s.2 on);rcases b with rfl|rfl
  ·refine⟨_,fZ.mpr ⟨_,G1.mpr ⟨0,.inl rfl,may,by unfold rf;rw[cO rfl];exact .head _⟩,rfl⟩,?_⟩;show zW m s 0+0*qs.getD i 0+f (lE m s.1 s.2 0)<=_;lia
  ·obtain⟨o,ho,eo⟩:=c2;refine⟨_,fZ.mpr ⟨_,G1.mpr ⟨1,.inr rfl,may,by unfold rf;rw[bZ (by decide)];exact fZ.mpr ⟨o,ho,rfl⟩⟩,rfl⟩,?_⟩;show zW m s 1+cst m.pieces (o - m.least)+(-o)*qs.getD i 0+f (lE m s.1 s.2 1)<=_;lia
 ·obtain⟨v,ph,rfl⟩:=fZ.mp hv;obtain⟨on,b,may,h1⟩:=G1.mp ph;refine⟨_,uL.mpr ⟨on,b,may,rfl⟩,?_⟩;show zW m s on - on*AB m (qs.getD i 0)+f (lE m s.1 s.2 on)<=v.2.2+v.1*qs.getD i 0+f v.2.1;rw[Yn h1];unfold rf at h1;rcases b with rfl|rfl
  ·rw[cO rfl] at h1;rw[rC.mp h1];show _<=zW m s 0+0*qs.getD i 0+_;lia
  ·rw[bZ (by decide)] at h1;obtain⟨o,ho,rfl⟩:=fZ.mp h1;have:=c1 o ho;show _<=zW m s 1+cst m.pieces (o - m.least)+(-o)*qs.getD i 0+_;lia
theorem aRR{m:MS}(g:m.Good)(qs:ae)(s:ar):wF (Pz (tw m) qs) qs.length 0 s=Ek m qs s:=P0 (λi x f _ _=>aKw g qs i x f) s
theorem aQP{m:MS}(g:m.Good){s:ar}(h:we m s){n:Nat}{Ls:List (aw)}(hl:Gz m s Ls)(len:Ls.length=n+1):yy (tw m) s n Ls where
 len:=len
 fst:=by
  have e:Ls[0]?=some Ls[0]:=eS (by lia);obtain⟨h1,h2⟩:=hl.at_ 0 _ e;rw[e];congr 1;exact Zr h1 (List.pairwise_singleton _ _) λx=>by rw[h2];exact rC.symm
 nd:=(aOp g h [] (by lia) hl).nd
 rL:=λps hp=>by
  obtain⟨i,hi⟩:=ve hp;obtain⟨h1,h2⟩:=hl.at_ i ps hi;exact kr (Rc.rL g h (O9 h1) λk hk=>(h2 k).mp hk) (by decide)
 ne:=λi x ⟨ps,hi,hx⟩=>⟨aQN ((Rc.st g h (((hl.at_ i ps hi).2 x).mp hx)).1).1,kr (aOB g x) (by decide)⟩
 on:=λi x v hi ⟨ps,hp,hx⟩ hv=>by
  have e:Ls[i+1]?=some Ls[i+1]:=eS (by lia);obtain⟨on,b,may,h1⟩:=G1.mp hv;rw[Yn h1];exact⟨_,e,((hl.at_ (i+1) _ e).2 _).mpr ⟨x,((hl.at_ i ps hp).2 x).mp hx,on,b,may,rfl⟩⟩
def BQ(s:SS)(l:Int):List (Wy Int):=(upTo s l 1).map λy=>(dr s l y,y,0)
theorem aKx(s:SS)(qs:ae)(i:Nat)(l:Int)(f:Int->Int):cW f (Pz (BQ s) qs i l)=cW f (Wl s qs i l):=by
 refine aDr (λw hw=>?_) (λv hv=>?_)
 ·obtain⟨y,hy,rfl⟩:=fZ.mp hw;refine⟨_,fZ.mpr ⟨_,fZ.mpr ⟨y,hy,rfl⟩,rfl⟩,?_⟩;show 0+dr s l y*qs.getD i 0+f y<=qs.getD i 0*dr s l y+f y;rw[Cp];lia
 ·obtain⟨v,ph,rfl⟩:=fZ.mp hv;obtain⟨y,hy,rfl⟩:=fZ.mp ph;refine⟨_,fZ.mpr ⟨y,hy,rfl⟩,?_⟩;show qs.getD i 0*dr s l y+f y<=0+dr s l y*qs.getD i 0+f y;rw[Cp];lia
theorem aRS(s:SS)(qs:ae)(l:Int):wF (Pz (BQ s) qs) qs.length 0 l=U4 s qs l:=P0 (λi x f _ _=>aKx s qs i x f) l
theorem aQQ{s:SS}(g:s.Good){l:Int}(h0:0<=l)(h1:l<=s.bz)(n:Nat):yy (BQ s) l n (wo s l n) where
 len:=PV s l n
 fst:=by rw[Pr (ko _)];exact congrArg some (aQF h0 h1)
 nd:=(aQG g (List.replicate n 0) h0 h1 |>.nd |> λz=>by rwa[QB] at z)
 rL:=λps hp=>by
  obtain⟨i,hi⟩:=ve hp;rw[(lQ hi).1];exact kr (tT g l _) (by decide)
 ne:=λi x ⟨ps,hi,hx⟩=>by
  rw[(lQ hi).1] at hx;obtain⟨x0,x1⟩:=PU hx;refine⟨λz=>?_,?_⟩
  ·have:=aE2 g x0 x1;rw[DK.mp z] at this;cases this
  ·unfold BQ;rw[bX];exact kr (tT g x 1) (by decide)
 on:=λi x v hi ⟨ps,hp,hx⟩ hv=>by
  rw[(lQ hp).1] at hx;obtain⟨y,hy,rfl⟩:=fZ.mp hv;exact⟨_,Pr (by lia),YR g hx hy⟩
inductive Lo where
 |ma (m:MS) (s:ar) (Ls:List (aw))
 |st (s:SS) (l:Int) (Ls:cj)
def Lo.α:Lo->Type
 |.ma ..=>ar
 |.st ..=>Int
def Lo.κ:(x:Lo)->PK x.α
 |.ma ..=>κS
 |.st ..=>κI
def Lo.w:(x:Lo)->x.α->List (Wy x.α)
 |.ma m _ _=>tw m
 |.st s _ _=>BQ s
def Lo.a:(x:Lo)->x.α
 |.ma _ s _=>s
 |.st _ l _=>l
def Lo.Ls:(x:Lo)->List (List x.α)
 |.ma _ _ L=>L
 |.st _ _ L=>L
def Lo.val(x:Lo)(qs:ae):Int:=wF (Pz x.w qs) qs.length 0 x.a
def rG(C:Addr)(n:Nat)(H:Hp)(o:Addr)(x:Lo):Prop:=qF C x.κ H o x.a n x.w x.Ls
theorem rG.same{C:Addr}{n:Nat}{H H':Hp}{o:Addr}{x:Lo}(h:rG C n H o x)(s:aO H H'):rG C n H' o x:=qF.same h s
def XR(W:WS)(P:Ps)(n:Nat)(du:List Lo):Prop:=∀qs:ae,qs.length=n->List.sum (du.map λx=>x.val qs)=List.sum (F1 W P qs)+Ao W P qs
theorem YL{w p:Int}:∀{qs ws:ae}{h:Nat},h < qs.length->ws[h]?=some w->BN (qs.set h p) ws=BN (qs.set h 0) ws+p*w
 |[],_,_,l,_=>by simp at l
 |q::qs,[],h,_,e=>by simp at e
 |q::qs,v::ws,0,_,e=>by
  cases e;show List.sum (p*w::_)=List.sum (0*w::_)+p*w;rw[wj,wj];show p*w+List.sum (List.zipWith (λp w=>p*w) qs ws)=0*w+List.sum (List.zipWith (λp w=>p*w) qs ws)+p*w;lia
 |q::qs,v::ws,h+1,l,e=>by
  have:=YL (p:=p) (h:=h) (qs:=qs) (ws:=ws) (by simpa using l) e;show List.sum (q*v::List.zipWith (λp w=>p*w) (qs.set h p) ws)=List.sum (q*v::List.zipWith (λp w=>p*w) (qs.set h 0) ws)+p*w;rw[wj,wj];have a0a:List.sum (List.zipWith (λp w=>p*w) (qs.set h p) ws)=List.sum (List.zipWith (λp w=>p*w) (qs.set h 0) ws)+p*w:=this;lia
theorem aOC{W:WS}{P:Ps}{n:Nat}{du:List Lo}(hl:XR W P n du){qs ws:ae}{h:Nat}{w:Int}(hq:qs.length=n)(hh:h < n)(hw:ws[h]?=some w)(p:Int) :
  Ak W P ws (qs.set h p)=BN (qs.set h 0) ws+bF w (du.map λx p=>x.val (qs.set h p)) p:=by
 unfold Ak bF;rw[YL (by lia) hw,kh];have:=hl (qs.set h p) (by rw[wk];exact hq);have e:List.sum (List.map ((λm:Int->Int=>m p) ∘ λ(x:Lo) p=>x.val (qs.set h p)) du)=List.sum (du.map λx=>x.val (qs.set h p)):=rfl;rw[e,this];lia
theorem Zj(t:ar):∀(ps:aw) (l:Int),kn l (ps ++ [t])=kn l ps ++ [l+oF ps+t.1]
 |[],l=>by show [l,l+t.1]=[l] ++ [l+0+t.1];rw[zd];rfl
 |p::r,l=>by
  show l::kn (l+p.1) (r ++ [t])=l::(kn (l+p.1) r ++ [l+(p.1+oF r)+t.1]);rw[Zj t r,show l+p.1+oF r+t.1=l+(p.1+oF r)+t.1 by lia]
theorem Zi:∀(ps:aw) (l:Int),(kn l ps)[(kn l ps).length - 1]?=some (l+oF ps)
 |[],l=>by show some l=some (l+0);rw[zd]
 |p::r,l=>by
  have e:(kn l (p::r)).length - 1=((kn (l+p.1) r).length - 1)+1:=by
   have:=uM (l+p.1) r;show(kn (l+p.1) r).length+1 - 1=_;lia
  rw[e];show(kn (l+p.1) r)[(kn (l+p.1) r).length - 1]?=some (l+(p.1+oF r));rw[Zi r,show l+p.1+oF r=l+(p.1+oF r) by lia]
theorem oY.Kn{α:Type}{κ:PK α}{H H':Hp}{a p:Addr}{w:Wy α}{xs:List V}(h:oY κ H a w)(gp:H p=some (.lst xs))(k:bL p H H'):oY κ H' a w:=
 let ⟨v,e,hp⟩:=h;⟨v,k _ _ e (λz=>by rw[z,gp] at e;cases e),κ.Lg hp gp k⟩
theorem Ym{α:Type}[DecidableEq α]{ks:List α}{x:α}{g:α->Addr}{l:Addr}(h:x∉ks):(ks.map λy=>(y,V.ref (g y))) ++ [(x,V.ref l)]=(ks ++ [x]).map λy=>(y,V.ref (if y=x then l else g y)):=by
 rw[iK,uY,vb,cO rfl];congr 1;refine LF λy hy=>?_;rw[bZ λz=>h (by rw[<-z];exact hy)]
inductive aAd  (K:W.Frag) (CL:Addr) (vs:List V) (H:Hp) (Q:VK) (E:XK):Prop
 |mk:∀(x dx:Addr) (u v:V),(vs=[.ref x,u,v])->(H x=some (.ins CL dx []))->(∀H',H' x=some (.ins CL dx [("layers",u),("ways",v)])->bL x H H'->Q .bt H')->aAd K CL vs H Q E
theorem aAe(tx:Txt K mg a):bT P w K mg base eY 1 a.sV a.aBl aPa (aAd K a.cS):=by
 refine tx.fw.F.ok aFA (by walk_at "l") λbj A outer s H vs Q E hr h=>?_;obtain⟨x,dx,u,v,rfl ,hx,k⟩:=h;have hu:=gM hr;refine aZ (aE (cI (K':=K) (aA 0) (aA 1) rfl)
  (aF (cI (K':=K) (aA 0) (aA 2) rfl))) ?_
 refine aV (σ:=[some (.ref x),some u,some v]) rfl ?_;walk_at "w";refine gC (fs':=[("layers",u)]) hx tx.kX tx.oA (by simp) rfl ?_;obtain⟨H1,i1,k1,g1⟩:=wr H x _;rw[i1];walk_at "w";refine gC (fs':=[("layers",u),("ways",v)]) g1 tx.kX tx.tF (by simp) rfl ?_;obtain⟨H2,i2,k2,g2⟩:=wr H1 x _;rw[i2];walk_at "w";exact k H2 g2 (k1.trans k2)
inductive lF  (K:W.Frag) (CL:Addr) (vs:List V) (H:Hp) (Q:VK) (E:XK):Prop
 |mk:∀(α:Type) (κ:PK α) (o:Addr) (v:V) (p:Int) (x a:α) (n i:Nat) (w:α->List (Wy α)) (Ls:List (List α)),(vs=[.ref o,v,.int p])->qF CL κ H o a n w Ls->κ.pv H v x->Lx Ls i x->Am p->(∀l H',aO H H'->gZ κ H' l ((w x).map λv=>(v.1,v.2.1,v.2.2+v.1*p))->Q (.ref l) H')->lF K CL vs H Q E
theorem lG(tx:Txt K mg a):bT P w K mg base eY 1 a.iM a.mQ ava (lF K a.cS):=by
 refine tx.b8.F.ok uT (by walk_at "l") λbj A outer s H vs Q E hr h=>?_;obtain⟨α,κ,o,v,p,x,x0,n,i,w,Ls,rfl ,hL,hv,hx,hp,k⟩:=h;have hu:=gM hr;refine aZ (aF (aM (cR (k:=3) (idx:=[2]) (N:=aJa) (dJ (sc:=aL fH) (NX:=ava) rfl rfl rfl (by decide +kernel)) rfl (bH (K':=K) (iO hu (bK (K':=K) (aA 0) rfl) (aA 1))) (λ_ _ _ _=>(bQ (K':=K) (n:=3) rfl (aR (aJ (i:=0) (show(aJa:ak).Nodup by decide +kernel)) (aR (aJ (i:=1) (show(aJa:ak).Nodup by decide +kernel)) (aR (aJ (i:=2) (show(aJa:ak).Nodup by decide +kernel)) bP))))) (pD (cU (by decide) (cU (by decide) (cU (by decide) lX)))) (λ_ _ _ _=>bU) (λ_ _ _ _=>(xT (aA 0) (aA 1) (aI bC (aA 2) (aI bV (aA 0) (aA 3)))))))) ?_
 haveI:DecidableEq α:=λ_ _=>Classical.propDecidable _
 obtain⟨dx,la,wd,ks,g,h1,h2,h3,h4,h5⟩:=hL.ex;have hk:=h5 i x hx;obtain⟨as,gl,rl⟩:=(h4 x hk).ex;have si:=rl.len;have lw:=(hL.ok.ne i x hx).2;obtain⟨p0,p1⟩:=hp;refine aV (σ:=[some (.ref o),some v,some (.int p)]) rfl ?_;walk_at "w";refine dM h1 tx.kX tx.tF rfl ?_;walk_at "w";have ym:=κ.tW (.inl h3) hv;rw[tX hk] at ym;refine⟨wd,_,rfl,ym,?_⟩;walk_at "w";refine eM (bR.of gl) ?_;refine fR (xs:=as.map V.ref) (λj us H'=>aO H H'/\∃bs:au,us=bs.map V.ref/\bs.length<=j/\RL (oY κ H') bs (((w x).take j).map λv=>(v.1,v.2.1,v.2.2+v.1*p))) ⟨aO.refl _,[],rfl,dQ _,RL.nil⟩ (cB (by rw[bX];lia))
  (λj us H' hj ⟨s',bs,e,l1,r⟩=>⟨bR.of (s' _ _ gl),by rw[e,bX];exact l1⟩) (λj u us H' hu RG=>?_) (λus H' RF=>?_)
 ·obtain⟨s',bs,e,l1,r⟩:=RG;obtain⟨a1,y,ea,rfl,ey,vv,g1,sr⟩:=rl.gt hu;have Wf:=s' _ _ g1;refine cV (iC.of Wf) rfl ?_;walk_at "w";intro T nT;obtain⟨H2,i2,s2,g2⟩:=nw _ nT;rw[i2];refine⟨s'.trans s2,bs ++ [T],by rw[e,iK];rfl,by rw[lB];simp;lia,?_⟩;rw[dG ey,iK];exact RL.snoc (r.imp λ_ _ z=>z.same s2) ⟨vv,g2,κ.gX sr (s'.trans s2)⟩
 ·obtain⟨s',bs,e,l1,r⟩:=RF;rw[bX,si,uC] at r;intro l nl;obtain⟨H2,i2,s2,g2⟩:=nw _ nl;rw[i2];walk_at "w";exact k l H2 (s'.trans s2) ⟨bs,by rw[g2,e],r.imp λ_ _ z=>z.same s2⟩
inductive jL  (K:W.Frag) (CL t:Addr) (vs:List V) (H:Hp) (Q:VK) (E:XK):Prop
 |mk:∀(α:Type) (κ:PK α) (o q:Addr) (a:α) (n:Nat) (w:α->List (Wy α)) (Ls:List (List α)) (qs:ae),(vs=[.ref o,.ref q])->(H t=some (.pq cP cQ))->qF CL κ H o a n w Ls->(H q=some (.lst (qs.map V.int)))->((∀n∈qs,Am n))->(qs.length=n)->(n<=48)->(∀r H',aO H H'->H r=none->XD κ H' r Ls (λi=>wF (Pz w qs) (n - i) i)->Q (.ref r) H')->jL K CL t vs H Q E
theorem rH(tx:Txt K mg a):bT P w K mg base eY 5 a.gI a.gJ aIa (jL K a.cS a.dN):=by
 have aAf:=λcv:Heap=>zV (P:=P) (w:=w) (base:=cv) tx;refine tx.cm.F.okC tx.kN rE (λvs H Q E h=>?_) (λA outer s H vs Q E hr h=>?_)
 ·obtain⟨α,κ,o,q,x0,n,w,Ls,qs,rfl,_⟩:=h;rfl
 ·obtain⟨α,κ,o,q,x0,n,w,Ls,qs,rfl ,gt,hL,hq,ha,hn,hl,k⟩:=h;have hu:=gM hr;refine aZ (aF (aM (aGS (psL:=["hour","place"]) (N:=bsa) (idx:=[1,0]) (sp:=λC=>jK K C) (kc:=1) (aAf) (hr.mono (by decide)) (by rfl) tx.bx.g tx.bx.F.kp tx.bx.b (λ_=>rfl) (dJ (sc:=aL cD) (NX:=aIa) rfl rfl rfl (by decide +kernel)) rfl rfl rfl rfl (λ_ _ _ _ us hl=>by obtain⟨_,_,rfl⟩:=Od us hl;rfl) (aIc (bK (K':=K) (aA 0) rfl) (aIb (N:=bsa) (n:=2) (idx:=[1,0]) rfl tx.kN.hd rfl rfl (dJ (sc:=aL cD) (NX:=aIa) rfl rfl rfl (by decide +kernel)))) (λ_ _ _ _ _ _ _ _ hr hu=>(jT (aA 3) tx.kX tx.cy (lG tx) (hr.mono (by decide)) tx.b8.b .nil aW (aB (aA 1) (aB (aH (K':=K) (aA 2) (aA 0)) aD))))))) ?_;obtain⟨dx,la,wd,ks,g,h1,h2,h3,h4,h5⟩:=hL.ex;have len:=hL.ok.len;refine aV (σ:=[some (.ref o),some (.ref q)]) rfl ?_;walk_at "w";refine dM h1 tx.kX tx.oA rfl ?_;walk_at "w";refine⟨gt,λf c' H3 Cc s3 hc hC=>?_⟩;refine⟨α,κ,la,f,Ls,Pz w qs,λi x=>i < n/\Lx Ls i x,rfl,h2.same s3,hL.ok.ok qs,by lia,⟨⟨_,hC,λH4 h v x Q s4 Nk hv hQ=>?_⟩⟩,λi ps x e1 e2 hx=>⟨by lia,ps,e1,hx⟩,λr H4 s4 nr hd=>?_⟩
  ·obtain⟨hh,Nk⟩:=Nk;have IW:=s3.trans s4;have eh:qs[h]?=some qs[h]:=eS (by lia);have ap:=ha _ (kP eh);refine⟨s4 _ _ hc,rfl,?_⟩;refine aQH (σ:=[some (.int (h:Int)),some v,some (.ref q),some (.ref o)]) rfl ?_;have hq4:=IW _ _ hq;have EJ:=IW _ _ h1;have ix:uP (qs.map V.int) (h:Int)=some (.int qs[h]):=iD (by rw[kQ,eh];rfl);walk_at "w";refine⟨_,_,_,rfl,EJ,rfl,?_⟩;walk_at "w";refine⟨α,κ,o,v,qs[h],x,x0,n,h,w,Ls,rfl,hL.same IW,hv,Nk,ap,λl H5 s5 hw=>?_⟩;refine hQ l H5 s5 ?_;unfold Pz;rw[vf,eh];exact hw
  ·refine k r H4 (s3.trans s4) (s3.free nr) ?_;rw[show Ls.length - 1=n by lia] at hd;exact hd
inductive iP  (K:W.Frag) (CL:Addr) (vs:List V) (H:Hp) (Q:VK) (E:XK):Prop
 |mk:∀(α:Type) (κ:PK α) (o:Addr) (a:α) (n:Nat) (w:α->List (Wy α)) (Ls:List (List α)),(vs=[.ref o])->qF CL κ H o a n w Ls->(∀d H',H d=none->aO H H'->H' d=some (κ.ho (ri [(a,0)]))->Q (.ref d) H')->iP K CL vs H Q E
theorem o7(tx:Txt K mg a):bT P w K mg base eY 1 a.fM a.jG a9a (iP K a.cS):=by
 refine tx.cg.F.ok oO (by walk_at "l") λbj A outer s H vs Q E hr h=>?_;obtain⟨α,κ,o,x0,n,w,Ls,rfl ,hL,k⟩:=h;have hu:=gM hr;refine aZ (aF (aM (aFw hu (aH (K':=K) (aH (K':=K) (bK (K':=K) (aA 0) rfl) aC) aC) aC))) ?_;obtain⟨dx,la,wd,ks,g,h1,⟨as,g1,ra⟩,h3,h4,h5⟩:=hL.ex;have la0:0 < as.length:=by rw[ra.len,hL.ok.len];lia
 have e0:as[0]?=some as[0]:=eS la0;obtain⟨us,gb,sr⟩:=ra.at_ 0 _ _ e0 hL.ok.fst;generalize as[0]=b at e0 gb;obtain⟨u,rfl⟩ : ∃u,us=[u]:=List.length_eq_one_iff.mp sr.1;have pv:=sr.2 0 u x0 rfl rfl;refine aV (σ:=[some (.ref o)]) rfl ?_;walk_at "w";refine κ.aRP (u:=u) (vv:=.int 0) (x:=x0) (λH1 Q s q=>?_) (λH1 Q s q=>?_) pv k
 ·have vx:=s _ _ h1;have Wf:=s _ _ g1;have V8:=s _ _ gb;have ix0:uP (as.map V.ref) 0=some (.ref b):=iD (j:=0) (by rw[kQ,e0];rfl);walk_at "w";refine dM vx tx.kX tx.oA rfl ?_;walk_at "w";exact q
 ·walk_at "w";exact q
inductive jM  (K:W.Frag) (CL:Addr) (vs:List V) (H:Hp) (Q:VK) (E:XK):Prop
 |mk:∀(α:Type) (κ:PK α) (o d:Addr) (a:α) (n i:Nat) (w:α->List (Wy α)) (Ls:List (List α)) (rows:List (α×Int)) (qs:ae) (p:Int),(vs=[.ref o,.ref d,.int p])->qF CL κ H o a n w Ls->(H d=some (κ.ho (ri rows)))->(tm (Pz w qs) a i rows)->(i < n)->(qs.getD i 0=p)->Am p->(∀q H' ob vj,H q=none->bL d H H'->H' d=some (.bu ob (κ.ho (ri rows)))->tm (Pz w qs) a (i+1) vj->H' q=some (κ.ho (ri vj))->Q (.ref q) H')->jM K CL vs H Q E
theorem rJ(tx:Txt K mg a):bT P w K mg base eY 2 a.gK a.kM a6a (jM K a.cS):=by
 have xG:=lG (P:=P) (w:=w) (base:=base) tx;refine tx.cn.F.ok cH (by walk_at "l") λbj A outer s H vs Q E hr h=>?_;obtain⟨α,κ,o,d,x0,n,i,w,Ls,rows,qs,p,rfl ,hL,hd,hH,hi,Dq,hp,k⟩:=h;have hu:=gM hr;refine aZ (aE (aK (i:=3) cH.nd eQ)
  (aE (bI PassesOwn.never rfl (yA (aA 1)) (bQ (K':=K) (n:=2) rfl (aR (aJ (i:=4) cH.nd) (aR (aJ (i:=5) cH.nd) bP))) (aF (bI PassesOwn.never rfl (bH (K':=K) (jT (aA 0) tx.kX tx.cy (xG) (hr.mono (by decide)) tx.b8.b .nil aW (aB (aA 4) (aB (aA 2) aD)))) (bQ (K':=K) (n:=3) rfl (aR (aJ (i:=6) cH.nd) (aR (aJ (i:=7) cH.nd) (aR (aJ (i:=8) cH.nd) bP)))) (aF (fG hu (aA 3) (aA 7) (aP (dZ rfl) (by rfl) tx.jI gB (aB (aI bC (aA 5) (aA 8)) (aB (kL hu (aA 3) (aA 7) (aI bC (aA 5) (aA 8))) aD))))))))
  (aF (aM (aA 3))))) ?_
 haveI:DecidableEq α:=λ_ _=>Classical.propDecidable _
 obtain⟨uv,D5⟩:=hL.ok.hd (by lia) hH;have hu:=κ.ub (ri rows);refine aV (σ:=[some (.ref o),some (.ref d),some (.int p),none,none,none,none,none,none]) rfl ?_;walk_at "w";refine κ.Ke λb H1 nb s1 gb=>?_;have Gi:=s1 _ _ hd;have bd:b≠d:=λz=>by rw[z,hd] at nb;cases nb
 walk_at "w";refine κ.Zl (λQ q=>by walk_at "go";exact q) Gi λob=>?_;obtain⟨H2,i2,k2,g2⟩:=wr H1 d _;rw[i2];have K2:bL d H H2:=λc u e n=>k2 _ _ (s1 _ _ e) n;refine κ.rW (λj σ' H'=>∃(z4 z5 z6 z7 z8:Option V) (cur:List (α×Int)),σ'=[some (.ref o),some (.ref d),some (.int p),some (.ref b),z4,z5,z6,z7,z8]/\bL d H H'/\H' d=some (.bu ob (κ.ho (ri rows)))/\H' b=some (κ.ho (ri cur))/\iA (AL (Pz w qs) i (rows.take j)) cur/\cur.length<=100*j)
  ⟨_,_,_,_,_,[],rfl,K2,g2,k2 _ _ gb bd,iA.nil,dQ _⟩ (λj σ' H' hj ⟨_,_,_,_,_,_,_,_,h,_⟩=>h) (λj pr σ' H3 T v hk ⟨z4,z5,z6,z7,z8,cur,e,k3,yt,Dj,hM,lc⟩ nT hv=>?_) (λσ' H3 ⟨z4,z5,z6,z7,z8,cur,e,k3,yt,Dj,hM,lc⟩=>?_)
 ·subst e;obtain⟨r,er,rfl⟩:=OP hk;have lj:j < rows.length:=(lU.mp er).1;have hx:=uv r (kP er);have lw:=(hL.ok.ne i r.1 hx).2;obtain⟨H4,i4,s4,gT⟩:=nw _ nT;rw[i4];have k4:bL d H H4:=λc u e n=>s4 _ _ (k3 _ _ e n);have A8:=s4 _ _ yt;have xq:=s4 _ _ Dj;have L4:=hL.Cg hd k4;have MZ:=κ.gX hv s4;obtain⟨dx,la,wd,ks,g,o4,_⟩:=L4.ex;refine cV (iC.of gT) rfl ?_;walk_at "w";refine⟨_,_,_,rfl,o4,rfl,?_⟩;walk_at "w";refine⟨α,κ,o,v,p,r.1,x0,n,i,w,Ls,rfl,L4,MZ,hx,hp,λl H5 s5 sk=>?_⟩;obtain⟨as,gl,rl⟩:=sk.ex;have si:=rl.len;rw[bX] at si;refine eM (bR.of gl) ?_;have k5:bL d H H5:=λc u e n=>s5 _ _ (k4 _ _ e n);refine eT (xs:=as.map V.ref) (λjj σ' H'=>∃(z6 z7 z8:Option V) (cur:List (α×Int)),σ'=[some (.ref o),some (.ref d),some (.int p),some (.ref b),some v,some (.int r.2),z6,z7,z8]/\bL b H5 H'/\H' b=some (κ.ho (ri cur))/\iA (AL (Pz w qs) i (rows.take j)++((Pz w qs i r.1).take jj).map λu=>(u.2.1,r.2+u.2.2)) cur/\cur.length<=100*j+jj)
   ⟨_,_,_,cur,rfl,λ_ _ e _=>e,s5 _ _ xq,by rw[List.take_zero,vb,pz];exact hM,by lia⟩ (λjj σ' H' hj ⟨_,_,_,_,_,k6,_⟩=>bR.of (k6 _ _ gl (kC (κ.ub _) (s5 _ _ xq) gl GS))) (λjj u σ' H6 M5 RE=>?_) (λσ' H6 RD=>?_)
  ·obtain⟨z6,z7,z8,cur,e,k6,vy,hM,lc⟩:=RE;subst e;obtain⟨a1,y,ea,rfl,ey,vv,ga,sr⟩:=rl.gt M5;have Gp:=s5 _ _ xq;have U8:jj < (w r.1).length:=by
    have:=(lU.mp ey).1
    rwa[bX] at this
   have eyP:(Pz w qs i r.1)[jj]?=some y:=by unfold Pz;rw[Dq];exact ey
   have NV:=k6 _ _ ga (kC (κ.ub _) Gp ga KR);have BA:=κ.Jb sr (κ.ub _) Gp k6;refine cV (iC.of NV) rfl ?_;walk_at "w";refine⟨b,rfl,κ.Vj (.inl vy),?_⟩;walk_at "w";refine⟨_,κ.tW (.inl vy) BA,?_⟩;rw[Po,zY];walk_at "w";refine⟨b,_,rfl,κ.Ka vy BA (by rw[xE];lia) _,?_⟩;rw[Yp];obtain⟨H7,i7,k7,g7⟩:=wr H6 b _;rw[i7];walk_at "w";refine⟨_,_,_,_,rfl,k6.trans k7,g7,?_,kr (Zo _ _ _) (by lia)⟩;rw[dG eyP,iK,<-DJ,Int.min_comm];exact hM.on
  ·obtain⟨z6,z7,z8,cur,e,k6,vy,hM,lc⟩:=RD;subst e;rw[bX,si] at hM lc;refine⟨_,_,_,_,_,cur,rfl,λc u e n=>?_,k6 _ _ (s5 _ _ A8) (Ne.symm bd),vy,?_,by lia⟩
   ·exact k6 _ _ (k5 _ _ e n) (bB nb e)
   ·have et:(Pz w qs i r.1).take (w r.1).length=Pz w qs i r.1:=LI (by unfold Pz;rw[bX];exact dQ _);rw[et] at hM;rw[dG er];unfold AL at hM ⊢;rw[Fp,DI,DE,pz];exact hM
 ·subst e;rw[xE,uC] at hM;walk_at "w";exact k b H3 ob cur nb k3 yt (hH.on hM) Dj
inductive iQ  (K:W.Frag) (CL:Addr) (vs:List V) (H:Hp) (Q:VK) (E:XK):Prop
 |mk:∀(α:Type) (κ:PK α) (o d e:Addr) (a:α) (n i:Nat) (w:α->List (Wy α)) (Ls:List (List α)) (rows:List (α×Int)) (qs:ae) (ts:List α),(vs=[.ref o,.ref d,.ref e])->qF CL κ H o a n w Ls->(H d=some (κ.ho (ri rows)))->(tm (Pz w qs) a i rows)->(i < n)->(qs.length=n)->(Ls[i+1]?=some ts)->(κ.da H e ts (wF (Pz w qs) (n - (i+1)) (i+1)))->(∀q H' ob rs,H q=none->bL d H H'->H' d=some (.bu ob (κ.ho (ri rows)))->(∀p,LM rs p (wF (Pz w (qs.set i p)) n 0 a))->rs.length<=10000->H' q=some (κI.ho (ri rs))->Q (.ref q) H')->iQ K CL vs H Q E
theorem o8(tx:Txt K mg a):bT P w K mg base eY 1 a.fN a.jH a2a (iQ K a.cS):=by
 refine tx.cb.F.ok bW (by walk_at "l") λbj A outer s H vs Q E hr h=>?_;obtain⟨α,κ,o,d,e,x0,n,i,w,Ls,rows,qs,ts,rfl ,hL,hd,hH,hi,hn,ets,he,k⟩:=h;have hu:=gM hr;refine aZ (aE (aK (i:=3) bW.nd eQ)
  (aE (bI PassesOwn.never rfl (yA (aA 1)) (bQ (K':=K) (n:=2) rfl (aR (aJ (i:=4) bW.nd) (aR (aJ (i:=5) bW.nd) bP))) (aF (bI PassesOwn.never rfl (bH (K':=K) (iO hu (bK (K':=K) (aA 0) rfl) (aA 4))) (bQ (K':=K) (n:=3) rfl (aR (aJ (i:=6) bW.nd) (aR (aJ (i:=7) bW.nd) (aR (aJ (i:=8) bW.nd) bP)))) (aE (aK (i:=9) bW.nd (aI bC (aI bC (aA 5) (aA 8)) (iO hu (aA 2) (aA 7))))
  (aF (fG hu (aA 3) (aA 6) (aP (dZ rfl) (by rfl) tx.jI gB (aB (aA 9) (aB (kL hu (aA 3) (aA 6) (aA 9)) aD)))))))))
  (aF (aM (aA 3))))) ?_
 haveI:DecidableEq α:=λ_ _=>Classical.propDecidable _
 obtain⟨uv,D5⟩:=hL.ok.hd (by lia) hH;have hu:=κ.ub (ri rows);refine aV (σ:=[some (.ref o),some (.ref d),some (.ref e),none,none,none,none,none,none,none]) rfl ?_;walk_at "w";refine κI.Ke λb H1 nb s1 gb=>?_;have Gi:=s1 _ _ hd;have bd:b≠d:=λz=>by rw[z,hd] at nb;cases nb
 walk_at "w";refine κ.Zl (λQ q=>by walk_at "go";exact q) Gi λob=>?_;obtain⟨H2,i2,k2,g2⟩:=wr H1 d _;rw[i2];have K2:bL d H H2:=λc u e n=>k2 _ _ (s1 _ _ e) n;refine κ.rW (λj σ' H'=>∃(z4 z5 z6 z7 z8 z9:Option V) (cur:aw),σ'=[some (.ref o),some (.ref d),some (.ref e),some (.ref b),z4,z5,z6,z7,z8,z9]/\bL d H H'/\H' d=some (.bu ob (κ.ho (ri rows)))/\H' b=some (κI.ho (ri cur))/\iA (Kb w (wF (Pz w qs) (n - (i+1)) (i+1)) (rows.take j)) cur/\cur.length<=100*j)
  ⟨_,_,_,_,_,_,[],rfl,K2,g2,k2 _ _ gb bd,iA.nil,dQ _⟩ (λj σ' H' hj ⟨_,_,_,_,_,_,_,_,_,h,_⟩=>h) (λj pr σ' H3 T v hk ⟨z4,z5,z6,z7,z8,z9,cur,e',k3,yt,Dj,hM,lc⟩ nT hv=>?_) (λσ' H3 ⟨z4,z5,z6,z7,z8,z9,cur,e',k3,yt,Dj,hM,lc⟩=>?_)
 ·subst e';obtain⟨r,er,rfl⟩:=OP hk;have lj:j < rows.length:=(lU.mp er).1;have hx:=uv r (kP er);have lw:=(hL.ok.ne i r.1 hx).2;obtain⟨H4,i4,s4,gT⟩:=nw _ nT;rw[i4];have k4:bL d H H4:=λc u e n=>s4 _ _ (k3 _ _ e n);have A8:=s4 _ _ yt;have xq:=s4 _ _ Dj;have L4:=hL.Cg hd k4;have MZ:=κ.gX hv s4;obtain⟨dx,la,wd,ks,g,o4,_,NR,hw4,hks⟩:=L4.ex;have VE:=hks i r.1 hx;obtain⟨as,gl,rl⟩:=(hw4 r.1 VE).ex;have si:=rl.len;have ym:=κ.tW (.inl NR) MZ;rw[tX VE] at ym;refine cV (iC.of gT) rfl ?_;walk_at "w";refine dM o4 tx.kX tx.tF rfl ?_;walk_at "w";refine⟨wd,_,rfl,ym,?_⟩;refine eM (bR.of gl) ?_;refine eT (xs:=as.map V.ref) (λjj σ' H'=>∃(z6 z7 z8 z9:Option V) (cur:aw),σ'=[some (.ref o),some (.ref d),some (.ref e),some (.ref b),some v,some (.int r.2),z6,z7,z8,z9]/\bL b H4 H'/\H' b=some (κI.ho (ri cur))/\iA (Kb w (wF (Pz w qs) (n - (i+1)) (i+1)) (rows.take j)++((w r.1).take jj).map λu=>(u.1,r.2+u.2.2+wF (Pz w qs) (n - (i+1)) (i+1) u.2.1)) cur/\cur.length<=100*j+jj)
   ⟨_,_,_,_,cur,rfl,λ_ _ e _=>e,xq,by rw[List.take_zero,vb,pz];exact hM,by lia⟩ (λjj σ' H' hj ⟨_,_,_,_,_,_,k6,_⟩=>bR.of (k6 _ _ gl (kC (κI.ub _) xq gl GS))) (λjj u σ' H6 M5 RC=>?_) (λσ' H6 RB=>?_)
  ·obtain⟨z6,z7,z8,z9,cur,e',k6,vy,hM,lc⟩:=RC;subst e';obtain⟨a1,y,ea,rfl,ey,vv,ga,sr⟩:=rl.gt M5;have U8:jj < (w r.1).length:=(lU.mp ey).1;have NV:=k6 _ _ ga (kC (κI.ub _) xq ga KR);have BA:=κ.Jb sr (κI.ub _) xq k6;obtain⟨Mg,HQ,hyt⟩:=hL.ok.on i r.1 y hi hx (kP ey);rw[ets] at HQ;cases HQ;have eb:e≠b:=λz=>by
    have q:=κ.XS he;rw[z,nb] at q;cases q
   have he6:Rd H6 e (κ.ho (ts.map λx=>(x,V.int (wF (Pz w qs) (n - (i+1)) (i+1) x)))):=by
    have heq:=κ.XS he;by_cases ed:e=d
    ·subst ed;refine .inr ⟨ob,?_⟩;rw[hd] at heq;rw[<-Option.some.inj heq];exact k6 _ _ A8 (Ne.symm bd)
    ·exact .inl (k6 _ _ (k4 _ _ heq ed) eb)
   have A4:=κ.tW he6 BA;rw[tX (g:=λx=>V.int (wF (Pz w qs) (n - (i+1)) (i+1) x)) hyt] at A4;refine cV (iC.of NV) rfl ?_;walk_at "w";refine⟨e,_,rfl,A4,?_⟩;have VH:κI.pv H6 (.int y.1) y.1:=rfl;walk_at "w";refine⟨b,rfl,κI.Vj (.inl vy),?_⟩;walk_at "w";refine⟨_,κI.tW (.inl vy) VH,?_⟩;rw[Po,zY];walk_at "w";refine⟨b,_,rfl,κI.Ka vy VH (by rw[xE];lia) _,?_⟩;rw[Yp];obtain⟨H7,i7,k7,g7⟩:=wr H6 b _;rw[i7];walk_at "w";refine⟨_,_,_,_,_,rfl,k6.trans k7,g7,?_,kr (Zo _ _ _) (by lia)⟩;rw[dG ey,iK,<-DJ,Int.min_comm];exact hM.on
  ·obtain⟨z6,z7,z8,z9,cur,e',k6,vy,hM,lc⟩:=RB;subst e';rw[bX,si] at hM lc;refine⟨_,_,_,_,_,_,cur,rfl,λc u e n=>k6 _ _ (k4 _ _ e n) (bB nb e),k6 _ _ A8 (Ne.symm bd),vy,?_,by lia⟩;rw[uC] at hM;rw[dG er];unfold Kb at hM ⊢;rw[Fp,DI,DE,pz];exact hM
 ·subst e';rw[xE,uC] at hM;rw[xE] at lc;walk_at "w";exact k b H3 ob cur nb k3 yt (aMK hL.ok.lay hL.ok.Oc hn hi hH hM) (by lia) Dj
inductive wC  (K:W.Frag) (C:Addr) (vs:List V) (H:Hp) (Q:VK) (E:XK):Prop
 |mk:∀(x:Addr) (m:MS),(vs=[.ref x])->cT C H x m->m.Good->(∀l H',aO H H'->H' l=some (.lst ((kn m.least m.pieces).map V.int))->Q (.ref l) H')->wC K C vs H Q E
theorem aEc(tx:Txt K mg a):bT P w K mg base eY 1 a.yZ a.y4 bia (wC K a.bA):=by
 refine tx.jm.F.ok kA (by walk_at "l") λbj A outer s H vs Q E hr h=>?_;obtain⟨x,m,rfl ,hm,hg,k⟩:=h;have hu:=gM hr;refine aZ (aE (aK (i:=1) kA.nd (iF (bK (K':=K) (aA 0) rfl)))
  (aE (bI PassesOwn.never rfl (bH (K':=K) (bK (K':=K) (aA 0) rfl)) (bQ (K':=K) (n:=2) rfl (aR (aJ (i:=2) kA.nd) (aR (aJ (i:=3) kA.nd) bP))) (aF (dE (eC (K':=K) (aA 1) (aB (aI bC (aH (K':=K) (aA 1) (kH rO aC)) (aA 2)) aD)))))
  (aF (aM (aA 1))))) ?_
 obtain⟨dx,pl,hx,hp⟩:=hm.ex;obtain⟨qs,h1,h2⟩:=hp.ex;have l4:=hg.pieces.len;refine aV (σ:=[some (.ref x),none,none,none]) rfl ?_;walk_at "w";refine dM hx tx.cE tx.fQ rfl ?_;walk_at "w";intro l nl;obtain⟨H1,i1,s1,g1⟩:=nw _ nl;rw[i1];have Eu:=s1 _ _ hx;walk_at "w";refine dM Eu tx.cE tx.gW rfl ?_;refine eM (bR.of (s1 _ _ h1)) ?_;refine eT (xs:=qs.map V.ref) (λi σ' H'=>aO H H'/\H' l=some (.lst ((kn m.least (m.pieces.take i)).map V.int))/\∃z2 z3,σ'=[some (.ref x),some (.ref l),z2,z3]) ⟨s1,g1,_,_,rfl⟩ (λi σ' H' hi ⟨s',_⟩=>bR.of (s' _ _ h1)) (λi v σ' H' hv RA=>?_) (λσ' H' Rz=>?_)
 ·obtain⟨s',gl,z2,z3,e⟩:=RA;subst e;rw[kQ] at hv;obtain⟨q,hq,rfl⟩:=kl.mp hv;have li:i < m.pieces.length:=by rw[<-h2.len];exact(lU.mp hq).1
  have ht:m.pieces[i]?=some m.pieces[i]:=eS li;have e:=s' _ _ (h2.at_ i q _ hq ht);generalize m.pieces[i]=t at ht e;have lc:=uM m.least (m.pieces.take i);rw[qa] at lc;have ix:uP ((kn m.least (m.pieces.take i)).map V.int) (-1)=some (.int (m.least+oF (m.pieces.take i))):=by
   rw[Qh (by rw[bX];lia),bX,kQ,Zi];rfl
  refine cV (iC.of e) rfl ?_;walk_at "w";refine iV (bR.of gl) ?_;walk_at "w";refine mC (xs:=(kn m.least (m.pieces.take i)).map V.int) gl (qI (by rw[bX];lia:_ < 1000) (cB (by decide))) ?_;obtain⟨H3,i3,k3,g3⟩:=wr H' l _;rw[i3];walk_at "w";refine⟨λb o e=>k3 _ _ (s' _ _ e) (bB nl e),?_,_,_,rfl⟩;rw[g3,take_snoc ht,Zj,iK];rfl
 ·obtain⟨s',gl,z2,z3,e⟩:=Rz;subst e;rw[bX,h2.len,uC] at gl;walk_at "w";exact k l H' s' gl
inductive m3  (K:W.Frag) (C:Addr) (vs:List V) (H:Hp) (Q:VK) (E:XK):Prop
 |mk:∀(q:Addr) (m:MS) (t:Addr) (a:ar),(vs=[.ref q,.ref t])->cT C H q m->m.Good->(H t=some (.tup [.int a.1,.int a.2]))->Bj a.1 a.2->(∀l H',aO H H'->H l=none->gZ κS H' l (tw m a)->Q (.ref l) H')->m3 K C vs H Q E
theorem xH(tx:Txt K mg a):bT P w K mg base eY 8 a.nK a.nL aja (m3 K a.bA):=by
 have aAg:=xF (P:=P) (w:=w) (base:=base) tx;have aF2:=aEc (P:=P) (w:=w) (base:=base) tx;have aF3:=aD5 (P:=P) (w:=w) (base:=base) tx;refine tx.dg.F.ok eE (by walk_at "l") λbj A outer s H vs Q E hr h=>?_;obtain⟨q,m,t,st,rfl ,hm,hg,ht,eg,k⟩:=h;have hu:=gM hr;refine aZ (aE (aK (i:=2) eE.nd (lS aD))
  (aE (bI PassesOwn.never rfl (bH (K':=K) (bg aF3 hr tx.ji (aB (aA 0) (aB (aA 1) aD)))) (bQ (K':=K) (n:=3) rfl (aR (aJ (i:=3) eE.nd) (aR (aJ (i:=4) eE.nd rfl (Or.inr rfl)) (aR (aJ (i:=5) eE.nd rfl (Or.inr rfl)) bP)))) (aF (bD (aU (r:=kT K) (eB hu) (aA 3) aC (bJ _)) (aF (dE (eC (K':=K) (aA 2) (aB (xT aC (aA 4) (aA 5)) aD)))) (aF (dE (aDI (K':=K) (aA 2) (aB (cR (k:=1) (idx:=[5,4,0]) (N:=bra) (dJ (sc:=aL fY) (NX:=bka) rfl rfl rfl (by decide +kernel)) rfl (bH (K':=K) (bg aF2 hr tx.jm (aB (aA 0) aD))) (λ_ _ _ _=>(aJ (i:=0) (show(bra:ak).Nodup by decide +kernel))) (dI (by decide)) (λ_ _ _ _=>bU) (λ_ _ _ _=>(xT (kH rO (aA 0)) (aA 2) (aI bC (aA 1) (jT (aA 3) tx.cE tx.kb (aAg) (hr.mono (by decide)) tx.dj.b .nil aW (aB (aA 0) aD)))))) aD)))))))
  (aF (aM (aA 2))))) ?_
 have l4:=hg.pieces.len;refine aV (σ:=[some (.ref q),some (.ref t),none,none,none,none]) rfl ?_;walk_at "w";intro l nl;obtain⟨H1,i1,s1,g1⟩:=nw _ nl;rw[i1];walk_at "w";refine⟨q,m,t,st,rfl,hm.same s1,hg,s1 _ _ ht,eg,λln H2 s2 hln=>?_⟩;obtain⟨bs,gn,rn⟩:=hln.ex;have Jo:=rn.len;have lf:(([0,1]:ae).filter (uV st)).length<=2:=List.length_filter_le ..;rw[bX] at Jo;have S2:=s1.trans s2;have g2:=s2 _ _ g1;refine eM (bR.of gn) ?_;refine eT (xs:=bs.map V.ref) (λi σ' H'=>bL l H2 H'/\(∃as:au,H' l=some (.lst (as.map V.ref))/\as.length<=5*i/\RL (oY κS H') as (((([0,1]:ae).filter (uV st)).take i).flatMap (rf m st)))/\∃z3 z4 z5,σ'=[some (.ref q),some (.ref t),some (.ref l),z3,z4,z5])
  ⟨λ_ _ e _=>e,⟨[],g2,dQ _,RL.nil⟩,_,_,_,rfl⟩ (λi σ' H' hi ⟨k',_⟩=>bR.of (k' _ _ gn λz=>?_)) (λi v σ' H3 hv Ry=>?_) (λσ' H3 Rx=>?_)
 ·rw[z,g2] at gn;have e:bs.map V.ref=[]:=(HO.lst.inj (Option.some.inj gn)).symm;rw[DK.mp e] at Jo;exact absurd Jo (by
   intro y;rcases eg.1 with z|z
   ·have:(0:Int)∈([0,1]:ae).filter (uV st):=zg.mpr ⟨by simp,hZ.mpr (.inl z)⟩;rw[Hb.mp y.symm] at this;cases this
   ·have:(1:Int)∈([0,1]:ae).filter (uV st):=zg.mpr ⟨by simp,hZ.mpr (.inl z)⟩;rw[Hb.mp y.symm] at this;cases this)
 ·obtain⟨k3,⟨as,gl,la,r⟩,z3,z4,z5,e⟩:=Ry;subst e;obtain⟨a1,y,ea,rfl,ey,vv,ga,sr⟩:=rn.gt hv;rw[kQ] at ey;obtain⟨on,vz,rfl⟩:=kl.mp ey;have Ga:=kP vz;obtain⟨h01,dk⟩:=zg.mp Ga;have yw:mq on:=by simpa [mq] using h01
  have li:i < 2:=qI (lU.mp vz).1 lf;have V9:=k3 _ _ ga λz=>by rw[z,g2] at ga;cases ga
  have HD:=κS.Lg sr g2 k3;have S3:aO H H3:=λb o e=>k3 _ _ (S2 _ _ e) (bB nl e);refine cV (iC.of V9) rfl ?_;rcases yw with rfl|rfl
  ·repeat walk_at "gs"
   refine iV (bR.of gl) ?_;walk_at "w";intro T nT;obtain⟨H4,i4,s4,g4⟩:=nw _ nT;rw[i4];have Dh:=s4 _ _ gl;walk_at "w";refine mC (xs:=as.map V.ref) Dh (qI (by rw[bX];lia:_ < 1000) (cB (by decide))) ?_;obtain⟨H5,i5,k5,g5⟩:=wr H4 l _;rw[i5];walk_at "w";refine⟨λb o e n=>k5 _ _ (s4 _ _ (k3 _ _ e n)) n,⟨as ++ [T],by rw[g5,iK];rfl,by rw[lB];simp;lia,?_⟩,_,_,_,rfl⟩;rw[take_snoc vz,Fp,DI,DE,pz,show rf m st 0=[(0,lE m st.1 st.2 0,zW m st 0)] by unfold rf;rw[cO rfl]];exact RL.snoc (r.imp λ_ _ z=>(z.same s4).Kn Dh k5) (oY.Kn ⟨_,g4,κS.gX HD s4⟩ Dh k5)
  ·repeat walk_at "gs"
   refine iV (bR.of gl) ?_;walk_at "w";refine⟨q,m,rfl,hm.same S3,hg,λlc H4 s4 V4=>?_⟩;have lcr:=uM m.least m.pieces;refine eM (bR.of V4) ?_;refine fR (xs:=(kn m.least m.pieces).map V.int) (λj us H'=>aO H4 H'/\∃cs:au,us=cs.map V.ref/\cs.length<=j/\RL (oY κS H') cs (((kn m.least m.pieces).take j).map λo=>(-o,lE m st.1 st.2 1,zW m st 1+cst m.pieces (o - m.least)))) ⟨aO.refl _,[],rfl,dQ _,RL.nil⟩ (cB (by rw[bX];lia))
    (λj us H' hj ⟨s',cs,e,l1,rc⟩=>⟨bR.of (s' _ _ V4),by rw[e,bX];exact l1⟩) (λj u us H5 hu Rw=>?_) (λus H5 Rv=>?_)
   ·obtain⟨s5,cs,e,l1,rc⟩:=Rw;obtain⟨o,eo,rfl⟩:=iJ hu;obtain⟨o0,o1⟩:=Pn hg.pieces.UB (kP eo);have S5:=S3.trans (s4.trans s5);obtain⟨dxm,plm,F5,_⟩:=(hm.same S5).ex;walk_at "w";refine⟨_,_,_,rfl,F5,rfl,?_⟩;walk_at "w";refine⟨q,m,o,rfl,hm.same S5,hg,by lia,by lia,λH6 s6=>?_⟩;walk_at "w";intro T nT;obtain⟨H7,i7,s7,g7⟩:=nw _ nT;rw[i7];have AW:=s6.trans s7;refine⟨s5.trans AW,cs ++ [T],by rw[e,iK];rfl,by rw[lB];simp;lia,?_⟩;rw[dG eo,iK];exact RL.snoc (rc.imp λ_ _ z=>z.same AW) ⟨_,g7,κS.gX HD (s4.trans (s5.trans AW))⟩
   ·obtain⟨s5,cs,e,l1,rc⟩:=Rv;rw[bX,uC] at rc;rw[bX] at l1;intro lx nlx;obtain⟨H6,i6,s6,g6⟩:=nw _ nlx;rw[i6];have ye:=s4.trans (s5.trans s6);have yr:=ye _ _ gl;walk_at "w";refine aKk yr (by rw[g6,e]) (kr (by rw[bX,bX];lia:_<=1000) (cB (by decide))) ?_;obtain⟨H7,i7,k7,g7⟩:=wr H6 l _;rw[i7];walk_at "w";refine⟨λb o e n=>k7 _ _ (ye _ _ (k3 _ _ e n)) n,⟨as++cs,by rw[g7,iK],by rw[lB];lia,?_⟩,_,_,_,rfl⟩;rw[take_snoc vz,Fp,DI,DE,pz,show rf m st 1=(kn m.least m.pieces).map λo=>(-o,lE m st.1 st.2 1,zW m st 1+cst m.pieces (o - m.least)) by unfold rf;rw[bZ (by decide)]];exact RL.app (r.imp λ_ _ z=>(z.same ye).Kn yr k7) (rc.imp λ_ _ z=>(z.same s6).Kn yr k7)
 ·obtain⟨k3,⟨as,gl,la,r⟩,z3,z4,z5,e⟩:=Rx;subst e;rw[bX,Jo,uC] at r;walk_at "w";exact k l H3 (λb o e=>k3 _ _ (S2 _ _ e) (bB nl e)) nl ⟨as,gl,r⟩
inductive qX  (K:W.Frag) (C CL:Addr) (vs:List V) (H:Hp) (Q:VK) (E:XK):Prop
 |mk:∀(q:Addr) (m:MS) (t:Addr) (a:ar) (n:Nat),(vs=[.ref q,.ref t,.int (n:Int)])->cT C H q m->m.Good->(H t=some (.tup [.int a.1,.int a.2]))->we m a->(n<=48)->(∀o Ls H',aO H H'->qF CL κS H' o a n (tw m) Ls->Q (.ref o) H')->qX K C CL vs H Q E
theorem aBM(tx:Txt K mg a):bT P w K mg base eY 9 a.sW a.sX gr (qX K a.bA a.cS):=by
 have tY:=aAe (P:=P) (w:=w) (base:=base) tx;have aAL:=zX (P:=P) (w:=w) (base:=base) tx;have aAh:=xH (P:=P) (w:=w) (base:=base) tx;refine tx.gj.F.ok fP (by walk_at "l") λbj A outer s H vs Q E hr h=>?_;obtain⟨q,m,t,st,n,rfl ,hm,hg,ht,eg,hn,k⟩:=h;have hu:=gM hr;refine aZ (aE (aK (i:=3) fP.nd (bg aAL hr tx.dy (aB (aA 0) (aB (aA 1) (aB (aA 2) aD)))))
  (aE (aK (i:=4) fP.nd eQ)
  (aE (bI PassesOwn.never rfl (bH (K':=K) (aA 3)) (aJ (i:=5) fP.nd) (aF (bI PassesOwn.never rfl (bH (K':=K) (aA 5)) (aJ (i:=6) fP.nd) (aF (bD (aU (r:=Zb) (aKf hu) (aA 6) (aA 4) (by with_unfolding_all rfl)) (aF (fG hu (aA 4) (aA 6) (bg aAh hr tx.dg (aB (aA 0) (aB (aA 6) aD))))) aY)))))
  (aF (aM (kI tx.Yi (tY) (hr.mono (by decide)) (by rfl) tx.Yj tx.fw.b .nil aW (aB (aA 3) (aB (aA 4) aD)))))))) ?_
 refine aV (σ:=[some (.ref q),some (.ref t),some (.int (n:Int)),none,none,none,none]) rfl ?_;walk_at "w";refine⟨q,m,t,st,n,rfl,hm,hg,ht,eg,by lia,λla Ls H1 s1 Er Ez hL lL=>?_⟩;have ok:=aQP hg eg hL lL;obtain⟨as,ga,ra⟩:=Ez.ex;have si:=ra.len;walk_at "w";refine κS.Ke λwd H2 En s2 NQ=>?_;walk_at "w";refine eM (bR.of (s2 _ _ ga)) ?_;refine eT (xs:=as.map V.ref) (λi σ' H'=>∃(z5 z6:Option V) (ks:aw) (g:ar->Addr),σ'=[some (.ref q),some (.ref t),some (.int (n:Int)),some (.ref la),some (.ref wd),z5,z6]/\aO H1 H'/\H' wd=some (κS.ho (ks.map λx=>(x,.ref (g x))))/\(∀x∈ks,gZ κS H' (g x) (tw m x))/\(∀j x,j < i->Lx Ls j x->x∈ks)/\ks.length<=100*i)
  ⟨_,_,[],λ_=>0,rfl,s2,NQ,(λx hx=>by cases hx),(λj x hj=>by lia),dQ _⟩ (λi σ' H' hi ⟨_,_,_,_,_,s',_⟩=>bR.of (s' _ _ ga)) (λi v σ' H3 hv Ru=>?_) (λσ' H3 Rt=>?_)
 ·obtain⟨z5,z6,ks,g,e,s3,gw,sk,fm,lk⟩:=Ru;subst e;obtain⟨b,ps,_,rfl,J4,us,gb,sr⟩:=ra.gt hv;have lps:=ok.rL ps (kP J4);have FZ:=sr.1;walk_at "w";refine eM (bR.of (s3 _ _ gb)) ?_;refine eT (xs:=us) (λjj σ' H'=>∃(z6:Option V) (ks:aw) (g:ar->Addr),σ'=[some (.ref q),some (.ref t),some (.int (n:Int)),some (.ref la),some (.ref wd),some (.ref b),z6]/\aO H1 H'/\H' wd=some (κS.ho (ks.map λx=>(x,.ref (g x))))/\(∀x∈ks,gZ κS H' (g x) (tw m x))/\(∀j x,j < i->Lx Ls j x->x∈ks)/\(∀x∈ps.take jj,x∈ks)/\ks.length<=100*i+jj)
   ⟨_,ks,g,rfl,s3,gw,sk,fm,(λx hx=>by simp at hx),by lia⟩ (λjj σ' H' hj ⟨_,_,_,_,s',_⟩=>bR.of (s' _ _ gb)) (λjj v σ' H4 hv Rr=>?_) (λσ' H4 Rq=>?_)
  ·obtain⟨z6,ks,g,e,s4,gw,sk,fm,uv,lk⟩:=Rr;subst e;obtain⟨x,ex,px⟩:=sr.get hv;have UU:=κS.gX px s4;have li:i < as.length:=by
    have:=(lU.mp J4).1;lia
   have U8:jj < ps.length:=(lU.mp ex).1;walk_at "w";refine⟨wd,_,rfl,κS.tW (.inl gw) UU,?_⟩;by_cases hx:x∈ks
   ·rw[tX hx];repeat walk_at "gs"
    refine⟨_,ks,g,rfl,s4,gw,sk,fm,λy hy=>?_,by lia⟩;rw[dG ex] at hy;rcases oh.mp hy with z|z
    ·exact uv y z
    ·rw[rC.mp z];exact hx
   ·rw[aE4 hx];repeat walk_at "gs"
    obtain⟨tb,rfl,gt⟩:=UU;refine⟨q,m,tb,x,rfl,hm.same (s1.trans s4),hg,gt,(Rc.st hg eg (((hL.at_ i ps J4).2 x).mp (kP ex))).1,λl H5 s5 nl MY=>?_⟩;have Df:=s5 _ _ gw;have px5:κS.pv H5 (.ref tb) x:=⟨tb,rfl,s5 _ _ gt⟩
    walk_at "w";refine⟨wd,_,rfl,κS.Ka Df px5 (by rw[bX];lia) _,?_⟩;rw[Zk hx,Ym hx];obtain⟨H6,i6,k6,g6⟩:=wr H5 wd _;rw[i6];walk_at "w";refine⟨_,ks ++ [x],_,rfl,λc o e=>k6 _ _ (s5 _ _ (s4 _ _ e)) (bB En e),g6,λy hy=>?_,λj y hj hy=>Bo _ (fm j y hj hy),λy hy=>?_,by rw[lB];simp;lia⟩
    ·by_cases Dp:y=x
     ·subst Dp;rw[cO rfl];exact MY.Cg (κS.ub _) Df k6
     ·rw[bZ Dp];rcases oh.mp hy with z|z
      ·exact((sk y z).same s5).Cg (κS.ub _) Df k6
      ·exact absurd (rC.mp z) Dp
    ·rw[dG ex] at hy;rcases oh.mp hy with z|z
     ·exact Bo _ (uv y z)
     ·exact se _ z
  ·obtain⟨z6,ks,g,e,s4,gw,sk,fm,uv,lk⟩:=Rq;subst e;rw[FZ,uC] at uv;refine⟨_,_,ks,g,rfl,s4,gw,sk,λj x hj hx=>?_,by lia⟩;rcases(show j < i\/j=i by lia) with z|z
   ·exact fm j x z hx
   ·subst z;obtain⟨ke,e',og⟩:=hx;rw[J4] at e';cases e';exact uv x og
 ·obtain⟨z5,z6,ks,g,e,s3,gw,sk,fm,lk⟩:=Rt;subst e;rw[bX,si] at fm;walk_at "w";intro x dx nx nd hd;obtain⟨J,i,sj,j⟩:=Jf (C:=a.cS) nx nd hd;rw[i];refine⟨x,dx,_,_,rfl,j,λH4 hS kx=>⟨rfl,?_⟩⟩;have CP:aO H3 H4:=λb o e=>kx _ _ (sj _ _ e) (bB nx e);walk_at "w";exact k x Ls H4 (s1.trans (s3.trans CP)) ⟨ok,dx,la,wd,ks,g,hS,Ez.same (s3.trans CP),CP _ _ gw,λx hx=>(sk x hx).same CP,λj x hx=>fm j x (by obtain⟨ps,e,_⟩:=hx;exact(lU.mp e).1) hx⟩
inductive wD  (K:W.Frag) (C CL:Addr) (vs:List V) (H:Hp) (Q:VK) (E:XK):Prop
 |mk:∀(x:Addr) (s:SS) (l:Int) (n:Nat),(vs=[.ref x,.int l,.int (n:Int)])->iI C H x s->s.Good->(0<=l)->(l<=s.bz)->(n<=48)->(∀o H',aO H H'->qF CL κI H' o l n (BQ s) (wo s l n)->Q (.ref o) H')->wD K C CL vs H Q E
theorem aEd(tx:Txt K mg a):bT P w K mg base eY 3 a.y6 a.y7 aga (wD K a.cN a.cS):=by
 have tY:=aAe (P:=P) (w:=w) (base:=base) tx;have aII:=aHl (P:=P) (w:=w) (base:=base) tx;have mX:=qV (P:=P) (w:=w) (base:=base) tx;have aEe:=aDh (P:=P) (w:=w) (base:=base) tx;refine tx.jk.F.ok nZ (by walk_at "l") λbj A outer s H vs Q E hr h=>?_;obtain⟨x,ss,l,n,rfl ,hs,hg,l0,l1,hn,k⟩:=h;have hu:=gM hr;refine aZ (aE (aK (i:=3) nZ.nd eQ)
  (aE (bI PassesOwn.never rfl (cL (by rfl) tx.eF (aB (aI bC (bK (K':=K) (aA 0) rfl) aC) aD)) (aJ (i:=4) nZ.nd rfl (Or.inr rfl)) (aF (fG hu (aA 3) (aA 4) (cR (k:=1) (idx:=[4,0]) (N:=["later","place","store"]) (dJ (sc:=aL jD) (NX:=aWa) rfl rfl rfl (by decide +kernel)) rfl (bH (K':=K) (bg aEe hr tx.iy (aB (aA 0) (aB (aA 4) aD)))) (λ_ _ _ _=>(aJ (i:=0) (show(["later","place","store"]:ak).Nodup by decide +kernel))) (dI (by decide)) (λ_ _ _ _=>bU) (λ_ _ _ _=>(xT (bg aII hr tx.nt (aB (aA 2) (aB (aA 1) (aB (aA 0) aD)))) (aA 0) aC))))))
  (aF (aM (kI tx.Yi (tY) (hr.mono (by decide)) (by rfl) tx.Yj tx.fw.b .nil aW (aB (cR (k:=1) (idx:=[1,0]) (N:=["many","level","store"]) (dJ (sc:=aL jD) (NX:=aWa) rfl rfl rfl (by decide +kernel)) rfl (cL (by rfl) tx.eF (aB (aI bC (aA 2) aC) aD)) (λ_ _ _ _=>(aJ (i:=0) (show(["many","level","store"]:ak).Nodup by decide +kernel))) (dI (by decide)) (λ_ _ _ _=>bU) (λ_ _ _ _=>(bg mX hr tx.cx (aB (aA 2) (aB (aA 1) (aB (aA 0) aD)))))) (aB (aA 3) aD))))))) ?_
 obtain⟨c0,c1⟩:=hg.bz;obtain⟨dx,hx⟩:=hs.ex;refine aV (σ:=[some (.ref x),some (.int l),some (.int (n:Int)),none,none]) rfl ?_;walk_at "w";refine κI.Ke λwd H1 En s1 NQ=>?_;have Eu:=s1 _ _ hx;walk_at "w";refine dM Eu tx.iH tx.tI rfl ?_;walk_at "w";refine⟨by lia,by lia,?_⟩;refine lZ (n:=(ss.bz+1).toNat) (λi σ' H'=>∃(z4:Option V) (ks:ae) (g:Int->Addr),σ'=[some (.ref x),some (.int l),some (.int (n:Int)),some (.ref wd),z4]/\aO H H'/\H' wd=some (κI.ho (ks.map λx=>(x,.ref (g x))))/\(∀x∈ks,gZ κI H' (g x) (BQ ss x))/\(∀y,y∈ks↔0<=y/\y < i)/\ks.length<=i)
  ⟨_,[],λ_=>0,rfl,s1,NQ,(λx hx=>by cases hx),(λy=>⟨(λh=>by cases h),(λ⟨h1,h2⟩=>by lia)⟩),dQ _⟩ (λi σ' H2 hi Rp=>?_) (λσ' H2 Ro=>?_)
 ·obtain⟨z4,ks,g,e,s2,gw,sk,fm,lk⟩:=Rp;subst e;have ey:0+(i:Int)=(i:Int):=by lia
  have y1:(i:Int)<=ss.bz:=by lia
  walk_at "w";rw[ey];refine⟨x,ss,(i:Int),rfl,hs.same s2,hg,by lia,by lia,λlv H3 s3 JM=>?_⟩
  replace JM:H3 lv=some (.lst ((upTo ss (i:Int) 1).map V.int)):=JM
  have l9:=tT hg (i:Int) 1;refine eM (bR.of JM) ?_;refine fR (xs:=(upTo ss (i:Int) 1).map V.int) (λj us H'=>aO H3 H'/\∃bs:au,us=bs.map V.ref/\bs.length<=j/\RL (oY κI H') bs (((upTo ss (i:Int) 1).take j).map λy=>(dr ss (i:Int) y,y,0))) ⟨aO.refl _,[],rfl,dQ _,RL.nil⟩ (cB (by rw[bX];lia))
   (λj us H' hj ⟨s',bs,e,lb,r⟩=>⟨bR.of (s' _ _ JM),by rw[e,bX];exact lb⟩) (λj u us H4 hu Rn=>?_) (λus H4 Rm=>?_)
  ·obtain⟨s4,bs,e,lb,r⟩:=Rn;obtain⟨y,eyy,rfl⟩:=iJ hu;walk_at "w";refine⟨x,ss,_,y,rfl,hs.same (s2.trans (s3.trans s4)),hg,?_⟩;walk_at "w";intro T nT;obtain⟨H5,i5,s5,g5⟩:=nw _ nT;rw[i5];refine⟨s4.trans s5,bs ++ [T],by rw[e,iK];rfl,by rw[lB];simp;lia,?_⟩;rw[dG eyy,iK];exact RL.snoc (r.imp λ_ _ z=>z.same s5) ⟨_,g5,rfl⟩
  ·obtain⟨s4,bs,e,lb,r⟩:=Rm;rw[bX,uC] at r;intro lw Jh;obtain⟨H5,i5,s5,g5⟩:=nw _ Jh;rw[i5];have Ah:=s3.trans (s4.trans s5);have Df:=Ah _ _ gw;have Vp:(i:Int)∉ks:=λz=>by have:=(fm _).mp z;lia
   walk_at "w";refine⟨wd,_,rfl,κI.Ka (x:=(i:Int)) Df rfl (by rw[bX];lia) _,?_⟩;rw[Zk Vp,Ym Vp];obtain⟨H6,i6,k6,g6⟩:=wr H5 wd _;rw[i6];walk_at "w";refine⟨_,ks ++ [(i:Int)],_,rfl,λc o e=>k6 _ _ (Ah _ _ (s2 _ _ e)) (bB En e),g6,λy hy=>?_,λy=>?_,by rw[lB];simp;lia⟩
   ·by_cases Dp:y=(i:Int)
    ·subst Dp;rw[cO rfl];exact gZ.Cg (ws:=BQ ss (i:Int)) ⟨bs,by rw[g5,e],r.imp λ_ _ z=>z.same s5⟩ (κI.ub _) Df k6
    ·rw[bZ Dp];rcases oh.mp hy with z|z
     ·exact((sk y z).same Ah).Cg (κI.ub _) Df k6
     ·exact absurd (rC.mp z) Dp
   ·rw[oh,rC,fm];lia
 ·obtain⟨z4,ks,g,e,s2,gw,sk,fm,lk⟩:=Ro;subst e;walk_at "w";refine⟨by lia,by lia,?_⟩;rw[show((n:Int)+1).toNat=n+1 by lia];refine jN (λi us H'=>aO H2 H'/\∃as:au,us=as.map V.ref/\RL (λb qs=>∃us,H' b=some (.lst us)/\yb κI H' us qs) as ((wo ss l n).take i)) ⟨aO.refl _,[],rfl,RL.nil⟩ (cB (by lia)) (λi us H' hi ⟨s',as,e,r⟩=>by rw[e,bX,r.len,qa];lia) (λi us H3 hi Rl=>?_) (λus H3 Rk=>?_)
  ·obtain⟨s3,as,e,r⟩:=Rl;walk_at "w";refine⟨x,ss,l,_,rfl,hs.same (s2.trans s3),hg,l0,by lia,by lia,by lia,λb H4 s4 gb=>?_⟩;refine⟨s3.trans s4,as ++ [b],by rw[e,iK];rfl,?_⟩;rw[dG (Pr (s:=ss) (l:=l) (n:=n) (i:=i) (by lia))];refine RL.snoc (r.imp λ_ _ ⟨us,e,p⟩=>⟨us,s4 _ _ e,p.same s4⟩) ⟨_,gb,?_⟩;rw[show(0+(i:Int))=(i:Int) by lia];exact aMC (upTo ss l (i:Int))
  ·obtain⟨s3,as,e,r⟩:=Rk;intro la Er;obtain⟨H4,i4,s4,g4⟩:=nw _ Er;rw[i4];rw[show n+1=(wo ss l n).length from(PV _ _ _).symm,uC] at r;walk_at "w";intro xo Xk nx nd hd;obtain⟨J,ij,sj,j⟩:=Jf (C:=a.cS) nx nd hd;rw[ij];refine⟨xo,Xk,_,_,rfl,j,λH5 hS kx=>⟨rfl,?_⟩⟩;have UK:aO H4 H5:=λb o e=>kx _ _ (sj _ _ e) (bB nx e);have Ag:=s4.trans UK;have Ah:=s3.trans Ag;walk_at "w";refine k xo H5 (s2.trans Ah) ⟨aQQ hg l0 l1 n,Xk,la,wd,ks,g,hS,⟨as,by rw[UK _ _ g4,e],r.imp λ_ _ ⟨us,e,p⟩=>⟨us,Ag _ _ e,p.same Ag⟩⟩,Ah _ _ gw,λx hx=>(sk x hx).same Ah,λi y hy=>?_⟩;obtain⟨ps,e1,Vn⟩:=hy;rw[(lQ e1).1] at Vn;obtain⟨y0,y1⟩:=PU Vn;exact(fm y).mpr ⟨y0,by lia⟩
inductive aBx  (K:W.Frag) (CW CM CS CL:Addr) (vs:List V) (H:Hp) (Q:VK) (E:XK):Prop
 |mk:∀(w:Addr) (W:WS) (a:Addr) (P:Ps) (n:Nat),(vs=[.ref w,.ref a,.int (n:Int)])->kB CW CM CS H w W->W.Good->zS H a P->Kc W P->(n<=48)->(∀l H' os du,aO H H'->H' l=some (.lst (os.map V.ref))->RL (rG CL n H') os du->XR W P n du->du.length<=7->Q (.ref l) H')->aBx K CW CM CS CL vs H Q E
theorem aHv(tx:Txt K mg a):bT P w K mg base eY 10 a.aCT a.aCU aUa (aBx K a.dU a.bA a.cN a.cS):=by
 have aDs:=aBM (P:=P) (w:=w) (base:=base) tx;have aF4:=aEd (P:=P) (w:=w) (base:=base) tx;refine tx.ni.F.ok aA6 (by walk_at "l") λbj A outer s H vs Q E hr h=>?_;obtain⟨w,W,ap,P,n,rfl ,hw,hg,hP,hB,hn,k⟩:=h;have hu:=gM hr;refine aZ (aE (fF (k:=2) (idx:=[2]) (N:=gr) (i:=3) aA6.nd rfl (Or.inl rfl) (dJ (sc:=aL pU) (NX:=bqa) rfl rfl rfl (by decide +kernel)) rfl (pH (k1:=true) (k2:=false) (by rfl) tx.Dx (aB (bK (K':=K) (aA 0) rfl) (aB (aH (K':=K) (aA 1) aC) aD))) (λ_ _ _ _=>(bQ (K':=K) (n:=2) rfl (aR (aJ (i:=0) (show(gr:ak).Nodup by decide +kernel)) (aR (aJ (i:=1) (show(gr:ak).Nodup by decide +kernel)) bP)))) (pD (cU (by decide) (cU (by decide) lX))) (λ_ _ _ _=>bU) (λ_ _ _ _=>(bg aDs hr tx.gj (aB (aA 0) (aB (aA 1) (aB (aA 2) aD))))))
  (aF (aM (aAU (aU wQ (bK (K':=K) (aA 0) rfl) c8 (bJ _)) (aA 3) (aI bC (aA 3) (iF (bg aF4 hr tx.jk (aB (bK (K':=K) (aA 0) rfl) (aB (aH (K':=K) (aA 1) aC) (aB (aA 2) aD)))))))))) ?_
 obtain⟨dx,lm,st,gw,hms,wt⟩:=hw.ex;obtain⟨ms,V2,El⟩:=hms.ex;obtain⟨t,gP,M6⟩:=hP.ex;obtain⟨ts,JL,FN⟩:=M6.ex;have F0:=El.len;have Jm:=FN.len;have MH:=hB.ok.len;have l6:=hg.len;refine aV (σ:=[some (.ref w),some (.ref ap),some (.int (n:Int)),none]) rfl ?_;walk_at "w";refine dM gw tx.qB tx.oW rfl ?_;walk_at "w";refine KH (Src.lst V2) (Src.tup JL) ?_;refine aEE (n:=W.specs.length) (by rw[bX];lia) (by rw[bX];lia) (.inl (by rw[bX];lia)) (cB (by lia))
  (λi us H'=>aO H H'/\∃(os:au) (du:List Lo),us=os.map V.ref/\RL (rG a.cS n H') os du/\os.length=i/\∀qs:ae,qs.length=n->List.sum (du.map λx=>x.val qs)=List.sum (List.zipWith (λm s=>Ek m qs s) (W.specs.take i) (P.1.take i))) ⟨aO.refl _,[],[],rfl,RL.nil,rfl,λ_ _=>rfl⟩
  (λi us H' hi ⟨s',os,du,e1,r,e2,e3⟩=>⟨⟨Src.lst (s' _ _ V2),Src.tup (s' _ _ JL)⟩,by rw[e1,bX];lia⟩)
  (λi x y us H' T hx hy Rj nT=>?_) (λus H' Ri=>?_)
 ·obtain⟨s',os,du,e1,r,e2,e3⟩:=Rj;obtain⟨xm,m,_,rfl,em,hm⟩:=El.get hx;obtain⟨xt,s,_,rfl,es,hs⟩:=FN.get hy;obtain⟨J,j,sT,gT⟩:=nw _ nT;rw[j];have s2:=s'.trans sT;have gm:=hg.specs m (kP em);refine cV (iC.of gT) rfl ?_;walk_at "w";refine⟨xm,m,xt,s,n,rfl,hm.same s2,gm,s2 _ _ hs,hB.st i m s em es,hn,λo Ls H3 s3 hL=>?_⟩;have yg:=sT.trans s3;refine⟨s'.trans yg,os ++ [o],du ++ [.ma m s Ls],by rw[e1,iK];rfl,RL.snoc (r.imp λ_ _ z=>rG.same z yg) (show rG a.cS n H3 o (.ma m s Ls) from hL),by rw[lB,e2];rfl,λqs hq=>?_⟩;rw[Qt em es,iK,DD,DD,e3 qs hq,uY,vb,wj,Fn,wj,Fn];congr 2;exact aRR gm qs s
 ·obtain⟨s',os,du,e1,r,e2,e3⟩:=Ri;subst e1;rw[uC,<-MH,uC] at e3;have a0g:=r.len;intro l nl;obtain⟨H2,i2,s2,g2⟩:=nw _ nl;rw[i2];have S2:=s'.trans s2;have Dg:=S2 _ _ gw;have gP2:=S2 _ _ gP;have r2:=r.imp λ_ _ z=>rG.same z s2;walk_at "w";refine dM Dg tx.qB tx.oB rfl ?_;cases e:W.store with
  |none=>
   rw[e] at wt
   replace wt:st=.bt:=wt
   subst wt;repeat walk_at "gs"
   refine k l H2 os du S2 g2 r2 (λqs hq=>?_) (by lia);rw[e3 qs hq];unfold Ao F1;rw[e];exact(zd _).symm
  |some sv=>
   rw[e] at wt;obtain⟨c,rfl,hc⟩:=wt;have wu:=hB.ok.Ap;unfold Ci at wu;rw[e] at wu
   replace wu:0<=P.2/\P.2<=sv.bz:=wu
   repeat walk_at "gs"
   refine dM Dg tx.qB tx.oB rfl ?_;repeat walk_at "gs"
   refine⟨c,sv,P.2,n,rfl,hc.same S2,hg.store sv e,wu.1,wu.2,hn,λo H3 s3 hL=>?_⟩;walk_at "w";intro l2 AY;obtain⟨H4,i4,s4,g4⟩:=nw _ AY;rw[i4];have Ej:=s3.trans s4;refine iT (Ej _ _ g2) g4 (cB (by rw[bX];simp;lia)) ?_;intro l3 FW;obtain⟨H5,i5,s5,g5⟩:=nw _ FW;rw[i5];have Ah:=Ej.trans s5;refine k l3 H5 (os ++ [o]) (du ++ [.st sv P.2 (wo sv P.2 n)]) (S2.trans Ah) (by rw[g5,iK];rfl) (RL.snoc (r2.imp λ_ _ z=>rG.same z Ah) (rG.same (x:=.st sv P.2 (wo sv P.2 n)) hL (s4.trans s5))) (λqs hq=>?_) (by rw[lB];simp;lia);rw[iK,DD,e3 qs hq,uY,vb,wj,Fn,zd];unfold Ao F1;rw[e];congr 1;exact aRS sv qs P.2
def B9(H:Hp)(d:Addr)(m:Int->Int):Prop:=∃rs,H d=some (κI.ho (ri rs))/\(∀p,LM rs p (m p))/\rs.length<=10000
theorem B9.same{H H':Hp}{d:Addr}{m:Int->Int}(h:B9 H d m)(s:aO H H'):B9 H' d m:=let ⟨rs,e,a,b⟩:=h;⟨rs,s _ _ e,a,b⟩
theorem aOD(want:Int)(ms:List (Int->Int))(m:Int->Int)(p:Int):bF want (ms ++ [m]) p=bF want ms p+m p:=by
 unfold bF;rw[iK,DD,uY,vb,wj,Fn];lia
inductive aBy  (K:W.Frag) (vs:List V) (H:Hp) (Q:VK) (E:XK):Prop
 |mk:∀(want p:Int) (l:Addr) (ds:au) (ms:List (Int->Int)),(vs=[.int want,.ref l,.int p])->(H l=some (.lst (ds.map V.ref)))->(RL (B9 H) ds ms)->(ds.length<=100)->(0<=p)->(p<=1000000000001)->(∀H',aO H H'->Q (.int (bF want ms p)) H')->aBy K vs H Q E
theorem aHx(tx:Txt K mg a):bT P w K mg base eY 1 a.aCV a.aCW aYa (aBy K):=by
 refine tx.jc.F.ok nE (by walk_at "l") λbj A outer s H vs Q E hr h=>?_;obtain⟨want,p,l,ds,ms,rfl ,gl,r,ld,p0,p1,k⟩:=h;have hu:=gM hr;refine aZ (aE (aK (i:=3) nE.nd (aI bV (aA 2) (aA 0)))
  (aE (bI PassesOwn.never rfl (bH (K':=K) (aA 1)) (aJ (i:=4) nE.nd) (aF (lT (i:=3) nE.nd rfl (Or.inl rfl) (aIj (aP (rc:=Kx K) (aEJ rfl) (by rfl) tx.jI gB (aB (cR (k:=2) (idx:=[2]) (N:=bga) (dJ (sc:=aL pV) (NX:=bma) rfl rfl rfl (by decide +kernel)) rfl (aFr (aA 4)) (λ_ _ _ _=>(bQ (K':=K) (n:=2) rfl (aR (aJ (i:=0) (show(bga:ak).Nodup by decide +kernel)) (aR (aJ (i:=1) (show(bga:ak).Nodup by decide +kernel)) bP)))) (pD (cU (by decide) (cU (by decide) lX))) (λ_ _ _ _=>bU) (λ_ _ _ _=>(aI bC (aA 1) (aI bV (aA 0) (aA 2))))) aD))) Fj)))
  (aF (aM (aA 3))))) ?_
 refine aV (σ:=[some (.int want),some (.ref l),some (.int p),none,none]) rfl ?_;walk_at "w";refine eM (bR.of gl) ?_;have F0:=r.len;refine eT (xs:=ds.map V.ref) (λi σ' H'=>aO H H'/\∃z4,σ'=[some (.int want),some (.ref l),some (.int p),some (.int (bF want (ms.take i) p)),z4]) ⟨aO.refl _,_,by unfold bF;rw[List.take_zero];show _=[_,_,_,some (V.int (p*want+0)),_];rw[zd]⟩ (λi σ' H' hi ⟨s',_⟩=>bR.of (s' _ _ gl)) (λi v σ' H' hv Rh=>?_) (λσ' H' Rg=>?_)
 ·obtain⟨s',z4,e⟩:=Rh;subst e;obtain⟨d,m,ed,rfl,em,rs,gd,EF,lr⟩:=r.gt hv;have V5:=s' _ _ gd;walk_at "w";refine Fg rfl ?_;walk_at "w";refine aRJ (kvs:=(ri rs).map λp:Int×V=>((Sum.inl p.1:Key),p.2)) V5 λob=>?_;obtain⟨H1,i1,k1,g1⟩:=wr H' d _;rw[i1];refine aGV (kvs:=(ri rs).map λp:Int×V=>((Sum.inl p.1:Key),p.2)) (λj us H'=>aO H1 H'/\us=(((rs.take j).map λq=>q.2+q.1*p).map V.int)) ⟨aO.refl _,rfl⟩ (cB (by rw[bX,xE];lia))
   (λj us H' hj ⟨s',e⟩=>⟨s' _ _ g1,by rw[e,bX,bX,qa];lia⟩) (λj kv us H2 T VC Rf nT=>?_) (λus H2 Rb=>?_)
  ·obtain⟨s2,e⟩:=Rf;rw[kQ] at VC;obtain⟨q',om,rfl⟩:=kl.mp VC;obtain⟨q,eq,rfl⟩:=OP om;obtain⟨H3,i3,s3,g3⟩:=nw _ nT;rw[i3]
   replace g3:H3 T=some (.tup [.int q.1,.int q.2]):=g3
   refine cV (iC.of g3) rfl ?_;walk_at "w";refine⟨s2.trans s3,?_⟩;rw[e,dG eq,iK,iK];rfl
  ·obtain⟨s2,e⟩:=Rb;subst e;rw[bX,xE,uC];intro l2 n2;obtain⟨H3,i3,s3,g3⟩:=nw _ n2;rw[i3];obtain⟨r0,Nc,er0⟩:=(EF p).at_;walk_at "w";refine Zc (bR.of g3) (λz=>by rw[DK.mp z] at Nc;cases Nc) λmm hm hle=>?_;have em':mm=m p:=by
    obtain⟨q,hq,e⟩:=fZ.mp hm;have a1:=(EF p).le q hq;have a2:=hle _ (fZ.mpr ⟨r0,Nc,rfl⟩);lia
   subst em';have yg:=s2.trans s3;refine⟨d,_,V5,ob,yg _ _ g1,?_⟩;obtain⟨H4,i4,k4,g4⟩:=wr H3 d _;rw[i4];walk_at "w";refine⟨λb o e=>?_,_,by rw[take_snoc em,aOD];rfl⟩;by_cases eb:b=d
   ·subst eb;rw[gd] at e;cases e;exact g4
   ·exact k4 _ _ (yg _ _ (k1 _ _ (s' _ _ e) eb)) eb
 ·obtain⟨s',z4,e⟩:=Rg;subst e;rw[bX,F0,uC];walk_at "w";exact k H' s'
inductive wG  (K:W.Frag) (vs:List V) (H:Hp) (Q:VK) (E:XK):Prop
 |mk:∀(bh want:Int) (l:Addr) (ds:au) (ms:List (Int->Int)),(vs=[.int bh,.int want,.ref l])->(H l=some (.lst (ds.map V.ref)))->(RL (B9 H) ds ms)->(ds.length<=100)->Am bh->(∀r H',aO H H'->tV bh (bF want ms) r->Q (.int r) H')->wG K vs H Q E
theorem aEf(tx:Txt K mg a):bT P w K mg base eY 2 a.y8 a.y9 aZa (wG K):=by
 have aDt:=aHx (P:=P) (w:=w) (base:=base) tx;refine tx.jl.F.ok fU (by walk_at "l") λbj A outer s H vs Q E hr h=>?_;obtain⟨bh,want,l,ds,ms,rfl ,gl,r,ld,hl,k⟩:=h;have hu:=gM hr;refine aZ (aE (aK (i:=3) fU.nd aC)
  (aE (aK (i:=4) fU.nd (aA 0))
  (aE (aGE PassesOwn.never (aU Cm (aA 3) (aA 4) (bJ _)) (aE (aK (i:=5) fU.nd (aI La (aI bC (aA 3) (aA 4)) aC))
  (aF (bD (aU rP (bg aDt hr tx.jc (aB (aA 1) (aB (aA 2) (aB (aI bC (aA 5) aC) aD)))) (bg aDt hr tx.jc (aB (aA 1) (aB (aA 2) (aB (aA 5) aD)))) (bJ _)) (aF (aK (i:=3) fU.nd (aI bC (aA 5) aC))) (aF (aK (i:=4) fU.nd (aA 5)))))))
  (aF (aM (aA 3)))))) ?_
 obtain⟨l0,l1⟩:=hl;have hc:AE (bF want ms):=YO want λm hm=>by
  obtain⟨i,hi⟩:=ve hm;have li:i < ds.length:=by rw[r.len];exact(lU.mp hi).1
  obtain⟨rs,_,EF,_⟩:=r.at_ i _ m (eS li) hi;exact LM.aSf EF
 generalize hgf:bF want ms=gf at hc k;refine aV (σ:=[some (.int bh),some (.int want),some (.ref l),none,none,none]) rfl ?_;walk_at "w";refine⟨λmm σ' H'=>∃(lo hi:Int) (z5:Option V),σ'=[some (.int bh),some (.int want),some (.ref l),some (.int lo),some (.int hi),z5]/\aO H H'/\0<=lo/\lo<=hi/\hi<=bh/\(∀p,0<=p->p < lo->gf p < gf (p+1))/\(∀p,hi<=p->p < bh->gf (p+1)<=gf p)/\mm=(hi - lo).toNat,⟨_,0,bh,_,rfl,aO.refl _,by lia,l0,by lia,(λp a b=>by lia),(λp a b=>by lia),rfl⟩,?_⟩;rintro mm σ' H' ⟨lo,hi,z5,rfl,s',a0,a1,a2,u1,u2,rfl⟩;walk_at "w";refine cA (λh=>?_) (λh=>?_)
 ·refine⟨λσ' H'=>∃(CY B2:Int) (z5:Option V),σ'=[some (.int bh),some (.int want),some (.ref l),some (.int CY),some (.int B2),z5]/\aO H H'/\0<=CY/\CY<=B2/\B2<=bh/\(∀p,0<=p->p < CY->gf p < gf (p+1))/\(∀p,B2<=p->p < bh->gf (p+1)<=gf p)/\(B2 - CY).toNat < (hi - lo).toNat,λσ' H' ⟨CY,B2,z5,e,s,b0,b1,b2,v1,v2,lt⟩=>⟨_,lt,CY,B2,z5,e,s,b0,b1,b2,v1,v2,rfl⟩,?_⟩;walk_at "w";have em:∃mid,(lo+hi) / 2=mid/\lo<=mid/\mid < hi:=⟨_,rfl,by lia,by lia⟩
  obtain⟨mid,em,m0,m1⟩:=em;refine⟨want,_,l,ds,ms,rfl,s' _ _ gl,r.imp λ_ _ z=>z.same s',ld,by lia,by lia,λH1 s1=>?_⟩;walk_at "w";refine⟨want,_,l,ds,ms,rfl,(s'.trans s1) _ _ gl,r.imp λ_ _ z=>z.same (s'.trans s1),ld,by lia,by lia,λH2 s2=>?_⟩;have S2:=s'.trans (s1.trans s2);rw[hgf];walk_at "w";refine cA (λh2=>?_) (λh2=>?_)
  ·walk_at "w";refine⟨_,_,_,rfl,S2,by lia,by lia,by lia,λp p0 p1=>?_,u2,by lia⟩;have:=hc.mono (p:=p) (q:=mid) (by lia);rw[em] at h2;lia
  ·walk_at "w";refine⟨_,_,_,rfl,S2,by lia,by lia,by lia,u1,λp p0 p1=>?_,by lia⟩;have:=hc.mono (p:=mid) (q:=p) (by lia);rw[em] at h2;lia
 ·walk_at "w";obtain rfl:lo=hi:=by lia
  exact k lo H' s' ⟨a0,a2,u1,u2⟩
def uX(qs:ae)(i:Nat)(H:Hp)(d:Addr)(x:Lo):Prop:=∃rows:List (x.α×Int),H d=some (x.κ.ho (ri rows))/\tm (Pz x.w qs) x.a i rows
theorem uX.same{qs:ae}{i:Nat}{H H':Hp}{d:Addr}{x:Lo}(h:uX qs i H d x)(s:aO H H'):uX qs i H' d x:=let ⟨rows,e,p⟩:=h;⟨rows,s _ _ e,p⟩
def B8(qs:ae)(i n:Nat)(H:Hp)(e:Addr)(x:Lo):Prop:=∃ts,x.Ls[i+1]?=some ts/\x.κ.da H e ts (wF (Pz x.w qs) (n - (i+1)) (i+1))
theorem B8.same{qs:ae}{i n:Nat}{H H':Hp}{d:Addr}{x:Lo}(h:B8 qs i n H d x)(s:aO H H'):B8 qs i n H' d x:=let ⟨ts,e,p⟩:=h;⟨ts,e,x.κ.uK p s⟩
theorem aE5{H H1 H2:Hp}{d:Addr}{u:HO}(hd:H d=some u)(k1:bL d H H1)(k2:bL d H1 H2)(g2:H2 d=some u):aO H H2:=λb o e=>by
 by_cases eb:b=d
 ·subst eb;rw[hd] at e;cases e;exact g2
 ·exact k2 _ _ (k1 _ _ e eb) eb
inductive qY  (K:W.Frag) (CL:Addr) (vs:List V) (H:Hp) (Q:VK) (E:XK):Prop
 |mk:∀(ll lh:Addr) (os hs:au) (du:List Lo) (n i:Nat) (qs:ae) (p:Int),(vs=[.ref ll,.ref lh,.int p])->(H ll=some (.lst (os.map V.ref)))->(H lh=some (.lst (hs.map V.ref)))->(RL (rG CL n H) os du)->(RL (uX qs i H) hs du)->(du.length<=7)->(i < n)->(qs.getD i 0=p)->Am p->(∀l H' vo,aO H H'->H' l=some (.lst (vo.map V.ref))->RL (uX qs (i+1) H') vo du->Q (.ref l) H')->qY K CL vs H Q E
theorem aBN(tx:Txt K mg a):bT P w K mg base eY 3 a.sY a.sZ asa (qY K a.cS):=by
 have tZ:=rJ (P:=P) (w:=w) (base:=base) tx;refine tx.gv.F.ok aBF (by walk_at "l") λbj A outer s H vs Q E hr h=>?_;obtain⟨ll,lh,os,hs,du,n,i,qs,p,rfl ,gl,gh,ro,rh,l7,hi,Dq,hp,k⟩:=h;have hu:=gM hr;refine aZ (aF (aM (cR (k:=2) (idx:=[2]) (N:=bna) (dJ (sc:=aL jE) (NX:=asa) rfl rfl rfl (by decide +kernel)) rfl (pH (k1:=true) (k2:=true) (by rfl) tx.Dx (aB (aA 0) (aB (aA 1) aD))) (λ_ _ _ _=>(bQ (K':=K) (n:=2) rfl (aR (aJ (i:=0) (show(bna:ak).Nodup by decide +kernel)) (aR (aJ (i:=1) (show(bna:ak).Nodup by decide +kernel)) bP)))) (pD (cU (by decide) (cU (by decide) lX))) (λ_ _ _ _=>bU) (λ_ _ _ _=>(aA3 (jT (aA 0) tx.kX tx.ig (tZ) (hr.mono (by decide)) tx.cn.b .nil aW (aB (aA 1) (aB (aA 2) aD)))))))) ?_;have lo:=ro.len;have lh':=rh.len;refine aV (σ:=[some (.ref ll),some (.ref lh),some (.int p)]) rfl ?_;walk_at "w";refine KH (Src.lst gl) (Src.lst gh) ?_;refine aEE (n:=du.length) (by rw[bX];lia) (by rw[bX];lia) (.inl (by rw[bX];lia)) (cB (by lia))
  (λj us H'=>aO H H'/\∃vo:au,us=vo.map V.ref/\vo.length=j/\RL (uX qs (i+1) H') vo (du.take j)) ⟨aO.refl _,[],rfl,rfl,RL.nil⟩
  (λj us H' hj ⟨s',vo,e1,e2,r⟩=>⟨⟨Src.lst (s' _ _ gl),Src.lst (s' _ _ gh)⟩,by rw[e1,bX];lia⟩)
  (λj x y us H' T hx hy Ra nT=>?_) (λus H' Q9=>?_)
 ·obtain⟨s',vo,e1,e2,r⟩:=Ra;obtain⟨o,X,eo,rfl,eX,hL⟩:=ro.gt hx;obtain⟨d,X',ed,rfl,B5,hd⟩:=rh.gt hy;rw[eX] at B5;cases B5;obtain⟨H1,i1,sT,gT⟩:=nw _ nT;rw[i1];have s1:=s'.trans sT;obtain⟨rows,gd,hH⟩:=uX.same hd s1;have A7:qF a.cS X.κ H1 o X.a n X.w X.Ls:=rG.same hL s1;obtain⟨dx,la,wd,ks,g,o1,_⟩:=A7.ex;refine cV (iC.of gT) rfl ?_;walk_at "w";refine⟨_,_,_,rfl,o1,rfl,?_⟩;walk_at "w";refine⟨X.α,X.κ,o,d,X.a,n,i,X.w,X.Ls,rows,qs,p,rfl,A7,gd,hH,hi,Dq,hp,λq H2 ob vj nq k2 NU hH' gq=>?_⟩;refine⟨d,_,X.κ.ub _,gd,ob,NU,?_⟩;obtain⟨H3,i3,k3,g3⟩:=wr H2 d _;rw[i3];have s3:=aE5 gd k2 k3 g3;have qd:q≠d:=λz=>by rw[z,gd] at nq;cases nq
  refine⟨s1.trans s3,vo ++ [q],by rw[e1,iK];rfl,by rw[lB,e2];rfl,?_⟩;rw[dG eX];exact RL.snoc (r.imp λ_ _ z=>uX.same z (sT.trans s3)) ⟨vj,k3 _ _ gq qd,hH'⟩
 ·obtain⟨s',vo,e1,e2,r⟩:=Q9;subst e1;rw[uC] at r;intro l nl;obtain⟨H2,i2,s2,g2⟩:=nw _ nl;rw[i2];walk_at "w";exact k l H2 vo (s'.trans s2) g2 (r.imp λ_ _ z=>uX.same z s2)
inductive wH  (K:W.Frag) (CW CM CS CL:Addr) (vs:List V) (H:Hp) (Q:VK) (E:XK):Prop
 |mk:∀(w ll lh lt:Addr) (W:WS) (os hs ts:au) (du:List Lo) (n i:Nat) (qs:ae) (want:Int),(vs=[.ref w,.int want,.ref ll,.ref lh,.ref lt])->kB CW CM CS H w W->W.Good->(H ll=some (.lst (os.map V.ref)))->(H lh=some (.lst (hs.map V.ref)))->(H lt=some (.lst (ts.map V.ref)))->(RL (rG CL n H) os du)->(RL (uX qs i H) hs du)->(RL (B8 qs i n H) ts du)->(du.length<=7)->(i < n)->(qs.length=n)->(∀r H',aO H H'->tV W.bh (bF want (du.map λx p=>x.val (qs.set i p))) r->Q (.int r) H')->wH K CW CM CS CL vs H Q E
theorem aEg(tx:Txt K mg a):bT P w K mg base eY 3 a.zA a.zB ata (wH K a.dU a.bA a.cN a.cS):=by
 have qG:=o8 (P:=P) (w:=w) (base:=base) tx;have aF5:=aEf (P:=P) (w:=w) (base:=base) tx;refine tx.jn.F.ok vA (by walk_at "l") λbj A outer s H vs Q E hr h=>?_;obtain⟨w,ll,lh,lt,W,os,hs,ts,du,n,i,qs,want,rfl ,hw,hg,gl,gh,gt,ro,rh,rt,l7,hi,hn,k⟩:=h;have hu:=gM hr;refine aZ (aE (fF (k:=3) (idx:=[]) (N:=baa) (i:=5) vA.nd rfl (Or.inl rfl) (dJ (sc:=aL lM) (NX:=bda) rfl rfl rfl (by decide +kernel)) rfl (aH1 (k1:=true) (k2:=true) (k3:=true) (by rfl) tx.Dx (aB (aA 2) (aB (aA 3) (aB (aA 4) aD)))) (λ_ _ _ _=>(bQ (K':=K) (n:=3) rfl (aR (aJ (i:=0) (show(baa:ak).Nodup by decide +kernel)) (aR (aJ (i:=1) (show(baa:ak).Nodup by decide +kernel)) (aR (aJ (i:=2) (show(baa:ak).Nodup by decide +kernel)) bP))))) (pD (cU (by decide) (cU (by decide) (cU (by decide) lX)))) (λ_ _ _ _=>bU) (λ_ _ _ _=>(aA3 (jT (aA 0) tx.kX tx.fi (qG) (hr.mono (by decide)) tx.cb.b .nil aW (aB (aA 1) (aB (aA 2) aD))))))
  (aF (aM (bg aF5 hr tx.jl (aB (bK (K':=K) (aA 0) rfl) (aB (aA 1) (aB (aA 5) aD))))))) ?_
 have lo:=ro.len;have lh':=rh.len;have lt':=rt.len;refine aV (σ:=[some (.ref w),some (.int want),some (.ref ll),some (.ref lh),some (.ref lt),none]) rfl ?_;walk_at "w";refine aQv (Src.lst gl) (Src.lst gh) (Src.lst gt) ?_;refine aJ0 (n:=du.length) (by rw[bX];lia) (by rw[bX];lia) (by rw[bX];lia) (.inl (by rw[bX];lia)) (cB (by lia))
  (λj us H'=>aO H H'/\∃ds:au,us=ds.map V.ref/\ds.length=j/\RL (B9 H') ds ((du.take j).map λx p=>x.val (qs.set i p))) ⟨aO.refl _,[],rfl,rfl,RL.nil⟩
  (λj us H' hj ⟨s',ds,e1,e2,r⟩=>⟨⟨Src.lst (s' _ _ gl),Src.lst (s' _ _ gh),Src.lst (s' _ _ gt)⟩,by rw[e1,bX];lia⟩)
  (λj x y z us H' T hx hy hz Q8 nT=>?_) (λus H' Q7=>?_)
 ·obtain⟨s',ds,e1,e2,r⟩:=Q8;obtain⟨o,X,eo,rfl,eX,hL⟩:=ro.gt hx;obtain⟨d,X',ed,rfl,B5,hd⟩:=rh.gt hy;rw[eX] at B5;cases B5;obtain⟨e,X',ee,rfl,B5,he⟩:=rt.gt hz;rw[eX] at B5;cases B5;obtain⟨H1,i1,sT,gT⟩:=nw _ nT;rw[i1];have s1:=s'.trans sT;obtain⟨rows,gd,hH⟩:=uX.same hd s1;obtain⟨tt,ett,gtt⟩:=B8.same he s1;have A7:qF a.cS X.κ H1 o X.a n X.w X.Ls:=rG.same hL s1;obtain⟨dx,la,wd,ks,g,o1,_⟩:=A7.ex;refine cV (iC.of gT) rfl ?_;walk_at "w";refine⟨_,_,_,rfl,o1,rfl,?_⟩;walk_at "w";refine⟨X.α,X.κ,o,d,e,X.a,n,i,X.w,X.Ls,rows,qs,tt,rfl,A7,gd,hH,hi,hn,ett,gtt,λq H2 ob rs nq k2 NU EF lrs gq=>?_⟩;refine⟨d,_,X.κ.ub _,gd,ob,NU,?_⟩;obtain⟨H3,i3,k3,g3⟩:=wr H2 d _;rw[i3];have s3:=aE5 gd k2 k3 g3;have qd:q≠d:=λz=>by rw[z,gd] at nq;cases nq
  refine⟨s1.trans s3,ds ++ [q],by rw[e1,iK];rfl,by rw[lB,e2];rfl,?_⟩;rw[dG eX,iK];refine RL.snoc (r.imp λ_ _ z=>B9.same z (sT.trans s3)) ⟨rs,k3 _ _ gq qd,λp=>?_,lrs⟩;show LM rs p (wF (Pz X.w (qs.set i p)) (qs.set i p).length 0 X.a);rw[wk,hn];exact EF p
 ·obtain⟨s',ds,e1,e2,r⟩:=Q7;subst e1;rw[uC] at r;intro l nl;obtain⟨H2,i2,s2,g2⟩:=nw _ nl;rw[i2];have S2:=s'.trans s2;obtain⟨dx,lm,st,gw,_⟩:=(hw.tr S2.tr).ex;walk_at "w";refine dM gw tx.qB tx.zI rfl ?_;walk_at "w";exact⟨W.bh,want,l,ds,_,rfl,g2,r.imp λ_ _ z=>B9.same z s2,by lia,hg.bh,λr' H3 s3 hb=>k r' H3 (S2.trans s3) hb⟩
inductive qZ  (K:W.Frag) (CW CM CS CL t:Addr) (vs:List V) (H:Hp) (Q:VK) (E:XK):Prop
 |mk:∀(w:Addr) (W:WS) (a:Addr) (P:Ps) (u:Addr) (ws:ae) (q:Addr) (qs:ae) (h:Nat),(vs=[.ref w,.ref a,.ref u,.ref q,.int (h:Int)])->(H t=some (.pq cP cQ))->kB CW CM CS H w W->W.Good->zS H a P->Kc W P->(H u=some (.lst (ws.map V.int)))->(H q=some (.lst (qs.map V.int)))->(ws.length=qs.length)->((∀n∈qs,Am n))->(qs.length<=48)->(h < qs.length)->(∀r H',aO H H'->tV W.bh (λp=>Ak W P ws (qs.set h p)) r->Q (.int r) H')->qZ K CW CM CS CL t vs H Q E
theorem aBO(tx:Txt K mg a):bT P w K mg base eY 11 a.tD a.tE aoa (qZ K a.dU a.bA a.cN a.cS a.dN):=by
 have qH:=o7 (P:=P) (w:=w) (base:=base) tx;have uA:=rH (P:=P) (w:=w) (base:=base) tx;have aF6:=aEg (P:=P) (w:=w) (base:=base) tx;have aDu:=aBN (P:=P) (w:=w) (base:=base) tx;have aIJ:=aHv (P:=P) (w:=w) (base:=base) tx;refine tx.gi.F.ok eI (by walk_at "l") λbj A outer s H vs Q E hr h=>?_;obtain⟨w,W,ap,P,u,ws,q,qs,h,rfl ,gt,hw,hg,hP,hB,MW,hq,hlen,ha,hl,hh,k⟩:=h;have hu:=gM hr;refine aZ (aE (aK (i:=5) eI.nd (bg aIJ hr tx.ni (aB (aA 0) (aB (aA 1) (aB (aP (rc:=uR K) dY (by rfl) tx.mR jO (aB (aA 2) aD)) aD)))))
  (aE (fF (k:=1) (idx:=[]) (N:=["lone"]) (i:=6) eI.nd rfl (Or.inl rfl) (dJ (sc:=aL gH) (NX:=aka) rfl rfl rfl (by decide +kernel)) rfl (bH (K':=K) (aA 5)) (λ_ _ _ _=>(aJ (i:=0) (show(["lone"]:ak).Nodup by decide +kernel))) (dI (by decide)) (λ_ _ _ _=>bU) (λ_ _ _ _=>(aAV (aA 0) tx.kX tx.fj (qH) (hr.mono (by decide)) tx.cg.b .nil aW)))
  (aE (bI PassesOwn.never rfl (bH (K':=K) (eO (rs:=zc K) Bd (aA 3) fD (fE (aA 4)))) (aJ (i:=7) eI.nd) (aF (aK (i:=6) eI.nd (bg aDu hr tx.gv (aB (aA 5) (aB (aA 6) (aB (aA 7) aD)))))))
  (aE (fF (k:=1) (idx:=[4,3]) (N:=["lone","hour","prices"]) (i:=8) eI.nd rfl (Or.inl rfl) (dJ (sc:=aL gH) (NX:=aka) rfl rfl rfl (by decide +kernel)) rfl (bH (K':=K) (aA 5)) (λ_ _ _ _=>(aJ (i:=0) (show(["lone","hour","prices"]:ak).Nodup by decide +kernel))) (dI (by decide)) (λ_ _ _ _=>bU) (λ_ _ _ _=>(aH (K':=K) (jT (aA 0) tx.kX tx.ie (uA) (hr.mono (by decide)) tx.cm.b .nil aW (aB (aA 2) aD)) (aI bC (aA 1) aC))))
  (aF (aM (bg aF6 hr tx.jn (aB (aA 0) (aB (aH (K':=K) (aA 2) (aA 4)) (aB (aA 5) (aB (aA 6) (aB (aA 8) aD)))))))))))) ?_
 refine aV (σ:=[some (.ref w),some (.ref ap),some (.ref u),some (.ref q),some (.int (h:Int)),none,none,none,none]) rfl ?_;walk_at "w";refine⟨w,W,ap,P,qs.length,by rw[bX,hlen],hw,hg,hP,hB,hl,λl H1 os du s1 gl ro hLo l7=>?_⟩;have lo:=ro.len;walk_at "w";refine eM (bR.of gl) ?_;refine fR (xs:=os.map V.ref) (λj us H'=>aO H1 H'/\∃hs:au,us=hs.map V.ref/\hs.length=j/\RL (uX qs 0 H') hs (du.take j)) ⟨aO.refl _,[],rfl,rfl,RL.nil⟩ (cB (by rw[bX];lia))
  (λj us H' hj ⟨s',hs,e1,e2,r⟩=>⟨bR.of (s' _ _ gl),by rw[e1,bX];lia⟩) (λj v us H2 hv Q6=>?_) (λus H2 Q5=>?_)
 ·obtain⟨s2,hs,e1,e2,r⟩:=Q6;obtain⟨o,X,eo,rfl,eX,hL⟩:=ro.gt hv;have EG:qF a.cS X.κ H2 o X.a qs.length X.w X.Ls:=rG.same hL s2;obtain⟨dx,la,wd,ks,g,o1,_⟩:=EG.ex;walk_at "w";refine⟨_,_,_,rfl,o1,rfl,?_⟩;walk_at "w";refine⟨X.α,X.κ,o,X.a,qs.length,X.w,X.Ls,rfl,EG,λd H3 nd s3 gd=>?_⟩;refine⟨s2.trans s3,hs ++ [d],by rw[e1,iK];rfl,by rw[lB,e2];rfl,?_⟩;rw[dG eX];exact RL.snoc (r.imp λ_ _ z=>uX.same z s3) ⟨_,gd,tm.zero _ _⟩
 obtain⟨s2,hs,e1,e2,r⟩:=Q5;subst e1;rw[bX,lo,uC] at r;intro lh nlh;obtain⟨H3,i3,s3,g3⟩:=nw _ nlh;rw[i3];have yg:=s2.trans s3;have Nd:=(s1.trans yg) _ _ hq;walk_at "w";refine lY (bR.of Nd) λp1 np1=>?_;rw[P6,<-List.map_take];obtain⟨H4,i4,s4,g4⟩:=nw _ np1;rw[i4];have BV:=yg.trans s4;refine eM (bR.of g4) ?_;refine eT (xs:=(qs.take h).map V.int) (λi σ' H'=>aO H4 H'/\∃(lh:Addr) (hs:au) (z7 z8:Option V),σ'=[some (.ref w),some (.ref ap),some (.ref u),some (.ref q),some (.int (h:Int)),some (.ref l),some (.ref lh),z7,z8]/\H' lh=some (.lst (hs.map V.ref))/\RL (uX qs i H') hs du)
  ⟨aO.refl _,lh,hs,_,_,rfl,s4 _ _ g3,r.imp λ_ _ z=>uX.same z (s3.trans s4)⟩ (λi σ' H' hi ⟨s',_⟩=>bR.of (s' _ _ g4)) (λi v σ' H5 hv Il=>?_) (λσ' H5 Ik=>?_)
 ·obtain⟨s5,lh,hs,z7,z8,e,gh,rh⟩:=Il;subst e;obtain⟨p,ep,rfl⟩:=iJ hv;have li:i < (qs.take h).length:=(lU.mp ep).1;rw[qa] at li;rw[QK (by lia)] at ep;have yf:=BV.trans s5;walk_at "w";refine⟨l,lh,os,hs,du,qs.length,i,qs,p,rfl,yf _ _ gl,gh,ro.imp λ_ _ z=>rG.same z yf,rh,l7,by lia,by rw[vf,ep];rfl,ha p (kP ep),λl2 H6 dv s6 g6 r6=>?_⟩;walk_at "w";exact⟨s5.trans s6,l2,dv,_,_,rfl,g6,r6⟩
 obtain⟨s5,lh,hs,z7,z8,e,gh,rh⟩:=Ik;subst e;rw[bX,qa,Ll (by lia)] at rh;have yf:=BV.trans s5;have S5:=s1.trans yf;have su:=yf _ _ gl;walk_at "w";refine eM (bR.of su) ?_;refine fR (xs:=os.map V.ref) (λj us H'=>aO H5 H'/\∃ts:au,us=ts.map V.ref/\ts.length=j/\RL (B8 qs h qs.length H') ts (du.take j)) ⟨aO.refl _,[],rfl,rfl,RL.nil⟩ (cB (by rw[bX];lia))
  (λj us H' hj ⟨s',hs,e1,e2,r⟩=>⟨bR.of (s' _ _ su),by rw[e1,bX];lia⟩) (λj v us H6 hv Ij=>?_) (λus H6 Ii=>?_)
 ·obtain⟨s6,ts,e1,e2,rt⟩:=Ij;obtain⟨o,X,eo,rfl,eX,hL⟩:=ro.gt hv;have S6:=S5.trans s6;have NM:qF a.cS X.κ H6 o X.a qs.length X.w X.Ls:=rG.same hL (yf.trans s6);obtain⟨dx,la,wd,ks,g,o1,_⟩:=NM.ex;walk_at "w";refine⟨_,_,_,rfl,o1,rfl,?_⟩;walk_at "w";refine⟨X.α,X.κ,o,q,X.a,qs.length,X.w,X.Ls,qs,rfl,S6 _ _ gt,NM,S6 _ _ hq,ha,rfl,hl,λrr H7 s7 nr hD=>?_⟩;obtain⟨ds,gds,lds,EB⟩:=hD.ex;have lLs:=NM.ok.len;have ed:ds[h+1]?=some ds[h+1]:=eS (by lia);have eL:X.Ls[h+1]?=some X.Ls[h+1]:=eS (by lia);have Nv:=EB (h+1) _ _ ed eL;generalize ds[h+1]=dd at ed Nv;generalize X.Ls[h+1]=tt at eL Nv;have ix:uP (ds.map V.ref) ((h:Int)+1)=some (.ref dd):=by
   rw[show(h:Int)+1=((h+1:Nat):Int) by push_cast;rfl];exact iD (Pb ed)
  walk_at "w";refine⟨s6.trans s7,ts ++ [dd],by rw[e1,iK];rfl,by rw[lB,e2];rfl,?_⟩;rw[dG eX];exact RL.snoc (rt.imp λ_ _ z=>B8.same z s7) ⟨tt,eL,Nv⟩
 obtain⟨s6,ts,e1,e2,rt⟩:=Ii;subst e1;rw[bX,lo,uC] at rt;intro lt Ep;obtain⟨H7,i7,s7,g7⟩:=nw _ Ep;rw[i7];have AW:=s6.trans s7;have S7:=S5.trans AW;have hu7:=S7 _ _ MW;have ew:ws[h]?=some ws[h]:=eS (by lia);have ixw:uP (ws.map V.int) (h:Int)=some (.int ws[h]):=iD (by rw[kQ,ew];rfl);walk_at "w";refine⟨w,l,lh,lt,W,os,hs,ts,du,qs.length,h,qs,ws[h],rfl,hw.tr S7.tr,hg,(yf.trans AW) _ _ gl,AW _ _ gh,g7,ro.imp λ_ _ z=>rG.same z (yf.trans AW),rh.imp λ_ _ z=>uX.same z AW,rt.imp λ_ _ z=>B8.same z s7,l7,hh,rfl,λr' H8 s8 hb=>?_⟩;exact k r' H8 (S7.trans s8) (hb.shift λp=>aOC hLo rfl hh ew p)
structure uz(H:Hp)(s a u q:Addr)(W:WS)(P:Ps)(ws qs:ae):Prop where
 w:nO H s W
 g:W.Good
 p:zS H a P
 b:Kc W P
 u:H u=some (.lst (ws.map V.int))
 q:H q=some (.lst (qs.map V.int))
 len:ws.length=qs.length
 am:∀n∈qs,0<=n/\n<=W.bh
 rL:qs.length<=48
theorem uz.tr{H H':Hp}{s a u q:Addr}{W:WS}{P:Ps}{ws qs:ae}(h:uz H s a u q W P ws qs)(t:Tr H H'):uz H' s a u q W P ws qs:=
 ⟨h.w.tr t,h.g,h.p.tk t.tk,h.b,t _ _ h.u PZ,t _ _ h.q PZ,h.len,h.am,h.rL⟩
theorem uz.am'{H:Hp}{s a u q:Addr}{W:WS}{P:Ps}{ws qs:ae}(h:uz H s a u q W P ws qs):∀n∈qs,Am n:=λn hn=>⟨(h.am n hn).1,Bh (h.am n hn).2 h.g.bh.2⟩
theorem YK{qs:ae}{h:Nat}(hh:h < qs.length)(p:Int):qs.take h ++ [p] ++ qs.drop (h+1)=qs.set h p:=by
 rw[List.set_eq_take_append_cons_drop,cO hh,DJ];rfl
theorem Pm{qs:ae}{h:Nat}{p L:Int}(ha:∀n∈qs,0<=n/\n<=L)(p0:0<=p)(p1:p<=L):∀n∈qs.set h p,0<=n/\n<=L:=λn hn=>by
 rcases List.mem_or_eq_of_mem_set hn with z|z
 ·exact ha n z
 ·rw[z];exact⟨p0,p1⟩
inductive aDv  (K:W.Frag) (vs:List V) (H:Hp) (Q:VK) (E:XK):Prop
 |mk:∀(c s a u q:Addr) (W:WS) (P:Ps) (ws qs:ae) (h:Nat) (p:Int),(vs=[.ref c,.int (h:Int),.int p])->(H c=some (.tup [.ref s,.ref a,.ref u,.ref q]))->uz H s a u q W P ws qs->(h < qs.length)->(0<=p)->(p<=W.bh)->(∀H',aO H H'->Q (.int (Ak W P ws (qs.set h p))) H')->aDv K vs H Q E
theorem aIL(tx:Txt K mg a):bT P w K mg base eY 4 a.aEQ a.aER aqa (aDv K):=by
 have aF7:=aEa (P:=P) (w:=w) (base:=base) tx;refine tx.iq.F.ok mN (by walk_at "l") λbj A outer s H vs Q E hr h=>?_;obtain⟨c,s,ap,u,q,W,P,ws,qs,h,p,rfl ,gc,hC,hh,p0,p1,k⟩:=h;have hu:=gM hr;refine aZ (aE (jS (aA 0) (bQ (K':=K) (n:=4) rfl (aR (aJ (i:=3) mN.nd) (aR (aJ (i:=4) mN.nd) (aR (aJ (i:=5) mN.nd) (aR (aJ (i:=6) mN.nd) bP))))))
  (aF (aM (bg aF7 hr tx.jx (aB (aA 3) (aB (aA 4) (aB (aA 5) (aB (aI bC (aI bC (eO (rs:=zc K) Bd (aA 6) fD (fE (aA 1))) (iF (aA 2))) (eO (rs:=zc K) Bd (aA 6) (fE (aI bC (aA 1) aC)) fD)) aD)))))))) ?_
 refine aV (σ:=[some (.ref c),some (.int (h:Int)),some (.int p),none,none,none,none]) rfl ?_;walk_at "w";refine cV (iC.of gc) rfl ?_;have rL:=hC.rL;have hq:=hC.q;walk_at "w";refine lY (bR.of hq) λa1 na1=>?_;rw[P6,<-List.map_take];obtain⟨H1,i1,s1,g1⟩:=nw _ na1;rw[i1];walk_at "w";intro l2 AY;obtain⟨H2,i2,s2,g2⟩:=nw _ AY;rw[i2];refine iT (s2 _ _ g1) g2 (cB (by rw[bX,qa];simp;lia)) ?_;intro l3 FW;obtain⟨H3,i3,s3,g3⟩:=nw _ FW;rw[i3];have yg:=s1.trans (s2.trans s3);walk_at "w";refine lY (bR.of (yg _ _ hq)) λp4 np4=>?_;rw[show(h:Int)+1=((h+1:Nat):Int) by push_cast;rfl,Zp,<-List.map_drop];obtain⟨H4,i4,s4,g4⟩:=nw _ np4;rw[i4];refine iT (s4 _ _ g3) g4 (cB (by simp;lia)) ?_;intro l5 nl5;obtain⟨H5,i5,s5,g5⟩:=nw _ nl5;rw[i5];have yf:=yg.trans (s4.trans s5);have g5':H5 l5=some (.lst ((qs.set h p).map V.int)):=by
  rw[g5,<-YK hh,iK,iK];rfl
 have C5:=hC.tr yf.tr;walk_at "w";exact⟨s,W,ap,P,u,ws,l5,qs.set h p,rfl,C5.w,C5.g,C5.p,C5.b,C5.u,g5',by rw[wk];exact C5.len,λn hn=>let z:=Pm hC.am p0 p1 n hn;⟨z.1,Bh z.2 hC.g.bh.2⟩,by rw[wk];exact rL,λH6 s6=>k H6 (yf.trans s6)⟩
inductive wI  (K:W.Frag) (vs:List V) (H:Hp) (Q:VK) (E:XK):Prop
 |mk:∀(p c s a u q:Addr) (W:WS) (P:Ps) (ws qs:ae) (h:Nat) (r:Int),(vs=[.ref p,.ref c,.int (h:Int),.int r])->bE H p->(H c=some (.tup [.ref s,.ref a,.ref u,.ref q]))->uz H s a u q W P ws qs->(h < qs.length)->(tV W.bh (λx=>Ak W P ws (qs.set h x)) r)->(∀H',bE H' p->bL p H H'->Q (.bl true) H')->wI K vs H Q E
theorem aEh(tx:Txt K mg a):bT P w K mg base eY 5 a.zC a.zD aia (wI K):=by
 have Qq:=aIL (P:=P) (w:=w) (base:=base) tx;have aS:=cZ (P:=P) (w:=w) (base:=base) tx;have w6:=aBo (P:=P) (w:=w) (base:=base) tx;have aF8:=aDR (P:=P) (w:=w) (base:=base) tx;refine tx.ju.F.ok fV (by walk_at "l") λbj A outer s H vs Q E hr h=>?_;obtain⟨p,c,s,ap,u,q,W,P,ws,qs,h,r,rfl ,hh,gc,hC,vq,hB,k⟩:=h;have hu:=gM hr;refine aZ (aE (aK (i:=4) fV.nd (aH (K':=K) (aH (K':=K) (aA 1) aC) aC))
  (aE (bD (eN (mD (eV (eA (bg aF8 hr tx.jr (aB (aA 3) aD)))) (mD (aU Cm (aA 3) aC (bJ _)) (lR (aU rP (aA 3) (aA 4) (bJ _)))))) (aF (aM iW)) aY)
  (aE (aK (i:=5) fV.nd (bg Qq hr tx.iq (aB (aA 1) (aB (aA 2) (aB (aA 3) aD)))))
  (aE (aK (i:=6) fV.nd (uH aC (aA 4) (aP (dZ rfl) (by rfl) tx.jI gB (aB (aA 4) (aB (aI bC (aA 3) aC) aD)))))
  (aE (bI PassesOwn.never rfl (cL (by rfl) tx.eF (aB aC aD)) (aJ (i:=7) fV.nd) (aF (dE (eC (K':=K) (aA 6) (aB (aH (K':=K) (iX (bg w6 hr tx.jd (aB (aA 0) (aB (aI bC (aA 4) aC) aD))) (aP (dZ rfl) (by rfl) tx.jI gB (aB (aA 4) (aB (bg aS hr tx.af (aB (aA 0) (aB aC aD))) aD)))) (aI lW (aA 7) aC)) aD)))))
  (aE (bI PassesOwn.never rfl (bH (K':=K) (aA 6)) (aJ (i:=8) fV.nd) (aF (bD (aU rP (bg Qq hr tx.iq (aB (aA 1) (aB (aA 2) (aB (aA 8) aD)))) (aA 5) (bJ _)) (aF (aM iW)) aY)))
  (aF (aM (Qe (fB (r:=kT K) (eB hu) (aA 3) aC (bJ _)) (gQ (fB Cm (bg Qq hr tx.iq (aB (aA 1) (aB (aA 2) (aB (aI fA (aA 3) aC) aD)))) (aA 5) (bJ _)))))))))))) ?_
 obtain⟨ls,st,bb,es,je,eg,Au⟩:=hC.w.ex;obtain⟨L0,L1⟩:=hC.g.bh;have r0:=hB.lo;have r1:=hB.hi;have cp:c≠p:=λz=>by
  obtain⟨d',c',q',AZ,e',_⟩:=hh.ex;rw[z,e'] at gc;cases gc
 refine aV (σ:=[some (.ref p),some (.ref c),some (.int (h:Int)),some (.int r),none,none,none,none,none]) rfl ?_;walk_at "w";refine⟨_,_,rfl,.int _,?_⟩;repeat walk_at "gs"
 refine cA (λz=>absurd z (by lia)) (λ_=>?_);repeat walk_at "gs"
 refine cA (λz=>absurd z (by lia)) (λ_=>?_);repeat walk_at "gs"
 refine⟨c,s,ap,u,q,W,P,ws,qs,h,r,rfl,gc,hC,vq,r0,r1,λH1 s1=>?_⟩;have h1:=hh.same s1;walk_at "w";intro lo FU;obtain⟨H2,i2,s2,g2⟩:=nw _ FU;rw[i2];have S2:=s1.trans s2;have h2:=h1.same s2;have MI:lo≠p:=h1.GA FU;have Tc:H lo=none:=s1.free FU;walk_at "w";refine⟨by decide,by decide,?_⟩;refine lZ (n:=4) (λi σ' H'=>hV p H H'/\bL p H H'/\∃(xs:ae) (z7 z8:Option V),σ'=[some (.ref p),some (.ref c),some (.int (h:Int)),some (.int r),some (.int W.bh),some (.int (Ak W P ws (qs.set h r))),some (.ref lo),z7,z8]/\H' lo=some (.lst (xs.map V.int))/\xs.length=3+i/\∀x∈xs,0<=x/\x<=W.bh)
  ⟨hV.of λo e=>S2 _ _ e,S2.keep,[0,W.bh,min W.bh (r+1)],_,_,rfl,g2,rfl,λx hx=>?_⟩ (λi σ' H3 hi Ih=>?_) (λσ' H3 Ig=>?_)
 ·simp only[lC,vd,or_false] at hx;rcases hx with rfl|rfl|rfl <;> lia
 ·obtain⟨q3,k3,xs,z7,z8,e,g3,lx,hx⟩:=Ih;subst e;have h3:=hh.of k3 q3;walk_at "w";refine iV (bR.of g3) ?_;walk_at "w";refine⟨p,_,rfl,h3,by lia,λx H4 x0 x1 h4 k4 q4=>?_⟩;walk_at "w";refine⟨p,_,rfl,h4,by decide,by decide,λy H5 y0 y1 h5 k5 q5=>?_⟩;walk_at "w";intro l6 Mx;obtain⟨H6,i6,s6,g6⟩:=nw _ Mx;rw[i6];have Wc:=s6 _ _ (k5 _ _ (k4 _ _ g3 MI) MI);obtain⟨z,hz,z0,z1⟩ : ∃z:Int,uP [V.int x,.int (min W.bh y)] ((0+(i:Int)) % 2)=some (.int z)/\0<=z/\z<=W.bh:=by
   have:(0+(i:Int)) % 2=0\/(0+(i:Int)) % 2=1:=by lia
   rcases this with e|e <;> rw[e]
   ·exact⟨x,rfl,x0,by lia⟩
   ·exact⟨min W.bh y,rfl,by lia,by lia⟩
  walk_at "w";refine mC (xs:=xs.map V.int) Wc (qI (by rw[bX];lia:_ < 1000) (cB (by decide))) ?_;obtain⟨H7,i7,k7,g7⟩:=wr H6 lo _;rw[i7];walk_at "w";refine⟨q3.trans (q4.trans (q5.trans ((hV.of λo e=>s6 _ _ e).trans (hV.of λo e=>k7 _ _ e (Ne.symm MI))))),λb o e n=>k7 _ _ (s6 _ _ (k5 _ _ (k4 _ _ (k3 _ _ e n) n) n)) (bB Tc e),xs ++ [z],_,_,rfl,by rw[g7,iK];rfl,by rw[lB,lx];rfl,λx' og=>?_⟩;rcases oh.mp og with z|z
  ·exact hx _ z
  ·rw[rC.mp z];exact⟨z0,z1⟩
 ·obtain⟨q3,k3,xs,z7,z8,e,g3,lx,hx⟩:=Ig;subst e;have T3:Tr H H3:=hh.tr k3;have C3:=hC.tr T3;have V6:=k3 _ _ gc cp;walk_at "w";refine eM (bR.of g3) ?_;refine eT (xs:=xs.map V.int) (λi σ' H'=>aO H3 H'/\∃(z8:Option V),σ'=[some (.ref p),some (.ref c),some (.int (h:Int)),some (.int r),some (.int W.bh),some (.int (Ak W P ws (qs.set h r))),some (.ref lo),z7,z8]) ⟨aO.refl _,_,rfl⟩ (λi σ' H' hi ⟨s',_⟩=>bR.of (s' _ _ g3)) (λi v σ' H4 hv Ie=>?_) (λσ' H4 Ic=>?_)
  ·obtain⟨s4,z8,e⟩:=Ie;subst e;obtain⟨x,ex,rfl⟩:=iJ hv;obtain⟨x0,x1⟩:=hx x (kP ex);walk_at "w";refine⟨c,s,ap,u,q,W,P,ws,qs,h,x,rfl,s4 _ _ V6,C3.tr s4.tr,vq,x0,x1,λH5 s5=>?_⟩;have le:=hB.best x0 x1;walk_at "w";refine cA (λz=>absurd z (Int.not_lt.mpr le)) (λ_=>?_);walk_at "w";exact⟨s4.trans s5,_,rfl⟩
  ·obtain⟨s4,z8,e⟩:=Ic;subst e;walk_at "w";have h4:=(hh.of k3 q3).same s4;refine cA (λz=>?_) (λz=>?_)
   ·exact k H4 h4 (k3.trans s4.keep)
   ·walk_at "w";refine⟨c,s,ap,u,q,W,P,ws,qs,h,r - 1,rfl,s4 _ _ V6,C3.tr s4.tr,vq,by lia,by lia,λH5 s5=>?_⟩;have lt:=hB.first z;walk_at "w";rw[mi lt];exact k H5 (h4.same s5) (k3.trans (s4.trans s5).keep)
theorem Yl{K:W.Frag}{H:Hp}{n:Nat}{p q:Addr}{xs ys:List V}(h:(bR K H p xs/\bR K H q ys)\/(iC K H p xs/\iC K H q ys))(hl:xs.length=ys.length)(he:∀(j:Nat) u v,xs[j]?=some u->ys[j]?=some v->ui K H n u v true):ui K H (n+1) (.ref p) (.ref q) true:=
 .inr ⟨p,q,xs,ys,λ_=>true,rfl,rfl,h,he,by rw[hl];simp⟩
theorem Yk{K:W.Frag}{H:Hp}{n:Nat}{p q:Addr}{ns:ae}(h1:H p=some (.lst (ns.map V.int)))(h2:H q=some (.lst (ns.map V.int))):ui K H (n+2) (.ref p) (.ref q) true:=
 Yl (.inl ⟨bR.of h1,bR.of h2⟩) rfl λj u v hu hv=>by
  rw[hu] at hv;cases hv;obtain⟨x,_,rfl⟩:=iJ hu;exact .inl ⟨rfl,rfl,by show true=decide (x=x);rw[mi rfl]⟩
theorem Y4{K:W.Frag}{H:Hp}{p q a b a' b':Addr}{xs ys:ae}(h:H p=some (.lst [.ref a,.ref b]))(h':H q=some (.lst [.ref a',.ref b']))(ga:H a=some (.lst (xs.map V.int)))(Wa:H a'=some (.lst (xs.map V.int)))(gb:H b=some (.lst (ys.map V.int)))(V8:H b'=some (.lst (ys.map V.int))):ui K H 8 (.ref p) (.ref q) true:=
 Yl (n:=7) (.inl ⟨bR.of h,bR.of h'⟩) rfl λj u v hu hv=>by
  match j,hu,hv with
  |0,hu,hv=>cases hu;cases hv;exact Yk ga Wa
  |1,hu,hv=>cases hu;cases hv;exact Yk gb V8
  |_+2,hu,_=>simp at hu
inductive wJ  (K:W.Frag) (CW CM CS CL t:Addr) (vs:List V) (H:Hp) (Q:VK) (E:XK):Prop
 |mk:∀(p w s c a u q:Addr) (W:WS) (P:Ps) (ws qs:ae) (h:Nat),(vs=[.ref p,.ref w,.ref s,.ref c])->(H t=some (.pq cP cQ))->bE H p->kB CW CM CS H w W->(H c=some (.tup [.ref a,.ref u,.ref q,.int (h:Int)]))->uz H s a u q W P ws qs->(h < qs.length)->(∀r H',0<=r->r<=W.bh->bE H' p->bL p H H'->Q (.int r) H')->wJ K CW CM CS CL t vs H Q E
theorem aEi(tx:Txt K mg a):bT P w K mg base eY 12 a.zE a.zF aaa (wJ K a.dU a.bA a.cN a.cS a.dN):=by
 have aF9:=aEh (P:=P) (w:=w) (base:=base) tx;have aDw:=aBO (P:=P) (w:=w) (base:=base) tx;refine tx.fh.F.ok dX (by walk_at "l") λbj A outer s H vs Q E hr h=>?_;obtain⟨p,w,s,c,ap,u,q,W,P,ws,qs,h,rfl ,gt,hh,hw,gc,hC,vq,k⟩:=h;have hu:=gM hr;refine aZ (aE (jS (aA 3) (bQ (K':=K) (n:=4) rfl (aR (aJ (i:=4) dX.nd) (aR (aJ (i:=5) dX.nd) (aR (aJ (i:=6) dX.nd) (aR (aJ (i:=7) dX.nd) bP))))))
  (aE (aK (i:=8) dX.nd (iX (cG (rc:=m7 K) jQ (by rfl) tx.jX iS (aB (aA 5) aD)) (cG (rc:=m7 K) jQ (by rfl) tx.jX iS (aB (aA 6) aD))))
  (aE (aK (i:=9) dX.nd (bg aDw hr tx.gi (aB (aA 1) (aB (aA 4) (aB (aH (K':=K) (aA 8) aC) (aB (aH (K':=K) (aA 8) aC) (aB (aA 7) aD)))))))
  (aE (aK (i:=10) dX.nd (pG (aA 2) (aA 4) (aA 5) (aA 6)))
  (aE (bD (eN (mD (aU (r:=EV K) (KJ hu) (aA 8) (iX (aA 5) (aA 6)) (bJ _)) (lR (eV (eA (bg aF9 hr tx.ju (aB (aA 0) (aB (aA 10) (aB (aA 7) (aB (aA 9) aD)))))))))) (aF (aM c8)) aY)
  (aF (aM (aA 9)))))))) ?_
 refine aV (σ:=[some (.ref p),some (.ref w),some (.ref s),some (.ref c),none,none,none,none,none,none,none]) rfl ?_;walk_at "w";refine cV (iC.of gc) rfl ?_;have rL:=hC.rL;have gu:=hC.u;have gq:=hC.q;walk_at "w";refine oJ (bR.of gu) ?_;intro l1 Mz;obtain⟨H1,i1,s1,g1⟩:=nw _ Mz;rw[i1];walk_at "w";refine oJ (bR.of (s1 _ _ gq)) ?_;intro l2 AY;obtain⟨H2,i2,s2,g2⟩:=nw _ AY;rw[i2];walk_at "w";intro l3 FW;obtain⟨H3,i3,s3,g3⟩:=nw _ FW;rw[i3];have xh:=s1.trans (s2.trans s3);have Wd:=(s2.trans s3) _ _ g1;have Gr:=s3 _ _ g2;have C3:=hC.tr xh.tr;walk_at "w";refine⟨w,W,ap,P,l1,ws,l2,qs,h,rfl,xh _ _ gt,hw.tr xh.tr,C3.g,C3.p,C3.b,Wd,Gr,C3.len,C3.am',rL,vq,λr H4 s4 hB=>?_⟩;have IW:=xh.trans s4;walk_at "w";intro T nT;obtain⟨H5,i5,s5,g5⟩:=nw _ nT;rw[i5];have Ag:=s4.trans s5;have UP:=xh.trans Ag;have JO:=Ag _ _ g3;have gu5:=UP _ _ gu;have gq5:=UP _ _ gq;walk_at "w";intro l6 Mx;obtain⟨H6,i6,s6,g6⟩:=nw _ Mx;rw[i6]
 have ye:=Ag.trans s6;have FL:=xh.trans ye;walk_at "w";refine⟨true,Y4 (ye _ _ g3) g6 (ye _ _ Wd) (FL _ _ gu) (ye _ _ Gr) (FL _ _ gq),?_⟩;repeat walk_at "gs"
 refine⟨p,T,s,ap,u,q,W,P,ws,qs,h,r,rfl,hh.same FL,s6 _ _ g5,hC.tr FL.tr,vq,hB,λH7 h7 k7=>?_⟩;repeat walk_at "gs"
 exact k r H7 hB.lo hB.hi h7 (FL.keep.trans k7)
def Fb(H:Hp)(s:Addr)(W:WS)(c:Addr):Prop:=∃(a u q:Addr) (P:Ps) (ws qs:ae) (h:Nat),H c=some (.tup [.ref a,.ref u,.ref q,.int (h:Int)])/\uz H s a u q W P ws qs/\h < qs.length
theorem Fb.tr{H H':Hp}{s c:Addr}{W:WS}(h:Fb H s W c)(t:Tr H H'):Fb H' s W c:=by
 obtain⟨a,u,q,P,ws,qs,h,e,hC,hh⟩:=h;exact⟨a,u,q,P,ws,qs,h,t _ _ e Yd,hC.tr t,hh⟩
theorem aQR{H H':Hp}{l:Addr}(t:Tr H H'):Tr (del l H) (del l H'):=λb o e n=>by
 unfold del at e ⊢;split at e
 ·cases e
 ·rename_i z;rw[bZ z];exact t b o e n
theorem aMS{H H':Hp}{l:Addr}(t:aO H H'):aO (del l H) (del l H'):=λb o e=>by
 unfold del at e ⊢;split at e
 ·cases e
 ·rename_i z;rw[bZ z];exact t b o e
theorem bE.Oj{H:Hp}{p l a:Addr}{xs:List V}{o:HO}(h:bE H p)(g:H l=some (.lst (.ref a::xs))):l≠p/\bE (upd H l o) p:=by
 obtain⟨d,c,q,ms,e1,e2,ne,qp⟩:=h.ex;have n1:p≠l:=λz=>by rw[z,g] at e1;cases e1
 have n2:q≠l:=λz=>by
  rw[z,g] at e2;cases ms with
  |nil=>cases e2
  |cons x r=>cases e2
 exact⟨Ne.symm n1,d,c,q,ms,by rw[aT n1];exact e1,by rw[aT n2];exact e2,ne,qp⟩
structure rA(CW CM CS:Addr)(H:Hp)(lr p w s:Addr)(W:WS)(a u q:Addr)(P:Ps)(ws qs:ae)(n:Nat):Prop where
 l:∃c cs,H lr=some (.lst (.ref c::cs.map V.ref))/\(c::cs).length=n/\∀x∈c::cs,Fb (del lr H) s W x
 c:uz (del lr H) s a u q W P ws qs
 w:kB CW CM CS (del lr H) w W
 h:bE H p
section
variable{CW CM CS:Addr}{H H':Hp}{lr p w s:Addr}{W:WS}{a u q:Addr}{P:Ps}{ws qs:ae}{n:Nat}
theorem rA.same(R:rA CW CM CS H lr p w s W a u q P ws qs n)(t:aO H H'):rA CW CM CS H' lr p w s W a u q P ws qs n:=by
 obtain⟨c,cs,e1,e2,e3⟩:=R.l;have d:=(aMS (l:=lr) t).tr;exact⟨⟨c,cs,t _ _ e1,e2,λx hx=>(e3 x hx).tr d⟩,R.c.tr d,R.w.tr d,R.h.same t⟩
theorem rA.draw(R:rA CW CM CS H lr p w s W a u q P ws qs n)(h':bE H' p)(k:bL p H H'):rA CW CM CS H' lr p w s W a u q P ws qs n:=by
 obtain⟨c,cs,e1,e2,e3⟩:=R.l;have d:=aQR (l:=lr) (R.h.tr k);exact⟨⟨c,cs,k _ _ e1 (R.h.Oj (o:=.lst []) e1).1,e2,λx hx=>(e3 x hx).tr d⟩,R.c.tr d,R.w.tr d,h'⟩
theorem rA.push(R:rA CW CM CS H lr p w s W a u q P ws qs n){x:Addr}(hx:Fb (del lr H) s W x){xs:List V}(e:H lr=some (.lst xs)):rA CW CM CS (upd H lr (.lst (xs ++ [.ref x]))) lr p w s W a u q P ws qs (n+1):=by
 obtain⟨c,cs,e1,e2,e3⟩:=R.l;rw[e1] at e;cases e;refine⟨⟨c,cs ++ [x],?_,by simpa using e2,λy hy=>?_⟩,?_,?_,(R.h.Oj e1).2⟩
 ·rw[aN,iK];rfl
 ·rw[zR];rcases lC.mp hy with z|z
  ·exact e3 y (by rw[z];exact .head _)
  ·rcases oh.mp z with z|z
   ·exact e3 y (ki _ z)
   ·rw[rC.mp z];exact hx
 ·rw[zR];exact R.c
 ·rw[zR];exact R.w
end
theorem aQT{H:Hp}{l:Addr}{xs:List V}(g:H l=some (.lst xs)):Tk H (del l H):=λb ys e=>dR e λz=>by rw[z,g] at e;cases e
theorem uz.row{H:Hp}{s a u q u' q':Addr}{W:WS}{P:Ps}{ws qs Me tq:ae}(h:uz H s a u q W P ws qs)(gu:H u'=some (.lst (Me.map V.int)))(gq:H q'=some (.lst (tq.map V.int)))(lw:Me.length=qs.length)(lq:tq.length=qs.length)(ha:∀n∈tq,0<=n/\n<=W.bh):uz H s a u' q' W P Me tq:=
 ⟨h.w,h.g,h.p,h.b,gu,gq,by lia,ha,by rw[lq];exact h.rL⟩
inductive GR  (K:W.Frag) (t:Addr) (vs:List V) (H:Hp) (Q:VK) (E:XK):Prop
 |mk:∀(a:Addr) (ns:ae),(vs=[.ref a])->(bR K H a (ns.map V.int))->(ns.length<=63)->(H t=some (.pq cP cQ))->(∀H',aO H H'->Q (.bl true) H')->GR K t vs H Q E
theorem aQU(tx:Txt K mg a):bT P w K mg base eY 13 a.XY a.XX a7a (GR K a.dN):=by
 have aS:=cZ (P:=P) (w:=w) (base:=base) tx;have aAj:=aEi (P:=P) (w:=w) (base:=base) tx;have aHz:=aFC (P:=P) (w:=w) (base:=base) tx;have rB:=aAG (P:=P) (w:=w) (base:=base) tx;have aEj:=aDn (P:=P) (w:=w) (base:=base) tx;have aBz:=aFX (P:=P) (w:=w) (base:=base) tx;have aGa:=aD2 (P:=P) (w:=w) (base:=base) tx;have aAk:=xC (P:=P) (w:=w) (base:=base) tx;refine tx.Im.F.ok fL (by walk_at "l") λbj A outer s H vs Q E hr h=>?_;obtain⟨ad,ns,rfl ,hS,hl,gt,k⟩:=h;have hu:=gM hr;refine aZ (aE (bI PassesOwn.never rfl (cL (by rfl) tx.eF (aB (aP (jP rfl) (by rfl) tx.zJ wO (aB aC (aB (aP (dZ rfl) (by rfl) tx.jI gB (aB (aP (rc:=uR K) dY (by rfl) tx.mR jO (aB (aA 0) aD)) (aB aC aD))) aD))) aD)) (aJ (i:=1) fL.nd) (aE (oM (i:=2) fL.nd rfl (Or.inr rfl) (bg aHz hr tx.lz (aB (aA 0) (aB (aA 1) aD))))
  (aE (oM (i:=3) fL.nd rfl (Or.inr rfl) (bg aAk hr tx.dh (aB (aA 2) (aB aC aD))))
  (aE (aK (i:=4) fL.nd (aH (K':=K) (iX (aI bC aC (bg aS hr tx.af (aB (aA 2) (aB aC aD)))) aC) (aI bV (aI La (bg aS hr tx.af (aB (aA 2) (aB aC aD))) aC) (cG Z1 (by rfl) tx.E7 KL (aB (fB Ck (aH (K':=K) (aA 3) aC) aC (bJ _)) aD)))))
  (aE (bD (aU (r:=kT K) (eB hu) (aH (K':=K) (aA 3) aC) aC (bJ _)) (aF (aK (i:=4) fL.nd (aP (dZ rfl) (by rfl) tx.jI gB (aB (aA 4) (aB aC aD))))) aY)
  (aE (bD (eN (iN (aU (r:=kT K) (eB hu) (aA 4) aC (bJ _)) (gE (aU Cm (aP (rc:=uR K) dY (by rfl) tx.mR jO (aB (aH (K':=K) (aA 3) aC) aD)) aC (bJ _))))) (aF (aK (i:=4) fL.nd aC)) aY)
  (aE (fF (k:=1) (idx:=[2,3]) (N:=aua) (i:=5) fL.nd rfl (Or.inl rfl) (dJ (sc:=aL GN) (NX:=aa) rfl rfl rfl (by decide +kernel)) rfl (cL (by rfl) tx.eF (aB (aA 4) aD)) (λ_ _ _ _=>(aJ (i:=0) (show(aua:ak).Nodup by decide +kernel))) (dI (by decide)) (λ_ _ _ _=>bU) (λ_ _ _ _=>(bg aBz hr tx.fu (aB (aA 1) (aB (aH (K':=K) (aA 2) aC) aD)))))
  (aE (aK (i:=6) fL.nd (bg rB hr tx.cu (aB (aA 2) (aB (aA 3) aD))))
  (aE (aK (i:=7) fL.nd (bg aEj hr tx.iz (aB (aA 2) (aB (aH (K':=K) (aA 3) aC) (aB (aH (K':=K) (aA 3) aC) (aB (aA 4) aD))))))
  (aE (aK (i:=8) fL.nd (bg aGa hr tx.jq (aB (aA 3) aD)))
  (aE (aK (i:=9) fL.nd (bg aS hr tx.af (aB (aA 2) (aB (aA 4) aD))))
  (aE (aK (i:=10) fL.nd (bg aAj hr tx.fh (aB (aA 2) (aB (aA 8) (aB (aA 3) (aB (pG (aA 6) (aA 5) (aA 7) (aA 9)) aD))))))
  (aE (bD (aU wQ (aA 10) c8 (bJ _)) (aF (aM iW)) aY)
  (aE (aK (i:=11) fL.nd (aI bC (aI bC (eO (rs:=zc K) Bd (aA 7) fD (fE (aA 9))) (iF (aP (dZ rfl) (by rfl) tx.jI gB (aB (aH (K':=K) (aA 3) aC) (aB (aI bC (aA 10) aC) aD))))) (eO (rs:=zc K) Bd (aA 7) (fE (aI bC (aA 9) aC)) fD)))
  (aE (aK (i:=12) fL.nd (iF (pG (aA 6) (aA 5) (aA 11) (aA 9))))
  (aE (bD (aU Cm (aA 4) aC (bJ _)) (aE (aK (i:=13) fL.nd (bg aS hr tx.af (aB (aA 2) (aB (aA 4) aD))))
  (aE (aK (i:=14) fL.nd (cG (rc:=m7 K) jQ (by rfl) tx.jX iS (aB (aA 7) aD)))
  (aE (jS (aI fA (aH (K':=K) (aA 3) aC) (aH (K':=K) (aA 7) (aA 13))) (oK (aA 14) (aA 13) set_list))
  (aE (dE (eC (K':=K) (aA 12) (aB (pG (aA 6) (aA 5) (aA 14) (aA 9)) aD)))
  (aE (dE (eC (K':=K) (aA 12) (aB (pG (aA 6) (aA 5) (aA 14) (aA 13)) aD)))
  (aE (dE (eC (K':=K) (aA 12) (aB (pG (bg rB hr tx.cu (aB (aA 2) (aB (aA 3) aD))) (aA 5) (aA 7) (aA 9)) aD)))
  (aE (fF (k:=1) (idx:=[2,3]) (N:=aua) (i:=15) fL.nd rfl (Or.inl rfl) (dJ (sc:=aL GN) (NX:=aa) rfl rfl rfl (by decide +kernel)) rfl (cL (by rfl) tx.eF (aB (aA 4) aD)) (λ_ _ _ _=>(aJ (i:=0) (show(aua:ak).Nodup by decide +kernel))) (dI (by decide)) (λ_ _ _ _=>bU) (λ_ _ _ _=>(bg aBz hr tx.fu (aB (aA 1) (aB (aH (K':=K) (aA 2) aC) aD)))))
  (aF (dE (eC (K':=K) (aA 12) (aB (pG (aA 6) (aA 15) (aA 7) (aA 9)) aD))))))))))) aY)
  (aF (bI PassesOwn.never rfl (bH (K':=K) (aA 12)) (aJ (i:=16) fL.nd) (aF (bD (aU wQ (bg aAj hr tx.fh (aB (aA 2) (aB (aA 8) (aB (aA 3) (aB (aA 16) aD))))) c8 (bJ _)) (aF (aM iW)) aY))))))))))))))))))))
  (aF (aM iW))) ?_
 refine aV (σ:=[some (.ref ad),none,none,none,none,none,none,none,none,none,none,none,none,none,none,none,none]) rfl ?_;walk_at "w";refine⟨by lia,by lia,?_⟩;refine lZ (λi σ' H'=>aO H H'/\∃(z1 z2 z3 z4 z5 z6 z7 z8 z9 qz FH FF AR AQ AO Ae:Option V),σ'=[some (.ref ad),z1,z2,z3,z4,z5,z6,z7,z8,z9,qz,FH,FF,AR,AQ,AO,Ae]) ⟨aO.refl _,_,_,_,_,_,_,_,_,_,_,_,_,_,_,_,_,rfl⟩ (λi σ' H' hi Ib=>?_) (λσ' H' Ia=>?_)
 ·obtain⟨s0,z1,z2,z3,z4,z5,z6,z7,z8,z9,qz,FH,FF,AR,AQ,AO,Ae,e⟩:=Ib;subst e;walk_at "w";refine⟨ad,ns,_,rfl,aO.seq s0 hS,hl,by lia,λp H1 s1 np hh=>?_⟩;have Jg:H p=none:=s0.free np;have S1:=s0.trans s1;walk_at "w";refine⟨p,2,rfl,hh,by decide,by decide,λs W H2 hW hg h2 k2 ns=>?_⟩;obtain⟨ls,st,bb,es,je,eg,Au⟩:=hW.ex;have Iv:=hg.bh;walk_at "w";refine⟨p,_,rfl,h2,by decide,by decide,λr3 H3 a3 b3 h3 k3 _=>?_⟩;walk_at "w";intro l4 U1;obtain⟨H4,i4,s4,g4⟩:=nw _ U1;rw[i4];have l4p:l4≠p:=h3.GA U1;have h4:=h3.same s4;walk_at "w";refine⟨p,_,rfl,h4,by decide,by decide,λr5 H5 a5 b5 h5 k5 _=>?_⟩;have g5:=k5 _ _ g4 l4p;have T5:Tr H2 H5:=(h2.tr k3).trans (s4.tr.trans (h4.tr k5));have K5:bL p H1 H5:=k2.trans (k3.trans (s4.keep.trans k5));have EE:=hW.tr T5;have Xg:=T5 _ _ es (oG (by simp));obtain⟨nh,hnh,FX,Hw⟩ : ∃m:Nat,uP [V.int (1+r3),.int 12] (r5 / 7*if decide (W.bh<=1000)=true then 1 else 0)=some (.int (m:Int))/\1<=m/\m<=12:=by
   obtain⟨m,rfl⟩:=Ha a3;have q1:r5 / 7=0\/r5 / 7=1:=by lia
   have q2:(r5 / 7*if decide (W.bh<=1000)=true then 1 else 0)=0\/(r5 / 7*if decide (W.bh<=1000)=true then 1 else 0)=1:=by
    rcases q1 with e|e <;> rw[e] <;> split <;> simp
   rcases q2 with e|e <;> rw[e]
   ·exact⟨1+m,by show some (V.int (1+(m:Int)))=_;push_cast;rfl,by lia,by lia⟩
   ·exact⟨12,rfl,by lia,by lia⟩
  repeat walk_at "st"
  refine fW (λσ' H'=>aO H5 H'/\∃nh:Nat,1<=nh/\nh<=12/\σ'=[some (.ref ad),some (.int (0+(i:Int))),some (.ref p),some (.ref s),some (.int (nh:Int)),z5,z6,z7,z8,z9,qz,FH,FF,AR,AQ,AO,Ae]) (λN hN=>?_) (λσ' H6 ⟨s6,nh,FX,Hw,e⟩=>?_)
  ·walk_at "w";refine cA (λAq=>?_) (λAq=>?_)
   ·walk_at "w";refine hN _ _ ⟨aO.refl _,(min (nh:Int) 2).toNat,by lia,by lia,?_⟩;rw[Int.toNat_of_nonneg (by lia)]
   ·walk_at "w";exact hN _ _ ⟨aO.refl _,nh,FX,Hw,rfl⟩
  subst e;obtain⟨ms,V1,El⟩:=(je.tr (T5.trans s6.tr)).ex;have es6:=s6 _ _ Xg;refine fW (λσ' H'=>aO H6 H'/\∃nh:Nat,1<=nh/\nh<=48/\σ'=[some (.ref ad),some (.int (0+(i:Int))),some (.ref p),some (.ref s),some (.int (nh:Int)),z5,z6,z7,z8,z9,qz,FH,FF,AR,AQ,AO,Ae]) (λN hN=>?_) (λσ' H7 ⟨s7,nh,FX,Td,e⟩=>?_)
  ·walk_at "w";refine cA (λAq=>?_) (λAq=>?_)
   ·walk_at "w";refine cA (λhw2=>?_) (λhw2=>?_)
    ·walk_at "w";exact hN _ _ ⟨aO.refl _,48,by lia,by lia,rfl⟩
    ·walk_at "w";exact hN _ _ ⟨aO.refl _,nh,FX,by lia,rfl⟩
   ·walk_at "w";exact hN _ _ ⟨aO.refl _,nh,FX,by lia,rfl⟩
  subst e;have T7:Tr H2 H7:=T5.trans (s6.tr.trans s7.tr);have K7:bL p H1 H7:=K5.trans (s6.keep.trans s7.keep);have h7:=(h5.same s6).same s7;have Xf:=T7 _ _ es (oG (by simp));have HH:=T7 _ _ Au (oG (by simp));have sp:s≠p:=h7.AJ Xf (by simp);have bbp:bb≠p:=h7.AJ HH (by simp);walk_at "w";refine⟨by lia,by lia,?_⟩;rw[xy];refine jN (λi us H'=>bE H' p/\bL p H7 H'/\∃ws:ae,us=ws.map V.int/\ws.length=i) ⟨h7,λ_ _ e _=>e,[],rfl,rfl⟩ (cB (by lia)) (λi us H' hi ⟨_,_,ps,e1,e2⟩=>by rw[e1,bX];lia) (λi us H' hi HZ=>?_) (λus H8 HY=>?_)
  ·obtain⟨h8,k8,ws,e1,e2⟩:=HZ;have Xe:=k8 _ _ Xf sp;walk_at "w";refine⟨p,bb,W.x,W.y,rfl,h8,k8 _ _ HH bbp,λw H9 h9 k9 _=>?_⟩;exact⟨h9,k8.trans k9,ws ++ [w],by rw[e1,iK];rfl,by rw[lB,e2];rfl⟩
  obtain⟨h8,k8,ws,e1,e2⟩:=HY;subst e1;intro u nu;obtain⟨H9,i9,s9,g9⟩:=nw _ nu;rw[i9];have h9:=h8.same s9;have T9:Tr H2 H9:=T7.trans ((h7.tr k8).trans s9.tr);have K9:bL p H1 H9:=K7.trans (k8.trans s9.keep);have VR:=hW.tr T9;walk_at "w";refine⟨p,s,W,rfl,h9,VR,hg,λa1 P yc hP hPo hPs xp mn=>?_⟩;have Hd:Tr H9 yc:=h9.tr mn;have a0r:=(T9.trans Hd) _ _ es (oG (by simp));have IC:=(T9.trans Hd) _ _ Au (oG (by simp));walk_at "w";refine⟨p,bb,W.x,W.y,W.bh,nh,rfl,xp,IC,hg.y.1,hg.y.2,hg.bh,Td,λq qs L7 gq lq B0 EK qg=>?_⟩;have Hc:Tr H9 L7:=Hd.trans (xp.tr qg);have Hk:bL p H1 L7:=K9.trans (mn.trans qg);have C11:uz L7 s a1 u q W P ws qs:=⟨VR.tr Hc,hg,hP.tk (xp.tr qg).tk,⟨hPo,hPs⟩,Hc _ _ g9 PZ,gq,by lia,B0,by lia⟩
  walk_at "w";refine⟨s,W,rfl,C11.w,hg,λw H12 hw Mr a0f=>?_⟩;have AA:=EK.same Mr;have C12:=C11.tr Mr.tr;walk_at "w";refine⟨p,_,rfl,AA,by lia,by lia,λr L6 Lk Xn Az xl _=>?_⟩;obtain⟨hr,rfl⟩:=Ha Lk;have C13:=C12.tr (AA.tr xl);have HB:=hw.tr (AA.tr xl);have LY:bL p H1 L6:=Hk.trans (Mr.keep.trans xl);have vq:hr < qs.length:=by lia
  walk_at "w";intro T nT;obtain⟨H14,i14,BV,g14⟩:=nw _ nT;rw[i14];have K14:=LY.trans BV.keep;have S14:aO H H14:=qE Jg S1 K14;have C14:=C13.tr BV.tr;have EJ:=Az.same BV;walk_at "w";refine⟨p,w,s,T,a1,u,q,W,P,ws,qs,hr,rfl,S14 _ _ gt,EJ,HB.tr BV.tr,g14,C14,vq,λf H15 f0 f1 VY Vg=>?_⟩;have T15:=EJ.tr Vg;have Q4:=C14.tr T15;have Tn:=(HB.tr BV.tr).tr T15;have K15:=K14.trans Vg;obtain⟨ls5,BS,bb5,T8,_⟩:=Q4.w.ex;have HN:=Q4.q;have Iv:=hg.bh;repeat walk_at "gs"
  refine lY (bR.of HN) λp6 np6=>?_;rw[P6,<-List.map_take];obtain⟨H16,i16,UO,g16⟩:=nw _ np6;rw[i16];have a0q:=UO _ _ T8;walk_at "w";intro l7 nl7;obtain⟨H17,i17,UN,g17⟩:=nw _ nl7;rw[i17];refine iT (UN _ _ g16) g17 (cB (by rw[bX,qa];simp;lia)) ?_;intro l8 nl8;obtain⟨H18,i18,s18,g18⟩:=nw _ nl8;rw[i18];have UH:=UO.trans (UN.trans s18);walk_at "w";refine lY (bR.of (UH _ _ HN)) λp9 np9=>?_;rw[show(hr:Int)+1=((hr+1:Nat):Int) by push_cast;rfl,Zp,<-List.map_drop];obtain⟨H19,MT,UM,g19⟩:=nw _ np9;rw[MT];refine iT (UM _ _ g18) g19 (cB (by simp;lia)) ?_;intro dl ndl;obtain⟨H20,i20,s20,g20⟩:=nw _ ndl;rw[i20];have UJ:=UH.trans (UM.trans s20);have gdl:H20 dl=some (.lst ((qs.set hr (min W.bh (f+1))).map V.int)):=by
   rw[g20,<-YK vq,iK,iK];rfl
  walk_at "w";intro T2 Jl;obtain⟨H21,i21,Mq,g21⟩:=nw _ Jl;rw[i21];walk_at "w";intro lr Ji;obtain⟨QZ,i22,UL,g22⟩:=nw _ Ji;rw[i22];have UI:=UJ.trans (Mq.trans UL);have IT:=UJ.trans Mq;have CC:=Q4.tr IT.tr;have Bv:H1 lr=none:=by
   cases e:H1 lr with
   |none=>rfl
   |some o=>
    have z:=(K15.trans IT.keep) _ _ e ((VY.same IT).GA Ji);rw[Ji] at z;cases z
  have Gx:aO H21 (del lr QZ):=P8 Ji UL;have QQ:rA a.dU a.bA a.cN QZ lr p w s W a1 u q P ws qs 1:=⟨⟨T2,[],g22,rfl,λx hx=>by
   rw[rC.mp hx];exact Fb.tr ⟨a1,u,dl,P,ws,_,hr,g21,⟨CC.w,hg,CC.p,CC.b,CC.u,Mq _ _ gdl,by rw[wk];exact CC.len,Pm CC.am (by lia) (by lia),by rw[wk];exact CC.rL⟩,by rw[wk];exact vq⟩ Gx.tr⟩,CC.tr Gx.tr,(Tn.tr IT.tr).tr Gx.tr,VY.same UI⟩
  have K22:bL p H1 QZ:=K15.trans UI.keep;repeat walk_at "st"
  refine fW (λσ' H'=>∃(n:Nat) (AR AQ AO:Option V),n<=5/\rA a.dU a.bA a.cN H' lr p w s W a1 u q P ws qs n/\bL p H1 H'/\σ'=[some (.ref ad),some (.int (0+(i:Int))),some (.ref p),some (.ref s),some (.int (nh:Int)),some (.ref u),some (.ref a1),some (.ref q),some (.ref w),some (.int (hr:Int)),some (.int f),some (.ref dl),some (.ref lr),AR,AQ,AO,Ae]) (λN hN=>?_) (λσ' FE ⟨n,AR,AQ,AO,n5,Cy,QR,e⟩=>?_)
  ·walk_at "w";refine cA (λMY=>?_) (λMY=>?_)
   ·walk_at "w";refine⟨p,_,rfl,QQ.h,by lia,by lia,λr3 FE a23 b23 NP Vf _=>?_⟩;obtain⟨ho,rfl⟩:=Ha a23;have Cy:=QQ.draw NP Vf;have Q3:=Cy.c.tr jJ.tr;have HM:=Q3.q;have JC:ho < qs.length:=by lia
    walk_at "w";refine oJ (bR.of HM) ?_;intro lt Ep;obtain⟨L5,i24,Ej,Gq⟩:=nw _ Ep;rw[i24];have DN:=Cy.same Ej;obtain⟨ls6,st6,bb6,a0p,_⟩:=(DN.c.tr jJ.tr).w.ex;have a0n:=Ej _ _ HM;have eo:qs[ho]?=some qs[ho]:=eS JC;have ixo:uP (qs.map V.int) (ho:Int)=some (.int qs[ho]):=iD (by rw[kQ,eo];rfl);have qo:=Q3.am _ (Cs JC);walk_at "w";refine uE (j:=ho) Gq (by rw[bX];exact aOj JC) ?_;obtain⟨L3,i25,F2,g25⟩:=wr L5 lt _;rw[i25];have Ag:aO FE L3:=λb o e=>F2 _ _ (Ej _ _ e) (bB Ep e);have LS:=Cy.same Ag;have HL:L3 lt=some (.lst ((qs.set ho (W.bh - qs[ho])).map V.int)):=by rw[g25,List.map_set]
    obtain⟨c5,cs5,e5,_⟩:=LS.l;have K25:bL p H1 L3:=K22.trans (Vf.trans Ag.keep);walk_at "w";refine iV (bR.of e5) ?_;walk_at "w";intro T3 nT3;obtain⟨H26,i26,IV,N0⟩:=nw _ nT3;rw[i26];have Hg:=LS.same IV;walk_at "w";have K26:=K25.trans IV.keep;have sm:∀{k:Nat} {c:Addr} {cs:au},(c::cs).length=k->k<=100->(V.ref c::cs.map V.ref).length < sizeLine:=λ{k c cs} e l=>qI (by rw[oi,bX];rw[oi] at e;lia:_ < 1000) (cB (by decide))
    have ME:lt≠lr:=λz=>by
     obtain⟨c',cs',e',_⟩:=Cy.l;rw[z,e'] at Ep;cases Ep
    have Jn:(qs.set ho (W.bh - qs[ho])).length=qs.length:=wk ..;have Xt:∀n∈qs.set ho (W.bh - qs[ho]),0<=n/\n<=W.bh:=Pm Q3.am (by lia) (by lia);obtain⟨c6,cs6,e6,l6,_⟩:=Hg.l;refine mC e6 (sm l6 (by lia)) ?_;have QP:=Hg.push (x:=T3) ⟨a1,u,lt,P,ws,_,hr,dR N0 (λz=>by rw[z,e6] at N0;cases N0),Hg.c.row Hg.c.u (dR (IV _ _ HL) ME) Hg.c.len Jn Xt,by rw[Jn];exact vq⟩ e6;obtain⟨H27,i27,Ve,g27⟩:=wr H26 lr (.lst (V.ref c6::cs6.map V.ref ++ [.ref T3]));rw[i27] at QP ⊢;have K27:bL p H1 H27:=λb o e n=>Ve _ _ (K26 _ _ e n) (bB Bv e);have TZ:=Ve _ _ (IV _ _ HL) ME;obtain⟨c7,cs7,e7,l7',_⟩:=QP.l;walk_at "w";refine iV (bR.of e7) ?_;walk_at "w";intro T4 nT4;obtain⟨H28,i28,IU,NZ⟩:=nw _ nT4;rw[i28];have LR:=QP.same IU;have N8:=IU _ _ e7;walk_at "w";refine mC N8 (sm l7' (by lia)) ?_;have Hf:=LR.push (x:=T4) ⟨a1,u,lt,P,ws,_,ho,dR NZ (λz=>by rw[z,N8] at NZ;cases NZ),LR.c.row LR.c.u (dR (IU _ _ TZ) ME) LR.c.len Jn Xt,by rw[Jn];exact JC⟩ N8
    obtain⟨H29,MR,k29,g29⟩:=wr H28 lr (.lst (V.ref c7::cs7.map V.ref ++ [.ref T4]));rw[MR] at Hf ⊢;have K29:bL p H1 H29:=λb o e n=>k29 _ _ (IU _ _ (K27 _ _ e n)) (bB Bv e);obtain⟨c9,cs9,e9,l9',_⟩:=Hf.l;walk_at "w";refine iV (bR.of e9) ?_;walk_at "w";refine⟨p,s,W,rfl,Hf.h,Hf.c.w.tr jJ.tr,hg,λa2 P2 H30 hP2 TY TX h30 Vd=>?_⟩;have R30:=Hf.draw h30 Vd;have K30:=K29.trans Vd;walk_at "w";intro T5 nT5;obtain⟨H31,i31,Mp,NY⟩:=nw _ nT5;rw[i31];have Cw:=R30.same Mp;obtain⟨c1',cs1,J5,MM,_⟩:=Cw.l;walk_at "w";refine mC J5 (sm MM (by lia)) ?_;have Fu:=Cw.push (x:=T5) ⟨a2,u,q,P2,ws,qs,hr,dR NY (λz=>by rw[z,J5] at NY;cases NY),⟨Cw.c.w,hg,(hP2.tk Mp.tk).tk (aQT J5),⟨TY,TX⟩,Cw.c.u,Cw.c.q,Cw.c.len,Cw.c.am,Cw.c.rL⟩,vq⟩ J5;obtain⟨H32,i32,k32,g32⟩:=wr H31 lr (.lst (V.ref c1'::cs1.map V.ref ++ [.ref T5]));rw[i32] at Fu ⊢;have K32:bL p H1 H32:=λb o e n=>k32 _ _ (Mp _ _ (K30 _ _ e n)) (bB Bv e);obtain⟨ls7,st7,Xm,HR,_,_,CH⟩:=(Fu.c.w.tr jJ.tr).ex
    have SN:s≠p:=Fu.h.AJ HR (by simp);have IF:Xm≠p:=Fu.h.AJ CH (by simp);walk_at "w";refine⟨by lia,by lia,?_⟩;rw[xy];refine jN (λi us H'=>bE H' p/\bL p H32 H'/\∃ws:ae,us=ws.map V.int/\ws.length=i) ⟨Fu.h,λ_ _ e _=>e,[],rfl,rfl⟩ (cB (by lia)) (λi us H' hi ⟨_,_,ps,e1,e2⟩=>by rw[e1,bX];lia) (λi us H' hi HX=>?_) (λus H33 HW=>?_)
    ·obtain⟨h8,k8,ws,e1,e2⟩:=HX;have Xe:=k8 _ _ HR SN;walk_at "w";refine⟨p,Xm,W.x,W.y,rfl,h8,k8 _ _ CH IF,λw H9 h9 k9 _=>?_⟩;exact⟨h9,k8.trans k9,ws ++ [w],by rw[e1,iK];rfl,by rw[lB,e2];rfl⟩
    obtain⟨h33,Vc,ws2,e1,e2⟩:=HW;subst e1;intro mo Mw;obtain⟨H34,i34,CP,Dm⟩:=nw _ Mw;rw[i34];have R33:=Fu.draw h33 Vc;have R34:=R33.same CP;have mor:mo≠lr:=λz=>by
     obtain⟨c',cs',e',_⟩:=R33.l;rw[z,e'] at Mw;cases Mw
    obtain⟨c4,cs4,Xi,ML,_⟩:=R34.l;walk_at "w";refine iV (bR.of Xi) ?_;walk_at "w";intro T6 nT6;obtain⟨H35,i35,Bu,JO⟩:=nw _ nT6;rw[i35];have LQ:=R34.same Bu;have N7:=Bu _ _ Xi;walk_at "w";refine mC N7 (sm ML (by lia)) ?_;have R36:=LQ.push (x:=T6) ⟨a1,mo,q,P,ws2,qs,hr,dR JO (λz=>by rw[z,N7] at JO;cases JO),LQ.c.row (dR (Bu _ _ Dm) mor) LQ.c.q (by lia) rfl LQ.c.am,vq⟩ N7;obtain⟨H36,i36,k36,Wc⟩:=wr H35 lr (.lst (V.ref c4::cs4.map V.ref ++ [.ref T6]));rw[i36] at R36 ⊢;have K36:bL p H1 H36:=λb o e n=>k36 _ _ (Bu _ _ (CP _ _ ((K32.trans Vc) _ _ e n))) (bB Bv e);walk_at "w";exact hN _ _ ⟨5,_,_,_,by decide,R36,K36,rfl⟩
   ·walk_at "w";exact hN _ _ ⟨1,_,_,_,by decide,QQ,K22,rfl⟩
  subst e;obtain⟨c,cs,e1,e2,e3⟩:=Cy.l;have NP:=Cy.h;have S23:aO H FE:=qE Jg S1 QR;have Ba:cs.length+1=n:=by simpa using e2
  walk_at "w";refine eM (bR.of (show FE lr=some (.lst ((c::cs).map V.ref)) from e1)) ?_;refine eT (xs:=(c::cs).map V.ref) (λj σ' H'=>rA a.dU a.bA a.cN H' lr p w s W a1 u q P ws qs n/\H' lr=some (.lst ((c::cs).map V.ref))/\bL p FE H'/\∃Ae,σ'=[some (.ref ad),some (.int (0+(i:Int))),some (.ref p),some (.ref s),some (.int (nh:Int)),some (.ref u),some (.ref a1),some (.ref q),some (.ref w),some (.int (hr:Int)),some (.int f),some (.ref dl),some (.ref lr),AR,AQ,AO,Ae]) ⟨Cy,e1,λ_ _ e _=>e,_,rfl⟩ (λj σ' H' hj ⟨_,e,_⟩=>bR.of e) (λj v σ' L5 hv HV=>?_) (λσ' L5 HU=>?_)
  ·obtain⟨DN,N9,F3,Ae,e⟩:=HV;subst e;rw[kQ] at hv;obtain⟨x,ex,rfl⟩:=kl.mp hv;have T24:Tr FE L5:=NP.tr F3;obtain⟨ax,ux,qx,Px,wx,qsx,hx,gx,Cx,lx⟩:=((e3 x (kP ex)).tr jJ.tr).tr T24;walk_at "w";refine⟨p,w,s,x,ax,ux,qx,W,Px,wx,qsx,hx,rfl,(qE Jg S1 (QR.trans F3)) _ _ gt,DN.h,DN.w.tr jJ.tr,gx,Cx,lx,λf2 L3 _ _ h25 F2=>?_⟩;repeat walk_at "gs"
   have LS:=DN.draw h25 F2;exact⟨LS,F2 _ _ N9 (DN.h.Oj (o:=.lst []) N9).1,F3.trans F2,_,rfl⟩
  ·obtain⟨DN,N9,F3,Ae,e⟩:=HU;subst e;exact⟨qE Jg S1 (QR.trans F3),_,_,_,_,_,_,_,_,_,_,_,_,_,_,_,_,rfl⟩
 ·obtain⟨s0,z1,z2,z3,z4,z5,z6,z7,z8,z9,qz,FH,FF,AR,AQ,AO,Ae,e⟩:=Ia;subst e;walk_at "w";exact k _ s0
end My
namespace My
open PySem L2 L2.Z
local macro_rules | `(tactic| walk_at "b1") => `(tactic| (intro _ _ _ _ _ _ us hl; obtain ⟨_, e⟩ := Xs us hl; subst e; rfl))
local macro_rules | `(tactic| walk_at "b2") => `(tactic| (intro _ _ _ _ _ _ us hl; obtain ⟨_, _, e⟩ := Od us hl; subst e; rfl))
local macro_rules | `(tactic| walk_at "b3") => `(tactic| (intro _ _ _ _ _ _ us hl; obtain ⟨_, _, _, e⟩ := Xr us hl; subst e; rfl))
local macro_rules | `(tactic| walk_at "b4") => `(tactic| (intro _ _ _ _ _ _ us hl; obtain ⟨_, _, _, _, e⟩ := Xq us hl; subst e; rfl))
local macro_rules | `(tactic| walk_at "b5") => `(tactic| (intro _ _ _ _ _ _ us hl; obtain ⟨_, _, _, _, _, e⟩ := Xp us hl; subst e; rfl))
local macro_rules | `(tactic| walk_at "b6") => `(tactic| (intro _ _ _ _ _ _ us hl; obtain ⟨_, _, _, _, _, _, e⟩ := Xo us hl; subst e; rfl))
local macro_rules | `(tactic| walk_at "b8") => `(tactic| (intro _ _ _ _ _ _ us hl; obtain ⟨_, _, _, _, _, _, _, _, e⟩ := ar8 us hl; subst e; rfl))
def BZ(K:W.Frag)(f:Addr)(x q:Str)(st:Stmt)(oc:Value)(od:Option Addr)(kV dc pm:Value)(an:Option Addr)(cd ct:Value)(sl:Array (ay)):Prop:=K.lookup f=some ⟨oc,od,.func (W.fnOf x q (m6 st) (jY st) (aL st) .none kV dc pm an cd ct),sl⟩/\W.codeIn K cd q=true/\W.keepIn K (.ref f)=true
def aQ(K:W.Frag)(x:Str)(f:Addr):Prop:=W.nsIn K mainGlobals x=some (some (.ref f))
def OO{K:W.Frag}{f:Addr}{x q:Str}{st:Stmt}{oc:Value}{od:Option Addr}{kV dc pm:Value}{an:Option Addr}{cd ct:Value}{sl:Array (ay)}(l:BZ K f x q st oc od kV dc pm an cd ct sl):=Yw (st:=st) l.1 l.2.1 l.2.2
def gP(K:W.Frag)(f:Addr)(x q:Str)(st:Stmt):Prop:=∃oc od kV dc pm an cd ct sl,BZ K f x q st oc od kV dc pm an cd ct sl
def gG(K:W.Frag)(f:Addr)(x:Str)(st:Stmt):Prop:=aQ K x f/\gP K f x x st
def XQ{K:W.Frag}{f:Addr}{x q:Str}{st:Stmt}{oc:Value}{od:Option Addr}{kV dc pm:Value}{an:Option Addr}{cd ct:Value}{sl:Array (ay)}(l:BZ K f x q st oc od kV dc pm an cd ct sl):gP K f x q st:=⟨_,_,_,_,_,_,_,_,_,l⟩
def aRT{K:W.Frag}{f:Addr}{x:Str}{st:Stmt}{oc:Value}{od:Option Addr}{kV dc pm:Value}{an:Option Addr}{cd ct:Value}{sl:Array (ay)}(a:aQ K x f)(l:BZ K f x x st oc od kV dc pm an cd ct sl):gG K f x st:=⟨a,XQ l⟩
def uB{K:W.Frag}{f:Addr}{x q:Str}{st:Stmt}{ps:ak}(l:gP K f x q st)(h:∀(kV doc pm:Value) (an:Option Addr) (bj ct:Value) (us:ah),us.length=ps.length->bindArgs (W.fnOf x q (m6 st) (jY st) (aL st) .none kV doc pm an bj ct) ⟨us,[]⟩=pure (ps.zip us)):∃d,FB K x q st f d ps:=by
 obtain⟨oc,od,kV,dc,pm,an,cd,ct,sl,l⟩:=l;exact⟨_,OO l,(OO l).binds h⟩
def bY{K:W.Frag}{h:Heap}{mg:Str->ay}{f:Addr}{x:Str}{st:Stmt}{ps:ak}(X:K.In h)(G:h.Ns mainGlobals mg)(l:gG K f x st)(h:∀(kV doc pm:Value) (an:Option Addr) (bj ct:Value) (us:ah),us.length=ps.length->bindArgs (W.fnOf x x (m6 st) (jY st) (aL st) .none kV doc pm an bj ct) ⟨us,[]⟩=pure (ps.zip us)):∃d,FG K mg x st f d ps:=by
 obtain⟨a,l⟩:=l;obtain⟨d,z⟩:=uB l h;exact⟨d,z.F,z.b,W.mg_of X G a⟩
theorem all_mk{l:W.OpenLaw}{w:World}{K:W.Frag}{h:Heap}{mg:Str->ay}{fa:Addr}(X:K.In h)(G:h.Ns mainGlobals mg)(hfa:mg "law" = some (.ref fa))
  {C0 C1 C2 C3 f0 f1 f2 f3 f4 f5 f6 f7 f8 f9 JZ Xc Xb Xa W9 W8 W7 W6 W5 JY W4 W3 W2 W0 WZ WY WX WW WV JX WU WT WR WQ WO WN WM WL WK WJ WI WH WG WE WD WC WB JW JV JU JT Gs JS JR JQ WA Wz Wx Ww Wv Wu Wt Ws Wq Wn Wm Wk Wj Wi:Addr} {S8 Uk S0 Uj:Option Addr} {SU SR:Array (ay)} {S9 Tf Ub SW Ug Ud:Value} {Ta Tg Uc SX Ue:Value} {zm va:Addr} {Ip:Option Addr} {CD:Array Value} {Io:Array (ay)} {nz:Tok} {lg:Tok} {nv:Tok} {ky:Tok}
  (aC0:W.nsIn K mainGlobals "Lone" = some (some (.ref C0)))
  (aC1:W.nsIn K mainGlobals "Machine" = some (some (.ref C1)))
  (aC2:W.nsIn K mainGlobals "Store" = some (some (.ref C2)))
  (aC3:W.nsIn K mainGlobals "Works" = some (some (.ref C3)))
  (l0:gG K f0 "_law_open" m9)
  (l1:gG K f1 "_law_draw" rZ)
  (l2:gG K f2 "_law_far" wV)
  (l3:gG K f3 "_law_whole" pI)
  (l4:gG K f4 "_law_factor" nU)
  (l5:gG K f5 "is_whole" wW)
  (l6:gG K f6 "is_amount" sA)
  (l7:gG K f7 "is_span" Qw)
  (l8:gG K f8 "is_piece" wX)
  (l9:gG K f9 "are_pieces" iZ)
  (Bf:W.findIn K (.ref C1) "__init__" = some (some (.ref JZ)))
  (F4:W.isFn K (.ref JZ)=true)
  (l10:gP K JZ "__init__" "Machine.__init__" mH)
  (l11:gG K Xc "_law_spec" sC)
  (l12:gG K Xb "_law_machine" mI)
  (l13:gG K Xa "_law_gain" nB)
  (l14:gG K W9 "may_be" Qa)
  (l15:gG K W8 "state_after" nV)
  (l16:gG K W7 "_law_state" pJ)
  (l17:gG K W6 "_law_after" pK)
  (l18:gG K W5 "is_depth" wY)
  (a19:W.findIn K (.ref C2) "__init__" = some (some (.ref JY)))
  (MT:W.isFn K (.ref JY)=true)
  (l19:gP K JY "__init__" "Store.__init__" pL)
  (l20:gG K W4 "run_fault" sD)
  (l21:gG K W3 "refuse_fault" mJ)
  (l22:gG K W2 "run_begins" pM)
  (l23:gG K W0 "run_cost" wZ)
  (l24:gG K WZ "least_of" pN)
  (l25:gG K WY "worths_ahead" mK)
  (l26:gG K WX "worths_by_hour" jU)
  (l27:gG K WW "ways_one_on" nW)
  (l28:gG K WV "are_machines" i8)
  (a29:W.findIn K (.ref C3) "__init__" = some (some (.ref JX)))
  (MR:W.isFn K (.ref JX)=true)
  (l29:gP K JX "__init__" "Works.__init__" pO)
  (l30:gG K WU "_law_store" pP)
  (MM:gG K WT "_law_levels" nX)
  (l32:gG K WR "_law_works_spec" fX)
  (l33:gG K WQ "_law_works" lJ)
  (ML:gG K WO "_law_position" iG)
  (l35:gG K WN "levels_after" mL)
  (l36:gG K WM "levels_from" nY)
  (l37:gG K WL "drawn_by" w4)
  (l38:gG K WK "states_by_hour" jV)
  (l39:gG K WJ "next_hours" lK)
  (l40:gG K WI "_law_price" pQ)
  (l41:gG K WH "_law_least_run" jW)
  (l42:gG K WG "_law_drawn" pR)
  (l43:gG K WE "_law_want" sE)
  (l44:gG K WD "_law_least_path" jA)
  (l45:gG K WC "_law_bound" pS)
  (l46:gG K WB "_law_prices" jZ)
  (a47:W.findIn K (.ref C1) "most" = some (some (.ref JW)))
  (i47:W.isFn K (.ref JW)=true)
  (l47:gP K JW "most" "Machine.most" jB)
  (a48:W.findIn K (.ref C1) "cost_at" = some (some (.ref JV)))
  (i48:W.isFn K (.ref JV)=true)
  (l48:gP K JV "cost_at" "Machine.cost_at" jC)
  (a49:W.findIn K (.ref C0) "__init__" = some (some (.ref JU)))
  (i49:W.isFn K (.ref JU)=true)
  (l49:gP K JU "__init__" "Lone.__init__" sF)
  (a50:W.findIn K (.ref C0) "priced_ways" = some (some (.ref JT)))
  (i50:W.isFn K (.ref JT)=true)
  (l50:gP K JT "priced_ways" "Lone.priced_ways" fH)
  (a51:W.findIn K (.ref C0) "worths_to_end" = some (some (.ref Gs)))
  (i51:W.isFn K (.ref Gs)=true)
  (l51:K.lookup Gs=some ⟨Ta,S8,.func (W.fnOf "worths_to_end" "Lone.worths_to_end" (m6 cD) (jY cD) (aL cD) .none Tg Uc SX Uk (.ref zm) Ue),SU⟩)
  (Ob:W.codeIn K (.ref zm) "Lone.worths_to_end" = true)
  (a0c:K.lookup zm=some ⟨.type "code",Ip,.fields CD,Io⟩)
  (a0b:(CD[11]? : ay)=some (.ref va))
  (Hl:W.codeHdIn K zm va=true)
  (Vb:W.keepIn K (.ref Gs)=true)
  (a52:W.findIn K (.ref C0) "worths_at_first" = some (some (.ref JS)))
  (i52:W.isFn K (.ref JS)=true)
  (l52:gP K JS "worths_at_first" "Lone.worths_at_first" fJ)
  (a53:W.findIn K (.ref C0) "worths_behind" = some (some (.ref JR)))
  (i53:W.isFn K (.ref JR)=true)
  (l53:gP K JR "worths_behind" "Lone.worths_behind" gF)
  (a54:W.findIn K (.ref C0) "worths_by_drawn" = some (some (.ref JQ)))
  (i54:W.isFn K (.ref JQ)=true)
  (l54:gP K JQ "worths_by_drawn" "Lone.worths_by_drawn" fK)
  (l55:gG K WA "corners_of" pT)
  (l56:gG K Wz "ways_of_machine" fY)
  (l57:gG K Wx "lone_machine" mM)
  (l58:gG K Ww "lone_store" jD)
  (l59:gG K Wv "lones_of" pU)
  (l60:gG K Wu "bound_at" pV)
  (l61:gG K Wt "least_best" pW)
  (l62:gG K Ws "heads_behind" jE)
  (l63:gG K Wq "best_price" lM)
  (l64:gG K Wn "raised_price" gH)
  (l65:gG K Wm "_law_at" Qv)
  (l66:gG K Wk "_law_right" pX)
  (l67:gG K Wj "_law_found" pY)
  (a68:aQ K "law" Wi)
  (l68:BZ K Wi "law" "law" GN S9 S0 Tf Ub SW Uj Ug Ud SR)
  (pg0:W.plainGet K C0 Str.empty=true)
  (vt:W.hasDictIn K C0=true)
  (po0:W.plainOver K C0=true)
  (sa0:W.findIn K (.ref C0) "__setattr__" = some (some (.builtin "object.__setattr__")))
  (mk0:W.makesIn K C0=true)
  (kc0:W.keepIn K (.ref C0)=true)
  (xf:W.findIn K (.ref C0) "layers" = some none)
  (BJ:W.findIn K (.ref C0) "ways" = some none)
  (pg1:W.plainGet K C1 Str.empty=true)
  (Gi:W.hasDictIn K C1=true)
  (po1:W.plainOver K C1=true)
  (sa1:W.findIn K (.ref C1) "__setattr__" = some (some (.builtin "object.__setattr__")))
  (mk1:W.makesIn K C1=true)
  (kc1:W.keepIn K (.ref C1)=true)
  (Iu:W.findIn K (.ref C1) "up" = some none)
  (BI:W.findIn K (.ref C1) "down" = some none)
  (Ad:W.findIn K (.ref C1) "begin" = some none)
  (Ed:W.findIn K (.ref C1) "run" = some none)
  (BH:W.findIn K (.ref C1) "rest" = some none)
  (Ac:W.findIn K (.ref C1) "least" = some none)
  (xc:W.findIn K (.ref C1) "pieces" = some none)
  (ia1:W.findIn K (.ref C1) "__class__" = some (some (.builtin "object.__class__")))
  (in1:W.specialIn K (.builtin "object.__class__") "__get__" = some (some (.builtin "getset_descriptor.__get__")))
  (it1:W.takesIn K (.builtin "object.__class__")=some true)
  (im1:W.mroIn K C1 (.type "object")=some true)
  (pg2:W.plainGet K C2 Str.empty=true)
  (hd2:W.hasDictIn K C2=true)
  (po2:W.plainOver K C2=true)
  (sa2:W.findIn K (.ref C2) "__setattr__" = some (some (.builtin "object.__setattr__")))
  (mk2:W.makesIn K C2=true)
  (kc2:W.keepIn K (.ref C2)=true)
  (Ec:W.findIn K (.ref C2) "cap" = some none)
  (BG:W.findIn K (.ref C2) "into" = some none)
  (Eb:W.findIn K (.ref C2) "out" = some none)
  (Aa:W.findIn K (.ref C2) "takes" = some none)
  (Ab:W.findIn K (.ref C2) "gives" = some none)
  (ia2:W.findIn K (.ref C2) "__class__" = some (some (.builtin "object.__class__")))
  (in2:W.specialIn K (.builtin "object.__class__") "__get__" = some (some (.builtin "getset_descriptor.__get__")))
  (MO:W.takesIn K (.builtin "object.__class__")=some true)
  (im2:W.mroIn K C2 (.type "object")=some true)
  (pg3:W.plainGet K C3 Str.empty=true)
  (hd3:W.hasDictIn K C3=true)
  (po3:W.plainOver K C3=true)
  (sa3:W.findIn K (.ref C3) "__setattr__" = some (some (.builtin "object.__setattr__")))
  (mk3:W.makesIn K C3=true)
  (kc3:W.keepIn K (.ref C3)=true)
  (sh:W.findIn K (.ref C3) "machines" = some none)
  (zy:W.findIn K (.ref C3) "store" = some none)
  (BF:W.findIn K (.ref C3) "lack" = some none)
  (ia3:W.findIn K (.ref C3) "__class__" = some (some (.builtin "object.__class__")))
  (in3:W.specialIn K (.builtin "object.__class__") "__get__" = some (some (.builtin "getset_descriptor.__get__")))
  (it3:W.takesIn K (.builtin "object.__class__")=some true)
  (im3:W.mroIn K C3 (.type "object")=some true)
  (OM:W.nsIn K mainGlobals "abs" = some none)
  (GQ:W.nsIn K mainGlobals "all" = some none)
  (KQ:W.nsIn K mainGlobals "bool" = some none)
  (gL:W.nsIn K mainGlobals "enumerate" = some none)
  (E7:W.nsIn K mainGlobals "int" = some none)
  (cY:W.nsIn K mainGlobals "isinstance" = some none)
  (mR:W.nsIn K mainGlobals "len" = some none)
  (jX:W.nsIn K mainGlobals "list" = some none)
  (zJ:W.nsIn K mainGlobals "max" = some none)
  (jI:W.nsIn K mainGlobals "min" = some none)
  (eF:W.nsIn K mainGlobals "range" = some none)
  (w5:W.nsIn K mainGlobals "reversed" = some none)
  (Qi:W.nsIn K mainGlobals "sorted" = some none)
  (Ks:W.nsIn K mainGlobals "sum" = some none)
  (Li:W.nsIn K mainGlobals "tuple" = some none)
  (Dx:W.nsIn K mainGlobals "zip" = some none)
  (oC:W.nsIn K mainGlobals "MOST_LEVELS" = some (some (.int 8 nz)))
  (kY:W.nsIn K mainGlobals "LONGEST_STINT" = some (some (.int 12 lg)))
  (oE:W.nsIn K mainGlobals "MOST_PIECES" = some (some (.int 4 nv)))
  (kZ:W.nsIn K mainGlobals "MOST_MACHINES" = some (some (.int 6 ky))) :
  (∃c,W.codeHdIn K c va=true)/\∃fd:FuncData,(∀(s:Shared) (v:Value),BindsTo s fd ⟨[v],[]⟩ [("_law_script",v)])/\∀base:Heap,K.In base->base.Ns mainGlobals mg->bT l.prog w K mg base eY 13 fa fd a7a (GR K va):=by
 have e:=hfa.symm.trans (W.mg_of X G a68);cases e;obtain⟨d0,x0⟩:=bY X G l0 (ps:=aVa) (by walk_at "b2");obtain⟨d1,x1⟩:=bY X G l1 (ps:=a4a) (by walk_at "b2");obtain⟨d2,x2⟩:=bY X G l2 (ps:=aRa) (by walk_at "b2");obtain⟨d3,x3⟩:=bY X G l3 (ps:=bfa) (by walk_at "b1");obtain⟨d4,x4⟩:=bY X G l4 (ps:=bla) (by walk_at "b1");obtain⟨d5,x5⟩:=bY X G l5 (ps:=fv) (by walk_at "b1");obtain⟨d6,x6⟩:=bY X G l6 (ps:=fv) (by walk_at "b1");obtain⟨d7,x7⟩:=bY X G l7 (ps:=fv) (by walk_at "b1");obtain⟨d8,x8⟩:=bY X G l8 (ps:=fv) (by walk_at "b1");obtain⟨d9,x9⟩:=bY X G l9 (ps:=fv) (by walk_at "b1");obtain⟨d10,x10⟩:=uB l10 (ps:=aea) (by walk_at "b8");obtain⟨d11,x11⟩:=bY X G l11 (ps:=awa) (by walk_at "b3");obtain⟨d12,x12⟩:=bY X G l12 (ps:=ana) (by walk_at "b1");obtain⟨d13,x13⟩:=bY X G l13 (ps:=ada) (by walk_at "b2");obtain⟨d14,x14⟩:=bY X G l14 (ps:=ue) (by walk_at "b3");obtain⟨d15,x15⟩:=bY X G l15 (ps:=ue) (by walk_at "b3")
 obtain⟨d16,x16⟩:=bY X G l16 (ps:=kf) (by walk_at "b2");obtain⟨d17,x17⟩:=bY X G l17 (ps:=aba) (by walk_at "b3");obtain⟨d18,x18⟩:=bY X G l18 (ps:=fv) (by walk_at "b1");obtain⟨d19,x19⟩:=uB l19 (ps:=apa) (by walk_at "b6");obtain⟨d20,x20⟩:=bY X G l20 (ps:=ba) (by walk_at "b3");obtain⟨d21,x21⟩:=bY X G l21 (ps:=ba) (by walk_at "b3");obtain⟨Gx,x22⟩:=bY X G l22 (ps:=ba) (by walk_at "b3");obtain⟨d23,x23⟩:=bY X G l23 (ps:=ba) (by walk_at "b3");obtain⟨d24,x24⟩:=bY X G l24 (ps:=aXa) (by walk_at "b2");obtain⟨d25,x25⟩:=bY X G l25 (ps:=axa) (by walk_at "b4");obtain⟨d26,x26⟩:=bY X G l26 (ps:=bba) (by walk_at "b2");obtain⟨d27,x27⟩:=bY X G l27 (ps:=bea) (by walk_at "b2");obtain⟨d28,x28⟩:=bY X G l28 (ps:=fv) (by walk_at "b1");obtain⟨d29,x29⟩:=uB l29 (ps:=aDa) (by walk_at "b4");obtain⟨d30,x30⟩:=bY X G l30 (ps:=afa) (by walk_at "b2");obtain⟨d31,x31⟩:=bY X G MM (ps:=ara) (by walk_at "b2");obtain⟨d32,x32⟩:=bY X G l32 (ps:=a3a) (by walk_at "b2")
 obtain⟨d33,x33⟩:=bY X G l33 (ps:=ana) (by walk_at "b1");obtain⟨d34,x34⟩:=bY X G ML (ps:=kf) (by walk_at "b2");obtain⟨d35,x35⟩:=bY X G l35 (ps:=aga) (by walk_at "b3");obtain⟨d36,x36⟩:=bY X G l36 (ps:=a8a) (by walk_at "b2");obtain⟨d37,x37⟩:=bY X G l37 (ps:=a1a) (by walk_at "b3");obtain⟨d38,x38⟩:=bY X G l38 (ps:=gr) (by walk_at "b3");obtain⟨d39,x39⟩:=bY X G l39 (ps:=aja) (by walk_at "b2");obtain⟨d40,x40⟩:=bY X G l40 (ps:=ama) (by walk_at "b3");obtain⟨d41,x41⟩:=bY X G l41 (ps:=aha) (by walk_at "b3");obtain⟨d42,x42⟩:=bY X G l42 (ps:=aca) (by walk_at "b3");obtain⟨d43,x43⟩:=bY X G l43 (ps:=afa) (by walk_at "b2");obtain⟨d44,x44⟩:=bY X G l44 (ps:=ala) (by walk_at "b3");obtain⟨d45,x45⟩:=bY X G l45 (ps:=p9) (by walk_at "b4");obtain⟨d46,x46⟩:=bY X G l46 (ps:=gz) (by walk_at "b4");obtain⟨d47,Uz⟩:=uB l47 (ps:=a9a) (by walk_at "b1");obtain⟨d48,Uy⟩:=uB l48 (ps:=bha) (by walk_at "b2");obtain⟨d49,x49⟩:=uB l49 (ps:=aPa) (by walk_at "b3")
 obtain⟨d50,Ux⟩:=uB l50 (ps:=ava) (by walk_at "b3");have F51:=Yw (st:=cD) l51 Ob Vb;have b51:=F51.binds (ps:=aIa) (by walk_at "b2");obtain⟨d52,Uw⟩:=uB l52 (ps:=a9a) (by walk_at "b1");obtain⟨d53,Uv⟩:=uB l53 (ps:=a6a) (by walk_at "b3");obtain⟨d54,Uu⟩:=uB l54 (ps:=a2a) (by walk_at "b3");obtain⟨d55,x55⟩:=bY X G l55 (ps:=bia) (by walk_at "b1");obtain⟨d56,x56⟩:=bY X G l56 (ps:=aja) (by walk_at "b2");obtain⟨d57,x57⟩:=bY X G l57 (ps:=gr) (by walk_at "b3");obtain⟨d58,x58⟩:=bY X G l58 (ps:=aga) (by walk_at "b3");obtain⟨d59,x59⟩:=bY X G l59 (ps:=aUa) (by walk_at "b3");obtain⟨d60,x60⟩:=bY X G l60 (ps:=aYa) (by walk_at "b3");obtain⟨d61,x61⟩:=bY X G l61 (ps:=aZa) (by walk_at "b3");obtain⟨d62,x62⟩:=bY X G l62 (ps:=asa) (by walk_at "b3");obtain⟨d63,x63⟩:=bY X G l63 (ps:=ata) (by walk_at "b5");obtain⟨d64,x64⟩:=bY X G l64 (ps:=aoa) (by walk_at "b5");obtain⟨d65,x65⟩:=bY X G l65 (ps:=aqa) (by walk_at "b3");obtain⟨d66,x66⟩:=bY X G l66 (ps:=aia) (by walk_at "b4")
 obtain⟨d67,x67⟩:=bY X G l67 (ps:=aaa) (by walk_at "b4");have F68:=OO l68;have b68:=F68.binds (ps:=a7a) (by walk_at "b1");have tx:Txt K mg ⟨f0,d0,f1,d1,f2,d2,f3,d3,f4,d4,f5,d5,f6,d6,f7,d7,f8,d8,f9,d9,JZ,d10,Xc,d11,Xb,d12,Xa,d13,W9,d14,W8,d15,W7,d16,W6,d17,W5,d18,JY,d19,W4,d20,W3,d21,W2,Gx,W0,d23,WZ,d24,WY,d25,WX,d26,WW,d27,WV,d28,JX,d29,WU,d30,WT,d31,WR,d32,WQ,d33,WO,d34,WN,d35,WM,d36,WL,d37,WK,d38,WJ,d39,WI,d40,WH,d41,WG,d42,WE,d43,WD,d44,WC,d45,WB,d46,JW,d47,JV,d48,JU,d49,JT,d50,Gs,_,JS,d52,JR,d53,JQ,d54,WA,d55,Wz,d56,Wx,d57,Ww,d58,Wv,d59,Wu,d60,Wt,d61,Ws,d62,Wq,d63,Wn,d64,Wm,d65,Wk,d66,Wj,d67,fa,_,zm,va,C0,C1,C2,C3⟩:=⟨x0,x1,x2,x3,x4,x5,x6,x7,x8,x9,x10,x11,x12,x13,x14,x15,x16,x17,x18,x19,x20,x21,x22,x23,x24,x25,x26,x27,x28,x29,x30,x31,x32,x33,x34,x35,x36,x37,x38,x39,x40,x41,x42,x43,x44,x45,x46,Uz,Uy,x49,Ux,⟨F51,b51⟩,Uw,Uv,Uu,x55,x56,x57,x58,x59,x60,x61,x62,x63,x64,x65,x66,x67,⟨F68,b68,W.mg_of X G a68⟩,⟨pg0,vt,po0,sa0⟩,W.mg_of X G aC0,⟨mk0,a49,i49,kc0⟩,⟨a50,i50,Ux.F.kp⟩,⟨a51,i51,Vb⟩,⟨a52,i52,Uw.F.kp⟩,⟨a53,i53,Uv.F.kp⟩,⟨a54,i54,Uu.F.kp⟩,xf,BJ,⟨pg1,Gi,po1,sa1⟩,W.mg_of X G aC1,⟨mk1,Bf,F4,kc1⟩,⟨a47,i47,Uz.F.kp⟩,⟨a48,i48,Uy.F.kp⟩,Iu,BI,Ad,Ed,BH,Ac,xc,⟨ia1,in1,it1,im1⟩,⟨pg2,hd2,po2,sa2⟩,W.mg_of X G aC2,⟨mk2,a19,MT,kc2⟩,Ec,BG,Eb,Aa,Ab,⟨ia2,in2,MO,im2⟩,⟨pg3,hd3,po3,sa3⟩,W.mg_of X G aC3,⟨mk3,a29,MR,kc3⟩,sh,zy,BF,⟨ia3,in3,it3,im3⟩,⟨rfl,Hl⟩,W.mg_none_of X G OM,W.mg_none_of X G GQ,W.mg_none_of X G KQ,W.mg_none_of X G gL,W.mg_none_of X G E7,W.mg_none_of X G cY,W.mg_none_of X G mR,W.mg_none_of X G jX,W.mg_none_of X G zJ,W.mg_none_of X G jI,W.mg_none_of X G eF,W.mg_none_of X G w5,W.mg_none_of X G Qi,W.mg_none_of X G Ks,W.mg_none_of X G Li,W.mg_none_of X G Dx,⟨_,W.mg_of X G oC⟩,⟨_,W.mg_of X G kY⟩,⟨_,W.mg_of X G oE⟩,⟨_,W.mg_of X G kZ⟩⟩
 exact⟨⟨_,Hl⟩,_,λs v=>.of_eq rfl,λbase _ _=>aQU tx⟩
theorem walk{l:W.OpenLaw}{q:Program}{loose:ak}{XP:(Str->ay)->Heap->Prop}{YP:World->Heap->Prop}{d:DefRec}{K:Params->W.Frag}{va:Addr}(hn:l.most=some 63)(Gh:d.params.defaults=[])(hI:∀(w:World) (h:Heap),YP w h->(K w.params).In h)
  (F:∀(w:World) (mg:Str->ay) (fa:Addr) (h:Heap),(K w.params).In h->h.Ns mainGlobals mg->mg d.name=some (.ref fa)->
   (∃c,W.codeHdIn (K w.params) c va=true)/\∃fd:FuncData,(∀(s:Shared) (u:Value),BindsTo s fd ⟨[u],[]⟩ [("_law_script",u)])/\∀base:Heap,(K w.params).In base->base.Ns mainGlobals mg->bT l.prog w (K w.params) mg base eY 13 fa fd a7a (GR (K w.params) va))
  (hN:decide ([va]:au).Nodup=true) (hY:∀(w:World) (h:Heap),YP w h->∀t∈([va]:au),h.get? t=some { cls:=.none,data:=.fields #[] })
  (hK:∀w:World,(K w.params).lookup va=none) :
  W.WalkO q loose XP YP l.row.toRowW d [] (λf vs=>PySem.call f vs):=by
 refine L2.aL3 (tabs:=[(va,cP,cQ)]) (n:=63) (k:=13) (x:="_law_script") (sp:=λw=>GR (K w.params) va) hn (by decide) Gh ⟨rfl,by decide,by decide⟩ (qw hN) (λw h Y=>⟨hI w h Y,λt ht=>hY w h Y t.1 ?_⟩) (λw t ht=>?_) (λw mg fa h x1 x2 x3=>?_) (λ_ _ a ns hl hT hS=>?_)
 ·simp only[lC,vd,or_false] at ht;rcases ht with rfl <;> simp
 ·have hk:=hK w;simp only[lC,vd,or_false] at ht;rcases ht with rfl
  ·exact hk
 ·obtain⟨Ob,rest⟩:=F w mg fa h x1 x2 x3;refine⟨λt ht=>?_,rest⟩;simp only[lC,vd,or_false] at ht;rcases ht with rfl
  ·exact Ob
 ·exact⟨a,ns,rfl,hS,hl,hT (va,cP,cQ) (by simp),λH' s'=>⟨rfl,s'⟩⟩
end My
open PySem PySem.W PyProof.Rows
set_option maxRecDepth 100000 in
theorem PySem.Challenge.cw_stintwise_k75_prices_raised_holds : PySem.Challenge.rw_stintwise_k75_prices_raised.Holds := by
 w_on;o_law;k_head;(case hw=>w_witness2)
 k_fill
 refine' My.walk (l:=PySem.Challenge.rw_stintwise_k75_prices_raised) rfl rfl (λw h Y=>PySem.W.km_in_of Y) ?F ?hN0 ?hY0 ?hK0
 case F=>
  intro w mg fa h KX G Gb;refine' My.all_mk KX G Gb ?_ ?_ ?_ ?_ ?_ ?_ ?_ ?_ ?_ ?_ ?_ ?_ ?_ ?_ ?_ ?_ ?_ ?_ ?_ ?_ ?_ ?_ ?_ ?_ ?_ ?_ ?_ ?_ ?_ ?_ ?_ ?_ ?_ ?_ ?_ ?_ ?_ ?_ ?_ ?_ ?_ ?_ ?_ ?_ ?_ ?_ ?_ ?_ ?_ ?_ ?_ ?_ ?_ ?_ ?_ ?_ ?_ ?_ ?_ ?_ ?_ ?_ ?_ ?_ ?_ ?_ ?_ ?_ ?_ ?_ ?_ ?_ ?_ ?_ ?_ ?_ ?_ ?_ ?_ ?_ ?_ ?_ ?_ ?_ ?_ ?_ ?_ ?_ ?_ ?_ ?_ ?_ ?_ ?_ ?_ ?_ ?_ ?_ ?_ ?_ ?_ ?_ ?_ ?_ ?_ ?_ ?_ ?_ ?_ ?_ ?_ ?_ ?_ ?_ ?_ ?_ ?_ ?_ ?_ ?_ ?_ ?_ ?_ ?_ ?_ ?_ ?_ ?_ ?_ ?_ ?_ ?_ ?_ ?_ ?_ ?_ ?_ ?_ ?_ ?_ ?_ ?_ ?_ ?_ ?_ ?_ ?_ ?_ ?_ ?_ ?_ ?_ ?_ ?_ ?_ ?_ ?_ ?_ ?_ ?_ ?_ ?_ ?_ ?_ ?_ ?_ ?_ ?_ ?_ ?_ ?_ ?_ ?_ ?_;any_goals first|(refine' My.aRT ?a0 ?l0;(case a0=>unfold My.aQ;k_is);(case l0=>unfold My.BZ;refine' ⟨?_,?_,?_⟩ <;> k_is))|(refine' My.XQ ?l0;(case l0=>unfold My.BZ;refine' ⟨?_,?_,?_⟩ <;> k_is))|k_is|(unfold My.aQ;k_is)|(unfold My.BZ;refine' ⟨?_,?_,?_⟩ <;> k_is)|exact rfl|kernel_rfl
 case hN0=>exact rfl
 case hY0=>exact λw h Y t ht=>PySem.W.km_tabs_of Y t (by revert t;decide)
 case hK0=>intro w;exact(by kernel_rfl)
