import PyProof.Rows.All
import Wide.All
import OpenK.AllK
import Wide.FinOn
import Lean
import PyProof.EqAt
import PyProof.EqKinds
import PyProof.NeKinds
import PyProof.TupleCall
import KE.KDictSum
import KE.KSortTup
import KE.KLam
import KE.KNestM
import PyProof.DictItems
import PyProof.DictValues
import PyProof.Rows.TupDisplay
import PySem.Challenge.RW_stintwise_k74_gaps_are_nought_where_they
set_option Elab.async false
set_option linter.all false
set_option maxRecDepth 100000
set_option compiler.extract_closed false
set_option genSizeOf false
structure PySem.W.Fast:Prop where(tw4675430585325954727 tw2966444710580377090 tw11555130352962275196 tw6185802226331322807 tw12617728115751697575 tw14050943537611852954 tw11175448555244572786 tw13585649143240323256 tw12933822945481292364 tw3386764814036934251 tw4551384599801750568 tw10142118182926783534 tw2725464875274616480 tw10175623461954755485 tw10228151873930766969 tw7972997811281395286 tw6832852904029052487 tw4273091365039809677 tw10584721763146616836 tw709570483508720557 tw17207486854895125456 tw14625504633291358778 tw16540640146630475695 tw10522906062254205046 tw17689151121353232733 tw7480818444544817768 tw8989244891784328092 tw8392825742135021104 tw3131470145916064897 tw4357168864446192043 tw16906733602185460491 tw773231224869393304 tw18266077208805969131 tw6877239225541020804 tw17638639469530823300 tw8354372282433007541 tw13027275300949010199 tw7210868161626275996 tw12145763480394060990 tw11709409963102106103 tw10654064166373528200 tw10723008436481745352 tw16869836717742441954 tw10814026393006585305 tw11304597882414963142 tw6214301872984377020 tw7745319855089044593 tw18124288831089251857 tw18247381512442006992 tw11090293492859180178 tw5215399017577067585 tw18199515708566720505 tw14324187049898900291 tw14082801750175490743 tw7993408057862364955 tw5309275121070275937 tw2056701773784045643 tw16984548569012589203 tw9078251792001113215 tw16307038480616121923 tw17502730647194900627 tw8697963836908952491 tw16292843608454534903 tw3486282362302402660 tw957729207121778146 tw1833332936963916537 tw15528624902829818728 tw14178004325013283442 tw9908531059210293535 tw6535987896882507470 tw8080315660759981793 tw9962375777298663683 tw17152067517917384102 tw9044161877808389714 tw15058415657986744868 tw3333710528427066747 tw2092588289766440664 tw7123523320296058100 tw9669800489263955676 tw4235005769777648895 tw3216680123454679785 tw7730541300383481239 tw4683313040475146378 tw7170800362353742405 tw2433653740907534735 tw4394676576036198569 tw1842804759129258932 tw1341594291527092497 tw1728010727104225113 tw8762504261148918664 tw7147231990942554066 tw11827247355067197942 tw2613457756119903607 tw14879118413298020417 tw14951378325338504604 tw18367005752413249827 tw5740403158838685405 tw6935281148820616674 tw4567708328862305996 tw3374105347524201892 tw4807486663376939209 tw11775020941953233667 tw15996775666963089635 tw15569539865224424333 tw12930312122715070517 tw2359538579966226355 tw15817202517538720423 tw17030341642204182660 tw4142994285904053597 tw746671129945052980 tw11982065325181921431 tw11159989445514405706 tw759165171612306054 tw2467797141080569248 tw13866439512746550942 tw5964949875987977876 tw10049027617348707370 tw15370487967072391399 tw8263198957711386993 tw11835845989283188711 tw10813553071796323743 tw5931321846898894385 tw17573661290817671497 tw11871601360812594845 tw11550093892948758262 tw1977612207311202661 tw7286038029727401801 tw13265113535766348398 tw18424391786936637112 tw15436761976726624 tw7113744322447732615 tw12254616207197239055 tw12318269982258459541 tw13986038005765882546 tw649520024207350918 tw13736895749677095817 tw15332751285644319957 tw9093088284351316352 tw7881421618841478528 tw13161759870561289347 tw12666770498432133450 tw10426920389058819745 tw7926109990573822006 tw11956305003888422437 tw12580405396181988544 tw5368749202802119712 tw8604550762306066620 tw15973866497843836029 tw11340655003394165663 tw4258190050859896249 tw1072233563592110010 tw5915313723509399252 tw14586071805379450650 tw12403914387541826029 tw183157440439399615 tw2725079626620329552 tw15978642710458481926 tw12162095050233670789 tw16221678098881248683 tw3422345797291521131 tw1701170480369943381 tw18100722232090601430 tw16457588272954138725 tw13697698932165712374 tw18026181361612061535 tw2370945710425701059 tw11370572653119075661 tw9400923905745852033 tw4294339457508048049 tw8855489861542860321 tw13814455057605786590 tw14442283384058417428 tw3162062620375941255 tw12733594090968623948 tw17866535725646199697 tw15419305615126429766 tw2238634353691143998 tw14371997766053251814 tw15470125214881693249 tw616282308988841825 tw13308237143343694461 tw1697022705127439604 tw8174529617409433698 tw7713492375950810737 tw6971013900462676304 tw15881660456610446251 tw1320298758778742854 tw16284903141554887373 tw7784580472552614664 tw16587494197820520594 tw2284068981796247501 tw15796747091828783125 tw13758621924876431797 tw3444570253239819148 tw4983114564696097599 tw5858477373469016217 tw17903303557950846526 tw3806335511979302797 tw16282268888501434320 tw14705100125173828290 tw4653797973405404605 tw4605388158132540032 tw12223527568009275096 tw2616293608996953662 tw3804060147839303242 tw9121735657041047235 tw14853707623193342347 tw2265939416388084492 tw7021609510831391551 tw3271547160525593988 tw9143324781523433806 tw13476957247282756819 tw10077108497150746247 tw8685311736886818105 tw11929538695687101548 tw10516204232624054199 tw15843217802043169859 tw11856004508172015662 tw12438139183360509669 tw10130031148259945356 tw16091891142435938714 tw9833918671861220626 tw14815340158741881430 tw11011429031544941941 tw3480683835638457389 tw13263100670327043511 tw10860374814375421637 tw9258594058171685185 tw696261420760938650 tw16786730313167250042 tw4776636582070251254 tw17863500092243558486 tw1939385442561381886 tw2469306000203552898 tw3622071951482163061 tw853837306591139045 tw2145433889090832207 tw1911260281338588767 tw17943372093277417346 tw1530053749333889331 tw4970411833336063726 tw5452294592492324454 tw3894908346588533943 tw15777685163082156713 tw981012219708841084 tw14684169629138844575 tw9581955479408342047 tw11715657493929452315 tw5186725759090805906 tw1422373607454523758 tw13117540471000809585 tw6914929867543584727 tw16690886090254716990 tw3373093181248169134 tw11125608704463170078 tw2051099168773246613 tw12664931354196005393 tw7830296960550906290 tw12659586275348598079 tw11992796163073871610 tw4850738020351562135 tw18129328766062056894 tw11125798961298946950 tw15120089197335052751 tw4883373376015160068 tw4335354362498838955 tw1763867646325933442 tw3882925639130434039 tw15207728436103363140 tw1392259689523667115 tw1315801620971022914 tw979922606030858980 tw16716524143273303062 tw14593035238537797469 tw12860540213070720513 tw9698694530746975702 tw451994328377507799 tw18137354746973450362 tw11046107460580317430 tw12193977777638052258 tw3603153221228135785 tw1024599149537400901 tw4038266568364861067 tw7893321416943027766 tw18192840949104044339 tw17512650138557290120 tw15177068861101680865 tw11127804841515323229 tw18355716543339986697 tw17595663052874706892 tw14605009245750445970 tw8580712306098943485 tw8492358501751581775 tw10451685937141706901 tw3611962546997907784 tw291687974896705076 tw16974809532258299200 tw15011354088461651354 tw17409166738777654679 tw11137267932416305646 tw4645532191274100642 tw3464862007350101236 tw13613601746385089025 tw13527392061122681083 tw8027501155359942256 tw7854344621153609121 tw14303079075738307816 tw4431343143990794407 tw16550177984735399885 tw1515344747102120971 tw10128756309441512432 tw7634931747841692870 tw14863571647313991929 tw14162533017922868523 tw898394301544823587 tw7033155958629301403 tw4452474853566342681 tw2145907678239555401 tw959841706868363180 tw8627297501093005190 tw5630714244838553743 tw11997535433804978651 tw9712235858324524529 tw8765781735854122681 tw15101990987471115117 tw10978350517744995038 tw9097476638244322115 tw8549054225045734158 tw6273364580237032258 tw3149591061246621576 tw16609883591966813218 tw13823277858358493364 tw15342215411501972033 tw9091972692789820052 tw7658474590764938403 tw406370593162425234 tw13802001838677297860 tw13791034616524443561 tw1007507584797615212:True)
set_option maxHeartbeats 0
def bH:=@List.length_map
def dM:=@List.getElem?_eq_getElem
def bN:=@PySem.wpAny_bind
def fL:=@PySem.Heap.get?_push_of_some
def iZ:=@List.getElem?_eq_some_iff
def iR:=@List.length_append
def jW:=@List.mem_of_getElem?
def gR:=@List.map_append
def jT:=@List.size_toArray
def dY:=@PySem.wpAny_pure
def eO:=@Nat.le_refl
def nE:=@List.getElem?_map
def qP:=@PySem.Heap.get?_push_size
def iM:=@PySem.Heap.lt_size
def rQ:=@Nat.lt_of_lt_of_le
def xS:=@List.mem_cons_of_mem
def cD:=@if_neg
def rf:=@List.getD_eq_getElem?_getD
def lR:=@List.mem_cons
def oi:=@Option.map_eq_some_iff
def cT:=@if_pos
def qf:=@List.length_singleton
def ng:=@List.mem_singleton
def vf:=@List.getElem?_append_left
def vo:=@List.getElem?_append_right
def oh:=@Bool.false_ne_true
def mv:=@List.length_cons
def qQ:=@List.mem_map
def mq:=@List.take_length
def rR:=@Nat.ne_of_lt
def qz:=@List.mem_cons_self
def og:=@List.length_take
def oa:=@List.mem_append
def ua:=@of_decide_eq_true
def jz:=@List.map_cons
def wa:=@List.mem_append_right
def zb:=@List.drop_eq_getElem_cons
def za:=@List.take_of_length_le
def uu:=@List.getElem_mem
def wq:=@Array.length_toList
def ye:=@List.getElem?_of_mem
def ve:=@List.lookup_cons
def vd:=@List.not_mem_nil
def wo:=@PySem.wpAny_newObj_type
def ur:=@decide_eq_true
def vb:=@PySem.Heap.size_push
def yd:=@Int.toNat_natCast
def qw:=@Nat.zero_le
def yc:=@Bool.and_eq_true
def C5:=@List.mem_of_find?_eq_some
def vn:=@Nat.lt_irrefl
def yz:=@PySem.wpAny_call_entry
def yb:=@decide_eq_false
def ya:=@List.nodup_cons
def vm:=@Nat.le_trans
def uo:=@Int.le_refl
def C3:=@List.getElem?_zipWith
def yy:=@List.drop_zero
def xy:=@List.sum_cons
def wm:=@List.map_map
def BM:=@PySem.wpAny_setField_rec
def wk:=@Int.zero_add
def As:=@List.find?_cons
def CZ:=@List.filterMap_cons
def CY:=@List.length_zipWith
def BK:=@List.take_add_one
def D9:=@List.mem_append_left
def yx:=@Nat.ne_of_gt
def yw:=@Nat.sub_self
def vz:=@PySem.wpAny_mono
def xx:=@PySem.sizeLine_eq
def Bj:=@List.mem_range
def BI:=@List.append_nil
def F8:=@List.getElem?_eq_none
def Ms:=@PySem.wpAny_typeNameOfWhole_itemiter
def zu:=@Int.add_zero
def D8:=@Bool.false_eq_true
def D7:=@Nat.lt_succ_of_lt
def D6:=@List.pairwise_map
def F7:=@List.replicate_succ
def F6:=@List.length_pos_iff
def BH:=@PySem.wpAny_holding
def Ib:=@PySem.Heap.get?_update_self
def Bi:=@Int.mul_zero
def CV:=@Bool.false_and
def Mn:=@PySem.wpAny_typeNameOf_itemiter
def D5:=@List.mem_filter
def F5:=@PySem.wpAny_dictEntries
def BG:=@Int.le_trans
def CU:=@Bool.true_and
def F4:=@Nat.lt_succ_self
def F3:=@List.length_drop
def F2:=@List.all_eq_true
def F1:=@List.any_eq_true
def D4:=@Int.mul_nonneg
def Ia:=@Int.emod_lt_of_pos
def CT:=@Nat.le_of_lt
def CQ:=@List.map_nil
def F0:=@PySem.wpAny_dictEpoch
def HZ:=@List.append_assoc
def Mm:=@List.getElem_toArray
def Rj:=@Array.getElem?_eq_getElem
def HY:=@List.drop_length
def Ml:=@List.getElem?_range
def Mj:=@List.length_reverse
def CP:=@Int.mul_sub
def D3:=@Nat.min_self
def Ri:=@List.getElem?_replicate
def HX:=@List.length_set
def FZ:=@PySem.wpAny_attempt
def HW:=@Int.emod_nonneg
def Rh:=@Int.eq_ofNat_of_zero_le
def HV:=@List.sum_append
def HU:=@List.find?_some
def Rg:=@PySem.Heap.get?_update_other
def Rf:=@List.drop_of_length_le
def Rb:=@List.zipWith_nil_right
def D2:=@Int.mul_one
def Mh:=@List.flatten_cons
def Mg:=@List.length_range
def Mf:=@PySem.Heap.get?_push_ne
def HS:=@PySem.wpAny_setField
def Ra:=@Array.getElem?_toList
def Me:=@PySem.Heap.size_update
def Md:=@List.of_mem_zip
def Q9:=@List.length_nil
def FY:=@Int.mul_add
def HR:=@Nat.le_of_eq
def HQ:=@Nat.lt_trans
def HP:=@Nat.sub_zero
def HN:=@Nat.zero_add
abbrev au:=List (PySem.Addr×PySem.Obj)
abbrev ak:=List (Int×Int)
abbrev cn:=List (List Int)
abbrev aj:=List PySem.Value
abbrev ae:=List Int
abbrev ah:=List PySem.Str
abbrev ay:=List PySem.Addr
abbrev aw:=Option PySem.Value
abbrev ar:=PySem.Value->PySem.Shared->Prop
abbrev ao:=Int×Int
namespace L2
open PySem PySem.Spec PyProof.Rows
abbrev Key:=Sum Int Str
def FN:Key->Value->Bool
 |.inl k,v=>Value.isInt k v
 |.inr x,v=>Value.isStrOf x v
def aSv(w:World):Key->Int
 |.inl k=>hashInt k
 |.inr x=>hashStr w x
theorem eV:∀{k:Key}{v:Value},FN k v=true->(∃i t,k=Sum.inl i/\v=Value.int i t)\/(∃x t,k=Sum.inr x/\v=Value.str x t)
 |.inl i,v,h=>by
  obtain⟨t,e⟩:=Value.isInt_shape (k:=i) (v:=v) h;exact .inl ⟨i,t,rfl,e⟩
 |.inr x,v,h=>by
  obtain⟨t,e⟩:=Value.isStrOf_shape (x:=x) (v:=v) h;exact .inr ⟨x,t,rfl,e⟩
theorem aKL(i:Int)(t:Tok):FN (.inl i) (.int i t)=true:=by simp[FN,Value.isInt]
theorem aKM(x:Str)(t:Tok):FN (.inr x) (.str x t)=true:=by simp[FN,Value.isStrOf]
theorem aPC(a b:Int):decide ((Sum.inl a:Key)=Sum.inl b)=(a == b):=by
 by_cases e:a=b
 ·subst e;simp
 ·have h:¬(Sum.inl a:Key)=Sum.inl b:=λq=>e (Sum.inl.inj q);rw[yb h];exact(beq_eq_false_iff_ne.mpr e).symm
theorem aPD(a b:Str):decide ((Sum.inr a:Key)=Sum.inr b)=decide (a=b):=by
 by_cases e:a=b
 ·subst e;simp
 ·have h:¬(Sum.inr a:Key)=Sum.inr b:=λq=>e (Sum.inr.inj q);rw[yb h,yb e]
theorem aPE(a:Int)(b:Str):decide ((Sum.inl a:Key)=Sum.inr b)=false:=yb (λq=>nomatch q)
theorem aPF(a:Str)(b:Int):decide ((Sum.inr a:Key)=Sum.inl b)=false:=yb (λq=>nomatch q)
def eW(prog:Program)(w:World):PySem.KeyKind prog w Key where
 is:=FN
 hash:=aSv w
 inj:=λv a b ha hb=>by
  rcases eV ha with ⟨i,t,rfl,rfl⟩|⟨x,t,rfl,rfl⟩
  ·rcases eV hb with ⟨j,u,rfl,e⟩|⟨y,u,rfl,e⟩
   ·injection e with e1 _;rw[e1]
   ·exact nomatch e
  ·rcases eV hb with ⟨j,u,rfl,e⟩|⟨y,u,rfl,e⟩
   ·exact nomatch e
   ·injection e with e1 _;rw[e1]
 byValue:=λk v h=>by
  rcases eV h with ⟨i,t,rfl,rfl⟩|⟨x,t,rfl,rfl⟩ <;> rfl
 pyHash:=λhv h=>by
  rcases eV hv with ⟨i,t,rfl,rfl⟩|⟨x,t,rfl,rfl⟩
  ·exact wpAny_pyHash_int h
  ·exact wpAny_pyHash_str h
 eqBool:=λhu hv h=>by
  rcases eV hu with ⟨i,t,rfl,rfl⟩|⟨x,t,rfl,rfl⟩
  ·rcases eV hv with ⟨j,u,rfl,rfl⟩|⟨y,u,rfl,rfl⟩
   ·rw[aPC] at h;exact wpAny_eqBool_int h
   ·rw[aPE] at h;exact SeqAt.EqAt.int_str i t y u _ _ _ _ h
  ·rcases eV hv with ⟨j,u,rfl,rfl⟩|⟨y,u,rfl,rfl⟩
   ·rw[aPF] at h;exact SeqAt.EqAt.str_int x t j u _ _ _ _ h
   ·rw[aPD] at h;exact wpAny_eqBool_str h
 «strs»:=λk x t v h=>by
  rcases eV h with ⟨i,u,rfl,e⟩|⟨y,u,rfl,e⟩
  ·exact nomatch e
  ·injection e with e1 _
   subst e1;cases v <;> rfl
theorem aHD(prog:Program)(w:World)(i:Int)(t:Tok):(eW prog w).is (.inl i) (.int i t)=true:=aKL i t
theorem aHE(prog:Program)(w:World)(x:Str)(t:Tok):(eW prog w).is (.inr x) (.str x t)=true:=aKM x t
inductive V where
 |bw|bl (b:Bool)|int (i:Int)|str (x:Str)|Fu (b:Array UInt8)|qo (b:UInt64)|ref (a:Addr)|ty (n:String)
 deriving DecidableEq
def RelV:V->Value->Prop
 |.bw,u=>u=Value.none
 |.bl b,u=>u=Value.bool b
 |.int i,u=>∃t,u=Value.int i t
 |.str x,u=>∃t,u=Value.str x t
 |.Fu b,u=>∃t,u=Value.bytes b t
 |.qo b,u=>∃t,u=Value.float b t
 |.ref a,u=>u=Value.ref a
 |.ty n,u=>u=Value.type n
abbrev Vals:List V->aj->Prop:=Paired RelV
theorem Vals.length{xs:List V}{us:aj}(r:Vals xs us):xs.length=us.length:=Paired.length r
theorem Vals.get:∀{xs:List V}{us:aj}{i:Nat}{x:V},Vals xs us->xs[i]?=some x->∃u,us[i]?=some u/\RelV x u
 |_,_,_,_,.nil,e=>by simp at e
 |_,_,0,_,.cons r _,e=>by simp at e;subst e;exact⟨_,rfl,r⟩
 |_,_,i+1,x,.cons _ t,e=>by
  obtain⟨u,h1,h2⟩:=Vals.get (i:=i) (x:=x) t (by simpa using e);exact⟨u,by simpa using h1,h2⟩
theorem Vals.set(r:RelV x u):∀{xs:List V}{us:aj}(i:Nat),Vals xs us->Vals (xs.set i x) (us.set i u)
 |_,_,_,.nil=>.nil
 |_,_,0,.cons _ t=>.cons r t
 |_,_,i+1,.cons q t=>.cons q (Vals.set r i t)
theorem Vals.append:∀{xs ys:List V}{us ws:aj},Vals xs us->Vals ys ws->Vals (xs++ys) (us++ws)
 |_,_,_,_,.nil,s=>s
 |_,_,_,_,.cons r t,s=>.cons r (Vals.append t s)
theorem Vals.take:∀{xs:List V}{us:aj}(n:Nat),Vals xs us->Vals (xs.take n) (us.take n)
 |_,_,0,_=>.nil
 |_,_,_+1,.nil=>.nil
 |_,_,n+1,.cons r t=>.cons r (Vals.take n t)
theorem Vals.drop:∀{xs:List V}{us:aj}(n:Nat),Vals xs us->Vals (xs.drop n) (us.drop n)
 |_,_,0,r=>r
 |_,_,_+1,.nil=>.nil
 |_,_,n+1,.cons _ t=>Vals.drop n t
def uJ:Option V->aw->Prop
 |some v,some u=>RelV v u
 |none,none=>True
 |_,_=>False
def KV{κ:Type}:List (κ×V)->List (κ×Value)->Prop:=Paired λ(p:κ×V) (q:κ×Value)=>p.1=q.1/\RelV p.2 q.2
def kV:Key->V
 |.inl i=>.int i
 |.inr x=>.str x
inductive HO where
 |lst (xs:List V)
 |tup (xs:List V)
 |dK (kvs:List (Key×V))|dT (kvs:List (List Key×V))
 |set (S:Int->Bool) (n:Nat)
 |ins (C dx:Addr) (fs:List (Str×V))
 |own (x:Addr)
 |xd (fs:List (Str×V))
 |met (f x:Addr)
 |AV (lo hi:Int)
 |mj (o:Obj) (u:HO)
 |Ca (ps:Array Value)
 |ext (φ:Heap->Prop)
 |zp (q:Str)|jy (pos:Pos) (q:Str)
def Sty:HO->Prop
 |.tup _=>True
 |.zp _=>True
 |_=>False
abbrev Hp:=Addr->Option HO
def upd(H:Hp)(a:Addr)(o:HO):Hp:=λb=>if b=a then some o else H b
theorem aP:upd H a o a=some o:=by unfold upd;rw[cT rfl]
theorem bA{H:Hp}(h:b≠a):upd H a o b=H b:=by unfold upd;rw[cD h]
theorem i8:upd (upd H a o) a u=upd H a u:=by
 funext b;unfold upd;split <;> rfl
theorem YQ{H:Hp}{a b:Addr}{o u:HO}(h:H a=some o)(h':H b=some u)(d:o≠u):a≠b:=by
 intro e;subst e;rw[h] at h';exact d (Option.some.inj h')
theorem bU{H:Hp}{a b:Addr}{o:HO}(h:H a=some o)(h':H b=none):a≠b:=by
 intro e;subst e;rw[h] at h';cases h'
section
variable(P:Program)(w:World)
def cR(H:Hp)(h:Heap)(a:Addr):HO->Prop
 |.lst xs=>xs.length<=sizeLine/\∃(az:aj) (n:Nat),Vals xs az/\h.get? a=some { cls:=.type "list",data:=.seq az.toArray n }
 |.tup xs=>xs.length<=sizeLine/\∃az:aj,Vals xs az/\IsTup h a az.toArray
 |.dK kvs=>kvs.length<=sizeLine/\(a == sysModules)=false/\∃vs,KV kvs vs/\h.DictOf (eW P w) a vs
 |.dT kvs=>kvs.length<=sizeLine/\(a == sysModules)=false/\∃xs:List (List Key×Addr×Value),
   Paired (λ(p:List Key×V) (q:List Key×Addr×Value)=>p.1=q.1/\H q.2.1=some (.tup (p.1.map kV))/\RelV p.2 q.2.2) kvs xs/\
   ∃o es ep,h.get? a=some o/\o.ExactDict/\o.data=.dict es ep/\es.toList=xs.map (entryOfKey (tupleKind (eW P w)))/\(xs.map (·.1)).Nodup
 |.set S n=>h.SetOf (intKind P w) a S n
 |.ins C dx fs=>H dx=some (.own a)/\fs.length<=1000/\dx≠a/\h.get? a=some (PySem.W.instObj C dx)/\
   ∃mA,h.Ns1 dx mA/\(∀f,uJ (fs.lookup f) (mA f))/\PySem.Within mA (fs.map (·.1))
 |.own _=>∃o,h.get? a=some o
 |.xd fs=>∃mA,h.Ns1 a mA/\∀f,uJ (fs.lookup f) (mA f)
 |.AV lo hi=>∃t u v,h.get? a=some { cls:=.type "range",data:=.fields #[.int lo t,.int hi u,.int 1 v] }
 |.mj o u=>h.get? a=some o/\cR H h a u
 |.Ca ps=>h.get? a=some { cls:=.none,data:=.fields ps }
 |.met f x=>h.get? a=some (PySem.W.methodObj (.ref f) (.ref x))
 |.ext φ=>φ h/\(∃o,h.get? a=some o)/\∀h1 h2:Heap,φ h1->(∀o,h1.get? a=some o->h2.get? a=some o)->φ h2
 |.zp q=>∃o vs t,h.get? a=some o/\o.data=.fields vs/\vs[1]?=some (.str q t)
 |.jy pos q=>∃ps:Array Value,h.get? a=some { cls:=.none,data:=.fields ps }/\TriplesOk ps.toList/\(codeAmong pos ps.toList=none\/∃c,codeAmong pos ps.toList=some (.ref c)/\H c=some (.zp q))
def uK(H:Hp)(h:Heap):Prop:=∀a o,H a=some o->cR P w H h a o
end
section
variable{P:Program}{w:World}{H H':Hp}{h h':Heap}{a:Addr}{o:HO}
theorem cR.lt(x:cR P w H h a o):a < h.objs.size:=by
 cases o with
 |lst xs=>obtain⟨_,_,_,_,e⟩:=x;exact iM e
 |tup xs=>obtain⟨_,_,_,p⟩:=x;exact p.lt
 |dK kvs=>obtain⟨_,_,_,_,o,_,_,e,_⟩:=x;exact iM e
 |dT kvs=>obtain⟨_,_,_,_,o,_,_,e,_⟩:=x;exact iM e
 |set S n=>obtain⟨o,_,_,_,e,_⟩:=x;exact iM e
 |ins C dx fs=>obtain⟨_,_,_,e,_⟩:=x;exact iM e
 |own y=>obtain⟨_,e⟩:=x;exact iM e
 |xd fs=>obtain⟨_,⟨_,_,_,e,_⟩,_⟩:=x;exact iM e
 |AV lo hi=>obtain⟨_,_,_,e⟩:=x;exact iM e
 |mj ob u=>obtain⟨e,_⟩:=x;exact iM e
 |Ca ps=>exact iM (show h.get? a=some _ from x)
 |met f y=>exact iM (show h.get? a=some _ from x)
 |ext φ=>obtain⟨_,⟨_,e⟩,_⟩:=x;exact iM e
 |zp q=>obtain⟨_,_,_,e,_⟩:=x;exact iM e
 |jy pos q=>obtain⟨_,e,_⟩:=x;exact iM e
theorem Paired.O4{α β:Type}{F G:α->β->Prop}:∀{IB:List α}{IA:List β},Paired F IB IA->(∀a b,F a b->G a b)->Paired G IB IA
 |_,_,.nil,_=>.nil
 |_,_,.cons r t,f=>.cons (f _ _ r) (Paired.O4 t f)
theorem cR.zt(x:cR P w H h a o)(k:∀b u,(b=a\/H b=some (.own a))->h.get? b=some u->h'.get? b=some u)
  (ho:∀b,H b=some (.own a)->H' b=some (.own a)) (ht:∀b u,Sty u->H b=some u->H' b=some u):cR P w H' h' a o:=by
 induction o with
 |lst xs=>obtain⟨z,az,n,r,e⟩:=x;exact⟨z,az,n,r,k _ _ (.inl rfl) e⟩
 |tup xs=>obtain⟨z,az,r,ob,e,c⟩:=x;exact⟨z,az,r,ob,k _ _ (.inl rfl) e,c⟩
 |dK kvs=>obtain⟨z,y,vs,r,ob,es,ep,e,c⟩:=x;exact⟨z,y,vs,r,ob,es,ep,k _ _ (.inl rfl) e,c⟩
 |dT kvs=>
  obtain⟨z,y,xs,r,ob,es,ep,e,c⟩:=x;exact⟨z,y,xs,Paired.O4 r λp q z=>⟨z.1,ht _ _ trivial z.2.1,z.2.2⟩,ob,es,ep,k _ _ (.inl rfl) e,c⟩
 |set S n=>obtain⟨ob,es,ep,t,e,c⟩:=x;exact⟨ob,es,ep,t,k _ _ (.inl rfl) e,c⟩
 |ins C dx fs=>
  obtain⟨d,z,ne,e,mA,⟨od,es,ep,e2,c⟩,r⟩:=x;exact⟨ho _ d,z,ne,k _ _ (.inl rfl) e,mA,⟨od,es,ep,k _ _ (.inr d) e2,c⟩,r⟩
 |own y=>obtain⟨ob,e⟩:=x;exact⟨ob,k _ _ (.inl rfl) e⟩
 |xd fs=>obtain⟨mA,⟨od,es,ep,e,c⟩,r⟩:=x;exact⟨mA,⟨od,es,ep,k _ _ (.inl rfl) e,c⟩,r⟩
 |AV lo hi=>obtain⟨t,u,v,e⟩:=x;exact⟨t,u,v,k _ _ (.inl rfl) e⟩
 |mj ob u ih=>obtain⟨e,q⟩:=x;exact⟨k _ _ (.inl rfl) e,ih q⟩
 |Ca ps=>
  have e:h.get? a=some { cls:=.none,data:=.fields ps }:=x;show h'.get? a=some { cls:=.none,data:=.fields ps };exact k a _ (.inl rfl) e
 |met f y=>
  have e:h.get? a=some (PySem.W.methodObj (.ref f) (.ref y)):=x;show h'.get? a=some (PySem.W.methodObj (.ref f) (.ref y));exact k a _ (.inl rfl) e
 |ext φ=>obtain⟨p,⟨o,e⟩,st⟩:=x;exact⟨st _ _ p λo q=>k _ _ (.inl rfl) q,⟨o,k _ _ (.inl rfl) e⟩,st⟩
 |zp q=>obtain⟨o,vs,t,e,r⟩:=x;exact⟨o,vs,t,k _ _ (.inl rfl) e,r⟩
 |jy pos q=>
  obtain⟨ps,e,t,c⟩:=x;refine⟨ps,k _ _ (.inl rfl) e,t,?_⟩;rcases c with c|⟨c,e1,e2⟩
  ·exact .inl c
  ·exact .inr ⟨c,e1,ht _ _ trivial e2⟩
theorem uK.lt(x:uK P w H h)(e:H a=some o):a < h.objs.size:=(x a o e).lt
theorem uK.fresh(x:uK P w H h)(e:h.objs.size<=a):H a=none:=by
 cases q:H a with
 |none=>rfl
 |some u=>exact absurd (rQ (x.lt q) e) (vn _)
theorem uK.kept(x:uK P w H h)(k:∀b u,h.get? b=some u->h'.get? b=some u):uK P w H h':=λa o e=>
 (x a o e).zt (λb u _ q=>k b u q) (λ_ q=>q) λ_ _ _ q=>q
theorem uK.laid(x:uK P w H h)(k:∀b u,h.get? b=some u->h'.get? b=some u)(hp:h.objs.size<=a)(new:cR P w (upd H a o) h' a o):uK P w (upd H a o) h':=λb u e=>by
 have hn:=x.fresh hp;by_cases hb:b=a
 ·subst hb;rw[aP] at e;cases e;exact new
 ·rw[bA hb] at e;exact(x b u e).zt (λc v _ q=>k c v q) (λc q=>by rw[bA (bU q hn)];exact q) λc xs _ q=>by rw[bA (bU q hn)];exact q
end
def Rd(H:Hp)(a:Addr)(u:HO):Prop:=H a=some u\/∃o,H a=some (.mj o u)
theorem Rd.of(h:H a=some u):Rd H a u:=.inl h
theorem Rd.ok(r:Rd H a u)(x:uK P w H h):cR P w H h a u:=by
 rcases r with r|⟨o,r⟩
 ·exact x a u r
 ·obtain⟨_,q⟩:=x a _ r;exact q
def Ih:Option HO->Prop
 |some (.lst _)=>True
 |some (.dK _)=>True
 |some (.dT _)=>True
 |some (.set _ _)=>True
 |some (.ins _ _ _)=>True
 |some (.ext _)=>True
 |_=>False
section
variable{P:Program}{w:World}{H:Hp}{h h':Heap}{x e:Addr}{o':HO}
theorem uK.write(ok:uK P w H h)(mu:Ih (H x))(he:e=x\/H e=some (.own x))(k:∀b u,b≠e->h.get? b=some u->h'.get? b=some u)(E9:∃u,h'.get? e=some u)
  (new:cR P w (upd H x o') h' x o'):uK P w (upd H x o') h':=λb u q=>by
 have Iw:∀c y,H c=some (.own y)->c≠x:=λc y r z=>by subst z;rw[r] at mu;exact mu
 have FD:∀c u,Sty u->H c=some u->c≠x:=λc u y r z=>by
  subst z;rw[r] at mu;cases u <;> first|exact mu|exact y
 by_cases hb:b=x
 ·subst hb;rw[aP] at q;cases q;exact new
 ·rw[bA hb] at q;by_cases A6:b=e
  ·have q':H b=some (.own x):=by
    rcases he with z|z
    ·exact absurd (A6.trans z) hb
    ·rw[A6];exact z
   rw[q] at q';cases q';obtain⟨v,hv⟩:=E9;exact⟨v,by rw[A6];exact hv⟩
  ·refine(ok b u q).zt (λc v hc r=>k c v ?_ r) (λc r=>by rw[bA (Iw c b r)];exact r) λc xs y r=>by rw[bA (FD c xs y r)];exact r
   rcases hc with rfl|hc
   ·exact A6
   ·rintro rfl;rcases he with z|z
    ·exact Iw c b hc z
    ·rw[hc] at z;cases z;exact hb rfl
end
structure Un(fs ex:ay)(H H':Hp)(h h':Heap):Prop where
 keep:∀b o,h.get? b=some o->H b=none->b∉fs->b∉ex->h'.get? b=some o
 slot:∀b o,h.get? b=some o->H b=none->b∈fs->b∉ex->∃sl,h'.get? b=some { o with slots:=sl }
 free:∀b o,h.get? b=some o->H b=none->b∉ex->H' b=none
 there:∀b o,h.get? b=some o->b∉ex->∃o',h'.get? b=some o'
 uN:∀b xs,H b=some (.tup xs)->H' b=some (.tup xs)
 jc:∀b o u,H b=some (.mj o u)->H' b=some (.mj o u)
 ni:∀b ps,H b=some (.Ca ps)->∃more,H' b=some (.Ca (ps++more))
section
variable{fs fs' ex ex':ay}{H H1 H2:Hp}{h h1 h2 h':Heap}{a x e:Addr}{o:HO}
theorem Un.any(u:Un fs ex H H1 h h1)(q:h.get? b=some ob)(n:H b=none)(hx:b∉ex):∃sl,h1.get? b=some { ob with slots:=sl }:=by
 by_cases hb:b∈fs
 ·exact u.slot b ob q n hb hx
 ·exact⟨ob.slots,u.keep b ob q n hb hx⟩
theorem Un.trans(a:Un fs ex H H1 h h1)(b:Un fs ex H1 H2 h1 h2):Un fs ex H H2 h h2 where
 keep:=λc ob q n hc hx=>b.keep c ob (a.keep c ob q n hc hx) (a.free c ob q n hx) hc hx
 slot:=λc ob q n hc hx=>by
  obtain⟨sl,e1⟩:=a.slot c ob q n hc hx;obtain⟨MM,e2⟩:=b.slot c _ e1 (a.free c ob q n hx) hc hx;exact⟨MM,e2⟩
 free:=λc ob q n hx=>by
  obtain⟨o',e1⟩:=a.there c ob q hx;exact b.free c o' e1 (a.free c ob q n hx) hx
 there:=λc ob q hx=>by
  obtain⟨o',e1⟩:=a.there c ob q hx;exact b.there c o' e1 hx
 uN:=λc xs q=>b.uN c xs (a.uN c xs q)
 jc:=λc ob xs q=>b.jc c ob xs (a.jc c ob xs q)
 ni:=λc ps q=>by
  obtain⟨m1,e1⟩:=a.ni c ps q;obtain⟨m2,e2⟩:=b.ni c _ e1;exact⟨m1++m2,by rw[e2,Array.append_assoc]⟩
theorem Un.kept(k:∀b u,h.get? b=some u->h'.get? b=some u):Un fs ex H H h h':=
 ⟨λb ob q _ _ _=>k b ob q,λb ob q _ _ _=>⟨ob.slots,k b ob q⟩,λ_ _ _ n _=>n,λb ob q _=>⟨ob,k b ob q⟩,λ_ _ q=>q,λ_ _ _ q=>q,λ_ ps q=>⟨#[],by rw[q];simp⟩⟩
theorem Un.refl:Un fs ex H H h h:=Un.kept λ_ _ q=>q
theorem Un.laid(k:∀b u,h.get? b=some u->h'.get? b=some u)(hp:h.objs.size<=a)(hn:H a=none):Un fs ex H (upd H a o) h h' where
 keep:=λb u q _ _ _=>k b u q
 slot:=λb u q _ _ _=>⟨u.slots,k b u q⟩
 free:=λb u q n _=>by rw[bA (rR (rQ (iM q) hp))];exact n
 there:=λb u q _=>⟨u,k b u q⟩
 uN:=λb xs q=>by rw[bA (bU q hn)];exact q
 jc:=λb u xs q=>by rw[bA (bU q hn)];exact q
 ni:=λb ps q=>⟨#[],by rw[bA (bU q hn),q];simp⟩
theorem Un.write(mu:Ih (H x))(he:e=x\/H e=some (.own x))(k:∀b u,b≠e->h.get? b=some u->h'.get? b=some u)(E9:∃u,h'.get? e=some u):Un fs ex H (upd H x o) h h':=by
 have hx:∀b,H b=none->b≠x:=λb n z=>by subst z;rw[n] at mu;exact mu
 have hb:∀b,H b=none->b≠e:=λb n z=>by
  subst z;rcases he with r|r
  ·exact hx b n r
  ·rw[n] at r;cases r
 have hm:∀b u,H b=some u->¬Ih (some u)->b≠x:=λb u q nm z=>by subst z;rw[q] at mu;exact nm mu
 refine⟨λb u q n _ _=>k b u (hb b n) q,λb u q n _ _=>⟨u.slots,k b u (hb b n) q⟩,λb u q n _=>by rw[bA (hx b n)];exact n,λb u q _=>?_,
  λb xs q=>by rw[bA (hm b _ q λz=>z)];exact q,λb u xs q=>by rw[bA (hm b _ q λz=>z)];exact q,λb ps q=>⟨#[],by rw[bA (hm b _ q λz=>z),q];simp⟩⟩
 by_cases A6:b=e
 ·subst A6;exact E9
 ·exact⟨u,k b u A6 q⟩
end
def JZ(h:Heap)(H:Hp):ay:=(List.range h.objs.size).filter λa=>(H a).isSome
def xT(h:Heap)(H:Hp):Heap:=PySem.W.hideAll h (JZ h H)
theorem aFM(h:Heap)(H:Hp):(xT h H).objs.size=h.objs.size:=PySem.W.hideAll_size _ _
theorem aHF{h:Heap}(e:h.get? b=some o)(n:H b=none):(xT h H).get? b=some o:=
 PySem.W.hideAll_get _ e λhm=>by
  have q:(H b).isSome=true:=(D5.mp hm).2;rw[n] at q;simp at q
theorem ZO{h:Heap}{H:Hp}(e:(xT h H).get? b=some o):h.get? b=some o/\H b=none:=by
 have e':h.get? b=some o:=PySem.W.of_hideAll (JZ h H) e;refine⟨e',?_⟩;cases q:H b with
 |none=>rfl
 |some x=>
  have hm:b∈JZ h H:=D5.mpr ⟨Bj.mpr (iM e'),by simp[q]⟩;have z:(xT h H).get? b=none:=PySem.W.hideAll_none (JZ h H) hm;rw[z] at e;cases e
def aNI(g h:Heap)(L:Addr):au:=(List.range h.objs.size).filterMap λa=>if a=L\/(g.get? a).isSome=true then none else (h.get? a).map λo=>(a,o)
def rest(g h:Heap)(L d:Addr):au:=(aNI g h L).filter λp=>decide (p.1≠d)
structure Mod(K:W.Frag)(mg:Str->aw)(base:Heap):Prop where
 Dx:K.In base
 glob:base.Ns mainGlobals mg
 blt:∃mb,base.Ns builtinsNs mb/\∀x:Str,x≠"__name__"->mb x=bootBuiltins x
 nolimit:base.NoLimit
 bm:∃bm o,mg "__builtins__" = some (.ref bm)/\bm≠builtinsNs/\base.get? bm=some o/\o.cls=.type "module"/\o.dict=some builtinsNs/\o.data=.plain
structure Cx where
 prog:Program
 w:World
 K:W.Frag
 mg:Str->aw
 base:Heap
 A:Around
 N:ah
 dg:Shared
 zg:Hp
 env:Env
 outer:List Env
 stack:List Env
 ex:ay
 fn:Str->Bool
 calm:Bool
 pn:au
 xe:ar
def qc(l:List Env):ay:=l.filterMap (·.frame)
abbrev Cx.fs(X:Cx):ay:=qc X.outer
def D1(sc:Scope)(x:Str):Prop:=sc.names.lookup x=some .local\/sc.names.lookup x=some .cell\/sc.names.lookup x=some .free
def Loc(sc:Scope)(x:Str):Prop:=sc.names.lookup x=some .local\/sc.names.lookup x=some .cell
def Look(env:Env)(h:Heap)(m:Str->aw)(x:Str)(u:Value):Prop:=
 (env.kindOf x=some .local/\m x=some u)\/((env.kindOf x=some .cell\/env.kindOf x=some .free)/\∃c,env.cells.lookup x=some c/\h.IsCell c (some u))
structure Cx.Ok(X:Cx):Prop where
 mod:Mod X.K X.mg X.base
 kind:X.env.scope.kind=.function
 glob:X.env.globals=mainGlobals
 blt:X.env.builtins=builtinsNs
 above:X.dg.heap.objs.size<=X.env.locals
 inj:∀x y c,X.env.cells.lookup x=some c->X.env.cells.lookup y=some c->x=y
 has:∀x,(X.env.kindOf x=some .cell\/X.env.kindOf x=some .free)->∃c,X.env.cells.lookup x=some c
 CG:∀x c,X.fn x=true->X.env.cells.lookup x=some c->X.dg.heap.objs.size<=c
 hd:X.calm=true->X.A.handled=none
 frames:X.A.frames=some X.stack
 Cb:X.stack=X.outer\/(X.stack=X.env::X.outer/\X.env.frame=some X.env.locals)
 Lc:∀b∈X.ex,b≠X.env.locals/\∀x c,X.env.cells.lookup x=some c->c≠b
 bs:∀b o,X.base.get? b=some o->X.dg.heap.get? b=some o/\X.zg b=none
 Al:X.base.objs.size<=X.dg.heap.objs.size
 wz:∀b o,X.base.get? b=some o->b∉X.ex
 ze:∀b∈X.ex,b∉X.fs
 xU:X.dg.heap.FunFrames X.base X.outer
 Ba:∀b∈X.fs,X.zg b=none
structure Inv(X:Cx)(pins:au)(σ:List (Option V))(H:Hp)(s:Shared):Prop where
 ok:X.Ok
 os:s.os=X.dg.os
 bare:AllBare s.gens
 base:Un X.fs X.ex X.zg H X.dg.heap s.heap
 loc:∃m,s.heap.Ns X.env.locals m/\∀(i:Nat) (x:Str) (v:V),X.N[i]?=some x->σ[i]?=some (some v)->D1 X.env.scope x->∃u,RelV v u/\Look X.env s.heap m x u
 cell:∀x c,X.env.cells.lookup x=some c->∃v,s.heap.IsCell c v
 free:H X.env.locals=none
 fc:∀x c,X.env.cells.lookup x=some c->H c=none
 pin:∀p∈X.pn++pins,s.heap.get? p.1=some p.2/\H p.1=none/\p.1≠X.env.locals/\p.1∉X.fs/\∀v,p.2.data≠.cell v
 bf:uK X.prog X.w H s.heap
 len:σ.length=X.N.length
section
variable{X:Cx}{pins:au}{σ:List (Option V)}{H H':Hp}{s:Shared}{h':Heap}
theorem Cx.Ok.aSw(ok:X.Ok)(e:X.base.get? b=some o):b∉X.fs:=λhb=>by
 have:=(ok.xU.mem hb).1;rw[e] at this;cases this
theorem Inv.bs(I:Inv X pins σ H s):∀b o,X.base.get? b=some o->s.heap.get? b=some o/\H b=none:=λb o e=>
 ⟨I.base.keep b o (I.ok.bs b o e).1 (I.ok.bs b o e).2 (I.ok.aSw e) (I.ok.wz b o e),I.base.free b o (I.ok.bs b o e).1 (I.ok.bs b o e).2 (I.ok.wz b o e)⟩
theorem Inv.bk(I:Inv X pins σ H s):∀b o,X.base.get? b=some o->s.heap.get? b=some o:=λb o e=>(I.bs b o e).1
theorem Inv.mod(I:Inv X pins σ H s):Mod X.K X.mg X.base:=I.ok.mod
theorem Inv.mi(I:Inv X pins σ H s):X.K.In s.heap:=I.ok.mod.Dx.keeps I.bk
theorem Inv.lt(I:Inv X pins σ H s):X.env.locals < s.heap.objs.size:=let ⟨_,hn,_⟩:=I.loc;hn.lt
theorem Inv.sz(I:Inv X pins σ H s):X.dg.heap.objs.size<=s.heap.objs.size:=vm I.ok.above (CT I.lt)
theorem Inv.aSx(I:Inv X pins σ H s)(h:s.heap.objs.size<=a):a∉X.fs:=λhb=>by
 obtain⟨_,o,ho,_⟩:=I.ok.xU.mem hb;exact absurd (rQ (iM ho) (vm I.sz h)) (vn _)
theorem Inv.CF(I:Inv X pins σ H s):∀x c,X.env.cells.lookup x=some c->c≠X.env.locals:=λx c e z=>by
 obtain⟨v,o,ho,hd⟩:=I.cell x c e;obtain⟨m,⟨o',es,ep,Ai,Fb,_⟩,_⟩:=I.loc;rw[z,Ai] at ho;cases ho;rw[Fb] at hd;cases hd
theorem Inv.xU(I:Inv X pins σ H s):s.heap.FunFrames X.base X.outer:=by
 have all:∀(l:List Env),(∀b∈qc l,b∈X.fs)->X.dg.heap.FunFrames X.base l->s.heap.FunFrames X.base l:=by
  intro l;induction l with
  |nil=>intro _ _;trivial
  |cons env r ih=>
   intro hs hl;obtain⟨hk,⟨L,o,hf,hn,ho,hd⟩,hr⟩:=hl;have hL:L∈X.fs:=hs L (by unfold qc;rw[CZ,hf];exact qz);obtain⟨sl,e⟩:=I.base.slot L o ho (I.ok.Ba L hL) hL λz=>I.ok.ze L z hL;exact⟨hk,⟨L,_,hf,hn,e,hd⟩,ih (λb hb=>hs b (by unfold qc;rw[CZ,hf];exact xS _ hb)) hr⟩
 exact all X.outer (λ_ hb=>hb) I.ok.xU
theorem Inv.stack(I:Inv X pins σ H s):s.heap.FunFrames X.base X.stack:=by
 rcases I.ok.Cb with e|⟨e,hf⟩
 ·rw[e];exact I.xU
 ·rw[e];obtain⟨m,hn,_⟩:=I.loc;refine .cons (by rw[I.ok.kind];decide) hf hn ?_ I.xU;exact Heap.get?_none_of_le (vm I.ok.Al I.ok.above)
theorem Inv.HE(I:Inv X pins σ H s):∀b∈qc X.stack,b∈X.env.locals::X.fs:=λb hb=>by
 rcases I.ok.Cb with e|⟨e,hf⟩
 ·rw[e] at hb;exact xS _ hb
 ·rw[e] at hb;unfold qc at hb;rw[CZ,hf] at hb;exact hb
theorem Inv.LX(I:Inv X pins σ H s):∀b∈qc X.stack,H b=none:=λb hb=>by
 rcases lR.mp (I.HE b hb) with e|hb
 ·rw[e];exact I.free
 ·obtain⟨_,o,ho,_⟩:=I.ok.xU.mem hb;exact I.base.free b o ho (I.ok.Ba b hb) λz=>I.ok.ze b z hb
theorem Inv.step{g':Array GenState}{t':Nat}{d':Drawn}{ch:ay}(I:Inv X pins σ H s)
  (va:∀b∈ch,(b∈X.ex\/X.dg.heap.objs.size<=b)/\b≠X.env.locals/\(∀x c,X.env.cells.lookup x=some c->c≠b)/\∀p∈X.pn++pins,p.1≠b)
  (keep:∀b o,b≠X.env.locals->b∉X.fs->b∉ch->s.heap.get? b=some o->H b=none->h'.get? b=some o)
  (slot:∀b o,b≠X.env.locals->b∈X.fs->b∉ch->s.heap.get? b=some o->H b=none->∃sl,h'.get? b=some { o with slots:=sl }) (free:∀b o,b∉ch->s.heap.get? b=some o->H b=none->H' b=none)
  (there:∀b o,b∉ch->s.heap.get? b=some o->∃o',h'.get? b=some o')
  (uN:∀b xs,H b=some (.tup xs)->H' b=some (.tup xs)) (jc:∀b o u,H b=some (.mj o u)->H' b=some (.mj o u)) (ni:∀b ps,H b=some (.Ca ps)->∃more,H' b=some (.Ca (ps++more)))
  (ns:∀m,s.heap.Ns X.env.locals m->h'.Ns X.env.locals m) (bf:uK X.prog X.w H' h') (hg:AllBare g') :
  Inv X pins σ H' { s with heap:=h',gens:=g',drawn:=d',toks:=t' }:=by
 have VR:∀b o,X.dg.heap.get? b=some o->b≠X.env.locals:=λb o e=>rR (rQ (iM e) I.ok.above);have Kg:∀b o,X.dg.heap.get? b=some o->b∉X.ex->b∉ch:=λb o e hx hb=>by
  rcases(va b hb).1 with z|z
  ·exact hx z
  ·exact absurd (rQ (iM e) z) (vn _)
 have cellK:∀x c,X.env.cells.lookup x=some c->∀v,s.heap.IsCell c v->h'.IsCell c v:=λx c e v ⟨o,ho,hd⟩=>by
  have Gs:c∉ch:=λz=>(va c z).2.2.1 x c e rfl;by_cases hc:c∈X.fs
  ·obtain⟨sl,q⟩:=slot c o (I.CF x c e) hc Gs ho (I.fc x c e);exact⟨_,q,hd⟩
  ·exact⟨o,keep c o (I.CF x c e) hc Gs ho (I.fc x c e),hd⟩
 refine⟨I.ok,I.os,hg,⟨λb o e n hb hx=>?_,λb o e n hb hx=>?_,λb o e n hx=>?_,λb o e hx=>?_,λb xs e=>uN b xs (I.base.uN b xs e),λb o xs e=>jc b o xs (I.base.jc b o xs e),λb ps e=>?_⟩,?_,λx c e=>?_,?_,λx c e=>?_,λp hp=>?_,bf,I.len⟩
 ·exact keep b o (VR b o e) hb (Kg b o e hx) (I.base.keep b o e n hb hx) (I.base.free b o e n hx)
 ·obtain⟨sl,e1⟩:=I.base.slot b o e n hb hx;obtain⟨MM,e2⟩:=slot b _ (VR b o e) hb (Kg b o e hx) e1 (I.base.free b o e n hx);exact⟨MM,e2⟩
 ·obtain⟨o',e1⟩:=I.base.there b o e hx;exact free b o' (Kg b o e hx) e1 (I.base.free b o e n hx)
 ·obtain⟨o',e1⟩:=I.base.there b o e hx;exact there b o' (Kg b o e hx) e1
 ·obtain⟨m1,e1⟩:=I.base.ni b ps e;obtain⟨m2,e2⟩:=ni b _ e1;exact⟨m1++m2,by rw[e2,Array.append_assoc]⟩
 ·obtain⟨m,hn,hl⟩:=I.loc;refine⟨m,ns m hn,λi x v e1 e2 e3=>?_⟩;obtain⟨u,r,l⟩:=hl i x v e1 e2 e3;refine⟨u,r,?_⟩;rcases l with l|⟨k,c,e,z⟩
  ·exact .inl l
  ·exact .inr ⟨k,c,e,cellK x c e _ z⟩
 ·obtain⟨v,z⟩:=I.cell x c e;exact⟨v,cellK x c e v z⟩
 ·obtain⟨m,⟨o,_,_,ho,_⟩,_⟩:=I.loc;exact free _ o (λz=>(va _ z).2.1 rfl) ho I.free
 ·obtain⟨v,o,ho,hd⟩:=I.cell x c e;exact free c o (λz=>(va c z).2.2.1 x c e rfl) ho (I.fc x c e)
 ·obtain⟨e,n,ne,nf,d⟩:=I.pin p hp;have Gs:p.1∉ch:=λz=>(va p.1 z).2.2.2 p hp rfl;exact⟨keep p.1 p.2 ne nf Gs e n,free p.1 p.2 Gs e n,ne,nf,d⟩
theorem Inv.un{t':Nat}(I:Inv X pins σ H s)(u:Un X.fs [] H H' s.heap h')(bf:uK X.prog X.w H' h'):Inv X pins σ H' { s with heap:=h',toks:=t' }:=by
 obtain⟨m,⟨o,es,ep,ho,r⟩,_⟩:=id I.loc;obtain⟨sl,hL⟩:=u.any ho I.free (by simp);exact I.step (g':=s.gens) (d':=s.drawn) (ch:=[]) (λ_ z=>nomatch z) (λb o _ hb _ e n=>u.keep b o e n hb (by simp)) (λb o _ hb _ e n=>u.slot b o e n hb (by simp)) (λb o _ e n=>u.free b o e n (by simp)) (λb o _ e=>u.there b o e (by simp)) u.uN u.jc u.ni (λm' hm=>by
  obtain⟨o',CC,Fn,Ai,r'⟩:=hm;rw[ho] at Ai;cases Ai;exact⟨_,CC,Fn,hL,r'⟩) bf I.bare
theorem Inv.call{t':Nat}{d':Drawn}(I:Inv X pins σ H s)(u:Un (qc X.stack) ch H H' s.heap h')(bf:uK X.prog X.w H' h')(hg:AllBare g')(va:∀b∈ch,(b∈X.ex\/X.dg.heap.objs.size<=b)/\b≠X.env.locals/\(∀x c,X.env.cells.lookup x=some c->c≠b)/\∀p∈X.pn++pins,p.1≠b) :
  Inv X pins σ H' { s with heap:=h',gens:=g',drawn:=d',toks:=t' }:=by
 obtain⟨m,⟨o,es,ep,ho,r⟩,_⟩:=id I.loc;obtain⟨sl,hL⟩:=u.any ho I.free λz=>(va _ z).2.1 rfl;exact I.step (ch:=ch) va (λb o hL hb hc e n=>u.keep b o e n (λz=>(lR.mp (I.HE b z)).elim hL hb) hc) (λb o _ _ hc e n=>u.any e n hc) (λb o hc e n=>u.free b o e n hc) (λb o hc e=>u.there b o e hc) u.uN u.jc u.ni (λm' hm=>by
  obtain⟨o',CC,Fn,Ai,r'⟩:=hm;rw[ho] at Ai;cases Ai;exact⟨_,CC,Fn,hL,r'⟩) bf hg
theorem Inv.turned{t':Nat}{it:Addr}(I:Inv X pins σ H s)(k:∀b o,b≠it->s.heap.get? b=some o->h'.get? b=some o)(hn:H it=none)(hL:it≠X.env.locals)
  (h1:it∈X.ex\/X.dg.heap.objs.size<=it) (h2:∀x c,X.env.cells.lookup x=some c->c≠it) (h3:∀p∈X.pn++pins,p.1≠it):Inv X pins σ H { s with heap:=h',toks:=t' }:=by
 have Cm:∀b u,H b=some u->b≠it:=λb u e z=>by rw[z,hn] at e;cases e
 refine I.step (g':=s.gens) (d':=s.drawn) (ch:=[it]) (λb hb=>?_) (λb o _ _ hc e _=>k b o (λz=>hc (by simp[z])) e) (λb o _ _ hc e _=>⟨o.slots,k b o (λz=>hc (by simp[z])) e⟩) (λ_ _ _ _ n=>n)
  (λb o hc e=>⟨o,k b o (λz=>hc (by simp[z])) e⟩) (λ_ _ e=>e) (λ_ _ _ e=>e) (λb ps e=>⟨#[],by rw[e];simp⟩) (λm hm=>?_) (λb u e=>?_) I.bare
 ·have e:b=it:=by simpa using hb
  subst e;exact⟨h1,hL,h2,h3⟩
 ·obtain⟨o,es,ep,ho,r⟩:=hm;exact⟨o,es,ep,k _ o (Ne.symm hL) ho,r⟩
 ·refine(I.bf b u e).zt (λc v hc q=>k c v ?_ q) (λ_ q=>q) λ_ _ _ q=>q;rcases hc with z|z
  ·rw[z];exact Cm b u e
  ·exact Cm c _ z
theorem Inv.tok(I:Inv X pins σ H s)(t:Nat):Inv X pins σ H { s with toks:=t }:=I.un (h':=s.heap) (t':=t) Un.refl I.bf
theorem Inv.kept{t':Nat}(I:Inv X pins σ H s)(k:∀b u,s.heap.get? b=some u->h'.get? b=some u):Inv X pins σ H { s with heap:=h',toks:=t' }:=I.un (Un.kept k) (I.bf.kept k)
theorem Inv.laid{t':Nat}(I:Inv X pins σ H s)(k:∀b u,s.heap.get? b=some u->h'.get? b=some u)(hp:s.heap.objs.size<=a)(new:cR X.prog X.w (upd H a o) h' a o) :
  Inv X pins σ (upd H a o) { s with heap:=h',toks:=t' }:=I.un (Un.laid k hp (I.bf.fresh hp)) (I.bf.laid k hp new)
theorem Inv.write{t':Nat}(I:Inv X pins σ H s)(mu:Ih (H x))(he:e=x\/H e=some (.own x))(k:∀b u,b≠e->s.heap.get? b=some u->h'.get? b=some u)(E9:∃u,h'.get? e=some u)(new:cR X.prog X.w (upd H x o) h' x o):Inv X pins σ (upd H x o) { s with heap:=h',toks:=t' }:=I.un (Un.write mu he k E9) (I.bf.write mu he k E9 new)
theorem Inv.weak{σ':List (Option V)}(I:Inv X pins σ H s)(hl:σ'.length=σ.length)(w:∀(i:Nat) v,σ'[i]?=some (some v)->σ[i]?=some (some v)):Inv X pins σ' H s:=
 ⟨I.ok,I.os,I.bare,I.base,let ⟨m,hn,E6⟩:=I.loc;⟨m,hn,λi x v e1 e2 e3=>E6 i x v e1 (w i v e2) e3⟩,I.cell,I.free,I.fc,I.pin,I.bf,hl.trans I.len⟩
theorem Inv.LW(I:Inv X pins σ H s)(h:∀p∈ug,s.heap.get? p.1=some p.2/\H p.1=none/\p.1≠X.env.locals/\p.1∉X.fs/\∀v,p.2.data≠.cell v):Inv X ug σ H s:=
 ⟨I.ok,I.os,I.bare,I.base,I.loc,I.cell,I.free,I.fc,λp hp=>(oa.mp hp).elim (λz=>I.pin p (D9 _ z)) (h p),I.bf,I.len⟩
theorem aHG{N:ah}(hN:N.Nodup){i j:Nat}(a:N[i]?=some x)(b:N[j]?=some x):i=j:=by
 obtain⟨h1,e1⟩:=iZ.mp a;obtain⟨h2,e2⟩:=iZ.mp b;exact(List.getElem_inj hN).mp (e1.trans e2.symm)
theorem aFN{E:ar}{i:Nat}{Q:Unit->Shared->Prop}(I:Inv X pins σ H s)(hN:X.N.Nodup)(hi:X.N[i]?=some x)(hx:Loc X.env.scope x)(r:RelV v u)(h:∀s',Inv X pins (σ.set i (some v)) H s'->(∃a,Heap.SameBut a s.heap s'.heap/\(a=X.env.locals\/X.env.cells.lookup x=some a))->Q () s')(hf:X.fn x=true\/X.env.scope.names.lookup x=some .local:=by first|exact .inl rfl|exact .inr rfl|assumption):wpAny M A (storeName X.env x u) Q E s:=by
 obtain⟨m,hn,hl⟩:=id I.loc;have UP:(X.env.scope.kind == .class || (X.env.scope.kind == .module && X.env.locals != X.env.globals))=false:=by rw[I.ok.kind];rfl
 have IG:i < σ.length:=by rw[I.len];exact(iZ.mp hi).1
 have CF:=I.CF;have tracked:∀{a:Addr} {h':Heap},(∃o,s.heap.get? a=some o/\H a=none)->Heap.SameBut a s.heap h'->uK X.prog X.w H h':=λ{a h'} ha hs b ob e=>by
  obtain⟨_,_,jd⟩:=ha;refine(I.bf b ob e).zt (λc w' hc q=>(hs.2 c ?_).trans q) (λ_ q=>q) λ_ _ _ q=>q;rintro rfl;rcases hc with rfl|hc
  ·rw[jd] at e;cases e
  ·rw[jd] at hc;cases hc
 rcases hx with hk|hk
 ·refine wpAny_storeName_local hk hn (λh' E5 hs=>?_) UP;obtain⟨oL,_,_,hoL,_⟩:=id hn;refine h _ ⟨I.ok,I.os,I.bare,⟨λb o e n hb hx=>?_,λb o e n hb hx=>?_,I.base.free,λb o e hx=>?_,I.base.uN,I.base.jc,I.base.ni⟩,⟨_,E5,λj y v' e1 e2 e3=>?_⟩,λy c e=>?_,I.free,I.fc,λp hp=>?_,tracked ⟨oL,hoL,I.free⟩ hs,by simpa using I.len⟩ ⟨_,hs,.inl rfl⟩
  ·exact(hs.2 b (rR (rQ (iM e) I.ok.above))).trans (I.base.keep b o e n hb hx)
  ·obtain⟨sl,e1⟩:=I.base.slot b o e n hb hx;exact⟨sl,(hs.2 b (rR (rQ (iM e) I.ok.above))).trans e1⟩
  ·obtain⟨o',e1⟩:=I.base.there b o e hx;exact⟨o',(hs.2 b (rR (rQ (iM e) I.ok.above))).trans e1⟩
  ·by_cases hj:j=i
   ·subst hj;rw[hi] at e1;cases e1;rw[List.getElem?_set_self IG] at e2;cases e2;exact⟨u,r,.inl ⟨hk,by simp⟩⟩
   ·rw[List.getElem?_set_ne (Ne.symm hj)] at e2;obtain⟨u',r',q⟩:=hl j y v' e1 e2 e3;refine⟨u',r',?_⟩;rcases q with ⟨k,e⟩|⟨k,c,e,z⟩
    ·refine .inl ⟨k,?_⟩;have:y≠x:=λe=>hj (aHG hN e1 (e▸hi));simp[this,e]
    ·exact .inr ⟨k,c,e,z.sameBut hs (CF y c e)⟩
  ·obtain⟨w',z⟩:=I.cell y c e;exact⟨w',z.sameBut hs (CF y c e)⟩
  ·obtain⟨e,n,ne,nf,d⟩:=I.pin p hp;exact⟨(hs.2 p.1 ne).trans e,n,ne,nf,d⟩
 ·have Aj:X.fn x=true:=by
   rcases hf with z|z
   ·exact z
   ·rw[z] at hk;cases hk
  obtain⟨c,hc⟩:=I.ok.has x (.inl hk);obtain⟨w',z⟩:=I.cell x c hc;refine wpAny_storeName_cell I.ok.kind hk hc z (λh' Cw hs=>?_);obtain⟨oc,Wk,UE⟩:=id z;refine h { s with heap:=h' } ⟨I.ok,I.os,I.bare,⟨λb o e n hb hx=>?_,λb o e n hb hx=>?_,I.base.free,λb o e hx=>?_,I.base.uN,I.base.jc,I.base.ni⟩,⟨m,hn.sameBut hs (Ne.symm (CF x c hc)),λj y v' e1 e2 e3=>?_⟩,λy c' e=>?_,I.free,I.fc,λp hp=>?_,tracked ⟨oc,Wk,I.fc x c hc⟩ hs,by simpa using I.len⟩ ⟨c,hs,.inr hc⟩
  ·exact(hs.2 b (rR (rQ (iM e) (I.ok.CG x c Aj hc)))).trans (I.base.keep b o e n hb hx)
  ·obtain⟨sl,e1⟩:=I.base.slot b o e n hb hx;exact⟨sl,(hs.2 b (rR (rQ (iM e) (I.ok.CG x c Aj hc)))).trans e1⟩
  ·obtain⟨o',e1⟩:=I.base.there b o e hx;exact⟨o',(hs.2 b (rR (rQ (iM e) (I.ok.CG x c Aj hc)))).trans e1⟩
  ·by_cases hj:j=i
   ·subst hj;rw[hi] at e1;cases e1;rw[List.getElem?_set_self IG] at e2;cases e2;exact⟨u,r,.inr ⟨.inl hk,c,hc,Cw⟩⟩
   ·rw[List.getElem?_set_ne (Ne.symm hj)] at e2;obtain⟨u',r',q⟩:=hl j y v' e1 e2 e3;refine⟨u',r',?_⟩;rcases q with q|⟨k,c',e,z'⟩
    ·exact .inl q
    ·refine .inr ⟨k,c',e,z'.sameBut hs ?_⟩;rintro rfl;exact hj (aHG hN e1 (I.ok.inj _ _ _ e hc▸hi))
  ·by_cases Wz:c'=c
   ·subst Wz;exact⟨_,Cw⟩
   ·obtain⟨w2,z2⟩:=I.cell y c' e;exact⟨w2,z2.sameBut hs Wz⟩
  ·obtain⟨e,n,ne,nf,d⟩:=I.pin p hp;refine⟨(hs.2 p.1 ?_).trans e,n,ne,nf,d⟩;intro q;rw[q,Wk] at e;have q':oc=p.2:=Option.some.inj e;exact d w' (by rw[<-q'];exact UE)
theorem uO{E:ar}{i:Nat}{Q:Unit->Shared->Prop}(I:Inv X pins σ H s)(hN:X.N.Nodup)(hi:X.N[i]?=some x)(hx:Loc X.env.scope x)(r:RelV v u)(h:∀s',Inv X pins (σ.set i (some v)) H s'->Q () s')(hf:X.fn x=true\/X.env.scope.names.lookup x=some .local:=by first|exact .inl rfl|exact .inr rfl|assumption):wpAny M A (storeName X.env x u) Q E s:=
 aFN I hN hi hx r (λs' I' _=>h s' I') hf
theorem Inv.aRA{s':Shared}(I:Inv X pins σ H s)(ho:s'.os=s.os)(u:Un (qc X.stack) ch H H' s.heap s'.heap)(bf:uK X.prog X.w H' s'.heap)(hg:AllBare s'.gens)(va:∀b∈ch,(b∈X.ex\/X.dg.heap.objs.size<=b)/\b≠X.env.locals/\(∀x c,X.env.cells.lookup x=some c->c≠b)/\∀p∈X.pn++pins,p.1≠b):Inv X pins σ H' s':=by
 obtain⟨h',g',d',t',o'⟩:=s';have e:o'=s.os:=ho;subst e;exact I.call (g':=g') (t':=t') (d':=d') u bf hg va
end
abbrev XK:=Value->Option Addr->Hp->Prop
abbrev St:=List (Option V)
abbrev VK:=V->Hp->Prop
abbrev TE:=St->Hp->VK->Prop
abbrev TT:=St->Hp->(Bool->Hp->Prop)->Prop
abbrev TA:=St->Hp->(List V->Hp->Prop)->Prop
structure Ends where
 nx:St->Hp->Prop
 rt:VK
 bk:St->Hp->Prop:=λ_ _=>False
 ct:St->Hp->Prop:=λ_ _=>False
abbrev TS:=Ends->St->Hp->Prop
def EP(X:Cx)(pins:au)(σ:St)(Q:VK)(u:Value)(s':Shared):Prop:=∃v H',Inv X pins σ H' s'/\RelV v u/\Q v H'
def TP(X:Cx)(pins:au)(σ:St)(Q:Bool->Hp->Prop)(b:Bool)(s':Shared):Prop:=∃H',Inv X pins σ H' s'/\Q b H'
def AP(X:Cx)(pins:au)(σ:St)(Q:List V->Hp->Prop)(us:aj)(s':Shared):Prop:=∃vs H',Inv X pins σ H' s'/\Vals vs us/\Q vs H'
def SP(X:Cx)(pins:au)(D:Ends)(f:Flow)(s':Shared):Prop:=
 match f with
 |.next=>∃σ' H',Inv X pins σ' H' s'/\D.nx σ' H'
 |.brk=>∃σ' H',Inv X pins σ' H' s'/\D.bk σ' H'
 |.cont=>∃σ' H',Inv X pins σ' H' s'/\D.ct σ' H'
 |.ret u=>∃v σ' H',Inv X pins σ' H' s'/\RelV v u/\D.rt v H'
def PE(X:Cx)(e:Expr)(t:TE):Prop:=
 ∀(pins:au) (s:Shared) (σ:St) (H:Hp) (Q:VK),Inv X pins σ H s->t σ H Q->wpAny (model X.prog X.w) X.A (eval e X.env) (EP X pins σ Q) X.xe s
def PT(X:Cx)(e:Expr)(t:TT):Prop:=
 ∀(pins:au) (s:Shared) (σ:St) (H:Hp) (Q:Bool->Hp->Prop),Inv X pins σ H s->t σ H Q->wpAny (model X.prog X.w) X.A (isTrue e X.env (eval e X.env)) (TP X pins σ Q) X.xe s
def PW(X:Cx)(e:Expr)(t:TT):Prop:=
 ∀(whole:Sem Value) (pins:au) (s:Shared) (σ:St) (H:Hp) (Q:Bool->Hp->Prop),Inv X pins σ H s->t σ H Q->wpAny (model X.prog X.w) X.A (isTrue e X.env whole) (TP X pins σ Q) X.xe s
theorem PW.pt(h:PW X e t):PT X e t:=h _
def PA(X:Cx)(es:List Expr)(t:TA):Prop:=
 ∀(pos:Pos) (pins:au) (s:Shared) (σ:St) (H:Hp) (Q:List V->Hp->Prop),Inv X pins σ H s->t σ H Q->wpAny (model X.prog X.w) X.A (spliced (backTo pos (starEach es X.env))) (AP X pins σ Q) X.xe s
def PS(X:Cx)(st:Stmt)(t:TS):Prop:=
 ∀(pins:au) (s:Shared) (σ:St) (H:Hp) (D:Ends),Inv X pins σ H s->t D σ H->wpAny (model X.prog X.w) X.A (exec st X.env) (SP X pins D) X.xe s
def wt(X:Cx)(st:List Stmt)(t:TS):Prop:=
 ∀(pins:au) (s:Shared) (σ:St) (H:Hp) (D:Ends),Inv X pins σ H s->t D σ H->wpAny (model X.prog X.w) X.A (execs st X.env) (SP X pins D) X.xe s
theorem eF{α:Type}{t:Sem α}{Q Q':α->Shared->Prop}{E:ar}(h:wpAny M A t Q E s)(hQ:∀a s,Q a s->Q' a s):wpAny M A t Q' E s:=vz h hQ λ_ _ x=>x
section
variable{X:Cx}
def O3(i:Nat):TE:=λσ H Q=>∃v,σ[i]?=some (some v)/\Q v H
def tC(v:V):TE:=λ_ H Q=>Q v H
theorem Zf{i:Nat}(hN:X.N[i]?=some x)(hv:D1 X.env.scope x)(hd:(x == ("__debug__" : Str))=false:=by decide)(qk:(x == ("__classdict__" : Str))=false:=by decide):PE X (.Name x pos) (O3 i):=by
 intro pins s σ H Q I h;obtain⟨v,e,h⟩:=h;obtain⟨m,hn,hl⟩:=I.loc;obtain⟨u,r,l⟩:=hl i x v hN e hv;have fin:EP X pins σ Q u s:=⟨v,H,I,r,h⟩
 rcases l with ⟨hk,hm⟩|⟨hk,c,hc,uj⟩
 ·exact wpAny_Name (wpAny_loadName_local I.ok.kind hk hn hm fin) hd
 ·rcases hk with hk|hk
  ·exact wpAny_Name (wpAny_loadName_cell I.ok.kind hk hc uj fin) hd
  ·exact wpAny_Name (wpAny_loadName_free I.ok.kind hk hc uj fin qk) hd
theorem aPI{i j pos}:PE X (.Constant (.int i) j pos) (tC (.int i)):=λ_ _ _ H _ I h=>wpAny_Constant_int ⟨.int i,H,I.tok _,⟨_,rfl⟩,h⟩
theorem aRB{b j pos}:PE X (.Constant (.bool b) j pos) (tC (.bl b)):=λ_ _ _ H _ I h=>Constant_bool ⟨.bl b,H,I,rfl,h⟩
theorem aPJ{j pos}:PE X (.Constant .none j pos) (tC .bw):=λ_ _ _ H _ I h=>Constant_none ⟨.bw,H,I,rfl,h⟩
def Gl(X:Cx)(x:Str):Prop:=X.env.kindOf x=some .globalImplicit
theorem LV{E:ar}{Q:ar}(I:Inv X pins σ H s)(hg:Gl X x)(hm:X.mg x=some u)(h:Q u s)(hd:(x == ("__debug__" : Str))=false:=by decide):wpAny (model X.prog X.w) X.A (eval (.Name x pos) X.env) Q E s:=
 Calls.Name_function_global I.ok.kind hg (Calls.loadGlobal_global (by rw[I.ok.glob];exact I.mod.glob.keeps I.bk) hm h) hd
theorem lS{E:ar}{Q:ar}(I:Inv X pins σ H s)(hg:Gl X x)(hm:X.mg x=none)(hv:bootBuiltins x=some u)(h:Q u s)(hn:x≠"__name__":=by decide)(hd:(x == ("__debug__" : Str))=false:=by decide):wpAny (model X.prog X.w) X.A (eval (.Name x pos) X.env) Q E s:=by
 obtain⟨mb,h1,h2⟩:=I.mod.blt;exact Calls.Name_function_global I.ok.kind hg (Calls.loadGlobal_builtin (by rw[I.ok.glob];exact I.mod.glob.keeps I.bk) hm (by rw[I.ok.blt];exact h1.keeps I.bk) ((h2 x hn).trans hv) h) hd
theorem ZN(hg:Gl X x)(hm:X.mg x=some u)(r:RelV v u)(hd:(x == ("__debug__" : Str))=false:=by decide):PE X (.Name x pos) (tC v):=
 λ_ _ _ H _ I h=>LV I hg hm ⟨v,H,I,r,h⟩ hd
theorem aNJ(hg:Gl X x)(hm:X.mg x=none)(hv:bootBuiltins x=some u)(r:RelV v u)(hn:x≠"__name__":=by decide)(hd:(x == ("__debug__" : Str))=false:=by decide):PE X (.Name x pos) (tC v):=
 λ_ _ _ H _ I h=>lS I hg hm hv ⟨v,H,I,r,h⟩ hn hd
variable{a b:Expr}{ta tb:TE}{pos:Pos}
def tB(t:TE):TT:=λσ H Q=>t σ H λx H1=>∃c,x=.bl c/\Q c H1
theorem aPK{e:Expr}(h:PE X e t)(he:∀whole,isTrue e X.env whole=(do let v <-whole;standAt e.pos;holding [v] (truthy v)):=by intro _;rfl):PT X e (tB t):=by
 intro pins s σ H Q I hw;refine isTrue_plain (eF (h pins s σ H _ I hw) λv s1 zq=>?_) (he _);obtain⟨x,H1,I1,r1,q1⟩:=zq;obtain⟨d,rfl,q⟩:=q1;cases r1;exact wpAny_truthy_bool ⟨H1,I1,q⟩
variable{tA J6:TT}{rest:List Expr}
def O2(t u:TT):TT:=λσ H Q=>t σ H λc H1=>if c=true then u σ H1 Q else Q false H1
def MK(t u:TT):TT:=λσ H Q=>t σ H λc H1=>if c=true then Q true H1 else u σ H1 Q
def O1(t:TT):TT:=λσ H Q=>t σ H λc H1=>Q (!c) H1
theorem aNK(ha:PT X a tA):PW X (.BoolOp .And [a] pos) tA:=by
 intro wh pins s σ H Q I h;refine isTrue_and (eF (ha pins s σ H Q I h) λc s1 e=>?_);cases c with
 |true=>exact isTrue_and_nil e
 |false=>exact e
theorem aPN(ha:PT X a tA):PW X (.BoolOp .Or [a] pos) tA:=by
 intro wh pins s σ H Q I h;refine isTrue_or (eF (ha pins s σ H Q I h) λc s1 e=>?_);cases c with
 |false=>exact isTrue_or_nil e
 |true=>exact e
theorem aPO(ha:PT X a tA)(hb:PW X (.BoolOp .And (b::rest) pos) J6):PW X (.BoolOp .And (a::b::rest) pos) (O2 tA J6):=by
 intro wh pins s σ H Q I h;refine isTrue_and (eF (ha pins s σ H _ I h) λc s1 ⟨H1,I1,q1⟩=>?_);cases c with
 |true=>exact hb wh pins s1 σ H1 Q I1 q1
 |false=>exact⟨H1,I1,q1⟩
theorem aRC(ha:PT X a tA)(hb:PW X (.BoolOp .Or (b::rest) pos) J6):PW X (.BoolOp .Or (a::b::rest) pos) (MK tA J6):=by
 intro wh pins s σ H Q I h;refine isTrue_or (eF (ha pins s σ H _ I h) λc s1 ⟨H1,I1,q1⟩=>?_);cases c with
 |true=>exact⟨H1,I1,q1⟩
 |false=>exact hb wh pins s1 σ H1 Q I1 q1
theorem aPP(ha:PT X a tA):PT X (.UnaryOp .Not a pos) (O1 tA):=by
 intro pins s σ H Q I h;exact isTrue_not (ha pins s σ H (λc H1=>Q (!c) H1) I h)
def Pu(ta tb:TE):TE:=λσ H Q=>ta σ H λx H1=>∃c,x=.bl c/\if c=true then tb σ H1 Q else Q (.bl false) H1
def O0(ta tb:TE):TE:=λσ H Q=>ta σ H λx H1=>∃c,x=.bl c/\if c=true then Q (.bl true) H1 else tb σ H1 Q
def Pr(ta:TE):TE:=λσ H Q=>ta σ H λx H1=>∃c,x=.bl c/\Q (.bl (!c)) H1
theorem aPR{op}(h:PE X a t):PE X (.BoolOp op [a] pos) t:=λpins s σ H Q I hw=>BoolOp_one (h pins s σ H Q I hw)
theorem aPS(ha:PE X a ta)(hb:PE X (.BoolOp .And (b::rest) pos) tb):PE X (.BoolOp .And (a::b::rest) pos) (Pu ta tb):=by
 intro pins s σ H Q I h;refine BoolOp_and (eF (ha pins s σ H _ I h) λv s1 zq=>?_);obtain⟨x,H1,I1,r1,q1⟩:=zq;obtain⟨c,rfl,q1⟩:=q1;cases r1;refine wpAny_truthy_bool ?_;cases c with
 |true=>exact hb pins s1 σ H1 Q I1 q1
 |false=>exact⟨.bl false,H1,I1,rfl,q1⟩
theorem aRD(ha:PE X a ta)(hb:PE X (.BoolOp .Or (b::rest) pos) tb):PE X (.BoolOp .Or (a::b::rest) pos) (O0 ta tb):=by
 intro pins s σ H Q I h;refine BoolOp_or (eF (ha pins s σ H _ I h) λv s1 zq=>?_);obtain⟨x,H1,I1,r1,q1⟩:=zq;obtain⟨c,rfl,q1⟩:=q1;cases r1;refine wpAny_truthy_bool ?_;cases c with
 |false=>exact hb pins s1 σ H1 Q I1 q1
 |true=>exact⟨.bl true,H1,I1,rfl,q1⟩
theorem aPT(ha:PE X a ta):PE X (.UnaryOp .Not a pos) (Pr ta):=by
 intro pins s σ H Q I h;refine UnaryOp_ (eF (ha pins s σ H _ I h) λv s1 zq=>?_);obtain⟨x,H1,I1,r1,q1⟩:=zq;obtain⟨c,rfl,q1⟩:=q1;cases r1;exact not_of (wpAny_truthy_bool ⟨.bl (!c),H1,I1,rfl,q1⟩)
def ML(t:TT)(ta tb:TE):TE:=λσ H Q=>t σ H λc H1=>if c=true then ta σ H1 Q else tb σ H1 Q
theorem aLH{c:Expr}(hc:PT X c tA)(ha:PE X a ta)(hb:PE X b tb):PE X (.IfExp c a b pos) (ML tA ta tb):=by
 intro pins s σ H Q I h;refine wpAny_IfExp (eF (hc pins s σ H _ I h) λd s1 ⟨H1,I1,q1⟩=>?_);cases d with
 |true=>exact ha pins s1 σ H1 Q I1 q1
 |false=>exact hb pins s1 σ H1 Q I1 q1
end
def bP(K:W.Frag)(H:Hp)(a:Addr)(xs:List V):Prop:=
 Rd H a (.lst xs)\/
  ∃(o:Obj) (az:Array Value) (n:Nat),K.lookup a=some o/\o.cls=.type "list"/\o.dict=none/\o.data=.seq az n/\az.size<=sizeLine/\Vals xs az.toList
def gZ(K:W.Frag)(H:Hp)(a:Addr)(xs:List V):Prop:=
 Rd H a (.tup xs)\/
  ∃(o:Obj) (az:Array Value) (n:Nat),K.lookup a=some o/\o.cls=.type "tuple"/\o.data=.seq az n/\az.size<=sizeLine/\Vals xs az.toList
def aSy:Value->Option V
 |.none=>some .bw
 |.bool b=>some (.bl b)
 |.int i _=>some (.int i)
 |.str x _=>some (.str x)
 |.bytes b _=>some (.Fu b)
 |.float b _=>some (.qo b)
 |.ref a=>some (.ref a)
 |.type n=>some (.ty n)
 |_=>none
theorem RelV.abs(r:RelV x u):aSy u=some x:=by
 cases x with
 |bw=>cases r;rfl
 |bl _=>cases r;rfl
 |int _=>obtain⟨t,rfl⟩:=r;rfl
 |str _=>obtain⟨t,rfl⟩:=r;rfl
 |Fu _=>obtain⟨t,rfl⟩:=r;rfl
 |qo _=>obtain⟨t,rfl⟩:=r;rfl
 |ref _=>cases r;rfl
 |ty _=>cases r;rfl
theorem RelV.inj(r:RelV x u)(q:RelV y u):x=y:=Option.some.inj (r.abs.symm.trans q.abs)
theorem Vals.inj:∀{xs ys:List V}{us:aj},Vals xs us->Vals ys us->xs=ys
 |_,_,_,.nil,.nil=>rfl
 |_,_,_,.cons r t,.cons r' t'=>by rw[r.inj r',Vals.inj t t']
section
variable{X:Cx}{pins:au}{σ:St}{H:Hp}{s:Shared}{a:Addr}{xs ys:List V}
theorem bP.of{K:W.Frag}(h:H a=some (.lst xs)):bP K H a xs:=.inl (.inl h)
theorem gZ.of{K:W.Frag}(h:H a=some (.tup xs)):gZ K H a xs:=.inl (.inl h)
theorem Inv.list(I:Inv X pins σ H s)(h:bP X.K H a xs):∃az:aj,Vals xs az/\PlainL s.heap a az.toArray/\xs.length<=sizeLine:=by
 rcases h with h|⟨o,az,n,hk,hc,hd,hs,hz,r⟩
 ·obtain⟨z,az,n,r,e⟩:=h.ok I.bf;exact⟨az,r,⟨_,n,e,rfl,rfl,rfl⟩,z⟩
 ·refine⟨az.toList,r,⟨o,n,I.mi a o hk,hc,hd,by simpa using hs⟩,?_⟩;have e:=r.length;simp only[wq] at e;lia
theorem Inv.tuple(I:Inv X pins σ H s)(h:gZ X.K H a xs):∃az:aj,Vals xs az/\IsTup s.heap a az.toArray/\xs.length<=sizeLine:=by
 rcases h with h|⟨o,az,n,hk,hc,hs,hz,r⟩
 ·obtain⟨z,az,r,p⟩:=h.ok I.bf;exact⟨az,r,p,z⟩
 ·refine⟨az.toList,r,⟨o,I.mi a o hk,hc,n,by simpa using hs⟩,?_⟩;have e:=r.length;simp only[wq] at e;lia
theorem Inv.uP(I:Inv X pins σ H s)(h:bP X.K H a xs)(h':bP X.K H a ys):xs=ys:=by
 obtain⟨az,r,⟨o,n,e,_,_,d⟩,_⟩:=I.list h;obtain⟨its',r',⟨o',n',e',_,_,d'⟩,_⟩:=I.list h';rw[e] at e';cases e';rw[d] at d';injection d' with d1 _
 have:az=its':=by simpa using congrArg Array.toList d1
 subst this;exact r.inj r'
theorem Inv.aFO(I:Inv X pins σ H s)(h:gZ X.K H a xs)(h':gZ X.K H a ys):xs=ys:=by
 obtain⟨az,r,⟨o,e,_,n,d⟩,_⟩:=I.tuple h;obtain⟨its',r',⟨o',e',_,n',d'⟩,_⟩:=I.tuple h';rw[e] at e';cases e';rw[d] at d';injection d' with d1 _
 have:az=its':=by simpa using congrArg Array.toList d1
 subst this;exact r.inj r'
end
abbrev Cx.Bh(X:Cx)(E:ar):Cx:={ X with xe:=E }
abbrev Cx.EM(X:Cx):Cx:=X.Bh λ_ _=>False
theorem Cx.Ok.Bh{X:Cx}(ok:X.Ok)(E:ar):(X.Bh E).Ok:=
 ⟨ok.mod,ok.kind,ok.glob,ok.blt,ok.above,ok.inj,ok.has,ok.CG,ok.hd,ok.frames,ok.Cb,ok.Lc,ok.bs,ok.Al,ok.wz,ok.ze,ok.xU,ok.Ba⟩
theorem Cx.Ok.uQ{X:Cx}{E:ar}(ok:(X.Bh E).Ok):X.Ok:=
 ⟨ok.mod,ok.kind,ok.glob,ok.blt,ok.above,ok.inj,ok.has,ok.CG,ok.hd,ok.frames,ok.Cb,ok.Lc,ok.bs,ok.Al,ok.wz,ok.ze,ok.xU,ok.Ba⟩
section
variable{X:Cx}{pins:au}{σ:St}{H:Hp}{s:Shared}{E:ar}
theorem Inv.Bh(I:Inv X pins σ H s)(E:ar):Inv (X.Bh E) pins σ H s:=⟨I.ok.Bh E,I.os,I.bare,I.base,I.loc,I.cell,I.free,I.fc,I.pin,I.bf,I.len⟩
theorem Inv.uQ(I:Inv (X.Bh E) pins σ H s):Inv X pins σ H s:=⟨I.ok.uQ,I.os,I.bare,I.base,I.loc,I.cell,I.free,I.fc,I.pin,I.bf,I.len⟩
theorem SP.uQ(h:SP (X.Bh E) pins D f s'):SP X pins D f s':=by
 cases f with
 |next=>obtain⟨σ',H',I,q⟩:=h;exact⟨σ',H',I.uQ,q⟩
 |brk=>obtain⟨σ',H',I,q⟩:=h;exact⟨σ',H',I.uQ,q⟩
 |cont=>obtain⟨σ',H',I,q⟩:=h;exact⟨σ',H',I.uQ,q⟩
 |ret u=>obtain⟨v,σ',H',I,r,q⟩:=h;exact⟨v,σ',H',I.uQ,r,q⟩
theorem wt.EM{st:List Stmt}{t:TS}(h:wt X.EM st t):wt X st t:=λpins s σ H D I hw=>
 vz (h pins s σ H D (I.Bh _) hw) (λ_ _ q=>q.uQ) λ_ _ z=>False.elim z
end
section
variable{X:Cx}{st:Stmt}{rest:List Stmt}{t u:TS}{e:Expr}{te:TE}{pos:Pos}
def Pp:TS:=λD σ H=>D.nx σ H
def Hi(t u:TS):TS:=λD σ H=>t { D with nx:=u D } σ H
theorem aNL:wt X [] Pp:=λ_ _ σ H _ I h=>wpAny_execs_nil ⟨σ,H,I,h⟩
theorem aLK(h1:PS X st t)(h2:wt X rest u):wt X (st::rest) (Hi t u):=by
 intro pins s σ H D I h;refine wpAny_execs_cons (eF (h1 pins s σ H { D with nx:=u D } I h) λf s1 q=>?_);cases f with
 |next=>
  obtain⟨σ',H',I',q⟩:=q;exact h2 pins s1 σ' H' D I' q
 |ret v=>exact q
 |brk=>exact q
 |cont=>exact q
theorem aNM(h1:PS X st t):wt X [st] t:=by
 intro pins s σ H D I h;refine wpAny_execs_cons (eF (h1 pins s σ H D I h) λf s1 q=>?_);cases f with
 |next=>exact wpAny_execs_nil q
 |ret v=>exact q
 |brk=>exact q
 |cont=>exact q
theorem Inv.quiet(I:Inv X pins σ H s):interactive X.env=false:=by simp[interactive,I.ok.kind]
def Po(te:TE):TS:=λD σ H=>te σ H λ_ H1=>D.nx σ H1
theorem aNN(he:PE X e te)(hs:swapsWith e none pos.line X.env=pure false:=by rfl):PS X (.Expr e pos) (Po te):=by
 intro pins s σ H D I h;exact wpAny_Expr_any (eF (he pins s σ H _ I h) λv s1 ⟨x,H1,I1,r1,q1⟩=>⟨σ,H1,I1,q1⟩) I.quiet hs
def OZ(te:TE):TS:=λD σ H=>te σ H D.rt
theorem aPV(he:PE X e te):PS X (.Return (some e) pos) (OZ te):=by
 intro pins s σ H D I h;exact wpAny_Return_some (eF (he pins s σ H _ I h) λv s1 ⟨x,H1,I1,r1,q1⟩=>⟨x,σ,H1,I1,r1,q1⟩)
def OY(c:TT)(t u:TS):TS:=λD σ H=>c σ H λb H1=>if b=true then t D σ H1 else u D σ H1
theorem aRE(hc:PT X c tc)(ha:wt X a t)(hb:wt X b u):PS X (.If c a b pos) (OY tc t u):=by
 intro pins s σ H D I h;refine wpAny_If (eF (hc pins s σ H _ I h) λd s1 ⟨H1,I1,q1⟩=>?_);cases d with
 |true=>exact ha pins s1 σ H1 D I1 q1
 |false=>exact hb pins s1 σ H1 D I1 q1
def Ze:TS:=λ_ _ _=>False
theorem aLN:PS X st Ze:=λ_ _ _ _ _ _ h=>h.elim
end
abbrev TG:=V->St->Hp->(St->Hp->Prop)->Prop
abbrev Ar:=List V->St->Hp->(St->Hp->Prop)->Prop
def PG(X:Cx)(target:Expr)(t:TG):Prop:=
 ∀(pins:au) (s:Shared) (σ:St) (H:Hp) (v:V) (u:Value) (Q:St->Hp->Prop),Inv X pins σ H s->RelV v u->t v σ H Q->
  wpAny (model X.prog X.w) X.A (assign target X.env u) (λ_ s'=>∃σ' H',Inv X pins σ' H' s'/\Q σ' H') X.xe s
def Ie(X:Cx)(ts:List Expr)(t:Ar):Prop:=
 ∀(pins:au) (s:Shared) (σ:St) (H:Hp) (vs:List V) (us:aj) (Q:St->Hp->Prop),Inv X pins σ H s->Vals vs us->t vs σ H Q->
  wpAny (model X.prog X.w) X.A (assignInOrder ((assignEach ts X.env).map (·.2)) us) (λ_ s'=>∃σ' H',Inv X pins σ' H' s'/\Q σ' H') X.xe s
abbrev OX:=V->V->V->Hp->(Hp->Prop)->Prop
def Hh(X:Cx)(t:OX):Prop:=
 ∀(pins:au) (s:Shared) (σ:St) (H:Hp) (o i v:V) (ov iv u:Value) (Q:Hp->Prop),Inv X pins σ H s->RelV o ov->RelV i iv->RelV v u->t o i v H Q->
  wpAny (model X.prog X.w) X.A (setItem ov iv u) (λ_ s'=>∃H',Inv X pins σ H' s'/\Q H') X.xe s
abbrev Mo:=V->V->Hp->VK->Prop
def Ga(X:Cx)(op:Operator)(t:Mo):Prop:=
 ∀(pins:au) (s:Shared) (σ:St) (H:Hp) (x y:V) (v u:Value) (Q:VK),Inv X pins σ H s->RelV x v->RelV y u->t x y H Q->
  wpAny (model X.prog X.w) X.A (inplaceOp op v u) (EP X pins σ Q) X.xe s
section
variable{X:Cx}{pos:Pos}
def uR(i:Nat):TG:=λv σ H Q=>Q (σ.set i (some v)) H
theorem aNO{i:Nat}(hN:X.N.Nodup)(hi:X.N[i]?=some x)(hx:Loc X.env.scope x)(hf:X.fn x=true\/X.env.scope.names.lookup x=some .local:=by first|exact .inl rfl|exact .inr rfl|assumption):PG X (.Name x pos) (uR i):=by
 intro pins s σ H v u Q I r h;exact wpAny_assign_Name (uO I hN hi hx r (λs' I'=>⟨_,H,I',h⟩) hf)
def Lm:Ar:=λvs σ H Q=>vs=[]/\Q σ H
def LC(t:TG)(u:Ar):Ar:=λvs σ H Q=>∃v r,vs=v::r/\t v σ H λσ' H'=>u r σ' H' Q
theorem aNQ:Ie X [] Lm:=by
 intro pins s σ H vs us Q I r h;obtain⟨e,h⟩:=h;subst e;cases r;exact assignInOrder_nil ⟨σ,H,I,h⟩
theorem aLP(h1:PG X e t)(h2:Ie X es u)(hs:(assignEach (e::es) X.env).map (·.2)=assign e X.env::(assignEach es X.env).map (·.2):=by rfl):Ie X (e::es) (LC t u):=by
 intro pins s σ H vs us Q I r h;obtain⟨v,vr,e1,h⟩:=h;subst e1;cases r with
 |cons r rr=>
  rw[hs];refine assignInOrder_cons (eF (h1 pins s σ H _ _ _ I r h) λ_ s1 zq=>?_);obtain⟨σ1,H1,I1,q1⟩:=zq;exact h2 pins s1 σ1 H1 _ _ Q I1 rr q1
def Ll(K:W.Frag)(n:Nat)(t:Ar):TG:=λv σ H Q=>∃a xs,v=.ref a/\gZ K H a xs/\xs.length=n/\t xs σ H Q
theorem aPY{k:Nat}{n:Nat}(hc:X.calm=true)(h:Ie X es t)(hn:(assignEach es X.env).length=n:=by rfl)(df:(assignEach es X.env).findIdx? (·.1)=none:=by rfl):PG X (.Tuple es k pos) (Ll X.K n t):=by
 intro pins s σ H v u Q I r hw;obtain⟨a,xs,e1,hq,hl,hw⟩:=hw;subst e1;cases r;obtain⟨az,rv,ht,hz⟩:=I.tuple hq;refine assign_Tuple_tuple (I.ok.hd hc) ht (by simp[hn,<-hl,rv.length]) df λh' hx=>?_;have I1:Inv X pins σ H { s with heap:=h' }:=I.kept (t':=s.toks) λb o e=>hx b o (rR (iM e)) e;exact h pins _ σ H xs _ Q I1 (by simpa using rv) hw
def OW(to ti:TE)(t:OX):TG:=λv σ H Q=>to σ H λo H1=>ti σ H1 λi H2=>t o i v H2 λH3=>Q σ H3
theorem aP0(ho:PE X o to)(hi:PE X i ti)(hs:Hh X t)(ha:∀v,assign (.Subscript o i pos) X.env v=(do
   let ov <-holding [v] (eval o X.env)
   let iv <-holding [v,ov] (eval i X.env)
   standAt pos
   holding [v,ov,iv] (setItem ov iv v)
   release [v,ov,iv] []):=by intro _;rfl):PG X (.Subscript o i pos) (OW to ti t):=by
 intro pins s σ H v u Q I r h;rw[ha];refine bN (BH (eF (ho pins s σ H _ I h) λov s1 zq=>?_));obtain⟨x,H1,I1,r1,q1⟩:=zq;refine bN (BH (eF (hi pins s1 σ H1 _ I1 q1) λiv s2 zq=>?_));obtain⟨y,H2,I2,r2,q2⟩:=zq;refine bN (wpAny_standAt (bN (BH (eF (hs pins s2 σ H2 x y v ov iv u _ I2 r1 r2 r q2) λ_ s3 ⟨H3,I3,q3⟩=>?_))));exact wpAny_release ⟨σ,H3,I3,q3⟩
def CJ(te:TE)(g:TG):TS:=λD σ H=>te σ H λx H1=>g x σ H1 D.nx
theorem aP1(he:PE X e te)(hg:PG X tg g)(hs:swapsWithSole [tg] e pos.line X.env=pure false:=by rfl)(hw:swappedStores [tg] e X.env=pure none:=by rfl)(h1:(assignEach [tg] X.env).map (·.2)=[assign tg X.env]:=by rfl):PS X (.Assign [tg] e pos) (CJ te g):=by
 intro pins s σ H D I h;refine wpAny_Assign_stores (eF (he pins s σ H _ I h) λv s1 zq=>?_) hs hw;obtain⟨x,H1,I1,r1,q1⟩:=zq;rw[h1];exact eF (hg pins s1 σ H1 x v _ I1 r1 q1) λ_ s2 q=>q
theorem aP2{i:Nat}(hN:X.N.Nodup)(hi:X.N[i]?=some x)(hx:Loc X.env.scope x)(he:PE X e te)(hs:swapsWith e (some (.Name x pos')) pos.line X.env=pure false:=by rfl)(hf:X.fn x=true\/X.env.scope.names.lookup x=some .local:=by first|exact .inl rfl|exact .inr rfl|assumption) :
  PS X (.Assign [.Name x pos'] e pos) (CJ te (uR i)):=by
 intro pins s σ H D I h;refine wpAny_Assign_Name (eF (he pins s σ H _ I h) λv s1 zq=>?_) hs;obtain⟨y,H1,I1,r1,q1⟩:=zq;exact uO I1 hN hi hx r1 (λs2 I2=>⟨_,H1,I2,q1⟩) hf
def O8(i j:Nat)(ta:TA):TS:=λD σ H=>ta σ H λvs H1=>∃v w,vs=[v,w]/\D.nx ((σ.set i (some v)).set j (some w)) H1
theorem aP4{i j:Nat}{x y:Str}{a b:Expr}{ta:TA}{px py pt:Pos}{kt k2 Dt}(hc:X.calm=true)(hN:X.N.Nodup)(hi:X.N[i]?=some x)(hj:X.N[j]?=some y)(Bv:i≠j)
  (hx:X.env.scope.names.lookup x=some .local) (hy:X.env.scope.names.lookup y=some .local) (ha:PA X [a,b] ta)
  (hw:swappedStores [.Tuple [.Name x px,.Name y py] kt pt] (.Tuple [a,b] k2 Dt) X.env=pure (some [x,y]))
  (hs:swapsWithSole [.Tuple [.Name x px,.Name y py] kt pt] (.Tuple [a,b] k2 Dt) pos.line X.env=pure false:=by rfl) :
  PS X (.Assign [.Tuple [.Name x px,.Name y py] kt pt] (.Tuple [a,b] k2 Dt) pos) (O8 i j ta):=by
 intro pins s σ H D I h;rw[exec_Assign_arm];refine bN (wpAny_standAt ?_);rw[hs];refine bN (dY ?_);rw[cD (by decide)];refine bN (Tuple_ (eF (ha _ pins s σ H _ I h) λus s1 zq=>?_));obtain⟨vs,H1,I1,r1,q1⟩:=zq;obtain⟨v,w,e1,q1⟩:=q1;subst e1;obtain⟨u1,u2,rfl,rv,vh⟩ : ∃u1 u2,us=[u1,u2]/\RelV v u1/\RelV w u2:=by
  cases r1 with
  |cons p q=>
   cases q with
   |cons p' q'=>
    cases q';exact⟨_,_,rfl,p,p'⟩
 refine wo ?_ (by show 2<=sizeLine;decide);have I2:Inv X pins σ H1 { s1 with heap:=s1.heap.push { cls:=.type "tuple",data:=.seq [u1,u2].toArray } }:=I1.kept (t':=s1.toks) λb o e=>fL _ e;rw[hw];refine bN (dY ?_);show wpAny (model X.prog X.w) X.A (do rule "assign.swapped-stores";let items <-unpackItems (.ref s1.heap.objs.size) 2 none;assignInOrder [λv=>bindName X.env y v,λv=>bindName X.env x v] items.reverse;pure Flow.next) _ _ _;refine bN (wpAny_rule (bN (unpackItems_tuple (items:=#[u1,u2]) (I.ok.hd hc) (IsTup.new s1.heap _) λh' tf=>?_)));have I3:=I2.kept (h':=h') (t':=s1.toks) λb o e=>tf b o (rR (iM e)) e;show wpAny _ _ (assignInOrder [λv=>bindName X.env y v,λv=>bindName X.env x v] [u2,u1] >>= λ_=>pure Flow.next) _ _ _;refine bN (assignInOrder_cons (wpAny_bindName (uO I3 hN hj (.inl hy) vh (λs2 I4=>?_) (.inr hy))));refine assignInOrder_cons (wpAny_bindName (uO I4 hN hi (.inl hx) rv (λs3 I5=>assignInOrder_nil (dY ?_)) (.inr hx)))
 rw[List.set_comm _ _ (Ne.symm Bv)] at I5;exact⟨_,H1,I5,q1⟩
def O7(i:Nat)(te:TE)(ti:Mo):TS:=λD σ H=>∃x,σ[i]?=some (some x)/\te σ H λy H1=>ti x y H1 λz H2=>D.nx (σ.set i (some z)) H2
theorem aP6{i:Nat}(hN:X.N.Nodup)(hi:X.N[i]?=some x)(hx:Loc X.env.scope x)(he:PE X e te)(ho:Ga X op ti)(hf:X.fn x=true\/X.env.scope.names.lookup x=some .local:=by first|exact .inl rfl|exact .inr rfl|assumption) :
  PS X (.AugAssign (.Name x pos') op e pos) (O7 i te ti):=by
 intro pins s σ H D I h;obtain⟨v,e1,h⟩:=h;obtain⟨m,hn,hl⟩:=I.loc;have vis:D1 X.env.scope x:=by rcases hx with k|k;exact .inl k;exact .inr (.inl k)
 obtain⟨u,r,l⟩:=hl i x v hi e1 vis;refine wpAny_AugAssign_Name ?_;have go:wpAny (model X.prog X.w) X.A (eval e X.env) (λw rg=>wpAny (model X.prog X.w) X.A (inplaceOp op u w) (λr ka=>wpAny (model X.prog X.w) X.A (storeName X.env x r) (λ_=>SP X pins D .next) X.xe ka) X.xe rg) X.xe s:=by
  refine eF (he pins s σ H _ I h) λw s1 zq=>?_;obtain⟨y,H1,I1,r1,q1⟩:=zq;refine eF (ho pins s1 σ H1 v y u w _ I1 r r1 q1) λz s2 zq=>?_;obtain⟨zv,H2,I2,r2,q2⟩:=zq;exact uO I2 hN hi hx r2 (λs3 I3=>⟨_,H2,I3,q2⟩) hf
 rcases l with ⟨hk,hm⟩|⟨hk,c,hc,uj⟩
 ·exact wpAny_loadName_local I.ok.kind hk hn hm go
 ·rcases hk with hk|hk
  ·exact wpAny_loadName_cell I.ok.kind hk hc uj go
  ·rcases hx with k|k
   ·have:X.env.scope.names.lookup x=some .free:=hk;rw[k] at this;cases this
   ·have:X.env.scope.names.lookup x=some .free:=hk;rw[k] at this;cases this
def Pn(to ti te:TE)(ub:V->V->Hp->VK->Prop)(Bm:Mo)(uw:OX):TS:=λD σ H=>to σ H λo H1=>ti σ H1 λi H2=>ub o i H2 λx H3=>te σ H3 λy H4=>Bm x y H4 λz H5=>uw o i z H5 λH6=>D.nx σ H6
def O6(X:Cx)(t:V->V->Hp->VK->Prop):Prop:=
 ∀(pins:au) (s:Shared) (σ:St) (H:Hp) (o i:V) (ov iv:Value) (Q:VK),Inv X pins σ H s->RelV o ov->RelV i iv->t o i H Q->
  wpAny (model X.prog X.w) X.A (getItem ov iv) (EP X pins σ Q) X.xe s
theorem aNS{ub:V->V->Hp->VK->Prop}(ho:PE X o to)(hi:PE X i ti)(hg:O6 X ub)(he:PE X e te)(hp:Ga X op Bm)(hs:Hh X uw)(ha:∀ov iv new,augStore i ov iv new=(do holding [new,ov,iv] (setItem ov iv new);release [new,ov,iv] [];pure .next):=by intros;rfl):PS X (.AugAssign (.Subscript o i Eg) op e pos) (Pn to ti te ub Bm uw):=by
 intro pins s σ H D I h;refine wpAny_AugAssign_SubscriptAny (eF (ho pins s σ H _ I h) λov s1 zq=>?_) ha;obtain⟨x1,H1,I1,r1,q1⟩:=zq;refine eF (hi pins s1 σ H1 _ I1 q1) λiv s2 zq=>?_;obtain⟨x2,H2,I2,r2,q2⟩:=zq;refine eF (hg pins s2 σ H2 x1 x2 ov iv _ I2 r1 r2 q2) λold s3 zq=>?_;obtain⟨x3,H3,I3,r3,q3⟩:=zq;refine eF (he pins s3 σ H3 _ I3 q3) λv s4 zq=>?_;obtain⟨x4,H4,I4,r4,q4⟩:=zq;refine eF (hp pins s4 σ H4 x3 x4 old v _ I4 r3 r4 q4) λnew s5 zq=>?_;obtain⟨x5,H5,I5,r5,q5⟩:=zq;exact eF (hs pins s5 σ H5 x1 x2 x5 ov iv new _ I5 r1 r2 r5 q5) λ_ s6 ⟨H6,I6,q6⟩=>⟨σ,H6,I6,q6⟩
def Nh(f:Int->Int->Int):Mo:=λx y H Q=>∃i j,x=.int i/\y=.int j/\Q (.int (f i j)) H
theorem FU:Ga X .Add (Nh λi j=>i+j):=by
 intro pins s σ H x y v u Q I r1 r2 h;obtain⟨i,j,e1,e2,q⟩:=h;subst e1;subst e2;obtain⟨t,rfl⟩:=r1;obtain⟨t',rfl⟩:=r2;exact iadd_int ⟨.int _,H,I.tok _,⟨_,rfl⟩,q⟩
theorem aP8:Ga X .Sub (Nh λi j=>i - j):=by
 intro pins s σ H x y v u Q I r1 r2 h;obtain⟨i,j,e1,e2,q⟩:=h;subst e1;subst e2;obtain⟨t,rfl⟩:=r1;obtain⟨t',rfl⟩:=r2;exact isub_int ⟨.int _,H,I.tok _,⟨_,rfl⟩,q⟩
end
structure It where
 go:Nat->Hp->Prop
 uy:Nat->Hp->V->Hp->Prop
 stop:Nat->Hp->Prop
def xo(X:Cx)(pins:au)(H:Hp)(b:Addr):Prop:=
 H b=none/\b≠X.env.locals/\b∉X.fs/\(b∈X.ex\/X.dg.heap.objs.size<=b)/\(∀x c,X.env.cells.lookup x=some c->c≠b)/\∀p∈X.pn++pins,p.1≠b
theorem Inv.Bg{s:Shared}(I:Inv X pins σ H s)(hb:s.heap.objs.size<=b)(hn:H' b=none):xo X pins H' b:=by
 refine⟨hn,yx (rQ I.lt hb),I.aSx hb,.inr (vm I.sz hb),λx c e z=>?_,λp hp z=>?_⟩
 ·obtain⟨v,q⟩:=I.cell x c e;exact absurd (rQ q.lt (by rw[z];exact hb)) (vn _)
 ·exact absurd (rQ (iM (I.pin p hp).1) (by rw[z];exact hb)) (vn _)
structure Turn(P:Program)(w:World)(K:W.Frag)(tg:Expr)(J:It)(fp:ay)(it:Addr)(tn:Nat->Heap->Prop):Prop where
 mem:it∈fp
 obj:∀i h,tn i h->∀b∈fp,∃o,h.get? b=some o/\∀v,o.data≠.cell v
 keep:∀i h h',tn i h->(∀b∈fp,∀o,h.get? b=some o->h'.get? b=some o)->tn i h'
 item:∀(X:Cx),X.prog=P->X.w=w->X.K=K->X.calm=true->∀(i:Nat) (pins:au) (s:Shared) (σ:St) (H:Hp) (E:ar),Inv X pins σ H s->(∀b∈fp,xo X pins H b)->tn i s.heap->J.go i H->
  wpAny (model P w) X.A (pyNext (.ref it)) (λr s1=>∃u,r=some u/\
   wpAny (model P w) X.A (letOwnedTupleGo tg (.ref it) u) (λ_ s2=>∃x H',Inv X pins σ H' s2/\RelV x u/\J.uy i H x H'/\tn (i+1) s2.heap/\∀b∈fp,H' b=none) E s1) E s
 done:∀(X:Cx),X.prog=P->X.w=w->X.K=K->X.calm=true->∀(i:Nat) (pins:au) (s:Shared) (σ:St) (H:Hp) (E:ar),Inv X pins σ H s->(∀b∈fp,xo X pins H b)->tn i s.heap->J.stop i H->
  wpAny (model P w) X.A (pyNext (.ref it)) (λr s1=>r=none/\Inv X pins σ H s1) E s
 self:∀(A:Around) (i:Nat) (s:Shared) (Q:ar) (E:ar),tn i s.heap->Q (.ref it) s->wpAny (model P w) A (pyIter (.ref it)) Q E s
abbrev TI:=St->Hp->(It->Hp->Prop)->Prop
def PIE(X:Cx)(pins:au)(σ:St)(tg:Expr)(R:It->Hp->Prop)(Kk:Value)(s2:Shared):Prop:=
 ∃(it:Addr) (fp:ay) (tn:Nat->Heap->Prop) (J:It) (H':Hp),Kk=.ref it/\Inv X pins σ H' s2/\Turn X.prog X.w X.K tg J fp it tn/\tn 0 s2.heap/\(∀b∈fp,xo X pins H' b)/\R J H'
def PI(X:Cx)(tg iter:Expr)(wi:TI):Prop:=
 ∀(pins:au) (s:Shared) (σ:St) (H:Hp) (R:It->Hp->Prop),Inv X pins σ H s->wi σ H R->
  wpAny (model X.prog X.w) X.A (eval iter X.env) (λv s1=>wpAny (model X.prog X.w) X.A (pyIter v) (PIE X pins σ tg R) X.xe s1) X.xe s
theorem LB{E:ar}{s:Shared}{o:Obj}{Q:Unit->Shared->Prop}(ho:s.heap.get? it=some o)(hc:o.cls=.type n)(hd:o.data=.fields vs)(hn:["enumerate","zip","dict_itemiterator","dict_reverseitemiterator","odict_iterator","itertools.zip_longest","itertools.pairwise"].contains n=false)(hQ:Q () s):wpAny M A (letOwnedTupleGo tg (.ref it) u) Q E s:=by
 unfold letOwnedTupleGo;cases tg <;> first
  |exact dY hQ
  |(cases u <;> first
    |exact dY hQ
    |(
      refine bN (wpAny_load ho ?_);rw[hc,hd];show wpAny M A (if (["enumerate","zip","dict_itemiterator","dict_reverseitemiterator","odict_iterator","itertools.zip_longest","itertools.pairwise"].contains n && vs[0]? == some (rawInt _))=true then _ else _) Q E s;rw[cD (by intro h;rw[hn,CV] at h;cases h)];exact dY hQ))
def yh(K:W.Frag)(a:Addr):It:=
 ⟨λi H=>∃xs x,bP K H a xs/\xs[i]?=some x,λi H x H'=>H'=H/\∀xs,bP K H a xs->xs[i]?=some x,λi H=>∃xs,bP K H a xs/\xs.length<=i⟩
def Au(K:W.Frag)(a:Addr):It:=
 ⟨λi H=>∃xs x,gZ K H a xs/\xs[i]?=some x,λi H x H'=>H'=H/\∀xs,gZ K H a xs->xs[i]?=some x,λi H=>∃xs,gZ K H a xs/\xs.length<=i⟩
def yg(lo:Int)(n:Nat):It:=⟨λi _=>i < n,λi H x H'=>H'=H/\x=.int (lo+i),λi _=>n<=i⟩
theorem aKO{P:Program}{w:World}{K:W.Frag}{tg:Expr}(a it:Addr):Turn P w K tg (yh K a) [it] it (λi h=>h.IsListIter it a i) where
 mem:=by simp
 obj:=λi h st b hb=>by
  have e:b=it:=by simpa using hb
  subst e;obtain⟨o,e,c,d⟩:=st;exact⟨o,e,λv z=>by rw[d] at z;cases z⟩
 keep:=λi h h' st k=>st.at λo e=>k it (by simp) o e
 item:=by
  intro X hP hw hK hc i pins s σ H E I hf st hg;subst hP hw hK;obtain⟨xs,x,hq,hx⟩:=hg;obtain⟨az,rv,p,hz⟩:=I.list hq;obtain⟨u,hu,ru⟩:=rv.get hx;obtain⟨f0,f1,f2,f3,f4,f5⟩:=hf it (by simp);refine wpAny_pyNext_list_item st p.isList (x:=u) (by simpa using hu) λh' sy sb=>?_;have I1:Inv X pins σ H { s with heap:=h' }:=I.turned (t':=s.toks) (λb o hb e=>(sb.2 b hb).trans e) f0 f1 f3 f4 f5;obtain⟨o,e,c,d⟩:=id sy;exact⟨u,rfl,LB (s:={ s with heap:=h' }) e c d (by decide) ⟨x,H,I1,ru,⟨rfl,λys hy=>by rw[I.uP hy hq];exact hx⟩,sy,λb hb=>(hf b hb).1⟩⟩
 done:=by
  intro X hP hw hK hc i pins s σ H E I hf st hg;subst hP hw hK;obtain⟨xs,hq,hx⟩:=hg;obtain⟨az,rv,p,hz⟩:=I.list hq;obtain⟨f0,f1,f2,f3,f4,f5⟩:=hf it (by simp);have hl:=rv.length;exact wpAny_pyNext_list_end (I.ok.hd hc) st p.isList (by simp;lia) λh' eb=>⟨rfl,I.turned (t':=s.toks) (λb o hb e=>eb b o hb e) f0 f1 f3 f4 f5⟩
 self:=λ_ _ _ _ _ st h=>wpAny_pyIter_listiter st h
theorem aIY{P:Program}{w:World}{K:W.Frag}{tg:Expr}(a it:Addr):Turn P w K tg (Au K a) [it] it (λi h=>h.IsTupleIter it a i) where
 mem:=by simp
 obj:=λi h st b hb=>by
  have e:b=it:=by simpa using hb
  subst e;obtain⟨o,e,c,d⟩:=st;exact⟨o,e,λv z=>by rw[d] at z;cases z⟩
 keep:=λi h h' st k=>st.at λo e=>k it (by simp) o e
 item:=by
  intro X hP hw hK hc i pins s σ H E I hf st hg;subst hP hw hK;obtain⟨xs,x,hq,hx⟩:=hg;obtain⟨az,rv,p,hz⟩:=I.tuple hq;obtain⟨u,hu,ru⟩:=rv.get hx;obtain⟨f0,f1,f2,f3,f4,f5⟩:=hf it (by simp);refine wpAny_pyNext_tuple_item st (show s.heap.IsTuple a az.toArray from p) (x:=u) (by simpa using hu) λh' sy sb=>?_;have I1:Inv X pins σ H { s with heap:=h' }:=I.turned (t':=s.toks) (λb o hb e=>(sb.2 b hb).trans e) f0 f1 f3 f4 f5;obtain⟨o,e,c,d⟩:=id sy;exact⟨u,rfl,LB (s:={ s with heap:=h' }) e c d (by decide) ⟨x,H,I1,ru,⟨rfl,λys hy=>by rw[I.aFO hy hq];exact hx⟩,sy,λb hb=>(hf b hb).1⟩⟩
 done:=by
  intro X hP hw hK hc i pins s σ H E I hf st hg;subst hP hw hK;obtain⟨xs,hq,hx⟩:=hg;obtain⟨az,rv,p,hz⟩:=I.tuple hq;obtain⟨f0,f1,f2,f3,f4,f5⟩:=hf it (by simp);have hl:=rv.length;exact wpAny_pyNext_tuple_end (I.ok.hd hc) st (show s.heap.IsTuple a az.toArray from p) (by simp;lia) λh' eb=>⟨rfl,I.turned (t':=s.toks) (λb o hb e=>eb b o hb e) f0 f1 f3 f4 f5⟩
 self:=λ_ _ _ _ _ st h=>wpAny_pyIter_tupleiter st h
theorem aIZ{P:Program}{w:World}{K:W.Frag}{tg:Expr}(it:Addr)(lo:Int)(n:Nat):Turn P w K tg (yg lo n) [it] it (λi h=>IsRangeIter h it (lo+(i:Nat)*1) ((n:Int) - (i:Nat)) 1) where
 mem:=by simp
 obj:=λi h st b hb=>by
  have e:b=it:=by simpa using hb
  subst e;exact⟨_,st,λv z=>by
   have z':Data.fields _=Data.cell v:=z;cases z'⟩
 keep:=λi h h' st k=>k it (by simp) _ st
 item:=by
  intro X hP hw hK hc i pins s σ H E I hf st hg;subst hP hw hK;obtain⟨f0,f1,f2,f3,f4,f5⟩:=hf it (by simp);have W:=Walks.range (prog:=X.prog) (w:=X.w) (I.ok.hd hc) it lo 1 n;refine W.item i s _ _ hg st λv h' tk hv sy kk=>?_;obtain⟨t,rfl⟩:=hv;have I1:Inv X pins σ H { s with heap:=h',toks:=tk }:=I.turned (λb o hb e=>kk b o (by simpa using hb) e) f0 f1 f3 f4 f5;refine⟨_,rfl,LB (s:={ s with heap:=h',toks:=tk }) (n:="range_iterator") sy rfl rfl (by decide) ⟨.int (lo+i),H,I1,⟨t,?_⟩,⟨rfl,rfl⟩,sy,λb hb=>(hf b hb).1⟩⟩;rw[D2]
 done:=by
  intro X hP hw hK hc i pins s σ H E I hf st hg;subst hP hw hK;obtain⟨f0,f1,f2,f3,f4,f5⟩:=hf it (by simp);exact wpAny_pyNext_range_end (I.ok.hd hc) st (by have:n<=i:=hg;lia) λh' eb=>⟨rfl,I.turned (t':=s.toks) (λb o hb e=>eb b o hb e) f0 f1 f3 f4 f5⟩
 self:=λ_ _ _ _ _ st h=>wpAny_pyIter_rangeiter st h
section
variable{X:Cx}{tg:Expr}
def Pm(K:W.Frag)(tl:TE):TI:=λσ H R=>tl σ H λx H1=>∃a,x=.ref a/\(∃xs,bP K H1 a xs)/\R (yh K a) H1
def O5(K:W.Frag)(tl:TE):TI:=λσ H R=>tl σ H λx H1=>∃a,x=.ref a/\(∃xs,gZ K H1 a xs)/\R (Au K a) H1
theorem aNT{l:Expr}{tl:TE}(hl:PE X l tl):PI X tg l (Pm X.K tl):=by
 intro pins s σ H R I h;refine eF (hl pins s σ H _ I h) λv s1 zq=>?_;obtain⟨x,H1,I1,r1,q1⟩:=zq;obtain⟨a,e,⟨xs,hq⟩,q⟩:=q1;subst e;cases r1;obtain⟨az,rv,p,hz⟩:=I1.list hq;refine wpAny_pyIter_list p.isList ?_;refine⟨s1.heap.objs.size,[s1.heap.objs.size],_,_,H1,rfl,I1.kept (t':=s1.toks) λb o e=>fL _ e,aKO a _,⟨_,qP _ rfl,rfl,rfl⟩,λb hb=>?_,q⟩;have e:b=s1.heap.objs.size:=by simpa using hb
 subst e;exact I1.Bg (eO _) (I1.bf.fresh (eO _))
theorem aQa{l:Expr}{tl:TE}(hl:PE X l tl):PI X tg l (O5 X.K tl):=by
 intro pins s σ H R I h;refine eF (hl pins s σ H _ I h) λv s1 zq=>?_;obtain⟨x,H1,I1,r1,q1⟩:=zq;obtain⟨a,e,⟨xs,hq⟩,q⟩:=q1;subst e;cases r1;obtain⟨az,rv,p,hz⟩:=I1.tuple hq;refine wpAny_pyIter_tuple (show s1.heap.IsTuple a az.toArray from p) ?_;refine⟨s1.heap.objs.size,[s1.heap.objs.size],_,_,H1,rfl,I1.kept (t':=s1.toks) λb o e=>fL _ e,aIY a _,⟨_,qP _ rfl,rfl,rfl⟩,λb hb=>?_,q⟩;have e:b=s1.heap.objs.size:=by simpa using hb
 subst e;exact I1.Bg (eO _) (I1.bf.fresh (eO _))
theorem aHI{s:Shared}{R:It->Hp->Prop}{E:ar}{lo hi:Int}{t u v:Tok}{tk:Nat}(I:Inv X pins σ H s)(h1:-(2 ^ 62)<=lo)(h2:lo < 2 ^ 62)(h3:-(2 ^ 62)<=hi)(h4:hi < 2 ^ 62)(q:R (yg lo (hi - lo).toNat) H):wpAny (model X.prog X.w) X.A (pyIter (.ref s.heap.objs.size)) (PIE X pins σ tg R) E { s with heap:=s.heap.push { cls:=.type "range",data:=.fields #[.int lo t,.int hi u,.int 1 v] },toks:=tk }:=by
 refine wpAny_pyIter_range (IsRange.new ..) (small_one h1 h2 h3 h4) ?_;have I1:Inv X pins σ H { s with heap:=s.heap.push { cls:=.type "range",data:=.fields #[.int lo t,.int hi u,.int 1 v] },toks:=tk }:=I.kept λb o e=>fL _ e;refine⟨(s.heap.push { cls:=.type "range",data:=.fields #[.int lo t,.int hi u,.int 1 v] }).objs.size,[(s.heap.push { cls:=.type "range",data:=.fields #[.int lo t,.int hi u,.int 1 v] }).objs.size],_,_,H,rfl,
  I1.kept (t':=tk) λb o e=>fL _ e,aIZ _ lo (hi - lo).toNat,?_,λb hb=>?_,q⟩
 ·have e1:lo+((0:Nat):Int)*1=lo:=by simp
  have e2:(((hi - lo).toNat:Nat):Int) - ((0:Nat):Int)=Builtin.Range.rangeSize lo hi 1:=by rw[rangeSize_one];split <;> lia
  show IsRangeIter _ _ (lo+((0:Nat):Int)*1) ((((hi - lo).toNat:Nat):Int) - ((0:Nat):Int)) 1;rw[e1,e2];exact qP _ rfl
 ·have e:b=(s.heap.push { cls:=.type "range",data:=.fields #[.int lo t,.int hi u,.int 1 v] }).objs.size:=by simpa using hb
  subst e;exact I1.Bg (eO _) (I1.bf.fresh (eO _))
def LA(ta:TA):TI:=λσ H R=>ta σ H λvs H1=>∃j:Int,vs=[.int j]/\-(2 ^ 62)<=j/\j < 2 ^ 62/\R (yg 0 j.toNat) H1
def Lz(ta:TA):TI:=λσ H R=>ta σ H λvs H1=>∃i j:Int,vs=[.int i,.int j]/\(-(2 ^ 62)<=i/\i < 2 ^ 62/\-(2 ^ 62)<=j/\j < 2 ^ 62)/\R (yg i (j - i).toNat) H1
theorem aKP(hg:Gl X "range")(hm:X.mg "range" = none)(ha:PA X [a] ta)(hs:starEach [a] X.env=[(false,eval a X.env)]:=by rfl):PI X tg (.Call (.Name "range" p) [a] [] pos) (LA ta):=by
 intro pins s σ H R I h;refine Call_ (lS I hg hm boot_range (PyProof.Rows.callWith_type1 (eF (ha pos pins s σ H _ I h) λus s1 zq=>?_) hs rfl));obtain⟨vs,H1,I1,r1,q1⟩:=zq;obtain⟨j,e,q1,q2,q⟩:=q1;subst e;cases r1 with
 |cons r rr=>
  cases rr;obtain⟨t,rfl⟩:=r;exact call_range_1 (aHI I1 (by lia) (by lia) q1 q2 (by simpa using q))
theorem aKQ(hg:Gl X "range")(hm:X.mg "range" = none)(ha:PA X [a,b] ta)(hs:starEach [a,b] X.env=[(false,eval a X.env),(false,eval b X.env)]:=by rfl)(cj:starEach [b] X.env=[(false,eval b X.env)]:=by rfl) :
  PI X tg (.Call (.Name "range" p) [a,b] [] pos) (Lz ta):=by
 intro pins s σ H R I h;refine Call_ (lS I hg hm boot_range (PyProof.Rows.callWith_type1 (eF (ha pos pins s σ H _ I h) λus s1 ⟨vs,H1,I1,r1,q1⟩=>?_) (by rw[hs,cj]) (by rw[cj];rfl)));obtain⟨i,j,e,⟨q1,q2,q3,q4⟩,q⟩:=q1;subst e;cases r1 with
 |cons r rr=>
  cases rr with
  |cons r' rr=>
   cases rr;obtain⟨t,rfl⟩:=r;obtain⟨t',rfl⟩:=r';exact call_range_2 (aHI I1 q1 q2 q3 q4 q)
def OS(wi:TI)(g:TG)(tb:TS):TS:=λD σ H=>wi σ H λJ H1=>∃W:Nat->Nat->St->Hp->Prop,(∃m,W 0 m σ H1)/\∀i m σ H,W i m σ H->
 (J.stop i H/\D.nx σ H)\/(J.go i H/\∃N:St->Hp->Prop,(∀σ' H',N σ' H'->∃m',m' < m/\W (i+1) m' σ' H')/\∀x H',J.uy i H x H'->g x σ H' λσ2 H2=>tb { D with nx:=N,ct:=N,bk:=D.nx } σ2 H2)
def HD(fp:ay)(h:Heap):au:=fp.filterMap λb=>(h.get? b).map λo=>(b,o)
theorem rS{h:Heap}(hb:b∈fp)(e:h.get? b=some o):(b,o)∈HD fp h:=List.mem_filterMap.mpr ⟨b,hb,by rw[e];rfl⟩
theorem aKR{h:Heap}{p:Addr×Obj}(hp:p∈HD fp h):p.1∈fp/\h.get? p.1=some p.2:=by
 obtain⟨b,hb,e⟩:=List.mem_filterMap.mp hp;cases q:h.get? b with
 |none=>rw[q] at e;cases e
 |some o=>
  rw[q] at e;have e':(b,o)=p:=Option.some.inj e;subst e';exact⟨hb,q⟩
theorem Inv.pinned{s:Shared}(I:Inv X pins σ H s)(hf:∀b∈fp,xo X pins H b)(ho:∀b∈fp,∃o,s.heap.get? b=some o/\∀v,o.data≠.cell v):Inv X (pins++HD fp s.heap) σ H s:=
 I.LW λp hp=>(oa.mp hp).elim (λz=>I.pin p (wa _ z)) λz=>by
  obtain⟨hb,e⟩:=aKR z;obtain⟨f0,f1,f2,_⟩:=hf p.1 hb;obtain⟨o,e',d⟩:=ho p.1 hb;rw[e] at e';cases e';exact⟨e,f0,f1,f2,d⟩
theorem Inv.Mb(I:Inv X (pins++pl) σ H s):Inv X pins σ H s:=I.LW λp hp=>I.pin p (wa _ (D9 _ hp))
theorem aQc(hp:PassesOwn (model X.prog X.w) X.A X.env X.xe)(hc:X.calm=true)(hi:PI X tg iter wi)(hg:PG X tg g)(hb:wt X body tb)(hs:∀x,foldedSetIterable iter X.env x=pure x:=by intro _;rfl):PS X (.For tg iter body [] pos) (OS wi g tb):=by
 intro pins s σ H D I h;refine wpAny_For (eF (hi pins s σ H _ I h) λv s1 h1=>eF h1 λKk s2 h2=>?_) hs;obtain⟨it,fp,tn,J,H2,e,I2,T,Gj,f2,W,⟨m0,w0⟩,turn⟩:=h2;subst e;have wu:∀{H':Hp},(∀b∈fp,H' b=none)->∀b∈fp,xo X pins H' b:=λhn b hb=>⟨hn b hb,(f2 b hb).2⟩
 refine codeAny_forLoop_any (λn s'=>∃i σ' H',Inv X pins σ' H' s'/\tn i s'.heap/\(∀b∈fp,H' b=none)/\W i n σ' H') ?_ m0 ⟨0,σ,H2,I2,Gj,λb hb=>(f2 b hb).1,w0⟩;rintro n s3 ⟨i,σ3,H3,I3,Vy,W4,w3⟩;rcases turn i n σ3 H3 w3 with ⟨stop,qn⟩|⟨go,N,hN,step⟩
 ·refine wpAny_passesOwn hp (eF (T.done X rfl rfl rfl hc i pins s3 σ3 H3 X.xe I3 (wu W4) Vy stop) λr s4 ⟨hr,I4⟩=>?_);subst hr;exact wpAny_execs_nil ⟨σ3,H3,I4,qn⟩
 ·refine wpAny_passesOwn hp (eF (T.item X rfl rfl rfl hc i pins s3 σ3 H3 X.xe I3 (wu W4) Vy go) λr s4 ⟨u,hr,h4⟩=>?_);subst hr;refine wpAny_passesOwn hp (eF h4 λ_ s5 zq=>?_);obtain⟨x,H5,I5,r5,y5,Dk,Ot⟩:=zq;have Rr:=I5.pinned (wu Ot) (T.obj _ _ Dk);refine wpAny_passesOwn hp (eF (hg _ s5 σ3 H5 x u _ Rr r5 (step x H5 y5)) λ_ s6 zq=>?_);obtain⟨σ6,H6,I6,q6⟩:=zq;refine wpAny_passesOwn hp (eF (hb _ s6 σ6 H6 _ I6 q6) λf s7 q7=>?_);have again:∀{σ7:St} {H7:Hp},Inv X (pins++HD fp s5.heap) σ7 H7 s7->N σ7 H7->∃m,m < n/\∃i σ' H',Inv X pins σ' H' s7/\tn i s7.heap/\(∀b∈fp,H' b=none)/\W i m σ' H':=λ{σ7 H7} I7 n7=>by
   obtain⟨m',hm,w7⟩:=hN σ7 H7 n7;refine⟨m',hm,i+1,σ7,H7,I7.Mb,T.keep _ _ _ Dk λb hb o e=>(I7.pin (b,o) (wa _ (wa _ (rS hb e)))).1,λb hb=>?_,w7⟩;obtain⟨o,e,d⟩:=T.obj _ _ Dk b hb;exact(I7.pin (b,o) (wa _ (wa _ (rS hb e)))).2.1
  cases f with
  |next=>obtain⟨σ7,H7,I7,n7⟩:=q7;exact again I7 n7
  |cont=>obtain⟨σ7,H7,I7,n7⟩:=q7;exact again I7 n7
  |brk=>obtain⟨σ7,H7,I7,q7⟩:=q7;exact⟨σ7,H7,I7.Mb,q7⟩
  |ret v=>obtain⟨x7,σ7,H7,I7,r7,q7⟩:=q7;exact⟨x7,σ7,H7,I7.Mb,r7,q7⟩
end
theorem aLS{K:W.Frag}{a:Addr}{xs:List V}{g:TG}{tb:TS}{D:Ends}{σ:St}{H:Hp}(Pv:Nat->St->Hp->Prop)(h0:Pv 0 σ H)(hl:∀i σ H,i<=xs.length->Pv i σ H->bP K H a xs)
  (hs:∀i x σ H,xs[i]?=some x->Pv i σ H->g x σ H λσ2 H2=>tb { D with nx:=Pv (i+1),ct:=Pv (i+1),bk:=D.nx } σ2 H2) (hd:∀σ H,Pv xs.length σ H->D.nx σ H) :
  ∃W:Nat->Nat->St->Hp->Prop,(∃m,W 0 m σ H)/\∀i m σ H,W i m σ H->
   ((yh K a).stop i H/\D.nx σ H)\/((yh K a).go i H/\∃N:St->Hp->Prop,(∀σ' H',N σ' H'->∃m',m' < m/\W (i+1) m' σ' H')/\∀x H',(yh K a).uy i H x H'->g x σ H' λσ2 H2=>tb { D with nx:=N,ct:=N,bk:=D.nx } σ2 H2):=by
 refine⟨λi m σ H=>m=xs.length - i/\i<=xs.length/\Pv i σ H,⟨xs.length,by simp,qw _,h0⟩,?_⟩;rintro i m σ H ⟨rfl,hi,p⟩;have q:=hl i σ H hi p;by_cases fh:i < xs.length
 ·refine .inr ⟨⟨xs,xs[i],q,by simp[fh]⟩,Pv (i+1),λσ' H' p'=>⟨xs.length - (i+1),by lia,rfl,fh,p'⟩,λx H' y=>?_⟩;obtain⟨e,y⟩:=y;subst e;exact hs i x σ _ (y xs q) p
 ·have e:i=xs.length:=by lia
  subst e;exact .inl ⟨⟨xs,q,eO _⟩,hd σ H p⟩
theorem aNU{K:W.Frag}{a:Addr}{xs:List V}{g:TG}{tb:TS}{D:Ends}{σ:St}{H:Hp}(Pv:Nat->St->Hp->Prop)(h0:Pv 0 σ H)(hl:∀i σ H,i<=xs.length->Pv i σ H->gZ K H a xs)
  (hs:∀i x σ H,xs[i]?=some x->Pv i σ H->g x σ H λσ2 H2=>tb { D with nx:=Pv (i+1),ct:=Pv (i+1),bk:=D.nx } σ2 H2) (hd:∀σ H,Pv xs.length σ H->D.nx σ H) :
  ∃W:Nat->Nat->St->Hp->Prop,(∃m,W 0 m σ H)/\∀i m σ H,W i m σ H->
   ((Au K a).stop i H/\D.nx σ H)\/((Au K a).go i H/\∃N:St->Hp->Prop,(∀σ' H',N σ' H'->∃m',m' < m/\W (i+1) m' σ' H')/\∀x H',(Au K a).uy i H x H'->g x σ H' λσ2 H2=>tb { D with nx:=N,ct:=N,bk:=D.nx } σ2 H2):=by
 refine⟨λi m σ H=>m=xs.length - i/\i<=xs.length/\Pv i σ H,⟨xs.length,by simp,qw _,h0⟩,?_⟩;rintro i m σ H ⟨rfl,hi,p⟩;have q:=hl i σ H hi p;by_cases fh:i < xs.length
 ·refine .inr ⟨⟨xs,xs[i],q,by simp[fh]⟩,Pv (i+1),λσ' H' p'=>⟨xs.length - (i+1),by lia,rfl,fh,p'⟩,λx H' y=>?_⟩;obtain⟨e,y⟩:=y;subst e;exact hs i x σ _ (y xs q) p
 ·have e:i=xs.length:=by lia
  subst e;exact .inl ⟨⟨xs,q,eO _⟩,hd σ H p⟩
theorem aKS{lo:Int}{n:Nat}{g:TG}{tb:TS}{D:Ends}{σ:St}{H:Hp}(Pv:Nat->St->Hp->Prop)(h0:Pv 0 σ H)
  (hs:∀i σ H,i < n->Pv i σ H->g (.int (lo+i)) σ H λσ2 H2=>tb { D with nx:=Pv (i+1),ct:=Pv (i+1),bk:=D.nx } σ2 H2) (hd:∀σ H,Pv n σ H->D.nx σ H) :
  ∃W:Nat->Nat->St->Hp->Prop,(∃m,W 0 m σ H)/\∀i m σ H,W i m σ H->
   ((yg lo n).stop i H/\D.nx σ H)\/((yg lo n).go i H/\∃N:St->Hp->Prop,(∀σ' H',N σ' H'->∃m',m' < m/\W (i+1) m' σ' H')/\∀x H',(yg lo n).uy i H x H'->g x σ H' λσ2 H2=>tb { D with nx:=N,ct:=N,bk:=D.nx } σ2 H2):=by
 refine⟨λi m σ H=>m=n - i/\i<=n/\Pv i σ H,⟨n,by simp,qw _,h0⟩,?_⟩;rintro i m σ H ⟨rfl,hi,p⟩;by_cases fh:i < n
 ·refine .inr ⟨fh,Pv (i+1),λσ' H' p'=>⟨n - (i+1),by lia,rfl,fh,p'⟩,λx H' y=>?_⟩;obtain⟨e,y⟩:=y;subst e y;exact hs i σ _ fh p
 ·have e:i=n:=by lia
  subst e;exact .inl ⟨eO _,hd σ H p⟩
abbrev R2:=V->V->Hp->VK->Prop
def uS(X:Cx)(f:Value->Value->Sem Value)(r:R2):Prop:=
 ∀(pins:au) (s:Shared) (σ:St) (H:Hp) (x y:V) (v u:Value) (Q:VK),Inv X pins σ H s->RelV x v->RelV y u->r x y H Q->
  wpAny (model X.prog X.w) X.A (f v u) (EP X pins σ Q) X.xe s
def Mi(X:Cx)(f:Value->Sem Value)(r:V->Hp->VK->Prop):Prop:=
 ∀(pins:au) (s:Shared) (σ:St) (H:Hp) (x:V) (v:Value) (Q:VK),Inv X pins σ H s->RelV x v->r x H Q->
  wpAny (model X.prog X.w) X.A (f v) (EP X pins σ Q) X.xe s
def eS(X:Cx)(f:Value)(r:List V->Hp->VK->Prop):Prop:=
 ∀(pins:au) (s:Shared) (σ:St) (H:Hp) (xs:List V) (us:aj) (Q:VK),Inv X pins σ H s->Vals xs us->r xs H Q->
  wpAny (model X.prog X.w) X.A (call f us) (EP X pins σ Q) X.xe s
def Bn(r:R2)(ta tb:TE):TE:=λσ H Q=>ta σ H λx H1=>tb σ H1 λy H2=>r x y H2 Q
def MI(r:V->Hp->VK->Prop)(ta:TE):TE:=λσ H Q=>ta σ H λx H1=>r x H1 Q
def rI(C:Int->Int->Prop)(g:Int->Int->V):R2:=λx y H Q=>∃i j,x=.int i/\y=.int j/\C i j/\Q (g i j) H
def AX(g:Int->Int->V):R2:=λx y H Q=>∃i j,x=.int i/\y=.int j/\Q (g i j) H
def rU(g:Int->V):V->Hp->VK->Prop:=λx H Q=>∃i,x=.int i/\Q (g i) H
section
variable{X:Cx}{a b c:Expr}{ta tb tc:TE}{pos:Pos}
theorem OR(ha:PE X a ta)(hb:PE X b tb){R:V->V->Hp->Prop}(I:Inv X pins σ H s)(h:ta σ H λx H1=>tb σ H1 λy H2=>R x y H2){Q:ar}{f:Value->Value->Sem Value}(hf:∀v u s2 x y H2,Inv X pins σ H2 s2->RelV x v->RelV y u->R x y H2->wpAny (model X.prog X.w) X.A (f v u) Q X.xe s2) :
  wpAny (model X.prog X.w) X.A (eval a X.env) (λv bg=>wpAny (model X.prog X.w) X.A (eval b X.env) (λu rg=>wpAny (model X.prog X.w) X.A (f v u) Q X.xe rg) X.xe bg) X.xe s:=by
 refine eF (ha pins s σ H _ I h) λv s1 zq=>?_;obtain⟨x,H1,I1,r1,q1⟩:=zq;refine eF (hb pins s1 σ H1 _ I1 q1) λu s2 zq=>?_;obtain⟨y,H2,I2,r2,q2⟩:=zq;exact hf v u s2 x y H2 I2 r1 r2 q2
theorem aRF(ho:uS X (binaryOp op) r)(ha:PE X a ta)(hb:PE X b tb):PE X (.BinOp a op b pos) (Bn r ta tb):=by
 intro pins s σ H Q I h;exact wpAny_BinOp (OR ha hb I h λv u s2 x y H2 I2 rx ry q=>ho pins s2 σ H2 x y v u Q I2 rx ry q)
theorem aRG{r:V->Hp->VK->Prop}(ho:Mi X (unaryOp op) r)(ha:PE X a ta):PE X (.UnaryOp op a pos) (MI r ta):=by
 intro pins s σ H Q I h;exact UnaryOp_ (eF (ha pins s σ H _ I h) λv s1 ⟨x,H1,I1,r1,q1⟩=>ho pins s1 σ H1 x v Q I1 r1 q1)
theorem Kd{f:Value->Value->Sem Value}{C:Int->Int->Prop}{g:Int->Int->Int}
  (rule:∀(i j:Int) (t u:Tok) (s:Shared) (Q:ar) (E:ar),C i j->Q (.int (g i j) s.toks) { s with toks:=s.toks+1 }->wpAny (model X.prog X.w) X.A (f (.int i t) (.int j u)) Q E s) :
  uS X f (rI C λi j=>.int (g i j)):=by
 intro pins s σ H x y v u Q I rx ry h;obtain⟨i,j,rfl,rfl,hc,q⟩:=h;obtain⟨t,rfl⟩:=rx;obtain⟨t',rfl⟩:=ry;exact rule i j t t' s _ _ hc ⟨.int (g i j),H,I.tok _,⟨_,rfl⟩,q⟩
theorem Yx{f:Value->Value->Sem Value}{g:Int->Int->Int}
  (rule:∀(i j:Int) (t u:Tok) (s:Shared) (Q:ar) (E:ar),Q (.int (g i j) s.toks) { s with toks:=s.toks+1 }->wpAny (model X.prog X.w) X.A (f (.int i t) (.int j u)) Q E s) :
  uS X f (AX λi j=>.int (g i j)):=by
 intro pins s σ H x y v u Q I rx ry h;obtain⟨i,j,rfl,rfl,q⟩:=h;obtain⟨t,rfl⟩:=rx;obtain⟨t',rfl⟩:=ry;exact rule i j t t' s _ _ ⟨.int (g i j),H,I.tok _,⟨_,rfl⟩,q⟩
theorem Lk{f:Value->Value->Sem Value}{g:Int->Int->Bool}
  (rule:∀(i j:Int) (t u:Tok) (s:Shared) (Q:ar) (E:ar),Q (.bool (g i j)) s->wpAny (model X.prog X.w) X.A (f (.int i t) (.int j u)) Q E s) :
  uS X f (AX λi j=>.bl (g i j)):=by
 intro pins s σ H x y v u Q I rx ry h;obtain⟨i,j,rfl,rfl,q⟩:=h;obtain⟨t,rfl⟩:=rx;obtain⟨t',rfl⟩:=ry;exact rule i j t t' s _ _ ⟨.bl (g i j),H,I,rfl,q⟩
def aSz(i j:Int):Prop:=0 < j/\j < 1073741824
def aSA(i j:Int):Prop:=0<=j/\j<=1000000/\i.natAbs < 2 ^ 64
def FC(i j:Int):Prop:=(-(2 ^ 64) < i/\i < 2 ^ 64)\/(-(2 ^ 64) < j/\j < 2 ^ 64)
theorem FC.ok{i j:Int}(h:FC i j):IntMulOk i j:=by
 rcases h with ⟨h1,h2⟩|⟨h1,h2⟩
 ·exact .of_left (intBits_le_64 h1 h2)
 ·exact .of_right (intBits_le_64 h1 h2)
theorem aQe:uS X (binaryOp .Add) (AX λi j=>.int (i+j)):=Yx λ_ _ _ _ _ _ _ q=>add_int q
theorem dS:uS X (binaryOp .Sub) (AX λi j=>.int (i - j)):=Yx λ_ _ _ _ _ _ _ q=>sub_int q
theorem aQf:uS X (binaryOp .Mult) (rI FC λi j=>.int (i*j)):=Kd λ_ _ _ _ _ _ _ hc q=>mul_int q hc.ok
theorem Qd:uS X (binaryOp .FloorDiv) (rI aSz λi j=>.int (i / j)):=Kd λi j _ _ _ _ _ hc q=>by
 have h1:(0:Int) < j:=hc.1;have h2:j < 1073741824:=hc.2;exact floordiv_int (by lia) (by rw[Int.fdiv_eq_ediv_of_nonneg i (by lia)];exact q) (.inl (PyProof.noPylong_small (by lia)))
theorem p9:uS X (binaryOp .Mod) (rI (λ_ j=>0 < j) λi j=>.int (i % j)):=Kd λi j _ _ _ _ _ hc q=>by
 have h1:(0:Int) < j:=hc;exact mod_int' (by lia) (by rw[Int.fmod_eq_emod_of_nonneg i (by lia)];exact q)
theorem zQ:uS X (binaryOp .Pow) (rI aSA λi j=>.int (i ^ j.toNat)):=Kd λ_ _ _ _ _ _ _ hc q=>pow_int_small hc.1 hc.2.1 hc.2.2 q
theorem unI{f:Value->Sem Value}{g:Int->Int}
  (rule:∀(i:Int) (t:Tok) (s:Shared) (Q:ar) (E:ar),Q (.int (g i) s.toks) { s with toks:=s.toks+1 }->wpAny (model X.prog X.w) X.A (f (.int i t)) Q E s) :
  Mi X f (rU λi=>.int (g i)):=by
 intro pins s σ H x v Q I rx h;obtain⟨i,rfl,q⟩:=h;obtain⟨t,rfl⟩:=rx;exact rule i t s _ _ ⟨.int (g i),H,I.tok _,⟨_,rfl⟩,q⟩
theorem uT:Mi X (unaryOp .USub) (rU λi=>.int (-i)):=unI λ_ _ _ _ _ q=>neg_int q
theorem Hu:uS X (compareOp .Lt) (AX λi j=>.bl (decide (i < j))):=Lk λ_ _ _ _ _ _ _ q=>lt_int q
theorem BE:uS X (compareOp .LtE) (AX λi j=>.bl (decide (i<=j))):=Lk λ_ _ _ _ _ _ _ q=>le_int q
theorem CN:uS X (compareOp .Gt) (AX λi j=>.bl (decide (j < i))):=Lk λ_ _ _ _ _ _ _ q=>gt_int q
theorem YO:uS X (compareOp .GtE) (AX λi j=>.bl (decide (j<=i))):=Lk λ_ _ _ _ _ _ _ q=>ge_int q
theorem uS.or{f:Value->Value->Sem Value}{r':R2}(h:uS X f r)(h':uS X f r'):uS X f (λx y H Q=>r x y H Q\/r' x y H Q):=by
 intro pins s σ H x y v u Q I rx ry q;rcases q with q|q
 ·exact h pins s σ H x y v u Q I rx ry q
 ·exact h' pins s σ H x y v u Q I rx ry q
theorem bD(b:Expr)(h:op≠.In:=by decide)(h2:op≠.NotIn:=by decide):behindInMarks op b=false:=by
 have e1:(op == CmpOp.In)=false:=by cases op <;> first|rfl|exact absurd rfl h
 have e2:(op == CmpOp.NotIn)=false:=by cases op <;> first|rfl|exact absurd rfl h2
 cases b <;> simp[behindInMarks,e1,e2]
theorem aNW(ho:uS X (compareOp op) r)(ha:PE X a ta)(hb:PE X b tb)(hm:behindInMarks op b=false):PE X (.Compare a [op] [b] pos) (Bn r ta tb):=by
 intro pins s σ H Q I h;exact wpAny_Compare1 (OR ha hb I h λv u s2 x y H2 I2 rx ry q=>ho pins s2 σ H2 x y v u Q I2 rx ry q) hm
def Pl(t:TE):TT:=λσ H Q=>t σ H λx H'=>∃k,x=.bl k/\Q k H'
theorem aNX(ho:uS X (compareOp op) r)(ha:PE X a ta)(hb:PE X b tb)(hm:behindInMarks op b=false):PT X (.Compare a [op] [b] pos) (Pl (Bn r ta tb)):=by
 intro pins s σ H Q I h;refine wpAny_isTrue_Compare1 (eF (ha pins s σ H _ I h) λv s1 ⟨x,H1,I1,r1,q1⟩=>eF (hb pins s1 σ H1 _ I1 q1) λu s2 ⟨y,H2,I2,r2,q2⟩=>
  eF (ho pins s2 σ H2 x y v u _ I2 r1 r2 q2) λc s3 ⟨z,H3,I3,r3,k,e,q3⟩=>?_) hm
 subst e;cases r3;exact wpAny_truthy_bool ⟨H3,I3,q3⟩
def P5(r r':R2)(ta tb tc:TE):TE:=λσ H Q=>ta σ H λx H1=>tb σ H1 λy H2=>r x y H2 λz H3=>∃k,z=.bl k/\
 (if k=true then tc σ H3 λw' H4=>r' y w' H4 Q else Q (.bl false) H3)
theorem aLU(ho:uS X (compareOp op) r)(Ai:uS X (compareOp Gp) r')(ha:PE X a ta)(hb:PE X b tb)(hc:PE X c tc)(hm:lastMarks [op,Gp] [b,c]=false:=by with_unfolding_all rfl):PE X (.Compare a [op,Gp] [b,c] pos) (P5 r r' ta tb tc):=by
 intro pins s σ H Q I h;refine Compare_chain (eF (ha pins s σ H _ I h) λv s1 ⟨x,H1,I1,r1,q1⟩=>chain_link (eF (hb pins s1 σ H1 _ I1 q1) λu s2 ⟨y,H2,I2,r2,q2⟩=>
  eF (ho pins s2 σ H2 x y v u _ I2 r1 r2 q2) λd s3 ⟨z,H3,I3,r3,k,e,q3⟩=>?_)) hm
 subst e;cases r3;refine wpAny_truthy_bool ?_;cases k with
 |false=>exact ite_ff ⟨.bl false,H3,I3,rfl,q3⟩
 |true=>exact ite_tt (chain_last (eF (hc pins s3 σ H3 _ I3 q3) λw' s4 ⟨z',H4,I4,r4,q4⟩=>Ai pins s4 σ H4 y z' u w' Q I4 r2 r4 q4))
theorem FT:(sizeLine:Nat) < 2 ^ 63:=by rw[xx];decide
theorem vals1(r:Vals [x] us):∃u,us=[u]/\RelV x u:=by
 cases r with
 |cons r1 r2=>cases r2;exact⟨_,rfl,r1⟩
theorem vals2(r:Vals [x,y] us):∃u w',us=[u,w']/\RelV x u/\RelV y w':=by
 cases r with
 |cons r1 r2=>
  cases r2 with
  |cons r3 r4=>cases r4;exact⟨_,_,rfl,r1,r3⟩
theorem aLV:eS X (.builtin "abs") (λxs H Q=>∃i,xs=[.int i]/\Q (.int (if i < 0 then -i else i)) H):=by
 intro pins s σ H xs us Q I r h;obtain⟨i,rfl,q⟩:=h;obtain⟨u,rfl,t,rfl⟩:=vals1 r;exact call_abs_int λu tk=>⟨.int (if i < 0 then -i else i),H,I.tok _,⟨_,rfl⟩,q⟩
theorem aKU(hc:X.calm=true):eS X (.builtin "max") (λxs H Q=>∃i j,xs=[.int i,.int j]/\Q (.int (if j > i then j else i)) H):=by
 intro pins s σ H xs us Q I r h;obtain⟨i,j,rfl,q⟩:=h;obtain⟨u,w',rfl,⟨t,rfl⟩,⟨t',rfl⟩⟩:=vals2 r;refine max_two_ints (I.ok.hd hc) λh' tk k=>⟨_,H,I.kept k,?_,q⟩
 by_cases hj:j > i
 ·rw[cT hj,cT hj];exact⟨_,rfl⟩
 ·rw[cD hj,cD hj];exact⟨_,rfl⟩
theorem aKV(hc:X.calm=true):eS X (.builtin "min") (λxs H Q=>∃i j,xs=[.int i,.int j]/\Q (.int (if j < i then j else i)) H):=by
 intro pins s σ H xs us Q I r h;obtain⟨i,j,rfl,q⟩:=h;obtain⟨u,w',rfl,⟨t,rfl⟩,⟨t',rfl⟩⟩:=vals2 r;refine min_two_ints (I.ok.hd hc) λh' tk k=>⟨_,H,I.kept k,?_,q⟩
 by_cases hj:j < i
 ·rw[cT hj,cT hj];exact⟨_,rfl⟩
 ·rw[cD hj,cD hj];exact⟨_,rfl⟩
theorem aKW:eS X (.type "int") (λxs H Q=>(∃i,xs=[.int i]/\Q (.int i) H)\/∃k,xs=[.bl k]/\Q (.int (if k then 1 else 0)) H):=by
 intro pins s σ H xs us Q I r h;rcases h with ⟨i,rfl,q⟩|⟨k,rfl,q⟩
 ·obtain⟨u,rfl,t,rfl⟩:=vals1 r;exact call_int_int ⟨.int i,H,I,⟨_,rfl⟩,q⟩
 ·obtain⟨u,rfl,r1⟩:=vals1 r;cases r1;exact call_int_bool ⟨.int (if k then 1 else 0),H,I.tok _,⟨_,rfl⟩,q⟩
def Yw(K:W.Frag)(x:V)(H:Hp)(n:Nat):Prop:=
 match x with
 |.str y=>y.length<=sizeLine/\n=y.length
 |.Fu y=>y.size<=sizeLine/\n=y.size
 |.ref p=>(∃xs,bP K H p xs/\n=xs.length)\/∃xs,gZ K H p xs/\n=xs.length
 |_=>False
theorem aLW:eS X (.builtin "len") (λxs H Q=>∃x n,xs=[x]/\Yw X.K x H n/\Q (.int n) H):=by
 intro pins s σ H xs us Q I r h;obtain⟨x,n,rfl,e,q⟩:=h;obtain⟨u,rfl,rx⟩:=vals1 r;have hl:=FT;have hs:sizeLine=16777216:=xx;cases x with
 |str y=>
  obtain⟨t,rfl⟩:=rx;obtain⟨hy,e'⟩ : y.length<=sizeLine/\n=y.length:=e;subst e';exact len_str (by lia) ⟨.int _,H,I.tok _,⟨_,rfl⟩,q⟩
 |Fu y=>
  obtain⟨t,rfl⟩:=rx;obtain⟨hy,e'⟩ : y.size<=sizeLine/\n=y.size:=e;subst e';exact PySem.W.len_bytes (by lia) ⟨.int _,H,I.tok _,⟨_,rfl⟩,q⟩
 |ref p=>
  cases rx;have e':(∃xs,bP X.K H p xs/\n=xs.length)\/∃xs,gZ X.K H p xs/\n=xs.length:=e;rcases e' with ⟨xs,hx,e'⟩|⟨xs,hx,e'⟩
  ·subst e';obtain⟨az,r',pl,hz⟩:=I.list hx;have hlen:=r'.length;exact Calls.call_len_list pl.isList (by simp only[jT];lia) ⟨.int xs.length,H,I.tok _,⟨_,by simp only[jT];rw[hlen]⟩,q⟩
  ·subst e';obtain⟨az,r',pl,hz⟩:=I.tuple hx;have hlen:=r'.length;exact len_tuple pl (by simp only[jT];lia) ⟨.int xs.length,H,I.tok _,⟨_,by simp only[jT];rw[hlen]⟩,q⟩
 |_=>exact(show False from e).elim
end
structure DY(h:Heap)(x dx C:Addr)(mA:Str->aw):Prop where
 obj:h.get? x=some (PySem.W.instObj C dx)
 ns:h.Ns1 dx mA
 ne:dx≠x
theorem aKX{h:Heap}{mA:Str->aw}(n:h.Ns1 dx mA):∃od,h.get? dx=some od/\∀name,PySem.W.lookIn name od=some (mA name):=by
 obtain⟨o,es,ep,ho,hd,hk,_,hm⟩:=n;refine⟨o,ho,λname=>?_⟩;have e:=hm name;unfold nsFind findBy at e;rw[<-Array.find?_toList] at e;unfold PySem.W.lookIn;rw[hd];dsimp only;split
 ·rename_i y q;rw[q] at e;exact congrArg some e
 ·rename_i q;rw[q] at e;have a:es.toList.any (·.refKey)=false:=by
   rw[List.any_eq_false];intro y hy;obtain⟨z,t,UI⟩:=hk y (Array.mem_toList_iff.mp hy);simp[DictEntry.refKey,UI]
  have a':¬es.toList.any (·.refKey)=true:=by rw[a];exact oh
  rw[cD a'];exact congrArg some e
theorem DY.look{mA:Str->aw}(I:DY h x dx C mA):∃od,PySem.W.InstAt h x (PySem.W.instObj C dx) C (some od)/\∀name,PySem.W.lookIn name od=some (mA name):=
 let ⟨od,ho,hl⟩:=aKX I.ns
 ⟨od,⟨I.obj,rfl,rfl,ho⟩,hl⟩
section
variable{prog:Program}{w:World}{A:Around}{E:ar}{s:Shared}{K:W.Frag}{x dx C f:Addr}{mA:Str->aw}{name:Str}{v:Value}
theorem get_map{expr:Bool}{Q:ar}(X:K.In s.heap)(I:DY s.heap x dx C mA)(hg:PySem.W.plainGet K C name=true)(hh:PySem.W.hasDictIn K C=true)
  (ha:W.findIn K (.ref C) name=some none) (hv:mA name=some v) (Ae:PySem.W.handedIn v=true) (h:Q v { s with toks:=s.toks+1 }) :
  wpAny (model prog w) A (getAttr (.ref x) name expr) Q E s:=by
 obtain⟨od,J,hl⟩:=I.look;exact PySem.W.get_value X J (PySem.W.plainGet_of hg).1 (PySem.W.findObj_own hh ha rfl (by rw[hl,hv])) Ae h
theorem aLX{pl:Sem Bool}{Q:Value×aj->Shared->Prop}(X:K.In s.heap)(I:DY s.heap x dx C mA)(hg:PySem.W.plainGet K C name=true)
  (hf:W.findIn K (.ref C) name=some (some (.ref f))) (ht:PySem.W.isFn K (.ref f)=true) (hv:mA name=none) (h:Q (.ref f,[.ref x]) s) :
  wpAny (model prog w) A (getMethod (.ref x) name pl) Q E s:=by
 obtain⟨od,J,hl⟩:=I.look;exact PySem.W.method_fn X J (PySem.W.plainGet_of hg).1 (PySem.W.plainGet_of hg).2 hf (beq_iff_eq.mp ht) (by show(PySem.W.lookIn name od).map (·.isSome)=some false;rw[hl,hv];rfl) h
theorem aNY{ns:ah}{Q:Unit->Shared->Prop}(X:K.In s.heap)(I:DY s.heap x dx C mA)
  (hs:PySem.W.findIn K (.ref C) "__setattr__" = some (some (.builtin "object.__setattr__"))) (hp:PySem.W.plainOver K C=true) (ht:PySem.W.takerIn K C name=some none) (hh:PySem.W.hasDictIn K C=true)
  (hw:PySem.Within mA ns) (hsz:ns.length<=sizeLine)
  (h:∀h',DY h' x dx C (λy=>if y=name then some v else mA y)->Heap.SameBut dx s.heap h'->Q () { s with heap:=h',toks:=s.toks+2 }) :
  wpAny (model prog w) A (setAttr (.ref x) name v) Q E s:=by
 obtain⟨od,J,hl⟩:=I.look;refine PySem.W.set_plain X J hs (PySem.W.osa_open (s:={ s with toks:=s.toks+1 }) (r:=none) X J hp ht λb=>?_);obtain⟨cd,hc,Fb⟩:=PySem.W.any_some hh;have hx:s.heap.get? x=some ⟨.ref C,some dx,.plain,#[]⟩:=I.obj;refine bN (dY (bN (bN (wpAny_loadPart hx (bN (PySem.W.Looks.here (s:={ s with toks:=s.toks+1 }) (PySem.W.looks_clsIn X hc) ?_))))));rw[Fb];refine dY (a:=some dx) (bN (dY (bN ?_)));refine wpAny_nsSet1 (s:={ s with toks:=s.toks+1 }) I.ns λh' tj cj=>?_;obtain⟨oD,esD,epD,hoD,hdD,hcD⟩:=tj.count (PySem.Within.cons name v hw);refine bN (wpAny_lookBehind hoD (by rw[hdD];exact pastItsLine_dict (vm hcD (by rw[mv];lia))) ?_);exact dY (h _ ⟨(cj.2 _ (Ne.symm I.ne)).trans I.obj,tj,I.ne⟩ cj)
theorem aLY{R:Result->Shared->Prop}(X:K.In s.heap)(hm:PySem.W.makesIn K C=true)(hi:PySem.W.findIn K (.ref C) "__init__" = some (some (.ref f)))(hf:PySem.W.typeIn K (.ref f)=some (.type "function"))(h:codeAny (model prog w) (A.under (.builtin "type.__call__" ⟨.ref C::vs,kw⟩)) (.call (.ref f) ⟨.ref (s.heap.objs.size+1)::vs,kw⟩) (PySem.W.InitBack (s.heap.objs.size+1) R)
   { s with heap:=(s.heap.push PySem.W.emptyDict).push (PySem.W.instObj C s.heap.objs.size) }) :
  codeAny (model prog w) A (.call (.ref C) ⟨vs,kw⟩) R s:=by
 obtain⟨hh,g,d,t,os⟩:=s;exact PySem.W.make_core (PySem.W.makes_of X hm) (PySem.W.looks_findIn X hi) (λself=>PySem.W.bind_fn X self hf) (.inl rfl) h
end
def rT(f:Str)(v:V):List (Str×V)->List (Str×V)
 |[]=>[(f,v)]
 |(g,x)::r=>if g=f then (g,v)::r else (g,x)::rT f v r
theorem aCh(f g:Str)(v:V):∀fs:List (Str×V),(rT f v fs).lookup g=if g=f then some v else fs.lookup g
 |[]=>by
  show List.lookup g [(f,v)]=_;by_cases h:g=f
  ·have hb:(g == f)=true:=beq_iff_eq.mpr h;simp only[List.lookup,hb,cT h]
  ·have hb:(g == f)=false:=beq_eq_false_iff_ne.mpr h;simp only[List.lookup,hb,cD h]
 |(k,x)::r=>by
  have ih:=aCh f g v r;rw[show rT f v ((k,x)::r)=(if k=f then (k,v)::r else (k,x)::rT f v r) from rfl];by_cases hk:k=f
  ·rw[cT hk];by_cases h:g=k
   ·have hb:(g == k)=true:=beq_iff_eq.mpr h;simp only[List.lookup,hb,cT (h.trans hk)]
   ·have hb:(g == k)=false:=beq_eq_false_iff_ne.mpr h;simp only[List.lookup,hb,cD (λe:g=f=>h (e.trans hk.symm))]
  ·rw[cD hk];by_cases h:g=k
   ·have hb:(g == k)=true:=beq_iff_eq.mpr h;simp only[List.lookup,hb,cD (λe:g=f=>hk (h.symm.trans e))]
   ·have hb:(g == k)=false:=beq_eq_false_iff_ne.mpr h;simp only[List.lookup,hb];exact ih
theorem QJ(f:Str)(v:V):∀fs:List (Str×V),f∈(rT f v fs).map (·.1)/\∀g,g∈fs.map (·.1)->g∈(rT f v fs).map (·.1)
 |[]=>⟨by simp[rT],λg h=>by simp at h⟩
 |(k,x)::r=>by
  obtain⟨i1,i2⟩:=QJ f v r;rw[show rT f v ((k,x)::r)=(if k=f then (k,v)::r else (k,x)::rT f v r) from rfl];by_cases hk:k=f
  ·rw[cT hk];subst hk;exact⟨by simp,λg h=>by simpa using h⟩
  ·rw[cD hk];refine⟨?_,λg h=>?_⟩
   ·rw[jz];exact xS _ i1
   ·rw[jz] at h ⊢;rcases lR.mp h with e|e
    ·exact lR.mpr (.inl e)
    ·exact xS _ (i2 g e)
theorem aCi(f:Str)(v:V):∀fs:List (Str×V),(rT f v fs).length<=fs.length+1
 |[]=>by simp[rT]
 |(k,x)::r=>by
  have ih:=aCi f v r;rw[show rT f v ((k,x)::r)=(if k=f then (k,v)::r else (k,x)::rT f v r) from rfl];by_cases hk:k=f
  ·rw[cT hk,mv,mv];lia
  ·rw[cD hk,mv,mv];lia
theorem uJ.some_of(r:uJ (some v) o):∃u,o=some u/\RelV v u:=by
 cases o with
 |none=>exact(show False from r).elim
 |some u=>exact⟨u,rfl,r⟩
theorem uJ.none_of(r:uJ none o):o=none:=by
 cases o with
 |none=>rfl
 |some u=>exact(show False from r).elim
theorem aKY(r:RelV v u):PySem.W.handedIn u=true:=by
 cases v with
 |bw=>cases (show u=Value.none from r);rfl
 |bl b=>cases (show u=Value.bool b from r);rfl
 |int i=>obtain⟨t,e⟩:=(show ∃t,u=Value.int i t from r);cases e;rfl
 |str x=>obtain⟨t,e⟩:=(show ∃t,u=Value.str x t from r);cases e;rfl
 |Fu b=>obtain⟨t,e⟩:=(show ∃t,u=Value.bytes b t from r);cases e;rfl
 |qo b=>obtain⟨t,e⟩:=(show ∃t,u=Value.float b t from r);cases e;rfl
 |ref a=>cases (show u=Value.ref a from r);rfl
 |ty n=>cases (show u=Value.type n from r);rfl
section
variable{P:Program}{w:World}{H H':Hp}{h h':Heap}{a C dx:Addr}{fs fs':List (Str×V)}
theorem LU(bf:uK P w H h)(e:H a=some (.ins C dx fs)):∃mA,DY h a dx C mA/\(∀f,uJ (fs.lookup f) (mA f))/\PySem.Within mA (fs.map (·.1))/\fs.length<=1000/\H dx=some (.own a):=by
 obtain⟨d,z,ne,ob,mA,n,r,q⟩:=(show cR P w H h a (.ins C dx fs) from bf a _ e)
 exact⟨mA,⟨ob,n,ne⟩,r,q,z,d⟩
end
structure su(K:W.Frag)(C:Addr):Prop where
 pg:PySem.W.plainGet K C Str.empty=true
 hd:PySem.W.hasDictIn K C=true
 po:PySem.W.plainOver K C=true
 sa:PySem.W.findIn K (.ref C) "__setattr__" = some (some (.builtin "object.__setattr__"))
theorem su.get{K:W.Frag}{C:Addr}(c:su K C)(f:Str):PySem.W.plainGet K C f=true:=c.pg
def dU(K:W.Frag)(C:Addr)(f:Str):Prop:=W.findIn K (.ref C) f=some none
theorem dU.aRJ{K:W.Frag}{C:Addr}{f:Str}(n:dU K C f):PySem.W.takerIn K C f=some none:=by
 unfold PySem.W.takerIn;rw[show W.findIn K (.ref C) f=some none from n];rfl
structure Meth(K:W.Frag)(C:Addr)(m:Str)(f:Addr):Prop where
 at_:W.findIn K (.ref C) m=some (some (.ref f))
 fn:PySem.W.isFn K (.ref f)=true
 kp:W.keepIn K (.ref f)=true
section
variable{X:Cx}{pins:au}{σ:St}{H:Hp}{s:Shared}{a C dx:Addr}{fs:List (Str×V)}{f:Str}{v:V}{A:Around}{E:ar}
theorem aI2{b:Bool}{Q:ar}(I:Inv X pins σ H s)(e:H a=some (.ins C dx fs))(c:su X.K C)(n:dU X.K C f)(l:fs.lookup f=some v)
  (h:∀u s',Inv X pins σ H s'->RelV v u->Q u s'):wpAny (model X.prog X.w) A (getAttr (.ref a) f b) Q E s:=by
 obtain⟨mA,O,r,_,_,_⟩:=LU I.bf e;obtain⟨u,hu,ru⟩:=uJ.some_of (v:=v) (o:=mA f) (by rw[<-l];exact r f);exact get_map I.mi O (c.get f) c.hd n hu (aKY ru) (h u _ (I.tok _) ru)
theorem aDF{pl:Sem Bool}{Q:Value×aj->Shared->Prop}(I:Inv X pins σ H s)(e:H a=some (.ins C dx fs))(c:su X.K C)(k:Meth X.K C m g)(l:fs.lookup m=none)(h:Q (.ref g,[.ref a]) s):wpAny (model X.prog X.w) A (getMethod (.ref a) m pl) Q E s:=by
 obtain⟨mA,O,r,_,_,_⟩:=LU I.bf e;have hn:mA m=none:=uJ.none_of (by rw[<-l];exact r m);exact aLX I.mi O (c.get m) k.at_ k.fn hn h
theorem aI3{Q:Unit->Shared->Prop}(I:Inv X pins σ H s)(e:H a=some (.ins C dx fs))(c:su X.K C)(n:dU X.K C f)(hl:fs.length < 1000)(ry:RelV y u)(h:∀s',Inv X pins σ (upd H a (.ins C dx (rT f y fs))) s'->Q () s'):wpAny (model X.prog X.w) A (setAttr (.ref a) f u) Q E s:=by
 obtain⟨mA,O,r,wi,_,ho⟩:=LU I.bf e;have hz:(fs.map (·.1)).length<=sizeLine:=by rw[bH,xx];lia
 refine aNY I.mi O c.sa c.po n.aRJ c.hd wi hz λh' O' sb=>h _ ?_;have hd:∃o,h'.get? dx=some o:=let ⟨o,_,_,e',_⟩:=O'.ns;⟨o,e'⟩
 refine I.write (x:=a) (e:=dx) (by rw[e];exact True.intro) (.inr ho) (λb q hb z=>(sb.2 b hb).trans z) hd ?_;refine⟨by rw[bA O.ne];exact ho,?_,O.ne,O'.obj,_,O'.ns,λg=>?_,λg hg=>?_⟩
 ·have:=aCi f y fs;lia
 ·show uJ ((rT f y fs).lookup g) (if g=f then some u else mA g);rw[aCh];by_cases q:g=f
  ·rw[cT q,cT q];exact ry
  ·rw[cD q,cD q];exact r g
 ·by_cases q:g=f
  ·rw[q];exact(QJ f y fs).1
  ·refine(QJ f y fs).2 g (wi g λz=>hg ?_);show(if g=f then some u else mA g)=none;rw[cD q];exact z
theorem Inv.made(I:Inv X pins σ H s):Inv X pins σ (upd (upd H s.heap.objs.size (.own (s.heap.objs.size+1))) (s.heap.objs.size+1) (.ins C s.heap.objs.size []))
  { s with heap:=(s.heap.push PySem.W.emptyDict).push (PySem.W.instObj C s.heap.objs.size) }:=by
 have e1:(s.heap.push PySem.W.emptyDict).get? s.heap.objs.size=some PySem.W.emptyDict:=qP s.heap rfl;have e2:((s.heap.push PySem.W.emptyDict).push (PySem.W.instObj C s.heap.objs.size)).get? (s.heap.objs.size+1)=some (PySem.W.instObj C s.heap.objs.size):=by
  have:=qP (s.heap.push PySem.W.emptyDict) (o:=PySem.W.instObj C s.heap.objs.size) rfl
  rwa[vb] at this
 have e3:(s.heap.push PySem.W.emptyDict).Ns s.heap.objs.size (λ_=>none):=⟨PySem.W.emptyDict,#[],_,e1,rfl,(λe he=>absurd he (by simp)),λ_=>rfl⟩
 have I1:=I.laid (a:=s.heap.objs.size) (o:=.own (s.heap.objs.size+1)) (h':=s.heap.push PySem.W.emptyDict) (t':=s.toks) (λb u q=>fL _ q) (eO _) ⟨_,e1⟩;refine I1.laid (a:=s.heap.objs.size+1) (o:=.ins C s.heap.objs.size []) (t':=s.toks) (λb u q=>fL _ q) (HR (vb _ _)) ?_;have ne:s.heap.objs.size≠s.heap.objs.size+1:=rR (F4 _);refine⟨by rw[bA ne,aP],qw _,ne,e2,λ_=>none,(Heap.Ns1.of_empty e3).at λo q=>fL _ q,λ_=>True.intro,λy hy=>absurd rfl hy⟩
theorem aNZ{Q:ar}(hb:attributeBase e f env (eval e env)=eval e env)(h:wpAny (model prog w) A (eval e env) (λo bg=>wpAny (model prog w) A (getAttr o f true) Q E bg) E s):wpAny (model prog w) A (eval (.Attribute e f pos) env) Q E s:=
 Attribute_any_ h (by rw[arm_eval_Attribute,hb])
end
def OQ(K:W.Frag)(ta:TE)(f:Str):TE:=λσ H Q=>ta σ H λx H1=>∃a C dx fs v,x=.ref a/\H1 a=some (.ins C dx fs)/\su K C/\dU K C f/\fs.lookup f=some v/\Q v H1
def OP(K:W.Frag)(ta tv:TE)(f:Str):TS:=λD σ H=>tv σ H λy H1=>ta σ H1 λx H2=>∃a C dx fs,x=.ref a/\H2 a=some (.ins C dx fs)/\su K C/\dU K C f/\fs.length < 1000/\
 D.nx σ (upd H2 a (.ins C dx (rT f y fs)))
section
variable{X:Cx}{o e value:Expr}{f:Str}{pos pos' Eg:Pos}{ta tv:TE}
theorem aQi(he:PE X e ta)(hb:attributeBase e f X.env (eval e X.env)=eval e X.env):PE X (.Attribute e f pos) (OQ X.K ta f):=by
 intro pins s σ H Q I h;refine aNZ hb (eF (he pins s σ H _ I h) λu s1 zq=>?_);obtain⟨x,H1,I1,rx,a,C,dx,fs,v,ex,ea,c,n,l,q⟩:=zq;subst ex;obtain rfl:u=Value.ref a:=rx;exact aI2 I1 ea c n l λu' s2 I2 ru=>⟨v,H1,I2,ru,q⟩
theorem aQj(ha:PE X o ta)(hv:PE X value tv)(hs:swapsWith value (some (.Attribute o f pos')) pos.line X.env=pure false):PS X (.Assign [.Attribute o f pos'] value pos) (OP X.K ta tv f):=by
 intro pins s σ H D I h;refine plainObj_wpAny_Assign_Attribute (eF (hv pins s σ H _ I h) λu s1 ⟨y,H1,I1,ry,q⟩=>eF (ha pins s1 σ H1 _ I1 q) λov s2 zq=>?_) hs;obtain⟨x,H2,I2,rx,a,C,dx,fs,ex,ea,c,n,l,q2⟩:=zq;subst ex;obtain rfl:ov=Value.ref a:=rx;exact aI3 I2 ea c n l ry λs3 I3=>⟨σ,_,I3,q2⟩
end
section
variable{X:Cx}{pins:au}{σ:St}{H:Hp}{s:Shared}{A:Around}{E:ar}{Q:ar}{c:Value}{b:Bool}
inductive xn (K:W.Frag) (H:Hp):V->Value->Prop where
 |bw:xn K H .bw (.type "NoneType")
 |bl (x:Bool):xn K H (.bl x) (.type "bool")
 |int (i:Int):xn K H (.int i) (.type "int")
 |str (x:Str):xn K H (.str x) (.type "str")
 |qo (x:UInt64):xn K H (.qo x) (.type "float")
 |lst {a:Addr} {xs:List V} (e:H a=some (.lst xs)):xn K H (.ref a) (.type "list")
 |mj {a:Addr} {o:Obj} {xs:List V} (e:H a=some (.mj o (.lst xs))):xn K H (.ref a) (.type "list")
 |tup {a:Addr} {xs:List V} (e:H a=some (.tup xs)):xn K H (.ref a) (.type "tuple")
 |dK {a:Addr} {kvs:List (Key×V)} (e:H a=some (.dK kvs)):xn K H (.ref a) (.type "dict")
 |dT {a:Addr} {kvs:List (List Key×V)} (e:H a=some (.dT kvs)):xn K H (.ref a) (.type "dict")
 |ins {a C dx:Addr} {fs:List (Str×V)} (e:H a=some (.ins C dx fs)) (cl:su K C) (ha:PySem.W.findIn K (.ref C) "__class__" = some (some (.builtin "object.__class__")))
   (hn:PySem.W.specialIn K (.builtin "object.__class__") "__get__" = some (some (.builtin "getset_descriptor.__get__"))) (Kr:PySem.W.takesIn K (.builtin "object.__class__")=some true)
   (hm:PySem.W.mroIn K C (.type "object")=some true):xn K H (.ref a) (.ref C)
theorem aFP(I:Inv X pins σ H s)(rx:RelV x u)(ty:xn X.K H x t)(e:PySem.W.kitOne X.K t c=some b)(h:∀tk,Q (.bool b) { s with toks:=tk }) :
  wpAny (model X.prog X.w) A (call (.builtin "isinstance") [u,c]) Q E s:=by
 cases ty with
 |bw=>cases (show u=Value.none from rx);exact PySem.W.kia_one PySem.W.kitx_none I.mi True.intro e (λz=>nomatch z) h
 |bl y=>cases (show u=Value.bool y from rx);exact PySem.W.kia_one PySem.W.kitx_bool I.mi True.intro e (λz=>nomatch z) h
 |int i=>obtain⟨t,q⟩:=(show ∃t,u=Value.int i t from rx);cases q;exact PySem.W.kia_one PySem.W.kitx_int I.mi True.intro e (λz=>nomatch z) h
 |str y=>obtain⟨t,q⟩:=(show ∃t,u=Value.str y t from rx);cases q;exact PySem.W.kia_one PySem.W.kitx_str I.mi True.intro e (λz=>nomatch z) h
 |qo y=>obtain⟨t,q⟩:=(show ∃t,u=Value.float y t from rx);cases q;exact PySem.W.kia_one PySem.W.kitx_float I.mi True.intro e (λz=>nomatch z) h
 |@lst a xs ea=>
  cases (show u=Value.ref a from rx);obtain⟨_,_,n,_,h1⟩:=(show cR X.prog X.w H s.heap a (.lst xs) from I.bf a _ ea)
  exact PySem.W.kia_one PySem.W.kitx_list I.mi ⟨_,h1,rfl⟩ e (λz=>nomatch z) h
 |@mj a ob xs ea=>
  cases (show u=Value.ref a from rx);obtain⟨_,_,_,n,_,h1⟩:=(show cR X.prog X.w H s.heap a (.mj ob (.lst xs)) from I.bf a _ ea)
  exact PySem.W.kia_one PySem.W.kitx_list I.mi ⟨_,h1,rfl⟩ e (λz=>nomatch z) h
 |@tup a xs ea=>
  cases (show u=Value.ref a from rx);obtain⟨_,_,_,p⟩:=(show cR X.prog X.w H s.heap a (.tup xs) from I.bf a _ ea)
  obtain⟨o,h1,h2,_⟩:=p;exact PySem.W.kia_one PySem.W.kitx_tuple I.mi ⟨o,h1,h2⟩ e (λz=>nomatch z) h
 |@dK a kvs ea=>
  cases (show u=Value.ref a from rx);obtain⟨_,_,vs,_,p⟩:=(show cR X.prog X.w H s.heap a (.dK kvs) from I.bf a _ ea)
  obtain⟨o,es,ep,h1,h2,_⟩:=p;exact PySem.W.kia_one PySem.W.kitx_dict I.mi ⟨o,h1,h2.1⟩ e (λz=>nomatch z) h
 |@dT a kvs ea=>
  cases (show u=Value.ref a from rx);obtain⟨_,_,xs,_,o,es,ep,h1,h2,_⟩:=(show cR X.prog X.w H s.heap a (.dT kvs) from I.bf a _ ea)
  exact PySem.W.kia_one PySem.W.kitx_dict I.mi ⟨o,h1,h2.1⟩ e (λz=>nomatch z) h
 |@ins a C dx fs ea cl ha hn Kr hm=>
  cases (show u=Value.ref a from rx);obtain⟨mA,O,_⟩:=LU I.bf ea;obtain⟨od,J,_⟩:=O.look;exact PySem.W.kia_one (PySem.W.kitx_own (cl.get _) cl.hd ha hn Kr hm) I.mi J e (λz=>nomatch z) h
end
structure eX(k:Nat)(A:Around):Prop where
 hd:A.handled=none
 dp:A.depth+3*k+5 < recursionLimit
 un:A.units+16*k+200 < cLine
theorem eX.mono{j k:Nat}(r:eX k A)(h:j<=k):eX j A:=⟨r.hd,by have:=r.dp;lia,by have:=r.un;lia⟩
theorem eX.deeper{k:Nat}{A:Around}(r:eX (k+1) A)(env:Env):eX k (A.deeper env):=
 ⟨r.hd,by have:=r.dp;show A.depth+1+3*k+5 < _;lia,by have:=r.un;show A.units+3+16*k+200 < _;lia⟩
theorem aI4{A:Around}:(A.under (.builtin "type.__call__" ⟨.ref C::us,kw⟩)).depth=A.depth+1:=by
 first|rfl|simp[Around.under,Code.weight,Code.isCreation,Code.isGuard,Code.isCaller,Code.frames,Code.isFrame,guardIds]
theorem aI5{A:Around}:(A.under (.builtin "type.__call__" ⟨.ref C::us,kw⟩)).units=A.units+1:=by
 first|rfl|simp[Around.under,Code.cUnits,Code.frames,Code.isFrame]
theorem eX.make{k:Nat}{A:Around}(r:eX (k+1) A)(C:Addr)(us:aj)(kw:List (Str×Value)):eX k (A.under (.builtin "type.__call__" ⟨.ref C::us,kw⟩)):=
 ⟨r.hd,by have:=r.dp;rw[aI4];lia,by have:=r.un;rw[aI5];lia⟩
theorem eX.depth{k:Nat}{A:Around}(r:eX k A):A.depth < recursionLimit:=by have:=r.dp;lia
theorem eX.units{k:Nat}{A:Around}(r:eX k A):A.units+64 < cLine:=by have:=r.un;lia
def jX:TA:=λ_ H Q=>Q [] H
def bM(ta:TE)(tr:TA):TA:=λσ H Q=>ta σ H λx H1=>tr σ H1 λxs H2=>Q (x::xs) H2
section
variable{X:Cx}{e:Expr}{es:List Expr}{te:TE}{t:TA}{pos:Pos}
theorem nF:PA X [] jX:=λ_ _ _ _ H Q I h=>Calls.spliced_nil ⟨[],H,I,.nil,h⟩
theorem aN0(ha:PE X e te)(hr:PA X es t)(hs:starEach (e::es) X.env=(false,eval e X.env)::starEach es X.env:=by rfl):PA X (e::es) (bM te t):=by
 intro pos pins s σ H Q I h;rw[hs];show wpAny _ _ (spliced ((false,eval e X.env)::backTo pos (starEach es X.env))) _ _ s;refine Calls.spliced_cons (eF (ha pins s σ H _ I h) λu s1 zq=>?_);obtain⟨x,H1,I1,r1,q1⟩:=zq;exact eF (hr pos pins s1 σ H1 _ I1 q1) λus s2 ⟨xs,H2,I2,r2,q2⟩=>⟨x::xs,H2,I2,.cons r1 r2,q2⟩
def Bf(t:TA):TE:=λσ H Q=>t σ H λxs H1=>xs.length<=sizeLine/\∀p,H1 p=none->Q (.ref p) (upd H1 p (.tup xs))
def zR(t:TA):TE:=λσ H Q=>t σ H λxs H1=>xs.length<=sizeLine/\∀p,H1 p=none->Q (.ref p) (upd H1 p (.lst xs))
theorem LH{x1}(h:PA X es t):PE X (.Tuple es x1 pos) (Bf t):=by
 intro pins s σ H Q I hq;refine wpAny_Tuple_spliced (eF (h pos pins s σ H _ I hq) λus s1 zq=>?_);obtain⟨xs,H1,I1,r,z,q⟩:=zq;refine⟨by rw[<-r.length];exact z,?_⟩;have hf:H1 s1.heap.objs.size=none:=I1.bf.fresh (eO _);refine⟨.ref s1.heap.objs.size,upd H1 s1.heap.objs.size (.tup xs),I1.laid (t':=s1.toks) (λb u e=>fL _ e) (eO _) ?_,rfl,q _ hf⟩;exact⟨z,us,r,⟨_,qP _ rfl,rfl,_,rfl⟩⟩
theorem zS(h:PA X es t):PE X (.List es pos) (zR t):=by
 intro pins s σ H Q I hq;refine wpAny_List_spliced (eF (h pos pins s σ H _ I hq) λus s1 zq=>?_);obtain⟨xs,H1,I1,r,z,q⟩:=zq;refine⟨by rw[<-r.length];exact z,?_⟩;have hf:H1 s1.heap.objs.size=none:=I1.bf.fresh (eO _);refine⟨.ref s1.heap.objs.size,upd H1 s1.heap.objs.size (.lst xs),I1.laid (t':=s1.toks) (λb u e=>fL _ e) (eO _) ?_,rfl,q _ hf⟩;exact⟨z,us,0,r,qP _ rfl⟩
end
abbrev Sp:=List V->Hp->VK->XK->Prop
abbrev yi:=List Env->Hp->Shared->XK->ar
structure Be(P:Program)(w:World)(K:W.Frag)(mg:Str->aw)(base:Heap)(A:Around)(outer:List Env)(s:Shared)(H:Hp):Prop where
 frames:A.frames=some outer
 mod:Mod K mg base
 bs:∀b o,base.get? b=some o->s.heap.get? b=some o/\H b=none
 Al:base.objs.size<=s.heap.objs.size
 xU:s.heap.FunFrames base outer
 Ba:∀b∈qc outer,H b=none
 bf:uK P w H s.heap
 bare:AllBare s.gens
def CE(outer:List Env)(P:Program)(w:World)(H:Hp)(s:Shared)(Q:VK)(u:Value)(s':Shared):Prop:=
 ∃v H',s'.os=s.os/\AllBare s'.gens/\Un (qc outer) [] H H' s.heap s'.heap/\uK P w H' s'.heap/\RelV v u/\Q v H'
def CR(CX:yi)(outer:List Env)(P:Program)(w:World)(H:Hp)(s:Shared)(Q:VK)(E:XK)(r:Result)(s':Shared):Prop:=
 match r with
 |.ok (.ret u)=>CE outer P w H s Q u s'
 |.ok _=>False
 |.error e=>CX outer H s E e s'
structure bQ(P:Program)(w:World)(K:W.Frag)(mg:Str->aw)(base:Heap)(CX:yi)(k:Nat)(f:Addr)(fd:FuncData)(ps:ah)(sp:Sp):Prop where
 len:∀vs H Q E,sp vs H Q E->vs.length=ps.length
 run:∀(A:Around) (outer:List Env) (s:Shared) (H:Hp) (args:Args) (us:aj) (vs:List V) (Q:VK) (E:XK),eX k A->Be P w K mg base A outer s H->BindsTo s fd args (ps.zip us)->Vals vs us->sp vs H Q E->
  codeAny (model P w) A (.call (.ref f) args) (CR CX outer P w H s Q E) s
theorem bQ.imp{P:Program}{w:World}{K:W.Frag}{mg:Str->aw}{base:Heap}{CX:yi}{k:Nat}{f:Addr}{fd:FuncData}{ps:ah}{sp VA:Sp}(F:bQ P w K mg base CX k f fd ps sp)
  (h:∀vs H Q E,VA vs H Q E->sp vs H Q E):bQ P w K mg base CX k f fd ps VA:=
 ⟨λvs H Q E q=>F.len vs H Q E (h _ _ _ _ q),λA outer s H args us vs Q E hr he hb hv hs=>F.run A outer s H args us vs Q E hr he hb hv (h _ _ _ _ hs)⟩
theorem Be.make{P:Program}{w:World}{K:W.Frag}{mg:Str->aw}{base:Heap}{A:Around}{outer:List Env}{s:Shared}{H:Hp}(e:Be P w K mg base A outer s H)(C:Addr)(us:aj)(kw:List (Str×Value)) :
  Be P w K mg base (A.under (.builtin "type.__call__" ⟨.ref C::us,kw⟩)) outer s H:=⟨by first|exact e.frames|(simpa [Around.under,Code.envs,Code.isFrame,pushEnvs] using e.frames),e.mod,e.bs,e.Al,e.xU,e.Ba,e.bf,e.bare⟩
section
variable{X:Cx}{pins:au}{σ:St}{H:Hp}{s s':Shared}
theorem Inv.Hg(I:Inv X pins σ H s):Be X.prog X.w X.K X.mg X.base X.A X.stack s H:=
 ⟨I.ok.frames,I.ok.mod,I.bs,vm I.ok.Al I.sz,I.stack,I.LX,I.bf,I.bare⟩
theorem Inv.after(I:Inv X pins σ H s)(h:CE X.stack X.prog X.w H s Q u s'):EP X pins σ Q u s':=by
 obtain⟨v,H',os,bare,un,bf,r,q⟩:=h;obtain⟨hh,g,d,t,os'⟩:=s';obtain rfl:os'=s.os:=os;exact⟨v,H',I.call (h':=hh) (g':=g) (d':=d) (t':=t) (ch:=[]) un bf bare (λb z=>absurd z (by simp)),r,q⟩
end
def FE(sp:Sp)(ic:List V)(E:XK)(t:TA):TE:=λσ H Q=>t σ H λvs H1=>sp (vs++ic) H1 Q E
def FL(C:Addr)(m:Str)(sp:Sp)(ic:List V)(E:XK)(ta:TE)(t:TA):TE:=λσ H Q=>ta σ H λx H1=>∃a dx fs,x=.ref a/\H1 a=some (.ins C dx fs)/\fs.lookup m=none/\
 t σ H1 λvs H2=>sp (x::(vs++ic)) H2 Q E
def Ht(C:Addr)(sp:Sp)(ic:List V)(E:XK)(t:TA):TE:=λσ H Q=>t σ H λvs H1=>∀x dx,H1 x=none->H1 dx=none->dx≠x->
 sp (.ref x::(vs++ic)) (upd (upd H1 dx (.own x)) x (.ins C dx [])) (λv H2=>v=.bw/\Q (.ref x) H2) E
def Binds(K:W.Frag)(fd:FuncData)(ps:ah)(ds:aj):Prop:=
 ∀(s:Shared) (us:aj),K.In s.heap->(us++ds).length=ps.length->BindsTo s fd ⟨us,[]⟩ (ps.zip (us++ds))
theorem Binds.all{K:W.Frag}{fd:FuncData}{ps:ah}(h:∀us:aj,us.length=ps.length->bindArgs fd ⟨us,[]⟩=pure (ps.zip us)):Binds K fd ps []:=λs us _ hl=>by
 rw[BI] at hl ⊢;exact .of_eq (h us hl)
def Passes(CX:yi)(X:Cx)(E:XK):Prop:=∀(pins:au) (σ:St) (H:Hp) (s:Shared) (e:Value) (s':Shared),Inv X pins σ H s->CX X.stack H s E e s'->X.xe e s'
section
variable{X:Cx}{CX:yi}{k:Nat}{f C:Addr}{fd:FuncData}{ps:ah}{sp:Sp}{ic:List V}{ds:aj}{E:XK}{x m:Str}{p pos apos:Pos}{e o:Expr}{es:List Expr}{ta:TE}{t:TA}
theorem P4(F:bQ X.prog X.w X.K X.mg X.base CX k f fd ps sp)(hr:eX k X.A)(hb:Binds X.K fd ps ds)(hd:Vals ic ds)(hx:Passes CX X E)(I:Inv X pins σ H s)(r:Vals vs us)(h:sp (vs++ic) H Q E):wpAny (model X.prog X.w) X.A (call (.ref f) us) (EP X pins σ Q) X.xe s:=by
 have r2:Vals (vs++ic) (us++ds):=r.append hd;have hl:(us++ds).length=ps.length:=by rw[<-r2.length];exact F.len _ _ _ _ h
 refine wpAny_call (codeAny_mono (F.run X.A X.stack s H ⟨us,[]⟩ (us++ds) (vs++ic) Q E hr I.Hg (hb s us I.mi hl) r2 h) λr s' hq=>?_);cases r with
 |error e=>exact hx pins σ H s e s' I hq
 |ok fl=>
  cases fl with
  |ret u=>exact I.after hq
  |next=>exact False.elim hq
  |brk=>exact False.elim hq
  |cont=>exact False.elim hq
theorem aN1(F:bQ X.prog X.w X.K X.mg X.base CX k f fd ps sp)(hr:eX k X.A)(hg:Gl X x)(hm:X.mg x=some (.ref f))(hk:W.keepIn X.K (.ref f)=true)(hb:Binds X.K fd ps ds)(hd:Vals ic ds)(hx:Passes CX X E)
  (ha:PA X (e::es) t) (jx:(x == ("__debug__" : Str))=false:=by decide) (he:starEach (e::es) X.env=(false,eval e X.env)::starEach es X.env:=by rfl) (qg:(backTo pos (starEach es X.env)).any (·.1)=false:=by rfl) :
  PE X (.Call (.Name x p) (e::es) [] pos) (FE sp ic E t):=by
 intro pins s σ H Q I h;refine wpAny_Call_Name_kw (LV I hg hm ?_ jx);refine PySem.W.callWith_K (h₀:=X.base) I.ok.mod.Dx hk (eF (ha pos pins s σ H _ I h) λus s1 zq=>?_) he qg;obtain⟨vs,H1,I1,r,q⟩:=zq;refine⟨I1.mi,?_⟩;exact P4 F hr hb hd hx I1 r q
theorem aN2{pl:Sem Bool}(he:PE X o ta)(c:su X.K C)(hm:Meth X.K C m f)(F:bQ X.prog X.w X.K X.mg X.base CX k f fd ps sp)(hr:eX k X.A)(hb:Binds X.K fd ps ds)(hd:Vals ic ds)(hx:Passes CX X E)(ha:PA X (e::es) t)
  (df:starEach (e::es) X.env=(false,eval e X.env)::starEach es X.env:=by rfl) (qg:(backTo pos (starEach es X.env)).any (·.1)=false:=by rfl)
  (ht:eval (.Call (.Attribute o m apos) (e::es) [] pos) X.env=(do
   let ov <-eval o X.env
   standAt apos.atName
   let (f,first) <-holding [ov] (getMethod ov m pl)
   callWith pos f first (backTo pos (starEach (e::es) X.env)) (backToKw pos (keywordEach [] X.env))):=by rfl) :
  PE X (.Call (.Attribute o m apos) (e::es) [] pos) (FL C m sp ic E ta t):=by
 intro pins s σ H Q I h;refine PySem.W.methodCall_KW (pl:=pl) (eF (he pins s σ H _ I h) λu s1 zq=>?_) ht;obtain⟨x,H1,I1,rx,a,dx,fs,ex,ea,l,q⟩:=zq;subst ex;obtain rfl:u=Value.ref a:=rx;refine aDF I1 ea c hm l ?_;refine PySem.W.callWith_K (first:=[.ref a]) (h₀:=X.base) I.ok.mod.Dx hm.kp (eF (ha pos pins s1 σ H1 _ I1 q) λus s2 zq=>?_) df qg;obtain⟨vs,H2,I2,r,q2⟩:=zq;refine⟨I2.mi,?_⟩;exact P4 (us:=.ref a::us) (vs:=.ref a::vs) F hr hb hd hx I2 (.cons rfl r) q2
theorem aL0{pl:Sem Bool}(he:PE X o ta)(c:su X.K C)(hm:Meth X.K C m f)(F:bQ X.prog X.w X.K X.mg X.base CX k f fd ps sp)(hr:eX k X.A)(hb:Binds X.K fd ps ds)(hd:Vals ic ds)(hx:Passes CX X E)
  (ht:eval (.Call (.Attribute o m apos) [] [] pos) X.env=(do
   let ov <-eval o X.env
   standAt apos.atName
   let (f,first) <-holding [ov] (getMethod ov m pl)
   callWith pos f first (backTo pos (starEach [] X.env)) (backToKw pos (keywordEach [] X.env))):=by rfl) :
  PE X (.Call (.Attribute o m apos) [] [] pos) (FL C m sp ic E ta jX):=by
 intro pins s σ H Q I h;refine PySem.W.methodCall_KW (pl:=pl) (eF (he pins s σ H _ I h) λu s1 zq=>?_) ht;obtain⟨x,H1,I1,rx,a,dx,fs,ex,ea,l,q⟩:=zq;subst ex;obtain rfl:u=Value.ref a:=rx;refine aDF I1 ea c hm l ?_;exact PySem.W.callWith_K0 (first:=[.ref a]) I1.mi hm.kp (P4 (us:=[.ref a]) (vs:=[.ref a]) F hr hb hd hx I1 (.cons rfl .nil) q)
structure Mk(K:W.Frag)(C f:Addr):Prop where
 makes:PySem.W.makesIn K C=true
 init:PySem.W.findIn K (.ref C) "__init__" = some (some (.ref f))
 fn:PySem.W.isFn K (.ref f)=true
 kp:W.keepIn K (.ref C)=true
theorem aL1{H:Hp}{Q:VK}(M:Mk X.K C f)(F:bQ X.prog X.w X.K X.mg X.base CX k f fd ps sp)(hr:eX (k+1) X.A)(hb:Binds X.K fd ps ds)(hd:Vals ic ds)(hx:Passes CX X E)(I:Inv X pins σ H s)(r:Vals vs us)(h:∀x dx,H x=none->H dx=none->dx≠x->sp (.ref x::(vs++ic)) (upd (upd H dx (.own x)) x (.ins C dx [])) (λv H2=>v=.bw/\Q (.ref x) H2) E) :
  wpAny (model X.prog X.w) X.A (call (.ref C) us) (EP X pins σ Q) X.xe s:=by
 have hq:=h (s.heap.objs.size+1) s.heap.objs.size (I.bf.fresh (Nat.le_succ _)) (I.bf.fresh (eO _)) (rR (F4 _));have I2:=Inv.made (C:=C) I;have r2:Vals (V.ref (s.heap.objs.size+1)::(vs++ic)) (Value.ref (s.heap.objs.size+1)::(us++ds)):=.cons rfl (r.append hd);have hl:(Value.ref (s.heap.objs.size+1)::us++ds).length=ps.length:=by
  have e:=r2.length;rw[F.len _ _ _ _ hq] at e;exact e.symm
 refine wpAny_call (aLY (f:=f) I.mi M.makes M.init (beq_iff_eq.mp M.fn) (codeAny_mono (F.run _ X.stack _ _ ⟨Value.ref (s.heap.objs.size+1)::us,[]⟩ (Value.ref (s.heap.objs.size+1)::(us++ds)) _ _ E (hr.make C us [])
  (I2.Hg.make C us []) (hb _ (Value.ref (s.heap.objs.size+1)::us) I2.mi hl) r2 hq) λr s' vi=>?_))
 cases r with
 |error e=>exact hx pins σ _ _ e s' I2 vi
 |ok fl=>
  cases fl with
  |ret u=>
   obtain⟨v,H',I3,rv,ev,q3⟩:=I2.after vi;subst ev;exact⟨rv,⟨V.ref (s.heap.objs.size+1),H',I3,rfl,q3⟩⟩
  |next=>exact False.elim vi
  |brk=>exact False.elim vi
  |cont=>exact False.elim vi
theorem aN3(M:Mk X.K C f)(F:bQ X.prog X.w X.K X.mg X.base CX k f fd ps sp)(hr:eX (k+1) X.A)(hg:Gl X x)(hm:X.mg x=some (.ref C))(hb:Binds X.K fd ps ds)(hd:Vals ic ds)(hx:Passes CX X E)
  (ha:PA X (e::es) t) (jx:(x == ("__debug__" : Str))=false:=by decide) (he:starEach (e::es) X.env=(false,eval e X.env)::starEach es X.env:=by rfl) (qg:(backTo pos (starEach es X.env)).any (·.1)=false:=by rfl) :
  PE X (.Call (.Name x p) (e::es) [] pos) (Ht C sp ic E t):=by
 intro pins s σ H Q I h;refine wpAny_Call_Name_kw (LV I hg hm ?_ jx);refine PySem.W.callWith_K (h₀:=X.base) I.ok.mod.Dx M.kp (eF (ha pos pins s σ H _ I h) λus s1 zq=>?_) he qg;obtain⟨vs,H1,I1,r,q⟩:=zq;refine⟨I1.mi,?_⟩;exact aL1 M F hr hb hd hx I1 r q
end
def PK(X:Cx)(VZ:List Keyword)(t:TA):Prop:=
 ∀(pos:Pos) (pins:au) (s:Shared) (σ:St) (H:Hp) (Q:List V->Hp->Prop),Inv X pins σ H s->t σ H Q->wpAny (model X.prog X.w) X.A (evalAll ((backToKw pos (keywordEach VZ X.env)).map (·.2))) (AP X pins σ Q) X.xe s
structure aX(N P:ah)(sc:Scope):Prop where
 kind:sc.kind=.function:=by exact rfl
 co:sc.isCoroutine=false:=by exact rfl
 gen:sc.isGenerator=false:=by exact rfl
 nd:N.Nodup:=by decide +kernel
 pre:N.take P.length=P:=by exact rfl
 par:∀x∈P,sc.names.lookup x=some .local\/sc.names.lookup x=some .cell:=by decide +kernel
 EA:∀y∈sc.names,y.2≠.free:=by decide +kernel
theorem aFR{kindOf:Str->Option NameKind}:∀{binds:List (Str×Value)}{m:Str->aw},(∀v,(x,v)∉binds)->bindL kindOf binds m x=m x
 |[],_,_=>rfl
 |(n,v)::r,m,h=>by
  unfold bindL;rw[aFR λw hw=>h w (xS _ hw)];split
  ·have:x≠n:=by rintro rfl;exact h v qz
   simp[this]
  ·rfl
theorem aFS{kindOf:Str->Option NameKind}:∀{binds:List (Str×Value)}{m:Str->aw},(∀v,(x,v)∉binds)->bindC kindOf binds m x=m x
 |[],_,_=>rfl
 |(n,v)::r,m,h=>by
  unfold bindC;rw[aFS λw hw=>h w (xS _ hw)];split
  ·rfl
  ·have:x≠n:=by rintro rfl;exact h v qz
   simp[this]
theorem aFT{kindOf:Str->Option NameKind}:∀{P:ah}{vs:aj}{i:Nat}{m:Str->aw},P.Nodup->P[i]?=some x->vs[i]?=some v->kindOf x=some .local->
  bindL kindOf (P.zip vs) m x=some v
 |[],_,_,_,_,h,_,_=>by simp at h
 |_::_,[],_,_,_,_,h,_=>by simp at h
 |p::P,w::vs,0,m,nd,h1,h2,hk=>by
  simp at h1 h2;subst h1;subst h2;show bindL kindOf ((p,w)::P.zip vs) m p=_;unfold bindL;rw[aFR λv hv=>(ya.mp nd).1 (Md hv).1,cT hk];simp
 |p::P,w::vs,i+1,m,nd,h1,h2,hk=>by
  show bindL kindOf ((p,w)::P.zip vs) m x=_;unfold bindL;exact aFT (i:=i) (ya.mp nd).2 (by simpa using h1) (by simpa using h2) hk
theorem aFU{kindOf:Str->Option NameKind}:∀{P:ah}{vs:aj}{i:Nat}{m:Str->aw},P.Nodup->P[i]?=some x->vs[i]?=some v->kindOf x≠some .local->
  bindC kindOf (P.zip vs) m x=some v
 |[],_,_,_,_,h,_,_=>by simp at h
 |_::_,[],_,_,_,_,h,_=>by simp at h
 |p::P,w::vs,0,m,nd,h1,h2,hk=>by
  simp at h1 h2;subst h1;subst h2;show bindC kindOf ((p,w)::P.zip vs) m p=_;unfold bindC;rw[aFS λv hv=>(ya.mp nd).1 (Md hv).1,cD hk];simp
 |p::P,w::vs,i+1,m,nd,h1,h2,hk=>by
  show bindC kindOf ((p,w)::P.zip vs) m x=_;unfold bindC;exact aFU (i:=i) (ya.mp nd).2 (by simpa using h1) (by simpa using h2) hk
def start(N:ah)(vs:List V):St:=vs.map some++List.replicate (N.length - vs.length) none
def DX(CX:yi)(P:Program)(w:World)(K:W.Frag)(mg:Str->aw)(base:Heap)(N:ah)(qual:Str)(scope:Scope)(f:Addr)(cd:Value)(A:Around)(outer:List Env)(s:Shared)(H:Hp)(E:XK):Cx where
 prog:=P
 w:=w
 K:=K
 mg:=mg
 base:=base
 A:=A.deeper (envOfC qual scope s.heap.objs.size f cd)
 N:=N
 dg:=s
 zg:=H
 env:=envOfC qual scope s.heap.objs.size f cd
 outer:=outer
 stack:=envOfC qual scope s.heap.objs.size f cd::outer
 ex:=[]
 calm:=true
 fn:=λ_=>true
 pn:=[]
 xe:=λe s'=>wpAny (model P w) (A.deeper (envOfC qual scope s.heap.objs.size f cd)) (leaving (envOfC qual scope s.heap.objs.size f cd) e) (λ_ MO=>CX outer H s E e MO) (λe' MO=>CX outer H s E e' MO) s'
theorem aHM{sc:Scope}{n:Nat}(h:sc.names.lookup x=some .cell):∃c,(cellsFrom n sc.names []).lookup x=some c:=by
 have q:=PySem.W.cellsFrom_some sc.names n [] (.inl h);exact Option.isSome_iff_exists.mp q
theorem aKZ{CX:yi}{P:Program}{w:World}{K:W.Frag}{mg:Str->aw}{base:Heap}{N ps:ah}{qual:Str}{scope:Scope}{f:Addr}{cd:Value}{A:Around}{outer:List Env}{s s1:Shared}{H:Hp}{E:XK}{us:aj}{vs:List V}
  (S:aX N ps scope) (hd:A.handled=none) (e0:Be P w K mg base A outer s H) (hl:vs.length=ps.length) (r:Vals vs us)
  (x:InCallC s s.heap.objs.size (bindL (envOfC qual scope s.heap.objs.size f cd).kindOf (ps.zip us) λ_=>none) (cellsFrom (s.heap.objs.size+1) scope.names []) (bindC (envOfC qual scope s.heap.objs.size f cd).kindOf (ps.zip us) λ_=>none) s1) :
  Inv (DX CX P w K mg base N qual scope f cd A outer s H E) [] (start N vs) H s1:=by
 have qg:ps.length<=N.length:=by have:=congrArg List.length S.pre;rw[og] at this;lia
 obtain⟨h1,tk,rfl,hk⟩:=x.done;have Ac:∀b:Addr,b∉(DX CX P w K mg base N qual scope f cd A outer s H E).ex:=λb z=>absurd (show b∈([]:ay) from z) (by simp);refine⟨⟨e0.mod,S.kind,rfl,rfl,eO _,λy z c h1 h2=>?_,λy hy=>?_,λy c _ h=>?_,λ_=>hd,Around.frames_deeper e0.frames,.inr ⟨rfl,rfl⟩,λb z=>absurd z (Ac b),e0.bs,e0.Al,λb _ _=>Ac b,λb z=>absurd z (Ac b),e0.xU,e0.Ba⟩,
  rfl,e0.bare,Un.kept hk,⟨_,x.toInCall.ns,λi y v h1 h2 h3=>?_⟩,λy c h=>⟨_,x.cell y c h⟩,e0.bf.fresh (eO _),λy c h=>?_,λp hp=>absurd (show p∈([]:au) from hp) (by simp),e0.bf.kept hk,?_⟩
 ·exact name_of_addr x.apart (PySem.mem_of_lookup h1) (PySem.mem_of_lookup h2)
 ·have hy:scope.names.lookup y=some .cell\/scope.names.lookup y=some .free:=hy;rcases hy with hy|hy
  ·exact aHM hy
  ·exact absurd rfl (S.EA _ (PySem.mem_of_lookup hy))
 ·exact CT (x.above y c (PySem.mem_of_lookup h))
 ·have hi:i < vs.length:=by
   unfold start at h2;by_cases hi:i < vs.length
   ·exact hi
   ·rw[vo (by simpa using hi)] at h2;rw[Ri] at h2;split at h2 <;> cases h2
  have ha:vs[i]?=some v:=by
   unfold start at h2;rw[vf (by simpa using hi),nE] at h2;cases e:vs[i]? with
   |none=>rw[e] at h2;cases h2
   |some a=>rw[e] at h2;cases h2;rfl
  obtain⟨u,hu,rv⟩:=r.get ha;have hp:ps[i]?=some y:=by
   rw[<-S.pre,List.getElem?_take_of_lt (by lia)];exact h1
  have Kh:ps.Nodup:=by rw[<-S.pre];exact S.nd.sublist (List.take_sublist _ _)
  refine⟨u,rv,?_⟩;rcases S.par y (jW hp) with k|k
  ·exact .inl ⟨k,aFT Kh hp hu k⟩
  ·obtain⟨c,e⟩:=aHM (n:=s.heap.objs.size+1) k;refine .inr ⟨.inl k,c,e,?_⟩;have q:=x.cell y c e;rw[aFU Kh hp hu (by show scope.names.lookup y≠_;rw[k];decide)] at q;exact q
 ·exact e0.bf.fresh (CT (x.above y c (PySem.mem_of_lookup h)))
 ·unfold start;show _=N.length;rw[iR,bH,List.length_replicate];lia
theorem YN{CX:yi}{P:Program}{w:World}{K:W.Frag}{mg:Str->aw}{base:Heap}{k:Nat}{f:Addr}{name qual:Str}{params:Arguments}{body:List Stmt}{scope:Scope}{dV kV doc pm bq ct oc:Value}{an od:Option Addr}
  {zj:Array (aw)} {N ps:ah} {sp:Sp} (lk:K.lookup f=some ⟨oc,od,.func (W.fnOf name qual params body scope dV kV doc pm an bq ct),zj⟩) (qk:W.codeIn K bq qual=true) (S:aX N ps scope)
  (len:∀vs H Q E,sp vs H Q E->vs.length=ps.length)
  (ie:∀(A:Around) (outer:List Env) (s:Shared) (H:Hp) (vs:List V) (Q:VK) (E:XK),eX k (A.deeper (envOfC qual scope s.heap.objs.size f bq))->sp vs H Q E->
   ∃t,wt (DX CX P w K mg base N qual scope f bq A outer s H E) body t/\t { nx:=λ_ H'=>Q .bw H',rt:=Q } (start N vs) H) :
  bQ P w K mg base CX (k+1) f (W.fnOf name qual params body scope dV kV doc pm an bq ct) ps sp:=by
 refine⟨len,λA outer s H args us vs Q E hr e0 hb r fb=>?_⟩;have hl:=len _ _ _ _ fb;have KX:K.In s.heap:=e0.mod.Dx.keeps λb o e=>(e0.bs b o e).1;have lim:s.heap.NoLimit:=e0.mod.nolimit.keeps λb o e=>(e0.bs b o e).1;have yk:∀y∈ps.zip us,scope.names.lookup y.1=some .local\/(scope.names.lookup y.1=some .cell/\((cellsFrom (s.heap.objs.size+1) scope.names []).lookup y.1).isSome=true):=λ⟨n,v⟩ hy=>by
  rcases S.par n (Md hy).1 with q|q
  ·exact .inl q
  ·exact .inr ⟨q,PySem.W.cellsFrom_some _ _ _ (.inl q)⟩
 refine codeAny_call_function hr.depth (KX _ _ lk) rfl S.co S.gen rfl (PySem.W.codeRec_of KX qk) (hb _ _ _ _ ?_)
 refine wpAny_newFunctionEnv_cells S.kind yk λenv he s1 x=>?_;subst he;refine⟨lim.keeps x.toInCall.keep,codeAny_func ?_⟩;obtain⟨t,ht,hq⟩:=ie A outer s H vs Q E (hr.deeper _) fb;have I:Inv (DX CX P w K mg base N qual scope f bq A outer s H E) [] (start N vs) H s1:=aKZ S hr.hd e0 hl r x;refine vz (ht [] s1 (start N vs) H _ I hq) (λfl s' hs=>?_) λe s' hs=>hs;have fin:∀{σ':St} {H':Hp} {v:V} {u:Value},Inv (DX CX P w K mg base N qual scope f bq A outer s H E) [] σ' H' s'->RelV v u->Q v H'->CE outer P w H s Q u s':=
  λ{σ' H' v u} J rv q=>⟨v,H',J.os,J.bare,J.base,J.bf,rv,q⟩
 cases fl with
 |ret u=>
  obtain⟨v,σ',H',J,rv,q⟩:=hs;exact fin J rv q
 |next=>
  obtain⟨σ',H',J,q⟩:=hs;exact fin (v:=V.bw) (u:=Value.none) J rfl q
 |brk=>
  obtain⟨_,_,_,q⟩:=hs;exact False.elim q
 |cont=>
  obtain⟨_,_,_,q⟩:=hs;exact False.elim q
section
variable{X:Cx}{x:Str}{p pos:Pos}{e:Expr}{es:List Expr}{t:TA}{id T:String}{r:List V->Hp->VK->Prop}
def Dj(r:List V->Hp->VK->Prop)(t:TA):TE:=λσ H Q=>t σ H λvs H1=>r vs H1 Q
theorem aL2(hc:eS X (.builtin id) r)(hg:Gl X x)(hm:X.mg x=none)(hv:bootBuiltins x=some (.builtin id))(ha:PA X (e::es) t)(hn:x≠"__name__":=by decide)(jx:(x == ("__debug__" : Str))=false:=by decide)
  (he:starEach (e::es) X.env=(false,eval e X.env)::starEach es X.env:=by rfl) (qg:(backTo pos (starEach es X.env)).any (·.1)=false:=by rfl):PE X (.Call (.Name x p) (e::es) [] pos) (Dj r t):=by
 intro pins s σ H Q I h;refine wpAny_Call_Name_kw (lS I hg hm hv ?_ hn jx);exact PyProof.Rows.callWith_builtin1 (eF (ha pos pins s σ H _ I h) λus s1 ⟨vs,H1,I1,r1,q1⟩=>hc pins s1 σ H1 vs us Q I1 r1 q1) he qg
theorem aK0(hc:eS X (.type T) r)(hg:Gl X x)(hm:X.mg x=none)(hv:bootBuiltins x=some (.type T))(ha:PA X (e::es) t)(hn:x≠"__name__":=by decide)(jx:(x == ("__debug__" : Str))=false:=by decide)
  (he:starEach (e::es) X.env=(false,eval e X.env)::starEach es X.env:=by rfl) (qg:(backTo pos (starEach es X.env)).any (·.1)=false:=by rfl):PE X (.Call (.Name x p) (e::es) [] pos) (Dj r t):=by
 intro pins s σ H Q I h;refine wpAny_Call_Name_kw (lS I hg hm hv ?_ hn jx);exact PyProof.Rows.callWith_type1 (eF (ha pos pins s σ H _ I h) λus s1 ⟨vs,H1,I1,r1,q1⟩=>hc pins s1 σ H1 vs us Q I1 r1 q1) he qg
end
end L2
namespace HT
open PySem PyProof.Rows
section
open PySem.SeqAt
open PySem.AutoSeq1 (wpAny_loadPart')
open PySem.MeetsSeq PySem.MeetsSeq2 PySem.MeetsSeq3
end
section
variable{prog:Program}{w:World}{A:Around}{E:ar}{s:Shared}
def kY(n d:Nat):Option Int->Nat
 |none=>d
 |some v=>if v < 0 then (v+(n:Int)).toNat else min v.toNat n
theorem Qw(n d:Nat):kY n d none=d:=rfl
theorem Qc(n d k:Nat):kY n d (some (k:Int))=min k n:=by
 show(if (k:Int) < 0 then ((k:Int)+(n:Int)).toNat else min (k:Int).toNat n)=min k n;rw[cD (by lia),yd]
theorem aQk(n d:Nat)(hd:d<=n)(o:Option Int):kY n d o<=n:=by
 cases o with
 |none=>exact hd
 |some v=>
  show(if v < 0 then (v+(n:Int)).toNat else min v.toNat n)<=n;by_cases hv:v < 0
  ·rw[cT hv];lia
  ·rw[cD hv];exact Nat.min_le_right _ _
theorem ZU(v:Int)(n d:Nat):(if v < 0 then max (v+(n:Int)) 0 else min v (n:Int))=((kY n d (some v):Nat):Int):=by
 show(if v < 0 then max (v+(n:Int)) 0 else min v (n:Int))=(((if v < 0 then (v+(n:Int)).toNat else min v.toNat n):Nat):Int)
 by_cases hv:v < 0
 ·simp only[cT hv];lia
 ·simp only[cD hv];lia
theorem aI8(lo hi:Option Int)(n:Nat):Builtin.Slice.sliceAdjust lo hi 1 (n:Int)=(((kY n 0 lo:Nat):Int),((kY n n hi:Nat):Int)):=by
 have h1:¬((1:Int) < 0):=by lia
 unfold Builtin.Slice.sliceAdjust;simp only[h1,if_false];refine Prod.ext ?_ ?_
 ·cases lo with
  |none=>rfl
  |some v=>exact ZU v n 0
 ·cases hi with
  |none=>rfl
  |some v=>exact ZU v n n
theorem aI9(i j:Nat):Builtin.Slice.slicePlaces (i:Int) (j:Int) 1=j - i:=by
 unfold Builtin.Slice.slicePlaces;have h1:(1:Int) > 0:=by lia
 simp only[h1,if_true,Int.ediv_one];split <;> lia
theorem aDH{o:Option Int}{Q:Option Int->Shared->Prop}(p:IsPart v o)(h:Q o s):wpAny (model prog w) A (Builtin.Slice.slicePartIndex v) Q E s:=by
 cases p with
 |none=>exact slicePart_none h
 |int i t=>exact slicePart_int h
theorem aBT{lo hi:Option Int}{n:Nat}{Q:Int×Int×Nat->Shared->Prop}(hs:s.heap.IsSliceOf sl vl vu .none)(pl:IsPart vl lo)(pu:IsPart vu hi)(h:Q (((kY n 0 lo:Nat):Int),1,kY n n hi - kY n 0 lo) s):wpAny (model prog w) A (Builtin.Slice.sliceApplied (.ref sl) (pure (n:Int))) Q E s:=by
 obtain⟨os,GC,Ww,A5⟩:=id hs;unfold Builtin.Slice.sliceApplied Builtin.Slice.sliceFields;refine bN (bN (wpAny_field GC A5 (x:=vl) rfl (bN (wpAny_field GC A5 (x:=vu) rfl (bN (wpAny_field GC A5 (x:=.none) rfl (dY ?_)))))));refine bN (slicePart_none ?_);show wpAny _ _ (if ((1:Int) == 0)=true then _ else _) _ _ s;rw[cD (by decide)];refine bN (aDH pl (bN (aDH pu (bN (dY ?_)))));show wpAny _ _ (match Builtin.Slice.sliceAdjust lo hi 1 (n:Int) with|(lo,hi)=>pure (lo,(1:Int),Builtin.Slice.slicePlaces lo hi 1)) _ _ s;rw[aI8 lo hi n];show wpAny _ _ (pure (((kY n 0 lo:Nat):Int),(1:Int),Builtin.Slice.slicePlaces ((kY n 0 lo:Nat):Int) ((kY n n hi:Nat):Int) 1)) _ _ s;rw[aI9];exact dY h
theorem aL3(xs:Array Value)(i k:Nat):((List.range k).filterMap λ(m:Nat)=>xs[((i:Int)+(m:Int)*1).toNat]?).toArray=((xs.toList.drop i).take k).toArray:=by
 have e:(λ(m:Nat)=>xs[((i:Int)+(m:Int)*1).toNat]?)=λm=>xs[i+m]?:=by
  funext m
  have:((i:Int)+(m:Int)*1).toNat=i+m:=by lia
  rw[this]
 rw[e];have:=pick_run xs i k;rw[List.filterMap_map] at this;have e2:((λx=>xs[x]?) ∘ λx=>i+x)=λm=>xs[i+m]?:=rfl;rw[e2] at this;rw[this]
theorem aAw{items:Array Value}{lo hi:Option Int}{Q:ar}(ht:IsTup s.heap t items)(hs:s.heap.IsSliceOf sl vl vu .none)(pl:IsPart vl lo)(pu:IsPart vu hi)(hw:¬(kY items.size 0 lo=0/\kY items.size items.size hi=items.size))(h:Q (.ref s.heap.objs.size) { s with heap:=s.heap.push { cls:=.type "tuple",data:=.seq ((items.toList.drop (kY items.size 0 lo)).take (kY items.size items.size hi - kY items.size 0 lo)).toArray } })(hsz:items.size<=sizeLine):wpAny (model prog w) A (getItem (.ref t) (.ref sl)) Q E s:=by
 have yj:sizeOk (.seq ((items.toList.drop (kY items.size 0 lo)).take (kY items.size items.size hi - kY items.size 0 lo)).toArray):=by
  show((items.toList.drop (kY items.size 0 lo)).take (kY items.size items.size hi - kY items.size 0 lo)).toArray.size<=sizeLine;rw[jT,og,F3,wq];lia
 have hj:kY items.size items.size hi<=items.size:=aQk _ _ (eO _) hi;obtain⟨os,GC,Ww,A5⟩:=id hs;have hTs:s.TypeIs (.ref sl) "slice":=⟨os,GC,Ww⟩
 unfold getItem;try with_reducible refine BH ?_
 first|refine bN (dY ?_)|skip
 refine bN (wpAny_sequenceKey ht.typeIs (by decide) ?_);refine bN (wpAny_callSpecial?_slot (name:=Str.ofString "__getitem__") ht.typeIs PyProof.Rows.slot_tuple_getitem
  (yz PyProof.Rows.slot_tuple_getitem ht.typeIs entry_tuple_getitem ?_ (args_tuple_getitem _ _)))
 show wpAny _ _ (Builtin.Tuple.tupleItemsOf (.ref t) >>= _) _ _ s;refine bN (tupleItemsOf_ ht ?_);refine bN (wpAny_typeOf hTs ?_);rw[cT (by decide)];refine bN (aBT hs pl pu ?_);have hno:¬((((kY items.size 0 lo:Nat):Int) == 0 && (1:Int) == 1 && (kY items.size items.size hi - kY items.size 0 lo) == items.size)=true):=by
  intro q;rw[yc,yc] at q;have q1:((kY items.size 0 lo:Nat):Int)=0:=eq_of_beq q.1.1;have q2:kY items.size items.size hi - kY items.size 0 lo=items.size:=eq_of_beq q.2;exact hw ⟨by lia,by lia⟩
 show wpAny _ _ (if (((kY items.size 0 lo:Nat):Int) == 0 && (1:Int) == 1 && (kY items.size items.size hi - kY items.size 0 lo) == items.size)=true then _ else _) _ _ s;rw[cD hno,aL3];first
  |exact bN (m:=Builtin.Tuple.tupleExact _) (wo (dY ⟨_,rfl,dY h⟩) yj)
  |exact bN (m:=Builtin.Tuple.tupleExact _) (wo (bN (dY (dY ⟨_,rfl,dY h⟩))) yj)
  |exact bN (bN (m:=Builtin.Tuple.tupleExact _) (wo (dY (dY ⟨_,rfl,dY h⟩)) yj))
  |exact bN (bN (m:=Builtin.Tuple.tupleExact _) (wo (dY ⟨_,rfl,dY h⟩) yj))
end
end HT
namespace L2
open PySem PySem.Spec PyProof.Rows
abbrev TO:=St->Hp->(Option Int->Hp->Prop)->Prop
def PO(X:Cx)(e:Option Expr)(t:TO):Prop:=
 ∀(pins:au) (s:Shared) (σ:St) (H:Hp) (Q:Option Int->Hp->Prop),Inv X pins σ H s->t σ H Q->
  wpAny (model X.prog X.w) X.A (evalPart e X.env) (λu s'=>∃o H',Inv X pins σ H' s'/\IsPart u o/\Q o H') X.xe s
def Qb:TO:=λ_ H Q=>Q none H
def Py(t:TE):TO:=λσ H Q=>t σ H λx H1=>∃i,x=.int i/\Q (some i) H1
theorem intsAre_of{ns:ae}:∀{us:aj},Vals (ns.map V.int) us->IntsAre us ns:=by
 induction ns with
 |nil=>intro us r;rw[CQ] at r;cases r;exact .nil
 |cons n ns ih=>
  intro us r;rw[jz] at r;cases r with
  |cons r1 r2=>
   obtain⟨t,e⟩:=r1;subst e;exact .cons n t (ih r2)
section
variable{X:Cx}{e:Expr}{te:TE}{lo hi:Option Expr}{tl th:TO}{pos p2:Pos}
theorem aN4:PO X none Qb:=by
 intro pins s σ H Q I h;rw[evalPart_none];exact dY ⟨none,H,I,.none,h⟩
theorem aN5(h:PE X e te):PO X (some e) (Py te):=by
 intro pins s σ H Q I hw;rw[evalPart_some];refine eF (h pins s σ H _ I hw) λu s1 zq=>?_;obtain⟨x,H1,I1,r1,q1⟩:=zq;obtain⟨i,rfl,q⟩:=q1;obtain⟨t,rfl⟩:=r1;exact⟨some i,H1,I1,.int i t,q⟩
def BL(X:Cx)(r:V->Option Int->Option Int->Hp->VK->Prop):Prop:=
 ∀(pins:au) (s:Shared) (σ:St) (H:Hp) (x:V) (v vl vu:Value) (lo hi:Option Int) (sl:Addr) (Q:VK),Inv X pins σ H s->RelV x v->s.heap.IsSliceOf sl vl vu .none->IsPart vl lo->IsPart vu hi->r x lo hi H Q->
  ∃T id,typeLookup (.type T) "__getitem__" = pure (some (.builtin id))/\s.TypeIs v T/\wpAny (model X.prog X.w) X.A (getItem v (.ref sl)) (EP X pins σ Q) X.xe s
theorem BL.or{r r':V->Option Int->Option Int->Hp->VK->Prop}(h:BL X r)(h':BL X r'):BL X (λx lo hi H Q=>r x lo hi H Q\/r' x lo hi H Q):=by
 intro pins s σ H x v vl vu lo hi sl Q I rx hs pl pu q;rcases q with q|q
 ·exact h pins s σ H x v vl vu lo hi sl Q I rx hs pl pu q
 ·exact h' pins s σ H x v vl vu lo hi sl Q I rx hs pl pu q
def MJ(r:V->Option Int->Option Int->Hp->VK->Prop)(te:TE)(tl th:TO):TE:=λσ H Q=>te σ H λx H1=>tl σ H1 λl H2=>th σ H2 λu H3=>r x l u H3 Q
theorem aL5{r:V->Option Int->Option Int->Hp->VK->Prop}(hr:BL X r)(he:PE X e te)(hl:PO X lo tl)(hu:PO X hi th):PE X (.Subscript e (.Slice lo hi none p2) pos) (MJ r te tl th):=by
 intro pins s σ H Q I h;refine Subscript_ (eF (he pins s σ H _ I h) λv s1 zq=>?_);obtain⟨x,H1,I1,r1,q1⟩:=zq;refine wpAny_Slice (eF (hl pins s1 σ H1 _ I1 q1) λvl s2 ⟨l,H2,I2,pl,q2⟩=>eF (hu pins s2 σ H2 _ I2 q2) λvu s3 zq=>?_);obtain⟨u,H3,I3,pu,q3⟩:=zq;rw[evalPart_none];refine dY ?_;have I4:Inv X pins σ H3 { s3 with heap:=s3.heap.push { cls:=.type "slice",data:=.fields #[vl,vu,.none] } }:=I3.kept (t':=s3.toks) λb ob q=>fL _ q;obtain⟨T,id,hT,ht,hg⟩:=hr pins { s3 with heap:=s3.heap.push { cls:=.type "slice",data:=.fields #[vl,vu,.none] } } σ H3 x v vl vu l u s3.heap.objs.size Q I4 r1 (Heap.IsSliceOf.new ..) pl pu q3;show wpAny (model X.prog X.w) X.A (subscriptTail e (.Slice lo hi none p2) v (.ref s3.heap.objs.size)) (EP X pins σ Q) X.xe { s3 with heap:=s3.heap.push { cls:=.type "slice",data:=.fields #[vl,vu,.none] } };exact tail_any (ops:=[.ref s3.heap.objs.size,v]) ht hT hg (by with_unfolding_all rfl)
def kZ(xs:List V)(lo hi:Option Int):List V:=(xs.drop (HT.kY xs.length 0 lo)).take (HT.kY xs.length xs.length hi - HT.kY xs.length 0 lo)
theorem fW(xs:List V)(lo hi:Option Int):(kZ xs lo hi).length<=xs.length:=by
 unfold kZ;rw[og,F3];lia
def Yv(K:W.Frag):V->Option Int->Option Int->Hp->VK->Prop:=λx lo hi H Q=>∃a xs,x=.ref a/\gZ K H a xs/\
 ¬(HT.kY xs.length 0 lo=0/\HT.kY xs.length xs.length hi=xs.length)/\∀p,H p=none->Q (.ref p) (upd H p (.tup (kZ xs lo hi)))
theorem aQl:BL X (Yv X.K):=by
 intro pins s σ H x v vl vu lo hi sl Q I rx hs pl pu h;obtain⟨a,xs,rfl,hx,hw,q⟩:=h;cases rx;obtain⟨az,r,ht,hz⟩:=I.tuple hx;have hlen:az.toArray.size=xs.length:=by rw[jT];exact r.length.symm
 refine⟨"tuple",_,PyProof.Rows.slot_tuple_getitem.lookup,ht.typeIs,?_⟩;refine HT.aAw ht hs pl pu (by rw[hlen];exact hw) ?_ (by rw[hlen];exact hz);rw[hlen];refine⟨.ref s.heap.objs.size,_,I.laid (t':=s.toks) (o:=.tup (kZ xs lo hi)) (λb ob q=>fL _ q) (eO _) ?_,rfl,q _ (I.bf.fresh (eO _))⟩;exact⟨vm (fW xs lo hi) hz,_,(r.drop (HT.kY xs.length 0 lo)).take (HT.kY xs.length xs.length hi - HT.kY xs.length 0 lo),IsTup.new _ _⟩
end
def uk(n:Nat)(i:Int):Option Nat:=if 0<=i then (if i < n then some i.toNat else none) else if -(n:Int)<=i then some (i+n).toNat else none
def lT{α:Type}(xs:List α)(i:Int):Option α:=(uk xs.length i).bind λj=>xs[j]?
theorem ZT{n:Nat}{i:Int}{j:Nat}(h:uk n i=some j):seqIndex? i n=some j/\j < n/\-(n:Int)<=i/\i < n:=by
 unfold uk at h;by_cases h0:0<=i
 ·rw[cT h0] at h;by_cases h1:i < n
  ·rw[cT h1] at h;have e:i.toNat=j:=Option.some.inj h;exact⟨by rw[seqIndex_of h0 h1,e],by lia,by lia,h1⟩
  ·rw[cD h1] at h;cases h
 ·rw[cD h0] at h;by_cases h1:-(n:Int)<=i
  ·rw[cT h1] at h;have e:(i+n).toNat=j:=Option.some.inj h;exact⟨by rw[seqIndex_neg (by lia) h1,e],by lia,h1,by lia⟩
  ·rw[cD h1] at h;cases h
theorem Qa{α:Type}{xs:List α}{i:Int}{v:α}(h:lT xs i=some v):∃j,seqIndex? i xs.length=some j/\xs[j]?=some v/\j < xs.length/\-(xs.length:Int)<=i/\i < xs.length:=by
 unfold lT at h;cases e:uk xs.length i with
 |none=>rw[e] at h;cases h
 |some j=>
  rw[e] at h;obtain⟨h1,h2,h3,h4⟩:=ZT e;exact⟨j,h1,h,h2,h3,h4⟩
theorem gU{α:Type}{xs:List α}{j:Nat}{v:α}(h:xs[j]?=some v):lT xs (j:Int)=some v:=by
 have hj:j < xs.length:=(iZ.mp h).1;have e:uk xs.length (j:Int)=some j:=by
  unfold uk;rw[cT (by lia),cT (by lia)];simp
 unfold lT;rw[e];exact h
theorem aHN{α:Type}(xs:List α)(v:α):lT (xs ++ [v]) (-1)=some v:=by
 have hl:(xs ++ [v]).length=xs.length+1:=by simp
 have e:uk (xs ++ [v]).length (-1)=some xs.length:=by
  unfold uk;rw[hl,cD (by decide),cT (by lia)];congr 1;lia
 unfold lT;rw[e];show(xs ++ [v])[xs.length]?=some v;simp
def ZR(b:Expr):Prop:=∀o i,subscripted b false o i=operate [o,i] (getItem o i)
def BO(X:Cx)(r:R2):Prop:=
 ∀(value slice:Expr) (pins:au) (s:Shared) (σ:St) (H:Hp) (x y:V) (v u:Value) (Q:VK),Inv X pins σ H s->RelV x v->RelV y u->r x y H Q->
  subscripted slice false v u=operate [v,u] (getItem v u)->wpAny (model X.prog X.w) X.A (subscriptTail value slice v u) (EP X pins σ Q) X.xe s
def MtR(X:Cx)(id:String)(r:V->List V->Hp->VK->Prop):Prop:=
 ∀(pins:au) (s:Shared) (σ:St) (H:Hp) (x:V) (xs:List V) (v:Value) (us:aj) (Q:VK),Inv X pins σ H s->RelV x v->Vals xs us->r x xs H Q->
  wpAny (model X.prog X.w) X.A (call (.builtin id) (v::us)) (EP X pins σ Q) X.xe s
section
variable{X:Cx}{a b:Expr}{ta tb:TE}{pos:Pos}
theorem BO.or{r':R2}(h:BO X r)(h':BO X r'):BO X (λx y H Q=>r x y H Q\/r' x y H Q):=by
 intro value slice pins s σ H x y v u Q I rx ry q hs;rcases q with q|q
 ·exact h value slice pins s σ H x y v u Q I rx ry q hs
 ·exact h' value slice pins s σ H x y v u Q I rx ry q hs
theorem aRL(hr:BO X r)(ha:PE X a ta)(hb:PE X b tb)(hs:ZR b):PE X (.Subscript a b pos) (Bn r ta tb):=by
 intro pins s σ H Q I h;exact Subscript_ (OR ha hb I h λv u s2 x y H2 I2 rx ry q=>hr a b pins s2 σ H2 x y v u Q I2 rx ry q (hs _ _))
def Yu(K:W.Frag):R2:=λx y H Q=>∃p xs i v,x=.ref p/\y=.int i/\bP K H p xs/\lT xs i=some v/\Q v H
def Yt(K:W.Frag):R2:=λx y H Q=>∃p xs i v,x=.ref p/\y=.int i/\gZ K H p xs/\lT xs i=some v/\Q v H
def Ys:R2:=λx y H Q=>∃z i c,x=.str z/\y=.int i/\z.length<=sizeLine/\lT z.cps.toList i=some c/\Q (.str ⟨#[c]⟩) H
theorem aN6:BO X (Yu X.K):=by
 intro value slice pins s σ H x y v u Q I rx ry h hs;obtain⟨p,xs,i,z,rfl,rfl,hq,he,q⟩:=h;cases rx;obtain⟨t,rfl⟩:=ry;obtain⟨az,r,pl,hz⟩:=I.list hq;obtain⟨j,h1,h2,h3,h4,h5⟩:=Qa he;obtain⟨w,ew,vh⟩:=r.get h2;have hl:=r.length;have hn:=FT;have fin:EP X pins σ Q w s:=⟨z,H,I,vh,q⟩
 by_cases h0:0<=i
 ·have hj:i.toNat=j:=by
   rw[seqIndex_of h0 h5] at h1;exact Option.some.inj h1
  exact item_listR pl.isList h0 (by lia) (by rw[hj];simpa using ew) fin hs
 ·have hj:(i+(az.toArray.size:Int)).toNat=j:=by
   rw[seqIndex_neg (by lia) h4] at h1;rw[jT,<-hl];exact Option.some.inj h1
  exact subscriptTail_builtinR (x:=w) pl.isList.typeIs slot_list_getitem.lookup
   (wpAny_getItem_list_neg (Q:=λr s'=>r=w/\EP X pins σ Q r s') pl.isList (by lia) (by rw[jT] <;> lia) (by lia) (by rw[hj];simpa using ew) ⟨rfl,fin⟩) hs
theorem aQm:BO X (Yt X.K):=by
 intro value slice pins s σ H x y v u Q I rx ry h hs;obtain⟨p,xs,i,z,rfl,rfl,hq,he,q⟩:=h;cases rx;obtain⟨t,rfl⟩:=ry;obtain⟨az,r,pl,hz⟩:=I.tuple hq;obtain⟨j,h1,h2,h3,h4,h5⟩:=Qa he;obtain⟨w,ew,vh⟩:=r.get h2;have hl:=r.length;have hn:=FT;have fin:EP X pins σ Q w s:=⟨z,H,I,vh,q⟩
 exact subscriptTail_builtinR (x:=w) pl.typeIs slot_tuple_getitem.lookup
  (getItem_tuple (j:=j) (Q:=λr s'=>r=w/\EP X pins σ Q r s') pl (by lia) (by lia) (by rw[jT,<-hl];exact h1) (by simpa using ew) ⟨rfl,fin⟩) hs
theorem aQn:BO X Ys:=by
 intro value slice pins s σ H x y v u Q I rx ry h hs;obtain⟨z,i,c,rfl,rfl,hz,he,q⟩:=h;obtain⟨t,rfl⟩:=rx;obtain⟨t',rfl⟩:=ry;obtain⟨j,h1,h2,h3,h4,h5⟩:=Qa he;have hl:z.cps.toList.length=z.length:=by simp[Str.length]
 rw[hl] at h1 h4 h5;have hn:=FT;exact tail_any (typeIs_str s z t) slot_str_getitem.lookup (getItem_str (c:=c) (by
  have e1:decide (i < -(2 ^ 63:Int))=false:=yb (by lia);have e2:decide (i ≥ 2 ^ 63)=false:=yb (by lia);rw[e1,e2,Bool.or_false]) (by rw[h1];simpa using h2) ⟨.str ⟨#[c]⟩,H,I.tok _,⟨_,rfl⟩,q⟩) hs
def Kb(K:W.Frag):R2:=λx y H Q=>Yu K x y H Q\/Yt K x y H Q\/Ys x y H Q
theorem aQo:BO X (Kb X.K):=aN6.or (aQm.or aQn)
theorem aJa(az:aj)(n j:Nat)(u:Value):Obj.mapSeq (·.setIfInBounds j u) { cls:=.type "list",data:=.seq az.toArray n } = { cls:=.type "list",data:=.seq (az.set j u).toArray n }:=by
 simp[Obj.mapSeq]
theorem Inv.lst{pins:au}{σ:St}{H:Hp}{s:Shared}{p:Addr}{xs:List V}(I:Inv X pins σ H s)(h:H p=some (.lst xs)) :
  ∃(az:aj) (n:Nat),Vals xs az/\s.heap.get? p=some { cls:=.type "list",data:=.seq az.toArray n }/\xs.length<=sizeLine:=by
 obtain⟨z,az,n,r,e⟩:=I.bf p _ h;exact⟨az,n,r,e,z⟩
theorem Inv.aQp{s:Shared}{ys:List V}{az its':aj}{n n':Nat}{f:Obj->Obj}(I:Inv X pins σ H s)(h:H p=some (.lst xs))(ho:s.heap.get? p=some { cls:=.type "list",data:=.seq az.toArray n })(hf:f { cls:=.type "list",data:=.seq az.toArray n } = { cls:=.type "list",data:=.seq its'.toArray n' })(r:Vals ys its')(hz:ys.length<=sizeLine)(t:Nat) :
  Inv X pins σ (upd H p (.lst ys)) { s with heap:=s.heap.update p f,toks:=t }:=by
 have e:(s.heap.update p f).get? p=some { cls:=.type "list",data:=.seq its'.toArray n' }:=by
  rw[Ib f ho (by rw[hf] <;> rfl),hf]
 refine I.write (x:=p) (e:=p) (by rw[h];trivial) (.inl rfl) (λb u hb q=>(Rg _ _ (Ne.symm hb)).trans q) ⟨_,e⟩ ?_;exact⟨hz,its',n',r,e⟩
def YM:V->V->V->Hp->(Hp->Prop)->Prop:=λo i v H Q=>∃p xs k j,o=.ref p/\i=.int k/\H p=some (.lst xs)/\uk xs.length k=some j/\Q (upd H p (.lst (xs.set j v)))
theorem set_list:Hh X YM:=by
 intro pins s σ H o i v ov iv u Q I ro ri rv h;obtain⟨p,xs,k,j,rfl,rfl,hp,hj,q⟩:=h;cases ro;obtain⟨t,rfl⟩:=ri;obtain⟨az,n,r,ho,hz⟩:=I.lst hp;obtain⟨h1,h2,h3,h4⟩:=ZT hj;have hl:=r.length;have hn:=FT;have I':Inv X pins σ (upd H p (.lst (xs.set j v))) { s with heap:=s.heap.update p (Obj.mapSeq (·.setIfInBounds j u)) }:=
  I.aQp hp ho (aJa az n j u) (r.set rv j) (by rw[HX];exact hz) s.toks
 by_cases h0:0<=k
 ·have hk:k.toNat=j:=by
   rw[seqIndex_of h0 h4] at h1;exact Option.some.inj h1
  exact PySem.W.ki_setAt ho h0 (by lia) (by rw[jT,<-hl];exact h4) (by rw[hk];exact⟨_,I',q⟩)
 ·have hk:(k+(az.toArray.size:Int)).toNat=j:=by
   rw[seqIndex_neg (by lia) h3] at h1;rw[jT,<-hl];exact Option.some.inj h1
  exact PySem.W.ki_setBack ho (by lia) (by rw[jT,<-hl];exact h3) (by lia) (by rw[hk];exact⟨_,I',q⟩)
theorem aGA(lo hi:Option Int)(n:Nat):(sliceBounds lo hi none n).1=((HT.kY n 0 lo:Nat):Int)/\(sliceBounds lo hi none n).2.1=((HT.kY n n hi:Nat):Int)/\(sliceBounds lo hi none n).2.2=1:=by
 refine⟨?_,?_,rfl⟩
 ·cases lo with
  |none=>simp[sliceBounds,HT.kY]
  |some i=>
   simp only[sliceBounds,HT.kY,Option.getD_none,show(1:Int) > 0 by decide,if_true];by_cases h:i < 0
   ·simp only[h,if_true] <;> lia
   ·simp only[h,if_false] <;> lia
 ·cases hi with
  |none=>simp[sliceBounds,HT.kY]
  |some i=>
   simp only[sliceBounds,HT.kY,Option.getD_none,show(1:Int) > 0 by decide,if_true];by_cases h:i < 0
   ·simp only[h,if_true] <;> lia
   ·simp only[h,if_false] <;> lia
theorem aE5(az:aj)(lo hi:Option Int):slicePick az.toArray lo hi none=((az.drop (HT.kY az.length 0 lo)).take (HT.kY az.length az.length hi - HT.kY az.length 0 lo)).toArray:=by
 obtain⟨h1,h2,h3⟩:=aGA lo hi az.toArray.size;unfold slicePick;rw[h1,h2,h3];simp only[sliceRange_one,pick_run,jT] <;> rfl
def Yr(K:W.Frag):V->Option Int->Option Int->Hp->VK->Prop:=λx lo hi H Q=>∃a xs,x=.ref a/\bP K H a xs/\∀p,H p=none->Q (.ref p) (upd H p (.lst (kZ xs lo hi)))
theorem aN7:BL X (Yr X.K):=by
 intro pins s σ H x v vl vu lo hi sl Q I rx hs pl pu h;obtain⟨a,xs,rfl,hx,q⟩:=h;cases rx;obtain⟨az,r,ht,hz⟩:=I.list hx;have hlen:=r.length;refine⟨"list",_,slot_list_getitem.lookup,ht.isList.typeIs,?_⟩;refine wpAny_getItem_list_slice ht.isList hs pl pu .none (by simp) ?_ (by rw[jT] <;> lia);rw[aE5,<-hlen];refine⟨.ref s.heap.objs.size,_,I.laid (t':=s.toks) (o:=.lst (kZ xs lo hi)) (λb ob q=>fL _ q) (eO _) ?_,rfl,q _ (I.bf.fresh (eO _))⟩;exact⟨vm (fW xs lo hi) hz,_,0,(r.drop (HT.kY xs.length 0 lo)).take (HT.kY xs.length xs.length hi - HT.kY xs.length 0 lo),qP _ rfl⟩
def qR:V->Bool
 |.bw=>true
 |.bl _=>true
 |.int _=>true
 |.str _=>true
 |_=>false
def eqV:V->V->Bool
 |.bw,.bw=>true
 |.bl a,.bl b=>a == b
 |.bl a,.int b=>(if a then 1 else 0) == b
 |.int a,.bl b=>a == (if b then 1 else 0)
 |.int a,.int b=>a == b
 |.str a,.str b=>a == b
 |_,_=>false
theorem Zg(ry:RelV y u)(rx:RelV x v)(fy:qR y=true)(fx:qR x=true):SeqAt.EqAt A s u v (eqV y x):=by
 cases y with
 |bw=>
  cases ry;cases x with
  |bw=>cases rx;exact SeqAt.EqAt.same _
  |bl b=>cases rx;exact SeqAt.EqAt.none_bool b
  |int b=>obtain⟨t,rfl⟩:=rx;exact SeqAt.EqAt.none_int b t
  |str b=>obtain⟨t,rfl⟩:=rx;exact SeqAt.EqAt.none_str b t
  |_=>exact absurd (show false=true from fx) oh
 |bl a=>
  cases ry;cases x with
  |bw=>cases rx;exact SeqAt.EqAt.bool_none a
  |bl b=>cases rx;exact SeqAt.EqAt.bool_bool a b
  |int b=>obtain⟨t,rfl⟩:=rx;exact SeqAt.EqAt.bool_int a b t
  |str b=>obtain⟨t,rfl⟩:=rx;exact SeqAt.EqAt.bool_str a b t
  |_=>exact absurd (show false=true from fx) oh
 |int a=>
  obtain⟨t',rfl⟩:=ry;cases x with
  |bw=>cases rx;exact SeqAt.EqAt.int_none a t'
  |bl b=>cases rx;exact SeqAt.EqAt.int_bool a t' b
  |int b=>obtain⟨t,rfl⟩:=rx;exact SeqAt.EqAt.int_int a t' b t
  |str b=>obtain⟨t,rfl⟩:=rx;exact SeqAt.EqAt.int_str a t' b t
  |_=>exact absurd (show false=true from fx) oh
 |str a=>
  obtain⟨t',rfl⟩:=ry;cases x with
  |bw=>cases rx;exact SeqAt.EqAt.str_none a t'
  |bl b=>cases rx;exact SeqAt.EqAt.str_bool a t' b
  |int b=>obtain⟨t,rfl⟩:=rx;exact SeqAt.EqAt.str_int a t' b t
  |str b=>obtain⟨t,rfl⟩:=rx;exact SeqAt.EqAt.str_str a t' b t
  |_=>exact absurd (show false=true from fx) oh
 |_=>exact absurd (show false=true from fy) oh
theorem aGB:eS X (.type "list") (λxs H Q=>∃p ys,xs=[.ref p]/\(bP X.K H p ys\/gZ X.K H p ys)/\∀l,H l=none->Q (.ref l) (upd H l (.lst ys))):=by
 intro pins s σ H xs us Q I r h;obtain⟨p,ys,rfl,hq,q⟩:=h;obtain⟨u,rfl,rx⟩:=vals1 r;cases rx;have fin:∀(az:aj),Vals ys az->ys.length<=sizeLine->∀(h':Heap) (c':Nat),(∀b o',s.heap.get? b=some o'->h'.get? b=some o')->
   h'.get? s.heap.objs.size=some { cls:=.type "list",dict:=none,data:=.seq az.toArray c',slots:=#[] }->EP X pins σ Q (.ref s.heap.objs.size) { s with heap:=h' }:=λaz r' hz h' c' kp e=>
  ⟨.ref s.heap.objs.size,_,I.laid (t':=s.toks) kp (eO _) (show cR X.prog X.w _ h' _ (.lst ys) from⟨hz,az,c',r',e⟩),rfl,q _ (I.bf.fresh (eO _))⟩
 rcases hq with hq|hq
 ·obtain⟨az,r',pl,hz⟩:=I.list hq;have hlen:=r'.length;obtain⟨o,ho,hc,n,hd⟩:=pl.isList;exact call_list_seq p (.inl rfl) ho hc hd (λh' c' kp e=>fin az r' hz h' c' kp e) (by simp only[jT] <;> lia)
 ·obtain⟨az,r',pl,hz⟩:=I.tuple hq;have hlen:=r'.length;obtain⟨o,ho,hc,n,hd⟩:=pl;exact call_list_seq p (.inr rfl) ho hc hd (λh' c' kp e=>fin az r' hz h' c' kp e) (by simp only[jT] <;> lia)
theorem aE6:eS X (.type "tuple") (λxs H Q=>∃p ys,xs=[.ref p]/\((bP X.K H p ys/\∀l,H l=none->Q (.ref l) (upd H l (.tup ys)))\/(gZ X.K H p ys/\Q (.ref p) H))):=by
 intro pins s σ H xs us Q I r h;obtain⟨p,ys,rfl,h⟩:=h;obtain⟨u,rfl,rx⟩:=vals1 r;cases rx;rcases h with ⟨hq,q⟩|⟨hq,q⟩
 ·obtain⟨az,r',pl,hz⟩:=I.list hq;have hlen:=r'.length;refine call_tuple_list pl.isList (λh' kp=>?_) (by simp only[jT] <;> lia);have I1:Inv X pins σ H { s with heap:=h' }:=I.kept (t':=s.toks) kp;have I2:Inv X pins σ (upd H h'.objs.size (.tup ys)) { s with heap:=h'.push { cls:=.type "tuple",data:=.seq az.toArray } }:=
   I1.laid (t':=s.toks) (λb o e=>fL _ e) (eO _) (show cR X.prog X.w _ _ _ (.tup ys) from⟨hz,az,r',IsTup.new _ _⟩)
  exact⟨.ref h'.objs.size,_,I2,rfl,q _ (I1.bf.fresh (eO _))⟩
 ·obtain⟨az,r',pl,hz⟩:=I.tuple hq;exact call_tuple_same pl ⟨.ref p,H,I,rfl,q⟩
def JY(K:W.Frag)(T:String)(x:V)(H:Hp):Prop:=match x with
 |.str _=>T = "str"
 |.int _=>T = "int"
 |.ref p=>(T = "list"/\∃xs,bP K H p xs)\/(T = "tuple"/\∃o,K.lookup p=some o/\o.cls=.type "tuple"/\o.dict=none)\/
   (T = "dict"/\((∃kvs,H p=some (.dK kvs))\/∃kvs,H p=some (.dT kvs)))\/(T = "set"/\∃S n,H p=some (.set S n))
 |_=>False
theorem aQq{s:Shared}(I:Inv X pins σ H s)(r:RelV x v)(ty:JY X.K T x H) :
  s.TypeIs v T/\∀a,v=.ref a->∃ob,s.heap.get? a=some ob/\ob.dict=none:=by
 cases x with
 |str z=>
  obtain⟨t,rfl⟩:=r;cases (show T = "str" from ty);exact⟨typeIs_str s z t,λ_ e=>nomatch e⟩
 |int i=>
  obtain⟨t,rfl⟩:=r;cases (show T = "int" from ty);exact⟨typeIs_int s i t,λ_ e=>nomatch e⟩
 |ref p=>
  cases r;rcases ty with ⟨rfl,xs,hq⟩|⟨rfl,o,hk,hc,hd⟩|⟨rfl,hk⟩|⟨rfl,S,n,hk⟩
  ·obtain⟨az,_,pl,_⟩:=I.list hq;refine⟨pl.isList.typeIs,λa e=>?_⟩;cases e;obtain⟨o,n,e,c,hd,_⟩:=pl;exact⟨o,e,hd⟩
  ·refine⟨⟨o,I.mi p o hk,hc⟩,λa e=>?_⟩;cases e;exact⟨o,I.mi _ o hk,hd⟩
  ·have z:∃o,s.heap.get? p=some o/\o.ExactDict:=by
    rcases hk with ⟨kvs,hk⟩|⟨kvs,hk⟩
    ·obtain⟨_,_,_,_,o,_,_,e,ex,_⟩:=I.bf p _ hk;exact⟨o,e,ex⟩
    ·obtain⟨_,_,_,_,o,_,_,e,ex,_⟩:=I.bf p _ hk;exact⟨o,e,ex⟩
   obtain⟨o,e,ex⟩:=z;refine⟨⟨o,e,ex.1⟩,λa e2=>?_⟩;cases e2;exact⟨o,e,ex.2.1⟩
  ·obtain⟨o,_,_,_,e,ex,_⟩:=I.bf p _ hk;refine⟨⟨o,e,ex.1⟩,λa e2=>?_⟩;cases e2;exact⟨o,e,ex.2.1⟩
 |_=>exact False.elim ty
def EJ(K:W.Frag)(T:String)(r:V->List V->Hp->VK->Prop)(to:TE)(t:TA):TE:=λσ H Q=>to σ H λx H1=>JY K T x H1/\t σ H1 λxs H2=>r x xs H2 Q
variable{o e:Expr}{es:List Expr}{to:TE}{t:TA}{name:Str}{apos bu:Pos}{T id:String}{r:V->List V->Hp->VK->Prop}
theorem YL(pa:PlainAttrs T)(slot:Slot T name id)(hty:typeOf (.builtin id)=pure (.type "method_descriptor"))(hm:MtR X id r)(ho:PE X o to)(ha:PA X (e::es) t)
  (fk:attributeBase o name X.env (eval o X.env)=eval o X.env:=by rfl)
  (UL:((backTo bu (starEach (e::es) X.env)).all (λx=>!x.1) && (backToKw bu (keywordEach [] X.env)).all (λx=>x.1.isSome)
   && decide ((e::es).length+([]:List Keyword).length+(if ([]:List Keyword).isEmpty then 0 else 1) < 30))=true:=by rfl)
  (fj:(apos.endLine == bu.line)=true:=by rfl) (hs:starEach (e::es) X.env=(false,eval e X.env)::starEach es X.env:=by rfl) (EE:(backTo bu (starEach es X.env)).any (·.1)=false:=by rfl) :
  PE X (.Call (.Attribute o name apos) (e::es) [] bu) (EJ X.K T r to t):=by
 intro pins s σ H Q I h;refine wpAny_Call_method_late fk UL fj rfl (eF (ho pins s σ H _ I h) λv s1 zq=>?_);obtain⟨x,H1,I1,r1,ty,q1⟩:=zq;obtain⟨h1,h2⟩:=aQq I1 r1 ty;refine⟨T,id,pa,slot,hty,h1,h2,?_⟩;have hA:=ha bu pins s1 σ H1 _ I1 q1;rw[hs] at hA ⊢;refine Calls.callWith_builtin (by show(false || (backTo bu (starEach es X.env)).any (·.1))=false;rw[EE] <;> rfl) (Calls.evalArgs_plain ?_);exact eF hA λus s2 ⟨vs,H2,I2,r2,q2⟩=>hm pins s2 σ H2 x vs v us Q I2 r1 r2 q2
end
def MtM(X:Cx)(id:String)(r:V->List V->Hp->VK->Prop):Prop:=
 ∀(pins:au) (s:Shared) (σ:St) (H:Hp) (x:V) (xs:List V) (v:Value) (us:aj) (Q:VK),Inv X pins σ H s->RelV x v->Vals xs us->r x xs H Q->
  wpAny (model X.prog X.w) X.A (call (.builtin id) (v::us)) (EP X pins σ Q) X.xe s
theorem Vals.one:∀{x:V}{us:aj},Vals [x] us->∃u,us=[u]/\RelV x u
 |_,_,.cons r .nil=>⟨_,rfl,r⟩
theorem Vals.dropLast{xs:List V}{us:aj}(h:Vals xs us):Vals xs.dropLast us.dropLast:=by
 induction h with
 |nil=>exact .nil
 |cons r t ih=>
  cases t with
  |nil=>exact .nil
  |cons q t'=>exact .cons r ih
theorem Vals.rep(h:Vals xs us):∀k:Nat,Vals (List.replicate k xs).flatten (List.replicate k us).flatten
 |0=>.nil
 |k+1=>by
  rw[F7,F7,Mh,Mh];exact Vals.append h (Vals.rep h k)
theorem foldl_rep(az:aj):∀(k:Nat) (acc:aj),
  List.foldl (λx1 x2=>x1++x2) acc.toArray (List.replicate k az.toArray)=(acc++(List.replicate k az).flatten).toArray
 |0,acc=>by simp
 |k+1,acc=>by
  have e:acc.toArray++az.toArray=(acc++az).toArray:=by simp
  have e2:(acc++az)++(List.replicate k az).flatten=acc++(List.replicate (k+1) az).flatten:=by
   rw[F7,Mh,HZ]
  rw[<-e2,<-foldl_rep az k (acc++az),<-e,F7,List.foldl_cons]
section
variable{X:Cx}{pins:au}{σ:St}{H:Hp}{s:Shared}{l b:Addr}{xs ys zs:List V}
theorem Inv.aSB{az its':aj}{n:Nat}{f:Array Value->Array Value}{t':Nat}(I:Inv X pins σ H s)(hH:H l=some (.lst xs))
  (e:s.heap.get? l=some { cls:=.type "list",data:=.seq az.toArray n }) (hf:f az.toArray=its'.toArray) (hv:Vals ys its') (hz:ys.length<=sizeLine) :
  Inv X pins σ (upd H l (.lst ys)) { s with heap:=s.heap.update l (Obj.mapSeq f),toks:=t' }:=by
 have q:=PySem.IsL.update e f;rw[hf] at q;refine I.write (x:=l) (e:=l) (by rw[hH];exact trivial) (.inl rfl) (λb' u hb hu=>(Rg s.heap (Obj.mapSeq f) (Ne.symm hb)).trans hu) ⟨_,q⟩ ?_;exact⟨hz,its',_,hv,q⟩
theorem Inv.Yq{t':Nat}(I:Inv X pins σ H s)(hv:Vals ys az)(hz:ys.length<=sizeLine) :
  Inv X pins σ (upd H s.heap.objs.size (.lst ys)) { s with heap:=s.heap.push { cls:=.type "list",data:=.seq az.toArray },toks:=t' }:=
 I.laid (λ_ _ q=>fL _ q) (eO _) ⟨hz,az,0,hv,qP _ rfl⟩
theorem Inv.fresh(I:Inv X pins σ H s):H s.heap.objs.size=none:=I.bf.fresh (eO _)
theorem Inv.Ln(I:Inv X pins σ H s)(hH:H l=some (.lst xs)):xs.length<=sizeLine/\∃(az:aj) (n:Nat),Vals xs az/\xs.length=az.length/\s.heap.get? l=some { cls:=.type "list",data:=.seq az.toArray n }:=by
 obtain⟨z,az,n,r,e⟩:=I.bf l _ hH;exact⟨z,az,n,r,r.length,e⟩
theorem aL7{n:Nat}(h:n<=sizeLine):Builtin.List.listTooLong n=false:=by
 unfold Builtin.List.listTooLong;exact yb (by lia)
end
section
variable{X:Cx}
def LS:V->List V->Hp->VK->Prop:=λx vs H Q=>∃l xs y,x=.ref l/\vs=[y]/\H l=some (.lst xs)/\xs.length < sizeLine/\Q .bw (upd H l (.lst (xs ++ [y])))
theorem aK1:MtM X "list.append" LS:=by
 intro pins s σ H x vs v us Q I rx rv h;obtain⟨l,xs,y,rfl,rfl,hH,hz,q⟩:=h;cases rx;obtain⟨u,rfl,ru⟩:=rv.one;obtain⟨z,az,n,r,hl,e⟩:=I.Ln hH;refine call_meets F.slot_list_append ⟨_,e,rfl⟩ F.entry_list_append (F.args_list_append_2 _ _) (PySem.list_append l az.toArray n u (by rw[jT];lia)) ⟨e,?_⟩;refine⟨.bw,_,I.aSB (its':=az ++ [u]) hH e (by simp) (r.append (.cons ru .nil)) ?_,rfl,q⟩;rw[iR,qf];lia
def Yp:R2:=λx y H Q=>∃l b xs zs,x=.ref l/\y=.ref b/\H l=some (.lst xs)/\H b=some (.lst zs)/\xs.length+zs.length<=sizeLine/\∀p,H p=none->Q (.ref p) (upd H p (.lst (xs++zs)))
theorem aQr:uS X (binaryOp .Add) Yp:=by
 intro pins s σ H x y v u Q I rx ry h;obtain⟨l,b,xs,zs,rfl,rfl,hH,hB,hz,q⟩:=h;cases rx;cases ry;obtain⟨z,az,n,r,hl,e⟩:=I.Ln hH;obtain⟨z2,xa,n2,r2,vj,e2⟩:=I.Ln hB;refine PySem.P.add_list e e2 ?_ (by rw[jT,jT];lia);have ea:az.toArray++xa.toArray=(az++xa).toArray:=by simp
 rw[ea];exact⟨.ref _,_,I.Yq (t':=s.toks) (r.append r2) (by rw[iR];lia),rfl,q _ I.fresh⟩
def Yo:R2:=λx y H Q=>∃l k xs,x=.ref l/\y=.int k/\H l=some (.lst xs)/\-(2 ^ 63)<=k/\k < 2 ^ 63/\xs.length*k.toNat<=sizeLine/\
 ∀p,H p=none->Q (.ref p) (upd H p (.lst (List.replicate k.toNat xs).flatten))
theorem len_rep{α:Type}(xs:List α)(k:Nat):(List.replicate k xs).flatten.length=k*xs.length:=by
 induction k with
 |zero=>simp
 |succ k ih=>rw[F7,Mh,iR,ih,Nat.succ_mul,Nat.add_comm]
theorem aQs:uS X (binaryOp .Mult) Yo:=by
 intro pins s σ H x y v u Q I rx ry h;obtain⟨l,k,xs,rfl,rfl,hH,h1,h2,hz,q⟩:=h;cases rx;obtain⟨t,rfl⟩:=ry;obtain⟨z,az,n,r,hl,e⟩:=I.Ln hH;have hlen:az.toArray.size*k.toNat<=sizeLine:=by rw[jT,<-hl];exact hz
 have UR:¬az.toArray.size*k.toNat > (2 ^ 63 - 1) / 8:=by
  have:(sizeLine:Nat)<=(2 ^ 63 - 1) / 8:=by decide
  lia
 have UK:¬(!Builtin.List.listFitsIndex k)=true:=by
  rw[fitsIndex_both h1 h2];exact oh
 have JK:¬Builtin.List.listTooLong (az.toArray.size*k.toNat)=true:=by
  rw[aL7 hlen];exact oh
 have Ep:List.foldl (λx1 x2=>x1++x2) #[] (List.replicate (if az.toArray.isEmpty=true then 0 else k.toNat) az.toArray)=(List.replicate k.toNat az).flatten.toArray:=by
  have f0:∀m:Nat,List.foldl (λx1 x2=>x1++x2) #[] (List.replicate m az.toArray)=(List.replicate m az).flatten.toArray:=λm=>by
   have:=foldl_rep az m [];rw[List.nil_append] at this;exact this
  rw[f0];cases az with
  |nil=>simp
  |cons a r'=>rw[cD (by simp)]
 refine wpAny_binaryOp_repeat_ref (T:="list") (U:="int") (by decide) ⟨_,e,rfl⟩ (λs'=>typeIs_int s' k t) noFill_list_mul F.fills_int_mul F.slot_int_rmul repeat_list F.slot_int_index.lookup
  (call_meets F.slot_int_rmul (typeIs_int s k t) F.entry_int_rmul (F.args_int_rmul_2 _ _) (int___rmul___int_list k t l az.toArray n)
   ⟨e,rfl,⟨_,e,rfl⟩,call_meets F.slot_list_mul ⟨_,e,rfl⟩ F.entry_list_mul (F.args_list_mul_2 _ _) (AutoListH.list___mul___list_int_3 l az.toArray n k t UK UR JK) ⟨e,?_⟩⟩)
 rw[Ep];exact⟨.ref _,_,I.Yq (t':=s.toks) (r.rep k.toNat) (by rw[len_rep,Nat.mul_comm];exact hz),rfl,q _ I.fresh⟩
end
section
variable{κ:Type}[DecidableEq κ]
def qS(kvs:List (κ×V))(k:κ):Option V:=(kvs.find? λkv=>decide (kv.1=k)).map (·.2)
def putK(kvs:List (κ×V))(k:κ)(v:V):List (κ×V):=
 if (kvs.any λkv=>decide (kv.1=k))=true then kvs.map (λkv=>if kv.1=k then (kv.1,v) else kv) else kvs ++ [(k,v)]
def YK(kvs:List (κ×V))(k:κ):List (κ×V):=kvs.filter λkv=>decide (kv.1≠k)
theorem lA{p:κ×V}(e:p.1=k):qS (p::r) k=some p.2:=by simp[qS,As,e]
theorem jA{p:κ×V}(e:¬p.1=k):qS (p::r) k=qS r k:=by simp[qS,As,e]
theorem Ma(k:κ):∀kvs:List (κ×V),(kvs.any λkv=>decide (kv.1=k))=(qS kvs k).isSome
 |[]=>rfl
 |p::r=>by
  rw[List.any_cons];by_cases e:p.1=k
  ·simp only[lA e,ur e,Bool.true_or,Option.isSome_some]
  ·rw[jA e,yb e,Bool.false_or];exact Ma k r
theorem uU(k j:κ)(y:V):∀kvs:List (κ×V),qS (kvs.map λkv=>if kv.1=k then (kv.1,y) else kv) j=(qS kvs j).map λx=>if j=k then y else x
 |[]=>rfl
 |p::r=>by
  have ih:=uU k j y r;rw[jz];by_cases h:p.1=k
  ·rw[cT h];by_cases e:p.1=j
   ·rw[lA (p:=(p.1,y)) e,lA e,Option.map_some,cT (e.symm.trans h)]
   ·rw[jA (p:=(p.1,y)) e,jA e,ih]
  ·rw[cD h];by_cases e:p.1=j
   ·rw[lA (p:=p) e,lA e,Option.map_some,cD (λz=>h (e.trans z))]
   ·rw[jA (p:=p) e,jA e,ih]
theorem uV(kvs:List (κ×V))(k:κ)(v:V):(putK kvs k v).length<=kvs.length+1:=by
 unfold putK;split
 ·rw[bH];lia
 ·rw[iR,mv,Q9];lia
theorem Qv{kvs:List (κ×V)}{k:κ}(v:V)(h:qS kvs k=none):putK kvs k v=kvs ++ [(k,v)]:=by
 unfold putK;rw[Ma,h];exact cD (by decide)
theorem uJ.aK2{o:Option V}{u:aw}(r:uJ o u):o.isSome=u.isSome:=by
 cases o with
 |none=>cases u with
  |none=>rfl
  |some _=>exact(show False from r).elim
 |some _=>cases u with
  |none=>exact(show False from r).elim
  |some _=>rfl
theorem uJ.getD{o:Option V}{u:aw}(r:uJ o u)(rd:RelV d d'):RelV (o.getD d) (u.getD d'):=by
 cases o with
 |none=>cases u with
  |none=>exact rd
  |some _=>exact(show False from r).elim
 |some _=>cases u with
  |none=>exact(show False from r).elim
  |some _=>exact r
theorem KV.val(r:KV kvs vs)(k:κ):uJ (qS kvs k) (valueAt vs k):=by
 unfold KV at r;induction r with
 |nil=>exact True.intro
 |@cons p q ps qs h t ih=>
  obtain⟨h1,h2⟩:=h;by_cases e:p.1=k
  ·have e':q.1=k:=h1.symm.trans e;have b:valueAt (q::qs) k=some q.2:=by simp[valueAt,As,e']
   rw[lA e,b];exact h2
  ·have e':¬q.1=k:=λz=>e (h1.trans z);have b:valueAt (q::qs) k=valueAt qs k:=by simp[valueAt,As,e']
   rw[jA e,b];exact ih
theorem KV.any{kvs:List (κ×V)}{vs:List (κ×Value)}(r:KV kvs vs)(k:κ):(kvs.any λkv=>decide (kv.1=k))=vs.any λkv=>decide (kv.1=k):=by
 unfold KV at r;induction r with
 |nil=>rfl
 |cons h t ih=>rw[List.any_cons,List.any_cons,ih,h.1]
theorem KV.OO{kvs:List (κ×V)}{vs:List (κ×Value)}(r:KV kvs vs)(k:κ)(ry:RelV y u) :
  KV (kvs.map λkv=>if kv.1=k then (kv.1,y) else kv) (vs.map λkv=>if kv.1=k then (kv.1,u) else kv):=by
 unfold KV at r ⊢;induction r with
 |nil=>exact .nil
 |@cons p q ps qs h t ih=>
  rw[jz,jz];refine .cons ?_ ih;obtain⟨h1,h2⟩:=h;by_cases e:p.1=k
  ·rw[cT e,cT (h1.symm.trans e)];exact⟨h1,ry⟩
  ·rw[cD e,cD (λz=>e (h1.trans z))];exact⟨h1,h2⟩
theorem KV.put(r:KV kvs vs)(k:κ)(ry:RelV y u):KV (putK kvs k y) (stored vs k u):=by
 unfold putK stored;rw[r.any k];by_cases e:(vs.any λkv=>decide (kv.1=k))=true
 ·rw[cT e,cT e];exact r.OO k ry
 ·rw[cD e,cD e];exact Paired.snoc r ⟨rfl,ry⟩
theorem KV.drop(r:KV kvs vs)(k:κ):KV (YK kvs k) (without vs k):=by
 unfold KV at r ⊢;unfold YK without;induction r with
 |nil=>exact .nil
 |@cons p q ps qs h t ih=>
  obtain⟨h1,h2⟩:=h;rw[List.filter_cons,List.filter_cons];by_cases e:p.1=k
  ·have a:¬decide (p.1≠k)=true:=by simp[e]
   have b:¬decide (q.1≠k)=true:=by simp[h1.symm.trans e]
   rw[cD a,cD b];exact ih
  ·have e':¬q.1=k:=λz=>e (h1.trans z);have a:decide (p.1≠k)=true:=by simp[e]
   have b:decide (q.1≠k)=true:=by simp[e']
   rw[cT a,cT b];exact .cons ⟨h1,h2⟩ ih
theorem KV.length{kvs:List (κ×V)}{vs:List (κ×Value)}(r:KV kvs vs):kvs.length=vs.length:=Paired.length r
end
theorem Ly(r:RelV (kV k) u):(eW P w).is k u=true:=by
 cases k with
 |inl i=>obtain⟨t,e⟩:=(show ∃t,u=Value.int i t from r);subst e;exact aHD P w i t
 |inr x=>obtain⟨t,e⟩:=(show ∃t,u=Value.str x t from r);subst e;exact aHE P w x t
theorem aFV:∀{ks:List Key}{us:aj},Vals (ks.map kV) us->ItemsAre (eW P w) ks us
 |[],_,r=>by rw[CQ] at r;cases r;exact .nil
 |k::ks,_,r=>by
  rw[jz] at r;cases r with
  |cons h t=>exact .cons (Ly h) (aFV t)
abbrev KT(H:Hp):List (List Key×V)->List (List Key×Addr×Value)->Prop:=Paired λp q=>p.1=q.1/\H q.2.1=some (.tup (p.1.map kV))/\RelV p.2 q.2.2
theorem KT.val(r:KT H kvs xs)(k:List Key):uJ (qS kvs k) ((atKey xs k).map (·.2)):=by
 induction r with
 |nil=>exact True.intro
 |@cons p q ps qs h t ih=>
  obtain⟨h1,_,h2⟩:=h;by_cases e:p.1=k
  ·have e':q.1=k:=h1.symm.trans e;have b:atKey (q::qs) k=some q.2:=by simp[atKey,As,e']
   rw[lA e,b];exact h2
  ·have e':¬q.1=k:=λz=>e (h1.trans z);have b:atKey (q::qs) k=atKey qs k:=by simp[atKey,As,e']
   rw[jA e,b];exact ih
theorem KT.OO{kvs:List (List Key×V)}{xs:List (List Key×Addr×Value)}(r:KT H kvs xs)(k:List Key)(ry:RelV y u) :
  KT H (kvs.map λkv=>if kv.1=k then (kv.1,y) else kv) (xs.map (putAt k u)):=by
 induction r with
 |nil=>exact .nil
 |@cons p q ps qs h t ih=>
  rw[jz,jz];refine .cons ?_ ih;obtain⟨h1,h2,h3⟩:=h;unfold putAt;by_cases e:p.1=k
  ·rw[cT e,cT (h1.symm.trans e)];exact⟨h1,h2,ry⟩
  ·rw[cD e,cD (λz=>e (h1.trans z))];exact⟨h1,h2,h3⟩
theorem KT.put(r:KT H kvs xs)(k:List Key)(hb:H b=some (.tup (k.map kV)))(ry:RelV y u) :
  KT H (putK kvs k y) (storedH xs k b u):=by
 have e:(kvs.any λkv=>decide (kv.1=k))=(atKey xs k).isSome:=by
  rw[Ma,(r.val k).aK2,Option.isSome_map]
 unfold putK storedH;rw[e];by_cases q:(atKey xs k).isSome=true
 ·rw[cT q,cT q];exact r.OO k ry
 ·rw[cD q,cD q];exact Paired.snoc r ⟨rfl,hb,ry⟩
theorem KT.keeps{H H':Hp}(r:KT H kvs xs)(ht:∀b ys,H b=some (.tup ys)->H' b=some (.tup ys)):KT H' kvs xs:=
 Paired.O4 r λ_ _ z=>⟨z.1,ht _ _ z.2.1,z.2.2⟩
section
variable{P:Program}{w:World}{H:Hp}{h:Heap}{a:Addr}
theorem YJ(ok:uK P w H h)(e:Rd H a u):cR P w H h a u:=e.ok ok
theorem Hs{kvs:List (Key×V)}(ok:uK P w H h)(e:Rd H a (.dK kvs)):kvs.length<=sizeLine/\(a == sysModules)=false/\∃vs,KV kvs vs/\h.DictOf (eW P w) a vs:=
 show cR P w H h a (.dK kvs) from YJ ok e
theorem aRT{kvs:List (Key×V)}(ok:uK P w H h)(e:H a=some (.dK kvs)):kvs.length<=sizeLine/\(a == sysModules)=false/\∃vs,KV kvs vs/\h.DictOf (eW P w) a vs:=Hs ok (.inl e)
theorem HC{ks:List Key}(ok:uK P w H h)(e:H a=some (.tup (ks.map kV))):(tupleKind (eW P w)).is h ks a:=by
 obtain⟨_,az,r,o,h1,h2,n,h3⟩:=(show cR P w H h a (.tup (ks.map kV)) from ok a _ e)
 exact⟨o,az.toArray,n,h1,h2,h3,by simpa using aFV r⟩
theorem Hq{kvs:List (List Key×V)}(ok:uK P w H h)(e:Rd H a (.dT kvs)):kvs.length<=sizeLine/\(a == sysModules)=false/\
  ∃xs,KT H kvs xs/\h.DictOfH (tupleKind (eW P w)) a xs:=by
 obtain⟨z,y,xs,r,o,es,ep,h1,h2,h3,h4,h5⟩:=(show cR P w H h a (.dT kvs) from YJ ok e)
 refine⟨z,y,xs,r,o,es,ep,h1,h2,h3,h4,λx hx=>?_,h5⟩;have all:∀{l:List (List Key×V)} {m:List (List Key×Addr×Value)},KT H l m->∀x∈m,(tupleKind (eW P w)).is h x.1 x.2.1:=by
  intro l m q;induction q with
  |nil=>intro x hx;exact nomatch hx
  |@cons p q ps qs hq t ih=>
   intro x hx;rcases lR.mp hx with e|hx
   ·subst e;exact HC ok (by rw[<-hq.1];exact hq.2.1)
   ·exact ih x hx
 exact all r x hx
theorem YI{kvs:List (List Key×V)}(ok:uK P w H h)(e:H a=some (.dT kvs)):kvs.length<=sizeLine/\(a == sysModules)=false/\
  ∃xs,KT H kvs xs/\h.DictOfH (tupleKind (eW P w)) a xs:=Hq ok (.inl e)
end
def uW(H:Hp)(a:Addr)(y:V)(r:Option V):Prop:=
 (∃kvs k,Rd H a (.dK kvs)/\y=kV k/\r=qS kvs k)\/∃kvs k b,Rd H a (.dT kvs)/\y=.ref b/\H b=some (.tup (k.map kV))/\r=qS kvs k
def Aq(H:Hp)(a:Addr)(y v:V)(H':Hp):Prop:=
 (∃kvs k,H a=some (.dK kvs)/\y=kV k/\kvs.length < sizeLine/\H'=upd H a (.dK (putK kvs k v)))\/
 ∃kvs k b,H a=some (.dT kvs)/\y=.ref b/\H b=some (.tup (k.map kV))/\kvs.length < sizeLine/\H'=upd H a (.dT (putK kvs k v))
theorem uW.k{H:Hp}{a:Addr}{kvs:List (Key×V)}{k:Key}(e:H a=some (.dK kvs)):uW H a (kV k) (qS kvs k):=.inl ⟨kvs,k,.inl e,rfl,rfl⟩
theorem uW.t{k:List Key}(e:H a=some (.dT kvs))(eb:H b=some (.tup (k.map kV))):uW H a (.ref b) (qS kvs k):=.inr ⟨kvs,k,b,.inl e,rfl,eb,rfl⟩
theorem Aq.k{H:Hp}{a:Addr}{kvs:List (Key×V)}{k:Key}{v:V}(e:H a=some (.dK kvs))(hl:kvs.length < sizeLine):Aq H a (kV k) v (upd H a (.dK (putK kvs k v))):=.inl ⟨kvs,k,e,rfl,hl,rfl⟩
theorem Aq.t{kvs:List (List Key×V)}{k:List Key}(e:H a=some (.dT kvs))(eb:H b=some (.tup (k.map kV)))(hl:kvs.length < sizeLine) :
  Aq H a (.ref b) v (upd H a (.dT (putK kvs k v))):=.inr ⟨kvs,k,b,e,rfl,eb,hl,rfl⟩
section
variable{X:Cx}{pins:au}{σ:St}{H:Hp}{s:Shared}{a:Addr}{y v:V}{u r:Value}{o:Option V}{A:Around}{E:ar}
theorem Inv.big(I:Inv X pins σ H s):sysModules < s.heap.objs.size:=by
 have h:mainGlobals < s.heap.objs.size:=(I.mod.glob.keeps I.bk).lt;exact HQ (by decide) h
theorem aK3{Q:ar}(hu:A.units+1 < cLine)(I:Inv X pins σ H s)(g:uW H a y (some v))(ry:RelV y u)(h:∀w' s',Inv X pins σ H s'->RelV v w'->Q w' s') :
  wpAny (model X.prog X.w) A (getItem (.ref a) u) Q E s:=by
 rcases g with ⟨kvs,k,e,ey,l⟩|⟨kvs,k,b,e,ey,eb,l⟩
 ·subst ey;obtain⟨z,hd,vs,rel,dd⟩:=Hs I.bf e;obtain⟨w',hw,vh⟩:=uJ.some_of (v:=v) (o:=valueAt vs k) (by rw[l];exact rel.val k);exact wpAny_getItem_of (Ly ry) dd.mapOf hw (h w' _ (I.tok _) vh)
 ·subst ey;cases (show u=Value.ref b from ry);obtain⟨z,hd,xs,rel,dd⟩:=Hq I.bf e;obtain⟨w',hw,vh⟩:=uJ.some_of (v:=v) (o:=(atKey xs k).map (·.2)) (by rw[l];exact rel.val k);obtain⟨p,hp,NC⟩:=oi.mp hw;refine wpAny_getItem_heap (tupleKind_room_in1 hu) (HC I.bf eb) dd hp ?_;rw[NC];exact h w' _ (I.tok _) vh
theorem Qj{h':Heap}{t':Nat}(I:Inv X pins σ H s)(mu:Ih (H a))(hs:Heap.SameBut a s.heap h')(he:∃q,h'.get? a=some q)(new:cR X.prog X.w (upd H a ob) h' a ob) :
  Inv X pins σ (upd H a ob) { s with heap:=h',toks:=t' }:=
 I.write (x:=a) (e:=a) mu (.inl rfl) (λb q hb z=>(hs.2 b hb).trans z) he new
theorem aQu{h':Heap}{kvs:List (Key×V)}(z:kvs.length<=sizeLine)(hd:(a == sysModules)=false)(rel:KV kvs vs)(dd:h'.DictOf (eW P w) a vs) :
  cR P w H' h' a (.dK kvs):=⟨z,hd,vs,rel,dd⟩
theorem aK4{H':Hp}{Q:Unit->Shared->Prop}(hu:A.units+1 < cLine)(I:Inv X pins σ H s)(g:Aq H a y v H')(ry:RelV y u)(rv:RelV v r)(h:∀s',Inv X pins σ H' s'->Q () s') :
  wpAny (model X.prog X.w) A (setItem (.ref a) u r) Q E s:=by
 rcases g with ⟨kvs,k,e,ey,l,eH⟩|⟨kvs,k,b,e,ey,eb,l,eH⟩
 ·subst ey eH;obtain⟨z,hd,vs,rel,dd⟩:=aRT I.bf e;have hz:vs.length<=sizeLine:=by rw[<-rel.length];exact z
  have hl:(putK kvs k v).length<=sizeLine:=by have:=uV kvs k v;lia
  refine wpAny_setItem_pairs (hsz:=hz) (Ly ry) dd λh' Ft hs=>h _ ?_;have he:∃q,h'.get? a=some q:=let ⟨q,_,_,hq,_⟩:=Ft;⟨q,hq⟩
  exact Qj I (by rw[e];exact True.intro) hs he (aQu hl hd (rel.put k rv) Ft)
 ·subst ey eH;cases (show u=Value.ref b from ry);obtain⟨z,hd,xs,rel,dd⟩:=YI I.bf e;have hz:xs.length<=sizeLine:=by rw[<-Paired.length rel];exact z
  have hl:(putK kvs k v).length<=sizeLine:=by have:=uV kvs k v;lia
  refine wpAny_setItem_heap (hsz:=hz) (tupleKind_room_in1 hu) (HC I.bf eb) dd λh' Ft hs=>h _ ?_;obtain⟨q,es,ep,hq,h2,h3,h4,_,h5⟩:=Ft;refine Qj I (by rw[e];exact True.intro) hs ⟨q,hq⟩ ⟨hl,hd,_,(rel.put k eb rv).keeps λc ys ec=>?_,q,es,ep,hq,h2,h3,h4,h5⟩;rw[bA (YQ ec e (λz=>nomatch z))];exact ec
end
def ON(i:Expr):Prop:=∀ov iv,subscripted i false ov iv=operate [ov,iv] (getItem ov iv)
theorem aN9{prog:Program}{w:World}{A:Around}{E:ar}{s:Shared}{env:Env}{value slice:Expr}{pos:Pos}{T id:String}{Q:ar}
  (hl:typeLookup (.type T) "__getitem__" = pure (some (.builtin id))) (hs:ON slice)
  (h:wpAny (model prog w) A (eval value env) (λo bg=>wpAny (model prog w) A (eval slice env) (λi rg=>rg.TypeIs o T/\wpAny (model prog w) A (getItem o i) Q E rg) E bg) E s) :
  wpAny (model prog w) A (eval (.Subscript value slice pos) env) Q E s:=by
 refine Subscript_ (vz h (λo bg ez=>vz ez (λi rg AE=>?_) λ_ _ x=>x) λ_ _ x=>x);obtain⟨hT,AE⟩:=AE;unfold subscriptTail;refine bN ?_;rw[getitemInPython_of_ne hT.not_modules];refine bN (wpAny_specialOf hT hl ?_);have fin:wpAny (model prog w) A (subscripted slice false o i) (λr ka=>wpAny (model prog w) A (letTemporaryGo value o r >>= λ_=>pure r) Q E ka) E rg:=by
  rw[hs o i];exact wpAny_operating (vz AE (λr ka BW=>bN (wpAny_letTemporaryGo (dY BW))) λ_ _ x=>x)
 first
  |exact dY (bN fin)
  |exact bN (dY (bN fin))
  |exact bN fin
theorem aHQ{s:Shared}(I:Inv X pins σ H s)(g:uW H a y o):s.TypeIs (.ref a) "dict":=by
 rcases g with ⟨kvs,k,e,_,_⟩|⟨kvs,k,b,e,_,_,_⟩
 ·obtain⟨_,_,vs,_,dd⟩:=Hs I.bf e;exact dd.typeIs
 ·obtain⟨_,_,xs,_,dd⟩:=Hq I.bf e;exact dd.typeIs
def Px(td ty:TE):TE:=λσ H Q=>td σ H λx H1=>ty σ H1 λy H2=>∃a v,x=.ref a/\uW H2 a y (some v)/\Q v H2
def Pw(td ty tv:TE):TS:=λD σ H=>tv σ H λv H1=>td σ H1 λx H2=>ty σ H2 λy H3=>∃a H4,x=.ref a/\Aq H3 a y v H4/\D.nx σ H4
section
variable{X:Cx}{o i e value:Expr}{pos pos' Eg:Pos}{td ty tv:TE}
theorem aOa(hu:X.A.units+1 < cLine)(ho:PE X o td)(hi:PE X i ty)(hs:ON i):PE X (.Subscript o i pos) (Px td ty):=by
 intro pins s σ H Q I h;refine aN9 PySem.F.slot_dict_getitem.lookup hs (eF (ho pins s σ H _ I h) λu s1 ⟨x,H1,I1,rx,q1⟩=>eF (hi pins s1 σ H1 _ I1 q1) λiv s2 zq=>?_);obtain⟨y,H2,I2,ry,a,v,ex,g,q2⟩:=zq;subst ex;obtain rfl:u=Value.ref a:=rx;exact⟨aHQ I2 g,aK3 hu I2 g ry λw' s3 I3 vh=>⟨v,H2,I3,vh,q2⟩⟩
theorem aOb(hu:X.A.units+1 < cLine)(ho:PE X o td)(hi:PE X i ty)(hv:PE X value tv)(hs:swapsWith value (some (.Subscript o i pos')) pos.line X.env=pure false) :
  PS X (.Assign [.Subscript o i pos'] value pos) (Pw td ty tv):=by
 intro pins s σ H D I h;refine wpAny_Assign_Subscript (eF (hv pins s σ H _ I h) λr s1 ⟨v,H1,I1,rv,q1⟩=>eF (ho pins s1 σ H1 _ I1 q1) λu s2 ⟨x,H2,I2,rx,q2⟩=>eF (hi pins s2 σ H2 _ I2 q2) λiv s3 zq=>?_) hs;obtain⟨y,H3,I3,ry,a,H4,ex,g,q3⟩:=zq;subst ex;obtain rfl:u=Value.ref a:=rx;exact aK4 hu I3 g ry rv λs4 I4=>⟨σ,H4,I4,q3⟩
end
theorem aMa(h:Heap)(hb:sysModules < h.objs.size):cR P w H (h.push { cls:=.type "dict",data:=.dict #[] }) h.objs.size (.dK []):=
 ⟨qw _,beq_eq_false_iff_ne.mpr (Ne.symm (rR hb)),[],.nil,Heap.DictOf.new h⟩
theorem aHR(h:Heap)(hb:sysModules < h.objs.size):cR P w H (h.push { cls:=.type "dict",data:=.dict #[] }) h.objs.size (.dT []):=
 ⟨qw _,beq_eq_false_iff_ne.mpr (Ne.symm (rR hb)),[],.nil,_,#[],0,qP _ rfl,⟨rfl,rfl,rfl⟩,rfl,rfl,List.nodup_nil⟩
def aQw:TE:=λ_ H Q=>∀p,H p=none->Q (.ref p) (upd H p (.dK []))
def aQx:TE:=λ_ H Q=>∀p,H p=none->Q (.ref p) (upd H p (.dT []))
section
variable{X:Cx}{pos:Pos}
theorem aMb:PE X (.Dict [] [] pos) aQw:=λpins s σ H Q I h=>
 wpAny_Dict_empty ⟨.ref s.heap.objs.size,_,I.laid (a:=s.heap.objs.size) (o:=.dK []) (t':=s.toks) (λ_ _ q=>fL _ q) (eO _) (aMa s.heap I.big),rfl,h _ (I.bf.fresh (eO _))⟩
theorem aMc:PE X (.Dict [] [] pos) aQx:=λpins s σ H Q I h=>
 wpAny_Dict_empty ⟨.ref s.heap.objs.size,_,I.laid (a:=s.heap.objs.size) (o:=.dT []) (t':=s.toks) (λ_ _ q=>fL _ q) (eO _) (aHR s.heap I.big),rfl,h _ (I.bf.fresh (eO _))⟩
end
structure M1(X:Cx)(o:Expr)(m:Str)(apos:Pos)(e:Expr)(bu:Pos):Prop where
 base:attributeBase o m X.env (eval o X.env)=eval o X.env
 yp:((backTo bu (starEach [e] X.env)).all (λx=>!x.1) && (backToKw bu (keywordEach [] X.env)).all (λx=>x.1.isSome)
  && decide (([e]:List Expr).length+([]:List Keyword).length+(if ([]:List Keyword).isEmpty then 0 else 1) < 30))=true
 line:(apos.endLine == bu.line)=true
 trees:backTo bu (starEach [e] X.env)=[(false,eval e X.env)]
structure M2(X:Cx)(o:Expr)(m:Str)(apos:Pos)(e f:Expr)(bu:Pos):Prop where
 base:attributeBase o m X.env (eval o X.env)=eval o X.env
 yp:((backTo bu (starEach [e,f] X.env)).all (λx=>!x.1) && (backToKw bu (keywordEach [] X.env)).all (λx=>x.1.isSome)
  && decide (([e,f]:List Expr).length+([]:List Keyword).length+(if ([]:List Keyword).isEmpty then 0 else 1) < 30))=true
 line:(apos.endLine == bu.line)=true
 trees:backTo bu (starEach [e,f] X.env)=[(false,eval e X.env),(false,eval f X.env)]
def Rp(H:Hp)(a:Addr):Prop:=(∃kvs,Rd H a (.dK kvs))\/∃kvs,Rd H a (.dT kvs)
theorem aQy{s:Shared}(I:Inv X pins σ H s)(d:Rp H a) :
  s.TypeIs (.ref a) "dict"/\(∀b,Value.ref a=.ref b->∃ob,s.heap.get? b=some ob/\ob.dict=none)/\(a == sysModules)=false:=by
 rcases d with ⟨kvs,e⟩|⟨kvs,e⟩
 ·obtain⟨_,hd,vs,_,dd⟩:=Hs I.bf e;refine⟨dd.typeIs,λb q=>?_,hd⟩;cases q;obtain⟨ob,_,_,h1,h2,_⟩:=dd;exact⟨ob,h1,h2.2.1⟩
 ·obtain⟨_,hd,xs,_,dd⟩:=Hq I.bf e;refine⟨dd.typeIs,λb q=>?_,hd⟩;cases q;obtain⟨ob,_,_,h1,h2,_⟩:=dd;exact⟨ob,h1,h2.2.1⟩
section
variable{X:Cx}{pins:au}{σ:St}{H:Hp}{s:Shared}{a:Addr}{y d:V}{u r:Value}{o:Option V}{A:Around}{E:ar}
theorem aQz{Q:ar}(hu:A.units+1 < cLine)(I:Inv X pins σ H s)(g:uW H a y o)(ry:RelV y u)(rd:RelV d r)(h:∀w' s',Inv X pins σ H s'->RelV (o.getD d) w'->Q w' s') :
  wpAny (model X.prog X.w) A (call (.builtin "dict.get") [.ref a,u,r]) Q E s:=by
 rcases g with ⟨kvs,k,e,ey,l⟩|⟨kvs,k,b,e,ey,eb,l⟩
 ·subst ey;obtain⟨z,hd,vs,rel,dd⟩:=Hs I.bf e;refine call_meetsIn PySem.F.slot_dict_get dd.typeIs PySem.F.entry_dict_get (PySem.F.args_dict_get_3 _ _ _) (meets_dict_get_default (eW X.prog X.w) a (Ly ry) hd r) ⟨_,dd.mapOf,h _ _ (I.tok _) ?_⟩;rw[l];exact(rel.val k).getD rd
 ·subst ey;cases (show u=Value.ref b from ry);obtain⟨z,hd,xs,rel,dd⟩:=Hq I.bf e;refine call_meetsIn PySem.F.slot_dict_get dd.typeIs PySem.F.entry_dict_get (PySem.F.args_dict_get_3 _ _ _) (meetsH_dict_get_default (tupleKind (eW X.prog X.w)) a b hd r) ⟨tupleKind_room_in1 hu,k,xs,HC I.bf eb,dd,h _ _ (I.tok _) ?_⟩;rw[l];exact(rel.val k).getD rd
end
def PJ(td ty tx:TE):TE:=λσ H Q=>td σ H λx H1=>∃a,x=.ref a/\Rp H1 a/\ty σ H1 λy H2=>tx σ H2 λz H3=>∃o,uW H3 a y o/\Q (o.getD z) H3
section
variable{X:Cx}{o e f:Expr}{apos bu:Pos}{td ty tx:TE}
theorem aMd(hu:X.A.units+1 < cLine)(ho:PE X o td)(he:PE X e ty)(hf:PE X f tx)(m:M2 X o "get" apos e f bu):PE X (.Call (.Attribute o "get" apos) [e,f] [] bu) (PJ td ty tx):=by
 intro pins s σ H Q I h;refine wpAny_Call_method m.base m.yp m.line PySem.F.plainAttrs_dict PySem.F.slot_dict_get PySem.F.type_dict_get (eF (ho pins s σ H _ I h) λu s1 zq=>?_);obtain⟨x,H1,I1,rx,a,ex,d,q1⟩:=zq;subst ex;obtain rfl:u=Value.ref a:=rx;obtain⟨t1,t2,_⟩:=aQy I1 d;refine⟨t1,t2,?_⟩;rw[m.trees];refine Calls.callWith_builtin rfl (Calls.evalArgs_plain (Calls.spliced_cons (eF (he pins s1 σ H1 _ I1 q1) λiv s2 ⟨y,H2,I2,ry,q2⟩=>
  Calls.spliced_cons (eF (hf pins s2 σ H2 _ I2 q2) λfv s3 ⟨z,H3,I3,rz,ov,g,q3⟩=>Calls.spliced_nil ?_))))
 exact aQz hu I3 g ry rz λw' s4 I4 vh=>⟨_,H3,I4,vh,q3⟩
end
end L2
namespace Att
open PySem PySem.W PySem.Calls PyProof.Rows
theorem aDg:∀(ns:ae) (vs:aj),WellAll P h vs (ns.map WData.int)->IntsAre vs ns:=by
 intro ns;induction ns with
 |nil=>
  intro vs w;rw[CQ] at w;cases w;exact .nil
 |cons n ns ih=>
  intro vs w;rw[jz] at w;cases w with
  |cons a b=>
   cases a;exact .cons _ _ (ih _ b)
theorem aK5{l:OpenLaw}{n:Nat}(hn:l.most=some n){h:Heap}(vp:l.row.toRowW.claim.pre args=true)(Nq:WellAll P h vals args) :
  ∃a vs ns,vals=[Value.ref a]/\args=[WData.list (ns.map WData.int)]/\h.get? a=some { cls:=.type "list",data:=.seq vs.toArray }/\IntsAre vs ns/\ns.length<=n:=by
 have hsh:WShape.hasAll [] args [.list .int]=true:=(pre_splitW vp).1;have hc:l.pre.holds [] { args:=args } = true:=(pre_splitW vp).2;obtain⟨d,r,rfl,h1,h2⟩:=hasAllW_cons hsh;obtain rfl:=hasAllW_nil h2;obtain⟨xs,rfl,h3⟩:=hasW_list h1;obtain⟨ns,rfl⟩:=items_int h3;have hlen:ns.length<=n:=by
  unfold OpenLaw.pre at hc;have h4:(WTm.not (.lt (.lit (.int (n:Int))) (.len (.arg 0)))).holds [] { args:=[.list (ns.map .int)] } = true:=by
   have h4:=(holds_andW hc).1;rw[hn] at h4;exact h4
  have h5:=condW_of h4 (w_not (w_lt w_lit (w_len_list (w_arg rfl))));rw[bH] at h5;refine Nat.le_of_not_lt λq=>?_;have q':(n:Int) < ((ns.length:Nat):Int):=by lia
  first
   |(rw[ur q'] at h5;exact absurd h5 (by decide))
   |(simp at h5;lia)
 cases Nq with
 |cons w1 w2=>
  cases w2;cases w1 with
  |list ho AI=>exact⟨_,_,ns,rfl,rfl,ho,aDg ns _ AI,hlen⟩
theorem aK6(l:OpenLaw)(args:List WData):l.row.toRowW.claim.post args (.bool true) args=true:=
 postW_of (r:=l.row.toRowW) (X:=(true == true))
  (show WShape.has [] (.bool true) .bool=true by first|rfl|decide|simp[WShape.has,WShape.arms,WShape.armsAll])
  (show(WTm.eq .res (.lit (.bool true))).value [] { args:=args,res:=some (.bool true),after:=args } = some (.bool (true == true)) from w_eq_bool (w_res rfl) w_lit) rfl
theorem aHS{l:OpenLaw}{n:Nat}{XP:(Str->aw)->Heap->Prop}{YP:World->Heap->Prop}{d:DefRec}(hn:l.most=some n)(GK:d.params.defaults=[])(call:∀(w:World) (dg bg:Shared) (mg mb:Str->aw) (fa:Addr) (o:Obj) (pm cd doc:Value) (a:Addr) (vs:aj) (ns:ae),
   Ground q loose [] XP w dg mg mb bg.heap->YP w bg.heap->
   bg.heap.get? fa=some o->o.data=.func (docDef d.name d.params d.body d.scope pm cd doc)->bg.heap.CodeRec cd d.name->mg d.name=some (.ref fa)->
   bg.heap.get? a=some { cls:=.type "list",data:=.seq vs.toArray }->IntsAre vs ns->ns.length<=n->bg.gens = #[]->
   codeAny (model l.prog w) callerA (.call (.ref fa) ⟨[.ref a],[]⟩) (λr s'=>r=.ok (.ret (.bool true))/\OldK bg.heap s'.heap/\s'.os=bg.os/\AllBare s'.gens) bg) :
  WalkO q loose XP YP l.row.toRowW d [] (λf vs=>PySem.call f vs):=by
 intro w dg bg mg mb G Y fa o pm cd doc dV kV ho hd qk hD GD hg args vals as vp a0s hrd Nq hlo;obtain rfl:dV=.none:=Dflts.none hD GK;obtain rfl:kV=.none:=Dflts.noKw hD;obtain⟨a,vs,ns,rfl,rfl,Eo,hints,hlen⟩:=aK5 hn vp Nq;refine enter_call (codeAny_mono (call w dg bg mg mb fa o pm cd doc a vs ns G Y ho (fd_plain hd) qk GD Eo hints hlen hg) λr s' hq=>?_);obtain⟨rfl,h2,h3,h4⟩:=hq;exact⟨.inl ⟨.bool true,.bool true,[],rfl,λ_=>rfl,.bool true,aK6 l _,λ_=>⟨List.Pairwise.nil,λ_ hm=>(nomatch hm)⟩⟩,h2,h3,h4⟩
end Att
namespace L2
open PySem PySem.Spec PyProof.Rows
theorem QF:∀{vs:aj}{ns:ae},IntsAre vs ns->Vals (ns.map V.int) vs
 |_,_,.nil=>.nil
 |_,_,.cons n t h=>.cons ⟨t,rfl⟩ (QF h)
def Yn(H:Hp):Prop:=∀b,H b=none\/∃o xs,H b=some (.mj o (.lst xs))
theorem aRV{K:PySem.W.Frag}{mg mb:Str->aw}{CX:yi}{k:Nat}{sp:Sp}{bg:Shared}{vs:aj}{ns:ae}(KX:K.In bg.heap)(Bs:bg.heap.Ns mainGlobals mg)(hb:bg.heap.Ns builtinsNs mb)(A7:∀x:Str,x≠"__name__"->mb x=bootBuiltins x)(Er:bg.heap.NoLimit)(NV:∃bm o,mg "__builtins__" = some (.ref bm)/\bm≠builtinsNs/\bg.heap.get? bm=some o/\o.cls=.type "module"/\o.dict=some builtinsNs/\o.data=.plain)(hg:bg.gens = #[])(ha:bg.heap.get? a=some { cls:=.type "list",data:=.seq vs.toArray })(hi:IntsAre vs ns)(hl:ns.length<=sizeLine)(hr:eX k callerA)(F:∀base:Heap,K.In base->base.Ns mainGlobals mg->bQ P w K mg base CX k fa fd [x] sp)(rk:∀(s:Shared) (u:Value),BindsTo s fd ⟨[u],[]⟩ [(x,u)])(fb:∀H:Hp,Yn H->bP K H a (ns.map V.int)->sp [.ref a] H (λv _=>v=.bl true) λ_ _ _=>False)(hCX:∀H e s',CX [] H bg (λ_ _ _=>False) e s'->False) :
  codeAny (model P w) callerA (.call (.ref fa) ⟨[.ref a],[]⟩) (λr s'=>r=.ok (.ret (.bool true))/\OldK bg.heap s'.heap/\s'.os=bg.os/\AllBare s'.gens) bg:=by
 have rv:=QF hi;have Ay:=hi.length;have core:∀H:Hp,Yn H->bP K H a (ns.map V.int)->uK P w H bg.heap->(∀b,H b≠none->b=a)->(H a≠none->K.lookup a=none)->
   codeAny (model P w) callerA (.call (.ref fa) ⟨[.ref a],[]⟩) (λr s'=>r=.ok (.ret (.bool true))/\OldK bg.heap s'.heap/\s'.os=bg.os/\AllBare s'.gens) bg:=by
  intro H hO hS bf hA hK;have gh:∀{b:Addr} {o:Obj},bg.heap.get? b=some o->H b=none->(xT bg.heap H).get? b=some o:=λe n=>aHF e n;have Ac:∀{b:Addr} {o:Obj} {es:Array DictEntry} {ep:Nat},bg.heap.get? b=some o->o.data=.dict es ep->H b=none:=λ{b o es ep} e d=>by
   cases q:H b with
   |none=>rfl
   |some u=>
    have e':b=a:=hA b (by rw[q];simp);subst e';rw[ha] at e;cases e;have d':Data.seq vs.toArray _=Data.dict es ep:=d;cases d'
  have Bp:∀{b:Addr} {m:Str->aw},bg.heap.Ns b m->(xT bg.heap H).Ns b m:=λ{b m} ⟨o,es,ep,e,d,r⟩=>⟨o,es,ep,gh e (Ac e d),d,r⟩
  have GS:K.In (xT bg.heap H):=λb o e=>gh (KX b o e) (by
   cases q:H b with
   |none=>rfl
   |some u=>
    have e':b=a:=hA b (by rw[q];simp);subst e';rw[hK (by rw[q];simp)] at e;cases e)
  have Eu:∃bm o,mg "__builtins__" = some (.ref bm)/\bm≠builtinsNs/\(xT bg.heap H).get? bm=some o/\o.cls=.type "module"/\o.dict=some builtinsNs/\o.data=.plain:=by
   obtain⟨bm,ob,b1,b2,b3,b4,b5,b6⟩:=NV;refine⟨bm,ob,b1,b2,gh b3 ?_,b4,b5,b6⟩;cases q:H bm with
   |none=>rfl
   |some u=>
    have e':bm=a:=hA bm (by rw[q];simp);rw[e',ha] at b3;cases b3;exact absurd (show Value.type "list" = Value.type "module" from b4) (by decide)
  have hM:Mod K mg (xT bg.heap H):=⟨GS,Bp Bs,⟨mb,Bp hb,A7⟩,(let ⟨mc,h1,h2⟩:=Er;⟨mc,Bp h1,h2⟩),Eu⟩
  have e0:Be P w K mg (xT bg.heap H) callerA [] bg H:=⟨rfl,hM,λb o e=>ZO e,HR (aFM _ _),trivial,λb hb=>absurd (show b∈([]:ay) from hb) (by simp),bf,.of_eq hg⟩
  refine codeAny_mono ((F _ GS (Bp Bs)).run callerA [] bg H ⟨[.ref a],[]⟩ [.ref a] [.ref a] _ _ hr e0 (rk bg (.ref a)) (.cons rfl .nil) (fb H hO hS)) λr s' h=>?_;cases r with
  |error e=>exact(hCX H e s' h).elim
  |ok fl=>
   cases fl with
   |next=>exact False.elim h
   |brk=>exact False.elim h
   |cont=>exact False.elim h
   |ret u=>
    obtain⟨v,H',os,bare,un,BZ,r',q⟩:=h;have q':v=.bl true:=q;subst q';obtain rfl:u=Value.bool true:=r';refine⟨rfl,OldK.of_keep λb o e=>?_,os,bare⟩;cases q:H b with
    |none=>exact un.keep b o e q (by intro z;exact absurd (show b∈([]:ay) from z) (by simp)) (by simp)
    |some u=>
     rcases hO b with z|⟨ob,xs,z⟩
     ·rw[q] at z;cases z
     ·have z2:=un.jc b ob _ z;obtain⟨e1,_⟩:=bf b _ z;obtain⟨e2,_⟩:=BZ b _ z2;rw[e] at e1;cases e1;exact e2
 cases hk:K.lookup a with
 |some o=>
  have e:=KX a o hk;rw[ha] at e;cases e;refine core (λ_=>none) (λ_=>.inl rfl) (.inr ⟨_,vs.toArray,_,hk,rfl,rfl,rfl,by rw[jT,Ay];exact hl,by simpa using rv⟩) (λb u z=>by have z':(none:Option HO)=some u:=z;cases z') (λb z=>absurd rfl z) λz=>absurd rfl z
 |none=>
  refine core (λb=>if b=a then some (.mj { cls:=.type "list",data:=.seq vs.toArray } (.lst (ns.map V.int))) else none) (λb=>?_) (.inl (.inr ⟨{ cls:=.type "list",data:=.seq vs.toArray },cT rfl⟩)) (λb u z=>?_) (λb z=>?_) λ_=>hk
  ·by_cases hb:b=a
   ·exact .inr ⟨_,_,cT hb⟩
   ·exact .inl (cD hb)
  ·by_cases hb:b=a
   ·have z':=(cT hb).symm.trans z;cases z';subst hb;exact⟨ha,by rw[bH];exact hl,vs,_,rv,ha⟩
   ·have z':=(cD hb).symm.trans z;cases z'
  ·by_cases hb:b=a
   ·exact hb
   ·exact absurd (cD hb) z
def inClass(s:Stmt)(j:Nat):Stmt:=match s with
 |.ClassDef _ _ _ body _ _ _ _ _ _ _=>body.getD j (.Pass ⟨0,0,0,0⟩)
 |_=>.Pass ⟨0,0,0,0⟩
def jB(s:Stmt):Arguments:=match s with
 |.FunctionDef _ a _ _ _ _ _ _ _ _=>a
 |_=>{ posonlyargs:=[],args:=[],vararg:=none,kwonlyargs:=[],kw_defaults:=[],kwarg:=none,defaults:=[] }
def hZ(s:Stmt):List Stmt:=match s with
 |.FunctionDef _ _ b _ _ _ _ _ _ _=>b
 |_=>[]
def aI(s:Stmt):Scope:=match s with
 |.FunctionDef _ _ _ _ _ _ sc _ _ _=>sc
 |_=>{ kind:=.function,names:=[],isGenerator:=false,isCoroutine:=false }
abbrev eR:yi:=λ_ _ _ _ _ _=>False
abbrev E0:XK:=λ_ _ _=>False
theorem aU:Passes eR X E0:=λ_ _ _ _ _ _ _ h=>h.elim
structure BP(K:W.Frag)(x qual:Str)(st:Stmt)(f:Addr)(fd:FuncData):Prop where
 ex:∃(oc:Value) (od:Option Addr) (kV doc pm:Value) (an:Option Addr) (bq ct:Value) (zj:Array (aw)),
  fd=W.fnOf x qual (jB st) (hZ st) (aI st) .none kV doc pm an bq ct/\K.lookup f=some ⟨oc,od,.func fd,zj⟩/\W.codeIn K bq qual=true
 kp:W.keepIn K (.ref f)=true
structure FB(K:W.Frag)(x q:Str)(st:Stmt)(f:Addr)(d:FuncData)(ps:ah):Prop where
 F:BP K x q st f d
 b:Binds K d ps []
structure FG(K:W.Frag)(mg:Str->aw)(x:Str)(st:Stmt)(f:Addr)(d:FuncData)(ps:ah):Prop where
 F:BP K x x st f d
 b:Binds K d ps []
 g:mg x=some (.ref f)
section
variable{P:Program}{w:World}{K:W.Frag}{mg:Str->aw}{base:Heap}
theorem BP.ok{x qual:Str}{st:Stmt}{f:Addr}{fd:FuncData}{N ps:ah}{k:Nat}{sp:Sp}(F:BP K x qual st f fd)(S:aX N ps (aI st))(len:∀vs H Q E,sp vs H Q E->vs.length=ps.length)
  (ie:∀(bq:Value) (A:Around) (outer:List Env) (s:Shared) (H:Hp) (vs:List V) (Q:VK) (E:XK),eX k (A.deeper (envOfC qual (aI st) s.heap.objs.size f bq))->sp vs H Q E->
   ∃t,wt (DX eR P w K mg base N qual (aI st) f bq A outer s H E).EM (hZ st) t/\t { nx:=λ_ H'=>Q .bw H',rt:=Q } (start N vs) H):bQ P w K mg base eR (k+1) f fd ps sp:=by
 obtain⟨oc,od,kV,doc,pm,an,bq,ct,zj,rfl,lk,qk⟩:=F.ex;refine YN lk qk S len λA outer s H vs Q E hr fb=>?_;obtain⟨t,h,q⟩:=ie bq A outer s H vs Q E hr fb;exact⟨t,h.EM,q⟩
theorem BP.binds{x qual:Str}{st:Stmt}{f:Addr}{fd:FuncData}{ps:ah}(F:BP K x qual st f fd)
  (h:∀(kV doc pm:Value) (an:Option Addr) (bq ct:Value) (us:aj),us.length=ps.length->bindArgs (W.fnOf x qual (jB st) (hZ st) (aI st) .none kV doc pm an bq ct) ⟨us,[]⟩=pure (ps.zip us)):Binds K fd ps []:=by
 obtain⟨oc,od,kV,doc,pm,an,bq,ct,zj,rfl,lk,qk⟩:=F.ex;exact .all (h kV doc pm an bq ct)
theorem HB{x qual:Str}{st:Stmt}{f:Addr}{oc:Value}{od an:Option Addr}{zj:Array (aw)}{kV doc pm bq ct:Value}(l:K.lookup f=some ⟨oc,od,.func (W.fnOf x qual (jB st) (hZ st) (aI st) .none kV doc pm an bq ct),zj⟩)
  (c:W.codeIn K bq qual=true) (k:W.keepIn K (.ref f)=true):BP K x qual st f (W.fnOf x qual (jB st) (hZ st) (aI st) .none kV doc pm an bq ct):=⟨⟨oc,od,kV,doc,pm,an,bq,ct,zj,rfl,l,c⟩,k⟩
end
theorem Li{A B:Prop}(h:B):if false=true then A else B:=by
 rw[cD oh];exact h
theorem OU{A B:Prop}(h:A):if true=true then A else B:=by
 rw[cT rfl];exact h
def aR(H H':Hp):Prop:=∀b o,H b=some o->H' b=some o
theorem aR.refl(H:Hp):aR H H:=λ_ _ h=>h
theorem aR.trans(a:aR H H1)(b:aR H1 H2):aR H H2:=λc o h=>b c o (a c o h)
theorem aR.free(e:aR H H')(h:H' l=Option.none):H l=Option.none:=by
 cases q:H l with
 |none=>rfl
 |some o=>
  rw[e l o q] at h;cases h
theorem aR.seq{K:W.Frag}{H H':Hp}{a:Addr}{xs:List V}(e:aR H H')(h:bP K H a xs):bP K H' a xs:=by
 rcases h with (h|⟨o,h⟩)|h
 ·exact .inl (.inl (e _ _ h))
 ·exact .inl (.inr ⟨o,e _ _ h⟩)
 ·exact .inr h
section
variable{prog:Program}{w:World}{A:Around}{R:Result->Shared->Prop}{s:Shared}
theorem aHT(I:Nat->Shared->Prop)(turn:∀n s,I n s->wpAny (model prog w) A (pyNext it) (λr bg=>match r with
   |none=>R (.ok .next) bg
   |some v=>wpAny (model prog w) A (letOwnedTupleGo target it v) (λ_ Dd=>wpAny (model prog w) A (assign target env v) (λ_ rg=>
     wpAny (model prog w) A (forIn ifs true λc r=>if r=true then do let ok <-isTrue c env (eval c env);pure (ForInStep.yield ok) else pure (ForInStep.yield r)) (λok ka=>
      if ok=true then wpAny (model prog w) A (eval elt env) (λx BS=>
       wpAny (model prog w) A (call (.builtin "list.append") [acc,x]) (λ_ Io=>∃m,m < n/\I m Io) (notedBy (model prog w) A env λe s'=>R (.error e) s') BS) (notedBy (model prog w) A env λe s'=>R (.error e) s') ka
      else ∃m,m < n/\I m ka) (notedBy (model prog w) A env λe s'=>R (.error e) s') rg) (notedBy (model prog w) A env λe s'=>R (.error e) s') Dd) (notedBy (model prog w) A env λe s'=>R (.error e) s') bg)
   (notedBy (model prog w) A env λe s'=>R (.error e) s') s) (n:Nat) (h:I n s) :
  codeAny (model prog w) A (.compLoop (.ListComp elt [⟨target,iter,ifs,0⟩] scope pos) 0 it acc env) R s:=by
 refine codeAny_loop rfl I (λn s hI=>?_) n h;show wpAny _ A ((compTurn (.ListComp elt [⟨target,iter,ifs,0⟩] scope pos) 0 it acc env).onRaise (λx=>do noteFrame x env;theTreesLotGoes x)) _ _ s;refine wpAny_noted ?_;rw[compTurn_list];refine bN (wpAny_standAt (bN (vz (turn n s hI) (λr bg ez=>?_) λ_ _ h'=>h')));cases r with
 |none=>exact dY ez
 |some v=>
  refine bN (vz ez (λ_ Dd JJ=>?_) λ_ _ h'=>h');refine bN (vz JJ (λ_ rg AE=>bN (vz AE (λok ka BW=>?_) λ_ _ h'=>h')) λ_ _ h'=>h');cases ok with
  |false=>exact dY ⟨rfl,BW⟩
  |true=>
   exact bN (bN (vz BW (λx BS Us=>bN (vz Us (λ_ Io Ur=>dY (dY ⟨rfl,Ur⟩)) λ_ _ h'=>h')) λ_ _ h'=>h'))
end
def lB(env:Env):List (Str×NameKind)->List (Str×Addr)->List (Str×Addr)
 |[],cs=>cs
 |(n,k)::r,cs=>lB env r (if (k == NameKind.free)=true then (n,(env.cells.lookup n).getD 0)::cs else cs)
theorem zT{scope:Scope}{env:Env}(h:∀x∈scope.names,x.2=.free->∃c,env.cells.lookup x.1=some c):closureFor scope env=pure (lB env scope.names []):=by
 simp only[closureFor];generalize ([]:List (Str×Addr))=cs;revert h cs;generalize scope.names=names;intro h;induction names with
 |nil=>intro cs;rfl
 |cons x r ih=>
  intro cs;obtain⟨n,k⟩:=x;have ih:=ih λy hy=>h y (xS _ hy);rw[List.forIn_cons];by_cases hk:k=.free
  ·subst hk;obtain⟨c,hc⟩:=h (n,.free) qz rfl;have Cw:env.cells.lookup n=some c:=hc;have e:lB env ((n,NameKind.free)::r) cs=lB env r ((n,c)::cs):=by
    show lB env r (if (NameKind.free == NameKind.free)=true then (n,(env.cells.lookup n).getD 0)::cs else cs)=_;rw[Cw];rfl
   rw[e,<-ih];simp only[cellOf,Cw,beq_self_eq_true,if_true];rfl
  ·have hb:(k == NameKind.free)=false:=by simpa using hk
   have e:lB env ((n,k)::r) cs=lB env r cs:=by
    show lB env r (if (k == NameKind.free)=true then (n,(env.cells.lookup n).getD 0)::cs else cs)=_;rw[hb];rfl
   rw[e,<-ih];simp only[hb,D8,if_false];rfl
theorem L9{env:Env}:∀(names:List (Str×NameKind)) (cs:List (Str×Addr)),(∀y∈names,y.2=.free->∃c,env.cells.lookup y.1=some c)->(x,c)∈lB env names cs->(x,c)∈cs\/env.cells.lookup x=some c
 |[],cs,_,h=>.inl h
 |(n,k)::r,cs,hf,h=>by
  have h':(x,c)∈lB env r (if (k == NameKind.free)=true then (n,(env.cells.lookup n).getD 0)::cs else cs):=h;rcases L9 r _ (λy hy=>hf y (xS _ hy)) h' with q|q
  ·by_cases hk:(k == NameKind.free)=true
   ·rw[cT hk] at q;rcases lR.mp q with e|q
    ·cases e;obtain⟨c,hc⟩:=hf (x,k) qz (by simpa using hk);have Cw:env.cells.lookup x=some c:=hc;rw[Cw];exact .inr rfl
    ·exact .inl q
   ·rw[cD hk] at q;exact .inl q
  ·exact .inr q
theorem aHU:∀(names:List (Str×NameKind)) (cs:List (Str×Addr)),p∈cs->p∈lB env names cs
 |[],_,h=>h
 |(n,k)::r,cs,h=>by
  show p∈lB env r (if (k == NameKind.free)=true then (n,(env.cells.lookup n).getD 0)::cs else cs);refine aHU r _ ?_;split
  ·exact xS _ h
  ·exact h
theorem aHV{env:Env}:∀(names:List (Str×NameKind)) (cs:List (Str×Addr)),(x,NameKind.free)∈names->env.cells.lookup x=some c->(x,c)∈lB env names cs
 |[],_,h,_=>by cases h
 |(n,k)::r,cs,h,hc=>by
  show(x,c)∈lB env r (if (k == NameKind.free)=true then (n,(env.cells.lookup n).getD 0)::cs else cs);rcases lR.mp h with e|h
  ·cases e;refine aHU r _ ?_;rw[cT (by simp),hc];exact qz
  ·exact aHV r _ h hc
theorem yA:∀{l:List (Str×Addr)},(x,c)∈l->(∀d,(x,d)∈l->d=c)->l.lookup x=some c
 |[],h,_=>by cases h
 |(n,d)::r,h,u=>by
  rw[ve];by_cases e:x=n
  ·subst e;rw[beq_self_eq_true];rw[u d qz]
  ·rw[show(x == n)=false by simpa using e];rcases lR.mp h with q|q
   ·cases q;exact absurd rfl e
   ·exact yA q λd hd=>u d (xS _ hd)
theorem uX{env:Env}(hf:∀y∈names,y.2=.free->∃c,env.cells.lookup y.1=some c)(hx:(x,NameKind.free)∈names)(hc:env.cells.lookup x=some c):(lB env names []).lookup x=some c:=
 yA (aHV names [] hx hc) λd hd=>by
  rcases L9 names [] hf hd with q|q
  ·cases q
  ·rw[hc] at q;exact(Option.some.inj q).symm
theorem mQ{env:Env}(hf:∀y∈names,y.2=.free->∃c,env.cells.lookup y.1=some c)(h:(lB env names []).lookup x=some c):env.cells.lookup x=some c:=by
 rcases L9 names [] hf (PySem.mem_of_lookup h) with q|q
 ·cases q
 ·exact q
def yr(X:Cx)(scope:Scope)(N:ah)(fp:ay)(C:Addr)(s:Shared)(H:Hp):Cx where
 prog:=X.prog
 w:=X.w
 K:=X.K
 mg:=X.mg
 base:=X.base
 A:=X.A
 N:=N
 dg:=s
 zg:=H
 env:=compEnvC scope (lB X.env scope.names []) C X.env
 outer:=X.stack
 stack:=X.stack
 ex:=fp
 fn:=λ_=>false
 calm:=X.calm
 pn:=[]
 xe:=λ_ _=>False
theorem uK.Pf{P:Program}{w:World}{H:Hp}{h:Heap}{a:Addr}{o:HO}(x:uK P w H h)(hn:H a=none)(new:cR P w (upd H a o) h a o):uK P w (upd H a o) h:=λb u e=>by
 by_cases hb:b=a
 ·subst hb;rw[aP] at e;cases e;exact new
 ·rw[bA hb] at e;exact(x b u e).zt (λc v _ q=>q) (λc q=>by rw[bA (bU q hn)];exact q) λc xs _ q=>by rw[bA (bU q hn)];exact q
theorem Un.Pf{fs ex:ay}{H H1:Hp}{h h1:Heap}{a:Addr}{o:HO}(u:Un fs ex H H1 h h1)(hs:h.objs.size<=a)(hn:H1 a=none):Un fs ex H (upd H1 a o) h h1 where
 keep:=u.keep
 slot:=u.slot
 free:=λb ob q n hx=>by rw[bA (rR (rQ (iM q) hs))];exact u.free b ob q n hx
 there:=u.there
 uN:=λb xs q=>by rw[bA (bU (u.uN b xs q) hn)];exact u.uN b xs q
 jc:=λb ob xs q=>by rw[bA (bU (u.jc b ob xs q) hn)];exact u.jc b ob xs q
 ni:=λb ps q=>by
  obtain⟨m,e⟩:=u.ni b ps q;exact⟨m,by rw[bA (bU e hn)];exact e⟩
theorem mH{env:Env}:∀{names:List (Str×NameKind)}{x:Str},names.lookup x=some .free->
  (names.map λ(n,k)=>if (k == NameKind.free && env.scope.kind == .function && env.kindOf n == some .cell) then (n,NameKind.cell) else (n,k)).lookup x=some .cell\/
  (names.map λ(n,k)=>if (k == NameKind.free && env.scope.kind == .function && env.kindOf n == some .cell) then (n,NameKind.cell) else (n,k)).lookup x=some .free
 |[],_,h=>by simp at h
 |(n,k)::r,x,h=>by
  have ih:=@mH env r x;show List.lookup x ((if (k == NameKind.free && env.scope.kind == .function && env.kindOf n == some .cell)=true then (n,NameKind.cell) else (n,k))::_)=_\/List.lookup x ((if (k == NameKind.free && env.scope.kind == .function && env.kindOf n == some .cell)=true then (n,NameKind.cell) else (n,k))::_)=_;cases hx:x == n with
  |true=>
   simp only[ve,hx] at h;cases h;by_cases hc:(NameKind.free == NameKind.free && env.scope.kind == .function && env.kindOf n == some .cell)=true
   ·rw[cT hc];simp only[ve,hx];exact .inl trivial
   ·rw[cD hc];simp only[ve,hx];exact .inr trivial
  |false=>
   simp only[ve,hx] at h;by_cases hc:(k == NameKind.free && env.scope.kind == .function && env.kindOf n == some .cell)=true
   ·rw[cT hc];simp only[ve,hx];exact ih h
   ·rw[cD hc];simp only[ve,hx];exact ih h
theorem aAz{env:Env}{ow:Option Str}:∀{names:List (Str×NameKind)}{x:Str},(∀z∈names,z.2=.cell->ow=some z.1)->
  ((names.map λ(n,k)=>if (k == NameKind.free && env.scope.kind == .function && env.kindOf n == some .cell) then (n,NameKind.cell) else (n,k)).lookup x=some .cell\/
  (names.map λ(n,k)=>if (k == NameKind.free && env.scope.kind == .function && env.kindOf n == some .cell) then (n,NameKind.cell) else (n,k)).lookup x=some .free)->ow=some x\/(x,NameKind.free)∈names
 |[],_,_,h=>by simp at h
 |(n,k)::r,x,hc,h=>by
  have ih:=@aAz env ow r x λz hz=>hc z (xS _ hz);have h':List.lookup x ((if (k == NameKind.free && env.scope.kind == .function && env.kindOf n == some .cell)=true then (n,NameKind.cell) else (n,k))::_)=_\/List.lookup x ((if (k == NameKind.free && env.scope.kind == .function && env.kindOf n == some .cell)=true then (n,NameKind.cell) else (n,k))::_)=_:=h;cases hx:x == n with
  |true=>
   have e:x=n:=by simpa using hx
   subst e;by_cases hq:(k == NameKind.free && env.scope.kind == .function && env.kindOf x == some .cell)=true
   ·have hk:(k == NameKind.free)=true:=by
     rw[Bool.and_assoc] at hq;exact(yc _ _▸hq).1
    rw[show k=NameKind.free by simpa using hk];exact .inr qz
   ·rw[cD hq] at h';simp only[ve,hx] at h';rcases h' with z|z
    ·cases z;exact .inl (hc _ qz rfl)
    ·cases z;exact .inr qz
  |false=>
   have go:_->ow=some x\/(x,NameKind.free)∈(n,k)::r:=λq=>(ih q).imp id (xS _);by_cases hq:(k == NameKind.free && env.scope.kind == .function && env.kindOf n == some .cell)=true
   ·rw[cT hq] at h';simp only[ve,hx] at h';exact go h'
   ·rw[cD hq] at h';simp only[ve,hx] at h';exact go h'
structure fM(X:Cx)(scope:Scope)(N:ah)(k:Nat)(idx:List Nat):Prop where
 kind:scope.kind=.function
 gg:∀y∈scope.names,y.2≠.cell
 names:∀y∈scope.names,y.2=.local->scope.names.lookup y.1=some .local
 free:∀y∈scope.names,y.2=.free->X.env.kindOf y.1=some .cell\/X.env.kindOf y.1=some .free
 nd:N.Nodup
 len:N.length=k+idx.length
 bz:∀(i:Nat) (x:Str),(N.drop k)[i]?=some x->∃j:Nat,idx[i]?=some j/\X.N[j]?=some x/\scope.names.lookup x=some .free
def zo(k:Nat)(idx:List Nat)(σ:St):St:=List.replicate k none++idx.map λj=>(σ[j]?).join
def Ck(ow:Option Str)(a:Addr):List (Str×Addr):=match ow with|none=>[]|some y=>[(y,a)]
def pow(ow:Option Str)(h:Heap):Heap:=match ow with|none=>h|some _=>h.push { cls:=.type "cell",data:=.cell none }
def yq(X:Cx)(ow:Option Str)(scope:Scope)(N:ah)(fp:ay)(C:Addr)(s:Shared)(H:Hp):Cx:=
 { yr X scope N fp C s H with env:=compEnvC scope (Ck ow (C+1)++lB X.env scope.names []) C X.env,fn:=λx=>match ow with|none=>false|some y=>x == y }
structure uY(X:Cx)(ow:Option Str)(scope:Scope)(N:ah)(k:Nat)(idx:List Nat):Prop where
 kind:scope.kind=.function
 cf:∀n acc,cellsFrom n scope.names acc=Ck ow n++acc
 pc:∀h,pushCells h scope.names=pow ow h
 gg:∀z∈scope.names,z.2=.cell->ow=some z.1
 names:∀z∈scope.names,z.2=.local->scope.names.lookup z.1=some .local
 free:∀z∈scope.names,z.2=.free->ow≠some z.1/\(X.env.kindOf z.1=some .cell\/X.env.kindOf z.1=some .free)
 nd:N.Nodup
 len:N.length=k+idx.length
 bz:∀(i:Nat) (x:Str),(N.drop k)[i]?=some x->∃j:Nat,idx[i]?=some j/\X.N[j]?=some x/\scope.names.lookup x=some .free
theorem Qu:∀{names:List (Str×NameKind)},(∀y∈names,y.2≠.cell)->(∀n acc,cellsFrom n names acc=acc)/\∀h,pushCells h names=h
 |[],_=>⟨λ_ _=>rfl,λ_=>rfl⟩
 |(x,k)::r,h=>by
  have ih:=Qu λy hy=>h y (xS _ hy);have hk:¬(k == NameKind.cell)=true:=by simpa using h _ qz
  refine⟨λn acc=>?_,λhp=>?_⟩
  ·unfold cellsFrom;rw[cD hk];exact ih.1 n acc
  ·unfold pushCells;rw[cD hk];exact ih.2 hp
theorem fM.G9{k:Nat}{idx:List Nat}(S:fM X scope N k idx):uY X none scope N k idx:=
 ⟨S.kind,(Qu S.gg).1,(Qu S.gg).2,λz hz e=>absurd e (S.gg z hz),S.names,λz hz e=>⟨nofun,S.free z hz e⟩,S.nd,S.len,S.bz⟩
theorem CL{cl:List (Str×Addr)}(h:(Ck ow a++cl).lookup x=some c):(ow=some x/\c=a)\/(ow≠some x/\cl.lookup x=some c):=by
 cases ow with
 |none=>exact .inr ⟨nofun,h⟩
 |some y=>
  have h':((y,a)::cl).lookup x=some c:=h;rw[ve] at h';cases e:x == y with
  |true=>rw[e] at h';cases h';exact .inl ⟨by rw[beq_iff_eq.mp e],rfl⟩
  |false=>rw[e] at h';exact .inr ⟨λz=>by cases z;simp at e,h'⟩
theorem aHW{cl:List (Str×Addr)}(h:ow≠some x):(Ck ow a++cl).lookup x=cl.lookup x:=by
 cases ow with
 |none=>rfl
 |some y=>
  show((y,a)::cl).lookup x=_;rw[ve,show(x == y)=false from beq_eq_false_iff_ne.mpr λz=>h (by rw[z])]
theorem aMf:(Ck (some y) a++cl).lookup y=some a:=by
 show((y,a)::cl).lookup y=_;rw[ve,show(y == y)=true by simp]
theorem Qi{h:Heap}(e:h.get? b=some o):(pow ow h).get? b=some o:=by
 cases ow with
 |none=>exact e
 |some y=>exact fL _ e
theorem aQB{h:Heap}(e:a=h.objs.size):(pow (some y) h).get? a=some { cls:=.type "cell",data:=.cell none }:=by
 rw[e];exact qP _ rfl
theorem aE7{E:ar}{s:Shared}{scope:Scope}{Q:Env->Shared->Prop}(cf:∀n acc,cellsFrom n scope.names acc=Ck ow n++acc)(pc:∀h,pushCells h scope.names=pow ow h)(hQ:Q (newEnv scope s.heap.objs.size globals (Ck ow (s.heap.objs.size+1)++cl) qual none .none (some env) builtinsNs) { s with heap:=pow ow (s.heap.push { cls:=.type "dict",data:=.dict #[] }) }) :
  wpAny M A (newFunctionEnv scope globals cl [] qual none .none (some env)) Q E s:=by
 simp only[newFunctionEnv,Option.isSome_some,if_true];refine bN (wpAny_alloc ?_);refine bN (wpAny_layCells _ (λname kind cells=>by cases hkc:kind == NameKind.cell <;> simp[hkc]) _ _ _ _ ?_);rw[cf,pc,show({ s with heap:=s.heap.push { cls:=.type "dict",data:=.dict #[] } }:Shared).heap.objs.size=s.heap.objs.size+1 from vb ..];rw[List.forIn_nil];exact bN (dY (dY hQ))
section
variable{X:Cx}{pins:au}{σ:St}{H:Hp}{s:Shared}{ow:Option Str}{scope:Scope}{N:ah}{k:Nat}{idx:List Nat}{fp:ay}
theorem uY.cells(S:uY X ow scope N k idx)(I:Inv X pins σ H s):∀z∈scope.names,z.2=.free->∃c,X.env.cells.lookup z.1=some c:=λz hz h=>I.ok.has z.1 (S.free z hz h).2
theorem aK7{ez:Heap}{tk:Nat}{oD:Obj}{m:Str->aw}(S:uY X ow scope N k idx)(I:Inv X pins σ H s)(hf:∀b∈fp,xo X pins H b)(ho:∀b∈fp,∃o,s.heap.get? b=some o)(hC:s.heap.objs.size<=C)(hD:s.heap.objs.size<=D)(Fd:D≠C)(hn:ez.Ns C m)(old:∀b o,s.heap.get? b=some o->ez.get? b=some o)(eD:ez.get? D=some oD)(dD:∀v,oD.data≠.cell v)(ec:∀y,ow=some y->ez.get? (C+1)=some { cls:=.type "cell",data:=.cell none }) :
  Inv (yq X ow scope N fp C s H) [(D,oD)] (zo k idx σ) H { s with heap:=ez,toks:=tk }:=by
 have uz:=S.cells I;have Iu:∀{x:Str} {c:Addr},(lB X.env scope.names []).lookup x=some c->c < s.heap.objs.size:=λ{x c} e=>by
  obtain⟨v,q⟩:=I.cell x c (mQ uz e);exact q.lt
 have Ak:s.heap.objs.size < C+1:=Nat.lt_succ_of_le hC;have nst:∀b,s.heap.objs.size<=b->b∉qc X.stack:=λb hb z=>by
  obtain⟨_,o,e,_⟩:=I.stack.mem z;exact absurd (rQ (iM e) hb) (vn _)
 refine⟨⟨I.ok.mod,S.kind,I.ok.glob,I.ok.blt,hC,λx x2 c h1 h2=>?_,λx hx=>?_,λx c z e=>?_,I.ok.hd,I.ok.frames,.inl rfl,λb hb=>⟨?_,λx c e=>?_⟩,I.bs,
  vm I.ok.Al I.sz,λb o e hb=>?_,λb hb z=>?_,I.stack,I.LX⟩,rfl,I.bare,Un.kept old,⟨m,hn,λi x v h1 h2 h3=>?_⟩,λx c e=>?_,I.bf.fresh hC,λx c e=>?_,λp hp=>?_,I.bf.kept old,?_⟩
 ·rcases CL h1 with ⟨a1,a2⟩|⟨a1,a2⟩ <;> rcases CL h2 with ⟨b1,b2⟩|⟨b1,b2⟩
  ·cases a1.symm.trans b1;rfl
  ·have:=Iu b2;rw[a2] at this;exact absurd (HQ this Ak) (vn _)
  ·have:=Iu a2;rw[b2] at this;exact absurd (HQ this Ak) (vn _)
  ·exact I.ok.inj x x2 c (mQ uz a2) (mQ uz b2)
 ·rcases aAz S.gg hx with q|q
  ·cases q;exact⟨C+1,aMf⟩
  ·obtain⟨c,e⟩:=uz _ q rfl;exact⟨c,(aHW (S.free _ q rfl).1).trans (uX uz q e)⟩
 ·rcases CL e with ⟨a1,a2⟩|⟨a1,a2⟩
  ·rw[a2];exact CT Ak
  ·cases ow with
   |none=>cases z
   |some y=>
    have z':(x == y)=true:=z;exact absurd (by rw[beq_iff_eq.mp z']) a1
 ·obtain⟨o,e⟩:=ho b hb;exact rR (rQ (iM e) hC)
 ·rcases CL e with ⟨a1,a2⟩|⟨a1,a2⟩
  ·obtain⟨o,q⟩:=ho b hb;have:=iM q;intro z;rw[a2] at z;rw[<-z] at this;exact absurd (HQ this Ak) (vn _)
  ·exact(hf b hb).2.2.2.2.1 x c (mQ uz a2)
 ·rcases(hf b hb).2.2.2.1 with z|z
  ·exact I.ok.wz b o e z
  ·exact absurd (rQ (iM (I.ok.bs b o e).1) z) (vn _)
 ·rcases lR.mp (I.HE b z) with q|q
  ·exact(hf b hb).2.1 q
  ·exact(hf b hb).2.2.1 q
 ·have hi:k<=i:=by
   by_cases hi:i < k
   ·unfold zo at h2;rw[vf (by simpa using hi),Ri,cT hi] at h2;cases h2
   ·lia
  obtain⟨j,rfl⟩ : ∃j,i=k+j:=⟨i - k,by lia⟩
  have DO:N[k+j]?=some x:=h1;obtain⟨l,e1,e2,e3⟩:=S.bz j x (by rw[List.getElem?_drop];exact DO);have tw:σ[l]?=some (some v):=by
   unfold zo at h2;rw[vo (by simp),nE] at h2;simp only[List.length_replicate,Nat.add_sub_cancel_left,e1,Option.map_some,Option.some.injEq] at h2;cases q:σ[l]? with
   |none=>rw[q] at h2;cases h2
   |some z=>rw[q] at h2;exact congrArg some h2
  obtain⟨m0,hn0,hl⟩:=I.loc;have jd:(x,NameKind.free)∈scope.names:=PySem.mem_of_lookup e3;have hk:=(S.free _ jd rfl).2;obtain⟨u,r,l⟩:=hl l x v e2 tw (by rcases hk with z|z;exact .inr (.inl z);exact .inr (.inr z));refine⟨u,r,.inr ⟨mH e3,?_⟩⟩;rcases l with ⟨z,_⟩|⟨_,c,e,o,q,d⟩
  ·rcases hk with w|w
   ·rw[w] at z;cases z
   ·rw[w] at z;cases z
  ·exact⟨c,(aHW (S.free _ jd rfl).1).trans (uX uz jd e),o,old c o q,d⟩
 ·rcases CL e with ⟨a1,a2⟩|⟨a1,a2⟩
  ·rw[a2];exact⟨none,_,ec _ a1,rfl⟩
  ·obtain⟨v,o,q,d⟩:=I.cell x c (mQ uz a2);exact⟨v,o,old c o q,d⟩
 ·rcases CL e with ⟨a1,a2⟩|⟨a1,a2⟩
  ·rw[a2];exact I.bf.fresh (CT Ak)
  ·exact I.fc x c (mQ uz a2)
 ·have Ah:p∈([]:au) ++ [(D,oD)]:=hp;have e:p=(D,oD):=by simpa using Ah
  subst e;exact⟨eD,I.bf.fresh hD,Fd,nst D hD,dD⟩
 ·unfold zo;show _=N.length;rw[S.len];simp
theorem aOd{s':Shared}{ys:List V}{az:aj}{n:Nat}(I:Inv X pins σ H s)(hf:∀b∈fp,xo X pins H b)(J:Inv (yq X ow scope N fp C s H) ug σ' H' s')(hC:s.heap.objs.size<=C)(hD:s.heap.objs.size<=D)(Fd:D≠C)(WM:H' D=none)(eD:s'.heap.get? D=some { cls:=.type "list",data:=.seq az.toArray n })(r:Vals ys az)(hz:ys.length<=sizeLine) :
  Inv X pins σ (upd H' D (.lst ys)) s'/\xo X pins (upd H' D (.lst ys)) C:=by
 have hk:uK X.prog X.w (upd H' D (.lst ys)) s'.heap:=uK.Pf J.bf WM ⟨hz,az,n,r,eD⟩;have u:Un (qc X.stack) fp H (upd H' D (.lst ys)) s.heap s'.heap:=Un.Pf J.base hD WM;refine⟨I.aRA J.os u hk J.bare λb hb=>⟨(hf b hb).2.2.2.1,(hf b hb).2.1,(hf b hb).2.2.2.2.1,(hf b hb).2.2.2.2.2⟩,I.Bg hC ?_⟩;rw[bA Fd.symm];exact J.free
theorem fM.cells(S:fM X scope N k idx)(I:Inv X pins σ H s):∀y∈scope.names,y.2=.free->∃c,X.env.cells.lookup y.1=some c:=S.G9.cells I
end
def lU(J:It)(σ₀:St)(g:TG)(tt:TT)(te:TE)(R:List V->Hp->Prop)(H1:Hp):Prop:=
 ∃W:Nat->Nat->List V->Hp->Prop,(∃m,W 0 m [] H1)/\∀i m ys H,W i m ys H->ys.length<=sizeLine/\
  ((J.stop i H/\R ys H)\/(J.go i H/\∃N:List V->Hp->Prop,(∀Gh H',N Gh H'->∃m',m' < m/\W (i+1) m' Gh H')/\
   ∀x H',J.uy i H x H'->g x σ₀ H' λσ2 H2=>tt σ2 H2 λb H3=>if b=true then te σ2 H3 λy H4=>N (ys ++ [y]) H4 else N ys H3))
def Ho(wi:TI)(k:Nat)(idx:List Nat)(g:TG)(tt:TT)(te:TE):TE:=λσ H Q=>wi σ H λJ H1=>lU J (zo k idx σ) g tt te (λys H'=>∀p,H' p=none->Q (.ref p) (upd H' p (.lst ys))) H1
def F9(X:Cx)(ifs:List Expr)(t:TT):Prop:=
 ∀(pins:au) (s:Shared) (σ:St) (H:Hp) (Q:Bool->Hp->Prop),Inv X pins σ H s->t σ H Q->
  wpAny (model X.prog X.w) X.A (forIn ifs true λc r=>if r=true then do let ok <-isTrue c X.env (eval c X.env);pure (ForInStep.yield ok) else pure (ForInStep.yield r)) (TP X pins σ Q) X.xe s
def OT:TT:=λ_ H Q=>Q true H
theorem aOe:F9 X [] OT:=λ_ _ _ H _ I h=>wpAny_tests_nil ⟨H,I,h⟩
theorem aOf(h:PT X c t):F9 X [c] t:=λpins s σ H Q I q=>wpAny_tests_one (h pins s σ H Q I q)
def Ef(k:Nat)(σ' σ:St):Prop:=σ'.length=σ.length/\∀i,k<=i->σ'[i]?=σ[i]?
theorem Ef.set{k i:Nat}{σ:St}(h:Ef k σ σb)(hi:i < k):Ef k (σ.set i v) σb:=⟨by rw[HX];exact h.1,λj hj=>by rw[List.getElem?_set_ne (by lia)];exact h.2 j hj⟩
def Own(k:Nat)(g:TG):Prop:=∀x σ H (Q:St->Hp->Prop) (σb:St),Ef k σ σb->g x σ H Q->g x σ H λσ' H'=>Ef k σ' σb/\Q σ' H'
def Lh(k:Nat)(g:Ar):Prop:=∀xs σ H (Q:St->Hp->Prop) (σb:St),Ef k σ σb->g xs σ H Q->g xs σ H λσ' H'=>Ef k σ' σb/\Q σ' H'
theorem cJ{k i:Nat}(h:i < k):Own k (uR i):=λ_ _ _ _ _ a q=>⟨a.set h,q⟩
theorem eQ{k:Nat}:Lh k Lm:=λ_ _ _ _ _ a ⟨e,q⟩=>⟨e,a,q⟩
theorem bF{k i:Nat}(h:i < k)(hu:Lh k u):Lh k (LC (uR i) u):=λ_ _ _ Q σb a ⟨v,r,e,q⟩=>⟨v,r,e,hu r _ _ Q σb (a.set h) q⟩
theorem fY{K:W.Frag}{n k:Nat}{u:Ar}(hu:Lh k u):Own k (Ll K n u):=λ_ _ _ Q σb a ⟨l,xs,e,h1,h2,q⟩=>⟨l,xs,e,h1,h2,hu xs _ _ Q σb a q⟩
theorem aMg(az:aj)(u:Value)(n:Nat):({ cls:=.type "list",data:=.seq (az.toArray.push u) n }:Obj)={ cls:=.type "list",data:=.seq (az ++ [u]).toArray n }:=by
 rw[List.push_toArray]
section
variable{X:Cx}{pins:au}{σ:St}{H:Hp}{s:Shared}{ow:Option Str}{scope:Scope}{N:ah}{k:Nat}{idx:List Nat}{fp:ay}
theorem aCk{tn:Nat->Heap->Prop}{R:List V->Hp->Prop}{E:ar}{RR:Value->Addr->Result->Shared->Prop}(S:uY X ow scope N k idx)(hc:X.calm=true)(I:Inv X pins σ H s)(T:Turn X.prog X.w X.K target J fp it tn)(st:tn 0 s.heap)(hf:∀b∈fp,xo X pins H b)(hg:∀C,PG (yq X ow scope N fp C s H) target g)(ho:Own k g)(ht:∀C,F9 (yq X ow scope N fp C s H) ifs tt)(he:∀C,PE (yq X ow scope N fp C s H) elt te)(hw:lU J (zo k idx σ) g tt te R H)(hRR:∀D C s' m ys H',s'.heap.Ns C m->Inv X pins σ (upd H' D (.lst ys)) s'->xo X pins (upd H' D (.lst ys)) C->H' D=none->R ys H'->RR (.ref D) C (.ok .next) s') :
  wpAny (model X.prog X.w) X.A (newList []) (λacc ka=>wpAny (model X.prog X.w) X.A (newFunctionEnv scope X.env.globals (lB X.env scope.names []) [] X.env.qual none .none (some X.env)) (λIL BS=>
   codeAny (model X.prog X.w) X.A (.compStart (.ListComp elt [⟨target,iter,ifs,0⟩] scope pos) 0 (.ref it) acc { IL with scope:=relabel scope X.env }) (RR acc IL.locals) BS) E ka) E s:=by
 refine wo (aE7 S.cf S.pc ?_);dsimp only;generalize Ob:s.heap.push { cls:=.type "list",dict:=none,data:=.seq ([]:aj).toArray } = H2;have Ak:H2.objs.size=s.heap.objs.size+1:=by rw[<-Ob,vb]
 have Fd:s.heap.objs.size≠H2.objs.size:=by rw[Ak];exact rR (F4 _)
 have IJ:s.heap.objs.size<=H2.objs.size:=by rw[Ak];exact Nat.le_succ _
 have below:∀b,b < s.heap.objs.size->b≠H2.objs.size:=λb hb=>by rw[Ak];exact rR (D7 hb)
 generalize Ky:pow ow (H2.push { cls:=.type "dict",data:=.dict #[] })=ez;have EF:ez.Ns H2.objs.size (λ_=>none):=Ky▸(Heap.Ns.new H2 (.type "dict")).keeps λb o e=>Qi e;have old:∀b o,s.heap.get? b=some o->ez.get? b=some o:=λb o e=>Ky▸Qi (fL _ (Ob▸fL _ e));have ux:ez.get? s.heap.objs.size=some { cls:=.type "list",data:=.seq ([]:aj).toArray 0 }:=Ky▸Qi (fL _ (Ob▸qP _ rfl));have uj:∀y,ow=some y->ez.get? (H2.objs.size+1)=some { cls:=.type "cell",data:=.cell none }:=λy e=>by
  subst e;rw[<-Ky];exact aQB (vb ..).symm
 have De:tn 0 ez:=T.keep _ _ _ st λb _ o e=>old b o e;obtain⟨W,⟨m0,w0⟩,turn⟩:=hw;have KR:∀b∈fp,b < s.heap.objs.size:=λb hb=>by
  obtain⟨o,e,_⟩:=T.obj _ _ st b hb;exact iM e
 have wu:∀{H':Hp} {pl:au},(∀b∈fp,H' b=none)->(∀p∈pl,s.heap.objs.size<=p.1)->∀b∈fp,xo (yq X ow scope N fp H2.objs.size s H) pl H' b:=λ{H' pl} hn hp b hb=>by
  refine⟨hn b hb,below b (KR b hb),λz=>?_,.inl hb,λx c e=>by
   rcases CL e with ⟨a1,a2⟩|⟨a1,a2⟩
   ·have:=KR b hb;intro z;rw[a2] at z;rw[<-z,Ak] at this;exact absurd (HQ this (D7 (F4 _))) (vn _)
   ·exact(hf b hb).2.2.2.2.1 x c (mQ (S.cells I) a2),λp q z=>?_⟩
  ·have z':b∈qc X.stack:=z;rcases lR.mp (I.HE b z') with q|q
   ·exact(hf b hb).2.1 q
   ·exact(hf b hb).2.2.1 q
  ·have q':p∈([]:au)++pl:=q;have h1:=hp p (by simpa using q');rw[z] at h1;exact absurd (rQ (KR b hb) h1) (vn _)
 have loop:∀ka:Shared,ka={ s with heap:=ez }->
   codeAny (model X.prog X.w) X.A (.compLoop (.ListComp elt [⟨target,iter,ifs,0⟩] scope pos) 0 (.ref it) (.ref s.heap.objs.size) (compEnvC scope (Ck ow (H2.objs.size+1)++lB X.env scope.names []) H2.objs.size X.env))
    (RR (.ref s.heap.objs.size) H2.objs.size) ka:=by
  rintro ka rfl;refine aHT (λn s'=>∃i ys az H' nn,Inv (yq X ow scope N fp H2.objs.size s H) [(s.heap.objs.size,{ cls:=.type "list",data:=.seq az.toArray nn })] (zo k idx σ) H' s'/\tn i s'.heap/\(∀b∈fp,H' b=none)/\Vals ys az/\W i n ys H') ?_ m0
   ⟨0,[],[],H,0,aK7 S I hf (λb hb=>let ⟨o,e,_⟩:=T.obj _ _ st b hb;⟨o,e⟩) IJ (eO _) Fd EF old ux (λv z=>by cases z) uj,De,λb hb=>(hf b hb).1,.nil,w0⟩
  rintro n s' ⟨i,ys,az,H',nn,I',sy,W5,rv,w'⟩;obtain⟨hz,alt⟩:=turn i n ys H' w';have pl:∀p∈[((s.heap.objs.size:Addr),({ cls:=.type "list",data:=.seq az.toArray nn }:Obj))],s.heap.objs.size<=p.1:=λp hp=>by
   have e:p=((s.heap.objs.size:Addr),({ cls:=.type "list",data:=.seq az.toArray nn }:Obj)):=by simpa using hp
   rw[e];exact eO _
  rcases alt with ⟨stop,q⟩|⟨go,Nx,hN,step⟩
  ·refine eF (T.done (yq X ow scope N fp H2.objs.size s H) rfl rfl rfl hc i _ s' _ H' _ I' (wu W5 pl) sy stop) λr s4 ⟨hr,I4⟩=>?_;subst hr;obtain⟨eD,nD,_⟩:=I4.pin _ (wa _ qz);obtain⟨a1,a2⟩:=aOd I hf I4 IJ (eO _) Fd nD eD rv hz;obtain⟨m4,hn4,_⟩:=I4.loc;exact hRR _ _ s4 m4 ys H' hn4 a1 a2 nD q
  ·refine eF (T.item (yq X ow scope N fp H2.objs.size s H) rfl rfl rfl hc i _ s' _ H' _ I' (wu W5 pl) sy go) λr s4 ⟨u,hr,h4⟩=>?_;subst hr;refine eF h4 λ_ s5 zq=>?_;obtain⟨x,H5,I5,r5,y5,Dk,Ot⟩:=zq;have Rr:=I5.pinned (wu Ot pl) (T.obj _ _ Dk);have MV:∀{α:Type} {t:Sem α} {Q:α->Shared->Prop} {E':ar} {sx:Shared},wpAny (model X.prog X.w) X.A t Q (λ_ _=>False) sx->wpAny (model X.prog X.w) X.A t Q E' sx:=λh=>vz h (λ_ _ q=>q) λ_ _ z=>z.elim;refine MV (eF (hg _ _ s5 _ H5 x u _ Rr r5 (ho x _ H5 _ _ ⟨rfl,λ_ _=>rfl⟩ (step x H5 y5))) λ_ s6 ⟨σ6,H6,I6,ag,q6⟩=>?_);have back:∀{H7:Hp} {s7:Shared},Inv (yq X ow scope N fp H2.objs.size s H) ([((s.heap.objs.size:Addr),({ cls:=.type "list",data:=.seq az.toArray nn }:Obj))] ++ HD fp s5.heap) σ6 H7 s7->
     Inv (yq X ow scope N fp H2.objs.size s H) [((s.heap.objs.size:Addr),({ cls:=.type "list",data:=.seq az.toArray nn }:Obj))] (zo k idx σ) H7 s7/\tn (i+1) s7.heap/\∀b∈fp,H7 b=none:=λ{H7 s7} I7=>by
    refine⟨I7.Mb.weak (by rw[ag.1]) λj v e=>?_,T.keep _ _ _ Dk λb hb o e=>(I7.pin (b,o) (wa _ (wa _ (rS hb e)))).1,λb hb=>?_⟩
    ·have hj:k<=j:=by
      by_cases hj:j < k
      ·unfold zo at e;rw[vf (by simpa using hj),Ri,cT hj] at e;cases e
      ·lia
     rw[ag.2 j hj];exact e
    ·obtain⟨o,e,d⟩:=T.obj _ _ Dk b hb;exact(I7.pin (b,o) (wa _ (wa _ (rS hb e)))).2.1
   refine MV (eF (ht _ _ s6 σ6 H6 _ I6 q6) λb s7 ⟨H7,I7,q7⟩=>?_);cases b with
   |false=>
    rw[cD oh] at q7 ⊢;obtain⟨m',hm,w7⟩:=hN _ _ q7;obtain⟨b1,b2,b3⟩:=back I7;exact⟨m',hm,i+1,ys,az,H7,nn,b1,b2,b3,rv,w7⟩
   |true=>
    rw[cT rfl] at q7 ⊢;refine MV (eF (he _ _ s7 σ6 H7 _ I7 q7) λyv s8 zq=>?_);obtain⟨z,H8,I8,r8,q8⟩:=zq;obtain⟨m',hm,w8⟩:=hN _ _ q8;obtain⟨b1,b2,b3⟩:=back I8;obtain⟨eD,nD,VT,nfD,_⟩:=b1.pin _ (wa _ qz);have Ay:=rv.length;refine append_at (hsz:=by rw[jT,<-Ay];exact hz) eD λh9 Wd hD9=>?_;have b1':Inv (yq X ow scope N fp H2.objs.size s H) [] (zo k idx σ) H8 s8:=b1.LW λp hp=>by cases hp
    have I9:Inv (yq X ow scope N fp H2.objs.size s H) [] (zo k idx σ) H8 { s8 with heap:=h9 }:=b1'.turned (t':=s8.toks) (λb o hb e=>(Wd.2 b hb).trans e) nD VT (.inr (eO _)) (λx c e z=>by
     rcases CL e with ⟨a1,a2⟩|⟨a1,a2⟩
     ·rw[a2,Ak] at z;exact absurd z (yx (D7 (F4 _)))
     ·obtain⟨v,q⟩:=I.cell x c (mQ (S.cells I) a2);exact absurd (rQ q.lt (by rw[z];exact eO _)) (vn _)) (λp hp=>by
     have Ah:p∈([]:au) ++ []:=hp;simp at Ah)
    refine⟨m',hm,i+1,ys ++ [z],az ++ [yv],H8,nn+1,I9.LW λp hp=>?_,T.keep _ _ _ b2 λb hb o e=>(Wd.2 b (rR (KR b hb))).trans e,b3,rv.append (.cons r8 .nil),w8⟩;have e:p=((s.heap.objs.size:Addr),({ cls:=.type "list",data:=.seq (az ++ [yv]).toArray (nn+1) }:Obj)):=by simpa using hp
    subst e;exact⟨by rw[<-aMg];exact hD9,nD,VT,nfD,λv z=>by cases z⟩
 exact codeAny_compStart_list (loop _ rfl) (T.self _ 0 _ _ _ De (loop _ rfl))
theorem aOh(k:Nat)(idx:List Nat)(S:fM X scope N k idx)(hc:X.calm=true)(hi:PI X target iter wi)(hg:∀fp C s H,PG (yr X scope N fp C s H) target g)(ho:Own k g)(ht:∀fp C s H,F9 (yr X scope N fp C s H) ifs tt)(he:∀fp C s H,PE (yr X scope N fp C s H) elt te)(hs:∀x,foldedSetIterable iter X.env x=pure x:=by intro _;rfl):PE X (.ListComp elt [⟨target,iter,ifs,0⟩] scope pos) (Ho wi k idx g tt te):=by
 intro pins s σ H Q I h;rw[eval_ListComp];refine wpAny_comprehension_free (use:=none) rfl hs (zT (S.G9.cells I)) S.kind S.names (eF (hi pins s σ H _ I h) λv s1 h1=>eF h1 λKk s2 h2=>?_);obtain⟨it,fp,tn,J,H2,e,I2,T,Gj,f2,w2⟩:=h2;subst e;refine aCk (RR:=λacc C=>compPost (model X.prog X.w) X.A X.xe none (EP X pins σ Q) acc C) S.G9 hc I2 T Gj f2 (λC=>hg fp C s2 H2) ho (λC=>ht fp C s2 H2) (λC=>he fp C s2 H2) w2 λD C s' m ys H' hn I' fC hD q=>?_;refine⟨m,hn,λh'' Em=>⟨.ref D,_,I'.turned (t':=s'.toks) (λb o hb e=>(Em.2 b hb).trans e) fC.1 fC.2.1 fC.2.2.2.1 fC.2.2.2.2.1 fC.2.2.2.2.2,rfl,q D hD⟩⟩
theorem aOi(k:Nat)(idx:List Nat){i:Nat}{wx:Pos}(hN:X.N.Nodup)(NJ:X.N[i]?=some x)(hx:Loc X.env.scope x)(S:fM X scope N k idx)(hc:X.calm=true)(hi:PI X target iter wi)(hg:∀fp C s H,PG (yr X scope N fp C s H) target g)(ho:Own k g)(ht:∀fp C s H,F9 (yr X scope N fp C s H) ifs tt)(he:∀fp C s H,PE (yr X scope N fp C s H) elt te)(Nu:swapsWith (.ListComp elt [⟨target,iter,ifs,0⟩] scope pos) (some (.Name x pos')) wx.line X.env=pure true:=by rfl)(hs:∀x,foldedSetIterable iter X.env x=pure x:=by intro _;rfl)(Aj:X.fn x=true\/X.env.scope.names.lookup x=some .local:=by first|exact .inl rfl|exact .inr rfl|assumption) :
  PS X (.Assign [.Name x pos'] (.ListComp elt [⟨target,iter,ifs,0⟩] scope pos) wx) (CJ (Ho wi k idx g tt te) (uR i)):=by
 intro pins s σ H D I h;rw[exec_Assign_Name_used _ _ _ _ Nu];refine bN (wpAny_standAt (bN ?_));show wpAny _ X.A (do let _ <-comprehension (.ListComp elt [⟨target,iter,ifs,0⟩] scope pos) scope X.env _ (newList []) false (eval iter X.env) (some (assign (.Name x pos') X.env))) _ _ s;refine bN (vz (wpAny_comprehension_free (use:=some (assign (.Name x pos') X.env)) (Q:=λ_ s'=>SP X pins D .next s') rfl hs (zT (S.G9.cells I)) S.kind S.names
  (eF (hi pins s σ H _ I h) λv s1 h1=>eF h1 λKk s2 h2=>?_)) (λ_ s' hq=>dY (dY hq)) λ_ _ e=>e)
 obtain⟨it,fp,tn,J,H2,e,I2,T,Gj,f2,w2⟩:=h2;subst e;refine aCk (RR:=λacc C=>compPost (model X.prog X.w) X.A X.xe (some (assign (.Name x pos') X.env)) (λ_ s'=>SP X pins D .next s') acc C) S.G9 hc I2 T Gj f2 (λC=>hg fp C s2 H2) ho (λC=>ht fp C s2 H2) (λC=>he fp C s2 H2) w2 λD' C s' m ys H' hn I' fC hD q=>?_;show wpAny _ X.A (assign (.Name x pos') X.env (.ref D')) _ _ s';refine wpAny_assign_Name (aFN I' hN NJ hx (show RelV (.ref D') (.ref D') from rfl) (λs3 I3 ⟨a,sb,ha⟩=>?_) Aj);have hCa:C≠a:=by
  rcases ha with z|z
  ·rw[z];exact fC.2.1
  ·exact(fC.2.2.2.2.1 x a z).symm
 refine⟨m,hn.sameBut sb hCa,λh'' Em=>⟨_,_,I3.turned (t':=s3.toks) (λb o hb e=>(Em.2 b hb).trans e) fC.1 fC.2.1 fC.2.2.2.1 fC.2.2.2.2.1 fC.2.2.2.2.2,q D' hD⟩⟩
end
theorem dF{K:W.Frag}{a:Addr}{xs:List V}{σ₀:St}{g:TG}{tt:TT}{te:TE}{R:List V->Hp->Prop}{H:Hp}(Pv:Nat->List V->Hp->Prop)(h0:Pv 0 [] H)(hz:xs.length<=sizeLine)
  (hl:∀i ys H,i<=xs.length->Pv i ys H->bP K H a xs/\ys.length<=i)
  (hs:∀i x ys H,xs[i]?=some x->Pv i ys H->g x σ₀ H λσ2 H2=>tt σ2 H2 λb H3=>if b=true then te σ2 H3 λy H4=>Pv (i+1) (ys ++ [y]) H4 else Pv (i+1) ys H3)
  (hd:∀ys H,Pv xs.length ys H->R ys H):lU (yh K a) σ₀ g tt te R H:=by
 refine⟨λi m ys H=>m=xs.length - i/\i<=xs.length/\Pv i ys H,⟨xs.length,by simp,qw _,h0⟩,?_⟩;rintro i m ys H ⟨rfl,hi,p⟩;obtain⟨q,ql⟩:=hl i ys H hi p;refine⟨by lia,?_⟩;by_cases fh:i < xs.length
 ·refine .inr ⟨⟨xs,xs[i],q,by simp[fh]⟩,Pv (i+1),λGh H' p'=>⟨xs.length - (i+1),by lia,rfl,fh,p'⟩,λx H' y=>?_⟩;obtain⟨e,y⟩:=y;subst e;exact hs i x ys _ (y xs q) p
 ·have e:i=xs.length:=by lia
  subst e;exact .inl ⟨⟨xs,q,eO _⟩,hd ys H p⟩
theorem aMh{K:W.Frag}{a:Addr}{xs:List V}{σ₀:St}{g:TG}{tt:TT}{te:TE}{R:List V->Hp->Prop}{H:Hp}(Pv:Nat->List V->Hp->Prop)(h0:Pv 0 [] H)(hz:xs.length<=sizeLine)
  (hl:∀i ys H,i<=xs.length->Pv i ys H->gZ K H a xs/\ys.length<=i)
  (hs:∀i x ys H,xs[i]?=some x->Pv i ys H->g x σ₀ H λσ2 H2=>tt σ2 H2 λb H3=>if b=true then te σ2 H3 λy H4=>Pv (i+1) (ys ++ [y]) H4 else Pv (i+1) ys H3)
  (hd:∀ys H,Pv xs.length ys H->R ys H):lU (Au K a) σ₀ g tt te R H:=by
 refine⟨λi m ys H=>m=xs.length - i/\i<=xs.length/\Pv i ys H,⟨xs.length,by simp,qw _,h0⟩,?_⟩;rintro i m ys H ⟨rfl,hi,p⟩;obtain⟨q,ql⟩:=hl i ys H hi p;refine⟨by lia,?_⟩;by_cases fh:i < xs.length
 ·refine .inr ⟨⟨xs,xs[i],q,by simp[fh]⟩,Pv (i+1),λGh H' p'=>⟨xs.length - (i+1),by lia,rfl,fh,p'⟩,λx H' y=>?_⟩;obtain⟨e,y⟩:=y;subst e;exact hs i x ys _ (y xs q) p
 ·have e:i=xs.length:=by lia
  subst e;exact .inl ⟨⟨xs,q,eO _⟩,hd ys H p⟩
theorem iS{lo:Int}{n:Nat}{g:TG}{R:List V->Hp->Prop}(Pv:Nat->List V->Hp->Prop)(h0:Pv 0 [] H)(hz:n<=sizeLine)(hl:∀i ys H,i<=n->Pv i ys H->ys.length<=i)(hs:∀i ys H,i < n->Pv i ys H->g (.int (lo+i)) σ₀ H λσ2 H2=>tt σ2 H2 λb H3=>if b=true then te σ2 H3 λy H4=>Pv (i+1) (ys ++ [y]) H4 else Pv (i+1) ys H3)(hd:∀ys H,Pv n ys H->R ys H):lU (yg lo n) σ₀ g tt te R H:=by
 refine⟨λi m ys H=>m=n - i/\i<=n/\Pv i ys H,⟨n,by simp,qw _,h0⟩,?_⟩;rintro i m ys H ⟨rfl,hi,p⟩;have ql:=hl i ys H hi p;refine⟨by lia,?_⟩;by_cases fh:i < n
 ·refine .inr ⟨fh,Pv (i+1),λGh H' p'=>⟨n - (i+1),by lia,rfl,fh,p'⟩,λx H' y=>?_⟩;obtain⟨e,y⟩:=y;subst e y;exact hs i ys _ fh p
 ·have e:i=n:=by lia
  subst e;exact .inl ⟨eO _,hd ys H p⟩
theorem Y8:bootBuiltins "int" = some (.type "int"):=by decide +kernel
theorem aOj:bootBuiltins "bool" = some (.type "bool"):=by decide +kernel
theorem oW:bootBuiltins "list" = some (.type "list"):=by decide +kernel
theorem lC:bootBuiltins "tuple" = some (.type "tuple"):=by decide +kernel
theorem aHY:bootBuiltins "range" = some (.type "range"):=by decide +kernel
theorem fB:bootBuiltins "len" = some (.builtin "len"):=by decide +kernel
theorem aQD:bootBuiltins "abs" = some (.builtin "abs"):=by decide +kernel
theorem jC:bootBuiltins "max" = some (.builtin "max"):=by decide +kernel
theorem rV:bootBuiltins "min" = some (.builtin "min"):=by decide +kernel
theorem jD:bootBuiltins "sum" = some (.builtin "sum"):=by decide +kernel
theorem LO:bootBuiltins "all" = some (.builtin "all"):=by decide +kernel
theorem aK8:bootBuiltins "sorted" = some (.builtin "sorted"):=by decide +kernel
theorem fD:bootBuiltins "isinstance" = some (.builtin "isinstance"):=by decide +kernel
section
variable{X:Cx}
def Pe:R2:=λx y H Q=>AX (λi j=>.int (i+j)) x y H Q\/Yp x y H Q
theorem bL:uS X (binaryOp .Add) Pe:=aQe.or aQr
def YH:R2:=λx y H Q=>rI FC (λi j=>.int (i*j)) x y H Q\/Yo x y H Q
theorem bX:uS X (binaryOp .Mult) YH:=aQf.or aQs
def DT(K:W.Frag):V->Option Int->Option Int->Hp->VK->Prop:=λx lo hi H Q=>Yr K x lo hi H Q\/Yv K x lo hi H Q
theorem Hd:BL X (DT X.K):=aN7.or aQl
def BQ(K:W.Frag)(H:Hp):Nat->V->V->Bool->Prop
 |0,x,y,b=>qR x=true/\qR y=true/\b=eqV x y
 |n+1,x,y,b=>(qR x=true/\qR y=true/\b=eqV x y)\/
  ∃(p q:Addr) (xs ys:List V) (e:Nat->Bool),x=.ref p/\y=.ref q/\((bP K H p xs/\bP K H q ys)\/(gZ K H p xs/\gZ K H q ys))/\
   (∀(j:Nat) u v,xs[j]?=some u->ys[j]?=some v->BQ K H n u v (e j))/\b=(xs.length == ys.length && (List.range xs.length).all e)
theorem Qt(h:qR x=true):eqV x x=true:=by
 cases x with
 |bw=>rfl
 |bl b=>cases b <;> rfl
 |int i=>exact beq_self_eq_true i
 |str z=>exact beq_self_eq_true z
 |_=>exact absurd (show false=true from h) oh
theorem aHZ(I:Inv X pins σ H s):∀{n:Nat}{x:V}{b:Bool},BQ X.K H n x x b->b=true
 |0,x,b,⟨h,_,e⟩=>by rw[e];exact Qt h
 |n+1,x,b,h=>by
  rcases h with ⟨h,_,e⟩|⟨p,q,xs,ys,e,e1,e2,hs,he,eb⟩
  ·rw[e];exact Qt h
  ·subst e1;cases e2;have exy:xs=ys:=by
    rcases hs with ⟨h1,h2⟩|⟨h1,h2⟩
    ·exact I.uP h1 h2
    ·exact I.aFO h1 h2
   subst exy;rw[eb,beq_self_eq_true,CU,F2];intro j hj;have Bu:j < xs.length:=Bj.mp hj;exact aHZ I (he j xs[j] xs[j] (dM Bu) (dM Bu))
theorem Y7(I:Inv X pins σ H s):∀{n:Nat}{A:Around}{x y:V}{u v:Value}{b:Bool},A.units+n < cLine->RelV x u->RelV y v->BQ X.K H n x y b->SeqAt.EqAt A s u v b
 |0,A,x,y,u,v,b,_,rx,ry,⟨h1,h2,e⟩=>by rw[e];exact Zg rx ry h1 h2
 |n+1,A,x,y,u,v,b,hu,rx,ry,h=>by
  rcases id h with ⟨h1,h2,e⟩|⟨p,q,xs,ys,e,e1,e2,hs,he,eb⟩
  ·rw[e];exact Zg rx ry h1 h2
  ·subst e1 e2;cases rx;cases ry;by_cases Wg:p=q
   ·subst Wg;rw[aHZ I h];exact SeqAt.EqAt.same _
   ·refine SeqAt.EqAt.of_refs Wg ?_;have items:∀{us vs:aj},Vals xs us->Vals ys vs->∀j (h1:j < us.toArray.size) (h2:j < vs.toArray.size),SeqAt.EqAt A.in1 s us.toArray[j] vs.toArray[j] (e j):=λ{us vs} r1 r2 j h1 h2=>by
     have l1:=r1.length;have l2:=r2.length;rw[jT] at h1 h2;have g1:xs[j]?=some xs[j]:=dM (by lia);have g2:ys[j]?=some ys[j]:=dM (by lia);obtain⟨u',eu,ru⟩:=r1.get g1;obtain⟨v',ev,rv⟩:=r2.get g2;have Ov:us.toArray[j]=u':=by
      rw[Mm];exact Option.some.inj ((dM h1).symm.trans eu)
     have Ou:vs.toArray[j]=v':=by
      rw[Mm];exact Option.some.inj ((dM h2).symm.trans ev)
     rw[Ov,Ou];exact Y7 I (n:=n) (by show A.units+1+n < cLine;lia) ru rv (he j _ _ g1 g2)
    rcases hs with ⟨h1,h2⟩|⟨h1,h2⟩
    ·obtain⟨us,r1,p1,_⟩:=I.list h1;obtain⟨vs,r2,p2,_⟩:=I.list h2;have l1:=r1.length;have l2:=r2.length;by_cases hl:xs.length=ys.length
     ·rw[eb,hl,beq_self_eq_true,CU,<-hl,show xs.length=us.toArray.size by rw[jT];exact l1];exact SeqAt.RcAt.lists p1.isList p2.isList (by rw[jT,jT];lia) (by lia) (items r1 r2)
     ·rw[eb,show(xs.length == ys.length)=false by simpa using hl,CV];exact SeqAt.RcAt.lists_lengths p1.isList p2.isList (by rw[jT,jT];simp;lia) (by lia)
    ·obtain⟨us,r1,p1,_⟩:=I.tuple h1;obtain⟨vs,r2,p2,_⟩:=I.tuple h2;have l1:=r1.length;have l2:=r2.length;have q:=SeqAt.RcAt.tuples (s:=s) (A:=A) (l:=p) (b:=q) (e:=e) p1 p2 (by lia) (items r1 r2);rw[jT,jT,<-l1,<-l2] at q;by_cases hl:xs.length=ys.length
     ·rw[eb,hl,beq_self_eq_true,CU];rw[hl,D3,beq_self_eq_true,Bool.and_true] at q;exact q
     ·have hb:(xs.length == ys.length)=false:=by simpa using hl
      rw[eb,hb,CV];rw[hb,Bool.and_false] at q;exact q
def iJ(K:W.Frag):R2:=λx y H Q=>∃b,BQ K H 8 x y b/\Q (.bl b) H
def BA(K:W.Frag):R2:=λx y H Q=>∃b,BQ K H 8 x y b/\Q (.bl (!b)) H
theorem xD{n:Nat}{A:Around}{xs ys:List V}{us vs:aj}{e:Nat->Bool}(I:Inv X pins σ H s)(hu:A.units+1+n < cLine)(he:∀(j:Nat) u v,xs[j]?=some u->ys[j]?=some v->BQ X.K H n u v (e j))(r1:Vals xs us)(r2:Vals ys vs):∀j (h1:j < us.toArray.size) (h2:j < vs.toArray.size),SeqAt.EqAt A.in1 s us.toArray[j] vs.toArray[j] (e j):=λj h1 h2=>by
 have l1:=r1.length;have l2:=r2.length;rw[jT] at h1 h2;have g1:xs[j]?=some xs[j]:=dM (by lia);have g2:ys[j]?=some ys[j]:=dM (by lia);obtain⟨u',eu,ru⟩:=r1.get g1;obtain⟨v',ev,rv⟩:=r2.get g2;have Ov:us.toArray[j]=u':=by
  rw[Mm];exact Option.some.inj ((dM h1).symm.trans eu)
 have Ou:vs.toArray[j]=v':=by
  rw[Mm];exact Option.some.inj ((dM h2).symm.trans ev)
 rw[Ov,Ou];exact Y7 I (n:=n) (by show A.units+1+n < cLine;lia) ru rv (he j _ _ g1 g2)
theorem aQE(ry:RelV y u)(rx:RelV x v)(fy:qR y=true)(fx:qR x=true):SeqAt.RcAt A s u v (eqV y x):=by
 cases y with
 |bw=>
  cases ry;cases x with
  |bw=>cases rx;exact SeqAt.RcAt.none_none
  |bl b=>cases rx;exact SeqAt.RcAt.none_bool b
  |int b=>obtain⟨t,rfl⟩:=rx;exact SeqAt.RcAt.none_int b t
  |str b=>obtain⟨t,rfl⟩:=rx;exact SeqAt.RcAt.none_str b t
  |_=>exact absurd (show false=true from fx) oh
 |bl a=>
  cases ry;cases x with
  |bw=>cases rx;exact SeqAt.RcAt.bool_none a
  |bl b=>cases rx;exact SeqAt.RcAt.bool_bool a b
  |int b=>obtain⟨t,rfl⟩:=rx;exact SeqAt.RcAt.bool_int a b t
  |str b=>obtain⟨t,rfl⟩:=rx;exact SeqAt.RcAt.bool_str a b t
  |_=>exact absurd (show false=true from fx) oh
 |int a=>
  obtain⟨t',rfl⟩:=ry;cases x with
  |bw=>cases rx;exact SeqAt.RcAt.int_none a t'
  |bl b=>cases rx;exact SeqAt.RcAt.int_bool a t' b
  |int b=>obtain⟨t,rfl⟩:=rx;exact SeqAt.RcAt.int_int a t' b t
  |str b=>obtain⟨t,rfl⟩:=rx;exact SeqAt.RcAt.int_str a t' b t
  |_=>exact absurd (show false=true from fx) oh
 |str a=>
  obtain⟨t',rfl⟩:=ry;cases x with
  |bw=>cases rx;exact SeqAt.RcAt.str_none a t'
  |bl b=>cases rx;exact SeqAt.RcAt.str_bool a t' b
  |int b=>obtain⟨t,rfl⟩:=rx;exact SeqAt.RcAt.str_int a t' b t
  |str b=>obtain⟨t,rfl⟩:=rx;exact SeqAt.RcAt.str_str a t' b t
  |_=>exact absurd (show false=true from fx) oh
 |_=>exact absurd (show false=true from fy) oh
theorem aMm(ry:RelV y u)(rx:RelV x v)(fy:qR y=true)(fx:qR x=true):SeqAt.RcNeAt A s u v (!eqV y x):=by
 cases y with
 |bw=>
  cases ry;cases x with
  |bw=>cases rx;exact SeqAt.RcNeAt.none_none
  |bl b=>cases rx;exact SeqAt.RcNeAt.none_bool b
  |int b=>obtain⟨t,rfl⟩:=rx;exact SeqAt.RcNeAt.none_int b t
  |str b=>obtain⟨t,rfl⟩:=rx;exact SeqAt.RcNeAt.none_str b t
  |_=>exact absurd (show false=true from fx) oh
 |bl a=>
  cases ry;cases x with
  |bw=>cases rx;exact SeqAt.RcNeAt.bool_none a
  |bl b=>cases rx;exact SeqAt.RcNeAt.bool_bool a b
  |int b=>obtain⟨t,rfl⟩:=rx;exact SeqAt.RcNeAt.bool_int a b t
  |str b=>obtain⟨t,rfl⟩:=rx;exact SeqAt.RcNeAt.bool_str a b t
  |_=>exact absurd (show false=true from fx) oh
 |int a=>
  obtain⟨t',rfl⟩:=ry;cases x with
  |bw=>cases rx;exact SeqAt.RcNeAt.int_none a t'
  |bl b=>cases rx;exact SeqAt.RcNeAt.int_bool a t' b
  |int b=>obtain⟨t,rfl⟩:=rx;exact SeqAt.RcNeAt.int_int a t' b t
  |str b=>obtain⟨t,rfl⟩:=rx;exact SeqAt.RcNeAt.int_str a t' b t
  |_=>exact absurd (show false=true from fx) oh
 |str a=>
  obtain⟨t',rfl⟩:=ry;cases x with
  |bw=>cases rx;exact SeqAt.RcNeAt.str_none a t'
  |bl b=>cases rx;exact SeqAt.RcNeAt.str_bool a t' b
  |int b=>obtain⟨t,rfl⟩:=rx;exact SeqAt.RcNeAt.str_int a t' b t
  |str b=>obtain⟨t,rfl⟩:=rx;exact SeqAt.RcNeAt.str_str a t' b t
  |_=>exact absurd (show false=true from fx) oh
 |_=>exact absurd (show false=true from fy) oh
theorem cZ(hu:X.A.units+9 < cLine):uS X (compareOp .Eq) (iJ X.K):=by
 intro pins s σ H x y v u Q I rx ry h;obtain⟨b,h,q⟩:=h;have fin:EP X pins σ Q (.bool b) s:=⟨.bl b,H,I,rfl,q⟩
 rcases h with ⟨h1,h2,e⟩|⟨p,l,xs,ys,e,e1,e2,hs,he,eb⟩
 ·exact aQE rx ry h1 h2 X.prog X.w X.xe _ (by rw[<-e];exact fin)
 ·subst e1 e2;cases rx;cases ry;rcases hs with ⟨h1,h2⟩|⟨h1,h2⟩
  ·obtain⟨us,r1,p1,_⟩:=I.list h1;obtain⟨vs,r2,p2,_⟩:=I.list h2;have l1:=r1.length;have l2:=r2.length;by_cases hl:xs.length=ys.length
   ·refine SeqAt.RcAt.lists p1.isList p2.isList (by rw[jT,jT];lia) (by lia) (xD I (n:=7) (A:=X.A) (by lia) he r1 r2) X.prog X.w X.xe _ ?_;rw[jT,<-l1];rw[eb,hl,beq_self_eq_true,CU,<-hl] at fin;exact fin
   ·refine SeqAt.RcAt.lists_lengths p1.isList p2.isList (by rw[jT,jT];simp;lia) (by lia) X.prog X.w X.xe _ ?_;rw[eb,show(xs.length == ys.length)=false by simpa using hl,CV] at fin;exact fin
  ·obtain⟨us,r1,p1,_⟩:=I.tuple h1;obtain⟨vs,r2,p2,_⟩:=I.tuple h2;have l1:=r1.length;have l2:=r2.length;refine SeqAt.RcAt.tuples p1 p2 (by lia) (xD I (n:=7) (A:=X.A) (by lia) he r1 r2) X.prog X.w X.xe _ ?_;rw[jT,jT,<-l1,<-l2];rw[eb] at fin;by_cases hl:xs.length=ys.length
   ·rw[hl,beq_self_eq_true,CU] at fin;rw[hl,D3,beq_self_eq_true,Bool.and_true];exact fin
   ·have hb:(xs.length == ys.length)=false:=by simpa using hl
    rw[hb,CV] at fin;rw[hb,Bool.and_false];exact fin
theorem FR(hu:X.A.units+9 < cLine):uS X (compareOp .NotEq) (BA X.K):=by
 intro pins s σ H x y v u Q I rx ry h;obtain⟨b,h,q⟩:=h;have fin:EP X pins σ Q (.bool (!b)) s:=⟨.bl (!b),H,I,rfl,q⟩
 rcases h with ⟨h1,h2,e⟩|⟨p,l,xs,ys,e,e1,e2,hs,he,eb⟩
 ·exact aMm rx ry h1 h2 X.prog X.w X.xe _ (by rw[<-e];exact fin)
 ·subst e1 e2;cases rx;cases ry;rcases hs with ⟨h1,h2⟩|⟨h1,h2⟩
  ·obtain⟨us,r1,p1,_⟩:=I.list h1;obtain⟨vs,r2,p2,_⟩:=I.list h2;have l1:=r1.length;have l2:=r2.length;by_cases hl:xs.length=ys.length
   ·refine SeqAt.RcNeAt.lists p1.isList p2.isList (by rw[jT,jT];lia) (by lia) (xD I (n:=7) (A:=X.A) (by lia) he r1 r2) X.prog X.w X.xe _ ?_;rw[jT,<-l1];rw[eb,hl,beq_self_eq_true,CU,<-hl] at fin;exact fin
   ·refine SeqAt.RcNeAt.lists_lengths p1.isList p2.isList (by rw[jT,jT];simp;lia) (by lia) X.prog X.w X.xe _ ?_;rw[eb,show(xs.length == ys.length)=false by simpa using hl,CV] at fin;exact fin
  ·obtain⟨us,r1,p1,_⟩:=I.tuple h1;obtain⟨vs,r2,p2,_⟩:=I.tuple h2;have l1:=r1.length;have l2:=r2.length;refine SeqAt.RcNeAt.tuples p1 p2 (by lia) (xD I (n:=7) (A:=X.A) (by lia) he r1 r2) X.prog X.w X.xe _ ?_;rw[jT,jT,<-l1,<-l2];rw[eb] at fin;by_cases hl:xs.length=ys.length
   ·rw[hl,beq_self_eq_true,CU] at fin;rw[hl,D3,beq_self_eq_true,Bool.and_true];exact fin
   ·have hb:(xs.length == ys.length)=false:=by simpa using hl
    rw[hb,CV] at fin;rw[hb,Bool.and_false];exact fin
def C6(K:W.Frag)(H:Hp)(x:V)(c:V)(b:Bool):Prop:=∃t,xn K H x t/\((∃T,c=.ty T/\PySem.W.kitOne K t (.type T)=some b)\/(∃C,c=.ref C/\PySem.W.kitOne K t (.ref C)=some b))
theorem aMn:eS X (.builtin "isinstance") (λxs H Q=>∃x c b,xs=[x,c]/\C6 X.K H x c b/\Q (.bl b) H):=by
 intro pins s σ H xs us Q I r h;obtain⟨x,c,b,rfl,⟨t,ty,hc⟩,q⟩:=h;obtain⟨u,w',rfl,rx,ry⟩:=vals2 r;rcases hc with ⟨T,rfl,e⟩|⟨C,rfl,e⟩
 ·cases ry;exact aFP I rx ty e λtk=>⟨.bl b,H,I.tok _,rfl,q⟩
 ·cases ry;exact aFP I rx ty e λtk=>⟨.bl b,H,I.tok _,rfl,q⟩
def W2(K:W.Frag):V->V->Hp->VK->Prop:=λx y H Q=>∃p xs i v,x=.ref p/\y=.int i/\bP K H p xs/\0<=i/\xs[i.toNat]?=some v/\Q v H
theorem aQF:O6 X (W2 X.K):=by
 intro pins s σ H x y v u Q I rx ry h;obtain⟨p,xs,i,z,rfl,rfl,hq,h0,he,q⟩:=h;cases rx;obtain⟨t,rfl⟩:=ry;obtain⟨az,r,pl,hz⟩:=I.list hq;obtain⟨w,ew,vh⟩:=r.get he;have hl:=r.length;have hn:=FT;have hi:i.toNat < xs.length:=(iZ.mp he).1;exact wpAny_getItem_list pl.isList h0 (by lia) (by simpa using ew) ⟨z,H,I,vh,q⟩
theorem fV{k:Nat}{A:Around}(hr:eX k A):A.units+9 < cLine:=by have:=hr.un;lia
end
section
variable{σ:St}{H:Hp}{nx bk ct:St->Hp->Prop}{rt:VK}{Q:VK}{QT:Bool->Hp->Prop}{QA:List V->Hp->Prop}{QG:St->Hp->Prop}
theorem aT{t:TS}{D:Ends}{σ σ':St}(e:σ'=σ)(h:t D σ H):t D σ' H:=e▸h
theorem Y6{u:TS}(h:t ⟨u ⟨nx,rt,bk,ct⟩,rt,bk,ct⟩ σ H):Hi t u ⟨nx,rt,bk,ct⟩ σ H:=h
theorem aOk(h:nx σ H):Pp ⟨nx,rt,bk,ct⟩ σ H:=h
theorem aQG(h:te σ H λx H1=>g x σ H1 nx):CJ te g ⟨nx,rt,bk,ct⟩ σ H:=h
theorem aOl(h:te σ H λ_ H1=>nx σ H1):Po te ⟨nx,rt,bk,ct⟩ σ H:=h
theorem aQH(h:te σ H rt):OZ te ⟨nx,rt,bk,ct⟩ σ H:=h
theorem aQI(h:c σ H λb H1=>if b=true then t ⟨nx,rt,bk,ct⟩ σ H1 else u ⟨nx,rt,bk,ct⟩ σ H1):OY c t u ⟨nx,rt,bk,ct⟩ σ H:=h
theorem aQJ{i j:Nat}{ta:TA}(h:ta σ H λvs H1=>∃v w,vs=[v,w]/\nx ((σ.set i (some v)).set j (some w)) H1):O8 i j ta ⟨nx,rt,bk,ct⟩ σ H:=h
theorem FQ{i:Nat}(e:σ[i]?=some (some x))(h:te σ H λy H1=>ti x y H1 λz H2=>nx (σ.set i (some z)) H2):O7 i te ti ⟨nx,rt,bk,ct⟩ σ H:=⟨x,e,h⟩
theorem aOm{ub:V->V->Hp->VK->Prop}(h:to σ H λo H1=>ti σ H1 λi H2=>ub o i H2 λx H3=>te σ H3 λy H4=>Bm x y H4 λz H5=>uw o i z H5 λH6=>nx σ H6):Pn to ti te ub Bm uw ⟨nx,rt,bk,ct⟩ σ H:=h
theorem aQK{g:TG}(h:wi σ H λJ H1=>∃W:Nat->Nat->St->Hp->Prop,(∃m,W 0 m σ H1)/\∀i m σ H,W i m σ H->
 (J.stop i H/\nx σ H)\/(J.go i H/\∃N:St->Hp->Prop,(∀σ' H',N σ' H'->∃m',m' < m/\W (i+1) m' σ' H')/\∀x H',J.uy i H x H'->g x σ H' λσ2 H2=>tb ⟨N,rt,nx,N⟩ σ2 H2)):OS wi g tb ⟨nx,rt,bk,ct⟩ σ H:=h
theorem aMp{i:Nat}(e:σ.set i (some v)=σ')(h:QG σ' H):uR i v σ H QG:=by unfold uR;rw[e];exact h
theorem cM{K:W.Frag}{n:Nat}{t:Ar}{a:Addr}{xs:List V}(h1:gZ K H a xs)(h2:xs.length=n)(h:t xs σ H QG):Ll K n t (.ref a) σ H QG:=⟨a,xs,rfl,h1,h2,h⟩
theorem aOn(h:QG σ H):Lm [] σ H QG:=⟨rfl,h⟩
theorem aMq(h:t v σ H λσ' H'=>u r σ' H' QG):LC t u (v::r) σ H QG:=⟨v,r,rfl,h⟩
theorem aOo(h:to σ H λo H1=>ti σ H1 λi H2=>t o i v H2 λH3=>QG σ H3):OW to ti t v σ H QG:=h
theorem HL{xs:List V}{k:Int}{j:Nat}{QH:Hp->Prop}(h1:H p=some (.lst xs))(h2:uk xs.length k=some j)(h:QH (upd H p (.lst (xs.set j v)))):YM (.ref p) (.int k) v H QH:=⟨p,xs,k,j,rfl,rfl,h1,h2,h⟩
theorem aQL{K:W.Frag}{p:Addr}{xs:List V}{i:Int}{v:V}(h1:bP K H p xs)(h0:0<=i)(h2:xs[i.toNat]?=some v)(h:Q v H):W2 K (.ref p) (.int i) H Q:=⟨p,xs,i,v,rfl,rfl,h1,h0,h2,h⟩
theorem aQM{f:Int->Int->Int}{i j:Int}(h:Q (.int (f i j)) H):Nh f (.int i) (.int j) H Q:=⟨i,j,rfl,rfl,h⟩
theorem aQN{i:Nat}(e:σ[i]?=some (some v))(h:Q v H):O3 i σ H Q:=⟨v,e,h⟩
theorem aSC(h:Q v H):tC v σ H Q:=h
theorem aRW(h:ta σ H λx H1=>tb σ H1 λy H2=>r x y H2 Q):Bn r ta tb σ H Q:=h
theorem aRX{r:V->Hp->VK->Prop}(h:ta σ H λx H1=>r x H1 Q):MI r ta σ H Q:=h
theorem aQO{g:Int->Int->V}{i j:Int}(h:Q (g i j) H):AX g (.int i) (.int j) H Q:=⟨i,j,rfl,rfl,h⟩
theorem aRY{C:Int->Int->Prop}{g:Int->Int->V}{i j:Int}(c:C i j)(h:Q (g i j) H):rI C g (.int i) (.int j) H Q:=⟨i,j,rfl,rfl,c,h⟩
theorem aRZ{g:Int->V}{i:Int}(h:Q (g i) H):rU g (.int i) H Q:=⟨i,rfl,h⟩
theorem aOp{i j:Int}(h:Q (.int (i+j)) H):Pe (.int i) (.int j) H Q:=.inl ⟨i,j,rfl,rfl,h⟩
theorem mR{xs zs:List V}(h1:H l=some (.lst xs))(h2:H b=some (.lst zs))(hz:xs.length+zs.length<=sizeLine)(h:∀p,H p=none->Q (.ref p) (upd H p (.lst (xs++zs)))):Pe (.ref l) (.ref b) H Q:=.inr ⟨l,b,xs,zs,rfl,rfl,h1,h2,hz,h⟩
theorem ZQ{i j:Int}(c:FC i j)(h:Q (.int (i*j)) H):YH (.int i) (.int j) H Q:=.inl ⟨i,j,rfl,rfl,c,h⟩
theorem aQP{K:W.Frag}{x y:V}(h1:qR x=true)(h2:qR y=true)(h:Q (.bl (!eqV x y)) H):BA K x y H Q:=⟨_,.inl ⟨h1,h2,rfl⟩,h⟩
theorem rW{K:W.Frag}{p:Addr}{xs:List V}{i:Int}{v:V}(h1:bP K H p xs)(h2:lT xs i=some v)(h:Q v H):Kb K (.ref p) (.int i) H Q:=.inl ⟨p,xs,i,v,rfl,rfl,h1,h2,h⟩
theorem aQQ{K:W.Frag}{p:Addr}{xs:List V}{i:Int}{v:V}(h1:gZ K H p xs)(h2:lT xs i=some v)(h:Q v H):Kb K (.ref p) (.int i) H Q:=.inr (.inl ⟨p,xs,i,v,rfl,rfl,h1,h2,h⟩)
theorem aR0{r:V->Option Int->Option Int->Hp->VK->Prop}(h:te σ H λx H1=>tl σ H1 λl H2=>th σ H2 λu H3=>r x l u H3 Q):MJ r te tl th σ H Q:=h
theorem aK9{QO:Option Int->Hp->Prop}(h:QO none H):Qb σ H QO:=h
theorem aOq{QO:Option Int->Hp->Prop}(h:t σ H λx H1=>∃i,x=.int i/\QO (some i) H1):Py t σ H QO:=h
theorem zU{K:W.Frag}{a:Addr}{xs:List V}{lo hi:Option Int}(h1:bP K H a xs)(h:∀p,H p=none->Q (.ref p) (upd H p (.lst (kZ xs lo hi)))):DT K (.ref a) lo hi H Q:=.inl ⟨a,xs,rfl,h1,h⟩
theorem aOr(h:ta σ H λx H1=>∃c,x=.bl c/\if c=true then tb σ H1 Q else Q (.bl false) H1):Pu ta tb σ H Q:=h
theorem aQR(h:ta σ H λx H1=>∃c,x=.bl c/\if c=true then Q (.bl true) H1 else tb σ H1 Q):O0 ta tb σ H Q:=h
theorem aOs(h:ta σ H λx H1=>∃c,x=.bl c/\Q (.bl (!c)) H1):Pr ta σ H Q:=h
theorem aQS{t:TT}{ta tb:TE}(h:t σ H λc H1=>if c=true then ta σ H1 Q else tb σ H1 Q):ML t ta tb σ H Q:=h
theorem aMr(h:ta σ H λx H1=>tb σ H1 λy H2=>r x y H2 λz H3=>∃k,z=.bl k/\(if k=true then tc σ H3 λw' H4=>r' y w' H4 Q else Q (.bl false) H3)):P5 r r' ta tb tc σ H Q:=h
theorem aOt(h:t σ H λx H'=>∃k,x=.bl k/\QT k H'):Pl t σ H QT:=h
theorem aR1(h:t σ H λx H'=>∃k,x=.bl k/\QT k H'):tB t σ H QT:=h
theorem aQT(h:t σ H λc H1=>if c=true then u σ H1 QT else QT false H1):O2 t u σ H QT:=h
theorem aR2(h:t σ H λc H1=>if c=true then QT true H1 else u σ H1 QT):MK t u σ H QT:=h
theorem aQU(h:t σ H λc H1=>QT (!c) H1):O1 t σ H QT:=h
theorem aQV(h:QT true H):OT σ H QT:=h
theorem aR3{b:Bool}{P:Bool->Prop}(h:P b):∃k,V.bl b=V.bl k/\P k:=⟨b,rfl,h⟩
theorem aOu{i:Int}{P:Int->Prop}(h:P i):∃k,V.int i=V.int k/\P k:=⟨i,rfl,h⟩
theorem aR4{i:Int}{P:Int->Prop}(h:P i):∃k,[V.int i]=[V.int k]/\P k:=⟨i,rfl,h⟩
theorem aR5{i j:Int}{P:Int->Int->Prop}(h:P i j):∃k l,[V.int i,V.int j]=[V.int k,V.int l]/\P k l:=⟨i,j,rfl,h⟩
theorem aQW(h:QA [] H):jX σ H QA:=h
theorem aOv(h:ta σ H λx H1=>tr σ H1 λxs H2=>QA (x::xs) H2):bM ta tr σ H QA:=h
theorem aQX(h:t σ H λxs H1=>xs.length<=sizeLine/\∀p,H1 p=none->Q (.ref p) (upd H1 p (.tup xs))):Bf t σ H Q:=h
theorem aQY(h:t σ H λxs H1=>xs.length<=sizeLine/\∀p,H1 p=none->Q (.ref p) (upd H1 p (.lst xs))):zR t σ H Q:=h
theorem aOw(h:t σ H λvs H1=>sp vs H1 Q E):FE sp [] E t σ H Q:=by
 unfold FE;simpa only [BI] using h
theorem aR6{r:List V->Hp->VK->Prop}(h:t σ H λvs H1=>r vs H1 Q):Dj r t σ H Q:=h
theorem aOx{k:Nat}{idx:List Nat}(h:wi σ H λJ H1=>lU J (zo k idx σ) g tt te (λys H'=>∀p,H' p=none->Q (.ref p) (upd H' p (.lst ys))) H1):Ho wi k idx g tt te σ H Q:=h
theorem aMs{R:It->Hp->Prop}(h:ta σ H λvs H1=>∃j:Int,vs=[.int j]/\-(2 ^ 62)<=j/\j < 2 ^ 62/\R (yg 0 j.toNat) H1):LA ta σ H R:=h
theorem aMt{R:It->Hp->Prop}(h:ta σ H λvs H1=>∃i j:Int,vs=[.int i,.int j]/\(-(2 ^ 62)<=i/\i < 2 ^ 62/\-(2 ^ 62)<=j/\j < 2 ^ 62)/\R (yg i (j - i).toNat) H1):Lz ta σ H R:=h
theorem aQZ{K:W.Frag}{ta:TE}{f:Str}(h:ta σ H λx H1=>∃a C dx fs v,x=.ref a/\H1 a=some (.ins C dx fs)/\su K C/\dU K C f/\fs.lookup f=some v/\Q v H1):OQ K ta f σ H Q:=h
theorem aOy{n:Nat}{P:Prop}(h1:n<=sizeLine)(h:P):n<=sizeLine/\P:=⟨h1,h⟩
theorem bV{n:Nat}(h:n<=16777216):n<=sizeLine:=by rw[xx];exact h
end
section
variable{A B:Prop}{c:Prop}[Decidable c]
theorem cB(h1:c->A)(h2:¬c->B):if decide c=true then A else B:=by
 by_cases h:c
 ·rw[cT (ur h)];exact h1 h
 ·rw[cD (by simpa using h)];exact h2 h
theorem aOz(h1:¬c->A)(h2:c->B):if (!decide c)=true then A else B:=by
 by_cases h:c
 ·rw[cD (by simpa using h)];exact h2 h
 ·rw[cT (by simpa using h)];exact h1 h
theorem iP{b:Bool}(h1:b=true->A)(h2:b=false->B):if b=true then A else B:=by
 cases b
 ·exact Li (h2 rfl)
 ·exact OU (h1 rfl)
end
def YG(sc:Scope)(NX:ah)(scope:Scope)(N:ah)(k:Nat)(idx:List Nat):Bool:=
 scope.names.all (λy=>!(y.2 == .cell)) && scope.names.all (λy=>!(y.2 == .local) || scope.names.lookup y.1 == some .local) &&
 scope.names.all (λy=>!(y.2 == .free) || (sc.names.lookup y.1 == some .cell || sc.names.lookup y.1 == some .free)) &&
 decide N.Nodup && decide (N.length=k+idx.length) && (List.range idx.length).all λi=>
  match (N.drop k)[i]?,idx[i]? with
  |some x,some j=>decide (NX[j]?=some x) && scope.names.lookup x == some .free
  |_,_=>false
theorem bY{X:Cx}{scope:Scope}{k:Nat}{idx:List Nat}(hsc:X.env.scope=sc)(hN:X.N=NX)(hk:scope.kind=.function)(h:YG sc NX scope N k idx=true):fM X scope N k idx:=by
 unfold YG at h;simp only[yc,decide_eq_true_eq] at h;obtain⟨⟨⟨⟨⟨h1,h2⟩,h3⟩,h4⟩,h5⟩,h6⟩:=h;rw[F2] at h1 h2 h3 h6;refine⟨hk,λy hy e=>?_,λy hy e=>?_,λy hy e=>?_,h4,h5,λi x e=>?_⟩
 ·have:=h1 y hy;rw[e] at this;simp at this
 ·have:=h2 y hy;rw[e] at this;simpa using this
 ·have:=h3 y hy;rw[e] at this;show X.env.scope.names.lookup y.1=_\/X.env.scope.names.lookup y.1=_;rw[hsc];simpa using this
 ·have hi:i < (N.drop k).length:=(iZ.mp e).1;have NK:i < idx.length:=by rw[F3] at hi;lia
  have q:=h6 i (Bj.mpr NK);rw[e,dM NK] at q;simp only[yc,decide_eq_true_eq] at q;exact⟨idx[i],dM NK,by rw[hN];exact q.1,by simpa using q.2⟩
theorem bG{H:Hp}{a b:Addr}{o:HO}(h':H b=none)(h:H a=some o):a≠b:=bU h h'
theorem aR.at(e:aR H H')(h:H b=some o):H' b=some o:=e b o h
def cI(p:Addr)(H H':Hp):Prop:=∀b o,H b=some o->b≠p->H' b=some o
theorem cI.at(e:cI p H H')(h:H b=some o)(n:b≠p):H' b=some o:=e b o h n
theorem aR.new(h:H p=none):aR H (upd H p o):=λb u e=>by rw[bA (bU e h)];exact e
theorem cI.upd:cI p H (upd H p o):=λb u e n=>by rw[bA n];exact e
theorem cI.trans(a:cI p H H1)(b:cI p H1 H2):cI p H H2:=λc o h n=>b c o (a c o h n) n
theorem aR.keep(a:aR H H'):cI p H H':=λc o h _=>a c o h
section
variable{σ:St}{H:Hp}{nx bk ct:St->Hp->Prop}{rt:VK}
theorem fH{t u:TS}(J:St->Hp->Prop)(h1:∀N:St->Hp->Prop,(∀σ' H',J σ' H'->N σ' H')->t ⟨N,rt,bk,ct⟩ σ H)(h2:∀σ' H',J σ' H'->u ⟨nx,rt,bk,ct⟩ σ' H'):Hi t u ⟨nx,rt,bk,ct⟩ σ H:=h1 _ h2
end
theorem QD{K:W.Frag}{a:Addr}{xs:List V}{σ₀:St}{g:TG}{tt:TT}{te:TE}{R:List V->Hp->Prop}{H:Hp}(f:V->V)(hS:bP K H a xs)(hz:xs.length<=sizeLine)
  (hs:∀x (N:V->Hp->Prop) (N':Hp->Prop),x∈xs->N (f x) H->g x σ₀ H λσ2 H2=>tt σ2 H2 λb H3=>if b=true then te σ2 H3 λy H4=>N y H4 else N' H3)
  (hd:R (xs.map f) H):lU (yh K a) σ₀ g tt te R H:=by
 refine dF (λi ys H'=>H'=H/\ys=(xs.take i).map f) ⟨rfl,by simp⟩ hz (λi ys H' hi z1q=>?_) (λi x ys H' hx z2q=>?_) (λys H' z3q=>?_)
 ·obtain⟨e1,e2⟩:=z1q;subst e1 e2;exact⟨hS,by simp;lia⟩
 ·obtain⟨e1,e2⟩:=z2q;subst e1 e2;refine hs x (λy H4=>H4=H'/\(xs.take i).map f ++ [y]=(xs.take (i+1)).map f) (λH3=>H3=H'/\(xs.take i).map f=(xs.take (i+1)).map f) (jW hx) ⟨rfl,?_⟩;rw[BK,hx,gR];rfl
 ·obtain⟨e1,e2⟩:=z3q;subst e1 e2;rw[mq];exact hd
theorem aJd{lo:Int}{n:Nat}{g:TG}{R:List V->Hp->Prop}(f:Nat->V)(hz:n<=sizeLine)(hs:∀i (N:V->Hp->Prop) (N':Hp->Prop),i < n->N (f i) H->g (.int (lo+i)) σ₀ H λσ2 H2=>tt σ2 H2 λb H3=>if b=true then te σ2 H3 λy H4=>N y H4 else N' H3)(hd:R ((List.range n).map f) H):lU (yg lo n) σ₀ g tt te R H:=by
 refine iS (λi ys H'=>H'=H/\ys=(List.range i).map f) ⟨rfl,by simp⟩ hz (λi ys H' hi z4q=>?_) (λi ys H' hi z5q=>?_) (λys H' z6q=>?_)
 ·obtain⟨e1,e2⟩:=z4q;subst e1 e2;simp
 ·obtain⟨e1,e2⟩:=z5q;subst e1 e2;refine hs i (λy H4=>H4=H'/\(List.range i).map f ++ [y]=(List.range (i+1)).map f) (λH3=>H3=H'/\(List.range i).map f=(List.range (i+1)).map f) hi ⟨rfl,?_⟩;rw[List.range_succ,gR];rfl
 ·obtain⟨e1,e2⟩:=z6q;subst e1 e2;exact hd
theorem aOA{X:Cx}{n:Int}(hg:Gl X x)(hm:∃t,X.mg x=some (.int n t))(hd:(x == ("__debug__" : Str))=false:=by decide):PE X (.Name x pos) (tC (.int n)):=by
 obtain⟨t,hm⟩:=hm;exact ZN (v:=.int n) hg hm ⟨t,rfl⟩ hd
section
variable{X:Cx}{K:W.Frag}{H:Hp}{Q:VK}
def mS(K:W.Frag):List V->Hp->VK->Prop:=λxs H Q=>∃x n,xs=[x]/\Yw K x H n/\Q (.int n) H
theorem cO:eS X (.builtin "len") (mS X.K):=aLW
theorem aOB{xs:List V}(h:bP K H p xs)(q:Q (.int xs.length) H):mS K [.ref p] H Q:=⟨_,_,rfl,.inl ⟨_,h,rfl⟩,q⟩
theorem aOC{xs:List V}(h:gZ K H p xs)(q:Q (.int xs.length) H):mS K [.ref p] H Q:=⟨_,_,rfl,.inr ⟨_,h,rfl⟩,q⟩
def YA:List V->Hp->VK->Prop:=λxs H Q=>∃i,xs=[.int i]/\Q (.int (if i < 0 then -i else i)) H
theorem aLa:eS X (.builtin "abs") YA:=aLV
theorem aQ0{i:Int}(h:Q (.int (if i < 0 then -i else i)) H):YA [.int i] H Q:=⟨i,rfl,h⟩
def Yz:List V->Hp->VK->Prop:=λxs H Q=>∃i j,xs=[.int i,.int j]/\Q (.int (if j > i then j else i)) H
theorem fN(hc:X.calm=true):eS X (.builtin "max") Yz:=aKU hc
theorem aQ1{i j:Int}(h:Q (.int (max i j)) H):Yz [.int i,.int j] H Q:=⟨i,j,rfl,by
 rw[show(if j > i then j else i)=max i j by split <;> lia];exact h⟩
def Yy:List V->Hp->VK->Prop:=λxs H Q=>∃i j,xs=[.int i,.int j]/\Q (.int (if j < i then j else i)) H
theorem jY(hc:X.calm=true):eS X (.builtin "min") Yy:=aKV hc
theorem aQ2{i j:Int}(h:Q (.int (min i j)) H):Yy [.int i,.int j] H Q:=⟨i,j,rfl,by
 rw[show(if j < i then j else i)=min i j by split <;> lia];exact h⟩
def YF:List V->Hp->VK->Prop:=λxs H Q=>(∃i,xs=[.int i]/\Q (.int i) H)\/∃k,xs=[.bl k]/\Q (.int (if k then 1 else 0)) H
theorem aLb:eS X (.type "int") YF:=aKW
theorem aOD{b:Bool}(h:Q (.int (if b then 1 else 0)) H):YF [.bl b] H Q:=.inr ⟨b,rfl,h⟩
def Bz(K:W.Frag):List V->Hp->VK->Prop:=λxs H Q=>∃x c b,xs=[x,c]/\C6 K H x c b/\Q (.bl b) H
theorem jZ:eS X (.builtin "isinstance") (Bz X.K):=aMn
theorem zV{b:Bool}(h1:C6 K H x c b)(h:Q (.bl b) H):Bz K [x,c] H Q:=⟨x,c,b,rfl,h1,h⟩
def HK(K:W.Frag):List V->Hp->VK->Prop:=λxs H Q=>∃p ys,xs=[.ref p]/\(bP K H p ys\/gZ K H p ys)/\∀l,H l=none->Q (.ref l) (upd H l (.lst ys))
theorem zW:eS X (.type "list") (HK X.K):=aGB
theorem Qs(h1:bP K H p ys)(h:∀l,H l=none->Q (.ref l) (upd H l (.lst ys))):HK K [.ref p] H Q:=⟨p,ys,rfl,.inl h1,h⟩
end
theorem Qh{K:W.Frag}{H:Hp}{p q:Addr}{xs:List V}(h1:bP K H p xs)(h2:bP K H q []):BQ K H 8 (.ref p) (.ref q) xs.isEmpty:=
 .inr ⟨p,q,xs,[],λ_=>true,rfl,rfl,.inl ⟨h1,h2⟩,λj u v _ e=>by simp at e,by cases xs <;> simp⟩
theorem aMu{xs:List V}{n:Nat}(h:xs.length<=n):kZ xs none (some (n:Int))=xs:=by
 unfold kZ;rw[HT.Qw,HT.Qc,Nat.min_eq_right h,yy,HP,mq]
section
variable{σ:St}{H:Hp}{nx:St->Hp->Prop}{rt:VK}{g:TG}{tb:TS}{Q:VK}
theorem lD{lo:Int}{n:Nat}(Pv:Nat->St->Hp->Prop)(h0:Pv 0 σ H)
  (hs:∀i σ H,i < n->Pv i σ H->g (.int (lo+i)) σ H λσ2 H2=>tb ⟨Pv (i+1),rt,nx,Pv (i+1)⟩ σ2 H2) (hd:∀σ H,Pv n σ H->nx σ H) :
  ∃W:Nat->Nat->St->Hp->Prop,(∃m,W 0 m σ H)/\∀i m σ H,W i m σ H->
   ((yg lo n).stop i H/\nx σ H)\/((yg lo n).go i H/\∃N:St->Hp->Prop,(∀σ' H',N σ' H'->∃m',m' < m/\W (i+1) m' σ' H')/\∀x H',(yg lo n).uy i H x H'->g x σ H' λσ2 H2=>tb ⟨N,rt,nx,N⟩ σ2 H2):=
 aKS (D:=⟨nx,rt,λ_ _=>False,λ_ _=>False⟩) Pv h0 hs hd
theorem xE{K:W.Frag}{a:Addr}{xs:List V}(Pv:Nat->St->Hp->Prop)(h0:Pv 0 σ H)(hl:∀i σ H,i<=xs.length->Pv i σ H->bP K H a xs)
  (hs:∀i x σ H,xs[i]?=some x->Pv i σ H->g x σ H λσ2 H2=>tb ⟨Pv (i+1),rt,nx,Pv (i+1)⟩ σ2 H2) (hd:∀σ H,Pv xs.length σ H->nx σ H) :
  ∃W:Nat->Nat->St->Hp->Prop,(∃m,W 0 m σ H)/\∀i m σ H,W i m σ H->
   ((yh K a).stop i H/\nx σ H)\/((yh K a).go i H/\∃N:St->Hp->Prop,(∀σ' H',N σ' H'->∃m',m' < m/\W (i+1) m' σ' H')/\∀x H',(yh K a).uy i H x H'->g x σ H' λσ2 H2=>tb ⟨N,rt,nx,N⟩ σ2 H2):=
 aLS (D:=⟨nx,rt,λ_ _=>False,λ_ _=>False⟩) Pv h0 hl hs hd
theorem aQ3{K:W.Frag}{a:Addr}{xs:List V}(Pv:Nat->St->Hp->Prop)(h0:Pv 0 σ H)(hl:∀i σ H,i<=xs.length->Pv i σ H->gZ K H a xs)
  (hs:∀i x σ H,xs[i]?=some x->Pv i σ H->g x σ H λσ2 H2=>tb ⟨Pv (i+1),rt,nx,Pv (i+1)⟩ σ2 H2) (hd:∀σ H,Pv xs.length σ H->nx σ H) :
  ∃W:Nat->Nat->St->Hp->Prop,(∃m,W 0 m σ H)/\∀i m σ H,W i m σ H->
   ((Au K a).stop i H/\nx σ H)\/((Au K a).go i H/\∃N:St->Hp->Prop,(∀σ' H',N σ' H'->∃m',m' < m/\W (i+1) m' σ' H')/\∀x H',(Au K a).uy i H x H'->g x σ H' λσ2 H2=>tb ⟨N,rt,nx,N⟩ σ2 H2):=
 aNU (D:=⟨nx,rt,λ_ _=>False,λ_ _=>False⟩) Pv h0 hl hs hd
theorem aQ4{K:W.Frag}{i j:Int}(h:Q (.bl (decide (i=j))) H):iJ K (.int i) (.int j) H Q:=⟨_,.inl ⟨rfl,rfl,rfl⟩,h⟩
theorem aQ5{K:W.Frag}{i j:Int}(h:Q (.bl (!decide (i=j))) H):BA K (.int i) (.int j) H Q:=⟨_,.inl ⟨rfl,rfl,rfl⟩,h⟩
end
def noStar:Expr->Bool
 |.Starred _ _=>false
 |_=>true
theorem bW(h:noStar e=true):starEach (e::es) env=(false,eval e env)::starEach es env:=by
 cases e <;> first|rfl|exact absurd h oh
theorem jE:∀{es:List Expr},es.all noStar=true->(backTo pos (starEach es env)).any (·.1)=false
 |[],_=>rfl
 |e::es,h=>by
  rw[List.all_cons,yc] at h;rw[bW h.1];have ih:=jE (env:=env) (pos:=pos) h.2;unfold backTo at ih ⊢;rw[jz,List.any_cons];rw[ih];rfl
section
variable{X:Cx}{CX:yi}{k:Nat}{f C:Addr}{fd:FuncData}{ps:ah}{sp:Sp}{ic:List V}{ds:aj}{E:XK}{x m:Str}{p pos apos:Pos}{e o:Expr}{es:List Expr}{ta te:TE}{t:TA}
theorem gQ(ha:PE X e te)(hr:PA X es t)(hs:noStar e=true:=by rfl):PA X (e::es) (bM te t):=aN0 ha hr (bW hs)
theorem iK{es:List Expr}(h:(e::es).all noStar=true):noStar e=true/\es.all noStar=true:=by
 rw[List.all_cons,yc] at h;exact h
theorem aMv(F:bQ X.prog X.w X.K X.mg X.base CX k f fd ps sp)(hr:eX k X.A)(hg:Gl X x)(hm:X.mg x=some (.ref f))(hk:W.keepIn X.K (.ref f)=true)(hb:Binds X.K fd ps ds)(hd:Vals ic ds)(hx:Passes CX X E)
  (ha:PA X (e::es) t) (hn:(e::es).all noStar=true:=by rfl) (jx:(x == ("__debug__" : Str))=false:=by decide):PE X (.Call (.Name x p) (e::es) [] pos) (FE sp ic E t):=
 aN1 F hr hg hm hk hb hd hx ha jx (bW (iK hn).1) (jE (iK hn).2)
theorem aMw(M:Mk X.K C f)(F:bQ X.prog X.w X.K X.mg X.base CX k f fd ps sp)(hr:eX (k+1) X.A)(hg:Gl X x)(hm:X.mg x=some (.ref C))(hb:Binds X.K fd ps ds)(hd:Vals ic ds)(hx:Passes CX X E)
  (ha:PA X (e::es) t) (hn:(e::es).all noStar=true:=by rfl) (jx:(x == ("__debug__" : Str))=false:=by decide):PE X (.Call (.Name x p) (e::es) [] pos) (Ht C sp ic E t):=
 aN3 M F hr hg hm hb hd hx ha jx (bW (iK hn).1) (jE (iK hn).2)
variable{id T:String}{r:List V->Hp->VK->Prop}
theorem aLc(hc:eS X (.builtin id) r)(hg:Gl X x)(hm:X.mg x=none)(hv:bootBuiltins x=some (.builtin id))(ha:PA X (e::es) t)(hn:(e::es).all noStar=true:=by rfl)(cq:x≠"__name__":=by decide)(jx:(x == ("__debug__" : Str))=false:=by decide) :
  PE X (.Call (.Name x p) (e::es) [] pos) (Dj r t):=aL2 hc hg hm hv ha cq jx (bW (iK hn).1) (jE (iK hn).2)
theorem aJe(hc:eS X (.type T) r)(hg:Gl X x)(hm:X.mg x=none)(hv:bootBuiltins x=some (.type T))(ha:PA X (e::es) t)(hn:(e::es).all noStar=true:=by rfl)(cq:x≠"__name__":=by decide)(jx:(x == ("__debug__" : Str))=false:=by decide) :
  PE X (.Call (.Name x p) (e::es) [] pos) (Dj r t):=aK0 hc hg hm hv ha cq jx (bW (iK hn).1) (jE (iK hn).2)
variable{tg a b:Expr}
theorem aJf(hg:Gl X "range")(hm:X.mg "range" = none)(ha:PA X [a] t)(hn:noStar a=true:=by rfl):PI X tg (.Call (.Name "range" p) [a] [] pos) (LA t):=aKP hg hm ha (bW hn)
theorem aJg(hg:Gl X "range")(hm:X.mg "range" = none)(ha:PA X [a,b] t)(hn:noStar a=true:=by rfl)(tj:noStar b=true:=by rfl):PI X tg (.Call (.Name "range" p) [a,b] [] pos) (Lz t):=
 aKQ hg hm ha (by rw[bW hn,bW tj];rfl) (bW tj)
end
section
variable{X:Cx}{pos:Pos}{x1:Nat}{e1 e2 e3 e4 e5 e6 e7 e8:Expr}{t1 t2 t3 t4 t5 t6 t7 t8:TE}
theorem aSD(h1:PE X e1 t1)(n1:noStar e1=true:=by rfl):PE X (.List [e1] pos) (zR (bM t1 jX)):=zS (gQ h1 nF n1)
theorem aSE(h1:PE X e1 t1)(h2:PE X e2 t2)(n1:noStar e1=true:=by rfl)(n2:noStar e2=true:=by rfl):PE X (.List [e1,e2] pos) (zR (bM t1 (bM t2 jX))):=zS (gQ h1 (gQ h2 nF n2) n1)
theorem aSF{k1}(h1:PE X e1 t1)(h2:PE X e2 t2)(n1:noStar e1=true:=by rfl)(n2:noStar e2=true:=by rfl):PE X (.Tuple [e1,e2] k1 pos) (Bf (bM t1 (bM t2 jX))):=LH (gQ h1 (gQ h2 nF n2) n1)
theorem aSG(h1:PE X e1 t1)(h2:PE X e2 t2)(h3:PE X e3 t3)(n1:noStar e1=true:=by rfl)(n2:noStar e2=true:=by rfl)(n3:noStar e3=true:=by rfl):PE X (.List [e1,e2,e3] pos) (zR (bM t1 (bM t2 (bM t3 jX)))):=zS (gQ h1 (gQ h2 (gQ h3 nF n3) n2) n1)
theorem aSH{k1}(h1:PE X e1 t1)(h2:PE X e2 t2)(h3:PE X e3 t3)(n1:noStar e1=true:=by rfl)(n2:noStar e2=true:=by rfl)(n3:noStar e3=true:=by rfl):PE X (.Tuple [e1,e2,e3] k1 pos) (Bf (bM t1 (bM t2 (bM t3 jX)))):=LH (gQ h1 (gQ h2 (gQ h3 nF n3) n2) n1)
theorem aSI(h1:PE X e1 t1)(h2:PE X e2 t2)(h3:PE X e3 t3)(h4:PE X e4 t4)(n1:noStar e1=true:=by rfl)(n2:noStar e2=true:=by rfl)(n3:noStar e3=true:=by rfl)(n4:noStar e4=true:=by rfl):PE X (.List [e1,e2,e3,e4] pos) (zR (bM t1 (bM t2 (bM t3 (bM t4 jX))))):=zS (gQ h1 (gQ h2 (gQ h3 (gQ h4 nF n4) n3) n2) n1)
theorem aSJ{k1}(h1:PE X e1 t1)(h2:PE X e2 t2)(h3:PE X e3 t3)(h4:PE X e4 t4)(n1:noStar e1=true:=by rfl)(n2:noStar e2=true:=by rfl)(n3:noStar e3=true:=by rfl)(n4:noStar e4=true:=by rfl):PE X (.Tuple [e1,e2,e3,e4] k1 pos) (Bf (bM t1 (bM t2 (bM t3 (bM t4 jX))))):=LH (gQ h1 (gQ h2 (gQ h3 (gQ h4 nF n4) n3) n2) n1)
theorem aSK(h1:PE X e1 t1)(h2:PE X e2 t2)(h3:PE X e3 t3)(h4:PE X e4 t4)(h5:PE X e5 t5)(n1:noStar e1=true:=by rfl)(n2:noStar e2=true:=by rfl)(n3:noStar e3=true:=by rfl)(n4:noStar e4=true:=by rfl)(n5:noStar e5=true:=by rfl):PE X (.List [e1,e2,e3,e4,e5] pos) (zR (bM t1 (bM t2 (bM t3 (bM t4 (bM t5 jX)))))):=zS (gQ h1 (gQ h2 (gQ h3 (gQ h4 (gQ h5 nF n5) n4) n3) n2) n1)
theorem aSL{k1}(h1:PE X e1 t1)(h2:PE X e2 t2)(h3:PE X e3 t3)(h4:PE X e4 t4)(h5:PE X e5 t5)(n1:noStar e1=true:=by rfl)(n2:noStar e2=true:=by rfl)(n3:noStar e3=true:=by rfl)(n4:noStar e4=true:=by rfl)(n5:noStar e5=true:=by rfl):PE X (.Tuple [e1,e2,e3,e4,e5] k1 pos) (Bf (bM t1 (bM t2 (bM t3 (bM t4 (bM t5 jX)))))):=LH (gQ h1 (gQ h2 (gQ h3 (gQ h4 (gQ h5 nF n5) n4) n3) n2) n1)
theorem aSM(h1:PE X e1 t1)(h2:PE X e2 t2)(h3:PE X e3 t3)(h4:PE X e4 t4)(h5:PE X e5 t5)(h6:PE X e6 t6)(h7:PE X e7 t7)(n1:noStar e1=true:=by rfl)(n2:noStar e2=true:=by rfl)(n3:noStar e3=true:=by rfl)(n4:noStar e4=true:=by rfl)(n5:noStar e5=true:=by rfl)(n6:noStar e6=true:=by rfl)(n7:noStar e7=true:=by rfl):PE X (.List [e1,e2,e3,e4,e5,e6,e7] pos) (zR (bM t1 (bM t2 (bM t3 (bM t4 (bM t5 (bM t6 (bM t7 jX)))))))):=zS (gQ h1 (gQ h2 (gQ h3 (gQ h4 (gQ h5 (gQ h6 (gQ h7 nF n7) n6) n5) n4) n3) n2) n1)
end
section
variable{X:Cx}{pins:au}{σ:St}{H:Hp}{s:Shared}{h':Heap}
theorem Inv.xF{t':Nat}{ch:ay}{T:Addr}{o:HO}(I:Inv X pins σ H s)(k:∀b u,b∉ch->s.heap.get? b=some u->h'.get? b=some u)
  (va:∀b∈ch,xo X pins H b) (hT:s.heap.objs.size<=T) (new:cR X.prog X.w (upd H T o) h' T o):Inv X pins σ (upd H T o) { s with heap:=h',toks:=t' }:=by
 have hn:H T=none:=I.bf.fresh hT;have Cm:∀b u,H b=some u->b∉ch:=λb u e z=>by rw[(va b z).1] at e;cases e
 have neT:∀b u,H b=some u->b≠T:=λb u e=>bU e hn;refine I.step (g':=s.gens) (d':=s.drawn) (ch:=ch) (λb hb=>?_) (λb u _ _ hc e _=>k b u hc e) (λb u _ _ hc e _=>⟨u.slots,k b u hc e⟩) (λb u hc e n=>?_)
  (λb u hc e=>⟨u,k b u hc e⟩) (λb xs e=>?_) (λb u v e=>?_) (λb ps e=>⟨#[],?_⟩) (λm hm=>?_) (λb u e=>?_) I.bare
 ·obtain⟨f0,f1,f2,f3,f4,f5⟩:=va b hb;exact⟨f3,f1,f4,f5⟩
 ·rw[bA (rR (rQ (iM e) hT))];exact n
 ·rw[bA (neT _ _ e)];exact e
 ·rw[bA (neT _ _ e)];exact e
 ·rw[bA (neT _ _ e),e];simp
 ·obtain⟨u,es,ep,ho,r⟩:=hm;exact⟨u,es,ep,k _ u (λz=>(va _ z).2.1 rfl) ho,r⟩
 ·by_cases hb:b=T
  ·subst hb;rw[aP] at e;cases e;exact new
  ·rw[bA hb] at e;refine(I.bf b u e).zt (λc v hc q=>k c v ?_ q) (λc q=>by rw[bA (bU q hn)];exact q) λc xs _ q=>by rw[bA (bU q hn)];exact q
   rcases hc with z|z
   ·rw[z];exact Cm b u e
   ·exact Cm c _ z
end
def Ed(K:W.Frag)(a:Addr):It:=
 ⟨λi H=>∃xs x,bP K H a xs/\xs[i]?=some x,λi H x H'=>∃T v,H T=none/\x=.ref T/\H'=upd H T (.tup [.int i,v])/\∀xs,bP K H a xs->xs[i]?=some v,λi H=>∃xs,bP K H a xs/\xs.length<=i⟩
theorem aLd{P:Program}{w:World}{K:W.Frag}{elts:List Expr}{x1:Nat}{tp:Pos}(a e it:Addr)(Wv:e≠it) :
  Turn P w K (.Tuple elts x1 tp) (Ed K a) [e,it] e (λi h=>(∃old,IsEnum h e it ((i:Nat):Int) old)/\h.IsListIter it a i) where
 mem:=by simp
 obj:=λi h st b hb=>by
  obtain⟨⟨old,he⟩,st⟩:=st;rcases lR.mp hb with z|hb
  ·subst z;exact⟨_,he,λv z=>by cases z⟩
  ·have z:b=it:=by simpa using hb
   subst z;obtain⟨o,e,c,d⟩:=st;exact⟨o,e,λv z=>by rw[d] at z;cases z⟩
 keep:=λi h h' st k=>by
  obtain⟨⟨old,he⟩,st⟩:=st;exact⟨⟨old,k e (by simp) _ he⟩,st.at λo q=>k it (by simp) o q⟩
 item:=by
  intro X hP hw hK hc i pins s σ H E I hf st hg;subst hP hw hK;obtain⟨⟨old,he⟩,st⟩:=st;obtain⟨xs,x,hq,hx⟩:=hg;obtain⟨az,rv,p,hz⟩:=I.list hq;obtain⟨u,hu,ru⟩:=rv.get hx;have IH:e < s.heap.objs.size:=iM he;have B0:it < s.heap.objs.size:=by obtain⟨_,z,_⟩:=id st;exact iM z
  refine wpAny_pyNext_enum_item he st p.isList (x:=u) (by simpa using hu) Wv λh1 ho UJ hT hsz hk=>?_;refine⟨_,rfl,wpAny_letOwnedTupleGo_enum ho λh2 NP cj=>?_⟩
  replace cj:Heap.SameBut e h1 h2:=cj
  have um:h2.IsTuple s.heap.objs.size #[.int i s.toks,u]:=⟨_,(cj.2 _ (yx IH)).trans hT,rfl,_,rfl⟩
  have kk:∀b o,b∉[e,it]->s.heap.get? b=some o->h2.get? b=some o:=λb o hb q=>by
   have n1:b≠e:=λz=>hb (by simp[z]);have n2:b≠it:=λz=>hb (by simp[z]);exact(cj.2 b n1).trans (hk b o n1 n2 q)
  have I2:Inv X pins σ (upd H s.heap.objs.size (.tup [.int i,x])) { s with heap:=h2,toks:=s.toks+1 }:=
   I.xF kk hf (eO _) (show cR X.prog X.w _ h2 _ (.tup [.int i,x]) from⟨bV (by simp),[.int i s.toks,u],.cons ⟨_,rfl⟩ (.cons ru .nil),um⟩)
  have DL:H s.heap.objs.size=none:=I.bf.fresh (eO _);refine⟨.ref s.heap.objs.size,_,I2,rfl,⟨_,x,DL,rfl,rfl,λys hy=>by rw[I.uP hy hq];exact hx⟩,⟨⟨u,?_⟩,?_⟩,λb hb=>?_⟩
  ·have e1:((i+1:Nat):Int)=(i:Int)+1:=by push_cast;rfl
   rw[e1];exact NP
  ·exact UJ.at λo q=>(cj.2 it Wv.symm).trans q
  ·have fh:b < s.heap.objs.size:=by
    rcases lR.mp hb with z|hb
    ·rw[z];exact IH
    ·rw[show b=it by simpa using hb];exact B0
   rw[bA (rR fh)];exact(hf b hb).1
 done:=by
  intro X hP hw hK hc i pins s σ H E I hf st hg;subst hP hw hK;obtain⟨⟨old,he⟩,st⟩:=st;obtain⟨xs,hq,hx⟩:=hg;obtain⟨az,rv,p,hz⟩:=I.list hq;obtain⟨f0,f1,f2,f3,f4,f5⟩:=hf it (by simp);have hl:=rv.length;exact wpAny_pyNext_enum_end (I.ok.hd hc) he st p.isList (by simp;lia) λh' eb=>⟨rfl,I.turned (t':=s.toks) (λb o hb e=>eb b o hb e) f0 f1 f3 f4 f5⟩
 self:=λ_ _ _ _ _ st h=>by
  obtain⟨⟨old,he⟩,st⟩:=st;exact wpAny_pyIter_enum he h
section
variable{X:Cx}{elts:List Expr}{x1:Nat}{tp:Pos}
def Pd(K:W.Frag)(ta:TA):TI:=λσ H R=>ta σ H λvs H1=>∃a,vs=[.ref a]/\(∃xs,bP K H1 a xs)/\R (Ed K a) H1
theorem aOE{a:Expr}{ta:TA}{p pos:Pos}(hg:Gl X "enumerate")(hm:X.mg "enumerate" = none)(ha:PA X [a] ta)(hn:noStar a=true:=by rfl):PI X (.Tuple elts x1 tp) (.Call (.Name "enumerate" p) [a] [] pos) (Pd X.K ta):=by
 intro pins s σ H R I h;refine Call_ (lS I hg hm boot_enumerate (PyProof.Rows.callWith_type1 (eF (ha pos pins s σ H _ I h) λus s1 zq=>?_) (bW hn) rfl));obtain⟨vs,H1,I1,r1,q1⟩:=zq;obtain⟨l,e,⟨xs,hq⟩,q⟩:=q1;subst e;obtain⟨u,rfl,ru⟩:=vals1 r1;cases ru;obtain⟨az,rv,pl,hz⟩:=I1.list hq;refine call_enumerate_list pl.isList λh' he hit hsz hk=>?_;refine wpAny_pyIter_enum he ?_;refine⟨s1.heap.objs.size+1,[s1.heap.objs.size+1,s1.heap.objs.size],_,_,H1,rfl,I1.kept (t':=s1.toks) hk,aLd l _ _ (Nat.succ_ne_self _),⟨⟨_,he⟩,hit⟩,λb hb=>?_,q⟩;have hle:s1.heap.objs.size<=b:=by
  rcases lR.mp hb with z|hb
  ·rw[z];exact Nat.le_succ _
  ·rw[show b=s1.heap.objs.size by simpa using hb];exact eO _
 exact I1.Bg hle (I1.bf.fresh hle)
end
section
variable{σ:St}{H:Hp}{nx:St->Hp->Prop}{rt:VK}{g:TG}{tb:TS}{Q:VK}{K:W.Frag}
def EnQ(K:W.Frag)(R:It->Hp->Prop):List V->Hp->Prop:=λvs H1=>∃a,vs=[.ref a]/\(∃xs,bP K H1 a xs)/\R (Ed K a) H1
def LiQ(K:W.Frag)(R:It->Hp->Prop):V->Hp->Prop:=λx H1=>∃a,x=.ref a/\(∃xs,bP K H1 a xs)/\R (yh K a) H1
def TiQ(K:W.Frag)(R:It->Hp->Prop):V->Hp->Prop:=λx H1=>∃a,x=.ref a/\(∃xs,gZ K H1 a xs)/\R (Au K a) H1
theorem aMy{R:It->Hp->Prop}(h:ta σ H (EnQ K R)):Pd K ta σ H R:=h
theorem aLe{R:It->Hp->Prop}(h:tl σ H (LiQ K R)):Pm K tl σ H R:=h
theorem aMz{R:It->Hp->Prop}(h:tl σ H (TiQ K R)):O5 K tl σ H R:=h
theorem FK{R:It->Hp->Prop}(h1:bP K H a xs)(h:R (Ed K a) H):EnQ K R [.ref a] H:=⟨a,rfl,⟨xs,h1⟩,h⟩
theorem fO{R:It->Hp->Prop}(h1:bP K H a xs)(h:R (yh K a) H):LiQ K R (.ref a) H:=⟨a,rfl,⟨xs,h1⟩,h⟩
theorem YE{R:It->Hp->Prop}(h1:gZ K H a xs)(h:R (Au K a) H):TiQ K R (.ref a) H:=⟨a,rfl,⟨xs,h1⟩,h⟩
theorem xG{xs:List V}(Pv:Nat->St->Hp->Prop)(h0:Pv 0 σ H)(hl:∀i σ H,i<=xs.length->Pv i σ H->bP K H a xs)(hs:∀i x σ H T,xs[i]?=some x->Pv i σ H->H T=none->g (.ref T) σ (upd H T (.tup [.int i,x])) λσ2 H2=>tb ⟨Pv (i+1),rt,nx,Pv (i+1)⟩ σ2 H2)(hd:∀σ H,Pv xs.length σ H->nx σ H) :
  ∃W:Nat->Nat->St->Hp->Prop,(∃m,W 0 m σ H)/\∀i m σ H,W i m σ H->
   ((Ed K a).stop i H/\nx σ H)\/((Ed K a).go i H/\∃N:St->Hp->Prop,(∀σ' H',N σ' H'->∃m',m' < m/\W (i+1) m' σ' H')/\∀x H',(Ed K a).uy i H x H'->g x σ H' λσ2 H2=>tb ⟨N,rt,nx,N⟩ σ2 H2):=by
 refine⟨λi m σ H=>m=xs.length - i/\i<=xs.length/\Pv i σ H,⟨xs.length,by simp,qw _,h0⟩,?_⟩;rintro i m σ H ⟨rfl,hi,p⟩;have q:=hl i σ H hi p;by_cases fh:i < xs.length
 ·refine .inr ⟨⟨xs,xs[i],q,by simp[fh]⟩,Pv (i+1),λσ' H' p'=>⟨xs.length - (i+1),by lia,rfl,fh,p'⟩,λx H' y=>?_⟩;obtain⟨T,v,hT,e1,e2,y⟩:=y;subst e1 e2;exact hs i v σ H T (y xs q) p hT
 ·have e:i=xs.length:=by lia
  subst e;exact .inl ⟨⟨xs,q,eO _⟩,hd σ H p⟩
end
section
variable{X:Cx}
theorem aDP:∀{bs:List Bool}{us:aj},Vals (bs.map V.bl) us->us=bs.map Value.bool
 |[],_,.nil=>rfl
 |b::bs,_,.cons r t=>by cases r;rw[aDP t];rfl
def DS(K:W.Frag):List V->Hp->VK->Prop:=λxs H Q=>∃(p:Addr) (bs:List Bool),xs=[.ref p]/\bP K H p (bs.map V.bl)/\Q (.bl (bs.all id)) H
theorem xH(hc:X.calm=true):eS X (.builtin "all") (DS X.K):=by
 intro pins s σ H xs us Q I r h;obtain⟨p,bs,rfl,hq,q⟩:=h;obtain⟨u,rfl,rx⟩:=vals1 r;cases rx;obtain⟨az,r',pl,hz⟩:=I.list hq;have e:=aDP r';subst e;have hl:=pl.isList;have fh:p < s.heap.objs.size:=by obtain⟨_,e,_⟩:=id hl;exact iM e
 refine call_all_walk (wpAny_pyIter_list hl ?_);refine⟨s.heap.objs.size,[s.heap.objs.size,p],[s.heap.objs.size],(bs.map Value.bool).toArray.size,_,_,λi=>(bs[i]?).getD true,rfl,Walks.list (A:=X.A.in1) (I.ok.hd hc) _ p (rR fh) (bs.map Value.bool).toArray,
  ⟨⟨_,qP _ rfl,rfl,rfl⟩,hl.push _⟩,λi v s' Q' E' hP hQ=>?_,λh' tk hk=>?_⟩
 ·have GQ:(bs.map Value.bool)[i]?=some v:=by simpa using hP
  rw[nE] at GQ;cases hb:bs[i]? with
  |none=>rw[hb] at GQ;cases GQ
  |some b=>
   rw[hb] at GQ;cases GQ;simp only[hb,Option.getD_some] at hQ;exact wpAny_truthy_bool hQ
 ·have e:((List.range (bs.map Value.bool).toArray.size).all λi=>(bs[i]?).getD true)=bs.all id:=by
   rw[jT,bH];exact LSm.range_all bs
  rw[e];exact⟨.bl _,H,I.kept (t':=tk) (LSm.kept_iter hk),rfl,q⟩
theorem aQ6{K:W.Frag}{H:Hp}{Q:VK}{p:Addr}{bs:List Bool}(h1:bP K H p (bs.map V.bl))(h:Q (.bl (bs.all id)) H):DS K [.ref p] H Q:=⟨p,bs,rfl,h1,h⟩
end
section
variable{X:Cx}{o e:Expr}{to:TE}{t:TA}{apos bu:Pos}
theorem aQ7(ho:PE X o to)(ha:PA X [e] t)(hn:noStar e=true:=by rfl)(fk:attributeBase o "append" X.env (eval o X.env)=eval o X.env:=by rfl)(fj:(apos.endLine == bu.line)=true:=by rfl) :
  PE X (.Call (.Attribute o "append" apos) [e] [] bu) (EJ X.K "list" LS to t):=
 YL PySem.F.plainAttrs_list PySem.F.slot_list_append PySem.F.type_list_append aK1 ho ha fk (by rw[bW hn];rfl) fj (bW hn) (by rfl)
end
section
variable{K:W.Frag}{σ:St}{H:Hp}{Q:VK}
theorem aSa{r:V->List V->Hp->VK->Prop}{t:TA}(h:to σ H λx H1=>JY K T x H1/\t σ H1 λxs H2=>r x xs H2 Q):EJ K T r to t σ H Q:=h
theorem iT{P:Prop}(h:bP K H p xs)(q:P):JY K "list" (.ref p) H/\P:=⟨.inl ⟨rfl,xs,h⟩,q⟩
theorem j0{xs:List V}(h:H l=some (.lst xs))(hz:xs.length < sizeLine)(q:Q .bw (upd H l (.lst (xs ++ [y])))):LS (.ref l) [y] H Q:=⟨l,xs,y,rfl,rfl,h,hz,q⟩
end
section
variable{K:W.Frag}{σ:St}{H:Hp}{Q:VK}{nx bk ct:St->Hp->Prop}{rt:VK}
theorem aSb{A B:Prop}(h:B):if (!true)=true then A else B:=Li h
theorem aSc{A B:Prop}(h:A):if (!false)=true then A else B:=OU h
theorem aSd{A B:Prop}{b:Bool}(e:b=false)(h:B):if b=true then A else B:=by rw[e];exact Li h
theorem aOF{sp:Sp}(h:t σ H λvs H1=>∀x dx,H1 x=none->H1 dx=none->dx≠x->sp (.ref x::vs) (upd (upd H1 dx (.own x)) x (.ins C dx [])) (λv H2=>v=.bw/\Q (.ref x) H2) E):Ht C sp [] E t σ H Q:=by
 unfold Ht;simpa only [BI] using h
theorem aOG{t:TA}(h:ta σ H λx H1=>∃a dx fs,x=.ref a/\H1 a=some (.ins C dx fs)/\fs.lookup m=none/\t σ H1 λvs H2=>sp (x::vs) H2 Q E):FL C m sp [] E ta t σ H Q:=by
 unfold FL;simpa only [BI] using h
theorem aOH(h:tv σ H λy H1=>ta σ H1 λx H2=>∃a C dx fs,x=.ref a/\H2 a=some (.ins C dx fs)/\su K C/\dU K C f/\fs.length < 1000/\nx σ (upd H2 a (.ins C dx (rT f y fs)))):OP K ta tv f ⟨nx,rt,bk,ct⟩ σ H:=h
theorem iU{fs:List (Str×V)}{P:Hp->Prop}(h1:H a=some (.ins C dx fs))(c:su K C)(n:dU K C f)(hl:fs.length < 1000)(e:rT f y fs=fs')(h:P (upd H a (.ins C dx fs'))) :
  ∃a' C dx fs,V.ref a=V.ref a'/\H a'=some (.ins C dx fs)/\su K C/\dU K C f/\fs.length < 1000/\P (upd H a' (.ins C dx (rT f y fs))):=⟨a,C,dx,fs,rfl,h1,c,n,hl,by rw[e];exact h⟩
theorem cE{fs:List (Str×V)}{P:V->Prop}(h1:H a=some (.ins C dx fs))(c:su K C)(n:dU K C f)(l:fs.lookup f=some v)(h:P v) :
  ∃a' C dx fs v,V.ref a=V.ref a'/\H a'=some (.ins C dx fs)/\su K C/\dU K C f/\fs.lookup f=some v/\P v:=⟨a,C,dx,fs,v,rfl,h1,c,n,l,h⟩
theorem aH0:∀{xs:List V},(∀x∈xs,x=.bl true)->xs=(List.replicate xs.length true).map V.bl
 |[],_=>rfl
 |x::xs,h=>by
  rw[mv,F7,jz,<-aH0 (λy hy=>h y (xS _ hy)),h x (qz ..)]
theorem Qg(h1:bP K H p xs)(h2:∀x∈xs,x=.bl true)(h:Q (.bl true) H):DS K [.ref p] H Q:=by
 refine⟨p,List.replicate xs.length true,rfl,?_,?_⟩
 ·rw[<-aH0 h2];exact h1
 ·rw[show(List.replicate xs.length true).all id=true by simp];exact h
end
section
variable{X:Cx}{K:W.Frag}{H:Hp}{Q:VK}
def Kl:V->V->Option Bool
 |.bw,.bw=>some true
 |.bl a,.bl b=>some (a == b)
 |.bl _,.bw=>some false
 |.int _,.bw=>some false
 |.str _,.bw=>some false
 |.ref _,.bw=>some false
 |_,_=>none
def VE:R2:=λx y H Q=>∃b,Kl x y=some b/\Q (.bl b) H
def Zd:R2:=λx y H Q=>∃b,Kl x y=some b/\Q (.bl (!b)) H
theorem qA:uS X (compareOp .Is) VE:=by
 intro pins s σ H x y v u Q I rx ry h;obtain⟨b,e,q⟩:=h;have fin:EP X pins σ Q (.bool b) s:=⟨.bl b,H,I,rfl,q⟩
 cases x with
 |bw=>cases y with
  |bw=>cases e;cases rx;cases ry;exact is_none_gen fin
  |_=>cases e
 |bl a=>cases y with
  |bl c=>cases e;cases rx;cases ry;exact is_bool fin
  |bw=>cases e;cases rx;cases ry;exact is_none_gen fin
  |_=>cases e
 |int i=>cases y with
  |bw=>cases e;obtain⟨t,rfl⟩:=rx;cases ry;exact is_none_gen fin
  |_=>cases e
 |str i=>cases y with
  |bw=>cases e;obtain⟨t,rfl⟩:=rx;cases ry;exact is_none_gen fin
  |_=>cases e
 |ref i=>cases y with
  |bw=>cases e;cases rx;cases ry;exact is_none_gen fin
  |_=>cases e
 |_=>cases y <;> cases e
theorem xI:uS X (compareOp .IsNot) Zd:=by
 intro pins s σ H x y v u Q I rx ry h;obtain⟨b,e,q⟩:=h;have fin:EP X pins σ Q (.bool (!b)) s:=⟨.bl (!b),H,I,rfl,q⟩
 cases x with
 |bw=>cases y with
  |bw=>cases e;cases rx;cases ry;exact isnot_none_gen fin
  |_=>cases e
 |bl a=>cases y with
  |bl c=>cases e;cases rx;cases ry;exact isnot_bool fin
  |bw=>cases e;cases rx;cases ry;exact isnot_none_gen fin
  |_=>cases e
 |int i=>cases y with
  |bw=>cases e;obtain⟨t,rfl⟩:=rx;cases ry;exact isnot_none_gen fin
  |_=>cases e
 |str i=>cases y with
  |bw=>cases e;obtain⟨t,rfl⟩:=rx;cases ry;exact isnot_none_gen fin
  |_=>cases e
 |ref i=>cases y with
  |bw=>cases e;cases rx;cases ry;exact isnot_none_gen fin
  |_=>cases e
 |_=>cases y <;> cases e
theorem aSe{b:Bool}(e:Kl x y=some b)(h:Q (.bl b) H):VE x y H Q:=⟨b,e,h⟩
theorem aMB{b:Bool}(e:Kl x y=some b)(h:Q (.bl (!b)) H):Zd x y H Q:=⟨b,e,h⟩
end
section
variable{X:Cx}
def yt(K:W.Frag):List V->Hp->VK->Prop:=λxs H Q=>∃(p:Addr) (ns:ae),xs=[.ref p]/\bP K H p (ns.map V.int)/\Q (.int (List.sum ns)) H
theorem fP(hc:X.calm=true):eS X (.builtin "sum") (yt X.K):=by
 intro pins s σ H xs us Q I r h;obtain⟨p,ns,rfl,hq,q⟩:=h;obtain⟨u,rfl,rx⟩:=vals1 r;cases rx;obtain⟨az,r',pl,hz⟩:=I.list hq;have hi:=intsAre_of r';obtain⟨xs,hx⟩:=hi.allInts.items;have E6:s.heap.IsList p (intItems xs):=hx▸pl.isList;refine sum_intListG (I.ok.hd hc) E6 λh' tk t' hk=>?_;have e1:ns=xs.toList.map (·.1):=by
  rw[<-nums_intItems,<-hx];exact(show numsOf az.toArray.toList=ns from hi.numsOf).symm
 have e2:preSum (numAt xs) xs.size=ns.sum:=by
  rw[preSum_eq,za (by simp),e1]
 rw[e2];exact⟨.int _,H,I.kept (t':=tk) hk,⟨t',rfl⟩,q⟩
theorem nG{K:W.Frag}{H:Hp}{Q:VK}{p:Addr}{ns:ae}(h1:bP K H p (ns.map V.int))(h:Q (.int (List.sum ns)) H):yt K [.ref p] H Q:=⟨p,ns,rfl,h1,h⟩
def Lj:List V->Hp->VK->Prop:=λxs H Q=>∃i j:Int,xs=[.int i,.int j]/\∀p,H p=none->Q (.ref p) (upd H p (.AV i j))
theorem aFX:eS X (.type "range") Lj:=by
 intro pins s σ H xs us Q I r h;obtain⟨i,j,rfl,q⟩:=h;obtain⟨u,w',rfl,rx,ry⟩:=vals2 r;obtain⟨t,rfl⟩:=rx;obtain⟨t',rfl⟩:=ry;refine call_range_2 ?_;exact⟨.ref s.heap.objs.size,_,I.laid (t':=s.toks+1) (o:=.AV i j) (λb ob q=>fL _ q) (eO _) ⟨_,_,_,qP _ rfl⟩,rfl,q _ (I.bf.fresh (eO _))⟩
theorem aQ8{H:Hp}{Q:VK}{i j:Int}(h:∀p,H p=none->Q (.ref p) (upd H p (.AV i j))):Lj [.int i,.int j] H Q:=⟨i,j,rfl,h⟩
def pz(lo:Int)(n:Nat):ae:=(List.range n).map λ(k:Nat)=>lo+(k:Int)
def LN:List V->Hp->VK->Prop:=λxs H Q=>∃(p:Addr) (lo hi:Int),xs=[.ref p]/\H p=some (.AV lo hi)/\-(2 ^ 62)<=lo/\lo < 2 ^ 62/\-(2 ^ 62)<=hi/\hi < 2 ^ 62/\(hi - lo).toNat<=2 ^ 24/\
 ∀l,H l=none->Q (.ref l) (upd H l (.lst ((pz lo (hi - lo).toNat).map V.int)))
theorem aJi{a:Int}:∀(n:Nat) (az:aj),az.length=n->(∀(i:Nat) v,az[i]?=some v->∃t,v=Value.int (a+(i:Int)) t)->Vals ((pz a n).map V.int) az:=by
 intro n;induction n generalizing a with
 |zero=>
  intro az hl _;rw[List.length_eq_zero_iff.mp hl];exact .nil
 |succ n ih=>
  intro az hl h;cases az with
  |nil=>cases hl
  |cons v az=>
   have e:pz a (n+1)=a::pz (a+1) n:=by
    unfold pz;rw[List.range_succ_eq_map,jz,wm];congr 1
    ·simp
    ·apply List.map_congr_left;intro k _;show a+((k+1:Nat):Int)=a+1+(k:Int)
     push_cast;lia
   rw[e,jz];obtain⟨t,ht⟩:=h 0 v rfl;refine .cons ⟨t,by rw[ht];simp⟩ (ih az (by simpa using hl) λi w hw=>?_);obtain⟨t',Br⟩:=h (i+1) w (by simpa using hw);exact⟨t',by rw[Br];congr 1;push_cast;lia⟩
theorem aDQ(hc:X.calm=true):eS X (.type "list") LN:=by
 intro pins s σ H xs us Q I r h;obtain⟨p,lo,hi,rfl,hp,b1,b2,b3,b4,hz,q⟩:=h;obtain⟨u,rfl,rx⟩:=vals1 r;cases rx;obtain⟨t,t',t'',hr⟩:=(show cR X.prog X.w H s.heap p (.AV lo hi) from I.bf p _ hp)
 refine call_list_range (n:=(hi - lo).toNat) (I.ok.hd hc) hr (small_one b1 b2 b3 b4) (by rw[rangeSize_one];split <;> lia) hz λh' tk gf c' hk hS ha=>?_;have hv:Vals ((pz lo (hi - lo).toNat).map V.int) gf.toList:=aJi _ _ (by simpa using ha.1) λi v hv=>by
  obtain⟨t,ht⟩:=ha.2 i v (by simpa using hv);exact⟨t,by rw[ht,D2]⟩
 have hl:((pz lo (hi - lo).toNat).map V.int).length<=sizeLine:=by
  unfold pz;rw[bH,bH,Mg];exact bV hz
 exact⟨.ref s.heap.objs.size,_,I.laid (t':=tk) (o:=.lst ((pz lo (hi - lo).toNat).map V.int)) hk (eO _) ⟨hl,gf.toList,c',hv,hS⟩,rfl,q _ (I.bf.fresh (eO _))⟩
theorem aH1{H:Hp}{Q:VK}{p:Addr}{lo hi:Int}(hp:H p=some (.AV lo hi))(h1:-(2 ^ 62)<=lo/\lo < 2 ^ 62/\-(2 ^ 62)<=hi/\hi < 2 ^ 62)(hz:(hi - lo).toNat<=2 ^ 24)(h:∀l,H l=none->Q (.ref l) (upd H l (.lst ((pz lo (hi - lo).toNat).map V.int)))):LN [.ref p] H Q:=
 ⟨p,lo,hi,rfl,hp,h1.1,h1.2.1,h1.2.2.1,h1.2.2.2,hz,h⟩
end
section
variable{X:Cx}{pins:au}{σ:St}{H:Hp}{s:Shared}{h':Heap}
theorem Inv.aFY{t':Nat}{ch:ay}(I:Inv X pins σ H s)(k:∀b u,b∉ch->s.heap.get? b=some u->h'.get? b=some u)
  (va:∀b∈ch,xo X pins H b):Inv X pins σ H { s with heap:=h',toks:=t' }:=by
 have Cm:∀b u,H b=some u->b∉ch:=λb u e z=>by rw[(va b z).1] at e;cases e
 refine I.step (g':=s.gens) (d':=s.drawn) (ch:=ch) (λb hb=>?_) (λb u _ _ hc e _=>k b u hc e) (λb u _ _ hc e _=>⟨u.slots,k b u hc e⟩) (λb u hc e n=>n)
  (λb u hc e=>⟨u,k b u hc e⟩) (λb xs e=>e) (λb u v e=>e) (λb ps e=>⟨#[],by rw[e];simp⟩) (λm hm=>?_) (λb u e=>?_) I.bare
 ·obtain⟨f0,f1,f2,f3,f4,f5⟩:=va b hb;exact⟨f3,f1,f4,f5⟩
 ·obtain⟨u,es,ep,ho,r⟩:=hm;exact⟨u,es,ep,k _ u (λz=>(va _ z).2.1 rfl) ho,r⟩
 ·refine(I.bf b u e).zt (λc v hc q=>k c v ?_ q) (λc q=>q) λc xs _ q=>q;rcases hc with z|z
  ·rw[z];exact Cm b u e
  ·exact Cm c _ z
end
def Ge(K:W.Frag)(a b:Addr):It:=
 ⟨λi H=>∃xs ys x y,bP K H a xs/\bP K H b ys/\xs[i]?=some x/\ys[i]?=some y,
  λi H v H'=>∃T x y,H T=none/\v=.ref T/\H'=upd H T (.tup [x,y])/\(∀xs,bP K H a xs->xs[i]?=some x)/\∀ys,bP K H b ys->ys[i]?=some y,
  λi H=>∃xs ys,bP K H a xs/\bP K H b ys/\(xs.length<=i\/ys.length<=i)⟩
structure Z5(z TI TO i1 i2:Addr):Prop where
 TIz:TI≠z
 TOz:TO≠z
 i1z:i1≠z
 i2z:i2≠z
 TITO:TI≠TO
 TIi1:TI≠i1
 TIi2:TI≠i2
 TOi1:TO≠i1
 TOi2:TO≠i2
 i12:i1≠i2
theorem Z5.apart{z TI TO i1 i2 l1 l2:Addr}(d:Z5 z TI TO i1 i2){h:Heap}{f0 a b:Value}{k1 k2:Nat}{m1 m2:Addr}{xs ys:Array Value}(hz:IsZip h z TI TO f0)(sk:IsPair h TO a b)(h1:h.IsListIter i1 m1 k1)(h2:h.IsListIter i2 m2 k2)
  (tm:h.IsList l1 xs) (vj:h.IsList l2 ys):ZipApart z TI TO i1 i2 l1 l2:=by
 have key:∀{l:Addr} {vs:Array Value},h.IsList l vs->l≠z/\l≠TO/\l≠i1/\l≠i2:=λ{l vs} hl=>by
  obtain⟨o,ho,hc,n,hd⟩:=hl;refine⟨λe=>?_,λe=>?_,λe=>?_,λe=>?_⟩
  ·rw[e,hz] at ho;cases ho;cases hd
  ·rw[e,sk] at ho;cases ho;exact absurd (show Value.type "tuple" = Value.type "list" from hc) (by decide)
  ·obtain⟨o1,e1,c1,d1⟩:=h1;rw[e,e1] at ho;cases ho;rw[d1] at hd;cases hd
  ·obtain⟨o1,e1,c1,d1⟩:=h2;rw[e,e1] at ho;cases ho;rw[d1] at hd;cases hd
 obtain⟨a1,a2,a3,a4⟩:=key tm;obtain⟨b1,b2,b3,b4⟩:=key vj;exact⟨d.TIz,d.TOz,d.i1z,d.i2z,d.TITO,d.TIi1,d.TIi2,d.TOi1,d.TOi2,d.i12,a1,a2,a3,a4,b1,b2,b3,b4⟩
theorem aMC{P:Program}{w:World}{K:W.Frag}{elts:List Expr}{x1:Nat}{tp:Pos}(l1 l2 z TI TO i1 i2:Addr)(d:Z5 z TI TO i1 i2) :
  Turn P w K (.Tuple elts x1 tp) (Ge K l1 l2) [z,TI,TO,i1,i2] z (λi h=>IsZip h z TI TO .none/\IsPair h TI (.ref i1) (.ref i2)/\(∃a b,IsPair h TO a b)/\h.IsListIter i1 l1 i/\h.IsListIter i2 l2 i) where
 mem:=by simp
 obj:=λi h st b hb=>by
  obtain⟨hz,ud,⟨a,c,sk⟩,h1,h2⟩:=st;simp only[lR,vd,or_false] at hb;rcases hb with rfl|rfl|rfl|rfl|rfl
  ·exact⟨_,hz,λv z=>by cases z⟩
  ·exact⟨_,ud,λv z=>by cases z⟩
  ·exact⟨_,sk,λv z=>by cases z⟩
  ·obtain⟨o,e,c,d⟩:=h1;exact⟨o,e,λv z=>by rw[d] at z;cases z⟩
  ·obtain⟨o,e,c,d⟩:=h2;exact⟨o,e,λv z=>by rw[d] at z;cases z⟩
 keep:=λi h h' st k=>by
  obtain⟨hz,ud,⟨a,c,sk⟩,h1,h2⟩:=st;exact⟨k z (by simp) _ hz,k TI (by simp) _ ud,⟨a,c,k TO (by simp) _ sk⟩,h1.at λo q=>k i1 (by simp) o q,h2.at λo q=>k i2 (by simp) o q⟩
 item:=by
  intro X hP hw hK hc i pins s σ H E I hf st hg;subst hP hw hK;obtain⟨hz,ud,⟨a,c,sk⟩,h1,h2⟩:=st;obtain⟨xs,ys,x,y,A1,A0,hx,hy⟩:=hg;obtain⟨az,rv,p,_⟩:=I.list A1;obtain⟨xa,MP,p2,_⟩:=I.list A0;obtain⟨u,hu,ru⟩:=rv.get hx;obtain⟨v,hv,rv'⟩:=MP.get hy;have Cp:∀b∈[z,TI,TO,i1,i2],b < s.heap.objs.size:=λb hb=>by
   simp only[lR,vd,or_false] at hb;rcases hb with rfl|rfl|rfl|rfl|rfl
   ·exact iM hz
   ·exact iM ud
   ·exact iM sk
   ·obtain⟨_,e,_⟩:=h1;exact iM e
   ·obtain⟨_,e,_⟩:=h2;exact iM e
  refine wpAny_pyNext_zip_item (d.apart hz sk h1 h2 p.isList p2.isList) hz ud sk h1 h2 p.isList p2.isList (x:=u) (y:=v) (by simpa using hu) (by simpa using hv) λg1 a1 a2 a3 a4 a5 a6 hk=>?_;refine⟨_,rfl,wpAny_letOwnedTupleGo_zip a1 λg2 E1 cj=>?_⟩
  replace cj:Heap.SameBut z g1 g2:=cj
  have um:g2.IsTuple s.heap.objs.size #[u,v]:=⟨_,(cj.2 _ (yx (Cp z (by simp)))).trans a5,rfl,_,rfl⟩
  have kk:∀b o,b∉[z,TI,TO,i1,i2]->s.heap.get? b=some o->g2.get? b=some o:=λb o hb q=>by
   simp only[lR,vd,or_false,not_or] at hb;exact(cj.2 b hb.1).trans (hk b o hb.1 hb.2.2.1 hb.2.2.2.1 hb.2.2.2.2 q)
  have I2:Inv X pins σ (upd H s.heap.objs.size (.tup [x,y])) { s with heap:=g2 }:=
   I.xF (t':=s.toks) kk hf (eO _) (show cR X.prog X.w _ g2 _ (.tup [x,y]) from⟨bV (by simp),[u,v],.cons ru (.cons rv' .nil),um⟩)
  have DL:H s.heap.objs.size=none:=I.bf.fresh (eO _);refine⟨.ref s.heap.objs.size,_,I2,rfl,⟨_,x,y,DL,rfl,rfl,λzs Nk=>by rw[I.uP Nk A1];exact hx,λzs Nk=>by rw[I.uP Nk A0];exact hy⟩,⟨E1,?_,⟨_,_,cj.extBut _ _ d.TOz a2⟩,a3.at λo q=>(cj.2 i1 d.i1z).trans q,a4.at λo q=>(cj.2 i2 d.i2z).trans q⟩,λb hb=>?_⟩
  ·exact cj.extBut _ _ d.TIz (hk _ _ d.TIz d.TITO d.TIi1 d.TIi2 ud)
  ·rw[bA (rR (Cp b hb))];exact(hf b hb).1
 done:=by
  intro X hP hw hK hc i pins s σ H E I hf st hg;subst hP hw hK;obtain⟨hz,ud,⟨a,c,sk⟩,h1,h2⟩:=st;obtain⟨xs,ys,A1,A0,hx⟩:=hg;obtain⟨az,rv,p,_⟩:=I.list A1;obtain⟨xa,MP,p2,_⟩:=I.list A0;have e1:=rv.length;have e2:=MP.length;refine wpAny_pyNext_zip_end (I.ok.hd hc) (d.apart hz sk h1 h2 p.isList p2.isList) hz ud sk h1 h2 p.isList p2.isList ?_ λh' hk=>⟨rfl,?_⟩
  ·rcases hx with hx|hx
   ·exact .inl (by simp;lia)
   ·exact .inr (by simp;lia)
  ·refine I.aFY (t':=s.toks) (ch:=[z,TI,TO,i1,i2]) (λb o hb q=>?_) hf;simp only[lR,vd,or_false,not_or] at hb;exact hk b o hb.1 hb.2.2.1 hb.2.2.2.1 hb.2.2.2.2 q
 self:=λ_ _ _ _ _ st h=>wpAny_pyIter_zip st.1 h
section
variable{X:Cx}{elts:List Expr}{x1:Nat}{tp:Pos}
def Q8(K:W.Frag)(R:It->Hp->Prop):List V->Hp->Prop:=λvs H1=>∃a b,vs=[.ref a,.ref b]/\(∃xs,bP K H1 a xs)/\(∃ys,bP K H1 b ys)/\R (Ge K a b) H1
def OV(K:W.Frag)(ta:TA):TI:=λσ H R=>ta σ H (Q8 K R)
theorem PH:bootBuiltins "zip" = some (.type "zip"):=by decide +kernel
theorem aRa{a b:Expr}{ta:TA}{p pos:Pos}(hg:Gl X "zip")(hm:X.mg "zip" = none)(ha:PA X [a,b] ta)(hn:noStar a=true:=by rfl)(tj:noStar b=true:=by rfl):PI X (.Tuple elts x1 tp) (.Call (.Name "zip" p) [a,b] [] pos) (OV X.K ta):=by
 intro pins s σ H R I h;have cj:starEach [b] X.env=[(false,eval b X.env)]:=bW tj;have hs:starEach [a,b] X.env=[(false,eval a X.env),(false,eval b X.env)]:=by rw[bW hn,cj]
 refine Call_ (lS I hg hm PH (PyProof.Rows.callWith_type1 (eF (ha pos pins s σ H _ I h) λus s1 ⟨vs,H1,I1,r1,q1⟩=>?_) (by rw[hs,cj]) (by rw[cj];rfl)));obtain⟨l1,l2,e,⟨xs,A1⟩,⟨ys,A0⟩,q⟩:=q1;subst e;obtain⟨u,v,rfl,ru,rv⟩:=vals2 r1;cases ru;cases rv;obtain⟨az,_,pl,_⟩:=I1.list A1;obtain⟨xa,_,EK,_⟩:=I1.list A0;refine call_zip_2 pl.isList EK.isList λh' g1 g2 g3 g4 g5 g6 hk=>?_;refine wpAny_pyIter_zip g1 ?_;have d:Z5 (s1.heap.objs.size+4) (s1.heap.objs.size+2) (s1.heap.objs.size+3) s1.heap.objs.size (s1.heap.objs.size+1):=by
  have ne:∀{a b:Nat},a≠b->(s1.heap.objs.size+a:Nat)≠s1.heap.objs.size+b:=λh e=>h (Nat.add_left_cancel e);exact⟨ne (by decide),ne (by decide),ne (a:=0) (by decide),ne (by decide),ne (by decide),ne (b:=0) (by decide),ne (by decide),ne (b:=0) (by decide),ne (by decide),ne (a:=0) (by decide)⟩
 refine⟨s1.heap.objs.size+4,[s1.heap.objs.size+4,s1.heap.objs.size+2,s1.heap.objs.size+3,s1.heap.objs.size,s1.heap.objs.size+1],_,_,H1,rfl,I1.kept (t':=s1.toks) hk,aMC l1 l2 _ _ _ _ _ d,⟨g1,g2,⟨_,_,g3⟩,g4,g5⟩,λb hb=>?_,q⟩;have hle:s1.heap.objs.size<=b:=by
  simp only[lR,vd,or_false] at hb;rcases hb with rfl|rfl|rfl|rfl|rfl <;> first|exact Nat.le_add_right _ _|exact eO _
 exact I1.Bg hle (I1.bf.fresh hle)
end
section
variable{σ:St}{H:Hp}{nx:St->Hp->Prop}{rt:VK}{g:TG}{tb:TS}{Q:VK}{K:W.Frag}
theorem aOJ{ta:TA}{R:It->Hp->Prop}(h:ta σ H (Q8 K R)):OV K ta σ H R:=h
theorem aSf{a b:Addr}{xs ys:List V}{R:It->Hp->Prop}(h1:bP K H a xs)(h2:bP K H b ys)(h:R (Ge K a b) H):Q8 K R [.ref a,.ref b] H:=⟨a,b,rfl,⟨xs,h1⟩,⟨ys,h2⟩,h⟩
theorem aRb{a b:Addr}{xs ys:List V}(Pv:Nat->St->Hp->Prop)(h0:Pv 0 σ H)(hl:∀i σ H,i<=min xs.length ys.length->Pv i σ H->bP K H a xs/\bP K H b ys)
  (hs:∀i x y σ H T,xs[i]?=some x->ys[i]?=some y->Pv i σ H->H T=none->g (.ref T) σ (upd H T (.tup [x,y])) λσ2 H2=>tb ⟨Pv (i+1),rt,nx,Pv (i+1)⟩ σ2 H2) (hd:∀σ H,Pv (min xs.length ys.length) σ H->nx σ H) :
  ∃W:Nat->Nat->St->Hp->Prop,(∃m,W 0 m σ H)/\∀i m σ H,W i m σ H->
   ((Ge K a b).stop i H/\nx σ H)\/((Ge K a b).go i H/\∃N:St->Hp->Prop,(∀σ' H',N σ' H'->∃m',m' < m/\W (i+1) m' σ' H')/\∀x H',(Ge K a b).uy i H x H'->g x σ H' λσ2 H2=>tb ⟨N,rt,nx,N⟩ σ2 H2):=by
 refine⟨λi m σ H=>m=min xs.length ys.length - i/\i<=min xs.length ys.length/\Pv i σ H,⟨min xs.length ys.length,by simp,qw _,h0⟩,?_⟩;rintro i m σ H ⟨rfl,hi,p⟩;obtain⟨q1,q2⟩:=hl i σ H hi p;by_cases fh:i < min xs.length ys.length
 ·have i1:i < xs.length:=by lia
  have i2:i < ys.length:=by lia
  refine .inr ⟨⟨xs,ys,xs[i],ys[i],q1,q2,by simp[i1],by simp[i2]⟩,Pv (i+1),λσ' H' p'=>⟨min xs.length ys.length - (i+1),by lia,rfl,fh,p'⟩,λx H' y=>?_⟩;obtain⟨T,u,v,hT,e1,e2,y1,y2⟩:=y;subst e1 e2;exact hs i u v σ H T (y1 xs q1) (y2 ys q2) p hT
 ·have e:i=min xs.length ys.length:=by lia
  subst e;exact .inl ⟨⟨xs,ys,q1,q2,by lia⟩,hd σ H p⟩
end
end L2
namespace L2.Z
open PySem PySem.Spec PyProof.Rows L2
structure QE(X:Cx)(e:Expr)(t:TE):Prop where
 h:PE X e t
structure QT(X:Cx)(e:Expr)(t:TT):Prop where
 h:PT X e t
structure QW(X:Cx)(e:Expr)(t:TT):Prop where
 h:PW X e t
structure QA(X:Cx)(es:List Expr)(t:TA):Prop where
 h:PA X es t
structure QS(X:Cx)(st:Stmt)(t:TS):Prop where
 h:PS X st t
structure Bl(X:Cx)(st:List Stmt)(t:TS):Prop where
 h:wt X st t
structure QG(X:Cx)(tg:Expr)(g:TG):Prop where
 h:PG X tg g
structure Mu(X:Cx)(tg:List Expr)(g:Ar):Prop where
 h:Ie X tg g
structure QI(X:Cx)(tg it:Expr)(w:TI):Prop where
 h:PI X tg it w
structure Mt(X:Cx)(ifs:List Expr)(t:TT):Prop where
 h:F9 X ifs t
structure QO(X:Cx)(o:Option Expr)(t:TO):Prop where
 h:PO X o t
section
variable{X:Cx}{CX:yi}{k:Nat}{f C:Addr}{fd:FuncData}{ps:ah}{sp:Sp}{ic:List V}{ds:aj}{E:XK}{x m:Str}{p pos apos p2 wx:Pos}{a b c e o:Expr}{es rest:List Expr}{ta tb tc te to ti:TE}{t:TA}{tA tB tt:TT}{id T:String}{r r':R2}{rc:List V->Hp->VK->Prop}{st:Stmt}{AS Ip:List Stmt}{ts us:TS}{g:TG}{gs:Ar}{wi:TI}{tg iter:Expr}
theorem eY{e:Expr}{t:TT}(q:QW X e t):QT X e t:=⟨q.h.pt⟩
theorem aB(i:Nat)(hN:X.N[i]?=some x:=by rfl)(hv:D1 X.env.scope x:=by first|exact Or.inl rfl|exact Or.inr (Or.inl rfl)|exact Or.inr (Or.inr rfl))(hd:(x == ("__debug__" : Str))=false:=by decide)
  (qk:(x == ("__classdict__" : Str))=false:=by decide):QE X (.Name x pos) (O3 i):=⟨Zf hN hv hd qk⟩
theorem aC{i j}:QE X (.Constant (.int i) j pos) (tC (.int i)):=⟨L2.aPI⟩
theorem lE{b j}:QE X (.Constant (.bool b) j pos) (tC (.bl b)):=⟨L2.aRB⟩
theorem cU{j}:QE X (.Constant .none j pos) (tC .bw):=⟨L2.aPJ⟩
theorem aDR{v:V}{u:Value}(hg:Gl X x)(hm:X.mg x=some u)(r:RelV v u)(hd:(x == ("__debug__" : Str))=false:=by decide):QE X (.Name x pos) (tC v):=⟨L2.ZN hg hm r hd⟩
theorem rX{n:Int}(hg:Gl X x)(hm:∃t,X.mg x=some (.int n t))(hd:(x == ("__debug__" : Str))=false:=by decide):QE X (.Name x pos) (tC (.int n)):=⟨L2.aOA hg hm hd⟩
theorem nH(hg:Gl X x)(hm:X.mg x=none)(hv:bootBuiltins x=some u)(r:RelV v u)(hn:x≠"__name__":=by decide)(hd:(x == ("__debug__" : Str))=false:=by decide):QE X (.Name x pos) (tC v):=⟨L2.aNJ hg hm hv r hn hd⟩
theorem aL(ho:uS X (binaryOp op) r)(ha:QE X a ta)(hb:QE X b tb):QE X (.BinOp a op b pos) (Bn r ta tb):=⟨L2.aRF ho ha.h hb.h⟩
theorem lF{ru:V->Hp->VK->Prop}(ho:Mi X (unaryOp op) ru)(ha:QE X a ta):QE X (.UnaryOp op a pos) (MI ru ta):=⟨L2.aRG ho ha.h⟩
theorem aLf(ha:QE X a ta):QE X (.UnaryOp .Not a pos) (Pr ta):=⟨L2.aPT ha.h⟩
theorem j8{op}(h:QE X a ta):QE X (.BoolOp op [a] pos) ta:=⟨L2.aPR h.h⟩
theorem m8(ha:QE X a ta)(hb:QE X (.BoolOp .And (b::rest) pos) tb):QE X (.BoolOp .And (a::b::rest) pos) (Pu ta tb):=⟨L2.aPS ha.h hb.h⟩
theorem aH2(ha:QE X a ta)(hb:QE X (.BoolOp .Or (b::rest) pos) tb):QE X (.BoolOp .Or (a::b::rest) pos) (O0 ta tb):=⟨L2.aRD ha.h hb.h⟩
theorem oX(hc:QT X c tA)(ha:QE X a ta)(hb:QE X b tb):QE X (.IfExp c a b pos) (ML tA ta tb):=⟨L2.aLH hc.h ha.h hb.h⟩
theorem hJ(ho:uS X (compareOp op) r)(ha:QE X a ta)(hb:QE X b tb)(hm:behindInMarks op b=false):QE X (.Compare a [op] [b] pos) (Bn r ta tb):=⟨L2.aNW ho ha.h hb.h hm⟩
theorem aV(ho:uS X (compareOp op) r)(ha:QE X a ta)(hb:QE X b tb)(hm:behindInMarks op b=false):QT X (.Compare a [op] [b] pos) (Pl (Bn r ta tb)):=⟨L2.aNX ho ha.h hb.h hm⟩
theorem oY(ho:uS X (compareOp op) r)(Ai:uS X (compareOp Gp) r')(ha:QE X a ta)(hb:QE X b tb)(hc:QE X c tc)(hm:lastMarks [op,Gp] [b,c]=false:=by with_unfolding_all rfl):QE X (.Compare a [op,Gp] [b,c] pos) (P5 r r' ta tb tc):=⟨L2.aLU ho Ai ha.h hb.h hc.h hm⟩
theorem eT(h:QE X e te)(he:∀whole,isTrue e X.env whole=(do let v <-whole;standAt e.pos;holding [v] (truthy v)):=by intro _;rfl):QT X e (L2.tB te):=⟨L2.aPK h.h he⟩
theorem iB(ha:QT X a tA):QT X (.UnaryOp .Not a pos) (O1 tA):=⟨L2.aPP ha.h⟩
theorem fZ(ha:QT X a tA):QW X (.BoolOp .And [a] pos) tA:=⟨L2.aNK ha.h⟩
theorem qT(ha:QT X a tA):QW X (.BoolOp .Or [a] pos) tA:=⟨L2.aPN ha.h⟩
theorem iC(ha:QT X a tA)(hb:QW X (.BoolOp .And (b::rest) pos) tB):QW X (.BoolOp .And (a::b::rest) pos) (O2 tA tB):=⟨L2.aPO ha.h hb.h⟩
theorem uZ(ha:QT X a tA)(hb:QW X (.BoolOp .Or (b::rest) pos) tB):QW X (.BoolOp .Or (a::b::rest) pos) (MK tA tB):=⟨L2.aRC ha.h hb.h⟩
theorem aD:QA X [] jX:=⟨L2.nF⟩
theorem aA(ha:QE X e te)(hr:QA X es t)(hs:noStar e=true:=by rfl):QA X (e::es) (bM te t):=⟨L2.gQ ha.h hr.h hs⟩
theorem aF(F:bQ X.prog X.w X.K X.mg X.base CX k f fd ps sp)(hr:eX k X.A)(hg:Gl X x)(hm:X.mg x=some (.ref f))(hk:W.keepIn X.K (.ref f)=true)(hb:Binds X.K fd ps ds)(hd:Vals ic ds)(hx:Passes CX X E)
  (ha:QA X (e::es) t) (hn:(e::es).all noStar=true:=by rfl) (jx:(x == ("__debug__" : Str))=false:=by decide):QE X (.Call (.Name x p) (e::es) [] pos) (FE sp ic E t):=⟨L2.aMv F hr hg hm hk hb hd hx ha.h hn jx⟩
theorem bh{j:Nat}{st:Stmt}(F:bQ X.prog X.w X.K X.mg X.base eR k f fd ps sp)(hr:eX j X.A)(Y:FG X.K X.mg x st f fd ps)(ha:QA X (e::es) t)(hj:k<=j:=by decide)(hg:Gl X x:=by rfl)(hn:(e::es).all noStar=true:=by rfl)(jx:(x == ("__debug__" : Str))=false:=by decide):QE X (.Call (.Name x p) (e::es) [] pos) (FE sp [] E0 t):=aF F (hr.mono hj) hg Y.g Y.F.kp Y.b .nil aU ha hn jx
theorem u9(M:Mk X.K C f)(F:bQ X.prog X.w X.K X.mg X.base CX k f fd ps sp)(hr:eX (k+1) X.A)(hg:Gl X x)(hm:X.mg x=some (.ref C))(hb:Binds X.K fd ps ds)(hd:Vals ic ds)(hx:Passes CX X E)
  (ha:QA X (e::es) t) (hn:(e::es).all noStar=true:=by rfl) (jx:(x == ("__debug__" : Str))=false:=by decide):QE X (.Call (.Name x p) (e::es) [] pos) (Ht C sp ic E t):=⟨L2.aMw M F hr hg hm hb hd hx ha.h hn jx⟩
theorem aN(hc:eS X (.builtin id) rc)(hg:Gl X x)(hm:X.mg x=none)(hv:bootBuiltins x=some (.builtin id))(ha:QA X (e::es) t)(hn:(e::es).all noStar=true:=by rfl)(cq:x≠"__name__":=by decide)(jx:(x == ("__debug__" : Str))=false:=by decide) :
  QE X (.Call (.Name x p) (e::es) [] pos) (Dj rc t):=⟨L2.aLc hc hg hm hv ha.h hn cq jx⟩
theorem cF(hc:eS X (.type T) rc)(hg:Gl X x)(hm:X.mg x=none)(hv:bootBuiltins x=some (.type T))(ha:QA X (e::es) t)(hn:(e::es).all noStar=true:=by rfl)(cq:x≠"__name__":=by decide)(jx:(x == ("__debug__" : Str))=false:=by decide) :
  QE X (.Call (.Name x p) (e::es) [] pos) (Dj rc t):=⟨L2.aJe hc hg hm hv ha.h hn cq jx⟩
theorem nI:QO X none Qb:=⟨L2.aN4⟩
theorem nJ(h:QE X e te):QO X (some e) (Py te):=⟨L2.aN5 h.h⟩
theorem lG{rs:V->Option Int->Option Int->Hp->VK->Prop}{lo hi:Option Expr}{tl th:TO}(hr:BL X rs)(he:QE X e te)(hl:QO X lo tl)(hu:QO X hi th):QE X (.Subscript e (.Slice lo hi none p2) pos) (MJ rs te tl th):=⟨L2.aL5 hr he.h hl.h hu.h⟩
theorem eM(h:QA X es t):QE X (.List es pos) (zR t):=⟨L2.zS h.h⟩
theorem cP(hg:Gl X "range")(hm:X.mg "range" = none)(ha:QA X [a] t)(hn:noStar a=true:=by rfl):QI X tg (.Call (.Name "range" p) [a] [] pos) (LA t):=⟨L2.aJf hg hm ha.h hn⟩
theorem yB(hg:Gl X "range")(hm:X.mg "range" = none)(ha:QA X [a,b] t)(hn:noStar a=true:=by rfl)(tj:noStar b=true:=by rfl):QI X tg (.Call (.Name "range" p) [a,b] [] pos) (Lz t):=⟨L2.aJg hg hm ha.h hn tj⟩
theorem aJ{i:Nat}(hN:X.N.Nodup)(hi:X.N[i]?=some x:=by rfl)(hx:Loc X.env.scope x:=by exact Or.inl rfl)(hf:X.fn x=true\/X.env.scope.names.lookup x=some .local:=by first|exact .inl rfl|exact .inr rfl|assumption):QG X (.Name x pos) (uR i):=⟨L2.aNO hN hi hx hf⟩
theorem bJ:Mu X [] Lm:=⟨L2.aNQ⟩
theorem aO{e:Expr}{es:List Expr}{t:TG}{u:Ar}(h1:QG X e t)(h2:Mu X es u)(hs:(assignEach (e::es) X.env).map (·.2)=assign e X.env::(assignEach es X.env).map (·.2):=by rfl):Mu X (e::es) (LC t u):=⟨L2.aLP h1.h h2.h hs⟩
theorem xJ(ho:QE X o to)(hi:QE X i ti)(hs:Hh X uw)(ha:∀v,assign (.Subscript o i pos) X.env v=(do
   let ov <-holding [v] (eval o X.env)
   let iv <-holding [v,ov] (eval i X.env)
   standAt pos
   holding [v,ov,iv] (setItem ov iv v)
   release [v,ov,iv] []):=by intro _;rfl):QG X (.Subscript o i pos) (OW to ti uw):=⟨L2.aP0 ho.h hi.h hs ha⟩
theorem bE:Mt X [] OT:=⟨L2.aOe⟩
theorem hU(h:QT X c tt):Mt X [c] tt:=⟨L2.aOf h.h⟩
theorem aY(q:Bl X AS ts)(h:ts D σ H):∃t,wt X AS t/\t D σ H:=⟨ts,q.h,h⟩
theorem imp{Vw:TS}(q:Bl X AS ts)(h:∀D σ H,Vw D σ H->ts D σ H):Bl X AS Vw:=⟨λpins s σ H D I z=>q.h pins s σ H D I (h D σ H z)⟩
theorem aZ:Bl X [] Pp:=⟨L2.aNL⟩
theorem aE(h1:QS X st ts)(h2:Bl X AS us):Bl X (st::AS) (Hi ts us):=⟨L2.aLK h1.h h2.h⟩
theorem aG(h1:QS X st ts):Bl X [st] ts:=⟨L2.aNM h1.h⟩
theorem lH:QS X st Ze:=⟨L2.aLN⟩
theorem dC(he:QE X e te)(hs:swapsWith e none pos.line X.env=pure false:=by rfl):QS X (.Expr e pos) (Po te):=⟨L2.aNN he.h hs⟩
theorem aM(he:QE X e te):QS X (.Return (some e) pos) (OZ te):=⟨L2.aPV he.h⟩
theorem bC(hc:QT X c tt)(ha:Bl X AS ts)(hb:Bl X Ip us):QS X (.If c AS Ip pos) (OY tt ts us):=⟨L2.aRE hc.h ha.h hb.h⟩
theorem m9{i:Nat}(hN:X.N.Nodup)(hi:X.N[i]?=some x)(hx:Loc X.env.scope x)(he:QE X e te)(hs:swapsWith e (some (.Name x pos')) pos.line X.env=pure false:=by rfl)(hf:X.fn x=true\/X.env.scope.names.lookup x=some .local:=by first|exact .inl rfl|exact .inr rfl|assumption) :
  QS X (.Assign [.Name x pos'] e pos) (CJ te (uR i)):=⟨L2.aP2 hN hi hx he.h hs hf⟩
theorem aK{i:Nat}(hN:X.N.Nodup)(he:QE X e te)(hi:X.N[i]?=some x:=by rfl)(hx:Loc X.env.scope x:=by exact Or.inl rfl)(hs:swapsWith e (some (.Name x pos')) pos.line X.env=pure false:=by rfl)(hf:X.fn x=true\/X.env.scope.names.lookup x=some .local:=by first|exact .inl rfl|exact .inr rfl|assumption) :
  QS X (.Assign [.Name x pos'] e pos) (CJ te (uR i)):=m9 hN hi hx he hs hf
theorem qU(he:QE X e te)(hg:QG X tg g)(hs:swapsWithSole [tg] e pos.line X.env=pure false:=by rfl)(hw:swappedStores [tg] e X.env=pure none:=by rfl)
  (h1:(assignEach [tg] X.env).map (·.2)=[assign tg X.env]:=by rfl):QS X (.Assign [tg] e pos) (CJ te g):=⟨L2.aP1 he.h hg.h hs hw h1⟩
theorem nB{i:Nat}(hN:X.N.Nodup)(hi:X.N[i]?=some x)(hx:Loc X.env.scope x)(he:QE X e te)(ho:Ga X op Bm)(hf:X.fn x=true\/X.env.scope.names.lookup x=some .local:=by first|exact .inl rfl|exact .inr rfl|assumption) :
  QS X (.AugAssign (.Name x pos') op e pos) (O7 i te Bm):=⟨L2.aP6 hN hi hx he.h ho hf⟩
theorem aJk{ub:V->V->Hp->VK->Prop}(ho:QE X o to)(hi:QE X i ti)(hg:O6 X ub)(he:QE X e te)(hp:Ga X op Bm)(hs:Hh X uw)(ha:∀ov iv new,augStore i ov iv new=(do holding [new,ov,iv] (setItem ov iv new);release [new,ov,iv] [];pure .next):=by intros;rfl):QS X (.AugAssign (.Subscript o i Eg) op e pos) (Pn to ti te ub Bm uw):=⟨L2.aNS ho.h hi.h hg he.h hp hs ha⟩
theorem bZ(hp:PassesOwn (model X.prog X.w) X.A X.env X.xe)(hc:X.calm=true)(hi:QI X tg iter wi)(hg:QG X tg g)(hb:Bl X AS ts)
  (hs:∀x,foldedSetIterable iter X.env x=pure x:=by intro _;rfl):QS X (.For tg iter AS [] pos) (OS wi g ts):=⟨L2.aQc hp hc hi.h hg.h hb.h hs⟩
variable{scope:Scope}{elt target:Expr}{ifs:List Expr}{N:ah}
theorem bR{k:Nat}{idx:List Nat}(S:fM X scope N k idx)(hc:X.calm=true)(hi:QI X target iter wi)(hg:∀fp C s H,QG (yr X scope N fp C s H) target g)(ho:Own k g)(ht:∀fp C s H,Mt (yr X scope N fp C s H) ifs tt)(he:∀fp C s H,QE (yr X scope N fp C s H) elt te)(hs:∀x,foldedSetIterable iter X.env x=pure x:=by intro _;rfl):QE X (.ListComp elt [⟨target,iter,ifs,0⟩] scope pos) (Ho wi k idx g tt te):=
 ⟨L2.aOh k idx S hc hi.h (λfp C s H=>(hg fp C s H).h) ho (λfp C s H=>(ht fp C s H).h) (λfp C s H=>(he fp C s H).h) hs⟩
theorem c8{k:Nat}{idx:List Nat}{i:Nat}(hN:X.N.Nodup)(NJ:X.N[i]?=some x)(hx:Loc X.env.scope x)(S:fM X scope N k idx)(hc:X.calm=true)(hi:QI X target iter wi)(hg:∀fp C s H,QG (yr X scope N fp C s H) target g)(ho:Own k g)(ht:∀fp C s H,Mt (yr X scope N fp C s H) ifs tt)(he:∀fp C s H,QE (yr X scope N fp C s H) elt te)(Nu:swapsWith (.ListComp elt [⟨target,iter,ifs,0⟩] scope pos) (some (.Name x pos')) wx.line X.env=pure true:=by rfl)(hs:∀x,foldedSetIterable iter X.env x=pure x:=by intro _;rfl)(Aj:X.fn x=true\/X.env.scope.names.lookup x=some .local:=by first|exact .inl rfl|exact .inr rfl|assumption) :
  QS X (.Assign [.Name x pos'] (.ListComp elt [⟨target,iter,ifs,0⟩] scope pos) wx) (CJ (Ho wi k idx g tt te) (uR i)):=
 ⟨L2.aOi k idx hN NJ hx S hc hi.h (λfp C s H=>(hg fp C s H).h) ho (λfp C s H=>(ht fp C s H).h) (λfp C s H=>(he fp C s H).h) Nu hs Aj⟩
variable{x1:Nat}{e1 e2 e3 e4 e5 e6 e7 e8:Expr}{t1 t2 t3 t4 t5 t6 t7 t8:TE}
theorem mT(h1:QE X e1 t1)(n1:noStar e1=true:=by rfl):QE X (.List [e1] pos) (zR (bM t1 jX)):=⟨L2.aSD h1.h n1⟩
theorem rY(h1:QE X e1 t1)(h2:QE X e2 t2)(n1:noStar e1=true:=by rfl)(n2:noStar e2=true:=by rfl):QE X (.List [e1,e2] pos) (zR (bM t1 (bM t2 jX))):=⟨L2.aSE h1.h h2.h n1 n2⟩
theorem eI{k1}(h1:QE X e1 t1)(h2:QE X e2 t2)(n1:noStar e1=true:=by rfl)(n2:noStar e2=true:=by rfl):QE X (.Tuple [e1,e2] k1 pos) (Bf (bM t1 (bM t2 jX))):=⟨L2.aSF h1.h h2.h n1 n2⟩
theorem xK(h1:QE X e1 t1)(h2:QE X e2 t2)(h3:QE X e3 t3)(n1:noStar e1=true:=by rfl)(n2:noStar e2=true:=by rfl)(n3:noStar e3=true:=by rfl):QE X (.List [e1,e2,e3] pos) (zR (bM t1 (bM t2 (bM t3 jX)))):=⟨L2.aSG h1.h h2.h h3.h n1 n2 n3⟩
theorem HJ{k1}(h1:QE X e1 t1)(h2:QE X e2 t2)(h3:QE X e3 t3)(n1:noStar e1=true:=by rfl)(n2:noStar e2=true:=by rfl)(n3:noStar e3=true:=by rfl):QE X (.Tuple [e1,e2,e3] k1 pos) (Bf (bM t1 (bM t2 (bM t3 jX)))):=⟨L2.aSH h1.h h2.h h3.h n1 n2 n3⟩
theorem aOK(h1:QE X e1 t1)(h2:QE X e2 t2)(h3:QE X e3 t3)(h4:QE X e4 t4)(n1:noStar e1=true:=by rfl)(n2:noStar e2=true:=by rfl)(n3:noStar e3=true:=by rfl)(n4:noStar e4=true:=by rfl):QE X (.List [e1,e2,e3,e4] pos) (zR (bM t1 (bM t2 (bM t3 (bM t4 jX))))):=⟨L2.aSI h1.h h2.h h3.h h4.h n1 n2 n3 n4⟩
theorem ZP{k1}(h1:QE X e1 t1)(h2:QE X e2 t2)(h3:QE X e3 t3)(h4:QE X e4 t4)(n1:noStar e1=true:=by rfl)(n2:noStar e2=true:=by rfl)(n3:noStar e3=true:=by rfl)(n4:noStar e4=true:=by rfl):QE X (.Tuple [e1,e2,e3,e4] k1 pos) (Bf (bM t1 (bM t2 (bM t3 (bM t4 jX))))):=⟨L2.aSJ h1.h h2.h h3.h h4.h n1 n2 n3 n4⟩
theorem ZD(h1:QE X e1 t1)(h2:QE X e2 t2)(h3:QE X e3 t3)(h4:QE X e4 t4)(h5:QE X e5 t5)(n1:noStar e1=true:=by rfl)(n2:noStar e2=true:=by rfl)(n3:noStar e3=true:=by rfl)(n4:noStar e4=true:=by rfl)(n5:noStar e5=true:=by rfl):QE X (.List [e1,e2,e3,e4,e5] pos) (zR (bM t1 (bM t2 (bM t3 (bM t4 (bM t5 jX)))))):=⟨L2.aSK h1.h h2.h h3.h h4.h h5.h n1 n2 n3 n4 n5⟩
theorem aOL{k1}(h1:QE X e1 t1)(h2:QE X e2 t2)(h3:QE X e3 t3)(h4:QE X e4 t4)(h5:QE X e5 t5)(n1:noStar e1=true:=by rfl)(n2:noStar e2=true:=by rfl)(n3:noStar e3=true:=by rfl)(n4:noStar e4=true:=by rfl)(n5:noStar e5=true:=by rfl):QE X (.Tuple [e1,e2,e3,e4,e5] k1 pos) (Bf (bM t1 (bM t2 (bM t3 (bM t4 (bM t5 jX)))))):=⟨L2.aSL h1.h h2.h h3.h h4.h h5.h n1 n2 n3 n4 n5⟩
theorem aOM(h1:QE X e1 t1)(h2:QE X e2 t2)(h3:QE X e3 t3)(h4:QE X e4 t4)(h5:QE X e5 t5)(h6:QE X e6 t6)(h7:QE X e7 t7)(n1:noStar e1=true:=by rfl)(n2:noStar e2=true:=by rfl)(n3:noStar e3=true:=by rfl)(n4:noStar e4=true:=by rfl)(n5:noStar e5=true:=by rfl)(n6:noStar e6=true:=by rfl)(n7:noStar e7=true:=by rfl):QE X (.List [e1,e2,e3,e4,e5,e6,e7] pos) (zR (bM t1 (bM t2 (bM t3 (bM t4 (bM t5 (bM t6 (bM t7 jX)))))))):=⟨L2.aSM h1.h h2.h h3.h h4.h h5.h h6.h h7.h n1 n2 n3 n4 n5 n6 n7⟩
end
section
variable{X:Cx}{CX:yi}{k:Nat}{f C:Addr}{fd:FuncData}{ps:ah}{sp:Sp}{ic:List V}{ds:aj}{E:XK}{x m:Str}{p pos apos p2 wx bu tp:Pos}{a b c e o st:Expr}{es rest elts:List Expr}{ta tb tc te to ti:TE}{t:TA}{x1:Nat}{ts:TO}
theorem rZ{pl:Sem Bool}(he:QE X o ta)(c:su X.K C)(hm:Meth X.K C m f)(F:bQ X.prog X.w X.K X.mg X.base CX k f fd ps sp)(hr:eX k X.A)(hb:Binds X.K fd ps ds)(hd:Vals ic ds)(hx:Passes CX X E)(ha:QA X (e::es) t)
  (hn:(e::es).all noStar=true:=by rfl)
  (ht:eval (.Call (.Attribute o m apos) (e::es) [] pos) X.env=(do
   let ov <-eval o X.env
   standAt apos.atName
   let (f,first) <-holding [ov] (getMethod ov m pl)
   callWith pos f first (backTo pos (starEach (e::es) X.env)) (backToKw pos (keywordEach [] X.env))):=by rfl) :
  QE X (.Call (.Attribute o m apos) (e::es) [] pos) (FL C m sp ic E ta t):=⟨L2.aN2 he.h c hm F hr hb hd hx ha.h (bW (iK hn).1) (jE (iK hn).2) ht⟩
theorem aH3{pl:Sem Bool}(he:QE X o ta)(c:su X.K C)(hm:Meth X.K C m f)(F:bQ X.prog X.w X.K X.mg X.base CX k f fd ps sp)(hr:eX k X.A)(hb:Binds X.K fd ps ds)(hd:Vals ic ds)(hx:Passes CX X E)
  (ht:eval (.Call (.Attribute o m apos) [] [] pos) X.env=(do
   let ov <-eval o X.env
   standAt apos.atName
   let (f,first) <-holding [ov] (getMethod ov m pl)
   callWith pos f first (backTo pos (starEach [] X.env)) (backToKw pos (keywordEach [] X.env))):=by rfl) :
  QE X (.Call (.Attribute o m apos) [] [] pos) (FL C m sp ic E ta jX):=⟨L2.aL0 he.h c hm F hr hb hd hx ht⟩
end
section
variable{X:Cx}{K':W.Frag}{x m n:Str}{p pos apos p2 wx bu tp pos':Pos}{a b c e o st iter tg:Expr}{es rest elts:List Expr}{ta tb tc te to ti:TE}{t:TA}{x1:Nat}{ts:TO}
theorem aH(ha:QE X a ta)(hb:QE X b tb)(hs:ZR b:=by exact λ_ _=>rfl)(hK:X.K=K':=by rfl):QE X (.Subscript a b pos) (Bn (Kb K') ta tb):=by subst hK;exact⟨L2.aRL aQo ha.h hb.h hs⟩
theorem bI(hl:QE X e te)(hK:X.K=K':=by rfl):QI X tg e (Pm K' te):=by subst hK;exact⟨L2.aNT hl.h⟩
theorem aDS(hl:QE X e te)(hK:X.K=K':=by rfl):QI X tg e (O5 K' te):=by subst hK;exact⟨L2.aQa hl.h⟩
theorem iY(hg:Gl X "enumerate")(hm:X.mg "enumerate" = none)(ha:QA X [a] t)(hn:noStar a=true:=by rfl)(hK:X.K=K':=by rfl):QI X (.Tuple elts x1 tp) (.Call (.Name "enumerate" p) [a] [] pos) (Pd K' t):=by subst hK;exact⟨L2.aOE hg hm ha.h hn⟩
theorem bK{k1 n:Nat}(hc:X.calm=true)(h:Mu X es gs)(hn:(assignEach es X.env).length=n:=by rfl)(df:(assignEach es X.env).findIdx? (·.1)=none:=by rfl)(hK:X.K=K':=by rfl):QG X (.Tuple es k1 pos) (Ll K' n gs):=by subst hK;exact⟨L2.aPY hc h.h hn df⟩
theorem a8(he:QE X e ta)(hb:attributeBase e n X.env (eval e X.env)=eval e X.env)(hK:X.K=K':=by rfl):QE X (.Attribute e n pos) (OQ K' ta n):=by subst hK;exact⟨L2.aQi he.h hb⟩
theorem dA(ha:QE X o ta)(hv:QE X e te)(hs:swapsWith e (some (.Attribute o n pos')) pos.line X.env=pure false)(hK:X.K=K':=by rfl):QS X (.Assign [.Attribute o n pos'] e pos) (OP K' ta te n):=by subst hK;exact⟨L2.aQj ha.h hv.h hs⟩
theorem dW(ho:QE X o to)(ha:QA X [e] t)(hn:noStar e=true:=by rfl)(fk:attributeBase o "append" X.env (eval o X.env)=eval o X.env:=by rfl)(fj:(apos.endLine == bu.line)=true:=by rfl)(hK:X.K=K':=by rfl) :
  QE X (.Call (.Attribute o "append" apos) [e] [] bu) (EJ K' "list" LS to t):=by subst hK;exact⟨L2.aQ7 ho.h ha.h hn fk fj⟩
end
section
variable{X:Cx}{K':W.Frag}{p pos tp:Pos}{a b:Expr}{elts:List Expr}{t:TA}{x1:Nat}
theorem aJl(hg:Gl X "zip")(hm:X.mg "zip" = none)(ha:QA X [a,b] t)(hn:noStar a=true:=by rfl)(tj:noStar b=true:=by rfl)(hK:X.K=K':=by rfl):QI X (.Tuple elts x1 tp) (.Call (.Name "zip" p) [a,b] [] pos) (OV K' t):=by subst hK;exact⟨L2.aRa hg hm ha.h hn tj⟩
end
end L2.Z
namespace L2
open PySem
section
variable{prog:Program}{w:World}{A:Around}{E:ar}{s:Shared}
theorem aAD{it t:Addr}{i:Nat}{items}{x:Value}{Q:ar}(hit:s.heap.IsTupleIter it t i)
  (ht:s.heap.IsTuple t items) (hx:items[i]?=some x)
  (hQ:∀h',h'.IsTupleIter it t (i+1)->Heap.SameBut it s.heap h'->Q x { s with heap:=h' }) :
  wpAny (model prog w) A (Builtin.SmallTypes.nextOf (.ref it)) Q E s:=by
 obtain⟨o,ho,hc,hd⟩:=id hit;obtain⟨ol,ND,_,nl,NQ⟩:=ht;unfold Builtin.SmallTypes.nextOf;refine bN (wpAny_callSpecial?_slot (name:=Str.ofString "__next__") hit.typeIs F.slot_tuple_iterator_next
  (yz F.slot_tuple_iterator_next hit.typeIs F.entry_tuple_iterator_next ?_ (F.args_tuple_iterator_next_1 _)))
 show wpAny _ _ (field (.ref it) 0 >>= _) _ _ s;refine bN (wpAny_field ho hd (x:=.ref t) rfl ?_);show wpAny _ _ (if (Value.ref t == Value.none)=true then _ else _) _ _ s;rw[cD (show ¬((Value.ref t == Value.none)=true) from oh)];show wpAny _ _ (field (.ref it) 1 >>= _) _ _ s;refine bN (wpAny_field ho hd (x:=.int i 0) rfl ?_);show wpAny _ _ (seqItems? (.ref t) >>= _) _ _ s;refine bN (wpAny_seqItems ND NQ ?_);simp only[yd,hx];refine bN (HS ho hd (by simp) (dY ⟨x,rfl,dY (hQ _ ?_ (Heap.SameBut.update ..))⟩));exact⟨_,Ib _ ho (Obj.isFreed_of_fields (Obj.data_mapFields hd _)),(Obj.cls_mapFields ..).trans hc,by
  rw[Obj.data_mapFields hd];simp[rawInt]⟩
theorem aBZ{it t:Addr}{i:Nat}{items}{Q:ar}(hh:A.handled=none)
  (hit:s.heap.IsTupleIter it t i) (ht:s.heap.IsTuple t items) (hx:items[i]?=none)
  (hE:∀h' e,Heap.ExtBut it s.heap h'->(∃o,h'.get? e=some o/\o.cls=.type "StopIteration")->E (.ref e) { s with heap:=h' }) :
  wpAny (model prog w) A (Builtin.SmallTypes.nextOf (.ref it)) Q E s:=by
 obtain⟨o,ho,hc,hd⟩:=id hit;obtain⟨ol,ND,_,nl,NQ⟩:=ht;unfold Builtin.SmallTypes.nextOf;refine bN (wpAny_callSpecial?_slot (name:=Str.ofString "__next__") hit.typeIs F.slot_tuple_iterator_next
  (yz F.slot_tuple_iterator_next hit.typeIs F.entry_tuple_iterator_next ?_ (F.args_tuple_iterator_next_1 _)))
 show wpAny _ _ (field (.ref it) 0 >>= _) _ _ s;refine bN (wpAny_field ho hd (x:=.ref t) rfl ?_);show wpAny _ _ (if (Value.ref t == Value.none)=true then _ else _) _ _ s;rw[cD (show ¬((Value.ref t == Value.none)=true) from oh)];show wpAny _ _ (field (.ref it) 1 >>= _) _ _ s;refine bN (wpAny_field ho hd (x:=.int i 0) rfl ?_);show wpAny _ _ (seqItems? (.ref t) >>= _) _ _ s;refine bN (wpAny_seqItems ND NQ ?_);simp only[yd,hx];refine bN (wpAny_rule (bN (HS ho hd (by simp) ?_)));show wpAny _ _ (newExc (.type "StopIteration") [] >>= _) _ _ _;refine bN ?_;simp only[newExc,newTuple];refine bN (wo ?_ (by size_fits));refine bN (m:=firstArgMember _ _) (wpAny_of_eq (a:=Value.none) (by first|rfl|(simp only[firstArgMember];rfl)) ?_);refine wo ?_ (by size_fits);simp only[raiseNew];refine bN (wpAny_handled ?_);first|rw[show A.in1.handled=none from hh]|rw[hh]
 refine bN (dY (wpAny_throw ?_));exact hE _ _ (((Heap.SameBut.update ..).extBut.push _).push _) ⟨_,qP _ rfl,rfl⟩
end
def uq(h:Heap)(k:Bool)(it src:Addr)(i:Nat):Prop:=if k=true then h.IsListIter it src i else h.IsTupleIter it src i
def jF(h:Heap)(k:Bool)(src:Addr)(items:Array Value):Prop:=if k=true then h.IsList src items else h.IsTuple src items
theorem uq.at{h h':Heap}{k:Bool}{i:Nat}(x:uq h k it src i)(e:∀o,h.get? it=some o->h'.get? it=some o):uq h' k it src i:=by
 cases k with
 |true=>obtain⟨o,ho,r⟩:=(show h.IsListIter it src i from x);exact(show h'.IsListIter it src i from⟨o,e o ho,r⟩)
 |false=>obtain⟨o,ho,r⟩:=(show h.IsTupleIter it src i from x);exact(show h'.IsTupleIter it src i from⟨o,e o ho,r⟩)
theorem jF.at{h h':Heap}{k:Bool}(x:jF h k src items)(e:∀o,h.get? src=some o->h'.get? src=some o):jF h' k src items:=by
 cases k with
 |true=>obtain⟨o,ho,r⟩:=(show h.IsList src items from x);exact(show h'.IsList src items from⟨o,e o ho,r⟩)
 |false=>obtain⟨o,ho,r⟩:=(show h.IsTuple src items from x);exact(show h'.IsTuple src items from⟨o,e o ho,r⟩)
theorem uq.obj{h:Heap}{k:Bool}{i:Nat}(x:uq h k it src i):∃o vs,h.get? it=some o/\o.data=.fields vs:=by
 cases k with
 |true=>obtain⟨o,ho,_,r⟩:=(show h.IsListIter it src i from x);exact⟨o,_,ho,r⟩
 |false=>obtain⟨o,ho,_,r⟩:=(show h.IsTupleIter it src i from x);exact⟨o,_,ho,r⟩
section
variable{prog:Program}{w:World}{A:Around}{E:ar}{s:Shared}
theorem aH4{k:Bool}{it src:Addr}{i:Nat}{items:Array Value}{x:Value}{Q:ar}(hit:uq s.heap k it src i)(hs:jF s.heap k src items)(hx:items[i]?=some x)
  (hQ:∀h',uq h' k it src (i+1)->Heap.SameBut it s.heap h'->Q x { s with heap:=h' }):wpAny (model prog w) A (Builtin.SmallTypes.nextOf (.ref it)) Q E s:=by
 cases k with
 |true=>exact wpAny_nextOf_list_item hit hs hx hQ
 |false=>exact aAD hit hs hx hQ
theorem aJm{k:Bool}{it src:Addr}{i:Nat}{items:Array Value}{Q:ar}(hh:A.handled=none)(hit:uq s.heap k it src i)(hs:jF s.heap k src items)(hx:items[i]?=none)
  (hE:∀h' e,Heap.ExtBut it s.heap h'->(∃o,h'.get? e=some o/\o.cls=.type "StopIteration")->E (.ref e) { s with heap:=h' }):wpAny (model prog w) A (Builtin.SmallTypes.nextOf (.ref it)) Q E s:=by
 cases k with
 |true=>exact wpAny_nextOf_list_end hh hit hs hx hE
 |false=>exact aBZ hh hit hs hx hE
end
abbrev ZS:=Bool×Addr×Addr
structure ZA(z TI TO:Addr)(L:List ZS):Prop where
 TIz:TI≠z
 TOz:TO≠z
 TITO:TI≠TO
 it:∀t∈L,t.2.1≠z/\t.2.1≠TI/\t.2.1≠TO
 nd:(L.map (·.2.1)).Nodup
abbrev nK(h:Heap)(T:Addr)(vs:Array Value):Prop:=h.get? T=some { cls:=.type "tuple",data:=.seq vs }
def OM(z TO:Addr)(L:List ZS):Prop:=∀t∈L,t.2.2≠z/\t.2.2≠TO/\∀u∈L,t.2.2≠u.2.1
theorem Zc:∀{l:ay},l.Nodup->∀{i j:Nat}{a:Addr},l[i]?=some a->l[j]?=some a->i=j
 |[],_,_,_,_,h,_=>by simp at h
 |b::l,n,0,0,_,_,_=>rfl
 |b::l,n,0,j+1,a,h1,h2=>by
  simp at h1 h2;subst h1;exact absurd (jW h2) (ya.mp n).1
 |b::l,n,i+1,0,a,h1,h2=>by
  simp at h1 h2;subst h2;exact absurd (jW h1) (ya.mp n).1
 |b::l,n,i+1,j+1,a,h1,h2=>by
  simp at h1 h2;rw[Zc (ya.mp n).2 h1 h2]
section
variable{prog:Program}{w:World}{A:Around}{E:ar}{s:Shared}
theorem aSN{T:Addr}{arr:Array Value}{x:Value}{j:Nat}{Q:Unit->Shared->Prop}(hT:nK s.heap T arr)(hz:arr.size<=1000)
  (h:∀h',nK h' T (arr.setIfInBounds j x)->Heap.SameBut T s.heap h'->Q () { s with heap:=h' }):wpAny (model prog w) A (updateSeq T (·.setIfInBounds j x)) Q E s:=by
 refine wpAny_updateSeq hT rfl (h _ ?_ (Heap.SameBut.update ..)) (by rw[xx];lia) (by rw[Array.size_setIfInBounds,xx];lia);show(s.heap.update T _).get? T=_;rw[Ib _ hT rfl];simp[Obj.mapSeq]
structure OL(z TI TO:Addr)(L:List ZS)(k:Nat)(xs:Nat->Value)(h₀:Heap)(j:Nat)(h:Heap):Prop where
 zz:IsZip h z TI TO .ellipsis
 to:∃arr:Array Value,nK h TO arr/\arr.size=L.length/\∀i,i < j->arr[i]?=some (xs i)
 it:∀i t,L[i]?=some t->uq h t.1 t.2.1 t.2.2 (if i < j then k+1 else k)
 off:∀c o,c≠z->c≠TO->(∀t∈L,c≠t.2.1)->h₀.get? c=some o->h.get? c=some o
 sz:h.objs.size=h₀.objs.size
theorem aH5{z TI TO:Addr}{L:List ZS}{k:Nat}{items:Nat->Array Value}{xs:Nat->Value}{arr:Array Value}{Q:ar}(hh:A.handled=none)(D:ZA z TI TO L)(S:OM z TO L)(cq:L≠[])(hlen:L.length<=1000)
  (hz:IsZip s.heap z TI TO .none) (ud:nK s.heap TI (L.map λt=>Value.ref t.2.1).toArray) (sk:nK s.heap TO arr) (AH:arr.size=L.length)
  (hit:∀t∈L,uq s.heap t.1 t.2.1 t.2.2 k) (Uu:∀i t,L[i]?=some t->jF s.heap t.1 t.2.2 (items i))
  (hx:∀i,i < L.length->∀x,(items i)[k]?=some x->x=xs i)
  (hQ:(∀i,i < L.length->(items i)[k]?=some (xs i))->∀h' rj,IsZip h' z TI TO (rawInt s.heap.objs.size)->nK h' TO rj->rj.size=L.length->(∀i,i < L.length->rj[i]?=some (xs i))->(∀t∈L,uq h' t.1 t.2.1 t.2.2 (k+1))->nK h' s.heap.objs.size rj->h'.objs.size=s.heap.objs.size+1->
   (∀c o,c≠z->c≠TO->(∀t∈L,c≠t.2.1)->s.heap.get? c=some o->h'.get? c=some o)->Q (.ref s.heap.objs.size) { s with heap:=h' })
  (hE:(∃i,i < L.length/\(items i)[k]?=none)->∀h' e,(∀c o,c≠z->c≠TO->(∀t∈L,c≠t.2.1)->s.heap.get? c=some o->h'.get? c=some o)->(∃o,h'.get? e=some o/\o.cls=.type "StopIteration")->E (.ref e) { s with heap:=h' }) :
  wpAny (model prog w) A (Builtin.«zip.__next__» ⟨[.ref z],[]⟩) (λfin s'=>∃v,fin=.done (.ret v)/\Q v s') E s:=by
 show wpAny _ _ (field (.ref z) 2 >>= _) _ _ _;refine bN (wpAny_field hz rfl (x:=.bool false) rfl ?_);show wpAny _ _ (field (.ref z) 3 >>= _) _ _ _;refine bN (wpAny_field hz rfl (x:=.ref TI) rfl ?_);refine bN (wpAny_seqItems ud rfl ?_);have UM:(L.map λt=>Value.ref t.2.1).toArray.isEmpty=false:=by
  cases L with
  |nil=>exact absurd rfl cq
  |cons t L=>rfl
 simp only[UM,D8,if_false];show wpAny _ _ (Builtin.SmallTypes.ownedTupleIsFree (.ref z) >>= _) _ _ _;refine bN ?_;unfold Builtin.SmallTypes.ownedTupleIsFree;refine bN (wpAny_field hz rfl (x:=.none) rfl (dY ?_));simp only[if_true];refine bN (wpAny_rule ?_);refine bN (wpAny_field hz rfl (x:=.ref TO) rfl ?_);refine bN (BM hz (by simp) λez AJ uh=>?_)
 replace AJ:IsZip ez z TI TO .ellipsis:=AJ
 replace uh:Heap.SameBut z s.heap ez:=uh
 refine bN ?_;refine wpAny_forIn_list _ (λrest b s'=>b=((none,()):Option Fin×Unit)/\∃j,rest=((L.map λt=>Value.ref t.2.1).zipIdx).drop j/\j<=L.length/\(∀i,i < j->(items i)[k]?=some (xs i))/\OL z TI TO L k xs s.heap j s'.heap/\s'={ s with heap:=s'.heap }) _ ?turn ?fin _ _ ⟨rfl,0,rfl,qw _,λi hi=>absurd hi (Nat.not_lt_zero _),?start,rfl⟩
 case start=>
  exact⟨AJ,⟨arr,uh.extBut _ _ D.TOz sk,AH,λi hi=>absurd hi (Nat.not_lt_zero _)⟩,λi t ht=>by
   rw[cD (Nat.not_lt_zero _)];exact(hit t (jW ht)).at λo e=>uh.extBut _ _ (D.it t (jW ht)).1 e,λc o c1 _ _ e=>uh.extBut _ _ c1 e,uh.1⟩
 case turn=>
  rintro x rest b s' ⟨rfl,j,er,hj,Nm,M,es⟩;have NH:((L.map λt=>Value.ref t.2.1).zipIdx).length=L.length:=by simp
  have DH:j < ((L.map λt=>Value.ref t.2.1).zipIdx).length:=by
   apply Nat.lt_of_not_le;intro h;rw[List.drop_eq_nil_of_le h] at er;cases er
  rw[zb DH] at er;injection er with e1 e2
  have DI:j < L.length:=by rw[<-NH];exact DH
  have ht:L[j]?=some L[j]:=dM DI;have qd:=uu DI;have e3:((L.map λt=>Value.ref t.2.1).zipIdx)[j]=(Value.ref L[j].2.1,j):=by simp
  rw[e3] at e1;generalize L[j]=t at ht qd e1;subst e1 e2;obtain⟨h',g',d',t',o'⟩:=s';injection es with _ e4 e5 e6 e7
  subst e4 e5 e6 e7
  replace M:OL z TI TO L k xs s.heap j h':=M
  have Es:=M.it j t ht;rw[cD (vn _)] at Es;have Wa:jF h' t.1 t.2.2 (items j):=(Uu j t ht).at λo e=>M.off _ o (S t qd).1 (S t qd).2.1 (S t qd).2.2 e;refine bN (wpAny_onRaise ?_);show wpAny _ _ (Builtin.SmallTypes.nextOf (.ref t.2.1) >>= _) _ _ _;cases Gz:(items j)[k]? with
  |none=>
   refine bN (aJm (s:=⟨h',s.gens,s.drawn,s.toks,s.os⟩) hh Es Wa Gz λh2 e eb he=>?_)
   replace eb:Heap.ExtBut t.2.1 h' h2:=eb
   obtain⟨oe,NF,Wx⟩:=he;have E1:IsZip h2 z TI TO .ellipsis:=eb _ _ (Ne.symm (D.it t qd).1) M.zz;have hez:e≠z:=λq=>by subst q;rw[E1] at NF;cases NF;simp at Wx
   refine BM E1 (by simp) λh3 _ E3=>hE ⟨j,DI,Gz⟩ h3 e (λc o c1 c2 c3 q=>E3.extBut _ _ c1 (eb _ _ (c3 t qd) (M.off c o c1 c2 c3 q))) ⟨oe,E3.extBut _ _ hez NF,Wx⟩
  |some x=>
   have ex:=hx j DI x Gz;subst ex;refine bN (aH4 (s:=⟨h',s.gens,s.drawn,s.toks,s.os⟩) Es Wa Gz λh2 Ng Dp=>dY ?_)
   replace Dp:Heap.SameBut t.2.1 h' h2:=Dp
   obtain⟨zf,B1,N4,Nr⟩:=M.to;have II:nK h2 TO zf:=Dp.extBut _ _ (Ne.symm (D.it t qd).2.2) B1;refine bN (wpAny_seqItems II rfl ?_);refine bN (aSN (s:=⟨h2,s.gens,s.drawn,s.toks,s.os⟩) II (by lia) λh3 UX Dm=>?_)
   replace Dm:Heap.SameBut TO h2 h3:=Dm
   refine bN (wpAny_letGo (dY ?_));refine⟨rfl,j+1,rfl,DI,λi hi=>?_,⟨?_,⟨_,UX,?_,λi hi=>?_⟩,λi u hu=>?_,λc o c1 c2 c3 q=>?_,?_⟩,rfl⟩
   ·by_cases e:i=j
    ·subst e;exact Gz
    ·exact Nm i (by lia)
   ·exact Dm.extBut _ _ (Ne.symm D.TOz) (Dp.extBut _ _ (Ne.symm (D.it t qd).1) M.zz)
   ·rw[Array.size_setIfInBounds];exact N4
   ·by_cases e:i=j
    ·subst e;rw[Array.getElem?_setIfInBounds_self_of_lt (by lia)]
    ·rw[Array.getElem?_setIfInBounds_ne (Ne.symm e)];exact Nr i (by lia)
   ·have mu:=jW hu;have nT:u.2.1≠TO:=(D.it u mu).2.2;by_cases e:i=j
    ·subst e;rw[ht] at hu;cases hu;rw[cT (F4 _)];exact Ng.at λo q=>Dm.extBut _ _ nT q
    ·have ne:u.2.1≠t.2.1:=λq=>by
      have n:=D.nd;have q1:(L.map (·.2.1))[i]?=some u.2.1:=by rw[nE,hu];rfl
      have q2:(L.map (·.2.1))[j]?=some u.2.1:=by rw[nE,ht,q];rfl
      exact e (Zc n q1 q2)
     have:=M.it i u hu;rw[show(if i < j+1 then k+1 else k)=if i < j then k+1 else k by split <;> split <;> lia];exact this.at λo q=>Dm.extBut _ _ nT (Dp.extBut _ _ ne q)
   ·exact Dm.extBut _ _ c2 (Dp.extBut _ _ (c3 t qd) (M.off c o c1 c2 c3 q))
   ·show h3.objs.size=_;rw[Dm.1,Dp.1];exact M.sz
 case fin=>
  rintro b s' ⟨rfl,j,er,hj,Nm,M,es⟩;have DI:j=L.length:=by
   have:((L.map λt=>Value.ref t.2.1).zipIdx).length<=j:=List.drop_eq_nil_iff.mp er.symm;simp at this;lia
  subst DI;obtain⟨h',g',d',t',o'⟩:=s';injection es with _ e4 e5 e6 e7
  subst e4 e5 e6 e7
  replace M:OL z TI TO L k xs s.heap L.length h':=M
  obtain⟨zf,B1,N4,Nr⟩:=M.to;show wpAny _ _ (seqItems? (.ref TO) >>= _) _ _ _;refine bN (wpAny_seqItems B1 rfl ?_);refine bN (wpAny_newTuple ?_ (by rw[wq,xx];lia));have ID:z < h'.objs.size:=iM M.zz;show wpAny _ _ (Builtin.SmallTypes.ownedTupleHandOut (.ref z) (.ref h'.objs.size) >>= _) _ _ _;refine bN ?_;unfold Builtin.SmallTypes.ownedTupleHandOut;have hz6:IsZip (h'.push { cls:=.type "tuple",data:=.seq zf.toList.toArray }) z TI TO .ellipsis:=fL _ M.zz;refine bN (BM hz6 (by simp) λh7 Nl Nw=>?_)
  replace Nl:IsZip h7 z TI TO (rawInt h'.objs.size):=Nl
  refine BM Nl (by simp) λh8 Kp Nv=>?_
  replace Kp:IsZip h8 z TI TO (rawInt h'.objs.size):=Kp
  have up:∀c o,c≠z->h'.get? c=some o->h8.get? c=some o:=λc o c1 e=>Nv.extBut _ _ c1 (Nw.extBut _ _ c1 (fL _ e));have KG:nK h8 h'.objs.size zf:=Nv.extBut _ _ (yx ID) (Nw.extBut _ _ (yx ID) (by
   have:=qP h' (o:={ cls:=.type "tuple",data:=.seq zf.toList.toArray }) rfl;simpa using this))
  have V6:h8.objs.size=h'.objs.size+1:=by rw[Nv.1,Nw.1,vb]
  rw[M.sz] at Kp KG V6;refine dY ⟨_,rfl,?_⟩;show Q (.ref h'.objs.size) _;rw[M.sz];refine hQ (λi hi=>Nm i hi) h8 zf Kp (up _ _ D.TOz B1) N4 Nr (λt ht=>?_) KG V6 λc o c1 c2 c3 e=>up c o c1 (M.off c o c1 c2 c3 e);obtain⟨i,hi⟩:=ye ht;have:=M.it i t hi;rw[cT (iZ.mp hi).1] at this;exact this.at λo e=>up _ o (D.it t ht).1 e
end
def HM(z TI TO:Addr)(L:List ZS)(i:Nat)(h:Heap):Prop:=
 IsZip h z TI TO .none/\nK h TI (L.map λt=>Value.ref t.2.1).toArray/\(∃arr,nK h TO arr/\arr.size=L.length)/\∀t∈L,uq h t.1 t.2.1 t.2.2 i
abbrev oZ(k:Bool)(src:Addr):Obj:={ cls:=.type (if k=true then "list_iterator" else "tuple_iterator"),data:=.fields #[.ref src,.int 0 0] }
theorem uq.new{h:Heap}{k:Bool}{it src:Addr}(e:h.get? it=some (oZ k src)):uq h k it src 0:=by
 cases k with
 |true=>exact(show h.IsListIter it src 0 from⟨_,e,rfl,rfl⟩)
 |false=>exact(show h.IsTupleIter it src 0 from⟨_,e,rfl,rfl⟩)
section
variable{prog:Program}{w:World}{A:Around}{E:ar}{s:Shared}
theorem nL{k:Bool}{src:Addr}{items:Array Value}{Q:ar}(h:jF s.heap k src items)(hQ:Q (.ref s.heap.objs.size) { s with heap:=s.heap.push (oZ k src) }):wpAny (model prog w) A (pyIter (.ref src)) Q E s:=by
 cases k with
 |true=>exact wpAny_pyIter_list h hQ
 |false=>exact wpAny_pyIter_tuple h hQ
end
theorem aDT(a b c:Value):checkTypeCall "zip" ⟨[a,b,c],[]⟩=pure ():=by kernel_rfl
theorem aE8(a b c:Value):checkBuiltinCall "zip.__new__" ⟨[.type "zip",a,b,c],[]⟩=pure ():=by kernel_rfl
theorem zX(a b c d:Value):argsOk "object.__init__" ⟨[a,b,c,d],[]⟩:=by
 unfold argsOk;rw[signature?_of (id:="object.__init__") (n:=['_','_','t','i','n','i','_','_']) (o:=['t','c','e','j','b','o']) (by kernel_rfl) F.owner_object];kernel_rfl
abbrev Dg(h:Heap)(t:Bool×Addr):Heap:=h.push (oZ t.1 t.2)
abbrev B9(h:Heap)(t u:Bool×Addr):Heap:=(Dg h t).push (oZ u.1 u.2)
abbrev JV(h:Heap)(t u v:Bool×Addr):Heap:=(B9 h t u).push (oZ v.1 v.2)
abbrev JU(h:Heap)(t u:Bool×Addr):Heap:=(B9 h t u).push { cls:=.type "tuple",data:=.seq #[.ref h.objs.size,.ref (Dg h t).objs.size] }
abbrev JT(h:Heap)(t u:Bool×Addr):Heap:=(JU h t u).push { cls:=.type "tuple",data:=.seq #[.none,.none] }
abbrev EG(h:Heap)(t u:Bool×Addr):Heap:=(JT h t u).push { cls:=.type "zip",data:=.fields #[.none,.bool false,.bool false,.ref (B9 h t u).objs.size,.ref (JU h t u).objs.size] }
abbrev JS(h:Heap)(t u v:Bool×Addr):Heap:=(JV h t u v).push { cls:=.type "tuple",data:=.seq #[.ref h.objs.size,.ref (Dg h t).objs.size,.ref (B9 h t u).objs.size] }
abbrev JR(h:Heap)(t u v:Bool×Addr):Heap:=(JS h t u v).push { cls:=.type "tuple",data:=.seq #[.none,.none,.none] }
abbrev Df(h:Heap)(t u v:Bool×Addr):Heap:=(JR h t u v).push { cls:=.type "zip",data:=.fields #[.none,.bool false,.bool false,.ref (JV h t u v).objs.size,.ref (JS h t u v).objs.size] }
theorem aH6(t u:Bool×Addr)(xs ys:Array Value) :
  Meets (Builtin.«zip.__new__» ⟨[.type "zip",.ref t.2,.ref u.2],[]⟩) (λ_ R s=>jF s.heap t.1 t.2 xs/\jF s.heap u.1 u.2 ys/\
   R (.ok (.ret (.ref (JT s.heap t u).objs.size))) { s with heap:=EG s.heap t u }):=
 .of_wp λprog w A R s h=>by
  obtain⟨hp,g,d,tk,os⟩:=s;obtain⟨tm,vj,h⟩:=h;have Ut:=sub_zip;have Oa:jF (Shared.heap ⟨hp,g,d,tk,os⟩) t.1 t.2 xs:=tm;have N9:jF (Shared.heap ⟨hp.push (oZ t.1 t.2),g,d,tk,os⟩) u.1 u.2 ys:=jF.at vj λo e=>fL _ e
  wp_walk using nL Oa,nL N9
  exact⟨_,rfl,h⟩
theorem aH7(t u v:Bool×Addr)(xs ys zs:Array Value) :
  Meets (Builtin.«zip.__new__» ⟨[.type "zip",.ref t.2,.ref u.2,.ref v.2],[]⟩) (λ_ R s=>jF s.heap t.1 t.2 xs/\jF s.heap u.1 u.2 ys/\jF s.heap v.1 v.2 zs/\
   R (.ok (.ret (.ref (JR s.heap t u v).objs.size))) { s with heap:=Df s.heap t u v }):=
 .of_wp λprog w A R s h=>by
  obtain⟨hp,g,d,tk,os⟩:=s;obtain⟨tm,vj,Wn,h⟩:=h;have Ut:=sub_zip;have Oa:jF (Shared.heap ⟨hp,g,d,tk,os⟩) t.1 t.2 xs:=tm;have N9:jF (Shared.heap ⟨hp.push (oZ t.1 t.2),g,d,tk,os⟩) u.1 u.2 ys:=jF.at vj λo e=>fL _ e;have hL3:jF (Shared.heap ⟨(hp.push (oZ t.1 t.2)).push (oZ u.1 u.2),g,d,tk,os⟩) v.1 v.2 zs:=jF.at Wn λo e=>fL _ (fL _ e)
  wp_walk using nL Oa,nL N9,nL hL3
  exact⟨_,rfl,h⟩
section
variable{prog:Program}{w:World}{A:Around}{E:ar}{s:Shared}
theorem aJn{t u:Bool×Addr}{xs ys:Array Value}{Q:ar}(h1:jF s.heap t.1 t.2 xs)(h2:jF s.heap u.1 u.2 ys)
  (h:∀h',HM (s.heap.objs.size+4) (s.heap.objs.size+2) (s.heap.objs.size+3) [(t.1,s.heap.objs.size,t.2),(u.1,s.heap.objs.size+1,u.2)] 0 h'->(∀c o,s.heap.get? c=some o->h'.get? c=some o)->Q (.ref (s.heap.objs.size+4)) { s with heap:=h' }) :
  wpAny (model prog w) A (call (.type "zip") [.ref t.2,.ref u.2]) Q E s:=by
 refine callType_new F.called_zip (by decide) (F.typeCall_zip_2 _ _) (F.newCall_zip_2 _ _) (λobj=>F.args_object_init_3 obj _ _) F.entry_zip_new
  (aH6 t u xs ys) ⟨h1,h2,?_⟩
 have z1:(Dg s.heap t).objs.size=s.heap.objs.size+1:=vb ..;have z2:(B9 s.heap t u).objs.size=s.heap.objs.size+2:=by rw[vb,z1]
 have z3:(JU s.heap t u).objs.size=s.heap.objs.size+3:=by rw[vb,z2]
 have z4:(JT s.heap t u).objs.size=s.heap.objs.size+4:=by rw[vb,z3]
 have g5:(EG s.heap t u).get? (JT s.heap t u).objs.size=some _:=qP _ rfl;have g4:(EG s.heap t u).get? (JU s.heap t u).objs.size=some _:=fL _ (qP _ rfl);have g3:(EG s.heap t u).get? (B9 s.heap t u).objs.size=some _:=fL _ (fL _ (qP _ rfl));have g2:(EG s.heap t u).get? (Dg s.heap t).objs.size=some (oZ u.1 u.2):=fL _ (fL _ (fL _ (qP _ rfl)));have g1:(EG s.heap t u).get? s.heap.objs.size=some (oZ t.1 t.2):=fL _ (fL _ (fL _ (fL _ (qP _ rfl))));show _/\_;rw[z2,z3,z4] at g5;rw[z1,z2] at g3;rw[z3] at g4;rw[z1] at g2;rw[z4];refine⟨⟨_,g5,rfl⟩,h _ ⟨g5,g3,⟨_,g4,rfl⟩,λx hx=>?_⟩ λc o x=>
  fL _ (fL _ (fL _ (fL _ (fL _ x))))⟩
 simp only[lR,vd,or_false] at hx;rcases hx with rfl|rfl
 ·exact uq.new g1
 ·exact uq.new g2
theorem aJo{t u v:Bool×Addr}{xs ys zs:Array Value}{Q:ar}(h1:jF s.heap t.1 t.2 xs)(h2:jF s.heap u.1 u.2 ys)(h3:jF s.heap v.1 v.2 zs)
  (h:∀h',HM (s.heap.objs.size+5) (s.heap.objs.size+3) (s.heap.objs.size+4) [(t.1,s.heap.objs.size,t.2),(u.1,s.heap.objs.size+1,u.2),(v.1,s.heap.objs.size+2,v.2)] 0 h'->(∀c o,s.heap.get? c=some o->h'.get? c=some o)->Q (.ref (s.heap.objs.size+5)) { s with heap:=h' }) :
  wpAny (model prog w) A (call (.type "zip") [.ref t.2,.ref u.2,.ref v.2]) Q E s:=by
 refine callType_new F.called_zip (by decide) (aDT _ _ _) (aE8 _ _ _) (λobj=>zX obj _ _ _) F.entry_zip_new
  (aH7 t u v xs ys zs) ⟨h1,h2,h3,?_⟩
 have z1:(Dg s.heap t).objs.size=s.heap.objs.size+1:=vb ..;have z2:(B9 s.heap t u).objs.size=s.heap.objs.size+2:=by rw[vb,z1]
 have z3:(JV s.heap t u v).objs.size=s.heap.objs.size+3:=by rw[vb,z2]
 have z4:(JS s.heap t u v).objs.size=s.heap.objs.size+4:=by rw[vb,z3]
 have z5:(JR s.heap t u v).objs.size=s.heap.objs.size+5:=by rw[vb,z4]
 have g6:(Df s.heap t u v).get? (JR s.heap t u v).objs.size=some _:=qP _ rfl;have g5:(Df s.heap t u v).get? (JS s.heap t u v).objs.size=some _:=fL _ (qP _ rfl);have g4:(Df s.heap t u v).get? (JV s.heap t u v).objs.size=some _:=fL _ (fL _ (qP _ rfl));have g3:(Df s.heap t u v).get? (B9 s.heap t u).objs.size=some (oZ v.1 v.2):=fL _ (fL _ (fL _ (qP _ rfl)));have g2:(Df s.heap t u v).get? (Dg s.heap t).objs.size=some (oZ u.1 u.2):=fL _ (fL _ (fL _ (fL _ (qP _ rfl))));have g1:(Df s.heap t u v).get? s.heap.objs.size=some (oZ t.1 t.2):=fL _ (fL _ (fL _ (fL _ (fL _ (qP _ rfl)))));show _/\_;rw[z3,z4,z5] at g6;rw[z1,z2,z3] at g4;rw[z4] at g5;rw[z2] at g3;rw[z1] at g2;rw[z5];refine⟨⟨_,g6,rfl⟩,h _ ⟨g6,g4,⟨_,g5,rfl⟩,λx hx=>?_⟩ λc o x=>
  fL _ (fL _ (fL _ (fL _ (fL _ (fL _ x)))))⟩
 simp only[lR,vd,or_false] at hx;rcases hx with rfl|rfl|rfl
 ·exact uq.new g1
 ·exact uq.new g2
 ·exact uq.new g3
end
theorem qB{n a b:Nat}(h:a≠b):@Ne Addr (n+a) (n+b):=λe=>h (Nat.add_left_cancel e)
theorem za2(n:Nat)(t u:Bool×Addr):ZA (n+4) (n+2) (n+3) [(t.1,n,t.2),(u.1,n+1,u.2)]:=by
 refine⟨qB (by decide),qB (by decide),qB (by decide),λx hx=>?_,?_⟩
 ·simp only[lR,vd,or_false] at hx;rcases hx with rfl|rfl
  ·exact⟨qB (a:=0) (by decide),qB (a:=0) (by decide),qB (a:=0) (by decide)⟩
  ·exact⟨qB (by decide),qB (by decide),qB (by decide)⟩
 ·simp
theorem za3(n:Nat)(t u v:Bool×Addr):ZA (n+5) (n+3) (n+4) [(t.1,n,t.2),(u.1,n+1,u.2),(v.1,n+2,v.2)]:=by
 refine⟨qB (by decide),qB (by decide),qB (by decide),λx hx=>?_,?_⟩
 ·simp only[lR,vd,or_false] at hx;rcases hx with rfl|rfl|rfl
  ·exact⟨qB (a:=0) (by decide),qB (a:=0) (by decide),qB (a:=0) (by decide)⟩
  ·exact⟨qB (by decide),qB (by decide),qB (by decide)⟩
  ·exact⟨qB (by decide),qB (by decide),qB (by decide)⟩
 ·simp
end L2
namespace L2
open PySem PySem.Spec PyProof.Rows
def Src(H:Hp)(k:Bool)(a:Addr)(xs:List V):Prop:=H a=some (if k=true then .lst xs else .tup xs)
theorem Src.inj{k:Bool}(h:Src H k a xs)(h':Src H k a ys):xs=ys:=by
 unfold Src at h h';rw[h] at h';cases k with
 |true=>injection h' with e;injection e
 |false=>injection h' with e;injection e
theorem Src.lst{H:Hp}{a:Addr}{xs:List V}(h:H a=some (.lst xs)):Src H true a xs:=h
theorem Src.tup{H:Hp}{a:Addr}{xs:List V}(h:H a=some (.tup xs)):Src H false a xs:=h
theorem Inv.src{s:Shared}{k:Bool}{xs:List V}(I:Inv X pins σ H s)(h:Src H k a xs):∃az:aj,Vals xs az/\jF s.heap k a az.toArray/\xs.length<=sizeLine:=by
 cases k with
 |true=>
  obtain⟨az,r,p,z⟩:=I.list (bP.of h);exact⟨az,r,p.isList,z⟩
 |false=>
  obtain⟨az,r,p,z⟩:=I.tuple (gZ.of h);exact⟨az,r,p,z⟩
theorem aCl:∀{xs:List V}{us:aj},xs.length=us.length->(∀(j:Nat) (x:V) (u:Value),xs[j]?=some x->us[j]?=some u->RelV x u)->Vals xs us
 |[],[],_,_=>.nil
 |x::xs,u::us,h,f=>.cons (f 0 x u rfl rfl) (aCl (by simpa using h) λj y v h1 h2=>f (j+1) y v (by simpa using h1) (by simpa using h2))
 |[],_::_,h,_=>by cases h
 |_::_,[],h,_=>by cases h
def uv(L:List (Bool×Addr)):It:=
 ⟨λi H=>∀t∈L,∃xs x,Src H t.1 t.2 xs/\xs[i]?=some x,
  λi H v H'=>∃T vs,H T=none/\v=.ref T/\H'=upd H T (.tup vs)/\vs.length=L.length/\∀(j:Nat) (t:Bool×Addr) (xs:List V),L[j]?=some t->Src H t.1 t.2 xs->∃x,xs[i]?=some x/\vs[j]?=some x,
  λi H=>(∀t∈L,∃xs,Src H t.1 t.2 xs)/\∃t∈L,∃xs,Src H t.1 t.2 xs/\xs.length<=i⟩
def zL(L:List ZS):List (Bool×Addr):=L.map λt=>(t.1,t.2.2)
theorem Zb{L:List ZS}{t:ZS}(h:t∈L):(t.1,t.2.2)∈zL L:=qQ.mpr ⟨t,h,rfl⟩
theorem aRe{L:List ZS}{j:Nat}{t:Bool×Addr}(h:(zL L)[j]?=some t):∃u,L[j]?=some u/\t=(u.1,u.2.2):=by
 unfold zL at h;rw[nE] at h;cases e:L[j]? with
 |none=>rw[e] at h;cases h
 |some u=>rw[e] at h;cases h;exact⟨u,rfl,rfl⟩
abbrev pq(z TI TO:Addr)(L:List ZS):ay:=z::TI::TO::L.map (·.2.1)
theorem Hz{z TI TO:Addr}{L:List ZS}{t:ZS}(h:t∈L):t.2.1∈pq z TI TO L:=by
 simp only[pq,lR];exact .inr (.inr (.inr (qQ.mpr ⟨t,h,rfl⟩)))
theorem HM.obj{z TI TO:Addr}{L:List ZS}{i:Nat}{h:Heap}(st:HM z TI TO L i h):∀b∈pq z TI TO L,∃o,h.get? b=some o/\∀v,o.data≠.cell v:=λb hb=>by
 obtain⟨hz,ud,⟨arr,sk,_⟩,hit⟩:=st;simp only[pq,lR] at hb;rcases hb with rfl|rfl|rfl|hb
 ·exact⟨_,hz,λv z=>by cases z⟩
 ·exact⟨_,ud,λv z=>by cases z⟩
 ·exact⟨_,sk,λv z=>by cases z⟩
 ·obtain⟨t,ht,rfl⟩:=qQ.mp hb;obtain⟨o,vs,e,d⟩:=(hit t ht).obj;exact⟨o,e,λv z=>by rw[d] at z;cases z⟩
theorem aFZ{P:Program}{w:World}{K:W.Frag}{elts:List Expr}{x1:Nat}{tp:Pos}(L:List ZS)(z TI TO:Addr)(D:ZA z TI TO L)(cq:L≠[])(hlen:L.length<=1000) :
  Turn P w K (.Tuple elts x1 tp) (uv (zL L)) (pq z TI TO L) z (HM z TI TO L) where
 mem:=by simp[pq]
 obj:=λi h st=>st.obj
 keep:=λi h h' st k=>by
  obtain⟨hz,ud,⟨arr,sk,ha⟩,hit⟩:=st;exact⟨k z (by simp[pq]) _ hz,k TI (by simp[pq]) _ ud,⟨arr,k TO (by simp[pq]) _ sk,ha⟩,λt ht=>(hit t ht).at λo q=>k _ (Hz ht) o q⟩
 item:=by
  intro X hP hw hK hc i pins s σ H E I hf st hg;subst hP hw hK;have Cp:∀b∈pq z TI TO L,b < s.heap.objs.size:=λb hb=>by obtain⟨o,e,_⟩:=st.obj b hb;exact iM e
  obtain⟨hz,ud,⟨arr,sk,AH⟩,hit⟩:=st;have key:∀j:Nat,∃r:aj×Value×V,∀t,L[j]?=some t->jF s.heap t.1 t.2.2 r.1.toArray/\(∀xs,Src H t.1 t.2.2 xs->xs[i]?=some r.2.2)/\r.1[i]?=some r.2.1/\RelV r.2.2 r.2.1/\t.2.2∉pq z TI TO L:=λj=>by
   cases e:L[j]? with
   |none=>exact⟨([],.none,.bw),λt h=>by cases h⟩
   |some t=>
    obtain⟨xs,x,hs,hx⟩:=hg _ (Zb (jW e));obtain⟨az,r,src,_⟩:=I.src hs;obtain⟨u,hu,ru⟩:=r.get hx;refine⟨(az,u,x),λt' h=>?_⟩;cases h;refine⟨src,λys hy=>by rw[hy.inj hs];exact hx,hu,ru,λhm=>?_⟩;have:=(hf _ hm).1;unfold Src at hs;rw[show H t.2.2=some (if t.1=true then .lst xs else .tup xs) from hs] at this;cases this
  obtain⟨f,A4⟩:=Classical.axiomOfChoice key;have S:OM z TO L:=λt ht=>by
   obtain⟨j,hj⟩:=ye ht;have n:=(A4 j t hj).2.2.2.2;refine⟨λe=>n (by rw[e];simp[pq]),λe=>n (by rw[e];simp[pq]),λu hu e=>n (by rw[e];exact Hz hu)⟩
  have Ni:∀j,j < L.length->∃t,L[j]?=some t:=λj hj=>⟨_,dM hj⟩
  unfold pyNext;have hT:s.TypeIs (.ref z) "zip":=⟨_,hz,rfl⟩
  refine bN (FZ (wpAny_callSpecial?_slot (name:=Str.ofString "__next__") hT F.slot_zip_next
   (yz F.slot_zip_next hT F.entry_zip_next (aH5 (items:=λj=>(f j).1.toArray) (xs:=λj=>(f j).2.1) (I.ok.hd hc) D S cq hlen hz ud sk AH hit (λj t hj=>(A4 j t hj).1) (λj hj x hx=>?_)
    (λ_ h1 rj a1 a2 a3 a4 a5 a6 a7 hk=>dY ⟨_,rfl,wpAny_letOwnedTupleGo_zip a1 λg2 E1 cj=>?_⟩) (λhE=>?_)) (F.args_zip_next_1 _))))
  ·obtain⟨t,ht⟩:=Ni j hj;have e:=(A4 j t ht).2.2.1;have tf:(f j).1[i]?=some x:=by simpa using hx
   rw[e] at tf;exact(Option.some.inj tf).symm
  ·replace cj:Heap.SameBut z h1 g2:=cj
   have um:g2.IsTuple s.heap.objs.size rj:=⟨_,(cj.2 _ (yx (Cp z (by simp[pq])))).trans a6,rfl,_,rfl⟩
   have kk:∀b o,b∉pq z TI TO L->s.heap.get? b=some o->g2.get? b=some o:=λb o hb q=>by
    have n1:b≠z:=λe=>hb (by rw[e];simp[pq]);exact(cj.2 b n1).trans (hk b o n1 (λe=>hb (by rw[e];simp[pq])) (λt ht e=>hb (by rw[e];exact Hz ht)) q)
   have rv:Vals ((List.range L.length).map λj=>(f j).2.2) rj.toList:=by
    refine aCl (by simp[a3]) λj x u hx hu=>?_;rw[nE] at hx;by_cases hj:j < L.length
    ·rw[Ml hj] at hx;cases hx;obtain⟨t,ht⟩:=Ni j hj;have e:=a4 j hj;have Cs:rj[j]?=some u:=by simpa using hu
     rw[e] at Cs;cases Cs;exact(A4 j t ht).2.2.2.1
    ·rw[F8 (by simpa using hj)] at hx;cases hx
   have I2:Inv X pins σ (upd H s.heap.objs.size (.tup ((List.range L.length).map λj=>(f j).2.2))) { s with heap:=g2 }:=
    I.xF (t':=s.toks) kk hf (eO _) (show cR X.prog X.w _ g2 _ (.tup _) from⟨bV (by simp;lia),rj.toList,rv,by simpa using show IsTup g2 s.heap.objs.size rj from um⟩)
   have DL:H s.heap.objs.size=none:=I.bf.fresh (eO _);refine⟨.ref s.heap.objs.size,_,I2,rfl,⟨_,_,DL,rfl,rfl,by simp[zL],λj t xs hj hs=>?_⟩,⟨E1,?_,⟨rj,cj.extBut _ _ D.TOz a2,a3⟩,λt ht=>(a5 t ht).at λo q=>(cj.2 _ (D.it t ht).1).trans q⟩,λb hb=>?_⟩
   ·obtain⟨u,hu,rfl⟩:=aRe hj;have DH:j < L.length:=(iZ.mp hu).1;refine⟨(f j).2.2,(A4 j u hu).2.1 xs hs,?_⟩;rw[nE,Ml DH];rfl
   ·exact cj.extBut _ _ D.TIz (hk _ _ D.TIz D.TITO (λt ht=>Ne.symm (D.it t ht).2.1) ud)
   ·rw[bA (rR (Cp b hb))];exact(hf b hb).1
  ·exfalso;obtain⟨j,hj,e⟩:=hE;obtain⟨t,ht⟩:=Ni j hj;have e':(f j).1[i]?=none:=by simpa using e
   rw[(A4 j t ht).2.2.1] at e';cases e'
 done:=by
  intro X hP hw hK hc i pins s σ H E I hf st hg;subst hP hw hK;obtain⟨hz,ud,⟨arr,sk,AH⟩,hit⟩:=st;obtain⟨AI,t0,ht0,xs0,Ku,Wo⟩:=hg;have key:∀j:Nat,∃r:aj,∀t,L[j]?=some t->jF s.heap t.1 t.2.2 r.toArray/\(∀xs,Src H t.1 t.2.2 xs->xs.length=r.length)/\t.2.2∉pq z TI TO L:=λj=>by
   cases e:L[j]? with
   |none=>exact⟨[],λt h=>by cases h⟩
   |some t=>
    obtain⟨xs,hs⟩:=AI _ (Zb (jW e));obtain⟨az,r,src,_⟩:=I.src hs;refine⟨az,λt' h=>?_⟩;cases h;refine⟨src,λys hy=>by rw[hy.inj hs];exact r.length,λhm=>?_⟩;have:=(hf _ hm).1;unfold Src at hs;rw[show H t.2.2=some (if t.1=true then .lst xs else .tup xs) from hs] at this;cases this
  obtain⟨f,A4⟩:=Classical.axiomOfChoice key;have S:OM z TO L:=λt ht=>by
   obtain⟨j,hj⟩:=ye ht;have n:=(A4 j t hj).2.2;refine⟨λe=>n (by rw[e];simp[pq]),λe=>n (by rw[e];simp[pq]),λu hu e=>n (by rw[e];exact Hz hu)⟩
  unfold pyNext;have hT:s.TypeIs (.ref z) "zip":=⟨_,hz,rfl⟩
  refine bN (FZ (wpAny_callSpecial?_slot (name:=Str.ofString "__next__") hT F.slot_zip_next
   (yz F.slot_zip_next hT F.entry_zip_next (aH5 (items:=λj=>(f j).toArray) (xs:=λj=>((f j)[i]?).getD .none) (I.ok.hd hc) D S cq hlen hz ud sk AH hit (λj t hj=>(A4 j t hj).1) (λj hj x hx=>?_)
    (λJN=>?_) (λhE h1 e hk he=>?_)) (F.args_zip_next_1 _))))
  ·have tf:(f j)[i]?=some x:=by simpa using hx
   rw[tf];rfl
  ·exfalso;obtain⟨u,hu,rfl⟩:=qQ.mp ht0;obtain⟨j,hj⟩:=ye hu;have e1:=(A4 j u hj).2.1 xs0 Ku;have e2:=JN j (iZ.mp hj).1;have e3:(f j)[i]?=some (((f j)[i]?).getD .none):=by simpa using e2
   rw[F8 (by lia)] at e3;cases e3
  ·obtain⟨o,ho,uz⟩:=he;refine bN (wpAny_isInstance (T:="StopIteration") (b:=true) ⟨o,ho,uz⟩ isSubtype_stop ?_);refine dY ⟨rfl,I.aFY (t':=s.toks) (ch:=pq z TI TO L) (λb o hb q=>?_) hf⟩;exact hk b o (λe=>hb (by rw[e];simp[pq])) (λe=>hb (by rw[e];simp[pq])) (λt ht e=>hb (by rw[e];exact Hz ht)) q
 self:=λ_ _ _ _ _ st h=>wpAny_pyIter_zip st.1 h
section
variable{X:Cx}{elts:List Expr}{x1:Nat}{tp:Pos}{k1 k2 k3:Bool}
def OK(k1 k2:Bool)(R:It->Hp->Prop):List V->Hp->Prop:=λvs H1=>∃a b xs ys,vs=[.ref a,.ref b]/\Src H1 k1 a xs/\Src H1 k2 b ys/\R (uv [(k1,a),(k2,b)]) H1
def Ph(k1 k2:Bool)(ta:TA):TI:=λσ H R=>ta σ H (OK k1 k2 R)
def OJ(k1 k2 k3:Bool)(R:It->Hp->Prop):List V->Hp->Prop:=λvs H1=>∃a b c xs ys zs,vs=[.ref a,.ref b,.ref c]/\Src H1 k1 a xs/\Src H1 k2 b ys/\Src H1 k3 c zs/\R (uv [(k1,a),(k2,b),(k3,c)]) H1
def Pg(k1 k2 k3:Bool)(ta:TA):TI:=λσ H R=>ta σ H (OJ k1 k2 k3 R)
theorem vals3{x y z:V}{us:aj}(r:Vals [x,y,z] us):∃u v w,us=[u,v,w]/\RelV x u/\RelV y v/\RelV z w:=by
 cases r with
 |cons r1 r=>
  cases r with
  |cons r2 r=>
   cases r with
   |cons r3 r=>
    cases r;exact⟨_,_,_,rfl,r1,r2,r3⟩
theorem aON{a b:Expr}{ta:TA}{p pos:Pos}(hg:Gl X "zip")(hm:X.mg "zip" = none)(ha:PA X [a,b] ta)(hn:noStar a=true:=by rfl)(tj:noStar b=true:=by rfl):PI X (.Tuple elts x1 tp) (.Call (.Name "zip" p) [a,b] [] pos) (Ph k1 k2 ta):=by
 intro pins s σ H R I h;have cj:starEach [b] X.env=[(false,eval b X.env)]:=bW tj;have hs:starEach [a,b] X.env=[(false,eval a X.env),(false,eval b X.env)]:=by rw[bW hn,cj]
 refine Call_ (lS I hg hm PH (PyProof.Rows.callWith_type1 (eF (ha pos pins s σ H _ I h) λus s1 ⟨vs,H1,I1,r1,q1⟩=>?_) (by rw[hs,cj]) (by rw[cj];rfl)));obtain⟨l1,l2,xs,ys,e,A1,A0,q⟩:=q1;subst e;obtain⟨u,v,rfl,ru,rv⟩:=vals2 r1;cases ru;cases rv;obtain⟨az,_,pl,_⟩:=I1.src A1;obtain⟨xa,_,EK,_⟩:=I1.src A0;refine aJn (t:=(k1,l1)) (u:=(k2,l2)) pl EK λh' st hk=>?_;refine wpAny_pyIter_zip st.1 ?_;refine⟨_,_,_,_,H1,rfl,I1.kept (t':=s1.toks) hk,aFZ _ _ _ _ (za2 s1.heap.objs.size (k1,l1) (k2,l2)) (by simp) (by simp),st,λb hb=>?_,q⟩;have hle:s1.heap.objs.size<=b:=by
  simp only[pq,jz,CQ,lR,vd,or_false] at hb;rcases hb with rfl|rfl|rfl|rfl|rfl <;> first|exact Nat.le_add_right _ _|exact eO _
 exact I1.Bg hle (I1.bf.fresh hle)
theorem aOO{a b c:Expr}{ta:TA}{p pos:Pos}(hg:Gl X "zip")(hm:X.mg "zip" = none)(ha:PA X [a,b,c] ta)(hn:noStar a=true:=by rfl)(tj:noStar b=true:=by rfl)(NG:noStar c=true:=by rfl):PI X (.Tuple elts x1 tp) (.Call (.Name "zip" p) [a,b,c] [] pos) (Pg k1 k2 k3 ta):=by
 intro pins s σ H R I h;have E3:starEach [c] X.env=[(false,eval c X.env)]:=bW NG;have cj:starEach [b,c] X.env=[(false,eval b X.env),(false,eval c X.env)]:=by rw[bW tj,E3]
 have hs:starEach [a,b,c] X.env=[(false,eval a X.env),(false,eval b X.env),(false,eval c X.env)]:=by rw[bW hn,cj]
 refine Call_ (lS I hg hm PH (PyProof.Rows.callWith_type1 (eF (ha pos pins s σ H _ I h) λus s1 ⟨vs,H1,I1,r1,q1⟩=>?_) (by rw[hs,cj]) (by rw[cj];rfl)));obtain⟨l1,l2,l3,xs,ys,zs,e,A1,A0,hq3,q⟩:=q1;subst e;obtain⟨u,v,w,rfl,ru,rv,vh⟩:=vals3 r1;cases ru;cases rv;cases vh;obtain⟨az,_,pl,_⟩:=I1.src A1;obtain⟨xa,_,EK,_⟩:=I1.src A0;obtain⟨a0n,_,pl3,_⟩:=I1.src hq3;refine aJo (t:=(k1,l1)) (u:=(k2,l2)) (v:=(k3,l3)) pl EK pl3 λh' st hk=>?_;refine wpAny_pyIter_zip st.1 ?_;refine⟨_,_,_,_,H1,rfl,I1.kept (t':=s1.toks) hk,aFZ _ _ _ _ (za3 s1.heap.objs.size (k1,l1) (k2,l2) (k3,l3)) (by simp) (by simp),st,λb hb=>?_,q⟩;have hle:s1.heap.objs.size<=b:=by
  simp only[pq,jz,CQ,lR,vd,or_false] at hb;rcases hb with rfl|rfl|rfl|rfl|rfl|rfl <;> first|exact Nat.le_add_right _ _|exact eO _
 exact I1.Bg hle (I1.bf.fresh hle)
end
section
variable{σ:St}{H:Hp}{nx:St->Hp->Prop}{rt:VK}{g:TG}{tb:TS}{Q:VK}{k1 k2 k3:Bool}{a b c:Addr}{xs ys zs:List V}{n:Nat}
theorem aMH{ta:TA}{R:It->Hp->Prop}(h:ta σ H (OK k1 k2 R)):Ph k1 k2 ta σ H R:=h
theorem aMI{ta:TA}{R:It->Hp->Prop}(h:ta σ H (OJ k1 k2 k3 R)):Pg k1 k2 k3 ta σ H R:=h
theorem sC{R:It->Hp->Prop}(h1:Src H k1 a xs)(h2:Src H k2 b ys)(h:R (uv [(k1,a),(k2,b)]) H):OK k1 k2 R [.ref a,.ref b] H:=⟨a,b,xs,ys,rfl,h1,h2,h⟩
theorem FX{R:It->Hp->Prop}(h1:Src H k1 a xs)(h2:Src H k2 b ys)(h3:Src H k3 c zs)(h:R (uv [(k1,a),(k2,b),(k3,c)]) H):OJ k1 k2 k3 R [.ref a,.ref b,.ref c] H:=⟨a,b,c,xs,ys,zs,rfl,h1,h2,h3,h⟩
theorem ZC{i:Nat}(h1:Src H k1 a xs)(h2:Src H k2 b ys){x y:V}(e1:xs[i]?=some x)(e2:ys[i]?=some y):(uv [(k1,a),(k2,b)]).go i H:=λt ht=>by
 simp only[lR,vd,or_false] at ht;rcases ht with rfl|rfl
 ·exact⟨xs,x,h1,e1⟩
 ·exact⟨ys,y,h2,e2⟩
theorem aH8{i:Nat}(h1:Src H k1 a xs)(h2:Src H k2 b ys){v:V}{H':Hp}(h:(uv [(k1,a),(k2,b)]).uy i H v H'):∃T x y,H T=none/\v=.ref T/\H'=upd H T (.tup [x,y])/\xs[i]?=some x/\ys[i]?=some y:=by
 obtain⟨T,vs,nT,e1,e2,hl,hv⟩:=h;obtain⟨x,hx,v0⟩:=hv 0 _ xs rfl h1;obtain⟨y,hy,v1⟩:=hv 1 _ ys rfl h2
 match vs,hl with
 |[p,q],_=>cases v0;cases v1;exact⟨T,_,_,nT,e1,e2,hx,hy⟩
theorem aF0{i:Nat}(h1:Src H k1 a xs)(h2:Src H k2 b ys)(hm:xs.length<=i\/ys.length<=i):(uv [(k1,a),(k2,b)]).stop i H:=by
 refine⟨λt ht=>?_,?_⟩
 ·simp only[lR,vd,or_false] at ht;rcases ht with rfl|rfl
  ·exact⟨xs,h1⟩
  ·exact⟨ys,h2⟩
 ·rcases hm with h|h
  ·exact⟨(k1,a),by simp,xs,h1,h⟩
  ·exact⟨(k2,b),by simp,ys,h2,h⟩
theorem Zz{i:Nat}(h1:Src H k1 a xs)(h2:Src H k2 b ys)(h3:Src H k3 c zs){x y z:V}(e1:xs[i]?=some x)(e2:ys[i]?=some y)(e3:zs[i]?=some z):(uv [(k1,a),(k2,b),(k3,c)]).go i H:=λt ht=>by
 simp only[lR,vd,or_false] at ht;rcases ht with rfl|rfl|rfl
 ·exact⟨xs,x,h1,e1⟩
 ·exact⟨ys,y,h2,e2⟩
 ·exact⟨zs,z,h3,e3⟩
theorem aH9{i:Nat}(h1:Src H k1 a xs)(h2:Src H k2 b ys)(h3:Src H k3 c zs){v:V}{H':Hp}(h:(uv [(k1,a),(k2,b),(k3,c)]).uy i H v H'):∃T x y z,H T=none/\v=.ref T/\H'=upd H T (.tup [x,y,z])/\xs[i]?=some x/\ys[i]?=some y/\zs[i]?=some z:=by
 obtain⟨T,vs,nT,e1,e2,hl,hv⟩:=h;obtain⟨x,hx,v0⟩:=hv 0 _ xs rfl h1;obtain⟨y,hy,v1⟩:=hv 1 _ ys rfl h2;obtain⟨z,hz,v2⟩:=hv 2 _ zs rfl h3
 match vs,hl with
 |[p,q,r],_=>cases v0;cases v1;cases v2;exact⟨T,_,_,_,nT,e1,e2,hx,hy,hz⟩
theorem aF1{i:Nat}(h1:Src H k1 a xs)(h2:Src H k2 b ys)(h3:Src H k3 c zs)(hm:xs.length<=i\/ys.length<=i\/zs.length<=i):(uv [(k1,a),(k2,b),(k3,c)]).stop i H:=by
 refine⟨λt ht=>?_,?_⟩
 ·simp only[lR,vd,or_false] at ht;rcases ht with rfl|rfl|rfl
  ·exact⟨xs,h1⟩
  ·exact⟨ys,h2⟩
  ·exact⟨zs,h3⟩
 ·rcases hm with h|h|h
  ·exact⟨(k1,a),by simp,xs,h1,h⟩
  ·exact⟨(k2,b),by simp,ys,h2,h⟩
  ·exact⟨(k3,c),by simp,zs,h3,h⟩
theorem Zy(n1:n<=xs.length)(n2:n<=ys.length)(nm:xs.length=n\/ys.length=n)(Pv:Nat->St->Hp->Prop)(h0:Pv 0 σ H)(hl:∀i σ H,i<=n->Pv i σ H->Src H k1 a xs/\Src H k2 b ys)
  (hs:∀i x y σ H T,xs[i]?=some x->ys[i]?=some y->Pv i σ H->H T=none->g (.ref T) σ (upd H T (.tup [x,y])) λσ2 H2=>tb ⟨Pv (i+1),rt,nx,Pv (i+1)⟩ σ2 H2) (hd:∀σ H,Pv n σ H->nx σ H) :
  ∃W:Nat->Nat->St->Hp->Prop,(∃m,W 0 m σ H)/\∀i m σ H,W i m σ H->
   ((uv [(k1,a),(k2,b)]).stop i H/\nx σ H)\/((uv [(k1,a),(k2,b)]).go i H/\∃N:St->Hp->Prop,(∀σ' H',N σ' H'->∃m',m' < m/\W (i+1) m' σ' H')/\∀x H',(uv [(k1,a),(k2,b)]).uy i H x H'->g x σ H' λσ2 H2=>tb ⟨N,rt,nx,N⟩ σ2 H2):=by
 refine⟨λi m σ H=>m=n - i/\i<=n/\Pv i σ H,⟨n,by simp,qw _,h0⟩,?_⟩;rintro i m σ H ⟨rfl,hi,p⟩;obtain⟨q1,q2⟩:=hl i σ H hi p;by_cases fh:i < n
 ·refine .inr ⟨ZC q1 q2 (dM (show i < xs.length by lia)) (dM (show i < ys.length by lia)),Pv (i+1),λσ' H' p'=>⟨n - (i+1),by lia,rfl,fh,p'⟩,λx H' y=>?_⟩;obtain⟨T,u,v,hT,e1,e2,y1,y2⟩:=aH8 q1 q2 y;subst e1 e2;exact hs i u v σ H T y1 y2 p hT
 ·have e:i=n:=by lia
  subst e;exact .inl ⟨aF0 q1 q2 (by lia),hd σ H p⟩
theorem aOP(n1:n<=xs.length)(n2:n<=ys.length)(n3:n<=zs.length)(nm:xs.length=n\/ys.length=n\/zs.length=n)(Pv:Nat->St->Hp->Prop)(h0:Pv 0 σ H)(hl:∀i σ H,i<=n->Pv i σ H->Src H k1 a xs/\Src H k2 b ys/\Src H k3 c zs)
  (hs:∀i x y z σ H T,xs[i]?=some x->ys[i]?=some y->zs[i]?=some z->Pv i σ H->H T=none->g (.ref T) σ (upd H T (.tup [x,y,z])) λσ2 H2=>tb ⟨Pv (i+1),rt,nx,Pv (i+1)⟩ σ2 H2) (hd:∀σ H,Pv n σ H->nx σ H) :
  ∃W:Nat->Nat->St->Hp->Prop,(∃m,W 0 m σ H)/\∀i m σ H,W i m σ H->
   ((uv [(k1,a),(k2,b),(k3,c)]).stop i H/\nx σ H)\/((uv [(k1,a),(k2,b),(k3,c)]).go i H/\∃N:St->Hp->Prop,(∀σ' H',N σ' H'->∃m',m' < m/\W (i+1) m' σ' H')/\∀x H',(uv [(k1,a),(k2,b),(k3,c)]).uy i H x H'->g x σ H' λσ2 H2=>tb ⟨N,rt,nx,N⟩ σ2 H2):=by
 refine⟨λi m σ H=>m=n - i/\i<=n/\Pv i σ H,⟨n,by simp,qw _,h0⟩,?_⟩;rintro i m σ H ⟨rfl,hi,p⟩;obtain⟨q1,q2,q3⟩:=hl i σ H hi p;by_cases fh:i < n
 ·refine .inr ⟨Zz q1 q2 q3 (dM (show i < xs.length by lia)) (dM (show i < ys.length by lia)) (dM (show i < zs.length by lia)),Pv (i+1),λσ' H' p'=>⟨n - (i+1),by lia,rfl,fh,p'⟩,λx H' y=>?_⟩;obtain⟨T,u,v,w,hT,e1,e2,y1,y2,y3⟩:=aH9 q1 q2 q3 y;subst e1 e2;exact hs i u v w σ H T y1 y2 y3 p hT
 ·have e:i=n:=by lia
  subst e;exact .inl ⟨aF1 q1 q2 q3 (by lia),hd σ H p⟩
end
section
variable{σ₀:St}{g:TG}{tt:TT}{te:TE}{R:List V->Hp->Prop}{H:Hp}{k1 k2 k3:Bool}{a b c:Addr}{xs ys zs:List V}{n:Nat}
theorem j9(n1:n<=xs.length)(n2:n<=ys.length)(nm:xs.length=n\/ys.length=n)(hz:n<=sizeLine)(Pv:Nat->List V->Hp->Prop)(h0:Pv 0 [] H)
  (hl:∀i us H,i<=n->Pv i us H->(Src H k1 a xs/\Src H k2 b ys)/\us.length<=i)
  (hs:∀i x y us H T,xs[i]?=some x->ys[i]?=some y->Pv i us H->H T=none->g (.ref T) σ₀ (upd H T (.tup [x,y])) λσ2 H2=>tt σ2 H2 λb H3=>if b=true then te σ2 H3 λy H4=>Pv (i+1) (us ++ [y]) H4 else Pv (i+1) us H3)
  (hd:∀us H,Pv n us H->R us H):lU (uv [(k1,a),(k2,b)]) σ₀ g tt te R H:=by
 refine⟨λi m us H=>m=n - i/\i<=n/\Pv i us H,⟨n,by simp,qw _,h0⟩,?_⟩;rintro i m us H ⟨rfl,hi,p⟩;obtain⟨⟨q1,q2⟩,ql⟩:=hl i us H hi p;refine⟨by lia,?_⟩;by_cases fh:i < n
 ·refine .inr ⟨ZC q1 q2 (dM (show i < xs.length by lia)) (dM (show i < ys.length by lia)),Pv (i+1),λEI H' p'=>⟨n - (i+1),by lia,rfl,fh,p'⟩,λx H' y=>?_⟩;obtain⟨T,u,v,hT,e1,e2,y1,y2⟩:=aH8 q1 q2 y;subst e1 e2;exact hs i u v us H T y1 y2 p hT
 ·have e:i=n:=by lia
  subst e;exact .inl ⟨aF0 q1 q2 (by lia),hd us H p⟩
theorem qV(n1:n<=xs.length)(n2:n<=ys.length)(n3:n<=zs.length)(nm:xs.length=n\/ys.length=n\/zs.length=n)(hz:n<=sizeLine)(Pv:Nat->List V->Hp->Prop)(h0:Pv 0 [] H)
  (hl:∀i us H,i<=n->Pv i us H->(Src H k1 a xs/\Src H k2 b ys/\Src H k3 c zs)/\us.length<=i)
  (hs:∀i x y z us H T,xs[i]?=some x->ys[i]?=some y->zs[i]?=some z->Pv i us H->H T=none->g (.ref T) σ₀ (upd H T (.tup [x,y,z])) λσ2 H2=>tt σ2 H2 λb H3=>if b=true then te σ2 H3 λy H4=>Pv (i+1) (us ++ [y]) H4 else Pv (i+1) us H3)
  (hd:∀us H,Pv n us H->R us H):lU (uv [(k1,a),(k2,b),(k3,c)]) σ₀ g tt te R H:=by
 refine⟨λi m us H=>m=n - i/\i<=n/\Pv i us H,⟨n,by simp,qw _,h0⟩,?_⟩;rintro i m us H ⟨rfl,hi,p⟩;obtain⟨⟨q1,q2,q3⟩,ql⟩:=hl i us H hi p;refine⟨by lia,?_⟩;by_cases fh:i < n
 ·refine .inr ⟨Zz q1 q2 q3 (dM (show i < xs.length by lia)) (dM (show i < ys.length by lia)) (dM (show i < zs.length by lia)),Pv (i+1),λEI H' p'=>⟨n - (i+1),by lia,rfl,fh,p'⟩,λx H' y=>?_⟩;obtain⟨T,u,v,w,hT,e1,e2,y1,y2,y3⟩:=aH9 q1 q2 q3 y;subst e1 e2;exact hs i u v w us H T y1 y2 y3 p hT
 ·have e:i=n:=by lia
  subst e;exact .inl ⟨aF1 q1 q2 q3 (by lia),hd us H p⟩
end
section
variable{X:Cx}
def Hm(K:W.Frag):List V->Hp->VK->Prop:=λxs H Q=>∃(p:Addr) (ns:ae),xs=[.ref p]/\gZ K H p (ns.map V.int)/\Q (.int (List.sum ns)) H
theorem QN(hc:X.calm=true):eS X (.builtin "sum") (Hm X.K):=by
 intro pins s σ H xs us Q I r h;obtain⟨p,ns,rfl,hq,q⟩:=h;obtain⟨u,rfl,rx⟩:=vals1 r;cases rx;obtain⟨az,r',pl,hz⟩:=I.tuple hq;have hi:=intsAre_of r';obtain⟨xs,hx⟩:=hi.allInts.items;have E6:s.heap.IsTuple p (intItems xs):=hx▸pl;refine PySem.W.ktm_sumG (I.ok.hd hc) E6 λh' tk t' hk=>?_;have e1:ns=xs.toList.map (·.1):=by
  rw[<-nums_intItems,<-hx];exact(show numsOf az.toArray.toList=ns from hi.numsOf).symm
 have e2:preSum (numAt xs) xs.size=ns.sum:=by
  rw[preSum_eq,za (by simp),e1]
 rw[e2];exact⟨.int _,H,I.kept (t':=tk) hk,⟨t',rfl⟩,q⟩
theorem Qf{K:W.Frag}{H:Hp}{Q:VK}{p:Addr}{ns:ae}(h1:gZ K H p (ns.map V.int))(h:Q (.int (List.sum ns)) H):Hm K [.ref p] H Q:=⟨p,ns,rfl,h1,h⟩
def sD(K:W.Frag):List V->Hp->VK->Prop:=λxs H Q=>∃p ys,xs=[.ref p]/\((bP K H p ys/\∀l,H l=none->Q (.ref l) (upd H l (.tup ys)))\/(gZ K H p ys/\Q (.ref p) H))
theorem kA:eS X (.type "tuple") (sD X.K):=aE6
theorem sE{K:W.Frag}{H:Hp}{Q:VK}{p:Addr}{ys:List V}(h1:bP K H p ys)(h:∀l,H l=none->Q (.ref l) (upd H l (.tup ys))):sD K [.ref p] H Q:=⟨p,ys,rfl,.inl ⟨h1,h⟩⟩
structure Mx(K:W.Frag)(C:Addr):Prop where
 ha:PySem.W.findIn K (.ref C) "__class__" = some (some (.builtin "object.__class__"))
 hn:PySem.W.specialIn K (.builtin "object.__class__") "__get__" = some (some (.builtin "getset_descriptor.__get__"))
 Kr:PySem.W.takesIn K (.builtin "object.__class__")=some true
 hm:PySem.W.mroIn K C (.type "object")=some true
theorem Zx{K:W.Frag}{H:Hp}{a C dx:Addr}{fs:List (Str×V)}(i:Mx K C)(c:su K C)(e:H a=some (.ins C dx fs)):C6 K H (.ref a) (.ref C) true:=
 ⟨.ref C,.ins e c i.ha i.hn i.Kr i.hm,.inr ⟨C,rfl,by unfold PySem.W.kitOne;rw[cT (by simp)]⟩⟩
end
end L2
namespace L2.Z
open PySem PySem.Spec PyProof.Rows L2
section
variable{X:Cx}{p pos tp:Pos}{a b c:Expr}{elts:List Expr}{t:TA}{x1:Nat}{k1 k2 k3:Bool}
theorem gB(hg:Gl X "zip")(hm:X.mg "zip" = none)(ha:QA X [a,b] t)(hn:noStar a=true:=by rfl)(tj:noStar b=true:=by rfl):QI X (.Tuple elts x1 tp) (.Call (.Name "zip" p) [a,b] [] pos) (Ph k1 k2 t):=⟨L2.aON hg hm ha.h hn tj⟩
theorem kB(hg:Gl X "zip")(hm:X.mg "zip" = none)(ha:QA X [a,b,c] t)(hn:noStar a=true:=by rfl)(tj:noStar b=true:=by rfl)(NG:noStar c=true:=by rfl):QI X (.Tuple elts x1 tp) (.Call (.Name "zip" p) [a,b,c] [] pos) (Pg k1 k2 k3 t):=⟨L2.aOO hg hm ha.h hn tj NG⟩
theorem aLg{i j:Nat}{x y:Str}{px py pt:Pos}{kt k2 Dt}(hc:X.calm=true)(hN:X.N.Nodup)(hi:X.N[i]?=some x)(hj:X.N[j]?=some y)(Bv:i≠j)
  (hx:X.env.scope.names.lookup x=some .local) (hy:X.env.scope.names.lookup y=some .local) (ha:QA X [a,b] t)
  (hw:swappedStores [.Tuple [.Name x px,.Name y py] kt pt] (.Tuple [a,b] k2 Dt) X.env=pure (some [x,y]):=by rfl)
  (hs:swapsWithSole [.Tuple [.Name x px,.Name y py] kt pt] (.Tuple [a,b] k2 Dt) pos.line X.env=pure false:=by rfl) :
  QS X (.Assign [.Tuple [.Name x px,.Name y py] kt pt] (.Tuple [a,b] k2 Dt) pos) (O8 i j t):=⟨L2.aP4 hc hN hi hj Bv hx hy ha.h hw hs⟩
end
end L2.Z
namespace L2
open PySem PySem.Spec PyProof.Rows
theorem nw(o:HO)(n:H p=none):∃H2,upd H p o=H2/\aR H H2/\H2 p=some o:=⟨_,rfl,aR.new n,aP⟩
theorem wr(H:Hp)(p:Addr)(o:HO):∃H2,upd H p o=H2/\cI p H H2/\H2 p=some o:=⟨_,rfl,cI.upd,aP⟩
theorem VN{H:Hp}{x dx C:Addr}(nx:H x=none)(nd:H dx=none)(hd:dx≠x):∃H2,upd (upd H dx (.own x)) x (.ins C dx [])=H2/\aR H H2/\H2 x=some (.ins C dx []):=
 ⟨_,rfl,λb o e=>by rw[bA (bG nx e),bA (bG nd e)];exact e,aP⟩
def Nx(N:St->Hp->Prop)(σ:St)(H:Hp):Prop:=N σ H
structure Tail(N b:St->Hp->Prop):Prop where
 h:∀σ H,b σ H->N σ H
theorem aOQ{nx bk ct:St->Hp->Prop}{t u:TS}(h:∀N,Tail N (u ⟨nx,rt,bk,ct⟩)->t ⟨Nx N,rt,bk,ct⟩ σ H):Hi t u ⟨nx,rt,bk,ct⟩ σ H:=h _ ⟨λ_ _ h=>h⟩
theorem aSg{N b:St->Hp->Prop}(t:Tail N b)(h:b σ H):Nx N σ H:=t.h _ _ h
theorem cR.obj{h:Heap}(x:cR P w H h a o):∃u,h.get? a=some u:=by
 cases o with
 |lst xs=>obtain⟨_,_,_,_,e⟩:=x;exact⟨_,e⟩
 |tup xs=>obtain⟨_,_,_,u,e,_⟩:=x;exact⟨u,e⟩
 |dK kvs=>obtain⟨_,_,_,_,u,_,_,e,_⟩:=x;exact⟨u,e⟩
 |dT kvs=>obtain⟨_,_,_,_,u,_,_,e,_⟩:=x;exact⟨u,e⟩
 |set S n=>obtain⟨u,_,_,_,e,_⟩:=x;exact⟨u,e⟩
 |ins C dx fs=>obtain⟨_,_,_,e,_⟩:=x;exact⟨_,e⟩
 |own y=>exact x
 |xd fs=>obtain⟨_,⟨u,_,_,e,_⟩,_⟩:=x;exact⟨u,e⟩
 |AV lo hi=>obtain⟨_,_,_,e⟩:=x;exact⟨_,e⟩
 |mj ob u=>exact⟨_,x.1⟩
 |Ca ps=>exact⟨_,x⟩
 |met f y=>exact⟨_,x⟩
 |ext φ=>exact x.2.1
 |zp q=>obtain⟨o,_,_,e,_⟩:=x;exact⟨o,e⟩
 |jy pos q=>obtain⟨_,e,_⟩:=x;exact⟨_,e⟩
theorem Inv.aSh{X:Cx}{s:Shared}{h':Heap}{t':Nat}(I:Inv X pins σ H s)(k:∀b u,s.heap.get? b=some u->h'.get? b=some u)(cq:∀b u,s.heap.get? b=some u->b≠a)(new:cR X.prog X.w (upd H a o) h' a o):H a=none/\Inv X pins σ (upd H a o) { s with heap:=h',toks:=t' }:=by
 have hn:H a=none:=by
  cases e:H a with
  |none=>rfl
  |some u=>
   obtain⟨ob,z⟩:=(I.bf a u e).obj;exact absurd rfl (cq a ob z)
 refine⟨hn,I.un ⟨λb u q _ _ _=>k b u q,λb u q _ _ _=>⟨u.slots,k b u q⟩,λb u q n _=>?_,λb u q _=>⟨u,k b u q⟩,λb xs q=>?_,λb u xs q=>?_,λb ps q=>⟨#[],?_⟩⟩ λb u e=>?_⟩
 ·rw[bA (cq b u q)];exact n
 ·rw[bA (bU q hn)];exact q
 ·rw[bA (bU q hn)];exact q
 ·rw[bA (bU q hn),q];simp
 ·by_cases hb:b=a
  ·subst hb;rw[aP] at e;cases e;exact new
  ·rw[bA hb] at e;exact(I.bf b u e).zt (λc v _ q=>k c v q) (λc q=>by rw[bA (bU q hn)];exact q) λc xs _ q=>by rw[bA (bU q hn)];exact q
end L2
namespace L2.Z
open PySem PySem.Spec PyProof.Rows
section
variable{X:Cx}{K':W.Frag}{tg o i value l:Expr}{to td ty tv tl:TE}{pos pos' apos bu:Pos}
theorem zY(hu:X.A.units+9 < cLine)(ho:QE X o td)(hi:QE X i ty)(hv:QE X value tv)(hs:swapsWith value (some (.Subscript o i pos')) pos.line X.env=pure false:=by rfl) :
  QS X (.Assign [.Subscript o i pos'] value pos) (Pw td ty tv):=⟨L2.aOb (by lia) ho.h hi.h hv.h hs⟩
end
end L2.Z
namespace L2
open PySem PySem.Spec PyProof.Rows
section
variable{σ:St}{H:Hp}{Q:VK}{nx bk ct:St->Hp->Prop}{rt:VK}
theorem aOR(h:tv σ H λv H1=>td σ H1 λx H2=>ty σ H2 λy H3=>∃a H4,x=.ref a/\Aq H3 a y v H4/\nx σ H4):Pw td ty tv ⟨nx,rt,bk,ct⟩ σ H:=h
end
section
variable{prog:Program}{w:World}{A:Around}{E:ar}{s:Shared}{K:W.Frag}{x C:Addr}{o:Obj}{name:Str}{v:Value}
open PySem.Builtin PySem.Builtin.ObjectAttr in
end
structure Lft(fs:ay)(e:Addr)(oe:Obj)(h h':Heap):Prop where
 keep:∀b o,b∉fs->b≠e->h.get? b=some o->h'.get? b=some o
 slot:∀b o,b∈fs->h.get? b=some o->∃sl,h'.get? b=some { o with slots:=sl }
 err:∃vs T oT ts,h'.get? e=some { oe with data:=.fields vs }/\vs[1]?=some (.ref T)/\T≠e/\h.objs.size<=T/\h'.get? T=some oT/\oT.data=.fields ts/\ts[3]?=some .none
 ctx:∀Vv vs,oe.data=.fields Vv->h'.get? e=some { oe with data:=.fields vs }->vs[2]?=Vv[2]?
def He(C:Addr)(od:Option Addr)(e:Addr):HO:=.ext λh=>∃o vs,h.get? e=some o/\o.cls=.ref C/\o.dict=od/\o.data=.fields vs/\(od≠none->vs[2]?=some .none)
theorem aOS{P:Program}{w:World}{H:Hp}{h:Heap}{C e:Addr}{od:Option Addr}{o:Obj}{vs:Array Value}(h1:h.get? e=some o)(h2:o.cls=.ref C)(h3:o.dict=od)(h4:o.data=.fields vs)(h5:od≠none->vs[2]?=some .none):cR P w H h e (He C od e):=
 ⟨⟨o,vs,h1,h2,h3,h4,h5⟩,⟨o,h1⟩,λ_ _ z k=>let ⟨o,vs,a,b,c,d⟩:=z;⟨o,vs,k o a,b,c,d⟩⟩
theorem aOT{P:Program}{w:World}{H:Hp}{h:Heap}{C e:Addr}{od:Option Addr}(x:cR P w H h e (He C od e)):∃o vs,h.get? e=some o/\o.cls=.ref C/\o.dict=od/\o.data=.fields vs:=by
 obtain⟨o,vs,a,b,c,d,_⟩:=x.1;exact⟨o,vs,a,b,c,d⟩
theorem aOU{P:Program}{w:World}{H:Hp}{h:Heap}{C e:Addr}{od:Option Addr}{o:Obj}{vs:Array Value}(x:cR P w H h e (He C od e))(h1:h.get? e=some o)(h4:o.data=.fields vs)(n:od≠none):vs[2]?=some .none:=by
 obtain⟨o',vs',a,b,c,d,f⟩:=x.1;rw[h1] at a;cases a;rw[h4] at d;cases d;exact f n
section
variable{X:Cx}{pins:au}{σ:St}{H:Hp}{s:Shared}{h':Heap}{C e:Addr}{od:Option Addr}{oe:Obj}
theorem Inv.left(I:Inv X pins σ H s)(he:H e=some (He C od e))(ho:s.heap.get? e=some oe)(lf:Lft (qc X.stack) e oe s.heap h'):Inv X pins σ H { s with heap:=h' }:=by
 obtain⟨o,vs,q1,q2,q3,q4⟩:=aOT (I.bf e _ he);rw[ho] at q1;cases q1;have Cb:=I.LX;obtain⟨vs2,T,oT,ts,r1,_⟩:=lf.err;have tr:∀b u,H b=some u->b∉qc X.stack:=λb u z hb=>by rw[Cb b hb] at z;cases z
 refine I.call (g':=s.gens) (d':=s.drawn) (t':=s.toks) (ch:=[]) ⟨λb o z n hb _=>lf.keep b o hb (λq=>by rw[q,he] at n;cases n) z,λb o z n hb _=>lf.slot b o hb z,λb o z n _=>n,λb o z _=>?_,λ_ _ z=>z,λ_ _ _ z=>z,λb ps z=>⟨#[],by rw[z];simp⟩⟩ (λa u z=>?_) I.bare (λb z=>nomatch z)
 ·by_cases hb:b∈qc X.stack
  ·obtain⟨sl,q⟩:=lf.slot b o hb z;exact⟨_,q⟩
  ·by_cases A6:b=e
   ·subst A6;exact⟨_,r1⟩
   ·exact⟨o,lf.keep b o hb A6 z⟩
 ·by_cases WD:a=e
  ·subst WD;rw[he] at z;cases z;exact aOS r1 q2 q3 rfl λn=>(lf.ctx _ _ q4 r1).trans (aOU (I.bf _ _ he) ho q4 n)
  ·refine(I.bf a u z).zt (λb v hb q=>?_) (λ_ q=>q) λ_ _ _ q=>q;rcases hb with rfl|hb
   ·exact lf.keep _ v (tr _ _ z) WD q
   ·exact lf.keep _ v (tr _ _ hb) (λy=>by rw[y,he] at hb;cases hb) q
end
def FW(H:Hp)(od:Option Addr):Prop:=∀dx,od=some dx->∃fs,H dx=some (.xd fs)
theorem FW.none:FW H none:=λ_ z=>nomatch z
theorem FW.some(h:H dx=some (.xd fs)):FW H (some dx):=λ_ z=>by cases z;exact⟨fs,h⟩
theorem FW.there{h:Heap}(bf:uK P w H h)(d:FW H od):∀dx,od=Option.some dx->∃o,h.get? dx=Option.some o:=λdx z=>by
 obtain⟨fs,e⟩:=d dx z;exact(bf dx _ e).obj
abbrev TW:=St->Hp->Addr->Prop
structure aRh(X:Cx)(pins:au)(T:Addr):Prop where
 up:X.dg.heap.objs.size<=T
 loc:T≠X.env.locals
 cell:∀x c,X.env.cells.lookup x=some c->c≠T
 pin:∀p∈X.pn++pins,p.1≠T
structure aSO(X:Cx)(pins:au)(H:Hp)(h:Heap)(e:Addr):Prop where
 ex:∃(C:Addr) (od:Option Addr) (oe:Obj) (vs:Array Value) (T:Addr) (oT:Obj) (ts:Array Value),H e=some (He C od e)/\h.get? e=some oe/\oe.data=.fields vs/\vs[1]?=some (.ref T)/\T≠e/\aRh X pins T/\H T=none/\h.get? T=some oT/\oT.data=.fields ts/\3 < ts.size
def aRi(X:Cx)(pins:au)(W:TW)(ev:Value)(s':Shared):Prop:=∃(e:Addr) (σ:St) (H':Hp),ev=.ref e/\Inv X pins σ H' s'/\aSO X pins H' s'.heap e/\W σ H' e
def Cx.tr(X:Cx)(pins:au)(W:TW):Cx:={ X with pn:=X.pn++pins,xe:=aRi X pins W }
def Cx.zl(X:Cx)(e:Addr):Cx:={ X with A:=X.A.mark (some (.ref e)),calm:=false,xe:=λ_ _=>False }
section
variable{X:Cx}{pins ug:au}{σ:St}{H:Hp}{s:Shared}{W:TW}{e:Addr}
theorem Cx.Ok.tr(ok:X.Ok):(X.tr pins W).Ok:=⟨ok.mod,ok.kind,ok.glob,ok.blt,ok.above,ok.inj,ok.has,ok.CG,ok.hd,ok.frames,ok.Cb,ok.Lc,ok.bs,ok.Al,ok.wz,ok.ze,ok.xU,ok.Ba⟩
theorem Cx.Ok.zl(ok:X.Ok):(X.zl e).Ok:=⟨ok.mod,ok.kind,ok.glob,ok.blt,ok.above,ok.inj,ok.has,ok.CG,(λz=>Bool.noConfusion z),ok.frames,ok.Cb,ok.Lc,ok.bs,ok.Al,ok.wz,ok.ze,ok.xU,ok.Ba⟩
theorem Inv.tr(I:Inv X pins σ H s):Inv (X.tr pins W) [] σ H s:=⟨I.ok.tr,I.os,I.bare,I.base,I.loc,I.cell,I.free,I.fc,λp hp=>I.pin p (by rw[BI] at hp;exact hp),I.bf,I.len⟩
theorem Inv.zl(I:Inv X pins σ H s):Inv (X.zl e) pins σ H s:=⟨I.ok.zl,I.os,I.bare,I.base,I.loc,I.cell,I.free,I.fc,I.pin,I.bf,I.len⟩
end
abbrev TH:=Ends->St->Hp->Addr->Prop
structure FP(k:Nat)(A:Around):Prop where
 dp:A.depth+3*k+5 < recursionLimit
 un:A.units+16*k+200 < cLine
theorem eX.h{k:Nat}(r:eX k A):FP k A:=⟨r.dp,r.un⟩
theorem FP.mark{k:Nat}{A:Around}(r:FP k A)(o:aw):FP k (A.mark o):=⟨r.dp,r.un⟩
theorem FP.calm{k:Nat}(r:FP k A):eX k { A with handled:=none }:=⟨rfl,r.dp,r.un⟩
end L2
namespace L2.Z
open PySem PySem.Spec PyProof.Rows L2
end L2.Z
namespace L2
open PySem PySem.Spec PyProof.Rows
section
variable{X:Cx}{o e:Expr}{to:TE}{t:TA}{apos bu:Pos}
theorem Zw:∀{ns:ae}{us:aj},Vals (ns.map V.int) us->IntsAre us ns
 |[],_,.nil=>.nil
 |n::ns,_,.cons r t=>by
  obtain⟨k,rfl⟩:=(show ∃k,_=Value.int n k from r)
  exact .cons n k (Zw t)
def LM(K:W.Frag):V->List V->Hp->VK->Prop:=λx vs H Q=>∃(l:Addr) (ns:ae) (k:Int),x=.ref l/\vs=[.int k]/\bP K H l (ns.map V.int)/\Q (.int (ns.count k:Nat)) H
theorem aMK:MtR X "list.count" (LM X.K):=by
 intro pins s σ H x vs v us Q I rx rv h;obtain⟨l,ns,k,rfl,rfl,hS,q⟩:=h;cases rx;obtain⟨u,rfl,ru⟩:=rv.one;obtain⟨tk,rfl⟩:=(show ∃tk,u=Value.int k tk from ru)
 obtain⟨az,r,pl,hz⟩:=I.list hS;exact count_list_ints pl.isList (Zw r) ⟨.int (ns.count k:Nat),H,I.tok _,⟨_,rfl⟩,q⟩
theorem aML(ho:PE X o to)(ha:PA X [e] t)(hn:noStar e=true:=by rfl)(fk:attributeBase o "count" X.env (eval o X.env)=eval o X.env:=by rfl)(fj:(apos.endLine == bu.line)=true:=by rfl) :
  PE X (.Call (.Attribute o "count" apos) [e] [] bu) (EJ X.K "list" (LM X.K) to t):=
 YL PySem.F.plainAttrs_list PySem.F.slot_list_count PySem.F.type_list_count aMK ho ha fk (by rw[bW hn];rfl) fj (bW hn) (by rfl)
theorem Z2{K:W.Frag}{H:Hp}{Q:VK}{l:Addr}{ns:ae}{k:Int}(h:bP K H l (ns.map V.int))(q:Q (.int (ns.count k:Nat)) H):LM K (.ref l) [.int k] H Q:=⟨l,ns,k,rfl,rfl,h,q⟩
end
end L2
namespace L2.Z
open PySem PySem.Spec PyProof.Rows L2
theorem aAE{X:Cx}{apos bu:Pos}(ho:QE X o to)(ha:QA X [e] t)(hn:noStar e=true:=by rfl)(fk:attributeBase o "count" X.env (eval o X.env)=eval o X.env:=by rfl)(fj:(apos.endLine == bu.line)=true:=by rfl)(hK:X.K=K':=by rfl) :
  QE X (.Call (.Attribute o "count" apos) [e] [] bu) (EJ K' "list" (LM K') to t):=by subst hK;exact⟨L2.aML ho.h ha.h hn fk fj⟩
end L2.Z
namespace L2
open PySem PySem.W PyProof.Rows
section
variable{O:KeyOrd}{key:Nat->O.α}{N:Nat}{cmp:Nat->Nat->(Bool->Shared->Prop)->Shared->Prop}{s:Shared}
def kq(key:Nat->O.α)(p:Array Nat)(i:Nat):O.α:=key (p.getD i 0)
def Up(key:Nat->O.α)(p:Array Nat)(k:Nat):Prop:=∀i j,i<=j->j < k->O.kle (kq key p i) (kq key p j)
def Dn(key:Nat->O.α)(p:Array Nat)(k:Nat):Prop:=∀i j,i<=j->j < k->O.kle (kq key p j) (kq key p i)
def Row(N:Nat)(p:Array Nat):Prop:=p.Perm (List.toArray (List.range N))
theorem Hl{p q:Array Nat}{i j:Nat}(h:p[i]?=q[j]?):kq key p i=kq key q j:=by
 unfold kq;rw[Array.getD_eq_getD_getElem?,Array.getD_eq_getD_getElem?,h]
theorem Za{p:Array Nat}{a d:Nat}(ha:a < p.size)(hd:d<=a)(k:Nat):kq key (bubble p a d) k=if k=a - d then kq key p a else if a - d < k/\k<=a then kq key p (k - 1) else kq key p k:=by
 have e:=getElem?_bubble ha d hd k;split
 ·rename_i h;rw[cT h] at e;exact Hl e
 ·rename_i h;rw[cD h] at e;split
  ·rename_i g;rw[cT g] at e;exact Hl e
  ·rename_i g;rw[cD g] at e;exact Hl e
theorem LL{p:Array Nat}{i j:Nat}(hj:j<=p.size)(k:Nat):kq key (kas_rev p i j) k=if i<=k/\k < j then kq key p (i+j - 1 - k) else kq key p k:=by
 have e:=getElem?_mirror_all (i:=i) hj k;split
 ·rename_i h;rw[cT h] at e;exact Hl e
 ·rename_i h;rw[cD h] at e;exact Hl e
theorem Row.size{p:Array Nat}(h:Row N p):p.size=N:=by
 have:=h.size_eq;rw[this];simp
theorem Row.lt{p:Array Nat}(h:Row N p)(hN:0 < N)(i:Nat):p.getD i 0 < N:=by
 by_cases hi:i < p.size
 ·have e:p.getD i 0=p[i]:=by simp[Array.getD,hi]
  have m:p[i]∈p.toList:=by simp
  have m2:=(Array.perm_iff_toList_perm.mp h).mem_iff.mp m;rw[e];simpa using m2
 ·have e:p.getD i 0=0:=by simp[Array.getD,hi]
  rw[e];exact hN
theorem Row.rev{p:Array Nat}(h:Row N p)(i j:Nat):Row N (kas_rev p i j):=(mirror_perm p i j _).trans h
theorem Row.bub{p:Array Nat}(h:Row N p)(i j:Nat):Row N (bubble p i j):=(bubble_perm p i j).trans h
theorem Up.more{p:Array Nat}{m:Nat}(h:Up key p m)(e:O.kle (kq key p (m - 1)) (kq key p m)):Up key p (m+1):=λi j Bv hj=>by
 by_cases hm:j < m
 ·exact h i j Bv hm
 ·have ej:j=m:=by lia
  subst ej;by_cases hi:i=j
  ·subst hi;exact KeyOrd.kle_refl _
  ·exact KeyOrd.kle_trans (h i (j - 1) (by lia) (by lia)) e
theorem Dn.more{p:Array Nat}{m:Nat}(h:Dn key p m)(e:O.kle (kq key p m) (kq key p (m - 1))):Dn key p (m+1):=λi j Bv hj=>by
 by_cases hm:j < m
 ·exact h i j Bv hm
 ·have ej:j=m:=by lia
  subst ej;by_cases hi:i=j
  ·subst hi;exact KeyOrd.kle_refl _
  ·exact KeyOrd.kle_trans e (h i (j - 1) (by lia) (by lia))
def Aw(key:Nat->O.α)(N:Nat)(cmp:Nat->Nat->(Bool->Shared->Prop)->Shared->Prop)(s:Shared):Prop:=∀i j (C:Bool->Shared->Prop),i < N->j < N->C (O.blt (key i) (key j)) s->cmp i j C s
theorem Aw.ask{α:Type}(hc:Aw key N cmp s)(hN:0 < N){p:Array Nat}(hp:Row N p){i j:Nat}{k:Bool->KasT α}{Q:α->Shared->Prop}(h1:O.klt (kq key p i) (kq key p j)->(k true).kasWp cmp Q s)(h2:O.kle (kq key p j) (kq key p i)->(k false).kasWp cmp Q s) :
  (KasT.ask (p.getD i 0) (p.getD j 0) k).kasWp cmp Q s:=by
 refine hc _ _ _ (hp.lt hN i) (hp.lt hN j) ?_;cases e:O.blt (key (p.getD i 0)) (key (p.getD j 0)) with
 |true=>exact h1 e
 |false=>exact h2 e
theorem PF(hc:Aw key N cmp s)(hN:0 < N){p:Array Nat}(hp:Row N p){Q:Nat->Shared->Prop}:∀{f m:Nat},f=N - m->1<=m->m<=N->Up key p m->
  (∀r,m<=r->r<=N->Up key p r->(r < N->O.klt (kq key p r) (kq key p (r - 1)))->Q r s)->(kas_asc p f m).kasWp cmp Q s
 |0,m,hf,h1,hm,hu,h=>h m (eO _) hm hu (λz=>by lia)
 |f+1,m,hf,h1,hm,hu,h=>by
  refine hc.ask hN hp (λz=>?_) (λz=>?_)
  ·rw[cT rfl];exact h m (eO _) hm hu λ_=>z
  ·rw[cD (by decide)];exact PF hc hN hp (by lia) (by lia) (by lia) (hu.more z) λr a b c d=>h r (by lia) b c d
def Mz(key:Nat->O.α)(p:Array Nat)(n q:Nat):Prop:=∀i,n - (q+1)<=i->i < n->kq key p i=kq key p (n - 1)
theorem Mz.same{p:Array Nat}{n q:Nat}(h:Mz key p n q)(hz:n<=p.size)(k:Nat):kq key (kas_rev p (n - (q+1)) n) k=kq key p k:=by
 rw[LL hz];split
 ·rename_i g;rw[h k g.1 g.2];exact h _ (by lia) (by lia)
 ·rfl
theorem LR(hc:Aw key N cmp s)(hN:0 < N){Q:Array Nat×Nat×Nat->Shared->Prop}:∀{f n q:Nat}{p:Array Nat},Row N p->f=N - n->1<=n->n<=N->q+1<=n->Dn key p n->Mz key p n q->
  (∀p' n' q',Row N p'->1<=n'->n'<=N->q'+1<=n'->Dn key p' n'->Mz key p' n' q'->Q (p',n',q') s)->(kas_desc f p n q).kasWp cmp Q s
 |0,n,q,p,hp,hf,h1,hn,hq,hd,hb,h=>h p n q hp h1 hn hq hd hb
 |f+1,n,q,p,hp,hf,h1,hn,hq,hd,hb,h=>by
  have hz:n<=p.size:=by rw[hp.size];exact hn
  refine hc.ask hN hp (λz=>?_) (λz=>?_)
  ·rw[cT rfl];have Fb:Dn key p (n+1):=hd.more (KeyOrd.kle_of_klt z);split
   ·have e:=hb.same hz;refine LR hc hN (hp.rev _ _) (by lia) (by lia) (by lia) (by lia) (λi j a b=>?_) (λi a b=>?_) h
    ·rw[e,e];exact Fb i j a b
    ·have:i=n:=by lia
     subst this;rfl
   ·refine LR hc hN hp (by lia) (by lia) (by lia) (by lia) Fb (λi a b=>?_) h;have:i=n:=by lia
    subst this;rfl
  ·rw[cD (by decide)];refine hc.ask hN hp (λy=>?_) (λy=>?_)
   ·rw[cT rfl];exact h p n q hp h1 hn hq hd hb
   ·rw[cD (by decide)];have e:kq key p (n - 1)=kq key p n:=KeyOrd.kle_antisymm z y;refine LR hc hN hp (by lia) (by lia) (by lia) (by lia) (hd.more y) (λi a b=>?_) h;show kq key p i=kq key p n;by_cases hi:i < n
    ·rw[hb i (by lia) hi,e]
    ·have:i=n:=by lia
     subst this;rfl
theorem Zv(hc:Aw key N cmp s)(hN:0 < N){n:Nat}{p:Array Nat}{Q:Nat×Array Nat->Shared->Prop}(hp:Row N p)(h1:1<=n)(hn:n<=N)(hd:Dn key p n)(h:∀m p',Row N p'->1<=m->m<=N->Up key p' m->Q (m,p') s):(kas_tail3 n N p).kasWp cmp Q s:=by
 have hz:n<=p.size:=by rw[hp.size];exact hn
 unfold kas_tail3;rw[KasT.kasWp_bind];refine PF hc hN (hp.rev 0 n) rfl h1 hn (λi j a b=>?_) λr a b c _=>h r _ (hp.rev 0 n) (by lia) b c;rw[LL hz,LL hz,cT ⟨qw _,by lia⟩,cT ⟨qw _,b⟩];exact hd _ _ (by lia) (by lia)
theorem aCm(hc:Aw key N cmp s)(hN:0 < N){n:Nat}{p:Array Nat}{Q:Nat×Array Nat->Shared->Prop}(hp:Row N p)(h1:1<=n)(hn:n < N)(hd:Dn key p n)(hl:O.klt (kq key p n) (kq key p (n - 1)))(h:∀m p',Row N p'->1<=m->m<=N->Up key p' m->Q (m,p') s) :
  (kas_descPart n N p).kasWp cmp Q s:=by
 unfold kas_descPart;rw[KasT.kasWp_bind];refine LR hc hN hp rfl (by lia) (by lia) (by lia) (hd.more (KeyOrd.kle_of_klt hl)) (λi a b=>by have:i=n:=(by lia);subst this;rfl) λp' n' q' r1 r2 r3 r4 r5 r6=>?_;have hz:n'<=p'.size:=by rw[r1.size];exact r3
 split
 ·refine Zv hc hN (r1.rev _ _) r2 r3 (λi j a b=>?_) h;have e:=r6.same hz;show O.kle (kq key (kas_rev p' (n' - (q'+1)) n') j) (kq key (kas_rev p' (n' - (q'+1)) n') i);rw[e,e];exact r5 i j a b
 ·exact Zv hc hN r1 r2 r3 r5 h
theorem aMN(hc:Aw key N cmp s)(hN:0 < N){p:Array Nat}{Q:Nat×Array Nat->Shared->Prop}(hp:Row N p)(h:∀m p',Row N p'->1<=m->m<=N->Up key p' m->Q (m,p') s):(kas_count N p).kasWp cmp Q s:=by
 unfold kas_count;rw[KasT.kasWp_bind];refine PF hc hN hp rfl (eO _) hN (λi j a b=>by have:i=j:=(by lia);subst this;exact KeyOrd.kle_refl _) λn a b c d=>?_;have hz:n<=p.size:=by rw[hp.size];exact b
 split
 ·exact h n p hp a b c
 ·rename_i ne;have nN:n < N:=by
   have:n≠N:=λz=>ne (by simp[z]);lia
  split
  ·refine hc.ask hN hp (λz=>?_) (λz=>?_)
   ·rw[cT rfl];exact h n p hp a b c
   ·rw[cD (by decide)];have all:∀i,i < n->kq key p i=kq key p 0:=λi hi=>KeyOrd.kle_antisymm (KeyOrd.kle_trans (c i (n - 1) (by lia) (by lia)) z) (c 0 i (by lia) hi);have e:∀k,kq key (kas_rev p 0 n) k=kq key p k:=λk=>by
     rw[LL hz];split
     ·rw[all _ (by lia),all k (by lia)]
     ·rfl
    refine aCm hc hN (hp.rev 0 n) a nN (λi j x y=>?_) ?_ h
    ·rw[e,e,all i (by lia),all j y];exact KeyOrd.kle_refl _
    ·rw[e,e];exact d nN
  ·have n1:n=1:=by lia
   subst n1;exact aCm hc hN hp (eO _) nN (λi j x y=>by have:i=j:=(by lia);subst this;exact KeyOrd.kle_refl _) (d nN) h
theorem Qr(hc:Aw key N cmp s)(hN:0 < N){p:Array Nat}(hp:Row N p){k:Nat}(hu:Up key p k){Q:Nat->Shared->Prop}:∀{f l r:Nat},l<=r->r<=k->r - l<=f->
  (∀i,i < l->O.kle (kq key p i) (kq key p k))->(∀i,r<=i->i < k->O.klt (kq key p k) (kq key p i))->
  (∀m,m<=k->(∀i,i < m->O.kle (kq key p i) (kq key p k))->(∀i,m<=i->i < k->O.klt (kq key p k) (kq key p i))->Q m s)->(kas_place p k f l r).kasWp cmp Q s
 |0,l,r,hlr,hrk,hf,ha,hb,h=>h l (by lia) ha λi x y=>hb i (by lia) y
 |f+1,l,r,hlr,hrk,hf,ha,hb,h=>by
  unfold kas_place;by_cases g:l ≥ r
  ·rw[cT g];exact h l (by lia) ha λi x y=>hb i (by lia) y
  ·rw[cD g];refine hc.ask hN hp (λz=>?_) (λz=>?_)
   ·rw[cT rfl];refine Qr hc hN hp hu (by lia) (by lia) (by lia) ha (λi x y=>?_) h;exact KeyOrd.klt_of_klt_of_kle z (hu _ i x y)
   ·rw[cD (by decide)];refine Qr hc hN hp hu (by lia) (by lia) (by lia) (λi x=>?_) hb h;exact KeyOrd.kle_trans (hu i _ (by lia) (by lia)) z
theorem Y9(hc:Aw key N cmp s)(hN:0 < N){Q:Array Nat->Shared->Prop}:∀{f k:Nat}{p:Array Nat},Row N p->f=N - k->k<=N->Up key p k->(∀p',Row N p'->Up key p' N->Q p' s)->(kas_bin f p k).kasWp cmp Q s
 |0,k,p,hp,hf,hk,hu,h=>h p hp (by have:k=N:=(by lia);subst this;exact hu)
 |f+1,k,p,hp,hf,hk,hu,h=>by
  unfold kas_bin;rw[KasT.kasWp_bind];refine Qr hc hN hp hu (qw _) (eO _) (by lia) (λi x=>by lia) (λi x y=>by lia) λm hm ha hb=>?_;have kz:k < p.size:=by rw[hp.size];lia
  refine Y9 hc hN (hp.bub k (k - m)) (by lia) (by lia) (λi j Bv hj=>?_) h;have em:k - (k - m)=m:=by lia
  rw[Za kz (by lia),Za kz (by lia),em];by_cases i1:i=m
  ·rw[cT i1];by_cases j1:j=m
   ·rw[cT j1];exact KeyOrd.kle_refl _
   ·rw[cD j1,cT (by lia)];exact KeyOrd.kle_of_klt (hb _ (by lia) (by lia))
  ·rw[cD i1];by_cases i2:m < i/\i<=k
   ·rw[cT i2,cD (by lia),cT (by lia)];exact hu _ _ (by lia) (by lia)
   ·rw[cD i2];by_cases j1:j=m
    ·rw[cT j1];exact ha i (by lia)
    ·rw[cD j1];by_cases j2:m < j/\j<=k
     ·rw[cT j2];exact hu _ _ (by lia) (by lia)
     ·rw[cD j2];exact hu _ _ (by lia) (by lia)
theorem aOV(hc:Aw key N cmp s)(hN:0 < N){Q:Array Nat->Shared->Prop}(h:∀p,Row N p->Up key p N->Q p s):(kas_sort N).kasWp cmp Q s:=by
 unfold kas_sort;rw[KasT.kasWp_bind];refine aMN hc hN (Array.Perm.refl _) λm p hp h1 hm hu=>?_;split
 ·rename_i z;have e:max m 1=m:=by lia
  show(kas_bin (N - max m 1) p (max m 1)).kasWp cmp Q s;rw[e];exact Y9 hc hN hp rfl hm hu h
 ·rename_i z;have z':¬m < N:=z;have e:m=N:=by lia
  subst e;exact h p hp hu
end
def vA:ae->ae->Bool
 |[],[]=>false
 |[],_::_=>true
 |_::_,[]=>false
 |a::as,b::bs=>if a=b then vA as bs else decide (a < b)
theorem gJ(a b:Int)(as bs:ae):vA (a::as) (b::bs)=if a=b then vA as bs else decide (a < b):=rfl
theorem aCn:∀as:ae,vA as as=false
 |[]=>rfl
 |a::as=>by rw[gJ,cT rfl];exact aCn as
theorem aDW:∀as bs cs:ae,vA as bs=true->vA bs cs=true->vA as cs=true
 |[],[],_,h,_=>by cases h
 |[],_::_,[],_,h=>by cases h
 |[],_::_,_::_,_,_=>rfl
 |_::_,[],_,h,_=>by cases h
 |_::_,_::_,[],_,h=>by cases h
 |a::as,b::bs,c::cs,h1,h2=>by
  rw[gJ] at h1 h2 ⊢;by_cases e1:a=b
  ·subst e1;rw[cT rfl] at h1;by_cases e2:a=c
   ·rw[cT e2] at h2 ⊢;exact aDW as bs cs h1 h2
   ·rw[cD e2] at h2 ⊢;exact h2
  ·rw[cD e1] at h1;have l1:=ua h1;by_cases e2:b=c
   ·subst e2;rw[cD e1];exact h1
   ·rw[cD e2] at h2;have l2:=ua h2;rw[cD (by lia)];exact ur (by lia)
theorem Z1:∀as bs cs:ae,vA as cs=true->vA as bs=true\/vA bs cs=true
 |[],[],_,h=>.inr h
 |[],_::_,_,_=>.inl rfl
 |_::_,_,[],h=>by cases h
 |_::_,[],_::_,_=>.inr rfl
 |a::as,b::bs,c::cs,h=>by
  rw[gJ] at h;rw[gJ,gJ];by_cases e1:a=b
  ·subst e1;rw[cT rfl];by_cases e2:a=c
   ·rw[cT e2] at h ⊢;exact Z1 as bs cs h
   ·rw[cD e2] at h ⊢;exact .inr h
  ·rw[cD e1];by_cases e2:b=c
   ·subst e2;rw[cD e1] at h;exact .inl h
   ·rw[cD e2];by_cases l:a < b
    ·exact .inl (ur l)
    ·refine .inr (ur ?_);by_cases e3:a=c
     ·lia
     ·rw[cD e3] at h;have:=ua h;lia
theorem aDX:∀as bs:ae,vA as bs=false->vA bs as=false->as=bs
 |[],[],_,_=>rfl
 |[],_::_,h,_=>by cases h
 |_::_,[],_,h=>by cases h
 |a::as,b::bs,h1,h2=>by
  rw[gJ] at h1 h2;by_cases e:a=b
  ·subst e;rw[cT rfl] at h1 h2;rw[aDX as bs h1 h2]
  ·rw[cD e] at h1;rw[cD (Ne.symm e)] at h2;have:=of_decide_eq_false h1;have:=of_decide_eq_false h2;lia
def Fz:KeyOrd:=⟨ae,vA,aCn,aDW,Z1,aDX⟩
theorem aAF:∀{ns:ae}{az:aj},Vals (ns.map V.int) az->IntsAre az ns
 |[],_,r=>by cases r;exact .nil
 |n::ns,_,r=>by
  cases r with
  |cons h t=>
   obtain⟨u,rfl⟩:=h;exact .cons n u (aAF t)
inductive xV (h:Heap):aj->cn->Prop
 |nil:xV h [] []
 |cons {x:Addr} {o:Obj} {xs:Array Value} {k:Nat} {t:ae} {vs:aj} {ts:cn} (e:h.get? x=some o) (c:o.cls=.type "tuple") (d:o.data=.seq xs k) (i:IntsAre xs.toList t) (ne:t≠[]) (r:xV h vs ts):xV h (.ref x::vs) (t::ts)
theorem xV.length{vs:aj}{ts:cn}(r:xV h vs ts):vs.length=ts.length:=by
 induction r with
 |nil=>rfl
 |cons _ _ _ _ _ _ ih=>rw[mv,mv,ih]
theorem xV.at_{h:Heap}{vs:aj}{ts:cn}(r:xV h vs ts):∀{j:Nat},j < vs.length->∃x o xs k,vs.getD j Value.none=.ref x/\h.get? x=some o/\o.data=.seq xs k/\IntsAre xs.toList (ts.getD j []):=by
 induction r with
 |nil=>intro j hj;simp at hj
 |cons e c d i ne r ih=>
  intro j hj;cases j with
  |zero=>exact⟨_,_,_,_,rfl,e,d,i⟩
  |succ j=>exact ih (by simpa using hj)
theorem xV.keeps{h h':Heap}{ts:cn}(r:xV h vs ts)(k:∀(b:Addr) (o:Obj),o.cls=.type "tuple"->h.get? b=some o->h'.get? b=some o):xV h' vs ts:=by
 induction r with
 |nil=>exact .nil
 |cons e c d i ne _ ih=>exact .cons (k _ _ c e) c d i ne ih
theorem xV.aRj{vs:aj}{ts:cn}(r:xV h vs ts):∃fs:aj,KatTups h vs fs/\fs.length=vs.length/\∀v∈fs,∃n u,v=Value.int n u:=by
 induction r with
 |nil=>exact⟨[],.nil,rfl,λv z=>by cases z⟩
 |@cons x o xs k t vs ts e c d i ne _ ih=>
  obtain⟨fs,a1,a2,a3⟩:=ih;obtain⟨n,u,hx⟩ : ∃n u,xs[0]?=some (Value.int n u):=by
   rw[<-Ra];generalize xs.toList=l at i;cases i with
   |nil=>exact absurd rfl ne
   |cons n u _=>exact⟨n,u,rfl⟩
  refine⟨.int n u::fs,.cons e c d hx a1,by rw[mv,mv,a2],λv z=>?_⟩;rcases lR.mp z with z|z
  ·exact⟨n,u,z⟩
  ·exact a3 v z
section
variable{prog:Program}{w:World}{A:Around}{E:ar}{s:Shared}
theorem Z0{Q:Bool->Shared->Prop}:∀{xs ys:aj}{as bs:ae}{i:Nat}{fin:Bool},IntsAre xs as->IntsAre ys bs->fin=decide (as.length < bs.length)->Q (vA as bs) s->KatLex prog w A true fin Q (xs.zip ys) i s
 |_,_,_,_,i,fin,.nil,.nil,hf,h=>kat_nil (by rw[hf];exact h)
 |_,_,_,_,i,fin,.nil,.cons _ _ _,hf,h=>kat_nil (by rw[hf];exact h)
 |_,_,_,_,i,fin,.cons _ _ _,.nil,hf,h=>kat_nil (by rw[hf];exact h)
 |_,_,_,_,i,fin,.cons a t r,.cons b u q,hf,h=>by
  refine kat_cons (wpAny_eqBool_int ?_);rw[gJ] at h;by_cases e:a=b
  ·rw[cT e] at h;rw[show(a == b)=true by simp[e]];refine kat_yes (Z0 r q ?_ h);rw[hf,mv,mv];congr 1;apply propext;constructor <;> intro z <;> lia
  ·rw[cD e] at h;rw[show(a == b)=false by simp[e]];refine kat_no ?_;cases i with
   |zero=>exact oneLt_int h
   |succ i=>
    rw[show(true && (i+1 == 0))=false by simp];exact kat_one _ _ (PyProof.Rows.lt_int h)
theorem aMP{ts:cn}(r:xV s.heap vs ts):Aw (O:=Fz) (λi=>ts.getD i []) vs.length (kas_ask prog w A (tuples' true) vs) s:=λi j C hi hj h=>by
 obtain⟨x,ox,xs,n,e1,g1,d1,i1⟩:=r.at_ hi;obtain⟨y,oy,ys,k,e2,g2,d2,i2⟩:=r.at_ hj;unfold kas_ask;rw[e1,e2];refine kat_lt g1 d1 g2 d2 (Z0 i1 i2 ?_ h);rw[<-i1.length,<-i2.length,wq,wq]
def BF(vs:aj)(p:Array Nat):Array Value:=List.toArray (p.toList.map λi=>vs.getD i Value.none)
theorem aLi{vs:aj}{ts:cn}{n:Nat}{P:PySem.Fin->Shared->Prop}(ho:s.heap.get? a=some (seqObj "list" vs.toArray n))(hT:xV s.heap vs ts)(Oc:vs.length < 64)(h:∀p,Row vs.length p->Up (O:=Fz) (λi=>ts.getD i []) p vs.length->P (.done (.ret .none)) { s with heap:=sortedHeap s.heap a vs (BF vs p) }) :
  wpAny (model prog w) A (Builtin.«list.sort» ⟨[.ref a],[]⟩) P E s:=by
 rw[list_sort_plain];have la:=iM ho;refine bN (listItems_at ho rfl (bN (listUpdate_at ho rfl ?_)));obtain⟨e1,g1⟩ : ∃e,(s.heap.update a (Obj.mapSeq λ_=>#[])).get? a=some (seqObj "list" #[] e):=⟨_,get?_update_seq ho λ_=>#[]⟩
 refine bN (seqEpoch_at g1 rfl (bN (wpAny_newTuple (bN (wpAny_newList (BH ?_))))));generalize NL:((s.heap.update a (Obj.mapSeq λ_=>#[])).push (seqObj "tuple" vs.toArray 0)).push (seqObj "list" #[] 0)=h6;have JI:∀b o,b≠a->s.heap.get? b=some o->h6.get? b=some o:=λb o nb e=>by
  have lb:=iM e;rw[<-NL,Mf _ _ _ (rR (by rw[size_push',Me];exact D7 lb)),Mf _ _ _ (rR (by rw[Me];exact lb)),Heap.get?_update_ne _ _ _ _ nb];exact e
 have g6:h6.get? a=some (seqObj "list" #[] e1):=by
  rw[<-NL,Mf _ _ _ (rR (by rw[size_push',Me];exact D7 la)),Mf _ _ _ (rR (by rw[Me];exact la))];exact g1
 have fin:∀p,Row vs.length p->Up (O:=Fz) (λi=>ts.getD i []) p vs.length->P (.done (.ret .none)) { s with heap:=h6.update a (Obj.mapSeq λ_=>BF vs p) }:=λp r u=>by
  rw[<-NL];exact h p r u
 have T6:xV h6 vs ts:=hT.keeps λb o c e=>JI b o (λz=>by rw[z,ho] at e;cases e;exact absurd c (show ¬Value.type "list" = Value.type "tuple" by decide)) e;show wpAny (model prog w) A _ P E { s with heap:=h6 };have hvz:vs.toArray.size=vs.length:=jT;dsimp only;by_cases small:vs.toArray.size < 2
 ·rw[cT small,cT small];refine bN (dY ?_);rw[StateT.run_pure];refine bN (dY ?_);have ev:((vs.toArray.zip vs.toArray).map λx=>x.2)=BF vs (List.toArray (List.range vs.length)):=by
   unfold BF
   match vs,hvz,small with
   |[],_,_=>simp
   |[v],_,_=>simp
   |_::_::_,_,z=>simp at z;lia
  refine bN (seqEpoch_at g6 rfl (bN (listUpdate_at g6 rfl ?_ (hsz2:=?_))))
  ·simp only[bne_self_eq_false,D8,if_false];refine dY ?_;show P (.done (.ret .none)) { s with heap:=h6.update a (Obj.mapSeq λ_=>(vs.toArray.zip vs.toArray).map λx=>x.2) };rw[ev];exact fin _ (Array.Perm.refl _) λi j x y=>by
    have z:i=j:=by lia
    subst z;exact KeyOrd.kle_refl _
  ·show((vs.toArray.zip vs.toArray).map λx=>x.2).size<=_;rw[ev,BF,jT,bH,xx];simp;lia
 ·rw[cD small,cD small];obtain⟨fs,f1,f2,f3⟩:=T6.aRj;refine bN (kat_kind (s:={ s with heap:=h6 }) (T:=.type "int") f1 (by lia) (λv hv=>?_) rfl ?_)
  ·obtain⟨m,u,rfl⟩:=f3 v hv;exact Looks.now
  rw[show(Value.type "int" != Value.type "tuple")=true by decide];refine bN (vz (kat_run (ks:=vs) (vs:=vs) (prog:=prog) (w:=w) (A:=A) (E:=E) (s:={ s with heap:=h6 }) (Q:=λsy s'=>s'={ s with heap:=h6 }/\∃p,p.size=vs.length/\arrOf sy=p.map (kas_item (vs.toArray.zip vs.toArray))/\failedOf sy=none/\Row vs.length p/\Up (O:=Fz) (λi=>ts.getD i []) p vs.length)
   (G:=λp s'=>s'={ s with heap:=h6 }/\Row vs.length p/\Up (O:=Fz) (λi=>ts.getD i []) p vs.length) rfl (by lia) Oc (λp sy s' hz KD hf hG=>⟨hG.1,p,hz,KD,hf,hG.2.1,hG.2.2⟩) (aOV (aMP (s:={ s with heap:=h6 }) T6) (by lia) λp r u=>⟨rfl,r,u⟩)) ?_ λ_ _ e=>e)
  rintro ⟨_,sy⟩ s' ⟨rfl,p,hz,KD,hf,hr,hu⟩;dsimp only at KD hf ⊢;have eo:=kat_snds (ks:=vs) (vs:=vs) rfl KD;refine bN (seqEpoch_at g6 rfl (bN (listUpdate_at g6 rfl ?_ (hsz2:=?_))))
  ·rw[hf];simp only[bne_self_eq_false,D8,if_false];refine dY ?_;show P (.done (.ret .none)) { s with heap:=h6.update a (Obj.mapSeq λ_=>(arrOf sy).map (·.2)) };rw[eo];exact fin p hr hu
  ·show((arrOf sy).map (·.2)).size<=_;rw[eo,jT,bH,wq,hz,xx];lia
end
end L2
namespace L2
open PySem PySem.Spec PySem.W PyProof.Rows
theorem range_getD{α:Type}(d:α)(l:List α):(List.range l.length).map (λi=>l.getD i d)=l:=by
 apply List.ext_getElem
 ·simp
 ·intro i h1 h2;simp[rf,dM h2]
theorem aDY:∀(qs:ay),Vals (qs.map V.ref) (qs.map Value.ref)
 |[]=>.nil
 |q::qs=>.cons rfl (aDY qs)
structure nM(H:Hp)(qs:ay)(ts:cn):Prop where
 len:qs.length=ts.length
 at_:∀(j:Nat) q t,qs[j]?=some q->ts[j]?=some t->H q=some (.tup (t.map V.int))/\t≠[]
theorem nM.tail{t:ae}{ts:cn}(h:nM H (q::qs) (t::ts)):nM H qs ts:=⟨by have:=h.len;simpa using this,λj a b x y=>h.at_ (j+1) a b x y⟩
theorem nM.uN{s:Shared}(I:Inv X pins σ H s):∀{qs:ay}{ts:cn},nM H qs ts->xV s.heap (qs.map Value.ref) ts
 |[],[],_=>.nil
 |[],_::_,h=>by have:=h.len;simp at this
 |_::_,[],h=>by have:=h.len;simp at this
 |q::qs,t::ts,h=>by
  obtain⟨e,ne⟩:=h.at_ 0 q t rfl rfl;obtain⟨_,az,r,o,g1,g2,n,g3⟩:=(show cR X.prog X.w H s.heap q (.tup (t.map V.int)) from I.bf q _ e)
  exact .cons g1 g2 g3 (by simpa using aAF r) ne (nM.uN I h.tail)
end L2
namespace L2
open PySem PySem.Spec PyProof.Rows
section
variable{prog:Program}{w:World}{A:Around}{E:ar}{s:Shared}{es:Array DictEntry}{d it vw:Addr}{i ep:Nat}
def Raw(h:Heap)(d:Addr)(es:Array DictEntry)(ep:Nat):Prop:=∃o,h.get? d=some o/\o.cls=.type "dict"/\o.data=.dict es ep
theorem Raw.ty(m:Raw s.heap d es ep):s.TypeIs (.ref d) "dict":=let ⟨o,a,b,_⟩:=m;⟨o,a,b⟩
theorem Raw.keep{h h':Heap}(m:Raw h d es ep)(k:∀o,h.get? d=some o->h'.get? d=some o):Raw h' d es ep:=let ⟨o,a,r⟩:=m;⟨o,k o a,r⟩
theorem aLj(d:Addr)(lo:(d == sysModules)=false):MeetsIn prog w (Builtin.«dict.items» ⟨[.ref d],[]⟩) (λ_ R s=>s.TypeIs (.ref d) "dict"/\
  R (.ok (.ret (.ref s.heap.objs.size))) { s with heap:=s.heap.push { cls:=.type "dict_items",data:=.fields #[.ref d] } }):=
 .of_wp λA R s ⟨ty,h⟩=>by
  unfold Builtin.«dict.items»;with_reducible refine bN ?_;unfold Builtin.Dict.noArgs
  refine bN (wpAny_notOrdered_dict ty (show wpAny _ _ (pure d) _ _ s from dY ?_));show wpAny _ _ (Builtin.Dict.showsAll d >>= _) _ _ s;unfold Builtin.Dict.showsAll;rw[cD (λz=>oh (lo.symm.trans z))];refine bN (dY ?_);exact bN (wo (dY (show _ from⟨_,rfl,h⟩)))
theorem aE9{Q:ar}(hv:s.heap.IsItemsView vw d)(hm:Raw s.heap d es ep)
  (hQ:Q (.ref s.heap.objs.size) { s with heap:=s.heap.push { cls:=.type "dict_itemiterator",data:=.fields #[.none,.bool false,.ref d,.int 0 0,.int es.size 0,.int ep 0,.none,.none] } }) :
  wpAny (model prog w) A (pyIter (.ref vw)) Q E s:=by
 obtain⟨ov,a1,a2,a3⟩:=id hv;obtain⟨o,b1,b2,b3⟩:=id hm;refine wpAny_pyIter_slot hv.typeIs F.slot_dict_items_iter (yz F.slot_dict_items_iter hv.typeIs F.entry_dict_items_iter (show _ from ?_) (F.args_dict_items_iter_1 _));unfold Builtin.«dict_items.__iter__»;refine bN (dY ?_);with_reducible refine bN ?_
 unfold Builtin.Dict_items.dictOf;refine bN (wpAny_field a1 a3 (x:=.ref d) rfl (dY ?_));with_reducible refine bN ?_
 unfold Builtin.Dict_items.newIterator;refine bN (F5 b1 b3 (bN (F0 b1 b3 ?_)));have own:Builtin.Dict_items.ownsTuple "dict_itemiterator" = true:=rfl;simp only[own,if_true];refine wo (dY ⟨_,rfl,"dict_itemiterator",_,⟨_,qP _ rfl,rfl⟩,F.slot_dict_itemiterator_next.lookup,(show _ from ?_)⟩)
  (by simp only[sizeOk,Builtin.Dict_items.ownedTupleFields,jT,iR,mv,Q9,xx];decide)
 simpa [Builtin.Dict_items.ownedTupleFields,rawInt] using hQ
theorem aGN{Q:ar}(lo:(d == sysModules)=false)(hm:Raw s.heap d es ep)
  (hQ:Q (.ref s.heap.objs.size) { s with heap:=s.heap.push { cls:=.type "dict_keyiterator",data:=.fields #[.ref d,.int 0 0,.int es.size 0,.int ep 0] } }) :
  wpAny (model prog w) A (pyIter (.ref d)) Q E s:=by
 obtain⟨o,b1,b2,b3⟩:=id hm;refine wpAny_pyIter_slot hm.ty F.slot_dict_iter (yz F.slot_dict_iter hm.ty F.entry_dict_iter (show _ from ?_) (F.args_dict_iter_1 _));unfold Builtin.«dict.__iter__»;with_reducible refine bN ?_;unfold Builtin.Dict.dictSlotNone
 refine bN (wpAny_notOrdered_dict hm.ty (show wpAny _ _ (pure (Value.ref d)) _ _ s from dY ?_));show wpAny _ _ (Builtin.Dict.showsAll d >>= _) _ _ s;unfold Builtin.Dict.showsAll;rw[cD (λz=>oh (lo.symm.trans z))];refine bN (dY ?_);refine bN (F5 b1 b3 (bN (F0 b1 b3 ?_)));refine bN (wo (dY ⟨_,rfl,"dict_keyiterator",_,⟨_,qP _ rfl,rfl⟩,F.slot_dict_keyiterator_next.lookup,(show _ from ?_)⟩));simpa [rawInt] using hQ
def zx(T:String)(h:Heap)(it d:Addr)(i n ep:Nat):Prop:=∃o,h.get? it=some o/\o.cls=.type T/\o.data=.fields #[.ref d,.int i 0,.int n 0,.int ep 0]
theorem zx.ty{n:Nat}(x:zx T s.heap it d i n ep):s.TypeIs (.ref it) T:=let ⟨o,a,b,_⟩:=x;⟨o,a,b⟩
theorem zx.keep{n:Nat}{h h':Heap}(m:zx T h it d i n ep)(k:∀o,h.get? it=some o->h'.get? it=some o):zx T h' it d i n ep:=let ⟨o,a,r⟩:=m;⟨o,k o a,r⟩
theorem zx.turn{n:Nat}{h:Heap}{o:Obj}(a:h.get? it=some o)(b:o.cls=.type T)(c:o.data=.fields #[.ref d,.int i 0,.int n 0,.int ep 0]) :
  zx T (h.update it (Obj.mapFields (·.setIfInBounds 1 (rawInt ((i:Int)+1))))) it d (i+1) n ep:=
 ⟨_,Ib _ a (Obj.isFreed_of_fields (Obj.data_mapFields c _)),(Obj.cls_mapFields ..).trans b,by rw[Obj.data_mapFields c];simp[rawInt]⟩
theorem aIg{Q:aw->Shared->Prop}{e:DictEntry}(hit:zx "dict_keyiterator" s.heap it d i es.size ep)(hm:Raw s.heap d es ep)(hx:es[i]?=some e)
  (hQ:∀h',zx "dict_keyiterator" h' it d (i+1) es.size ep->Heap.SameBut it s.heap h'->Q (some e.key) { s with heap:=h' }):wpAny (model prog w) A (pyNext (.ref it)) Q E s:=by
 obtain⟨o,a1,a2,a3⟩:=id hit;obtain⟨od,b1,b2,b3⟩:=id hm;have ty:=hit.ty;unfold pyNext;refine bN (FZ (wpAny_callSpecial?_slot (name:=Str.ofString "__next__") ty F.slot_dict_keyiterator_next
  (yz F.slot_dict_keyiterator_next ty F.entry_dict_keyiterator_next (show _ from ?_) (F.args_dict_keyiterator_next_1 _))))
 refine bN (dY ?_);refine bN (show _ from ?_);refine bN (show _ from ?_);first|refine bN (wpAny_typeNameOfWhole_keyiter ty (show _ from dY ?_))|refine bN (wpAny_typeNameOf_keyiter ty (show _ from dY ?_))
 refine bN (wpAny_fieldsOf a1 a3 (show _ from ?_));have own:Builtin.Dict_items.ownsTuple "dict_keyiterator" = false:=rfl;simp only[own,if_false,D8];show wpAny _ _ (if (Value.ref d == Value.none)=true then _ else _) _ _ s;rw[cD (show ¬((Value.ref d == Value.none)=true) from λz=>nomatch z)];refine bN (dY ?_);refine bN (F5 b1 b3 (show _ from ?_));rw[cD (show _ from by simp)];refine bN (dY ?_);refine bN (F0 b1 b3 (show _ from ?_));rw[cD (show _ from by simp)];refine dY (show _ from ?_);have il:i < es.size:=(Array.getElem?_eq_some_iff.mp hx).1;have ee:es[i]=e:=(Array.getElem?_eq_some_iff.mp hx).2;simp only[show ¬((i:Int) < 0) by lia,if_false,yd,hx];refine bN (show _ from ?_);first|refine bN (wpAny_typeNameOfWhole_keyiter ty (show _ from dY ?_))|refine bN (wpAny_typeNameOf_keyiter ty (show _ from dY ?_))
 refine bN (wpAny_isOneOf_keyiter ty (show _ from ?_));show wpAny _ _ (setField (.ref it) 1 (rawInt ((i:Int)+1)) >>= _) _ _ s;refine bN (HS a1 a3 (show _ by simp) (show _ from ?_));have t2:=zx.turn a1 a2 a3;refine bN (BH (show _ from ?_));refine bN (wpAny_isOneOf_keyiter (s:={ s with heap:=s.heap.update it (Obj.mapFields (·.setIfInBounds 1 (rawInt ((i:Int)+1)))) }) t2.ty (show _ from ?_));exact dY (dY ⟨_,rfl,dY (hQ _ t2 (Heap.SameBut.update ..))⟩)
theorem aJq{Q:aw->Shared->Prop}(hh:A.handled=none)(hit:zx "dict_keyiterator" s.heap it d i es.size ep)(hm:Raw s.heap d es ep)(hx:es.size<=i)
  (hQ:∀h',Heap.ExtBut it s.heap h'->Q none { s with heap:=h' }):wpAny (model prog w) A (pyNext (.ref it)) Q E s:=by
 obtain⟨o,a1,a2,a3⟩:=id hit;obtain⟨od,b1,b2,b3⟩:=id hm;have ty:=hit.ty;unfold pyNext;refine bN (FZ (wpAny_callSpecial?_slot (name:=Str.ofString "__next__") ty F.slot_dict_keyiterator_next
  (yz F.slot_dict_keyiterator_next ty F.entry_dict_keyiterator_next (show _ from ?_) (F.args_dict_keyiterator_next_1 _))))
 refine bN (dY ?_);refine bN (show _ from ?_);refine bN (show _ from ?_);first|refine bN (wpAny_typeNameOfWhole_keyiter ty (show _ from dY ?_))|refine bN (wpAny_typeNameOf_keyiter ty (show _ from dY ?_))
 refine bN (wpAny_fieldsOf a1 a3 (show _ from ?_));have own:Builtin.Dict_items.ownsTuple "dict_keyiterator" = false:=rfl;simp only[own,if_false,D8];show wpAny _ _ (if (Value.ref d == Value.none)=true then _ else _) _ _ s;rw[cD (show ¬((Value.ref d == Value.none)=true) from λz=>nomatch z)];refine bN (dY ?_);refine bN (F5 b1 b3 (show _ from ?_));rw[cD (show _ from by simp)];refine bN (dY ?_);refine bN (F0 b1 b3 (show _ from ?_));rw[cD (show _ from by simp)];refine dY (show _ from ?_);simp only[show ¬((i:Int) < 0) by lia,if_false,yd,Array.getElem?_eq_none hx];refine bN (show _ from ?_);first|refine bN (wpAny_typeNameOfWhole_keyiter ty (show _ from dY ?_))|refine bN (wpAny_typeNameOf_keyiter ty (show _ from dY ?_))
 show wpAny _ _ (setField (.ref it) 0 Value.none >>= _) _ _ s;refine bN (HS a1 a3 (show _ by simp) (show _ from ?_));show wpAny _ _ (newExc (.type "StopIteration") [] >>= _) _ _ _;refine bN (show _ from ?_);simp only[newExc,newTuple];refine bN (wo (show _ from ?_) (by size_fits));refine bN (m:=firstArgMember _ _) (wpAny_of_eq (a:=Value.none) (show _ by first|rfl|(simp only[firstArgMember];rfl)) (show _ from ?_));refine wo (show _ from ?_) (by size_fits);simp only[raiseNew];refine bN (wpAny_handled (show _ from ?_));rw[show A.in1.handled=none from hh];refine bN (dY (wpAny_throw ?_));refine bN (wpAny_isInstance (T:="StopIteration") (b:=true) ⟨_,qP _ rfl,rfl⟩ isSubtype_stop (show _ from ?_));exact dY (hQ _ (show _ from((Heap.SameBut.update ..).extBut.push _).push _))
theorem aGO{Q:aw->Shared->Prop}{e:DictEntry}(hit:IsItemIter s.heap it d i es.size ep ok ov)(hm:Raw s.heap d es ep)(hx:es[i]?=some e)(hQ:∀h',IsItemIterOut h' it d (i+1) es.size ep e.key e.val s.heap.objs.size->h'.get? s.heap.objs.size=some { cls:=.type "tuple",data:=.seq #[e.key,e.val] }->
   h'.objs.size=s.heap.objs.size+1->(∀b o,b≠it->s.heap.get? b=some o->h'.get? b=some o)->Q (some (.ref s.heap.objs.size)) { s with heap:=h' }) :
  wpAny (model prog w) A (pyNext (.ref it)) Q E s:=by
 obtain⟨hp,g,dr,tk,os⟩:=s;obtain⟨od,b1,b2,b3⟩:=id hm;have ty:Shared.TypeIs ⟨hp,g,dr,tk,os⟩ (.ref it) "dict_itemiterator":=⟨_,hit,rfl⟩
 unfold pyNext;refine bN (FZ (wpAny_callSpecial?_slot (name:=Str.ofString "__next__") ty F.slot_dict_itemiterator_next
  (yz F.slot_dict_itemiterator_next ty F.entry_dict_itemiterator_next (show _ from ?_) (F.args_dict_itemiterator_next_1 _))))
 refine bN (dY ?_);refine bN (show _ from ?_);refine bN (show _ from ?_);first|refine bN (Ms ty (show _ from dY ?_))|refine bN (Mn ty (show _ from dY ?_))
 refine bN (wpAny_fieldsOf hit rfl (show _ from ?_));have own:Builtin.Dict_items.ownsTuple "dict_itemiterator" = true:=rfl;simp only[own,if_true];show wpAny _ _ (if (Value.ref d == Value.none)=true then _ else _) _ _ _;rw[cD (show ¬((Value.ref d == Value.none)=true) from λz=>nomatch z)];refine bN (dY ?_);refine bN (F5 b1 b3 (show _ from ?_));rw[cD (show _ from by simp)];refine bN (dY ?_);refine bN (F0 b1 b3 (show _ from ?_));rw[cD (show _ from by simp)];refine dY (show _ from ?_);simp only[show ¬((i:Int) < 0) by lia,if_false,yd,hx];refine bN (show _ from ?_);first|refine bN (Ms ty (show _ from dY ?_))|refine bN (Mn ty (show _ from dY ?_))
 refine bN (wpAny_isOneOf_itemiter ty (show _ from ?_));show wpAny _ _ (setField (.ref it) 3 (rawInt ((i:Int)+1)) >>= _) _ _ _;refine bN (BM hit (show _ by simp) λj1 c1 d1=>(show _ from ?_))
 replace d1:Heap.SameBut it hp j1:=d1
 replace c1:IsItemIter j1 it d (i+1) es.size ep ok ov:=by
  unfold IsItemIter;rw[show((i+1:Nat):Int)=(i:Int)+1 by lia];simpa [rawInt] using c1
 have MG:Shared.TypeIs ⟨j1,g,dr,tk,os⟩ (.ref it) "dict_itemiterator":=⟨_,c1,rfl⟩
 refine bN (BH (show _ from ?_));refine bN (wpAny_isOneOf_itemiter MG (bN (wpAny_isOneOf_itemiter MG (show _ from ?_))));show wpAny _ _ (Builtin.Dict_items.pairFromOwner (.ref it) 6 e.key e.val) _ _ ⟨j1,g,dr,tk,os⟩;unfold Builtin.Dict_items.pairFromOwner;refine bN (wpAny_newTuple (show _ from ?_));have c2:IsItemIter (j1.push { cls:=.type "tuple",data:=.seq #[e.key,e.val] }) it d (i+1) es.size ep ok ov:=fL _ c1;generalize qi:j1.push { cls:=.type "tuple",data:=.seq #[e.key,e.val] } = j2 at c2;have z1:j1.objs.size=hp.objs.size:=d1.1;have il:it < hp.objs.size:=iM hit;have t2:j2.get? hp.objs.size=some { cls:=.type "tuple",data:=.seq #[e.key,e.val] }:=by rw[<-qi,<-z1];exact qP _ rfl
 have z2:j2.objs.size=hp.objs.size+1:=by rw[<-qi,vb,z1]
 have k2:∀b o,b≠it->hp.get? b=some o->j2.get? b=some o:=λb o hb q=>by rw[<-qi];exact fL _ (d1.extBut b o hb q)
 show wpAny _ _ (Builtin.Dict_items.ownedTupleIsFree (.ref it) >>= _) _ _ ⟨j2,g,dr,tk,os⟩;rw[z1];clear qi c1 d1 MG z1 j1;refine bN (show _ from ?_);unfold Builtin.Dict_items.ownedTupleIsFree;refine bN (wpAny_field c2 rfl (x:=.none) rfl (show _ from dY ?_));simp only[if_true];refine bN (wpAny_field c2 rfl (x:=ok) rfl (bN (wpAny_field c2 rfl (x:=ov) rfl (show _ from ?_))));refine bN (BM c2 (show _ by simp) λj3 c3 d3=>(show _ from ?_))
 replace d3:Heap.SameBut it j2 j3:=d3;replace c3:IsItemIter j3 it d (i+1) es.size ep e.key ov:=c3
 refine bN (BM c3 (show _ by simp) λj4 c4 d4=>(show _ from ?_))
 replace d4:Heap.SameBut it j3 j4:=d4;replace c4:IsItemIter j4 it d (i+1) es.size ep e.key e.val:=c4
 refine bN (BM c4 (show _ by simp) λj5 c5 d5=>(show _ from ?_))
 replace d5:Heap.SameBut it j4 j5:=d5;replace c5:IsItemIterOut j5 it d (i+1) es.size ep e.key e.val hp.objs.size:=c5
 refine bN (BM c5 (show _ by simp) λj6 c6 d6=>(show _ from ?_))
 replace d6:Heap.SameBut it j5 j6:=d6;replace c6:IsItemIterOut j6 it d (i+1) es.size ep e.key e.val hp.objs.size:=c6
 have up:∀b o,b≠it->j2.get? b=some o->j6.get? b=some o:=λb o hb q=>d6.extBut b o hb (d5.extBut b o hb (d4.extBut b o hb (d3.extBut b o hb q)));refine bN (wpAny_letGo (dY (dY ⟨_,rfl,dY (hQ j6 c6 (up _ _ (yx il) t2) ?_ λb o hb q=>up b o hb (k2 b o hb q))⟩)));show j6.objs.size=_;rw[d6.1,d5.1,d4.1,d3.1,z2]
theorem aIh{Q:aw->Shared->Prop}(hh:A.handled=none)(hit:IsItemIter s.heap it d i es.size ep ok ov)(hm:Raw s.heap d es ep)(hx:es.size<=i)(hQ:∀h',Heap.ExtBut it s.heap h'->Q none { s with heap:=h' }):wpAny (model prog w) A (pyNext (.ref it)) Q E s:=by
 obtain⟨od,b1,b2,b3⟩:=id hm;have ty:s.TypeIs (.ref it) "dict_itemiterator":=⟨_,hit,rfl⟩
 unfold pyNext;refine bN (FZ (wpAny_callSpecial?_slot (name:=Str.ofString "__next__") ty F.slot_dict_itemiterator_next
  (yz F.slot_dict_itemiterator_next ty F.entry_dict_itemiterator_next (show _ from ?_) (F.args_dict_itemiterator_next_1 _))))
 refine bN (dY ?_);refine bN (show _ from ?_);refine bN (show _ from ?_);first|refine bN (Ms ty (show _ from dY ?_))|refine bN (Mn ty (show _ from dY ?_))
 refine bN (wpAny_fieldsOf hit rfl (show _ from ?_));have own:Builtin.Dict_items.ownsTuple "dict_itemiterator" = true:=rfl;simp only[own,if_true];show wpAny _ _ (if (Value.ref d == Value.none)=true then _ else _) _ _ _;rw[cD (show ¬((Value.ref d == Value.none)=true) from λz=>nomatch z)];refine bN (dY ?_);refine bN (F5 b1 b3 (show _ from ?_));rw[cD (show _ from by simp)];refine bN (dY ?_);refine bN (F0 b1 b3 (show _ from ?_));rw[cD (show _ from by simp)];refine dY (show _ from ?_);simp only[show ¬((i:Int) < 0) by lia,if_false,yd,Array.getElem?_eq_none hx];refine bN (show _ from ?_);first|refine bN (Ms ty (show _ from dY ?_))|refine bN (Mn ty (show _ from dY ?_))
 show wpAny _ _ (setField (.ref it) 2 Value.none >>= _) _ _ s;refine bN (HS hit rfl (show _ by simp) (show _ from ?_));show wpAny _ _ (newExc (.type "StopIteration") [] >>= _) _ _ _;refine bN (show _ from ?_);simp only[newExc,newTuple];refine bN (wo (show _ from ?_) (by size_fits));refine bN (m:=firstArgMember _ _) (wpAny_of_eq (a:=Value.none) (show _ by first|rfl|(simp only[firstArgMember];rfl)) (show _ from ?_));refine wo (show _ from ?_) (by size_fits);simp only[raiseNew];refine bN (wpAny_handled (show _ from ?_));rw[show A.in1.handled=none from hh];refine bN (dY (wpAny_throw ?_));refine bN (wpAny_isInstance (T:="StopIteration") (b:=true) ⟨_,qP _ rfl,rfl⟩ isSubtype_stop (show _ from ?_));exact dY (hQ _ (show _ from((Heap.SameBut.update ..).extBut.push _).push _))
end
section
variable{X:Cx}{pins:au}{σ:St}{H:Hp}{s:Shared}
theorem Inv.aOW(I:Inv X pins σ H s)(e:H d=some (.dT kvs))(ho:s.heap.get? d=some o):Inv X pins σ (upd H d (.mj o (.dT kvs))) s:=by
 have nd:∀b u,H b=some u->u≠.dT kvs->b≠d:=λb u q n z=>by rw[z,e] at q;exact n (Option.some.inj q).symm
 refine I.step (h':=s.heap) (g':=s.gens) (d':=s.drawn) (t':=s.toks) (ch:=[]) (λ_ z=>nomatch z) (λb u _ _ _ q _=>q) (λb u _ _ _ q _=>⟨u.slots,q⟩) (λb u _ _ n=>?_)
  (λb u _ q=>⟨u,q⟩) (λb xs q=>?_) (λb u v q=>?_) (λb ps q=>⟨#[],?_⟩) (λm hm=>hm) (λb u q=>?_) I.bare
 ·rw[bA (λz=>by rw[z,e] at n;cases n)];exact n
 ·rw[bA (nd _ _ q (λz=>by cases z))];exact q
 ·rw[bA (nd _ _ q (λz=>by cases z))];exact q
 ·rw[bA (nd _ _ q (λz=>by cases z)),q];simp
 ·have st:∀c v,H c=some v->cR X.prog X.w H s.heap c v->cR X.prog X.w (upd H d (.mj o (.dT kvs))) s.heap c v:=λc v _ z=>
   z.zt (λ_ _ _ z=>z) (λc z=>by rw[bA (nd _ _ z (λy=>by cases y))];exact z) λc xs t z=>by rw[bA (nd _ _ z (λy=>by subst y;exact t))];exact z
  by_cases hb:b=d
  ·subst hb;rw[aP] at q;cases q;exact⟨ho,st b _ e (I.bf b _ e)⟩
  ·rw[bA hb] at q;exact st b u q (I.bf b u q)
end
theorem LK{H:Hp}:∀{kvs:List (List Key×V)}{xs:List (List Key×Addr×Value)},KT H kvs xs->∀{i:Nat}{p:List Key×V},kvs[i]?=some p->∃q,xs[i]?=some q/\H q.2.1=some (.tup (p.1.map kV))/\RelV p.2 q.2.2
 |[],_,r,i,p,h=>by simp at h
 |a::as,_,r,i,p,h=>by
  cases r with
  |cons x t=>
   cases i with
   |zero=>cases h;exact⟨_,rfl,x.2⟩
   |succ i=>exact LK t (i:=i) h
theorem PD{h:Heap}{kvs:List (List Key×V)}(x:cR P w H h d (.dT kvs)):(d == sysModules)=false/\∃(o:Obj) (es:Array DictEntry) (ep:Nat) (xs:List (List Key×Addr×Value)),
  h.get? d=some o/\o.ExactDict/\o.data=.dict es ep/\KT H kvs xs/\es.toList=xs.map (entryOfKey (tupleKind (eW P w)))/\es.size=kvs.length:=by
 obtain⟨z,y,xs,r,o,es,ep,h1,h2,h3,h4,h5⟩:=x;refine⟨y,o,es,ep,xs,h1,h2,h3,r,h4,?_⟩;rw[size_of_entries h4];exact(Paired.length r).symm
def Gg(d:Addr)(o:Obj)(kvs:List (List Key×V)):It:=
 ⟨λi H=>H d=some (.mj o (.dT kvs))/\i < kvs.length,λi H x H'=>∃T b kv,H T=none/\x=.ref T/\kvs[i]?=some kv/\H b=some (.tup (kv.1.map kV))/\H'=upd H T (.tup [.ref b,kv.2]),λi H=>H d=some (.mj o (.dT kvs))/\kvs.length<=i⟩
theorem aDh:entryFor table "dict_itemiterator.__iter__" = some Builtin.«dict_keyiterator.__iter__»:=PySem.entryFor_alias (id':="dict_keyiterator.__iter__") (by kernel_rfl) rfl (by decide +kernel) (show _ by kernel_rfl)
theorem aJs{P:Program}{w:World}{K:PySem.W.Frag}{elts:List Expr}{x1:Nat}{tp:Pos}(d it:Addr)(o:Obj)(kvs:List (List Key×V))(es:Array DictEntry)(ep:Nat)(WA:o.cls=.type "dict")(GL:o.data=.dict es ep)(hn:es.size=kvs.length) :
  Turn P w K (.Tuple elts x1 tp) (Gg d o kvs) [it] it (λi h=>∃ok ov,IsItemIter h it d i es.size ep ok ov) where
 mem:=by simp
 obj:=λi h st b hb=>by
  obtain⟨ok,ov,he⟩:=st;have z:b=it:=by simpa using hb
  subst z;exact⟨_,he,λv z=>by cases z⟩
 keep:=λi h h' st k=>by
  obtain⟨ok,ov,he⟩:=st;exact⟨ok,ov,k it (by simp) _ he⟩
 item:=by
  intro X hP hw hK hc i pins s σ H E I hf st hg;subst hP hw hK;obtain⟨ok,ov,he⟩:=st;obtain⟨hd,hi⟩:=hg;have hO:cR X.prog X.w H s.heap d (.mj o (.dT kvs)):=I.bf d _ hd;obtain⟨ho,hO⟩:=hO;obtain⟨lo,o',CC,Fn,xs,g1,g2,g3,rel,g4,g5⟩:=PD hO;have eo:o'=o:=Option.some.inj (g1.symm.trans ho);subst eo;have ee:CC=es/\Fn=ep:=by rw[GL] at g3;injection g3 with a b;exact⟨a.symm,b.symm⟩
  obtain⟨e1,e2⟩:=ee;subst e1 e2;have raw:Raw s.heap d CC Fn:=⟨o',ho,WA,GL⟩
  have hx:kvs[i]?=some kvs[i]:=dM hi;obtain⟨q,hq,hb,rv⟩:=LK rel hx;have hex:CC[i]?=some (entryOfKey (tupleKind (eW X.prog X.w)) q):=by rw[entry_at g4,hq];rfl
  have B0:it < s.heap.objs.size:=iM he;refine aGO he raw hex λh1 tw hT hsz hk=>?_;refine⟨_,rfl,wpAny_letOwnedTupleGo_items tw λh2 NP cj=>?_⟩
  replace cj:Heap.SameBut it h1 h2:=cj
  have um:h2.IsTuple s.heap.objs.size #[.ref q.2.1,q.2.2]:=⟨_,(cj.2 _ (yx B0)).trans hT,rfl,_,rfl⟩
  have kk:∀b o,b∉[it]->s.heap.get? b=some o->h2.get? b=some o:=λb o hb q=>by
   have n1:b≠it:=λz=>hb (by simp[z]);exact(cj.2 b n1).trans (hk b o n1 q)
  have I2:Inv X pins σ (upd H s.heap.objs.size (.tup [.ref q.2.1,kvs[i].2])) { s with heap:=h2,toks:=s.toks }:=
   I.xF kk hf (eO _) (show cR X.prog X.w _ h2 _ (.tup [.ref q.2.1,kvs[i].2]) from⟨bV (by simp),[.ref q.2.1,q.2.2],.cons rfl (.cons rv .nil),um⟩)
  have DL:H s.heap.objs.size=none:=I.bf.fresh (eO _);refine⟨.ref s.heap.objs.size,_,I2,rfl,⟨_,q.2.1,kvs[i],DL,rfl,hx,hb,rfl⟩,⟨_,_,NP⟩,λb hb=>?_⟩;have z:b=it:=by simpa using hb
  subst z;rw[bA (rR B0)];exact(hf b (by simp)).1
 done:=by
  intro X hP hw hK hc i pins s σ H E I hf st hg;subst hP hw hK;obtain⟨ok,ov,he⟩:=st;obtain⟨hd,hi⟩:=hg;have hO:cR X.prog X.w H s.heap d (.mj o (.dT kvs)):=I.bf d _ hd;obtain⟨f0,f1,f2,f3,f4,f5⟩:=hf it (by simp);exact aIh (I.ok.hd hc) he ⟨o,hO.1,WA,GL⟩ (by lia) λh' eb=>⟨rfl,I.turned (t':=s.toks) (λb o hb e=>eb b o hb e) f0 f1 f3 f4 f5⟩
 self:=λ_ _ _ _ _ st h=>by
  obtain⟨ok,ov,he⟩:=st;refine wpAny_pyIter_slot ⟨_,he,rfl⟩ F.slot_dict_itemiterator_iter (yz F.slot_dict_itemiterator_iter ⟨_,he,rfl⟩ aDh ?_ (F.args_dict_itemiterator_iter_1 _));exact dY ⟨_,rfl,"dict_itemiterator",_,⟨_,he,rfl⟩,F.slot_dict_itemiterator_next.lookup,h⟩
section
variable{X:Cx}{elts:List Expr}{x1:Nat}{tp:Pos}
def Rq(R:It->Hp->Prop):V->Hp->Prop:=λx H1=>∃d kvs,x=.ref d/\H1 d=some (.dT kvs)/\∀o,R (Gg d o kvs) (upd H1 d (.mj o (.dT kvs)))
def PC(td:TE):TI:=λσ H R=>td σ H (Rq R)
theorem aMQ{o:Expr}{td:TE}{apos bu:Pos}(ho:PE X o td)(fk:attributeBase o "items" X.env (eval o X.env)=eval o X.env:=by rfl)(fj:(apos.endLine == bu.line)=true:=by rfl) :
  PI X (.Tuple elts x1 tp) (.Call (.Attribute o "items" apos) [] [] bu) (PC td):=by
 intro pins s σ H R I h;refine wpAny_Call_method (T:="dict") (id:="dict.items") fk rfl fj PySem.F.plainAttrs_dict PySem.F.slot_dict_items PySem.F.type_dict_items (eF (ho pins s σ H _ I h) λv s1 zq=>?_);obtain⟨x,H1,I1,r1,q1⟩:=zq;obtain⟨d,kvs,e,hd,q⟩:=q1;subst e;cases r1;obtain⟨lo,ob,es,ep,xs,g1,g2,g3,rel,g4,g5⟩:=PD (show cR X.prog X.w H1 s1.heap d (.dT kvs) from I1.bf d _ hd);have raw:Raw s1.heap d es ep:=⟨ob,g1,g2.1,g3⟩
 refine⟨raw.ty,λb z=>by cases z;exact⟨ob,g1,g2.2.1⟩,?_⟩;refine method_meetsIn PySem.F.slot_dict_items PySem.F.entry_dict_items rfl (PySem.evalArgs_none ⟨rfl,raw.ty,PySem.F.args_dict_items_1 _,_,aLj d lo,raw.ty,?_⟩);have I2:=I1.aOW hd g1;show wpAny _ _ (pyIter (.ref s1.heap.objs.size)) _ _ _;refine aE9 (s:={ s1 with heap:=s1.heap.push { cls:=.type "dict_items",data:=.fields #[.ref d] } }) ⟨_,qP _ rfl,rfl,rfl⟩ (raw.keep λo e=>fL _ e) ?_;have hk:∀b u,s1.heap.get? b=some u->((s1.heap.push { cls:=.type "dict_items",data:=.fields #[.ref d] }).push { cls:=.type "dict_itemiterator",data:=.fields #[.none,.bool false,.ref d,.int 0 0,.int es.size 0,.int ep 0,.none,.none] }).get? b=some u:=
  λb u e=>fL _ (fL _ e)
 refine⟨_,[(s1.heap.push { cls:=.type "dict_items",data:=.fields #[.ref d] }).objs.size],_,_,_,rfl,I2.kept (t':=s1.toks) hk,aJs d _ ob kvs es ep g2.1 g3 g5,⟨_,_,qP _ rfl⟩,λb hb=>?_,q ob⟩;have e:b=(s1.heap.push { cls:=.type "dict_items",data:=.fields #[.ref d] }).objs.size:=by simpa using hb
 have hle:s1.heap.objs.size<=b:=by rw[e,vb];exact Nat.le_succ _
 exact I2.Bg hle (I2.bf.fresh hle)
end
section
variable{σ:St}{H:Hp}{nx:St->Hp->Prop}{rt:VK}{g:TG}{tb:TS}
theorem aLk{R:It->Hp->Prop}(h:td σ H (Rq R)):PC td σ H R:=h
theorem aSi{R:It->Hp->Prop}(h1:H d=some (.dT kvs))(h:∀o,R (Gg d o kvs) (upd H d (.mj o (.dT kvs)))):Rq R (.ref d) H:=⟨d,kvs,rfl,h1,h⟩
theorem aMR{kvs:List (List Key×V)}(Pv:Nat->St->Hp->Prop)(h0:Pv 0 σ H)(hl:∀i σ H,i<=kvs.length->Pv i σ H->H d=some (.mj o (.dT kvs)))(hs:∀i kv σ H T b,kvs[i]?=some kv->Pv i σ H->H T=none->H b=some (.tup (kv.1.map kV))->g (.ref T) σ (upd H T (.tup [.ref b,kv.2])) λσ2 H2=>tb ⟨Pv (i+1),rt,nx,Pv (i+1)⟩ σ2 H2)(hd:∀σ H,Pv kvs.length σ H->nx σ H) :
  ∃W:Nat->Nat->St->Hp->Prop,(∃m,W 0 m σ H)/\∀i m σ H,W i m σ H->
   ((Gg d o kvs).stop i H/\nx σ H)\/((Gg d o kvs).go i H/\∃N:St->Hp->Prop,(∀σ' H',N σ' H'->∃m',m' < m/\W (i+1) m' σ' H')/\∀x H',(Gg d o kvs).uy i H x H'->g x σ H' λσ2 H2=>tb ⟨N,rt,nx,N⟩ σ2 H2):=by
 refine⟨λi m σ H=>m=kvs.length - i/\i<=kvs.length/\Pv i σ H,⟨kvs.length,by simp,qw _,h0⟩,?_⟩;rintro i m σ H ⟨rfl,hi,p⟩;have q:=hl i σ H hi p;by_cases fh:i < kvs.length
 ·refine .inr ⟨⟨q,fh⟩,Pv (i+1),λσ' H' p'=>⟨kvs.length - (i+1),by lia,rfl,fh,p'⟩,λx H' y=>?_⟩;obtain⟨T,b,kv,hT,e1,hk,hb,e2⟩:=y;subst e1 e2;exact hs i kv σ H T b hk p hT hb
 ·have e:i=kvs.length:=by lia
  subst e;exact .inl ⟨⟨q,eO _⟩,hd σ H p⟩
end
section
variable{X:Cx}{ek ev:Expr}{tk tv:TE}{pos:Pos}
theorem aLl{A:Around}{E:ar}{kvs:List (List Key×V)}{k:List Key}{Q:Unit->Shared->Prop}(hu:A.units < cLine)(I:Inv X pins σ H s)(e:H a=some (.dT kvs))(eb:H b=some (.tup (k.map kV)))(l:kvs.length < sizeLine)(rv:RelV v r)(h:∀s',Inv X pins σ (upd H a (.dT (putK kvs k v))) s'->Q () s') :
  wpAny (model X.prog X.w) A (dictSet a (.ref b) r) Q E s:=by
 obtain⟨z,hd,xs,rel,dd⟩:=YI I.bf e;have hz:xs.length<=sizeLine:=by rw[<-Paired.length rel];exact z
 have hl:(putK kvs k v).length<=sizeLine:=by have:=uV kvs k v;lia
 refine wpAny_dictSet_heap (hsz:=hz) hu (HC I.bf eb) dd λh' Ft hs=>h _ ?_;obtain⟨q,es,ep,hq,h2,h3,h4,_,h5⟩:=Ft;refine Qj I (by rw[e];exact True.intro) hs ⟨q,hq⟩ ⟨hl,hd,_,(rel.put k eb rv).keeps λc ys ec=>?_,q,es,ep,hq,h2,h3,h4,h5⟩;rw[bA (YQ ec e (λz=>nomatch z))];exact ec
def PB(tk tv:TE):TE:=λσ H Q=>∀d,H d=none->tk σ (upd H d (.dT [])) λy H1=>tv σ H1 λv H2=>∃b k,y=.ref b/\H2 b=some (.tup (k.map kV))/\H2 d=some (.dT [])/\Q (.ref d) (upd H2 d (.dT [(k,v)]))
theorem aMS(hu:X.A.units < cLine)(hk:PE X ek tk)(hv:PE X ev tv):PE X (.Dict [some ek] [ev] pos) (PB tk tv):=by
 intro pins s σ H Q I h;have hn:H s.heap.objs.size=none:=I.bf.fresh (eO _);have I0:Inv X pins σ (upd H s.heap.objs.size (.dT [])) { s with heap:=s.heap.push { cls:=.type "dict",data:=.dict #[] } }:=I.laid (a:=s.heap.objs.size) (o:=.dT []) (t':=s.toks) (λ_ _ q=>fL _ q) (eO _) (aHR s.heap I.big);refine wpAny_Dict_any rfl rfl (by simp) (by simp) ?_;refine pairTrees_cons_walk (eF (hk pins _ σ _ _ I0 (h _ hn)) λu s1 ⟨y,H1,I1,r1,q1⟩=>eF (hv pins s1 σ H1 _ I1 q1) λv s2 ⟨x,H2,I2,r2,q2⟩=>pairTrees_nil_walk ?_);obtain⟨b,k,e,eb,ed,q⟩:=q2;subst e;cases r1;unfold storeAll;simp only[List.forIn_cons,List.forIn_nil];refine bN (bN (aLl hu I2 ed eb (by rw[xx];decide) r2 λs3 I3=>?_));exact dY (dY ⟨.ref _,_,I3,rfl,q⟩)
end
end L2
namespace L2
section
variable{σ:St}{H:Hp}{Q:VK}
theorem aMT{tk:TE}(h:∀d,H d=none->tk σ (upd H d (.dT [])) λy H1=>tv σ H1 λv H2=>∃b k,y=.ref b/\H2 b=some (.tup (k.map kV))/\H2 d=some (.dT [])/\Q (.ref d) (upd H2 d (.dT [(k,v)]))):PB tk tv σ H Q:=h
theorem aMU{ty:TE}(h:td σ H λx H1=>∃a,x=.ref a/\Rp H1 a/\ty σ H1 λy H2=>tx σ H2 λz H3=>∃o,uW H3 a y o/\Q (o.getD z) H3):PJ td ty tx σ H Q:=h
end
end L2
namespace L2.Z
open PySem PySem.Spec PyProof.Rows L2
section
variable{X:Cx}{o e f ek ev:Expr}{td ty tx tk tv:TE}{pos apos bu tp:Pos}{elts:List Expr}{x1:Nat}
theorem aIi(ho:QE X o td)(fk:attributeBase o "items" X.env (eval o X.env)=eval o X.env:=by rfl)(fj:(apos.endLine == bu.line)=true:=by rfl) :
  QI X (.Tuple elts x1 tp) (.Call (.Attribute o "items" apos) [] [] bu) (PC td):=⟨L2.aMQ ho.h fk fj⟩
theorem aIj(hu:X.A.units+9 < cLine)(hk:QE X ek tk)(hv:QE X ev tv):QE X (.Dict [some ek] [ev] pos) (PB tk tv):=⟨L2.aMS (by lia) hk.h hv.h⟩
theorem aIk(hu:X.A.units+9 < cLine)(ho:QE X o td)(he:QE X e ty)(hf:QE X f tx)(base:attributeBase o "get" X.env (eval o X.env)=eval o X.env:=by rfl)
  (yp:((backTo bu (starEach [e,f] X.env)).all (λx=>!x.1) && (backToKw bu (keywordEach [] X.env)).all (λx=>x.1.isSome)
   && decide (([e,f]:List Expr).length+([]:List Keyword).length+(if ([]:List Keyword).isEmpty then 0 else 1) < 30))=true:=by rfl)
  (line:(apos.endLine == bu.line)=true:=by rfl) (trees:backTo bu (starEach [e,f] X.env)=[(false,eval e X.env),(false,eval f X.env)]:=by rfl) :
  QE X (.Call (.Attribute o "get" apos) [e,f] [] bu) (PJ td ty tx):=⟨L2.aMd (by lia) ho.h he.h hf.h ⟨base,yp,line,trees⟩⟩
end
end L2.Z
namespace L2
open PySem PySem.Spec PyProof.Rows
section
variable{σ:St}{H:Hp}{Q:VK}{nx:St->Hp->Prop}{rt:VK}{g:TG}{tb:TS}
theorem aMV(h:td σ H λx H1=>ty σ H1 λy H2=>∃a v,x=.ref a/\uW H2 a y (some v)/\Q v H2):Px td ty σ H Q:=h
theorem uW.f{k:List Key}(e:H a=some (.mj o (.dT kvs)))(eb:H b=some (.tup (k.map kV))):uW H a (.ref b) (qS kvs k):=.inr ⟨kvs,k,b,.inr ⟨o,e⟩,rfl,eb,rfl⟩
end
end L2
namespace L2.Z
open PySem PySem.Spec PyProof.Rows L2
section
variable{X:Cx}{o i l tg:Expr}{td ty tl:TE}{pos:Pos}
theorem o5(hu:X.A.units+9 < cLine)(ho:QE X o td)(hi:QE X i ty)(hs:ON i:=by intro _ _;rfl):QE X (.Subscript o i pos) (Px td ty):=⟨L2.aOa (by lia) ho.h hi.h hs⟩
end
end L2.Z
namespace L2
open PySem PySem.Spec PyProof.Rows
section
open PySem.SeqAt
open PySem.AutoSeq1 (wpAny_loadPart')
open PySem.MeetsSeq PySem.MeetsSeq2 PySem.MeetsSeq3
end
structure BR(P:Program)(w:World)(K:W.Frag)(mg:Str->aw)(base:Heap)(k:Nat)(f:Addr)(sp:Sp):Prop where
 ex:∃(o:Obj) (fd:FuncData) (ps:ah),base.get? f=some o/\o.data=.func fd/\bQ P w K mg base eR k f fd ps sp/\∀(s:Shared) (us:aj),us.length=ps.length->BindsTo s fd ⟨us,[]⟩ (ps.zip us)
abbrev FO(q:Str)(params:Arguments)(body:Expr)(scope:Scope)(cl:List (Str×Addr))(pm cd ct:Value):FuncData:=
  { name := "<lambda>", qualname := q, params, body := .expr body, scope, globals := mainGlobals, closure := cl, defaults := .none, kwdefaults := .none, doc := .none, pyModule := pm, annotations := none, code := cd, closureTuple := ct, builtins := builtinsNs }
abbrev vB(q:Str)(scope:Scope)(L f:Addr)(cd:Value)(cl:List (Str×Addr)):Env:=
 { scope:=scope,locals:=L,globals:=mainGlobals,cells:=cl,qual:=q ++ ".<locals>.",func:=some f,code:=cd,frame:=some L,builtins:=builtinsNs }
def Ha(P:Program)(w:World)(K:W.Frag)(mg:Str->aw)(base:Heap)(N:ah)(q:Str)(scope:Scope)(f:Addr)(cd:Value)(cl:List (Str×Addr))(A:Around)(outer:List Env)(s:Shared)(H:Hp):Cx where
 prog:=P
 w:=w
 K:=K
 mg:=mg
 base:=base
 A:=A.deeper (vB q scope s.heap.objs.size f cd cl)
 N:=N
 dg:=s
 zg:=H
 env:=vB q scope s.heap.objs.size f cd cl
 outer:=outer
 stack:=vB q scope s.heap.objs.size f cd cl::outer
 ex:=[]
 calm:=true
 fn:=λ_=>false
 pn:=[]
 xe:=λ_ _=>False
structure OI(base:Heap)(scope:Scope)(N ps:ah)(cl:List (Str×Addr))(bz:St):Prop where
 kind:scope.kind=.function
 co:scope.isCoroutine=false
 gen:scope.isGenerator=false
 gg:∀y∈scope.names,y.2≠.cell
 pre:N.take ps.length=ps
 nd:N.Nodup
 len:N.length=ps.length+bz.length
 par:∀x∈ps,scope.names.lookup x=some .local
 inj:∀x y c,cl.lookup x=some c->cl.lookup y=some c->x=y
 has:∀x,scope.names.lookup x=some .free->∃c,cl.lookup x=some c
 all:∀x c,cl.lookup x=some c->∃o v,base.get? c=some o/\o.data=.cell v
 bz:∀(i:Nat) x v,(N.drop ps.length)[i]?=some x->bz[i]?=some (some v)->scope.names.lookup x=some .free/\∃u c o,RelV v u/\cl.lookup x=some c/\base.get? c=some o/\o.data=.cell (some u)
theorem Zu:∀{l:List (Str×Value)},(l.map (·.1)).Nodup->(x,v)∈l->l.lookup x=some v
 |[],_,h=>by cases h
 |(y,u)::r,nd,h=>by
  rw[ve];rcases lR.mp h with e|h'
  ·cases e;rw[beq_self_eq_true]
  ·have ne:x≠y:=λz=>by
    subst z;exact(ya.mp nd).1 (qQ.mpr ⟨(x,v),h',rfl⟩)
   rw[beq_eq_false_iff_ne.mpr ne];exact Zu (ya.mp nd).2 h'
theorem aOX:∀{P:ah}{us:aj}{i:Nat},P.Nodup->P[i]?=some x->us[i]?=some v->P.length=us.length->(P.zip us).reverse.lookup x=some v:=by
 intro P us i nd h1 h2 hl;have hm:(x,v)∈(P.zip us).reverse:=by
  rw[List.mem_reverse];refine jW (i:=i) ?_;rw[List.getElem?_zip_eq_some];exact⟨h1,h2⟩
 refine Zu ?_ hm;rw[List.map_reverse,List.map_fst_zip (HR hl)];exact List.pairwise_reverse.mpr (nd.imp λh=>Ne.symm h)
def Lu(c:Addr)(q:Str)(n:Nat)(tl:TE)(bz:St):Sp:=λws H Q _=>H c=some (.zp q)/\ws.length=n/\tl (ws.map some++bz) H Q
theorem aJv{P:Program}{w:World}{K:W.Frag}{mg:Str->aw}{base:Heap}{N ps:ah}{q:Str}{scope:Scope}{f:Addr}{cd:Value}{cl:List (Str×Addr)}{bz:St}{A:Around}{outer:List Env}{s:Shared}{H:Hp}{us:aj}{vs:List V}{h':Heap}{tk:Nat}
  (S:OI base scope N ps cl bz) (hd:A.handled=none) (e0:Be P w K mg base A outer s H) (hl:vs.length=ps.length) (r:Vals vs us)
  (Bs:h'.Ns s.heap.objs.size λx=>(ps.zip us).reverse.lookup x) (hk:∀b o,s.heap.get? b=some o->h'.get? b=some o) :
  Inv (Ha P w K mg base N q scope f cd cl A outer s H) [] (vs.map some++bz) H { s with heap:=h',toks:=tk }:=by
 have Ac:∀b:Addr,b∉(Ha P w K mg base N q scope f cd cl A outer s H).ex:=λb z=>absurd (show b∈([]:ay) from z) (by simp);refine⟨⟨e0.mod,S.kind,rfl,rfl,eO _,S.inj,λy hy=>?_,λy c z _=>(by cases z),λ_=>hd,Around.frames_deeper e0.frames,.inr ⟨rfl,rfl⟩,λb z=>absurd z (Ac b),e0.bs,e0.Al,λb _ _=>Ac b,λb z=>absurd z (Ac b),e0.xU,e0.Ba⟩,
  rfl,e0.bare,Un.kept hk,⟨_,Bs,λi y v h1 h2 h3=>?_⟩,λy c h=>?_,e0.bf.fresh (eO _),λy c h=>?_,λp hp=>absurd (show p∈([]:au) from hp) (by simp),e0.bf.kept hk,?_⟩
 ·have hy:scope.names.lookup y=some .cell\/scope.names.lookup y=some .free:=hy;rcases hy with hy|hy
  ·exact absurd rfl (S.gg _ (PySem.mem_of_lookup hy))
  ·exact S.has y hy
 ·have DO:N[i]?=some y:=h1;by_cases hi:i < ps.length
  ·rw[vf (by rw[bH];lia),nE] at h2;obtain⟨v',Ae,e⟩:=oi.mp h2;cases e;obtain⟨u,hu,rv⟩:=r.get Ae;have hp:ps[i]?=some y:=by rw[<-S.pre,List.getElem?_take_of_lt hi];exact DO
   have Kh:ps.Nodup:=by rw[<-S.pre];exact S.nd.sublist (List.take_sublist _ _)
   refine⟨u,rv,.inl ⟨S.par y (jW hp),?_⟩⟩;exact aOX Kh hp hu (by rw[<-hl];exact r.length)
  ·obtain⟨j,rfl⟩ : ∃j,i=ps.length+j:=⟨i - ps.length,by lia⟩
   rw[vo (by rw[bH];lia),bH,hl,Nat.add_sub_cancel_left] at h2;obtain⟨hf,u,c,o,rv,ec,eo,ed⟩:=S.bz j y v (by rw[List.getElem?_drop];exact DO) h2;exact⟨u,rv,.inr ⟨.inr hf,c,ec,o,hk _ _ (e0.bs c o eo).1,ed⟩⟩
 ·obtain⟨o,v,eo,ed⟩:=S.all y c h;exact⟨v,o,hk _ _ (e0.bs c o eo).1,ed⟩
 ·obtain⟨o,v,eo,ed⟩:=S.all y c h;exact(e0.bs c o eo).2
 ·show _=N.length;rw[iR,bH,hl,S.len]
theorem aRl{P:Program}{w:World}{K:W.Frag}{mg:Str->aw}{base:Heap}{k:Nat}{f c:Addr}{q:Str}{params:Arguments}{body:Expr}{scope:Scope}{cl:List (Str×Addr)}{pm ct:Value}{N ps:ah}{bz:St}{tl:TE}{o:Obj}
  (hf:base.get? f=some o) (ho:o.data=.func (FO q params body scope cl pm (.ref c) ct)) (S:OI base scope N ps cl bz)
  (ie:∀(A:Around) (outer:List Env) (s:Shared) (H:Hp),eX k (A.deeper (vB q scope s.heap.objs.size f (.ref c) cl))->PE (Ha P w K mg base N q scope f (.ref c) cl A outer s H) body tl) :
  bQ P w K mg base eR (k+1) f (FO q params body scope cl pm (.ref c) ct) ps (Lu c q ps.length tl bz):=by
 refine⟨λvs H Q E h=>h.2.1,λA outer s H args us vs Q E hr e0 hb r fb=>?_⟩;obtain⟨UO,hl,hq⟩:=fb;have lim:s.heap.NoLimit:=e0.mod.nolimit.keeps λb o e=>(e0.bs b o e).1;have qk:s.heap.CodeRec (.ref c) q:=by
  obtain⟨oc,vc,t,z1,z2,z3⟩:=e0.bf c _ UO;exact⟨c,oc,vc,t,rfl,z1,z2,z3⟩
 refine PySem.W.kla_callFunE hr.depth (e0.bs f _ hf).1 ho S.co S.gen rfl qk (hb _ _ _ _ ?_);refine wpAny_newFunctionEnv S.gg (λy hy=>?_) (λez Bs Wc=>⟨lim.fresh _ Wc,?_⟩) S.kind
 ·obtain⟨n,v⟩:=y;exact S.par n (Md hy).1
 show codeAny _ _ (.expr body (vB q scope s.heap.objs.size f (.ref c) cl)) _ _;have JM:∀b o,s.heap.get? b=some o->ez.get? b=some o:=λb o e=>Wc.extBut b o (rR (iM e)) (fL _ e);refine PySem.W.kla_codeExpr ?_;have I:=aJv (tk:=s.toks+(ps.zip us).length) (q:=q) (f:=f) (cd:=.ref c) S hr.hd e0 hl r Bs JM;refine vz (ie A outer s H (hr.deeper _) [] _ _ H _ I hq) (λu s' hs=>?_) λe s' hs=>hs.elim;obtain⟨v,H',J,rv,z⟩:=hs;exact⟨v,H',J.os,J.bare,J.base,J.bf,rv,z⟩
def By(base h:Heap)(Z:ay):Heap:=PySem.W.hideAll h ((List.range h.objs.size).filter λa=>!((base.get? a).isSome || Z.contains a))
theorem vC{base h:Heap}(e:h.get? b=some o)(z:(∃u,base.get? b=some u)\/b∈Z):(By base h Z).get? b=some o:=by
 refine PySem.W.hideAll_get _ e λhm=>?_;have q:=(D5.mp hm).2;rcases z with ⟨u,z⟩|z
 ·rw[z] at q;simp at q
 ·rw[show Z.contains b=true from List.elem_iff.mpr z] at q;simp at q
theorem Zt{base h:Heap}(e:(By base h Z).get? b=some o):h.get? b=some o/\((∃u,base.get? b=some u)\/b∈Z):=by
 have e':h.get? b=some o:=PySem.W.of_hideAll _ e;refine⟨e',?_⟩;cases q1:base.get? b with
 |some u=>exact .inl ⟨u,rfl⟩
 |none=>
  cases q2:Z.contains b with
  |true=>exact .inr (List.elem_iff.mp q2)
  |false=>
   have hm:b∈(List.range h.objs.size).filter λa=>!((base.get? a).isSome || Z.contains a):=D5.mpr ⟨Bj.mpr (iM e'),by rw[q1,q2];rfl⟩;have z:(By base h Z).get? b=none:=PySem.W.hideAll_none _ hm;rw[z] at e;cases e
theorem Mod.keeps{K:W.Frag}{mg:Str->aw}{base ck:Heap}(M:Mod K mg base)(k:∀b o,base.get? b=some o->ck.get? b=some o):Mod K mg ck:=
 ⟨M.Dx.keeps k,M.glob.keeps k,(let ⟨mb,h1,h2⟩:=M.blt;⟨mb,h1.keeps k,h2⟩),M.nolimit.keeps k,let ⟨bm,o,e1,e2,e3,r⟩:=M.bm;⟨bm,o,e1,e2,k _ _ e3,r⟩⟩
theorem aJw{h:Heap}(hl:h.FunFrames base l)(hz:∀b∈qc l,b∉Z):h.FunFrames (By base h Z) l:=by
 induction l with
 |nil=>trivial
 |cons env rest ih=>
  obtain⟨hk,⟨L,o,hf,hn,ho,hd⟩,hr⟩:=hl;have hL:L∈qc (env::rest):=by unfold qc;rw[CZ,hf];exact qz
  refine⟨hk,⟨L,o,hf,?_,ho,hd⟩,ih hr λb hb=>hz b (by unfold qc;rw[CZ,hf];exact xS _ hb)⟩;cases q:(By base h Z).get? L with
  |none=>rfl
  |some u=>
   rcases(Zt q).2 with ⟨v,z⟩|z
   ·rw[hn] at z;cases z
   ·exact absurd z (hz L hL)
section
variable{X:Cx}{pins:au}{σ:St}{H:Hp}{s:Shared}{c Pt:Addr}{q:Str}{params:Arguments}{body:Expr}{scope:Scope}{pos dz:Pos}{cl:List (Str×Addr)}
theorem aMW{Q:ar}(I:Inv X pins σ H s)(ui:X.env.code=.ref c)(hC:PySem.W.codeHdIn X.K c Pt=true)(hT:H Pt=some (.jy pos q))(hq:X.env.qual ++ "<lambda>" = q)(AG:defaultsOf params X.env=([],[]))(uz:closureFor scope X.env=pure cl)
  (h:∀(f c':Addr) (pm ct:Value) (o:Obj) (H':Hp) (s':Shared),Inv X pins σ H' s'->aR H H'->s'.heap.get? f=some o->o.data=.func (FO q params body scope cl pm (.ref c') ct)->H' f=none->H' c'=some (.zp q)->s.heap.objs.size<=f->Q (.ref f) s') :
  wpAny (model X.prog X.w) X.A (eval (.Lambda params body scope pos) X.env) Q X.xe s:=by
 obtain⟨ps,eP,ht,hc⟩:=I.bf Pt _ hT;have hg:s.heap.Ns mainGlobals X.mg:=I.mod.glob.keeps I.bk;have hgP:mainGlobals≠Pt:=λz=>by
  obtain⟨o,es,ep,e,hd,_⟩:=hg;rw[z,eP] at e;cases e;cases hd
 have hb:s.heap.BuiltinsAt X.mg Pt:=by
  obtain⟨bm,o,e1,e2,e3,e4,e5,e6⟩:=I.mod.bm;have G8:=I.bk _ _ e3;refine⟨bm,o,e1,e2,λz=>?_,λz=>?_,G8,e4,e5,e6⟩
  ·obtain⟨o',es,ep,e,hd,_⟩:=hg;rw[z,e] at G8;cases G8;rw[hd] at e6;cases e6
  ·rw[z,eP] at G8;cases G8;cases e4
 have WN:PySem.W.CodeHd s.heap c Pt:=PySem.W.codeHd_of_K I.mi hC;refine PySem.W.kla_eval AG ?_;rw[hq];rcases hc with hn|⟨c',hs,qk⟩
 ·refine PySem.W.kla_makeFunction (mg:=X.mg) (P:=Pt) (c:=c) (ps:=ps) uz I.ok.glob hg ui WN eP ht hn hgP hb λc' Lf h' tk hx Kz fh Uw V9=>?_;have DC:H c'=none:=I.bf.fresh Kz;have Bq:∀b o,b≠Pt->s.heap.get? b=some o->(h'.push (PySem.W.kla_obj "<lambda>" q params body scope cl ((X.mg "__name__").getD .none) c' Lf)).get? b=some o:=λb o n e=>fL _ (hx b o n e);have np:∀b,H b=none->b≠Pt:=λb n z=>by rw[z,hT] at n;cases n
  have ncP:c'≠Pt:=np c' DC;refine h h'.objs.size c' _ Lf _ (upd H c' (.zp q)) _ (I.step (h':=h'.push _) (g':=s.gens) (d':=s.drawn) (t':=tk) (ch:=[]) (λ_ z=>nomatch z) (λb o _ _ _ e n=>Bq b o (np b n) e) (λb o _ _ _ e n=>⟨o.slots,Bq b o (np b n) e⟩)
   (λb o _ e n=>by rw[bA (rR (rQ (iM e) Kz))];exact n) (λb o _ e=>?_) (λb xs e=>by rw[bA (bU e DC)];exact e) (λb o u e=>by rw[bA (bU e DC)];exact e)
   (λb ps e=>⟨#[],by rw[bA (bU e DC),e];simp⟩) (λm hm=>hm.extBut (b:=Pt) Bq (np _ I.free)) (λb u e=>?_) I.bare) (aR.new DC) (qP _ rfl) rfl ?_ aP (vm Kz (CT fh))
  ·by_cases GN:b=Pt
   ·subst GN;exact⟨_,fL _ V9⟩
   ·exact⟨o,Bq b o GN e⟩
  ·by_cases WB:b=c'
   ·subst WB;rw[aP] at e;cases e;obtain⟨c2,oc,vs,t,z1,z2,z3,z4⟩:=Uw;cases z1;exact⟨oc,vs,t,fL _ z2,z3,z4⟩
   ·rw[bA WB] at e;by_cases GN:b=Pt
    ·subst GN;rw[hT] at e;cases e;refine⟨_,fL _ V9,?_,.inr ⟨c',?_,aP⟩⟩
     ·rw[Array.toList_append];exact TriplesOk_snoc _ _ _ _ ht
     ·rw[Array.toList_append];exact codeAmong_snoc _ ht hn
    ·refine(I.bf b u e).zt (λd v hd z=>Bq d v ?_ z) (λd z=>by rw[bA (bU z DC)];exact z) λd xs _ z=>by rw[bA (bU z DC)];exact z
     rcases hd with z|z
     ·rw[z];exact GN
     ·intro y;rw[y,hT] at z;cases z
  ·rw[bA (yx fh)];exact I.bf.fresh (vm Kz (CT fh))
 ·refine PySem.W.kla_makeFunctionHit (mg:=X.mg) (P:=Pt) (c:=c) (ps:=ps) uz I.ok.glob hg ui WN eP ht hs hb λLf h' tk hk hsz=>?_;exact h h'.objs.size c' _ Lf _ H _ (I.kept λb u e=>fL _ (hk b u e)) (aR.refl _) (qP _ rfl) rfl (I.bf.fresh hsz) qk hsz
def Ig(X:Cx)(es:List Expr)(params:Arguments)(body:Expr)(scope:Scope)(dz:Pos)(Pt:Addr)(q:Str)(cl:List (Str×Addr))(t:TA):Prop:=
 ∀(pos:Pos) (pins:au) (s:Shared) (σ:St) (H:Hp) (Q:List V->Hp->Prop),Inv X pins σ H s->t σ H (λvs H1=>H1 Pt=some (.jy dz q)/\Q vs H1)->
  wpAny (model X.prog X.w) X.A (spliced (backTo pos (starEach es X.env))) (λus s'=>∃(vs:List V) (AR:aj) (f c':Addr) (pm ct:Value) (o:Obj) (H1 H2:Hp),us=AR ++ [.ref f]/\Vals vs AR/\Inv X pins σ H2 s'/\aR H1 H2/\
   s'.heap.get? f=some o/\o.data=.func (FO q params body scope cl pm (.ref c') ct)/\H2 f=none/\H2 c'=some (.zp q)/\f∉qc X.stack/\Q vs H1) X.xe s
theorem aMX(ui:X.env.code=.ref c)(hC:PySem.W.codeHdIn X.K c Pt=true)(hq:X.env.qual ++ "<lambda>" = q)(AG:defaultsOf params X.env=([],[])){n:Nat}{idx:List Nat}(S:fM X scope N n idx) :
  Ig X [.Lambda params body scope dz] params body scope dz Pt q (lB X.env scope.names []) jX:=by
 intro pos pins s σ H Q I h;obtain⟨hT,hQ⟩:=h;show wpAny _ _ (spliced ((false,eval (.Lambda params body scope dz) X.env)::backTo pos (starEach [] X.env))) _ _ s;refine Calls.spliced_cons (aMW I ui hC hT hq AG (zT (S.cells I)) λf c' pm ct o H' s' I' sm e1 e2 e3 e4 e5=>?_);refine Calls.spliced_nil ⟨[],[],f,c',pm,ct,o,H,H',rfl,.nil,I',sm,e1,e2,e3,e4,λz=>?_,hQ⟩;obtain⟨_,o',e,_⟩:=I.stack.mem z;exact absurd (rQ (iM e) e5) (vn _)
theorem aMY(ha:PE X e te)(hr:Ig X es params body scope dz Pt q cl t)(hs:starEach (e::es) X.env=(false,eval e X.env)::starEach es X.env:=by rfl) :
  Ig X (e::es) params body scope dz Pt q cl (bM te t):=by
 intro pos pins s σ H Q I h;rw[hs];show wpAny _ _ (spliced ((false,eval e X.env)::backTo pos (starEach es X.env))) _ _ s;refine Calls.spliced_cons (eF (ha pins s σ H _ I h) λu s1 zq=>?_);obtain⟨x,H1,I1,r1,q1⟩:=zq;refine eF (hr pos pins s1 σ H1 (λvs H2=>Q (x::vs) H2) I1 q1) λus s2 zq=>?_;obtain⟨vs,AR,f,c',pm,ct,o,H2,H3,e0,r,I3,sm,e1,e2,e3,e4,e5,hQ⟩:=zq;exact⟨x::vs,u::AR,f,c',pm,ct,o,H2,H3,by rw[e0];rfl,.cons r1 r,I3,sm,e1,e2,e3,e4,e5,hQ⟩
def Pz(Pt:Addr)(dz:Pos)(q:Str)(sp:(Addr->Sp->Prop)->Sp)(n:Nat)(tl:TE)(idx:List Nat)(t:TA):TE:=λσ H Q=>t σ H λvs H1=>H1 Pt=some (.jy dz q)/\
 ∀(f c':Addr) (H2:Hp) (C:Addr->Sp->Prop),aR H1 H2->H2 c'=some (.zp q)->C f (Lu c' q n tl (idx.map λj=>(σ[j]?).join))->sp C (vs ++ [.ref f]) H2 Q E0
theorem aMZ{f:Addr}{fd:FuncData}{ps psL N:ah}{idx:List Nat}{sp:(Addr->Sp->Prop)->Sp}{k kc:Nat}{x:Str}{p:Pos}{e:Expr}{es:List Expr}{t:TA}{tl:TE}
  (F:∀ck:Heap,bQ X.prog X.w X.K X.mg ck eR k f fd ps (sp (BR X.prog X.w X.K X.mg ck (kc+1)))) (hr:eX k X.A) (hg:Gl X x) (hm:X.mg x=some (.ref f)) (hk:W.keepIn X.K (.ref f)=true) (hb:Binds X.K fd ps [])
  (Aj:∀y,X.fn y=true) (S:fM X scope N psL.length idx) (vp:N.take psL.length=psL) (En:psL.all (λx=>scope.names.lookup x == some .local)=true) (NU:scope.isCoroutine=false) (Et:scope.isGenerator=false)
  (rk:∀(cl:List (Str×Addr)) (pm cd ct:Value) (us:aj),us.length=psL.length->bindArgs (FO q params body scope cl pm cd ct) ⟨us,[]⟩=pure (psL.zip us))
  (ha:Ig X (e::es) params body scope dz Pt q (lB X.env scope.names []) t)
  (ie:∀(ck:Heap) (f' c':Addr) (cl:List (Str×Addr)) (A:Around) (outer:List Env) (s:Shared) (H:Hp),eX kc (A.deeper (vB q scope s.heap.objs.size f' (.ref c') cl))->PE (Ha X.prog X.w X.K X.mg ck N q scope f' (.ref c') cl A outer s H) body tl)
  (jx:(x == ("__debug__" : Str))=false:=by decide) (he:starEach (e::es) X.env=(false,eval e X.env)::starEach es X.env:=by rfl) (qg:(backTo pos (starEach es X.env)).any (·.1)=false:=by rfl) :
  PE X (.Call (.Name x p) (e::es) [] pos) (Pz Pt dz q sp psL.length tl idx t):=by
 intro pins s σ H Q I h;refine wpAny_Call_Name_kw (LV I hg hm ?_ jx);refine PySem.W.callWith_K (h₀:=X.base) I.ok.mod.Dx hk (eF (ha pos pins s σ H _ I h) λus s1 zq=>?_) he qg;obtain⟨vs,AR,fl,c',pm,ct,o,H1,H2,e0,r,I2,sm,e1,e2,e3,e4,e5,hQ⟩:=zq;refine⟨I2.mi,?_⟩;subst e0;generalize uz:lB X.env scope.names []=cl at *
 have B2:=S.cells I2;have OC:∀{y:Str} {d:Addr},cl.lookup y=some d->X.env.cells.lookup y=some d:=λ{y d} z=>mQ B2 (by rw[uz];exact z)
 have Nc:∀{y:Str} {d:Addr},(y,NameKind.free)∈scope.names->X.env.cells.lookup y=some d->cl.lookup y=some d:=λ{y d} h1 h2=>by rw[<-uz];exact uX B2 h1 h2
 have V4:∀{y:Str} {d:Addr},cl.lookup y=some d->d∈fl::cl.map (·.2):=λ{y d} z=>xS _ (qQ.mpr ⟨(y,d),PySem.mem_of_lookup z,rfl⟩)
 have Iz:∀d,d∈cl.map (·.2)->∃y,X.env.cells.lookup y=some d:=λd z=>by
  obtain⟨⟨y,d'⟩,hm,e⟩:=qQ.mp z;have e':d'=d:=e;subst e';rw[<-uz] at hm;rcases L9 _ _ B2 hm with q|q
  ·cases q
  ·exact⟨y,q⟩
 have JH:∀b u,X.base.get? b=some u->(By X.base s1.heap (fl::cl.map (·.2))).get? b=some u:=λb u z=>vC (I2.bk b u z) (.inl ⟨u,z⟩);have JE:∀b∈qc X.stack,b∉fl::cl.map (·.2):=λb hb z=>by
  rcases lR.mp z with rfl|z
  ·exact e5 hb
  ·obtain⟨y,hy⟩:=Iz b z;rcases lR.mp (I2.HE b hb) with q|q
   ·exact I2.CF y b hy q
   ·obtain⟨_,ob,eo,_⟩:=I2.ok.xU.mem q;exact absurd (rQ (iM eo) (I2.ok.CG y b (Aj y) hy)) (vn _)
 have Hg:Be X.prog X.w X.K X.mg (By X.base s1.heap (fl::cl.map (·.2))) X.A X.stack s1 H2:=by
  refine⟨I2.ok.frames,I2.ok.mod.keeps JH,λb u z=>?_,HR (PySem.W.hideAll_size _ _),aJw I2.stack JE,I2.LX,I2.bf,I2.bare⟩;obtain⟨z1,z2⟩:=Zt z;refine⟨z1,?_⟩;rcases z2 with ⟨u',z2⟩|z2
  ·exact(I2.bs b u' z2).2
  ·rcases lR.mp z2 with rfl|z2
   ·exact e3
   ·obtain⟨y,hy⟩:=Iz b z2;exact I2.fc y b hy
 have Vf:OI (By X.base s1.heap (fl::cl.map (·.2))) scope N psL cl (idx.map λj=>(σ[j]?).join):=by
  refine⟨S.kind,NU,Et,S.gg,vp,S.nd,by rw[bH];exact S.len,λy hy=>?_,λy z d h1 h2=>I2.ok.inj y z d (OC h1) (OC h2),λy hy=>?_,λy d hy=>?_,λi y v h1 h2=>?_⟩
  ·have:=F2.mp En y hy;simpa using this
  ·have qd:=PySem.mem_of_lookup hy;obtain⟨d,hd⟩:=B2 _ qd rfl;exact⟨d,Nc qd hd⟩
  ·obtain⟨v,oc,eo,ed⟩:=I2.cell y d (OC hy);exact⟨oc,v,vC eo (.inr (V4 hy)),ed⟩
  ·obtain⟨j,z1,z2,z3⟩:=S.bz i y h1;refine⟨z3,?_⟩;rw[nE,z1] at h2;have KI:(σ[j]?).join=some v:=Option.some.inj h2;have tw:σ[j]?=some (some v):=by
    cases qj:σ[j]? with
    |none=>rw[qj] at KI;cases KI
    |some w=>rw[qj] at KI;rw[show w=some v from KI]
   have jd:=PySem.mem_of_lookup z3;have yk:=S.free _ jd rfl;obtain⟨m0,hn0,Wo⟩:=I2.loc;obtain⟨u,ru,l⟩:=Wo j y v z2 tw (by rcases yk with z|z;exact .inr (.inl z);exact .inr (.inr z));rcases l with ⟨z,_⟩|⟨_,d,ed,oc,eo,dd⟩
   ·rcases yk with w|w
    ·rw[w] at z;cases z
    ·rw[w] at z;cases z
   ·exact⟨u,d,oc,ru,Nc jd ed,vC eo (.inr (V4 (Nc jd ed))),dd⟩
 have Uj:=aRl (P:=X.prog) (w:=X.w) (K:=X.K) (mg:=X.mg) (N:=N) (ps:=psL) (vC e1 (.inr qz)) e2 Vf (ie _ fl c' cl);have hC:BR X.prog X.w X.K X.mg (By X.base s1.heap (fl::cl.map (·.2))) (kc+1) fl (Lu c' q psL.length tl (idx.map λj=>(σ[j]?).join)):=
  ⟨o,_,psL,vC e1 (.inr qz),e2,Uj,λs us hl=>.of_eq (rk cl pm (.ref c') ct us hl)⟩
 have fb:=hQ fl c' H2 _ sm e4 hC;have r2:Vals (vs ++ [.ref fl]) (AR ++ [.ref fl]):=r.append (.cons rfl .nil);have hl:(AR ++ [Value.ref fl]).length=ps.length:=by rw[<-r2.length];exact(F _).len _ _ _ _ fb
 have Cy:=hb s1 (AR ++ [.ref fl]) I2.mi (by rw[BI];exact hl);rw[BI] at Cy;refine wpAny_call (codeAny_mono ((F _).run X.A X.stack s1 H2 ⟨AR ++ [.ref fl],[]⟩ (AR ++ [.ref fl]) (vs ++ [.ref fl]) Q E0 hr Hg Cy r2 fb) λr s' hq=>?_);cases r with
 |error e=>exact False.elim hq
 |ok fl=>
  cases fl with
  |ret u=>exact I2.after hq
  |next=>exact False.elim hq
  |brk=>exact False.elim hq
  |cont=>exact False.elim hq
def LJ(C:Addr->Sp->Prop)(i:Nat)(t:TA):TE:=λσ H Q=>∃f sp,σ[i]?=some (some (.ref f))/\C f sp/\t σ H λvs H1=>sp vs H1 Q E0
theorem Qq{i k:Nat}(hN:X.N[i]?=some x)(hv:D1 X.env.scope x)(hr:eX k X.A)(ha:PA X (e::es) t)(hd:(x == ("__debug__" : Str))=false:=by decide)(qk:(x == ("__classdict__" : Str))=false:=by decide)(he:starEach (e::es) X.env=(false,eval e X.env)::starEach es X.env:=by rfl)(qg:(backTo pos (starEach es X.env)).any (·.1)=false:=by rfl) :
  PE X (.Call (.Name x p) (e::es) [] pos) (LJ (BR X.prog X.w X.K X.mg X.base k) i t):=by
 intro pins s σ H Q I h;obtain⟨f,sp,ei,hC,ht⟩:=h;obtain⟨o,fd,ps,ef,ed,F,hb⟩:=hC.ex;refine wpAny_Call_Name_kw (eF (Zf hN hv hd qk pins s σ H (λv H'=>v=.ref f/\H'=H) I ⟨_,ei,rfl,rfl⟩) λu s0 ⟨v,H0,I0,rv,hvf,hH0⟩=>?_);subst hvf hH0;obtain rfl:u=Value.ref f:=rv;have DK:∀{ug σ' H' s'},Inv X ug σ' H' s'->W.Frag.In [(f,o)] s'.heap:=λ{ug σ' H' s'} J a u z=>by
  rw[ve] at z;split at z
  ·rename_i hb;cases z;rw[eq_of_beq hb];exact J.bk _ _ ef
  ·cases z
 have hkp:W.keepIn [(f,o)] (.ref f)=true:=by
  obtain⟨oc,od,odt,zj⟩:=o;have:odt=.func fd:=ed;subst this;have z:List.lookup f [(f,({ cls:=oc,dict:=od,data:=.func fd,slots:=zj }:Obj))]=some { cls:=oc,dict:=od,data:=.func fd,slots:=zj }:=by rw[ve,beq_self_eq_true]
  unfold W.keepIn;dsimp only;rw[z]
 refine PySem.W.callWith_K (h₀:=s0.heap) (DK I0) hkp (eF (ha pos pins s0 σ H0 _ I0 ht) λus s1 zq=>?_) he qg;obtain⟨vs,H1,I1,r,q⟩:=zq;refine⟨DK I1,?_⟩;have hl:us.length=ps.length:=by rw[<-r.length];exact F.len _ _ _ _ q
 refine wpAny_call (codeAny_mono (F.run X.A X.stack s1 H1 ⟨us,[]⟩ us vs Q E0 hr I1.Hg (hb s1 us hl) r q) λr s' hq=>?_);cases r with
 |error e=>exact False.elim hq
 |ok fl=>
  cases fl with
  |ret u=>exact I1.after hq
  |next=>exact False.elim hq
  |brk=>exact False.elim hq
  |cont=>exact False.elim hq
end
structure Hf(K:W.Frag)(fd:FuncData)(c Pt:Addr):Prop where
 code:fd.code=.ref c
 hd:PySem.W.codeHdIn K c Pt=true
theorem BP.Ke{P:Program}{w:World}{K:W.Frag}{mg:Str->aw}{base:Heap}{x qual:Str}{st:Stmt}{f c Pt:Addr}{fd:FuncData}{N ps:ah}{k:Nat}{sp:Sp}(F:BP K x qual st f fd)(hc:Hf K fd c Pt)(S:aX N ps (aI st))(len:∀vs H Q E,sp vs H Q E->vs.length=ps.length)
  (ie:∀(A:Around) (outer:List Env) (s:Shared) (H:Hp) (vs:List V) (Q:VK) (E:XK),eX k (A.deeper (envOfC qual (aI st) s.heap.objs.size f (.ref c)))->sp vs H Q E->
   ∃t,wt (DX eR P w K mg base N qual (aI st) f (.ref c) A outer s H E).EM (hZ st) t/\t { nx:=λ_ H'=>Q .bw H',rt:=Q } (start N vs) H):bQ P w K mg base eR (k+1) f fd ps sp:=by
 obtain⟨oc,od,kV,doc,pm,an,bq,ct,zj,rfl,lk,qk⟩:=F.ex;obtain rfl:bq=.ref c:=hc.code;refine YN lk qk S len λA outer s H vs Q E hr fb=>?_;obtain⟨t,h,q⟩:=ie A outer s H vs Q E hr fb;exact⟨t,h.EM,q⟩
theorem aF4{β:Type}{p:β}:∀{l:List (Addr×β)},l.lookup b=some p->(b,p)∈l
 |[],h=>by cases h
 |(d,x)::r,h=>by
  rw[ve] at h;cases hb:b == d with
  |true=>rw[hb] at h;cases h;rw[eq_of_beq hb];exact .head _
  |false=>rw[hb] at h;exact .tail _ (aF4 h)
theorem aLm{K:PySem.W.Frag}{mg mb:Str->aw}{k:Nat}{sp:Sp}{bg:Shared}{vs:aj}{ns:ae}{tabs:List (Addr×Pos×Str)}(KX:K.In bg.heap)(Bs:bg.heap.Ns mainGlobals mg)(hb:bg.heap.Ns builtinsNs mb)(A7:∀x:Str,x≠"__name__"->mb x=bootBuiltins x)(Er:bg.heap.NoLimit)(NV:∃bm o,mg "__builtins__" = some (.ref bm)/\bm≠builtinsNs/\bg.heap.get? bm=some o/\o.cls=.type "module"/\o.dict=some builtinsNs/\o.data=.plain)(hg:bg.gens = #[])(ha:bg.heap.get? a=some { cls:=.type "list",data:=.seq vs.toArray })(hi:IntsAre vs ns)(hl:ns.length<=sizeLine)(hr:eX k callerA)(hT:∀t∈tabs,bg.heap.get? t.1=some { cls:=.none,data:=.fields #[] }/\K.lookup t.1=none/\∃c,PySem.W.codeHdIn K c t.1=true)(zl:(tabs.map (·.1)).Nodup)(F:∀base:Heap,K.In base->base.Ns mainGlobals mg->bQ P w K mg base eR k fa fd [x] sp)(rk:∀(s:Shared) (u:Value),BindsTo s fd ⟨[u],[]⟩ [(x,u)])(fb:∀H:Hp,(∀t∈tabs,H t.1=some (.jy t.2.1 t.2.2))->bP K H a (ns.map V.int)->sp [.ref a] H (λv H'=>v=.bl true/\aR H H') λ_ _ _=>False) :
  codeAny (model P w) callerA (.call (.ref fa) ⟨[.ref a],[]⟩) (λr s'=>r=.ok (.ret (.bool true))/\OldK bg.heap s'.heap/\s'.os=bg.os/\AllBare s'.gens) bg:=by
 have rv:=QF hi;have Ay:=hi.length;have core:∀H:Hp,bP K H a (ns.map V.int)->uK P w H bg.heap->(∀t∈tabs,H t.1=some (.jy t.2.1 t.2.2))->(∀b u,H b=some u->(b=a/\K.lookup a=none/\∃o xs,u=.mj o (.lst xs))\/∃t∈tabs,b=t.1/\u=.jy t.2.1 t.2.2)->
   codeAny (model P w) callerA (.call (.ref fa) ⟨[.ref a],[]⟩) (λr s'=>r=.ok (.ret (.bool true))/\OldK bg.heap s'.heap/\s'.os=bg.os/\AllBare s'.gens) bg:=by
  intro H hS bf hTH hA;have gh:∀{b:Addr} {o:Obj},bg.heap.get? b=some o->H b=none->(xT bg.heap H).get? b=some o:=λe n=>aHF e n;have Ac:∀{b:Addr} {o:Obj} {es:Array DictEntry} {ep:Nat},bg.heap.get? b=some o->o.data=.dict es ep->H b=none:=λ{b o es ep} e d=>by
   cases q:H b with
   |none=>rfl
   |some u=>
    rcases hA b u q with ⟨e',_⟩|⟨t,ht,e',_⟩
    ·subst e';rw[ha] at e;cases e;have d':Data.seq vs.toArray _=Data.dict es ep:=d;cases d'
    ·rw[e',(hT t ht).1] at e;cases e;have d':Data.fields _=Data.dict es ep:=d;cases d'
  have Bp:∀{b:Addr} {m:Str->aw},bg.heap.Ns b m->(xT bg.heap H).Ns b m:=λ{b m} ⟨o,es,ep,e,d,r⟩=>⟨o,es,ep,gh e (Ac e d),d,r⟩
  have GS:K.In (xT bg.heap H):=λb o e=>gh (KX b o e) (by
   cases q:H b with
   |none=>rfl
   |some u=>
    rcases hA b u q with ⟨e',hn,_⟩|⟨t,ht,e',_⟩
    ·rw[e',hn] at e;cases e
    ·rw[e',(hT t ht).2.1] at e;cases e)
  have Eu:∃bm o,mg "__builtins__" = some (.ref bm)/\bm≠builtinsNs/\(xT bg.heap H).get? bm=some o/\o.cls=.type "module"/\o.dict=some builtinsNs/\o.data=.plain:=by
   obtain⟨bm,ob,b1,b2,b3,b4,b5,b6⟩:=NV;refine⟨bm,ob,b1,b2,gh b3 ?_,b4,b5,b6⟩;cases q:H bm with
   |none=>rfl
   |some u=>
    rcases hA bm u q with ⟨e',_⟩|⟨t,ht,e',_⟩
    ·rw[e',ha] at b3;cases b3;exact absurd (show Value.type "list" = Value.type "module" from b4) (by decide)
    ·rw[e',(hT t ht).1] at b3;cases b3;exact absurd (show Value.none=Value.type "module" from b4) (by decide)
  have hM:Mod K mg (xT bg.heap H):=⟨GS,Bp Bs,⟨mb,Bp hb,A7⟩,(let ⟨mc,h1,h2⟩:=Er;⟨mc,Bp h1,h2⟩),Eu⟩
  have e0:Be P w K mg (xT bg.heap H) callerA [] bg H:=⟨rfl,hM,λb o e=>ZO e,HR (aFM _ _),trivial,λb hb=>absurd (show b∈([]:ay) from hb) (by simp),bf,.of_eq hg⟩
  refine codeAny_mono ((F _ GS (Bp Bs)).run callerA [] bg H ⟨[.ref a],[]⟩ [.ref a] [.ref a] _ _ hr e0 (rk bg (.ref a)) (.cons rfl .nil) (fb H hTH hS)) λr s' h=>?_;cases r with
  |error e=>exact False.elim h
  |ok fl=>
   cases fl with
   |next=>exact False.elim h
   |brk=>exact False.elim h
   |cont=>exact False.elim h
   |ret u=>
    obtain⟨v,H',os,bare,un,BZ,r',q,sm⟩:=h;have q':v=.bl true:=q;subst q';obtain rfl:u=Value.bool true:=r';have key:∀b o,bg.heap.get? b=some o->s'.heap.get? b=some o\/∃c ps,PySem.W.codeHdIn K c b=true/\o={ cls:=.none,data:=.fields #[] }/\s'.heap.get? b=some { cls:=.none,data:=.fields ps }:=λb o e=>by
     cases q:H b with
     |none=>exact .inl (un.keep b o e q (by intro z;exact absurd (show b∈([]:ay) from z) (by simp)) (by simp))
     |some u=>
      rcases hA b u q with ⟨_,_,ob,xs,rfl⟩|⟨t,ht,e',rfl⟩
      ·have z2:=un.jc b ob _ q;obtain⟨e1,_⟩:=bf b _ q;obtain⟨e2,_⟩:=BZ b _ z2;rw[e] at e1;cases e1;exact .inl e2
      ·obtain⟨ps,z,_⟩:=BZ b _ (sm b _ q);obtain⟨h1,_,c,hc⟩:=hT t ht;rw[<-e'] at h1 hc;rw[e] at h1;exact .inr ⟨c,ps,hc,Option.some.inj h1,z⟩
    refine⟨rfl,⟨λb o e=>?_,λb o e=>?_⟩,os,bare⟩
    ·rcases key b o e with z|⟨c,ps,hc,rfl,z⟩
     ·exact .inl z
     ·refine .inr (.inl ⟨?_,rfl,#[],ps,rfl,?_⟩)
      ·obtain⟨oc,vs,_,_,_,_,_,_,_,f1,f2,f3,f4,_⟩:=PySem.W.codeHd_of_K KX hc;exact⟨c,oc,vs,f1,f2,f3,f4⟩
      ·rw[z];simp
    ·rcases key b o e with z|⟨c,ps,hc,rfl,z⟩
     ·exact⟨_,z⟩
     ·exact⟨_,z⟩
 have VY:∀t∈tabs,tabs.lookup t.1=some t.2:=by
  clear hT fb core;induction tabs with
  |nil=>intro t h;cases h
  |cons q r ih=>
   intro t ht;rw[ve];rcases lR.mp ht with rfl|ht
   ·rw[beq_self_eq_true]
   ·have ne:t.1≠q.1:=λz=>(ya.mp zl).1 (qQ.mpr ⟨t,ht,z⟩);rw[beq_eq_false_iff_ne.mpr ne];exact ih (ya.mp zl).2 t ht
 have BU:∀{b:Addr} {p:Pos×Str},tabs.lookup b=some p->(b,p)∈tabs:=λ{b p} h=>aF4 h
 have naT:∀t∈tabs,t.1≠a:=λt ht z=>by
  have:=(hT t ht).1;rw[z,ha] at this;cases this
 have VL:∀(H:Hp) (t:Addr×Pos×Str),t∈tabs->cR P w H bg.heap t.1 (.jy t.2.1 t.2.2):=λH t ht=>⟨#[],(hT t ht).1,trivial,.inl rfl⟩
 cases hk:K.lookup a with
 |some o=>
  have e:=KX a o hk;rw[ha] at e;cases e;refine core (λb=>(tabs.lookup b).map λp=>.jy p.1 p.2) (.inr ⟨_,vs.toArray,_,hk,rfl,rfl,rfl,by rw[jT,Ay];exact hl,by simpa using rv⟩) (λb u z=>?_) (λt ht=>?_) λb u z=>?_
  ·obtain⟨p,hp,rfl⟩:=oi.mp z;exact VL _ _ (BU hp)
  ·show(tabs.lookup t.1).map _=_;rw[VY t ht];rfl
  ·obtain⟨p,hp,rfl⟩:=oi.mp z;exact .inr ⟨_,BU hp,rfl,rfl⟩
 |none=>
  refine core (λb=>if b=a then some (.mj { cls:=.type "list",data:=.seq vs.toArray } (.lst (ns.map V.int))) else (tabs.lookup b).map λp=>.jy p.1 p.2) (.inl (.inr ⟨{ cls:=.type "list",data:=.seq vs.toArray },cT rfl⟩)) (λb u z=>?_) (λt ht=>?_) λb u z=>?_
  ·by_cases hb:b=a
   ·have z':=(cT hb).symm.trans z;cases z';subst hb;exact⟨ha,by rw[bH];exact hl,vs,_,rv,ha⟩
   ·have z':=(cD hb).symm.trans z;obtain⟨p,hp,rfl⟩:=oi.mp z';exact VL _ _ (BU hp)
  ·show(if t.1=a then _ else (tabs.lookup t.1).map _)=_;rw[cD (naT t ht),VY t ht];rfl
  ·by_cases hb:b=a
   ·have z':=(cT hb).symm.trans z;cases z';exact .inl ⟨hb,hk,_,_,rfl⟩
   ·have z':=(cD hb).symm.trans z;obtain⟨p,hp,rfl⟩:=oi.mp z';exact .inr ⟨_,BU hp,rfl,rfl⟩
theorem aM1{l:PySem.W.OpenLaw}{n k:Nat}{XP:(Str->aw)->Heap->Prop}{YP:World->Heap->Prop}{d:DefRec}{K:Params->W.Frag}{sp:World->Sp}{tabs:List (Addr×Pos×Str)}(hn:l.most=some n)(tj:n<=sizeLine)(GK:d.params.defaults=[])(hr:eX k callerA)(zl:(tabs.map (·.1)).Nodup)(hY:∀(w:World) (h:Heap),YP w h->(K w.params).In h/\∀t∈tabs,h.get? t.1=some { cls:=.none,data:=.fields #[] })(hK:∀(w:World),∀t∈tabs,(K w.params).lookup t.1=none)(F:∀(w:World) (mg:Str->aw) (fa:Addr) (h:Heap),(K w.params).In h->h.Ns mainGlobals mg->mg d.name=some (.ref fa)->(∀t∈tabs,∃c,PySem.W.codeHdIn (K w.params) c t.1=true)/\
   ∃fd:FuncData,(∀(s:Shared) (u:Value),BindsTo s fd ⟨[u],[]⟩ [(x,u)])/\
    ∀base:Heap,(K w.params).In base->base.Ns mainGlobals mg->bQ l.prog w (K w.params) mg base eR k fa fd [x] (sp w)) (fb:∀(w:World) (H:Hp) (a:Addr) (ns:ae),ns.length<=n->(∀t∈tabs,H t.1=some (.jy t.2.1 t.2.2))->bP (K w.params) H a (ns.map V.int)->sp w [.ref a] H (λv H'=>v=.bl true/\aR H H') λ_ _ _=>False) :
  PySem.W.WalkO q loose XP YP l.row.toRowW d [] (λf vs=>PySem.call f vs):=by
 refine Att.aHS hn GK λw dg bg mg mb fa o pm cd doc a vs ns G Y ho hd qk GD Eo hints hlen hg=>?_;obtain⟨KX,hT⟩:=hY w _ Y;obtain⟨UQ,fd,hb,hF⟩:=F w mg fa _ KX G.T.g GD;exact aLm KX G.T.g G.T.b G.T.builtins G.T.nolimit G.T.bmain hg Eo hints (vm hlen tj) hr (λt ht=>⟨hT t ht,hK w t ht,UQ t ht⟩) zl hF hb (λH hO hS=>fb w H a ns hlen hO hS)
section
variable{X:Cx}{σ:St}{H:Hp}{Q:VK}
theorem aM2{sp:(Addr->Sp->Prop)->Sp}{n:Nat}{idx:List Nat}(h:t σ H λvs H1=>H1 Pt=some (.jy dz q)/\
  ∀(f c':Addr) (H2:Hp) (C:Addr->Sp->Prop),aR H1 H2->H2 c'=some (.zp q)->C f (Lu c' q n tl (idx.map λj=>(σ[j]?).join))->sp C (vs ++ [.ref f]) H2 Q E0):Pz Pt dz q sp n tl idx t σ H Q:=h
theorem ZZ{C:Addr->Sp->Prop}{i:Nat}(e:σ[i]?=some (some (.ref f)))(hC:C f sp)(h:t σ H λvs H1=>sp vs H1 Q E0):LJ C i t σ H Q:=⟨f,sp,e,hC,h⟩
end
end L2
namespace L2.Z
open PySem PySem.Spec PyProof.Rows L2
section
variable{X:Cx}{c Pt:Addr}{q:Str}{params:Arguments}{body:Expr}{scope:Scope}{pos dz:Pos}{cl:List (Str×Addr)}
structure Mv(X:Cx)(es:List Expr)(params:Arguments)(body:Expr)(scope:Scope)(dz:Pos)(Pt:Addr)(q:Str)(cl:List (Str×Addr))(t:TA):Prop where
 h:Ig X es params body scope dz Pt q cl t
theorem sF(ui:X.env.code=.ref c)(hC:PySem.W.codeHdIn X.K c Pt=true)(hq:X.env.qual ++ "<lambda>" = q)(AG:defaultsOf params X.env=([],[])){n:Nat}{idx:List Nat}(S:fM X scope N n idx) :
  Mv X [.Lambda params body scope dz] params body scope dz Pt q (lB X.env scope.names []) jX:=⟨aMX ui hC hq AG S⟩
theorem kC(ha:QE X e te)(hr:Mv X es params body scope dz Pt q cl t)(hn:noStar e=true:=by rfl):Mv X (e::es) params body scope dz Pt q cl (bM te t):=
 ⟨aMY ha.h hr.h (bW hn)⟩
theorem o6{psL N:ah}{idx:List Nat}{sp:(Addr->Sp->Prop)->Sp}{k kc:Nat}(F:∀ck:Heap,bQ X.prog X.w X.K X.mg ck eR k f fd ps (sp (BR X.prog X.w X.K X.mg ck (kc+1))))(hr:eX k X.A)(hg:Gl X x)(hm:X.mg x=some (.ref f))(hk:PySem.W.keepIn X.K (.ref f)=true)(hb:Binds X.K fd ps [])(Aj:∀y,X.fn y=true)(S:fM X scope N psL.length idx)(vp:N.take psL.length=psL)(En:psL.all (λx=>scope.names.lookup x == some .local)=true)(NU:scope.isCoroutine=false)(Et:scope.isGenerator=false)(rk:∀(cl:List (Str×Addr)) (pm cd ct:Value) (us:aj),us.length=psL.length->bindArgs (FO q params body scope cl pm cd ct) ⟨us,[]⟩=pure (psL.zip us))(ha:Mv X (e::es) params body scope dz Pt q (lB X.env scope.names []) t)(ie:∀(ck:Heap) (f' c':Addr) (cl:List (Str×Addr)) (A:Around) (outer:List Env) (s:Shared) (H:Hp),eX kc (A.deeper (vB q scope s.heap.objs.size f' (.ref c') cl))->(A.deeper (vB q scope s.heap.objs.size f' (.ref c') cl)).units+9 < cLine->QE (Ha X.prog X.w X.K X.mg ck N q scope f' (.ref c') cl A outer s H) body tl)(hn:(e::es).all noStar=true:=by rfl)(jx:(x == ("__debug__" : Str))=false:=by decide) :
  QE X (.Call (.Name x p) (e::es) [] pos) (Pz Pt dz q sp psL.length tl idx t):=
 ⟨L2.aMZ F hr hg hm hk hb Aj S vp En NU Et rk ha.h (λck f' c' cl A outer s H E4=>(ie ck f' c' cl A outer s H E4 (fV E4)).h) jx (bW (iK hn).1) (jE (iK hn).2)⟩
theorem Qq{i k:Nat}(hr:eX k X.A)(ha:QA X (e::es) t)(hN:X.N[i]?=some x:=by rfl)(hv:D1 X.env.scope x:=by first|exact Or.inl rfl|exact Or.inr (Or.inl rfl)|exact Or.inr (Or.inr rfl))(hn:(e::es).all noStar=true:=by rfl)(hd:(x == ("__debug__" : Str))=false:=by decide)(qk:(x == ("__classdict__" : Str))=false:=by decide) :
  QE X (.Call (.Name x p) (e::es) [] pos) (LJ (BR X.prog X.w X.K X.mg X.base k) i t):=⟨L2.Qq hN hv hr ha.h hd qk (bW (iK hn).1) (jE (iK hn).2)⟩
end
end L2.Z
namespace PySem
set_option maxRecDepth 100000
namespace F
theorem aJy:typeLookup (.type "list_reverseiterator") "__len__" = pure none:=by rw[typeLookup_type,builtinLookup_eq_fast];kernel_rfl
theorem aM3:typeLookup (.type "list_reverseiterator") "__length_hint__" = pure (some (.builtin "list_reverseiterator.__length_hint__")):=by rw[typeLookup_type,builtinLookup_eq_fast];kernel_rfl
end F
section
variable{prog:Program}{w:World}{A:Around}{E:ar}{s:Shared}
theorem aD0{i:Int}{Q:Bool->Shared->Prop}(hit:s.heap.IsRevIter it l i)(h:Q false s):wpAny (model prog w) A (Builtin.List.listLengthHint (.ref it)) Q E s:=by
 unfold Builtin.List.listLengthHint;refine bN (wpAny_specialOf hit.typeIs F.aJy ?_);show wpAny _ A (specialOf (Value.ref it) (Str.ofString "__length_hint__") >>= _) _ _ _;refine bN (wpAny_specialOf hit.typeIs F.aM3 ?_);generalize Wt:("list_reverseiterator.__length_hint__" : String)=id0
 wp_delta
 rw[show splitId id0=some ("list_reverseiterator","__length_hint__") from by subst Wt;decide +kernel];subst Wt;refine bN (wpAny_isInstance (T:="list_reverseiterator") (b:=true) hit.typeIs (by rw[isSubtype_type];kernel_rfl) ?_);exact wpAny_ite_split (λz=>absurd z (by decide)) λ_=>wpAny_ite_split (λ_=>wpAny_ite_split (λz=>absurd z (by decide +kernel)) λ_=>dY h) λz=>absurd (by decide +kernel) z
theorem aB3{R:Result->Shared->Prop}{items:Array Value}(hh:A.handled=none)(hit:s.heap.IsRevIter it l ((items.size:Int) - 1))(hl:s.heap.IsList l items)(cq:l≠it)(hlen:items.size<=sizeLine)(S:Addr)(res:Value)(c₀:Nat)(hS:s.heap.get? S=some { cls:=.type "list",data:=.seq #[] c₀ })(hSl:S≠l)(WJ:S≠it)(hR:∀h' tk gf c',(∀b o,b≠S->b≠it->s.heap.get? b=some o->h'.get? b=some o)->h'.get? S=some { cls:=.type "list",dict:=none,data:=.seq gf c',slots:=#[] }->
   ItemsOf (λi v=>items[items.size - 1 - i]?=some v) gf items.size->R (.ok (.ret res)) { s with heap:=h',toks:=tk }) :
  wpAny (model prog w) A.in1 (Builtin.List.listExtendWith (.ref S) (.ref it) res) (λfin s'=>match fin with|.done f=>R (.ok f) s'|.again k=>k.quiet=true/\codeAny (model prog w) A k R s') (λe s'=>R (.error e) s') s:=by
 have hSf:S∉[it,l]:=by simp[WJ,hSl]
 have W:=(Walks.listRev (prog:=prog) (w:=w) (A:=A.in1) hh it l cq items).toS;unfold Builtin.List.listExtendWith;refine bN (wpAny_typeOf (T:="list_reverseiterator") hit.typeIs ?_);have h1:Builtin.List.listSameRef (.ref S) (.ref it)=false:=by simp[Builtin.List.listSameRef,WJ]
 have h2:(Value.type "list_reverseiterator" == Value.type "list")=false:=by decide
 have h3:(Value.type "list_reverseiterator" == Value.type "tuple")=false:=by decide
 simp only[h1,h2,h3,D8,Bool.or_false,if_false];refine bN (wpAny_pyIter_revIter hit (bN (BH (aD0 hit ?_))));refine wpAny_ite_split (λz=>by cases z) (λ_=>dY ⟨plainId_quiet F.plain_extend_loop _,?_⟩);refine codeAny_extend_loopS W hlen S hSf res items.size 0 _ #[] c₀ rfl (qw _) ⟨qw _,?_,hl⟩ hS (ItemsOf.nil _) λs' gf c' hm N8 ux=>?_
 ·rw[show(items.size:Int) - 1 - ((0:Nat):Int)=(items.size:Int) - 1 by lia];exact hit
 ·rw[Moved.eq_with hm];exact hR s'.heap s'.toks gf c' (λb o hb hi e=>hm.heap b o (by simp[hb,hi]) e) N8 ux
theorem aFa{Q:ar}{items:Array Value}(hh:A.handled=none)(hit:s.heap.IsRevIter it l ((items.size:Int) - 1))(hl:s.heap.IsList l items)(cq:l≠it)(hlen:items.size<=sizeLine)(hQ:∀h' tk gf c',(∀b o,b≠it->s.heap.get? b=some o->h'.get? b=some o)->
   h'.get? s.heap.objs.size=some { cls:=.type "list",dict:=none,data:=.seq gf c',slots:=#[] }->ItemsOf (λi v=>items[items.size - 1 - i]?=some v) gf items.size->Q (.ref s.heap.objs.size) { s with heap:=h',toks:=tk }) :
  wpAny (model prog w) A (call (.type "list") [.ref it]) Q E s:=by
 have lit:it < s.heap.objs.size:=let ⟨_,e,_⟩:=hit;iM e
 have ll:l < s.heap.objs.size:=let ⟨_,e,_⟩:=hl;iM e
 have hS:(s.heap.push { cls:=.type "list",data:=.seq #[] }).get? s.heap.objs.size=some { cls:=.type "list",data:=.seq #[] }:=by exact qP _ rfl
 have JO:=Ib (Obj.mapSeq λ_=>(#[]:Array Value)) hS rfl;have old:∀b o,s.heap.get? b=some o->((s.heap.push { cls:=.type "list",data:=.seq #[] }).update s.heap.objs.size (Obj.mapSeq λ_=>(#[]:Array Value))).get? b=some o:=
  λb o e=>(Rg _ _ (yx (iM e))).trans (fL _ e)
 refine callType_codes (Q₁:=λx t=>x=.ref s.heap.objs.size/\t={ s with heap:=s.heap.push { cls:=.type "list",data:=.seq #[] } }) F.called_list (F.typeCall_list_1 _) F.entry_list_init (code_list_new _ ⟨rfl,rfl⟩) ?_;rintro x t ⟨rfl,rfl⟩;refine⟨⟨_,hS,rfl⟩,F.args_list_init_2 _ _,?_⟩;show wpAny _ _ (Builtin.List.listItems (.ref s.heap.objs.size) >>= λold=>Builtin.List.listUpdate (.ref s.heap.objs.size) (λ_=>#[]) >>= λ_=>letGo old.toList.reverse >>= λ_=>Builtin.List.listExtendWith (.ref s.heap.objs.size) (.ref it) .none) _ _ _;refine bN (wpAny_listItems hS rfl ?_);show wpAny _ _ (updateSeq s.heap.objs.size (λ_=>#[]) >>= λ_=>letGo (#[]:Array Value).toList.reverse >>= λ_=>Builtin.List.listExtendWith (.ref s.heap.objs.size) (.ref it) .none) _ _ _;refine bN (wpAny_updateSeq hS rfl (bN (wpAny_letGo (aB3 (A:=A.in1) hh (hit.at λo e=>old _ _ e) (hl.at λo e=>old _ _ e) cq hlen s.heap.objs.size .none _ JO (yx ll) (yx lit) λh' tk gf c' hk N8 ux=>?_))))
 exact⟨rfl,hQ h' tk gf c' (λb o hb e=>hk b o (rR (iM e)) hb (old b o e)) N8 ux⟩
end
end PySem
namespace L2
open PySem PySem.Spec PyProof.Rows
section
variable{X:Cx}
def Qy(t:TA):TE:=λσ H Q=>t σ H λvs H1=>∃l xs,vs=[.ref l]/\H1 l=some (.lst xs)/\∀q,H1 q=none->Q (.ref q) (upd H1 q (.lst xs.reverse))
theorem aM4{xs:List V}{us:aj}(r:Vals xs us):Vals xs.reverse us.reverse:=by
 induction r with
 |nil=>exact .nil
 |cons h t ih=>
  simp only[List.reverse_cons];exact ih.append (.cons h .nil)
theorem aJz(hc:X.calm=true)(NO:Gl X "list")(DE:X.mg "list" = none)(NN:Gl X "reversed")(Bt:X.mg "reversed" = none)(he:PA X [e] t)(hn:noStar e=true:=by rfl) :
  PE X (.Call (.Name "list" p1) [.Call (.Name "reversed" p2) [e] [] Iq] [] TF) (Qy t):=by
 intro pins s σ H Q I h;refine Call_ (lS I NO DE oW (PyProof.Rows.callWith_type1 (Calls.spliced_cons ?_) rfl rfl));refine Call_ (lS I NN Bt boot_reversed (PyProof.Rows.callWith_type1 (eF (he Iq pins s σ H _ I h) λus s1 zq=>?_) (bW hn) rfl));obtain⟨vs,H1,I1,r1,l,xs,ex,hl,q⟩:=zq;subst ex;obtain⟨u,rfl,ru⟩:=vals1 r1;obtain rfl:u=Value.ref l:=ru;obtain⟨hz,az,n,rv,eo⟩:=I1.bf l _ hl;have JL:s1.heap.IsList l az.toArray:=⟨_,eo,rfl,n,rfl⟩
 refine call_reversed_list JL (Calls.spliced_nil ?_);have NH:l < s1.heap.objs.size:=iM eo;refine aFa (it:=s1.heap.objs.size) (l:=l) (items:=az.toArray) (I.ok.hd hc) ⟨_,qP _ rfl,rfl,rfl⟩ ⟨_,fL _ eo,rfl,n,rfl⟩ (rR NH) (by rw[jT,<-rv.length];exact hz) λh' tk gf c' hk hS ha=>?_;have U3:gf.toList=az.reverse:=by
  obtain⟨h1,h2⟩:=ha;refine List.ext_getElem? λi=>?_;by_cases hi:i < gf.size
  ·have e1:gf[i]?=some gf[i]:=Rj hi;have e2:=h2 i _ e1;rw[Ra,e1,List.getElem?_reverse (by rw[h1,jT] at hi;exact hi)];rw[<-e2,jT,List.getElem?_toArray]
  ·rw[F8 (by rw[wq];lia),F8 (by rw[Mj];rw[h1,jT] at hi;lia)]
 have hv:Vals xs.reverse gf.toList:=by rw[U3];exact aM4 rv
 have sz:s1.heap.objs.size<=(s1.heap.push (revObj l ((az.toArray.size:Int) - 1))).objs.size:=by rw[vb];lia
 exact⟨.ref _,_,I1.laid (t':=tk) (o:=.lst xs.reverse) (λb u e=>hk b u (rR (iM e)) (fL _ e)) sz ⟨by rw[Mj];exact hz,gf.toList,c',hv,hS⟩,rfl,q _ (I1.bf.fresh sz)⟩
def Lr(K:W.Frag):List V->Hp->VK->Prop:=λvs H Q=>∃(p:Addr) (ns:ae),vs=[.ref p]/\bP K H p (ns.map V.int)/\ns≠[]/\∀m,m∈ns->(∀x∈ns,m<=x)->Q (.int m) H
theorem aF5(hc:X.calm=true):eS X (.builtin "min") (Lr X.K):=by
 intro pins s σ H vs us Q I r h;obtain⟨p,ns,rfl,hq,cq,q⟩:=h;obtain⟨u,rfl,rx⟩:=vals1 r;cases rx;obtain⟨az,r',pl,hz⟩:=I.list hq;have hi:=intsAre_of r';obtain⟨xs,hx⟩:=hi.allInts.items;have e1:ns=xs.toList.map (·.1):=by rw[<-nums_intItems,<-hx];exact(show numsOf az.toArray.toList=ns from hi.numsOf).symm
 have hsz:0 < xs.size:=by
  have z:=F6.mpr cq;rw[e1,bH,wq] at z;exact z
 refine min_intList (I.ok.hd hc) (hx▸pl.isList:s.heap.IsList p (intItems xs)) hsz λv h' tk hv hk=>?_;obtain⟨t,rfl⟩:=intItems_at hv;obtain⟨h1,h2⟩:=argBest_lt (numAt xs) (xs.size - 1);refine⟨.int _,H,I.kept (t':=tk) hk,⟨t,rfl⟩,q _ ?_ λx tf=>?_⟩
 ·rw[e1,numAt_eq];exact getD_mem (by rw[bH,wq];lia)
 ·rw[e1] at tf;obtain⟨j,hj,rfl⟩:=mem_getD tf;rw[bH,wq] at hj;rw[<-numAt_eq];exact h2 j (by lia)
theorem Zs{K:W.Frag}{H:Hp}{Q:VK}{p:Addr}{ns:ae}(h1:bP K H p (ns.map V.int))(cq:ns≠[])(h:∀m,m∈ns->(∀x∈ns,m<=x)->Q (.int m) H):Lr K [.ref p] H Q:=⟨p,ns,rfl,h1,cq,h⟩
def HF:TE:=λ_ H Q=>(∀p,H p=none->Q (.ref p) (upd H p (.dK [])))\/∀p,H p=none->Q (.ref p) (upd H p (.dT []))
theorem aM5:PE X (.Dict [] [] pos) HF:=by
 intro pins s σ H Q I h;rcases h with h|h
 ·exact aMb pins s σ H Q I h
 ·exact aMc pins s σ H Q I h
theorem aLn{H:Hp}{Q:VK}(h:∀p,H p=none->Q (.ref p) (upd H p (.dK []))):HF σ H Q:=.inl h
theorem aF6{H:Hp}{Q:VK}(h:∀p,H p=none->Q (.ref p) (upd H p (.dT []))):HF σ H Q:=.inr h
def Gf(hi:Int)(n:Nat):It:=⟨λi _=>i < n,λi H x H'=>H'=H/\x=.int (hi - i),λi _=>n<=i⟩
theorem aLo{P:Program}{w:World}{K:W.Frag}{tg:Expr}(it:Addr)(hi:Int)(n:Nat):Turn P w K tg (Gf hi n) [it] it (λi h=>IsRangeIter h it (hi+(i:Nat) * -1) ((n:Int) - (i:Nat)) (-1)) where
 mem:=by simp
 obj:=λi h st b hb=>by
  have e:b=it:=by simpa using hb
  rw[e];exact⟨_,st,λv z=>by
   have z':Data.fields _=Data.cell v:=z;cases z'⟩
 keep:=λi h h' st k=>k it (by simp) _ st
 item:=by
  intro X hP hw hK hc i pins s σ H E I hf st hg;subst hP hw hK;obtain⟨f0,f1,f2,f3,f4,f5⟩:=hf it (by simp);refine(Walks.range (prog:=X.prog) (w:=X.w) (I.ok.hd hc) it hi (-1) n).item i s _ _ hg st λv h' tk hv sy kk=>?_;obtain⟨t,rfl⟩:=hv;refine⟨_,rfl,LB (s:={ s with heap:=h',toks:=tk }) (n:="range_iterator") sy rfl rfl (by decide) ⟨.int (hi - i),H,I.turned (λb o hb e=>kk b o (by simpa using hb) e) f0 f1 f3 f4 f5,⟨t,?_⟩,⟨rfl,rfl⟩,sy,λb hb=>(hf b hb).1⟩⟩;congr 1;lia
 done:=by
  intro X hP hw hK hc i pins s σ H E I hf st hg;subst hP hw hK;obtain⟨f0,f1,f2,f3,f4,f5⟩:=hf it (by simp);exact wpAny_pyNext_range_end (I.ok.hd hc) st (by have:n<=i:=hg;lia) λh' eb=>⟨rfl,I.turned (t':=s.toks) (λb o hb e=>eb b o hb e) f0 f1 f3 f4 f5⟩
 self:=λ_ _ _ _ _ st h=>wpAny_pyIter_rangeiter st h
theorem aF7(a b:Int):Builtin.Range.rangeSize a b (-1)=(((a - b).toNat:Nat):Int):=by
 unfold Builtin.Range.rangeSize;rw[cD (by decide)];split
 ·rw[show -(-1:Int)=1 from rfl,Int.ediv_one];lia
 ·lia
theorem small_down{a b:Int}(h1:-(2 ^ 62)<=a)(h2:a < 2 ^ 62)(h3:-(2 ^ 62)<=b)(h4:b < 2 ^ 62):Builtin.Range.small a b (-1)=true:=by
 unfold Builtin.Range.small;simp only[aF7,Builtin.Range.rangeFitsLong,yc,Bool.or_eq_true,decide_eq_true_eq,beq_iff_eq];rw[cD (by decide)];simp only[yc,decide_eq_true_eq];lia
def Pk(ta:TA):TI:=λσ H R=>ta σ H λvs H1=>∃i j:Int,vs=[.int i,.int j,.int (-1)]/\(-(2 ^ 62)<=i/\i < 2 ^ 62/\-(2 ^ 62)<=j/\j < 2 ^ 62)/\R (Gf i (i - j).toNat) H1
theorem aLp(hg:Gl X "range")(hm:X.mg "range" = none)(ha:PA X [a,b,c] ta)(hn:[a,b,c].all noStar=true:=by rfl):PI X tg (.Call (.Name "range" p) [a,b,c] [] pos) (Pk ta):=by
 intro pins s σ H R I h;refine Call_ (lS I hg hm boot_range (PyProof.Rows.callWith_type1 (eF (ha pos pins s σ H _ I h) λus s1 zq=>?_) (bW (iK hn).1) (jE (iK hn).2)));obtain⟨vs,H1,I1,r1,i,j,e,⟨q1,q2,q3,q4⟩,q⟩:=zq;subst e;obtain⟨u1,us1,rfl,⟨t1,rfl⟩,r2⟩ : ∃u EI,us=u::EI/\RelV (.int i) u/\Vals [.int j,.int (-1)] EI:=by cases r1 with|cons h t=>exact⟨_,_,rfl,h,t⟩
 obtain⟨u2,u3,rfl,⟨t2,rfl⟩,⟨t3,rfl⟩⟩:=vals2 r2;refine call_range_3 (by decide) ?_ (.inl (PyProof.noPylong_small (by decide)));refine wpAny_pyIter_range (IsRange.new ..) (small_down q1 q2 q3 q4) ?_;have I2:Inv X pins σ H1 { s1 with heap:=s1.heap.push { cls:=.type "range",data:=.fields #[.int i t1,.int j t2,.int (-1) t3] } }:=I1.kept (t':=s1.toks) λb o e=>fL _ e;refine⟨_,[_],_,_,H1,rfl,I2.kept (t':=s1.toks) λb o e=>fL _ e,aLo _ i (i - j).toNat,?_,λb hb=>?_,q⟩
 ·show IsRangeIter _ _ (i+((0:Nat):Int) * -1) ((((i - j).toNat:Nat):Int) - ((0:Nat):Int)) (-1);rw[show i+((0:Nat):Int) * -1=i by lia,show(((i - j).toNat:Nat):Int) - ((0:Nat):Int)=Builtin.Range.rangeSize i j (-1) by rw[aF7];lia];exact qP _ rfl
 ·have e:b=(s1.heap.push { cls:=.type "range",data:=.fields #[.int i t1,.int j t2,.int (-1) t3] }).objs.size:=by simpa using hb
  subst e;exact I2.Bg (eO _) (I2.bf.fresh (eO _))
theorem aM7{R:It->Hp->Prop}(h:ta σ H λvs H1=>∃i j:Int,vs=[.int i,.int j,.int (-1)]/\(-(2 ^ 62)<=i/\i < 2 ^ 62/\-(2 ^ 62)<=j/\j < 2 ^ 62)/\R (Gf i (i - j).toNat) H1):Pk ta σ H R:=h
theorem aOY{hi:Int}{n:Nat}{σ:St}{H:Hp}{nx:St->Hp->Prop}{rt:VK}{g:TG}{tb:TS}(Pv:Nat->St->Hp->Prop)(h0:Pv 0 σ H)
  (hs:∀i σ H,i < n->Pv i σ H->g (.int (hi - i)) σ H λσ2 H2=>tb ⟨Pv (i+1),rt,nx,Pv (i+1)⟩ σ2 H2) (hd:∀σ H,Pv n σ H->nx σ H) :
  ∃W:Nat->Nat->St->Hp->Prop,(∃m,W 0 m σ H)/\∀i m σ H,W i m σ H->
   ((Gf hi n).stop i H/\nx σ H)\/((Gf hi n).go i H/\∃N:St->Hp->Prop,(∀σ' H',N σ' H'->∃m',m' < m/\W (i+1) m' σ' H')/\∀x H',(Gf hi n).uy i H x H'->g x σ H' λσ2 H2=>tb ⟨N,rt,nx,N⟩ σ2 H2):=by
 refine⟨λi m σ H=>m=n - i/\i<=n/\Pv i σ H,⟨n,by lia,qw _,h0⟩,?_⟩;rintro i m σ H ⟨rfl,zm,p⟩;by_cases h:i < n
 ·refine .inr ⟨h,Pv (i+1),λσ' H' p'=>⟨n - (i+1),by lia,rfl,h,p'⟩,?_⟩;rintro x H' ⟨rfl,rfl⟩;exact hs i σ H' h p
 ·have e:i=n:=by lia
  subst e;exact .inl ⟨eO _,hd σ H p⟩
end
end L2
namespace L2.Z
open PySem PySem.Spec PyProof.Rows L2
section
variable{X:Cx}{tg:Expr}
theorem aFb(hc:X.calm=true)(NO:Gl X "list")(DE:X.mg "list" = none)(NN:Gl X "reversed")(Bt:X.mg "reversed" = none)(he:QA X [e] t)(hn:noStar e=true:=by rfl) :
  QE X (.Call (.Name "list" p1) [.Call (.Name "reversed" p2) [e] [] Iq] [] TF) (Qy t):=⟨L2.aJz hc NO DE NN Bt he.h hn⟩
theorem vD:QE X (.Dict [] [] pos) HF:=⟨L2.aM5⟩
theorem aGS(hg:Gl X "range")(hm:X.mg "range" = none)(ha:QA X [a,b,c] ta)(hn:[a,b,c].all noStar=true:=by rfl):QI X tg (.Call (.Name "range" p) [a,b,c] [] pos) (Pk ta):=⟨L2.aLp hg hm ha.h hn⟩
theorem aCo{P:Program}{w:World}{K:W.Frag}{mg:Str->aw}{base:Heap}{i k:Nat}{x:Str}{p pos:Pos}{e:Expr}{es:List Expr}{t:TA}(hr:eX k X.A)(ha:QA X (e::es) t)(hP:X.prog=P:=by rfl)(hw:X.w=w:=by rfl)(hK:X.K=K:=by rfl)(hg:X.mg=mg:=by rfl)(hB:X.base=base:=by rfl)
  (hN:X.N[i]?=some x:=by rfl) (hv:D1 X.env.scope x:=by first|exact Or.inl rfl|exact Or.inr (Or.inl rfl)|exact Or.inr (Or.inr rfl))
  (hn:(e::es).all noStar=true:=by rfl) (hd:(x == ("__debug__" : Str))=false:=by decide) (qk:(x == ("__classdict__" : Str))=false:=by decide) :
  QE X (.Call (.Name x p) (e::es) [] pos) (LJ (BR P w K mg base k) i t):=by
 subst hP hw hK hg hB;exact Qq hr ha hN hv hn hd qk
end
end L2.Z
namespace L2
open PySem
section
variable{σ:St}{H:Hp}{Q:VK}
theorem aJA(h:t σ H λvs H1=>∃l xs,vs=[.ref l]/\H1 l=some (.lst xs)/\∀q,H1 q=none->Q (.ref q) (upd H1 q (.lst xs.reverse))):Qy t σ H Q:=h
end
end L2
namespace L2
open PySem PySem.Spec PySem.W PyProof.Rows
theorem aLq{A:Around}(hh:A.handled=none)(I d:Addr)(cq:d≠I)(es:Array DictEntry)(ep:Nat) :
  Walks prog w A I [I,d] [I] es.size (λi v=>∃e,es[i]?=some e/\v=e.key) (λi h=>zx "dict_keyiterator" h I d i es.size ep/\Raw h d es ep) where
 sub:=λb hb=>lR.mpr (.inl (by simpa using hb))
 frame:=λ_ _ _ st hk=>⟨st.1.keep λo e=>hk I (by simp) o e,st.2.keep λo e=>hk d (by simp) o e⟩
 item:=λi s Q E hi st hQ=>by
  have hx:es[i]?=some es[i]:=Rj hi;refine aIg st.1 st.2 hx λh' a b=>hQ es[i].key h' s.toks ⟨_,hx,rfl⟩ ⟨a,st.2.keep λo e=>b.extBut d o cq e⟩ λb' o hb e=>b.extBut b' o (λz=>hb (ng.mpr z)) e
 done:=λs Q E st hQ=>aJq hh st.1 st.2 (eO _) λh' z=>hQ h' s.toks λb o hb e=>z b o (λy=>hb (ng.mpr y)) e
 self:=λ_ _ _ _ st hQ=>wpAny_pyIter_keyiter st.1 hQ
theorem aLr{es:Array DictEntry}{ep:Nat}(lo:(d == sysModules)=false):KdlSrc prog w "dict" d d es.size (λi v=>∃e,es[i]?=some e/\v=e.key) (λh=>Raw h d es ep) where
 type:=λ_ hm=>hm.ty
 there:=λ_ hm=>let ⟨_,e,_⟩:=hm;⟨iM e,iM e⟩
 keep:=λ_ _ hm hk=>hm.keep λo e=>hk d (.inl rfl) o e
 notList:=by decide
 notTuple:=by decide
 hint:=λ_ _ _ _ hm hq=>kdl_hint_dict hm.ty hq
 iter:=λ_ _ hh hm=>⟨_,_,(λ_ _ hq=>aGN lo hm hq),aLq hh _ d (rR (let ⟨_,e,_⟩:=hm;iM e)) es ep,⟨⟨_,qP _ rfl,rfl,rfl⟩,hm.keep λo e=>fL _ e⟩⟩
section
variable{X:Cx}
def P2:List V->Hp->VK->Prop:=λxs H Q=>∃(d:Addr) (kvs:List (List Key×V)) (ts:cn),xs=[.ref d]/\H d=some (.dT kvs)/\kvs.map (·.1)=ts.map (λt=>t.map Sum.inl)/\(∀t∈ts,t≠[])/\ts.length < 64/\
 ∀(p:Addr) (qs:ay) (us:cn),H p=none->nM H qs us->us.Perm ts->us.Pairwise (λa b=>vA b a=false)->Q (.ref p) (upd H p (.lst (qs.map V.ref)))
theorem aGT(hc:X.calm=true):eS X (.builtin "sorted") P2:=by
 intro pins s σ H xs us Q I r h;obtain⟨d,kvs,ts,rfl,hd,ek,cq,a0u,q⟩:=h;obtain⟨u,rfl,ru⟩:=vals1 r;cases ru;obtain⟨lo,ob,es,ep,ys,g1,g2,g3,rel,g4,g5⟩:=PD (show cR X.prog X.w H s.heap d (.dT kvs) from I.bf d _ hd);have raw:Raw s.heap d es ep:=⟨ob,g1,g2.1,g3⟩
 have Wq:kvs.length=ts.length:=by have:=congrArg List.length ek;simpa using this
 have V7:ys.length=kvs.length:=(Paired.length rel).symm;have ht:nM H (ys.map (·.2.1)) ts:=by
  refine⟨by rw[bH,V7,Wq],λj a t x y=>?_⟩;have hj:j < kvs.length:=by rw[Wq];exact(iZ.mp y).1
  obtain⟨p,hp,hb,_⟩:=LK rel (dM hj);rw[nE,hp] at x;cases x;refine⟨?_,cq t (jW y)⟩;have e3:(kvs.map (·.1))[j]?=some kvs[j].1:=by rw[nE,dM hj];rfl
  rw[ek,nE,y] at e3;have e4:t.map Sum.inl=kvs[j].1:=Option.some.inj e3;rw[hb,<-e4,wm];rfl
 have hv:((ys.map (·.2.1)).map Value.ref).length=ts.length:=by rw[bH];exact ht.len
 refine Calls.call_function_entry kind_sorted plain_sorted entry_sorted (args_sorted1 (.ref d)) ?_
 unfold Builtin.«sorted»;refine bN (m:=checkCount "sorted" 1 1 _) (dY (bN (PySem.W.kdu_collect (A:=X.A.in1) (aLr (es:=es) (ep:=ep) lo) (I.ok.hd hc) raw (by rw[xx];lia) λh1 tk acc k0 ux=>?_)));have ea:acc.toList=(ys.map (·.2.1)).map Value.ref:=by
  refine List.ext_getElem? λj=>?_;by_cases hj:j < kvs.length
  ·have hja:j < acc.size:=by rw[ux.1,g5];exact hj
   have e1:acc[j]?=some acc[j]:=Rj hja;obtain⟨e,he,ev⟩:=ux.2 j _ e1;obtain⟨p,hp,hb,_⟩:=LK rel (dM hj);rw[entry_at g4,hp] at he;cases he;rw[Ra,e1,ev,nE,nE,hp];rfl
  ·rw[F8 (by rw[wq,ux.1,g5];lia),F8 (by rw[bH,bH,V7];lia)]
 rw[ea];generalize wg:ys.map (·.2.1)=qs at ht hv ea;have hq:=ht.len;have Oc:qs.length < 64:=by lia
 refine bN (wpAny_newList ?_ (by rw[hv,xx];lia));have k1:∀b o,s.heap.get? b=some o->(h1.push (seqObj "list" (qs.map Value.ref).toArray 0)).get? b=some o:=λb o g=>fL _ (k0 b o g);have gD:(h1.push (seqObj "list" (qs.map Value.ref).toArray 0)).get? h1.objs.size=some (seqObj "list" (qs.map Value.ref).toArray 0):=qP _ rfl;refine bN (BH (yz (s:={ s with heap:=h1.push (seqObj "list" (qs.map Value.ref).toArray 0),toks:=tk }) slot_list_sort ⟨_,gD,rfl⟩ entry_list_sort (aLi gD ((ht.uN I).keeps λb o _ g=>k1 b o g) (by rw[hv,<-hq];exact Oc) λp hr hu=>⟨_,rfl,?_⟩) (args_list_sort (.ref h1.objs.size))));rw[hv,<-hq] at hr hu;have pl:p.toList.Perm (List.range qs.length):=by simpa using Array.perm_iff_toList_perm.mp hr
 have Ir:p.toList.length=qs.length:=by have:=pl.length_eq;simpa using this
 have eo:(BF (qs.map Value.ref) p).toList=(p.toList.map λi=>qs.getD i 0).map Value.ref:=by
  unfold BF;show p.toList.map (λi=>(qs.map Value.ref).getD i Value.none)=_;rw[wm];refine List.map_congr_left λi hi=>?_;have li:i < qs.length:=Bj.mp (pl.mem_iff.mp hi);show(qs.map Value.ref).getD i Value.none=Value.ref (qs.getD i 0);simp[rf,dM li]
 refine dY ⟨_,rfl,?_⟩;obtain⟨c,Fc⟩:=sortedHeap_at (out:=BF (qs.map Value.ref) p) gD;have T':nM H (p.toList.map λi=>qs.getD i 0) (p.toList.map λi=>ts.getD i []):=by
  refine⟨by rw[bH,bH],λj a b x y=>?_⟩;rw[nE] at x y;obtain⟨i,e1,e2⟩:=oi.mp x;rw[e1] at y;have li:i < qs.length:=Bj.mp (pl.mem_iff.mp (jW e1));refine ht.at_ i a b ?_ ?_
  ·rw[<-e2];simp[rf,dM li]
  ·cases y;simp[rf,dM (show i < ts.length by lia)]
 obtain⟨hn,I2⟩:=I.aSh (t':=tk) (h':=sortedHeap (h1.push (seqObj "list" (qs.map Value.ref).toArray 0)) h1.objs.size (qs.map Value.ref) (BF (qs.map Value.ref) p)) (a:=h1.objs.size) (o:=.lst ((p.toList.map λi=>qs.getD i 0).map V.ref)) (λb ob g=>by
   have lb:b < h1.objs.size:=iM (k0 b ob g);rw[sortedHeap_old (rR lb) (by rw[size_push'];exact D7 lb)];exact k1 b ob g) (λb ob g=>rR (iM (k0 b ob g)))
  ⟨by rw[bH,bH,Ir,xx];lia,(p.toList.map λi=>qs.getD i 0).map Value.ref,c,aDY _,by rw[<-eo,Array.toArray_toList];exact Fc⟩
 refine⟨.ref h1.objs.size,_,I2,rfl,q _ _ _ hn T' ?_ ?_⟩
 ·have:=pl.map (λi=>ts.getD i []);rw[hq,range_getD] at this;exact this
 ·rw[List.pairwise_iff_getElem];intro i j hi hj Bv;rw[bH,Ir] at hi hj;have key:∀k (hk:k < p.toList.length),(p.toList.map λi=>ts.getD i [])[k]'(by rw[bH];exact hk)=kq (O:=Fz) (λi=>ts.getD i []) p k:=λk hk=>by
   rw[List.getElem_map];unfold kq;have:p.getD k 0=p.toList[k]:=by
    have hk':k < p.size:=by simpa using hk
    simp[Array.getD,hk']
   rw[this]
  rw[key i (by lia),key j (by lia)];exact hu i j (by lia) hj
end
section
variable{H:Hp}{Q:VK}
theorem aM8{kvs:List (List Key×V)}{ts:cn}(h:H d=some (.dT kvs))(e:kvs.map (·.1)=ts.map (λt=>t.map Sum.inl))(cq:∀t∈ts,t≠[])(hl:ts.length < 64)(q:∀(p:Addr) (qs:ay) (us:cn),H p=none->nM H qs us->us.Perm ts->us.Pairwise (λa b=>vA b a=false)->Q (.ref p) (upd H p (.lst (qs.map V.ref)))):P2 [.ref d] H Q:=⟨d,kvs,ts,rfl,h,e,cq,hl,q⟩
end
end L2
namespace L2
open PySem PySem.Spec PyProof.Rows
section
variable{X:Cx}
def Hk(K:W.Frag):List V->Hp->VK->Prop:=λvs H Q=>∃(p:Addr) (ns:ae),vs=[.ref p]/\bP K H p (ns.map V.int)/\ns≠[]/\∀m,m∈ns->(∀x∈ns,x<=m)->Q (.int m) H
theorem QM(hc:X.calm=true):eS X (.builtin "max") (Hk X.K):=by
 intro pins s σ H vs us Q I r h;obtain⟨p,ns,rfl,hq,cq,q⟩:=h;obtain⟨u,rfl,rx⟩:=vals1 r;cases rx;obtain⟨az,r',pl,hz⟩:=I.list hq;have hi:=intsAre_of r';obtain⟨xs,hx⟩:=hi.allInts.items;have e1:ns=xs.toList.map (·.1):=by rw[<-nums_intItems,<-hx];exact(show numsOf az.toArray.toList=ns from hi.numsOf).symm
 have hsz:0 < xs.size:=by
  have z:=F6.mpr cq;rw[e1,bH,wq] at z;exact z
 refine max_intList (I.ok.hd hc) (hx▸pl.isList:s.heap.IsList p (intItems xs)) hsz λv h' tk hv hk=>?_;obtain⟨t,rfl⟩:=intItems_at hv;obtain⟨h1,h2⟩:=argBest_gt (numAt xs) (xs.size - 1);refine⟨.int _,H,I.kept (t':=tk) hk,⟨t,rfl⟩,q _ ?_ λx tf=>?_⟩
 ·rw[e1,numAt_eq];exact getD_mem (by rw[bH,wq];lia)
 ·rw[e1] at tf;obtain⟨j,hj,rfl⟩:=mem_getD tf;rw[bH,wq] at hj;rw[<-numAt_eq];exact h2 j (by lia)
theorem Qe{K:W.Frag}{H:Hp}{Q:VK}{p:Addr}{ns:ae}(h1:bP K H p (ns.map V.int))(cq:ns≠[])(h:∀m,m∈ns->(∀x∈ns,x<=m)->Q (.int m) H):Hk K [.ref p] H Q:=⟨p,ns,rfl,h1,cq,h⟩
end
end L2
local macro_rules | `(tactic| walk_at "ne") => `(tactic| first
  | assumption
  | (refine Ne.symm ?_; assumption)
  | exact L2.bG (by assumption) (by walk_at "hp")
  | exact Ne.symm (L2.bG (by assumption) (by walk_at "hp")))
local macro_rules | `(tactic| walk_at "hp") => `(tactic| first
  | assumption
  | exact L2.aP
  | (refine Eq.trans (L2.bA (by walk_at "ne")) ?_; walk_at "hp")
  | (refine L2.aR.at (by assumption) ?_; walk_at "hp")
  | (refine L2.cI.at (by assumption) ?_ (by walk_at "ne"); walk_at "hp"))
local macro_rules | `(tactic| walk_at "sq") => `(tactic| first
  | assumption
  | exact L2.bP.of (by walk_at "hp")
  | exact L2.gZ.of (by walk_at "hp")
  | exact L2.aR.seq (by assumption) (by walk_at "sq"))
local macro_rules | `(tactic| walk_at "cnd") => `(tactic| first
  | lia
  | decide
  | (simp only [List.length_map]; lia)
  | (refine ⟨?_, ?_⟩ <;> first | lia | decide)
  | (refine Or.inl ⟨?_, ?_⟩ <;> first | lia | decide)
  | (refine Or.inr ⟨?_, ?_⟩ <;> first | lia | decide)
  | (refine ⟨?_, ?_, ?_⟩ <;> first | lia | decide))
local macro_rules | `(tactic| walk_at "sz") => `(tactic| (refine L2.bV ?_; first | decide | (simp only [List.length_cons, List.length_nil, List.length_append]; lia) | lia))
local macro_rules | `(tactic| walk_at "rd") => `(tactic| (with_reducible first
  | refine L2.aOk ?_
  | refine L2.aQJ ?_
  | refine L2.aQG ?_
  | refine L2.aOl ?_
  | refine L2.aQH ?_
  | refine L2.MB ?_
  | refine L2.JQ ?_
  | refine L2.MD ?_
  | refine L2.aQI ?_
  | refine L2.aOm ?_
  | refine L2.aQK ?_
  | refine L2.aOn ?_
  | refine L2.aMq ?_
  | refine L2.aOo ?_
  | refine L2.aLk ?_
  | refine L2.MA ?_
  | refine L2.aMV ?_
  | refine L2.aMT ?_
  | refine L2.aMU ?_
  | refine L2.aQM ?_
  | refine L2.aSC ?_
  | refine L2.aRW ?_
  | refine L2.aRX ?_
  | refine L2.aQO ?_
  | refine L2.aRZ ?_
  | refine L2.aOp ?_
  | refine L2.aR0 ?_
  | refine L2.aK9 ?_
  | refine L2.aOq ?_
  | refine L2.JP ?_
  | refine L2.Vm ?_
  | refine L2.Vn ?_
  | refine L2.aOr ?_
  | refine L2.aQR ?_
  | refine L2.aOs ?_
  | refine L2.aQS ?_
  | refine L2.aMr ?_
  | refine L2.aOt ?_
  | refine L2.aR1 ?_
  | refine L2.aQT ?_
  | refine L2.aR2 ?_
  | refine L2.aQU ?_
  | refine L2.aQV ?_
  | refine L2.aR3 ?_
  | refine L2.aOu ?_
  | refine L2.aR4 ?_
  | refine L2.aR5 ?_
  | refine L2.Vp ?_
  | refine L2.aQW ?_
  | refine L2.aOv ?_
  | refine L2.aQX ?_
  | refine L2.aQY ?_
  | refine L2.aOw ?_
  | refine L2.aR6 ?_
  | refine L2.aOx ?_
  | refine L2.aLe ?_
  | refine L2.aMz ?_
  | refine L2.aMs ?_
  | refine L2.aMt ?_
  | refine L2.aQZ ?_
  | refine L2.OU ?_
  | refine L2.Li ?_
  | refine L2.aSb ?_
  | refine L2.aSc ?_
  | refine L2.aSa ?_
  | refine L2.aMy ?_
  | refine L2.aOJ ?_
  | refine L2.aMH ?_
  | refine L2.aMI ?_
  | refine L2.aQ8 ?_
  | refine L2.aOF ?_
  | refine L2.aOG ?_
  | refine L2.aOH ?_
  | refine L2.aOR ?_
  | refine L2.aM2 ?_
  | refine L2.aJA ?_
  | refine L2.aM7 ?_))
local macro_rules | `(tactic| walk_at "st") => `(tactic| first
  | walk_at "rd"
  | ((with_reducible refine L2.aSg (b := ?b) ?t ?_); (case t => assumption))
  | ((with_reducible refine L2.aQN (v := ?v) ?e ?_); (case e => rfl))
  | ((with_reducible refine L2.aMp (σ' := ?s) ?e ?_); (case e => first | (simp only [List.set_cons_zero, List.set_cons_succ]; rfl) | rfl))
  | ((with_reducible refine L2.aRY ?c ?_); (case c => walk_at "cnd"))
  | ((with_reducible refine L2.ZQ ?c ?_); (case c => walk_at "cnd"))
  | ((with_reducible refine L2.rW (xs := ?xs) (v := ?v) ?a ?b ?_); (case a => walk_at "sq"); (case b => first | rfl | assumption))
  | ((with_reducible refine L2.aQQ (xs := ?xs) (v := ?v) ?a ?b ?_); (case a => walk_at "sq"); (case b => first | rfl | assumption))
  | (with_reducible refine L2.aQ0 ?_)
  | (with_reducible refine L2.aQ1 ?_)
  | (with_reducible refine L2.aQ2 ?_)
  | (with_reducible refine L2.MC ?_)
  | (with_reducible refine L2.aOD ?_)
  | ((with_reducible refine L2.aOB (xs := ?xs) ?a ?_); (case a => walk_at "sq"))
  | ((with_reducible refine L2.aOC (xs := ?xs) ?a ?_); (case a => walk_at "sq"))
  | (with_reducible refine L2.aQ4 ?_)
  | (with_reducible refine L2.aQ5 ?_)
  | ((with_reducible refine L2.Vo ?a ?b ?_); (case a => rfl); (case b => rfl))
  | ((with_reducible refine L2.aQP ?a ?b ?_); (case a => rfl); (case b => rfl))
  | ((with_reducible refine L2.aSe (b := ?b) ?e ?_); (case e => rfl))
  | ((with_reducible refine L2.aMB (b := ?b) ?e ?_); (case e => rfl))
  | ((with_reducible refine L2.aOy ?c ?_); (case c => walk_at "sz")))
local macro_rules | `(tactic| walk_at "go") => `(tactic| first
  | (with_reducible refine L2.aOQ (fun _ _ => ?_))
  | walk_at "st")
local macro_rules | `(tactic| walk_at "w") => `(tactic| repeat walk_at "go")
local macro_rules | `(tactic| walk_at "l") => `(tactic| (intro vs H Q E h; first | (cases h; subst_vars; rfl) | (repeat (first | (obtain ⟨e, _⟩ := h; subst e; rfl) | obtain ⟨_, h⟩ := h))))
local macro_rules | `(tactic| walk_at "gs") => `(tactic| first
  | walk_at "go"
  | ((with_reducible refine L2.aSd ?e ?_); (case e => rfl))
  | ((with_reducible refine L2.a0b ?e ?_); (case e => rfl)))
namespace My
open PySem L2 L2.Z
abbrev aa:List Str:=["_law_script","_law_place","_law_hand","_law_spec_here","_law_position_here","_law_wants","_law_prices_here","_law_works_here","_law_drawn_here","_law_plan_here","_law_made","_law_level","_law_hour_here","_law_fits","_law_told"]
abbrev ba:List Str:=["works","position","wants","plan"]
abbrev fv:List Str:=["_law_hand","_law_works_here","_law_position_here","_law_prices_here","_law_path","_law_runs","_law_machine_here","_law_state_here","_law_plan_here","_law_hour_here","_law_outputs","_law_run","_law_ends"]
abbrev gz:List Str:=["machine","state","on"]
abbrev kf:List Str:=["machine","state","run"]
abbrev ue:List Str:=["works","position","wants","plan","prices","worths","machines","store","left","wastes","lacks"]
abbrev Te:List Str:=["works","position","prices"]
abbrev aaa:List Str:=["_law_works_here","_law_position_here","_law_wants","_law_plan_here","_law_prices_here"]
abbrev aba:List Str:=["machine","state","prices"]
abbrev aca:List Str:=["thing"]
abbrev ada:List Str:=["works","position","want","planned","ons","running","resting","making","lacking"]
abbrev aea:List Str:=["works","position","plan","prices"]
abbrev afa:List Str:=["_law_script","_law_first","_law_hours","_law_spec_here","_law_position_here"]
abbrev aga:List Str:=["_law_hand","_law_by","_law_lack","_law_hours"]
abbrev aha:List Str:=["ahead","want","planned","works"]
abbrev aia:List Str:=["_law_hand","_law_spec_here"]
abbrev aja:List Str:=["_law_hand","_law_works_here","_law_position_here","_law_prices_here"]
abbrev aka:List Str:=["_law_spec_here","_law_state_here","_law_on"]
abbrev ala:List Str:=["_law_store_here","_law_level","_law_later"]
abbrev ama:List Str:=["store","level","prices"]
abbrev ana:List Str:=["self","up","down","begin","run","rest","least","pieces"]
abbrev aoa:List Str:=["_law_hand","_law_by"]
abbrev apa:List Str:=["_law_spec_here","_law_position_here","_law_hour_here"]
abbrev aqa:List Str:=["_law_hand","_law_most"]
abbrev ara:List Str:=["works","position","plan","prices","worths","at","machine","ons","outputs"]
abbrev asa:List Str:=["_law_hand","_law_spec_here","_law_position_here"]
abbrev ata:List Str:=["works","position","wants","plan","positions"]
abbrev aua:List Str:=["ways","behind"]
abbrev ava:List Str:=["_law_hand","_law_by","_law_most"]
abbrev awa:List Str:=["_law_spec_here"]
abbrev axa:List Str:=["works","position","wants","plan","prices"]
abbrev aya:List Str:=["machine","state","prices","ons","outputs"]
abbrev aza:List Str:=["machine","state","price"]
abbrev aAa:List Str:=["self","cap","into","out","takes","gives"]
abbrev aHa:List Str:=["_law_store_here","_law_level"]
abbrev aIa:List Str:=["store","level","price"]
abbrev aKa:List Str:=["_law_hand","_law_specs","_law_states"]
abbrev aTa:List Str:=["_law_hand","_law_spec_here","_law_on"]
abbrev aUa:List Str:=["on","later","cost","machine","price"]
abbrev aVa:List Str:=["works","states","ons"]
abbrev aWa:List Str:=["_law_hand","_law_by","_law_longest"]
abbrev aXa:List Str:=["works","position","wants","prices"]
abbrev aYa:List Str:=["works","position","want","planned"]
abbrev aZa:List Str:=["places","hour","behind","ways_at"]
abbrev a1a:List Str:=["_law_hand","_law_most","_law_by","_law_wide","_law_many","_law_specs","_law_store_here","_law_lack"]
abbrev a2a:List Str:=["store","level","prices","layers"]
abbrev a3a:List Str:=["hour","place","machine","prices"]
abbrev a4a:List Str:=["choice","later","worth","behind"]
abbrev a5a:List Str:=["_law_hand","_law_spec_here","_law_position_here","_law_ons_here","_law_outputs","_law_levels_here"]
abbrev a6a:List Str:=["self","price"]
abbrev a7a:List Str:=["works","position","ons","level"]
abbrev a8a:List Str:=["works","level","want","planned"]
abbrev a9a:List Str:=["self","machines","store","lack"]
abbrev baa:List Str:=["store","level","prices","path"]
abbrev bba:List Str:=["hour","place","prices","store"]
abbrev bca:List Str:=["works","level","later"]
abbrev bda:List Str:=["machine","state"]
abbrev bea:List Str:=["machine","state","prices","worths","run"]
abbrev bfa:List Str:=["store","level","prices","worths","path"]
abbrev bga:List Str:=["place","worths","ways_at"]
abbrev bha:List Str:=["_law_script","_law_place"]
abbrev bia:List Str:=["works","position","plan"]
abbrev bja:List Str:=["machine","state","hours"]
abbrev bka:List Str:=["_law_hand","_law_bound"]
abbrev bla:List Str:=["machine","state","prices","layers"]
abbrev bma:List Str:=["machine","on"]
abbrev bna:List Str:=["store","level","later"]
abbrev boa:List Str:=["store","level","hours"]
abbrev bpa:List Str:=["machine","on","output"]
abbrev bqa:List Str:=["_law_hand","_law_many"]
abbrev bra:List Str:=["_law_spec_here","_law_position_here","_law_hour_here","_law_states"]
abbrev bsa:List Str:=["_law_hand","_law_most","_law_spec_here","_law_hours","_law_wants"]
abbrev bta:List Str:=["_law_script"]
abbrev bua:List Str:=["_law_script","_law_place","_law_cells","_law_at","_law_digits"]
abbrev bva:List Str:=["_law_k","_law_hour_here","_law_position_here","_law_spec_here"]
abbrev bwa:List Str:=["_law_hand","_law_spec_here","_law_on","_law_way","_law_most"]
abbrev bxa:List Str:=["store","level"]
abbrev bya:List Str:=["self","price","below","alike"]
abbrev bza:List Str:=["works","position","wants","prices","wanted","machines"]
abbrev bAa:List Str:=["layers","ways_at"]
abbrev bBa:List Str:=["_law_k","_law_hand","_law_ons_here","_law_spec_here"]
abbrev bCa:List Str:=["_law_spec_here","_law_machines","_law_store_here"]
abbrev bDa:List Str:=["_law_one"]
abbrev bEa:List Str:=["_law_hour_here","_law_by","_law_hand","_law_lack"]
abbrev bFa:List Str:=["_law_amount","_law_rate"]
abbrev bGa:List Str:=["machine","ways"]
abbrev bHa:List Str:=["self","output"]
abbrev bIa:List Str:=["piece","price"]
abbrev bJa:List Str:=["_law_hour_here","_law_hand","_law_spec_here"]
abbrev bKa:List Str:=["price","over","works"]
abbrev bLa:List Str:=["_law_told"]
abbrev bMa:List Str:=["_law_hand"]
abbrev bNa:List Str:=["planned","at"]
abbrev bOa:List Str:=["hour","place"]
abbrev bPa:List Str:=["_law_k","_law_by","_law_hand","_law_wide"]
abbrev bQa:List Str:=["_law_hand","_law_spec_here","_law_states"]
abbrev bRa:List Str:=["works","position","plan","prices","path"]
abbrev bSa:List Str:=["works","position","ons","level","states"]
abbrev bTa:List Str:=["later","level","price","store"]
abbrev bUa:List Str:=["worth","least"]
abbrev bVa:List Str:=["self"]
abbrev bWa:List Str:=["price","want"]
abbrev bXa:List Str:=["price","over"]
abbrev bYa:List Str:=["_law_run","_law_hour_here"]
def top(i:Nat):Stmt:=PySem.Challenge.pw_stintwise_k74_gaps_are_nought_where_they.main.body.getD i (.Pass ⟨0,0,0,0⟩)
abbrev o7:Stmt:=top 71
abbrev vE:Stmt:=top 72
abbrev zZ:Stmt:=top 73
abbrev qC:Stmt:=top 74
abbrev z0:Stmt:=top 11
abbrev vF:Stmt:=top 12
abbrev QL:Stmt:=top 43
abbrev Q6:Stmt:=top 44
abbrev jG:Stmt:=top 45
abbrev nO:Stmt:=inClass (top 46) 0
abbrev vG:Stmt:=top 75
abbrev nP:Stmt:=top 76
abbrev nQ:Stmt:=inClass (top 46) 3
abbrev eZ:Stmt:=inClass (top 46) 4
abbrev Qx:Stmt:=top 14
abbrev qD:Stmt:=top 15
abbrev sG:Stmt:=top 77
abbrev sI:Stmt:=top 81
abbrev Q5:Stmt:=top 30
abbrev sJ:Stmt:=inClass (top 31) 0
abbrev vH:Stmt:=top 19
abbrev nR:Stmt:=top 20
abbrev sL:Stmt:=top 21
abbrev Q2:Stmt:=top 22
abbrev sM:Stmt:=top 1
abbrev nS:Stmt:=top 2
abbrev kD:Stmt:=top 3
abbrev mU:Stmt:=top 4
abbrev vI:Stmt:=top 5
abbrev qE:Stmt:=top 16
abbrev jH:Stmt:=top 49
abbrev sN:Stmt:=inClass (top 50) 0
abbrev iD:Stmt:=top 52
abbrev nU:Stmt:=top 54
abbrev sO:Stmt:=top 78
abbrev qF:Stmt:=top 87
abbrev gX:Stmt:=top 84
abbrev mV:Stmt:=top 85
abbrev iQ:Stmt:=top 86
abbrev Q1:Stmt:=top 89
abbrev kL:Stmt:=top 90
abbrev o8:Stmt:=top 91
abbrev kM:Stmt:=top 92
abbrev vJ:Stmt:=top 93
abbrev nV:Stmt:=top 32
abbrev qH:Stmt:=top 33
abbrev Q0:Stmt:=top 34
abbrev sP:Stmt:=top 36
abbrev mW:Stmt:=top 37
abbrev cK:Stmt:=top 38
abbrev dN:Stmt:=top 39
abbrev kE:Stmt:=top 17
abbrev mX:Stmt:=top 23
abbrev o9:Stmt:=top 25
abbrev cV:Stmt:=top 26
abbrev eA:Stmt:=top 27
abbrev sQ:Stmt:=top 79
abbrev fJ:Stmt:=top 58
abbrev kF:Stmt:=top 59
abbrev kN:Stmt:=top 60
abbrev sR:Stmt:=top 88
abbrev vK:Stmt:=top 80
abbrev kO:Stmt:=top 94
abbrev pA:Stmt:=top 95
abbrev QZ:Stmt:=top 51
abbrev nW:Stmt:=top 55
abbrev pB:Stmt:=top 56
abbrev jI:Stmt:=inClass (top 46) 1
abbrev jJ:Stmt:=inClass (top 46) 2
abbrev kP:Stmt:=top 66
abbrev iE:Stmt:=top 67
abbrev pC:Stmt:=top 68
abbrev pD:Stmt:=top 69
abbrev vL:Stmt:=top 61
abbrev fQ:Stmt:=top 62
abbrev kQ:Stmt:=top 63
abbrev iF:Stmt:=top 64
abbrev fR:Stmt:=top 96
abbrev sS:Stmt:=top 97
abbrev QY:Stmt:=top 98
abbrev Hj:Stmt:=top 99
theorem iG:aX bua bha (aI o7):={}
theorem iH:aX ["_law_hand","_law_many","_law_got","_law_cell","_law_number"] bqa (aI vE):={}
theorem pE:aX ["_law_hand","_law_bound","_law_total","_law_k"] bka (aI zZ):={}
theorem aD4:aX bMa bMa (aI qC):={}
theorem aIo:aX aca aca (aI z0):={}
theorem aGV:aX aca aca (aI vF):={}
theorem aJC:aX aca aca (aI QL):={}
theorem aIp:aX aca aca (aI Q6):={}
theorem aFc:aX aca aca (aI jG):={}
theorem gE:aX ["self","up","down","begin","run","rest","least","pieces","spans","costs","at","fits"] ana (aI nO):={}
theorem eJ:aX ["_law_hand","_law_by","_law_longest","_law_up","_law_down","_law_costs","_law_least","_law_rate","_law_pieces","_law_k"] aWa (aI vG):={}
theorem aDi:aX awa awa (aI nP):={}
theorem gF:aX ["self","price","worth","amount","rate"] a6a (aI nQ):={}
theorem iV:aX bya a6a (aI eZ):={}
theorem aLs:aX gz gz (aI Qx):={}
theorem aD5:aX gz gz (aI qD):={}
theorem aFd:aX aia aia (aI sG):={}
theorem aFe:aX aka aka (aI sI):={}
theorem aIq:aX aca aca (aI Q5):={}
theorem kR:aX ["self","cap","into","out","takes","gives","depths","at","fits"] aAa (aI sJ):={}
theorem mY:aX ["machine","state","run","hour","on"] kf (aI vH):={}
theorem tK:aX ["machine","state","run","fault"] kf (aI nR):={}
theorem gK:aX ["machine","state","run","begins","ahead","hour","on"] kf (aI sL):={}
theorem aCp:aX ["machine","state","run","begins"] kf (aI Q2):={}
theorem aIr:aX aua aua (aI sM):={}
theorem lV:aX ["places","hour","behind","ways_at","worths","place"] aZa (aI nS):={}
theorem eB:aX ["layers","ways_at","behind","place","worths","hour"] bAa (aI kD):={}
theorem yC:aX ["ways","behind","least"] aua (aI mU):={}
theorem jK:aX ["place","worths","ways_at","row","hour","way"] bga (aI vI):={}
theorem fS:aX ["machine","ways","later","state","many","on","behind"] bGa (aI qE):={}
theorem aDj:aX aca aca (aI jH):={}
theorem kS:aX ["self","machines","store","lack","is_store","at","fits"] a9a (aI sN):={}
theorem pF:aX bSa a7a (aI iD):={}
theorem eU:aX ["works","position","plan","positions","ons","outputs","level"] bia (aI nU):={}
theorem kT:aX ["_law_hand","_law_by","_law_gives","_law_takes"] aoa (aI sO):={}
theorem aD6:aX aHa aHa (aI qF):={}
theorem cL:aX a1a aqa (aI gX):={}
theorem kU:aX bCa awa (aI mV):={}
theorem qW:aX bQa aia (aI iQ):={}
theorem lI:aX ["_law_hand","_law_specs","_law_states","_law_ons_here","_law_k","_law_on"] aKa (aI Q1):={}
theorem nX:aX bwa aTa (aI kL):={}
theorem mZ:aX a5a asa (aI o8):={}
theorem vM:aX bra apa (aI kM):={}
theorem m3:aX ["_law_script","_law_first","_law_hours","_law_spec_here","_law_position_here","_law_plan_here","_law_place"] afa (aI vJ):={}
theorem lX:aX ["store","level","hours","lowest","highest"] boa (aI nV):={}
theorem aD7:aX bxa bxa (aI qH):={}
theorem aCq:aX ["store","level","later","each"] bna (aI Q0):={}
theorem gN:aX ["store","level","prices","path","worth","price","later"] baa (aI sP):={}
theorem aFf:aX aIa aIa (aI mW):={}
theorem mI:aX a2a ama (aI cK):={}
theorem kH:aX bfa ama (aI dN):={}
theorem fA:aX ["machine","state","hours","ways","layers","hour"] bja (aI kE):={}
theorem aFg:aX bda bda (aI mX):={}
theorem aGW:aX aza aza (aI o9):={}
theorem mJ:aX bla aba (aI cV):={}
theorem lY:aX bea aba (aI eA):={}
theorem aFh:aX ava ava (aI sQ):={}
theorem vN:aX Te Te (aI fJ):={}
theorem aAH:aX Te Te (aI kF):={}
theorem nY:aX bza aXa (aI kN):={}
theorem aFi:aX ala ala (aI sR):={}
theorem aGX:aX aoa aoa (aI vK):={}
theorem aD8:aX aga aga (aI kO):={}
theorem jL:aX bsa aqa (aI pA):={}
theorem aIs:aX bca bca (aI QZ):={}
theorem tL:aX ["works","level","want","planned","over"] a8a (aI nW):={}
theorem aAI:aX ata ba (aI pB):={}
theorem aDk:aX bVa bVa (aI jI):={}
theorem cW:aX ["self","output","wanted","cost","amount","rate","taken"] bHa (aI jJ):={}
theorem aD9:aX aVa aVa (aI kP):={}
theorem gO:aX ada aYa (aI iE):={}
theorem aAJ:aX ata ba (aI pC):={}
theorem aGY:aX ba ba (aI pD):={}
theorem iI:aX ["machine","state","prices","ons","outputs","worth","price","on","output"] aya (aI vL):={}
theorem eC:aX ara aea (aI fQ):={}
theorem vO:aX bRa aea (aI kQ):={}
theorem fE:aX ue axa (aI iF):={}
theorem cA:aX fv aja (aI fR):={}
theorem aFj:aX bLa bLa (aI sS):={}
theorem pG:aX ["_law_works_here","_law_position_here","_law_wants","_law_plan_here","_law_prices_here","_law_told","_law_bound","_law_meets"] aaa (aI QY):={}
theorem hV:aX aa bta (aI Hj):={}
theorem B8{n:Nat}:∀{us:aj},us.length=n+1->∃a r,us=a::r/\r.length=n
 |a::r,h=>⟨a,r,rfl,Nat.succ.inj h⟩
theorem Yk(us:aj)(h:us.length=1):∃a0,us=[a0]:=by obtain⟨a,r,rfl,g⟩:=B8 h;cases List.eq_nil_of_length_eq_zero g;exact⟨a,rfl⟩
theorem Fv(us:aj)(h:us.length=2):∃a0 a1,us=[a0,a1]:=by obtain⟨a0,r,rfl,g⟩:=B8 h;obtain⟨a1,rfl⟩:=Yk r g;exact⟨a0,a1,rfl⟩
theorem Yj(us:aj)(h:us.length=3):∃a0 a1 a2,us=[a0,a1,a2]:=by obtain⟨a0,r,rfl,g⟩:=B8 h;obtain⟨a1,a2,rfl⟩:=Fv r g;exact⟨a0,a1,a2,rfl⟩
theorem Yi(us:aj)(h:us.length=4):∃a0 a1 a2 a3,us=[a0,a1,a2,a3]:=by obtain⟨a0,r,rfl,g⟩:=B8 h;obtain⟨a1,a2,a3,rfl⟩:=Yj r g;exact⟨a0,a1,a2,a3,rfl⟩
theorem Yh(us:aj)(h:us.length=5):∃a0 a1 a2 a3 a4,us=[a0,a1,a2,a3,a4]:=by obtain⟨a0,r,rfl,g⟩:=B8 h;obtain⟨a1,a2,a3,a4,rfl⟩:=Yi r g;exact⟨a0,a1,a2,a3,a4,rfl⟩
theorem Yg(us:aj)(h:us.length=6):∃a0 a1 a2 a3 a4 a5,us=[a0,a1,a2,a3,a4,a5]:=by obtain⟨a0,r,rfl,g⟩:=B8 h;obtain⟨a1,a2,a3,a4,a5,rfl⟩:=Yh r g;exact⟨a0,a1,a2,a3,a4,a5,rfl⟩
theorem ar7(us:aj)(h:us.length=7):∃a0 a1 a2 a3 a4 a5 a6,us=[a0,a1,a2,a3,a4,a5,a6]:=by obtain⟨a0,r,rfl,g⟩:=B8 h;obtain⟨a1,a2,a3,a4,a5,a6,rfl⟩:=Yg r g;exact⟨a0,a1,a2,a3,a4,a5,a6,rfl⟩
theorem ar8(us:aj)(h:us.length=8):∃a0 a1 a2 a3 a4 a5 a6 a7,us=[a0,a1,a2,a3,a4,a5,a6,a7]:=by obtain⟨a0,r,rfl,g⟩:=B8 h;obtain⟨a1,a2,a3,a4,a5,a6,a7,rfl⟩:=ar7 r g;exact⟨a0,a1,a2,a3,a4,a5,a6,a7,rfl⟩
set_option genInjectivity false in
set_option genSizeOf false in
structure Ru where
 aCr:Addr
 aCs:FuncData
 aCt:Addr
 aCu:FuncData
 aEa:Addr
 aEb:FuncData
 yD:Addr
 yE:FuncData
 aEc:Addr
 aEd:FuncData
 aCv:Addr
 aCw:FuncData
 aF8:Addr
 aF9:FuncData
 aEe:Addr
 aEf:FuncData
 aAK:Addr
 aAL:FuncData
 nZ:Addr
 vP:FuncData
 aCx:Addr
 aCy:FuncData
 vQ:Addr
 vR:FuncData
 oA:Addr
 vS:FuncData
 jM:Addr
 pH:FuncData
 ZY:Addr
 ZX:FuncData
 yF:Addr
 yG:FuncData
 aAM:Addr
 aAN:FuncData
 aAO:Addr
 aAP:FuncData
 aEg:Addr
 aEh:FuncData
 sU:Addr
 aAQ:FuncData
 aCz:Addr
 aCA:FuncData
 vT:Addr
 vU:FuncData
 aAR:Addr
 aAS:FuncData
 aEi:Addr
 aEj:FuncData
 aEk:Addr
 aEm:FuncData
 vV:Addr
 vW:FuncData
 qX:Addr
 qY:FuncData
 aAT:Addr
 aAU:FuncData
 aCB:Addr
 aCC:FuncData
 yH:Addr
 yI:FuncData
 vX:Addr
 vY:FuncData
 sV:Addr
 aAV:FuncData
 qZ:Addr
 rA:FuncData
 vZ:Addr
 v8:FuncData
 aAW:Addr
 aAX:FuncData
 yJ:Addr
 yK:FuncData
 pI:Addr
 pJ:FuncData
 aAY:Addr
 aAZ:FuncData
 tN:Addr
 tO:FuncData
 aEn:Addr
 aEo:FuncData
 yL:Addr
 yM:FuncData
 aCD:Addr
 aCE:FuncData
 yN:Addr
 yO:FuncData
 aCF:Addr
 aCG:FuncData
 v9:Addr
 wA:FuncData
 yP:Addr
 yQ:FuncData
 aEp:Addr
 aEq:FuncData
 aA0:Addr
 aA1:FuncData
 aA2:Addr
 aA3:FuncData
 oB:Addr
 iW:FuncData
 tP:Addr
 lZ:FuncData
 rB:Addr
 rC:FuncData
 aA4:Addr
 aA5:FuncData
 aCH:Addr
 aCI:FuncData
 oC:Addr
 iX:FuncData
 wB:Addr
 oE:FuncData
 aA6:Addr
 aA7:FuncData
 mK:Addr
 mL:FuncData
 rD:Addr
 rE:FuncData
 yR:Addr
 yS:FuncData
 aA8:Addr
 aA9:FuncData
 aCJ:Addr
 aCK:FuncData
 yT:Addr
 yU:FuncData
 aCL:Addr
 aCM:FuncData
 aEr:Addr
 aEs:FuncData
 wC:Addr
 wD:FuncData
 aCN:Addr
 aCO:FuncData
 oF:Addr
 wG:FuncData
 jN:Addr
 pK:FuncData
 yV:Addr
 yW:FuncData
 aBa:Addr
 aBb:FuncData
 aCP:Addr
 aCQ:FuncData
 aCR:Addr
 aCS:FuncData
 aCT:Addr
 aCU:FuncData
 rF:Addr
 rG:FuncData
 yX:Addr
 yY:FuncData
 aBc:Addr
 aBd:FuncData
 rH:Addr
 rJ:FuncData
 aBe:Addr
 aBf:FuncData
 aEt:Addr
 aEu:FuncData
 YD:Addr
 YC:FuncData
 jw:Addr
 cG:Addr
 qe:Addr
 cY:Addr
 jv:Addr
 cH:Addr
 si:Addr
 dE:Addr
 aW:Addr
 bS:Addr
 cN:Addr
structure Txt(K:W.Frag)(mg:Str->aw)(a:Ru):Prop where
 ij:FG K mg "_law_open" o7 a.aCr a.aCs bha
 af:FG K mg "_law_draw" vE a.aCt a.aCu bqa
 ju:FG K mg "_law_far" zZ a.aEa a.aEb bka
 fi:FG K mg "_law_factor" qC a.yD a.yE bMa
 gi:FG K mg "is_whole" z0 a.aEc a.aEd aca
 br:FG K mg "is_amount" vF a.aCv a.aCw aca
 nj:FG K mg "is_span" QL a.aF8 a.aF9 aca
 rn:FG K mg "is_piece" Q6 a.aEe a.aEf aca
 kr:FG K mg "are_pieces" jG a.aAK a.aAL aca
 iz:FB K "__init__" "Machine.__init__" nO a.nZ a.vP ana
 pd:FG K mg "_law_spec" vG a.aCx a.aCy aWa
 iw:FG K mg "_law_machine" nP a.vQ a.vR awa
 ja:FB K "gain" "Machine.gain" nQ a.oA a.vS a6a
 ff:FB K "best_at" "Machine.best_at" eZ a.jM a.pH a6a
 ig:FG K mg "may_be" Qx a.ZY a.ZX gz
 cv:FG K mg "state_after" qD a.yF a.yG gz
 lg:FG K mg "_law_state" sG a.aAM a.aAN aia
 ia:FG K mg "_law_after" sI a.aAO a.aAP aka
 gj:FG K mg "is_depth" Q5 a.aEg a.aEh aca
 mf:FB K "__init__" "Store.__init__" sJ a.sU a.aAQ aAa
 oj:FG K mg "run_fault" vH a.aCz a.aCA kf
 ir:FG K mg "refuse_fault" nR a.vT a.vU kf
 ke:FG K mg "run_begins" sL a.aAR a.aAS kf
 jr:FG K mg "run_cost" Q2 a.aEi a.aEj kf
 js:FG K mg "least_of" sM a.aEk a.aEm aua
 ip:FG K mg "worths_ahead" nS a.vV a.vW aZa
 bj:FG K mg "worths_by_hour" kD a.qX a.qY bAa
 ko:FG K mg "first_best" mU a.aAT a.aAU aua
 cg:FG K mg "first_row" vI a.aCB a.aCC bga
 je:FG K mg "ways_one_on" qE a.yH a.yI bGa
 iu:FG K mg "are_machines" jH a.vX a.vY aca
 me:FB K "__init__" "Works.__init__" sN a.sV a.aAV a9a
 fq:FG K mg "position_after" iD a.qZ a.rA a7a
 dj:FG K mg "positions_of" nU a.vZ a.v8 bia
 ky:FG K mg "_law_store" sO a.aAW a.aAX aoa
 jn:FG K mg "_law_levels" qF a.yJ a.yK aHa
 fe:FG K mg "_law_works_spec" gX a.pI a.pJ aqa
 ku:FG K mg "_law_works" mV a.aAY a.aAZ awa
 ib:FG K mg "_law_position" iQ a.tN a.tO aia
 sd:FG K mg "_law_ons" Q1 a.aEn a.aEo aKa
 jl:FG K mg "_law_output" kL a.yL a.yM aTa
 pf:FG K mg "_law_hour" o8 a.aCD a.aCE asa
 jo:FG K mg "_law_behind" kM a.yN a.yO apa
 pe:FG K mg "_law_plan" vJ a.aCF a.aCG afa
 dk:FG K mg "levels_after" nV a.v9 a.wA boa
 jh:FG K mg "levels_from" qH a.yP a.yQ bxa
 gv:FG K mg "drawn_by" Q0 a.aEp a.aEq bna
 kh:FG K mg "path_worth" sP a.aA0 a.aA1 baa
 bx:FG K mg "level_ways" mW a.aA2 a.aA3 aIa
 dy:FG K mg "worths_of_levels" cK a.oB a.iW ama
 dh:FG K mg "cheapest_path" dN a.tP a.lZ ama
 fm:FG K mg "states_by_hour" kE a.rB a.rC bja
 ki:FG K mg "next_hours" mX a.aA4 a.aA5 bda
 cb:FG K mg "hour_ways" o9 a.aCH a.aCI aza
 dv:FG K mg "worths_of_states" cV a.oC a.iX aba
 dt:FG K mg "cheapest_run" eA a.wB a.oE aba
 lj:FG K mg "_law_price" sQ a.aA6 a.aA7 ava
 cu:FG K mg "least_of_machines" fJ a.mK a.mL Te
 de:FG K mg "least_of_store" kF a.rD a.rE Te
 jg:FG K mg "price_bound" kN a.yR a.yS aXa
 ma:FG K mg "_law_drawn" sR a.aA8 a.aA9 ala
 pb:FG K mg "_law_want" vK a.aCJ a.aCK aoa
 jk:FG K mg "_law_prices" kO a.yT a.yU aga
 pj:FG K mg "_law_case" pA a.aCL a.aCM aqa
 rq:FG K mg "drawn_in" QZ a.aEr a.aEs bca
 dn:FG K mg "left_in_hour" nW a.wC a.wD a8a
 ot:FG K mg "left_over" pB a.aCN a.aCO ba
 iy:FB K "most" "Machine.most" jI a.oF a.wG bVa
 cx:FB K "cost_at" "Machine.cost_at" jJ a.jN a.pK bHa
 ji:FG K mg "begin_costs" kP a.yV a.yW aVa
 kn:FG K mg "hour_costs" iE a.aBa a.aBb aYa
 oz:FG K mg "ledger_of" pC a.aCP a.aCQ ba
 oq:FG K mg "plan_cost" pD a.aCR a.aCS ba
 om:FG K mg "row_worth" vL a.aCT a.aCU aya
 ft:FG K mg "machine_worths" fQ a.rF a.rG aea
 jf:FG K mg "store_worth" kQ a.yX a.yY aea
 kg:FG K mg "price_gaps" iF a.aBc a.aBd axa
 fz:FG K mg "_law_best_plan" fR a.rH a.rJ aja
 ly:FG K mg "_law_parts" sS a.aBe a.aBf bLa
 jt:FG K mg "_law_met" QY a.aEt a.aEu aaa
 Ju:FG K mg "law" Hj a.YD a.YC bta
 bO:su K a.aW
 aGa:mg "Machine" = some (.ref a.aW)
 aLt:Mk K a.aW a.nZ
 sh:Meth K a.aW "gain" a.oA
 mh:Meth K a.aW "best_at" a.jM
 sg:Meth K a.aW "most" a.oF
 fg:Meth K a.aW "cost_at" a.jN
 aBg:dU K a.aW "up"
 wH:dU K a.aW "down"
 mC:dU K a.aW "begin"
 qI:dU K a.aW "run"
 oG:dU K a.aW "rest"
 eG:dU K a.aW "least"
 eN:dU K a.aW "pieces"
 zi:Mx K a.aW
 jO:su K a.bS
 Zr:mg "Store" = some (.ref a.bS)
 aOZ:Mk K a.bS a.sU
 aCV:dU K a.bS "cap"
 aBh:dU K a.bS "into"
 aCW:dU K a.bS "out"
 yZ:dU K a.bS "takes"
 y4:dU K a.bS "gives"
 B7:Mx K a.bS
 dP:su K a.cN
 aO0:mg "Works" = some (.ref a.cN)
 aO1:Mk K a.cN a.sV
 cQ:dU K a.cN "machines"
 dZ:dU K a.cN "store"
 sW:dU K a.cN "lack"
 ME:Mx K a.cN
 oH:Hf K a.iW a.jw a.cG
 tQ:Hf K a.lZ a.qe a.cY
 oI:Hf K a.iX a.jv a.cH
 wI:Hf K a.oE a.si a.dE
 Pj:mg "abs" = none
 FJ:mg "all" = none
 P1:mg "bool" = none
 fX:mg "enumerate" = none
 Lq:mg "int" = none
 eK:mg "isinstance" = none
 hX:mg "len" = none
 qJ:mg "list" = none
 mM:mg "max" = none
 wJ:mg "min" = none
 eE:mg "range" = none
 QX:mg "reversed" = none
 Qm:mg "sorted" = none
 mN:mg "sum" = none
 kW:mg "tuple" = none
 jU:mg "zip" = none
 qK:∃t,mg "MOST_LEVELS" = some (.int 8 t)
 mD:∃t,mg "LONGEST_STINT" = some (.int 12 t)
 qL:∃t,mg "MOST_PIECES" = some (.int 4 t)
 mE:∃t,mg "MOST_MACHINES" = some (.int 6 t)
abbrev dG:Pos:=⟨141,34,141,92⟩
abbrev dH:Str:=(("worths_of_levels" : Str) ++ ".<locals>.") ++ "<lambda>"
abbrev fT:Pos:=⟨144,36,144,94⟩
abbrev fU:Str:=(("cheapest_path" : Str) ++ ".<locals>.") ++ "<lambda>"
abbrev dI:Pos:=⟨100,34,100,93⟩
abbrev dJ:Str:=(("worths_of_states" : Str) ++ ".<locals>.") ++ "<lambda>"
abbrev gH:Pos:=⟨103,35,103,94⟩
abbrev gI:Str:=(("cheapest_run" : Str) ++ ".<locals>.") ++ "<lambda>"
inductive Th (H:Hp):V->String->Prop where
 |bw:Th H .bw "NoneType"
 |bl (b:Bool):Th H (.bl b) "bool"
 |int (i:Int):Th H (.int i) "int"
 |str (x:Str):Th H (.str x) "str"
 |lst {p:Addr} {xs:List V} (e:H p=some (.lst xs)):Th H (.ref p) "list"
 |tup {p:Addr} {xs:List V} (e:H p=some (.tup xs)):Th H (.ref p) "tuple"
 |dK {p:Addr} {kvs:List (Key×V)} (e:H p=some (.dK kvs)):Th H (.ref p) "dict"
theorem Th.ty{K:W.Frag}{H:Hp}{v:V}{T:String}(h:Th H v T):xn K H v (.type T):=by
 cases h with
 |bw=>exact .bw
 |bl b=>exact .bl b
 |int i=>exact .int i
 |str x=>exact .str x
 |lst e=>exact .lst e
 |tup e=>exact .tup e
 |dK e=>exact .dK e
theorem Th.keep(h:Th H v T)(n:∀b,v=.ref b->b≠p)(k:cI p H H'):Th H' v T:=by
 cases h with
 |bw=>exact .bw
 |bl b=>exact .bl b
 |int i=>exact .int i
 |str x=>exact .str x
 |lst e=>exact .lst (k _ _ e (n _ rfl))
 |tup e=>exact .tup (k _ _ e (n _ rfl))
 |dK e=>exact .dK (k _ _ e (n _ rfl))
theorem aO2(h:Th H v T):C6 K H v (.ty "int") (T == "int" || T == "bool"):=by
 refine⟨_,h.ty,.inl ⟨_,rfl,?_⟩⟩;cases h <;> rfl
theorem aNa(h:Th H v T):C6 K H v (.ty "bool") (T == "bool"):=by
 refine⟨_,h.ty,.inl ⟨_,rfl,?_⟩⟩;cases h <;> rfl
def DR:V->Bool
 |.int i=>decide (0<=i) && decide (i<=10 ^ 12)
 |_=>false
structure bB(H:Hp)(p:Addr):Prop where
 ex:∃(d c:Int) (q:Addr) (ms:ae),H p=some (.lst [.int d,.int c,.ref q])/\H q=some (.lst (ms.map V.int))/\ms≠[]/\q≠p
def dR(p:Addr)(H H':Hp):Prop:=∀(d c:Int) (q:Addr),H p=some (.lst [.int d,.int c,.ref q])->∃d' c':Int,H' p=some (.lst [.int d',.int c',.ref q])
theorem dR.trans(a:dR p H H1)(b:dR p H1 H2):dR p H H2:=λd c q e=>by
 obtain⟨d',c',e'⟩:=a d c q e;exact b d' c' q e'
theorem dR.of{H H':Hp}(s:∀o,H p=some o->H' p=some o):dR p H H':=λd c q e=>⟨d,c,s _ e⟩
theorem bB.of(h:bB H p)(k:cI p H H')(s:dR p H H'):bB H' p:=by
 obtain⟨d,c,q,ms,hp,hq,cq,Ag⟩:=h.ex;obtain⟨d',c',e⟩:=s d c q hp;exact⟨⟨d',c',q,ms,e,k _ _ hq Ag,cq,Ag⟩⟩
theorem bB.same(h:bB H p)(s:aR H H'):bB H' p:=by
 obtain⟨d,c,q,ms,hp,hq,cq,Ag⟩:=h.ex;exact⟨⟨d,c,q,ms,s _ _ hp,s _ _ hq,cq,Ag⟩⟩
theorem ZW(h:Th H v T):C6 K H v (.ty "list") (T == "list"):=by
 refine⟨_,h.ty,.inl ⟨_,rfl,?_⟩⟩;cases h <;> rfl
theorem aLu(h:Th H v T):C6 K H v (.ty "tuple") (T == "tuple"):=by
 refine⟨_,h.ty,.inl ⟨_,rfl,?_⟩⟩;cases h <;> rfl
theorem Y2{ms:ae}{c:Int}(h:ms≠[]):∃m,m∈ms/\lT (ms.map V.int) (c % ((ms.map V.int).length:Int))=some (.int m):=by
 have hl:0 < ms.length:=F6.mpr h;have e1:=HW c (b:=((ms.map V.int).length:Int)) (by rw[bH];lia);have e2:=Ia c (b:=((ms.map V.int).length:Int)) (by rw[bH];lia);obtain⟨j,hj⟩ : ∃j:Nat,c % ((ms.map V.int).length:Int)=(j:Int):=⟨_,(Int.toNat_of_nonneg e1).symm⟩
 rw[hj] at e2 ⊢;rw[bH] at e2;have DH:j < ms.length:=by lia
 exact⟨ms[j],uu DH,gU (by rw[nE,dM DH];rfl)⟩
theorem Zq(ms:ae)(lo hi:Option Int):∃r:ae,kZ (ms.map V.int) lo hi=r.map V.int/\r.length=(kZ (ms.map V.int) lo hi).length:=by
 unfold kZ;rw[<-List.map_drop,<-List.map_take];exact⟨_,rfl,by simp⟩
theorem rot{ms:ae}{i:Int}(h0:0<=i)(h1:i < ms.length):∃Cn:ae,kZ (ms.map V.int) (some i) none++kZ (ms.map V.int) none (some i)=Cn.map V.int/\Cn≠[]/\Cn.length<=ms.length+ms.length:=by
 obtain⟨r1,e1,l1⟩:=Zq ms (some i) none;obtain⟨r2,e2,l2⟩:=Zq ms none (some i);have b1:=fW (ms.map V.int) (some i) none;have b2:=fW (ms.map V.int) none (some i);rw[bH] at b1 b2;refine⟨r1++r2,by rw[e1,e2,gR],λz=>?_,by rw[iR];lia⟩;have z1:r1=[]:=(List.append_eq_nil_iff.mp z).1;obtain⟨j,rfl⟩:=Rh h0;have hj:j < ms.length:=by lia
 rw[z1,Q9] at l1;have l3:(kZ (ms.map V.int) (some (j:Int)) none).length=ms.length - j:=by
  unfold kZ;rw[HT.Qc,HT.Qw,og,F3,bH,Nat.min_eq_left (CT hj)];lia
 rw[l3] at l1;lia
inductive aBi  (K:W.Frag) (vs:List V) (H:Hp) (Q:VK) (E:XK):Prop
 |mk:∀(a:Addr) (ns:ae) (i:Int),(vs=[.ref a,.int i])->(bP K H a (ns.map V.int))->(ns.length<=63)->(0<=i)->(∀p H',aR H H'->H p=none->bB H' p->Q (.ref p) H')->aBi K vs H Q E
theorem aBj(tx:Txt K mg a):bQ P w K mg base eR 1 a.aCr a.aCs bha (aBi K):=by
 refine tx.ij.F.ok iG (by walk_at "l") λbq A outer s H vs Q E hr h=>?_;obtain⟨a,ns,i,rfl ,hS,hl,h0,k⟩:=h;have hu:=fV hr;refine aY (aE (c8 (k:=1) (idx:=[]) (N:=["_law_cell"]) (i:=2) iG.nd rfl (Or.inl rfl) (bY (sc:=aI o7) (NX:=bua) rfl rfl rfl (by decide +kernel)) rfl (bI (K':=K) (lG (rs:=DT K) Hd (aB 0) nI (nJ aC))) (λ_ _ _ _=>(aJ (i:=0) (show(["_law_cell"]:ah).Nodup by decide +kernel))) (cJ (by decide)) (λ_ _ _ _=>bE) (λ_ _ _ _=>(aN aLa (by rfl) tx.Pj aQD (aA (aB 0) aD))))
  (aE (bC (aV (r:=iJ K) (cZ hu) (aB 2) (eM aD) (bD _)) (aG (aK (i:=2) iG.nd (mT aC))) aZ)
  (aE (aK (i:=3) iG.nd (aL p9 (aB 1) (aN (rc:=mS K) cO (by rfl) tx.hX fB (aA (aB 2) aD))))
  (aE (aK (i:=4) iG.nd aC)
  (aE (bC (eY (iC (aV YO (aH (K':=K) (aB 2) (aB 3)) (aL zQ aC aC) (bD _)) (fZ (aV Hu (aB 1) (aN (rc:=mS K) cO (by rfl) tx.hX fB (aA (aB 2) aD)) (bD _))))) (aG (aK (i:=4) iG.nd (aH (K':=K) (aB 2) (aB 3)))) aZ)
  (aG (aM (xK (aB 4) (aL bL aC (aL bX aC (aB 1))) (aL bL (lG (rs:=DT K) Hd (aB 2) (nJ (aB 3)) nI) (lG (rs:=DT K) Hd (aB 2) nI (nJ (aB 3)))))))))))) ?_
 refine aT (σ:=[some (.ref a),some (.int i),none,none,none]) rfl ?_;refine Y6 ?_;walk_at "w";refine zU hS ?_;intro p1 n1;walk_at "w";rw[show kZ (ns.map V.int) none (some 63)=ns.map V.int from aMu (n:=63) (by rw[bH];exact hl)];refine fO (bP.of aP) ?_;refine QD (λv=>match v with|.int i=>.int (if i < 0 then -i else i)|v=>v) (bP.of aP) (bV (by rw[bH];lia)) (λx N N' hx hN=>?_) ?_
 ·obtain⟨y,hy,rfl⟩:=qQ.mp hx;walk_at "w";exact hN
 ·intro p2 n2;repeat walk_at "st"
  have s2:aR H (upd (upd H p1 (.lst (ns.map V.int))) p2 (.lst ((ns.map V.int).map λv=>match v with|.int i=>.int (if i < 0 then -i else i)|v=>v))):=(aR.new n1).trans (aR.new n2);rw[wm] at s2 ⊢;generalize hm:ns.map ((λv=>match v with|V.int i=>V.int (if i < 0 then -i else i)|v=>v) ∘ V.int)=xs at s2 ⊢;obtain⟨ms,rfl⟩ : ∃ms:ae,xs=ms.map V.int:=⟨ns.map λi=>if i < 0 then -i else i,by rw[<-hm,wm];rfl⟩
  have lm:ms.length<=63:=by
   have:=congrArg List.length hm;simp only[bH] at this;lia
  refine fH (λσ' H'=>∃(c:Addr) (ms:ae),σ'=[some (.ref a),some (.int i),some (.ref c),none,none]/\aR H H'/\H' c=some (.lst (ms.map V.int))/\ms≠[]/\ms.length<=63) (λN hN=>?_) ?_
  ·walk_at "w";intro p3 n3;walk_at "w";refine⟨_,Qh (bP.of (by walk_at "hp")) (bP.of aP),?_⟩;walk_at "w";refine iP (λh=>?_) (λh=>?_)
   ·walk_at "w";intro p4 n4;walk_at "w";exact hN _ _ ⟨p4,[0],rfl,(s2.trans (aR.new n3)).trans (aR.new n4),aP,by simp,by simp⟩
   ·walk_at "w";refine hN _ _ ⟨p2,ms,rfl,s2.trans (aR.new n3),by walk_at "hp",?_,lm⟩;rintro rfl;simp at h
  ·rintro σ' H' ⟨c,ms,rfl,sH,hc,cq,lm⟩;have hl:0 < ms.length:=F6.mpr cq;obtain⟨m,_,hm⟩:=Y2 (c:=i) cq;have e1:=HW i (b:=((ms.map V.int).length:Int)) (by rw[bH];lia);have e2:=Ia i (b:=((ms.map V.int).length:Int)) (by rw[bH];lia);obtain⟨Cn,em,en,el⟩:=rot (ms:=ms) e1 (by rw[bH] at e2 ⊢;exact e2);walk_at "w";refine cB (λh=>?_) (λh=>?_)
   ·walk_at "w";refine cB (λh=>?_) (λh=>?_);all_goals
     walk_at "w";refine zU (bP.of hc) ?_;intro p5 n5;walk_at "w";refine zU (bP.of (by walk_at "hp")) ?_;intro p6 n6;walk_at "w";refine mR (by walk_at "hp") (by walk_at "hp") (bV (by have:=fW (ms.map V.int) (some (i % ((ms.map V.int).length:Int))) none;have:=fW (ms.map V.int) none (some (i % ((ms.map V.int).length:Int)));simp only[bH] at *;lia)) ?_;intro p7 n7;walk_at "w";rw[em];walk_at "w";intro p8 n8;walk_at "w";have s8:=((aR.new (o:=.lst (kZ (ms.map V.int) (some (i % ((ms.map V.int).length:Int))) none)) n5).trans (aR.new (o:=.lst (kZ (ms.map V.int) none (some (i % ((ms.map V.int).length:Int))))) n6)).trans (aR.new (o:=.lst (Cn.map V.int)) n7);refine k _ _ (sH.trans (s8.trans (aR.new n8))) ((sH.trans s8).free n8) ⟨⟨_,_,_,Cn,aP,by walk_at "hp",en,?_⟩⟩;exact bG n8 aP
   ·walk_at "w";refine zU (bP.of hc) ?_;intro p5 n5;walk_at "w";refine zU (bP.of (by walk_at "hp")) ?_;intro p6 n6;walk_at "w";refine mR (by walk_at "hp") (by walk_at "hp") (bV (by have:=fW (ms.map V.int) (some (i % ((ms.map V.int).length:Int))) none;have:=fW (ms.map V.int) none (some (i % ((ms.map V.int).length:Int)));simp only[bH] at *;lia)) ?_;intro p7 n7;walk_at "w";rw[em];walk_at "w";intro p8 n8;walk_at "w";have s8:=((aR.new (o:=.lst (kZ (ms.map V.int) (some (i % ((ms.map V.int).length:Int))) none)) n5).trans (aR.new (o:=.lst (kZ (ms.map V.int) none (some (i % ((ms.map V.int).length:Int))))) n6)).trans (aR.new (o:=.lst (Cn.map V.int)) n7);refine k _ _ (sH.trans (s8.trans (aR.new n8))) ((sH.trans s8).free n8) ⟨⟨_,_,_,Cn,aP,by walk_at "hp",en,?_⟩⟩;exact bG n8 aP
inductive aBk  (K:W.Frag) (vs:List V) (H:Hp) (Q:VK) (E:XK):Prop
 |mk:∀(p:Addr) (n:Int),(vs=[.ref p,.int n])->bB H p->(0 < n)->(n < 1073741824)->(∀(r:Int) H',0<=r->r < n->bB H' p->cI p H H'->dR p H H'->Q (.int r) H')->aBk K vs H Q E
theorem cS(tx:Txt K mg a):bQ P w K mg base eR 1 a.aCt a.aCu bqa (aBk K):=by
 refine tx.af.F.ok iH (by walk_at "l") λbq A outer s H vs Q E hr h=>?_;obtain⟨p,n,rfl ,hh,h0,h1,k⟩:=h;have hu:=fV hr;refine aY (aE (bC (aV CN (aH (K':=K) (aB 0) aC) aC (bD _)) (aE (aK (i:=2) iH.nd (aL p9 (aH (K':=K) (aB 0) aC) (aB 1)))
  (aE (qU (aL Qd (aH (K':=K) (aB 0) aC) (aB 1)) (xJ (aB 0) aC set_list))
  (aG (aM (aB 2))))) aZ)
  (aE (aJk (aB 0) aC aQF aC FU set_list)
  (aE (aK (i:=3) iH.nd (aL p9 (aH (K':=K) (aH (K':=K) (aB 0) aC) (aL p9 (aH (K':=K) (aB 0) aC) (aN (rc:=mS K) cO (by rfl) tx.hX fB (aA (aH (K':=K) (aB 0) aC) aD)))) aC))
  (aE (aK (i:=4) iH.nd (aL p9 (aL bL (aL bL (aL bX (aB 3) aC) (aL bX (aH (K':=K) (aB 0) aC) aC)) aC) aC))
  (aE (aK (i:=4) iH.nd (aL p9 (aL bL (aL bX (aB 4) (aB 4)) (aH (K':=K) (aB 0) aC)) aC))
  (aE (aK (i:=4) iH.nd (aL p9 (aL bL (aL bX (aB 4) aC) aC) aC))
  (aG (aM (aL p9 (aL Qd (aL p9 (aL bX (aB 4) (aB 4)) aC) aC) (aB 1)))))))))) ?_
 obtain⟨d,c,q,ms,hp,hq,cq,Ag⟩:=hh.ex;refine aT (σ:=[some (.ref p),some (.int n),none,none,none]) rfl ?_;walk_at "w";refine cB (λhd=>?_) (λhd=>?_)
 ·walk_at "w";refine HL hp rfl ?_;walk_at "w";refine k _ _ (HW _ (by lia)) (Ia _ h0) ⟨⟨_,c,q,ms,aP,by walk_at "hp",cq,Ag⟩⟩ cI.upd (λd0 c0 q0 e0=>by rw[hp] at e0;cases e0;exact⟨_,_,aP⟩)
 ·walk_at "w";refine aQL (bP.of hp) (by decide) rfl ?_;walk_at "w";refine HL hp rfl ?_;obtain⟨m,_,hm⟩:=Y2 (c:=c+1) cq;have hlen:0 < ((ms.map V.int).length:Int):=by rw[bH];have:=F6.mpr cq;lia
  walk_at "w";have vi:(upd H p (.lst [.int d,.int (c+1),.ref q])) q=some (.lst (ms.map V.int)):=by walk_at "hp"
  walk_at "w";exact k _ _ (HW _ (by lia)) (Ia _ h0) ⟨⟨d,c+1,q,ms,aP,vi,cq,Ag⟩⟩ cI.upd (λd0 c0 q0 e0=>by rw[hp] at e0;cases e0;exact⟨_,_,aP⟩)
inductive aCX  (K:W.Frag) (vs:List V) (H:Hp) (Q:VK) (E:XK):Prop
 |mk:∀(p:Addr) (b:Int),(vs=[.ref p,.int b])->bB H p->(0 < b)->(∀(r:Int) H',0<=r->r < b->bB H' p->cI p H H'->dR p H H'->Q (.int r) H')->aCX K vs H Q E
theorem aCY(tx:Txt K mg a):bQ P w K mg base eR 2 a.aEa a.aEb bka (aCX K):=by
 have aS:=cS (P:=P) (w:=w) (base:=base) tx;refine tx.ju.F.ok pE (by walk_at "l") λbq A outer s H vs Q E hr h=>?_;obtain⟨p,b,rfl ,hh,h0,k⟩:=h;have hu:=fV hr;refine aY (aE (aK (i:=2) pE.nd aC)
  (aE (bZ PassesOwn.never rfl (cP (by rfl) tx.eE (aA aC aD)) (aJ (i:=3) pE.nd) (aG (aK (i:=2) pE.nd (aL bL (aL bX (aB 2) aC) (bh aS hr tx.af (aA (aB 0) (aA aC aD)))))))
  (aG (aM (aL p9 (aB 2) (aB 1)))))) ?_
 refine aT (σ:=[some (.ref p),some (.int b),none,none]) rfl ?_;walk_at "w";refine⟨by decide,by decide,?_⟩;refine lD (n:=11) (λi σ' H'=>∃(t:Int) (x:Option V),σ'=[some (.ref p),some (.int b),some (.int t),x]/\bB H' p/\cI p H H'/\dR p H H') ⟨0,none,rfl,hh,λ_ _ e _=>e,dR.of λ_ e=>e⟩ (λi σ' H' hi z7q=>?_) (λσ' H' z8q=>?_)
 ·obtain⟨t,x,e,h',kp,sq⟩:=z7q;subst e;walk_at "w";refine⟨p,_,rfl,h',by decide,by decide,λr H2 r0 r1 h2 k2 q2=>?_⟩;walk_at "w";exact⟨_,_,rfl,h2,kp.trans k2,sq.trans q2⟩
 ·obtain⟨t,x,e,h',kp,sq⟩:=z8q;subst e;walk_at "w";exact k _ _ (HW _ (by lia)) (Ia _ h0) h' kp sq
inductive wK  (K:W.Frag) (vs:List V) (H:Hp) (Q:VK) (E:XK):Prop
 |mk:∀(p:Addr),(vs=[.ref p])->bB H p->(∀(r:Int) H',1<=r->r<=50000000000->bB H' p->cI p H H'->dR p H H'->Q (.int r) H')->wK K vs H Q E
theorem aEw(tx:Txt K mg a):bQ P w K mg base eR 3 a.yD a.yE bMa (wK K):=by
 have aS:=cS (P:=P) (w:=w) (base:=base) tx;have QV:=aCY (P:=P) (w:=w) (base:=base) tx;refine tx.fi.F.ok aD4 (by walk_at "l") λbq A outer s H vs Q E hr h=>?_;obtain⟨p,rfl ,hh,k⟩:=h;have hu:=fV hr;refine aY (aE (bC (aV CN (bh aS hr tx.af (aA (aB 0) (aA aC aD))) aC (bD _)) (aG (aM aC)) aZ)
  (aG (aM (aL bL aC (bh QV hr tx.ju (aA (aB 0) (aA (aL bX aC (aL zQ aC aC)) aD))))))) ?_
 refine aT (σ:=[some (.ref p)]) rfl ?_;walk_at "w";refine⟨p,_,rfl,hh,by decide,by decide,λr1 H1 a1 b1 h1 k1 q1=>?_⟩;walk_at "w";refine cB (λh=>?_) (λh=>?_)
 ·walk_at "w";exact k _ _ (by decide) (by decide) h1 k1 q1
 ·walk_at "w";refine⟨p,_,rfl,h1,by decide,λr2 H2 a2 b2 h2 k2 q2=>?_⟩;have b3:r2 < 50000000000:=b2;walk_at "w";exact k _ _ (by lia) (by lia) h2 (k1.trans k2) (q1.trans q2)
structure MS where
 up:Int
 down:Int
 begin_:Int
 run:Int
 rest:Int
 least:Int
 pieces:ak
def Am(i:Int):Prop:=0<=i/\i<=1000000000000
structure LI(ps:ak):Prop where
 len:ps.length<=4
 pc:∀t∈ps,1<=t.1/\Am t.1/\Am t.2
 up:∀(j:Nat) t u,ps[j]?=some t->ps[j+1]?=some u->t.2<=u.2
structure MS.Good(m:MS):Prop where
 up:1<=m.up/\m.up<=12
 down:1<=m.down/\m.down<=12
 begin_:Am m.begin_
 run:Am m.run
 rest:Am m.rest
 least:Am m.least
 pieces:LI m.pieces
structure wL(H:Hp)(qs:ay)(ps:ak):Prop where
 len:qs.length=ps.length
 at_:∀(j:Nat) q t,qs[j]?=some q->ps[j]?=some t->H q=some (.tup [.int t.1,.int t.2])
structure xW(H:Hp)(p:Addr)(ps:ak):Prop where
 ex:∃qs,H p=some (.lst (qs.map V.ref))/\wL H qs ps
structure dX(H:Hp)(s:Addr)(m:MS):Prop where
 ex:∃pl,H s=some (.lst [.int m.up,.int m.down,.int m.begin_,.int m.run,.int m.rest,.int m.least,.ref pl])/\xW H pl m.pieces
def AY(m:MS)(pl:Addr):List (Str×V):=[("up",.int m.up),("down",.int m.down),("begin",.int m.begin_),("run",.int m.run),("rest",.int m.rest),("least",.int m.least),("pieces",.ref pl)]
structure cX(C:Addr)(H:Hp)(a:Addr)(m:MS):Prop where
 ex:∃dx pl,H a=some (.ins C dx (AY m pl))/\xW H pl m.pieces
theorem wL.at2{H:Hp}{ps:ak}(h:wL H qs ps)(hq:q∈qs):∃t∈ps,H q=some (.tup [.int t.1,.int t.2]):=by
 obtain⟨j,hj,rfl⟩:=List.getElem_of_mem hq;have qi:j < ps.length:=by rw[<-h.len];exact hj
 exact⟨ps[j],uu qi,h.at_ j _ _ (dM hj) (dM qi)⟩
theorem wL.same{ps:ak}(h:wL H qs ps)(s:aR H H'):wL H' qs ps:=⟨h.len,λj q t h1 h2=>s _ _ (h.at_ j q t h1 h2)⟩
theorem xW.same{ps:ak}(h:xW H p ps)(s:aR H H'):xW H' p ps:=by
 obtain⟨qs,h1,h2⟩:=h.ex;exact⟨qs,s _ _ h1,h2.same s⟩
theorem dX.same(h:dX H p m)(s:aR H H'):dX H' p m:=by
 obtain⟨pl,h1,h2⟩:=h.ex;exact⟨pl,s _ _ h1,h2.same s⟩
theorem cX.same(h:cX C H p m)(s:aR H H'):cX C H' p m:=by
 obtain⟨dx,pl,h1,h2⟩:=h.ex;exact⟨dx,pl,s _ _ h1,h2.same s⟩
theorem wL.keep{H:Hp}{ps:ak}(h:wL H qs ps)(hp:∀xs,H p≠some (.tup xs))(s:cI p H H'):wL H' qs ps:=
 ⟨h.len,λj q t h1 h2=>by
  have e:=h.at_ j q t h1 h2;exact s _ _ e (λz=>hp _ (z▸e))⟩
theorem bB.FD(h:bB H p)(xs:List V):H p≠some (.tup xs):=λz=>by
 obtain⟨d,c,q,ms,hp,_⟩:=h.ex;rw[hp] at z;cases z
theorem xW.keep{ps:ak}(h:xW H a ps)(hh:bB H p)(s:cI p H H'):xW H' a ps:=by
 obtain⟨qs,h1,h2⟩:=h.ex;obtain⟨d,c,q,ms,hp,_⟩:=id hh.ex;refine⟨qs,s _ _ h1 (λz=>?_),h2.keep hh.FD s⟩;rw[z,hp] at h1;cases qs with
 |nil=>cases h1
 |cons x xs=>cases h1
theorem dX.keep(h:dX H a m)(hh:bB H p)(s:cI p H H'):dX H' a m:=by
 obtain⟨pl,h1,h2⟩:=h.ex;obtain⟨d,c,q,ms,hp,_⟩:=id hh.ex;refine⟨pl,s _ _ h1 (λz=>?_),h2.keep hh s⟩;rw[z,hp] at h1;cases h1
theorem cX.keep(h:cX C H a m)(hh:bB H p)(s:cI p H H'):cX C H' a m:=by
 obtain⟨dx,pl,h1,h2⟩:=h.ex;obtain⟨d,c,q,ms,hp,_⟩:=id hh.ex;refine⟨dx,pl,s _ _ h1 (λz=>?_),h2.keep hh s⟩;rw[z,hp] at h1;cases h1
theorem sX{i:Int}(h:Am i):DR (.int i)=true:=by
 obtain⟨h1,h2⟩:=h;have h3:i<=10 ^ 12:=h2;show(decide (0<=i) && decide (i<=10 ^ 12))=true;rw[ur h1,ur h3];rfl
inductive aCZ  (K:W.Frag) (vs:List V) (H:Hp) (Q:VK) (E:XK):Prop
 |mk:∀v T,(vs=[v])->Th H v T->(Q (.bl (T == "int")) H)->aCZ K vs H Q E
theorem wM(tx:Txt K mg a):bQ P w K mg base eR 1 a.aEc a.aEd aca (aCZ K):=by
 refine tx.gi.F.ok aIo (by walk_at "l") λbq A outer s H vs Q E hr h=>?_;obtain⟨v,T,rfl ,ht,k⟩:=h;have hu:=fV hr;refine aY (aG (aM (m8 (aN (rc:=Bz K) jZ (by rfl) tx.eK fD (aA (aB 0) (aA (nH (v:=.ty "int") (by rfl) tx.Lq Y8 rfl) aD))) (j8 (aLf (aN (rc:=Bz K) jZ (by rfl) tx.eK fD (aA (aB 0) (aA (nH (v:=.ty "bool") (by rfl) tx.P1 aOj rfl) aD)))))))) ?_;refine aT (σ:=[some v]) rfl ?_;walk_at "w";refine zV (aO2 ht) ?_;walk_at "w";refine iP (λh=>?_) (λh=>?_)
 ·walk_at "w";refine zV (aNa ht) ?_;walk_at "w";have e:(!(T == "bool"))=(T == "int"):=by cases ht <;> first|rfl|cases h
  rw[e];exact k
 ·have e:(T == "int")=false:=by cases ht <;> first|rfl|cases h
  rw[e] at k;exact k
inductive aBl  (K:W.Frag) (vs:List V) (H:Hp) (Q:VK) (E:XK):Prop
 |mk:∀v T,(vs=[v])->Th H v T->(Q (.bl (DR v)) H)->aBl K vs H Q E
theorem m5(tx:Txt K mg a):bQ P w K mg base eR 2 a.aCv a.aCw aca (aBl K):=by
 have oJ:=wM (P:=P) (w:=w) (base:=base) tx;refine tx.br.F.ok aGV (by walk_at "l") λbq A outer s H vs Q E hr h=>?_;obtain⟨v,T,rfl ,ht,k⟩:=h;have hu:=fV hr;refine aY (aG (aM (m8 (bh oJ hr tx.gi (aA (aB 0) aD)) (j8 (oY BE BE aC (aB 0) (aL zQ aC aC)))))) ?_;refine aT (σ:=[some v]) rfl ?_;walk_at "w";refine⟨v,T,rfl,ht,?_⟩;walk_at "w";refine iP (λh=>?_) (λh=>?_)
 ·cases ht with
  |int i=>
   walk_at "w";refine cB (λh1=>?_) (λh1=>?_)
   ·walk_at "w";have e:DR (.int i)=decide (i<=10 ^ (12:Int).toNat):=by simp[DR,h1]
    rw[<-e];exact k
   ·have e:DR (.int i)=false:=by simp[DR,h1]
    rw[e] at k;exact k
  |_=>cases h
 ·have e:DR v=false:=by cases ht <;> first|rfl|cases h
  rw[e] at k;exact k
inductive aEx  (K:W.Frag) (vs:List V) (H:Hp) (Q:VK) (E:XK):Prop
 |mk:∀(i:Int),(vs=[.int i])->(1<=i)->(i<=12)->(Q (.bl true) H)->aEx K vs H Q E
theorem aJE(tx:Txt K mg a):bQ P w K mg base eR 2 a.aF8 a.aF9 aca (aEx K):=by
 have oJ:=wM (P:=P) (w:=w) (base:=base) tx;refine tx.nj.F.ok aJC (by walk_at "l") λbq A outer s H vs Q E hr h=>?_;obtain⟨i,rfl ,h1,h2,k⟩:=h;have hu:=fV hr;refine aY (aG (aM (m8 (bh oJ hr tx.gi (aA (aB 0) aD)) (j8 (oY BE BE aC (aB 0) (rX (n:=12) (by rfl) tx.mD)))))) ?_;refine aT (σ:=[some (.int i)]) rfl ?_;walk_at "w";refine⟨_,_,rfl,.int i,?_⟩;walk_at "w";refine iP (λ_=>?_) (λh=>by simp at h);walk_at "w";refine cB (λ_=>?_) (λh=>absurd h1 h);walk_at "w";rw[ur h2];exact k
inductive aC3  (K:W.Frag) (vs:List V) (H:Hp) (Q:VK) (E:XK):Prop
 |mk:∀(q:Addr) (x y:Int),(vs=[.ref q])->(H q=some (.tup [.int x,.int y]))->(1<=x)->Am x->Am y->(Q (.bl true) H)->aC3 K vs H Q E
theorem aIw(tx:Txt K mg a):bQ P w K mg base eR 3 a.aEe a.aEf aca (aC3 K):=by
 have dO:=m5 (P:=P) (w:=w) (base:=base) tx;refine tx.rn.F.ok aIp (by walk_at "l") λbq A outer s H vs Q E hr h=>?_;obtain⟨q,x,y,rfl ,hq,h1,h2,h3,k⟩:=h;have hu:=fV hr;refine aY (aE (bC (eY (uZ (iB (eT (aN (rc:=Bz K) jZ (by rfl) tx.eK fD (aA (aB 0) (aA (nH (v:=.ty "tuple") (by rfl) tx.kW lC rfl) aD))))) (qT (aV (r:=BA K) (FR hu) (aN (rc:=mS K) cO (by rfl) tx.hX fB (aA (aB 0) aD)) aC (bD _))))) (aG (aM lE)) aZ)
  (aG (aM (m8 (bh dO hr tx.br (aA (aH (K':=K) (aB 0) aC) aD)) (m8 (hJ YO (aH (K':=K) (aB 0) aC) aC (bD _)) (j8 (bh dO hr tx.br (aA (aH (K':=K) (aB 0) aC) aD)))))))) ?_
 refine aT (σ:=[some (.ref q)]) rfl ?_;walk_at "w";refine zV (aLu (.tup hq)) ?_;walk_at "w";refine iP (λh=>by simp at h) (λ_=>?_);walk_at "w";refine aOz (λh=>absurd rfl h) (λ_=>?_);walk_at "w";refine⟨_,_,rfl,.int x,?_⟩;rw[sX h2];walk_at "w";refine cB (λ_=>?_) (λh=>absurd h1 h);walk_at "w";refine⟨_,_,rfl,.int y,?_⟩;rw[sX h3];exact k
inductive y6  (K:W.Frag) (vs:List V) (H:Hp) (Q:VK) (E:XK):Prop
 |mk:∀(p:Addr) (ps:ak),(vs=[.ref p])->xW H p ps->LI ps->(∀H',aR H H'->Q (.bl true) H')->y6 K vs H Q E
theorem aFk(tx:Txt K mg a):bQ P w K mg base eR 4 a.aAK a.aAL aca (y6 K):=by
 have aJF:=aIw (P:=P) (w:=w) (base:=base) tx;refine tx.kr.F.ok aFc (by walk_at "l") λbq A outer s H vs Q E hr h=>?_;obtain⟨p,ps,rfl ,hp,hg,k⟩:=h;have hu:=fV hr;refine aY (aE (bC (eY (uZ (iB (eT (aN (rc:=Bz K) jZ (by rfl) tx.eK fD (aA (aB 0) (aA (nH (v:=.ty "list") (by rfl) tx.qJ oW rfl) aD))))) (qT (aV CN (aN (rc:=mS K) cO (by rfl) tx.hX fB (aA (aB 0) aD)) (rX (n:=4) (by rfl) tx.qL) (bD _))))) (aG (aM lE)) aZ)
  (aE (bC (iB (eT (aN (rc:=DS K) (xH rfl) (by rfl) tx.FJ LO (aA (bR (k:=1) (idx:=[]) (N:=["piece"]) (bY (sc:=aI jG) (NX:=aca) rfl rfl rfl (by decide +kernel)) rfl (bI (K':=K) (aB 0)) (λ_ _ _ _=>(aJ (i:=0) (show(["piece"]:ah).Nodup by decide +kernel))) (cJ (by decide)) (λ_ _ _ _=>bE) (λ_ _ _ _=>(bh aJF hr tx.rn (aA (aB 0) aD)))) aD)))) (aG (aM lE)) aZ)
  (aG (aM (aN (rc:=DS K) (xH rfl) (by rfl) tx.FJ LO (aA (bR (k:=1) (idx:=[0]) (N:=["at","thing"]) (bY (sc:=aI jG) (NX:=aca) rfl rfl rfl (by decide +kernel)) rfl (yB (by rfl) tx.eE (aA aC (aA (aN (rc:=mS K) cO (by rfl) tx.hX fB (aA (aB 0) aD)) aD))) (λ_ _ _ _=>(aJ (i:=0) (show(["at","thing"]:ah).Nodup by decide +kernel))) (cJ (by decide)) (λ_ _ _ _=>bE) (λ_ _ _ _=>(hJ BE (aH (K':=K) (aH (K':=K) (aB 1) (aL dS (aB 0) aC)) aC) (aH (K':=K) (aH (K':=K) (aB 1) (aB 0)) aC) (bD _)))) aD)))))) ?_
 obtain⟨qs,h1,h2⟩:=hp.ex;have hl:=hg.len;have Nz:qs.length<=4:=by rw[h2.len];exact hl
 refine aT (σ:=[some (.ref p)]) rfl ?_;walk_at "w";refine zV (ZW (.lst h1)) ?_;walk_at "w";refine iP (λh=>by simp at h) (λ_=>?_);walk_at "w";refine cB (λh=>by rw[bH] at h;lia) (λ_=>?_);walk_at "w";refine fO (bP.of h1) ?_;refine QD (λ_=>.bl true) (bP.of h1) (bV (by rw[bH];lia)) (λx N N' Nn hN=>?_) ?_
 ·obtain⟨q,hq,rfl⟩:=qQ.mp Nn;obtain⟨t,ht,e⟩:=h2.at2 hq;obtain⟨g1,g2,g3⟩:=hg.pc t ht;walk_at "w";exact⟨q,t.1,t.2,rfl,e,g1,g2,g3,hN⟩
 ·intro l1 n1;walk_at "w";refine Qg (bP.of aP) (λx hx=>by obtain⟨_,_,rfl⟩:=qQ.mp hx;rfl) ?_;walk_at "w";have DO:=aR.new (o:=.lst ((qs.map V.ref).map λ_=>V.bl true)) n1 _ _ h1;have tw:=h2.same (aR.new (o:=.lst ((qs.map V.ref).map λ_=>V.bl true)) n1);walk_at "w";refine⟨⟨by lia,by lia,by lia,by rw[bH];lia⟩,?_⟩;rw[bH];refine aJd (λ_=>.bl true) (bV (by lia)) (λi N N' hi hN=>?_) ?_
  ·have i1:i < qs.length:=by lia
   have i2:i+1 < qs.length:=by lia
   have j1:i < ps.length:=by rw[<-h2.len];exact i1
   have j2:i+1 < ps.length:=by rw[<-h2.len];exact i2
   have e1:lT (qs.map V.ref) (1+(i:Int) - 1)=some (.ref qs[i]):=by
    rw[show 1+(i:Int) - 1=(i:Int) by lia];exact gU (by rw[nE,dM i1];rfl)
   have e2:lT (qs.map V.ref) (1+(i:Int))=some (.ref qs[i+1]):=by
    rw[show 1+(i:Int)=((i+1:Nat):Int) by lia];exact gU (by rw[nE,dM i2];rfl)
   have t1:=tw.at_ i _ _ (dM i1) (dM j1);have t2:=tw.at_ (i+1) _ _ (dM i2) (dM j2);have t3:=hg.up i _ _ (dM j1) (dM j2);walk_at "w";rw[ur t3];exact hN
  ·intro l2 n2;walk_at "w";refine Qg (bP.of aP) (λx hx=>by obtain⟨_,_,rfl⟩:=qQ.mp hx;rfl) ?_;exact k _ ((aR.new n1).trans (aR.new n2))
inductive tT  (K:W.Frag) (C:Addr) (vs:List V) (H:Hp) (Q:VK) (E:XK):Prop
 |mk:∀(x dx pl:Addr) (m:MS),(vs=[.ref x,.int m.up,.int m.down,.int m.begin_,.int m.run,.int m.rest,.int m.least,.ref pl])->(H x=some (.ins C dx []))->xW H pl m.pieces->m.Good->(∀H',cX C H' x m->cI x H H'->Q .bw H')->tT K C vs H Q E
theorem aDl(tx:Txt K mg a):bQ P w K mg base eR 5 a.nZ a.vP ana (tT K a.aW):=by
 have aG0:=aFk (P:=P) (w:=w) (base:=base) tx;have dO:=m5 (P:=P) (w:=w) (base:=base) tx;have aGc:=aJE (P:=P) (w:=w) (base:=base) tx;refine tx.iz.F.ok gE (by walk_at "l") λbq A outer s H vs Q E hr h=>?_;obtain⟨x,dx,pl,m,rfl ,hx,hp,hg,k⟩:=h;have hu:=fV hr;refine aY (aE (aK (i:=8) gE.nd (rY (bh aGc hr tx.nj (aA (aB 1) aD)) (bh aGc hr tx.nj (aA (aB 2) aD))))
  (aE (aK (i:=9) gE.nd (aOK (bh dO hr tx.br (aA (aB 3) aD)) (bh dO hr tx.br (aA (aB 4) aD)) (bh dO hr tx.br (aA (aB 5) aD)) (bh dO hr tx.br (aA (aB 6) aD))))
  (aE (bZ PassesOwn.never rfl (iY (K':=K) (by rfl) tx.fX (aA (aL bL (aL bL (aB 8) (aB 9)) (mT (bh aG0 hr tx.kr (aA (aB 7) aD)))) aD)) (bK (K':=K) (n:=2) rfl (aO (aJ (i:=10) gE.nd) (aO (aJ (i:=11) gE.nd) bJ))) (aG (bC (iB (eT (aB 11))) (aG lH) aZ)))
  (aE (dA (K':=K) (aB 0) (aB 1) rfl)
  (aE (dA (K':=K) (aB 0) (aB 2) rfl)
  (aE (dA (K':=K) (aB 0) (aB 3) rfl)
  (aE (dA (K':=K) (aB 0) (aB 4) rfl)
  (aE (dA (K':=K) (aB 0) (aB 5) rfl)
  (aE (dA (K':=K) (aB 0) (aB 6) rfl)
  (aG (dA (K':=K) (aB 0) (cF (rc:=HK K) zW (by rfl) tx.qJ oW (aA (aB 7) aD)) rfl))))))))))) ?_
 refine aT (σ:=[some (.ref x),some (.int m.up),some (.int m.down),some (.int m.begin_),some (.int m.run),some (.int m.rest),some (.int m.least),some (.ref pl),none,none,none,none]) rfl ?_;walk_at "w";refine⟨_,rfl,hg.up.1,hg.up.2,?_⟩;walk_at "w";refine⟨_,rfl,hg.down.1,hg.down.2,?_⟩;walk_at "w";intro l1 n1;walk_at "w";refine⟨_,_,rfl,.int _,?_⟩;rw[sX hg.begin_];walk_at "w";refine⟨_,_,rfl,.int _,?_⟩;rw[sX hg.run];walk_at "w";refine⟨_,_,rfl,.int _,?_⟩;rw[sX hg.rest];walk_at "w";refine⟨_,_,rfl,.int _,?_⟩;rw[sX hg.least];walk_at "w";intro l2 n2;walk_at "w";refine mR (xs:=[.bl true,.bl true]) (zs:=[.bl true,.bl true,.bl true,.bl true]) (by walk_at "hp") aP (bV (by simp)) ?_;intro l3 n3;walk_at "w";have s3:aR H (upd (upd (upd H l1 (.lst [.bl true,.bl true])) l2 (.lst [.bl true,.bl true,.bl true,.bl true])) l3 (.lst ([.bl true,.bl true] ++ [.bl true,.bl true,.bl true,.bl true]))):=((aR.new n1).trans (aR.new n2)).trans (aR.new n3)
 refine⟨pl,m.pieces,rfl,hp.same s3,hg.pieces,λH4 s4=>?_⟩;walk_at "w";intro l5 n5;walk_at "w";refine mR (xs:=[.bl true,.bl true] ++ [.bl true,.bl true,.bl true,.bl true]) (zs:=[.bl true]) (aR.new n5 _ _ (s4 _ _ aP)) aP (bV (by simp)) ?_;intro l6 n6;walk_at "w";have s6:aR H (upd (upd H4 l5 (.lst [.bl true])) l6 (.lst (([.bl true,.bl true] ++ [.bl true,.bl true,.bl true,.bl true]) ++ [.bl true]))):=(s3.trans s4).trans ((aR.new n5).trans (aR.new n6));generalize hH6:upd (upd H4 l5 (.lst [.bl true])) l6 (.lst (([.bl true,.bl true] ++ [.bl true,.bl true,.bl true,.bl true]) ++ [.bl true]))=H6 at s6 ⊢;have e6:H6 l6=some (.lst [.bl true,.bl true,.bl true,.bl true,.bl true,.bl true,.bl true]):=by rw[<-hH6,aP];rfl
 refine FK (bP.of e6) ?_;refine xG (xs:=[.bl true,.bl true,.bl true,.bl true,.bl true,.bl true,.bl true]) (λi σ' H'=>∃y z,σ'=[some (.ref x),some (.int m.up),some (.int m.down),some (.int m.begin_),some (.int m.run),some (.int m.rest),some (.int m.least),some (.ref pl),some (.ref l1),some (.ref l2),y,z]/\aR H6 H')
  ⟨_,_,rfl,aR.refl _⟩ (λi σ' H' hi ⟨y,z,e,s⟩=>bP.of (s _ _ e6)) (λi v σ' H' T hv z9q nT=>?_) (λσ' H' To=>?_)
 ·obtain⟨y,z,e,s⟩:=z9q;subst e;have ev:v=.bl true:=by
   have:=jW hv;simpa using this
  subst ev;refine cM (gZ.of aP) rfl ?_;walk_at "w";exact⟨_,_,rfl,s.trans (aR.new nT)⟩
 ·obtain⟨y,z,e,s⟩:=To;subst e;have sH:aR H H':=s6.trans s;have tf:=sH _ _ hx;have Ah:=hp.same sH;obtain⟨qs,p1,p2⟩:=Ah.ex;walk_at "w";refine iU (fs':=[("up",.int m.up)]) tf tx.bO tx.aBg (by simp[AY]) rfl ?_;walk_at "w";refine iU (fs':=[("up",.int m.up),("down",.int m.down)]) aP tx.bO tx.wH (by simp[AY]) rfl ?_;rw[i8];walk_at "w";refine iU (fs':=[("up",.int m.up),("down",.int m.down),("begin",.int m.begin_)]) aP tx.bO tx.mC (by simp[AY]) rfl ?_;rw[i8];walk_at "w";refine iU (fs':=[("up",.int m.up),("down",.int m.down),("begin",.int m.begin_),("run",.int m.run)]) aP tx.bO tx.qI (by simp[AY]) rfl ?_;rw[i8];walk_at "w";refine iU (fs':=[("up",.int m.up),("down",.int m.down),("begin",.int m.begin_),("run",.int m.run),("rest",.int m.rest)]) aP tx.bO tx.oG (by simp[AY]) rfl ?_;rw[i8];walk_at "w";refine iU (fs':=[("up",.int m.up),("down",.int m.down),("begin",.int m.begin_),("run",.int m.run),("rest",.int m.rest),("least",.int m.least)]) aP tx.bO tx.eG (by simp[AY]) rfl ?_
  rw[i8];walk_at "w";have px:pl≠x:=λz=>by rw[z,tf] at p1;cases p1
  refine Qs (ys:=qs.map V.ref) (bP.of (by rw[bA px];exact p1)) ?_;intro l9 n9;walk_at "w";have x9:x≠l9:=bG n9 aP;walk_at "w";refine iU (fs':=AY m l9) (by rw[bA x9];exact aP) tx.bO tx.eN (by simp[AY]) rfl ?_;walk_at "w";refine k _ ⟨dx,l9,aP,qs,?_,p2.len,λj q t h1 h2=>?_⟩ (λb o e nb=>?_)
  ·rw[bA (Ne.symm x9),aP]
  ·have e:=p2.at_ j q t h1 h2;have qx:q≠x:=λz=>by rw[z,tf] at e;cases e
   have q9:q≠l9:=bG n9 (by rw[bA qx];exact e);rw[bA qx,bA q9,bA qx];exact e
  ·have e1:=sH _ _ e;have b9:b≠l9:=bG n9 (by rw[bA nb];exact e1);rw[bA nb,bA b9,bA nb];exact e1
structure Ec(ps:ak)(r:Int):Prop where
 pc:∀t∈ps,1<=t.1/\Am t.1/\Am t.2
 up:∀(j:Nat) t u,ps[j]?=some t->ps[j+1]?=some u->t.2<=u.2
 top:∀t∈ps,t.2<=r
theorem Ec.nil{r:Int}:Ec [] r:=⟨λ_ h=>by simp at h,λj t u h=>by simp at h,λ_ h=>by simp at h⟩
theorem Ec.snoc{ps:ak}{r r' a:Int}(w:Ec ps r)(hr:r<=r')(h1:1<=a)(h2:Am a)(h3:Am r'):Ec (ps ++ [(a,r')]) r':=by
 refine⟨λt h=>?_,λj t u ht hu=>?_,λt h=>?_⟩
 ·rcases oa.mp h with h|h
  ·exact w.pc t h
  ·rw[ng.mp h];exact⟨h1,h2,h3⟩
 ·have qi:j+1 < (ps ++ [(a,r')]).length:=(iZ.mp hu).1;rw[iR,qf] at qi;have hj:j < ps.length:=by lia
  rw[vf hj] at ht;by_cases GJ:j+1 < ps.length
  ·rw[vf GJ] at hu;exact w.up j t u ht hu
  ·rw[vo (by lia),show j+1 - ps.length=0 by lia] at hu;cases hu;exact BG (w.top t (jW ht)) hr
 ·rcases oa.mp h with h|h
  ·exact BG (w.top t h) hr
  ·rw[ng.mp h];exact uo _
theorem wL.snoc{ss:ak}{t:ao}(h:wL H qs ss)(hl:H l=some (.lst xs))(k:cI l H H3)(hT:H3 T=some (.tup [.int t.1,.int t.2])):wL H3 (qs ++ [T]) (ss ++ [t]):=by
 refine⟨by rw[iR,iR,h.len];rfl,λj q u hq hu=>?_⟩;by_cases hj:j < qs.length
 ·rw[vf hj] at hq;rw[vf (by rw[<-h.len];exact hj)] at hu;have e:=h.at_ j q u hq hu;refine k q _ e λz=>?_;rw[z,hl] at e;cases e
 ·have qi:j < (qs ++ [T]).length:=(iZ.mp hq).1;rw[iR,qf] at qi;have e:j=qs.length:=by lia
  subst e;rw[vo (eO _),yw] at hq;rw[h.len,vo (eO _),yw] at hu;cases hq;cases hu;exact hT
theorem bB.CO{qs:ay}(h:bB H p)(e:H c=some (.lst (qs.map V.ref))):c≠p:=λz=>by
 obtain⟨d,cc,q,ms,hp,_⟩:=h.ex;rw[z,hp] at e;cases qs with
 |nil=>cases e
 |cons x xs=>cases e
theorem bB.BC{xs:List V}(h:bB H p)(e:H c=some (.lst xs))(hl:xs.length≠3):c≠p:=λz=>by
 obtain⟨d,cc,q,ms,hp,_⟩:=h.ex;rw[z,hp] at e;cases e;exact hl rfl
theorem bB.Gv{H:Hp}(h:bB H p):∃xs,H p=some (.lst xs):=by
 obtain⟨d,cc,q,ms,hp,_⟩:=h.ex;exact⟨_,hp⟩
theorem lJ(k:cI p H H')(hh:bB H' p)(n:H' c=none):H c=none:=by
 cases hc:H c with
 |none=>rfl
 |some v=>
  obtain⟨xs,e⟩:=hh.Gv;exact absurd rfl (bG n (k c v hc (λz=>bG n e z.symm)))
theorem CH{x r n B:Int}(x0:1<=x)(x1:x<=50000000000)(a:0<=r)(c:r < n)(h:50000000000*(n - 1)<=B):0<=x*r/\x*r<=B:=
 ⟨D4 (by lia) a,BG (Int.mul_le_mul x1 (show r<=n - 1 by lia) a (by lia)) h⟩
theorem aSj{x u n B:Int}(x0:1<=x)(x1:x<=50000000000)(a:0<=u)(c:u < n)(h:50000000000*n<=B):x<=x*(1+u)/\x*(1+u)<=B:=
 ⟨by have:=Int.mul_le_mul_of_nonneg_left (show 1<=1+u by lia) (show 0<=x by lia);rw[D2] at this;exact this,BG (Int.mul_le_mul x1 (show 1+u<=n by lia) (by lia) (by lia)) h⟩
theorem up1{r n:Int}(a:0<=r)(c:r < n)(n1:n<=12):(1<=1+r/\1+r<=12)/\1+r<=n:=by lia
theorem Lg{z:Int}(h:0<=z/\z<=250000000000):Am z:=⟨h.1,by have:=h.2;lia⟩
theorem J8{jb z:Int}{i:Nat}(f5:0<=jb)(f6:jb<=(i:Int)*100000000000)(g:0<=z/\z<=100000000000)(i4:i<=3):jb<=jb+z/\Am (jb+z)/\0<=jb+z/\jb+z<=((i+1:Nat):Int)*100000000000:=⟨by lia,⟨by lia,by lia⟩,by lia,by lia⟩
theorem xB{x z:Int}(x0:1<=x)(g:x<=z/\z<=150000000000):1<=z/\Am z:=⟨by lia,⟨by lia,by lia⟩⟩
inductive aBm  (K:W.Frag) (vs:List V) (H:Hp) (Q:VK) (E:XK):Prop
 |mk:∀(p b:Addr) (x y n:Int),(vs=[.ref p,.ref b,.int n])->bB H p->(H b=some (.lst [.int x,.int y]))->(1<=x)->(x<=50000000000)->(1<=y)->(y<=50000000000)->(1<=n)->(n<=12)->(∀(s:Addr) (m:MS) H',dX H' s m->m.Good->m.up<=n->m.down<=n->bB H' p->cI p H H'->H s=none->Q (.ref s) H')->aBm K vs H Q E
theorem aG2(tx:Txt K mg a):bQ P w K mg base eR 2 a.aCx a.aCy aWa (aBm K):=by
 have aS:=cS (P:=P) (w:=w) (base:=base) tx;refine tx.pd.F.ok eJ (by walk_at "l") λbq A outer s H vs Q E hr h=>?_;obtain⟨p,b,x,y,n,rfl ,hh,hb,x0,x1,y0,y1,n0,n1,k⟩:=h;have hu:=fV hr;refine aY (aE (aK (i:=3) eJ.nd (aL bL aC (bh aS hr tx.af (aA (aB 0) (aA (aB 2) aD)))))
  (aE (aK (i:=4) eJ.nd (aL bL aC (bh aS hr tx.af (aA (aB 0) (aA (aB 2) aD)))))
  (aE (aK (i:=5) eJ.nd (xK (aL bX (aH (K':=K) (aB 1) aC) (bh aS hr tx.af (aA (aB 0) (aA aC aD)))) (aL bX (aH (K':=K) (aB 1) aC) (bh aS hr tx.af (aA (aB 0) (aA aC aD)))) (aL bX (aH (K':=K) (aB 1) aC) (bh aS hr tx.af (aA (aB 0) (aA aC aD))))))
  (aE (aK (i:=6) eJ.nd (aL bX (aH (K':=K) (aB 1) aC) (bh aS hr tx.af (aA (aB 0) (aA aC aD)))))
  (aE (aK (i:=7) eJ.nd aC)
  (aE (aK (i:=8) eJ.nd (eM aD))
  (aE (bZ PassesOwn.never rfl (cP (by rfl) tx.eE (aA (bh aS hr tx.af (aA (aB 0) (aA aC aD))) aD)) (aJ (i:=9) eJ.nd) (aE (nB (i:=7) eJ.nd rfl (Or.inl rfl) (aL bX (aH (K':=K) (aB 1) aC) (bh aS hr tx.af (aA (aB 0) (aA aC aD)))) FU)
  (aG (dC (dW (K':=K) (aB 8) (aA (eI (aL bX (aH (K':=K) (aB 1) aC) (aL bL aC (bh aS hr tx.af (aA (aB 0) (aA aC aD))))) (aB 7)) aD))))))
  (aG (aM (aOM (aB 3) (aB 4) (aH (K':=K) (aB 5) aC) (aH (K':=K) (aB 5) aC) (aH (K':=K) (aB 5) aC) (aB 6) (aB 8))))))))))) ?_
 have bp:b≠p:=hh.BC hb (by simp);refine aT (σ:=[some (.ref p),some (.ref b),some (.int n),none,none,none,none,none,none,none]) rfl ?_;walk_at "w";refine⟨p,_,rfl,hh,by lia,by lia,λr1 H1 a1 c1 h1 k1 _=>?_⟩;have N2:=k1 _ _ hb bp;walk_at "w";refine⟨p,_,rfl,h1,by lia,by lia,λr2 H2 a2 c2 h2 k2 _=>?_⟩;have WC:=k2 _ _ N2 bp;walk_at "w";refine⟨p,_,rfl,h2,by decide,by decide,λr3 H3 a3 c3 h3 k3 _=>?_⟩;have N1:=k3 _ _ WC bp;walk_at "w";refine⟨p,_,rfl,h3,by decide,by decide,λr4 H4 a4 c4 h4 k4 _=>?_⟩;have N0:=k4 _ _ N1 bp;walk_at "w";refine⟨p,_,rfl,h4,by decide,by decide,λr5 H5 a5 c5 h5 k5 _=>?_⟩;have NZ:=k5 _ _ N0 bp;walk_at "w";intro l6 n6;walk_at "w";have NY:=aR.new (o:=.lst [.int (y*r3),.int (y*r4),.int (y*r5)]) n6 _ _ NZ;have h6:=h5.same (aR.new (o:=.lst [.int (y*r3),.int (y*r4),.int (y*r5)]) n6);walk_at "w";refine⟨p,_,rfl,h6,by decide,by decide,λr7 H7 a7 c7 h7 k7 _=>?_⟩;have NW:=k7 _ _ NY bp;have Kj:l6≠p:=λz=>by obtain⟨_,e⟩:=h5.Gv;exact bG n6 e z.symm
 have e7:H7 l6=some (.lst [.int (y*r3),.int (y*r4),.int (y*r5)]):=k7 _ _ aP Kj;have V0:cI p H H7:=k1.trans (k2.trans (k3.trans (k4.trans (k5.trans ((aR.new n6).keep.trans k7)))));have g3:0<=y*r3/\y*r3<=250000000000:=CH y0 y1 a3 c3 (by decide);have g4:0<=y*r4/\y*r4<=250000000000:=CH y0 y1 a4 c4 (by decide);have g5:0<=y*r5/\y*r5<=250000000000:=CH y0 y1 a5 c5 (by decide);have g7:0<=x*r7/\x*r7<=250000000000:=CH x0 x1 a7 c7 (by decide);walk_at "w";intro l8 n8;walk_at "w";have h8:=h7.same (aR.new (o:=.lst []) n8);walk_at "w";refine⟨p,_,rfl,h8,by decide,by decide,λr9 H9 a9 c9 h9 k9 _=>?_⟩;have l8p:l8≠p:=λz=>by obtain⟨_,e⟩:=h7.Gv;exact bG n8 e z.symm
 have e9:H9 l8=some (.lst []):=k9 _ _ aP l8p;have A8:=k9 _ _ (aR.new n8 _ _ NW) bp;have e69:H9 l6=some (.lst [.int (y*r3),.int (y*r4),.int (y*r5)]):=k9 _ _ (aR.new n8 _ _ e7) Kj;have kk9:cI p H H9:=V0.trans ((aR.new n8).keep.trans k9);have n8H:H l8=none:=lJ V0 h7 n8;have n6H:H l6=none:=lJ (k1.trans (k2.trans (k3.trans (k4.trans k5)))) h5 n6;walk_at "w";refine⟨by lia,by lia,?_⟩;refine lD (λi σ' H'=>∃qs ps jb x9,σ'=[some (.ref p),some (.ref b),some (.int n),some (.int (1+r1)),some (.int (1+r2)),some (.ref l6),some (.int (x*r7)),some (.int jb),some (.ref l8),x9]/\H' l8=some (.lst (qs.map V.ref))/\wL H' qs ps/\ps.length=i/\Ec ps jb/\
   0<=jb/\jb<=(i:Int)*100000000000/\bB H' p/\cI p H H'/\H' b=some (.lst [.int x,.int y])/\H' l6=some (.lst [.int (y*r3),.int (y*r4),.int (y*r5)]))
  ⟨[],[],0,_,rfl,e9,⟨rfl,λj q t h=>by simp at h⟩,rfl,Ec.nil,by lia,by lia,h9,kk9,A8,e69⟩
  (λi σ' H' hi Tn=>?_) (λσ' H' Tj=>?_)
 ·obtain⟨qs,ps,jb,x9,e,f1,f2,f3,f4,f5,f6,f7,f8,f9,f0⟩:=Tn;subst e;have i4:i<=3:=by lia
  walk_at "w";refine FQ rfl ?_;walk_at "w";refine⟨p,_,rfl,f7,by decide,by decide,λu1 J1 v1 w1 q1 t1 _=>?_⟩;have g1:0<=y*u1/\y*u1<=100000000000:=CH y0 y1 v1 w1 (by decide);have Nd:l8≠p:=f7.CO f1;have d1:=t1 _ _ f1 Nd;have d2:=f2.keep f7.FD t1;have d3:=t1 _ _ f9 bp;have d4:=t1 _ _ f0 Kj;walk_at "w";refine iT (bP.of d1) ?_;walk_at "w";refine⟨p,_,rfl,q1,by decide,by decide,λu2 J2 v2 w2 q2 t2 _=>?_⟩;have g2:x<=x*(1+u2)/\x*(1+u2)<=150000000000:=aSj x0 x1 v2 w2 (by decide);have Fs:=t2 _ _ d1 Nd;have dd2:=d2.keep q1.FD t2;have Le:=t2 _ _ d3 bp;have Ld:=t2 _ _ d4 Kj;walk_at "w";intro T nT;walk_at "w";refine j0 (xs:=qs.map V.ref) (aR.new nT _ _ Fs) (rQ (by rw[bH,f2.len];lia:(qs.map V.ref).length < 1000) (bV (by simp))) ?_;walk_at "w";have KG:T≠l8:=Ne.symm (bG nT Fs);have kz:cI l8 J2 (upd (upd J2 T (.tup [.int (x*(1+u2)),.int (jb+y*u1)])) l8 (.lst (qs.map V.ref ++ [.ref T]))):=(aR.new nT).keep.trans cI.upd
  refine⟨qs ++ [T],ps ++ [(x*(1+u2),jb+y*u1)],_,_,rfl,?_,dd2.snoc Fs kz (by rw[bA KG,aP]),by rw[iR,f3];rfl,f4.snoc (J8 f5 f6 g1 i4).1 (xB x0 g2).1 (xB x0 g2).2 (J8 f5 f6 g1 i4).2.1,(J8 f5 f6 g1 i4).2.2.1,(J8 f5 f6 g1 i4).2.2.2,?_,λc o hc NT=>?_,?_,?_⟩
  ·rw[aP,gR];rfl
  ·obtain⟨dd,cc,q,ms,hp,hq,cq,Ag⟩:=q2.ex;refine⟨⟨dd,cc,q,ms,kz _ _ hp (Ne.symm Nd),kz _ _ hq (λz=>?_),cq,Ag⟩⟩;rw[z,Fs] at hq;cases qs with
   |nil=>cases ms with
    |nil=>exact cq rfl
    |cons _ _=>cases hq
   |cons _ _=>cases ms with
    |nil=>exact cq rfl
    |cons _ _=>cases hq
  ·exact kz _ _ (t2 _ _ (t1 _ _ (f8 _ _ hc NT) NT) NT) (bG n8H hc)
  ·exact kz _ _ Le (λz=>by rw[z,Fs] at Le;cases qs with
    |nil=>cases Le
    |cons _ _=>cases Le)
  ·exact kz _ _ Ld (λz=>by rw[z,Fs] at Ld;cases qs with
    |nil=>cases Ld
    |cons _ _=>cases Ld)
 ·obtain⟨qs,ps,jb,x9,e,f1,f2,f3,f4,f5,f6,f7,f8,f9,f0⟩:=Tj;subst e;walk_at "w";intro s ns;walk_at "w";have Kv:r9.toNat<=4:=by lia
  refine k s ⟨1+r1,1+r2,y*r3,y*r4,y*r5,x*r7,ps⟩ _ ⟨l8,aP,qs,aR.new ns _ _ f1,f2.same (aR.new ns)⟩ ⟨(up1 a1 c1 n1).1,(up1 a2 c2 n1).1,Lg g3,Lg g4,Lg g5,Lg g7,⟨by show ps.length<=4;lia,f4.pc,f4.up⟩⟩ (up1 a1 c1 n1).2 (up1 a2 c2 n1).2 (f7.same (aR.new ns)) (f8.trans (aR.new ns).keep) (lJ f8 f7 ns)
inductive tU  (K:W.Frag) (C:Addr) (vs:List V) (H:Hp) (Q:VK) (E:XK):Prop
 |mk:∀(s:Addr) (m:MS),(vs=[.ref s])->dX H s m->m.Good->(∀x H',cX C H' x m->aR H H'->H x=none->Q (.ref x) H')->tU K C vs H Q E
theorem aDm(tx:Txt K mg a):bQ P w K mg base eR 7 a.vQ a.vR awa (tU K a.aW):=by
 have aEy:=aDl (P:=P) (w:=w) (base:=base) tx;refine tx.iw.F.ok aDi (by walk_at "l") λbq A outer s H vs Q E hr h=>?_;obtain⟨s,m,rfl ,hs,hg,k⟩:=h;have hu:=fV hr;refine aY (aG (aM (u9 tx.aLt (aEy) (hr.mono (by decide)) (by rfl) tx.aGa tx.iz.b .nil aU (aA (aH (K':=K) (aB 0) aC) (aA (aH (K':=K) (aB 0) aC) (aA (aH (K':=K) (aB 0) aC) (aA (aH (K':=K) (aB 0) aC) (aA (aH (K':=K) (aB 0) aC) (aA (aH (K':=K) (aB 0) aC) (aA (cF (rc:=HK K) zW (by rfl) tx.qJ oW (aA (aH (K':=K) (aB 0) aC) aD)) aD)))))))))) ?_;obtain⟨pl,h1,h2⟩:=hs.ex;obtain⟨qs,h3,h4⟩:=h2.ex;refine aT (σ:=[some (.ref s)]) rfl ?_;walk_at "w";refine Qs (bP.of h3) ?_;intro l n;walk_at "w";intro x dx nx nd hd;have sx:aR H (upd (upd (upd H l (.lst (qs.map V.ref))) dx (.own x)) x (.ins a.aW dx [])):=λb o e=>by
  have e1:=aR.new (o:=.lst (qs.map V.ref)) n _ _ e;rw[bA (bG nx e1),bA (bG nd e1)];exact e1
 have lx:l≠x:=bG nx aP;have ld:l≠dx:=bG nd aP;refine⟨x,dx,l,m,rfl,aP,⟨qs,by rw[bA lx,bA ld,aP],h4.same sx⟩,hg,λH' hM kx=>⟨rfl,?_⟩⟩;have VM:H x=none:=(aR.new n).free nx;exact k x H' hM (λb o e=>kx _ _ (sx _ _ e) (bG VM e)) VM
theorem bB.DW(hh:bB H p)(n:H c=none):c≠p:=λz=>by
 obtain⟨xs,e⟩:=hh.Gv;exact bG n e z.symm
def xl:ak->Int
 |[]=>0
 |t::ps=>t.1+xl ps
def cst:ak->Int->Int
 |[],_=>0
 |t::ps,left=>max 0 (min left t.1)*t.2+cst ps (left - max 0 (min left t.1))
def gn(p:Int):ak->Int
 |[]=>0
 |t::ps=>t.1*max (p - t.2) 0+gn p ps
def jq(p:Int):ak->Int
 |[]=>0
 |t::ps=>(if t.2 < p then t.1 else 0)+jq p ps
def uf(p:Int):ak->Int
 |[]=>0
 |t::ps=>(if t.2=p then t.1 else 0)+uf p ps
def Up:ak->Prop
 |[]=>True
 |t::ps=>1<=t.1/\(∀u∈ps,t.2<=u.2)/\Up ps
theorem YB{p:Int}:∀{ps:ak},Up ps->0<=gn p ps
 |[],_=>uo _
 |t::ps,h=>by
  have:=YB (p:=p) h.2.2;have h1:0<=t.1*max (p - t.2) 0:=D4 (by have:=h.1;lia) (by lia);show 0<=t.1*max (p - t.2) 0+gn p ps;lia
theorem Lp{p:Int}:∀{ps:ak},Up ps->0<=jq p ps/\0<=uf p ps/\jq p ps+uf p ps<=xl ps
 |[],_=>⟨uo _,uo _,uo _⟩
 |t::ps,h=>by
  have:=Lp (p:=p) h.2.2;have h0:=h.1;show 0<=(if t.2 < p then t.1 else 0)+jq p ps/\0<=(if t.2=p then t.1 else 0)+uf p ps/\((if t.2 < p then t.1 else 0)+jq p ps)+((if t.2=p then t.1 else 0)+uf p ps)<=t.1+xl ps;split <;> split <;> lia
theorem Ql{p:Int}:∀{ps:ak},(∀u∈ps,p<=u.2)->gn p ps=0/\jq p ps=0
 |[],_=>⟨rfl,rfl⟩
 |t::ps,h=>by
  have ih:=Ql (p:=p) (ps:=ps) (λu hu=>h u (xS _ hu));have h1:=h t (qz ..);constructor
  ·show t.1*max (p - t.2) 0+gn p ps=0;rw[show max (p - t.2) 0=0 by lia,Bi,ih.1];rfl
  ·show(if t.2 < p then t.1 else 0)+jq p ps=0;rw[cD (by lia),ih.2];rfl
theorem Pb{p:Int}:∀{ps:ak},(∀u∈ps,p < u.2)->uf p ps=0
 |[],_=>rfl
 |t::ps,h=>by
  have ih:=Pb (p:=p) (ps:=ps) (λu hu=>h u (xS _ hu));have h1:=h t (qz ..);show(if t.2=p then t.1 else 0)+uf p ps=0;rw[cD (by lia),ih];rfl
theorem ZV:∀(ps:ak),cst ps 0=0
 |[]=>rfl
 |t::ps=>by
  show max 0 (min 0 t.1)*t.2+cst ps (0 - max 0 (min 0 t.1))=0;rw[show max 0 (min 0 t.1)=0 by lia,Int.zero_mul,Int.sub_zero,ZV ps];rfl
theorem best{p:Int}:∀{ps:ak}{left:Int},Up ps->0<=left->left<=xl ps->
  p*left - cst ps left<=gn p ps/\(p*left - cst ps left=gn p ps↔jq p ps<=left/\left<=jq p ps+uf p ps)
 |[],left,_,h0,h1=>by
  have e:left=0:=by have:left<=0:=h1;lia
  subst e;show p*0 - 0<=0/\(p*0 - 0=0↔(0:Int)<=0/\(0:Int)<=0+0)
  simp
 |t::ps,left,h,h0,h1=>by
  obtain⟨a,r⟩:=t;obtain⟨ha,hr,Nt⟩:=h
  replace ha:1<=a:=ha
  replace hr:∀u∈ps,r<=u.2:=hr
  replace h1:left<=a+xl ps:=h1
  have gp:=YB (p:=p) Nt;have lp:=Lp (p:=p) Nt;show p*left - (max 0 (min left a)*r+cst ps (left - max 0 (min left a)))<=a*max (p - r) 0+gn p ps/\
   (p*left - (max 0 (min left a)*r+cst ps (left - max 0 (min left a)))=a*max (p - r) 0+gn p ps↔(if r < p then a else 0)+jq p ps<=left/\left<=((if r < p then a else 0)+jq p ps)+((if r=p then a else 0)+uf p ps))
  by_cases GH:left < a
  ·rw[show max 0 (min left a)=left by lia,Int.sub_self,ZV,zu,show p*left - left*r=left*(p - r) by rw[Int.mul_comm p left,<-CP]];by_cases h2:r < p
   ·have e1:left*(p - r) < a*(p - r):=Int.mul_lt_mul_of_pos_right GH (by lia);rw[show max (p - r) 0=p - r by lia,cT h2,cD (by lia)];lia
   ·have hz:=Ql (p:=p) (ps:=ps) (λu hu=>by have:=hr u hu;lia);rw[show max (p - r) 0=0 by lia,Bi,hz.1,hz.2,cD h2];by_cases h3:r=p
    ·rw[cT h3,show p - r=0 by lia,Bi];lia
    ·rw[cD h3,Pb (p:=p) (ps:=ps) (λu hu=>by have:=hr u hu;lia)];by_cases h4:left=0
     ·subst h4;simp
     ·have e1:left*(p - r) < 0:=Int.mul_neg_of_pos_of_neg (by lia) (by lia);lia
  ·have ih:=best (p:=p) (ps:=ps) (left:=left - a) Nt (by lia) (by lia);rw[show max 0 (min left a)=a by lia];have e0:p*left - (a*r+cst ps (left - a))=a*(p - r)+(p*(left - a) - cst ps (left - a)):=by
    rw[CP,CP,Int.mul_comm a p];lia
   rw[e0];by_cases h2:r < p
   ·rw[show max (p - r) 0=p - r by lia,cT h2,cD (by lia)];generalize a*(p - r)=w;obtain⟨i1,i2⟩:=ih;refine⟨by lia,?_⟩;constructor
    ·intro h;have:=i2.mp (by lia);lia
    ·intro h;have:=i2.mpr (by lia);lia
   ·have hz:=Ql (p:=p) (ps:=ps) (λu hu=>by have:=hr u hu;lia);rw[hz.1,hz.2] at ih;obtain⟨i1,i2⟩:=ih;rw[show max (p - r) 0=0 by lia,Bi,hz.1,hz.2,cD h2];by_cases h3:r=p
    ·rw[cT h3,show p - r=0 by lia,Bi];refine⟨by lia,?_⟩;constructor
     ·intro h;have:=i2.mp (by lia);lia
     ·intro h;have:=i2.mpr (by lia);lia
    ·have e1:a*(p - r) < 0:=Int.mul_neg_of_pos_of_neg (by lia) (by lia);rw[cD h3,Pb (p:=p) (ps:=ps) (λu hu=>by have:=hr u hu;lia)];lia
theorem YS:∀{ps:ak},(∀t∈ps,1<=t.1)->(∀(j:Nat) t u,ps[j]?=some t->ps[j+1]?=some u->t.2<=u.2)->Up ps
 |[],_,_=>trivial
 |t::ps,h1,h2=>by
  have hu:Up ps:=YS (λu hu=>h1 u (xS _ hu)) (λj t u a b=>h2 (j+1) t u a b);refine⟨h1 t (qz ..),?_,hu⟩;cases ps with
  |nil=>intro u hu;cases hu
  |cons v ps=>
   have hv:t.2<=v.2:=h2 0 t v rfl rfl;intro u hm;rcases lR.mp hm with rfl|hm
   ·exact hv
   ·exact BG hv (hu.2.1 u hm)
theorem LI.MF{ps:ak}(h:LI ps):Up ps:=YS (λt ht=>(h.pc t ht).1) h.up
theorem Y1{p:Int}:∀(a:ak) (t:ao),gn p (a ++ [t])=gn p a+t.1*max (p - t.2) 0
 |[],t=>by show t.1*max (p - t.2) 0+0=0+t.1*max (p - t.2) 0;lia
 |u::a,t=>by
  show u.1*max (p - u.2) 0+gn p (a ++ [t])=u.1*max (p - u.2) 0+gn p a+t.1*max (p - t.2) 0;rw[Y1 a t];lia
theorem P0{p:Int}:∀(ps:ak),List.sum (ps.filterMap λt=>if t.2 < p then some t.1 else none)=jq p ps
 |[]=>rfl
 |t::ps=>by
  rw[CZ];show _=(if t.2 < p then t.1 else 0)+jq p ps;by_cases h:t.2 < p
  ·rw[cT h,cT h];show List.sum (t.1::_)=_;rw[xy,P0 ps]
  ·rw[cD h,cD h];show List.sum _=_;rw[P0 ps];lia
theorem PZ{p:Int}:∀(ps:ak),List.sum (ps.filterMap λt=>if t.2=p then some t.1 else none)=uf p ps
 |[]=>rfl
 |t::ps=>by
  rw[CZ];show _=(if t.2=p then t.1 else 0)+uf p ps;by_cases h:t.2=p
  ·rw[cT h,cT h];show List.sum (t.1::_)=_;rw[xy,PZ ps]
  ·rw[cD h,cD h];show List.sum _=_;rw[PZ ps];lia
theorem PY:∀(ps:ak),List.sum (ps.filterMap λt=>some t.1)=xl ps
 |[]=>rfl
 |t::ps=>by
  rw[CZ];show List.sum (t.1::_)=t.1+xl ps;rw[xy,PY ps]
theorem aRm{ps:ak}(h:∀t∈ps,Am t.1):0<=xl ps/\xl ps<=ps.length*1000000000000:=by
 induction ps with
 |nil=>exact⟨uo _,uo _⟩
 |cons t ps ih=>
  have i:=ih λu hu=>h u (xS _ hu);have j:=h t (qz ..);obtain⟨j1,j2⟩:=j;refine⟨?_,?_⟩
  ·show 0<=t.1+xl ps;lia
  ·show t.1+xl ps<=_;rw[mv];push_cast;lia
theorem L6{H:Hp}{qs:ay}{ps:ak}{g:TG}{R:List V->Hp->Prop}(f:ao->Option Int)(h1:H pl=some (.lst (qs.map V.ref)))(h2:wL H qs ps)(hz:ps.length<=4)(hs:∀q t (N:V->Hp->Prop) (N':Hp->Prop),t∈ps->H q=some (.tup [.int t.1,.int t.2])->(∀y,f t=some y->N (.int y) H)->(f t=none->N' H)->g (.ref q) σ₀ H λσ2 H2=>tt σ2 H2 λb H3=>if b=true then te σ2 H3 λy H4=>N y H4 else N' H3)(hd:R ((ps.filterMap f).map V.int) H):lU (yh K pl) σ₀ g tt te R H:=by
 have Nz:qs.length<=4:=by rw[h2.len];exact hz
 refine dF (xs:=qs.map V.ref) (λi ys H'=>H'=H/\ys=((ps.take i).filterMap f).map V.int) ⟨rfl,by simp⟩ (bV (by rw[bH];lia)) (λi ys H' hi Ti=>?_) (λi x ys H' hx Tg=>?_) (λys H' Tf=>?_)
 ·obtain⟨e1,e2⟩:=Ti;subst e1 e2;refine⟨bP.of h1,?_⟩;rw[bH];exact vm (List.length_filterMap_le ..) (by rw[og];lia)
 ·obtain⟨e1,e2⟩:=Tg;subst e1 e2;rw[nE] at hx;cases hq:qs[i]? with
  |none=>rw[hq] at hx;cases hx
  |some q=>
   rw[hq] at hx;cases hx;have li:i < ps.length:=by rw[<-h2.len];exact(iZ.mp hq).1
   have ht:ps[i]?=some ps[i]:=dM li;have e:=h2.at_ i q _ hq ht;have hm:=uu li;generalize ps[i]=t at ht e hm;refine hs q t (λy H4=>H4=H'/\((ps.take i).filterMap f).map V.int ++ [y]=((ps.take (i+1)).filterMap f).map V.int) (λH3=>H3=H'/\((ps.take i).filterMap f).map V.int=((ps.take (i+1)).filterMap f).map V.int) hm e (λy hy=>⟨rfl,?_⟩) (λhy=>⟨rfl,?_⟩)
   ·rw[BK,ht,List.filterMap_append,gR];simp[hy]
   ·rw[BK,ht,List.filterMap_append,gR];simp[hy]
 ·obtain⟨e1,e2⟩:=Tf;subst e1 e2;rw[bH,h2.len,mq];exact hd
inductive tV  (K:W.Frag) (C:Addr) (vs:List V) (H:Hp) (Q:VK) (E:XK):Prop
 |mk:∀(x:Addr) (m:MS) (pr:Int),(vs=[.ref x,.int pr])->cX C H x m->m.Good->(0<=pr)->(pr<=1000000000001)->(Q (.int (pr*m.least+gn pr m.pieces)) H)->tV K C vs H Q E
theorem aDn(tx:Txt K mg a):bQ P w K mg base eR 1 a.oA a.vS a6a (tV K a.aW):=by
 refine tx.ja.F.ok gF (by walk_at "l") λbq A outer s H vs Q E hr h=>?_;obtain⟨x,m,pr,rfl ,hm,hg,p0,p1,k⟩:=h;have hu:=fV hr;refine aY (aE (aK (i:=2) gF.nd (aL bX (aB 1) (a8 (K':=K) (aB 0) rfl)))
  (aE (bZ PassesOwn.never rfl (bI (K':=K) (a8 (K':=K) (aB 0) rfl)) (bK (K':=K) (n:=2) rfl (aO (aJ (i:=3) gF.nd) (aO (aJ (i:=4) gF.nd) bJ))) (aG (nB (i:=2) gF.nd rfl (Or.inl rfl) (aL bX (aB 3) (aN (fN rfl) (by rfl) tx.mM jC (aA (aL dS (aB 1) (aB 4)) (aA aC aD)))) FU)))
  (aG (aM (aB 2))))) ?_
 obtain⟨dx,pl,hx,hp⟩:=hm.ex;obtain⟨qs,h1,h2⟩:=hp.ex;refine aT (σ:=[some (.ref x),some (.int pr),none,none,none]) rfl ?_;walk_at "w";refine cE hx tx.bO tx.eG rfl ?_;walk_at "w";refine cE hx tx.bO tx.eN rfl ?_;refine fO (bP.of h1) ?_;refine xE (xs:=qs.map V.ref) (λi σ' H'=>H'=H/\∃y z,σ'=[some (.ref x),some (.int pr),some (.int (pr*m.least+gn pr (m.pieces.take i))),y,z]) ⟨rfl,_,_,by rw[show gn pr (m.pieces.take 0)=0 by simp[gn],zu]⟩ (λi σ' H' hi ⟨e1,y,z,e⟩=>by subst e1;exact bP.of h1) (λi v σ' H' hv Td=>?_) (λσ' H' Tc=>?_)
 ·obtain⟨e1,y,z,e⟩:=Td;subst e1 e;rw[nE] at hv;cases hq:qs[i]? with
  |none=>rw[hq] at hv;cases hv
  |some q=>
   rw[hq] at hv;cases hv;have li:i < m.pieces.length:=by rw[<-h2.len];exact(iZ.mp hq).1
   have ht:m.pieces[i]?=some m.pieces[i]:=dM li;have e:=h2.at_ i q _ hq ht;obtain⟨z1,⟨z2,z3⟩,z4,z5⟩:=hg.pieces.pc _ (uu li);generalize m.pieces[i]=t at ht e z1 z2 z3 z4 z5;refine cM (gZ.of e) rfl ?_;walk_at "w";refine FQ rfl ?_;walk_at "w";refine⟨rfl,some (.int t.1),some (.int t.2),?_⟩;rw[BK,ht];show _=[some (V.ref x),some (V.int pr),some (V.int (pr*m.least+gn pr (m.pieces.take i ++ [t]))),_,_]
   rw[Y1,Int.add_assoc];rfl
 ·obtain⟨e1,y,z,e⟩:=Tc;subst e1 e;walk_at "w";rw[bH,h2.len,mq];exact k
inductive oK  (K:W.Frag) (C:Addr) (vs:List V) (H:Hp) (Q:VK) (E:XK):Prop
 |mk:∀(x:Addr) (m:MS) (pr:Int),(vs=[.ref x,.int pr])->cX C H x m->m.Good->(∀T H',aR H H'->H' T=some (.tup [.int (m.least+jq pr m.pieces),.int (m.least+jq pr m.pieces+uf pr m.pieces)])->Q (.ref T) H')->oK K C vs H Q E
theorem aAj(tx:Txt K mg a):bQ P w K mg base eR 1 a.jM a.pH a6a (oK K a.aW):=by
 refine tx.ff.F.ok iV (by walk_at "l") λbq A outer s H vs Q E hr h=>?_;obtain⟨x,m,pr,rfl ,hm,hg,k⟩:=h;have hu:=fV hr;refine aY (aE (aK (i:=2) iV.nd (aN (rc:=yt K) (fP rfl) (by rfl) tx.mN jD (aA (bR (k:=1) (idx:=[1]) (N:=bIa) (bY (sc:=aI eZ) (NX:=bya) rfl rfl rfl (by decide +kernel)) rfl (bI (K':=K) (a8 (K':=K) (aB 0) rfl)) (λ_ _ _ _=>(aJ (i:=0) (show(bIa:ah).Nodup by decide +kernel))) (cJ (by decide)) (λ_ _ _ _=>(hU (aV Hu (aH (K':=K) (aB 0) aC) (aB 1) (bD _)))) (λ_ _ _ _=>(aH (K':=K) (aB 0) aC))) aD)))
  (aE (aK (i:=3) iV.nd (aN (rc:=yt K) (fP rfl) (by rfl) tx.mN jD (aA (bR (k:=1) (idx:=[1]) (N:=bIa) (bY (sc:=aI eZ) (NX:=bya) rfl rfl rfl (by decide +kernel)) rfl (bI (K':=K) (a8 (K':=K) (aB 0) rfl)) (λ_ _ _ _=>(aJ (i:=0) (show(bIa:ah).Nodup by decide +kernel))) (cJ (by decide)) (λ_ _ _ _=>(hU (aV (r:=iJ K) (cZ hu) (aH (K':=K) (aB 0) aC) (aB 1) (bD _)))) (λ_ _ _ _=>(aH (K':=K) (aB 0) aC))) aD)))
  (aG (aM (eI (aL bL (a8 (K':=K) (aB 0) rfl) (aB 2)) (aL bL (aL bL (a8 (K':=K) (aB 0) rfl) (aB 2)) (aB 3))))))) ?_
 obtain⟨dx,pl,hx,hp⟩:=hm.ex;obtain⟨qs,h1,h2⟩:=hp.ex;refine aT (σ:=[some (.ref x),some (.int pr),none,none]) rfl ?_;walk_at "w";refine cE hx tx.bO tx.eN rfl ?_;refine fO (bP.of h1) ?_;refine L6 (λt=>if t.2 < pr then some t.1 else none) h1 h2 hg.pieces.len (λq t N N' hm hq hN GR=>?_) ?_
 ·walk_at "w";refine cB (λh=>?_) (λh=>?_)
  ·walk_at "w";exact hN _ (cT h)
  ·exact GR (cD h)
 intro l1 n1;walk_at "w";refine nG (bP.of aP) ?_;rw[P0];have s1:=aR.new (o:=.lst ((m.pieces.filterMap λt=>if t.2 < pr then some t.1 else none).map V.int)) n1;generalize upd H l1 (.lst ((m.pieces.filterMap λt=>if t.2 < pr then some t.1 else none).map V.int))=H1 at s1 ⊢;have E2:=s1 _ _ hx;have DN:=s1 _ _ h1;have h21:=h2.same s1;walk_at "w";refine cE E2 tx.bO tx.eN rfl ?_;refine fO (bP.of DN) ?_;refine L6 (λt=>if t.2=pr then some t.1 else none) DN h21 hg.pieces.len (λq t N N' hm hq hN GR=>?_) ?_
 ·walk_at "w";refine cB (λh=>?_) (λh=>?_)
  ·walk_at "w";exact hN _ (cT h)
  ·exact GR (cD h)
 intro l2 n2;walk_at "w";refine nG (bP.of aP) ?_;rw[PZ];have s2:=aR.new (o:=.lst ((m.pieces.filterMap λt=>if t.2=pr then some t.1 else none).map V.int)) n2;generalize upd H1 l2 (.lst ((m.pieces.filterMap λt=>if t.2=pr then some t.1 else none).map V.int))=H2 at s2 ⊢;have Bq:=s2 _ _ E2;walk_at "w";refine cE Bq tx.bO tx.eG rfl ?_;walk_at "w";refine cE Bq tx.bO tx.eG rfl ?_;walk_at "w";intro T nT;walk_at "w";exact k T _ (s1.trans (s2.trans (aR.new nT))) aP
inductive aGd  (K:W.Frag) (vs:List V) (H:Hp) (Q:VK) (E:XK):Prop
 |mk:∀(v:V) (t:Addr) (o d on:Int),(vs=[v,.ref t,.int on])->(H t=some (.tup [.int o,.int d]))->(Q (.bl (decide (o=on) || decide (d=0))) H)->aGd K vs H Q E
theorem xM(tx:Txt K mg a):bQ P w K mg base eR 1 a.ZY a.ZX gz (aGd K):=by
 refine tx.ig.F.ok aLs (by walk_at "l") λbq A outer s H vs Q E hr h=>?_;obtain⟨v,t,o,d,on,rfl ,ht,k⟩:=h;have hu:=fV hr;refine aY (aG (aM (aH2 (hJ (r:=iJ K) (cZ hu) (aH (K':=K) (aB 1) aC) (aB 2) (bD _)) (j8 (hJ (r:=iJ K) (cZ hu) (aH (K':=K) (aB 1) aC) aC (bD _)))))) ?_;refine aT (σ:=[some v,some (.ref t),some (.int on)]) rfl ?_;walk_at "w";refine cB (λh=>?_) (λh=>?_)
 ·rw[ur h,Bool.true_or] at k;exact k
 ·rw[yb h,Bool.false_or] at k;walk_at "w";exact k
def iN(m:MS)(o d on:Int):ao:=if o=on then (on,max (d - 1) 0) else if on=1 then (1,m.up - 1) else (0,m.down - 1)
inductive wN  (K:W.Frag) (C:Addr) (vs:List V) (H:Hp) (Q:VK) (E:XK):Prop
 |mk:∀(q:Addr) (m:MS) (t:Addr) (o d on:Int),(vs=[.ref q,.ref t,.int on])->cX C H q m->(H t=some (.tup [.int o,.int d]))->((o=on\/d=0))->(∀T H',aR H H'->H T=none->H' T=some (.tup [.int (iN m o d on).1,.int (iN m o d on).2])->Q (.ref T) H')->wN K C vs H Q E
theorem jP(tx:Txt K mg a):bQ P w K mg base eR 2 a.yF a.yG gz (wN K a.aW):=by
 have oM:=xM (P:=P) (w:=w) (base:=base) tx;refine tx.cv.F.ok aD5 (by walk_at "l") λbq A outer s H vs Q E hr h=>?_;obtain⟨q,m,t,o,d,on,rfl ,hm,ht,cz,k⟩:=h;have hu:=fV hr;refine aY (aE (bC (iB (eT (bh oM hr tx.ig (aA (aB 0) (aA (aB 1) (aA (aB 2) aD)))))) (aG lH) aZ)
  (aE (bC (aV (r:=iJ K) (cZ hu) (aH (K':=K) (aB 1) aC) (aB 2) (bD _)) (aG (aM (eI (aB 2) (aN (fN rfl) (by rfl) tx.mM jC (aA (aL dS (aH (K':=K) (aB 1) aC) aC) (aA aC aD)))))) aZ)
  (aE (bC (aV (r:=iJ K) (cZ hu) (aB 2) aC (bD _)) (aG (aM (eI aC (aL dS (a8 (K':=K) (aB 0) rfl) aC)))) aZ)
  (aG (aM (eI aC (aL dS (a8 (K':=K) (aB 0) rfl) aC))))))) ?_
 obtain⟨dx,pl,hq,_⟩:=hm.ex;refine aT (σ:=[some (.ref q),some (.ref t),some (.int on)]) rfl ?_;walk_at "w";refine⟨_,_,_,_,_,rfl,ht,?_⟩;walk_at "w";rw[show(decide (o=on) || decide (d=0))=true by rcases cz with h|h <;> simp[h]];walk_at "w";unfold iN at k;refine cB (λh=>?_) (λh=>?_)
 ·rw[cT h] at k;walk_at "w";intro T nT;walk_at "w";exact k _ _ (aR.new nT) nT aP
 ·rw[cD h] at k;walk_at "w";refine cB (λh1=>?_) (λh1=>?_)
  ·rw[cT h1] at k;walk_at "w";refine cE hq tx.bO tx.aBg rfl ?_;walk_at "w";intro T nT;walk_at "w";exact k _ _ (aR.new nT) nT aP
  ·rw[cD h1] at k;walk_at "w";refine cE hq tx.bO tx.wH rfl ?_;walk_at "w";intro T nT;walk_at "w";exact k _ _ (aR.new nT) nT aP
def nC(o:Int):Prop:=o=0\/o=1
theorem PX{m:MS}(hg:m.Good){o d on:Int}(ho:nC on):nC (iN m o d on).1/\0<=(iN m o d on).2:=by
 obtain⟨u0,u1⟩:=hg.up;obtain⟨d0,d1⟩:=hg.down;unfold iN;split
 ·exact⟨ho,by show 0<=max (d - 1) 0;lia⟩
 ·split
  ·exact⟨.inr rfl,by show 0<=m.up - 1;lia⟩
  ·exact⟨.inl rfl,by show 0<=m.down - 1;lia⟩
theorem aO3{o:Int}(h:nC o):nC (1 - o):=by rcases h with rfl|rfl;exact .inr rfl;exact .inl rfl
inductive y7  (K:W.Frag) (vs:List V) (H:Hp) (Q:VK) (E:XK):Prop
 |mk:∀(p s:Addr) (m:MS),(vs=[.ref p,.ref s])->bB H p->dX H s m->m.Good->(∀(t:Addr) (o d:Int) H',H' t=some (.tup [.int o,.int d])->((o=1/\0<=d/\d < m.up)\/(o=0/\0<=d/\d < 60))->bB H' p->cI p H H'->Q (.ref t) H')->y7 K vs H Q E
theorem aFl(tx:Txt K mg a):bQ P w K mg base eR 2 a.aAM a.aAN aia (y7 K):=by
 have aS:=cS (P:=P) (w:=w) (base:=base) tx;refine tx.lg.F.ok aFd (by walk_at "l") λbq A outer s H vs Q E hr h=>?_;obtain⟨p,s,m,rfl ,hh,hs,hg,k⟩:=h;have hu:=fV hr;refine aY (aE (bC (aV (r:=iJ K) (cZ hu) (bh aS hr tx.af (aA (aB 0) (aA aC aD))) aC (bD _)) (aG (aM (eI aC (bh aS hr tx.af (aA (aB 0) (aA (aH (K':=K) (aB 1) aC) aD)))))) aZ)
  (aE (bC (aV (r:=iJ K) (cZ hu) (bh aS hr tx.af (aA (aB 0) (aA aC aD))) aC (bD _)) (aG (aM (eI aC (bh aS hr tx.af (aA (aB 0) (aA aC aD)))))) aZ)
  (aG (aM (eI aC (bh aS hr tx.af (aA (aB 0) (aA (aH (K':=K) (aB 1) aC) aD)))))))) ?_
 obtain⟨u0,u1⟩:=hg.up;obtain⟨d0,d1⟩:=hg.down;refine aT (σ:=[some (.ref p),some (.ref s)]) rfl ?_;walk_at "w";refine⟨p,_,rfl,hh,by decide,by decide,λr1 H1 a1 b1 h1 k1 _=>?_⟩;have Dz:=hs.keep hh k1;obtain⟨pl,e1,_⟩:=Dz.ex;walk_at "w";refine cB (λh=>?_) (λh=>?_)
 ·walk_at "w";refine⟨p,_,rfl,h1,by lia,by lia,λr2 H2 a2 b2 h2 k2 _=>?_⟩;walk_at "w";intro T nT;walk_at "w";exact k _ _ _ _ aP (.inl ⟨rfl,a2,b2⟩) (h2.same (aR.new nT)) (k1.trans (k2.trans (aR.new nT).keep))
 ·walk_at "w";refine⟨p,_,rfl,h1,by decide,by decide,λr2 H2 a2 b2 h2 k2 _=>?_⟩;have cj:=Dz.keep h1 k2;obtain⟨EK,e2,_⟩:=cj.ex;walk_at "w";refine cB (λh=>?_) (λh=>?_)
  ·walk_at "w";refine⟨p,_,rfl,h2,by decide,by decide,λr3 H3 a3 b3 h3 k3 _=>?_⟩;walk_at "w";intro T nT;walk_at "w";exact k _ _ _ _ aP (.inr ⟨rfl,a3,b3⟩) (h3.same (aR.new nT)) (k1.trans (k2.trans (k3.trans (aR.new nT).keep)))
  ·walk_at "w";refine⟨p,_,rfl,h2,by lia,by lia,λr3 H3 a3 b3 h3 k3 _=>?_⟩;walk_at "w";intro T nT;walk_at "w";exact k _ _ _ _ aP (.inr ⟨rfl,a3,by lia⟩) (h3.same (aR.new nT)) (k1.trans (k2.trans (k3.trans (aR.new nT).keep)))
inductive y8  (K:W.Frag) (vs:List V) (H:Hp) (Q:VK) (E:XK):Prop
 |mk:∀(s:Addr) (m:MS) (t:Addr) (o d on:Int),(vs=[.ref s,.ref t,.int on])->dX H s m->(H t=some (.tup [.int o,.int d]))->nC on->nC o->(0<=d)->(((o=on\/d=0)->∀T H',aR H H'->H T=none->H' T=some (.tup [.int (iN m o d on).1,.int (iN m o d on).2])->Q (.ref T) H'))->((¬(o=on\/d=0)->Q .bw H))->y8 K vs H Q E
theorem y9(tx:Txt K mg a):bQ P w K mg base eR 1 a.aAO a.aAP aka (y8 K):=by
 refine tx.ia.F.ok aFe (by walk_at "l") λbq A outer s H vs Q E hr h=>?_;obtain⟨s,m,t,o,d,on,rfl ,hs,ht,DB,ho,hd,k1,k2⟩:=h;have hu:=fV hr;refine aY (aE (bC (aV (r:=iJ K) (cZ hu) (aB 2) (aH (K':=K) (aB 1) aC) (bD _)) (aG (aM (eI (aB 2) (aN (fN rfl) (by rfl) tx.mM jC (aA aC (aA (aL dS (aH (K':=K) (aB 1) aC) aC) aD)))))) aZ)
  (aE (bC (aV CN (aH (K':=K) (aB 1) aC) aC (bD _)) (aG (aM cU)) aZ)
  (aG (aM (eI (aB 2) (aL dS (aH (K':=K) (rY (aH (K':=K) (aB 0) aC) (aH (K':=K) (aB 0) aC)) (aB 2)) aC)))))) ?_
 obtain⟨pl,e1,_⟩:=hs.ex;refine aT (σ:=[some (.ref s),some (.ref t),some (.int on)]) rfl ?_;walk_at "w";refine cB (λh=>?_) (λh=>?_)
 ·have k3:=k1 (.inl h.symm);unfold iN at k3;rw[cT h.symm] at k3;walk_at "w";rw[show max 0 (d - 1)=max (d - 1) 0 by lia];intro T nT;walk_at "w";exact k3 _ _ (aR.new nT) nT aP
 ·walk_at "w";refine cB (λh1=>?_) (λh1=>?_)
  ·walk_at "w";exact k2 (λz=>by rcases z with z|z;exact h z.symm;lia)
  ·have k3:=k1 (.inr (by lia));unfold iN at k3;rw[cD (λz=>h z.symm)] at k3;walk_at "w";intro l nl;walk_at "w";have sl:=aR.new (o:=.lst [.int m.down,.int m.up]) nl;rcases DB with rfl|rfl
   ·refine rW (bP.of aP) rfl ?_;rw[cD (by decide)] at k3;walk_at "w";intro T nT;walk_at "w";exact k3 _ _ (sl.trans (aR.new nT)) (sl.free nT) aP
   ·refine rW (bP.of aP) rfl ?_;rw[cT rfl] at k3;walk_at "w";intro T nT;walk_at "w";exact k3 _ _ (sl.trans (aR.new nT)) (sl.free nT) aP
structure RL{α:Type}(P:Addr->α->Prop)(as:ay)(xs:List α):Prop where
 len:as.length=xs.length
 at_:∀(j:Nat) a x,as[j]?=some a->xs[j]?=some x->P a x
theorem RL.nil{α:Type}{P:Addr->α->Prop}:RL P [] []:=⟨rfl,λj a x h=>by simp at h⟩
theorem RL.imp{α:Type}{P P':Addr->α->Prop}{xs:List α}(h:RL P as xs)(f:∀a x,P a x->P' a x):RL P' as xs:=⟨h.len,λj a x h1 h2=>f a x (h.at_ j a x h1 h2)⟩
theorem RL.snoc{α:Type}{P:Addr->α->Prop}{xs:List α}(h:RL P as xs){x:α}(hp:P a x):RL P (as ++ [a]) (xs ++ [x]):=by
 refine⟨by rw[iR,iR,h.len];rfl,λj q u hq hu=>?_⟩;by_cases hj:j < as.length
 ·rw[vf hj] at hq;rw[vf (by rw[<-h.len];exact hj)] at hu;exact h.at_ j q u hq hu
 ·have qi:j < (as ++ [a]).length:=(iZ.mp hq).1;rw[iR,qf] at qi;have e:j=as.length:=by lia
  subst e;rw[vo (eO _),yw] at hq;rw[h.len,vo (eO _),yw] at hu;cases hq;cases hu;exact hp
def Rl(H:Hp):Nat->V->V->Prop
 |0,_,_=>False
 |j+1,x,y=>(∃i,x=.int i/\y=.int i)\/(∃b,x=.bl b/\y=.bl b)\/(x=.bw/\y=.bw)\/(∃s,x=.str s/\y=.str s)\/
  ∃(p q:Addr) (xs ys:List V),x=.ref p/\y=.ref q/\((H p=some (.tup xs)/\H q=some (.tup ys))\/(H p=some (.lst xs)/\H q=some (.lst ys)))/\xs.length=ys.length/\ys.length<=1000000/\∀(i:Nat) u v,xs[i]?=some u->ys[i]?=some v->Rl H j u v
theorem Rl.int{j:Nat}(i:Int):Rl H (j+1) (.int i) (.int i):=.inl ⟨i,rfl,rfl⟩
def FV(o:HO):Prop:=(∃(d c:Int) (q:Addr),o=.lst [.int d,.int c,.ref q])\/∃(C dx:Addr),o=.ins C dx []
def Tr(H H':Hp):Prop:=∀b o,H b=some o->¬FV o->H' b=some o
theorem Tr.trans(a:Tr H H1)(b:Tr H1 H2):Tr H H2:=λc o e n=>b c o (a c o e n) n
theorem _root_.L2.aR.tr(s:aR H H'):Tr H H':=λb o e _=>s b o e
theorem bB.tr(hh:bB H p)(k:cI p H H'):Tr H H':=λb o e n=>k b o e λz=>by
 obtain⟨d,c,q,ms,hp,_⟩:=hh.ex;rw[z,hp] at e;cases e;exact n (.inl ⟨d,c,q,rfl⟩)
theorem Y0(hx:H x=some (.ins C dx []))(k:cI x H H'):Tr H H':=λb o e n=>k b o e λz=>by
 rw[z,hx] at e;cases e;exact n (.inr ⟨C,dx,rfl⟩)
def Tk(H H':Hp):Prop:=∀b xs,H b=some (.tup xs)->H' b=some (.tup xs)
theorem Tk.trans(a:Tk H H1)(b:Tk H1 H2):Tk H H2:=λc o e=>b c o (a c o e)
theorem aRn:¬FV (.tup xs):=λz=>by rcases z with ⟨_,_,_,e⟩|⟨_,_,e⟩ <;> cases e
theorem PV(h:fs≠[]):¬FV (.ins C dx fs):=λz=>by
 rcases z with ⟨_,_,_,e⟩|⟨_,_,e⟩
 ·cases e
 ·cases e;exact h rfl
theorem Hv{xs:List V}(h:xs.length≠3):¬FV (.lst xs):=λz=>by
 rcases z with ⟨_,_,_,e⟩|⟨_,_,e⟩
 ·cases e;exact h rfl
 ·cases e
theorem sY{qs:ay}:¬FV (.lst (qs.map V.ref)):=λz=>by
 rcases z with ⟨_,_,_,e⟩|⟨_,_,e⟩
 ·cases qs with
  |nil=>cases e
  |cons x xs=>cases e
 ·cases e
theorem Zp{ns:ae}:¬FV (.lst (ns.map V.int)):=λz=>by
 rcases z with ⟨d,c,q,e⟩|⟨_,_,e⟩
 ·injection e with e
  have h:=congrArg (λl=>l[2]?) e
  replace h:(ns.map V.int)[2]?=some (.ref q):=h
  rw[nE] at h;cases hq:ns[2]? with
  |none=>rw[hq] at h;cases h
  |some n=>rw[hq] at h;cases h
 ·cases e
theorem Tr.tk(s:Tr H H'):Tk H H':=λb xs e=>s b _ e aRn
theorem _root_.L2.aR.tk(s:aR H H'):Tk H H':=λb xs e=>s b _ e
theorem PU(h:H l=some (.lst xs)):Tk H (upd H l (.lst ys)):=λb zs e=>by
 have n:b≠l:=λz=>by rw[z,h] at e;cases e
 rw[bA n];exact e
def del(l:Addr)(H:Hp):Hp:=λb=>if b=l then none else H b
theorem D0{H:Hp}(n:b≠l):del l H b=H b:=by unfold del;rw[cD n]
theorem wO:aR (del l H) H:=λb o e=>by
 unfold del at e;split at e
 ·cases e
 ·exact e
theorem FI:del l H l=none:=by unfold del;rw[cT rfl]
theorem lK(e:H b=some o)(n:b≠l):del l H b=some o:=by rw[D0 n];exact e
theorem Tr.del(s:Tr H H'):Tr (del l H) (del l H'):=λb o e n=>by
 by_cases hb:b=l
 ·subst hb;rw[FI] at e;cases e
 ·rw[D0 hb] at e ⊢;exact s b o e n
theorem Zo:del l (upd H l o)=del l H:=by
 funext b
 by_cases hb:b=l
 ·subst hb;rw[FI,FI]
 ·rw[D0 hb,D0 hb,bA hb]
theorem wL.tr{ps:ak}(h:wL H qs ps)(s:Tk H H'):wL H' qs ps:=⟨h.len,λj q t h1 h2=>s _ _ (h.at_ j q t h1 h2)⟩
theorem xW.tr{ps:ak}(h:xW H p ps)(s:Tr H H'):xW H' p ps:=by
 obtain⟨qs,h1,h2⟩:=h.ex;exact⟨qs,s _ _ h1 sY,h2.tr s.tk⟩
theorem dX.tr(h:dX H p m)(s:Tr H H'):dX H' p m:=by
 obtain⟨pl,h1,h2⟩:=h.ex;exact⟨pl,s _ _ h1 (Hv (by simp)),h2.tr s⟩
theorem cX.tr(h:cX C H p m)(s:Tr H H'):cX C H' p m:=by
 obtain⟨dx,pl,h1,h2⟩:=h.ex;exact⟨dx,pl,s _ _ h1 (PV (by simp[AY])),h2.tr s⟩
structure SS where
 bz:Int
 into:Int
 out:Int
 takes:Int
 gives:Int
structure SS.Good(s:SS):Prop where
 bz:0<=s.bz/\s.bz<=8
 into:0<=s.into/\s.into<=8
 out:0<=s.out/\s.out<=8
 takes:Am s.takes
 gives:Am s.gives
def Lv(s:SS)(l n:Int):Prop:=0<=n/\n<=s.bz/\l - s.out<=n/\n<=l+s.into
instance (s:SS) (l n:Int):Decidable (Lv s l n):=by unfold Lv;infer_instance
def dr(s:SS)(l n:Int):Int:=(if l < n then s.takes else s.gives)*(n - l)
def pw(s:SS):Int->ae->ae->Int
 |l,p::ps,n::ns=>p*dr s l n+pw s n ps ns
 |_,_,_=>0
theorem Qk{lo n:Int}{k:Nat}:n∈pz lo k↔lo<=n/\n < lo+(k:Int):=by
 unfold pz;rw[qQ];constructor
 ·rintro ⟨j,hj,rfl⟩;have:=Bj.mp hj;lia
 ·rintro ⟨h1,h2⟩;exact⟨(n - lo).toNat,Bj.mpr (by lia),by lia⟩
theorem Zn(lo:Int)(k:Nat):(pz lo k).length=k:=by
 unfold pz;rw[bH,Mg]
theorem aO4{s:SS}(g:s.Good){l n:Int}(h0:0<=l)(h1:l<=s.bz):n∈pz (max (l - s.out*1) 0) (min (l+s.into*1) s.bz+1 - max (l - s.out*1) 0).toNat↔Lv s l n:=by
 have:=g.out.1;have:=g.into.1;rw[Qk];unfold Lv;constructor
 ·rintro ⟨h1,h2⟩;lia
 ·rintro ⟨h1,h2,h3,h4⟩;lia
def MN(s:SS):List (Str×V):=[("cap",.int s.bz),("into",.int s.into),("out",.int s.out),("takes",.int s.takes),("gives",.int s.gives)]
structure LQ(H:Hp)(a:Addr)(s:SS):Prop where
 at_:H a=some (.lst [.int s.bz,.int s.into,.int s.out,.int s.takes,.int s.gives])
structure fK(C:Addr)(H:Hp)(x:Addr)(s:SS):Prop where
 ex:∃dx,H x=some (.ins C dx (MN s))
theorem fK.same(h:fK C H a s)(e:aR H H'):fK C H' a s:=by
 obtain⟨dx,q⟩:=h.ex;exact⟨dx,e _ _ q⟩
inductive aC5  (K:W.Frag) (vs:List V) (H:Hp) (Q:VK) (E:XK):Prop
 |mk:∀(i:Int),(vs=[.int i])->(0<=i)->(i<=8)->(Q (.bl true) H)->aC5 K vs H Q E
theorem aIz(tx:Txt K mg a):bQ P w K mg base eR 2 a.aEg a.aEh aca (aC5 K):=by
 have oJ:=wM (P:=P) (w:=w) (base:=base) tx;refine tx.gj.F.ok aIq (by walk_at "l") λbq A outer s H vs Q E hr h=>?_;obtain⟨i,rfl ,h1,h2,k⟩:=h;have hu:=fV hr;refine aY (aG (aM (m8 (bh oJ hr tx.gi (aA (aB 0) aD)) (j8 (oY BE BE aC (aB 0) (rX (n:=8) (by rfl) tx.qK)))))) ?_;refine aT (σ:=[some (.int i)]) rfl ?_;walk_at "w";refine⟨_,_,rfl,.int i,?_⟩;walk_at "w";refine iP (λ_=>?_) (λh=>by simp at h);walk_at "w";refine cB (λ_=>?_) (λh=>absurd h1 h);walk_at "w";rw[ur h2];exact k
inductive zA  (K:W.Frag) (C:Addr) (vs:List V) (H:Hp) (Q:VK) (E:XK):Prop
 |mk:∀(x dx:Addr) (s:SS),(vs=[.ref x,.int s.bz,.int s.into,.int s.out,.int s.takes,.int s.gives])->(H x=some (.ins C dx []))->s.Good->(∀H',fK C H' x s->cI x H H'->Q .bw H')->zA K C vs H Q E
theorem aFm(tx:Txt K mg a):bQ P w K mg base eR 3 a.sU a.aAQ aAa (zA K a.bS):=by
 have dO:=m5 (P:=P) (w:=w) (base:=base) tx;have QU:=aIz (P:=P) (w:=w) (base:=base) tx;refine tx.mf.F.ok kR (by walk_at "l") λbq A outer s H vs Q E hr h=>?_;obtain⟨x,dx,ss,rfl ,hx,hg,k⟩:=h;have hu:=fV hr;refine aY (aE (aK (i:=6) kR.nd (xK (bh QU hr tx.gj (aA (aB 1) aD)) (bh QU hr tx.gj (aA (aB 2) aD)) (bh QU hr tx.gj (aA (aB 3) aD))))
  (aE (bZ PassesOwn.never rfl (iY (K':=K) (by rfl) tx.fX (aA (aL bL (aB 6) (rY (bh dO hr tx.br (aA (aB 4) aD)) (bh dO hr tx.br (aA (aB 5) aD)))) aD)) (bK (K':=K) (n:=2) rfl (aO (aJ (i:=7) kR.nd) (aO (aJ (i:=8) kR.nd) bJ))) (aG (bC (iB (eT (aB 8))) (aG lH) aZ)))
  (aE (dA (K':=K) (aB 0) (aB 1) rfl)
  (aE (dA (K':=K) (aB 0) (aB 2) rfl)
  (aE (dA (K':=K) (aB 0) (aB 3) rfl)
  (aE (dA (K':=K) (aB 0) (aB 4) rfl)
  (aG (dA (K':=K) (aB 0) (aB 5) rfl)))))))) ?_
 refine aT (σ:=[some (.ref x),some (.int ss.bz),some (.int ss.into),some (.int ss.out),some (.int ss.takes),some (.int ss.gives),none,none,none]) rfl ?_;walk_at "w";refine⟨_,rfl,hg.bz.1,hg.bz.2,?_⟩;walk_at "w";refine⟨_,rfl,hg.into.1,hg.into.2,?_⟩;walk_at "w";refine⟨_,rfl,hg.out.1,hg.out.2,?_⟩;walk_at "w";intro l1 n1;walk_at "w";refine⟨_,_,rfl,.int _,?_⟩;rw[sX hg.takes];walk_at "w";refine⟨_,_,rfl,.int _,?_⟩;rw[sX hg.gives];walk_at "w";intro l2 n2;walk_at "w";refine mR (xs:=[.bl true,.bl true,.bl true]) (zs:=[.bl true,.bl true]) (aR.new n2 _ _ aP) aP (bV (by simp)) ?_;intro l3 n3;have s3:aR H (upd (upd (upd H l1 (.lst [.bl true,.bl true,.bl true])) l2 (.lst [.bl true,.bl true])) l3 (.lst ([.bl true,.bl true,.bl true] ++ [.bl true,.bl true]))):=((aR.new n1).trans (aR.new n2)).trans (aR.new n3);have e3:(upd (upd (upd H l1 (.lst [.bl true,.bl true,.bl true])) l2 (.lst [.bl true,.bl true])) l3 (.lst ([.bl true,.bl true,.bl true] ++ [.bl true,.bl true]))) l3=some (.lst [.bl true,.bl true,.bl true,.bl true,.bl true]):=aP
 generalize upd (upd (upd H l1 (.lst [.bl true,.bl true,.bl true])) l2 (.lst [.bl true,.bl true])) l3 (.lst ([.bl true,.bl true,.bl true] ++ [.bl true,.bl true]))=H3 at s3 e3 ⊢;walk_at "w";refine FK (bP.of e3) ?_;refine xG (xs:=[.bl true,.bl true,.bl true,.bl true,.bl true]) (λi σ' H'=>∃y z,σ'=[some (.ref x),some (.int ss.bz),some (.int ss.into),some (.int ss.out),some (.int ss.takes),some (.int ss.gives),some (.ref l1),y,z]/\aR H3 H')
  ⟨_,_,rfl,aR.refl _⟩ (λi σ' H' hi ⟨y,z,e,s⟩=>bP.of (s _ _ e3)) (λi v σ' H' T hv Tb nT=>?_) (λσ' H' Ta=>?_)
 ·obtain⟨y,z,e,s⟩:=Tb;subst e;have ev:v=.bl true:=by
   have:=jW hv;simpa using this
  subst ev;refine cM (gZ.of aP) rfl ?_;walk_at "w";exact⟨_,_,rfl,s.trans (aR.new nT)⟩
 ·obtain⟨y,z,e,s⟩:=Ta;subst e;have sH:aR H H':=s3.trans s;have tf:=sH _ _ hx;walk_at "w";refine iU (fs':=[("cap",.int ss.bz)]) tf tx.jO tx.aCV (by simp) rfl ?_;walk_at "w";refine iU (fs':=[("cap",.int ss.bz),("into",.int ss.into)]) aP tx.jO tx.aBh (by simp) rfl ?_;rw[i8];walk_at "w";refine iU (fs':=[("cap",.int ss.bz),("into",.int ss.into),("out",.int ss.out)]) aP tx.jO tx.aCW (by simp) rfl ?_;rw[i8];walk_at "w";refine iU (fs':=[("cap",.int ss.bz),("into",.int ss.into),("out",.int ss.out),("takes",.int ss.takes)]) aP tx.jO tx.yZ (by simp) rfl ?_;rw[i8];walk_at "w";refine iU (fs':=MN ss) aP tx.jO tx.y4 (by simp) rfl ?_;rw[i8];walk_at "w";exact k _ ⟨dx,aP⟩ (sH.keep.trans cI.upd)
theorem LQ.tr(h:LQ H a s)(e:Tr H H'):LQ H' a s:=⟨e _ _ h.at_ (Hv (by simp))⟩
theorem fK.tr(h:fK C H a s)(e:Tr H H'):fK C H' a s:=by
 obtain⟨dx,q⟩:=h.ex;exact⟨dx,e _ _ q (PV (by simp[MN]))⟩
def BJ(H:Hp)(q:Addr)(t:ao):Prop:=H q=some (.tup [.int t.1,.int t.2])
structure FH(H:Hp)(t:Addr)(ss:ak):Prop where
 ex:∃qs,H t=some (.tup (qs.map V.ref))/\RL (BJ H) qs ss
abbrev Ps:=ak×Int
structure fG(H:Hp)(a:Addr)(P:Ps):Prop where
 ex:∃t,H a=some (.tup [.ref t,.int P.2])/\FH H t P.1
structure Hr where
 ons:ae
 outs:ae
 b8:Int
structure Ap(H:Hp)(a:Addr)(h:Hr):Prop where
 ex:∃t u,H a=some (.tup [.ref t,.ref u,.int h.b8])/\H t=some (.tup (h.ons.map V.int))/\H u=some (.tup (h.outs.map V.int))
structure kI(H:Hp)(a:Addr)(hs:List Hr):Prop where
 ex:∃qs,H a=some (.lst (qs.map V.ref))/\RL (Ap H) qs hs
structure LP(H:Hp)(a:Addr)(hs:List Ps):Prop where
 ex:∃qs,H a=some (.lst (qs.map V.ref))/\RL (fG H) qs hs
theorem FH.tk{ss:ak}(h:FH H t ss)(s:Tk H H'):FH H' t ss:=by
 obtain⟨qs,h1,h2⟩:=h.ex;exact⟨qs,s _ _ h1,h2.imp λa x z=>s _ _ z⟩
theorem fG.tk(h:fG H a P)(s:Tk H H'):fG H' a P:=by
 obtain⟨t,h1,h2⟩:=h.ex;exact⟨t,s _ _ h1,h2.tk s⟩
theorem Ap.tk(x:Ap H a h)(s:Tk H H'):Ap H' a h:=by
 obtain⟨t,u,h1,h2,h3⟩:=x.ex;exact⟨t,u,s _ _ h1,s _ _ h2,s _ _ h3⟩
theorem kI.tr(x:kI H a hs)(s:Tr H H'):kI H' a hs:=by
 obtain⟨qs,h1,h2⟩:=x.ex;exact⟨qs,s _ _ h1 sY,h2.imp λa x z=>z.tk s.tk⟩
theorem LP.tr(x:LP H a hs)(s:Tr H H'):LP H' a hs:=by
 obtain⟨qs,h1,h2⟩:=x.ex;exact⟨qs,s _ _ h1 sY,h2.imp λa x z=>z.tk s.tk⟩
structure WS where
 specs:List MS
 store:Option SS
 cw:Int
 x:Int
 y:Int
 wide:Int
structure WS.Good(W:WS):Prop where
 specs:∀m∈W.specs,m.Good
 len:W.specs.length<=6
 store:∀s,W.store=some s->s.Good
 cw:Am W.cw
 x:1<=W.x/\W.x<=50000000000
 y:1<=W.y/\W.y<=50000000000
 wide:W.wide=0\/W.wide=1
structure pL(H:Hp)(l:Addr)(ms:List MS):Prop where
 ex:∃qs,H l=some (.lst (qs.map V.ref))/\RL (dX H) qs ms
structure pM(C:Addr)(H:Hp)(l:Addr)(ms:List MS):Prop where
 ex:∃qs,H l=some (.lst (qs.map V.ref))/\RL (cX C H) qs ms
def BB(H:Hp)(v:V):Option SS->Prop
 |none=>v=.bw
 |some s=>∃a,v=.ref a/\LQ H a s
def Fy(C:Addr)(H:Hp)(v:V):Option SS->Prop
 |none=>v=.bw
 |some s=>∃a,v=.ref a/\fK C H a s
theorem pL.tr(h:pL H l ms)(s:Tr H H'):pL H' l ms:=by
 obtain⟨qs,h1,h2⟩:=h.ex;exact⟨qs,s _ _ h1 sY,h2.imp λa x z=>z.tr s⟩
theorem pM.tr(h:pM C H l ms)(s:Tr H H'):pM C H' l ms:=by
 obtain⟨qs,h1,h2⟩:=h.ex;exact⟨qs,s _ _ h1 sY,h2.imp λa x z=>z.tr s⟩
theorem BB.tr:∀{o:Option SS},BB H v o->Tr H H'->BB H' v o
 |none,h,_=>h
 |some s,⟨a,e,h⟩,t=>⟨a,e,h.tr t⟩
theorem Fy.tr:∀{o:Option SS},Fy C H v o->Tr H H'->Fy C H' v o
 |none,h,_=>h
 |some s,⟨a,e,h⟩,t=>⟨a,e,h.tr t⟩
structure kX(H:Hp)(a:Addr)(W:WS):Prop where
 ex:∃ls st b,H a=some (.lst [.ref ls,st,.int W.cw,.ref b,.int W.wide])/\pL H ls W.specs/\BB H st W.store/\H b=some (.lst [.int W.x,.int W.y])
theorem kX.tr(h:kX H a W)(s:Tr H H'):kX H' a W:=by
 obtain⟨ls,st,b,h1,h2,h3,h4⟩:=h.ex;exact⟨ls,st,b,s _ _ h1 (Hv (by simp)),h2.tr s,h3.tr s,s _ _ h4 (Hv (by simp))⟩
def EH(lm:Addr)(st:V)(k:Int):List (Str×V):=[("machines",.ref lm),("store",st),("lack",.int k)]
structure dQ(CW CM CS:Addr)(H:Hp)(w:Addr)(W:WS):Prop where
 ex:∃dx lm st,H w=some (.ins CW dx (EH lm st W.cw))/\pM CM H lm W.specs/\Fy CS H st W.store
theorem dQ.tr(h:dQ CW CM CS H w W)(s:Tr H H'):dQ CW CM CS H' w W:=by
 obtain⟨dx,lm,st,h1,h2,h3⟩:=h.ex;exact⟨dx,lm,st,s _ _ h1 (PV (by simp[EH])),h2.tr s,h3.tr s⟩
def VS(s:ao):Prop:=nC s.1/\0<=s.2
def iO:List MS->ak->ae->ak
 |m::ms,s::ss,o::os=>iN m s.1 s.2 o::iO ms ss os
 |_,_,_=>[]
theorem rK:∀{ms:List MS}{ss:ak}{os:ae},ss.length=ms.length->os.length=ms.length->(iO ms ss os).length=ms.length
 |[],_,_,_,_=>by simp[iO]
 |m::ms,s::ss,o::os,h1,h2=>by
  show(iN m s.1 s.2 o::iO ms ss os).length=_;rw[mv,rK (by simpa using h1) (by simpa using h2),mv]
 |_::_,[],_,h,_=>by cases h
 |_::_,_::_,[],_,h=>by cases h
theorem rL:∀{ms:List MS}{ss:ak}{os:ae}{j:Nat}{m:MS}{s:ao}{o:Int},ms[j]?=some m->ss[j]?=some s->os[j]?=some o->(iO ms ss os)[j]?=some (iN m s.1 s.2 o)
 |m::ms,s::ss,o::os,0,_,_,_,h1,h2,h3=>by cases h1;cases h2;cases h3;rfl
 |m::ms,s::ss,o::os,j+1,_,_,_,h1,h2,h3=>by
  show(iO ms ss os)[j]?=_;exact rL h1 h2 h3
 |[],_,_,_,_,_,_,h,_,_=>by simp at h
 |_::_,[],_,_,_,_,_,_,h,_=>by simp at h
 |_::_,_::_,[],_,_,_,_,_,_,h=>by simp at h
theorem aGg{ms:List MS}{ss:ak}{os:ae}(h1:ss.length=ms.length)(h2:os.length=ms.length){i:Nat}{s:ao}{o:Int}(g1:ms[i]?=some m)(g2:ss[i]?=some s)(g3:os[i]?=some o) :
  (iO ms ss os).take (i+1)=(iO ms ss os).take i ++ [iN m s.1 s.2 o]:=by
 rw[BK,rL g1 g2 g3];rfl
def Mw(ss:ak)(os:ae):Prop:=∀(j:Nat) (s:ao) (o:Int),ss[j]?=some s->os[j]?=some o->s.1=o\/s.2=0
def jV(W:WS)(l:Int):Prop:=match W.store with|none=>l=0|some s=>0<=l/\l<=s.bz
def BN(W:WS)(l n:Int):Prop:=match W.store with|none=>n=0|some s=>Lv s l n
structure jQ(W:WS)(P:Ps):Prop where
 len:P.1.length=W.specs.length
 vs:∀s∈P.1,VS s
 b8:jV W P.2
def tW(m:MS)(on out:Int):Prop:=(on=0->out=0)/\(on≠0->m.least<=out/\out<=m.least+xl m.pieces)
structure qM(W:WS)(P:Ps)(h:Hr):Prop where
 ons:h.ons.length=W.specs.length
 outs:h.outs.length=W.specs.length
 bits:∀o∈h.ons,nC o
 may:Mw P.1 h.ons
 out:∀(j:Nat) m on out,W.specs[j]?=some m->h.ons[j]?=some on->h.outs[j]?=some out->tW m on out
 b8:BN W P.2 h.b8
def pN(W:WS)(P:Ps)(h:Hr):Ps:=(iO W.specs P.1 h.ons,h.b8)
theorem BN.ok{l n:Int}(h:BN W l n):jV W n:=by
 unfold BN at h;unfold jV;cases e:W.store with
 |none=>rw[e] at h;exact h
 |some s=>rw[e] at h;exact⟨h.1,h.2.1⟩
theorem qM.pN{W:WS}(g:W.Good)(p:jQ W P)(x:qM W P h):jQ W (pN W P h):=by
 refine⟨rK p.len x.ons,λs hs=>?_,x.b8.ok⟩;obtain⟨j,hj⟩:=ye hs;have hl:=rK p.len x.ons;have Bu:j < W.specs.length:=by rw[<-hl];exact(iZ.mp hj).1
 have g1:W.specs[j]?=some W.specs[j]:=dM Bu;have g2:P.1[j]?=some (P.1[j]'(by rw[p.len];exact Bu)):=dM _;have g3:h.ons[j]?=some (h.ons[j]'(by rw[x.ons];exact Bu)):=dM _
 replace hj:(iO W.specs P.1 h.ons)[j]?=some s:=hj
 rw[rL g1 g2 g3] at hj;cases hj;exact PX (g.specs _ (uu Bu)) (x.bits _ (jW g3))
def cC(W:WS):Ps->List Hr->Prop
 |_,[]=>True
 |P,h::hs=>qM W P h/\cC W (pN W P h) hs
def wQ(W:WS):Ps->List Hr->Ps
 |P,[]=>P
 |P,h::hs=>wQ W (pN W P h) hs
def Ao(W:WS):Ps->List Hr->List Ps
 |P,[]=>[P]
 |P,h::hs=>P::Ao W (pN W P h) hs
theorem xN(W:WS):∀(P:Ps) (hs:List Hr) (h:Hr),wQ W P (hs ++ [h])=pN W (wQ W P hs) h
 |_,[],_=>rfl
 |P,g::hs,h=>xN W (pN W P g) hs h
theorem cC.snoc:∀{P:Ps}{hs:List Hr}{h:Hr},cC W P hs->qM W (wQ W P hs) h->cC W P (hs ++ [h])
 |_,[],_,_,x=>⟨x,trivial⟩
 |P,g::hs,h,p,x=>⟨p.1,cC.snoc p.2 x⟩
theorem aGh(W:WS):∀(P:Ps) (hs:List Hr) (h:Hr),Ao W P (hs ++ [h])=Ao W P hs ++ [pN W (wQ W P hs) h]
 |_,[],_=>rfl
 |P,g::hs,h=>by
  show P::Ao W (pN W P g) (hs ++ [h])=P::(Ao W (pN W P g) hs ++ [pN W (wQ W P (g::hs)) h]);rw[aGh W (pN W P g) hs h];rfl
theorem cC.pos{W:WS}(g:W.Good):∀{P:Ps}{hs:List Hr},jQ W P->cC W P hs->jQ W (wQ W P hs)
 |_,[],p,_=>p
 |P,h::hs,p,x=>cC.pos (P:=pN W P h) (hs:=hs) g (x.1.pN g p) x.2
theorem cC.take:∀{P:Ps}{hs:List Hr}{i:Nat}{h:Hr},cC W P hs->hs[i]?=some h->cC W P (hs.take i)/\qM W (wQ W P (hs.take i)) h
 |P,g::hs,0,h,x,e=>by cases e;exact⟨trivial,x.1⟩
 |P,g::hs,i+1,h,x,e=>by
  have:=cC.take (i:=i) (h:=h) x.2 e;exact⟨⟨x.1,this.1⟩,this.2⟩
 |_,[],_,_,_,e=>by simp at e
theorem take_snoc{α:Type}{l:List α}{i:Nat}{x:α}(h:l[i]?=some x):l.take (i+1)=l.take i ++ [x]:=by
 rw[BK,h];rfl
theorem RL.get{α:Type}{P:Addr->α->Prop}{as:ay}{xs:List α}(h:RL P as xs){i:Nat}(hv:(as.map V.ref)[i]?=some v):∃a x,as[i]?=some a/\v=.ref a/\xs[i]?=some x/\P a x:=by
 rw[nE] at hv;cases hq:as[i]? with
 |none=>rw[hq] at hv;cases hv
 |some a=>
  rw[hq] at hv;cases hv;have li:i < xs.length:=by rw[<-h.len];exact(iZ.mp hq).1
  have hx:xs[i]?=some xs[i]:=dM li;exact⟨a,xs[i],rfl,rfl,hx,h.at_ i a _ hq hx⟩
theorem RL.ix{α:Type}{P:Addr->α->Prop}{as:ay}{xs:List α}(h:RL P as xs){i:Nat}(hi:i < xs.length):∃a,as[i]?=some a/\P a xs[i]:=by
 have li:i < as.length:=by rw[h.len];exact hi
 have ha:as[i]?=some as[i]:=dM li;exact⟨as[i],ha,h.at_ i _ _ ha (dM hi)⟩
theorem sZ{as:ay}{i:Nat}(h:as[i]?=some a):lT (as.map V.ref) (i:Int)=some (.ref a):=gU (by rw[nE,h];rfl)
theorem m6{ns:ae}{i:Nat}{n:Int}(h:ns[i]?=some n):lT (ns.map V.int) (i:Int)=some (.int n):=gU (by rw[nE,h];rfl)
theorem dB{ns:ae}{i:Nat}(h:(ns.map V.int)[i]?=some x):∃n,ns[i]?=some n/\x=.int n:=by
 rw[nE] at h;cases hq:ns[i]? with
 |none=>rw[hq] at h;cases h
 |some n=>rw[hq] at h;cases h;exact⟨n,rfl,rfl⟩
theorem QR(np:H p=none)(s:aR H H1)(k:cI p H1 H2):aR H H2:=λb o e=>k _ _ (s _ _ e) (bG np e)
theorem aNf(n:H l=none)(s:aR H H1):aR H (upd H1 l o):=λb u e=>by rw[bA (bG n e)];exact s b u e
theorem aIA(W:WS)(P:Ps)(hs:List Hr):(Ao W P hs).length=hs.length+1:=by
 induction hs generalizing P with
 |nil=>rfl
 |cons h hs ih=>show(P::Ao W (pN W P h) hs).length=_;rw[mv,ih,mv]
theorem aO5(x:V):lT (xs ++ [x]) (-1)=some x:=by
 have e:uk (xs ++ [x]).length (-1)=some xs.length:=by
  unfold uk;rw[cD (by lia),cT (by rw[iR,qf];lia)];congr 1;rw[iR,qf];lia
 unfold lT;rw[e];simp
theorem RL.take{α:Type}{P:Addr->α->Prop}{as:ay}{xs:List α}(h:RL P as xs)(i:Nat):RL P (as.take i) (xs.take i):=by
 refine⟨by rw[og,og,h.len],λj a x h1 h2=>?_⟩;rw[List.getElem?_take] at h1 h2;split at h1
 ·rename_i hj;rw[cT hj] at h2;exact h.at_ j a x h1 h2
 ·cases h1
theorem RL.drop{α:Type}{P:Addr->α->Prop}{as:ay}{xs:List α}(h:RL P as xs)(i:Nat):RL P (as.drop i) (xs.drop i):=by
 refine⟨by rw[F3,F3,h.len],λj a x h1 h2=>?_⟩;rw[List.getElem?_drop] at h1 h2;exact h.at_ _ a x h1 h2
def qo(m:MS):Int->Int->ae->Nat->V
 |_,_,[],_=>.bw
 |o,d,on::r,i=>if o=on\/d=0 then qo m (iN m o d on).1 (iN m o d on).2 r (i+1) else .int i
theorem L3{ns:ae}{i:Nat}{n:Int}(h:ns[i]?=some n):ns.drop i=n::ns.drop (i+1):=by
 obtain⟨hi,e⟩:=iZ.mp h;rw[zb hi,e]
inductive aBp  (K:W.Frag) (C:Addr) (vs:List V) (H:Hp) (Q:VK) (E:XK):Prop
 |mk:∀(q:Addr) (m:MS) (t:Addr) (o d:Int) (p:Addr) (ns:ae),(vs=[.ref q,.ref t,.ref p])->cX C H q m->(H t=some (.tup [.int o,.int d]))->(H p=some (.lst (ns.map V.int)))->(∀H',aR H H'->Q (qo m o d ns 0) H')->aBp K C vs H Q E
theorem aG8(tx:Txt K mg a):bQ P w K mg base eR 3 a.aCz a.aCA kf (aBp K a.aW):=by
 have oM:=xM (P:=P) (w:=w) (base:=base) tx;have fF:=jP (P:=P) (w:=w) (base:=base) tx;refine tx.oj.F.ok mY (by walk_at "l") λbq A outer s H vs Q E hr h=>?_;obtain⟨q,m,t,o,d,p,ns,rfl ,hm,ht,hp,k⟩:=h;have hu:=fV hr;refine aY (aE (bZ PassesOwn.never rfl (iY (K':=K) (by rfl) tx.fX (aA (aB 2) aD)) (bK (K':=K) (n:=2) rfl (aO (aJ (i:=3) mY.nd) (aO (aJ (i:=4) mY.nd) bJ))) (aE (bC (iB (eT (bh oM hr tx.ig (aA (aB 0) (aA (aB 1) (aA (aB 4) aD)))))) (aG (aM (aB 3))) aZ)
  (aG (aK (i:=1) mY.nd (bh fF hr tx.cv (aA (aB 0) (aA (aB 1) (aA (aB 4) aD))))))))
  (aG (aM cU))) ?_
 refine aT (σ:=[some (.ref q),some (.ref t),some (.ref p),none,none]) rfl ?_;walk_at "w";refine FK (bP.of hp) ?_;refine xG (xs:=ns.map V.int) (λi σ' H'=>∃t' o' d' x3 x4,σ'=[some (.ref q),some (.ref t'),some (.ref p),x3,x4]/\H' t'=some (.tup [.int o',.int d'])/\aR H H'/\qo m o' d' (ns.drop i) i=qo m o d ns 0)
  ⟨t,o,d,_,_,rfl,ht,aR.refl _,rfl⟩ (λi σ' H' hi ⟨t',o',d',x3,x4,e,h1,h2,h3⟩=>bP.of (h2 _ _ hp)) (λi x σ' H' T hx S8 nT=>?_) (λσ' H' S0=>?_)
 ·obtain⟨t',o',d',x3,x4,e,h1,h2,h3⟩:=S8;subst e;rw[nE] at hx;obtain⟨n,hn,rfl⟩ : ∃n,ns[i]?=some n/\x=.int n:=by
   cases hq:ns[i]? with
   |none=>rw[hq] at hx;cases hx
   |some n=>rw[hq] at hx;cases hx;exact⟨n,rfl,rfl⟩
  rw[L3 hn] at h3;have sT:=aR.new (o:=.tup [.int (i:Int),.int n]) nT;refine cM (gZ.of aP) rfl ?_;walk_at "w";refine⟨_,_,_,_,_,rfl,sT _ _ h1,?_⟩;walk_at "w";have Fe:(if o'=n\/d'=0 then qo m (iN m o' d' n).1 (iN m o' d' n).2 (ns.drop (i+1)) (i+1) else .int i)=qo m o d ns 0:=h3;by_cases cz:o'=n\/d'=0
  ·rw[cT cz] at Fe;rw[show(decide (o'=n) || decide (d'=0))=true by rcases cz with h|h <;> simp[h]];walk_at "w";refine⟨q,m,t',o',d',n,rfl,hm.same (h2.trans sT),sT _ _ h1,cz,λT2 H2 s2 Du um=>?_⟩;walk_at "w";exact⟨T2,_,_,_,_,rfl,um,(h2.trans sT).trans s2,Fe⟩
  ·rw[cD cz] at Fe;rw[show(decide (o'=n) || decide (d'=0))=false by simp only[not_or] at cz;simp[cz.1,cz.2]];walk_at "w";rw[<-Fe] at k;exact k _ (h2.trans sT)
 ·obtain⟨t',o',d',x3,x4,e,h1,h2,h3⟩:=S0;subst e;rw[bH,HY] at h3;walk_at "w";have Fe:V.bw=qo m o d ns 0:=h3;rw[Fe];exact k _ h2
def qu:Int->ae->Nat->ae
 |_,[],_=>[]
 |o,on::r,i=>(if on=1/\o=0 then [(i:Int)] else [])++qu on r (i+1)
def wR(m:MS)(o:Int)(ns:ae):Int:=m.begin_*((qu o ns 0).length:Int)+m.run*(ns.count 1:Nat)+m.rest*(ns.count 0:Nat)
inductive tX  (K:W.Frag) (C:Addr) (vs:List V) (H:Hp) (Q:VK) (E:XK):Prop
 |mk:∀(q:Addr) (m:MS) (t:Addr) (o d:Int) (p:Addr) (ns:ae),(vs=[.ref q,.ref t,.ref p])->cX C H q m->(H t=some (.tup [.int o,.int d]))->(H p=some (.lst (ns.map V.int)))->(qo m o d ns 0=.bw)->(∀H',aR H H'->Q .bw H')->tX K C vs H Q E
theorem aDo(tx:Txt K mg a):bQ P w K mg base eR 4 a.vT a.vU kf (tX K a.aW):=by
 have aIB:=aG8 (P:=P) (w:=w) (base:=base) tx;refine tx.ir.F.ok tK (by walk_at "l") λbq A outer s H vs Q E hr h=>?_;obtain⟨q,m,t,o,d,p,ns,rfl ,hm,ht,hp,hf,k⟩:=h;have hu:=fV hr;refine aY (aE (aK (i:=3) tK.nd (bh aIB hr tx.oj (aA (aB 0) (aA (aB 1) (aA (aB 2) aD)))))
  (aG (bC (aV xI (aB 3) cU (bD _)) (aG lH) aZ))) ?_
 refine aT (σ:=[some (.ref q),some (.ref t),some (.ref p),none]) rfl ?_;walk_at "w";refine⟨q,m,t,o,d,p,ns,rfl,hm,ht,hp,λH1 s1=>?_⟩;rw[hf];walk_at "w";exact k _ s1
inductive zB  (K:W.Frag) (C:Addr) (vs:List V) (H:Hp) (Q:VK) (E:XK):Prop
 |mk:∀(q:Addr) (m:MS) (t:Addr) (o d:Int) (p:Addr) (ns:ae),(vs=[.ref q,.ref t,.ref p])->cX C H q m->(H t=some (.tup [.int o,.int d]))->(H p=some (.lst (ns.map V.int)))->(ns.length<=48)->(qo m o d ns 0=.bw)->(∀c H',aR H H'->H c=none->H' c=some (.lst ((qu o ns 0).map V.int))->Q (.ref c) H')->zB K C vs H Q E
theorem aFn(tx:Txt K mg a):bQ P w K mg base eR 5 a.aAR a.aAS kf (zB K a.aW):=by
 have aEC:=aDo (P:=P) (w:=w) (base:=base) tx;refine tx.ke.F.ok gK (by walk_at "l") λbq A outer s H vs Q E hr h=>?_;obtain⟨q,m,t,o,d,p,ns,rfl ,hm,ht,hp,hl,hn,k1⟩:=h;have hu:=fV hr;refine aY (aE (dC (bh aEC hr tx.ir (aA (aB 0) (aA (aB 1) (aA (aB 2) aD)))))
  (aE (aK (i:=3) gK.nd (eM aD))
  (aE (aK (i:=4) gK.nd (aH (K':=K) (aB 1) aC))
  (aE (bZ PassesOwn.never rfl (iY (K':=K) (by rfl) tx.fX (aA (aB 2) aD)) (bK (K':=K) (n:=2) rfl (aO (aJ (i:=5) gK.nd) (aO (aJ (i:=6) gK.nd) bJ))) (aE (bC (eY (iC (aV (r:=iJ K) (cZ hu) (aB 6) aC (bD _)) (fZ (aV (r:=iJ K) (cZ hu) (aB 4) aC (bD _))))) (aG (dC (dW (K':=K) (aB 3) (aA (aB 5) aD)))) aZ)
  (aG (aK (i:=4) gK.nd (aB 6)))))
  (aG (aM (aB 3))))))) ?_
 refine aT (σ:=[some (.ref q),some (.ref t),some (.ref p),none,none,none,none]) rfl ?_;walk_at "w";refine⟨q,m,t,o,d,p,ns,rfl,hm,ht,hp,hn,λH1 s1=>?_⟩;walk_at "w";intro c nc;obtain⟨H2,i2,s2,g2⟩:=nw _ nc;rw[i2];have ht2:=(s1.trans s2) _ _ ht;have NC:=(s1.trans s2) _ _ hp;have cp:c≠p:=λz=>by rw[z] at nc;exact bG nc (s1 _ _ hp) rfl
 walk_at "w";refine FK (bP.of NC) ?_;refine xG (xs:=ns.map V.int) (λi σ' H'=>∃(a':Int) (bs:ae) (x5 x6:Option V),σ'=[some (.ref q),some (.ref t),some (.ref p),some (.ref c),some (.int a'),x5,x6]/\H' c=some (.lst (bs.map V.int))/\bs.length<=i/\bs++qu a' (ns.drop i) i=qu o ns 0/\aR H1 H')
  ⟨o,[],_,_,rfl,g2,eO _,rfl,s2⟩ (λi σ' H' hi ⟨a',bs,x5,x6,e,g,lb,eb,s'⟩=>bP.of (s' _ _ (s1 _ _ hp))) (λi x σ' H' T hx SY nT=>?_) (λσ' H' SX=>?_)
 ·obtain⟨a',bs,x5,x6,e,g,lb,eb,s'⟩:=SY;subst e;rw[nE] at hx;obtain⟨n,E5,rfl⟩:=oi.mp hx;have hi:i < ns.length:=(iZ.mp E5).1;rw[L3 E5] at eb;obtain⟨H3,i3,s3,g3⟩:=nw (.tup [.int (i:Int),.int n]) nT;rw[i3];refine cM (gZ.of g3) rfl ?_;have g':=s3 _ _ g;have Fp:bs++((if n=1/\a'=0 then [(i:Int)] else [])++qu n (ns.drop (i+1)) (i+1))=qu o ns 0:=eb;walk_at "w";refine cB (λh1=>?_) (λh1=>?_)
  ·walk_at "w";refine cB (λh2=>?_) (λh2=>?_)
   ·rw[cT ⟨h1,h2⟩,<-HZ] at Fp;walk_at "w";refine iT (bP.of g') ?_;walk_at "w";refine j0 (xs:=bs.map V.int) g' (rQ (by rw[bH];lia:(bs.map V.int).length < 1000) (bV (by simp))) ?_;obtain⟨H4,i4,k4,g4⟩:=wr H3 c (.lst (bs.map V.int ++ [.int (i:Int)]));rw[i4];walk_at "w";exact⟨n,bs ++ [(i:Int)],_,_,rfl,by rw[g4,gR];rfl,by rw[iR];simp;exact lb,Fp,λb o e=>k4 _ _ (s3 _ _ (s' _ _ e)) (bG nc e)⟩
   ·rw[cD (λz=>h2 z.2),List.nil_append] at Fp;walk_at "w";exact⟨n,bs,_,_,rfl,g',by lia,Fp,s'.trans s3⟩
  ·rw[cD (λz=>h1 z.1),List.nil_append] at Fp;walk_at "w";exact⟨n,bs,_,_,rfl,g',by lia,Fp,s'.trans s3⟩
 ·obtain⟨a',bs,x5,x6,e,g,lb,eb,s'⟩:=SX;subst e;rw[bH,HY] at eb;rw[show bs++qu a' [] ns.length=bs from BI bs] at eb;walk_at "w";exact k1 c _ (s1.trans s') (s1.free nc) (by rw[<-eb];exact g)
inductive aC6  (K:W.Frag) (C:Addr) (vs:List V) (H:Hp) (Q:VK) (E:XK):Prop
 |mk:∀(q:Addr) (m:MS) (t:Addr) (o d:Int) (p:Addr) (ns:ae),(vs=[.ref q,.ref t,.ref p])->cX C H q m->m.Good->(H t=some (.tup [.int o,.int d]))->(H p=some (.lst (ns.map V.int)))->(ns.length<=48)->(qo m o d ns 0=.bw)->(∀H',aR H H'->Q (.int (wR m o ns)) H')->aC6 K C vs H Q E
theorem aC7(tx:Txt K mg a):bQ P w K mg base eR 6 a.aEi a.aEj kf (aC6 K a.aW):=by
 have aG9:=aFn (P:=P) (w:=w) (base:=base) tx;refine tx.jr.F.ok aCp (by walk_at "l") λbq A outer s H vs Q E hr h=>?_;obtain⟨q,m,t,o,d,p,ns,rfl ,hm,hg,ht,hp,hl,hn,k1⟩:=h;have hu:=fV hr;refine aY (aE (aK (i:=3) aCp.nd (aN (rc:=mS K) cO (by rfl) tx.hX fB (aA (bh aG9 hr tx.ke (aA (aB 0) (aA (aB 1) (aA (aB 2) aD)))) aD)))
  (aG (aM (aL bL (aL bL (aL bX (a8 (K':=K) (aB 0) rfl) (aB 3)) (aL bX (a8 (K':=K) (aB 0) rfl) (aAE (K':=K) (aB 2) (aA aC aD)))) (aL bX (a8 (K':=K) (aB 0) rfl) (aAE (K':=K) (aB 2) (aA aC aD))))))) ?_
 obtain⟨b0,b1⟩:=hg.begin_;obtain⟨u0,u1⟩:=hg.run;obtain⟨r0,r1⟩:=hg.rest;refine aT (σ:=[some (.ref q),some (.ref t),some (.ref p),none]) rfl ?_;walk_at "w";refine⟨q,m,t,o,d,p,ns,rfl,hm,ht,hp,hl,hn,λc H1 s1 nc gc=>?_⟩;obtain⟨dx,pl,hq,_⟩:=(hm.same s1).ex;have Kx:=s1 _ _ hp;walk_at "w";refine cE hq tx.bO tx.mC rfl ?_;walk_at "w";refine cE hq tx.bO tx.qI rfl ?_;walk_at "w";refine iT (bP.of Kx) ?_;walk_at "w";refine Z2 (bP.of Kx) ?_;walk_at "w";refine cE hq tx.bO tx.oG rfl ?_;walk_at "w";refine iT (bP.of Kx) ?_;walk_at "w";refine Z2 (bP.of Kx) ?_;walk_at "w";rw[bH];exact k1 _ s1
def Ok(m:MS):Int->Int->ae->Prop
 |_,_,[]=>True
 |o,d,on::r=>(o=on\/d=0)/\Ok m (iN m o d on).1 (iN m o d on).2 r
def ed(m:MS):Int->Int->ae->ao
 |o,d,[]=>(o,d)
 |o,d,on::r=>ed m (iN m o d on).1 (iN m o d on).2 r
def Bk(o d:Int):Prop:=nC o/\0<=d/\d < 60
theorem Bk.iN{m:MS}(g:m.Good){o d on:Int}(h:Bk o d)(b:nC on):Bk (iN m o d on).1 (iN m o d on).2:=by
 obtain⟨h0,h1,h2⟩:=h;refine⟨(PX g b).1,(PX g b).2,?_⟩;have u:=g.up;have v:=g.down;unfold My.iN;split
 ·show max (d - 1) 0 < 60;lia
 ·split
  ·show m.up - 1 < 60;lia
  ·show m.down - 1 < 60;lia
def one(_ _:Int):Int:=1
abbrev WP:=(ao)×Int
def qN(k:ao):List Key:=[.inl k.1,.inl k.2]
def enc(ps:List WP):List (List Key×V):=ps.map λp=>(qN p.1,V.int p.2)
theorem L5{a b:ao}(h:qN a=qN b):a=b:=by
 unfold qN at h;simp only[List.cons.injEq,Sum.inl.injEq,and_true] at h;exact Prod.ext h.1 h.2
def xX(ps:List WP)(k:ao):Option Int:=(ps.find? λp=>decide (p.1=k)).map (·.2)
def addW(ps:List WP)(k:ao)(v:Int):List WP:=if ps.any (λp=>decide (p.1=k)) then ps.map (λp=>if p.1=k then (p.1,v) else p) else ps ++ [(k,v)]
theorem aO6(ps:List WP)(k:ao):qS (enc ps) (qN k)=(xX ps k).map V.int:=by
 unfold qS xX enc;induction ps with
 |nil=>rfl
 |cons p r ih=>
  by_cases h:p.1=k
  ·simp[h]
  ·have:qN p.1≠qN k:=λz=>h (L5 z);simp only[jz,As,this,h,decide_false];exact ih
theorem aO7(ps:List WP)(k:ao)(v:Int):putK (enc ps) (qN k) (.int v)=enc (addW ps k v):=by
 unfold putK addW enc;have e:((ps.map λp:WP=>(qN p.1,V.int p.2)).any λkv=>decide (kv.1=qN k))=ps.any λp=>decide (p.1=k):=by
  rw[List.any_map];congr 1;funext p
  show decide (qN p.1=qN k)=decide (p.1=k);exact decide_eq_decide.mpr ⟨L5,λz=>by rw[z]⟩
 rw[e];split
 ·rw[wm,wm];congr 1;funext p
  show(if qN p.1=qN k then (qN p.1,V.int v) else (qN p.1,V.int p.2))=(qN (if p.1=k then (p.1,v) else p).1,V.int (if p.1=k then (p.1,v) else p).2)
  by_cases h:p.1=k
  ·rw[cT h,cT (by rw[h])]
  ·rw[cD h,cD λz=>h (L5 z)]
 ·rw[gR];rfl
def wsum(f:Int->Int->Int)(ps:List WP):Int:=List.sum (ps.map λp=>p.2*f p.1.1 p.1.2)
theorem aGi(f:Int->Int->Int)(p:WP)(ps:List WP):wsum f (p::ps)=p.2*f p.1.1 p.1.2+wsum f ps:=rfl
theorem aNg(f:Int->Int->Int)(ps qs:List WP):wsum f (ps++qs)=wsum f ps+wsum f qs:=by
 unfold wsum;rw[gR,HV]
theorem aO8{ps:List WP}{k:ao}{c:Int}(nd:(ps.map (·.1)).Nodup):((addW ps k ((xX ps k).getD 0+c)).map (·.1)).Nodup/\(∀p∈addW ps k ((xX ps k).getD 0+c),p.1=k\/∃q∈ps,q.1=p.1)/\∀f,wsum f (addW ps k ((xX ps k).getD 0+c))=wsum f ps+c*f k.1 k.2:=by
 unfold addW;by_cases h:ps.any (λp=>decide (p.1=k))=true
 ·rw[cT h];refine⟨?_,λp hp=>?_,λf=>?_⟩
  ·rw[wm];have e:((λp:WP=>p.1) ∘ λp:WP=>if p.1=k then (p.1,(xX ps k).getD 0+c) else p)=λp=>p.1:=by
    funext p
    show(if p.1=k then (p.1,(xX ps k).getD 0+c) else p).1=p.1;split <;> rfl
   rw[e];exact nd
  ·obtain⟨q,hq,rfl⟩:=qQ.mp hp;refine .inr ⟨q,hq,?_⟩;split <;> rfl
  ·have key:∀(qs:List WP),(qs.map (·.1)).Nodup->qs.any (λp=>decide (p.1=k))=true->∀v,(xX qs k).getD 0+c=v->wsum f (qs.map λp=>if p.1=k then (p.1,v) else p)=wsum f qs+c*f k.1 k.2:=by
    intro qs;induction qs with
    |nil=>intro _ z;cases z
    |cons p r ih=>
     intro nd h v hv;rw[jz,ya] at nd;rw[jz,aGi,aGi];by_cases hp:p.1=k
     ·have hn:∀q∈r,¬q.1=k:=λq hq z=>nd.1 (qQ.mpr ⟨q,hq,by rw[z,hp]⟩);have e1:(r.map λp=>if p.1=k then (p.1,v) else p)=r:=by
       conv=>rhs;rw[<-List.map_id r]
       exact List.map_congr_left λq hq=>cD (hn q hq)
      have e2:xX (p::r) k=some p.2:=by unfold xX;simp[hp]
      rw[e2] at hv;rw[e1,cT hp,<-hv,hp];show(p.2+c)*f k.1 k.2+wsum f r=_;rw[Int.add_mul];lia
     ·have h':r.any (λp=>decide (p.1=k))=true:=by simpa [hp] using h
      have e2:xX (p::r) k=xX r k:=by unfold xX;simp[hp]
      rw[e2] at hv;rw[cD hp,ih nd.2 h' v hv];lia
   exact key ps nd h _ rfl
 ·have hn:xX ps k=none:=by
   unfold xX;rw[Option.map_eq_none_iff,List.find?_eq_none];intro p hp z;exact h (F1.mpr ⟨p,hp,z⟩)
  rw[cD h,hn];refine⟨?_,λp hp=>?_,λf=>?_⟩
  ·rw[gR,List.nodup_append];refine⟨nd,by simp,λa ha b hb=>?_⟩;rw[jz,CQ,ng] at hb;rintro rfl;obtain⟨q,hq,e⟩:=qQ.mp ha;exact h (F1.mpr ⟨q,hq,by simpa using e.trans hb⟩)
  ·rcases oa.mp hp with z|z
   ·exact .inr ⟨p,z,rfl⟩
   ·rw[ng.mp z];exact .inl rfl
  ·rw[aNg];show _+((0+c)*f k.1 k.2+0)=_;rw[wk,zu]
theorem Pa:∀(n:Nat) (l:List Nat),l.Nodup->(∀x∈l,x < n)->l.length<=n
 |0,l,_,h=>by
  cases l with
  |nil=>exact eO _
  |cons x r=>exact absurd (h x (.head _)) (by lia)
 |n+1,l,nd,h=>by
  have:=Pa n (l.erase n) (nd.erase n) (λx hx=>by
   have h1:=(nd.mem_erase_iff.mp hx)
   have:=h x h1.2;have:=h1.1;lia)
  rw[List.length_erase] at this;split at this <;> lia
structure Bc(ps:List WP):Prop where
 nd:(ps.map (·.1)).Nodup
 st:∀p∈ps,Bk p.1.1 p.1.2
theorem Bc.len{ps:List WP}(h:Bc ps):ps.length<=120:=by
 have:=Pa 120 ((ps.map (·.1)).map λk=>(k.1*60+k.2).toNat) (by
  rw[List.Nodup,D6];refine h.nd.imp_of_mem ?_;intro a b ha hb N3 z;obtain⟨p,hp,rfl⟩:=qQ.mp ha;obtain⟨q,hq,rfl⟩:=qQ.mp hb;obtain⟨a1,a2,a3⟩:=h.st p hp;obtain⟨b1,b2,b3⟩:=h.st q hq;refine N3 (Prod.ext ?_ ?_)
  ·rcases a1 with a1|a1 <;> rcases b1 with b1|b1 <;> rw[a1,b1] <;> rw[a1,b1] at z <;> lia
  ·rcases a1 with a1|a1 <;> rcases b1 with b1|b1 <;> rw[a1,b1] at z <;> lia) (λx hx=>by
  obtain⟨k,hk,rfl⟩:=qQ.mp hx;obtain⟨p,hp,rfl⟩:=qQ.mp hk;obtain⟨a1,a2,a3⟩:=h.st p hp;rcases a1 with a1|a1 <;> rw[a1] <;> lia)
 simpa using this
theorem Bc.add(h:Bc ps){k:ao}(hk:Bk k.1 k.2)(c:Int):Bc (addW ps k ((xX ps k).getD 0+c)):=by
 obtain⟨h1,h2,_⟩:=aO8 (k:=k) (c:=c) h.nd;refine⟨h1,λp hp=>?_⟩;rcases h2 p hp with z|⟨q,hq,z⟩
 ·rw[z];exact hk
 ·rw[<-z];exact h.st q hq
theorem xO{o d n:Int}(nb:nC n):(iN m o d n).1=n:=by
 unfold My.iN;split
 ·rfl
 ·split
  ·rename_i h;exact h.symm
  ·rename_i h;rcases nb with h'|h'
   ·exact h'.symm
   ·exact absurd h' h
theorem Zm{ys:ae}:∀{xs:ae}{o d:Int}{i:Nat},(∀n∈xs,nC n)->qu o (xs++ys) i=qu o xs i++qu (ed m o d xs).1 ys (i+xs.length)
 |[],_,_,_,_=>rfl
 |x::xs,o,d,i,h=>by
  have ih:=Zm (m:=m) (ys:=ys) (xs:=xs) (o:=x) (d:=(iN m o d x).2) (i:=i+1) λn hn=>h n (xS _ hn);have e:(iN m o d x).1=x:=xO (h x (.head _));show(if x=1/\o=0 then [(i:Int)] else [])++qu x (xs++ys) (i+1)=((if x=1/\o=0 then [(i:Int)] else [])++qu x xs (i+1))++qu (ed m (iN m o d x).1 (iN m o d x).2 xs).1 ys (i+(xs.length+1));rw[ih,e,HZ,show i+1+xs.length=i+(xs.length+1) by lia]
theorem aGj(k:Nat):∀{ys:ae}{o:Int}{i:Nat},qu o ys (i+k)=(qu o ys i).map λh=>(k:Int)+h
 |[],_,_=>rfl
 |y::ys,o,i=>by
  show(if y=1/\o=0 then [((i+k:Nat):Int)] else [])++qu y ys (i+k+1)=((if y=1/\o=0 then [(i:Int)] else [])++qu y ys (i+1)).map _;rw[gR,show i+k+1=i+1+k by lia,aGj k];congr 1;split
  ·rw[jz,CQ,show((i+k:Nat):Int)=(k:Int)+i by lia]
  ·rfl
theorem aNi{xs ys:ae}{o d:Int}(h:∀n∈xs,nC n):wR m o (xs++ys)=wR m o xs+wR m (ed m o d xs).1 ys:=by
 unfold wR;rw[Zm (m:=m) (d:=d) h,iR,List.count_append,List.count_append,show(0:Nat)+xs.length=0+xs.length from rfl,aGj xs.length (i:=0),bH];rw[Int.natCast_add,Int.natCast_add,Int.natCast_add,FY,FY,FY];lia
section
variable{α:Type}
abbrev Wy(α:Type):=Int×α×Int
def gC(f:α->Int):List (Wy α)->Int
 |[]=>0
 |[w]=>w.2.2+f w.2.1
 |w::v::r=>min (w.2.2+f w.2.1) (gC f (v::r))
theorem xP(f:α->Int):∀{ws:List (Wy α)}{w:Wy α},w∈ws->gC f ws<=w.2.2+f w.2.1
 |[],_,h=>by cases h
 |[w],v,h=>by rw[ng.mp h];exact uo _
 |w::v::r,u,h=>by
  show min _ _<=_;rcases lR.mp h with rfl|h
  ·lia
  ·have:=xP f h;lia
theorem tD(f:α->Int):∀{ws:List (Wy α)},ws≠[]->∃w∈ws,w.2.2+f w.2.1=gC f ws
 |[],h=>absurd rfl h
 |[w],_=>⟨w,.head _,rfl⟩
 |w::v::r,_=>by
  obtain⟨u,hu,e⟩:=tD f (ws:=v::r) (by simp);by_cases h:w.2.2+f w.2.1<=gC f (v::r)
  ·exact⟨w,.head _,by show _=min _ _;lia⟩
  ·exact⟨u,xS _ hu,by show _=min _ _;lia⟩
theorem aLw{f:α->Int}{m:Int}(h1:∃w∈ws,w.2.2+f w.2.1=m)(h2:∀w∈ws,m<=w.2.2+f w.2.1):m=gC f ws:=by
 obtain⟨w,hw,e⟩:=h1;have a:=xP f hw;obtain⟨u,hu,e2⟩:=tD f (ws:=ws) (λz=>by rw[z] at hw;cases hw);have b:=h2 u hu;lia
def wF(W:Nat->α->List (Wy α)):Nat->Nat->α->Int
 |0,_,_=>0
 |k+1,i,x=>gC (wF W k (i+1)) (W i x)
def mF(f:α->Int)(ws:List (Wy α)):Option (Wy α):=ws.find? λw=>decide (w.2.2+f w.2.1=gC f ws)
theorem aIC(f:α->Int)(h:ws≠[]):∃w,mF f ws=some w/\w∈ws/\w.2.2+f w.2.1=gC f ws:=by
 obtain⟨u,hu,e⟩:=tD f h;cases q:mF f ws with
 |none=>
  unfold mF at q;rw[List.find?_eq_none] at q;exact absurd (ur e) (q u hu)
 |some w=>
  unfold mF at q;exact⟨w,rfl,C5 q,ua (HU (p:=λw:Wy α=>decide (w.2.2+f w.2.1=gC f ws)) q)⟩
def xk(W:Nat->α->List (Wy α)):Nat->Nat->α->ae
 |0,_,_=>[]
 |k+1,i,x=>match mF (wF W k (i+1)) (W i x) with
  |none=>[]
  |some w=>w.1::xk W k (i+1) w.2.1
def uL(W:Nat->α->List (Wy α)):Nat->α->ae->Option Int
 |_,_,[]=>some 0
 |i,x,c::r=>match (W i x).find? λw=>decide (w.1=c) with
  |none=>none
  |some w=>(uL W (i+1) w.2.1 r).map (w.2.2 + ·)
structure Lay(W:Nat->α->List (Wy α))(n:Nat)(L:Nat->α->Prop):Prop where
 ne:∀i x,i < n->L i x->W i x≠[]
 on:∀i x w,i < n->L i x->w∈W i x->L (i+1) w.2.1
theorem O9{W:Nat->α->List (Wy α)}:∀{row:ae}{i:Nat}{x:α}{v:Int},uL W i x row=some v->wF W row.length i x<=v
 |[],_,_,v,h=>by cases h;exact uo _
 |c::r,i,x,v,h=>by
  unfold uL at h;cases q:(W i x).find? λw=>decide (w.1=c) with
  |none=>rw[q] at h;cases h
  |some w=>
   rw[q] at h;obtain⟨u,hu,rfl⟩:=oi.mp h;have a:=O9 hu;have b:=xP (wF W r.length (i+1)) (C5 q);show gC (wF W r.length (i+1)) (W i x)<=w.2.2+u;lia
def CI(ws:List (Wy α)):Prop:=ws.Pairwise λa b=>a.1 < b.1
theorem QK{ws:List (Wy α)}(h:CI ws){w:Wy α}(hw:w∈ws):(ws.find? λv=>decide (v.1=w.1))=some w:=by
 induction ws with
 |nil=>cases hw
 |cons a r ih=>
  obtain⟨h1,h2⟩:=List.pairwise_cons.mp h;rw[As];rcases lR.mp hw with rfl|hw
  ·simp
  ·have:=h1 w hw;rw[yb (by lia)];exact ih h2 hw
theorem LZ{W:Nat->α->List (Wy α)}{n:Nat}{L:Nat->α->Prop}(hl:Lay W n L)(hr:∀i x,CI (W i x)):∀(k i:Nat) (x:α),i+k<=n->L i x->uL W i x (xk W k i x)=some (wF W k i x)/\(xk W k i x).length=k
 |0,_,_,_,_=>⟨rfl,rfl⟩
 |k+1,i,x,hk,hx=>by
  obtain⟨w,e1,e2,e3⟩:=aIC (wF W k (i+1)) (hl.ne i x (by lia) hx);obtain⟨h1,h2⟩:=LZ hl hr k (i+1) w.2.1 (by lia) (hl.on i x w (by lia) hx e2);have e:xk W (k+1) i x=w.1::xk W k (i+1) w.2.1:=by
   show(match mF (wF W k (i+1)) (W i x) with|none=>[]|some w=>w.1::xk W k (i+1) w.2.1)=_;rw[e1]
  rw[e];refine⟨?_,by rw[mv,h2]⟩;unfold uL;rw[QK (hr i x) e2];show Option.map (w.2.2 + ·) (uL W (i+1) w.2.1 (xk W k (i+1) w.2.1))=_;rw[h1];show some (w.2.2+wF W k (i+1) w.2.1)=some (gC (wF W k (i+1)) (W i x));rw[e3]
theorem Zl{β:Type}{p:β->Bool}:∀{l:List β}{j:Nat}{w:β},l[j]?=some w->(∀x∈l.take j,p x=false)->p w=true->l.find? p=some w
 |[],_,_,h,_,_=>by simp at h
 |a::r,0,w,h,_,hp=>by
  cases h;rw[As,hp]
 |a::r,j+1,w,h,hn,hp=>by
  rw[As,hn a (by rw[List.take_succ_cons];exact .head _)];exact Zl (l:=r) (j:=j) h (λx hx=>hn x (by rw[List.take_succ_cons];exact xS _ hx)) hp
end
inductive PK (α:Type) where
 |ik (f:α->Key) (inj:∀x y,f x=f y->x=y)
 |tk (f:α->List Key) (inj:∀x y,f x=f y->x=y)
def PK.pv{α:Type}:PK α->Hp->V->α->Prop
 |.ik f _,_,v,x=>v=kV (f x)
 |.tk f _,H,v,x=>∃b,v=.ref b/\H b=some (.tup ((f x).map kV))
def PK.da{α:Type}:PK α->Hp->Addr->List α->(α->Int)->Prop
 |.ik f _,H,d,ps,g=>H d=some (.dK (ps.map λx=>(f x,.int (g x))))
 |.tk f _,H,d,ps,g=>H d=some (.dT (ps.map λx=>(f x,.int (g x))))
section
variable{α:Type}{κ:PK α}{H H':Hp}{v:V}{x:α}{d:Addr}{ps:List α}{g g':α->Int}
theorem PK.pO(h:κ.pv H v x)(s:aR H H'):κ.pv H' v x:=by
 cases κ with
 |ik f i=>exact h
 |tk f i=>obtain⟨b,e,hb⟩:=h;exact⟨b,e,s _ _ hb⟩
theorem PK.pP(h:κ.da H d ps g)(s:aR H H'):κ.da H' d ps g:=by
 cases κ with
 |ik f i=>exact s _ _ h
 |tk f i=>exact s _ _ h
theorem uU{κ':Type}[DecidableEq κ']{f:α->κ'}(inj:∀x y,f x=f y->x=y){g:α->Int}:∀{ps:List α},x∈ps->qS (ps.map λx=>(f x,V.int (g x))) (f x)=some (.int (g x))
 |[],h=>by cases h
 |y::r,h=>by
  rw[jz];by_cases e:f y=f x
  ·rw[lA (show(f y,V.int (g y)).1=f x from e),inj _ _ e]
  ·rw[jA (show ¬(f y,V.int (g y)).1=f x from e)];rcases lR.mp h with rfl|h
   ·exact absurd rfl e
   ·exact uU inj h
theorem aGk{κ':Type}[DecidableEq κ']{f:α->κ'}(inj:∀x y,f x=f y->x=y){g:α->Int}:∀{ps:List α},x∉ps->qS (ps.map λx=>(f x,V.int (g x))) (f x)=none
 |[],_=>rfl
 |y::r,h=>by
  rw[jz,jA (show ¬(f y,V.int (g y)).1=f x from λz=>h (by rw[inj _ _ z];exact .head _))];exact aGk inj λz=>h (xS _ z)
theorem PK.get(h:κ.da H d ps g)(hv:κ.pv H v x)(hx:x∈ps):uW H d v (some (.int (g x))):=by
 cases κ with
 |ik f i=>
  have Ae:v=kV (f x):=hv;subst Ae;have z:=uW.k (k:=f x) (show H d=some (.dK _) from h);rw[uU i hx] at z;exact z
 |tk f i=>
  obtain⟨b,rfl,hb⟩:=hv;have z:=uW.t (show H d=some (.dT _) from h) hb;rw[uU i hx] at z;exact z
theorem Qv{κ':Type}[DecidableEq κ']{f:α->κ'}(inj:∀x y,f x=f y->x=y){g:α->Int}{x:α}{ps:List α}(hx:x∉ps):putK (ps.map λx=>(f x,V.int (g x))) (f x) (.int (g x))=(ps ++ [x]).map λx=>(f x,V.int (g x)):=by
 unfold putK;rw[Ma,aGk inj hx,gR];rfl
theorem PK.put(h:κ.da H d ps g)(hv:κ.pv H v x)(hx:x∉ps)(hl:ps.length < 1000000):∃H',Aq H d v (.int (g x)) H'/\κ.da H' d (ps ++ [x]) g/\cI d H H':=by
 have lt:ps.length < sizeLine:=rQ hl (bV (by decide));cases κ with
 |ik f i=>
  have Ae:v=kV (f x):=hv;subst Ae;refine⟨_,Aq.k (k:=f x) (show H d=some (.dK _) from h) (by rw[bH];exact lt),?_,cI.upd⟩;show upd H d _ d=_;rw[aP,Qv i hx]
 |tk f i=>
  obtain⟨b,rfl,hb⟩:=hv;refine⟨_,Aq.t (show H d=some (.dT _) from h) hb (by rw[bH];exact lt),?_,cI.upd⟩;show upd H d _ d=_;rw[aP,Qv i hx]
theorem PK.new{Q:VK}(κ:PK α)(g:α->Int)(h:∀p H',H p=none->aR H H'->κ.da H' p [] g->Q (.ref p) H'):HF σ H Q:=by
 cases κ with
 |ik f i=>exact aLn λp np=>h p _ np (aR.new np) aP
 |tk f i=>exact aF6 λp np=>h p _ np (aR.new np) aP
theorem PK.YZ(h:κ.da H d ps g)(e:H d=some (.lst xs)):False:=by
 cases κ with
 |ik f i=>have h':H d=some (.dK _):=h;rw[e] at h';cases h'
 |tk f i=>have h':H d=some (.dT _):=h;rw[e] at h';cases h'
def BD(κ:PK α)(H:Hp)(a:Addr)(w:Wy α):Prop:=∃v,H a=some (.tup [.int w.1,v,.int w.2.2])/\κ.pv H v w.2.1
theorem BD.same(h:BD κ H a w)(s:aR H H'):BD κ H' a w:=let ⟨v,e,p⟩:=h;⟨v,s _ _ e,κ.pO p s⟩
structure tE(κ:PK α)(H:Hp)(l:Addr)(ws:List (Wy α)):Prop where
 ex:∃as,H l=some (.lst (as.map V.ref))/\RL (BD κ H) as ws
theorem tE.same(h:tE κ H l ws)(s:aR H H'):tE κ H' l ws:=let ⟨as,e,r⟩:=h.ex;⟨as,s _ _ e,r.imp λ_ _ z=>z.same s⟩
structure wU(κ:PK α)(C:Addr->Sp->Prop)(H:Hp)(f:Addr)(W:Nat->α->List (Wy α))(L:Nat->α->Prop):Prop where
 ex:∃xc,C f xc/\∀(H':Hp) (h:Nat) (v:V) (x:α) (Q:VK),aR H H'->L h x->κ.pv H' v x->(∀l Rt,aR H' Rt->tE κ Rt l (W h x)->Q (.ref l) Rt)->xc [.int (h:Int),v] H' Q E0
theorem wU.same{C:Addr->Sp->Prop}{W:Nat->α->List (Wy α)}{L:Nat->α->Prop}(h:wU κ C H f W L)(s:aR H H'):wU κ C H' f W L:=
 let ⟨xc,c,p⟩:=h.ex;⟨xc,c,λH2 a v x Q s2=>p H2 a v x Q (s.trans s2)⟩
def zw(κ:PK α)(H:Hp)(vs:List V)(ps:List α):Prop:=vs.length=ps.length/\∀(i:Nat) v x,vs[i]?=some v->ps[i]?=some x->κ.pv H v x
theorem zw.same(h:zw κ H vs ps)(s:aR H H'):zw κ H' vs ps:=⟨h.1,λi v x h1 h2=>κ.pO (h.2 i v x h1 h2) s⟩
theorem zw.get{vs:List V}(h:zw κ H vs ps){i:Nat}(e:vs[i]?=some v):∃x,ps[i]?=some x/\κ.pv H v x:=by
 have li:i < ps.length:=by rw[<-h.1];exact(iZ.mp e).1
 exact⟨_,dM li,h.2 i v _ e (dM li)⟩
end
theorem tF{α:Type}{l:List α}{i:Nat}{x:α}(h:l[i]?=some x):l.take (i+1)=l.take i ++ [x]:=by rw[BK,h];rfl
theorem RL.gt{α:Type}{P:Addr->α->Prop}{as:ay}{xs:List α}(h:RL P as xs){i:Nat}(hv:(as.map V.ref)[i]?=some v):∃a x,as[i]?=some a/\v=.ref a/\xs[i]?=some x/\P a x:=by
 rw[nE] at hv;obtain⟨a,e,rfl⟩:=oi.mp hv;have li:i < xs.length:=by rw[<-h.len];exact(iZ.mp e).1
 exact⟨a,xs[i],e,rfl,dM li,h.at_ i a _ e (dM li)⟩
inductive aC8  (K:W.Frag) (vs:List V) (H:Hp) (Q:VK) (E:XK):Prop
 |mk:∀(α:Type) (κ:PK α) (l d:Addr) (ws:List (Wy α)) (ps:List α) (g:α->Int),(vs=[.ref l,.ref d])->tE κ H l ws->κ.da H d ps g->(ws≠[])->(ws.length<=10000)->((∀w∈ws,w.2.1∈ps))->(∀H',aR H H'->Q (.int (gC g ws)) H')->aC8 K vs H Q E
theorem aC9(tx:Txt K mg a):bQ P w K mg base eR 1 a.aEk a.aEm aua (aC8 K):=by
 refine tx.js.F.ok aIr (by walk_at "l") λbq A outer s H vs Q E hr h=>?_;obtain⟨α,κ,l,d,ws,ps,g,rfl ,hw,hd,cq,hlen,DK,k⟩:=h;have hu:=fV hr;refine aY (aG (aM (aN (rc:=Lr K) (aF5 rfl) (by rfl) tx.wJ rV (aA (bR (k:=3) (idx:=[1]) (N:=a4a) (bY (sc:=aI sM) (NX:=aua) rfl rfl rfl (by decide +kernel)) rfl (bI (K':=K) (aB 0)) (λ_ _ _ _=>(bK (K':=K) (n:=3) rfl (aO (aJ (i:=0) (show(a4a:ah).Nodup by decide +kernel)) (aO (aJ (i:=1) (show(a4a:ah).Nodup by decide +kernel)) (aO (aJ (i:=2) (show(a4a:ah).Nodup by decide +kernel)) bJ))))) (fY (bF (by decide) (bF (by decide) (bF (by decide) eQ)))) (λ_ _ _ _=>bE) (λ_ _ _ _=>(aL bL (aB 2) (o5 hu (aB 3) (aB 1))))) aD)))) ?_;obtain⟨as,gl,rl⟩:=hw.ex;have zk:=rl.len;refine aT (σ:=[some (.ref l),some (.ref d)]) rfl ?_;walk_at "w";refine fO (bP.of gl) ?_;refine dF (xs:=as.map V.ref) (λj us H'=>H'=H/\us=(((ws.take j).map λw=>w.2.2+g w.2.1).map V.int)) ⟨rfl,rfl⟩ (bV (by rw[bH];lia))
  (λj us H' hj ⟨e0,e1⟩=>⟨by rw[e0];exact bP.of gl,by rw[e1,bH,bH,og];lia⟩) (λj v us H' hv SW=>?_) (λus H' SV=>?_)
 ·obtain⟨e0,e1⟩:=SW;subst e0;obtain⟨a1,w,ea,rfl,ew,vv,g1,hp⟩:=rl.gt hv;refine cM (gZ.of g1) rfl ?_;walk_at "w";refine⟨d,_,rfl,κ.get hd hp (DK w (jW ew)),?_⟩;walk_at "w";refine⟨rfl,?_⟩;rw[e1,tF ew,gR,gR];rfl
 obtain⟨e0,e1⟩:=SV;subst e0 e1;rw[bH,zk,mq];intro l2 n2;obtain⟨H2,i2,s2,g2⟩:=nw _ n2;rw[i2];walk_at "w";refine Zs (bP.of g2) (by simpa using cq) λm hm hle=>?_;have e:m=gC g ws:=aLw (by
  obtain⟨w,hw,e⟩:=qQ.mp hm;exact⟨w,hw,e⟩) λw hw=>hle _ (qQ.mpr ⟨w,hw,rfl⟩)
 rw[e];exact k H2 s2
inductive tY  (K:W.Frag) (C:Addr->Sp->Prop) (vs:List V) (H:Hp) (Q:VK) (E:XK):Prop
 |mk:∀(α:Type) (κ:PK α) (lp d f:Addr) (h:Nat) (us:List V) (ps bs:List α) (g:α->Int) (W:Nat->α->List (Wy α)) (L:Nat->α->Prop),(vs=[.ref lp,.int (h:Int),.ref d,.ref f])->(H lp=some (.lst us))->zw κ H us ps->ps.Nodup->(ps.length<=10000)->κ.da H d bs g->wU κ C H f W L->((∀x∈ps,L h x/\W h x≠[]/\(W h x).length<=10000/\∀w∈W h x,w.2.1∈bs))->(∀q H',aR H H'->H q=none->κ.da H' q ps (λx=>gC g (W h x))->Q (.ref q) H')->tY K C vs H Q E
theorem aDp(tx:Txt K mg a):bQ P w K mg base eR 10 a.vV a.vW aZa (tY K (BR P w K mg base (8+1))):=by
 have QQ:=aC9 (P:=P) (w:=w) (base:=base) tx;refine tx.ip.F.ok lV (by walk_at "l") λbq A outer s H vs Q E hr h=>?_;obtain⟨α,κ,lp,d,f,h,us,ps,bs,g,W,L,rfl ,gl,Cu,zl,hlen,hd,hW,DB,k⟩:=h;have hu:=fV hr;refine aY (aE (aK (i:=4) lV.nd vD)
  (aE (bZ PassesOwn.never rfl (bI (K':=K) (aB 0)) (aJ (i:=5) lV.nd) (aG (zY hu (aB 4) (aB 5) (bh QQ hr tx.js (aA (aCo (P:=P) (w:=w) (K:=K) (mg:=mg) (base:=base) (i:=3) (k:=8+1) (hr.mono (by decide)) (aA (aB 1) (aA (aB 5) aD))) (aA (aB 2) aD))))))
  (aG (aM (aB 4))))) ?_
 obtain⟨xc,hC,hp⟩:=hW.ex;have M7:=Cu.1;refine aT (σ:=[some (.ref lp),some (.int (h:Int)),some (.ref d),some (.ref f),none,none]) rfl ?_;walk_at "w";refine κ.new (λx=>gC g (W h x)) λwd H1 VO s1 dw=>?_;walk_at "w";refine fO (bP.of (s1 _ _ gl)) ?_;refine xE (xs:=us) (λi σ' H'=>aR H H'/\κ.da H' wd (ps.take i) (λx=>gC g (W h x))/\∃z,σ'=[some (.ref lp),some (.int (h:Int)),some (.ref d),some (.ref f),some (.ref wd),z]) ⟨s1,dw,_,rfl⟩
  (λi σ' H' hi ⟨s',_⟩=>bP.of (s' _ _ gl)) (λi v σ' H' hv SU=>?_) (λσ' H' SR=>?_)
 ·obtain⟨s',Fq,z,e⟩:=SU;subst e;obtain⟨x,ex,px⟩:=Cu.get hv;obtain⟨o1,o2,o3,o4⟩:=DB x (jW ex);walk_at "w";refine ZZ rfl hC ?_;walk_at "w";refine hp H' h v x _ s' o1 (κ.pO px s') λl H2 s2 Kq=>?_;have Gk:=s'.trans s2;walk_at "w";refine⟨α,κ,l,d,W h x,bs,g,rfl,Kq,κ.pP hd Gk,o2,o3,o4,λH3 s3=>?_⟩;have nz:=Gk.trans s3;walk_at "w";have nx:x∉ps.take i:=λz=>by
   have hi:i < ps.length:=(iZ.mp ex).1;obtain⟨j,hj,ej⟩:=List.getElem_of_mem z;rw[og] at hj;rw[List.getElem_take] at ej;have e2:ps[i]=x:=(iZ.mp ex).2;have:=(List.getElem_inj zl).mp (ej.trans e2.symm);lia
  obtain⟨H4,p4,d4,k4⟩:=κ.put (κ.pP Fq (s2.trans s3)) (κ.pO px nz) nx (by rw[og];lia);refine⟨wd,H4,rfl,p4,?_⟩;walk_at "w";refine⟨λb o e=>k4 _ _ (nz _ _ e) (bG VO e),?_,_,rfl⟩;rw[tF ex];exact d4
 ·obtain⟨s',Fq,z,e⟩:=SR;subst e;walk_at "w";rw[M7,mq] at Fq;exact k wd H' s' VO Fq
structure Hn{α:Type}(κ:PK α)(H:Hp)(a:Addr)(Ls:List (List α)):Prop where
 ex:∃as,H a=some (.lst (as.map V.ref))/\RL (λb ps=>∃us,H b=some (.lst us)/\zw κ H us ps) as Ls
theorem Hn.same{α:Type}{κ:PK α}{Ls:List (List α)}(h:Hn κ H a Ls)(s:aR H H'):Hn κ H' a Ls:=
 let ⟨as,e,r⟩:=h.ex;⟨as,s _ _ e,r.imp λ_ _ ⟨us,e,p⟩=>⟨us,s _ _ e,p.same s⟩⟩
structure DV{α:Type}(κ:PK α)(H:Hp)(a:Addr)(Ls:List (List α))(F:Nat->α->Int):Prop where
 ex:∃ds:ay,H a=some (.lst (ds.map V.ref))/\ds.length=Ls.length/\∀(i:Nat) d ps,ds[i]?=some d->Ls[i]?=some ps->κ.da H d ps (F i)
theorem DV.same{α:Type}{κ:PK α}{Ls:List (List α)}{F:Nat->α->Int}(h:DV κ H a Ls F)(s:aR H H'):DV κ H' a Ls F:=
 let ⟨ds,e,l,r⟩:=h.ex;⟨ds,s _ _ e,l,λi d ps h1 h2=>κ.pP (r i d ps h1 h2) s⟩
structure Lo{α:Type}(W:Nat->α->List (Wy α))(Ls:List (List α)):Prop where
 pos:0 < Ls.length
 nd:∀ps∈Ls,ps.Nodup
 yp:∀ps∈Ls,ps.length<=10000
 ne:∀(i:Nat) ps x,Ls[i]?=some ps->i+1 < Ls.length->x∈ps->W i x≠[]/\(W i x).length<=10000
 on:∀(i:Nat) ps qs x w,Ls[i]?=some ps->Ls[i+1]?=some qs->x∈ps->w∈W i x->w.2.1∈qs
theorem aHN{xs:List V}(h:0 < xs.length):lT xs (-1)=xs[xs.length - 1]?:=by
 have e:uk xs.length (-1)=some (xs.length - 1):=by
  unfold uk;rw[cD (by lia),cT (by lia)];congr 1;lia
 unfold lT;rw[e];rfl
theorem PK.Zk{α:Type}{κ:PK α}{ps:List α}{g:α->Int}(h:κ.da H d ps g)(n:d≠p)(k:cI p H H'):κ.da H' d ps g:=by
 cases κ with
 |ik f i=>exact k _ _ h n
 |tk f i=>exact k _ _ h n
theorem PK.P9{α:Type}{κ:PK α}{x:α}(h:κ.pv H v x)(gp:H p=some (.lst xs))(k:cI p H H'):κ.pv H' v x:=by
 cases κ with
 |ik f i=>exact h
 |tk f i=>
  obtain⟨b,e,hb⟩:=h;exact⟨b,e,k _ _ hb λz=>by rw[z,gp] at hb;cases hb⟩
theorem Hy{as:ay}{i:Nat}(h:as[i]?=some a):(as.map V.ref)[i]?=some (.ref a):=by rw[nE,h];rfl
inductive gY  (K:W.Frag) (C:Addr->Sp->Prop) (vs:List V) (H:Hp) (Q:VK) (E:XK):Prop
 |mk:∀(α:Type) (κ:PK α) (la f:Addr) (Ls:List (List α)) (W:Nat->α->List (Wy α)) (L:Nat->α->Prop),(vs=[.ref la,.ref f])->Hn κ H la Ls->Lo W Ls->(Ls.length<=10000)->wU κ C H f W L->((∀(i:Nat) ps x,Ls[i]?=some ps->i+1 < Ls.length->x∈ps->L i x))->(∀q H',aR H H'->H q=none->DV κ H' q Ls (λi=>wF W (Ls.length - 1 - i) i)->Q (.ref q) H')->gY K C vs H Q E
theorem pQ(tx:Txt K mg a):bQ P w K mg base eR 11 a.qX a.qY bAa (gY K (BR P w K mg base (8+1))):=by
 have aEE:=aDp (P:=P) (w:=w) (base:=base) tx;refine tx.bj.F.ok eB (by walk_at "l") λbq A outer s H vs Q E hr h=>?_;obtain⟨α,κ,la,f,Ls,W,L,rfl ,GH,bf,hlen,hW,hL,k⟩:=h;have hu:=fV hr;refine aY (aE (aK (i:=2) eB.nd vD)
  (aE (bZ PassesOwn.never rfl (bI (K':=K) (aH (K':=K) (aB 0) (lF uT aC))) (aJ (i:=3) eB.nd) (aG (zY hu (aB 2) (aB 3) aC)))
  (aE (aK (i:=4) eB.nd (mT (aB 2)))
  (aE (bZ PassesOwn.never rfl (aGS (by rfl) tx.eE (aA (aL dS (aN (rc:=mS K) cO (by rfl) tx.hX fB (aA (aB 0) aD)) aC) (aA (lF uT aC) (aA (lF uT aC) aD)))) (aJ (i:=5) eB.nd) (aE (aK (i:=2) eB.nd (bh aEE hr tx.ip (aA (aH (K':=K) (aB 0) (aB 5)) (aA (aB 5) (aA (aB 2) (aA (aB 1) aD))))))
  (aG (dC (dW (K':=K) (aB 4) (aA (aB 2) aD))))))
  (aG (aM (aFb rfl (by rfl) tx.qJ (by rfl) tx.QX (aA (aB 4) aD)))))))) ?_
 obtain⟨as,ga,ra⟩:=GH.ex;have zk:=ra.len;have pos:=bf.pos;obtain⟨n,hn⟩ : ∃n,Ls.length=n+1:=⟨Ls.length - 1,by lia⟩
 have el:as[n]?=some as[n]:=dM (by lia);have ll:Ls[n]?=some Ls[n]:=dM (by lia);obtain⟨us,gu,pu⟩:=ra.at_ n _ _ el ll;generalize as[n]=an at el gu;generalize Ls[n]=pn at ll pu;have lpn:=bf.yp pn (jW ll);have ndn:=bf.nd pn (jW ll);have M7:=pu.1;have ai:lT (as.map V.ref) (-1)=some (.ref an):=by
  rw[aHN (by rw[bH];lia),bH,zk,hn,Nat.add_sub_cancel];exact Hy el
 refine aT (σ:=[some (.ref la),some (.ref f),none,none,none,none]) rfl ?_;walk_at "w";refine κ.new (λ_=>0) λbd H1 nbd s1 db=>?_;have Oo:=s1 _ _ ga;walk_at "w";refine fO (bP.of (s1 _ _ gu)) ?_;refine xE (xs:=us) (λi σ' H'=>aR H H'/\κ.da H' bd (pn.take i) (λ_=>0)/\∃z,σ'=[some (.ref la),some (.ref f),some (.ref bd),z,none,none]) ⟨s1,db,_,rfl⟩
  (λi σ' H' hi ⟨s',_⟩=>bP.of (s' _ _ gu)) (λi v σ' H' hv SQ=>?_) (λσ' H2 SO=>?_)
 ·obtain⟨s',Fq,z,e⟩:=SQ;subst e;obtain⟨x,ex,px⟩:=pu.get hv;walk_at "w";have nx:x∉pn.take i:=λz=>by
   obtain⟨j,hj,ej⟩:=List.getElem_of_mem z;rw[og] at hj;rw[List.getElem_take] at ej;have e2:pn[i]'((iZ.mp ex).1)=x:=(iZ.mp ex).2;have:=(List.getElem_inj ndn).mp (ej.trans e2.symm);lia
  obtain⟨H4,p4,d4,k4⟩:=κ.put Fq (κ.pO px s') nx (by rw[og];lia);refine⟨bd,H4,rfl,p4,?_⟩;walk_at "w";refine⟨λb o e=>k4 _ _ (s' _ _ e) (bG nbd e),?_,_,rfl⟩;rw[tF ex];exact d4
 ·obtain⟨s2,d2,z,e⟩:=SO;subst e;rw[M7,mq] at d2;have GY:=s2 _ _ ga;walk_at "w";intro lw EN;obtain⟨H3,i3,s3,g3⟩:=nw _ EN;rw[i3];have nz:=s2.trans s3;have ga3:=nz _ _ ga;have ER:H lw=none:=s2.free EN;walk_at "w";refine⟨_,_,rfl,by rw[bH,zk];lia,?_⟩;rw[show(((as.map V.ref).length:Int) - 2 - -1).toNat=n by rw[bH,zk,hn];lia];refine aOY (n:=n) (λi σ' H'=>aR H H'/\(∃ds:ay,H' lw=some (.lst (ds.map V.ref))/\ds.length=i+1/\(∃d,ds[i]?=some d/\σ'[2]?=some (some (.ref d)))/\∀(j:Nat) d ps,ds[j]?=some d->Ls[n - j]?=some ps->κ.da H' d ps (wF W j (n - j)))/\∃b z5,σ'=[some (.ref la),some (.ref f),some (.ref b),z,some (.ref lw),z5])
   ⟨nz,⟨[bd],g3,rfl,⟨bd,rfl,rfl⟩,λj d ps h1 h2=>?_⟩,_,_,rfl⟩ (λi σ' H' hi SN=>?_) (λσ' H' SM=>?_)
  ·match j,h1 with
   |0,h1=>
    cases h1;rw[HP,ll] at h2;cases h2;exact κ.pP d2 s3
   |j+1,h1=>simp at h1
  ·obtain⟨s',⟨ds,gd,ld,⟨d,ed,e2⟩,hd⟩,b,z5,e⟩:=SN;subst e;have CD:some (some (V.ref b))=some (some (.ref d)):=e2;cases CD;have hh:(((as.map V.ref).length:Int) - 2 - (i:Int))=((n - 1 - i:Nat):Int):=by rw[bH,zk,hn];lia
   rw[hh];have ea:as[n - 1 - i]?=some as[n - 1 - i]:=dM (by lia);have eL:Ls[n - 1 - i]?=some Ls[n - 1 - i]:=dM (by lia);have OB:Ls[n - i]?=some Ls[n - i]:=dM (by lia);obtain⟨EI,WT,VH⟩:=ra.at_ _ _ _ ea eL;generalize as[n - 1 - i]=ax at ea WT;generalize Ls[n - 1 - i]=px at eL VH;have Yd:=hd i d _ ed OB;generalize Ls[n - i]=qx at OB Yd;have ga':=s' _ _ ga;have ix:lT (as.map V.ref) ((n - 1 - i:Nat):Int)=some (.ref ax):=gU (Hy ea);walk_at "w";have e1:n - 1 - i+1=n - i:=by lia
   refine⟨α,κ,ax,d,f,n - 1 - i,EI,px,qx,wF W i (n - i),W,L,rfl,s' _ _ WT,VH.same s',bf.nd px (jW eL),bf.yp px (jW eL),Yd,hW.same s',λx hx=>?_,λq H4 s4 nq dq=>?_⟩
   ·obtain⟨n1,n2⟩:=bf.ne _ px x eL (by lia) hx;exact⟨hL _ px x eL (by lia) hx,n1,n2,λw hw=>bf.on _ px qx x w eL (by rw[e1];exact OB) hx hw⟩
   have KP:=s4 _ _ gd;walk_at "w";refine iT (bP.of KP) ?_;walk_at "w";refine j0 (xs:=ds.map V.ref) KP (rQ (by rw[bH];lia:(ds.map V.ref).length < 20000) (bV (by decide))) ?_;obtain⟨H5,i5,k5,g5⟩:=wr H4 lw _;rw[i5];walk_at "w";refine⟨λb o e=>k5 _ _ (s4 _ _ (s' _ _ e)) (bG ER e),⟨ds ++ [q],by rw[g5,gR];rfl,by rw[iR,ld];rfl,⟨q,by rw[vo (by lia),ld,yw];rfl,rfl⟩,λj d ps h1 h2=>?_⟩,_,_,rfl⟩;by_cases hj:j < i+1
   ·rw[vf (by lia)] at h1;have z:=κ.pP (hd j d ps h1 h2) s4;exact κ.Zk z (λy=>κ.YZ z (by rw[y];exact KP)) k5
   ·have qi:j < (ds ++ [q]).length:=(iZ.mp h1).1;rw[iR,qf] at qi;obtain rfl:j=i+1:=by lia
    rw[vo (by lia),ld,yw] at h1;cases h1;rw[show n - (i+1)=n - 1 - i by lia,eL] at h2;cases h2;have z:=κ.Zk dq (λy=>κ.YZ dq (by rw[y];exact KP)) k5;have ee:(λx=>gC (wF W i (n - i)) (W (n - 1 - i) x))=wF W (i+1) (n - (i+1)):=by
     rw[show n - (i+1)=n - 1 - i by lia];funext x
     show _=gC (wF W i (n - 1 - i+1)) (W (n - 1 - i) x);rw[e1]
    rw[<-ee];exact z
  ·obtain⟨s',⟨ds,gd,ld,⟨d,ed,e2⟩,hd⟩,b,z5,e⟩:=SM;subst e;walk_at "w";refine⟨lw,_,rfl,gd,λq nq=>?_⟩;obtain⟨H5,i5,s5,g5⟩:=nw _ nq;rw[i5];walk_at "w";refine k q H5 (s'.trans s5) (s'.free nq) ⟨⟨ds.reverse,by rw[g5,List.map_reverse],by rw[Mj,ld,hn],λi d ps h1 h2=>?_⟩⟩;have hi:i < ds.length:=by rw[<-Mj];exact(iZ.mp h1).1
   rw[List.getElem?_reverse hi] at h1;have z:=hd _ d ps h1 (by rw[show n - (ds.length - 1 - i)=i by lia];exact h2);rw[show n - (ds.length - 1 - i)=i by lia,show ds.length - 1 - i=Ls.length - 1 - i by lia] at z;exact κ.pP z s5
inductive zC  (K:W.Frag) (vs:List V) (H:Hp) (Q:VK) (E:XK):Prop
 |mk:∀(α:Type) (κ:PK α) (l d:Addr) (ws:List (Wy α)) (ps:List α) (g:α->Int),(vs=[.ref l,.ref d])->tE κ H l ws->κ.da H d ps g->(ws≠[])->(ws.length<=10000)->((∀w∈ws,w.2.1∈ps))->(∀a w H',aR H H'->mF g ws=some w->BD κ H' a w->Q (.ref a) H')->zC K vs H Q E
theorem aFp(tx:Txt K mg a):bQ P w K mg base eR 2 a.aAT a.aAU aua (zC K):=by
 have QQ:=aC9 (P:=P) (w:=w) (base:=base) tx;refine tx.ko.F.ok yC (by walk_at "l") λbq A outer s H vs Q E hr h=>?_;obtain⟨α,κ,l,d,ws,ps,g,rfl ,hw,hd,cq,hlen,DK,k⟩:=h;have hu:=fV hr;refine aY (aE (m9 (i:=2) yC.nd rfl (Or.inr rfl) (bh QQ hr tx.js (aA (aB 0) (aA (aB 1) aD))))
  (aG (aM (aH (K':=K) (bR (k:=1) (idx:=[1,2]) (N:=["way","behind","least"]) (bY (sc:=aI mU) (NX:=["ways","behind","least"]) rfl rfl rfl (by decide +kernel)) rfl (bI (K':=K) (aB 0)) (λ_ _ _ _=>(aJ (i:=0) (show(["way","behind","least"]:ah).Nodup by decide +kernel))) (cJ (by decide)) (λ_ _ _ _=>(hU (aV (r:=iJ K) (cZ hu) (aL bL (aH (K':=K) (aB 0) aC) (o5 hu (aB 1) (aH (K':=K) (aB 0) aC))) (aB 2) (bD _)))) (λ_ _ _ _=>(aB 0))) aC)))) ?_
 refine aT (σ:=[some (.ref l),some (.ref d),none]) rfl ?_;walk_at "w";refine⟨α,κ,l,d,ws,ps,g,rfl,hw,hd,cq,hlen,DK,λH1 s1=>?_⟩;obtain⟨as,gl,rl⟩:=(hw.same s1).ex;have zk:=rl.len;have NS:=κ.pP hd s1;walk_at "w";refine fO (bP.of gl) ?_;refine dF (xs:=as.map V.ref) (λj us H'=>H'=H1/\us.length<=j/\(us=[]->∀w∈ws.take j,¬w.2.2+g w.2.1=gC g ws)/\∀u,us[0]?=some u->∃a w,u=.ref a/\mF g ws=some w/\BD κ H1 a w) ⟨rfl,eO _,(λ_ w hw=>by simp at hw),(λu hu=>by simp at hu)⟩ (bV (by rw[bH];lia))
  (λj us H' hj ⟨e0,e1,_⟩=>⟨by rw[e0];exact bP.of gl,e1⟩) (λj v us H' hv SK=>?_) (λus H' SJ=>?_)
 ·obtain⟨e0,e1,e2,e3⟩:=SK;subst e0;obtain⟨a1,w,ea,rfl,ew,vv,g1,hp⟩:=rl.gt hv;walk_at "w";refine⟨d,_,rfl,κ.get NS hp (DK w (jW ew)),?_⟩;walk_at "w";refine cB (λh=>?_) (λh=>?_)
  ·walk_at "w";refine⟨rfl,by rw[iR,qf];lia,(λz=>by simp at z),λu hu=>?_⟩;cases us with
   |nil=>
    cases hu;refine⟨a1,w,rfl,?_,vv,g1,hp⟩;unfold mF;exact Zl ew (λx hx=>yb (e2 rfl x hx)) (ur h)
   |cons y r=>exact e3 u hu
  ·walk_at "w";refine⟨rfl,by lia,λz x hx=>?_,e3⟩;rw[tF ew] at hx;rcases oa.mp hx with q|q
   ·exact e2 z x q
   ·rw[ng.mp q];exact h
 obtain⟨e0,e1,e2,e3⟩:=SJ;subst e0;rw[bH,zk,mq] at e2;obtain⟨w0,hw0,we⟩:=tD g cq;cases us with
 |nil=>exact absurd we (e2 rfl w0 hw0)
 |cons u0 r=>
  obtain⟨a1,w,rfl,f1,hA⟩:=e3 u0 rfl;intro l2 n2;obtain⟨H2,i2,s2,g2⟩:=nw _ n2;rw[i2];have ix:lT (V.ref a1::r) 0=some (.ref a1):=gU (j:=0) rfl;walk_at "w";exact k a1 w H2 (s1.trans s2) f1 (hA.same s2)
inductive m7  (K:W.Frag) (C:Addr->Sp->Prop) (vs:List V) (H:Hp) (Q:VK) (E:XK):Prop
 |mk:∀(α:Type) (κ:PK α) (v:V) (x:α) (p0:List α) (lw f:Addr) (Ls:List (List α)) (W:Nat->α->List (Wy α)) (L:Nat->α->Prop),(vs=[v,.ref lw,.ref f])->κ.pv H v x->(DV κ H lw Ls (λi=>wF W (Ls.length - 1 - i) i))->(Ls[0]?=some p0)->(x∈p0)->Lo W Ls->(Ls.length<=10000)->wU κ C H f W L->((∀(i:Nat) ps x,Ls[i]?=some ps->i+1 < Ls.length->x∈ps->L i x))->(∀q H',aR H H'->H q=none->H' q=some (.lst ((xk W (Ls.length - 1) 0 x).map V.int))->Q (.ref q) H')->m7 K C vs H Q E
theorem aBt(tx:Txt K mg a):bQ P w K mg base eR 10 a.aCB a.aCC bga (m7 K (BR P w K mg base (8+1))):=by
 have aHb:=aFp (P:=P) (w:=w) (base:=base) tx;refine tx.cg.F.ok jK (by walk_at "l") λbq A outer s H vs Q E hr h=>?_;obtain⟨α,κ,v,x,p0,lw,f,Ls,W,L,rfl ,hv,A5,hp0,hx0,bf,hlen,hW,hL,k⟩:=h;have hu:=fV hr;refine aY (aE (aK (i:=3) jK.nd (eM aD))
  (aE (bZ PassesOwn.never rfl (cP (by rfl) tx.eE (aA (aL dS (aN (rc:=mS K) cO (by rfl) tx.hX fB (aA (aB 1) aD)) aC) aD)) (aJ (i:=4) jK.nd) (aE (aK (i:=5) jK.nd (bh aHb hr tx.ko (aA (aCo (P:=P) (w:=w) (K:=K) (mg:=mg) (base:=base) (i:=2) (k:=8+1) (hr.mono (by decide)) (aA (aB 4) (aA (aB 0) aD))) (aA (aH (K':=K) (aB 1) (aL bL (aB 4) aC)) aD))))
  (aE (dC (dW (K':=K) (aB 3) (aA (aH (K':=K) (aB 5) aC) aD)))
  (aG (aK (i:=0) jK.nd (aH (K':=K) (aB 5) aC))))))
  (aG (aM (aB 3))))) ?_
 obtain⟨ds,KL,Ki,UN⟩:=A5.ex;obtain⟨xc,hC,hp⟩:=hW.ex;have pos:=bf.pos;obtain⟨n,hn⟩ : ∃n,Ls.length=n+1:=⟨Ls.length - 1,by lia⟩
 refine aT (σ:=[some v,some (.ref lw),some (.ref f),none,none,none]) rfl ?_;walk_at "w";intro lr MW;obtain⟨H1,i1,s1,g1⟩:=nw _ MW;rw[i1];have a0B:=s1 _ _ KL;walk_at "w";refine⟨by rw[bH];lia,by rw[bH];lia,?_⟩;rw[show(((ds.map V.ref).length:Int) - 1).toNat=n by rw[bH,Ki,hn];lia];refine lD (n:=n) (λi σ' H'=>aR H H'/\∃(row:ae) (u:V) (y:α) (ps:List α) (z4 z5:Option V),σ'=[some u,some (.ref lw),some (.ref f),some (.ref lr),z4,z5]/\H' lr=some (.lst (row.map V.int))/\row.length=i/\κ.pv H' u y/\Ls[i]?=some ps/\y∈ps/\row++xk W (n - i) i y=xk W n 0 x)
  ⟨s1,[],v,x,p0,_,_,rfl,g1,rfl,κ.pO hv s1,hp0,hx0,rfl⟩ (λi σ' H' hi SI=>?_) (λσ' H' SH=>?_)
 ·obtain⟨s',row,u,y,ps,z4,z5,e,gr,VW,py,G0,hy,BY⟩:=SI;subst e;have eq:Ls[i+1]?=some Ls[i+1]:=dM (by lia);have ed:ds[i+1]?=some ds[i+1]:=dM (by lia);have NR:=UN (i+1) _ _ ed eq;generalize ds[i+1]=dx at ed NR;generalize Ls[i+1]=qs at eq NR;obtain⟨n1,n2⟩:=bf.ne i ps y G0 (by lia) hy;have U2:=s' _ _ KL;have ix:lT (ds.map V.ref) ((0+(i:Int))+1)=some (.ref dx):=by
   rw[show(0+(i:Int))+1=((i+1:Nat):Int) by push_cast;lia];exact gU (Hy ed)
  walk_at "w";refine ZZ rfl hC ?_;walk_at "w";rw[show(0+(i:Int))=(i:Int) by lia];refine hp H' i u y _ s' (hL i ps y G0 (by lia) hy) py λl H2 s2 Kq=>?_;have a0A:=s2 _ _ U2;have ix2:lT (ds.map V.ref) ((i:Int)+1)=some (.ref dx):=by rw[<-ix,show(0+(i:Int))=(i:Int) by lia]
  walk_at "w";refine⟨α,κ,l,dx,W i y,qs,_,rfl,Kq,κ.pP NR (s'.trans s2),n1,n2,λw hw=>bf.on i ps qs y w G0 eq hy hw,λa w H3 s3 fw hA=>?_⟩;obtain⟨vv,ga,Cu⟩:=hA;have KJ:=(s2.trans s3) _ _ gr;have hwm:w∈W i y:=by
   unfold mF at fw;exact C5 fw
  walk_at "w";refine iT (bP.of KJ) ?_;walk_at "w";refine j0 (xs:=row.map V.int) KJ (rQ (by rw[bH];lia:(row.map V.int).length < 20000) (bV (by decide))) ?_;obtain⟨H4,i4,k4,g4⟩:=wr H3 lr _;rw[i4];have na:a≠lr:=λz=>by rw[z,KJ] at ga;cases ga
  have WZ:=k4 _ _ ga na;have Uz:κ.pv H4 vv w.2.1:=κ.P9 Cu KJ k4;walk_at "w";refine⟨λb o e=>k4 _ _ ((s'.trans (s2.trans s3)) _ _ e) (bG MW e),row ++ [w.1],vv,w.2.1,qs,_,_,rfl,by rw[g4,gR];rfl,by rw[iR,VW];rfl,Uz,eq,bf.on i ps qs y w G0 eq hy hwm,?_⟩;rw[<-BY,HZ];congr 1;obtain⟨m,hm⟩ : ∃m,n - i=m+1:=⟨n - i - 1,by lia⟩
  rw[hm,show n - (i+1)=m by lia];have fw':mF (wF W m (i+1)) (W i y)=some w:=by rw[<-fw,show Ls.length - 1 - (i+1)=m by lia]
  show _=(match mF (wF W m (i+1)) (W i y) with|none=>[]|some w=>w.1::xk W m (i+1) w.2.1)
  rw[fw'];rfl
 ·obtain⟨s',row,u,y,ps,z4,z5,e,gr,VW,py,G0,hy,BY⟩:=SH;subst e;walk_at "w";rw[yw,show xk W 0 n y=[] from rfl,BI] at BY;refine k lr H' s' MW ?_;rw[gr,BY,hn,Nat.add_sub_cancel]
def On(m:MS)(s s':ao):Prop:=∃on,nC on/\(s.1=on\/s.2=0)/\s'=iN m s.1 s.2 on
def Rc(m:MS)(a:ao):Nat->ao->Prop
 |0,s=>s=a
 |n+1,s=>∃q,Rc m a n q/\On m q s
def J7(a b:ao):Prop:=a.1 < b.1\/(a.1=b.1/\a.2 < b.2)
def yu(m:MS)(s:ao):Prop:=(s.1=1/\0<=s.2/\s.2 < m.up)\/(s.1=0/\0<=s.2/\s.2 < 60)
theorem yu.Vz{m:MS}(g:m.Good){s:ao}(h:yu m s):Bk s.1 s.2:=by
 obtain⟨u0,u1⟩:=g.up;rcases h with ⟨a,b,c⟩|⟨a,b,c⟩
 ·exact⟨.inr a,b,by lia⟩
 ·exact⟨.inl a,b,c⟩
theorem Rc.st{m:MS}(g:m.Good){a:ao}(h:yu m a):∀{n:Nat}{s:ao},Rc m a n s->Bk s.1 s.2/\(s.2 < 12\/(s.1=0/\s.2=a.2 - n))
 |0,s,hs=>by
  have hs':s=a:=hs;subst hs';obtain⟨u0,u1⟩:=g.up;refine⟨h.Vz g,?_⟩;rcases h with ⟨x,y,z⟩|⟨x,y,z⟩
  ·exact .inl (by lia)
  ·exact .inr ⟨x,by lia⟩
 |n+1,s,hs=>by
  obtain⟨q,hq,on,wj,may,rfl⟩:=hs;obtain⟨i1,i2⟩:=Rc.st g h hq;obtain⟨u0,u1⟩:=g.up;obtain⟨d0,d1⟩:=g.down;refine⟨i1.iN g wj,?_⟩;unfold My.iN;by_cases e:q.1=on
  ·rw[cT e];rcases i2 with i2|⟨i2,i3⟩
   ·exact .inl (by show max (q.2 - 1) 0 < 12;lia)
   ·by_cases z:q.2 - 1 < 12
    ·exact .inl (by show max (q.2 - 1) 0 < 12;lia)
    ·refine .inr ⟨by show on=0;lia,?_⟩;show max (q.2 - 1) 0=a.2 - ((n+1:Nat):Int)
     lia
  ·rw[cD e];split
   ·exact .inl (by show m.up - 1 < 12;lia)
   ·exact .inl (by show m.down - 1 < 12;lia)
theorem aRo{x1 x2 y1 y2:Int}(a1:x1=0\/x1=1)(b1:y1=0\/y1=1)(a2:0<=x2)(b2:0<=y2)(c1:x2 < 12)(c2:y2 < 12)(z:(x1*12+x2).toNat=(y1*12+y2).toNat):x1=y1/\x2=y2:=by
 rcases a1 with rfl|rfl <;> rcases b1 with rfl|rfl <;> lia
theorem PR{x1 x2:Int}(a1:x1=0\/x1=1)(a2:0<=x2)(c1:x2 < 12):(x1*12+x2).toNat < 24:=by
 rcases a1 with rfl|rfl <;> lia
theorem aRp{x1 x2 y1 y2 d:Int}(c1:¬x2 < 12)(c2:¬y2 < 12)(a:x2 < 12\/(x1=0/\x2=d))(b:y2 < 12\/(y1=0/\y2=d)):x1=y1/\x2=y2:=by lia
theorem Rc.yp{m:MS}(g:m.Good){a:ao}(h:yu m a){n:Nat}{ks:ak}(nd:ks.Nodup)(hr:∀k∈ks,Rc m a n k):ks.length<=25:=by
 have:=Pa 25 (ks.map λk=>if k.2 < 12 then (k.1*12+k.2).toNat else 24) (by
  rw[List.Nodup,D6];refine nd.imp_of_mem ?_;intro x y hx hy hxy z;obtain⟨⟨a1,a2,a3⟩,a4⟩:=Rc.st g h (hr x hx);obtain⟨⟨b1,b2,b3⟩,b4⟩:=Rc.st g h (hr y hy);refine hxy ?_;by_cases c1:x.2 < 12 <;> by_cases c2:y.2 < 12
  ·rw[cT c1,cT c2] at z;obtain⟨u,v⟩:=aRo a1 b1 a2 b2 c1 c2 z;exact Prod.ext u v
  ·rw[cT c1,cD c2] at z;exact absurd z (rR (PR a1 a2 c1))
  ·rw[cD c1,cT c2] at z;exact absurd z.symm (rR (PR b1 b2 c2))
  ·obtain⟨u,v⟩:=aRp c1 c2 a4 b4;exact Prod.ext u v) (λx hx=>by
  obtain⟨k,hk,rfl⟩:=qQ.mp hx;obtain⟨⟨a1,a2,a3⟩,a4⟩:=Rc.st g h (hr k hk);split
  ·rename_i c;exact D7 (PR a1 a2 c)
  ·decide)
 simpa using this
structure Hc(m:MS)(a:ao)(Ls:List (ak)):Prop where
 at_:∀(i:Nat) ps,Ls[i]?=some ps->ps.Pairwise J7/\∀s,s∈ps↔Rc m a i s
theorem YY{ps:ak}(h:ps.Pairwise J7):ps.Nodup:=h.imp λ{a b} N3 z=>by
 subst z;rcases N3 with y|⟨_,y⟩ <;> lia
def Fh(m:MS)(p:Int):Int:=p*m.least+gn p m.pieces
def OH(m:MS)(s:ao)(on:Int):Int:=wR m s.1 [on]
def hw(m:MS)(p:Int)(s:ao)(on:Int):Int:=OH m s on - on*Fh m p
def Bx(s:ao)(on:Int):Bool:=decide (s.1=on) || decide (s.2=0)
def vt(m:MS)(p:Int)(s:ao):List (Wy (ao)):=(([0,1]:ae).filter (Bx s)).map λon=>(on,iN m s.1 s.2 on,hw m p s on)
def Wr(m:MS)(ps:ae)(i:Nat)(s:ao):List (Wy (ao)):=vt m (ps.getD i 0) s
theorem L4{s:ao}{on:Int}:Bx s on=true↔s.1=on\/s.2=0:=by unfold Bx;simp
theorem xQ{p:Int}{s:ao}{w:Wy (ao)}:w∈vt m p s↔∃on,nC on/\(s.1=on\/s.2=0)/\w=(on,iN m s.1 s.2 on,hw m p s on):=by
 unfold vt;rw[qQ];constructor
 ·rintro ⟨on,h,rfl⟩;obtain⟨h1,h2⟩:=D5.mp h;exact⟨on,by simpa [nC] using h1,L4.mp h2,rfl⟩
 ·rintro ⟨on,b,h,rfl⟩;exact⟨on,D5.mpr ⟨by simpa [nC] using b,L4.mpr h⟩,rfl⟩
theorem YX{p:Int}{s:ao}(b:nC s.1):vt m p s≠[]:=λz=>by
 have:_∈vt m p s:=xQ.mpr ⟨s.1,b,.inl rfl,rfl⟩;rw[z] at this;cases this
theorem Zj(m:MS)(p:Int)(s:ao):(vt m p s).length<=2:=by
 unfold vt;rw[bH];exact List.length_filter_le ..
theorem aNo(m:MS)(p:Int)(s:ao):CI (vt m p s):=by
 unfold CI vt;rw[D6];exact List.Pairwise.filter _ (by simp)
theorem Zi{m:MS}(g:m.Good){a:ao}(h:yu m a)(qs:ae){Ls:List (ak)}(pos:0 < Ls.length)(hl:Hc m a Ls):Lo (Wr m qs) Ls where
 pos:=pos
 nd:=λps hp=>by
  obtain⟨i,hi⟩:=ye hp;exact YY (hl.at_ i ps hi).1
 yp:=λps hp=>by
  obtain⟨i,hi⟩:=ye hp;obtain⟨h1,h2⟩:=hl.at_ i ps hi;exact vm (Rc.yp g h (YY h1) λk hk=>(h2 k).mp hk) (by decide)
 ne:=λi ps x hi _ hx=>by
  have:=((Rc.st g h (((hl.at_ i ps hi).2 x).mp hx)).1).1;exact⟨YX this,vm (Zj ..) (by decide)⟩
 on:=λi ps rs x w hi hj hx hw=>by
  obtain⟨on,b,may,rfl⟩:=xQ.mp hw;exact((hl.at_ (i+1) rs hj).2 _).mpr ⟨x,((hl.at_ i ps hi).2 x).mp hx,on,b,may,rfl⟩
theorem aO9{m:MS}(g:m.Good){a:ao}(h:yu m a)(qs:ae)(n:Nat):Lay (Wr m qs) n (Rc m a) where
 ne:=λi x _ hx=>YX ((Rc.st g h hx).1).1
 on:=λi x w _ hx hw=>by
  obtain⟨on,b,may,rfl⟩:=xQ.mp hw;exact⟨x,hx,on,b,may,rfl⟩
def Dq(m:MS)(qs:ae)(a:ao):Int:=wF (Wr m qs) qs.length 0 a
def mw(m:MS)(qs:ae)(a:ao):ae:=xk (Wr m qs) qs.length 0 a
def κS:PK (ao):=.tk qN λ_ _ h=>L5 h
theorem cX.aSP(h:cX C H q m)(e:H w=some (.dT kvs)):cX C (del w H) q m:=by
 obtain⟨dx,pl,h1,h2⟩:=h.ex;obtain⟨qs,h3,h4⟩:=h2.ex;refine⟨dx,pl,lK h1 (λz=>by rw[z,e] at h1;cases h1),qs,lK h3 (λz=>by rw[z,e] at h3;cases h3),h4.len,λj a t h5 h6=>?_⟩;have h7:=h4.at_ j a t h5 h6;exact lK h7 (λz=>by rw[z,e] at h7;cases h7)
theorem aPa(x:Option Int):(x.map V.int).getD (.int 0)=.int (x.getD 0):=by cases x <;> rfl
theorem aRr{ps:List WP}{i:Nat}(h:(enc ps)[i]?=some kv):∃p,ps[i]?=some p/\kv=(qN p.1,V.int p.2):=by
 unfold enc at h;rw[nE] at h;obtain⟨p,hp,e⟩:=oi.mp h;exact⟨p,hp,e.symm⟩
theorem Zh(ps:List WP):(enc ps).length=ps.length:=by unfold enc;rw[bH]
theorem aLx{ps:List WP}{k s:ao}{v:Int}:s∈(addW ps k v).map (·.1)↔s∈ps.map (·.1)\/s=k:=by
 unfold addW;by_cases h:ps.any (λp=>decide (p.1=k))=true
 ·rw[cT h,wm];have e:((λp:WP=>p.1) ∘ λp:WP=>if p.1=k then (p.1,v) else p)=λp=>p.1:=by
   funext p
   show(if p.1=k then (p.1,v) else p).1=p.1;split <;> rfl
  rw[e];refine⟨.inl,λz=>?_⟩;rcases z with z|z
  ·exact z
  ·obtain⟨p,hp,e⟩:=F1.mp h;rw[z];exact qQ.mpr ⟨p,hp,ua e⟩
 ·rw[cD h,gR,oa];simp
inductive wV  (K:W.Frag) (C:Addr) (vs:List V) (H:Hp) (Q:VK) (E:XK):Prop
 |mk:∀(q:Addr) (m:MS) (w:Addr) (ps:List WP),(vs=[.ref q,.ref w])->cX C H q m->m.Good->(H w=some (.dT (enc ps)))->Bc ps->(∀w' my H',aR (del w H) H'->H w'=none->H' w'=some (.dT (enc my))->Bc my->(∀s,s∈my.map (·.1)↔∃q∈ps.map (·.1),On m q s)->Q (.ref w') H')->wV K C vs H Q E
theorem aEF(tx:Txt K mg a):bQ P w K mg base eR 3 a.yH a.yI bGa (wV K a.aW):=by
 have oM:=xM (P:=P) (w:=w) (base:=base) tx;have fF:=jP (P:=P) (w:=w) (base:=base) tx;refine tx.je.F.ok fS (by walk_at "l") λbq A outer s H vs Q E hr h=>?_;obtain⟨q,m,w,ps,rfl ,hm,hg,gw,hW,k⟩:=h;have hu:=fV hr;refine aY (aE (aK (i:=2) fS.nd vD)
  (aE (bZ PassesOwn.never rfl (aIi (aB 1)) (bK (K':=K) (n:=2) rfl (aO (aJ (i:=3) fS.nd) (aO (aJ (i:=4) fS.nd) bJ))) (aG (bZ PassesOwn.never rfl (aDS (K':=K) (eI aC aC)) (aJ (i:=5) fS.nd) (aG (bC (eT (bh oM hr tx.ig (aA (aB 0) (aA (aB 3) (aA (aB 5) aD))))) (aE (aK (i:=6) fS.nd (bh fF hr tx.cv (aA (aB 0) (aA (aB 3) (aA (aB 5) aD)))))
  (aG (zY hu (aB 2) (aB 6) (aL bL (aIk hu (aB 2) (aB 6) aC) (aB 4))))) aZ)))))
  (aG (aM (aB 2))))) ?_
 have hmD:=hm.aSP gw;refine aT (σ:=[some (.ref q),some (.ref w),none,none,none,none,none]) rfl ?_;walk_at "w";refine aF6 ?_;intro l nl;obtain⟨H1,i1,s1,g1⟩:=nw _ nl;rw[i1];have Bw:=s1 _ _ gw;have lw:l≠w:=λz=>by rw[z,gw] at nl;cases nl
 have nlD:del w H l=none:=by rw[D0 lw];exact nl
 walk_at "w";refine aSi Bw λob=>?_;obtain⟨H2,i2,k2,g2⟩:=wr H1 w _;rw[i2];have KQ:=k2 _ _ g1 lw;have S2:aR (del w H) H2:=λb o e=>k2 _ _ (s1 _ _ (wO _ _ e)) (λz=>by rw[z,FI] at e;cases e);refine aMR (kvs:=enc ps) (λi σ' H'=>∃(my:List WP) (z3 z4 z5 z6:Option V),σ'=[some (.ref q),some (.ref w),some (.ref l),z3,z4,z5,z6]/\H' l=some (.dT (enc my))/\Bc my/\(∀s,s∈my.map (·.1)↔∃q∈(ps.take i).map (·.1),On m q s)/\aR (del w H) H'/\H' w=some (.mj ob (.dT (enc ps))))
  ⟨[],_,_,_,_,rfl,KQ,⟨List.nodup_nil,λp hp=>by cases hp⟩,λs=>⟨(λh=>by cases h),(λ⟨q,h,_⟩=>by simp at h)⟩,S2,g2⟩ (λi σ' H' hi ⟨_,_,_,_,_,_,_,_,_,_,h⟩=>h) (λi kv σ' H' T b hk SG nT gb=>?_) (λσ' H' SF=>?_)
 ·obtain⟨my,z3,z4,z5,z6,e,gl,N6,hs,S',WR⟩:=SG;subst e;obtain⟨p,ep,rfl⟩:=aRr hk;have df:=hW.st p (jW ep);have gb0:H' b=some (.tup [.int p.1.1,.int p.1.2]):=gb;obtain⟨H3,i3,s3,gT⟩:=nw _ nT;rw[i3];refine cM (gZ.of gT) rfl ?_;walk_at "w";intro Tu M4;obtain⟨H4,i4,s4,DQ⟩:=nw _ M4;rw[i4];have Fj:=(s3.trans s4) _ _ gl;have Om:=(s3.trans s4) _ _ gb0;have gw4:=(s3.trans s4) _ _ WR;have S4:=S'.trans (s3.trans s4);have Tul:Tu≠l:=λz=>by rw[z,Fj] at DQ;cases DQ
  have bl:b≠l:=λz=>by rw[z,Fj] at Om;cases Om
  walk_at "w";refine YE (gZ.of DQ) ?_;refine aQ3 (xs:=([0,1]:ae).map V.int) (λj σ' H'=>∃(my:List WP) (z5 z6:Option V),σ'=[some (.ref q),some (.ref w),some (.ref l),some (.ref b),some (.int p.2),z5,z6]/\H' l=some (.dT (enc my))/\Bc my/\(∀s,s∈my.map (·.1)↔(∃q∈(ps.take i).map (·.1),On m q s)\/∃on∈([0,1]:ae).take j,(p.1.1=on\/p.1.2=0)/\s=iN m p.1.1 p.1.2 on)/\aR (del w H) H'/\cI l H4 H')
   ⟨my,_,_,rfl,Fj,N6,λs=>by rw[hs s];simp,S4,λ_ _ e _=>e⟩ (λj σ' H' hj ⟨_,_,_,_,_,_,_,_,h⟩=>gZ.of (h _ _ DQ Tul)) (λj v σ' H5 hv SE=>?_) (λσ' H5 SD=>?_)
  ·obtain⟨my,z5,z6,e,Fi,DM,Kt,S5,k5⟩:=SE;subst e;obtain⟨on,xj,rfl⟩:=dB hv;have wj:nC on:=by
    have:=jW xj;simp at this;exact this
   have WY:=k5 _ _ Om bl;have tk:([0,1]:ae).take (j+1)=([0,1]:ae).take j ++ [on]:=by rw[BK,xj];rfl
   walk_at "w";refine⟨_,b,_,_,on,rfl,WY,?_⟩;by_cases cz:p.1.1=on\/p.1.2=0
   ·rw[show(decide (p.1.1=on) || decide (p.1.2=0))=true by simpa using cz];walk_at "w";refine⟨q,m,b,_,_,on,rfl,hmD.same S5,WY,cz,λT2 H6 s6 Du Fm=>?_⟩;have Oh:=s6 _ _ Fi;have gk:H6 T2=some (.tup ((qN (iN m p.1.1 p.1.2 on)).map kV)):=Fm;have hle:=DM.len;walk_at "w";refine⟨l,rfl,.inr ⟨_,.inl Oh⟩,?_⟩;walk_at "w";refine⟨_,uW.t Oh gk,?_⟩;rw[aO6,aPa];walk_at "w";refine⟨l,_,rfl,Aq.t Oh gk (rQ (by rw[Zh];lia:(enc my).length < 1000) (bV (by decide))),?_⟩;rw[aO7];obtain⟨H7,i7,k7,g7⟩:=wr H6 l _;rw[i7];walk_at "w";refine⟨_,_,_,rfl,g7,DM.add (df.iN hg wj) p.2,λs=>?_,λb o e=>k7 _ _ ((S5.trans s6) _ _ e) (bG nlD e),k5.trans (s6.keep.trans k7)⟩;rw[aLx,Kt s,tk];constructor
    ·rintro ((h|⟨vx,h1,h2⟩)|h)
     ·exact .inl h
     ·exact .inr ⟨vx,D9 _ h1,h2⟩
     ·exact .inr ⟨on,wa _ (.head _),cz,h⟩
    ·rintro (h|⟨vx,h1,h2,h3⟩)
     ·exact .inl (.inl h)
     ·rcases oa.mp h1 with z|z
      ·exact .inl (.inr ⟨vx,z,h2,h3⟩)
      ·rw[ng.mp z] at h3;exact .inr h3
   ·rw[show(decide (p.1.1=on) || decide (p.1.2=0))=false by simpa using cz];walk_at "w";refine⟨my,_,_,rfl,Fi,DM,λs=>?_,S5,k5⟩;rw[Kt s,tk];constructor
    ·rintro (h|⟨vx,h1,h2⟩)
     ·exact .inl h
     ·exact .inr ⟨vx,D9 _ h1,h2⟩
    ·rintro (h|⟨vx,h1,h2,h3⟩)
     ·exact .inl h
     ·rcases oa.mp h1 with z|z
      ·exact .inr ⟨vx,z,h2,h3⟩
      ·rw[ng.mp z] at h2;exact absurd h2 cz
  ·obtain⟨my,z5,z6,e,Fi,DM,Kt,S5,k5⟩:=SD;subst e;refine⟨my,_,_,_,_,rfl,Fi,DM,λs=>?_,S5,k5 _ _ gw4 (Ne.symm lw)⟩;rw[Kt s,take_snoc ep,gR];constructor
   ·rintro (⟨q,h1,h2⟩|⟨vx,h1,h2,h3⟩)
    ·exact⟨q,D9 _ h1,h2⟩
    ·exact⟨p.1,wa _ (.head _),vx,by simpa [nC] using h1,h2,h3⟩
   ·rintro ⟨q,h1,vx,b1,h2,h3⟩;rcases oa.mp h1 with z|z
    ·exact .inl ⟨q,z,vx,b1,h2,h3⟩
    ·rw[show q=p.1 by simpa using z] at h2 h3;exact .inr ⟨vx,by rcases b1 with rfl|rfl <;> simp,h2,h3⟩
 ·obtain⟨my,z3,z4,z5,z6,e,gl,N6,hs,S',WR⟩:=SF;subst e;walk_at "w";refine k l my H' S' nl gl N6 λs=>?_;rw[hs s,Zh,mq]
inductive tZ  (K:W.Frag) (C:Addr) (vs:List V) (H:Hp) (Q:VK) (E:XK):Prop
 |mk:∀(p:Addr) (ms:List MS),(vs=[.ref p])->pM C H p ms->(ms.length<=6)->(∀H',aR H H'->Q (.bl true) H')->tZ K C vs H Q E
theorem aDq(tx:Txt K mg a):bQ P w K mg base eR 1 a.vX a.vY aca (tZ K a.aW):=by
 refine tx.iu.F.ok aDj (by walk_at "l") λbq A outer s H vs Q E hr h=>?_;obtain⟨p,ms,rfl ,hp,hl,k⟩:=h;have hu:=fV hr;refine aY (aE (bC (eY (uZ (iB (eT (aN (rc:=Bz K) jZ (by rfl) tx.eK fD (aA (aB 0) (aA (nH (v:=.ty "list") (by rfl) tx.qJ oW rfl) aD))))) (qT (aV CN (aN (rc:=mS K) cO (by rfl) tx.hX fB (aA (aB 0) aD)) (rX (n:=6) (by rfl) tx.mE) (bD _))))) (aG (aM lE)) aZ)
  (aG (aM (aN (rc:=DS K) (xH rfl) (by rfl) tx.FJ LO (aA (bR (k:=1) (idx:=[]) (N:=["machine"]) (bY (sc:=aI jH) (NX:=aca) rfl rfl rfl (by decide +kernel)) rfl (bI (K':=K) (aB 0)) (λ_ _ _ _=>(aJ (i:=0) (show(["machine"]:ah).Nodup by decide +kernel))) (cJ (by decide)) (λ_ _ _ _=>bE) (λ_ _ _ _=>(aN (rc:=Bz K) jZ (by rfl) tx.eK fD (aA (aB 0) (aA (aDR (v:=.ref a.aW) (by rfl) tx.aGa rfl) aD))))) aD))))) ?_
 obtain⟨qs,h1,h2⟩:=hp.ex;have Nz:qs.length<=6:=by rw[h2.len];exact hl
 refine aT (σ:=[some (.ref p)]) rfl ?_;walk_at "w";refine zV (ZW (.lst h1)) ?_;walk_at "w";refine iP (λh=>by simp at h) (λ_=>?_);walk_at "w";refine cB (λh=>by rw[bH] at h;lia) (λ_=>?_);walk_at "w";refine fO (bP.of h1) ?_;refine QD (λ_=>.bl true) (bP.of h1) (bV (by rw[bH];lia)) (λx N N' Nn hN=>?_) ?_
 ·obtain⟨i,hi⟩:=ye Nn;obtain⟨q,m,_,rfl,_,hm⟩:=h2.get hi;obtain⟨dx,pl,hx,_⟩:=hm.ex;walk_at "w";refine zV (Zx tx.zi tx.bO hx) ?_;exact hN
 ·intro l1 n1;walk_at "w";refine Qg (bP.of aP) (λx hx=>by obtain⟨_,_,rfl⟩:=qQ.mp hx;rfl) ?_;exact k _ (aR.new n1)
inductive zD  (K:W.Frag) (CW CM CS:Addr) (vs:List V) (H:Hp) (Q:VK) (E:XK):Prop
 |mk:∀(x dx lm:Addr) (st:V) (W:WS),(vs=[.ref x,.ref lm,st,.int W.cw])->(H x=some (.ins CW dx []))->pM CM H lm W.specs->Fy CS H st W.store->(W.specs.length<=6)->Am W.cw->(∀H',dQ CW CM CS H' x W->cI x H H'->Q .bw H')->zD K CW CM CS vs H Q E
theorem aFq(tx:Txt K mg a):bQ P w K mg base eR 3 a.sV a.aAV a9a (zD K a.cN a.aW a.bS):=by
 have aEG:=aDq (P:=P) (w:=w) (base:=base) tx;have dO:=m5 (P:=P) (w:=w) (base:=base) tx;refine tx.me.F.ok kS (by walk_at "l") λbq A outer s H vs Q E hr h=>?_;obtain⟨x,dx,lm,st,W,rfl ,hx,hm,hs,hl,ha,k⟩:=h;have hu:=fV hr;refine aY (aE (aK (i:=4) kS.nd (aH2 (hJ qA (aB 2) cU (bD _)) (j8 (aN (rc:=Bz K) jZ (by rfl) tx.eK fD (aA (aB 2) (aA (aDR (v:=.ref a.bS) (by rfl) tx.Zr rfl) aD))))))
  (aE (bZ PassesOwn.never rfl (iY (K':=K) (by rfl) tx.fX (aA (xK (bh aEG hr tx.iu (aA (aB 1) aD)) (aB 4) (bh dO hr tx.br (aA (aB 3) aD))) aD)) (bK (K':=K) (n:=2) rfl (aO (aJ (i:=5) kS.nd) (aO (aJ (i:=6) kS.nd) bJ))) (aG (bC (iB (eT (aB 6))) (aG lH) aZ)))
  (aE (dA (K':=K) (aB 0) (cF (rc:=HK K) zW (by rfl) tx.qJ oW (aA (aB 1) aD)) rfl)
  (aE (dA (K':=K) (aB 0) (aB 2) rfl)
  (aG (dA (K':=K) (aB 0) (aB 3) rfl)))))) ?_
 refine aT (σ:=[some (.ref x),some (.ref lm),some st,some (.int W.cw),none,none,none]) rfl ?_;refine fH (λσ' H'=>σ'=[some (.ref x),some (.ref lm),some st,some (.int W.cw),some (.bl true),none,none]/\H'=H) (λN hN=>?_) ?_
 ·cases e:W.store with
  |none=>
   rw[e] at hs
   replace hs:st=.bw:=hs
   subst hs;walk_at "w";exact hN _ _ ⟨rfl,rfl⟩
  |some s=>
   rw[e] at hs;obtain⟨b,rfl,hb⟩:=hs;obtain⟨db,Cy⟩:=hb.ex;walk_at "w";refine zV (Zx tx.B7 tx.jO Cy) ?_;walk_at "w";exact hN _ _ ⟨rfl,rfl⟩
 rintro σ' H' ⟨rfl,rfl⟩;walk_at "w";refine⟨lm,W.specs,rfl,hm,hl,λH1 s1=>?_⟩;walk_at "w";refine⟨_,_,rfl,.int _,?_⟩;rw[sX ha];walk_at "w";intro l1 n1;walk_at "w";have s2:=s1.trans (aR.new (o:=.lst [.bl true,.bl true,.bl true]) n1);have e2:(upd H1 l1 (.lst [.bl true,.bl true,.bl true])) l1=some (.lst [.bl true,.bl true,.bl true]):=aP;generalize upd H1 l1 (.lst [.bl true,.bl true,.bl true])=H2 at s2 e2 ⊢;refine FK (bP.of e2) ?_;refine xG (xs:=[.bl true,.bl true,.bl true]) (λi σ' H3=>∃y z,σ'=[some (.ref x),some (.ref lm),some st,some (.int W.cw),some (.bl true),y,z]/\aR H2 H3)
  ⟨_,_,rfl,aR.refl _⟩ (λi σ' H3 hi ⟨y,z,e,s⟩=>bP.of (s _ _ e2)) (λi v σ' H3 T hv SA nT=>?_) (λσ' H3 Sz=>?_)
 ·obtain⟨y,z,e,s⟩:=SA;subst e;have ev:v=.bl true:=by
   have:=jW hv;simpa using this
  subst ev;refine cM (gZ.of aP) rfl ?_;walk_at "w";exact⟨_,_,rfl,s.trans (aR.new nT)⟩
 ·obtain⟨y,z,e,s⟩:=Sz;subst e;have sH:aR H' H3:=s2.trans s;have tf:=sH _ _ hx;obtain⟨qs,p1,p2⟩:=(hm.tr sH.tr).ex;walk_at "w";refine Qs (ys:=qs.map V.ref) (bP.of p1) ?_;intro l9 n9;have s9:=aR.new (o:=.lst (qs.map V.ref)) n9;have x9:=s9 _ _ tf;walk_at "w";refine iU (fs':=[("machines",.ref l9)]) x9 tx.dP tx.cQ (by simp) rfl ?_;walk_at "w";refine iU (fs':=[("machines",.ref l9),("store",st)]) aP tx.dP tx.dZ (by simp) rfl ?_;rw[i8];walk_at "w";refine iU (fs':=EH l9 st W.cw) aP tx.dP tx.sW (by simp) rfl ?_;rw[i8];walk_at "w";have kx:cI x (upd H3 l9 (.lst (qs.map V.ref))) (upd (upd H3 l9 (.lst (qs.map V.ref))) x (.ins a.cN dx (EH l9 st W.cw))):=cI.upd;have t9:Tr H3 (upd (upd H3 l9 (.lst (qs.map V.ref))) x (.ins a.cN dx (EH l9 st W.cw))):=s9.tr.trans (Y0 x9 kx);have l9x:l9≠x:=Ne.symm (bG n9 tf);refine k _ ⟨dx,l9,st,aP,⟨qs,kx _ _ aP l9x,p2.imp λ_ _ z=>z.tr t9⟩,hs.tr (sH.tr.trans t9)⟩ (λb o e nb=>kx _ _ (s9 _ _ (sH _ _ e)) nb)
inductive pR  (K:W.Frag) (CW CM CS:Addr) (vs:List V) (H:Hp) (Q:VK) (E:XK):Prop
 |mk:∀(w p t:Addr) (W:WS) (P:Ps) (os:ae) (b8:Int),(vs=[.ref w,.ref p,.ref t,.int b8])->dQ CW CM CS H w W->W.Good->fG H p P->(P.1.length=W.specs.length)->(H t=some (.tup (os.map V.int)))->(os.length=W.specs.length)->Mw P.1 os->(∀r H',aR H H'->fG H' r (iO W.specs P.1 os,b8)->Q (.ref r) H')->pR K CW CM CS vs H Q E
theorem aBv(tx:Txt K mg a):bQ P w K mg base eR 3 a.qZ a.rA a7a (pR K a.cN a.aW a.bS):=by
 have fF:=jP (P:=P) (w:=w) (base:=base) tx;refine tx.fq.F.ok pF (by walk_at "l") λbq A outer s H vs Q E hr h=>?_;obtain⟨w,p,t,W,P,os,b8,rfl ,hW,hg,hP,tm,ht,vj,cz,k⟩:=h;have hu:=fV hr;refine aY (aE (c8 (k:=3) (idx:=[]) (N:=gz) (i:=4) pF.nd rfl (Or.inl rfl) (bY (sc:=aI iD) (NX:=bSa) rfl rfl rfl (by decide +kernel)) rfl (kB (k1:=true) (k2:=false) (k3:=false) (by rfl) tx.jU (aA (a8 (K':=K) (aB 0) rfl) (aA (aH (K':=K) (aB 1) aC) (aA (aB 2) aD)))) (λ_ _ _ _=>(bK (K':=K) (n:=3) rfl (aO (aJ (i:=0) (show(gz:ah).Nodup by decide +kernel)) (aO (aJ (i:=1) (show(gz:ah).Nodup by decide +kernel)) (aO (aJ (i:=2) (show(gz:ah).Nodup by decide +kernel)) bJ))))) (fY (bF (by decide) (bF (by decide) (bF (by decide) eQ)))) (λ_ _ _ _=>bE) (λ_ _ _ _=>(bh fF hr tx.cv (aA (aB 0) (aA (aB 1) (aA (aB 2) aD))))))
  (aG (aM (eI (cF (rc:=sD K) kA (by rfl) tx.kW lC (aA (aB 4) aD)) (aB 3))))) ?_
 have hlen:=hg.len;obtain⟨dx,lm,st,hw,hM,df⟩:=hW.ex;obtain⟨qm,hm,rm⟩:=hM.ex;obtain⟨t1,hp,hs⟩:=hP.ex;obtain⟨qs,Ks,rs⟩:=hs.ex;have lm1:=rm.len;have ls1:=rs.len;refine aT (σ:=[some (.ref w),some (.ref p),some (.ref t),some (.int b8),none]) rfl ?_;walk_at "w";refine cE hw tx.dP tx.cQ rfl ?_;walk_at "w";refine FX (Src.lst hm) (Src.tup Ks) (Src.tup ht) ?_;refine qV (n:=W.specs.length) (by rw[bH];lia) (by rw[bH];lia) (by rw[bH];lia) (.inl (by rw[bH];lia)) (bV (by lia))
  (λi us H'=>aR H H'/\∃AU,us=AU.map V.ref/\AU.length=i/\RL (BJ H') AU ((iO W.specs P.1 os).take i)) ⟨aR.refl _,[],rfl,rfl,RL.nil⟩
  (λi us H' hi ⟨s1,AU,e1,e2,e3⟩=>⟨⟨Src.lst (s1 _ _ hm),Src.tup (s1 _ _ Ks),Src.tup (s1 _ _ ht)⟩,by rw[e1,bH];lia⟩)
  (λi x y z us H' T hx hy hz Sy nT=>?_) (λus H' Sx=>?_)
 ·obtain⟨s1,AU,e1,e2,e3⟩:=Sy;obtain⟨q,m,_,rfl,hmi,Ny⟩:=rm.get hx;obtain⟨sq,sv,_,rfl,Wb,hsa⟩:=rs.get hy;obtain⟨on,Wi,rfl⟩:=dB hz;have sT:=aR.new (o:=.tup [.ref q,.ref sq,.int on]) nT;have s2:=s1.trans sT;refine cM (gZ.of aP) rfl ?_;walk_at "w";refine⟨q,m,sq,sv.1,sv.2,on,rfl,Ny.same s2,s2 _ _ hsa,cz i sv on Wb Wi,λT2 H2 s3 Du um=>?_⟩;refine⟨s2.trans s3,AU ++ [T2],by rw[e1,gR];rfl,by rw[iR,e2];rfl,?_⟩;rw[aGg tm vj hmi Wb Wi];exact(e3.imp λb v z=>(sT.trans s3) _ _ z).snoc um
 ·obtain⟨s1,AU,e1,e2,e3⟩:=Sx;subst e1;intro l nl;have sl:=aR.new (o:=.lst (AU.map V.ref)) nl;walk_at "w";refine sE (bP.of aP) ?_;intro T nT;have sT:=aR.new (o:=.tup (AU.map V.ref)) nT;walk_at "w";intro r nr;have sr:=aR.new (o:=.tup [.ref T,.int b8]) nr;walk_at "w";rw[za (by rw[rK tm vj];exact eO _)] at e3;exact k r _ (s1.trans (sl.trans (sT.trans sr))) ⟨T,aP,AU,sr _ _ aP,e3.imp λb v z=>(sl.trans (sT.trans sr)) _ _ z⟩
inductive uA  (K:W.Frag) (CW CM CS:Addr) (vs:List V) (H:Hp) (Q:VK) (E:XK):Prop
 |mk:∀(w p l:Addr) (W:WS) (P:Ps) (hs:List Hr),(vs=[.ref w,.ref p,.ref l])->dQ CW CM CS H w W->W.Good->fG H p P->jQ W P->kI H l hs->cC W P hs->(hs.length<=1000)->(∀r H',aR H H'->LP H' r (Ao W P hs)->Q (.ref r) H')->uA K CW CM CS vs H Q E
theorem uB(tx:Txt K mg a):bQ P w K mg base eR 4 a.vZ a.v8 bia (uA K a.cN a.aW a.bS):=by
 have aB8:=aBv (P:=P) (w:=w) (base:=base) tx;refine tx.dj.F.ok eU (by walk_at "l") λbq A outer s H vs Q E hr h=>?_;obtain⟨w,p,l,W,P,hs,rfl ,hW,hg,hP,bf,hL,qg,hz,k⟩:=h;have hu:=fV hr;refine aY (aE (aK (i:=3) eU.nd (mT (aB 1)))
  (aE (bZ PassesOwn.never rfl (bI (K':=K) (aB 2)) (bK (K':=K) (n:=3) rfl (aO (aJ (i:=4) eU.nd) (aO (aJ (i:=5) eU.nd) (aO (aJ (i:=6) eU.nd) bJ)))) (aE (aK (i:=1) eU.nd (bh aB8 hr tx.fq (aA (aB 0) (aA (aB 1) (aA (aB 4) (aA (aB 6) aD))))))
  (aG (dC (dW (K':=K) (aB 3) (aA (aB 1) aD))))))
  (aG (aM (aB 3))))) ?_
 obtain⟨ql,hl,rl⟩:=hL.ex;have ll:=rl.len;refine aT (σ:=[some (.ref w),some (.ref p),some (.ref l),none,none,none,none]) rfl ?_;walk_at "w";intro c nc;walk_at "w";have sc:=aR.new (o:=.lst [.ref p]) nc;have ec:(upd H c (.lst [.ref p])) c=some (.lst ([p].map V.ref)):=aP;generalize upd H c (.lst [.ref p])=H1 at sc ec ⊢;refine fO (bP.of (sc _ _ hl)) ?_;refine xE (xs:=ql.map V.ref) (λi σ' H'=>∃p' x4 x5 x6 cs,σ'=[some (.ref w),some (.ref p'),some (.ref l),some (.ref c),x4,x5,x6]/\aR H H'/\fG H' p' (wQ W P (hs.take i))/\H' c=some (.lst (cs.map V.ref))/\cs.length=i+1/\RL (fG H') cs (Ao W P (hs.take i)))
  ⟨p,_,_,_,[p],rfl,sc,hP.tk sc.tk,ec,rfl,⟨rfl,λj b x h1 h2=>?_⟩⟩ (λi σ' H' hi ⟨p',x4,x5,x6,cs,e,s1,Ah,hc,lc,rc⟩=>bP.of (s1 _ _ hl)) (λi v σ' H' hv Sw=>?_) (λσ' H' Sv=>?_)
 ·match j,h1,h2 with
  |0,h1,h2=>cases h1;cases h2;exact hP.tk sc.tk
  |_+1,h1,_=>simp at h1
 ·obtain⟨p',x4,x5,x6,cs,e,s1,Ah,hc,lc,rc⟩:=Sw;subst e;obtain⟨q,h,_,rfl,hh,hq⟩:=rl.get hv;obtain⟨pt,ph⟩:=qg.take hh;have pos:=pt.pos hg bf;have hi:i < hs.length:=(iZ.mp hh).1;obtain⟨t,u,g1,g2,g3⟩:=(hq.tk s1.tk).ex;refine cM (gZ.of g1) rfl ?_;walk_at "w";refine⟨w,p',t,W,_,h.ons,h.b8,rfl,hW.tr s1.tr,hg,Ah,pos.len,g2,ph.ons,ph.may,λr H2 s2 hr=>?_⟩;have Fc:=s2 _ _ hc;walk_at "w";refine iT (bP.of Fc) ?_;walk_at "w";refine j0 (xs:=cs.map V.ref) Fc (rQ (by rw[bH,lc];lia:(cs.map V.ref).length < 2000) (bV (by simp))) ?_;walk_at "w";have MH:Tk H2 (upd H2 c (.lst (cs.map V.ref ++ [.ref r]))):=PU Fc;refine⟨r,_,_,_,cs ++ [r],rfl,aNf nc (s1.trans s2),?_,by rw[aP,gR];rfl,by rw[iR,lc];rfl,?_⟩
  ·rw[take_snoc hh,xN];exact hr.tk MH
  ·rw[take_snoc hh,aGh];exact(rc.imp λb v z=>z.tk (s2.tk.trans MH)).snoc (hr.tk MH)
 ·obtain⟨p',x4,x5,x6,cs,e,s1,Ah,hc,lc,rc⟩:=Sv;subst e;walk_at "w";rw[bH,ll,mq] at rc;exact k c _ s1 ⟨cs,hc,rc⟩
inductive zE  (K:W.Frag) (vs:List V) (H:Hp) (Q:VK) (E:XK):Prop
 |mk:∀(p b:Addr) (x y:Int),(vs=[.ref p,.ref b])->bB H p->(H b=some (.lst [.int x,.int y]))->(1<=x)->(x<=50000000000)->(∀v (o:Option SS) H',BB H' v o->(∀s,o=some s->s.Good)->(∀c,v=.ref c->H c=none)->bB H' p->cI p H H'->dR p H H'->Q v H')->zE K vs H Q E
theorem aFr(tx:Txt K mg a):bQ P w K mg base eR 2 a.aAW a.aAX aoa (zE K):=by
 have aS:=cS (P:=P) (w:=w) (base:=base) tx;refine tx.ky.F.ok kT (by walk_at "l") λbq A outer s H vs Q E hr h=>?_;obtain⟨p,b,x,y,rfl ,hh,hb,x0,x1,k⟩:=h;have hu:=fV hr;refine aY (aE (bC (aV (r:=iJ K) (cZ hu) (bh aS hr tx.af (aA (aB 0) (aA aC aD))) aC (bD _)) (aG (aM cU)) aZ)
  (aE (aK (i:=2) kT.nd (aL bX (aH (K':=K) (aB 1) aC) (bh aS hr tx.af (aA (aB 0) (aA aC aD)))))
  (aE (aK (i:=3) kT.nd (aL bL (aB 2) (aL bX (aH (K':=K) (aB 1) aC) (bh aS hr tx.af (aA (aB 0) (aA aC aD))))))
  (aE (bC (aV (r:=iJ K) (cZ hu) (bh aS hr tx.af (aA (aB 0) (aA aC aD))) aC (bD _)) (aG (aLg (i:=3) (j:=2) rfl kT.nd rfl rfl (by decide) rfl rfl (aA (aB 2) (aA (aB 3) aD)))) aZ)
  (aG (aM (ZD (bh aS hr tx.af (aA (aB 0) (aA aC aD))) (bh aS hr tx.af (aA (aB 0) (aA aC aD))) (bh aS hr tx.af (aA (aB 0) (aA aC aD))) (aB 3) (aB 2)))))))) ?_
 have bp:b≠p:=hh.BC hb (by simp);refine aT (σ:=[some (.ref p),some (.ref b),none,none]) rfl ?_;walk_at "w";refine⟨p,_,rfl,hh,by decide,by decide,λr1 H1 a1 b1 h1 k1 q1=>?_⟩;have N2:=k1 _ _ hb bp;walk_at "w";refine cB (λh=>?_) (λh=>?_)
 ·walk_at "w";exact k _ none _ rfl (λs e=>by cases e) (λc e=>by cases e) h1 k1 q1
 ·walk_at "w";refine⟨p,_,rfl,h1,by decide,by decide,λr2 H2 a2 b2 h2 k2 q2=>?_⟩;have WC:=k2 _ _ N2 bp;walk_at "w";refine⟨p,_,rfl,h2,by decide,by decide,λr3 H3 a3 b3 h3 k3 q3=>?_⟩;have g2:0<=x*r2/\x*r2<=150000000000:=CH x0 x1 a2 b2 (by decide);have g3:0<=x*r3/\x*r3<=50000000000:=CH x0 x1 a3 b3 (by decide);repeat walk_at "st"
  refine fH (λσ' H'=>∃g t:Int,σ'=[some (.ref p),some (.ref b),some (.int g),some (.int t)]/\Am g/\Am t/\bB H' p/\cI p H H'/\dR p H H') (λN hN=>?_) ?_
  ·walk_at "w";refine⟨p,_,rfl,h3,by decide,by decide,λr4 H4 a4 b4 h4 k4 q4=>?_⟩;walk_at "w";refine cB (λh=>?_) (λh=>?_)
   ·walk_at "w";refine⟨_,_,rfl,?_⟩;exact hN _ _ ⟨_,_,rfl,⟨by lia,by lia⟩,⟨by lia,by lia⟩,h4,k1.trans (k2.trans (k3.trans k4)),q1.trans (q2.trans (q3.trans q4))⟩
   ·walk_at "w";exact hN _ _ ⟨_,_,rfl,⟨by lia,by lia⟩,⟨by lia,by lia⟩,h4,k1.trans (k2.trans (k3.trans k4)),q1.trans (q2.trans (q3.trans q4))⟩
  ·rintro σ' H4 ⟨g,t,rfl,hg,ht,h4,k4,q4⟩;walk_at "w";refine⟨p,_,rfl,h4,by decide,by decide,λr5 H5 a5 b5 h5 k5 q5=>?_⟩;walk_at "w";refine⟨p,_,rfl,h5,by decide,by decide,λr6 H6 a6 b6 h6 k6 q6=>?_⟩;walk_at "w";refine⟨p,_,rfl,h6,by decide,by decide,λr7 H7 a7 b7 h7 k7 q7=>?_⟩;walk_at "w";intro c nc;have kk:=k4.trans (k5.trans (k6.trans k7));have qq:=q4.trans (q5.trans (q6.trans q7));refine k (.ref c) (some ⟨r5,r6,r7,t,g⟩) _ ⟨c,rfl,⟨aP⟩⟩ (λs e=>?_) (λc' e=>by cases e;exact lJ kk h7 nc) (h7.same (aR.new nc)) (kk.trans (aR.new nc).keep) (qq.trans (dR.of (aR.new nc p)));cases e;exact⟨⟨a5,by show r5<=8;lia⟩,⟨a6,by show r6<=8;lia⟩,⟨a7,by show r7<=8;lia⟩,ht,hg⟩
def Co:Option SS->Int->ae
 |none,_=>[0]
 |some s,l=>pz (max 0 (l - s.out)) (min s.bz (l+s.into)+1 - max 0 (l - s.out)).toNat
inductive wW  (K:W.Frag) (vs:List V) (H:Hp) (Q:VK) (E:XK):Prop
 |mk:∀(v:V) (o:Option SS) (l:Int),(vs=[v,.int l])->BB H v o->((∀s,o=some s->s.Good/\0<=l/\l<=s.bz))->(∀q H',aR H H'->H q=none->H' q=some (.lst ((Co o l).map V.int))->Q (.ref q) H')->wW K vs H Q E
theorem aEH(tx:Txt K mg a):bQ P w K mg base eR 1 a.yJ a.yK aHa (wW K):=by
 refine tx.jn.F.ok aD6 (by walk_at "l") λbq A outer s H vs Q E hr h=>?_;obtain⟨v,o,l,rfl ,hv,hg,k⟩:=h;have hu:=fV hr;refine aY (aE (bC (aV qA (aB 0) cU (bD _)) (aG (aM (mT aC))) aZ)
  (aG (aM (cF (rc:=LN) (aDQ rfl) (by rfl) tx.qJ oW (aA (cF (rc:=Lj) aFX (by rfl) tx.eE aHY (aA (aN (fN rfl) (by rfl) tx.mM jC (aA aC (aA (aL dS (aB 1) (aH (K':=K) (aB 0) aC)) aD))) (aA (aL bL (aN (jY rfl) (by rfl) tx.wJ rV (aA (aH (K':=K) (aB 0) aC) (aA (aL bL (aB 1) (aH (K':=K) (aB 0) aC)) aD))) aC) aD))) aD))))) ?_
 refine aT (σ:=[some v,some (.int l)]) rfl ?_;cases o with
 |none=>
  replace hv:v=.bw:=hv
  subst hv;walk_at "w";intro q nq;walk_at "w";exact k q _ (aR.new nq) nq aP
 |some s=>
  obtain⟨b,rfl,hb⟩:=hv;obtain⟨gs,l0,l1⟩:=hg s rfl;obtain⟨c0,c1⟩:=gs.bz;obtain⟨i0,i1⟩:=gs.into;obtain⟨o0,o1⟩:=gs.out;have e1:=hb.at_;walk_at "w";intro p np;walk_at "w";refine aH1 aP (by lia) (by lia) ?_;intro q nq;exact k q _ ((aR.new np).trans (aR.new nq)) ((aR.new np).free nq) aP
theorem aIF{l:Addr}{H H2:Hp}(h:H l=none)(s:aR H H2):aR H (del l H2):=λb o e=>by rw[D0 (bG h e)];exact s b o e
theorem aJP{α:Type}{l:List α}{x:α}(h:l.Nodup)(n:x∉l):(l ++ [x]).Nodup:=by
 rw[List.nodup_append];refine⟨h,by simp,λa ha b hb z=>?_⟩;rw[ng.mp hb] at z;exact n (by rw[<-z];exact ha)
theorem YW:Am (10 ^ (12:Int).toNat):=⟨by decide,by decide⟩
theorem bB.upR{H H':Hp}{p l:Addr}{qs:ay}(hh:bB H p)(hl:H l=some (.lst (qs.map V.ref)))(k:cI l H H'):bB H' p:=by
 obtain⟨d,c,q,ms,hp,hq,cq,Ag⟩:=hh.ex;refine⟨⟨d,c,q,ms,k _ _ hp (Ne.symm (hh.CO hl)),k _ _ hq (λz=>?_),cq,Ag⟩⟩;rw[z,hl] at hq;cases ms with
 |nil=>exact cq rfl
 |cons m ms=>
  cases qs with
  |nil=>cases hq
  |cons _ _=>cases hq
theorem Qp(n:Nat):uk (n+1) (-1)=some n:=by
 unfold uk;rw[cD (by lia),cT (by lia)];congr 1;lia
theorem RL.set{α:Type}{P:Addr->α->Prop}{as:ay}{xs:List α}(h:RL P as xs){i:Nat}{a:Addr}{x:α}(hp:P a x):RL P (as.set i a) (xs.set i x):=by
 refine⟨by rw[HX,HX,h.len],λj q u hq hu=>?_⟩;rw[List.getElem?_set] at hq hu;by_cases e:i=j
 ·rw[cT e] at hq hu;split at hq
  ·split at hu
   ·cases hq;cases hu;exact hp
   ·cases hu
  ·cases hq
 ·rw[cD e] at hq hu;exact h.at_ j q u hq hu
theorem Z9{ms:List MS}{i:Nat}{m:MS}(h:∀m∈ms,m.Good)(g:m.Good):∀m'∈ms.set i m,m'.Good:=λm' hm=>by
 rcases List.mem_or_eq_of_mem_set hm with h1|h1
 ·exact h m' h1
 ·rw[h1];exact g
theorem aLy{u d b r t l:Int}{pl:Addr}{ms:ae}(h:some (HO.lst [.int u,.int d,.int b,.int r,.int t,.int l,.ref pl])=some (HO.lst (ms.map V.int))):False:=by
 injection h with h
 injection h with h
 have z:(ms.map V.int)[6]?=some (.ref pl):=by rw[<-h];rfl
 rw[nE] at z;obtain⟨n,_,e⟩:=oi.mp z;cases e
theorem aNq{n:Nat}{k:Int}(h0:0<=k)(h:k.toNat < n):uk n k=some k.toNat:=by
 obtain⟨j,rfl⟩:=Rh h0;unfold uk;rw[cT h0,cT (by lia)]
theorem MS.aRs(m:MS)(g:m.Good){v r:Int}(av:Am v)(r0:0<=r)(r1:r < 4)(pl:Addr):∃m':MS,[V.int m.up,.int m.down,.int m.begin_,.int m.run,.int m.rest,.int m.least,.ref pl].set (2+r).toNat (.int v)=[V.int m'.up,.int m'.down,.int m'.begin_,.int m'.run,.int m'.rest,.int m'.least,.ref pl]/\m'.Good/\m'.pieces=m.pieces:=by
 rcases(show r=0\/r=1\/r=2\/r=3 by lia) with rfl|rfl|rfl|rfl
 ·exact⟨{ m with begin_:=v },rfl,⟨g.up,g.down,av,g.run,g.rest,g.least,g.pieces⟩,rfl⟩
 ·exact⟨{ m with run:=v },rfl,⟨g.up,g.down,g.begin_,av,g.rest,g.least,g.pieces⟩,rfl⟩
 ·exact⟨{ m with rest:=v },rfl,⟨g.up,g.down,g.begin_,g.run,av,g.least,g.pieces⟩,rfl⟩
 ·exact⟨{ m with least:=v },rfl,⟨g.up,g.down,g.begin_,g.run,g.rest,av,g.pieces⟩,rfl⟩
inductive oN  (K:W.Frag) (vs:List V) (H:Hp) (Q:VK) (E:XK):Prop
 |mk:∀(p:Addr) (n:Int),(vs=[.ref p,.int n])->bB H p->(0<=n)->(n<=6)->(∀(s:Addr) (W:WS) H',kX H' s W->W.Good->bB H' p->cI p H H'->H s=none->Q (.ref s) H')->oN K vs H Q E
theorem aAo(tx:Txt K mg a):bQ P w K mg base eR 4 a.pI a.pJ aqa (oN K):=by
 have aS:=cS (P:=P) (w:=w) (base:=base) tx;have zF:=aEw (P:=P) (w:=w) (base:=base) tx;have aIH:=aG2 (P:=P) (w:=w) (base:=base) tx;have aHd:=aFr (P:=P) (w:=w) (base:=base) tx;refine tx.fe.F.ok cL (by walk_at "l") λbq A outer s H vs Q E hr h=>?_;obtain⟨p,n,rfl ,hh,n0,n1,k⟩:=h;have hu:=fV hr;refine aY (aE (m9 (i:=2) cL.nd rfl (Or.inr rfl) (rY (bh zF hr tx.fi (aA (aB 0) aD)) (bh zF hr tx.fi (aA (aB 0) aD))))
  (aE (m9 (i:=3) cL.nd rfl (Or.inr rfl) (cF aLb (by rfl) tx.Lq Y8 (aA (hJ (r:=iJ K) (cZ hu) (bh aS hr tx.af (aA (aB 0) (aA aC aD))) aC (bD _)) aD)))
  (aE (aK (i:=4) cL.nd (bh aS hr tx.af (aA (aB 0) (aA (aH (K':=K) (rY (aL bL (aB 1) aC) aC) (aB 3)) aD))))
  (aE (c8 (k:=1) (idx:=[2,0,3]) (N:=bPa) (i:=5) cL.nd rfl (Or.inl rfl) (bY (sc:=aI gX) (NX:=a1a) rfl rfl rfl (by decide +kernel)) rfl (cP (by rfl) tx.eE (aA (aB 4) aD)) (λ_ _ _ _=>(aJ (i:=0) (show(bPa:ah).Nodup by decide +kernel))) (cJ (by decide)) (λ_ _ _ _=>bE) (λ_ _ _ _=>(bh aIH hr tx.pd (aA (aB 2) (aA (aB 1) (aA (aH (K':=K) (rY aC aC) (aB 3)) aD))))))
  (aE (bC (eY (iC (aV (r:=BA K) (FR hu) (aB 5) (eM aD) (bD _)) (fZ (aV (r:=iJ K) (cZ hu) (bh aS hr tx.af (aA (aB 0) (aA aC aD))) aC (bD _))))) (aG (qU (aL zQ aC aC) (xJ (aH (K':=K) (aB 5) aC) (aL bL aC (bh aS hr tx.af (aA (aB 0) (aA aC aD)))) set_list))) aZ)
  (aE (bC (eY (iC (aV (r:=BA K) (FR hu) (aB 5) (eM aD) (bD _)) (fZ (aV (r:=iJ K) (cZ hu) (bh aS hr tx.af (aA (aB 0) (aA aC aD))) aC (bD _))))) (aG (qU (aH (K':=K) (aB 5) aC) (xJ (aB 5) (lF uT aC) set_list))) aZ)
  (aE (aK (i:=6) cL.nd (bh aHd hr tx.ky (aA (aB 0) (aA (aB 2) aD))))
  (aE (aK (i:=7) cL.nd (aL bX (aH (K':=K) (aB 2) aC) (bh aS hr tx.af (aA (aB 0) (aA aC aD)))))
  (aE (bC (eY (iC (aV (r:=iJ K) (cZ hu) (aB 3) aC (bD _)) (fZ (aV xI (aB 6) cU (bD _))))) (aG (aK (i:=6) cL.nd (aL bL (xK (bh aS hr tx.af (aA (aB 0) (aA aC aD))) (bh aS hr tx.af (aA (aB 0) (aA aC aD))) (bh aS hr tx.af (aA (aB 0) (aA aC aD)))) (lG (rs:=DT K) Hd (aB 6) (nJ aC) nI)))) aZ)
  (aE (bC (eY (iC (aV (r:=iJ K) (cZ hu) (aB 3) aC (bD _)) (fZ (aV (r:=iJ K) (cZ hu) (bh aS hr tx.af (aA (aB 0) (aA aC aD))) aC (bD _))))) (aG (aK (i:=7) cL.nd (aL zQ aC aC))) aZ)
  (aG (aM (ZD (aB 5) (aB 6) (aB 7) (aB 2) (aB 3)))))))))))))) ?_
 refine aT (σ:=[some (.ref p),some (.int n),none,none,none,none,none,none]) rfl ?_;walk_at "w";refine⟨p,rfl,hh,λx H1 x0 x1 h1 k1 _=>?_⟩;walk_at "w";refine⟨p,rfl,h1,λy H2 y0 y1 h2 k2 _=>?_⟩;walk_at "w";intro b nb;obtain⟨H3,e3,sb,N1⟩:=nw _ nb;rw[e3];have h3:=h2.same sb;have K3:cI p H H3:=k1.trans (k2.trans sb.keep);have nbH:H b=none:=lJ (k1.trans k2) h2 nb;have bp:b≠p:=hh.DW nbH;walk_at "w";refine⟨p,_,rfl,h3,by decide,by decide,λr4 H4 a4 b4 h4 k4 _=>?_⟩;walk_at "w";obtain⟨wd,hwd,El⟩ : ∃wd:Int,(if decide (r4=7)=true then (1:Int) else 0)=wd/\(wd=0\/wd=1):=by
  by_cases h:r4=7
  ·exact⟨1,by rw[cT (ur h)],.inr rfl⟩
  ·exact⟨0,by rw[cD (by simpa using h)],.inl rfl⟩
 rw[hwd];walk_at "w";have N0:=k4 _ _ N1 bp;have K4:=K3.trans k4;intro l1 nl1;obtain⟨H5,e5,s5,g5⟩:=nw _ nl1;rw[e5];obtain⟨M,hM,M0,M1⟩ : ∃M:Int,lT [V.int (n+1),.int 7] wd=some (.int M)/\1<=M/\M<=7:=by
  rcases El with rfl|rfl
  ·exact⟨n+1,rfl,by lia,by lia⟩
  ·exact⟨7,rfl,by decide,by decide⟩
 have NZ:=s5 _ _ N0;have h5:=h4.same s5;have K5:=K4.trans (s5.keep (p:=p));walk_at "w";refine⟨p,_,rfl,h5,by lia,by lia,λmany H6 m0 m1 h6 k6 _=>?_⟩;have NY:=k6 _ _ NZ bp;have K6:=K5.trans k6;repeat walk_at "st"
 refine fH (λσ' H'=>∃(l:Addr) (qs:ay) (ms:List MS),σ'=[some (.ref p),some (.int n),some (.ref b),some (.int wd),some (.int many),some (.ref l),none,none]/\H' l=some (.lst (qs.map V.ref))/\qs.length<=6/\RL (dX (del l H')) qs ms/\(∀m∈ms,m.Good)/\H' b=some (.lst [.int x,.int y])/\bB H' p/\cI p H H'/\H l=none/\b≠l/\l≠p/\qs.Nodup/\∀q∈qs,H q=none) (λN hN=>?_) ?_
 ·walk_at "w";refine⟨by lia,by lia,?_⟩;refine iS (λi us H'=>∃(qs:ay) (ms:List MS),us=qs.map V.ref/\qs.length=i/\RL (dX H') qs ms/\(∀m∈ms,m.Good)/\H' b=some (.lst [.int x,.int y])/\bB H' p/\cI p H H'/\qs.Nodup/\∀q∈qs,H q=none) ⟨[],[],rfl,rfl,RL.nil,(λm h=>by cases h),NY,h6,K6,List.nodup_nil,λq h=>by cases h⟩ (bV (by lia))
   (λi us H' hi ⟨qs,ms,f1,f2,f3,f4,f5,f6,f7,f8,f9⟩=>by rw[f1,bH];lia) (λi us H' hi Su=>?_) (λus H' Ss=>?_)
  ·obtain⟨qs,ms,f1,f2,f3,f4,f5,f6,f7,f8,f9⟩:=Su;obtain⟨L,hL,L0,L1⟩ : ∃L:Int,lT [V.int 3,.int 12] wd=some (.int L)/\1<=L/\L<=12:=by
    rcases El with rfl|rfl
    ·exact⟨3,rfl,by decide,by decide⟩
    ·exact⟨12,rfl,by decide,by decide⟩
   walk_at "w";intro l2 MX;obtain⟨H7,e7,s7,g7⟩:=nw _ MX;rw[e7];walk_at "w";refine⟨p,b,x,y,L,rfl,f6.same s7,s7 _ _ f5,x0,x1,y0,y1,L0,L1,λs m H8 hs gm _ _ h8 k8 nA=>?_⟩;have nds:(qs ++ [s]).Nodup:=aJP f8 λz=>by
    obtain⟨j,hj⟩:=ye z;have Bu:j < ms.length:=by rw[<-f3.len];exact(iZ.mp hj).1
    obtain⟨Gn,vi,_⟩:=(f3.at_ j s _ hj (dM Bu)).ex;rw[s7 _ _ vi] at nA;cases nA
   have qc:∀q∈qs ++ [s],H q=none:=λq hq=>by
    rcases oa.mp hq with z|z
    ·exact f9 q z
    ·rw[ng.mp z];exact lJ (f7.trans s7.keep) (f6.same s7) nA
   refine⟨qs ++ [s],ms ++ [m],by rw[f1,gR];rfl,by rw[iR,f2];rfl,(f3.imp λa x z=>z.tr (s7.tr.trans ((f6.same s7).tr k8))).snoc hs,λm' hm'=>?_,k8 _ _ (s7 _ _ f5) bp,h8,f7.trans (s7.keep.trans k8),nds,qc⟩;rcases oa.mp hm' with h|h
   ·exact f4 m' h
   ·rw[ng.mp h];exact gm
  ·obtain⟨qs,ms,f1,f2,f3,f4,f5,f6,f7,f8,f9⟩:=Ss;subst f1;intro l nl;obtain⟨H7,e7,sl,g7⟩:=nw _ nl;rw[e7];have ER:H l=none:=lJ f7 f6 nl;walk_at "w";exact hN _ _ ⟨l,qs,ms,rfl,g7,by lia,f3.imp λa x z=>z.same (aIF nl sl),f4,sl _ _ f5,f6.same sl,f7.trans sl.keep,ER,bG nl f5,hh.DW ER,f8,f9⟩
 rintro σ7 H7 ⟨l,Ds,Dv,rfl,hl7,Nb,rl7,KO,NW,h7,K7,ER,bl,lp,nd7,fr7⟩;refine fH (λσ' H'=>∃(qs:ay) (ms:List MS),σ'=[some (.ref p),some (.int n),some (.ref b),some (.int wd),some (.int many),some (.ref l),none,none]/\H' l=some (.lst (qs.map V.ref))/\qs.length<=6/\RL (dX (del l H')) qs ms/\(∀m∈ms,m.Good)/\H' b=some (.lst [.int x,.int y])/\bB H' p/\cI p H H') (λN hN=>?_) ?_
 ·walk_at "w";intro f1 MY;obtain⟨H8,e8,zy,g8⟩:=nw _ MY;rw[e8];have GI:=zy _ _ hl7;have h8:=h7.same zy;have KC:=zy _ _ NW;have K8:=K7.trans (zy.keep (p:=p));have Ka:RL (dX (del l H8)) Ds Dv:=rl7.imp λa x z=>z.tr zy.tr.del;walk_at "w";refine⟨_,Qh (bP.of GI) (bP.of g8),?_⟩;walk_at "w";refine iP (λcq=>?_) (λcq=>?_)
  ·have wg:Ds≠[]:=λz=>by rw[z] at cq;simp at cq
   walk_at "w";refine⟨p,_,rfl,h8,by decide,by decide,λr9 H9 a9 b9 h9 k9 _=>?_⟩;have DF:=k9 _ _ GI lp;have A8:=k9 _ _ KC bp;have K9:=K8.trans k9;have Cg:RL (dX (del l H9)) Ds Dv:=Ka.imp λa x z=>z.tr (h8.tr k9).del;walk_at "w";refine cB (λKv=>?_) (λKv=>?_)
   ·obtain⟨q0,qr,rfl⟩ : ∃q0 qr,Ds=q0::qr:=by
     cases Ds with
     |nil=>exact absurd rfl wg
     |cons q0 qr=>exact⟨q0,qr,rfl⟩
    have Gu:0 < Dv.length:=by rw[<-Cg.len];exact Nat.zero_lt_succ _
    obtain⟨wc,mr,rfl⟩ : ∃wc mr,Dv=wc::mr:=by
     cases Dv with
     |nil=>exact absurd Gu (vn _)
     |cons a r=>exact⟨a,r,rfl⟩
    have Ku:=Cg.at_ 0 q0 wc rfl rfl;have g0:=KO wc (qz ..);walk_at "w";refine rW (bP.of DF) (gU (j:=0) rfl) ?_;walk_at "w";refine⟨p,_,rfl,h9,by decide,by decide,λVF Av a10 b10 CA yn _=>?_⟩;have zc:=yn _ _ DF lp;have xb:=yn _ _ A8 bp;have Gb:=K9.trans yn;have wy:RL (dX (del l Av)) (q0::qr) (wc::mr):=Cg.imp λa x z=>z.tr (h9.tr yn).del;have Uv:=wy.at_ 0 q0 wc rfl rfl;obtain⟨Kc,DA,IF⟩:=Uv.ex;have VG:q0≠l:=λz=>by rw[z,FI] at DA;cases DA
    have AF:=wO _ _ DA;have q0p:q0≠p:=CA.BC AF (by simp);have q0b:b≠q0:=λz=>by rw[<-z,xb] at AF;cases AF
    walk_at "w";refine HL (j:=(2+VF).toNat) AF (aNq (by lia) (by show(2+VF).toNat < 7;lia)) ?_;obtain⟨v12,IE⟩ : ∃v:Int,v=10 ^ (12:Int).toNat:=⟨_,rfl⟩
    rw[<-IE];have av:Am v12:=by rw[IE];exact YW
    obtain⟨mm,emm,gmm,epc⟩:=MS.aRs wc g0 av a10 b10 Kc;rw[emm];obtain⟨Gd,Ko,xh,Nf⟩:=wr Av q0 _;rw[Ko];have TQ:Kc≠q0:=λz=>by
     obtain⟨Ci,e',_⟩:=IF.ex;rw[z,DA] at e';cases Ci with
     |nil=>cases e'
     |cons _ _=>cases e'
    have kd:∀d o,del l Av d=some o->d≠q0->del l Gd d=some o:=λd o e n=>by
     have nl':d≠l:=λz=>by rw[z,FI] at e;cases e
     rw[D0 nl'] at e ⊢;exact xh _ _ e n
    have UB:xW (del l Gd) Kc wc.pieces:=by
     obtain⟨Ci,e',t'⟩:=IF.ex;exact⟨Ci,kd _ _ e' TQ,t'.len,λj q t h1 h2=>kd _ _ (t'.at_ j q t h1 h2) λz=>by have y:=t'.at_ j q t h1 h2;rw[z,DA] at y;cases y⟩
    have fb:dX (del l Gd) q0 mm:=⟨Kc,lK Nf VG,by rw[epc];exact UB⟩
    walk_at "w";refine hN _ _ ⟨q0::qr,mm::mr,rfl,xh _ _ zc (Ne.symm VG),Nb,⟨by have:=wy.len;simpa using this,λj a z h1 h2=>?_⟩,Z9 (i:=0) KO gmm,xh _ _ xb q0b,?_,λd o e nd=>xh _ _ (Gb _ _ e nd) (bG (fr7 q0 (.head _)) e)⟩
    ·match j,h1,h2 with
     |0,h1,h2=>cases h1;cases h2;exact fb
     |j+1,h1,h2=>
      have hx:=wy.at_ (j+1) a z h1 h2;have aq:a≠q0:=λy=>(ya.mp nd7).1 (by rw[<-y];exact jW h1);obtain⟨VJ,e1',UC⟩:=hx.ex;obtain⟨Ci,CD,t'⟩:=UC.ex;have p1q:VJ≠q0:=λy=>by
       rw[y,DA] at CD;cases Ci with
       |nil=>cases CD
       |cons _ _=>cases CD
      exact⟨VJ,kd _ _ e1' aq,Ci,kd _ _ CD p1q,t'.len,λj q t h1 h2=>kd _ _ (t'.at_ j q t h1 h2) λy=>by have w:=t'.at_ j q t h1 h2;rw[y,DA] at w;cases w⟩
    ·obtain⟨dd,cc,qq,mms,Ah,vi,UG,Ux⟩:=CA.ex;refine⟨⟨dd,cc,qq,mms,xh _ _ Ah (Ne.symm q0p),xh _ _ vi (λy=>?_),UG,Ux⟩⟩;rw[y,AF] at vi;exact aLy vi
   ·walk_at "w";exact hN _ _ ⟨Ds,Dv,rfl,DF,Nb,Cg,KO,A8,h9,K9⟩
  ·walk_at "w";exact hN _ _ ⟨Ds,Dv,rfl,GI,Nb,Ka,KO,KC,h8,K8⟩
 rintro σ8 H8 ⟨Dr,ES,rfl,GI,Na,Ka,KN,KC,h8,K8⟩;refine fH (λσ' H'=>∃(ms:List MS),σ'=[some (.ref p),some (.int n),some (.ref b),some (.int wd),some (.int many),some (.ref l),none,none]/\pL H' l ms/\ms.length<=6/\(∀m∈ms,m.Good)/\H' b=some (.lst [.int x,.int y])/\bB H' p/\cI p H H') (λN hN=>?_) ?_
 ·walk_at "w";intro f1 MY;obtain⟨H9,e9,zy,g9⟩:=nw _ MY;rw[e9];have DF:=zy _ _ GI;have h9:=h8.same zy;have A8:=zy _ _ KC;have K9:=K8.trans (zy.keep (p:=p));have Cg:RL (dX (del l H9)) Dr ES:=Ka.imp λa x z=>z.tr zy.tr.del;have BV:=Cg.len;walk_at "w";refine⟨_,Qh (bP.of DF) (bP.of g9),?_⟩;walk_at "w";refine iP (λcq=>?_) (λcq=>?_)
  ·have wg:Dr≠[]:=λz=>by rw[z] at cq;simp at cq
   walk_at "w";refine⟨p,_,rfl,h9,by decide,by decide,λr9 Av a9 b9 CA yn _=>?_⟩;have zc:=yn _ _ DF lp;have xb:=yn _ _ A8 bp;have Gb:=K9.trans yn;have wy:RL (dX (del l Av)) Dr ES:=Cg.imp λa x z=>z.tr (h9.tr yn).del;walk_at "w";refine cB (λKv=>?_) (λKv=>?_)
   ·obtain⟨q0,qr,rfl⟩ : ∃q0 qr,Dr=q0::qr:=by
     cases Dr with
     |nil=>exact absurd rfl wg
     |cons q0 qr=>exact⟨q0,qr,rfl⟩
    obtain⟨wc,mr,rfl⟩ : ∃wc mr,ES=wc::mr:=by
     cases ES with
     |nil=>cases BV
     |cons a r=>exact⟨a,r,rfl⟩
    have Ku:=wy.at_ 0 q0 wc rfl rfl;walk_at "w";refine rW (bP.of zc) (gU (j:=0) rfl) ?_;walk_at "w";refine HL (j:=qr.length) zc (by rw[bH,mv];exact Qp _) ?_;obtain⟨Gd,Ko,xh,Nf⟩:=wr Av l _;rw[Ko];have dl:del l Gd=del l Av:=by rw[<-Ko,Zo]
    have BX:=wy.set (i:=qr.length) Ku;walk_at "w";refine hN _ _ ⟨(wc::mr).set qr.length wc,rfl,⟨(q0::qr).set qr.length q0,?_,BX.imp λa x z=>((dl▸z:dX (del l Gd) a x)).same wO⟩,by rw[HX,<-BV];exact Na,Z9 KN (KN wc (qz ..)),xh _ _ xb bl,CA.upR zc xh,λd o e nd=>xh _ _ (Gb _ _ e nd) (bG ER e)⟩;rw[Nf,List.map_set]
   ·walk_at "w";exact hN _ _ ⟨ES,rfl,⟨Dr,zc,wy.imp λa x z=>z.same wO⟩,by rw[<-BV];exact Na,KN,xb,CA,Gb⟩
  ·walk_at "w";exact hN _ _ ⟨ES,rfl,⟨Dr,DF,Cg.imp λa x z=>z.same wO⟩,by rw[<-BV];exact Na,KN,A8,h9,K9⟩
 rintro σ9 H9 ⟨M5,rfl,sp9,ln9,gd9,A8,h9,K9⟩;walk_at "w";refine⟨p,b,x,y,rfl,h9,A8,x0,x1,λv o Av Ts Ey a0D CA yn _=>?_⟩;have Ic:=h9.tr yn;have Tv:=sp9.tr Ic;have xb:=yn _ _ A8 bp;have Gb:=K9.trans yn;walk_at "w";refine⟨p,_,rfl,CA,by decide,by decide,λMQ H11 a11 b11 DN xh _=>?_⟩;have T11:=CA.tr xh;have Ej:=Tv.tr T11;have Ax:=Ts.tr T11;have Ex:=xh _ _ xb bp;have Ro:=Gb.trans xh;have W3:0<=y*MQ/\y*MQ<=550000000000:=CH y0 y1 a11 b11 (by decide);repeat walk_at "st"
 refine fH (λσ' H'=>∃(v:V) (o:Option SS),σ'=[some (.ref p),some (.int n),some (.ref b),some (.int wd),some (.int many),some (.ref l),some v,some (.int (y*MQ))]/\pL H' l M5/\BB H' v o/\(∀s,o=some s->s.Good)/\H' b=some (.lst [.int x,.int y])/\bB H' p/\cI p H H') (λN hN=>?_) ?_
 ·walk_at "w";refine cB (λwe=>?_) (λwe=>?_)
  ·cases o with
   |none=>
    replace Ax:v=.bw:=Ax
    subst Ax;walk_at "w";exact hN _ _ ⟨_,none,rfl,Ej,rfl,Ey,Ex,DN,Ro⟩
   |some s=>
    obtain⟨c,rfl,hc⟩:=Ax;have gs:=Ey s rfl;walk_at "w";refine⟨p,_,rfl,DN,by decide,by decide,λu1 H12 Q7 b12 Ff V3 _=>?_⟩;walk_at "w";refine⟨p,_,rfl,Ff,by decide,by decide,λu2 H13 Mc b13 Cz Cr _=>?_⟩;walk_at "w";refine⟨p,_,rfl,Cz,by decide,by decide,λu3 H14 a14 b14 h14 V2 _=>?_⟩;have Rk:=(DN.tr V3).trans ((Ff.tr Cr).trans (Cz.tr V2));have UT:=(hc.tr Rk).at_;walk_at "w";intro c1 nc1;obtain⟨J1,i1,t1,j1⟩:=nw _ nc1;rw[i1];have US:=t1 _ _ UT;walk_at "w";refine zU (bP.of US) ?_;rw[show kZ [V.int s.bz,.int s.into,.int s.out,.int s.takes,.int s.gives] (some 3) none=[.int s.takes,.int s.gives] from rfl];intro c2 nc2;obtain⟨J2,i2,t2,j2⟩:=nw _ nc2;rw[i2];walk_at "w";refine mR (t2 _ _ j1) j2 (bV (by simp)) ?_;intro c3 nc3;obtain⟨J3,i3,t3,j3⟩:=nw _ nc3;rw[i3];have tt:=t1.trans (t2.trans t3);walk_at "w";refine hN _ _ ⟨_,some ⟨u1,u2,u3,s.takes,s.gives⟩,rfl,Ej.tr (Rk.trans tt.tr),⟨c3,rfl,⟨j3⟩⟩,λs' e=>?_,(Rk.trans tt.tr) _ _ Ex (Hv (by simp)),h14.same tt,Ro.trans (V3.trans (Cr.trans (V2.trans tt.keep)))⟩
    cases e;exact⟨⟨Q7,by show u1<=8;lia⟩,⟨Mc,by show u2<=8;lia⟩,⟨a14,by show u3<=8;lia⟩,gs.takes,gs.gives⟩
  ·walk_at "w";exact hN _ _ ⟨v,o,rfl,Ej,Ax,Ey,Ex,DN,Ro⟩
 rintro σ12 H12 ⟨v,o,rfl,Ei,Eh,U1,Ew,Ff,Rn⟩;refine fH (λσ' H'=>∃(lk:Int),σ'=[some (.ref p),some (.int n),some (.ref b),some (.int wd),some (.int many),some (.ref l),some v,some (.int lk)]/\Am lk/\pL H' l M5/\BB H' v o/\H' b=some (.lst [.int x,.int y])/\bB H' p/\cI p H H') (λN hN=>?_) ?_
 ·walk_at "w";refine cB (λwe=>?_) (λwe=>?_)
  ·walk_at "w";refine⟨p,_,rfl,Ff,by decide,by decide,λu1 H13 Mc b13 Cz Cr _=>?_⟩;have Mr:=Ff.tr Cr;walk_at "w";refine cB (λhz=>?_) (λhz=>?_)
   ·walk_at "w";exact hN _ _ ⟨_,rfl,YW,Ei.tr Mr,Eh.tr Mr,Cr _ _ Ew bp,Cz,Rn.trans Cr⟩
   ·walk_at "w";exact hN _ _ ⟨_,rfl,⟨W3.1,by lia⟩,Ei.tr Mr,Eh.tr Mr,Cr _ _ Ew bp,Cz,Rn.trans Cr⟩
  ·walk_at "w";exact hN _ _ ⟨_,rfl,⟨W3.1,by lia⟩,Ei,Eh,Ew,Ff,Rn⟩
 rintro σ13 H13 ⟨lk,rfl,alk,Tt,Tq,UW,Cz,K13⟩;walk_at "w";intro s ns;obtain⟨J,i,t,j⟩:=nw _ ns;rw[i];walk_at "w";exact k s ⟨M5,o,lk,x,y,wd⟩ J ⟨l,v,b,j,Tt.tr t.tr,Tq.tr t.tr,t _ _ UW⟩ ⟨gd9,ln9,U1,alk,⟨x0,x1⟩,⟨y0,y1⟩,El⟩ (Cz.same t) (K13.trans t.keep) (lJ K13 Cz ns)
theorem aPb{K:W.Frag}{H:Hp}{n:Nat}{pl Gn:Addr}{ps my:ak}(h:xW H pl ps)(h':xW H Gn my):∃b,BQ K H (n+2) (.ref pl) (.ref Gn) b/\(b=true->ps=my):=by
 obtain⟨qs,h1,h2⟩:=h.ex;obtain⟨Ci,DO,tw⟩:=h'.ex;refine⟨_,.inr ⟨pl,Gn,_,_,λj=>(2 == 2 && (List.range 2).all λi=>match ps[j]?,my[j]? with|some t,some t'=>(match i with|0=>decide (t.1=t'.1)|_=>decide (t.2=t'.2))|_,_=>true),rfl,rfl,.inl ⟨bP.of h1,bP.of DO⟩,λj u v hu hv=>?_,rfl⟩,λhb=>?_⟩
 ·rw[nE] at hu hv;cases e1:qs[j]? with
  |none=>rw[e1] at hu;cases hu
  |some q=>
   cases e2:Ci[j]? with
   |none=>rw[e2] at hv;cases hv
   |some q'=>
    rw[e1] at hu;rw[e2] at hv;cases hu;cases hv;have l1:j < ps.length:=by rw[<-h2.len];exact(iZ.mp e1).1
    have l2:j < my.length:=by rw[<-tw.len];exact(iZ.mp e2).1
    have t1:=h2.at_ j q _ e1 (dM l1);have t2:=tw.at_ j q' _ e2 (dM l2);refine .inr ⟨q,q',_,_,λi=>match ps[j]?,my[j]? with|some t,some t'=>(match i with|0=>decide (t.1=t'.1)|_=>decide (t.2=t'.2))|_,_=>true,rfl,rfl,.inr ⟨gZ.of t1,gZ.of t2⟩,λi u v hu hv=>?_,rfl⟩;rw[dM l1,dM l2]
    match i,hu,hv with
    |0,hu,hv=>
     cases hu;cases hv;cases n with
     |zero=>exact⟨rfl,rfl,rfl⟩
     |succ n=>exact .inl ⟨rfl,rfl,rfl⟩
    |1,hu,hv=>
     cases hu;cases hv;cases n with
     |zero=>exact⟨rfl,rfl,rfl⟩
     |succ n=>exact .inl ⟨rfl,rfl,rfl⟩
    |_+2,hu,_=>simp at hu
 ·rw[yc,F2] at hb;obtain⟨b1,b2⟩:=hb;have hl:ps.length=my.length:=by
   have:=beq_iff_eq.mp b1;rw[bH,bH,h2.len,tw.len] at this;exact this
  refine List.ext_getElem hl λj l1 l2=>?_;have c:=b2 j (Bj.mpr (by rw[bH,h2.len];exact l1));rw[yc,F2] at c;have c0:=c.2 0 (by simp);have c1:=c.2 1 (by simp);simp only[dM l1,dM l2] at c0 c1;exact Prod.ext (ua c0) (ua c1)
theorem aNr{K:W.Frag}{H:Hp}{s t:Addr}{m m':MS}(h1:dX H s m)(h2:dX H t m'):∃b,BQ K H 8 (.ref s) (.ref t) b/\(b=true->m=m'):=by
 obtain⟨pl,e1,p1⟩:=h1.ex;obtain⟨Gn,e2,p2⟩:=h2.ex;obtain⟨bp,hbp,ep⟩:=aPb (K:=K) (n:=5) p1 p2;refine⟨_,.inr ⟨s,t,_,_,λj=>match j with|0=>decide (m.up=m'.up)|1=>decide (m.down=m'.down)|2=>decide (m.begin_=m'.begin_)|3=>decide (m.run=m'.run)|4=>decide (m.rest=m'.rest)|5=>decide (m.least=m'.least)|_=>bp,rfl,rfl,.inl ⟨bP.of e1,bP.of e2⟩,λj u v hu hv=>?_,rfl⟩,λhb=>?_⟩
 ·match j,hu,hv with
  |0,hu,hv=>cases hu;cases hv;exact .inl ⟨rfl,rfl,rfl⟩
  |1,hu,hv=>cases hu;cases hv;exact .inl ⟨rfl,rfl,rfl⟩
  |2,hu,hv=>cases hu;cases hv;exact .inl ⟨rfl,rfl,rfl⟩
  |3,hu,hv=>cases hu;cases hv;exact .inl ⟨rfl,rfl,rfl⟩
  |4,hu,hv=>cases hu;cases hv;exact .inl ⟨rfl,rfl,rfl⟩
  |5,hu,hv=>cases hu;cases hv;exact .inl ⟨rfl,rfl,rfl⟩
  |6,hu,hv=>cases hu;cases hv;exact hbp
  |_+7,hu,_=>simp at hu
 ·rw[yc,F2] at hb;have q:=λj (hj:j < 7)=>hb.2 j (Bj.mpr hj);have c0:=ua (q 0 (by decide));have c1:=ua (q 1 (by decide));have c2:=ua (q 2 (by decide));have c3:=ua (q 3 (by decide));have c4:=ua (q 4 (by decide));have c5:=ua (q 5 (by decide));have c6:=ep (q 6 (by decide));obtain⟨u1,u2,u3,u4,u5,u6,u7⟩:=m;obtain⟨v1,v2,v3,v4,v5,v6,v7⟩:=m';simp only[MS.mk.injEq];exact⟨c0,c1,c2,c3,c4,c5,c6⟩
theorem ends{qs:ay}(h:qs≠[]):∃q0 ql,qs[0]?=some q0/\qs[qs.length - 1]?=some ql/\lT (qs.map V.ref) 0=some (.ref q0)/\lT (qs.map V.ref) (-1)=some (.ref ql):=by
 have hl:0 < qs.length:=F6.mpr h;refine⟨qs[0],qs[qs.length - 1],dM hl,dM (by lia),sZ (i:=0) (dM hl),?_⟩;obtain⟨n,hn⟩ : ∃n,qs.length=n+1:=⟨qs.length - 1,by lia⟩
 have e:uk (qs.map V.ref).length (-1)=some n:=by rw[bH,hn];exact Qp n
 unfold lT;rw[e];show(qs.map V.ref)[n]?=_;rw[nE];simp only[hn,Nat.add_sub_cancel];rw[dM (by lia)];rfl
theorem set_same{α:Type}{xs:List α}{i:Nat}{x:α}(h:xs[i]?=some x):xs.set i x=xs:=by
 obtain⟨hi,e⟩:=iZ.mp h;rw[<-e,List.set_getElem_self]
inductive zG  (K:W.Frag) (CW CM CS:Addr) (vs:List V) (H:Hp) (Q:VK) (E:XK):Prop
 |mk:∀(s:Addr) (W:WS),(vs=[.ref s])->kX H s W->W.Good->(∀w H',dQ CW CM CS H' w W->aR H H'->H w=none->Q (.ref w) H')->zG K CW CM CS vs H Q E
theorem aFs(tx:Txt K mg a):bQ P w K mg base eR 8 a.aAY a.aAZ awa (zG K a.cN a.aW a.bS):=by
 have aHe:=aFm (P:=P) (w:=w) (base:=base) tx;have aHf:=aFq (P:=P) (w:=w) (base:=base) tx;have aEJ:=aDm (P:=P) (w:=w) (base:=base) tx;refine tx.ku.F.ok kU (by walk_at "l") λbq A outer s H vs Q E hr h=>?_;obtain⟨s,W,rfl ,hW,hg,k⟩:=h;have hu:=fV hr;refine aY (aE (c8 (k:=1) (idx:=[]) (N:=bDa) (i:=1) kU.nd rfl (Or.inl rfl) (bY (sc:=aI mV) (NX:=bCa) rfl rfl rfl (by decide +kernel)) rfl (bI (K':=K) (aH (K':=K) (aB 0) aC)) (λ_ _ _ _=>(aJ (i:=0) (show(bDa:ah).Nodup by decide +kernel))) (cJ (by decide)) (λ_ _ _ _=>bE) (λ_ _ _ _=>(bh aEJ hr tx.iw (aA (aB 0) aD))))
  (aE (bC (eY (iC (aV CN (aN (rc:=mS K) cO (by rfl) tx.hX fB (aA (aB 1) aD)) aC (bD _)) (fZ (aV (r:=iJ K) (cZ hu) (aH (K':=K) (aH (K':=K) (aB 0) aC) aC) (aH (K':=K) (aH (K':=K) (aB 0) aC) (lF uT aC)) (bD _))))) (aG (qU (aH (K':=K) (aB 1) aC) (xJ (aB 1) (lF uT aC) set_list))) aZ)
  (aE (aK (i:=2) kU.nd (aH (K':=K) (aB 0) aC))
  (aE (bC (aV xI (aB 2) cU (bD _)) (aG (aK (i:=2) kU.nd (u9 tx.aOZ (aHe) (hr.mono (by decide)) (by rfl) tx.Zr tx.mf.b .nil aU (aA (aH (K':=K) (aB 2) aC) (aA (aH (K':=K) (aB 2) aC) (aA (aH (K':=K) (aB 2) aC) (aA (aH (K':=K) (aB 2) aC) (aA (aH (K':=K) (aB 2) aC) aD)))))))) aZ)
  (aG (aM (u9 tx.aO1 (aHf) (hr.mono (by decide)) (by rfl) tx.aO0 tx.me.b .nil aU (aA (aB 1) (aA (aB 2) (aA (aH (K':=K) (aB 0) aC) aD)))))))))) ?_
 have hlen:=hg.len;obtain⟨ls,st,b,hs,fb,df,hb⟩:=hW.ex;obtain⟨qs,hl,rl⟩:=fb.ex;have ym:=rl.len;refine aT (σ:=[some (.ref s),none,none]) rfl ?_;refine fH (λσ' H'=>∃lm qm,σ'=[some (.ref s),some (.ref lm),none]/\H' lm=some (.lst (qm.map V.ref))/\RL (cX a.aW (del lm H')) qm W.specs/\aR H H'/\H lm=none) (λN hN=>?_) ?_
 ·walk_at "w";refine fO (bP.of hl) ?_;refine dF (xs:=qs.map V.ref) (λi us H'=>aR H H'/\∃as,us=as.map V.ref/\as.length=i/\RL (cX a.aW H') as (W.specs.take i)) ⟨aR.refl _,[],rfl,rfl,RL.nil⟩ (bV (by rw[bH];lia))
   (λi us H' hi ⟨s1,as,e1,e2,e3⟩=>⟨bP.of (s1 _ _ hl),by rw[e1,bH];lia⟩) (λi x us H' hx Sr=>?_) (λus H' Sq=>?_)
  ·obtain⟨s1,as,e1,e2,e3⟩:=Sr;obtain⟨q,m,_,rfl,hm,hq⟩:=rl.get hx;walk_at "w";refine⟨q,m,rfl,hq.tr s1.tr,hg.specs m (jW hm),λy H5 hM s5 ny=>?_⟩;refine⟨s1.trans s5,as ++ [y],by rw[e1,gR];rfl,by rw[iR,e2];rfl,?_⟩;rw[take_snoc hm];exact(e3.imp λa x z=>z.same s5).snoc hM
  ·obtain⟨s1,as,e1,e2,e3⟩:=Sq;subst e1;intro lm Gr;obtain⟨H2,CD,s2,g2⟩:=nw _ Gr;rw[CD];walk_at "w";rw[bH,ym,mq] at e3;exact hN _ _ ⟨lm,as,rfl,g2,e3.imp λa x z=>z.same (aIF Gr s2),s1.trans s2,s1.free Gr⟩
 rintro σ1 H1 ⟨lm,qm,rfl,DE,Gm,s1,Gr⟩;have EW:=Gm.len;refine fH (λσ' H'=>σ'=[some (.ref s),some (.ref lm),none]/\pM a.aW H' lm W.specs/\aR H H') (λN hN=>?_) ?_
 ·walk_at "w";refine cB (λh2=>?_) (λh2=>?_)
  ·rw[bH] at h2;have wg:qs≠[]:=λz=>by rw[z] at ym;simp at ym;lia
   have Ny:qm≠[]:=λz=>by rw[z] at h2;simp at h2
   obtain⟨q0,ql,f1,f2,f3,f4⟩:=ends wg;obtain⟨a0,al,g1,g2,g3,g4⟩:=ends Ny;have hn:0 < W.specs.length:=by lia
   have m0:W.specs[0]?=some W.specs[0]:=dM hn;have mln:W.specs.length - 1 < W.specs.length:=by lia
   have ml:W.specs[W.specs.length - 1]?=some W.specs[W.specs.length - 1]:=dM mln;have p0:=(rl.at_ 0 q0 _ f1 m0).tr s1.tr;have pl:=(rl.at_ (qs.length - 1) ql _ f2 (by rw[ym];exact ml)).tr s1.tr;have Dz:=s1 _ _ hs;have tm:=s1 _ _ hl;generalize W.specs[0]=mA at m0 p0;generalize W.specs[W.specs.length - 1]=mB at ml pl;obtain⟨bb,A7,ebb⟩:=aNr (K:=K) p0 pl;walk_at "w";refine⟨bb,A7,?_⟩;walk_at "w";refine iP (λh3=>?_) (λh3=>?_)
   ·have em:=ebb h3;subst em;walk_at "w";refine HL (j:=qm.length - 1) DE (by rw[bH,show qm.length=(qm.length - 1)+1 by lia];exact Qp _) ?_;obtain⟨J,i,kj,j⟩:=wr H1 lm _;rw[i];have dl:del lm J=del lm H1:=by rw[<-i,Zo]
    have BX:=Gm.set (i:=qm.length - 1) (Gm.at_ 0 a0 mA g1 m0);rw[EW,set_same ml] at BX;walk_at "w";refine hN _ _ ⟨rfl,⟨qm.set (W.specs.length - 1) a0,by rw[j,List.map_set,EW],BX.imp λa x z=>((dl▸z:cX _ (del lm J) a x)).same wO⟩,λb o e=>kj _ _ (s1 _ _ e) (bG Gr e)⟩
   ·walk_at "w";exact hN _ _ ⟨rfl,⟨qm,DE,Gm.imp λa x z=>z.same wO⟩,s1⟩
  ·walk_at "w";exact hN _ _ ⟨rfl,⟨qm,DE,Gm.imp λa x z=>z.same wO⟩,s1⟩
 rintro σ2 H2 ⟨rfl,WL,s2⟩;have cj:=s2 _ _ hs;refine Y6 ?_;repeat walk_at "st"
 refine fH (λσ' H'=>∃so,σ'=[some (.ref s),some (.ref lm),some so]/\Fy a.bS H' so W.store/\pM a.aW H' lm W.specs/\aR H H') (λN hN=>?_) ?_
 ·cases e:W.store with
  |none=>
   rw[e] at df
   replace df:st=.bw:=df
   subst df;walk_at "w";exact hN _ _ ⟨_,rfl,(by rw[e];rfl),WL,s2⟩
  |some ss=>
   rw[e] at df;obtain⟨c,rfl,hc⟩:=df;have gs:=hg.store ss e;have Fc:=(hc.tr s2.tr).at_;walk_at "w";intro x dx nx nd hd;obtain⟨J,i,sj,j⟩:=VN (C:=a.bS) nx nd hd;rw[i];refine⟨x,dx,ss,rfl,j,gs,λH3 hS kx=>⟨rfl,?_⟩⟩;walk_at "w";exact hN _ _ ⟨_,rfl,(by rw[e];exact⟨x,rfl,hS⟩),WL.tr (sj.tr.trans (Y0 j kx)),λb o e=>kx _ _ (sj _ _ (s2 _ _ e)) (bG (s2.free nx) e)⟩
 rintro σ3 H3 ⟨so,rfl,hso,hM3,s3⟩;have E3:=s3 _ _ hs;walk_at "w";intro x dx nx nd hd;obtain⟨J,i,sj,j⟩:=VN (C:=a.cN) nx nd hd;rw[i];refine⟨x,dx,lm,so,W,rfl,j,hM3.tr sj.tr,hso.tr sj.tr,hlen,hg.cw,λH4 hWk kx=>⟨rfl,?_⟩⟩;exact k x H4 hWk (λb o e=>kx _ _ (sj _ _ (s3 _ _ e)) (bG (s3.free nx) e)) (s3.free nx)
theorem pS{H:Hp}{qs:ay}{ss:ak}(h:RL (BJ H) qs ss){H':Hp}(s:Tk H H'):RL (BJ H') qs ss:=h.imp λa x z=>s _ _ z
theorem jV.le{W:WS}(g:W.Good){l:Int}(h:jV W l):0<=l/\l<=8:=by
 unfold jV at h;cases e:W.store with
 |none=>rw[e] at h;replace h:l=0:=h;lia
 |some s=>rw[e] at h;have:=(g.store s e).bz.2;replace h:0<=l/\l<=s.bz:=h;lia
theorem aRt{W:WS}(g:W.Good){l n:Int}(h:jV W l)(hn:n∈Co W.store l):BN W l n:=by
 unfold jV at h;unfold BN;cases e:W.store with
 |none=>
  rw[e] at hn;exact ng.mp hn
 |some s=>
  rw[e] at hn h
  replace h:0<=l/\l<=s.bz:=h
  have E5:n∈pz (max 0 (l - s.out)) (min s.bz (l+s.into)+1 - max 0 (l - s.out)).toNat:=hn;rw[Qk] at E5;show Lv s l n;unfold Lv;lia
theorem aSk{W:WS}(g:W.Good){l:Int}(h:jV W l):0 < (Co W.store l).length/\(Co W.store l).length<=9:=by
 unfold jV at h;cases e:W.store with
 |none=>exact⟨Nat.zero_lt_one,by show 1<=9;lia⟩
 |some s=>
  rw[e] at h
  replace h:0<=l/\l<=s.bz:=h
  have g1:=(g.store s e).bz;have g2:=(g.store s e).into;have g3:=(g.store s e).out;show 0 < (pz (max 0 (l - s.out)) (min s.bz (l+s.into)+1 - max 0 (l - s.out)).toNat).length/\(pz (max 0 (l - s.out)) (min s.bz (l+s.into)+1 - max 0 (l - s.out)).toNat).length<=9;rw[Zn];lia
inductive rM  (K:W.Frag) (vs:List V) (H:Hp) (Q:VK) (E:XK):Prop
 |mk:∀(p s:Addr) (W:WS),(vs=[.ref p,.ref s])->bB H p->kX H s W->W.Good->(∀(r:Addr) (P:Ps) H',fG H' r P->jQ W P->(∀(j:Nat) m s,W.specs[j]?=some m->P.1[j]?=some s->yu m s)->bB H' p->cI p H H'->Q (.ref r) H')->rM K vs H Q E
theorem aB9(tx:Txt K mg a):bQ P w K mg base eR 3 a.tN a.tO aia (rM K):=by
 have aS:=cS (P:=P) (w:=w) (base:=base) tx;have aHg:=aFl (P:=P) (w:=w) (base:=base) tx;refine tx.ib.F.ok qW (by walk_at "l") λbq A outer s H vs Q E hr h=>?_;obtain⟨p,s,W,rfl ,hh,hW,hg,k⟩:=h;have hu:=fV hr;refine aY (aE (aK (i:=2) qW.nd (cF (rc:=sD K) kA (by rfl) tx.kW lC (aA (bR (k:=1) (idx:=[0]) (N:=["_law_one","_law_hand"]) (bY (sc:=aI iQ) (NX:=bQa) rfl rfl rfl (by decide +kernel)) rfl (bI (K':=K) (aH (K':=K) (aB 1) aC)) (λ_ _ _ _=>(aJ (i:=0) (show(["_law_one","_law_hand"]:ah).Nodup by decide +kernel))) (cJ (by decide)) (λ_ _ _ _=>bE) (λ_ _ _ _=>(bh aHg hr tx.lg (aA (aB 1) (aA (aB 0) aD))))) aD)))
  (aE (bC (aV qA (aH (K':=K) (aB 1) aC) cU (bD _)) (aG (aM (eI (aB 2) aC))) aZ)
  (aG (aM (eI (aB 2) (bh aS hr tx.af (aA (aB 0) (aA (aL bL (aH (K':=K) (aH (K':=K) (aB 1) aC) aC) aC) aD)))))))) ?_
 have hlen:=hg.len;obtain⟨ls,st,b,hs,fb,df,hb⟩:=hW.ex;obtain⟨qs,hl,rl⟩:=fb.ex;have ym:=rl.len;have sp:s≠p:=hh.BC hs (by simp);have lp:ls≠p:=hh.CO hl;refine aT (σ:=[some (.ref p),some (.ref s),none]) rfl ?_;walk_at "w";refine fO (bP.of hl) ?_;refine dF (xs:=qs.map V.ref) (λi us H'=>bB H' p/\cI p H H'/\∃ts ss,us=ts.map V.ref/\ts.length=i/\RL (BJ H') ts ss/\(∀s∈ss,VS s)/\∀(j:Nat) m s,W.specs[j]?=some m->ss[j]?=some s->yu m s) ⟨hh,λ_ _ e _=>e,[],[],rfl,rfl,RL.nil,(λs h=>by cases h),λj m s _ h=>by simp at h⟩ (bV (by rw[bH];lia))
  (λi us H' hi ⟨h1,k1,ts,ss,e1,e2,e3,e4,e5⟩=>⟨bP.of (k1 _ _ hl lp),by rw[e1,bH];lia⟩) (λi x us H' hx So=>?_) (λus H' Sn=>?_)
 ·obtain⟨h1,k1,ts,ss,e1,e2,e3,e4,e5⟩:=So;obtain⟨q,m,_,rfl,hm,hq⟩:=rl.get hx;have gm:=hg.specs m (jW hm);walk_at "w";refine⟨p,q,m,rfl,h1,hq.tr (hh.tr k1),gm,λt o d H2 ht Wj h2 k2=>?_⟩;refine⟨h2,k1.trans k2,ts ++ [t],ss ++ [(o,d)],by rw[e1,gR];rfl,by rw[iR,e2];rfl,(pS e3 (h1.tr k2).tk).snoc ht,λs hs=>?_,λj m' s' hj hs=>?_⟩
  rotate_left
  ·by_cases qi:j < ss.length
   ·rw[vf qi] at hs;exact e5 j m' s' hj hs
   ·have GJ:j < (ss ++ [(o,d)]).length:=(iZ.mp hs).1;rw[iR,qf] at GJ;have ej:j=i:=by have:=e3.len;lia
    rw[vo (by lia),show j - ss.length=0 by lia] at hs;cases hs;rw[ej,hm] at hj;cases hj;exact Wj
  rcases oa.mp hs with h|h
  ·exact e4 s h
  ·rw[ng.mp h];rcases Wj with ⟨z1,z2,_⟩|⟨z1,z2,_⟩
   ·exact⟨.inr z1,z2⟩
   ·exact⟨.inl z1,z2⟩
 ·obtain⟨h1,k1,ts,ss,e1,e2,e3,e4,e5⟩:=Sn;subst e1;rw[bH] at e2;intro l1 n1;obtain⟨H2,i2,s2,g2⟩:=nw _ n1;rw[i2];walk_at "w";refine sE (bP.of g2) ?_;intro T nT;obtain⟨H3,i3,s3,g3⟩:=nw _ nT;rw[i3];have Cd:=s2.trans s3;have E3:=Cd _ _ (k1 _ _ hs sp);have Yb:=pS e3 Cd.tk;have VV:ss.length=W.specs.length:=by rw[<-e3.len,e2,ym]
  have fin:∀(b8:Int),jV W b8->∀H4,bB H4 p->cI p H3 H4->Q (.ref T) H4\/True:=λ_ _ _ _ _=>.inr trivial;cases e:W.store with
  |none=>
   rw[e] at df
   replace df:st=.bw:=df
   subst df;walk_at "w";intro r nr;obtain⟨H4,i4,s4,g4⟩:=nw _ nr;rw[i4];walk_at "w";exact k r (ss,0) H4 ⟨T,g4,ts,s4 _ _ g3,pS Yb s4.tk⟩ ⟨VV,e4,by unfold jV;rw[e]⟩ e5 (h1.same (Cd.trans s4)) (k1.trans (Cd.trans s4).keep)
  |some sv=>
   rw[e] at df;obtain⟨c,rfl,hc⟩:=df;have gs:=(hg.store sv e).bz;have hc3:=(hc.tr ((hh.tr k1).trans Cd.tr)).at_;walk_at "w";refine⟨p,_,rfl,h1.same Cd,by lia,by lia,λr5 H5 a5 b5 h5 k5 _=>?_⟩;have Vx:=((h1.same Cd).tr k5).tk;walk_at "w";intro r nr;obtain⟨H6,i6,s6,g6⟩:=nw _ nr;rw[i6];walk_at "w";exact k r (ss,r5) H6 ⟨T,g6,ts,s6 _ _ (Vx _ _ g3),pS Yb (Vx.trans s6.tk)⟩ ⟨VV,e4,by unfold jV;rw[e];exact⟨a5,by show r5<=sv.bz;lia⟩⟩ e5 (h5.same s6) (k1.trans (Cd.keep.trans (k5.trans s6.keep)))
inductive aDa  (K:W.Frag) (vs:List V) (H:Hp) (Q:VK) (E:XK):Prop
 |mk:∀(p ls t:Addr) (ms:List MS) (ss:ak),(vs=[.ref p,.ref ls,.ref t])->bB H p->pL H ls ms->FH H t ss->((∀m∈ms,m.Good))->(ms.length<=6)->(ss.length=ms.length)->((∀s∈ss,VS s))->(∀(r:Addr) (os:ae) H',H' r=some (.tup (os.map V.int))->os.length=ms.length->(∀o∈os,nC o)->Mw ss os->bB H' p->cI p H H'->dR p H H'->Q (.ref r) H')->aDa K vs H Q E
theorem aII(tx:Txt K mg a):bQ P w K mg base eR 2 a.aEn a.aEo aKa (aDa K):=by
 have tG:=y9 (P:=P) (w:=w) (base:=base) tx;have aS:=cS (P:=P) (w:=w) (base:=base) tx;refine tx.sd.F.ok lI (by walk_at "l") λbq A outer s H vs Q E hr h=>?_;obtain⟨p,ls,t,ms,ss,rfl ,hh,fb,df,hgm,hlen,hls,hvs,k⟩:=h;have hu:=fV hr;refine aY (aE (aK (i:=3) lI.nd (eM aD))
  (aE (bZ PassesOwn.never rfl (cP (by rfl) tx.eE (aA (aN (rc:=mS K) cO (by rfl) tx.hX fB (aA (aB 1) aD)) aD)) (aJ (i:=4) lI.nd) (aE (aK (i:=5) lI.nd (bh aS hr tx.af (aA (aB 0) (aA aC aD))))
  (aE (bC (aV qA (bh tG hr tx.ia (aA (aH (K':=K) (aB 1) (aB 4)) (aA (aH (K':=K) (aB 2) (aB 4)) (aA (aB 5) aD)))) cU (bD _)) (aG (aK (i:=5) lI.nd (aL dS aC (aB 5)))) aZ)
  (aG (dC (dW (K':=K) (aB 3) (aA (aB 5) aD)))))))
  (aG (aM (cF (rc:=sD K) kA (by rfl) tx.kW lC (aA (aB 3) aD)))))) ?_
 obtain⟨qs,hl,rl⟩:=fb.ex;obtain⟨qt,ht,rt⟩:=df.ex;have ym:=rl.len;have lqt:=rt.len;have lp:ls≠p:=hh.CO hl;refine aT (σ:=[some (.ref p),some (.ref ls),some (.ref t),none,none,none]) rfl ?_;walk_at "w";intro l nl;obtain⟨H1,i1,s1,g1⟩:=nw _ nl;rw[i1];have VX:l≠p:=hh.DW nl;have tm:=s1 _ _ hl;walk_at "w";refine⟨by rw[bH];lia,by rw[bH];lia,?_⟩;rw[yd,bH,ym];refine lD (n:=ms.length) (λi σ' H'=>∃(os:ae) (x4 x5:Option V),σ'=[some (.ref p),some (.ref ls),some (.ref t),some (.ref l),x4,x5]/\H' l=some (.lst (os.map V.int))/\os.length=i/\(∀o∈os,nC o)/\Mw ss os/\cI p H H'/\dR p H H')
  ⟨[],_,_,rfl,g1,rfl,(λo h=>by cases h),(λj s o _ h=>by simp at h),s1.keep,dR.of (s1 p)⟩ (λi σ' H' hi Sm=>?_) (λσ' H' Sl=>?_)
 ·obtain⟨os,x4,x5,e,f1,f2,f3,f4,f5,f6⟩:=Sm;subst e;have zm:i < ms.length:=hi;obtain⟨q,eq,hq⟩:=rl.ix zm;have DJ:i < ss.length:=by lia
  obtain⟨tq,GZ,Ct⟩:=rt.ix DJ;have gm:=hgm _ (uu zm);have sv:=hvs _ (uu DJ);have gs:ss[i]?=some ss[i]:=dM DJ;generalize ms[i]=m at hq gm;generalize ss[i]=Bo at Ct sv gs;have h2:=hh.of f5 f6;walk_at "w";refine⟨p,_,rfl,h2,by decide,by decide,λr H3 a3 b3 h3 k3 q3=>?_⟩;have K3:=f5.trans k3;have Q3:=f6.trans q3;have T3:=hh.tr K3;have Wn:=K3 _ _ hl lp;have ht3:=T3.tk _ _ ht;have V5:lT (qs.map V.ref) (0+(i:Int))=some (.ref q):=by rw[wk];exact sZ eq
  have Nj:lT (qt.map V.ref) (0+(i:Int))=some (.ref tq):=by rw[wk];exact sZ GZ
  have UH:=k3 _ _ f1 VX;have rb:nC r:=by unfold nC;lia
  repeat walk_at "st"
  refine fH (λσ' H'=>∃on:Int,σ'=[some (.ref p),some (.ref ls),some (.ref t),some (.ref l),some (.int (0+(i:Int))),some (.int on)]/\nC on/\(Bo.1=on\/Bo.2=0)/\aR H3 H') (λN hN=>?_) ?_
  ·walk_at "w";refine⟨q,m,tq,Bo.1,Bo.2,r,rfl,hq.tr T3,T3.tk _ _ Ct,rb,sv.1,sv.2,λcz T H4 s4 nT hT=>?_,λcz=>?_⟩
   ·walk_at "w";exact hN _ _ ⟨r,rfl,rb,cz,s4⟩
   ·walk_at "w";refine hN _ _ ⟨1 - r,rfl,aO3 rb,.inl ?_,aR.refl _⟩;have b1:=sv.1;have n1:Bo.1≠r:=λz=>cz (.inl z);unfold nC at b1 rb;lia
  rintro σ4 H4 ⟨on,rfl,DB,cz,s4⟩;have Wm:=s4 _ _ UH;walk_at "w";refine iT (bP.of Wm) ?_;walk_at "w";refine j0 (xs:=os.map V.int) Wm (rQ (by rw[bH,f2];lia:(os.map V.int).length < 2000) (bV (by simp))) ?_;obtain⟨H5,i5,k5,g5⟩:=wr H4 l _;rw[i5];walk_at "w";refine⟨os ++ [on],_,_,rfl,by rw[g5,gR];rfl,by rw[iR,f2];rfl,λo ho=>?_,λj s o hs ho=>?_,λb o e nb=>k5 _ _ (s4 _ _ (K3 _ _ e nb)) (bG nl e),Q3.trans ((dR.of (s4 p)).trans (dR.of λo e=>k5 _ _ e (Ne.symm VX)))⟩
  ·rcases oa.mp ho with h|h
   ·exact f3 o h
   ·rw[ng.mp h];exact DB
  ·by_cases hj:j < os.length
   ·rw[vf hj] at ho;exact f4 j s o hs ho
   ·have qi:j < (os ++ [on]).length:=(iZ.mp ho).1;rw[iR,qf] at qi;have ej:j=i:=by lia
    subst ej;rw[gs] at hs;cases hs;rw[vo (by lia),f2,yw] at ho;cases ho;exact cz
 ·obtain⟨os,x4,x5,e,f1,f2,f3,f4,f5,f6⟩:=Sl;subst e;walk_at "w";refine sE (bP.of f1) ?_;intro T nT;obtain⟨H3,i3,s3,g3⟩:=nw _ nT;rw[i3];exact k T os H3 g3 f2 f3 f4 ((hh.of f5 f6).same s3) (f5.trans s3.keep) (f6.trans (dR.of (s3 p)))
inductive wX  (K:W.Frag) (vs:List V) (H:Hp) (Q:VK) (E:XK):Prop
 |mk:∀(p s:Addr) (m:MS) (on:Int),(vs=[.ref p,.ref s,.int on])->bB H p->dX H s m->m.Good->(∀(out:Int) H',tW m on out->bB H' p->cI p H H'->dR p H H'->Q (.int out) H')->wX K vs H Q E
theorem aEK(tx:Txt K mg a):bQ P w K mg base eR 3 a.yL a.yM aTa (wX K):=by
 have aS:=cS (P:=P) (w:=w) (base:=base) tx;have QV:=aCY (P:=P) (w:=w) (base:=base) tx;refine tx.jl.F.ok nX (by walk_at "l") λbq A outer s H vs Q E hr h=>?_;obtain⟨p,s,m,on,rfl ,hh,hs,hg,k⟩:=h;have hu:=fV hr;refine aY (aE (bC (aV (r:=iJ K) (cZ hu) (aB 2) aC (bD _)) (aG (aM aC)) aZ)
  (aE (aK (i:=3) nX.nd (bh aS hr tx.af (aA (aB 0) (aA aC aD))))
  (aE (aK (i:=4) nX.nd (aL bL (aH (K':=K) (aB 1) aC) (aN (rc:=yt K) (fP rfl) (by rfl) tx.mN jD (aA (bR (k:=2) (idx:=[]) (N:=bFa) (bY (sc:=aI kL) (NX:=bwa) rfl rfl rfl (by decide +kernel)) rfl (bI (K':=K) (aH (K':=K) (aB 1) aC)) (λ_ _ _ _=>(bK (K':=K) (n:=2) rfl (aO (aJ (i:=0) (show(bFa:ah).Nodup by decide +kernel)) (aO (aJ (i:=1) (show(bFa:ah).Nodup by decide +kernel)) bJ)))) (fY (bF (by decide) (bF (by decide) eQ))) (λ_ _ _ _=>bE) (λ_ _ _ _=>(aB 0))) aD))))
  (aG (aM (aH (K':=K) (xK (aH (K':=K) (aB 1) aC) (aB 4) (aL bL (aH (K':=K) (aB 1) aC) (bh QV hr tx.ju (aA (aB 0) (aA (aL bL (aL dS (aB 4) (aH (K':=K) (aB 1) aC)) aC) aD))))) (aN (fN rfl) (by rfl) tx.mM jC (aA aC (aA (aL dS (aB 3) aC) aD))))))))) ?_
 obtain⟨sm0,sm1⟩:=aRm (ps:=m.pieces) (λt ht=>(hg.pieces.pc t ht).2.1);refine aT (σ:=[some (.ref p),some (.ref s),some (.int on),none,none]) rfl ?_;walk_at "w";refine cB (λh0=>?_) (λh0=>?_)
 ·walk_at "w";exact k _ _ ⟨λ_=>rfl,λz=>absurd h0 z⟩ hh (λ_ _ e _=>e) (dR.of λ_ e=>e)
 ·walk_at "w";refine⟨p,_,rfl,hh,by decide,by decide,λr H1 a1 b1 h1 k1 q1=>?_⟩;have Dz:=hs.tr (hh.tr k1);obtain⟨pl,hx,hp⟩:=Dz.ex;obtain⟨qs,g1,g2⟩:=hp.ex;walk_at "w";refine fO (bP.of g1) ?_;refine L6 (λt=>some t.1) g1 g2 hg.pieces.len (λq t N N' hm hq hN GR=>?_) ?_
  ·refine cM (gZ.of hq) rfl ?_;walk_at "w";exact hN _ rfl
  intro l1 n1;obtain⟨H2,i2,s2,e2⟩:=nw _ n1;rw[i2];walk_at "w";refine nG (bP.of e2) ?_;rw[PY];have Bq:=s2 _ _ hx;have h2:=h1.same s2;walk_at "w";refine⟨p,_,rfl,h2,by lia,λr2 H3 a3 b3 h3 k3 q3=>?_⟩;walk_at "w";intro c nc;obtain⟨H4,i4,s4,e4⟩:=nw _ nc;rw[i4];walk_at "w";have K4:=k1.trans (s2.keep.trans (k3.trans s4.keep));have Q4:=q1.trans ((dR.of (s2 p)).trans (q3.trans (dR.of (s4 p))));have hw:max 0 (r - 1)=0\/max 0 (r - 1)=1\/max 0 (r - 1)=2:=by lia
  rcases hw with e|e|e
  ·refine rW (bP.of e4) (by rw[e];rfl) ?_;exact k _ _ ⟨λz=>absurd z h0,λ_=>⟨by lia,by lia⟩⟩ (h3.same s4) K4 Q4
  ·refine rW (bP.of e4) (by rw[e];rfl) ?_;exact k _ _ ⟨λz=>absurd z h0,λ_=>⟨by lia,by lia⟩⟩ (h3.same s4) K4 Q4
  ·refine rW (bP.of e4) (by rw[e];rfl) ?_;exact k _ _ ⟨λz=>absurd z h0,λ_=>⟨by lia,by lia⟩⟩ (h3.same s4) K4 Q4
inductive aBw  (K:W.Frag) (vs:List V) (H:Hp) (Q:VK) (E:XK):Prop
 |mk:∀(p s x:Addr) (W:WS) (P:Ps),(vs=[.ref p,.ref s,.ref x])->bB H p->kX H s W->W.Good->fG H x P->jQ W P->(∀(r:Addr) (h:Hr) H',Ap H' r h->qM W P h->bB H' p->cI p H H'->Q (.ref r) H')->aBw K vs H Q E
theorem aHh(tx:Txt K mg a):bQ P w K mg base eR 4 a.aCD a.aCE asa (aBw K):=by
 have aS:=cS (P:=P) (w:=w) (base:=base) tx;have aFt:=aEH (P:=P) (w:=w) (base:=base) tx;have aJQ:=aII (P:=P) (w:=w) (base:=base) tx;have aFu:=aEK (P:=P) (w:=w) (base:=base) tx;refine tx.pf.F.ok mZ (by walk_at "l") λbq A outer s H vs Q E hr h=>?_;obtain⟨p,s,x,W,P,rfl ,hh,hW,hg,hP,bf,k⟩:=h;have hu:=fV hr;refine aY (aE (m9 (i:=3) mZ.nd rfl (Or.inr rfl) (bh aJQ hr tx.sd (aA (aB 0) (aA (aH (K':=K) (aB 1) aC) (aA (aH (K':=K) (aB 2) aC) aD)))))
  (aE (aK (i:=4) mZ.nd (cF (rc:=sD K) kA (by rfl) tx.kW lC (aA (bR (k:=1) (idx:=[0,3,1]) (N:=bBa) (bY (sc:=aI o8) (NX:=a5a) rfl rfl rfl (by decide +kernel)) rfl (cP (by rfl) tx.eE (aA (aN (rc:=mS K) cO (by rfl) tx.hX fB (aA (aB 3) aD)) aD)) (λ_ _ _ _=>(aJ (i:=0) (show(bBa:ah).Nodup by decide +kernel))) (cJ (by decide)) (λ_ _ _ _=>bE) (λ_ _ _ _=>(bh aFu hr tx.jl (aA (aB 1) (aA (aH (K':=K) (aH (K':=K) (aB 3) aC) (aB 0)) (aA (aH (K':=K) (aB 2) (aB 0)) aD)))))) aD)))
  (aE (aK (i:=5) mZ.nd (bh aFt hr tx.jn (aA (aH (K':=K) (aB 1) aC) (aA (aH (K':=K) (aB 2) aC) aD))))
  (aG (aM (HJ (aB 3) (aB 4) (aH (K':=K) (aB 5) (bh aS hr tx.af (aA (aB 0) (aA (aN (rc:=mS K) cO (by rfl) tx.hX fB (aA (aB 5) aD)) aD)))))))))) ?_
 have hlen:=hg.len;obtain⟨ls,st,b,hs,fb,df,hb⟩:=hW.ex;obtain⟨qs,hl,rl⟩:=fb.ex;have ym:=rl.len;obtain⟨t,hx,Af⟩:=hP.ex;have sp:s≠p:=hh.BC hs (by simp);have lp:ls≠p:=hh.CO hl;refine aT (σ:=[some (.ref p),some (.ref s),some (.ref x),none,none,none]) rfl ?_;walk_at "w";refine⟨p,ls,t,W.specs,P.1,rfl,hh,fb,Af,hg.specs,hlen,bf.len,bf.vs,λT os H1 hT uc bos may h1 k1 q1=>?_⟩;have T1:=hh.tr k1;have Dz:=k1 _ _ hs sp;have tm:=k1 _ _ hl lp;have E2:=T1.tk _ _ hx;walk_at "w";refine⟨by rw[bH];lia,by rw[bH];lia,?_⟩;rw[yd,bH];refine iS (n:=os.length) (λi us H'=>bB H' p/\cI p H1 H'/\∃outs:ae,us=outs.map V.int/\outs.length=i/\∀(j:Nat) m on out,W.specs[j]?=some m->os[j]?=some on->outs[j]?=some out->tW m on out) ⟨h1,λ_ _ e _=>e,[],rfl,rfl,λj m on out _ _ h=>by simp at h⟩ (bV (by lia))
  (λi us H' hi ⟨h2,k2,outs,e1,e2,e3⟩=>by rw[e1,bH];lia) (λi us H' hi Sk=>?_) (λus H' Sj=>?_)
 ·obtain⟨h2,k2,outs,e1,e2,e3⟩:=Sk;have zm:i < W.specs.length:=by lia
  obtain⟨q,eq,hq⟩:=rl.ix zm;have gm:=hg.specs _ (uu zm);have hm:W.specs[i]?=some W.specs[i]:=dM zm;have ho:os[i]?=some os[i]:=dM hi;generalize W.specs[i]=m at hq gm hm;generalize os[i]=on at ho;have T2:=h1.tr k2;have cj:=k2 _ _ Dz sp;have vj:=k2 _ _ tm lp;have um:=T2.tk _ _ hT;have V5:lT (qs.map V.ref) (0+(i:Int))=some (.ref q):=by rw[wk];exact sZ eq
  have Nj:lT (os.map V.int) (0+(i:Int))=some (.int on):=by rw[wk];exact m6 ho
  walk_at "w";refine⟨p,q,m,on,rfl,h2,hq.tr (T1.trans T2),gm,λout H3 UD h3 k3 _=>?_⟩;refine⟨h3,k2.trans k3,outs ++ [out],by rw[e1,gR];rfl,by rw[iR,e2];rfl,λj m' vx TR g1 g2 g3=>?_⟩;by_cases hj:j < outs.length
  ·rw[vf hj] at g3;exact e3 j m' vx TR g1 g2 g3
  ·have qi:j < (outs ++ [out]).length:=(iZ.mp g3).1;rw[iR,qf] at qi;have ej:j=i:=by lia
   subst ej;rw[hm] at g1;cases g1;rw[ho] at g2;cases g2;rw[vo (by lia),e2,yw] at g3;cases g3;exact UD
 ·obtain⟨h2,k2,outs,e1,e2,e3⟩:=Sj;subst e1;intro l1 n1;obtain⟨H3,i3,s3,g3⟩:=nw _ n1;rw[i3];walk_at "w";refine sE (bP.of g3) ?_;intro T2 Du;obtain⟨H4,i4,s4,g4⟩:=nw _ Du;rw[i4];have T4:=T1.trans ((h1.tr k2).trans (s3.tr.trans s4.tr));have K4:=k1.trans (k2.trans (s3.keep.trans s4.keep));have hs4:=K4 _ _ hs sp;have hx4:=T4.tk _ _ hx;have h4:=h2.same (s3.trans s4);walk_at "w";refine⟨st,W.store,P.2,rfl,df.tr T4,λsv e=>⟨hg.store sv e,by have:=bf.b8;unfold jV at this;rw[e] at this;exact this⟩,λq H5 s5 nq hq=>?_⟩;obtain⟨lv0,lv1⟩:=aSk hg bf.b8;have qp:q≠p:=h4.DW nq;walk_at "w";refine⟨p,_,rfl,h4.same s5,by rw[bH];lia,by rw[bH];lia,λr6 H6 a6 b6 h6 k6 _=>?_⟩;rw[bH] at b6;have Kw:=k6 _ _ hq qp;obtain⟨j6,hj6⟩ : ∃j:Nat,r6=(j:Int):=⟨_,(Int.toNat_of_nonneg a6).symm⟩
  have lj6:j6 < (Co W.store P.2).length:=by lia
  have g6:(Co W.store P.2)[j6]?=some (Co W.store P.2)[j6]:=dM lj6;generalize (Co W.store P.2)[j6]=b8 at g6;walk_at "w";refine rW (bP.of Kw) (by rw[hj6];exact m6 g6) ?_;walk_at "w";intro r nr;obtain⟨H7,i7,s7,g7⟩:=nw _ nr;rw[i7];have Di:Tk H4 H7:=(s5.tr.trans (((h4.same s5).tr k6).trans s7.tr)).tk;walk_at "w";refine k r ⟨os,outs,b8⟩ H7 ⟨T,T2,g7,Di _ _ (((h1.tr k2).tk.trans (s3.trans s4).tk) _ _ hT),Di _ _ g4⟩ ⟨uc,by show outs.length=_;rw[e2,uc],bos,may,e3,aRt hg bf.b8 (jW g6)⟩ (h6.same s7) (K4.trans (s5.keep.trans (k6.trans s7.keep)))
inductive wY  (K:W.Frag) (vs:List V) (H:Hp) (Q:VK) (E:XK):Prop
 |mk:∀(s x y:Addr) (W:WS) (P:Ps) (h:Hr),(vs=[.ref s,.ref x,.ref y])->kX H s W->W.Good->fG H x P->jQ W P->Ap H y h->qM W P h->(∀r H',aR H H'->fG H' r (pN W P h)->Q (.ref r) H')->wY K vs H Q E
theorem aEL(tx:Txt K mg a):bQ P w K mg base eR 2 a.yN a.yO apa (wY K):=by
 have tG:=y9 (P:=P) (w:=w) (base:=base) tx;refine tx.jo.F.ok vM (by walk_at "l") λbq A outer s H vs Q E hr h=>?_;obtain⟨s,x,y,W,P,h,rfl ,hW,hg,hP,bf,hh,A2,k⟩:=h;have hu:=fV hr;refine aY (aE (aK (i:=3) vM.nd (cF (rc:=sD K) kA (by rfl) tx.kW lC (aA (bR (k:=1) (idx:=[2,1,0]) (N:=bva) (bY (sc:=aI kM) (NX:=bra) rfl rfl rfl (by decide +kernel)) rfl (cP (by rfl) tx.eE (aA (aN (rc:=mS K) cO (by rfl) tx.hX fB (aA (aH (K':=K) (aB 0) aC) aD)) aD)) (λ_ _ _ _=>(aJ (i:=0) (show(bva:ah).Nodup by decide +kernel))) (cJ (by decide)) (λ_ _ _ _=>bE) (λ_ _ _ _=>(bh tG hr tx.ia (aA (aH (K':=K) (aH (K':=K) (aB 3) aC) (aB 0)) (aA (aH (K':=K) (aH (K':=K) (aB 2) aC) (aB 0)) (aA (aH (K':=K) (aH (K':=K) (aB 1) aC) (aB 0)) aD)))))) aD)))
  (aG (aM (eI (aB 3) (aH (K':=K) (aB 2) aC))))) ?_
 have hlen:=hg.len;obtain⟨ls,st,b,hs,fb,df,hb⟩:=hW.ex;obtain⟨qs,hl,rl⟩:=fb.ex;have ym:=rl.len;obtain⟨t,hx,Af⟩:=hP.ex;obtain⟨qt,ht,rt⟩:=Af.ex;obtain⟨u,v,hy,hu,hv⟩:=hh.ex;have ll:=bf.len;have lo:=A2.ons;refine aT (σ:=[some (.ref s),some (.ref x),some (.ref y),none]) rfl ?_;walk_at "w";refine⟨by rw[bH];lia,by rw[bH];lia,?_⟩;rw[yd,bH,ym];refine iS (n:=W.specs.length) (λi us H'=>aR H H'/\∃rs,us=rs.map V.ref/\rs.length=i/\RL (BJ H') rs ((iO W.specs P.1 h.ons).take i)) ⟨aR.refl _,[],rfl,rfl,RL.nil⟩ (bV (by lia))
  (λi us H' hi ⟨s1,rs,e1,e2,e3⟩=>by rw[e1,bH];lia) (λi us H' hi Si=>?_) (λus H' Sh=>?_)
 ·obtain⟨s1,rs,e1,e2,e3⟩:=Si;have zm:i < W.specs.length:=hi;obtain⟨q,eq,hq⟩:=rl.ix zm;have DJ:i < P.1.length:=by lia
  obtain⟨tq,GZ,Ct⟩:=rt.ix DJ;have Ws:i < h.ons.length:=by lia
  have hm:W.specs[i]?=some W.specs[i]:=dM zm;have Dy:P.1[i]?=some P.1[i]:=dM DJ;have ho:h.ons[i]?=some h.ons[i]:=dM Ws;have sv:=bf.vs _ (uu DJ);have bo:=A2.bits _ (uu Ws);generalize W.specs[i]=m at hq hm;generalize P.1[i]=Bo at Ct Dy sv;generalize h.ons[i]=on at ho bo;have may:=A2.may i Bo on Dy ho;have V5:lT (qs.map V.ref) (0+(i:Int))=some (.ref q):=by rw[wk];exact sZ eq
  have Nj:lT (qt.map V.ref) (0+(i:Int))=some (.ref tq):=by rw[wk];exact sZ GZ
  have i3':lT (h.ons.map V.int) (0+(i:Int))=some (.int on):=by rw[wk];exact m6 ho
  walk_at "w";refine⟨q,m,tq,Bo.1,Bo.2,on,rfl,hq.same s1,s1 _ _ Ct,bo,sv.1,sv.2,λ_ T H2 s2 nT hT=>?_,λz=>absurd may z⟩;refine⟨s1.trans s2,rs ++ [T],by rw[e1,gR];rfl,by rw[iR,e2];rfl,?_⟩;rw[aGg ll lo hm Dy ho];exact(pS e3 s2.tk).snoc hT
 ·obtain⟨s1,rs,e1,e2,e3⟩:=Sh;subst e1;intro l1 n1;obtain⟨H3,i3,s3,g3⟩:=nw _ n1;rw[i3];walk_at "w";refine sE (bP.of g3) ?_;intro T nT;obtain⟨H4,i4,s4,g4⟩:=nw _ nT;rw[i4];have VC:=s1.trans (s3.trans s4);have hy4:=VC _ _ hy;walk_at "w";intro r nr;obtain⟨H5,i5,s5,g5⟩:=nw _ nr;rw[i5];walk_at "w";rw[za (by rw[rK ll lo];exact eO _)] at e3;exact k r H5 (VC.trans s5) ⟨T,g5,rs,s5 _ _ g4,pS e3 (s3.trans (s4.trans s5)).tk⟩
inductive aBx  (K:W.Frag) (vs:List V) (H:Hp) (Q:VK) (E:XK):Prop
 |mk:∀(ad:Addr) (ns:ae) (f n:Int) (s x:Addr) (W:WS) (P:Ps),(vs=[.ref ad,.int f,.int n,.ref s,.ref x])->(bP K H ad (ns.map V.int))->(ns.length<=63)->(0<=f)->(f<=1000)->(0<=n)->(n<=48)->kX H s W->W.Good->fG H x P->jQ W P->(∀r hs H',aR H H'->H r=none->kI H' r hs->hs.length=n.toNat->cC W P hs->Q (.ref r) H')->aBx K vs H Q E
theorem aHi(tx:Txt K mg a):bQ P w K mg base eR 5 a.aCF a.aCG afa (aBx K):=by
 have aFv:=aEL (P:=P) (w:=w) (base:=base) tx;have aIJ:=aHh (P:=P) (w:=w) (base:=base) tx;have wZ:=aBj (P:=P) (w:=w) (base:=base) tx;refine tx.pe.F.ok m3 (by walk_at "l") λbq A outer s H vs Q E hr h=>?_;obtain⟨ad,ns,f,n,s,x,W,P,rfl ,hS,hl,f0,f1,n0,n1,hW,hg,hP,bf,k⟩:=h;have hu:=fV hr;refine aY (aE (aK (i:=5) m3.nd (eM aD))
  (aE (bZ PassesOwn.never rfl (yB (by rfl) tx.eE (aA (aB 1) (aA (aL bL (aB 1) (aB 2)) aD))) (aJ (i:=6) m3.nd) (aE (dC (dW (K':=K) (aB 5) (aA (bh aIJ hr tx.pf (aA (bh wZ hr tx.ij (aA (aB 0) (aA (aB 6) aD))) (aA (aB 3) (aA (aB 4) aD)))) aD)))
  (aG (aK (i:=4) m3.nd (bh aFv hr tx.jo (aA (aB 3) (aA (aB 4) (aA (aH (K':=K) (aB 5) (lF uT aC)) aD))))))))
  (aG (aM (aB 5))))) ?_
 refine aT (σ:=[some (.ref ad),some (.int f),some (.int n),some (.ref s),some (.ref x),none,none]) rfl ?_;walk_at "w";intro l nl;obtain⟨H1,i1,s1,g1⟩:=nw _ nl;rw[i1];walk_at "w";refine⟨⟨by lia,by lia,by lia,by lia⟩,?_⟩;rw[show f+n - f=n by lia];refine lD (n:=n.toNat) (λi σ' H'=>∃x' x6 qs hs,σ'=[some (.ref ad),some (.int f),some (.int n),some (.ref s),some (.ref x'),some (.ref l),x6]/\H' l=some (.lst (qs.map V.ref))/\RL (Ap H') qs hs/\hs.length=i/\cC W P hs/\fG H' x' (wQ W P hs)/\aR H H')
  ⟨x,_,[],[],rfl,g1,RL.nil,rfl,trivial,hP.tk s1.tk,s1⟩ (λi σ' H' hi Sg=>?_) (λσ' H' Sf=>?_)
 ·obtain⟨x',x6,qs,hs,e,f1,f2,f3,f4,f5,f6⟩:=Sg;subst e;have EV:=f2.len;have pos:=f4.pos hg bf;walk_at "w";refine iT (bP.of f1) ?_;walk_at "w";refine⟨ad,ns,_,rfl,aR.seq f6 hS,hl,by lia,λp H2 s2 np hh=>?_⟩;walk_at "w";refine⟨p,s,x',W,_,rfl,hh,hW.tr (f6.trans s2).tr,hg,f5.tk s2.tk,pos,λr h H3 hr A2 h3 k3=>?_⟩;have s3:aR H' H3:=QR np s2 k3;have g3:=s3 _ _ f1;walk_at "w";refine j0 (xs:=qs.map V.ref) g3 (rQ (by rw[bH,EV,f3];lia:(qs.map V.ref).length < 2000) (bV (by simp))) ?_;obtain⟨H4,i4,k4,g4⟩:=wr H3 l _;rw[i4];have s4:aR H H4:=λb o e=>k4 _ _ ((f6.trans s3) _ _ e) (bG nl e);have J0:Tk H3 H4:=by rw[<-i4];exact PU g3
  have f2':=(f2.imp λa x z=>z.tk (s3.tk.trans J0)).snoc (hr.tk J0);have g4':H4 l=some (.lst ((qs ++ [r]).map V.ref)):=by rw[g4,gR];rfl
  have il:lT ((qs ++ [r]).map V.ref) (-1)=some (.ref r):=by rw[gR];exact aO5 _
  walk_at "w";refine⟨s,x',r,W,_,h,rfl,hW.tr s4.tr,hg,(f5.tk s3.tk).tk J0,pos,hr.tk J0,A2,λy H5 s5 hy=>?_⟩;walk_at "w";refine⟨y,_,qs ++ [r],hs ++ [h],rfl,s5 _ _ g4',f2'.imp λa x z=>z.tk s5.tk,by rw[iR,f3];rfl,f4.snoc A2,by rw[xN];exact hy,s4.trans s5⟩
 ·obtain⟨x',x6,qs,hs,e,f1,f2,f3,f4,f5,f6⟩:=Sf;subst e;walk_at "w";exact k l hs H' f6 nl ⟨qs,f1,f2⟩ f3 f4
inductive uC  (K:W.Frag) (C:Addr) (vs:List V) (H:Hp) (Q:VK) (E:XK):Prop
 |mk:∀(x:Addr) (s:SS) (l h:Int),(vs=[.ref x,.int l,.int h])->fK C H x s->s.Good->(0<=l)->(l<=8)->(0<=h)->(h<=48)->(∀q H',aR H H'->H' q=some (.lst ((pz (max (l - s.out*h) 0) (min (l+s.into*h) s.bz+1 - max (l - s.out*h) 0).toNat).map V.int))->Q (.ref q) H')->uC K C vs H Q E
theorem uD(tx:Txt K mg a):bQ P w K mg base eR 1 a.v9 a.wA boa (uC K a.bS):=by
 refine tx.dk.F.ok lX (by walk_at "l") λbq A outer s H vs Q E hr h=>?_;obtain⟨x,ss,l,h,rfl ,hs,hg,l0,l1,h0,h1,k⟩:=h;have hu:=fV hr;refine aY (aE (aK (i:=3) lX.nd (aN (fN rfl) (by rfl) tx.mM jC (aA (aL dS (aB 1) (aL bX (a8 (K':=K) (aB 0) rfl) (aB 2))) (aA aC aD))))
  (aE (aK (i:=4) lX.nd (aN (jY rfl) (by rfl) tx.wJ rV (aA (aL bL (aB 1) (aL bX (a8 (K':=K) (aB 0) rfl) (aB 2))) (aA (a8 (K':=K) (aB 0) rfl) aD))))
  (aG (aM (cF (rc:=LN) (aDQ rfl) (by rfl) tx.qJ oW (aA (cF (rc:=Lj) aFX (by rfl) tx.eE aHY (aA (aB 3) (aA (aL bL (aB 4) aC) aD))) aD)))))) ?_
 obtain⟨dx,hx⟩:=hs.ex;obtain⟨c0,c1⟩:=hg.bz;obtain⟨i0,i1⟩:=hg.into;obtain⟨o0,o1⟩:=hg.out;have e1:0<=ss.out*h/\ss.out*h<=384:=⟨D4 o0 h0,BG (Int.mul_le_mul o1 h1 h0 (by lia)) (by decide)⟩
 have e2:0<=ss.into*h/\ss.into*h<=384:=⟨D4 i0 h0,BG (Int.mul_le_mul i1 h1 h0 (by lia)) (by decide)⟩
 refine aT (σ:=[some (.ref x),some (.int l),some (.int h),none,none]) rfl ?_;walk_at "w";refine cE hx tx.jO tx.aCW rfl ?_;walk_at "w";refine cE hx tx.jO tx.aBh rfl ?_;walk_at "w";refine cE hx tx.jO tx.aCV rfl ?_;walk_at "w";intro p np;walk_at "w";refine aH1 aP (by lia) (by lia) ?_;intro q nq;exact k q _ ((aR.new np).trans (aR.new nq)) aP
inductive w4  (K:W.Frag) (C:Addr) (vs:List V) (H:Hp) (Q:VK) (E:XK):Prop
 |mk:∀(x:Addr) (s:SS) (l:Int),(vs=[.ref x,.int l])->fK C H x s->s.Good->(0<=l)->(l<=8)->(∀q H',aR H H'->H' q=some (.lst ((pz (max (l - s.out*1) 0) (min (l+s.into*1) s.bz+1 - max (l - s.out*1) 0).toNat).map V.int))->Q (.ref q) H')->w4 K C vs H Q E
theorem aEM(tx:Txt K mg a):bQ P w K mg base eR 2 a.yP a.yQ bxa (w4 K a.bS):=by
 have oO:=uD (P:=P) (w:=w) (base:=base) tx;refine tx.jh.F.ok aD7 (by walk_at "l") λbq A outer s H vs Q E hr h=>?_;obtain⟨x,ss,l,rfl ,hs,hg,l0,l1,k⟩:=h;have hu:=fV hr;refine aY (aG (aM (bh oO hr tx.dk (aA (aB 0) (aA (aB 1) (aA aC aD)))))) ?_;refine aT (σ:=[some (.ref x),some (.int l)]) rfl ?_;walk_at "w";exact⟨x,ss,l,1,rfl,hs,hg,l0,l1,by decide,by decide,k⟩
inductive aDb  (K:W.Frag) (C:Addr) (vs:List V) (H:Hp) (Q:VK) (E:XK):Prop
 |mk:∀(x:Addr) (s:SS) (l n:Int),(vs=[.ref x,.int l,.int n])->fK C H x s->s.Good->(Q (.int (dr s l n)) H)->aDb K C vs H Q E
theorem w5(tx:Txt K mg a):bQ P w K mg base eR 1 a.aEp a.aEq bna (aDb K a.bS):=by
 refine tx.gv.F.ok aCq (by walk_at "l") λbq A outer s H vs Q E hr h=>?_;obtain⟨x,ss,l,n,rfl ,hs,hg,k⟩:=h;have hu:=fV hr;refine aY (aE (aK (i:=3) aCq.nd (oX (aV CN (aB 2) (aB 1) (bD _)) (a8 (K':=K) (aB 0) rfl) (a8 (K':=K) (aB 0) rfl)))
  (aG (aM (aL bX (aB 3) (aL dS (aB 2) (aB 1)))))) ?_
 obtain⟨dx,hx⟩:=hs.ex;obtain⟨t0,t1⟩:=hg.takes;obtain⟨g0,g1⟩:=hg.gives;refine aT (σ:=[some (.ref x),some (.int l),some (.int n),none]) rfl ?_;walk_at "w";unfold dr at k;refine cB (λh=>?_) (λh=>?_)
 ·rw[cT h] at k;walk_at "w";refine cE hx tx.jO tx.yZ rfl ?_;walk_at "w";exact k
 ·rw[cD h] at k;walk_at "w";refine cE hx tx.jO tx.y4 rfl ?_;walk_at "w";exact k
inductive zH  (K:W.Frag) (C:Addr) (vs:List V) (H:Hp) (Q:VK) (E:XK):Prop
 |mk:∀(x:Addr) (s:SS) (l:Int) (q p:Addr) (ps ns:ae),(vs=[.ref x,.int l,.ref q,.ref p])->fK C H x s->s.Good->(H q=some (.lst (ps.map V.int)))->(H p=some (.lst (ns.map V.int)))->((∀n∈ps,Am n))->(ps.length=ns.length)->(∀H',aR H H'->Q (.int (pw s l ps ns)) H')->zH K C vs H Q E
theorem aFw(tx:Txt K mg a):bQ P w K mg base eR 2 a.aA0 a.aA1 baa (zH K a.bS):=by
 have oP:=w5 (P:=P) (w:=w) (base:=base) tx;refine tx.kh.F.ok gN (by walk_at "l") λbq A outer s H vs Q E hr h=>?_;obtain⟨x,ss,l,q,p,ps,ns,rfl ,hs,hg,hq,hp,hb,hl,k⟩:=h;have hu:=fV hr;refine aY (aE (aK (i:=4) gN.nd aC)
  (aE (bZ PassesOwn.never rfl (aJl (K':=K) (by rfl) tx.jU (aA (aB 2) (aA (aB 3) aD))) (bK (K':=K) (n:=2) rfl (aO (aJ (i:=5) gN.nd) (aO (aJ (i:=6) gN.nd) bJ))) (aE (nB (i:=4) gN.nd rfl (Or.inl rfl) (aL bX (aB 5) (bh oP hr tx.gv (aA (aB 0) (aA (aB 1) (aA (aB 6) aD))))) FU)
  (aG (aK (i:=1) gN.nd (aB 6)))))
  (aG (aM (aB 4))))) ?_
 refine aT (σ:=[some (.ref x),some (.int l),some (.ref q),some (.ref p),none,none,none]) rfl ?_;walk_at "w";refine aSf (bP.of hq) (bP.of hp) ?_;refine aRb (xs:=ps.map V.int) (ys:=ns.map V.int) (λi σ' H'=>∃(l' w:Int) (x5 x6:Option V),σ'=[some (.ref x),some (.int l'),some (.ref q),some (.ref p),some (.int w),x5,x6]/\aR H H'/\w+pw ss l' (ps.drop i) (ns.drop i)=pw ss l ps ns)
  ⟨l,0,_,_,rfl,aR.refl _,by rw[yy,yy,wk]⟩ (λi σ' H' hi ⟨l',w,x5,x6,e,h1,h2⟩=>⟨bP.of (h1 _ _ hq),bP.of (h1 _ _ hp)⟩) (λi u v σ' H' T hu hv Se nT=>?_) (λσ' H' Sd=>?_)
 ·obtain⟨l',w,x5,x6,e,h1,h2⟩:=Se;subst e;obtain⟨pr,Wf,rfl⟩:=dB hu;obtain⟨n,hn,rfl⟩:=dB hv;obtain⟨b0,b1⟩:=hb pr (jW Wf);rw[L3 Wf,L3 hn] at h2;have sT:=aR.new (o:=.tup [.int pr,.int n]) nT;refine cM (gZ.of aP) rfl ?_;walk_at "w";refine FQ rfl ?_;walk_at "w";refine⟨x,ss,l',n,rfl,hs.same (h1.trans sT),hg,?_⟩;walk_at "w";have tw:w+(pr*dr ss l' n+pw ss n (ps.drop (i+1)) (ns.drop (i+1)))=pw ss l ps ns:=h2;exact⟨n,_,_,_,rfl,h1.trans sT,by lia⟩
 ·obtain⟨l',w,x5,x6,e,h1,h2⟩:=Sd;subst e;rw[bH,bH,hl,D3,HY,Rf (by lia)] at h2;have tw:w+0=pw ss l ps ns:=h2;walk_at "w";rw[<-tw,zu] at k;exact k _ h1
def κI:PK Int:=.ik (λn=>.inl n) λx y h=>Sum.inl.inj h
def upTo(s:SS)(l:Int)(h:Int):ae:=pz (max (l - s.out*h) 0) (min (l+s.into*h) s.bz+1 - max (l - s.out*h) 0).toNat
def AZ(s:SS)(p x:Int):List (Wy Int):=(upTo s x 1).map λy=>(y,y,p*dr s x y)
def Wl(s:SS)(ps:ae)(i:Nat)(x:Int):List (Wy Int):=AZ s (ps.getD i 0) x
def yf(s:SS)(l:Int)(n:Nat):cn:=(List.range (n+1)).map λ(i:Nat)=>upTo s l (i:Int)
theorem mem_upTo{s:SS}{l h n:Int}:n∈upTo s l h↔max (l - s.out*h) 0<=n/\n<=min (l+s.into*h) s.bz:=by
 unfold upTo;rw[Qk];lia
theorem aRu(lo:Int):∀k:Nat,(pz lo k).Pairwise (·< ·):=by
 intro k;unfold pz;rw[D6];exact List.pairwise_lt_range.imp λh=>by lia
theorem aGl(s:SS)(l h:Int):(upTo s l h).Pairwise (·< ·):=aRu _ _
theorem Qo{s:SS}(g:s.Good)(l h:Int):(upTo s l h).length<=9:=by
 unfold upTo;rw[Zn];have:=g.bz.2;lia
theorem tH{s:SS}{l:Int}{n i:Nat}{ps:ae}(h:(yf s l n)[i]?=some ps):ps=upTo s l (i:Int)/\i<=n:=by
 unfold yf at h;rw[nE] at h;obtain⟨j,hj,rfl⟩:=oi.mp h;have hi:i < n+1:=by
  have:=(iZ.mp hj).1
  rwa[Mg] at this
 rw[Ml hi] at hj;cases hj;exact⟨rfl,by lia⟩
theorem pT(s:SS)(l:Int)(n:Nat):(yf s l n).length=n+1:=by unfold yf;rw[bH,Mg]
theorem PQ{s:SS}{l:Int}{n i:Nat}(h:i<=n):(yf s l n)[i]?=some (upTo s l (i:Int)):=by
 unfold yf;rw[nE,Ml (by lia)];rfl
theorem LY{s:SS}{l h n:Int}(hn:n∈upTo s l h):0<=n/\n<=s.bz:=by
 have:=mem_upTo.mp hn;lia
theorem aGm{s:SS}(g:s.Good){x:Int}(h0:0<=x)(h1:x<=s.bz):x∈upTo s x 1:=by
 have:=g.out.1;have:=g.into.1;rw[mem_upTo];lia
theorem ZM{s:SS}(g:s.Good){x n:Int}(h0:0<=x)(h1:x<=s.bz):n∈upTo s x 1↔Lv s x n:=aO4 g h0 h1
theorem aPc{s:SS}(g:s.Good){l x n:Int}{i:Nat}(hx:x∈upTo s l (i:Int))(hn:n∈upTo s x 1):n∈upTo s l ((i+1:Nat):Int):=by
 have a:=mem_upTo.mp hx;have b:=mem_upTo.mp hn;rw[mem_upTo];have e1:s.out*((i+1:Nat):Int)=s.out*(i:Int)+s.out:=by push_cast;rw[FY,D2]
 have e2:s.into*((i+1:Nat):Int)=s.into*(i:Int)+s.into:=by push_cast;rw[FY,D2]
 rw[e1,e2];rw[D2,D2] at b;lia
theorem YV{s:SS}{l:Int}(h0:0<=l)(h1:l<=s.bz):upTo s l 0=[l]:=by
 unfold upTo;rw[Bi,Bi,show max (l - 0) 0=l by lia,show(min (l+0) s.bz+1 - l).toNat=1 by lia];unfold pz;simp
theorem YU{s:SS}(g:s.Good){l:Int}(ps:ae)(h0:0<=l)(h1:l<=s.bz):Lo (Wl s ps) (yf s l ps.length):=by
 refine⟨by rw[pT];lia,λqs hq=>?_,λqs hq=>?_,λi qs x e hi hx=>?_,λi qs rs x w e1 e2 hx hw=>?_⟩
 ·obtain⟨i,ei⟩:=ye hq;rw[(tH ei).1];exact(aGl _ _ _).imp λh=>Int.ne_of_lt h
 ·obtain⟨i,ei⟩:=ye hq;rw[(tH ei).1];exact vm (Qo g _ _) (by decide)
 ·rw[(tH e).1] at hx;obtain⟨x0,x1⟩:=LY hx;unfold Wl AZ;refine⟨λz=>?_,?_⟩
  ·have:=aGm g x0 x1;rw[List.map_eq_nil_iff.mp z] at this;cases this
  ·rw[bH];exact vm (Qo g _ _) (by decide)
 ·rw[(tH e1).1] at hx;rw[(tH e2).1];obtain⟨y,hy,rfl⟩:=qQ.mp hw;exact aPc g hx hy
theorem ZL(s:SS)(ps:ae)(i:Nat)(x:Int):CI (Wl s ps i x):=by
 unfold CI Wl AZ;rw[D6];exact aGl _ _ _
theorem aRv{s:SS}(g:s.Good)(ps:ae)(n:Nat):Lay (Wl s ps) n λ_ x=>0<=x/\x<=s.bz:=by
 refine⟨λi x _ hx z=>?_,λi x w _ hx hw=>?_⟩
 ·have:=aGm g hx.1 hx.2;unfold Wl AZ at z;rw[List.map_eq_nil_iff.mp z] at this;cases this
 ·obtain⟨y,hy,rfl⟩:=qQ.mp hw;exact LY hy
def Eb(s:SS):Int->ae->Prop
 |_,[]=>True
 |l,n::r=>Lv s l n/\Eb s n r
theorem PN{s:SS}(g:s.Good){ps:ae}:∀{p:ae}{i:Nat}{x:Int},0<=x->x<=s.bz->Eb s x p->i+p.length<=ps.length->uL (Wl s ps) i x p=some (pw s x (ps.drop i) p)
 |[],i,x,_,_,_,_=>by
  show some 0=some (pw s x (ps.drop i) []);cases ps.drop i <;> rfl
 |n::r,i,x,h0,h1,⟨a,b⟩,hl=>by
  rw[mv] at hl;have hi:i < ps.length:=by lia
  have hm:n∈upTo s x 1:=(ZM g h0 h1).mpr a;have hw:((n,n,ps.getD i 0*dr s x n):Wy Int)∈Wl s ps i x:=qQ.mpr ⟨n,hm,rfl⟩;unfold uL;rw[QK (ZL s ps i x) hw];show Option.map _ (uL (Wl s ps) (i+1) n r)=_;rw[PN g a.1 a.2.1 b (by lia),zb hi,rf,dM hi];rfl
theorem Z8{s:SS}(g:s.Good){ps:ae}:∀{p:ae}{i:Nat}{x v:Int},0<=x->x<=s.bz->uL (Wl s ps) i x p=some v->Eb s x p
 |[],_,_,_,_,_,_=>trivial
 |n::r,i,x,v,h0,h1,h=>by
  unfold uL at h;cases q:(Wl s ps i x).find? λw=>decide (w.1=n) with
  |none=>rw[q] at h;cases h
  |some w=>
   rw[q] at h;obtain⟨y,hy,rfl⟩:=qQ.mp (C5 q);have e:y=n:=ua (HU (p:=λw:Wy Int=>decide (w.1=n)) q);subst e;obtain⟨u,hu,_⟩:=oi.mp h;have lv:=(ZM g h0 h1).mp hy;exact⟨lv,Z8 g lv.1 lv.2.1 hu⟩
def ET(s:SS)(ps:ae)(l:Int):Int:=wF (Wl s ps) ps.length 0 l
def EY(s:SS)(ps:ae)(l:Int):ae:=xk (Wl s ps) ps.length 0 l
theorem YT{s:SS}(g:s.Good)(ps:ae){l:Int}(h0:0<=l)(h1:l<=s.bz):Eb s l (EY s ps l)/\(EY s ps l).length=ps.length/\pw s l ps (EY s ps l)=ET s ps l:=by
 obtain⟨a,b⟩:=LZ (aRv g ps ps.length) (ZL s ps) ps.length 0 l (by lia) ⟨h0,h1⟩;have p:=Z8 g h0 h1 a;refine⟨p,b,?_⟩;have z:=PN g (ps:=ps) (i:=0) h0 h1 p (by rw[b];lia);rw[a,yy] at z;exact(Option.some.inj z).symm
theorem aRw{s:SS}(g:s.Good){ps:ae}{l:Int}(h0:0<=l)(h1:l<=s.bz){p:ae}(hp:Eb s l p)(hl:p.length=ps.length):ET s ps l<=pw s l ps p:=by
 have z:=PN g (ps:=ps) (i:=0) h0 h1 hp (by lia);have y:=O9 z;rw[yy,hl] at y;exact y
theorem LG{t:TE}{σ σ':St}{H:Hp}{Q:VK}(e:σ'=σ)(h:t σ H Q):t σ' H Q:=e▸h
theorem intAt{ns:ae}{i:Nat}{x:V}(h:(ns.map V.int)[i]?=some x):∃n,ns[i]?=some n/\x=.int n:=by
 rw[nE] at h;obtain⟨n,e,rfl⟩:=oi.mp h;exact⟨n,e,rfl⟩
theorem aNv{H:Hp}(ns:ae):zw κI H (ns.map V.int) ns:=by
 refine⟨by rw[bH],λi v x h1 h2=>?_⟩;obtain⟨n,e,rfl⟩:=intAt h1;rw[e] at h2;cases h2;rfl
inductive qO  (K:W.Frag) (C:Addr) (vs:List V) (H:Hp) (Q:VK) (E:XK):Prop
 |mk:∀(x:Addr) (s:SS) (l p:Int),(vs=[.ref x,.int l,.int p])->fK C H x s->s.Good->(0<=l)->(l<=s.bz)->Am p->(∀q H',aR H H'->tE κI H' q (AZ s p l)->Q (.ref q) H')->qO K C vs H Q E
theorem zI(tx:Txt K mg a):bQ P w K mg base eR 3 a.aA2 a.aA3 aIa (qO K a.bS):=by
 have oP:=w5 (P:=P) (w:=w) (base:=base) tx;have aFx:=aEM (P:=P) (w:=w) (base:=base) tx;refine tx.bx.F.ok aFf (by walk_at "l") λbq A outer s H vs Q E hr h=>?_;obtain⟨x,ss,l,p,rfl ,hs,hg,l0,l1,hp,k⟩:=h;have hu:=fV hr;refine aY (aG (aM (bR (k:=1) (idx:=[1,2,0]) (N:=bTa) (bY (sc:=aI mW) (NX:=aIa) rfl rfl rfl (by decide +kernel)) rfl (bI (K':=K) (bh aFx hr tx.jh (aA (aB 0) (aA (aB 1) aD)))) (λ_ _ _ _=>(aJ (i:=0) (show(bTa:ah).Nodup by decide +kernel))) (cJ (by decide)) (λ_ _ _ _=>bE) (λ_ _ _ _=>(HJ (aB 0) (aB 0) (aL bX (aB 2) (bh oP hr tx.gv (aA (aB 3) (aA (aB 1) (aA (aB 0) aD)))))))))) ?_;obtain⟨p0,p1⟩:=hp;obtain⟨c0,c1⟩:=hg.bz;refine aT (σ:=[some (.ref x),some (.int l),some (.int p)]) rfl ?_;walk_at "w";refine⟨x,ss,l,rfl,hs,hg,l0,by lia,λq H1 s1 gq=>?_⟩;have hlen:=Qo hg l 1;refine fO (bP.of gq) ?_;refine dF (xs:=(upTo ss l 1).map V.int) (λj us H'=>aR H1 H'/\∃as:ay,us=as.map V.ref/\RL (BD κI H') as ((AZ ss p l).take j)) ⟨aR.refl _,[],rfl,RL.nil⟩ (bV (by rw[bH];lia))
  (λj us H' hj ⟨s',as,e,r⟩=>⟨bP.of (s' _ _ gq),by rw[e,bH,r.len,og];lia⟩) (λj v us H' hv Sb=>?_) (λus H' Sa=>?_)
 ·obtain⟨s',as,e,r⟩:=Sb;obtain⟨y,ey,rfl⟩:=intAt hv;have ew:(AZ ss p l)[j]?=some (y,y,p*dr ss l y):=by unfold AZ;rw[nE,ey];rfl
  walk_at "w";refine⟨x,ss,l,y,rfl,hs.same (s1.trans s'),hg,?_⟩;walk_at "w";intro a na;obtain⟨H2,i2,s2,g2⟩:=nw _ na;rw[i2];refine⟨s'.trans s2,as ++ [a],by rw[e,gR];rfl,?_⟩;rw[tF ew];exact RL.snoc (r.imp λ_ _ z=>z.same s2) ⟨.int y,g2,rfl⟩
 ·obtain⟨s',as,e,r⟩:=Sa;intro q2 nq2;obtain⟨H2,i2,s2,g2⟩:=nw _ nq2;rw[i2];walk_at "w";rw[bH,show(upTo ss l 1).length=(AZ ss p l).length by unfold AZ;rw[bH],mq] at r;exact k q2 H2 (s1.trans (s'.trans s2)) ⟨as,by rw[g2,e],r.imp λ_ _ z=>z.same s2⟩
theorem aGn{K:W.Frag}{a:Ru}{H:Hp}{x q:Addr}{s:SS}{ps:ae}(C:Addr->Sp->Prop)(f:Addr)(xc:Sp)(hC:C f xc)(hs:fK a.bS H x s)(hg:s.Good)(hq:H q=some (.lst (ps.map V.int)))(ha:∀n∈ps,Am n)(hl:ps.length<=48)
  (h:∀(H':Hp) (h:Nat) (y p:Int) (Q:VK),aR H H'->H' q=some (.lst (ps.map V.int))->lT (ps.map V.int) (h:Int)=some (.int p)->0<=y->y<=s.bz->qO K a.bS [.ref x,.int y,.int p] H' Q E0->xc [.int (h:Int),.int y] H' Q E0) :
  wU κI C H f (Wl s ps) λi y=>i < ps.length/\0<=y/\y<=s.bz:=by
 refine⟨xc,hC,λH' i v y Q s' hL Cu hk=>?_⟩;have hv:v=.int y:=Cu;subst hv;obtain⟨hi,y0,y1⟩:=hL;have ep:ps[i]?=some ps[i]:=dM hi;refine h H' i y ps[i] Q s' (s' _ _ hq) (gU (by rw[nE,ep];rfl)) y0 y1 ⟨x,s,y,ps[i],rfl,hs.same s',hg,y0,y1,ha _ (uu hi),λl H2 s2 hw=>hk l H2 s2 ?_⟩;unfold Wl;rw[rf,ep];exact hw
inductive mO  (K:W.Frag) (C t:Addr) (vs:List V) (H:Hp) (Q:VK) (E:XK):Prop
 |mk:∀(x:Addr) (s:SS) (l:Int) (q:Addr) (ps:ae),(vs=[.ref x,.int l,.ref q])->(H t=some (.jy dG dH))->fK C H x s->s.Good->(0<=l)->(l<=s.bz)->(H q=some (.lst (ps.map V.int)))->((∀n∈ps,Am n))->(ps.length<=48)->(∀r H',aR H H'->H r=none->DV κI H' r (yf s l ps.length) (λi=>wF (Wl s ps) ((yf s l ps.length).length - 1 - i) i)->Q (.ref r) H')->mO K C t vs H Q E
theorem xY(tx:Txt K mg a):bQ P w K mg base eR 12 a.oB a.iW ama (mO K a.bS a.cG):=by
 have oO:=uD (P:=P) (w:=w) (base:=base) tx;have jR:=λck:Heap=>pQ (P:=P) (w:=w) (base:=ck) tx;refine tx.dy.F.Ke tx.oH mI (λvs H Q E h=>?_) (λA outer s H vs Q E hr h=>?_)
 ·obtain⟨x,ss,l,q,ps,rfl,_⟩:=h;rfl
 ·obtain⟨x,ss,l,q,ps,rfl ,gt,hs,hg,l0,l1,hq,ha,hl,k⟩:=h;have hu:=fV hr;refine aY (aE (c8 (k:=1) (idx:=[1,0]) (N:=["hours","level","store"]) (i:=3) mI.nd rfl (Or.inl rfl) (bY (sc:=aI cK) (NX:=a2a) rfl rfl rfl (by decide +kernel)) rfl (cP (by rfl) tx.eE (aA (aL bL (aN (rc:=mS K) cO (by rfl) tx.hX fB (aA (aB 2) aD)) aC) aD)) (λ_ _ _ _=>(aJ (i:=0) (show(["hours","level","store"]:ah).Nodup by decide +kernel))) (cJ (by decide)) (λ_ _ _ _=>bE) (λ_ _ _ _=>(bh oO hr tx.dk (aA (aB 2) (aA (aB 1) (aA (aB 0) aD))))))
   (aG (aM (o6 (psL:=bOa) (N:=bba) (idx:=[2,0]) (sp:=λC=>gY K C) (kc:=8) (jR) (hr.mono (by decide)) (by rfl) tx.bj.g tx.bj.F.kp tx.bj.b (λ_=>rfl) (bY (sc:=aI cK) (NX:=a2a) rfl rfl rfl (by decide +kernel)) rfl rfl rfl rfl (λ_ _ _ _ us hl=>by obtain⟨_,_,rfl⟩:=Fv us hl;rfl) (kC (aB 3) (sF (N:=bba) (n:=2) (idx:=[2,0]) rfl tx.oH.hd rfl rfl (bY (sc:=aI cK) (NX:=a2a) rfl rfl rfl (by decide +kernel)))) (λ_ _ _ _ _ _ _ _ hr hu=>(aF (zI tx) (hr.mono (by decide)) (by rfl) tx.bx.g tx.bx.F.kp tx.bx.b .nil aU (aA (aB 3) (aA (aB 1) (aA (aH (K':=K) (aB 2) (aB 0)) aD))))))))) ?_
  obtain⟨c0,c1⟩:=hg.bz;refine aT (σ:=[some (.ref x),some (.int l),some (.ref q),none]) rfl ?_;walk_at "w";refine⟨by rw[bH];lia,by rw[bH];lia,?_⟩;rw[show(((ps.map V.int).length:Int)+1).toNat=ps.length+1 by rw[bH];lia];refine iS (λi us H'=>aR H H'/\∃as:ay,us=as.map V.ref/\RL (λb qs=>∃us,H' b=some (.lst us)/\zw κI H' us qs) as ((yf ss l ps.length).take i)) ⟨aR.refl _,[],rfl,RL.nil⟩ (bV (by lia)) (λi us H' hi ⟨s',as,e,r⟩=>by rw[e,bH,r.len,og];lia) (λi us H' hi R9=>?_) (λus H' R8=>?_)
  ·obtain⟨s',as,e,r⟩:=R9;walk_at "w";refine⟨x,ss,l,_,rfl,hs.same s',hg,l0,by lia,by lia,by lia,λb H2 s2 gb=>?_⟩;refine⟨s'.trans s2,as ++ [b],by rw[e,gR];rfl,?_⟩;rw[tF (PQ (s:=ss) (l:=l) (n:=ps.length) (i:=i) (by lia))];refine RL.snoc (r.imp λ_ _ ⟨us,e,p⟩=>⟨us,s2 _ _ e,p.same s2⟩) ⟨_,gb,?_⟩;rw[show(0+(i:Int))=(i:Int) by lia];exact aNv (upTo ss l (i:Int))
  ·obtain⟨s',as,e,r⟩:=R8;intro la EO;obtain⟨H2,i2,s2,g2⟩:=nw _ EO;rw[i2];have Gk:=s'.trans s2;rw[show ps.length+1=(yf ss l ps.length).length from(pT _ _ _).symm,mq] at r;walk_at "w";refine⟨Gk _ _ gt,λf c' H3 Cc s3 hc hC=>?_⟩;have nz:=Gk.trans s3;refine⟨Int,κI,la,f,yf ss l ps.length,Wl ss ps,_,rfl,⟨as,by rw[s3 _ _ g2,e],r.imp λ_ _ ⟨us,e,p⟩=>⟨us,(s2.trans s3) _ _ e,p.same (s2.trans s3)⟩⟩,YU hg ps l0 l1,by rw[pT];lia,aGn (K:=K) (a:=a) Cc f _ hC (hs.same nz) hg (nz _ _ hq) ha hl (λH' h y p Q s' gq hp y0 y1 fb=>?_),λi qs y e1 e2 hy=>?_,λr H4 s4 nr hd=>?_⟩
   ·refine⟨s' _ _ hc,rfl,?_⟩;refine LG (σ:=[some (.int (h:Int)),some (.int y),some (.ref q),some (.ref x)]) rfl ?_;walk_at "w";exact fb
   ·rw[(tH e1).1] at hy;obtain⟨y0,y1⟩:=LY hy;rw[pT] at e2;exact⟨by lia,y0,y1⟩
   ·exact k r H4 (nz.trans s4) (nz.free nr) hd
inductive rN  (K:W.Frag) (C t1 t2:Addr) (vs:List V) (H:Hp) (Q:VK) (E:XK):Prop
 |mk:∀(x:Addr) (s:SS) (l:Int) (q:Addr) (ps:ae),(vs=[.ref x,.int l,.ref q])->(H t1=some (.jy dG dH))->(H t2=some (.jy fT fU))->fK C H x s->s.Good->(0<=l)->(l<=s.bz)->(H q=some (.lst (ps.map V.int)))->((∀n∈ps,Am n))->(ps.length<=48)->(∀T r H',aR H H'->H r=none->H' T=some (.tup [.int (ET s ps l),.ref r])->H' r=some (.lst ((EY s ps l).map V.int))->Q (.ref T) H')->rN K C t1 t2 vs H Q E
theorem rO(tx:Txt K mg a):bQ P w K mg base eR 13 a.tP a.lZ ama (rN K a.bS a.cG a.cY):=by
 have aAp:=xY (P:=P) (w:=w) (base:=base) tx;have tI:=λck:Heap=>aBt (P:=P) (w:=w) (base:=ck) tx;refine tx.dh.F.Ke tx.tQ kH (λvs H Q E h=>?_) (λA outer s H vs Q E hr h=>?_)
 ·obtain⟨x,ss,l,q,ps,rfl,_⟩:=h;rfl
 ·obtain⟨x,ss,l,q,ps,rfl ,GV,GU,hs,hg,l0,l1,hq,ha,hl,k⟩:=h;have hu:=fV hr;refine aY (aE (aK (i:=3) kH.nd (bh aAp hr tx.dy (aA (aB 0) (aA (aB 1) (aA (aB 2) aD)))))
   (aE (aK (i:=4) kH.nd (o6 (psL:=bOa) (N:=bba) (idx:=[2,0]) (sp:=λC=>m7 K C) (kc:=8) (tI) (hr.mono (by decide)) (by rfl) tx.cg.g tx.cg.F.kp tx.cg.b (λ_=>rfl) (bY (sc:=aI dN) (NX:=bfa) rfl rfl rfl (by decide +kernel)) rfl rfl rfl rfl (λ_ _ _ _ us hl=>by obtain⟨_,_,rfl⟩:=Fv us hl;rfl) (kC (aB 1) (kC (aB 3) (sF (N:=bba) (n:=2) (idx:=[2,0]) rfl tx.tQ.hd rfl rfl (bY (sc:=aI dN) (NX:=bfa) rfl rfl rfl (by decide +kernel))))) (λ_ _ _ _ _ _ _ _ hr hu=>(aF (zI tx) (hr.mono (by decide)) (by rfl) tx.bx.g tx.bx.F.kp tx.bx.b .nil aU (aA (aB 3) (aA (aB 1) (aA (aH (K':=K) (aB 2) (aB 0)) aD)))))))
   (aG (aM (eI (o5 hu (aH (K':=K) (aB 3) aC) (aB 1)) (aB 4)))))) ?_
  refine aT (σ:=[some (.ref x),some (.int l),some (.ref q),none,none]) rfl ?_;walk_at "w";refine⟨x,ss,l,q,ps,rfl,GV,hs,hg,l0,l1,hq,ha,hl,λlw H1 s1 EN hd=>?_⟩;walk_at "w";refine⟨s1 _ _ GU,λf c' H3 Cc s3 hc hC=>?_⟩;have nz:=s1.trans s3;refine⟨Int,κI,.int l,l,upTo ss l 0,lw,f,yf ss l ps.length,Wl ss ps,_,rfl,rfl,hd.same s3,PQ (i:=0) (by lia),?_,YU hg ps l0 l1,by rw[pT];lia,aGn (K:=K) (a:=a) Cc f _ hC (hs.same nz) hg (nz _ _ hq) ha hl (λH' h y p Q s' gq hp y0 y1 fb=>?_),λi qs y e1 e2 hy=>?_,λr H4 s4 nr gr=>?_⟩
  ·rw[YV l0 l1];exact .head _
  ·refine⟨s' _ _ hc,rfl,?_⟩;refine LG (σ:=[some (.int (h:Int)),some (.int y),some (.ref q),some (.ref x)]) rfl ?_;walk_at "w";exact fb
  ·rw[(tH e1).1] at hy;obtain⟨y0,y1⟩:=LY hy;rw[pT] at e2;exact⟨by lia,y0,y1⟩
  ·obtain⟨ds,KL,Ki,A5⟩:=(hd.same (s3.trans s4)).ex;rw[pT] at Ki;have ed:ds[0]?=some ds[0]:=dM (by lia);have h0:=A5 0 _ _ ed (PQ (i:=0) (by lia));generalize ds[0]=d0 at ed h0;have ix:lT (ds.map V.ref) 0=some (.ref d0):=gU (j:=0) (Hy ed);walk_at "w";refine⟨d0,_,rfl,κI.get (v:=.int l) (x:=l) h0 rfl (by rw[show((0:Nat):Int)=0 from rfl,YV l0 l1];exact .head _),?_⟩;walk_at "w";intro T nT;obtain⟨H5,i5,s5,g5⟩:=nw _ nT;rw[i5];walk_at "w";have e1:(yf ss l ps.length).length - 1=ps.length:=by rw[pT];rfl
   rw[e1] at gr;rw[HP,e1] at g5;exact k T r H5 (nz.trans (s4.trans s5)) (nz.free nr) g5 (s5 _ _ gr)
theorem aNw(xs:List V)(m:Nat):kZ xs none (some (m:Int))=xs.take m:=by
 unfold kZ;rw[HT.Qw,HT.Qc,yy,HP];by_cases h:m<=xs.length
 ·rw[Nat.min_eq_left h]
 ·rw[Nat.min_eq_right (by lia),mq,za (by lia)]
theorem RL.one{α:Type}{P:Addr->α->Prop}{x:α}(h:P a x):RL P [a] [x]:=⟨rfl,λj q u hq hu=>by
 match j,hq,hu with
 |0,hq,hu=>cases hq;cases hu;exact h
 |_+1,hq,_=>simp at hq⟩
theorem aNx(ps:List WP):(enc ps).map (·.1)=(ps.map λp=>[p.1.1,p.1.2]).map λt=>t.map Sum.inl:=by
 unfold enc;rw[wm,wm];rfl
theorem aFy{ps:List WP}{qs:ay}{us:cn}(nd:(ps.map (·.1)).Nodup)(hT:nM H qs us)(hp:us.Perm (ps.map λp=>[p.1.1,p.1.2]))(hs:us.Pairwise λa b=>vA b a=false) :
  ∃ks:ak,ks.Pairwise J7/\(∀s,s∈ks↔s∈ps.map (·.1))/\zw κS H (qs.map V.ref) ks:=by
 have AK:∀u∈us,u=[u.getD 0 0,u.getD 1 0]:=λu hu=>by
  obtain⟨p,_,rfl⟩:=qQ.mp (hp.mem_iff.mp hu);rfl
 have pk:(us.map λu=>(u.getD 0 0,u.getD 1 0)).Perm (ps.map (·.1)):=by
  have:=hp.map λu=>(u.getD 0 0,u.getD 1 0)
  rw[wm] at this;exact this
 have ndk:=pk.nodup_iff.mpr nd;refine⟨us.map λu=>(u.getD 0 0,u.getD 1 0),?_,λs=>pk.mem_iff,?_⟩
 ·rw[D6];have nd':us.Pairwise λa b=>(a.getD 0 0,a.getD 1 0)≠(b.getD 0 0,b.getD 1 0):=D6.mp ndk;refine(hs.and nd').imp_of_mem ?_;intro a b ha hb ⟨h1,h2⟩;rw[AK a ha,AK b hb] at h1;generalize a.getD 0 0=a0 at h1 h2 ⊢;generalize a.getD 1 0=a1 at h1 h2 ⊢;generalize b.getD 0 0=b0 at h1 h2 ⊢;generalize b.getD 1 0=b1 at h1 h2 ⊢;unfold J7;show a0 < b0\/(a0=b0/\a1 < b1)
  by_cases e0:a0=b0
  ·subst e0;by_cases e1:a1=b1
   ·exact absurd (by rw[e1]) h2
   ·rw[gJ,cT rfl,gJ,cD (λz=>e1 z.symm)] at h1;have:=of_decide_eq_false h1;lia
  ·rw[gJ,cD (λz=>e0 z.symm)] at h1;have:=of_decide_eq_false h1;lia
 ·refine⟨by rw[bH,bH,hT.len],λi v x h1 h2=>?_⟩;rw[nE] at h1 h2;obtain⟨q,e1,rfl⟩:=oi.mp h1;obtain⟨u,e2,rfl⟩:=oi.mp h2;have:=(hT.at_ i q u e1 e2).1;rw[AK u (jW e2)] at this;exact⟨q,rfl,this⟩
inductive pU  (K:W.Frag) (C:Addr) (vs:List V) (H:Hp) (Q:VK) (E:XK):Prop
 |mk:∀(q:Addr) (m:MS) (t:Addr) (a:ao) (n:Nat),(vs=[.ref q,.ref t,.int (n:Int)])->cX C H q m->m.Good->(H t=some (.tup [.int a.1,.int a.2]))->yu m a->(n<=1000)->(∀la Ls H',aR H H'->H la=none->Hn κS H' la Ls->Hc m a Ls->Ls.length=n+1->Q (.ref la) H')->pU K C vs H Q E
theorem aBy(tx:Txt K mg a):bQ P w K mg base eR 4 a.rB a.rC bja (pU K a.aW):=by
 have aFz:=aEF (P:=P) (w:=w) (base:=base) tx;refine tx.fm.F.ok fA (by walk_at "l") λbq A outer s H vs Q E hr h=>?_;obtain⟨q,m,t,st,n,rfl ,hm,hg,ht,df,hn,k⟩:=h;have hu:=fV hr;refine aY (aE (aK (i:=3) fA.nd (aIj hu (aB 1) aC))
  (aE (aK (i:=4) fA.nd (mT (mT (aB 1))))
  (aE (bZ PassesOwn.never rfl (cP (by rfl) tx.eE (aA (aB 2) aD)) (aJ (i:=5) fA.nd) (aE (aK (i:=3) fA.nd (bh aFz hr tx.je (aA (aB 0) (aA (aB 3) aD))))
  (aG (dC (dW (K':=K) (aB 4) (aA (aN (rc:=P2) (aGT rfl) (by rfl) tx.Qm aK8 (aA (aB 3) aD)) aD))))))
  (aG (aM (aB 4)))))) ?_
 refine aT (σ:=[some (.ref q),some (.ref t),some (.int (n:Int)),none,none,none]) rfl ?_;walk_at "w";intro w MT;obtain⟨H1,i1,s1,g1⟩:=nw _ MT;rw[i1];have Ks:=s1 _ _ ht;walk_at "w";refine⟨t,qN st,rfl,Ks,g1,?_⟩;obtain⟨H2,i2,k2,g2⟩:=wr H1 w _;rw[i2];have S2:aR H H2:=λb o e=>k2 _ _ (s1 _ _ e) (bG MT e);walk_at "w";intro l0 nl0;obtain⟨H3,i3,s3,g3⟩:=nw _ nl0;rw[i3];walk_at "w";intro la EO;obtain⟨H4,i4,s4,g4⟩:=nw _ EO;rw[i4];have S4:aR H H4:=S2.trans (s3.trans s4);have Iy:H la=none:=(S2.trans s3).free EO;have Oq:=(s3.trans s4) _ _ g2;have g34:=s4 _ _ g3;have ht4:=S4 _ _ ht;have wla:w≠la:=λz=>by rw[z,g4] at Oq;cases Oq
 walk_at "w";refine⟨by lia,by lia,?_⟩;refine lD (λi σ' H'=>∃(w:Addr) (ps:List WP) (as:ay) (Ls:List (ak)) (z5:Option V),σ'=[some (.ref q),some (.ref t),some (.int (n:Int)),some (.ref w),some (.ref la),z5]/\H w=none/\H' w=some (.dT (enc ps))/\Bc ps/\(∀s,s∈ps.map (·.1)↔Rc m st i s)/\aR H H'/\H' la=some (.lst (as.map V.ref))/\RL (λb ps=>∃us,H' b=some (.lst us)/\zw κS H' us ps/\b≠la) as Ls/\Hc m st Ls/\Ls.length=i+1)
  ⟨w,[(st,1)],[l0],[[st]],_,rfl,MT,Oq,⟨by simp,λp hp=>by rw[ng.mp hp];exact df.Vz hg⟩,?_,S4,g4,RL.one ⟨_,g34,⟨rfl,λi v x h1 h2=>?_⟩,λz=>?_⟩,⟨λi ps hi=>?_⟩,rfl⟩ (λi σ' H' hi R7=>?_) (λσ' H' R6=>?_)
 ·intro s;show s∈[st]↔s=st;simp
 ·match i,h1,h2 with
  |0,h1,h2=>cases h1;cases h2;exact⟨t,rfl,ht4⟩
  |_+1,h1,_=>simp at h1
 ·rw[z,EO] at g3;cases g3
 ·match i,hi with
  |0,hi=>cases hi;exact⟨by simp,λs=>by show s∈[st]↔s=st;simp⟩
  |_+1,hi=>simp at hi
 ·obtain⟨w',ps,as,Ls,z5,e,VP,gw,hW,hk,S',GW,J9,hL,lL⟩:=R7;subst e;walk_at "w";refine⟨q,m,w',ps,rfl,hm.same S',hg,gw,hW,λw2 MR H5 s5 nw2 Fg N5 DG=>?_⟩;have S5:aR H H5:=λb o e=>s5 _ _ (lK (S' _ _ e) (bG VP e));have zd:H5 la=some (.lst (as.map V.ref)):=s5 _ _ (lK GW λz=>by rw[z,gw] at GW;cases GW);have NI:∀s,s∈MR.map (·.1)↔Rc m st (i+1) s:=λs=>by
   rw[DG s];exact⟨λ⟨p,h1,h2⟩=>⟨p,(hk p).mp h1,h2⟩,λ⟨p,h1,h2⟩=>⟨p,(hk p).mpr h1,h2⟩⟩
  have yp:=Rc.yp hg df N5.nd λk hk=>(NI k).mp hk;rw[bH] at yp;have zk:=J9.len;walk_at "w";refine iT (bP.of zd) ?_;walk_at "w";refine aM8 Fg (aNx MR) (λt ht=>by obtain⟨p,_,rfl⟩:=qQ.mp ht;simp) (by rw[bH];lia) λp qs us np hT hp hs=>?_;obtain⟨ks,k1,k2',k3⟩:=aFy N5.nd hT hp hs;obtain⟨H6,i6,s6,g6⟩:=nw _ np;rw[i6];have Iv:p≠la:=λz=>by rw[z,zd] at np;cases np
  walk_at "w";refine j0 (xs:=as.map V.ref) (s6 _ _ zd) (rQ (by rw[bH];lia:(as.map V.ref).length < 20000) (bV (by decide))) ?_;obtain⟨H7,i7,k7,g7⟩:=wr H6 la _;rw[i7];have Tp:w2≠la:=λz=>by rw[z,zd] at Fg;cases Fg
  walk_at "w";have hR:RL (λb ps=>∃us,H7 b=some (.lst us)/\zw κS H7 us ps/\b≠la) (as ++ [p]) (Ls ++ [ks]):=by
   refine RL.snoc (J9.imp λb ps zq=>?_) ⟨_,k7 _ _ g6 Iv,⟨k3.1,λi v x h1 h2=>PK.P9 (κS.pO (k3.2 i v x h1 h2) s6) (s6 _ _ zd) k7⟩,Iv⟩;obtain⟨us,a1,a2,a3⟩:=zq;have a1':H5 b=some (.lst us):=s5 _ _ (lK a1 λz=>by rw[z,gw] at a1;cases a1);refine⟨us,k7 _ _ (s6 _ _ a1') a3,⟨a2.1,λi v x h1 h2=>?_⟩,a3⟩;obtain⟨b',e',Cy⟩:=a2.2 i v x h1 h2;exact PK.P9 (κS.pO (H:=H5) ⟨b',e',s5 _ _ (lK Cy λz=>by rw[z,gw] at Cy;cases Cy)⟩ s6) (s6 _ _ zd) k7
  have hLL:Hc m st (Ls ++ [ks]):=by
   refine⟨λj rs hj=>?_⟩;by_cases qi:j < Ls.length
   ·rw[vf qi] at hj;exact hL.at_ j rs hj
   ·have GJ:j < (Ls ++ [ks]).length:=(iZ.mp hj).1;rw[iR,qf] at GJ;obtain rfl:j=Ls.length:=by lia
    rw[vo (eO _),yw] at hj;cases hj;refine⟨k1,λs=>?_⟩;rw[k2' s,NI s,lL]
  exact⟨w2,MR,as ++ [p],Ls ++ [ks],_,rfl,S'.free nw2,k7 _ _ (s6 _ _ Fg) Tp,N5,NI,λb o e=>k7 _ _ (s6 _ _ (S5 _ _ e)) (bG Iy e),by rw[g7,gR];rfl,hR,hLL,by rw[iR,lL];rfl⟩
 ·obtain⟨w',ps,as,Ls,z5,e,VP,gw,hW,hk,S',GW,J9,hL,lL⟩:=R6;subst e;walk_at "w";exact k la Ls H' S' Iy ⟨as,GW,J9.imp λb ps ⟨us,a1,a2,_⟩=>⟨us,a1,a2⟩⟩ hL (by lia)
inductive zJ  (K:W.Frag) (C:Addr) (vs:List V) (H:Hp) (Q:VK) (E:XK):Prop
 |mk:∀(q:Addr) (m:MS) (t:Addr) (a:ao),(vs=[.ref q,.ref t])->cX C H q m->m.Good->(H t=some (.tup [.int a.1,.int a.2]))->Bk a.1 a.2->(∀l H',aR H H'->tE κS H' l ((([0,1]:ae).filter (Bx a)).map λon=>(on,iN m a.1 a.2 on,OH m a on))->Q (.ref l) H')->zJ K C vs H Q E
theorem aFA(tx:Txt K mg a):bQ P w K mg base eR 7 a.aA4 a.aA5 bda (zJ K a.aW):=by
 have oM:=xM (P:=P) (w:=w) (base:=base) tx;have QP:=aC7 (P:=P) (w:=w) (base:=base) tx;have fF:=jP (P:=P) (w:=w) (base:=base) tx;refine tx.ki.F.ok aFg (by walk_at "l") λbq A outer s H vs Q E hr h=>?_;obtain⟨q,m,t,st,rfl ,hm,hg,ht,df,k⟩:=h;have hu:=fV hr;refine aY (aG (aM (bR (k:=1) (idx:=[0,1]) (N:=["on","machine","state"]) (bY (sc:=aI mX) (NX:=bda) rfl rfl rfl (by decide +kernel)) rfl (aDS (K':=K) (eI aC aC)) (λ_ _ _ _=>(aJ (i:=0) (show(["on","machine","state"]:ah).Nodup by decide +kernel))) (cJ (by decide)) (λ_ _ _ _=>(hU (eT (bh oM hr tx.ig (aA (aB 1) (aA (aB 2) (aA (aB 0) aD))))))) (λ_ _ _ _=>(HJ (aB 0) (bh fF hr tx.cv (aA (aB 1) (aA (aB 2) (aA (aB 0) aD)))) (bh QP hr tx.jr (aA (aB 1) (aA (aB 2) (aA (mT (aB 0)) aD))))))))) ?_;refine aT (σ:=[some (.ref q),some (.ref t)]) rfl ?_;walk_at "w";intro Tu M4;obtain⟨H1,i1,s1,DQ⟩:=nw _ M4;rw[i1];refine YE (gZ.of DQ) ?_;refine aMh (xs:=([0,1]:ae).map V.int) (λj us H'=>aR H1 H'/\∃as:ay,us=as.map V.ref/\as.length<=j/\RL (BD κS H') as (((([0,1]:ae).take j).filter (Bx st)).map λon=>(on,iN m st.1 st.2 on,OH m st on))) ⟨aR.refl _,[],rfl,eO _,RL.nil⟩ (bV (by simp))
  (λj us H' hj ⟨s',as,e,la,r⟩=>⟨gZ.of (s' _ _ DQ),by rw[e,bH];exact la⟩) (λj v us H' hv R5=>?_) (λus H' R1=>?_)
 ·obtain⟨s',as,e,la,r⟩:=R5;obtain⟨on,xj,rfl⟩:=dB hv;have wj:nC on:=by
   have:=jW xj;simp at this;exact this
  have tk:([0,1]:ae).take (j+1)=([0,1]:ae).take j ++ [on]:=by rw[BK,xj];rfl
  have S':=s1.trans s';have Br:=S' _ _ ht;walk_at "w";refine⟨_,t,_,_,on,rfl,Br,?_⟩;by_cases cz:st.1=on\/st.2=0
  ·have GF:Bx st on=true:=L4.mpr cz;rw[show(decide (st.1=on) || decide (st.2=0))=true from GF];walk_at "w";refine⟨q,m,t,_,_,on,rfl,hm.same S',Br,cz,λT2 H3 s3 Du Fm=>?_⟩;walk_at "w";intro lo Gq;obtain⟨H4,i4,s4,g4⟩:=nw _ Gq;rw[i4];walk_at "w";refine⟨q,m,t,_,_,lo,[on],rfl,hm.same (S'.trans (s3.trans s4)),hg,(s3.trans s4) _ _ Br,g4,by simp,?_,λH5 s5=>?_⟩
   ·show(if st.1=on\/st.2=0 then _ else _)=_;rw[cT cz];rfl
   walk_at "w";intro T nT;obtain⟨H6,i6,s6,g6⟩:=nw _ nT;rw[i6];have VB:=s3.trans (s4.trans (s5.trans s6));refine⟨s'.trans VB,as ++ [T],by rw[e,gR];rfl,by rw[iR];simp;lia,?_⟩;rw[tk,List.filter_append,gR,List.filter_cons_of_pos GF];exact RL.snoc (r.imp λ_ _ z=>z.same VB) ⟨_,g6,T2,rfl,(s4.trans (s5.trans s6)) _ _ Fm⟩
  ·have GF:Bx st on=false:=by cases h:Bx st on;rfl;exact absurd (L4.mp h) cz
   rw[show(decide (st.1=on) || decide (st.2=0))=false from GF];walk_at "w";refine⟨s',as,e,by lia,?_⟩;rw[tk,List.filter_append,gR,List.filter_cons_of_neg (by rw[GF];simp)];simpa using r
 ·obtain⟨s',as,e,la,r⟩:=R1;intro l nl;obtain⟨H3,i3,s3,g3⟩:=nw _ nl;rw[i3];walk_at "w";exact k l H3 (s1.trans (s'.trans s3)) ⟨as,by rw[g3,e],r.imp λ_ _ z=>z.same s3⟩
inductive tJ  (K:W.Frag) (C:Addr) (vs:List V) (H:Hp) (Q:VK) (E:XK):Prop
 |mk:∀(q:Addr) (m:MS) (t:Addr) (a:ao) (p:Int),(vs=[.ref q,.ref t,.int p])->cX C H q m->m.Good->(H t=some (.tup [.int a.1,.int a.2]))->Bk a.1 a.2->(0<=p)->(p<=1000000000001)->(∀l H',aR H H'->tE κS H' l (vt m p a)->Q (.ref l) H')->tJ K C vs H Q E
theorem aBz(tx:Txt K mg a):bQ P w K mg base eR 8 a.aCH a.aCI aza (tJ K a.aW):=by
 have aEO:=aDn (P:=P) (w:=w) (base:=base) tx;have aHk:=aFA (P:=P) (w:=w) (base:=base) tx;refine tx.cb.F.ok aGW (by walk_at "l") λbq A outer s H vs Q E hr h=>?_;obtain⟨q,m,t,st,pr,rfl ,hm,hg,ht,df,p0,p1,k⟩:=h;have hu:=fV hr;refine aY (aG (aM (bR (k:=3) (idx:=[0,2]) (N:=aUa) (bY (sc:=aI o9) (NX:=aza) rfl rfl rfl (by decide +kernel)) rfl (bI (K':=K) (bh aHk hr tx.ki (aA (aB 0) (aA (aB 1) aD)))) (λ_ _ _ _=>(bK (K':=K) (n:=3) rfl (aO (aJ (i:=0) (show(aUa:ah).Nodup by decide +kernel)) (aO (aJ (i:=1) (show(aUa:ah).Nodup by decide +kernel)) (aO (aJ (i:=2) (show(aUa:ah).Nodup by decide +kernel)) bJ))))) (fY (bF (by decide) (bF (by decide) (bF (by decide) eQ)))) (λ_ _ _ _=>bE) (λ_ _ _ _=>(HJ (aB 0) (aB 1) (aL dS (aB 2) (aL bX (aB 0) (rZ (aB 3) tx.bO tx.sh (aEO) (hr.mono (by decide)) tx.ja.b .nil aU (aA (aB 4) aD))))))))) ?_;refine aT (σ:=[some (.ref q),some (.ref t),some (.int pr)]) rfl ?_;walk_at "w"
 refine⟨q,m,t,st,rfl,hm,hg,ht,df,λl H1 s1 we=>?_⟩;obtain⟨as,gl,rl⟩:=we.ex;have zk:=rl.len;have IC:=Zj m pr st;unfold vt at IC;rw[bH] at zk IC;refine fO (bP.of gl) ?_;refine dF (xs:=as.map V.ref) (λj us H'=>aR H1 H'/\∃bs:ay,us=bs.map V.ref/\RL (BD κS H') bs ((vt m pr st).take j)) ⟨aR.refl _,[],rfl,RL.nil⟩ (bV (by rw[bH];lia))
  (λj us H' hj ⟨s',bs,e,r⟩=>⟨bP.of (s' _ _ gl),by rw[e,bH,r.len,og];lia⟩) (λj v us H' hv R0=>?_) (λus H' RZ=>?_)
 ·obtain⟨s',bs,e,r⟩:=R0;obtain⟨a1,w,ea,rfl,ew,vv,g1,hp⟩:=rl.gt hv;rw[nE] at ew;obtain⟨on,xj,rfl⟩:=oi.mp ew;have er:(vt m pr st)[j]?=some (on,iN m st.1 st.2 on,hw m pr st on):=by unfold vt;rw[nE,xj];rfl
  obtain⟨b,rfl,hb⟩:=hp;have wj:0<=on/\on<=1:=by
   have:=(D5.mp (jW xj)).1;simp at this;lia
  obtain⟨bo0,bo1⟩:=wj;refine cM (gZ.of (s' _ _ g1)) rfl ?_;walk_at "w";have Bt:=hm.same (s1.trans s');obtain⟨dx,pl,hq,_⟩:=Bt.ex;refine⟨q,dx,_,rfl,hq,rfl,?_⟩;walk_at "w";refine⟨q,m,pr,rfl,Bt,hg,p0,p1,?_⟩;walk_at "w";intro T nT;obtain⟨H3,i3,s3,g3⟩:=nw _ nT;rw[i3];refine⟨s'.trans s3,bs ++ [T],by rw[e,gR];rfl,?_⟩;rw[tF er];exact RL.snoc (r.imp λ_ _ z=>z.same s3) ⟨_,g3,b,rfl,(s'.trans s3) _ _ hb⟩
 ·obtain⟨s',bs,e,r⟩:=RZ;intro l2 MX;obtain⟨H3,i3,s3,g3⟩:=nw _ MX;rw[i3];walk_at "w";rw[bH,zk,show(([0,1]:ae).filter (Bx st)).length=(vt m pr st).length by unfold vt;rw[bH],mq] at r;exact k l2 H3 (s1.trans (s'.trans s3)) ⟨bs,by rw[g3,e],r.imp λ_ _ z=>z.same s3⟩
theorem aGo{a:Ru}{m:MS}{ps:ae}(C:Addr->Sp->Prop)(f:Addr)(xc:Sp)(hC:C f xc)(hs:cX a.aW H x m)(hg:m.Good)(hq:H q=some (.lst (ps.map V.int)))(ha:∀n∈ps,Am n)(h:∀(H':Hp) (h:Nat) (b:Addr) (p:Int) (Q:VK),aR H H'->H' q=some (.lst (ps.map V.int))->lT (ps.map V.int) (h:Int)=some (.int p)->tJ K a.aW [.ref x,.ref b,.int p] H' Q E0->xc [.int (h:Int),.ref b] H' Q E0) :
  wU κS C H f (Wr m ps) λi y=>i < ps.length/\Bk y.1 y.2:=by
 refine⟨xc,hC,λH' i v y Q s' hL Cu hk=>?_⟩;obtain⟨b,rfl,hb⟩:=Cu;obtain⟨hi,hy⟩:=hL;have ep:ps[i]?=some ps[i]:=dM hi;obtain⟨a0,a1⟩:=ha _ (uu hi);refine h H' i b ps[i] Q s' (s' _ _ hq) (gU (by rw[nE,ep];rfl)) ⟨x,m,b,y,ps[i],rfl,hs.same s',hg,hb,hy,a0,by lia,λl H2 s2 hw=>hk l H2 s2 ?_⟩;unfold Wr;rw[rf,ep];exact hw
inductive mP  (K:W.Frag) (C t:Addr) (vs:List V) (H:Hp) (Q:VK) (E:XK):Prop
 |mk:∀(x:Addr) (m:MS) (b:Addr) (a:ao) (q:Addr) (ps:ae),(vs=[.ref x,.ref b,.ref q])->(H t=some (.jy dI dJ))->cX C H x m->m.Good->(H b=some (.tup [.int a.1,.int a.2]))->yu m a->(H q=some (.lst (ps.map V.int)))->((∀n∈ps,Am n))->(ps.length<=48)->(∀r Ls H',aR H H'->H r=none->Hc m a Ls->Ls.length=ps.length+1->DV κS H' r Ls (λi=>wF (Wr m ps) (Ls.length - 1 - i) i)->Q (.ref r) H')->mP K C t vs H Q E
theorem xZ(tx:Txt K mg a):bQ P w K mg base eR 12 a.oC a.iX aba (mP K a.aW a.cH):=by
 have aCa:=aBy (P:=P) (w:=w) (base:=base) tx;have jR:=λck:Heap=>pQ (P:=P) (w:=w) (base:=ck) tx;refine tx.dv.F.Ke tx.oI mJ (λvs H Q E h=>?_) (λA outer s H vs Q E hr h=>?_)
 ·obtain⟨x,m,b,st,q,ps,rfl,_⟩:=h;rfl
 ·obtain⟨x,m,b,st,q,ps,rfl ,gt,hm,hg,hb,df,hq,ha,hl,k⟩:=h;have hu:=fV hr;refine aY (aE (aK (i:=3) mJ.nd (bh aCa hr tx.fm (aA (aB 0) (aA (aB 1) (aA (aN (rc:=mS K) cO (by rfl) tx.hX fB (aA (aB 2) aD)) aD)))))
   (aG (aM (o6 (psL:=bOa) (N:=a3a) (idx:=[0,2]) (sp:=λC=>gY K C) (kc:=8) (jR) (hr.mono (by decide)) (by rfl) tx.bj.g tx.bj.F.kp tx.bj.b (λ_=>rfl) (bY (sc:=aI cV) (NX:=bla) rfl rfl rfl (by decide +kernel)) rfl rfl rfl rfl (λ_ _ _ _ us hl=>by obtain⟨_,_,rfl⟩:=Fv us hl;rfl) (kC (aB 3) (sF (N:=a3a) (n:=2) (idx:=[0,2]) rfl tx.oI.hd rfl rfl (bY (sc:=aI cV) (NX:=bla) rfl rfl rfl (by decide +kernel)))) (λ_ _ _ _ _ _ _ _ hr hu=>(aF (aBz tx) (hr.mono (by decide)) (by rfl) tx.cb.g tx.cb.F.kp tx.cb.b .nil aU (aA (aB 2) (aA (aB 1) (aA (aH (K':=K) (aB 3) (aB 0)) aD))))))))) ?_
  refine aT (σ:=[some (.ref x),some (.ref b),some (.ref q),none]) rfl ?_;walk_at "w";refine⟨x,m,b,st,ps.length,by rw[bH],hm,hg,hb,df,by lia,λla Ls H1 s1 EO GH hL lL=>?_⟩;walk_at "w";refine⟨s1 _ _ gt,λf c' H3 Cc s3 hc hC=>?_⟩;have nz:=s1.trans s3;refine⟨ao,κS,la,f,Ls,Wr m ps,_,rfl,GH.same s3,Zi hg df ps (by lia) hL,by lia,aGo (K:=K) (a:=a) Cc f _ hC (hm.same nz) hg (nz _ _ hq) ha (λH' h b' p Q s' gq hp fb=>?_),λi qs y e1 e2 hy=>?_,λr H4 s4 nr hd=>?_⟩
  ·refine⟨s' _ _ hc,rfl,?_⟩;refine LG (σ:=[some (.int (h:Int)),some (.ref b'),some (.ref x),some (.ref q)]) rfl ?_;walk_at "w";exact fb
  ·exact⟨by lia,(Rc.st hg df (((hL.at_ i qs e1).2 y).mp hy)).1⟩
  ·exact k r Ls H4 (nz.trans s4) (nz.free nr) hL lL hd
inductive uE  (K:W.Frag) (C t1 t2:Addr) (vs:List V) (H:Hp) (Q:VK) (E:XK):Prop
 |mk:∀(x:Addr) (m:MS) (b:Addr) (a:ao) (q:Addr) (ps:ae),(vs=[.ref x,.ref b,.ref q])->(H t1=some (.jy dI dJ))->(H t2=some (.jy gH gI))->cX C H x m->m.Good->(H b=some (.tup [.int a.1,.int a.2]))->yu m a->(H q=some (.lst (ps.map V.int)))->((∀n∈ps,Am n))->(ps.length<=48)->(∀T r H',aR H H'->H r=none->H' T=some (.tup [.int (Dq m ps a),.ref r])->H' r=some (.lst ((mw m ps a).map V.int))->Q (.ref T) H')->uE K C t1 t2 vs H Q E
theorem uF(tx:Txt K mg a):bQ P w K mg base eR 13 a.wB a.oE aba (uE K a.aW a.cH a.dE):=by
 have aAr:=xZ (P:=P) (w:=w) (base:=base) tx;have tI:=λck:Heap=>aBt (P:=P) (w:=w) (base:=ck) tx;refine tx.dt.F.Ke tx.wI lY (λvs H Q E h=>?_) (λA outer s H vs Q E hr h=>?_)
 ·obtain⟨x,m,b,st,q,ps,rfl,_⟩:=h;rfl
 ·obtain⟨x,m,b,st,q,ps,rfl ,GV,GU,hm,hg,hb,df,hq,ha,hl,k⟩:=h;have hu:=fV hr;refine aY (aE (aK (i:=3) lY.nd (bh aAr hr tx.dv (aA (aB 0) (aA (aB 1) (aA (aB 2) aD)))))
   (aE (aK (i:=4) lY.nd (o6 (psL:=bOa) (N:=a3a) (idx:=[0,2]) (sp:=λC=>m7 K C) (kc:=8) (tI) (hr.mono (by decide)) (by rfl) tx.cg.g tx.cg.F.kp tx.cg.b (λ_=>rfl) (bY (sc:=aI eA) (NX:=bea) rfl rfl rfl (by decide +kernel)) rfl rfl rfl rfl (λ_ _ _ _ us hl=>by obtain⟨_,_,rfl⟩:=Fv us hl;rfl) (kC (aB 1) (kC (aB 3) (sF (N:=a3a) (n:=2) (idx:=[0,2]) rfl tx.wI.hd rfl rfl (bY (sc:=aI eA) (NX:=bea) rfl rfl rfl (by decide +kernel))))) (λ_ _ _ _ _ _ _ _ hr hu=>(aF (aBz tx) (hr.mono (by decide)) (by rfl) tx.cb.g tx.cb.F.kp tx.cb.b .nil aU (aA (aB 2) (aA (aB 1) (aA (aH (K':=K) (aB 3) (aB 0)) aD)))))))
   (aG (aM (eI (o5 hu (aH (K':=K) (aB 3) aC) (aB 1)) (aB 4)))))) ?_
  refine aT (σ:=[some (.ref x),some (.ref b),some (.ref q),none,none]) rfl ?_;walk_at "w";refine⟨x,m,b,st,q,ps,rfl,GV,hm,hg,hb,df,hq,ha,hl,λlw Ls H1 s1 EN hL lL hd=>?_⟩;walk_at "w";refine⟨s1 _ _ GU,λf c' H3 Cc s3 hc hC=>?_⟩;have nz:=s1.trans s3;have Oz:Ls[0]?=some Ls[0]:=dM (by lia);have Km:st∈Ls[0]:=((hL.at_ 0 _ Oz).2 st).mpr rfl;refine⟨ao,κS,.ref b,st,Ls[0],lw,f,Ls,Wr m ps,_,rfl,⟨b,rfl,nz _ _ hb⟩,hd.same s3,Oz,Km,Zi hg df ps (by lia) hL,by lia,aGo (K:=K) (a:=a) Cc f _ hC (hm.same nz) hg (nz _ _ hq) ha (λH' h b' p Q s' gq hp fb=>?_),λi qs y e1 e2 hy=>?_,λr H4 s4 nr gr=>?_⟩
  ·refine⟨s' _ _ hc,rfl,?_⟩;refine LG (σ:=[some (.int (h:Int)),some (.ref b'),some (.ref x),some (.ref q)]) rfl ?_;walk_at "w";exact fb
  ·exact⟨by lia,(Rc.st hg df (((hL.at_ i qs e1).2 y).mp hy)).1⟩
  ·have VD:=nz.trans s4;obtain⟨ds,KL,Ki,A5⟩:=(hd.same (s3.trans s4)).ex;have ed:ds[0]?=some ds[0]:=dM (by lia);have h0:=A5 0 _ _ ed Oz;generalize ds[0]=d0 at ed h0;have ix:lT (ds.map V.ref) 0=some (.ref d0):=gU (j:=0) (Hy ed);walk_at "w";refine⟨d0,_,rfl,κS.get (v:=.ref b) (x:=st) h0 ⟨b,rfl,VD _ _ hb⟩ Km,?_⟩;walk_at "w";intro T nT;obtain⟨H5,i5,s5,g5⟩:=nw _ nT;rw[i5];walk_at "w";have e1:Ls.length - 1=ps.length:=by lia
   rw[e1] at gr;rw[HP,e1] at g5;exact k T r H5 (VD.trans s5) (nz.free nr) g5 (s5 _ _ gr)
inductive zK  (K:W.Frag) (vs:List V) (H:Hp) (Q:VK) (E:XK):Prop
 |mk:∀(p b:Addr) (x y M:Int),(vs=[.ref p,.ref b,.int M])->bB H p->(H b=some (.lst [.int x,.int y]))->(1<=y)->(y<=50000000000)->Am M->(∀(r:Int) H',0<=r->r<=M->bB H' p->cI p H H'->dR p H H'->Q (.int r) H')->zK K vs H Q E
theorem aFB(tx:Txt K mg a):bQ P w K mg base eR 2 a.aA6 a.aA7 ava (zK K):=by
 have aS:=cS (P:=P) (w:=w) (base:=base) tx;refine tx.lj.F.ok aFh (by walk_at "l") λbq A outer s H vs Q E hr h=>?_;obtain⟨p,b,x,y,M,rfl ,hh,hb,y0,y1,hM,k⟩:=h;have hu:=fV hr;refine aY (aG (aM (aN (jY rfl) (by rfl) tx.wJ rV (aA (aN (fN rfl) (by rfl) tx.mM jC (aA aC (aA (aL dS (aL bL (aL bX (aH (K':=K) (aB 1) aC) (bh aS hr tx.af (aA (aB 0) (aA aC aD)))) (bh aS hr tx.af (aA (aB 0) (aA aC aD)))) aC) aD))) (aA (aB 2) aD))))) ?_;obtain⟨m0,m1⟩:=hM;have bp:b≠p:=hh.BC hb (by simp);refine aT (σ:=[some (.ref p),some (.ref b),some (.int M)]) rfl ?_;walk_at "w";refine⟨p,_,rfl,hh,by decide,by decide,λr1 H1 a1 b1 h1 k1 q1=>?_⟩;walk_at "w";refine⟨p,_,rfl,h1,by decide,by decide,λr2 H2 a2 b2 h2 k2 q2=>?_⟩;walk_at "w";exact k _ _ (by lia) (by lia) h2 (k1.trans k2) (q1.trans q2)
def EZ(W:WS)(P:Ps)(qs:ae):ae:=List.zipWith (λm s=>Dq m qs s) W.specs P.1
def EU(W:WS)(P:Ps)(qs:ae):Int:=match W.store with|none=>0|some s=>ET s qs P.2
def Gi(qs ws:ae):Int:=List.sum (List.zipWith (λp w=>p*w) qs ws)
def EL(W:WS)(P:Ps)(ws qs:ae):Int:=Gi qs ws+List.sum (EZ W P qs)+EU W P qs
structure uM(W:WS)(P:Ps):Prop where
 ok:jQ W P
 st:∀(j:Nat) m s,W.specs[j]?=some m->P.1[j]?=some s->yu m s
structure Bd(H:Hp)(t1 t2 t3 t4:Addr):Prop where
 a:H t1=some (.jy dI dJ)
 b:H t2=some (.jy gH gI)
 c:H t3=some (.jy dG dH)
 d:H t4=some (.jy fT fU)
theorem Bd.same{H H':Hp}{t1 t2 t3 t4:Addr}(h:Bd H t1 t2 t3 t4)(s:aR H H'):Bd H' t1 t2 t3 t4:=⟨s _ _ h.a,s _ _ h.b,s _ _ h.c,s _ _ h.d⟩
theorem QC{α β γ:Type}{f:α->β->γ}{xs:List α}{ys:List β}{i:Nat}{x:α}{y:β}(h1:xs[i]?=some x)(h2:ys[i]?=some y):List.zipWith f (xs.take (i+1)) (ys.take (i+1))=List.zipWith f (xs.take i) (ys.take i) ++ [f x y]:=by
 have e:(List.zipWith f xs ys)[i]?=some (f x y):=by rw[C3,h1,h2]
 rw[<-List.take_zipWith,<-List.take_zipWith];exact take_snoc e
inductive lN  (K:W.Frag) (CW CM CS t1 t2 t3 t4:Addr) (vs:List V) (H:Hp) (Q:VK) (E:XK):Prop
 |mk:∀(w:Addr) (W:WS) (a:Addr) (P:Ps) (q:Addr) (qs:ae),(vs=[.ref w,.ref a,.ref q])->dQ CW CM CS H w W->W.Good->fG H a P->uM W P->(H q=some (.lst (qs.map V.int)))->((∀n∈qs,Am n))->(qs.length<=48)->Bd H t1 t2 t3 t4->(∀(l:Addr) (H':Hp),aR H H'->H' l=some (.lst ((EZ W P qs).map V.int))->Q (.ref l) H')->lN K CW CM CS t1 t2 t3 t4 vs H Q E
theorem lO(tx:Txt K mg a):bQ P w K mg base eR 14 a.mK a.mL Te (lN K a.cN a.aW a.bS a.cH a.dE a.cG a.cY):=by
 have oQ:=uF (P:=P) (w:=w) (base:=base) tx;refine tx.cu.F.ok vN (by walk_at "l") λbq A outer s H vs Q E hr h=>?_;obtain⟨w,W,ap,P,q,qs,rfl ,hw,hg,hP,hB,hq,ha,hl,hT,k⟩:=h;have hu:=fV hr;refine aY (aG (aM (bR (k:=2) (idx:=[2]) (N:=aba) (bY (sc:=aI fJ) (NX:=Te) rfl rfl rfl (by decide +kernel)) rfl (gB (k1:=true) (k2:=false) (by rfl) tx.jU (aA (a8 (K':=K) (aB 0) rfl) (aA (aH (K':=K) (aB 1) aC) aD))) (λ_ _ _ _=>(bK (K':=K) (n:=2) rfl (aO (aJ (i:=0) (show(aba:ah).Nodup by decide +kernel)) (aO (aJ (i:=1) (show(aba:ah).Nodup by decide +kernel)) bJ)))) (fY (bF (by decide) (bF (by decide) eQ))) (λ_ _ _ _=>bE) (λ_ _ _ _=>(aH (K':=K) (bh oQ hr tx.dt (aA (aB 0) (aA (aB 1) (aA (aB 2) aD)))) aC))))) ?_;obtain⟨dx,lm,st,gw,Cv,di⟩:=hw.ex;obtain⟨ms,A9,AW⟩:=Cv.ex;obtain⟨t,gP,Af⟩:=hP.ex;obtain⟨ts,DP,Cf⟩:=Af.ex;have Gu:=AW.len;have Cp:=Cf.len;have EX:=hB.ok.len;have l6:=hg.len;refine aT (σ:=[some (.ref w),some (.ref ap),some (.ref q)]) rfl ?_
 walk_at "w";refine cE gw tx.dP tx.cQ rfl ?_;walk_at "w";refine sC (Src.lst A9) (Src.tup DP) ?_;refine j9 (n:=W.specs.length) (by rw[bH];lia) (by rw[bH];lia) (.inl (by rw[bH];lia)) (bV (by lia))
  (λi us H'=>aR H H'/\us=((List.zipWith (λm s=>Dq m qs s) (W.specs.take i) (P.1.take i)).map V.int)/\us.length<=i) ⟨aR.refl _,by simp,eO _⟩
  (λi us H' hi ⟨s',e1,e2⟩=>⟨⟨Src.lst (s' _ _ A9),Src.tup (s' _ _ DP)⟩,e2⟩)
  (λi x y us H' T hx hy RY nT=>?_) (λus H' RX=>?_)
 ·obtain⟨s',e1,e2⟩:=RY;obtain⟨xm,m,_,rfl,em,hm⟩:=AW.get hx;obtain⟨xt,s,_,rfl,es,hs⟩:=Cf.get hy;obtain⟨J,j,sT,gT⟩:=nw _ nT;rw[j];have s2:=s'.trans sT;refine cM (gZ.of gT) rfl ?_;walk_at "w";have um:=hT.same s2;refine⟨xm,m,xt,s,q,qs,rfl,um.a,um.b,hm.same s2,hg.specs m (jW em),s2 _ _ hs,hB.st i m s em es,s2 _ _ hq,ha,hl,λT2 r2 H3 s3 MU Fm Od=>?_⟩;walk_at "w";refine⟨s2.trans s3,?_,by rw[iR,qf];lia⟩;rw[e1,QC em es,gR];rfl
 ·obtain⟨s',e1,e2⟩:=RX;subst e1;rw[mq,<-EX,mq];intro l nl;obtain⟨J,j,sT,gT⟩:=nw _ nl;rw[j];walk_at "w";exact k l J (s'.trans sT) gT
inductive pV  (K:W.Frag) (CW CM CS t1 t2 t3 t4:Addr) (vs:List V) (H:Hp) (Q:VK) (E:XK):Prop
 |mk:∀(w:Addr) (W:WS) (a:Addr) (P:Ps) (q:Addr) (qs:ae),(vs=[.ref w,.ref a,.ref q])->dQ CW CM CS H w W->W.Good->fG H a P->uM W P->(H q=some (.lst (qs.map V.int)))->((∀n∈qs,Am n))->(qs.length<=48)->Bd H t1 t2 t3 t4->(∀(H':Hp),aR H H'->Q (.int (EU W P qs)) H')->pV K CW CM CS t1 t2 t3 t4 vs H Q E
theorem pW(tx:Txt K mg a):bQ P w K mg base eR 14 a.rD a.rE Te (pV K a.cN a.aW a.bS a.cH a.dE a.cG a.cY):=by
 have mG:=rO (P:=P) (w:=w) (base:=base) tx;refine tx.de.F.ok aAH (by walk_at "l") λbq A outer s H vs Q E hr h=>?_;obtain⟨w,W,ap,P,q,qs,rfl ,hw,hg,hP,hB,hq,ha,hl,hT,k⟩:=h;have hu:=fV hr;refine aY (aG (aM (oX (aV qA (a8 (K':=K) (aB 0) rfl) cU (bD _)) aC (aH (K':=K) (bh mG hr tx.dh (aA (a8 (K':=K) (aB 0) rfl) (aA (aH (K':=K) (aB 1) aC) (aA (aB 2) aD)))) aC)))) ?_;obtain⟨dx,lm,st,gw,Cv,di⟩:=hw.ex;obtain⟨t,gP,Af⟩:=hP.ex;have kb:=hB.ok.b8;unfold jV at kb;unfold EU at k;refine aT (σ:=[some (.ref w),some (.ref ap),some (.ref q)]) rfl ?_;walk_at "w";refine cE gw tx.dP tx.dZ rfl ?_;cases e:W.store with
 |none=>
  rw[e] at di k
  replace di:st=.bw:=di
  subst di;repeat walk_at "gs"
  exact k H (aR.refl _)
 |some sv=>
  rw[e] at di k kb;obtain⟨c,rfl,hc⟩:=di
  replace kb:0<=P.2/\P.2<=sv.bz:=kb
  repeat walk_at "gs"
  refine cE gw tx.dP tx.dZ rfl ?_;repeat walk_at "gs"
  refine⟨c,sv,P.2,q,qs,rfl,hT.c,hT.d,hc,hg.store sv e,kb.1,kb.2,hq,ha,hl,λT r H2 s2 nr gT gr=>?_⟩;walk_at "w";exact k H2 s2
inductive w6  (K:W.Frag) (CW CM CS t1 t2 t3 t4:Addr) (vs:List V) (H:Hp) (Q:VK) (E:XK):Prop
 |mk:∀(w:Addr) (W:WS) (a:Addr) (P:Ps) (u:Addr) (ws:ae) (q:Addr) (qs:ae),(vs=[.ref w,.ref a,.ref u,.ref q])->dQ CW CM CS H w W->W.Good->fG H a P->uM W P->(H u=some (.lst (ws.map V.int)))->(H q=some (.lst (qs.map V.int)))->(ws.length=qs.length)->((∀n∈qs,Am n))->(qs.length<=48)->Bd H t1 t2 t3 t4->(∀(H':Hp),aR H H'->Q (.int (EL W P ws qs)) H')->w6 K CW CM CS t1 t2 t3 t4 vs H Q E
theorem aEP(tx:Txt K mg a):bQ P w K mg base eR 15 a.yR a.yS aXa (w6 K a.cN a.aW a.bS a.cH a.dE a.cG a.cY):=by
 have iL:=lO (P:=P) (w:=w) (base:=base) tx;have kK:=pW (P:=P) (w:=w) (base:=base) tx;refine tx.jg.F.ok nY (by walk_at "l") λbq A outer s H vs Q E hr h=>?_;obtain⟨w,W,ap,P,u,ws,q,qs,rfl ,hw,hg,hP,hB,Ad,hq,hlen,ha,hl,hT,k⟩:=h;have hu:=fV hr;refine aY (aE (aK (i:=4) nY.nd (aN (rc:=yt K) (fP rfl) (by rfl) tx.mN jD (aA (bR (k:=2) (idx:=[]) (N:=bWa) (bY (sc:=aI kN) (NX:=bza) rfl rfl rfl (by decide +kernel)) rfl (gB (k1:=true) (k2:=true) (by rfl) tx.jU (aA (aB 3) (aA (aB 2) aD))) (λ_ _ _ _=>(bK (K':=K) (n:=2) rfl (aO (aJ (i:=0) (show(bWa:ah).Nodup by decide +kernel)) (aO (aJ (i:=1) (show(bWa:ah).Nodup by decide +kernel)) bJ)))) (fY (bF (by decide) (bF (by decide) eQ))) (λ_ _ _ _=>bE) (λ_ _ _ _=>(aL bX (aB 0) (aB 1)))) aD)))
  (aE (aK (i:=5) nY.nd (aN (rc:=yt K) (fP rfl) (by rfl) tx.mN jD (aA (bh iL hr tx.cu (aA (aB 0) (aA (aB 1) (aA (aB 3) aD)))) aD)))
  (aG (aM (aL bL (aL bL (aB 4) (aB 5)) (bh kK hr tx.de (aA (aB 0) (aA (aB 1) (aA (aB 3) aD))))))))) ?_
 refine aT (σ:=[some (.ref w),some (.ref ap),some (.ref u),some (.ref q),none,none]) rfl ?_;walk_at "w";refine sC (Src.lst hq) (Src.lst Ad) ?_;refine j9 (n:=qs.length) (by rw[bH];lia) (by rw[bH];lia) (.inl (by rw[bH])) (bV (by lia))
  (λi us H'=>aR H H'/\us=((List.zipWith (λp w=>p*w) (qs.take i) (ws.take i)).map V.int)/\us.length<=i) ⟨aR.refl _,by simp,eO _⟩
  (λi us H' hi ⟨s',e1,e2⟩=>⟨⟨Src.lst (s' _ _ hq),Src.lst (s' _ _ Ad)⟩,e2⟩)
  (λi x y us H' T hx hy RW nT=>?_) (λus H' RV=>?_)
 ·obtain⟨s',e1,e2⟩:=RW;obtain⟨pr,ep,rfl⟩:=dB hx;obtain⟨wn,ew,rfl⟩:=dB hy;obtain⟨p0,p1⟩:=ha pr (jW ep);obtain⟨J,j,sT,gT⟩:=nw _ nT;rw[j];refine cM (gZ.of gT) rfl ?_;walk_at "w";refine⟨s'.trans sT,?_,by rw[iR,qf];lia⟩;rw[e1,QC ep ew,gR];rfl
 obtain⟨s',e1,e2⟩:=RV;subst e1;rw[mq,<-hlen,mq];intro l nl;obtain⟨H2,i2,s2,g2⟩:=nw _ nl;rw[i2];have S2:=s'.trans s2;walk_at "w";refine nG (bP.of g2) ?_;walk_at "w";refine⟨w,W,ap,P,q,qs,rfl,hw.tr S2.tr,hg,hP.tk S2.tk,hB,S2 _ _ hq,ha,hl,hT.same S2,λl2 H3 s3 g3=>?_⟩;have S3:=S2.trans s3;walk_at "w";refine nG (bP.of g3) ?_;walk_at "w";refine⟨w,W,ap,P,q,qs,rfl,hw.tr S3.tr,hg,hP.tk S3.tk,hB,S3 _ _ hq,ha,hl,hT.same S3,λH4 s4=>?_⟩;walk_at "w";exact k H4 (S3.trans s4)
section Enm
variable{α:Type}
def zr(W:Nat->α->List (Wy α)):Nat->α->ae->Option (α×Int)
 |_,x,[]=>some (x,0)
 |i,x,c::r=>match (W i x).find? λw=>decide (w.1=c) with
  |none=>none
  |some w=>(zr W (i+1) w.2.1 r).map λe=>(e.1,w.2.2+e.2)
theorem PM{W:Nat->α->List (Wy α)}:∀{row:ae}{i:Nat}{x:α},uL W i x row=(zr W i x row).map (·.2)
 |[],_,_=>rfl
 |c::r,i,x=>by
  unfold uL zr;cases (W i x).find? λw=>decide (w.1=c) with
  |none=>rfl
  |some w=>
   show Option.map _ _=Option.map _ (Option.map _ _);rw[PM,Option.map_map,Option.map_map];rfl
theorem QB{W:Nat->α->List (Wy α)}{c:Int}:∀{row:ae}{i:Nat}{x:α},zr W i x (row ++ [c])=(zr W i x row).bind λe=>((W (i+row.length) e.1).find? λw=>decide (w.1=c)).map λv=>(v.2.1,e.2+v.2.2)
 |[],i,x=>by
  show(match (W i x).find? λw=>decide (w.1=c) with|none=>none|some w=>(some (w.2.1,(0:Int))).map λe=>(e.1,w.2.2+e.2))=((W (i+0) x).find? λw=>decide (w.1=c)).map λv=>(v.2.1,0+v.2.2)
  rw[Nat.add_zero];cases (W i x).find? λw=>decide (w.1=c) with
  |none=>rfl
  |some w=>
   show some (w.2.1,w.2.2+0)=some (w.2.1,0+w.2.2);rw[zu,wk]
 |d::r,i,x=>by
  show zr W i x (d::(r ++ [c]))=_;unfold zr;cases (W i x).find? λw=>decide (w.1=d) with
  |none=>rfl
  |some w=>
   show Option.map _ (zr W (i+1) w.2.1 (r ++ [c]))=(Option.map _ (zr W (i+1) w.2.1 r)).bind _;rw[QB,mv,show i+1+r.length=i+(r.length+1) by lia];cases zr W (i+1) w.2.1 r with
   |none=>rfl
   |some e=>
    show Option.map _ (Option.map _ _)=Option.map _ _;rw[Option.map_map];congr 1;funext v
    show(v.2.1,w.2.2+(e.2+v.2.2))=(v.2.1,w.2.2+e.2+v.2.2)
    rw[Int.add_assoc]
end Enm
section Fwd
variable{α:Type}[DecidableEq α]
def DU(ps:List (α×Int))(k:α):Option Int:=(ps.find? λp=>decide (p.1=k)).map (·.2)
def Hb(ps:List (α×Int))(k:α)(v:Int):List (α×Int):=if ps.any (λp=>decide (p.1=k)) then ps.map (λp=>if p.1=k then (p.1,v) else p) else ps ++ [(k,v)]
theorem L8{ps:List (α×Int)}{k:α}{v:Int}{q:α×Int}:q∈Hb ps k v↔q=(k,v)\/(q∈ps/\q.1≠k):=by
 unfold Hb;by_cases h:ps.any (λp=>decide (p.1=k))=true
 ·rw[cT h,qQ];constructor
  ·rintro ⟨p,hp,rfl⟩;by_cases e:p.1=k
   ·rw[cT e,e];exact .inl rfl
   ·rw[cD e];exact .inr ⟨hp,e⟩
  ·rintro (rfl|⟨h1,h2⟩)
   ·obtain⟨p,hp,e⟩:=F1.mp h;have e':=ua e;exact⟨p,hp,by rw[cT e',e']⟩
   ·exact⟨q,h1,cD h2⟩
 ·rw[cD h,oa,ng];constructor
  ·rintro (h1|h1)
   ·exact .inr ⟨h1,λe=>h (F1.mpr ⟨q,h1,ur e⟩)⟩
   ·exact .inl h1
  ·rintro (h1|⟨h1,_⟩)
   ·exact .inr h1
   ·exact .inl h1
theorem aPd{ps:List (α×Int)}{k:α}{v:Int}(nd:(ps.map (·.1)).Nodup):((Hb ps k v).map (·.1)).Nodup:=by
 unfold Hb;by_cases h:ps.any (λp=>decide (p.1=k))=true
 ·rw[cT h,wm];have e:((λp:α×Int=>p.1) ∘ λp:α×Int=>if p.1=k then (p.1,v) else p)=λp=>p.1:=by
   funext p
   show(if p.1=k then (p.1,v) else p).1=p.1;split <;> rfl
  rw[e];exact nd
 ·rw[cD h,gR,List.nodup_append];refine⟨nd,by simp,λa ha b hb z=>?_⟩;rw[jz,CQ,ng] at hb;obtain⟨p,hp,e⟩:=qQ.mp ha;exact h (F1.mpr ⟨p,hp,ur (e.trans (z.trans hb))⟩)
theorem aNz{ps:List (α×Int)}{k:α}{v:Int}(h:DU ps k=some v):(k,v)∈ps:=by
 unfold DU at h;obtain⟨p,hp,rfl⟩:=oi.mp h;have e:=ua (HU (p:=λp:α×Int=>decide (p.1=k)) hp);rw[<-e];exact C5 hp
theorem aPe{ps:List (α×Int)}(nd:(ps.map (·.1)).Nodup){q:α×Int}(h:q∈ps):DU ps q.1=some q.2:=by
 induction ps with
 |nil=>cases h
 |cons p r ih=>
  rw[jz,ya] at nd;unfold DU;rw[As];rcases lR.mp h with rfl|h
  ·rw[ur rfl];rfl
  ·have ne:p.1≠q.1:=λe=>nd.1 (by rw[e];exact qQ.mpr ⟨q,h,rfl⟩);rw[yb ne];exact ih nd.2 h
structure FF(cs qs:List (α×Int)):Prop where
 nd:(qs.map (·.1)).Nodup
 so:∀q∈qs,q∈cs
 co:∀c∈cs,∃q∈qs,q.1=c.1/\q.2<=c.2
theorem FF.nil:FF ([]:List (α×Int)) []:=⟨List.nodup_nil,(λ_ h=>by cases h),λ_ h=>by cases h⟩
theorem FF.on{cs qs:List (α×Int)}{y:α}{u:Int}(h:FF cs qs):FF (cs ++ [(y,u)]) (Hb qs y (min ((DU qs y).getD u) u)):=by
 refine⟨aPd h.nd,λq hq=>?_,λc hc=>?_⟩
 ·rcases L8.mp hq with rfl|⟨h1,_⟩
  ·cases e:DU qs y with
   |none=>
    show(y,min u u)∈_;rw[Int.min_self];exact wa _ (.head _)
   |some v=>
    show(y,min v u)∈_;by_cases hv:v<=u
    ·rw[Int.min_eq_left hv];exact D9 _ (h.so _ (aNz e))
    ·rw[Int.min_eq_right (by lia)];exact wa _ (.head _)
  ·exact D9 _ (h.so q h1)
 ·rcases oa.mp hc with z|z
  ·obtain⟨q,hq,e1,e2⟩:=h.co c z;by_cases e:q.1=y
   ·refine⟨_,L8.mpr (.inl rfl),by show y=c.1;rw[<-e,e1],?_⟩;have:=aPe h.nd hq;rw[e] at this;show min ((DU qs y).getD u) u<=c.2;rw[this];show min q.2 u<=c.2;lia
   ·exact⟨q,L8.mpr (.inr ⟨hq,e⟩),e1,e2⟩
  ·rw[ng.mp z];exact⟨_,L8.mpr (.inl rfl),rfl,by show min _ u<=u;lia⟩
def aSQ(W:Nat->α->List (Wy α))(i:Nat)(ps:List (α×Int)):List (α×Int):=ps.flatMap λp=>(W i p.1).map λw=>(w.2.1,p.2+w.2.2)
structure Fw(W:Nat->α->List (Wy α))(a:α)(i:Nat)(ps:List (α×Int)):Prop where
 nd:(ps.map (·.1)).Nodup
 so:∀p∈ps,∃row:ae,row.length=i/\zr W 0 a row=some p
 co:∀(row:ae) e,row.length=i->zr W 0 a row=some e->∃p∈ps,p.1=e.1/\p.2<=e.2
theorem Fw.on{W:Nat->α->List (Wy α)}(hr:∀i x,CI (W i x)){a:α}{i:Nat}{ps qs:List (α×Int)}(h:Fw W a i ps)(hq:FF (aSQ W i ps) qs):Fw W a (i+1) qs:=by
 refine⟨hq.nd,λq vi=>?_,λrow e hl he=>?_⟩
 ·obtain⟨p,hp,hc⟩:=List.mem_flatMap.mp (hq.so q vi);obtain⟨w,hw,rfl⟩:=qQ.mp hc;obtain⟨row,l1,e1⟩:=h.so p hp;refine⟨row ++ [w.1],by rw[iR,l1];rfl,?_⟩;rw[QB,e1,l1,HN];show Option.map _ ((W i p.1).find? _)=_;rw[QK (hr i p.1) hw];rfl
 ·have cq:row≠[]:=λz=>by rw[z] at hl;cases hl
  have es:=List.dropLast_concat_getLast cq;have lk:row.dropLast.length=i:=by rw[List.length_dropLast,hl];rfl
  rw[<-es,QB] at he;obtain⟨e',he',hv⟩:=Option.bind_eq_some_iff.mp he;obtain⟨v,hf,ev⟩:=oi.mp hv;rw[lk,HN] at hf;cases ev;obtain⟨p,hp,e1,e2⟩:=h.co row.dropLast e' lk he';have hw:=C5 hf;obtain⟨q,vi,q1,q2⟩:=hq.co (v.2.1,p.2+v.2.2) (List.mem_flatMap.mpr ⟨p,hp,qQ.mpr ⟨v,by rw[e1];exact hw,rfl⟩⟩);refine⟨q,vi,q1,?_⟩;have q2':q.2<=p.2+v.2.2:=q2;show q.2<=e'.2+v.2.2;lia
theorem Fw.least{W:Nat->α->List (Wy α)}{n:Nat}{L:Nat->α->Prop}(hl:Lay W n L)(hr:∀i x,CI (W i x)){a:α}(ha:L 0 a){ps:List (α×Int)}(h:Fw W a n ps):ps≠[]/\∀m,m∈ps.map (·.2)->(∀x∈ps.map (·.2),m<=x)->m=wF W n 0 a:=by
 obtain⟨r1,r2⟩:=LZ hl hr n 0 a (by lia) ha;rw[PM] at r1;obtain⟨e,e1,e2⟩:=oi.mp r1;obtain⟨p,hp,p1,p2⟩:=h.co _ e r2 e1;refine⟨(λz=>by rw[z] at hp;cases hp),λm hm hle=>?_⟩;have a1:=hle p.2 (qQ.mpr ⟨p,hp,rfl⟩);obtain⟨q,hq,rfl⟩:=qQ.mp hm;obtain⟨row,l1,f1⟩:=h.so q hq;have a2:=O9 (W:=W) (row:=row) (i:=0) (x:=a) (v:=q.2) (by rw[PM,f1];rfl);rw[l1] at a2;have a3:e.2=wF W n 0 a:=e2;lia
end Fwd
theorem Ym(m:MS)(p:Int)(s:ao):hw m p s 0=m.rest:=by
 show wR m s.1 [0] - 0*Fh m p=_;unfold wR;rw[show qu s.1 [0] 0=[] by show(if (0:Int)=1/\s.1=0 then [((0:Nat):Int)] else []) ++ []=[];rw[cD (by lia)];rfl];simp
theorem Yl(m:MS)(p:Int){s:ao}(b:nC s.1):hw m p s 1=m.run+m.begin_*(1 - s.1) - Fh m p:=by
 show wR m s.1 [1] - 1*Fh m p=_;unfold wR;rcases b with b|b
 ·rw[show qu s.1 [1] 0=[0] by show(if (1:Int)=1/\s.1=0 then [((0:Nat):Int)] else []) ++ []=[0];rw[cT ⟨rfl,b⟩];rfl,b];simp;lia
 ·rw[show qu s.1 [1] 0=[] by show(if (1:Int)=1/\s.1=0 then [((0:Nat):Int)] else []) ++ []=[];rw[cD (by lia)];rfl,b];simp
def Bb:Option SS->Int->Int->Int
 |none,_,_=>0
 |some s,l,n=>dr s l n
theorem aPf{s:SS}{l n:Int}:(if n < l then (n - l)*s.gives else (n - l)*s.takes)=dr s l n:=by
 unfold dr;by_cases h1:n < l
 ·rw[cT h1,cD (by lia),Int.mul_comm]
 ·rw[cD h1];by_cases h2:l < n
  ·rw[cT h2,Int.mul_comm]
  ·have e:n=l:=by lia
   subst e;rw[cD h2,Int.sub_self,Int.zero_mul,Bi]
inductive zM  (K:W.Frag) (vs:List V) (H:Hp) (Q:VK) (E:XK):Prop
 |mk:∀(v:V) (o:Option SS) (l n:Int),(vs=[v,.int l,.int n])->BB H v o->((∀s,o=some s->s.Good))->(Q (.int (Bb o l n)) H)->zM K vs H Q E
theorem aFD(tx:Txt K mg a):bQ P w K mg base eR 1 a.aA8 a.aA9 ala (zM K):=by
 refine tx.ma.F.ok aFi (by walk_at "l") λbq A outer s H vs Q E hr h=>?_;obtain⟨v,o,l,n,rfl ,hv,hg,k⟩:=h;have hu:=fV hr;refine aY (aE (bC (aV qA (aB 0) cU (bD _)) (aG (aM aC)) aZ)
  (aE (bC (aV Hu (aB 2) (aB 1) (bD _)) (aG (aM (aL bX (aL dS (aB 2) (aB 1)) (aH (K':=K) (aB 0) aC)))) aZ)
  (aG (aM (aL bX (aL dS (aB 2) (aB 1)) (aH (K':=K) (aB 0) aC)))))) ?_
 refine aT (σ:=[some v,some (.int l),some (.int n)]) rfl ?_;cases o with
 |none=>
  replace hv:v=.bw:=hv
  subst hv;walk_at "w";exact k
 |some s=>
  obtain⟨c,rfl,hc⟩:=hv;have Cw:=hc.at_;obtain⟨t0,t1⟩:=(hg s rfl).takes;obtain⟨g0,g1⟩:=(hg s rfl).gives;have k':Q (.int (dr s l n)) H:=k;rw[<-aPf] at k';walk_at "w";refine cB (λh=>?_) (λh=>?_)
  ·rw[cT h] at k';walk_at "w";exact k'
  ·rw[cD h] at k';walk_at "w";exact k'
inductive aBB  (K:W.Frag) (vs:List V) (H:Hp) (Q:VK) (E:XK):Prop
 |mk:∀(p b:Addr) (x y:Int),(vs=[.ref p,.ref b])->bB H p->(H b=some (.lst [.int x,.int y]))->(1<=x)->(∀(n:Int) H',0<=n->bB H' p->cI p H H'->dR p H H'->Q (.int n) H')->aBB K vs H Q E
theorem aHl(tx:Txt K mg a):bQ P w K mg base eR 2 a.aCJ a.aCK aoa (aBB K):=by
 have aS:=cS (P:=P) (w:=w) (base:=base) tx;refine tx.pb.F.ok aGX (by walk_at "l") λbq A outer s H vs Q E hr h=>?_;obtain⟨p,b,x,y,rfl ,hh,hb,x0,k⟩:=h;have hu:=fV hr;refine aY (aG (aM (aL bL (aL bX (aH (K':=K) (aB 1) aC) (bh aS hr tx.af (aA (aB 0) (aA aC aD)))) (bh aS hr tx.af (aA (aB 0) (aA aC aD)))))) ?_;refine aT (σ:=[some (.ref p),some (.ref b)]) rfl ?_;walk_at "w";refine⟨p,_,rfl,hh,by decide,by decide,λr1 H1 a1 b1 h1 k1 q1=>?_⟩;walk_at "w";refine⟨p,_,rfl,h1,by decide,by decide,λr2 H2 a2 b2 h2 k2 q2=>?_⟩;walk_at "w";have z:=D4 (show 0<=x by lia) a1;exact k _ _ (by lia) h2 (k1.trans k2) (q1.trans q2)
inductive w9  (K:W.Frag) (vs:List V) (H:Hp) (Q:VK) (E:XK):Prop
 |mk:∀(p b:Addr) (x y L:Int) (n:Nat),(vs=[.ref p,.ref b,.int L,.int (n:Int)])->bB H p->(H b=some (.lst [.int x,.int y]))->(1<=y)->(y<=50000000000)->Am L->(n<=48)->(∀(q:Addr) (ps:ae) (H':Hp),H' q=some (.lst (ps.map V.int))->ps.length=n->(∀r∈ps,0<=r/\r<=L)->bB H' p->cI p H H'->Q (.ref q) H')->w9 K vs H Q E
theorem aEQ(tx:Txt K mg a):bQ P w K mg base eR 3 a.yT a.yU aga (w9 K):=by
 have aHm:=aFB (P:=P) (w:=w) (base:=base) tx;refine tx.jk.F.ok aD8 (by walk_at "l") λbq A outer s H vs Q E hr h=>?_;obtain⟨p,b,x,y,L,n,rfl ,hh,hb,y0,y1,hL,hn,k⟩:=h;have hu:=fV hr;refine aY (aG (aM (bR (k:=1) (idx:=[1,0,2]) (N:=bEa) (bY (sc:=aI kO) (NX:=aga) rfl rfl rfl (by decide +kernel)) rfl (cP (by rfl) tx.eE (aA (aB 3) aD)) (λ_ _ _ _=>(aJ (i:=0) (show(bEa:ah).Nodup by decide +kernel))) (cJ (by decide)) (λ_ _ _ _=>bE) (λ_ _ _ _=>(bh aHm hr tx.lj (aA (aB 2) (aA (aB 1) (aA (aB 3) aD)))))))) ?_;have bp:b≠p:=hh.BC hb (by simp);refine aT (σ:=[some (.ref p),some (.ref b),some (.int L),some (.int (n:Int))]) rfl ?_;walk_at "w";refine⟨by lia,by lia,?_⟩;rw[yd];refine iS (λi us H'=>bB H' p/\cI p H H'/\∃ps:ae,us=ps.map V.int/\ps.length=i/\∀r∈ps,0<=r/\r<=L) ⟨hh,λ_ _ e _=>e,[],rfl,rfl,λr h=>by cases h⟩ (bV (by lia)) (λi us H' hi ⟨_,_,ps,e1,e2,_⟩=>by rw[e1,bH];lia) (λi us H' hi RU=>?_) (λus H' RT=>?_)
 ·obtain⟨h1,k1,ps,e1,e2,e3⟩:=RU;walk_at "w";refine⟨p,b,x,y,L,rfl,h1,k1 _ _ hb bp,y0,y1,hL,λr H2 r0 r1 h2 k2 _=>?_⟩;refine⟨h2,k1.trans k2,ps ++ [r],by rw[e1,gR];rfl,by rw[iR,e2];rfl,λz hz=>?_⟩;rcases oa.mp hz with h|h
  ·exact e3 z h
  ·rw[ng.mp h];exact⟨r0,r1⟩
 ·obtain⟨h1,k1,ps,e1,e2,e3⟩:=RT;subst e1;intro q nq;obtain⟨H2,i2,s2,g2⟩:=nw _ nq;rw[i2];walk_at "w";exact k q ps H2 g2 e2 e3 (h1.same s2) (k1.trans s2.keep)
inductive aBC  (K:W.Frag) (vs:List V) (H:Hp) (Q:VK) (E:XK):Prop
 |mk:∀(p:Addr) (n:Int),(vs=[.ref p,.int n])->bB H p->(0<=n)->(n<=20)->(∀(T s a u q:Addr) (W:WS) (P:Ps) (ws qs:ae) (H':Hp),H' T=some (.tup [.ref s,.ref a,.ref u,.ref q])->kX H' s W->W.Good->fG H' a P->uM W P->H' u=some (.lst (ws.map V.int))->H' q=some (.lst (qs.map V.int))->ws.length=qs.length->(∀n∈qs,0<=n/\n<=W.cw)->(∀n∈ws,0<=n)->qs.length<=48->bB H' p->cI p H H'->Q (.ref T) H')->aBC K vs H Q E
theorem aHn(tx:Txt K mg a):bQ P w K mg base eR 5 a.aCL a.aCM aqa (aBC K):=by
 have aS:=cS (P:=P) (w:=w) (base:=base) tx;have aDs:=aB9 (P:=P) (w:=w) (base:=base) tx;have aFE:=aEQ (P:=P) (w:=w) (base:=base) tx;have aIL:=aHl (P:=P) (w:=w) (base:=base) tx;have aBD:=aAo (P:=P) (w:=w) (base:=base) tx;refine tx.pj.F.ok jL (by walk_at "l") λbq A outer s H vs Q E hr h=>?_;obtain⟨p,n,rfl ,hh,n0,n1,k⟩:=h;have hu:=fV hr;refine aY (aE (m9 (i:=2) jL.nd rfl (Or.inr rfl) (bh aBD hr tx.fe (aA (aB 0) (aA aC aD))))
  (aE (aK (i:=3) jL.nd (aH (K':=K) (rY (bh aS hr tx.af (aA (aB 0) (aA (aL bL (aB 1) aC) aD))) aC) (aL Qd (bh aS hr tx.af (aA (aB 0) (aA aC aD))) aC)))
  (aE (bC (aV (r:=iJ K) (cZ hu) (aH (K':=K) (aB 2) aC) aC (bD _)) (aG (aK (i:=3) jL.nd (aN (jY rfl) (by rfl) tx.wJ rV (aA (aB 3) (aA aC aD))))) aZ)
  (aE (c8 (k:=1) (idx:=[0,2]) (N:=bJa) (i:=4) jL.nd rfl (Or.inl rfl) (bY (sc:=aI pA) (NX:=bsa) rfl rfl rfl (by decide +kernel)) rfl (cP (by rfl) tx.eE (aA (aB 3) aD)) (λ_ _ _ _=>(aJ (i:=0) (show(bJa:ah).Nodup by decide +kernel))) (cJ (by decide)) (λ_ _ _ _=>bE) (λ_ _ _ _=>(bh aIL hr tx.pb (aA (aB 1) (aA (aH (K':=K) (aB 2) aC) aD)))))
  (aG (aM (ZP (aB 2) (bh aDs hr tx.ib (aA (aB 0) (aA (aB 2) aD))) (aB 4) (bh aFE hr tx.jk (aA (aB 0) (aA (aH (K':=K) (aB 2) aC) (aA (aH (K':=K) (aB 2) aC) (aA (aB 3) aD)))))))))))) ?_
 refine aT (σ:=[some (.ref p),some (.int n),none,none,none]) rfl ?_;walk_at "w";refine⟨p,3,rfl,hh,by decide,by decide,λs W H1 hW hg h1 k1 ns=>?_⟩;walk_at "w";refine⟨p,_,rfl,h1,by lia,by lia,λr2 H2 a2 b2 h2 k2 _=>?_⟩;walk_at "w";intro l3 Kf;obtain⟨H3,i3,s3,g3⟩:=nw _ Kf;rw[i3];have l3p:l3≠p:=h2.DW Kf;have h3:=h2.same s3;walk_at "w";refine⟨p,_,rfl,h3,by decide,by decide,λr4 H4 a4 b4 h4 k4 _=>?_⟩;have g4:=k4 _ _ g3 l3p;obtain⟨nh,hnh,Ek⟩ : ∃m:Nat,lT [V.int r2,.int 48] (r4 / 7)=some (.int (m:Int))/\m<=48:=by
  obtain⟨m,rfl⟩:=Rh a2;have:r4 / 7=0\/r4 / 7=1:=by lia
  rcases this with e|e <;> rw[e]
  ·exact⟨m,rfl,by lia⟩
  ·exact⟨48,rfl,by lia⟩
 have T4:Tr H1 H4:=(h1.tr k2).trans (s3.tr.trans (h3.tr k4));have K4:cI p H H4:=k1.trans (k2.trans (s3.keep.trans k4));have hW4:=hW.tr T4;repeat walk_at "st"
 refine fH (λσ' H'=>aR H4 H'/\∃nh:Nat,nh<=48/\σ'=[some (.ref p),some (.int n),some (.ref s),some (.int (nh:Int)),none]) (λN hN=>?_) (λσ' H5 ⟨s5,nh,Ek,e⟩=>?_)
 ·obtain⟨ls,st,bb,es,fb,df,A7⟩:=hW4.ex;obtain⟨ms,WX,AW⟩:=fb.ex;walk_at "w";refine cB (λwe=>?_) (λwe=>?_)
  ·walk_at "w";refine hN _ _ ⟨aR.refl _,(min (nh:Int) 5).toNat,by lia,?_⟩;rw[Int.toNat_of_nonneg (by lia)]
  ·walk_at "w";exact hN _ _ ⟨aR.refl _,nh,Ek,rfl⟩
 subst e;have T5:Tr H1 H5:=T4.trans s5.tr;have h5:=h4.same s5;have K5:cI p H H5:=K4.trans s5.keep;have DM:=hW.tr T5;obtain⟨ls,st,bb,es,fb,df,A7⟩:=DM.ex;have sp:s≠p:=h5.BC es (by simp);have bbp:bb≠p:=h5.BC A7 (by simp);walk_at "w";refine⟨by lia,by lia,?_⟩;rw[yd];refine iS (λi us H'=>bB H' p/\cI p H5 H'/\∃ws:ae,us=ws.map V.int/\ws.length=i/\∀n∈ws,0<=n) ⟨h5,λ_ _ e _=>e,[],rfl,rfl,λn h=>by cases h⟩ (bV (by lia)) (λi us H' hi ⟨_,_,ps,e1,e2,_⟩=>by rw[e1,bH];lia) (λi us H' hi RS=>?_) (λus H' RQ=>?_)
 ·obtain⟨h6,k6,ws,e1,e2,e3⟩:=RS;have es6:=k6 _ _ es sp;walk_at "w";refine⟨p,bb,W.x,W.y,rfl,h6,k6 _ _ A7 bbp,hg.x.1,λw H7 w0 h7 k7 _=>?_⟩;refine⟨h7,k6.trans k7,ws ++ [w],by rw[e1,gR];rfl,by rw[iR,e2];rfl,λn hn=>?_⟩;rcases oa.mp hn with z|z
  ·exact e3 n z
  ·rw[ng.mp z];exact w0
 obtain⟨h6,k6,ws,e1,e2,e3⟩:=RQ;subst e1;intro u nu;obtain⟨H7,i7,s7,g7⟩:=nw _ nu;rw[i7];have h7:=h6.same s7;have T7:Tr H1 H7:=T5.trans ((h5.tr k6).trans s7.tr);have K7:cI p H H7:=K5.trans (k6.trans s7.keep);have WG:=hW.tr T7;walk_at "w";refine⟨p,s,W,rfl,h7,WG,hg,λa P H8 hP hPo hPs h8 k8=>?_⟩;have T8:Tr H7 H8:=h7.tr k8;have WE:=WG.tr T8;obtain⟨ls8,st8,bb8,es8,a0r,a0q,UU⟩:=WE.ex;walk_at "w";refine⟨p,bb8,W.x,W.y,W.cw,nh,rfl,h8,UU,hg.y.1,hg.y.2,hg.cw,Ek,λq qs H9 gq lq hq h9 k9=>?_⟩;have T9:Tr H8 H9:=h8.tr k9;walk_at "w";intro T nT;obtain⟨Av,i10,Ce,g10⟩:=nw _ nT;rw[i10];have Ic:Tr H8 Av:=T9.trans Ce.tr;walk_at "w";exact k T s a u q W P ws qs Av g10 (WE.tr Ic) hg (hP.tk Ic.tk) ⟨hPo,hPs⟩ ((T8.trans Ic) _ _ g7 Zp) (Ce _ _ gq) (by lia) hq e3 (by lia) (h9.same Ce) (K7.trans (k8.trans (k9.trans Ce.keep)))
def xg(W:WS)(l want:Int)(h:Hr):Int:=List.sum h.outs - want - Bb W.store l h.b8
def lo1(W:WS)(l want:Int)(h:Hr):ao:=(max (xg W l want h) 0,max (-(xg W l want h)) 0)
def uc(W:WS):Ps->ae->List Hr->ak
 |P,w::ws,h::hs=>lo1 W P.2 w h::uc W (pN W P h) ws hs
 |_,_,_=>[]
theorem ZK(W:WS):∀{P:Ps}{ws:ae}{hs:List Hr}{i:Nat}{w:Int}{h:Hr},ws[i]?=some w->hs[i]?=some h->(uc W P ws hs)[i]?=some (lo1 W (wQ W P (hs.take i)).2 w h)
 |P,w::ws,h::hs,0,_,_,e1,e2=>by cases e1;cases e2;rfl
 |P,w::ws,h::hs,i+1,_,_,e1,e2=>by
  show(uc W (pN W P h) ws hs)[i]?=_;exact ZK W (P:=pN W P h) e1 e2
 |_,[],_,_,_,_,e,_=>by simp at e
 |_,_::_,[],_,_,_,_,e=>by simp at e
theorem HI(W:WS):∀{P:Ps}{ws:ae}{hs:List Hr},ws.length=hs.length->(uc W P ws hs).length=hs.length
 |_,[],[],_=>rfl
 |P,w::ws,h::hs,e=>by
  show(lo1 W P.2 w h::uc W (pN W P h) ws hs).length=_;rw[mv,HI W (by simpa using e),mv]
 |_,[],_::_,e=>by cases e
 |_,_::_,[],e=>by cases e
theorem Qn(W:WS):∀{P:Ps}{hs:List Hr}{i:Nat},i<=hs.length->(Ao W P hs)[i]?=some (wQ W P (hs.take i))
 |P,[],0,_=>rfl
 |P,[],i+1,h=>by simp at h
 |P,g::hs,0,_=>rfl
 |P,g::hs,i+1,h=>by
  show(Ao W (pN W P g) hs)[i]?=_;exact Qn W (P:=pN W P g) (by simpa using h)
structure Lx(H:Hp)(a:Addr)(ps:ak):Prop where
 ex:∃qs,H a=some (.lst (qs.map V.ref))/\RL (BJ H) qs ps
theorem Lx.tr{H H':Hp}{a:Addr}{ps:ak}(h:Lx H a ps)(s:Tr H H'):Lx H' a ps:=by
 obtain⟨qs,h1,h2⟩:=h.ex;exact⟨qs,s _ _ h1 sY,h2.imp λa x z=>s.tk _ _ z⟩
inductive aDc  (K:W.Frag) (CW CM CS:Addr) (vs:List V) (H:Hp) (Q:VK) (E:XK):Prop
 |mk:∀(w:Addr) (W:WS) (l n:Int),(vs=[.ref w,.int l,.int n])->dQ CW CM CS H w W->W.Good->(Q (.int (Bb W.store l n)) H)->aDc K CW CM CS vs H Q E
theorem aIM(tx:Txt K mg a):bQ P w K mg base eR 2 a.aEr a.aEs bca (aDc K a.cN a.aW a.bS):=by
 have oP:=w5 (P:=P) (w:=w) (base:=base) tx;refine tx.rq.F.ok aIs (by walk_at "l") λbq A outer s H vs Q E hr h=>?_;obtain⟨w,W,l,n,rfl ,hW,hg,k⟩:=h;have hu:=fV hr;refine aY (aG (aM (oX (aV qA (a8 (K':=K) (aB 0) rfl) cU (bD _)) aC (bh oP hr tx.gv (aA (a8 (K':=K) (aB 0) rfl) (aA (aB 1) (aA (aB 2) aD))))))) ?_;obtain⟨dx,lm,st,hw,hM,df⟩:=hW.ex;refine aT (σ:=[some (.ref w),some (.int l),some (.int n)]) rfl ?_;walk_at "w";refine cE hw tx.dP tx.dZ rfl ?_;cases e:W.store with
 |none=>
  rw[e] at df k
  replace df:st=.bw:=df
  subst df;walk_at "w";exact k
 |some s=>
  rw[e] at df k;obtain⟨c,rfl,hc⟩:=df;walk_at "w";refine cE hw tx.dP tx.dZ rfl ?_;walk_at "w";exact⟨c,s,l,n,rfl,hc,hg.store s e,k⟩
inductive uG  (K:W.Frag) (CW CM CS:Addr) (vs:List V) (H:Hp) (Q:VK) (E:XK):Prop
 |mk:∀(w y:Addr) (W:WS) (l want:Int) (h:Hr),(vs=[.ref w,.int l,.int want,.ref y])->dQ CW CM CS H w W->W.Good->Ap H y h->(∀T H',aR H H'->BJ H' T (lo1 W l want h)->Q (.ref T) H')->uG K CW CM CS vs H Q E
theorem uH(tx:Txt K mg a):bQ P w K mg base eR 3 a.wC a.wD a8a (uG K a.cN a.aW a.bS):=by
 have aJV:=aIM (P:=P) (w:=w) (base:=base) tx;refine tx.dn.F.ok tL (by walk_at "l") λbq A outer s H vs Q E hr h=>?_;obtain⟨w,y,W,l,want,h,rfl ,hW,hg,hh,k⟩:=h;have hu:=fV hr;refine aY (aE (aK (i:=4) tL.nd (aL dS (aL dS (aN (rc:=Hm K) (QN rfl) (by rfl) tx.mN jD (aA (aH (K':=K) (aB 3) aC) aD)) (aB 2)) (bh aJV hr tx.rq (aA (aB 0) (aA (aB 1) (aA (aH (K':=K) (aB 3) aC) aD))))))
  (aG (aM (eI (aN (fN rfl) (by rfl) tx.mM jC (aA (aB 4) (aA aC aD))) (aN (fN rfl) (by rfl) tx.mM jC (aA (lF uT (aB 4)) (aA aC aD))))))) ?_
 obtain⟨t,u,g1,g2,g3⟩:=hh.ex;refine aT (σ:=[some (.ref w),some (.int l),some (.int want),some (.ref y),none]) rfl ?_;walk_at "w";refine Qf (gZ.of g3) ?_;walk_at "w";refine⟨w,W,l,h.b8,rfl,hW,hg,?_⟩;walk_at "w";intro T nT;obtain⟨H1,i1,s1,e1⟩:=nw _ nT;rw[i1];exact k T H1 s1 e1
inductive aBF  (K:W.Frag) (CW CM CS:Addr) (vs:List V) (H:Hp) (Q:VK) (E:XK):Prop
 |mk:∀(w p lw l:Addr) (W:WS) (P:Ps) (ws:ae) (hs:List Hr),(vs=[.ref w,.ref p,.ref lw,.ref l])->dQ CW CM CS H w W->W.Good->fG H p P->jQ W P->(H lw=some (.lst (ws.map V.int)))->kI H l hs->cC W P hs->(ws.length=hs.length)->(hs.length<=1000)->(∀r H',aR H H'->H r=none->Lx H' r (uc W P ws hs)->Q (.ref r) H')->aBF K CW CM CS vs H Q E
theorem aHo(tx:Txt K mg a):bQ P w K mg base eR 5 a.aCN a.aCO ba (aBF K a.cN a.aW a.bS):=by
 have oR:=uH (P:=P) (w:=w) (base:=base) tx;have oS:=uB (P:=P) (w:=w) (base:=base) tx;refine tx.ot.F.ok aAI (by walk_at "l") λbq A outer s H vs Q E hr h=>?_;obtain⟨w,p,lw,l,W,P,ws,hs,rfl ,hW,hg,hP,bf,hw,hL,qg,hlen,hz,k⟩:=h;have hu:=fV hr;refine aY (aE (aK (i:=4) aAI.nd (bh oS hr tx.dj (aA (aB 0) (aA (aB 1) (aA (aB 3) aD)))))
  (aG (aM (bR (k:=3) (idx:=[0]) (N:=aha) (bY (sc:=aI pB) (NX:=ata) rfl rfl rfl (by decide +kernel)) rfl (kB (k1:=true) (k2:=true) (k3:=true) (by rfl) tx.jU (aA (aB 4) (aA (aB 2) (aA (aB 3) aD)))) (λ_ _ _ _=>(bK (K':=K) (n:=3) rfl (aO (aJ (i:=0) (show(aha:ah).Nodup by decide +kernel)) (aO (aJ (i:=1) (show(aha:ah).Nodup by decide +kernel)) (aO (aJ (i:=2) (show(aha:ah).Nodup by decide +kernel)) bJ))))) (fY (bF (by decide) (bF (by decide) (bF (by decide) eQ)))) (λ_ _ _ _=>bE) (λ_ _ _ _=>(bh oR hr tx.dn (aA (aB 3) (aA (aH (K':=K) (aB 0) aC) (aA (aB 1) (aA (aB 2) aD)))))))))) ?_
 refine aT (σ:=[some (.ref w),some (.ref p),some (.ref lw),some (.ref l),none]) rfl ?_;walk_at "w";refine⟨w,p,l,W,P,hs,rfl,hW,hg,hP,bf,hL,qg,hz,λr H1 s1 hr=>?_⟩;obtain⟨qp,gp,rp⟩:=hr.ex;obtain⟨ql,gl,rl⟩:=(hL.tr s1.tr).ex;have M9:=rp.len;rw[aIA] at M9;have ym:=rl.len;have we:=s1 _ _ hw;walk_at "w";refine FX (Src.lst gp) (Src.lst we) (Src.lst gl) ?_;refine qV (n:=hs.length) (by rw[bH];lia) (by rw[bH];lia) (by rw[bH];lia) (.inr (.inl (by rw[bH];lia))) (bV (by lia))
  (λi us H'=>aR H1 H'/\∃rs,us=rs.map V.ref/\rs.length=i/\RL (BJ H') rs ((uc W P ws hs).take i)) ⟨aR.refl _,[],rfl,rfl,RL.nil⟩
  (λi us H' hi ⟨s2,rs,e1,e2,e3⟩=>⟨⟨Src.lst (s2 _ _ gp),Src.lst (s2 _ _ we),Src.lst (s2 _ _ gl)⟩,by rw[e1,bH];lia⟩)
  (λi x y z us H' T hx hy hz RP nT=>?_) (λus H' RO=>?_)
 ·obtain⟨s2,rs,e1,e2,e3⟩:=RP;obtain⟨q,Pq,_,rfl,GP,hq⟩:=rp.get hx;obtain⟨wv,Np,rfl⟩:=dB hy;obtain⟨qh,h,_,rfl,E7,NA⟩:=rl.get hz;have hi:i < hs.length:=(iZ.mp E7).1;rw[Qn W (by lia)] at GP;cases GP;have sT:=aR.new (o:=.tup [.ref q,.int wv,.ref qh]) nT;have s3:=s2.trans sT;obtain⟨tq,gq,_⟩:=(hq.tk s3.tk).ex;refine cM (gZ.of aP) rfl ?_;walk_at "w";refine⟨w,qh,W,_,wv,h,rfl,(hW.tr (s1.trans s3).tr),hg,NA.tk s3.tk,λT2 H2 s4 um=>?_⟩;refine⟨s3.trans s4,rs ++ [T2],by rw[e1,gR];rfl,by rw[iR,e2];rfl,?_⟩;rw[take_snoc (ZK W Np E7)];exact(pS e3 (sT.trans s4).tk).snoc um
 ·obtain⟨s2,rs,e1,e2,e3⟩:=RO;subst e1;intro r nr;obtain⟨H3,i3,s3,g3⟩:=nw _ nr;rw[i3];rw[za (by rw[HI W hlen];exact eO _)] at e3;exact k r H3 (s1.trans (s2.trans s3)) ((s1.trans s2).free nr) ⟨rs,g3,pS e3 s3.tk⟩
def sumTo(f:Nat->Int):Nat->Int
 |0=>0
 |n+1=>sumTo f n+f n
theorem L7(ns:ae)(x:Int):List.sum (ns ++ [x])=List.sum ns+x:=by
 rw[HV,xy,List.sum_nil];lia
def tB(ms:List MS)(ss:ak)(os:ae)(j:Nat):Int:=match ms[j]?,ss[j]?,os[j]? with
 |some m,some s,some o=>if o=1/\s.1=0 then m.begin_ else 0
 |_,_,_=>0
def tR(ms:List MS)(os:ae)(j:Nat):Int:=match ms[j]?,os[j]? with
 |some m,some o=>if o=1 then m.run else 0
 |_,_=>0
def tS(ms:List MS)(os:ae)(j:Nat):Int:=match ms[j]?,os[j]? with
 |some m,some o=>if o=0 then m.rest else 0
 |_,_=>0
def tM(ms:List MS)(os us:ae)(j:Nat):Int:=match ms[j]?,os[j]?,us[j]? with
 |some m,some o,some u=>if o=1 then cst m.pieces (u - m.least) else 0
 |_,_,_=>0
theorem aSn{ms:List MS}{ss:ak}{os:ae}{j:Nat}{m:MS}{s:ao}{o:Int}(h1:ms[j]?=some m)(h2:ss[j]?=some s)(h3:os[j]?=some o):tB ms ss os j=if o=1/\s.1=0 then m.begin_ else 0:=by
 unfold tB;rw[h1,h2,h3]
theorem aSo{ms:List MS}{os:ae}{j:Nat}{m:MS}{o:Int}(h1:ms[j]?=some m)(h3:os[j]?=some o):tR ms os j=if o=1 then m.run else 0:=by
 unfold tR;rw[h1,h3]
theorem aSp{ms:List MS}{os:ae}{j:Nat}{m:MS}{o:Int}(h1:ms[j]?=some m)(h3:os[j]?=some o):tS ms os j=if o=0 then m.rest else 0:=by
 unfold tS;rw[h1,h3]
theorem aSq{ms:List MS}{os us:ae}{j:Nat}{m:MS}{o u:Int}(h1:ms[j]?=some m)(h2:os[j]?=some o)(h3:us[j]?=some u):tM ms os us j=if o=1 then cst m.pieces (u - m.least) else 0:=by
 unfold tM;rw[h1,h2,h3]
def Fx(W:WS)(P:Ps)(w:Int)(h:Hr):ae:=[sumTo (tB W.specs P.1 h.ons) W.specs.length,sumTo (tR W.specs h.ons) W.specs.length,sumTo (tS W.specs h.ons) W.specs.length,sumTo (tM W.specs h.ons h.outs) W.specs.length,W.cw*max (-(xg W P.2 w h)) 0]
def rws(W:WS):Ps->ae->List Hr->cn
 |P,w::ws,h::hs=>Fx W P w h::rws W (pN W P h) ws hs
 |_,_,_=>[]
theorem ZJ(W:WS):∀{P:Ps}{ws:ae}{hs:List Hr}{i:Nat}{w:Int}{h:Hr},ws[i]?=some w->hs[i]?=some h->(rws W P ws hs)[i]?=some (Fx W (wQ W P (hs.take i)) w h)
 |P,w::ws,h::hs,0,_,_,e1,e2=>by cases e1;cases e2;rfl
 |P,w::ws,h::hs,i+1,_,_,e1,e2=>by
  show(rws W (pN W P h) ws hs)[i]?=_;exact ZJ W (P:=pN W P h) e1 e2
 |_,[],_,_,_,_,e,_=>by simp at e
 |_,_::_,[],_,_,_,_,e=>by simp at e
theorem P8(W:WS):∀{P:Ps}{ws:ae}{hs:List Hr},ws.length=hs.length->(rws W P ws hs).length=hs.length
 |_,[],[],_=>rfl
 |P,w::ws,h::hs,e=>by
  show(Fx W P w h::rws W (pN W P h) ws hs).length=_;rw[mv,P8 W (by simpa using e),mv]
 |_,[],_::_,e=>by cases e
 |_,_::_,[],e=>by cases e
def Ea(H:Hp)(q:Addr)(r:ae):Prop:=H q=some (.tup (r.map V.int))
structure LF(H:Hp)(a:Addr)(rs:cn):Prop where
 ex:∃qs,H a=some (.lst (qs.map V.ref))/\RL (Ea H) qs rs
theorem LF.tr{H H':Hp}{a:Addr}{rs:cn}(h:LF H a rs)(s:Tr H H'):LF H' a rs:=by
 obtain⟨qs,h1,h2⟩:=h.ex;exact⟨qs,s _ _ h1 sY,h2.imp λa x z=>s.tk _ _ z⟩
theorem ZI{H:Hp}{qs:ay}{rs:cn}(h:RL (Ea H) qs rs){H':Hp}(s:Tk H H'):RL (Ea H') qs rs:=h.imp λa x z=>s _ _ z
theorem aLA{K:W.Frag}{H:Hp}{r:Addr}{qs:ay}{rows:cn}{σ₀:St}{g:TG}{tt:TT}{te:TE}{R:List V->Hp->Prop}(h1:H r=some (.lst (qs.map V.ref)))(h2:RL (Ea H) qs rows)(hz:rows.length<=1000)
  (hs:∀q x (N:V->Hp->Prop) (N':Hp->Prop),Ea H q x->N (.int (List.sum x)) H->g (.ref q) σ₀ H λσ2 H2=>tt σ2 H2 λb H3=>if b=true then te σ2 H3 λy H4=>N y H4 else N' H3)
  (hd:R ((rows.map List.sum).map V.int) H):lU (yh K r) σ₀ g tt te R H:=by
 have Nz:qs.length<=1000:=by rw[h2.len];exact hz
 refine dF (xs:=qs.map V.ref) (λi ys H'=>H'=H/\ys=((rows.take i).map List.sum).map V.int) ⟨rfl,by simp⟩ (bV (by rw[bH];lia)) (λi ys H' hi RN=>?_) (λi x ys H' hx RM=>?_) (λys H' RK=>?_)
 ·obtain⟨e1,e2⟩:=RN;subst e1 e2;refine⟨bP.of h1,?_⟩;rw[bH,bH,og];lia
 ·obtain⟨e1,e2⟩:=RM;subst e1 e2;obtain⟨q,y,_,rfl,ey,hq⟩:=h2.get hx;refine hs q y (λy H4=>H4=H'/\((rows.take i).map List.sum).map V.int ++ [y]=((rows.take (i+1)).map List.sum).map V.int) (λH3=>H3=H'/\((rows.take i).map List.sum).map V.int=((rows.take (i+1)).map List.sum).map V.int) hq ⟨rfl,?_⟩;rw[take_snoc ey,gR,gR];rfl
 ·obtain⟨e1,e2⟩:=RK;subst e1 e2;rw[bH,h2.len,mq];exact hd
inductive uI  (K:W.Frag) (C:Addr) (vs:List V) (H:Hp) (Q:VK) (E:XK):Prop
 |mk:∀(x:Addr) (m:MS),(vs=[.ref x])->cX C H x m->m.Good->(∀H',aR H H'->Q (.int (m.least+xl m.pieces)) H')->uI K C vs H Q E
theorem aDt(tx:Txt K mg a):bQ P w K mg base eR 1 a.oF a.wG bVa (uI K a.aW):=by
 refine tx.iy.F.ok aDk (by walk_at "l") λbq A outer s H vs Q E hr h=>?_;obtain⟨x,m,rfl ,hm,hg,k⟩:=h;have hu:=fV hr;refine aY (aG (aM (aL bL (a8 (K':=K) (aB 0) rfl) (aN (rc:=yt K) (fP rfl) (by rfl) tx.mN jD (aA (bR (k:=1) (idx:=[]) (N:=["piece"]) (bY (sc:=aI jI) (NX:=bVa) rfl rfl rfl (by decide +kernel)) rfl (bI (K':=K) (a8 (K':=K) (aB 0) rfl)) (λ_ _ _ _=>(aJ (i:=0) (show(["piece"]:ah).Nodup by decide +kernel))) (cJ (by decide)) (λ_ _ _ _=>bE) (λ_ _ _ _=>(aH (K':=K) (aB 0) aC))) aD))))) ?_;obtain⟨dx,pl,hx,hp⟩:=hm.ex;obtain⟨qs,h1,h2⟩:=hp.ex;refine aT (σ:=[some (.ref x)]) rfl ?_;walk_at "w";refine cE hx tx.bO tx.eG rfl ?_;walk_at "w";refine cE hx tx.bO tx.eN rfl ?_;refine fO (bP.of h1) ?_;refine L6 (λt=>some t.1) h1 h2 hg.pieces.len (λq t N N' hm hq hN GR=>?_) ?_
 ·walk_at "w";exact hN _ rfl
 intro l1 n1;obtain⟨H1,i1,s1,e1⟩:=nw _ n1;rw[i1];walk_at "w";refine nG (bP.of e1) ?_;rw[PY];walk_at "w";exact k H1 s1
inductive oU  (K:W.Frag) (C:Addr) (vs:List V) (H:Hp) (Q:VK) (E:XK):Prop
 |mk:∀(x:Addr) (m:MS) (out:Int),(vs=[.ref x,.int out])->cX C H x m->m.Good->(m.least<=out)->(out<=m.least+xl m.pieces)->(∀H',aR H H'->Q (.int (cst m.pieces (out - m.least))) H')->oU K C vs H Q E
theorem oV(tx:Txt K mg a):bQ P w K mg base eR 2 a.jN a.pK bHa (oU K a.aW):=by
 have aES:=aDt (P:=P) (w:=w) (base:=base) tx;refine tx.cx.F.ok cW (by walk_at "l") λbq A outer s H vs Q E hr h=>?_;obtain⟨x,m,out,rfl ,hm,hg,o0,o1,k⟩:=h;have hu:=fV hr;refine aY (aE (bC (eY (uZ (aV Hu (aB 1) (a8 (K':=K) (aB 0) rfl) (bD _)) (qT (aV CN (aB 1) (aH3 (aB 0) tx.bO tx.sg (aES) (hr.mono (by decide)) tx.iy.b .nil aU) (bD _))))) (aG (aM cU)) aZ)
  (aE (aK (i:=2) cW.nd (aL dS (aB 1) (a8 (K':=K) (aB 0) rfl)))
  (aE (aK (i:=3) cW.nd aC)
  (aE (bZ PassesOwn.never rfl (bI (K':=K) (a8 (K':=K) (aB 0) rfl)) (bK (K':=K) (n:=2) rfl (aO (aJ (i:=4) cW.nd) (aO (aJ (i:=5) cW.nd) bJ))) (aE (aK (i:=6) cW.nd (aN (jY rfl) (by rfl) tx.wJ rV (aA (aB 4) (aA (aB 2) aD))))
  (aE (nB (i:=3) cW.nd rfl (Or.inl rfl) (aL bX (aB 6) (aB 5)) FU)
  (aG (nB (i:=2) cW.nd rfl (Or.inl rfl) (aB 6) aP8)))))
  (aG (aM (aB 3))))))) ?_
 obtain⟨dx,pl,hx,hp⟩:=hm.ex;obtain⟨qs,h1,h2⟩:=hp.ex;refine aT (σ:=[some (.ref x),some (.int out),none,none,none,none,none]) rfl ?_;walk_at "w";refine cE hx tx.bO tx.eG rfl ?_;walk_at "w";refine cB (λh=>absurd h (by lia)) (λ_=>?_);walk_at "w";refine⟨x,dx,_,rfl,hx,rfl,?_⟩;walk_at "w";refine⟨x,m,rfl,hm,hg,λH1 s1=>?_⟩;walk_at "w";refine cB (λh=>absurd h (by lia)) (λ_=>?_);have E2:=s1 _ _ hx;walk_at "w";refine cE E2 tx.bO tx.eG rfl ?_;walk_at "w";refine cE E2 tx.bO tx.eN rfl ?_;have g1:=s1 _ _ h1;refine fO (bP.of g1) ?_;refine xE (xs:=qs.map V.ref) (λi σ' H'=>H'=H1/\∃c left x4 x5 x6,σ'=[some (.ref x),some (.int out),some (.int left),some (.int c),x4,x5,x6]/\0<=left/\c+cst (m.pieces.drop i) left=cst m.pieces (out - m.least)) ⟨rfl,0,_,_,_,_,rfl,by lia,by rw[yy,wk]⟩ (λi σ' H' hi ⟨e1,c,left,x4,x5,x6,e,el,ec⟩=>by subst e1;exact bP.of g1) (λi v σ' H' hv RJ=>?_) (λσ' H' RI=>?_)
 ·obtain⟨e1,c,left,x4,x5,x6,e,el,ec⟩:=RJ;subst e1 e;rw[nE] at hv;cases hq:qs[i]? with
  |none=>rw[hq] at hv;cases hv
  |some q=>
   rw[hq] at hv;cases hv;have li:i < m.pieces.length:=by rw[<-h2.len];exact(iZ.mp hq).1
   have ht:m.pieces[i]?=some m.pieces[i]:=dM li;have e:=s1 _ _ (h2.at_ i q _ hq ht);have ed:m.pieces.drop i=m.pieces[i] :: m.pieces.drop (i+1):=zb li;obtain⟨z1,⟨z2,z3⟩,z4,z5⟩:=hg.pieces.pc _ (uu li);generalize m.pieces[i]=t at ht e z1 z2 z3 z4 z5 ed;refine cM (gZ.of e) rfl ?_;walk_at "w";refine FQ rfl ?_;walk_at "w";refine FQ rfl ?_;walk_at "w";rw[ed] at ec;have Fo:c+(max 0 (min left t.1)*t.2+cst (m.pieces.drop (i+1)) (left - max 0 (min left t.1)))=cst m.pieces (out - m.least):=ec;rw[show max 0 (min left t.1)=min t.1 left by lia] at Fo;exact⟨rfl,_,_,_,_,_,rfl,by lia,by lia⟩
 ·obtain⟨e1,c,left,x4,x5,x6,e,el,ec⟩:=RI;subst e1 e;walk_at "w";rw[bH,h2.len,HY] at ec;have Fo:c+0=cst m.pieces (out - m.least):=ec;have k':=k H' s1;rw[<-Fo,zu] at k';exact k'
inductive xA  (K:W.Frag) (CW CM CS:Addr) (vs:List V) (H:Hp) (Q:VK) (E:XK):Prop
 |mk:∀(w t ou:Addr) (W:WS) (ss:ak) (os:ae),(vs=[.ref w,.ref t,.ref ou])->dQ CW CM CS H w W->FH H t ss->(H ou=some (.tup (os.map V.int)))->(ss.length=W.specs.length)->(os.length=W.specs.length)->(W.specs.length<=6)->(∀H',aR H H'->Q (.int (sumTo (tB W.specs ss os) W.specs.length)) H')->xA K CW CM CS vs H Q E
theorem aET(tx:Txt K mg a):bQ P w K mg base eR 1 a.yV a.yW aVa (xA K a.cN a.aW a.bS):=by
 refine tx.ji.F.ok aD9 (by walk_at "l") λbq A outer s H vs Q E hr h=>?_;obtain⟨w,t,ou,W,ss,os,rfl ,hW,hS,go,l1,l2,hz,k⟩:=h;have hu:=fV hr;refine aY (aG (aM (aN (rc:=yt K) (fP rfl) (by rfl) tx.mN jD (aA (bR (k:=3) (idx:=[]) (N:=gz) (bY (sc:=aI kP) (NX:=aVa) rfl rfl rfl (by decide +kernel)) rfl (kB (k1:=true) (k2:=false) (k3:=false) (by rfl) tx.jU (aA (a8 (K':=K) (aB 0) rfl) (aA (aB 1) (aA (aB 2) aD)))) (λ_ _ _ _=>(bK (K':=K) (n:=3) rfl (aO (aJ (i:=0) (show(gz:ah).Nodup by decide +kernel)) (aO (aJ (i:=1) (show(gz:ah).Nodup by decide +kernel)) (aO (aJ (i:=2) (show(gz:ah).Nodup by decide +kernel)) bJ))))) (fY (bF (by decide) (bF (by decide) (bF (by decide) eQ)))) (λ_ _ _ _=>(hU (eY (iC (aV (r:=iJ K) (cZ hu) (aB 2) aC (bD _)) (fZ (aV (r:=iJ K) (cZ hu) (aH (K':=K) (aB 1) aC) aC (bD _))))))) (λ_ _ _ _=>(a8 (K':=K) (aB 0) rfl))) aD)))) ?_;obtain⟨dx,lm,st,hw,hM,df⟩:=hW.ex;obtain⟨qm,gm,rm⟩:=hM.ex;obtain⟨qs,gt,rt⟩:=hS.ex
 have EW:=rm.len;have EV:=rt.len;refine aT (σ:=[some (.ref w),some (.ref t),some (.ref ou)]) rfl ?_;walk_at "w";refine cE hw tx.dP tx.cQ rfl ?_;walk_at "w";refine FX (Src.lst gm) (Src.tup gt) (Src.tup go) ?_;refine qV (n:=W.specs.length) (by rw[bH];lia) (by rw[bH];lia) (by rw[bH];lia) (.inl (by rw[bH];lia)) (bV (by lia))
  (λi us H'=>aR H H'/\∃ns:ae,us=ns.map V.int/\ns.length<=i/\List.sum ns=sumTo (tB W.specs ss os) i) ⟨aR.refl _,[],rfl,eO _,rfl⟩
  (λi us H' hi ⟨s1,ns,e1,e2,e3⟩=>⟨⟨Src.lst (s1 _ _ gm),Src.tup (s1 _ _ gt),Src.tup (s1 _ _ go)⟩,by rw[e1,bH];exact e2⟩)
  (λi x y z us H' T hx hy hz RH nT=>?_) (λus H' RG=>?_)
 ·obtain⟨s1,ns,e1,e2,e3⟩:=RH;obtain⟨qa,m,_,rfl,em,DD⟩:=rm.get hx;obtain⟨qb,sv,_,rfl,es,Dy⟩:=rt.get hy;obtain⟨o,eo,rfl⟩:=dB hz;obtain⟨J,j,sT,gT⟩:=nw _ nT;rw[j];have s2:=s1.trans sT;obtain⟨dm,pl,vy,_⟩:=(DD.tr s2.tr).ex;have a0p:J qb=some (.tup [.int sv.1,.int sv.2]):=s2 _ _ Dy;have et:=aSn em es eo;refine cM (gZ.of gT) rfl ?_;walk_at "w";refine cB (λh1=>?_) (λh1=>?_)
  ·walk_at "w";refine cB (λh2=>?_) (λh2=>?_)
   ·walk_at "w";refine cE vy tx.bO tx.mC rfl ?_;refine⟨s2,ns ++ [m.begin_],by rw[e1,gR];rfl,by rw[iR,qf];lia,?_⟩;rw[L7,e3];show _=sumTo _ i+tB W.specs ss os i;rw[et,cT ⟨h1,h2⟩]
   ·refine⟨s2,ns,e1,by lia,?_⟩;rw[e3];show _=sumTo _ i+tB W.specs ss os i;rw[et,cD λz=>h2 z.2,zu]
  ·refine⟨s2,ns,e1,by lia,?_⟩;rw[e3];show _=sumTo _ i+tB W.specs ss os i;rw[et,cD λz=>h1 z.1,zu]
 ·obtain⟨s1,ns,e1,e2,e3⟩:=RG;subst e1;intro l nl;obtain⟨H2,i2,s2,g2⟩:=nw _ nl;rw[i2];walk_at "w";refine nG (bP.of g2) ?_;rw[e3];exact k H2 (s1.trans s2)
inductive zN  (K:W.Frag) (CW CM CS:Addr) (vs:List V) (H:Hp) (Q:VK) (E:XK):Prop
 |mk:∀(w x y:Addr) (W:WS) (P:Ps) (want:Int) (h:Hr),(vs=[.ref w,.ref x,.int want,.ref y])->dQ CW CM CS H w W->W.Good->fG H x P->jQ W P->Ap H y h->qM W P h->(∀T H',aR H H'->Ea H' T (Fx W P want h)->Q (.ref T) H')->zN K CW CM CS vs H Q E
theorem aFF(tx:Txt K mg a):bQ P w K mg base eR 4 a.aBa a.aBb aYa (zN K a.cN a.aW a.bS):=by
 have jS:=oV (P:=P) (w:=w) (base:=base) tx;have aFG:=aET (P:=P) (w:=w) (base:=base) tx;have oR:=uH (P:=P) (w:=w) (base:=base) tx;refine tx.kn.F.ok gO (by walk_at "l") λbq A outer s H vs Q E hr h=>?_;obtain⟨w,x,y,W,P,want,h,rfl ,hW,hg,hP,bf,hh,A2,k⟩:=h;have hu:=fV hr;refine aY (aE (aK (i:=4) gO.nd (aH (K':=K) (aB 3) aC))
  (aE (aK (i:=5) gO.nd (aN (rc:=yt K) (fP rfl) (by rfl) tx.mN jD (aA (bR (k:=2) (idx:=[]) (N:=bma) (bY (sc:=aI iE) (NX:=ada) rfl rfl rfl (by decide +kernel)) rfl (gB (k1:=true) (k2:=false) (by rfl) tx.jU (aA (a8 (K':=K) (aB 0) rfl) (aA (aB 4) aD))) (λ_ _ _ _=>(bK (K':=K) (n:=2) rfl (aO (aJ (i:=0) (show(bma:ah).Nodup by decide +kernel)) (aO (aJ (i:=1) (show(bma:ah).Nodup by decide +kernel)) bJ)))) (fY (bF (by decide) (bF (by decide) eQ))) (λ_ _ _ _=>(hU (aV (r:=iJ K) (cZ hu) (aB 1) aC (bD _)))) (λ_ _ _ _=>(a8 (K':=K) (aB 0) rfl))) aD)))
  (aE (aK (i:=6) gO.nd (aN (rc:=yt K) (fP rfl) (by rfl) tx.mN jD (aA (bR (k:=2) (idx:=[]) (N:=bma) (bY (sc:=aI iE) (NX:=ada) rfl rfl rfl (by decide +kernel)) rfl (gB (k1:=true) (k2:=false) (by rfl) tx.jU (aA (a8 (K':=K) (aB 0) rfl) (aA (aB 4) aD))) (λ_ _ _ _=>(bK (K':=K) (n:=2) rfl (aO (aJ (i:=0) (show(bma:ah).Nodup by decide +kernel)) (aO (aJ (i:=1) (show(bma:ah).Nodup by decide +kernel)) bJ)))) (fY (bF (by decide) (bF (by decide) eQ))) (λ_ _ _ _=>(hU (aV (r:=iJ K) (cZ hu) (aB 1) aC (bD _)))) (λ_ _ _ _=>(a8 (K':=K) (aB 0) rfl))) aD)))
  (aE (aK (i:=7) gO.nd (aN (rc:=yt K) (fP rfl) (by rfl) tx.mN jD (aA (bR (k:=3) (idx:=[]) (N:=bpa) (bY (sc:=aI iE) (NX:=ada) rfl rfl rfl (by decide +kernel)) rfl (kB (k1:=true) (k2:=false) (k3:=false) (by rfl) tx.jU (aA (a8 (K':=K) (aB 0) rfl) (aA (aB 4) (aA (aH (K':=K) (aB 3) aC) aD)))) (λ_ _ _ _=>(bK (K':=K) (n:=3) rfl (aO (aJ (i:=0) (show(bpa:ah).Nodup by decide +kernel)) (aO (aJ (i:=1) (show(bpa:ah).Nodup by decide +kernel)) (aO (aJ (i:=2) (show(bpa:ah).Nodup by decide +kernel)) bJ))))) (fY (bF (by decide) (bF (by decide) (bF (by decide) eQ)))) (λ_ _ _ _=>(hU (aV (r:=iJ K) (cZ hu) (aB 1) aC (bD _)))) (λ_ _ _ _=>(rZ (aB 0) tx.bO tx.fg (jS) (hr.mono (by decide)) tx.cx.b .nil aU (aA (aB 2) aD)))) aD)))
  (aE (aK (i:=8) gO.nd (aL bX (a8 (K':=K) (aB 0) rfl) (aH (K':=K) (bh oR hr tx.dn (aA (aB 0) (aA (aH (K':=K) (aB 1) aC) (aA (aB 2) (aA (aB 3) aD))))) aC)))
  (aG (aM (aOL (bh aFG hr tx.ji (aA (aB 0) (aA (aH (K':=K) (aB 1) aC) (aA (aB 4) aD)))) (aB 5) (aB 6) (aB 7) (aB 8))))))))) ?_
 obtain⟨dx,lm,st,hw,hM,df⟩:=hW.ex;obtain⟨qm,gm,rm⟩:=hM.ex;obtain⟨t,gx,hS⟩:=hP.ex;obtain⟨ta,tu,gy,ga,gu⟩:=hh.ex;have EW:=rm.len;have hlen:=hg.len;have lo:=A2.ons;have lu:=A2.outs;obtain⟨k0,k1⟩:=hg.cw;refine aT (σ:=[some (.ref w),some (.ref x),some (.int want),some (.ref y),none,none,none,none,none]) rfl ?_;walk_at "w";refine cE hw tx.dP tx.cQ rfl ?_;walk_at "w";refine sC (Src.lst gm) (Src.tup ga) ?_;refine j9 (n:=W.specs.length) (by rw[bH];lia) (by rw[bH];lia) (.inl (by rw[bH];lia)) (bV (by lia))
  (λi us H'=>aR H H'/\∃ns:ae,us=ns.map V.int/\ns.length<=i/\List.sum ns=sumTo (tR W.specs h.ons) i) ⟨aR.refl _,[],rfl,eO _,rfl⟩
  (λi us H' hi ⟨s1,ns,e1,e2,e3⟩=>⟨⟨Src.lst (s1 _ _ gm),Src.tup (s1 _ _ ga)⟩,by rw[e1,bH];exact e2⟩)
  (λi x y us H' T hx hy RF nT=>?_) (λus H' RE=>?_)
 ·obtain⟨s1,ns,e1,e2,e3⟩:=RF;obtain⟨qa,m,_,rfl,em,DD⟩:=rm.get hx;obtain⟨o,eo,rfl⟩:=dB hy;obtain⟨J,j,sT,gT⟩:=nw _ nT;rw[j];have s2:=s1.trans sT;obtain⟨dm,pl,vy,_⟩:=(DD.tr s2.tr).ex;have et:=aSo em eo;refine cM (gZ.of gT) rfl ?_;walk_at "w";refine cB (λh1=>?_) (λh1=>?_)
  ·walk_at "w";refine cE vy tx.bO tx.qI rfl ?_;refine⟨s2,ns ++ [m.run],by rw[e1,gR];rfl,by rw[iR,qf];lia,?_⟩;rw[L7,e3];show _=sumTo _ i+tR W.specs h.ons i;rw[et,cT h1]
  ·refine⟨s2,ns,e1,by lia,?_⟩;rw[e3];show _=sumTo _ i+tR W.specs h.ons i;rw[et,cD h1,zu]
 obtain⟨s1,ns,e1,e2,e3⟩:=RE;subst e1;intro l nl;obtain⟨H2,i2,s2,g2⟩:=nw _ nl;rw[i2];walk_at "w";refine nG (bP.of g2) ?_;rw[e3];have S2:=s1.trans s2;have hw2:=S2 _ _ hw;have GY:=S2 _ _ ga;walk_at "w";refine cE hw2 tx.dP tx.cQ rfl ?_;walk_at "w";refine sC (Src.lst (S2 _ _ gm)) (Src.tup GY) ?_;refine j9 (n:=W.specs.length) (by rw[bH];lia) (by rw[bH];lia) (.inl (by rw[bH];lia)) (bV (by lia))
  (λi us H'=>aR H H'/\∃ns:ae,us=ns.map V.int/\ns.length<=i/\List.sum ns=sumTo (tS W.specs h.ons) i) ⟨S2,[],rfl,eO _,rfl⟩
  (λi us H' hi ⟨s1,ns,e1,e2,e3⟩=>⟨⟨Src.lst (s1 _ _ gm),Src.tup (s1 _ _ ga)⟩,by rw[e1,bH];exact e2⟩)
  (λi x y us H' T hx hy RD nT=>?_) (λus H' RC=>?_)
 ·obtain⟨s1,ns,e1,e2,e3⟩:=RD;obtain⟨qa,m,_,rfl,em,DD⟩:=rm.get hx;obtain⟨o,eo,rfl⟩:=dB hy;obtain⟨J,j,sT,gT⟩:=nw _ nT;rw[j];have s2:=s1.trans sT;obtain⟨dm,pl,vy,_⟩:=(DD.tr s2.tr).ex;have et:=aSp em eo;refine cM (gZ.of gT) rfl ?_;walk_at "w";refine cB (λh1=>?_) (λh1=>?_)
  ·walk_at "w";refine cE vy tx.bO tx.oG rfl ?_;refine⟨s2,ns ++ [m.rest],by rw[e1,gR];rfl,by rw[iR,qf];lia,?_⟩;rw[L7,e3];show _=sumTo _ i+tS W.specs h.ons i;rw[et,cT h1]
  ·refine⟨s2,ns,e1,by lia,?_⟩;rw[e3];show _=sumTo _ i+tS W.specs h.ons i;rw[et,cD h1,zu]
 obtain⟨s1,ns,e1,e2,e3⟩:=RC;subst e1;intro l nl;obtain⟨H3,i3,s3,g3⟩:=nw _ nl;rw[i3];walk_at "w";refine nG (bP.of g3) ?_;rw[e3];have S3:=s1.trans s3;have hw3:=S3 _ _ hw;have gy3:=S3 _ _ gy;walk_at "w";refine cE hw3 tx.dP tx.cQ rfl ?_;walk_at "w";refine FX (Src.lst (S3 _ _ gm)) (Src.tup (S3 _ _ ga)) (Src.tup (S3 _ _ gu)) ?_;refine qV (n:=W.specs.length) (by rw[bH];lia) (by rw[bH];lia) (by rw[bH];lia) (.inl (by rw[bH];lia)) (bV (by lia))
  (λi us H'=>aR H H'/\∃ns:ae,us=ns.map V.int/\ns.length<=i/\List.sum ns=sumTo (tM W.specs h.ons h.outs) i) ⟨S3,[],rfl,eO _,rfl⟩
  (λi us H' hi ⟨s1,ns,e1,e2,e3⟩=>⟨⟨Src.lst (s1 _ _ gm),Src.tup (s1 _ _ ga),Src.tup (s1 _ _ gu)⟩,by rw[e1,bH];exact e2⟩)
  (λi x y z us H' T hx hy hz RB nT=>?_) (λus H' RA=>?_)
 ·obtain⟨s1,ns,e1,e2,e3⟩:=RB;obtain⟨qa,m,_,rfl,em,DD⟩:=rm.get hx;obtain⟨o,eo,rfl⟩:=dB hy;obtain⟨u,eu,rfl⟩:=dB hz;obtain⟨J,j,sT,gT⟩:=nw _ nT;rw[j];have s2:=s1.trans sT;have GG:=DD.tr s2.tr;obtain⟨dm,pl,vy,_⟩:=GG.ex;have et:=aSq em eo eu;refine cM (gZ.of gT) rfl ?_;walk_at "w";refine cB (λh1=>?_) (λh1=>?_)
  ·walk_at "w";refine⟨qa,dm,_,rfl,vy,rfl,?_⟩;walk_at "w";obtain⟨u0,u1⟩:=(A2.out i m o u em eo eu).2 (by lia);refine⟨qa,m,u,rfl,GG,hg.specs m (jW em),u0,u1,λJ2 t2=>?_⟩;refine⟨s2.trans t2,ns ++ [cst m.pieces (u - m.least)],by rw[e1,gR];rfl,by rw[iR,qf];lia,?_⟩;rw[L7,e3];show _=sumTo _ i+tM W.specs h.ons h.outs i;rw[et,cT h1]
  ·refine⟨s2,ns,e1,by lia,?_⟩;rw[e3];show _=sumTo _ i+tM W.specs h.ons h.outs i;rw[et,cD h1,zu]
 obtain⟨s1,ns,e1,e2,e3⟩:=RA;subst e1;intro l nl;obtain⟨H4,i4,s4,g4⟩:=nw _ nl;rw[i4];walk_at "w";refine nG (bP.of g4) ?_;rw[e3];have S4:=s1.trans s4;have hw4:=S4 _ _ hw;have gx4:=S4 _ _ gx;walk_at "w";refine cE hw4 tx.dP tx.sW rfl ?_;walk_at "w";refine⟨w,y,W,P.2,want,h,rfl,hW.tr S4.tr,hg,hh.tk S4.tk,λT1 H5 s5 GO=>?_⟩;have S5:=S4.trans s5;have gx5:=S5 _ _ gx
 replace GO:H5 T1=some (.tup [.int (max (xg W P.2 want h) 0),.int (max (-(xg W P.2 want h)) 0)]):=GO
 walk_at "w";refine⟨w,t,ta,W,P.1,h.ons,rfl,hW.tr S5.tr,hS.tk S5.tk,S5 _ _ ga,bf.len,lo,hlen,λH6 s6=>?_⟩;walk_at "w";intro T nT;obtain⟨H7,i7,s7,g7⟩:=nw _ nT;rw[i7];walk_at "w";exact k T H7 (S5.trans (s6.trans s7)) g7
inductive aBH  (K:W.Frag) (CW CM CS:Addr) (vs:List V) (H:Hp) (Q:VK) (E:XK):Prop
 |mk:∀(w p lw l:Addr) (W:WS) (P:Ps) (ws:ae) (hs:List Hr),(vs=[.ref w,.ref p,.ref lw,.ref l])->dQ CW CM CS H w W->W.Good->fG H p P->jQ W P->(H lw=some (.lst (ws.map V.int)))->kI H l hs->cC W P hs->(ws.length=hs.length)->(hs.length<=1000)->(∀r H',aR H H'->H r=none->LF H' r (rws W P ws hs)->Q (.ref r) H')->aBH K CW CM CS vs H Q E
theorem aHr(tx:Txt K mg a):bQ P w K mg base eR 5 a.aCP a.aCQ ba (aBH K a.cN a.aW a.bS):=by
 have aHs:=aFF (P:=P) (w:=w) (base:=base) tx;have oS:=uB (P:=P) (w:=w) (base:=base) tx;refine tx.oz.F.ok aAJ (by walk_at "l") λbq A outer s H vs Q E hr h=>?_;obtain⟨w,p,lw,l,W,P,ws,hs,rfl ,hW,hg,hP,bf,hw,hL,qg,hlen,hz,k⟩:=h;have hu:=fV hr;refine aY (aE (aK (i:=4) aAJ.nd (bh oS hr tx.dj (aA (aB 0) (aA (aB 1) (aA (aB 3) aD)))))
  (aG (aM (bR (k:=3) (idx:=[0]) (N:=aha) (bY (sc:=aI pC) (NX:=ata) rfl rfl rfl (by decide +kernel)) rfl (kB (k1:=true) (k2:=true) (k3:=true) (by rfl) tx.jU (aA (aB 4) (aA (aB 2) (aA (aB 3) aD)))) (λ_ _ _ _=>(bK (K':=K) (n:=3) rfl (aO (aJ (i:=0) (show(aha:ah).Nodup by decide +kernel)) (aO (aJ (i:=1) (show(aha:ah).Nodup by decide +kernel)) (aO (aJ (i:=2) (show(aha:ah).Nodup by decide +kernel)) bJ))))) (fY (bF (by decide) (bF (by decide) (bF (by decide) eQ)))) (λ_ _ _ _=>bE) (λ_ _ _ _=>(bh aHs hr tx.kn (aA (aB 3) (aA (aB 0) (aA (aB 1) (aA (aB 2) aD)))))))))) ?_
 refine aT (σ:=[some (.ref w),some (.ref p),some (.ref lw),some (.ref l),none]) rfl ?_;walk_at "w";refine⟨w,p,l,W,P,hs,rfl,hW,hg,hP,bf,hL,qg,hz,λr H1 s1 hr=>?_⟩;obtain⟨qp,gp,rp⟩:=hr.ex;obtain⟨ql,gl,rl⟩:=(hL.tr s1.tr).ex;have M9:=rp.len;rw[aIA] at M9;have ym:=rl.len;have we:=s1 _ _ hw;walk_at "w";refine FX (Src.lst gp) (Src.lst we) (Src.lst gl) ?_;refine qV (n:=hs.length) (by rw[bH];lia) (by rw[bH];lia) (by rw[bH];lia) (.inr (.inl (by rw[bH];lia))) (bV (by lia))
  (λi us H'=>aR H1 H'/\∃rs,us=rs.map V.ref/\rs.length=i/\RL (Ea H') rs ((rws W P ws hs).take i)) ⟨aR.refl _,[],rfl,rfl,RL.nil⟩
  (λi us H' hi ⟨s2,rs,e1,e2,e3⟩=>⟨⟨Src.lst (s2 _ _ gp),Src.lst (s2 _ _ we),Src.lst (s2 _ _ gl)⟩,by rw[e1,bH];lia⟩)
  (λi x y z us H' T hx hy hz Rz nT=>?_) (λus H' Ry=>?_)
 ·obtain⟨s2,rs,e1,e2,e3⟩:=Rz;obtain⟨q,Pq,_,rfl,GP,hq⟩:=rp.get hx;obtain⟨wv,Np,rfl⟩:=dB hy;obtain⟨qh,h,_,rfl,E7,NA⟩:=rl.get hz;have hi:i < hs.length:=(iZ.mp E7).1;rw[Qn W (by lia)] at GP;cases GP;obtain⟨J,j,sT,gT⟩:=nw _ nT;rw[j];have s3:=s2.trans sT;obtain⟨o1,o2⟩:=qg.take E7;refine cM (gZ.of gT) rfl ?_;walk_at "w";refine⟨w,q,qh,W,_,wv,h,rfl,hW.tr (s1.trans s3).tr,hg,hq.tk s3.tk,o1.pos hg bf,NA.tk s3.tk,o2,λT2 H2 s4 um=>?_⟩;refine⟨s3.trans s4,rs ++ [T2],by rw[e1,gR];rfl,by rw[iR,e2];rfl,?_⟩;rw[take_snoc (ZJ W Np E7)];exact(ZI e3 (sT.trans s4).tk).snoc um
 ·obtain⟨s2,rs,e1,e2,e3⟩:=Ry;subst e1;intro r nr;obtain⟨H3,i3,s3,g3⟩:=nw _ nr;rw[i3];rw[za (by rw[P8 W hlen];exact eO _)] at e3;exact k r H3 (s1.trans (s2.trans s3)) ((s1.trans s2).free nr) ⟨rs,g3,ZI e3 s3.tk⟩
inductive aBI  (K:W.Frag) (CW CM CS:Addr) (vs:List V) (H:Hp) (Q:VK) (E:XK):Prop
 |mk:∀(w p lw l:Addr) (W:WS) (P:Ps) (ws:ae) (hs:List Hr),(vs=[.ref w,.ref p,.ref lw,.ref l])->dQ CW CM CS H w W->W.Good->fG H p P->jQ W P->(H lw=some (.lst (ws.map V.int)))->kI H l hs->cC W P hs->(ws.length=hs.length)->(hs.length<=1000)->(∀H',aR H H'->Q (.int (List.sum ((rws W P ws hs).map List.sum))) H')->aBI K CW CM CS vs H Q E
theorem aHt(tx:Txt K mg a):bQ P w K mg base eR 6 a.aCR a.aCS ba (aBI K a.cN a.aW a.bS):=by
 have aIN:=aHr (P:=P) (w:=w) (base:=base) tx;refine tx.oq.F.ok aGY (by walk_at "l") λbq A outer s H vs Q E hr h=>?_;obtain⟨w,p,lw,l,W,P,ws,hs,rfl ,hW,hg,hP,bf,hw,hL,qg,hlen,hz,k⟩:=h;have hu:=fV hr;refine aY (aG (aM (aN (rc:=yt K) (fP rfl) (by rfl) tx.mN jD (aA (bR (k:=1) (idx:=[]) (N:=["costs"]) (bY (sc:=aI pD) (NX:=ba) rfl rfl rfl (by decide +kernel)) rfl (bI (K':=K) (bh aIN hr tx.oz (aA (aB 0) (aA (aB 1) (aA (aB 2) (aA (aB 3) aD)))))) (λ_ _ _ _=>(aJ (i:=0) (show(["costs"]:ah).Nodup by decide +kernel))) (cJ (by decide)) (λ_ _ _ _=>bE) (λ_ _ _ _=>(aN (rc:=Hm K) (QN rfl) (by rfl) tx.mN jD (aA (aB 0) aD)))) aD)))) ?_;refine aT (σ:=[some (.ref w),some (.ref p),some (.ref lw),some (.ref l)]) rfl ?_;walk_at "w";refine⟨w,p,lw,l,W,P,ws,hs,rfl,hW,hg,hP,bf,hw,hL,qg,hlen,hz,λr H1 s1 nr hr=>?_⟩;obtain⟨qs,gr,rr⟩:=hr.ex;refine fO (bP.of gr) ?_;refine aLA gr rr (by rw[P8 W hlen];lia) (λq x N N' hq hN=>?_) ?_
 ·walk_at "w";refine Qf (gZ.of hq) ?_;exact hN
 intro l2 n2;obtain⟨H2,i2,s2,g2⟩:=nw _ n2;rw[i2];walk_at "w";refine nG (bP.of g2) ?_;exact k H2 (s1.trans s2)
def hc(m:MS)(s:ao)(q on out:Int):Int:=if on=1 then m.run+m.begin_*(1 - s.1)+(cst m.pieces (out - m.least) - q*out) else m.rest
def rv(m:MS)(qs:ae):Nat->ao->ak->Int
 |_,_,[]=>0
 |i,s,t::r=>hc m s (qs.getD i 0) t.1 t.2+rv m qs (i+1) (iN m s.1 s.2 t.1) r
def vk(q:Int):List MS->ak->ae->ae->Int
 |m::ms,s::ss,o::os,u::us=>hc m s q o u+vk q ms ss os us
 |_,_,_,_=>0
theorem aNA{m:MS}{s:ao}{q on out:Int}(h:tW m on out)(b:nC on):hc m s q on out=hc m s 0 on out - q*out:=by
 unfold hc;rcases b with rfl|rfl
 ·rw[cD (by decide),cD (by decide),h.1 rfl];lia
 ·rw[cT rfl,cT rfl,Int.zero_mul];lia
theorem aSr{m:MS}(g:m.Good){s:ao}(bs:nC s.1){q on out:Int}(b:nC on)(h:tW m on out):hw m q s on<=hc m s q on out:=by
 unfold hc;rcases b with rfl|rfl
 ·rw[cD (by decide),Ym];exact uo _
 ·rw[cT rfl,Yl m q bs];obtain⟨h1,h2⟩:=h.2 (by decide);have a:=(best (p:=q) (ps:=m.pieces) (left:=out - m.least) g.pieces.MF (by lia) (by lia)).1;unfold Fh;rw[CP] at a;lia
def Ee(ms:List MS)(ss:ak)(os us:ae):Prop:=ss.length=ms.length/\os.length=ms.length/\us.length=ms.length/\∀(j:Nat) m s o u,ms[j]?=some m->ss[j]?=some s->os[j]?=some o->us[j]?=some u->m.Good/\nC s.1/\nC o/\(s.1=o\/s.2=0)/\tW m o u
theorem Ee.tl{m:MS}{ms:List MS}{s:ao}{ss:ak}{o u:Int}{os us:ae}(h:Ee (m::ms) (s::ss) (o::os) (u::us)):Ee ms ss os us:=by
 obtain⟨a,b,c,d⟩:=h;exact⟨by simpa using a,by simpa using b,by simpa using c,λj m s o u h1 h2 h3 h4=>d (j+1) m s o u h1 h2 h3 h4⟩
theorem aGq{q:Int}:∀{ms:List MS}{ss:ak}{os us:ae},Ee ms ss os us->vk q ms ss os us=vk 0 ms ss os us - q*List.sum us
 |[],ss,os,us,h=>by
  have:us=[]:=List.eq_nil_of_length_eq_zero h.2.2.1;subst this;simp[vk]
 |m::ms,[],_,_,h=>by cases h.1
 |m::ms,_::_,[],_,h=>by cases h.2.1
 |m::ms,_::_,_::_,[],h=>by cases h.2.2.1
 |m::ms,s::ss,o::os,u::us,h=>by
  obtain⟨_,_,b,_,ok⟩:=h.2.2.2 0 m s o u rfl rfl rfl rfl;have e:=aGq (q:=q) h.tl;show hc m s q o u+vk q ms ss os us=hc m s 0 o u+vk 0 ms ss os us - q*List.sum (u::us);rw[aNA ok b,e,xy,FY];lia
theorem qM.hrs{W:WS}(hg:W.Good){P:Ps}(p:jQ W P){h:Hr}(x:qM W P h):Ee W.specs P.1 h.ons h.outs:=
 ⟨p.len,x.ons,x.outs,λj m s o u h1 h2 h3 h4=>⟨hg.specs m (jW h1),(p.vs s (jW h2)).1,x.bits o (jW h3),x.may j s o h2 h3,x.out j m o u h1 h3 h4⟩⟩
def DZ(k:Nat)(h:Hr):Hr:=⟨h.ons.drop k,h.outs.drop k,h.b8⟩
def col(k:Nat)(hs:List Hr):ak:=hs.map λh=>(h.ons.getD k 0,h.outs.getD k 0)
theorem Qz:∀(k:Nat) (ms:List MS) (ss:ak) (os:ae),(iO ms ss os).drop k=iO (ms.drop k) (ss.drop k) (os.drop k)
 |0,_,_,_=>rfl
 |k+1,[],ss,os=>by simp[iO]
 |k+1,m::ms,[],os=>by
  simp only[List.drop_succ_cons,List.drop_nil];cases ms.drop k <;> simp[iO]
 |k+1,m::ms,s::ss,[]=>by
  simp only[List.drop_succ_cons,List.drop_nil];cases ms.drop k <;> cases ss.drop k <;> simp[iO]
 |k+1,m::ms,s::ss,o::os=>by
  show(iO ms ss os).drop k=_;rw[Qz k ms ss os];rfl
def lP(m:MS):ao->ak->Prop
 |_,[]=>True
 |a,t::r=>nC t.1/\(a.1=t.1\/a.2=0)/\tW m t.1 t.2/\lP m (iN m a.1 a.2 t.1) r
theorem cC.row{W:WS}{k:Nat}{m:MS}(hm:W.specs[k]?=some m):∀{hs:List Hr}{P:Ps}{s:ao},cC W P hs->P.1[k]?=some s->lP m s (col k hs)
 |[],_,_,_,_=>trivial
 |h::hs,P,s,x,es=>by
  have km:k < W.specs.length:=(iZ.mp hm).1;have eo:h.ons[k]?=some (h.ons[k]'(by rw[x.1.ons];exact km)):=dM _;have eu:h.outs[k]?=some (h.outs[k]'(by rw[x.1.outs];exact km)):=dM _;generalize h.ons[k]'(by rw[x.1.ons];exact km)=o at eo;generalize h.outs[k]'(by rw[x.1.outs];exact km)=u at eu;have ih:=cC.row hm (hs:=hs) (P:=pN W P h) x.2 (rL hm es eo);have g1:h.ons.getD k 0=o:=by rw[rf,eo];rfl
  have g2:h.outs.getD k 0=u:=by rw[rf,eu];rfl
  show nC (h.ons.getD k 0)/\(s.1=h.ons.getD k 0\/s.2=0)/\tW m (h.ons.getD k 0) (h.outs.getD k 0)/\lP m (iN m s.1 s.2 (h.ons.getD k 0)) (col k hs);rw[g1,g2];exact⟨x.1.bits o (jW eo),x.1.may k s o es eo,x.1.out k m o u hm eo eu,ih⟩
theorem cC.FA{W:WS}:∀{hs:List Hr}{P:Ps},cC W P hs->∀h∈hs,h.ons.length=W.specs.length/\h.outs.length=W.specs.length
 |[],_,_,h,hh=>by cases hh
 |h::hs,P,x,y,hy=>by
  rcases lR.mp hy with rfl|z
  ·exact⟨x.1.ons,x.1.outs⟩
  ·exact cC.FA x.2 y z
theorem aPg(hs:List Hr):hs.map (DZ 0)=hs:=by
 have:DZ 0=id:=rfl;rw[this,List.map_id]
def ow(m:MS):ae->ak->Int
 |q::qs,t::r=>(if t.1=1 then cst m.pieces (t.2 - m.least) - q*t.2 else 0)+ow m qs r
 |_,_=>0
theorem aLC{m:MS}{o n:Int}{ns:ae}(ho:nC o)(hn:nC n):wR m o (n::ns)=(if n=1 then m.run+m.begin_*(1 - o) else m.rest)+wR m n ns:=by
 have e:=aNi (m:=m) (xs:=[n]) (ys:=ns) (o:=o) (d:=0) (λk hk=>by rw[ng.mp hk];exact hn);rw[show(ed m o 0 [n]).1=n from xO hn] at e;rw[show n::ns=[n] ++ ns from rfl,e];congr 1;unfold wR;rcases ho with rfl|rfl <;> rcases hn with rfl|rfl <;> simp[qu] <;> lia
theorem aRx(m:MS)(qs:ae):ow m qs []=0:=by cases qs <;> rfl
theorem Y5{m:MS}{qs:ae}:∀{rows:ak}{i:Nat}{s:ao},lP m s rows->nC s.1->i+rows.length<=qs.length->wR m s.1 (rows.map Prod.fst)+ow m (qs.drop i) rows=rv m qs i s rows
 |[],i,s,_,_,_=>by
  rw[aRx];show wR m s.1 [] + 0=0;unfold wR;simp[qu]
 |t::r,i,s,h,b,hl=>by
  obtain⟨bt,may,out,hr⟩:=h;have E6:i+(r.length+1)<=qs.length:=hl;have il:i < qs.length:=by lia
  have OA:qs.drop i=qs[i] :: qs.drop (i+1):=zb il;have eg:qs.getD i 0=qs[i]:=by rw[rf,dM il];rfl
  have ih:=Y5 (m:=m) (qs:=qs) (rows:=r) (i:=i+1) (s:=iN m s.1 s.2 t.1) hr (by rw[xO bt];exact bt) (by lia);rw[xO bt] at ih;rw[jz,aLC b bt,OA];show _+wR m t.1 (r.map Prod.fst)+((if t.1=1 then cst m.pieces (t.2 - m.least) - qs[i] * t.2 else 0)+ow m (qs.drop (i+1)) r)=hc m s (qs.getD i 0) t.1 t.2+rv m qs (i+1) (iN m s.1 s.2 t.1) r;rw[<-ih,eg];unfold hc;rcases bt with z|z <;> rw[z]
  ·rw[cD (by decide),cD (by decide),cD (by decide)];lia
  ·rw[cT rfl,cT rfl,cT rfl];lia
def Aa(qs:ae)(hs:List Hr):Nat->List MS->ak->ae
 |k,m::ms,s::ss=>rv m qs 0 s (col k hs)::Aa qs hs (k+1) ms ss
 |_,_,_=>[]
theorem P7{qs:ae}{hs:List Hr}:∀{ms:List MS}{ss:ak}{k j:Nat}{m:MS}{s:ao},ms[j]?=some m->ss[j]?=some s->(Aa qs hs k ms ss)[j]?=some (rv m qs 0 s (col (k+j) hs))
 |m::ms,s::ss,k,0,_,_,h1,h2=>by cases h1;cases h2;rfl
 |m::ms,s::ss,k,j+1,m',s',h1,h2=>by
  have ih:=P7 (qs:=qs) (hs:=hs) (ms:=ms) (ss:=ss) (k:=k+1) (j:=j) h1 h2;rw[show k+(j+1)=k+1+j by lia];exact ih
 |[],_,_,_,_,_,h,_=>by simp at h
 |_::_,[],_,_,_,_,_,h=>by simp at h
theorem HH{qs:ae}{hs:List Hr}:∀{ms:List MS}{ss:ak}{k:Nat},ss.length=ms.length->(Aa qs hs k ms ss).length=ms.length
 |[],_,_,_=>by simp[Aa]
 |m::ms,s::ss,k,h=>by
  show(Aa qs hs (k+1) ms ss).length+1=ms.length+1;rw[HH (by simpa using h)]
 |_::_,[],_,h=>by cases h
def Cj:Option SS->Int->ae->ae->Int
 |none,_,_,_=>0
 |some s,l,qs,ns=>pw s l qs ns
def gM(W:WS)(P:Ps)(hs:List Hr)(qs:ae):ae:=List.zipWith (λa b=>a - b) (Aa qs hs 0 W.specs P.1) (EZ W P qs)
def gS(W:WS)(P:Ps)(hs:List Hr)(qs:ae):Int:=Cj W.store P.2 qs (hs.map Hr.b8) - EU W P qs
def gW(W:WS)(P:Ps)(ws:ae)(hs:List Hr)(qs:ae):ae:=List.zipWith (λq (t:ao)=>q*t.1) qs (uc W P ws hs)
def gL(W:WS)(P:Ps)(ws:ae)(hs:List Hr)(qs:ae):ae:=List.zipWith (λq (t:ao)=>(W.cw - q)*t.2) qs (uc W P ws hs)
def Ab(qs:ae):Nat->List MS->ak->List Hr->Int
 |_,_,_,[]=>0
 |i,ms,ss,h::hs=>vk (qs.getD i 0) ms ss h.ons h.outs+Ab qs (i+1) ms (iO ms ss h.ons) hs
theorem ZH{k n:Nat}{ms:List MS}{m:MS}{qs:ae}(hm:ms[k]?=some m)(hk:k < n):∀{hs:List Hr}{ss:ak}{s:ao}{i:Nat},ss[k]?=some s->(∀h∈hs,h.ons.length=n/\h.outs.length=n)->
  Ab qs i (ms.drop k) (ss.drop k) (hs.map (DZ k))=rv m qs i s (col k hs)+Ab qs i (ms.drop (k+1)) (ss.drop (k+1)) (hs.map (DZ (k+1)))
 |[],ss,s,i,_,_=>rfl
 |h::hs,ss,s,i,es,hl=>by
  obtain⟨l1,l2⟩:=hl h (.head _);have eo:h.ons[k]?=some (h.ons[k]'(by lia)):=dM _;have eu:h.outs[k]?=some (h.outs[k]'(by lia)):=dM _;have Yc:h.ons.drop k=(h.ons[k]'(by lia))::h.ons.drop (k+1):=zb _;have du:h.outs.drop k=(h.outs[k]'(by lia))::h.outs.drop (k+1):=zb _;generalize h.ons[k]'(by lia)=o at eo Yc;generalize h.outs[k]'(by lia)=u at eu du;have km:k < ms.length:=(iZ.mp hm).1;have ks:k < ss.length:=(iZ.mp es).1;have dm:ms.drop k=m::ms.drop (k+1):=by rw[zb km,(iZ.mp hm).2]
  have ds:ss.drop k=s::ss.drop (k+1):=by rw[zb ks,(iZ.mp es).2]
  have ih:=ZH (qs:=qs) hm hk (hs:=hs) (ss:=iO ms ss h.ons) (i:=i+1) (rL hm es eo) (λx hx=>hl x (xS _ hx));have z:rv m qs i s (col k (h::hs))=hc m s (qs.getD i 0) o u+rv m qs (i+1) (iN m s.1 s.2 o) (col k hs):=by
   show hc m s (qs.getD i 0) (h.ons.getD k 0) (h.outs.getD k 0)+rv m qs (i+1) (iN m s.1 s.2 (h.ons.getD k 0)) (col k hs)=_;rw[show h.ons.getD k 0=o by rw[rf,eo];rfl,show h.outs.getD k 0=u by rw[rf,eu];rfl]
  rw[z];show vk (qs.getD i 0) (ms.drop k) (ss.drop k) (h.ons.drop k) (h.outs.drop k)+Ab qs (i+1) (ms.drop k) (iO (ms.drop k) (ss.drop k) (h.ons.drop k)) (hs.map (DZ k))=hc m s (qs.getD i 0) o u+rv m qs (i+1) (iN m s.1 s.2 o) (col k hs)+(vk (qs.getD i 0) (ms.drop (k+1)) (ss.drop (k+1)) (h.ons.drop (k+1)) (h.outs.drop (k+1))+Ab qs (i+1) (ms.drop (k+1)) (iO (ms.drop (k+1)) (ss.drop (k+1)) (h.ons.drop (k+1))) (hs.map (DZ (k+1))))
  rw[Qz,Qz] at ih;rw[ih];have e2:vk (qs.getD i 0) (ms.drop k) (ss.drop k) (h.ons.drop k) (h.outs.drop k)=hc m s (qs.getD i 0) o u+vk (qs.getD i 0) (ms.drop (k+1)) (ss.drop (k+1)) (h.ons.drop (k+1)) (h.outs.drop (k+1)):=by
   rw[dm,ds,Yc,du];rfl
  rw[e2];lia
theorem ZG(qs:ae):∀(hs:List Hr) (ss:ak) (i:Nat),Ab qs i [] ss hs=0
 |[],_,_=>rfl
 |h::hs,ss,i=>by
  show vk (qs.getD i 0) [] ss h.ons h.outs+Ab qs (i+1) [] (iO [] ss h.ons) hs=0;rw[ZG qs hs];rfl
theorem ZF{qs:ae}{ms:List MS}{ss:ak}{hs:List Hr}(hl:ss.length=ms.length)(hh:∀h∈hs,h.ons.length=ms.length/\h.outs.length=ms.length):∀(j k:Nat),k+j=ms.length->List.sum (Aa qs hs k (ms.drop k) (ss.drop k))=Ab qs 0 (ms.drop k) (ss.drop k) (hs.map (DZ k))
 |0,k,e=>by
  rw[Rf (by lia),Rf (l:=ss) (by lia),ZG];rfl
 |j+1,k,e=>by
  have km:k < ms.length:=by lia
  have ks:k < ss.length:=by lia
  have hm:ms[k]?=some ms[k]:=dM km;have es:ss[k]?=some ss[k]:=dM ks;rw[ZH hm km es hh,<-ZF hl hh j (k+1) (by lia),zb km,zb ks];show List.sum (_::_)=_;rw[xy]
theorem lQ(f:Nat->Int):∀n,sumTo f (n+1)=f 0+sumTo (λk=>f (k+1)) n
 |0=>by show 0+f 0=f 0+0;lia
 |n+1=>by
  show sumTo f (n+1)+f (n+1)=f 0+(sumTo (λk=>f (k+1)) n+f (n+1))
  rw[lQ f n];lia
theorem ZE:∀{ms:List MS}{ss:ak}{os us:ae},Ee ms ss os us->vk 0 ms ss os us=sumTo (tB ms ss os) ms.length+(sumTo (tR ms os) ms.length+(sumTo (tS ms os) ms.length+sumTo (tM ms os us) ms.length))
 |[],ss,os,us,h=>by simp[vk,sumTo]
 |m::ms,[],_,_,h=>by cases h.1
 |m::ms,_::_,[],_,h=>by cases h.2.1
 |m::ms,_::_,_::_,[],h=>by cases h.2.2.1
 |m::ms,s::ss,o::os,u::us,h=>by
  obtain⟨_,bs,b,_,ok⟩:=h.2.2.2 0 m s o u rfl rfl rfl rfl;have ih:=ZE h.tl;rw[mv,lQ,lQ,lQ,lQ];show hc m s 0 o u+vk 0 ms ss os us=(if o=1/\s.1=0 then m.begin_ else 0)+sumTo (tB ms ss os) ms.length+((if o=1 then m.run else 0)+sumTo (tR ms os) ms.length+((if o=0 then m.rest else 0)+sumTo (tS ms os) ms.length+((if o=1 then cst m.pieces (u - m.least) else 0)+sumTo (tM ms os us) ms.length)))
  rw[ih];unfold hc;rcases b with rfl|rfl
  ·rw[cD (by decide),cD (by simp),cD (by decide),cT rfl,cD (by decide)];lia
  ·have z1:(if (1:Int)=1/\s.1=0 then m.begin_ else 0)=m.begin_*(1 - s.1):=by
    rcases bs with z|z <;> rw[z]
    ·rw[cT ⟨rfl,rfl⟩];lia
    ·rw[cD (by simp)];lia
   rw[z1,cT rfl,cT rfl,cD (by decide),cT rfl];lia
theorem aNC{W:WS}{P:Ps}{h:Hr}{q w:Int}(hr:Ee W.specs P.1 h.ons h.outs):vk q W.specs P.1 h.ons h.outs+q*Bb W.store P.2 h.b8+q*(lo1 W P.2 w h).1+(W.cw - q)*(lo1 W P.2 w h).2+q*w=List.sum (Fx W P w h):=by
 rw[aGq hr,ZE hr];show _=sumTo (tB W.specs P.1 h.ons) W.specs.length+(sumTo (tR W.specs h.ons) W.specs.length+(sumTo (tS W.specs h.ons) W.specs.length+(sumTo (tM W.specs h.ons h.outs) W.specs.length+(W.cw*max (-(xg W P.2 w h)) 0+0))))
 have e:q*((lo1 W P.2 w h).1 - (lo1 W P.2 w h).2)=q*(List.sum h.outs - w - Bb W.store P.2 h.b8):=by
  congr 1;show max (xg W P.2 w h) 0 - max (-(xg W P.2 w h)) 0=xg W P.2 w h;lia
 rw[CP,CP,CP] at e;rw[Int.sub_mul];show _ - _+_+_+(W.cw*max (-(xg W P.2 w h)) 0 - _)+_=_;lia
theorem aGr{W:WS}(hg:W.Good){qs:ae}:∀{hs:List Hr}{P:Ps}{ws:ae}{i:Nat},jQ W P->cC W P hs->ws.length=hs.length->i+hs.length=qs.length->
  Ab qs i W.specs P.1 hs+Cj W.store P.2 (qs.drop i) (hs.map Hr.b8)+List.sum (gW W P ws hs (qs.drop i))+List.sum (gL W P ws hs (qs.drop i))+Gi (qs.drop i) ws=List.sum ((rws W P ws hs).map List.sum)
 |[],P,ws,i,p,x,lw,li=>by
  have:ws=[]:=List.eq_nil_of_length_eq_zero lw;subst this;have e1:Cj W.store P.2 (qs.drop i) []=0:=by
   cases W.store with
   |none=>rfl
   |some s=>show pw s P.2 (qs.drop i) []=0;cases qs.drop i <;> rfl
  show 0+Cj W.store P.2 (qs.drop i) [] + _+_+_=(0:Int)
  rw[e1];unfold gW gL Gi;rw[Rb,show uc W P [] []=[] from rfl,Rb,Rb];rfl
 |h::hs,P,[],i,p,x,lw,li=>by cases lw
 |h::hs,P,w::ws,i,p,x,lw,li=>by
  have li':i+(hs.length+1)=qs.length:=li;have il:i < qs.length:=by lia
  have OA:qs.drop i=qs[i] :: qs.drop (i+1):=zb il;have eg:qs.getD i 0=qs[i]:=by rw[rf,dM il];rfl
  have hr:=x.1.hrs hg p;have ih:=aGr hg (qs:=qs) (hs:=hs) (P:=pN W P h) (ws:=ws) (i:=i+1) (x.1.pN hg p) x.2 (by simpa using lw) (by lia);have a:=aNC (q:=qs[i]) (w:=w) hr;have ep:Cj W.store P.2 (qs[i] :: qs.drop (i+1)) (h.b8::hs.map Hr.b8)=qs[i] * Bb W.store P.2 h.b8+Cj W.store h.b8 (qs.drop (i+1)) (hs.map Hr.b8):=by
   cases W.store with
   |none=>show(0:Int)=qs[i] * 0+0;lia
   |some s=>rfl
  rw[OA,jz,ep];show vk (qs.getD i 0) W.specs P.1 h.ons h.outs+Ab qs (i+1) W.specs (iO W.specs P.1 h.ons) hs+_+List.sum (qs[i] * (lo1 W P.2 w h).1::gW W (pN W P h) ws hs (qs.drop (i+1)))+List.sum ((W.cw - qs[i])*(lo1 W P.2 w h).2::gL W (pN W P h) ws hs (qs.drop (i+1)))+(qs[i] * w+Gi (qs.drop (i+1)) ws)=List.sum (List.sum (Fx W P w h)::(rws W (pN W P h) ws hs).map List.sum);rw[xy,xy,xy,eg,<-a];have ih':Ab qs (i+1) W.specs (iO W.specs P.1 h.ons) hs+Cj W.store h.b8 (qs.drop (i+1)) (hs.map Hr.b8)+List.sum (gW W (pN W P h) ws hs (qs.drop (i+1)))+List.sum (gL W (pN W P h) ws hs (qs.drop (i+1)))+Gi (qs.drop (i+1)) ws=List.sum ((rws W (pN W P h) ws hs).map List.sum):=ih;rw[<-ih'];lia
theorem Z7:∀{xs ys:ae},xs.length=ys.length->List.sum (List.zipWith (λa b=>a - b) xs ys)=List.sum xs - List.sum ys
 |[],[],_=>rfl
 |[],_::_,h=>by cases h
 |_::_,[],h=>by cases h
 |x::xs,y::ys,h=>by
  show List.sum ((x - y)::List.zipWith (λa b=>a - b) xs ys)=_;rw[xy,Z7 (by simpa using h),xy,xy];lia
theorem P6{W:WS}{P:Ps}(h:P.1.length=W.specs.length)(qs:ae):(EZ W P qs).length=W.specs.length:=by
 unfold EZ;rw[CY,h,D3]
theorem Hx{W:WS}{P:Ps}(h:P.1.length=W.specs.length)(hs:List Hr)(qs:ae):(gM W P hs qs).length=W.specs.length:=by
 unfold gM;rw[CY,HH h,P6 h,D3]
theorem aND{W:WS}(hg:W.Good){P:Ps}(p:jQ W P){ws qs:ae}{hs:List Hr}(x:cC W P hs)(l1:ws.length=hs.length)(l2:hs.length=qs.length) :
  List.sum (gM W P hs qs)+gS W P hs qs+List.sum (gW W P ws hs qs)+List.sum (gL W P ws hs qs)=List.sum ((rws W P ws hs).map List.sum) - EL W P ws qs:=by
 have a:=aGr hg (qs:=qs) (ws:=ws) (i:=0) p x l1 (by lia);rw[yy] at a;have b:=ZF (qs:=qs) (hs:=hs) p.len x.FA W.specs.length 0 (by lia);rw[yy,yy,aPg] at b;unfold gM gS EL;rw[Z7 (by rw[HH p.len,P6 p.len]),b,<-a];lia
def free(P:Ps):Ps:=(P.1.map λs=>(s.1,0),P.2)
def wb:ak->ak->Prop
 |s::ss,t::ts=>(s.1=t.1/\0<=s.2/\s.2<=t.2)/\wb ss ts
 |[],[]=>True
 |_,_=>False
theorem wb.free:∀{ss:ak},(∀s∈ss,VS s)->wb (ss.map λs=>(s.1,0)) ss
 |[],_=>trivial
 |s::ss,h=>⟨⟨rfl,uo _,(h s (.head _)).2⟩,wb.free λt ht=>h t (xS _ ht)⟩
theorem wb.get:∀{ss ts:ak}{j:Nat}{s:ao},wb ss ts->ss[j]?=some s->∃t,ts[j]?=some t/\s.1=t.1/\0<=s.2/\s.2<=t.2
 |s::ss,t::ts,0,_,h,e=>by cases e;exact⟨t,rfl,h.1⟩
 |s::ss,t::ts,j+1,_,h,e=>wb.get (ss:=ss) (ts:=ts) (j:=j) h.2 e
 |[],_,_,_,_,e=>by simp at e
 |_::_,[],_,_,h,_=>h.elim
theorem wb.iN{ons:ae}:∀{ms:List MS}{ss ts:ak}{os:ae},wb ss ts->(∀(j:Nat) t o,ts[j]?=some t->os[j]?=some o->t.1=o\/t.2=0)->(∀m∈ms,m.Good)->wb (iO ms ss os) (iO ms ts os)
 |[],_,_,_,_,_,_=>by simp[iO,wb]
 |m::ms,[],[],os,_,_,_=>by simp[iO,wb]
 |m::ms,s::ss,t::ts,[],_,_,_=>by simp[iO,wb]
 |m::ms,s::ss,t::ts,o::os,h,hm,hg=>by
  have g:=hg m (.head _);refine⟨?_,wb.iN (ons:=ons) h.2 (λj t' o' h1 h2=>hm (j+1) t' o' h1 h2) λm hm=>hg m (xS _ hm)⟩;obtain⟨e1,e2,e3⟩:=h.1;have mm:=hm 0 t o rfl rfl;have gu:=g.up;have gd:=g.down;unfold My.iN;rw[e1];by_cases c:t.1=o
  ·rw[cT c,cT c];refine⟨rfl,?_,?_⟩ <;> show _<=_ <;> dsimp only <;> lia
  ·rw[cD c,cD c];split
   ·refine⟨rfl,?_,?_⟩ <;> show _<=_ <;> dsimp only <;> lia
   ·refine⟨rfl,?_,?_⟩ <;> show _<=_ <;> dsimp only <;> lia
 |m::ms,[],_::_,_,h,_,_=>h.elim
 |m::ms,_::_,[],_,h,_,_=>h.elim
theorem cC.le{W:WS}(hg:W.Good):∀{hs:List Hr}{P Q:Ps},cC W Q hs->wb P.1 Q.1->P.2=Q.2->cC W P hs
 |[],_,_,_,_,_=>trivial
 |h::hs,P,Q,x,l,e=>by
  have y:=x.1;refine⟨⟨y.ons,y.outs,y.bits,λj s o h1 h2=>?_,y.out,by rw[e];exact y.b8⟩,cC.le hg (P:=pN W P h) (Q:=pN W Q h) x.2 (l.iN (ons:=[]) y.may hg.specs) rfl⟩;obtain⟨t,et,e1,e2,e3⟩:=l.get h1;rcases y.may j t o et h2 with z|z
  ·exact .inl (e1.trans z)
  ·exact .inr (by lia)
theorem uM.free{W:WS}(hg:W.Good){P:Ps}(h:uM W P):uM W (free P):=by
 refine⟨⟨by show(P.1.map _).length=_;rw[bH];exact h.ok.len,λs hs=>?_,h.ok.b8⟩,λj m s h1 h2=>?_⟩
 ·obtain⟨t,ht,rfl⟩:=qQ.mp hs;exact⟨(h.ok.vs t ht).1,uo _⟩
 ·have tw:(P.1.map λs=>(s.1,(0:Int)))[j]?=some s:=h2;rw[nE] at tw;obtain⟨t,et,rfl⟩:=oi.mp tw;have gu:=(hg.specs m (jW h1)).up;rcases h.st j m t h1 et with ⟨a,b,c⟩|⟨a,b,c⟩
  ·exact .inl ⟨a,uo _,by dsimp only;lia⟩
  ·exact .inr ⟨a,uo _,by dsimp only;lia⟩
theorem cC.free{W:WS}(hg:W.Good){P:Ps}(p:jQ W P){hs:List Hr}(x:cC W P hs):cC W (free P) hs:=x.le hg (wb.free p.vs) rfl
theorem lP.at{m:MS}:∀{rows:ak}{s:ao}{j:Nat}{t:ao},lP m s rows->rows[j]?=some t->nC t.1/\tW m t.1 t.2
 |[],_,_,_,_,h=>by simp at h
 |x::r,s,0,t,h,e=>by cases e;exact⟨h.1,h.2.2.1⟩
 |x::r,s,j+1,t,h,e=>lP.at (rows:=r) (j:=j) h.2.2.2 e
theorem lP.qo{m:MS}:∀{rows:ak}{s:ao}(i:Nat),lP m s rows->qo m s.1 s.2 (rows.map Prod.fst) i=.bw
 |[],_,_,_=>rfl
 |t::r,s,i,h=>by
  show(if s.1=t.1\/s.2=0 then My.qo m (My.iN m s.1 s.2 t.1).1 (My.iN m s.1 s.2 t.1).2 (r.map Prod.fst) (i+1) else .int i)=.bw;rw[cT h.2.1];exact lP.qo (i+1) h.2.2.2
theorem aGs{α:Type}{xs:List α}{i:Nat}{x:α}(h:xs[i]?=some x):xs.drop i=x::xs.drop (i+1):=by
 rw[zb (iZ.mp h).1,(iZ.mp h).2]
theorem aPh(k:Nat)(hs:List Hr):(col k hs).map Prod.fst=hs.map λh=>h.ons.getD k 0:=by unfold col;rw[wm];rfl
theorem aPi(k:Nat)(hs:List Hr):(col k hs).map Prod.snd=hs.map λh=>h.outs.getD k 0:=by unfold col;rw[wm];rfl
theorem Y4{n i:Nat}(hi:i < n){h:Hr}(l:h.ons.length=n/\h.outs.length=n):lT (h.ons.map V.int) (i:Int)=some (.int (h.ons.getD i 0))/\lT (h.outs.map V.int) (i:Int)=some (.int (h.outs.getD i 0)):=by
 obtain⟨l1,l2⟩:=l;have e1:h.ons[i]?=some (h.ons[i]'(by lia)):=dM _;have e2:h.outs[i]?=some (h.outs[i]'(by lia)):=dM _;refine⟨m6 ?_,m6 ?_⟩
 ·rw[rf,e1];rfl
 ·rw[rf,e2];rfl
inductive aBK  (K:W.Frag) (C:Addr) (vs:List V) (H:Hp) (Q:VK) (E:XK):Prop
 |mk:∀(x t q o u:Addr) (m:MS) (s:ao) (qs:ae) (rows:ak),(vs=[.ref x,.ref t,.ref q,.ref o,.ref u])->cX C H x m->m.Good->(H t=some (.tup [.int s.1,.int s.2]))->nC s.1->(H q=some (.lst (qs.map V.int)))->((∀n∈qs,Am n))->(H o=some (.lst ((rows.map Prod.fst).map V.int)))->(H u=some (.lst ((rows.map Prod.snd).map V.int)))->(rows.length=qs.length)->(qs.length<=48)->lP m s rows->(∀H',aR H H'->Q (.int (rv m qs 0 s rows)) H')->aBK K C vs H Q E
theorem aHw(tx:Txt K mg a):bQ P w K mg base eR 7 a.aCT a.aCU aya (aBK K a.aW):=by
 have jS:=oV (P:=P) (w:=w) (base:=base) tx;have QP:=aC7 (P:=P) (w:=w) (base:=base) tx;refine tx.om.F.ok iI (by walk_at "l") λbq A outer s H vs Q E hr h=>?_;obtain⟨x,t,q,o,u,m,st,qs,rows,rfl ,hm,hg,ht,bs,hq,ha,ho,Wh,hl,xi,GA,k⟩:=h;have hu:=fV hr;refine aY (aE (aK (i:=5) iI.nd (bh QP hr tx.jr (aA (aB 0) (aA (aB 1) (aA (aB 3) aD)))))
  (aE (bZ PassesOwn.never rfl (kB (k1:=true) (k2:=true) (k3:=true) (by rfl) tx.jU (aA (aB 2) (aA (aB 3) (aA (aB 4) aD)))) (bK (K':=K) (n:=3) rfl (aO (aJ (i:=6) iI.nd) (aO (aJ (i:=7) iI.nd) (aO (aJ (i:=8) iI.nd) bJ)))) (aG (bC (aV (r:=iJ K) (cZ hu) (aB 7) aC (bD _)) (aG (nB (i:=5) iI.nd rfl (Or.inl rfl) (aL dS (rZ (aB 0) tx.bO tx.fg (jS) (hr.mono (by decide)) tx.cx.b .nil aU (aA (aB 8) aD)) (aL bX (aB 6) (aB 8))) FU)) aZ)))
  (aG (aM (aB 5))))) ?_
 refine aT (σ:=[some (.ref x),some (.ref t),some (.ref q),some (.ref o),some (.ref u),none,none,none,none]) rfl ?_;walk_at "w";refine⟨x,m,t,st.1,st.2,o,rows.map Prod.fst,rfl,hm,hg,ht,ho,by rw[bH];lia,GA.qo 0,λH1 s1=>?_⟩;have e0:=Y5 (qs:=qs) (i:=0) GA bs (by lia);rw[yy] at e0;walk_at "w";refine FX (Src.lst (s1 _ _ hq)) (Src.lst (s1 _ _ ho)) (Src.lst (s1 _ _ Wh)) ?_;refine aOP (n:=qs.length) (by rw[bH];lia) (by rw[bH,bH];lia) (by rw[bH,bH];lia) (.inl (by rw[bH]))
  (λi σ' H'=>aR H H'/\∃(c:Int) (z6 z7 z8:Option V),σ'=[some (.ref x),some (.ref t),some (.ref q),some (.ref o),some (.ref u),some (.int c),z6,z7,z8]/\c+ow m (qs.drop i) (rows.drop i)=rv m qs 0 st rows) ⟨s1,_,_,_,_,rfl,by rw[yy,yy];exact e0⟩
  (λi σ' H' hi ⟨s',_⟩=>⟨Src.lst (s' _ _ hq),Src.lst (s' _ _ ho),Src.lst (s' _ _ Wh)⟩) (λi xv yv zv σ' H' T Gy Gw hzv Rx nT=>?_) (λσ' H' Rw=>?_)
 ·obtain⟨s',c,z6,z7,z8,e,ec⟩:=Rx;subst e;obtain⟨qv,eq,rfl⟩:=dB Gy;obtain⟨on,eo,rfl⟩:=dB Gw;obtain⟨out,eu,rfl⟩:=dB hzv;rw[nE] at eo eu;obtain⟨t',et,rfl⟩:=oi.mp eo;rw[et] at eu;cases eu;obtain⟨J,j,sT,gT⟩:=nw _ nT;rw[j];have S2:=s'.trans sT;obtain⟨bo,oo⟩:=GA.at et;obtain⟨p0,p1⟩:=ha qv (jW eq);rw[aGs eq,aGs et] at ec;have Fo:c+((if t'.1=1 then cst m.pieces (t'.2 - m.least) - qv*t'.2 else 0)+ow m (qs.drop (i+1)) (rows.drop (i+1)))=rv m qs 0 st rows:=ec;have Bt:=hm.same S2;obtain⟨dx,pl,hx,_⟩:=Bt.ex;refine cM (gZ.of gT) rfl ?_;walk_at "w";refine cB (λh1=>?_) (λh1=>?_)
  ·rw[cT h1] at Fo;obtain⟨u0,u1⟩:=oo.2 (by lia);walk_at "w";refine FQ rfl ?_;walk_at "w";refine⟨x,dx,_,rfl,hx,rfl,?_⟩;walk_at "w";refine⟨x,m,t'.2,rfl,Bt,hg,u0,u1,λH2 s2=>?_⟩;walk_at "w";exact⟨S2.trans s2,_,_,_,_,rfl,by lia⟩
  ·rw[cD h1] at Fo;walk_at "w";exact⟨S2,_,_,_,_,rfl,by lia⟩
 ·obtain⟨s',c,z6,z7,z8,e,ec⟩:=Rw;subst e;walk_at "w";rw[HY,show ow m [] (rows.drop qs.length)=0 from rfl,zu] at ec;rw[<-ec] at k;exact k _ s'
inductive pX  (K:W.Frag) (CW CM CS:Addr) (vs:List V) (H:Hp) (Q:VK) (E:XK):Prop
 |mk:∀(w x y q:Addr) (W:WS) (P:Ps) (hs:List Hr) (qs:ae),(vs=[.ref w,.ref x,.ref y,.ref q])->dQ CW CM CS H w W->W.Good->fG H x P->jQ W P->kI H y hs->cC W P hs->(H q=some (.lst (qs.map V.int)))->((∀n∈qs,Am n))->(hs.length=qs.length)->(qs.length<=48)->(∀(l:Addr) (H':Hp),aR H H'->H l=none->H' l=some (.lst ((Aa qs hs 0 W.specs P.1).map V.int))->Q (.ref l) H')->pX K CW CM CS vs H Q E
theorem aBL(tx:Txt K mg a):bQ P w K mg base eR 8 a.rF a.rG aea (pX K a.cN a.aW a.bS):=by
 have aIP:=aHw (P:=P) (w:=w) (base:=base) tx;refine tx.ft.F.ok eC (by walk_at "l") λbq A outer s H vs Q E hr h=>?_;obtain⟨w,x,y,q,W,P,hs,qs,rfl ,hw,hg,hP,bf,hy,yo,hq,ha,hl,xi,k⟩:=h;have hu:=fV hr;refine aY (aE (aK (i:=4) eC.nd (eM aD))
  (aE (bZ PassesOwn.never rfl (iY (K':=K) (by rfl) tx.fX (aA (a8 (K':=K) (aB 0) rfl) aD)) (bK (K':=K) (n:=2) rfl (aO (aJ (i:=5) eC.nd rfl (Or.inr rfl)) (aO (aJ (i:=6) eC.nd) bJ))) (aE (c8 (k:=1) (idx:=[5]) (N:=bNa) (i:=7) eC.nd rfl (Or.inl rfl) (bY (sc:=aI fQ) (NX:=ara) rfl rfl rfl (by decide +kernel)) rfl (bI (K':=K) (aB 2)) (λ_ _ _ _=>(aJ (i:=0) (show(bNa:ah).Nodup by decide +kernel))) (cJ (by decide)) (λ_ _ _ _=>bE) (λ_ _ _ _=>(aH (K':=K) (aH (K':=K) (aB 0) aC) (aB 1))))
  (aE (c8 (k:=1) (idx:=[5]) (N:=bNa) (i:=8) eC.nd rfl (Or.inl rfl) (bY (sc:=aI fQ) (NX:=ara) rfl rfl rfl (by decide +kernel)) rfl (bI (K':=K) (aB 2)) (λ_ _ _ _=>(aJ (i:=0) (show(bNa:ah).Nodup by decide +kernel))) (cJ (by decide)) (λ_ _ _ _=>bE) (λ_ _ _ _=>(aH (K':=K) (aH (K':=K) (aB 0) aC) (aB 1))))
  (aG (dC (dW (K':=K) (aB 4) (aA (bh aIP hr tx.om (aA (aB 6) (aA (aH (K':=K) (aH (K':=K) (aB 1) aC) (aB 5)) (aA (aB 3) (aA (aB 7) (aA (aB 8) aD)))))) aD)))))))
  (aG (aM (aB 4))))) ?_
 obtain⟨dx,lm,st,gw,Cv,di⟩:=hw.ex;obtain⟨ms,A9,AW⟩:=Cv.ex;obtain⟨t,gP,Af⟩:=hP.ex;obtain⟨ts,DP,Cf⟩:=Af.ex;obtain⟨qh,gy,rh⟩:=hy.ex;have Gu:=AW.len;have Cp:=Cf.len;have EX:=bf.len;have l6:=hg.len;have Dw:=rh.len;have lrv:=HH (qs:=qs) (hs:=hs) (k:=0) EX;refine aT (σ:=[some (.ref w),some (.ref x),some (.ref y),some (.ref q),none,none,none,none,none]) rfl ?_;walk_at "w";intro c nc;obtain⟨H1,i1,s1,g1⟩:=nw _ nc;rw[i1];have Bw:=s1 _ _ gw;walk_at "w";refine cE Bw tx.dP tx.cQ rfl ?_;walk_at "w";refine FK (bP.of (s1 _ _ A9)) ?_;refine xG (xs:=ms.map V.ref) (λi σ' H'=>aR H H'/\H' c=some (.lst (((Aa qs hs 0 W.specs P.1).take i).map V.int))/\∃(z5 z6 z7 z8:Option V),σ'=[some (.ref w),some (.ref x),some (.ref y),some (.ref q),some (.ref c),z5,z6,z7,z8]) ⟨s1,g1,_,_,_,_,rfl⟩
  (λi σ' H' hi ⟨s',_⟩=>bP.of (s' _ _ A9)) (λi v σ' H' T hv Rv nT=>?_) (λσ' H' Jt=>?_)
 ·obtain⟨s',gc,z5,z6,z7,z8,e⟩:=Rv;subst e;obtain⟨xm,m,_,rfl,em,hm⟩:=AW.get hv;have im:i < W.specs.length:=(iZ.mp em).1;have Ow:P.1[i]?=some (P.1[i]'(by lia)):=dM _;obtain⟨tq,GZ,Ct⟩:=Cf.ix (show i < P.1.length by lia);have sv:=bf.vs _ (uu (show i < P.1.length by lia));generalize P.1[i]'(by lia)=a' at Ow Ct sv;have gm:=hg.specs m (jW em);have GA:=yo.row em Ow;have X9:=P7 (qs:=qs) (hs:=hs) (k:=0) em Ow;rw[HN] at X9;obtain⟨J,j,sT,gT⟩:=nw _ nT;rw[j];have S2:=s'.trans sT;have CB:=S2 _ _ gy;refine cM (gZ.of gT) rfl ?_;walk_at "w";refine fO (bP.of CB) ?_;refine dF (xs:=qh.map V.ref) (λj us H3=>H3=J/\us=((hs.take j).map λh=>h.ons.getD i 0).map V.int) ⟨rfl,rfl⟩ (bV (by rw[bH];lia))
   (λj us H3 hj ⟨e0,e1⟩=>⟨by rw[e0];exact bP.of CB,by rw[e1,bH,bH,og];lia⟩) (λj v us H3 hv Js=>?_) (λus H3 Jr=>?_)
  ·obtain⟨e0,e1⟩:=Js;subst e0;obtain⟨qy,h,_,rfl,eh,hh⟩:=rh.get hv;obtain⟨a1,a2,gq,Oo,GY⟩:=(hh.tk S2.tk).ex;have ih:=(Y4 im (yo.FA h (jW eh))).1;walk_at "w";refine⟨rfl,?_⟩;rw[e1,take_snoc eh,gR,gR];rfl
  obtain⟨e0,e1⟩:=Jr;subst e0 e1;rw[bH,Dw,mq];intro lo Gq;obtain⟨H4,i4,s4,g4⟩:=nw _ Gq;rw[i4];have S4:=S2.trans s4;have WQ:=S4 _ _ gy;walk_at "w";refine fO (bP.of WQ) ?_;refine dF (xs:=qh.map V.ref) (λj us H3=>H3=H4/\us=((hs.take j).map λh=>h.outs.getD i 0).map V.int) ⟨rfl,rfl⟩ (bV (by rw[bH];lia))
   (λj us H3 hj ⟨e0,e1⟩=>⟨by rw[e0];exact bP.of WQ,by rw[e1,bH,bH,og];lia⟩) (λj v us H3 hv Jq=>?_) (λus H3 Jp=>?_)
  ·obtain⟨e0,e1⟩:=Jq;subst e0;obtain⟨qy,h,_,rfl,eh,hh⟩:=rh.get hv;obtain⟨a1,a2,gq,Oo,GY⟩:=(hh.tk S4.tk).ex;have ih:=(Y4 im (yo.FA h (jW eh))).2;walk_at "w";refine⟨rfl,?_⟩;rw[e1,take_snoc eh,gR,gR];rfl
  obtain⟨e0,e1⟩:=Jp;subst e0 e1;rw[bH,Dw,mq];intro lu nlu;obtain⟨H5,i5,s5,g5⟩:=nw _ nlu;rw[i5];have S5:=S4.trans s5;have gP5:=S5 _ _ gP;have a0v:=S5 _ _ DP;have Fl:=(sT.trans (s4.trans s5)) _ _ gc;have Nj:lT (ts.map V.ref) (i:Int)=some (.ref tq):=sZ GZ;walk_at "w";refine iT (bP.of Fl) ?_;walk_at "w";refine⟨xm,tq,q,lo,lu,m,a',qs,col i hs,rfl,hm.tr S5.tr,gm,S5 _ _ Ct,sv.1,S5 _ _ hq,ha,by rw[s5 _ _ g4,aPh],by rw[g5,aPi],by unfold col;rw[bH];exact hl,xi,GA,λH6 s6=>?_⟩;have Ol:=s6 _ _ Fl;walk_at "w";refine j0 (xs:=((Aa qs hs 0 W.specs P.1).take i).map V.int) Ol (rQ (by rw[bH,og];lia:(((Aa qs hs 0 W.specs P.1).take i).map V.int).length < 2000) (bV (by decide))) ?_;obtain⟨H7,i7,k7,g7⟩:=wr H6 c _;rw[i7];walk_at "w";refine⟨λb o e=>k7 _ _ ((S5.trans s6) _ _ e) (bG nc e),?_,_,_,_,_,rfl⟩;rw[g7,take_snoc X9,gR];rfl
 ·obtain⟨s',gc,z5,z6,z7,z8,e⟩:=Jt;subst e;rw[bH,Gu,za (by lia)] at gc;walk_at "w";exact k c _ s' nc gc
inductive xC  (K:W.Frag) (CW CM CS:Addr) (vs:List V) (H:Hp) (Q:VK) (E:XK):Prop
 |mk:∀(w x y q:Addr) (W:WS) (P:Ps) (hs:List Hr) (qs:ae),(vs=[.ref w,.ref x,.ref y,.ref q])->dQ CW CM CS H w W->W.Good->fG H x P->kI H y hs->(H q=some (.lst (qs.map V.int)))->((∀n∈qs,Am n))->(hs.length=qs.length)->(qs.length<=48)->(∀(H':Hp),aR H H'->Q (.int (Cj W.store P.2 qs (hs.map Hr.b8))) H')->xC K CW CM CS vs H Q E
theorem aEW(tx:Txt K mg a):bQ P w K mg base eR 3 a.yX a.yY aea (xC K a.cN a.aW a.bS):=by
 have aHx:=aFw (P:=P) (w:=w) (base:=base) tx;refine tx.jf.F.ok vO (by walk_at "l") λbq A outer s H vs Q E hr h=>?_;obtain⟨w,x,y,q,W,P,hs,qs,rfl ,hw,hg,hP,hy,hq,ha,hl,xi,k⟩:=h;have hu:=fV hr;refine aY (aE (c8 (k:=1) (idx:=[]) (N:=["planned"]) (i:=4) vO.nd rfl (Or.inl rfl) (bY (sc:=aI kQ) (NX:=bRa) rfl rfl rfl (by decide +kernel)) rfl (bI (K':=K) (aB 2)) (λ_ _ _ _=>(aJ (i:=0) (show(["planned"]:ah).Nodup by decide +kernel))) (cJ (by decide)) (λ_ _ _ _=>bE) (λ_ _ _ _=>(aH (K':=K) (aB 0) aC)))
  (aG (aM (oX (aV qA (a8 (K':=K) (aB 0) rfl) cU (bD _)) aC (bh aHx hr tx.kh (aA (a8 (K':=K) (aB 0) rfl) (aA (aH (K':=K) (aB 1) aC) (aA (aB 3) (aA (aB 4) aD))))))))) ?_
 obtain⟨dx,lm,st,gw,Cv,di⟩:=hw.ex;obtain⟨t,gP,Af⟩:=hP.ex;obtain⟨qh,gy,rh⟩:=hy.ex;have Dw:=rh.len;refine aT (σ:=[some (.ref w),some (.ref x),some (.ref y),some (.ref q),none]) rfl ?_;walk_at "w";refine fO (bP.of gy) ?_;refine dF (xs:=qh.map V.ref) (λj us H3=>H3=H/\us=((hs.take j).map Hr.b8).map V.int) ⟨rfl,rfl⟩ (bV (by rw[bH];lia))
  (λj us H3 hj ⟨e0,e1⟩=>⟨by rw[e0];exact bP.of gy,by rw[e1,bH,bH,og];lia⟩) (λj v us H3 hv Jo=>?_) (λus H3 Jn=>?_)
 ·obtain⟨e0,e1⟩:=Jo;subst e0;obtain⟨qy,h,_,rfl,eh,hh⟩:=rh.get hv;obtain⟨a1,a2,gq,Oo,GY⟩:=hh.ex;walk_at "w";refine⟨rfl,?_⟩;rw[e1,take_snoc eh,gR,gR];rfl
 obtain⟨e0,e1⟩:=Jn;subst e0 e1;rw[bH,Dw,mq];intro lp nlp;obtain⟨H1,i1,s1,g1⟩:=nw _ nlp;rw[i1];have Bw:=s1 _ _ gw;walk_at "w";refine cE Bw tx.dP tx.dZ rfl ?_;cases e:W.store with
 |none=>
  rw[e] at di k
  replace di:st=.bw:=di
  subst di;repeat walk_at "gs"
  exact k _ s1
 |some sv=>
  rw[e] at di k;obtain⟨c,rfl,hc⟩:=di;have gP1:=s1 _ _ gP;repeat walk_at "gs"
  refine cE Bw tx.dP tx.dZ rfl ?_;repeat walk_at "gs"
  refine⟨c,sv,P.2,q,lp,qs,hs.map Hr.b8,rfl,hc.same s1,hg.store sv e,s1 _ _ hq,g1,ha,by rw[bH];lia,λH2 s2=>?_⟩;walk_at "w";exact k H2 (s1.trans s2)
inductive zO  (K:W.Frag) (CW CM CS t1 t2 t3 t4:Addr) (vs:List V) (H:Hp) (Q:VK) (E:XK):Prop
 |mk:∀(w x u y q:Addr) (W:WS) (P:Ps) (ws:ae) (hs:List Hr) (qs:ae),(vs=[.ref w,.ref x,.ref u,.ref y,.ref q])->dQ CW CM CS H w W->W.Good->fG H x P->uM W P->(H u=some (.lst (ws.map V.int)))->kI H y hs->cC W P hs->(H q=some (.lst (qs.map V.int)))->((∀n∈qs,Am n))->(ws.length=hs.length)->(hs.length=qs.length)->(qs.length<=48)->Bd H t1 t2 t3 t4->(∀(T a b c:Addr) (H':Hp),aR H H'->H T=none->H a=none->H b=none->H c=none->a≠b->a≠c->b≠c->H' T=some (.tup [.ref a,.int (gS W P hs qs),.ref b,.ref c])->H' a=some (.lst ((gM W P hs qs).map V.int))->H' b=some (.lst ((gW W P ws hs qs).map V.int))->H' c=some (.lst ((gL W P ws hs qs).map V.int))->Q (.ref T) H')->zO K CW CM CS t1 t2 t3 t4 vs H Q E
theorem aFH(tx:Txt K mg a):bQ P w K mg base eR 15 a.aBc a.aBd axa (zO K a.cN a.aW a.bS a.cH a.dE a.cG a.cY):=by
 have iL:=lO (P:=P) (w:=w) (base:=base) tx;have kK:=pW (P:=P) (w:=w) (base:=base) tx;have aIQ:=aHo (P:=P) (w:=w) (base:=base) tx;have aCe:=aBL (P:=P) (w:=w) (base:=base) tx;have aFI:=aEW (P:=P) (w:=w) (base:=base) tx;refine tx.kg.F.ok fE (by walk_at "l") λbq A outer s H vs Q E hr h=>?_;obtain⟨w,x,u,y,q,W,P,ws,hs,qs,rfl ,hw,hg,hP,hB,Ad,hy,yo,hq,ha,tm,vj,xi,hT,k⟩:=h;have hu:=fV hr;refine aY (aE (aK (i:=5) fE.nd (bh aCe hr tx.ft (aA (aB 0) (aA (aB 1) (aA (aB 3) (aA (aB 4) aD))))))
  (aE (c8 (k:=2) (idx:=[]) (N:=bUa) (i:=6) fE.nd rfl (Or.inl rfl) (bY (sc:=aI iF) (NX:=ue) rfl rfl rfl (by decide +kernel)) rfl (gB (k1:=true) (k2:=true) (by rfl) tx.jU (aA (aB 5) (aA (bh iL hr tx.cu (aA (aB 0) (aA (aB 1) (aA (aB 4) aD)))) aD))) (λ_ _ _ _=>(bK (K':=K) (n:=2) rfl (aO (aJ (i:=0) (show(bUa:ah).Nodup by decide +kernel)) (aO (aJ (i:=1) (show(bUa:ah).Nodup by decide +kernel)) bJ)))) (fY (bF (by decide) (bF (by decide) eQ))) (λ_ _ _ _=>bE) (λ_ _ _ _=>(aL dS (aB 0) (aB 1))))
  (aE (aK (i:=7) fE.nd (aL dS (bh aFI hr tx.jf (aA (aB 0) (aA (aB 1) (aA (aB 3) (aA (aB 4) aD))))) (bh kK hr tx.de (aA (aB 0) (aA (aB 1) (aA (aB 4) aD))))))
  (aE (aK (i:=8) fE.nd (bh aIQ hr tx.ot (aA (aB 0) (aA (aB 1) (aA (aB 2) (aA (aB 3) aD))))))
  (aE (c8 (k:=2) (idx:=[]) (N:=bXa) (i:=9) fE.nd rfl (Or.inl rfl) (bY (sc:=aI iF) (NX:=ue) rfl rfl rfl (by decide +kernel)) rfl (gB (k1:=true) (k2:=true) (by rfl) tx.jU (aA (aB 4) (aA (aB 8) aD))) (λ_ _ _ _=>(bK (K':=K) (n:=2) rfl (aO (aJ (i:=0) (show(bXa:ah).Nodup by decide +kernel)) (aO (aJ (i:=1) (show(bXa:ah).Nodup by decide +kernel)) bJ)))) (fY (bF (by decide) (bF (by decide) eQ))) (λ_ _ _ _=>bE) (λ_ _ _ _=>(aL bX (aB 0) (aH (K':=K) (aB 1) aC))))
  (aE (c8 (k:=2) (idx:=[0]) (N:=bKa) (i:=10) fE.nd rfl (Or.inl rfl) (bY (sc:=aI iF) (NX:=ue) rfl rfl rfl (by decide +kernel)) rfl (gB (k1:=true) (k2:=true) (by rfl) tx.jU (aA (aB 4) (aA (aB 8) aD))) (λ_ _ _ _=>(bK (K':=K) (n:=2) rfl (aO (aJ (i:=0) (show(bKa:ah).Nodup by decide +kernel)) (aO (aJ (i:=1) (show(bKa:ah).Nodup by decide +kernel)) bJ)))) (fY (bF (by decide) (bF (by decide) eQ))) (λ_ _ _ _=>bE) (λ_ _ _ _=>(aL bX (aL dS (a8 (K':=K) (aB 2) rfl) (aB 0)) (aH (K':=K) (aB 1) aC))))
  (aG (aM (ZP (aB 6) (aB 7) (aB 9) (aB 10)))))))))) ?_
 have lrv:=HH (qs:=qs) (hs:=hs) (k:=0) hB.ok.len;have llm:=P6 hB.ok.len qs;have l6:=hg.len;have llo:=HI W (P:=P) tm;obtain⟨k0,k1⟩:=hg.cw;refine aT (σ:=[some (.ref w),some (.ref x),some (.ref u),some (.ref y),some (.ref q),none,none,none,none,none,none]) rfl ?_;walk_at "w";refine⟨w,x,y,q,W,P,hs,qs,rfl,hw,hg,hP,hB.ok,hy,yo,hq,ha,vj,xi,λlv H1 s1 nlv g1=>?_⟩;walk_at "w";refine⟨w,W,x,P,q,qs,rfl,hw.tr s1.tr,hg,hP.tk s1.tk,hB,s1 _ _ hq,ha,xi,hT.same s1,λl2 H2 s2 g2=>?_⟩;have S2:=s1.trans s2;have KQ:=s2 _ _ g1;walk_at "w";refine sC (Src.lst KQ) (Src.lst g2) ?_;refine j9 (n:=W.specs.length) (by rw[bH];lia) (by rw[bH];lia) (.inl (by rw[bH];lia)) (bV (by lia))
  (λi us H'=>aR H2 H'/\us=((gM W P hs qs).take i).map V.int/\us.length<=i) ⟨aR.refl _,rfl,eO _⟩
  (λi us H' hi ⟨s',e1,e2⟩=>⟨⟨Src.lst (s' _ _ KQ),Src.lst (s' _ _ g2)⟩,e2⟩)
  (λi xv yv us H' T hx Gx Jm nT=>?_) (λus H' Jl=>?_)
 ·obtain⟨s',e1,e2⟩:=Jm;obtain⟨av,ea,rfl⟩:=dB hx;obtain⟨bv,eb,rfl⟩:=dB Gx;obtain⟨J,j,sT,gT⟩:=nw _ nT;rw[j];have eg:(gM W P hs qs)[i]?=some (av - bv):=by unfold gM;rw[C3,ea,eb]
  refine cM (gZ.of gT) rfl ?_;walk_at "w";refine⟨s'.trans sT,?_,by rw[iR,qf];lia⟩;rw[e1,take_snoc eg,gR];rfl
 obtain⟨s',e1,e2⟩:=Jl;subst e1;rw[za (by rw[Hx hB.ok.len];exact eO _)];intro ra na;obtain⟨H3,i3,s3,g3⟩:=nw _ na;rw[i3];have S3:=S2.trans (s'.trans s3);have Ui:H ra=none:=(S2.trans s').free na;walk_at "w";refine⟨w,x,y,q,W,P,hs,qs,rfl,hw.tr S3.tr,hg,hP.tk S3.tk,hy.tr S3.tr,S3 _ _ hq,ha,vj,xi,λH4 s4=>?_⟩;have S4:=S3.trans s4;walk_at "w";refine⟨w,W,x,P,q,qs,rfl,hw.tr S4.tr,hg,hP.tk S4.tk,hB,S4 _ _ hq,ha,xi,hT.same S4,λH5 s5=>?_⟩;have S5:=S4.trans s5;walk_at "w";refine⟨w,x,u,y,W,P,ws,hs,rfl,hw.tr S5.tr,hg,hP.tk S5.tk,hB.ok,S5 _ _ Ad,hy.tr S5.tr,yo,tm,by lia,λr H6 s6 nr hr6=>?_⟩;have S6:=S5.trans s6;obtain⟨qr,gr,rr⟩:=hr6.ex;have lqr:=rr.len;have Kw:=S6 _ _ hq;walk_at "w";refine sC (Src.lst Kw) (Src.lst gr) ?_;refine j9 (n:=qs.length) (by rw[bH];lia) (by rw[bH];lia) (.inl (by rw[bH])) (bV (by lia))
  (λi us H'=>aR H6 H'/\us=((gW W P ws hs qs).take i).map V.int/\us.length<=i) ⟨aR.refl _,rfl,eO _⟩
  (λi us H' hi ⟨s',e1,e2⟩=>⟨⟨Src.lst (s' _ _ Kw),Src.lst (s' _ _ gr)⟩,e2⟩)
  (λi xv yv us H' T hx Gx Jk nT=>?_) (λus H' Jj=>?_)
 ·obtain⟨s',e1,e2⟩:=Jk;obtain⟨qv,eq,rfl⟩:=dB hx;obtain⟨qa,tv,_,rfl,et,NB⟩:=rr.get Gx;obtain⟨p0,p1⟩:=ha qv (jW eq);obtain⟨J,j,sT,gT⟩:=nw _ nT;rw[j];have eg:(gW W P ws hs qs)[i]?=some (qv*tv.1):=by unfold gW;rw[C3,eq,et]
  have Uy:=(s'.trans sT) _ _ NB;refine cM (gZ.of gT) rfl ?_;walk_at "w";refine⟨s'.trans sT,?_,by rw[iR,qf];lia⟩;rw[e1,take_snoc eg,gR];rfl
 obtain⟨s7,e1,e2⟩:=Jj;subst e1;rw[za (by unfold gW;rw[CY];lia)];intro rb nb;obtain⟨H7,i7,s8,g7⟩:=nw _ nb;rw[i7];have S7:=S6.trans (s7.trans s8);have Uh:H rb=none:=(S6.trans s7).free nb;have Rm:aR H3 H':=s4.trans (s5.trans (s6.trans s7));have ab:ra≠rb:=bG nb (Rm _ _ g3);have We:=S7 _ _ hq;have WU:=(s7.trans s8) _ _ gr;have hw7:=hw.tr S7.tr;obtain⟨dx,lm,st,gw,Cv,di⟩:=hw7.ex;walk_at "w";refine sC (Src.lst We) (Src.lst WU) ?_;refine j9 (n:=qs.length) (by rw[bH];lia) (by rw[bH];lia) (.inl (by rw[bH])) (bV (by lia))
  (λi us H'=>aR H7 H'/\us=((gL W P ws hs qs).take i).map V.int/\us.length<=i) ⟨aR.refl _,rfl,eO _⟩
  (λi us H' hi ⟨s',e1,e2⟩=>⟨⟨Src.lst (s' _ _ We),Src.lst (s' _ _ WU)⟩,e2⟩)
  (λi xv yv us H' T hx Gx Ji nT=>?_) (λus H8 Jh=>?_)
 ·obtain⟨s',e1,e2⟩:=Ji;obtain⟨qv,eq,rfl⟩:=dB hx;obtain⟨qa,tv,_,rfl,et,NB⟩:=rr.get Gx;obtain⟨p0,p1⟩:=ha qv (jW eq);obtain⟨J,j,sT,gT⟩:=nw _ nT;rw[j];have eg:(gL W P ws hs qs)[i]?=some ((W.cw - qv)*tv.2):=by unfold gL;rw[C3,eq,et]
  have Uy:=((s7.trans s8).trans (s'.trans sT)) _ _ NB;have Fg:=(s'.trans sT) _ _ gw;refine cM (gZ.of gT) rfl ?_;walk_at "w";refine cE Fg tx.dP tx.sW rfl ?_;walk_at "w";refine⟨s'.trans sT,?_,by rw[iR,qf];lia⟩;rw[e1,take_snoc eg,gR];rfl
 obtain⟨s9,e1,e2⟩:=Jh;subst e1;rw[za (by unfold gL;rw[CY];lia)];intro rc nc;obtain⟨H9,i9,Ce,g9⟩:=nw _ nc;rw[i9];have S9:=S7.trans (s9.trans Ce);have Ug:H rc=none:=(S7.trans s9).free nc;have ac:ra≠rc:=bG nc ((Rm.trans (s8.trans s9)) _ _ g3);have bc:rb≠rc:=bG nc (s9 _ _ g7);walk_at "w";intro T nT;obtain⟨HA,iA,sA,gA⟩:=nw _ nT;rw[iA];walk_at "w";exact k T ra rb rc HA (S9.trans sA) (S9.free nT) Ui Uh Ug ab ac bc gA ((Rm.trans (s8.trans (s9.trans (Ce.trans sA)))) _ _ g3) ((s9.trans (Ce.trans sA)) _ _ g7) (sA _ _ g9)
theorem Y3{W:WS}{P:Ps}{hs:List Hr}{qs:ae}{i:Nat}{m:MS}{s:ao}(h1:W.specs[i]?=some m)(h2:P.1[i]?=some s):(gM W P hs qs)[i]?=some (rv m qs 0 s (col i hs) - Dq m qs s):=by
 have e:=P7 (qs:=qs) (hs:=hs) (k:=0) h1 h2;rw[HN] at e;unfold gM EZ;rw[C3,e,C3,h1,h2]
theorem Z6{m:MS}(g:m.Good){qs:ae}:∀{rows:ak}{i:Nat}{s:ao},lP m s rows->nC s.1->wF (Wr m qs) rows.length i s<=rv m qs i s rows
 |[],_,_,_,_=>uo _
 |t::r,i,s,h,b=>by
  obtain⟨bt,may,out,hr⟩:=h;have ih:=Z6 g (qs:=qs) (rows:=r) (i:=i+1) (s:=iN m s.1 s.2 t.1) hr (by rw[xO bt];exact bt);have a:=xP (wF (Wr m qs) r.length (i+1)) (ws:=Wr m qs i s) (w:=(t.1,iN m s.1 s.2 t.1,hw m (qs.getD i 0) s t.1)) (xQ.mpr ⟨t.1,bt,may,rfl⟩);have a':wF (Wr m qs) (r.length+1) i s<=hw m (qs.getD i 0) s t.1+wF (Wr m qs) r.length (i+1) (iN m s.1 s.2 t.1):=a;have c:=aSr g b (q:=qs.getD i 0) bt out;show wF (Wr m qs) (r.length+1) i s<=hc m s (qs.getD i 0) t.1 t.2+rv m qs (i+1) (iN m s.1 s.2 t.1) r;lia
theorem cC.VI{W:WS}{s:SS}(e:W.store=some s):∀{hs:List Hr}{P:Ps},cC W P hs->Eb s P.2 (hs.map Hr.b8)
 |[],_,_=>trivial
 |h::hs,P,x=>by
  have l:=x.1.b8;unfold BN at l;rw[e] at l;exact⟨l,cC.VI e (P:=pN W P h) x.2⟩
def xf(W:WS)(P:Ps)(ws:ae)(hs:List Hr)(qs:ae):ae:=gM W P hs qs ++ [gS W P hs qs] ++ gW W P ws hs qs++gL W P ws hs qs
theorem aSs{W:WS}(hg:W.Good){P:Ps}(hB:uM W P){hs:List Hr}(x:cC W P hs){qs:ae}(l:hs.length=qs.length):∀n∈gM W P hs qs,0<=n:=λn hn=>by
 obtain⟨i,ei⟩:=ye hn;have il:i < W.specs.length:=by rw[<-Hx hB.ok.len hs qs];exact(iZ.mp ei).1
 have em:W.specs[i]?=some W.specs[i]:=dM il;have Kn:i < P.1.length:=by rw[hB.ok.len];exact il
 have es:P.1[i]?=some P.1[i]:=dM Kn;rw[Y3 em es] at ei;cases ei;have a:=Z6 (hg.specs _ (uu il)) (qs:=qs) (i:=0) (x.row em es) (hB.ok.vs _ (uu Kn)).1;rw[show(col i hs).length=qs.length by unfold col;rw[bH];exact l] at a;unfold Dq;lia
theorem aSt{W:WS}(hg:W.Good){P:Ps}(hB:uM W P){hs:List Hr}(x:cC W P hs){qs:ae}(l:hs.length=qs.length):0<=gS W P hs qs:=by
 unfold gS EU;have lv:=hB.ok.b8;unfold jV at lv;cases e:W.store with
 |none=>exact uo _
 |some s=>
  rw[e] at lv;have a:=aRw (hg.store s e) (ps:=qs) lv.1 lv.2 (x.VI e) (by rw[bH];exact l);show 0<=pw s P.2 qs (hs.map Hr.b8) - ET s qs P.2;lia
theorem PL{W:WS}:∀{ws:ae}{hs:List Hr}{P:Ps},∀t∈uc W P ws hs,0<=t.1/\0<=t.2
 |[],_,_,t,h=>by simp[uc] at h
 |_::_,[],_,t,h=>by simp[uc] at h
 |w::ws,h::hs,P,t,ht=>by
  have Br:t∈lo1 W P.2 w h::uc W (pN W P h) ws hs:=ht;rcases lR.mp Br with rfl|z
  ·refine⟨?_,?_⟩
   ·show 0<=max (xg W P.2 w h) 0;lia
   ·show 0<=max (-(xg W P.2 w h)) 0;lia
  ·exact PL (P:=pN W P h) t z
theorem HG{f:Int->ao->Int}:∀{qs:ae}{ts:ak}{n:Int},n∈List.zipWith f qs ts->∃q∈qs,∃t∈ts,n=f q t
 |[],_,_,h=>by simp at h
 |_::_,[],_,h=>by simp at h
 |q::qs,t::ts,n,h=>by
  rw[List.zipWith_cons_cons] at h;rcases lR.mp h with rfl|z
  ·exact⟨q,.head _,t,.head _,rfl⟩
  ·obtain⟨q',a,t',b,e⟩:=HG z;exact⟨q',xS _ a,t',xS _ b,e⟩
theorem aRy{W:WS}(hg:W.Good){P:Ps}(hB:uM W P){hs:List Hr}(x:cC W P hs){qs ws:ae}(l:hs.length=qs.length)(hq:∀n∈qs,0<=n/\n<=W.cw):∀n∈xf W P ws hs qs,0<=n:=λn hn=>by
 unfold xf at hn;rcases oa.mp hn with hn|hn
 ·rcases oa.mp hn with hn|hn
  ·rcases oa.mp hn with hn|hn
   ·exact aSs hg hB x l n hn
   ·rw[ng.mp hn];exact aSt hg hB x l
  ·obtain⟨q,a,t,b,rfl⟩:=HG hn;exact D4 (hq q a).1 (PL t b).1
 ·obtain⟨q,a,t,b,rfl⟩:=HG hn;exact D4 (by have:=(hq q a).2;lia) (PL t b).2
theorem aPj{W:WS}(P:Ps)(ws:ae)(hs:List Hr)(qs:ae):List.sum (xf W P ws hs qs)=List.sum (gM W P hs qs)+gS W P hs qs+List.sum (gW W P ws hs qs)+List.sum (gL W P ws hs qs):=by
 unfold xf;rw[HV,HV,HV,xy,List.sum_nil];lia
theorem aEX:∀{ns:ae},(∀n∈ns,0<=n)->(List.sum ns=0↔∀n∈ns,n=0)/\0<=List.sum ns
 |[],_=>⟨⟨λ_ n h=>(by cases h),λ_=>rfl⟩,uo _⟩
 |n::ns,h=>by
  obtain⟨a,b⟩:=aEX (ns:=ns) λk hk=>h k (xS _ hk);have c:=h n (.head _);rw[xy];refine⟨⟨λe k hk=>?_,λe=>?_⟩,by lia⟩
  ·rcases lR.mp hk with rfl|z
   ·lia
   ·exact a.mp (by lia) k z
  ·have z1:=e n (.head _);have z2:=a.mpr λk hk=>e k (xS _ hk);lia
theorem aJX{ns:ae}{mx:Int}(h:∀n∈ns,0<=n)(hm:mx∈ns)(hx:∀n∈ns,n<=mx):mx=0↔List.sum ns=0:=by
 rw[(aEX h).1];refine⟨λe n hn=>?_,λe=>e mx hm⟩;have:=h n hn;have:=hx n hn;lia
theorem aPk{m:MS}(g:m.Good){s:ao}(bs:nC s.1){q on e:Int}(b:nC on)(h1:m.least+jq q m.pieces<=e)(h2:e<=m.least+jq q m.pieces+uf q m.pieces):hc m s q on (on*e)=hw m q s on/\tW m on (on*e):=by
 have up:=g.pieces.MF;obtain⟨lo0,eq0,le1⟩:=Lp (p:=q) up;unfold hc;rcases b with rfl|rfl
 ·rw[cD (by decide),Ym];exact⟨rfl,λ_=>Int.zero_mul _,λz=>absurd rfl z⟩
 ·rw[cT rfl,Yl m q bs,Int.one_mul];have z:=(best (p:=q) (ps:=m.pieces) (left:=e - m.least) up (by lia) (by lia)).2.mpr ⟨by lia,by lia⟩;refine⟨?_,λz=>absurd z (by decide),λ_=>⟨by lia,by lia⟩⟩;unfold Fh;rw[CP] at z;lia
theorem Z4{m:MS}(g:m.Good){qs:ae}:∀{ns:ae}{rows:ak}{i:Nat}{s:ao}{v:Int},uL (Wr m qs) i s ns=some v->rows.length=ns.length->(∀(j:Nat) t on,rows[j]?=some t->ns[j]?=some on->t.1=on/\∃e,t.2=on*e/\m.least+jq (qs.getD (i+j) 0) m.pieces<=e/\e<=m.least+jq (qs.getD (i+j) 0) m.pieces+uf (qs.getD (i+j) 0) m.pieces)->nC s.1->lP m s rows/\rv m qs i s rows=v
 |[],[],_,_,_,h,_,_,_=>by cases h;exact⟨trivial,rfl⟩
 |[],_::_,_,_,_,_,h,_,_=>by cases h
 |_::_,[],_,_,_,_,h,_,_=>by cases h
 |n::ns,t::rows,i,s,v,h,hl,hb,bs=>by
  unfold uL at h;cases q:(Wr m qs i s).find? λw=>decide (w.1=n) with
  |none=>rw[q] at h;cases h
  |some w=>
   rw[q] at h;obtain⟨on,wj,may,rfl⟩:=xQ.mp (C5 q);have e:on=n:=ua (HU (p:=λw:Wy (ao)=>decide (w.1=n)) q);subst e;obtain⟨v',Ae,ev⟩:=oi.mp h;obtain⟨e1,e,e2,e3,e4⟩:=hb 0 t on rfl rfl;rw[Nat.add_zero] at e3 e4;obtain⟨c1,c2⟩:=aPk g bs wj e3 e4;obtain⟨r1,r2⟩:=Z4 g (qs:=qs) (ns:=ns) (rows:=rows) (i:=i+1) (s:=iN m s.1 s.2 on) Ae (by simpa using hl) (λj t' vx h1 h2=>by
    have:=hb (j+1) t' vx h1 h2;rw[show i+(j+1)=i+1+j by lia] at this;exact this) (by rw[xO wj];exact wj)
   have et:t=(on,on*e):=Prod.ext e1 e2;subst et;refine⟨⟨wj,may,c2,r1⟩,?_⟩;show hc m s (qs.getD i 0) on (on*e)+rv m qs (i+1) (iN m s.1 s.2 on) rows=v;rw[r2,c1];exact ev
def pY(W:WS)(P:Ps)(qs:ae):ae:=match W.store with|none=>qs.map λ_=>0|some s=>EY s qs P.2
def Ii(W:WS)(l:Int)(ns:ae):Prop:=match W.store with|none=>∀n∈ns,n=0|some s=>Eb s l ns
theorem aBN{W:WS}:∀{hs:List Hr}{P:Ps},P.1.length=W.specs.length->(∀h∈hs,h.ons.length=W.specs.length/\h.outs.length=W.specs.length)->(∀(k:Nat) m s,W.specs[k]?=some m->P.1[k]?=some s->lP m s (col k hs))->Ii W P.2 (hs.map Hr.b8)->cC W P hs
 |[],_,_,_,_,_=>trivial
 |h::hs,P,lp,hl,hr,hv=>by
  obtain⟨l1,l2⟩:=hl h (.head _);have row:∀(k:Nat) m s o u,W.specs[k]?=some m->P.1[k]?=some s->h.ons[k]?=some o->h.outs[k]?=some u->nC o/\(s.1=o\/s.2=0)/\tW m o u/\lP m (iN m s.1 s.2 o) (col k hs):=λk m s o u h1 h2 h3 h4=>by
   have z:=hr k m s h1 h2;have z':nC (h.ons.getD k 0)/\(s.1=h.ons.getD k 0\/s.2=0)/\tW m (h.ons.getD k 0) (h.outs.getD k 0)/\lP m (iN m s.1 s.2 (h.ons.getD k 0)) (col k hs):=z;rw[rf,rf,h3,h4] at z';exact z'
  have some_of:∀{k:Nat} {o:Int},h.ons[k]?=some o->∃m s u,W.specs[k]?=some m/\P.1[k]?=some s/\h.outs[k]?=some u:=λ{k o} e=>by
   have lk:k < W.specs.length:=by rw[<-l1];exact(iZ.mp e).1
   exact⟨_,_,_,dM lk,dM (by lia),dM (by lia)⟩
  have b8:BN W P.2 h.b8/\Ii W h.b8 (hs.map Hr.b8):=by
   unfold Ii at hv ⊢;unfold BN;cases e:W.store with
   |none=>
    rw[e] at hv;exact⟨hv h.b8 (.head _),λn hn=>hv n (xS _ hn)⟩
   |some s=>
    rw[e] at hv;exact hv
  refine⟨⟨l1,l2,λo ho=>?_,λk s o h1 h2=>?_,λk m o u h1 h2 h3=>?_,b8.1⟩,?_⟩
  ·obtain⟨k,ek⟩:=ye ho;obtain⟨m,s,u,a,b,c⟩:=some_of ek;exact(row k m s o u a b ek c).1
  ·obtain⟨m,s',u,a,b,c⟩:=some_of h2;rw[h1] at b;cases b;exact(row k m s o u a h1 h2 c).2.1
  ·obtain⟨m',s,u',a,b,c⟩:=some_of h2;rw[h1] at a;cases a;rw[h3] at c;cases c;exact(row k m s o u h1 b h2 h3).2.2.1
  ·refine aBN (P:=pN W P h) ?_ (λx hx=>hl x (xS _ hx)) (λk m s h1 h2=>?_) b8.2
   ·exact rK lp l1
   ·have kl:k < W.specs.length:=(iZ.mp h1).1;have eo:h.ons[k]?=some (h.ons[k]'(by lia)):=dM _;obtain⟨m',s0,u,a,b,c⟩:=some_of eo;rw[h1] at a;cases a;have z:=rL h1 b eo;have tw:(iO W.specs P.1 h.ons)[k]?=some s:=h2;rw[z] at tw;cases tw;exact(row k m s0 _ u h1 b eo c).2.2.2
structure An(W:WS)(P:Ps)(qs:ae)(hs:List Hr):Prop where
 len:hs.length=qs.length
 FA:∀h∈hs,h.ons.length=W.specs.length/\h.outs.length=W.specs.length
 b8:hs.map Hr.b8=pY W P qs
 row:∀(i k:Nat) h m s,hs[i]?=some h->W.specs[k]?=some m->P.1[k]?=some s->h.ons.getD k 0=(mw m qs s).getD i 0/\∃e,h.outs.getD k 0=(mw m qs s).getD i 0*e/\m.least+jq (qs.getD i 0) m.pieces<=e/\e<=m.least+jq (qs.getD i 0) m.pieces+uf (qs.getD i 0) m.pieces
theorem LD{m:MS}(g:m.Good){a:ao}(h:yu m a)(ps:ae):uL (Wr m ps) 0 a (mw m ps a)=some (Dq m ps a)/\(mw m ps a).length=ps.length:=LZ (aO9 g h ps ps.length) (λ_ _=>aNo _ _ _) ps.length 0 a (by lia) rfl
theorem An.rows{W:WS}(hg:W.Good){P:Ps}(hB:uM W P){qs:ae}{hs:List Hr}(b:An W P qs hs){k:Nat}{m:MS}{s:ao}(h1:W.specs[k]?=some m)(h2:P.1[k]?=some s):lP m s (col k hs)/\rv m qs 0 s (col k hs)=Dq m qs s:=by
 obtain⟨r1,r2⟩:=LD (hg.specs m (jW h1)) (hB.st k m s h1 h2) qs;refine Z4 (hg.specs m (jW h1)) r1 (by unfold col;rw[bH,r2];exact b.len) (λj t on e1 e2=>?_) (hB.ok.vs s (jW h2)).1;unfold col at e1;rw[nE] at e1;obtain⟨h,eh,rfl⟩:=oi.mp e1;obtain⟨x1,e,x2,x3,x4⟩:=b.row j k h m s eh h1 h2;have ed:(mw m qs s).getD j 0=on:=by rw[rf,e2];rfl
 rw[ed] at x1 x2;rw[HN];exact⟨x1,e,x2,x3,x4⟩
theorem An.M6{W:WS}(hg:W.Good){P:Ps}(hB:uM W P){qs:ae}{hs:List Hr}(b:An W P qs hs):Ii W P.2 (hs.map Hr.b8)/\gS W P hs qs=0:=by
 have lv:=hB.ok.b8;unfold jV at lv;unfold Ii gS EU;rw[b.b8];unfold pY;cases e:W.store with
 |none=>
  refine⟨λn hn=>?_,rfl⟩;obtain⟨_,_,rfl⟩:=qQ.mp hn;rfl
 |some s=>
  rw[e] at lv;obtain⟨p1,p2,p3⟩:=YT (hg.store s e) qs lv.1 lv.2;refine⟨p1,?_⟩;show pw s P.2 qs (EY s qs P.2) - ET s qs P.2=0;rw[p3];lia
theorem An.ok{W:WS}(hg:W.Good){P:Ps}(hB:uM W P){qs:ae}{hs:List Hr}(b:An W P qs hs):cC W P hs:=aBN hB.ok.len b.FA (λ_ _ _ h1 h2=>(b.rows hg hB h1 h2).1) (b.M6 hg hB).1
theorem An.gM{W:WS}(hg:W.Good){P:Ps}(hB:uM W P){qs:ae}{hs:List Hr}(b:An W P qs hs):∀n∈gM W P hs qs,n=0:=λn hn=>by
 obtain⟨i,ei⟩:=ye hn;have il:i < W.specs.length:=by rw[<-Hx hB.ok.len hs qs];exact(iZ.mp ei).1
 have em:W.specs[i]?=some W.specs[i]:=dM il;have Kn:i < P.1.length:=by rw[hB.ok.len];exact il
 have es:P.1[i]?=some P.1[i]:=dM Kn;rw[Y3 em es,(b.rows hg hB em es).2] at ei;cases ei;lia
def rP(W:WS):Int->List Hr->ae
 |_,[]=>[]
 |l,h::hs=>(List.sum h.outs - Bb W.store l h.b8)::rP W h.b8 hs
theorem aGt{W:WS}:∀{hs:List Hr}{P:Ps}{i:Nat}{h:Hr},hs[i]?=some h->(rP W P.2 hs)[i]?=some (List.sum h.outs - Bb W.store (wQ W P (hs.take i)).2 h.b8)
 |[],_,_,_,e=>by simp at e
 |x::hs,P,0,h,e=>by cases e;rfl
 |x::hs,P,i+1,h,e=>aGt (hs:=hs) (P:=pN W P x) (i:=i) e
theorem xR(W:WS):∀(hs:List Hr) (l:Int),(rP W l hs).length=hs.length
 |[],_=>rfl
 |h::hs,l=>by show(rP W h.b8 hs).length+1=hs.length+1;rw[xR W hs]
theorem Z3{W:WS}{P:Ps}{hs:List Hr}:∀t∈uc W P (rP W P.2 hs) hs,t=(0,0):=by
 induction hs generalizing P with
 |nil=>intro t h;simp[uc,rP] at h
 |cons h hs ih=>
  intro t ht;have Br:t∈lo1 W P.2 (List.sum h.outs - Bb W.store P.2 h.b8) h::uc W (pN W P h) (rP W h.b8 hs) hs:=ht;rcases lR.mp Br with rfl|z
  ·have z:xg W P.2 (List.sum h.outs - Bb W.store P.2 h.b8) h=0:=by unfold xg;lia
   unfold lo1;rw[z];rfl
  ·exact ih (P:=pN W P h) t z
theorem An.aSR{W:WS}(hg:W.Good){P:Ps}(hB:uM W P){qs:ae}{hs:List Hr}(b:An W P qs hs):∀n∈xf W P (rP W P.2 hs) hs qs,n=0:=λn hn=>by
 unfold xf at hn;rcases oa.mp hn with hn|hn
 ·rcases oa.mp hn with hn|hn
  ·rcases oa.mp hn with hn|hn
   ·exact b.gM hg hB n hn
   ·rw[ng.mp hn];exact(b.M6 hg hB).2
  ·obtain⟨q,_,t,ht,rfl⟩:=HG hn;rw[Z3 t ht];exact Bi _
 ·obtain⟨q,_,t,ht,rfl⟩:=HG hn;rw[Z3 t ht];exact Bi _
theorem bB.Lw{H:Hp}{p c:Addr}{ns:ae}(h:bB H p)(e:H c=some (.lst (ns.map V.int))):c≠p:=λz=>by
 obtain⟨d,c',q,ms,hp,_⟩:=h.ex;rw[z,hp] at e;injection e with e
 injection e with e
 match ns,e with
 |[],e=>cases e
 |[_],e=>cases e
 |[_,_],e=>cases e
 |[_,_,_],e=>cases e
 |_::_::_::_::_,e=>cases e
theorem aGu{m:MS}{qs:ae}:∀{ns:ae}{i:Nat}{s:ao}{v:Int},uL (Wr m qs) i s ns=some v->∀n∈ns,nC n
 |[],_,_,_,_,n,h=>by cases h
 |x::ns,i,s,v,h,n,hn=>by
  unfold uL at h;cases q:(Wr m qs i s).find? λw=>decide (w.1=x) with
  |none=>rw[q] at h;cases h
  |some w=>
   rw[q] at h;obtain⟨on,wj,may,rfl⟩:=xQ.mp (C5 q);have e:on=x:=ua (HU (p:=λw:Wy (ao)=>decide (w.1=x)) q);subst e;obtain⟨v',Ae,_⟩:=oi.mp h;rcases lR.mp hn with rfl|z
   ·exact wj
   ·exact aGu Ae n z
inductive pZ  (K:W.Frag) (CW CM CS t1 t2 t3 t4:Addr) (vs:List V) (H:Hp) (Q:VK) (E:XK):Prop
 |mk:∀(p w x q:Addr) (W:WS) (P:Ps) (qs:ae),(vs=[.ref p,.ref w,.ref x,.ref q])->bB H p->dQ CW CM CS H w W->W.Good->fG H x P->uM W P->(H q=some (.lst (qs.map V.int)))->((∀n∈qs,Am n))->(qs.length<=48)->Bd H t1 t2 t3 t4->(∀(y:Addr) (hs:List Hr) (H':Hp),kI H' y hs->An W P qs hs->bB H' p->cI p H H'->Q (.ref y) H')->pZ K CW CM CS t1 t2 t3 t4 vs H Q E
theorem aBO(tx:Txt K mg a):bQ P w K mg base eR 14 a.rH a.rJ aja (pZ K a.cN a.aW a.bS a.cH a.dE a.cG a.cY):=by
 have aBP:=aAj (P:=P) (w:=w) (base:=base) tx;have aS:=cS (P:=P) (w:=w) (base:=base) tx;have mG:=rO (P:=P) (w:=w) (base:=base) tx;have oQ:=uF (P:=P) (w:=w) (base:=base) tx;refine tx.fz.F.ok cA (by walk_at "l") λbq A outer s H vs Q E hr h=>?_;obtain⟨p,w,x,q,W,P,qs,rfl ,hh,hw,hg,hP,hB,hq,ha,xi,hT,k⟩:=h;have hu:=fV hr;refine aY (aE (c8 (k:=1) (idx:=[]) (N:=["_law_price_here"]) (i:=4) cA.nd rfl (Or.inl rfl) (bY (sc:=aI fR) (NX:=fv) rfl rfl rfl (by decide +kernel)) rfl (bI (K':=K) (aB 3)) (λ_ _ _ _=>(aJ (i:=0) (show(["_law_price_here"]:ah).Nodup by decide +kernel))) (cJ (by decide)) (λ_ _ _ _=>bE) (λ_ _ _ _=>aC))
  (aE (bC (aV xI (a8 (K':=K) (aB 1) rfl) cU (bD _)) (aG (aK (i:=4) cA.nd (aH (K':=K) (bh mG hr tx.dh (aA (a8 (K':=K) (aB 1) rfl) (aA (aH (K':=K) (aB 2) aC) (aA (aB 3) aD)))) aC))) aZ)
  (aE (aK (i:=5) cA.nd (eM aD))
  (aE (bZ PassesOwn.never rfl (gB (k1:=true) (k2:=false) (by rfl) tx.jU (aA (a8 (K':=K) (aB 1) rfl) (aA (aH (K':=K) (aB 2) aC) aD))) (bK (K':=K) (n:=2) rfl (aO (aJ (i:=6) cA.nd) (aO (aJ (i:=7) cA.nd) bJ))) (aG (dC (dW (K':=K) (aB 5) (aA (aH (K':=K) (bh oQ hr tx.dt (aA (aB 6) (aA (aB 7) (aA (aB 3) aD)))) aC) aD)))))
  (aE (aK (i:=8) cA.nd (eM aD))
  (aE (bZ PassesOwn.never rfl (cP (by rfl) tx.eE (aA (aN (rc:=mS K) cO (by rfl) tx.hX fB (aA (aB 3) aD)) aD)) (aJ (i:=9) cA.nd rfl (Or.inr rfl)) (aE (aK (i:=10) cA.nd (eM aD))
  (aE (bZ PassesOwn.never rfl (gB (k1:=true) (k2:=true) (by rfl) tx.jU (aA (a8 (K':=K) (aB 1) rfl) (aA (aB 5) aD))) (bK (K':=K) (n:=2) rfl (aO (aJ (i:=6) cA.nd) (aO (aJ (i:=11) cA.nd) bJ))) (aE (aK (i:=12) cA.nd (rZ (aB 6) tx.bO tx.mh (aBP) (hr.mono (by decide)) tx.ff.b .nil aU (aA (aH (K':=K) (aB 3) (aB 9)) aD)))
  (aG (dC (dW (K':=K) (aB 10) (aA (aL bX (aH (K':=K) (aB 11) (aB 9)) (aH (K':=K) (aB 12) (bh aS hr tx.af (aA (aB 0) (aA aC aD))))) aD))))))
  (aG (dC (dW (K':=K) (aB 8) (aA (HJ (cF (rc:=sD K) kA (by rfl) tx.kW lC (aA (bR (k:=1) (idx:=[9]) (N:=bYa) (bY (sc:=aI fR) (NX:=fv) rfl rfl rfl (by decide +kernel)) rfl (bI (K':=K) (aB 5)) (λ_ _ _ _=>(aJ (i:=0) (show(bYa:ah).Nodup by decide +kernel))) (cJ (by decide)) (λ_ _ _ _=>bE) (λ_ _ _ _=>(aH (K':=K) (aB 0) (aB 1)))) aD)) (cF (rc:=sD K) kA (by rfl) tx.kW lC (aA (aB 10) aD)) (aH (K':=K) (aB 4) (aB 9))) aD)))))))
  (aG (aM (aB 8))))))))) ?_
 obtain⟨dx,lm,st,gw,Cv,di⟩:=hw.ex;obtain⟨ms,A9,AW⟩:=Cv.ex;obtain⟨t,gP,Af⟩:=hP.ex;obtain⟨ts,DP,Cf⟩:=Af.ex;have Gu:=AW.len;have Cp:=Cf.len;have EX:=hB.ok.len;have l6:=hg.len;have kb:=hB.ok.b8;unfold jV at kb;have a0a:(pY W P qs).length=qs.length:=by
  unfold pY;cases e:W.store with
  |none=>exact bH _
  |some sv=>
   rw[e] at kb;exact(YT (hg.store sv e) qs kb.1 kb.2).2.1
 have qp:q≠p:=hh.Lw hq;refine aT (σ:=[some (.ref p),some (.ref w),some (.ref x),some (.ref q),none,none,none,none,none,none,none,none,none]) rfl ?_;walk_at "w";refine fO (bP.of hq) ?_;refine dF (xs:=qs.map V.int) (λj us H3=>H=H3/\us=((qs.take j).map λ_=>(0:Int)).map V.int) ⟨rfl,rfl⟩ (bV (by rw[bH];lia))
  (λj us H3 hj ⟨e0,e1⟩=>⟨by rw[<-e0];exact bP.of hq,by rw[e1,bH,bH,og];lia⟩) (λj v us H3 hv Jg=>?_) (λus H3 Jf=>?_)
 ·obtain⟨e0,e1⟩:=Jg;subst e0;obtain⟨qv,eq,rfl⟩:=dB hv;walk_at "w";refine⟨rfl,?_⟩;rw[e1,take_snoc eq,gR,gR];rfl
 obtain⟨e0,e1⟩:=Jf;subst e0 e1;rw[bH,mq];intro lz nlz;obtain⟨H1,i1,s1,g1⟩:=nw _ nlz;rw[i1];have Bw:=s1 _ _ gw;repeat walk_at "st"
 refine fH (λσ' H2=>aR H H2/\∃(pa:Addr),H2 pa=some (.lst ((pY W P qs).map V.int))/\σ'=[some (.ref p),some (.ref w),some (.ref x),some (.ref q),some (.ref pa),none,none,none,none,none,none,none,none]) (λN hN=>?_) ?_
 ·walk_at "w";refine cE Bw tx.dP tx.dZ rfl ?_;cases e:W.store with
  |none=>
   rw[e] at di
   replace di:st=.bw:=di
   subst di;repeat walk_at "gs"
   refine hN _ _ ⟨s1,lz,?_,rfl⟩;unfold pY;rw[e];exact g1
  |some sv=>
   rw[e] at di kb;obtain⟨c,rfl,hc⟩:=di;have gP1:=s1 _ _ gP;have GO:=hT.same s1;repeat walk_at "gs"
   refine cE Bw tx.dP tx.dZ rfl ?_;repeat walk_at "gs"
   refine⟨c,sv,P.2,q,qs,rfl,GO.c,GO.d,hc.same s1,hg.store sv e,kb.1,kb.2,s1 _ _ hq,ha,xi,λT r H2 s2 nr gT gr=>?_⟩;walk_at "w";refine hN _ _ ⟨s1.trans s2,r,?_,rfl⟩;unfold pY;rw[e];exact gr
 rintro σ2 H2 ⟨s2,pa,WV,rfl⟩;walk_at "w";intro c nc;obtain⟨H3,i3,s3,g3⟩:=nw _ nc;rw[i3];have S3:=s2.trans s3;have gw3:=S3 _ _ gw;have gP3:=S3 _ _ gP;have ncH:H c=none:=s2.free nc;have pac:pa≠c:=bG nc WV;repeat walk_at "st"
 refine fH (λσ' H4=>aR H H4/\∃(rs:ay) (z6 z7:Option V),H4 c=some (.lst (rs.map V.ref))/\RL (λr x=>H4 r=some (.lst (x.map V.int))) rs (List.zipWith (λm s=>mw m qs s) W.specs P.1)/\H4 pa=some (.lst ((pY W P qs).map V.int))/\σ'=[some (.ref p),some (.ref w),some (.ref x),some (.ref q),some (.ref pa),some (.ref c),z6,z7,none,none,none,none,none]) (λN hN=>?_) ?_
 ·walk_at "w";refine cE gw3 tx.dP tx.cQ rfl ?_;walk_at "w";refine sC (Src.lst (S3 _ _ A9)) (Src.tup (S3 _ _ DP)) ?_;refine Zy (n:=W.specs.length) (by rw[bH];lia) (by rw[bH];lia) (.inl (by rw[bH];lia))
   (λi σ' H4=>aR H H4/\∃(rs:ay) (z6 z7:Option V),H4 c=some (.lst (rs.map V.ref))/\RL (λr x=>r≠c/\H4 r=some (.lst (x.map V.int))) rs (List.zipWith (λm s=>mw m qs s) (W.specs.take i) (P.1.take i))/\H4 pa=some (.lst ((pY W P qs).map V.int))/\σ'=[some (.ref p),some (.ref w),some (.ref x),some (.ref q),some (.ref pa),some (.ref c),z6,z7,none,none,none,none,none]) ⟨S3,[],_,_,g3,RL.nil,s3 _ _ WV,rfl⟩
   (λi σ' H4 hi ⟨s',_⟩=>⟨Src.lst (s' _ _ A9),Src.tup (s' _ _ DP)⟩) (λi xv yv σ' H4 T Gy Gw Je nT=>?_) (λσ' H4 Jd=>?_)
  ·obtain⟨s',rs,z6,z7,gc,rr,Og,e⟩:=Je;subst e;obtain⟨xm,m,_,rfl,em,hm⟩:=AW.get Gy;obtain⟨xt,sv,_,rfl,es,Dy⟩:=Cf.get Gw;have im:i < W.specs.length:=(iZ.mp em).1;obtain⟨J,j,sT,gT⟩:=nw _ nT;rw[j];have S5:=s'.trans sT;have Fl:=sT _ _ gc;have lrr:=rr.len;rw[CY,og,og] at lrr;refine cM (gZ.of gT) rfl ?_;walk_at "w";refine iT (bP.of Fl) ?_;walk_at "w";have WI:=hT.same S5;refine⟨xm,m,xt,sv,q,qs,rfl,WI.a,WI.b,hm.same S5,hg.specs m (jW em),S5 _ _ Dy,hB.st i m sv em es,S5 _ _ hq,ha,xi,λT2 r2 H6 s6 MU Fm Od=>?_⟩;have Ol:=s6 _ _ Fl;walk_at "w";refine j0 (xs:=rs.map V.ref) Ol (rQ (by rw[bH];lia:(rs.map V.ref).length < 2000) (bV (by decide))) ?_;obtain⟨H7,i7,k7,g7⟩:=wr H6 c _;rw[i7];have rc:r2≠c:=λz=>by rw[z,Fl] at MU;cases MU
   walk_at "w";refine⟨λb o e=>k7 _ _ ((S5.trans s6) _ _ e) (bG ncH e),rs ++ [r2],_,_,by rw[g7,gR];rfl,?_,k7 _ _ ((sT.trans s6) _ _ Og) pac,rfl⟩;rw[QC em es];exact(rr.imp λr x z=>⟨z.1,k7 _ _ ((sT.trans s6) _ _ z.2) z.1⟩).snoc ⟨rc,k7 _ _ Od rc⟩
  ·obtain⟨s',rs,z6,z7,gc,rr,Og,e⟩:=Jd;subst e;rw[mq,<-EX,mq] at rr;exact hN _ _ ⟨s',rs,_,_,gc,rr.imp λr x z=>z.2,Og,rfl⟩
 rintro σ4 H4 ⟨s4,rs,z6,z7,gc,rr,WW,rfl⟩;have M8:=rr.len;rw[CY,EX,D3] at M8;have A3:=hh.same s4;have cp:c≠p:=A3.CO gc;have pap:pa≠p:=A3.Lw WW;walk_at "w";intro cy MZ;obtain⟨H5,i5,s5,g5⟩:=nw _ MZ;rw[i5];have Ye:cy≠p:=A3.DW MZ;have gq5:=(s4.trans s5) _ _ hq;walk_at "w";refine⟨by rw[bH];lia,by rw[bH];lia,?_⟩;rw[yd,bH];refine lD (n:=qs.length) (λi σ' H'=>cI p H4 H'/\dR p H4 H'/\∃(qh:ay) (hs:List Hr) (z6 z7 z9 Dh yl vg:Option V),H' cy=some (.lst (qh.map V.ref))/\RL (Ap H') qh hs/\hs.length=i/\(∀h∈hs,h.ons.length=W.specs.length/\h.outs.length=W.specs.length)/\hs.map Hr.b8=(pY W P qs).take i/\(∀(i k:Nat) h m s,hs[i]?=some h->W.specs[k]?=some m->P.1[k]?=some s->h.ons.getD k 0=(mw m qs s).getD i 0/\∃e,h.outs.getD k 0=(mw m qs s).getD i 0*e/\m.least+jq (qs.getD i 0) m.pieces<=e/\e<=m.least+jq (qs.getD i 0) m.pieces+uf (qs.getD i 0) m.pieces)/\σ'=[some (.ref p),some (.ref w),some (.ref x),some (.ref q),some (.ref pa),some (.ref c),z6,z7,some (.ref cy),z9,Dh,yl,vg])
  ⟨s5.keep,dR.of (s5 p),[],[],_,_,_,_,_,_,g5,RL.nil,rfl,(λh hh=>by cases hh),rfl,(λi k h m s e=>by simp at e),rfl⟩ (λi σ' G hi Jc=>?_) (λσ' G Jb=>?_)
 ·obtain⟨kG,qG,qh,hs,z6,z7,z9,Dh,yl,vg,gy,rh,lh,ll,lv,E4,e⟩:=Jc;subst e;have E8:=A3.of kG qG;have Dw:=rh.len;have gwG:G w=some (.ins a.cN dx (EH lm st W.cw)):=kG _ _ (s4 _ _ gw) λz=>by
   obtain⟨ys,e⟩:=A3.Gv;rw[<-z,s4 _ _ gw] at e;cases e
  have Ez:G lm=some (.lst (ms.map V.ref)):=kG _ _ (s4 _ _ A9) (A3.CO (s4 _ _ A9));have Oj:=kG _ _ gc cp;have gqG:=kG _ _ (s4 _ _ hq) qp;have T4G:=A3.tr kG;have eq:qs[i]?=some qs[i]:=dM hi;have Ya:qs.getD i 0=qs[i]:=by rw[rf,eq];rfl
  have aq:=ha _ (uu hi);generalize qs[i]=qv at eq Ya aq;have iq:lT (qs.map V.int) (0+(i:Int))=some (.int qv):=by rw[wk];exact m6 eq
  walk_at "w";intro co M3;obtain⟨G1,j1,t1,v1⟩:=nw _ M3;rw[j1];have Yf:co≠p:=E8.DW M3;have UY:=t1 _ _ gwG;repeat walk_at "st"
  refine fH (λσ' G'=>cI p G G'/\dR p G G'/\∃(us:ae) (z6 yl vg:Option V),G' co=some (.lst (us.map V.int))/\us.length=W.specs.length/\(∀(k:Nat) m s u,W.specs[k]?=some m->P.1[k]?=some s->us[k]?=some u->∃e,u=(mw m qs s).getD i 0*e/\m.least+jq qv m.pieces<=e/\e<=m.least+jq qv m.pieces+uf qv m.pieces)/\σ'=[some (.ref p),some (.ref w),some (.ref x),some (.ref q),some (.ref pa),some (.ref c),z6,z7,some (.ref cy),some (.int (0+(i:Int))),some (.ref co),yl,vg]) (λN hN=>?_) ?_
  ·walk_at "w";refine cE UY tx.dP tx.cQ rfl ?_;walk_at "w";refine sC (Src.lst (t1 _ _ Ez)) (Src.lst (t1 _ _ Oj)) ?_;refine Zy (n:=W.specs.length) (by rw[bH];lia) (by rw[bH];lia) (.inl (by rw[bH];lia))
    (λj σ' G'=>cI p G G'/\dR p G G'/\∃(us:ae) (z6 yl vg:Option V),G' co=some (.lst (us.map V.int))/\us.length=j/\(∀(k:Nat) m s u,W.specs[k]?=some m->P.1[k]?=some s->us[k]?=some u->∃e,u=(mw m qs s).getD i 0*e/\m.least+jq qv m.pieces<=e/\e<=m.least+jq qv m.pieces+uf qv m.pieces)/\σ'=[some (.ref p),some (.ref w),some (.ref x),some (.ref q),some (.ref pa),some (.ref c),z6,z7,some (.ref cy),some (.int (0+(i:Int))),some (.ref co),yl,vg]) ⟨t1.keep,dR.of (t1 p),[],_,_,_,v1,rfl,(λk m s u _ _ e=>by simp at e),rfl⟩
    (λj σ' G' hj ⟨kj,_⟩=>⟨Src.lst (kj _ _ Ez (E8.CO Ez)),Src.lst (kj _ _ Oj cp)⟩) (λj xv yv σ' G' T Gy Gw Ja nT=>?_) (λσ' G' IZ=>?_)
   ·obtain⟨kj,qj,us,z6,yl,vg,go,lu,Cs,e⟩:=Ja;subst e;obtain⟨xm,m,_,rfl,em,hm⟩:=AW.get Gy;obtain⟨r,xr,_,rfl,er,GB⟩:=rr.get Gw;have jm:j < W.specs.length:=(iZ.mp em).1;have es:P.1[j]?=some (P.1[j]'(by lia)):=dM _;have Dl:=hB.st j m _ em es;generalize P.1[j]'(by lia)=sv at es Dl;have Ox:xr=mw m qs sv:=by
     rw[C3,em,es] at er;exact(Option.some.inj er).symm
    subst Ox;have gm:=hg.specs m (jW em);obtain⟨_,lr⟩:=LD gm Dl qs;have xj:(mw m qs sv)[i]?=some ((mw m qs sv).getD i 0):=by rw[rf,dM (show i < (mw m qs sv).length by lia)];rfl
    generalize DB:(mw m qs sv).getD i 0=on at xj;have ion:lT ((mw m qs sv).map V.int) (0+(i:Int))=some (.int on):=by rw[wk];exact m6 xj
    have wj:nC on:=by
     obtain⟨r1,_⟩:=LD gm Dl qs;exact aGu r1 on (jW xj)
    obtain⟨J,jj,sT,gT⟩:=nw _ nT;rw[jj];have Wu:=(E8.of kj qj).same sT;have kJ:cI p G J:=kj.trans sT.keep;have TG:=E8.tr kJ;have GG:=(hm.same s4).tr (T4G.trans TG);obtain⟨dm,pl,vy,_⟩:=GG.ex;have rp:r≠p:=A3.Lw GB;have grJ:=kJ _ _ (kG _ _ GB rp) rp;have gqJ:=kJ _ _ gqG qp;have goJ:=sT _ _ go;refine cM (gZ.of gT) rfl ?_;walk_at "w";refine⟨xm,dm,_,rfl,vy,rfl,?_⟩;walk_at "w";refine⟨xm,m,qv,rfl,GG,gm,λTe J2 t2 W0=>?_⟩;have IK:=t2 _ _ goJ;have a0w:=t2 _ _ grJ;walk_at "w";refine iT (bP.of IK) ?_;walk_at "w";refine⟨p,_,rfl,Wu.same t2,by decide,by decide,λrd J3 a3 b3 hh3 k3 q3=>?_⟩;have a0C:=k3 _ _ W0 λz=>(Wu.same t2).FD _ (by rw[<-z];exact W0);have up:=gm.pieces.MF;obtain⟨lo0,eq0,le1⟩:=Lp (p:=qv) up;obtain⟨ev,hev,ev1,ev2⟩ : ∃ev:Int,lT [V.int (m.least+jq qv m.pieces),.int (m.least+jq qv m.pieces+uf qv m.pieces)] rd=some (.int ev)/\m.least+jq qv m.pieces<=ev/\ev<=m.least+jq qv m.pieces+uf qv m.pieces:=by
     have:rd=0\/rd=1:=by lia
     rcases this with z|z <;> rw[z]
     ·exact⟨_,rfl,uo _,by lia⟩
     ·exact⟨_,rfl,by lia,uo _⟩
    have cm:FC on ev:=by
     refine .inl ?_;rcases wj with z|z <;> rw[z] <;> exact⟨by decide,by decide⟩
    have U0:=k3 _ _ IK Yf;walk_at "w";first|refine ZQ cm ?_|skip
    walk_at "w";refine j0 (xs:=us.map V.int) U0 (rQ (by rw[bH];lia:(us.map V.int).length < 2000) (bV (by decide))) ?_;obtain⟨J4,j4,k4,g4⟩:=wr J3 co _;rw[j4];walk_at "w";refine⟨λb o e nb=>k4 _ _ (k3 _ _ (t2 _ _ (kJ _ _ e nb)) nb) (bG M3 e),((qj.trans (dR.of (sT p))).trans (dR.of (t2 p))).trans (q3.trans (dR.of λo e=>k4 _ _ e (Ne.symm Yf))),us ++ [on*ev],_,_,_,by rw[g4,gR];rfl,by rw[iR,lu];rfl,λk' m' s' u' e1 e2 e3=>?_,rfl⟩;by_cases hk:k' < us.length
    ·rw[vf hk] at e3;exact Cs k' m' s' u' e1 e2 e3
    ·have DG:k' < (us ++ [on*ev]).length:=(iZ.mp e3).1;rw[iR,qf] at DG;have ek:k'=j:=by lia
     subst ek;rw[em] at e1;cases e1;rw[es] at e2;cases e2;rw[vo (by lia),lu,yw] at e3;cases e3;exact⟨ev,by rw[DB],ev1,ev2⟩
   ·obtain⟨kj,qj,us,z6,yl,vg,go,lu,Cs,e⟩:=IZ;subst e;exact hN _ _ ⟨kj,qj,us,_,_,_,go,lu,Cs,rfl⟩
  rintro σ5 G2 ⟨k2,q2,us,z6',a0d,a0c,go,lu,Cs,rfl⟩;have hh2:=E8.of k2 q2;have GX:=k2 _ _ Oj cp;have CB:=k2 _ _ gy Ye;have UZ:=k2 _ _ (kG _ _ WW pap) pap;have Oy:(pY W P qs)[i]?=some ((pY W P qs)[i]'(by lia)):=dM _;generalize (pY W P qs)[i]'(by lia)=b8 at Oy;have ipa:lT ((pY W P qs).map V.int) (0+(i:Int))=some (.int b8):=by rw[wk];exact m6 Oy
  have TG2:=E8.tr k2;walk_at "w";refine iT (bP.of CB) ?_;walk_at "w";refine fO (bP.of GX) ?_;refine dF (xs:=rs.map V.ref) (λj vs G'=>G'=G2/\∃os:ae,vs=os.map V.int/\os.length=j/\∀(k:Nat) m s o,W.specs[k]?=some m->P.1[k]?=some s->os[k]?=some o->o=(mw m qs s).getD i 0) ⟨rfl,[],rfl,rfl,λk m s o _ _ e=>by simp at e⟩ (bV (by rw[bH];lia))
   (λj vs G' hj ⟨e0,os,e1,e2,_⟩=>⟨by rw[e0];exact bP.of GX,by rw[e1,bH];lia⟩) (λj v vs G' hv IY=>?_) (λvs G' IX=>?_)
  ·obtain⟨e0,os,e1,e2,e3⟩:=IY;subst e0;obtain⟨r,xr,er0,rfl,er,GB⟩:=rr.get hv;have jm:j < W.specs.length:=by rw[<-M8];exact(iZ.mp er0).1
   have em:W.specs[j]?=some W.specs[j]:=dM jm;have es:P.1[j]?=some (P.1[j]'(by lia)):=dM _;have Dl:=hB.st j _ _ em es;have gm:=hg.specs _ (uu jm);generalize W.specs[j]=m at em Dl gm;generalize P.1[j]'(by lia)=sv at es Dl;have Ox:xr=mw m qs sv:=by
    rw[C3,em,es] at er;exact(Option.some.inj er).symm
   subst Ox;obtain⟨_,lr⟩:=LD gm Dl qs;have xj:(mw m qs sv)[i]?=some ((mw m qs sv).getD i 0):=by rw[rf,dM (show i < (mw m qs sv).length by lia)];rfl
   have ion:lT ((mw m qs sv).map V.int) (0+(i:Int))=some (.int ((mw m qs sv).getD i 0)):=by rw[wk];exact m6 xj
   have rp:r≠p:=A3.Lw GB;have Od:=k2 _ _ (kG _ _ GB rp) rp;walk_at "w";refine⟨rfl,os ++ [(mw m qs sv).getD i 0],by rw[e1,gR];rfl,by rw[iR,e2];rfl,λk' m' s' o' f1 f2 f3=>?_⟩;by_cases hk:k' < os.length
   ·rw[vf hk] at f3;exact e3 k' m' s' o' f1 f2 f3
   ·have DG:k' < (os ++ [(mw m qs sv).getD i 0]).length:=(iZ.mp f3).1;rw[iR,qf] at DG;have ek:k'=j:=by lia
    subst ek;rw[em] at f1;cases f1;rw[es] at f2;cases f2;rw[vo (by lia),e2,yw] at f3;exact(Option.some.inj f3).symm
  obtain⟨e0,os,e1,e2,e3⟩:=IX;subst e0 e1;rw[bH,M8] at e2;intro lo Gq;obtain⟨G3,j3,t3,v3⟩:=nw _ Gq;rw[j3];walk_at "w";refine sE (bP.of v3) ?_;intro T1 nT1;obtain⟨G4,j4,t4,v4⟩:=nw _ nT1;rw[j4];have go4:=(t3.trans t4) _ _ go;walk_at "w";refine sE (bP.of go4) ?_;intro T2 Du;obtain⟨G5,j5,t5,v5⟩:=nw _ Du;rw[j5];have T25:=t3.trans (t4.trans t5);have a0y:=T25 _ _ UZ;walk_at "w";intro T3 nT3;obtain⟨G6,j6,t6,v6⟩:=nw _ nT3;rw[j6];have Mq:=T25.trans t6;have WO:=Mq _ _ CB;walk_at "w";refine j0 (xs:=qh.map V.ref) WO (rQ (by rw[bH];lia:(qh.map V.ref).length < 2000) (bV (by decide))) ?_;obtain⟨G7,j7,k7,g7⟩:=wr G6 cy _;rw[j7];have Di:Tk G6 G7:=by rw[<-j7];exact PU WO
  have JF:H4 cy=none:=MZ;have Ep:Ap G7 T3 ⟨os,us,b8⟩:=⟨T1,T2,Di _ _ v6,Di _ _ ((t5.trans t6) _ _ v4),Di _ _ (t6 _ _ v5)⟩
  walk_at "w";refine⟨λb o e nb=>k7 _ _ (Mq _ _ (k2 _ _ (kG _ _ e nb) nb)) (bG JF e),(qG.trans q2).trans ((dR.of (Mq p)).trans (dR.of λo e=>k7 _ _ e (Ne.symm Ye))),qh ++ [T3],hs ++ [⟨os,us,b8⟩],_,_,_,_,_,_,by rw[g7,gR];rfl,(rh.imp λa h z=>z.tk (TG2.tk.trans (Mq.tk.trans Di))).snoc Ep,by rw[iR,lh];rfl,λh NM=>?_,?_,λi' k' h' m' s' f1 f2 f3=>?_,rfl⟩
  ·rcases oa.mp NM with z|z
   ·exact ll h z
   ·rw[ng.mp z];exact⟨e2,lu⟩
  ·rw[gR,lv,take_snoc Oy];rfl
  ·by_cases zm:i' < hs.length
   ·rw[vf zm] at f1;exact E4 i' k' h' m' s' f1 f2 f3
   ·have DG:i' < (hs ++ [(⟨os,us,b8⟩ : Hr)]).length:=(iZ.mp f1).1;rw[iR,qf] at DG;have ek:i'=i:=by lia
    subst ek;rw[vo (by lia),lh,yw] at f1;cases f1;have km:k' < W.specs.length:=(iZ.mp f2).1;have fo:os[k']?=some (os[k']'(by lia)):=dM _;have fu:us[k']?=some (us[k']'(by lia)):=dM _;rw[Ya];refine⟨?_,?_⟩
    ·show os.getD k' 0=_;rw[rf,fo];exact e3 k' m' s' _ f2 f3 fo
    ·obtain⟨e,x1,x2,x3⟩:=Cs k' m' s' _ f2 f3 fu;refine⟨e,?_,x2,x3⟩;show us.getD k' 0=_;rw[rf,fu];exact x1
 ·obtain⟨kG,qG,qh,hs,z6,z7,z9,Dh,yl,vg,gy,rh,lh,ll,lv,E4,e⟩:=Jb;subst e;rw[za (by lia)] at lv;walk_at "w";exact k cy hs G ⟨qh,gy,rh⟩ ⟨lh,ll,lv,E4⟩ (A3.of kG qG) (λb o e nb=>kG _ _ (s4 _ _ e) nb)
inductive zP  (K:W.Frag) (vs:List V) (H:Hp) (Q:VK) (E:XK):Prop
 |mk:∀(T a b c:Addr) (g:Int) (xs ys zs:ae),(vs=[.ref T])->(H T=some (.tup [.ref a,.int g,.ref b,.ref c]))->(H a=some (.lst (xs.map V.int)))->(H b=some (.lst (ys.map V.int)))->(H c=some (.lst (zs.map V.int)))->(xs.length<=100)->(ys.length<=100)->(zs.length<=100)->(∀(l:Addr) (H':Hp),aR H H'->H' l=some (.lst ((xs ++ [g] ++ ys++zs).map V.int))->Q (.ref l) H')->zP K vs H Q E
theorem aFJ(tx:Txt K mg a):bQ P w K mg base eR 1 a.aBe a.aBf bLa (zP K):=by
 refine tx.ly.F.ok aFj (by walk_at "l") λbq A outer s H vs Q E hr h=>?_;obtain⟨T,a0,b,c,g,xs,ys,zs,rfl ,gT,ga,gb,gc,l1,l2,l3,k⟩:=h;have hu:=fV hr;refine aY (aG (aM (aL bL (aL bL (aL bL (aH (K':=K) (aB 0) aC) (mT (aH (K':=K) (aB 0) aC))) (aH (K':=K) (aB 0) aC)) (aH (K':=K) (aB 0) aC)))) ?_;refine aT (σ:=[some (.ref T)]) rfl ?_;walk_at "w";intro p1 n1;obtain⟨H1,i1,s1,g1⟩:=nw _ n1;rw[i1];walk_at "w";refine mR (s1 _ _ ga) g1 (bV (by rw[bH];simp;lia)) ?_;intro p2 n2;obtain⟨H2,i2,s2,g2⟩:=nw _ n2;rw[i2];have S2:=s1.trans s2;have Fm:=S2 _ _ gT;walk_at "w";refine mR g2 (S2 _ _ gb) (bV (by rw[iR,bH,bH];simp;lia)) ?_;intro p3 n3;obtain⟨H3,i3,s3,g3⟩:=nw _ n3;rw[i3];have S3:=S2.trans s3;have gT3:=S3 _ _ gT;walk_at "w";refine mR g3 (S3 _ _ gc) (bV (by rw[iR,iR,bH,bH,bH];simp;lia)) ?_;intro p4 n4;obtain⟨H4,i4,s4,g4⟩:=nw _ n4;rw[i4];walk_at "w";refine k p4 H4 (S3.trans s4) ?_;rw[g4,gR,gR,gR];rfl
inductive aDd  (K:W.Frag) (CW CM CS t1 t2 t3 t4:Addr) (vs:List V) (H:Hp) (Q:VK) (E:XK):Prop
 |mk:∀(w x u y q:Addr) (W:WS) (P:Ps) (ws:ae) (hs:List Hr) (qs:ae),(vs=[.ref w,.ref x,.ref u,.ref y,.ref q])->dQ CW CM CS H w W->W.Good->fG H x P->uM W P->(H u=some (.lst (ws.map V.int)))->kI H y hs->cC W P hs->(H q=some (.lst (qs.map V.int)))->((∀n∈qs,0<=n/\n<=W.cw))->(ws.length=hs.length)->(hs.length=qs.length)->(qs.length<=48)->Bd H t1 t2 t3 t4->(∀(l:Addr) (H':Hp),aR H H'->H' l=some (.lst ((xf W P ws hs qs).map V.int))->Q (.ref l) H')->aDd K CW CM CS t1 t2 t3 t4 vs H Q E
theorem aIU(tx:Txt K mg a):bQ P w K mg base eR 16 a.aEt a.aEu aaa (aDd K a.cN a.aW a.bS a.cH a.dE a.cG a.cY):=by
 have aHz:=aFJ (P:=P) (w:=w) (base:=base) tx;have aIV:=aHt (P:=P) (w:=w) (base:=base) tx;have aFK:=aEP (P:=P) (w:=w) (base:=base) tx;have aHA:=aFH (P:=P) (w:=w) (base:=base) tx;refine tx.jt.F.ok pG (by walk_at "l") λbq A outer s H vs Q E hr h=>?_;obtain⟨w,x,u,y,q,W,P,ws,hs,qs,rfl ,hw,hg,hP,hB,Ad,hy,yo,hq,wg,tm,vj,xi,hT,k⟩:=h;have hu:=fV hr;refine aY (aE (aK (i:=5) pG.nd (bh aHz hr tx.ly (aA (bh aHA hr tx.kg (aA (aB 0) (aA (aB 1) (aA (aB 2) (aA (aB 3) (aA (aB 4) aD)))))) aD)))
  (aE (bC (aV Hu (aN (rc:=Lr K) (aF5 rfl) (by rfl) tx.wJ rV (aA (aB 5) aD)) aC (bD _)) (aG (aM cU)) aZ)
  (aE (aK (i:=6) pG.nd (bh aFK hr tx.jg (aA (aB 0) (aA (aB 1) (aA (aB 2) (aA (aB 4) aD))))))
  (aE (aK (i:=7) pG.nd (hJ (r:=iJ K) (cZ hu) (bh aIV hr tx.oq (aA (aB 0) (aA (aB 1) (aA (aB 2) (aA (aB 3) aD))))) (aB 6) (bD _)))
  (aE (bC (aV (r:=BA K) (FR hu) (hJ (r:=iJ K) (cZ hu) (aN (rc:=Hk K) (QM rfl) (by rfl) tx.mM jC (aA (aB 5) aD)) aC (bD _)) (aB 7) (bD _)) (aG (aM cU)) aZ)
  (aG (aM (aB 5)))))))) ?_
 have ha:∀n∈qs,Am n:=λn hn=>⟨(wg n hn).1,BG (wg n hn).2 hg.cw.2⟩
 have lM:=Hx hB.ok.len hs qs;have l6:=hg.len;have lW:(gW W P ws hs qs).length=ws.length:=by unfold gW;rw[CY,HI W tm];lia
 have lL:(gL W P ws hs qs).length=ws.length:=by unfold gL;rw[CY,HI W tm];lia
 have nn:=aRy hg hB yo (ws:=ws) vj wg;have sm:=aPj P ws hs qs (W:=W);have key:=aND hg hB.ok (ws:=ws) (qs:=qs) yo tm vj;have ne:xf W P ws hs qs≠[]:=by unfold xf;simp
 refine aT (σ:=[some (.ref w),some (.ref x),some (.ref u),some (.ref y),some (.ref q),none,none,none]) rfl ?_;walk_at "w";refine⟨w,x,u,y,q,W,P,ws,hs,qs,rfl,hw,hg,hP,hB,Ad,hy,yo,hq,ha,tm,vj,xi,hT,λT a0 b c H1 s1 nT na nb nc ab ac bc gT ga gb gc=>?_⟩;walk_at "w";refine⟨T,a0,b,c,_,_,_,_,rfl,gT,ga,gb,gc,by lia,by lia,by lia,λl H2 s2 gl=>?_⟩
 replace gl:H2 l=some (.lst ((xf W P ws hs qs).map V.int)):=gl
 have S2:=s1.trans s2;walk_at "w";refine Zs (bP.of gl) ne λmn hmn _=>?_;have mn0:=nn mn hmn;walk_at "w";refine cB (λz=>absurd z (by lia)) (λ_=>?_);repeat walk_at "gs"
 refine⟨w,W,x,P,u,ws,q,qs,rfl,hw.tr S2.tr,hg,hP.tk S2.tk,hB,S2 _ _ Ad,S2 _ _ hq,by lia,ha,xi,hT.same S2,λH3 s3=>?_⟩;have S3:=S2.trans s3;repeat walk_at "gs"
 refine⟨w,x,u,y,W,P,ws,hs,rfl,hw.tr S3.tr,hg,hP.tk S3.tk,hB.ok,S3 _ _ Ad,hy.tr S3.tr,yo,tm,by lia,λH4 s4=>?_⟩;have Fj:=(s3.trans s4) _ _ gl;walk_at "w";refine Qe (bP.of Fj) ne λmx vy hle=>?_;have mz:=aJX nn vy hle;have eb:decide (mx=0)=decide (List.sum ((rws W P ws hs).map List.sum)=EL W P ws qs):=by
  refine decide_eq_decide.mpr (mz.trans ⟨λz=>?_,λz=>?_⟩)
  ·lia
  ·lia
 walk_at "w";rw[eb,show(!eqV (V.bl (decide (List.sum ((rws W P ws hs).map List.sum)=EL W P ws qs))) (V.bl (decide (List.sum ((rws W P ws hs).map List.sum)=EL W P ws qs))))=false by rw[Qt rfl];rfl];repeat walk_at "gs"
 exact k l H4 (S3.trans s4) Fj
theorem aNG{ns:ae}{bs:List Bool}(h:bs=ns.map λn=>decide (0<=n) && decide (n<=1000000000000))(ha:bs.all id=true):ns.map (λn=>max 0 (min n 1000000000000))=ns:=by
 subst h;induction ns with
 |nil=>rfl
 |cons n ns ih=>
  rw[jz,List.all_cons,yc] at ha;obtain⟨a,b⟩:=ha;rw[jz,ih b];have a':(decide (0<=n) && decide (n<=1000000000000))=true:=a;rw[yc] at a';have a1:=ua a'.1;have a2:=ua a'.2;rw[show max 0 (min n 1000000000000)=n by lia]
theorem aLD{xs ys:List V}{n:Nat}(h:xs.length=n+1):kZ (xs++ys) none (some ((n:Int)+1))=xs:=by
 have e:=aNw (xs++ys) (n+1);rw[show((n+1:Nat):Int)=(n:Int)+1 by lia] at e;rw[e,<-h,List.take_left'];rfl
inductive Hw  (K:W.Frag) (t1 t2 t3 t4:Addr) (vs:List V) (H:Hp) (Q:VK) (E:XK):Prop
 |mk:∀(a:Addr) (ns:ae),(vs=[.ref a])->(bP K H a (ns.map V.int))->(ns.length<=63)->(H t3=some (.jy dG dH))->(H t4=some (.jy fT fU))->(H t1=some (.jy dI dJ))->(H t2=some (.jy gH gI))->(∀H',aR H H'->Q (.bl true) H')->Hw K t1 t2 t3 t4 vs H Q E
theorem aRz(tx:Txt K mg a):bQ P w K mg base eR 17 a.YD a.YC bta (Hw K a.cH a.dE a.cG a.cY):=by
 have aCf:=aBO (P:=P) (w:=w) (base:=base) tx;have aIW:=aHn (P:=P) (w:=w) (base:=base) tx;have aHB:=aFD (P:=P) (w:=w) (base:=base) tx;have aE0:=aIU (P:=P) (w:=w) (base:=base) tx;have wZ:=aBj (P:=P) (w:=w) (base:=base) tx;have aIX:=aHi (P:=P) (w:=w) (base:=base) tx;have aHC:=aFs (P:=P) (w:=w) (base:=base) tx;refine tx.Ju.F.ok hV (by walk_at "l") λbq A outer s H vs Q E hr h=>?_;obtain⟨ad,ns,rfl ,hS,hl,gt3,gt4,GV,GU,k⟩:=h;have hu:=fV hr;refine aY (aE (bZ PassesOwn.never rfl (cP (by rfl) tx.eE (aA (aN (fN rfl) (by rfl) tx.mM jC (aA aC (aA (aN (jY rfl) (by rfl) tx.wJ rV (aA (aN (rc:=mS K) cO (by rfl) tx.hX fB (aA (aB 0) aD)) (aA aC aD))) aD))) aD)) (aJ (i:=1) hV.nd) (aE (aK (i:=2) hV.nd (bh wZ hr tx.ij (aA (aB 0) (aA (aB 1) aD))))
  (aE (qU (bh aIW hr tx.pj (aA (aB 2) (aA aC aD))) (bK (K':=K) (n:=4) rfl (aO (aJ (i:=3) hV.nd) (aO (aJ (i:=4) hV.nd) (aO (aJ (i:=5) hV.nd) (aO (aJ (i:=6) hV.nd) bJ))))))
  (aE (aK (i:=7) hV.nd (bh aHC hr tx.ku (aA (aB 3) aD)))
  (aE (aK (i:=8) hV.nd (bh aIX hr tx.pe (aA (aB 0) (aA (aB 1) (aA (aN (rc:=mS K) cO (by rfl) tx.hX fB (aA (aB 5) aD)) (aA (aB 3) (aA (aB 4) aD)))))))
  (aE (bC (aV qA (bh aE0 hr tx.jt (aA (aB 7) (aA (aB 4) (aA (aB 5) (aA (aB 8) (aA (aB 6) aD)))))) cU (bD _)) (aG (aM lE)) aZ)
  (aE (aK (i:=9) hV.nd (bh aCf hr tx.fz (aA (aB 2) (aA (aB 7) (aA (aB 4) (aA (aB 6) aD))))))
  (aE (aK (i:=10) hV.nd (eM aD))
  (aE (aK (i:=11) hV.nd (aH (K':=K) (aB 4) aC))
  (aE (bZ PassesOwn.never rfl (bI (K':=K) (aB 9)) (aJ (i:=12) hV.nd) (aE (dC (dW (K':=K) (aB 10) (aA (aL dS (aN (rc:=Hm K) (QN rfl) (by rfl) tx.mN jD (aA (aH (K':=K) (aB 12) aC) aD)) (bh aHB hr tx.ma (aA (aH (K':=K) (aB 3) aC) (aA (aB 11) (aA (aH (K':=K) (aB 12) aC) aD))))) aD)))
  (aG (aK (i:=11) hV.nd (aH (K':=K) (aB 12) aC)))))
  (aE (c8 (k:=1) (idx:=[]) (N:=bDa) (i:=13) hV.nd rfl (Or.inl rfl) (bY (sc:=aI Hj) (NX:=aa) rfl rfl rfl (by decide +kernel)) rfl (bI (K':=K) (aB 10)) (λ_ _ _ _=>(aJ (i:=0) (show(bDa:ah).Nodup by decide +kernel))) (cJ (by decide)) (λ_ _ _ _=>bE) (λ_ _ _ _=>(oY BE BE aC (aB 0) (aL zQ aC aC))))
  (aE (c8 (k:=1) (idx:=[]) (N:=bDa) (i:=5) hV.nd rfl (Or.inl rfl) (bY (sc:=aI Hj) (NX:=aa) rfl rfl rfl (by decide +kernel)) rfl (bI (K':=K) (aB 10)) (λ_ _ _ _=>(aJ (i:=0) (show(bDa:ah).Nodup by decide +kernel))) (cJ (by decide)) (λ_ _ _ _=>bE) (λ_ _ _ _=>(aN (fN rfl) (by rfl) tx.mM jC (aA aC (aA (aN (jY rfl) (by rfl) tx.wJ rV (aA (aB 0) (aA (aL zQ aC aC) aD))) aD)))))
  (aE (aK (i:=14) hV.nd (bh aE0 hr tx.jt (aA (aB 7) (aA (aB 4) (aA (aB 5) (aA (aB 9) (aA (aB 6) aD)))))))
  (aE (bC (eY (uZ (aV qA (aB 14) cU (bD _)) (qT (aV (r:=BA K) (FR hu) (aN (rc:=Hk K) (QM rfl) (by rfl) tx.mM jC (aA (lG (rs:=DT K) Hd (aB 14) nI (nJ (aL bL (aN (rc:=mS K) cO (by rfl) tx.hX fB (aA (aH (K':=K) (aB 3) aC) aD)) aC))) aD)) aC (bD _))))) (aG (aM lE)) aZ)
  (aG (bC (eY (iC (eT (aN (rc:=DS K) (xH rfl) (by rfl) tx.FJ LO (aA (aB 13) aD))) (fZ (aV (r:=BA K) (FR hu) (aN (rc:=Hk K) (QM rfl) (by rfl) tx.mM jC (aA (aB 14) aD)) aC (bD _))))) (aG (aM lE)) aZ))))))))))))))))
  (aG (aM lE))) ?_
 have N7:Bd H _ _ _ _:=⟨GV,GU,gt3,gt4⟩
 refine aT (σ:=[some (.ref ad),none,none,none,none,none,none,none,none,none,none,none,none,none,none]) rfl ?_;walk_at "w";refine⟨by lia,by lia,?_⟩;refine lD (λi σ' H'=>aR H H'/\∃(z1 z2 z3 z4 z5 z6 z7 z8 z9 Dh yl vg JX JW:Option V),σ'=[some (.ref ad),z1,z2,z3,z4,z5,z6,z7,z8,z9,Dh,yl,vg,JX,JW]) ⟨aR.refl _,_,_,_,_,_,_,_,_,_,_,_,_,_,_,rfl⟩ (λi σ' H' hi IW=>?_) (λσ' H' IV=>?_)
 ·obtain⟨s0,z1,z2,z3,z4,z5,z6,z7,z8,z9,Dh,yl,vg,JX,JW,e⟩:=IW;subst e;walk_at "w";refine⟨ad,ns,_,rfl,aR.seq s0 hS,hl,by lia,λp H1 s1 np hh=>?_⟩;have VQ:H p=none:=s0.free np;have S1:=s0.trans s1;walk_at "w";refine⟨p,6,rfl,hh,by decide,by decide,λT s a1 u q W P ws qs H2 gT hW hg hP hB gu gq hlen wg Kq EV h2 k2=>?_⟩;have ha:∀n∈qs,Am n:=λn hn=>⟨(wg n hn).1,BG (wg n hn).2 hg.cw.2⟩
  have l6:=hg.len;walk_at "w";refine cM (gZ.of gT) rfl ?_;walk_at "w";refine⟨s,W,rfl,hW,hg,λw H3 hw s3 nw3=>?_⟩;have S3:aR H H3:=(QR VQ S1 k2).trans s3;have WH:=hW.tr s3.tr;have KH:=hP.tk s3.tk;have gu3:=s3 _ _ gu;have Oe:=s3 _ _ gq;have h3:=h2.same s3;walk_at "w";refine⟨ad,ns,_,_,s,a1,W,P,rfl,aR.seq S3 hS,hl,by lia,by lia,by lia,by rw[bH];lia,WH,hg,KH,hB.ok,λy hs H4 s4 ny hy lhs yo=>?_⟩;rw[bH,yd] at lhs;have S4:=S3.trans s4;walk_at "w";refine⟨w,a1,u,y,q,W,P,ws,hs,qs,rfl,hw.tr s4.tr,hg,KH.tk s4.tk,hB,s4 _ _ gu3,hy,yo,s4 _ _ Oe,wg,by lia,by lia,EV,N7.same S4,λl1 H5 s5 gl1=>?_⟩;have C4:=s4.trans s5;have S5:=S3.trans C4;repeat walk_at "gs"
  refine⟨p,w,a1,q,W,P,qs,rfl,h3.same C4,hw.tr C4.tr,hg,KH.tk C4.tk,hB,C4 _ _ Oe,ha,EV,N7.same S5,λy2 cj H6 V8 hb h6 k6=>?_⟩;have KA:cI p H1 H6:=k2.trans ((s3.trans C4).keep.trans k6);have S6:aR H H6:=QR VQ S1 KA;have Mp:Tr H3 H6:=C4.tr.trans ((h3.same C4).tr k6);have hW6:=WH.tr Mp;have WK:=KH.tk Mp.tk;have hw6:=hw.tr Mp;have gq6:H6 q=some (.lst (qs.map V.int)):=Mp _ _ Oe Zp;have UA:=hb.ok hg hB;have lh2:=hb.len;obtain⟨ls,st,bb,es,fb,df,A7⟩:=hW6.ex;obtain⟨qm,WX,rm⟩:=fb.ex;have EW:=rm.len;obtain⟨tp,gx6,a0o⟩:=WK.ex;obtain⟨qh,CB,rh⟩:=V8.ex;have Dw:=rh.len;walk_at "w";intro cm VU;obtain⟨H7,i7,s7,g7⟩:=nw _ VU;rw[i7];have gx7:=s7 _ _ gx6;walk_at "w";refine fO (bP.of (s7 _ _ CB)) ?_;refine xE (xs:=qh.map V.ref) (λj σ' J=>aR H6 J/\J cm=some (.lst (((rP W P.2 cj).take j).map V.int))/\∃(vg:Option V),σ'=[some (.ref ad),some (.int (0+(i:Int))),some (.ref p),some (.ref s),some (.ref a1),some (.ref u),some (.ref q),some (.ref w),some (.ref y),some (.ref y2),some (.ref cm),some (.int (wQ W P (cj.take j)).2),vg,JX,JW]) ⟨s7,g7,_,rfl⟩ (λj σ' J hj ⟨s',_⟩=>bP.of (s' _ _ CB)) (λj v σ' J hv IU=>?_) (λσ' J IT=>?_)
  ·obtain⟨s',gc,vg,e⟩:=IU;subst e;obtain⟨qy,h,_,rfl,eh,NM⟩:=rh.get hv;have hj:j < cj.length:=(iZ.mp eh).1;obtain⟨a3,a4,Of,ga3,WZ⟩:=(NM.tk s'.tk).ex;have em:=aGt (W:=W) (P:=P) eh;have el:(wQ W P (cj.take (j+1))).2=h.b8:=by rw[take_snoc eh,xN];rfl
   have CC:=s' _ _ es;have lt:((rP W P.2 cj).take j).length<=48:=by rw[og,xR];lia
   generalize (wQ W P (cj.take j)).2=lv at em;walk_at "w";refine iT (bP.of gc) ?_;walk_at "w";refine Qf (gZ.of WZ) ?_;walk_at "w";refine⟨st,W.store,lv,h.b8,rfl,df.tr s'.tr,hg.store,?_⟩;walk_at "w";refine j0 (xs:=((rP W P.2 cj).take j).map V.int) gc (rQ (by rw[bH];lia:(((rP W P.2 cj).take j).map V.int).length < 2000) (bV (by decide))) ?_;obtain⟨J2,j2,V1,g2⟩:=wr J cm _;rw[j2];have a0x:J2 qy=some (.tup [.ref a3,.ref a4,.int h.b8]):=V1 _ _ Of λz=>by rw[z,gc] at Of;cases Of
   walk_at "w";refine⟨λb o e=>V1 _ _ (s' _ _ e) (bG VU e),?_,_,by rw[el]⟩;rw[g2,take_snoc em,gR];rfl
  ·obtain⟨s',gc,vg,e⟩:=IT;subst e;rw[bH,Dw,za (by rw[xR];exact eO _)] at gc;have lmd:=xR W cj P.2;generalize hmd:rP W P.2 cj=md at gc lmd;walk_at "w";refine fO (bP.of gc) ?_;refine dF (xs:=md.map V.int) (λj us J'=>J'=J/\us=((md.take j).map λn=>decide (0<=n) && decide (n<=1000000000000)).map V.bl) ⟨rfl,rfl⟩ (bV (by rw[bH];lia))
    (λj us J' hj ⟨e0,e1⟩=>⟨by rw[e0];exact bP.of gc,by rw[e1,bH,bH,og];lia⟩) (λj v us J' hv IS=>?_) (λus J' IQ=>?_)
   ·obtain⟨e0,e1⟩:=IS;subst e0;obtain⟨nv,en,rfl⟩:=dB hv;have fin:us ++ [V.bl (decide (0<=nv) && decide (nv<=1000000000000))]=((md.take (j+1)).map λn=>decide (0<=n) && decide (n<=1000000000000)).map V.bl:=by
     rw[e1,take_snoc en,gR,gR];rfl
    walk_at "w";refine cB (λz=>?_) (λz=>?_)
    ·walk_at "w";refine⟨rfl,?_⟩;rw[<-fin,ur z,CU];rfl
    ·walk_at "w";refine⟨rfl,?_⟩;rw[<-fin,yb z,CV]
   obtain⟨e0,e1⟩:=IQ;subst e0 e1;rw[show(md.map V.int).length=md.length from bH _,mq];intro lf nlf;obtain⟨J2,j2,t2,v2⟩:=nw _ nlf;rw[j2];have GX:=t2 _ _ gc;walk_at "w";refine fO (bP.of GX) ?_;refine dF (xs:=md.map V.int) (λj us J'=>J'=J2/\us=((md.take j).map λn=>max 0 (min n 1000000000000)).map V.int) ⟨rfl,rfl⟩ (bV (by rw[bH];lia))
    (λj us J' hj ⟨e0,e1⟩=>⟨by rw[e0];exact bP.of GX,by rw[e1,bH,bH,og];lia⟩) (λj v us J' hv IP=>?_) (λus J' IM=>?_)
   ·obtain⟨e0,e1⟩:=IP;subst e0;obtain⟨nv,en,rfl⟩:=dB hv;walk_at "w";refine⟨rfl,?_⟩;rw[e1,take_snoc en,gR,gR];rfl
   obtain⟨e0,e1⟩:=IM;subst e0 e1;rw[show(md.map V.int).length=md.length from bH _,mq];intro lw EN;obtain⟨J3,j3,t3,v3⟩:=nw _ EN;rw[j3];have R3:=s'.trans (t2.trans t3);walk_at "w";refine⟨w,a1,lw,y2,q,W,P,md.map (λn=>max 0 (min n 1000000000000)),cj,qs,rfl,hw6.tr R3.tr,hg,WK.tk R3.tk,hB,v3,V8.tr R3.tr,UA,R3 _ _ gq6,wg,by rw[bH];lia,by lia,EV,N7.same (S6.trans R3),λl2 J4 t4 Oi=>?_⟩;have R4:=R3.trans t4;have es4:=R4 _ _ es;have a0z:=R4 _ _ WX;have v24:=(t3.trans t4) _ _ v2;generalize Ad:md.map (λn=>max 0 (min n 1000000000000))=wn at Oi;have lM:=Hx hB.ok.len cj qs;have ep:kZ ((xf W P wn cj qs).map V.int) none (some ((W.specs.length:Int)+1))=(gM W P cj qs ++ [gS W P cj qs]).map V.int:=by
    have e0:xf W P wn cj qs=(gM W P cj qs ++ [gS W P cj qs])++(gW W P wn cj qs++gL W P wn cj qs):=by unfold xf;rw[HZ]
    rw[e0,gR];exact aLD (by rw[bH,iR,lM];rfl)
   repeat walk_at "gs"
   refine zU (bP.of Oi) ?_;rw[show(qm.map V.ref).length=W.specs.length by rw[bH];exact EW,ep];intro l3 Kf;obtain⟨J5,j5,t5,v5⟩:=nw _ Kf;rw[j5];walk_at "w";refine Qe (bP.of v5) (by simp) λmx vy _=>?_;have mx0:mx=0:=by
    rcases oa.mp vy with z|z
    ·exact hb.gM hg hB mx z
    ·rw[ng.mp z];exact(hb.M6 hg hB).2
   subst mx0;have v25:=t5 _ _ v24;have Fi:=t5 _ _ Oi;repeat walk_at "gs"
   refine aQ6 (bP.of v25) ?_;have fin:aR H J5:=S6.trans (R4.trans t5);repeat walk_at "gs"
   refine iP (λAI=>?_) (λ_=>?_)
   ·have ew:=aNG rfl AI;rw[ew] at Ad;subst Ad;repeat walk_at "gs"
    refine Qe (bP.of Fi) (by unfold xf;simp) λmx vy _=>?_;have mz:mx=0:=by
     rw[<-hmd] at vy;exact hb.aSR hg hB mx vy
    subst mz;repeat walk_at "gs"
    exact⟨fin,_,_,_,_,_,_,_,_,_,_,_,_,_,_,rfl⟩
   ·repeat walk_at "gs"
    exact⟨fin,_,_,_,_,_,_,_,_,_,_,_,_,_,_,rfl⟩
 ·obtain⟨s0,z1,z2,z3,z4,z5,z6,z7,z8,z9,Dh,yl,vg,JX,JW,e⟩:=IV;subst e;walk_at "w";exact k _ s0
end My
namespace My
open PySem L2 L2.Z
local macro_rules | `(tactic| walk_at "b1") => `(tactic| (intro _ _ _ _ _ _ us hl; obtain ⟨_, e⟩ := Yk us hl; subst e; rfl))
local macro_rules | `(tactic| walk_at "b2") => `(tactic| (intro _ _ _ _ _ _ us hl; obtain ⟨_, _, e⟩ := Fv us hl; subst e; rfl))
local macro_rules | `(tactic| walk_at "b3") => `(tactic| (intro _ _ _ _ _ _ us hl; obtain ⟨_, _, _, e⟩ := Yj us hl; subst e; rfl))
local macro_rules | `(tactic| walk_at "b4") => `(tactic| (intro _ _ _ _ _ _ us hl; obtain ⟨_, _, _, _, e⟩ := Yi us hl; subst e; rfl))
local macro_rules | `(tactic| walk_at "b5") => `(tactic| (intro _ _ _ _ _ _ us hl; obtain ⟨_, _, _, _, _, e⟩ := Yh us hl; subst e; rfl))
local macro_rules | `(tactic| walk_at "b6") => `(tactic| (intro _ _ _ _ _ _ us hl; obtain ⟨_, _, _, _, _, _, e⟩ := Yg us hl; subst e; rfl))
local macro_rules | `(tactic| walk_at "b8") => `(tactic| (intro _ _ _ _ _ _ us hl; obtain ⟨_, _, _, _, _, _, _, _, e⟩ := ar8 us hl; subst e; rfl))
def Cq(K:W.Frag)(f:Addr)(x q:Str)(st:Stmt)(oc:Value)(od:Option Addr)(kV dc pm:Value)(an:Option Addr)(cd ct:Value)(sl:Array (aw)):Prop:=K.lookup f=some ⟨oc,od,.func (W.fnOf x q (jB st) (hZ st) (aI st) .none kV dc pm an cd ct),sl⟩/\W.codeIn K cd q=true/\W.keepIn K (.ref f)=true
def aQ(K:W.Frag)(x:Str)(f:Addr):Prop:=W.nsIn K mainGlobals x=some (some (.ref f))
def Pc{K:W.Frag}{f:Addr}{x q:Str}{st:Stmt}{oc:Value}{od:Option Addr}{kV dc pm:Value}{an:Option Addr}{cd ct:Value}{sl:Array (aw)}(l:Cq K f x q st oc od kV dc pm an cd ct sl):=HB (st:=st) l.1 l.2.1 l.2.2
def gP(K:W.Frag)(f:Addr)(x q:Str)(st:Stmt):Prop:=∃oc od kV dc pm an cd ct sl,Cq K f x q st oc od kV dc pm an cd ct sl
def gG(K:W.Frag)(f:Addr)(x:Str)(st:Stmt):Prop:=aQ K x f/\gP K f x x st
def YR{K:W.Frag}{f:Addr}{x q:Str}{st:Stmt}{oc:Value}{od:Option Addr}{kV dc pm:Value}{an:Option Addr}{cd ct:Value}{sl:Array (aw)}(l:Cq K f x q st oc od kV dc pm an cd ct sl):gP K f x q st:=⟨_,_,_,_,_,_,_,_,_,l⟩
def aSu{K:W.Frag}{f:Addr}{x:Str}{st:Stmt}{oc:Value}{od:Option Addr}{kV dc pm:Value}{an:Option Addr}{cd ct:Value}{sl:Array (aw)}(a:aQ K x f)(l:Cq K f x x st oc od kV dc pm an cd ct sl):gG K f x st:=⟨a,YR l⟩
def CK{K:W.Frag}{f:Addr}{x q:Str}{st:Stmt}{ps:ah}(l:gP K f x q st)(h:∀(kV doc pm:Value) (an:Option Addr) (bq ct:Value) (us:aj),us.length=ps.length->bindArgs (W.fnOf x q (jB st) (hZ st) (aI st) .none kV doc pm an bq ct) ⟨us,[]⟩=pure (ps.zip us)):∃d,FB K x q st f d ps:=by
 obtain⟨oc,od,kV,dc,pm,an,cd,ct,sl,l⟩:=l;exact⟨_,Pc l,(Pc l).binds h⟩
def bT{K:W.Frag}{h:Heap}{mg:Str->aw}{f:Addr}{x:Str}{st:Stmt}{ps:ah}(X:K.In h)(G:h.Ns mainGlobals mg)(l:gG K f x st)(h:∀(kV doc pm:Value) (an:Option Addr) (bq ct:Value) (us:aj),us.length=ps.length->bindArgs (W.fnOf x x (jB st) (hZ st) (aI st) .none kV doc pm an bq ct) ⟨us,[]⟩=pure (ps.zip us)):∃d,FG K mg x st f d ps:=by
 obtain⟨a,l⟩:=l;obtain⟨d,z⟩:=CK l h;exact⟨d,z.F,z.b,W.mg_of X G a⟩
theorem all_mk{l:W.OpenLaw}{w:World}{K:W.Frag}{h:Heap}{mg:Str->aw}{fa:Addr}(X:K.In h)(G:h.Ns mainGlobals mg)(hfa:mg "law" = some (.ref fa))
  {C0 C1 C2 f0 f1 f2 f3 f4 f5 f6 f7 f8 f9 X8 X7 Lb La X6 X5 X4 X3 X2 K2 X1 X0 XZ XY XX XW XU XT XS XR XQ K1 XO XN XM XJ XI XH XG XF XE XD XC XB XA Xz Xy Xx Xw K0 KZ Xv Xu Xt KY KW Xs Xr Xq Xp Xo Xn Xm Xl Xk Xj Xi KU KS Xh Xg Xf Xe Xd Xc Xb Xa W9 W8 W7 W6:Addr} {TZ Vl TY Vk TX Vj TV Vi TU Vh:Option Addr} {TC TB Tz Tx Tw:Array (aw)} {Ua Uk U4 TJ Ve U9:Value} {Ue Uq U8 TN Vd:Value} {AD xw:Addr} {JC:Option Addr} {Dc:Array Value} {Jy:Array (aw)} {Ud Uo U7 TM Vc:Value} {AB xu:Addr} {JB:Option Addr} {C9:Array Value} {Jx:Array (aw)} {Uc Um U6 TL Vb:Value} {AA xq:Addr} {JA:Option Addr} {C8:Array Value} {Jw:Array (aw)} {Ub Ul U5 TK Va:Value} {Az xp:Addr} {Jz:Option Addr} {C7:Array Value} {Jv:Array (aw)} {sf:Tok} {nt:Tok} {se:Tok} {nk:Tok}
  (aC0:W.nsIn K mainGlobals "Machine" = some (some (.ref C0)))
  (aC1:W.nsIn K mainGlobals "Store" = some (some (.ref C1)))
  (aC2:W.nsIn K mainGlobals "Works" = some (some (.ref C2)))
  (l0:gG K f0 "_law_open" o7)
  (l1:gG K f1 "_law_draw" vE)
  (l2:gG K f2 "_law_far" zZ)
  (l3:gG K f3 "_law_factor" qC)
  (l4:gG K f4 "is_whole" z0)
  (l5:gG K f5 "is_amount" vF)
  (l6:gG K f6 "is_span" QL)
  (l7:gG K f7 "is_piece" Q6)
  (l8:gG K f8 "are_pieces" jG)
  (a9:W.findIn K (.ref C0) "__init__" = some (some (.ref f9)))
  (i9:W.isFn K (.ref f9)=true)
  (l9:gP K f9 "__init__" "Machine.__init__" nO)
  (l10:gG K X8 "_law_spec" vG)
  (l11:gG K X7 "_law_machine" nP)
  (Q7:W.findIn K (.ref C0) "gain" = some (some (.ref Lb)))
  (i12:W.isFn K (.ref Lb)=true)
  (l12:gP K Lb "gain" "Machine.gain" nQ)
  (Mc:W.findIn K (.ref C0) "best_at" = some (some (.ref La)))
  (i13:W.isFn K (.ref La)=true)
  (l13:gP K La "best_at" "Machine.best_at" eZ)
  (l14:gG K X6 "may_be" Qx)
  (l15:gG K X5 "state_after" qD)
  (l16:gG K X4 "_law_state" sG)
  (l17:gG K X3 "_law_after" sI)
  (l18:gG K X2 "is_depth" Q5)
  (a19:W.findIn K (.ref C1) "__init__" = some (some (.ref K2)))
  (i19:W.isFn K (.ref K2)=true)
  (l19:gP K K2 "__init__" "Store.__init__" sJ)
  (l20:gG K X1 "run_fault" vH)
  (l21:gG K X0 "refuse_fault" nR)
  (l22:gG K XZ "run_begins" sL)
  (l23:gG K XY "run_cost" Q2)
  (l24:gG K XX "least_of" sM)
  (l25:gG K XW "worths_ahead" nS)
  (l26:gG K XU "worths_by_hour" kD)
  (l27:gG K XT "first_best" mU)
  (l28:gG K XS "first_row" vI)
  (l29:gG K XR "ways_one_on" qE)
  (l30:gG K XQ "are_machines" jH)
  (a31:W.findIn K (.ref C2) "__init__" = some (some (.ref K1)))
  (i31:W.isFn K (.ref K1)=true)
  (l31:gP K K1 "__init__" "Works.__init__" sN)
  (l32:gG K XO "position_after" iD)
  (l33:gG K XN "positions_of" nU)
  (l34:gG K XM "_law_store" sO)
  (l35:gG K XJ "_law_levels" qF)
  (l36:gG K XI "_law_works_spec" gX)
  (l37:gG K XH "_law_works" mV)
  (l38:gG K XG "_law_position" iQ)
  (l39:gG K XF "_law_ons" Q1)
  (l40:gG K XE "_law_output" kL)
  (l41:gG K XD "_law_hour" o8)
  (l42:gG K XC "_law_behind" kM)
  (l43:gG K XB "_law_plan" vJ)
  (l44:gG K XA "levels_after" nV)
  (l45:gG K Xz "levels_from" qH)
  (l46:gG K Xy "drawn_by" Q0)
  (l47:gG K Xx "path_worth" sP)
  (l48:gG K Xw "level_ways" mW)
  (a49:aQ K "worths_of_levels" K0)
  (l49:K.lookup K0=some ⟨Ue,TZ,.func (W.fnOf "worths_of_levels" "worths_of_levels" (jB cK) (hZ cK) (aI cK) .none Uq U8 TN Vl (.ref AD) Vd),TC⟩)
  (OG:W.codeIn K (.ref AD) "worths_of_levels" = true)
  (a0l:K.lookup AD=some ⟨.type "code",JC,.fields Dc,Jy⟩)
  (a0h:(Dc[11]? : aw)=some (.ref xw))
  (Im:W.codeHdIn K AD xw=true)
  (k49:W.keepIn K (.ref K0)=true)
  (a50:aQ K "cheapest_path" KZ)
  (l50:K.lookup KZ=some ⟨Ud,TY,.func (W.fnOf "cheapest_path" "cheapest_path" (jB dN) (hZ dN) (aI dN) .none Uo U7 TM Vk (.ref AB) Vc),TB⟩)
  (OF:W.codeIn K (.ref AB) "cheapest_path" = true)
  (a0k:K.lookup AB=some ⟨.type "code",JB,.fields C9,Jx⟩)
  (a0g:(C9[11]? : aw)=some (.ref xu))
  (Il:W.codeHdIn K AB xu=true)
  (k50:W.keepIn K (.ref KZ)=true)
  (l51:gG K Xv "states_by_hour" kE)
  (l52:gG K Xu "next_hours" mX)
  (l53:gG K Xt "hour_ways" o9)
  (a54:aQ K "worths_of_states" KY)
  (l54:K.lookup KY=some ⟨Uc,TX,.func (W.fnOf "worths_of_states" "worths_of_states" (jB cV) (hZ cV) (aI cV) .none Um U6 TL Vj (.ref AA) Vb),Tz⟩)
  (OE:W.codeIn K (.ref AA) "worths_of_states" = true)
  (a0j:K.lookup AA=some ⟨.type "code",JA,.fields C8,Jw⟩)
  (a0f:(C8[11]? : aw)=some (.ref xq))
  (Ik:W.codeHdIn K AA xq=true)
  (k54:W.keepIn K (.ref KY)=true)
  (a55:aQ K "cheapest_run" KW)
  (l55:K.lookup KW=some ⟨Ub,TV,.func (W.fnOf "cheapest_run" "cheapest_run" (jB eA) (hZ eA) (aI eA) .none Ul U5 TK Vi (.ref Az) Va),Tx⟩)
  (OD:W.codeIn K (.ref Az) "cheapest_run" = true)
  (a0i:K.lookup Az=some ⟨.type "code",Jz,.fields C7,Jv⟩)
  (a0e:(C7[11]? : aw)=some (.ref xp))
  (Ij:W.codeHdIn K Az xp=true)
  (k55:W.keepIn K (.ref KW)=true)
  (l56:gG K Xs "_law_price" sQ)
  (l57:gG K Xr "least_of_machines" fJ)
  (l58:gG K Xq "least_of_store" kF)
  (l59:gG K Xp "price_bound" kN)
  (l60:gG K Xo "_law_drawn" sR)
  (l61:gG K Xn "_law_want" vK)
  (l62:gG K Xm "_law_prices" kO)
  (l63:gG K Xl "_law_case" pA)
  (l64:gG K Xk "drawn_in" QZ)
  (l65:gG K Xj "left_in_hour" nW)
  (l66:gG K Xi "left_over" pB)
  (a67:W.findIn K (.ref C0) "most" = some (some (.ref KU)))
  (i67:W.isFn K (.ref KU)=true)
  (l67:gP K KU "most" "Machine.most" jI)
  (a68:W.findIn K (.ref C0) "cost_at" = some (some (.ref KS)))
  (i68:W.isFn K (.ref KS)=true)
  (l68:gP K KS "cost_at" "Machine.cost_at" jJ)
  (l69:gG K Xh "begin_costs" kP)
  (l70:gG K Xg "hour_costs" iE)
  (l71:gG K Xf "ledger_of" pC)
  (l72:gG K Xe "plan_cost" pD)
  (l73:gG K Xd "row_worth" vL)
  (l74:gG K Xc "machine_worths" fQ)
  (l75:gG K Xb "store_worth" kQ)
  (l76:gG K Xa "price_gaps" iF)
  (l77:gG K W9 "_law_best_plan" fR)
  (l78:gG K W8 "_law_parts" sS)
  (l79:gG K W7 "_law_met" QY)
  (a80:aQ K "law" W6)
  (l80:Cq K W6 "law" "law" Hj Ua TU Uk U4 TJ Vh Ve U9 Tw)
  (pg0:W.plainGet K C0 Str.empty=true)
  (GL:W.hasDictIn K C0=true)
  (po0:W.plainOver K C0=true)
  (sa0:W.findIn K (.ref C0) "__setattr__" = some (some (.builtin "object.__setattr__")))
  (mk0:W.makesIn K C0=true)
  (kc0:W.keepIn K (.ref C0)=true)
  (JG:W.findIn K (.ref C0) "up" = some none)
  (B6:W.findIn K (.ref C0) "down" = some none)
  (AQ:W.findIn K (.ref C0) "begin" = some none)
  (ED:W.findIn K (.ref C0) "run" = some none)
  (B5:W.findIn K (.ref C0) "rest" = some none)
  (AO:W.findIn K (.ref C0) "least" = some none)
  (zh:W.findIn K (.ref C0) "pieces" = some none)
  (ia0:W.findIn K (.ref C0) "__class__" = some (some (.builtin "object.__class__")))
  (Km:W.specialIn K (.builtin "object.__class__") "__get__" = some (some (.builtin "getset_descriptor.__get__")))
  (it0:W.takesIn K (.builtin "object.__class__")=some true)
  (im0:W.mroIn K C0 (.type "object")=some true)
  (pg1:W.plainGet K C1 Str.empty=true)
  (NS:W.hasDictIn K C1=true)
  (po1:W.plainOver K C1=true)
  (sa1:W.findIn K (.ref C1) "__setattr__" = some (some (.builtin "object.__setattr__")))
  (mk1:W.makesIn K C1=true)
  (kc1:W.keepIn K (.ref C1)=true)
  (EC:W.findIn K (.ref C1) "cap" = some none)
  (B4:W.findIn K (.ref C1) "into" = some none)
  (EB:W.findIn K (.ref C1) "out" = some none)
  (AM:W.findIn K (.ref C1) "takes" = some none)
  (AN:W.findIn K (.ref C1) "gives" = some none)
  (ia1:W.findIn K (.ref C1) "__class__" = some (some (.builtin "object.__class__")))
  (in1:W.specialIn K (.builtin "object.__class__") "__get__" = some (some (.builtin "getset_descriptor.__get__")))
  (it1:W.takesIn K (.builtin "object.__class__")=some true)
  (im1:W.mroIn K C1 (.type "object")=some true)
  (pg2:W.plainGet K C2 Str.empty=true)
  (hd2:W.hasDictIn K C2=true)
  (po2:W.plainOver K C2=true)
  (sa2:W.findIn K (.ref C2) "__setattr__" = some (some (.builtin "object.__setattr__")))
  (mk2:W.makesIn K C2=true)
  (kc2:W.keepIn K (.ref C2)=true)
  (vq:W.findIn K (.ref C2) "machines" = some none)
  (AL:W.findIn K (.ref C2) "store" = some none)
  (B3:W.findIn K (.ref C2) "lack" = some none)
  (ia2:W.findIn K (.ref C2) "__class__" = some (some (.builtin "object.__class__")))
  (in2:W.specialIn K (.builtin "object.__class__") "__get__" = some (some (.builtin "getset_descriptor.__get__")))
  (Ng:W.takesIn K (.builtin "object.__class__")=some true)
  (im2:W.mroIn K C2 (.type "object")=some true)
  (Pj:W.nsIn K mainGlobals "abs" = some none)
  (FJ:W.nsIn K mainGlobals "all" = some none)
  (P1:W.nsIn K mainGlobals "bool" = some none)
  (fX:W.nsIn K mainGlobals "enumerate" = some none)
  (Lq:W.nsIn K mainGlobals "int" = some none)
  (eK:W.nsIn K mainGlobals "isinstance" = some none)
  (hX:W.nsIn K mainGlobals "len" = some none)
  (qJ:W.nsIn K mainGlobals "list" = some none)
  (mM:W.nsIn K mainGlobals "max" = some none)
  (wJ:W.nsIn K mainGlobals "min" = some none)
  (eE:W.nsIn K mainGlobals "range" = some none)
  (QX:W.nsIn K mainGlobals "reversed" = some none)
  (Qm:W.nsIn K mainGlobals "sorted" = some none)
  (mN:W.nsIn K mainGlobals "sum" = some none)
  (kW:W.nsIn K mainGlobals "tuple" = some none)
  (jU:W.nsIn K mainGlobals "zip" = some none)
  (qK:W.nsIn K mainGlobals "MOST_LEVELS" = some (some (.int 8 sf)))
  (mD:W.nsIn K mainGlobals "LONGEST_STINT" = some (some (.int 12 nt)))
  (qL:W.nsIn K mainGlobals "MOST_PIECES" = some (some (.int 4 se)))
  (mE:W.nsIn K mainGlobals "MOST_MACHINES" = some (some (.int 6 nk))) :
  (∃c,W.codeHdIn K c xw=true)/\(∃c,W.codeHdIn K c xu=true)/\(∃c,W.codeHdIn K c xq=true)/\(∃c,W.codeHdIn K c xp=true)/\∃fd:FuncData,(∀(s:Shared) (v:Value),BindsTo s fd ⟨[v],[]⟩ [("_law_script",v)])/\∀base:Heap,K.In base->base.Ns mainGlobals mg->bQ l.prog w K mg base eR 17 fa fd bta (Hw K xq xp xw xu):=by
 have e:=hfa.symm.trans (W.mg_of X G a80);cases e;obtain⟨d0,x0⟩:=bT X G l0 (ps:=bha) (by walk_at "b2");obtain⟨d1,x1⟩:=bT X G l1 (ps:=bqa) (by walk_at "b2");obtain⟨d2,x2⟩:=bT X G l2 (ps:=bka) (by walk_at "b2");obtain⟨d3,x3⟩:=bT X G l3 (ps:=bMa) (by walk_at "b1");obtain⟨d4,x4⟩:=bT X G l4 (ps:=aca) (by walk_at "b1");obtain⟨d5,x5⟩:=bT X G l5 (ps:=aca) (by walk_at "b1");obtain⟨d6,x6⟩:=bT X G l6 (ps:=aca) (by walk_at "b1");obtain⟨d7,x7⟩:=bT X G l7 (ps:=aca) (by walk_at "b1");obtain⟨d8,x8⟩:=bT X G l8 (ps:=aca) (by walk_at "b1");obtain⟨d9,x9⟩:=CK l9 (ps:=ana) (by walk_at "b8");obtain⟨d10,x10⟩:=bT X G l10 (ps:=aWa) (by walk_at "b3");obtain⟨d11,x11⟩:=bT X G l11 (ps:=awa) (by walk_at "b1");obtain⟨d12,Vu⟩:=CK l12 (ps:=a6a) (by walk_at "b2");obtain⟨d13,Vt⟩:=CK l13 (ps:=a6a) (by walk_at "b2");obtain⟨d14,x14⟩:=bT X G l14 (ps:=gz) (by walk_at "b3");obtain⟨d15,x15⟩:=bT X G l15 (ps:=gz) (by walk_at "b3");obtain⟨d16,x16⟩:=bT X G l16 (ps:=aia) (by walk_at "b2")
 obtain⟨d17,x17⟩:=bT X G l17 (ps:=aka) (by walk_at "b3");obtain⟨d18,x18⟩:=bT X G l18 (ps:=aca) (by walk_at "b1");obtain⟨d19,x19⟩:=CK l19 (ps:=aAa) (by walk_at "b6");obtain⟨d20,x20⟩:=bT X G l20 (ps:=kf) (by walk_at "b3");obtain⟨d21,x21⟩:=bT X G l21 (ps:=kf) (by walk_at "b3");obtain⟨d22,x22⟩:=bT X G l22 (ps:=kf) (by walk_at "b3");obtain⟨d23,x23⟩:=bT X G l23 (ps:=kf) (by walk_at "b3");obtain⟨d24,x24⟩:=bT X G l24 (ps:=aua) (by walk_at "b2");obtain⟨d25,x25⟩:=bT X G l25 (ps:=aZa) (by walk_at "b4");obtain⟨d26,x26⟩:=bT X G l26 (ps:=bAa) (by walk_at "b2");obtain⟨d27,x27⟩:=bT X G l27 (ps:=aua) (by walk_at "b2");obtain⟨d28,x28⟩:=bT X G l28 (ps:=bga) (by walk_at "b3");obtain⟨d29,x29⟩:=bT X G l29 (ps:=bGa) (by walk_at "b2");obtain⟨d30,x30⟩:=bT X G l30 (ps:=aca) (by walk_at "b1");obtain⟨d31,x31⟩:=CK l31 (ps:=a9a) (by walk_at "b4");obtain⟨d32,x32⟩:=bT X G l32 (ps:=a7a) (by walk_at "b4");obtain⟨d33,x33⟩:=bT X G l33 (ps:=bia) (by walk_at "b3")
 obtain⟨d34,x34⟩:=bT X G l34 (ps:=aoa) (by walk_at "b2");obtain⟨d35,x35⟩:=bT X G l35 (ps:=aHa) (by walk_at "b2");obtain⟨d36,x36⟩:=bT X G l36 (ps:=aqa) (by walk_at "b2");obtain⟨d37,x37⟩:=bT X G l37 (ps:=awa) (by walk_at "b1");obtain⟨d38,x38⟩:=bT X G l38 (ps:=aia) (by walk_at "b2");obtain⟨d39,x39⟩:=bT X G l39 (ps:=aKa) (by walk_at "b3");obtain⟨d40,x40⟩:=bT X G l40 (ps:=aTa) (by walk_at "b3");obtain⟨d41,x41⟩:=bT X G l41 (ps:=asa) (by walk_at "b3");obtain⟨d42,x42⟩:=bT X G l42 (ps:=apa) (by walk_at "b3");obtain⟨d43,x43⟩:=bT X G l43 (ps:=afa) (by walk_at "b5");obtain⟨d44,x44⟩:=bT X G l44 (ps:=boa) (by walk_at "b3");obtain⟨d45,x45⟩:=bT X G l45 (ps:=bxa) (by walk_at "b2");obtain⟨d46,x46⟩:=bT X G l46 (ps:=bna) (by walk_at "b3");obtain⟨d47,x47⟩:=bT X G l47 (ps:=baa) (by walk_at "b4");obtain⟨d48,x48⟩:=bT X G l48 (ps:=aIa) (by walk_at "b3");have F49:=HB (st:=cK) l49 OG k49;have b49:=F49.binds (ps:=ama) (by walk_at "b3")
 have F50:=HB (st:=dN) l50 OF k50;have b50:=F50.binds (ps:=ama) (by walk_at "b3");obtain⟨d51,x51⟩:=bT X G l51 (ps:=bja) (by walk_at "b3");obtain⟨d52,x52⟩:=bT X G l52 (ps:=bda) (by walk_at "b2");obtain⟨d53,x53⟩:=bT X G l53 (ps:=aza) (by walk_at "b3");have F54:=HB (st:=cV) l54 OE k54;have b54:=F54.binds (ps:=aba) (by walk_at "b3");have F55:=HB (st:=eA) l55 OD k55;have b55:=F55.binds (ps:=aba) (by walk_at "b3");obtain⟨d56,x56⟩:=bT X G l56 (ps:=ava) (by walk_at "b3");obtain⟨d57,x57⟩:=bT X G l57 (ps:=Te) (by walk_at "b3");obtain⟨d58,x58⟩:=bT X G l58 (ps:=Te) (by walk_at "b3");obtain⟨d59,x59⟩:=bT X G l59 (ps:=aXa) (by walk_at "b4");obtain⟨d60,x60⟩:=bT X G l60 (ps:=ala) (by walk_at "b3");obtain⟨d61,x61⟩:=bT X G l61 (ps:=aoa) (by walk_at "b2");obtain⟨d62,x62⟩:=bT X G l62 (ps:=aga) (by walk_at "b4");obtain⟨d63,x63⟩:=bT X G l63 (ps:=aqa) (by walk_at "b2");obtain⟨d64,x64⟩:=bT X G l64 (ps:=bca) (by walk_at "b3")
 obtain⟨d65,x65⟩:=bT X G l65 (ps:=a8a) (by walk_at "b4");obtain⟨d66,x66⟩:=bT X G l66 (ps:=ba) (by walk_at "b4");obtain⟨d67,Vs⟩:=CK l67 (ps:=bVa) (by walk_at "b1");obtain⟨d68,Vr⟩:=CK l68 (ps:=bHa) (by walk_at "b2");obtain⟨d69,x69⟩:=bT X G l69 (ps:=aVa) (by walk_at "b3");obtain⟨d70,x70⟩:=bT X G l70 (ps:=aYa) (by walk_at "b4");obtain⟨d71,x71⟩:=bT X G l71 (ps:=ba) (by walk_at "b4");obtain⟨d72,x72⟩:=bT X G l72 (ps:=ba) (by walk_at "b4");obtain⟨d73,x73⟩:=bT X G l73 (ps:=aya) (by walk_at "b5");obtain⟨d74,x74⟩:=bT X G l74 (ps:=aea) (by walk_at "b4");obtain⟨d75,x75⟩:=bT X G l75 (ps:=aea) (by walk_at "b4");obtain⟨d76,x76⟩:=bT X G l76 (ps:=axa) (by walk_at "b5");obtain⟨d77,x77⟩:=bT X G l77 (ps:=aja) (by walk_at "b4");obtain⟨d78,x78⟩:=bT X G l78 (ps:=bLa) (by walk_at "b1");obtain⟨d79,x79⟩:=bT X G l79 (ps:=aaa) (by walk_at "b5");have F80:=Pc l80;have b80:=F80.binds (ps:=bta) (by walk_at "b1");have tx:Txt K mg ⟨f0,d0,f1,d1,f2,d2,f3,d3,f4,d4,f5,d5,f6,d6,f7,d7,f8,d8,f9,d9,X8,d10,X7,d11,Lb,d12,La,d13,X6,d14,X5,d15,X4,d16,X3,d17,X2,d18,K2,d19,X1,d20,X0,d21,XZ,d22,XY,d23,XX,d24,XW,d25,XU,d26,XT,d27,XS,d28,XR,d29,XQ,d30,K1,d31,XO,d32,XN,d33,XM,d34,XJ,d35,XI,d36,XH,d37,XG,d38,XF,d39,XE,d40,XD,d41,XC,d42,XB,d43,XA,d44,Xz,d45,Xy,d46,Xx,d47,Xw,d48,K0,_,KZ,_,Xv,d51,Xu,d52,Xt,d53,KY,_,KW,_,Xs,d56,Xr,d57,Xq,d58,Xp,d59,Xo,d60,Xn,d61,Xm,d62,Xl,d63,Xk,d64,Xj,d65,Xi,d66,KU,d67,KS,d68,Xh,d69,Xg,d70,Xf,d71,Xe,d72,Xd,d73,Xc,d74,Xb,d75,Xa,d76,W9,d77,W8,d78,W7,d79,fa,_,AD,xw,AB,xu,AA,xq,Az,xp,C0,C1,C2⟩:=⟨x0,x1,x2,x3,x4,x5,x6,x7,x8,x9,x10,x11,Vu,Vt,x14,x15,x16,x17,x18,x19,x20,x21,x22,x23,x24,x25,x26,x27,x28,x29,x30,x31,x32,x33,x34,x35,x36,x37,x38,x39,x40,x41,x42,x43,x44,x45,x46,x47,x48,⟨F49,b49,W.mg_of X G a49⟩,⟨F50,b50,W.mg_of X G a50⟩,x51,x52,x53,⟨F54,b54,W.mg_of X G a54⟩,⟨F55,b55,W.mg_of X G a55⟩,x56,x57,x58,x59,x60,x61,x62,x63,x64,x65,x66,Vs,Vr,x69,x70,x71,x72,x73,x74,x75,x76,x77,x78,x79,⟨F80,b80,W.mg_of X G a80⟩,⟨pg0,GL,po0,sa0⟩,W.mg_of X G aC0,⟨mk0,a9,i9,kc0⟩,⟨Q7,i12,Vu.F.kp⟩,⟨Mc,i13,Vt.F.kp⟩,⟨a67,i67,Vs.F.kp⟩,⟨a68,i68,Vr.F.kp⟩,JG,B6,AQ,ED,B5,AO,zh,⟨ia0,Km,it0,im0⟩,⟨pg1,NS,po1,sa1⟩,W.mg_of X G aC1,⟨mk1,a19,i19,kc1⟩,EC,B4,EB,AM,AN,⟨ia1,in1,it1,im1⟩,⟨pg2,hd2,po2,sa2⟩,W.mg_of X G aC2,⟨mk2,a31,i31,kc2⟩,vq,AL,B3,⟨ia2,in2,Ng,im2⟩,⟨rfl,Im⟩,⟨rfl,Il⟩,⟨rfl,Ik⟩,⟨rfl,Ij⟩,W.mg_none_of X G Pj,W.mg_none_of X G FJ,W.mg_none_of X G P1,W.mg_none_of X G fX,W.mg_none_of X G Lq,W.mg_none_of X G eK,W.mg_none_of X G hX,W.mg_none_of X G qJ,W.mg_none_of X G mM,W.mg_none_of X G wJ,W.mg_none_of X G eE,W.mg_none_of X G QX,W.mg_none_of X G Qm,W.mg_none_of X G mN,W.mg_none_of X G kW,W.mg_none_of X G jU,⟨_,W.mg_of X G qK⟩,⟨_,W.mg_of X G mD⟩,⟨_,W.mg_of X G qL⟩,⟨_,W.mg_of X G mE⟩⟩
 exact⟨⟨_,Im⟩,⟨_,Il⟩,⟨_,Ik⟩,⟨_,Ij⟩,_,λs v=>.of_eq rfl,λbase _ _=>aRz tx⟩
theorem walk{l:W.OpenLaw}{q:Program}{loose:ah}{XP:(Str->aw)->Heap->Prop}{YP:World->Heap->Prop}{d:DefRec}{K:Params->W.Frag}{xw xu xq xp:Addr}(hn:l.most=some 63)(GK:d.params.defaults=[])(hI:∀(w:World) (h:Heap),YP w h->(K w.params).In h)
  (F:∀(w:World) (mg:Str->aw) (fa:Addr) (h:Heap),(K w.params).In h->h.Ns mainGlobals mg->mg d.name=some (.ref fa)->
   (∃c,W.codeHdIn (K w.params) c xw=true)/\(∃c,W.codeHdIn (K w.params) c xu=true)/\(∃c,W.codeHdIn (K w.params) c xq=true)/\(∃c,W.codeHdIn (K w.params) c xp=true)/\∃fd:FuncData,(∀(s:Shared) (u:Value),BindsTo s fd ⟨[u],[]⟩ [("_law_script",u)])/\∀base:Heap,(K w.params).In base->base.Ns mainGlobals mg->bQ l.prog w (K w.params) mg base eR 17 fa fd bta (Hw (K w.params) xq xp xw xu))
  (hN:decide ([xw,xu,xq,xp]:ay).Nodup=true) (hY:∀(w:World) (h:Heap),YP w h->∀t∈([xw,xu,xq,xp]:ay),h.get? t=some { cls:=.none,data:=.fields #[] })
  (hK:∀w:World,(K w.params).lookup xw=none/\(K w.params).lookup xu=none/\(K w.params).lookup xq=none/\(K w.params).lookup xp=none) :
  W.WalkO q loose XP YP l.row.toRowW d [] (λf vs=>PySem.call f vs):=by
 refine L2.aM1 (tabs:=[(xw,dG,dH),(xu,fT,fU),(xq,dI,dJ),(xp,gH,gI)]) (n:=63) (k:=17) (x:="_law_script") (sp:=λw=>Hw (K w.params) xq xp xw xu) hn (by decide) GK ⟨rfl,by decide,by decide⟩ (ua hN) (λw h Y=>⟨hI w h Y,λt ht=>hY w h Y t.1 ?_⟩) (λw t ht=>?_) (λw mg fa h x1 x2 x3=>?_) (λ_ _ a ns hl hT hS=>?_)
 ·simp only[lR,vd,or_false] at ht;rcases ht with rfl|rfl|rfl|rfl <;> simp
 ·have hk:=hK w;simp only[lR,vd,or_false] at ht;rcases ht with rfl|rfl|rfl|rfl
  ·exact hk.1
  ·exact hk.2.1
  ·exact hk.2.2.1
  ·exact hk.2.2.2
 ·obtain⟨OG,OF,OE,OD,rest⟩:=F w mg fa h x1 x2 x3;refine⟨λt ht=>?_,rest⟩;simp only[lR,vd,or_false] at ht;rcases ht with rfl|rfl|rfl|rfl
  ·exact OG
  ·exact OF
  ·exact OE
  ·exact OD
 ·exact⟨a,ns,rfl,hS,hl,hT (xw,dG,dH) (by simp),hT (xu,fT,fU) (by simp),hT (xq,dI,dJ) (by simp),hT (xp,gH,gI) (by simp),λH' s'=>⟨rfl,s'⟩⟩
end My
open PySem PySem.W PyProof.Rows
set_option maxRecDepth 100000 in
theorem PySem.Challenge.cw_stintwise_k74_gaps_are_nought_where_they_holds : PySem.Challenge.rw_stintwise_k74_gaps_are_nought_where_they.Holds := by
 w_on;o_law;k_head;(case hw=>w_witness2)
 k_fill
 refine' My.walk (l:=PySem.Challenge.rw_stintwise_k74_gaps_are_nought_where_they) rfl rfl (λw h Y=>PySem.W.km_in_of Y) ?F ?hN0 ?hY0 ?hK0
 case F=>
  intro w mg fa h KX G GD;refine' My.all_mk KX G GD ?_ ?_ ?_ ?_ ?_ ?_ ?_ ?_ ?_ ?_ ?_ ?_ ?_ ?_ ?_ ?_ ?_ ?_ ?_ ?_ ?_ ?_ ?_ ?_ ?_ ?_ ?_ ?_ ?_ ?_ ?_ ?_ ?_ ?_ ?_ ?_ ?_ ?_ ?_ ?_ ?_ ?_ ?_ ?_ ?_ ?_ ?_ ?_ ?_ ?_ ?_ ?_ ?_ ?_ ?_ ?_ ?_ ?_ ?_ ?_ ?_ ?_ ?_ ?_ ?_ ?_ ?_ ?_ ?_ ?_ ?_ ?_ ?_ ?_ ?_ ?_ ?_ ?_ ?_ ?_ ?_ ?_ ?_ ?_ ?_ ?_ ?_ ?_ ?_ ?_ ?_ ?_ ?_ ?_ ?_ ?_ ?_ ?_ ?_ ?_ ?_ ?_ ?_ ?_ ?_ ?_ ?_ ?_ ?_ ?_ ?_ ?_ ?_ ?_ ?_ ?_ ?_ ?_ ?_ ?_ ?_ ?_ ?_ ?_ ?_ ?_ ?_ ?_ ?_ ?_ ?_ ?_ ?_ ?_ ?_ ?_ ?_ ?_ ?_ ?_ ?_ ?_ ?_ ?_ ?_ ?_ ?_ ?_ ?_ ?_ ?_ ?_ ?_ ?_ ?_ ?_ ?_ ?_ ?_ ?_ ?_ ?_ ?_ ?_ ?_ ?_ ?_ ?_ ?_ ?_ ?_ ?_ ?_ ?_ ?_ ?_ ?_ ?_ ?_ ?_ ?_ ?_ ?_ ?_ ?_ ?_ ?_ ?_;any_goals first|(refine' My.aSu ?a0 ?l0;(case a0=>unfold My.aQ;k_is);(case l0=>unfold My.Cq;refine' ⟨?_,?_,?_⟩ <;> k_is))|(refine' My.YR ?l0;(case l0=>unfold My.Cq;refine' ⟨?_,?_,?_⟩ <;> k_is))|k_is|(unfold My.aQ;k_is)|(unfold My.Cq;refine' ⟨?_,?_,?_⟩ <;> k_is)|exact rfl|kernel_rfl
 case hN0=>exact rfl
 case hY0=>exact λw h Y t ht=>PySem.W.km_tabs_of Y t (by revert t;decide)
 case hK0=>intro w;exact⟨by kernel_rfl,by kernel_rfl,by kernel_rfl,by kernel_rfl⟩
