import PyProof.Rows.All
import Wide.All
import OpenK.AllK
import Wide.FinOn
import Lean
import PyProof.EqAt
import PyProof.EqKinds
import PyProof.NeKinds
import PyProof.TupleCall
import KE.KDictSum
import KE.KSortTup
import PyProof.SetRoads
import PyProof.Rows.SetFrom
import KE.KLam
import KE.KNestM
import PyProof.DictItems
import PyProof.DictValues
import PyProof.Rows.TupDisplay
import PySem.Challenge.RW_stintwise_k43_first_of_many_alike
set_option Elab.async false
set_option linter.all false
set_option maxRecDepth 100000
namespace PySem.W.Fast
def tw10995839925546683750:=()
def tw7607694961390505521:=()
def tw966687992398882691:=()
def tw14775520325750095948:=()
def tw17860466871467322928:=()
def tw8233628128264940084:=()
def tw3166293367207306311:=()
def tw9955948004947780238:=()
def tw14201290755125252480:=()
def tw14530787592979549508:=()
def tw8818500574652883489:=()
def tw15296896546570692239:=()
def tw14689213692694436232:=()
def tw2131893681711868099:=()
def tw145109266376660284:=()
def tw10589486070161794376:=()
def tw6765842313908193523:=()
def tw3068795909200037587:=()
def tw17673546707383672473:=()
def tw7867323470902338917:=()
def tw1223629105650682939:=()
def tw4313695683670755275:=()
def tw17110154225077191375:=()
def tw4620067236973144022:=()
def tw6467550628845336132:=()
def tw4887104680038232492:=()
def tw8637756367840906358:=()
def tw10636589516107771851:=()
def tw13353448964092257721:=()
def tw8797585877298574694:=()
def tw14035790890538915931:=()
def tw947666255645613246:=()
def tw4011545944967989166:=()
def tw1431213328197231932:=()
def tw17725896547301786221:=()
def tw15667691538499036369:=()
def tw1812555055237083282:=()
def tw6679076826688654770:=()
def tw1757225764158750276:=()
def tw6231878388214548303:=()
def tw12459010556991403197:=()
def tw10368695796711677080:=()
def tw10396892662119376455:=()
def tw2944077557860104551:=()
def tw18039624392703032643:=()
def tw5382877056038894876:=()
def tw2946522956072130276:=()
def tw11557223267479991395:=()
def tw3011146755955348581:=()
def tw17186825779137760547:=()
def tw3190225896861407964:=()
def tw8627930098592622228:=()
def tw17975973532197657046:=()
def tw12984138732890172437:=()
def tw4386150044641007103:=()
def tw9796594089504060181:=()
def tw5798683462014463804:=()
def tw2787298223235290450:=()
def tw11919805739896756762:=()
def tw17564747425328487085:=()
def tw6325219443633435963:=()
def tw3596565433398127005:=()
def tw11976814553166332650:=()
def tw1432677649535773862:=()
def tw1183792236539566342:=()
def tw3065627513765008557:=()
def tw5345559238648550932:=()
def tw10105543273523950282:=()
def tw12650254125670943880:=()
def tw4289392357954885618:=()
def tw1393918873411576018:=()
def tw12380089963633223854:=()
def tw17220696016710689155:=()
def tw7785864394230507781:=()
def tw13041223875425636109:=()
def tw35087583555045203:=()
def tw520211735589089584:=()
def tw6718816094245510127:=()
def tw9296381948801844369:=()
def tw1219778713172556644:=()
def tw12827462360332540072:=()
def tw3627377819684277170:=()
def tw1118187202049579866:=()
def tw6371164586621262193:=()
def tw4050280884901596674:=()
def tw14591150294658599203:=()
def tw17089232547250933511:=()
def tw889421540467129512:=()
def tw4949006562641952765:=()
def tw494038881474470246:=()
def tw3051058293569934252:=()
def tw5689443775121225309:=()
def tw17675748897490029216:=()
def tw8785125144042411572:=()
def tw3248430049202350076:=()
def tw4740490711790796318:=()
def tw15782779397736139508:=()
def tw10461740329221809709:=()
def tw2060350771085704516:=()
def tw6811529956561393422:=()
def tw16483974486134004779:=()
def tw17527189881267777118:=()
def tw5331408826409088114:=()
def tw16841863106857539301:=()
def tw8661630758230761369:=()
def tw1821557571736084782:=()
def tw16085074919472427254:=()
def tw16807062978382085020:=()
def tw11490935470892061452:=()
def tw13590103878039862722:=()
def tw7189882783181191352:=()
def tw7223118355021927769:=()
def tw16927120649495255194:=()
def tw710059564349631665:=()
def tw9727257798510915900:=()
def tw6470833191500006756:=()
def tw13062707608874644069:=()
def tw6466050232639297481:=()
def tw2932332647366333204:=()
def tw16620543771394728647:=()
def tw2447847387344801621:=()
def tw18055239567521190752:=()
def tw17586903079447135074:=()
def tw17140036716635921540:=()
def tw2121067357792495931:=()
def tw10071846191857207541:=()
def tw1827738811830402805:=()
def tw8102094865109205641:=()
def tw8563352588954837567:=()
def tw4874157161372141879:=()
def tw13515037106164602016:=()
def tw7682268003280889850:=()
def tw8550457684704301855:=()
def tw11411627258990721637:=()
def tw11091460541282016910:=()
def tw8882857209486040803:=()
def tw9139374265499458562:=()
def tw2706692686327156835:=()
def tw9829852568250582704:=()
def tw5381935231526896190:=()
def tw609482897106770882:=()
def tw17139388517598297981:=()
def tw6629073227656546300:=()
def tw6031558592627938870:=()
def tw5381033625410740197:=()
def tw12382348851979953225:=()
def tw4055282437655267597:=()
def tw3484424190965324036:=()
def tw5295400678394840390:=()
def tw14895796712211640728:=()
def tw716774294370737840:=()
def tw2648500057171466007:=()
def tw17378204789372812927:=()
def tw16452092732460047100:=()
def tw17519655002787120979:=()
def tw12228855146321354093:=()
def tw3208883240814872731:=()
def tw16712870440464288967:=()
def tw5932198047019316420:=()
def tw7874539485010660778:=()
def tw9996330078056596703:=()
def tw17629029056356284374:=()
def tw16390868093295075074:=()
def tw14669362306724256405:=()
def tw8312910388403959455:=()
def tw272749588670486465:=()
def tw18334184817487393310:=()
def tw1661870289505362668:=()
def tw7525859263828111789:=()
def tw7067843056223966160:=()
def tw6364632709202274187:=()
def tw4279730909328580195:=()
def tw15350695029635998035:=()
def tw2080102674055543885:=()
def tw14879466372387202889:=()
def tw1428309412859303272:=()
def tw11257312346560855116:=()
def tw2440689840836824600:=()
def tw3401964720920753503:=()
def tw492766723644539085:=()
def tw9296686251690299940:=()
def tw1478129684007487147:=()
def tw16059214767704685053:=()
def tw10711042704546073589:=()
def tw16461641386367246295:=()
def tw6910754465198367515:=()
def tw12737040885355096871:=()
def tw12427018212887770344:=()
def tw7147304355067538659:=()
def tw12428898176664500706:=()
def tw1739475107013391350:=()
def tw16983000709921890056:=()
def tw29417934502352737:=()
def tw14504147774358938403:=()
def tw1174337218003646693:=()
def tw5283424004333292785:=()
def tw16422723308492063868:=()
def tw813963094566618494:=()
def tw6850470240809483136:=()
def tw10682798825139391952:=()
def tw18316227987842564232:=()
def tw6493958196691751209:=()
def tw10871473111334808075:=()
def tw14855941668508458062:=()
def tw6227374686686563539:=()
def tw12683337824346753396:=()
def tw11585398064250771534:=()
def tw9638076719282822853:=()
def tw2767863691148385725:=()
def tw15735831894827835521:=()
def tw3087991259167742309:=()
def tw13053331953974720924:=()
def tw10033944043490793935:=()
def tw912549429020236233:=()
def tw12949181832380176622:=()
def tw1005080218252843986:=()
def tw9071913728718770713:=()
def tw1447655538568044156:=()
end PySem.W.Fast
set_option maxHeartbeats 0
namespace L2
open PySem PySem.Spec PyProof.Rows
abbrev Key:=Sum Int Str
def aAX:Key->Value->Bool
 |.inl k,v=>Value.isInt k v
 |.inr x,v=>Value.isStrOf x v
def aLJ(w:World):Key->Int
 |.inl k=>hashInt k
 |.inr x=>hashStr w x
theorem cZ:∀{k:Key}{v:Value},aAX k v=true->(∃i t,k=Sum.inl i/\v=Value.int i t)\/(∃x t,k=Sum.inr x/\v=Value.str x t)
 |.inl i,v,h=>by
  obtain⟨t,e⟩:=Value.isInt_shape (k:=i) (v:=v) h
  exact .inl ⟨i,t,rfl,e⟩
 |.inr x,v,h=>by
  obtain⟨t,e⟩:=Value.isStrOf_shape (x:=x) (v:=v) h
  exact .inr ⟨x,t,rfl,e⟩
theorem aFc(i:Int)(t:Tok):aAX (.inl i) (.int i t)=true:=by simp[aAX,Value.isInt]
theorem aFd(x:Str)(t:Tok):aAX (.inr x) (.str x t)=true:=by simp[aAX,Value.isStrOf]
theorem aJi(a b:Int):decide ((Sum.inl a:Key)=Sum.inl b)=(a == b):=by
 by_cases e:a=b
 ·subst e;simp
 ·have h:¬(Sum.inl a:Key)=Sum.inl b:=fun q=>e (Sum.inl.inj q)
  rw[decide_eq_false h]
  exact(beq_eq_false_iff_ne.mpr e).symm
theorem aJj(a b:Str):decide ((Sum.inr a:Key)=Sum.inr b)=decide (a=b):=by
 by_cases e:a=b
 ·subst e;simp
 ·have h:¬(Sum.inr a:Key)=Sum.inr b:=fun q=>e (Sum.inr.inj q)
  rw[decide_eq_false h,decide_eq_false e]
theorem aJk(a:Int)(b:Str):decide ((Sum.inl a:Key)=Sum.inr b)=false:=decide_eq_false (fun q=>nomatch q)
theorem aJl(a:Str)(b:Int):decide ((Sum.inr a:Key)=Sum.inl b)=false:=decide_eq_false (fun q=>nomatch q)
def dA(prog:Program)(w:World):PySem.KeyKind prog w Key where
 is:=aAX
 hash:=aLJ w
 inj:=fun v a b ha hb=>by
  rcases cZ ha with ⟨i,t,rfl,rfl⟩|⟨x,t,rfl,rfl⟩
  ·rcases cZ hb with ⟨j,u,rfl,e⟩|⟨y,u,rfl,e⟩
   ·injection e with e1 _;rw[e1]
   ·exact nomatch e
  ·rcases cZ hb with ⟨j,u,rfl,e⟩|⟨y,u,rfl,e⟩
   ·exact nomatch e
   ·injection e with e1 _;rw[e1]
 byValue:=fun k v h=>by
  rcases cZ h with ⟨i,t,rfl,rfl⟩|⟨x,t,rfl,rfl⟩ <;> rfl
 pyHash:=fun hv h=>by
  rcases cZ hv with ⟨i,t,rfl,rfl⟩|⟨x,t,rfl,rfl⟩
  ·exact wpAny_pyHash_int h
  ·exact wpAny_pyHash_str h
 eqBool:=fun hu hv h=>by
  rcases cZ hu with ⟨i,t,rfl,rfl⟩|⟨x,t,rfl,rfl⟩
  ·rcases cZ hv with ⟨j,u,rfl,rfl⟩|⟨y,u,rfl,rfl⟩
   ·rw[aJi] at h;exact wpAny_eqBool_int h
   ·rw[aJk] at h;exact SeqAt.EqAt.int_str i t y u _ _ _ _ h
  ·rcases cZ hv with ⟨j,u,rfl,rfl⟩|⟨y,u,rfl,rfl⟩
   ·rw[aJl] at h;exact SeqAt.EqAt.str_int x t j u _ _ _ _ h
   ·rw[aJj] at h;exact wpAny_eqBool_str h
 «strs»:=fun k x t v h=>by
  rcases cZ h with ⟨i,u,rfl,e⟩|⟨y,u,rfl,e⟩
  ·exact nomatch e
  ·injection e with e1 _
   subst e1
   cases v <;> rfl
theorem aCD(prog:Program)(w:World)(i:Int)(t:Tok):(dA prog w).is (.inl i) (.int i t)=true:=aFc i t
theorem aCE(prog:Program)(w:World)(x:Str)(t:Tok):(dA prog w).is (.inr x) (.str x t)=true:=aFd x t
end L2
namespace L2
open PySem PySem.Spec PyProof.Rows
inductive V where
 |non|bl (b:Bool)|int (i:Int)|str (x:Str)|byt (b:Array UInt8)|flt (b:UInt64)|ref (a:Addr)|ty (n:String)
 deriving DecidableEq
def RelV:V->Value->Prop
 |.non,u=>u=Value.none
 |.bl b,u=>u=Value.bool b
 |.int i,u=>∃t,u=Value.int i t
 |.str x,u=>∃t,u=Value.str x t
 |.byt b,u=>∃t,u=Value.bytes b t
 |.flt b,u=>∃t,u=Value.float b t
 |.ref a,u=>u=Value.ref a
 |.ty n,u=>u=Value.type n
abbrev Vals:List V->List Value->Prop:=Paired RelV
theorem Vals.length{xs:List V}{us:List Value}(r:Vals xs us):xs.length=us.length:=Paired.length r
theorem Vals.get:∀{xs:List V}{us:List Value}{i:Nat}{x:V},Vals xs us->xs[i]?=some x->∃u,us[i]?=some u/\RelV x u
 |_,_,_,_,.nil,e=>by simp at e
 |_,_,0,_,.cons r _,e=>by simp at e;subst e;exact⟨_,rfl,r⟩
 |_,_,i+1,x,.cons _ t,e=>by
  obtain⟨u,h1,h2⟩:=Vals.get (i:=i) (x:=x) t (by simpa using e)
  exact⟨u,by simpa using h1,h2⟩
theorem Vals.set{x:V}{u:Value}(r:RelV x u):∀{xs:List V}{us:List Value}(i:Nat),Vals xs us->Vals (xs.set i x) (us.set i u)
 |_,_,_,.nil=>.nil
 |_,_,0,.cons _ t=>.cons r t
 |_,_,i+1,.cons q t=>.cons q (Vals.set r i t)
theorem Vals.append:∀{xs ys:List V}{us ws:List Value},Vals xs us->Vals ys ws->Vals (xs++ys) (us++ws)
 |_,_,_,_,.nil,s=>s
 |_,_,_,_,.cons r t,s=>.cons r (Vals.append t s)
theorem Vals.take:∀{xs:List V}{us:List Value}(n:Nat),Vals xs us->Vals (xs.take n) (us.take n)
 |_,_,0,_=>.nil
 |_,_,_+1,.nil=>.nil
 |_,_,n+1,.cons r t=>.cons r (Vals.take n t)
theorem Vals.drop:∀{xs:List V}{us:List Value}(n:Nat),Vals xs us->Vals (xs.drop n) (us.drop n)
 |_,_,0,r=>r
 |_,_,_+1,.nil=>.nil
 |_,_,n+1,.cons _ t=>Vals.drop n t
def pK:Option V->Option Value->Prop
 |some v,some u=>RelV v u
 |none,none=>True
 |_,_=>False
def KV{κ:Type}:List (κ×V)->List (κ×Value)->Prop:=Paired fun(p:κ×V) (q:κ×Value)=>p.1=q.1/\RelV p.2 q.2
def kV:Key->V
 |.inl i=>.int i
 |.inr x=>.str x
inductive HO where
 |lst (xs:List V)
 |tup (xs:List V)
 |dK (kvs:List (Key×V))|dT (kvs:List (List Key×V))
 |set (S:Int->Bool) (n:Nat)
 |ins (C dx:Addr) (fs:List (Str×V))
 |own (x:Addr)
 |xd (fs:List (Str×V))
 |met (f x:Addr)
 |rng (lo hi:Int)
 |frz (o:Obj) (u:HO)
 |tbl (ps:Array Value)
 |ext (φ:Heap->Prop)
 |cod (q:Str)|ctb (pos:Pos) (q:Str)
def Sty:HO->Prop
 |.tup _=>True
 |.cod _=>True
 |_=>False
abbrev Hp:=Addr->Option HO
def upd(H:Hp)(a:Addr)(o:HO):Hp:=fun b=>if b=a then some o else H b
theorem aH{H:Hp}{a:Addr}{o:HO}:upd H a o a=some o:=by unfold upd;rw[if_pos rfl]
theorem aL{H:Hp}{a b:Addr}{o:HO}(h:b≠a):upd H a o b=H b:=by unfold upd;rw[if_neg h]
theorem uD{H:Hp}{a:Addr}{o u:HO}:upd (upd H a o) a u=upd H a u:=by
 funext b;unfold upd;split <;> rfl
theorem aIY{H:Hp}{a b:Addr}{o u:HO}(h:H a=some o)(h':H b=some u)(d:o≠u):a≠b:=by
 intro e;subst e;rw[h] at h';exact d (Option.some.inj h')
theorem bC{H:Hp}{a b:Addr}{o:HO}(h:H a=some o)(h':H b=none):a≠b:=by
 intro e;subst e;rw[h] at h';cases h'
section
variable(P:Program)(w:World)
def bJ(H:Hp)(h:Heap)(a:Addr):HO->Prop
 |.lst xs=>xs.length<=sizeLine/\∃(its:List Value) (n:Nat),Vals xs its/\h.get? a=some { cls:=.type "list",data:=.seq its.toArray n }
 |.tup xs=>xs.length<=sizeLine/\∃its:List Value,Vals xs its/\IsTup h a its.toArray
 |.dK kvs=>kvs.length<=sizeLine/\(a == sysModules)=false/\∃vs,KV kvs vs/\h.DictOf (dA P w) a vs
 |.dT kvs=>kvs.length<=sizeLine/\(a == sysModules)=false/\∃xs:List (List Key×Addr×Value),
   Paired (fun(p:List Key×V) (q:List Key×Addr×Value)=>p.1=q.1/\H q.2.1=some (.tup (p.1.map kV))/\RelV p.2 q.2.2) kvs xs/\
   ∃o es ep,h.get? a=some o/\o.ExactDict/\o.data=.dict es ep/\es.toList=xs.map (entryOfKey (tupleKind (dA P w)))/\(xs.map (·.1)).Nodup
 |.set S n=>h.SetOf (intKind P w) a S n
 |.ins C dx fs=>H dx=some (.own a)/\fs.length<=1000/\dx≠a/\h.get? a=some (PySem.W.instObj C dx)/\
   ∃mA,h.Ns1 dx mA/\(∀f,pK (fs.lookup f) (mA f))/\PySem.Within mA (fs.map (·.1))
 |.own _=>∃o,h.get? a=some o
 |.xd fs=>∃mA,h.Ns1 a mA/\∀f,pK (fs.lookup f) (mA f)
 |.rng lo hi=>∃t u v,h.get? a=some { cls:=.type "range",data:=.fields #[.int lo t,.int hi u,.int 1 v] }
 |.frz o u=>h.get? a=some o/\bJ H h a u
 |.tbl ps=>h.get? a=some { cls:=.none,data:=.fields ps }
 |.met f x=>h.get? a=some (PySem.W.methodObj (.ref f) (.ref x))
 |.ext φ=>φ h/\(∃o,h.get? a=some o)/\∀h1 h2:Heap,φ h1->(∀o,h1.get? a=some o->h2.get? a=some o)->φ h2
 |.cod q=>∃o vs t,h.get? a=some o/\o.data=.fields vs/\vs[1]?=some (.str q t)
 |.ctb pos q=>∃ps:Array Value,h.get? a=some { cls:=.none,data:=.fields ps }/\TriplesOk ps.toList/\(codeAmong pos ps.toList=none\/∃c,codeAmong pos ps.toList=some (.ref c)/\H c=some (.cod q))
def pM(H:Hp)(h:Heap):Prop:=∀a o,H a=some o->bJ P w H h a o
end
section
variable{P:Program}{w:World}{H H':Hp}{h h':Heap}{a:Addr}{o:HO}
theorem bJ.lt(x:bJ P w H h a o):a < h.objs.size:=by
 cases o with
 |lst xs=>obtain⟨_,_,_,_,e⟩:=x;exact Heap.lt_size e
 |tup xs=>obtain⟨_,_,_,p⟩:=x;exact p.lt
 |dK kvs=>obtain⟨_,_,_,_,o,_,_,e,_⟩:=x;exact Heap.lt_size e
 |dT kvs=>obtain⟨_,_,_,_,o,_,_,e,_⟩:=x;exact Heap.lt_size e
 |set S n=>obtain⟨o,_,_,_,e,_⟩:=x;exact Heap.lt_size e
 |ins C dx fs=>obtain⟨_,_,_,e,_⟩:=x;exact Heap.lt_size e
 |own y=>obtain⟨_,e⟩:=x;exact Heap.lt_size e
 |xd fs=>obtain⟨_,⟨_,_,_,e,_⟩,_⟩:=x;exact Heap.lt_size e
 |rng lo hi=>obtain⟨_,_,_,e⟩:=x;exact Heap.lt_size e
 |frz ob u=>obtain⟨e,_⟩:=x;exact Heap.lt_size e
 |tbl ps=>exact Heap.lt_size (show h.get? a=some _ from x)
 |met f y=>exact Heap.lt_size (show h.get? a=some _ from x)
 |ext φ=>obtain⟨_,⟨_,e⟩,_⟩:=x;exact Heap.lt_size e
 |cod q=>obtain⟨_,_,_,e,_⟩:=x;exact Heap.lt_size e
 |ctb pos q=>obtain⟨_,e,_⟩:=x;exact Heap.lt_size e
theorem Paired.aJm{α β:Type}{F G:α->β->Prop}:∀{l₁:List α}{l₂:List β},Paired F l₁ l₂->(∀a b,F a b->G a b)->Paired G l₁ l₂
 |_,_,.nil,_=>.nil
 |_,_,.cons r t,f=>.cons (f _ _ r) (Paired.aJm t f)
theorem bJ.aAt(x:bJ P w H h a o)(k:∀b u,(b=a\/H b=some (.own a))->h.get? b=some u->h'.get? b=some u)
  (ho:∀b,H b=some (.own a)->H' b=some (.own a)) (ht:∀b u,Sty u->H b=some u->H' b=some u):bJ P w H' h' a o:=by
 induction o with
 |lst xs=>obtain⟨z,its,n,r,e⟩:=x;exact⟨z,its,n,r,k _ _ (.inl rfl) e⟩
 |tup xs=>obtain⟨z,its,r,ob,e,c⟩:=x;exact⟨z,its,r,ob,k _ _ (.inl rfl) e,c⟩
 |dK kvs=>obtain⟨z,y,vs,r,ob,es,ep,e,c⟩:=x;exact⟨z,y,vs,r,ob,es,ep,k _ _ (.inl rfl) e,c⟩
 |dT kvs=>
  obtain⟨z,y,xs,r,ob,es,ep,e,c⟩:=x
  exact⟨z,y,xs,Paired.aJm r fun p q z=>⟨z.1,ht _ _ trivial z.2.1,z.2.2⟩,ob,es,ep,k _ _ (.inl rfl) e,c⟩
 |set S n=>obtain⟨ob,es,ep,t,e,c⟩:=x;exact⟨ob,es,ep,t,k _ _ (.inl rfl) e,c⟩
 |ins C dx fs=>
  obtain⟨d,z,ne,e,mA,⟨od,es,ep,e2,c⟩,r⟩:=x
  exact⟨ho _ d,z,ne,k _ _ (.inl rfl) e,mA,⟨od,es,ep,k _ _ (.inr d) e2,c⟩,r⟩
 |own y=>obtain⟨ob,e⟩:=x;exact⟨ob,k _ _ (.inl rfl) e⟩
 |xd fs=>obtain⟨mA,⟨od,es,ep,e,c⟩,r⟩:=x;exact⟨mA,⟨od,es,ep,k _ _ (.inl rfl) e,c⟩,r⟩
 |rng lo hi=>obtain⟨t,u,v,e⟩:=x;exact⟨t,u,v,k _ _ (.inl rfl) e⟩
 |frz ob u ih=>obtain⟨e,q⟩:=x;exact⟨k _ _ (.inl rfl) e,ih q⟩
 |tbl ps=>
  have e:h.get? a=some { cls:=.none,data:=.fields ps }:=x
  show h'.get? a=some { cls:=.none,data:=.fields ps }
  exact k a _ (.inl rfl) e
 |met f y=>
  have e:h.get? a=some (PySem.W.methodObj (.ref f) (.ref y)):=x
  show h'.get? a=some (PySem.W.methodObj (.ref f) (.ref y))
  exact k a _ (.inl rfl) e
 |ext φ=>obtain⟨p,⟨o,e⟩,st⟩:=x;exact⟨st _ _ p fun o q=>k _ _ (.inl rfl) q,⟨o,k _ _ (.inl rfl) e⟩,st⟩
 |cod q=>obtain⟨o,vs,t,e,r⟩:=x;exact⟨o,vs,t,k _ _ (.inl rfl) e,r⟩
 |ctb pos q=>
  obtain⟨ps,e,t,c⟩:=x
  refine⟨ps,k _ _ (.inl rfl) e,t,?_⟩
  rcases c with c|⟨c,e1,e2⟩
  ·exact .inl c
  ·exact .inr ⟨c,e1,ht _ _ trivial e2⟩
theorem pM.lt(x:pM P w H h)(e:H a=some o):a < h.objs.size:=(x a o e).lt
theorem pM.fresh(x:pM P w H h)(e:h.objs.size<=a):H a=none:=by
 cases q:H a with
 |none=>rfl
 |some u=>exact absurd (Nat.lt_of_lt_of_le (x.lt q) e) (Nat.lt_irrefl _)
theorem pM.kept(x:pM P w H h)(k:∀b u,h.get? b=some u->h'.get? b=some u):pM P w H h':=fun a o e=>
 (x a o e).aAt (fun b u _ q=>k b u q) (fun _ q=>q) fun _ _ _ q=>q
theorem pM.laid(x:pM P w H h)(k:∀b u,h.get? b=some u->h'.get? b=some u)(hp:h.objs.size<=a)(new:bJ P w (upd H a o) h' a o):pM P w (upd H a o) h':=fun b u e=>by
 have hn:=x.fresh hp
 by_cases hb:b=a
 ·subst hb;rw[aH] at e;cases e;exact new
 ·rw[aL hb] at e
  exact(x b u e).aAt (fun c v _ q=>k c v q) (fun c q=>by rw[aL (bC q hn)];exact q) fun c xs _ q=>by rw[aL (bC q hn)];exact q
end
def Rd(H:Hp)(a:Addr)(u:HO):Prop:=H a=some u\/∃o,H a=some (.frz o u)
theorem Rd.of{H:Hp}{a:Addr}{u:HO}(h:H a=some u):Rd H a u:=.inl h
theorem Rd.ok{P:Program}{w:World}{H:Hp}{h:Heap}{a:Addr}{u:HO}(r:Rd H a u)(x:pM P w H h):bJ P w H h a u:=by
 rcases r with r|⟨o,r⟩
 ·exact x a u r
 ·obtain⟨_,q⟩:=x a _ r
  exact q
def Mut:Option HO->Prop
 |some (.lst _)=>True
 |some (.dK _)=>True
 |some (.dT _)=>True
 |some (.set _ _)=>True
 |some (.ins _ _ _)=>True
 |some (.ext _)=>True
 |_=>False
section
variable{P:Program}{w:World}{H:Hp}{h h':Heap}{x e:Addr}{o':HO}
theorem pM.write(ok:pM P w H h)(mu:Mut (H x))(he:e=x\/H e=some (.own x))(k:∀b u,b≠e->h.get? b=some u->h'.get? b=some u)(heo:∃u,h'.get? e=some u)
  (new:bJ P w (upd H x o') h' x o'):pM P w (upd H x o') h':=fun b u q=>by
 have nown:∀c y,H c=some (.own y)->c≠x:=fun c y r z=>by subst z;rw[r] at mu;exact mu
 have aDx:∀c u,Sty u->H c=some u->c≠x:=fun c u y r z=>by
  subst z
  rw[r] at mu
  cases u <;> first|exact mu|exact y
 by_cases hb:b=x
 ·subst hb;rw[aH] at q;cases q;exact new
 ·rw[aL hb] at q
  by_cases hbe:b=e
  ·have q':H b=some (.own x):=by
    rcases he with z|z
    ·exact absurd (hbe.trans z) hb
    ·rw[hbe];exact z
   rw[q] at q';cases q'
   obtain⟨v,hv⟩:=heo
   exact⟨v,by rw[hbe];exact hv⟩
  ·refine(ok b u q).aAt (fun c v hc r=>k c v ?_ r) (fun c r=>by rw[aL (nown c b r)];exact r) fun c xs y r=>by rw[aL (aDx c xs y r)];exact r
   rcases hc with rfl|hc
   ·exact hbe
   ·rintro rfl
    rcases he with z|z
    ·exact nown c b hc z
    ·rw[hc] at z;cases z;exact hb rfl
end
structure Un(fs ex:List Addr)(H H':Hp)(h h':Heap):Prop where
 keep:∀b o,h.get? b=some o->H b=none->b∉fs->b∉ex->h'.get? b=some o
 slot:∀b o,h.get? b=some o->H b=none->b∈fs->b∉ex->∃sl,h'.get? b=some { o with slots:=sl }
 free:∀b o,h.get? b=some o->H b=none->b∉ex->H' b=none
 there:∀b o,h.get? b=some o->b∉ex->∃o',h'.get? b=some o'
 pN:∀b xs,H b=some (.tup xs)->H' b=some (.tup xs)
 frzs:∀b o u,H b=some (.frz o u)->H' b=some (.frz o u)
 tbls:∀b ps,H b=some (.tbl ps)->∃more,H' b=some (.tbl (ps++more))
section
variable{fs fs' ex ex':List Addr}{H H1 H2:Hp}{h h1 h2 h':Heap}{a x e:Addr}{o:HO}
theorem Un.any(u:Un fs ex H H1 h h1){b:Addr}{ob:Obj}(q:h.get? b=some ob)(n:H b=none)(hx:b∉ex):∃sl,h1.get? b=some { ob with slots:=sl }:=by
 by_cases hb:b∈fs
 ·exact u.slot b ob q n hb hx
 ·exact⟨ob.slots,u.keep b ob q n hb hx⟩
theorem Un.trans(a:Un fs ex H H1 h h1)(b:Un fs ex H1 H2 h1 h2):Un fs ex H H2 h h2 where
 keep:=fun c ob q n hc hx=>b.keep c ob (a.keep c ob q n hc hx) (a.free c ob q n hx) hc hx
 slot:=fun c ob q n hc hx=>by
  obtain⟨sl,e1⟩:=a.slot c ob q n hc hx
  obtain⟨sl',e2⟩:=b.slot c _ e1 (a.free c ob q n hx) hc hx
  exact⟨sl',e2⟩
 free:=fun c ob q n hx=>by
  obtain⟨o',e1⟩:=a.there c ob q hx
  exact b.free c o' e1 (a.free c ob q n hx) hx
 there:=fun c ob q hx=>by
  obtain⟨o',e1⟩:=a.there c ob q hx
  exact b.there c o' e1 hx
 pN:=fun c xs q=>b.pN c xs (a.pN c xs q)
 frzs:=fun c ob xs q=>b.frzs c ob xs (a.frzs c ob xs q)
 tbls:=fun c ps q=>by
  obtain⟨m1,e1⟩:=a.tbls c ps q
  obtain⟨m2,e2⟩:=b.tbls c _ e1
  exact⟨m1++m2,by rw[e2,Array.append_assoc]⟩
theorem Un.kept(k:∀b u,h.get? b=some u->h'.get? b=some u):Un fs ex H H h h':=
 ⟨fun b ob q _ _ _=>k b ob q,fun b ob q _ _ _=>⟨ob.slots,k b ob q⟩,fun _ _ _ n _=>n,fun b ob q _=>⟨ob,k b ob q⟩,fun _ _ q=>q,fun _ _ _ q=>q,fun _ ps q=>⟨#[],by rw[q];simp⟩⟩
theorem Un.refl:Un fs ex H H h h:=Un.kept fun _ _ q=>q
theorem Un.laid(k:∀b u,h.get? b=some u->h'.get? b=some u)(hp:h.objs.size<=a)(hn:H a=none):Un fs ex H (upd H a o) h h' where
 keep:=fun b u q _ _ _=>k b u q
 slot:=fun b u q _ _ _=>⟨u.slots,k b u q⟩
 free:=fun b u q n _=>by rw[aL (Nat.ne_of_lt (Nat.lt_of_lt_of_le (Heap.lt_size q) hp))];exact n
 there:=fun b u q _=>⟨u,k b u q⟩
 pN:=fun b xs q=>by rw[aL (bC q hn)];exact q
 frzs:=fun b u xs q=>by rw[aL (bC q hn)];exact q
 tbls:=fun b ps q=>⟨#[],by rw[aL (bC q hn),q];simp⟩
theorem Un.write(mu:Mut (H x))(he:e=x\/H e=some (.own x))(k:∀b u,b≠e->h.get? b=some u->h'.get? b=some u)(heo:∃u,h'.get? e=some u):Un fs ex H (upd H x o) h h':=by
 have hx:∀b,H b=none->b≠x:=fun b n z=>by subst z;rw[n] at mu;exact mu
 have hb:∀b,H b=none->b≠e:=fun b n z=>by
  subst z
  rcases he with r|r
  ·exact hx b n r
  ·rw[n] at r;cases r
 have hm:∀b u,H b=some u->¬Mut (some u)->b≠x:=fun b u q nm z=>by subst z;rw[q] at mu;exact nm mu
 refine⟨fun b u q n _ _=>k b u (hb b n) q,fun b u q n _ _=>⟨u.slots,k b u (hb b n) q⟩,fun b u q n _=>by rw[aL (hx b n)];exact n,fun b u q _=>?_,
  fun b xs q=>by rw[aL (hm b _ q fun z=>z)];exact q,fun b u xs q=>by rw[aL (hm b _ q fun z=>z)];exact q,fun b ps q=>⟨#[],by rw[aL (hm b _ q fun z=>z),q];simp⟩⟩
 by_cases hbe:b=e
 ·subst hbe;exact heo
 ·exact⟨u,k b u hbe q⟩
end
def trk(h:Heap)(H:Hp):List Addr:=(List.range h.objs.size).filter fun a=>(H a).isSome
def sJ(h:Heap)(H:Hp):Heap:=PySem.W.hideAll h (trk h H)
theorem aAY(h:Heap)(H:Hp):(sJ h H).objs.size=h.objs.size:=PySem.W.hideAll_size _ _
theorem aCF{h:Heap}{H:Hp}{b:Addr}{o:Obj}(e:h.get? b=some o)(n:H b=none):(sJ h H).get? b=some o:=
 PySem.W.hideAll_get _ e fun hm=>by
  have q:(H b).isSome=true:=(List.mem_filter.mp hm).2
  rw[n] at q;simp at q
theorem aEu{h:Heap}{H:Hp}{b:Addr}{o:Obj}(e:(sJ h H).get? b=some o):h.get? b=some o/\H b=none:=by
 have e':h.get? b=some o:=PySem.W.of_hideAll (trk h H) e
 refine⟨e',?_⟩
 cases q:H b with
 |none=>rfl
 |some x=>
  have hm:b∈trk h H:=List.mem_filter.mpr ⟨List.mem_range.mpr (Heap.lt_size e'),by simp[q]⟩
  have z:(sJ h H).get? b=none:=PySem.W.hideAll_none (trk h H) hm
  rw[z] at e;cases e
def aHI(g h:Heap)(L:Addr):List (Addr×Obj):=(List.range h.objs.size).filterMap fun a=>if a=L\/(g.get? a).isSome=true then none else (h.get? a).map fun o=>(a,o)
def rest(g h:Heap)(L d:Addr):List (Addr×Obj):=(aHI g h L).filter fun p=>decide (p.1≠d)
end L2
namespace L2
open PySem PySem.Spec PyProof.Rows
structure Mod(K:W.Frag)(mg:Str->Option Value)(base:Heap):Prop where
 kin:K.In base
 glob:base.Ns mainGlobals mg
 blt:∃mb,base.Ns builtinsNs mb/\∀x:Str,x≠"__name__"->mb x=bootBuiltins x
 nolimit:base.NoLimit
 bm:∃bm o,mg "__builtins__" = some (.ref bm)/\bm≠builtinsNs/\base.get? bm=some o/\o.cls=.type "module"/\o.dict=some builtinsNs/\o.data=.plain
structure Cx where
 prog:Program
 w:World
 K:W.Frag
 mg:Str->Option Value
 base:Heap
 A:Around
 N:List Str
 s₀:Shared
 H₀:Hp
 env:Env
 outer:List Env
 stack:List Env
 ex:List Addr
 fn:Str->Bool
 calm:Bool
 pn:List (Addr×Obj)
 xe:Value->Shared->Prop
def frs(l:List Env):List Addr:=l.filterMap (·.frame)
abbrev Cx.fs(X:Cx):List Addr:=frs X.outer
def Vis(sc:Scope)(x:Str):Prop:=sc.names.lookup x=some .local\/sc.names.lookup x=some .cell\/sc.names.lookup x=some .free
def Loc(sc:Scope)(x:Str):Prop:=sc.names.lookup x=some .local\/sc.names.lookup x=some .cell
def Look(env:Env)(h:Heap)(m:Str->Option Value)(x:Str)(u:Value):Prop:=
 (env.kindOf x=some .local/\m x=some u)\/((env.kindOf x=some .cell\/env.kindOf x=some .free)/\∃c,env.cells.lookup x=some c/\h.IsCell c (some u))
structure Cx.Ok(X:Cx):Prop where
 mod:Mod X.K X.mg X.base
 kind:X.env.scope.kind=.function
 glob:X.env.globals=mainGlobals
 blt:X.env.builtins=builtinsNs
 above:X.s₀.heap.objs.size<=X.env.locals
 inj:∀x y c,X.env.cells.lookup x=some c->X.env.cells.lookup y=some c->x=y
 has:∀x,(X.env.kindOf x=some .cell\/X.env.kindOf x=some .free)->∃c,X.env.cells.lookup x=some c
 cab:∀x c,X.fn x=true->X.env.cells.lookup x=some c->X.s₀.heap.objs.size<=c
 hd:X.calm=true->X.A.handled=none
 frames:X.A.frames=some X.stack
 stk:X.stack=X.outer\/(X.stack=X.env::X.outer/\X.env.frame=some X.env.locals)
 exf:∀b∈X.ex,b≠X.env.locals/\∀x c,X.env.cells.lookup x=some c->c≠b
 bs:∀b o,X.base.get? b=some o->X.s₀.heap.get? b=some o/\X.H₀ b=none
 bsz:X.base.objs.size<=X.s₀.heap.objs.size
 noex:∀b o,X.base.get? b=some o->b∉X.ex
 exfs:∀b∈X.ex,b∉X.fs
 sL:X.s₀.heap.FunFrames X.base X.outer
 frf:∀b∈X.fs,X.H₀ b=none
structure Inv(X:Cx)(pins:List (Addr×Obj))(σ:List (Option V))(H:Hp)(s:Shared):Prop where
 ok:X.Ok
 os:s.os=X.s₀.os
 bare:AllBare s.gens
 base:Un X.fs X.ex X.H₀ H X.s₀.heap s.heap
 loc:∃m,s.heap.Ns X.env.locals m/\∀(i:Nat) (x:Str) (v:V),X.N[i]?=some x->σ[i]?=some (some v)->Vis X.env.scope x->∃u,RelV v u/\Look X.env s.heap m x u
 cell:∀x c,X.env.cells.lookup x=some c->∃v,s.heap.IsCell c v
 free:H X.env.locals=none
 freeC:∀x c,X.env.cells.lookup x=some c->H c=none
 pin:∀p∈X.pn++pins,s.heap.get? p.1=some p.2/\H p.1=none/\p.1≠X.env.locals/\p.1∉X.fs/\∀v,p.2.data≠.cell v
 hok:pM X.prog X.w H s.heap
 len:σ.length=X.N.length
section
variable{X:Cx}{pins:List (Addr×Obj)}{σ:List (Option V)}{H H':Hp}{s:Shared}{h':Heap}
theorem Cx.Ok.aLK(ok:X.Ok){b:Addr}{o:Obj}(e:X.base.get? b=some o):b∉X.fs:=fun hb=>by
 have:=(ok.sL.mem hb).1
 rw[e] at this;cases this
theorem Inv.bs(I:Inv X pins σ H s):∀b o,X.base.get? b=some o->s.heap.get? b=some o/\H b=none:=fun b o e=>
 ⟨I.base.keep b o (I.ok.bs b o e).1 (I.ok.bs b o e).2 (I.ok.aLK e) (I.ok.noex b o e),I.base.free b o (I.ok.bs b o e).1 (I.ok.bs b o e).2 (I.ok.noex b o e)⟩
theorem Inv.bk(I:Inv X pins σ H s):∀b o,X.base.get? b=some o->s.heap.get? b=some o:=fun b o e=>(I.bs b o e).1
theorem Inv.mod(I:Inv X pins σ H s):Mod X.K X.mg X.base:=I.ok.mod
theorem Inv.pG(I:Inv X pins σ H s):X.K.In s.heap:=I.ok.mod.kin.keeps I.bk
theorem Inv.lt(I:Inv X pins σ H s):X.env.locals < s.heap.objs.size:=let ⟨_,hn,_⟩:=I.loc;hn.lt
theorem Inv.sz(I:Inv X pins σ H s):X.s₀.heap.objs.size<=s.heap.objs.size:=Nat.le_trans I.ok.above (Nat.le_of_lt I.lt)
theorem Inv.aLL(I:Inv X pins σ H s){a:Addr}(h:s.heap.objs.size<=a):a∉X.fs:=fun hb=>by
 obtain⟨_,o,ho,_⟩:=I.ok.sL.mem hb
 exact absurd (Nat.lt_of_lt_of_le (Heap.lt_size ho) (Nat.le_trans I.sz h)) (Nat.lt_irrefl _)
theorem Inv.cne(I:Inv X pins σ H s):∀x c,X.env.cells.lookup x=some c->c≠X.env.locals:=fun x c e z=>by
 obtain⟨v,o,ho,hd⟩:=I.cell x c e
 obtain⟨m,⟨o',es,ep,ho',hd',_⟩,_⟩:=I.loc
 rw[z,ho'] at ho;cases ho;rw[hd'] at hd;cases hd
theorem Inv.sL(I:Inv X pins σ H s):s.heap.FunFrames X.base X.outer:=by
 have all:∀(l:List Env),(∀b∈frs l,b∈X.fs)->X.s₀.heap.FunFrames X.base l->s.heap.FunFrames X.base l:=by
  intro l
  induction l with
  |nil=>intro _ _;trivial
  |cons env r ih=>
   intro hs hl
   obtain⟨hk,⟨L,o,hf,hn,ho,hd⟩,hr⟩:=hl
   have hL:L∈X.fs:=hs L (by unfold frs;rw[List.filterMap_cons,hf];exact List.mem_cons_self)
   obtain⟨sl,e⟩:=I.base.slot L o ho (I.ok.frf L hL) hL fun z=>I.ok.exfs L z hL
   exact⟨hk,⟨L,_,hf,hn,e,hd⟩,ih (fun b hb=>hs b (by unfold frs;rw[List.filterMap_cons,hf];exact List.mem_cons_of_mem _ hb)) hr⟩
 exact all X.outer (fun _ hb=>hb) I.ok.sL
theorem Inv.stack(I:Inv X pins σ H s):s.heap.FunFrames X.base X.stack:=by
 rcases I.ok.stk with e|⟨e,hf⟩
 ·rw[e];exact I.sL
 ·rw[e]
  obtain⟨m,hn,_⟩:=I.loc
  refine .cons (by rw[I.ok.kind];decide) hf hn ?_ I.sL
  exact Heap.get?_none_of_le (Nat.le_trans I.ok.bsz I.ok.above)
theorem Inv.yR(I:Inv X pins σ H s):∀b∈frs X.stack,b∈X.env.locals::X.fs:=fun b hb=>by
 rcases I.ok.stk with e|⟨e,hf⟩
 ·rw[e] at hb;exact List.mem_cons_of_mem _ hb
 ·rw[e] at hb
  unfold frs at hb
  rw[List.filterMap_cons,hf] at hb
  exact hb
theorem Inv.aBB(I:Inv X pins σ H s):∀b∈frs X.stack,H b=none:=fun b hb=>by
 rcases List.mem_cons.mp (I.yR b hb) with e|hb
 ·rw[e];exact I.free
 ·obtain⟨_,o,ho,_⟩:=I.ok.sL.mem hb
  exact I.base.free b o ho (I.ok.frf b hb) fun z=>I.ok.exfs b z hb
theorem Inv.step{g':Array GenState}{t':Nat}{d':Drawn}{ch:List Addr}(I:Inv X pins σ H s)
  (hch:∀b∈ch,(b∈X.ex\/X.s₀.heap.objs.size<=b)/\b≠X.env.locals/\(∀x c,X.env.cells.lookup x=some c->c≠b)/\∀p∈X.pn++pins,p.1≠b)
  (keep:∀b o,b≠X.env.locals->b∉X.fs->b∉ch->s.heap.get? b=some o->H b=none->h'.get? b=some o)
  (slot:∀b o,b≠X.env.locals->b∈X.fs->b∉ch->s.heap.get? b=some o->H b=none->∃sl,h'.get? b=some { o with slots:=sl }) (free:∀b o,b∉ch->s.heap.get? b=some o->H b=none->H' b=none)
  (there:∀b o,b∉ch->s.heap.get? b=some o->∃o',h'.get? b=some o')
  (pN:∀b xs,H b=some (.tup xs)->H' b=some (.tup xs)) (frzs:∀b o u,H b=some (.frz o u)->H' b=some (.frz o u)) (tbls:∀b ps,H b=some (.tbl ps)->∃more,H' b=some (.tbl (ps++more)))
  (ns:∀m,s.heap.Ns X.env.locals m->h'.Ns X.env.locals m) (hok:pM X.prog X.w H' h') (hg:AllBare g') :
  Inv X pins σ H' { s with heap:=h',gens:=g',drawn:=d',toks:=t' }:=by
 have neL:∀b o,X.s₀.heap.get? b=some o->b≠X.env.locals:=fun b o e=>Nat.ne_of_lt (Nat.lt_of_lt_of_le (Heap.lt_size e) I.ok.above)
 have neC:∀b o,X.s₀.heap.get? b=some o->b∉X.ex->b∉ch:=fun b o e hx hb=>by
  rcases(hch b hb).1 with z|z
  ·exact hx z
  ·exact absurd (Nat.lt_of_lt_of_le (Heap.lt_size e) z) (Nat.lt_irrefl _)
 have cellK:∀x c,X.env.cells.lookup x=some c->∀v,s.heap.IsCell c v->h'.IsCell c v:=fun x c e v ⟨o,ho,hd⟩=>by
  have nch:c∉ch:=fun z=>(hch c z).2.2.1 x c e rfl
  by_cases hc:c∈X.fs
  ·obtain⟨sl,q⟩:=slot c o (I.cne x c e) hc nch ho (I.freeC x c e)
   exact⟨_,q,hd⟩
  ·exact⟨o,keep c o (I.cne x c e) hc nch ho (I.freeC x c e),hd⟩
 refine⟨I.ok,I.os,hg,⟨fun b o e n hb hx=>?_,fun b o e n hb hx=>?_,fun b o e n hx=>?_,fun b o e hx=>?_,fun b xs e=>pN b xs (I.base.pN b xs e),fun b o xs e=>frzs b o xs (I.base.frzs b o xs e),fun b ps e=>?_⟩,?_,fun x c e=>?_,?_,fun x c e=>?_,fun p hp=>?_,hok,I.len⟩
 ·exact keep b o (neL b o e) hb (neC b o e hx) (I.base.keep b o e n hb hx) (I.base.free b o e n hx)
 ·obtain⟨sl,e1⟩:=I.base.slot b o e n hb hx
  obtain⟨sl',e2⟩:=slot b _ (neL b o e) hb (neC b o e hx) e1 (I.base.free b o e n hx)
  exact⟨sl',e2⟩
 ·obtain⟨o',e1⟩:=I.base.there b o e hx
  exact free b o' (neC b o e hx) e1 (I.base.free b o e n hx)
 ·obtain⟨o',e1⟩:=I.base.there b o e hx
  exact there b o' (neC b o e hx) e1
 ·obtain⟨m1,e1⟩:=I.base.tbls b ps e
  obtain⟨m2,e2⟩:=tbls b _ e1
  exact⟨m1++m2,by rw[e2,Array.append_assoc]⟩
 ·obtain⟨m,hn,hl⟩:=I.loc
  refine⟨m,ns m hn,fun i x v e1 e2 e3=>?_⟩
  obtain⟨u,r,l⟩:=hl i x v e1 e2 e3
  refine⟨u,r,?_⟩
  rcases l with l|⟨k,c,e,z⟩
  ·exact .inl l
  ·exact .inr ⟨k,c,e,cellK x c e _ z⟩
 ·obtain⟨v,z⟩:=I.cell x c e
  exact⟨v,cellK x c e v z⟩
 ·obtain⟨m,⟨o,_,_,ho,_⟩,_⟩:=I.loc
  exact free _ o (fun z=>(hch _ z).2.1 rfl) ho I.free
 ·obtain⟨v,o,ho,hd⟩:=I.cell x c e
  exact free c o (fun z=>(hch c z).2.2.1 x c e rfl) ho (I.freeC x c e)
 ·obtain⟨e,n,ne,nf,d⟩:=I.pin p hp
  have nch:p.1∉ch:=fun z=>(hch p.1 z).2.2.2 p hp rfl
  exact⟨keep p.1 p.2 ne nf nch e n,free p.1 p.2 nch e n,ne,nf,d⟩
theorem Inv.un{t':Nat}(I:Inv X pins σ H s)(u:Un X.fs [] H H' s.heap h')(hok:pM X.prog X.w H' h'):Inv X pins σ H' { s with heap:=h',toks:=t' }:=by
 obtain⟨m,⟨o,es,ep,ho,r⟩,_⟩:=id I.loc
 obtain⟨sl,hL⟩:=u.any ho I.free (by simp)
 exact I.step (g':=s.gens) (d':=s.drawn) (ch:=[]) (fun _ z=>nomatch z) (fun b o _ hb _ e n=>u.keep b o e n hb (by simp)) (fun b o _ hb _ e n=>u.slot b o e n hb (by simp)) (fun b o _ e n=>u.free b o e n (by simp)) (fun b o _ e=>u.there b o e (by simp)) u.pN u.frzs u.tbls (fun m' hm=>by
  obtain⟨o',es',ep',ho',r'⟩:=hm
  rw[ho] at ho';cases ho'
  exact⟨_,es',ep',hL,r'⟩) hok I.bare
theorem Inv.call{g':Array GenState}{t':Nat}{d':Drawn}{ch:List Addr}(I:Inv X pins σ H s)(u:Un (frs X.stack) ch H H' s.heap h')(hok:pM X.prog X.w H' h')(hg:AllBare g')
  (hch:∀b∈ch,(b∈X.ex\/X.s₀.heap.objs.size<=b)/\b≠X.env.locals/\(∀x c,X.env.cells.lookup x=some c->c≠b)/\∀p∈X.pn++pins,p.1≠b) :
  Inv X pins σ H' { s with heap:=h',gens:=g',drawn:=d',toks:=t' }:=by
 obtain⟨m,⟨o,es,ep,ho,r⟩,_⟩:=id I.loc
 obtain⟨sl,hL⟩:=u.any ho I.free fun z=>(hch _ z).2.1 rfl
 exact I.step (ch:=ch) hch (fun b o hL hb hc e n=>u.keep b o e n (fun z=>(List.mem_cons.mp (I.yR b z)).elim hL hb) hc) (fun b o _ _ hc e n=>u.any e n hc) (fun b o hc e n=>u.free b o e n hc) (fun b o hc e=>u.there b o e hc) u.pN u.frzs u.tbls (fun m' hm=>by
  obtain⟨o',es',ep',ho',r'⟩:=hm
  rw[ho] at ho';cases ho'
  exact⟨_,es',ep',hL,r'⟩) hok hg
theorem Inv.turned{t':Nat}{it:Addr}(I:Inv X pins σ H s)(k:∀b o,b≠it->s.heap.get? b=some o->h'.get? b=some o)(hn:H it=none)(hL:it≠X.env.locals)
  (h1:it∈X.ex\/X.s₀.heap.objs.size<=it) (h2:∀x c,X.env.cells.lookup x=some c->c≠it) (h3:∀p∈X.pn++pins,p.1≠it):Inv X pins σ H { s with heap:=h',toks:=t' }:=by
 have nit:∀b u,H b=some u->b≠it:=fun b u e z=>by rw[z,hn] at e;cases e
 refine I.step (g':=s.gens) (d':=s.drawn) (ch:=[it]) (fun b hb=>?_) (fun b o _ _ hc e _=>k b o (fun z=>hc (by simp[z])) e) (fun b o _ _ hc e _=>⟨o.slots,k b o (fun z=>hc (by simp[z])) e⟩) (fun _ _ _ _ n=>n)
  (fun b o hc e=>⟨o,k b o (fun z=>hc (by simp[z])) e⟩) (fun _ _ e=>e) (fun _ _ _ e=>e) (fun b ps e=>⟨#[],by rw[e];simp⟩) (fun m hm=>?_) (fun b u e=>?_) I.bare
 ·have e:b=it:=by simpa using hb
  subst e
  exact⟨h1,hL,h2,h3⟩
 ·obtain⟨o,es,ep,ho,r⟩:=hm
  exact⟨o,es,ep,k _ o (Ne.symm hL) ho,r⟩
 ·refine(I.hok b u e).aAt (fun c v hc q=>k c v ?_ q) (fun _ q=>q) fun _ _ _ q=>q
  rcases hc with z|z
  ·rw[z];exact nit b u e
  ·exact nit c _ z
theorem Inv.tok(I:Inv X pins σ H s)(t:Nat):Inv X pins σ H { s with toks:=t }:=I.un (h':=s.heap) (t':=t) Un.refl I.hok
theorem Inv.kept{t':Nat}(I:Inv X pins σ H s)(k:∀b u,s.heap.get? b=some u->h'.get? b=some u):Inv X pins σ H { s with heap:=h',toks:=t' }:=I.un (Un.kept k) (I.hok.kept k)
theorem Inv.laid{a:Addr}{o:HO}{t':Nat}(I:Inv X pins σ H s)(k:∀b u,s.heap.get? b=some u->h'.get? b=some u)(hp:s.heap.objs.size<=a)(new:bJ X.prog X.w (upd H a o) h' a o) :
  Inv X pins σ (upd H a o) { s with heap:=h',toks:=t' }:=I.un (Un.laid k hp (I.hok.fresh hp)) (I.hok.laid k hp new)
theorem Inv.write{x e:Addr}{o:HO}{t':Nat}(I:Inv X pins σ H s)(mu:Mut (H x))(he:e=x\/H e=some (.own x))(k:∀b u,b≠e->s.heap.get? b=some u->h'.get? b=some u)(heo:∃u,h'.get? e=some u)
  (new:bJ X.prog X.w (upd H x o) h' x o):Inv X pins σ (upd H x o) { s with heap:=h',toks:=t' }:=I.un (Un.write mu he k heo) (I.hok.write mu he k heo new)
theorem Inv.weak{σ':List (Option V)}(I:Inv X pins σ H s)(hl:σ'.length=σ.length)(w:∀(i:Nat) v,σ'[i]?=some (some v)->σ[i]?=some (some v)):Inv X pins σ' H s:=
 ⟨I.ok,I.os,I.bare,I.base,let ⟨m,hn,hl'⟩:=I.loc;⟨m,hn,fun i x v e1 e2 e3=>hl' i x v e1 (w i v e2) e3⟩,I.cell,I.free,I.freeC,I.pin,I.hok,hl.trans I.len⟩
theorem Inv.yD{pins':List (Addr×Obj)}(I:Inv X pins σ H s)(h:∀p∈pins',s.heap.get? p.1=some p.2/\H p.1=none/\p.1≠X.env.locals/\p.1∉X.fs/\∀v,p.2.data≠.cell v):Inv X pins' σ H s:=
 ⟨I.ok,I.os,I.bare,I.base,I.loc,I.cell,I.free,I.freeC,fun p hp=>(List.mem_append.mp hp).elim (fun z=>I.pin p (List.mem_append_left _ z)) (h p),I.hok,I.len⟩
theorem aCG{N:List Str}(hN:N.Nodup){i j:Nat}{x:Str}(a:N[i]?=some x)(b:N[j]?=some x):i=j:=by
 obtain⟨h1,e1⟩:=List.getElem?_eq_some_iff.mp a
 obtain⟨h2,e2⟩:=List.getElem?_eq_some_iff.mp b
 exact(List.getElem_inj hN).mp (e1.trans e2.symm)
theorem aAZ{M:Model}{A:Around}{E:Value->Shared->Prop}{i:Nat}{x:Str}{v:V}{u:Value}{Q:Unit->Shared->Prop}(I:Inv X pins σ H s)(hN:X.N.Nodup)(hi:X.N[i]?=some x)(hx:Loc X.env.scope x)(r:RelV v u)
  (h:∀s',Inv X pins (σ.set i (some v)) H s'->(∃a,Heap.SameBut a s.heap s'.heap/\(a=X.env.locals\/X.env.cells.lookup x=some a))->Q () s') (hf:X.fn x=true\/X.env.scope.names.lookup x=some .local:=by first|exact .inl rfl|exact .inr rfl|assumption):wpAny M A (storeName X.env x u) Q E s:=by
 obtain⟨m,hn,hl⟩:=id I.loc
 have hcls:(X.env.scope.kind == .class || (X.env.scope.kind == .module && X.env.locals != X.env.globals))=false:=by rw[I.ok.kind];rfl
 have hiσ:i < σ.length:=by rw[I.len];exact(List.getElem?_eq_some_iff.mp hi).1
 have cne:=I.cne
 have tracked:∀{a:Addr} {h':Heap},(∃o,s.heap.get? a=some o/\H a=none)->Heap.SameBut a s.heap h'->pM X.prog X.w H h':=fun {a h'} ha hs b ob e=>by
  obtain⟨_,_,hfree⟩:=ha
  refine(I.hok b ob e).aAt (fun c w' hc q=>(hs.2 c ?_).trans q) (fun _ q=>q) fun _ _ _ q=>q
  rintro rfl
  rcases hc with rfl|hc
  ·rw[hfree] at e;cases e
  ·rw[hfree] at hc;cases hc
 rcases hx with hk|hk
 ·refine wpAny_storeName_local hk hn (fun h' hn' hs=>?_) hcls
  obtain⟨oL,_,_,hoL,_⟩:=id hn
  refine h _ ⟨I.ok,I.os,I.bare,⟨fun b o e n hb hx=>?_,fun b o e n hb hx=>?_,I.base.free,fun b o e hx=>?_,I.base.pN,I.base.frzs,I.base.tbls⟩,⟨_,hn',fun j y v' e1 e2 e3=>?_⟩,fun y c e=>?_,I.free,I.freeC,fun p hp=>?_,tracked ⟨oL,hoL,I.free⟩ hs,by simpa using I.len⟩ ⟨_,hs,.inl rfl⟩
  ·exact(hs.2 b (Nat.ne_of_lt (Nat.lt_of_lt_of_le (Heap.lt_size e) I.ok.above))).trans (I.base.keep b o e n hb hx)
  ·obtain⟨sl,e1⟩:=I.base.slot b o e n hb hx
   exact⟨sl,(hs.2 b (Nat.ne_of_lt (Nat.lt_of_lt_of_le (Heap.lt_size e) I.ok.above))).trans e1⟩
  ·obtain⟨o',e1⟩:=I.base.there b o e hx
   exact⟨o',(hs.2 b (Nat.ne_of_lt (Nat.lt_of_lt_of_le (Heap.lt_size e) I.ok.above))).trans e1⟩
  ·by_cases hj:j=i
   ·subst hj
    rw[hi] at e1;cases e1
    rw[List.getElem?_set_self hiσ] at e2
    cases e2
    exact⟨u,r,.inl ⟨hk,by simp⟩⟩
   ·rw[List.getElem?_set_ne (Ne.symm hj)] at e2
    obtain⟨u',r',q⟩:=hl j y v' e1 e2 e3
    refine⟨u',r',?_⟩
    rcases q with ⟨k,e⟩|⟨k,c,e,z⟩
    ·refine .inl ⟨k,?_⟩
     have:y≠x:=fun e=>hj (aCG hN e1 (e▸hi))
     simp[this,e]
    ·exact .inr ⟨k,c,e,z.sameBut hs (cne y c e)⟩
  ·obtain⟨w',z⟩:=I.cell y c e
   exact⟨w',z.sameBut hs (cne y c e)⟩
  ·obtain⟨e,n,ne,nf,d⟩:=I.pin p hp
   exact⟨(hs.2 p.1 ne).trans e,n,ne,nf,d⟩
 ·have hfn:X.fn x=true:=by
   rcases hf with z|z
   ·exact z
   ·rw[z] at hk;cases hk
  obtain⟨c,hc⟩:=I.ok.has x (.inl hk)
  obtain⟨w',z⟩:=I.cell x c hc
  refine wpAny_storeName_cell I.ok.kind hk hc z (fun h' hc' hs=>?_)
  obtain⟨oc,hoc,hocd⟩:=id z
  refine h { s with heap:=h' } ⟨I.ok,I.os,I.bare,⟨fun b o e n hb hx=>?_,fun b o e n hb hx=>?_,I.base.free,fun b o e hx=>?_,I.base.pN,I.base.frzs,I.base.tbls⟩,⟨m,hn.sameBut hs (Ne.symm (cne x c hc)),fun j y v' e1 e2 e3=>?_⟩,fun y c' e=>?_,I.free,I.freeC,fun p hp=>?_,tracked ⟨oc,hoc,I.freeC x c hc⟩ hs,by simpa using I.len⟩ ⟨c,hs,.inr hc⟩
  ·exact(hs.2 b (Nat.ne_of_lt (Nat.lt_of_lt_of_le (Heap.lt_size e) (I.ok.cab x c hfn hc)))).trans (I.base.keep b o e n hb hx)
  ·obtain⟨sl,e1⟩:=I.base.slot b o e n hb hx
   exact⟨sl,(hs.2 b (Nat.ne_of_lt (Nat.lt_of_lt_of_le (Heap.lt_size e) (I.ok.cab x c hfn hc)))).trans e1⟩
  ·obtain⟨o',e1⟩:=I.base.there b o e hx
   exact⟨o',(hs.2 b (Nat.ne_of_lt (Nat.lt_of_lt_of_le (Heap.lt_size e) (I.ok.cab x c hfn hc)))).trans e1⟩
  ·by_cases hj:j=i
   ·subst hj
    rw[hi] at e1;cases e1
    rw[List.getElem?_set_self hiσ] at e2
    cases e2
    exact⟨u,r,.inr ⟨.inl hk,c,hc,hc'⟩⟩
   ·rw[List.getElem?_set_ne (Ne.symm hj)] at e2
    obtain⟨u',r',q⟩:=hl j y v' e1 e2 e3
    refine⟨u',r',?_⟩
    rcases q with q|⟨k,c',e,z'⟩
    ·exact .inl q
    ·refine .inr ⟨k,c',e,z'.sameBut hs ?_⟩
     rintro rfl
     exact hj (aCG hN e1 (I.ok.inj _ _ _ e hc▸hi))
  ·by_cases hcc:c'=c
   ·subst hcc;exact⟨_,hc'⟩
   ·obtain⟨w2,z2⟩:=I.cell y c' e
    exact⟨w2,z2.sameBut hs hcc⟩
  ·obtain⟨e,n,ne,nf,d⟩:=I.pin p hp
   refine⟨(hs.2 p.1 ?_).trans e,n,ne,nf,d⟩
   intro q
   rw[q,hoc] at e
   have q':oc=p.2:=Option.some.inj e
   exact d w' (by rw[<-q'];exact hocd)
theorem yS{M:Model}{A:Around}{E:Value->Shared->Prop}{i:Nat}{x:Str}{v:V}{u:Value}{Q:Unit->Shared->Prop}(I:Inv X pins σ H s)(hN:X.N.Nodup)(hi:X.N[i]?=some x)(hx:Loc X.env.scope x)(r:RelV v u)
  (h:∀s',Inv X pins (σ.set i (some v)) H s'->Q () s') (hf:X.fn x=true\/X.env.scope.names.lookup x=some .local:=by first|exact .inl rfl|exact .inr rfl|assumption):wpAny M A (storeName X.env x u) Q E s:=
 aAZ I hN hi hx r (fun s' I' _=>h s' I') hf
theorem Inv.aKW{s':Shared}{ch:List Addr}(I:Inv X pins σ H s)(ho:s'.os=s.os)(u:Un (frs X.stack) ch H H' s.heap s'.heap)(hok:pM X.prog X.w H' s'.heap)(hg:AllBare s'.gens)
  (hch:∀b∈ch,(b∈X.ex\/X.s₀.heap.objs.size<=b)/\b≠X.env.locals/\(∀x c,X.env.cells.lookup x=some c->c≠b)/\∀p∈X.pn++pins,p.1≠b):Inv X pins σ H' s':=by
 obtain⟨h',g',d',t',o'⟩:=s'
 have e:o'=s.os:=ho
 subst e
 exact I.call (g':=g') (t':=t') (d':=d') u hok hg hch
end
abbrev XK:=Value->Option Addr->Hp->Prop
abbrev St:=List (Option V)
abbrev VK:=V->Hp->Prop
abbrev TE:=St->Hp->VK->Prop
abbrev TT:=St->Hp->(Bool->Hp->Prop)->Prop
abbrev TA:=St->Hp->(List V->Hp->Prop)->Prop
structure Ends where
 nx:St->Hp->Prop
 rt:VK
 bk:St->Hp->Prop:=fun _ _=>False
 ct:St->Hp->Prop:=fun _ _=>False
abbrev TS:=Ends->St->Hp->Prop
def EP(X:Cx)(pins:List (Addr×Obj))(σ:St)(Q:VK)(u:Value)(s':Shared):Prop:=∃v H',Inv X pins σ H' s'/\RelV v u/\Q v H'
def TP(X:Cx)(pins:List (Addr×Obj))(σ:St)(Q:Bool->Hp->Prop)(b:Bool)(s':Shared):Prop:=∃H',Inv X pins σ H' s'/\Q b H'
def AP(X:Cx)(pins:List (Addr×Obj))(σ:St)(Q:List V->Hp->Prop)(us:List Value)(s':Shared):Prop:=∃vs H',Inv X pins σ H' s'/\Vals vs us/\Q vs H'
def SP(X:Cx)(pins:List (Addr×Obj))(D:Ends)(f:Flow)(s':Shared):Prop:=
 match f with
 |.next=>∃σ' H',Inv X pins σ' H' s'/\D.nx σ' H'
 |.brk=>∃σ' H',Inv X pins σ' H' s'/\D.bk σ' H'
 |.cont=>∃σ' H',Inv X pins σ' H' s'/\D.ct σ' H'
 |.ret u=>∃v σ' H',Inv X pins σ' H' s'/\RelV v u/\D.rt v H'
def PE(X:Cx)(e:Expr)(t:TE):Prop:=
 ∀(pins:List (Addr×Obj)) (s:Shared) (σ:St) (H:Hp) (Q:VK),Inv X pins σ H s->t σ H Q->wpAny (model X.prog X.w) X.A (eval e X.env) (EP X pins σ Q) X.xe s
def PT(X:Cx)(e:Expr)(t:TT):Prop:=
 ∀(pins:List (Addr×Obj)) (s:Shared) (σ:St) (H:Hp) (Q:Bool->Hp->Prop),Inv X pins σ H s->t σ H Q->wpAny (model X.prog X.w) X.A (isTrue e X.env (eval e X.env)) (TP X pins σ Q) X.xe s
def PW(X:Cx)(e:Expr)(t:TT):Prop:=
 ∀(whole:Sem Value) (pins:List (Addr×Obj)) (s:Shared) (σ:St) (H:Hp) (Q:Bool->Hp->Prop),Inv X pins σ H s->t σ H Q->wpAny (model X.prog X.w) X.A (isTrue e X.env whole) (TP X pins σ Q) X.xe s
theorem PW.pt{X:Cx}{e:Expr}{t:TT}(h:PW X e t):PT X e t:=h _
def PA(X:Cx)(es:List Expr)(t:TA):Prop:=
 ∀(pos:Pos) (pins:List (Addr×Obj)) (s:Shared) (σ:St) (H:Hp) (Q:List V->Hp->Prop),Inv X pins σ H s->t σ H Q->wpAny (model X.prog X.w) X.A (spliced (backTo pos (starEach es X.env))) (AP X pins σ Q) X.xe s
def PS(X:Cx)(st:Stmt)(t:TS):Prop:=
 ∀(pins:List (Addr×Obj)) (s:Shared) (σ:St) (H:Hp) (D:Ends),Inv X pins σ H s->t D σ H->wpAny (model X.prog X.w) X.A (exec st X.env) (SP X pins D) X.xe s
def PSs(X:Cx)(st:List Stmt)(t:TS):Prop:=
 ∀(pins:List (Addr×Obj)) (s:Shared) (σ:St) (H:Hp) (D:Ends),Inv X pins σ H s->t D σ H->wpAny (model X.prog X.w) X.A (execs st X.env) (SP X pins D) X.xe s
theorem cK{α:Type}{t:Sem α}{Q Q':α->Shared->Prop}{M:Model}{A:Around}{E:Value->Shared->Prop}{s:Shared}(h:wpAny M A t Q E s)(hQ:∀a s,Q a s->Q' a s):wpAny M A t Q' E s:=wpAny_mono h hQ fun _ _ x=>x
end L2
namespace L2
open PySem PySem.Spec PyProof.Rows
section
variable{X:Cx}
def aHJ(i:Nat):TE:=fun σ H Q=>∃v,σ[i]?=some (some v)/\Q v H
def tC(v:V):TE:=fun _ H Q=>Q v H
theorem aDy{i:Nat}{x:Str}{pos:Pos}(hN:X.N[i]?=some x)(hv:Vis X.env.scope x)(hd:(x == ("__debug__" : Str))=false:=by decide)(hcd:(x == ("__classdict__" : Str))=false:=by decide):PE X (.Name x pos) (aHJ i):=by
 intro pins s σ H Q I h
 obtain⟨v,e,h⟩:=h
 obtain⟨m,hn,hl⟩:=I.loc
 obtain⟨u,r,l⟩:=hl i x v hN e hv
 have fin:EP X pins σ Q u s:=⟨v,H,I,r,h⟩
 rcases l with ⟨hk,hm⟩|⟨hk,c,hc,hcell⟩
 ·exact wpAny_Name (wpAny_loadName_local I.ok.kind hk hn hm fin) hd
 ·rcases hk with hk|hk
  ·exact wpAny_Name (wpAny_loadName_cell I.ok.kind hk hc hcell fin) hd
  ·exact wpAny_Name (wpAny_loadName_free I.ok.kind hk hc hcell fin hcd) hd
theorem aA{i j pos}:PE X (.Constant (.int i) j pos) (tC (.int i)):=fun _ _ _ H _ I h=>wpAny_Constant_int ⟨.int i,H,I.tok _,⟨_,rfl⟩,h⟩
theorem wL{b j pos}:PE X (.Constant (.bool b) j pos) (tC (.bl b)):=fun _ _ _ H _ I h=>Constant_bool ⟨.bl b,H,I,rfl,h⟩
theorem mV{j pos}:PE X (.Constant .none j pos) (tC .non):=fun _ _ _ H _ I h=>Constant_none ⟨.non,H,I,rfl,h⟩
def Gl(X:Cx)(x:Str):Prop:=X.env.kindOf x=some .globalImplicit
theorem yE{E:Value->Shared->Prop}{pins:List (Addr×Obj)}{s:Shared}{σ:St}{H:Hp}{x:Str}{u:Value}{pos:Pos}{Q:Value->Shared->Prop}(I:Inv X pins σ H s)(hg:Gl X x)(hm:X.mg x=some u)(h:Q u s)
  (hd:(x == ("__debug__" : Str))=false:=by decide):wpAny (model X.prog X.w) X.A (eval (.Name x pos) X.env) Q E s:=
 Calls.Name_function_global I.ok.kind hg (Calls.loadGlobal_global (by rw[I.ok.glob];exact I.mod.glob.keeps I.bk) hm h) hd
theorem oC{E:Value->Shared->Prop}{pins:List (Addr×Obj)}{s:Shared}{σ:St}{H:Hp}{x:Str}{u:Value}{pos:Pos}{Q:Value->Shared->Prop}(I:Inv X pins σ H s)(hg:Gl X x)(hm:X.mg x=none)(hv:bootBuiltins x=some u)(h:Q u s)
  (hn:x≠"__name__":=by decide) (hd:(x == ("__debug__" : Str))=false:=by decide):wpAny (model X.prog X.w) X.A (eval (.Name x pos) X.env) Q E s:=by
 obtain⟨mb,h1,h2⟩:=I.mod.blt
 exact Calls.Name_function_global I.ok.kind hg (Calls.loadGlobal_builtin (by rw[I.ok.glob];exact I.mod.glob.keeps I.bk) hm (by rw[I.ok.blt];exact h1.keeps I.bk) ((h2 x hn).trans hv) h) hd
theorem aHK{x:Str}{v:V}{u:Value}{pos:Pos}(hg:Gl X x)(hm:X.mg x=some u)(r:RelV v u)(hd:(x == ("__debug__" : Str))=false:=by decide):PE X (.Name x pos) (tC v):=
 fun _ _ _ H _ I h=>yE I hg hm ⟨v,H,I,r,h⟩ hd
theorem cB{x:Str}{v:V}{u:Value}{pos:Pos}(hg:Gl X x)(hm:X.mg x=none)(hv:bootBuiltins x=some u)(r:RelV v u)(hn:x≠"__name__":=by decide)(hd:(x == ("__debug__" : Str))=false:=by decide):PE X (.Name x pos) (tC v):=
 fun _ _ _ H _ I h=>oC I hg hm hv ⟨v,H,I,r,h⟩ hn hd
variable{a b:Expr}{ta tb:TE}{pos:Pos}
def tB(t:TE):TT:=fun σ H Q=>t σ H fun x H1=>∃c,x=.bl c/\Q c H1
theorem fV{e:Expr}{t:TE}(h:PE X e t)(he:∀whole,isTrue e X.env whole=(do let v <-whole;standAt e.pos;holding [v] (truthy v)):=by intro _;rfl):PT X e (tB t):=by
 intro pins s σ H Q I hw
 refine isTrue_plain (cK (h pins s σ H _ I hw) fun v s1 ⟨x,H1,I1,r1,q1⟩=>?_) (he _)
 obtain⟨d,rfl,q⟩:=q1
 cases r1
 exact wpAny_truthy_bool ⟨H1,I1,q⟩
variable{tA tB':TT}{rest:List Expr}
def aJn(t u:TT):TT:=fun σ H Q=>t σ H fun c H1=>if c=true then u σ H1 Q else Q false H1
def tOr(t u:TT):TT:=fun σ H Q=>t σ H fun c H1=>if c=true then Q true H1 else u σ H1 Q
def aJo(t:TT):TT:=fun σ H Q=>t σ H fun c H1=>Q (!c) H1
theorem yF(ha:PT X a tA):PW X (.BoolOp .And [a] pos) tA:=by
 intro wh pins s σ H Q I h
 refine isTrue_and (cK (ha pins s σ H Q I h) fun c s1 e=>?_)
 cases c with
 |true=>exact isTrue_and_nil e
 |false=>exact e
theorem vW(ha:PT X a tA):PW X (.BoolOp .Or [a] pos) tA:=by
 intro wh pins s σ H Q I h
 refine isTrue_or (cK (ha pins s σ H Q I h) fun c s1 e=>?_)
 cases c with
 |false=>exact isTrue_or_nil e
 |true=>exact e
theorem aBC(ha:PT X a tA)(hb:PW X (.BoolOp .And (b::rest) pos) tB'):PW X (.BoolOp .And (a::b::rest) pos) (aJn tA tB'):=by
 intro wh pins s σ H Q I h
 refine isTrue_and (cK (ha pins s σ H _ I h) fun c s1 ⟨H1,I1,q1⟩=>?_)
 cases c with
 |true=>exact hb wh pins s1 σ H1 Q I1 q1
 |false=>exact⟨H1,I1,q1⟩
theorem aA0(ha:PT X a tA)(hb:PW X (.BoolOp .Or (b::rest) pos) tB'):PW X (.BoolOp .Or (a::b::rest) pos) (tOr tA tB'):=by
 intro wh pins s σ H Q I h
 refine isTrue_or (cK (ha pins s σ H _ I h) fun c s1 ⟨H1,I1,q1⟩=>?_)
 cases c with
 |true=>exact⟨H1,I1,q1⟩
 |false=>exact hb wh pins s1 σ H1 Q I1 q1
theorem oE(ha:PT X a tA):PT X (.UnaryOp .Not a pos) (aJo tA):=by
 intro pins s σ H Q I h
 exact isTrue_not (ha pins s σ H (fun c H1=>Q (!c) H1) I h)
def aFU(ta tb:TE):TE:=fun σ H Q=>ta σ H fun x H1=>∃c,x=.bl c/\if c=true then tb σ H1 Q else Q (.bl false) H1
def aJp(ta tb:TE):TE:=fun σ H Q=>ta σ H fun x H1=>∃c,x=.bl c/\if c=true then Q (.bl true) H1 else tb σ H1 Q
def aFV(ta:TE):TE:=fun σ H Q=>ta σ H fun x H1=>∃c,x=.bl c/\Q (.bl (!c)) H1
theorem jO{op}{t:TE}(h:PE X a t):PE X (.BoolOp op [a] pos) t:=fun pins s σ H Q I hw=>BoolOp_one (h pins s σ H Q I hw)
theorem iI(ha:PE X a ta)(hb:PE X (.BoolOp .And (b::rest) pos) tb):PE X (.BoolOp .And (a::b::rest) pos) (aFU ta tb):=by
 intro pins s σ H Q I h
 refine BoolOp_and (cK (ha pins s σ H _ I h) fun v s1 ⟨x,H1,I1,r1,q1⟩=>?_)
 obtain⟨c,rfl,q1⟩:=q1
 cases r1
 refine wpAny_truthy_bool ?_
 cases c with
 |true=>exact hb pins s1 σ H1 Q I1 q1
 |false=>exact⟨.bl false,H1,I1,rfl,q1⟩
theorem aFW(ha:PE X a ta)(hb:PE X (.BoolOp .Or (b::rest) pos) tb):PE X (.BoolOp .Or (a::b::rest) pos) (aJp ta tb):=by
 intro pins s σ H Q I h
 refine BoolOp_or (cK (ha pins s σ H _ I h) fun v s1 ⟨x,H1,I1,r1,q1⟩=>?_)
 obtain⟨c,rfl,q1⟩:=q1
 cases r1
 refine wpAny_truthy_bool ?_
 cases c with
 |false=>exact hb pins s1 σ H1 Q I1 q1
 |true=>exact⟨.bl true,H1,I1,rfl,q1⟩
theorem aDz(ha:PE X a ta):PE X (.UnaryOp .Not a pos) (aFV ta):=by
 intro pins s σ H Q I h
 refine UnaryOp_ (cK (ha pins s σ H _ I h) fun v s1 ⟨x,H1,I1,r1,q1⟩=>?_)
 obtain⟨c,rfl,q1⟩:=q1
 cases r1
 exact not_of (wpAny_truthy_bool ⟨.bl (!c),H1,I1,rfl,q1⟩)
end
end L2
namespace L2
open PySem PySem.Spec PyProof.Rows
def bQ(K:W.Frag)(H:Hp)(a:Addr)(xs:List V):Prop:=
 Rd H a (.lst xs)\/
  ∃(o:Obj) (its:Array Value) (n:Nat),K.lookup a=some o/\o.cls=.type "list"/\o.dict=none/\o.data=.seq its n/\its.size<=sizeLine/\Vals xs its.toList
def lJ(K:W.Frag)(H:Hp)(a:Addr)(xs:List V):Prop:=
 Rd H a (.tup xs)\/
  ∃(o:Obj) (its:Array Value) (n:Nat),K.lookup a=some o/\o.cls=.type "tuple"/\o.data=.seq its n/\its.size<=sizeLine/\Vals xs its.toList
def aLM:Value->Option V
 |.none=>some .non
 |.bool b=>some (.bl b)
 |.int i _=>some (.int i)
 |.str x _=>some (.str x)
 |.bytes b _=>some (.byt b)
 |.float b _=>some (.flt b)
 |.ref a=>some (.ref a)
 |.type n=>some (.ty n)
 |_=>none
theorem RelV.abs{x:V}{u:Value}(r:RelV x u):aLM u=some x:=by
 cases x with
 |non=>cases r;rfl
 |bl _=>cases r;rfl
 |int _=>obtain⟨t,rfl⟩:=r;rfl
 |str _=>obtain⟨t,rfl⟩:=r;rfl
 |byt _=>obtain⟨t,rfl⟩:=r;rfl
 |flt _=>obtain⟨t,rfl⟩:=r;rfl
 |ref _=>cases r;rfl
 |ty _=>cases r;rfl
theorem RelV.inj{x y:V}{u:Value}(r:RelV x u)(q:RelV y u):x=y:=Option.some.inj (r.abs.symm.trans q.abs)
theorem Vals.inj:∀{xs ys:List V}{us:List Value},Vals xs us->Vals ys us->xs=ys
 |_,_,_,.nil,.nil=>rfl
 |_,_,_,.cons r t,.cons r' t'=>by rw[r.inj r',Vals.inj t t']
section
variable{X:Cx}{pins:List (Addr×Obj)}{σ:St}{H:Hp}{s:Shared}{a:Addr}{xs ys:List V}
theorem bQ.of{K:W.Frag}(h:H a=some (.lst xs)):bQ K H a xs:=.inl (.inl h)
theorem lJ.of{K:W.Frag}(h:H a=some (.tup xs)):lJ K H a xs:=.inl (.inl h)
theorem Inv.list(I:Inv X pins σ H s)(h:bQ X.K H a xs):∃its:List Value,Vals xs its/\PlainL s.heap a its.toArray/\xs.length<=sizeLine:=by
 rcases h with h|⟨o,its,n,hk,hc,hd,hs,hz,r⟩
 ·obtain⟨z,its,n,r,e⟩:=h.ok I.hok
  exact⟨its,r,⟨_,n,e,rfl,rfl,rfl⟩,z⟩
 ·refine⟨its.toList,r,⟨o,n,I.pG a o hk,hc,hd,by simpa using hs⟩,?_⟩
  have e:=r.length
  simp only[Array.length_toList] at e
  omega
theorem Inv.tuple(I:Inv X pins σ H s)(h:lJ X.K H a xs):∃its:List Value,Vals xs its/\IsTup s.heap a its.toArray/\xs.length<=sizeLine:=by
 rcases h with h|⟨o,its,n,hk,hc,hs,hz,r⟩
 ·obtain⟨z,its,r,p⟩:=h.ok I.hok
  exact⟨its,r,p,z⟩
 ·refine⟨its.toList,r,⟨o,I.pG a o hk,hc,n,by simpa using hs⟩,?_⟩
  have e:=r.length
  simp only[Array.length_toList] at e
  omega
theorem Inv.yT(I:Inv X pins σ H s)(h:bQ X.K H a xs)(h':bQ X.K H a ys):xs=ys:=by
 obtain⟨its,r,⟨o,n,e,_,_,d⟩,_⟩:=I.list h
 obtain⟨its',r',⟨o',n',e',_,_,d'⟩,_⟩:=I.list h'
 rw[e] at e';cases e'
 rw[d] at d'
 injection d' with d1 _
 have:its=its':=by simpa using congrArg Array.toList d1
 subst this
 exact r.inj r'
theorem Inv.aA1(I:Inv X pins σ H s)(h:lJ X.K H a xs)(h':lJ X.K H a ys):xs=ys:=by
 obtain⟨its,r,⟨o,e,_,n,d⟩,_⟩:=I.tuple h
 obtain⟨its',r',⟨o',e',_,n',d'⟩,_⟩:=I.tuple h'
 rw[e] at e';cases e'
 rw[d] at d'
 injection d' with d1 _
 have:its=its':=by simpa using congrArg Array.toList d1
 subst this
 exact r.inj r'
end
abbrev Cx.aAu(X:Cx)(E:Value->Shared->Prop):Cx:={ X with xe:=E }
abbrev Cx.nox(X:Cx):Cx:=X.aAu fun _ _=>False
theorem Cx.Ok.aAu{X:Cx}(ok:X.Ok)(E:Value->Shared->Prop):(X.aAu E).Ok:=
 ⟨ok.mod,ok.kind,ok.glob,ok.blt,ok.above,ok.inj,ok.has,ok.cab,ok.hd,ok.frames,ok.stk,ok.exf,ok.bs,ok.bsz,ok.noex,ok.exfs,ok.sL,ok.frf⟩
theorem Cx.Ok.pQ{X:Cx}{E:Value->Shared->Prop}(ok:(X.aAu E).Ok):X.Ok:=
 ⟨ok.mod,ok.kind,ok.glob,ok.blt,ok.above,ok.inj,ok.has,ok.cab,ok.hd,ok.frames,ok.stk,ok.exf,ok.bs,ok.bsz,ok.noex,ok.exfs,ok.sL,ok.frf⟩
section
variable{X:Cx}{pins:List (Addr×Obj)}{σ:St}{H:Hp}{s:Shared}{E:Value->Shared->Prop}
theorem Inv.aAu(I:Inv X pins σ H s)(E:Value->Shared->Prop):Inv (X.aAu E) pins σ H s:=⟨I.ok.aAu E,I.os,I.bare,I.base,I.loc,I.cell,I.free,I.freeC,I.pin,I.hok,I.len⟩
theorem Inv.pQ(I:Inv (X.aAu E) pins σ H s):Inv X pins σ H s:=⟨I.ok.pQ,I.os,I.bare,I.base,I.loc,I.cell,I.free,I.freeC,I.pin,I.hok,I.len⟩
theorem SP.pQ{D:Ends}{f:Flow}{s':Shared}(h:SP (X.aAu E) pins D f s'):SP X pins D f s':=by
 cases f with
 |next=>obtain⟨σ',H',I,q⟩:=h;exact⟨σ',H',I.pQ,q⟩
 |brk=>obtain⟨σ',H',I,q⟩:=h;exact⟨σ',H',I.pQ,q⟩
 |cont=>obtain⟨σ',H',I,q⟩:=h;exact⟨σ',H',I.pQ,q⟩
 |ret u=>obtain⟨v,σ',H',I,r,q⟩:=h;exact⟨v,σ',H',I.pQ,r,q⟩
theorem PSs.nox{st:List Stmt}{t:TS}(h:PSs X.nox st t):PSs X st t:=fun pins s σ H D I hw=>
 wpAny_mono (h pins s σ H D (I.aAu _) hw) (fun _ _ q=>q.pQ) fun _ _ z=>False.elim z
end
section
variable{X:Cx}{st:Stmt}{rest:List Stmt}{t u:TS}{e:Expr}{te:TE}{pos:Pos}
def aFX:TS:=fun D σ H=>D.nx σ H
def aFY(t u:TS):TS:=fun D σ H=>t { D with nx:=u D } σ H
theorem bI:PSs X [] aFX:=fun _ _ σ H _ I h=>wpAny_execs_nil ⟨σ,H,I,h⟩
theorem aC(h1:PS X st t)(h2:PSs X rest u):PSs X (st::rest) (aFY t u):=by
 intro pins s σ H D I h
 refine wpAny_execs_cons (cK (h1 pins s σ H { D with nx:=u D } I h) fun f s1 q=>?_)
 cases f with
 |next=>
  obtain⟨σ',H',I',q⟩:=q
  exact h2 pins s1 σ' H' D I' q
 |ret v=>exact q
 |brk=>exact q
 |cont=>exact q
theorem aG(h1:PS X st t):PSs X [st] t:=by
 intro pins s σ H D I h
 refine wpAny_execs_cons (cK (h1 pins s σ H D I h) fun f s1 q=>?_)
 cases f with
 |next=>exact wpAny_execs_nil q
 |ret v=>exact q
 |brk=>exact q
 |cont=>exact q
theorem Inv.quiet{pins:List (Addr×Obj)}{σ:St}{H:Hp}{s:Shared}(I:Inv X pins σ H s):interactive X.env=false:=by simp[interactive,I.ok.kind]
def aFZ(te:TE):TS:=fun D σ H=>te σ H fun _ H1=>D.nx σ H1
theorem fB(he:PE X e te)(hs:swapsWith e none pos.line X.env=pure false:=by rfl):PS X (.Expr e pos) (aFZ te):=by
 intro pins s σ H D I h
 exact wpAny_Expr_any (cK (he pins s σ H _ I h) fun v s1 ⟨x,H1,I1,r1,q1⟩=>⟨σ,H1,I1,q1⟩) I.quiet hs
def aJq(te:TE):TS:=fun D σ H=>te σ H D.rt
theorem aS(he:PE X e te):PS X (.Return (some e) pos) (aJq te):=by
 intro pins s σ H D I h
 exact wpAny_Return_some (cK (he pins s σ H _ I h) fun v s1 ⟨x,H1,I1,r1,q1⟩=>⟨x,σ,H1,I1,r1,q1⟩)
def aJr(c:TT)(t u:TS):TS:=fun D σ H=>c σ H fun b H1=>if b=true then t D σ H1 else u D σ H1
theorem cN{c:Expr}{a b:List Stmt}{tc:TT}(hc:PT X c tc)(ha:PSs X a t)(hb:PSs X b u):PS X (.If c a b pos) (aJr tc t u):=by
 intro pins s σ H D I h
 refine wpAny_If (cK (hc pins s σ H _ I h) fun d s1 ⟨H1,I1,q1⟩=>?_)
 cases d with
 |true=>exact ha pins s1 σ H1 D I1 q1
 |false=>exact hb pins s1 σ H1 D I1 q1
def aF0:TS:=fun _ _ _=>False
theorem pR:PS X st aF0:=fun _ _ _ _ _ _ h=>h.elim
end
abbrev TG:=V->St->Hp->(St->Hp->Prop)->Prop
abbrev TGs:=List V->St->Hp->(St->Hp->Prop)->Prop
def PG(X:Cx)(target:Expr)(t:TG):Prop:=
 ∀(pins:List (Addr×Obj)) (s:Shared) (σ:St) (H:Hp) (v:V) (u:Value) (Q:St->Hp->Prop),Inv X pins σ H s->RelV v u->t v σ H Q->
  wpAny (model X.prog X.w) X.A (assign target X.env u) (fun _ s'=>∃σ' H',Inv X pins σ' H' s'/\Q σ' H') X.xe s
def PGs(X:Cx)(ts:List Expr)(t:TGs):Prop:=
 ∀(pins:List (Addr×Obj)) (s:Shared) (σ:St) (H:Hp) (vs:List V) (us:List Value) (Q:St->Hp->Prop),Inv X pins σ H s->Vals vs us->t vs σ H Q->
  wpAny (model X.prog X.w) X.A (assignInOrder ((assignEach ts X.env).map (·.2)) us) (fun _ s'=>∃σ' H',Inv X pins σ' H' s'/\Q σ' H') X.xe s
abbrev aBD:=V->V->V->Hp->(Hp->Prop)->Prop
def aF1(X:Cx)(t:aBD):Prop:=
 ∀(pins:List (Addr×Obj)) (s:Shared) (σ:St) (H:Hp) (o i v:V) (ov iv u:Value) (Q:Hp->Prop),Inv X pins σ H s->RelV o ov->RelV i iv->RelV v u->t o i v H Q->
  wpAny (model X.prog X.w) X.A (setItem ov iv u) (fun _ s'=>∃H',Inv X pins σ H' s'/\Q H') X.xe s
abbrev TIp:=V->V->Hp->VK->Prop
def PIp(X:Cx)(op:Operator)(t:TIp):Prop:=
 ∀(pins:List (Addr×Obj)) (s:Shared) (σ:St) (H:Hp) (x y:V) (v u:Value) (Q:VK),Inv X pins σ H s->RelV x v->RelV y u->t x y H Q->
  wpAny (model X.prog X.w) X.A (inplaceOp op v u) (EP X pins σ Q) X.xe s
section
variable{X:Cx}{pos:Pos}
def sR(i:Nat):TG:=fun v σ H Q=>Q (σ.set i (some v)) H
theorem aP{i:Nat}{x:Str}(hN:X.N.Nodup)(hi:X.N[i]?=some x)(hx:Loc X.env.scope x)(hf:X.fn x=true\/X.env.scope.names.lookup x=some .local:=by first|exact .inl rfl|exact .inr rfl|assumption):PG X (.Name x pos) (sR i):=by
 intro pins s σ H v u Q I r h
 exact wpAny_assign_Name (yS I hN hi hx r (fun s' I'=>⟨_,H,I',h⟩) hf)
def aHL:TGs:=fun vs σ H Q=>vs=[]/\Q σ H
def aEv(t:TG)(u:TGs):TGs:=fun vs σ H Q=>∃v r,vs=v::r/\t v σ H fun σ' H'=>u r σ' H' Q
theorem fD:PGs X [] aHL:=by
 intro pins s σ H vs us Q I r h
 obtain⟨e,h⟩:=h
 subst e
 cases r
 exact assignInOrder_nil ⟨σ,H,I,h⟩
theorem bH{e:Expr}{es:List Expr}{t:TG}{u:TGs}(h1:PG X e t)(h2:PGs X es u)
  (hs:(assignEach (e::es) X.env).map (·.2)=assign e X.env::(assignEach es X.env).map (·.2):=by rfl):PGs X (e::es) (aEv t u):=by
 intro pins s σ H vs us Q I r h
 obtain⟨v,vr,e1,h⟩:=h
 subst e1
 cases r with
 |cons r rr=>
  rw[hs]
  refine assignInOrder_cons (cK (h1 pins s σ H _ _ _ I r h) fun _ s1 ⟨σ1,H1,I1,q1⟩=>?_)
  exact h2 pins s1 σ1 H1 _ _ Q I1 rr q1
def aHM(K:W.Frag)(n:Nat)(t:TGs):TG:=fun v σ H Q=>∃a xs,v=.ref a/\lJ K H a xs/\xs.length=n/\t xs σ H Q
theorem aJs{es:List Expr}{k:Nat}{t:TGs}{n:Nat}(hc:X.calm=true)(h:PGs X es t)
  (hn:(assignEach es X.env).length=n:=by rfl) (hst:(assignEach es X.env).findIdx? (·.1)=none:=by rfl):PG X (.Tuple es k pos) (aHM X.K n t):=by
 intro pins s σ H v u Q I r hw
 obtain⟨a,xs,e1,hq,hl,hw⟩:=hw
 subst e1
 cases r
 obtain⟨its,rv,ht,hz⟩:=I.tuple hq
 refine assign_Tuple_tuple (I.ok.hd hc) ht (by simp[hn,<-hl,rv.length]) hst fun h' hx=>?_
 have I1:Inv X pins σ H { s with heap:=h' }:=I.kept (t':=s.toks) fun b o e=>hx b o (Nat.ne_of_lt (Heap.lt_size e)) e
 exact h pins _ σ H xs _ Q I1 (by simpa using rv) hw
def aJt(to ti:TE)(t:aBD):TG:=fun v σ H Q=>to σ H fun o H1=>ti σ H1 fun i H2=>t o i v H2 fun H3=>Q σ H3
theorem yU{o i:Expr}{to ti:TE}{t:aBD}(ho:PE X o to)(hi:PE X i ti)(hs:aF1 X t)
  (ha:∀v,assign (.Subscript o i pos) X.env v=(do
   let ov <-holding [v] (eval o X.env)
   let iv <-holding [v,ov] (eval i X.env)
   standAt pos
   holding [v,ov,iv] (setItem ov iv v)
   release [v,ov,iv] []):=by intro _;rfl):PG X (.Subscript o i pos) (aJt to ti t):=by
 intro pins s σ H v u Q I r h
 rw[ha]
 refine wpAny_bind (wpAny_holding (cK (ho pins s σ H _ I h) fun ov s1 ⟨x,H1,I1,r1,q1⟩=>?_))
 refine wpAny_bind (wpAny_holding (cK (hi pins s1 σ H1 _ I1 q1) fun iv s2 ⟨y,H2,I2,r2,q2⟩=>?_))
 refine wpAny_bind (wpAny_standAt (wpAny_bind (wpAny_holding (cK (hs pins s2 σ H2 x y v ov iv u _ I2 r1 r2 r q2) fun _ s3 ⟨H3,I3,q3⟩=>?_))))
 exact wpAny_release ⟨σ,H3,I3,q3⟩
def aDA(te:TE)(g:TG):TS:=fun D σ H=>te σ H fun x H1=>g x σ H1 D.nx
theorem vX{tg e:Expr}{te:TE}{g:TG}(he:PE X e te)(hg:PG X tg g)(hs:swapsWithSole [tg] e pos.line X.env=pure false:=by rfl)(hw:swappedStores [tg] e X.env=pure none:=by rfl)
  (h1:(assignEach [tg] X.env).map (·.2)=[assign tg X.env]:=by rfl):PS X (.Assign [tg] e pos) (aDA te g):=by
 intro pins s σ H D I h
 refine wpAny_Assign_stores (cK (he pins s σ H _ I h) fun v s1 ⟨x,H1,I1,r1,q1⟩=>?_) hs hw
 rw[h1]
 exact cK (hg pins s1 σ H1 x v _ I1 r1 q1) fun _ s2 q=>q
theorem aM{i:Nat}{x:Str}{e:Expr}{te:TE}{pos':Pos}(hN:X.N.Nodup)(hi:X.N[i]?=some x)(hx:Loc X.env.scope x)(he:PE X e te)(hs:swapsWith e (some (.Name x pos')) pos.line X.env=pure false:=by rfl)(hf:X.fn x=true\/X.env.scope.names.lookup x=some .local:=by first|exact .inl rfl|exact .inr rfl|assumption) :
  PS X (.Assign [.Name x pos'] e pos) (aDA te (sR i)):=by
 intro pins s σ H D I h
 refine wpAny_Assign_Name (cK (he pins s σ H _ I h) fun v s1 ⟨y,H1,I1,r1,q1⟩=>?_) hs
 exact yS I1 hN hi hx r1 (fun s2 I2=>⟨_,H1,I2,q1⟩) hf
def aJu(i:Nat)(te:TE)(ti:TIp):TS:=fun D σ H=>∃x,σ[i]?=some (some x)/\te σ H fun y H1=>ti x y H1 fun z H2=>D.nx (σ.set i (some z)) H2
theorem aBE{i:Nat}{x:Str}{e:Expr}{te:TE}{op:Operator}{ti:TIp}{pos':Pos}(hN:X.N.Nodup)(hi:X.N[i]?=some x)(hx:Loc X.env.scope x)(he:PE X e te)(ho:PIp X op ti)(hf:X.fn x=true\/X.env.scope.names.lookup x=some .local:=by first|exact .inl rfl|exact .inr rfl|assumption) :
  PS X (.AugAssign (.Name x pos') op e pos) (aJu i te ti):=by
 intro pins s σ H D I h
 obtain⟨v,e1,h⟩:=h
 obtain⟨m,hn,hl⟩:=I.loc
 have vis:Vis X.env.scope x:=by rcases hx with k|k;exact .inl k;exact .inr (.inl k)
 obtain⟨u,r,l⟩:=hl i x v hi e1 vis
 refine wpAny_AugAssign_Name ?_
 have go:wpAny (model X.prog X.w) X.A (eval e X.env) (fun w s₂=>wpAny (model X.prog X.w) X.A (inplaceOp op u w) (fun r s₃=>wpAny (model X.prog X.w) X.A (storeName X.env x r) (fun _=>SP X pins D .next) X.xe s₃) X.xe s₂) X.xe s:=by
  refine cK (he pins s σ H _ I h) fun w s1 ⟨y,H1,I1,r1,q1⟩=>?_
  refine cK (ho pins s1 σ H1 v y u w _ I1 r r1 q1) fun z s2 ⟨zv,H2,I2,r2,q2⟩=>?_
  exact yS I2 hN hi hx r2 (fun s3 I3=>⟨_,H2,I3,q2⟩) hf
 rcases l with ⟨hk,hm⟩|⟨hk,c,hc,hcell⟩
 ·exact wpAny_loadName_local I.ok.kind hk hn hm go
 ·rcases hk with hk|hk
  ·exact wpAny_loadName_cell I.ok.kind hk hc hcell go
  ·rcases hx with k|k
   ·have:X.env.scope.names.lookup x=some .free:=hk
    rw[k] at this;cases this
   ·have:X.env.scope.names.lookup x=some .free:=hk
    rw[k] at this;cases this
def aF2(to ti te:TE)(tget:V->V->Hp->VK->Prop)(tip:TIp)(tset:aBD):TS:=fun D σ H=>to σ H fun o H1=>ti σ H1 fun i H2=>tget o i H2 fun x H3=>te σ H3 fun y H4=>tip x y H4 fun z H5=>tset o i z H5 fun H6=>D.nx σ H6
def aJv(X:Cx)(t:V->V->Hp->VK->Prop):Prop:=
 ∀(pins:List (Addr×Obj)) (s:Shared) (σ:St) (H:Hp) (o i:V) (ov iv:Value) (Q:VK),Inv X pins σ H s->RelV o ov->RelV i iv->t o i H Q->
  wpAny (model X.prog X.w) X.A (getItem ov iv) (EP X pins σ Q) X.xe s
theorem aBF{o i e:Expr}{to ti te:TE}{tget:V->V->Hp->VK->Prop}{tip:TIp}{tset:aBD}{op:Operator}{tpos:Pos}(ho:PE X o to)(hi:PE X i ti)(hg:aJv X tget)(he:PE X e te)(hp:PIp X op tip)(hs:aF1 X tset)
  (ha:∀ov iv new,augStore i ov iv new=(do holding [new,ov,iv] (setItem ov iv new);release [new,ov,iv] [];pure .next):=by intros;rfl):PS X (.AugAssign (.Subscript o i tpos) op e pos) (aF2 to ti te tget tip tset):=by
 intro pins s σ H D I h
 refine wpAny_AugAssign_SubscriptAny (cK (ho pins s σ H _ I h) fun ov s1 ⟨x1,H1,I1,r1,q1⟩=>?_) ha
 refine cK (hi pins s1 σ H1 _ I1 q1) fun iv s2 ⟨x2,H2,I2,r2,q2⟩=>?_
 refine cK (hg pins s2 σ H2 x1 x2 ov iv _ I2 r1 r2 q2) fun old s3 ⟨x3,H3,I3,r3,q3⟩=>?_
 refine cK (he pins s3 σ H3 _ I3 q3) fun v s4 ⟨x4,H4,I4,r4,q4⟩=>?_
 refine cK (hp pins s4 σ H4 x3 x4 old v _ I4 r3 r4 q4) fun new s5 ⟨x5,H5,I5,r5,q5⟩=>?_
 exact cK (hs pins s5 σ H5 x1 x2 x5 ov iv new _ I5 r1 r2 r5 q5) fun _ s6 ⟨H6,I6,q6⟩=>⟨σ,H6,I6,q6⟩
def ipI(f:Int->Int->Int):TIp:=fun x y H Q=>∃i j,x=.int i/\y=.int j/\Q (.int (f i j)) H
theorem aDB:PIp X .Add (ipI fun i j=>i+j):=by
 intro pins s σ H x y v u Q I r1 r2 h
 obtain⟨i,j,e1,e2,q⟩:=h
 subst e1;subst e2
 obtain⟨t,rfl⟩:=r1
 obtain⟨t',rfl⟩:=r2
 exact iadd_int ⟨.int _,H,I.tok _,⟨_,rfl⟩,q⟩
end
section
variable{X:Cx}{pos:Pos}
end
structure It where
 go:Nat->Hp->Prop
 yld:Nat->Hp->V->Hp->Prop
 stop:Nat->Hp->Prop
def vY(X:Cx)(pins:List (Addr×Obj))(H:Hp)(b:Addr):Prop:=
 H b=none/\b≠X.env.locals/\b∉X.fs/\(b∈X.ex\/X.s₀.heap.objs.size<=b)/\(∀x c,X.env.cells.lookup x=some c->c≠b)/\∀p∈X.pn++pins,p.1≠b
theorem Inv.aDC{X:Cx}{pins:List (Addr×Obj)}{σ:St}{H H':Hp}{s:Shared}{b:Addr}(I:Inv X pins σ H s)(hb:s.heap.objs.size<=b)(hn:H' b=none):vY X pins H' b:=by
 refine⟨hn,Nat.ne_of_gt (Nat.lt_of_lt_of_le I.lt hb),I.aLL hb,.inr (Nat.le_trans I.sz hb),fun x c e z=>?_,fun p hp z=>?_⟩
 ·obtain⟨v,q⟩:=I.cell x c e
  exact absurd (Nat.lt_of_lt_of_le q.lt (by rw[z];exact hb)) (Nat.lt_irrefl _)
 ·exact absurd (Nat.lt_of_lt_of_le (Heap.lt_size (I.pin p hp).1) (by rw[z];exact hb)) (Nat.lt_irrefl _)
structure Turn(P:Program)(w:World)(K:W.Frag)(tg:Expr)(J:It)(fp:List Addr)(it:Addr)(tn:Nat->Heap->Prop):Prop where
 mem:it∈fp
 obj:∀i h,tn i h->∀b∈fp,∃o,h.get? b=some o/\∀v,o.data≠.cell v
 keep:∀i h h',tn i h->(∀b∈fp,∀o,h.get? b=some o->h'.get? b=some o)->tn i h'
 item:∀(X:Cx),X.prog=P->X.w=w->X.K=K->X.calm=true->∀(i:Nat) (pins:List (Addr×Obj)) (s:Shared) (σ:St) (H:Hp) (E:Value->Shared->Prop),Inv X pins σ H s->(∀b∈fp,vY X pins H b)->tn i s.heap->J.go i H->
  wpAny (model P w) X.A (pyNext (.ref it)) (fun r s1=>∃u,r=some u/\
   wpAny (model P w) X.A (letOwnedTupleGo tg (.ref it) u) (fun _ s2=>∃x H',Inv X pins σ H' s2/\RelV x u/\J.yld i H x H'/\tn (i+1) s2.heap/\∀b∈fp,H' b=none) E s1) E s
 done:∀(X:Cx),X.prog=P->X.w=w->X.K=K->X.calm=true->∀(i:Nat) (pins:List (Addr×Obj)) (s:Shared) (σ:St) (H:Hp) (E:Value->Shared->Prop),Inv X pins σ H s->(∀b∈fp,vY X pins H b)->tn i s.heap->J.stop i H->
  wpAny (model P w) X.A (pyNext (.ref it)) (fun r s1=>r=none/\Inv X pins σ H s1) E s
 self:∀(A:Around) (i:Nat) (s:Shared) (Q:Value->Shared->Prop) (E:Value->Shared->Prop),tn i s.heap->Q (.ref it) s->wpAny (model P w) A (pyIter (.ref it)) Q E s
abbrev TI:=St->Hp->(It->Hp->Prop)->Prop
def PIE(X:Cx)(pins:List (Addr×Obj))(σ:St)(tg:Expr)(R:It->Hp->Prop)(itv:Value)(s2:Shared):Prop:=
 ∃(it:Addr) (fp:List Addr) (tn:Nat->Heap->Prop) (J:It) (H':Hp),itv=.ref it/\Inv X pins σ H' s2/\Turn X.prog X.w X.K tg J fp it tn/\tn 0 s2.heap/\(∀b∈fp,vY X pins H' b)/\R J H'
def PI(X:Cx)(tg iter:Expr)(wi:TI):Prop:=
 ∀(pins:List (Addr×Obj)) (s:Shared) (σ:St) (H:Hp) (R:It->Hp->Prop),Inv X pins σ H s->wi σ H R->
  wpAny (model X.prog X.w) X.A (eval iter X.env) (fun v s1=>wpAny (model X.prog X.w) X.A (pyIter v) (PIE X pins σ tg R) X.xe s1) X.xe s
theorem aEw{M:Model}{A:Around}{E:Value->Shared->Prop}{s:Shared}{tg:Expr}{it:Addr}{u:Value}{o:Obj}{n:String}{vs:Array Value}{Q:Unit->Shared->Prop}(ho:s.heap.get? it=some o)(hc:o.cls=.type n)(hd:o.data=.fields vs)
  (hn:["enumerate","zip","dict_itemiterator","dict_reverseitemiterator","odict_iterator","itertools.zip_longest","itertools.pairwise"].contains n=false) (hQ:Q () s):wpAny M A (letOwnedTupleGo tg (.ref it) u) Q E s:=by
 unfold letOwnedTupleGo
 cases tg <;> first
  |exact wpAny_pure hQ
  |(cases u <;> first
    |exact wpAny_pure hQ
    |(
      refine wpAny_bind (wpAny_load ho ?_)
      rw[hc,hd]
      show wpAny M A (if (["enumerate","zip","dict_itemiterator","dict_reverseitemiterator","odict_iterator","itertools.zip_longest","itertools.pairwise"].contains n && vs[0]? == some (rawInt _))=true then _ else _) Q E s
      rw[if_neg (by intro h;rw[hn,Bool.false_and] at h;cases h)]
      exact wpAny_pure hQ))
def Itl(K:W.Frag)(a:Addr):It:=
 ⟨fun i H=>∃xs x,bQ K H a xs/\xs[i]?=some x,fun i H x H'=>H'=H/\∀xs,bQ K H a xs->xs[i]?=some x,fun i H=>∃xs,bQ K H a xs/\xs.length<=i⟩
def Itt(K:W.Frag)(a:Addr):It:=
 ⟨fun i H=>∃xs x,lJ K H a xs/\xs[i]?=some x,fun i H x H'=>H'=H/\∀xs,lJ K H a xs->xs[i]?=some x,fun i H=>∃xs,lJ K H a xs/\xs.length<=i⟩
def Itr(lo:Int)(n:Nat):It:=⟨fun i _=>i < n,fun i H x H'=>H'=H/\x=.int (lo+i),fun i _=>n<=i⟩
theorem aFe{P:Program}{w:World}{K:W.Frag}{tg:Expr}(a it:Addr):Turn P w K tg (Itl K a) [it] it (fun i h=>h.IsListIter it a i) where
 mem:=by simp
 obj:=fun i h st b hb=>by
  have e:b=it:=by simpa using hb
  subst e
  obtain⟨o,e,c,d⟩:=st
  exact⟨o,e,fun v z=>by rw[d] at z;cases z⟩
 keep:=fun i h h' st k=>st.at fun o e=>k it (by simp) o e
 item:=by
  intro X hP hw hK hc i pins s σ H E I hf st hg
  subst hP hw hK
  obtain⟨xs,x,hq,hx⟩:=hg
  obtain⟨its,rv,p,hz⟩:=I.list hq
  obtain⟨u,hu,ru⟩:=rv.get hx
  obtain⟨f0,f1,f2,f3,f4,f5⟩:=hf it (by simp)
  refine wpAny_pyNext_list_item st p.isList (x:=u) (by simpa using hu) fun h' st' sb=>?_
  have I1:Inv X pins σ H { s with heap:=h' }:=I.turned (t':=s.toks) (fun b o hb e=>(sb.2 b hb).trans e) f0 f1 f3 f4 f5
  obtain⟨o,e,c,d⟩:=id st'
  exact⟨u,rfl,aEw (s:={ s with heap:=h' }) e c d (by decide) ⟨x,H,I1,ru,⟨rfl,fun ys hy=>by rw[I.yT hy hq];exact hx⟩,st',fun b hb=>(hf b hb).1⟩⟩
 done:=by
  intro X hP hw hK hc i pins s σ H E I hf st hg
  subst hP hw hK
  obtain⟨xs,hq,hx⟩:=hg
  obtain⟨its,rv,p,hz⟩:=I.list hq
  obtain⟨f0,f1,f2,f3,f4,f5⟩:=hf it (by simp)
  have hl:=rv.length
  exact wpAny_pyNext_list_end (I.ok.hd hc) st p.isList (by simp;omega) fun h' eb=>⟨rfl,I.turned (t':=s.toks) (fun b o hb e=>eb b o hb e) f0 f1 f3 f4 f5⟩
 self:=fun _ _ _ _ _ st h=>wpAny_pyIter_listiter st h
theorem aDD{P:Program}{w:World}{K:W.Frag}{tg:Expr}(a it:Addr):Turn P w K tg (Itt K a) [it] it (fun i h=>h.IsTupleIter it a i) where
 mem:=by simp
 obj:=fun i h st b hb=>by
  have e:b=it:=by simpa using hb
  subst e
  obtain⟨o,e,c,d⟩:=st
  exact⟨o,e,fun v z=>by rw[d] at z;cases z⟩
 keep:=fun i h h' st k=>st.at fun o e=>k it (by simp) o e
 item:=by
  intro X hP hw hK hc i pins s σ H E I hf st hg
  subst hP hw hK
  obtain⟨xs,x,hq,hx⟩:=hg
  obtain⟨its,rv,p,hz⟩:=I.tuple hq
  obtain⟨u,hu,ru⟩:=rv.get hx
  obtain⟨f0,f1,f2,f3,f4,f5⟩:=hf it (by simp)
  refine wpAny_pyNext_tuple_item st (show s.heap.IsTuple a its.toArray from p) (x:=u) (by simpa using hu) fun h' st' sb=>?_
  have I1:Inv X pins σ H { s with heap:=h' }:=I.turned (t':=s.toks) (fun b o hb e=>(sb.2 b hb).trans e) f0 f1 f3 f4 f5
  obtain⟨o,e,c,d⟩:=id st'
  exact⟨u,rfl,aEw (s:={ s with heap:=h' }) e c d (by decide) ⟨x,H,I1,ru,⟨rfl,fun ys hy=>by rw[I.aA1 hy hq];exact hx⟩,st',fun b hb=>(hf b hb).1⟩⟩
 done:=by
  intro X hP hw hK hc i pins s σ H E I hf st hg
  subst hP hw hK
  obtain⟨xs,hq,hx⟩:=hg
  obtain⟨its,rv,p,hz⟩:=I.tuple hq
  obtain⟨f0,f1,f2,f3,f4,f5⟩:=hf it (by simp)
  have hl:=rv.length
  exact wpAny_pyNext_tuple_end (I.ok.hd hc) st (show s.heap.IsTuple a its.toArray from p) (by simp;omega) fun h' eb=>⟨rfl,I.turned (t':=s.toks) (fun b o hb e=>eb b o hb e) f0 f1 f3 f4 f5⟩
 self:=fun _ _ _ _ _ st h=>wpAny_pyIter_tupleiter st h
theorem aDE{P:Program}{w:World}{K:W.Frag}{tg:Expr}(it:Addr)(lo:Int)(n:Nat):Turn P w K tg (Itr lo n) [it] it (fun i h=>IsRangeIter h it (lo+(i:Nat)*1) ((n:Int) - (i:Nat)) 1) where
 mem:=by simp
 obj:=fun i h st b hb=>by
  have e:b=it:=by simpa using hb
  subst e
  exact⟨_,st,fun v z=>by
   have z':Data.fields _=Data.cell v:=z
   cases z'⟩
 keep:=fun i h h' st k=>k it (by simp) _ st
 item:=by
  intro X hP hw hK hc i pins s σ H E I hf st hg
  subst hP hw hK
  obtain⟨f0,f1,f2,f3,f4,f5⟩:=hf it (by simp)
  have W:=Walks.range (prog:=X.prog) (w:=X.w) (I.ok.hd hc) it lo 1 n
  refine W.item i s _ _ hg st fun v h' tk hv st' kk=>?_
  obtain⟨t,rfl⟩:=hv
  have I1:Inv X pins σ H { s with heap:=h',toks:=tk }:=I.turned (fun b o hb e=>kk b o (by simpa using hb) e) f0 f1 f3 f4 f5
  refine⟨_,rfl,aEw (s:={ s with heap:=h',toks:=tk }) (n:="range_iterator") st' rfl rfl (by decide) ⟨.int (lo+i),H,I1,⟨t,?_⟩,⟨rfl,rfl⟩,st',fun b hb=>(hf b hb).1⟩⟩
  rw[Int.mul_one]
 done:=by
  intro X hP hw hK hc i pins s σ H E I hf st hg
  subst hP hw hK
  obtain⟨f0,f1,f2,f3,f4,f5⟩:=hf it (by simp)
  exact wpAny_pyNext_range_end (I.ok.hd hc) st (by have:n<=i:=hg;omega) fun h' eb=>⟨rfl,I.turned (t':=s.toks) (fun b o hb e=>eb b o hb e) f0 f1 f3 f4 f5⟩
 self:=fun _ _ _ _ _ st h=>wpAny_pyIter_rangeiter st h
end L2
namespace L2
open PySem PySem.Spec PyProof.Rows
section
variable{X:Cx}{tg:Expr}
def aF3(K:W.Frag)(tl:TE):TI:=fun σ H R=>tl σ H fun x H1=>∃a,x=.ref a/\(∃xs,bQ K H1 a xs)/\R (Itl K a) H1
def aJw(K:W.Frag)(tl:TE):TI:=fun σ H R=>tl σ H fun x H1=>∃a,x=.ref a/\(∃xs,lJ K H1 a xs)/\R (Itt K a) H1
theorem aHN{l:Expr}{tl:TE}(hl:PE X l tl):PI X tg l (aF3 X.K tl):=by
 intro pins s σ H R I h
 refine cK (hl pins s σ H _ I h) fun v s1 ⟨x,H1,I1,r1,q1⟩=>?_
 obtain⟨a,e,⟨xs,hq⟩,q⟩:=q1
 subst e
 cases r1
 obtain⟨its,rv,p,hz⟩:=I1.list hq
 refine wpAny_pyIter_list p.isList ?_
 refine⟨s1.heap.objs.size,[s1.heap.objs.size],_,_,H1,rfl,I1.kept (t':=s1.toks) fun b o e=>Heap.get?_push_of_some _ e,aFe a _,⟨_,Heap.get?_push_size _ rfl,rfl,rfl⟩,fun b hb=>?_,q⟩
 have e:b=s1.heap.objs.size:=by simpa using hb
 subst e
 exact I1.aDC (Nat.le_refl _) (I1.hok.fresh (Nat.le_refl _))
theorem aJx{l:Expr}{tl:TE}(hl:PE X l tl):PI X tg l (aJw X.K tl):=by
 intro pins s σ H R I h
 refine cK (hl pins s σ H _ I h) fun v s1 ⟨x,H1,I1,r1,q1⟩=>?_
 obtain⟨a,e,⟨xs,hq⟩,q⟩:=q1
 subst e
 cases r1
 obtain⟨its,rv,p,hz⟩:=I1.tuple hq
 refine wpAny_pyIter_tuple (show s1.heap.IsTuple a its.toArray from p) ?_
 refine⟨s1.heap.objs.size,[s1.heap.objs.size],_,_,H1,rfl,I1.kept (t':=s1.toks) fun b o e=>Heap.get?_push_of_some _ e,aDD a _,⟨_,Heap.get?_push_size _ rfl,rfl,rfl⟩,fun b hb=>?_,q⟩
 have e:b=s1.heap.objs.size:=by simpa using hb
 subst e
 exact I1.aDC (Nat.le_refl _) (I1.hok.fresh (Nat.le_refl _))
theorem aCH{pins:List (Addr×Obj)}{σ:St}{H:Hp}{s:Shared}{R:It->Hp->Prop}{E:Value->Shared->Prop}{lo hi:Int}{t u v:Tok}{tk:Nat}(I:Inv X pins σ H s)(h1:-(2 ^ 62)<=lo)(h2:lo < 2 ^ 62)(h3:-(2 ^ 62)<=hi)(h4:hi < 2 ^ 62)
  (q:R (Itr lo (hi - lo).toNat) H):wpAny (model X.prog X.w) X.A (pyIter (.ref s.heap.objs.size)) (PIE X pins σ tg R) E { s with heap:=s.heap.push { cls:=.type "range",data:=.fields #[.int lo t,.int hi u,.int 1 v] },toks:=tk }:=by
 refine wpAny_pyIter_range (IsRange.new ..) (small_one h1 h2 h3 h4) ?_
 have I1:Inv X pins σ H { s with heap:=s.heap.push { cls:=.type "range",data:=.fields #[.int lo t,.int hi u,.int 1 v] },toks:=tk }:=I.kept fun b o e=>Heap.get?_push_of_some _ e
 refine⟨(s.heap.push { cls:=.type "range",data:=.fields #[.int lo t,.int hi u,.int 1 v] }).objs.size,[(s.heap.push { cls:=.type "range",data:=.fields #[.int lo t,.int hi u,.int 1 v] }).objs.size],_,_,H,rfl,
  I1.kept (t':=tk) fun b o e=>Heap.get?_push_of_some _ e,aDE _ lo (hi - lo).toNat,?_,fun b hb=>?_,q⟩
 ·have e1:lo+((0:Nat):Int)*1=lo:=by simp
  have e2:(((hi - lo).toNat:Nat):Int) - ((0:Nat):Int)=Builtin.Range.rangeSize lo hi 1:=by rw[rangeSize_one];split <;> omega
  show IsRangeIter _ _ (lo+((0:Nat):Int)*1) ((((hi - lo).toNat:Nat):Int) - ((0:Nat):Int)) 1
  rw[e1,e2]
  exact Heap.get?_push_size _ rfl
 ·have e:b=(s.heap.push { cls:=.type "range",data:=.fields #[.int lo t,.int hi u,.int 1 v] }).objs.size:=by simpa using hb
  subst e
  exact I1.aDC (Nat.le_refl _) (I1.hok.fresh (Nat.le_refl _))
def aEx(ta:TA):TI:=fun σ H R=>ta σ H fun vs H1=>∃j:Int,vs=[.int j]/\-(2 ^ 62)<=j/\j < 2 ^ 62/\R (Itr 0 j.toNat) H1
def aEy(ta:TA):TI:=fun σ H R=>ta σ H fun vs H1=>∃i j:Int,vs=[.int i,.int j]/\(-(2 ^ 62)<=i/\i < 2 ^ 62/\-(2 ^ 62)<=j/\j < 2 ^ 62)/\R (Itr i (j - i).toNat) H1
theorem aFf{a:Expr}{ta:TA}{p pos:Pos}(hg:Gl X "range")(hm:X.mg "range" = none)(ha:PA X [a] ta)(hs:starEach [a] X.env=[(false,eval a X.env)]:=by rfl):PI X tg (.Call (.Name "range" p) [a] [] pos) (aEx ta):=by
 intro pins s σ H R I h
 refine Call_ (oC I hg hm boot_range (PyProof.Rows.callWith_type1 (cK (ha pos pins s σ H _ I h) fun us s1 ⟨vs,H1,I1,r1,q1⟩=>?_) hs rfl))
 obtain⟨j,e,q1,q2,q⟩:=q1
 subst e
 cases r1 with
 |cons r rr=>
  cases rr
  obtain⟨t,rfl⟩:=r
  exact call_range_1 (aCH I1 (by omega) (by omega) q1 q2 (by simpa using q))
theorem aFg{a b:Expr}{ta:TA}{p pos:Pos}(hg:Gl X "range")(hm:X.mg "range" = none)(ha:PA X [a,b] ta)(hs:starEach [a,b] X.env=[(false,eval a X.env),(false,eval b X.env)]:=by rfl)(hs2:starEach [b] X.env=[(false,eval b X.env)]:=by rfl) :
  PI X tg (.Call (.Name "range" p) [a,b] [] pos) (aEy ta):=by
 intro pins s σ H R I h
 refine Call_ (oC I hg hm boot_range (PyProof.Rows.callWith_type1 (cK (ha pos pins s σ H _ I h) fun us s1 ⟨vs,H1,I1,r1,q1⟩=>?_) (by rw[hs,hs2]) (by rw[hs2];rfl)))
 obtain⟨i,j,e,⟨q1,q2,q3,q4⟩,q⟩:=q1
 subst e
 cases r1 with
 |cons r rr=>
  cases rr with
  |cons r' rr=>
   cases rr
   obtain⟨t,rfl⟩:=r
   obtain⟨t',rfl⟩:=r'
   exact call_range_2 (aCH I1 q1 q2 q3 q4 q)
def aJy(wi:TI)(g:TG)(tb:TS):TS:=fun D σ H=>wi σ H fun J H1=>∃W:Nat->Nat->St->Hp->Prop,(∃m,W 0 m σ H1)/\∀i m σ H,W i m σ H->
 (J.stop i H/\D.nx σ H)\/(J.go i H/\∃N:St->Hp->Prop,(∀σ' H',N σ' H'->∃m',m' < m/\W (i+1) m' σ' H')/\∀x H',J.yld i H x H'->g x σ H' fun σ2 H2=>tb { D with nx:=N,ct:=N,bk:=D.nx } σ2 H2)
def yV(fp:List Addr)(h:Heap):List (Addr×Obj):=fp.filterMap fun b=>(h.get? b).map fun o=>(b,o)
theorem oF{fp:List Addr}{h:Heap}{b:Addr}{o:Obj}(hb:b∈fp)(e:h.get? b=some o):(b,o)∈yV fp h:=List.mem_filterMap.mpr ⟨b,hb,by rw[e];rfl⟩
theorem aFh{fp:List Addr}{h:Heap}{p:Addr×Obj}(hp:p∈yV fp h):p.1∈fp/\h.get? p.1=some p.2:=by
 obtain⟨b,hb,e⟩:=List.mem_filterMap.mp hp
 cases q:h.get? b with
 |none=>rw[q] at e;cases e
 |some o=>
  rw[q] at e
  have e':(b,o)=p:=Option.some.inj e
  subst e'
  exact⟨hb,q⟩
theorem Inv.pinned{pins:List (Addr×Obj)}{σ:St}{H:Hp}{s:Shared}{fp:List Addr}(I:Inv X pins σ H s)(hf:∀b∈fp,vY X pins H b)(ho:∀b∈fp,∃o,s.heap.get? b=some o/\∀v,o.data≠.cell v):Inv X (pins++yV fp s.heap) σ H s:=
 I.yD fun p hp=>(List.mem_append.mp hp).elim (fun z=>I.pin p (List.mem_append_right _ z)) fun z=>by
  obtain⟨hb,e⟩:=aFh z
  obtain⟨f0,f1,f2,_⟩:=hf p.1 hb
  obtain⟨o,e',d⟩:=ho p.1 hb
  rw[e] at e';cases e'
  exact⟨e,f0,f1,f2,d⟩
theorem Inv.uE{pins pl:List (Addr×Obj)}{σ:St}{H:Hp}{s:Shared}(I:Inv X (pins++pl) σ H s):Inv X pins σ H s:=I.yD fun p hp=>I.pin p (List.mem_append_right _ (List.mem_append_left _ hp))
theorem cE{iter:Expr}{body:List Stmt}{wi:TI}{g:TG}{tb:TS}{pos:Pos}(hp:PassesOwn (model X.prog X.w) X.A X.env X.xe)(hc:X.calm=true)(hi:PI X tg iter wi)(hg:PG X tg g)(hb:PSs X body tb)
  (hs:∀x,foldedSetIterable iter X.env x=pure x:=by intro _;rfl):PS X (.For tg iter body [] pos) (aJy wi g tb):=by
 intro pins s σ H D I h
 refine wpAny_For (cK (hi pins s σ H _ I h) fun v s1 h1=>cK h1 fun itv s2 h2=>?_) hs
 obtain⟨it,fp,tn,J,H2,e,I2,T,st2,f2,W,⟨m0,w0⟩,turn⟩:=h2
 subst e
 have stat:∀{H':Hp},(∀b∈fp,H' b=none)->∀b∈fp,vY X pins H' b:=fun hn b hb=>⟨hn b hb,(f2 b hb).2⟩
 refine codeAny_forLoop_any (fun n s'=>∃i σ' H',Inv X pins σ' H' s'/\tn i s'.heap/\(∀b∈fp,H' b=none)/\W i n σ' H') ?_ m0 ⟨0,σ,H2,I2,st2,fun b hb=>(f2 b hb).1,w0⟩
 rintro n s3 ⟨i,σ3,H3,I3,st3,fr3,w3⟩
 rcases turn i n σ3 H3 w3 with ⟨stop,qn⟩|⟨go,N,hN,step⟩
 ·refine wpAny_passesOwn hp (cK (T.done X rfl rfl rfl hc i pins s3 σ3 H3 X.xe I3 (stat fr3) st3 stop) fun r s4 ⟨hr,I4⟩=>?_)
  subst hr
  exact wpAny_execs_nil ⟨σ3,H3,I4,qn⟩
 ·refine wpAny_passesOwn hp (cK (T.item X rfl rfl rfl hc i pins s3 σ3 H3 X.xe I3 (stat fr3) st3 go) fun r s4 ⟨u,hr,h4⟩=>?_)
  subst hr
  refine wpAny_passesOwn hp (cK h4 fun _ s5 ⟨x,H5,I5,r5,y5,st5,fr5⟩=>?_)
  have I5':=I5.pinned (stat fr5) (T.obj _ _ st5)
  refine wpAny_passesOwn hp (cK (hg _ s5 σ3 H5 x u _ I5' r5 (step x H5 y5)) fun _ s6 ⟨σ6,H6,I6,q6⟩=>?_)
  refine wpAny_passesOwn hp (cK (hb _ s6 σ6 H6 _ I6 q6) fun f s7 q7=>?_)
  have again:∀{σ7:St} {H7:Hp},Inv X (pins++yV fp s5.heap) σ7 H7 s7->N σ7 H7->∃m,m < n/\∃i σ' H',Inv X pins σ' H' s7/\tn i s7.heap/\(∀b∈fp,H' b=none)/\W i m σ' H':=fun {σ7 H7} I7 n7=>by
   obtain⟨m',hm,w7⟩:=hN σ7 H7 n7
   refine⟨m',hm,i+1,σ7,H7,I7.uE,T.keep _ _ _ st5 fun b hb o e=>(I7.pin (b,o) (List.mem_append_right _ (List.mem_append_right _ (oF hb e)))).1,fun b hb=>?_,w7⟩
   obtain⟨o,e,d⟩:=T.obj _ _ st5 b hb
   exact(I7.pin (b,o) (List.mem_append_right _ (List.mem_append_right _ (oF hb e)))).2.1
  cases f with
  |next=>obtain⟨σ7,H7,I7,n7⟩:=q7;exact again I7 n7
  |cont=>obtain⟨σ7,H7,I7,n7⟩:=q7;exact again I7 n7
  |brk=>obtain⟨σ7,H7,I7,q7⟩:=q7;exact⟨σ7,H7,I7.uE,q7⟩
  |ret v=>obtain⟨x7,σ7,H7,I7,r7,q7⟩:=q7;exact⟨x7,σ7,H7,I7.uE,r7,q7⟩
end
theorem aF4{K:W.Frag}{a:Addr}{xs:List V}{g:TG}{tb:TS}{D:Ends}{σ:St}{H:Hp}(Pv:Nat->St->Hp->Prop)(h0:Pv 0 σ H)(hl:∀i σ H,i<=xs.length->Pv i σ H->bQ K H a xs)
  (hs:∀i x σ H,xs[i]?=some x->Pv i σ H->g x σ H fun σ2 H2=>tb { D with nx:=Pv (i+1),ct:=Pv (i+1),bk:=D.nx } σ2 H2) (hd:∀σ H,Pv xs.length σ H->D.nx σ H) :
  ∃W:Nat->Nat->St->Hp->Prop,(∃m,W 0 m σ H)/\∀i m σ H,W i m σ H->
   ((Itl K a).stop i H/\D.nx σ H)\/((Itl K a).go i H/\∃N:St->Hp->Prop,(∀σ' H',N σ' H'->∃m',m' < m/\W (i+1) m' σ' H')/\∀x H',(Itl K a).yld i H x H'->g x σ H' fun σ2 H2=>tb { D with nx:=N,ct:=N,bk:=D.nx } σ2 H2):=by
 refine⟨fun i m σ H=>m=xs.length - i/\i<=xs.length/\Pv i σ H,⟨xs.length,by simp,Nat.zero_le _,h0⟩,?_⟩
 rintro i m σ H ⟨rfl,hi,p⟩
 have q:=hl i σ H hi p
 by_cases hlt:i < xs.length
 ·refine .inr ⟨⟨xs,xs[i],q,by simp[hlt]⟩,Pv (i+1),fun σ' H' p'=>⟨xs.length - (i+1),by omega,rfl,hlt,p'⟩,fun x H' y=>?_⟩
  obtain⟨e,y⟩:=y
  subst e
  exact hs i x σ _ (y xs q) p
 ·have e:i=xs.length:=by omega
  subst e
  exact .inl ⟨⟨xs,q,Nat.le_refl _⟩,hd σ H p⟩
theorem aHO{K:W.Frag}{a:Addr}{xs:List V}{g:TG}{tb:TS}{D:Ends}{σ:St}{H:Hp}(Pv:Nat->St->Hp->Prop)(h0:Pv 0 σ H)(hl:∀i σ H,i<=xs.length->Pv i σ H->lJ K H a xs)
  (hs:∀i x σ H,xs[i]?=some x->Pv i σ H->g x σ H fun σ2 H2=>tb { D with nx:=Pv (i+1),ct:=Pv (i+1),bk:=D.nx } σ2 H2) (hd:∀σ H,Pv xs.length σ H->D.nx σ H) :
  ∃W:Nat->Nat->St->Hp->Prop,(∃m,W 0 m σ H)/\∀i m σ H,W i m σ H->
   ((Itt K a).stop i H/\D.nx σ H)\/((Itt K a).go i H/\∃N:St->Hp->Prop,(∀σ' H',N σ' H'->∃m',m' < m/\W (i+1) m' σ' H')/\∀x H',(Itt K a).yld i H x H'->g x σ H' fun σ2 H2=>tb { D with nx:=N,ct:=N,bk:=D.nx } σ2 H2):=by
 refine⟨fun i m σ H=>m=xs.length - i/\i<=xs.length/\Pv i σ H,⟨xs.length,by simp,Nat.zero_le _,h0⟩,?_⟩
 rintro i m σ H ⟨rfl,hi,p⟩
 have q:=hl i σ H hi p
 by_cases hlt:i < xs.length
 ·refine .inr ⟨⟨xs,xs[i],q,by simp[hlt]⟩,Pv (i+1),fun σ' H' p'=>⟨xs.length - (i+1),by omega,rfl,hlt,p'⟩,fun x H' y=>?_⟩
  obtain⟨e,y⟩:=y
  subst e
  exact hs i x σ _ (y xs q) p
 ·have e:i=xs.length:=by omega
  subst e
  exact .inl ⟨⟨xs,q,Nat.le_refl _⟩,hd σ H p⟩
theorem aFi{lo:Int}{n:Nat}{g:TG}{tb:TS}{D:Ends}{σ:St}{H:Hp}(Pv:Nat->St->Hp->Prop)(h0:Pv 0 σ H)
  (hs:∀i σ H,i < n->Pv i σ H->g (.int (lo+i)) σ H fun σ2 H2=>tb { D with nx:=Pv (i+1),ct:=Pv (i+1),bk:=D.nx } σ2 H2) (hd:∀σ H,Pv n σ H->D.nx σ H) :
  ∃W:Nat->Nat->St->Hp->Prop,(∃m,W 0 m σ H)/\∀i m σ H,W i m σ H->
   ((Itr lo n).stop i H/\D.nx σ H)\/((Itr lo n).go i H/\∃N:St->Hp->Prop,(∀σ' H',N σ' H'->∃m',m' < m/\W (i+1) m' σ' H')/\∀x H',(Itr lo n).yld i H x H'->g x σ H' fun σ2 H2=>tb { D with nx:=N,ct:=N,bk:=D.nx } σ2 H2):=by
 refine⟨fun i m σ H=>m=n - i/\i<=n/\Pv i σ H,⟨n,by simp,Nat.zero_le _,h0⟩,?_⟩
 rintro i m σ H ⟨rfl,hi,p⟩
 by_cases hlt:i < n
 ·refine .inr ⟨hlt,Pv (i+1),fun σ' H' p'=>⟨n - (i+1),by omega,rfl,hlt,p'⟩,fun x H' y=>?_⟩
  obtain⟨e,y⟩:=y
  subst e y
  exact hs i σ _ hlt p
 ·have e:i=n:=by omega
  subst e
  exact .inl ⟨Nat.le_refl _,hd σ H p⟩
end L2
namespace L2
open PySem PySem.Spec PyProof.Rows
abbrev R2:=V->V->Hp->VK->Prop
def pT(X:Cx)(f:Value->Value->Sem Value)(r:R2):Prop:=
 ∀(pins:List (Addr×Obj)) (s:Shared) (σ:St) (H:Hp) (x y:V) (v u:Value) (Q:VK),Inv X pins σ H s->RelV x v->RelV y u->r x y H Q->
  wpAny (model X.prog X.w) X.A (f v u) (EP X pins σ Q) X.xe s
def UnR(X:Cx)(f:Value->Sem Value)(r:V->Hp->VK->Prop):Prop:=
 ∀(pins:List (Addr×Obj)) (s:Shared) (σ:St) (H:Hp) (x:V) (v:Value) (Q:VK),Inv X pins σ H s->RelV x v->r x H Q->
  wpAny (model X.prog X.w) X.A (f v) (EP X pins σ Q) X.xe s
def d9(X:Cx)(f:Value)(r:List V->Hp->VK->Prop):Prop:=
 ∀(pins:List (Addr×Obj)) (s:Shared) (σ:St) (H:Hp) (xs:List V) (us:List Value) (Q:VK),Inv X pins σ H s->Vals xs us->r xs H Q->
  wpAny (model X.prog X.w) X.A (call f us) (EP X pins σ Q) X.xe s
def tOp(r:R2)(ta tb:TE):TE:=fun σ H Q=>ta σ H fun x H1=>tb σ H1 fun y H2=>r x y H2 Q
def tUn(r:V->Hp->VK->Prop)(ta:TE):TE:=fun σ H Q=>ta σ H fun x H1=>r x H1 Q
def rI(C:Int->Int->Prop)(g:Int->Int->V):R2:=fun x y H Q=>∃i j,x=.int i/\y=.int j/\C i j/\Q (g i j) H
def rI0(g:Int->Int->V):R2:=fun x y H Q=>∃i j,x=.int i/\y=.int j/\Q (g i j) H
def rU(g:Int->V):V->Hp->VK->Prop:=fun x H Q=>∃i,x=.int i/\Q (g i) H
section
variable{X:Cx}{a b c:Expr}{ta tb tc:TE}{pos:Pos}
theorem aJz(ha:PE X a ta)(hb:PE X b tb){pins:List (Addr×Obj)}{s:Shared}{σ:St}{H:Hp}{R:V->V->Hp->Prop}(I:Inv X pins σ H s)
  (h:ta σ H fun x H1=>tb σ H1 fun y H2=>R x y H2) {Q:Value->Shared->Prop} {f:Value->Value->Sem Value}
  (hf:∀v u s2 x y H2,Inv X pins σ H2 s2->RelV x v->RelV y u->R x y H2->wpAny (model X.prog X.w) X.A (f v u) Q X.xe s2) :
  wpAny (model X.prog X.w) X.A (eval a X.env) (fun v s₁=>wpAny (model X.prog X.w) X.A (eval b X.env) (fun u s₂=>wpAny (model X.prog X.w) X.A (f v u) Q X.xe s₂) X.xe s₁) X.xe s:=by
 refine cK (ha pins s σ H _ I h) fun v s1 ⟨x,H1,I1,r1,q1⟩=>?_
 refine cK (hb pins s1 σ H1 _ I1 q1) fun u s2 ⟨y,H2,I2,r2,q2⟩=>?_
 exact hf v u s2 x y H2 I2 r1 r2 q2
theorem aN{op:Operator}{r:R2}(ho:pT X (binaryOp op) r)(ha:PE X a ta)(hb:PE X b tb):PE X (.BinOp a op b pos) (tOp r ta tb):=by
 intro pins s σ H Q I h
 exact wpAny_BinOp (aJz ha hb I h fun v u s2 x y H2 I2 rx ry q=>ho pins s2 σ H2 x y v u Q I2 rx ry q)
theorem sS{op:UnaryOp}{r:V->Hp->VK->Prop}(ho:UnR X (unaryOp op) r)(ha:PE X a ta):PE X (.UnaryOp op a pos) (tUn r ta):=by
 intro pins s σ H Q I h
 exact UnaryOp_ (cK (ha pins s σ H _ I h) fun v s1 ⟨x,H1,I1,r1,q1⟩=>ho pins s1 σ H1 x v Q I1 r1 q1)
theorem opI{f:Value->Value->Sem Value}{C:Int->Int->Prop}{g:Int->Int->Int}
  (rule:∀(i j:Int) (t u:Tok) (s:Shared) (Q:Value->Shared->Prop) (E:Value->Shared->Prop),C i j->Q (.int (g i j) s.toks) { s with toks:=s.toks+1 }->wpAny (model X.prog X.w) X.A (f (.int i t) (.int j u)) Q E s) :
  pT X f (rI C fun i j=>.int (g i j)):=by
 intro pins s σ H x y v u Q I rx ry h
 obtain⟨i,j,rfl,rfl,hc,q⟩:=h
 obtain⟨t,rfl⟩:=rx
 obtain⟨t',rfl⟩:=ry
 exact rule i j t t' s _ _ hc ⟨.int (g i j),H,I.tok _,⟨_,rfl⟩,q⟩
theorem aKX{f:Value->Value->Sem Value}{g:Int->Int->Int}
  (rule:∀(i j:Int) (t u:Tok) (s:Shared) (Q:Value->Shared->Prop) (E:Value->Shared->Prop),Q (.int (g i j) s.toks) { s with toks:=s.toks+1 }->wpAny (model X.prog X.w) X.A (f (.int i t) (.int j u)) Q E s) :
  pT X f (rI0 fun i j=>.int (g i j)):=by
 intro pins s σ H x y v u Q I rx ry h
 obtain⟨i,j,rfl,rfl,q⟩:=h
 obtain⟨t,rfl⟩:=rx
 obtain⟨t',rfl⟩:=ry
 exact rule i j t t' s _ _ ⟨.int (g i j),H,I.tok _,⟨_,rfl⟩,q⟩
theorem aHP{f:Value->Value->Sem Value}{g:Int->Int->Bool}
  (rule:∀(i j:Int) (t u:Tok) (s:Shared) (Q:Value->Shared->Prop) (E:Value->Shared->Prop),Q (.bool (g i j)) s->wpAny (model X.prog X.w) X.A (f (.int i t) (.int j u)) Q E s) :
  pT X f (rI0 fun i j=>.bl (g i j)):=by
 intro pins s σ H x y v u Q I rx ry h
 obtain⟨i,j,rfl,rfl,q⟩:=h
 obtain⟨t,rfl⟩:=rx
 obtain⟨t',rfl⟩:=ry
 exact rule i j t t' s _ _ ⟨.bl (g i j),H,I,rfl,q⟩
def aLN(i j:Int):Prop:=0 < j/\j < 1073741824
def aLO(i j:Int):Prop:=0<=j/\j<=1000000/\i.natAbs < 2 ^ 64
def aF5(i j:Int):Prop:=(-(2 ^ 64) < i/\i < 2 ^ 64)\/(-(2 ^ 64) < j/\j < 2 ^ 64)
theorem aF5.ok{i j:Int}(h:aF5 i j):IntMulOk i j:=by
 rcases h with ⟨h1,h2⟩|⟨h1,h2⟩
 ·exact .of_left (intBits_le_64 h1 h2)
 ·exact .of_right (intBits_le_64 h1 h2)
theorem aJA:pT X (binaryOp .Add) (rI0 fun i j=>.int (i+j)):=aKX fun _ _ _ _ _ _ _ q=>add_int q
theorem gG:pT X (binaryOp .Sub) (rI0 fun i j=>.int (i - j)):=aKX fun _ _ _ _ _ _ _ q=>sub_int q
theorem aJB:pT X (binaryOp .Mult) (rI aF5 fun i j=>.int (i*j)):=opI fun _ _ _ _ _ _ _ hc q=>mul_int q hc.ok
theorem aBG:pT X (binaryOp .FloorDiv) (rI aLN fun i j=>.int (i / j)):=opI fun i j _ _ _ _ _ hc q=>by
 have h1:(0:Int) < j:=hc.1
 have h2:j < 1073741824:=hc.2
 exact floordiv_int (by omega) (by rw[Int.fdiv_eq_ediv_of_nonneg i (by omega)];exact q) (.inl (PyProof.noPylong_small (by omega)))
theorem mW:pT X (binaryOp .Mod) (rI (fun _ j=>0 < j) fun i j=>.int (i % j)):=opI fun i j _ _ _ _ _ hc q=>by
 have h1:(0:Int) < j:=hc
 exact mod_int' (by omega) (by rw[Int.fmod_eq_emod_of_nonneg i (by omega)];exact q)
theorem vZ:pT X (binaryOp .Pow) (rI aLO fun i j=>.int (i ^ j.toNat)):=opI fun _ _ _ _ _ _ _ hc q=>pow_int_small hc.1 hc.2.1 hc.2.2 q
theorem unI{f:Value->Sem Value}{g:Int->Int}
  (rule:∀(i:Int) (t:Tok) (s:Shared) (Q:Value->Shared->Prop) (E:Value->Shared->Prop),Q (.int (g i) s.toks) { s with toks:=s.toks+1 }->wpAny (model X.prog X.w) X.A (f (.int i t)) Q E s) :
  UnR X f (rU fun i=>.int (g i)):=by
 intro pins s σ H x v Q I rx h
 obtain⟨i,rfl,q⟩:=h
 obtain⟨t,rfl⟩:=rx
 exact rule i t s _ _ ⟨.int (g i),H,I.tok _,⟨_,rfl⟩,q⟩
theorem pU:UnR X (unaryOp .USub) (rU fun i=>.int (-i)):=unI fun _ _ _ _ _ q=>neg_int q
end
section
variable{X:Cx}{a b c:Expr}{ta tb tc:TE}{pos:Pos}
theorem aKY:pT X (compareOp .Lt) (rI0 fun i j=>.bl (decide (i < j))):=aHP fun _ _ _ _ _ _ _ q=>lt_int q
theorem aA2:pT X (compareOp .LtE) (rI0 fun i j=>.bl (decide (i<=j))):=aHP fun _ _ _ _ _ _ _ q=>le_int q
theorem aEz:pT X (compareOp .Gt) (rI0 fun i j=>.bl (decide (j < i))):=aHP fun _ _ _ _ _ _ _ q=>gt_int q
theorem aIZ:pT X (compareOp .GtE) (rI0 fun i j=>.bl (decide (j<=i))):=aHP fun _ _ _ _ _ _ _ q=>ge_int q
theorem pT.or{f:Value->Value->Sem Value}{r r':R2}(h:pT X f r)(h':pT X f r'):pT X f (fun x y H Q=>r x y H Q\/r' x y H Q):=by
 intro pins s σ H x y v u Q I rx ry q
 rcases q with q|q
 ·exact h pins s σ H x y v u Q I rx ry q
 ·exact h' pins s σ H x y v u Q I rx ry q
theorem bN(b:Expr){op:CmpOp}(h:op≠.In:=by decide)(h2:op≠.NotIn:=by decide):behindInMarks op b=false:=by
 have e1:(op == CmpOp.In)=false:=by cases op <;> first|rfl|exact absurd rfl h
 have e2:(op == CmpOp.NotIn)=false:=by cases op <;> first|rfl|exact absurd rfl h2
 cases b <;> simp[behindInMarks,e1,e2]
theorem gB{op:CmpOp}{r:R2}(ho:pT X (compareOp op) r)(ha:PE X a ta)(hb:PE X b tb)(hm:behindInMarks op b=false):PE X (.Compare a [op] [b] pos) (tOp r ta tb):=by
 intro pins s σ H Q I h
 exact wpAny_Compare1 (aJz ha hb I h fun v u s2 x y H2 I2 rx ry q=>ho pins s2 σ H2 x y v u Q I2 rx ry q) hm
def aF6(t:TE):TT:=fun σ H Q=>t σ H fun x H'=>∃k,x=.bl k/\Q k H'
theorem bP{op:CmpOp}{r:R2}(ho:pT X (compareOp op) r)(ha:PE X a ta)(hb:PE X b tb)(hm:behindInMarks op b=false):PT X (.Compare a [op] [b] pos) (aF6 (tOp r ta tb)):=by
 intro pins s σ H Q I h
 refine wpAny_isTrue_Compare1 (cK (ha pins s σ H _ I h) fun v s1 ⟨x,H1,I1,r1,q1⟩=>cK (hb pins s1 σ H1 _ I1 q1) fun u s2 ⟨y,H2,I2,r2,q2⟩=>
  cK (ho pins s2 σ H2 x y v u _ I2 r1 r2 q2) fun c s3 ⟨z,H3,I3,r3,k,e,q3⟩=>?_) hm
 subst e
 cases r3
 exact wpAny_truthy_bool ⟨H3,I3,q3⟩
def aDF(r r':R2)(ta tb tc:TE):TE:=fun σ H Q=>ta σ H fun x H1=>tb σ H1 fun y H2=>r x y H2 fun z H3=>∃k,z=.bl k/\
 (if k=true then tc σ H3 fun w' H4=>r' y w' H4 Q else Q (.bl false) H3)
theorem uF{op op':CmpOp}{r r':R2}(ho:pT X (compareOp op) r)(ho':pT X (compareOp op') r')(ha:PE X a ta)(hb:PE X b tb)(hc:PE X c tc)
  (hm:lastMarks [op,op'] [b,c]=false:=by with_unfolding_all rfl):PE X (.Compare a [op,op'] [b,c] pos) (aDF r r' ta tb tc):=by
 intro pins s σ H Q I h
 refine Compare_chain (cK (ha pins s σ H _ I h) fun v s1 ⟨x,H1,I1,r1,q1⟩=>chain_link (cK (hb pins s1 σ H1 _ I1 q1) fun u s2 ⟨y,H2,I2,r2,q2⟩=>
  cK (ho pins s2 σ H2 x y v u _ I2 r1 r2 q2) fun d s3 ⟨z,H3,I3,r3,k,e,q3⟩=>?_)) hm
 subst e
 cases r3
 refine wpAny_truthy_bool ?_
 cases k with
 |false=>exact ite_ff ⟨.bl false,H3,I3,rfl,q3⟩
 |true=>exact ite_tt (chain_last (cK (hc pins s3 σ H3 _ I3 q3) fun w' s4 ⟨z',H4,I4,r4,q4⟩=>ho' pins s4 σ H4 y z' u w' Q I4 r2 r4 q4))
theorem v3:(sizeLine:Nat) < 2 ^ 63:=by rw[sizeLine_eq];decide
theorem vals1{x:V}{us:List Value}(r:Vals [x] us):∃u,us=[u]/\RelV x u:=by
 cases r with
 |cons r1 r2=>cases r2;exact⟨_,rfl,r1⟩
theorem vals2{x y:V}{us:List Value}(r:Vals [x,y] us):∃u w',us=[u,w']/\RelV x u/\RelV y w':=by
 cases r with
 |cons r1 r2=>
  cases r2 with
  |cons r3 r4=>cases r4;exact⟨_,_,rfl,r1,r3⟩
theorem aF7:d9 X (.builtin "abs") (fun xs H Q=>∃i,xs=[.int i]/\Q (.int (if i < 0 then -i else i)) H):=by
 intro pins s σ H xs us Q I r h
 obtain⟨i,rfl,q⟩:=h
 obtain⟨u,rfl,t,rfl⟩:=vals1 r
 exact call_abs_int fun u tk=>⟨.int (if i < 0 then -i else i),H,I.tok _,⟨_,rfl⟩,q⟩
theorem aFj(hc:X.calm=true):d9 X (.builtin "max") (fun xs H Q=>∃i j,xs=[.int i,.int j]/\Q (.int (if j > i then j else i)) H):=by
 intro pins s σ H xs us Q I r h
 obtain⟨i,j,rfl,q⟩:=h
 obtain⟨u,w',rfl,⟨t,rfl⟩,⟨t',rfl⟩⟩:=vals2 r
 refine max_two_ints (I.ok.hd hc) fun h' tk k=>⟨_,H,I.kept k,?_,q⟩
 by_cases hj:j > i
 ·rw[if_pos hj,if_pos hj];exact⟨_,rfl⟩
 ·rw[if_neg hj,if_neg hj];exact⟨_,rfl⟩
theorem aFk(hc:X.calm=true):d9 X (.builtin "min") (fun xs H Q=>∃i j,xs=[.int i,.int j]/\Q (.int (if j < i then j else i)) H):=by
 intro pins s σ H xs us Q I r h
 obtain⟨i,j,rfl,q⟩:=h
 obtain⟨u,w',rfl,⟨t,rfl⟩,⟨t',rfl⟩⟩:=vals2 r
 refine min_two_ints (I.ok.hd hc) fun h' tk k=>⟨_,H,I.kept k,?_,q⟩
 by_cases hj:j < i
 ·rw[if_pos hj,if_pos hj];exact⟨_,rfl⟩
 ·rw[if_neg hj,if_neg hj];exact⟨_,rfl⟩
def aKZ(K:W.Frag)(x:V)(H:Hp)(n:Nat):Prop:=
 match x with
 |.str y=>y.length<=sizeLine/\n=y.length
 |.byt y=>y.size<=sizeLine/\n=y.size
 |.ref p=>(∃xs,bQ K H p xs/\n=xs.length)\/∃xs,lJ K H p xs/\n=xs.length
 |_=>False
theorem aF8:d9 X (.builtin "len") (fun xs H Q=>∃x n,xs=[x]/\aKZ X.K x H n/\Q (.int n) H):=by
 intro pins s σ H xs us Q I r h
 obtain⟨x,n,rfl,e,q⟩:=h
 obtain⟨u,rfl,rx⟩:=vals1 r
 have hl:=v3
 have hs:sizeLine=16777216:=sizeLine_eq
 cases x with
 |str y=>
  obtain⟨t,rfl⟩:=rx
  obtain⟨hy,e'⟩ : y.length<=sizeLine/\n=y.length:=e
  subst e'
  exact len_str (by omega) ⟨.int _,H,I.tok _,⟨_,rfl⟩,q⟩
 |byt y=>
  obtain⟨t,rfl⟩:=rx
  obtain⟨hy,e'⟩ : y.size<=sizeLine/\n=y.size:=e
  subst e'
  exact PySem.W.len_bytes (by omega) ⟨.int _,H,I.tok _,⟨_,rfl⟩,q⟩
 |ref p=>
  cases rx
  have e':(∃xs,bQ X.K H p xs/\n=xs.length)\/∃xs,lJ X.K H p xs/\n=xs.length:=e
  rcases e' with ⟨xs,hx,e'⟩|⟨xs,hx,e'⟩
  ·subst e'
   obtain⟨its,r',pl,hz⟩:=I.list hx
   have hlen:=r'.length
   exact Calls.call_len_list pl.isList (by simp only[List.size_toArray];omega) ⟨.int xs.length,H,I.tok _,⟨_,by simp only[List.size_toArray];rw[hlen]⟩,q⟩
  ·subst e'
   obtain⟨its,r',pl,hz⟩:=I.tuple hx
   have hlen:=r'.length
   exact len_tuple pl (by simp only[List.size_toArray];omega) ⟨.int xs.length,H,I.tok _,⟨_,by simp only[List.size_toArray];rw[hlen]⟩,q⟩
 |_=>exact(show False from e).elim
end
end L2
namespace L2
open PySem PySem.Spec PyProof.Rows
structure aDG(h:Heap)(x dx C:Addr)(mA:Str->Option Value):Prop where
 obj:h.get? x=some (PySem.W.instObj C dx)
 ns:h.Ns1 dx mA
 ne:dx≠x
theorem aFl{h:Heap}{dx:Addr}{mA:Str->Option Value}(n:h.Ns1 dx mA):∃od,h.get? dx=some od/\∀name,PySem.W.lookIn name od=some (mA name):=by
 obtain⟨o,es,ep,ho,hd,hk,_,hm⟩:=n
 refine⟨o,ho,fun name=>?_⟩
 have e:=hm name
 unfold nsFind findBy at e
 rw[<-Array.find?_toList] at e
 unfold PySem.W.lookIn
 rw[hd]
 dsimp only
 split
 ·rename_i y q
  rw[q] at e
  exact congrArg some e
 ·rename_i q
  rw[q] at e
  have a:es.toList.any (·.refKey)=false:=by
   rw[List.any_eq_false]
   intro y hy
   obtain⟨z,t,hkey⟩:=hk y (Array.mem_toList_iff.mp hy)
   simp[DictEntry.refKey,hkey]
  have a':¬es.toList.any (·.refKey)=true:=by rw[a];exact Bool.false_ne_true
  rw[if_neg a']
  exact congrArg some e
theorem aDG.look{h:Heap}{x dx C:Addr}{mA:Str->Option Value}(I:aDG h x dx C mA):∃od,PySem.W.InstAt h x (PySem.W.instObj C dx) C (some od)/\∀name,PySem.W.lookIn name od=some (mA name):=
 let ⟨od,ho,hl⟩:=aFl I.ns
 ⟨od,⟨I.obj,rfl,rfl,ho⟩,hl⟩
section
variable{prog:Program}{w:World}{A:Around}{E:Value->Shared->Prop}{s:Shared}{K:W.Frag}{x dx C f:Addr}{mA:Str->Option Value}{name:Str}{v:Value}
theorem get_map{expr:Bool}{Q:Value->Shared->Prop}(X:K.In s.heap)(I:aDG s.heap x dx C mA)(hg:PySem.W.plainGet K C name=true)(hh:PySem.W.hasDictIn K C=true)
  (ha:W.findIn K (.ref C) name=some none) (hv:mA name=some v) (hv':PySem.W.handedIn v=true) (h:Q v { s with toks:=s.toks+1 }) :
  wpAny (model prog w) A (getAttr (.ref x) name expr) Q E s:=by
 obtain⟨od,J,hl⟩:=I.look
 exact PySem.W.get_value X J (PySem.W.plainGet_of hg).1 (PySem.W.findObj_own hh ha rfl (by rw[hl,hv])) hv' h
theorem aF9{pl:Sem Bool}{Q:Value×List Value->Shared->Prop}(X:K.In s.heap)(I:aDG s.heap x dx C mA)(hg:PySem.W.plainGet K C name=true)
  (hf:W.findIn K (.ref C) name=some (some (.ref f))) (ht:PySem.W.isFn K (.ref f)=true) (hv:mA name=none) (h:Q (.ref f,[.ref x]) s) :
  wpAny (model prog w) A (getMethod (.ref x) name pl) Q E s:=by
 obtain⟨od,J,hl⟩:=I.look
 exact PySem.W.method_fn X J (PySem.W.plainGet_of hg).1 (PySem.W.plainGet_of hg).2 hf (beq_iff_eq.mp ht) (by show(PySem.W.lookIn name od).map (·.isSome)=some false;rw[hl,hv];rfl) h
theorem aHQ{ns:List Str}{Q:Unit->Shared->Prop}(X:K.In s.heap)(I:aDG s.heap x dx C mA)
  (hs:PySem.W.findIn K (.ref C) "__setattr__" = some (some (.builtin "object.__setattr__"))) (hp:PySem.W.plainOver K C=true) (ht:PySem.W.takerIn K C name=some none) (hh:PySem.W.hasDictIn K C=true)
  (hw:PySem.Within mA ns) (hsz:ns.length<=sizeLine)
  (h:∀h',aDG h' x dx C (fun y=>if y=name then some v else mA y)->Heap.SameBut dx s.heap h'->Q () { s with heap:=h',toks:=s.toks+2 }) :
  wpAny (model prog w) A (setAttr (.ref x) name v) Q E s:=by
 obtain⟨od,J,hl⟩:=I.look
 refine PySem.W.set_plain X J hs (PySem.W.osa_open (s:={ s with toks:=s.toks+1 }) (r:=none) X J hp ht fun b=>?_)
 obtain⟨cd,hc,hd'⟩:=PySem.W.any_some hh
 have hx:s.heap.get? x=some ⟨.ref C,some dx,.plain,#[]⟩:=I.obj
 refine wpAny_bind (wpAny_pure (wpAny_bind (wpAny_bind (wpAny_loadPart hx (wpAny_bind (PySem.W.Looks.here (s:={ s with toks:=s.toks+1 }) (PySem.W.looks_clsIn X hc) ?_))))))
 rw[hd']
 refine wpAny_pure (a:=some dx) (wpAny_bind (wpAny_pure (wpAny_bind ?_)))
 refine wpAny_nsSet1 (s:={ s with toks:=s.toks+1 }) I.ns fun h' hn2 hs2=>?_
 obtain⟨oD,esD,epD,hoD,hdD,hcD⟩:=hn2.count (PySem.Within.cons name v hw)
 refine wpAny_bind (wpAny_lookBehind hoD (by rw[hdD];exact pastItsLine_dict (Nat.le_trans hcD (by rw[List.length_cons];omega))) ?_)
 exact wpAny_pure (h _ ⟨(hs2.2 _ (Ne.symm I.ne)).trans I.obj,hn2,I.ne⟩ hs2)
theorem aGa{R:Result->Shared->Prop}{vs:List Value}{kw:List (Str×Value)}(X:K.In s.heap)(hm:PySem.W.makesIn K C=true)
  (hi:PySem.W.findIn K (.ref C) "__init__" = some (some (.ref f))) (hf:PySem.W.typeIn K (.ref f)=some (.type "function"))
  (h:codeAny (model prog w) (A.under (.builtin "type.__call__" ⟨.ref C::vs,kw⟩)) (.call (.ref f) ⟨.ref (s.heap.objs.size+1)::vs,kw⟩) (PySem.W.InitBack (s.heap.objs.size+1) R)
   { s with heap:=(s.heap.push PySem.W.emptyDict).push (PySem.W.instObj C s.heap.objs.size) }) :
  codeAny (model prog w) A (.call (.ref C) ⟨vs,kw⟩) R s:=by
 obtain⟨hh,g,d,t,os⟩:=s
 exact PySem.W.make_core (PySem.W.makes_of X hm) (PySem.W.looks_findIn X hi) (fun self=>PySem.W.bind_fn X self hf) (.inl rfl) h
end
def oG(f:Str)(v:V):List (Str×V)->List (Str×V)
 |[]=>[(f,v)]
 |(g,x)::r=>if g=f then (g,v)::r else (g,x)::oG f v r
theorem wM(f g:Str)(v:V):∀fs:List (Str×V),(oG f v fs).lookup g=if g=f then some v else fs.lookup g
 |[]=>by
  show List.lookup g [(f,v)]=_
  by_cases h:g=f
  ·have hb:(g == f)=true:=beq_iff_eq.mpr h
   simp only[List.lookup,hb,if_pos h]
  ·have hb:(g == f)=false:=beq_eq_false_iff_ne.mpr h
   simp only[List.lookup,hb,if_neg h]
 |(k,x)::r=>by
  have ih:=wM f g v r
  rw[show oG f v ((k,x)::r)=(if k=f then (k,v)::r else (k,x)::oG f v r) from rfl]
  by_cases hk:k=f
  ·rw[if_pos hk]
   by_cases h:g=k
   ·have hb:(g == k)=true:=beq_iff_eq.mpr h
    simp only[List.lookup,hb,if_pos (h.trans hk)]
   ·have hb:(g == k)=false:=beq_eq_false_iff_ne.mpr h
    simp only[List.lookup,hb,if_neg (fun e:g=f=>h (e.trans hk.symm))]
  ·rw[if_neg hk]
   by_cases h:g=k
   ·have hb:(g == k)=true:=beq_iff_eq.mpr h
    simp only[List.lookup,hb,if_neg (fun e:g=f=>hk (h.symm.trans e))]
   ·have hb:(g == k)=false:=beq_eq_false_iff_ne.mpr h
    simp only[List.lookup,hb]
    exact ih
theorem v5(f:Str)(v:V):∀fs:List (Str×V),f∈(oG f v fs).map (·.1)/\∀g,g∈fs.map (·.1)->g∈(oG f v fs).map (·.1)
 |[]=>⟨by simp[oG],fun g h=>by simp at h⟩
 |(k,x)::r=>by
  obtain⟨i1,i2⟩:=v5 f v r
  rw[show oG f v ((k,x)::r)=(if k=f then (k,v)::r else (k,x)::oG f v r) from rfl]
  by_cases hk:k=f
  ·rw[if_pos hk]
   subst hk
   exact⟨by simp,fun g h=>by simpa using h⟩
  ·rw[if_neg hk]
   refine⟨?_,fun g h=>?_⟩
   ·rw[List.map_cons]
    exact List.mem_cons_of_mem _ i1
   ·rw[List.map_cons] at h ⊢
    rcases List.mem_cons.mp h with e|e
    ·exact List.mem_cons.mpr (.inl e)
    ·exact List.mem_cons_of_mem _ (i2 g e)
theorem wN(f:Str)(v:V):∀fs:List (Str×V),(oG f v fs).length<=fs.length+1
 |[]=>by simp[oG]
 |(k,x)::r=>by
  have ih:=wN f v r
  rw[show oG f v ((k,x)::r)=(if k=f then (k,v)::r else (k,x)::oG f v r) from rfl]
  by_cases hk:k=f
  ·rw[if_pos hk,List.length_cons,List.length_cons];omega
  ·rw[if_neg hk,List.length_cons,List.length_cons];omega
theorem pK.some_of{v:V}{o:Option Value}(r:pK (some v) o):∃u,o=some u/\RelV v u:=by
 cases o with
 |none=>exact(show False from r).elim
 |some u=>exact⟨u,rfl,r⟩
theorem pK.none_of{o:Option Value}(r:pK none o):o=none:=by
 cases o with
 |none=>rfl
 |some u=>exact(show False from r).elim
theorem aFm{v:V}{u:Value}(r:RelV v u):PySem.W.handedIn u=true:=by
 cases v with
 |non=>cases (show u=Value.none from r);rfl
 |bl b=>cases (show u=Value.bool b from r);rfl
 |int i=>obtain⟨t,e⟩:=(show ∃t,u=Value.int i t from r);cases e;rfl
 |str x=>obtain⟨t,e⟩:=(show ∃t,u=Value.str x t from r);cases e;rfl
 |byt b=>obtain⟨t,e⟩:=(show ∃t,u=Value.bytes b t from r);cases e;rfl
 |flt b=>obtain⟨t,e⟩:=(show ∃t,u=Value.float b t from r);cases e;rfl
 |ref a=>cases (show u=Value.ref a from r);rfl
 |ty n=>cases (show u=Value.type n from r);rfl
section
variable{P:Program}{w:World}{H H':Hp}{h h':Heap}{a C dx:Addr}{fs fs':List (Str×V)}
theorem jX(hok:pM P w H h)(e:H a=some (.ins C dx fs)):∃mA,aDG h a dx C mA/\(∀f,pK (fs.lookup f) (mA f))/\PySem.Within mA (fs.map (·.1))/\fs.length<=1000/\H dx=some (.own a):=by
 obtain⟨d,z,ne,ob,mA,n,r,q⟩:=(show bJ P w H h a (.ins C dx fs) from hok a _ e)
 exact⟨mA,⟨ob,n,ne⟩,r,q,z,d⟩
end
structure Cls(K:W.Frag)(C:Addr):Prop where
 pg:PySem.W.plainGet K C Str.empty=true
 hd:PySem.W.hasDictIn K C=true
 po:PySem.W.plainOver K C=true
 sa:PySem.W.findIn K (.ref C) "__setattr__" = some (some (.builtin "object.__setattr__"))
theorem Cls.get{K:W.Frag}{C:Addr}(c:Cls K C)(f:Str):PySem.W.plainGet K C f=true:=c.pg
def dU(K:W.Frag)(C:Addr)(f:Str):Prop:=W.findIn K (.ref C) f=some none
theorem dU.aK0{K:W.Frag}{C:Addr}{f:Str}(n:dU K C f):PySem.W.takerIn K C f=some none:=by
 unfold PySem.W.takerIn
 rw[show W.findIn K (.ref C) f=some none from n]
 rfl
structure Meth(K:W.Frag)(C:Addr)(m:Str)(f:Addr):Prop where
 at_:W.findIn K (.ref C) m=some (some (.ref f))
 fn:PySem.W.isFn K (.ref f)=true
 kp:W.keepIn K (.ref f)=true
section
variable{X:Cx}{pins:List (Addr×Obj)}{σ:St}{H:Hp}{s:Shared}{a C dx:Addr}{fs:List (Str×V)}{f:Str}{v:V}{A:Around}{E:Value->Shared->Prop}
theorem aDH{b:Bool}{Q:Value->Shared->Prop}(I:Inv X pins σ H s)(e:H a=some (.ins C dx fs))(c:Cls X.K C)(n:dU X.K C f)(l:fs.lookup f=some v)
  (h:∀u s',Inv X pins σ H s'->RelV v u->Q u s'):wpAny (model X.prog X.w) A (getAttr (.ref a) f b) Q E s:=by
 obtain⟨mA,O,r,_,_,_⟩:=jX I.hok e
 obtain⟨u,hu,ru⟩:=pK.some_of (v:=v) (o:=mA f) (by rw[<-l];exact r f)
 exact get_map I.pG O (c.get f) c.hd n hu (aFm ru) (h u _ (I.tok _) ru)
theorem aDI{m:Str}{g:Addr}{pl:Sem Bool}{Q:Value×List Value->Shared->Prop}(I:Inv X pins σ H s)(e:H a=some (.ins C dx fs))(c:Cls X.K C)(k:Meth X.K C m g)(l:fs.lookup m=none)
  (h:Q (.ref g,[.ref a]) s):wpAny (model X.prog X.w) A (getMethod (.ref a) m pl) Q E s:=by
 obtain⟨mA,O,r,_,_,_⟩:=jX I.hok e
 have hn:mA m=none:=pK.none_of (by rw[<-l];exact r m)
 exact aF9 I.pG O (c.get m) k.at_ k.fn hn h
theorem aDJ{y:V}{u:Value}{Q:Unit->Shared->Prop}(I:Inv X pins σ H s)(e:H a=some (.ins C dx fs))(c:Cls X.K C)(n:dU X.K C f)(hl:fs.length < 1000)(ry:RelV y u)
  (h:∀s',Inv X pins σ (upd H a (.ins C dx (oG f y fs))) s'->Q () s'):wpAny (model X.prog X.w) A (setAttr (.ref a) f u) Q E s:=by
 obtain⟨mA,O,r,wi,_,ho⟩:=jX I.hok e
 have hz:(fs.map (·.1)).length<=sizeLine:=by rw[List.length_map,sizeLine_eq];omega
 refine aHQ I.pG O c.sa c.po n.aK0 c.hd wi hz fun h' O' sb=>h _ ?_
 have hd:∃o,h'.get? dx=some o:=let ⟨o,_,_,e',_⟩:=O'.ns;⟨o,e'⟩
 refine I.write (x:=a) (e:=dx) (by rw[e];exact True.intro) (.inr ho) (fun b q hb z=>(sb.2 b hb).trans z) hd ?_
 refine⟨by rw[aL O.ne];exact ho,?_,O.ne,O'.obj,_,O'.ns,fun g=>?_,fun g hg=>?_⟩
 ·have:=wN f y fs;omega
 ·show pK ((oG f y fs).lookup g) (if g=f then some u else mA g)
  rw[wM]
  by_cases q:g=f
  ·rw[if_pos q,if_pos q];exact ry
  ·rw[if_neg q,if_neg q];exact r g
 ·by_cases q:g=f
  ·rw[q];exact(v5 f y fs).1
  ·refine(v5 f y fs).2 g (wi g fun z=>hg ?_)
   show(if g=f then some u else mA g)=none
   rw[if_neg q];exact z
theorem Inv.made(I:Inv X pins σ H s):Inv X pins σ (upd (upd H s.heap.objs.size (.own (s.heap.objs.size+1))) (s.heap.objs.size+1) (.ins C s.heap.objs.size []))
  { s with heap:=(s.heap.push PySem.W.emptyDict).push (PySem.W.instObj C s.heap.objs.size) }:=by
 have e1:(s.heap.push PySem.W.emptyDict).get? s.heap.objs.size=some PySem.W.emptyDict:=Heap.get?_push_size s.heap rfl
 have e2:((s.heap.push PySem.W.emptyDict).push (PySem.W.instObj C s.heap.objs.size)).get? (s.heap.objs.size+1)=some (PySem.W.instObj C s.heap.objs.size):=by
  have:=Heap.get?_push_size (s.heap.push PySem.W.emptyDict) (o:=PySem.W.instObj C s.heap.objs.size) rfl
  rwa[Heap.size_push] at this
 have e3:(s.heap.push PySem.W.emptyDict).Ns s.heap.objs.size (fun _=>none):=⟨PySem.W.emptyDict,#[],_,e1,rfl,(fun e he=>absurd he (by simp)),fun _=>rfl⟩
 have I1:=I.laid (a:=s.heap.objs.size) (o:=.own (s.heap.objs.size+1)) (h':=s.heap.push PySem.W.emptyDict) (t':=s.toks) (fun b u q=>Heap.get?_push_of_some _ q) (Nat.le_refl _) ⟨_,e1⟩
 refine I1.laid (a:=s.heap.objs.size+1) (o:=.ins C s.heap.objs.size []) (t':=s.toks) (fun b u q=>Heap.get?_push_of_some _ q) (Nat.le_of_eq (Heap.size_push _ _)) ?_
 have ne:s.heap.objs.size≠s.heap.objs.size+1:=Nat.ne_of_lt (Nat.lt_succ_self _)
 refine⟨by rw[aL ne,aH],Nat.zero_le _,ne,e2,fun _=>none,(Heap.Ns1.of_empty e3).at fun o q=>Heap.get?_push_of_some _ q,fun _=>True.intro,fun y hy=>absurd rfl hy⟩
theorem aHR{prog:Program}{w:World}{env:Env}{e:Expr}{f:Str}{pos:Pos}{s:Shared}{Q:Value->Shared->Prop}(hb:attributeBase e f env (eval e env)=eval e env)
  (h:wpAny (model prog w) A (eval e env) (fun o s₁=>wpAny (model prog w) A (getAttr o f true) Q E s₁) E s):wpAny (model prog w) A (eval (.Attribute e f pos) env) Q E s:=
 Attribute_any_ h (by rw[arm_eval_Attribute,hb])
end
def aJC(K:W.Frag)(ta:TE)(f:Str):TE:=fun σ H Q=>ta σ H fun x H1=>∃a C dx fs v,x=.ref a/\H1 a=some (.ins C dx fs)/\Cls K C/\dU K C f/\fs.lookup f=some v/\Q v H1
def aJD(K:W.Frag)(ta tv:TE)(f:Str):TS:=fun D σ H=>tv σ H fun y H1=>ta σ H1 fun x H2=>∃a C dx fs,x=.ref a/\H2 a=some (.ins C dx fs)/\Cls K C/\dU K C f/\fs.length < 1000/\
 D.nx σ (upd H2 a (.ins C dx (oG f y fs)))
section
variable{X:Cx}{o e value:Expr}{f:Str}{pos pos' tpos:Pos}{ta tv:TE}
theorem aJE(he:PE X e ta)(hb:attributeBase e f X.env (eval e X.env)=eval e X.env):PE X (.Attribute e f pos) (aJC X.K ta f):=by
 intro pins s σ H Q I h
 refine aHR hb (cK (he pins s σ H _ I h) fun u s1 ⟨x,H1,I1,rx,a,C,dx,fs,v,ex,ea,c,n,l,q⟩=>?_)
 subst ex
 obtain rfl:u=Value.ref a:=rx
 exact aDH I1 ea c n l fun u' s2 I2 ru=>⟨v,H1,I2,ru,q⟩
theorem aJF(ha:PE X o ta)(hv:PE X value tv)(hs:swapsWith value (some (.Attribute o f pos')) pos.line X.env=pure false):PS X (.Assign [.Attribute o f pos'] value pos) (aJD X.K ta tv f):=by
 intro pins s σ H D I h
 refine plainObj_wpAny_Assign_Attribute (cK (hv pins s σ H _ I h) fun u s1 ⟨y,H1,I1,ry,q⟩=>cK (ha pins s1 σ H1 _ I1 q) fun ov s2 ⟨x,H2,I2,rx,a,C,dx,fs,ex,ea,c,n,l,q2⟩=>?_) hs
 subst ex
 obtain rfl:ov=Value.ref a:=rx
 exact aDJ I2 ea c n l ry fun s3 I3=>⟨σ,_,I3,q2⟩
end
section
variable{X:Cx}{pins:List (Addr×Obj)}{σ:St}{H:Hp}{s:Shared}{A:Around}{E:Value->Shared->Prop}{Q:Value->Shared->Prop}{c:Value}{b:Bool}
inductive pV (K:W.Frag) (H:Hp):V->Value->Prop where
 |non:pV K H .non (.type "NoneType")
 |bl (x:Bool):pV K H (.bl x) (.type "bool")
 |int (i:Int):pV K H (.int i) (.type "int")
 |str (x:Str):pV K H (.str x) (.type "str")
 |flt (x:UInt64):pV K H (.flt x) (.type "float")
 |lst {a:Addr} {xs:List V} (e:H a=some (.lst xs)):pV K H (.ref a) (.type "list")
 |frz {a:Addr} {o:Obj} {xs:List V} (e:H a=some (.frz o (.lst xs))):pV K H (.ref a) (.type "list")
 |tup {a:Addr} {xs:List V} (e:H a=some (.tup xs)):pV K H (.ref a) (.type "tuple")
 |dK {a:Addr} {kvs:List (Key×V)} (e:H a=some (.dK kvs)):pV K H (.ref a) (.type "dict")
 |dT {a:Addr} {kvs:List (List Key×V)} (e:H a=some (.dT kvs)):pV K H (.ref a) (.type "dict")
 |ins {a C dx:Addr} {fs:List (Str×V)} (e:H a=some (.ins C dx fs)) (cl:Cls K C) (ha:PySem.W.findIn K (.ref C) "__class__" = some (some (.builtin "object.__class__")))
   (hn:PySem.W.specialIn K (.builtin "object.__class__") "__get__" = some (some (.builtin "getset_descriptor.__get__"))) (htk:PySem.W.takesIn K (.builtin "object.__class__")=some true)
   (hm:PySem.W.mroIn K C (.type "object")=some true):pV K H (.ref a) (.ref C)
theorem aA3{x:V}{u t:Value}(I:Inv X pins σ H s)(rx:RelV x u)(ty:pV X.K H x t)(e:PySem.W.kitOne X.K t c=some b)(h:∀tk,Q (.bool b) { s with toks:=tk }) :
  wpAny (model X.prog X.w) A (call (.builtin "isinstance") [u,c]) Q E s:=by
 cases ty with
 |non=>cases (show u=Value.none from rx);exact PySem.W.kia_one PySem.W.kitx_none I.pG True.intro e (fun z=>nomatch z) h
 |bl y=>cases (show u=Value.bool y from rx);exact PySem.W.kia_one PySem.W.kitx_bool I.pG True.intro e (fun z=>nomatch z) h
 |int i=>obtain⟨t,q⟩:=(show ∃t,u=Value.int i t from rx);cases q;exact PySem.W.kia_one PySem.W.kitx_int I.pG True.intro e (fun z=>nomatch z) h
 |str y=>obtain⟨t,q⟩:=(show ∃t,u=Value.str y t from rx);cases q;exact PySem.W.kia_one PySem.W.kitx_str I.pG True.intro e (fun z=>nomatch z) h
 |flt y=>obtain⟨t,q⟩:=(show ∃t,u=Value.float y t from rx);cases q;exact PySem.W.kia_one PySem.W.kitx_float I.pG True.intro e (fun z=>nomatch z) h
 |@lst a xs ea=>
  cases (show u=Value.ref a from rx)
  obtain⟨_,_,n,_,h1⟩:=(show bJ X.prog X.w H s.heap a (.lst xs) from I.hok a _ ea)
  exact PySem.W.kia_one PySem.W.kitx_list I.pG ⟨_,h1,rfl⟩ e (fun z=>nomatch z) h
 |@frz a ob xs ea=>
  cases (show u=Value.ref a from rx)
  obtain⟨_,_,_,n,_,h1⟩:=(show bJ X.prog X.w H s.heap a (.frz ob (.lst xs)) from I.hok a _ ea)
  exact PySem.W.kia_one PySem.W.kitx_list I.pG ⟨_,h1,rfl⟩ e (fun z=>nomatch z) h
 |@tup a xs ea=>
  cases (show u=Value.ref a from rx)
  obtain⟨_,_,_,p⟩:=(show bJ X.prog X.w H s.heap a (.tup xs) from I.hok a _ ea)
  obtain⟨o,h1,h2,_⟩:=p
  exact PySem.W.kia_one PySem.W.kitx_tuple I.pG ⟨o,h1,h2⟩ e (fun z=>nomatch z) h
 |@dK a kvs ea=>
  cases (show u=Value.ref a from rx)
  obtain⟨_,_,vs,_,p⟩:=(show bJ X.prog X.w H s.heap a (.dK kvs) from I.hok a _ ea)
  obtain⟨o,es,ep,h1,h2,_⟩:=p
  exact PySem.W.kia_one PySem.W.kitx_dict I.pG ⟨o,h1,h2.1⟩ e (fun z=>nomatch z) h
 |@dT a kvs ea=>
  cases (show u=Value.ref a from rx)
  obtain⟨_,_,xs,_,o,es,ep,h1,h2,_⟩:=(show bJ X.prog X.w H s.heap a (.dT kvs) from I.hok a _ ea)
  exact PySem.W.kia_one PySem.W.kitx_dict I.pG ⟨o,h1,h2.1⟩ e (fun z=>nomatch z) h
 |@ins a C dx fs ea cl ha hn htk hm=>
  cases (show u=Value.ref a from rx)
  obtain⟨mA,O,_⟩:=jX I.hok ea
  obtain⟨od,J,_⟩:=O.look
  exact PySem.W.kia_one (PySem.W.kitx_own (cl.get _) cl.hd ha hn htk hm) I.pG J e (fun z=>nomatch z) h
end
end L2
namespace L2
open PySem PySem.Spec PyProof.Rows
structure dG(k:Nat)(A:Around):Prop where
 hd:A.handled=none
 dp:A.depth+3*k+5 < recursionLimit
 un:A.units+16*k+200 < cLine
theorem dG.mono{j k:Nat}{A:Around}(r:dG k A)(h:j<=k):dG j A:=⟨r.hd,by have:=r.dp;omega,by have:=r.un;omega⟩
theorem dG.deeper{k:Nat}{A:Around}(r:dG (k+1) A)(env:Env):dG k (A.deeper env):=
 ⟨r.hd,by have:=r.dp;show A.depth+1+3*k+5 < _;omega,by have:=r.un;show A.units+3+16*k+200 < _;omega⟩
theorem aDK{A:Around}{C:Addr}{us:List Value}{kw:List (Str×Value)}:(A.under (.builtin "type.__call__" ⟨.ref C::us,kw⟩)).depth=A.depth+1:=by
 first|rfl|simp[Around.under,Code.weight,Code.isCreation,Code.isGuard,Code.isCaller,Code.frames,Code.isFrame,guardIds]
theorem aDL{A:Around}{C:Addr}{us:List Value}{kw:List (Str×Value)}:(A.under (.builtin "type.__call__" ⟨.ref C::us,kw⟩)).units=A.units+1:=by
 first|rfl|simp[Around.under,Code.cUnits,Code.frames,Code.isFrame]
theorem dG.make{k:Nat}{A:Around}(r:dG (k+1) A)(C:Addr)(us:List Value)(kw:List (Str×Value)):dG k (A.under (.builtin "type.__call__" ⟨.ref C::us,kw⟩)):=
 ⟨r.hd,by have:=r.dp;rw[aDK];omega,by have:=r.un;rw[aDL];omega⟩
theorem dG.depth{k:Nat}{A:Around}(r:dG k A):A.depth < recursionLimit:=by have:=r.dp;omega
theorem dG.units{k:Nat}{A:Around}(r:dG k A):A.units+64 < cLine:=by have:=r.un;omega
def mX:TA:=fun _ H Q=>Q [] H
def bE(ta:TE)(tr:TA):TA:=fun σ H Q=>ta σ H fun x H1=>tr σ H1 fun xs H2=>Q (x::xs) H2
section
variable{X:Cx}{e:Expr}{es:List Expr}{te:TE}{t:TA}{pos:Pos}
theorem aB:PA X [] mX:=fun _ _ _ _ H Q I h=>Calls.spliced_nil ⟨[],H,I,.nil,h⟩
theorem aHS(ha:PE X e te)(hr:PA X es t)(hs:starEach (e::es) X.env=(false,eval e X.env)::starEach es X.env:=by rfl):PA X (e::es) (bE te t):=by
 intro pos pins s σ H Q I h
 rw[hs]
 show wpAny _ _ (spliced ((false,eval e X.env)::backTo pos (starEach es X.env))) _ _ s
 refine Calls.spliced_cons (cK (ha pins s σ H _ I h) fun u s1 ⟨x,H1,I1,r1,q1⟩=>?_)
 exact cK (hr pos pins s1 σ H1 _ I1 q1) fun us s2 ⟨xs,H2,I2,r2,q2⟩=>⟨x::xs,H2,I2,.cons r1 r2,q2⟩
def aFn(t:TA):TE:=fun σ H Q=>t σ H fun xs H1=>xs.length<=sizeLine/\∀p,H1 p=none->Q (.ref p) (upd H1 p (.tup xs))
def tF(t:TA):TE:=fun σ H Q=>t σ H fun xs H1=>xs.length<=sizeLine/\∀p,H1 p=none->Q (.ref p) (upd H1 p (.lst xs))
theorem aGb{x1}(h:PA X es t):PE X (.Tuple es x1 pos) (aFn t):=by
 intro pins s σ H Q I hq
 refine wpAny_Tuple_spliced (cK (h pos pins s σ H _ I hq) fun us s1 ⟨xs,H1,I1,r,z,q⟩=>⟨by rw[<-r.length];exact z,?_⟩)
 have hf:H1 s1.heap.objs.size=none:=I1.hok.fresh (Nat.le_refl _)
 refine⟨.ref s1.heap.objs.size,upd H1 s1.heap.objs.size (.tup xs),I1.laid (t':=s1.toks) (fun b u e=>Heap.get?_push_of_some _ e) (Nat.le_refl _) ?_,rfl,q _ hf⟩
 exact⟨z,us,r,⟨_,Heap.get?_push_size _ rfl,rfl,_,rfl⟩⟩
theorem eO(h:PA X es t):PE X (.List es pos) (tF t):=by
 intro pins s σ H Q I hq
 refine wpAny_List_spliced (cK (h pos pins s σ H _ I hq) fun us s1 ⟨xs,H1,I1,r,z,q⟩=>⟨by rw[<-r.length];exact z,?_⟩)
 have hf:H1 s1.heap.objs.size=none:=I1.hok.fresh (Nat.le_refl _)
 refine⟨.ref s1.heap.objs.size,upd H1 s1.heap.objs.size (.lst xs),I1.laid (t':=s1.toks) (fun b u e=>Heap.get?_push_of_some _ e) (Nat.le_refl _) ?_,rfl,q _ hf⟩
 exact⟨z,us,0,r,Heap.get?_push_size _ rfl⟩
end
abbrev Sp:=List V->Hp->VK->XK->Prop
abbrev CXT:=List Env->Hp->Shared->XK->Value->Shared->Prop
structure aAv(P:Program)(w:World)(K:W.Frag)(mg:Str->Option Value)(base:Heap)(A:Around)(outer:List Env)(s:Shared)(H:Hp):Prop where
 frames:A.frames=some outer
 mod:Mod K mg base
 bs:∀b o,base.get? b=some o->s.heap.get? b=some o/\H b=none
 bsz:base.objs.size<=s.heap.objs.size
 sL:s.heap.FunFrames base outer
 frf:∀b∈frs outer,H b=none
 hok:pM P w H s.heap
 bare:AllBare s.gens
def CE(outer:List Env)(P:Program)(w:World)(H:Hp)(s:Shared)(Q:VK)(u:Value)(s':Shared):Prop:=
 ∃v H',s'.os=s.os/\AllBare s'.gens/\Un (frs outer) [] H H' s.heap s'.heap/\pM P w H' s'.heap/\RelV v u/\Q v H'
def CR(CX:CXT)(outer:List Env)(P:Program)(w:World)(H:Hp)(s:Shared)(Q:VK)(E:XK)(r:Result)(s':Shared):Prop:=
 match r with
 |.ok (.ret u)=>CE outer P w H s Q u s'
 |.ok _=>False
 |.error e=>CX outer H s E e s'
structure bR(P:Program)(w:World)(K:W.Frag)(mg:Str->Option Value)(base:Heap)(CX:CXT)(k:Nat)(f:Addr)(fd:FuncData)(ps:List Str)(sp:Sp):Prop where
 len:∀vs H Q E,sp vs H Q E->vs.length=ps.length
 run:∀(A:Around) (outer:List Env) (s:Shared) (H:Hp) (args:Args) (us:List Value) (vs:List V) (Q:VK) (E:XK),dG k A->aAv P w K mg base A outer s H->BindsTo s fd args (ps.zip us)->Vals vs us->sp vs H Q E->
  codeAny (model P w) A (.call (.ref f) args) (CR CX outer P w H s Q E) s
theorem bR.imp{P:Program}{w:World}{K:W.Frag}{mg:Str->Option Value}{base:Heap}{CX:CXT}{k:Nat}{f:Addr}{fd:FuncData}{ps:List Str}{sp sp':Sp}(F:bR P w K mg base CX k f fd ps sp)
  (h:∀vs H Q E,sp' vs H Q E->sp vs H Q E):bR P w K mg base CX k f fd ps sp':=
 ⟨fun vs H Q E q=>F.len vs H Q E (h _ _ _ _ q),fun A outer s H args us vs Q E hr he hb hv hs=>F.run A outer s H args us vs Q E hr he hb hv (h _ _ _ _ hs)⟩
theorem aAv.make{P:Program}{w:World}{K:W.Frag}{mg:Str->Option Value}{base:Heap}{A:Around}{outer:List Env}{s:Shared}{H:Hp}(e:aAv P w K mg base A outer s H)(C:Addr)(us:List Value)(kw:List (Str×Value)) :
  aAv P w K mg base (A.under (.builtin "type.__call__" ⟨.ref C::us,kw⟩)) outer s H:=⟨by first|exact e.frames|(simpa [Around.under,Code.envs,Code.isFrame,pushEnvs] using e.frames),e.mod,e.bs,e.bsz,e.sL,e.frf,e.hok,e.bare⟩
section
variable{X:Cx}{pins:List (Addr×Obj)}{σ:St}{H:Hp}{s s':Shared}
theorem Inv.aGc(I:Inv X pins σ H s):aAv X.prog X.w X.K X.mg X.base X.A X.stack s H:=
 ⟨I.ok.frames,I.ok.mod,I.bs,Nat.le_trans I.ok.bsz I.sz,I.stack,I.aBB,I.hok,I.bare⟩
theorem Inv.after{Q:VK}{u:Value}(I:Inv X pins σ H s)(h:CE X.stack X.prog X.w H s Q u s'):EP X pins σ Q u s':=by
 obtain⟨v,H',os,bare,un,hok,r,q⟩:=h
 obtain⟨hh,g,d,t,os'⟩:=s'
 obtain rfl:os'=s.os:=os
 exact⟨v,H',I.call (h':=hh) (g':=g) (d':=d) (t':=t) (ch:=[]) un hok bare (fun b z=>absurd z (by simp)),r,q⟩
end
def aCI(sp:Sp)(dvs:List V)(E:XK)(t:TA):TE:=fun σ H Q=>t σ H fun vs H1=>sp (vs++dvs) H1 Q E
def aEA(C:Addr)(m:Str)(sp:Sp)(dvs:List V)(E:XK)(ta:TE)(t:TA):TE:=fun σ H Q=>ta σ H fun x H1=>∃a dx fs,x=.ref a/\H1 a=some (.ins C dx fs)/\fs.lookup m=none/\
 t σ H1 fun vs H2=>sp (x::(vs++dvs)) H2 Q E
def aCJ(C:Addr)(sp:Sp)(dvs:List V)(E:XK)(t:TA):TE:=fun σ H Q=>t σ H fun vs H1=>∀x dx,H1 x=none->H1 dx=none->dx≠x->
 sp (.ref x::(vs++dvs)) (upd (upd H1 dx (.own x)) x (.ins C dx [])) (fun v H2=>v=.non/\Q (.ref x) H2) E
def Binds(K:W.Frag)(fd:FuncData)(ps:List Str)(ds:List Value):Prop:=
 ∀(s:Shared) (us:List Value),K.In s.heap->(us++ds).length=ps.length->BindsTo s fd ⟨us,[]⟩ (ps.zip (us++ds))
theorem Binds.all{K:W.Frag}{fd:FuncData}{ps:List Str}(h:∀us:List Value,us.length=ps.length->bindArgs fd ⟨us,[]⟩=pure (ps.zip us)):Binds K fd ps []:=fun s us _ hl=>by
 rw[List.append_nil] at hl ⊢
 exact .of_eq (h us hl)
def Passes(CX:CXT)(X:Cx)(E:XK):Prop:=∀(pins:List (Addr×Obj)) (σ:St) (H:Hp) (s:Shared) (e:Value) (s':Shared),Inv X pins σ H s->CX X.stack H s E e s'->X.xe e s'
section
variable{X:Cx}{CX:CXT}{k:Nat}{f C:Addr}{fd:FuncData}{ps:List Str}{sp:Sp}{dvs:List V}{ds:List Value}{E:XK}{x m:Str}{p pos apos:Pos}{e o:Expr}{es:List Expr}{ta:TE}{t:TA}
theorem aGd{pins:List (Addr×Obj)}{σ:St}{H:Hp}{s:Shared}{Q:VK}{us:List Value}{vs:List V}(F:bR X.prog X.w X.K X.mg X.base CX k f fd ps sp)(hr:dG k X.A)(hb:Binds X.K fd ps ds)(hd:Vals dvs ds)(hx:Passes CX X E)
  (I:Inv X pins σ H s) (r:Vals vs us) (h:sp (vs++dvs) H Q E):wpAny (model X.prog X.w) X.A (call (.ref f) us) (EP X pins σ Q) X.xe s:=by
 have r2:Vals (vs++dvs) (us++ds):=r.append hd
 have hl:(us++ds).length=ps.length:=by rw[<-r2.length];exact F.len _ _ _ _ h
 refine wpAny_call (codeAny_mono (F.run X.A X.stack s H ⟨us,[]⟩ (us++ds) (vs++dvs) Q E hr I.aGc (hb s us I.pG hl) r2 h) fun r s' hq=>?_)
 cases r with
 |error e=>exact hx pins σ H s e s' I hq
 |ok fl=>
  cases fl with
  |ret u=>exact I.after hq
  |next=>exact False.elim hq
  |brk=>exact False.elim hq
  |cont=>exact False.elim hq
theorem aHT(F:bR X.prog X.w X.K X.mg X.base CX k f fd ps sp)(hr:dG k X.A)(hg:Gl X x)(hm:X.mg x=some (.ref f))(hk:W.keepIn X.K (.ref f)=true)(hb:Binds X.K fd ps ds)(hd:Vals dvs ds)(hx:Passes CX X E)
  (ha:PA X (e::es) t) (hdb:(x == ("__debug__" : Str))=false:=by decide) (he:starEach (e::es) X.env=(false,eval e X.env)::starEach es X.env:=by rfl) (hpl:(backTo pos (starEach es X.env)).any (·.1)=false:=by rfl) :
  PE X (.Call (.Name x p) (e::es) [] pos) (aCI sp dvs E t):=by
 intro pins s σ H Q I h
 refine wpAny_Call_Name_kw (yE I hg hm ?_ hdb)
 refine PySem.W.callWith_K (h₀:=X.base) I.ok.mod.kin hk (cK (ha pos pins s σ H _ I h) fun us s1 ⟨vs,H1,I1,r,q⟩=>⟨I1.pG,?_⟩) he hpl
 exact aGd F hr hb hd hx I1 r q
theorem aBH{pl:Sem Bool}(he:PE X o ta)(c:Cls X.K C)(hm:Meth X.K C m f)(F:bR X.prog X.w X.K X.mg X.base CX k f fd ps sp)(hr:dG k X.A)(hb:Binds X.K fd ps ds)(hd:Vals dvs ds)(hx:Passes CX X E)(ha:PA X (e::es) t)
  (hst:starEach (e::es) X.env=(false,eval e X.env)::starEach es X.env:=by rfl) (hpl:(backTo pos (starEach es X.env)).any (·.1)=false:=by rfl)
  (ht:eval (.Call (.Attribute o m apos) (e::es) [] pos) X.env=(do
   let ov <-eval o X.env
   standAt apos.atName
   let (f,first) <-holding [ov] (getMethod ov m pl)
   callWith pos f first (backTo pos (starEach (e::es) X.env)) (backToKw pos (keywordEach [] X.env))):=by rfl) :
  PE X (.Call (.Attribute o m apos) (e::es) [] pos) (aEA C m sp dvs E ta t):=by
 intro pins s σ H Q I h
 refine PySem.W.methodCall_KW (pl:=pl) (cK (he pins s σ H _ I h) fun u s1 ⟨x,H1,I1,rx,a,dx,fs,ex,ea,l,q⟩=>?_) ht
 subst ex
 obtain rfl:u=Value.ref a:=rx
 refine aDI I1 ea c hm l ?_
 refine PySem.W.callWith_K (first:=[.ref a]) (h₀:=X.base) I.ok.mod.kin hm.kp (cK (ha pos pins s1 σ H1 _ I1 q) fun us s2 ⟨vs,H2,I2,r,q2⟩=>⟨I2.pG,?_⟩) hst hpl
 exact aGd (us:=.ref a::us) (vs:=.ref a::vs) F hr hb hd hx I2 (.cons rfl r) q2
structure Mk(K:W.Frag)(C f:Addr):Prop where
 makes:PySem.W.makesIn K C=true
 init:PySem.W.findIn K (.ref C) "__init__" = some (some (.ref f))
 fn:PySem.W.isFn K (.ref f)=true
 kp:W.keepIn K (.ref C)=true
theorem aGe{pins:List (Addr×Obj)}{σ:St}{H:Hp}{s:Shared}{Q:VK}{us:List Value}{vs:List V}(M:Mk X.K C f)(F:bR X.prog X.w X.K X.mg X.base CX k f fd ps sp)(hr:dG (k+1) X.A)(hb:Binds X.K fd ps ds)(hd:Vals dvs ds)
  (hx:Passes CX X E) (I:Inv X pins σ H s) (r:Vals vs us)
  (h:∀x dx,H x=none->H dx=none->dx≠x->sp (.ref x::(vs++dvs)) (upd (upd H dx (.own x)) x (.ins C dx [])) (fun v H2=>v=.non/\Q (.ref x) H2) E) :
  wpAny (model X.prog X.w) X.A (call (.ref C) us) (EP X pins σ Q) X.xe s:=by
 have hq:=h (s.heap.objs.size+1) s.heap.objs.size (I.hok.fresh (Nat.le_succ _)) (I.hok.fresh (Nat.le_refl _)) (Nat.ne_of_lt (Nat.lt_succ_self _))
 have I2:=Inv.made (C:=C) I
 have r2:Vals (V.ref (s.heap.objs.size+1)::(vs++dvs)) (Value.ref (s.heap.objs.size+1)::(us++ds)):=.cons rfl (r.append hd)
 have hl:(Value.ref (s.heap.objs.size+1)::us++ds).length=ps.length:=by
  have e:=r2.length
  rw[F.len _ _ _ _ hq] at e
  exact e.symm
 refine wpAny_call (aGa (f:=f) I.pG M.makes M.init (beq_iff_eq.mp M.fn) (codeAny_mono (F.run _ X.stack _ _ ⟨Value.ref (s.heap.objs.size+1)::us,[]⟩ (Value.ref (s.heap.objs.size+1)::(us++ds)) _ _ E (hr.make C us [])
  (I2.aGc.make C us []) (hb _ (Value.ref (s.heap.objs.size+1)::us) I2.pG hl) r2 hq) fun r s' hq'=>?_))
 cases r with
 |error e=>exact hx pins σ _ _ e s' I2 hq'
 |ok fl=>
  cases fl with
  |ret u=>
   obtain⟨v,H',I3,rv,ev,q3⟩:=I2.after hq'
   subst ev
   exact⟨rv,⟨V.ref (s.heap.objs.size+1),H',I3,rfl,q3⟩⟩
  |next=>exact False.elim hq'
  |brk=>exact False.elim hq'
  |cont=>exact False.elim hq'
theorem aHU(M:Mk X.K C f)(F:bR X.prog X.w X.K X.mg X.base CX k f fd ps sp)(hr:dG (k+1) X.A)(hg:Gl X x)(hm:X.mg x=some (.ref C))(hb:Binds X.K fd ps ds)(hd:Vals dvs ds)(hx:Passes CX X E)
  (ha:PA X (e::es) t) (hdb:(x == ("__debug__" : Str))=false:=by decide) (he:starEach (e::es) X.env=(false,eval e X.env)::starEach es X.env:=by rfl) (hpl:(backTo pos (starEach es X.env)).any (·.1)=false:=by rfl) :
  PE X (.Call (.Name x p) (e::es) [] pos) (aCJ C sp dvs E t):=by
 intro pins s σ H Q I h
 refine wpAny_Call_Name_kw (yE I hg hm ?_ hdb)
 refine PySem.W.callWith_K (h₀:=X.base) I.ok.mod.kin M.kp (cK (ha pos pins s σ H _ I h) fun us s1 ⟨vs,H1,I1,r,q⟩=>⟨I1.pG,?_⟩) he hpl
 exact aGe M F hr hb hd hx I1 r q
end
def PK(X:Cx)(kws:List Keyword)(t:TA):Prop:=
 ∀(pos:Pos) (pins:List (Addr×Obj)) (s:Shared) (σ:St) (H:Hp) (Q:List V->Hp->Prop),Inv X pins σ H s->t σ H Q->wpAny (model X.prog X.w) X.A (evalAll ((backToKw pos (keywordEach kws X.env)).map (·.2))) (AP X pins σ Q) X.xe s
section
variable{X:Cx}{CX:CXT}{k:Nat}{f C:Addr}{fd:FuncData}{ps ks:List Str}{sp:Sp}{E:XK}{x m:Str}{p pos apos kpos:Pos}{e o:Expr}{es:List Expr}{kws:List Keyword}{te ta:TE}{t tk:TA}{nm:Option Str}
variable{g:List Value->List Value->List Value}{gV:List V->List V->List V}
end
structure aV(N P:List Str)(sc:Scope):Prop where
 kind:sc.kind=.function
 co:sc.isCoroutine=false
 gen:sc.isGenerator=false
 nd:N.Nodup
 pre:N.take P.length=P
 par:∀x∈P,sc.names.lookup x=some .local\/sc.names.lookup x=some .cell
 nofree:∀y∈sc.names,y.2≠.free
theorem aA4{kindOf:Str->Option NameKind}{x:Str}:∀{binds:List (Str×Value)}{m:Str->Option Value},(∀v,(x,v)∉binds)->bindL kindOf binds m x=m x
 |[],_,_=>rfl
 |(n,v)::r,m,h=>by
  unfold bindL
  rw[aA4 fun w hw=>h w (List.mem_cons_of_mem _ hw)]
  split
  ·have:x≠n:=by rintro rfl;exact h v List.mem_cons_self
   simp[this]
  ·rfl
theorem aA5{kindOf:Str->Option NameKind}{x:Str}:∀{binds:List (Str×Value)}{m:Str->Option Value},(∀v,(x,v)∉binds)->bindC kindOf binds m x=m x
 |[],_,_=>rfl
 |(n,v)::r,m,h=>by
  unfold bindC
  rw[aA5 fun w hw=>h w (List.mem_cons_of_mem _ hw)]
  split
  ·rfl
  ·have:x≠n:=by rintro rfl;exact h v List.mem_cons_self
   simp[this]
theorem aA6{kindOf:Str->Option NameKind}{x:Str}{v:Value}:∀{P:List Str}{vs:List Value}{i:Nat}{m:Str->Option Value},P.Nodup->P[i]?=some x->vs[i]?=some v->kindOf x=some .local->
  bindL kindOf (P.zip vs) m x=some v
 |[],_,_,_,_,h,_,_=>by simp at h
 |_::_,[],_,_,_,_,h,_=>by simp at h
 |p::P,w::vs,0,m,nd,h1,h2,hk=>by
  simp at h1 h2;subst h1;subst h2
  show bindL kindOf ((p,w)::P.zip vs) m p=_
  unfold bindL
  rw[aA4 fun v hv=>(List.nodup_cons.mp nd).1 (List.of_mem_zip hv).1,if_pos hk]
  simp
 |p::P,w::vs,i+1,m,nd,h1,h2,hk=>by
  show bindL kindOf ((p,w)::P.zip vs) m x=_
  unfold bindL
  exact aA6 (i:=i) (List.nodup_cons.mp nd).2 (by simpa using h1) (by simpa using h2) hk
theorem aA7{kindOf:Str->Option NameKind}{x:Str}{v:Value}:∀{P:List Str}{vs:List Value}{i:Nat}{m:Str->Option Value},P.Nodup->P[i]?=some x->vs[i]?=some v->kindOf x≠some .local->
  bindC kindOf (P.zip vs) m x=some v
 |[],_,_,_,_,h,_,_=>by simp at h
 |_::_,[],_,_,_,_,h,_=>by simp at h
 |p::P,w::vs,0,m,nd,h1,h2,hk=>by
  simp at h1 h2;subst h1;subst h2
  show bindC kindOf ((p,w)::P.zip vs) m p=_
  unfold bindC
  rw[aA5 fun v hv=>(List.nodup_cons.mp nd).1 (List.of_mem_zip hv).1,if_neg hk]
  simp
 |p::P,w::vs,i+1,m,nd,h1,h2,hk=>by
  show bindC kindOf ((p,w)::P.zip vs) m x=_
  unfold bindC
  exact aA7 (i:=i) (List.nodup_cons.mp nd).2 (by simpa using h1) (by simpa using h2) hk
def start(N:List Str)(vs:List V):St:=vs.map some++List.replicate (N.length - vs.length) none
def aDM(CX:CXT)(P:Program)(w:World)(K:W.Frag)(mg:Str->Option Value)(base:Heap)(N:List Str)(qual:Str)(scope:Scope)(f:Addr)(cd:Value)(A:Around)(outer:List Env)(s:Shared)(H:Hp)(E:XK):Cx where
 prog:=P
 w:=w
 K:=K
 mg:=mg
 base:=base
 A:=A.deeper (envOfC qual scope s.heap.objs.size f cd)
 N:=N
 s₀:=s
 H₀:=H
 env:=envOfC qual scope s.heap.objs.size f cd
 outer:=outer
 stack:=envOfC qual scope s.heap.objs.size f cd::outer
 ex:=[]
 calm:=true
 fn:=fun _=>true
 pn:=[]
 xe:=fun e s'=>wpAny (model P w) (A.deeper (envOfC qual scope s.heap.objs.size f cd)) (leaving (envOfC qual scope s.heap.objs.size f cd) e) (fun _ s''=>CX outer H s E e s'') (fun e' s''=>CX outer H s E e' s'') s'
theorem aCK{sc:Scope}{n:Nat}{x:Str}(h:sc.names.lookup x=some .cell):∃c,(cellsFrom n sc.names []).lookup x=some c:=by
 have q:=PySem.W.cellsFrom_some sc.names n [] (.inl h)
 exact Option.isSome_iff_exists.mp q
theorem aFo{CX:CXT}{P:Program}{w:World}{K:W.Frag}{mg:Str->Option Value}{base:Heap}{N ps:List Str}{qual:Str}{scope:Scope}{f:Addr}{cd:Value}{A:Around}{outer:List Env}{s s1:Shared}{H:Hp}{E:XK}{us:List Value}{vs:List V}
  (S:aV N ps scope) (hd:A.handled=none) (e0:aAv P w K mg base A outer s H) (hl:vs.length=ps.length) (r:Vals vs us)
  (x:InCallC s s.heap.objs.size (bindL (envOfC qual scope s.heap.objs.size f cd).kindOf (ps.zip us) fun _=>none) (cellsFrom (s.heap.objs.size+1) scope.names []) (bindC (envOfC qual scope s.heap.objs.size f cd).kindOf (ps.zip us) fun _=>none) s1) :
  Inv (aDM CX P w K mg base N qual scope f cd A outer s H E) [] (start N vs) H s1:=by
 have hpl:ps.length<=N.length:=by have:=congrArg List.length S.pre;rw[List.length_take] at this;omega
 obtain⟨h1,tk,rfl,hk⟩:=x.done
 have noA:∀b:Addr,b∉(aDM CX P w K mg base N qual scope f cd A outer s H E).ex:=fun b z=>absurd (show b∈([]:List Addr) from z) (by simp)
 refine⟨⟨e0.mod,S.kind,rfl,rfl,Nat.le_refl _,fun y z c h1 h2=>?_,fun y hy=>?_,fun y c _ h=>?_,fun _=>hd,Around.frames_deeper e0.frames,.inr ⟨rfl,rfl⟩,fun b z=>absurd z (noA b),e0.bs,e0.bsz,fun b _ _=>noA b,fun b z=>absurd z (noA b),e0.sL,e0.frf⟩,
  rfl,e0.bare,Un.kept hk,⟨_,x.toInCall.ns,fun i y v h1 h2 h3=>?_⟩,fun y c h=>⟨_,x.cell y c h⟩,e0.hok.fresh (Nat.le_refl _),fun y c h=>?_,fun p hp=>absurd (show p∈([]:List (Addr×Obj)) from hp) (by simp),e0.hok.kept hk,?_⟩
 ·exact name_of_addr x.apart (PySem.mem_of_lookup h1) (PySem.mem_of_lookup h2)
 ·have hy:scope.names.lookup y=some .cell\/scope.names.lookup y=some .free:=hy
  rcases hy with hy|hy
  ·exact aCK hy
  ·exact absurd rfl (S.nofree _ (PySem.mem_of_lookup hy))
 ·exact Nat.le_of_lt (x.above y c (PySem.mem_of_lookup h))
 ·have hi:i < vs.length:=by
   unfold start at h2
   by_cases hi:i < vs.length
   ·exact hi
   ·rw[List.getElem?_append_right (by simpa using hi)] at h2
    rw[List.getElem?_replicate] at h2
    split at h2 <;> cases h2
  have ha:vs[i]?=some v:=by
   unfold start at h2
   rw[List.getElem?_append_left (by simpa using hi),List.getElem?_map] at h2
   cases e:vs[i]? with
   |none=>rw[e] at h2;cases h2
   |some a=>rw[e] at h2;cases h2;rfl
  obtain⟨u,hu,rv⟩:=r.get ha
  have hp:ps[i]?=some y:=by
   rw[<-S.pre,List.getElem?_take_of_lt (by omega)];exact h1
  have ndP:ps.Nodup:=by rw[<-S.pre];exact S.nd.sublist (List.take_sublist _ _)
  refine⟨u,rv,?_⟩
  rcases S.par y (List.mem_of_getElem? hp) with k|k
  ·exact .inl ⟨k,aA6 ndP hp hu k⟩
  ·obtain⟨c,e⟩:=aCK (n:=s.heap.objs.size+1) k
   refine .inr ⟨.inl k,c,e,?_⟩
   have q:=x.cell y c e
   rw[aA7 ndP hp hu (by show scope.names.lookup y≠_;rw[k];decide)] at q
   exact q
 ·exact e0.hok.fresh (Nat.le_of_lt (x.above y c (PySem.mem_of_lookup h)))
 ·unfold start
  show _=N.length
  rw[List.length_append,List.length_map,List.length_replicate]
  omega
theorem aI0{CX:CXT}{P:Program}{w:World}{K:W.Frag}{mg:Str->Option Value}{base:Heap}{k:Nat}{f:Addr}{name qual:Str}{params:Arguments}{body:List Stmt}{scope:Scope}{dV kV doc pm cdv ct oc:Value}{an od:Option Addr}
  {osl:Array (Option Value)} {N ps:List Str} {sp:Sp} (lk:K.lookup f=some ⟨oc,od,.func (W.fnOf name qual params body scope dV kV doc pm an cdv ct),osl⟩) (hcd:W.codeIn K cdv qual=true) (S:aV N ps scope)
  (len:∀vs H Q E,sp vs H Q E->vs.length=ps.length)
  (hbody:∀(A:Around) (outer:List Env) (s:Shared) (H:Hp) (vs:List V) (Q:VK) (E:XK),dG k (A.deeper (envOfC qual scope s.heap.objs.size f cdv))->sp vs H Q E->
   ∃t,PSs (aDM CX P w K mg base N qual scope f cdv A outer s H E) body t/\t { nx:=fun _ H'=>Q .non H',rt:=Q } (start N vs) H) :
  bR P w K mg base CX (k+1) f (W.fnOf name qual params body scope dV kV doc pm an cdv ct) ps sp:=by
 refine⟨len,fun A outer s H args us vs Q E hr e0 hb r hsp=>?_⟩
 have hl:=len _ _ _ _ hsp
 have KX:K.In s.heap:=e0.mod.kin.keeps fun b o e=>(e0.bs b o e).1
 have lim:s.heap.NoLimit:=e0.mod.nolimit.keeps fun b o e=>(e0.bs b o e).1
 have hkind:∀y∈ps.zip us,scope.names.lookup y.1=some .local\/(scope.names.lookup y.1=some .cell/\((cellsFrom (s.heap.objs.size+1) scope.names []).lookup y.1).isSome=true):=fun⟨n,v⟩ hy=>by
  rcases S.par n (List.of_mem_zip hy).1 with q|q
  ·exact .inl q
  ·exact .inr ⟨q,PySem.W.cellsFrom_some _ _ _ (.inl q)⟩
 refine codeAny_call_function hr.depth (KX _ _ lk) rfl S.co S.gen rfl (PySem.W.codeRec_of KX hcd) (hb _ _ _ _ ?_)
 refine wpAny_newFunctionEnv_cells S.kind hkind fun env he s1 x=>?_
 subst he
 refine⟨lim.keeps x.toInCall.keep,codeAny_func ?_⟩
 obtain⟨t,ht,hq⟩:=hbody A outer s H vs Q E (hr.deeper _) hsp
 have I:Inv (aDM CX P w K mg base N qual scope f cdv A outer s H E) [] (start N vs) H s1:=aFo S hr.hd e0 hl r x
 refine wpAny_mono (ht [] s1 (start N vs) H _ I hq) (fun fl s' hs=>?_) fun e s' hs=>hs
 have fin:∀{σ':St} {H':Hp} {v:V} {u:Value},Inv (aDM CX P w K mg base N qual scope f cdv A outer s H E) [] σ' H' s'->RelV v u->Q v H'->CE outer P w H s Q u s':=
  fun {σ' H' v u} J rv q=>⟨v,H',J.os,J.bare,J.base,J.hok,rv,q⟩
 cases fl with
 |ret u=>
  obtain⟨v,σ',H',J,rv,q⟩:=hs
  exact fin J rv q
 |next=>
  obtain⟨σ',H',J,q⟩:=hs
  exact fin (v:=V.non) (u:=Value.none) J rfl q
 |brk=>
  obtain⟨_,_,_,q⟩:=hs
  exact False.elim q
 |cont=>
  obtain⟨_,_,_,q⟩:=hs
  exact False.elim q
end L2
namespace L2
open PySem PySem.Spec PyProof.Rows
section
variable{X:Cx}{x:Str}{p pos:Pos}{e:Expr}{es:List Expr}{t:TA}{id T:String}{r:List V->Hp->VK->Prop}
def tCB(r:List V->Hp->VK->Prop)(t:TA):TE:=fun σ H Q=>t σ H fun vs H1=>r vs H1 Q
theorem aGf(hc:d9 X (.builtin id) r)(hg:Gl X x)(hm:X.mg x=none)(hv:bootBuiltins x=some (.builtin id))(ha:PA X (e::es) t)(hn:x≠"__name__":=by decide)(hdb:(x == ("__debug__" : Str))=false:=by decide)
  (he:starEach (e::es) X.env=(false,eval e X.env)::starEach es X.env:=by rfl) (hpl:(backTo pos (starEach es X.env)).any (·.1)=false:=by rfl):PE X (.Call (.Name x p) (e::es) [] pos) (tCB r t):=by
 intro pins s σ H Q I h
 refine wpAny_Call_Name_kw (oC I hg hm hv ?_ hn hdb)
 exact PyProof.Rows.callWith_builtin1 (cK (ha pos pins s σ H _ I h) fun us s1 ⟨vs,H1,I1,r1,q1⟩=>hc pins s1 σ H1 vs us Q I1 r1 q1) he hpl
theorem aFp(hc:d9 X (.type T) r)(hg:Gl X x)(hm:X.mg x=none)(hv:bootBuiltins x=some (.type T))(ha:PA X (e::es) t)(hn:x≠"__name__":=by decide)(hdb:(x == ("__debug__" : Str))=false:=by decide)
  (he:starEach (e::es) X.env=(false,eval e X.env)::starEach es X.env:=by rfl) (hpl:(backTo pos (starEach es X.env)).any (·.1)=false:=by rfl):PE X (.Call (.Name x p) (e::es) [] pos) (tCB r t):=by
 intro pins s σ H Q I h
 refine wpAny_Call_Name_kw (oC I hg hm hv ?_ hn hdb)
 exact PyProof.Rows.callWith_type1 (cK (ha pos pins s σ H _ I h) fun us s1 ⟨vs,H1,I1,r1,q1⟩=>hc pins s1 σ H1 vs us Q I1 r1 q1) he hpl
end
end L2
namespace HT
open PySem PyProof.Rows
section
open PySem.SeqAt
open PySem.AutoSeq1 (wpAny_loadPart')
open PySem.MeetsSeq PySem.MeetsSeq2 PySem.MeetsSeq3
end
section
variable{prog:Program}{w:World}{A:Around}{E:Value->Shared->Prop}{s:Shared}
def jK(n d:Nat):Option Int->Nat
 |none=>d
 |some v=>if v < 0 then (v+(n:Int)).toNat else min v.toNat n
theorem aCL(n d:Nat):jK n d none=d:=rfl
theorem aEB(n d k:Nat):jK n d (some (k:Int))=min k n:=by
 show(if (k:Int) < 0 then ((k:Int)+(n:Int)).toNat else min (k:Int).toNat n)=min k n
 rw[if_neg (by omega),Int.toNat_natCast]
theorem aJG(n d:Nat)(hd:d<=n)(o:Option Int):jK n d o<=n:=by
 cases o with
 |none=>exact hd
 |some v=>
  show(if v < 0 then (v+(n:Int)).toNat else min v.toNat n)<=n
  by_cases hv:v < 0
  ·rw[if_pos hv];omega
  ·rw[if_neg hv];exact Nat.min_le_right _ _
theorem aEC(v:Int)(n d:Nat):(if v < 0 then max (v+(n:Int)) 0 else min v (n:Int))=((jK n d (some v):Nat):Int):=by
 show(if v < 0 then max (v+(n:Int)) 0 else min v (n:Int))=(((if v < 0 then (v+(n:Int)).toNat else min v.toNat n):Nat):Int)
 by_cases hv:v < 0
 ·simp only[if_pos hv];omega
 ·simp only[if_neg hv];omega
theorem aDN(lo hi:Option Int)(n:Nat):Builtin.Slice.sliceAdjust lo hi 1 (n:Int)=(((jK n 0 lo:Nat):Int),((jK n n hi:Nat):Int)):=by
 have h1:¬((1:Int) < 0):=by omega
 unfold Builtin.Slice.sliceAdjust
 simp only[h1,if_false]
 refine Prod.ext ?_ ?_
 ·cases lo with
  |none=>rfl
  |some v=>exact aEC v n 0
 ·cases hi with
  |none=>rfl
  |some v=>exact aEC v n n
theorem aDO(i j:Nat):Builtin.Slice.slicePlaces (i:Int) (j:Int) 1=j - i:=by
 unfold Builtin.Slice.slicePlaces
 have h1:(1:Int) > 0:=by omega
 simp only[h1,if_true,Int.ediv_one]
 split <;> omega
theorem yW{v:Value}{o:Option Int}{Q:Option Int->Shared->Prop}(p:IsPart v o)(h:Q o s):wpAny (model prog w) A (Builtin.Slice.slicePartIndex v) Q E s:=by
 cases p with
 |none=>exact slicePart_none h
 |int i t=>exact slicePart_int h
theorem v7{sl:Addr}{vl vu:Value}{lo hi:Option Int}{n:Nat}{Q:Int×Int×Nat->Shared->Prop}(hs:s.heap.IsSliceOf sl vl vu .none)(pl:IsPart vl lo)(pu:IsPart vu hi)
  (h:Q (((jK n 0 lo:Nat):Int),1,jK n n hi - jK n 0 lo) s):wpAny (model prog w) A (Builtin.Slice.sliceApplied (.ref sl) (pure (n:Int))) Q E s:=by
 obtain⟨os,hos,hcs,hds⟩:=id hs
 unfold Builtin.Slice.sliceApplied Builtin.Slice.sliceFields
 refine wpAny_bind (wpAny_bind (wpAny_field hos hds (x:=vl) rfl (wpAny_bind (wpAny_field hos hds (x:=vu) rfl (wpAny_bind (wpAny_field hos hds (x:=.none) rfl (wpAny_pure ?_)))))))
 refine wpAny_bind (slicePart_none ?_)
 show wpAny _ _ (if ((1:Int) == 0)=true then _ else _) _ _ s
 rw[if_neg (by decide)]
 refine wpAny_bind (yW pl (wpAny_bind (yW pu (wpAny_bind (wpAny_pure ?_)))))
 show wpAny _ _ (match Builtin.Slice.sliceAdjust lo hi 1 (n:Int) with|(lo,hi)=>pure (lo,(1:Int),Builtin.Slice.slicePlaces lo hi 1)) _ _ s
 rw[aDN lo hi n]
 show wpAny _ _ (pure (((jK n 0 lo:Nat):Int),(1:Int),Builtin.Slice.slicePlaces ((jK n 0 lo:Nat):Int) ((jK n n hi:Nat):Int) 1)) _ _ s
 rw[aDO]
 exact wpAny_pure h
theorem aGg(xs:Array Value)(i k:Nat):((List.range k).filterMap fun(m:Nat)=>xs[((i:Int)+(m:Int)*1).toNat]?).toArray=((xs.toList.drop i).take k).toArray:=by
 have e:(fun(m:Nat)=>xs[((i:Int)+(m:Int)*1).toNat]?)=fun m=>xs[i+m]?:=by
  funext m
  have:((i:Int)+(m:Int)*1).toNat=i+m:=by omega
  rw[this]
 rw[e]
 have:=pick_run xs i k
 rw[List.filterMap_map] at this
 have e2:((fun x=>xs[x]?) ∘ fun x=>i+x)=fun m=>xs[i+m]?:=rfl
 rw[e2] at this
 rw[this]
theorem uG{t sl:Addr}{items:Array Value}{vl vu:Value}{lo hi:Option Int}{Q:Value->Shared->Prop}(ht:IsTup s.heap t items)(hs:s.heap.IsSliceOf sl vl vu .none)(pl:IsPart vl lo)(pu:IsPart vu hi)
  (hw:¬(jK items.size 0 lo=0/\jK items.size items.size hi=items.size))
  (h:Q (.ref s.heap.objs.size) { s with heap:=s.heap.push { cls:=.type "tuple",data:=.seq ((items.toList.drop (jK items.size 0 lo)).take (jK items.size items.size hi - jK items.size 0 lo)).toArray } })
  (hsz:items.size<=sizeLine):wpAny (model prog w) A (getItem (.ref t) (.ref sl)) Q E s:=by
 have htake:sizeOk (.seq ((items.toList.drop (jK items.size 0 lo)).take (jK items.size items.size hi - jK items.size 0 lo)).toArray):=by
  show((items.toList.drop (jK items.size 0 lo)).take (jK items.size items.size hi - jK items.size 0 lo)).toArray.size<=sizeLine
  rw[List.size_toArray,List.length_take,List.length_drop,Array.length_toList]
  omega
 have hj:jK items.size items.size hi<=items.size:=aJG _ _ (Nat.le_refl _) hi
 obtain⟨os,hos,hcs,hds⟩:=id hs
 have hTs:s.TypeIs (.ref sl) "slice":=⟨os,hos,hcs⟩
 unfold getItem
 try with_reducible refine wpAny_holding ?_
 first|refine wpAny_bind (wpAny_pure ?_)|skip
 refine wpAny_bind (wpAny_sequenceKey ht.typeIs (by decide) ?_)
 refine wpAny_bind (wpAny_callSpecial?_slot (name:=Str.ofString "__getitem__") ht.typeIs PyProof.Rows.slot_tuple_getitem
  (wpAny_call_entry PyProof.Rows.slot_tuple_getitem ht.typeIs entry_tuple_getitem ?_ (args_tuple_getitem _ _)))
 show wpAny _ _ (Builtin.Tuple.tupleItemsOf (.ref t) >>= _) _ _ s
 refine wpAny_bind (tupleItemsOf_ ht ?_)
 refine wpAny_bind (wpAny_typeOf hTs ?_)
 rw[if_pos (by decide)]
 refine wpAny_bind (v7 hs pl pu ?_)
 have hno:¬((((jK items.size 0 lo:Nat):Int) == 0 && (1:Int) == 1 && (jK items.size items.size hi - jK items.size 0 lo) == items.size)=true):=by
  intro q
  rw[Bool.and_eq_true,Bool.and_eq_true] at q
  have q1:((jK items.size 0 lo:Nat):Int)=0:=eq_of_beq q.1.1
  have q2:jK items.size items.size hi - jK items.size 0 lo=items.size:=eq_of_beq q.2
  exact hw ⟨by omega,by omega⟩
 show wpAny _ _ (if (((jK items.size 0 lo:Nat):Int) == 0 && (1:Int) == 1 && (jK items.size items.size hi - jK items.size 0 lo) == items.size)=true then _ else _) _ _ s
 rw[if_neg hno,aGg]
 first
  |exact wpAny_bind (m:=Builtin.Tuple.tupleExact _) (wpAny_newObj_type (wpAny_pure ⟨_,rfl,wpAny_pure h⟩) htake)
  |exact wpAny_bind (m:=Builtin.Tuple.tupleExact _) (wpAny_newObj_type (wpAny_bind (wpAny_pure (wpAny_pure ⟨_,rfl,wpAny_pure h⟩))) htake)
  |exact wpAny_bind (wpAny_bind (m:=Builtin.Tuple.tupleExact _) (wpAny_newObj_type (wpAny_pure (wpAny_pure ⟨_,rfl,wpAny_pure h⟩)) htake))
  |exact wpAny_bind (wpAny_bind (m:=Builtin.Tuple.tupleExact _) (wpAny_newObj_type (wpAny_pure ⟨_,rfl,wpAny_pure h⟩) htake))
end
end HT
namespace L2
open PySem PySem.Spec PyProof.Rows
abbrev TO:=St->Hp->(Option Int->Hp->Prop)->Prop
def PO(X:Cx)(e:Option Expr)(t:TO):Prop:=
 ∀(pins:List (Addr×Obj)) (s:Shared) (σ:St) (H:Hp) (Q:Option Int->Hp->Prop),Inv X pins σ H s->t σ H Q->
  wpAny (model X.prog X.w) X.A (evalPart e X.env) (fun u s'=>∃o H',Inv X pins σ H' s'/\IsPart u o/\Q o H') X.xe s
def aBI:TO:=fun _ H Q=>Q none H
def aGh(t:TE):TO:=fun σ H Q=>t σ H fun x H1=>∃i,x=.int i/\Q (some i) H1
theorem intsAre_of{ns:List Int}:∀{us:List Value},Vals (ns.map V.int) us->IntsAre us ns:=by
 induction ns with
 |nil=>intro us r;rw[List.map_nil] at r;cases r;exact .nil
 |cons n ns ih=>
  intro us r
  rw[List.map_cons] at r
  cases r with
  |cons r1 r2=>
   obtain⟨t,e⟩:=r1
   subst e
   exact .cons n t (ih r2)
section
variable{X:Cx}{e:Expr}{te:TE}{lo hi:Option Expr}{tl th:TO}{pos p2:Pos}
theorem uH:PO X none aBI:=by
 intro pins s σ H Q I h
 rw[evalPart_none]
 exact wpAny_pure ⟨none,H,I,.none,h⟩
theorem uI(h:PE X e te):PO X (some e) (aGh te):=by
 intro pins s σ H Q I hw
 rw[evalPart_some]
 refine cK (h pins s σ H _ I hw) fun u s1 ⟨x,H1,I1,r1,q1⟩=>?_
 obtain⟨i,rfl,q⟩:=q1
 obtain⟨t,rfl⟩:=r1
 exact⟨some i,H1,I1,.int i t,q⟩
def SlR(X:Cx)(r:V->Option Int->Option Int->Hp->VK->Prop):Prop:=
 ∀(pins:List (Addr×Obj)) (s:Shared) (σ:St) (H:Hp) (x:V) (v vl vu:Value) (lo hi:Option Int) (sl:Addr) (Q:VK),Inv X pins σ H s->RelV x v->s.heap.IsSliceOf sl vl vu .none->IsPart vl lo->IsPart vu hi->r x lo hi H Q->
  ∃T id,typeLookup (.type T) "__getitem__" = pure (some (.builtin id))/\s.TypeIs v T/\wpAny (model X.prog X.w) X.A (getItem v (.ref sl)) (EP X pins σ Q) X.xe s
theorem SlR.or{r r':V->Option Int->Option Int->Hp->VK->Prop}(h:SlR X r)(h':SlR X r'):SlR X (fun x lo hi H Q=>r x lo hi H Q\/r' x lo hi H Q):=by
 intro pins s σ H x v vl vu lo hi sl Q I rx hs pl pu q
 rcases q with q|q
 ·exact h pins s σ H x v vl vu lo hi sl Q I rx hs pl pu q
 ·exact h' pins s σ H x v vl vu lo hi sl Q I rx hs pl pu q
def tSl(r:V->Option Int->Option Int->Hp->VK->Prop)(te:TE)(tl th:TO):TE:=fun σ H Q=>te σ H fun x H1=>tl σ H1 fun l H2=>th σ H2 fun u H3=>r x l u H3 Q
theorem pW{r:V->Option Int->Option Int->Hp->VK->Prop}(hr:SlR X r)(he:PE X e te)(hl:PO X lo tl)(hu:PO X hi th):PE X (.Subscript e (.Slice lo hi none p2) pos) (tSl r te tl th):=by
 intro pins s σ H Q I h
 refine Subscript_ (cK (he pins s σ H _ I h) fun v s1 ⟨x,H1,I1,r1,q1⟩=>?_)
 refine wpAny_Slice (cK (hl pins s1 σ H1 _ I1 q1) fun vl s2 ⟨l,H2,I2,pl,q2⟩=>cK (hu pins s2 σ H2 _ I2 q2) fun vu s3 ⟨u,H3,I3,pu,q3⟩=>?_)
 rw[evalPart_none]
 refine wpAny_pure ?_
 have I4:Inv X pins σ H3 { s3 with heap:=s3.heap.push { cls:=.type "slice",data:=.fields #[vl,vu,.none] } }:=I3.kept (t':=s3.toks) fun b ob q=>Heap.get?_push_of_some _ q
 obtain⟨T,id,hT,ht,hg⟩:=hr pins { s3 with heap:=s3.heap.push { cls:=.type "slice",data:=.fields #[vl,vu,.none] } } σ H3 x v vl vu l u s3.heap.objs.size Q I4 r1 (Heap.IsSliceOf.new ..) pl pu q3
 show wpAny (model X.prog X.w) X.A (subscriptTail e (.Slice lo hi none p2) v (.ref s3.heap.objs.size)) (EP X pins σ Q) X.xe { s3 with heap:=s3.heap.push { cls:=.type "slice",data:=.fields #[vl,vu,.none] } }
 exact tail_any (ops:=[.ref s3.heap.objs.size,v]) ht hT hg (by with_unfolding_all rfl)
def mY(xs:List V)(lo hi:Option Int):List V:=(xs.drop (HT.jK xs.length 0 lo)).take (HT.jK xs.length xs.length hi - HT.jK xs.length 0 lo)
theorem dQ(xs:List V)(lo hi:Option Int):(mY xs lo hi).length<=xs.length:=by
 unfold mY
 rw[List.length_take,List.length_drop]
 omega
def aK1(K:W.Frag):V->Option Int->Option Int->Hp->VK->Prop:=fun x lo hi H Q=>∃a xs,x=.ref a/\lJ K H a xs/\
 ¬(HT.jK xs.length 0 lo=0/\HT.jK xs.length xs.length hi=xs.length)/\∀p,H p=none->Q (.ref p) (upd H p (.tup (mY xs lo hi)))
theorem aJH:SlR X (aK1 X.K):=by
 intro pins s σ H x v vl vu lo hi sl Q I rx hs pl pu h
 obtain⟨a,xs,rfl,hx,hw,q⟩:=h
 cases rx
 obtain⟨its,r,ht,hz⟩:=I.tuple hx
 have hlen:its.toArray.size=xs.length:=by rw[List.size_toArray];exact r.length.symm
 refine⟨"tuple",_,PyProof.Rows.slot_tuple_getitem.lookup,ht.typeIs,?_⟩
 refine HT.uG ht hs pl pu (by rw[hlen];exact hw) ?_ (by rw[hlen];exact hz)
 rw[hlen]
 refine⟨.ref s.heap.objs.size,_,I.laid (t':=s.toks) (o:=.tup (mY xs lo hi)) (fun b ob q=>Heap.get?_push_of_some _ q) (Nat.le_refl _) ?_,rfl,q _ (I.hok.fresh (Nat.le_refl _))⟩
 exact⟨Nat.le_trans (dQ xs lo hi) hz,_,(r.drop (HT.jK xs.length 0 lo)).take (HT.jK xs.length xs.length hi - HT.jK xs.length 0 lo),IsTup.new _ _⟩
end
end L2
namespace L2
open PySem PySem.Spec PyProof.Rows
def ixN(n:Nat)(i:Int):Option Nat:=if 0<=i then (if i < n then some i.toNat else none) else if -(n:Int)<=i then some (i+n).toNat else none
def pO{α:Type}(xs:List α)(i:Int):Option α:=(ixN xs.length i).bind fun j=>xs[j]?
theorem aED{n:Nat}{i:Int}{j:Nat}(h:ixN n i=some j):seqIndex? i n=some j/\j < n/\-(n:Int)<=i/\i < n:=by
 unfold ixN at h
 by_cases h0:0<=i
 ·rw[if_pos h0] at h
  by_cases h1:i < n
  ·rw[if_pos h1] at h
   have e:i.toNat=j:=Option.some.inj h
   exact⟨by rw[seqIndex_of h0 h1,e],by omega,by omega,h1⟩
  ·rw[if_neg h1] at h;cases h
 ·rw[if_neg h0] at h
  by_cases h1:-(n:Int)<=i
  ·rw[if_pos h1] at h
   have e:(i+n).toNat=j:=Option.some.inj h
   exact⟨by rw[seqIndex_neg (by omega) h1,e],by omega,h1,by omega⟩
  ·rw[if_neg h1] at h;cases h
theorem aBJ{α:Type}{xs:List α}{i:Int}{v:α}(h:pO xs i=some v):∃j,seqIndex? i xs.length=some j/\xs[j]?=some v/\j < xs.length/\-(xs.length:Int)<=i/\i < xs.length:=by
 unfold pO at h
 cases e:ixN xs.length i with
 |none=>rw[e] at h;cases h
 |some j=>
  rw[e] at h
  obtain⟨h1,h2,h3,h4⟩:=aED e
  exact⟨j,h1,h,h2,h3,h4⟩
theorem cU{α:Type}{xs:List α}{j:Nat}{v:α}(h:xs[j]?=some v):pO xs (j:Int)=some v:=by
 have hj:j < xs.length:=(List.getElem?_eq_some_iff.mp h).1
 have e:ixN xs.length (j:Int)=some j:=by
  unfold ixN
  rw[if_pos (by omega),if_pos (by omega)];simp
 unfold pO;rw[e];exact h
theorem uJ{α:Type}(xs:List α)(v:α):pO (xs ++ [v]) (-1)=some v:=by
 have hl:(xs ++ [v]).length=xs.length+1:=by simp
 have e:ixN (xs ++ [v]).length (-1)=some xs.length:=by
  unfold ixN
  rw[hl,if_neg (by decide),if_pos (by omega)]
  congr 1
  omega
 unfold pO
 rw[e]
 show(xs ++ [v])[xs.length]?=some v
 simp
def aEE(b:Expr):Prop:=∀o i,subscripted b false o i=operate [o,i] (getItem o i)
def IxR(X:Cx)(r:R2):Prop:=
 ∀(value slice:Expr) (pins:List (Addr×Obj)) (s:Shared) (σ:St) (H:Hp) (x y:V) (v u:Value) (Q:VK),Inv X pins σ H s->RelV x v->RelV y u->r x y H Q->
  subscripted slice false v u=operate [v,u] (getItem v u)->wpAny (model X.prog X.w) X.A (subscriptTail value slice v u) (EP X pins σ Q) X.xe s
def MtR(X:Cx)(id:String)(r:V->List V->Hp->VK->Prop):Prop:=
 ∀(pins:List (Addr×Obj)) (s:Shared) (σ:St) (H:Hp) (x:V) (xs:List V) (v:Value) (us:List Value) (Q:VK),Inv X pins σ H s->RelV x v->Vals xs us->r x xs H Q->
  wpAny (model X.prog X.w) X.A (call (.builtin id) (v::us)) (EP X pins σ Q) X.xe s
section
variable{X:Cx}{a b:Expr}{ta tb:TE}{pos:Pos}
theorem IxR.or{r r':R2}(h:IxR X r)(h':IxR X r'):IxR X (fun x y H Q=>r x y H Q\/r' x y H Q):=by
 intro value slice pins s σ H x y v u Q I rx ry q hs
 rcases q with q|q
 ·exact h value slice pins s σ H x y v u Q I rx ry q hs
 ·exact h' value slice pins s σ H x y v u Q I rx ry q hs
theorem aK2{r:R2}(hr:IxR X r)(ha:PE X a ta)(hb:PE X b tb)(hs:aEE b):PE X (.Subscript a b pos) (tOp r ta tb):=by
 intro pins s σ H Q I h
 exact Subscript_ (aJz ha hb I h fun v u s2 x y H2 I2 rx ry q=>hr a b pins s2 σ H2 x y v u Q I2 rx ry q (hs _ _))
def aK3(K:W.Frag):R2:=fun x y H Q=>∃p xs i v,x=.ref p/\y=.int i/\bQ K H p xs/\pO xs i=some v/\Q v H
def aK4(K:W.Frag):R2:=fun x y H Q=>∃p xs i v,x=.ref p/\y=.int i/\lJ K H p xs/\pO xs i=some v/\Q v H
def aK5:R2:=fun x y H Q=>∃z i c,x=.str z/\y=.int i/\z.length<=sizeLine/\pO z.cps.toList i=some c/\Q (.str ⟨#[c]⟩) H
theorem aHV:IxR X (aK3 X.K):=by
 intro value slice pins s σ H x y v u Q I rx ry h hs
 obtain⟨p,xs,i,z,rfl,rfl,hq,he,q⟩:=h
 cases rx
 obtain⟨t,rfl⟩:=ry
 obtain⟨its,r,pl,hz⟩:=I.list hq
 obtain⟨j,h1,h2,h3,h4,h5⟩:=aBJ he
 obtain⟨w,ew,rw'⟩:=r.get h2
 have hl:=r.length
 have hn:=v3
 have fin:EP X pins σ Q w s:=⟨z,H,I,rw',q⟩
 by_cases h0:0<=i
 ·have hj:i.toNat=j:=by
   rw[seqIndex_of h0 h5] at h1
   exact Option.some.inj h1
  exact item_listR pl.isList h0 (by omega) (by rw[hj];simpa using ew) fin hs
 ·have hj:(i+(its.toArray.size:Int)).toNat=j:=by
   rw[seqIndex_neg (by omega) h4] at h1
   rw[List.size_toArray,<-hl]
   exact Option.some.inj h1
  exact subscriptTail_builtinR (x:=w) pl.isList.typeIs slot_list_getitem.lookup
   (wpAny_getItem_list_neg (Q:=fun r s'=>r=w/\EP X pins σ Q r s') pl.isList (by omega) (by rw[List.size_toArray] <;> omega) (by omega) (by rw[hj];simpa using ew) ⟨rfl,fin⟩) hs
theorem aJI:IxR X (aK4 X.K):=by
 intro value slice pins s σ H x y v u Q I rx ry h hs
 obtain⟨p,xs,i,z,rfl,rfl,hq,he,q⟩:=h
 cases rx
 obtain⟨t,rfl⟩:=ry
 obtain⟨its,r,pl,hz⟩:=I.tuple hq
 obtain⟨j,h1,h2,h3,h4,h5⟩:=aBJ he
 obtain⟨w,ew,rw'⟩:=r.get h2
 have hl:=r.length
 have hn:=v3
 have fin:EP X pins σ Q w s:=⟨z,H,I,rw',q⟩
 exact subscriptTail_builtinR (x:=w) pl.typeIs slot_tuple_getitem.lookup
  (getItem_tuple (j:=j) (Q:=fun r s'=>r=w/\EP X pins σ Q r s') pl (by omega) (by omega) (by rw[List.size_toArray,<-hl];exact h1) (by simpa using ew) ⟨rfl,fin⟩) hs
theorem aJJ:IxR X aK5:=by
 intro value slice pins s σ H x y v u Q I rx ry h hs
 obtain⟨z,i,c,rfl,rfl,hz,he,q⟩:=h
 obtain⟨t,rfl⟩:=rx
 obtain⟨t',rfl⟩:=ry
 obtain⟨j,h1,h2,h3,h4,h5⟩:=aBJ he
 have hl:z.cps.toList.length=z.length:=by simp[Str.length]
 rw[hl] at h1 h4 h5
 have hn:=v3
 exact tail_any (typeIs_str s z t) slot_str_getitem.lookup (getItem_str (c:=c) (by
  have e1:decide (i < -(2 ^ 63:Int))=false:=decide_eq_false (by omega)
  have e2:decide (i ≥ 2 ^ 63)=false:=decide_eq_false (by omega)
  rw[e1,e2,Bool.or_false]) (by rw[h1];simpa using h2) ⟨.str ⟨#[c]⟩,H,I.tok _,⟨_,rfl⟩,q⟩) hs
def rIx(K:W.Frag):R2:=fun x y H Q=>aK3 K x y H Q\/aK4 K x y H Q\/aK5 x y H Q
theorem aJK:IxR X (rIx X.K):=aHV.or (aJI.or aJJ)
theorem aDP(its:List Value)(n j:Nat)(u:Value):Obj.mapSeq (·.setIfInBounds j u) { cls:=.type "list",data:=.seq its.toArray n } = { cls:=.type "list",data:=.seq (its.set j u).toArray n }:=by
 simp[Obj.mapSeq]
theorem Inv.lst{pins:List (Addr×Obj)}{σ:St}{H:Hp}{s:Shared}{p:Addr}{xs:List V}(I:Inv X pins σ H s)(h:H p=some (.lst xs)) :
  ∃(its:List Value) (n:Nat),Vals xs its/\s.heap.get? p=some { cls:=.type "list",data:=.seq its.toArray n }/\xs.length<=sizeLine:=by
 obtain⟨z,its,n,r,e⟩:=I.hok p _ h
 exact⟨its,n,r,e,z⟩
theorem Inv.aJL{pins:List (Addr×Obj)}{σ:St}{H:Hp}{s:Shared}{p:Addr}{xs ys:List V}{its its':List Value}{n n':Nat}{f:Obj->Obj}(I:Inv X pins σ H s)(h:H p=some (.lst xs))
  (ho:s.heap.get? p=some { cls:=.type "list",data:=.seq its.toArray n }) (hf:f { cls:=.type "list",data:=.seq its.toArray n } = { cls:=.type "list",data:=.seq its'.toArray n' }) (r:Vals ys its') (hz:ys.length<=sizeLine) (t:Nat) :
  Inv X pins σ (upd H p (.lst ys)) { s with heap:=s.heap.update p f,toks:=t }:=by
 have e:(s.heap.update p f).get? p=some { cls:=.type "list",data:=.seq its'.toArray n' }:=by
  rw[Heap.get?_update_self f ho (by rw[hf] <;> rfl),hf]
 refine I.write (x:=p) (e:=p) (by rw[h];trivial) (.inl rfl) (fun b u hb q=>(Heap.get?_update_other _ _ (Ne.symm hb)).trans q) ⟨_,e⟩ ?_
 exact⟨hz,its',n',r,e⟩
def aI1:V->V->V->Hp->(Hp->Prop)->Prop:=fun o i v H Q=>∃p xs k j,o=.ref p/\i=.int k/\H p=some (.lst xs)/\ixN xs.length k=some j/\Q (upd H p (.lst (xs.set j v)))
theorem set_list:aF1 X aI1:=by
 intro pins s σ H o i v ov iv u Q I ro ri rv h
 obtain⟨p,xs,k,j,rfl,rfl,hp,hj,q⟩:=h
 cases ro
 obtain⟨t,rfl⟩:=ri
 obtain⟨its,n,r,ho,hz⟩:=I.lst hp
 obtain⟨h1,h2,h3,h4⟩:=aED hj
 have hl:=r.length
 have hn:=v3
 have I':Inv X pins σ (upd H p (.lst (xs.set j v))) { s with heap:=s.heap.update p (Obj.mapSeq (·.setIfInBounds j u)) }:=
  I.aJL hp ho (aDP its n j u) (r.set rv j) (by rw[List.length_set];exact hz) s.toks
 by_cases h0:0<=k
 ·have hk:k.toNat=j:=by
   rw[seqIndex_of h0 h4] at h1
   exact Option.some.inj h1
  exact PySem.W.ki_setAt ho h0 (by omega) (by rw[List.size_toArray,<-hl];exact h4) (by rw[hk];exact⟨_,I',q⟩)
 ·have hk:(k+(its.toArray.size:Int)).toNat=j:=by
   rw[seqIndex_neg (by omega) h3] at h1
   rw[List.size_toArray,<-hl]
   exact Option.some.inj h1
  exact PySem.W.ki_setBack ho (by omega) (by rw[List.size_toArray,<-hl];exact h3) (by omega) (by rw[hk];exact⟨_,I',q⟩)
theorem aBK(lo hi:Option Int)(n:Nat):(sliceBounds lo hi none n).1=((HT.jK n 0 lo:Nat):Int)/\(sliceBounds lo hi none n).2.1=((HT.jK n n hi:Nat):Int)/\(sliceBounds lo hi none n).2.2=1:=by
 refine⟨?_,?_,rfl⟩
 ·cases lo with
  |none=>simp[sliceBounds,HT.jK]
  |some i=>
   simp only[sliceBounds,HT.jK,Option.getD_none,show(1:Int) > 0 by decide,if_true]
   by_cases h:i < 0
   ·simp only[h,if_true] <;> omega
   ·simp only[h,if_false] <;> omega
 ·cases hi with
  |none=>simp[sliceBounds,HT.jK]
  |some i=>
   simp only[sliceBounds,HT.jK,Option.getD_none,show(1:Int) > 0 by decide,if_true]
   by_cases h:i < 0
   ·simp only[h,if_true] <;> omega
   ·simp only[h,if_false] <;> omega
theorem aAw(its:List Value)(lo hi:Option Int):slicePick its.toArray lo hi none=((its.drop (HT.jK its.length 0 lo)).take (HT.jK its.length its.length hi - HT.jK its.length 0 lo)).toArray:=by
 obtain⟨h1,h2,h3⟩:=aBK lo hi its.toArray.size
 unfold slicePick
 rw[h1,h2,h3]
 simp only[sliceRange_one,pick_run,List.size_toArray] <;> rfl
def aK6(K:W.Frag):V->Option Int->Option Int->Hp->VK->Prop:=fun x lo hi H Q=>∃a xs,x=.ref a/\bQ K H a xs/\∀p,H p=none->Q (.ref p) (upd H p (.lst (mY xs lo hi)))
theorem aHW:SlR X (aK6 X.K):=by
 intro pins s σ H x v vl vu lo hi sl Q I rx hs pl pu h
 obtain⟨a,xs,rfl,hx,q⟩:=h
 cases rx
 obtain⟨its,r,ht,hz⟩:=I.list hx
 have hlen:=r.length
 refine⟨"list",_,slot_list_getitem.lookup,ht.isList.typeIs,?_⟩
 refine wpAny_getItem_list_slice ht.isList hs pl pu .none (by simp) ?_ (by rw[List.size_toArray] <;> omega)
 rw[aAw,<-hlen]
 refine⟨.ref s.heap.objs.size,_,I.laid (t':=s.toks) (o:=.lst (mY xs lo hi)) (fun b ob q=>Heap.get?_push_of_some _ q) (Nat.le_refl _) ?_,rfl,q _ (I.hok.fresh (Nat.le_refl _))⟩
 exact⟨Nat.le_trans (dQ xs lo hi) hz,_,0,(r.drop (HT.jK xs.length 0 lo)).take (HT.jK xs.length xs.length hi - HT.jK xs.length 0 lo),Heap.get?_push_size _ rfl⟩
def kP:V->Bool
 |.non=>true
 |.bl _=>true
 |.int _=>true
 |.str _=>true
 |_=>false
def eqV:V->V->Bool
 |.non,.non=>true
 |.bl a,.bl b=>a == b
 |.bl a,.int b=>(if a then 1 else 0) == b
 |.int a,.bl b=>a == (if b then 1 else 0)
 |.int a,.int b=>a == b
 |.str a,.str b=>a == b
 |_,_=>false
theorem aGi{A:Around}{s:Shared}{y x:V}{u v:Value}(ry:RelV y u)(rx:RelV x v)(fy:kP y=true)(fx:kP x=true):SeqAt.EqAt A s u v (eqV y x):=by
 cases y with
 |non=>
  cases ry
  cases x with
  |non=>cases rx;exact SeqAt.EqAt.same _
  |bl b=>cases rx;exact SeqAt.EqAt.none_bool b
  |int b=>obtain⟨t,rfl⟩:=rx;exact SeqAt.EqAt.none_int b t
  |str b=>obtain⟨t,rfl⟩:=rx;exact SeqAt.EqAt.none_str b t
  |_=>exact absurd (show false=true from fx) Bool.false_ne_true
 |bl a=>
  cases ry
  cases x with
  |non=>cases rx;exact SeqAt.EqAt.bool_none a
  |bl b=>cases rx;exact SeqAt.EqAt.bool_bool a b
  |int b=>obtain⟨t,rfl⟩:=rx;exact SeqAt.EqAt.bool_int a b t
  |str b=>obtain⟨t,rfl⟩:=rx;exact SeqAt.EqAt.bool_str a b t
  |_=>exact absurd (show false=true from fx) Bool.false_ne_true
 |int a=>
  obtain⟨t',rfl⟩:=ry
  cases x with
  |non=>cases rx;exact SeqAt.EqAt.int_none a t'
  |bl b=>cases rx;exact SeqAt.EqAt.int_bool a t' b
  |int b=>obtain⟨t,rfl⟩:=rx;exact SeqAt.EqAt.int_int a t' b t
  |str b=>obtain⟨t,rfl⟩:=rx;exact SeqAt.EqAt.int_str a t' b t
  |_=>exact absurd (show false=true from fx) Bool.false_ne_true
 |str a=>
  obtain⟨t',rfl⟩:=ry
  cases x with
  |non=>cases rx;exact SeqAt.EqAt.str_none a t'
  |bl b=>cases rx;exact SeqAt.EqAt.str_bool a t' b
  |int b=>obtain⟨t,rfl⟩:=rx;exact SeqAt.EqAt.str_int a t' b t
  |str b=>obtain⟨t,rfl⟩:=rx;exact SeqAt.EqAt.str_str a t' b t
  |_=>exact absurd (show false=true from fx) Bool.false_ne_true
 |_=>exact absurd (show false=true from fy) Bool.false_ne_true
theorem aBL:d9 X (.type "list") (fun xs H Q=>∃p ys,xs=[.ref p]/\(bQ X.K H p ys\/lJ X.K H p ys)/\∀l,H l=none->Q (.ref l) (upd H l (.lst ys))):=by
 intro pins s σ H xs us Q I r h
 obtain⟨p,ys,rfl,hq,q⟩:=h
 obtain⟨u,rfl,rx⟩:=vals1 r
 cases rx
 have fin:∀(its:List Value),Vals ys its->ys.length<=sizeLine->∀(h':Heap) (c':Nat),(∀b o',s.heap.get? b=some o'->h'.get? b=some o')->
   h'.get? s.heap.objs.size=some { cls:=.type "list",dict:=none,data:=.seq its.toArray c',slots:=#[] }->EP X pins σ Q (.ref s.heap.objs.size) { s with heap:=h' }:=fun its r' hz h' c' kp e=>
  ⟨.ref s.heap.objs.size,_,I.laid (t':=s.toks) kp (Nat.le_refl _) (show bJ X.prog X.w _ h' _ (.lst ys) from⟨hz,its,c',r',e⟩),rfl,q _ (I.hok.fresh (Nat.le_refl _))⟩
 rcases hq with hq|hq
 ·obtain⟨its,r',pl,hz⟩:=I.list hq
  have hlen:=r'.length
  obtain⟨o,ho,hc,n,hd⟩:=pl.isList
  exact call_list_seq p (.inl rfl) ho hc hd (fun h' c' kp e=>fin its r' hz h' c' kp e) (by simp only[List.size_toArray] <;> omega)
 ·obtain⟨its,r',pl,hz⟩:=I.tuple hq
  have hlen:=r'.length
  obtain⟨o,ho,hc,n,hd⟩:=pl
  exact call_list_seq p (.inr rfl) ho hc hd (fun h' c' kp e=>fin its r' hz h' c' kp e) (by simp only[List.size_toArray] <;> omega)
def tyV(K:W.Frag)(T:String)(x:V)(H:Hp):Prop:=match x with
 |.str _=>T = "str"
 |.int _=>T = "int"
 |.ref p=>(T = "list"/\∃xs,bQ K H p xs)\/(T = "tuple"/\∃o,K.lookup p=some o/\o.cls=.type "tuple"/\o.dict=none)\/
   (T = "dict"/\((∃kvs,H p=some (.dK kvs))\/∃kvs,H p=some (.dT kvs)))\/(T = "set"/\∃S n,H p=some (.set S n))
 |_=>False
theorem aJM{pins:List (Addr×Obj)}{σ:St}{H:Hp}{s:Shared}{T:String}{x:V}{v:Value}(I:Inv X pins σ H s)(r:RelV x v)(ty:tyV X.K T x H) :
  s.TypeIs v T/\∀a,v=.ref a->∃ob,s.heap.get? a=some ob/\ob.dict=none:=by
 cases x with
 |str z=>
  obtain⟨t,rfl⟩:=r
  cases (show T = "str" from ty)
  exact⟨typeIs_str s z t,fun _ e=>nomatch e⟩
 |int i=>
  obtain⟨t,rfl⟩:=r
  cases (show T = "int" from ty)
  exact⟨typeIs_int s i t,fun _ e=>nomatch e⟩
 |ref p=>
  cases r
  rcases ty with ⟨rfl,xs,hq⟩|⟨rfl,o,hk,hc,hd⟩|⟨rfl,hk⟩|⟨rfl,S,n,hk⟩
  ·obtain⟨its,_,pl,_⟩:=I.list hq
   refine⟨pl.isList.typeIs,fun a e=>?_⟩
   cases e
   obtain⟨o,n,e,c,hd,_⟩:=pl
   exact⟨o,e,hd⟩
  ·refine⟨⟨o,I.pG p o hk,hc⟩,fun a e=>?_⟩
   cases e
   exact⟨o,I.pG _ o hk,hd⟩
  ·have z:∃o,s.heap.get? p=some o/\o.ExactDict:=by
    rcases hk with ⟨kvs,hk⟩|⟨kvs,hk⟩
    ·obtain⟨_,_,_,_,o,_,_,e,ex,_⟩:=I.hok p _ hk
     exact⟨o,e,ex⟩
    ·obtain⟨_,_,_,_,o,_,_,e,ex,_⟩:=I.hok p _ hk
     exact⟨o,e,ex⟩
   obtain⟨o,e,ex⟩:=z
   refine⟨⟨o,e,ex.1⟩,fun a e2=>?_⟩
   cases e2
   exact⟨o,e,ex.2.1⟩
  ·obtain⟨o,_,_,_,e,ex,_⟩:=I.hok p _ hk
   refine⟨⟨o,e,ex.1⟩,fun a e2=>?_⟩
   cases e2
   exact⟨o,e,ex.2.1⟩
 |_=>exact False.elim ty
def tBM(K:W.Frag)(T:String)(r:V->List V->Hp->VK->Prop)(to:TE)(t:TA):TE:=fun σ H Q=>to σ H fun x H1=>tyV K T x H1/\t σ H1 fun xs H2=>r x xs H2 Q
variable{o e:Expr}{es:List Expr}{to:TE}{t:TA}{name:Str}{apos cpos:Pos}{T id:String}{r:V->List V->Hp->VK->Prop}
theorem aI2(pa:PlainAttrs T)(slot:Slot T name id)(hty:typeOf (.builtin id)=pure (.type "method_descriptor"))(hm:MtR X id r)(ho:PE X o to)(ha:PA X (e::es) t)
  (hbase:attributeBase o name X.env (eval o X.env)=eval o X.env:=by rfl)
  (hfew:((backTo cpos (starEach (e::es) X.env)).all (fun x=>!x.1) && (backToKw cpos (keywordEach [] X.env)).all (fun x=>x.1.isSome)
   && decide ((e::es).length+([]:List Keyword).length+(if ([]:List Keyword).isEmpty then 0 else 1) < 30))=true:=by rfl)
  (hline:(apos.endLine == cpos.line)=true:=by rfl) (hs:starEach (e::es) X.env=(false,eval e X.env)::starEach es X.env:=by rfl) (hplain:(backTo cpos (starEach es X.env)).any (·.1)=false:=by rfl) :
  PE X (.Call (.Attribute o name apos) (e::es) [] cpos) (tBM X.K T r to t):=by
 intro pins s σ H Q I h
 refine wpAny_Call_method_late hbase hfew hline rfl (cK (ho pins s σ H _ I h) fun v s1 ⟨x,H1,I1,r1,ty,q1⟩=>?_)
 obtain⟨h1,h2⟩:=aJM I1 r1 ty
 refine⟨T,id,pa,slot,hty,h1,h2,?_⟩
 have hA:=ha cpos pins s1 σ H1 _ I1 q1
 rw[hs] at hA ⊢
 refine Calls.callWith_builtin (by show(false || (backTo cpos (starEach es X.env)).any (·.1))=false;rw[hplain] <;> rfl) (Calls.evalArgs_plain ?_)
 exact cK hA fun us s2 ⟨vs,H2,I2,r2,q2⟩=>hm pins s2 σ H2 x vs v us Q I2 r1 r2 q2
end
end L2
namespace L2
open PySem PySem.Spec PyProof.Rows
def MtM(X:Cx)(id:String)(r:V->List V->Hp->VK->Prop):Prop:=
 ∀(pins:List (Addr×Obj)) (s:Shared) (σ:St) (H:Hp) (x:V) (xs:List V) (v:Value) (us:List Value) (Q:VK),Inv X pins σ H s->RelV x v->Vals xs us->r x xs H Q->
  wpAny (model X.prog X.w) X.A (call (.builtin id) (v::us)) (EP X pins σ Q) X.xe s
theorem Vals.one:∀{x:V}{us:List Value},Vals [x] us->∃u,us=[u]/\RelV x u
 |_,_,.cons r .nil=>⟨_,rfl,r⟩
theorem Vals.rep{xs:List V}{us:List Value}(h:Vals xs us):∀k:Nat,Vals (List.replicate k xs).flatten (List.replicate k us).flatten
 |0=>.nil
 |k+1=>by
  rw[List.replicate_succ,List.replicate_succ,List.flatten_cons,List.flatten_cons]
  exact Vals.append h (Vals.rep h k)
theorem foldl_rep(its:List Value):∀(k:Nat) (acc:List Value),
  List.foldl (fun x1 x2=>x1++x2) acc.toArray (List.replicate k its.toArray)=(acc++(List.replicate k its).flatten).toArray
 |0,acc=>by simp
 |k+1,acc=>by
  have e:acc.toArray++its.toArray=(acc++its).toArray:=by simp
  have e2:(acc++its)++(List.replicate k its).flatten=acc++(List.replicate (k+1) its).flatten:=by
   rw[List.replicate_succ,List.flatten_cons,List.append_assoc]
  rw[<-e2,<-foldl_rep its k (acc++its),<-e,List.replicate_succ,List.foldl_cons]
section
variable{X:Cx}{pins:List (Addr×Obj)}{σ:St}{H:Hp}{s:Shared}{l b:Addr}{xs ys zs:List V}
theorem Inv.aLP{its its':List Value}{n:Nat}{f:Array Value->Array Value}{t':Nat}(I:Inv X pins σ H s)(hH:H l=some (.lst xs))
  (e:s.heap.get? l=some { cls:=.type "list",data:=.seq its.toArray n }) (hf:f its.toArray=its'.toArray) (hv:Vals ys its') (hz:ys.length<=sizeLine) :
  Inv X pins σ (upd H l (.lst ys)) { s with heap:=s.heap.update l (Obj.mapSeq f),toks:=t' }:=by
 have q:=PySem.IsL.update e f
 rw[hf] at q
 refine I.write (x:=l) (e:=l) (by rw[hH];exact trivial) (.inl rfl) (fun b' u hb hu=>(Heap.get?_update_other s.heap (Obj.mapSeq f) (Ne.symm hb)).trans hu) ⟨_,q⟩ ?_
 exact⟨hz,its',_,hv,q⟩
theorem Inv.aK7{its:List Value}{t':Nat}(I:Inv X pins σ H s)(hv:Vals ys its)(hz:ys.length<=sizeLine) :
  Inv X pins σ (upd H s.heap.objs.size (.lst ys)) { s with heap:=s.heap.push { cls:=.type "list",data:=.seq its.toArray },toks:=t' }:=
 I.laid (fun _ _ q=>Heap.get?_push_of_some _ q) (Nat.le_refl _) ⟨hz,its,0,hv,Heap.get?_push_size _ rfl⟩
theorem Inv.fresh(I:Inv X pins σ H s):H s.heap.objs.size=none:=I.hok.fresh (Nat.le_refl _)
theorem Inv.aGj(I:Inv X pins σ H s)(hH:H l=some (.lst xs)):xs.length<=sizeLine/\∃(its:List Value) (n:Nat),Vals xs its/\xs.length=its.length/\s.heap.get? l=some { cls:=.type "list",data:=.seq its.toArray n }:=by
 obtain⟨z,its,n,r,e⟩:=I.hok l _ hH
 exact⟨z,its,n,r,r.length,e⟩
theorem aGk{n:Nat}(h:n<=sizeLine):Builtin.List.listTooLong n=false:=by
 unfold Builtin.List.listTooLong
 exact decide_eq_false (by omega)
end
section
variable{X:Cx}
def yG:V->List V->Hp->VK->Prop:=fun x vs H Q=>∃l xs y,x=.ref l/\vs=[y]/\H l=some (.lst xs)/\xs.length < sizeLine/\Q .non (upd H l (.lst (xs ++ [y])))
theorem aFq:MtM X "list.append" yG:=by
 intro pins s σ H x vs v us Q I rx rv h
 obtain⟨l,xs,y,rfl,rfl,hH,hz,q⟩:=h
 cases rx
 obtain⟨u,rfl,ru⟩:=rv.one
 obtain⟨z,its,n,r,hl,e⟩:=I.aGj hH
 refine call_meets F.slot_list_append ⟨_,e,rfl⟩ F.entry_list_append (F.args_list_append_2 _ _) (PySem.list_append l its.toArray n u (by rw[List.size_toArray];omega)) ⟨e,?_⟩
 refine⟨.non,_,I.aLP (its':=its ++ [u]) hH e (by simp) (r.append (.cons ru .nil)) ?_,rfl,q⟩
 rw[List.length_append,List.length_singleton]
 omega
def aK8:R2:=fun x y H Q=>∃l b xs zs,x=.ref l/\y=.ref b/\H l=some (.lst xs)/\H b=some (.lst zs)/\xs.length+zs.length<=sizeLine/\∀p,H p=none->Q (.ref p) (upd H p (.lst (xs++zs)))
theorem aJN:pT X (binaryOp .Add) aK8:=by
 intro pins s σ H x y v u Q I rx ry h
 obtain⟨l,b,xs,zs,rfl,rfl,hH,hB,hz,q⟩:=h
 cases rx
 cases ry
 obtain⟨z,its,n,r,hl,e⟩:=I.aGj hH
 obtain⟨z2,its2,n2,r2,hl2,e2⟩:=I.aGj hB
 refine PySem.P.add_list e e2 ?_ (by rw[List.size_toArray,List.size_toArray];omega)
 have ea:its.toArray++its2.toArray=(its++its2).toArray:=by simp
 rw[ea]
 exact⟨.ref _,_,I.aK7 (t':=s.toks) (r.append r2) (by rw[List.length_append];omega),rfl,q _ I.fresh⟩
def aK9:R2:=fun x y H Q=>∃l k xs,x=.ref l/\y=.int k/\H l=some (.lst xs)/\-(2 ^ 63)<=k/\k < 2 ^ 63/\xs.length*k.toNat<=sizeLine/\
 ∀p,H p=none->Q (.ref p) (upd H p (.lst (List.replicate k.toNat xs).flatten))
theorem len_rep{α:Type}(xs:List α)(k:Nat):(List.replicate k xs).flatten.length=k*xs.length:=by
 induction k with
 |zero=>simp
 |succ k ih=>rw[List.replicate_succ,List.flatten_cons,List.length_append,ih,Nat.succ_mul,Nat.add_comm]
theorem aJO:pT X (binaryOp .Mult) aK9:=by
 intro pins s σ H x y v u Q I rx ry h
 obtain⟨l,k,xs,rfl,rfl,hH,h1,h2,hz,q⟩:=h
 cases rx
 obtain⟨t,rfl⟩:=ry
 obtain⟨z,its,n,r,hl,e⟩:=I.aGj hH
 have hlen:its.toArray.size*k.toNat<=sizeLine:=by rw[List.size_toArray,<-hl];exact hz
 have hcap:¬its.toArray.size*k.toNat > (2 ^ 63 - 1) / 8:=by
  have:(sizeLine:Nat)<=(2 ^ 63 - 1) / 8:=by decide
  omega
 have hfit:¬(!Builtin.List.listFitsIndex k)=true:=by
  rw[fitsIndex_both h1 h2]
  exact Bool.false_ne_true
 have hlong:¬Builtin.List.listTooLong (its.toArray.size*k.toNat)=true:=by
  rw[aGk hlen]
  exact Bool.false_ne_true
 have hnew:List.foldl (fun x1 x2=>x1++x2) #[] (List.replicate (if its.toArray.isEmpty=true then 0 else k.toNat) its.toArray)=(List.replicate k.toNat its).flatten.toArray:=by
  have f0:∀m:Nat,List.foldl (fun x1 x2=>x1++x2) #[] (List.replicate m its.toArray)=(List.replicate m its).flatten.toArray:=fun m=>by
   have:=foldl_rep its m []
   rw[List.nil_append] at this
   exact this
  rw[f0]
  cases its with
  |nil=>simp
  |cons a r'=>rw[if_neg (by simp)]
 refine wpAny_binaryOp_repeat_ref (T:="list") (U:="int") (by decide) ⟨_,e,rfl⟩ (fun s'=>typeIs_int s' k t) noFill_list_mul F.fills_int_mul F.slot_int_rmul repeat_list F.slot_int_index.lookup
  (call_meets F.slot_int_rmul (typeIs_int s k t) F.entry_int_rmul (F.args_int_rmul_2 _ _) (int___rmul___int_list k t l its.toArray n)
   ⟨e,rfl,⟨_,e,rfl⟩,call_meets F.slot_list_mul ⟨_,e,rfl⟩ F.entry_list_mul (F.args_list_mul_2 _ _) (AutoListH.list___mul___list_int_3 l its.toArray n k t hfit hcap hlong) ⟨e,?_⟩⟩)
 rw[hnew]
 exact⟨.ref _,_,I.aK7 (t':=s.toks) (r.rep k.toNat) (by rw[len_rep,Nat.mul_comm];exact hz),rfl,q _ I.fresh⟩
end
section
variable{prog:Program}{w:World}{A:Around}{E:Value->Shared->Prop}{s:Shared}
end
section
variable{X:Cx}
end
end L2
namespace L2
open PySem PySem.Spec PyProof.Rows
section
variable{κ:Type}[DecidableEq κ]
def nO(kvs:List (κ×V))(k:κ):Option V:=(kvs.find? fun kv=>decide (kv.1=k)).map (·.2)
def putK(kvs:List (κ×V))(k:κ)(v:V):List (κ×V):=
 if (kvs.any fun kv=>decide (kv.1=k))=true then kvs.map (fun kv=>if kv.1=k then (kv.1,v) else kv) else kvs ++ [(k,v)]
def aI3(kvs:List (κ×V))(k:κ):List (κ×V):=kvs.filter fun kv=>decide (kv.1≠k)
theorem jL{p:κ×V}{r:List (κ×V)}{k:κ}(e:p.1=k):nO (p::r) k=some p.2:=by simp[nO,List.find?_cons,e]
theorem gU{p:κ×V}{r:List (κ×V)}{k:κ}(e:¬p.1=k):nO (p::r) k=nO r k:=by simp[nO,List.find?_cons,e]
theorem uK(k:κ):∀kvs:List (κ×V),(kvs.any fun kv=>decide (kv.1=k))=(nO kvs k).isSome
 |[]=>rfl
 |p::r=>by
  rw[List.any_cons]
  by_cases e:p.1=k
  ·simp only[jL e,decide_eq_true e,Bool.true_or,Option.isSome_some]
  ·rw[gU e,decide_eq_false e,Bool.false_or];exact uK k r
theorem pX(k j:κ)(y:V):∀kvs:List (κ×V),nO (kvs.map fun kv=>if kv.1=k then (kv.1,y) else kv) j=(nO kvs j).map fun x=>if j=k then y else x
 |[]=>rfl
 |p::r=>by
  have ih:=pX k j y r
  rw[List.map_cons]
  by_cases h:p.1=k
  ·rw[if_pos h]
   by_cases e:p.1=j
   ·rw[jL (p:=(p.1,y)) e,jL e,Option.map_some,if_pos (e.symm.trans h)]
   ·rw[gU (p:=(p.1,y)) e,gU e,ih]
  ·rw[if_neg h]
   by_cases e:p.1=j
   ·rw[jL (p:=p) e,jL e,Option.map_some,if_neg (fun z=>h (e.trans z))]
   ·rw[gU (p:=p) e,gU e,ih]
theorem pY(kvs:List (κ×V))(k:κ)(v:V):(putK kvs k v).length<=kvs.length+1:=by
 unfold putK
 split
 ·rw[List.length_map];omega
 ·rw[List.length_append,List.length_cons,List.length_nil];omega
theorem yX{kvs:List (κ×V)}{k:κ}(v:V)(h:nO kvs k=none):putK kvs k v=kvs ++ [(k,v)]:=by
 unfold putK
 rw[uK,h]
 exact if_neg (by decide)
theorem pK.aFr{o:Option V}{u:Option Value}(r:pK o u):o.isSome=u.isSome:=by
 cases o with
 |none=>cases u with
  |none=>rfl
  |some _=>exact(show False from r).elim
 |some _=>cases u with
  |none=>exact(show False from r).elim
  |some _=>rfl
theorem pK.getD{o:Option V}{u:Option Value}{d:V}{d':Value}(r:pK o u)(rd:RelV d d'):RelV (o.getD d) (u.getD d'):=by
 cases o with
 |none=>cases u with
  |none=>exact rd
  |some _=>exact(show False from r).elim
 |some _=>cases u with
  |none=>exact(show False from r).elim
  |some _=>exact r
theorem KV.val{kvs:List (κ×V)}{vs:List (κ×Value)}(r:KV kvs vs)(k:κ):pK (nO kvs k) (valueAt vs k):=by
 unfold KV at r
 induction r with
 |nil=>exact True.intro
 |@cons p q ps qs h t ih=>
  obtain⟨h1,h2⟩:=h
  by_cases e:p.1=k
  ·have e':q.1=k:=h1.symm.trans e
   have b:valueAt (q::qs) k=some q.2:=by simp[valueAt,List.find?_cons,e']
   rw[jL e,b];exact h2
  ·have e':¬q.1=k:=fun z=>e (h1.trans z)
   have b:valueAt (q::qs) k=valueAt qs k:=by simp[valueAt,List.find?_cons,e']
   rw[gU e,b];exact ih
theorem KV.any{kvs:List (κ×V)}{vs:List (κ×Value)}(r:KV kvs vs)(k:κ):(kvs.any fun kv=>decide (kv.1=k))=vs.any fun kv=>decide (kv.1=k):=by
 unfold KV at r
 induction r with
 |nil=>rfl
 |cons h t ih=>rw[List.any_cons,List.any_cons,ih,h.1]
theorem KV.aJP{kvs:List (κ×V)}{vs:List (κ×Value)}(r:KV kvs vs)(k:κ){y:V}{u:Value}(ry:RelV y u) :
  KV (kvs.map fun kv=>if kv.1=k then (kv.1,y) else kv) (vs.map fun kv=>if kv.1=k then (kv.1,u) else kv):=by
 unfold KV at r ⊢
 induction r with
 |nil=>exact .nil
 |@cons p q ps qs h t ih=>
  rw[List.map_cons,List.map_cons]
  refine .cons ?_ ih
  obtain⟨h1,h2⟩:=h
  by_cases e:p.1=k
  ·rw[if_pos e,if_pos (h1.symm.trans e)];exact⟨h1,ry⟩
  ·rw[if_neg e,if_neg (fun z=>e (h1.trans z))];exact⟨h1,h2⟩
theorem KV.put{kvs:List (κ×V)}{vs:List (κ×Value)}(r:KV kvs vs)(k:κ){y:V}{u:Value}(ry:RelV y u):KV (putK kvs k y) (stored vs k u):=by
 unfold putK stored
 rw[r.any k]
 by_cases e:(vs.any fun kv=>decide (kv.1=k))=true
 ·rw[if_pos e,if_pos e];exact r.aJP k ry
 ·rw[if_neg e,if_neg e];exact Paired.snoc r ⟨rfl,ry⟩
theorem KV.drop{kvs:List (κ×V)}{vs:List (κ×Value)}(r:KV kvs vs)(k:κ):KV (aI3 kvs k) (without vs k):=by
 unfold KV at r ⊢
 unfold aI3 without
 induction r with
 |nil=>exact .nil
 |@cons p q ps qs h t ih=>
  obtain⟨h1,h2⟩:=h
  rw[List.filter_cons,List.filter_cons]
  by_cases e:p.1=k
  ·have a:¬decide (p.1≠k)=true:=by simp[e]
   have b:¬decide (q.1≠k)=true:=by simp[h1.symm.trans e]
   rw[if_neg a,if_neg b];exact ih
  ·have e':¬q.1=k:=fun z=>e (h1.trans z)
   have a:decide (p.1≠k)=true:=by simp[e]
   have b:decide (q.1≠k)=true:=by simp[e']
   rw[if_pos a,if_pos b];exact .cons ⟨h1,h2⟩ ih
theorem KV.length{kvs:List (κ×V)}{vs:List (κ×Value)}(r:KV kvs vs):kvs.length=vs.length:=Paired.length r
end
theorem aEF{P:Program}{w:World}{k:Key}{u:Value}(r:RelV (kV k) u):(dA P w).is k u=true:=by
 cases k with
 |inl i=>obtain⟨t,e⟩:=(show ∃t,u=Value.int i t from r);subst e;exact aCD P w i t
 |inr x=>obtain⟨t,e⟩:=(show ∃t,u=Value.str x t from r);subst e;exact aCE P w x t
theorem aA8{P:Program}{w:World}:∀{ks:List Key}{us:List Value},Vals (ks.map kV) us->ItemsAre (dA P w) ks us
 |[],_,r=>by rw[List.map_nil] at r;cases r;exact .nil
 |k::ks,_,r=>by
  rw[List.map_cons] at r
  cases r with
  |cons h t=>exact .cons (aEF h) (aA8 t)
abbrev KT(H:Hp):List (List Key×V)->List (List Key×Addr×Value)->Prop:=Paired fun p q=>p.1=q.1/\H q.2.1=some (.tup (p.1.map kV))/\RelV p.2 q.2.2
theorem KT.val{H:Hp}{kvs:List (List Key×V)}{xs:List (List Key×Addr×Value)}(r:KT H kvs xs)(k:List Key):pK (nO kvs k) ((atKey xs k).map (·.2)):=by
 induction r with
 |nil=>exact True.intro
 |@cons p q ps qs h t ih=>
  obtain⟨h1,_,h2⟩:=h
  by_cases e:p.1=k
  ·have e':q.1=k:=h1.symm.trans e
   have b:atKey (q::qs) k=some q.2:=by simp[atKey,List.find?_cons,e']
   rw[jL e,b];exact h2
  ·have e':¬q.1=k:=fun z=>e (h1.trans z)
   have b:atKey (q::qs) k=atKey qs k:=by simp[atKey,List.find?_cons,e']
   rw[gU e,b];exact ih
theorem KT.aJP{H:Hp}{kvs:List (List Key×V)}{xs:List (List Key×Addr×Value)}(r:KT H kvs xs)(k:List Key){y:V}{u:Value}(ry:RelV y u) :
  KT H (kvs.map fun kv=>if kv.1=k then (kv.1,y) else kv) (xs.map (putAt k u)):=by
 induction r with
 |nil=>exact .nil
 |@cons p q ps qs h t ih=>
  rw[List.map_cons,List.map_cons]
  refine .cons ?_ ih
  obtain⟨h1,h2,h3⟩:=h
  unfold putAt
  by_cases e:p.1=k
  ·rw[if_pos e,if_pos (h1.symm.trans e)];exact⟨h1,h2,ry⟩
  ·rw[if_neg e,if_neg (fun z=>e (h1.trans z))];exact⟨h1,h2,h3⟩
theorem KT.put{H:Hp}{kvs:List (List Key×V)}{xs:List (List Key×Addr×Value)}(r:KT H kvs xs)(k:List Key){b:Addr}{y:V}{u:Value}(hb:H b=some (.tup (k.map kV)))(ry:RelV y u) :
  KT H (putK kvs k y) (storedH xs k b u):=by
 have e:(kvs.any fun kv=>decide (kv.1=k))=(atKey xs k).isSome:=by
  rw[uK,(r.val k).aFr,Option.isSome_map]
 unfold putK storedH
 rw[e]
 by_cases q:(atKey xs k).isSome=true
 ·rw[if_pos q,if_pos q];exact r.aJP k ry
 ·rw[if_neg q,if_neg q];exact Paired.snoc r ⟨rfl,hb,ry⟩
theorem KT.keeps{H H':Hp}{kvs:List (List Key×V)}{xs:List (List Key×Addr×Value)}(r:KT H kvs xs)(ht:∀b ys,H b=some (.tup ys)->H' b=some (.tup ys)):KT H' kvs xs:=
 Paired.aJm r fun _ _ z=>⟨z.1,ht _ _ z.2.1,z.2.2⟩
section
variable{P:Program}{w:World}{H:Hp}{h:Heap}{a:Addr}
theorem aI4{u:HO}(ok:pM P w H h)(e:Rd H a u):bJ P w H h a u:=e.ok ok
theorem aCM{kvs:List (Key×V)}(ok:pM P w H h)(e:Rd H a (.dK kvs)):kvs.length<=sizeLine/\(a == sysModules)=false/\∃vs,KV kvs vs/\h.DictOf (dA P w) a vs:=
 show bJ P w H h a (.dK kvs) from aI4 ok e
theorem aLa{kvs:List (Key×V)}(ok:pM P w H h)(e:H a=some (.dK kvs)):kvs.length<=sizeLine/\(a == sysModules)=false/\∃vs,KV kvs vs/\h.DictOf (dA P w) a vs:=aCM ok (.inl e)
theorem yY{ks:List Key}(ok:pM P w H h)(e:H a=some (.tup (ks.map kV))):(tupleKind (dA P w)).is h ks a:=by
 obtain⟨_,its,r,o,h1,h2,n,h3⟩:=(show bJ P w H h a (.tup (ks.map kV)) from ok a _ e)
 exact⟨o,its.toArray,n,h1,h2,h3,by simpa using aA8 r⟩
theorem aCN{kvs:List (List Key×V)}(ok:pM P w H h)(e:Rd H a (.dT kvs)):kvs.length<=sizeLine/\(a == sysModules)=false/\
  ∃xs,KT H kvs xs/\h.DictOfH (tupleKind (dA P w)) a xs:=by
 obtain⟨z,y,xs,r,o,es,ep,h1,h2,h3,h4,h5⟩:=(show bJ P w H h a (.dT kvs) from aI4 ok e)
 refine⟨z,y,xs,r,o,es,ep,h1,h2,h3,h4,fun x hx=>?_,h5⟩
 have all:∀{l:List (List Key×V)} {m:List (List Key×Addr×Value)},KT H l m->∀x∈m,(tupleKind (dA P w)).is h x.1 x.2.1:=by
  intro l m q
  induction q with
  |nil=>intro x hx;exact nomatch hx
  |@cons p q ps qs hq t ih=>
   intro x hx
   rcases List.mem_cons.mp hx with e|hx
   ·subst e
    exact yY ok (by rw[<-hq.1];exact hq.2.1)
   ·exact ih x hx
 exact all r x hx
theorem aI5{kvs:List (List Key×V)}(ok:pM P w H h)(e:H a=some (.dT kvs)):kvs.length<=sizeLine/\(a == sysModules)=false/\
  ∃xs,KT H kvs xs/\h.DictOfH (tupleKind (dA P w)) a xs:=aCN ok (.inl e)
end
def pZ(H:Hp)(a:Addr)(y:V)(r:Option V):Prop:=
 (∃kvs k,Rd H a (.dK kvs)/\y=kV k/\r=nO kvs k)\/∃kvs k b,Rd H a (.dT kvs)/\y=.ref b/\H b=some (.tup (k.map kV))/\r=nO kvs k
def yZ(H:Hp)(a:Addr)(y v:V)(H':Hp):Prop:=
 (∃kvs k,H a=some (.dK kvs)/\y=kV k/\kvs.length < sizeLine/\H'=upd H a (.dK (putK kvs k v)))\/
 ∃kvs k b,H a=some (.dT kvs)/\y=.ref b/\H b=some (.tup (k.map kV))/\kvs.length < sizeLine/\H'=upd H a (.dT (putK kvs k v))
theorem pZ.k{H:Hp}{a:Addr}{kvs:List (Key×V)}{k:Key}(e:H a=some (.dK kvs)):pZ H a (kV k) (nO kvs k):=.inl ⟨kvs,k,.inl e,rfl,rfl⟩
theorem pZ.t{H:Hp}{a b:Addr}{kvs:List (List Key×V)}{k:List Key}(e:H a=some (.dT kvs))(eb:H b=some (.tup (k.map kV))):pZ H a (.ref b) (nO kvs k):=.inr ⟨kvs,k,b,.inl e,rfl,eb,rfl⟩
theorem yZ.k{H:Hp}{a:Addr}{kvs:List (Key×V)}{k:Key}{v:V}(e:H a=some (.dK kvs))(hl:kvs.length < sizeLine):yZ H a (kV k) v (upd H a (.dK (putK kvs k v))):=.inl ⟨kvs,k,e,rfl,hl,rfl⟩
theorem yZ.t{H:Hp}{a b:Addr}{kvs:List (List Key×V)}{k:List Key}{v:V}(e:H a=some (.dT kvs))(eb:H b=some (.tup (k.map kV)))(hl:kvs.length < sizeLine) :
  yZ H a (.ref b) v (upd H a (.dT (putK kvs k v))):=.inr ⟨kvs,k,b,e,rfl,eb,hl,rfl⟩
section
variable{X:Cx}{pins:List (Addr×Obj)}{σ:St}{H:Hp}{s:Shared}{a:Addr}{y v:V}{u r:Value}{o:Option V}{A:Around}{E:Value->Shared->Prop}
theorem Inv.big(I:Inv X pins σ H s):sysModules < s.heap.objs.size:=by
 have h:mainGlobals < s.heap.objs.size:=(I.mod.glob.keeps I.bk).lt
 exact Nat.lt_trans (by decide) h
theorem aFs{Q:Value->Shared->Prop}(hu:A.units+1 < cLine)(I:Inv X pins σ H s)(g:pZ H a y (some v))(ry:RelV y u)(h:∀w' s',Inv X pins σ H s'->RelV v w'->Q w' s') :
  wpAny (model X.prog X.w) A (getItem (.ref a) u) Q E s:=by
 rcases g with ⟨kvs,k,e,ey,l⟩|⟨kvs,k,b,e,ey,eb,l⟩
 ·subst ey
  obtain⟨z,hd,vs,rel,dd⟩:=aCM I.hok e
  obtain⟨w',hw,rw'⟩:=pK.some_of (v:=v) (o:=valueAt vs k) (by rw[l];exact rel.val k)
  exact wpAny_getItem_of (aEF ry) dd.mapOf hw (h w' _ (I.tok _) rw')
 ·subst ey
  cases (show u=Value.ref b from ry)
  obtain⟨z,hd,xs,rel,dd⟩:=aCN I.hok e
  obtain⟨w',hw,rw'⟩:=pK.some_of (v:=v) (o:=(atKey xs k).map (·.2)) (by rw[l];exact rel.val k)
  obtain⟨p,hp,hp2⟩:=Option.map_eq_some_iff.mp hw
  refine wpAny_getItem_heap (tupleKind_room_in1 hu) (yY I.hok eb) dd hp ?_
  rw[hp2]
  exact h w' _ (I.tok _) rw'
theorem aBM{h':Heap}{t':Nat}{ob:HO}(I:Inv X pins σ H s)(mu:Mut (H a))(hs:Heap.SameBut a s.heap h')(he:∃q,h'.get? a=some q)(new:bJ X.prog X.w (upd H a ob) h' a ob) :
  Inv X pins σ (upd H a ob) { s with heap:=h',toks:=t' }:=
 I.write (x:=a) (e:=a) mu (.inl rfl) (fun b q hb z=>(hs.2 b hb).trans z) he new
theorem aJQ{P:Program}{w:World}{H':Hp}{h':Heap}{kvs:List (Key×V)}{vs:List (Key×Value)}(z:kvs.length<=sizeLine)(hd:(a == sysModules)=false)(rel:KV kvs vs)(dd:h'.DictOf (dA P w) a vs) :
  bJ P w H' h' a (.dK kvs):=⟨z,hd,vs,rel,dd⟩
theorem aFt{H':Hp}{Q:Unit->Shared->Prop}(hu:A.units+1 < cLine)(I:Inv X pins σ H s)(g:yZ H a y v H')(ry:RelV y u)(rv:RelV v r)(h:∀s',Inv X pins σ H' s'->Q () s') :
  wpAny (model X.prog X.w) A (setItem (.ref a) u r) Q E s:=by
 rcases g with ⟨kvs,k,e,ey,l,eH⟩|⟨kvs,k,b,e,ey,eb,l,eH⟩
 ·subst ey eH
  obtain⟨z,hd,vs,rel,dd⟩:=aLa I.hok e
  have hz:vs.length<=sizeLine:=by rw[<-rel.length];exact z
  have hl:(putK kvs k v).length<=sizeLine:=by have:=pY kvs k v;omega
  refine wpAny_setItem_pairs (hsz:=hz) (aEF ry) dd fun h' dd' hs=>h _ ?_
  have he:∃q,h'.get? a=some q:=let ⟨q,_,_,hq,_⟩:=dd';⟨q,hq⟩
  exact aBM I (by rw[e];exact True.intro) hs he (aJQ hl hd (rel.put k rv) dd')
 ·subst ey eH
  cases (show u=Value.ref b from ry)
  obtain⟨z,hd,xs,rel,dd⟩:=aI5 I.hok e
  have hz:xs.length<=sizeLine:=by rw[<-Paired.length rel];exact z
  have hl:(putK kvs k v).length<=sizeLine:=by have:=pY kvs k v;omega
  refine wpAny_setItem_heap (hsz:=hz) (tupleKind_room_in1 hu) (yY I.hok eb) dd fun h' dd' hs=>h _ ?_
  obtain⟨q,es,ep,hq,h2,h3,h4,_,h5⟩:=dd'
  refine aBM I (by rw[e];exact True.intro) hs ⟨q,hq⟩ ⟨hl,hd,_,(rel.put k eb rv).keeps fun c ys ec=>?_,q,es,ep,hq,h2,h3,h4,h5⟩
  rw[aL (aIY ec e (fun z=>nomatch z))]
  exact ec
end
section
variable{X:Cx}{pins:List (Addr×Obj)}{σ:St}{H:Hp}{s:Shared}{a:Addr}{kvs:List (Key×V)}{k:Key}{u:Value}{A:Around}{E:Value->Shared->Prop}
end
def aJR(i:Expr):Prop:=∀ov iv,subscripted i false ov iv=operate [ov,iv] (getItem ov iv)
theorem aHX{prog:Program}{w:World}{A:Around}{E:Value->Shared->Prop}{s:Shared}{env:Env}{value slice:Expr}{pos:Pos}{T id:String}{Q:Value->Shared->Prop}
  (hl:typeLookup (.type T) "__getitem__" = pure (some (.builtin id))) (hs:aJR slice)
  (h:wpAny (model prog w) A (eval value env) (fun o s₁=>wpAny (model prog w) A (eval slice env) (fun i s₂=>s₂.TypeIs o T/\wpAny (model prog w) A (getItem o i) Q E s₂) E s₁) E s) :
  wpAny (model prog w) A (eval (.Subscript value slice pos) env) Q E s:=by
 refine Subscript_ (wpAny_mono h (fun o s₁ h₁=>wpAny_mono h₁ (fun i s₂ h₂=>?_) fun _ _ x=>x) fun _ _ x=>x)
 obtain⟨hT,h₂⟩:=h₂
 unfold subscriptTail
 refine wpAny_bind ?_
 rw[getitemInPython_of_ne hT.not_modules]
 refine wpAny_bind (wpAny_specialOf hT hl ?_)
 have fin:wpAny (model prog w) A (subscripted slice false o i) (fun r s₃=>wpAny (model prog w) A (letTemporaryGo value o r >>= fun _=>pure r) Q E s₃) E s₂:=by
  rw[hs o i]
  exact wpAny_operating (wpAny_mono h₂ (fun r s₃ h₃=>wpAny_bind (wpAny_letTemporaryGo (wpAny_pure h₃))) fun _ _ x=>x)
 first
  |exact wpAny_pure (wpAny_bind fin)
  |exact wpAny_bind (wpAny_pure (wpAny_bind fin))
  |exact wpAny_bind fin
theorem aCO{X:Cx}{pins:List (Addr×Obj)}{σ:St}{H:Hp}{s:Shared}{a:Addr}{y:V}{o:Option V}(I:Inv X pins σ H s)(g:pZ H a y o):s.TypeIs (.ref a) "dict":=by
 rcases g with ⟨kvs,k,e,_,_⟩|⟨kvs,k,b,e,_,_,_⟩
 ·obtain⟨_,_,vs,_,dd⟩:=aCM I.hok e
  exact dd.typeIs
 ·obtain⟨_,_,xs,_,dd⟩:=aCN I.hok e
  exact dd.typeIs
def aGl(td ty:TE):TE:=fun σ H Q=>td σ H fun x H1=>ty σ H1 fun y H2=>∃a v,x=.ref a/\pZ H2 a y (some v)/\Q v H2
def aGm(td ty tv:TE):TS:=fun D σ H=>tv σ H fun v H1=>td σ H1 fun x H2=>ty σ H2 fun y H3=>∃a H4,x=.ref a/\yZ H3 a y v H4/\D.nx σ H4
section
variable{X:Cx}{o i e value:Expr}{pos pos' tpos:Pos}{td ty tv:TE}
theorem aHY(hu:X.A.units+1 < cLine)(ho:PE X o td)(hi:PE X i ty)(hs:aJR i):PE X (.Subscript o i pos) (aGl td ty):=by
 intro pins s σ H Q I h
 refine aHX PySem.F.slot_dict_getitem.lookup hs (cK (ho pins s σ H _ I h) fun u s1 ⟨x,H1,I1,rx,q1⟩=>cK (hi pins s1 σ H1 _ I1 q1) fun iv s2 ⟨y,H2,I2,ry,a,v,ex,g,q2⟩=>?_)
 subst ex
 obtain rfl:u=Value.ref a:=rx
 exact⟨aCO I2 g,aFs hu I2 g ry fun w' s3 I3 rw'=>⟨v,H2,I3,rw',q2⟩⟩
theorem oH(hu:X.A.units+1 < cLine)(ho:PE X o td)(hi:PE X i ty)(hv:PE X value tv)(hs:swapsWith value (some (.Subscript o i pos')) pos.line X.env=pure false) :
  PS X (.Assign [.Subscript o i pos'] value pos) (aGm td ty tv):=by
 intro pins s σ H D I h
 refine wpAny_Assign_Subscript (cK (hv pins s σ H _ I h) fun r s1 ⟨v,H1,I1,rv,q1⟩=>cK (ho pins s1 σ H1 _ I1 q1) fun u s2 ⟨x,H2,I2,rx,q2⟩=>cK (hi pins s2 σ H2 _ I2 q2) fun iv s3 ⟨y,H3,I3,ry,a,H4,ex,g,q3⟩=>?_) hs
 subst ex
 obtain rfl:u=Value.ref a:=rx
 exact aFt hu I3 g ry rv fun s4 I4=>⟨σ,H4,I4,q3⟩
end
theorem aGn{P:Program}{w:World}{H:Hp}(h:Heap)(hb:sysModules < h.objs.size):bJ P w H (h.push { cls:=.type "dict",data:=.dict #[] }) h.objs.size (.dK []):=
 ⟨Nat.zero_le _,beq_eq_false_iff_ne.mpr (Ne.symm (Nat.ne_of_lt hb)),[],.nil,Heap.DictOf.new h⟩
theorem aCP{P:Program}{w:World}{H:Hp}(h:Heap)(hb:sysModules < h.objs.size):bJ P w H (h.push { cls:=.type "dict",data:=.dict #[] }) h.objs.size (.dT []):=
 ⟨Nat.zero_le _,beq_eq_false_iff_ne.mpr (Ne.symm (Nat.ne_of_lt hb)),[],.nil,_,#[],0,Heap.get?_push_size _ rfl,⟨rfl,rfl,rfl⟩,rfl,rfl,List.nodup_nil⟩
def aJS:TE:=fun _ H Q=>∀p,H p=none->Q (.ref p) (upd H p (.dK []))
def aJT:TE:=fun _ H Q=>∀p,H p=none->Q (.ref p) (upd H p (.dT []))
section
variable{X:Cx}{pos:Pos}
theorem aGo:PE X (.Dict [] [] pos) aJS:=fun pins s σ H Q I h=>
 wpAny_Dict_empty ⟨.ref s.heap.objs.size,_,I.laid (a:=s.heap.objs.size) (o:=.dK []) (t':=s.toks) (fun _ _ q=>Heap.get?_push_of_some _ q) (Nat.le_refl _) (aGn s.heap I.big),rfl,h _ (I.hok.fresh (Nat.le_refl _))⟩
theorem aGp:PE X (.Dict [] [] pos) aJT:=fun pins s σ H Q I h=>
 wpAny_Dict_empty ⟨.ref s.heap.objs.size,_,I.laid (a:=s.heap.objs.size) (o:=.dT []) (t':=s.toks) (fun _ _ q=>Heap.get?_push_of_some _ q) (Nat.le_refl _) (aCP s.heap I.big),rfl,h _ (I.hok.fresh (Nat.le_refl _))⟩
end
structure M2(X:Cx)(o:Expr)(m:Str)(apos:Pos)(e f:Expr)(cpos:Pos):Prop where
 base:attributeBase o m X.env (eval o X.env)=eval o X.env
 few:((backTo cpos (starEach [e,f] X.env)).all (fun x=>!x.1) && (backToKw cpos (keywordEach [] X.env)).all (fun x=>x.1.isSome)
  && decide (([e,f]:List Expr).length+([]:List Keyword).length+(if ([]:List Keyword).isEmpty then 0 else 1) < 30))=true
 line:(apos.endLine == cpos.line)=true
 trees:backTo cpos (starEach [e,f] X.env)=[(false,eval e X.env),(false,eval f X.env)]
def IsD(H:Hp)(a:Addr):Prop:=(∃kvs,Rd H a (.dK kvs))\/∃kvs,Rd H a (.dT kvs)
theorem aJU{X:Cx}{pins:List (Addr×Obj)}{σ:St}{H:Hp}{s:Shared}{a:Addr}(I:Inv X pins σ H s)(d:IsD H a) :
  s.TypeIs (.ref a) "dict"/\(∀b,Value.ref a=.ref b->∃ob,s.heap.get? b=some ob/\ob.dict=none)/\(a == sysModules)=false:=by
 rcases d with ⟨kvs,e⟩|⟨kvs,e⟩
 ·obtain⟨_,hd,vs,_,dd⟩:=aCM I.hok e
  refine⟨dd.typeIs,fun b q=>?_,hd⟩
  cases q
  obtain⟨ob,_,_,h1,h2,_⟩:=dd
  exact⟨ob,h1,h2.2.1⟩
 ·obtain⟨_,hd,xs,_,dd⟩:=aCN I.hok e
  refine⟨dd.typeIs,fun b q=>?_,hd⟩
  cases q
  obtain⟨ob,_,_,h1,h2,_⟩:=dd
  exact⟨ob,h1,h2.2.1⟩
section
variable{X:Cx}{pins:List (Addr×Obj)}{σ:St}{H:Hp}{s:Shared}{a:Addr}{y d:V}{u r:Value}{o:Option V}{A:Around}{E:Value->Shared->Prop}
theorem aJV{Q:Value->Shared->Prop}(hu:A.units+1 < cLine)(I:Inv X pins σ H s)(g:pZ H a y o)(ry:RelV y u)(rd:RelV d r)(h:∀w' s',Inv X pins σ H s'->RelV (o.getD d) w'->Q w' s') :
  wpAny (model X.prog X.w) A (call (.builtin "dict.get") [.ref a,u,r]) Q E s:=by
 rcases g with ⟨kvs,k,e,ey,l⟩|⟨kvs,k,b,e,ey,eb,l⟩
 ·subst ey
  obtain⟨z,hd,vs,rel,dd⟩:=aCM I.hok e
  refine call_meetsIn PySem.F.slot_dict_get dd.typeIs PySem.F.entry_dict_get (PySem.F.args_dict_get_3 _ _ _) (meets_dict_get_default (dA X.prog X.w) a (aEF ry) hd r) ⟨_,dd.mapOf,h _ _ (I.tok _) ?_⟩
  rw[l]
  exact(rel.val k).getD rd
 ·subst ey
  cases (show u=Value.ref b from ry)
  obtain⟨z,hd,xs,rel,dd⟩:=aCN I.hok e
  refine call_meetsIn PySem.F.slot_dict_get dd.typeIs PySem.F.entry_dict_get (PySem.F.args_dict_get_3 _ _ _) (meetsH_dict_get_default (tupleKind (dA X.prog X.w)) a b hd r) ⟨tupleKind_room_in1 hu,k,xs,yY I.hok eb,dd,h _ _ (I.tok _) ?_⟩
  rw[l]
  exact(rel.val k).getD rd
end
def aDQ(td ty tx:TE):TE:=fun σ H Q=>td σ H fun x H1=>∃a,x=.ref a/\IsD H1 a/\ty σ H1 fun y H2=>tx σ H2 fun z H3=>∃o,pZ H3 a y o/\Q (o.getD z) H3
section
variable{X:Cx}{o e f:Expr}{apos cpos:Pos}{td ty tx:TE}
theorem y2(hu:X.A.units+1 < cLine)(ho:PE X o td)(he:PE X e ty)(hf:PE X f tx)(m:M2 X o "get" apos e f cpos):PE X (.Call (.Attribute o "get" apos) [e,f] [] cpos) (aDQ td ty tx):=by
 intro pins s σ H Q I h
 refine wpAny_Call_method m.base m.few m.line PySem.F.plainAttrs_dict PySem.F.slot_dict_get PySem.F.type_dict_get (cK (ho pins s σ H _ I h) fun u s1 ⟨x,H1,I1,rx,a,ex,d,q1⟩=>?_)
 subst ex
 obtain rfl:u=Value.ref a:=rx
 obtain⟨t1,t2,_⟩:=aJU I1 d
 refine⟨t1,t2,?_⟩
 rw[m.trees]
 refine Calls.callWith_builtin rfl (Calls.evalArgs_plain (Calls.spliced_cons (cK (he pins s1 σ H1 _ I1 q1) fun iv s2 ⟨y,H2,I2,ry,q2⟩=>
  Calls.spliced_cons (cK (hf pins s2 σ H2 _ I2 q2) fun fv s3 ⟨z,H3,I3,rz,ov,g,q3⟩=>Calls.spliced_nil ?_))))
 exact aJV hu I3 g ry rz fun w' s4 I4 rw'=>⟨_,H3,I4,rw',q3⟩
end
section
variable{X:Cx}{pins:List (Addr×Obj)}{σ:St}{H:Hp}{s:Shared}{a:Addr}{kvs:List (Key×V)}{A:Around}{E:Value->Shared->Prop}
end
section
variable{X:Cx}{pins:List (Addr×Obj)}{σ:St}{H:Hp}{s:Shared}{a:Addr}{y:V}{u:Value}{A:Around}{E:Value->Shared->Prop}
end
end L2
namespace Att
open PySem PySem.W PySem.Calls PyProof.Rows
theorem xI{P:Params}{h:Heap}:∀(ns:List Int) (vs:List Value),WellAll P h vs (ns.map WData.int)->IntsAre vs ns:=by
 intro ns
 induction ns with
 |nil=>
  intro vs w
  rw[List.map_nil] at w
  cases w
  exact .nil
 |cons n ns ih=>
  intro vs w
  rw[List.map_cons] at w
  cases w with
  |cons a b=>
   cases a
   exact .cons _ _ (ih _ b)
theorem aFu{l:OpenLaw}{n:Nat}(hn:l.most=some n){P:Params}{h:Heap}{args:List WData}{vals:List Value}
  (hpre:l.row.toRowW.claim.pre args=true) (hwl:WellAll P h vals args) :
  ∃a vs ns,vals=[Value.ref a]/\args=[WData.list (ns.map WData.int)]/\h.get? a=some { cls:=.type "list",data:=.seq vs.toArray }/\IntsAre vs ns/\ns.length<=n:=by
 have hsh:WShape.hasAll [] args [.list .int]=true:=(pre_splitW hpre).1
 have hc:l.pre.holds [] { args:=args } = true:=(pre_splitW hpre).2
 obtain⟨d,r,rfl,h1,h2⟩:=hasAllW_cons hsh
 obtain rfl:=hasAllW_nil h2
 obtain⟨xs,rfl,h3⟩:=hasW_list h1
 obtain⟨ns,rfl⟩:=items_int h3
 have hlen:ns.length<=n:=by
  unfold OpenLaw.pre at hc
  have h4:(WTm.not (.lt (.lit (.int (n:Int))) (.len (.arg 0)))).holds [] { args:=[.list (ns.map .int)] } = true:=by
   have h4:=(holds_andW hc).1
   rw[hn] at h4
   exact h4
  have h5:=condW_of h4 (w_not (w_lt w_lit (w_len_list (w_arg rfl))))
  rw[List.length_map] at h5
  refine Nat.le_of_not_lt fun q=>?_
  have q':(n:Int) < ((ns.length:Nat):Int):=by omega
  first
   |(rw[decide_eq_true q'] at h5;exact absurd h5 (by decide))
   |(simp at h5;omega)
 cases hwl with
 |cons w1 w2=>
  cases w2
  cases w1 with
  |list ho hall=>exact⟨_,_,ns,rfl,rfl,ho,xI ns _ hall,hlen⟩
theorem aFv(l:OpenLaw)(args:List WData):l.row.toRowW.claim.post args (.bool true) args=true:=
 postW_of (r:=l.row.toRowW) (X:=(true == true))
  (show WShape.has [] (.bool true) .bool=true by first|rfl|decide|simp[WShape.has,WShape.arms,WShape.armsAll])
  (show(WTm.eq .res (.lit (.bool true))).value [] { args:=args,res:=some (.bool true),after:=args } = some (.bool (true == true)) from w_eq_bool (w_res rfl) w_lit) rfl
theorem aCQ{l:OpenLaw}{n:Nat}{q:Program}{loose:List Str}{XP:(Str->Option Value)->Heap->Prop}{YP:World->Heap->Prop}{d:DefRec}
  (hn:l.most=some n) (hdf:d.params.defaults=[])
  (call:∀(w:World) (s₀ s₁:Shared) (mg mb:Str->Option Value) (fa:Addr) (o:Obj) (pm cd doc:Value) (a:Addr) (vs:List Value) (ns:List Int),
   Ground q loose [] XP w s₀ mg mb s₁.heap->YP w s₁.heap->
   s₁.heap.get? fa=some o->o.data=.func (docDef d.name d.params d.body d.scope pm cd doc)->s₁.heap.CodeRec cd d.name->mg d.name=some (.ref fa)->
   s₁.heap.get? a=some { cls:=.type "list",data:=.seq vs.toArray }->IntsAre vs ns->ns.length<=n->s₁.gens = #[]->
   codeAny (model l.prog w) callerA (.call (.ref fa) ⟨[.ref a],[]⟩) (fun r s'=>r=.ok (.ret (.bool true))/\OldK s₁.heap s'.heap/\s'.os=s₁.os/\AllBare s'.gens) s₁) :
  WalkO q loose XP YP l.row.toRowW d [] (fun f vs=>PySem.call f vs):=by
 intro w s₀ s₁ mg mb G Y fa o pm cd doc dV kV ho hd hcd hD hmg hg args vals as hpre hlay hrd hwl hlo
 obtain rfl:dV=.none:=Dflts.none hD hdf
 obtain rfl:kV=.none:=Dflts.noKw hD
 obtain⟨a,vs,ns,rfl,rfl,hobj,hints,hlen⟩:=aFu hn hpre hwl
 refine enter_call (codeAny_mono (call w s₀ s₁ mg mb fa o pm cd doc a vs ns G Y ho (fd_plain hd) hcd hmg hobj hints hlen hg) fun r s' hq=>?_)
 obtain⟨rfl,h2,h3,h4⟩:=hq
 exact⟨.inl ⟨.bool true,.bool true,[],rfl,fun _=>rfl,.bool true,aFv l _,fun _=>⟨List.Pairwise.nil,fun _ hm=>(nomatch hm)⟩⟩,h2,h3,h4⟩
section
variable{prog:Program}{w:World}{A:Around}{E:Value->Shared->Prop}{s:Shared}{K:Frag}
end
end Att
namespace L2
open PySem PySem.Spec PyProof.Rows
theorem v8:∀{vs:List Value}{ns:List Int},IntsAre vs ns->Vals (ns.map V.int) vs
 |_,_,.nil=>.nil
 |_,_,.cons n t h=>.cons ⟨t,rfl⟩ (v8 h)
def aLb(H:Hp):Prop:=∀b,H b=none\/∃o xs,H b=some (.frz o (.lst xs))
theorem aLc{P:Program}{w:World}{K:W.Frag}{mg mb:Str->Option Value}{CX:CXT}{k:Nat}{fa a:Addr}{fd:FuncData}{x:Str}{sp:Sp}{s₁:Shared}{vs:List Value}{ns:List Int}
  (KX:K.In s₁.heap) (hns:s₁.heap.Ns mainGlobals mg) (hb:s₁.heap.Ns builtinsNs mb) (hbb:∀x:Str,x≠"__name__"->mb x=bootBuiltins x) (hlim:s₁.heap.NoLimit) (hbm:∃bm o,mg "__builtins__" = some (.ref bm)/\bm≠builtinsNs/\s₁.heap.get? bm=some o/\o.cls=.type "module"/\o.dict=some builtinsNs/\o.data=.plain) (hg:s₁.gens = #[])
  (ha:s₁.heap.get? a=some { cls:=.type "list",data:=.seq vs.toArray }) (hi:IntsAre vs ns) (hl:ns.length<=sizeLine) (hr:dG k callerA)
  (F:∀base:Heap,K.In base->base.Ns mainGlobals mg->bR P w K mg base CX k fa fd [x] sp) (hbind:∀(s:Shared) (u:Value),BindsTo s fd ⟨[u],[]⟩ [(x,u)])
  (hsp:∀H:Hp,aLb H->bQ K H a (ns.map V.int)->sp [.ref a] H (fun v _=>v=.bl true) fun _ _ _=>False)
  (hCX:∀H e s',CX [] H s₁ (fun _ _ _=>False) e s'->False) :
  codeAny (model P w) callerA (.call (.ref fa) ⟨[.ref a],[]⟩) (fun r s'=>r=.ok (.ret (.bool true))/\OldK s₁.heap s'.heap/\s'.os=s₁.os/\AllBare s'.gens) s₁:=by
 have rv:=v8 hi
 have lenV:=hi.length
 have core:∀H:Hp,aLb H->bQ K H a (ns.map V.int)->pM P w H s₁.heap->(∀b,H b≠none->b=a)->(H a≠none->K.lookup a=none)->
   codeAny (model P w) callerA (.call (.ref fa) ⟨[.ref a],[]⟩) (fun r s'=>r=.ok (.ret (.bool true))/\OldK s₁.heap s'.heap/\s'.os=s₁.os/\AllBare s'.gens) s₁:=by
  intro H hO hS hok hA hK
  have base_of:∀{b:Addr} {o:Obj},s₁.heap.get? b=some o->H b=none->(sJ s₁.heap H).get? b=some o:=fun e n=>aCF e n
  have noA:∀{b:Addr} {o:Obj} {es:Array DictEntry} {ep:Nat},s₁.heap.get? b=some o->o.data=.dict es ep->H b=none:=fun {b o es ep} e d=>by
   cases q:H b with
   |none=>rfl
   |some u=>
    have e':b=a:=hA b (by rw[q];simp)
    subst e'
    rw[ha] at e;cases e
    have d':Data.seq vs.toArray _=Data.dict es ep:=d
    cases d'
  have nsK:∀{b:Addr} {m:Str->Option Value},s₁.heap.Ns b m->(sJ s₁.heap H).Ns b m:=fun {b m} ⟨o,es,ep,e,d,r⟩=>⟨o,es,ep,base_of e (noA e d),d,r⟩
  have hKb:K.In (sJ s₁.heap H):=fun b o e=>base_of (KX b o e) (by
   cases q:H b with
   |none=>rfl
   |some u=>
    have e':b=a:=hA b (by rw[q];simp)
    subst e'
    rw[hK (by rw[q];simp)] at e;cases e)
  have hbm':∃bm o,mg "__builtins__" = some (.ref bm)/\bm≠builtinsNs/\(sJ s₁.heap H).get? bm=some o/\o.cls=.type "module"/\o.dict=some builtinsNs/\o.data=.plain:=by
   obtain⟨bm,ob,b1,b2,b3,b4,b5,b6⟩:=hbm
   refine⟨bm,ob,b1,b2,base_of b3 ?_,b4,b5,b6⟩
   cases q:H bm with
   |none=>rfl
   |some u=>
    have e':bm=a:=hA bm (by rw[q];simp)
    rw[e',ha] at b3
    cases b3
    exact absurd (show Value.type "list" = Value.type "module" from b4) (by decide)
  have hM:Mod K mg (sJ s₁.heap H):=⟨hKb,nsK hns,⟨mb,nsK hb,hbb⟩,(let ⟨mc,h1,h2⟩:=hlim;⟨mc,nsK h1,h2⟩),hbm'⟩
  have e0:aAv P w K mg (sJ s₁.heap H) callerA [] s₁ H:=⟨rfl,hM,fun b o e=>aEu e,Nat.le_of_eq (aAY _ _),trivial,fun b hb=>absurd (show b∈([]:List Addr) from hb) (by simp),hok,.of_eq hg⟩
  refine codeAny_mono ((F _ hKb (nsK hns)).run callerA [] s₁ H ⟨[.ref a],[]⟩ [.ref a] [.ref a] _ _ hr e0 (hbind s₁ (.ref a)) (.cons rfl .nil) (hsp H hO hS)) fun r s' h=>?_
  cases r with
  |error e=>exact(hCX H e s' h).elim
  |ok fl=>
   cases fl with
   |next=>exact False.elim h
   |brk=>exact False.elim h
   |cont=>exact False.elim h
   |ret u=>
    obtain⟨v,H',os,bare,un,hok',r',q⟩:=h
    have q':v=.bl true:=q
    subst q'
    obtain rfl:u=Value.bool true:=r'
    refine⟨rfl,OldK.of_keep fun b o e=>?_,os,bare⟩
    cases q:H b with
    |none=>exact un.keep b o e q (by intro z;exact absurd (show b∈([]:List Addr) from z) (by simp)) (by simp)
    |some u=>
     rcases hO b with z|⟨ob,xs,z⟩
     ·rw[q] at z;cases z
     ·have z2:=un.frzs b ob _ z
      obtain⟨e1,_⟩:=hok b _ z
      obtain⟨e2,_⟩:=hok' b _ z2
      rw[e] at e1;cases e1
      exact e2
 cases hk:K.lookup a with
 |some o=>
  have e:=KX a o hk
  rw[ha] at e
  cases e
  refine core (fun _=>none) (fun _=>.inl rfl) (.inr ⟨_,vs.toArray,_,hk,rfl,rfl,rfl,by rw[List.size_toArray,lenV];exact hl,by simpa using rv⟩) (fun b u z=>by have z':(none:Option HO)=some u:=z;cases z') (fun b z=>absurd rfl z) fun z=>absurd rfl z
 |none=>
  refine core (fun b=>if b=a then some (.frz { cls:=.type "list",data:=.seq vs.toArray } (.lst (ns.map V.int))) else none) (fun b=>?_) (.inl (.inr ⟨{ cls:=.type "list",data:=.seq vs.toArray },if_pos rfl⟩)) (fun b u z=>?_) (fun b z=>?_) fun _=>hk
  ·by_cases hb:b=a
   ·exact .inr ⟨_,_,if_pos hb⟩
   ·exact .inl (if_neg hb)
  ·by_cases hb:b=a
   ·have z':=(if_pos hb).symm.trans z
    cases z'
    subst hb
    exact⟨ha,by rw[List.length_map];exact hl,vs,_,rv,ha⟩
   ·have z':=(if_neg hb).symm.trans z
    cases z'
  ·by_cases hb:b=a
   ·exact hb
   ·exact absurd (if_neg hb) z
end L2
namespace L2
open PySem PySem.Spec PyProof.Rows
end L2
namespace L2
open PySem PySem.Spec PyProof.Rows
def inClass(s:Stmt)(j:Nat):Stmt:=match s with
 |.ClassDef _ _ _ body _ _ _ _ _ _ _=>body.getD j (.Pass ⟨0,0,0,0⟩)
 |_=>.Pass ⟨0,0,0,0⟩
def aW(s:Stmt):Arguments:=match s with
 |.FunctionDef _ a _ _ _ _ _ _ _ _=>a
 |_=>{ posonlyargs:=[],args:=[],vararg:=none,kwonlyargs:=[],kw_defaults:=[],kwarg:=none,defaults:=[] }
def aT(s:Stmt):List Stmt:=match s with
 |.FunctionDef _ _ b _ _ _ _ _ _ _=>b
 |_=>[]
def aE(s:Stmt):Scope:=match s with
 |.FunctionDef _ _ _ _ _ _ sc _ _ _=>sc
 |_=>{ kind:=.function,names:=[],isGenerator:=false,isCoroutine:=false }
abbrev iV:CXT:=fun _ _ _ _ _ _=>False
abbrev E0:XK:=fun _ _ _=>False
theorem aQ{X:Cx}:Passes iV X E0:=fun _ _ _ _ _ _ _ h=>h.elim
structure kN(K:W.Frag)(x qual:Str)(st:Stmt)(f:Addr)(fd:FuncData):Prop where
 ex:∃(oc:Value) (od:Option Addr) (kV doc pm:Value) (an:Option Addr) (cdv ct:Value) (osl:Array (Option Value)),
  fd=W.fnOf x qual (aW st) (aT st) (aE st) .none kV doc pm an cdv ct/\K.lookup f=some ⟨oc,od,.func fd,osl⟩/\W.codeIn K cdv qual=true
 kp:W.keepIn K (.ref f)=true
section
variable{P:Program}{w:World}{K:W.Frag}{mg:Str->Option Value}{base:Heap}
theorem kN.ok{x qual:Str}{st:Stmt}{f:Addr}{fd:FuncData}{N ps:List Str}{k:Nat}{sp:Sp}(F:kN K x qual st f fd)(S:aV N ps (aE st))(len:∀vs H Q E,sp vs H Q E->vs.length=ps.length)
  (hbody:∀(cdv:Value) (A:Around) (outer:List Env) (s:Shared) (H:Hp) (vs:List V) (Q:VK) (E:XK),dG k (A.deeper (envOfC qual (aE st) s.heap.objs.size f cdv))->sp vs H Q E->
   ∃t,PSs (aDM iV P w K mg base N qual (aE st) f cdv A outer s H E).nox (aT st) t/\t { nx:=fun _ H'=>Q .non H',rt:=Q } (start N vs) H):bR P w K mg base iV (k+1) f fd ps sp:=by
 obtain⟨oc,od,kV,doc,pm,an,cdv,ct,osl,rfl,lk,hcd⟩:=F.ex
 refine aI0 lk hcd S len fun A outer s H vs Q E hr hsp=>?_
 obtain⟨t,h,q⟩:=hbody cdv A outer s H vs Q E hr hsp
 exact⟨t,h.nox,q⟩
theorem kN.binds{x qual:Str}{st:Stmt}{f:Addr}{fd:FuncData}{ps:List Str}(F:kN K x qual st f fd)
  (h:∀(kV doc pm:Value) (an:Option Addr) (cdv ct:Value) (us:List Value),us.length=ps.length->bindArgs (W.fnOf x qual (aW st) (aT st) (aE st) .none kV doc pm an cdv ct) ⟨us,[]⟩=pure (ps.zip us)):Binds K fd ps []:=by
 obtain⟨oc,od,kV,doc,pm,an,cdv,ct,osl,rfl,lk,hcd⟩:=F.ex
 exact .all (h kV doc pm an cdv ct)
theorem bG{x qual:Str}{st:Stmt}{f:Addr}{oc:Value}{od an:Option Addr}{osl:Array (Option Value)}{kV doc pm cdv ct:Value}(l:K.lookup f=some ⟨oc,od,.func (W.fnOf x qual (aW st) (aT st) (aE st) .none kV doc pm an cdv ct),osl⟩)
  (c:W.codeIn K cdv qual=true) (k:W.keepIn K (.ref f)=true):kN K x qual st f (W.fnOf x qual (aW st) (aT st) (aE st) .none kV doc pm an cdv ct):=⟨⟨oc,od,kV,doc,pm,an,cdv,ct,osl,rfl,l,c⟩,k⟩
end
section
variable{X:Cx}
theorem pv(i:Nat){x:Str}{pos:Pos}(hN:X.N[i]?=some x:=by rfl)(hv:Vis X.env.scope x:=by first|exact Or.inl rfl|exact Or.inr (Or.inl rfl)|exact Or.inr (Or.inr rfl))(hd:(x == ("__debug__" : Str))=false:=by decide)
  (hcd:(x == ("__classdict__" : Str))=false:=by decide):PE X (.Name x pos) (aHJ i):=aDy hN hv hd hcd
end
theorem aHZ{A B:Prop}(h:B):if false=true then A else B:=by
 rw[if_neg Bool.false_ne_true]
 exact h
theorem aH0{A B:Prop}(h:A):if true=true then A else B:=by
 rw[if_pos rfl]
 exact h
def aJ(H H':Hp):Prop:=∀b o,H b=some o->H' b=some o
theorem aJ.refl(H:Hp):aJ H H:=fun _ _ h=>h
theorem aJ.trans{H H1 H2:Hp}(a:aJ H H1)(b:aJ H1 H2):aJ H H2:=fun c o h=>b c o (a c o h)
theorem aJ.free{H H':Hp}(e:aJ H H'){l:Addr}(h:H' l=Option.none):H l=Option.none:=by
 cases q:H l with
 |none=>rfl
 |some o=>
  rw[e l o q] at h
  cases h
theorem aJ.seq{K:W.Frag}{H H':Hp}{a:Addr}{xs:List V}(e:aJ H H')(h:bQ K H a xs):bQ K H' a xs:=by
 rcases h with (h|⟨o,h⟩)|h
 ·exact .inl (.inl (e _ _ h))
 ·exact .inl (.inr ⟨o,e _ _ h⟩)
 ·exact .inr h
section
variable{κ:Type}[DecidableEq κ]
end
end L2
namespace L2
open PySem PySem.Spec PyProof.Rows
section
variable{prog:Program}{w:World}{A:Around}{R:Result->Shared->Prop}{s:Shared}
theorem aCR{elt target iter:Expr}{ifs:List Expr}{scope:Scope}{pos:Pos}{it acc:Value}{env:Env}(I:Nat->Shared->Prop)
  (turn:∀n s,I n s->wpAny (model prog w) A (pyNext it) (fun r s₁=>match r with
   |none=>R (.ok .next) s₁
   |some v=>wpAny (model prog w) A (letOwnedTupleGo target it v) (fun _ s₁'=>wpAny (model prog w) A (assign target env v) (fun _ s₂=>
     wpAny (model prog w) A (forIn ifs true fun c r=>if r=true then do let ok <-isTrue c env (eval c env);pure (ForInStep.yield ok) else pure (ForInStep.yield r)) (fun ok s₃=>
      if ok=true then wpAny (model prog w) A (eval elt env) (fun x s₄=>
       wpAny (model prog w) A (call (.builtin "list.append") [acc,x]) (fun _ s₅=>∃m,m < n/\I m s₅) (notedBy (model prog w) A env fun e s'=>R (.error e) s') s₄) (notedBy (model prog w) A env fun e s'=>R (.error e) s') s₃
      else ∃m,m < n/\I m s₃) (notedBy (model prog w) A env fun e s'=>R (.error e) s') s₂) (notedBy (model prog w) A env fun e s'=>R (.error e) s') s₁') (notedBy (model prog w) A env fun e s'=>R (.error e) s') s₁)
   (notedBy (model prog w) A env fun e s'=>R (.error e) s') s)
  (n:Nat) (h:I n s) :
  codeAny (model prog w) A (.compLoop (.ListComp elt [⟨target,iter,ifs,0⟩] scope pos) 0 it acc env) R s:=by
 refine codeAny_loop rfl I (fun n s hI=>?_) n h
 show wpAny _ A ((compTurn (.ListComp elt [⟨target,iter,ifs,0⟩] scope pos) 0 it acc env).onRaise (fun x=>do noteFrame x env;theTreesLotGoes x)) _ _ s
 refine wpAny_noted ?_
 rw[compTurn_list]
 refine wpAny_bind (wpAny_standAt (wpAny_bind (wpAny_mono (turn n s hI) (fun r s₁ h₁=>?_) fun _ _ h'=>h')))
 cases r with
 |none=>exact wpAny_pure h₁
 |some v=>
  refine wpAny_bind (wpAny_mono h₁ (fun _ s₁' h₁'=>?_) fun _ _ h'=>h')
  refine wpAny_bind (wpAny_mono h₁' (fun _ s₂ h₂=>wpAny_bind (wpAny_mono h₂ (fun ok s₃ h₃=>?_) fun _ _ h'=>h')) fun _ _ h'=>h')
  cases ok with
  |false=>exact wpAny_pure ⟨rfl,h₃⟩
  |true=>
   exact wpAny_bind (wpAny_bind (wpAny_mono h₃ (fun x s₄ h₄=>wpAny_bind (wpAny_mono h₄ (fun _ s₅ h₅=>wpAny_pure (wpAny_pure ⟨rfl,h₅⟩)) fun _ _ h'=>h')) fun _ _ h'=>h'))
end
def jY(env:Env):List (Str×NameKind)->List (Str×Addr)->List (Str×Addr)
 |[],cs=>cs
 |(n,k)::r,cs=>jY env r (if (k == NameKind.free)=true then (n,(env.cells.lookup n).getD 0)::cs else cs)
theorem tG{scope:Scope}{env:Env}(h:∀x∈scope.names,x.2=.free->∃c,env.cells.lookup x.1=some c):closureFor scope env=pure (jY env scope.names []):=by
 simp only[closureFor]
 generalize ([]:List (Str×Addr))=cs
 revert h cs
 generalize scope.names=names
 intro h
 induction names with
 |nil=>intro cs;rfl
 |cons x r ih=>
  intro cs
  obtain⟨n,k⟩:=x
  have ih:=ih fun y hy=>h y (List.mem_cons_of_mem _ hy)
  rw[List.forIn_cons]
  by_cases hk:k=.free
  ·subst hk
   obtain⟨c,hc⟩:=h (n,.free) List.mem_cons_self rfl
   have hc':env.cells.lookup n=some c:=hc
   have e:jY env ((n,NameKind.free)::r) cs=jY env r ((n,c)::cs):=by
    show jY env r (if (NameKind.free == NameKind.free)=true then (n,(env.cells.lookup n).getD 0)::cs else cs)=_
    rw[hc']
    rfl
   rw[e,<-ih]
   simp only[cellOf,hc',beq_self_eq_true,if_true]
   rfl
  ·have hb:(k == NameKind.free)=false:=by simpa using hk
   have e:jY env ((n,k)::r) cs=jY env r cs:=by
    show jY env r (if (k == NameKind.free)=true then (n,(env.cells.lookup n).getD 0)::cs else cs)=_
    rw[hb]
    rfl
   rw[e,<-ih]
   simp only[hb,Bool.false_eq_true,if_false]
   rfl
theorem uM{env:Env}{x:Str}{c:Addr}:∀(names:List (Str×NameKind)) (cs:List (Str×Addr)),(∀y∈names,y.2=.free->∃c,env.cells.lookup y.1=some c)->(x,c)∈jY env names cs->(x,c)∈cs\/env.cells.lookup x=some c
 |[],cs,_,h=>.inl h
 |(n,k)::r,cs,hf,h=>by
  have h':(x,c)∈jY env r (if (k == NameKind.free)=true then (n,(env.cells.lookup n).getD 0)::cs else cs):=h
  rcases uM r _ (fun y hy=>hf y (List.mem_cons_of_mem _ hy)) h' with q|q
  ·by_cases hk:(k == NameKind.free)=true
   ·rw[if_pos hk] at q
    rcases List.mem_cons.mp q with e|q
    ·cases e
     obtain⟨c,hc⟩:=hf (x,k) List.mem_cons_self (by simpa using hk)
     have hc':env.cells.lookup x=some c:=hc
     rw[hc']
     exact .inr rfl
    ·exact .inl q
   ·rw[if_neg hk] at q
    exact .inl q
  ·exact .inr q
theorem aCS{env:Env}{p:Str×Addr}:∀(names:List (Str×NameKind)) (cs:List (Str×Addr)),p∈cs->p∈jY env names cs
 |[],_,h=>h
 |(n,k)::r,cs,h=>by
  show p∈jY env r (if (k == NameKind.free)=true then (n,(env.cells.lookup n).getD 0)::cs else cs)
  refine aCS r _ ?_
  split
  ·exact List.mem_cons_of_mem _ h
  ·exact h
theorem aCT{env:Env}{x:Str}{c:Addr}:∀(names:List (Str×NameKind)) (cs:List (Str×Addr)),(x,NameKind.free)∈names->env.cells.lookup x=some c->(x,c)∈jY env names cs
 |[],_,h,_=>by cases h
 |(n,k)::r,cs,h,hc=>by
  show(x,c)∈jY env r (if (k == NameKind.free)=true then (n,(env.cells.lookup n).getD 0)::cs else cs)
  rcases List.mem_cons.mp h with e|h
  ·cases e
   refine aCS r _ ?_
   rw[if_pos (by simp),hc]
   exact List.mem_cons_self
  ·exact aCT r _ h hc
theorem sU{x:Str}{c:Addr}:∀{l:List (Str×Addr)},(x,c)∈l->(∀d,(x,d)∈l->d=c)->l.lookup x=some c
 |[],h,_=>by cases h
 |(n,d)::r,h,u=>by
  rw[List.lookup_cons]
  by_cases e:x=n
  ·subst e
   rw[beq_self_eq_true]
   rw[u d List.mem_cons_self]
  ·rw[show(x == n)=false by simpa using e]
   rcases List.mem_cons.mp h with q|q
   ·cases q
    exact absurd rfl e
   ·exact sU q fun d hd=>u d (List.mem_cons_of_mem _ hd)
theorem p9{env:Env}{names:List (Str×NameKind)}{x:Str}{c:Addr}(hf:∀y∈names,y.2=.free->∃c,env.cells.lookup y.1=some c)(hx:(x,NameKind.free)∈names)(hc:env.cells.lookup x=some c):(jY env names []).lookup x=some c:=
 sU (aCT names [] hx hc) fun d hd=>by
  rcases uM names [] hf hd with q|q
  ·cases q
  ·rw[hc] at q
   exact(Option.some.inj q).symm
theorem lM{env:Env}{names:List (Str×NameKind)}{x:Str}{c:Addr}(hf:∀y∈names,y.2=.free->∃c,env.cells.lookup y.1=some c)(h:(jY env names []).lookup x=some c):env.cells.lookup x=some c:=by
 rcases uM names [] hf (PySem.mem_of_lookup h) with q|q
 ·cases q
 ·exact q
end L2
namespace L2
open PySem PySem.Spec PyProof.Rows
def xJ(X:Cx)(scope:Scope)(N:List Str)(fp:List Addr)(C:Addr)(s:Shared)(H:Hp):Cx where
 prog:=X.prog
 w:=X.w
 K:=X.K
 mg:=X.mg
 base:=X.base
 A:=X.A
 N:=N
 s₀:=s
 H₀:=H
 env:=compEnvC scope (jY X.env scope.names []) C X.env
 outer:=X.stack
 stack:=X.stack
 ex:=fp
 fn:=fun _=>false
 calm:=X.calm
 pn:=[]
 xe:=fun _ _=>False
theorem pM.aGq{P:Program}{w:World}{H:Hp}{h:Heap}{a:Addr}{o:HO}(x:pM P w H h)(hn:H a=none)(new:bJ P w (upd H a o) h a o):pM P w (upd H a o) h:=fun b u e=>by
 by_cases hb:b=a
 ·subst hb;rw[aH] at e;cases e;exact new
 ·rw[aL hb] at e
  exact(x b u e).aAt (fun c v _ q=>q) (fun c q=>by rw[aL (bC q hn)];exact q) fun c xs _ q=>by rw[aL (bC q hn)];exact q
theorem Un.aGq{fs ex:List Addr}{H H1:Hp}{h h1:Heap}{a:Addr}{o:HO}(u:Un fs ex H H1 h h1)(hs:h.objs.size<=a)(hn:H1 a=none):Un fs ex H (upd H1 a o) h h1 where
 keep:=u.keep
 slot:=u.slot
 free:=fun b ob q n hx=>by rw[aL (Nat.ne_of_lt (Nat.lt_of_lt_of_le (Heap.lt_size q) hs))];exact u.free b ob q n hx
 there:=u.there
 pN:=fun b xs q=>by rw[aL (bC (u.pN b xs q) hn)];exact u.pN b xs q
 frzs:=fun b ob xs q=>by rw[aL (bC (u.frzs b ob xs q) hn)];exact u.frzs b ob xs q
 tbls:=fun b ps q=>by
  obtain⟨m,e⟩:=u.tbls b ps q
  exact⟨m,by rw[aL (bC e hn)];exact e⟩
theorem jV{env:Env}:∀{names:List (Str×NameKind)}{x:Str},names.lookup x=some .free->
  (names.map fun(n,k)=>if (k == NameKind.free && env.scope.kind == .function && env.kindOf n == some .cell) then (n,NameKind.cell) else (n,k)).lookup x=some .cell\/
  (names.map fun(n,k)=>if (k == NameKind.free && env.scope.kind == .function && env.kindOf n == some .cell) then (n,NameKind.cell) else (n,k)).lookup x=some .free
 |[],_,h=>by simp at h
 |(n,k)::r,x,h=>by
  have ih:=@jV env r x
  show List.lookup x ((if (k == NameKind.free && env.scope.kind == .function && env.kindOf n == some .cell)=true then (n,NameKind.cell) else (n,k))::_)=_\/List.lookup x ((if (k == NameKind.free && env.scope.kind == .function && env.kindOf n == some .cell)=true then (n,NameKind.cell) else (n,k))::_)=_
  cases hx:x == n with
  |true=>
   simp only[List.lookup_cons,hx] at h
   cases h
   by_cases hc:(NameKind.free == NameKind.free && env.scope.kind == .function && env.kindOf n == some .cell)=true
   ·rw[if_pos hc];simp only[List.lookup_cons,hx];exact .inl trivial
   ·rw[if_neg hc];simp only[List.lookup_cons,hx];exact .inr trivial
  |false=>
   simp only[List.lookup_cons,hx] at h
   by_cases hc:(k == NameKind.free && env.scope.kind == .function && env.kindOf n == some .cell)=true
   ·rw[if_pos hc];simp only[List.lookup_cons,hx];exact ih h
   ·rw[if_neg hc];simp only[List.lookup_cons,hx];exact ih h
theorem qA{env:Env}:∀{names:List (Str×NameKind)}{x:Str},(∀y∈names,y.2≠.cell)->
  ((names.map fun(n,k)=>if (k == NameKind.free && env.scope.kind == .function && env.kindOf n == some .cell) then (n,NameKind.cell) else (n,k)).lookup x=some .cell\/
  (names.map fun(n,k)=>if (k == NameKind.free && env.scope.kind == .function && env.kindOf n == some .cell) then (n,NameKind.cell) else (n,k)).lookup x=some .free)->(x,NameKind.free)∈names
 |[],_,_,h=>by simp at h
 |(n,k)::r,x,hc,h=>by
  have ih:=@qA env r x fun y hy=>hc y (List.mem_cons_of_mem _ hy)
  have h':List.lookup x ((if (k == NameKind.free && env.scope.kind == .function && env.kindOf n == some .cell)=true then (n,NameKind.cell) else (n,k))::_)=_\/List.lookup x ((if (k == NameKind.free && env.scope.kind == .function && env.kindOf n == some .cell)=true then (n,NameKind.cell) else (n,k))::_)=_:=h
  cases hx:x == n with
  |true=>
   have e:x=n:=by simpa using hx
   subst e
   by_cases hq:(k == NameKind.free && env.scope.kind == .function && env.kindOf x == some .cell)=true
   ·have hk:(k == NameKind.free)=true:=by
     rw[Bool.and_assoc] at hq
     exact(Bool.and_eq_true _ _▸hq).1
    rw[show k=NameKind.free by simpa using hk]
    exact List.mem_cons_self
   ·rw[if_neg hq] at h'
    simp only[List.lookup_cons,hx] at h'
    rcases h' with z|z
    ·cases z
     exact absurd rfl (hc _ List.mem_cons_self)
    ·cases z
     exact List.mem_cons_self
  |false=>
   by_cases hq:(k == NameKind.free && env.scope.kind == .function && env.kindOf n == some .cell)=true
   ·rw[if_pos hq] at h';simp only[List.lookup_cons,hx] at h';exact List.mem_cons_of_mem _ (ih h')
   ·rw[if_neg hq] at h';simp only[List.lookup_cons,hx] at h';exact List.mem_cons_of_mem _ (ih h')
structure dH(X:Cx)(scope:Scope)(N:List Str)(k:Nat)(idx:List Nat):Prop where
 kind:scope.kind=.function
 nocell:∀y∈scope.names,y.2≠.cell
 names:∀y∈scope.names,y.2=.local->scope.names.lookup y.1=some .local
 free:∀y∈scope.names,y.2=.free->X.env.kindOf y.1=some .cell\/X.env.kindOf y.1=some .free
 nd:N.Nodup
 len:N.length=k+idx.length
 cap:∀(i:Nat) (x:Str),(N.drop k)[i]?=some x->∃j:Nat,idx[i]?=some j/\X.N[j]?=some x/\scope.names.lookup x=some .free
def cσ(k:Nat)(idx:List Nat)(σ:St):St:=List.replicate k none++idx.map fun j=>(σ[j]?).join
section
variable{X:Cx}{pins:List (Addr×Obj)}{σ:St}{H:Hp}{s:Shared}{scope:Scope}{N:List Str}{k:Nat}{idx:List Nat}{fp:List Addr}
theorem dH.cells(S:dH X scope N k idx)(I:Inv X pins σ H s):∀y∈scope.names,y.2=.free->∃c,X.env.cells.lookup y.1=some c:=fun y hy h=>I.ok.has y.1 (S.free y hy h)
theorem aFw{C D:Addr}{h₁:Heap}{tk:Nat}{oD:Obj}{m:Str->Option Value}(S:dH X scope N k idx)(I:Inv X pins σ H s)(hf:∀b∈fp,vY X pins H b)(ho:∀b∈fp,∃o,s.heap.get? b=some o)
  (hC:s.heap.objs.size<=C) (hD:s.heap.objs.size<=D) (hDC:D≠C) (hn:h₁.Ns C m) (old:∀b o,s.heap.get? b=some o->h₁.get? b=some o) (eD:h₁.get? D=some oD) (dD:∀v,oD.data≠.cell v) :
  Inv (xJ X scope N fp C s H) [(D,oD)] (cσ k idx σ) H { s with heap:=h₁,toks:=tk }:=by
 have hcl:=S.cells I
 have nst:∀b,s.heap.objs.size<=b->b∉frs X.stack:=fun b hb z=>by
  obtain⟨_,o,e,_⟩:=I.stack.mem z
  exact absurd (Nat.lt_of_lt_of_le (Heap.lt_size e) hb) (Nat.lt_irrefl _)
 refine⟨⟨I.ok.mod,S.kind,I.ok.glob,I.ok.blt,hC,fun x y c h1 h2=>I.ok.inj x y c (lM hcl h1) (lM hcl h2),fun x hx=>?_,fun x c z _=>(by cases z),I.ok.hd,I.ok.frames,.inl rfl,fun b hb=>⟨?_,fun x c e=>(hf b hb).2.2.2.2.1 x c (lM hcl e)⟩,I.bs,
  Nat.le_trans I.ok.bsz I.sz,fun b o e hb=>?_,fun b hb z=>?_,I.stack,I.aBB⟩,rfl,I.bare,Un.kept old,⟨m,hn,fun i x v h1 h2 h3=>?_⟩,fun x c e=>?_,I.hok.fresh hC,fun x c e=>I.freeC x c (lM hcl e),fun p hp=>?_,I.hok.kept old,?_⟩
 ·obtain⟨c,e⟩:=hcl _ (qA S.nocell hx) rfl
  exact⟨c,p9 hcl (qA S.nocell hx) e⟩
 ·obtain⟨o,e⟩:=ho b hb
  exact Nat.ne_of_lt (Nat.lt_of_lt_of_le (Heap.lt_size e) hC)
 ·rcases(hf b hb).2.2.2.1 with z|z
  ·exact I.ok.noex b o e z
  ·exact absurd (Nat.lt_of_lt_of_le (Heap.lt_size (I.ok.bs b o e).1) z) (Nat.lt_irrefl _)
 ·rcases List.mem_cons.mp (I.yR b z) with q|q
  ·exact(hf b hb).2.1 q
  ·exact(hf b hb).2.2.1 q
 ·have hi:k<=i:=by
   by_cases hi:i < k
   ·unfold cσ at h2
    rw[List.getElem?_append_left (by simpa using hi),List.getElem?_replicate,if_pos hi] at h2
    cases h2
   ·omega
  obtain⟨j,rfl⟩ : ∃j,i=k+j:=⟨i - k,by omega⟩
  have h1':N[k+j]?=some x:=h1
  obtain⟨l,e1,e2,e3⟩:=S.cap j x (by rw[List.getElem?_drop];exact h1')
  have h2':σ[l]?=some (some v):=by
   unfold cσ at h2
   rw[List.getElem?_append_right (by simp),List.getElem?_map] at h2
   simp only[List.length_replicate,Nat.add_sub_cancel_left,e1,Option.map_some,Option.some.injEq] at h2
   cases q:σ[l]? with
   |none=>rw[q] at h2;cases h2
   |some z=>rw[q] at h2;exact congrArg some h2
  obtain⟨m0,hn0,hl⟩:=I.loc
  have hfree:(x,NameKind.free)∈scope.names:=PySem.mem_of_lookup e3
  have hk:=S.free _ hfree rfl
  obtain⟨u,r,l⟩:=hl l x v e2 h2' (by rcases hk with z|z;exact .inr (.inl z);exact .inr (.inr z))
  refine⟨u,r,.inr ⟨jV e3,?_⟩⟩
  rcases l with ⟨z,_⟩|⟨_,c,e,o,q,d⟩
  ·rcases hk with y|y
   ·rw[y] at z;cases z
   ·rw[y] at z;cases z
  ·exact⟨c,p9 hcl hfree e,o,old c o q,d⟩
 ·obtain⟨v,o,q,d⟩:=I.cell x c (lM hcl e)
  exact⟨v,o,old c o q,d⟩
 ·have hp':p∈([]:List (Addr×Obj)) ++ [(D,oD)]:=hp
  have e:p=(D,oD):=by simpa using hp'
  subst e
  exact⟨eD,I.hok.fresh hD,hDC,nst D hD,dD⟩
 ·unfold cσ
  show _=N.length
  rw[S.len]
  simp
theorem aH1{C D:Addr}{s':Shared}{σ':St}{H':Hp}{ys:List V}{its:List Value}{n:Nat}{pins':List (Addr×Obj)}(I:Inv X pins σ H s)(hf:∀b∈fp,vY X pins H b)(J:Inv (xJ X scope N fp C s H) pins' σ' H' s')
  (hC:s.heap.objs.size<=C) (hD:s.heap.objs.size<=D) (hDC:D≠C) (hDn:H' D=none) (eD:s'.heap.get? D=some { cls:=.type "list",data:=.seq its.toArray n }) (r:Vals ys its) (hz:ys.length<=sizeLine) :
  Inv X pins σ (upd H' D (.lst ys)) s'/\vY X pins (upd H' D (.lst ys)) C:=by
 have hk:pM X.prog X.w (upd H' D (.lst ys)) s'.heap:=pM.aGq J.hok hDn ⟨hz,its,n,r,eD⟩
 have u:Un (frs X.stack) fp H (upd H' D (.lst ys)) s.heap s'.heap:=Un.aGq J.base hD hDn
 refine⟨I.aKW J.os u hk J.bare fun b hb=>⟨(hf b hb).2.2.2.1,(hf b hb).2.1,(hf b hb).2.2.2.2.1,(hf b hb).2.2.2.2.2⟩,I.aDC hC ?_⟩
 rw[aL hDC.symm]
 exact J.free
end
def oI(J:It)(σ₀:St)(g:TG)(tt:TT)(te:TE)(R:List V->Hp->Prop)(H1:Hp):Prop:=
 ∃W:Nat->Nat->List V->Hp->Prop,(∃m,W 0 m [] H1)/\∀i m ys H,W i m ys H->ys.length<=sizeLine/\
  ((J.stop i H/\R ys H)\/(J.go i H/\∃N:List V->Hp->Prop,(∀ys' H',N ys' H'->∃m',m' < m/\W (i+1) m' ys' H')/\
   ∀x H',J.yld i H x H'->g x σ₀ H' fun σ2 H2=>tt σ2 H2 fun b H3=>if b=true then te σ2 H3 fun y H4=>N (ys ++ [y]) H4 else N ys H3))
def aCU(wi:TI)(k:Nat)(idx:List Nat)(g:TG)(tt:TT)(te:TE):TE:=fun σ H Q=>wi σ H fun J H1=>oI J (cσ k idx σ) g tt te (fun ys H'=>∀p,H' p=none->Q (.ref p) (upd H' p (.lst ys))) H1
def PTs(X:Cx)(ifs:List Expr)(t:TT):Prop:=
 ∀(pins:List (Addr×Obj)) (s:Shared) (σ:St) (H:Hp) (Q:Bool->Hp->Prop),Inv X pins σ H s->t σ H Q->
  wpAny (model X.prog X.w) X.A (forIn ifs true fun c r=>if r=true then do let ok <-isTrue c X.env (eval c X.env);pure (ForInStep.yield ok) else pure (ForInStep.yield r)) (TP X pins σ Q) X.xe s
def aJW:TT:=fun _ H Q=>Q true H
theorem iW{X:Cx}:PTs X [] aJW:=fun _ _ _ H _ I h=>wpAny_tests_nil ⟨H,I,h⟩
theorem rQ{X:Cx}{c:Expr}{t:TT}(h:PT X c t):PTs X [c] t:=fun pins s σ H Q I q=>wpAny_tests_one (h pins s σ H Q I q)
def Agr(k:Nat)(σ' σ:St):Prop:=σ'.length=σ.length/\∀i,k<=i->σ'[i]?=σ[i]?
theorem Agr.set{k i:Nat}{σ σb:St}{v:Option V}(h:Agr k σ σb)(hi:i < k):Agr k (σ.set i v) σb:=⟨by rw[List.length_set];exact h.1,fun j hj=>by rw[List.getElem?_set_ne (by omega)];exact h.2 j hj⟩
def Own(k:Nat)(g:TG):Prop:=∀x σ H (Q:St->Hp->Prop) (σb:St),Agr k σ σb->g x σ H Q->g x σ H fun σ' H'=>Agr k σ' σb/\Q σ' H'
def aH2(k:Nat)(g:TGs):Prop:=∀xs σ H (Q:St->Hp->Prop) (σb:St),Agr k σ σb->g xs σ H Q->g xs σ H fun σ' H'=>Agr k σ' σb/\Q σ' H'
theorem kQ{k i:Nat}(h:i < k):Own k (sR i):=fun _ _ _ _ _ a q=>⟨a.set h,q⟩
theorem qB{k:Nat}:aH2 k aHL:=fun _ _ _ _ _ a ⟨e,q⟩=>⟨e,a,q⟩
theorem cW{k i:Nat}{u:TGs}(h:i < k)(hu:aH2 k u):aH2 k (aEv (sR i) u):=fun _ _ _ Q σb a ⟨v,r,e,q⟩=>⟨v,r,e,hu r _ _ Q σb (a.set h) q⟩
theorem uN{K:W.Frag}{n k:Nat}{u:TGs}(hu:aH2 k u):Own k (aHM K n u):=fun _ _ _ Q σb a ⟨l,xs,e,h1,h2,q⟩=>⟨l,xs,e,h1,h2,hu xs _ _ Q σb a q⟩
theorem aGr(its:List Value)(u:Value)(n:Nat):({ cls:=.type "list",data:=.seq (its.toArray.push u) n }:Obj)={ cls:=.type "list",data:=.seq (its ++ [u]).toArray n }:=by
 rw[List.push_toArray]
section
variable{X:Cx}{pins:List (Addr×Obj)}{σ:St}{H:Hp}{s:Shared}{scope:Scope}{N:List Str}{k:Nat}{idx:List Nat}{fp:List Addr}
theorem y3{elt target iter:Expr}{ifs:List Expr}{pos:Pos}{it:Addr}{tn:Nat->Heap->Prop}{J:It}{g:TG}{tt:TT}{te:TE}{R:List V->Hp->Prop}{E:Value->Shared->Prop}{RR:Value->Addr->Result->Shared->Prop}
  (S:dH X scope N k idx) (hc:X.calm=true) (I:Inv X pins σ H s) (T:Turn X.prog X.w X.K target J fp it tn) (st:tn 0 s.heap) (hf:∀b∈fp,vY X pins H b)
  (hg:∀C,PG (xJ X scope N fp C s H) target g) (ho:Own k g) (ht:∀C,PTs (xJ X scope N fp C s H) ifs tt) (he:∀C,PE (xJ X scope N fp C s H) elt te)
  (hw:oI J (cσ k idx σ) g tt te R H)
  (hRR:∀D C s' m ys H',s'.heap.Ns C m->Inv X pins σ (upd H' D (.lst ys)) s'->vY X pins (upd H' D (.lst ys)) C->H' D=none->R ys H'->RR (.ref D) C (.ok .next) s') :
  wpAny (model X.prog X.w) X.A (newList []) (fun acc s₃=>wpAny (model X.prog X.w) X.A (newFunctionEnv scope X.env.globals (jY X.env scope.names []) [] X.env.qual none .none (some X.env)) (fun cenv s₄=>
   codeAny (model X.prog X.w) X.A (.compStart (.ListComp elt [⟨target,iter,ifs,0⟩] scope pos) 0 (.ref it) acc { cenv with scope:=relabel scope X.env }) (RR acc cenv.locals) s₄) E s₃) E s:=by
 refine wpAny_newObj_type (wpAny_newFunctionEnv S.nocell (by intro y hy;simp at hy) (fun h₁ hns₁ hsb₁=>?_) S.kind)
 dsimp only at hns₁ hsb₁ ⊢
 generalize hH2:s.heap.push { cls:=.type "list",dict:=none,data:=.seq ([]:List Value).toArray } = H2 at hns₁ hsb₁ ⊢
 have hCs:H2.objs.size=s.heap.objs.size+1:=by rw[<-hH2,Heap.size_push]
 have hDC:s.heap.objs.size≠H2.objs.size:=by rw[hCs];exact Nat.ne_of_lt (Nat.lt_succ_self _)
 have hCle:s.heap.objs.size<=H2.objs.size:=by rw[hCs];exact Nat.le_succ _
 have below:∀b,b < s.heap.objs.size->b≠H2.objs.size:=fun b hb=>by rw[hCs];exact Nat.ne_of_lt (Nat.lt_succ_of_lt hb)
 have old:∀b o,s.heap.get? b=some o->h₁.get? b=some o:=fun b o e=>hsb₁.extBut b o (below b (Heap.lt_size e)) (Heap.get?_push_of_some _ (hH2▸Heap.get?_push_of_some _ e))
 have hacc:h₁.get? s.heap.objs.size=some { cls:=.type "list",data:=.seq ([]:List Value).toArray 0 }:=hsb₁.extBut _ _ hDC (Heap.get?_push_of_some _ (hH2▸Heap.get?_push_size _ rfl))
 have st₁:tn 0 h₁:=T.keep _ _ _ st fun b _ o e=>old b o e
 obtain⟨W,⟨m0,w0⟩,turn⟩:=hw
 have fp0:∀b∈fp,b < s.heap.objs.size:=fun b hb=>by
  obtain⟨o,e,_⟩:=T.obj _ _ st b hb
  exact Heap.lt_size e
 have stat:∀{H':Hp} {pl:List (Addr×Obj)},(∀b∈fp,H' b=none)->(∀p∈pl,s.heap.objs.size<=p.1)->∀b∈fp,vY (xJ X scope N fp H2.objs.size s H) pl H' b:=fun {H' pl} hn hp b hb=>by
  refine⟨hn b hb,below b (fp0 b hb),fun z=>?_,.inl hb,fun x c e=>(hf b hb).2.2.2.2.1 x c (lM (S.cells I) e),fun p q z=>?_⟩
  ·have z':b∈frs X.stack:=z
   rcases List.mem_cons.mp (I.yR b z') with q|q
   ·exact(hf b hb).2.1 q
   ·exact(hf b hb).2.2.1 q
  ·have q':p∈([]:List (Addr×Obj))++pl:=q
   have h1:=hp p (by simpa using q')
   rw[z] at h1
   exact absurd (Nat.lt_of_lt_of_le (fp0 b hb) h1) (Nat.lt_irrefl _)
 have loop:∀s₃:Shared,s₃={ s with heap:=h₁,toks:=s.toks+([]:List (Str×Value)).length }->
   codeAny (model X.prog X.w) X.A (.compLoop (.ListComp elt [⟨target,iter,ifs,0⟩] scope pos) 0 (.ref it) (.ref s.heap.objs.size) (compEnvC scope (jY X.env scope.names []) H2.objs.size X.env))
    (RR (.ref s.heap.objs.size) H2.objs.size) s₃:=by
  rintro s₃ rfl
  refine aCR (fun n s'=>∃i ys its H' nn,Inv (xJ X scope N fp H2.objs.size s H) [(s.heap.objs.size,{ cls:=.type "list",data:=.seq its.toArray nn })] (cσ k idx σ) H' s'/\tn i s'.heap/\(∀b∈fp,H' b=none)/\Vals ys its/\W i n ys H') ?_ m0
   ⟨0,[],[],H,0,aFw S I hf (fun b hb=>let ⟨o,e,_⟩:=T.obj _ _ st b hb;⟨o,e⟩) hCle (Nat.le_refl _) hDC hns₁ old hacc (fun v z=>by cases z),st₁,fun b hb=>(hf b hb).1,.nil,w0⟩
  rintro n s' ⟨i,ys,its,H',nn,I',st',fr',rv,w'⟩
  obtain⟨hz,alt⟩:=turn i n ys H' w'
  have pl:∀p∈[((s.heap.objs.size:Addr),({ cls:=.type "list",data:=.seq its.toArray nn }:Obj))],s.heap.objs.size<=p.1:=fun p hp=>by
   have e:p=((s.heap.objs.size:Addr),({ cls:=.type "list",data:=.seq its.toArray nn }:Obj)):=by simpa using hp
   rw[e]
   exact Nat.le_refl _
  rcases alt with ⟨stop,q⟩|⟨go,Nx,hN,step⟩
  ·refine cK (T.done (xJ X scope N fp H2.objs.size s H) rfl rfl rfl hc i _ s' _ H' _ I' (stat fr' pl) st' stop) fun r s4 ⟨hr,I4⟩=>?_
   subst hr
   obtain⟨eD,nD,_⟩:=I4.pin _ (List.mem_append_right _ List.mem_cons_self)
   obtain⟨a1,a2⟩:=aH1 I hf I4 hCle (Nat.le_refl _) hDC nD eD rv hz
   obtain⟨m4,hn4,_⟩:=I4.loc
   exact hRR _ _ s4 m4 ys H' hn4 a1 a2 nD q
  ·refine cK (T.item (xJ X scope N fp H2.objs.size s H) rfl rfl rfl hc i _ s' _ H' _ I' (stat fr' pl) st' go) fun r s4 ⟨u,hr,h4⟩=>?_
   subst hr
   refine cK h4 fun _ s5 ⟨x,H5,I5,r5,y5,st5,fr5⟩=>?_
   have I5':=I5.pinned (stat fr5 pl) (T.obj _ _ st5)
   have noE:∀{α:Type} {t:Sem α} {Q:α->Shared->Prop} {E':Value->Shared->Prop} {sx:Shared},wpAny (model X.prog X.w) X.A t Q (fun _ _=>False) sx->wpAny (model X.prog X.w) X.A t Q E' sx:=fun h=>wpAny_mono h (fun _ _ q=>q) fun _ _ z=>z.elim
   refine noE (cK (hg _ _ s5 _ H5 x u _ I5' r5 (ho x _ H5 _ _ ⟨rfl,fun _ _=>rfl⟩ (step x H5 y5))) fun _ s6 ⟨σ6,H6,I6,ag,q6⟩=>?_)
   have back:∀{H7:Hp} {s7:Shared},Inv (xJ X scope N fp H2.objs.size s H) ([((s.heap.objs.size:Addr),({ cls:=.type "list",data:=.seq its.toArray nn }:Obj))] ++ yV fp s5.heap) σ6 H7 s7->
     Inv (xJ X scope N fp H2.objs.size s H) [((s.heap.objs.size:Addr),({ cls:=.type "list",data:=.seq its.toArray nn }:Obj))] (cσ k idx σ) H7 s7/\tn (i+1) s7.heap/\∀b∈fp,H7 b=none:=fun {H7 s7} I7=>by
    refine⟨I7.uE.weak (by rw[ag.1]) fun j v e=>?_,T.keep _ _ _ st5 fun b hb o e=>(I7.pin (b,o) (List.mem_append_right _ (List.mem_append_right _ (oF hb e)))).1,fun b hb=>?_⟩
    ·have hj:k<=j:=by
      by_cases hj:j < k
      ·unfold cσ at e
       rw[List.getElem?_append_left (by simpa using hj),List.getElem?_replicate,if_pos hj] at e
       cases e
      ·omega
     rw[ag.2 j hj]
     exact e
    ·obtain⟨o,e,d⟩:=T.obj _ _ st5 b hb
     exact(I7.pin (b,o) (List.mem_append_right _ (List.mem_append_right _ (oF hb e)))).2.1
   refine noE (cK (ht _ _ s6 σ6 H6 _ I6 q6) fun b s7 ⟨H7,I7,q7⟩=>?_)
   cases b with
   |false=>
    rw[if_neg Bool.false_ne_true] at q7 ⊢
    obtain⟨m',hm,w7⟩:=hN _ _ q7
    obtain⟨b1,b2,b3⟩:=back I7
    exact⟨m',hm,i+1,ys,its,H7,nn,b1,b2,b3,rv,w7⟩
   |true=>
    rw[if_pos rfl] at q7 ⊢
    refine noE (cK (he _ _ s7 σ6 H7 _ I7 q7) fun y s8 ⟨z,H8,I8,r8,q8⟩=>?_)
    obtain⟨m',hm,w8⟩:=hN _ _ q8
    obtain⟨b1,b2,b3⟩:=back I8
    obtain⟨eD,nD,neD,nfD,_⟩:=b1.pin _ (List.mem_append_right _ List.mem_cons_self)
    have lenV:=rv.length
    refine append_at (hsz:=by rw[List.size_toArray,<-lenV];exact hz) eD fun h9 hs9 hD9=>?_
    have b1':Inv (xJ X scope N fp H2.objs.size s H) [] (cσ k idx σ) H8 s8:=b1.yD fun p hp=>by cases hp
    have I9:Inv (xJ X scope N fp H2.objs.size s H) [] (cσ k idx σ) H8 { s8 with heap:=h9 }:=b1'.turned (t':=s8.toks) (fun b o hb e=>(hs9.2 b hb).trans e) nD neD (.inr (Nat.le_refl _)) (fun x c e z=>by
     obtain⟨v,q⟩:=I.cell x c (lM (S.cells I) e)
     exact absurd (Nat.lt_of_lt_of_le q.lt (by rw[z];exact Nat.le_refl _)) (Nat.lt_irrefl _)) (fun p hp=>by
     have hp':p∈([]:List (Addr×Obj)) ++ []:=hp
     simp at hp')
    refine⟨m',hm,i+1,ys ++ [z],its ++ [y],H8,nn+1,I9.yD fun p hp=>?_,T.keep _ _ _ b2 fun b hb o e=>(hs9.2 b (Nat.ne_of_lt (fp0 b hb))).trans e,b3,rv.append (.cons r8 .nil),w8⟩
    have e:p=((s.heap.objs.size:Addr),({ cls:=.type "list",data:=.seq (its ++ [y]).toArray (nn+1) }:Obj)):=by simpa using hp
    subst e
    exact⟨by rw[<-aGr];exact hD9,nD,neD,nfD,fun v z=>by cases z⟩
 exact codeAny_compStart_list (loop _ rfl) (T.self _ 0 _ _ _ st₁ (loop _ rfl))
theorem fE(k:Nat)(idx:List Nat){N:List Str}{elt target iter:Expr}{ifs:List Expr}{pos:Pos}{wi:TI}{g:TG}{tt:TT}{te:TE}(S:dH X scope N k idx)(hc:X.calm=true)(hi:PI X target iter wi)
  (hg:∀fp C s H,PG (xJ X scope N fp C s H) target g) (ho:Own k g) (ht:∀fp C s H,PTs (xJ X scope N fp C s H) ifs tt) (he:∀fp C s H,PE (xJ X scope N fp C s H) elt te)
  (hs:∀x,foldedSetIterable iter X.env x=pure x:=by intro _;rfl):PE X (.ListComp elt [⟨target,iter,ifs,0⟩] scope pos) (aCU wi k idx g tt te):=by
 intro pins s σ H Q I h
 rw[eval_ListComp]
 refine wpAny_comprehension_free (use:=none) rfl hs (tG (S.cells I)) S.kind S.names (cK (hi pins s σ H _ I h) fun v s1 h1=>cK h1 fun itv s2 h2=>?_)
 obtain⟨it,fp,tn,J,H2,e,I2,T,st2,f2,w2⟩:=h2
 subst e
 refine y3 (RR:=fun acc C=>compPost (model X.prog X.w) X.A X.xe none (EP X pins σ Q) acc C) S hc I2 T st2 f2 (fun C=>hg fp C s2 H2) ho (fun C=>ht fp C s2 H2) (fun C=>he fp C s2 H2) w2 fun D C s' m ys H' hn I' fC hD q=>?_
 refine⟨m,hn,fun h'' hs''=>⟨.ref D,_,I'.turned (t':=s'.toks) (fun b o hb e=>(hs''.2 b hb).trans e) fC.1 fC.2.1 fC.2.2.2.1 fC.2.2.2.2.1 fC.2.2.2.2.2,rfl,q D hD⟩⟩
theorem aBN(k:Nat)(idx:List Nat){i:Nat}{x:Str}{N:List Str}{elt target iter:Expr}{ifs:List Expr}{pos pos' spos:Pos}{wi:TI}{g:TG}{tt:TT}{te:TE}(hN:X.N.Nodup)(hix:X.N[i]?=some x)(hx:Loc X.env.scope x)
  (S:dH X scope N k idx) (hc:X.calm=true) (hi:PI X target iter wi)
  (hg:∀fp C s H,PG (xJ X scope N fp C s H) target g) (ho:Own k g) (ht:∀fp C s H,PTs (xJ X scope N fp C s H) ifs tt) (he:∀fp C s H,PE (xJ X scope N fp C s H) elt te)
  (hsw:swapsWith (.ListComp elt [⟨target,iter,ifs,0⟩] scope pos) (some (.Name x pos')) spos.line X.env=pure true:=by rfl)
  (hs:∀x,foldedSetIterable iter X.env x=pure x:=by intro _;rfl) (hfn:X.fn x=true\/X.env.scope.names.lookup x=some .local:=by first|exact .inl rfl|exact .inr rfl|assumption) :
  PS X (.Assign [.Name x pos'] (.ListComp elt [⟨target,iter,ifs,0⟩] scope pos) spos) (aDA (aCU wi k idx g tt te) (sR i)):=by
 intro pins s σ H D I h
 rw[exec_Assign_Name_used _ _ _ _ hsw]
 refine wpAny_bind (wpAny_standAt (wpAny_bind ?_))
 show wpAny _ X.A (do let _ <-comprehension (.ListComp elt [⟨target,iter,ifs,0⟩] scope pos) scope X.env _ (newList []) false (eval iter X.env) (some (assign (.Name x pos') X.env))) _ _ s
 refine wpAny_bind (wpAny_mono (wpAny_comprehension_free (use:=some (assign (.Name x pos') X.env)) (Q:=fun _ s'=>SP X pins D .next s') rfl hs (tG (S.cells I)) S.kind S.names
  (cK (hi pins s σ H _ I h) fun v s1 h1=>cK h1 fun itv s2 h2=>?_)) (fun _ s' hq=>wpAny_pure (wpAny_pure hq)) fun _ _ e=>e)
 obtain⟨it,fp,tn,J,H2,e,I2,T,st2,f2,w2⟩:=h2
 subst e
 refine y3 (RR:=fun acc C=>compPost (model X.prog X.w) X.A X.xe (some (assign (.Name x pos') X.env)) (fun _ s'=>SP X pins D .next s') acc C) S hc I2 T st2 f2 (fun C=>hg fp C s2 H2) ho (fun C=>ht fp C s2 H2) (fun C=>he fp C s2 H2) w2 fun D' C s' m ys H' hn I' fC hD q=>?_
 show wpAny _ X.A (assign (.Name x pos') X.env (.ref D')) _ _ s'
 refine wpAny_assign_Name (aAZ I' hN hix hx (show RelV (.ref D') (.ref D') from rfl) (fun s3 I3 ⟨a,sb,ha⟩=>?_) hfn)
 have hCa:C≠a:=by
  rcases ha with z|z
  ·rw[z];exact fC.2.1
  ·exact(fC.2.2.2.2.1 x a z).symm
 refine⟨m,hn.sameBut sb hCa,fun h'' hs''=>⟨_,_,I3.turned (t':=s3.toks) (fun b o hb e=>(hs''.2 b hb).trans e) fC.1 fC.2.1 fC.2.2.2.1 fC.2.2.2.2.1 fC.2.2.2.2.2,q D' hD⟩⟩
end
theorem gK{K:W.Frag}{a:Addr}{xs:List V}{σ₀:St}{g:TG}{tt:TT}{te:TE}{R:List V->Hp->Prop}{H:Hp}(Pv:Nat->List V->Hp->Prop)(h0:Pv 0 [] H)(hz:xs.length<=sizeLine)
  (hl:∀i ys H,i<=xs.length->Pv i ys H->bQ K H a xs/\ys.length<=i)
  (hs:∀i x ys H,xs[i]?=some x->Pv i ys H->g x σ₀ H fun σ2 H2=>tt σ2 H2 fun b H3=>if b=true then te σ2 H3 fun y H4=>Pv (i+1) (ys ++ [y]) H4 else Pv (i+1) ys H3)
  (hd:∀ys H,Pv xs.length ys H->R ys H):oI (Itl K a) σ₀ g tt te R H:=by
 refine⟨fun i m ys H=>m=xs.length - i/\i<=xs.length/\Pv i ys H,⟨xs.length,by simp,Nat.zero_le _,h0⟩,?_⟩
 rintro i m ys H ⟨rfl,hi,p⟩
 obtain⟨q,ql⟩:=hl i ys H hi p
 refine⟨by omega,?_⟩
 by_cases hlt:i < xs.length
 ·refine .inr ⟨⟨xs,xs[i],q,by simp[hlt]⟩,Pv (i+1),fun ys' H' p'=>⟨xs.length - (i+1),by omega,rfl,hlt,p'⟩,fun x H' y=>?_⟩
  obtain⟨e,y⟩:=y
  subst e
  exact hs i x ys _ (y xs q) p
 ·have e:i=xs.length:=by omega
  subst e
  exact .inl ⟨⟨xs,q,Nat.le_refl _⟩,hd ys H p⟩
theorem aGs{K:W.Frag}{a:Addr}{xs:List V}{σ₀:St}{g:TG}{tt:TT}{te:TE}{R:List V->Hp->Prop}{H:Hp}(Pv:Nat->List V->Hp->Prop)(h0:Pv 0 [] H)(hz:xs.length<=sizeLine)
  (hl:∀i ys H,i<=xs.length->Pv i ys H->lJ K H a xs/\ys.length<=i)
  (hs:∀i x ys H,xs[i]?=some x->Pv i ys H->g x σ₀ H fun σ2 H2=>tt σ2 H2 fun b H3=>if b=true then te σ2 H3 fun y H4=>Pv (i+1) (ys ++ [y]) H4 else Pv (i+1) ys H3)
  (hd:∀ys H,Pv xs.length ys H->R ys H):oI (Itt K a) σ₀ g tt te R H:=by
 refine⟨fun i m ys H=>m=xs.length - i/\i<=xs.length/\Pv i ys H,⟨xs.length,by simp,Nat.zero_le _,h0⟩,?_⟩
 rintro i m ys H ⟨rfl,hi,p⟩
 obtain⟨q,ql⟩:=hl i ys H hi p
 refine⟨by omega,?_⟩
 by_cases hlt:i < xs.length
 ·refine .inr ⟨⟨xs,xs[i],q,by simp[hlt]⟩,Pv (i+1),fun ys' H' p'=>⟨xs.length - (i+1),by omega,rfl,hlt,p'⟩,fun x H' y=>?_⟩
  obtain⟨e,y⟩:=y
  subst e
  exact hs i x ys _ (y xs q) p
 ·have e:i=xs.length:=by omega
  subst e
  exact .inl ⟨⟨xs,q,Nat.le_refl _⟩,hd ys H p⟩
theorem tH{lo:Int}{n:Nat}{σ₀:St}{g:TG}{tt:TT}{te:TE}{R:List V->Hp->Prop}{H:Hp}(Pv:Nat->List V->Hp->Prop)(h0:Pv 0 [] H)(hz:n<=sizeLine)
  (hl:∀i ys H,i<=n->Pv i ys H->ys.length<=i)
  (hs:∀i ys H,i < n->Pv i ys H->g (.int (lo+i)) σ₀ H fun σ2 H2=>tt σ2 H2 fun b H3=>if b=true then te σ2 H3 fun y H4=>Pv (i+1) (ys ++ [y]) H4 else Pv (i+1) ys H3)
  (hd:∀ys H,Pv n ys H->R ys H):oI (Itr lo n) σ₀ g tt te R H:=by
 refine⟨fun i m ys H=>m=n - i/\i<=n/\Pv i ys H,⟨n,by simp,Nat.zero_le _,h0⟩,?_⟩
 rintro i m ys H ⟨rfl,hi,p⟩
 have ql:=hl i ys H hi p
 refine⟨by omega,?_⟩
 by_cases hlt:i < n
 ·refine .inr ⟨hlt,Pv (i+1),fun ys' H' p'=>⟨n - (i+1),by omega,rfl,hlt,p'⟩,fun x H' y=>?_⟩
  obtain⟨e,y⟩:=y
  subst e y
  exact hs i ys _ hlt p
 ·have e:i=n:=by omega
  subst e
  exact .inl ⟨Nat.le_refl _,hd ys H p⟩
end L2
namespace L2
open PySem PySem.Spec PyProof.Rows
theorem aDR:bootBuiltins "int" = some (.type "int"):=by decide +kernel
theorem uO:bootBuiltins "bool" = some (.type "bool"):=by decide +kernel
theorem aGt:bootBuiltins "str" = some (.type "str"):=by decide +kernel
theorem lN:bootBuiltins "list" = some (.type "list"):=by decide +kernel
theorem uP:bootBuiltins "tuple" = some (.type "tuple"):=by decide +kernel
theorem eQ:bootBuiltins "len" = some (.builtin "len"):=by decide +kernel
theorem aJX:bootBuiltins "abs" = some (.builtin "abs"):=by decide +kernel
theorem tI:bootBuiltins "max" = some (.builtin "max"):=by decide +kernel
theorem tJ:bootBuiltins "min" = some (.builtin "min"):=by decide +kernel
theorem aJY:bootBuiltins "sum" = some (.builtin "sum"):=by decide +kernel
theorem aDS:bootBuiltins "all" = some (.builtin "all"):=by decide +kernel
theorem aA9:bootBuiltins "sorted" = some (.builtin "sorted"):=by decide +kernel
theorem bD:bootBuiltins "isinstance" = some (.builtin "isinstance"):=by decide +kernel
section
variable{X:Cx}
def aGu:R2:=fun x y H Q=>rI0 (fun i j=>.int (i+j)) x y H Q\/aK8 x y H Q
theorem bL:pT X (binaryOp .Add) aGu:=aJA.or aJN
def aI6:R2:=fun x y H Q=>rI aF5 (fun i j=>.int (i*j)) x y H Q\/aK9 x y H Q
theorem bS:pT X (binaryOp .Mult) aI6:=aJB.or aJO
def aGv(K:W.Frag):V->Option Int->Option Int->Hp->VK->Prop:=fun x lo hi H Q=>aK6 K x lo hi H Q\/aK1 K x lo hi H Q
theorem aJZ:SlR X (aGv X.K):=aHW.or aJH
def EqN(K:W.Frag)(H:Hp):Nat->V->V->Bool->Prop
 |0,x,y,b=>kP x=true/\kP y=true/\b=eqV x y
 |n+1,x,y,b=>(kP x=true/\kP y=true/\b=eqV x y)\/
  ∃(p q:Addr) (xs ys:List V) (e:Nat->Bool),x=.ref p/\y=.ref q/\((bQ K H p xs/\bQ K H q ys)\/(lJ K H p xs/\lJ K H q ys))/\
   (∀(j:Nat) u v,xs[j]?=some u->ys[j]?=some v->EqN K H n u v (e j))/\b=(xs.length == ys.length && (List.range xs.length).all e)
theorem aCV{x:V}(h:kP x=true):eqV x x=true:=by
 cases x with
 |non=>rfl
 |bl b=>cases b <;> rfl
 |int i=>exact beq_self_eq_true i
 |str z=>exact beq_self_eq_true z
 |_=>exact absurd (show false=true from h) Bool.false_ne_true
theorem aCW{pins:List (Addr×Obj)}{σ:St}{H:Hp}{s:Shared}(I:Inv X pins σ H s):∀{n:Nat}{x:V}{b:Bool},EqN X.K H n x x b->b=true
 |0,x,b,⟨h,_,e⟩=>by rw[e];exact aCV h
 |n+1,x,b,h=>by
  rcases h with ⟨h,_,e⟩|⟨p,q,xs,ys,e,e1,e2,hs,he,eb⟩
  ·rw[e];exact aCV h
  ·subst e1
   cases e2
   have exy:xs=ys:=by
    rcases hs with ⟨h1,h2⟩|⟨h1,h2⟩
    ·exact I.yT h1 h2
    ·exact I.aA1 h1 h2
   subst exy
   rw[eb,beq_self_eq_true,Bool.true_and,List.all_eq_true]
   intro j hj
   have hj':j < xs.length:=List.mem_range.mp hj
   exact aCW I (he j xs[j] xs[j] (List.getElem?_eq_getElem hj') (List.getElem?_eq_getElem hj'))
theorem aGw{pins:List (Addr×Obj)}{σ:St}{H:Hp}{s:Shared}(I:Inv X pins σ H s):∀{n:Nat}{A:Around}{x y:V}{u v:Value}{b:Bool},A.units+n < cLine->RelV x u->RelV y v->EqN X.K H n x y b->SeqAt.EqAt A s u v b
 |0,A,x,y,u,v,b,_,rx,ry,⟨h1,h2,e⟩=>by rw[e];exact aGi rx ry h1 h2
 |n+1,A,x,y,u,v,b,hu,rx,ry,h=>by
  rcases id h with ⟨h1,h2,e⟩|⟨p,q,xs,ys,e,e1,e2,hs,he,eb⟩
  ·rw[e];exact aGi rx ry h1 h2
  ·subst e1 e2
   cases rx
   cases ry
   by_cases hpq:p=q
   ·subst hpq
    rw[aCW I h]
    exact SeqAt.EqAt.same _
   ·refine SeqAt.EqAt.of_refs hpq ?_
    have items:∀{us vs:List Value},Vals xs us->Vals ys vs->∀j (h1:j < us.toArray.size) (h2:j < vs.toArray.size),SeqAt.EqAt A.in1 s us.toArray[j] vs.toArray[j] (e j):=fun {us vs} r1 r2 j h1 h2=>by
     have l1:=r1.length
     have l2:=r2.length
     rw[List.size_toArray] at h1 h2
     have g1:xs[j]?=some xs[j]:=List.getElem?_eq_getElem (by omega)
     have g2:ys[j]?=some ys[j]:=List.getElem?_eq_getElem (by omega)
     obtain⟨u',eu,ru⟩:=r1.get g1
     obtain⟨v',ev,rv⟩:=r2.get g2
     have eu':us.toArray[j]=u':=by
      rw[List.getElem_toArray]
      exact Option.some.inj ((List.getElem?_eq_getElem h1).symm.trans eu)
     have ev':vs.toArray[j]=v':=by
      rw[List.getElem_toArray]
      exact Option.some.inj ((List.getElem?_eq_getElem h2).symm.trans ev)
     rw[eu',ev']
     exact aGw I (n:=n) (by show A.units+1+n < cLine;omega) ru rv (he j _ _ g1 g2)
    rcases hs with ⟨h1,h2⟩|⟨h1,h2⟩
    ·obtain⟨us,r1,p1,_⟩:=I.list h1
     obtain⟨vs,r2,p2,_⟩:=I.list h2
     have l1:=r1.length
     have l2:=r2.length
     by_cases hl:xs.length=ys.length
     ·rw[eb,hl,beq_self_eq_true,Bool.true_and,<-hl,show xs.length=us.toArray.size by rw[List.size_toArray];exact l1]
      exact SeqAt.RcAt.lists p1.isList p2.isList (by rw[List.size_toArray,List.size_toArray];omega) (by omega) (items r1 r2)
     ·rw[eb,show(xs.length == ys.length)=false by simpa using hl,Bool.false_and]
      exact SeqAt.RcAt.lists_lengths p1.isList p2.isList (by rw[List.size_toArray,List.size_toArray];simp;omega) (by omega)
    ·obtain⟨us,r1,p1,_⟩:=I.tuple h1
     obtain⟨vs,r2,p2,_⟩:=I.tuple h2
     have l1:=r1.length
     have l2:=r2.length
     have q:=SeqAt.RcAt.tuples (s:=s) (A:=A) (l:=p) (b:=q) (e:=e) p1 p2 (by omega) (items r1 r2)
     rw[List.size_toArray,List.size_toArray,<-l1,<-l2] at q
     by_cases hl:xs.length=ys.length
     ·rw[eb,hl,beq_self_eq_true,Bool.true_and]
      rw[hl,Nat.min_self,beq_self_eq_true,Bool.and_true] at q
      exact q
     ·have hb:(xs.length == ys.length)=false:=by simpa using hl
      rw[eb,hb,Bool.false_and]
      rw[hb,Bool.and_false] at q
      exact q
def nP(K:W.Frag):R2:=fun x y H Q=>∃b,EqN K H 8 x y b/\Q (.bl b) H
def aFx(K:W.Frag):R2:=fun x y H Q=>∃b,EqN K H 8 x y b/\Q (.bl (!b)) H
theorem rR{pins:List (Addr×Obj)}{σ:St}{H:Hp}{s:Shared}{n:Nat}{A:Around}{xs ys:List V}{us vs:List Value}{e:Nat->Bool}(I:Inv X pins σ H s)(hu:A.units+1+n < cLine)
  (he:∀(j:Nat) u v,xs[j]?=some u->ys[j]?=some v->EqN X.K H n u v (e j)) (r1:Vals xs us) (r2:Vals ys vs):∀j (h1:j < us.toArray.size) (h2:j < vs.toArray.size),SeqAt.EqAt A.in1 s us.toArray[j] vs.toArray[j] (e j):=fun j h1 h2=>by
 have l1:=r1.length
 have l2:=r2.length
 rw[List.size_toArray] at h1 h2
 have g1:xs[j]?=some xs[j]:=List.getElem?_eq_getElem (by omega)
 have g2:ys[j]?=some ys[j]:=List.getElem?_eq_getElem (by omega)
 obtain⟨u',eu,ru⟩:=r1.get g1
 obtain⟨v',ev,rv⟩:=r2.get g2
 have eu':us.toArray[j]=u':=by
  rw[List.getElem_toArray]
  exact Option.some.inj ((List.getElem?_eq_getElem h1).symm.trans eu)
 have ev':vs.toArray[j]=v':=by
  rw[List.getElem_toArray]
  exact Option.some.inj ((List.getElem?_eq_getElem h2).symm.trans ev)
 rw[eu',ev']
 exact aGw I (n:=n) (by show A.units+1+n < cLine;omega) ru rv (he j _ _ g1 g2)
theorem aJ0{A:Around}{s:Shared}{y x:V}{u v:Value}(ry:RelV y u)(rx:RelV x v)(fy:kP y=true)(fx:kP x=true):SeqAt.RcAt A s u v (eqV y x):=by
 cases y with
 |non=>
  cases ry
  cases x with
  |non=>cases rx;exact SeqAt.RcAt.none_none
  |bl b=>cases rx;exact SeqAt.RcAt.none_bool b
  |int b=>obtain⟨t,rfl⟩:=rx;exact SeqAt.RcAt.none_int b t
  |str b=>obtain⟨t,rfl⟩:=rx;exact SeqAt.RcAt.none_str b t
  |_=>exact absurd (show false=true from fx) Bool.false_ne_true
 |bl a=>
  cases ry
  cases x with
  |non=>cases rx;exact SeqAt.RcAt.bool_none a
  |bl b=>cases rx;exact SeqAt.RcAt.bool_bool a b
  |int b=>obtain⟨t,rfl⟩:=rx;exact SeqAt.RcAt.bool_int a b t
  |str b=>obtain⟨t,rfl⟩:=rx;exact SeqAt.RcAt.bool_str a b t
  |_=>exact absurd (show false=true from fx) Bool.false_ne_true
 |int a=>
  obtain⟨t',rfl⟩:=ry
  cases x with
  |non=>cases rx;exact SeqAt.RcAt.int_none a t'
  |bl b=>cases rx;exact SeqAt.RcAt.int_bool a t' b
  |int b=>obtain⟨t,rfl⟩:=rx;exact SeqAt.RcAt.int_int a t' b t
  |str b=>obtain⟨t,rfl⟩:=rx;exact SeqAt.RcAt.int_str a t' b t
  |_=>exact absurd (show false=true from fx) Bool.false_ne_true
 |str a=>
  obtain⟨t',rfl⟩:=ry
  cases x with
  |non=>cases rx;exact SeqAt.RcAt.str_none a t'
  |bl b=>cases rx;exact SeqAt.RcAt.str_bool a t' b
  |int b=>obtain⟨t,rfl⟩:=rx;exact SeqAt.RcAt.str_int a t' b t
  |str b=>obtain⟨t,rfl⟩:=rx;exact SeqAt.RcAt.str_str a t' b t
  |_=>exact absurd (show false=true from fx) Bool.false_ne_true
 |_=>exact absurd (show false=true from fy) Bool.false_ne_true
theorem aGx{A:Around}{s:Shared}{y x:V}{u v:Value}(ry:RelV y u)(rx:RelV x v)(fy:kP y=true)(fx:kP x=true):SeqAt.RcNeAt A s u v (!eqV y x):=by
 cases y with
 |non=>
  cases ry
  cases x with
  |non=>cases rx;exact SeqAt.RcNeAt.none_none
  |bl b=>cases rx;exact SeqAt.RcNeAt.none_bool b
  |int b=>obtain⟨t,rfl⟩:=rx;exact SeqAt.RcNeAt.none_int b t
  |str b=>obtain⟨t,rfl⟩:=rx;exact SeqAt.RcNeAt.none_str b t
  |_=>exact absurd (show false=true from fx) Bool.false_ne_true
 |bl a=>
  cases ry
  cases x with
  |non=>cases rx;exact SeqAt.RcNeAt.bool_none a
  |bl b=>cases rx;exact SeqAt.RcNeAt.bool_bool a b
  |int b=>obtain⟨t,rfl⟩:=rx;exact SeqAt.RcNeAt.bool_int a b t
  |str b=>obtain⟨t,rfl⟩:=rx;exact SeqAt.RcNeAt.bool_str a b t
  |_=>exact absurd (show false=true from fx) Bool.false_ne_true
 |int a=>
  obtain⟨t',rfl⟩:=ry
  cases x with
  |non=>cases rx;exact SeqAt.RcNeAt.int_none a t'
  |bl b=>cases rx;exact SeqAt.RcNeAt.int_bool a t' b
  |int b=>obtain⟨t,rfl⟩:=rx;exact SeqAt.RcNeAt.int_int a t' b t
  |str b=>obtain⟨t,rfl⟩:=rx;exact SeqAt.RcNeAt.int_str a t' b t
  |_=>exact absurd (show false=true from fx) Bool.false_ne_true
 |str a=>
  obtain⟨t',rfl⟩:=ry
  cases x with
  |non=>cases rx;exact SeqAt.RcNeAt.str_none a t'
  |bl b=>cases rx;exact SeqAt.RcNeAt.str_bool a t' b
  |int b=>obtain⟨t,rfl⟩:=rx;exact SeqAt.RcNeAt.str_int a t' b t
  |str b=>obtain⟨t,rfl⟩:=rx;exact SeqAt.RcNeAt.str_str a t' b t
  |_=>exact absurd (show false=true from fx) Bool.false_ne_true
 |_=>exact absurd (show false=true from fy) Bool.false_ne_true
theorem eR(hu:X.A.units+9 < cLine):pT X (compareOp .Eq) (nP X.K):=by
 intro pins s σ H x y v u Q I rx ry h
 obtain⟨b,h,q⟩:=h
 have fin:EP X pins σ Q (.bool b) s:=⟨.bl b,H,I,rfl,q⟩
 rcases h with ⟨h1,h2,e⟩|⟨p,l,xs,ys,e,e1,e2,hs,he,eb⟩
 ·exact aJ0 rx ry h1 h2 X.prog X.w X.xe _ (by rw[<-e];exact fin)
 ·subst e1 e2
  cases rx
  cases ry
  rcases hs with ⟨h1,h2⟩|⟨h1,h2⟩
  ·obtain⟨us,r1,p1,_⟩:=I.list h1
   obtain⟨vs,r2,p2,_⟩:=I.list h2
   have l1:=r1.length
   have l2:=r2.length
   by_cases hl:xs.length=ys.length
   ·refine SeqAt.RcAt.lists p1.isList p2.isList (by rw[List.size_toArray,List.size_toArray];omega) (by omega) (rR I (n:=7) (A:=X.A) (by omega) he r1 r2) X.prog X.w X.xe _ ?_
    rw[List.size_toArray,<-l1]
    rw[eb,hl,beq_self_eq_true,Bool.true_and,<-hl] at fin
    exact fin
   ·refine SeqAt.RcAt.lists_lengths p1.isList p2.isList (by rw[List.size_toArray,List.size_toArray];simp;omega) (by omega) X.prog X.w X.xe _ ?_
    rw[eb,show(xs.length == ys.length)=false by simpa using hl,Bool.false_and] at fin
    exact fin
  ·obtain⟨us,r1,p1,_⟩:=I.tuple h1
   obtain⟨vs,r2,p2,_⟩:=I.tuple h2
   have l1:=r1.length
   have l2:=r2.length
   refine SeqAt.RcAt.tuples p1 p2 (by omega) (rR I (n:=7) (A:=X.A) (by omega) he r1 r2) X.prog X.w X.xe _ ?_
   rw[List.size_toArray,List.size_toArray,<-l1,<-l2]
   rw[eb] at fin
   by_cases hl:xs.length=ys.length
   ·rw[hl,beq_self_eq_true,Bool.true_and] at fin
    rw[hl,Nat.min_self,beq_self_eq_true,Bool.and_true]
    exact fin
   ·have hb:(xs.length == ys.length)=false:=by simpa using hl
    rw[hb,Bool.false_and] at fin
    rw[hb,Bool.and_false]
    exact fin
theorem aDT(hu:X.A.units+9 < cLine):pT X (compareOp .NotEq) (aFx X.K):=by
 intro pins s σ H x y v u Q I rx ry h
 obtain⟨b,h,q⟩:=h
 have fin:EP X pins σ Q (.bool (!b)) s:=⟨.bl (!b),H,I,rfl,q⟩
 rcases h with ⟨h1,h2,e⟩|⟨p,l,xs,ys,e,e1,e2,hs,he,eb⟩
 ·exact aGx rx ry h1 h2 X.prog X.w X.xe _ (by rw[<-e];exact fin)
 ·subst e1 e2
  cases rx
  cases ry
  rcases hs with ⟨h1,h2⟩|⟨h1,h2⟩
  ·obtain⟨us,r1,p1,_⟩:=I.list h1
   obtain⟨vs,r2,p2,_⟩:=I.list h2
   have l1:=r1.length
   have l2:=r2.length
   by_cases hl:xs.length=ys.length
   ·refine SeqAt.RcNeAt.lists p1.isList p2.isList (by rw[List.size_toArray,List.size_toArray];omega) (by omega) (rR I (n:=7) (A:=X.A) (by omega) he r1 r2) X.prog X.w X.xe _ ?_
    rw[List.size_toArray,<-l1]
    rw[eb,hl,beq_self_eq_true,Bool.true_and,<-hl] at fin
    exact fin
   ·refine SeqAt.RcNeAt.lists_lengths p1.isList p2.isList (by rw[List.size_toArray,List.size_toArray];simp;omega) (by omega) X.prog X.w X.xe _ ?_
    rw[eb,show(xs.length == ys.length)=false by simpa using hl,Bool.false_and] at fin
    exact fin
  ·obtain⟨us,r1,p1,_⟩:=I.tuple h1
   obtain⟨vs,r2,p2,_⟩:=I.tuple h2
   have l1:=r1.length
   have l2:=r2.length
   refine SeqAt.RcNeAt.tuples p1 p2 (by omega) (rR I (n:=7) (A:=X.A) (by omega) he r1 r2) X.prog X.w X.xe _ ?_
   rw[List.size_toArray,List.size_toArray,<-l1,<-l2]
   rw[eb] at fin
   by_cases hl:xs.length=ys.length
   ·rw[hl,beq_self_eq_true,Bool.true_and] at fin
    rw[hl,Nat.min_self,beq_self_eq_true,Bool.and_true]
    exact fin
   ·have hb:(xs.length == ys.length)=false:=by simpa using hl
    rw[hb,Bool.false_and] at fin
    rw[hb,Bool.and_false]
    exact fin
def IsI(K:W.Frag)(H:Hp)(x:V)(c:V)(b:Bool):Prop:=∃t,pV K H x t/\((∃T,c=.ty T/\PySem.W.kitOne K t (.type T)=some b)\/(∃C,c=.ref C/\PySem.W.kitOne K t (.ref C)=some b))
theorem aGy:d9 X (.builtin "isinstance") (fun xs H Q=>∃x c b,xs=[x,c]/\IsI X.K H x c b/\Q (.bl b) H):=by
 intro pins s σ H xs us Q I r h
 obtain⟨x,c,b,rfl,⟨t,ty,hc⟩,q⟩:=h
 obtain⟨u,w',rfl,rx,ry⟩:=vals2 r
 rcases hc with ⟨T,rfl,e⟩|⟨C,rfl,e⟩
 ·cases ry
  exact aA3 I rx ty e fun tk=>⟨.bl b,H,I.tok _,rfl,q⟩
 ·cases ry
  exact aA3 I rx ty e fun tk=>⟨.bl b,H,I.tok _,rfl,q⟩
end
end L2
namespace L2
open PySem PySem.Spec PyProof.Rows
section
variable{X:Cx}
def gIx(K:W.Frag):V->V->Hp->VK->Prop:=fun x y H Q=>∃p xs i v,x=.ref p/\y=.int i/\bQ K H p xs/\0<=i/\xs[i.toNat]?=some v/\Q v H
theorem aJ1:aJv X (gIx X.K):=by
 intro pins s σ H x y v u Q I rx ry h
 obtain⟨p,xs,i,z,rfl,rfl,hq,h0,he,q⟩:=h
 cases rx
 obtain⟨t,rfl⟩:=ry
 obtain⟨its,r,pl,hz⟩:=I.list hq
 obtain⟨w,ew,rw'⟩:=r.get he
 have hl:=r.length
 have hn:=v3
 have hi:i.toNat < xs.length:=(List.getElem?_eq_some_iff.mp he).1
 exact wpAny_getItem_list pl.isList h0 (by omega) (by simpa using ew) ⟨z,H,I,rw',q⟩
theorem nM{k:Nat}{A:Around}(hr:dG k A):A.units+9 < cLine:=by have:=hr.un;omega
end
section
variable{σ:St}{H:Hp}{nx bk ct:St->Hp->Prop}{rt:VK}{Q:VK}{QT:Bool->Hp->Prop}{QA:List V->Hp->Prop}{QG:St->Hp->Prop}
theorem aR{t:TS}{D:Ends}{σ σ':St}(e:σ'=σ)(h:t D σ H):t D σ' H:=e▸h
theorem aJ2{t u:TS}(h:t ⟨u ⟨nx,rt,bk,ct⟩,rt,bk,ct⟩ σ H):aFY t u ⟨nx,rt,bk,ct⟩ σ H:=h
theorem aH3(h:nx σ H):aFX ⟨nx,rt,bk,ct⟩ σ H:=h
theorem aJ3{te:TE}{g:TG}(h:te σ H fun x H1=>g x σ H1 nx):aDA te g ⟨nx,rt,bk,ct⟩ σ H:=h
theorem aH4{te:TE}(h:te σ H fun _ H1=>nx σ H1):aFZ te ⟨nx,rt,bk,ct⟩ σ H:=h
theorem aJ4{te:TE}(h:te σ H rt):aJq te ⟨nx,rt,bk,ct⟩ σ H:=h
theorem aJ5{c:TT}{t u:TS}(h:c σ H fun b H1=>if b=true then t ⟨nx,rt,bk,ct⟩ σ H1 else u ⟨nx,rt,bk,ct⟩ σ H1):aJr c t u ⟨nx,rt,bk,ct⟩ σ H:=h
theorem aGz{i:Nat}{te:TE}{ti:TIp}{x:V}(e:σ[i]?=some (some x))(h:te σ H fun y H1=>ti x y H1 fun z H2=>nx (σ.set i (some z)) H2):aJu i te ti ⟨nx,rt,bk,ct⟩ σ H:=⟨x,e,h⟩
theorem aH5{to ti te:TE}{tget:V->V->Hp->VK->Prop}{tip:TIp}{tset:aBD}(h:to σ H fun o H1=>ti σ H1 fun i H2=>tget o i H2 fun x H3=>te σ H3 fun y H4=>tip x y H4 fun z H5=>tset o i z H5 fun H6=>nx σ H6):aF2 to ti te tget tip tset ⟨nx,rt,bk,ct⟩ σ H:=h
theorem aJ6{wi:TI}{g:TG}{tb:TS}(h:wi σ H fun J H1=>∃W:Nat->Nat->St->Hp->Prop,(∃m,W 0 m σ H1)/\∀i m σ H,W i m σ H->
 (J.stop i H/\nx σ H)\/(J.go i H/\∃N:St->Hp->Prop,(∀σ' H',N σ' H'->∃m',m' < m/\W (i+1) m' σ' H')/\∀x H',J.yld i H x H'->g x σ H' fun σ2 H2=>tb ⟨N,rt,nx,N⟩ σ2 H2)):aJy wi g tb ⟨nx,rt,bk,ct⟩ σ H:=h
theorem aGA{i:Nat}{v:V}{σ':St}(e:σ.set i (some v)=σ')(h:QG σ' H):sR i v σ H QG:=by unfold sR;rw[e];exact h
theorem iX{K:W.Frag}{n:Nat}{t:TGs}{a:Addr}{xs:List V}(h1:lJ K H a xs)(h2:xs.length=n)(h:t xs σ H QG):aHM K n t (.ref a) σ H QG:=⟨a,xs,rfl,h1,h2,h⟩
theorem aH6(h:QG σ H):aHL [] σ H QG:=⟨rfl,h⟩
theorem aGB{t:TG}{u:TGs}{v:V}{r:List V}(h:t v σ H fun σ' H'=>u r σ' H' QG):aEv t u (v::r) σ H QG:=⟨v,r,rfl,h⟩
theorem aH7{to ti:TE}{t:aBD}{v:V}(h:to σ H fun o H1=>ti σ H1 fun i H2=>t o i v H2 fun H3=>QG σ H3):aJt to ti t v σ H QG:=h
theorem yH{p:Addr}{xs:List V}{k:Int}{v:V}{j:Nat}{QH:Hp->Prop}(h1:H p=some (.lst xs))(h2:ixN xs.length k=some j)(h:QH (upd H p (.lst (xs.set j v)))):aI1 (.ref p) (.int k) v H QH:=⟨p,xs,k,j,rfl,rfl,h1,h2,h⟩
theorem aJ7{K:W.Frag}{p:Addr}{xs:List V}{i:Int}{v:V}(h1:bQ K H p xs)(h0:0<=i)(h2:xs[i.toNat]?=some v)(h:Q v H):gIx K (.ref p) (.int i) H Q:=⟨p,xs,i,v,rfl,rfl,h1,h0,h2,h⟩
theorem aJ8{f:Int->Int->Int}{i j:Int}(h:Q (.int (f i j)) H):ipI f (.int i) (.int j) H Q:=⟨i,j,rfl,rfl,h⟩
theorem aJ9{i:Nat}{v:V}(e:σ[i]?=some (some v))(h:Q v H):aHJ i σ H Q:=⟨v,e,h⟩
theorem aLQ{v:V}(h:Q v H):tC v σ H Q:=h
theorem aLd{r:R2}{ta tb:TE}(h:ta σ H fun x H1=>tb σ H1 fun y H2=>r x y H2 Q):tOp r ta tb σ H Q:=h
theorem aLe{r:V->Hp->VK->Prop}{ta:TE}(h:ta σ H fun x H1=>r x H1 Q):tUn r ta σ H Q:=h
theorem aKa{g:Int->Int->V}{i j:Int}(h:Q (g i j) H):rI0 g (.int i) (.int j) H Q:=⟨i,j,rfl,rfl,h⟩
theorem aLf{C:Int->Int->Prop}{g:Int->Int->V}{i j:Int}(c:C i j)(h:Q (g i j) H):rI C g (.int i) (.int j) H Q:=⟨i,j,rfl,rfl,c,h⟩
theorem aLg{g:Int->V}{i:Int}(h:Q (g i) H):rU g (.int i) H Q:=⟨i,rfl,h⟩
theorem aH8{i j:Int}(h:Q (.int (i+j)) H):aGu (.int i) (.int j) H Q:=.inl ⟨i,j,rfl,rfl,h⟩
theorem rS{l b:Addr}{xs zs:List V}(h1:H l=some (.lst xs))(h2:H b=some (.lst zs))(hz:xs.length+zs.length<=sizeLine)(h:∀p,H p=none->Q (.ref p) (upd H p (.lst (xs++zs)))):aGu (.ref l) (.ref b) H Q:=.inr ⟨l,b,xs,zs,rfl,rfl,h1,h2,hz,h⟩
theorem aH9{i j:Int}(c:aF5 i j)(h:Q (.int (i*j)) H):aI6 (.int i) (.int j) H Q:=.inl ⟨i,j,rfl,rfl,c,h⟩
theorem aKb{K:W.Frag}{x y:V}(h1:kP x=true)(h2:kP y=true)(h:Q (.bl (eqV x y)) H):nP K x y H Q:=⟨_,.inl ⟨h1,h2,rfl⟩,h⟩
theorem aKc{K:W.Frag}{x y:V}(h1:kP x=true)(h2:kP y=true)(h:Q (.bl (!eqV x y)) H):aFx K x y H Q:=⟨_,.inl ⟨h1,h2,rfl⟩,h⟩
theorem aDU{K:W.Frag}{p:Addr}{xs:List V}{i:Int}{v:V}(h1:bQ K H p xs)(h2:pO xs i=some v)(h:Q v H):rIx K (.ref p) (.int i) H Q:=.inl ⟨p,xs,i,v,rfl,rfl,h1,h2,h⟩
theorem aKd{K:W.Frag}{p:Addr}{xs:List V}{i:Int}{v:V}(h1:lJ K H p xs)(h2:pO xs i=some v)(h:Q v H):rIx K (.ref p) (.int i) H Q:=.inr (.inl ⟨p,xs,i,v,rfl,rfl,h1,h2,h⟩)
theorem aLh{r:V->Option Int->Option Int->Hp->VK->Prop}{te:TE}{tl th:TO}(h:te σ H fun x H1=>tl σ H1 fun l H2=>th σ H2 fun u H3=>r x l u H3 Q):tSl r te tl th σ H Q:=h
theorem aFy{QO:Option Int->Hp->Prop}(h:QO none H):aBI σ H QO:=h
theorem aIa{t:TE}{QO:Option Int->Hp->Prop}(h:t σ H fun x H1=>∃i,x=.int i/\QO (some i) H1):aGh t σ H QO:=h
theorem y4{K:W.Frag}{a:Addr}{xs:List V}{lo hi:Option Int}(h1:bQ K H a xs)(h:∀p,H p=none->Q (.ref p) (upd H p (.lst (mY xs lo hi)))):aGv K (.ref a) lo hi H Q:=.inl ⟨a,xs,rfl,h1,h⟩
theorem aIb{ta tb:TE}(h:ta σ H fun x H1=>∃c,x=.bl c/\if c=true then tb σ H1 Q else Q (.bl false) H1):aFU ta tb σ H Q:=h
theorem aKe{ta tb:TE}(h:ta σ H fun x H1=>∃c,x=.bl c/\if c=true then Q (.bl true) H1 else tb σ H1 Q):aJp ta tb σ H Q:=h
theorem aIc{ta:TE}(h:ta σ H fun x H1=>∃c,x=.bl c/\Q (.bl (!c)) H1):aFV ta σ H Q:=h
theorem aGC{r r':R2}{ta tb tc:TE}(h:ta σ H fun x H1=>tb σ H1 fun y H2=>r x y H2 fun z H3=>∃k,z=.bl k/\(if k=true then tc σ H3 fun w' H4=>r' y w' H4 Q else Q (.bl false) H3)):aDF r r' ta tb tc σ H Q:=h
theorem aIe{t:TE}(h:t σ H fun x H'=>∃k,x=.bl k/\QT k H'):aF6 t σ H QT:=h
theorem aLi{t:TE}(h:t σ H fun x H'=>∃k,x=.bl k/\QT k H'):tB t σ H QT:=h
theorem aKf{t u:TT}(h:t σ H fun c H1=>if c=true then u σ H1 QT else QT false H1):aJn t u σ H QT:=h
theorem aLj{t u:TT}(h:t σ H fun c H1=>if c=true then QT true H1 else u σ H1 QT):tOr t u σ H QT:=h
theorem aKg{t:TT}(h:t σ H fun c H1=>QT (!c) H1):aJo t σ H QT:=h
theorem aKh(h:QT true H):aJW σ H QT:=h
theorem aLk{b:Bool}{P:Bool->Prop}(h:P b):∃k,V.bl b=V.bl k/\P k:=⟨b,rfl,h⟩
theorem aIf{i:Int}{P:Int->Prop}(h:P i):∃k,V.int i=V.int k/\P k:=⟨i,rfl,h⟩
theorem aLl{i:Int}{P:Int->Prop}(h:P i):∃k,[V.int i]=[V.int k]/\P k:=⟨i,rfl,h⟩
theorem aLm{i j:Int}{P:Int->Int->Prop}(h:P i j):∃k l,[V.int i,V.int j]=[V.int k,V.int l]/\P k l:=⟨i,j,rfl,h⟩
theorem aKi(h:QA [] H):mX σ H QA:=h
theorem aIg{ta:TE}{tr:TA}(h:ta σ H fun x H1=>tr σ H1 fun xs H2=>QA (x::xs) H2):bE ta tr σ H QA:=h
theorem aKj{t:TA}(h:t σ H fun xs H1=>xs.length<=sizeLine/\∀p,H1 p=none->Q (.ref p) (upd H1 p (.tup xs))):aFn t σ H Q:=h
theorem aKk{t:TA}(h:t σ H fun xs H1=>xs.length<=sizeLine/\∀p,H1 p=none->Q (.ref p) (upd H1 p (.lst xs))):tF t σ H Q:=h
theorem aIh{sp:Sp}{E:XK}{t:TA}(h:t σ H fun vs H1=>sp vs H1 Q E):aCI sp [] E t σ H Q:=by
 unfold aCI
 simpa only [List.append_nil] using h
theorem aLn{r:List V->Hp->VK->Prop}{t:TA}(h:t σ H fun vs H1=>r vs H1 Q):tCB r t σ H Q:=h
theorem aIi{wi:TI}{k:Nat}{idx:List Nat}{g:TG}{tt:TT}{te:TE}(h:wi σ H fun J H1=>oI J (cσ k idx σ) g tt te (fun ys H'=>∀p,H' p=none->Q (.ref p) (upd H' p (.lst ys))) H1):aCU wi k idx g tt te σ H Q:=h
theorem aGD{ta:TA}{R:It->Hp->Prop}(h:ta σ H fun vs H1=>∃j:Int,vs=[.int j]/\-(2 ^ 62)<=j/\j < 2 ^ 62/\R (Itr 0 j.toNat) H1):aEx ta σ H R:=h
theorem aGE{ta:TA}{R:It->Hp->Prop}(h:ta σ H fun vs H1=>∃i j:Int,vs=[.int i,.int j]/\(-(2 ^ 62)<=i/\i < 2 ^ 62/\-(2 ^ 62)<=j/\j < 2 ^ 62)/\R (Itr i (j - i).toNat) H1):aEy ta σ H R:=h
theorem aKl{K:W.Frag}{ta:TE}{f:Str}(h:ta σ H fun x H1=>∃a C dx fs v,x=.ref a/\H1 a=some (.ins C dx fs)/\Cls K C/\dU K C f/\fs.lookup f=some v/\Q v H1):aJC K ta f σ H Q:=h
theorem aIj{n:Nat}{P:Prop}(h1:n<=sizeLine)(h:P):n<=sizeLine/\P:=⟨h1,h⟩
theorem cC{n:Nat}(h:n<=16777216):n<=sizeLine:=by rw[sizeLine_eq];exact h
end
section
variable{A B:Prop}{c:Prop}[Decidable c]
theorem cV(h1:c->A)(h2:¬c->B):if decide c=true then A else B:=by
 by_cases h:c
 ·rw[if_pos (decide_eq_true h)];exact h1 h
 ·rw[if_neg (by simpa using h)];exact h2 h
theorem aIk(h1:¬c->A)(h2:c->B):if (!decide c)=true then A else B:=by
 by_cases h:c
 ·rw[if_neg (by simpa using h)];exact h2 h
 ·rw[if_pos (by simpa using h)];exact h1 h
theorem rT{b:Bool}(h1:b=true->A)(h2:b=false->B):if b=true then A else B:=by
 cases b
 ·exact aHZ (h2 rfl)
 ·exact aH0 (h1 rfl)
end
def aI7(sc:Scope)(NX:List Str)(scope:Scope)(N:List Str)(k:Nat)(idx:List Nat):Bool:=
 scope.names.all (fun y=>!(y.2 == .cell)) && scope.names.all (fun y=>!(y.2 == .local) || scope.names.lookup y.1 == some .local) &&
 scope.names.all (fun y=>!(y.2 == .free) || (sc.names.lookup y.1 == some .cell || sc.names.lookup y.1 == some .free)) &&
 decide N.Nodup && decide (N.length=k+idx.length) && (List.range idx.length).all fun i=>
  match (N.drop k)[i]?,idx[i]? with
  |some x,some j=>decide (NX[j]?=some x) && scope.names.lookup x == some .free
  |_,_=>false
theorem fW{X:Cx}{scope:Scope}{N:List Str}{k:Nat}{idx:List Nat}{sc:Scope}{NX:List Str}(hsc:X.env.scope=sc)(hN:X.N=NX)(hk:scope.kind=.function)(h:aI7 sc NX scope N k idx=true):dH X scope N k idx:=by
 unfold aI7 at h
 simp only[Bool.and_eq_true,decide_eq_true_eq] at h
 obtain⟨⟨⟨⟨⟨h1,h2⟩,h3⟩,h4⟩,h5⟩,h6⟩:=h
 rw[List.all_eq_true] at h1 h2 h3 h6
 refine⟨hk,fun y hy e=>?_,fun y hy e=>?_,fun y hy e=>?_,h4,h5,fun i x e=>?_⟩
 ·have:=h1 y hy
  rw[e] at this
  simp at this
 ·have:=h2 y hy
  rw[e] at this
  simpa using this
 ·have:=h3 y hy
  rw[e] at this
  show X.env.scope.names.lookup y.1=_\/X.env.scope.names.lookup y.1=_
  rw[hsc]
  simpa using this
 ·have hi:i < (N.drop k).length:=(List.getElem?_eq_some_iff.mp e).1
  have hi2:i < idx.length:=by rw[List.length_drop] at hi;omega
  have q:=h6 i (List.mem_range.mpr hi2)
  rw[e,List.getElem?_eq_getElem hi2] at q
  simp only[Bool.and_eq_true,decide_eq_true_eq] at q
  exact⟨idx[i],List.getElem?_eq_getElem hi2,by rw[hN];exact q.1,by simpa using q.2⟩
theorem bA{H:Hp}{a b:Addr}{o:HO}(h':H b=none)(h:H a=some o):a≠b:=bC h h'
theorem aJ.at{H H':Hp}{b:Addr}{o:HO}(e:aJ H H')(h:H b=some o):H' b=some o:=e b o h
def bZ(p:Addr)(H H':Hp):Prop:=∀b o,H b=some o->b≠p->H' b=some o
theorem bZ.at{p:Addr}{H H':Hp}{b:Addr}{o:HO}(e:bZ p H H')(h:H b=some o)(n:b≠p):H' b=some o:=e b o h n
theorem aJ.new{H:Hp}{p:Addr}{o:HO}(h:H p=none):aJ H (upd H p o):=fun b u e=>by rw[aL (bC e h)];exact e
theorem bZ.upd{H:Hp}{p:Addr}{o:HO}:bZ p H (upd H p o):=fun b u e n=>by rw[aL n];exact e
theorem bZ.trans{p:Addr}{H H1 H2:Hp}(a:bZ p H H1)(b:bZ p H1 H2):bZ p H H2:=fun c o h n=>b c o (a c o h n) n
theorem aJ.keep{p:Addr}{H H':Hp}(a:aJ H H'):bZ p H H':=fun c o h _=>a c o h
end L2
namespace L2
open PySem PySem.Spec PyProof.Rows
section
variable{σ:St}{H:Hp}{nx bk ct:St->Hp->Prop}{rt:VK}
theorem aEG{t u:TS}(J:St->Hp->Prop)(h1:∀N:St->Hp->Prop,(∀σ' H',J σ' H'->N σ' H')->t ⟨N,rt,bk,ct⟩ σ H)(h2:∀σ' H',J σ' H'->u ⟨nx,rt,bk,ct⟩ σ' H'):aFY t u ⟨nx,rt,bk,ct⟩ σ H:=h1 _ h2
end
theorem aBa{K:W.Frag}{a:Addr}{xs:List V}{σ₀:St}{g:TG}{tt:TT}{te:TE}{R:List V->Hp->Prop}{H:Hp}(f:V->V)(hS:bQ K H a xs)(hz:xs.length<=sizeLine)
  (hs:∀x (N:V->Hp->Prop) (N':Hp->Prop),x∈xs->N (f x) H->g x σ₀ H fun σ2 H2=>tt σ2 H2 fun b H3=>if b=true then te σ2 H3 fun y H4=>N y H4 else N' H3)
  (hd:R (xs.map f) H):oI (Itl K a) σ₀ g tt te R H:=by
 refine gK (fun i ys H'=>H'=H/\ys=(xs.take i).map f) ⟨rfl,by simp⟩ hz (fun i ys H' hi ⟨e1,e2⟩=>?_) (fun i x ys H' hx ⟨e1,e2⟩=>?_) (fun ys H' ⟨e1,e2⟩=>?_)
 ·subst e1 e2
  exact⟨hS,by simp;omega⟩
 ·subst e1 e2
  refine hs x (fun y H4=>H4=H'/\(xs.take i).map f ++ [y]=(xs.take (i+1)).map f) (fun H3=>H3=H'/\(xs.take i).map f=(xs.take (i+1)).map f) (List.mem_of_getElem? hx) ⟨rfl,?_⟩
  rw[List.take_add_one,hx,List.map_append]
  rfl
 ·subst e1 e2
  rw[List.take_length]
  exact hd
theorem aDV{lo:Int}{n:Nat}{σ₀:St}{g:TG}{tt:TT}{te:TE}{R:List V->Hp->Prop}{H:Hp}(f:Nat->V)(hz:n<=sizeLine)
  (hs:∀i (N:V->Hp->Prop) (N':Hp->Prop),i < n->N (f i) H->g (.int (lo+i)) σ₀ H fun σ2 H2=>tt σ2 H2 fun b H3=>if b=true then te σ2 H3 fun y H4=>N y H4 else N' H3)
  (hd:R ((List.range n).map f) H):oI (Itr lo n) σ₀ g tt te R H:=by
 refine tH (fun i ys H'=>H'=H/\ys=(List.range i).map f) ⟨rfl,by simp⟩ hz (fun i ys H' hi ⟨e1,e2⟩=>?_) (fun i ys H' hi ⟨e1,e2⟩=>?_) (fun ys H' ⟨e1,e2⟩=>?_)
 ·subst e1 e2
  simp
 ·subst e1 e2
  refine hs i (fun y H4=>H4=H'/\(List.range i).map f ++ [y]=(List.range (i+1)).map f) (fun H3=>H3=H'/\(List.range i).map f=(List.range (i+1)).map f) hi ⟨rfl,?_⟩
  rw[List.range_succ,List.map_append]
  rfl
 ·subst e1 e2
  exact hd
theorem yI{X:Cx}{x:Str}{n:Int}{pos:Pos}(hg:Gl X x)(hm:∃t,X.mg x=some (.int n t))(hd:(x == ("__debug__" : Str))=false:=by decide):PE X (.Name x pos) (tC (.int n)):=by
 obtain⟨t,hm⟩:=hm
 exact aHK (v:=.int n) hg hm ⟨t,rfl⟩ hd
section
variable{X:Cx}{K:W.Frag}{H:Hp}{Q:VK}
def nQ(K:W.Frag):List V->Hp->VK->Prop:=fun xs H Q=>∃x n,xs=[x]/\aKZ K x H n/\Q (.int n) H
theorem bT:d9 X (.builtin "len") (nQ X.K):=aF8
theorem aIl{p:Addr}{xs:List V}(h:bQ K H p xs)(q:Q (.int xs.length) H):nQ K [.ref p] H Q:=⟨_,_,rfl,.inl ⟨_,h,rfl⟩,q⟩
theorem aIm{p:Addr}{xs:List V}(h:lJ K H p xs)(q:Q (.int xs.length) H):nQ K [.ref p] H Q:=⟨_,_,rfl,.inr ⟨_,h,rfl⟩,q⟩
def aLo:List V->Hp->VK->Prop:=fun xs H Q=>∃i,xs=[.int i]/\Q (.int (if i < 0 then -i else i)) H
theorem aFz:d9 X (.builtin "abs") aLo:=aF7
theorem aKm{i:Int}(h:Q (.int (if i < 0 then -i else i)) H):aLo [.int i] H Q:=⟨i,rfl,h⟩
def aLp:List V->Hp->VK->Prop:=fun xs H Q=>∃i j,xs=[.int i,.int j]/\Q (.int (if j > i then j else i)) H
theorem iJ(hc:X.calm=true):d9 X (.builtin "max") aLp:=aFj hc
theorem aKn{i j:Int}(h:Q (.int (max i j)) H):aLp [.int i,.int j] H Q:=⟨i,j,rfl,by
 rw[show(if j > i then j else i)=max i j by split <;> omega];exact h⟩
def aLq:List V->Hp->VK->Prop:=fun xs H Q=>∃i j,xs=[.int i,.int j]/\Q (.int (if j < i then j else i)) H
theorem v9(hc:X.calm=true):d9 X (.builtin "min") aLq:=aFk hc
theorem aKo{i j:Int}(h:Q (.int (min i j)) H):aLq [.int i,.int j] H Q:=⟨i,j,rfl,by
 rw[show(if j < i then j else i)=min i j by split <;> omega];exact h⟩
def pP(K:W.Frag):List V->Hp->VK->Prop:=fun xs H Q=>∃x c b,xs=[x,c]/\IsI K H x c b/\Q (.bl b) H
theorem bU:d9 X (.builtin "isinstance") (pP X.K):=aGy
theorem bW{x c:V}{b:Bool}(h1:IsI K H x c b)(h:Q (.bl b) H):pP K [x,c] H Q:=⟨x,c,b,rfl,h1,h⟩
def uQ(K:W.Frag):List V->Hp->VK->Prop:=fun xs H Q=>∃p ys,xs=[.ref p]/\(bQ K H p ys\/lJ K H p ys)/\∀l,H l=none->Q (.ref l) (upd H l (.lst ys))
theorem tK:d9 X (.type "list") (uQ X.K):=aBL
theorem y6{p:Addr}{ys:List V}(h1:bQ K H p ys)(h:∀l,H l=none->Q (.ref l) (upd H l (.lst ys))):uQ K [.ref p] H Q:=⟨p,ys,rfl,.inl h1,h⟩
end
theorem aIn{K:W.Frag}{H:Hp}{p q:Addr}{xs:List V}(h1:bQ K H p xs)(h2:bQ K H q []):EqN K H 8 (.ref p) (.ref q) xs.isEmpty:=
 .inr ⟨p,q,xs,[],fun _=>true,rfl,rfl,.inl ⟨h1,h2⟩,fun j u v _ e=>by simp at e,by cases xs <;> simp⟩
theorem aGF{xs:List V}{n:Nat}(h:xs.length<=n):mY xs none (some (n:Int))=xs:=by
 unfold mY
 rw[HT.aCL,HT.aEB,Nat.min_eq_right h,List.drop_zero,Nat.sub_zero,List.take_length]
end L2
namespace L2
open PySem PySem.Spec PyProof.Rows
section
variable{σ:St}{H:Hp}{nx:St->Hp->Prop}{rt:VK}{g:TG}{tb:TS}{Q:VK}
theorem jM{lo:Int}{n:Nat}(Pv:Nat->St->Hp->Prop)(h0:Pv 0 σ H)
  (hs:∀i σ H,i < n->Pv i σ H->g (.int (lo+i)) σ H fun σ2 H2=>tb ⟨Pv (i+1),rt,nx,Pv (i+1)⟩ σ2 H2) (hd:∀σ H,Pv n σ H->nx σ H) :
  ∃W:Nat->Nat->St->Hp->Prop,(∃m,W 0 m σ H)/\∀i m σ H,W i m σ H->
   ((Itr lo n).stop i H/\nx σ H)\/((Itr lo n).go i H/\∃N:St->Hp->Prop,(∀σ' H',N σ' H'->∃m',m' < m/\W (i+1) m' σ' H')/\∀x H',(Itr lo n).yld i H x H'->g x σ H' fun σ2 H2=>tb ⟨N,rt,nx,N⟩ σ2 H2):=
 aFi (D:=⟨nx,rt,fun _ _=>False,fun _ _=>False⟩) Pv h0 hs hd
theorem rV{K:W.Frag}{a:Addr}{xs:List V}(Pv:Nat->St->Hp->Prop)(h0:Pv 0 σ H)(hl:∀i σ H,i<=xs.length->Pv i σ H->bQ K H a xs)
  (hs:∀i x σ H,xs[i]?=some x->Pv i σ H->g x σ H fun σ2 H2=>tb ⟨Pv (i+1),rt,nx,Pv (i+1)⟩ σ2 H2) (hd:∀σ H,Pv xs.length σ H->nx σ H) :
  ∃W:Nat->Nat->St->Hp->Prop,(∃m,W 0 m σ H)/\∀i m σ H,W i m σ H->
   ((Itl K a).stop i H/\nx σ H)\/((Itl K a).go i H/\∃N:St->Hp->Prop,(∀σ' H',N σ' H'->∃m',m' < m/\W (i+1) m' σ' H')/\∀x H',(Itl K a).yld i H x H'->g x σ H' fun σ2 H2=>tb ⟨N,rt,nx,N⟩ σ2 H2):=
 aF4 (D:=⟨nx,rt,fun _ _=>False,fun _ _=>False⟩) Pv h0 hl hs hd
theorem aDW{K:W.Frag}{a:Addr}{xs:List V}(Pv:Nat->St->Hp->Prop)(h0:Pv 0 σ H)(hl:∀i σ H,i<=xs.length->Pv i σ H->lJ K H a xs)
  (hs:∀i x σ H,xs[i]?=some x->Pv i σ H->g x σ H fun σ2 H2=>tb ⟨Pv (i+1),rt,nx,Pv (i+1)⟩ σ2 H2) (hd:∀σ H,Pv xs.length σ H->nx σ H) :
  ∃W:Nat->Nat->St->Hp->Prop,(∃m,W 0 m σ H)/\∀i m σ H,W i m σ H->
   ((Itt K a).stop i H/\nx σ H)\/((Itt K a).go i H/\∃N:St->Hp->Prop,(∀σ' H',N σ' H'->∃m',m' < m/\W (i+1) m' σ' H')/\∀x H',(Itt K a).yld i H x H'->g x σ H' fun σ2 H2=>tb ⟨N,rt,nx,N⟩ σ2 H2):=
 aHO (D:=⟨nx,rt,fun _ _=>False,fun _ _=>False⟩) Pv h0 hl hs hd
theorem aKp{K:W.Frag}{i j:Int}(h:Q (.bl (decide (i=j))) H):nP K (.int i) (.int j) H Q:=⟨_,.inl ⟨rfl,rfl,rfl⟩,h⟩
theorem aKq{K:W.Frag}{i j:Int}(h:Q (.bl (!decide (i=j))) H):aFx K (.int i) (.int j) H Q:=⟨_,.inl ⟨rfl,rfl,rfl⟩,h⟩
end
end L2
namespace L2
open PySem PySem.Spec PyProof.Rows
def noStar:Expr->Bool
 |.Starred _ _=>false
 |_=>true
theorem bM{e:Expr}{es:List Expr}{env:Env}(h:noStar e=true):starEach (e::es) env=(false,eval e env)::starEach es env:=by
 cases e <;> first|rfl|exact absurd h Bool.false_ne_true
theorem gW{env:Env}{pos:Pos}:∀{es:List Expr},es.all noStar=true->(backTo pos (starEach es env)).any (·.1)=false
 |[],_=>rfl
 |e::es,h=>by
  rw[List.all_cons,Bool.and_eq_true] at h
  rw[bM h.1]
  have ih:=gW (env:=env) (pos:=pos) h.2
  unfold backTo at ih ⊢
  rw[List.map_cons,List.any_cons]
  rw[ih]
  rfl
section
variable{X:Cx}{CX:CXT}{k:Nat}{f C:Addr}{fd:FuncData}{ps:List Str}{sp:Sp}{dvs:List V}{ds:List Value}{E:XK}{x m:Str}{p pos apos:Pos}{e o:Expr}{es:List Expr}{ta te:TE}{t:TA}
theorem aD(ha:PE X e te)(hr:PA X es t)(hs:noStar e=true:=by rfl):PA X (e::es) (bE te t):=aHS ha hr (bM hs)
theorem fX{e:Expr}{es:List Expr}(h:(e::es).all noStar=true):noStar e=true/\es.all noStar=true:=by
 rw[List.all_cons,Bool.and_eq_true] at h
 exact h
theorem aF(F:bR X.prog X.w X.K X.mg X.base CX k f fd ps sp)(hr:dG k X.A)(hg:Gl X x)(hm:X.mg x=some (.ref f))(hk:W.keepIn X.K (.ref f)=true)(hb:Binds X.K fd ps ds)(hd:Vals dvs ds)(hx:Passes CX X E)
  (ha:PA X (e::es) t) (hn:(e::es).all noStar=true:=by rfl) (hdb:(x == ("__debug__" : Str))=false:=by decide):PE X (.Call (.Name x p) (e::es) [] pos) (aCI sp dvs E t):=
 aHT F hr hg hm hk hb hd hx ha hdb (bM (fX hn).1) (gW (fX hn).2)
theorem y7(M:Mk X.K C f)(F:bR X.prog X.w X.K X.mg X.base CX k f fd ps sp)(hr:dG (k+1) X.A)(hg:Gl X x)(hm:X.mg x=some (.ref C))(hb:Binds X.K fd ps ds)(hd:Vals dvs ds)(hx:Passes CX X E)
  (ha:PA X (e::es) t) (hn:(e::es).all noStar=true:=by rfl) (hdb:(x == ("__debug__" : Str))=false:=by decide):PE X (.Call (.Name x p) (e::es) [] pos) (aCJ C sp dvs E t):=
 aHU M F hr hg hm hb hd hx ha hdb (bM (fX hn).1) (gW (fX hn).2)
variable{id T:String}{r:List V->Hp->VK->Prop}
theorem aI(hc:d9 X (.builtin id) r)(hg:Gl X x)(hm:X.mg x=none)(hv:bootBuiltins x=some (.builtin id))(ha:PA X (e::es) t)(hn:(e::es).all noStar=true:=by rfl)(hne:x≠"__name__":=by decide)(hdb:(x == ("__debug__" : Str))=false:=by decide) :
  PE X (.Call (.Name x p) (e::es) [] pos) (tCB r t):=aGf hc hg hm hv ha hne hdb (bM (fX hn).1) (gW (fX hn).2)
theorem iK(hc:d9 X (.type T) r)(hg:Gl X x)(hm:X.mg x=none)(hv:bootBuiltins x=some (.type T))(ha:PA X (e::es) t)(hn:(e::es).all noStar=true:=by rfl)(hne:x≠"__name__":=by decide)(hdb:(x == ("__debug__" : Str))=false:=by decide) :
  PE X (.Call (.Name x p) (e::es) [] pos) (tCB r t):=aFp hc hg hm hv ha hne hdb (bM (fX hn).1) (gW (fX hn).2)
variable{tg a b:Expr}
theorem cO(hg:Gl X "range")(hm:X.mg "range" = none)(ha:PA X [a] t)(hn:noStar a=true:=by rfl):PI X tg (.Call (.Name "range" p) [a] [] pos) (aEx t):=aFf hg hm ha (bM hn)
theorem tL(hg:Gl X "range")(hm:X.mg "range" = none)(ha:PA X [a,b] t)(hn:noStar a=true:=by rfl)(hn2:noStar b=true:=by rfl):PI X tg (.Call (.Name "range" p) [a,b] [] pos) (aEy t):=
 aFg hg hm ha (by rw[bM hn,bM hn2];rfl) (bM hn2)
end
end L2
namespace L2
open PySem PySem.Spec PyProof.Rows
section
variable{X:Cx}{pos:Pos}{x1:Nat}{e1 e2 e3 e4 e5 e6 e7 e8:Expr}{t1 t2 t3 t4 t5 t6 t7 t8:TE}
theorem xK(h1:PE X e1 t1)(n1:noStar e1=true:=by rfl):PE X (.List [e1] pos) (tF (bE t1 mX)):=eO (aD h1 aB n1)
theorem aCX(h1:PE X e1 t1)(h2:PE X e2 t2)(n1:noStar e1=true:=by rfl)(n2:noStar e2=true:=by rfl):PE X (.List [e1,e2] pos) (tF (bE t1 (bE t2 mX))):=eO (aD h1 (aD h2 aB n2) n1)
theorem oJ{k1}(h1:PE X e1 t1)(h2:PE X e2 t2)(n1:noStar e1=true:=by rfl)(n2:noStar e2=true:=by rfl):PE X (.Tuple [e1,e2] k1 pos) (aFn (bE t1 (bE t2 mX))):=aGb (aD h1 (aD h2 aB n2) n1)
theorem aIo(h1:PE X e1 t1)(h2:PE X e2 t2)(h3:PE X e3 t3)(n1:noStar e1=true:=by rfl)(n2:noStar e2=true:=by rfl)(n3:noStar e3=true:=by rfl):PE X (.List [e1,e2,e3] pos) (tF (bE t1 (bE t2 (bE t3 mX)))):=eO (aD h1 (aD h2 (aD h3 aB n3) n2) n1)
theorem aIp{k1}(h1:PE X e1 t1)(h2:PE X e2 t2)(h3:PE X e3 t3)(n1:noStar e1=true:=by rfl)(n2:noStar e2=true:=by rfl)(n3:noStar e3=true:=by rfl):PE X (.Tuple [e1,e2,e3] k1 pos) (aFn (bE t1 (bE t2 (bE t3 mX)))):=aGb (aD h1 (aD h2 (aD h3 aB n3) n2) n1)
theorem aKr(h1:PE X e1 t1)(h2:PE X e2 t2)(h3:PE X e3 t3)(h4:PE X e4 t4)(n1:noStar e1=true:=by rfl)(n2:noStar e2=true:=by rfl)(n3:noStar e3=true:=by rfl)(n4:noStar e4=true:=by rfl):PE X (.List [e1,e2,e3,e4] pos) (tF (bE t1 (bE t2 (bE t3 (bE t4 mX))))):=eO (aD h1 (aD h2 (aD h3 (aD h4 aB n4) n3) n2) n1)
theorem aKs(h1:PE X e1 t1)(h2:PE X e2 t2)(h3:PE X e3 t3)(h4:PE X e4 t4)(h5:PE X e5 t5)(n1:noStar e1=true:=by rfl)(n2:noStar e2=true:=by rfl)(n3:noStar e3=true:=by rfl)(n4:noStar e4=true:=by rfl)(n5:noStar e5=true:=by rfl):PE X (.List [e1,e2,e3,e4,e5] pos) (tF (bE t1 (bE t2 (bE t3 (bE t4 (bE t5 mX)))))):=eO (aD h1 (aD h2 (aD h3 (aD h4 (aD h5 aB n5) n4) n3) n2) n1)
theorem aKt(h1:PE X e1 t1)(h2:PE X e2 t2)(h3:PE X e3 t3)(h4:PE X e4 t4)(h5:PE X e5 t5)(h6:PE X e6 t6)(h7:PE X e7 t7)(n1:noStar e1=true:=by rfl)(n2:noStar e2=true:=by rfl)(n3:noStar e3=true:=by rfl)(n4:noStar e4=true:=by rfl)(n5:noStar e5=true:=by rfl)(n6:noStar e6=true:=by rfl)(n7:noStar e7=true:=by rfl):PE X (.List [e1,e2,e3,e4,e5,e6,e7] pos) (tF (bE t1 (bE t2 (bE t3 (bE t4 (bE t5 (bE t6 (bE t7 mX)))))))):=eO (aD h1 (aD h2 (aD h3 (aD h4 (aD h5 (aD h6 (aD h7 aB n7) n6) n5) n4) n3) n2) n1)
end
end L2
namespace L2
open PySem PySem.Spec PyProof.Rows
section
variable{X:Cx}{pins:List (Addr×Obj)}{σ:St}{H:Hp}{s:Shared}{h':Heap}
theorem Inv.aBb{t':Nat}{ch:List Addr}{T:Addr}{o:HO}(I:Inv X pins σ H s)(k:∀b u,b∉ch->s.heap.get? b=some u->h'.get? b=some u)
  (hch:∀b∈ch,vY X pins H b) (hT:s.heap.objs.size<=T) (new:bJ X.prog X.w (upd H T o) h' T o):Inv X pins σ (upd H T o) { s with heap:=h',toks:=t' }:=by
 have hn:H T=none:=I.hok.fresh hT
 have nit:∀b u,H b=some u->b∉ch:=fun b u e z=>by rw[(hch b z).1] at e;cases e
 have neT:∀b u,H b=some u->b≠T:=fun b u e=>bC e hn
 refine I.step (g':=s.gens) (d':=s.drawn) (ch:=ch) (fun b hb=>?_) (fun b u _ _ hc e _=>k b u hc e) (fun b u _ _ hc e _=>⟨u.slots,k b u hc e⟩) (fun b u hc e n=>?_)
  (fun b u hc e=>⟨u,k b u hc e⟩) (fun b xs e=>?_) (fun b u v e=>?_) (fun b ps e=>⟨#[],?_⟩) (fun m hm=>?_) (fun b u e=>?_) I.bare
 ·obtain⟨f0,f1,f2,f3,f4,f5⟩:=hch b hb
  exact⟨f3,f1,f4,f5⟩
 ·rw[aL (Nat.ne_of_lt (Nat.lt_of_lt_of_le (Heap.lt_size e) hT))];exact n
 ·rw[aL (neT _ _ e)];exact e
 ·rw[aL (neT _ _ e)];exact e
 ·rw[aL (neT _ _ e),e];simp
 ·obtain⟨u,es,ep,ho,r⟩:=hm
  exact⟨u,es,ep,k _ u (fun z=>(hch _ z).2.1 rfl) ho,r⟩
 ·by_cases hb:b=T
  ·subst hb;rw[aH] at e;cases e;exact new
  ·rw[aL hb] at e
   refine(I.hok b u e).aAt (fun c v hc q=>k c v ?_ q) (fun c q=>by rw[aL (bC q hn)];exact q) fun c xs _ q=>by rw[aL (bC q hn)];exact q
   rcases hc with z|z
   ·rw[z];exact nit b u e
   ·exact nit c _ z
end
def Ite(K:W.Frag)(a:Addr):It:=
 ⟨fun i H=>∃xs x,bQ K H a xs/\xs[i]?=some x,fun i H x H'=>∃T v,H T=none/\x=.ref T/\H'=upd H T (.tup [.int i,v])/\∀xs,bQ K H a xs->xs[i]?=some v,fun i H=>∃xs,bQ K H a xs/\xs.length<=i⟩
theorem aFA{P:Program}{w:World}{K:W.Frag}{elts:List Expr}{x1:Nat}{tp:Pos}(a e it:Addr)(hei:e≠it) :
  Turn P w K (.Tuple elts x1 tp) (Ite K a) [e,it] e (fun i h=>(∃old,IsEnum h e it ((i:Nat):Int) old)/\h.IsListIter it a i) where
 mem:=by simp
 obj:=fun i h st b hb=>by
  obtain⟨⟨old,he⟩,st⟩:=st
  rcases List.mem_cons.mp hb with z|hb
  ·subst z
   exact⟨_,he,fun v z=>by cases z⟩
  ·have z:b=it:=by simpa using hb
   subst z
   obtain⟨o,e,c,d⟩:=st
   exact⟨o,e,fun v z=>by rw[d] at z;cases z⟩
 keep:=fun i h h' st k=>by
  obtain⟨⟨old,he⟩,st⟩:=st
  exact⟨⟨old,k e (by simp) _ he⟩,st.at fun o q=>k it (by simp) o q⟩
 item:=by
  intro X hP hw hK hc i pins s σ H E I hf st hg
  subst hP hw hK
  obtain⟨⟨old,he⟩,st⟩:=st
  obtain⟨xs,x,hq,hx⟩:=hg
  obtain⟨its,rv,p,hz⟩:=I.list hq
  obtain⟨u,hu,ru⟩:=rv.get hx
  have helt:e < s.heap.objs.size:=Heap.lt_size he
  have hilt:it < s.heap.objs.size:=by obtain⟨_,z,_⟩:=id st;exact Heap.lt_size z
  refine wpAny_pyNext_enum_item he st p.isList (x:=u) (by simpa using hu) hei fun h1 ho hit1 hT hsz hk=>?_
  refine⟨_,rfl,wpAny_letOwnedTupleGo_enum ho fun h2 he2 hs2=>?_⟩
  replace hs2:Heap.SameBut e h1 h2:=hs2
  have hT2:h2.IsTuple s.heap.objs.size #[.int i s.toks,u]:=⟨_,(hs2.2 _ (Nat.ne_of_gt helt)).trans hT,rfl,_,rfl⟩
  have kk:∀b o,b∉[e,it]->s.heap.get? b=some o->h2.get? b=some o:=fun b o hb q=>by
   have n1:b≠e:=fun z=>hb (by simp[z])
   have n2:b≠it:=fun z=>hb (by simp[z])
   exact(hs2.2 b n1).trans (hk b o n1 n2 q)
  have I2:Inv X pins σ (upd H s.heap.objs.size (.tup [.int i,x])) { s with heap:=h2,toks:=s.toks+1 }:=
   I.aBb kk hf (Nat.le_refl _) (show bJ X.prog X.w _ h2 _ (.tup [.int i,x]) from⟨cC (by simp),[.int i s.toks,u],.cons ⟨_,rfl⟩ (.cons ru .nil),hT2⟩)
  have hfr:H s.heap.objs.size=none:=I.hok.fresh (Nat.le_refl _)
  refine⟨.ref s.heap.objs.size,_,I2,rfl,⟨_,x,hfr,rfl,rfl,fun ys hy=>by rw[I.yT hy hq];exact hx⟩,⟨⟨u,?_⟩,?_⟩,fun b hb=>?_⟩
  ·have e1:((i+1:Nat):Int)=(i:Int)+1:=by push_cast;rfl
   rw[e1]
   exact he2
  ·exact hit1.at fun o q=>(hs2.2 it hei.symm).trans q
  ·have hlt:b < s.heap.objs.size:=by
    rcases List.mem_cons.mp hb with z|hb
    ·rw[z];exact helt
    ·rw[show b=it by simpa using hb];exact hilt
   rw[aL (Nat.ne_of_lt hlt)]
   exact(hf b hb).1
 done:=by
  intro X hP hw hK hc i pins s σ H E I hf st hg
  subst hP hw hK
  obtain⟨⟨old,he⟩,st⟩:=st
  obtain⟨xs,hq,hx⟩:=hg
  obtain⟨its,rv,p,hz⟩:=I.list hq
  obtain⟨f0,f1,f2,f3,f4,f5⟩:=hf it (by simp)
  have hl:=rv.length
  exact wpAny_pyNext_enum_end (I.ok.hd hc) he st p.isList (by simp;omega) fun h' eb=>⟨rfl,I.turned (t':=s.toks) (fun b o hb e=>eb b o hb e) f0 f1 f3 f4 f5⟩
 self:=fun _ _ _ _ _ st h=>by
  obtain⟨⟨old,he⟩,st⟩:=st
  exact wpAny_pyIter_enum he h
section
variable{X:Cx}{elts:List Expr}{x1:Nat}{tp:Pos}
def aGG(K:W.Frag)(ta:TA):TI:=fun σ H R=>ta σ H fun vs H1=>∃a,vs=[.ref a]/\(∃xs,bQ K H1 a xs)/\R (Ite K a) H1
theorem aIq{a:Expr}{ta:TA}{p pos:Pos}(hg:Gl X "enumerate")(hm:X.mg "enumerate" = none)(ha:PA X [a] ta)(hn:noStar a=true:=by rfl):PI X (.Tuple elts x1 tp) (.Call (.Name "enumerate" p) [a] [] pos) (aGG X.K ta):=by
 intro pins s σ H R I h
 refine Call_ (oC I hg hm boot_enumerate (PyProof.Rows.callWith_type1 (cK (ha pos pins s σ H _ I h) fun us s1 ⟨vs,H1,I1,r1,q1⟩=>?_) (bM hn) rfl))
 obtain⟨l,e,⟨xs,hq⟩,q⟩:=q1
 subst e
 obtain⟨u,rfl,ru⟩:=vals1 r1
 cases ru
 obtain⟨its,rv,pl,hz⟩:=I1.list hq
 refine call_enumerate_list pl.isList fun h' he hit hsz hk=>?_
 refine wpAny_pyIter_enum he ?_
 refine⟨s1.heap.objs.size+1,[s1.heap.objs.size+1,s1.heap.objs.size],_,_,H1,rfl,I1.kept (t':=s1.toks) hk,aFA l _ _ (Nat.succ_ne_self _),⟨⟨_,he⟩,hit⟩,fun b hb=>?_,q⟩
 have hle:s1.heap.objs.size<=b:=by
  rcases List.mem_cons.mp hb with z|hb
  ·rw[z];exact Nat.le_succ _
  ·rw[show b=s1.heap.objs.size by simpa using hb];exact Nat.le_refl _
 exact I1.aDC hle (I1.hok.fresh hle)
end
section
variable{σ:St}{H:Hp}{nx:St->Hp->Prop}{rt:VK}{g:TG}{tb:TS}{Q:VK}{K:W.Frag}
def EnQ(K:W.Frag)(R:It->Hp->Prop):List V->Hp->Prop:=fun vs H1=>∃a,vs=[.ref a]/\(∃xs,bQ K H1 a xs)/\R (Ite K a) H1
def LiQ(K:W.Frag)(R:It->Hp->Prop):V->Hp->Prop:=fun x H1=>∃a,x=.ref a/\(∃xs,bQ K H1 a xs)/\R (Itl K a) H1
def TiQ(K:W.Frag)(R:It->Hp->Prop):V->Hp->Prop:=fun x H1=>∃a,x=.ref a/\(∃xs,lJ K H1 a xs)/\R (Itt K a) H1
theorem aGH{ta:TA}{R:It->Hp->Prop}(h:ta σ H (EnQ K R)):aGG K ta σ H R:=h
theorem aFB{tl:TE}{R:It->Hp->Prop}(h:tl σ H (LiQ K R)):aF3 K tl σ H R:=h
theorem aGI{tl:TE}{R:It->Hp->Prop}(h:tl σ H (TiQ K R)):aJw K tl σ H R:=h
theorem aGJ{a:Addr}{xs:List V}{R:It->Hp->Prop}(h1:bQ K H a xs)(h:R (Ite K a) H):EnQ K R [.ref a] H:=⟨a,rfl,⟨xs,h1⟩,h⟩
theorem kR{a:Addr}{xs:List V}{R:It->Hp->Prop}(h1:bQ K H a xs)(h:R (Itl K a) H):LiQ K R (.ref a) H:=⟨a,rfl,⟨xs,h1⟩,h⟩
theorem aEH{a:Addr}{xs:List V}{R:It->Hp->Prop}(h1:lJ K H a xs)(h:R (Itt K a) H):TiQ K R (.ref a) H:=⟨a,rfl,⟨xs,h1⟩,h⟩
theorem aBO{a:Addr}{xs:List V}(Pv:Nat->St->Hp->Prop)(h0:Pv 0 σ H)(hl:∀i σ H,i<=xs.length->Pv i σ H->bQ K H a xs)
  (hs:∀i x σ H T,xs[i]?=some x->Pv i σ H->H T=none->g (.ref T) σ (upd H T (.tup [.int i,x])) fun σ2 H2=>tb ⟨Pv (i+1),rt,nx,Pv (i+1)⟩ σ2 H2) (hd:∀σ H,Pv xs.length σ H->nx σ H) :
  ∃W:Nat->Nat->St->Hp->Prop,(∃m,W 0 m σ H)/\∀i m σ H,W i m σ H->
   ((Ite K a).stop i H/\nx σ H)\/((Ite K a).go i H/\∃N:St->Hp->Prop,(∀σ' H',N σ' H'->∃m',m' < m/\W (i+1) m' σ' H')/\∀x H',(Ite K a).yld i H x H'->g x σ H' fun σ2 H2=>tb ⟨N,rt,nx,N⟩ σ2 H2):=by
 refine⟨fun i m σ H=>m=xs.length - i/\i<=xs.length/\Pv i σ H,⟨xs.length,by simp,Nat.zero_le _,h0⟩,?_⟩
 rintro i m σ H ⟨rfl,hi,p⟩
 have q:=hl i σ H hi p
 by_cases hlt:i < xs.length
 ·refine .inr ⟨⟨xs,xs[i],q,by simp[hlt]⟩,Pv (i+1),fun σ' H' p'=>⟨xs.length - (i+1),by omega,rfl,hlt,p'⟩,fun x H' y=>?_⟩
  obtain⟨T,v,hT,e1,e2,y⟩:=y
  subst e1 e2
  exact hs i v σ H T (y xs q) p hT
 ·have e:i=xs.length:=by omega
  subst e
  exact .inl ⟨⟨xs,q,Nat.le_refl _⟩,hd σ H p⟩
end
section
variable{X:Cx}
theorem y8:∀{bs:List Bool}{us:List Value},Vals (bs.map V.bl) us->us=bs.map Value.bool
 |[],_,.nil=>rfl
 |b::bs,_,.cons r t=>by cases r;rw[y8 t];rfl
def aGK(K:W.Frag):List V->Hp->VK->Prop:=fun xs H Q=>∃(p:Addr) (bs:List Bool),xs=[.ref p]/\bQ K H p (bs.map V.bl)/\Q (.bl (bs.all id)) H
theorem wA(hc:X.calm=true):d9 X (.builtin "all") (aGK X.K):=by
 intro pins s σ H xs us Q I r h
 obtain⟨p,bs,rfl,hq,q⟩:=h
 obtain⟨u,rfl,rx⟩:=vals1 r
 cases rx
 obtain⟨its,r',pl,hz⟩:=I.list hq
 have e:=y8 r'
 subst e
 have hl:=pl.isList
 have hlt:p < s.heap.objs.size:=by obtain⟨_,e,_⟩:=id hl;exact Heap.lt_size e
 refine call_all_walk (wpAny_pyIter_list hl ?_)
 refine⟨s.heap.objs.size,[s.heap.objs.size,p],[s.heap.objs.size],(bs.map Value.bool).toArray.size,_,_,fun i=>(bs[i]?).getD true,rfl,Walks.list (A:=X.A.in1) (I.ok.hd hc) _ p (Nat.ne_of_lt hlt) (bs.map Value.bool).toArray,
  ⟨⟨_,Heap.get?_push_size _ rfl,rfl,rfl⟩,hl.push _⟩,fun i v s' Q' E' hP hQ=>?_,fun h' tk hk=>?_⟩
 ·have hP':(bs.map Value.bool)[i]?=some v:=by simpa using hP
  rw[List.getElem?_map] at hP'
  cases hb:bs[i]? with
  |none=>rw[hb] at hP';cases hP'
  |some b=>
   rw[hb] at hP'
   cases hP'
   simp only[hb,Option.getD_some] at hQ
   exact wpAny_truthy_bool hQ
 ·have e:((List.range (bs.map Value.bool).toArray.size).all fun i=>(bs[i]?).getD true)=bs.all id:=by
   rw[List.size_toArray,List.length_map];exact LSm.range_all bs
  rw[e]
  exact⟨.bl _,H,I.kept (t':=tk) (LSm.kept_iter hk),rfl,q⟩
end
section
variable{X:Cx}{e st:Expr}{te:TE}{ts:TO}{pos p2:Pos}
end
section
variable{X:Cx}{o e:Expr}{to:TE}{t:TA}{apos cpos:Pos}
theorem aKu(ho:PE X o to)(ha:PA X [e] t)(hn:noStar e=true:=by rfl)(hbase:attributeBase o "append" X.env (eval o X.env)=eval o X.env:=by rfl)(hline:(apos.endLine == cpos.line)=true:=by rfl) :
  PE X (.Call (.Attribute o "append" apos) [e] [] cpos) (tBM X.K "list" yG to t):=
 aI2 PySem.F.plainAttrs_list PySem.F.slot_list_append PySem.F.type_list_append aFq ho ha hbase (by rw[bM hn];rfl) hline (bM hn) (by rfl)
end
section
variable{K:W.Frag}{σ:St}{H:Hp}{Q:VK}
theorem aLr{T:String}{r:V->List V->Hp->VK->Prop}{to:TE}{t:TA}(h:to σ H fun x H1=>tyV K T x H1/\t σ H1 fun xs H2=>r x xs H2 Q):tBM K T r to t σ H Q:=h
theorem jP{p:Addr}{xs:List V}{P:Prop}(h:bQ K H p xs)(q:P):tyV K "list" (.ref p) H/\P:=⟨.inl ⟨rfl,xs,h⟩,q⟩
theorem mZ{l:Addr}{xs:List V}{y:V}(h:H l=some (.lst xs))(hz:xs.length < sizeLine)(q:Q .non (upd H l (.lst (xs ++ [y])))):yG (.ref l) [y] H Q:=⟨l,xs,y,rfl,rfl,h,hz,q⟩
end
end L2
namespace L2
open PySem PySem.Spec PyProof.Rows
section
variable{K:W.Frag}{σ:St}{H:Hp}{Q:VK}{nx bk ct:St->Hp->Prop}{rt:VK}
theorem aLs{A B:Prop}(h:B):if (!true)=true then A else B:=aHZ h
theorem aLt{A B:Prop}(h:A):if (!false)=true then A else B:=aH0 h
theorem aLu{A B:Prop}{b:Bool}(e:b=false)(h:B):if b=true then A else B:=by rw[e];exact aHZ h
theorem aLv{A B:Prop}{b:Bool}(e:b=true)(h:A):if b=true then A else B:=by rw[e];exact aH0 h
theorem aIr{C:Addr}{sp:Sp}{E:XK}{t:TA}(h:t σ H fun vs H1=>∀x dx,H1 x=none->H1 dx=none->dx≠x->sp (.ref x::vs) (upd (upd H1 dx (.own x)) x (.ins C dx [])) (fun v H2=>v=.non/\Q (.ref x) H2) E):aCJ C sp [] E t σ H Q:=by
 unfold aCJ
 simpa only [List.append_nil] using h
theorem aIs{C:Addr}{m:Str}{sp:Sp}{E:XK}{ta:TE}{t:TA}(h:ta σ H fun x H1=>∃a dx fs,x=.ref a/\H1 a=some (.ins C dx fs)/\fs.lookup m=none/\t σ H1 fun vs H2=>sp (x::vs) H2 Q E):aEA C m sp [] E ta t σ H Q:=by
 unfold aEA
 simpa only [List.append_nil] using h
theorem aIt{ta tv:TE}{f:Str}(h:tv σ H fun y H1=>ta σ H1 fun x H2=>∃a C dx fs,x=.ref a/\H2 a=some (.ins C dx fs)/\Cls K C/\dU K C f/\fs.length < 1000/\nx σ (upd H2 a (.ins C dx (oG f y fs)))):aJD K ta tv f ⟨nx,rt,bk,ct⟩ σ H:=h
theorem tM{a C dx:Addr}{fs fs':List (Str×V)}{f:Str}{y:V}{P:Hp->Prop}(h1:H a=some (.ins C dx fs))(c:Cls K C)(n:dU K C f)(hl:fs.length < 1000)(e:oG f y fs=fs')(h:P (upd H a (.ins C dx fs'))) :
  ∃a' C dx fs,V.ref a=V.ref a'/\H a'=some (.ins C dx fs)/\Cls K C/\dU K C f/\fs.length < 1000/\P (upd H a' (.ins C dx (oG f y fs))):=⟨a,C,dx,fs,rfl,h1,c,n,hl,by rw[e];exact h⟩
theorem tN{a C dx:Addr}{fs:List (Str×V)}{f:Str}{v:V}{P:V->Prop}(h1:H a=some (.ins C dx fs))(c:Cls K C)(n:dU K C f)(l:fs.lookup f=some v)(h:P v) :
  ∃a' C dx fs v,V.ref a=V.ref a'/\H a'=some (.ins C dx fs)/\Cls K C/\dU K C f/\fs.lookup f=some v/\P v:=⟨a,C,dx,fs,v,rfl,h1,c,n,l,h⟩
theorem aCY:∀{xs:List V},(∀x∈xs,x=.bl true)->xs=(List.replicate xs.length true).map V.bl
 |[],_=>rfl
 |x::xs,h=>by
  rw[List.length_cons,List.replicate_succ,List.map_cons,<-aCY (fun y hy=>h y (List.mem_cons_of_mem _ hy)),h x (List.mem_cons_self ..)]
theorem yJ{p:Addr}{xs:List V}(h1:bQ K H p xs)(h2:∀x∈xs,x=.bl true)(h:Q (.bl true) H):aGK K [.ref p] H Q:=by
 refine⟨p,List.replicate xs.length true,rfl,?_,?_⟩
 ·rw[<-aCY h2];exact h1
 ·rw[show(List.replicate xs.length true).all id=true by simp];exact h
end
end L2
namespace L2
open PySem PySem.Spec PyProof.Rows
section
variable{X:Cx}{pins:List (Addr×Obj)}{σ:St}{H:Hp}{s:Shared}{A:Around}{E:Value->Shared->Prop}{Q:Value->Shared->Prop}{b:Bool}
theorem aDX{tp:Addr}{dd:Option Addr}{its:List Value}{nn:Nat}{sl:Array (Option Value)}{x:V}{u t:Value}(I:Inv X pins σ H s)(rx:RelV x u)(ty:pV X.K H x t)(htp:s.heap.get? tp=some ⟨.type "tuple",dd,.seq its.toArray nn,sl⟩)(e:PySem.W.kitAny X.K t its=some b)(h:∀tk,Q (.bool b) { s with toks:=tk }) :
  wpAny (model X.prog X.w) A (call (.builtin "isinstance") [u,.ref tp]) Q E s:=by
 cases ty with
 |non=>cases (show u=Value.none from rx);exact PySem.W.kia_tup PySem.W.kitx_none I.pG True.intro htp e (fun z=>nomatch z) h
 |bl y=>cases (show u=Value.bool y from rx);exact PySem.W.kia_tup PySem.W.kitx_bool I.pG True.intro htp e (fun z=>nomatch z) h
 |int i=>obtain⟨t,q⟩:=(show ∃t,u=Value.int i t from rx);cases q;exact PySem.W.kia_tup PySem.W.kitx_int I.pG True.intro htp e (fun z=>nomatch z) h
 |str y=>obtain⟨t,q⟩:=(show ∃t,u=Value.str y t from rx);cases q;exact PySem.W.kia_tup PySem.W.kitx_str I.pG True.intro htp e (fun z=>nomatch z) h
 |flt y=>obtain⟨t,q⟩:=(show ∃t,u=Value.float y t from rx);cases q;exact PySem.W.kia_tup PySem.W.kitx_float I.pG True.intro htp e (fun z=>nomatch z) h
 |@lst a xs ea=>
  cases (show u=Value.ref a from rx)
  obtain⟨_,_,n,_,h1⟩:=(show bJ X.prog X.w H s.heap a (.lst xs) from I.hok a _ ea)
  exact PySem.W.kia_tup PySem.W.kitx_list I.pG ⟨_,h1,rfl⟩ htp e (fun z=>nomatch z) h
 |@frz a ob xs ea=>
  cases (show u=Value.ref a from rx)
  obtain⟨_,_,_,n,_,h1⟩:=(show bJ X.prog X.w H s.heap a (.frz ob (.lst xs)) from I.hok a _ ea)
  exact PySem.W.kia_tup PySem.W.kitx_list I.pG ⟨_,h1,rfl⟩ htp e (fun z=>nomatch z) h
 |@tup a xs ea=>
  cases (show u=Value.ref a from rx)
  obtain⟨_,_,_,p⟩:=(show bJ X.prog X.w H s.heap a (.tup xs) from I.hok a _ ea)
  obtain⟨o,h1,h2,_⟩:=p
  exact PySem.W.kia_tup PySem.W.kitx_tuple I.pG ⟨o,h1,h2⟩ htp e (fun z=>nomatch z) h
 |@dK a kvs ea=>
  cases (show u=Value.ref a from rx)
  obtain⟨_,_,vs,_,p⟩:=(show bJ X.prog X.w H s.heap a (.dK kvs) from I.hok a _ ea)
  obtain⟨o,es,ep,h1,h2,_⟩:=p
  exact PySem.W.kia_tup PySem.W.kitx_dict I.pG ⟨o,h1,h2.1⟩ htp e (fun z=>nomatch z) h
 |@dT a kvs ea=>
  cases (show u=Value.ref a from rx)
  obtain⟨_,_,xs,_,o,es,ep,h1,h2,_⟩:=(show bJ X.prog X.w H s.heap a (.dT kvs) from I.hok a _ ea)
  exact PySem.W.kia_tup PySem.W.kitx_dict I.pG ⟨o,h1,h2.1⟩ htp e (fun z=>nomatch z) h
 |@ins a C dx fs ea cl ha hn htk hm=>
  cases (show u=Value.ref a from rx)
  obtain⟨mA,O,_⟩:=jX I.hok ea
  obtain⟨od,J,_⟩:=O.look
  exact PySem.W.kia_tup (PySem.W.kitx_own (cl.get _) cl.hd ha hn htk hm) I.pG J htp e (fun z=>nomatch z) h
end
section
variable{X:Cx}{K:W.Frag}{H:Hp}{Q:VK}
theorem y9:∀{Ts:List String}{us:List Value},Vals (Ts.map V.ty) us->us=Ts.map Value.type
 |[],_,.nil=>rfl
 |T::Ts,_,.cons r t=>by cases r;rw[y9 t];rfl
def aGL(K:W.Frag):List V->Hp->VK->Prop:=fun xs H Q=>∃(x:V) (p:Addr) (Ts:List String) (t:Value) (b:Bool),xs=[x,.ref p]/\H p=some (.tup (Ts.map V.ty))/\pV K H x t/\PySem.W.kitAny K t (Ts.map Value.type)=some b/\Q (.bl b) H
theorem aFC:d9 X (.builtin "isinstance") (aGL X.K):=by
 intro pins s σ H xs us Q I r h
 obtain⟨x,p,Ts,t,b,rfl,hp,ty,e,q⟩:=h
 obtain⟨u,w',rfl,rx,ry⟩:=vals2 r
 cases ry
 obtain⟨hz,its,rv,⟨o,ho,hc,n,hd⟩⟩:=(show bJ X.prog X.w H s.heap p (.tup (Ts.map V.ty)) from I.hok p _ hp)
 have ei:=y9 rv
 subst ei
 obtain⟨oc,od,odt,osl⟩:=o
 replace hc:oc=.type "tuple":=hc
 replace hd:odt=.seq (Ts.map Value.type).toArray n:=hd
 subst hc hd
 exact aDX I rx ty ho e fun tk=>⟨.bl b,H,I.tok _,rfl,q⟩
theorem rW{x:V}{p:Addr}{Ts:List String}{t:Value}{b:Bool}(hp:H p=some (.tup (Ts.map V.ty)))(ty:pV K H x t)(e:PySem.W.kitAny K t (Ts.map Value.type)=some b)(h:Q (.bl b) H):aGL K [x,.ref p] H Q:=⟨x,p,Ts,t,b,rfl,hp,ty,e,h⟩
def isB:V->V->Option Bool
 |.non,.non=>some true
 |.bl a,.bl b=>some (a == b)
 |.bl _,.non=>some false
 |.int _,.non=>some false
 |.str _,.non=>some false
 |.ref _,.non=>some false
 |_,_=>none
def rIs:R2:=fun x y H Q=>∃b,isB x y=some b/\Q (.bl b) H
def aGM:R2:=fun x y H Q=>∃b,isB x y=some b/\Q (.bl (!b)) H
theorem aGN:pT X (compareOp .Is) rIs:=by
 intro pins s σ H x y v u Q I rx ry h
 obtain⟨b,e,q⟩:=h
 have fin:EP X pins σ Q (.bool b) s:=⟨.bl b,H,I,rfl,q⟩
 cases x with
 |non=>cases y with
  |non=>cases e;cases rx;cases ry;exact is_none_gen fin
  |_=>cases e
 |bl a=>cases y with
  |bl c=>cases e;cases rx;cases ry;exact is_bool fin
  |non=>cases e;cases rx;cases ry;exact is_none_gen fin
  |_=>cases e
 |int i=>cases y with
  |non=>cases e;obtain⟨t,rfl⟩:=rx;cases ry;exact is_none_gen fin
  |_=>cases e
 |str i=>cases y with
  |non=>cases e;obtain⟨t,rfl⟩:=rx;cases ry;exact is_none_gen fin
  |_=>cases e
 |ref i=>cases y with
  |non=>cases e;cases rx;cases ry;exact is_none_gen fin
  |_=>cases e
 |_=>cases y <;> cases e
theorem rX:pT X (compareOp .IsNot) aGM:=by
 intro pins s σ H x y v u Q I rx ry h
 obtain⟨b,e,q⟩:=h
 have fin:EP X pins σ Q (.bool (!b)) s:=⟨.bl (!b),H,I,rfl,q⟩
 cases x with
 |non=>cases y with
  |non=>cases e;cases rx;cases ry;exact isnot_none_gen fin
  |_=>cases e
 |bl a=>cases y with
  |bl c=>cases e;cases rx;cases ry;exact isnot_bool fin
  |non=>cases e;cases rx;cases ry;exact isnot_none_gen fin
  |_=>cases e
 |int i=>cases y with
  |non=>cases e;obtain⟨t,rfl⟩:=rx;cases ry;exact isnot_none_gen fin
  |_=>cases e
 |str i=>cases y with
  |non=>cases e;obtain⟨t,rfl⟩:=rx;cases ry;exact isnot_none_gen fin
  |_=>cases e
 |ref i=>cases y with
  |non=>cases e;cases rx;cases ry;exact isnot_none_gen fin
  |_=>cases e
 |_=>cases y <;> cases e
theorem aLw{x y:V}{b:Bool}(e:isB x y=some b)(h:Q (.bl b) H):rIs x y H Q:=⟨b,e,h⟩
theorem aGO{x y:V}{b:Bool}(e:isB x y=some b)(h:Q (.bl (!b)) H):aGM x y H Q:=⟨b,e,h⟩
end
end L2
namespace L2
open PySem PySem.Spec PyProof.Rows
section
variable{X:Cx}
def aKv(K:W.Frag):List V->Hp->VK->Prop:=fun xs H Q=>∃(p:Addr) (ns:List Int),xs=[.ref p]/\bQ K H p (ns.map V.int)/\Q (.int (List.sum ns)) H
theorem aFD(hc:X.calm=true):d9 X (.builtin "sum") (aKv X.K):=by
 intro pins s σ H xs us Q I r h
 obtain⟨p,ns,rfl,hq,q⟩:=h
 obtain⟨u,rfl,rx⟩:=vals1 r
 cases rx
 obtain⟨its,r',pl,hz⟩:=I.list hq
 have hi:=intsAre_of r'
 obtain⟨xs,hx⟩:=hi.allInts.items
 have hl':s.heap.IsList p (intItems xs):=hx▸pl.isList
 refine sum_intListG (I.ok.hd hc) hl' fun h' tk t' hk=>?_
 have e1:ns=xs.toList.map (·.1):=by
  rw[<-nums_intItems,<-hx]
  exact(show numsOf its.toArray.toList=ns from hi.numsOf).symm
 have e2:preSum (numAt xs) xs.size=ns.sum:=by
  rw[preSum_eq,List.take_of_length_le (by simp),e1]
 rw[e2]
 exact⟨.int _,H,I.kept (t':=tk) hk,⟨t',rfl⟩,q⟩
theorem aKw{K:W.Frag}{H:Hp}{Q:VK}{p:Addr}{ns:List Int}(h1:bQ K H p (ns.map V.int))(h:Q (.int (List.sum ns)) H):aKv K [.ref p] H Q:=⟨p,ns,rfl,h1,h⟩
end
end L2
namespace L2
open PySem PySem.Spec PyProof.Rows
section
variable{prog:Program}{w:World}{A:Around}{E:Value->Shared->Prop}
theorem aI8{it t:Addr}{items:Array Value}(hne:t≠it):∀(n i:Nat) (s:Shared) (Q:List Value->Shared->Prop),s.heap.IsListIter it t i->s.heap.IsList t items->i+n<=items.size->
  (∀h',h'.IsListIter it t (i+n)->Heap.SameBut it s.heap h'->Q ((items.toList.drop i).take n) { s with heap:=h' })->wpAny (model prog w) A (draw (.ref it) n) Q E s
 |0,i,s,Q,hit,_,_,hQ=>by
  show wpAny (model prog w) A (pure ([]:List Value)) Q E s
  have q:=hQ s.heap hit (Heap.SameBut.refl ..)
  rw[List.take_zero] at q
  exact wpAny_pure q
 |n+1,i,s,Q,hit,ht,hle,hQ=>by
  have hi:i < items.size:=by omega
  show wpAny (model prog w) A (pyNext (.ref it) >>= _) Q E s
  refine wpAny_bind (wpAny_pyNext_list_item hit ht (x:=items[i]) (by simp[hi]) fun h1 hit1 sb1=>?_)
  refine wpAny_bind (wpAny_holding (aI8 hne n (i+1) _ _ hit1 (ht.at fun o e=>(sb1.2 t hne).trans e) (by omega) fun h2 hit2 sb2=>wpAny_pure ?_))
  have hd:items.toList.drop i=items[i] :: items.toList.drop (i+1):=by simp[List.drop_eq_getElem_cons,hi]
  have q:=hQ h2 (by rw[show i+(n+1)=i+1+n by omega];exact hit2) (sb1.trans sb2)
  rw[hd,List.take_succ_cons] at q
  exact q
theorem aIu{s:Shared}{t:Addr}{items:Array Value}{targets:List (Bool×(Value->Sem Unit))}{Q:Unit->Shared->Prop}(hh:A.handled=none)(ht:s.heap.IsList t items)
  (hn:targets.length=items.size) (hst:targets.findIdx? (·.1)=none)
  (h:∀h',Heap.ExtBut s.heap.objs.size s.heap h'->wpAny (model prog w) A (assignInOrder (targets.map (·.2)) items.toList) Q E { s with heap:=h' }) :
  wpAny (model prog w) A (unpack (.ref t) targets) Q E s:=by
 have hlt:t≠s.heap.objs.size:=by obtain⟨o,ho,_⟩:=id ht;exact Nat.ne_of_lt (Heap.lt_size ho)
 unfold unpack
 rw[hn,hst]
 refine wpAny_bind (wpAny_holding ?_)
 unfold unpackItems
 refine wpAny_bind ?_
 unfold notIterableAtAll
 refine wpAny_bind (wpAny_specialOf ht.typeIs slot_list_iter.lookup (wpAny_pure ?_))
 simp only[Bool.false_eq_true,if_false]
 refine wpAny_bind (wpAny_holding (wpAny_pyIter_list ht ?_))
 refine wpAny_bind (wpAny_holding (aI8 hlt items.size 0 _ _ ⟨_,Heap.get?_push_size _ rfl,rfl,rfl⟩ (ht.push _) (by omega) fun h1 hit1 sb1=>?_))
 rw[show List.take items.size (List.drop 0 items.toList)=items.toList by rw[List.drop_zero];exact List.take_of_length_le (by simp),if_neg (by simp)]
 refine wpAny_bind (wpAny_holding (wpAny_pyNext_list_end hh hit1 ((ht.push _).at fun o e=>(sb1.2 t hlt).trans e) (by simp) fun h2 eb=>?_))
 simp only[Option.isSome_none,Bool.false_eq_true,if_false]
 exact wpAny_pure (h h2 fun b o hb e=>eb b o hb (sb1.extBut b o hb (Heap.get?_push_of_some _ e)))
end
section
variable{X:Cx}{pos:Pos}
def aGP(K:W.Frag)(n:Nat)(t:TGs):TG:=fun v σ H Q=>∃a xs,v=.ref a/\bQ K H a xs/\xs.length=n/\t xs σ H Q
theorem aIv{es:List Expr}{k:Nat}{t:TGs}{n:Nat}(hc:X.calm=true)(h:PGs X es t)
  (hn:(assignEach es X.env).length=n:=by rfl) (hst:(assignEach es X.env).findIdx? (·.1)=none:=by rfl):PG X (.Tuple es k pos) (aGP X.K n t):=by
 intro pins s σ H v u Q I r hw
 obtain⟨a,xs,e1,hq,hl,hw⟩:=hw
 subst e1
 cases r
 obtain⟨its,rv,ht,hz⟩:=I.list hq
 rw[assign_Tuple]
 refine wpAny_bind (wpAny_standAt (aIu (I.ok.hd hc) ht.isList (by simp[hn,<-hl,rv.length]) hst fun h' hx=>?_))
 have I1:Inv X pins σ H { s with heap:=h' }:=I.kept (t':=s.toks) fun b o e=>hx b o (Nat.ne_of_lt (Heap.lt_size e)) e
 exact h pins _ σ H xs _ Q I1 (by simpa using rv) hw
theorem aGQ{K:W.Frag}{σ:St}{H:Hp}{QG:St->Hp->Prop}{n:Nat}{t:TGs}{a:Addr}{xs:List V}(h1:bQ K H a xs)(h2:xs.length=n)(h:t xs σ H QG):aGP K n t (.ref a) σ H QG:=⟨a,xs,rfl,h1,h2,h⟩
end
end L2
namespace L2
open PySem PySem.Spec PyProof.Rows
section
variable{X:Cx}
end
section
variable{X:Cx}{pins:List (Addr×Obj)}{σ:St}{H:Hp}{s:Shared}{h':Heap}
end
section
variable{X:Cx}{elts:List Expr}{x1:Nat}{tp:Pos}
end
section
variable{σ:St}{H:Hp}{nx:St->Hp->Prop}{rt:VK}{g:TG}{tb:TS}{Q:VK}{K:W.Frag}
end
end L2
namespace L2
open PySem PySem.Spec PyProof.Rows
section
variable{X:Cx}{e:Expr}{te:TE}
end
end L2
namespace L2.Z
open PySem PySem.Spec PyProof.Rows L2
structure QE(X:Cx)(e:Expr)(t:TE):Prop where
 h:PE X e t
structure QT(X:Cx)(e:Expr)(t:TT):Prop where
 h:PT X e t
structure QW(X:Cx)(e:Expr)(t:TT):Prop where
 h:PW X e t
structure QA(X:Cx)(es:List Expr)(t:TA):Prop where
 h:PA X es t
structure QS(X:Cx)(st:Stmt)(t:TS):Prop where
 h:PS X st t
structure QSs(X:Cx)(st:List Stmt)(t:TS):Prop where
 h:PSs X st t
structure QG(X:Cx)(tg:Expr)(g:TG):Prop where
 h:PG X tg g
structure QGs(X:Cx)(tg:List Expr)(g:TGs):Prop where
 h:PGs X tg g
structure QI(X:Cx)(tg it:Expr)(w:TI):Prop where
 h:PI X tg it w
structure QTs(X:Cx)(ifs:List Expr)(t:TT):Prop where
 h:PTs X ifs t
structure QO(X:Cx)(o:Option Expr)(t:TO):Prop where
 h:PO X o t
section
variable{X:Cx}{CX:CXT}{k:Nat}{f C:Addr}{fd:FuncData}{ps:List Str}{sp:Sp}{dvs:List V}{ds:List Value}{E:XK}{x m:Str}{p pos apos p2 spos:Pos}{a b c e o:Expr}{es rest:List Expr}{ta tb tc te to ti:TE}{t:TA}{tA tB tt:TT}{id T:String}{r r':R2}{rc:List V->Hp->VK->Prop}{st:Stmt}{sts sts2:List Stmt}{ts us:TS}{g:TG}{gs:TGs}{wi:TI}{tg iter:Expr}
theorem QW.pt{e:Expr}{t:TT}(q:QW X e t):QT X e t:=⟨q.h.pt⟩
theorem aBc{e:Expr}{t:TT}(q:QW X e t):QT X e t:=⟨q.h.pt⟩
theorem pv(i:Nat)(hN:X.N[i]?=some x:=by rfl)(hv:Vis X.env.scope x:=by first|exact Or.inl rfl|exact Or.inr (Or.inl rfl)|exact Or.inr (Or.inr rfl))(hd:(x == ("__debug__" : Str))=false:=by decide)
  (hcd:(x == ("__classdict__" : Str))=false:=by decide):QE X (.Name x pos) (aHJ i):=⟨aDy hN hv hd hcd⟩
theorem aA{i j}:QE X (.Constant (.int i) j pos) (tC (.int i)):=⟨L2.aA⟩
theorem wL{b j}:QE X (.Constant (.bool b) j pos) (tC (.bl b)):=⟨L2.wL⟩
theorem mV{j}:QE X (.Constant .none j pos) (tC .non):=⟨L2.mV⟩
theorem yI{n:Int}(hg:Gl X x)(hm:∃t,X.mg x=some (.int n t))(hd:(x == ("__debug__" : Str))=false:=by decide):QE X (.Name x pos) (tC (.int n)):=⟨L2.yI hg hm hd⟩
theorem cB{v:V}{u:Value}(hg:Gl X x)(hm:X.mg x=none)(hv:bootBuiltins x=some u)(r:RelV v u)(hn:x≠"__name__":=by decide)(hd:(x == ("__debug__" : Str))=false:=by decide):QE X (.Name x pos) (tC v):=⟨L2.cB hg hm hv r hn hd⟩
theorem aN{op:Operator}(ho:pT X (binaryOp op) r)(ha:QE X a ta)(hb:QE X b tb):QE X (.BinOp a op b pos) (tOp r ta tb):=⟨L2.aN ho ha.h hb.h⟩
theorem sS{op:UnaryOp}{ru:V->Hp->VK->Prop}(ho:UnR X (unaryOp op) ru)(ha:QE X a ta):QE X (.UnaryOp op a pos) (tUn ru ta):=⟨L2.sS ho ha.h⟩
theorem aDz(ha:QE X a ta):QE X (.UnaryOp .Not a pos) (aFV ta):=⟨L2.aDz ha.h⟩
theorem jO{op}(h:QE X a ta):QE X (.BoolOp op [a] pos) ta:=⟨L2.jO h.h⟩
theorem iI(ha:QE X a ta)(hb:QE X (.BoolOp .And (b::rest) pos) tb):QE X (.BoolOp .And (a::b::rest) pos) (aFU ta tb):=⟨L2.iI ha.h hb.h⟩
theorem aFW(ha:QE X a ta)(hb:QE X (.BoolOp .Or (b::rest) pos) tb):QE X (.BoolOp .Or (a::b::rest) pos) (aJp ta tb):=⟨L2.aFW ha.h hb.h⟩
theorem gB{op:CmpOp}(ho:pT X (compareOp op) r)(ha:QE X a ta)(hb:QE X b tb)(hm:behindInMarks op b=false):QE X (.Compare a [op] [b] pos) (tOp r ta tb):=⟨L2.gB ho ha.h hb.h hm⟩
theorem bP{op:CmpOp}(ho:pT X (compareOp op) r)(ha:QE X a ta)(hb:QE X b tb)(hm:behindInMarks op b=false):QT X (.Compare a [op] [b] pos) (aF6 (tOp r ta tb)):=⟨L2.bP ho ha.h hb.h hm⟩
theorem uF{op op':CmpOp}(ho:pT X (compareOp op) r)(ho':pT X (compareOp op') r')(ha:QE X a ta)(hb:QE X b tb)(hc:QE X c tc)(hm:lastMarks [op,op'] [b,c]=false:=by with_unfolding_all rfl):QE X (.Compare a [op,op'] [b,c] pos) (aDF r r' ta tb tc):=⟨L2.uF ho ho' ha.h hb.h hc.h hm⟩
theorem fV(h:QE X e te)(he:∀whole,isTrue e X.env whole=(do let v <-whole;standAt e.pos;holding [v] (truthy v)):=by intro _;rfl):QT X e (L2.tB te):=⟨L2.fV h.h he⟩
theorem oE(ha:QT X a tA):QT X (.UnaryOp .Not a pos) (aJo tA):=⟨L2.oE ha.h⟩
theorem yF(ha:QT X a tA):QW X (.BoolOp .And [a] pos) tA:=⟨L2.yF ha.h⟩
theorem vW(ha:QT X a tA):QW X (.BoolOp .Or [a] pos) tA:=⟨L2.vW ha.h⟩
theorem aBC(ha:QT X a tA)(hb:QW X (.BoolOp .And (b::rest) pos) tB):QW X (.BoolOp .And (a::b::rest) pos) (aJn tA tB):=⟨L2.aBC ha.h hb.h⟩
theorem aA0(ha:QT X a tA)(hb:QW X (.BoolOp .Or (b::rest) pos) tB):QW X (.BoolOp .Or (a::b::rest) pos) (tOr tA tB):=⟨L2.aA0 ha.h hb.h⟩
theorem aB:QA X [] mX:=⟨L2.aB⟩
theorem aD(ha:QE X e te)(hr:QA X es t)(hs:noStar e=true:=by rfl):QA X (e::es) (bE te t):=⟨L2.aD ha.h hr.h hs⟩
theorem aF(F:bR X.prog X.w X.K X.mg X.base CX k f fd ps sp)(hr:dG k X.A)(hg:Gl X x)(hm:X.mg x=some (.ref f))(hk:W.keepIn X.K (.ref f)=true)(hb:Binds X.K fd ps ds)(hd:Vals dvs ds)(hx:Passes CX X E)
  (ha:QA X (e::es) t) (hn:(e::es).all noStar=true:=by rfl) (hdb:(x == ("__debug__" : Str))=false:=by decide):QE X (.Call (.Name x p) (e::es) [] pos) (aCI sp dvs E t):=⟨L2.aF F hr hg hm hk hb hd hx ha.h hn hdb⟩
theorem y7(M:Mk X.K C f)(F:bR X.prog X.w X.K X.mg X.base CX k f fd ps sp)(hr:dG (k+1) X.A)(hg:Gl X x)(hm:X.mg x=some (.ref C))(hb:Binds X.K fd ps ds)(hd:Vals dvs ds)(hx:Passes CX X E)
  (ha:QA X (e::es) t) (hn:(e::es).all noStar=true:=by rfl) (hdb:(x == ("__debug__" : Str))=false:=by decide):QE X (.Call (.Name x p) (e::es) [] pos) (aCJ C sp dvs E t):=⟨L2.y7 M F hr hg hm hb hd hx ha.h hn hdb⟩
theorem aI(hc:d9 X (.builtin id) rc)(hg:Gl X x)(hm:X.mg x=none)(hv:bootBuiltins x=some (.builtin id))(ha:QA X (e::es) t)(hn:(e::es).all noStar=true:=by rfl)(hne:x≠"__name__":=by decide)(hdb:(x == ("__debug__" : Str))=false:=by decide) :
  QE X (.Call (.Name x p) (e::es) [] pos) (tCB rc t):=⟨L2.aI hc hg hm hv ha.h hn hne hdb⟩
theorem iK(hc:d9 X (.type T) rc)(hg:Gl X x)(hm:X.mg x=none)(hv:bootBuiltins x=some (.type T))(ha:QA X (e::es) t)(hn:(e::es).all noStar=true:=by rfl)(hne:x≠"__name__":=by decide)(hdb:(x == ("__debug__" : Str))=false:=by decide) :
  QE X (.Call (.Name x p) (e::es) [] pos) (tCB rc t):=⟨L2.iK hc hg hm hv ha.h hn hne hdb⟩
theorem uH:QO X none aBI:=⟨L2.uH⟩
theorem uI(h:QE X e te):QO X (some e) (aGh te):=⟨L2.uI h.h⟩
theorem pW{rs:V->Option Int->Option Int->Hp->VK->Prop}{lo hi:Option Expr}{tl th:TO}(hr:SlR X rs)(he:QE X e te)(hl:QO X lo tl)(hu:QO X hi th):QE X (.Subscript e (.Slice lo hi none p2) pos) (tSl rs te tl th):=⟨L2.pW hr he.h hl.h hu.h⟩
theorem eO(h:QA X es t):QE X (.List es pos) (tF t):=⟨L2.eO h.h⟩
theorem cO(hg:Gl X "range")(hm:X.mg "range" = none)(ha:QA X [a] t)(hn:noStar a=true:=by rfl):QI X tg (.Call (.Name "range" p) [a] [] pos) (aEx t):=⟨L2.cO hg hm ha.h hn⟩
theorem tL(hg:Gl X "range")(hm:X.mg "range" = none)(ha:QA X [a,b] t)(hn:noStar a=true:=by rfl)(hn2:noStar b=true:=by rfl):QI X tg (.Call (.Name "range" p) [a,b] [] pos) (aEy t):=⟨L2.tL hg hm ha.h hn hn2⟩
theorem aP{i:Nat}(hN:X.N.Nodup)(hi:X.N[i]?=some x)(hx:Loc X.env.scope x)(hf:X.fn x=true\/X.env.scope.names.lookup x=some .local:=by first|exact .inl rfl|exact .inr rfl|assumption):QG X (.Name x pos) (sR i):=⟨L2.aP hN hi hx hf⟩
theorem fD:QGs X [] aHL:=⟨L2.fD⟩
theorem bH{e:Expr}{es:List Expr}{t:TG}{u:TGs}(h1:QG X e t)(h2:QGs X es u)(hs:(assignEach (e::es) X.env).map (·.2)=assign e X.env::(assignEach es X.env).map (·.2):=by rfl):QGs X (e::es) (aEv t u):=⟨L2.bH h1.h h2.h hs⟩
theorem yU{i:Expr}{tset:aBD}(ho:QE X o to)(hi:QE X i ti)(hs:aF1 X tset)
  (ha:∀v,assign (.Subscript o i pos) X.env v=(do
   let ov <-holding [v] (eval o X.env)
   let iv <-holding [v,ov] (eval i X.env)
   standAt pos
   holding [v,ov,iv] (setItem ov iv v)
   release [v,ov,iv] []):=by intro _;rfl):QG X (.Subscript o i pos) (aJt to ti tset):=⟨L2.yU ho.h hi.h hs ha⟩
theorem iW:QTs X [] aJW:=⟨L2.iW⟩
theorem rQ(h:QT X c tt):QTs X [c] tt:=⟨L2.rQ h.h⟩
theorem root{D:Ends}{σ:St}{H:Hp}(q:QSs X sts ts)(h:ts D σ H):∃t,PSs X sts t/\t D σ H:=⟨ts,q.h,h⟩
theorem imp{ts':TS}(q:QSs X sts ts)(h:∀D σ H,ts' D σ H->ts D σ H):QSs X sts ts':=⟨fun pins s σ H D I z=>q.h pins s σ H D I (h D σ H z)⟩
theorem bI:QSs X [] aFX:=⟨L2.bI⟩
theorem aC(h1:QS X st ts)(h2:QSs X sts us):QSs X (st::sts) (aFY ts us):=⟨L2.aC h1.h h2.h⟩
theorem aG(h1:QS X st ts):QSs X [st] ts:=⟨L2.aG h1.h⟩
theorem pR:QS X st aF0:=⟨L2.pR⟩
theorem fB(he:QE X e te)(hs:swapsWith e none pos.line X.env=pure false:=by rfl):QS X (.Expr e pos) (aFZ te):=⟨L2.fB he.h hs⟩
theorem aS(he:QE X e te):QS X (.Return (some e) pos) (aJq te):=⟨L2.aS he.h⟩
theorem cN(hc:QT X c tt)(ha:QSs X sts ts)(hb:QSs X sts2 us):QS X (.If c sts sts2 pos) (aJr tt ts us):=⟨L2.cN hc.h ha.h hb.h⟩
theorem aM{i:Nat}{pos':Pos}(hN:X.N.Nodup)(hi:X.N[i]?=some x)(hx:Loc X.env.scope x)(he:QE X e te)(hs:swapsWith e (some (.Name x pos')) pos.line X.env=pure false:=by rfl)(hf:X.fn x=true\/X.env.scope.names.lookup x=some .local:=by first|exact .inl rfl|exact .inr rfl|assumption) :
  QS X (.Assign [.Name x pos'] e pos) (aDA te (sR i)):=⟨L2.aM hN hi hx he.h hs hf⟩
theorem vX(he:QE X e te)(hg:QG X tg g)(hs:swapsWithSole [tg] e pos.line X.env=pure false:=by rfl)(hw:swappedStores [tg] e X.env=pure none:=by rfl)
  (h1:(assignEach [tg] X.env).map (·.2)=[assign tg X.env]:=by rfl):QS X (.Assign [tg] e pos) (aDA te g):=⟨L2.vX he.h hg.h hs hw h1⟩
theorem aBE{i:Nat}{op:Operator}{tip:TIp}{pos':Pos}(hN:X.N.Nodup)(hi:X.N[i]?=some x)(hx:Loc X.env.scope x)(he:QE X e te)(ho:PIp X op tip)(hf:X.fn x=true\/X.env.scope.names.lookup x=some .local:=by first|exact .inl rfl|exact .inr rfl|assumption) :
  QS X (.AugAssign (.Name x pos') op e pos) (aJu i te tip):=⟨L2.aBE hN hi hx he.h ho hf⟩
theorem aBF{i:Expr}{tget:V->V->Hp->VK->Prop}{tip:TIp}{tset:aBD}{op:Operator}{tpos:Pos}(ho:QE X o to)(hi:QE X i ti)(hg:aJv X tget)(he:QE X e te)(hp:PIp X op tip)(hs:aF1 X tset)
  (ha:∀ov iv new,augStore i ov iv new=(do holding [new,ov,iv] (setItem ov iv new);release [new,ov,iv] [];pure .next):=by intros;rfl):QS X (.AugAssign (.Subscript o i tpos) op e pos) (aF2 to ti te tget tip tset):=⟨L2.aBF ho.h hi.h hg he.h hp hs ha⟩
theorem cE(hp:PassesOwn (model X.prog X.w) X.A X.env X.xe)(hc:X.calm=true)(hi:QI X tg iter wi)(hg:QG X tg g)(hb:QSs X sts ts)
  (hs:∀x,foldedSetIterable iter X.env x=pure x:=by intro _;rfl):QS X (.For tg iter sts [] pos) (aJy wi g ts):=⟨L2.cE hp hc hi.h hg.h hb.h hs⟩
variable{scope:Scope}{elt target:Expr}{ifs:List Expr}{N:List Str}
theorem fE{k:Nat}{idx:List Nat}{N:List Str}(S:dH X scope N k idx)(hc:X.calm=true)(hi:QI X target iter wi)
  (hg:∀fp C s H,QG (xJ X scope N fp C s H) target g) (ho:Own k g) (ht:∀fp C s H,QTs (xJ X scope N fp C s H) ifs tt) (he:∀fp C s H,QE (xJ X scope N fp C s H) elt te)
  (hs:∀x,foldedSetIterable iter X.env x=pure x:=by intro _;rfl):QE X (.ListComp elt [⟨target,iter,ifs,0⟩] scope pos) (aCU wi k idx g tt te):=
 ⟨L2.fE k idx S hc hi.h (fun fp C s H=>(hg fp C s H).h) ho (fun fp C s H=>(ht fp C s H).h) (fun fp C s H=>(he fp C s H).h) hs⟩
theorem aBN{k:Nat}{idx:List Nat}{i:Nat}{N:List Str}{pos':Pos}(hN:X.N.Nodup)(hix:X.N[i]?=some x)(hx:Loc X.env.scope x)
  (S:dH X scope N k idx) (hc:X.calm=true) (hi:QI X target iter wi)
  (hg:∀fp C s H,QG (xJ X scope N fp C s H) target g) (ho:Own k g) (ht:∀fp C s H,QTs (xJ X scope N fp C s H) ifs tt) (he:∀fp C s H,QE (xJ X scope N fp C s H) elt te)
  (hsw:swapsWith (.ListComp elt [⟨target,iter,ifs,0⟩] scope pos) (some (.Name x pos')) spos.line X.env=pure true:=by rfl)
  (hs:∀x,foldedSetIterable iter X.env x=pure x:=by intro _;rfl) (hfn:X.fn x=true\/X.env.scope.names.lookup x=some .local:=by first|exact .inl rfl|exact .inr rfl|assumption) :
  QS X (.Assign [.Name x pos'] (.ListComp elt [⟨target,iter,ifs,0⟩] scope pos) spos) (aDA (aCU wi k idx g tt te) (sR i)):=
 ⟨L2.aBN k idx hN hix hx S hc hi.h (fun fp C s H=>(hg fp C s H).h) ho (fun fp C s H=>(ht fp C s H).h) (fun fp C s H=>(he fp C s H).h) hsw hs hfn⟩
variable{x1:Nat}{e1 e2 e3 e4 e5 e6 e7 e8:Expr}{t1 t2 t3 t4 t5 t6 t7 t8:TE}
theorem xK(h1:QE X e1 t1)(n1:noStar e1=true:=by rfl):QE X (.List [e1] pos) (tF (bE t1 mX)):=⟨L2.xK h1.h n1⟩
theorem aCX(h1:QE X e1 t1)(h2:QE X e2 t2)(n1:noStar e1=true:=by rfl)(n2:noStar e2=true:=by rfl):QE X (.List [e1,e2] pos) (tF (bE t1 (bE t2 mX))):=⟨L2.aCX h1.h h2.h n1 n2⟩
theorem oJ{k1}(h1:QE X e1 t1)(h2:QE X e2 t2)(n1:noStar e1=true:=by rfl)(n2:noStar e2=true:=by rfl):QE X (.Tuple [e1,e2] k1 pos) (aFn (bE t1 (bE t2 mX))):=⟨L2.oJ h1.h h2.h n1 n2⟩
theorem aIo(h1:QE X e1 t1)(h2:QE X e2 t2)(h3:QE X e3 t3)(n1:noStar e1=true:=by rfl)(n2:noStar e2=true:=by rfl)(n3:noStar e3=true:=by rfl):QE X (.List [e1,e2,e3] pos) (tF (bE t1 (bE t2 (bE t3 mX)))):=⟨L2.aIo h1.h h2.h h3.h n1 n2 n3⟩
theorem aIp{k1}(h1:QE X e1 t1)(h2:QE X e2 t2)(h3:QE X e3 t3)(n1:noStar e1=true:=by rfl)(n2:noStar e2=true:=by rfl)(n3:noStar e3=true:=by rfl):QE X (.Tuple [e1,e2,e3] k1 pos) (aFn (bE t1 (bE t2 (bE t3 mX)))):=⟨L2.aIp h1.h h2.h h3.h n1 n2 n3⟩
theorem aKr(h1:QE X e1 t1)(h2:QE X e2 t2)(h3:QE X e3 t3)(h4:QE X e4 t4)(n1:noStar e1=true:=by rfl)(n2:noStar e2=true:=by rfl)(n3:noStar e3=true:=by rfl)(n4:noStar e4=true:=by rfl):QE X (.List [e1,e2,e3,e4] pos) (tF (bE t1 (bE t2 (bE t3 (bE t4 mX))))):=⟨L2.aKr h1.h h2.h h3.h h4.h n1 n2 n3 n4⟩
theorem aKs(h1:QE X e1 t1)(h2:QE X e2 t2)(h3:QE X e3 t3)(h4:QE X e4 t4)(h5:QE X e5 t5)(n1:noStar e1=true:=by rfl)(n2:noStar e2=true:=by rfl)(n3:noStar e3=true:=by rfl)(n4:noStar e4=true:=by rfl)(n5:noStar e5=true:=by rfl):QE X (.List [e1,e2,e3,e4,e5] pos) (tF (bE t1 (bE t2 (bE t3 (bE t4 (bE t5 mX)))))):=⟨L2.aKs h1.h h2.h h3.h h4.h h5.h n1 n2 n3 n4 n5⟩
theorem aKt(h1:QE X e1 t1)(h2:QE X e2 t2)(h3:QE X e3 t3)(h4:QE X e4 t4)(h5:QE X e5 t5)(h6:QE X e6 t6)(h7:QE X e7 t7)(n1:noStar e1=true:=by rfl)(n2:noStar e2=true:=by rfl)(n3:noStar e3=true:=by rfl)(n4:noStar e4=true:=by rfl)(n5:noStar e5=true:=by rfl)(n6:noStar e6=true:=by rfl)(n7:noStar e7=true:=by rfl):QE X (.List [e1,e2,e3,e4,e5,e6,e7] pos) (tF (bE t1 (bE t2 (bE t3 (bE t4 (bE t5 (bE t6 (bE t7 mX)))))))):=⟨L2.aKt h1.h h2.h h3.h h4.h h5.h h6.h h7.h n1 n2 n3 n4 n5 n6 n7⟩
end
end L2.Z
namespace L2.Z
open PySem PySem.Spec PyProof.Rows L2
section
variable{X:Cx}{CX:CXT}{k:Nat}{f C:Addr}{fd:FuncData}{ps:List Str}{sp:Sp}{dvs:List V}{ds:List Value}{E:XK}{x m:Str}{p pos apos p2 spos cpos tp:Pos}{a b c e o st:Expr}{es rest elts:List Expr}{ta tb tc te to ti:TE}{t:TA}{x1:Nat}{ts:TO}
theorem aBH{pl:Sem Bool}(he:QE X o ta)(c:Cls X.K C)(hm:Meth X.K C m f)(F:bR X.prog X.w X.K X.mg X.base CX k f fd ps sp)(hr:dG k X.A)(hb:Binds X.K fd ps ds)(hd:Vals dvs ds)(hx:Passes CX X E)(ha:QA X (e::es) t)
  (hn:(e::es).all noStar=true:=by rfl)
  (ht:eval (.Call (.Attribute o m apos) (e::es) [] pos) X.env=(do
   let ov <-eval o X.env
   standAt apos.atName
   let (f,first) <-holding [ov] (getMethod ov m pl)
   callWith pos f first (backTo pos (starEach (e::es) X.env)) (backToKw pos (keywordEach [] X.env))):=by rfl) :
  QE X (.Call (.Attribute o m apos) (e::es) [] pos) (aEA C m sp dvs E ta t):=⟨L2.aBH he.h c hm F hr hb hd hx ha.h (bM (fX hn).1) (gW (fX hn).2) ht⟩
end
end L2.Z
namespace L2.Z
open PySem PySem.Spec PyProof.Rows L2
section
variable{X:Cx}{K':W.Frag}{x m n:Str}{p pos apos p2 spos cpos tp pos':Pos}{a b c e o st iter tg:Expr}{es rest elts:List Expr}{ta tb tc te to ti:TE}{t:TA}{x1:Nat}{ts:TO}
theorem aK(ha:QE X a ta)(hb:QE X b tb)(hs:aEE b)(hK:X.K=K':=by rfl):QE X (.Subscript a b pos) (tOp (rIx K') ta tb):=by subst hK;exact⟨L2.aK2 aJK ha.h hb.h hs⟩
theorem cP(hl:QE X e te)(hK:X.K=K':=by rfl):QI X tg e (aF3 K' te):=by subst hK;exact⟨L2.aHN hl.h⟩
theorem yK(hl:QE X e te)(hK:X.K=K':=by rfl):QI X tg e (aJw K' te):=by subst hK;exact⟨L2.aJx hl.h⟩
theorem zA(hg:Gl X "enumerate")(hm:X.mg "enumerate" = none)(ha:QA X [a] t)(hn:noStar a=true:=by rfl)(hK:X.K=K':=by rfl):QI X (.Tuple elts x1 tp) (.Call (.Name "enumerate" p) [a] [] pos) (aGG K' t):=by subst hK;exact⟨L2.aIq hg hm ha.h hn⟩
theorem iY{k1 n:Nat}{gs:TGs}(hc:X.calm=true)(h:QGs X es gs)(hn:(assignEach es X.env).length=n:=by rfl)(hst:(assignEach es X.env).findIdx? (·.1)=none:=by rfl)(hK:X.K=K':=by rfl):QG X (.Tuple es k1 pos) (aHM K' n gs):=by subst hK;exact⟨L2.aJs hc h.h hn hst⟩
theorem aGR{k1 n:Nat}{gs:TGs}(hc:X.calm=true)(h:QGs X es gs)(hn:(assignEach es X.env).length=n:=by rfl)(hst:(assignEach es X.env).findIdx? (·.1)=none:=by rfl)(hK:X.K=K':=by rfl):QG X (.Tuple es k1 pos) (aGP K' n gs):=by subst hK;exact⟨L2.aIv hc h.h hn hst⟩
theorem oK(he:QE X e ta)(hb:attributeBase e n X.env (eval e X.env)=eval e X.env)(hK:X.K=K':=by rfl):QE X (.Attribute e n pos) (aJC K' ta n):=by subst hK;exact⟨L2.aJE he.h hb⟩
theorem oM(ha:QE X o ta)(hv:QE X e te)(hs:swapsWith e (some (.Attribute o n pos')) pos.line X.env=pure false)(hK:X.K=K':=by rfl):QS X (.Assign [.Attribute o n pos'] e pos) (aJD K' ta te n):=by subst hK;exact⟨L2.aJF ha.h hv.h hs⟩
theorem iZ(ho:QE X o to)(ha:QA X [e] t)(hn:noStar e=true:=by rfl)(hbase:attributeBase o "append" X.env (eval o X.env)=eval o X.env:=by rfl)(hline:(apos.endLine == cpos.line)=true:=by rfl)(hK:X.K=K':=by rfl) :
  QE X (.Call (.Attribute o "append" apos) [e] [] cpos) (tBM K' "list" yG to t):=by subst hK;exact⟨L2.aKu ho.h ha.h hn hbase hline⟩
end
end L2.Z
namespace L2.Z
open PySem PySem.Spec PyProof.Rows L2
section
variable{X:Cx}{K':W.Frag}{p pos tp:Pos}{a b:Expr}{elts:List Expr}{t:TA}{x1:Nat}
end
end L2.Z
namespace L2
open PySem
section
variable{prog:Program}{w:World}{A:Around}{E:Value->Shared->Prop}{s:Shared}
end
def SIt(h:Heap)(k:Bool)(it src:Addr)(i:Nat):Prop:=if k=true then h.IsListIter it src i else h.IsTupleIter it src i
def aIw(h:Heap)(k:Bool)(src:Addr)(items:Array Value):Prop:=if k=true then h.IsList src items else h.IsTuple src items
theorem SIt.at{h h':Heap}{k:Bool}{it src:Addr}{i:Nat}(x:SIt h k it src i)(e:∀o,h.get? it=some o->h'.get? it=some o):SIt h' k it src i:=by
 cases k with
 |true=>obtain⟨o,ho,r⟩:=(show h.IsListIter it src i from x);exact(show h'.IsListIter it src i from⟨o,e o ho,r⟩)
 |false=>obtain⟨o,ho,r⟩:=(show h.IsTupleIter it src i from x);exact(show h'.IsTupleIter it src i from⟨o,e o ho,r⟩)
theorem aIw.at{h h':Heap}{k:Bool}{src:Addr}{items:Array Value}(x:aIw h k src items)(e:∀o,h.get? src=some o->h'.get? src=some o):aIw h' k src items:=by
 cases k with
 |true=>obtain⟨o,ho,r⟩:=(show h.IsList src items from x);exact(show h'.IsList src items from⟨o,e o ho,r⟩)
 |false=>obtain⟨o,ho,r⟩:=(show h.IsTuple src items from x);exact(show h'.IsTuple src items from⟨o,e o ho,r⟩)
theorem SIt.obj{h:Heap}{k:Bool}{it src:Addr}{i:Nat}(x:SIt h k it src i):∃o vs,h.get? it=some o/\o.data=.fields vs:=by
 cases k with
 |true=>obtain⟨o,ho,_,r⟩:=(show h.IsListIter it src i from x);exact⟨o,_,ho,r⟩
 |false=>obtain⟨o,ho,_,r⟩:=(show h.IsTupleIter it src i from x);exact⟨o,_,ho,r⟩
section
variable{prog:Program}{w:World}{A:Around}{E:Value->Shared->Prop}{s:Shared}
end
abbrev ZS:=Bool×Addr×Addr
abbrev aGS(h:Heap)(T:Addr)(vs:Array Value):Prop:=h.get? T=some { cls:=.type "tuple",data:=.seq vs }
section
variable{prog:Program}{w:World}{A:Around}{E:Value->Shared->Prop}{s:Shared}
end
def ZSt(z TI TO:Addr)(L:List ZS)(i:Nat)(h:Heap):Prop:=
 IsZip h z TI TO .none/\aGS h TI (L.map fun t=>Value.ref t.2.1).toArray/\(∃arr,aGS h TO arr/\arr.size=L.length)/\∀t∈L,SIt h t.1 t.2.1 t.2.2 i
section
variable{prog:Program}{w:World}{A:Around}{E:Value->Shared->Prop}{s:Shared}
end
section
variable{prog:Program}{w:World}{A:Around}{E:Value->Shared->Prop}{s:Shared}
end
end L2
namespace L2
open PySem PySem.Spec PyProof.Rows
def Src(H:Hp)(k:Bool)(a:Addr)(xs:List V):Prop:=H a=some (if k=true then .lst xs else .tup xs)
theorem Src.inj{H:Hp}{k:Bool}{a:Addr}{xs ys:List V}(h:Src H k a xs)(h':Src H k a ys):xs=ys:=by
 unfold Src at h h'
 rw[h] at h'
 cases k with
 |true=>injection h' with e;injection e
 |false=>injection h' with e;injection e
theorem Src.lst{H:Hp}{a:Addr}{xs:List V}(h:H a=some (.lst xs)):Src H true a xs:=h
theorem Src.tup{H:Hp}{a:Addr}{xs:List V}(h:H a=some (.tup xs)):Src H false a xs:=h
theorem Inv.src{X:Cx}{pins:List (Addr×Obj)}{σ:St}{H:Hp}{s:Shared}{k:Bool}{a:Addr}{xs:List V}(I:Inv X pins σ H s)(h:Src H k a xs):∃its:List Value,Vals xs its/\aIw s.heap k a its.toArray/\xs.length<=sizeLine:=by
 cases k with
 |true=>
  obtain⟨its,r,p,z⟩:=I.list (bQ.of h)
  exact⟨its,r,p.isList,z⟩
 |false=>
  obtain⟨its,r,p,z⟩:=I.tuple (lJ.of h)
  exact⟨its,r,p,z⟩
abbrev zFp(z TI TO:Addr)(L:List ZS):List Addr:=z::TI::TO::L.map (·.2.1)
theorem ZSt.obj{z TI TO:Addr}{L:List ZS}{i:Nat}{h:Heap}(st:ZSt z TI TO L i h):∀b∈zFp z TI TO L,∃o,h.get? b=some o/\∀v,o.data≠.cell v:=fun b hb=>by
 obtain⟨hz,hTI,⟨arr,hTO,_⟩,hit⟩:=st
 simp only[zFp,List.mem_cons] at hb
 rcases hb with rfl|rfl|rfl|hb
 ·exact⟨_,hz,fun v z=>by cases z⟩
 ·exact⟨_,hTI,fun v z=>by cases z⟩
 ·exact⟨_,hTO,fun v z=>by cases z⟩
 ·obtain⟨t,ht,rfl⟩:=List.mem_map.mp hb
  obtain⟨o,vs,e,d⟩:=(hit t ht).obj
  exact⟨o,e,fun v z=>by rw[d] at z;cases z⟩
section
variable{X:Cx}{elts:List Expr}{x1:Nat}{tp:Pos}{k1 k2 k3:Bool}
end
section
variable{σ:St}{H:Hp}{nx:St->Hp->Prop}{rt:VK}{g:TG}{tb:TS}{Q:VK}{k1 k2 k3:Bool}{a b c:Addr}{xs ys zs:List V}{n:Nat}
end
section
variable{σ₀:St}{g:TG}{tt:TT}{te:TE}{R:List V->Hp->Prop}{H:Hp}{k1 k2 k3:Bool}{a b c:Addr}{xs ys zs:List V}{n:Nat}
end
section
variable{X:Cx}
end
end L2
namespace L2.Z
open PySem PySem.Spec PyProof.Rows L2
section
variable{X:Cx}{p pos tp:Pos}{a b c:Expr}{elts:List Expr}{t:TA}{x1:Nat}{k1 k2 k3:Bool}
end
end L2.Z
namespace L2
open PySem PySem.Spec PyProof.Rows
theorem nw{H:Hp}{p:Addr}(o:HO)(n:H p=none):∃H2,upd H p o=H2/\aJ H H2/\H2 p=some o:=⟨_,rfl,aJ.new n,aH⟩
theorem wr(H:Hp)(p:Addr)(o:HO):∃H2,upd H p o=H2/\bZ p H H2/\H2 p=some o:=⟨_,rfl,bZ.upd,aH⟩
end L2
namespace L2
open PySem PySem.Spec PyProof.Rows
end L2
namespace L2
open PySem PySem.Spec PyProof.Rows
def Nx(N:St->Hp->Prop)(σ:St)(H:Hp):Prop:=N σ H
structure Tail(N b:St->Hp->Prop):Prop where
 h:∀σ H,b σ H->N σ H
theorem aIx{nx bk ct:St->Hp->Prop}{rt:VK}{σ:St}{H:Hp}{t u:TS}(h:∀N,Tail N (u ⟨nx,rt,bk,ct⟩)->t ⟨Nx N,rt,bk,ct⟩ σ H):aFY t u ⟨nx,rt,bk,ct⟩ σ H:=h _ ⟨fun _ _ h=>h⟩
theorem aLx{N b:St->Hp->Prop}{σ:St}{H:Hp}(t:Tail N b)(h:b σ H):Nx N σ H:=t.h _ _ h
end L2
namespace L2
open PySem PySem.Spec PyProof.Rows
section
variable{prog:Program}{w:World}{A:Around}{E:Value->Shared->Prop}{s:Shared}{K:W.Frag}{x C:Addr}{ox:Obj}{od:Option Obj}
end
section
variable{X:Cx}
end
end L2
namespace L2
open PySem PySem.Spec PyProof.Rows
section
variable{X:Cx}{pins:List (Addr×Obj)}{σ:St}{H:Hp}{s:Shared}
end
theorem bJ.obj{P:Program}{w:World}{H:Hp}{h:Heap}{a:Addr}{o:HO}(x:bJ P w H h a o):∃u,h.get? a=some u:=by
 cases o with
 |lst xs=>obtain⟨_,_,_,_,e⟩:=x;exact⟨_,e⟩
 |tup xs=>obtain⟨_,_,_,u,e,_⟩:=x;exact⟨u,e⟩
 |dK kvs=>obtain⟨_,_,_,_,u,_,_,e,_⟩:=x;exact⟨u,e⟩
 |dT kvs=>obtain⟨_,_,_,_,u,_,_,e,_⟩:=x;exact⟨u,e⟩
 |set S n=>obtain⟨u,_,_,_,e,_⟩:=x;exact⟨u,e⟩
 |ins C dx fs=>obtain⟨_,_,_,e,_⟩:=x;exact⟨_,e⟩
 |own y=>exact x
 |xd fs=>obtain⟨_,⟨u,_,_,e,_⟩,_⟩:=x;exact⟨u,e⟩
 |rng lo hi=>obtain⟨_,_,_,e⟩:=x;exact⟨_,e⟩
 |frz ob u=>exact⟨_,x.1⟩
 |tbl ps=>exact⟨_,x⟩
 |met f y=>exact⟨_,x⟩
 |ext φ=>exact x.2.1
 |cod q=>obtain⟨o,_,_,e,_⟩:=x;exact⟨o,e⟩
 |ctb pos q=>obtain⟨_,e,_⟩:=x;exact⟨_,e⟩
theorem Inv.aI9{X:Cx}{pins:List (Addr×Obj)}{σ:St}{H:Hp}{s:Shared}{h':Heap}{a:Addr}{o:HO}{t':Nat}(I:Inv X pins σ H s)(k:∀b u,s.heap.get? b=some u->h'.get? b=some u)(hne:∀b u,s.heap.get? b=some u->b≠a)
  (new:bJ X.prog X.w (upd H a o) h' a o):H a=none/\Inv X pins σ (upd H a o) { s with heap:=h',toks:=t' }:=by
 have hn:H a=none:=by
  cases e:H a with
  |none=>rfl
  |some u=>
   obtain⟨ob,z⟩:=(I.hok a u e).obj
   exact absurd rfl (hne a ob z)
 refine⟨hn,I.un ⟨fun b u q _ _ _=>k b u q,fun b u q _ _ _=>⟨u.slots,k b u q⟩,fun b u q n _=>?_,fun b u q _=>⟨u,k b u q⟩,fun b xs q=>?_,fun b u xs q=>?_,fun b ps q=>⟨#[],?_⟩⟩ fun b u e=>?_⟩
 ·rw[aL (hne b u q)];exact n
 ·rw[aL (bC q hn)];exact q
 ·rw[aL (bC q hn)];exact q
 ·rw[aL (bC q hn),q];simp
 ·by_cases hb:b=a
  ·subst hb;rw[aH] at e;cases e;exact new
  ·rw[aL hb] at e
   exact(I.hok b u e).aAt (fun c v _ q=>k c v q) (fun c q=>by rw[aL (bC q hn)];exact q) fun c xs _ q=>by rw[aL (bC q hn)];exact q
section
variable{X:Cx}{tg:Expr}
end
section
variable{σ:St}{H:Hp}{nx:St->Hp->Prop}{rt:VK}{g:TG}{tb:TS}
end
section
variable{X:Cx}
end
section
variable{X:Cx}{o e:Expr}{to:TE}{apos cpos:Pos}
end
section
variable{K:W.Frag}{σ:St}{H:Hp}{Q:VK}
end
end L2
namespace L2.Z
open PySem PySem.Spec PyProof.Rows
section
variable{X:Cx}{K':W.Frag}{tg o i value l:Expr}{to td ty tv tl:TE}{pos pos' apos cpos:Pos}
theorem oH(hu:X.A.units+9 < cLine)(ho:QE X o td)(hi:QE X i ty)(hv:QE X value tv)(hs:swapsWith value (some (.Subscript o i pos')) pos.line X.env=pure false:=by rfl) :
  QS X (.Assign [.Subscript o i pos'] value pos) (aGm td ty tv):=⟨L2.oH (by omega) ho.h hi.h hv.h hs⟩
end
end L2.Z
namespace L2
open PySem PySem.Spec PyProof.Rows
section
variable{σ:St}{H:Hp}{Q:VK}{nx bk ct:St->Hp->Prop}{rt:VK}
theorem aIy{td ty tv:TE}(h:tv σ H fun v H1=>td σ H1 fun x H2=>ty σ H2 fun y H3=>∃a H4,x=.ref a/\yZ H3 a y v H4/\nx σ H4):aGm td ty tv ⟨nx,rt,bk,ct⟩ σ H:=h
end
end L2
namespace L2
open PySem PySem.Spec PyProof.Rows
section
variable{prog:Program}{w:World}{A:Around}{E:Value->Shared->Prop}{s:Shared}{K:W.Frag}{x C:Addr}{ox:Obj}{od:Option Obj}{name:Str}{v:Value}{expr:Bool}
end
section
variable{prog:Program}{w:World}{A:Around}{E:Value->Shared->Prop}{s:Shared}{K:W.Frag}{x C:Addr}{o:Obj}{name:Str}{v:Value}
open PySem.Builtin PySem.Builtin.ObjectAttr in
end
section
variable{prog:Program}{w:World}{A:Around}{E:Value->Shared->Prop}{s:Shared}{K:W.Frag}
variable{nm q:Str}{C N fI:Addr}{bs bm bmB:List Value}{hdct:Bool}{sn:List Str}{sub:List Value}{ab:Bool}{col:Option Bool}{dd:Option Addr}{k0 k1 k2 k3 k5:Option Value}{B newId initId:String}
end
section
variable{M:Model}{A:Around}{E:Value->Shared->Prop}{s:Shared}{base:Heap}{env:Env}{outer:List Env}{L e:Addr}{oe:Obj}{vs:Array Value}{Q:Unit->Shared->Prop}
end
def aLR(C:Addr)(od:Option Addr)(e:Addr):HO:=.ext fun h=>∃o vs,h.get? e=some o/\o.cls=.ref C/\o.dict=od/\o.data=.fields vs
section
variable{X:Cx}{pins:List (Addr×Obj)}{σ:St}{H:Hp}{s:Shared}{h':Heap}{C e:Addr}{od:Option Addr}{oe:Obj}
end
end L2
namespace L2
open PySem PySem.Spec PyProof.Rows
section
variable{X:Cx}{pins:List (Addr×Obj)}{σ:St}{H:Hp}{s:Shared}
end
end L2
namespace L2
open PySem PySem.Spec PyProof.Rows
section
variable{X:Cx}{k:Nat}{f C:Addr}{fd:FuncData}{ps:List Str}{sp:Sp}{x:Str}{p pos:Pos}{e:Expr}{es:List Expr}{t:TA}{te:TE}
end
end L2
namespace L2
open PySem PySem.Spec PyProof.Rows
section
variable{X:Cx}{o e value:Expr}{f:Str}{pos pos':Pos}{ta tv:TE}
end
end L2
namespace L2
open PySem PySem.Spec PyProof.Rows
section
variable{prog:Program}{w:World}{A:Around}{E:Value->Shared->Prop}{s:Shared}{K:W.Frag}{x D:Addr}{ox:Obj}{odo:Option Obj}
end
def wB(H:Hp)(od:Option Addr):Prop:=∀dx,od=some dx->∃fs,H dx=some (.xd fs)
theorem wB.none{H:Hp}:wB H none:=fun _ z=>nomatch z
theorem wB.some{H:Hp}{dx:Addr}{fs:List (Str×V)}(h:H dx=some (.xd fs)):wB H (some dx):=fun _ z=>by cases z;exact⟨fs,h⟩
theorem wB.there{P:Program}{w:World}{H:Hp}{h:Heap}{od:Option Addr}(hok:pM P w H h)(d:wB H od):∀dx,od=Option.some dx->∃o,h.get? dx=Option.some o:=fun dx z=>by
 obtain⟨fs,e⟩:=d dx z
 exact(hok dx _ e).obj
section
variable{X:Cx}{K:W.Frag}{H:Hp}{Q:VK}
end
end L2
namespace L2
open PySem PySem.Spec PyProof.Rows
abbrev TW:=St->Hp->Addr->Prop
structure aKx(X:Cx)(pins:List (Addr×Obj))(T:Addr):Prop where
 up:X.s₀.heap.objs.size<=T
 loc:T≠X.env.locals
 cell:∀x c,X.env.cells.lookup x=some c->c≠T
 pin:∀p∈X.pn++pins,p.1≠T
section
variable{M:Model}{A:Around}{E:Value->Shared->Prop}{s:Shared}{base:Heap}{env:Env}{outer:List Env}{L e:Addr}{oe:Obj}{vs:Array Value}{Q:Unit->Shared->Prop}
variable{T:Addr}{oT:Obj}{ts:Array Value}
end
section
variable{X:Cx}{pins:List (Addr×Obj)}{σ:St}{H:Hp}{s:Shared}{h':Heap}{C e T:Addr}{od:Option Addr}{oe:Obj}
end
structure aLS(X:Cx)(pins:List (Addr×Obj))(H:Hp)(h:Heap)(e:Addr):Prop where
 ex:∃(C:Addr) (od:Option Addr) (oe:Obj) (vs:Array Value) (T:Addr) (oT:Obj) (ts:Array Value),H e=some (aLR C od e)/\h.get? e=some oe/\oe.data=.fields vs/\vs[1]?=some (.ref T)/\T≠e/\aKx X pins T/\H T=none/\h.get? T=some oT/\oT.data=.fields ts/\3 < ts.size
def aKy(X:Cx)(pins:List (Addr×Obj))(W:TW)(ev:Value)(s':Shared):Prop:=∃(e:Addr) (σ:St) (H':Hp),ev=.ref e/\Inv X pins σ H' s'/\aLS X pins H' s'.heap e/\W σ H' e
def Cx.tr(X:Cx)(pins:List (Addr×Obj))(W:TW):Cx:={ X with pn:=X.pn++pins,xe:=aKy X pins W }
def Cx.hnd(X:Cx)(e:Addr):Cx:={ X with A:=X.A.mark (some (.ref e)),calm:=false,xe:=fun _ _=>False }
section
variable{X:Cx}{pins pins':List (Addr×Obj)}{σ:St}{H:Hp}{s:Shared}{W:TW}{e:Addr}
theorem Cx.Ok.tr(ok:X.Ok):(X.tr pins W).Ok:=⟨ok.mod,ok.kind,ok.glob,ok.blt,ok.above,ok.inj,ok.has,ok.cab,ok.hd,ok.frames,ok.stk,ok.exf,ok.bs,ok.bsz,ok.noex,ok.exfs,ok.sL,ok.frf⟩
theorem Cx.Ok.hnd(ok:X.Ok):(X.hnd e).Ok:=⟨ok.mod,ok.kind,ok.glob,ok.blt,ok.above,ok.inj,ok.has,ok.cab,(fun z=>Bool.noConfusion z),ok.frames,ok.stk,ok.exf,ok.bs,ok.bsz,ok.noex,ok.exfs,ok.sL,ok.frf⟩
theorem Inv.tr(I:Inv X pins σ H s):Inv (X.tr pins W) [] σ H s:=⟨I.ok.tr,I.os,I.bare,I.base,I.loc,I.cell,I.free,I.freeC,fun p hp=>I.pin p (by rw[List.append_nil] at hp;exact hp),I.hok,I.len⟩
theorem Inv.hnd(I:Inv X pins σ H s):Inv (X.hnd e) pins σ H s:=⟨I.ok.hnd,I.os,I.bare,I.base,I.loc,I.cell,I.free,I.freeC,I.pin,I.hok,I.len⟩
end
abbrev TH:=Ends->St->Hp->Addr->Prop
section
variable{X:Cx}{x n:Str}{C0:Addr}{i:Nat}{b₀:Stmt}{suite body:List Stmt}{np pos:Pos}{rest:List ExceptHandler}{h₀:ExceptHandler}{hs:List ExceptHandler}{ts:TS}{th:TH}{tb:TW->TS}
end
end L2
namespace L2
open PySem PySem.Spec PyProof.Rows
section
variable{X:Cx}{pn:List (Addr×Obj)}{W:TW}{k:Nat}{f C:Addr}{fd:FuncData}{ps:List Str}{sp:Sp}{x:Str}{p pos:Pos}{e:Expr}{es:List Expr}{t:TA}
end
structure aBd(k:Nat)(A:Around):Prop where
 dp:A.depth+3*k+5 < recursionLimit
 un:A.units+16*k+200 < cLine
theorem dG.h{k:Nat}{A:Around}(r:dG k A):aBd k A:=⟨r.dp,r.un⟩
theorem aBd.mark{k:Nat}{A:Around}(r:aBd k A)(o:Option Value):aBd k (A.mark o):=⟨r.dp,r.un⟩
theorem aBd.calm{k:Nat}{A:Around}(r:aBd k A):dG k { A with handled:=none }:=⟨rfl,r.dp,r.un⟩
section
variable{X:Cx}{k:Nat}{f:Addr}{fd:FuncData}{ps:List Str}{sp:Sp}{x:Str}{p pos:Pos}{e:Expr}{es:List Expr}{t:TA}
end
end L2
namespace L2
open PySem PySem.Spec PyProof.Rows
section
variable{K:W.Frag}{σ:St}{H:Hp}{Q:VK}{nx bk ct:St->Hp->Prop}{rt:VK}
end
end L2
namespace L2.Z
open PySem PySem.Spec PyProof.Rows L2
section
variable{X:Cx}{K':PySem.W.Frag}{pn:List (Addr×Obj)}{W:TW}{k:Nat}{f C C0:Addr}{fd:FuncData}{ps:List Str}{sp:Sp}{x n:Str}{p pos pos' np:Pos}{e o:Expr}{es:List Expr}{t:TA}{te ta:TE}{E:XK}{i:Nat}{b₀:Stmt}{suite body:List Stmt}{rest hs:List ExceptHandler}{h₀:ExceptHandler}{ts:TS}{th:TH}{tb:TW->TS}
end
end L2.Z
namespace L2
open PySem PySem.Spec PyProof.Rows
section
variable{X:Cx}
end
end L2
namespace L2
open PySem PySem.Spec PyProof.Rows
end L2
namespace L2
open PySem PySem.Spec PyProof.Rows
section
variable{X:Cx}{o e:Expr}{to:TE}{t:TA}{apos cpos:Pos}
theorem aEI:∀{ns:List Int}{us:List Value},Vals (ns.map V.int) us->IntsAre us ns
 |[],_,.nil=>.nil
 |n::ns,_,.cons r t=>by
  obtain⟨k,rfl⟩:=(show ∃k,_=Value.int n k from r)
  exact .cons n k (aEI t)
def aBP(K:W.Frag):V->List V->Hp->VK->Prop:=fun x vs H Q=>∃(l:Addr) (ns:List Int) (k:Int),x=.ref l/\vs=[.int k]/\bQ K H l (ns.map V.int)/\Q (.int (ns.count k:Nat)) H
theorem aGT:MtR X "list.count" (aBP X.K):=by
 intro pins s σ H x vs v us Q I rx rv h
 obtain⟨l,ns,k,rfl,rfl,hS,q⟩:=h
 cases rx
 obtain⟨u,rfl,ru⟩:=rv.one
 obtain⟨tk,rfl⟩:=(show ∃tk,u=Value.int k tk from ru)
 obtain⟨its,r,pl,hz⟩:=I.list hS
 exact count_list_ints pl.isList (aEI r) ⟨.int (ns.count k:Nat),H,I.tok _,⟨_,rfl⟩,q⟩
theorem aGU(ho:PE X o to)(ha:PA X [e] t)(hn:noStar e=true:=by rfl)(hbase:attributeBase o "count" X.env (eval o X.env)=eval o X.env:=by rfl)(hline:(apos.endLine == cpos.line)=true:=by rfl) :
  PE X (.Call (.Attribute o "count" apos) [e] [] cpos) (tBM X.K "list" (aBP X.K) to t):=
 aI2 PySem.F.plainAttrs_list PySem.F.slot_list_count PySem.F.type_list_count aGT ho ha hbase (by rw[bM hn];rfl) hline (bM hn) (by rfl)
theorem aCZ{K:W.Frag}{H:Hp}{Q:VK}{l:Addr}{ns:List Int}{k:Int}(h:bQ K H l (ns.map V.int))(q:Q (.int (ns.count k:Nat)) H):aBP K (.ref l) [.int k] H Q:=⟨l,ns,k,rfl,rfl,h,q⟩
end
end L2
namespace L2.Z
open PySem PySem.Spec PyProof.Rows L2
theorem aBe{X:Cx}{K':PySem.W.Frag}{o e:Expr}{to:TE}{t:TA}{apos cpos:Pos}(ho:QE X o to)(ha:QA X [e] t)(hn:noStar e=true:=by rfl)(hbase:attributeBase o "count" X.env (eval o X.env)=eval o X.env:=by rfl)(hline:(apos.endLine == cpos.line)=true:=by rfl)(hK:X.K=K':=by rfl) :
  QE X (.Call (.Attribute o "count" apos) [e] [] cpos) (tBM K' "list" (aBP K') to t):=by subst hK;exact⟨L2.aGU ho.h ha.h hn hbase hline⟩
end L2.Z
namespace L2
open PySem PySem.W PyProof.Rows
section
variable{O:KeyOrd}{key:Nat->O.α}{N:Nat}{cmp:Nat->Nat->(Bool->Shared->Prop)->Shared->Prop}{s:Shared}
def kq(key:Nat->O.α)(p:Array Nat)(i:Nat):O.α:=key (p.getD i 0)
def Up(key:Nat->O.α)(p:Array Nat)(k:Nat):Prop:=∀i j,i<=j->j < k->O.kle (kq key p i) (kq key p j)
def Dn(key:Nat->O.α)(p:Array Nat)(k:Nat):Prop:=∀i j,i<=j->j < k->O.kle (kq key p j) (kq key p i)
def Row(N:Nat)(p:Array Nat):Prop:=p.Perm (List.toArray (List.range N))
theorem aC1{p q:Array Nat}{i j:Nat}(h:p[i]?=q[j]?):kq key p i=kq key q j:=by
 unfold kq
 rw[Array.getD_eq_getD_getElem?,Array.getD_eq_getD_getElem?,h]
theorem aGV{p:Array Nat}{a d:Nat}(ha:a < p.size)(hd:d<=a)(k:Nat):kq key (bubble p a d) k=if k=a - d then kq key p a else if a - d < k/\k<=a then kq key p (k - 1) else kq key p k:=by
 have e:=getElem?_bubble ha d hd k
 split
 ·rename_i h;rw[if_pos h] at e;exact aC1 e
 ·rename_i h
  rw[if_neg h] at e
  split
  ·rename_i g;rw[if_pos g] at e;exact aC1 e
  ·rename_i g;rw[if_neg g] at e;exact aC1 e
theorem aBQ{p:Array Nat}{i j:Nat}(hj:j<=p.size)(k:Nat):kq key (kas_rev p i j) k=if i<=k/\k < j then kq key p (i+j - 1 - k) else kq key p k:=by
 have e:=getElem?_mirror_all (i:=i) hj k
 split
 ·rename_i h;rw[if_pos h] at e;exact aC1 e
 ·rename_i h;rw[if_neg h] at e;exact aC1 e
theorem Row.size{p:Array Nat}(h:Row N p):p.size=N:=by
 have:=h.size_eq
 rw[this]
 simp
theorem Row.lt{p:Array Nat}(h:Row N p)(hN:0 < N)(i:Nat):p.getD i 0 < N:=by
 by_cases hi:i < p.size
 ·have e:p.getD i 0=p[i]:=by simp[Array.getD,hi]
  have m:p[i]∈p.toList:=by simp
  have m2:=(Array.perm_iff_toList_perm.mp h).mem_iff.mp m
  rw[e]
  simpa using m2
 ·have e:p.getD i 0=0:=by simp[Array.getD,hi]
  rw[e];exact hN
theorem Row.rev{p:Array Nat}(h:Row N p)(i j:Nat):Row N (kas_rev p i j):=(mirror_perm p i j _).trans h
theorem Row.bub{p:Array Nat}(h:Row N p)(i j:Nat):Row N (bubble p i j):=(bubble_perm p i j).trans h
theorem Up.more{p:Array Nat}{m:Nat}(h:Up key p m)(e:O.kle (kq key p (m - 1)) (kq key p m)):Up key p (m+1):=fun i j hij hj=>by
 by_cases hm:j < m
 ·exact h i j hij hm
 ·have ej:j=m:=by omega
  subst ej
  by_cases hi:i=j
  ·subst hi;exact KeyOrd.kle_refl _
  ·exact KeyOrd.kle_trans (h i (j - 1) (by omega) (by omega)) e
theorem Dn.more{p:Array Nat}{m:Nat}(h:Dn key p m)(e:O.kle (kq key p m) (kq key p (m - 1))):Dn key p (m+1):=fun i j hij hj=>by
 by_cases hm:j < m
 ·exact h i j hij hm
 ·have ej:j=m:=by omega
  subst ej
  by_cases hi:i=j
  ·subst hi;exact KeyOrd.kle_refl _
  ·exact KeyOrd.kle_trans e (h i (j - 1) (by omega) (by omega))
def Ans(key:Nat->O.α)(N:Nat)(cmp:Nat->Nat->(Bool->Shared->Prop)->Shared->Prop)(s:Shared):Prop:=∀i j (C:Bool->Shared->Prop),i < N->j < N->C (O.blt (key i) (key j)) s->cmp i j C s
theorem Ans.ask{α:Type}(hc:Ans key N cmp s)(hN:0 < N){p:Array Nat}(hp:Row N p){i j:Nat}{k:Bool->KasT α}{Q:α->Shared->Prop}(h1:O.klt (kq key p i) (kq key p j)->(k true).kasWp cmp Q s)(h2:O.kle (kq key p j) (kq key p i)->(k false).kasWp cmp Q s) :
  (KasT.ask (p.getD i 0) (p.getD j 0) k).kasWp cmp Q s:=by
 refine hc _ _ _ (hp.lt hN i) (hp.lt hN j) ?_
 cases e:O.blt (key (p.getD i 0)) (key (p.getD j 0)) with
 |true=>exact h1 e
 |false=>exact h2 e
theorem aDY(hc:Ans key N cmp s)(hN:0 < N){p:Array Nat}(hp:Row N p){Q:Nat->Shared->Prop}:∀{f m:Nat},f=N - m->1<=m->m<=N->Up key p m->
  (∀r,m<=r->r<=N->Up key p r->(r < N->O.klt (kq key p r) (kq key p (r - 1)))->Q r s)->(kas_asc p f m).kasWp cmp Q s
 |0,m,hf,h1,hm,hu,h=>h m (Nat.le_refl _) hm hu (fun z=>by omega)
 |f+1,m,hf,h1,hm,hu,h=>by
  refine hc.ask hN hp (fun z=>?_) (fun z=>?_)
  ·rw[if_pos rfl]
   exact h m (Nat.le_refl _) hm hu fun _=>z
  ·rw[if_neg (by decide)]
   exact aDY hc hN hp (by omega) (by omega) (by omega) (hu.more z) fun r a b c d=>h r (by omega) b c d
def Blk(key:Nat->O.α)(p:Array Nat)(n q:Nat):Prop:=∀i,n - (q+1)<=i->i < n->kq key p i=kq key p (n - 1)
theorem Blk.same{p:Array Nat}{n q:Nat}(h:Blk key p n q)(hz:n<=p.size)(k:Nat):kq key (kas_rev p (n - (q+1)) n) k=kq key p k:=by
 rw[aBQ hz]
 split
 ·rename_i g
  rw[h k g.1 g.2]
  exact h _ (by omega) (by omega)
 ·rfl
theorem yL(hc:Ans key N cmp s)(hN:0 < N){Q:Array Nat×Nat×Nat->Shared->Prop}:∀{f n q:Nat}{p:Array Nat},Row N p->f=N - n->1<=n->n<=N->q+1<=n->Dn key p n->Blk key p n q->
  (∀p' n' q',Row N p'->1<=n'->n'<=N->q'+1<=n'->Dn key p' n'->Blk key p' n' q'->Q (p',n',q') s)->(kas_desc f p n q).kasWp cmp Q s
 |0,n,q,p,hp,hf,h1,hn,hq,hd,hb,h=>h p n q hp h1 hn hq hd hb
 |f+1,n,q,p,hp,hf,h1,hn,hq,hd,hb,h=>by
  have hz:n<=p.size:=by rw[hp.size];exact hn
  refine hc.ask hN hp (fun z=>?_) (fun z=>?_)
  ·rw[if_pos rfl]
   have hd':Dn key p (n+1):=hd.more (KeyOrd.kle_of_klt z)
   split
   ·have e:=hb.same hz
    refine yL hc hN (hp.rev _ _) (by omega) (by omega) (by omega) (by omega) (fun i j a b=>?_) (fun i a b=>?_) h
    ·rw[e,e];exact hd' i j a b
    ·have:i=n:=by omega
     subst this;rfl
   ·refine yL hc hN hp (by omega) (by omega) (by omega) (by omega) hd' (fun i a b=>?_) h
    have:i=n:=by omega
    subst this;rfl
  ·rw[if_neg (by decide)]
   refine hc.ask hN hp (fun y=>?_) (fun y=>?_)
   ·rw[if_pos rfl]
    exact h p n q hp h1 hn hq hd hb
   ·rw[if_neg (by decide)]
    have e:kq key p (n - 1)=kq key p n:=KeyOrd.kle_antisymm z y
    refine yL hc hN hp (by omega) (by omega) (by omega) (by omega) (hd.more y) (fun i a b=>?_) h
    show kq key p i=kq key p n
    by_cases hi:i < n
    ·rw[hb i (by omega) hi,e]
    ·have:i=n:=by omega
     subst this;rfl
theorem aEJ(hc:Ans key N cmp s)(hN:0 < N){n:Nat}{p:Array Nat}{Q:Nat×Array Nat->Shared->Prop}(hp:Row N p)(h1:1<=n)(hn:n<=N)(hd:Dn key p n)(h:∀m p',Row N p'->1<=m->m<=N->Up key p' m->Q (m,p') s):(kas_tail3 n N p).kasWp cmp Q s:=by
 have hz:n<=p.size:=by rw[hp.size];exact hn
 unfold kas_tail3
 rw[KasT.kasWp_bind]
 refine aDY hc hN (hp.rev 0 n) rfl h1 hn (fun i j a b=>?_) fun r a b c _=>h r _ (hp.rev 0 n) (by omega) b c
 rw[aBQ hz,aBQ hz,if_pos ⟨Nat.zero_le _,by omega⟩,if_pos ⟨Nat.zero_le _,b⟩]
 exact hd _ _ (by omega) (by omega)
theorem wO(hc:Ans key N cmp s)(hN:0 < N){n:Nat}{p:Array Nat}{Q:Nat×Array Nat->Shared->Prop}(hp:Row N p)(h1:1<=n)(hn:n < N)(hd:Dn key p n)(hl:O.klt (kq key p n) (kq key p (n - 1)))(h:∀m p',Row N p'->1<=m->m<=N->Up key p' m->Q (m,p') s) :
  (kas_descPart n N p).kasWp cmp Q s:=by
 unfold kas_descPart
 rw[KasT.kasWp_bind]
 refine yL hc hN hp rfl (by omega) (by omega) (by omega) (hd.more (KeyOrd.kle_of_klt hl)) (fun i a b=>by have:i=n:=(by omega);subst this;rfl) fun p' n' q' r1 r2 r3 r4 r5 r6=>?_
 have hz:n'<=p'.size:=by rw[r1.size];exact r3
 split
 ·refine aEJ hc hN (r1.rev _ _) r2 r3 (fun i j a b=>?_) h
  have e:=r6.same hz
  show O.kle (kq key (kas_rev p' (n' - (q'+1)) n') j) (kq key (kas_rev p' (n' - (q'+1)) n') i)
  rw[e,e]
  exact r5 i j a b
 ·exact aEJ hc hN r1 r2 r3 r5 h
theorem aGW(hc:Ans key N cmp s)(hN:0 < N){p:Array Nat}{Q:Nat×Array Nat->Shared->Prop}(hp:Row N p)(h:∀m p',Row N p'->1<=m->m<=N->Up key p' m->Q (m,p') s):(kas_count N p).kasWp cmp Q s:=by
 unfold kas_count
 rw[KasT.kasWp_bind]
 refine aDY hc hN hp rfl (Nat.le_refl _) hN (fun i j a b=>by have:i=j:=(by omega);subst this;exact KeyOrd.kle_refl _) fun n a b c d=>?_
 have hz:n<=p.size:=by rw[hp.size];exact b
 split
 ·exact h n p hp a b c
 ·rename_i ne
  have nN:n < N:=by
   have:n≠N:=fun z=>ne (by simp[z])
   omega
  split
  ·refine hc.ask hN hp (fun z=>?_) (fun z=>?_)
   ·rw[if_pos rfl]
    exact h n p hp a b c
   ·rw[if_neg (by decide)]
    have all:∀i,i < n->kq key p i=kq key p 0:=fun i hi=>KeyOrd.kle_antisymm (KeyOrd.kle_trans (c i (n - 1) (by omega) (by omega)) z) (c 0 i (by omega) hi)
    have e:∀k,kq key (kas_rev p 0 n) k=kq key p k:=fun k=>by
     rw[aBQ hz]
     split
     ·rw[all _ (by omega),all k (by omega)]
     ·rfl
    refine wO hc hN (hp.rev 0 n) a nN (fun i j x y=>?_) ?_ h
    ·rw[e,e,all i (by omega),all j y]
     exact KeyOrd.kle_refl _
    ·rw[e,e]
     exact d nN
  ·have n1:n=1:=by omega
   subst n1
   exact wO hc hN hp (Nat.le_refl _) nN (fun i j x y=>by have:i=j:=(by omega);subst this;exact KeyOrd.kle_refl _) (d nN) h
theorem zB(hc:Ans key N cmp s)(hN:0 < N){p:Array Nat}(hp:Row N p){k:Nat}(hu:Up key p k){Q:Nat->Shared->Prop}:∀{f l r:Nat},l<=r->r<=k->r - l<=f->
  (∀i,i < l->O.kle (kq key p i) (kq key p k))->(∀i,r<=i->i < k->O.klt (kq key p k) (kq key p i))->
  (∀m,m<=k->(∀i,i < m->O.kle (kq key p i) (kq key p k))->(∀i,m<=i->i < k->O.klt (kq key p k) (kq key p i))->Q m s)->(kas_place p k f l r).kasWp cmp Q s
 |0,l,r,hlr,hrk,hf,ha,hb,h=>h l (by omega) ha fun i x y=>hb i (by omega) y
 |f+1,l,r,hlr,hrk,hf,ha,hb,h=>by
  unfold kas_place
  by_cases g:l ≥ r
  ·rw[if_pos g]
   exact h l (by omega) ha fun i x y=>hb i (by omega) y
  ·rw[if_neg g]
   refine hc.ask hN hp (fun z=>?_) (fun z=>?_)
   ·rw[if_pos rfl]
    refine zB hc hN hp hu (by omega) (by omega) (by omega) ha (fun i x y=>?_) h
    exact KeyOrd.klt_of_klt_of_kle z (hu _ i x y)
   ·rw[if_neg (by decide)]
    refine zB hc hN hp hu (by omega) (by omega) (by omega) (fun i x=>?_) hb h
    exact KeyOrd.kle_trans (hu i _ (by omega) (by omega)) z
theorem aGX(hc:Ans key N cmp s)(hN:0 < N){Q:Array Nat->Shared->Prop}:∀{f k:Nat}{p:Array Nat},Row N p->f=N - k->k<=N->Up key p k->(∀p',Row N p'->Up key p' N->Q p' s)->(kas_bin f p k).kasWp cmp Q s
 |0,k,p,hp,hf,hk,hu,h=>h p hp (by have:k=N:=(by omega);subst this;exact hu)
 |f+1,k,p,hp,hf,hk,hu,h=>by
  unfold kas_bin
  rw[KasT.kasWp_bind]
  refine zB hc hN hp hu (Nat.zero_le _) (Nat.le_refl _) (by omega) (fun i x=>by omega) (fun i x y=>by omega) fun m hm ha hb=>?_
  have kz:k < p.size:=by rw[hp.size];omega
  refine aGX hc hN (hp.bub k (k - m)) (by omega) (by omega) (fun i j hij hj=>?_) h
  have em:k - (k - m)=m:=by omega
  rw[aGV kz (by omega),aGV kz (by omega),em]
  by_cases i1:i=m
  ·rw[if_pos i1]
   by_cases j1:j=m
   ·rw[if_pos j1];exact KeyOrd.kle_refl _
   ·rw[if_neg j1,if_pos (by omega)]
    exact KeyOrd.kle_of_klt (hb _ (by omega) (by omega))
  ·rw[if_neg i1]
   by_cases i2:m < i/\i<=k
   ·rw[if_pos i2,if_neg (by omega),if_pos (by omega)]
    exact hu _ _ (by omega) (by omega)
   ·rw[if_neg i2]
    by_cases j1:j=m
    ·rw[if_pos j1]
     exact ha i (by omega)
    ·rw[if_neg j1]
     by_cases j2:m < j/\j<=k
     ·rw[if_pos j2]
      exact hu _ _ (by omega) (by omega)
     ·rw[if_neg j2]
      exact hu _ _ (by omega) (by omega)
theorem aIz(hc:Ans key N cmp s)(hN:0 < N){Q:Array Nat->Shared->Prop}(h:∀p,Row N p->Up key p N->Q p s):(kas_sort N).kasWp cmp Q s:=by
 unfold kas_sort
 rw[KasT.kasWp_bind]
 refine aGW hc hN (Array.Perm.refl _) fun m p hp h1 hm hu=>?_
 split
 ·rename_i z
  have e:max m 1=m:=by omega
  show(kas_bin (N - max m 1) p (max m 1)).kasWp cmp Q s
  rw[e]
  exact aGX hc hN hp rfl hm hu h
 ·rename_i z
  have z':¬m < N:=z
  have e:m=N:=by omega
  subst e
  exact h p hp hu
end
end L2
namespace L2
open PySem PySem.W PyProof.Rows
def nR:List Int->List Int->Bool
 |[],[]=>false
 |[],_::_=>true
 |_::_,[]=>false
 |a::as,b::bs=>if a=b then nR as bs else decide (a < b)
theorem eC(a b:Int)(as bs:List Int):nR (a::as) (b::bs)=if a=b then nR as bs else decide (a < b):=rfl
theorem wQ:∀as:List Int,nR as as=false
 |[]=>rfl
 |a::as=>by rw[eC,if_pos rfl];exact wQ as
theorem zC:∀as bs cs:List Int,nR as bs=true->nR bs cs=true->nR as cs=true
 |[],[],_,h,_=>by cases h
 |[],_::_,[],_,h=>by cases h
 |[],_::_,_::_,_,_=>rfl
 |_::_,[],_,h,_=>by cases h
 |_::_,_::_,[],_,h=>by cases h
 |a::as,b::bs,c::cs,h1,h2=>by
  rw[eC] at h1 h2 ⊢
  by_cases e1:a=b
  ·subst e1
   rw[if_pos rfl] at h1
   by_cases e2:a=c
   ·rw[if_pos e2] at h2 ⊢;exact zC as bs cs h1 h2
   ·rw[if_neg e2] at h2 ⊢;exact h2
  ·rw[if_neg e1] at h1
   have l1:=of_decide_eq_true h1
   by_cases e2:b=c
   ·subst e2
    rw[if_neg e1];exact h1
   ·rw[if_neg e2] at h2
    have l2:=of_decide_eq_true h2
    rw[if_neg (by omega)]
    exact decide_eq_true (by omega)
theorem aC2:∀as bs cs:List Int,nR as cs=true->nR as bs=true\/nR bs cs=true
 |[],[],_,h=>.inr h
 |[],_::_,_,_=>.inl rfl
 |_::_,_,[],h=>by cases h
 |_::_,[],_::_,_=>.inr rfl
 |a::as,b::bs,c::cs,h=>by
  rw[eC] at h
  rw[eC,eC]
  by_cases e1:a=b
  ·subst e1
   rw[if_pos rfl]
   by_cases e2:a=c
   ·rw[if_pos e2] at h ⊢;exact aC2 as bs cs h
   ·rw[if_neg e2] at h ⊢;exact .inr h
  ·rw[if_neg e1]
   by_cases e2:b=c
   ·subst e2
    rw[if_neg e1] at h
    exact .inl h
   ·rw[if_neg e2]
    by_cases l:a < b
    ·exact .inl (decide_eq_true l)
    ·refine .inr (decide_eq_true ?_)
     by_cases e3:a=c
     ·omega
     ·rw[if_neg e3] at h
      have:=of_decide_eq_true h
      omega
theorem zD:∀as bs:List Int,nR as bs=false->nR bs as=false->as=bs
 |[],[],_,_=>rfl
 |[],_::_,h,_=>by cases h
 |_::_,[],_,h=>by cases h
 |a::as,b::bs,h1,h2=>by
  rw[eC] at h1 h2
  by_cases e:a=b
  ·subst e
   rw[if_pos rfl] at h1 h2
   rw[zD as bs h1 h2]
  ·rw[if_neg e] at h1
   rw[if_neg (Ne.symm e)] at h2
   have:=of_decide_eq_false h1
   have:=of_decide_eq_false h2
   omega
def aDZ:KeyOrd:=⟨List Int,nR,wQ,zC,aC2,zD⟩
theorem oN:∀{ns:List Int}{its:List Value},Vals (ns.map V.int) its->IntsAre its ns
 |[],_,r=>by cases r;exact .nil
 |n::ns,_,r=>by
  cases r with
  |cons h t=>
   obtain⟨u,rfl⟩:=h
   exact .cons n u (oN t)
inductive sM (h:Heap):List Value->List (List Int)->Prop
 |nil:sM h [] []
 |cons {x:Addr} {o:Obj} {xs:Array Value} {k:Nat} {t:List Int} {vs:List Value} {ts:List (List Int)} (e:h.get? x=some o) (c:o.cls=.type "tuple") (d:o.data=.seq xs k) (i:IntsAre xs.toList t) (ne:t≠[]) (r:sM h vs ts):sM h (.ref x::vs) (t::ts)
theorem sM.length{h:Heap}{vs:List Value}{ts:List (List Int)}(r:sM h vs ts):vs.length=ts.length:=by
 induction r with
 |nil=>rfl
 |cons _ _ _ _ _ _ ih=>rw[List.length_cons,List.length_cons,ih]
theorem sM.at_{h:Heap}{vs:List Value}{ts:List (List Int)}(r:sM h vs ts):∀{j:Nat},j < vs.length->∃x o xs k,vs.getD j Value.none=.ref x/\h.get? x=some o/\o.data=.seq xs k/\IntsAre xs.toList (ts.getD j []):=by
 induction r with
 |nil=>intro j hj;simp at hj
 |cons e c d i ne r ih=>
  intro j hj
  cases j with
  |zero=>exact⟨_,_,_,_,rfl,e,d,i⟩
  |succ j=>exact ih (by simpa using hj)
theorem sM.keeps{h h':Heap}{vs:List Value}{ts:List (List Int)}(r:sM h vs ts)(k:∀(b:Addr) (o:Obj),o.cls=.type "tuple"->h.get? b=some o->h'.get? b=some o):sM h' vs ts:=by
 induction r with
 |nil=>exact .nil
 |cons e c d i ne _ ih=>exact .cons (k _ _ c e) c d i ne ih
theorem sM.aKz{h:Heap}{vs:List Value}{ts:List (List Int)}(r:sM h vs ts):∃fs:List Value,KatTups h vs fs/\fs.length=vs.length/\∀v∈fs,∃n u,v=Value.int n u:=by
 induction r with
 |nil=>exact⟨[],.nil,rfl,fun v z=>by cases z⟩
 |@cons x o xs k t vs ts e c d i ne _ ih=>
  obtain⟨fs,a1,a2,a3⟩:=ih
  obtain⟨n,u,hx⟩ : ∃n u,xs[0]?=some (Value.int n u):=by
   rw[<-Array.getElem?_toList]
   generalize xs.toList=l at i
   cases i with
   |nil=>exact absurd rfl ne
   |cons n u _=>exact⟨n,u,rfl⟩
  refine⟨.int n u::fs,.cons e c d hx a1,by rw[List.length_cons,List.length_cons,a2],fun v z=>?_⟩
  rcases List.mem_cons.mp z with z|z
  ·exact⟨n,u,z⟩
  ·exact a3 v z
section
variable{prog:Program}{w:World}{A:Around}{E:Value->Shared->Prop}{s:Shared}
theorem aC3{Q:Bool->Shared->Prop}:∀{xs ys:List Value}{as bs:List Int}{i:Nat}{fin:Bool},IntsAre xs as->IntsAre ys bs->fin=decide (as.length < bs.length)->Q (nR as bs) s->KatLex prog w A true fin Q (xs.zip ys) i s
 |_,_,_,_,i,fin,.nil,.nil,hf,h=>kat_nil (by rw[hf];exact h)
 |_,_,_,_,i,fin,.nil,.cons _ _ _,hf,h=>kat_nil (by rw[hf];exact h)
 |_,_,_,_,i,fin,.cons _ _ _,.nil,hf,h=>kat_nil (by rw[hf];exact h)
 |_,_,_,_,i,fin,.cons a t r,.cons b u q,hf,h=>by
  refine kat_cons (wpAny_eqBool_int ?_)
  rw[eC] at h
  by_cases e:a=b
  ·rw[if_pos e] at h
   rw[show(a == b)=true by simp[e]]
   refine kat_yes (aC3 r q ?_ h)
   rw[hf,List.length_cons,List.length_cons]
   congr 1
   apply propext
   constructor <;> intro z <;> omega
  ·rw[if_neg e] at h
   rw[show(a == b)=false by simp[e]]
   refine kat_no ?_
   cases i with
   |zero=>exact oneLt_int h
   |succ i=>
    rw[show(true && (i+1 == 0))=false by simp]
    exact kat_one _ _ (PyProof.Rows.lt_int h)
theorem aGY{vs:List Value}{ts:List (List Int)}(r:sM s.heap vs ts):Ans (O:=aDZ) (fun i=>ts.getD i []) vs.length (kas_ask prog w A (tuples' true) vs) s:=fun i j C hi hj h=>by
 obtain⟨x,ox,xs,n,e1,g1,d1,i1⟩:=r.at_ hi
 obtain⟨y,oy,ys,k,e2,g2,d2,i2⟩:=r.at_ hj
 unfold kas_ask
 rw[e1,e2]
 refine kat_lt g1 d1 g2 d2 (aC3 i1 i2 ?_ h)
 rw[<-i1.length,<-i2.length,Array.length_toList,Array.length_toList]
def nS(vs:List Value)(p:Array Nat):Array Value:=List.toArray (p.toList.map fun i=>vs.getD i Value.none)
theorem aBf{a:Addr}{vs:List Value}{ts:List (List Int)}{n:Nat}{P:PySem.Fin->Shared->Prop}(ho:s.heap.get? a=some (seqObj "list" vs.toArray n))(hT:sM s.heap vs ts)(h64:vs.length < 64)
  (h:∀p,Row vs.length p->Up (O:=aDZ) (fun i=>ts.getD i []) p vs.length->P (.done (.ret .none)) { s with heap:=sortedHeap s.heap a vs (nS vs p) }) :
  wpAny (model prog w) A (Builtin.«list.sort» ⟨[.ref a],[]⟩) P E s:=by
 rw[list_sort_plain]
 have la:=Heap.lt_size ho
 refine wpAny_bind (listItems_at ho rfl (wpAny_bind (listUpdate_at ho rfl ?_)))
 obtain⟨e1,g1⟩ : ∃e,(s.heap.update a (Obj.mapSeq fun _=>#[])).get? a=some (seqObj "list" #[] e):=⟨_,get?_update_seq ho fun _=>#[]⟩
 refine wpAny_bind (seqEpoch_at g1 rfl (wpAny_bind (wpAny_newTuple (wpAny_bind (wpAny_newList (wpAny_holding ?_))))))
 generalize hh6:((s.heap.update a (Obj.mapSeq fun _=>#[])).push (seqObj "tuple" vs.toArray 0)).push (seqObj "list" #[] 0)=h6
 have keep6:∀b o,b≠a->s.heap.get? b=some o->h6.get? b=some o:=fun b o nb e=>by
  have lb:=Heap.lt_size e
  rw[<-hh6,Heap.get?_push_ne _ _ _ (Nat.ne_of_lt (by rw[size_push',Heap.size_update];exact Nat.lt_succ_of_lt lb)),Heap.get?_push_ne _ _ _ (Nat.ne_of_lt (by rw[Heap.size_update];exact lb)),Heap.get?_update_ne _ _ _ _ nb]
  exact e
 have g6:h6.get? a=some (seqObj "list" #[] e1):=by
  rw[<-hh6,Heap.get?_push_ne _ _ _ (Nat.ne_of_lt (by rw[size_push',Heap.size_update];exact Nat.lt_succ_of_lt la)),Heap.get?_push_ne _ _ _ (Nat.ne_of_lt (by rw[Heap.size_update];exact la))]
  exact g1
 have fin:∀p,Row vs.length p->Up (O:=aDZ) (fun i=>ts.getD i []) p vs.length->P (.done (.ret .none)) { s with heap:=h6.update a (Obj.mapSeq fun _=>nS vs p) }:=fun p r u=>by
  rw[<-hh6]
  exact h p r u
 have T6:sM h6 vs ts:=hT.keeps fun b o c e=>keep6 b o (fun z=>by rw[z,ho] at e;cases e;exact absurd c (show ¬Value.type "list" = Value.type "tuple" by decide)) e
 show wpAny (model prog w) A _ P E { s with heap:=h6 }
 have hvz:vs.toArray.size=vs.length:=List.size_toArray
 dsimp only
 by_cases small:vs.toArray.size < 2
 ·rw[if_pos small,if_pos small]
  refine wpAny_bind (wpAny_pure ?_)
  rw[StateT.run_pure]
  refine wpAny_bind (wpAny_pure ?_)
  have ev:((vs.toArray.zip vs.toArray).map fun x=>x.2)=nS vs (List.toArray (List.range vs.length)):=by
   unfold nS
   match vs,hvz,small with
   |[],_,_=>simp
   |[v],_,_=>simp
   |_::_::_,_,z=>simp at z;omega
  refine wpAny_bind (seqEpoch_at g6 rfl (wpAny_bind (listUpdate_at g6 rfl ?_ (hsz2:=?_))))
  ·simp only[bne_self_eq_false,Bool.false_eq_true,if_false]
   refine wpAny_pure ?_
   show P (.done (.ret .none)) { s with heap:=h6.update a (Obj.mapSeq fun _=>(vs.toArray.zip vs.toArray).map fun x=>x.2) }
   rw[ev]
   exact fin _ (Array.Perm.refl _) fun i j x y=>by
    have z:i=j:=by omega
    subst z
    exact KeyOrd.kle_refl _
  ·show((vs.toArray.zip vs.toArray).map fun x=>x.2).size<=_
   rw[ev,nS,List.size_toArray,List.length_map,sizeLine_eq]
   simp
   omega
 ·rw[if_neg small,if_neg small]
  obtain⟨fs,f1,f2,f3⟩:=T6.aKz
  refine wpAny_bind (kat_kind (s:={ s with heap:=h6 }) (T:=.type "int") f1 (by omega) (fun v hv=>?_) rfl ?_)
  ·obtain⟨m,u,rfl⟩:=f3 v hv
   exact Looks.now
  rw[show(Value.type "int" != Value.type "tuple")=true by decide]
  refine wpAny_bind (wpAny_mono (kat_run (ks:=vs) (vs:=vs) (prog:=prog) (w:=w) (A:=A) (E:=E) (s:={ s with heap:=h6 }) (Q:=fun st' s'=>s'={ s with heap:=h6 }/\∃p,p.size=vs.length/\arrOf st'=p.map (kas_item (vs.toArray.zip vs.toArray))/\failedOf st'=none/\Row vs.length p/\Up (O:=aDZ) (fun i=>ts.getD i []) p vs.length)
   (G:=fun p s'=>s'={ s with heap:=h6 }/\Row vs.length p/\Up (O:=aDZ) (fun i=>ts.getD i []) p vs.length) rfl (by omega) h64 (fun p st' s' hz har hf hG=>⟨hG.1,p,hz,har,hf,hG.2.1,hG.2.2⟩) (aIz (aGY (s:={ s with heap:=h6 }) T6) (by omega) fun p r u=>⟨rfl,r,u⟩)) ?_ fun _ _ e=>e)
  rintro ⟨_,st'⟩ s' ⟨rfl,p,hz,har,hf,hr,hu⟩
  dsimp only at har hf ⊢
  have eo:=kat_snds (ks:=vs) (vs:=vs) rfl har
  refine wpAny_bind (seqEpoch_at g6 rfl (wpAny_bind (listUpdate_at g6 rfl ?_ (hsz2:=?_))))
  ·rw[hf]
   simp only[bne_self_eq_false,Bool.false_eq_true,if_false]
   refine wpAny_pure ?_
   show P (.done (.ret .none)) { s with heap:=h6.update a (Obj.mapSeq fun _=>(arrOf st').map (·.2)) }
   rw[eo]
   exact fin p hr hu
  ·show((arrOf st').map (·.2)).size<=_
   rw[eo,List.size_toArray,List.length_map,Array.length_toList,hz,sizeLine_eq]
   omega
end
end L2
namespace L2
open PySem PySem.Spec PySem.W PyProof.Rows
theorem range_getD{α:Type}(d:α)(l:List α):(List.range l.length).map (fun i=>l.getD i d)=l:=by
 apply List.ext_getElem
 ·simp
 ·intro i h1 h2
  simp[List.getD_eq_getElem?_getD,List.getElem?_eq_getElem h2]
theorem aEK:∀{qs:List Addr}{its:List Value},Vals (qs.map V.ref) its->its=qs.map Value.ref
 |[],_,r=>by cases r;rfl
 |q::qs,_,r=>by
  cases r with
  |cons h t=>
   cases h
   rw[aEK t]
   rfl
theorem tO:∀(qs:List Addr),Vals (qs.map V.ref) (qs.map Value.ref)
 |[]=>.nil
 |q::qs=>.cons rfl (tO qs)
structure cF(H:Hp)(qs:List Addr)(ts:List (List Int)):Prop where
 len:qs.length=ts.length
 at_:∀(j:Nat) q t,qs[j]?=some q->ts[j]?=some t->H q=some (.tup (t.map V.int))/\t≠[]
theorem cF.tail{H:Hp}{q:Addr}{t:List Int}{qs:List Addr}{ts:List (List Int)}(h:cF H (q::qs) (t::ts)):cF H qs ts:=⟨by have:=h.len;simpa using this,fun j a b x y=>h.at_ (j+1) a b x y⟩
theorem cF.pN{X:Cx}{pins:List (Addr×Obj)}{σ:St}{H:Hp}{s:Shared}(I:Inv X pins σ H s):∀{qs:List Addr}{ts:List (List Int)},cF H qs ts->sM s.heap (qs.map Value.ref) ts
 |[],[],_=>.nil
 |[],_::_,h=>by have:=h.len;simp at this
 |_::_,[],h=>by have:=h.len;simp at this
 |q::qs,t::ts,h=>by
  obtain⟨e,ne⟩:=h.at_ 0 q t rfl rfl
  obtain⟨_,its,r,o,g1,g2,n,g3⟩:=(show bJ X.prog X.w H s.heap q (.tup (t.map V.int)) from I.hok q _ e)
  exact .cons g1 g2 g3 (by simpa using oN r) ne (cF.pN I h.tail)
section
variable{X:Cx}
end
end L2
namespace L2
open PySem PySem.Spec PyProof.Rows
section
variable{prog:Program}{w:World}{A:Around}{E:Value->Shared->Prop}{s:Shared}{es:Array DictEntry}{d it vw:Addr}{i ep:Nat}
def Raw(h:Heap)(d:Addr)(es:Array DictEntry)(ep:Nat):Prop:=∃o,h.get? d=some o/\o.cls=.type "dict"/\o.data=.dict es ep
theorem Raw.ty(m:Raw s.heap d es ep):s.TypeIs (.ref d) "dict":=let ⟨o,a,b,_⟩:=m;⟨o,a,b⟩
theorem Raw.keep{h h':Heap}(m:Raw h d es ep)(k:∀o,h.get? d=some o->h'.get? d=some o):Raw h' d es ep:=let ⟨o,a,r⟩:=m;⟨o,k o a,r⟩
theorem aFE(d:Addr)(lo:(d == sysModules)=false):MeetsIn prog w (Builtin.«dict.items» ⟨[.ref d],[]⟩) (fun _ R s=>s.TypeIs (.ref d) "dict"/\
  R (.ok (.ret (.ref s.heap.objs.size))) { s with heap:=s.heap.push { cls:=.type "dict_items",data:=.fields #[.ref d] } }):=
 .of_wp fun A R s ⟨ty,h⟩=>by
  unfold Builtin.«dict.items»;with_reducible refine wpAny_bind ?_;unfold Builtin.Dict.noArgs
  refine wpAny_bind (wpAny_notOrdered_dict ty (show wpAny _ _ (pure d) _ _ s from wpAny_pure ?_))
  show wpAny _ _ (Builtin.Dict.showsAll d >>= _) _ _ s;unfold Builtin.Dict.showsAll
  rw[if_neg (fun z=>Bool.false_ne_true (lo.symm.trans z))];refine wpAny_bind (wpAny_pure ?_)
  exact wpAny_bind (wpAny_newObj_type (wpAny_pure (show _ from⟨_,rfl,h⟩)))
theorem aAx{Q:Value->Shared->Prop}(hv:s.heap.IsItemsView vw d)(hm:Raw s.heap d es ep)
  (hQ:Q (.ref s.heap.objs.size) { s with heap:=s.heap.push { cls:=.type "dict_itemiterator",data:=.fields #[.none,.bool false,.ref d,.int 0 0,.int es.size 0,.int ep 0,.none,.none] } }) :
  wpAny (model prog w) A (pyIter (.ref vw)) Q E s:=by
 obtain⟨ov,a1,a2,a3⟩:=id hv;obtain⟨o,b1,b2,b3⟩:=id hm
 refine wpAny_pyIter_slot hv.typeIs F.slot_dict_items_iter (wpAny_call_entry F.slot_dict_items_iter hv.typeIs F.entry_dict_items_iter (show _ from ?_) (F.args_dict_items_iter_1 _))
 unfold Builtin.«dict_items.__iter__»;refine wpAny_bind (wpAny_pure ?_);with_reducible refine wpAny_bind ?_
 unfold Builtin.Dict_items.dictOf;refine wpAny_bind (wpAny_field a1 a3 (x:=.ref d) rfl (wpAny_pure ?_));with_reducible refine wpAny_bind ?_
 unfold Builtin.Dict_items.newIterator;refine wpAny_bind (wpAny_dictEntries b1 b3 (wpAny_bind (wpAny_dictEpoch b1 b3 ?_)))
 have own:Builtin.Dict_items.ownsTuple "dict_itemiterator" = true:=rfl
 simp only[own,if_true]
 refine wpAny_newObj_type (wpAny_pure ⟨_,rfl,"dict_itemiterator",_,⟨_,Heap.get?_push_size _ rfl,rfl⟩,F.slot_dict_itemiterator_next.lookup,(show _ from ?_)⟩)
  (by simp only[sizeOk,Builtin.Dict_items.ownedTupleFields,List.size_toArray,List.length_append,List.length_cons,List.length_nil,sizeLine_eq];decide)
 simpa [Builtin.Dict_items.ownedTupleFields,rawInt] using hQ
theorem aBR{Q:Value->Shared->Prop}(lo:(d == sysModules)=false)(hm:Raw s.heap d es ep)
  (hQ:Q (.ref s.heap.objs.size) { s with heap:=s.heap.push { cls:=.type "dict_keyiterator",data:=.fields #[.ref d,.int 0 0,.int es.size 0,.int ep 0] } }) :
  wpAny (model prog w) A (pyIter (.ref d)) Q E s:=by
 obtain⟨o,b1,b2,b3⟩:=id hm
 refine wpAny_pyIter_slot hm.ty F.slot_dict_iter (wpAny_call_entry F.slot_dict_iter hm.ty F.entry_dict_iter (show _ from ?_) (F.args_dict_iter_1 _))
 unfold Builtin.«dict.__iter__»;with_reducible refine wpAny_bind ?_;unfold Builtin.Dict.dictSlotNone
 refine wpAny_bind (wpAny_notOrdered_dict hm.ty (show wpAny _ _ (pure (Value.ref d)) _ _ s from wpAny_pure ?_))
 show wpAny _ _ (Builtin.Dict.showsAll d >>= _) _ _ s;unfold Builtin.Dict.showsAll
 rw[if_neg (fun z=>Bool.false_ne_true (lo.symm.trans z))];refine wpAny_bind (wpAny_pure ?_)
 refine wpAny_bind (wpAny_dictEntries b1 b3 (wpAny_bind (wpAny_dictEpoch b1 b3 ?_)))
 refine wpAny_bind (wpAny_newObj_type (wpAny_pure ⟨_,rfl,"dict_keyiterator",_,⟨_,Heap.get?_push_size _ rfl,rfl⟩,F.slot_dict_keyiterator_next.lookup,(show _ from ?_)⟩))
 simpa [rawInt] using hQ
def It4(T:String)(h:Heap)(it d:Addr)(i n ep:Nat):Prop:=∃o,h.get? it=some o/\o.cls=.type T/\o.data=.fields #[.ref d,.int i 0,.int n 0,.int ep 0]
theorem It4.ty{T:String}{n:Nat}(x:It4 T s.heap it d i n ep):s.TypeIs (.ref it) T:=let ⟨o,a,b,_⟩:=x;⟨o,a,b⟩
theorem It4.keep{T:String}{n:Nat}{h h':Heap}(m:It4 T h it d i n ep)(k:∀o,h.get? it=some o->h'.get? it=some o):It4 T h' it d i n ep:=let ⟨o,a,r⟩:=m;⟨o,k o a,r⟩
theorem It4.turn{T:String}{n:Nat}{h:Heap}{o:Obj}(a:h.get? it=some o)(b:o.cls=.type T)(c:o.data=.fields #[.ref d,.int i 0,.int n 0,.int ep 0]) :
  It4 T (h.update it (Obj.mapFields (·.setIfInBounds 1 (rawInt ((i:Int)+1))))) it d (i+1) n ep:=
 ⟨_,Heap.get?_update_self _ a (Obj.isFreed_of_fields (Obj.data_mapFields c _)),(Obj.cls_mapFields ..).trans b,by rw[Obj.data_mapFields c];simp[rawInt]⟩
theorem aC4{Q:Option Value->Shared->Prop}{e:DictEntry}(hit:It4 "dict_keyiterator" s.heap it d i es.size ep)(hm:Raw s.heap d es ep)(hx:es[i]?=some e)
  (hQ:∀h',It4 "dict_keyiterator" h' it d (i+1) es.size ep->Heap.SameBut it s.heap h'->Q (some e.key) { s with heap:=h' }):wpAny (model prog w) A (pyNext (.ref it)) Q E s:=by
 obtain⟨o,a1,a2,a3⟩:=id hit;obtain⟨od,b1,b2,b3⟩:=id hm;have ty:=hit.ty
 unfold pyNext;refine wpAny_bind (wpAny_attempt (wpAny_callSpecial?_slot (name:=Str.ofString "__next__") ty F.slot_dict_keyiterator_next
  (wpAny_call_entry F.slot_dict_keyiterator_next ty F.entry_dict_keyiterator_next (show _ from ?_) (F.args_dict_keyiterator_next_1 _))))
 refine wpAny_bind (wpAny_pure ?_);refine wpAny_bind (show _ from ?_);refine wpAny_bind (show _ from ?_)
 first|refine wpAny_bind (wpAny_typeNameOfWhole_keyiter ty (show _ from wpAny_pure ?_))|refine wpAny_bind (wpAny_typeNameOf_keyiter ty (show _ from wpAny_pure ?_))
 refine wpAny_bind (wpAny_fieldsOf a1 a3 (show _ from ?_));have own:Builtin.Dict_items.ownsTuple "dict_keyiterator" = false:=rfl
 simp only[own,if_false,Bool.false_eq_true];show wpAny _ _ (if (Value.ref d == Value.none)=true then _ else _) _ _ s
 rw[if_neg (show ¬((Value.ref d == Value.none)=true) from fun z=>nomatch z)];refine wpAny_bind (wpAny_pure ?_)
 refine wpAny_bind (wpAny_dictEntries b1 b3 (show _ from ?_));rw[if_neg (show _ from by simp)];refine wpAny_bind (wpAny_pure ?_)
 refine wpAny_bind (wpAny_dictEpoch b1 b3 (show _ from ?_));rw[if_neg (show _ from by simp)];refine wpAny_pure (show _ from ?_)
 have il:i < es.size:=(Array.getElem?_eq_some_iff.mp hx).1
 have ee:es[i]=e:=(Array.getElem?_eq_some_iff.mp hx).2
 simp only[show ¬((i:Int) < 0) by omega,if_false,Int.toNat_natCast,hx]
 refine wpAny_bind (show _ from ?_)
 first|refine wpAny_bind (wpAny_typeNameOfWhole_keyiter ty (show _ from wpAny_pure ?_))|refine wpAny_bind (wpAny_typeNameOf_keyiter ty (show _ from wpAny_pure ?_))
 refine wpAny_bind (wpAny_isOneOf_keyiter ty (show _ from ?_));show wpAny _ _ (setField (.ref it) 1 (rawInt ((i:Int)+1)) >>= _) _ _ s
 refine wpAny_bind (wpAny_setField a1 a3 (show _ by simp) (show _ from ?_));have t2:=It4.turn a1 a2 a3
 refine wpAny_bind (wpAny_holding (show _ from ?_))
 refine wpAny_bind (wpAny_isOneOf_keyiter (s:={ s with heap:=s.heap.update it (Obj.mapFields (·.setIfInBounds 1 (rawInt ((i:Int)+1)))) }) t2.ty (show _ from ?_))
 exact wpAny_pure (wpAny_pure ⟨_,rfl,wpAny_pure (hQ _ t2 (Heap.SameBut.update ..))⟩)
theorem aD0{Q:Option Value->Shared->Prop}(hh:A.handled=none)(hit:It4 "dict_keyiterator" s.heap it d i es.size ep)(hm:Raw s.heap d es ep)(hx:es.size<=i)
  (hQ:∀h',Heap.ExtBut it s.heap h'->Q none { s with heap:=h' }):wpAny (model prog w) A (pyNext (.ref it)) Q E s:=by
 obtain⟨o,a1,a2,a3⟩:=id hit;obtain⟨od,b1,b2,b3⟩:=id hm;have ty:=hit.ty
 unfold pyNext;refine wpAny_bind (wpAny_attempt (wpAny_callSpecial?_slot (name:=Str.ofString "__next__") ty F.slot_dict_keyiterator_next
  (wpAny_call_entry F.slot_dict_keyiterator_next ty F.entry_dict_keyiterator_next (show _ from ?_) (F.args_dict_keyiterator_next_1 _))))
 refine wpAny_bind (wpAny_pure ?_);refine wpAny_bind (show _ from ?_);refine wpAny_bind (show _ from ?_)
 first|refine wpAny_bind (wpAny_typeNameOfWhole_keyiter ty (show _ from wpAny_pure ?_))|refine wpAny_bind (wpAny_typeNameOf_keyiter ty (show _ from wpAny_pure ?_))
 refine wpAny_bind (wpAny_fieldsOf a1 a3 (show _ from ?_));have own:Builtin.Dict_items.ownsTuple "dict_keyiterator" = false:=rfl
 simp only[own,if_false,Bool.false_eq_true];show wpAny _ _ (if (Value.ref d == Value.none)=true then _ else _) _ _ s
 rw[if_neg (show ¬((Value.ref d == Value.none)=true) from fun z=>nomatch z)];refine wpAny_bind (wpAny_pure ?_)
 refine wpAny_bind (wpAny_dictEntries b1 b3 (show _ from ?_));rw[if_neg (show _ from by simp)];refine wpAny_bind (wpAny_pure ?_)
 refine wpAny_bind (wpAny_dictEpoch b1 b3 (show _ from ?_));rw[if_neg (show _ from by simp)];refine wpAny_pure (show _ from ?_)
 simp only[show ¬((i:Int) < 0) by omega,if_false,Int.toNat_natCast,Array.getElem?_eq_none hx]
 refine wpAny_bind (show _ from ?_)
 first|refine wpAny_bind (wpAny_typeNameOfWhole_keyiter ty (show _ from wpAny_pure ?_))|refine wpAny_bind (wpAny_typeNameOf_keyiter ty (show _ from wpAny_pure ?_))
 show wpAny _ _ (setField (.ref it) 0 Value.none >>= _) _ _ s
 refine wpAny_bind (wpAny_setField a1 a3 (show _ by simp) (show _ from ?_));show wpAny _ _ (newExc (.type "StopIteration") [] >>= _) _ _ _
 refine wpAny_bind (show _ from ?_);simp only[newExc,newTuple];refine wpAny_bind (wpAny_newObj_type (show _ from ?_) (by size_fits))
 refine wpAny_bind (m:=firstArgMember _ _) (wpAny_of_eq (a:=Value.none) (show _ by first|rfl|(simp only[firstArgMember];rfl)) (show _ from ?_))
 refine wpAny_newObj_type (show _ from ?_) (by size_fits);simp only[raiseNew]
 refine wpAny_bind (wpAny_handled (show _ from ?_));rw[show A.in1.handled=none from hh];refine wpAny_bind (wpAny_pure (wpAny_throw ?_))
 refine wpAny_bind (wpAny_isInstance (T:="StopIteration") (b:=true) ⟨_,Heap.get?_push_size _ rfl,rfl⟩ isSubtype_stop (show _ from ?_))
 exact wpAny_pure (hQ _ (show _ from((Heap.SameBut.update ..).extBut.push _).push _))
theorem aBS{ok ov:Value}{Q:Option Value->Shared->Prop}{e:DictEntry}(hit:IsItemIter s.heap it d i es.size ep ok ov)(hm:Raw s.heap d es ep)(hx:es[i]?=some e)
  (hQ:∀h',IsItemIterOut h' it d (i+1) es.size ep e.key e.val s.heap.objs.size->h'.get? s.heap.objs.size=some { cls:=.type "tuple",data:=.seq #[e.key,e.val] }->
   h'.objs.size=s.heap.objs.size+1->(∀b o,b≠it->s.heap.get? b=some o->h'.get? b=some o)->Q (some (.ref s.heap.objs.size)) { s with heap:=h' }) :
  wpAny (model prog w) A (pyNext (.ref it)) Q E s:=by
 obtain⟨hp,g,dr,tk,os⟩:=s;obtain⟨od,b1,b2,b3⟩:=id hm
 have ty:Shared.TypeIs ⟨hp,g,dr,tk,os⟩ (.ref it) "dict_itemiterator":=⟨_,hit,rfl⟩
 unfold pyNext;refine wpAny_bind (wpAny_attempt (wpAny_callSpecial?_slot (name:=Str.ofString "__next__") ty F.slot_dict_itemiterator_next
  (wpAny_call_entry F.slot_dict_itemiterator_next ty F.entry_dict_itemiterator_next (show _ from ?_) (F.args_dict_itemiterator_next_1 _))))
 refine wpAny_bind (wpAny_pure ?_);refine wpAny_bind (show _ from ?_);refine wpAny_bind (show _ from ?_)
 first|refine wpAny_bind (wpAny_typeNameOfWhole_itemiter ty (show _ from wpAny_pure ?_))|refine wpAny_bind (wpAny_typeNameOf_itemiter ty (show _ from wpAny_pure ?_))
 refine wpAny_bind (wpAny_fieldsOf hit rfl (show _ from ?_));have own:Builtin.Dict_items.ownsTuple "dict_itemiterator" = true:=rfl
 simp only[own,if_true];show wpAny _ _ (if (Value.ref d == Value.none)=true then _ else _) _ _ _
 rw[if_neg (show ¬((Value.ref d == Value.none)=true) from fun z=>nomatch z)];refine wpAny_bind (wpAny_pure ?_)
 refine wpAny_bind (wpAny_dictEntries b1 b3 (show _ from ?_));rw[if_neg (show _ from by simp)];refine wpAny_bind (wpAny_pure ?_)
 refine wpAny_bind (wpAny_dictEpoch b1 b3 (show _ from ?_));rw[if_neg (show _ from by simp)];refine wpAny_pure (show _ from ?_)
 simp only[show ¬((i:Int) < 0) by omega,if_false,Int.toNat_natCast,hx]
 refine wpAny_bind (show _ from ?_)
 first|refine wpAny_bind (wpAny_typeNameOfWhole_itemiter ty (show _ from wpAny_pure ?_))|refine wpAny_bind (wpAny_typeNameOf_itemiter ty (show _ from wpAny_pure ?_))
 refine wpAny_bind (wpAny_isOneOf_itemiter ty (show _ from ?_));show wpAny _ _ (setField (.ref it) 3 (rawInt ((i:Int)+1)) >>= _) _ _ _
 refine wpAny_bind (wpAny_setField_rec hit (show _ by simp) fun j1 c1 d1=>(show _ from ?_))
 replace d1:Heap.SameBut it hp j1:=d1
 replace c1:IsItemIter j1 it d (i+1) es.size ep ok ov:=by
  unfold IsItemIter;rw[show((i+1:Nat):Int)=(i:Int)+1 by omega];simpa [rawInt] using c1
 have ty1:Shared.TypeIs ⟨j1,g,dr,tk,os⟩ (.ref it) "dict_itemiterator":=⟨_,c1,rfl⟩
 refine wpAny_bind (wpAny_holding (show _ from ?_));refine wpAny_bind (wpAny_isOneOf_itemiter ty1 (wpAny_bind (wpAny_isOneOf_itemiter ty1 (show _ from ?_))))
 show wpAny _ _ (Builtin.Dict_items.pairFromOwner (.ref it) 6 e.key e.val) _ _ ⟨j1,g,dr,tk,os⟩;unfold Builtin.Dict_items.pairFromOwner
 refine wpAny_bind (wpAny_newTuple (show _ from ?_))
 have c2:IsItemIter (j1.push { cls:=.type "tuple",data:=.seq #[e.key,e.val] }) it d (i+1) es.size ep ok ov:=Heap.get?_push_of_some _ c1
 generalize hj2:j1.push { cls:=.type "tuple",data:=.seq #[e.key,e.val] } = j2 at c2
 have z1:j1.objs.size=hp.objs.size:=d1.1
 have il:it < hp.objs.size:=Heap.lt_size hit
 have t2:j2.get? hp.objs.size=some { cls:=.type "tuple",data:=.seq #[e.key,e.val] }:=by rw[<-hj2,<-z1];exact Heap.get?_push_size _ rfl
 have z2:j2.objs.size=hp.objs.size+1:=by rw[<-hj2,Heap.size_push,z1]
 have k2:∀b o,b≠it->hp.get? b=some o->j2.get? b=some o:=fun b o hb q=>by rw[<-hj2];exact Heap.get?_push_of_some _ (d1.extBut b o hb q)
 show wpAny _ _ (Builtin.Dict_items.ownedTupleIsFree (.ref it) >>= _) _ _ ⟨j2,g,dr,tk,os⟩;rw[z1];clear hj2 c1 d1 ty1 z1 j1
 refine wpAny_bind (show _ from ?_);unfold Builtin.Dict_items.ownedTupleIsFree;refine wpAny_bind (wpAny_field c2 rfl (x:=.none) rfl (show _ from wpAny_pure ?_))
 simp only[if_true];refine wpAny_bind (wpAny_field c2 rfl (x:=ok) rfl (wpAny_bind (wpAny_field c2 rfl (x:=ov) rfl (show _ from ?_))))
 refine wpAny_bind (wpAny_setField_rec c2 (show _ by simp) fun j3 c3 d3=>(show _ from ?_))
 replace d3:Heap.SameBut it j2 j3:=d3;replace c3:IsItemIter j3 it d (i+1) es.size ep e.key ov:=c3
 refine wpAny_bind (wpAny_setField_rec c3 (show _ by simp) fun j4 c4 d4=>(show _ from ?_))
 replace d4:Heap.SameBut it j3 j4:=d4;replace c4:IsItemIter j4 it d (i+1) es.size ep e.key e.val:=c4
 refine wpAny_bind (wpAny_setField_rec c4 (show _ by simp) fun j5 c5 d5=>(show _ from ?_))
 replace d5:Heap.SameBut it j4 j5:=d5;replace c5:IsItemIterOut j5 it d (i+1) es.size ep e.key e.val hp.objs.size:=c5
 refine wpAny_bind (wpAny_setField_rec c5 (show _ by simp) fun j6 c6 d6=>(show _ from ?_))
 replace d6:Heap.SameBut it j5 j6:=d6;replace c6:IsItemIterOut j6 it d (i+1) es.size ep e.key e.val hp.objs.size:=c6
 have up:∀b o,b≠it->j2.get? b=some o->j6.get? b=some o:=fun b o hb q=>d6.extBut b o hb (d5.extBut b o hb (d4.extBut b o hb (d3.extBut b o hb q)))
 refine wpAny_bind (wpAny_letGo (wpAny_pure (wpAny_pure ⟨_,rfl,wpAny_pure (hQ j6 c6 (up _ _ (Nat.ne_of_gt il) t2) ?_ fun b o hb q=>up b o hb (k2 b o hb q))⟩)))
 show j6.objs.size=_;rw[d6.1,d5.1,d4.1,d3.1,z2]
theorem aC5{ok ov:Value}{Q:Option Value->Shared->Prop}(hh:A.handled=none)(hit:IsItemIter s.heap it d i es.size ep ok ov)(hm:Raw s.heap d es ep)(hx:es.size<=i)
  (hQ:∀h',Heap.ExtBut it s.heap h'->Q none { s with heap:=h' }):wpAny (model prog w) A (pyNext (.ref it)) Q E s:=by
 obtain⟨od,b1,b2,b3⟩:=id hm;have ty:s.TypeIs (.ref it) "dict_itemiterator":=⟨_,hit,rfl⟩
 unfold pyNext;refine wpAny_bind (wpAny_attempt (wpAny_callSpecial?_slot (name:=Str.ofString "__next__") ty F.slot_dict_itemiterator_next
  (wpAny_call_entry F.slot_dict_itemiterator_next ty F.entry_dict_itemiterator_next (show _ from ?_) (F.args_dict_itemiterator_next_1 _))))
 refine wpAny_bind (wpAny_pure ?_);refine wpAny_bind (show _ from ?_);refine wpAny_bind (show _ from ?_)
 first|refine wpAny_bind (wpAny_typeNameOfWhole_itemiter ty (show _ from wpAny_pure ?_))|refine wpAny_bind (wpAny_typeNameOf_itemiter ty (show _ from wpAny_pure ?_))
 refine wpAny_bind (wpAny_fieldsOf hit rfl (show _ from ?_));have own:Builtin.Dict_items.ownsTuple "dict_itemiterator" = true:=rfl
 simp only[own,if_true];show wpAny _ _ (if (Value.ref d == Value.none)=true then _ else _) _ _ _
 rw[if_neg (show ¬((Value.ref d == Value.none)=true) from fun z=>nomatch z)];refine wpAny_bind (wpAny_pure ?_)
 refine wpAny_bind (wpAny_dictEntries b1 b3 (show _ from ?_));rw[if_neg (show _ from by simp)];refine wpAny_bind (wpAny_pure ?_)
 refine wpAny_bind (wpAny_dictEpoch b1 b3 (show _ from ?_));rw[if_neg (show _ from by simp)];refine wpAny_pure (show _ from ?_)
 simp only[show ¬((i:Int) < 0) by omega,if_false,Int.toNat_natCast,Array.getElem?_eq_none hx]
 refine wpAny_bind (show _ from ?_)
 first|refine wpAny_bind (wpAny_typeNameOfWhole_itemiter ty (show _ from wpAny_pure ?_))|refine wpAny_bind (wpAny_typeNameOf_itemiter ty (show _ from wpAny_pure ?_))
 show wpAny _ _ (setField (.ref it) 2 Value.none >>= _) _ _ s
 refine wpAny_bind (wpAny_setField hit rfl (show _ by simp) (show _ from ?_));show wpAny _ _ (newExc (.type "StopIteration") [] >>= _) _ _ _
 refine wpAny_bind (show _ from ?_);simp only[newExc,newTuple];refine wpAny_bind (wpAny_newObj_type (show _ from ?_) (by size_fits))
 refine wpAny_bind (m:=firstArgMember _ _) (wpAny_of_eq (a:=Value.none) (show _ by first|rfl|(simp only[firstArgMember];rfl)) (show _ from ?_))
 refine wpAny_newObj_type (show _ from ?_) (by size_fits);simp only[raiseNew]
 refine wpAny_bind (wpAny_handled (show _ from ?_));rw[show A.in1.handled=none from hh];refine wpAny_bind (wpAny_pure (wpAny_throw ?_))
 refine wpAny_bind (wpAny_isInstance (T:="StopIteration") (b:=true) ⟨_,Heap.get?_push_size _ rfl,rfl⟩ isSubtype_stop (show _ from ?_))
 exact wpAny_pure (hQ _ (show _ from((Heap.SameBut.update ..).extBut.push _).push _))
end
end L2
namespace L2
open PySem PySem.Spec PyProof.Rows
section
variable{X:Cx}{pins:List (Addr×Obj)}{σ:St}{H:Hp}{s:Shared}
theorem Inv.aIA{d:Addr}{kvs:List (List Key×V)}{o:Obj}(I:Inv X pins σ H s)(e:H d=some (.dT kvs))(ho:s.heap.get? d=some o):Inv X pins σ (upd H d (.frz o (.dT kvs))) s:=by
 have nd:∀b u,H b=some u->u≠.dT kvs->b≠d:=fun b u q n z=>by rw[z,e] at q;exact n (Option.some.inj q).symm
 refine I.step (h':=s.heap) (g':=s.gens) (d':=s.drawn) (t':=s.toks) (ch:=[]) (fun _ z=>nomatch z) (fun b u _ _ _ q _=>q) (fun b u _ _ _ q _=>⟨u.slots,q⟩) (fun b u _ _ n=>?_)
  (fun b u _ q=>⟨u,q⟩) (fun b xs q=>?_) (fun b u v q=>?_) (fun b ps q=>⟨#[],?_⟩) (fun m hm=>hm) (fun b u q=>?_) I.bare
 ·rw[aL (fun z=>by rw[z,e] at n;cases n)];exact n
 ·rw[aL (nd _ _ q (fun z=>by cases z))];exact q
 ·rw[aL (nd _ _ q (fun z=>by cases z))];exact q
 ·rw[aL (nd _ _ q (fun z=>by cases z)),q];simp
 ·have st:∀c v,H c=some v->bJ X.prog X.w H s.heap c v->bJ X.prog X.w (upd H d (.frz o (.dT kvs))) s.heap c v:=fun c v _ z=>
   z.aAt (fun _ _ _ z=>z) (fun c z=>by rw[aL (nd _ _ z (fun y=>by cases y))];exact z) fun c xs t z=>by rw[aL (nd _ _ z (fun y=>by subst y;exact t))];exact z
  by_cases hb:b=d
  ·subst hb;rw[aH] at q;cases q;exact⟨ho,st b _ e (I.hok b _ e)⟩
  ·rw[aL hb] at q
   exact st b u q (I.hok b u q)
end
theorem aBT{H:Hp}:∀{kvs:List (List Key×V)}{xs:List (List Key×Addr×Value)},KT H kvs xs->∀{i:Nat}{p:List Key×V},kvs[i]?=some p->∃q,xs[i]?=some q/\H q.2.1=some (.tup (p.1.map kV))/\RelV p.2 q.2.2
 |[],_,r,i,p,h=>by simp at h
 |a::as,_,r,i,p,h=>by
  cases r with
  |cons x t=>
   cases i with
   |zero=>cases h;exact⟨_,rfl,x.2⟩
   |succ i=>exact aBT t (i:=i) h
theorem aD1{P:Program}{w:World}{H:Hp}{h:Heap}{d:Addr}{kvs:List (List Key×V)}(x:bJ P w H h d (.dT kvs)):(d == sysModules)=false/\∃(o:Obj) (es:Array DictEntry) (ep:Nat) (xs:List (List Key×Addr×Value)),
  h.get? d=some o/\o.ExactDict/\o.data=.dict es ep/\KT H kvs xs/\es.toList=xs.map (entryOfKey (tupleKind (dA P w)))/\es.size=kvs.length:=by
 obtain⟨z,y,xs,r,o,es,ep,h1,h2,h3,h4,h5⟩:=x
 refine⟨y,o,es,ep,xs,h1,h2,h3,r,h4,?_⟩
 rw[size_of_entries h4]
 exact(Paired.length r).symm
def Iti(d:Addr)(o:Obj)(kvs:List (List Key×V)):It:=
 ⟨fun i H=>H d=some (.frz o (.dT kvs))/\i < kvs.length,fun i H x H'=>∃T b kv,H T=none/\x=.ref T/\kvs[i]?=some kv/\H b=some (.tup (kv.1.map kV))/\H'=upd H T (.tup [.ref b,kv.2]),fun i H=>H d=some (.frz o (.dT kvs))/\kvs.length<=i⟩
theorem xM:entryFor table "dict_itemiterator.__iter__" = some Builtin.«dict_keyiterator.__iter__»:=PySem.entryFor_alias (id':="dict_keyiterator.__iter__") (by kernel_rfl) rfl (by decide +kernel) (show _ by kernel_rfl)
theorem aD2{P:Program}{w:World}{K:PySem.W.Frag}{elts:List Expr}{x1:Nat}{tp:Pos}(d it:Addr)(o:Obj)(kvs:List (List Key×V))(es:Array DictEntry)(ep:Nat)(hc0:o.cls=.type "dict")(hd0:o.data=.dict es ep)(hn:es.size=kvs.length) :
  Turn P w K (.Tuple elts x1 tp) (Iti d o kvs) [it] it (fun i h=>∃ok ov,IsItemIter h it d i es.size ep ok ov) where
 mem:=by simp
 obj:=fun i h st b hb=>by
  obtain⟨ok,ov,he⟩:=st
  have z:b=it:=by simpa using hb
  subst z
  exact⟨_,he,fun v z=>by cases z⟩
 keep:=fun i h h' st k=>by
  obtain⟨ok,ov,he⟩:=st
  exact⟨ok,ov,k it (by simp) _ he⟩
 item:=by
  intro X hP hw hK hc i pins s σ H E I hf st hg
  subst hP hw hK
  obtain⟨ok,ov,he⟩:=st
  obtain⟨hd,hi⟩:=hg
  have hO:bJ X.prog X.w H s.heap d (.frz o (.dT kvs)):=I.hok d _ hd
  obtain⟨ho,hO⟩:=hO
  obtain⟨lo,o',es',ep',xs,g1,g2,g3,rel,g4,g5⟩:=aD1 hO
  have eo:o'=o:=Option.some.inj (g1.symm.trans ho)
  subst eo
  have ee:es'=es/\ep'=ep:=by rw[hd0] at g3;injection g3 with a b;exact⟨a.symm,b.symm⟩
  obtain⟨e1,e2⟩:=ee
  subst e1 e2
  have raw:Raw s.heap d es' ep':=⟨o',ho,hc0,hd0⟩
  have hx:kvs[i]?=some kvs[i]:=List.getElem?_eq_getElem hi
  obtain⟨q,hq,hb,rv⟩:=aBT rel hx
  have hex:es'[i]?=some (entryOfKey (tupleKind (dA X.prog X.w)) q):=by rw[entry_at g4,hq];rfl
  have hilt:it < s.heap.objs.size:=Heap.lt_size he
  refine aBS he raw hex fun h1 h2' hT hsz hk=>?_
  refine⟨_,rfl,wpAny_letOwnedTupleGo_items h2' fun h2 he2 hs2=>?_⟩
  replace hs2:Heap.SameBut it h1 h2:=hs2
  have hT2:h2.IsTuple s.heap.objs.size #[.ref q.2.1,q.2.2]:=⟨_,(hs2.2 _ (Nat.ne_of_gt hilt)).trans hT,rfl,_,rfl⟩
  have kk:∀b o,b∉[it]->s.heap.get? b=some o->h2.get? b=some o:=fun b o hb q=>by
   have n1:b≠it:=fun z=>hb (by simp[z])
   exact(hs2.2 b n1).trans (hk b o n1 q)
  have I2:Inv X pins σ (upd H s.heap.objs.size (.tup [.ref q.2.1,kvs[i].2])) { s with heap:=h2,toks:=s.toks }:=
   I.aBb kk hf (Nat.le_refl _) (show bJ X.prog X.w _ h2 _ (.tup [.ref q.2.1,kvs[i].2]) from⟨cC (by simp),[.ref q.2.1,q.2.2],.cons rfl (.cons rv .nil),hT2⟩)
  have hfr:H s.heap.objs.size=none:=I.hok.fresh (Nat.le_refl _)
  refine⟨.ref s.heap.objs.size,_,I2,rfl,⟨_,q.2.1,kvs[i],hfr,rfl,hx,hb,rfl⟩,⟨_,_,he2⟩,fun b hb=>?_⟩
  have z:b=it:=by simpa using hb
  subst z
  rw[aL (Nat.ne_of_lt hilt)]
  exact(hf b (by simp)).1
 done:=by
  intro X hP hw hK hc i pins s σ H E I hf st hg
  subst hP hw hK
  obtain⟨ok,ov,he⟩:=st
  obtain⟨hd,hi⟩:=hg
  have hO:bJ X.prog X.w H s.heap d (.frz o (.dT kvs)):=I.hok d _ hd
  obtain⟨f0,f1,f2,f3,f4,f5⟩:=hf it (by simp)
  exact aC5 (I.ok.hd hc) he ⟨o,hO.1,hc0,hd0⟩ (by omega) fun h' eb=>⟨rfl,I.turned (t':=s.toks) (fun b o hb e=>eb b o hb e) f0 f1 f3 f4 f5⟩
 self:=fun _ _ _ _ _ st h=>by
  obtain⟨ok,ov,he⟩:=st
  refine wpAny_pyIter_slot ⟨_,he,rfl⟩ F.slot_dict_itemiterator_iter (wpAny_call_entry F.slot_dict_itemiterator_iter ⟨_,he,rfl⟩ xM ?_ (F.args_dict_itemiterator_iter_1 _))
  exact wpAny_pure ⟨_,rfl,"dict_itemiterator",_,⟨_,he,rfl⟩,F.slot_dict_itemiterator_next.lookup,h⟩
section
variable{X:Cx}{elts:List Expr}{x1:Nat}{tp:Pos}
def ImQ(R:It->Hp->Prop):V->Hp->Prop:=fun x H1=>∃d kvs,x=.ref d/\H1 d=some (.dT kvs)/\∀o,R (Iti d o kvs) (upd H1 d (.frz o (.dT kvs)))
def aD3(td:TE):TI:=fun σ H R=>td σ H (ImQ R)
theorem zE{o:Expr}{td:TE}{apos cpos:Pos}(ho:PE X o td)(hbase:attributeBase o "items" X.env (eval o X.env)=eval o X.env:=by rfl)(hline:(apos.endLine == cpos.line)=true:=by rfl) :
  PI X (.Tuple elts x1 tp) (.Call (.Attribute o "items" apos) [] [] cpos) (aD3 td):=by
 intro pins s σ H R I h
 refine wpAny_Call_method (T:="dict") (id:="dict.items") hbase rfl hline PySem.F.plainAttrs_dict PySem.F.slot_dict_items PySem.F.type_dict_items (cK (ho pins s σ H _ I h) fun v s1 ⟨x,H1,I1,r1,q1⟩=>?_)
 obtain⟨d,kvs,e,hd,q⟩:=q1
 subst e
 cases r1
 obtain⟨lo,ob,es,ep,xs,g1,g2,g3,rel,g4,g5⟩:=aD1 (show bJ X.prog X.w H1 s1.heap d (.dT kvs) from I1.hok d _ hd)
 have raw:Raw s1.heap d es ep:=⟨ob,g1,g2.1,g3⟩
 refine⟨raw.ty,fun b z=>by cases z;exact⟨ob,g1,g2.2.1⟩,?_⟩
 refine method_meetsIn PySem.F.slot_dict_items PySem.F.entry_dict_items rfl (PySem.evalArgs_none ⟨rfl,raw.ty,PySem.F.args_dict_items_1 _,_,aFE d lo,raw.ty,?_⟩)
 have I2:=I1.aIA hd g1
 show wpAny _ _ (pyIter (.ref s1.heap.objs.size)) _ _ _
 refine aAx (s:={ s1 with heap:=s1.heap.push { cls:=.type "dict_items",data:=.fields #[.ref d] } }) ⟨_,Heap.get?_push_size _ rfl,rfl,rfl⟩ (raw.keep fun o e=>Heap.get?_push_of_some _ e) ?_
 have hk:∀b u,s1.heap.get? b=some u->((s1.heap.push { cls:=.type "dict_items",data:=.fields #[.ref d] }).push { cls:=.type "dict_itemiterator",data:=.fields #[.none,.bool false,.ref d,.int 0 0,.int es.size 0,.int ep 0,.none,.none] }).get? b=some u:=
  fun b u e=>Heap.get?_push_of_some _ (Heap.get?_push_of_some _ e)
 refine⟨_,[(s1.heap.push { cls:=.type "dict_items",data:=.fields #[.ref d] }).objs.size],_,_,_,rfl,I2.kept (t':=s1.toks) hk,aD2 d _ ob kvs es ep g2.1 g3 g5,⟨_,_,Heap.get?_push_size _ rfl⟩,fun b hb=>?_,q ob⟩
 have e:b=(s1.heap.push { cls:=.type "dict_items",data:=.fields #[.ref d] }).objs.size:=by simpa using hb
 have hle:s1.heap.objs.size<=b:=by rw[e,Heap.size_push];exact Nat.le_succ _
 exact I2.aDC hle (I2.hok.fresh hle)
end
section
variable{σ:St}{H:Hp}{nx:St->Hp->Prop}{rt:VK}{g:TG}{tb:TS}
theorem aFF{td:TE}{R:It->Hp->Prop}(h:td σ H (ImQ R)):aD3 td σ H R:=h
theorem aLy{d:Addr}{kvs:List (List Key×V)}{R:It->Hp->Prop}(h1:H d=some (.dT kvs))(h:∀o,R (Iti d o kvs) (upd H d (.frz o (.dT kvs)))):ImQ R (.ref d) H:=⟨d,kvs,rfl,h1,h⟩
theorem aGZ{d:Addr}{o:Obj}{kvs:List (List Key×V)}(Pv:Nat->St->Hp->Prop)(h0:Pv 0 σ H)(hl:∀i σ H,i<=kvs.length->Pv i σ H->H d=some (.frz o (.dT kvs)))
  (hs:∀i kv σ H T b,kvs[i]?=some kv->Pv i σ H->H T=none->H b=some (.tup (kv.1.map kV))->g (.ref T) σ (upd H T (.tup [.ref b,kv.2])) fun σ2 H2=>tb ⟨Pv (i+1),rt,nx,Pv (i+1)⟩ σ2 H2) (hd:∀σ H,Pv kvs.length σ H->nx σ H) :
  ∃W:Nat->Nat->St->Hp->Prop,(∃m,W 0 m σ H)/\∀i m σ H,W i m σ H->
   ((Iti d o kvs).stop i H/\nx σ H)\/((Iti d o kvs).go i H/\∃N:St->Hp->Prop,(∀σ' H',N σ' H'->∃m',m' < m/\W (i+1) m' σ' H')/\∀x H',(Iti d o kvs).yld i H x H'->g x σ H' fun σ2 H2=>tb ⟨N,rt,nx,N⟩ σ2 H2):=by
 refine⟨fun i m σ H=>m=kvs.length - i/\i<=kvs.length/\Pv i σ H,⟨kvs.length,by simp,Nat.zero_le _,h0⟩,?_⟩
 rintro i m σ H ⟨rfl,hi,p⟩
 have q:=hl i σ H hi p
 by_cases hlt:i < kvs.length
 ·refine .inr ⟨⟨q,hlt⟩,Pv (i+1),fun σ' H' p'=>⟨kvs.length - (i+1),by omega,rfl,hlt,p'⟩,fun x H' y=>?_⟩
  obtain⟨T,b,kv,hT,e1,hk,hb,e2⟩:=y
  subst e1 e2
  exact hs i kv σ H T b hk p hT hb
 ·have e:i=kvs.length:=by omega
  subst e
  exact .inl ⟨⟨q,Nat.le_refl _⟩,hd σ H p⟩
end
section
variable{X:Cx}{o:Expr}{td:TE}{apos cpos:Pos}
end
section
variable{X:Cx}{ek ev:Expr}{tk tv:TE}{pos:Pos}
theorem aFG{pins:List (Addr×Obj)}{σ:St}{H:Hp}{s:Shared}{a b:Addr}{v:V}{r:Value}{A:Around}{E:Value->Shared->Prop}{kvs:List (List Key×V)}{k:List Key}{Q:Unit->Shared->Prop}(hu:A.units < cLine)(I:Inv X pins σ H s)(e:H a=some (.dT kvs))(eb:H b=some (.tup (k.map kV)))(l:kvs.length < sizeLine)(rv:RelV v r)(h:∀s',Inv X pins σ (upd H a (.dT (putK kvs k v))) s'->Q () s') :
  wpAny (model X.prog X.w) A (dictSet a (.ref b) r) Q E s:=by
 obtain⟨z,hd,xs,rel,dd⟩:=aI5 I.hok e
 have hz:xs.length<=sizeLine:=by rw[<-Paired.length rel];exact z
 have hl:(putK kvs k v).length<=sizeLine:=by have:=pY kvs k v;omega
 refine wpAny_dictSet_heap (hsz:=hz) hu (yY I.hok eb) dd fun h' dd' hs=>h _ ?_
 obtain⟨q,es,ep,hq,h2,h3,h4,_,h5⟩:=dd'
 refine aBM I (by rw[e];exact True.intro) hs ⟨q,hq⟩ ⟨hl,hd,_,(rel.put k eb rv).keeps fun c ys ec=>?_,q,es,ep,hq,h2,h3,h4,h5⟩
 rw[aL (aIY ec e (fun z=>nomatch z))]
 exact ec
def aD4(tk tv:TE):TE:=fun σ H Q=>∀d,H d=none->tk σ (upd H d (.dT [])) fun y H1=>tv σ H1 fun v H2=>∃b k,y=.ref b/\H2 b=some (.tup (k.map kV))/\H2 d=some (.dT [])/\Q (.ref d) (upd H2 d (.dT [(k,v)]))
theorem zF(hu:X.A.units < cLine)(hk:PE X ek tk)(hv:PE X ev tv):PE X (.Dict [some ek] [ev] pos) (aD4 tk tv):=by
 intro pins s σ H Q I h
 have hn:H s.heap.objs.size=none:=I.hok.fresh (Nat.le_refl _)
 have I0:Inv X pins σ (upd H s.heap.objs.size (.dT [])) { s with heap:=s.heap.push { cls:=.type "dict",data:=.dict #[] } }:=I.laid (a:=s.heap.objs.size) (o:=.dT []) (t':=s.toks) (fun _ _ q=>Heap.get?_push_of_some _ q) (Nat.le_refl _) (aCP s.heap I.big)
 refine wpAny_Dict_any rfl rfl (by simp) (by simp) ?_
 refine pairTrees_cons_walk (cK (hk pins _ σ _ _ I0 (h _ hn)) fun u s1 ⟨y,H1,I1,r1,q1⟩=>cK (hv pins s1 σ H1 _ I1 q1) fun v s2 ⟨x,H2,I2,r2,q2⟩=>pairTrees_nil_walk ?_)
 obtain⟨b,k,e,eb,ed,q⟩:=q2
 subst e
 cases r1
 unfold storeAll
 simp only[List.forIn_cons,List.forIn_nil]
 refine wpAny_bind (wpAny_bind (aFG hu I2 ed eb (by rw[sizeLine_eq];decide) r2 fun s3 I3=>?_))
 exact wpAny_pure (wpAny_pure ⟨.ref _,_,I3,rfl,q⟩)
end
end L2
namespace L2
section
variable{σ:St}{H:Hp}{Q:VK}
theorem aG0{tk tv:TE}(h:∀d,H d=none->tk σ (upd H d (.dT [])) fun y H1=>tv σ H1 fun v H2=>∃b k,y=.ref b/\H2 b=some (.tup (k.map kV))/\H2 d=some (.dT [])/\Q (.ref d) (upd H2 d (.dT [(k,v)]))):aD4 tk tv σ H Q:=h
theorem aG1{td ty tx:TE}(h:td σ H fun x H1=>∃a,x=.ref a/\IsD H1 a/\ty σ H1 fun y H2=>tx σ H2 fun z H3=>∃o,pZ H3 a y o/\Q (o.getD z) H3):aDQ td ty tx σ H Q:=h
end
end L2
namespace L2.Z
open PySem PySem.Spec PyProof.Rows L2
section
variable{X:Cx}{o e f ek ev:Expr}{td ty tx tk tv:TE}{pos apos cpos tp:Pos}{elts:List Expr}{x1:Nat}
theorem zE(ho:QE X o td)(hbase:attributeBase o "items" X.env (eval o X.env)=eval o X.env:=by rfl)(hline:(apos.endLine == cpos.line)=true:=by rfl) :
  QI X (.Tuple elts x1 tp) (.Call (.Attribute o "items" apos) [] [] cpos) (aD3 td):=⟨L2.zE ho.h hbase hline⟩
theorem zF(hu:X.A.units+9 < cLine)(hk:QE X ek tk)(hv:QE X ev tv):QE X (.Dict [some ek] [ev] pos) (aD4 tk tv):=⟨L2.zF (by omega) hk.h hv.h⟩
theorem y2(hu:X.A.units+9 < cLine)(ho:QE X o td)(he:QE X e ty)(hf:QE X f tx)(base:attributeBase o "get" X.env (eval o X.env)=eval o X.env:=by rfl)
  (few:((backTo cpos (starEach [e,f] X.env)).all (fun x=>!x.1) && (backToKw cpos (keywordEach [] X.env)).all (fun x=>x.1.isSome)
   && decide (([e,f]:List Expr).length+([]:List Keyword).length+(if ([]:List Keyword).isEmpty then 0 else 1) < 30))=true:=by rfl)
  (line:(apos.endLine == cpos.line)=true:=by rfl) (trees:backTo cpos (starEach [e,f] X.env)=[(false,eval e X.env),(false,eval f X.env)]:=by rfl) :
  QE X (.Call (.Attribute o "get" apos) [e,f] [] cpos) (aDQ td ty tx):=⟨L2.y2 (by omega) ho.h he.h hf.h ⟨base,few,line,trees⟩⟩
end
end L2.Z
namespace L2
open PySem PySem.Spec PyProof.Rows
section
variable{X:Cx}{tg:Expr}
end
section
variable{σ:St}{H:Hp}{Q:VK}{nx:St->Hp->Prop}{rt:VK}{g:TG}{tb:TS}
theorem aG2{td ty:TE}(h:td σ H fun x H1=>ty σ H1 fun y H2=>∃a v,x=.ref a/\pZ H2 a y (some v)/\Q v H2):aGl td ty σ H Q:=h
theorem pZ.f{H:Hp}{a b:Addr}{o:Obj}{kvs:List (List Key×V)}{k:List Key}(e:H a=some (.frz o (.dT kvs)))(eb:H b=some (.tup (k.map kV))):pZ H a (.ref b) (nO kvs k):=.inr ⟨kvs,k,b,.inr ⟨o,e⟩,rfl,eb,rfl⟩
end
end L2
namespace L2.Z
open PySem PySem.Spec PyProof.Rows L2
section
variable{X:Cx}{o i l tg:Expr}{td ty tl:TE}{pos:Pos}
theorem nU(hu:X.A.units+9 < cLine)(ho:QE X o td)(hi:QE X i ty)(hs:aJR i:=by intro _ _;rfl):QE X (.Subscript o i pos) (aGl td ty):=⟨L2.aHY (by omega) ho.h hi.h hs⟩
end
end L2.Z
namespace L2
open PySem PySem.Spec PyProof.Rows
section
open PySem.SeqAt
open PySem.AutoSeq1 (wpAny_loadPart')
open PySem.MeetsSeq PySem.MeetsSeq2 PySem.MeetsSeq3
end
section
variable{X:Cx}
end
end L2
namespace L2
open PySem PySem.Spec PyProof.Rows
structure Clo(P:Program)(w:World)(K:W.Frag)(mg:Str->Option Value)(base:Heap)(k:Nat)(f:Addr)(sp:Sp):Prop where
 ex:∃(o:Obj) (fd:FuncData) (ps:List Str),base.get? f=some o/\o.data=.func fd/\bR P w K mg base iV k f fd ps sp/\∀(s:Shared) (us:List Value),us.length=ps.length->BindsTo s fd ⟨us,[]⟩ (ps.zip us)
abbrev aBg(q:Str)(params:Arguments)(body:Expr)(scope:Scope)(cl:List (Str×Addr))(pm cd ct:Value):FuncData:=
  { name := "<lambda>", qualname := q, params, body := .expr body, scope, globals := mainGlobals, closure := cl, defaults := .none, kwdefaults := .none, doc := .none, pyModule := pm, annotations := none, code := cd, closureTuple := ct, builtins := builtinsNs }
abbrev qC(q:Str)(scope:Scope)(L f:Addr)(cd:Value)(cl:List (Str×Addr)):Env:=
 { scope:=scope,locals:=L,globals:=mainGlobals,cells:=cl,qual:=q ++ ".<locals>.",func:=some f,code:=cd,frame:=some L,builtins:=builtinsNs }
def cxL(P:Program)(w:World)(K:W.Frag)(mg:Str->Option Value)(base:Heap)(N:List Str)(q:Str)(scope:Scope)(f:Addr)(cd:Value)(cl:List (Str×Addr))(A:Around)(outer:List Env)(s:Shared)(H:Hp):Cx where
 prog:=P
 w:=w
 K:=K
 mg:=mg
 base:=base
 A:=A.deeper (qC q scope s.heap.objs.size f cd cl)
 N:=N
 s₀:=s
 H₀:=H
 env:=qC q scope s.heap.objs.size f cd cl
 outer:=outer
 stack:=qC q scope s.heap.objs.size f cd cl::outer
 ex:=[]
 calm:=true
 fn:=fun _=>false
 pn:=[]
 xe:=fun _ _=>False
structure aKA(base:Heap)(scope:Scope)(N ps:List Str)(cl:List (Str×Addr))(cap:St):Prop where
 kind:scope.kind=.function
 co:scope.isCoroutine=false
 gen:scope.isGenerator=false
 nocell:∀y∈scope.names,y.2≠.cell
 pre:N.take ps.length=ps
 nd:N.Nodup
 len:N.length=ps.length+cap.length
 par:∀x∈ps,scope.names.lookup x=some .local
 inj:∀x y c,cl.lookup x=some c->cl.lookup y=some c->x=y
 has:∀x,scope.names.lookup x=some .free->∃c,cl.lookup x=some c
 all:∀x c,cl.lookup x=some c->∃o v,base.get? c=some o/\o.data=.cell v
 cap:∀(i:Nat) x v,(N.drop ps.length)[i]?=some x->cap[i]?=some (some v)->scope.names.lookup x=some .free/\∃u c o,RelV v u/\cl.lookup x=some c/\base.get? c=some o/\o.data=.cell (some u)
theorem aEL{x:Str}{v:Value}:∀{l:List (Str×Value)},(l.map (·.1)).Nodup->(x,v)∈l->l.lookup x=some v
 |[],_,h=>by cases h
 |(y,u)::r,nd,h=>by
  rw[List.lookup_cons]
  rcases List.mem_cons.mp h with e|h'
  ·cases e
   rw[beq_self_eq_true]
  ·have ne:x≠y:=fun z=>by
    subst z
    exact(List.nodup_cons.mp nd).1 (List.mem_map.mpr ⟨(x,v),h',rfl⟩)
   rw[beq_eq_false_iff_ne.mpr ne]
   exact aEL (List.nodup_cons.mp nd).2 h'
theorem aIB{v:Value}{x:Str}:∀{P:List Str}{us:List Value}{i:Nat},P.Nodup->P[i]?=some x->us[i]?=some v->P.length=us.length->(P.zip us).reverse.lookup x=some v:=by
 intro P us i nd h1 h2 hl
 have hm:(x,v)∈(P.zip us).reverse:=by
  rw[List.mem_reverse]
  refine List.mem_of_getElem? (i:=i) ?_
  rw[List.getElem?_zip_eq_some]
  exact⟨h1,h2⟩
 refine aEL ?_ hm
 rw[List.map_reverse,List.map_fst_zip (Nat.le_of_eq hl)]
 exact List.pairwise_reverse.mpr (nd.imp fun h=>Ne.symm h)
def aEM(c:Addr)(q:Str)(n:Nat)(tl:TE)(cap:St):Sp:=fun ws H Q _=>H c=some (.cod q)/\ws.length=n/\tl (ws.map some++cap) H Q
theorem aD5{P:Program}{w:World}{K:W.Frag}{mg:Str->Option Value}{base:Heap}{N ps:List Str}{q:Str}{scope:Scope}{f:Addr}{cd:Value}{cl:List (Str×Addr)}{cap:St}{A:Around}{outer:List Env}{s:Shared}{H:Hp}{us:List Value}{vs:List V}{h':Heap}{tk:Nat}
  (S:aKA base scope N ps cl cap) (hd:A.handled=none) (e0:aAv P w K mg base A outer s H) (hl:vs.length=ps.length) (r:Vals vs us)
  (hns:h'.Ns s.heap.objs.size fun x=>(ps.zip us).reverse.lookup x) (hk:∀b o,s.heap.get? b=some o->h'.get? b=some o) :
  Inv (cxL P w K mg base N q scope f cd cl A outer s H) [] (vs.map some++cap) H { s with heap:=h',toks:=tk }:=by
 have noA:∀b:Addr,b∉(cxL P w K mg base N q scope f cd cl A outer s H).ex:=fun b z=>absurd (show b∈([]:List Addr) from z) (by simp)
 refine⟨⟨e0.mod,S.kind,rfl,rfl,Nat.le_refl _,S.inj,fun y hy=>?_,fun y c z _=>(by cases z),fun _=>hd,Around.frames_deeper e0.frames,.inr ⟨rfl,rfl⟩,fun b z=>absurd z (noA b),e0.bs,e0.bsz,fun b _ _=>noA b,fun b z=>absurd z (noA b),e0.sL,e0.frf⟩,
  rfl,e0.bare,Un.kept hk,⟨_,hns,fun i y v h1 h2 h3=>?_⟩,fun y c h=>?_,e0.hok.fresh (Nat.le_refl _),fun y c h=>?_,fun p hp=>absurd (show p∈([]:List (Addr×Obj)) from hp) (by simp),e0.hok.kept hk,?_⟩
 ·have hy:scope.names.lookup y=some .cell\/scope.names.lookup y=some .free:=hy
  rcases hy with hy|hy
  ·exact absurd rfl (S.nocell _ (PySem.mem_of_lookup hy))
  ·exact S.has y hy
 ·have h1':N[i]?=some y:=h1
  by_cases hi:i < ps.length
  ·rw[List.getElem?_append_left (by rw[List.length_map];omega),List.getElem?_map] at h2
   obtain⟨v',hv',e⟩:=Option.map_eq_some_iff.mp h2
   cases e
   obtain⟨u,hu,rv⟩:=r.get hv'
   have hp:ps[i]?=some y:=by rw[<-S.pre,List.getElem?_take_of_lt hi];exact h1'
   have ndP:ps.Nodup:=by rw[<-S.pre];exact S.nd.sublist (List.take_sublist _ _)
   refine⟨u,rv,.inl ⟨S.par y (List.mem_of_getElem? hp),?_⟩⟩
   exact aIB ndP hp hu (by rw[<-hl];exact r.length)
  ·obtain⟨j,rfl⟩ : ∃j,i=ps.length+j:=⟨i - ps.length,by omega⟩
   rw[List.getElem?_append_right (by rw[List.length_map];omega),List.length_map,hl,Nat.add_sub_cancel_left] at h2
   obtain⟨hf,u,c,o,rv,ec,eo,ed⟩:=S.cap j y v (by rw[List.getElem?_drop];exact h1') h2
   exact⟨u,rv,.inr ⟨.inr hf,c,ec,o,hk _ _ (e0.bs c o eo).1,ed⟩⟩
 ·obtain⟨o,v,eo,ed⟩:=S.all y c h
  exact⟨v,o,hk _ _ (e0.bs c o eo).1,ed⟩
 ·obtain⟨o,v,eo,ed⟩:=S.all y c h
  exact(e0.bs c o eo).2
 ·show _=N.length
  rw[List.length_append,List.length_map,hl,S.len]
theorem aKB{P:Program}{w:World}{K:W.Frag}{mg:Str->Option Value}{base:Heap}{k:Nat}{f c:Addr}{q:Str}{params:Arguments}{body:Expr}{scope:Scope}{cl:List (Str×Addr)}{pm ct:Value}{N ps:List Str}{cap:St}{tl:TE}{o:Obj}
  (hf:base.get? f=some o) (ho:o.data=.func (aBg q params body scope cl pm (.ref c) ct)) (S:aKA base scope N ps cl cap)
  (hbody:∀(A:Around) (outer:List Env) (s:Shared) (H:Hp),dG k (A.deeper (qC q scope s.heap.objs.size f (.ref c) cl))->PE (cxL P w K mg base N q scope f (.ref c) cl A outer s H) body tl) :
  bR P w K mg base iV (k+1) f (aBg q params body scope cl pm (.ref c) ct) ps (aEM c q ps.length tl cap):=by
 refine⟨fun vs H Q E h=>h.2.1,fun A outer s H args us vs Q E hr e0 hb r hsp=>?_⟩
 obtain⟨hcod,hl,hq⟩:=hsp
 have lim:s.heap.NoLimit:=e0.mod.nolimit.keeps fun b o e=>(e0.bs b o e).1
 have hcd:s.heap.CodeRec (.ref c) q:=by
  obtain⟨oc,vc,t,z1,z2,z3⟩:=e0.hok c _ hcod
  exact⟨c,oc,vc,t,rfl,z1,z2,z3⟩
 refine PySem.W.kla_callFunE hr.depth (e0.bs f _ hf).1 ho S.co S.gen rfl hcd (hb _ _ _ _ ?_)
 refine wpAny_newFunctionEnv S.nocell (fun y hy=>?_) (fun h₁ hns hsb=>⟨lim.fresh _ hsb,?_⟩) S.kind
 ·obtain⟨n,v⟩:=y
  exact S.par n (List.of_mem_zip hy).1
 show codeAny _ _ (.expr body (qC q scope s.heap.objs.size f (.ref c) cl)) _ _
 have hk₁:∀b o,s.heap.get? b=some o->h₁.get? b=some o:=fun b o e=>hsb.extBut b o (Nat.ne_of_lt (Heap.lt_size e)) (Heap.get?_push_of_some _ e)
 refine PySem.W.kla_codeExpr ?_
 have I:=aD5 (tk:=s.toks+(ps.zip us).length) (q:=q) (f:=f) (cd:=.ref c) S hr.hd e0 hl r hns hk₁
 refine wpAny_mono (hbody A outer s H (hr.deeper _) [] _ _ H _ I hq) (fun u s' hs=>?_) fun e s' hs=>hs.elim
 obtain⟨v,H',J,rv,z⟩:=hs
 exact⟨v,H',J.os,J.bare,J.base,J.hok,rv,z⟩
def aBU(base h:Heap)(Z:List Addr):Heap:=PySem.W.hideAll h ((List.range h.objs.size).filter fun a=>!((base.get? a).isSome || Z.contains a))
theorem qD{base h:Heap}{Z:List Addr}{b:Addr}{o:Obj}(e:h.get? b=some o)(z:(∃u,base.get? b=some u)\/b∈Z):(aBU base h Z).get? b=some o:=by
 refine PySem.W.hideAll_get _ e fun hm=>?_
 have q:=(List.mem_filter.mp hm).2
 rcases z with ⟨u,z⟩|z
 ·rw[z] at q;simp at q
 ·rw[show Z.contains b=true from List.elem_iff.mpr z] at q
  simp at q
theorem aEN{base h:Heap}{Z:List Addr}{b:Addr}{o:Obj}(e:(aBU base h Z).get? b=some o):h.get? b=some o/\((∃u,base.get? b=some u)\/b∈Z):=by
 have e':h.get? b=some o:=PySem.W.of_hideAll _ e
 refine⟨e',?_⟩
 cases q1:base.get? b with
 |some u=>exact .inl ⟨u,rfl⟩
 |none=>
  cases q2:Z.contains b with
  |true=>exact .inr (List.elem_iff.mp q2)
  |false=>
   have hm:b∈(List.range h.objs.size).filter fun a=>!((base.get? a).isSome || Z.contains a):=List.mem_filter.mpr ⟨List.mem_range.mpr (Heap.lt_size e'),by rw[q1,q2];rfl⟩
   have z:(aBU base h Z).get? b=none:=PySem.W.hideAll_none _ hm
   rw[z] at e
   cases e
theorem Mod.keeps{K:W.Frag}{mg:Str->Option Value}{base base':Heap}(M:Mod K mg base)(k:∀b o,base.get? b=some o->base'.get? b=some o):Mod K mg base':=
 ⟨M.kin.keeps k,M.glob.keeps k,(let ⟨mb,h1,h2⟩:=M.blt;⟨mb,h1.keeps k,h2⟩),M.nolimit.keeps k,let ⟨bm,o,e1,e2,e3,r⟩:=M.bm;⟨bm,o,e1,e2,k _ _ e3,r⟩⟩
theorem aD6{h base:Heap}{Z:List Addr}{l:List Env}(hl:h.FunFrames base l)(hz:∀b∈frs l,b∉Z):h.FunFrames (aBU base h Z) l:=by
 induction l with
 |nil=>trivial
 |cons env rest ih=>
  obtain⟨hk,⟨L,o,hf,hn,ho,hd⟩,hr⟩:=hl
  have hL:L∈frs (env::rest):=by unfold frs;rw[List.filterMap_cons,hf];exact List.mem_cons_self
  refine⟨hk,⟨L,o,hf,?_,ho,hd⟩,ih hr fun b hb=>hz b (by unfold frs;rw[List.filterMap_cons,hf];exact List.mem_cons_of_mem _ hb)⟩
  cases q:(aBU base h Z).get? L with
  |none=>rfl
  |some u=>
   rcases(aEN q).2 with ⟨v,z⟩|z
   ·rw[hn] at z;cases z
   ·exact absurd z (hz L hL)
end L2
namespace L2
open PySem PySem.Spec PyProof.Rows
section
variable{X:Cx}{pins:List (Addr×Obj)}{σ:St}{H:Hp}{s:Shared}{c Pt:Addr}{q:Str}{params:Arguments}{body:Expr}{scope:Scope}{pos lpos:Pos}{cl:List (Str×Addr)}
theorem aG3{Q:Value->Shared->Prop}(I:Inv X pins σ H s)(hcode:X.env.code=.ref c)(hC:PySem.W.codeHdIn X.K c Pt=true)(hT:H Pt=some (.ctb pos q))(hq:X.env.qual ++ "<lambda>" = q)(hdef:defaultsOf params X.env=([],[]))(hcl:closureFor scope X.env=pure cl)
  (h:∀(f c':Addr) (pm ct:Value) (o:Obj) (H':Hp) (s':Shared),Inv X pins σ H' s'->aJ H H'->s'.heap.get? f=some o->o.data=.func (aBg q params body scope cl pm (.ref c') ct)->H' f=none->H' c'=some (.cod q)->s.heap.objs.size<=f->Q (.ref f) s') :
  wpAny (model X.prog X.w) X.A (eval (.Lambda params body scope pos) X.env) Q X.xe s:=by
 obtain⟨ps,eP,ht,hc⟩:=I.hok Pt _ hT
 have hg:s.heap.Ns mainGlobals X.mg:=I.mod.glob.keeps I.bk
 have hgP:mainGlobals≠Pt:=fun z=>by
  obtain⟨o,es,ep,e,hd,_⟩:=hg
  rw[z,eP] at e
  cases e
  cases hd
 have hb:s.heap.BuiltinsAt X.mg Pt:=by
  obtain⟨bm,o,e1,e2,e3,e4,e5,e6⟩:=I.mod.bm
  have e3':=I.bk _ _ e3
  refine⟨bm,o,e1,e2,fun z=>?_,fun z=>?_,e3',e4,e5,e6⟩
  ·obtain⟨o',es,ep,e,hd,_⟩:=hg
   rw[z,e] at e3'
   cases e3'
   rw[hd] at e6
   cases e6
  ·rw[z,eP] at e3'
   cases e3'
   cases e4
 have hCd:PySem.W.CodeHd s.heap c Pt:=PySem.W.codeHd_of_K I.pG hC
 refine PySem.W.kla_eval hdef ?_
 rw[hq]
 rcases hc with hn|⟨c',hs,hcd⟩
 ·refine PySem.W.kla_makeFunction (mg:=X.mg) (P:=Pt) (c:=c) (ps:=ps) hcl I.ok.glob hg hcode hCd eP ht hn hgP hb fun c' ctv h' tk hx hge hlt hrec htb=>?_
  have hnc:H c'=none:=I.hok.fresh hge
  have hx2:∀b o,b≠Pt->s.heap.get? b=some o->(h'.push (PySem.W.kla_obj "<lambda>" q params body scope cl ((X.mg "__name__").getD .none) c' ctv)).get? b=some o:=fun b o n e=>Heap.get?_push_of_some _ (hx b o n e)
  have np:∀b,H b=none->b≠Pt:=fun b n z=>by rw[z,hT] at n;cases n
  have ncP:c'≠Pt:=np c' hnc
  refine h h'.objs.size c' _ ctv _ (upd H c' (.cod q)) _ (I.step (h':=h'.push _) (g':=s.gens) (d':=s.drawn) (t':=tk) (ch:=[]) (fun _ z=>nomatch z) (fun b o _ _ _ e n=>hx2 b o (np b n) e) (fun b o _ _ _ e n=>⟨o.slots,hx2 b o (np b n) e⟩)
   (fun b o _ e n=>by rw[aL (Nat.ne_of_lt (Nat.lt_of_lt_of_le (Heap.lt_size e) hge))];exact n) (fun b o _ e=>?_) (fun b xs e=>by rw[aL (bC e hnc)];exact e) (fun b o u e=>by rw[aL (bC e hnc)];exact e)
   (fun b ps e=>⟨#[],by rw[aL (bC e hnc),e];simp⟩) (fun m hm=>hm.extBut (b:=Pt) hx2 (np _ I.free)) (fun b u e=>?_) I.bare) (aJ.new hnc) (Heap.get?_push_size _ rfl) rfl ?_ aH (Nat.le_trans hge (Nat.le_of_lt hlt))
  ·by_cases hbP:b=Pt
   ·subst hbP
    exact⟨_,Heap.get?_push_of_some _ htb⟩
   ·exact⟨o,hx2 b o hbP e⟩
  ·by_cases hbc:b=c'
   ·subst hbc
    rw[aH] at e
    cases e
    obtain⟨c2,oc,vs,t,z1,z2,z3,z4⟩:=hrec
    cases z1
    exact⟨oc,vs,t,Heap.get?_push_of_some _ z2,z3,z4⟩
   ·rw[aL hbc] at e
    by_cases hbP:b=Pt
    ·subst hbP
     rw[hT] at e
     cases e
     refine⟨_,Heap.get?_push_of_some _ htb,?_,.inr ⟨c',?_,aH⟩⟩
     ·rw[Array.toList_append]
      exact TriplesOk_snoc _ _ _ _ ht
     ·rw[Array.toList_append]
      exact codeAmong_snoc _ ht hn
    ·refine(I.hok b u e).aAt (fun d v hd z=>hx2 d v ?_ z) (fun d z=>by rw[aL (bC z hnc)];exact z) fun d xs _ z=>by rw[aL (bC z hnc)];exact z
     rcases hd with z|z
     ·rw[z];exact hbP
     ·intro y
      rw[y,hT] at z
      cases z
  ·rw[aL (Nat.ne_of_gt hlt)]
   exact I.hok.fresh (Nat.le_trans hge (Nat.le_of_lt hlt))
 ·refine PySem.W.kla_makeFunctionHit (mg:=X.mg) (P:=Pt) (c:=c) (ps:=ps) hcl I.ok.glob hg hcode hCd eP ht hs hb fun ctv h' tk hk hsz=>?_
  exact h h'.objs.size c' _ ctv _ H _ (I.kept fun b u e=>Heap.get?_push_of_some _ (hk b u e)) (aJ.refl _) (Heap.get?_push_size _ rfl) rfl (I.hok.fresh hsz) hcd hsz
def PAL(X:Cx)(es:List Expr)(params:Arguments)(body:Expr)(scope:Scope)(lpos:Pos)(Pt:Addr)(q:Str)(cl:List (Str×Addr))(t:TA):Prop:=
 ∀(pos:Pos) (pins:List (Addr×Obj)) (s:Shared) (σ:St) (H:Hp) (Q:List V->Hp->Prop),Inv X pins σ H s->t σ H (fun vs H1=>H1 Pt=some (.ctb lpos q)/\Q vs H1)->
  wpAny (model X.prog X.w) X.A (spliced (backTo pos (starEach es X.env))) (fun us s'=>∃(vs:List V) (us0:List Value) (f c':Addr) (pm ct:Value) (o:Obj) (H1 H2:Hp),us=us0 ++ [.ref f]/\Vals vs us0/\Inv X pins σ H2 s'/\aJ H1 H2/\
   s'.heap.get? f=some o/\o.data=.func (aBg q params body scope cl pm (.ref c') ct)/\H2 f=none/\H2 c'=some (.cod q)/\f∉frs X.stack/\Q vs H1) X.xe s
theorem aG4(hcode:X.env.code=.ref c)(hC:PySem.W.codeHdIn X.K c Pt=true)(hq:X.env.qual ++ "<lambda>" = q)(hdef:defaultsOf params X.env=([],[])){N:List Str}{n:Nat}{idx:List Nat}(S:dH X scope N n idx) :
  PAL X [.Lambda params body scope lpos] params body scope lpos Pt q (jY X.env scope.names []) mX:=by
 intro pos pins s σ H Q I h
 obtain⟨hT,hQ⟩:=h
 show wpAny _ _ (spliced ((false,eval (.Lambda params body scope lpos) X.env)::backTo pos (starEach [] X.env))) _ _ s
 refine Calls.spliced_cons (aG3 I hcode hC hT hq hdef (tG (S.cells I)) fun f c' pm ct o H' s' I' sm e1 e2 e3 e4 e5=>?_)
 refine Calls.spliced_nil ⟨[],[],f,c',pm,ct,o,H,H',rfl,.nil,I',sm,e1,e2,e3,e4,fun z=>?_,hQ⟩
 obtain⟨_,o',e,_⟩:=I.stack.mem z
 exact absurd (Nat.lt_of_lt_of_le (Heap.lt_size e) e5) (Nat.lt_irrefl _)
theorem aG5{e:Expr}{es:List Expr}{te:TE}{t:TA}(ha:PE X e te)(hr:PAL X es params body scope lpos Pt q cl t)(hs:starEach (e::es) X.env=(false,eval e X.env)::starEach es X.env:=by rfl) :
  PAL X (e::es) params body scope lpos Pt q cl (bE te t):=by
 intro pos pins s σ H Q I h
 rw[hs]
 show wpAny _ _ (spliced ((false,eval e X.env)::backTo pos (starEach es X.env))) _ _ s
 refine Calls.spliced_cons (cK (ha pins s σ H _ I h) fun u s1 ⟨x,H1,I1,r1,q1⟩=>?_)
 refine cK (hr pos pins s1 σ H1 (fun vs H2=>Q (x::vs) H2) I1 q1) fun us s2 ⟨vs,us0,f,c',pm,ct,o,H2,H3,e0,r,I3,sm,e1,e2,e3,e4,e5,hQ⟩=>?_
 exact⟨x::vs,u::us0,f,c',pm,ct,o,H2,H3,by rw[e0];rfl,.cons r1 r,I3,sm,e1,e2,e3,e4,e5,hQ⟩
def aD7(Pt:Addr)(lpos:Pos)(q:Str)(sp:(Addr->Sp->Prop)->Sp)(n:Nat)(tl:TE)(idx:List Nat)(t:TA):TE:=fun σ H Q=>t σ H fun vs H1=>H1 Pt=some (.ctb lpos q)/\
 ∀(f c':Addr) (H2:Hp) (C:Addr->Sp->Prop),aJ H1 H2->H2 c'=some (.cod q)->C f (aEM c' q n tl (idx.map fun j=>(σ[j]?).join))->sp C (vs ++ [.ref f]) H2 Q E0
theorem uR{f:Addr}{fd:FuncData}{ps psL N:List Str}{idx:List Nat}{sp:(Addr->Sp->Prop)->Sp}{k kc:Nat}{x:Str}{p:Pos}{e:Expr}{es:List Expr}{t:TA}{tl:TE}
  (F:∀base':Heap,bR X.prog X.w X.K X.mg base' iV k f fd ps (sp (Clo X.prog X.w X.K X.mg base' (kc+1)))) (hr:dG k X.A) (hg:Gl X x) (hm:X.mg x=some (.ref f)) (hk:W.keepIn X.K (.ref f)=true) (hb:Binds X.K fd ps [])
  (hfn:∀y,X.fn y=true) (S:dH X scope N psL.length idx) (hpre:N.take psL.length=psL) (hpar:psL.all (fun x=>scope.names.lookup x == some .local)=true) (hco:scope.isCoroutine=false) (hgen:scope.isGenerator=false)
  (hbind:∀(cl:List (Str×Addr)) (pm cd ct:Value) (us:List Value),us.length=psL.length->bindArgs (aBg q params body scope cl pm cd ct) ⟨us,[]⟩=pure (psL.zip us))
  (ha:PAL X (e::es) params body scope lpos Pt q (jY X.env scope.names []) t)
  (hbody:∀(base':Heap) (f' c':Addr) (cl:List (Str×Addr)) (A:Around) (outer:List Env) (s:Shared) (H:Hp),dG kc (A.deeper (qC q scope s.heap.objs.size f' (.ref c') cl))->PE (cxL X.prog X.w X.K X.mg base' N q scope f' (.ref c') cl A outer s H) body tl)
  (hdb:(x == ("__debug__" : Str))=false:=by decide) (he:starEach (e::es) X.env=(false,eval e X.env)::starEach es X.env:=by rfl) (hpl:(backTo pos (starEach es X.env)).any (·.1)=false:=by rfl) :
  PE X (.Call (.Name x p) (e::es) [] pos) (aD7 Pt lpos q sp psL.length tl idx t):=by
 intro pins s σ H Q I h
 refine wpAny_Call_Name_kw (yE I hg hm ?_ hdb)
 refine PySem.W.callWith_K (h₀:=X.base) I.ok.mod.kin hk (cK (ha pos pins s σ H _ I h) fun us s1 ⟨vs,us0,fl,c',pm,ct,o,H1,H2,e0,r,I2,sm,e1,e2,e3,e4,e5,hQ⟩=>⟨I2.pG,?_⟩) he hpl
 subst e0
 generalize hcl:jY X.env scope.names []=cl at *
 have cels:=S.cells I2
 have clo:∀{y:Str} {d:Addr},cl.lookup y=some d->X.env.cells.lookup y=some d:=fun {y d} z=>lM cels (by rw[hcl];exact z)
 have lkp:∀{y:Str} {d:Addr},(y,NameKind.free)∈scope.names->X.env.cells.lookup y=some d->cl.lookup y=some d:=fun {y d} h1 h2=>by rw[<-hcl];exact p9 cels h1 h2
 have inZ:∀{y:Str} {d:Addr},cl.lookup y=some d->d∈fl::cl.map (·.2):=fun {y d} z=>List.mem_cons_of_mem _ (List.mem_map.mpr ⟨(y,d),PySem.mem_of_lookup z,rfl⟩)
 have memZ:∀d,d∈cl.map (·.2)->∃y,X.env.cells.lookup y=some d:=fun d z=>by
  obtain⟨⟨y,d'⟩,hm,e⟩:=List.mem_map.mp z
  have e':d'=d:=e
  subst e'
  rw[<-hcl] at hm
  rcases uM _ _ cels hm with q|q
  ·cases q
  ·exact⟨y,q⟩
 have keepB:∀b u,X.base.get? b=some u->(aBU X.base s1.heap (fl::cl.map (·.2))).get? b=some u:=fun b u z=>qD (I2.bk b u z) (.inl ⟨u,z⟩)
 have notfs:∀b∈frs X.stack,b∉fl::cl.map (·.2):=fun b hb z=>by
  rcases List.mem_cons.mp z with rfl|z
  ·exact e5 hb
  ·obtain⟨y,hy⟩:=memZ b z
   rcases List.mem_cons.mp (I2.yR b hb) with q|q
   ·exact I2.cne y b hy q
   ·obtain⟨_,ob,eo,_⟩:=I2.ok.sL.mem q
    exact absurd (Nat.lt_of_lt_of_le (Heap.lt_size eo) (I2.ok.cab y b (hfn y) hy)) (Nat.lt_irrefl _)
 have aGc:aAv X.prog X.w X.K X.mg (aBU X.base s1.heap (fl::cl.map (·.2))) X.A X.stack s1 H2:=by
  refine⟨I2.ok.frames,I2.ok.mod.keeps keepB,fun b u z=>?_,Nat.le_of_eq (PySem.W.hideAll_size _ _),aD6 I2.stack notfs,I2.aBB,I2.hok,I2.bare⟩
  obtain⟨z1,z2⟩:=aEN z
  refine⟨z1,?_⟩
  rcases z2 with ⟨u',z2⟩|z2
  ·exact(I2.bs b u' z2).2
  ·rcases List.mem_cons.mp z2 with rfl|z2
   ·exact e3
   ·obtain⟨y,hy⟩:=memZ b z2
    exact I2.freeC y b hy
 have caps:aKA (aBU X.base s1.heap (fl::cl.map (·.2))) scope N psL cl (idx.map fun j=>(σ[j]?).join):=by
  refine⟨S.kind,hco,hgen,S.nocell,hpre,S.nd,by rw[List.length_map];exact S.len,fun y hy=>?_,fun y z d h1 h2=>I2.ok.inj y z d (clo h1) (clo h2),fun y hy=>?_,fun y d hy=>?_,fun i y v h1 h2=>?_⟩
  ·have:=List.all_eq_true.mp hpar y hy
   simpa using this
  ·have hmem:=PySem.mem_of_lookup hy
   obtain⟨d,hd⟩:=cels _ hmem rfl
   exact⟨d,lkp hmem hd⟩
  ·obtain⟨v,oc,eo,ed⟩:=I2.cell y d (clo hy)
   exact⟨oc,v,qD eo (.inr (inZ hy)),ed⟩
  ·obtain⟨j,z1,z2,z3⟩:=S.cap i y h1
   refine⟨z3,?_⟩
   rw[List.getElem?_map,z1] at h2
   have h2j:(σ[j]?).join=some v:=Option.some.inj h2
   have h2':σ[j]?=some (some v):=by
    cases qj:σ[j]? with
    |none=>rw[qj] at h2j;cases h2j
    |some w=>rw[qj] at h2j;rw[show w=some v from h2j]
   have hfree:=PySem.mem_of_lookup z3
   have hkind:=S.free _ hfree rfl
   obtain⟨m0,hn0,hl0⟩:=I2.loc
   obtain⟨u,ru,l⟩:=hl0 j y v z2 h2' (by rcases hkind with z|z;exact .inr (.inl z);exact .inr (.inr z))
   rcases l with ⟨z,_⟩|⟨_,d,ed,oc,eo,dd⟩
   ·rcases hkind with w|w
    ·rw[w] at z;cases z
    ·rw[w] at z;cases z
   ·exact⟨u,d,oc,ru,lkp hfree ed,qD eo (.inr (inZ (lkp hfree ed))),dd⟩
 have lamK:=aKB (P:=X.prog) (w:=X.w) (K:=X.K) (mg:=X.mg) (N:=N) (ps:=psL) (qD e1 (.inr List.mem_cons_self)) e2 caps (hbody _ fl c' cl)
 have hC:Clo X.prog X.w X.K X.mg (aBU X.base s1.heap (fl::cl.map (·.2))) (kc+1) fl (aEM c' q psL.length tl (idx.map fun j=>(σ[j]?).join)):=
  ⟨o,_,psL,qD e1 (.inr List.mem_cons_self),e2,lamK,fun s us hl=>.of_eq (hbind cl pm (.ref c') ct us hl)⟩
 have hsp:=hQ fl c' H2 _ sm e4 hC
 have r2:Vals (vs ++ [.ref fl]) (us0 ++ [.ref fl]):=r.append (.cons rfl .nil)
 have hl:(us0 ++ [Value.ref fl]).length=ps.length:=by rw[<-r2.length];exact(F _).len _ _ _ _ hsp
 have hb':=hb s1 (us0 ++ [.ref fl]) I2.pG (by rw[List.append_nil];exact hl)
 rw[List.append_nil] at hb'
 refine wpAny_call (codeAny_mono ((F _).run X.A X.stack s1 H2 ⟨us0 ++ [.ref fl],[]⟩ (us0 ++ [.ref fl]) (vs ++ [.ref fl]) Q E0 hr aGc hb' r2 hsp) fun r s' hq=>?_)
 cases r with
 |error e=>exact False.elim hq
 |ok fl=>
  cases fl with
  |ret u=>exact I2.after hq
  |next=>exact False.elim hq
  |brk=>exact False.elim hq
  |cont=>exact False.elim hq
def aBV(C:Addr->Sp->Prop)(i:Nat)(t:TA):TE:=fun σ H Q=>∃f sp,σ[i]?=some (some (.ref f))/\C f sp/\t σ H fun vs H1=>sp vs H1 Q E0
theorem zG{i k:Nat}{x:Str}{p:Pos}{e:Expr}{es:List Expr}{t:TA}(hN:X.N[i]?=some x)(hv:Vis X.env.scope x)(hr:dG k X.A)(ha:PA X (e::es) t)(hd:(x == ("__debug__" : Str))=false:=by decide)(hcd:(x == ("__classdict__" : Str))=false:=by decide)
  (he:starEach (e::es) X.env=(false,eval e X.env)::starEach es X.env:=by rfl) (hpl:(backTo pos (starEach es X.env)).any (·.1)=false:=by rfl) :
  PE X (.Call (.Name x p) (e::es) [] pos) (aBV (Clo X.prog X.w X.K X.mg X.base k) i t):=by
 intro pins s σ H Q I h
 obtain⟨f,sp,ei,hC,ht⟩:=h
 obtain⟨o,fd,ps,ef,ed,F,hb⟩:=hC.ex
 refine wpAny_Call_Name_kw (cK (aDy hN hv hd hcd pins s σ H (fun v H'=>v=.ref f/\H'=H) I ⟨_,ei,rfl,rfl⟩) fun u s0 ⟨v,H0,I0,rv,hvf,hH0⟩=>?_)
 subst hvf hH0
 obtain rfl:u=Value.ref f:=rv
 have hin:∀{pins' σ' H' s'},Inv X pins' σ' H' s'->W.Frag.In [(f,o)] s'.heap:=fun {pins' σ' H' s'} J a u z=>by
  rw[List.lookup_cons] at z
  split at z
  ·rename_i hb
   cases z
   rw[eq_of_beq hb]
   exact J.bk _ _ ef
  ·cases z
 have hkp:W.keepIn [(f,o)] (.ref f)=true:=by
  obtain⟨oc,od,odt,osl⟩:=o
  have:odt=.func fd:=ed
  subst this
  have z:List.lookup f [(f,({ cls:=oc,dict:=od,data:=.func fd,slots:=osl }:Obj))]=some { cls:=oc,dict:=od,data:=.func fd,slots:=osl }:=by rw[List.lookup_cons,beq_self_eq_true]
  unfold W.keepIn
  dsimp only
  rw[z]
 refine PySem.W.callWith_K (h₀:=s0.heap) (hin I0) hkp (cK (ha pos pins s0 σ H0 _ I0 ht) fun us s1 ⟨vs,H1,I1,r,q⟩=>⟨hin I1,?_⟩) he hpl
 have hl:us.length=ps.length:=by rw[<-r.length];exact F.len _ _ _ _ q
 refine wpAny_call (codeAny_mono (F.run X.A X.stack s1 H1 ⟨us,[]⟩ us vs Q E0 hr I1.aGc (hb s1 us hl) r q) fun r s' hq=>?_)
 cases r with
 |error e=>exact False.elim hq
 |ok fl=>
  cases fl with
  |ret u=>exact I1.after hq
  |next=>exact False.elim hq
  |brk=>exact False.elim hq
  |cont=>exact False.elim hq
end
end L2
namespace L2
open PySem PySem.Spec PyProof.Rows
structure aKC(K:W.Frag)(fd:FuncData)(c Pt:Addr):Prop where
 code:fd.code=.ref c
 hd:PySem.W.codeHdIn K c Pt=true
theorem kN.okC{P:Program}{w:World}{K:W.Frag}{mg:Str->Option Value}{base:Heap}{x qual:Str}{st:Stmt}{f c Pt:Addr}{fd:FuncData}{N ps:List Str}{k:Nat}{sp:Sp}(F:kN K x qual st f fd)(hc:aKC K fd c Pt)(S:aV N ps (aE st))(len:∀vs H Q E,sp vs H Q E->vs.length=ps.length)
  (hbody:∀(A:Around) (outer:List Env) (s:Shared) (H:Hp) (vs:List V) (Q:VK) (E:XK),dG k (A.deeper (envOfC qual (aE st) s.heap.objs.size f (.ref c)))->sp vs H Q E->
   ∃t,PSs (aDM iV P w K mg base N qual (aE st) f (.ref c) A outer s H E).nox (aT st) t/\t { nx:=fun _ H'=>Q .non H',rt:=Q } (start N vs) H):bR P w K mg base iV (k+1) f fd ps sp:=by
 obtain⟨oc,od,kV,doc,pm,an,cdv,ct,osl,rfl,lk,hcd⟩:=F.ex
 obtain rfl:cdv=.ref c:=hc.code
 refine aI0 lk hcd S len fun A outer s H vs Q E hr hsp=>?_
 obtain⟨t,h,q⟩:=hbody A outer s H vs Q E hr hsp
 exact⟨t,h.nox,q⟩
theorem aBh{β:Type}{b:Addr}{p:β}:∀{l:List (Addr×β)},l.lookup b=some p->(b,p)∈l
 |[],h=>by cases h
 |(d,x)::r,h=>by
  rw[List.lookup_cons] at h
  cases hb:b == d with
  |true=>rw[hb] at h;cases h;rw[eq_of_beq hb];exact .head _
  |false=>rw[hb] at h;exact .tail _ (aBh h)
theorem aFH{P:Program}{w:World}{K:W.Frag}{mg mb:Str->Option Value}{k:Nat}{fa a:Addr}{fd:FuncData}{x:Str}{sp:Sp}{s₁:Shared}{vs:List Value}{ns:List Int}{tabs:List (Addr×Pos×Str)}
  (KX:K.In s₁.heap) (hns:s₁.heap.Ns mainGlobals mg) (hb:s₁.heap.Ns builtinsNs mb) (hbb:∀x:Str,x≠"__name__"->mb x=bootBuiltins x) (hlim:s₁.heap.NoLimit) (hbm:∃bm o,mg "__builtins__" = some (.ref bm)/\bm≠builtinsNs/\s₁.heap.get? bm=some o/\o.cls=.type "module"/\o.dict=some builtinsNs/\o.data=.plain) (hg:s₁.gens = #[])
  (ha:s₁.heap.get? a=some { cls:=.type "list",data:=.seq vs.toArray }) (hi:IntsAre vs ns) (hl:ns.length<=sizeLine) (hr:dG k callerA)
  (hT:∀t∈tabs,s₁.heap.get? t.1=some { cls:=.none,data:=.fields #[] }/\K.lookup t.1=none/\∃c,PySem.W.codeHdIn K c t.1=true) (hnd:(tabs.map (·.1)).Nodup)
  (F:∀base:Heap,K.In base->base.Ns mainGlobals mg->bR P w K mg base iV k fa fd [x] sp) (hbind:∀(s:Shared) (u:Value),BindsTo s fd ⟨[u],[]⟩ [(x,u)])
  (hsp:∀H:Hp,(∀t∈tabs,H t.1=some (.ctb t.2.1 t.2.2))->bQ K H a (ns.map V.int)->sp [.ref a] H (fun v H'=>v=.bl true/\aJ H H') fun _ _ _=>False) :
  codeAny (model P w) callerA (.call (.ref fa) ⟨[.ref a],[]⟩) (fun r s'=>r=.ok (.ret (.bool true))/\OldK s₁.heap s'.heap/\s'.os=s₁.os/\AllBare s'.gens) s₁:=by
 have rv:=v8 hi
 have lenV:=hi.length
 have core:∀H:Hp,bQ K H a (ns.map V.int)->pM P w H s₁.heap->(∀t∈tabs,H t.1=some (.ctb t.2.1 t.2.2))->(∀b u,H b=some u->(b=a/\K.lookup a=none/\∃o xs,u=.frz o (.lst xs))\/∃t∈tabs,b=t.1/\u=.ctb t.2.1 t.2.2)->
   codeAny (model P w) callerA (.call (.ref fa) ⟨[.ref a],[]⟩) (fun r s'=>r=.ok (.ret (.bool true))/\OldK s₁.heap s'.heap/\s'.os=s₁.os/\AllBare s'.gens) s₁:=by
  intro H hS hok hTH hA
  have base_of:∀{b:Addr} {o:Obj},s₁.heap.get? b=some o->H b=none->(sJ s₁.heap H).get? b=some o:=fun e n=>aCF e n
  have noA:∀{b:Addr} {o:Obj} {es:Array DictEntry} {ep:Nat},s₁.heap.get? b=some o->o.data=.dict es ep->H b=none:=fun {b o es ep} e d=>by
   cases q:H b with
   |none=>rfl
   |some u=>
    rcases hA b u q with ⟨e',_⟩|⟨t,ht,e',_⟩
    ·subst e'
     rw[ha] at e;cases e
     have d':Data.seq vs.toArray _=Data.dict es ep:=d
     cases d'
    ·rw[e',(hT t ht).1] at e;cases e
     have d':Data.fields _=Data.dict es ep:=d
     cases d'
  have nsK:∀{b:Addr} {m:Str->Option Value},s₁.heap.Ns b m->(sJ s₁.heap H).Ns b m:=fun {b m} ⟨o,es,ep,e,d,r⟩=>⟨o,es,ep,base_of e (noA e d),d,r⟩
  have hKb:K.In (sJ s₁.heap H):=fun b o e=>base_of (KX b o e) (by
   cases q:H b with
   |none=>rfl
   |some u=>
    rcases hA b u q with ⟨e',hn,_⟩|⟨t,ht,e',_⟩
    ·rw[e',hn] at e;cases e
    ·rw[e',(hT t ht).2.1] at e;cases e)
  have hbm':∃bm o,mg "__builtins__" = some (.ref bm)/\bm≠builtinsNs/\(sJ s₁.heap H).get? bm=some o/\o.cls=.type "module"/\o.dict=some builtinsNs/\o.data=.plain:=by
   obtain⟨bm,ob,b1,b2,b3,b4,b5,b6⟩:=hbm
   refine⟨bm,ob,b1,b2,base_of b3 ?_,b4,b5,b6⟩
   cases q:H bm with
   |none=>rfl
   |some u=>
    rcases hA bm u q with ⟨e',_⟩|⟨t,ht,e',_⟩
    ·rw[e',ha] at b3
     cases b3
     exact absurd (show Value.type "list" = Value.type "module" from b4) (by decide)
    ·rw[e',(hT t ht).1] at b3
     cases b3
     exact absurd (show Value.none=Value.type "module" from b4) (by decide)
  have hM:Mod K mg (sJ s₁.heap H):=⟨hKb,nsK hns,⟨mb,nsK hb,hbb⟩,(let ⟨mc,h1,h2⟩:=hlim;⟨mc,nsK h1,h2⟩),hbm'⟩
  have e0:aAv P w K mg (sJ s₁.heap H) callerA [] s₁ H:=⟨rfl,hM,fun b o e=>aEu e,Nat.le_of_eq (aAY _ _),trivial,fun b hb=>absurd (show b∈([]:List Addr) from hb) (by simp),hok,.of_eq hg⟩
  refine codeAny_mono ((F _ hKb (nsK hns)).run callerA [] s₁ H ⟨[.ref a],[]⟩ [.ref a] [.ref a] _ _ hr e0 (hbind s₁ (.ref a)) (.cons rfl .nil) (hsp H hTH hS)) fun r s' h=>?_
  cases r with
  |error e=>exact False.elim h
  |ok fl=>
   cases fl with
   |next=>exact False.elim h
   |brk=>exact False.elim h
   |cont=>exact False.elim h
   |ret u=>
    obtain⟨v,H',os,bare,un,hok',r',q,sm⟩:=h
    have q':v=.bl true:=q
    subst q'
    obtain rfl:u=Value.bool true:=r'
    have key:∀b o,s₁.heap.get? b=some o->s'.heap.get? b=some o\/∃c ps,PySem.W.codeHdIn K c b=true/\o={ cls:=.none,data:=.fields #[] }/\s'.heap.get? b=some { cls:=.none,data:=.fields ps }:=fun b o e=>by
     cases q:H b with
     |none=>exact .inl (un.keep b o e q (by intro z;exact absurd (show b∈([]:List Addr) from z) (by simp)) (by simp))
     |some u=>
      rcases hA b u q with ⟨_,_,ob,xs,rfl⟩|⟨t,ht,e',rfl⟩
      ·have z2:=un.frzs b ob _ q
       obtain⟨e1,_⟩:=hok b _ q
       obtain⟨e2,_⟩:=hok' b _ z2
       rw[e] at e1;cases e1
       exact .inl e2
      ·obtain⟨ps,z,_⟩:=hok' b _ (sm b _ q)
       obtain⟨h1,_,c,hc⟩:=hT t ht
       rw[<-e'] at h1 hc
       rw[e] at h1
       exact .inr ⟨c,ps,hc,Option.some.inj h1,z⟩
    refine⟨rfl,⟨fun b o e=>?_,fun b o e=>?_⟩,os,bare⟩
    ·rcases key b o e with z|⟨c,ps,hc,rfl,z⟩
     ·exact .inl z
     ·refine .inr (.inl ⟨?_,rfl,#[],ps,rfl,?_⟩)
      ·obtain⟨oc,vs,_,_,_,_,_,_,_,f1,f2,f3,f4,_⟩:=PySem.W.codeHd_of_K KX hc
       exact⟨c,oc,vs,f1,f2,f3,f4⟩
      ·rw[z];simp
    ·rcases key b o e with z|⟨c,ps,hc,rfl,z⟩
     ·exact⟨_,z⟩
     ·exact⟨_,z⟩
 have lkT:∀t∈tabs,tabs.lookup t.1=some t.2:=by
  clear hT hsp core
  induction tabs with
  |nil=>intro t h;cases h
  |cons q r ih=>
   intro t ht
   rw[List.lookup_cons]
   rcases List.mem_cons.mp ht with rfl|ht
   ·rw[beq_self_eq_true]
   ·have ne:t.1≠q.1:=fun z=>(List.nodup_cons.mp hnd).1 (List.mem_map.mpr ⟨t,ht,z⟩)
    rw[beq_eq_false_iff_ne.mpr ne]
    exact ih (List.nodup_cons.mp hnd).2 t ht
 have memT:∀{b:Addr} {p:Pos×Str},tabs.lookup b=some p->(b,p)∈tabs:=fun {b p} h=>aBh h
 have naT:∀t∈tabs,t.1≠a:=fun t ht z=>by
  have:=(hT t ht).1
  rw[z,ha] at this
  cases this
 have okT:∀(H:Hp) (t:Addr×Pos×Str),t∈tabs->bJ P w H s₁.heap t.1 (.ctb t.2.1 t.2.2):=fun H t ht=>⟨#[],(hT t ht).1,trivial,.inl rfl⟩
 cases hk:K.lookup a with
 |some o=>
  have e:=KX a o hk
  rw[ha] at e
  cases e
  refine core (fun b=>(tabs.lookup b).map fun p=>.ctb p.1 p.2) (.inr ⟨_,vs.toArray,_,hk,rfl,rfl,rfl,by rw[List.size_toArray,lenV];exact hl,by simpa using rv⟩) (fun b u z=>?_) (fun t ht=>?_) fun b u z=>?_
  ·obtain⟨p,hp,rfl⟩:=Option.map_eq_some_iff.mp z
   exact okT _ _ (memT hp)
  ·show(tabs.lookup t.1).map _=_
   rw[lkT t ht];rfl
  ·obtain⟨p,hp,rfl⟩:=Option.map_eq_some_iff.mp z
   exact .inr ⟨_,memT hp,rfl,rfl⟩
 |none=>
  refine core (fun b=>if b=a then some (.frz { cls:=.type "list",data:=.seq vs.toArray } (.lst (ns.map V.int))) else (tabs.lookup b).map fun p=>.ctb p.1 p.2) (.inl (.inr ⟨{ cls:=.type "list",data:=.seq vs.toArray },if_pos rfl⟩)) (fun b u z=>?_) (fun t ht=>?_) fun b u z=>?_
  ·by_cases hb:b=a
   ·have z':=(if_pos hb).symm.trans z
    cases z'
    subst hb
    exact⟨ha,by rw[List.length_map];exact hl,vs,_,rv,ha⟩
   ·have z':=(if_neg hb).symm.trans z
    obtain⟨p,hp,rfl⟩:=Option.map_eq_some_iff.mp z'
    exact okT _ _ (memT hp)
  ·show(if t.1=a then _ else (tabs.lookup t.1).map _)=_
   rw[if_neg (naT t ht),lkT t ht];rfl
  ·by_cases hb:b=a
   ·have z':=(if_pos hb).symm.trans z
    cases z'
    exact .inl ⟨hb,hk,_,_,rfl⟩
   ·have z':=(if_neg hb).symm.trans z
    obtain⟨p,hp,rfl⟩:=Option.map_eq_some_iff.mp z'
    exact .inr ⟨_,memT hp,rfl,rfl⟩
theorem aG6{l:PySem.W.OpenLaw}{n k:Nat}{q:Program}{loose:List Str}{XP:(Str->Option Value)->Heap->Prop}{YP:World->Heap->Prop}{d:DefRec}{K:Params->W.Frag}{sp:World->Sp}{x:Str}{tabs:List (Addr×Pos×Str)}
  (hn:l.most=some n) (hn2:n<=sizeLine) (hdf:d.params.defaults=[]) (hr:dG k callerA) (hnd:(tabs.map (·.1)).Nodup)
  (hY:∀(w:World) (h:Heap),YP w h->(K w.params).In h/\∀t∈tabs,h.get? t.1=some { cls:=.none,data:=.fields #[] })
  (hK:∀(w:World),∀t∈tabs,(K w.params).lookup t.1=none)
  (F:∀(w:World) (mg:Str->Option Value) (fa:Addr) (h:Heap),(K w.params).In h->h.Ns mainGlobals mg->mg d.name=some (.ref fa)->(∀t∈tabs,∃c,PySem.W.codeHdIn (K w.params) c t.1=true)/\
   ∃fd:FuncData,(∀(s:Shared) (u:Value),BindsTo s fd ⟨[u],[]⟩ [(x,u)])/\
    ∀base:Heap,(K w.params).In base->base.Ns mainGlobals mg->bR l.prog w (K w.params) mg base iV k fa fd [x] (sp w))
  (hsp:∀(w:World) (H:Hp) (a:Addr) (ns:List Int),ns.length<=n->(∀t∈tabs,H t.1=some (.ctb t.2.1 t.2.2))->bQ (K w.params) H a (ns.map V.int)->sp w [.ref a] H (fun v H'=>v=.bl true/\aJ H H') fun _ _ _=>False) :
  PySem.W.WalkO q loose XP YP l.row.toRowW d [] (fun f vs=>PySem.call f vs):=by
 refine Att.aCQ hn hdf fun w s₀ s₁ mg mb fa o pm cd doc a vs ns G Y ho hd hcd hmg hobj hints hlen hg=>?_
 obtain⟨KX,hT⟩:=hY w _ Y
 obtain⟨hcd',fd,hb,hF⟩:=F w mg fa _ KX G.T.g hmg
 exact aFH KX G.T.g G.T.b G.T.builtins G.T.nolimit G.T.bmain hg hobj hints (Nat.le_trans hlen hn2) hr (fun t ht=>⟨hT t ht,hK w t ht,hcd' t ht⟩) hnd hF hb (fun H hO hS=>hsp w H a ns hlen hO hS)
section
variable{X:Cx}{σ:St}{H:Hp}{Q:VK}
theorem aG7{Pt:Addr}{lpos:Pos}{q:Str}{sp:(Addr->Sp->Prop)->Sp}{n:Nat}{tl:TE}{idx:List Nat}{t:TA}(h:t σ H fun vs H1=>H1 Pt=some (.ctb lpos q)/\
  ∀(f c':Addr) (H2:Hp) (C:Addr->Sp->Prop),aJ H1 H2->H2 c'=some (.cod q)->C f (aEM c' q n tl (idx.map fun j=>(σ[j]?).join))->sp C (vs ++ [.ref f]) H2 Q E0):aD7 Pt lpos q sp n tl idx t σ H Q:=h
theorem aC6{C:Addr->Sp->Prop}{i:Nat}{t:TA}{f:Addr}{sp:Sp}(e:σ[i]?=some (some (.ref f)))(hC:C f sp)(h:t σ H fun vs H1=>sp vs H1 Q E0):aBV C i t σ H Q:=⟨f,sp,e,hC,h⟩
end
end L2
namespace L2.Z
open PySem PySem.Spec PyProof.Rows L2
section
variable{X:Cx}{c Pt:Addr}{q:Str}{params:Arguments}{body:Expr}{scope:Scope}{pos lpos:Pos}{cl:List (Str×Addr)}
structure QAL(X:Cx)(es:List Expr)(params:Arguments)(body:Expr)(scope:Scope)(lpos:Pos)(Pt:Addr)(q:Str)(cl:List (Str×Addr))(t:TA):Prop where
 h:PAL X es params body scope lpos Pt q cl t
theorem aEO(hcode:X.env.code=.ref c)(hC:PySem.W.codeHdIn X.K c Pt=true)(hq:X.env.qual ++ "<lambda>" = q)(hdef:defaultsOf params X.env=([],[])){N:List Str}{n:Nat}{idx:List Nat}(S:dH X scope N n idx) :
  QAL X [.Lambda params body scope lpos] params body scope lpos Pt q (jY X.env scope.names []) mX:=⟨aG4 hcode hC hq hdef S⟩
theorem aBW{e:Expr}{es:List Expr}{te:TE}{t:TA}(ha:QE X e te)(hr:QAL X es params body scope lpos Pt q cl t)(hn:noStar e=true:=by rfl):QAL X (e::es) params body scope lpos Pt q cl (bE te t):=
 ⟨aG5 ha.h hr.h (bM hn)⟩
theorem uR{f:Addr}{fd:FuncData}{ps psL N:List Str}{idx:List Nat}{sp:(Addr->Sp->Prop)->Sp}{k kc:Nat}{x:Str}{p:Pos}{e:Expr}{es:List Expr}{t:TA}{tl:TE}
  (F:∀base':Heap,bR X.prog X.w X.K X.mg base' iV k f fd ps (sp (Clo X.prog X.w X.K X.mg base' (kc+1)))) (hr:dG k X.A) (hg:Gl X x) (hm:X.mg x=some (.ref f)) (hk:W.keepIn X.K (.ref f)=true) (hb:Binds X.K fd ps [])
  (hfn:∀y,X.fn y=true) (S:dH X scope N psL.length idx) (hpre:N.take psL.length=psL) (hpar:psL.all (fun x=>scope.names.lookup x == some .local)=true) (hco:scope.isCoroutine=false) (hgen:scope.isGenerator=false)
  (hbind:∀(cl:List (Str×Addr)) (pm cd ct:Value) (us:List Value),us.length=psL.length->bindArgs (aBg q params body scope cl pm cd ct) ⟨us,[]⟩=pure (psL.zip us))
  (ha:QAL X (e::es) params body scope lpos Pt q (jY X.env scope.names []) t)
  (hbody:∀(base':Heap) (f' c':Addr) (cl:List (Str×Addr)) (A:Around) (outer:List Env) (s:Shared) (H:Hp),dG kc (A.deeper (qC q scope s.heap.objs.size f' (.ref c') cl))->(A.deeper (qC q scope s.heap.objs.size f' (.ref c') cl)).units+9 < cLine->QE (cxL X.prog X.w X.K X.mg base' N q scope f' (.ref c') cl A outer s H) body tl)
  (hn:(e::es).all noStar=true:=by rfl) (hdb:(x == ("__debug__" : Str))=false:=by decide) :
  QE X (.Call (.Name x p) (e::es) [] pos) (aD7 Pt lpos q sp psL.length tl idx t):=
 ⟨L2.uR F hr hg hm hk hb hfn S hpre hpar hco hgen hbind ha.h (fun base' f' c' cl A outer s H hr'=>(hbody base' f' c' cl A outer s H hr' (nM hr')).h) hdb (bM (fX hn).1) (gW (fX hn).2)⟩
theorem zG{i k:Nat}{x:Str}{p:Pos}{e:Expr}{es:List Expr}{t:TA}(hr:dG k X.A)(ha:QA X (e::es) t)(hN:X.N[i]?=some x:=by rfl)(hv:Vis X.env.scope x:=by first|exact Or.inl rfl|exact Or.inr (Or.inl rfl)|exact Or.inr (Or.inr rfl))
  (hn:(e::es).all noStar=true:=by rfl) (hd:(x == ("__debug__" : Str))=false:=by decide) (hcd:(x == ("__classdict__" : Str))=false:=by decide) :
  QE X (.Call (.Name x p) (e::es) [] pos) (aBV (Clo X.prog X.w X.K X.mg X.base k) i t):=⟨L2.zG hN hv hr ha.h hd hcd (bM (fX hn).1) (gW (fX hn).2)⟩
end
end L2.Z
namespace PySem
set_option maxRecDepth 100000
namespace F
theorem aD8:typeLookup (.type "list_reverseiterator") "__len__" = pure none:=by rw[typeLookup_type,builtinLookup_eq_fast];kernel_rfl
theorem aG8:typeLookup (.type "list_reverseiterator") "__length_hint__" = pure (some (.builtin "list_reverseiterator.__length_hint__")):=by rw[typeLookup_type,builtinLookup_eq_fast];kernel_rfl
end F
section
variable{prog:Program}{w:World}{A:Around}{E:Value->Shared->Prop}{s:Shared}
theorem zH{it l:Addr}{i:Int}{Q:Bool->Shared->Prop}(hit:s.heap.IsRevIter it l i)(h:Q false s):wpAny (model prog w) A (Builtin.List.listLengthHint (.ref it)) Q E s:=by
 unfold Builtin.List.listLengthHint;refine wpAny_bind (wpAny_specialOf hit.typeIs F.aD8 ?_)
 show wpAny _ A (specialOf (Value.ref it) (Str.ofString "__length_hint__") >>= _) _ _ _
 refine wpAny_bind (wpAny_specialOf hit.typeIs F.aG8 ?_)
 generalize hid:("list_reverseiterator.__length_hint__" : String)=id0
 wp_delta
 rw[show splitId id0=some ("list_reverseiterator","__length_hint__") from by subst hid;decide +kernel]
 subst hid
 refine wpAny_bind (wpAny_isInstance (T:="list_reverseiterator") (b:=true) hit.typeIs (by rw[isSubtype_type];kernel_rfl) ?_)
 exact wpAny_ite_split (fun z=>absurd z (by decide)) fun _=>wpAny_ite_split (fun _=>wpAny_ite_split (fun z=>absurd z (by decide +kernel)) fun _=>wpAny_pure h) fun z=>absurd (by decide +kernel) z
end
end PySem
namespace PySem
section
variable{prog:Program}{w:World}{A:Around}{E:Value->Shared->Prop}{s:Shared}
theorem wC{R:Result->Shared->Prop}{it l:Addr}{items:Array Value}(hh:A.handled=none)(hit:s.heap.IsRevIter it l ((items.size:Int) - 1))(hl:s.heap.IsList l items)(hne:l≠it)
  (hlen:items.size<=sizeLine) (S:Addr) (res:Value) (c₀:Nat) (hS:s.heap.get? S=some { cls:=.type "list",data:=.seq #[] c₀ }) (hSl:S≠l) (hSI:S≠it)
  (hR:∀h' tk acc' c',(∀b o,b≠S->b≠it->s.heap.get? b=some o->h'.get? b=some o)->h'.get? S=some { cls:=.type "list",dict:=none,data:=.seq acc' c',slots:=#[] }->
   ItemsOf (fun i v=>items[items.size - 1 - i]?=some v) acc' items.size->R (.ok (.ret res)) { s with heap:=h',toks:=tk }) :
  wpAny (model prog w) A.in1 (Builtin.List.listExtendWith (.ref S) (.ref it) res) (fun fin s'=>match fin with|.done f=>R (.ok f) s'|.again k=>k.quiet=true/\codeAny (model prog w) A k R s') (fun e s'=>R (.error e) s') s:=by
 have hSf:S∉[it,l]:=by simp[hSI,hSl]
 have W:=(Walks.listRev (prog:=prog) (w:=w) (A:=A.in1) hh it l hne items).toS
 unfold Builtin.List.listExtendWith;refine wpAny_bind (wpAny_typeOf (T:="list_reverseiterator") hit.typeIs ?_)
 have h1:Builtin.List.listSameRef (.ref S) (.ref it)=false:=by simp[Builtin.List.listSameRef,hSI]
 have h2:(Value.type "list_reverseiterator" == Value.type "list")=false:=by decide
 have h3:(Value.type "list_reverseiterator" == Value.type "tuple")=false:=by decide
 simp only[h1,h2,h3,Bool.false_eq_true,Bool.or_false,if_false]
 refine wpAny_bind (wpAny_pyIter_revIter hit (wpAny_bind (wpAny_holding (zH hit ?_))))
 refine wpAny_ite_split (fun z=>by cases z) (fun _=>wpAny_pure ⟨plainId_quiet F.plain_extend_loop _,?_⟩)
 refine codeAny_extend_loopS W hlen S hSf res items.size 0 _ #[] c₀ rfl (Nat.zero_le _) ⟨Nat.zero_le _,?_,hl⟩ hS (ItemsOf.nil _) fun s' acc' c' hm hS' hacc=>?_
 ·rw[show(items.size:Int) - 1 - ((0:Nat):Int)=(items.size:Int) - 1 by omega]
  exact hit
 ·rw[Moved.eq_with hm]
  exact hR s'.heap s'.toks acc' c' (fun b o hb hi e=>hm.heap b o (by simp[hb,hi]) e) hS' hacc
theorem aAy{Q:Value->Shared->Prop}{it l:Addr}{items:Array Value}(hh:A.handled=none)(hit:s.heap.IsRevIter it l ((items.size:Int) - 1))(hl:s.heap.IsList l items)(hne:l≠it)(hlen:items.size<=sizeLine)
  (hQ:∀h' tk acc' c',(∀b o,b≠it->s.heap.get? b=some o->h'.get? b=some o)->
   h'.get? s.heap.objs.size=some { cls:=.type "list",dict:=none,data:=.seq acc' c',slots:=#[] }->ItemsOf (fun i v=>items[items.size - 1 - i]?=some v) acc' items.size->Q (.ref s.heap.objs.size) { s with heap:=h',toks:=tk }) :
  wpAny (model prog w) A (call (.type "list") [.ref it]) Q E s:=by
 have lit:it < s.heap.objs.size:=let ⟨_,e,_⟩:=hit;Heap.lt_size e
 have ll:l < s.heap.objs.size:=let ⟨_,e,_⟩:=hl;Heap.lt_size e
 have hS:(s.heap.push { cls:=.type "list",data:=.seq #[] }).get? s.heap.objs.size=some { cls:=.type "list",data:=.seq #[] }:=by exact Heap.get?_push_size _ rfl
 have hS₂:=Heap.get?_update_self (Obj.mapSeq fun _=>(#[]:Array Value)) hS rfl
 have old:∀b o,s.heap.get? b=some o->((s.heap.push { cls:=.type "list",data:=.seq #[] }).update s.heap.objs.size (Obj.mapSeq fun _=>(#[]:Array Value))).get? b=some o:=
  fun b o e=>(Heap.get?_update_other _ _ (Nat.ne_of_gt (Heap.lt_size e))).trans (Heap.get?_push_of_some _ e)
 refine callType_codes (Q₁:=fun x t=>x=.ref s.heap.objs.size/\t={ s with heap:=s.heap.push { cls:=.type "list",data:=.seq #[] } }) F.called_list (F.typeCall_list_1 _) F.entry_list_init (code_list_new _ ⟨rfl,rfl⟩) ?_
 rintro x t ⟨rfl,rfl⟩
 refine⟨⟨_,hS,rfl⟩,F.args_list_init_2 _ _,?_⟩
 show wpAny _ _ (Builtin.List.listItems (.ref s.heap.objs.size) >>= fun old=>Builtin.List.listUpdate (.ref s.heap.objs.size) (fun _=>#[]) >>= fun _=>letGo old.toList.reverse >>= fun _=>Builtin.List.listExtendWith (.ref s.heap.objs.size) (.ref it) .none) _ _ _
 refine wpAny_bind (wpAny_listItems hS rfl ?_)
 show wpAny _ _ (updateSeq s.heap.objs.size (fun _=>#[]) >>= fun _=>letGo (#[]:Array Value).toList.reverse >>= fun _=>Builtin.List.listExtendWith (.ref s.heap.objs.size) (.ref it) .none) _ _ _
 refine wpAny_bind (wpAny_updateSeq hS rfl (wpAny_bind (wpAny_letGo (wC (A:=A.in1) hh (hit.at fun o e=>old _ _ e) (hl.at fun o e=>old _ _ e) hne hlen s.heap.objs.size .none _ hS₂ (Nat.ne_of_gt ll) (Nat.ne_of_gt lit) fun h' tk acc' c' hk hS' hacc=>?_))))
 exact⟨rfl,hQ h' tk acc' c' (fun b o hb e=>hk b o (Nat.ne_of_lt (Heap.lt_size e)) hb (old b o e)) hS' hacc⟩
end
end PySem
namespace L2
open PySem PySem.Spec PyProof.Rows
section
variable{X:Cx}
def zJ(t:TA):TE:=fun σ H Q=>t σ H fun vs H1=>∃l xs,vs=[.ref l]/\H1 l=some (.lst xs)/\∀q,H1 q=none->Q (.ref q) (upd H1 q (.lst xs.reverse))
theorem aG9{xs:List V}{us:List Value}(r:Vals xs us):Vals xs.reverse us.reverse:=by
 induction r with
 |nil=>exact .nil
 |cons h t ih=>
  simp only[List.reverse_cons]
  exact ih.append (.cons h .nil)
theorem tQ{e:Expr}{t:TA}{p1 p2 pos1 pos2:Pos}(hc:X.calm=true)(hg1:Gl X "list")(hm1:X.mg "list" = none)(hg2:Gl X "reversed")(hm2:X.mg "reversed" = none)(he:PA X [e] t)(hn:noStar e=true:=by rfl) :
  PE X (.Call (.Name "list" p1) [.Call (.Name "reversed" p2) [e] [] pos2] [] pos1) (zJ t):=by
 intro pins s σ H Q I h
 refine Call_ (oC I hg1 hm1 lN (PyProof.Rows.callWith_type1 (Calls.spliced_cons ?_) rfl rfl))
 refine Call_ (oC I hg2 hm2 boot_reversed (PyProof.Rows.callWith_type1 (cK (he pos2 pins s σ H _ I h) fun us s1 ⟨vs,H1,I1,r1,l,xs,ex,hl,q⟩=>?_) (bM hn) rfl))
 subst ex
 obtain⟨u,rfl,ru⟩:=vals1 r1
 obtain rfl:u=Value.ref l:=ru
 obtain⟨hz,its,n,rv,eo⟩:=I1.hok l _ hl
 have hlist:s1.heap.IsList l its.toArray:=⟨_,eo,rfl,n,rfl⟩
 refine call_reversed_list hlist (Calls.spliced_nil ?_)
 have hll:l < s1.heap.objs.size:=Heap.lt_size eo
 refine aAy (it:=s1.heap.objs.size) (l:=l) (items:=its.toArray) (I.ok.hd hc) ⟨_,Heap.get?_push_size _ rfl,rfl,rfl⟩ ⟨_,Heap.get?_push_of_some _ eo,rfl,n,rfl⟩ (Nat.ne_of_lt hll) (by rw[List.size_toArray,<-rv.length];exact hz) fun h' tk acc' c' hk hS ha=>?_
 have eacc:acc'.toList=its.reverse:=by
  obtain⟨h1,h2⟩:=ha
  refine List.ext_getElem? fun i=>?_
  by_cases hi:i < acc'.size
  ·have e1:acc'[i]?=some acc'[i]:=Array.getElem?_eq_getElem hi
   have e2:=h2 i _ e1
   rw[Array.getElem?_toList,e1,List.getElem?_reverse (by rw[h1,List.size_toArray] at hi;exact hi)]
   rw[<-e2,List.size_toArray,List.getElem?_toArray]
  ·rw[List.getElem?_eq_none (by rw[Array.length_toList];omega),List.getElem?_eq_none (by rw[List.length_reverse];rw[h1,List.size_toArray] at hi;omega)]
 have hv:Vals xs.reverse acc'.toList:=by rw[eacc];exact aG9 rv
 have sz:s1.heap.objs.size<=(s1.heap.push (revObj l ((its.toArray.size:Int) - 1))).objs.size:=by rw[Heap.size_push];omega
 exact⟨.ref _,_,I1.laid (t':=tk) (o:=.lst xs.reverse) (fun b u e=>hk b u (Nat.ne_of_lt (Heap.lt_size e)) (Heap.get?_push_of_some _ e)) sz ⟨by rw[List.length_reverse];exact hz,acc'.toList,c',hv,hS⟩,rfl,q _ (I1.hok.fresh sz)⟩
end
end L2
namespace L2
open PySem PySem.Spec PyProof.Rows
section
variable{X:Cx}
def aBi(K:W.Frag):List V->Hp->VK->Prop:=fun vs H Q=>∃(p:Addr) (ns:List Int),vs=[.ref p]/\bQ K H p (ns.map V.int)/\ns≠[]/\∀m,m∈ns->(∀x∈ns,m<=x)->Q (.int m) H
theorem rY(hc:X.calm=true):d9 X (.builtin "min") (aBi X.K):=by
 intro pins s σ H vs us Q I r h
 obtain⟨p,ns,rfl,hq,hne,q⟩:=h
 obtain⟨u,rfl,rx⟩:=vals1 r
 cases rx
 obtain⟨its,r',pl,hz⟩:=I.list hq
 have hi:=intsAre_of r'
 obtain⟨xs,hx⟩:=hi.allInts.items
 have e1:ns=xs.toList.map (·.1):=by rw[<-nums_intItems,<-hx];exact(show numsOf its.toArray.toList=ns from hi.numsOf).symm
 have hsz:0 < xs.size:=by
  have z:=List.length_pos_iff.mpr hne
  rw[e1,List.length_map,Array.length_toList] at z
  exact z
 refine min_intList (I.ok.hd hc) (hx▸pl.isList:s.heap.IsList p (intItems xs)) hsz fun v h' tk hv hk=>?_
 obtain⟨t,rfl⟩:=intItems_at hv
 obtain⟨h1,h2⟩:=argBest_lt (numAt xs) (xs.size - 1)
 refine⟨.int _,H,I.kept (t':=tk) hk,⟨t,rfl⟩,q _ ?_ fun x hx'=>?_⟩
 ·rw[e1,numAt_eq];exact getD_mem (by rw[List.length_map,Array.length_toList];omega)
 ·rw[e1] at hx'
  obtain⟨j,hj,rfl⟩:=mem_getD hx'
  rw[List.length_map,Array.length_toList] at hj
  rw[<-numAt_eq];exact h2 j (by omega)
theorem yM{K:W.Frag}{H:Hp}{Q:VK}{p:Addr}{ns:List Int}(h1:bQ K H p (ns.map V.int))(hne:ns≠[])(h:∀m,m∈ns->(∀x∈ns,m<=x)->Q (.int m) H):aBi K [.ref p] H Q:=⟨p,ns,rfl,h1,hne,h⟩
def zK:TE:=fun _ H Q=>(∀p,H p=none->Q (.ref p) (upd H p (.dK [])))\/∀p,H p=none->Q (.ref p) (upd H p (.dT []))
theorem kS{pos:Pos}:PE X (.Dict [] [] pos) zK:=by
 intro pins s σ H Q I h
 rcases h with h|h
 ·exact aGo pins s σ H Q I h
 ·exact aGp pins s σ H Q I h
theorem aFI{σ:St}{H:Hp}{Q:VK}(h:∀p,H p=none->Q (.ref p) (upd H p (.dK []))):zK σ H Q:=.inl h
theorem aBj{σ:St}{H:Hp}{Q:VK}(h:∀p,H p=none->Q (.ref p) (upd H p (.dT []))):zK σ H Q:=.inr h
def Itw(hi:Int)(n:Nat):It:=⟨fun i _=>i < n,fun i H x H'=>H'=H/\x=.int (hi - i),fun i _=>n<=i⟩
theorem aFJ{P:Program}{w:World}{K:W.Frag}{tg:Expr}(it:Addr)(hi:Int)(n:Nat):Turn P w K tg (Itw hi n) [it] it (fun i h=>IsRangeIter h it (hi+(i:Nat) * -1) ((n:Int) - (i:Nat)) (-1)) where
 mem:=by simp
 obj:=fun i h st b hb=>by
  have e:b=it:=by simpa using hb
  rw[e]
  exact⟨_,st,fun v z=>by
   have z':Data.fields _=Data.cell v:=z
   cases z'⟩
 keep:=fun i h h' st k=>k it (by simp) _ st
 item:=by
  intro X hP hw hK hc i pins s σ H E I hf st hg
  subst hP hw hK
  obtain⟨f0,f1,f2,f3,f4,f5⟩:=hf it (by simp)
  refine(Walks.range (prog:=X.prog) (w:=X.w) (I.ok.hd hc) it hi (-1) n).item i s _ _ hg st fun v h' tk hv st' kk=>?_
  obtain⟨t,rfl⟩:=hv
  refine⟨_,rfl,aEw (s:={ s with heap:=h',toks:=tk }) (n:="range_iterator") st' rfl rfl (by decide) ⟨.int (hi - i),H,I.turned (fun b o hb e=>kk b o (by simpa using hb) e) f0 f1 f3 f4 f5,⟨t,?_⟩,⟨rfl,rfl⟩,st',fun b hb=>(hf b hb).1⟩⟩
  congr 1
  omega
 done:=by
  intro X hP hw hK hc i pins s σ H E I hf st hg
  subst hP hw hK
  obtain⟨f0,f1,f2,f3,f4,f5⟩:=hf it (by simp)
  exact wpAny_pyNext_range_end (I.ok.hd hc) st (by have:n<=i:=hg;omega) fun h' eb=>⟨rfl,I.turned (t':=s.toks) (fun b o hb e=>eb b o hb e) f0 f1 f3 f4 f5⟩
 self:=fun _ _ _ _ _ st h=>wpAny_pyIter_rangeiter st h
theorem aBk(a b:Int):Builtin.Range.rangeSize a b (-1)=(((a - b).toNat:Nat):Int):=by
 unfold Builtin.Range.rangeSize
 rw[if_neg (by decide)]
 split
 ·rw[show -(-1:Int)=1 from rfl,Int.ediv_one];omega
 ·omega
theorem small_down{a b:Int}(h1:-(2 ^ 62)<=a)(h2:a < 2 ^ 62)(h3:-(2 ^ 62)<=b)(h4:b < 2 ^ 62):Builtin.Range.small a b (-1)=true:=by
 unfold Builtin.Range.small
 simp only[aBk,Builtin.Range.rangeFitsLong,Bool.and_eq_true,Bool.or_eq_true,decide_eq_true_eq,beq_iff_eq]
 rw[if_neg (by decide)]
 simp only[Bool.and_eq_true,decide_eq_true_eq]
 omega
def aHa(ta:TA):TI:=fun σ H R=>ta σ H fun vs H1=>∃i j:Int,vs=[.int i,.int j,.int (-1)]/\(-(2 ^ 62)<=i/\i < 2 ^ 62/\-(2 ^ 62)<=j/\j < 2 ^ 62)/\R (Itw i (i - j).toNat) H1
theorem rZ{a b c:Expr}{ta:TA}{p pos:Pos}{tg:Expr}(hg:Gl X "range")(hm:X.mg "range" = none)(ha:PA X [a,b,c] ta)(hn:[a,b,c].all noStar=true:=by rfl):PI X tg (.Call (.Name "range" p) [a,b,c] [] pos) (aHa ta):=by
 intro pins s σ H R I h
 refine Call_ (oC I hg hm boot_range (PyProof.Rows.callWith_type1 (cK (ha pos pins s σ H _ I h) fun us s1 ⟨vs,H1,I1,r1,i,j,e,⟨q1,q2,q3,q4⟩,q⟩=>?_) (bM (fX hn).1) (gW (fX hn).2)))
 subst e
 obtain⟨u1,us1,rfl,⟨t1,rfl⟩,r2⟩ : ∃u us',us=u::us'/\RelV (.int i) u/\Vals [.int j,.int (-1)] us':=by cases r1 with|cons h t=>exact⟨_,_,rfl,h,t⟩
 obtain⟨u2,u3,rfl,⟨t2,rfl⟩,⟨t3,rfl⟩⟩:=vals2 r2
 refine call_range_3 (by decide) ?_ (.inl (PyProof.noPylong_small (by decide)))
 refine wpAny_pyIter_range (IsRange.new ..) (small_down q1 q2 q3 q4) ?_
 have I2:Inv X pins σ H1 { s1 with heap:=s1.heap.push { cls:=.type "range",data:=.fields #[.int i t1,.int j t2,.int (-1) t3] } }:=I1.kept (t':=s1.toks) fun b o e=>Heap.get?_push_of_some _ e
 refine⟨_,[_],_,_,H1,rfl,I2.kept (t':=s1.toks) fun b o e=>Heap.get?_push_of_some _ e,aFJ _ i (i - j).toNat,?_,fun b hb=>?_,q⟩
 ·show IsRangeIter _ _ (i+((0:Nat):Int) * -1) ((((i - j).toNat:Nat):Int) - ((0:Nat):Int)) (-1)
  rw[show i+((0:Nat):Int) * -1=i by omega,show(((i - j).toNat:Nat):Int) - ((0:Nat):Int)=Builtin.Range.rangeSize i j (-1) by rw[aBk];omega]
  exact Heap.get?_push_size _ rfl
 ·have e:b=(s1.heap.push { cls:=.type "range",data:=.fields #[.int i t1,.int j t2,.int (-1) t3] }).objs.size:=by simpa using hb
  subst e
  exact I2.aDC (Nat.le_refl _) (I2.hok.fresh (Nat.le_refl _))
theorem aHb{ta:TA}{σ:St}{H:Hp}{R:It->Hp->Prop}(h:ta σ H fun vs H1=>∃i j:Int,vs=[.int i,.int j,.int (-1)]/\(-(2 ^ 62)<=i/\i < 2 ^ 62/\-(2 ^ 62)<=j/\j < 2 ^ 62)/\R (Itw i (i - j).toNat) H1):aHa ta σ H R:=h
theorem aEP{hi:Int}{n:Nat}{σ:St}{H:Hp}{nx:St->Hp->Prop}{rt:VK}{g:TG}{tb:TS}(Pv:Nat->St->Hp->Prop)(h0:Pv 0 σ H)
  (hs:∀i σ H,i < n->Pv i σ H->g (.int (hi - i)) σ H fun σ2 H2=>tb ⟨Pv (i+1),rt,nx,Pv (i+1)⟩ σ2 H2) (hd:∀σ H,Pv n σ H->nx σ H) :
  ∃W:Nat->Nat->St->Hp->Prop,(∃m,W 0 m σ H)/\∀i m σ H,W i m σ H->
   ((Itw hi n).stop i H/\nx σ H)\/((Itw hi n).go i H/\∃N:St->Hp->Prop,(∀σ' H',N σ' H'->∃m',m' < m/\W (i+1) m' σ' H')/\∀x H',(Itw hi n).yld i H x H'->g x σ H' fun σ2 H2=>tb ⟨N,rt,nx,N⟩ σ2 H2):=by
 refine⟨fun i m σ H=>m=n - i/\i<=n/\Pv i σ H,⟨n,by omega,Nat.zero_le _,h0⟩,?_⟩
 rintro i m σ H ⟨rfl,hi',p⟩
 by_cases h:i < n
 ·refine .inr ⟨h,Pv (i+1),fun σ' H' p'=>⟨n - (i+1),by omega,rfl,h,p'⟩,?_⟩
  rintro x H' ⟨rfl,rfl⟩
  exact hs i σ H' h p
 ·have e:i=n:=by omega
  subst e
  exact .inl ⟨Nat.le_refl _,hd σ H p⟩
end
end L2
namespace L2.Z
open PySem PySem.Spec PyProof.Rows L2
section
variable{X:Cx}{tg:Expr}
theorem tQ{e:Expr}{t:TA}{p1 p2 pos1 pos2:Pos}(hc:X.calm=true)(hg1:Gl X "list")(hm1:X.mg "list" = none)(hg2:Gl X "reversed")(hm2:X.mg "reversed" = none)(he:QA X [e] t)(hn:noStar e=true:=by rfl) :
  QE X (.Call (.Name "list" p1) [.Call (.Name "reversed" p2) [e] [] pos2] [] pos1) (zJ t):=⟨L2.tQ hc hg1 hm1 hg2 hm2 he.h hn⟩
theorem kS{pos:Pos}:QE X (.Dict [] [] pos) zK:=⟨L2.kS⟩
theorem rZ{a b c:Expr}{ta:TA}{p pos:Pos}(hg:Gl X "range")(hm:X.mg "range" = none)(ha:QA X [a,b,c] ta)(hn:[a,b,c].all noStar=true:=by rfl):QI X tg (.Call (.Name "range" p) [a,b,c] [] pos) (aHa ta):=⟨L2.rZ hg hm ha.h hn⟩
theorem aC7{P:Program}{w:World}{K:W.Frag}{mg:Str->Option Value}{base:Heap}{i k:Nat}{x:Str}{p pos:Pos}{e:Expr}{es:List Expr}{t:TA}(hr:dG k X.A)(ha:QA X (e::es) t)(hP:X.prog=P:=by rfl)(hw:X.w=w:=by rfl)(hK:X.K=K:=by rfl)(hg:X.mg=mg:=by rfl)(hB:X.base=base:=by rfl)
  (hN:X.N[i]?=some x:=by rfl) (hv:Vis X.env.scope x:=by first|exact Or.inl rfl|exact Or.inr (Or.inl rfl)|exact Or.inr (Or.inr rfl))
  (hn:(e::es).all noStar=true:=by rfl) (hd:(x == ("__debug__" : Str))=false:=by decide) (hcd:(x == ("__classdict__" : Str))=false:=by decide) :
  QE X (.Call (.Name x p) (e::es) [] pos) (aBV (Clo P w K mg base k) i t):=by
 subst hP hw hK hg hB
 exact zG hr ha hN hv hn hd hcd
end
end L2.Z
namespace L2
open PySem
section
variable{σ:St}{H:Hp}{Q:VK}
theorem aD9{t:TA}(h:t σ H fun vs H1=>∃l xs,vs=[.ref l]/\H1 l=some (.lst xs)/\∀q,H1 q=none->Q (.ref q) (upd H1 q (.lst xs.reverse))):zJ t σ H Q:=h
end
end L2
namespace L2
open PySem PySem.Spec PySem.W PyProof.Rows
theorem aFK{prog:Program}{w:World}{A:Around}(hh:A.handled=none)(I d:Addr)(hne:d≠I)(es:Array DictEntry)(ep:Nat) :
  Walks prog w A I [I,d] [I] es.size (fun i v=>∃e,es[i]?=some e/\v=e.key) (fun i h=>It4 "dict_keyiterator" h I d i es.size ep/\Raw h d es ep) where
 sub:=fun b hb=>List.mem_cons.mpr (.inl (by simpa using hb))
 frame:=fun _ _ _ st hk=>⟨st.1.keep fun o e=>hk I (by simp) o e,st.2.keep fun o e=>hk d (by simp) o e⟩
 item:=fun i s Q E hi st hQ=>by
  have hx:es[i]?=some es[i]:=Array.getElem?_eq_getElem hi
  refine aC4 st.1 st.2 hx fun h' a b=>hQ es[i].key h' s.toks ⟨_,hx,rfl⟩ ⟨a,st.2.keep fun o e=>b.extBut d o hne e⟩ fun b' o hb e=>b.extBut b' o (fun z=>hb (List.mem_singleton.mpr z)) e
 done:=fun s Q E st hQ=>aD0 hh st.1 st.2 (Nat.le_refl _) fun h' z=>hQ h' s.toks fun b o hb e=>z b o (fun y=>hb (List.mem_singleton.mpr y)) e
 self:=fun _ _ _ _ st hQ=>wpAny_pyIter_keyiter st.1 hQ
theorem aFL{prog:Program}{w:World}{d:Addr}{es:Array DictEntry}{ep:Nat}(lo:(d == sysModules)=false):KdlSrc prog w "dict" d d es.size (fun i v=>∃e,es[i]?=some e/\v=e.key) (fun h=>Raw h d es ep) where
 type:=fun _ hm=>hm.ty
 there:=fun _ hm=>let ⟨_,e,_⟩:=hm;⟨Heap.lt_size e,Heap.lt_size e⟩
 keep:=fun _ _ hm hk=>hm.keep fun o e=>hk d (.inl rfl) o e
 notList:=by decide
 notTuple:=by decide
 hint:=fun _ _ _ _ hm hq=>kdl_hint_dict hm.ty hq
 iter:=fun _ _ hh hm=>⟨_,_,(fun _ _ hq=>aBR lo hm hq),aFK hh _ d (Nat.ne_of_lt (let ⟨_,e,_⟩:=hm;Heap.lt_size e)) es ep,⟨⟨_,Heap.get?_push_size _ rfl,rfl,rfl⟩,hm.keep fun o e=>Heap.get?_push_of_some _ e⟩⟩
section
variable{X:Cx}
def aEa:List V->Hp->VK->Prop:=fun xs H Q=>∃(d:Addr) (kvs:List (List Key×V)) (ts:List (List Int)),xs=[.ref d]/\H d=some (.dT kvs)/\kvs.map (·.1)=ts.map (fun t=>t.map Sum.inl)/\(∀t∈ts,t≠[])/\ts.length < 64/\
 ∀(p:Addr) (qs:List Addr) (us:List (List Int)),H p=none->cF H qs us->us.Perm ts->us.Pairwise (fun a b=>nR b a=false)->Q (.ref p) (upd H p (.lst (qs.map V.ref)))
theorem aBX(hc:X.calm=true):d9 X (.builtin "sorted") aEa:=by
 intro pins s σ H xs us Q I r h
 obtain⟨d,kvs,ts,rfl,hd,ek,hne,h64',q⟩:=h
 obtain⟨u,rfl,ru⟩:=vals1 r
 cases ru
 obtain⟨lo,ob,es,ep,ys,g1,g2,g3,rel,g4,g5⟩:=aD1 (show bJ X.prog X.w H s.heap d (.dT kvs) from I.hok d _ hd)
 have raw:Raw s.heap d es ep:=⟨ob,g1,g2.1,g3⟩
 have hkl:kvs.length=ts.length:=by have:=congrArg List.length ek;simpa using this
 have hyl:ys.length=kvs.length:=(Paired.length rel).symm
 have ht:cF H (ys.map (·.2.1)) ts:=by
  refine⟨by rw[List.length_map,hyl,hkl],fun j a t x y=>?_⟩
  have hj:j < kvs.length:=by rw[hkl];exact(List.getElem?_eq_some_iff.mp y).1
  obtain⟨p,hp,hb,_⟩:=aBT rel (List.getElem?_eq_getElem hj)
  rw[List.getElem?_map,hp] at x
  cases x
  refine⟨?_,hne t (List.mem_of_getElem? y)⟩
  have e3:(kvs.map (·.1))[j]?=some kvs[j].1:=by rw[List.getElem?_map,List.getElem?_eq_getElem hj];rfl
  rw[ek,List.getElem?_map,y] at e3
  have e4:t.map Sum.inl=kvs[j].1:=Option.some.inj e3
  rw[hb,<-e4,List.map_map]
  rfl
 have hv:((ys.map (·.2.1)).map Value.ref).length=ts.length:=by rw[List.length_map];exact ht.len
 refine Calls.call_function_entry kind_sorted plain_sorted entry_sorted (args_sorted1 (.ref d)) ?_
 unfold Builtin.«sorted»
 refine wpAny_bind (m:=checkCount "sorted" 1 1 _) (wpAny_pure (wpAny_bind (PySem.W.kdu_collect (A:=X.A.in1) (aFL (es:=es) (ep:=ep) lo) (I.ok.hd hc) raw (by rw[sizeLine_eq];omega) fun h1 tk acc k0 hacc=>?_)))
 have ea:acc.toList=(ys.map (·.2.1)).map Value.ref:=by
  refine List.ext_getElem? fun j=>?_
  by_cases hj:j < kvs.length
  ·have hja:j < acc.size:=by rw[hacc.1,g5];exact hj
   have e1:acc[j]?=some acc[j]:=Array.getElem?_eq_getElem hja
   obtain⟨e,he,ev⟩:=hacc.2 j _ e1
   obtain⟨p,hp,hb,_⟩:=aBT rel (List.getElem?_eq_getElem hj)
   rw[entry_at g4,hp] at he
   cases he
   rw[Array.getElem?_toList,e1,ev,List.getElem?_map,List.getElem?_map,hp]
   rfl
  ·rw[List.getElem?_eq_none (by rw[Array.length_toList,hacc.1,g5];omega),List.getElem?_eq_none (by rw[List.length_map,List.length_map,hyl];omega)]
 rw[ea]
 generalize hqs:ys.map (·.2.1)=qs at ht hv ea
 have hq:=ht.len
 have h64:qs.length < 64:=by omega
 refine wpAny_bind (wpAny_newList ?_ (by rw[hv,sizeLine_eq];omega))
 have k1:∀b o,s.heap.get? b=some o->(h1.push (seqObj "list" (qs.map Value.ref).toArray 0)).get? b=some o:=fun b o g=>Heap.get?_push_of_some _ (k0 b o g)
 have gD:(h1.push (seqObj "list" (qs.map Value.ref).toArray 0)).get? h1.objs.size=some (seqObj "list" (qs.map Value.ref).toArray 0):=Heap.get?_push_size _ rfl
 refine wpAny_bind (wpAny_holding (wpAny_call_entry (s:={ s with heap:=h1.push (seqObj "list" (qs.map Value.ref).toArray 0),toks:=tk }) slot_list_sort ⟨_,gD,rfl⟩ entry_list_sort (aBf gD ((ht.pN I).keeps fun b o _ g=>k1 b o g) (by rw[hv,<-hq];exact h64) fun p hr hu=>⟨_,rfl,?_⟩) (args_list_sort (.ref h1.objs.size))))
 rw[hv,<-hq] at hr hu
 have pl:p.toList.Perm (List.range qs.length):=by simpa using Array.perm_iff_toList_perm.mp hr
 have plen:p.toList.length=qs.length:=by have:=pl.length_eq;simpa using this
 have eo:(nS (qs.map Value.ref) p).toList=(p.toList.map fun i=>qs.getD i 0).map Value.ref:=by
  unfold nS
  show p.toList.map (fun i=>(qs.map Value.ref).getD i Value.none)=_
  rw[List.map_map]
  refine List.map_congr_left fun i hi=>?_
  have li:i < qs.length:=List.mem_range.mp (pl.mem_iff.mp hi)
  show(qs.map Value.ref).getD i Value.none=Value.ref (qs.getD i 0)
  simp[List.getD_eq_getElem?_getD,List.getElem?_eq_getElem li]
 refine wpAny_pure ⟨_,rfl,?_⟩
 obtain⟨c,hc2⟩:=sortedHeap_at (out:=nS (qs.map Value.ref) p) gD
 have T':cF H (p.toList.map fun i=>qs.getD i 0) (p.toList.map fun i=>ts.getD i []):=by
  refine⟨by rw[List.length_map,List.length_map],fun j a b x y=>?_⟩
  rw[List.getElem?_map] at x y
  obtain⟨i,e1,e2⟩:=Option.map_eq_some_iff.mp x
  rw[e1] at y
  have li:i < qs.length:=List.mem_range.mp (pl.mem_iff.mp (List.mem_of_getElem? e1))
  refine ht.at_ i a b ?_ ?_
  ·rw[<-e2];simp[List.getD_eq_getElem?_getD,List.getElem?_eq_getElem li]
  ·cases y
   simp[List.getD_eq_getElem?_getD,List.getElem?_eq_getElem (show i < ts.length by omega)]
 obtain⟨hn,I2⟩:=I.aI9 (t':=tk) (h':=sortedHeap (h1.push (seqObj "list" (qs.map Value.ref).toArray 0)) h1.objs.size (qs.map Value.ref) (nS (qs.map Value.ref) p)) (a:=h1.objs.size) (o:=.lst ((p.toList.map fun i=>qs.getD i 0).map V.ref)) (fun b ob g=>by
   have lb:b < h1.objs.size:=Heap.lt_size (k0 b ob g)
   rw[sortedHeap_old (Nat.ne_of_lt lb) (by rw[size_push'];exact Nat.lt_succ_of_lt lb)]
   exact k1 b ob g) (fun b ob g=>Nat.ne_of_lt (Heap.lt_size (k0 b ob g)))
  ⟨by rw[List.length_map,List.length_map,plen,sizeLine_eq];omega,(p.toList.map fun i=>qs.getD i 0).map Value.ref,c,tO _,by rw[<-eo,Array.toArray_toList];exact hc2⟩
 refine⟨.ref h1.objs.size,_,I2,rfl,q _ _ _ hn T' ?_ ?_⟩
 ·have:=pl.map (fun i=>ts.getD i [])
  rw[hq,range_getD] at this
  exact this
 ·rw[List.pairwise_iff_getElem]
  intro i j hi hj hij
  rw[List.length_map,plen] at hi hj
  have key:∀k (hk:k < p.toList.length),(p.toList.map fun i=>ts.getD i [])[k]'(by rw[List.length_map];exact hk)=kq (O:=aDZ) (fun i=>ts.getD i []) p k:=fun k hk=>by
   rw[List.getElem_map]
   unfold kq
   have:p.getD k 0=p.toList[k]:=by
    have hk':k < p.size:=by simpa using hk
    simp[Array.getD,hk']
   rw[this]
  rw[key i (by omega),key j (by omega)]
  exact hu i j (by omega) hj
end
section
variable{H:Hp}{Q:VK}
theorem aHc{d:Addr}{kvs:List (List Key×V)}{ts:List (List Int)}(h:H d=some (.dT kvs))(e:kvs.map (·.1)=ts.map (fun t=>t.map Sum.inl))(hne:∀t∈ts,t≠[])(hl:ts.length < 64)(q:∀(p:Addr) (qs:List Addr) (us:List (List Int)),H p=none->cF H qs us->us.Perm ts->us.Pairwise (fun a b=>nR b a=false)->Q (.ref p) (upd H p (.lst (qs.map V.ref)))):aEa [.ref d] H Q:=⟨d,kvs,ts,rfl,h,e,hne,hl,q⟩
end
end L2
namespace L2
open PySem
namespace ST
theorem least{P:Nat->Prop}:∀{n:Nat},P n->∃m,m<=n/\P m/\∀k,k < m->¬P k:=by
 intro n
 induction n using Nat.strongRecOn with
 |_ n ih=>
  intro h
  by_cases hx:∃k,k < n/\P k
  ·obtain⟨k,hk,pk⟩:=hx
   obtain⟨m,a,b,c⟩:=ih k hk pk
   exact⟨m,by omega,b,c⟩
  ·exact⟨n,Nat.le_refl _,h,fun k hk pk=>hx ⟨k,hk,pk⟩⟩
theorem aEQ{α:Type}[DecidableEq α]:∀{l l':List α},l.Nodup->(∀x∈l,x∈l')->l.length<=l'.length
 |[],_,_,_=>Nat.zero_le _
 |a::l,l',hn,hs=>by
  rw[List.nodup_cons] at hn
  have ha:=hs a List.mem_cons_self
  have:=aEQ (l':=l'.erase a) hn.2 (fun x hx=>(List.mem_erase_of_ne (fun(e:x=a)=>hn.1 (e▸hx))).mpr (hs x (List.mem_cons_of_mem _ hx)))
  rw[List.length_erase_of_mem ha] at this
  have:0 < l'.length:=List.length_pos_of_mem ha
  simp only[List.length_cons]
  omega
def ru(M i:Nat):Nat:=SetTable.runEnd M i - i
theorem aLz(M i:Nat):ru M i<=9:=by unfold ru SetTable.runEnd;split <;> omega
theorem aHd{M i:Nat}(h:i<=M):i+ru M i<=M:=by unfold ru SetTable.runEnd;split <;> omega
def lp(M:Nat)(h:Int):Nat->Nat×Nat
 |0=>(SetTable.bits h % (M+1),SetTable.bits h)
 |k+1=>SetTable.leap M (lp M h k).1 (lp M h k).2
theorem aHe(M:Nat)(h:Int):∀k,(lp M h k).1<=M
 |0=>Nat.le_of_lt_succ (Nat.mod_lt _ (Nat.succ_pos _))
 |k+1=>Nat.le_of_lt_succ (Nat.mod_lt _ (Nat.succ_pos _))
theorem aIC(h:Int):SetTable.bits h < 2 ^ 64:=by unfold SetTable.bits;omega
theorem aHf(M:Nat)(h:Int):∀k,(lp M h k).2=SetTable.bits h / 32 ^ k
 |0=>by simp[lp]
 |k+1=>by
  show(lp M h k).2 / 32=_
  rw[aHf M h k,Nat.div_div_eq_div_mul,Nat.pow_succ]
theorem aKD(M:Nat)(h:Int)(k:Nat):(lp M h (13+k)).2=0:=by
 rw[aHf]
 apply Nat.div_eq_of_lt
 have h1:=aIC h
 have h2:32 ^ 13<=32 ^ (13+k):=Nat.pow_le_pow_right (by decide) (by omega)
 have h3:(2:Nat) ^ 64<=32 ^ 13:=by decide
 omega
def it(M:Nat):Nat->Nat->Nat
 |0,i=>i
 |k+1,i=>(it M k i*5+1) % (M+1)
theorem aBY(M a i:Nat):∀b,it M (a+b) i=it M b (it M a i)
 |0=>rfl
 |b+1=>by
  show(it M (a+b) i*5+1) % (M+1)=_
  rw[aBY M a i b];rfl
theorem aJa(M:Nat)(h:Int):∀k,(lp M h (13+k)).1=it M k (lp M h 13).1
 |0=>rfl
 |k+1=>by
  show((lp M h (13+k)).1*5+1+(lp M h (13+k)).2 / 32) % (M+1)=_
  rw[aKD,aJa M h k];rfl
def Msk(M:Nat):Prop:=M=7\/M=31\/M=127
def orb(M:Nat):Nat->Nat->List Nat
 |0,_=>[]
 |n+1,i=>i::orb M n ((i*5+1) % (M+1))
theorem aER{M:Nat}:∀{n k e:Nat},e∈orb M n (it M k 0)->∃j,j < n/\it M (k+j) 0=e
 |0,_,_,h=>by cases h
 |n+1,k,e,h=>by
  rcases List.mem_cons.mp h with h|h
  ·exact⟨0,Nat.succ_pos _,h.symm⟩
  ·obtain⟨j,a,b⟩:=aER (n:=n) (k:=k+1) h
   exact⟨j+1,by omega,by rw[<-b];congr 1;omega⟩
theorem aLT{M:Nat}(hM:Msk M):(∀e,e<=M->∃k,k < M+1/\it M k 0=e)/\it M (M+1) 0=0:=by
 have key:∀M,(List.range (M+1)).all (fun e=>(orb M (M+1) 0).contains e)=true->∀e,e<=M->∃k,k < M+1/\it M k 0=e:=fun M h e he=>by
  have:=List.all_eq_true.mp h e (List.mem_range.mpr (by omega))
  obtain⟨j,a,b⟩:=aER (k:=0) (by show e∈orb M (M+1) 0;simpa using this)
  exact⟨j,a,by simpa using b⟩
 rcases hM with rfl|rfl|rfl
 ·exact⟨key _ (by decide +kernel),by decide +kernel⟩
 ·exact⟨key _ (by decide +kernel),by decide +kernel⟩
 ·exact⟨key _ (by decide +kernel),by decide +kernel⟩
theorem cov{M i e:Nat}(hM:Msk M)(hi:i<=M)(he:e<=M):∃k,k < M+1/\it M k i=e:=by
 obtain⟨c,z⟩:=aLT hM
 obtain⟨a,ha,rfl⟩:=c i hi
 obtain⟨b,hb,rfl⟩:=c e he
 by_cases hab:a<=b
 ·exact⟨b - a,by omega,by rw[<-aBY];congr 1;omega⟩
 ·refine⟨b+(M+1) - a,by omega,?_⟩
  rw[<-aBY,show a+(b+(M+1) - a)=(M+1)+b by omega,aBY,z]
theorem cover{M e:Nat}(hM:Msk M)(he:e<=M)(h:Int):∃k,k<=13+M/\(lp M h k).1=e:=by
 obtain⟨k,hk,e1⟩:=cov hM (aHe M h 13) he
 exact⟨13+k,by omega,by rw[aJa];exact e1⟩
def stp(M:Nat)(p:SetTable.Probe):SetTable.Probe:=
 if p.more > 0 then { p with j:=p.j+1,more:=p.more - 1 } else
 let (i,perturb):=SetTable.leap M p.i p.perturb
 { p with j:=i,more:=SetTable.runEnd M i - i,i,perturb }
def R(M:Nat)(h:Int)(k:Nat):SetTable.Probe:={ j:=(lp M h k).1,more:=ru M (lp M h k).1,i:=(lp M h k).1,perturb:=(lp M h k).2,dummy:=none }
def pt(M:Nat)(h:Int):Nat->SetTable.Probe
 |0=>R M h 0
 |n+1=>stp M (pt M h n)
theorem aHg(t:SetTable)(h:Int):t.probeStart h=pt t.mask h 0:=rfl
def pj(M:Nat)(h:Int)(n:Nat):Nat:=(pt M h n).j
theorem aHh(M:Nat)(h:Int):∀n,(pt M h n).dummy=none
 |0=>rfl
 |n+1=>by
  show(stp M (pt M h n)).dummy=none
  unfold stp
  split
  ·exact aHh M h n
  ·exact aHh M h n
theorem aJb(M:Nat)(h:Int):∀n,(pt M h n).j+(pt M h n).more<=M
 |0=>aHd (aHe M h 0)
 |n+1=>by
  have ih:=aJb M h n
  show(stp M (pt M h n)).j+(stp M (pt M h n)).more<=M
  unfold stp
  split
  ·dsimp only;omega
  ·exact aHd (Nat.le_of_lt_succ (Nat.mod_lt _ (Nat.succ_pos _)))
theorem aJc(M:Nat)(h:Int)(n:Nat):pj M h n<=M:=by have:=aJb M h n;unfold pj;omega
theorem aBZ{M:Nat}{h:Int}{k n:Nat}(e:pt M h n=R M h k):∀d,d<=ru M (lp M h k).1->pt M h (n+d)={ R M h k with j:=(lp M h k).1+d,more:=ru M (lp M h k).1 - d }
 |0,_=>e
 |d+1,hd=>by
  show stp M (pt M h (n+d))=_
  rw[aBZ e d (by omega)]
  unfold stp
  rw[if_pos (by dsimp only;omega)]
  rfl
theorem aES{M:Nat}{h:Int}{k n:Nat}(e:pt M h n=R M h k):pt M h (n+ru M (lp M h k).1+1)=R M h (k+1):=by
 show stp M (pt M h (n+ru M (lp M h k).1))=_
 rw[aBZ e _ (Nat.le_refl _)]
 unfold stp
 rw[if_neg (by dsimp only;omega)]
 rfl
theorem aHi(M:Nat)(h:Int):∀k,∃n,n<=10*k/\pt M h n=R M h k
 |0=>⟨0,Nat.le_refl _,rfl⟩
 |k+1=>by
  obtain⟨n,a,b⟩:=aHi M h k
  have:=aLz M (lp M h k).1
  exact⟨_,by omega,aES b⟩
def Fst(oc:Nat->Prop)(M:Nat)(h:Int)(n:Nat):Prop:=¬oc (pj M h n)/\∀m,m < n->oc (pj M h m)
def Rch(oc:Nat->Prop)(M:Nat)(h:Int)(j:Nat):Prop:=∃n,pj M h n=j/\∀m,m < n->oc (pj M h m)
theorem Rch.mono{oc oc':Nat->Prop}{M:Nat}{h:Int}{j:Nat}(x:Rch oc M h j)(hm:∀i,oc i->oc' i):Rch oc' M h j:=let ⟨n,a,b⟩:=x;⟨n,a,fun m hm'=>hm _ (b m hm')⟩
theorem aKE{oc:Nat->Prop}{M e:Nat}(hM:Msk M)(he:e<=M)(ne:¬oc e)(h:Int):∃n,n<=10*(13+M)/\Fst oc M h n:=by
 obtain⟨k,hk,ek⟩:=cover hM he h
 obtain⟨n,hn,en⟩:=aHi M h k
 obtain⟨m,a,b,c⟩:=least (P:=fun n=>¬oc (pj M h n)) (n:=n) (by show ¬oc (pt M h n).j;rw[en];show ¬oc (lp M h k).1;rw[ek];exact ne)
 exact⟨m,by omega,b,fun k' hk'=>Classical.byContradiction fun z=>c k' hk' z⟩
def Ris(xs:Array Nat):Prop:=∀i k,i < k->k < xs.size->xs.getD i 0 < xs.getD k 0
theorem aKF{xs:Array Nat}{i:Nat}(hi:i < xs.size)(d:Nat):xs.getD i d=xs.getD i 0:=by simp[Array.getD,hi]
def Cut(xs:Array Nat)(j r:Nat):Prop:=r<=xs.size/\(∀i,i < r->xs.getD i 0 < j)/\∀i,r<=i->i < xs.size->j<=xs.getD i 0
theorem zL{xs:Array Nat}{j:Nat}(hr:Ris xs):∀f lo hi,hi - lo<=f->lo<=hi->hi<=xs.size->(∀i,i < lo->xs.getD i 0 < j)->(∀i,hi<=i->i < xs.size->j<=xs.getD i 0)->Cut xs j (SetTable.below.go xs j f lo hi)
 |0,lo,hi,hf,h1,h2,h3,h4=>by
  have e:lo=hi:=by omega
  subst e
  exact⟨h2,h3,h4⟩
 |f+1,lo,hi,hf,h1,h2,h3,h4=>by
  unfold SetTable.below.go
  split
  ·rename_i hlt
   have hm:(lo+hi) / 2 < xs.size:=by omega
   dsimp only
   rw[aKF hm]
   by_cases hl:xs.getD ((lo+hi) / 2) 0 < j
   ·rw[if_pos hl]
    refine zL hr f ((lo+hi) / 2+1) hi (by omega) (by omega) h2 (fun i hi'=>?_) h4
    by_cases z:i=(lo+hi) / 2
    ·rw[z];exact hl
    ·exact Nat.lt_trans (hr i ((lo+hi) / 2) (by omega) hm) hl
   ·rw[if_neg hl]
    refine zL hr f lo ((lo+hi) / 2) (by omega) (by omega) (by omega) h3 (fun i hi' hs=>?_)
    by_cases z:i=(lo+hi) / 2
    ·rw[z];omega
    ·have:=hr ((lo+hi) / 2) i (by omega) hs
     omega
  ·have e:lo=hi:=by omega
   subst e
   exact⟨h2,h3,h4⟩
theorem sA{xs:Array Nat}(hr:Ris xs)(j:Nat):Cut xs j (SetTable.below xs j):=
 zL hr _ _ _ (by omega) (by omega) (Nat.le_refl _) (fun i hi=>by omega) (fun i a b=>by omega)
theorem aBl{xs:Array Nat}{i j:Nat}(h:xs[i]?=some j):i < xs.size/\xs.getD i 0=j:=by
 obtain⟨a,b⟩:=Array.getElem?_eq_some_iff.mp h
 exact⟨a,by simp[Array.getD,a,b]⟩
theorem below_at{xs:Array Nat}(hr:Ris xs){i j:Nat}(h:xs[i]?=some j):SetTable.below xs j=i:=by
 obtain⟨a,b⟩:=aBl h
 obtain⟨c1,c2,c3⟩:=sA hr j
 rcases Nat.lt_trichotomy (SetTable.below xs j) i with z|z|z
 ·have h1:=c3 _ (Nat.le_refl _) (by omega)
  have h2:=hr _ _ z a
  omega
 ·exact z
 ·have:=c2 i z
  omega
theorem wD{t:SetTable}(hr:Ris t.place){i j:Nat}(h:t.place[i]?=some j):t.slot j=.live i:=by
 unfold SetTable.slot
 dsimp only
 rw[below_at hr h,h]
 simp
theorem aET(j:Nat):SetTable.has #[] j=false:=by simp[SetTable.has]
theorem aEb{t:SetTable}(hd:t.dummies = #[]){j:Nat}(h:j∉t.place.toList):t.slot j=.empty:=by
 unfold SetTable.slot
 dsimp only
 rw[hd,aET]
 have:(t.place[SetTable.below t.place j]? == some j)=false:=by
  rw[beq_eq_false_iff_ne]
  intro z
  exact h (by rw[<-Array.mem_def];exact Array.mem_of_getElem? z)
 rw[this]
 rfl
theorem aC8{t:SetTable}(hd:t.dummies = #[])(hr:Ris t.place){h:Int}{ha:Nat->Int}{N:Nat}(F:Fst (·∈t.place.toList) t.mask h N):∀f m,m<=N->N < f+m->
  (SetTable.probe.go t ha h f (pt t.mask h m)=some (.empty (pj t.mask h N) none)/\∀n i,m<=n->n < N->t.place[i]?=some (pj t.mask h n)->ha i≠h)\/
  ∃n i,m<=n/\n < N/\t.place[i]?=some (pj t.mask h n)/\ha i=h/\SetTable.probe.go t ha h f (pt t.mask h m)=some (.candidate (pj t.mask h n) i (pt t.mask h (n+1)))/\∀n' i',m<=n'->n' < n->t.place[i']?=some (pj t.mask h n')->ha i'≠h
 |0,m,h1,h2=>by omega
 |f+1,m,h1,h2=>by
  by_cases e:m=N
  ·subst e
   left
   refine⟨?_,fun n i a b=>by omega⟩
   unfold SetTable.probe.go
   rw[show(pt t.mask h m).j=pj t.mask h m from rfl,aEb hd F.1,aHh]
  ·have hm:m < N:=by omega
   have hin:=F.2 m hm
   obtain⟨i,hi⟩:=List.mem_iff_getElem?.mp hin
   rw[Array.getElem?_toList] at hi
   have hs:=wD hr hi
   by_cases hh:ha i=h
   ·right
    refine⟨m,i,Nat.le_refl _,hm,hi,hh,?_,fun n' i' a b=>by omega⟩
    unfold SetTable.probe.go
    rw[show(pt t.mask h m).j=pj t.mask h m from rfl,hs]
    simp only[hh,beq_self_eq_true,if_true]
    rfl
   ·have eg:SetTable.probe.go t ha h (f+1) (pt t.mask h m)=SetTable.probe.go t ha h f (pt t.mask h (m+1)):=by
     rw[SetTable.probe.go.eq_2]
     rw[show(pt t.mask h m).j=pj t.mask h m from rfl,hs]
     simp only[beq_iff_eq,hh,if_false]
     rfl
    rw[eg]
    have no:∀n i',m<=n->¬m+1<=n->t.place[i']?=some (pj t.mask h n)->ha i'≠h:=fun n i' a b z=>by
     have en:n=m:=by omega
     subst en
     have:i'=i:=by rw[<-below_at hr z,below_at hr hi]
     rw[this];exact hh
    rcases aC8 hd hr F f (m+1) (by omega) (by omega) with ⟨a,b⟩|⟨n,i2,a,b,c,d,e',g⟩
    ·exact .inl ⟨a,fun n i' x y z=>if w:m+1<=n then b n i' w y z else no n i' x w z⟩
    ·exact .inr ⟨n,i2,by omega,b,c,d,e',fun n' i' x y z=>if w:m+1<=n' then g n' i' w y z else no n' i' x w z⟩
theorem jX{α:Type}{xs:Array α}{p:Nat}(hp:p<=xs.size)(x:α)(i:Nat):(SetTable.insertAt xs p x)[i]?=if i < p then xs[i]? else if i=p then some x else xs[i - 1]?:=by
 have e:(SetTable.insertAt xs p x).toList=xs.toList.take p++x::xs.toList.drop p:=by
  simp[SetTable.insertAt,List.extract_eq_take_drop,List.take_of_length_le]
 rw[<-Array.getElem?_toList,e]
 have hl:(xs.toList.take p).length=p:=by simp;omega
 split
 ·rename_i h
  rw[List.getElem?_append_left (by omega),List.getElem?_take_of_lt h,Array.getElem?_toList]
 ·rename_i h
  rw[List.getElem?_append_right (by omega),hl]
  split
  ·rename_i h2
   rw[h2]
   simp
  ·rename_i h2
   rw[show i - p=(i - 1 - p)+1 by omega,List.getElem?_cons_succ,List.getElem?_drop,Array.getElem?_toList,show p+(i - 1 - p)=i - 1 by omega]
theorem zM{α:Type}{xs:Array α}{p:Nat}(hp:p<=xs.size)(x:α):(SetTable.insertAt xs p x).size=xs.size+1:=by
 simp[SetTable.insertAt];omega
theorem aEU{α:Type}{xs:Array α}{p:Nat}(hp:p<=xs.size)(x y:α):y∈(SetTable.insertAt xs p x).toList↔y=x\/y∈xs.toList:=by
 have e:(SetTable.insertAt xs p x).toList=xs.toList.take p++x::xs.toList.drop p:=by
  simp[SetTable.insertAt,List.extract_eq_take_drop,List.take_of_length_le]
 rw[e,List.mem_append,List.mem_cons]
 conv=>rhs;rw[<-List.take_append_drop p xs.toList,List.mem_append]
 constructor
 ·rintro (h|h|h)
  ·exact .inr (.inl h)
  ·exact .inl h
  ·exact .inr (.inr h)
 ·rintro (h|h|h)
  ·exact .inr (.inl h)
  ·exact .inl h
  ·exact .inr (.inr h)
theorem aEV{xs:Array Nat}:Ris xs↔∀(i k a b:Nat),i < k->xs[i]?=some a->xs[k]?=some b->a < b:=by
 constructor
 ·intro h i k a b hik ha hb
  obtain⟨a1,a2⟩:=aBl ha
  obtain⟨b1,b2⟩:=aBl hb
  have:=h i k hik b1
  omega
 ·intro h i k hik hk
  have:=h i k _ _ hik (Array.getElem?_eq_getElem (by omega:i < xs.size)) (Array.getElem?_eq_getElem hk)
  simpa [Array.getD,hk,(by omega:i < xs.size)] using this
theorem aEW{xs:Array Nat}{j:Nat}:j∈xs.toList↔∃i:Nat,xs[i]?=some j:=by
 rw[List.mem_iff_getElem?]
 simp only[Array.getElem?_toList]
theorem aID{xs:Array Nat}{j:Nat}(hr:Ris xs)(hj:j∉xs.toList):Ris (SetTable.insertAt xs (SetTable.below xs j) j):=by
 obtain⟨c1,c2,c3⟩:=sA hr j
 rw[aEV] at hr ⊢
 intro i k a b hik ha hb
 rw[jX c1] at ha hb
 have lo:∀i a,i < SetTable.below xs j->xs[i]?=some a->a < j:=fun i a h z=>by have:=c2 i h;rw[(aBl z).2] at this;exact this
 have hi:∀i a,SetTable.below xs j<=i->xs[i]?=some a->j < a:=fun i a h z=>by
  have h1:=c3 i h (aBl z).1
  rw[(aBl z).2] at h1
  have:a≠j:=fun e=>hj (aEW.mpr ⟨i,by rw[<-e];exact z⟩)
  omega
 split at ha
 ·rename_i h1
  split at hb
  ·exact hr i k a b hik ha hb
  ·split at hb
   ·cases hb
    exact lo i a h1 ha
   ·exact hr i (k - 1) a b (by omega) ha hb
 ·split at ha
  ·rename_i h2
   cases ha
   split at hb
   ·omega
   ·split at hb
    ·omega
    ·exact hi _ _ (by omega) hb
  ·split at hb
   ·omega
   ·split at hb
    ·omega
    ·exact hr (i - 1) (k - 1) a b (by omega) ha hb
structure Tab(t:SetTable)(es:Array (Int×Value)):Prop where
 dm:t.dummies = #[]
 sz:t.place.size=es.size
 ris:Ris t.place
 top:∀j∈t.place.toList,j<=t.mask
 msk:Msk t.mask
 room:t.place.size<=t.mask
 rch:∀(i j:Nat) (e:Int×Value),t.place[i]?=some j->es[i]?=some e->Rch (·∈t.place.toList) t.mask e.1 j
theorem Tab.hole{t:SetTable}{es:Array (Int×Value)}(T:Tab t es):∃e,e<=t.mask/\e∉t.place.toList:=by
 apply Classical.byContradiction
 intro hx
 have h1:=aEQ (l:=List.range (t.mask+1)) (l':=t.place.toList) List.nodup_range (fun x hm=>Classical.byContradiction fun z=>hx ⟨x,by have:=List.mem_range.mp hm;omega,z⟩)
 rw[List.length_range,Array.length_toList] at h1
 have:=T.room
 omega
theorem Tab.fits{t:SetTable}{es:Array (Int×Value)}(T:Tab t es):t.fits es.size=true:=by
 unfold SetTable.fits SetTable.fill
 rw[T.dm]
 have:=T.room
 simp[T.sz]
 rw[<-T.sz]
 exact this
theorem Tab.first{t:SetTable}{es:Array (Int×Value)}(T:Tab t es)(h:Int):∃n,n<=10*(13+t.mask)/\Fst (·∈t.place.toList) t.mask h n:=by
 obtain⟨e,a,b⟩:=T.hole
 exact aKE T.msk a b h
theorem Tab.put{t:SetTable}{es:Array (Int×Value)}(T:Tab t es){h:Int}{N:Nat}(F:Fst (·∈t.place.toList) t.mask h N)(hz:es.size+1<=t.mask)(x:Value) :
  (t.put (pj t.mask h N)).1={ t with place:=SetTable.insertAt t.place (SetTable.below t.place (pj t.mask h N)) (pj t.mask h N) }/\(t.put (pj t.mask h N)).2=SetTable.below t.place (pj t.mask h N)/\
  Tab { t with place:=SetTable.insertAt t.place (SetTable.below t.place (pj t.mask h N)) (pj t.mask h N) } (SetTable.insertAt es (SetTable.below t.place (pj t.mask h N)) (h,x)):=by
 obtain⟨c1,c2,c3⟩:=sA T.ris (pj t.mask h N)
 have c1':SetTable.below t.place (pj t.mask h N)<=es.size:=by rw[<-T.sz];exact c1
 refine⟨?_,rfl,?_⟩
 ·unfold SetTable.put
  dsimp only
  rw[T.dm,aET]
  rfl
 ·refine⟨T.dm,by dsimp only;rw[zM c1,zM c1',T.sz],aID T.ris F.1,fun j hj=>?_,T.msk,by dsimp only;rw[zM c1,T.sz];exact hz,fun i j e hi he=>?_⟩
  ·rcases(aEU c1 _ _).mp hj with rfl|hj
   ·exact aJc ..
   ·exact T.top j hj
  ·dsimp only at hi ⊢
   rw[jX c1] at hi
   rw[jX c1'] at he
   have up:∀i,i∈t.place.toList->i∈(SetTable.insertAt t.place (SetTable.below t.place (pj t.mask h N)) (pj t.mask h N)).toList:=fun i hi=>(aEU c1 _ _).mpr (.inr hi)
   split at hi
   ·rename_i q
    rw[if_pos q] at he
    exact(T.rch i j e hi he).mono up
   ·rename_i q
    rw[if_neg q] at he
    split at hi
    ·rename_i q2
     rw[if_pos q2] at he
     cases hi
     cases he
     exact⟨N,rfl,fun m hm=>up _ (F.2 m hm)⟩
    ·rename_i q2
     rw[if_neg q2] at he
     exact(T.rch _ j e hi he).mono up
theorem Tab.on{t:SetTable}{es:Array (Int×Value)}(T:Tab t es){h:Int}{N:Nat}(F:Fst (·∈t.place.toList) t.mask h N){i:Nat}{y:Value}(hi:es[i]?=some (h,y)):∃n,n < N/\t.place[i]?=some (pj t.mask h n):=by
 have hl:i < t.place.size:=by rw[T.sz];exact(Array.getElem?_eq_some_iff.mp hi).1
 have hp:t.place[i]?=some t.place[i]:=Array.getElem?_eq_getElem hl
 obtain⟨n,a,b⟩:=T.rch i _ _ hp hi
 have hin:pj t.mask h n∈t.place.toList:=aEW.mpr ⟨i,by rw[hp];exact congrArg some a.symm⟩
 refine⟨n,?_,by rw[hp];exact congrArg some a.symm⟩
 rcases Nat.lt_trichotomy n N with z|z|z
 ·exact z
 ·rw[z] at hin;exact absurd hin F.1
 ·exact absurd (b N z) F.1
def oc(ow:Array (Option Nat))(j:Nat):Prop:=∃i,ow[j]?=some (some i)
theorem aEX{ow:Array (Option Nat)}{M:Nat}{h:Int}{K:Nat}(hs:ow.size=M+1)(hK:¬oc ow (lp M h K).1):∀f k n,pt M h n=R M h k->(∀m,m < n->oc ow (pj M h m))->k<=K->K < f+k->
  ∃N,SetTable.layClean.free M ow f (lp M h k).1 (lp M h k).2=some (pj M h N)/\Fst (oc ow) M h N
 |0,k,n,e,ho,h1,h2=>by omega
 |f+1,k,n,e,ho,h1,h2=>by
  have isn:∀d,d<=ru M (lp M h k).1->((ow.getD ((lp M h k).1+d) (some 0)).isNone=true↔¬oc ow (pj M h (n+d))):=fun d hd=>by
   have ej:pj M h (n+d)=(lp M h k).1+d:=by unfold pj;rw[aBZ e d hd]
   rw[ej]
   have hl:(lp M h k).1+d < ow.size:=by have:=aHd (aHe M h k);omega
   have e2:ow[(lp M h k).1+d]?=some ow[(lp M h k).1+d]:=Array.getElem?_eq_getElem hl
   have e3:ow.getD ((lp M h k).1+d) (some 0)=ow[(lp M h k).1+d]:=by simp[Array.getD,hl]
   rw[e3]
   unfold oc
   rw[e2]
   cases ow[(lp M h k).1+d] <;> simp
  have er:SetTable.runEnd M (lp M h k).1+1 - (lp M h k).1=ru M (lp M h k).1+1:=by unfold ru SetTable.runEnd;split <;> omega
  unfold SetTable.layClean.free
  rw[er]
  split
  ·rename_i d hd
   have hp:=List.find?_some hd
   have hm:=List.mem_of_find?_eq_some hd
   have hdl:d<=ru M (lp M h k).1:=by have:=List.mem_range.mp hm;omega
   refine⟨n+d,?_,(isn d hdl).mp hp,fun m hm=>?_⟩
   ·unfold pj;rw[aBZ e d hdl]
   ·by_cases z:m < n
    ·exact ho m z
    ·have z2:m - n < d:=by omega
     apply Classical.byContradiction
     intro q
     rw[show m=n+(m - n) by omega] at q
     have:=(isn (m - n) (by omega)).mpr q
     obtain⟨_,as,bs,e1,e2⟩:=List.find?_eq_some_iff_append.mp hd
     have ed:as.length=d:=by
      have h3:(List.range (ru M (lp M h k).1+1))[as.length]?=some d:=by rw[e1];simp
      rw[List.getElem?_range (by have:=congrArg List.length e1;simp at this;omega)] at h3
      exact Option.some.inj h3
     have h4:as[m - n]?=some (m - n):=by
      have h3:(List.range (ru M (lp M h k).1+1))[m - n]?=some (m - n):=List.getElem?_range (by omega)
      rw[e1,List.getElem?_append_left (by omega)] at h3
      exact h3
     have h5:=e2 _ (List.mem_of_getElem? h4)
     rw[this] at h5
     simp at h5
  ·rename_i hd
   have all:∀d,d<=ru M (lp M h k).1->oc ow (pj M h (n+d)):=fun d hdl=>by
    have:=List.find?_eq_none.mp hd d (List.mem_range.mpr (by omega))
    exact Classical.byContradiction fun z=>this ((isn d hdl).mpr z)
   have hkK:k≠K:=fun z=>by
    subst z
    have:=all 0 (Nat.zero_le _)
    rw[Nat.add_zero] at this
    unfold pj at this
    rw[e] at this
    exact hK this
   exact aEX hs hK f (k+1) (n+ru M (lp M h k).1+1) (aES e) (fun m hm=>if z:m < n then ho m z else by
    have:=all (m - n) (by omega)
    rw[show n+(m - n)=m by omega] at this
    exact this) (by omega) (by omega)
structure Lay(M:Nat)(hs:List Int)(ow:Array (Option Nat))(k:Nat):Prop where
 sz:ow.size=M+1
 at_:∀(j i:Nat),ow[j]?=some (some i)->i < k/\∃h,hs[i]?=some h/\Rch (oc ow) M h j
 all:∀i,i < k->∃j:Nat,ow[j]?=some (some i)
 inj:∀(j j' i:Nat),ow[j]?=some (some i)->ow[j']?=some (some i)->j=j'
theorem Lay.hole{M:Nat}{hs:List Int}{ow:Array (Option Nat)}{k:Nat}(L:Lay M hs ow k)(hk:k<=M):∃e,e<=M/\¬oc ow e:=by
 apply Classical.byContradiction
 intro hx
 have full:∀e,e<=M->oc ow e:=fun e he=>Classical.byContradiction fun z=>hx ⟨e,he,z⟩
 have nd:((List.range (M+1)).map fun j=>(ow.getD j none).getD 0).Nodup:=by
  unfold List.Nodup
  rw[List.pairwise_map]
  refine List.Pairwise.imp_of_mem ?_ List.pairwise_lt_range
  intro a b ha hb hab z
  obtain⟨i,hi⟩:=full a (by have:=List.mem_range.mp ha;omega)
  obtain⟨i',hi'⟩:=full b (by have:=List.mem_range.mp hb;omega)
  rw[Array.getD_eq_getD_getElem?,Array.getD_eq_getD_getElem?,hi,hi'] at z
  have z2:i=i':=z
  subst z2
  have:=L.inj a b i hi hi'
  omega
 have:=aEQ (l':=List.range k) nd (fun x hx=>by
  obtain⟨j,hj,rfl⟩:=List.mem_map.mp hx
  obtain⟨i,hi⟩:=full j (by have:=List.mem_range.mp hj;omega)
  rw[Array.getD_eq_getD_getElem?,hi]
  exact List.mem_range.mpr (L.at_ j i hi).1)
 simp at this
 omega
theorem aHj{M:Nat}{hs:List Int}{ow:Array (Option Nat)}{k:Nat}(hM:Msk M)(L:Lay M hs ow k)(hk:k<=M){h:Int}(hh:hs[k]?=some h) :
  ∃j,SetTable.layClean.free M ow (SetTable.turns M) (SetTable.bits h % (M+1)) (SetTable.bits h)=some j/\Lay M hs (ow.setIfInBounds j (some k)) (k+1):=by
 obtain⟨e,he,ne⟩:=L.hole hk
 obtain⟨K,hK,eK⟩:=cover hM he h
 obtain⟨N,fN,F⟩:=aEX (K:=K) L.sz (by rw[eK];exact ne) (SetTable.turns M) 0 0 rfl (fun m hm=>by omega) (Nat.zero_le _) (by unfold SetTable.turns;omega)
 have jl:pj M h N < ow.size:=by have:=aJc M h N;have:=L.sz;omega
 have un:∀j,(ow.setIfInBounds (pj M h N) (some k))[j]?=if pj M h N=j then some (some k) else ow[j]?:=fun j=>by
  rw[Array.getElem?_setIfInBounds]
  split <;> first|rfl|rw[if_pos jl]|(split <;> first|rfl|omega)
 have up:∀j,oc ow j->oc (ow.setIfInBounds (pj M h N) (some k)) j:=fun j ⟨i,hi⟩=>by
  unfold oc
  rw[un]
  split
  ·exact⟨k,rfl⟩
  ·exact⟨i,hi⟩
 refine⟨pj M h N,fN,by simp[L.sz],fun j i hi=>?_,fun i hi=>?_,fun j j' i hi hi'=>?_⟩
 ·rw[un] at hi
  split at hi
  ·rename_i z
   cases hi
   exact⟨Nat.lt_succ_self _,h,hh,⟨N,z,fun m hm=>up _ (F.2 m hm)⟩⟩
  ·obtain⟨a,h',b,c⟩:=L.at_ j i hi
   exact⟨by omega,h',b,c.mono up⟩
 ·by_cases z:i=k
  ·exact⟨pj M h N,by rw[un,if_pos rfl,z]⟩
  ·obtain⟨j,hj⟩:=L.all i (by omega)
   exact⟨j,by rw[un,if_neg (fun q=>F.1 ⟨i,by rw[q];exact hj⟩)];exact hj⟩
 ·rw[un] at hi hi'
  split at hi
  ·rename_i z
   split at hi'
   ·rename_i z';rw[<-z,z']
   ·cases hi
    have:=(L.at_ _ _ hi').1
    omega
  ·split at hi'
   ·cases hi'
    have:=(L.at_ _ _ hi).1
    omega
   ·exact L.inj _ _ _ hi hi'
theorem aEY{M:Nat}{hs:List Int}(hM:Msk M)(hz:hs.length<=M):∀(r:List Int) (ow:Array (Option Nat)) (k:Nat),hs.drop k=r->Lay M hs ow k->∃ow',List.foldl (fun(acc:Option (Array (Option Nat)×Nat)) (h:Int)=>do
   let (owner,k) <-acc
   let j <-SetTable.layClean.free M owner (SetTable.turns M) (SetTable.bits h % (M+1)) (SetTable.bits h)
   pure (owner.setIfInBounds j (some k),k+1)) (some (ow,k)) r=some (ow',hs.length)/\Lay M hs ow' hs.length
 |[],ow,k,e,L=>by
  have h1:hs.length<=k:=by have:=congrArg List.length e;simp at this;omega
  have h2:k<=hs.length:=Classical.byContradiction fun z=>by
   obtain⟨j,hj⟩:=L.all hs.length (by omega)
   obtain⟨_,h,b,_⟩:=L.at_ j _ hj
   rw[List.getElem?_eq_none (Nat.le_refl _)] at b
   cases b
  have e2:k=hs.length:=by omega
  subst e2
  exact⟨ow,rfl,L⟩
 |h::r,ow,k,e,L=>by
  have hk:k < hs.length:=Classical.byContradiction fun z=>by rw[List.drop_eq_nil_of_le (by omega)] at e;cases e
  have hh:hs[k]?=some h:=by
   have:(hs.drop k)[0]?=some h:=by rw[e];rfl
   rw[List.getElem?_drop] at this
   exact this
  obtain⟨j,fj,L'⟩:=aHj hM L (by omega) hh
  rw[List.foldl_cons]
  have:(do
   let (owner,k) <-some (ow,k)
   let j <-SetTable.layClean.free M owner (SetTable.turns M) (SetTable.bits h % (M+1)) (SetTable.bits h)
   pure (owner.setIfInBounds j (some k),k+1):Option (Array (Option Nat)×Nat))=some (ow.setIfInBounds j (some k),k+1):=by
   show(SetTable.layClean.free M ow (SetTable.turns M) (SetTable.bits h % (M+1)) (SetTable.bits h)).bind _=_
   rw[fj];rfl
  rw[this]
  exact aEY hM hz r _ (k+1) (by rw[<-List.drop_drop,e];rfl) L'
theorem aIE{M:Nat}{hs:Array Int}(hM:Msk M)(hz:hs.size<=M)(fg mv:Nat)(led plain:Bool):∃(pl od:Array Nat),SetTable.laid M fg mv led plain hs=some ({ mask:=M,place:=pl,dummies:=#[],finger:=fg,led:=led,moves:=mv,plain:=plain },od)/\
  od.toList.Perm (List.range hs.size)/\Ris pl/\(∀j∈pl.toList,j<=M)/\pl.size=od.size/\∀(i j k:Nat),pl[i]?=some j->od[i]?=some k->∃h,hs[k]?=some h/\Rch (·∈pl.toList) M h j:=by
 have nor:∀(j i:Nat),¬(Array.replicate (M+1) (none:Option Nat))[j]?=some (some i):=fun j i hi=>by
  rw[Array.getElem?_replicate] at hi
  split at hi <;> cases hi
 obtain⟨ow,e,L⟩:=aEY (hs:=hs.toList) hM (by simpa using hz) hs.toList (Array.replicate (M+1) none) 0 rfl ⟨by simp,fun j i hi=>absurd hi (nor j i),fun i hi=>by omega,fun j j' i hi=>absurd hi (nor j i)⟩
 have e1:SetTable.layClean M hs=some ow:=by
  unfold SetTable.layClean
  rw[<-Array.foldl_toList,e]
  rfl
 generalize hlv:((List.range (M+1)).filterMap fun j=>(ow.getD j none).map (j,·))=lv
 have mem:∀j i,(j,i)∈lv↔ow[j]?=some (some i):=fun j i=>by
  rw[<-hlv,List.mem_filterMap]
  constructor
  ·rintro ⟨a,ha,b⟩
   rw[Array.getD_eq_getD_getElem?] at b
   cases h:ow[a]? with
   |none=>rw[h] at b;cases b
   |some o=>
    rw[h] at b
    cases o with
    |none=>cases b
    |some x=>cases b;exact h
  ·intro h
   refine⟨j,List.mem_range.mpr ?_,?_⟩
   ·have:=(Array.getElem?_eq_some_iff.mp h).1
    rw[L.sz] at this;exact this
   ·rw[Array.getD_eq_getD_getElem?,h];rfl
 have pw:lv.Pairwise fun a b=>a.1 < b.1:=by
  rw[<-hlv]
  refine List.Pairwise.filterMap _ ?_ List.pairwise_lt_range
  intro a a' h b hb b' hb'
  obtain⟨_,_,rfl⟩:=Option.map_eq_some_iff.mp hb
  obtain⟨_,_,rfl⟩:=Option.map_eq_some_iff.mp hb'
  exact h
 refine⟨(lv.map (·.1)).toArray,(lv.map (·.2)).toArray,?_,?_,?_,?_,by simp,?_⟩
 ·unfold SetTable.laid
  rw[e1]
  show some _=some _
  rw[hlv]
 ·have nd:(lv.map (·.2)).Nodup:=by
   unfold List.Nodup
   rw[List.pairwise_map]
   refine List.Pairwise.imp_of_mem ?_ pw
   intro a b ha hb hab z
   have:=L.inj a.1 b.1 a.2 ((mem _ _).mp ha) (by rw[z];exact(mem _ _).mp hb)
   omega
  show(lv.map (·.2)).Perm _
  refine(List.perm_ext_iff_of_nodup nd List.nodup_range).mpr fun k=>?_
  rw[List.mem_map,List.mem_range]
  constructor
  ·rintro ⟨⟨j,i⟩,h,rfl⟩
   have:=(L.at_ j i ((mem _ _).mp h)).1
   simpa using this
  ·intro hk
   obtain⟨j,hj⟩:=L.all k (by simpa using hk)
   exact⟨(j,k),(mem _ _).mpr hj,rfl⟩
 ·rw[aEV]
  intro i k a b hik ha hb
  have p2:(lv.map (·.1)).Pairwise (·< ·):=by rw[List.pairwise_map];exact pw
  rw[List.getElem?_toArray] at ha hb
  obtain⟨h1,h2⟩:=List.getElem?_eq_some_iff.mp ha
  obtain⟨h3,h4⟩:=List.getElem?_eq_some_iff.mp hb
  have:=List.pairwise_iff_getElem.mp p2 i k h1 h3 hik
  rw[h2,h4] at this
  exact this
 ·intro j hj
  obtain⟨⟨j',i⟩,h,rfl⟩:=List.mem_map.mp hj
  have:=(Array.getElem?_eq_some_iff.mp ((mem _ _).mp h)).1
  rw[L.sz] at this
  exact Nat.le_of_lt_succ this
 ·intro i j k hj hk
  rw[List.getElem?_toArray,List.getElem?_map] at hj hk
  obtain⟨⟨j',k'⟩,e5,rfl⟩:=Option.map_eq_some_iff.mp hj
  rw[e5] at hk
  cases hk
  obtain⟨_,h,e6,e7⟩:=L.at_ j' k' ((mem _ _).mp (List.mem_of_getElem? e5))
  refine⟨h,by rw[<-Array.getElem?_toList];exact e6,e7.mono fun q ⟨z,hz⟩=>?_⟩
  exact List.mem_map.mpr ⟨(q,z),(mem _ _).mpr hz,rfl⟩
theorem aFM{t:SetTable}{es:Array (Int×Value)}{W:Nat}(hM:Msk (SetTable.sizeAbove W - 1))(hz:es.size<=SetTable.sizeAbove W - 1) :
  ∃(pl od:Array Nat),t.relaid (es.map (·.1)) W=some ({ mask:=SetTable.sizeAbove W - 1,place:=pl,dummies:=#[],finger:=t.finger,led:=t.led,moves:=t.movedTo (SetTable.sizeAbove W - 1),plain:=t.plain },od)/\
  (od.filterMap (es[·]?)).toList.Perm es.toList/\Tab { mask:=SetTable.sizeAbove W - 1,place:=pl,dummies:=#[],finger:=t.finger,led:=t.led,moves:=t.movedTo (SetTable.sizeAbove W - 1),plain:=t.plain } (od.filterMap (es[·]?)):=by
 obtain⟨pl,od,e1,e2,e3,e4,e5,e6⟩:=aIE (hs:=es.map (·.1)) hM (by simpa using hz) t.finger (t.movedTo (SetTable.sizeAbove W - 1)) t.led t.plain
 rw[Array.size_map] at e2
 have ef:(List.range es.size).filterMap (fun i=>es[i]?)=es.toList:=by
  refine List.ext_getElem? fun n=>?_
  have:∀m,m<=es.size->(List.range m).filterMap (fun i=>es[i]?)=es.toList.take m:=fun m=>by
   induction m with
   |zero=>intro _;rfl
   |succ m ih=>
    intro hm
    rw[List.range_succ,List.filterMap_append,ih (by omega),List.take_succ,Array.getElem?_toList,Array.getElem?_eq_getElem (show m < es.size by omega)]
    simp[List.filterMap,Array.getElem?_eq_getElem (show m < es.size by omega)]
  rw[this es.size (Nat.le_refl _),List.take_of_length_le (by simp)]
 have pm:(od.filterMap (es[·]?)).toList.Perm es.toList:=by
  rw[Array.toList_filterMap,<-ef]
  exact e2.filterMap _
 have each:∀k∈od.toList,∃e,es[k]?=some e:=fun k hk=>by
  have:=List.mem_range.mp (e2.mem_iff.mp hk)
  exact⟨_,Array.getElem?_eq_getElem this⟩
 have ix:∀(l:List Nat),(∀k∈l,∃e,es[k]?=some e)->∀(i:Nat) (e:Int×Value),(l.filterMap (es[·]?))[i]?=some e->∃k,l[i]?=some k/\es[k]?=some e:=fun l=>by
  induction l with
  |nil=>intro _ i e h;simp at h
  |cons a l ih=>
   intro ha i e h
   obtain⟨x,hx⟩:=ha a List.mem_cons_self
   rw[List.filterMap_cons_some hx] at h
   cases i with
   |zero=>cases h;exact⟨a,rfl,hx⟩
   |succ i=>exact ih (fun k hk=>ha k (List.mem_cons_of_mem _ hk)) i e h
 have sz:(od.filterMap (es[·]?)).size=es.size:=by have:=pm.length_eq;rw[Array.length_toList,Array.length_toList] at this;exact this
 have so:od.size=es.size:=by have:=e2.length_eq;simpa using this
 refine⟨pl,od,e1,pm,rfl,by dsimp only;rw[e5,sz,so],e3,e4,hM,by dsimp only;rw[e5,so];exact hz,fun i j e hi he=>?_⟩
 rw[<-Array.getElem?_toList,Array.toList_filterMap] at he
 obtain⟨k,hk,ek⟩:=ix od.toList each i e he
 obtain⟨h,h1,h2⟩:=e6 i j k hi (by rw[<-Array.getElem?_toList];exact hk)
 rw[Array.getElem?_map,ek] at h1
 cases h1
 exact h2
end ST
end L2
namespace L2
open PySem PySem.Spec PySem.W PyProof.Rows
section
variable{prog:Program}{w:World}{K:Type}[DecidableEq K]{A:Around}{E:Value->Shared->Prop}{s:Shared}
structure wG(kd:HeapKind prog w K):Prop where
 keepsT:∀{h h':Heap} {k:K} {b:Addr},kd.is h k b->(∀(b:Addr) (o:Obj),o.cls=.type "tuple"->h.get? b=some o->h'.get? b=some o)->kd.is h' k b
 byVal:∀{A:Around} {E:Value->Shared->Prop} {s:Shared} {k:K} {b:Addr} {Q:Bool->Shared->Prop},kd.is s.heap k b->Q true s->wpAny (model prog w) A (hashByValue 8 (.ref b)) Q E s
 noCls:∀{A:Around} {E:Value->Shared->Prop} {s:Shared} {k:K} {b:Addr} {Q:Bool->Shared->Prop},kd.is s.heap k b->Q false s->wpAny (model prog w) A (ofAClassStatement 8 (.ref b)) Q E s
theorem aHk(b:Addr)(es:Array (Int×Value)):byScan (.ref b) es=false:=by simp[byScan,Value.scannable]
theorem aIF{kd:HeapKind prog w K}(S:wG kd){k:K}{b:Addr}(hb:kd.is s.heap k b){Q:Bool->Shared->Prop}(hQ:Q false s):∀{l:List Value},(∀y∈l,∃k' b',y=.ref b'/\kd.is s.heap k' b')->wpAny (model prog w) A (searchCouldBeSeen (.ref b) l) Q E s:=by
 intro l hl
 unfold searchCouldBeSeen
 refine wpAny_bind (wpAny_forIn_list _ (fun rest r s'=>r.1=none/\s'=s/\∀y∈rest,∃k' b',y=.ref b'/\kd.is s.heap k' b') _ ?_ ?_ _ _ ⟨rfl,rfl,hl⟩)
 ·rintro y rest r s' ⟨hr,rfl,hall⟩
  obtain⟨k',b',rfl,hb'⟩:=hall y List.mem_cons_self
  dsimp only
  by_cases hv:((b == b') || (carriedByValue (Value.ref b) && carriedByValue (Value.ref b')))=true
  ·rw[if_pos hv]
   exact wpAny_pure ⟨rfl,rfl,fun u hu'=>hall u (List.mem_cons_of_mem _ hu')⟩
  ·rw[if_neg hv]
   refine wpAny_bind (kd.quiet hb ?_)
   simp only[Bool.not_true,Bool.false_eq_true,if_false]
   refine wpAny_bind (kd.quiet hb' ?_)
   simp only[Bool.not_true,Bool.false_eq_true,if_false]
   refine wpAny_bind (S.noCls hb ?_)
   simp only[Bool.false_eq_true,if_false]
   refine wpAny_bind (S.noCls hb' ?_)
   simp only[Bool.false_eq_true,if_false]
   exact wpAny_pure ⟨rfl,rfl,fun u hu'=>hall u (List.mem_cons_of_mem _ hu')⟩
 ·rintro ⟨r1,r2⟩ s' ⟨hr,rfl,_⟩
  simp only at hr
  subst hr
  exact wpAny_pure hQ
theorem aBm{kd:HeapKind prog w K}(S:wG kd)(hu:kd.room A){a:Addr}{o:Obj}{es:Array (Int×Value)}{ep:Nat}{t:SetTable}(ho:s.heap.get? a=some o)(hd:o.data=.set es ep t)(T:ST.Tab t es)
  {k:K} {b:Addr} (hb:kd.is s.heap k b) (els:∀(i:Nat) e,es[i]?=some e->∃k' b',e=(kd.hash k',Value.ref b')/\kd.is s.heap k' b') {N:Nat} (F:ST.Fst (·∈t.place.toList) t.mask (kd.hash k) N) (hN:N<=10*(13+t.mask))
  {Q:SetFound->Shared->Prop} (yes:∀(i:Nat) b',es[i]?=some (kd.hash k,.ref b')->kd.is s.heap k b'->Q (.there none) s) (no:(∀(i:Nat) k' b',es[i]?=some (kd.hash k',.ref b')->kd.is s.heap k' b'->k'≠k)->Q (.free (ST.pj t.mask (kd.hash k) N) false) s) :
  ∀f m (stand:Option SetTable.Probe),m<=N->N < f+m->stand.getD (t.probeStart (kd.hash k))=ST.pt t.mask (kd.hash k) m->(∀n (i:Nat) k' b',n < m->t.place[i]?=some (ST.pj t.mask (kd.hash k) n)->es[i]?=some (kd.hash k',.ref b')->kd.is s.heap k' b'->k'≠k)->
   wpAny (model prog w) A (setSearchFrom a (.ref b) (kd.hash k) true f stand) Q E s
 |0,m,_,h1,h2,_,_=>by omega
 |f+1,m,stand,h1,h2,hst,hbe=>by
  unfold setSearchFrom
  refine wpAny_bind (wpAny_setState_of ho hd T.fits ?_)
  dsimp only
  have gw:t.gaveWay=false:=by
   unfold SetTable.gaveWay
   rcases T.msk with z|z|z <;> rw[z] <;> rfl
  rw[gw]
  simp only[Bool.false_eq_true,if_false]
  rw[hst]
  rcases ST.aC8 (ha:=fun i=>(es[i]?.map (·.1)).getD 0) T.dm T.ris F (10*SetTable.turns t.mask) m h1 (by unfold SetTable.turns;omega) with ⟨e1,e2⟩|⟨n,i,e1,e2,e3,e4,e5,e6⟩
  ·split
   ·rename_i met heq
    obtain rfl:=Option.some.inj (e1.symm.trans heq)
    dsimp only
    refine wpAny_pure (no fun i k' b' hi hk hkk=>?_)
    subst hkk
    obtain⟨n,n1,n2⟩:=T.on F hi
    by_cases hm:n < m
    ·exact hbe n i k' b' hm n2 hi hk rfl
    ·refine e2 n i (by omega) n1 n2 ?_
     rw[hi];rfl
   ·rename_i heq
    exact(heq _ e1).elim
  ·split
   ·rename_i met heq
    obtain rfl:=Option.some.inj (e5.symm.trans heq)
    dsimp only
    have il:i < es.size:=by rw[<-T.sz];exact(Array.getElem?_eq_some_iff.mp e3).1
    obtain⟨k',b',ee,hk'⟩:=els i _ (Array.getElem?_eq_getElem il)
    have hi:es[i]?=some (kd.hash k',.ref b'):=by rw[Array.getElem?_eq_getElem il,ee]
    rw[hi] at e4
    have e4':kd.hash k'=kd.hash k:=e4
    have sm:t.sameMemory t.moves t.mask=some true:=by unfold SetTable.sameMemory;simp
    have nxt:k'≠k->wpAny (model prog w) A (setSearchFrom a (.ref b) (kd.hash k) true f (some (ST.pt t.mask (kd.hash k) (n+1)))) Q E s:=fun hkk=>
     aBm S hu ho hd T hb els F hN yes no f (n+1) (some _) (by omega) (by omega) rfl fun n' i' k2 b2 x1 x2 x3 x4=>by
      by_cases z1:n' < m
      ·exact hbe n' i' k2 b2 z1 x2 x3 x4
      ·by_cases z2:n' < n
       ·intro z3
        subst z3
        exact e6 n' i' (by omega) z2 x2 (by rw[x3];rfl)
       ·have z3:n'=n:=by omega
        subst z3
        have z4:i'=i:=by rw[<-ST.below_at T.ris x2,ST.below_at T.ris e3]
        subst z4
        rw[hi] at x3
        injection x3 with x3
        injection x3 with _ x5
        injection x5 with x5
        subst x5
        rw[kd.inj x4 hk']
        exact hkk
    split
    ·refine wpAny_bind (aIF S hb ?_ ?_)
     ·simp only[Bool.false_eq_true,if_false]
      rw[hi]
      dsimp only
      refine wpAny_bind (wpAny_holding (kd.eqBool hu hk' hb ?_))
      refine wpAny_bind (wpAny_setState_of ho hd T.fits ?_)
      dsimp only
      by_cases hkk:k'=k
      ·subst hkk
       simp only[decide_true,Bool.and_self,if_true]
       exact wpAny_pure (yes i b' hi hk')
      ·rw[decide_eq_false hkk]
       simp only[Bool.and_false,Bool.false_eq_true,if_false]
       rw[sm]
       dsimp only
       simp only[if_true]
       rw[ST.wD T.ris e3]
       dsimp only
       rw[hi]
       dsimp only
       refine wpAny_bind (wpAny_isSame_ref_self ?_)
       refine wpAny_bind (wpAny_pure ?_)
       simp only[if_true]
       exact nxt hkk
     ·intro y hy
      obtain⟨e,he,rfl⟩:=List.mem_map.mp hy
      rw[Array.toList_filter] at he
      obtain⟨q,hq⟩:=List.mem_iff_getElem?.mp (List.mem_filter.mp he).1
      rw[Array.getElem?_toList] at hq
      obtain⟨k',b',rfl,hb'⟩:=els q e hq
      exact⟨k',b',rfl,hb'⟩
    ·rw[hi]
     dsimp only
     refine wpAny_bind (wpAny_holding (kd.eqBool hu hk' hb ?_))
     refine wpAny_bind (wpAny_setState_of ho hd T.fits ?_)
     dsimp only
     by_cases hkk:k'=k
     ·subst hkk
      simp only[decide_true,Bool.and_self,if_true]
      exact wpAny_pure (yes i b' hi hk')
     ·rw[decide_eq_false hkk]
      simp only[Bool.and_false,Bool.false_eq_true,if_false]
      rw[sm]
      dsimp only
      simp only[if_true]
      rw[ST.wD T.ris e3]
      dsimp only
      rw[hi]
      dsimp only
      refine wpAny_bind (wpAny_isSame_ref_self ?_)
      refine wpAny_bind (wpAny_pure ?_)
      simp only[if_true]
      exact nxt hkk
   ·rename_i heq
    exact(heq _ e5).elim
theorem zN{α β:Type}{f:α->β}{l l':List β}(p:l.Perm l'):∀{ps:List α},l'=ps.map f->∃qs:List α,qs.Perm ps/\l=qs.map f:=by
 induction p with
 |nil=>intro ps e;cases ps with
  |nil=>exact⟨[],.nil,rfl⟩
  |cons a ps=>cases e
 |cons x _ ih=>intro ps e;cases ps with
  |nil=>cases e
  |cons a ps=>
   rw[List.map_cons] at e
   injection e with e1 e2
   obtain⟨qs,a1,a2⟩:=ih e2
   exact⟨a::qs,a1.cons _,by rw[List.map_cons,<-e1,<-a2]⟩
 |swap x y l=>intro ps e;match ps,e with
  |[],e=>cases e
  |[_],e=>simp at e
  |a::b::ps,e=>
   simp only[List.map_cons] at e
   injection e with e1 e2
   injection e2 with e2 e3
   exact⟨b::a::ps,List.Perm.swap ..,by simp[e1,e2,e3]⟩
 |trans _ _ ih1 ih2=>
  intro ps e
  obtain⟨qs,a1,a2⟩:=ih2 e
  obtain⟨rs,b1,b2⟩:=ih1 a2
  exact⟨rs,b1.trans a1,b2⟩
def zO(kd:HeapKind prog w K)(bt:Bool)(h:Heap)(a:Addr)(ps:List (K×Addr)):Prop:=∃o es ep t,h.get? a=some o/\o.ExactSet/\o.data=.set es ep t/\ST.Tab t es/\es.size*5 < t.mask*3/\t.plain=true/\t.led=bt/\
 es.toList=ps.map (fun p=>(kd.hash p.1,Value.ref p.2))/\(∀p∈ps,kd.is h p.1 p.2)/\(ps.map (·.1)).Nodup
theorem zO.keep{kd:HeapKind prog w K}{bt:Bool}{h h':Heap}{a:Addr}{ps:List (K×Addr)}(x:zO kd bt h a ps)(k1:∀o,h.get? a=some o->h'.get? a=some o)(k2:∀p∈ps,kd.is h p.1 p.2->kd.is h' p.1 p.2):zO kd bt h' a ps:=by
 obtain⟨o,es,ep,t,ho,r1,r2,r3,r4,r5,r6,r7,r8,r9⟩:=x
 exact⟨o,es,ep,t,k1 o ho,r1,r2,r3,r4,r5,r6,r7,fun p hp=>k2 p hp (r8 p hp),r9⟩
theorem aEZ{h:Heap}{a:Addr}{o:Obj}{es es':Array (Int×Value)}{ep:Nat}{t t':SetTable}(ho:h.get? a=some o)(hd:o.data=.set es ep t):(h.update a (Obj.putSet es' t')).get? a=some { o with data:=.set es' (ep+1) t' }:=by
 have:=Heap.get?_update_self (Obj.putSet es' t') ho (by rw[putSet_of es' t' hd];rfl)
 rw[putSet_of es' t' hd] at this;exact this
theorem aKG{kd:HeapKind prog w K}(S:wG kd)(hu:kd.room A){bt:Bool}{a:Addr}{ps:List (K×Addr)}(hS:zO kd bt s.heap a ps){k:K}{b:Addr}(hb:kd.is s.heap k b)(hl:ps.length < 64)
  {Q:Bool->Shared->Prop} (h:∀h' ps' r,Heap.SameBut a s.heap h'->zO kd bt h' a ps'->ps'.Perm (if k∈ps.map (·.1) then ps else (k,b)::ps)->Q r { s with heap:=h' }) :
  wpAny (model prog w) A (setAddHashed a (.ref b) (kd.hash k)) Q E s:=by
 obtain⟨o,es,ep,t,ho,hex,hd,T,cap,pl,ld,ee,hel,nd⟩:=id hS
 have sz:es.size=ps.length:=by have:=congrArg List.length ee;simpa using this
 have els:∀(i:Nat) e,es[i]?=some e->∃k' b',e=(kd.hash k',Value.ref b')/\kd.is s.heap k' b':=fun i e he=>by
  rw[<-Array.getElem?_toList,ee,List.getElem?_map] at he
  obtain⟨p,hp,rfl⟩:=Option.map_eq_some_iff.mp he
  exact⟨p.1,p.2,rfl,hel p (List.mem_of_getElem? hp)⟩
 obtain⟨N,hN,F⟩:=T.first (kd.hash k)
 have mL:t.mask<=127:=by rcases T.msk with z|z|z <;> omega
 unfold setAddHashed
 refine wpAny_holding ?_
 unfold setAddHashedIn
 refine wpAny_bind (wpAny_setState_of ho hd T.fits ?_)
 dsimp only
 rw[aHk]
 simp only[Bool.false_eq_true,if_false]
 unfold setSearch
 refine wpAny_bind (aBm S hu ho hd T hb els F hN (fun i b' hi hk=>?_) (fun hno=>?_) 100000 0 none (Nat.zero_le _) (by omega) (ST.aHg t _) (fun n i k' b' z=>by omega))
 ·refine wpAny_pure ?_
  have hm:k∈ps.map (·.1):=by
   rw[<-Array.getElem?_toList,ee,List.getElem?_map] at hi
   obtain⟨p,hp,e⟩:=Option.map_eq_some_iff.mp hi
   injection e with _ e2
   injection e2 with e2
   have hp1:=hel p (List.mem_of_getElem? hp)
   rw[e2] at hp1
   exact List.mem_map.mpr ⟨p,List.mem_of_getElem? hp,kd.inj hp1 hk⟩
  have:=h s.heap ps false (Heap.SameBut.refl a s.heap) hS (by rw[if_pos hm])
  exact this
 ·dsimp only
  have hm:k∉ps.map (·.1):=fun hm=>by
   obtain⟨p,hp,e⟩:=List.mem_map.mp hm
   obtain⟨i,hi⟩:=List.mem_iff_getElem?.mp hp
   refine hno i p.1 p.2 ?_ (hel p hp) e
   rw[<-Array.getElem?_toList,ee,List.getElem?_map,hi]
   rfl
  rw[if_neg hm] at h
  refine wpAny_bind (wpAny_setState_of ho hd T.fits ?_)
  dsimp only
  have hz:es.size+1<=t.mask:=by rcases T.msk with z|z|z <;> rw[z] at cap ⊢ <;> omega
  obtain⟨p1,p2,T1⟩:=T.put F hz (.ref b)
  rw[p1,p2]
  generalize hpl:SetTable.insertAt t.place (SetTable.below t.place (ST.pj t.mask (kd.hash k) N)) (ST.pj t.mask (kd.hash k) N)=pl1 at T1
  generalize hes:SetTable.insertAt es (SetTable.below t.place (ST.pj t.mask (kd.hash k) N)) (kd.hash k,Value.ref b)=es1 at T1
  have pm1:es1.toList.Perm (((k,b)::ps).map fun p=>(kd.hash p.1,Value.ref p.2)):=by
   rw[<-hes]
   refine(SetTable.insertAt_perm _ _ _).trans ?_
   rw[Array.toList_push,ee,List.map_cons]
   exact List.perm_append_singleton ..
  obtain⟨ps1,q1,q2⟩:=zN pm1 rfl
  have sz1:es1.size=ps.length+1:=by have:=pm1.length_eq;simpa using this
  have isk:∀{h':Heap},(∀b o,b≠a->s.heap.get? b=some o->h'.get? b=some o)->∀{qs:List (K×Addr)},qs.Perm ((k,b)::ps)->(∀p∈qs,kd.is h' p.1 p.2)/\(qs.map (·.1)).Nodup:=fun hk qs pq=>by
   refine⟨fun p hp=>S.keepsT ?_ fun b o c e=>hk b o (fun z=>by rw[z,ho] at e;cases e;rw[hex.1] at c;exact absurd c (by decide)) e,?_⟩
   ·rcases List.mem_cons.mp (pq.mem_iff.mp hp) with rfl|hp
    ·exact hb
    ·exact hel p hp
   ·refine((pq.map (·.1)).nodup_iff).mpr ?_
    rw[List.map_cons]
    exact List.nodup_cons.mpr ⟨hm,nd⟩
  rw[if_pos pl]
  refine wpAny_bind (S.byVal hb ?_)
  simp only[if_true]
  refine wpAny_bind (wpAny_storeSet_of ho hd ?_ (by rw[sz1,sizeLine_eq];omega))
  have g1:=aEZ (es':=es1) (t':={ t with place:=pl1 }) ho hd
  have sb1:=Heap.SameBut.update s.heap a (Obj.putSet es1 { t with place:=pl1 })
  generalize hh1:s.heap.update a (Obj.putSet es1 { t with place:=pl1 })=h1 at g1 sb1
  have kp1:∀b o,b≠a->s.heap.get? b=some o->h1.get? b=some o:=fun b o hn e=>(sb1.2 b hn).trans e
  have tf:({ t with place:=pl1 }:SetTable).tooFull=decide ((ps.length+1)*5 ≥ t.mask*3):=by
   unfold SetTable.tooFull SetTable.fill
   have:pl1.size=es1.size:=T1.sz
   dsimp only
   rw[this,sz1,T.dm]
   rfl
  rw[tf]
  by_cases full:(ps.length+1)*5 ≥ t.mask*3
  ·rw[decide_eq_true full]
   simp only[Bool.not_false,Bool.and_self,if_true]
   have cs:(t.mask=7/\ps.length=4)\/(t.mask=31/\ps.length=18):=by
    rw[sz] at cap
    rcases T.msk with z|z|z <;> rw[z] at cap full
    ·exact .inl ⟨z,by omega⟩
    ·exact .inr ⟨z,by omega⟩
    ·omega
   have ms:ST.Msk (SetTable.sizeAbove (SetTable.grown (es.size+1)) - 1)/\es1.size*5 < (SetTable.sizeAbove (SetTable.grown (es.size+1)) - 1)*3/\¬SetTable.sizeAbove (SetTable.grown (es.size+1)) > sizeLine:=by
    rw[sz,sz1]
    rcases cs with ⟨_,z⟩|⟨_,z⟩ <;> rw[z]
    ·exact⟨.inr (.inl (by decide)),by decide,by rw[sizeLine_eq];decide⟩
    ·exact⟨.inr (.inr (by decide)),by decide,by rw[sizeLine_eq];decide⟩
   generalize hW:SetTable.grown (es.size+1)=W at ms
   obtain⟨pl2,od,r1,r2,T2⟩:=ST.aFM (t:={ t with place:=pl1 }) (es:=es1) ms.1 (by omega)
   unfold setRelay
   refine wpAny_bind (wpAny_bind (wpAny_setState_of (s:={ s with heap:=h1 }) g1 rfl T1.fits ?_))
   dsimp only
   rw[if_neg ms.2.2]
   have er:∀{Q':(Array (Int×Value)×SetTable)->Shared->Prop},Q' (od.filterMap (es1[·]?),_) { s with heap:=h1 }->wpAny (model prog w) A (do
     let some (t,order):=({ t with place:=pl1 }:SetTable).relaid (es1.map (·.1)) W|unsupported "internal:set-table-without-room"
     let es':=order.filterMap (es1[·]?)
     if es'.size != es1.size then unsupported "internal:set-table-lost-an-element"
     pure (es',t)) Q' E { s with heap:=h1 }:=fun {Q'} hq=>by
    rw[r1]
    dsimp only
    have:((od.filterMap (es1[·]?)).size != es1.size)=false:=by
     have:=r2.length_eq
     rw[Array.length_toList,Array.length_toList] at this
     simp[this]
    rw[this]
    simp only[Bool.false_eq_true,if_false]
    exact wpAny_pure hq
   refine wpAny_bind (er ?_)
   obtain⟨ps2,u1,u2⟩:=zN r2 q2
   have sz2:(od.filterMap (es1[·]?)).size=es1.size:=by have:=r2.length_eq;rw[Array.length_toList,Array.length_toList] at this;exact this
   refine wpAny_storeSet_of (s:={ s with heap:=h1 }) g1 rfl ?_ (by rw[sz2,sz1,sizeLine_eq];omega)
   refine wpAny_pure ?_
   have g2:=aEZ (es':=od.filterMap (es1[·]?)) (t':={ mask:=SetTable.sizeAbove W - 1,place:=pl2,dummies:=#[],finger:=t.finger,led:=t.led,moves:=({ t with place:=pl1 }:SetTable).movedTo (SetTable.sizeAbove W - 1),plain:=t.plain }) g1 rfl
   have sb2:=sb1.trans (Heap.SameBut.update h1 a (Obj.putSet (od.filterMap (es1[·]?)) { mask:=SetTable.sizeAbove W - 1,place:=pl2,dummies:=#[],finger:=t.finger,led:=t.led,moves:=({ t with place:=pl1 }:SetTable).movedTo (SetTable.sizeAbove W - 1),plain:=t.plain }))
   obtain⟨i1,i2⟩:=isk (fun b o hn e=>(sb2.2 b hn).trans e) (u1.trans q1)
   exact h _ ps2 true sb2 ⟨_,_,_,_,g2,hex,rfl,T2,by rw[sz2];exact ms.2.1,pl,ld,u2,i1,i2⟩ (u1.trans q1)
  ·rw[decide_eq_false full]
   simp only[Bool.not_false,Bool.true_and,Bool.and_false,Bool.false_eq_true,if_false]
   obtain⟨i1,i2⟩:=isk kp1 q1
   exact wpAny_pure (h h1 ps1 true sb1 ⟨_,es1,ep+1,_,g1,hex,rfl,T1,by rw[sz1];dsimp only;omega,pl,ld,q2,i1,i2⟩ q1)
end
end L2
namespace L2
open PySem PySem.Spec PySem.W PyProof.Rows
theorem aC9:Manifest.owners.lookup (String.ofList "rotareti_tes".toList.reverse)=some Manifest.sig_set_iterator:=by kernel_rfl
theorem sC:Slot "set_iterator" "__next__" "set_iterator.__next__":=
 .of (owner:="set_iterator") (n:="__next__") (by rw[typeLookup_type];rw[builtinLookup_eq_fast];kernel_rfl) (by decide +kernel) (by decide +kernel) (by decide +kernel) (by first|exact Or.inl (by decide +kernel)|exact Or.inr (by decide +kernel)) (by rw[isSubtype_type];kernel_rfl)
theorem aDa:entryFor table "set_iterator.__next__" = some Builtin.«set_iterator.__next__»:=by refine entryFor_of_tree ?_;kernel_rfl
theorem aE0(a:Value):argsOk "set_iterator.__next__" ⟨[a],[]⟩:=by
 unfold argsOk;rw[signature?_of (id:="set_iterator.__next__") (n:="__txen__".toList) (o:="rotareti_tes".toList) (by kernel_rfl) aC9];kernel_rfl
theorem aKH:bootBuiltins "set" = some (.type "set"):=by decide +kernel
theorem aIG:entryFor table "set.__iter__" = some Builtin.«frozenset.__iter__»:=by
 refine entryFor_alias (id':="frozenset.__iter__") ?_ rfl (by decide +kernel) ?_ <;> kernel_rfl
theorem aIH:entryFor table "set_iterator.__iter__" = some Builtin.«dict_keyiterator.__iter__»:=by
 refine entryFor_alias (id':="dict_keyiterator.__iter__") ?_ rfl (by decide +kernel) ?_ <;> kernel_rfl
theorem aDb:Slot "set_iterator" "__iter__" "set_iterator.__iter__":=
 .of (owner:="set_iterator") (n:="__iter__") (by rw[typeLookup_type];rw[builtinLookup_eq_fast];kernel_rfl) (by decide +kernel) (by decide +kernel) (by decide +kernel) (by first|exact Or.inl (by decide +kernel)|exact Or.inr (by decide +kernel)) (by rw[isSubtype_type];kernel_rfl)
theorem aHl(a:Value):argsOk "set_iterator.__iter__" ⟨[a],[]⟩:=by
 unfold argsOk;rw[signature?_of (id:="set_iterator.__iter__") (n:="__reti__".toList) (o:="rotareti_tes".toList) (by kernel_rfl) aC9];kernel_rfl
theorem aE1{α:Type}(f:Nat->Nat):∀(n k:Nat) (l:List α) (out:Array α),l.length=n->(pickOrder.go f n k l out).toList.Perm (out.toList++l)
 |0,k,l,out,h=>by
  have:l=[]:=List.eq_nil_of_length_eq_zero h
  subst this
  unfold pickOrder.go
  simp
 |n+1,k,l,out,h=>by
  have hl:f k % l.length < l.length:=Nat.mod_lt _ (by omega)
  unfold pickOrder.go
  rw[List.getElem?_eq_getElem hl]
  dsimp only
  refine(aE1 f n (k+1) _ _ (by rw[List.length_eraseIdx_of_lt hl,h];rfl)).trans ?_
  rw[Array.toList_push,List.append_assoc]
  refine List.Perm.append_left _ ?_
  rw[List.eraseIdx_eq_take_drop_succ]
  conv=>rhs;rw[<-List.take_append_drop (f k % l.length) l,List.drop_eq_getElem_cons hl]
  rw[List.singleton_append]
  exact List.perm_middle.symm
theorem aFN{α:Type}(f:Nat->Nat)(xs:Array α):(pickOrder f xs).toList.Perm xs.toList:=by
 have:=aE1 f xs.size 0 xs.toList #[] (by simp)
 simpa [pickOrder] using this
section
variable{prog:Program}{w:World}{A:Around}{E:Value->Shared->Prop}{s:Shared}
def kT(w:World):Bool:=w.params.followText "set-order"
theorem aB0{Q:Bool->Shared->Prop}(h:Q (kT w) s):wpAny (model prog w) A setsByText Q E s:=by
 unfold setsByText
 exact wpAny_bind (wpAny_askSetting (wpAny_pure h))
structure uS(w:World)(h:Heap)(a:Addr)(es:Array (Int×Value))(ep:Nat)(t:SetTable):Prop where
 at_:∃o,h.get? a=some o/\o.ExactSet/\o.data=.set es ep t
 tab:ST.Tab t es
 pl:t.plain=true
 ld:t.led = !kT w
theorem uS.ty{a:Addr}{es ep t}(m:uS w s.heap a es ep t):s.TypeIs (.ref a) "set":=let ⟨o,x,y,_⟩:=m.at_;⟨o,x,y.1⟩
theorem uS.keep{h h':Heap}{a:Addr}{es ep t}(m:uS w h a es ep t)(k:∀o,h.get? a=some o->h'.get? a=some o):uS w h' a es ep t:=⟨let ⟨o,x,r⟩:=m.at_;⟨o,k o x,r⟩,m.tab,m.pl,m.ld⟩
def xN(w:World)(a:Addr)(es:Array (Int×Value))(ep:Nat):Array (Int×Value):=if kT w then pickOrder (w.params.setOrder a ep) es else es
theorem aBn(w:World)(a:Addr)(es:Array (Int×Value))(ep:Nat):(xN w a es ep).toList.Perm es.toList:=by
 unfold xN
 split
 ·exact aFN _ _
 ·exact .rfl
theorem sD(w:World)(a:Addr)(es:Array (Int×Value))(ep:Nat):(xN w a es ep).size=es.size:=by have:=(aBn w a es ep).length_eq;simpa using this
def slS(w:World)(t:SetTable)(i:Nat):Nat:=if kT w then 0 else if i=0 then 0 else t.place.getD (i - 1) 0+1
def IzS(w:World)(h:Heap)(it a:Addr)(t:SetTable)(i n ep:Nat):Prop:=∃o,h.get? it=some o/\o.cls=.type "set_iterator"/\o.data=.fields #[.int (slS w t i) 0,.int i 0,.ref a,.int n 0,.int ep 0]
theorem aHm{a:Addr}{es ep t}(m:uS w s.heap a es ep t){Q:Bool->Shared->Prop}(h:Q false s):wpAny (model prog w) A (setDrawn a) Q E s:=by
 obtain⟨o,o1,o2,o3⟩:=m.at_
 unfold setDrawn
 refine wpAny_bind (wpAny_setState_of o1 o3 m.tab.fits (wpAny_bind (aB0 ?_)))
 refine wpAny_pure ?_
 have e:∀b:Bool,(!b && (!t.plain && decide (es.size > 1)))=false:=fun b=>by rw[m.pl];simp
 have:=e (kT w)
 show Q (!kT w && (!t.plain && decide (es.size > 1))) s
 rw[this];exact h
theorem aHn{a:Addr}{es ep t}(m:uS w s.heap a es ep t){Q:Value->Shared->Prop}(h:Q (.ref s.heap.objs.size) { s with heap:=s.heap.push { cls:=.type "set_iterator",data:=.fields #[.int 0 0,.int 0 0,.ref a,.int es.size 0,.int ep 0] } }) :
  wpAny (model prog w) A (pyIter (.ref a)) Q E s:=by
 obtain⟨o,o1,o2,o3⟩:=m.at_
 refine wpAny_pyIter_slot m.ty F.slot_set_iter (wpAny_call_entry F.slot_set_iter m.ty aIG (show _ from ?_) (F.args_set_iter_1 _))
 unfold Builtin.«frozenset.__iter__» Builtin.Frozenset.slot0 slotArgs Builtin.Frozenset.sizeOf
 refine wpAny_bind (wpAny_bind (wpAny_pure (wpAny_pure ?_)))
 refine wpAny_bind (wpAny_bind (wpAny_setEntries_of o1 o3 m.tab.fits (wpAny_pure ?_)))
 refine wpAny_bind (aHm m ?_)
 simp only[Bool.false_eq_true,if_false]
 refine wpAny_bind (wpAny_pure (wpAny_bind (wpAny_setEpoch_of o1 o3 m.tab.fits ?_)))
 unfold newFields
 refine wpAny_bind (wpAny_newObj_type (wpAny_pure ⟨_,rfl,"set_iterator",_,⟨_,Heap.get?_push_size _ rfl,rfl⟩,sC.lookup,(show _ from ?_)⟩))
 simpa [rawInt] using h
theorem IzS.ty{it a:Addr}{t:SetTable}{i n ep:Nat}(x:IzS w s.heap it a t i n ep):s.TypeIs (.ref it) "set_iterator":=let ⟨o,p,q,_⟩:=x;⟨o,p,q⟩
theorem IzS.keep{h h':Heap}{it a:Addr}{t:SetTable}{i n ep:Nat}(m:IzS w h it a t i n ep)(k:∀o,h.get? it=some o->h'.get? it=some o):IzS w h' it a t i n ep:=let ⟨o,x,r⟩:=m;⟨o,k o x,r⟩
theorem aII{t:SetTable}{es:Array (Int×Value)}(T:ST.Tab t es)(bt:kT w=false){i:Nat}(hi:i<=es.size):SetTable.below t.place (slS w t i)=i:=by
 have hz:=T.sz
 obtain⟨c1,c2,c3⟩:=ST.sA T.ris (slS w t i)
 unfold slS at c1 c2 c3 ⊢
 rw[bt] at c1 c2 c3 ⊢
 simp only[Bool.false_eq_true,if_false] at c1 c2 c3 ⊢
 by_cases z:i=0
 ·rw[if_pos z] at c1 c2 c3 ⊢
  rw[z]
  apply Classical.byContradiction
  intro q
  have:=c2 0 (by omega)
  omega
 ·rw[if_neg z] at c1 c2 c3 ⊢
  rcases Nat.lt_trichotomy (SetTable.below t.place (t.place.getD (i - 1) 0+1)) i with q|q|q
  ·have:=c3 (i - 1) (by omega) (by omega)
   omega
  ·exact q
  ·have h1:=c2 i q
   have h2:=T.ris (i - 1) i (by omega) (by omega)
   omega
theorem aHo{a:Addr}{es ep t}(m:uS w s.heap a es ep t){i:Nat}(hi:i<=es.size){Q:Option (Value×Nat)->Shared->Prop}
  (h:Q ((xN w a es ep)[i]?.map fun e=>(e.2,slS w t (i+1))) s):wpAny (model prog w) A (setNext a (slS w t i) i ep) Q E s:=by
 obtain⟨o,o1,o2,o3⟩:=m.at_
 unfold setNext
 refine wpAny_bind (wpAny_setState_of o1 o3 m.tab.fits (wpAny_bind (aB0 ?_)))
 by_cases bt:kT w=true
 ·rw[if_pos bt]
  simp only[bne_self_eq_false,Bool.false_eq_true,if_false]
  unfold setWalk
  refine wpAny_bind (wpAny_bind (wpAny_setState_of o1 o3 m.tab.fits (wpAny_bind (aB0 ?_))))
  rw[if_pos bt]
  refine wpAny_bind (wpAny_askSetting (wpAny_pure ?_))
  refine wpAny_pure ?_
  unfold xN slS at h
  rw[if_pos bt,if_pos bt] at h
  unfold slS
  rw[if_pos bt]
  exact h
 ·have bf:kT w=false:=by simpa using bt
  rw[if_neg bt]
  have dn:(!t.plain && decide (es.size > 1))=false:=by rw[m.pl];rfl
  refine(show wpAny (model prog w) A (if (!t.plain && decide (es.size > 1))=true then unsupported _ else _) Q E s from ?_)
  rw[dn]
  simp only[Bool.false_eq_true,if_false]
  have ml:wpAny (model prog w) A (do if !t.led && !es.isEmpty then unsupported "set:maker-not-led") (fun _ s'=>s'=s) E s:=by
   rw[m.ld,bf]
   simp only[Bool.not_false,Bool.not_true,Bool.false_and,Bool.false_eq_true,if_false]
   exact wpAny_pure rfl
  refine wpAny_bind (wpAny_mono ml (fun _ s' e=>?_) fun _ _ e=>e)
  subst e
  rw[aII m.tab bf hi]
  refine wpAny_pure ?_
  have eo:xN w a es ep=es:=by unfold xN;rw[if_neg bt]
  rw[eo] at h
  by_cases z:i < es.size
  ·have z2:i < t.place.size:=by rw[m.tab.sz];exact z
   rw[Array.getElem?_eq_getElem z] at h ⊢
   rw[Array.getElem?_eq_getElem z2]
   have e2:slS w t (i+1)=t.place[i] + 1:=by unfold slS;rw[if_neg bt,if_neg (by omega)];simp[Array.getD,z2]
   rw[e2] at h
   exact h
  ·rw[Array.getElem?_eq_none (by omega)] at h ⊢
   exact h
theorem IzS.turn{h:Heap}{it a:Addr}{t:SetTable}{i n ep:Nat}{o:Obj}(g1:h.get? it=some o)(g2:o.cls=.type "set_iterator")(g3:o.data=.fields #[.int (slS w t i) 0,.int i 0,.ref a,.int n 0,.int ep 0]) :
  IzS w ((h.update it (Obj.mapFields (·.setIfInBounds 0 (rawInt (slS w t (i+1)))))).update it (Obj.mapFields (·.setIfInBounds 1 (rawInt ((i:Int)+1))))) it a t (i+1) n ep:=by
 have e1:=Heap.get?_update_self (Obj.mapFields (·.setIfInBounds 0 (rawInt (slS w t (i+1))))) g1 (Obj.isFreed_of_fields (Obj.data_mapFields g3 _))
 have e2:=Heap.get?_update_self (Obj.mapFields (·.setIfInBounds 1 (rawInt ((i:Int)+1)))) e1 (Obj.isFreed_of_fields (Obj.data_mapFields (Obj.data_mapFields g3 _) _))
 exact⟨_,e2,((Obj.cls_mapFields ..).trans (Obj.cls_mapFields ..)).trans g2,by rw[Obj.data_mapFields (Obj.data_mapFields g3 _)];simp[rawInt]⟩
theorem aHp{it a:Addr}{es ep t}{i:Nat}{e:Int×Value}(x:IzS w s.heap it a t i es.size ep)(m:uS w s.heap a es ep t)(he:(xN w a es ep)[i]?=some e){Q:Option Value->Shared->Prop}
  (hQ:∀h',IzS w h' it a t (i+1) es.size ep->Heap.SameBut it s.heap h'->Q (some e.2) { s with heap:=h' }):wpAny (model prog w) A (pyNext (.ref it)) Q E s:=by
 obtain⟨o,g1,g2,g3⟩:=id x
 obtain⟨so,o1,o2,o3⟩:=m.at_
 have il:i < es.size:=by rw[<-sD w a es ep];exact(Array.getElem?_eq_some_iff.mp he).1
 unfold pyNext
 refine wpAny_bind (wpAny_attempt (wpAny_callSpecial?_slot (name:=Str.ofString "__next__") x.ty sC (wpAny_call_entry sC x.ty aDa (show _ from ?_) (aE0 _))))
 unfold Builtin.«set_iterator.__next__» slotArgs
 refine wpAny_bind (wpAny_pure ?_)
 refine wpAny_bind (wpAny_fieldsOf g1 g3 ?_)
 dsimp only
 refine wpAny_bind (wpAny_setEntries_of o1 o3 m.tab.fits ?_)
 rw[if_neg (by simp)]
 simp only[Int.toNat_natCast]
 refine wpAny_bind (aHo m (by omega) ?_)
 rw[he]
 dsimp only [Option.map]
 refine wpAny_bind (wpAny_setField g1 g3 (by simp) ?_)
 have e1:=Heap.get?_update_self (Obj.mapFields (·.setIfInBounds 0 (rawInt (slS w t (i+1))))) g1 (Obj.isFreed_of_fields (Obj.data_mapFields g3 _))
 refine wpAny_bind (wpAny_setField (s:={ s with heap:=_ }) e1 (Obj.data_mapFields g3 _) (by simp) ?_)
 exact wpAny_pure ⟨_,rfl,wpAny_pure (hQ _ (IzS.turn g1 g2 g3) ((Heap.SameBut.update ..).trans (Heap.SameBut.update ..)))⟩
theorem aIJ{it a:Addr}{es ep t}(hh:A.handled=none)(x:IzS w s.heap it a t es.size es.size ep)(m:uS w s.heap a es ep t){Q:Option Value->Shared->Prop}
  (hQ:∀h',Heap.ExtBut it s.heap h'->Q none { s with heap:=h' }):wpAny (model prog w) A (pyNext (.ref it)) Q E s:=by
 obtain⟨o,g1,g2,g3⟩:=id x
 obtain⟨so,o1,o2,o3⟩:=m.at_
 unfold pyNext
 refine wpAny_bind (wpAny_attempt (wpAny_callSpecial?_slot (name:=Str.ofString "__next__") x.ty sC (wpAny_call_entry sC x.ty aDa (show _ from ?_) (aE0 _))))
 unfold Builtin.«set_iterator.__next__» slotArgs
 refine wpAny_bind (wpAny_pure ?_)
 refine wpAny_bind (wpAny_fieldsOf g1 g3 ?_)
 dsimp only
 refine wpAny_bind (wpAny_setEntries_of o1 o3 m.tab.fits ?_)
 rw[if_neg (by simp)]
 simp only[Int.toNat_natCast]
 refine wpAny_bind (aHo m (Nat.le_refl _) ?_)
 rw[Array.getElem?_eq_none (by rw[sD];omega)]
 dsimp only [Option.map]
 refine wpAny_bind (wpAny_setField g1 g3 (by simp) ?_)
 refine wpAny_bind (show _ from ?_);simp only[newExc,newTuple];refine wpAny_bind (wpAny_newObj_type (show _ from ?_) (by size_fits))
 refine wpAny_bind (m:=firstArgMember _ _) (wpAny_of_eq (a:=Value.none) (by first|rfl|(simp only[firstArgMember];rfl)) ?_)
 refine wpAny_newObj_type ?_ (by size_fits)
 simp only[raiseNew]
 refine wpAny_bind (wpAny_handled ?_)
 rw[show A.in1.handled=none from hh]
 refine wpAny_bind (wpAny_pure (wpAny_throw ?_))
 refine wpAny_bind (wpAny_isInstance (T:="StopIteration") (b:=true) ⟨_,Heap.get?_push_size _ rfl,rfl⟩ isSubtype_stop ?_)
 exact wpAny_pure (hQ _ (((Heap.SameBut.update ..).extBut.push _).push _))
theorem aKI{I a:Addr}(hh:A.handled=none)(hne:a≠I){es:Array (Int×Value)}{ep:Nat}{t:SetTable} :
  Walks prog w A I [I,a] [I] es.size (fun i v=>∃e,(xN w a es ep)[i]?=some e/\v=e.2) (fun i h=>IzS w h I a t i es.size ep/\uS w h a es ep t) where
 sub:=fun b hb=>List.mem_cons.mpr (.inl (by simpa using hb))
 frame:=fun _ _ _ st hk=>⟨st.1.keep fun o e=>hk I (by simp) o e,st.2.keep fun o e=>hk a (by simp) o e⟩
 item:=fun i s Q E hi st hQ=>by
  have hx:=Array.getElem?_eq_getElem (xs:=xN w a es ep) (i:=i) (by rw[sD];exact hi)
  exact aHp st.1 st.2 hx fun h' p q=>hQ _ h' s.toks ⟨_,hx,rfl⟩ ⟨p,st.2.keep fun o e=>q.extBut a o hne e⟩ fun b' o hb e=>q.extBut b' o (fun z=>hb (List.mem_singleton.mpr z)) e
 done:=fun s Q E st hQ=>aIJ hh st.1 st.2 fun h' z=>hQ h' s.toks fun b o hb e=>z b o (fun y=>hb (List.mem_singleton.mpr y)) e
 self:=fun _ _ _ _ st hQ=>by
  refine wpAny_pyIter_slot st.1.ty aDb (wpAny_call_entry aDb st.1.ty aIH ?_ (aHl _))
  show wpAny _ _ (ret (.ref I)) _ _ _
  exact wpAny_pure ⟨_,rfl,"set_iterator",_,st.1.ty,sC.lookup,hQ⟩
end
end L2
namespace L2
open PySem PySem.Spec PySem.W PyProof.Rows
section
variable{prog:Program}{w:World}{K:Type}[DecidableEq K]{A:Around}{E:Value->Shared->Prop}{s:Shared}
theorem aKJ{kd:HeapKind prog w K}(S:wG kd)(hr:kd.room A.in1)(hh:A.in1.handled=none){bt:Bool}{I l a:Addr}(n1:l≠I)(n2:a≠I)(n3:a≠l){items:Array Value}{its:List (K×Addr)}(hi:items.toList=its.map fun p=>Value.ref p.2){all:List K}(ha:∀p∈its,p.1∈all)(h64:all.length < 64)
  {R:Result->Shared->Prop} {h₀:Heap} {s₀:Shared} (hR:∀h' tk ps,(∀b o,b≠a->b≠I->h₀.get? b=some o->h'.get? b=some o)->zO kd bt h' a ps->(∀p∈ps,p∈its)->(∀k,k∈ps.map (·.1)↔k∈its.map (·.1))->R (.ok (.ret .none)) { s₀ with heap:=h',toks:=tk }) :
  ∀(k i:Nat) (h:Heap) (tk:Nat) (ps:List (K×Addr)),items.size - i=k->i<=items.size->h.IsListIter I l i->h.IsList l items->(∀p∈its,kd.is h p.1 p.2)->(∀b o,b≠a->b≠I->h₀.get? b=some o->h.get? b=some o)->
   zO kd bt h a ps->(∀p∈ps,p∈its)->(∀k,k∈ps.map (·.1)↔k∈(its.take i).map (·.1))->codeAny (model prog w) A (.builtin "set.update.loop" ⟨[.ref a,.ref I],[]⟩) R { s₀ with heap:=h,toks:=tk }:=by
 have zl:items.size=its.length:=by have:=congrArg List.length hi;simpa using this
 have keepI:∀{h h':Heap} {i:Nat},h.IsListIter I l i->(∀b o,b∉[I]->h.get? b=some o->h'.get? b=some o)->∀(b:Addr) (o:Obj),o.cls=.type "tuple"->h.get? b=some o->h'.get? b=some o:=fun⟨o',g,c,_⟩ hk b o hc e=>hk b o (fun z=>by
  rw[List.mem_singleton.mp z,g] at e
  cases e
  rw[c] at hc
  exact absurd hc (by decide)) e
 intro k
 induction k with
 |zero=>
  intro i h tk ps hk hle st sl his hfr hS hin hky
  have ei:i=items.size:=by omega
  subst ei
  refine codeAny_builtin F.entry_set_update_loop ?_
  rw[Around.under_plainId F.plain_set_update_loop _]
  refine(show wpAny _ A.in1 (pyNext (.ref I) >>= _) _ _ _ from wpAny_bind ((Walks.list hh I l n1 items).done { s₀ with heap:=h,toks:=tk } _ _ ⟨st,sl⟩ fun h' tk' hm=>?_))
  refine(show wpAny _ A.in1 (ret Value.none) _ _ _ from wpAny_pure (hR h' tk' ps (fun b o x1 x2 e=>hm b o (by simpa using x2) (hfr b o x1 x2 e)) (hS.keep (fun o e=>hm a o (by simpa using n2) e) fun p hp e=>S.keepsT e (keepI st hm)) hin fun k=>?_))
  rw[hky,zl,List.take_length]
 |succ k ih=>
  intro i h tk ps hk hle st sl his hfr hS hin hky
  have hlt:i < items.size:=by omega
  refine codeAny_builtin F.entry_set_update_loop ?_
  rw[Around.under_plainId F.plain_set_update_loop _]
  refine(show wpAny _ A.in1 (pyNext (.ref I) >>= _) _ _ _ from wpAny_bind ((Walks.list hh I l n1 items).item i { s₀ with heap:=h,toks:=tk } _ _ hlt ⟨st,sl⟩ fun v h' tk' hv st' hm=>?_))
  have hil:i < its.length:=by omega
  have ev:v=.ref its[i].2:=by
   rw[<-Array.getElem?_toList,hi,List.getElem?_map,List.getElem?_eq_getElem hil] at hv
   exact(Option.some.inj hv).symm
  subst ev
  have mi:its[i]∈its:=List.getElem_mem hil
  have his':∀p∈its,kd.is h' p.1 p.2:=fun p hp=>S.keepsT (his p hp) (keepI st hm)
  have hS':zO kd bt h' a ps:=hS.keep (fun o e=>hm a o (by simpa using n2) e) fun p hp e=>S.keepsT e (keepI st hm)
  have lp:ps.length < 64:=by
   obtain⟨_,_,_,_,_,_,_,_,_,_,_,_,_,nd⟩:=hS
   have:=ST.aEQ nd (fun x hx=>by obtain⟨p,hp,rfl⟩:=List.mem_map.mp hx;exact ha p (hin p hp))
   rw[List.length_map] at this
   omega
  refine(show wpAny _ A.in1 (holding [Value.ref its[i].2] (setAdd a (.ref its[i].2)) >>= _) _ _ _ from wpAny_bind (wpAny_holding ?_))
  unfold setAdd
  refine wpAny_holding (wpAny_bind (kd.pyHash (s:={ s₀ with heap:=h',toks:=tk' }) hr (his' _ mi) ?_))
  refine aKG (s:={ s₀ with heap:=h',toks:=tk'+kd.draws its[i].1 }) S hr hS' (his' _ mi) lp fun h2 ps2 r sb S2 pp=>?_
  obtain⟨so,sx,sy⟩ : ∃o,h'.get? a=some o/\o.cls=.type "set":=by obtain⟨o,_,_,_,x,y,_⟩:=hS';exact⟨o,x,y.1⟩
  have his2:∀p∈its,kd.is h2 p.1 p.2:=fun p hp=>S.keepsT (his' p hp) fun b o c e=>(sb.2 b (fun z=>by
   rw[z,sx] at e
   cases e
   rw[sy] at c
   exact absurd c (by decide))).trans e
  refine wpAny_pure ⟨plainId_quiet F.plain_set_update_loop _,ih (i+1) h2 _ ps2 (by omega) hlt ?_ ?_ his2 (fun b o x1 x2 e=>(sb.2 b x1).trans (hm b o (by simpa using x2) (hfr b o x1 x2 e))) S2 (fun p hp=>?_) fun k'=>?_⟩
  ·obtain⟨o,x,y⟩:=st'.1
   exact⟨o,(sb.2 I (Ne.symm n2)).trans x,y⟩
  ·obtain⟨o,x,y⟩:=st'.2
   exact⟨o,(sb.2 l (Ne.symm n3)).trans x,y⟩
  ·have:=pp.mem_iff.mp hp
   split at this
   ·exact hin p this
   ·rcases List.mem_cons.mp this with e|e
    ·rw[e];exact mi
    ·exact hin p e
  ·have e1:(its.take (i+1)).map (·.1)=(its.take i).map (·.1) ++ [its[i].1]:=by rw[List.take_succ,List.getElem?_eq_getElem hil,List.map_append];rfl
   rw[e1,List.mem_append,List.mem_singleton,<-hky k',(pp.map (·.1)).mem_iff]
   split
   ·rename_i z
    constructor
    ·exact .inl
    ·rintro (x|x)
     ·exact x
     ·rw[x];exact z
   ·rw[List.map_cons,List.mem_cons]
    exact Or.comm
theorem aIK(kd:HeapKind prog w K)(led:Bool){h:Heap}{a:Addr}(g:h.get? a=some { cls:=.type "set",dict:=none,data:=.set #[] 0 (.fresh 0 0 led) }):zO kd led h a []:=
 ⟨_,#[],0,_,g,⟨rfl,rfl,rfl⟩,rfl,⟨rfl,rfl,fun i k _ hk=>by simp[SetTable.fresh] at hk,fun j hj=>by simp[SetTable.fresh] at hj,.inl rfl,by simp[SetTable.fresh],fun i j e hi=>by simp[SetTable.fresh] at hi⟩,by simp[SetTable.fresh],rfl,rfl,rfl,(fun p hp=>absurd hp List.not_mem_nil),List.nodup_nil⟩
theorem aLA(a:Value){Q₁:Value->Shared->Prop}(hq:Q₁ (.ref s.heap.objs.size) { s with heap:=s.heap.push { cls:=.type "set",dict:=none,data:=.set #[] 0 (.fresh 0 0 (!kT w)) } }) :
  codeAny (model prog w) A (.call (.builtin "set.__new__") ⟨[.type "set",a],[]⟩) (wants Q₁ E) s:=by
 refine codeAny_of_tree (show wpAny _ A.in1 (do checkBuiltinCall "set.__new__" ⟨[.type "set",a],[]⟩;again (.builtin "set.__new__" ⟨[.type "set",a],[]⟩)) _ _ s from ?_)
 refine wpAny_bind (wpAny_of_eq (F.newCall_set_1 a) (wpAny_pure ⟨plainId_quiet F.plain_set_new _,codeAny_builtin F.entry_set_new (show _ from ?_)⟩))
 rw[Around.under_plainId F.plain_set_new _]
 unfold Builtin.«set.__new__»;unfold Builtin.Frozenset.newClass
 have hsub:=sub_set_self
 obtain⟨hp,g,d,tk,os⟩:=s;dsimp only
 wp_walk
 refine wpAny_askSetting (show _ from wpAny_pure ?_)
 dsimp only;simp only[newObj]
 refine wpAny_bind (wpAny_alloc (show _ from wpAny_pure ?_))
 exact wpAny_pure hq
theorem aKK{kd:HeapKind prog w K}(S:wG kd)(hr:∀A':Around,A'.units<=A.units+8->kd.room A')(hh:A.handled=none){l:Addr}{items:Array Value}(hl:s.heap.IsList l items){its:List (K×Addr)}(hi:items.toList=its.map fun p=>Value.ref p.2)(his:∀p∈its,kd.is s.heap p.1 p.2){all:List K}(ha:∀p∈its,p.1∈all)(h64:all.length < 64)
  {Q:Value->Shared->Prop} (h:∀h' tk ps,(∀b o,s.heap.get? b=some o->h'.get? b=some o)->zO kd (!kT w) h' s.heap.objs.size ps->(∀p∈ps,p∈its)->(∀k,k∈ps.map (·.1)↔k∈its.map (·.1))->Q (.ref s.heap.objs.size) { s with heap:=h',toks:=tk }) :
  wpAny (model prog w) A (call (.type "set") [.ref l]) Q E s:=by
 obtain⟨c0,tl0,m0⟩:=F.called_set.mro
 have m1:=F.called_set.made
 have m2:=F.called_set.sub
 refine wpAny_call (codeAny_of_tree (show wpAny _ _ (callAny (.type "set") _) _ _ _ from ?_))
 refine wpAny_pure ⟨Code.quiet_builtin _ (by decide +kernel),codeAny_builtin F.entry_type_call (show _ from ?_)⟩
 rw[Around.under_plain (weight_type_call_type "set" [Value.ref l] []) rfl]
 have m3:=F.called_set.notType
 have m4:=F.called_set.canCreate
 have m5:=F.typeCall_set_1 (.ref l)
 repeat (any_goals (first|wp_step|assumption))
 generalize ho:({ cls:=.type "set",dict:=none,data:=.set #[] 0 (.fresh 0 0 (!kT w)) }:Obj)=ob
 refine codeAny_mono (aLA (.ref l) (E:=E) (Q₁:=fun u s₁=>u=.ref s.heap.objs.size/\s₁={ s with heap:=s.heap.push ob }) ⟨rfl,by rw[<-ho]⟩) fun r s₁ hr1=>?_
 have gN:(s.heap.push ob).get? s.heap.objs.size=some ob:=Heap.get?_push_size _ (by rw[<-ho];rfl)
 cases r with
 |error e=>exact hr1
 |ok fl=>
  cases fl with
  |ret obj=>
   obtain⟨rfl,rfl⟩:=hr1
   have hT:Shared.TypeIs { s with heap:=s.heap.push ob } (.ref s.heap.objs.size) "set":=⟨_,gN,by rw[<-ho]⟩
   have m6:=F.called_set.init.lookup
   have m7:=F.called_set.init.bind (.ref s.heap.objs.size)
   repeat (any_goals (first|wp_step|assumption))
   refine codeAny_mono (codeAny_call_builtin (R:=wants (fun r s₂=>r=.none/\∃h' tk ps,s₂={ s with heap:=h',toks:=tk }/\(∀b o,s.heap.get? b=some o->h'.get? b=some o)/\zO kd (!kT w) h' s.heap.objs.size ps/\(∀p∈ps,p∈its)/\(∀k,k∈ps.map (·.1)↔k∈its.map (·.1))) E) F.called_set.init.plain F.entry_set_init (check_set_init_1 hT ?_)) fun r₂ s₂ hr₂=>?_
   ·obtain⟨ol,g1,g2,nl,g3⟩:=id hl
    obtain⟨oc,od,oda,osl⟩:=ol
    dsimp only at g2 g3
    subst g2;subst g3
    have g4:(s.heap.push ob).get? l=some { cls:=.type "list",dict:=od,data:=.seq items nl,slots:=osl }:=Heap.get?_push_of_some _ g1
    have m8:=F.sub_list_set
    have m9:=F.sub_list_frozenset
    have ne:(Value.type "list" == Value.type "dict")=false:=by decide
    have hl1:(s.heap.push ob).IsList l items:=⟨_,g4,rfl,nl,rfl⟩
    subst ho
    unfold Builtin.«set.__init__»;unfold noKeywords;unfold Builtin.Frozenset.updateFrom
    generalize hPI:pyIter=PI
    wp_walk
    subst hPI
    refine wpAny_pyIter_list hl1 (wpAny_bind (wpAny_runValue (show _ from ?_)))
    have ll:l < s.heap.objs.size:=Heap.lt_size g1
    have zI:(s.heap.push { cls:=.type "set",dict:=none,data:=.set #[] 0 (.fresh 0 0 (!kT w)) }).objs.size=s.heap.objs.size+1:=Heap.size_push ..
    refine aKJ (kd:=kd) (bt:=!kT w) (s₀:=s) (h₀:=s.heap) S (hr _ (by simp)) (by simp[hh]) (items:=items) (its:=its) (by rw[zI];exact Nat.ne_of_lt (Nat.lt_succ_of_lt ll)) (by rw[zI];exact Nat.ne_of_lt (Nat.lt_succ_self _)) (Nat.ne_of_gt ll) hi ha h64 (fun h' tk ps x1 x2 x3 x4=>?_) (items.size - 0) 0 _ s.toks [] (by omega) (Nat.zero_le _) ⟨_,Heap.get?_push_size _ rfl,rfl,rfl⟩ (hl1.push _) (fun p hp=>S.keepsT (his p hp) fun b o _ e=>Heap.get?_push_of_some _ (Heap.get?_push_of_some _ e)) (fun b o _ _ e=>Heap.get?_push_of_some _ (Heap.get?_push_of_some _ e)) (aIK kd _ (Heap.get?_push_of_some _ gN)) (fun p hp=>absurd hp List.not_mem_nil) (fun k=>by simp)
    refine wpAny_pure (show wpAny _ _ (ret Value.none) _ _ _ from wpAny_pure ⟨rfl,h',tk,ps,rfl,fun b o e=>x1 b o (Nat.ne_of_lt (Heap.lt_size e)) (by rw[zI];exact Nat.ne_of_lt (Nat.lt_succ_of_lt (Heap.lt_size e))) e,x2,x3,x4⟩)
   ·cases r₂ with
    |error e=>exact hr₂
    |ok fl₂=>
     cases fl₂ with
     |ret r=>
      obtain⟨rfl,h',tk,ps,rfl,x1,x2,x3,x4⟩:=hr₂
      repeat (any_goals (first|wp_step|assumption))
      exact h _ _ _ x1 x2 x3 x4
     |_=>exact hr₂.elim
  |_=>exact hr1.elim
end
end L2
namespace L2
open PySem PySem.Spec PySem.W PyProof.Rows
section
variable{prog:Program}{w:World}{A:Around}{E:Value->Shared->Prop}{s:Shared}
theorem aKL{r:Addr}{Q:Bool->Shared->Prop}(hT:s.TypeIs (.ref r) "set")(h:Q false s):wpAny (model prog w) A (Builtin.List.listLengthHint (.ref r)) Q E s:=by
 unfold Builtin.List.listLengthHint
 refine wpAny_bind (wpAny_specialOf hT F.slot_set_len.lookup (show _ from ?_))
 generalize hid:("set.__len__" : String)=id0
 wp_delta
 rw[show splitId id0=some ("set","__len__") by subst hid;decide +kernel]
 subst hid
 refine wpAny_bind (wpAny_isInstance (T:="set") (b:=true) hT (by rw[isSubtype_type];kernel_rfl) (show _ from ?_))
 refine wpAny_ite_split (fun z=>absurd z (by decide)) (fun _=>(show _ from ?_))
 refine wpAny_ite_split (fun _=>(show _ from ?_)) (fun z=>absurd (by decide +kernel) z)
 exact wpAny_bind (wpAny_typeOf hT (wpAny_pure h))
theorem aLB{a:Addr}{es:Array (Int×Value)}{ep:Nat}{t:SetTable}:KdlSrc prog w "set" a a es.size (fun i v=>∃e,(xN w a es ep)[i]?=some e/\v=e.2) (fun h=>uS w h a es ep t) where
 type:=fun _ hm=>hm.ty
 there:=fun _ hm=>let ⟨_,e,_⟩:=hm.at_;⟨Heap.lt_size e,Heap.lt_size e⟩
 keep:=fun _ _ hm hk=>hm.keep fun o e=>hk a (.inl rfl) o e
 notList:=by decide
 notTuple:=by decide
 hint:=fun _ _ _ _ hm hq=>aKL hm.ty hq
 iter:=fun _ _ hh hm=>⟨_,_,(fun _ _ hq=>aHn hm hq),aKI hh (Nat.ne_of_lt (let ⟨_,e,_⟩:=hm.at_;Heap.lt_size e)),⟨⟨_,Heap.get?_push_size _ rfl,rfl,by simp[slS]⟩,hm.keep fun o e=>Heap.get?_push_of_some _ e⟩⟩
theorem aLC:wG (tupleKind (intKind prog w)) where
 keepsT:=fun⟨o,its,n,a,b,c⟩ k=>⟨o,its,n,k _ o b a,b,c⟩
 byVal:=by
  intro A E s k b Q hk h
  have hT:=IsTupleKey.typeIs hk
  obtain⟨o,items,n,ho,_,hd,hi⟩:=hk
  unfold hashByValue
  refine wpAny_bind (wpAny_specialOf hT F.slot_tuple_hash.lookup (show _ from ?_))
  dsimp only
  refine wpAny_bind (wpAny_seqItems ho hd ?_)
  rw[Option.getD_some,<-Array.forIn_toList]
  refine wpAny_bind (wpAny_forIn_list _ (fun rest r s'=>r.1=none/\s'=s/\∀v∈rest,∃n t,v=Value.int n t) _ ?_ ?_ _ _ ⟨rfl,rfl,?_⟩)
  ·rintro v rest r s' ⟨hr,rfl,hall⟩
   obtain⟨n,t,rfl⟩:=hall v List.mem_cons_self
   refine wpAny_bind (show wpAny _ _ (pure true) _ _ _ from wpAny_pure ?_)
   simp only[Bool.not_true,Bool.false_eq_true,if_false]
   exact wpAny_pure ⟨rfl,rfl,fun u hu'=>hall u (List.mem_cons_of_mem _ hu')⟩
  ·rintro ⟨r1,r2⟩ s' ⟨hr,rfl,_⟩
   dsimp only at hr
   subst hr
   exact wpAny_pure h
  ·clear ho hd
   generalize items.toList=l at hi
   induction hi with
   |nil=>intro v hv;cases hv
   |cons h1 _ ih=>
    intro v hv
    rcases List.mem_cons.mp hv with e|hv
    ·obtain⟨t,e2⟩:=Value.isInt_shape h1
     exact⟨_,t,e.trans e2⟩
    ·exact ih v hv
 noCls:=by
  intro A E s k b Q hk h
  have hT:=IsTupleKey.typeIs hk
  obtain⟨o,items,n,ho,_,hd,hi⟩:=hk
  unfold ofAClassStatement
  refine wpAny_bind (wpAny_typeOf hT ?_)
  dsimp only
  rw[if_pos (by decide)]
  refine wpAny_bind (wpAny_pure ?_)
  simp only[Bool.not_true,Bool.false_eq_true,if_false]
  refine wpAny_bind (wpAny_seqItems ho hd ?_)
  dsimp only
  rw[<-Array.forIn_toList]
  refine wpAny_bind (wpAny_forIn_list _ (fun rest r s'=>r.1=none/\s'=s/\∀v∈rest,∃n t,v=Value.int n t) _ ?_ ?_ _ _ ⟨rfl,rfl,?_⟩)
  ·rintro v rest r s' ⟨hr,rfl,hall⟩
   obtain⟨n,t,rfl⟩:=hall v List.mem_cons_self
   refine wpAny_bind (show wpAny _ _ (pure false) _ _ _ from wpAny_pure ?_)
   simp only[Bool.false_eq_true,if_false]
   exact wpAny_pure ⟨rfl,rfl,fun u hu'=>hall u (List.mem_cons_of_mem _ hu')⟩
  ·rintro ⟨r1,r2⟩ s' ⟨hr,rfl,_⟩
   dsimp only at hr
   subst hr
   exact wpAny_pure h
  ·clear ho hd
   generalize items.toList=l at hi
   induction hi with
   |nil=>intro v hv;cases hv
   |cons h1 _ ih=>
    intro v hv
    rcases List.mem_cons.mp hv with e|hv
    ·obtain⟨t,e2⟩:=Value.isInt_shape h1
     exact⟨_,t,e.trans e2⟩
    ·exact ih v hv
end
theorem zP{prog:Program}{w:World}:∀{vs:List Value}{ns:List Int},IntsAre vs ns->ItemsAre (intKind prog w) ns vs
 |_,_,.nil=>.nil
 |_,_,.cons n t r=>.cons (intKind_is _ _ _ _) (zP r)
def aEc(w:World)(b:Addr)(qs:List Addr):Heap->Prop:=fun h=>∃es ep t,uS w h b es ep t/\es.toList.map (·.2)=qs.map Value.ref
section
variable{X:Cx}
def aHq(w:World):List V->Hp->VK->Prop:=fun xs H Q=>∃(l:Addr) (qs:List Addr) (ts al:List (List Int)),xs=[.ref l]/\H l=some (.lst (qs.map V.ref))/\cF H qs ts/\(∀t∈ts,t∈al)/\al.length < 64/\
 ∀(p:Addr) (qs':List Addr) (us:List (List Int)),H p=none->cF H qs' us->us.Nodup->(∀t,t∈us↔t∈ts)->Q (.ref p) (upd H p (.ext (aEc w p qs')))
theorem aFO(hc:X.calm=true)(hu:X.A.units+9 < cLine):d9 X (.type "set") (aHq X.w):=by
 intro pins s σ H xs us Q I r h
 obtain⟨l,qs,ts,al,rfl,hl,ht,hal,h64,q⟩:=h
 obtain⟨u,rfl,ru⟩:=vals1 r
 cases ru
 obtain⟨z,its,n,rv,hlen,e⟩:=I.aGj hl
 obtain rfl:=aEK rv
 have hq:=ht.len
 have mz:∀p∈ts.zip qs,∃j:Nat,ts[j]?=some p.1/\qs[j]?=some p.2:=fun p hp=>by
  obtain⟨j,hj⟩:=List.mem_iff_getElem?.mp hp
  obtain⟨a,b⟩:=List.getElem?_zip_eq_some.mp hj
  exact⟨j,a,b⟩
 have zq:(ts.zip qs).map (fun p=>Value.ref p.2)=qs.map Value.ref:=by
  rw[<-List.map_snd_zip (l₁:=ts) (l₂:=qs) (by omega),List.map_map]
  congr 1
  rw[List.map_snd_zip (by omega)]
 have zt:(ts.zip qs).map (·.1)=ts:=List.map_fst_zip (by omega)
 refine aKK (kd:=tupleKind (intKind X.prog X.w)) aLC (fun A' hA=>show A'.units < cLine by omega) (I.ok.hd hc) ⟨_,e,rfl,_,rfl⟩ (its:=ts.zip qs) zq.symm (fun p hp=>?_) (all:=al) (fun p hp=>hal _ (List.of_mem_zip hp).1) h64 fun h' tk ps k1 S1 k2 k3=>?_
 ·obtain⟨j,a,b⟩:=mz p hp
  obtain⟨x,ne⟩:=ht.at_ j _ _ b a
  obtain⟨_,its,r,o,g1,g2,n,g3⟩:=(show bJ X.prog X.w H s.heap p.2 (.tup (p.1.map V.int)) from I.hok p.2 _ x)
  exact⟨o,_,n,g1,g2,g3,zP (by simpa using oN r)⟩
 ·obtain⟨o,es,ep,t,g1,g2,g3,T,cap,pl,ld,ee,_,nd⟩:=S1
  have raw:uS X.w h' s.heap.objs.size es ep t:=⟨⟨o,g1,g2,g3⟩,T,pl,ld⟩
  have em:es.toList.map (·.2)=(ps.map (·.2)).map Value.ref:=by rw[ee,List.map_map,List.map_map];rfl
  refine⟨.ref s.heap.objs.size,_,I.laid (a:=s.heap.objs.size) (o:=.ext (aEc X.w s.heap.objs.size (ps.map (·.2)))) (t':=tk) (fun b u q=>k1 b u q) (Nat.le_refl _) ⟨⟨es,ep,t,raw,em⟩,⟨_,g1⟩,fun h1 h2 z k=>?_⟩,rfl,q _ _ (ps.map (·.1)) (I.hok.fresh (Nat.le_refl _)) ⟨by simp,fun j a b x y=>?_⟩ nd fun t=>by rw[k3,zt]⟩
  ·obtain⟨es,ep,t,r,m⟩:=z
   exact⟨es,ep,t,r.keep k,m⟩
  ·rw[List.getElem?_map] at x y
   obtain⟨p,hp,e1⟩:=Option.map_eq_some_iff.mp x
   rw[hp] at y
   cases y
   obtain⟨j,a1,b1⟩:=mz p (k2 p (List.mem_of_getElem? hp))
   rw[<-e1]
   exact ht.at_ j _ _ b1 a1
def aEd(w:World):List V->Hp->VK->Prop:=fun xs H Q=>∃(b:Addr) (rs:List Addr) (ts:List (List Int)),xs=[.ref b]/\H b=some (.ext (aEc w b rs))/\cF H rs ts/\ts.length < 64/\
 ∀(p:Addr) (qs:List Addr) (us:List (List Int)),H p=none->cF H qs us->us.Perm ts->us.Pairwise (fun a b=>nR b a=false)->Q (.ref p) (upd H p (.lst (qs.map V.ref)))
theorem aEe(hc:X.calm=true):d9 X (.builtin "sorted") (aEd X.w):=by
 intro pins s σ H xs us Q I r h
 obtain⟨b,rs,ts0,rfl,hb,ht0,h64',q⟩:=h
 obtain⟨u,rfl,ru⟩:=vals1 r
 cases ru
 obtain⟨es,ep,t,raw,em⟩ : aEc X.w b rs s.heap:=(show bJ X.prog X.w H s.heap b (.ext (aEc X.w b rs)) from I.hok b _ hb).1
 have hz:es.size=rs.length:=by have:=congrArg List.length em;simpa using this
 have hr0:=ht0.len
 refine Calls.call_function_entry kind_sorted plain_sorted entry_sorted (args_sorted1 (.ref b)) ?_
 unfold Builtin.«sorted»
 refine wpAny_bind (m:=checkCount "sorted" 1 1 _) (wpAny_pure (wpAny_bind (PySem.W.kdu_collect (A:=X.A.in1) (aLB (a:=b) (es:=es) (ep:=ep) (t:=t)) (I.ok.hd hc) raw (by rw[sizeLine_eq];omega) fun h1 tk acc k0 hacc=>?_)))
 obtain⟨qs,ts,ht,ea,pm0⟩ : ∃(qs:List Addr) (ts:List (List Int)),cF H qs ts/\acc.toList=qs.map Value.ref/\ts.Perm ts0:=by
  have p1:((xN X.w b es ep).toList.map (·.2)).Perm ((rs.zip ts0).map fun p=>Value.ref p.1):=by
   have:(rs.zip ts0).map (fun p=>Value.ref p.1)=es.toList.map (·.2):=by
    rw[em,<-List.map_fst_zip (l₁:=rs) (l₂:=ts0) (by omega),List.map_map]
    congr 1
    rw[List.map_fst_zip (by omega)]
   rw[this]
   exact(aBn X.w b es ep).map _
  obtain⟨zs,z1,z2⟩:=zN p1 rfl
  refine⟨zs.map (·.1),zs.map (·.2),⟨by simp,fun j a t' x y=>?_⟩,?_,?_⟩
  ·rw[List.getElem?_map] at x y
   obtain⟨p,hp,e1⟩:=Option.map_eq_some_iff.mp x
   rw[hp] at y
   cases y
   obtain⟨i,hi⟩:=List.mem_iff_getElem?.mp (z1.mem_iff.mp (List.mem_of_getElem? hp))
   obtain⟨a1,b1⟩:=List.getElem?_zip_eq_some.mp hi
   rw[<-e1]
   exact ht0.at_ i _ _ a1 b1
  ·rw[List.map_map]
   refine Eq.trans ?_ z2
   refine List.ext_getElem? fun j=>?_
   by_cases hj:j < acc.size
   ·have e1:acc[j]?=some acc[j]:=Array.getElem?_eq_getElem hj
    obtain⟨e,he,ev⟩:=hacc.2 j _ e1
    rw[Array.getElem?_toList,e1,ev,List.getElem?_map,Array.getElem?_toList,he]
    rfl
   ·rw[List.getElem?_eq_none (by simpa using hj),List.getElem?_eq_none (by rw[List.length_map,Array.length_toList,sD,<-hacc.1];omega)]
  ·have:=z1.map (·.2)
   rw[List.map_snd_zip (by omega)] at this
   exact this
 have hq:=ht.len
 have hts:=pm0.length_eq
 have hv:(qs.map Value.ref).length=qs.length:=List.length_map ..
 rw[ea]
 have h64:qs.length < 64:=by omega
 refine wpAny_bind (wpAny_newList ?_ (by rw[hv,sizeLine_eq];omega))
 have k1:∀b o,s.heap.get? b=some o->(h1.push (seqObj "list" (qs.map Value.ref).toArray 0)).get? b=some o:=fun b o g=>Heap.get?_push_of_some _ (k0 b o g)
 have gD:(h1.push (seqObj "list" (qs.map Value.ref).toArray 0)).get? h1.objs.size=some (seqObj "list" (qs.map Value.ref).toArray 0):=Heap.get?_push_size _ rfl
 refine wpAny_bind (wpAny_holding (wpAny_call_entry (s:={ s with heap:=h1.push (seqObj "list" (qs.map Value.ref).toArray 0),toks:=tk }) slot_list_sort ⟨_,gD,rfl⟩ entry_list_sort (aBf gD ((ht.pN I).keeps fun b o _ g=>k1 b o g) (by rw[hv];exact h64) fun p hr hu=>⟨_,rfl,?_⟩) (args_list_sort (.ref h1.objs.size))))
 rw[hv] at hr hu
 have pl:p.toList.Perm (List.range qs.length):=by simpa using Array.perm_iff_toList_perm.mp hr
 have plen:p.toList.length=qs.length:=by have:=pl.length_eq;simpa using this
 have eo:(nS (qs.map Value.ref) p).toList=(p.toList.map fun i=>qs.getD i 0).map Value.ref:=by
  unfold nS
  show p.toList.map (fun i=>(qs.map Value.ref).getD i Value.none)=_
  rw[List.map_map]
  refine List.map_congr_left fun i hi=>?_
  have li:i < qs.length:=List.mem_range.mp (pl.mem_iff.mp hi)
  show(qs.map Value.ref).getD i Value.none=Value.ref (qs.getD i 0)
  simp[List.getD_eq_getElem?_getD,List.getElem?_eq_getElem li]
 refine wpAny_pure ⟨_,rfl,?_⟩
 obtain⟨c,hc2⟩:=sortedHeap_at (out:=nS (qs.map Value.ref) p) gD
 have T':cF H (p.toList.map fun i=>qs.getD i 0) (p.toList.map fun i=>ts.getD i []):=by
  refine⟨by rw[List.length_map,List.length_map],fun j a b x y=>?_⟩
  rw[List.getElem?_map] at x y
  obtain⟨i,e1,e2⟩:=Option.map_eq_some_iff.mp x
  rw[e1] at y
  have li:i < qs.length:=List.mem_range.mp (pl.mem_iff.mp (List.mem_of_getElem? e1))
  refine ht.at_ i a b ?_ ?_
  ·rw[<-e2];simp[List.getD_eq_getElem?_getD,List.getElem?_eq_getElem li]
  ·cases y
   simp[List.getD_eq_getElem?_getD,List.getElem?_eq_getElem (show i < ts.length by omega)]
 obtain⟨hn,I2⟩:=I.aI9 (t':=tk) (h':=sortedHeap (h1.push (seqObj "list" (qs.map Value.ref).toArray 0)) h1.objs.size (qs.map Value.ref) (nS (qs.map Value.ref) p)) (a:=h1.objs.size) (o:=.lst ((p.toList.map fun i=>qs.getD i 0).map V.ref)) (fun b ob g=>by
   have lb:b < h1.objs.size:=Heap.lt_size (k0 b ob g)
   rw[sortedHeap_old (Nat.ne_of_lt lb) (by rw[size_push'];exact Nat.lt_succ_of_lt lb)]
   exact k1 b ob g) (fun b ob g=>Nat.ne_of_lt (Heap.lt_size (k0 b ob g)))
  ⟨by rw[List.length_map,List.length_map,plen,sizeLine_eq];omega,(p.toList.map fun i=>qs.getD i 0).map Value.ref,c,tO _,by rw[<-eo,Array.toArray_toList];exact hc2⟩
 refine⟨.ref h1.objs.size,_,I2,rfl,q _ _ _ hn T' ?_ ?_⟩
 ·have:=pl.map (fun i=>ts.getD i [])
  rw[hq,range_getD] at this
  exact this.trans pm0
 ·rw[List.pairwise_iff_getElem]
  intro i j hi hj hij
  rw[List.length_map,plen] at hi hj
  have key:∀k (hk:k < p.toList.length),(p.toList.map fun i=>ts.getD i [])[k]'(by rw[List.length_map];exact hk)=kq (O:=aDZ) (fun i=>ts.getD i []) p k:=fun k hk=>by
   rw[List.getElem_map]
   unfold kq
   have:p.getD k 0=p.toList[k]:=by
    have hk':k < p.size:=by simpa using hk
    simp[Array.getD,hk']
   rw[this]
  rw[key i (by omega),key j (by omega)]
  exact hu i j (by omega) hj
end
section
variable{w:World}{H:Hp}{Q:VK}
theorem aIL{l:Addr}{qs:List Addr}{ts al:List (List Int)}(h1:H l=some (.lst (qs.map V.ref)))(h2:cF H qs ts)(h3:∀t∈ts,t∈al)(h4:al.length < 64)
  (h:∀(p:Addr) (qs':List Addr) (us:List (List Int)),H p=none->cF H qs' us->us.Nodup->(∀t,t∈us↔t∈ts)->Q (.ref p) (upd H p (.ext (aEc w p qs')))):aHq w [.ref l] H Q:=⟨l,qs,ts,al,rfl,h1,h2,h3,h4,h⟩
theorem aHr{b:Addr}{rs:List Addr}{ts:List (List Int)}(h1:H b=some (.ext (aEc w b rs)))(h2:cF H rs ts)(h3:ts.length < 64)
  (h:∀(p:Addr) (qs:List Addr) (us:List (List Int)),H p=none->cF H qs us->us.Perm ts->us.Pairwise (fun a b=>nR b a=false)->Q (.ref p) (upd H p (.lst (qs.map V.ref)))):aEd w [.ref b] H Q:=⟨b,rs,ts,rfl,h1,h2,h3,h⟩
end
end L2
local macro_rules | `(tactic| walk_at "ne") => `(tactic| first
  | assumption
  | (refine Ne.symm ?_; assumption)
  | exact L2.bA (by assumption) (by walk_at "hp")
  | exact Ne.symm (L2.bA (by assumption) (by walk_at "hp")))
local macro_rules | `(tactic| walk_at "hp") => `(tactic| first
  | assumption
  | exact L2.aH
  | (refine Eq.trans (L2.aL (by walk_at "ne")) ?_; walk_at "hp")
  | (refine L2.aJ.at (by assumption) ?_; walk_at "hp")
  | (refine L2.bZ.at (by assumption) ?_ (by walk_at "ne"); walk_at "hp"))
local macro_rules | `(tactic| walk_at "sq") => `(tactic| first
  | assumption
  | exact L2.bQ.of (by walk_at "hp")
  | exact L2.lJ.of (by walk_at "hp")
  | exact L2.aJ.seq (by assumption) (by walk_at "sq"))
local macro_rules | `(tactic| walk_at "cnd") => `(tactic| first
  | omega
  | decide
  | (simp only [List.length_map]; omega)
  | (refine ⟨?_, ?_⟩ <;> first | omega | decide)
  | (refine Or.inl ⟨?_, ?_⟩ <;> first | omega | decide)
  | (refine Or.inr ⟨?_, ?_⟩ <;> first | omega | decide)
  | (refine ⟨?_, ?_, ?_⟩ <;> first | omega | decide))
local macro_rules | `(tactic| walk_at "sz") => `(tactic| (refine L2.cC ?_; first | decide | (simp only [List.length_cons, List.length_nil, List.length_append]; omega) | omega))
local macro_rules | `(tactic| walk_at "rd") => `(tactic| (with_reducible first
  | refine L2.aH3 ?_
  | refine L2.rd_par ?_
  | refine L2.aJ3 ?_
  | refine L2.aH4 ?_
  | refine L2.aJ4 ?_
  | refine L2.rd_retN ?_
  | refine L2.rd_break ?_
  | refine L2.rd_cont ?_
  | refine L2.aJ5 ?_
  | refine L2.aH5 ?_
  | refine L2.aJ6 ?_
  | refine L2.aH6 ?_
  | refine L2.aGB ?_
  | refine L2.aH7 ?_
  | refine L2.aFF ?_
  | refine L2.aG2 ?_
  | refine L2.aG0 ?_
  | refine L2.aG1 ?_
  | refine L2.aJ8 ?_
  | refine L2.aLQ ?_
  | refine L2.aLd ?_
  | refine L2.aLe ?_
  | refine L2.aKa ?_
  | refine L2.aLg ?_
  | refine L2.aH8 ?_
  | refine L2.aLh ?_
  | refine L2.aFy ?_
  | refine L2.aIa ?_
  | refine L2.rd_partN ?_
  | refine L2.rd_pnN ?_
  | refine L2.rd_pnI ?_
  | refine L2.aIb ?_
  | refine L2.aKe ?_
  | refine L2.aIc ?_
  | refine L2.rd_ifE ?_
  | refine L2.aGC ?_
  | refine L2.aIe ?_
  | refine L2.aLi ?_
  | refine L2.aKf ?_
  | refine L2.aLj ?_
  | refine L2.aKg ?_
  | refine L2.aKh ?_
  | refine L2.aLk ?_
  | refine L2.aIf ?_
  | refine L2.aLl ?_
  | refine L2.aLm ?_
  | refine L2.rd_bl2 ?_
  | refine L2.aKi ?_
  | refine L2.aIg ?_
  | refine L2.aKj ?_
  | refine L2.aKk ?_
  | refine L2.aIh ?_
  | refine L2.aLn ?_
  | refine L2.aIi ?_
  | refine L2.aFB ?_
  | refine L2.aGI ?_
  | refine L2.aGD ?_
  | refine L2.aGE ?_
  | refine L2.aKl ?_
  | refine L2.aH0 ?_
  | refine L2.aHZ ?_
  | refine L2.aLs ?_
  | refine L2.aLt ?_
  | refine L2.aLr ?_
  | refine L2.aGH ?_
  | refine L2.rd_rng ?_
  | refine L2.aIr ?_
  | refine L2.aIs ?_
  | refine L2.aIt ?_
  | refine L2.aIy ?_
  | refine L2.aG7 ?_
  | refine L2.aD9 ?_
  | refine L2.aHb ?_))
local macro_rules | `(tactic| walk_at "st") => `(tactic| first
  | walk_at "rd"
  | ((with_reducible refine L2.aLx (b := ?b) ?t ?_); (case t => assumption))
  | ((with_reducible refine L2.aJ9 (v := ?v) ?e ?_); (case e => rfl))
  | ((with_reducible refine L2.aGA (σ' := ?s) ?e ?_); (case e => first | (simp only [List.set_cons_zero, List.set_cons_succ]; rfl) | rfl))
  | ((with_reducible refine L2.aLf ?c ?_); (case c => walk_at "cnd"))
  | ((with_reducible refine L2.aH9 ?c ?_); (case c => walk_at "cnd"))
  | ((with_reducible refine L2.aDU (xs := ?xs) (v := ?v) ?a ?b ?_); (case a => walk_at "sq"); (case b => first | rfl | assumption))
  | ((with_reducible refine L2.aKd (xs := ?xs) (v := ?v) ?a ?b ?_); (case a => walk_at "sq"); (case b => first | rfl | assumption))
  | (with_reducible refine L2.aKm ?_)
  | (with_reducible refine L2.aKn ?_)
  | (with_reducible refine L2.aKo ?_)
  | (with_reducible refine L2.rd_intI ?_)
  | (with_reducible refine L2.rd_intB ?_)
  | ((with_reducible refine L2.aIl (xs := ?xs) ?a ?_); (case a => walk_at "sq"))
  | ((with_reducible refine L2.aIm (xs := ?xs) ?a ?_); (case a => walk_at "sq"))
  | (with_reducible refine L2.aKp ?_)
  | (with_reducible refine L2.aKq ?_)
  | ((with_reducible refine L2.aKb ?a ?b ?_); (case a => rfl); (case b => rfl))
  | ((with_reducible refine L2.aKc ?a ?b ?_); (case a => rfl); (case b => rfl))
  | ((with_reducible refine L2.aLw (b := ?b) ?e ?_); (case e => rfl))
  | ((with_reducible refine L2.aGO (b := ?b) ?e ?_); (case e => rfl))
  | ((with_reducible refine L2.aIj ?c ?_); (case c => walk_at "sz")))
local macro_rules | `(tactic| walk_at "go") => `(tactic| first
  | (with_reducible refine L2.aIx (fun _ _ => ?_))
  | walk_at "st")
local macro_rules | `(tactic| walk_at "w") => `(tactic| repeat walk_at "go")
local macro_rules | `(tactic| walk_at "gs") => `(tactic| first
  | walk_at "go"
  | ((with_reducible refine L2.aLu ?e ?_); (case e => rfl))
  | ((with_reducible refine L2.aLv ?e ?_); (case e => rfl)))
namespace My
open PySem L2
def top(i:Nat):Stmt:=PySem.Challenge.pw_stintwise_k43_first_of_many_alike.main.body.getD i (.Pass ⟨0,0,0,0⟩)
abbrev eS:Stmt:=top 37
abbrev gL:Stmt:=top 38
abbrev iL:Stmt:=top 39
abbrev eE:Stmt:=top 40
abbrev iM:Stmt:=top 12
abbrev gM:Stmt:=top 13
abbrev kO:Stmt:=top 32
abbrev iN:Stmt:=top 33
abbrev dB:Stmt:=top 34
abbrev dI:Stmt:=inClass (top 35) 0
abbrev gO:Stmt:=top 41
abbrev dJ:Stmt:=top 42
abbrev eU:Stmt:=top 48
abbrev dM:Stmt:=inClass (top 35) 3
abbrev eV:Stmt:=top 46
abbrev nV:Stmt:=top 15
abbrev eF:Stmt:=top 16
abbrev fF:Stmt:=top 43
abbrev gP:Stmt:=top 20
abbrev dN:Stmt:=top 21
abbrev fG:Stmt:=top 22
abbrev iO:Stmt:=top 23
abbrev gH:Stmt:=top 2
abbrev dO:Stmt:=top 3
abbrev cL:Stmt:=top 4
abbrev dW:Stmt:=top 5
abbrev gQ:Stmt:=top 6
abbrev eG:Stmt:=top 17
abbrev cM:Stmt:=top 18
abbrev dX:Stmt:=top 24
abbrev eW:Stmt:=top 26
abbrev bO:Stmt:=top 27
abbrev cA:Stmt:=top 28
abbrev fH:Stmt:=top 44
abbrev fJ:Stmt:=top 45
abbrev gR:Stmt:=top 49
abbrev cQ:Stmt:=top 50
abbrev eI:Stmt:=top 51
abbrev gS:Stmt:=top 52
abbrev dC:Stmt:=top 53
abbrev aBo:Stmt:=top 54
theorem fK:aV ["_law_script","_law_place","_law_cells","_law_at","_law_digits"] ["_law_script","_law_place"] (aE eS):=⟨rfl,rfl,rfl,by decide +kernel,rfl,by decide +kernel,by decide +kernel⟩
theorem fL:aV ["_law_hand","_law_many","_law_got","_law_cell","_law_number"] ["_law_hand","_law_many"] (aE gL):=⟨rfl,rfl,rfl,by decide +kernel,rfl,by decide +kernel,by decide +kernel⟩
theorem lO:aV ["_law_hand","_law_bound","_law_total","_law_k"] ["_law_hand","_law_bound"] (aE iL):=⟨rfl,rfl,rfl,by decide +kernel,rfl,by decide +kernel,by decide +kernel⟩
theorem zQ:aV ["_law_hand"] ["_law_hand"] (aE eE):=⟨rfl,rfl,rfl,by decide +kernel,rfl,by decide +kernel,by decide +kernel⟩
theorem aDc:aV ["thing"] ["thing"] (aE iM):=⟨rfl,rfl,rfl,by decide +kernel,rfl,by decide +kernel,by decide +kernel⟩
theorem aB1:aV ["thing"] ["thing"] (aE gM):=⟨rfl,rfl,rfl,by decide +kernel,rfl,by decide +kernel,by decide +kernel⟩
theorem aEf:aV ["thing"] ["thing"] (aE kO):=⟨rfl,rfl,rfl,by decide +kernel,rfl,by decide +kernel,by decide +kernel⟩
theorem aDd:aV ["thing"] ["thing"] (aE iN):=⟨rfl,rfl,rfl,by decide +kernel,rfl,by decide +kernel,by decide +kernel⟩
theorem aAz:aV ["thing"] ["thing"] (aE dB):=⟨rfl,rfl,rfl,by decide +kernel,rfl,by decide +kernel,by decide +kernel⟩
theorem eA:aV ["self","up","down","begin","run","rest","least","pieces","spans","costs","at","fits"] ["self","up","down","begin","run","rest","least","pieces"] (aE dI):=⟨rfl,rfl,rfl,by decide +kernel,rfl,by decide +kernel,by decide +kernel⟩
theorem cI:aV ["_law_hand","_law_by","_law_longest","_law_up","_law_down","_law_costs","_law_least","_law_rate","_law_pieces","_law_k"] ["_law_hand","_law_by","_law_longest"] (aE gO):=⟨rfl,rfl,rfl,by decide +kernel,rfl,by decide +kernel,by decide +kernel⟩
theorem xO:aV ["_law_spec_here"] ["_law_spec_here"] (aE dJ):=⟨rfl,rfl,rfl,by decide +kernel,rfl,by decide +kernel,by decide +kernel⟩
theorem aB2:aV ["_law_one","_law_due"] ["_law_one","_law_due"] (aE eU):=⟨rfl,rfl,rfl,by decide +kernel,rfl,by decide +kernel,by decide +kernel⟩
theorem eB:aV ["self","price","worth","amount","rate"] ["self","price"] (aE dM):=⟨rfl,rfl,rfl,by decide +kernel,rfl,by decide +kernel,by decide +kernel⟩
theorem aB3:aV ["_law_spec_here","_law_price_here"] ["_law_spec_here","_law_price_here"] (aE eV):=⟨rfl,rfl,rfl,by decide +kernel,rfl,by decide +kernel,by decide +kernel⟩
theorem aFP:aV ["machine","state","on"] ["machine","state","on"] (aE nV):=⟨rfl,rfl,rfl,by decide +kernel,rfl,by decide +kernel,by decide +kernel⟩
theorem zR:aV ["machine","state","on"] ["machine","state","on"] (aE eF):=⟨rfl,rfl,rfl,by decide +kernel,rfl,by decide +kernel,by decide +kernel⟩
theorem aAA:aV ["_law_hand","_law_spec_here"] ["_law_hand","_law_spec_here"] (aE fF):=⟨rfl,rfl,rfl,by decide +kernel,rfl,by decide +kernel,by decide +kernel⟩
theorem jZ:aV ["machine","state","run","hour","on"] ["machine","state","run"] (aE gP):=⟨rfl,rfl,rfl,by decide +kernel,rfl,by decide +kernel,by decide +kernel⟩
theorem pH:aV ["machine","state","run","fault"] ["machine","state","run"] (aE dN):=⟨rfl,rfl,rfl,by decide +kernel,rfl,by decide +kernel,by decide +kernel⟩
theorem eJ:aV ["machine","state","run","begins","ahead","hour","on"] ["machine","state","run"] (aE fG):=⟨rfl,rfl,rfl,by decide +kernel,rfl,by decide +kernel,by decide +kernel⟩
theorem wR:aV ["machine","state","run","begins"] ["machine","state","run"] (aE iO):=⟨rfl,rfl,rfl,by decide +kernel,rfl,by decide +kernel,by decide +kernel⟩
theorem aDe:aV ["ways","behind"] ["ways","behind"] (aE gH):=⟨rfl,rfl,rfl,by decide +kernel,rfl,by decide +kernel,by decide +kernel⟩
theorem jQ:aV ["places","hour","behind","ways_at","worths","place"] ["places","hour","behind","ways_at"] (aE dO):=⟨rfl,rfl,rfl,by decide +kernel,rfl,by decide +kernel,by decide +kernel⟩
theorem cD:aV ["layers","ways_at","behind","place","worths","hour"] ["layers","ways_at"] (aE cL):=⟨rfl,rfl,rfl,by decide +kernel,rfl,by decide +kernel,by decide +kernel⟩
theorem sV:aV ["ways","behind","least"] ["ways","behind"] (aE dW):=⟨rfl,rfl,rfl,by decide +kernel,rfl,by decide +kernel,by decide +kernel⟩
theorem gX:aV ["place","worths","ways_at","row","hour","way"] ["place","worths","ways_at"] (aE gQ):=⟨rfl,rfl,rfl,by decide +kernel,rfl,by decide +kernel,by decide +kernel⟩
theorem dP:aV ["machine","ways","later","state","many","on","behind"] ["machine","ways"] (aE eG):=⟨rfl,rfl,rfl,by decide +kernel,rfl,by decide +kernel,by decide +kernel⟩
theorem dE:aV ["machine","state","hours","ways","layers","hour"] ["machine","state","hours"] (aE cM):=⟨rfl,rfl,rfl,by decide +kernel,rfl,by decide +kernel,by decide +kernel⟩
theorem aAB:aV ["machine","state"] ["machine","state"] (aE dX):=⟨rfl,rfl,rfl,by decide +kernel,rfl,by decide +kernel,by decide +kernel⟩
theorem aB4:aV ["machine","state","price"] ["machine","state","price"] (aE eW):=⟨rfl,rfl,rfl,by decide +kernel,rfl,by decide +kernel,by decide +kernel⟩
theorem jW:aV ["machine","state","prices","layers"] ["machine","state","prices"] (aE bO):=⟨rfl,rfl,rfl,by decide +kernel,rfl,by decide +kernel,by decide +kernel⟩
theorem jR:aV ["machine","state","prices","worths","run"] ["machine","state","prices"] (aE cA):=⟨rfl,rfl,rfl,by decide +kernel,rfl,by decide +kernel,by decide +kernel⟩
theorem aAC:aV ["_law_hand","_law_by","_law_most"] ["_law_hand","_law_by","_law_most"] (aE fH):=⟨rfl,rfl,rfl,by decide +kernel,rfl,by decide +kernel,by decide +kernel⟩
theorem aAD:aV ["_law_spec_here","_law_state_here","_law_on"] ["_law_spec_here","_law_state_here","_law_on"] (aE fJ):=⟨rfl,rfl,rfl,by decide +kernel,rfl,by decide +kernel,by decide +kernel⟩
theorem aB5:aV ["_law_spec_here","_law_state_here","_law_price_here","_law_on"] ["_law_spec_here","_law_state_here","_law_price_here","_law_on"] (aE gR):=⟨rfl,rfl,rfl,by decide +kernel,rfl,by decide +kernel,by decide +kernel⟩
theorem cX:aV ["_law_spec_here","_law_state_here","_law_hours","_law_rows","_law_hour_here","_law_later","_law_one"] ["_law_spec_here","_law_state_here","_law_hours"] (aE cQ):=⟨rfl,rfl,rfl,by decide +kernel,rfl,by decide +kernel,by decide +kernel⟩
theorem bK:aV ["_law_spec_here","_law_state_here","_law_prices","_law_reached_here","_law_later","_law_one","_law_tables","_law_hour_here","_law_worths_here","_law_ways","_law_on","_law_behind"] ["_law_spec_here","_law_state_here","_law_prices"] (aE eI):=⟨rfl,rfl,rfl,by decide +kernel,rfl,by decide +kernel,by decide +kernel⟩
theorem oO:aV ["_law_hand","_law_by","_law_spec_here","_law_price_here"] ["_law_hand","_law_by"] (aE gS):=⟨rfl,rfl,rfl,by decide +kernel,rfl,by decide +kernel,by decide +kernel⟩
theorem bY:aV ["_law_spec_here","_law_state_here","_law_prices","_law_tables","_law_run","_law_hour_here","_law_ways","_law_on","_law_behind","_law_least"] ["_law_spec_here","_law_state_here","_law_prices","_law_tables"] (aE dC):=⟨rfl,rfl,rfl,by decide +kernel,rfl,by decide +kernel,by decide +kernel⟩
theorem iP:aV ["_law_script","_law_hand","_law_by","_law_place","_law_spec_here","_law_price_here","_law_state_here","_law_prices","_law_hour_here","_law_more","_law_tables","_law_due"] ["_law_script"] (aE aBo):=⟨rfl,rfl,rfl,by decide +kernel,rfl,by decide +kernel,by decide +kernel⟩
theorem ar1:∀us:List Value,us.length=1->∃a0,us=[a0]
 |[a0],_=>⟨a0,rfl⟩
theorem ar2:∀us:List Value,us.length=2->∃a0 a1,us=[a0,a1]
 |[a0,a1],_=>⟨a0,a1,rfl⟩
theorem ar3:∀us:List Value,us.length=3->∃a0 a1 a2,us=[a0,a1,a2]
 |[a0,a1,a2],_=>⟨a0,a1,a2,rfl⟩
theorem ar4:∀us:List Value,us.length=4->∃a0 a1 a2 a3,us=[a0,a1,a2,a3]
 |[a0,a1,a2,a3],_=>⟨a0,a1,a2,a3,rfl⟩
theorem ar8:∀us:List Value,us.length=8->∃a0 a1 a2 a3 a4 a5 a6 a7,us=[a0,a1,a2,a3,a4,a5,a6,a7]
 |[a0,a1,a2,a3,a4,a5,a6,a7],_=>⟨a0,a1,a2,a3,a4,a5,a6,a7,rfl⟩
set_option genInjectivity false in
set_option genSizeOf false in
structure nA where
 lP:Addr
 lQ:FuncData
 lR:Addr
 lS:FuncData
 oP:Addr
 oQ:FuncData
 i0:Addr
 jA:FuncData
 oR:Addr
 oS:FuncData
 lT:Addr
 lU:FuncData
 sE:Addr
 sF:FuncData
 oU:Addr
 oV:FuncData
 j0:Addr
 j7:FuncData
 gY:Addr
 gZ:FuncData
 lV:Addr
 lW:FuncData
 g0:Addr
 hE:FuncData
 lX:Addr
 lY:FuncData
 hU:Addr
 hV:FuncData
 lZ:Addr
 mB:FuncData
 uT:Addr
 uU:FuncData
 jB:Addr
 jC:FuncData
 j8:Addr
 j9:FuncData
 mC:Addr
 mD:FuncData
 hX:Addr
 hZ:FuncData
 kA:Addr
 kB:FuncData
 oW:Addr
 oX:FuncData
 oY:Addr
 oZ:FuncData
 iA:Addr
 iB:FuncData
 fM:Addr
 fO:FuncData
 kC:Addr
 kD:FuncData
 mE:Addr
 mF:FuncData
 jD:Addr
 jE:FuncData
 fP:Addr
 fQ:FuncData
 kE:Addr
 kF:FuncData
 mG:Addr
 mH:FuncData
 dY:Addr
 cR:FuncData
 iC:Addr
 eX:FuncData
 kG:Addr
 kH:FuncData
 kI:Addr
 kJ:FuncData
 mI:Addr
 mJ:FuncData
 iD:Addr
 iE:FuncData
 jF:Addr
 jG:FuncData
 mK:Addr
 mM:FuncData
 kK:Addr
 kL:FuncData
 aE2:Addr
 aE3:FuncData
 k_worths_of_states:Addr
 cS:Addr
 k_cheapest_run:Addr
 iF:Addr
 bB:Addr
structure Txt(K:W.Frag)(mg:Str->Option Value)(a:nA):Prop where
 mN:kN K "_law_open" "_law_open" eS a.lP a.lQ
 qE:Binds K a.lQ ["_law_script","_law_place"] []
 qF:mg "_law_open" = some (.ref a.lP)
 aU:kN K "_law_draw" "_law_draw" gL a.lR a.lS
 aY:Binds K a.lS ["_law_hand","_law_many"] []
 aZ:mg "_law_draw" = some (.ref a.lR)
 tR:kN K "_law_far" "_law_far" iL a.oP a.oQ
 zS:Binds K a.oQ ["_law_hand","_law_bound"] []
 zT:mg "_law_far" = some (.ref a.oP)
 jH:kN K "_law_factor" "_law_factor" eE a.i0 a.jA
 nB:Binds K a.jA ["_law_hand"] []
 nC:mg "_law_factor" = some (.ref a.i0)
 o5:kN K "is_whole" "is_whole" iM a.oR a.oS
 tT:Binds K a.oS ["thing"] []
 tU:mg "is_whole" = some (.ref a.oR)
 dR:kN K "is_amount" "is_amount" gM a.lT a.lU
 eY:Binds K a.lU ["thing"] []
 eZ:mg "is_amount" = some (.ref a.lT)
 sG:kN K "is_span" "is_span" kO a.sE a.sF
 wH:Binds K a.sF ["thing"] []
 wI:mg "is_span" = some (.ref a.sE)
 tV:kN K "is_piece" "is_piece" iN a.oU a.oV
 zU:Binds K a.oV ["thing"] []
 zV:mg "is_piece" = some (.ref a.oU)
 o6:kN K "are_pieces" "are_pieces" dB a.j0 a.j7
 uV:Binds K a.j7 ["thing"] []
 uW:mg "are_pieces" = some (.ref a.j0)
 qG:kN K "__init__" "Machine.__init__" dI a.gY a.gZ
 qH:Binds K a.gZ ["self","up","down","begin","run","rest","least","pieces"] []
 qI:kN K "_law_spec" "_law_spec" gO a.lV a.lW
 wU:Binds K a.lW ["_law_hand","_law_by","_law_longest"] []
 wV:mg "_law_spec" = some (.ref a.lV)
 kU:kN K "_law_machine" "_law_machine" dJ a.g0 a.hE
 qJ:Binds K a.hE ["_law_spec_here"] []
 qK:mg "_law_machine" = some (.ref a.g0)
 mO:kN K "_law_same" "_law_same" eU a.lX a.lY
 qM:Binds K a.lY ["_law_one","_law_due"] []
 qN:mg "_law_same" = some (.ref a.lX)
 qO:kN K "gain" "Machine.gain" dM a.hU a.hV
 qP:Binds K a.hV ["self","price"] []
 jN:kN K "_law_gain" "_law_gain" eV a.lZ a.mB
 mP:Binds K a.mB ["_law_spec_here","_law_price_here"] []
 mQ:mg "_law_gain" = some (.ref a.lZ)
 nW:kN K "may_be" "may_be" nV a.uT a.uU
 qQ:Binds K a.uU ["machine","state","on"] []
 qR:mg "may_be" = some (.ref a.uT)
 fY:kN K "state_after" "state_after" eF a.jB a.jC
 jI:Binds K a.jC ["machine","state","on"] []
 jJ:mg "state_after" = some (.ref a.jB)
 o7:kN K "_law_state" "_law_state" fF a.j8 a.j9
 uX:Binds K a.j9 ["_law_hand","_law_spec_here"] []
 uY:mg "_law_state" = some (.ref a.j8)
 qS:kN K "run_fault" "run_fault" gP a.mC a.mD
 wW:Binds K a.mD ["machine","state","run"] []
 wX:mg "run_fault" = some (.ref a.mC)
 kW:kN K "refuse_fault" "refuse_fault" dN a.hX a.hZ
 qT:Binds K a.hZ ["machine","state","run"] []
 qU:mg "refuse_fault" = some (.ref a.hX)
 o8:kN K "run_begins" "run_begins" fG a.kA a.kB
 uZ:Binds K a.kB ["machine","state","run"] []
 u4:mg "run_begins" = some (.ref a.kA)
 tW:kN K "run_cost" "run_cost" iO a.oW a.oX
 zW:Binds K a.oX ["machine","state","run"] []
 zX:mg "run_cost" = some (.ref a.oW)
 o9:kN K "least_of" "least_of" gH a.oY a.oZ
 tX:Binds K a.oZ ["ways","behind"] []
 tY:mg "least_of" = some (.ref a.oY)
 kX:kN K "worths_ahead" "worths_ahead" dO a.iA a.iB
 qV:Binds K a.iB ["places","hour","behind","ways_at"] []
 qW:mg "worths_ahead" = some (.ref a.iA)
 iQ:kN K "worths_by_hour" "worths_by_hour" cL a.fM a.fO
 nX:Binds K a.fO ["layers","ways_at"] []
 nY:mg "worths_by_hour" = some (.ref a.fM)
 pA:kN K "first_best" "first_best" dW a.kC a.kD
 u5:Binds K a.kD ["ways","behind"] []
 u6:mg "first_best" = some (.ref a.kC)
 qX:kN K "first_row" "first_row" gQ a.mE a.mF
 wY:Binds K a.mF ["place","worths","ways_at"] []
 wZ:mg "first_row" = some (.ref a.mE)
 nE:kN K "ways_one_on" "ways_one_on" eG a.jD a.jE
 sW:Binds K a.jE ["machine","ways"] []
 sX:mg "ways_one_on" = some (.ref a.jD)
 iR:kN K "states_by_hour" "states_by_hour" cM a.fP a.fQ
 nZ:Binds K a.fQ ["machine","state","hours"] []
 oA:mg "states_by_hour" = some (.ref a.fP)
 pB:kN K "next_hours" "next_hours" dX a.kE a.kF
 u7:Binds K a.kF ["machine","state"] []
 u9:mg "next_hours" = some (.ref a.kE)
 mR:kN K "hour_ways" "hour_ways" eW a.mG a.mH
 qY:Binds K a.mH ["machine","state","price"] []
 qZ:mg "hour_ways" = some (.ref a.mG)
 gI:kN K "worths_of_states" "worths_of_states" bO a.dY a.cR
 kY:Binds K a.cR ["machine","state","prices"] []
 kZ:mg "worths_of_states" = some (.ref a.dY)
 lA:kN K "cheapest_run" "cheapest_run" cA a.iC a.eX
 rA:Binds K a.eX ["machine","state","prices"] []
 rB:mg "cheapest_run" = some (.ref a.iC)
 pC:kN K "_law_price" "_law_price" fH a.kG a.kH
 vA:Binds K a.kH ["_law_hand","_law_by","_law_most"] []
 vB:mg "_law_price" = some (.ref a.kG)
 dZ:kN K "_law_after" "_law_after" fJ a.kI a.kJ
 fR:Binds K a.kJ ["_law_spec_here","_law_state_here","_law_on"] []
 fS:mg "_law_after" = some (.ref a.kI)
 mS:kN K "_law_hour" "_law_hour" gR a.mI a.mJ
 rC:Binds K a.mJ ["_law_spec_here","_law_state_here","_law_price_here","_law_on"] []
 rD:mg "_law_hour" = some (.ref a.mI)
 lB:kN K "_law_reached" "_law_reached" cQ a.iD a.iE
 rE:Binds K a.iE ["_law_spec_here","_law_state_here","_law_hours"] []
 rF:mg "_law_reached" = some (.ref a.iD)
 nF:kN K "_law_worths" "_law_worths" eI a.jF a.jG
 sY:Binds K a.jG ["_law_spec_here","_law_state_here","_law_prices"] []
 sZ:mg "_law_worths" = some (.ref a.jF)
 rG:kN K "_law_even" "_law_even" gS a.mK a.mM
 w4:Binds K a.mM ["_law_hand","_law_by"] []
 w5:mg "_law_even" = some (.ref a.mK)
 pD:kN K "_law_first" "_law_first" dC a.kK a.kL
 vC:Binds K a.kL ["_law_spec_here","_law_state_here","_law_prices","_law_tables"] []
 vD:mg "_law_first" = some (.ref a.kK)
 aJd:kN K "law" "law" aBo a.aE2 a.aE3
 aLD:Binds K a.aE3 ["_law_script"] []
 aLE:mg "law" = some (.ref a.aE2)
 bV:Cls K a.bB
 aBp:mg "Machine" = some (.ref a.bB)
 aBq:Mk K a.bB a.gY
 m_Machine_gain:Meth K a.bB "gain" a.hU
 pE:dU K a.bB "up"
 lC:dU K a.bB "down"
 jS:dU K a.bB "begin"
 nG:dU K a.bB "run"
 lD:dU K a.bB "rest"
 jT:dU K a.bB "least"
 iS:dU K a.bB "pieces"
 gJ:aKC K a.cR a.k_worths_of_states a.cS
 lE:aKC K a.eX a.k_cheapest_run a.iF
 aBr:mg "abs" = none
 w6:mg "all" = none
 nH:mg "bool" = none
 dS:mg "enumerate" = none
 w9:mg "int" = none
 aX:mg "isinstance" = none
 fT:mg "len" = none
 iT:mg "list" = none
 pI:mg "max" = none
 pJ:mg "min" = none
 dF:mg "range" = none
 iU:mg "reversed" = none
 aBs:mg "set" = none
 lF:mg "sorted" = none
 zY:mg "str" = none
 aBt:mg "sum" = none
 kM:mg "tuple" = none
 cY:∃t,mg "LONGEST_STINT" = some (.int 12 t)
 eM:∃t,mg "MOST_PIECES" = some (.int 4 t)
abbrev cG:Pos:=⟨103,34,103,93⟩
abbrev cH:Str:=(("worths_of_states" : Str) ++ ".<locals>.") ++ "<lambda>"
abbrev gC:Pos:=⟨106,35,106,94⟩
abbrev gE:Str:=(("cheapest_run" : Str) ++ ".<locals>.") ++ "<lambda>"
end My
namespace My
open PySem L2
inductive Th (H:Hp):V->String->Prop where
 |non:Th H .non "NoneType"
 |bl (b:Bool):Th H (.bl b) "bool"
 |int (i:Int):Th H (.int i) "int"
 |str (x:Str):Th H (.str x) "str"
 |lst {p:Addr} {xs:List V} (e:H p=some (.lst xs)):Th H (.ref p) "list"
 |tup {p:Addr} {xs:List V} (e:H p=some (.tup xs)):Th H (.ref p) "tuple"
 |dK {p:Addr} {kvs:List (Key×V)} (e:H p=some (.dK kvs)):Th H (.ref p) "dict"
theorem Th.ty{K:W.Frag}{H:Hp}{v:V}{T:String}(h:Th H v T):pV K H v (.type T):=by
 cases h with
 |non=>exact .non
 |bl b=>exact .bl b
 |int i=>exact .int i
 |str x=>exact .str x
 |lst e=>exact .lst e
 |tup e=>exact .tup e
 |dK e=>exact .dK e
theorem Th.keep{H H':Hp}{p:Addr}{v:V}{T:String}(h:Th H v T)(n:∀b,v=.ref b->b≠p)(k:bZ p H H'):Th H' v T:=by
 cases h with
 |non=>exact .non
 |bl b=>exact .bl b
 |int i=>exact .int i
 |str x=>exact .str x
 |lst e=>exact .lst (k _ _ e (n _ rfl))
 |tup e=>exact .tup (k _ _ e (n _ rfl))
 |dK e=>exact .dK (k _ _ e (n _ rfl))
theorem vE{K:PySem.W.Frag}{H:Hp}{v:V}{T:String}(h:Th H v T):IsI K H v (.ty "int") (T == "int" || T == "bool"):=by
 refine⟨_,h.ty,.inl ⟨_,rfl,?_⟩⟩
 cases h <;> rfl
theorem fZ{K:PySem.W.Frag}{H:Hp}{v:V}{T:String}(h:Th H v T):IsI K H v (.ty "bool") (T == "bool"):=by
 refine⟨_,h.ty,.inl ⟨_,rfl,?_⟩⟩
 cases h <;> rfl
def amt:V->Bool
 |.int i=>decide (0<=i) && decide (i<=10 ^ 12)
 |_=>false
structure bF(H:Hp)(p:Addr):Prop where
 ex:∃(d c:Int) (q:Addr) (ms:List Int),H p=some (.lst [.int d,.int c,.ref q])/\H q=some (.lst (ms.map V.int))/\ms≠[]/\q≠p
def fU(p:Addr)(H H':Hp):Prop:=∀(d c:Int) (q:Addr),H p=some (.lst [.int d,.int c,.ref q])->∃d' c':Int,H' p=some (.lst [.int d',.int c',.ref q])
theorem fU.trans{p:Addr}{H H1 H2:Hp}(a:fU p H H1)(b:fU p H1 H2):fU p H H2:=fun d c q e=>by
 obtain⟨d',c',e'⟩:=a d c q e
 exact b d' c' q e'
theorem fU.of{p:Addr}{H H':Hp}(s:∀o,H p=some o->H' p=some o):fU p H H':=fun d c q e=>⟨d,c,s _ e⟩
theorem bF.of{p:Addr}{H H':Hp}(h:bF H p)(k:bZ p H H')(s:fU p H H'):bF H' p:=by
 obtain⟨d,c,q,ms,hp,hq,hne,hqp⟩:=h.ex
 obtain⟨d',c',e⟩:=s d c q hp
 exact⟨⟨d',c',q,ms,e,k _ _ hq hqp,hne,hqp⟩⟩
theorem bF.same{H H':Hp}{p:Addr}(h:bF H p)(s:aJ H H'):bF H' p:=by
 obtain⟨d,c,q,ms,hp,hq,hne,hqp⟩:=h.ex
 exact⟨⟨d,c,q,ms,s _ _ hp,s _ _ hq,hne,hqp⟩⟩
theorem rH{K:PySem.W.Frag}{H:Hp}{v:V}{T:String}(h:Th H v T):IsI K H v (.ty "list") (T == "list"):=by
 refine⟨_,h.ty,.inl ⟨_,rfl,?_⟩⟩
 cases h <;> rfl
theorem aB6{K:PySem.W.Frag}{H:Hp}{v:V}{T:String}(h:Th H v T):IsI K H v (.ty "str") (T == "str"):=by
 refine⟨_,h.ty,.inl ⟨_,rfl,?_⟩⟩
 cases h <;> rfl
theorem oB{K:PySem.W.Frag}{H:Hp}{v:V}{T:String}(h:Th H v T):IsI K H v (.ty "tuple") (T == "tuple"):=by
 refine⟨_,h.ty,.inl ⟨_,rfl,?_⟩⟩
 cases h <;> rfl
theorem aHs{ms:List Int}{c:Int}(h:ms≠[]):∃m,m∈ms/\pO (ms.map V.int) (c % ((ms.map V.int).length:Int))=some (.int m):=by
 have hl:0 < ms.length:=List.length_pos_iff.mpr h
 have e1:=Int.emod_nonneg c (b:=((ms.map V.int).length:Int)) (by rw[List.length_map];omega)
 have e2:=Int.emod_lt_of_pos c (b:=((ms.map V.int).length:Int)) (by rw[List.length_map];omega)
 obtain⟨j,hj⟩ : ∃j:Nat,c % ((ms.map V.int).length:Int)=(j:Int):=⟨_,(Int.toNat_of_nonneg e1).symm⟩
 rw[hj] at e2 ⊢
 rw[List.length_map] at e2
 have hjl:j < ms.length:=by omega
 exact⟨ms[j],List.getElem_mem hjl,cU (by rw[List.getElem?_map,List.getElem?_eq_getElem hjl];rfl)⟩
theorem aE4(ms:List Int)(lo hi:Option Int):∃r:List Int,mY (ms.map V.int) lo hi=r.map V.int/\r.length=(mY (ms.map V.int) lo hi).length:=by
 unfold mY
 rw[<-List.map_drop,<-List.map_take]
 exact⟨_,rfl,by simp⟩
theorem rot{ms:List Int}{i:Int}(h0:0<=i)(h1:i < ms.length):∃ms':List Int,mY (ms.map V.int) (some i) none++mY (ms.map V.int) none (some i)=ms'.map V.int/\ms'≠[]/\ms'.length<=ms.length+ms.length:=by
 obtain⟨r1,e1,l1⟩:=aE4 ms (some i) none
 obtain⟨r2,e2,l2⟩:=aE4 ms none (some i)
 have b1:=dQ (ms.map V.int) (some i) none
 have b2:=dQ (ms.map V.int) none (some i)
 rw[List.length_map] at b1 b2
 refine⟨r1++r2,by rw[e1,e2,List.map_append],fun z=>?_,by rw[List.length_append];omega⟩
 have z1:r1=[]:=(List.append_eq_nil_iff.mp z).1
 obtain⟨j,rfl⟩:=Int.eq_ofNat_of_zero_le h0
 have hj:j < ms.length:=by omega
 rw[z1,List.length_nil] at l1
 have l3:(mY (ms.map V.int) (some (j:Int)) none).length=ms.length - j:=by
  unfold mY
  rw[HT.aEB,HT.aCL,List.length_take,List.length_drop,List.length_map,Nat.min_eq_left (Nat.le_of_lt hj)]
  omega
 rw[l3] at l1
 omega
def aB7(K:W.Frag):Sp:=fun vs H Q _=>∃(a:Addr) (ns:List Int) (i:Int),vs=[.ref a,.int i]/\bQ K H a (ns.map V.int)/\ns.length<=63/\0<=i/\
 ∀p H',aJ H H'->H p=none->bF H' p->Q (.ref p) H'
theorem aB8{P:Program}{w:World}{K:PySem.W.Frag}{mg:Str->Option Value}{base:Heap}{a:nA}(tx:Txt K mg a):bR P w K mg base iV 1 a.lP a.lQ ["_law_script","_law_place"] (aB7 K):=by
 refine tx.mN.ok fK (fun vs H Q E h=>?_) (fun cdv A outer s H vs Q E hr h=>?_)
 ·obtain⟨a,ns,i,rfl,_⟩:=h
  rfl
 ·obtain⟨a,ns,i,rfl ,hS,hl,h0,k⟩:=h
  have hu:=nM hr
  refine Z.root (Z.aC (Z.aBN (k:=1) (idx:=[]) (N:=["_law_cell"]) (i:=2) fK.nd rfl (Or.inl rfl) (fW (sc:=aE eS) (NX:=["_law_script","_law_place","_law_cells","_law_at","_law_digits"]) rfl rfl rfl (by decide +kernel)) rfl (Z.cP (K':=K) (Z.pW (rs:=aGv K) aJZ (Z.pv 0) Z.uH (Z.uI Z.aA))) (fun _ _ _ _=>(Z.aP (i:=0) (show(["_law_cell"]:List Str).Nodup by decide +kernel) rfl (Or.inl rfl))) (kQ (by decide)) (fun _ _ _ _=>Z.iW) (fun _ _ _ _=>(Z.aI aFz (by rfl) tx.aBr aJX (Z.aD (Z.pv 0) Z.aB))))
   (Z.aC (Z.cN (Z.bP (r:=nP K) (eR hu) (Z.pv 2) (Z.eO Z.aB) (bN _)) (Z.aG (Z.aM (i:=2) fK.nd rfl (Or.inl rfl) (Z.xK Z.aA))) Z.bI)
   (Z.aC (Z.aM (i:=3) fK.nd rfl (Or.inl rfl) (Z.aN mW (Z.pv 1) (Z.aI (rc:=nQ K) bT (by rfl) tx.fT eQ (Z.aD (Z.pv 2) Z.aB))))
   (Z.aC (Z.aM (i:=4) fK.nd rfl (Or.inl rfl) Z.aA)
   (Z.aC (Z.cN (Z.aBc (Z.aBC (Z.bP aIZ (Z.aK (K':=K) (Z.pv 2) (Z.pv 3) (fun _ _=>rfl)) (Z.aN vZ Z.aA Z.aA) (bN _)) (Z.yF (Z.bP aKY (Z.pv 1) (Z.aI (rc:=nQ K) bT (by rfl) tx.fT eQ (Z.aD (Z.pv 2) Z.aB)) (bN _))))) (Z.aG (Z.aM (i:=4) fK.nd rfl (Or.inl rfl) (Z.aK (K':=K) (Z.pv 2) (Z.pv 3) (fun _ _=>rfl)))) Z.bI)
   (Z.aG (Z.aS (Z.aIo (Z.pv 4) (Z.aN bL Z.aA (Z.aN bS Z.aA (Z.pv 1))) (Z.aN bL (Z.pW (rs:=aGv K) aJZ (Z.pv 2) (Z.uI (Z.pv 3)) Z.uH) (Z.pW (rs:=aGv K) aJZ (Z.pv 2) Z.uH (Z.uI (Z.pv 3)))))))))))) ?_
  refine aR (σ:=[some (.ref a),some (.int i),none,none,none]) rfl ?_
  refine aJ2 ?_
  walk_at "w"
  refine y4 hS ?_
  intro p1 n1
  walk_at "w"
  rw[show mY (ns.map V.int) none (some 63)=ns.map V.int from aGF (n:=63) (by rw[List.length_map];exact hl)]
  refine kR (bQ.of aH) ?_
  refine aBa (fun v=>match v with|.int i=>.int (if i < 0 then -i else i)|v=>v) (bQ.of aH) (cC (by rw[List.length_map];omega)) (fun x N N' hx hN=>?_) ?_
  ·obtain⟨y,hy,rfl⟩:=List.mem_map.mp hx
   walk_at "w"
   exact hN
  ·intro p2 n2
   repeat walk_at "st"
   have s2:aJ H (upd (upd H p1 (.lst (ns.map V.int))) p2 (.lst ((ns.map V.int).map fun v=>match v with|.int i=>.int (if i < 0 then -i else i)|v=>v))):=(aJ.new n1).trans (aJ.new n2)
   rw[List.map_map] at s2 ⊢
   generalize hm:ns.map ((fun v=>match v with|V.int i=>V.int (if i < 0 then -i else i)|v=>v) ∘ V.int)=xs at s2 ⊢
   obtain⟨ms,rfl⟩ : ∃ms:List Int,xs=ms.map V.int:=⟨ns.map fun i=>if i < 0 then -i else i,by rw[<-hm,List.map_map];rfl⟩
   have lm:ms.length<=63:=by
    have:=congrArg List.length hm
    simp only[List.length_map] at this
    omega
   refine aEG (fun σ' H'=>∃(c:Addr) (ms:List Int),σ'=[some (.ref a),some (.int i),some (.ref c),none,none]/\aJ H H'/\H' c=some (.lst (ms.map V.int))/\ms≠[]/\ms.length<=63) (fun N hN=>?_) ?_
   ·walk_at "w"
    intro p3 n3
    walk_at "w"
    refine⟨_,aIn (bQ.of (by walk_at "hp")) (bQ.of aH),?_⟩
    walk_at "w"
    refine rT (fun h=>?_) (fun h=>?_)
    ·walk_at "w"
     intro p4 n4
     walk_at "w"
     exact hN _ _ ⟨p4,[0],rfl,(s2.trans (aJ.new n3)).trans (aJ.new n4),aH,by simp,by simp⟩
    ·walk_at "w"
     refine hN _ _ ⟨p2,ms,rfl,s2.trans (aJ.new n3),by walk_at "hp",?_,lm⟩
     rintro rfl
     simp at h
   ·rintro σ' H' ⟨c,ms,rfl,sH,hc,hne,lm⟩
    have hl:0 < ms.length:=List.length_pos_iff.mpr hne
    obtain⟨m,_,hm⟩:=aHs (c:=i) hne
    have e1:=Int.emod_nonneg i (b:=((ms.map V.int).length:Int)) (by rw[List.length_map];omega)
    have e2:=Int.emod_lt_of_pos i (b:=((ms.map V.int).length:Int)) (by rw[List.length_map];omega)
    obtain⟨ms',em,en,el⟩:=rot (ms:=ms) e1 (by rw[List.length_map] at e2 ⊢;exact e2)
    walk_at "w"
    refine cV (fun h=>?_) (fun h=>?_)
    ·walk_at "w"
     refine cV (fun h=>?_) (fun h=>?_)
     all_goals
      walk_at "w"
      refine y4 (bQ.of hc) ?_
      intro p5 n5
      walk_at "w"
      refine y4 (bQ.of (by walk_at "hp")) ?_
      intro p6 n6
      walk_at "w"
      refine rS (by walk_at "hp") (by walk_at "hp") (cC (by have:=dQ (ms.map V.int) (some (i % ((ms.map V.int).length:Int))) none;have:=dQ (ms.map V.int) none (some (i % ((ms.map V.int).length:Int)));simp only[List.length_map] at *;omega)) ?_
      intro p7 n7
      walk_at "w"
      rw[em]
      walk_at "w"
      intro p8 n8
      walk_at "w"
      have s8:=((aJ.new (o:=.lst (mY (ms.map V.int) (some (i % ((ms.map V.int).length:Int))) none)) n5).trans (aJ.new (o:=.lst (mY (ms.map V.int) none (some (i % ((ms.map V.int).length:Int))))) n6)).trans (aJ.new (o:=.lst (ms'.map V.int)) n7)
      refine k _ _ (sH.trans (s8.trans (aJ.new n8))) ((sH.trans s8).free n8) ⟨⟨_,_,_,ms',aH,by walk_at "hp",en,?_⟩⟩
      exact bA n8 aH
    ·walk_at "w"
     refine y4 (bQ.of hc) ?_
     intro p5 n5
     walk_at "w"
     refine y4 (bQ.of (by walk_at "hp")) ?_
     intro p6 n6
     walk_at "w"
     refine rS (by walk_at "hp") (by walk_at "hp") (cC (by have:=dQ (ms.map V.int) (some (i % ((ms.map V.int).length:Int))) none;have:=dQ (ms.map V.int) none (some (i % ((ms.map V.int).length:Int)));simp only[List.length_map] at *;omega)) ?_
     intro p7 n7
     walk_at "w"
     rw[em]
     walk_at "w"
     intro p8 n8
     walk_at "w"
     have s8:=((aJ.new (o:=.lst (mY (ms.map V.int) (some (i % ((ms.map V.int).length:Int))) none)) n5).trans (aJ.new (o:=.lst (mY (ms.map V.int) none (some (i % ((ms.map V.int).length:Int))))) n6)).trans (aJ.new (o:=.lst (ms'.map V.int)) n7)
     refine k _ _ (sH.trans (s8.trans (aJ.new n8))) ((sH.trans s8).free n8) ⟨⟨_,_,_,ms',aH,by walk_at "hp",en,?_⟩⟩
     exact bA n8 aH
def aB9(K:W.Frag):Sp:=fun vs H Q _=>∃(p:Addr) (n:Int),vs=[.ref p,.int n]/\bF H p/\0 < n/\n < 1073741824/\
 ∀(r:Int) H',0<=r->r < n->bF H' p->bZ p H H'->fU p H H'->Q (.int r) H'
theorem d7{P:Program}{w:World}{K:PySem.W.Frag}{mg:Str->Option Value}{base:Heap}{a:nA}(tx:Txt K mg a):bR P w K mg base iV 1 a.lR a.lS ["_law_hand","_law_many"] (aB9 K):=by
 refine tx.aU.ok fL (fun vs H Q E h=>?_) (fun cdv A outer s H vs Q E hr h=>?_)
 ·obtain⟨p,n,rfl,_⟩:=h
  rfl
 ·obtain⟨p,n,rfl ,hh,h0,h1,k⟩:=h
  have hu:=nM hr
  refine Z.root (Z.aC (Z.cN (Z.bP aEz (Z.aK (K':=K) (Z.pv 0) Z.aA (fun _ _=>rfl)) Z.aA (bN _)) (Z.aC (Z.aM (i:=2) fL.nd rfl (Or.inl rfl) (Z.aN mW (Z.aK (K':=K) (Z.pv 0) Z.aA (fun _ _=>rfl)) (Z.pv 1)))
   (Z.aC (Z.vX (Z.aN aBG (Z.aK (K':=K) (Z.pv 0) Z.aA (fun _ _=>rfl)) (Z.pv 1)) (Z.yU (Z.pv 0) Z.aA set_list))
   (Z.aG (Z.aS (Z.pv 2))))) Z.bI)
   (Z.aC (Z.aBF (Z.pv 0) Z.aA aJ1 Z.aA aDB set_list)
   (Z.aC (Z.aM (i:=3) fL.nd rfl (Or.inl rfl) (Z.aN mW (Z.aK (K':=K) (Z.aK (K':=K) (Z.pv 0) Z.aA (fun _ _=>rfl)) (Z.aN mW (Z.aK (K':=K) (Z.pv 0) Z.aA (fun _ _=>rfl)) (Z.aI (rc:=nQ K) bT (by rfl) tx.fT eQ (Z.aD (Z.aK (K':=K) (Z.pv 0) Z.aA (fun _ _=>rfl)) Z.aB))) (fun _ _=>rfl)) Z.aA))
   (Z.aC (Z.aM (i:=4) fL.nd rfl (Or.inl rfl) (Z.aN mW (Z.aN bL (Z.aN bL (Z.aN bS (Z.pv 3) Z.aA) (Z.aN bS (Z.aK (K':=K) (Z.pv 0) Z.aA (fun _ _=>rfl)) Z.aA)) Z.aA) Z.aA))
   (Z.aC (Z.aM (i:=4) fL.nd rfl (Or.inl rfl) (Z.aN mW (Z.aN bL (Z.aN bS (Z.pv 4) (Z.pv 4)) (Z.aK (K':=K) (Z.pv 0) Z.aA (fun _ _=>rfl))) Z.aA))
   (Z.aC (Z.aM (i:=4) fL.nd rfl (Or.inl rfl) (Z.aN mW (Z.aN bL (Z.aN bS (Z.pv 4) Z.aA) Z.aA) Z.aA))
   (Z.aG (Z.aS (Z.aN mW (Z.aN aBG (Z.aN mW (Z.aN bS (Z.pv 4) (Z.pv 4)) Z.aA) Z.aA) (Z.pv 1)))))))))) ?_
  obtain⟨d,c,q,ms,hp,hq,hne,hqp⟩:=hh.ex
  refine aR (σ:=[some (.ref p),some (.int n),none,none,none]) rfl ?_
  walk_at "w"
  refine cV (fun hd=>?_) (fun hd=>?_)
  ·walk_at "w"
   refine yH hp rfl ?_
   walk_at "w"
   refine k _ _ (Int.emod_nonneg _ (by omega)) (Int.emod_lt_of_pos _ h0) ⟨⟨_,c,q,ms,aH,by walk_at "hp",hne,hqp⟩⟩ bZ.upd (fun d0 c0 q0 e0=>by rw[hp] at e0;cases e0;exact⟨_,_,aH⟩)
  ·walk_at "w"
   refine aJ7 (bQ.of hp) (by decide) rfl ?_
   walk_at "w"
   refine yH hp rfl ?_
   obtain⟨m,_,hm⟩:=aHs (c:=c+1) hne
   have hlen:0 < ((ms.map V.int).length:Int):=by rw[List.length_map];have:=List.length_pos_iff.mpr hne;omega
   walk_at "w"
   have hq':(upd H p (.lst [.int d,.int (c+1),.ref q])) q=some (.lst (ms.map V.int)):=by walk_at "hp"
   walk_at "w"
   exact k _ _ (Int.emod_nonneg _ (by omega)) (Int.emod_lt_of_pos _ h0) ⟨⟨d,c+1,q,ms,aH,hq',hne,hqp⟩⟩ bZ.upd (fun d0 c0 q0 e0=>by rw[hp] at e0;cases e0;exact⟨_,_,aH⟩)
def aDf(K:W.Frag):Sp:=fun vs H Q _=>∃(p:Addr) (b:Int),vs=[.ref p,.int b]/\bF H p/\0 < b/\
 ∀(r:Int) H',0<=r->r < b->bF H' p->bZ p H H'->fU p H H'->Q (.int r) H'
theorem aDg{P:Program}{w:World}{K:PySem.W.Frag}{mg:Str->Option Value}{base:Heap}{a:nA}(tx:Txt K mg a):bR P w K mg base iV 2 a.oP a.oQ ["_law_hand","_law_bound"] (aDf K):=by
 have aO:=d7 (P:=P) (w:=w) (base:=base) tx
 refine tx.tR.ok lO (fun vs H Q E h=>?_) (fun cdv A outer s H vs Q E hr h=>?_)
 ·obtain⟨p,b,rfl,_⟩:=h
  rfl
 ·obtain⟨p,b,rfl ,hh,h0,k⟩:=h
  have hu:=nM hr
  refine Z.root (Z.aC (Z.aM (i:=2) lO.nd rfl (Or.inl rfl) Z.aA)
   (Z.aC (Z.cE PassesOwn.never rfl (Z.cO (by rfl) tx.dF (Z.aD Z.aA Z.aB)) (Z.aP (i:=3) lO.nd rfl (Or.inl rfl)) (Z.aG (Z.aM (i:=2) lO.nd rfl (Or.inl rfl) (Z.aN bL (Z.aN bS (Z.pv 2) Z.aA) (Z.aF (aO) (hr.mono (by decide)) (by rfl) tx.aZ tx.aU.kp tx.aY .nil aQ (Z.aD (Z.pv 0) (Z.aD Z.aA Z.aB)))))))
   (Z.aG (Z.aS (Z.aN mW (Z.pv 2) (Z.pv 1)))))) ?_
  refine aR (σ:=[some (.ref p),some (.int b),none,none]) rfl ?_
  walk_at "w"
  refine⟨by decide,by decide,?_⟩
  refine jM (n:=11) (fun i σ' H'=>∃(t:Int) (x:Option V),σ'=[some (.ref p),some (.int b),some (.int t),x]/\bF H' p/\bZ p H H'/\fU p H H') ⟨0,none,rfl,hh,fun _ _ e _=>e,fU.of fun _ e=>e⟩ (fun i σ' H' hi ⟨t,x,e,h',kp,sq⟩=>?_) (fun σ' H' ⟨t,x,e,h',kp,sq⟩=>?_)
  ·subst e
   walk_at "w"
   refine⟨p,_,rfl,h',by decide,by decide,fun r H2 r0 r1 h2 k2 q2=>?_⟩
   walk_at "w"
   exact⟨_,_,rfl,h2,kp.trans k2,sq.trans q2⟩
  ·subst e
   walk_at "w"
   exact k _ _ (Int.emod_nonneg _ (by omega)) (Int.emod_lt_of_pos _ h0) h' kp sq
def zZ(K:W.Frag):Sp:=fun vs H Q _=>∃(p:Addr),vs=[.ref p]/\bF H p/\∀(r:Int) H',1<=r->r<=50000000000->bF H' p->bZ p H H'->fU p H H'->Q (.int r) H'
theorem z0{P:Program}{w:World}{K:PySem.W.Frag}{mg:Str->Option Value}{base:Heap}{a:nA}(tx:Txt K mg a):bR P w K mg base iV 3 a.i0 a.jA ["_law_hand"] (zZ K):=by
 have aO:=d7 (P:=P) (w:=w) (base:=base) tx
 have aEg:=aDg (P:=P) (w:=w) (base:=base) tx
 refine tx.jH.ok zQ (fun vs H Q E h=>?_) (fun cdv A outer s H vs Q E hr h=>?_)
 ·obtain⟨p,rfl,_⟩:=h
  rfl
 ·obtain⟨p,rfl ,hh,k⟩:=h
  have hu:=nM hr
  refine Z.root (Z.aC (Z.cN (Z.bP aEz (Z.aF (aO) (hr.mono (by decide)) (by rfl) tx.aZ tx.aU.kp tx.aY .nil aQ (Z.aD (Z.pv 0) (Z.aD Z.aA Z.aB))) Z.aA (bN _)) (Z.aG (Z.aS Z.aA)) Z.bI)
   (Z.aG (Z.aS (Z.aN bL Z.aA (Z.aF (aEg) (hr.mono (by decide)) (by rfl) tx.zT tx.tR.kp tx.zS .nil aQ (Z.aD (Z.pv 0) (Z.aD (Z.aN bS Z.aA (Z.aN vZ Z.aA Z.aA)) Z.aB))))))) ?_
  refine aR (σ:=[some (.ref p)]) rfl ?_
  walk_at "w"
  refine⟨p,_,rfl,hh,by decide,by decide,fun r1 H1 a1 b1 h1 k1 q1=>?_⟩
  walk_at "w"
  refine cV (fun h=>?_) (fun h=>?_)
  ·walk_at "w"
   exact k _ _ (by decide) (by decide) h1 k1 q1
  ·walk_at "w"
   refine⟨p,_,rfl,h1,by decide,fun r2 H2 a2 b2 h2 k2 q2=>?_⟩
   have b3:r2 < 50000000000:=b2
   walk_at "w"
   exact k _ _ (by omega) (by omega) h2 (k1.trans k2) (q1.trans q2)
structure MS where
 up:Int
 down:Int
 begin_:Int
 run:Int
 rest:Int
 least:Int
 pieces:List (Int×Int)
def Am(i:Int):Prop:=0<=i/\i<=1000000000000
structure aCa(ps:List (Int×Int)):Prop where
 len:ps.length<=4
 pc:∀t∈ps,1<=t.1/\Am t.1/\Am t.2
 up:∀(j:Nat) t u,ps[j]?=some t->ps[j+1]?=some u->t.2<=u.2
structure MS.Good(m:MS):Prop where
 up:1<=m.up/\m.up<=12
 down:1<=m.down/\m.down<=12
 begin_:Am m.begin_
 run:Am m.run
 rest:Am m.rest
 least:Am m.least
 pieces:aCa m.pieces
structure rJ(H:Hp)(qs:List Addr)(ps:List (Int×Int)):Prop where
 len:qs.length=ps.length
 at_:∀(j:Nat) q t,qs[j]?=some q->ps[j]?=some t->H q=some (.tup [.int t.1,.int t.2])
structure sN(H:Hp)(p:Addr)(ps:List (Int×Int)):Prop where
 ex:∃qs,H p=some (.lst (qs.map V.ref))/\rJ H qs ps
structure cJ(H:Hp)(s:Addr)(m:MS):Prop where
 ex:∃pl,H s=some (.lst [.int m.up,.int m.down,.int m.begin_,.int m.run,.int m.rest,.int m.least,.ref pl])/\sN H pl m.pieces
def mFs(m:MS)(pl:Addr):List (Str×V):=[("up",.int m.up),("down",.int m.down),("begin",.int m.begin_),("run",.int m.run),("rest",.int m.rest),("least",.int m.least),("pieces",.ref pl)]
structure bX(C:Addr)(H:Hp)(a:Addr)(m:MS):Prop where
 ex:∃dx pl,H a=some (.ins C dx (mFs m pl))/\sN H pl m.pieces
theorem rJ.at2{H:Hp}{qs:List Addr}{ps:List (Int×Int)}(h:rJ H qs ps){q:Addr}(hq:q∈qs):∃t∈ps,H q=some (.tup [.int t.1,.int t.2]):=by
 obtain⟨j,hj,rfl⟩:=List.getElem_of_mem hq
 have hj2:j < ps.length:=by rw[<-h.len];exact hj
 exact⟨ps[j],List.getElem_mem hj2,h.at_ j _ _ (List.getElem?_eq_getElem hj) (List.getElem?_eq_getElem hj2)⟩
theorem rJ.same{H H':Hp}{qs:List Addr}{ps:List (Int×Int)}(h:rJ H qs ps)(s:aJ H H'):rJ H' qs ps:=⟨h.len,fun j q t h1 h2=>s _ _ (h.at_ j q t h1 h2)⟩
theorem sN.same{H H':Hp}{p:Addr}{ps:List (Int×Int)}(h:sN H p ps)(s:aJ H H'):sN H' p ps:=by
 obtain⟨qs,h1,h2⟩:=h.ex
 exact⟨qs,s _ _ h1,h2.same s⟩
theorem cJ.same{H H':Hp}{p:Addr}{m:MS}(h:cJ H p m)(s:aJ H H'):cJ H' p m:=by
 obtain⟨pl,h1,h2⟩:=h.ex
 exact⟨pl,s _ _ h1,h2.same s⟩
theorem bX.same{C:Addr}{H H':Hp}{p:Addr}{m:MS}(h:bX C H p m)(s:aJ H H'):bX C H' p m:=by
 obtain⟨dx,pl,h1,h2⟩:=h.ex
 exact⟨dx,pl,s _ _ h1,h2.same s⟩
theorem rJ.keep{H H':Hp}{qs:List Addr}{ps:List (Int×Int)}{p:Addr}(h:rJ H qs ps)(hp:∀xs,H p≠some (.tup xs))(s:bZ p H H'):rJ H' qs ps:=
 ⟨h.len,fun j q t h1 h2=>by
  have e:=h.at_ j q t h1 h2
  exact s _ _ e (fun z=>hp _ (z▸e))⟩
theorem bF.aDx{H:Hp}{p:Addr}(h:bF H p)(xs:List V):H p≠some (.tup xs):=fun z=>by
 obtain⟨d,c,q,ms,hp,_⟩:=h.ex
 rw[hp] at z
 cases z
theorem sN.keep{H H':Hp}{a p:Addr}{ps:List (Int×Int)}(h:sN H a ps)(hh:bF H p)(s:bZ p H H'):sN H' a ps:=by
 obtain⟨qs,h1,h2⟩:=h.ex
 obtain⟨d,c,q,ms,hp,_⟩:=id hh.ex
 refine⟨qs,s _ _ h1 (fun z=>?_),h2.keep hh.aDx s⟩
 rw[z,hp] at h1
 cases qs with
 |nil=>cases h1
 |cons x xs=>cases h1
theorem cJ.keep{H H':Hp}{a p:Addr}{m:MS}(h:cJ H a m)(hh:bF H p)(s:bZ p H H'):cJ H' a m:=by
 obtain⟨pl,h1,h2⟩:=h.ex
 obtain⟨d,c,q,ms,hp,_⟩:=id hh.ex
 refine⟨pl,s _ _ h1 (fun z=>?_),h2.keep hh s⟩
 rw[z,hp] at h1
 cases h1
theorem bX.keep{C:Addr}{H H':Hp}{a p:Addr}{m:MS}(h:bX C H a m)(hh:bF H p)(s:bZ p H H'):bX C H' a m:=by
 obtain⟨dx,pl,h1,h2⟩:=h.ex
 obtain⟨d,c,q,ms,hp,_⟩:=id hh.ex
 refine⟨dx,pl,s _ _ h1 (fun z=>?_),h2.keep hh s⟩
 rw[z,hp] at h1
 cases h1
theorem wJ{i:Int}(h:Am i):amt (.int i)=true:=by
 obtain⟨h1,h2⟩:=h
 have h3:i<=10 ^ 12:=h2
 show(decide (0<=i) && decide (i<=10 ^ 12))=true
 rw[decide_eq_true h1,decide_eq_true h3]
 rfl
def aDh(K:PySem.W.Frag):Sp:=fun vs H Q _=>∃v T,vs=[v]/\Th H v T/\Q (.bl (T == "int")) H
theorem xA{P:Program}{w:World}{K:PySem.W.Frag}{mg:Str->Option Value}{base:Heap}{a:nA}(tx:Txt K mg a):bR P w K mg base iV 1 a.oR a.oS ["thing"] (aDh K):=by
 refine tx.o5.ok aDc (fun vs H Q E h=>?_) (fun cdv A outer s H vs Q E hr h=>?_)
 ·obtain⟨v,T,rfl,_⟩:=h
  rfl
 ·obtain⟨v,T,rfl ,ht,k⟩:=h
  have hu:=nM hr
  refine Z.root (Z.aG (Z.aS (Z.iI (Z.aI (rc:=pP K) bU (by rfl) tx.aX bD (Z.aD (Z.pv 0) (Z.aD (Z.cB (v:=.ty "int") (by rfl) tx.w9 aDR rfl) Z.aB))) (Z.jO (Z.aDz (Z.aI (rc:=pP K) bU (by rfl) tx.aX bD (Z.aD (Z.pv 0) (Z.aD (Z.cB (v:=.ty "bool") (by rfl) tx.nH uO rfl) Z.aB)))))))) ?_
  refine aR (σ:=[some v]) rfl ?_
  walk_at "w"
  refine bW (vE ht) ?_
  walk_at "w"
  refine rT (fun h=>?_) (fun h=>?_)
  ·walk_at "w"
   refine bW (fZ ht) ?_
   walk_at "w"
   have e:(!(T == "bool"))=(T == "int"):=by cases ht <;> first|rfl|cases h
   rw[e]
   exact k
  ·have e:(T == "int")=false:=by cases ht <;> first|rfl|cases h
   rw[e] at k
   exact k
def aCb(K:W.Frag):Sp:=fun vs H Q _=>∃v T,vs=[v]/\Th H v T/\Q (.bl (amt v)) H
theorem vF{P:Program}{w:World}{K:PySem.W.Frag}{mg:Str->Option Value}{base:Heap}{a:nA}(tx:Txt K mg a):bR P w K mg base iV 2 a.lT a.lU ["thing"] (aCb K):=by
 have tZ:=xA (P:=P) (w:=w) (base:=base) tx
 refine tx.dR.ok aB1 (fun vs H Q E h=>?_) (fun cdv A outer s H vs Q E hr h=>?_)
 ·obtain⟨v,T,rfl,_⟩:=h
  rfl
 ·obtain⟨v,T,rfl ,ht,k⟩:=h
  have hu:=nM hr
  refine Z.root (Z.aG (Z.aS (Z.iI (Z.aF (tZ) (hr.mono (by decide)) (by rfl) tx.tU tx.o5.kp tx.tT .nil aQ (Z.aD (Z.pv 0) Z.aB)) (Z.jO (Z.uF aA2 aA2 Z.aA (Z.pv 0) (Z.aN vZ Z.aA Z.aA)))))) ?_
  refine aR (σ:=[some v]) rfl ?_
  walk_at "w"
  refine⟨v,T,rfl,ht,?_⟩
  walk_at "w"
  refine rT (fun h=>?_) (fun h=>?_)
  ·cases ht with
   |int i=>
    walk_at "w"
    refine cV (fun h1=>?_) (fun h1=>?_)
    ·walk_at "w"
     have e:amt (.int i)=decide (i<=10 ^ (12:Int).toNat):=by simp[amt,h1]
     rw[<-e]
     exact k
    ·have e:amt (.int i)=false:=by simp[amt,h1]
     rw[e] at k
     exact k
   |_=>cases h
  ·have e:amt v=false:=by cases ht <;> first|rfl|cases h
   rw[e] at k
   exact k
def aEh(K:W.Frag):Sp:=fun vs H Q _=>∃(i:Int),vs=[.int i]/\1<=i/\i<=12/\Q (.bl true) H
theorem aEi{P:Program}{w:World}{K:PySem.W.Frag}{mg:Str->Option Value}{base:Heap}{a:nA}(tx:Txt K mg a):bR P w K mg base iV 2 a.sE a.sF ["thing"] (aEh K):=by
 have tZ:=xA (P:=P) (w:=w) (base:=base) tx
 refine tx.sG.ok aEf (fun vs H Q E h=>?_) (fun cdv A outer s H vs Q E hr h=>?_)
 ·obtain⟨i,rfl,_⟩:=h
  rfl
 ·obtain⟨i,rfl ,h1,h2,k⟩:=h
  have hu:=nM hr
  refine Z.root (Z.aG (Z.aS (Z.iI (Z.aF (tZ) (hr.mono (by decide)) (by rfl) tx.tU tx.o5.kp tx.tT .nil aQ (Z.aD (Z.pv 0) Z.aB)) (Z.jO (Z.uF aA2 aA2 Z.aA (Z.pv 0) (Z.yI (n:=12) (by rfl) tx.cY)))))) ?_
  refine aR (σ:=[some (.int i)]) rfl ?_
  walk_at "w"
  refine⟨_,_,rfl,.int i,?_⟩
  walk_at "w"
  refine rT (fun _=>?_) (fun h=>by simp at h)
  walk_at "w"
  refine cV (fun _=>?_) (fun h=>absurd h1 h)
  walk_at "w"
  rw[decide_eq_true h2]
  exact k
def aDi(K:W.Frag):Sp:=fun vs H Q _=>∃(q:Addr) (x y:Int),vs=[.ref q]/\H q=some (.tup [.int x,.int y])/\1<=x/\Am x/\Am y/\Q (.bl true) H
theorem aDj{P:Program}{w:World}{K:PySem.W.Frag}{mg:Str->Option Value}{base:Heap}{a:nA}(tx:Txt K mg a):bR P w K mg base iV 3 a.oU a.oV ["thing"] (aDi K):=by
 have fA:=vF (P:=P) (w:=w) (base:=base) tx
 refine tx.tV.ok aDd (fun vs H Q E h=>?_) (fun cdv A outer s H vs Q E hr h=>?_)
 ·obtain⟨q,x,y,rfl,_⟩:=h
  rfl
 ·obtain⟨q,x,y,rfl ,hq,h1,h2,h3,k⟩:=h
  have hu:=nM hr
  refine Z.root (Z.aC (Z.cN (Z.aBc (Z.aA0 (Z.oE (Z.fV (Z.aI (rc:=pP K) bU (by rfl) tx.aX bD (Z.aD (Z.pv 0) (Z.aD (Z.cB (v:=.ty "tuple") (by rfl) tx.kM uP rfl) Z.aB))))) (Z.vW (Z.bP (r:=aFx K) (aDT hu) (Z.aI (rc:=nQ K) bT (by rfl) tx.fT eQ (Z.aD (Z.pv 0) Z.aB)) Z.aA (bN _))))) (Z.aG (Z.aS Z.wL)) Z.bI)
   (Z.aG (Z.aS (Z.iI (Z.aF (fA) (hr.mono (by decide)) (by rfl) tx.eZ tx.dR.kp tx.eY .nil aQ (Z.aD (Z.aK (K':=K) (Z.pv 0) Z.aA (fun _ _=>rfl)) Z.aB)) (Z.iI (Z.gB aIZ (Z.aK (K':=K) (Z.pv 0) Z.aA (fun _ _=>rfl)) Z.aA (bN _)) (Z.jO (Z.aF (fA) (hr.mono (by decide)) (by rfl) tx.eZ tx.dR.kp tx.eY .nil aQ (Z.aD (Z.aK (K':=K) (Z.pv 0) Z.aA (fun _ _=>rfl)) Z.aB)))))))) ?_
  refine aR (σ:=[some (.ref q)]) rfl ?_
  walk_at "w"
  refine bW (oB (.tup hq)) ?_
  walk_at "w"
  refine rT (fun h=>by simp at h) (fun _=>?_)
  walk_at "w"
  refine aIk (fun h=>absurd rfl h) (fun _=>?_)
  walk_at "w"
  refine⟨_,_,rfl,.int x,?_⟩
  rw[wJ h2]
  walk_at "w"
  refine cV (fun _=>?_) (fun h=>absurd h1 h)
  walk_at "w"
  refine⟨_,_,rfl,.int y,?_⟩
  rw[wJ h3]
  exact k
def aAE(K:W.Frag):Sp:=fun vs H Q _=>∃(p:Addr) (ps:List (Int×Int)),vs=[.ref p]/\sN H p ps/\aCa ps/\∀H',aJ H H'->Q (.bl true) H'
theorem aAF{P:Program}{w:World}{K:PySem.W.Frag}{mg:Str->Option Value}{base:Heap}{a:nA}(tx:Txt K mg a):bR P w K mg base iV 4 a.j0 a.j7 ["thing"] (aAE K):=by
 have aEj:=aDj (P:=P) (w:=w) (base:=base) tx
 refine tx.o6.ok aAz (fun vs H Q E h=>?_) (fun cdv A outer s H vs Q E hr h=>?_)
 ·obtain⟨p,ps,rfl,_⟩:=h
  rfl
 ·obtain⟨p,ps,rfl ,hp,hg,k⟩:=h
  have hu:=nM hr
  refine Z.root (Z.aC (Z.cN (Z.aBc (Z.aA0 (Z.oE (Z.fV (Z.aI (rc:=pP K) bU (by rfl) tx.aX bD (Z.aD (Z.pv 0) (Z.aD (Z.cB (v:=.ty "list") (by rfl) tx.iT lN rfl) Z.aB))))) (Z.vW (Z.bP aEz (Z.aI (rc:=nQ K) bT (by rfl) tx.fT eQ (Z.aD (Z.pv 0) Z.aB)) (Z.yI (n:=4) (by rfl) tx.eM) (bN _))))) (Z.aG (Z.aS Z.wL)) Z.bI)
   (Z.aC (Z.cN (Z.oE (Z.fV (Z.aI (rc:=aGK K) (wA rfl) (by rfl) tx.w6 aDS (Z.aD (Z.fE (k:=1) (idx:=[]) (N:=["piece"]) (fW (sc:=aE dB) (NX:=["thing"]) rfl rfl rfl (by decide +kernel)) rfl (Z.cP (K':=K) (Z.pv 0)) (fun _ _ _ _=>(Z.aP (i:=0) (show(["piece"]:List Str).Nodup by decide +kernel) rfl (Or.inl rfl))) (kQ (by decide)) (fun _ _ _ _=>Z.iW) (fun _ _ _ _=>(Z.aF (aEj) (hr.mono (by decide)) (by rfl) tx.zV tx.tV.kp tx.zU .nil aQ (Z.aD (Z.pv 0) Z.aB)))) Z.aB)))) (Z.aG (Z.aS Z.wL)) Z.bI)
   (Z.aG (Z.aS (Z.aI (rc:=aGK K) (wA rfl) (by rfl) tx.w6 aDS (Z.aD (Z.fE (k:=1) (idx:=[0]) (N:=["at","thing"]) (fW (sc:=aE dB) (NX:=["thing"]) rfl rfl rfl (by decide +kernel)) rfl (Z.tL (by rfl) tx.dF (Z.aD Z.aA (Z.aD (Z.aI (rc:=nQ K) bT (by rfl) tx.fT eQ (Z.aD (Z.pv 0) Z.aB)) Z.aB))) (fun _ _ _ _=>(Z.aP (i:=0) (show(["at","thing"]:List Str).Nodup by decide +kernel) rfl (Or.inl rfl))) (kQ (by decide)) (fun _ _ _ _=>Z.iW) (fun _ _ _ _=>(Z.gB aA2 (Z.aK (K':=K) (Z.aK (K':=K) (Z.pv 1) (Z.aN gG (Z.pv 0) Z.aA) (fun _ _=>rfl)) Z.aA (fun _ _=>rfl)) (Z.aK (K':=K) (Z.aK (K':=K) (Z.pv 1) (Z.pv 0) (fun _ _=>rfl)) Z.aA (fun _ _=>rfl)) (bN _)))) Z.aB)))))) ?_
  obtain⟨qs,h1,h2⟩:=hp.ex
  have hl:=hg.len
  have hql:qs.length<=4:=by rw[h2.len];exact hl
  refine aR (σ:=[some (.ref p)]) rfl ?_
  walk_at "w"
  refine bW (rH (.lst h1)) ?_
  walk_at "w"
  refine rT (fun h=>by simp at h) (fun _=>?_)
  walk_at "w"
  refine cV (fun h=>by rw[List.length_map] at h;omega) (fun _=>?_)
  walk_at "w"
  refine kR (bQ.of h1) ?_
  refine aBa (fun _=>.bl true) (bQ.of h1) (cC (by rw[List.length_map];omega)) (fun x N N' hxm hN=>?_) ?_
  ·obtain⟨q,hq,rfl⟩:=List.mem_map.mp hxm
   obtain⟨t,ht,e⟩:=h2.at2 hq
   obtain⟨g1,g2,g3⟩:=hg.pc t ht
   walk_at "w"
   exact⟨q,t.1,t.2,rfl,e,g1,g2,g3,hN⟩
  ·intro l1 n1
   walk_at "w"
   refine yJ (bQ.of aH) (fun x hx=>by obtain⟨_,_,rfl⟩:=List.mem_map.mp hx;rfl) ?_
   walk_at "w"
   have h1':=aJ.new (o:=.lst ((qs.map V.ref).map fun _=>V.bl true)) n1 _ _ h1
   have h2':=h2.same (aJ.new (o:=.lst ((qs.map V.ref).map fun _=>V.bl true)) n1)
   walk_at "w"
   refine⟨⟨by omega,by omega,by omega,by rw[List.length_map];omega⟩,?_⟩
   rw[List.length_map]
   refine aDV (fun _=>.bl true) (cC (by omega)) (fun i N N' hi hN=>?_) ?_
   ·have i1:i < qs.length:=by omega
    have i2:i+1 < qs.length:=by omega
    have j1:i < ps.length:=by rw[<-h2.len];exact i1
    have j2:i+1 < ps.length:=by rw[<-h2.len];exact i2
    have e1:pO (qs.map V.ref) (1+(i:Int) - 1)=some (.ref qs[i]):=by
     rw[show 1+(i:Int) - 1=(i:Int) by omega]
     exact cU (by rw[List.getElem?_map,List.getElem?_eq_getElem i1];rfl)
    have e2:pO (qs.map V.ref) (1+(i:Int))=some (.ref qs[i+1]):=by
     rw[show 1+(i:Int)=((i+1:Nat):Int) by omega]
     exact cU (by rw[List.getElem?_map,List.getElem?_eq_getElem i2];rfl)
    have t1:=h2'.at_ i _ _ (List.getElem?_eq_getElem i1) (List.getElem?_eq_getElem j1)
    have t2:=h2'.at_ (i+1) _ _ (List.getElem?_eq_getElem i2) (List.getElem?_eq_getElem j2)
    have t3:=hg.up i _ _ (List.getElem?_eq_getElem j1) (List.getElem?_eq_getElem j2)
    walk_at "w"
    rw[decide_eq_true t3]
    exact hN
   ·intro l2 n2
    walk_at "w"
    refine yJ (bQ.of aH) (fun x hx=>by obtain⟨_,_,rfl⟩:=List.mem_map.mp hx;rfl) ?_
    exact k _ ((aJ.new n1).trans (aJ.new n2))
def xP(K:W.Frag)(C:Addr):Sp:=fun vs H Q _=>∃(x dx pl:Addr) (m:MS),vs=[.ref x,.int m.up,.int m.down,.int m.begin_,.int m.run,.int m.rest,.int m.least,.ref pl]/\H x=some (.ins C dx [])/\sN H pl m.pieces/\m.Good/\
 ∀H',bX C H' x m->bZ x H H'->Q .non H'
theorem xQ{P:Program}{w:World}{K:PySem.W.Frag}{mg:Str->Option Value}{base:Heap}{a:nA}(tx:Txt K mg a):bR P w K mg base iV 5 a.gY a.gZ ["self","up","down","begin","run","rest","least","pieces"] (xP K a.bB):=by
 have aCc:=aAF (P:=P) (w:=w) (base:=base) tx
 have fA:=vF (P:=P) (w:=w) (base:=base) tx
 have aBu:=aEi (P:=P) (w:=w) (base:=base) tx
 refine tx.qG.ok eA (fun vs H Q E h=>?_) (fun cdv A outer s H vs Q E hr h=>?_)
 ·obtain⟨x,dx,pl,m,rfl,_⟩:=h
  rfl
 ·obtain⟨x,dx,pl,m,rfl ,hx,hp,hg,k⟩:=h
  have hu:=nM hr
  refine Z.root (Z.aC (Z.aM (i:=8) eA.nd rfl (Or.inl rfl) (Z.aCX (Z.aF (aBu) (hr.mono (by decide)) (by rfl) tx.wI tx.sG.kp tx.wH .nil aQ (Z.aD (Z.pv 1) Z.aB)) (Z.aF (aBu) (hr.mono (by decide)) (by rfl) tx.wI tx.sG.kp tx.wH .nil aQ (Z.aD (Z.pv 2) Z.aB))))
   (Z.aC (Z.aM (i:=9) eA.nd rfl (Or.inl rfl) (Z.aKr (Z.aF (fA) (hr.mono (by decide)) (by rfl) tx.eZ tx.dR.kp tx.eY .nil aQ (Z.aD (Z.pv 3) Z.aB)) (Z.aF (fA) (hr.mono (by decide)) (by rfl) tx.eZ tx.dR.kp tx.eY .nil aQ (Z.aD (Z.pv 4) Z.aB)) (Z.aF (fA) (hr.mono (by decide)) (by rfl) tx.eZ tx.dR.kp tx.eY .nil aQ (Z.aD (Z.pv 5) Z.aB)) (Z.aF (fA) (hr.mono (by decide)) (by rfl) tx.eZ tx.dR.kp tx.eY .nil aQ (Z.aD (Z.pv 6) Z.aB))))
   (Z.aC (Z.cE PassesOwn.never rfl (Z.zA (K':=K) (by rfl) tx.dS (Z.aD (Z.aN bL (Z.aN bL (Z.pv 8) (Z.pv 9)) (Z.xK (Z.aF (aCc) (hr.mono (by decide)) (by rfl) tx.uW tx.o6.kp tx.uV .nil aQ (Z.aD (Z.pv 7) Z.aB)))) Z.aB)) (Z.iY (K':=K) (n:=2) rfl (Z.bH (Z.aP (i:=10) eA.nd rfl (Or.inl rfl)) (Z.bH (Z.aP (i:=11) eA.nd rfl (Or.inl rfl)) Z.fD))) (Z.aG (Z.cN (Z.oE (Z.fV (Z.pv 11))) (Z.aG Z.pR) Z.bI)))
   (Z.aC (Z.oM (K':=K) (Z.pv 0) (Z.pv 1) rfl)
   (Z.aC (Z.oM (K':=K) (Z.pv 0) (Z.pv 2) rfl)
   (Z.aC (Z.oM (K':=K) (Z.pv 0) (Z.pv 3) rfl)
   (Z.aC (Z.oM (K':=K) (Z.pv 0) (Z.pv 4) rfl)
   (Z.aC (Z.oM (K':=K) (Z.pv 0) (Z.pv 5) rfl)
   (Z.aC (Z.oM (K':=K) (Z.pv 0) (Z.pv 6) rfl)
   (Z.aG (Z.oM (K':=K) (Z.pv 0) (Z.iK (rc:=uQ K) tK (by rfl) tx.iT lN (Z.aD (Z.pv 7) Z.aB)) rfl))))))))))) ?_
  refine aR (σ:=[some (.ref x),some (.int m.up),some (.int m.down),some (.int m.begin_),some (.int m.run),some (.int m.rest),some (.int m.least),some (.ref pl),none,none,none,none]) rfl ?_
  walk_at "w"
  refine⟨_,rfl,hg.up.1,hg.up.2,?_⟩
  walk_at "w"
  refine⟨_,rfl,hg.down.1,hg.down.2,?_⟩
  walk_at "w"
  intro l1 n1
  walk_at "w"
  refine⟨_,_,rfl,.int _,?_⟩
  rw[wJ hg.begin_]
  walk_at "w"
  refine⟨_,_,rfl,.int _,?_⟩
  rw[wJ hg.run]
  walk_at "w"
  refine⟨_,_,rfl,.int _,?_⟩
  rw[wJ hg.rest]
  walk_at "w"
  refine⟨_,_,rfl,.int _,?_⟩
  rw[wJ hg.least]
  walk_at "w"
  intro l2 n2
  walk_at "w"
  refine rS (xs:=[.bl true,.bl true]) (zs:=[.bl true,.bl true,.bl true,.bl true]) (by walk_at "hp") aH (cC (by simp)) ?_
  intro l3 n3
  walk_at "w"
  have s3:aJ H (upd (upd (upd H l1 (.lst [.bl true,.bl true])) l2 (.lst [.bl true,.bl true,.bl true,.bl true])) l3 (.lst ([.bl true,.bl true] ++ [.bl true,.bl true,.bl true,.bl true]))):=((aJ.new n1).trans (aJ.new n2)).trans (aJ.new n3)
  refine⟨pl,m.pieces,rfl,hp.same s3,hg.pieces,fun H4 s4=>?_⟩
  walk_at "w"
  intro l5 n5
  walk_at "w"
  refine rS (xs:=[.bl true,.bl true] ++ [.bl true,.bl true,.bl true,.bl true]) (zs:=[.bl true]) (aJ.new n5 _ _ (s4 _ _ aH)) aH (cC (by simp)) ?_
  intro l6 n6
  walk_at "w"
  have s6:aJ H (upd (upd H4 l5 (.lst [.bl true])) l6 (.lst (([.bl true,.bl true] ++ [.bl true,.bl true,.bl true,.bl true]) ++ [.bl true]))):=(s3.trans s4).trans ((aJ.new n5).trans (aJ.new n6))
  generalize hH6:upd (upd H4 l5 (.lst [.bl true])) l6 (.lst (([.bl true,.bl true] ++ [.bl true,.bl true,.bl true,.bl true]) ++ [.bl true]))=H6 at s6 ⊢
  have e6:H6 l6=some (.lst [.bl true,.bl true,.bl true,.bl true,.bl true,.bl true,.bl true]):=by rw[<-hH6,aH];rfl
  refine aGJ (bQ.of e6) ?_
  refine aBO (xs:=[.bl true,.bl true,.bl true,.bl true,.bl true,.bl true,.bl true]) (fun i σ' H'=>∃y z,σ'=[some (.ref x),some (.int m.up),some (.int m.down),some (.int m.begin_),some (.int m.run),some (.int m.rest),some (.int m.least),some (.ref pl),some (.ref l1),some (.ref l2),y,z]/\aJ H6 H')
   ⟨_,_,rfl,aJ.refl _⟩ (fun i σ' H' hi ⟨y,z,e,s⟩=>bQ.of (s _ _ e6)) (fun i v σ' H' T hv ⟨y,z,e,s⟩ nT=>?_) (fun σ' H' ⟨y,z,e,s⟩=>?_)
  ·subst e
   have ev:v=.bl true:=by
    have:=List.mem_of_getElem? hv
    simpa using this
   subst ev
   refine iX (lJ.of aH) rfl ?_
   walk_at "w"
   exact⟨_,_,rfl,s.trans (aJ.new nT)⟩
  ·subst e
   have sH:aJ H H':=s6.trans s
   have hx':=sH _ _ hx
   have hp':=hp.same sH
   obtain⟨qs,p1,p2⟩:=hp'.ex
   walk_at "w"
   refine tM (fs':=[("up",.int m.up)]) hx' tx.bV tx.pE (by simp[mFs]) rfl ?_
   walk_at "w"
   refine tM (fs':=[("up",.int m.up),("down",.int m.down)]) aH tx.bV tx.lC (by simp[mFs]) rfl ?_
   rw[uD]
   walk_at "w"
   refine tM (fs':=[("up",.int m.up),("down",.int m.down),("begin",.int m.begin_)]) aH tx.bV tx.jS (by simp[mFs]) rfl ?_
   rw[uD]
   walk_at "w"
   refine tM (fs':=[("up",.int m.up),("down",.int m.down),("begin",.int m.begin_),("run",.int m.run)]) aH tx.bV tx.nG (by simp[mFs]) rfl ?_
   rw[uD]
   walk_at "w"
   refine tM (fs':=[("up",.int m.up),("down",.int m.down),("begin",.int m.begin_),("run",.int m.run),("rest",.int m.rest)]) aH tx.bV tx.lD (by simp[mFs]) rfl ?_
   rw[uD]
   walk_at "w"
   refine tM (fs':=[("up",.int m.up),("down",.int m.down),("begin",.int m.begin_),("run",.int m.run),("rest",.int m.rest),("least",.int m.least)]) aH tx.bV tx.jT (by simp[mFs]) rfl ?_
   rw[uD]
   walk_at "w"
   have px:pl≠x:=fun z=>by rw[z,hx'] at p1;cases p1
   refine y6 (ys:=qs.map V.ref) (bQ.of (by rw[aL px];exact p1)) ?_
   intro l9 n9
   walk_at "w"
   have x9:x≠l9:=bA n9 aH
   walk_at "w"
   refine tM (fs':=mFs m l9) (by rw[aL x9];exact aH) tx.bV tx.iS (by simp[mFs]) rfl ?_
   walk_at "w"
   refine k _ ⟨dx,l9,aH,qs,?_,p2.len,fun j q t h1 h2=>?_⟩ (fun b o e nb=>?_)
   ·rw[aL (Ne.symm x9),aH]
   ·have e:=p2.at_ j q t h1 h2
    have qx:q≠x:=fun z=>by rw[z,hx'] at e;cases e
    have q9:q≠l9:=bA n9 (by rw[aL qx];exact e)
    rw[aL qx,aL q9,aL qx]
    exact e
   ·have e1:=sH _ _ e
    have b9:b≠l9:=bA n9 (by rw[aL nb];exact e1)
    rw[aL nb,aL b9,aL nb]
    exact e1
structure PcW(ps:List (Int×Int))(r:Int):Prop where
 pc:∀t∈ps,1<=t.1/\Am t.1/\Am t.2
 up:∀(j:Nat) t u,ps[j]?=some t->ps[j+1]?=some u->t.2<=u.2
 top:∀t∈ps,t.2<=r
theorem PcW.nil{r:Int}:PcW [] r:=⟨fun _ h=>by simp at h,fun j t u h=>by simp at h,fun _ h=>by simp at h⟩
theorem PcW.snoc{ps:List (Int×Int)}{r r' a:Int}(w:PcW ps r)(hr:r<=r')(h1:1<=a)(h2:Am a)(h3:Am r'):PcW (ps ++ [(a,r')]) r':=by
 refine⟨fun t h=>?_,fun j t u ht hu=>?_,fun t h=>?_⟩
 ·rcases List.mem_append.mp h with h|h
  ·exact w.pc t h
  ·rw[List.mem_singleton.mp h];exact⟨h1,h2,h3⟩
 ·have hj2:j+1 < (ps ++ [(a,r')]).length:=(List.getElem?_eq_some_iff.mp hu).1
  rw[List.length_append,List.length_singleton] at hj2
  have hj:j < ps.length:=by omega
  rw[List.getElem?_append_left hj] at ht
  by_cases hj3:j+1 < ps.length
  ·rw[List.getElem?_append_left hj3] at hu
   exact w.up j t u ht hu
  ·rw[List.getElem?_append_right (by omega),show j+1 - ps.length=0 by omega] at hu
   cases hu
   exact Int.le_trans (w.top t (List.mem_of_getElem? ht)) hr
 ·rcases List.mem_append.mp h with h|h
  ·exact Int.le_trans (w.top t h) hr
  ·rw[List.mem_singleton.mp h];exact Int.le_refl _
theorem rJ.snoc{H H3:Hp}{qs:List Addr}{ss:List (Int×Int)}{l T:Addr}{xs:List V}{t:Int×Int}(h:rJ H qs ss)(hl:H l=some (.lst xs))(k:bZ l H H3)(hT:H3 T=some (.tup [.int t.1,.int t.2])):rJ H3 (qs ++ [T]) (ss ++ [t]):=by
 refine⟨by rw[List.length_append,List.length_append,h.len];rfl,fun j q u hq hu=>?_⟩
 by_cases hj:j < qs.length
 ·rw[List.getElem?_append_left hj] at hq
  rw[List.getElem?_append_left (by rw[<-h.len];exact hj)] at hu
  have e:=h.at_ j q u hq hu
  refine k q _ e fun z=>?_
  rw[z,hl] at e
  cases e
 ·have hj2:j < (qs ++ [T]).length:=(List.getElem?_eq_some_iff.mp hq).1
  rw[List.length_append,List.length_singleton] at hj2
  have e:j=qs.length:=by omega
  subst e
  rw[List.getElem?_append_right (Nat.le_refl _),Nat.sub_self] at hq
  rw[h.len,List.getElem?_append_right (Nat.le_refl _),Nat.sub_self] at hu
  cases hq
  cases hu
  exact hT
theorem bF.aLF{H:Hp}{p c:Addr}{qs:List Addr}(h:bF H p)(e:H c=some (.lst (qs.map V.ref))):c≠p:=fun z=>by
 obtain⟨d,cc,q,ms,hp,_⟩:=h.ex
 rw[z,hp] at e
 cases qs with
 |nil=>cases e
 |cons x xs=>cases e
theorem bF.aKM{H:Hp}{p c:Addr}{xs:List V}(h:bF H p)(e:H c=some (.lst xs))(hl:xs.length≠3):c≠p:=fun z=>by
 obtain⟨d,cc,q,ms,hp,_⟩:=h.ex
 rw[z,hp] at e
 cases e
 exact hl rfl
theorem bF.isL{H:Hp}{p:Addr}(h:bF H p):∃xs,H p=some (.lst xs):=by
 obtain⟨d,cc,q,ms,hp,_⟩:=h.ex
 exact⟨_,hp⟩
theorem aAa{H H':Hp}{p c:Addr}(k:bZ p H H')(hh:bF H' p)(n:H' c=none):H c=none:=by
 cases hc:H c with
 |none=>rfl
 |some v=>
  obtain⟨xs,e⟩:=hh.isL
  exact absurd rfl (bA n (k c v hc (fun z=>bA n e z.symm)))
theorem aHt{x r n B:Int}(x0:1<=x)(x1:x<=50000000000)(a:0<=r)(c:r < n)(h:50000000000*(n - 1)<=B):0<=x*r/\x*r<=B:=
 ⟨Int.mul_nonneg (by omega) a,Int.le_trans (Int.mul_le_mul x1 (show r<=n - 1 by omega) a (by omega)) h⟩
theorem aLG{x u n B:Int}(x0:1<=x)(x1:x<=50000000000)(a:0<=u)(c:u < n)(h:50000000000*n<=B):x<=x*(1+u)/\x*(1+u)<=B:=
 ⟨by have:=Int.mul_le_mul_of_nonneg_left (show 1<=1+u by omega) (show 0<=x by omega);rw[Int.mul_one] at this;exact this,Int.le_trans (Int.mul_le_mul x1 (show 1+u<=n by omega) (by omega) (by omega)) h⟩
theorem up1{r n:Int}(a:0<=r)(c:r < n)(n1:n<=12):(1<=1+r/\1+r<=12)/\1+r<=n:=by omega
theorem amB{z:Int}(h:0<=z/\z<=250000000000):Am z:=⟨h.1,by have:=h.2;omega⟩
theorem rtB{rate z:Int}{i:Nat}(f5:0<=rate)(f6:rate<=(i:Int)*100000000000)(g:0<=z/\z<=100000000000)(i4:i<=3):rate<=rate+z/\Am (rate+z)/\0<=rate+z/\rate+z<=((i+1:Nat):Int)*100000000000:=⟨by omega,⟨by omega,by omega⟩,by omega,by omega⟩
theorem xB{x z:Int}(x0:1<=x)(g:x<=z/\z<=150000000000):1<=z/\Am z:=⟨by omega,⟨by omega,by omega⟩⟩
def aCd(K:W.Frag):Sp:=fun vs H Q _=>∃(p b:Addr) (x y n:Int),vs=[.ref p,.ref b,.int n]/\bF H p/\H b=some (.lst [.int x,.int y])/\1<=x/\x<=50000000000/\1<=y/\y<=50000000000/\1<=n/\n<=12/\
 ∀(s:Addr) (m:MS) H',cJ H' s m->m.Good->m.up<=n->m.down<=n->bF H' p->bZ p H H'->H s=none->Q (.ref s) H'
theorem aCe{P:Program}{w:World}{K:PySem.W.Frag}{mg:Str->Option Value}{base:Heap}{a:nA}(tx:Txt K mg a):bR P w K mg base iV 2 a.lV a.lW ["_law_hand","_law_by","_law_longest"] (aCd K):=by
 have aO:=d7 (P:=P) (w:=w) (base:=base) tx
 refine tx.qI.ok cI (fun vs H Q E h=>?_) (fun cdv A outer s H vs Q E hr h=>?_)
 ·obtain⟨p,b,x,y,n,rfl,_⟩:=h
  rfl
 ·obtain⟨p,b,x,y,n,rfl ,hh,hb,x0,x1,y0,y1,n0,n1,k⟩:=h
  have hu:=nM hr
  refine Z.root (Z.aC (Z.aM (i:=3) cI.nd rfl (Or.inl rfl) (Z.aN bL Z.aA (Z.aF (aO) (hr.mono (by decide)) (by rfl) tx.aZ tx.aU.kp tx.aY .nil aQ (Z.aD (Z.pv 0) (Z.aD (Z.pv 2) Z.aB)))))
   (Z.aC (Z.aM (i:=4) cI.nd rfl (Or.inl rfl) (Z.aN bL Z.aA (Z.aF (aO) (hr.mono (by decide)) (by rfl) tx.aZ tx.aU.kp tx.aY .nil aQ (Z.aD (Z.pv 0) (Z.aD (Z.pv 2) Z.aB)))))
   (Z.aC (Z.aM (i:=5) cI.nd rfl (Or.inl rfl) (Z.aIo (Z.aN bS (Z.aK (K':=K) (Z.pv 1) Z.aA (fun _ _=>rfl)) (Z.aF (aO) (hr.mono (by decide)) (by rfl) tx.aZ tx.aU.kp tx.aY .nil aQ (Z.aD (Z.pv 0) (Z.aD Z.aA Z.aB)))) (Z.aN bS (Z.aK (K':=K) (Z.pv 1) Z.aA (fun _ _=>rfl)) (Z.aF (aO) (hr.mono (by decide)) (by rfl) tx.aZ tx.aU.kp tx.aY .nil aQ (Z.aD (Z.pv 0) (Z.aD Z.aA Z.aB)))) (Z.aN bS (Z.aK (K':=K) (Z.pv 1) Z.aA (fun _ _=>rfl)) (Z.aF (aO) (hr.mono (by decide)) (by rfl) tx.aZ tx.aU.kp tx.aY .nil aQ (Z.aD (Z.pv 0) (Z.aD Z.aA Z.aB))))))
   (Z.aC (Z.aM (i:=6) cI.nd rfl (Or.inl rfl) (Z.aN bS (Z.aK (K':=K) (Z.pv 1) Z.aA (fun _ _=>rfl)) (Z.aF (aO) (hr.mono (by decide)) (by rfl) tx.aZ tx.aU.kp tx.aY .nil aQ (Z.aD (Z.pv 0) (Z.aD Z.aA Z.aB)))))
   (Z.aC (Z.aM (i:=7) cI.nd rfl (Or.inl rfl) Z.aA)
   (Z.aC (Z.aM (i:=8) cI.nd rfl (Or.inl rfl) (Z.eO Z.aB))
   (Z.aC (Z.cE PassesOwn.never rfl (Z.cO (by rfl) tx.dF (Z.aD (Z.aF (aO) (hr.mono (by decide)) (by rfl) tx.aZ tx.aU.kp tx.aY .nil aQ (Z.aD (Z.pv 0) (Z.aD Z.aA Z.aB))) Z.aB)) (Z.aP (i:=9) cI.nd rfl (Or.inl rfl)) (Z.aC (Z.aBE (i:=7) cI.nd rfl (Or.inl rfl) (Z.aN bS (Z.aK (K':=K) (Z.pv 1) Z.aA (fun _ _=>rfl)) (Z.aF (aO) (hr.mono (by decide)) (by rfl) tx.aZ tx.aU.kp tx.aY .nil aQ (Z.aD (Z.pv 0) (Z.aD Z.aA Z.aB)))) aDB)
   (Z.aG (Z.fB (Z.iZ (K':=K) (Z.pv 8) (Z.aD (Z.oJ (Z.aN bS (Z.aK (K':=K) (Z.pv 1) Z.aA (fun _ _=>rfl)) (Z.aN bL Z.aA (Z.aF (aO) (hr.mono (by decide)) (by rfl) tx.aZ tx.aU.kp tx.aY .nil aQ (Z.aD (Z.pv 0) (Z.aD Z.aA Z.aB))))) (Z.pv 7)) Z.aB))))))
   (Z.aG (Z.aS (Z.aKt (Z.pv 3) (Z.pv 4) (Z.aK (K':=K) (Z.pv 5) Z.aA (fun _ _=>rfl)) (Z.aK (K':=K) (Z.pv 5) Z.aA (fun _ _=>rfl)) (Z.aK (K':=K) (Z.pv 5) Z.aA (fun _ _=>rfl)) (Z.pv 6) (Z.pv 8))))))))))) ?_
  have bp:b≠p:=hh.aKM hb (by simp)
  refine aR (σ:=[some (.ref p),some (.ref b),some (.int n),none,none,none,none,none,none,none]) rfl ?_
  walk_at "w"
  refine⟨p,_,rfl,hh,by omega,by omega,fun r1 H1 a1 c1 h1 k1 _=>?_⟩
  have hb1:=k1 _ _ hb bp
  walk_at "w"
  refine⟨p,_,rfl,h1,by omega,by omega,fun r2 H2 a2 c2 h2 k2 _=>?_⟩
  have hb2:=k2 _ _ hb1 bp
  walk_at "w"
  refine⟨p,_,rfl,h2,by decide,by decide,fun r3 H3 a3 c3 h3 k3 _=>?_⟩
  have hb3:=k3 _ _ hb2 bp
  walk_at "w"
  refine⟨p,_,rfl,h3,by decide,by decide,fun r4 H4 a4 c4 h4 k4 _=>?_⟩
  have hb4:=k4 _ _ hb3 bp
  walk_at "w"
  refine⟨p,_,rfl,h4,by decide,by decide,fun r5 H5 a5 c5 h5 k5 _=>?_⟩
  have hb5:=k5 _ _ hb4 bp
  walk_at "w"
  intro l6 n6
  walk_at "w"
  have hb6:=aJ.new (o:=.lst [.int (y*r3),.int (y*r4),.int (y*r5)]) n6 _ _ hb5
  have h6:=h5.same (aJ.new (o:=.lst [.int (y*r3),.int (y*r4),.int (y*r5)]) n6)
  walk_at "w"
  refine⟨p,_,rfl,h6,by decide,by decide,fun r7 H7 a7 c7 h7 k7 _=>?_⟩
  have hb7:=k7 _ _ hb6 bp
  have l6p:l6≠p:=fun z=>by obtain⟨_,e⟩:=h5.isL;exact bA n6 e z.symm
  have e7:H7 l6=some (.lst [.int (y*r3),.int (y*r4),.int (y*r5)]):=k7 _ _ aH l6p
  have kk7:bZ p H H7:=k1.trans (k2.trans (k3.trans (k4.trans (k5.trans ((aJ.new n6).keep.trans k7)))))
  have g3:0<=y*r3/\y*r3<=250000000000:=aHt y0 y1 a3 c3 (by decide)
  have g4:0<=y*r4/\y*r4<=250000000000:=aHt y0 y1 a4 c4 (by decide)
  have g5:0<=y*r5/\y*r5<=250000000000:=aHt y0 y1 a5 c5 (by decide)
  have g7:0<=x*r7/\x*r7<=250000000000:=aHt x0 x1 a7 c7 (by decide)
  walk_at "w"
  intro l8 n8
  walk_at "w"
  have h8:=h7.same (aJ.new (o:=.lst []) n8)
  walk_at "w"
  refine⟨p,_,rfl,h8,by decide,by decide,fun r9 H9 a9 c9 h9 k9 _=>?_⟩
  have l8p:l8≠p:=fun z=>by obtain⟨_,e⟩:=h7.isL;exact bA n8 e z.symm
  have e9:H9 l8=some (.lst []):=k9 _ _ aH l8p
  have hb9:=k9 _ _ (aJ.new n8 _ _ hb7) bp
  have e69:H9 l6=some (.lst [.int (y*r3),.int (y*r4),.int (y*r5)]):=k9 _ _ (aJ.new n8 _ _ e7) l6p
  have kk9:bZ p H H9:=kk7.trans ((aJ.new n8).keep.trans k9)
  have n8H:H l8=none:=aAa kk7 h7 n8
  have n6H:H l6=none:=aAa (k1.trans (k2.trans (k3.trans (k4.trans k5)))) h5 n6
  walk_at "w"
  refine⟨by omega,by omega,?_⟩
  refine jM (fun i σ' H'=>∃qs ps rate x9,σ'=[some (.ref p),some (.ref b),some (.int n),some (.int (1+r1)),some (.int (1+r2)),some (.ref l6),some (.int (x*r7)),some (.int rate),some (.ref l8),x9]/\H' l8=some (.lst (qs.map V.ref))/\rJ H' qs ps/\ps.length=i/\PcW ps rate/\
    0<=rate/\rate<=(i:Int)*100000000000/\bF H' p/\bZ p H H'/\H' b=some (.lst [.int x,.int y])/\H' l6=some (.lst [.int (y*r3),.int (y*r4),.int (y*r5)]))
   ⟨[],[],0,_,rfl,e9,⟨rfl,fun j q t h=>by simp at h⟩,rfl,PcW.nil,by omega,by omega,h9,kk9,hb9,e69⟩
   (fun i σ' H' hi ⟨qs,ps,rate,x9,e,f1,f2,f3,f4,f5,f6,f7,f8,f9,f0⟩=>?_) (fun σ' H' ⟨qs,ps,rate,x9,e,f1,f2,f3,f4,f5,f6,f7,f8,f9,f0⟩=>?_)
  ·subst e
   have i4:i<=3:=by omega
   walk_at "w"
   refine aGz rfl ?_
   walk_at "w"
   refine⟨p,_,rfl,f7,by decide,by decide,fun u1 J1 v1 w1 q1 t1 _=>?_⟩
   have g1:0<=y*u1/\y*u1<=100000000000:=aHt y0 y1 v1 w1 (by decide)
   have l8q:l8≠p:=f7.aLF f1
   have d1:=t1 _ _ f1 l8q
   have d2:=f2.keep f7.aDx t1
   have d3:=t1 _ _ f9 bp
   have d4:=t1 _ _ f0 l6p
   walk_at "w"
   refine jP (bQ.of d1) ?_
   walk_at "w"
   refine⟨p,_,rfl,q1,by decide,by decide,fun u2 J2 v2 w2 q2 t2 _=>?_⟩
   have g2:x<=x*(1+u2)/\x*(1+u2)<=150000000000:=aLG x0 x1 v2 w2 (by decide)
   have dd1:=t2 _ _ d1 l8q
   have dd2:=d2.keep q1.aDx t2
   have dd3:=t2 _ _ d3 bp
   have dd4:=t2 _ _ d4 l6p
   walk_at "w"
   intro T nT
   walk_at "w"
   refine mZ (xs:=qs.map V.ref) (aJ.new nT _ _ dd1) (Nat.lt_of_lt_of_le (by rw[List.length_map,f2.len];omega:(qs.map V.ref).length < 1000) (cC (by simp))) ?_
   walk_at "w"
   have hT8:T≠l8:=Ne.symm (bA nT dd1)
   have kz:bZ l8 J2 (upd (upd J2 T (.tup [.int (x*(1+u2)),.int (rate+y*u1)])) l8 (.lst (qs.map V.ref ++ [.ref T]))):=(aJ.new nT).keep.trans bZ.upd
   refine⟨qs ++ [T],ps ++ [(x*(1+u2),rate+y*u1)],_,_,rfl,?_,dd2.snoc dd1 kz (by rw[aL hT8,aH]),by rw[List.length_append,f3];rfl,f4.snoc (rtB f5 f6 g1 i4).1 (xB x0 g2).1 (xB x0 g2).2 (rtB f5 f6 g1 i4).2.1,(rtB f5 f6 g1 i4).2.2.1,(rtB f5 f6 g1 i4).2.2.2,?_,fun c o hc hcp=>?_,?_,?_⟩
   ·rw[aH,List.map_append];rfl
   ·obtain⟨dd,cc,q,ms,hp,hq,hne,hqp⟩:=q2.ex
    refine⟨⟨dd,cc,q,ms,kz _ _ hp (Ne.symm l8q),kz _ _ hq (fun z=>?_),hne,hqp⟩⟩
    rw[z,dd1] at hq
    cases qs with
    |nil=>cases ms with
     |nil=>exact hne rfl
     |cons _ _=>cases hq
    |cons _ _=>cases ms with
     |nil=>exact hne rfl
     |cons _ _=>cases hq
   ·exact kz _ _ (t2 _ _ (t1 _ _ (f8 _ _ hc hcp) hcp) hcp) (bA n8H hc)
   ·exact kz _ _ dd3 (fun z=>by rw[z,dd1] at dd3;cases qs with
     |nil=>cases dd3
     |cons _ _=>cases dd3)
   ·exact kz _ _ dd4 (fun z=>by rw[z,dd1] at dd4;cases qs with
     |nil=>cases dd4
     |cons _ _=>cases dd4)
  ·subst e
   walk_at "w"
   intro s ns
   walk_at "w"
   have hr9:r9.toNat<=4:=by omega
   refine k s ⟨1+r1,1+r2,y*r3,y*r4,y*r5,x*r7,ps⟩ _ ⟨l8,aH,qs,aJ.new ns _ _ f1,f2.same (aJ.new ns)⟩ ⟨(up1 a1 c1 n1).1,(up1 a2 c2 n1).1,amB g3,amB g4,amB g5,amB g7,⟨by show ps.length<=4;omega,f4.pc,f4.up⟩⟩ (up1 a1 c1 n1).2 (up1 a2 c2 n1).2 (f7.same (aJ.new ns)) (f8.trans (aJ.new ns).keep) (aAa f8 f7 ns)
def xR(K:W.Frag)(C:Addr):Sp:=fun vs H Q _=>∃(s:Addr) (m:MS),vs=[.ref s]/\cJ H s m/\m.Good/\∀x H',bX C H' x m->aJ H H'->H x=none->Q (.ref x) H'
theorem xS{P:Program}{w:World}{K:PySem.W.Frag}{mg:Str->Option Value}{base:Heap}{a:nA}(tx:Txt K mg a):bR P w K mg base iV 7 a.g0 a.hE ["_law_spec_here"] (xR K a.bB):=by
 have aAb:=xQ (P:=P) (w:=w) (base:=base) tx
 refine tx.kU.ok xO (fun vs H Q E h=>?_) (fun cdv A outer s H vs Q E hr h=>?_)
 ·obtain⟨s,m,rfl,_⟩:=h
  rfl
 ·obtain⟨s,m,rfl ,hs,hg,k⟩:=h
  have hu:=nM hr
  refine Z.root (Z.aG (Z.aS (Z.y7 tx.aBq (aAb) (hr.mono (by decide)) (by rfl) tx.aBp tx.qH .nil aQ (Z.aD (Z.aK (K':=K) (Z.pv 0) Z.aA (fun _ _=>rfl)) (Z.aD (Z.aK (K':=K) (Z.pv 0) Z.aA (fun _ _=>rfl)) (Z.aD (Z.aK (K':=K) (Z.pv 0) Z.aA (fun _ _=>rfl)) (Z.aD (Z.aK (K':=K) (Z.pv 0) Z.aA (fun _ _=>rfl)) (Z.aD (Z.aK (K':=K) (Z.pv 0) Z.aA (fun _ _=>rfl)) (Z.aD (Z.aK (K':=K) (Z.pv 0) Z.aA (fun _ _=>rfl)) (Z.aD (Z.iK (rc:=uQ K) tK (by rfl) tx.iT lN (Z.aD (Z.aK (K':=K) (Z.pv 0) Z.aA (fun _ _=>rfl)) Z.aB)) Z.aB)))))))))) ?_
  obtain⟨pl,h1,h2⟩:=hs.ex
  obtain⟨qs,h3,h4⟩:=h2.ex
  refine aR (σ:=[some (.ref s)]) rfl ?_
  walk_at "w"
  refine y6 (bQ.of h3) ?_
  intro l n
  walk_at "w"
  intro x dx nx nd hd
  have sx:aJ H (upd (upd (upd H l (.lst (qs.map V.ref))) dx (.own x)) x (.ins a.bB dx [])):=fun b o e=>by
   have e1:=aJ.new (o:=.lst (qs.map V.ref)) n _ _ e
   rw[aL (bA nx e1),aL (bA nd e1)]
   exact e1
  have lx:l≠x:=bA nx aH
  have ld:l≠dx:=bA nd aH
  refine⟨x,dx,l,m,rfl,aH,⟨qs,by rw[aL lx,aL ld,aH],h4.same sx⟩,hg,fun H' hM kx=>⟨rfl,?_⟩⟩
  have nxH:H x=none:=(aJ.new n).free nx
  exact k x H' hM (fun b o e=>kx _ _ (sx _ _ e) (bA nxH e)) nxH
theorem bF.aKN{H:Hp}{p c:Addr}(hh:bF H p)(n:H c=none):c≠p:=fun z=>by
 obtain⟨xs,e⟩:=hh.isL
 exact bA n e z.symm
def xT(H:Hp):Nat->V->V->Prop
 |0,_,_=>False
 |j+1,x,y=>(∃i,x=.int i/\y=.int i)\/(∃b,x=.bl b/\y=.bl b)\/(x=.non/\y=.non)\/(∃s,x=.str s/\y=.str s)\/
  ∃(p q:Addr) (xs ys:List V),x=.ref p/\y=.ref q/\((H p=some (.tup xs)/\H q=some (.tup ys))\/(H p=some (.lst xs)/\H q=some (.lst ys)))/\xs.length=ys.length/\ys.length<=1000000/\∀(i:Nat) u v,xs[i]?=some u->ys[i]?=some v->xT H j u v
theorem xT.same{H H':Hp}(s:aJ H H'):∀{j:Nat}{x y:V},xT H j x y->xT H' j x y
 |0,_,_,h=>h
 |j+1,x,y,h=>by
  rcases h with h|h|h|h|⟨p,q,xs,ys,e1,e2,e3,e4,e5,e6⟩
  ·exact .inl h
  ·exact .inr (.inl h)
  ·exact .inr (.inr (.inl h))
  ·exact .inr (.inr (.inr (.inl h)))
  ·refine .inr (.inr (.inr (.inr ⟨p,q,xs,ys,e1,e2,?_,e4,e5,fun i u v hu hv=>xT.same s (e6 i u v hu hv)⟩)))
   rcases e3 with ⟨a,b⟩|⟨a,b⟩
   ·exact .inl ⟨s _ _ a,s _ _ b⟩
   ·exact .inr ⟨s _ _ a,s _ _ b⟩
theorem xT.int{H:Hp}{j:Nat}(i:Int):xT H (j+1) (.int i) (.int i):=.inl ⟨i,rfl,rfl⟩
theorem xT.pair{H:Hp}{j:Nat}{p q:Addr}{x y:Int}(h1:H p=some (.tup [.int x,.int y]))(h2:H q=some (.tup [.int x,.int y])):xT H (j+2) (.ref p) (.ref q):=by
 refine .inr (.inr (.inr (.inr ⟨p,q,_,_,rfl,rfl,.inl ⟨h1,h2⟩,rfl,by simp,fun i u v hu hv=>?_⟩)))
 rw[hu] at hv
 cases hv
 match i,hu with
 |0,hu=>cases hu;exact xT.int x
 |1,hu=>cases hu;exact xT.int y
 |_+2,hu=>simp at hu
def vG(K:W.Frag)(j:Nat):Sp:=fun vs H Q _=>∃(x y:V),vs=[x,y]/\xT H j x y/\∀H',aJ H H'->Q (.bl true) H'
theorem rK{K:W.Frag}{vs:List V}{H:Hp}{Q:VK}{E:XK}(h:vG K 0 vs H Q E):False:=by
 obtain⟨_,_,_,h,_⟩:=h
 exact h
theorem vH{P:Program}{w:World}{K:PySem.W.Frag}{mg:Str->Option Value}{base:Heap}{a:nA}(tx:Txt K mg a):(j:Nat)->bR P w K mg base iV (j+1) a.lX a.lY ["_law_one","_law_due"] (vG K j)
 |0=>⟨fun vs H Q E h=>(rK h).elim,fun A outer s H args us vs Q E _ _ _ _ h=>(rK h).elim⟩
 |j+1=>by
  have rL:=vH (P:=P) (w:=w) (base:=base) tx j
  refine tx.mO.ok aB2 (fun vs H Q E h=>?_) (fun cdv A outer s H vs Q E hr h=>?_)
  ·obtain⟨x,y,rfl,_⟩:=h
   rfl
  ·obtain⟨x,y,rfl ,hs,k⟩:=h
   have hu:=nM hr
   refine Z.root (Z.aC (Z.cN (Z.fV (Z.aI (rc:=aGL K) aFC (by rfl) tx.aX bD (Z.aD (Z.pv 1) (Z.aD (Z.oJ (Z.cB (v:=.ty "list") (by rfl) tx.iT lN rfl) (Z.cB (v:=.ty "tuple") (by rfl) tx.kM uP rfl)) Z.aB)))) (Z.aC (Z.cN (Z.aBc (Z.aA0 (Z.bP (r:=aFx K) (aDT hu) (Z.aI (rc:=pP K) bU (by rfl) tx.aX bD (Z.aD (Z.pv 0) (Z.aD (Z.cB (v:=.ty "list") (by rfl) tx.iT lN rfl) Z.aB))) (Z.aI (rc:=pP K) bU (by rfl) tx.aX bD (Z.aD (Z.pv 1) (Z.aD (Z.cB (v:=.ty "list") (by rfl) tx.iT lN rfl) Z.aB))) (bN _)) (Z.vW (Z.bP (r:=aFx K) (aDT hu) (Z.aI (rc:=pP K) bU (by rfl) tx.aX bD (Z.aD (Z.pv 0) (Z.aD (Z.cB (v:=.ty "tuple") (by rfl) tx.kM uP rfl) Z.aB))) (Z.aI (rc:=pP K) bU (by rfl) tx.aX bD (Z.aD (Z.pv 1) (Z.aD (Z.cB (v:=.ty "tuple") (by rfl) tx.kM uP rfl) Z.aB))) (bN _))))) (Z.aG (Z.aS Z.wL)) Z.bI)
    (Z.aG (Z.aS (Z.iI (Z.gB (r:=nP K) (eR hu) (Z.aI (rc:=nQ K) bT (by rfl) tx.fT eQ (Z.aD (Z.pv 0) Z.aB)) (Z.aI (rc:=nQ K) bT (by rfl) tx.fT eQ (Z.aD (Z.pv 1) Z.aB)) (bN _)) (Z.jO (Z.aI (rc:=aGK K) (wA rfl) (by rfl) tx.w6 aDS (Z.aD (Z.fE (k:=1) (idx:=[1,0]) (N:=["_law_k","_law_due","_law_one"]) (fW (sc:=aE eU) (NX:=["_law_one","_law_due"]) rfl rfl rfl (by decide +kernel)) rfl (Z.cO (by rfl) tx.dF (Z.aD (Z.aI (rc:=nQ K) bT (by rfl) tx.fT eQ (Z.aD (Z.pv 1) Z.aB)) Z.aB)) (fun _ _ _ _=>(Z.aP (i:=0) (show(["_law_k","_law_due","_law_one"]:List Str).Nodup by decide +kernel) rfl (Or.inl rfl))) (kQ (by decide)) (fun _ _ _ _=>Z.iW) (fun _ _ _ _=>(Z.aF (rL) (hr.mono (by omega)) (by rfl) tx.qN tx.mO.kp tx.qM .nil aQ (Z.aD (Z.aK (K':=K) (Z.pv 2) (Z.pv 0) (fun _ _=>rfl)) (Z.aD (Z.aK (K':=K) (Z.pv 1) (Z.pv 0) (fun _ _=>rfl)) Z.aB))))) Z.aB))))))) Z.bI)
    (Z.aC (Z.cN (Z.aBc (Z.aA0 (Z.fV (Z.aI (rc:=pP K) bU (by rfl) tx.aX bD (Z.aD (Z.pv 0) (Z.aD (Z.cB (v:=.ty "bool") (by rfl) tx.nH uO rfl) Z.aB)))) (Z.vW (Z.fV (Z.aI (rc:=pP K) bU (by rfl) tx.aX bD (Z.aD (Z.pv 1) (Z.aD (Z.cB (v:=.ty "bool") (by rfl) tx.nH uO rfl) Z.aB))))))) (Z.aG (Z.aS (Z.iI (Z.aI (rc:=pP K) bU (by rfl) tx.aX bD (Z.aD (Z.pv 0) (Z.aD (Z.cB (v:=.ty "bool") (by rfl) tx.nH uO rfl) Z.aB))) (Z.iI (Z.aI (rc:=pP K) bU (by rfl) tx.aX bD (Z.aD (Z.pv 1) (Z.aD (Z.cB (v:=.ty "bool") (by rfl) tx.nH uO rfl) Z.aB))) (Z.jO (Z.gB (r:=nP K) (eR hu) (Z.pv 0) (Z.pv 1) (bN _))))))) Z.bI)
    (Z.aC (Z.cN (Z.fV (Z.aI (rc:=pP K) bU (by rfl) tx.aX bD (Z.aD (Z.pv 1) (Z.aD (Z.cB (v:=.ty "int") (by rfl) tx.w9 aDR rfl) Z.aB)))) (Z.aG (Z.aS (Z.iI (Z.aI (rc:=pP K) bU (by rfl) tx.aX bD (Z.aD (Z.pv 0) (Z.aD (Z.cB (v:=.ty "int") (by rfl) tx.w9 aDR rfl) Z.aB))) (Z.jO (Z.gB (r:=nP K) (eR hu) (Z.pv 0) (Z.pv 1) (bN _)))))) Z.bI)
    (Z.aC (Z.cN (Z.fV (Z.aI (rc:=pP K) bU (by rfl) tx.aX bD (Z.aD (Z.pv 1) (Z.aD (Z.cB (v:=.ty "str") (by rfl) tx.zY aGt rfl) Z.aB)))) (Z.aG (Z.aS (Z.iI (Z.aI (rc:=pP K) bU (by rfl) tx.aX bD (Z.aD (Z.pv 0) (Z.aD (Z.cB (v:=.ty "str") (by rfl) tx.zY aGt rfl) Z.aB))) (Z.jO (Z.gB (r:=nP K) (eR hu) (Z.pv 0) (Z.pv 1) (bN _)))))) Z.bI)
    (Z.aG (Z.aS (Z.iI (Z.gB aGN (Z.pv 0) Z.mV (bN _)) (Z.jO (Z.gB aGN (Z.pv 1) Z.mV (bN _)))))))))) ?_
   refine aR (σ:=[some x,some y]) rfl ?_
   repeat walk_at "gs"
   intro T nT
   repeat walk_at "gs"
   rcases hs with ⟨i,rfl,rfl⟩|⟨b,rfl,rfl⟩|⟨rfl,rfl⟩|⟨z,rfl,rfl⟩|⟨p,q,xs,ys,rfl,rfl,e3,e4,e5,e6⟩
   ·refine rW (Ts:=["list","tuple"]) aH (.int i) rfl ?_
    repeat walk_at "gs"
    refine bW (fZ (.int i)) ?_
    repeat walk_at "gs"
    refine bW (fZ (.int i)) ?_
    repeat walk_at "gs"
    refine bW (vE (.int i)) ?_
    repeat walk_at "gs"
    refine bW (vE (.int i)) ?_
    repeat walk_at "gs"
    rw[decide_eq_true rfl]
    exact k _ (aJ.new nT)
   ·refine rW (Ts:=["list","tuple"]) aH (.bl b) rfl ?_
    repeat walk_at "gs"
    refine bW (fZ (.bl b)) ?_
    repeat walk_at "gs"
    refine bW (fZ (.bl b)) ?_
    repeat walk_at "gs"
    refine bW (fZ (.bl b)) ?_
    repeat walk_at "gs"
    rw[show eqV (.bl b) (.bl b)=true by cases b <;> rfl]
    exact k _ (aJ.new nT)
   ·refine rW (Ts:=["list","tuple"]) aH .non rfl ?_
    repeat walk_at "gs"
    refine bW (fZ .non) ?_
    repeat walk_at "gs"
    refine bW (fZ .non) ?_
    repeat walk_at "gs"
    refine bW (vE .non) ?_
    repeat walk_at "gs"
    refine bW (aB6 .non) ?_
    repeat walk_at "gs"
    exact k _ (aJ.new nT)
   ·refine rW (Ts:=["list","tuple"]) aH (.str z) rfl ?_
    repeat walk_at "gs"
    refine bW (fZ (.str z)) ?_
    repeat walk_at "gs"
    refine bW (fZ (.str z)) ?_
    repeat walk_at "gs"
    refine bW (vE (.str z)) ?_
    repeat walk_at "gs"
    refine bW (aB6 (.str z)) ?_
    repeat walk_at "gs"
    refine bW (aB6 (.str z)) ?_
    repeat walk_at "gs"
    rw[show eqV (.str z) (.str z)=true from beq_self_eq_true z]
    exact k _ (aJ.new nT)
   ·have sT:=aJ.new (o:=.tup [.ty "list",.ty "tuple"]) nT
    have hb:∃L:List V->Bool,True:=⟨fun _=>true,trivial⟩
    rcases e3 with ⟨a1,a2⟩|⟨a1,a2⟩
    ·have c1:=sT _ _ a1
     have c2:=sT _ _ a2
     generalize hH1:upd H T (.tup [.ty "list",.ty "tuple"])=H1 at c1 c2 sT ⊢
     have eT:H1 T=some (.tup [.ty "list",.ty "tuple"]):=by rw[<-hH1];exact aH
     refine rW (Ts:=["list","tuple"]) eT (.tup c2) rfl ?_
     repeat walk_at "gs"
     refine bW (rH (.tup c1)) ?_
     repeat walk_at "gs"
     refine bW (rH (.tup c2)) ?_
     repeat walk_at "gs"
     refine bW (oB (.tup c1)) ?_
     repeat walk_at "gs"
     refine bW (oB (.tup c2)) ?_
     repeat walk_at "gs"
     refine cV (fun _=>?_) (fun h=>absurd (by rw[e4]) h)
     repeat walk_at "gs"
     refine⟨by omega,by omega,?_⟩
     refine tH (fun i zs H'=>aJ H1 H'/\zs.length=i/\∀z∈zs,z=.bl true) ⟨aJ.refl _,rfl,fun z h=>by simp at h⟩ (cC (by omega)) (fun i zs H' hi ⟨_,h,_⟩=>by omega) (fun i zs H' hi ⟨s1,h1,h2⟩=>?_) (fun zs H' ⟨s1,h1,h2⟩=>?_)
     ·have hi2:i < ys.length:=by omega
      have hi1:i < xs.length:=by omega
      have g1:pO xs (0+(i:Int))=some xs[i]:=by rw[Int.zero_add];exact cU (List.getElem?_eq_getElem hi1)
      have g2:pO ys (0+(i:Int))=some ys[i]:=by rw[Int.zero_add];exact cU (List.getElem?_eq_getElem hi2)
      have d1:=s1 _ _ c1
      have d2:=s1 _ _ c2
      repeat walk_at "gs"
      refine⟨_,_,rfl,xT.same (sT.trans s1) (e6 i _ _ (List.getElem?_eq_getElem hi1) (List.getElem?_eq_getElem hi2)),fun H2 s2=>?_⟩
      refine⟨s1.trans s2,by rw[List.length_append,h1];rfl,fun z hz=>?_⟩
      rcases List.mem_append.mp hz with h|h
      ·exact h2 z h
      ·exact List.mem_singleton.mp h
     ·intro L nL
      repeat walk_at "gs"
      refine yJ (bQ.of aH) h2 ?_
      exact k _ ((sT.trans s1).trans (aJ.new nL))
    ·have c1:=sT _ _ a1
     have c2:=sT _ _ a2
     generalize hH1:upd H T (.tup [.ty "list",.ty "tuple"])=H1 at c1 c2 sT ⊢
     have eT:H1 T=some (.tup [.ty "list",.ty "tuple"]):=by rw[<-hH1];exact aH
     refine rW (Ts:=["list","tuple"]) eT (.lst c2) rfl ?_
     repeat walk_at "gs"
     refine bW (rH (.lst c1)) ?_
     repeat walk_at "gs"
     refine bW (rH (.lst c2)) ?_
     repeat walk_at "gs"
     refine bW (oB (.lst c1)) ?_
     repeat walk_at "gs"
     refine bW (oB (.lst c2)) ?_
     repeat walk_at "gs"
     refine cV (fun _=>?_) (fun h=>absurd (by rw[e4]) h)
     repeat walk_at "gs"
     refine⟨by omega,by omega,?_⟩
     refine tH (fun i zs H'=>aJ H1 H'/\zs.length=i/\∀z∈zs,z=.bl true) ⟨aJ.refl _,rfl,fun z h=>by simp at h⟩ (cC (by omega)) (fun i zs H' hi ⟨_,h,_⟩=>by omega) (fun i zs H' hi ⟨s1,h1,h2⟩=>?_) (fun zs H' ⟨s1,h1,h2⟩=>?_)
     ·have hi2:i < ys.length:=by omega
      have hi1:i < xs.length:=by omega
      have g1:pO xs (0+(i:Int))=some xs[i]:=by rw[Int.zero_add];exact cU (List.getElem?_eq_getElem hi1)
      have g2:pO ys (0+(i:Int))=some ys[i]:=by rw[Int.zero_add];exact cU (List.getElem?_eq_getElem hi2)
      have d1:=s1 _ _ c1
      have d2:=s1 _ _ c2
      repeat walk_at "gs"
      refine⟨_,_,rfl,xT.same (sT.trans s1) (e6 i _ _ (List.getElem?_eq_getElem hi1) (List.getElem?_eq_getElem hi2)),fun H2 s2=>?_⟩
      refine⟨s1.trans s2,by rw[List.length_append,h1];rfl,fun z hz=>?_⟩
      rcases List.mem_append.mp hz with h|h
      ·exact h2 z h
      ·exact List.mem_singleton.mp h
     ·intro L nL
      repeat walk_at "gs"
      refine yJ (bQ.of aH) h2 ?_
      exact k _ ((sT.trans s1).trans (aJ.new nL))
def aLH:List (Int×Int)->Int
 |[]=>0
 |t::ps=>t.1+aLH ps
def gn(p:Int):List (Int×Int)->Int
 |[]=>0
 |t::ps=>t.1*max (p - t.2) 0+gn p ps
def Up:List (Int×Int)->Prop
 |[]=>True
 |t::ps=>1<=t.1/\(∀u∈ps,t.2<=u.2)/\Up ps
theorem aJe{p:Int}:∀{ps:List (Int×Int)},Up ps->0<=gn p ps
 |[],_=>Int.le_refl _
 |t::ps,h=>by
  have:=aJe (p:=p) h.2.2
  have h1:0<=t.1*max (p - t.2) 0:=Int.mul_nonneg (by have:=h.1;omega) (by omega)
  show 0<=t.1*max (p - t.2) 0+gn p ps
  omega
theorem aJf:∀{ps:List (Int×Int)},(∀t∈ps,1<=t.1)->(∀(j:Nat) t u,ps[j]?=some t->ps[j+1]?=some u->t.2<=u.2)->Up ps
 |[],_,_=>trivial
 |t::ps,h1,h2=>by
  have hu:Up ps:=aJf (fun u hu=>h1 u (List.mem_cons_of_mem _ hu)) (fun j t u a b=>h2 (j+1) t u a b)
  refine⟨h1 t (List.mem_cons_self ..),?_,hu⟩
  cases ps with
  |nil=>intro u hu;cases hu
  |cons v ps=>
   have hv:t.2<=v.2:=h2 0 t v rfl rfl
   intro u hm
   rcases List.mem_cons.mp hm with rfl|hm
   ·exact hv
   ·exact Int.le_trans hv (hu.2.1 u hm)
theorem aCa.up'{ps:List (Int×Int)}(h:aCa ps):Up ps:=aJf (fun t ht=>(h.pc t ht).1) h.up
theorem aHu{p:Int}:∀(a:List (Int×Int)) (t:Int×Int),gn p (a ++ [t])=gn p a+t.1*max (p - t.2) 0
 |[],t=>by show t.1*max (p - t.2) 0+0=0+t.1*max (p - t.2) 0;omega
 |u::a,t=>by
  show u.1*max (p - u.2) 0+gn p (a ++ [t])=u.1*max (p - u.2) 0+gn p a+t.1*max (p - t.2) 0
  rw[aHu a t];omega
theorem aHv{p:Int}:∀(ps:List (Int×Int)),List.sum (ps.filterMap fun t=>some (max 0 (p - t.2)*t.1))=gn p ps
 |[]=>rfl
 |t::ps=>by
  rw[List.filterMap_cons]
  show List.sum (max 0 (p - t.2)*t.1::_)=t.1*max (p - t.2) 0+gn p ps
  rw[List.sum_cons,aHv ps,Int.mul_comm,show max 0 (p - t.2)=max (p - t.2) 0 by omega]
theorem aHw{K:W.Frag}{H:Hp}{pl:Addr}{qs:List Addr}{ps:List (Int×Int)}{σ₀:St}{g:TG}{tt:TT}{te:TE}{R:List V->Hp->Prop}(f:Int×Int->Option Int)(h1:H pl=some (.lst (qs.map V.ref)))(h2:rJ H qs ps)(hz:ps.length<=4)
  (hs:∀q t (N:V->Hp->Prop) (N':Hp->Prop),t∈ps->H q=some (.tup [.int t.1,.int t.2])->(∀y,f t=some y->N (.int y) H)->(f t=none->N' H)->g (.ref q) σ₀ H fun σ2 H2=>tt σ2 H2 fun b H3=>if b=true then te σ2 H3 fun y H4=>N y H4 else N' H3)
  (hd:R ((ps.filterMap f).map V.int) H):oI (Itl K pl) σ₀ g tt te R H:=by
 have hql:qs.length<=4:=by rw[h2.len];exact hz
 refine gK (xs:=qs.map V.ref) (fun i ys H'=>H'=H/\ys=((ps.take i).filterMap f).map V.int) ⟨rfl,by simp⟩ (cC (by rw[List.length_map];omega)) (fun i ys H' hi ⟨e1,e2⟩=>?_) (fun i x ys H' hx ⟨e1,e2⟩=>?_) (fun ys H' ⟨e1,e2⟩=>?_)
 ·subst e1 e2
  refine⟨bQ.of h1,?_⟩
  rw[List.length_map]
  exact Nat.le_trans (List.length_filterMap_le ..) (by rw[List.length_take];omega)
 ·subst e1 e2
  rw[List.getElem?_map] at hx
  cases hq:qs[i]? with
  |none=>rw[hq] at hx;cases hx
  |some q=>
   rw[hq] at hx
   cases hx
   have li:i < ps.length:=by rw[<-h2.len];exact(List.getElem?_eq_some_iff.mp hq).1
   have ht:ps[i]?=some ps[i]:=List.getElem?_eq_getElem li
   have e:=h2.at_ i q _ hq ht
   have hm:=List.getElem_mem li
   generalize ps[i]=t at ht e hm
   refine hs q t (fun y H4=>H4=H'/\((ps.take i).filterMap f).map V.int ++ [y]=((ps.take (i+1)).filterMap f).map V.int) (fun H3=>H3=H'/\((ps.take i).filterMap f).map V.int=((ps.take (i+1)).filterMap f).map V.int) hm e (fun y hy=>⟨rfl,?_⟩) (fun hy=>⟨rfl,?_⟩)
   ·rw[List.take_add_one,ht,List.filterMap_append,List.map_append]
    simp[hy]
   ·rw[List.take_add_one,ht,List.filterMap_append,List.map_append]
    simp[hy]
 ·subst e1 e2
  rw[List.length_map,h2.len,List.take_length]
  exact hd
def xU(K:W.Frag)(C:Addr):Sp:=fun vs H Q _=>∃(x:Addr) (m:MS) (pr:Int),vs=[.ref x,.int pr]/\bX C H x m/\m.Good/\0<=pr/\pr<=1000000000001/\Q (.int (pr*m.least+gn pr m.pieces)) H
theorem xV{P:Program}{w:World}{K:PySem.W.Frag}{mg:Str->Option Value}{base:Heap}{a:nA}(tx:Txt K mg a):bR P w K mg base iV 1 a.hU a.hV ["self","price"] (xU K a.bB):=by
 refine tx.qO.ok eB (fun vs H Q E h=>?_) (fun cdv A outer s H vs Q E hr h=>?_)
 ·obtain⟨x,m,pr,rfl,_⟩:=h
  rfl
 ·obtain⟨x,m,pr,rfl ,hm,hg,p0,p1,k⟩:=h
  have hu:=nM hr
  refine Z.root (Z.aC (Z.aM (i:=2) eB.nd rfl (Or.inl rfl) (Z.aN bS (Z.pv 1) (Z.oK (K':=K) (Z.pv 0) rfl)))
   (Z.aC (Z.cE PassesOwn.never rfl (Z.cP (K':=K) (Z.oK (K':=K) (Z.pv 0) rfl)) (Z.iY (K':=K) (n:=2) rfl (Z.bH (Z.aP (i:=3) eB.nd rfl (Or.inl rfl)) (Z.bH (Z.aP (i:=4) eB.nd rfl (Or.inl rfl)) Z.fD))) (Z.aG (Z.aBE (i:=2) eB.nd rfl (Or.inl rfl) (Z.aN bS (Z.pv 3) (Z.aI (iJ rfl) (by rfl) tx.pI tI (Z.aD (Z.aN gG (Z.pv 1) (Z.pv 4)) (Z.aD Z.aA Z.aB)))) aDB)))
   (Z.aG (Z.aS (Z.pv 2))))) ?_
  obtain⟨dx,pl,hx,hp⟩:=hm.ex
  obtain⟨qs,h1,h2⟩:=hp.ex
  refine aR (σ:=[some (.ref x),some (.int pr),none,none,none]) rfl ?_
  walk_at "w"
  refine tN hx tx.bV tx.jT rfl ?_
  walk_at "w"
  refine tN hx tx.bV tx.iS rfl ?_
  refine kR (bQ.of h1) ?_
  refine rV (xs:=qs.map V.ref) (fun i σ' H'=>H'=H/\∃y z,σ'=[some (.ref x),some (.int pr),some (.int (pr*m.least+gn pr (m.pieces.take i))),y,z]) ⟨rfl,_,_,by rw[show gn pr (m.pieces.take 0)=0 by simp[gn],Int.add_zero]⟩ (fun i σ' H' hi ⟨e1,y,z,e⟩=>by subst e1;exact bQ.of h1) (fun i v σ' H' hv ⟨e1,y,z,e⟩=>?_) (fun σ' H' ⟨e1,y,z,e⟩=>?_)
  ·subst e1 e
   rw[List.getElem?_map] at hv
   cases hq:qs[i]? with
   |none=>rw[hq] at hv;cases hv
   |some q=>
    rw[hq] at hv
    cases hv
    have li:i < m.pieces.length:=by rw[<-h2.len];exact(List.getElem?_eq_some_iff.mp hq).1
    have ht:m.pieces[i]?=some m.pieces[i]:=List.getElem?_eq_getElem li
    have e:=h2.at_ i q _ hq ht
    obtain⟨z1,⟨z2,z3⟩,z4,z5⟩:=hg.pieces.pc _ (List.getElem_mem li)
    generalize m.pieces[i]=t at ht e z1 z2 z3 z4 z5
    refine iX (lJ.of e) rfl ?_
    walk_at "w"
    refine aGz rfl ?_
    walk_at "w"
    refine⟨rfl,some (.int t.1),some (.int t.2),?_⟩
    rw[List.take_add_one,ht]
    show _=[some (V.ref x),some (V.int pr),some (V.int (pr*m.least+gn pr (m.pieces.take i ++ [t]))),_,_]
    rw[aHu,Int.add_assoc]
    rfl
  ·subst e1 e
   walk_at "w"
   rw[List.length_map,h2.len,List.take_length]
   exact k
def aCf(K:W.Frag):Sp:=fun vs H Q _=>∃(s:Addr) (m:MS) (pr:Int),vs=[.ref s,.int pr]/\cJ H s m/\m.Good/\0<=pr/\pr<=1000000000001/\∀H',aJ H H'->Q (.int (pr*m.least+gn pr m.pieces)) H'
theorem vI{P:Program}{w:World}{K:PySem.W.Frag}{mg:Str->Option Value}{base:Heap}{a:nA}(tx:Txt K mg a):bR P w K mg base iV 1 a.lZ a.mB ["_law_spec_here","_law_price_here"] (aCf K):=by
 refine tx.jN.ok aB3 (fun vs H Q E h=>?_) (fun cdv A outer s H vs Q E hr h=>?_)
 ·obtain⟨s,m,pr,rfl,_⟩:=h
  rfl
 ·obtain⟨s,m,pr,rfl ,hs,hg,p0,p1,k⟩:=h
  have hu:=nM hr
  refine Z.root (Z.aG (Z.aS (Z.aN bL (Z.aN bS (Z.pv 1) (Z.aK (K':=K) (Z.pv 0) Z.aA (fun _ _=>rfl))) (Z.aI (rc:=aKv K) (aFD rfl) (by rfl) tx.aBt aJY (Z.aD (Z.fE (k:=2) (idx:=[1]) (N:=["_law_amount","_law_rate","_law_price_here"]) (fW (sc:=aE eV) (NX:=["_law_spec_here","_law_price_here"]) rfl rfl rfl (by decide +kernel)) rfl (Z.cP (K':=K) (Z.aK (K':=K) (Z.pv 0) Z.aA (fun _ _=>rfl))) (fun _ _ _ _=>(Z.iY (K':=K) (n:=2) rfl (Z.bH (Z.aP (i:=0) (show(["_law_amount","_law_rate","_law_price_here"]:List Str).Nodup by decide +kernel) rfl (Or.inl rfl)) (Z.bH (Z.aP (i:=1) (show(["_law_amount","_law_rate","_law_price_here"]:List Str).Nodup by decide +kernel) rfl (Or.inl rfl)) Z.fD)))) (uN (cW (by decide) (cW (by decide) qB))) (fun _ _ _ _=>Z.iW) (fun _ _ _ _=>(Z.aN bS (Z.aI (iJ rfl) (by rfl) tx.pI tI (Z.aD Z.aA (Z.aD (Z.aN gG (Z.pv 2) (Z.pv 1)) Z.aB))) (Z.pv 0)))) Z.aB))))) ?_
  obtain⟨pl,hx,hp⟩:=hs.ex
  obtain⟨qs,h1,h2⟩:=hp.ex
  refine aR (σ:=[some (.ref s),some (.int pr)]) rfl ?_
  walk_at "w"
  refine kR (bQ.of h1) ?_
  refine aHw (fun t=>some (max 0 (pr - t.2)*t.1)) h1 h2 hg.pieces.len (fun q t N N' hm hq hN hN'=>?_) ?_
  ·obtain⟨z1,⟨z2,z3⟩,z4,z5⟩:=hg.pieces.pc _ hm
   refine iX (lJ.of hq) rfl ?_
   walk_at "w"
   exact hN _ rfl
  intro l1 n1
  walk_at "w"
  refine aKw (bQ.of aH) ?_
  rw[aHv]
  walk_at "w"
  exact k _ (aJ.new n1)
def aFQ(K:W.Frag):Sp:=fun vs H Q _=>∃(v:V) (t:Addr) (o d on:Int),vs=[v,.ref t,.int on]/\H t=some (.tup [.int o,.int d])/\Q (.bl (decide (o=on) || decide (d=0))) H
theorem sI{P:Program}{w:World}{K:PySem.W.Frag}{mg:Str->Option Value}{base:Heap}{a:nA}(tx:Txt K mg a):bR P w K mg base iV 1 a.uT a.uU ["machine","state","on"] (aFQ K):=by
 refine tx.nW.ok aFP (fun vs H Q E h=>?_) (fun cdv A outer s H vs Q E hr h=>?_)
 ·obtain⟨v,t,o,d,on,rfl,_⟩:=h
  rfl
 ·obtain⟨v,t,o,d,on,rfl ,ht,k⟩:=h
  have hu:=nM hr
  refine Z.root (Z.aG (Z.aS (Z.aFW (Z.gB (r:=nP K) (eR hu) (Z.aK (K':=K) (Z.pv 1) Z.aA (fun _ _=>rfl)) (Z.pv 2) (bN _)) (Z.jO (Z.gB (r:=nP K) (eR hu) (Z.aK (K':=K) (Z.pv 1) Z.aA (fun _ _=>rfl)) Z.aA (bN _)))))) ?_
  refine aR (σ:=[some v,some (.ref t),some (.int on)]) rfl ?_
  walk_at "w"
  refine cV (fun h=>?_) (fun h=>?_)
  ·rw[decide_eq_true h,Bool.true_or] at k
   exact k
  ·rw[decide_eq_false h,Bool.false_or] at k
   walk_at "w"
   exact k
def lK(m:MS)(o d on:Int):Int×Int:=if o=on then (on,max (d - 1) 0) else if on=1 then (1,m.up - 1) else (0,m.down - 1)
def aAc(K:W.Frag)(C:Addr):Sp:=fun vs H Q _=>∃(q:Addr) (m:MS) (t:Addr) (o d on:Int),vs=[.ref q,.ref t,.int on]/\bX C H q m/\H t=some (.tup [.int o,.int d])/\(o=on\/d=0)/\
 ∀T H',aJ H H'->H T=none->H' T=some (.tup [.int (lK m o d on).1,.int (lK m o d on).2])->Q (.ref T) H'
theorem lG{P:Program}{w:World}{K:PySem.W.Frag}{mg:Str->Option Value}{base:Heap}{a:nA}(tx:Txt K mg a):bR P w K mg base iV 2 a.jB a.jC ["machine","state","on"] (aAc K a.bB):=by
 have lH:=sI (P:=P) (w:=w) (base:=base) tx
 refine tx.fY.ok zR (fun vs H Q E h=>?_) (fun cdv A outer s H vs Q E hr h=>?_)
 ·obtain⟨q,m,t,o,d,on,rfl,_⟩:=h
  rfl
 ·obtain⟨q,m,t,o,d,on,rfl ,hm,ht,hmay,k⟩:=h
  have hu:=nM hr
  refine Z.root (Z.aC (Z.cN (Z.oE (Z.fV (Z.aF (lH) (hr.mono (by decide)) (by rfl) tx.qR tx.nW.kp tx.qQ .nil aQ (Z.aD (Z.pv 0) (Z.aD (Z.pv 1) (Z.aD (Z.pv 2) Z.aB)))))) (Z.aG Z.pR) Z.bI)
   (Z.aC (Z.cN (Z.bP (r:=nP K) (eR hu) (Z.aK (K':=K) (Z.pv 1) Z.aA (fun _ _=>rfl)) (Z.pv 2) (bN _)) (Z.aG (Z.aS (Z.oJ (Z.pv 2) (Z.aI (iJ rfl) (by rfl) tx.pI tI (Z.aD (Z.aN gG (Z.aK (K':=K) (Z.pv 1) Z.aA (fun _ _=>rfl)) Z.aA) (Z.aD Z.aA Z.aB)))))) Z.bI)
   (Z.aC (Z.cN (Z.bP (r:=nP K) (eR hu) (Z.pv 2) Z.aA (bN _)) (Z.aG (Z.aS (Z.oJ Z.aA (Z.aN gG (Z.oK (K':=K) (Z.pv 0) rfl) Z.aA)))) Z.bI)
   (Z.aG (Z.aS (Z.oJ Z.aA (Z.aN gG (Z.oK (K':=K) (Z.pv 0) rfl) Z.aA))))))) ?_
  obtain⟨dx,pl,hq,_⟩:=hm.ex
  refine aR (σ:=[some (.ref q),some (.ref t),some (.int on)]) rfl ?_
  walk_at "w"
  refine⟨_,_,_,_,_,rfl,ht,?_⟩
  walk_at "w"
  rw[show(decide (o=on) || decide (d=0))=true by rcases hmay with h|h <;> simp[h]]
  walk_at "w"
  unfold lK at k
  refine cV (fun h=>?_) (fun h=>?_)
  ·rw[if_pos h] at k
   walk_at "w"
   intro T nT
   walk_at "w"
   exact k _ _ (aJ.new nT) nT aH
  ·rw[if_neg h] at k
   walk_at "w"
   refine cV (fun h1=>?_) (fun h1=>?_)
   ·rw[if_pos h1] at k
    walk_at "w"
    refine tN hq tx.bV tx.pE rfl ?_
    walk_at "w"
    intro T nT
    walk_at "w"
    exact k _ _ (aJ.new nT) nT aH
   ·rw[if_neg h1] at k
    walk_at "w"
    refine tN hq tx.bV tx.lC rfl ?_
    walk_at "w"
    intro T nT
    walk_at "w"
    exact k _ _ (aJ.new nT) nT aH
def Bit(o:Int):Prop:=o=0\/o=1
theorem aEk{m:MS}(hg:m.Good){o d on:Int}(ho:Bit on):Bit (lK m o d on).1/\0<=(lK m o d on).2:=by
 obtain⟨u0,u1⟩:=hg.up
 obtain⟨d0,d1⟩:=hg.down
 unfold lK
 split
 ·exact⟨ho,by show 0<=max (d - 1) 0;omega⟩
 ·split
  ·exact⟨.inr rfl,by show 0<=m.up - 1;omega⟩
  ·exact⟨.inl rfl,by show 0<=m.down - 1;omega⟩
structure RL{α:Type}(P:Addr->α->Prop)(as:List Addr)(xs:List α):Prop where
 len:as.length=xs.length
 at_:∀(j:Nat) a x,as[j]?=some a->xs[j]?=some x->P a x
theorem RL.nil{α:Type}{P:Addr->α->Prop}:RL P [] []:=⟨rfl,fun j a x h=>by simp at h⟩
theorem RL.imp{α:Type}{P P':Addr->α->Prop}{as:List Addr}{xs:List α}(h:RL P as xs)(f:∀a x,P a x->P' a x):RL P' as xs:=⟨h.len,fun j a x h1 h2=>f a x (h.at_ j a x h1 h2)⟩
theorem RL.snoc{α:Type}{P:Addr->α->Prop}{as:List Addr}{xs:List α}(h:RL P as xs){a:Addr}{x:α}(hp:P a x):RL P (as ++ [a]) (xs ++ [x]):=by
 refine⟨by rw[List.length_append,List.length_append,h.len];rfl,fun j q u hq hu=>?_⟩
 by_cases hj:j < as.length
 ·rw[List.getElem?_append_left hj] at hq
  rw[List.getElem?_append_left (by rw[<-h.len];exact hj)] at hu
  exact h.at_ j q u hq hu
 ·have hj2:j < (as ++ [a]).length:=(List.getElem?_eq_some_iff.mp hq).1
  rw[List.length_append,List.length_singleton] at hj2
  have e:j=as.length:=by omega
  subst e
  rw[List.getElem?_append_right (Nat.le_refl _),Nat.sub_self] at hq
  rw[h.len,List.getElem?_append_right (Nat.le_refl _),Nat.sub_self] at hu
  cases hq
  cases hu
  exact hp
def aAd(o:HO):Prop:=(∃(d c:Int) (q:Addr),o=.lst [.int d,.int c,.ref q])\/∃(C dx:Addr),o=.ins C dx []
def Tr(H H':Hp):Prop:=∀b o,H b=some o->¬aAd o->H' b=some o
theorem Tr.trans{H H1 H2:Hp}(a:Tr H H1)(b:Tr H1 H2):Tr H H2:=fun c o e n=>b c o (a c o e n) n
theorem _root_.L2.aJ.tr{H H':Hp}(s:aJ H H'):Tr H H':=fun b o e _=>s b o e
theorem bF.tr{H H':Hp}{p:Addr}(hh:bF H p)(k:bZ p H H'):Tr H H':=fun b o e n=>k b o e fun z=>by
 obtain⟨d,c,q,ms,hp,_⟩:=hh.ex
 rw[z,hp] at e
 cases e
 exact n (.inl ⟨d,c,q,rfl⟩)
def Tk(H H':Hp):Prop:=∀b xs,H b=some (.tup xs)->H' b=some (.tup xs)
theorem Tk.trans{H H1 H2:Hp}(a:Tk H H1)(b:Tk H1 H2):Tk H H2:=fun c o e=>b c o (a c o e)
theorem aKO{xs:List V}:¬aAd (.tup xs):=fun z=>by rcases z with ⟨_,_,_,e⟩|⟨_,_,e⟩ <;> cases e
theorem aEm{C dx:Addr}{fs:List (Str×V)}(h:fs≠[]):¬aAd (.ins C dx fs):=fun z=>by
 rcases z with ⟨_,_,_,e⟩|⟨_,_,e⟩
 ·cases e
 ·cases e;exact h rfl
theorem aCg{xs:List V}(h:xs.length≠3):¬aAd (.lst xs):=fun z=>by
 rcases z with ⟨_,_,_,e⟩|⟨_,_,e⟩
 ·cases e;exact h rfl
 ·cases e
theorem vJ{qs:List Addr}:¬aAd (.lst (qs.map V.ref)):=fun z=>by
 rcases z with ⟨_,_,_,e⟩|⟨_,_,e⟩
 ·cases qs with
  |nil=>cases e
  |cons x xs=>cases e
 ·cases e
theorem Tr.tk{H H':Hp}(s:Tr H H'):Tk H H':=fun b xs e=>s b _ e aKO
theorem _root_.L2.aJ.tk{H H':Hp}(s:aJ H H'):Tk H H':=fun b xs e=>s b _ e
def del(l:Addr)(H:Hp):Hp:=fun b=>if b=l then none else H b
theorem aEn{l b:Addr}{H:Hp}(n:b≠l):del l H b=H b:=by unfold del;rw[if_neg n]
theorem aKP{l:Addr}{H:Hp}:aJ (del l H) H:=fun b o e=>by
 unfold del at e
 split at e
 ·cases e
 ·exact e
theorem aJg{l:Addr}{H:Hp}:del l H l=none:=by unfold del;rw[if_pos rfl]
theorem lI{l b:Addr}{H:Hp}{o:HO}(e:H b=some o)(n:b≠l):del l H b=some o:=by rw[aEn n];exact e
theorem Tr.del{l:Addr}{H H':Hp}(s:Tr H H'):Tr (del l H) (del l H'):=fun b o e n=>by
 by_cases hb:b=l
 ·subst hb;rw[aJg] at e;cases e
 ·rw[aEn hb] at e ⊢;exact s b o e n
theorem rJ.tr{H H':Hp}{qs:List Addr}{ps:List (Int×Int)}(h:rJ H qs ps)(s:Tk H H'):rJ H' qs ps:=⟨h.len,fun j q t h1 h2=>s _ _ (h.at_ j q t h1 h2)⟩
theorem sN.tr{H H':Hp}{p:Addr}{ps:List (Int×Int)}(h:sN H p ps)(s:Tr H H'):sN H' p ps:=by
 obtain⟨qs,h1,h2⟩:=h.ex
 exact⟨qs,s _ _ h1 vJ,h2.tr s.tk⟩
theorem cJ.tr{H H':Hp}{p:Addr}{m:MS}(h:cJ H p m)(s:Tr H H'):cJ H' p m:=by
 obtain⟨pl,h1,h2⟩:=h.ex
 exact⟨pl,s _ _ h1 (aCg (by simp)),h2.tr s⟩
theorem bX.tr{C:Addr}{H H':Hp}{p:Addr}{m:MS}(h:bX C H p m)(s:Tr H H'):bX C H' p m:=by
 obtain⟨dx,pl,h1,h2⟩:=h.ex
 exact⟨dx,pl,s _ _ h1 (aEm (by simp[mFs])),h2.tr s⟩
structure SS where
 cap:Int
 into:Int
 out:Int
 takes:Int
 gives:Int
structure SS.Good(s:SS):Prop where
 cap:0<=s.cap/\s.cap<=8
 into:0<=s.into/\s.into<=8
 out:0<=s.out/\s.out<=8
 takes:Am s.takes
 gives:Am s.gives
def Lv(s:SS)(l n:Int):Prop:=0<=n/\n<=s.cap/\l - s.out<=n/\n<=l+s.into
instance (s:SS) (l n:Int):Decidable (Lv s l n):=by unfold Lv;infer_instance
def dr(s:SS)(l n:Int):Int:=(if l < n then s.takes else s.gives)*(n - l)
def pw(s:SS):Int->List Int->List Int->Int
 |l,p::ps,n::ns=>p*dr s l n+pw s n ps ns
 |_,_,_=>0
def sFs(s:SS):List (Str×V):=[("cap",.int s.cap),("into",.int s.into),("out",.int s.out),("takes",.int s.takes),("gives",.int s.gives)]
structure aCh(H:Hp)(a:Addr)(s:SS):Prop where
 at_:H a=some (.lst [.int s.cap,.int s.into,.int s.out,.int s.takes,.int s.gives])
structure yN(C:Addr)(H:Hp)(x:Addr)(s:SS):Prop where
 ex:∃dx,H x=some (.ins C dx (sFs s))
theorem aCh.tr{H H':Hp}{a:Addr}{s:SS}(h:aCh H a s)(e:Tr H H'):aCh H' a s:=⟨e _ _ h.at_ (aCg (by simp))⟩
theorem yN.tr{C:Addr}{H H':Hp}{a:Addr}{s:SS}(h:yN C H a s)(e:Tr H H'):yN C H' a s:=by
 obtain⟨dx,q⟩:=h.ex
 exact⟨dx,e _ _ q (aEm (by simp[sFs]))⟩
def StA(H:Hp)(q:Addr)(t:Int×Int):Prop:=H q=some (.tup [.int t.1,.int t.2])
structure aE5(H:Hp)(t:Addr)(ss:List (Int×Int)):Prop where
 ex:∃qs,H t=some (.tup (qs.map V.ref))/\RL (StA H) qs ss
abbrev Ps:=List (Int×Int)×Int
structure aAe(H:Hp)(a:Addr)(P:Ps):Prop where
 ex:∃t,H a=some (.tup [.ref t,.int P.2])/\aE5 H t P.1
structure Hr where
 ons:List Int
 outs:List Int
 lev:Int
structure aIM(H:Hp)(a:Addr)(h:Hr):Prop where
 ex:∃t u,H a=some (.tup [.ref t,.ref u,.int h.lev])/\H t=some (.tup (h.ons.map V.int))/\H u=some (.tup (h.outs.map V.int))
structure aEo(H:Hp)(a:Addr)(hs:List Hr):Prop where
 ex:∃qs,H a=some (.lst (qs.map V.ref))/\RL (aIM H) qs hs
structure aEp(H:Hp)(a:Addr)(hs:List Ps):Prop where
 ex:∃qs,H a=some (.lst (qs.map V.ref))/\RL (aAe H) qs hs
theorem aE5.tk{H H':Hp}{t:Addr}{ss:List (Int×Int)}(h:aE5 H t ss)(s:Tk H H'):aE5 H' t ss:=by
 obtain⟨qs,h1,h2⟩:=h.ex
 exact⟨qs,s _ _ h1,h2.imp fun a x z=>s _ _ z⟩
theorem aAe.tk{H H':Hp}{a:Addr}{P:Ps}(h:aAe H a P)(s:Tk H H'):aAe H' a P:=by
 obtain⟨t,h1,h2⟩:=h.ex
 exact⟨t,s _ _ h1,h2.tk s⟩
theorem aIM.tk{H H':Hp}{a:Addr}{h:Hr}(x:aIM H a h)(s:Tk H H'):aIM H' a h:=by
 obtain⟨t,u,h1,h2,h3⟩:=x.ex
 exact⟨t,u,s _ _ h1,s _ _ h2,s _ _ h3⟩
theorem aEo.tr{H H':Hp}{a:Addr}{hs:List Hr}(x:aEo H a hs)(s:Tr H H'):aEo H' a hs:=by
 obtain⟨qs,h1,h2⟩:=x.ex
 exact⟨qs,s _ _ h1 vJ,h2.imp fun a x z=>z.tk s.tk⟩
theorem aEp.tr{H H':Hp}{a:Addr}{hs:List Ps}(x:aEp H a hs)(s:Tr H H'):aEp H' a hs:=by
 obtain⟨qs,h1,h2⟩:=x.ex
 exact⟨qs,s _ _ h1 vJ,h2.imp fun a x z=>z.tk s.tk⟩
structure WS where
 specs:List MS
 store:Option SS
 lack:Int
 x:Int
 y:Int
 wide:Int
structure WS.Good(W:WS):Prop where
 specs:∀m∈W.specs,m.Good
 len:W.specs.length<=6
 store:∀s,W.store=some s->s.Good
 lack:Am W.lack
 x:1<=W.x/\W.x<=50000000000
 y:1<=W.y/\W.y<=50000000000
 wide:W.wide=0\/W.wide=1
structure yO(H:Hp)(l:Addr)(ms:List MS):Prop where
 ex:∃qs,H l=some (.lst (qs.map V.ref))/\RL (cJ H) qs ms
structure yP(C:Addr)(H:Hp)(l:Addr)(ms:List MS):Prop where
 ex:∃qs,H l=some (.lst (qs.map V.ref))/\RL (bX C H) qs ms
def aIN(H:Hp)(v:V):Option SS->Prop
 |none=>v=.non
 |some s=>∃a,v=.ref a/\aCh H a s
def aIO(C:Addr)(H:Hp)(v:V):Option SS->Prop
 |none=>v=.non
 |some s=>∃a,v=.ref a/\yN C H a s
theorem yO.tr{H H':Hp}{l:Addr}{ms:List MS}(h:yO H l ms)(s:Tr H H'):yO H' l ms:=by
 obtain⟨qs,h1,h2⟩:=h.ex
 exact⟨qs,s _ _ h1 vJ,h2.imp fun a x z=>z.tr s⟩
theorem yP.tr{C:Addr}{H H':Hp}{l:Addr}{ms:List MS}(h:yP C H l ms)(s:Tr H H'):yP C H' l ms:=by
 obtain⟨qs,h1,h2⟩:=h.ex
 exact⟨qs,s _ _ h1 vJ,h2.imp fun a x z=>z.tr s⟩
theorem aIN.tr{H H':Hp}{v:V}:∀{o:Option SS},aIN H v o->Tr H H'->aIN H' v o
 |none,h,_=>h
 |some s,⟨a,e,h⟩,t=>⟨a,e,h.tr t⟩
theorem aIO.tr{C:Addr}{H H':Hp}{v:V}:∀{o:Option SS},aIO C H v o->Tr H H'->aIO C H' v o
 |none,h,_=>h
 |some s,⟨a,e,h⟩,t=>⟨a,e,h.tr t⟩
structure aCi(H:Hp)(a:Addr)(W:WS):Prop where
 ex:∃ls st b,H a=some (.lst [.ref ls,st,.int W.lack,.ref b,.int W.wide])/\yO H ls W.specs/\aIN H st W.store/\H b=some (.lst [.int W.x,.int W.y])
theorem aCi.tr{H H':Hp}{a:Addr}{W:WS}(h:aCi H a W)(s:Tr H H'):aCi H' a W:=by
 obtain⟨ls,st,b,h1,h2,h3,h4⟩:=h.ex
 exact⟨ls,st,b,s _ _ h1 (aCg (by simp)),h2.tr s,h3.tr s,s _ _ h4 (aCg (by simp))⟩
def wFs(lm:Addr)(st:V)(k:Int):List (Str×V):=[("machines",.ref lm),("store",st),("lack",.int k)]
structure aCj(CW CM CS:Addr)(H:Hp)(w:Addr)(W:WS):Prop where
 ex:∃dx lm st,H w=some (.ins CW dx (wFs lm st W.lack))/\yP CM H lm W.specs/\aIO CS H st W.store
theorem aCj.tr{CW CM CS:Addr}{H H':Hp}{w:Addr}{W:WS}(h:aCj CW CM CS H w W)(s:Tr H H'):aCj CW CM CS H' w W:=by
 obtain⟨dx,lm,st,h1,h2,h3⟩:=h.ex
 exact⟨dx,lm,st,s _ _ h1 (aEm (by simp[wFs])),h2.tr s,h3.tr s⟩
def VS(s:Int×Int):Prop:=Bit s.1/\0<=s.2
def aDk:List MS->List (Int×Int)->List Int->List (Int×Int)
 |m::ms,s::ss,o::os=>lK m s.1 s.2 o::aDk ms ss os
 |_,_,_=>[]
theorem aAf:∀{ms:List MS}{ss:List (Int×Int)}{os:List Int},ss.length=ms.length->os.length=ms.length->(aDk ms ss os).length=ms.length
 |[],_,_,_,_=>by simp[aDk]
 |m::ms,s::ss,o::os,h1,h2=>by
  show(lK m s.1 s.2 o::aDk ms ss os).length=_
  rw[List.length_cons,aAf (by simpa using h1) (by simpa using h2),List.length_cons]
 |_::_,[],_,h,_=>by cases h
 |_::_,_::_,[],_,h=>by cases h
theorem aDl:∀{ms:List MS}{ss:List (Int×Int)}{os:List Int}{j:Nat}{m:MS}{s:Int×Int}{o:Int},ms[j]?=some m->ss[j]?=some s->os[j]?=some o->(aDk ms ss os)[j]?=some (lK m s.1 s.2 o)
 |m::ms,s::ss,o::os,0,_,_,_,h1,h2,h3=>by cases h1;cases h2;cases h3;rfl
 |m::ms,s::ss,o::os,j+1,_,_,_,h1,h2,h3=>by
  show(aDk ms ss os)[j]?=_
  exact aDl h1 h2 h3
 |[],_,_,_,_,_,_,h,_,_=>by simp at h
 |_::_,[],_,_,_,_,_,_,h,_=>by simp at h
 |_::_,_::_,[],_,_,_,_,_,_,h=>by simp at h
def May(ss:List (Int×Int))(os:List Int):Prop:=∀(j:Nat) (s:Int×Int) (o:Int),ss[j]?=some s->os[j]?=some o->s.1=o\/s.2=0
def aHx(W:WS)(l:Int):Prop:=match W.store with|none=>l=0|some s=>0<=l/\l<=s.cap
def LvW(W:WS)(l n:Int):Prop:=match W.store with|none=>n=0|some s=>Lv s l n
structure aE6(W:WS)(P:Ps):Prop where
 len:P.1.length=W.specs.length
 vs:∀s∈P.1,VS s
 lev:aHx W P.2
def aLI(m:MS)(on out:Int):Prop:=(on=0->out=0)/\(on≠0->m.least<=out/\out<=m.least+aLH m.pieces)
structure aCk(W:WS)(P:Ps)(h:Hr):Prop where
 ons:h.ons.length=W.specs.length
 outs:h.outs.length=W.specs.length
 bits:∀o∈h.ons,Bit o
 may:May P.1 h.ons
 out:∀(j:Nat) m on out,W.specs[j]?=some m->h.ons[j]?=some on->h.outs[j]?=some out->aLI m on out
 lev:LvW W P.2 h.lev
def nxt(W:WS)(P:Ps)(h:Hr):Ps:=(aDk W.specs P.1 h.ons,h.lev)
theorem LvW.ok{W:WS}{l n:Int}(h:LvW W l n):aHx W n:=by
 unfold LvW at h
 unfold aHx
 cases e:W.store with
 |none=>rw[e] at h;exact h
 |some s=>rw[e] at h;exact⟨h.1,h.2.1⟩
theorem aCk.nxt{W:WS}{P:Ps}{h:Hr}(g:W.Good)(p:aE6 W P)(x:aCk W P h):aE6 W (nxt W P h):=by
 refine⟨aAf p.len x.ons,fun s hs=>?_,x.lev.ok⟩
 obtain⟨j,hj⟩:=List.getElem?_of_mem hs
 have hl:=aAf p.len x.ons
 have hj':j < W.specs.length:=by rw[<-hl];exact(List.getElem?_eq_some_iff.mp hj).1
 have g1:W.specs[j]?=some W.specs[j]:=List.getElem?_eq_getElem hj'
 have g2:P.1[j]?=some (P.1[j]'(by rw[p.len];exact hj')):=List.getElem?_eq_getElem _
 have g3:h.ons[j]?=some (h.ons[j]'(by rw[x.ons];exact hj')):=List.getElem?_eq_getElem _
 replace hj:(aDk W.specs P.1 h.ons)[j]?=some s:=hj
 rw[aDl g1 g2 g3] at hj
 cases hj
 exact aEk (g.specs _ (List.getElem_mem hj')) (x.bits _ (List.mem_of_getElem? g3))
def rM(W:WS):Ps->List Hr->Prop
 |_,[]=>True
 |P,h::hs=>aCk W P h/\rM W (nxt W P h) hs
def aKQ(W:WS):Ps->List Hr->Ps
 |P,[]=>P
 |P,h::hs=>aKQ W (nxt W P h) hs
theorem rM.pos{W:WS}(g:W.Good):∀{P:Ps}{hs:List Hr},aE6 W P->rM W P hs->aE6 W (aKQ W P hs)
 |_,[],p,_=>p
 |P,h::hs,p,x=>rM.pos (P:=nxt W P h) (hs:=hs) g (x.1.nxt g p) x.2
theorem rM.take{W:WS}:∀{P:Ps}{hs:List Hr}{i:Nat}{h:Hr},rM W P hs->hs[i]?=some h->rM W P (hs.take i)/\aCk W (aKQ W P (hs.take i)) h
 |P,g::hs,0,h,x,e=>by cases e;exact⟨trivial,x.1⟩
 |P,g::hs,i+1,h,x,e=>by
  have:=rM.take (i:=i) (h:=h) x.2 e
  exact⟨⟨x.1,this.1⟩,this.2⟩
 |_,[],_,_,_,e=>by simp at e
theorem take_snoc{α:Type}{l:List α}{i:Nat}{x:α}(h:l[i]?=some x):l.take (i+1)=l.take i ++ [x]:=by
 rw[List.take_add_one,h];rfl
theorem RL.get{α:Type}{P:Addr->α->Prop}{as:List Addr}{xs:List α}(h:RL P as xs){i:Nat}{v:V}(hv:(as.map V.ref)[i]?=some v):∃a x,as[i]?=some a/\v=.ref a/\xs[i]?=some x/\P a x:=by
 rw[List.getElem?_map] at hv
 cases hq:as[i]? with
 |none=>rw[hq] at hv;cases hv
 |some a=>
  rw[hq] at hv
  cases hv
  have li:i < xs.length:=by rw[<-h.len];exact(List.getElem?_eq_some_iff.mp hq).1
  have hx:xs[i]?=some xs[i]:=List.getElem?_eq_getElem li
  exact⟨a,xs[i],rfl,rfl,hx,h.at_ i a _ hq hx⟩
theorem RL.ix{α:Type}{P:Addr->α->Prop}{as:List Addr}{xs:List α}(h:RL P as xs){i:Nat}(hi:i < xs.length):∃a,as[i]?=some a/\P a xs[i]:=by
 have li:i < as.length:=by rw[h.len];exact hi
 have ha:as[i]?=some as[i]:=List.getElem?_eq_getElem li
 exact⟨as[i],ha,h.at_ i _ _ ha (List.getElem?_eq_getElem hi)⟩
theorem vK{ns:List Int}{i:Nat}{x:V}(h:(ns.map V.int)[i]?=some x):∃n,ns[i]?=some n/\x=.int n:=by
 rw[List.getElem?_map] at h
 cases hq:ns[i]? with
 |none=>rw[hq] at h;cases h
 |some n=>rw[hq] at h;cases h;exact⟨n,rfl,rfl⟩
theorem aAg{H H1 H2:Hp}{p:Addr}(np:H p=none)(s:aJ H H1)(k:bZ p H1 H2):aJ H H2:=fun b o e=>k _ _ (s _ _ e) (bA np e)
theorem RL.take{α:Type}{P:Addr->α->Prop}{as:List Addr}{xs:List α}(h:RL P as xs)(i:Nat):RL P (as.take i) (xs.take i):=by
 refine⟨by rw[List.length_take,List.length_take,h.len],fun j a x h1 h2=>?_⟩
 rw[List.getElem?_take] at h1 h2
 split at h1
 ·rename_i hj
  rw[if_pos hj] at h2
  exact h.at_ j a x h1 h2
 ·cases h1
theorem RL.drop{α:Type}{P:Addr->α->Prop}{as:List Addr}{xs:List α}(h:RL P as xs)(i:Nat):RL P (as.drop i) (xs.drop i):=by
 refine⟨by rw[List.length_drop,List.length_drop,h.len],fun j a x h1 h2=>?_⟩
 rw[List.getElem?_drop] at h1 h2
 exact h.at_ _ a x h1 h2
theorem StA.sm{H:Hp}{j:Nat}{p q:Addr}{t:Int×Int}(h1:StA H p t)(h2:StA H q t):xT H (j+2) (.ref p) (.ref q):=xT.pair h1 h2
theorem RL.smT{H:Hp}{α:Type}{P:Addr->α->Prop}{j:Nat}{p q:Addr}{as bs:List Addr}{xs:List α}(h1:H p=some (.tup (as.map V.ref)))(h2:H q=some (.tup (bs.map V.ref)))(r1:RL P as xs)(r2:RL P bs xs)(hl:xs.length<=1000000)(f:∀a b x,P a x->P b x->xT H j (.ref a) (.ref b)):xT H (j+1) (.ref p) (.ref q):=by
 refine .inr (.inr (.inr (.inr ⟨p,q,_,_,rfl,rfl,.inl ⟨h1,h2⟩,by rw[List.length_map,List.length_map,r1.len,r2.len],by rw[List.length_map,r2.len];exact hl,fun i u v hu hv=>?_⟩)))
 rw[List.getElem?_map] at hu hv
 cases ea:as[i]? with
 |none=>rw[ea] at hu;cases hu
 |some a=>
  cases eb:bs[i]? with
  |none=>rw[eb] at hv;cases hv
  |some b=>
   rw[ea] at hu
   rw[eb] at hv
   cases hu
   cases hv
   have li:i < xs.length:=by rw[<-r1.len];exact(List.getElem?_eq_some_iff.mp ea).1
   exact f a b _ (r1.at_ i a _ ea (List.getElem?_eq_getElem li)) (r2.at_ i b _ eb (List.getElem?_eq_getElem li))
theorem aAe.sm{H:Hp}{j:Nat}{p q:Addr}{P:Ps}(h1:aAe H p P)(h2:aAe H q P)(hl:P.1.length<=1000000):xT H (j+4) (.ref p) (.ref q):=by
 obtain⟨t,a1,s1⟩:=h1.ex
 obtain⟨u,a2,s2⟩:=h2.ex
 obtain⟨qs,b1,r1⟩:=s1.ex
 obtain⟨qs',b2,r2⟩:=s2.ex
 refine .inr (.inr (.inr (.inr ⟨p,q,_,_,rfl,rfl,.inl ⟨a1,a2⟩,rfl,by simp,fun i x y hx hy=>?_⟩)))
 match i,hx,hy with
 |0,hx,hy=>cases hx;cases hy;exact RL.smT b1 b2 r1 r2 hl fun a b x z1 z2=>StA.sm z1 z2
 |1,hx,hy=>cases hx;cases hy;exact xT.int _
 |_+2,hx,_=>simp at hx
def aAG(K:W.Frag):Sp:=fun vs H Q _=>∃(p s:Addr) (m:MS),vs=[.ref p,.ref s]/\bF H p/\cJ H s m/\m.Good/\
 ∀(t:Addr) (o d:Int) H',H' t=some (.tup [.int o,.int d])->((o=1/\0<=d/\d < m.up)\/(o=0/\0<=d/\d < 60))->bF H' p->bZ p H H'->Q (.ref t) H'
theorem aAH{P:Program}{w:World}{K:PySem.W.Frag}{mg:Str->Option Value}{base:Heap}{a:nA}(tx:Txt K mg a):bR P w K mg base iV 2 a.j8 a.j9 ["_law_hand","_law_spec_here"] (aAG K):=by
 have aO:=d7 (P:=P) (w:=w) (base:=base) tx
 refine tx.o7.ok aAA (fun vs H Q E h=>?_) (fun cdv A outer s H vs Q E hr h=>?_)
 ·obtain⟨p,s,m,rfl,_⟩:=h
  rfl
 ·obtain⟨p,s,m,rfl ,hh,hs,hg,k⟩:=h
  have hu:=nM hr
  refine Z.root (Z.aC (Z.cN (Z.bP (r:=nP K) (eR hu) (Z.aF (aO) (hr.mono (by decide)) (by rfl) tx.aZ tx.aU.kp tx.aY .nil aQ (Z.aD (Z.pv 0) (Z.aD Z.aA Z.aB))) Z.aA (bN _)) (Z.aG (Z.aS (Z.oJ Z.aA (Z.aF (aO) (hr.mono (by decide)) (by rfl) tx.aZ tx.aU.kp tx.aY .nil aQ (Z.aD (Z.pv 0) (Z.aD (Z.aK (K':=K) (Z.pv 1) Z.aA (fun _ _=>rfl)) Z.aB)))))) Z.bI)
   (Z.aC (Z.cN (Z.bP (r:=nP K) (eR hu) (Z.aF (aO) (hr.mono (by decide)) (by rfl) tx.aZ tx.aU.kp tx.aY .nil aQ (Z.aD (Z.pv 0) (Z.aD Z.aA Z.aB))) Z.aA (bN _)) (Z.aG (Z.aS (Z.oJ Z.aA (Z.aF (aO) (hr.mono (by decide)) (by rfl) tx.aZ tx.aU.kp tx.aY .nil aQ (Z.aD (Z.pv 0) (Z.aD Z.aA Z.aB)))))) Z.bI)
   (Z.aG (Z.aS (Z.oJ Z.aA (Z.aF (aO) (hr.mono (by decide)) (by rfl) tx.aZ tx.aU.kp tx.aY .nil aQ (Z.aD (Z.pv 0) (Z.aD (Z.aK (K':=K) (Z.pv 1) Z.aA (fun _ _=>rfl)) Z.aB)))))))) ?_
  obtain⟨u0,u1⟩:=hg.up
  obtain⟨d0,d1⟩:=hg.down
  refine aR (σ:=[some (.ref p),some (.ref s)]) rfl ?_
  walk_at "w"
  refine⟨p,_,rfl,hh,by decide,by decide,fun r1 H1 a1 b1 h1 k1 _=>?_⟩
  have hs1:=hs.keep hh k1
  obtain⟨pl,e1,_⟩:=hs1.ex
  walk_at "w"
  refine cV (fun h=>?_) (fun h=>?_)
  ·walk_at "w"
   refine⟨p,_,rfl,h1,by omega,by omega,fun r2 H2 a2 b2 h2 k2 _=>?_⟩
   walk_at "w"
   intro T nT
   walk_at "w"
   exact k _ _ _ _ aH (.inl ⟨rfl,a2,b2⟩) (h2.same (aJ.new nT)) (k1.trans (k2.trans (aJ.new nT).keep))
  ·walk_at "w"
   refine⟨p,_,rfl,h1,by decide,by decide,fun r2 H2 a2 b2 h2 k2 _=>?_⟩
   have hs2:=hs1.keep h1 k2
   obtain⟨pl2,e2,_⟩:=hs2.ex
   walk_at "w"
   refine cV (fun h=>?_) (fun h=>?_)
   ·walk_at "w"
    refine⟨p,_,rfl,h2,by decide,by decide,fun r3 H3 a3 b3 h3 k3 _=>?_⟩
    walk_at "w"
    intro T nT
    walk_at "w"
    exact k _ _ _ _ aH (.inr ⟨rfl,a3,b3⟩) (h3.same (aJ.new nT)) (k1.trans (k2.trans (k3.trans (aJ.new nT).keep)))
   ·walk_at "w"
    refine⟨p,_,rfl,h2,by omega,by omega,fun r3 H3 a3 b3 h3 k3 _=>?_⟩
    walk_at "w"
    intro T nT
    walk_at "w"
    exact k _ _ _ _ aH (.inr ⟨rfl,a3,by omega⟩) (h3.same (aJ.new nT)) (k1.trans (k2.trans (k3.trans (aJ.new nT).keep)))
def flt(m:MS):Int->Int->List Int->Nat->V
 |_,_,[],_=>.non
 |o,d,on::r,i=>if o=on\/d=0 then flt m (lK m o d on).1 (lK m o d on).2 r (i+1) else .int i
theorem aE7{ns:List Int}{i:Nat}{n:Int}(h:ns[i]?=some n):ns.drop i=n::ns.drop (i+1):=by
 obtain⟨hi,e⟩:=List.getElem?_eq_some_iff.mp h
 rw[List.drop_eq_getElem_cons hi,e]
def aCl(K:W.Frag)(C:Addr):Sp:=fun vs H Q _=>∃(q:Addr) (m:MS) (t:Addr) (o d:Int) (p:Addr) (ns:List Int),vs=[.ref q,.ref t,.ref p]/\bX C H q m/\H t=some (.tup [.int o,.int d])/\H p=some (.lst (ns.map V.int))/\
 ∀H',aJ H H'->Q (flt m o d ns 0) H'
theorem aCm{P:Program}{w:World}{K:PySem.W.Frag}{mg:Str->Option Value}{base:Heap}{a:nA}(tx:Txt K mg a):bR P w K mg base iV 3 a.mC a.mD ["machine","state","run"] (aCl K a.bB):=by
 have lH:=sI (P:=P) (w:=w) (base:=base) tx
 have gA:=lG (P:=P) (w:=w) (base:=base) tx
 refine tx.qS.ok jZ (fun vs H Q E h=>?_) (fun cdv A outer s H vs Q E hr h=>?_)
 ·obtain⟨q,m,t,o,d,p,ns,rfl,_⟩:=h
  rfl
 ·obtain⟨q,m,t,o,d,p,ns,rfl ,hm,ht,hp,k⟩:=h
  have hu:=nM hr
  refine Z.root (Z.aC (Z.cE PassesOwn.never rfl (Z.zA (K':=K) (by rfl) tx.dS (Z.aD (Z.pv 2) Z.aB)) (Z.iY (K':=K) (n:=2) rfl (Z.bH (Z.aP (i:=3) jZ.nd rfl (Or.inl rfl)) (Z.bH (Z.aP (i:=4) jZ.nd rfl (Or.inl rfl)) Z.fD))) (Z.aC (Z.cN (Z.oE (Z.fV (Z.aF (lH) (hr.mono (by decide)) (by rfl) tx.qR tx.nW.kp tx.qQ .nil aQ (Z.aD (Z.pv 0) (Z.aD (Z.pv 1) (Z.aD (Z.pv 4) Z.aB)))))) (Z.aG (Z.aS (Z.pv 3))) Z.bI)
   (Z.aG (Z.aM (i:=1) jZ.nd rfl (Or.inl rfl) (Z.aF (gA) (hr.mono (by decide)) (by rfl) tx.jJ tx.fY.kp tx.jI .nil aQ (Z.aD (Z.pv 0) (Z.aD (Z.pv 1) (Z.aD (Z.pv 4) Z.aB))))))))
   (Z.aG (Z.aS Z.mV))) ?_
  refine aR (σ:=[some (.ref q),some (.ref t),some (.ref p),none,none]) rfl ?_
  walk_at "w"
  refine aGJ (bQ.of hp) ?_
  refine aBO (xs:=ns.map V.int) (fun i σ' H'=>∃t' o' d' x3 x4,σ'=[some (.ref q),some (.ref t'),some (.ref p),x3,x4]/\H' t'=some (.tup [.int o',.int d'])/\aJ H H'/\flt m o' d' (ns.drop i) i=flt m o d ns 0)
   ⟨t,o,d,_,_,rfl,ht,aJ.refl _,rfl⟩ (fun i σ' H' hi ⟨t',o',d',x3,x4,e,h1,h2,h3⟩=>bQ.of (h2 _ _ hp)) (fun i x σ' H' T hx ⟨t',o',d',x3,x4,e,h1,h2,h3⟩ nT=>?_) (fun σ' H' ⟨t',o',d',x3,x4,e,h1,h2,h3⟩=>?_)
  ·subst e
   rw[List.getElem?_map] at hx
   obtain⟨n,hn,rfl⟩ : ∃n,ns[i]?=some n/\x=.int n:=by
    cases hq:ns[i]? with
    |none=>rw[hq] at hx;cases hx
    |some n=>rw[hq] at hx;cases hx;exact⟨n,rfl,rfl⟩
   rw[aE7 hn] at h3
   have sT:=aJ.new (o:=.tup [.int (i:Int),.int n]) nT
   refine iX (lJ.of aH) rfl ?_
   walk_at "w"
   refine⟨_,_,_,_,_,rfl,sT _ _ h1,?_⟩
   walk_at "w"
   have h3':(if o'=n\/d'=0 then flt m (lK m o' d' n).1 (lK m o' d' n).2 (ns.drop (i+1)) (i+1) else .int i)=flt m o d ns 0:=h3
   by_cases hmay:o'=n\/d'=0
   ·rw[if_pos hmay] at h3'
    rw[show(decide (o'=n) || decide (d'=0))=true by rcases hmay with h|h <;> simp[h]]
    walk_at "w"
    refine⟨q,m,t',o',d',n,rfl,hm.same (h2.trans sT),sT _ _ h1,hmay,fun T2 H2 s2 nT2 hT2=>?_⟩
    walk_at "w"
    exact⟨T2,_,_,_,_,rfl,hT2,(h2.trans sT).trans s2,h3'⟩
   ·rw[if_neg hmay] at h3'
    rw[show(decide (o'=n) || decide (d'=0))=false by simp only[not_or] at hmay;simp[hmay.1,hmay.2]]
    walk_at "w"
    rw[<-h3'] at k
    exact k _ (h2.trans sT)
  ·subst e
   rw[List.length_map,List.drop_length] at h3
   walk_at "w"
   have h3':V.non=flt m o d ns 0:=h3
   rw[h3']
   exact k _ h2
def bgs:Int->List Int->Nat->List Int
 |_,[],_=>[]
 |o,on::r,i=>(if on=1/\o=0 then [(i:Int)] else [])++bgs on r (i+1)
def aFR(m:MS)(o:Int)(ns:List Int):Int:=m.begin_*((bgs o ns 0).length:Int)+m.run*(ns.count 1:Nat)+m.rest*(ns.count 0:Nat)
def xW(K:W.Frag)(C:Addr):Sp:=fun vs H Q _=>∃(q:Addr) (m:MS) (t:Addr) (o d:Int) (p:Addr) (ns:List Int),vs=[.ref q,.ref t,.ref p]/\bX C H q m/\H t=some (.tup [.int o,.int d])/\H p=some (.lst (ns.map V.int))/\
 flt m o d ns 0=.non/\∀H',aJ H H'->Q .non H'
theorem xX{P:Program}{w:World}{K:PySem.W.Frag}{mg:Str->Option Value}{base:Heap}{a:nA}(tx:Txt K mg a):bR P w K mg base iV 4 a.hX a.hZ ["machine","state","run"] (xW K a.bB):=by
 have aDm:=aCm (P:=P) (w:=w) (base:=base) tx
 refine tx.kW.ok pH (fun vs H Q E h=>?_) (fun cdv A outer s H vs Q E hr h=>?_)
 ·obtain⟨q,m,t,o,d,p,ns,rfl,_⟩:=h
  rfl
 ·obtain⟨q,m,t,o,d,p,ns,rfl ,hm,ht,hp,hf,k⟩:=h
  have hu:=nM hr
  refine Z.root (Z.aC (Z.aM (i:=3) pH.nd rfl (Or.inl rfl) (Z.aF (aDm) (hr.mono (by decide)) (by rfl) tx.wX tx.qS.kp tx.wW .nil aQ (Z.aD (Z.pv 0) (Z.aD (Z.pv 1) (Z.aD (Z.pv 2) Z.aB)))))
   (Z.aG (Z.cN (Z.bP rX (Z.pv 3) Z.mV (bN _)) (Z.aG Z.pR) Z.bI))) ?_
  refine aR (σ:=[some (.ref q),some (.ref t),some (.ref p),none]) rfl ?_
  walk_at "w"
  refine⟨q,m,t,o,d,p,ns,rfl,hm,ht,hp,fun H1 s1=>?_⟩
  rw[hf]
  walk_at "w"
  exact k _ s1
def aAI(K:W.Frag)(C:Addr):Sp:=fun vs H Q _=>∃(q:Addr) (m:MS) (t:Addr) (o d:Int) (p:Addr) (ns:List Int),vs=[.ref q,.ref t,.ref p]/\bX C H q m/\H t=some (.tup [.int o,.int d])/\H p=some (.lst (ns.map V.int))/\ns.length<=48/\
 flt m o d ns 0=.non/\∀c H',aJ H H'->H c=none->H' c=some (.lst ((bgs o ns 0).map V.int))->Q (.ref c) H'
theorem aAJ{P:Program}{w:World}{K:PySem.W.Frag}{mg:Str->Option Value}{base:Heap}{a:nA}(tx:Txt K mg a):bR P w K mg base iV 5 a.kA a.kB ["machine","state","run"] (aAI K a.bB):=by
 have aAh:=xX (P:=P) (w:=w) (base:=base) tx
 refine tx.o8.ok eJ (fun vs H Q E h=>?_) (fun cdv A outer s H vs Q E hr h=>?_)
 ·obtain⟨q,m,t,o,d,p,ns,rfl,_⟩:=h
  rfl
 ·obtain⟨q,m,t,o,d,p,ns,rfl ,hm,ht,hp,hl,hn,k1⟩:=h
  have hu:=nM hr
  refine Z.root (Z.aC (Z.fB (Z.aF (aAh) (hr.mono (by decide)) (by rfl) tx.qU tx.kW.kp tx.qT .nil aQ (Z.aD (Z.pv 0) (Z.aD (Z.pv 1) (Z.aD (Z.pv 2) Z.aB)))))
   (Z.aC (Z.aM (i:=3) eJ.nd rfl (Or.inl rfl) (Z.eO Z.aB))
   (Z.aC (Z.aM (i:=4) eJ.nd rfl (Or.inl rfl) (Z.aK (K':=K) (Z.pv 1) Z.aA (fun _ _=>rfl)))
   (Z.aC (Z.cE PassesOwn.never rfl (Z.zA (K':=K) (by rfl) tx.dS (Z.aD (Z.pv 2) Z.aB)) (Z.iY (K':=K) (n:=2) rfl (Z.bH (Z.aP (i:=5) eJ.nd rfl (Or.inl rfl)) (Z.bH (Z.aP (i:=6) eJ.nd rfl (Or.inl rfl)) Z.fD))) (Z.aC (Z.cN (Z.aBc (Z.aBC (Z.bP (r:=nP K) (eR hu) (Z.pv 6) Z.aA (bN _)) (Z.yF (Z.bP (r:=nP K) (eR hu) (Z.pv 4) Z.aA (bN _))))) (Z.aG (Z.fB (Z.iZ (K':=K) (Z.pv 3) (Z.aD (Z.pv 5) Z.aB)))) Z.bI)
   (Z.aG (Z.aM (i:=4) eJ.nd rfl (Or.inl rfl) (Z.pv 6)))))
   (Z.aG (Z.aS (Z.pv 3))))))) ?_
  refine aR (σ:=[some (.ref q),some (.ref t),some (.ref p),none,none,none,none]) rfl ?_
  walk_at "w"
  refine⟨q,m,t,o,d,p,ns,rfl,hm,ht,hp,hn,fun H1 s1=>?_⟩
  walk_at "w"
  intro c nc
  obtain⟨H2,i2,s2,g2⟩:=nw _ nc;rw[i2]
  have ht2:=(s1.trans s2) _ _ ht
  have hp2:=(s1.trans s2) _ _ hp
  have cp:c≠p:=fun z=>by rw[z] at nc;exact bA nc (s1 _ _ hp) rfl
  walk_at "w"
  refine aGJ (bQ.of hp2) ?_
  refine aBO (xs:=ns.map V.int) (fun i σ' H'=>∃(a':Int) (bs:List Int) (x5 x6:Option V),σ'=[some (.ref q),some (.ref t),some (.ref p),some (.ref c),some (.int a'),x5,x6]/\H' c=some (.lst (bs.map V.int))/\bs.length<=i/\bs++bgs a' (ns.drop i) i=bgs o ns 0/\aJ H1 H')
   ⟨o,[],_,_,rfl,g2,Nat.le_refl _,rfl,s2⟩ (fun i σ' H' hi ⟨a',bs,x5,x6,e,g,lb,eb,s'⟩=>bQ.of (s' _ _ (s1 _ _ hp))) (fun i x σ' H' T hx ⟨a',bs,x5,x6,e,g,lb,eb,s'⟩ nT=>?_) (fun σ' H' ⟨a',bs,x5,x6,e,g,lb,eb,s'⟩=>?_)
  ·subst e
   rw[List.getElem?_map] at hx
   obtain⟨n,hn',rfl⟩:=Option.map_eq_some_iff.mp hx
   have hi:i < ns.length:=(List.getElem?_eq_some_iff.mp hn').1
   rw[aE7 hn'] at eb
   obtain⟨H3,i3,s3,g3⟩:=nw (.tup [.int (i:Int),.int n]) nT;rw[i3]
   refine iX (lJ.of g3) rfl ?_
   have g':=s3 _ _ g
   have eb':bs++((if n=1/\a'=0 then [(i:Int)] else [])++bgs n (ns.drop (i+1)) (i+1))=bgs o ns 0:=eb
   walk_at "w"
   refine cV (fun h1=>?_) (fun h1=>?_)
   ·walk_at "w"
    refine cV (fun h2=>?_) (fun h2=>?_)
    ·rw[if_pos ⟨h1,h2⟩,<-List.append_assoc] at eb'
     walk_at "w"
     refine jP (bQ.of g') ?_
     walk_at "w"
     refine mZ (xs:=bs.map V.int) g' (Nat.lt_of_lt_of_le (by rw[List.length_map];omega:(bs.map V.int).length < 1000) (cC (by simp))) ?_
     obtain⟨H4,i4,k4,g4⟩:=wr H3 c (.lst (bs.map V.int ++ [.int (i:Int)]));rw[i4]
     walk_at "w"
     exact⟨n,bs ++ [(i:Int)],_,_,rfl,by rw[g4,List.map_append];rfl,by rw[List.length_append];simp;exact lb,eb',fun b o e=>k4 _ _ (s3 _ _ (s' _ _ e)) (bA nc e)⟩
    ·rw[if_neg (fun z=>h2 z.2),List.nil_append] at eb'
     walk_at "w"
     exact⟨n,bs,_,_,rfl,g',by omega,eb',s'.trans s3⟩
   ·rw[if_neg (fun z=>h1 z.1),List.nil_append] at eb'
    walk_at "w"
    exact⟨n,bs,_,_,rfl,g',by omega,eb',s'.trans s3⟩
  ·subst e
   rw[List.length_map,List.drop_length] at eb
   rw[show bs++bgs a' [] ns.length=bs from List.append_nil bs] at eb
   walk_at "w"
   exact k1 c _ (s1.trans s') (s1.free nc) (by rw[<-eb];exact g)
def aDn(K:W.Frag)(C:Addr):Sp:=fun vs H Q _=>∃(q:Addr) (m:MS) (t:Addr) (o d:Int) (p:Addr) (ns:List Int),vs=[.ref q,.ref t,.ref p]/\bX C H q m/\m.Good/\H t=some (.tup [.int o,.int d])/\H p=some (.lst (ns.map V.int))/\ns.length<=48/\
 flt m o d ns 0=.non/\∀H',aJ H H'->Q (.int (aFR m o ns)) H'
theorem aDo{P:Program}{w:World}{K:PySem.W.Frag}{mg:Str->Option Value}{base:Heap}{a:nA}(tx:Txt K mg a):bR P w K mg base iV 6 a.oW a.oX ["machine","state","run"] (aDn K a.bB):=by
 have aCn:=aAJ (P:=P) (w:=w) (base:=base) tx
 refine tx.tW.ok wR (fun vs H Q E h=>?_) (fun cdv A outer s H vs Q E hr h=>?_)
 ·obtain⟨q,m,t,o,d,p,ns,rfl,_⟩:=h
  rfl
 ·obtain⟨q,m,t,o,d,p,ns,rfl ,hm,hg,ht,hp,hl,hn,k1⟩:=h
  have hu:=nM hr
  refine Z.root (Z.aC (Z.aM (i:=3) wR.nd rfl (Or.inl rfl) (Z.aI (rc:=nQ K) bT (by rfl) tx.fT eQ (Z.aD (Z.aF (aCn) (hr.mono (by decide)) (by rfl) tx.u4 tx.o8.kp tx.uZ .nil aQ (Z.aD (Z.pv 0) (Z.aD (Z.pv 1) (Z.aD (Z.pv 2) Z.aB)))) Z.aB)))
   (Z.aG (Z.aS (Z.aN bL (Z.aN bL (Z.aN bS (Z.oK (K':=K) (Z.pv 0) rfl) (Z.pv 3)) (Z.aN bS (Z.oK (K':=K) (Z.pv 0) rfl) (Z.aBe (K':=K) (Z.pv 2) (Z.aD Z.aA Z.aB)))) (Z.aN bS (Z.oK (K':=K) (Z.pv 0) rfl) (Z.aBe (K':=K) (Z.pv 2) (Z.aD Z.aA Z.aB))))))) ?_
  obtain⟨b0,b1⟩:=hg.begin_
  obtain⟨u0,u1⟩:=hg.run
  obtain⟨r0,r1⟩:=hg.rest
  refine aR (σ:=[some (.ref q),some (.ref t),some (.ref p),none]) rfl ?_
  walk_at "w"
  refine⟨q,m,t,o,d,p,ns,rfl,hm,ht,hp,hl,hn,fun c H1 s1 nc gc=>?_⟩
  obtain⟨dx,pl,hq,_⟩:=(hm.same s1).ex
  have hp1:=s1 _ _ hp
  walk_at "w"
  refine tN hq tx.bV tx.jS rfl ?_
  walk_at "w"
  refine tN hq tx.bV tx.nG rfl ?_
  walk_at "w"
  refine jP (bQ.of hp1) ?_
  walk_at "w"
  refine aCZ (bQ.of hp1) ?_
  walk_at "w"
  refine tN hq tx.bV tx.lD rfl ?_
  walk_at "w"
  refine jP (bQ.of hp1) ?_
  walk_at "w"
  refine aCZ (bQ.of hp1) ?_
  walk_at "w"
  rw[List.length_map]
  exact k1 _ s1
def Ok(m:MS):Int->Int->List Int->Prop
 |_,_,[]=>True
 |o,d,on::r=>(o=on\/d=0)/\Ok m (lK m o d on).1 (lK m o d on).2 r
def ed(m:MS):Int->Int->List Int->Int×Int
 |o,d,[]=>(o,d)
 |o,d,on::r=>ed m (lK m o d on).1 (lK m o d on).2 r
def St0(o d:Int):Prop:=Bit o/\0<=d/\d < 60
theorem St0.lK{m:MS}(g:m.Good){o d on:Int}(h:St0 o d)(b:Bit on):St0 (lK m o d on).1 (lK m o d on).2:=by
 obtain⟨h0,h1,h2⟩:=h
 refine⟨(aEk g b).1,(aEk g b).2,?_⟩
 have u:=g.up
 have v:=g.down
 unfold My.lK
 split
 ·show max (d - 1) 0 < 60;omega
 ·split
  ·show m.up - 1 < 60;omega
  ·show m.down - 1 < 60;omega
def tP(m:MS)(on:Int)(f:Int->Int->Int)(o d:Int):Int:=if o=on\/d=0 then f (lK m o d on).1 (lK m o d on).2 else 0
def tB(m:MS)(f:Int->Int->Int)(o d:Int):Int:=tP m 0 f o d+tP m 1 f o d
def one(_ _:Int):Int:=1
abbrev WP:=(Int×Int)×Int
def nI(k:Int×Int):List Key:=[.inl k.1,.inl k.2]
def enc(ps:List WP):List (List Key×V):=ps.map fun p=>(nI p.1,V.int p.2)
theorem vL{a b:Int×Int}(h:nI a=nI b):a=b:=by
 unfold nI at h
 simp only[List.cons.injEq,Sum.inl.injEq,and_true] at h
 exact Prod.ext h.1 h.2
def sO(ps:List WP)(k:Int×Int):Option Int:=(ps.find? fun p=>decide (p.1=k)).map (·.2)
def addW(ps:List WP)(k:Int×Int)(v:Int):List WP:=if ps.any (fun p=>decide (p.1=k)) then ps.map (fun p=>if p.1=k then (p.1,v) else p) else ps ++ [(k,v)]
theorem aIP(ps:List WP)(k:Int×Int):nO (enc ps) (nI k)=(sO ps k).map V.int:=by
 unfold nO sO enc
 induction ps with
 |nil=>rfl
 |cons p r ih=>
  by_cases h:p.1=k
  ·simp[h]
  ·have:nI p.1≠nI k:=fun z=>h (vL z)
   simp only[List.map_cons,List.find?_cons,this,h,decide_false]
   exact ih
theorem aIQ(ps:List WP)(k:Int×Int)(v:Int):putK (enc ps) (nI k) (.int v)=enc (addW ps k v):=by
 unfold putK addW enc
 have e:((ps.map fun p:WP=>(nI p.1,V.int p.2)).any fun kv=>decide (kv.1=nI k))=ps.any fun p=>decide (p.1=k):=by
  rw[List.any_map]
  congr 1
  funext p
  show decide (nI p.1=nI k)=decide (p.1=k)
  exact decide_eq_decide.mpr ⟨vL,fun z=>by rw[z]⟩
 rw[e]
 split
 ·rw[List.map_map,List.map_map]
  congr 1
  funext p
  show(if nI p.1=nI k then (nI p.1,V.int v) else (nI p.1,V.int p.2))=(nI (if p.1=k then (p.1,v) else p).1,V.int (if p.1=k then (p.1,v) else p).2)
  by_cases h:p.1=k
  ·rw[if_pos h,if_pos (by rw[h])]
  ·rw[if_neg h,if_neg fun z=>h (vL z)]
 ·rw[List.map_append]
  rfl
def wsum(f:Int->Int->Int)(ps:List WP):Int:=List.sum (ps.map fun p=>p.2*f p.1.1 p.1.2)
theorem aBv(f:Int->Int->Int)(p:WP)(ps:List WP):wsum f (p::ps)=p.2*f p.1.1 p.1.2+wsum f ps:=rfl
theorem aHy(f:Int->Int->Int)(ps qs:List WP):wsum f (ps++qs)=wsum f ps+wsum f qs:=by
 unfold wsum
 rw[List.map_append,List.sum_append]
theorem aIR{ps:List WP}{k:Int×Int}{c:Int}(nd:(ps.map (·.1)).Nodup):((addW ps k ((sO ps k).getD 0+c)).map (·.1)).Nodup/\(∀p∈addW ps k ((sO ps k).getD 0+c),p.1=k\/∃q∈ps,q.1=p.1)/\∀f,wsum f (addW ps k ((sO ps k).getD 0+c))=wsum f ps+c*f k.1 k.2:=by
 unfold addW
 by_cases h:ps.any (fun p=>decide (p.1=k))=true
 ·rw[if_pos h]
  refine⟨?_,fun p hp=>?_,fun f=>?_⟩
  ·rw[List.map_map]
   have e:((fun p:WP=>p.1) ∘ fun p:WP=>if p.1=k then (p.1,(sO ps k).getD 0+c) else p)=fun p=>p.1:=by
    funext p
    show(if p.1=k then (p.1,(sO ps k).getD 0+c) else p).1=p.1
    split <;> rfl
   rw[e]
   exact nd
  ·obtain⟨q,hq,rfl⟩:=List.mem_map.mp hp
   refine .inr ⟨q,hq,?_⟩
   split <;> rfl
  ·have key:∀(qs:List WP),(qs.map (·.1)).Nodup->qs.any (fun p=>decide (p.1=k))=true->∀v,(sO qs k).getD 0+c=v->wsum f (qs.map fun p=>if p.1=k then (p.1,v) else p)=wsum f qs+c*f k.1 k.2:=by
    intro qs
    induction qs with
    |nil=>intro _ z;cases z
    |cons p r ih=>
     intro nd h v hv
     rw[List.map_cons,List.nodup_cons] at nd
     rw[List.map_cons,aBv,aBv]
     by_cases hp:p.1=k
     ·have hn:∀q∈r,¬q.1=k:=fun q hq z=>nd.1 (List.mem_map.mpr ⟨q,hq,by rw[z,hp]⟩)
      have e1:(r.map fun p=>if p.1=k then (p.1,v) else p)=r:=by
       conv=>rhs;rw[<-List.map_id r]
       exact List.map_congr_left fun q hq=>if_neg (hn q hq)
      have e2:sO (p::r) k=some p.2:=by unfold sO;simp[hp]
      rw[e2] at hv
      rw[e1,if_pos hp,<-hv,hp]
      show(p.2+c)*f k.1 k.2+wsum f r=_
      rw[Int.add_mul]
      omega
     ·have h':r.any (fun p=>decide (p.1=k))=true:=by simpa [hp] using h
      have e2:sO (p::r) k=sO r k:=by unfold sO;simp[hp]
      rw[e2] at hv
      rw[if_neg hp,ih nd.2 h' v hv]
      omega
   exact key ps nd h _ rfl
 ·have hn:sO ps k=none:=by
   unfold sO
   rw[Option.map_eq_none_iff,List.find?_eq_none]
   intro p hp z
   exact h (List.any_eq_true.mpr ⟨p,hp,z⟩)
  rw[if_neg h,hn]
  refine⟨?_,fun p hp=>?_,fun f=>?_⟩
  ·rw[List.map_append,List.nodup_append]
   refine⟨nd,by simp,fun a ha b hb=>?_⟩
   rw[List.map_cons,List.map_nil,List.mem_singleton] at hb
   rintro rfl
   obtain⟨q,hq,e⟩:=List.mem_map.mp ha
   exact h (List.any_eq_true.mpr ⟨q,hq,by simpa using e.trans hb⟩)
  ·rcases List.mem_append.mp hp with z|z
   ·exact .inr ⟨p,z,rfl⟩
   ·rw[List.mem_singleton.mp z];exact .inl rfl
  ·rw[aHy]
   show _+((0+c)*f k.1 k.2+0)=_
   rw[Int.zero_add,Int.add_zero]
theorem aHz:∀(n:Nat) (l:List Nat),l.Nodup->(∀x∈l,x < n)->l.length<=n
 |0,l,_,h=>by
  cases l with
  |nil=>exact Nat.le_refl _
  |cons x r=>exact absurd (h x (.head _)) (by omega)
 |n+1,l,nd,h=>by
  have:=aHz n (l.erase n) (nd.erase n) (fun x hx=>by
   have h1:=(nd.mem_erase_iff.mp hx)
   have:=h x h1.2
   have:=h1.1
   omega)
  rw[List.length_erase] at this
  split at this <;> omega
structure aAK(ps:List WP):Prop where
 nd:(ps.map (·.1)).Nodup
 st:∀p∈ps,St0 p.1.1 p.1.2
theorem aAK.len{ps:List WP}(h:aAK ps):ps.length<=120:=by
 have:=aHz 120 ((ps.map (·.1)).map fun k=>(k.1*60+k.2).toNat) (by
  rw[List.Nodup,List.pairwise_map]
  refine h.nd.imp_of_mem ?_
  intro a b ha hb hab z
  obtain⟨p,hp,rfl⟩:=List.mem_map.mp ha
  obtain⟨q,hq,rfl⟩:=List.mem_map.mp hb
  obtain⟨a1,a2,a3⟩:=h.st p hp
  obtain⟨b1,b2,b3⟩:=h.st q hq
  refine hab (Prod.ext ?_ ?_)
  ·rcases a1 with a1|a1 <;> rcases b1 with b1|b1 <;> rw[a1,b1] <;> rw[a1,b1] at z <;> omega
  ·rcases a1 with a1|a1 <;> rcases b1 with b1|b1 <;> rw[a1,b1] at z <;> omega) (fun x hx=>by
  obtain⟨k,hk,rfl⟩:=List.mem_map.mp hx
  obtain⟨p,hp,rfl⟩:=List.mem_map.mp hk
  obtain⟨a1,a2,a3⟩:=h.st p hp
  rcases a1 with a1|a1 <;> rw[a1] <;> omega)
 simpa using this
theorem aAK.add{ps:List WP}(h:aAK ps){k:Int×Int}(hk:St0 k.1 k.2)(c:Int):aAK (addW ps k ((sO ps k).getD 0+c)):=by
 obtain⟨h1,h2,_⟩:=aIR (k:=k) (c:=c) h.nd
 refine⟨h1,fun p hp=>?_⟩
 rcases h2 p hp with z|⟨q,hq,z⟩
 ·rw[z];exact hk
 ·rw[<-z];exact h.st q hq
section
variable{α:Type}
abbrev Wy(α:Type):=Int×α×Int
def cT(f:α->Int):List (Wy α)->Int
 |[]=>0
 |[w]=>w.2.2+f w.2.1
 |w::v::r=>min (w.2.2+f w.2.1) (cT f (v::r))
theorem aBw(f:α->Int):∀{ws:List (Wy α)}{w:Wy α},w∈ws->cT f ws<=w.2.2+f w.2.1
 |[],_,h=>by cases h
 |[w],v,h=>by rw[List.mem_singleton.mp h];exact Int.le_refl _
 |w::v::r,u,h=>by
  show min _ _<=_
  rcases List.mem_cons.mp h with rfl|h
  ·omega
  ·have:=aBw f h;omega
theorem pF(f:α->Int):∀{ws:List (Wy α)},ws≠[]->∃w∈ws,w.2.2+f w.2.1=cT f ws
 |[],h=>absurd rfl h
 |[w],_=>⟨w,.head _,rfl⟩
 |w::v::r,_=>by
  obtain⟨u,hu,e⟩:=pF f (ws:=v::r) (by simp)
  by_cases h:w.2.2+f w.2.1<=cT f (v::r)
  ·exact⟨w,.head _,by show _=min _ _;omega⟩
  ·exact⟨u,List.mem_cons_of_mem _ hu,by show _=min _ _;omega⟩
theorem aBx{f:α->Int}{ws:List (Wy α)}{m:Int}(h1:∃w∈ws,w.2.2+f w.2.1=m)(h2:∀w∈ws,m<=w.2.2+f w.2.1):m=cT f ws:=by
 obtain⟨w,hw,e⟩:=h1
 have a:=aBw f hw
 obtain⟨u,hu,e2⟩:=pF f (ws:=ws) (fun z=>by rw[z] at hw;cases hw)
 have b:=h2 u hu
 omega
def wF(W:Nat->α->List (Wy α)):Nat->Nat->α->Int
 |0,_,_=>0
 |k+1,i,x=>cT (wF W k (i+1)) (W i x)
def jU(f:α->Int)(ws:List (Wy α)):Option (Wy α):=ws.find? fun w=>decide (w.2.2+f w.2.1=cT f ws)
theorem xC(f:α->Int){ws:List (Wy α)}(h:ws≠[]):∃w,jU f ws=some w/\w∈ws/\w.2.2+f w.2.1=cT f ws:=by
 obtain⟨u,hu,e⟩:=pF f h
 cases q:jU f ws with
 |none=>
  unfold jU at q
  rw[List.find?_eq_none] at q
  exact absurd (decide_eq_true e) (q u hu)
 |some w=>
  unfold jU at q
  exact⟨w,rfl,List.mem_of_find?_eq_some q,of_decide_eq_true (List.find?_some (p:=fun w:Wy α=>decide (w.2.2+f w.2.1=cT f ws)) q)⟩
def t9(W:Nat->α->List (Wy α)):Nat->Nat->α->List Int
 |0,_,_=>[]
 |k+1,i,x=>match jU (wF W k (i+1)) (W i x) with
  |none=>[]
  |some w=>w.1::t9 W k (i+1) w.2.1
def aIS(W:Nat->α->List (Wy α)):Nat->α->List Int->Option Int
 |_,_,[]=>some 0
 |i,x,c::r=>match (W i x).find? fun w=>decide (w.1=c) with
  |none=>none
  |some w=>(aIS W (i+1) w.2.1 r).map (w.2.2 + ·)
structure Lay(W:Nat->α->List (Wy α))(n:Nat)(L:Nat->α->Prop):Prop where
 ne:∀i x,i < n->L i x->W i x≠[]
 on:∀i x w,i < n->L i x->w∈W i x->L (i+1) w.2.1
def aHA(ws:List (Wy α)):Prop:=ws.Pairwise fun a b=>a.1 < b.1
theorem aFS{ws:List (Wy α)}(h:aHA ws){w:Wy α}(hw:w∈ws):(ws.find? fun v=>decide (v.1=w.1))=some w:=by
 induction ws with
 |nil=>cases hw
 |cons a r ih=>
  obtain⟨h1,h2⟩:=List.pairwise_cons.mp h
  rw[List.find?_cons]
  rcases List.mem_cons.mp hw with rfl|hw
  ·simp
  ·have:=h1 w hw
   rw[decide_eq_false (by omega)]
   exact ih h2 hw
theorem aE8{W:Nat->α->List (Wy α)}{n:Nat}{L:Nat->α->Prop}(hl:Lay W n L)(hr:∀i x,aHA (W i x)):∀(k i:Nat) (x:α),i+k<=n->L i x->aIS W i x (t9 W k i x)=some (wF W k i x)/\(t9 W k i x).length=k
 |0,_,_,_,_=>⟨rfl,rfl⟩
 |k+1,i,x,hk,hx=>by
  obtain⟨w,e1,e2,e3⟩:=xC (wF W k (i+1)) (hl.ne i x (by omega) hx)
  obtain⟨h1,h2⟩:=aE8 hl hr k (i+1) w.2.1 (by omega) (hl.on i x w (by omega) hx e2)
  have e:t9 W (k+1) i x=w.1::t9 W k (i+1) w.2.1:=by
   show(match jU (wF W k (i+1)) (W i x) with|none=>[]|some w=>w.1::t9 W k (i+1) w.2.1)=_
   rw[e1]
  rw[e]
  refine⟨?_,by rw[List.length_cons,h2]⟩
  unfold aIS
  rw[aFS (hr i x) e2]
  show Option.map (w.2.2 + ·) (aIS W (i+1) w.2.1 (t9 W k (i+1) w.2.1))=_
  rw[h1]
  show some (w.2.2+wF W k (i+1) w.2.1)=some (cT (wF W k (i+1)) (W i x))
  rw[e3]
theorem aEq{ws:List (Wy α)}(h:aHA ws){p:Wy α->Bool}{w v:Wy α}(hw:ws.find? p=some w)(hv:v∈ws)(pv:p v=true):w.1<=v.1:=by
 induction ws with
 |nil=>cases hv
 |cons a r ih=>
  obtain⟨h1,h2⟩:=List.pairwise_cons.mp h
  rw[List.find?_cons] at hw
  cases ha:p a with
  |true=>
   rw[ha] at hw
   cases hw
   rcases List.mem_cons.mp hv with rfl|hv
   ·exact Int.le_refl _
   ·exact Int.le_of_lt (h1 v hv)
  |false=>
   rw[ha] at hw
   rcases List.mem_cons.mp hv with rfl|hv
   ·rw[pv] at ha;cases ha
   ·exact ih h2 hw hv
theorem aE9{β:Type}{p:β->Bool}:∀{l:List β}{j:Nat}{w:β},l[j]?=some w->(∀x∈l.take j,p x=false)->p w=true->l.find? p=some w
 |[],_,_,h,_,_=>by simp at h
 |a::r,0,w,h,_,hp=>by
  cases h
  rw[List.find?_cons,hp]
 |a::r,j+1,w,h,hn,hp=>by
  rw[List.find?_cons,hn a (by rw[List.take_succ_cons];exact .head _)]
  exact aE9 (l:=r) (j:=j) h (fun x hx=>hn x (by rw[List.take_succ_cons];exact List.mem_cons_of_mem _ hx)) hp
end
inductive PK (α:Type) where
 |ik (f:α->Key) (inj:∀x y,f x=f y->x=y)
 |tk (f:α->List Key) (inj:∀x y,f x=f y->x=y)
def PK.pv{α:Type}:PK α->Hp->V->α->Prop
 |.ik f _,_,v,x=>v=kV (f x)
 |.tk f _,H,v,x=>∃b,v=.ref b/\H b=some (.tup ((f x).map kV))
def PK.da{α:Type}:PK α->Hp->Addr->List α->(α->Int)->Prop
 |.ik f _,H,d,ps,g=>H d=some (.dK (ps.map fun x=>(f x,.int (g x))))
 |.tk f _,H,d,ps,g=>H d=some (.dT (ps.map fun x=>(f x,.int (g x))))
section
variable{α:Type}{κ:PK α}{H H':Hp}{v:V}{x:α}{d:Addr}{ps:List α}{g g':α->Int}
theorem PK.iG(h:κ.pv H v x)(s:aJ H H'):κ.pv H' v x:=by
 cases κ with
 |ik f i=>exact h
 |tk f i=>obtain⟨b,e,hb⟩:=h;exact⟨b,e,s _ _ hb⟩
theorem PK.eN(h:κ.da H d ps g)(s:aJ H H'):κ.da H' d ps g:=by
 cases κ with
 |ik f i=>exact s _ _ h
 |tk f i=>exact s _ _ h
theorem pX{κ':Type}[DecidableEq κ']{f:α->κ'}(inj:∀x y,f x=f y->x=y){g:α->Int}{x:α}:∀{ps:List α},x∈ps->nO (ps.map fun x=>(f x,V.int (g x))) (f x)=some (.int (g x))
 |[],h=>by cases h
 |y::r,h=>by
  rw[List.map_cons]
  by_cases e:f y=f x
  ·rw[jL (show(f y,V.int (g y)).1=f x from e),inj _ _ e]
  ·rw[gU (show ¬(f y,V.int (g y)).1=f x from e)]
   rcases List.mem_cons.mp h with rfl|h
   ·exact absurd rfl e
   ·exact pX inj h
theorem aBy{κ':Type}[DecidableEq κ']{f:α->κ'}(inj:∀x y,f x=f y->x=y){g:α->Int}{x:α}:∀{ps:List α},x∉ps->nO (ps.map fun x=>(f x,V.int (g x))) (f x)=none
 |[],_=>rfl
 |y::r,h=>by
  rw[List.map_cons,gU (show ¬(f y,V.int (g y)).1=f x from fun z=>h (by rw[inj _ _ z];exact .head _))]
  exact aBy inj fun z=>h (List.mem_cons_of_mem _ z)
theorem PK.get(h:κ.da H d ps g)(hv:κ.pv H v x)(hx:x∈ps):pZ H d v (some (.int (g x))):=by
 cases κ with
 |ik f i=>
  have hv':v=kV (f x):=hv
  subst hv'
  have z:=pZ.k (k:=f x) (show H d=some (.dK _) from h)
  rw[pX i hx] at z
  exact z
 |tk f i=>
  obtain⟨b,rfl,hb⟩:=hv
  have z:=pZ.t (show H d=some (.dT _) from h) hb
  rw[pX i hx] at z
  exact z
theorem yX{κ':Type}[DecidableEq κ']{f:α->κ'}(inj:∀x y,f x=f y->x=y){g:α->Int}{x:α}{ps:List α}(hx:x∉ps):putK (ps.map fun x=>(f x,V.int (g x))) (f x) (.int (g x))=(ps ++ [x]).map fun x=>(f x,V.int (g x)):=by
 unfold putK
 rw[uK,aBy inj hx,List.map_append]
 rfl
theorem PK.put(h:κ.da H d ps g)(hv:κ.pv H v x)(hx:x∉ps)(hl:ps.length < 1000000):∃H',yZ H d v (.int (g x)) H'/\κ.da H' d (ps ++ [x]) g/\bZ d H H':=by
 have lt:ps.length < sizeLine:=Nat.lt_of_lt_of_le hl (cC (by decide))
 cases κ with
 |ik f i=>
  have hv':v=kV (f x):=hv
  subst hv'
  refine⟨_,yZ.k (k:=f x) (show H d=some (.dK _) from h) (by rw[List.length_map];exact lt),?_,bZ.upd⟩
  show upd H d _ d=_
  rw[aH,yX i hx]
 |tk f i=>
  obtain⟨b,rfl,hb⟩:=hv
  refine⟨_,yZ.t (show H d=some (.dT _) from h) hb (by rw[List.length_map];exact lt),?_,bZ.upd⟩
  show upd H d _ d=_
  rw[aH,yX i hx]
theorem PK.new{σ:St}{Q:VK}(κ:PK α)(g:α->Int)(h:∀p H',H p=none->aJ H H'->κ.da H' p [] g->Q (.ref p) H'):zK σ H Q:=by
 cases κ with
 |ik f i=>exact aFI fun p np=>h p _ np (aJ.new np) aH
 |tk f i=>exact aBj fun p np=>h p _ np (aJ.new np) aH
theorem PK.aHB{xs:List V}(h:κ.da H d ps g)(e:H d=some (.lst xs)):False:=by
 cases κ with
 |ik f i=>have h':H d=some (.dK _):=h;rw[e] at h';cases h'
 |tk f i=>have h':H d=some (.dT _):=h;rw[e] at h';cases h'
def xD(κ:PK α)(H:Hp)(a:Addr)(w:Wy α):Prop:=∃v,H a=some (.tup [.int w.1,v,.int w.2.2])/\κ.pv H v w.2.1
theorem xD.same{a:Addr}{w:Wy α}(h:xD κ H a w)(s:aJ H H'):xD κ H' a w:=let ⟨v,e,p⟩:=h;⟨v,s _ _ e,κ.iG p s⟩
structure rN(κ:PK α)(H:Hp)(l:Addr)(ws:List (Wy α)):Prop where
 ex:∃as,H l=some (.lst (as.map V.ref))/\RL (xD κ H) as ws
theorem rN.same{l:Addr}{ws:List (Wy α)}(h:rN κ H l ws)(s:aJ H H'):rN κ H' l ws:=let ⟨as,e,r⟩:=h.ex;⟨as,s _ _ e,r.imp fun _ _ z=>z.same s⟩
structure uA(κ:PK α)(C:Addr->Sp->Prop)(H:Hp)(f:Addr)(W:Nat->α->List (Wy α))(L:Nat->α->Prop):Prop where
 ex:∃spc,C f spc/\∀(H':Hp) (h:Nat) (v:V) (x:α) (Q:VK),aJ H H'->L h x->κ.pv H' v x->(∀l H'',aJ H' H''->rN κ H'' l (W h x)->Q (.ref l) H'')->spc [.int (h:Int),v] H' Q E0
theorem uA.same{C:Addr->Sp->Prop}{f:Addr}{W:Nat->α->List (Wy α)}{L:Nat->α->Prop}(h:uA κ C H f W L)(s:aJ H H'):uA κ C H' f W L:=
 let ⟨spc,c,p⟩:=h.ex;⟨spc,c,fun H2 a v x Q s2=>p H2 a v x Q (s.trans s2)⟩
def PVs(κ:PK α)(H:Hp)(vs:List V)(ps:List α):Prop:=vs.length=ps.length/\∀(i:Nat) v x,vs[i]?=some v->ps[i]?=some x->κ.pv H v x
theorem PVs.same{vs:List V}(h:PVs κ H vs ps)(s:aJ H H'):PVs κ H' vs ps:=⟨h.1,fun i v x h1 h2=>κ.iG (h.2 i v x h1 h2) s⟩
theorem PVs.get{vs:List V}(h:PVs κ H vs ps){i:Nat}{v:V}(e:vs[i]?=some v):∃x,ps[i]?=some x/\κ.pv H v x:=by
 have li:i < ps.length:=by rw[<-h.1];exact(List.getElem?_eq_some_iff.mp e).1
 exact⟨_,List.getElem?_eq_getElem li,h.2 i v _ e (List.getElem?_eq_getElem li)⟩
end
theorem gF{α:Type}{l:List α}{i:Nat}{x:α}(h:l[i]?=some x):l.take (i+1)=l.take i ++ [x]:=by rw[List.take_add_one,h];rfl
theorem RL.gt{α:Type}{P:Addr->α->Prop}{as:List Addr}{xs:List α}(h:RL P as xs){i:Nat}{v:V}(hv:(as.map V.ref)[i]?=some v):∃a x,as[i]?=some a/\v=.ref a/\xs[i]?=some x/\P a x:=by
 rw[List.getElem?_map] at hv
 obtain⟨a,e,rfl⟩:=Option.map_eq_some_iff.mp hv
 have li:i < xs.length:=by rw[<-h.len];exact(List.getElem?_eq_some_iff.mp e).1
 exact⟨a,xs[i],e,rfl,List.getElem?_eq_getElem li,h.at_ i a _ e (List.getElem?_eq_getElem li)⟩
def aDp(K:W.Frag):Sp:=fun vs H Q _=>∃(α:Type) (κ:PK α) (l d:Addr) (ws:List (Wy α)) (ps:List α) (g:α->Int),vs=[.ref l,.ref d]/\rN κ H l ws/\κ.da H d ps g/\ws≠[]/\ws.length<=10000/\(∀w∈ws,w.2.1∈ps)/\
 ∀H',aJ H H'->Q (.int (cT g ws)) H'
theorem xE{P:Program}{w:World}{K:PySem.W.Frag}{mg:Str->Option Value}{base:Heap}{a:nA}(tx:Txt K mg a):bR P w K mg base iV 1 a.oY a.oZ ["ways","behind"] (aDp K):=by
 refine tx.o9.ok aDe (fun vs H Q E h=>?_) (fun cdv A outer s H vs Q E hr h=>?_)
 ·obtain⟨α,κ,l,d,ws,ps,g,rfl,_⟩:=h
  rfl
 ·obtain⟨α,κ,l,d,ws,ps,g,rfl ,hw,hd,hne,hlen,hin,k⟩:=h
  have hu:=nM hr
  refine Z.root (Z.aG (Z.aS (Z.aI (rc:=aBi K) (rY rfl) (by rfl) tx.pJ tJ (Z.aD (Z.fE (k:=3) (idx:=[1]) (N:=["choice","later","worth","behind"]) (fW (sc:=aE gH) (NX:=["ways","behind"]) rfl rfl rfl (by decide +kernel)) rfl (Z.cP (K':=K) (Z.pv 0)) (fun _ _ _ _=>(Z.iY (K':=K) (n:=3) rfl (Z.bH (Z.aP (i:=0) (show(["choice","later","worth","behind"]:List Str).Nodup by decide +kernel) rfl (Or.inl rfl)) (Z.bH (Z.aP (i:=1) (show(["choice","later","worth","behind"]:List Str).Nodup by decide +kernel) rfl (Or.inl rfl)) (Z.bH (Z.aP (i:=2) (show(["choice","later","worth","behind"]:List Str).Nodup by decide +kernel) rfl (Or.inl rfl)) Z.fD))))) (uN (cW (by decide) (cW (by decide) (cW (by decide) qB)))) (fun _ _ _ _=>Z.iW) (fun _ _ _ _=>(Z.aN bL (Z.pv 2) (Z.nU hu (Z.pv 3) (Z.pv 1))))) Z.aB)))) ?_
  obtain⟨as,gl,rl⟩:=hw.ex
  have las:=rl.len
  refine aR (σ:=[some (.ref l),some (.ref d)]) rfl ?_
  walk_at "w"
  refine kR (bQ.of gl) ?_
  refine gK (xs:=as.map V.ref) (fun j us H'=>H'=H/\us=(((ws.take j).map fun w=>w.2.2+g w.2.1).map V.int)) ⟨rfl,rfl⟩ (cC (by rw[List.length_map];omega))
   (fun j us H' hj ⟨e0,e1⟩=>⟨by rw[e0];exact bQ.of gl,by rw[e1,List.length_map,List.length_map,List.length_take];omega⟩) (fun j v us H' hv ⟨e0,e1⟩=>?_) (fun us H' ⟨e0,e1⟩=>?_)
  ·subst e0
   obtain⟨a1,w,ea,rfl,ew,vv,g1,hp⟩:=rl.gt hv
   refine iX (lJ.of g1) rfl ?_
   walk_at "w"
   refine⟨d,_,rfl,κ.get hd hp (hin w (List.mem_of_getElem? ew)),?_⟩
   walk_at "w"
   refine⟨rfl,?_⟩
   rw[e1,gF ew,List.map_append,List.map_append]
   rfl
  subst e0 e1
  rw[List.length_map,las,List.take_length]
  intro l2 n2
  obtain⟨H2,i2,s2,g2⟩:=nw _ n2;rw[i2]
  walk_at "w"
  refine yM (bQ.of g2) (by simpa using hne) fun m hm hle=>?_
  have e:m=cT g ws:=aBx (by
   obtain⟨w,hw,e⟩:=List.mem_map.mp hm
   exact⟨w,hw,e⟩) fun w hw=>hle _ (List.mem_map.mpr ⟨w,hw,rfl⟩)
  rw[e]
  exact k H2 s2
def xY(K:PySem.W.Frag)(C:Addr->Sp->Prop):Sp:=fun vs H Q _=>∃(α:Type) (κ:PK α) (lp d f:Addr) (h:Nat) (us:List V) (ps bs:List α) (g:α->Int) (W:Nat->α->List (Wy α)) (L:Nat->α->Prop),vs=[.ref lp,.int (h:Int),.ref d,.ref f]/\
 H lp=some (.lst us)/\PVs κ H us ps/\ps.Nodup/\ps.length<=10000/\κ.da H d bs g/\uA κ C H f W L/\(∀x∈ps,L h x/\W h x≠[]/\(W h x).length<=10000/\∀w∈W h x,w.2.1∈bs)/\
 ∀q H',aJ H H'->H q=none->κ.da H' q ps (fun x=>cT g (W h x))->Q (.ref q) H'
theorem xZ{P:Program}{w:World}{K:PySem.W.Frag}{mg:Str->Option Value}{base:Heap}{a:nA}(tx:Txt K mg a):bR P w K mg base iV 10 a.iA a.iB ["places","hour","behind","ways_at"] (xY K (Clo P w K mg base (8+1))):=by
 have uB:=xE (P:=P) (w:=w) (base:=base) tx
 refine tx.kX.ok jQ (fun vs H Q E h=>?_) (fun cdv A outer s H vs Q E hr h=>?_)
 ·obtain⟨α,κ,lp,d,f,h,us,ps,bs,g,W,L,rfl,_⟩:=h
  rfl
 ·obtain⟨α,κ,lp,d,f,h,us,ps,bs,g,W,L,rfl ,gl,hpv,hnd,hlen,hd,hW,hon,k⟩:=h
  have hu:=nM hr
  refine Z.root (Z.aC (Z.aM (i:=4) jQ.nd rfl (Or.inl rfl) Z.kS)
   (Z.aC (Z.cE PassesOwn.never rfl (Z.cP (K':=K) (Z.pv 0)) (Z.aP (i:=5) jQ.nd rfl (Or.inl rfl)) (Z.aG (Z.oH hu (Z.pv 4) (Z.pv 5) (Z.aF (uB) (hr.mono (by decide)) (by rfl) tx.tY tx.o9.kp tx.tX .nil aQ (Z.aD (Z.aC7 (P:=P) (w:=w) (K:=K) (mg:=mg) (base:=base) (i:=3) (k:=8+1) (hr.mono (by decide)) (Z.aD (Z.pv 1) (Z.aD (Z.pv 5) Z.aB))) (Z.aD (Z.pv 2) Z.aB))))))
   (Z.aG (Z.aS (Z.pv 4))))) ?_
  obtain⟨spc,hC,hp⟩:=hW.ex
  have lus:=hpv.1
  refine aR (σ:=[some (.ref lp),some (.int (h:Int)),some (.ref d),some (.ref f),none,none]) rfl ?_
  walk_at "w"
  refine κ.new (fun x=>cT g (W h x)) fun wd H1 nwd s1 dw=>?_
  walk_at "w"
  refine kR (bQ.of (s1 _ _ gl)) ?_
  refine rV (xs:=us) (fun i σ' H'=>aJ H H'/\κ.da H' wd (ps.take i) (fun x=>cT g (W h x))/\∃z,σ'=[some (.ref lp),some (.int (h:Int)),some (.ref d),some (.ref f),some (.ref wd),z]) ⟨s1,dw,_,rfl⟩
   (fun i σ' H' hi ⟨s',_⟩=>bQ.of (s' _ _ gl)) (fun i v σ' H' hv ⟨s',dw',z,e⟩=>?_) (fun σ' H' ⟨s',dw',z,e⟩=>?_)
  ·subst e
   obtain⟨x,ex,px⟩:=hpv.get hv
   obtain⟨o1,o2,o3,o4⟩:=hon x (List.mem_of_getElem? ex)
   walk_at "w"
   refine aC6 rfl hC ?_
   walk_at "w"
   refine hp H' h v x _ s' o1 (κ.iG px s') fun l H2 s2 hws=>?_
   have s02:=s'.trans s2
   walk_at "w"
   refine⟨α,κ,l,d,W h x,bs,g,rfl,hws,κ.eN hd s02,o2,o3,o4,fun H3 s3=>?_⟩
   have s03:=s02.trans s3
   walk_at "w"
   have nx:x∉ps.take i:=fun z=>by
    have hi:i < ps.length:=(List.getElem?_eq_some_iff.mp ex).1
    obtain⟨j,hj,ej⟩:=List.getElem_of_mem z
    rw[List.length_take] at hj
    rw[List.getElem_take] at ej
    have e2:ps[i]=x:=(List.getElem?_eq_some_iff.mp ex).2
    have:=(List.getElem_inj hnd).mp (ej.trans e2.symm)
    omega
   obtain⟨H4,p4,d4,k4⟩:=κ.put (κ.eN dw' (s2.trans s3)) (κ.iG px s03) nx (by rw[List.length_take];omega)
   refine⟨wd,H4,rfl,p4,?_⟩
   walk_at "w"
   refine⟨fun b o e=>k4 _ _ (s03 _ _ e) (bA nwd e),?_,_,rfl⟩
   rw[gF ex]
   exact d4
  ·subst e
   walk_at "w"
   rw[lus,List.take_length] at dw'
   exact k wd H' s' nwd dw'
structure aBz{α:Type}(κ:PK α)(H:Hp)(a:Addr)(Ls:List (List α)):Prop where
 ex:∃as,H a=some (.lst (as.map V.ref))/\RL (fun b ps=>∃us,H b=some (.lst us)/\PVs κ H us ps) as Ls
theorem aBz.same{α:Type}{κ:PK α}{H H':Hp}{a:Addr}{Ls:List (List α)}(h:aBz κ H a Ls)(s:aJ H H'):aBz κ H' a Ls:=
 let ⟨as,e,r⟩:=h.ex;⟨as,s _ _ e,r.imp fun _ _ ⟨us,e,p⟩=>⟨us,s _ _ e,p.same s⟩⟩
structure aDq{α:Type}(κ:PK α)(H:Hp)(a:Addr)(Ls:List (List α))(F:Nat->α->Int):Prop where
 ex:∃ds:List Addr,H a=some (.lst (ds.map V.ref))/\ds.length=Ls.length/\∀(i:Nat) d ps,ds[i]?=some d->Ls[i]?=some ps->κ.da H d ps (F i)
theorem aDq.same{α:Type}{κ:PK α}{H H':Hp}{a:Addr}{Ls:List (List α)}{F:Nat->α->Int}(h:aDq κ H a Ls F)(s:aJ H H'):aDq κ H' a Ls F:=
 let ⟨ds,e,l,r⟩:=h.ex;⟨ds,s _ _ e,l,fun i d ps h1 h2=>κ.eN (r i d ps h1 h2) s⟩
structure aHC{α:Type}(W:Nat->α->List (Wy α))(Ls:List (List α)):Prop where
 pos:0 < Ls.length
 nd:∀ps∈Ls,ps.Nodup
 few:∀ps∈Ls,ps.length<=10000
 ne:∀(i:Nat) ps x,Ls[i]?=some ps->i+1 < Ls.length->x∈ps->W i x≠[]/\(W i x).length<=10000
 on:∀(i:Nat) ps qs x w,Ls[i]?=some ps->Ls[i+1]?=some qs->x∈ps->w∈W i x->w.2.1∈qs
theorem uJ{xs:List V}(h:0 < xs.length):pO xs (-1)=xs[xs.length - 1]?:=by
 have e:ixN xs.length (-1)=some (xs.length - 1):=by
  unfold ixN
  rw[if_neg (by omega),if_pos (by omega)]
  congr 1
  omega
 unfold pO
 rw[e]
 rfl
theorem PK.aFa{α:Type}{κ:PK α}{H H':Hp}{d p:Addr}{ps:List α}{g:α->Int}(h:κ.da H d ps g)(n:d≠p)(k:bZ p H H'):κ.da H' d ps g:=by
 cases κ with
 |ik f i=>exact k _ _ h n
 |tk f i=>exact k _ _ h n
theorem PK.vM{α:Type}{κ:PK α}{H H':Hp}{v:V}{x:α}{p:Addr}{xs:List V}(h:κ.pv H v x)(gp:H p=some (.lst xs))(k:bZ p H H'):κ.pv H' v x:=by
 cases κ with
 |ik f i=>exact h
 |tk f i=>
  obtain⟨b,e,hb⟩:=h
  exact⟨b,e,k _ _ hb fun z=>by rw[z,gp] at hb;cases hb⟩
theorem nJ{as:List Addr}{i:Nat}{a:Addr}(h:as[i]?=some a):(as.map V.ref)[i]?=some (.ref a):=by rw[List.getElem?_map,h];rfl
def mT(K:PySem.W.Frag)(C:Addr->Sp->Prop):Sp:=fun vs H Q _=>∃(α:Type) (κ:PK α) (la f:Addr) (Ls:List (List α)) (W:Nat->α->List (Wy α)) (L:Nat->α->Prop),vs=[.ref la,.ref f]/\aBz κ H la Ls/\aHC W Ls/\Ls.length<=10000/\uA κ C H f W L/\
 (∀(i:Nat) ps x,Ls[i]?=some ps->i+1 < Ls.length->x∈ps->L i x)/\∀q H',aJ H H'->H q=none->aDq κ H' q Ls (fun i=>wF W (Ls.length - 1 - i) i)->Q (.ref q) H'
theorem vN{P:Program}{w:World}{K:PySem.W.Frag}{mg:Str->Option Value}{base:Heap}{a:nA}(tx:Txt K mg a):bR P w K mg base iV 11 a.fM a.fO ["layers","ways_at"] (mT K (Clo P w K mg base (8+1))):=by
 have aAi:=xZ (P:=P) (w:=w) (base:=base) tx
 refine tx.iQ.ok cD (fun vs H Q E h=>?_) (fun cdv A outer s H vs Q E hr h=>?_)
 ·obtain⟨α,κ,la,f,Ls,W,L,rfl,_⟩:=h
  rfl
 ·obtain⟨α,κ,la,f,Ls,W,L,rfl ,hla,hok,hlen,hW,hL,k⟩:=h
  have hu:=nM hr
  refine Z.root (Z.aC (Z.aM (i:=2) cD.nd rfl (Or.inl rfl) Z.kS)
   (Z.aC (Z.cE PassesOwn.never rfl (Z.cP (K':=K) (Z.aK (K':=K) (Z.pv 0) (Z.sS pU Z.aA) (fun _ _=>rfl))) (Z.aP (i:=3) cD.nd rfl (Or.inl rfl)) (Z.aG (Z.oH hu (Z.pv 2) (Z.pv 3) Z.aA)))
   (Z.aC (Z.aM (i:=4) cD.nd rfl (Or.inl rfl) (Z.xK (Z.pv 2)))
   (Z.aC (Z.cE PassesOwn.never rfl (Z.rZ (by rfl) tx.dF (Z.aD (Z.aN gG (Z.aI (rc:=nQ K) bT (by rfl) tx.fT eQ (Z.aD (Z.pv 0) Z.aB)) Z.aA) (Z.aD (Z.sS pU Z.aA) (Z.aD (Z.sS pU Z.aA) Z.aB)))) (Z.aP (i:=5) cD.nd rfl (Or.inl rfl)) (Z.aC (Z.aM (i:=2) cD.nd rfl (Or.inl rfl) (Z.aF (aAi) (hr.mono (by decide)) (by rfl) tx.qW tx.kX.kp tx.qV .nil aQ (Z.aD (Z.aK (K':=K) (Z.pv 0) (Z.pv 5) (fun _ _=>rfl)) (Z.aD (Z.pv 5) (Z.aD (Z.pv 2) (Z.aD (Z.pv 1) Z.aB))))))
   (Z.aG (Z.fB (Z.iZ (K':=K) (Z.pv 4) (Z.aD (Z.pv 2) Z.aB))))))
   (Z.aG (Z.aS (Z.tQ rfl (by rfl) tx.iT (by rfl) tx.iU (Z.aD (Z.pv 4) Z.aB)))))))) ?_
  obtain⟨as,ga,ra⟩:=hla.ex
  have las:=ra.len
  have pos:=hok.pos
  obtain⟨n,hn⟩ : ∃n,Ls.length=n+1:=⟨Ls.length - 1,by omega⟩
  have el:as[n]?=some as[n]:=List.getElem?_eq_getElem (by omega)
  have ll:Ls[n]?=some Ls[n]:=List.getElem?_eq_getElem (by omega)
  obtain⟨us,gu,pu⟩:=ra.at_ n _ _ el ll
  generalize as[n]=an at el gu
  generalize Ls[n]=pn at ll pu
  have lpn:=hok.few pn (List.mem_of_getElem? ll)
  have ndn:=hok.nd pn (List.mem_of_getElem? ll)
  have lus:=pu.1
  have ai:pO (as.map V.ref) (-1)=some (.ref an):=by
   rw[uJ (by rw[List.length_map];omega),List.length_map,las,hn,Nat.add_sub_cancel]
   exact nJ el
  refine aR (σ:=[some (.ref la),some (.ref f),none,none,none,none]) rfl ?_
  walk_at "w"
  refine κ.new (fun _=>0) fun bd H1 nbd s1 db=>?_
  have ga1:=s1 _ _ ga
  walk_at "w"
  refine kR (bQ.of (s1 _ _ gu)) ?_
  refine rV (xs:=us) (fun i σ' H'=>aJ H H'/\κ.da H' bd (pn.take i) (fun _=>0)/\∃z,σ'=[some (.ref la),some (.ref f),some (.ref bd),z,none,none]) ⟨s1,db,_,rfl⟩
   (fun i σ' H' hi ⟨s',_⟩=>bQ.of (s' _ _ gu)) (fun i v σ' H' hv ⟨s',dw',z,e⟩=>?_) (fun σ' H2 ⟨s2,d2,z,e⟩=>?_)
  ·subst e
   obtain⟨x,ex,px⟩:=pu.get hv
   walk_at "w"
   have nx:x∉pn.take i:=fun z=>by
    obtain⟨j,hj,ej⟩:=List.getElem_of_mem z
    rw[List.length_take] at hj
    rw[List.getElem_take] at ej
    have e2:pn[i]'((List.getElem?_eq_some_iff.mp ex).1)=x:=(List.getElem?_eq_some_iff.mp ex).2
    have:=(List.getElem_inj ndn).mp (ej.trans e2.symm)
    omega
   obtain⟨H4,p4,d4,k4⟩:=κ.put dw' (κ.iG px s') nx (by rw[List.length_take];omega)
   refine⟨bd,H4,rfl,p4,?_⟩
   walk_at "w"
   refine⟨fun b o e=>k4 _ _ (s' _ _ e) (bA nbd e),?_,_,rfl⟩
   rw[gF ex]
   exact d4
  ·subst e
   rw[lus,List.take_length] at d2
   have ga2:=s2 _ _ ga
   walk_at "w"
   intro lw nlw
   obtain⟨H3,i3,s3,g3⟩:=nw _ nlw;rw[i3]
   have s03:=s2.trans s3
   have ga3:=s03 _ _ ga
   have nlH:H lw=none:=s2.free nlw
   walk_at "w"
   refine⟨_,_,rfl,by rw[List.length_map,las];omega,?_⟩
   rw[show(((as.map V.ref).length:Int) - 2 - -1).toNat=n by rw[List.length_map,las,hn];omega]
   refine aEP (n:=n) (fun i σ' H'=>aJ H H'/\(∃ds:List Addr,H' lw=some (.lst (ds.map V.ref))/\ds.length=i+1/\(∃d,ds[i]?=some d/\σ'[2]?=some (some (.ref d)))/\∀(j:Nat) d ps,ds[j]?=some d->Ls[n - j]?=some ps->κ.da H' d ps (wF W j (n - j)))/\∃b z5,σ'=[some (.ref la),some (.ref f),some (.ref b),z,some (.ref lw),z5])
    ⟨s03,⟨[bd],g3,rfl,⟨bd,rfl,rfl⟩,fun j d ps h1 h2=>?_⟩,_,_,rfl⟩ (fun i σ' H' hi ⟨s',⟨ds,gd,ld,⟨d,ed,e2⟩,hd⟩,b,z5,e⟩=>?_) (fun σ' H' ⟨s',⟨ds,gd,ld,⟨d,ed,e2⟩,hd⟩,b,z5,e⟩=>?_)
   ·match j,h1 with
    |0,h1=>
     cases h1
     rw[Nat.sub_zero,ll] at h2
     cases h2
     exact κ.eN d2 s3
    |j+1,h1=>simp at h1
   ·subst e
    have e2':some (some (V.ref b))=some (some (.ref d)):=e2
    cases e2'
    have hh:(((as.map V.ref).length:Int) - 2 - (i:Int))=((n - 1 - i:Nat):Int):=by rw[List.length_map,las,hn];omega
    rw[hh]
    have ea:as[n - 1 - i]?=some as[n - 1 - i]:=List.getElem?_eq_getElem (by omega)
    have eL:Ls[n - 1 - i]?=some Ls[n - 1 - i]:=List.getElem?_eq_getElem (by omega)
    have eL2:Ls[n - i]?=some Ls[n - i]:=List.getElem?_eq_getElem (by omega)
    obtain⟨us',gu',pu'⟩:=ra.at_ _ _ _ ea eL
    generalize as[n - 1 - i]=ax at ea gu'
    generalize Ls[n - 1 - i]=px at eL pu'
    have db':=hd i d _ ed eL2
    generalize Ls[n - i]=qx at eL2 db'
    have ga':=s' _ _ ga
    have ix:pO (as.map V.ref) ((n - 1 - i:Nat):Int)=some (.ref ax):=cU (nJ ea)
    walk_at "w"
    have e1:n - 1 - i+1=n - i:=by omega
    refine⟨α,κ,ax,d,f,n - 1 - i,us',px,qx,wF W i (n - i),W,L,rfl,s' _ _ gu',pu'.same s',hok.nd px (List.mem_of_getElem? eL),hok.few px (List.mem_of_getElem? eL),db',hW.same s',fun x hx=>?_,fun q H4 s4 nq dq=>?_⟩
    ·obtain⟨n1,n2⟩:=hok.ne _ px x eL (by omega) hx
     exact⟨hL _ px x eL (by omega) hx,n1,n2,fun w hw=>hok.on _ px qx x w eL (by rw[e1];exact eL2) hx hw⟩
    have gd4:=s4 _ _ gd
    walk_at "w"
    refine jP (bQ.of gd4) ?_
    walk_at "w"
    refine mZ (xs:=ds.map V.ref) gd4 (Nat.lt_of_lt_of_le (by rw[List.length_map];omega:(ds.map V.ref).length < 20000) (cC (by decide))) ?_
    obtain⟨H5,i5,k5,g5⟩:=wr H4 lw _;rw[i5]
    walk_at "w"
    refine⟨fun b o e=>k5 _ _ (s4 _ _ (s' _ _ e)) (bA nlH e),⟨ds ++ [q],by rw[g5,List.map_append];rfl,by rw[List.length_append,ld];rfl,⟨q,by rw[List.getElem?_append_right (by omega),ld,Nat.sub_self];rfl,rfl⟩,fun j d ps h1 h2=>?_⟩,_,_,rfl⟩
    by_cases hj:j < i+1
    ·rw[List.getElem?_append_left (by omega)] at h1
     have z:=κ.eN (hd j d ps h1 h2) s4
     exact κ.aFa z (fun y=>κ.aHB z (by rw[y];exact gd4)) k5
    ·have hj2:j < (ds ++ [q]).length:=(List.getElem?_eq_some_iff.mp h1).1
     rw[List.length_append,List.length_singleton] at hj2
     obtain rfl:j=i+1:=by omega
     rw[List.getElem?_append_right (by omega),ld,Nat.sub_self] at h1
     cases h1
     rw[show n - (i+1)=n - 1 - i by omega,eL] at h2
     cases h2
     have z:=κ.aFa dq (fun y=>κ.aHB dq (by rw[y];exact gd4)) k5
     have ee:(fun x=>cT (wF W i (n - i)) (W (n - 1 - i) x))=wF W (i+1) (n - (i+1)):=by
      rw[show n - (i+1)=n - 1 - i by omega]
      funext x
      show _=cT (wF W i (n - 1 - i+1)) (W (n - 1 - i) x)
      rw[e1]
     rw[<-ee]
     exact z
   ·subst e
    walk_at "w"
    refine⟨lw,_,rfl,gd,fun q nq=>?_⟩
    obtain⟨H5,i5,s5,g5⟩:=nw _ nq;rw[i5]
    walk_at "w"
    refine k q H5 (s'.trans s5) (s'.free nq) ⟨⟨ds.reverse,by rw[g5,List.map_reverse],by rw[List.length_reverse,ld,hn],fun i d ps h1 h2=>?_⟩⟩
    have hi:i < ds.length:=by rw[<-List.length_reverse];exact(List.getElem?_eq_some_iff.mp h1).1
    rw[List.getElem?_reverse hi] at h1
    have z:=hd _ d ps h1 (by rw[show n - (ds.length - 1 - i)=i by omega];exact h2)
    rw[show n - (ds.length - 1 - i)=i by omega,show ds.length - 1 - i=Ls.length - 1 - i by omega] at z
    exact κ.eN z s5
def aAL(K:W.Frag):Sp:=fun vs H Q _=>∃(α:Type) (κ:PK α) (l d:Addr) (ws:List (Wy α)) (ps:List α) (g:α->Int),vs=[.ref l,.ref d]/\rN κ H l ws/\κ.da H d ps g/\ws≠[]/\ws.length<=10000/\(∀w∈ws,w.2.1∈ps)/\
 ∀a w H',aJ H H'->jU g ws=some w->xD κ H' a w->Q (.ref a) H'
theorem aAM{P:Program}{w:World}{K:PySem.W.Frag}{mg:Str->Option Value}{base:Heap}{a:nA}(tx:Txt K mg a):bR P w K mg base iV 2 a.kC a.kD ["ways","behind"] (aAL K):=by
 have uB:=xE (P:=P) (w:=w) (base:=base) tx
 refine tx.pA.ok sV (fun vs H Q E h=>?_) (fun cdv A outer s H vs Q E hr h=>?_)
 ·obtain⟨α,κ,l,d,ws,ps,g,rfl,_⟩:=h
  rfl
 ·obtain⟨α,κ,l,d,ws,ps,g,rfl ,hw,hd,hne,hlen,hin,k⟩:=h
  have hu:=nM hr
  refine Z.root (Z.aC (Z.aM (i:=2) sV.nd rfl (Or.inr rfl) (Z.aF (uB) (hr.mono (by decide)) (by rfl) tx.tY tx.o9.kp tx.tX .nil aQ (Z.aD (Z.pv 0) (Z.aD (Z.pv 1) Z.aB))))
   (Z.aG (Z.aS (Z.aK (K':=K) (Z.fE (k:=1) (idx:=[1,2]) (N:=["way","behind","least"]) (fW (sc:=aE dW) (NX:=["ways","behind","least"]) rfl rfl rfl (by decide +kernel)) rfl (Z.cP (K':=K) (Z.pv 0)) (fun _ _ _ _=>(Z.aP (i:=0) (show(["way","behind","least"]:List Str).Nodup by decide +kernel) rfl (Or.inl rfl))) (kQ (by decide)) (fun _ _ _ _=>(Z.rQ (Z.bP (r:=nP K) (eR hu) (Z.aN bL (Z.aK (K':=K) (Z.pv 0) Z.aA (fun _ _=>rfl)) (Z.nU hu (Z.pv 1) (Z.aK (K':=K) (Z.pv 0) Z.aA (fun _ _=>rfl)))) (Z.pv 2) (bN _)))) (fun _ _ _ _=>(Z.pv 0))) Z.aA (fun _ _=>rfl))))) ?_
  refine aR (σ:=[some (.ref l),some (.ref d),none]) rfl ?_
  walk_at "w"
  refine⟨α,κ,l,d,ws,ps,g,rfl,hw,hd,hne,hlen,hin,fun H1 s1=>?_⟩
  obtain⟨as,gl,rl⟩:=(hw.same s1).ex
  have las:=rl.len
  have hd1:=κ.eN hd s1
  walk_at "w"
  refine kR (bQ.of gl) ?_
  refine gK (xs:=as.map V.ref) (fun j us H'=>H'=H1/\us.length<=j/\(us=[]->∀w∈ws.take j,¬w.2.2+g w.2.1=cT g ws)/\∀u,us[0]?=some u->∃a w,u=.ref a/\jU g ws=some w/\xD κ H1 a w) ⟨rfl,Nat.le_refl _,(fun _ w hw=>by simp at hw),(fun u hu=>by simp at hu)⟩ (cC (by rw[List.length_map];omega))
   (fun j us H' hj ⟨e0,e1,_⟩=>⟨by rw[e0];exact bQ.of gl,e1⟩) (fun j v us H' hv ⟨e0,e1,e2,e3⟩=>?_) (fun us H' ⟨e0,e1,e2,e3⟩=>?_)
  ·subst e0
   obtain⟨a1,w,ea,rfl,ew,vv,g1,hp⟩:=rl.gt hv
   walk_at "w"
   refine⟨d,_,rfl,κ.get hd1 hp (hin w (List.mem_of_getElem? ew)),?_⟩
   walk_at "w"
   refine cV (fun h=>?_) (fun h=>?_)
   ·walk_at "w"
    refine⟨rfl,by rw[List.length_append,List.length_singleton];omega,(fun z=>by simp at z),fun u hu=>?_⟩
    cases us with
    |nil=>
     cases hu
     refine⟨a1,w,rfl,?_,vv,g1,hp⟩
     unfold jU
     exact aE9 ew (fun x hx=>decide_eq_false (e2 rfl x hx)) (decide_eq_true h)
    |cons y r=>exact e3 u hu
   ·walk_at "w"
    refine⟨rfl,by omega,fun z x hx=>?_,e3⟩
    rw[gF ew] at hx
    rcases List.mem_append.mp hx with q|q
    ·exact e2 z x q
    ·rw[List.mem_singleton.mp q];exact h
  subst e0
  rw[List.length_map,las,List.take_length] at e2
  obtain⟨w0,hw0,hw1⟩:=pF g hne
  cases us with
  |nil=>exact absurd hw1 (e2 rfl w0 hw0)
  |cons u0 r=>
   obtain⟨a1,w,rfl,f1,hA⟩:=e3 u0 rfl
   intro l2 n2
   obtain⟨H2,i2,s2,g2⟩:=nw _ n2;rw[i2]
   have ix:pO (V.ref a1::r) 0=some (.ref a1):=cU (j:=0) rfl
   walk_at "w"
   exact k a1 w H2 (s1.trans s2) f1 (hA.same s2)
def vO(K:PySem.W.Frag)(C:Addr->Sp->Prop):Sp:=fun vs H Q _=>∃(α:Type) (κ:PK α) (v:V) (x:α) (p0:List α) (lw f:Addr) (Ls:List (List α)) (W:Nat->α->List (Wy α)) (L:Nat->α->Prop),vs=[v,.ref lw,.ref f]/\κ.pv H v x/\aDq κ H lw Ls (fun i=>wF W (Ls.length - 1 - i) i)/\Ls[0]?=some p0/\x∈p0/\aHC W Ls/\Ls.length<=10000/\uA κ C H f W L/\
 (∀(i:Nat) ps x,Ls[i]?=some ps->i+1 < Ls.length->x∈ps->L i x)/\∀q H',aJ H H'->H q=none->H' q=some (.lst ((t9 W (Ls.length - 1) 0 x).map V.int))->Q (.ref q) H'
theorem aCo{P:Program}{w:World}{K:PySem.W.Frag}{mg:Str->Option Value}{base:Heap}{a:nA}(tx:Txt K mg a):bR P w K mg base iV 10 a.mE a.mF ["place","worths","ways_at"] (vO K (Clo P w K mg base (8+1))):=by
 have aCp:=aAM (P:=P) (w:=w) (base:=base) tx
 refine tx.qX.ok gX (fun vs H Q E h=>?_) (fun cdv A outer s H vs Q E hr h=>?_)
 ·obtain⟨α,κ,v,x,p0,lw,f,Ls,W,L,rfl,_⟩:=h
  rfl
 ·obtain⟨α,κ,v,x,p0,lw,f,Ls,W,L,rfl ,hv,hds,hp0,hx0,hok,hlen,hW,hL,k⟩:=h
  have hu:=nM hr
  refine Z.root (Z.aC (Z.aM (i:=3) gX.nd rfl (Or.inl rfl) (Z.eO Z.aB))
   (Z.aC (Z.cE PassesOwn.never rfl (Z.cO (by rfl) tx.dF (Z.aD (Z.aN gG (Z.aI (rc:=nQ K) bT (by rfl) tx.fT eQ (Z.aD (Z.pv 1) Z.aB)) Z.aA) Z.aB)) (Z.aP (i:=4) gX.nd rfl (Or.inl rfl)) (Z.aC (Z.aM (i:=5) gX.nd rfl (Or.inl rfl) (Z.aF (aCp) (hr.mono (by decide)) (by rfl) tx.u6 tx.pA.kp tx.u5 .nil aQ (Z.aD (Z.aC7 (P:=P) (w:=w) (K:=K) (mg:=mg) (base:=base) (i:=2) (k:=8+1) (hr.mono (by decide)) (Z.aD (Z.pv 4) (Z.aD (Z.pv 0) Z.aB))) (Z.aD (Z.aK (K':=K) (Z.pv 1) (Z.aN bL (Z.pv 4) Z.aA) (fun _ _=>rfl)) Z.aB))))
   (Z.aC (Z.fB (Z.iZ (K':=K) (Z.pv 3) (Z.aD (Z.aK (K':=K) (Z.pv 5) Z.aA (fun _ _=>rfl)) Z.aB)))
   (Z.aG (Z.aM (i:=0) gX.nd rfl (Or.inl rfl) (Z.aK (K':=K) (Z.pv 5) Z.aA (fun _ _=>rfl)))))))
   (Z.aG (Z.aS (Z.pv 3))))) ?_
  obtain⟨ds,gds,lds,hds'⟩:=hds.ex
  obtain⟨spc,hC,hp⟩:=hW.ex
  have pos:=hok.pos
  obtain⟨n,hn⟩ : ∃n,Ls.length=n+1:=⟨Ls.length - 1,by omega⟩
  refine aR (σ:=[some v,some (.ref lw),some (.ref f),none,none,none]) rfl ?_
  walk_at "w"
  intro lr nlr
  obtain⟨H1,i1,s1,g1⟩:=nw _ nlr;rw[i1]
  have gds1:=s1 _ _ gds
  walk_at "w"
  refine⟨by rw[List.length_map];omega,by rw[List.length_map];omega,?_⟩
  rw[show(((ds.map V.ref).length:Int) - 1).toNat=n by rw[List.length_map,lds,hn];omega]
  refine jM (n:=n) (fun i σ' H'=>aJ H H'/\∃(row:List Int) (u:V) (y:α) (ps:List α) (z4 z5:Option V),σ'=[some u,some (.ref lw),some (.ref f),some (.ref lr),z4,z5]/\H' lr=some (.lst (row.map V.int))/\row.length=i/\κ.pv H' u y/\Ls[i]?=some ps/\y∈ps/\row++t9 W (n - i) i y=t9 W n 0 x)
   ⟨s1,[],v,x,p0,_,_,rfl,g1,rfl,κ.iG hv s1,hp0,hx0,rfl⟩ (fun i σ' H' hi ⟨s',row,u,y,ps,z4,z5,e,gr,lr',py,eps,hy,hrow⟩=>?_) (fun σ' H' ⟨s',row,u,y,ps,z4,z5,e,gr,lr',py,eps,hy,hrow⟩=>?_)
  ·subst e
   have eq:Ls[i+1]?=some Ls[i+1]:=List.getElem?_eq_getElem (by omega)
   have ed:ds[i+1]?=some ds[i+1]:=List.getElem?_eq_getElem (by omega)
   have hdd:=hds' (i+1) _ _ ed eq
   generalize ds[i+1]=dx at ed hdd
   generalize Ls[i+1]=qs at eq hdd
   obtain⟨n1,n2⟩:=hok.ne i ps y eps (by omega) hy
   have gds':=s' _ _ gds
   have ix:pO (ds.map V.ref) ((0+(i:Int))+1)=some (.ref dx):=by
    rw[show(0+(i:Int))+1=((i+1:Nat):Int) by push_cast;omega]
    exact cU (nJ ed)
   walk_at "w"
   refine aC6 rfl hC ?_
   walk_at "w"
   rw[show(0+(i:Int))=(i:Int) by omega]
   refine hp H' i u y _ s' (hL i ps y eps (by omega) hy) py fun l H2 s2 hws=>?_
   have gds2:=s2 _ _ gds'
   have ix2:pO (ds.map V.ref) ((i:Int)+1)=some (.ref dx):=by rw[<-ix,show(0+(i:Int))=(i:Int) by omega]
   walk_at "w"
   refine⟨α,κ,l,dx,W i y,qs,_,rfl,hws,κ.eN hdd (s'.trans s2),n1,n2,fun w hw=>hok.on i ps qs y w eps eq hy hw,fun a w H3 s3 fw hA=>?_⟩
   obtain⟨vv,ga,hpv⟩:=hA
   have gr3:=(s2.trans s3) _ _ gr
   have hwm:w∈W i y:=by
    unfold jU at fw
    exact List.mem_of_find?_eq_some fw
   walk_at "w"
   refine jP (bQ.of gr3) ?_
   walk_at "w"
   refine mZ (xs:=row.map V.int) gr3 (Nat.lt_of_lt_of_le (by rw[List.length_map];omega:(row.map V.int).length < 20000) (cC (by decide))) ?_
   obtain⟨H4,i4,k4,g4⟩:=wr H3 lr _;rw[i4]
   have na:a≠lr:=fun z=>by rw[z,gr3] at ga;cases ga
   have ga4:=k4 _ _ ga na
   have hpv4:κ.pv H4 vv w.2.1:=κ.vM hpv gr3 k4
   walk_at "w"
   refine⟨fun b o e=>k4 _ _ ((s'.trans (s2.trans s3)) _ _ e) (bA nlr e),row ++ [w.1],vv,w.2.1,qs,_,_,rfl,by rw[g4,List.map_append];rfl,by rw[List.length_append,lr'];rfl,hpv4,eq,hok.on i ps qs y w eps eq hy hwm,?_⟩
   rw[<-hrow,List.append_assoc]
   congr 1
   obtain⟨m,hm⟩ : ∃m,n - i=m+1:=⟨n - i - 1,by omega⟩
   rw[hm,show n - (i+1)=m by omega]
   have fw':jU (wF W m (i+1)) (W i y)=some w:=by rw[<-fw,show Ls.length - 1 - (i+1)=m by omega]
   show _=(match jU (wF W m (i+1)) (W i y) with|none=>[]|some w=>w.1::t9 W m (i+1) w.2.1)
   rw[fw']
   rfl
  ·subst e
   walk_at "w"
   rw[Nat.sub_self,show t9 W 0 n y=[] from rfl,List.append_nil] at hrow
   refine k lr H' s' nlr ?_
   rw[gr,hrow,hn,Nat.add_sub_cancel]
def On(m:MS)(s s':Int×Int):Prop:=∃on,Bit on/\(s.1=on\/s.2=0)/\s'=lK m s.1 s.2 on
def Rc(m:MS)(a:Int×Int):Nat->Int×Int->Prop
 |0,s=>s=a
 |n+1,s=>∃q,Rc m a n q/\On m q s
def sLt(a b:Int×Int):Prop:=a.1 < b.1\/(a.1=b.1/\a.2 < b.2)
def St1(m:MS)(s:Int×Int):Prop:=(s.1=1/\0<=s.2/\s.2 < m.up)\/(s.1=0/\0<=s.2/\s.2 < 60)
theorem St1.st0{m:MS}(g:m.Good){s:Int×Int}(h:St1 m s):St0 s.1 s.2:=by
 obtain⟨u0,u1⟩:=g.up
 rcases h with ⟨a,b,c⟩|⟨a,b,c⟩
 ·exact⟨.inr a,b,by omega⟩
 ·exact⟨.inl a,b,c⟩
theorem Rc.st{m:MS}(g:m.Good){a:Int×Int}(h:St1 m a):∀{n:Nat}{s:Int×Int},Rc m a n s->St0 s.1 s.2/\(s.2 < 12\/(s.1=0/\s.2=a.2 - n))
 |0,s,hs=>by
  have hs':s=a:=hs
  subst hs'
  obtain⟨u0,u1⟩:=g.up
  refine⟨h.st0 g,?_⟩
  rcases h with ⟨x,y,z⟩|⟨x,y,z⟩
  ·exact .inl (by omega)
  ·exact .inr ⟨x,by omega⟩
 |n+1,s,hs=>by
  obtain⟨q,hq,on,bon,may,rfl⟩:=hs
  obtain⟨i1,i2⟩:=Rc.st g h hq
  obtain⟨u0,u1⟩:=g.up
  obtain⟨d0,d1⟩:=g.down
  refine⟨i1.lK g bon,?_⟩
  unfold My.lK
  by_cases e:q.1=on
  ·rw[if_pos e]
   rcases i2 with i2|⟨i2,i3⟩
   ·exact .inl (by show max (q.2 - 1) 0 < 12;omega)
   ·by_cases z:q.2 - 1 < 12
    ·exact .inl (by show max (q.2 - 1) 0 < 12;omega)
    ·refine .inr ⟨by show on=0;omega,?_⟩
     show max (q.2 - 1) 0=a.2 - ((n+1:Nat):Int)
     omega
  ·rw[if_neg e]
   split
   ·exact .inl (by show m.up - 1 < 12;omega)
   ·exact .inl (by show m.down - 1 < 12;omega)
theorem Rc.few{m:MS}(g:m.Good){a:Int×Int}(h:St1 m a){n:Nat}{ks:List (Int×Int)}(nd:ks.Nodup)(hr:∀k∈ks,Rc m a n k):ks.length<=25:=by
 have:=aHz 25 (ks.map fun k=>if k.2 < 12 then (k.1*12+k.2).toNat else 24) (by
  rw[List.Nodup,List.pairwise_map]
  refine nd.imp_of_mem ?_
  intro x y hx hy hxy z
  obtain⟨⟨a1,a2,a3⟩,a4⟩:=Rc.st g h (hr x hx)
  obtain⟨⟨b1,b2,b3⟩,b4⟩:=Rc.st g h (hr y hy)
  refine hxy ?_
  by_cases c1:x.2 < 12 <;> by_cases c2:y.2 < 12
  ·rw[if_pos c1,if_pos c2] at z
   refine Prod.ext ?_ ?_
   ·rcases a1 with a1|a1 <;> rcases b1 with b1|b1 <;> rw[a1,b1] <;> rw[a1,b1] at z <;> omega
   ·rcases a1 with a1|a1 <;> rcases b1 with b1|b1 <;> rw[a1,b1] at z <;> omega
  ·rw[if_pos c1,if_neg c2] at z
   rcases a1 with a1|a1 <;> rw[a1] at z <;> omega
  ·rw[if_neg c1,if_pos c2] at z
   rcases b1 with b1|b1 <;> rw[b1] at z <;> omega
  ·rcases a4 with a4|⟨a4,a5⟩
   ·omega
   ·rcases b4 with b4|⟨b4,b5⟩
    ·omega
    ·exact Prod.ext (by omega) (by omega)) (fun x hx=>by
  obtain⟨k,hk,rfl⟩:=List.mem_map.mp hx
  obtain⟨⟨a1,a2,a3⟩,a4⟩:=Rc.st g h (hr k hk)
  split
  ·rcases a1 with a1|a1 <;> rw[a1] <;> omega
  ·omega)
 simpa using this
structure aAN(m:MS)(a:Int×Int)(Ls:List (List (Int×Int))):Prop where
 at_:∀(i:Nat) ps,Ls[i]?=some ps->ps.Pairwise sLt/\∀s,s∈ps↔Rc m a i s
theorem aEr{ps:List (Int×Int)}(h:ps.Pairwise sLt):ps.Nodup:=h.imp fun {a b} hab z=>by
 subst z
 rcases hab with y|⟨_,y⟩ <;> omega
def gnT(m:MS)(p:Int):Int:=p*m.least+gn p m.pieces
def aKR(m:MS)(s:Int×Int)(on:Int):Int:=aFR m s.1 [on]
def hw(m:MS)(p:Int)(s:Int×Int)(on:Int):Int:=aKR m s on - on*gnT m p
def rO(s:Int×Int)(on:Int):Bool:=decide (s.1=on) || decide (s.2=0)
def vP(m:MS)(p:Int)(s:Int×Int):List (Wy (Int×Int)):=(([0,1]:List Int).filter (rO s)).map fun on=>(on,lK m s.1 s.2 on,hw m p s on)
def Wr(m:MS)(ps:List Int)(i:Nat)(s:Int×Int):List (Wy (Int×Int)):=vP m (ps.getD i 0) s
theorem iH{s:Int×Int}{on:Int}:rO s on=true↔s.1=on\/s.2=0:=by unfold rO;simp
theorem yQ{m:MS}{p:Int}{s:Int×Int}{w:Wy (Int×Int)}:w∈vP m p s↔∃on,Bit on/\(s.1=on\/s.2=0)/\w=(on,lK m s.1 s.2 on,hw m p s on):=by
 unfold vP
 rw[List.mem_map]
 constructor
 ·rintro ⟨on,h,rfl⟩
  obtain⟨h1,h2⟩:=List.mem_filter.mp h
  exact⟨on,by simpa [Bit] using h1,iH.mp h2,rfl⟩
 ·rintro ⟨on,b,h,rfl⟩
  exact⟨on,List.mem_filter.mpr ⟨by simpa [Bit] using b,iH.mpr h⟩,rfl⟩
theorem aCq{m:MS}{p:Int}{s:Int×Int}(b:Bit s.1):vP m p s≠[]:=fun z=>by
 have:_∈vP m p s:=yQ.mpr ⟨s.1,b,.inl rfl,rfl⟩
 rw[z] at this
 cases this
theorem aCr(m:MS)(p:Int)(s:Int×Int):(vP m p s).length<=2:=by
 unfold vP
 rw[List.length_map]
 exact List.length_filter_le ..
theorem aDr(m:MS)(p:Int)(s:Int×Int):aHA (vP m p s):=by
 unfold aHA vP
 rw[List.pairwise_map]
 exact List.Pairwise.filter _ (by simp)
theorem aCs{m:MS}(g:m.Good){a:Int×Int}(h:St1 m a)(qs:List Int){Ls:List (List (Int×Int))}(pos:0 < Ls.length)(hl:aAN m a Ls):aHC (Wr m qs) Ls where
 pos:=pos
 nd:=fun ps hp=>by
  obtain⟨i,hi⟩:=List.getElem?_of_mem hp
  exact aEr (hl.at_ i ps hi).1
 few:=fun ps hp=>by
  obtain⟨i,hi⟩:=List.getElem?_of_mem hp
  obtain⟨h1,h2⟩:=hl.at_ i ps hi
  exact Nat.le_trans (Rc.few g h (aEr h1) fun k hk=>(h2 k).mp hk) (by decide)
 ne:=fun i ps x hi _ hx=>by
  have:=((Rc.st g h (((hl.at_ i ps hi).2 x).mp hx)).1).1
  exact⟨aCq this,Nat.le_trans (aCr ..) (by decide)⟩
 on:=fun i ps rs x w hi hj hx hw=>by
  obtain⟨on,b,may,rfl⟩:=yQ.mp hw
  exact((hl.at_ (i+1) rs hj).2 _).mpr ⟨x,((hl.at_ i ps hi).2 x).mp hx,on,b,may,rfl⟩
theorem aIT{m:MS}(g:m.Good){a:Int×Int}(h:St1 m a)(qs:List Int)(n:Nat):Lay (Wr m qs) n (Rc m a) where
 ne:=fun i x _ hx=>aCq ((Rc.st g h hx).1).1
 on:=fun i x w _ hx hw=>by
  obtain⟨on,b,may,rfl⟩:=yQ.mp hw
  exact⟨x,hx,on,b,may,rfl⟩
def rwF(m:MS)(qs:List Int)(a:Int×Int):Int:=wF (Wr m qs) qs.length 0 a
def rrF(m:MS)(qs:List Int)(a:Int×Int):List Int:=t9 (Wr m qs) qs.length 0 a
def κS:PK (Int×Int):=.tk nI fun _ _ h=>vL h
theorem bX.aLU{C:Addr}{H:Hp}{q w:Addr}{m:MS}{kvs:List (List Key×V)}(h:bX C H q m)(e:H w=some (.dT kvs)):bX C (del w H) q m:=by
 obtain⟨dx,pl,h1,h2⟩:=h.ex
 obtain⟨qs,h3,h4⟩:=h2.ex
 refine⟨dx,pl,lI h1 (fun z=>by rw[z,e] at h1;cases h1),qs,lI h3 (fun z=>by rw[z,e] at h3;cases h3),h4.len,fun j a t h5 h6=>?_⟩
 have h7:=h4.at_ j a t h5 h6
 exact lI h7 (fun z=>by rw[z,e] at h7;cases h7)
theorem aIU(x:Option Int):(x.map V.int).getD (.int 0)=.int (x.getD 0):=by cases x <;> rfl
theorem aKS{ps:List WP}{i:Nat}{kv:List Key×V}(h:(enc ps)[i]?=some kv):∃p,ps[i]?=some p/\kv=(nI p.1,V.int p.2):=by
 unfold enc at h
 rw[List.getElem?_map] at h
 obtain⟨p,hp,e⟩:=Option.map_eq_some_iff.mp h
 exact⟨p,hp,e.symm⟩
theorem aFb(ps:List WP):(enc ps).length=ps.length:=by unfold enc;rw[List.length_map]
theorem aFT{ps:List WP}{k s:Int×Int}{v:Int}:s∈(addW ps k v).map (·.1)↔s∈ps.map (·.1)\/s=k:=by
 unfold addW
 by_cases h:ps.any (fun p=>decide (p.1=k))=true
 ·rw[if_pos h,List.map_map]
  have e:((fun p:WP=>p.1) ∘ fun p:WP=>if p.1=k then (p.1,v) else p)=fun p=>p.1:=by
   funext p
   show(if p.1=k then (p.1,v) else p).1=p.1
   split <;> rfl
  rw[e]
  refine⟨.inl,fun z=>?_⟩
  rcases z with z|z
  ·exact z
  ·obtain⟨p,hp,e⟩:=List.any_eq_true.mp h
   rw[z]
   exact List.mem_map.mpr ⟨p,hp,of_decide_eq_true e⟩
 ·rw[if_neg h,List.map_append,List.mem_append]
  simp
def aAj(K:W.Frag)(C:Addr):Sp:=fun vs H Q _=>∃(q:Addr) (m:MS) (w:Addr) (ps:List WP),vs=[.ref q,.ref w]/\bX C H q m/\m.Good/\H w=some (.dT (enc ps))/\aAK ps/\
 ∀w' ps' H',aJ (del w H) H'->H w'=none->H' w'=some (.dT (enc ps'))->aAK ps'->(∀s,s∈ps'.map (·.1)↔∃q∈ps.map (·.1),On m q s)->Q (.ref w') H'
theorem aAk{P:Program}{w:World}{K:PySem.W.Frag}{mg:Str->Option Value}{base:Heap}{a:nA}(tx:Txt K mg a):bR P w K mg base iV 3 a.jD a.jE ["machine","ways"] (aAj K a.bB):=by
 have lH:=sI (P:=P) (w:=w) (base:=base) tx
 have gA:=lG (P:=P) (w:=w) (base:=base) tx
 refine tx.nE.ok dP (fun vs H Q E h=>?_) (fun cdv A outer s H vs Q E hr h=>?_)
 ·obtain⟨q,m,w,ps,rfl,_⟩:=h
  rfl
 ·obtain⟨q,m,w,ps,rfl ,hm,hg,gw,hW,k⟩:=h
  have hu:=nM hr
  refine Z.root (Z.aC (Z.aM (i:=2) dP.nd rfl (Or.inl rfl) Z.kS)
   (Z.aC (Z.cE PassesOwn.never rfl (Z.zE (Z.pv 1)) (Z.iY (K':=K) (n:=2) rfl (Z.bH (Z.aP (i:=3) dP.nd rfl (Or.inl rfl)) (Z.bH (Z.aP (i:=4) dP.nd rfl (Or.inl rfl)) Z.fD))) (Z.aG (Z.cE PassesOwn.never rfl (Z.yK (K':=K) (Z.oJ Z.aA Z.aA)) (Z.aP (i:=5) dP.nd rfl (Or.inl rfl)) (Z.aG (Z.cN (Z.fV (Z.aF (lH) (hr.mono (by decide)) (by rfl) tx.qR tx.nW.kp tx.qQ .nil aQ (Z.aD (Z.pv 0) (Z.aD (Z.pv 3) (Z.aD (Z.pv 5) Z.aB))))) (Z.aC (Z.aM (i:=6) dP.nd rfl (Or.inl rfl) (Z.aF (gA) (hr.mono (by decide)) (by rfl) tx.jJ tx.fY.kp tx.jI .nil aQ (Z.aD (Z.pv 0) (Z.aD (Z.pv 3) (Z.aD (Z.pv 5) Z.aB)))))
   (Z.aG (Z.oH hu (Z.pv 2) (Z.pv 6) (Z.aN bL (Z.y2 hu (Z.pv 2) (Z.pv 6) Z.aA) (Z.pv 4))))) Z.bI)))))
   (Z.aG (Z.aS (Z.pv 2))))) ?_
  have hmD:=hm.aLU gw
  refine aR (σ:=[some (.ref q),some (.ref w),none,none,none,none,none]) rfl ?_
  walk_at "w"
  refine aBj ?_
  intro l nl
  obtain⟨H1,i1,s1,g1⟩:=nw _ nl;rw[i1]
  have gw1:=s1 _ _ gw
  have lw:l≠w:=fun z=>by rw[z,gw] at nl;cases nl
  have nlD:del w H l=none:=by rw[aEn lw];exact nl
  walk_at "w"
  refine aLy gw1 fun ob=>?_
  obtain⟨H2,i2,k2,g2⟩:=wr H1 w _;rw[i2]
  have g12:=k2 _ _ g1 lw
  have S2:aJ (del w H) H2:=fun b o e=>k2 _ _ (s1 _ _ (aKP _ _ e)) (fun z=>by rw[z,aJg] at e;cases e)
  refine aGZ (kvs:=enc ps) (fun i σ' H'=>∃(ps':List WP) (z3 z4 z5 z6:Option V),σ'=[some (.ref q),some (.ref w),some (.ref l),z3,z4,z5,z6]/\H' l=some (.dT (enc ps'))/\aAK ps'/\(∀s,s∈ps'.map (·.1)↔∃q∈(ps.take i).map (·.1),On m q s)/\aJ (del w H) H'/\H' w=some (.frz ob (.dT (enc ps))))
   ⟨[],_,_,_,_,rfl,g12,⟨List.nodup_nil,fun p hp=>by cases hp⟩,fun s=>⟨(fun h=>by cases h),(fun⟨q,h,_⟩=>by simp at h)⟩,S2,g2⟩ (fun i σ' H' hi ⟨_,_,_,_,_,_,_,_,_,_,h⟩=>h) (fun i kv σ' H' T b hk ⟨ps',z3,z4,z5,z6,e,gl,hW',hs,S',gw'⟩ nT gb=>?_) (fun σ' H' ⟨ps',z3,z4,z5,z6,e,gl,hW',hs,S',gw'⟩=>?_)
  ·subst e
   obtain⟨p,ep,rfl⟩:=aKS hk
   have hst:=hW.st p (List.mem_of_getElem? ep)
   have gb0:H' b=some (.tup [.int p.1.1,.int p.1.2]):=gb
   obtain⟨H3,i3,s3,gT⟩:=nw _ nT;rw[i3]
   refine iX (lJ.of gT) rfl ?_
   walk_at "w"
   intro Tu nTu
   obtain⟨H4,i4,s4,gTu⟩:=nw _ nTu;rw[i4]
   have gl4:=(s3.trans s4) _ _ gl
   have gb4:=(s3.trans s4) _ _ gb0
   have gw4:=(s3.trans s4) _ _ gw'
   have S4:=S'.trans (s3.trans s4)
   have Tul:Tu≠l:=fun z=>by rw[z,gl4] at gTu;cases gTu
   have bl:b≠l:=fun z=>by rw[z,gl4] at gb4;cases gb4
   walk_at "w"
   refine aEH (lJ.of gTu) ?_
   refine aDW (xs:=([0,1]:List Int).map V.int) (fun j σ' H'=>∃(ps':List WP) (z5 z6:Option V),σ'=[some (.ref q),some (.ref w),some (.ref l),some (.ref b),some (.int p.2),z5,z6]/\H' l=some (.dT (enc ps'))/\aAK ps'/\(∀s,s∈ps'.map (·.1)↔(∃q∈(ps.take i).map (·.1),On m q s)\/∃on∈([0,1]:List Int).take j,(p.1.1=on\/p.1.2=0)/\s=lK m p.1.1 p.1.2 on)/\aJ (del w H) H'/\bZ l H4 H')
    ⟨ps',_,_,rfl,gl4,hW',fun s=>by rw[hs s];simp,S4,fun _ _ e _=>e⟩ (fun j σ' H' hj ⟨_,_,_,_,_,_,_,_,h⟩=>lJ.of (h _ _ gTu Tul)) (fun j v σ' H5 hv ⟨ps',z5,z6,e,gl5,hW5,hs5,S5,k5⟩=>?_) (fun σ' H5 ⟨ps',z5,z6,e,gl5,hW5,hs5,S5,k5⟩=>?_)
   ·subst e
    obtain⟨on,eon,rfl⟩:=vK hv
    have bon:Bit on:=by
     have:=List.mem_of_getElem? eon
     simp at this
     exact this
    have gb5:=k5 _ _ gb4 bl
    have tk:([0,1]:List Int).take (j+1)=([0,1]:List Int).take j ++ [on]:=by rw[List.take_add_one,eon];rfl
    walk_at "w"
    refine⟨_,b,_,_,on,rfl,gb5,?_⟩
    by_cases hmay:p.1.1=on\/p.1.2=0
    ·rw[show(decide (p.1.1=on) || decide (p.1.2=0))=true by simpa using hmay]
     walk_at "w"
     refine⟨q,m,b,_,_,on,rfl,hmD.same S5,gb5,hmay,fun T2 H6 s6 nT2 gT2=>?_⟩
     have gl6:=s6 _ _ gl5
     have gk:H6 T2=some (.tup ((nI (lK m p.1.1 p.1.2 on)).map kV)):=gT2
     have hle:=hW5.len
     walk_at "w"
     refine⟨l,rfl,.inr ⟨_,.inl gl6⟩,?_⟩
     walk_at "w"
     refine⟨_,pZ.t gl6 gk,?_⟩
     rw[aIP,aIU]
     walk_at "w"
     refine⟨l,_,rfl,yZ.t gl6 gk (Nat.lt_of_lt_of_le (by rw[aFb];omega:(enc ps').length < 1000) (cC (by decide))),?_⟩
     rw[aIQ]
     obtain⟨H7,i7,k7,g7⟩:=wr H6 l _;rw[i7]
     walk_at "w"
     refine⟨_,_,_,rfl,g7,hW5.add (hst.lK hg bon) p.2,fun s=>?_,fun b o e=>k7 _ _ ((S5.trans s6) _ _ e) (bA nlD e),k5.trans (s6.keep.trans k7)⟩
     rw[aFT,hs5 s,tk]
     constructor
     ·rintro ((h|⟨on',h1,h2⟩)|h)
      ·exact .inl h
      ·exact .inr ⟨on',List.mem_append_left _ h1,h2⟩
      ·exact .inr ⟨on,List.mem_append_right _ (.head _),hmay,h⟩
     ·rintro (h|⟨on',h1,h2,h3⟩)
      ·exact .inl (.inl h)
      ·rcases List.mem_append.mp h1 with z|z
       ·exact .inl (.inr ⟨on',z,h2,h3⟩)
       ·rw[List.mem_singleton.mp z] at h3;exact .inr h3
    ·rw[show(decide (p.1.1=on) || decide (p.1.2=0))=false by simpa using hmay]
     walk_at "w"
     refine⟨ps',_,_,rfl,gl5,hW5,fun s=>?_,S5,k5⟩
     rw[hs5 s,tk]
     constructor
     ·rintro (h|⟨on',h1,h2⟩)
      ·exact .inl h
      ·exact .inr ⟨on',List.mem_append_left _ h1,h2⟩
     ·rintro (h|⟨on',h1,h2,h3⟩)
      ·exact .inl h
      ·rcases List.mem_append.mp h1 with z|z
       ·exact .inr ⟨on',z,h2,h3⟩
       ·rw[List.mem_singleton.mp z] at h2;exact absurd h2 hmay
   ·subst e
    refine⟨ps',_,_,_,_,rfl,gl5,hW5,fun s=>?_,S5,k5 _ _ gw4 (Ne.symm lw)⟩
    rw[hs5 s,take_snoc ep,List.map_append]
    constructor
    ·rintro (⟨q,h1,h2⟩|⟨on',h1,h2,h3⟩)
     ·exact⟨q,List.mem_append_left _ h1,h2⟩
     ·exact⟨p.1,List.mem_append_right _ (.head _),on',by simpa [Bit] using h1,h2,h3⟩
    ·rintro ⟨q,h1,on',b1,h2,h3⟩
     rcases List.mem_append.mp h1 with z|z
     ·exact .inl ⟨q,z,on',b1,h2,h3⟩
     ·rw[show q=p.1 by simpa using z] at h2 h3
      exact .inr ⟨on',by rcases b1 with rfl|rfl <;> simp,h2,h3⟩
  ·subst e
   walk_at "w"
   refine k l ps' H' S' nl gl hW' fun s=>?_
   rw[hs s,aFb,List.take_length]
theorem aHD{t:TE}{σ σ':St}{H:Hp}{Q:VK}(e:σ'=σ)(h:t σ H Q):t σ' H Q:=e▸h
theorem RL.one{α:Type}{P:Addr->α->Prop}{a:Addr}{x:α}(h:P a x):RL P [a] [x]:=⟨rfl,fun j q u hq hu=>by
 match j,hq,hu with
 |0,hq,hu=>cases hq;cases hu;exact h
 |_+1,hq,_=>simp at hq⟩
theorem aHE(ps:List WP):(enc ps).map (·.1)=(ps.map fun p=>[p.1.1,p.1.2]).map fun t=>t.map Sum.inl:=by
 unfold enc
 rw[List.map_map,List.map_map]
 rfl
theorem tD{H:Hp}{ps:List WP}{qs:List Addr}{us:List (List Int)}(nd:(ps.map (·.1)).Nodup)(hT:cF H qs us)(hp:us.Perm (ps.map fun p=>[p.1.1,p.1.2]))(hs:us.Pairwise fun a b=>nR b a=false) :
  ∃ks:List (Int×Int),ks.Pairwise sLt/\(∀s,s∈ks↔s∈ps.map (·.1))/\PVs κS H (qs.map V.ref) ks:=by
 have hform:∀u∈us,u=[u.getD 0 0,u.getD 1 0]:=fun u hu=>by
  obtain⟨p,_,rfl⟩:=List.mem_map.mp (hp.mem_iff.mp hu)
  rfl
 have pk:(us.map fun u=>(u.getD 0 0,u.getD 1 0)).Perm (ps.map (·.1)):=by
  have:=hp.map fun u=>(u.getD 0 0,u.getD 1 0)
  rw[List.map_map] at this
  exact this
 have ndk:=pk.nodup_iff.mpr nd
 refine⟨us.map fun u=>(u.getD 0 0,u.getD 1 0),?_,fun s=>pk.mem_iff,?_⟩
 ·rw[List.pairwise_map]
  have nd':us.Pairwise fun a b=>(a.getD 0 0,a.getD 1 0)≠(b.getD 0 0,b.getD 1 0):=List.pairwise_map.mp ndk
  refine(hs.and nd').imp_of_mem ?_
  intro a b ha hb ⟨h1,h2⟩
  rw[hform a ha,hform b hb] at h1
  generalize a.getD 0 0=a0 at h1 h2 ⊢
  generalize a.getD 1 0=a1 at h1 h2 ⊢
  generalize b.getD 0 0=b0 at h1 h2 ⊢
  generalize b.getD 1 0=b1 at h1 h2 ⊢
  unfold sLt
  show a0 < b0\/(a0=b0/\a1 < b1)
  by_cases e0:a0=b0
  ·subst e0
   by_cases e1:a1=b1
   ·exact absurd (by rw[e1]) h2
   ·rw[eC,if_pos rfl,eC,if_neg (fun z=>e1 z.symm)] at h1
    have:=of_decide_eq_false h1
    omega
  ·rw[eC,if_neg (fun z=>e0 z.symm)] at h1
   have:=of_decide_eq_false h1
   omega
 ·refine⟨by rw[List.length_map,List.length_map,hT.len],fun i v x h1 h2=>?_⟩
  rw[List.getElem?_map] at h1 h2
  obtain⟨q,e1,rfl⟩:=Option.map_eq_some_iff.mp h1
  obtain⟨u,e2,rfl⟩:=Option.map_eq_some_iff.mp h2
  have:=(hT.at_ i q u e1 e2).1
  rw[hform u (List.mem_of_getElem? e2)] at this
  exact⟨q,rfl,this⟩
def vQ(K:W.Frag)(C:Addr):Sp:=fun vs H Q _=>∃(q:Addr) (m:MS) (t:Addr) (a:Int×Int) (n:Nat),vs=[.ref q,.ref t,.int (n:Int)]/\bX C H q m/\m.Good/\H t=some (.tup [.int a.1,.int a.2])/\St1 m a/\n<=1000/\
 ∀la Ls H',aJ H H'->H la=none->aBz κS H' la Ls->aAN m a Ls->Ls.length=n+1->Q (.ref la) H'
theorem vR{P:Program}{w:World}{K:PySem.W.Frag}{mg:Str->Option Value}{base:Heap}{a:nA}(tx:Txt K mg a):bR P w K mg base iV 4 a.fP a.fQ ["machine","state","hours"] (vQ K a.bB):=by
 have aAO:=aAk (P:=P) (w:=w) (base:=base) tx
 refine tx.iR.ok dE (fun vs H Q E h=>?_) (fun cdv A outer s H vs Q E hr h=>?_)
 ·obtain⟨q,m,t,st,n,rfl,_⟩:=h
  rfl
 ·obtain⟨q,m,t,st,n,rfl ,hm,hg,ht,hst,hn,k⟩:=h
  have hu:=nM hr
  refine Z.root (Z.aC (Z.aM (i:=3) dE.nd rfl (Or.inl rfl) (Z.zF hu (Z.pv 1) Z.aA))
   (Z.aC (Z.aM (i:=4) dE.nd rfl (Or.inl rfl) (Z.xK (Z.xK (Z.pv 1))))
   (Z.aC (Z.cE PassesOwn.never rfl (Z.cO (by rfl) tx.dF (Z.aD (Z.pv 2) Z.aB)) (Z.aP (i:=5) dE.nd rfl (Or.inl rfl)) (Z.aC (Z.aM (i:=3) dE.nd rfl (Or.inl rfl) (Z.aF (aAO) (hr.mono (by decide)) (by rfl) tx.sX tx.nE.kp tx.sW .nil aQ (Z.aD (Z.pv 0) (Z.aD (Z.pv 3) Z.aB))))
   (Z.aG (Z.fB (Z.iZ (K':=K) (Z.pv 4) (Z.aD (Z.aI (rc:=aEa) (aBX rfl) (by rfl) tx.lF aA9 (Z.aD (Z.pv 3) Z.aB)) Z.aB))))))
   (Z.aG (Z.aS (Z.pv 4)))))) ?_
  refine aR (σ:=[some (.ref q),some (.ref t),some (.int (n:Int)),none,none,none]) rfl ?_
  walk_at "w"
  intro w nw0
  obtain⟨H1,i1,s1,g1⟩:=nw _ nw0;rw[i1]
  have ht1:=s1 _ _ ht
  walk_at "w"
  refine⟨t,nI st,rfl,ht1,g1,?_⟩
  obtain⟨H2,i2,k2,g2⟩:=wr H1 w _;rw[i2]
  have S2:aJ H H2:=fun b o e=>k2 _ _ (s1 _ _ e) (bA nw0 e)
  walk_at "w"
  intro l0 nl0
  obtain⟨H3,i3,s3,g3⟩:=nw _ nl0;rw[i3]
  walk_at "w"
  intro la nla
  obtain⟨H4,i4,s4,g4⟩:=nw _ nla;rw[i4]
  have S4:aJ H H4:=S2.trans (s3.trans s4)
  have nlaH:H la=none:=(S2.trans s3).free nla
  have g24:=(s3.trans s4) _ _ g2
  have g34:=s4 _ _ g3
  have ht4:=S4 _ _ ht
  have wla:w≠la:=fun z=>by rw[z,g4] at g24;cases g24
  walk_at "w"
  refine⟨by omega,by omega,?_⟩
  refine jM (fun i σ' H'=>∃(w:Addr) (ps:List WP) (as:List Addr) (Ls:List (List (Int×Int))) (z5:Option V),σ'=[some (.ref q),some (.ref t),some (.int (n:Int)),some (.ref w),some (.ref la),z5]/\H w=none/\H' w=some (.dT (enc ps))/\aAK ps/\(∀s,s∈ps.map (·.1)↔Rc m st i s)/\aJ H H'/\H' la=some (.lst (as.map V.ref))/\RL (fun b ps=>∃us,H' b=some (.lst us)/\PVs κS H' us ps/\b≠la) as Ls/\aAN m st Ls/\Ls.length=i+1)
   ⟨w,[(st,1)],[l0],[[st]],_,rfl,nw0,g24,⟨by simp,fun p hp=>by rw[List.mem_singleton.mp hp];exact hst.st0 hg⟩,?_,S4,g4,RL.one ⟨_,g34,⟨rfl,fun i v x h1 h2=>?_⟩,fun z=>?_⟩,⟨fun i ps hi=>?_⟩,rfl⟩ (fun i σ' H' hi ⟨w',ps,as,Ls,z5,e,nw',gw,hW,hk,S',gla,rla,hL,lL⟩=>?_) (fun σ' H' ⟨w',ps,as,Ls,z5,e,nw',gw,hW,hk,S',gla,rla,hL,lL⟩=>?_)
  ·intro s
   show s∈[st]↔s=st
   simp
  ·match i,h1,h2 with
   |0,h1,h2=>cases h1;cases h2;exact⟨t,rfl,ht4⟩
   |_+1,h1,_=>simp at h1
  ·rw[z,nla] at g3
   cases g3
  ·match i,hi with
   |0,hi=>cases hi;exact⟨by simp,fun s=>by show s∈[st]↔s=st;simp⟩
   |_+1,hi=>simp at hi
  ·subst e
   walk_at "w"
   refine⟨q,m,w',ps,rfl,hm.same S',hg,gw,hW,fun w2 ps2 H5 s5 nw2 gw2 hW2 hk2=>?_⟩
   have S5:aJ H H5:=fun b o e=>s5 _ _ (lI (S' _ _ e) (bA nw' e))
   have gla5:H5 la=some (.lst (as.map V.ref)):=s5 _ _ (lI gla fun z=>by rw[z,gw] at gla;cases gla)
   have hk3:∀s,s∈ps2.map (·.1)↔Rc m st (i+1) s:=fun s=>by
    rw[hk2 s]
    exact⟨fun⟨p,h1,h2⟩=>⟨p,(hk p).mp h1,h2⟩,fun⟨p,h1,h2⟩=>⟨p,(hk p).mpr h1,h2⟩⟩
   have few:=Rc.few hg hst hW2.nd fun k hk=>(hk3 k).mp hk
   rw[List.length_map] at few
   have las:=rla.len
   walk_at "w"
   refine jP (bQ.of gla5) ?_
   walk_at "w"
   refine aHc gw2 (aHE ps2) (fun t ht=>by obtain⟨p,_,rfl⟩:=List.mem_map.mp ht;simp) (by rw[List.length_map];omega) fun p qs us np hT hp hs=>?_
   obtain⟨ks,k1,k2',k3⟩:=tD hW2.nd hT hp hs
   obtain⟨H6,i6,s6,g6⟩:=nw _ np;rw[i6]
   have npla:p≠la:=fun z=>by rw[z,gla5] at np;cases np
   walk_at "w"
   refine mZ (xs:=as.map V.ref) (s6 _ _ gla5) (Nat.lt_of_lt_of_le (by rw[List.length_map];omega:(as.map V.ref).length < 20000) (cC (by decide))) ?_
   obtain⟨H7,i7,k7,g7⟩:=wr H6 la _;rw[i7]
   have w2la:w2≠la:=fun z=>by rw[z,gla5] at gw2;cases gw2
   walk_at "w"
   have hR:RL (fun b ps=>∃us,H7 b=some (.lst us)/\PVs κS H7 us ps/\b≠la) (as ++ [p]) (Ls ++ [ks]):=by
    refine RL.snoc (rla.imp fun b ps ⟨us,a1,a2,a3⟩=>?_) ⟨_,k7 _ _ g6 npla,⟨k3.1,fun i v x h1 h2=>PK.vM (κS.iG (k3.2 i v x h1 h2) s6) (s6 _ _ gla5) k7⟩,npla⟩
    have a1':H5 b=some (.lst us):=s5 _ _ (lI a1 fun z=>by rw[z,gw] at a1;cases a1)
    refine⟨us,k7 _ _ (s6 _ _ a1') a3,⟨a2.1,fun i v x h1 h2=>?_⟩,a3⟩
    obtain⟨b',e',hb'⟩:=a2.2 i v x h1 h2
    exact PK.vM (κS.iG (H:=H5) ⟨b',e',s5 _ _ (lI hb' fun z=>by rw[z,gw] at hb';cases hb')⟩ s6) (s6 _ _ gla5) k7
   have hLL:aAN m st (Ls ++ [ks]):=by
    refine⟨fun j rs hj=>?_⟩
    by_cases hj2:j < Ls.length
    ·rw[List.getElem?_append_left hj2] at hj
     exact hL.at_ j rs hj
    ·have hj3:j < (Ls ++ [ks]).length:=(List.getElem?_eq_some_iff.mp hj).1
     rw[List.length_append,List.length_singleton] at hj3
     obtain rfl:j=Ls.length:=by omega
     rw[List.getElem?_append_right (Nat.le_refl _),Nat.sub_self] at hj
     cases hj
     refine⟨k1,fun s=>?_⟩
     rw[k2' s,hk3 s,lL]
   exact⟨w2,ps2,as ++ [p],Ls ++ [ks],_,rfl,S'.free nw2,k7 _ _ (s6 _ _ gw2) w2la,hW2,hk3,fun b o e=>k7 _ _ (s6 _ _ (S5 _ _ e)) (bA nlaH e),by rw[g7,List.map_append];rfl,hR,hLL,by rw[List.length_append,lL];rfl⟩
  ·subst e
   walk_at "w"
   exact k la Ls H' S' nlaH ⟨as,gla,rla.imp fun b ps ⟨us,a1,a2,_⟩=>⟨us,a1,a2⟩⟩ hL (by omega)
def aAP(K:W.Frag)(C:Addr):Sp:=fun vs H Q _=>∃(q:Addr) (m:MS) (t:Addr) (a:Int×Int),vs=[.ref q,.ref t]/\bX C H q m/\m.Good/\H t=some (.tup [.int a.1,.int a.2])/\St0 a.1 a.2/\
 ∀l H',aJ H H'->rN κS H' l ((([0,1]:List Int).filter (rO a)).map fun on=>(on,lK m a.1 a.2 on,aKR m a on))->Q (.ref l) H'
theorem aAQ{P:Program}{w:World}{K:PySem.W.Frag}{mg:Str->Option Value}{base:Heap}{a:nA}(tx:Txt K mg a):bR P w K mg base iV 7 a.kE a.kF ["machine","state"] (aAP K a.bB):=by
 have lH:=sI (P:=P) (w:=w) (base:=base) tx
 have aEs:=aDo (P:=P) (w:=w) (base:=base) tx
 have gA:=lG (P:=P) (w:=w) (base:=base) tx
 refine tx.pB.ok aAB (fun vs H Q E h=>?_) (fun cdv A outer s H vs Q E hr h=>?_)
 ·obtain⟨q,m,t,st,rfl,_⟩:=h
  rfl
 ·obtain⟨q,m,t,st,rfl ,hm,hg,ht,hst,k⟩:=h
  have hu:=nM hr
  refine Z.root (Z.aG (Z.aS (Z.fE (k:=1) (idx:=[0,1]) (N:=["on","machine","state"]) (fW (sc:=aE dX) (NX:=["machine","state"]) rfl rfl rfl (by decide +kernel)) rfl (Z.yK (K':=K) (Z.oJ Z.aA Z.aA)) (fun _ _ _ _=>(Z.aP (i:=0) (show(["on","machine","state"]:List Str).Nodup by decide +kernel) rfl (Or.inl rfl))) (kQ (by decide)) (fun _ _ _ _=>(Z.rQ (Z.fV (Z.aF (lH) (hr.mono (by decide)) (by rfl) tx.qR tx.nW.kp tx.qQ .nil aQ (Z.aD (Z.pv 1) (Z.aD (Z.pv 2) (Z.aD (Z.pv 0) Z.aB))))))) (fun _ _ _ _=>(Z.aIp (Z.pv 0) (Z.aF (gA) (hr.mono (by decide)) (by rfl) tx.jJ tx.fY.kp tx.jI .nil aQ (Z.aD (Z.pv 1) (Z.aD (Z.pv 2) (Z.aD (Z.pv 0) Z.aB)))) (Z.aF (aEs) (hr.mono (by decide)) (by rfl) tx.zX tx.tW.kp tx.zW .nil aQ (Z.aD (Z.pv 1) (Z.aD (Z.pv 2) (Z.aD (Z.xK (Z.pv 0)) Z.aB))))))))) ?_
  refine aR (σ:=[some (.ref q),some (.ref t)]) rfl ?_
  walk_at "w"
  intro Tu nTu
  obtain⟨H1,i1,s1,gTu⟩:=nw _ nTu;rw[i1]
  refine aEH (lJ.of gTu) ?_
  refine aGs (xs:=([0,1]:List Int).map V.int) (fun j us H'=>aJ H1 H'/\∃as:List Addr,us=as.map V.ref/\as.length<=j/\RL (xD κS H') as (((([0,1]:List Int).take j).filter (rO st)).map fun on=>(on,lK m st.1 st.2 on,aKR m st on))) ⟨aJ.refl _,[],rfl,Nat.le_refl _,RL.nil⟩ (cC (by simp))
   (fun j us H' hj ⟨s',as,e,la,r⟩=>⟨lJ.of (s' _ _ gTu),by rw[e,List.length_map];exact la⟩) (fun j v us H' hv ⟨s',as,e,la,r⟩=>?_) (fun us H' ⟨s',as,e,la,r⟩=>?_)
  ·obtain⟨on,eon,rfl⟩:=vK hv
   have bon:Bit on:=by
    have:=List.mem_of_getElem? eon
    simp at this
    exact this
   have tk:([0,1]:List Int).take (j+1)=([0,1]:List Int).take j ++ [on]:=by rw[List.take_add_one,eon];rfl
   have S':=s1.trans s'
   have ht':=S' _ _ ht
   walk_at "w"
   refine⟨_,t,_,_,on,rfl,ht',?_⟩
   by_cases hmay:st.1=on\/st.2=0
   ·have hmb:rO st on=true:=iH.mpr hmay
    rw[show(decide (st.1=on) || decide (st.2=0))=true from hmb]
    walk_at "w"
    refine⟨q,m,t,_,_,on,rfl,hm.same S',ht',hmay,fun T2 H3 s3 nT2 gT2=>?_⟩
    walk_at "w"
    intro lo nlo
    obtain⟨H4,i4,s4,g4⟩:=nw _ nlo;rw[i4]
    walk_at "w"
    refine⟨q,m,t,_,_,lo,[on],rfl,hm.same (S'.trans (s3.trans s4)),hg,(s3.trans s4) _ _ ht',g4,by simp,?_,fun H5 s5=>?_⟩
    ·show(if st.1=on\/st.2=0 then _ else _)=_
     rw[if_pos hmay]
     rfl
    walk_at "w"
    intro T nT
    obtain⟨H6,i6,s6,g6⟩:=nw _ nT;rw[i6]
    have s36:=s3.trans (s4.trans (s5.trans s6))
    refine⟨s'.trans s36,as ++ [T],by rw[e,List.map_append];rfl,by rw[List.length_append];simp;omega,?_⟩
    rw[tk,List.filter_append,List.map_append,List.filter_cons_of_pos hmb]
    exact RL.snoc (r.imp fun _ _ z=>z.same s36) ⟨_,g6,T2,rfl,(s4.trans (s5.trans s6)) _ _ gT2⟩
   ·have hmb:rO st on=false:=by cases h:rO st on;rfl;exact absurd (iH.mp h) hmay
    rw[show(decide (st.1=on) || decide (st.2=0))=false from hmb]
    walk_at "w"
    refine⟨s',as,e,by omega,?_⟩
    rw[tk,List.filter_append,List.map_append,List.filter_cons_of_neg (by rw[hmb];simp)]
    simpa using r
  ·intro l nl
   obtain⟨H3,i3,s3,g3⟩:=nw _ nl;rw[i3]
   walk_at "w"
   exact k l H3 (s1.trans (s'.trans s3)) ⟨as,by rw[g3,e],r.imp fun _ _ z=>z.same s3⟩
def vS(K:W.Frag)(C:Addr):Sp:=fun vs H Q _=>∃(q:Addr) (m:MS) (t:Addr) (a:Int×Int) (p:Int),vs=[.ref q,.ref t,.int p]/\bX C H q m/\m.Good/\H t=some (.tup [.int a.1,.int a.2])/\St0 a.1 a.2/\0<=p/\p<=1000000000001/\
 ∀l H',aJ H H'->rN κS H' l (vP m p a)->Q (.ref l) H'
theorem vT{P:Program}{w:World}{K:PySem.W.Frag}{mg:Str->Option Value}{base:Heap}{a:nA}(tx:Txt K mg a):bR P w K mg base iV 8 a.mG a.mH ["machine","state","price"] (vS K a.bB):=by
 have aAl:=xV (P:=P) (w:=w) (base:=base) tx
 have aCt:=aAQ (P:=P) (w:=w) (base:=base) tx
 refine tx.mR.ok aB4 (fun vs H Q E h=>?_) (fun cdv A outer s H vs Q E hr h=>?_)
 ·obtain⟨q,m,t,st,pr,rfl,_⟩:=h
  rfl
 ·obtain⟨q,m,t,st,pr,rfl ,hm,hg,ht,hst,p0,p1,k⟩:=h
  have hu:=nM hr
  refine Z.root (Z.aG (Z.aS (Z.fE (k:=3) (idx:=[0,2]) (N:=["on","later","cost","machine","price"]) (fW (sc:=aE eW) (NX:=["machine","state","price"]) rfl rfl rfl (by decide +kernel)) rfl (Z.cP (K':=K) (Z.aF (aCt) (hr.mono (by decide)) (by rfl) tx.u9 tx.pB.kp tx.u7 .nil aQ (Z.aD (Z.pv 0) (Z.aD (Z.pv 1) Z.aB)))) (fun _ _ _ _=>(Z.iY (K':=K) (n:=3) rfl (Z.bH (Z.aP (i:=0) (show(["on","later","cost","machine","price"]:List Str).Nodup by decide +kernel) rfl (Or.inl rfl)) (Z.bH (Z.aP (i:=1) (show(["on","later","cost","machine","price"]:List Str).Nodup by decide +kernel) rfl (Or.inl rfl)) (Z.bH (Z.aP (i:=2) (show(["on","later","cost","machine","price"]:List Str).Nodup by decide +kernel) rfl (Or.inl rfl)) Z.fD))))) (uN (cW (by decide) (cW (by decide) (cW (by decide) qB)))) (fun _ _ _ _=>Z.iW) (fun _ _ _ _=>(Z.aIp (Z.pv 0) (Z.pv 1) (Z.aN gG (Z.pv 2) (Z.aN bS (Z.pv 0) (Z.aBH (Z.pv 3) tx.bV tx.m_Machine_gain (aAl) (hr.mono (by decide)) tx.qP .nil aQ (Z.aD (Z.pv 4) Z.aB))))))))) ?_
  refine aR (σ:=[some (.ref q),some (.ref t),some (.int pr)]) rfl ?_
  walk_at "w"
  refine⟨q,m,t,st,rfl,hm,hg,ht,hst,fun l H1 s1 hw1=>?_⟩
  obtain⟨as,gl,rl⟩:=hw1.ex
  have las:=rl.len
  have lfil:=aCr m pr st
  unfold vP at lfil
  rw[List.length_map] at las lfil
  refine kR (bQ.of gl) ?_
  refine gK (xs:=as.map V.ref) (fun j us H'=>aJ H1 H'/\∃bs:List Addr,us=bs.map V.ref/\RL (xD κS H') bs ((vP m pr st).take j)) ⟨aJ.refl _,[],rfl,RL.nil⟩ (cC (by rw[List.length_map];omega))
   (fun j us H' hj ⟨s',bs,e,r⟩=>⟨bQ.of (s' _ _ gl),by rw[e,List.length_map,r.len,List.length_take];omega⟩) (fun j v us H' hv ⟨s',bs,e,r⟩=>?_) (fun us H' ⟨s',bs,e,r⟩=>?_)
  ·obtain⟨a1,w,ea,rfl,ew,vv,g1,hp⟩:=rl.gt hv
   rw[List.getElem?_map] at ew
   obtain⟨on,eon,rfl⟩:=Option.map_eq_some_iff.mp ew
   have er:(vP m pr st)[j]?=some (on,lK m st.1 st.2 on,hw m pr st on):=by unfold vP;rw[List.getElem?_map,eon];rfl
   obtain⟨b,rfl,hb⟩:=hp
   have bon:0<=on/\on<=1:=by
    have:=(List.mem_filter.mp (List.mem_of_getElem? eon)).1
    simp at this
    omega
   obtain⟨bo0,bo1⟩:=bon
   refine iX (lJ.of (s' _ _ g1)) rfl ?_
   walk_at "w"
   have hm2:=hm.same (s1.trans s')
   obtain⟨dx,pl,hq,_⟩:=hm2.ex
   refine⟨q,dx,_,rfl,hq,rfl,?_⟩
   walk_at "w"
   refine⟨q,m,pr,rfl,hm2,hg,p0,p1,?_⟩
   walk_at "w"
   intro T nT
   obtain⟨H3,i3,s3,g3⟩:=nw _ nT;rw[i3]
   refine⟨s'.trans s3,bs ++ [T],by rw[e,List.map_append];rfl,?_⟩
   rw[gF er]
   exact RL.snoc (r.imp fun _ _ z=>z.same s3) ⟨_,g3,b,rfl,(s'.trans s3) _ _ hb⟩
  ·intro l2 nl2
   obtain⟨H3,i3,s3,g3⟩:=nw _ nl2;rw[i3]
   walk_at "w"
   rw[List.length_map,las,show(([0,1]:List Int).filter (rO st)).length=(vP m pr st).length by unfold vP;rw[List.length_map],List.take_length] at r
   exact k l2 H3 (s1.trans (s'.trans s3)) ⟨bs,by rw[g3,e],r.imp fun _ _ z=>z.same s3⟩
theorem aBA{K:W.Frag}{a:nA}{H:Hp}{x q:Addr}{m:MS}{ps:List Int}(C:Addr->Sp->Prop)(f:Addr)(spc:Sp)(hC:C f spc)(hs:bX a.bB H x m)(hg:m.Good)(hq:H q=some (.lst (ps.map V.int)))(ha:∀n∈ps,Am n)
  (h:∀(H':Hp) (h:Nat) (b:Addr) (p:Int) (Q:VK),aJ H H'->H' q=some (.lst (ps.map V.int))->pO (ps.map V.int) (h:Int)=some (.int p)->vS K a.bB [.ref x,.ref b,.int p] H' Q E0->spc [.int (h:Int),.ref b] H' Q E0) :
  uA κS C H f (Wr m ps) fun i y=>i < ps.length/\St0 y.1 y.2:=by
 refine⟨spc,hC,fun H' i v y Q s' hL hpv hk=>?_⟩
 obtain⟨b,rfl,hb⟩:=hpv
 obtain⟨hi,hy⟩:=hL
 have ep:ps[i]?=some ps[i]:=List.getElem?_eq_getElem hi
 obtain⟨a0,a1⟩:=ha _ (List.getElem_mem hi)
 refine h H' i b ps[i] Q s' (s' _ _ hq) (cU (by rw[List.getElem?_map,ep];rfl)) ⟨x,m,b,y,ps[i],rfl,hs.same s',hg,hb,hy,a0,by omega,fun l H2 s2 hw=>hk l H2 s2 ?_⟩
 unfold Wr
 rw[List.getD_eq_getElem?_getD,ep]
 exact hw
def sP(K:W.Frag)(C t:Addr):Sp:=fun vs H Q _=>∃(x:Addr) (m:MS) (b:Addr) (a:Int×Int) (q:Addr) (ps:List Int),vs=[.ref x,.ref b,.ref q]/\H t=some (.ctb cG cH)/\bX C H x m/\m.Good/\H b=some (.tup [.int a.1,.int a.2])/\St1 m a/\H q=some (.lst (ps.map V.int))/\(∀n∈ps,Am n)/\ps.length<=48/\
 ∀r Ls H',aJ H H'->H r=none->aAN m a Ls->Ls.length=ps.length+1->aDq κS H' r Ls (fun i=>wF (Wr m ps) (Ls.length - 1 - i) i)->Q (.ref r) H'
theorem sQ{P:Program}{w:World}{K:PySem.W.Frag}{mg:Str->Option Value}{base:Heap}{a:nA}(tx:Txt K mg a):bR P w K mg base iV 12 a.dY a.cR ["machine","state","prices"] (sP K a.bB a.cS):=by
 have wK:=vR (P:=P) (w:=w) (base:=base) tx
 have vU:=fun base':Heap=>vN (P:=P) (w:=w) (base:=base') tx
 refine tx.gI.okC tx.gJ jW (fun vs H Q E h=>?_) (fun A outer s H vs Q E hr h=>?_)
 ·obtain⟨x,m,b,st,q,ps,rfl,_⟩:=h
  rfl
 ·obtain⟨x,m,b,st,q,ps,rfl ,gt,hm,hg,hb,hst,hq,ha,hl,k⟩:=h
  have hu:=nM hr
  refine Z.root (Z.aC (Z.aM (i:=3) jW.nd rfl (Or.inl rfl) (Z.aF (wK) (hr.mono (by decide)) (by rfl) tx.oA tx.iR.kp tx.nZ .nil aQ (Z.aD (Z.pv 0) (Z.aD (Z.pv 1) (Z.aD (Z.aI (rc:=nQ K) bT (by rfl) tx.fT eQ (Z.aD (Z.pv 2) Z.aB)) Z.aB)))))
   (Z.aG (Z.aS (Z.uR (psL:=["hour","place"]) (N:=["hour","place","machine","prices"]) (idx:=[0,2]) (sp:=fun C=>mT K C) (kc:=8) (vU) (hr.mono (by decide)) (by rfl) tx.nY tx.iQ.kp tx.nX (fun _=>rfl) (fW (sc:=aE bO) (NX:=["machine","state","prices","layers"]) rfl rfl rfl (by decide +kernel)) rfl rfl rfl rfl (fun _ _ _ _ us hl=>by obtain⟨_,_,rfl⟩:=ar2 us hl;rfl) (Z.aBW (Z.pv 3) (Z.aEO (N:=["hour","place","machine","prices"]) (n:=2) (idx:=[0,2]) rfl tx.gJ.hd rfl rfl (fW (sc:=aE bO) (NX:=["machine","state","prices","layers"]) rfl rfl rfl (by decide +kernel)))) (fun _ _ _ _ _ _ _ _ hr hu=>(Z.aF (vT tx) (hr.mono (by decide)) (by rfl) tx.qZ tx.mR.kp tx.qY .nil aQ (Z.aD (Z.pv 2) (Z.aD (Z.pv 1) (Z.aD (Z.aK (K':=K) (Z.pv 3) (Z.pv 0) (fun _ _=>rfl)) Z.aB))))))))) ?_
  refine aR (σ:=[some (.ref x),some (.ref b),some (.ref q),none]) rfl ?_
  walk_at "w"
  refine⟨x,m,b,st,ps.length,by rw[List.length_map],hm,hg,hb,hst,by omega,fun la Ls H1 s1 nla hla hL lL=>?_⟩
  walk_at "w"
  refine⟨s1 _ _ gt,fun f c' H3 Cc s3 hc hC=>?_⟩
  have s03:=s1.trans s3
  refine⟨Int×Int,κS,la,f,Ls,Wr m ps,_,rfl,hla.same s3,aCs hg hst ps (by omega) hL,by omega,aBA (K:=K) (a:=a) Cc f _ hC (hm.same s03) hg (s03 _ _ hq) ha (fun H' h b' p Q s' gq hp hsp=>?_),fun i qs y e1 e2 hy=>?_,fun r H4 s4 nr hd=>?_⟩
  ·refine⟨s' _ _ hc,rfl,?_⟩
   refine aHD (σ:=[some (.int (h:Int)),some (.ref b'),some (.ref x),some (.ref q)]) rfl ?_
   walk_at "w"
   exact hsp
  ·exact⟨by omega,(Rc.st hg hst (((hL.at_ i qs e1).2 y).mp hy)).1⟩
  ·exact k r Ls H4 (s03.trans s4) (s03.free nr) hL lL hd
def x8(K:W.Frag)(C t1 t2:Addr):Sp:=fun vs H Q _=>∃(x:Addr) (m:MS) (b:Addr) (a:Int×Int) (q:Addr) (ps:List Int),vs=[.ref x,.ref b,.ref q]/\H t1=some (.ctb cG cH)/\H t2=some (.ctb gC gE)/\bX C H x m/\m.Good/\H b=some (.tup [.int a.1,.int a.2])/\St1 m a/\H q=some (.lst (ps.map V.int))/\(∀n∈ps,Am n)/\ps.length<=48/\
 ∀T r H',aJ H H'->H r=none->H' T=some (.tup [.int (rwF m ps a),.ref r])->H' r=some (.lst ((rrF m ps a).map V.int))->Q (.ref T) H'
theorem yA{P:Program}{w:World}{K:PySem.W.Frag}{mg:Str->Option Value}{base:Heap}{a:nA}(tx:Txt K mg a):bR P w K mg base iV 13 a.iC a.eX ["machine","state","prices"] (x8 K a.bB a.cS a.iF):=by
 have uC:=sQ (P:=P) (w:=w) (base:=base) tx
 have aCu:=fun base':Heap=>aCo (P:=P) (w:=w) (base:=base') tx
 refine tx.lA.okC tx.lE jR (fun vs H Q E h=>?_) (fun A outer s H vs Q E hr h=>?_)
 ·obtain⟨x,m,b,st,q,ps,rfl,_⟩:=h
  rfl
 ·obtain⟨x,m,b,st,q,ps,rfl ,gt1,gt2,hm,hg,hb,hst,hq,ha,hl,k⟩:=h
  have hu:=nM hr
  refine Z.root (Z.aC (Z.aM (i:=3) jR.nd rfl (Or.inl rfl) (Z.aF (uC) (hr.mono (by decide)) (by rfl) tx.kZ tx.gI.kp tx.kY .nil aQ (Z.aD (Z.pv 0) (Z.aD (Z.pv 1) (Z.aD (Z.pv 2) Z.aB)))))
   (Z.aC (Z.aM (i:=4) jR.nd rfl (Or.inl rfl) (Z.uR (psL:=["hour","place"]) (N:=["hour","place","machine","prices"]) (idx:=[0,2]) (sp:=fun C=>vO K C) (kc:=8) (aCu) (hr.mono (by decide)) (by rfl) tx.wZ tx.qX.kp tx.wY (fun _=>rfl) (fW (sc:=aE cA) (NX:=["machine","state","prices","worths","run"]) rfl rfl rfl (by decide +kernel)) rfl rfl rfl rfl (fun _ _ _ _ us hl=>by obtain⟨_,_,rfl⟩:=ar2 us hl;rfl) (Z.aBW (Z.pv 1) (Z.aBW (Z.pv 3) (Z.aEO (N:=["hour","place","machine","prices"]) (n:=2) (idx:=[0,2]) rfl tx.lE.hd rfl rfl (fW (sc:=aE cA) (NX:=["machine","state","prices","worths","run"]) rfl rfl rfl (by decide +kernel))))) (fun _ _ _ _ _ _ _ _ hr hu=>(Z.aF (vT tx) (hr.mono (by decide)) (by rfl) tx.qZ tx.mR.kp tx.qY .nil aQ (Z.aD (Z.pv 2) (Z.aD (Z.pv 1) (Z.aD (Z.aK (K':=K) (Z.pv 3) (Z.pv 0) (fun _ _=>rfl)) Z.aB)))))))
   (Z.aG (Z.aS (Z.oJ (Z.nU hu (Z.aK (K':=K) (Z.pv 3) Z.aA (fun _ _=>rfl)) (Z.pv 1)) (Z.pv 4)))))) ?_
  refine aR (σ:=[some (.ref x),some (.ref b),some (.ref q),none,none]) rfl ?_
  walk_at "w"
  refine⟨x,m,b,st,q,ps,rfl,gt1,hm,hg,hb,hst,hq,ha,hl,fun lw Ls H1 s1 nlw hL lL hd=>?_⟩
  walk_at "w"
  refine⟨s1 _ _ gt2,fun f c' H3 Cc s3 hc hC=>?_⟩
  have s03:=s1.trans s3
  have el0:Ls[0]?=some Ls[0]:=List.getElem?_eq_getElem (by omega)
  have in0:st∈Ls[0]:=((hL.at_ 0 _ el0).2 st).mpr rfl
  refine⟨Int×Int,κS,.ref b,st,Ls[0],lw,f,Ls,Wr m ps,_,rfl,⟨b,rfl,s03 _ _ hb⟩,hd.same s3,el0,in0,aCs hg hst ps (by omega) hL,by omega,aBA (K:=K) (a:=a) Cc f _ hC (hm.same s03) hg (s03 _ _ hq) ha (fun H' h b' p Q s' gq hp hsp=>?_),fun i qs y e1 e2 hy=>?_,fun r H4 s4 nr gr=>?_⟩
  ·refine⟨s' _ _ hc,rfl,?_⟩
   refine aHD (σ:=[some (.int (h:Int)),some (.ref b'),some (.ref x),some (.ref q)]) rfl ?_
   walk_at "w"
   exact hsp
  ·exact⟨by omega,(Rc.st hg hst (((hL.at_ i qs e1).2 y).mp hy)).1⟩
  ·have s04:=s03.trans s4
   obtain⟨ds,gds,lds,hds⟩:=(hd.same (s3.trans s4)).ex
   have ed:ds[0]?=some ds[0]:=List.getElem?_eq_getElem (by omega)
   have h0:=hds 0 _ _ ed el0
   generalize ds[0]=d0 at ed h0
   have ix:pO (ds.map V.ref) 0=some (.ref d0):=cU (j:=0) (nJ ed)
   walk_at "w"
   refine⟨d0,_,rfl,κS.get (v:=.ref b) (x:=st) h0 ⟨b,rfl,s04 _ _ hb⟩ in0,?_⟩
   walk_at "w"
   intro T nT
   obtain⟨H5,i5,s5,g5⟩:=nw _ nT;rw[i5]
   walk_at "w"
   have e1:Ls.length - 1=ps.length:=by omega
   rw[e1] at gr
   rw[Nat.sub_zero,e1] at g5
   exact k T r H5 (s04.trans s5) (s03.free nr) g5 (s5 _ _ gr)
def aAR(K:W.Frag):Sp:=fun vs H Q _=>∃(p b:Addr) (x y M:Int),vs=[.ref p,.ref b,.int M]/\bF H p/\H b=some (.lst [.int x,.int y])/\1<=y/\y<=50000000000/\Am M/\
 ∀(r:Int) H',Am r->bF H' p->bZ p H H'->fU p H H'->Q (.int r) H'
theorem aAS{P:Program}{w:World}{K:PySem.W.Frag}{mg:Str->Option Value}{base:Heap}{a:nA}(tx:Txt K mg a):bR P w K mg base iV 2 a.kG a.kH ["_law_hand","_law_by","_law_most"] (aAR K):=by
 have aO:=d7 (P:=P) (w:=w) (base:=base) tx
 refine tx.pC.ok aAC (fun vs H Q E h=>?_) (fun cdv A outer s H vs Q E hr h=>?_)
 ·obtain⟨p,b,x,y,M,rfl,_⟩:=h
  rfl
 ·obtain⟨p,b,x,y,M,rfl ,hh,hb,y0,y1,hM,k⟩:=h
  have hu:=nM hr
  refine Z.root (Z.aG (Z.aS (Z.aI (v9 rfl) (by rfl) tx.pJ tJ (Z.aD (Z.aI (iJ rfl) (by rfl) tx.pI tI (Z.aD Z.aA (Z.aD (Z.aN gG (Z.aN bL (Z.aN bS (Z.aK (K':=K) (Z.pv 1) Z.aA (fun _ _=>rfl)) (Z.aF (aO) (hr.mono (by decide)) (by rfl) tx.aZ tx.aU.kp tx.aY .nil aQ (Z.aD (Z.pv 0) (Z.aD Z.aA Z.aB)))) (Z.aF (aO) (hr.mono (by decide)) (by rfl) tx.aZ tx.aU.kp tx.aY .nil aQ (Z.aD (Z.pv 0) (Z.aD Z.aA Z.aB)))) Z.aA) Z.aB))) (Z.aD (Z.pv 2) Z.aB))))) ?_
  obtain⟨m0,m1⟩:=hM
  have bp:b≠p:=hh.aKM hb (by simp)
  refine aR (σ:=[some (.ref p),some (.ref b),some (.int M)]) rfl ?_
  walk_at "w"
  refine⟨p,_,rfl,hh,by decide,by decide,fun r1 H1 a1 b1 h1 k1 q1=>?_⟩
  walk_at "w"
  refine⟨p,_,rfl,h1,by decide,by decide,fun r2 H2 a2 b2 h2 k2 q2=>?_⟩
  walk_at "w"
  exact k _ _ ⟨by omega,by omega⟩ h2 (k1.trans k2) (q1.trans q2)
theorem sN.aDs{H H':Hp}{a s:Addr}{ps:List (Int×Int)}{m:MS}(h:sN H a ps)(hs:cJ H s m)(k:bZ s H H'):sN H' a ps:=by
 obtain⟨qs,h1,h2⟩:=h.ex
 obtain⟨pl,g1,_⟩:=hs.ex
 refine⟨qs,k _ _ h1 (fun z=>?_),h2.keep (fun xs z=>by rw[g1] at z;cases z) k⟩
 rw[z,g1] at h1
 cases qs with
 |nil=>cases h1
 |cons q r=>cases h1
def OV(H:Hp)(v:V):Option (Int×Int)->Prop
 |none=>v=.non
 |some s=>∃T,v=.ref T/\H T=some (.tup [.int s.1,.int s.2])
theorem OV.same{H H':Hp}{v:V}:∀{o:Option (Int×Int)},OV H v o->aJ H H'->OV H' v o
 |none,h,_=>h
 |some _,⟨T,e,g⟩,s=>⟨T,e,s _ _ g⟩
def aCv(m:MS)(q:Int×Int)(on:Int):Option (Int×Int):=if q.1=on\/q.2=0 then some (lK m q.1 q.2 on) else none
def aAT(K:W.Frag):Sp:=fun vs H Q _=>∃(s:Addr) (m:MS) (t:Addr) (o d on:Int),vs=[.ref s,.ref t,.int on]/\cJ H s m/\H t=some (.tup [.int o,.int d])/\Bit on/\Bit o/\0<=d/\
 ∀v H',aJ H H'->OV H' v (aCv m (o,d) on)->Q v H'
theorem nK{P:Program}{w:World}{K:PySem.W.Frag}{mg:Str->Option Value}{base:Heap}{a:nA}(tx:Txt K mg a):bR P w K mg base iV 1 a.kI a.kJ ["_law_spec_here","_law_state_here","_law_on"] (aAT K):=by
 refine tx.dZ.ok aAD (fun vs H Q E h=>?_) (fun cdv A outer s H vs Q E hr h=>?_)
 ·obtain⟨s,m,t,o,d,on,rfl,_⟩:=h
  rfl
 ·obtain⟨s,m,t,o,d,on,rfl ,hs,ht,hon,ho,hd,kk⟩:=h
  have hu:=nM hr
  refine Z.root (Z.aC (Z.cN (Z.bP (r:=nP K) (eR hu) (Z.pv 2) (Z.aK (K':=K) (Z.pv 1) Z.aA (fun _ _=>rfl)) (bN _)) (Z.aG (Z.aS (Z.oJ (Z.pv 2) (Z.aI (iJ rfl) (by rfl) tx.pI tI (Z.aD Z.aA (Z.aD (Z.aN gG (Z.aK (K':=K) (Z.pv 1) Z.aA (fun _ _=>rfl)) Z.aA) Z.aB)))))) Z.bI)
   (Z.aC (Z.cN (Z.bP aEz (Z.aK (K':=K) (Z.pv 1) Z.aA (fun _ _=>rfl)) Z.aA (bN _)) (Z.aG (Z.aS Z.mV)) Z.bI)
   (Z.aG (Z.aS (Z.oJ (Z.pv 2) (Z.aN gG (Z.aK (K':=K) (Z.aCX (Z.aK (K':=K) (Z.pv 0) Z.aA (fun _ _=>rfl)) (Z.aK (K':=K) (Z.pv 0) Z.aA (fun _ _=>rfl))) (Z.pv 2) (fun _ _=>rfl)) Z.aA)))))) ?_
  have k1:(o=on\/d=0)->∀T H',aJ H H'->H T=none->H' T=some (.tup [.int (lK m o d on).1,.int (lK m o d on).2])->Q (.ref T) H':=fun h T H' s _ g=>kk _ _ s (by unfold aCv;rw[if_pos h];exact⟨T,rfl,g⟩)
  have k2:¬(o=on\/d=0)->Q .non H:=fun h=>kk _ _ (aJ.refl _) (by unfold aCv;rw[if_neg h];rfl)
  obtain⟨pl,e1,_⟩:=hs.ex
  refine aR (σ:=[some (.ref s),some (.ref t),some (.int on)]) rfl ?_
  walk_at "w"
  refine cV (fun h=>?_) (fun h=>?_)
  ·have k3:=k1 (.inl h.symm)
   unfold lK at k3
   rw[if_pos h.symm] at k3
   walk_at "w"
   rw[show max 0 (d - 1)=max (d - 1) 0 by omega]
   intro T nT
   walk_at "w"
   exact k3 _ _ (aJ.new nT) nT aH
  ·walk_at "w"
   refine cV (fun h1=>?_) (fun h1=>?_)
   ·walk_at "w"
    exact k2 (fun z=>by rcases z with z|z;exact h z.symm;omega)
   ·have k3:=k1 (.inr (by omega))
    unfold lK at k3
    rw[if_neg (fun z=>h z.symm)] at k3
    walk_at "w"
    intro l nl
    walk_at "w"
    have sl:=aJ.new (o:=.lst [.int m.down,.int m.up]) nl
    rcases hon with rfl|rfl
    ·refine aDU (bQ.of aH) rfl ?_
     rw[if_neg (by decide)] at k3
     walk_at "w"
     intro T nT
     walk_at "w"
     exact k3 _ _ (sl.trans (aJ.new nT)) (sl.free nT) aH
    ·refine aDU (bQ.of aH) rfl ?_
     rw[if_pos rfl] at k3
     walk_at "w"
     intro T nT
     walk_at "w"
     exact k3 _ _ (sl.trans (aJ.new nT)) (sl.free nT) aH
theorem tS{H H':Hp}{qs:List Addr}{ts:List (List Int)}(h:cF H qs ts)(s:aJ H H'):cF H' qs ts:=⟨h.len,fun j q t x y=>⟨s _ _ (h.at_ j q t x y).1,(h.at_ j q t x y).2⟩⟩
def OVs(H:Hp)(vs:List V)(os:List (Option (Int×Int))):Prop:=vs.length=os.length/\∀(i:Nat) v o,vs[i]?=some v->os[i]?=some o->OV H v o
theorem OVs.same{H H':Hp}{vs:List V}{os:List (Option (Int×Int))}(h:OVs H vs os)(s:aJ H H'):OVs H' vs os:=⟨h.1,fun i v o x y=>(h.2 i v o x y).same s⟩
theorem OVs.app{H:Hp}{vs us:List V}{os qs:List (Option (Int×Int))}(h:OVs H vs os)(g:OVs H us qs):OVs H (vs++us) (os++qs):=by
 refine⟨by rw[List.length_append,List.length_append,h.1,g.1],fun i v o x y=>?_⟩
 by_cases hi:i < vs.length
 ·rw[List.getElem?_append_left hi] at x
  rw[List.getElem?_append_left (by rw[<-h.1];exact hi)] at y
  exact h.2 i v o x y
 ·rw[List.getElem?_append_right (by omega)] at x
  rw[List.getElem?_append_right (by rw[<-h.1];omega),<-h.1] at y
  exact g.2 _ v o x y
theorem OVs.two{H:Hp}{u v:V}{a b:Option (Int×Int)}(h:OV H u a)(g:OV H v b):OVs H [u,v] [a,b]:=⟨rfl,fun i w o x y=>by
 match i,x,y with
 |0,x,y=>cases x;cases y;exact h
 |1,x,y=>cases x;cases y;exact g
 |_+2,x,_=>simp at x⟩
def nx(m:MS)(q:Int×Int):List (Option (Int×Int)):=[aCv m q 0,aCv m q 1]
theorem aHF{m:MS}{ks:List (Int×Int)}{s:Int×Int}:some s∈ks.flatMap (nx m)↔∃q∈ks,On m q s:=by
 rw[List.mem_flatMap]
 have one:∀{q:Int×Int} {on:Int},some s=aCv m q on↔(q.1=on\/q.2=0)/\s=lK m q.1 q.2 on:=by
  intro q on
  unfold aCv
  by_cases c:q.1=on\/q.2=0
  ·rw[if_pos c]
   exact⟨fun h=>⟨c,Option.some.inj h⟩,fun h=>congrArg some h.2⟩
  ·rw[if_neg c]
   exact⟨(fun h=>by cases h),fun h=>absurd h.1 c⟩
 constructor
 ·rintro ⟨q,hq,h⟩
  refine⟨q,hq,?_⟩
  rcases List.mem_cons.mp h with h|h
  ·obtain⟨c,e⟩:=one.mp h
   exact⟨0,.inl rfl,c,e⟩
  ·rcases List.mem_cons.mp h with h|h
   ·obtain⟨c,e⟩:=one.mp h
    exact⟨1,.inr rfl,c,e⟩
   ·cases h
 ·rintro ⟨q,hq,on,b,c,e⟩
  refine⟨q,hq,?_⟩
  rcases b with rfl|rfl
  ·exact List.mem_cons.mpr (.inl (one.mpr ⟨c,e⟩))
  ·exact List.mem_cons.mpr (.inr (List.mem_cons.mpr (.inl (one.mpr ⟨c,e⟩))))
theorem aEt(m:MS):∀ks:List (Int×Int),(ks.flatMap (nx m)).length=2*ks.length
 |[]=>rfl
 |k::ks=>by rw[List.flatMap_cons,List.length_append,aEt m ks,List.length_cons];show 2+_=_;omega
def dd:List (List Int)->List (List Int)
 |[]=>[]
 |x::r=>if x∈dd r then dd r else x::dd r
theorem aAm:∀{l:List (List Int)}{x:List Int},x∈dd l↔x∈l
 |[],_=>Iff.rfl
 |y::r,x=>by
  unfold dd
  split
  ·rename_i h
   rw[aAm,List.mem_cons]
   exact⟨.inr,fun z=>by rcases z with z|z;rw[z];exact aAm.mp h;exact z⟩
  ·rw[List.mem_cons,List.mem_cons,aAm]
theorem aHG:∀l:List (List Int),(dd l).Nodup
 |[]=>List.nodup_nil
 |y::r=>by
  unfold dd
  split
  ·exact aHG r
  ·rename_i h
   exact List.nodup_cons.mpr ⟨h,aHG r⟩
def stL(s:Int×Int):List Int:=[s.1,s.2]
theorem aJh{m:MS}(g:m.Good){a:Int×Int}(h:St1 m a){n:Nat}{us:List (List Int)}(nd:us.Nodup)(hr:∀t∈us,∃s,t=stL s/\Rc m a n s):us.length<=25:=by
 have e:us=(us.map fun u=>(u.getD 0 0,u.getD 1 0)).map stL:=by
  rw[List.map_map]
  conv=>lhs;rw[<-List.map_id us]
  refine List.map_congr_left fun u hu=>?_
  obtain⟨s,rfl,_⟩:=hr u hu
  rfl
 have nd2:(us.map fun u=>(u.getD 0 0,u.getD 1 0)).Nodup:=by
  rw[List.Nodup,List.pairwise_map]
  refine nd.imp_of_mem ?_
  intro x y hx hy hxy z
  obtain⟨s,rfl,_⟩:=hr x hx
  obtain⟨s',rfl,_⟩:=hr y hy
  refine hxy ?_
  injection z with z1 z2
  unfold stL
  rw[show s.1=s'.1 from z1,show s.2=s'.2 from z2]
 have:=Rc.few g h nd2 (n:=n) fun k hk=>by
  obtain⟨u,hu,rfl⟩:=List.mem_map.mp hk
  obtain⟨s,rfl,hs⟩:=hr u hu
  exact hs
 rw[List.length_map] at this
 exact this
theorem OVs.refs{H:Hp}:∀{vs:List V}{os:List (Option (Int×Int))},OVs H vs os->∃qs:List Addr,vs.filter (fun v=>!decide (v=V.non))=qs.map V.ref/\cF H qs ((os.filterMap id).map stL)
 |[],[],_=>⟨[],rfl,rfl,fun j q t h=>by simp at h⟩
 |[],_::_,h=>by have:=h.1;simp at this
 |_::_,[],h=>by have:=h.1;simp at this
 |v::vs,o::os,h=>by
  obtain⟨qs,e1,e2⟩:=OVs.refs (vs:=vs) (os:=os) ⟨by have:=h.1;simpa using this,fun i w o x y=>h.2 (i+1) w o x y⟩
  have h0:=h.2 0 v o rfl rfl
  cases o with
  |none=>
   have h0':v=.non:=h0
   subst h0'
   exact⟨qs,e1,e2⟩
  |some s=>
   obtain⟨T,rfl,g⟩:=h0
   refine⟨T::qs,by rw[List.filter_cons_of_pos (by simp),e1];rfl,by have:=e2.len;simp[this],fun j q t x y=>?_⟩
   cases j with
   |zero=>cases x;cases y;exact⟨g,by unfold stL;simp⟩
   |succ j=>exact e2.at_ j q t x y
theorem aHH{H:Hp}{qs:List Addr}{us ts:List (List Int)}(nd:ts.Nodup)(hf:∀t∈ts,∃s,t=stL s)(hT:cF H qs us)(hp:us.Perm ts)(hs:us.Pairwise fun a b=>nR b a=false) :
  ∃ks:List (Int×Int),ks.Pairwise sLt/\(∀s,s∈ks↔stL s∈ts)/\PVs κS H (qs.map V.ref) ks:=by
 have e:(ts.map fun u=>(((u.getD 0 0,u.getD 1 0),0):WP)).map (fun p=>[p.1.1,p.1.2])=ts:=by
  rw[List.map_map]
  conv=>rhs;rw[<-List.map_id ts]
  refine List.map_congr_left fun u hu=>?_
  obtain⟨s,rfl⟩:=hf u hu
  rfl
 have nd2:((ts.map fun u=>(((u.getD 0 0,u.getD 1 0),0):WP)).map (·.1)).Nodup:=by
  rw[List.map_map,List.Nodup,List.pairwise_map]
  refine nd.imp_of_mem ?_
  intro x y hx hy hxy z
  obtain⟨s,rfl⟩:=hf x hx
  obtain⟨s',rfl⟩:=hf y hy
  refine hxy ?_
  have z1:=congrArg Prod.fst z
  have z2:=congrArg Prod.snd z
  unfold stL
  rw[show s.1=s'.1 from z1,show s.2=s'.2 from z2]
 obtain⟨ks,a1,a2,a3⟩:=tD nd2 hT (by rw[e];exact hp) hs
 refine⟨ks,a1,fun s=>?_,a3⟩
 rw[a2,List.map_map,List.mem_map]
 constructor
 ·rintro ⟨u,hu,e⟩
  obtain⟨s',rfl⟩:=hf u hu
  rw[show s=s' from e.symm]
  exact hu
 ·intro h
  exact⟨stL s,h,rfl⟩
theorem aKT{H:Hp}{m:MS}{a:Int×Int}{n:Nat}{ks:List (Int×Int)}(hk:∀s,s∈ks↔Rc m a n s){t:List Int}:t∈((ks.flatMap (nx m)).filterMap id).map stL↔∃s,t=stL s/\Rc m a (n+1) s:=by
 rw[List.mem_map]
 have one:∀s,s∈(ks.flatMap (nx m)).filterMap id↔Rc m a (n+1) s:=fun s=>by
  rw[List.mem_filterMap]
  constructor
  ·rintro ⟨o,ho,e⟩
   have e':o=some s:=e
   rw[e',aHF] at ho
   obtain⟨q,hq,h⟩:=ho
   exact⟨q,(hk q).mp hq,h⟩
  ·rintro ⟨q,hq,h⟩
   exact⟨some s,aHF.mpr ⟨q,(hk q).mpr hq,h⟩,rfl⟩
 constructor
 ·rintro ⟨s,hs,e⟩
  exact⟨s,e.symm,(one s).mp hs⟩
 ·rintro ⟨s,e,hs⟩
  exact⟨s,(one s).mpr hs,e.symm⟩
theorem aLV(m:MS)(p:Int)(s:Int×Int):hw m p s 0=m.rest:=by
 show aFR m s.1 [0] - 0*gnT m p=_
 unfold aFR
 rw[show bgs s.1 [0] 0=[] by show(if (0:Int)=1/\s.1=0 then [((0:Nat):Int)] else []) ++ []=[];rw[if_neg (by omega)];rfl]
 simp
theorem aLW(m:MS)(p:Int){s:Int×Int}(b:Bit s.1):hw m p s 1=m.run+m.begin_*(1 - s.1) - gnT m p:=by
 show aFR m s.1 [1] - 1*gnT m p=_
 unfold aFR
 rcases b with b|b
 ·rw[show bgs s.1 [1] 0=[0] by show(if (1:Int)=1/\s.1=0 then [((0:Nat):Int)] else []) ++ []=[0];rw[if_pos ⟨rfl,b⟩];rfl,b]
  simp
  omega
 ·rw[show bgs s.1 [1] 0=[] by show(if (1:Int)=1/\s.1=0 then [((0:Nat):Int)] else []) ++ []=[];rw[if_neg (by omega)];rfl,b]
  simp
def aCw(K:W.Frag):Sp:=fun vs H Q _=>∃(s:Addr) (m:MS) (t:Addr) (a:Int×Int) (p on:Int),vs=[.ref s,.ref t,.int p,.int on]/\cJ H s m/\m.Good/\H t=some (.tup [.int a.1,.int a.2])/\Bit a.1/\0<=p/\p<=1000000000001/\Bit on/\
 ∀H',aJ H H'->Q (.int (hw m p a on)) H'
theorem vV{P:Program}{w:World}{K:PySem.W.Frag}{mg:Str->Option Value}{base:Heap}{a:nA}(tx:Txt K mg a):bR P w K mg base iV 2 a.mI a.mJ ["_law_spec_here","_law_state_here","_law_price_here","_law_on"] (aCw K):=by
 have mU:=vI (P:=P) (w:=w) (base:=base) tx
 refine tx.mS.ok aB5 (fun vs H Q E h=>?_) (fun cdv A outer s H vs Q E hr h=>?_)
 ·obtain⟨s,m,t,st,pr,on,rfl,_⟩:=h
  rfl
 ·obtain⟨s,m,t,st,pr,on,rfl ,hs,hg,ht,hb,p0,p1,bon,k⟩:=h
  have hu:=nM hr
  refine Z.root (Z.aC (Z.cN (Z.bP (r:=nP K) (eR hu) (Z.pv 3) Z.aA (bN _)) (Z.aG (Z.aS (Z.aK (K':=K) (Z.pv 0) Z.aA (fun _ _=>rfl)))) Z.bI)
   (Z.aG (Z.aS (Z.aN gG (Z.aN bL (Z.aK (K':=K) (Z.pv 0) Z.aA (fun _ _=>rfl)) (Z.aN bS (Z.aK (K':=K) (Z.pv 0) Z.aA (fun _ _=>rfl)) (Z.aN gG Z.aA (Z.aK (K':=K) (Z.pv 1) Z.aA (fun _ _=>rfl))))) (Z.aF (mU) (hr.mono (by decide)) (by rfl) tx.mQ tx.jN.kp tx.mP .nil aQ (Z.aD (Z.pv 0) (Z.aD (Z.pv 2) Z.aB))))))) ?_
  obtain⟨pl,e1,_⟩:=hs.ex
  obtain⟨b0,b1⟩:=hg.begin_
  have bb:0<=st.1/\st.1<=1:=by rcases hb with z|z <;> omega
  obtain⟨bb0,bb1⟩:=bb
  refine aR (σ:=[some (.ref s),some (.ref t),some (.int pr),some (.int on)]) rfl ?_
  walk_at "w"
  rcases bon with rfl|rfl
  ·repeat walk_at "gs"
   rw[aLV] at k
   exact k H (aJ.refl _)
  ·repeat walk_at "gs"
   refine⟨s,m,pr,rfl,hs,hg,p0,p1,fun H1 s1=>?_⟩
   walk_at "w"
   rw[aLW m pr hb] at k
   exact k H1 s1
def yB(K:W.Frag):Sp:=fun vs H Q _=>∃(s:Addr) (m:MS) (t:Addr) (a:Int×Int) (n:Nat),vs=[.ref s,.ref t,.int (n:Int)]/\cJ H s m/\m.Good/\H t=some (.tup [.int a.1,.int a.2])/\St1 m a/\n<=1000/\
 ∀la Ls H',aJ H H'->H la=none->aBz κS H' la Ls->aAN m a Ls->Ls.length=n+1->Q (.ref la) H'
theorem yC{P:Program}{w:World}{K:PySem.W.Frag}{mg:Str->Option Value}{base:Heap}{a:nA}(tx:Txt K mg a):bR P w K mg base iV 2 a.iD a.iE ["_law_spec_here","_law_state_here","_law_hours"] (yB K):=by
 have d8:=nK (P:=P) (w:=w) (base:=base) tx
 refine tx.lB.ok cX (fun vs H Q E h=>?_) (fun cdv A outer s H vs Q E hr h=>?_)
 ·obtain⟨s,m,t,st,n,rfl,_⟩:=h
  rfl
 ·obtain⟨s,m,t,st,n,rfl ,hs,hg,ht,hst,hn,k⟩:=h
  have hu:=nM hr
  refine Z.root (Z.aC (Z.aM (i:=3) cX.nd rfl (Or.inl rfl) (Z.xK (Z.xK (Z.pv 1))))
   (Z.aC (Z.cE PassesOwn.never rfl (Z.cO (by rfl) tx.dF (Z.aD (Z.pv 2) Z.aB)) (Z.aP (i:=4) cX.nd rfl (Or.inl rfl)) (Z.aC (Z.aM (i:=5) cX.nd rfl (Or.inl rfl) (Z.eO Z.aB))
   (Z.aC (Z.cE PassesOwn.never rfl (Z.cP (K':=K) (Z.aK (K':=K) (Z.pv 3) (Z.sS pU Z.aA) (fun _ _=>rfl))) (Z.aP (i:=6) cX.nd rfl (Or.inl rfl)) (Z.aG (Z.aM (i:=5) cX.nd rfl (Or.inl rfl) (Z.aN bL (Z.pv 5) (Z.aCX (Z.aF (d8) (hr.mono (by decide)) (by rfl) tx.fS tx.dZ.kp tx.fR .nil aQ (Z.aD (Z.pv 0) (Z.aD (Z.pv 6) (Z.aD Z.aA Z.aB)))) (Z.aF (d8) (hr.mono (by decide)) (by rfl) tx.fS tx.dZ.kp tx.fR .nil aQ (Z.aD (Z.pv 0) (Z.aD (Z.pv 6) (Z.aD Z.aA Z.aB)))))))))
   (Z.aG (Z.fB (Z.iZ (K':=K) (Z.pv 3) (Z.aD (Z.aI (rc:=aEd w) (aEe rfl) (by rfl) tx.lF aA9 (Z.aD (Z.iK (rc:=aHq w) (aFO rfl hu) (by rfl) tx.aBs aKH (Z.aD (Z.fE (k:=1) (idx:=[]) (N:=["_law_one"]) (fW (sc:=aE cQ) (NX:=["_law_spec_here","_law_state_here","_law_hours","_law_rows","_law_hour_here","_law_later","_law_one"]) rfl rfl rfl (by decide +kernel)) rfl (Z.cP (K':=K) (Z.pv 5)) (fun _ _ _ _=>(Z.aP (i:=0) (show(["_law_one"]:List Str).Nodup by decide +kernel) rfl (Or.inl rfl))) (kQ (by decide)) (fun _ _ _ _=>(Z.rQ (Z.bP rX (Z.pv 0) Z.mV (bN _)))) (fun _ _ _ _=>(Z.pv 0))) Z.aB)) Z.aB)) Z.aB)))))))
   (Z.aG (Z.aS (Z.pv 3))))) ?_
  refine aR (σ:=[some (.ref s),some (.ref t),some (.int (n:Int)),none,none,none,none]) rfl ?_
  walk_at "w"
  intro l0 nl0
  obtain⟨H1,i1,s1,g1⟩:=nw _ nl0;rw[i1]
  walk_at "w"
  intro la nla
  obtain⟨H4,i4,s4,g4⟩:=nw _ nla;rw[i4]
  have S4:aJ H H4:=s1.trans s4
  have nlaH:H la=none:=s1.free nla
  have g14:=s4 _ _ g1
  have ht4:=S4 _ _ ht
  walk_at "w"
  refine⟨by omega,by omega,?_⟩
  refine jM (fun i σ' H'=>∃(as:List Addr) (Ls:List (List (Int×Int))) (z4 z5 z6:Option V),σ'=[some (.ref s),some (.ref t),some (.int (n:Int)),some (.ref la),z4,z5,z6]/\aJ H H'/\H' la=some (.lst (as.map V.ref))/\RL (fun b ps=>∃us,H' b=some (.lst us)/\PVs κS H' us ps/\b≠la) as Ls/\aAN m st Ls/\Ls.length=i+1)
   ⟨[l0],[[st]],_,_,_,rfl,S4,g4,RL.one ⟨_,g14,⟨rfl,fun i v x h1 h2=>?_⟩,fun z=>?_⟩,⟨fun i ps hi=>?_⟩,rfl⟩ (fun i σ' H' hi ⟨as,Ls,z4,z5,z6,e,S',gla,rla,hL,lL⟩=>?_) (fun σ' H' ⟨as,Ls,z4,z5,z6,e,S',gla,rla,hL,lL⟩=>?_)
  ·match i,h1,h2 with
   |0,h1,h2=>cases h1;cases h2;exact⟨t,rfl,ht4⟩
   |_+1,h1,_=>simp at h1
  ·rw[z,nla] at g1
   cases g1
  ·match i,hi with
   |0,hi=>cases hi;exact⟨by simp,fun s=>by show s∈[st]↔s=st;simp⟩
   |_+1,hi=>simp at hi
  ·subst e
   have las:=rla.len
   have ea:as[i]?=some as[i]:=List.getElem?_eq_getElem (by omega)
   have el:Ls[i]?=some Ls[i]:=List.getElem?_eq_getElem (by omega)
   obtain⟨us,gp,hP,pla⟩:=rla.at_ i _ _ ea el
   obtain⟨hw,hk⟩:=hL.at_ i _ el
   generalize as[i]=p at ea gp pla
   generalize Ls[i]=ks at el hP hw hk
   have ai:pO (as.map V.ref) (-1)=some (.ref p):=by
    rw[uJ (by rw[List.length_map];omega),List.length_map,las,lL,Nat.add_sub_cancel]
    exact nJ ea
   have few:=Rc.few hg hst (aEr hw) fun k hk'=>(hk k).mp hk'
   walk_at "w"
   intro lt nlt
   obtain⟨H2,i2,s2,g2⟩:=nw _ nlt;rw[i2]
   have gla2:=s2 _ _ gla
   walk_at "w"
   have hPl:=hP.1
   refine kR (bQ.of (s2 _ _ gp)) ?_
   refine rV (xs:=us) (fun j σ' H'=>∃(lt:Addr) (vs:List V) (z4 z6:Option V),σ'=[some (.ref s),some (.ref t),some (.int (n:Int)),some (.ref la),z4,some (.ref lt),z6]/\aJ H2 H'/\H' lt=some (.lst vs)/\OVs H' vs ((ks.take j).flatMap (nx m)))
    ⟨lt,[],_,_,rfl,aJ.refl _,g2,rfl,fun i v o h1=>by simp at h1⟩ (fun j σ' H' hj ⟨_,_,_,_,_,s3,_⟩=>bQ.of (s3 _ _ (s2 _ _ gp))) (fun j v σ' H3 hv ⟨lt,vs,z4,z6,e,s3,g3,hO⟩=>?_) (fun σ' H3 ⟨lt,vs,z4,z6,e,s3,g3,hO⟩=>?_)
   ·subst e
    obtain⟨x,hx,T,rfl,gT⟩:=hP.get hv
    have gT3:H3 T=some (.tup [.int x.1,.int x.2]):=(s2.trans s3) _ _ gT
    have S3:=S'.trans (s2.trans s3)
    obtain⟨⟨b1,b2,b3⟩,_⟩:=Rc.st hg hst ((hk x).mp (List.mem_of_getElem? hx))
    walk_at "w"
    refine⟨s,m,T,_,_,0,rfl,hs.same S3,gT3,.inl rfl,b1,b2,fun v0 H4 s4 o0=>?_⟩
    walk_at "w"
    refine⟨s,m,T,_,_,1,rfl,hs.same (S3.trans s4),s4 _ _ gT3,.inr rfl,b1,b2,fun v1 H5 s5 o1=>?_⟩
    walk_at "w"
    intro l5 nl5
    obtain⟨H6,i6,s6,g6⟩:=nw _ nl5;rw[i6]
    have hl:=hO.1
    rw[aEt,List.length_take] at hl
    walk_at "w"
    refine rS ((s4.trans (s5.trans s6)) _ _ g3) g6 (cC (by simp;omega)) ?_
    intro l7 nl7
    obtain⟨H8,i8,s8,g8⟩:=nw _ nl7;rw[i8]
    walk_at "w"
    refine⟨l7,_,_,_,rfl,s3.trans (s4.trans (s5.trans (s6.trans s8))),g8,?_⟩
    rw[gF hx,List.flatMap_append]
    exact(hO.same (s4.trans (s5.trans (s6.trans s8)))).app (by rw[List.flatMap_singleton];exact OVs.two (o0.same (s5.trans (s6.trans s8))) (o1.same (s6.trans s8)))
   ·subst e
    rw[hPl,List.take_length] at hO
    have hl:=hO.1
    rw[aEt] at hl
    have gla3:=s3 _ _ gla2
    walk_at "w"
    refine jP (bQ.of gla3) ?_
    walk_at "w"
    refine kR (bQ.of g3) ?_
    refine gK (xs:=vs) (fun j us H'=>H'=H3/\us=(vs.take j).filter (fun v=>!decide (v=V.non))) ⟨rfl,rfl⟩ (cC (by omega)) (fun j us H' hj ⟨e0,e1⟩=>⟨by rw[e0];exact bQ.of g3,by rw[e1];exact Nat.le_trans (List.length_filter_le ..) (List.length_take_le ..)⟩) (fun j v us H' hv ⟨e0,e1⟩=>?_) (fun us H' ⟨e0,e1⟩=>?_)
    ·subst e0
     have hj:j < ((ks.flatMap (nx m))).length:=by rw[<-hO.1];exact(List.getElem?_eq_some_iff.mp hv).1
     have ov:=hO.2 j v _ hv (List.getElem?_eq_getElem hj)
     have tk:=gF hv
     cases he:(ks.flatMap (nx m))[j] with
     |none=>
      rw[he] at ov
      have ov':v=.non:=ov
      subst ov'
      repeat walk_at "gs"
      refine⟨rfl,?_⟩
      rw[e1,tk,List.filter_append]
      simp
     |some x=>
      rw[he] at ov
      obtain⟨T,rfl,_⟩:=ov
      repeat walk_at "gs"
      refine⟨rfl,?_⟩
      rw[e1,tk,List.filter_append]
      simp
    ·subst e0
     rw[List.take_length] at e1
     obtain⟨qs,q1,q2⟩:=hO.refs
     rw[q1] at e1
     subst e1
     intro lc nlc
     obtain⟨H4,i4,s4,g4⟩:=nw _ nlc;rw[i4]
     have nl:=fun t=>aKT (H:=H4) (t:=t) hk
     walk_at "w"
     refine aIL (al:=dd (((ks.flatMap (nx m)).filterMap id).map stL)) g4 (tS q2 s4) (fun t ht=>aAm.mpr ht) (Nat.lt_of_le_of_lt (aJh hg hst (n:=i+1) (aHG _) fun t ht=>(nl t).mp (aAm.mp ht)) (by decide)) fun pS qs' ts' npS hT' nd' mem'=>?_
     obtain⟨H5,i5,s5,g5⟩:=nw _ npS;rw[i5]
     have fewS:=aJh hg hst (n:=i+1) nd' fun t ht=>(nl t).mp ((mem' t).mp ht)
     walk_at "w"
     refine aHr g5 (tS hT' s5) (by omega) fun pL qL uL npL hTL hpL hsL=>?_
     obtain⟨H6,i6,s6,g6⟩:=nw _ npL;rw[i6]
     obtain⟨ks',c1,c2,c3⟩:=aHH nd' (fun t ht=>by obtain⟨s,e,_⟩:=(nl t).mp ((mem' t).mp ht);exact⟨s,e⟩) hTL hpL hsL
     have s26:=s2.trans (s3.trans (s4.trans (s5.trans s6)))
     have S6:aJ H H6:=S'.trans s26
     have gla6:=s26 _ _ gla
     have npla:pL≠la:=fun z=>by rw[z,(s2.trans (s3.trans (s4.trans s5))) _ _ gla] at npL;cases npL
     have c2':∀x,x∈ks'↔Rc m st (i+1) x:=fun x=>by
      rw[c2,mem',nl]
      exact⟨fun⟨y,e,h⟩=>by
       unfold stL at e
       injection e with e1 e2
       injection e2 with e2
       rw[show x=y from Prod.ext e1 e2];exact h,fun h=>⟨x,rfl,h⟩⟩
     walk_at "w"
     refine mZ (xs:=as.map V.ref) gla6 (Nat.lt_of_lt_of_le (by rw[List.length_map];omega:(as.map V.ref).length < 20000) (cC (by decide))) ?_
     obtain⟨H7,i7,k7,g7⟩:=wr H6 la _;rw[i7]
     walk_at "w"
     have hR:RL (fun b ps=>∃us,H7 b=some (.lst us)/\PVs κS H7 us ps/\b≠la) (as ++ [pL]) (Ls ++ [ks']):=by
      refine RL.snoc (rla.imp fun b ps ⟨us,a1,a2,a3⟩=>⟨us,k7 _ _ (s26 _ _ a1) a3,⟨a2.1,fun i v x h1 h2=>PK.vM (κS.iG (a2.2 i v x h1 h2) s26) gla6 k7⟩,a3⟩) ⟨_,k7 _ _ g6 npla,⟨c3.1,fun i v x h1 h2=>PK.vM (κS.iG (c3.2 i v x h1 h2) s6) gla6 k7⟩,npla⟩
     have hLL:aAN m st (Ls ++ [ks']):=by
      refine⟨fun j rs hj=>?_⟩
      by_cases hj2:j < Ls.length
      ·rw[List.getElem?_append_left hj2] at hj
       exact hL.at_ j rs hj
      ·have hj3:j < (Ls ++ [ks']).length:=(List.getElem?_eq_some_iff.mp hj).1
       rw[List.length_append,List.length_singleton] at hj3
       obtain rfl:j=Ls.length:=by omega
       rw[List.getElem?_append_right (Nat.le_refl _),Nat.sub_self] at hj
       cases hj
       refine⟨c1,fun s=>?_⟩
       rw[c2' s,lL]
     exact⟨as ++ [pL],Ls ++ [ks'],_,_,_,rfl,fun b o e=>k7 _ _ (S6 _ _ e) (bA nlaH e),by rw[g7,List.map_append];rfl,hR,hLL,by rw[List.length_append,lL];rfl⟩
  ·subst e
   walk_at "w"
   exact k la Ls H' S' nlaH ⟨as,gla,rla.imp fun b ps ⟨us,a1,a2,_⟩=>⟨us,a1,a2⟩⟩ hL (by omega)
theorem xF{α:Type}{pn:List α}{i:Nat}{x:α}(nd:pn.Nodup)(ex:pn[i]?=some x):x∉pn.take i:=fun z=>by
 obtain⟨j,hj,ej⟩:=List.getElem_of_mem z
 rw[List.length_take] at hj
 rw[List.getElem_take] at ej
 have e2:pn[i]'((List.getElem?_eq_some_iff.mp ex).1)=x:=(List.getElem?_eq_some_iff.mp ex).2
 have:=(List.getElem_inj nd).mp (ej.trans e2.symm)
 omega
def wvs(m:MS)(p:Int)(f:Int×Int->Int)(s:Int×Int)(ons:List Int):List Int:=(ons.filter (rO s)).map fun on=>hw m p s on+f (lK m s.1 s.2 on)
theorem aIV(m:MS)(p:Int)(f:Int×Int->Int)(s:Int×Int):wvs m p f s [0,1]=(vP m p s).map fun w=>w.2.2+f w.2.1:=by
 unfold wvs vP
 rw[List.map_map]
 rfl
theorem xG{f:Int×Int->Int}{ws:List (Wy (Int×Int))}{mm:Int}(h1:mm∈ws.map fun w=>w.2.2+f w.2.1)(h2:∀x∈ws.map (fun w=>w.2.2+f w.2.1),mm<=x):mm=cT f ws:=by
 obtain⟨w,hw,e⟩:=List.mem_map.mp h1
 exact aBx ⟨w,hw,e⟩ fun w hw=>h2 _ (List.mem_map.mpr ⟨w,hw,rfl⟩)
theorem aAn{m:MS}{s:Int×Int}{on:Int}(h:rO s on=true):aCv m s on=some (lK m s.1 s.2 on):=if_pos (iH.mp h)
theorem aDt{m:MS}{s:Int×Int}{on:Int}(h:rO s on=false):aCv m s on=none:=if_neg fun z=>by rw[iH.mpr z] at h;cases h
def aAo(K:W.Frag):Sp:=fun vs H Q _=>∃(s:Addr) (m:MS) (t:Addr) (a:Int×Int) (q:Addr) (ps:List Int),vs=[.ref s,.ref t,.ref q]/\cJ H s m/\m.Good/\H t=some (.tup [.int a.1,.int a.2])/\St1 m a/\H q=some (.lst (ps.map V.int))/\(∀n∈ps,Am n)/\ps.length<=48/\
 ∀lt Ls H',aJ H H'->H lt=none->aAN m a Ls->Ls.length=ps.length+1->aDq κS H' lt Ls (fun i=>wF (Wr m ps) (ps.length - i) i)->Q (.ref lt) H'
theorem aAp{P:Program}{w:World}{K:PySem.W.Frag}{mg:Str->Option Value}{base:Heap}{a:nA}(tx:Txt K mg a):bR P w K mg base iV 3 a.jF a.jG ["_law_spec_here","_law_state_here","_law_prices"] (aAo K):=by
 have d8:=nK (P:=P) (w:=w) (base:=base) tx
 have rP:=vV (P:=P) (w:=w) (base:=base) tx
 have aAq:=yC (P:=P) (w:=w) (base:=base) tx
 refine tx.nF.ok bK (fun vs H Q E h=>?_) (fun cdv A outer s H vs Q E hr h=>?_)
 ·obtain⟨s,m,t,st,q,ps,rfl,_⟩:=h
  rfl
 ·obtain⟨s,m,t,st,q,ps,rfl ,hs,hg,ht,hst,hq,ha,hl,k⟩:=h
  have hu:=nM hr
  refine Z.root (Z.aC (Z.aM (i:=3) bK.nd rfl (Or.inl rfl) (Z.aF (aAq) (hr.mono (by decide)) (by rfl) tx.rF tx.lB.kp tx.rE .nil aQ (Z.aD (Z.pv 0) (Z.aD (Z.pv 1) (Z.aD (Z.aI (rc:=nQ K) bT (by rfl) tx.fT eQ (Z.aD (Z.pv 2) Z.aB)) Z.aB)))))
   (Z.aC (Z.aM (i:=4) bK.nd rfl (Or.inl rfl) Z.kS)
   (Z.aC (Z.cE PassesOwn.never rfl (Z.cP (K':=K) (Z.aK (K':=K) (Z.pv 3) (Z.sS pU Z.aA) (fun _ _=>rfl))) (Z.aP (i:=5) bK.nd rfl (Or.inl rfl)) (Z.aG (Z.oH hu (Z.pv 4) (Z.pv 5) Z.aA)))
   (Z.aC (Z.aM (i:=6) bK.nd rfl (Or.inl rfl) (Z.xK (Z.pv 4)))
   (Z.aC (Z.cE PassesOwn.never rfl (Z.rZ (by rfl) tx.dF (Z.aD (Z.aN gG (Z.aI (rc:=nQ K) bT (by rfl) tx.fT eQ (Z.aD (Z.pv 2) Z.aB)) Z.aA) (Z.aD (Z.sS pU Z.aA) (Z.aD (Z.sS pU Z.aA) Z.aB)))) (Z.aP (i:=7) bK.nd rfl (Or.inl rfl)) (Z.aC (Z.aM (i:=8) bK.nd rfl (Or.inl rfl) Z.kS)
   (Z.aC (Z.cE PassesOwn.never rfl (Z.cP (K':=K) (Z.aK (K':=K) (Z.pv 3) (Z.pv 7) (fun _ _=>rfl))) (Z.aP (i:=5) bK.nd rfl (Or.inl rfl)) (Z.aC (Z.aM (i:=9) bK.nd rfl (Or.inl rfl) (Z.eO Z.aB))
   (Z.aC (Z.cE PassesOwn.never rfl (Z.yK (K':=K) (Z.oJ Z.aA Z.aA)) (Z.aP (i:=10) bK.nd rfl (Or.inl rfl)) (Z.aC (Z.aM (i:=11) bK.nd rfl (Or.inl rfl) (Z.aF (d8) (hr.mono (by decide)) (by rfl) tx.fS tx.dZ.kp tx.fR .nil aQ (Z.aD (Z.pv 0) (Z.aD (Z.pv 5) (Z.aD (Z.pv 10) Z.aB)))))
   (Z.aG (Z.cN (Z.bP rX (Z.pv 11) Z.mV (bN _)) (Z.aG (Z.fB (Z.iZ (K':=K) (Z.pv 9) (Z.aD (Z.aN bL (Z.aF (rP) (hr.mono (by decide)) (by rfl) tx.rD tx.mS.kp tx.rC .nil aQ (Z.aD (Z.pv 0) (Z.aD (Z.pv 5) (Z.aD (Z.aK (K':=K) (Z.pv 2) (Z.pv 7) (fun _ _=>rfl)) (Z.aD (Z.pv 10) Z.aB))))) (Z.nU hu (Z.aK (K':=K) (Z.pv 6) Z.aA (fun _ _=>rfl)) (Z.pv 11))) Z.aB)))) Z.bI))))
   (Z.aG (Z.oH hu (Z.pv 8) (Z.pv 5) (Z.aI (rc:=aBi K) (rY rfl) (by rfl) tx.pJ tJ (Z.aD (Z.pv 9) Z.aB)))))))
   (Z.aG (Z.aM (i:=6) bK.nd rfl (Or.inl rfl) (Z.aN bL (Z.xK (Z.pv 8)) (Z.pv 6)))))))
   (Z.aG (Z.aS (Z.pv 6)))))))) ?_
  refine aR (σ:=[some (.ref s),some (.ref t),some (.ref q),none,none,none,none,none,none,none,none,none]) rfl ?_
  walk_at "w"
  refine⟨s,m,t,st,ps.length,by rw[List.length_map],hs,hg,ht,hst,by omega,fun la Ls H1 s1 nla hL hR lL=>?_⟩
  obtain⟨as,ga,ra⟩:=hL.ex
  have las:=ra.len
  have lok:=aCs hg hst ps (Ls:=Ls) (by omega) hR
  have el:as[ps.length]?=some as[ps.length]:=List.getElem?_eq_getElem (by omega)
  have ll:Ls[ps.length]?=some Ls[ps.length]:=List.getElem?_eq_getElem (by omega)
  obtain⟨us,gu,pu⟩:=ra.at_ ps.length _ _ el ll
  generalize as[ps.length]=an at el gu
  generalize Ls[ps.length]=pn at ll pu
  have ndn:=lok.nd pn (List.mem_of_getElem? ll)
  have fwn:=lok.few pn (List.mem_of_getElem? ll)
  have lus:=pu.1
  have ai:pO (as.map V.ref) (-1)=some (.ref an):=by
   rw[uJ (by rw[List.length_map];omega),List.length_map,las,lL,Nat.add_sub_cancel]
   exact nJ el
  walk_at "w"
  refine κS.new (fun _=>0) fun bd H2 nbd s2 db=>?_
  have ga2:=s2 _ _ ga
  walk_at "w"
  refine kR (bQ.of (s2 _ _ gu)) ?_
  refine rV (xs:=us) (fun i σ' H'=>aJ H1 H'/\κS.da H' bd (pn.take i) (fun _=>0)/\∃z5,σ'=[some (.ref s),some (.ref t),some (.ref q),some (.ref la),some (.ref bd),z5,none,none,none,none,none,none]) ⟨s2,db,_,rfl⟩
   (fun i σ' H' hi ⟨s',_⟩=>bQ.of (s' _ _ gu)) (fun i v σ' H' hv ⟨s',dw',z5,e⟩=>?_) (fun σ' H3 ⟨s3,d3,z5,e⟩=>?_)
  ·subst e
   obtain⟨x,ex,px⟩:=pu.get hv
   walk_at "w"
   obtain⟨H4,p4,d4,k4⟩:=κS.put dw' (κS.iG px s') (xF ndn ex) (by rw[List.length_take];omega)
   refine⟨bd,H4,rfl,p4,?_⟩
   walk_at "w"
   refine⟨fun b o e=>k4 _ _ (s' _ _ e) (bA nbd e),?_,_,rfl⟩
   rw[gF ex]
   exact d4
  ·subst e
   rw[lus,List.take_length] at d3
   walk_at "w"
   intro lt nlt
   obtain⟨H4,i4,s4,g4⟩:=nw _ nlt;rw[i4]
   have s14:=s3.trans s4
   have hq4:=s14 _ _ (s1 _ _ hq)
   walk_at "w"
   refine⟨_,_,rfl,by rw[List.length_map];omega,?_⟩
   rw[show(((ps.map V.int).length:Int) - 1 - -1).toNat=ps.length by rw[List.length_map];omega]
   refine aEP (n:=ps.length) (fun i σ' H'=>aJ H1 H'/\∃(lt:Addr) (ds:List Addr) (z5 z7 z8 z9 z10 z11:Option V),σ'=[some (.ref s),some (.ref t),some (.ref q),some (.ref la),some (.ref bd),z5,some (.ref lt),z7,z8,z9,z10,z11]/\H1 lt=none/\H' lt=some (.lst (ds.map V.ref))/\ds.length=i+1/\∀(j:Nat) d rs,ds[j]?=some d->Ls[ps.length - i+j]?=some rs->κS.da H' d rs (wF (Wr m ps) (i - j) (ps.length - i+j)))
    ⟨s14,lt,[bd],_,_,_,_,_,_,rfl,s3.free nlt,g4,rfl,fun j d rs h1 h2=>?_⟩ (fun i σ' H' hi ⟨s',lt,ds,z5,z7,z8,z9,z10,z11,e,nlt,gd,ld,hd⟩=>?_) (fun σ' H' ⟨s',lt,ds,z5,z7,z8,z9,z10,z11,e,nlt,gd,ld,hd⟩=>?_)
   ·match j,h1 with
    |0,h1=>
     cases h1
     rw[Nat.sub_zero,Nat.add_zero,ll] at h2
     cases h2
     exact κS.eN d3 s4
    |j+1,h1=>simp at h1
   ·subst e
    obtain⟨h,hh⟩ : ∃h:Nat,h=ps.length - 1 - i:=⟨_,rfl⟩
    have h1':ps.length - i=h+1:=by omega
    have h2':ps.length - (i+1)=h:=by omega
    rw[show(((ps.map V.int).length:Int) - 1 - (i:Int))=((h:Nat):Int) by rw[List.length_map];omega]
    have epr:ps[h]?=some ps[h]:=List.getElem?_eq_getElem (by omega)
    obtain⟨pr0,pr1⟩:=ha _ (List.getElem_mem (show h < ps.length by omega))
    have egd:ps.getD h 0=ps[h]:=by rw[List.getD_eq_getElem?_getD,epr];rfl
    generalize ps[h]=pr at epr pr0 pr1 egd
    have ea:as[h]?=some as[h]:=List.getElem?_eq_getElem (by omega)
    have eL:Ls[h]?=some Ls[h]:=List.getElem?_eq_getElem (by omega)
    have eL2:Ls[h+1]?=some Ls[h+1]:=List.getElem?_eq_getElem (by omega)
    obtain⟨vs,gv,pv⟩:=ra.at_ h _ _ ea eL
    have hR1:=hR.at_ h _ eL
    have hR2:=hR.at_ (h+1) _ eL2
    generalize as[h]=ax at ea gv
    generalize Ls[h]=px at eL pv hR1
    generalize Ls[h+1]=qx at eL2 hR2
    have ed:ds[0]?=some ds[0]:=List.getElem?_eq_getElem (by omega)
    have d0:=hd 0 _ _ ed (by rw[h1',Nat.add_zero];exact eL2)
    generalize ds[0]=dx at ed d0
    rw[h1',Nat.add_zero,Nat.sub_zero] at d0
    have ix:pO (as.map V.ref) ((h:Nat):Int)=some (.ref ax):=cU (nJ ea)
    have ixp:pO (ps.map V.int) ((h:Nat):Int)=some (.int pr):=cU (by rw[List.getElem?_map,epr];rfl)
    have ixd:pO (ds.map V.ref) 0=some (.ref dx):=cU (j:=0) (nJ ed)
    have ga':=s' _ _ ga
    have ndx:=lok.nd px (List.mem_of_getElem? eL)
    have fwx:=lok.few px (List.mem_of_getElem? eL)
    have lvs:=pv.1
    walk_at "w"
    refine κS.new (wF (Wr m ps) (i+1) h) fun wd H5 nwd s5 dw=>?_
    have ga5:=s5 _ _ ga'
    walk_at "w"
    refine kR (bQ.of (s5 _ _ (s' _ _ gv))) ?_
    refine rV (xs:=vs) (fun j σ' H6=>aJ H' H6/\κS.da H6 wd (px.take j) (wF (Wr m ps) (i+1) h)/\∃(z5 z9 z10 z11:Option V),σ'=[some (.ref s),some (.ref t),some (.ref q),some (.ref la),some (.ref bd),z5,some (.ref lt),some (.int (h:Int)),some (.ref wd),z9,z10,z11])
     ⟨s5,dw,_,_,_,_,rfl⟩ (fun j σ' H6 hj ⟨s6,_⟩=>bQ.of (s6 _ _ (s' _ _ gv))) (fun j v σ' H6 hv ⟨s6,d6,z5,z9,z10,z11,e⟩=>?_) (fun σ' H6 ⟨s6,d6,z5,z9,z10,z11,e⟩=>?_)
    ·subst e
     obtain⟨x,ex,px'⟩:=pv.get hv
     obtain⟨T,rfl,gT⟩:=px'
     have gT6:H6 T=some (.tup [.int x.1,.int x.2]):=s6 _ _ (s' _ _ gT)
     have rcx:=(hR1.2 x).mp (List.mem_of_getElem? ex)
     obtain⟨⟨b1,b2,b3⟩,_⟩:=Rc.st hg hst rcx
     walk_at "w"
     intro lw nlw
     obtain⟨H7,i7,s7,g7⟩:=nw _ nlw;rw[i7]
     walk_at "w"
     intro To nTo
     obtain⟨H8,i8,s8,g8⟩:=nw _ nTo;rw[i8]
     have g78:=s8 _ _ g7
     have Tol:To≠lw:=fun z=>by rw[z,g78] at g8;cases g8
     have s68:=s7.trans s8
     walk_at "w"
     refine aEH (lJ.of g8) ?_
     refine aDW (xs:=([0,1]:List Int).map V.int) (fun j σ' H9=>∃(z10 z11:Option V),σ'=[some (.ref s),some (.ref t),some (.ref q),some (.ref la),some (.ref bd),some (.ref T),some (.ref lt),some (.int (h:Int)),some (.ref wd),some (.ref lw),z10,z11]/\H9 lw=some (.lst ((wvs m pr (wF (Wr m ps) i (h+1)) x (([0,1]:List Int).take j)).map V.int))/\bZ lw H8 H9)
      ⟨_,_,rfl,g78,fun _ _ e _=>e⟩ (fun j σ' H9 hj ⟨_,_,_,_,k9⟩=>lJ.of (k9 _ _ g8 Tol)) (fun j v σ' H9 hv ⟨z10,z11,e,g9,k9⟩=>?_) (fun σ' H9 ⟨z10,z11,e,g9,k9⟩=>?_)
     ·subst e
      obtain⟨on,eon,rfl⟩:=vK hv
      have bon:Bit on:=by
       have:=List.mem_of_getElem? eon
       simp at this
       exact this
      have jl:j < 2:=by have:=(List.getElem?_eq_some_iff.mp eon).1;simpa using this
      have S9:aJ H6 H9:=fun b o e=>k9 _ _ (s68 _ _ e) (bA nlw e)
      have S19:=s'.trans (s6.trans S9)
      have tk:([0,1]:List Int).take (j+1)=([0,1]:List Int).take j ++ [on]:=by rw[List.take_add_one,eon];rfl
      have wl:(wvs m pr (wF (Wr m ps) i (h+1)) x (([0,1]:List Int).take j)).length<=2:=by
       unfold wvs
       rw[List.length_map]
       refine Nat.le_trans (List.length_filter_le ..) ?_
       rw[List.length_take]
       exact Nat.le_trans (Nat.min_le_right ..) (by decide)
      have hq9:=S19 _ _ (s1 _ _ hq)
      have gd9:=S9 _ _ (s6 _ _ gd)
      walk_at "w"
      refine⟨s,m,T,_,_,on,rfl,hs.same (s1.trans S19),S9 _ _ gT6,bon,b1,b2,fun v0 H10 s10 o0=>?_⟩
      cases hm:rO x on with
      |true=>
       rw[aAn hm] at o0
       obtain⟨T0,rfl,gT0⟩:=o0
       have hin:lK m x.1 x.2 on∈qx:=(hR2.2 _).mpr ⟨x,rcx,on,bon,iH.mp hm,rfl⟩
       have g910:=s10 _ _ g9
       have gd10:=s10 _ _ gd9
       repeat walk_at "gs"
       refine jP (bQ.of g910) ?_
       walk_at "w"
       refine⟨s,m,T,x,pr,on,rfl,hs.same (s1.trans (S19.trans s10)),hg,(S9.trans s10) _ _ gT6,b1,pr0,by omega,bon,fun H11 s11=>?_⟩
       have gd11:=s11 _ _ gd10
       walk_at "w"
       refine⟨dx,_,rfl,κS.get (v:=.ref T0) (κS.eN d0 (s6.trans (S9.trans (s10.trans s11)))) ⟨T0,rfl,s11 _ _ gT0⟩ hin,?_⟩
       walk_at "w"
       refine mZ (s11 _ _ g910) (Nat.lt_of_lt_of_le (by rw[List.length_map];omega:(List.map V.int (wvs m pr (wF (Wr m ps) i (h+1)) x (([0,1]:List Int).take j))).length < 20000) (cC (by decide))) ?_
       obtain⟨H12,i12,k12,g12⟩:=wr H11 lw _;rw[i12]
       walk_at "w"
       refine⟨_,_,rfl,?_,k9.trans ((s10.trans s11).keep.trans k12)⟩
       rw[g12,tk]
       unfold wvs
       rw[List.filter_append,List.map_append,List.map_append,List.filter_cons_of_pos (by rw[hm])]
       rfl
      |false=>
       rw[aDt hm] at o0
       have o0':v0=.non:=o0
       subst o0'
       repeat walk_at "gs"
       refine⟨_,_,rfl,?_,k9.trans s10.keep⟩
       rw[s10 _ _ g9,tk]
       unfold wvs
       rw[List.filter_append,List.filter_cons_of_neg (by rw[hm];simp),List.filter_nil,List.append_nil]
     ·subst e
      have g9':H9 lw=some (.lst (((vP m pr x).map fun w=>w.2.2+wF (Wr m ps) i (h+1) w.2.1).map V.int)):=by rw[<-aIV];exact g9
      have S9:aJ H6 H9:=fun b o e=>k9 _ _ (s68 _ _ e) (bA nlw e)
      walk_at "w"
      refine yM (bQ.of g9') (by simpa using aCq b1) fun mm hmm hle=>?_
      have emm:mm=wF (Wr m ps) (i+1) h x:=by
       show mm=cT (wF (Wr m ps) i (h+1)) (Wr m ps h x)
       unfold Wr
       rw[egd]
       exact xG hmm hle
      subst emm
      obtain⟨H10,p10,d10,k10⟩:=κS.put (v:=.ref T) (κS.eN d6 S9) ⟨T,rfl,S9 _ _ gT6⟩ (xF ndx ex) (by rw[List.length_take];omega)
      walk_at "w"
      refine⟨wd,H10,rfl,p10,?_⟩
      walk_at "w"
      refine⟨fun b o e=>k10 _ _ (S9 _ _ (s6 _ _ e)) (bA nwd e),?_,_,_,_,_,rfl⟩
      rw[gF ex]
      exact d10
    ·subst e
     rw[lvs,List.take_length] at d6
     walk_at "w"
     intro l7 nl7
     obtain⟨H7,i7,s7,g7⟩:=nw _ nl7;rw[i7]
     walk_at "w"
     refine rS g7 (s7 _ _ (s6 _ _ gd)) (cC (by simp;omega)) ?_
     intro l8 nl8
     obtain⟨H8,i8,s8,g8⟩:=nw _ nl8;rw[i8]
     have s68:=s7.trans s8
     walk_at "w"
     refine⟨s'.trans (s6.trans s68),l8,wd::ds,_,_,_,_,_,_,rfl,(s'.trans (s6.trans s7)).free nl8,g8,by rw[List.length_cons,ld],fun j d rs h1 h2=>?_⟩
     rw[h2'] at h2 ⊢
     cases j with
     |zero=>
      cases h1
      rw[Nat.add_zero,eL] at h2
      cases h2
      exact κS.eN d6 s68
     |succ j=>
      have z:=hd j d rs h1 (by rw[h1',show h+1+j=h+(j+1) by omega];exact h2)
      rw[h1',show h+1+j=h+(j+1) by omega] at z
      rw[show i+1 - (j+1)=i - j by omega]
      exact κS.eN z (s6.trans s68)
   ·subst e
    walk_at "w"
    refine k lt Ls H' (s1.trans s') (s1.free nlt) hR lL ⟨ds,gd,by omega,fun j d rs h1 h2=>?_⟩
    have z:=hd j d rs h1 (by rw[Nat.sub_self,Nat.zero_add];exact h2)
    rw[Nat.sub_self,Nat.zero_add] at z
    exact z
theorem bF.aDs{H H':Hp}{p s:Addr}{m:MS}(h:bF H p)(hs:cJ H s m)(k:bZ s H H'):bF H' p:=by
 obtain⟨d,c,q,ms,hp,hq,hne,hqp⟩:=h.ex
 obtain⟨pl,g1,_⟩:=hs.ex
 refine⟨⟨d,c,q,ms,k _ _ hp (fun z=>by rw[z,g1] at hp;cases hp),k _ _ hq (fun z=>?_),hne,hqp⟩⟩
 rw[z,g1] at hq
 have e:=Option.some.inj hq
 injection e with e
 have:V.ref pl∈ms.map V.int:=by rw[<-e];simp
 obtain⟨_,_,z2⟩:=List.mem_map.mp this
 cases z2
def aCx(K:W.Frag):Sp:=fun vs H Q _=>∃(p b:Addr) (x y:Int),vs=[.ref p,.ref b]/\bF H p/\H b=some (.lst [.int x,.int y])/\1<=x/\x<=50000000000/\1<=y/\y<=50000000000/\
 ∀(r s:Addr) (m:MS) (pr:Int) H',H' r=some (.lst [.ref s,.int pr])->cJ H' s m->m.Good->Am pr->bF H' p->bZ p H H'->H s=none->Q (.ref r) H'
theorem aCy{P:Program}{w:World}{K:PySem.W.Frag}{mg:Str->Option Value}{base:Heap}{a:nA}(tx:Txt K mg a):bR P w K mg base iV 3 a.mK a.mM ["_law_hand","_law_by"] (aCx K):=by
 have aO:=d7 (P:=P) (w:=w) (base:=base) tx
 have mU:=vI (P:=P) (w:=w) (base:=base) tx
 have aCz:=aAS (P:=P) (w:=w) (base:=base) tx
 have aDu:=aCe (P:=P) (w:=w) (base:=base) tx
 refine tx.rG.ok oO (fun vs H Q E h=>?_) (fun cdv A outer s H vs Q E hr h=>?_)
 ·obtain⟨p,b,x,y,rfl,_⟩:=h
  rfl
 ·obtain⟨p,b,x,y,rfl ,hh,hb,x0,x1,y0,y1,k⟩:=h
  have hu:=nM hr
  refine Z.root (Z.aC (Z.aM (i:=2) oO.nd rfl (Or.inl rfl) (Z.aF (aDu) (hr.mono (by decide)) (by rfl) tx.wV tx.qI.kp tx.wU .nil aQ (Z.aD (Z.pv 0) (Z.aD (Z.pv 1) (Z.aD (Z.aK (K':=K) (Z.aCX Z.aA Z.aA) (Z.aN aBG (Z.aF (aO) (hr.mono (by decide)) (by rfl) tx.aZ tx.aU.kp tx.aY .nil aQ (Z.aD (Z.pv 0) (Z.aD Z.aA Z.aB))) Z.aA) (fun _ _=>rfl)) Z.aB)))))
   (Z.aC (Z.aM (i:=3) oO.nd rfl (Or.inl rfl) (Z.aF (aCz) (hr.mono (by decide)) (by rfl) tx.vB tx.pC.kp tx.vA .nil aQ (Z.aD (Z.pv 0) (Z.aD (Z.pv 1) (Z.aD (Z.aN vZ Z.aA Z.aA) Z.aB)))))
   (Z.aC (Z.cN (Z.bP aA2 (Z.aN bL (Z.aF (mU) (hr.mono (by decide)) (by rfl) tx.mQ tx.jN.kp tx.mP .nil aQ (Z.aD (Z.pv 2) (Z.aD (Z.pv 3) Z.aB))) (Z.aK (K':=K) (Z.pv 2) Z.aA (fun _ _=>rfl))) (Z.aN vZ Z.aA Z.aA) (bN _)) (Z.aG (Z.vX (Z.aN bL (Z.aF (mU) (hr.mono (by decide)) (by rfl) tx.mQ tx.jN.kp tx.mP .nil aQ (Z.aD (Z.pv 2) (Z.aD (Z.pv 3) Z.aB))) (Z.aK (K':=K) (Z.pv 2) Z.aA (fun _ _=>rfl))) (Z.yU (Z.pv 2) Z.aA set_list))) Z.bI)
   (Z.aC (Z.vX (Z.aN bS (Z.aF (aO) (hr.mono (by decide)) (by rfl) tx.aZ tx.aU.kp tx.aY .nil aQ (Z.aD (Z.pv 0) (Z.aD Z.aA Z.aB))) (Z.aF (aO) (hr.mono (by decide)) (by rfl) tx.aZ tx.aU.kp tx.aY .nil aQ (Z.aD (Z.pv 0) (Z.aD Z.aA Z.aB)))) (Z.yU (Z.pv 2) Z.aA set_list))
   (Z.aG (Z.aS (Z.aCX (Z.pv 2) (Z.pv 3)))))))) ?_
  have bp:b≠p:=hh.aKM hb (by simp)
  have e12:(10:Int) ^ (12:Int).toNat=1000000000000:=by decide
  refine aR (σ:=[some (.ref p),some (.ref b),none,none]) rfl ?_
  walk_at "w"
  intro l1 nl1
  obtain⟨H1,i1,s1,g1⟩:=nw _ nl1;rw[i1]
  have l1p:l1≠p:=hh.aKN nl1
  walk_at "w"
  refine⟨p,_,rfl,hh.same s1,by decide,by decide,fun r2 H2 a2 b2 h2 k2 _=>?_⟩
  have g2:=k2 _ _ g1 l1p
  obtain⟨L,hL,L0,L1⟩ : ∃n:Int,pO [V.int 3,.int 12] (r2 / 3)=some (.int n)/\1<=n/\n<=12:=by
   have:r2 / 3=0\/r2 / 3=1:=by omega
   rcases this with e|e <;> rw[e]
   ·exact⟨3,rfl,by decide,by decide⟩
   ·exact⟨12,rfl,by decide,by decide⟩
  have K2:bZ p H H2:=s1.keep.trans k2
  walk_at "w"
  refine⟨p,b,x,y,L,rfl,h2,K2 _ _ hb bp,x0,x1,y0,y1,L0,L1,fun s m H3 hs hg _ _ h3 k3 ns3=>?_⟩
  have K3:=K2.trans k3
  have nsH:H s=none:=by
   cases e:H s with
   |none=>rfl
   |some o=>
    have spp:s≠p:=fun z=>by
     obtain⟨d,c,q,ms,hp,_⟩:=h2.ex
     rw[z,hp] at ns3
     cases ns3
    rw[K2 _ _ e spp] at ns3
    cases ns3
  walk_at "w"
  rw[e12]
  walk_at "w"
  refine⟨p,b,x,y,1000000000000,rfl,h3,K3 _ _ hb bp,y0,y1,⟨by decide,by decide⟩,fun pr H4 hpr h4 k4 _=>?_⟩
  have hs4:=hs.keep h3 k4
  have K4:=K3.trans k4
  obtain⟨pr0,pr1⟩:=hpr
  repeat walk_at "st"
  refine aEG (fun σ2 H5=>∃m':MS,σ2=[some (.ref p),some (.ref b),some (.ref s),some (.int pr)]/\cJ H5 s m'/\m'.Good/\bF H5 p/\bZ p H H5) (fun N hN=>?_) ?_
  ·walk_at "w"
   refine⟨s,m,pr,rfl,hs4,hg,pr0,by omega,fun H5 s5=>?_⟩
   obtain⟨pl,hx,hpc⟩:=(hs4.same s5).ex
   walk_at "w"
   rw[e12]
   refine cV (fun hle=>?_) (fun _=>?_)
   ·walk_at "w"
    refine⟨s,m,pr,rfl,hs4.same s5,hg,pr0,by omega,fun H6 s6=>?_⟩
    have hx6:=s6 _ _ hx
    have hs6:=(hs4.same s5).same s6
    have h6:=(h4.same s5).same s6
    have gp:0<=pr*m.least+gn pr m.pieces:=by
     have a:=Int.mul_nonneg pr0 hg.least.1
     have b:0<=gn pr m.pieces:=aJe hg.pieces.up'
     omega
    have hr:=hg.rest.1
    walk_at "w"
    refine yH (j:=3) hx6 rfl ?_
    obtain⟨H7,i7,k7,g7⟩:=wr H6 s _;rw[i7]
    exact hN _ _ ⟨{ m with run:=pr*m.least+gn pr m.pieces+m.rest },rfl,⟨pl,g7,(hpc.same s6).aDs hs6 k7⟩,⟨hg.up,hg.down,hg.begin_,⟨show 0<=pr*m.least+gn pr m.pieces+m.rest by omega,show pr*m.least+gn pr m.pieces+m.rest<=1000000000000 by omega⟩,hg.rest,hg.least,hg.pieces⟩,h6.aDs hs6 k7,fun b o e n=>k7 _ _ ((s5.trans s6) _ _ (K4 _ _ e n)) (bA nsH e)⟩
   ·walk_at "w"
    exact hN _ _ ⟨m,rfl,hs4.same s5,hg,h4.same s5,K4.trans s5.keep⟩
  rintro _ H5 ⟨m',rfl,hs5,hg5,h5,K5⟩
  walk_at "w"
  refine⟨p,_,rfl,h5,by decide,by decide,fun r6 H6 a6 b6 h6 k6 _=>?_⟩
  walk_at "w"
  refine⟨p,_,rfl,h6,by decide,by decide,fun r7 H7 a7 b7 h7 k7 _=>?_⟩
  have hs7:=(hs5.keep h5 k6).keep h6 k7
  obtain⟨pl,hx,hpc⟩:=hs7.ex
  have K7:=K5.trans (k6.trans k7)
  have am:Am (r6*r7):=by
   have:r7=0\/r7=1:=by omega
   rcases this with e|e <;> rw[e]
   ·exact⟨by omega,by omega⟩
   ·exact⟨by omega,by omega⟩
  walk_at "w"
  refine yH (j:=2) hx rfl ?_
  obtain⟨H8,i8,k8,g8⟩:=wr H7 s _;rw[i8]
  have hs8:cJ H8 s { m' with begin_:=r6*r7 }:=⟨pl,g8,hpc.aDs hs7 k8⟩
  have h8:=h7.aDs hs7 k8
  walk_at "w"
  intro r nr
  obtain⟨H9,i9,s9,g9⟩:=nw _ nr;rw[i9]
  walk_at "w"
  exact k r s _ pr H9 g9 (hs8.same s9) ⟨hg5.up,hg5.down,am,hg5.run,hg5.rest,hg5.least,hg5.pieces⟩ ⟨pr0,pr1⟩ (h8.same s9) (fun b o e n=>s9 _ _ (k8 _ _ (K7 _ _ e n) (bA nsH e))) nsH
def aKU(H:Hp)(b:Addr)(w:Int×Int):Prop:=H b=some (.tup [.int w.1,.int w.2])
def wns(m:MS)(p:Int)(f:Int×Int->Int)(s:Int×Int)(ons:List Int):List (Int×Int):=(ons.filter (rO s)).map fun on=>(hw m p s on+f (lK m s.1 s.2 on),on)
theorem aIW(m:MS)(p:Int)(f:Int×Int->Int)(s:Int×Int):wns m p f s [0,1]=(vP m p s).map fun w=>(w.2.2+f w.2.1,w.1):=by
 unfold wns vP
 rw[List.map_map]
 rfl
theorem aDv(m:MS)(p:Int)(f:Int×Int->Int)(s:Int×Int)(ons:List Int)(on:Int):wns m p f s (ons ++ [on])=wns m p f s ons++if rO s on=true then [(hw m p s on+f (lK m s.1 s.2 on),on)] else []:=by
 unfold wns
 rw[List.filter_append,List.map_append]
 congr 1
 cases h:rO s on
 ·rw[List.filter_cons_of_neg (by rw[h];simp)];rfl
 ·rw[List.filter_cons_of_pos (by rw[h])];rfl
def aAU(K:W.Frag):Sp:=fun vs H Q _=>∃(s:Addr) (m:MS) (t:Addr) (a:Int×Int) (q:Addr) (ps:List Int) (lt:Addr) (Ls:List (List (Int×Int))),vs=[.ref s,.ref t,.ref q,.ref lt]/\cJ H s m/\m.Good/\H t=some (.tup [.int a.1,.int a.2])/\St1 m a/\H q=some (.lst (ps.map V.int))/\(∀n∈ps,Am n)/\ps.length<=48/\
 aAN m a Ls/\Ls.length=ps.length+1/\aDq κS H lt Ls (fun i=>wF (Wr m ps) (ps.length - i) i)/\∀r H',aJ H H'->H r=none->H' r=some (.lst ((rrF m ps a).map V.int))->Q (.ref r) H'
theorem aAV{P:Program}{w:World}{K:PySem.W.Frag}{mg:Str->Option Value}{base:Heap}{a:nA}(tx:Txt K mg a):bR P w K mg base iV 3 a.kK a.kL ["_law_spec_here","_law_state_here","_law_prices","_law_tables"] (aAU K):=by
 have d8:=nK (P:=P) (w:=w) (base:=base) tx
 have rP:=vV (P:=P) (w:=w) (base:=base) tx
 refine tx.pD.ok bY (fun vs H Q E h=>?_) (fun cdv A outer s H vs Q E hr h=>?_)
 ·obtain⟨s,m,t,st,q,ps,lt,Ls,rfl,_⟩:=h
  rfl
 ·obtain⟨s,m,t,st,q,ps,lt,Ls,rfl ,hs,hg,ht,hst,hq,ha,hl,hR,lL,hD,k⟩:=h
  have hu:=nM hr
  refine Z.root (Z.aC (Z.aM (i:=4) bY.nd rfl (Or.inl rfl) (Z.eO Z.aB))
   (Z.aC (Z.cE PassesOwn.never rfl (Z.cO (by rfl) tx.dF (Z.aD (Z.aI (rc:=nQ K) bT (by rfl) tx.fT eQ (Z.aD (Z.pv 2) Z.aB)) Z.aB)) (Z.aP (i:=5) bY.nd rfl (Or.inl rfl)) (Z.aC (Z.aM (i:=6) bY.nd rfl (Or.inl rfl) (Z.eO Z.aB))
   (Z.aC (Z.cE PassesOwn.never rfl (Z.yK (K':=K) (Z.oJ Z.aA Z.aA)) (Z.aP (i:=7) bY.nd rfl (Or.inl rfl)) (Z.aC (Z.aM (i:=8) bY.nd rfl (Or.inl rfl) (Z.aF (d8) (hr.mono (by decide)) (by rfl) tx.fS tx.dZ.kp tx.fR .nil aQ (Z.aD (Z.pv 0) (Z.aD (Z.pv 1) (Z.aD (Z.pv 7) Z.aB)))))
   (Z.aG (Z.cN (Z.bP rX (Z.pv 8) Z.mV (bN _)) (Z.aG (Z.fB (Z.iZ (K':=K) (Z.pv 6) (Z.aD (Z.oJ (Z.aN bL (Z.aF (rP) (hr.mono (by decide)) (by rfl) tx.rD tx.mS.kp tx.rC .nil aQ (Z.aD (Z.pv 0) (Z.aD (Z.pv 1) (Z.aD (Z.aK (K':=K) (Z.pv 2) (Z.pv 5) (fun _ _=>rfl)) (Z.aD (Z.pv 7) Z.aB))))) (Z.nU hu (Z.aK (K':=K) (Z.pv 3) (Z.aN bL (Z.pv 5) Z.aA) (fun _ _=>rfl)) (Z.pv 8))) (Z.pv 7)) Z.aB)))) Z.bI))))
   (Z.aC (Z.aM (i:=9) bY.nd rfl (Or.inr rfl) (Z.aI (rc:=aBi K) (rY rfl) (by rfl) tx.pJ tJ (Z.aD (Z.fE (k:=2) (idx:=[]) (N:=["_law_worth","_law_on"]) (fW (sc:=aE dC) (NX:=["_law_spec_here","_law_state_here","_law_prices","_law_tables","_law_run","_law_hour_here","_law_ways","_law_on","_law_behind","_law_least"]) rfl rfl rfl (by decide +kernel)) rfl (Z.cP (K':=K) (Z.pv 6)) (fun _ _ _ _=>(Z.iY (K':=K) (n:=2) rfl (Z.bH (Z.aP (i:=0) (show(["_law_worth","_law_on"]:List Str).Nodup by decide +kernel) rfl (Or.inl rfl)) (Z.bH (Z.aP (i:=1) (show(["_law_worth","_law_on"]:List Str).Nodup by decide +kernel) rfl (Or.inl rfl)) Z.fD)))) (uN (cW (by decide) (cW (by decide) qB))) (fun _ _ _ _=>Z.iW) (fun _ _ _ _=>(Z.pv 0))) Z.aB)))
   (Z.aC (Z.aM (i:=7) bY.nd rfl (Or.inl rfl) (Z.aI (rc:=aBi K) (rY rfl) (by rfl) tx.pJ tJ (Z.aD (Z.fE (k:=2) (idx:=[9]) (N:=["_law_worth","_law_on","_law_least"]) (fW (sc:=aE dC) (NX:=["_law_spec_here","_law_state_here","_law_prices","_law_tables","_law_run","_law_hour_here","_law_ways","_law_on","_law_behind","_law_least"]) rfl rfl rfl (by decide +kernel)) rfl (Z.cP (K':=K) (Z.pv 6)) (fun _ _ _ _=>(Z.iY (K':=K) (n:=2) rfl (Z.bH (Z.aP (i:=0) (show(["_law_worth","_law_on","_law_least"]:List Str).Nodup by decide +kernel) rfl (Or.inl rfl)) (Z.bH (Z.aP (i:=1) (show(["_law_worth","_law_on","_law_least"]:List Str).Nodup by decide +kernel) rfl (Or.inl rfl)) Z.fD)))) (uN (cW (by decide) (cW (by decide) qB))) (fun _ _ _ _=>(Z.rQ (Z.bP (r:=nP K) (eR hu) (Z.pv 0) (Z.pv 2) (bN _)))) (fun _ _ _ _=>(Z.pv 1))) Z.aB)))
   (Z.aC (Z.fB (Z.iZ (K':=K) (Z.pv 4) (Z.aD (Z.pv 7) Z.aB)))
   (Z.aG (Z.aM (i:=1) bY.nd rfl (Or.inl rfl) (Z.aF (d8) (hr.mono (by decide)) (by rfl) tx.fS tx.dZ.kp tx.fR .nil aQ (Z.aD (Z.pv 0) (Z.aD (Z.pv 1) (Z.aD (Z.pv 7) Z.aB))))))))))))
   (Z.aG (Z.aS (Z.pv 4))))) ?_
  obtain⟨ds,gds,lds,hds⟩:=hD.ex
  refine aR (σ:=[some (.ref s),some (.ref t),some (.ref q),some (.ref lt),none,none,none,none,none,none]) rfl ?_
  walk_at "w"
  intro lr nlr
  obtain⟨H1,i1,s1,g1⟩:=nw _ nlr;rw[i1]
  have hq1:=s1 _ _ hq
  walk_at "w"
  refine⟨by rw[List.length_map];omega,by rw[List.length_map];omega,?_⟩
  rw[List.length_map,Int.toNat_natCast]
  refine jM (n:=ps.length) (fun i σ' H'=>aJ H H'/\∃(t':Addr) (x:Int×Int) (row:List Int) (z5 z6 z7 z8 z9:Option V),σ'=[some (.ref s),some (.ref t'),some (.ref q),some (.ref lt),some (.ref lr),z5,z6,z7,z8,z9]/\H' t'=some (.tup [.int x.1,.int x.2])/\Rc m st i x/\H' lr=some (.lst (row.map V.int))/\row.length=i/\row++t9 (Wr m ps) (ps.length - i) i x=rrF m ps st)
   ⟨s1,t,st,[],_,_,_,_,_,rfl,s1 _ _ ht,rfl,g1,rfl,rfl⟩ (fun i σ' H' hi ⟨s',t',x,row,z5,z6,z7,z8,z9,e,ht',hx,gr,lr',hrow⟩=>?_) (fun σ' H' ⟨s',t',x,row,z5,z6,z7,z8,z9,e,ht',hx,gr,lr',hrow⟩=>?_)
  ·subst e
   obtain⟨⟨b1,b2,b3⟩,_⟩:=Rc.st hg hst hx
   obtain⟨n,hn⟩ : ∃n,ps.length - i=n+1:=⟨ps.length - i - 1,by omega⟩
   have hn2:ps.length - (i+1)=n:=by omega
   have epr:ps[i]?=some ps[i]:=List.getElem?_eq_getElem hi
   obtain⟨pr0,pr1⟩:=ha _ (List.getElem_mem hi)
   have egd:ps.getD i 0=ps[i]:=by rw[List.getD_eq_getElem?_getD,epr];rfl
   generalize ps[i]=pr at epr pr0 pr1 egd
   have eL2:Ls[i+1]?=some Ls[i+1]:=List.getElem?_eq_getElem (by omega)
   have hR2:=hR.at_ (i+1) _ eL2
   have ed:ds[i+1]?=some ds[i+1]:=List.getElem?_eq_getElem (by omega)
   have d0:=hds (i+1) _ _ ed eL2
   generalize Ls[i+1]=qx at eL2 hR2 d0
   generalize ds[i+1]=dx at ed d0
   rw[hn2] at d0
   have ixd:pO (ds.map V.ref) (0+(i:Int)+1)=some (.ref dx):=by
    rw[show(0+(i:Int))+1=((i+1:Nat):Int) by push_cast;omega]
    exact cU (nJ ed)
   have ixp:pO (ps.map V.int) (0+(i:Int))=some (.int pr):=by rw[show(0+(i:Int))=(i:Int) by omega];exact cU (by rw[List.getElem?_map,epr];rfl)
   have hW:Wr m ps i x=vP m pr x:=by unfold Wr;rw[egd]
   walk_at "w"
   intro lw nlw
   obtain⟨H7,i7,s7,g7⟩:=nw _ nlw;rw[i7]
   walk_at "w"
   intro To nTo
   obtain⟨H8,i8,s8,g8⟩:=nw _ nTo;rw[i8]
   have g78:=s8 _ _ g7
   have Tol:To≠lw:=fun z=>by rw[z,g78] at g8;cases g8
   have s68:=s7.trans s8
   walk_at "w"
   refine aEH (lJ.of g8) ?_
   refine aDW (xs:=([0,1]:List Int).map V.int) (fun j σ' H9=>∃(bs:List Addr) (z7 z8 z9:Option V),σ'=[some (.ref s),some (.ref t'),some (.ref q),some (.ref lt),some (.ref lr),some (.int (0+(i:Int))),some (.ref lw),z7,z8,z9]/\H9 lw=some (.lst (bs.map V.ref))/\RL (aKU H9) bs (wns m pr (wF (Wr m ps) n (i+1)) x (([0,1]:List Int).take j))/\bZ lw H8 H9)
    ⟨[],_,_,_,rfl,g78,RL.nil,fun _ _ e _=>e⟩ (fun j σ' H9 hj ⟨_,_,_,_,_,_,_,k9⟩=>lJ.of (k9 _ _ g8 Tol)) (fun j v σ' H9 hv ⟨bs,z7,z8,z9,e,g9,r9,k9⟩=>?_) (fun σ' H9 ⟨bs,z7,z8,z9,e,g9,r9,k9⟩=>?_)
   ·subst e
    obtain⟨on,eon,rfl⟩:=vK hv
    have bon:Bit on:=by
     have:=List.mem_of_getElem? eon
     simp at this
     exact this
    have S9:aJ H' H9:=fun b o e=>k9 _ _ (s68 _ _ e) (bA nlw e)
    have S09:=s'.trans S9
    have tk:([0,1]:List Int).take (j+1)=([0,1]:List Int).take j ++ [on]:=by rw[List.take_add_one,eon];rfl
    have wl:bs.length<=2:=by
     rw[r9.len]
     unfold wns
     rw[List.length_map]
     refine Nat.le_trans (List.length_filter_le ..) ?_
     rw[List.length_take]
     exact Nat.le_trans (Nat.min_le_right ..) (by decide)
    have hq9:=S09 _ _ hq
    have gd9:=S09 _ _ gds
    walk_at "w"
    refine⟨s,m,t',_,_,on,rfl,hs.same S09,S9 _ _ ht',bon,b1,b2,fun v0 H10 s10 o0=>?_⟩
    cases hm:rO x on with
    |true=>
     rw[aAn hm] at o0
     obtain⟨T0,rfl,gT0⟩:=o0
     have hin:lK m x.1 x.2 on∈qx:=(hR2.2 _).mpr ⟨x,hx,on,bon,iH.mp hm,rfl⟩
     have g910:=s10 _ _ g9
     have gd10:=s10 _ _ gd9
     repeat walk_at "gs"
     refine jP (bQ.of g910) ?_
     walk_at "w"
     refine⟨s,m,t',x,pr,on,rfl,hs.same (S09.trans s10),hg,(S9.trans s10) _ _ ht',b1,pr0,by omega,bon,fun H11 s11=>?_⟩
     have gd11:=s11 _ _ gd10
     walk_at "w"
     refine⟨dx,_,rfl,κS.get (v:=.ref T0) (κS.eN d0 (S09.trans (s10.trans s11))) ⟨T0,rfl,s11 _ _ gT0⟩ hin,?_⟩
     walk_at "w"
     intro T1 nT1
     obtain⟨H12,i12,s12,g12⟩:=nw _ nT1;rw[i12]
     have g9b:=(s11.trans s12) _ _ g910
     walk_at "w"
     refine mZ (xs:=bs.map V.ref) g9b (Nat.lt_of_lt_of_le (by rw[List.length_map];omega:(bs.map V.ref).length < 20000) (cC (by decide))) ?_
     obtain⟨H13,i13,k13,g13⟩:=wr H12 lw _;rw[i13]
     have T1l:T1≠lw:=fun z=>by rw[z,g9b] at g12;cases g12
     walk_at "w"
     refine⟨bs ++ [T1],_,_,_,rfl,by rw[g13,List.map_append];rfl,?_,k9.trans ((s10.trans (s11.trans s12)).keep.trans k13)⟩
     rw[tk,aDv,hm,if_pos rfl]
     exact RL.snoc (r9.imp fun b w z=>k13 _ _ ((s10.trans (s11.trans s12)) _ _ z) (fun y=>by have z':H9 b=some (.tup [.int w.1,.int w.2]):=z;rw[y,g9] at z';cases z')) (k13 _ _ g12 T1l)
    |false=>
     rw[aDt hm] at o0
     have o0':v0=.non:=o0
     subst o0'
     repeat walk_at "gs"
     refine⟨bs,_,_,_,rfl,s10 _ _ g9,?_,k9.trans s10.keep⟩
     rw[tk,aDv,hm,if_neg (by decide),List.append_nil]
     exact r9.imp fun b w z=>s10 _ _ z
   ·subst e
    have r9':RL (aKU H9) bs ((vP m pr x).map fun w=>(w.2.2+wF (Wr m ps) n (i+1) w.2.1,w.1)):=by rw[<-aIW];exact r9
    have lb:bs.length<=2:=by rw[r9'.len,List.length_map];exact aCr ..
    have S9:aJ H' H9:=fun b o e=>k9 _ _ (s68 _ _ e) (bA nlw e)
    have lbr:=r9'.len
    rw[List.length_map] at lbr
    walk_at "w"
    refine kR (bQ.of g9) ?_
    refine gK (xs:=bs.map V.ref) (fun j us H10=>H10=H9/\us=(((vP m pr x).take j).map fun w=>w.2.2+wF (Wr m ps) n (i+1) w.2.1).map V.int) ⟨rfl,rfl⟩ (cC (by rw[List.length_map];omega))
     (fun j us H10 hj ⟨e0,e1⟩=>⟨by rw[e0];exact bQ.of g9,by rw[e1,List.length_map,List.length_map,List.length_take];omega⟩) (fun j v us H10 hv ⟨e0,e1⟩=>?_) (fun us H10 ⟨e0,e1⟩=>?_)
    ·subst e0
     obtain⟨b,w,eb,rfl,ew,gb⟩:=r9'.get hv
     rw[List.getElem?_map] at ew
     obtain⟨w',ew',rfl⟩:=Option.map_eq_some_iff.mp ew
     refine iX (lJ.of gb) rfl ?_
     walk_at "w"
     refine⟨rfl,?_⟩
     rw[e1,gF ew',List.map_append,List.map_append]
     rfl
    subst e0 e1
    rw[List.length_map,lbr,List.take_length]
    intro l1 nl1
    obtain⟨H11,i11,s11,g11⟩:=nw _ nl1;rw[i11]
    have ne:=aCq (m:=m) (p:=pr) b1
    walk_at "w"
    refine yM (bQ.of g11) (by simpa using ne) fun mm hmm hle=>?_
    have emm:mm=cT (wF (Wr m ps) n (i+1)) (vP m pr x):=xG hmm hle
    subst emm
    have g9b:=s11 _ _ g9
    have r11:=r9'.imp fun b w (z:aKU H10 b w)=>s11 _ _ z
    walk_at "w"
    refine kR (bQ.of g9b) ?_
    refine gK (xs:=bs.map V.ref) (fun j us H12=>H12=H11/\us=((((vP m pr x).take j).filter fun w=>decide (w.2.2+wF (Wr m ps) n (i+1) w.2.1=cT (wF (Wr m ps) n (i+1)) (vP m pr x))).map fun w=>w.1).map V.int) ⟨rfl,rfl⟩ (cC (by rw[List.length_map];omega))
     (fun j us H12 hj ⟨e0,e1⟩=>⟨by rw[e0];exact bQ.of g9b,by rw[e1,List.length_map,List.length_map];exact Nat.le_trans (List.length_filter_le ..) (List.length_take_le ..)⟩) (fun j v us H12 hv ⟨e0,e1⟩=>?_) (fun us H12 ⟨e0,e1⟩=>?_)
    ·subst e0
     obtain⟨b,w,eb,rfl,ew,gb⟩:=r11.get hv
     rw[List.getElem?_map] at ew
     obtain⟨w',ew',rfl⟩:=Option.map_eq_some_iff.mp ew
     refine iX (lJ.of gb) rfl ?_
     walk_at "w"
     refine cV (fun h=>?_) (fun h=>?_)
     ·walk_at "w"
      refine⟨rfl,?_⟩
      rw[e1,gF ew',List.filter_append,List.filter_cons_of_pos (by simpa using h),List.map_append,List.map_append]
      rfl
     ·walk_at "w"
      refine⟨rfl,?_⟩
      rw[e1,gF ew',List.filter_append,List.filter_cons_of_neg (by simpa using h),List.filter_nil,List.append_nil]
    subst e0 e1
    rw[List.length_map,lbr,List.take_length]
    intro l2 nl2
    obtain⟨H13,i13,s13,g13⟩:=nw _ nl2;rw[i13]
    obtain⟨w,f1,f2,f3⟩:=xC (wF (Wr m ps) n (i+1)) ne
    walk_at "w"
    refine yM (bQ.of g13) (fun z=>?_) fun on hon hle=>?_
    ·have:w∈(vP m pr x).filter fun w=>decide (w.2.2+wF (Wr m ps) n (i+1) w.2.1=cT (wF (Wr m ps) n (i+1)) (vP m pr x)):=List.mem_filter.mpr ⟨f2,decide_eq_true f3⟩
     rw[List.map_eq_nil_iff,List.filter_eq_nil_iff] at z
     exact z w f2 (decide_eq_true f3)
    have eon:on=w.1:=by
     obtain⟨v,hv,rfl⟩:=List.mem_map.mp hon
     obtain⟨v1,v2⟩:=List.mem_filter.mp hv
     have a1:=aEq (aDr m pr x) f1 v1 v2
     have a2:=hle w.1 (List.mem_map.mpr ⟨w,List.mem_filter.mpr ⟨f2,decide_eq_true f3⟩,rfl⟩)
     omega
    subst eon
    obtain⟨on,bon,may,rfl⟩:=yQ.mp f2
    have S13:=S9.trans (s11.trans s13)
    have gr13:=S13 _ _ gr
    walk_at "w"
    refine jP (bQ.of gr13) ?_
    walk_at "w"
    refine mZ (xs:=row.map V.int) gr13 (Nat.lt_of_lt_of_le (by rw[List.length_map];omega:(row.map V.int).length < 20000) (cC (by decide))) ?_
    obtain⟨H14,i14,k14,g14⟩:=wr H13 lr _;rw[i14]
    have S14:aJ H H14:=fun b o e=>k14 _ _ ((s'.trans S13) _ _ e) (bA nlr e)
    have ht14:H14 t'=some (.tup [.int x.1,.int x.2]):=k14 _ _ (S13 _ _ ht') (fun z=>by rw[z,gr] at ht';cases ht')
    walk_at "w"
    refine⟨s,m,t',_,_,on,rfl,hs.same S14,ht14,bon,b1,b2,fun v0 H15 s15 o0=>?_⟩
    rw[aAn (iH.mpr may)] at o0
    obtain⟨T0,rfl,gT0⟩:=o0
    walk_at "w"
    refine⟨S14.trans s15,T0,_,row ++ [on],_,_,_,_,_,rfl,gT0,⟨x,hx,on,bon,may,rfl⟩,?_,by rw[List.length_append,lr'];rfl,?_⟩
    ·rw[s15 _ _ g14,List.map_append]
     rfl
    ·rw[<-hrow,hn,hn2,List.append_assoc]
     congr 1
     conv=>rhs;unfold t9
     rw[hW,f1]
     rfl
  ·subst e
   walk_at "w"
   rw[Nat.sub_self] at hrow
   have e2:row=rrF m ps st:=by rw[<-hrow];show row=row ++ [];rw[List.append_nil]
   rw[e2] at gr
   exact k lr H' s' nlr gr
theorem xT.lpj{H:Hp}{j:Nat}{p q r u:Addr}{m:Int}{ns:List Int}(h1:H p=some (.tup [.int m,.ref r]))(h2:H q=some (.tup [.int m,.ref u]))(g1:H r=some (.lst (ns.map V.int)))(g2:H u=some (.lst (ns.map V.int)))(hl:ns.length<=1000):xT H (j+3) (.ref p) (.ref q):=by
 refine .inr (.inr (.inr (.inr ⟨p,q,_,_,rfl,rfl,.inl ⟨h1,h2⟩,rfl,by simp,fun i u v hu hv=>?_⟩)))
 match i,hu,hv with
 |0,hu,hv=>cases hu;cases hv;exact xT.int m
 |1,hu,hv=>
  cases hu
  cases hv
  refine .inr (.inr (.inr (.inr ⟨_,_,_,_,rfl,rfl,.inr ⟨g1,g2⟩,rfl,by rw[List.length_map];omega,fun i u v hu hv=>?_⟩)))
  rw[hu] at hv
  cases hv
  obtain⟨n,_,rfl⟩:=vK hu
  exact xT.int n
 |_+2,hu,_=>simp at hu
theorem aIX{m:MS}(g:m.Good){a:Int×Int}(h:St1 m a)(ps:List Int):(rrF m ps a).length=ps.length:=(aE8 (aIT g h ps ps.length) (fun _ _=>aDr _ _ _) ps.length 0 a (by omega) rfl).2
def aCA(K:W.Frag)(t1 t2:Addr):Sp:=fun vs H Q _=>∃(a:Addr) (ns:List Int),vs=[.ref a]/\bQ K H a (ns.map V.int)/\ns.length<=63/\H t1=some (.ctb cG cH)/\H t2=some (.ctb gC gE)/\∀H',aJ H H'->Q (.bl true) H'
theorem aKV{P:Program}{w:World}{K:PySem.W.Frag}{mg:Str->Option Value}{base:Heap}{a:nA}(tx:Txt K mg a):bR P w K mg base iV 14 a.aE2 a.aE3 ["_law_script"] (aCA K a.cS a.iF):=by
 have aO:=d7 (P:=P) (w:=w) (base:=base) tx
 have aDw:=aCy (P:=P) (w:=w) (base:=base) tx
 have tE:=z0 (P:=P) (w:=w) (base:=base) tx
 have aCB:=aAV (P:=P) (w:=w) (base:=base) tx
 have aAr:=xS (P:=P) (w:=w) (base:=base) tx
 have xH:=aB8 (P:=P) (w:=w) (base:=base) tx
 have rL:=vH (P:=P) (w:=w) (base:=base) tx 3
 have aCC:=aAH (P:=P) (w:=w) (base:=base) tx
 have aAW:=aAp (P:=P) (w:=w) (base:=base) tx
 have aAs:=yA (P:=P) (w:=w) (base:=base) tx
 refine tx.aJd.ok iP (fun vs H Q E h=>?_) (fun cdv A outer s H vs Q E hr h=>?_)
 ·obtain⟨ad,ns,rfl,_⟩:=h
  rfl
 ·obtain⟨ad,ns,rfl ,hS,hl,gt1,gt2,k⟩:=h
  have hu:=nM hr
  refine Z.root (Z.aC (Z.aM (i:=1) iP.nd rfl (Or.inl rfl) (Z.aF (xH) (hr.mono (by decide)) (by rfl) tx.qF tx.mN.kp tx.qE .nil aQ (Z.aD (Z.pv 0) (Z.aD Z.aA Z.aB))))
   (Z.aC (Z.aM (i:=2) iP.nd rfl (Or.inl rfl) (Z.aCX (Z.aF (tE) (hr.mono (by decide)) (by rfl) tx.nC tx.jH.kp tx.nB .nil aQ (Z.aD (Z.pv 1) Z.aB)) (Z.aF (tE) (hr.mono (by decide)) (by rfl) tx.nC tx.jH.kp tx.nB .nil aQ (Z.aD (Z.pv 1) Z.aB))))
   (Z.aC (Z.cE PassesOwn.never rfl (Z.cO (by rfl) tx.dF (Z.aD (Z.aI (iJ rfl) (by rfl) tx.pI tI (Z.aD Z.aA (Z.aD (Z.aI (v9 rfl) (by rfl) tx.pJ tJ (Z.aD (Z.aI (rc:=nQ K) bT (by rfl) tx.fT eQ (Z.aD (Z.pv 0) Z.aB)) (Z.aD Z.aA Z.aB))) Z.aB))) Z.aB)) (Z.aP (i:=3) iP.nd rfl (Or.inl rfl)) (Z.aC (Z.aM (i:=1) iP.nd rfl (Or.inl rfl) (Z.aF (xH) (hr.mono (by decide)) (by rfl) tx.qF tx.mN.kp tx.qE .nil aQ (Z.aD (Z.pv 0) (Z.aD (Z.pv 3) Z.aB))))
   (Z.aC (Z.vX (Z.aF (aDw) (hr.mono (by decide)) (by rfl) tx.w5 tx.rG.kp tx.w4 .nil aQ (Z.aD (Z.pv 1) (Z.aD (Z.pv 2) Z.aB))) (Z.aGR (K':=K) (n:=2) rfl (Z.bH (Z.aP (i:=4) iP.nd rfl (Or.inl rfl)) (Z.bH (Z.aP (i:=5) iP.nd rfl (Or.inl rfl)) Z.fD))))
   (Z.aC (Z.aM (i:=6) iP.nd rfl (Or.inl rfl) (Z.aF (aCC) (hr.mono (by decide)) (by rfl) tx.uY tx.o7.kp tx.uX .nil aQ (Z.aD (Z.pv 1) (Z.aD (Z.pv 4) Z.aB))))
   (Z.aC (Z.aM (i:=7) iP.nd rfl (Or.inl rfl) (Z.eO Z.aB))
   (Z.aC (Z.cE PassesOwn.never rfl (Z.cO (by rfl) tx.dF (Z.aD (Z.aF (aO) (hr.mono (by decide)) (by rfl) tx.aZ tx.aU.kp tx.aY .nil aQ (Z.aD (Z.pv 1) (Z.aD Z.aA Z.aB))) Z.aB)) (Z.aP (i:=8) iP.nd rfl (Or.inl rfl)) (Z.aC (Z.aM (i:=9) iP.nd rfl (Or.inl rfl) (Z.aK (K':=K) (Z.aKs Z.aA Z.aA Z.aA Z.aA (Z.sS pU Z.aA)) (Z.aF (aO) (hr.mono (by decide)) (by rfl) tx.aZ tx.aU.kp tx.aY .nil aQ (Z.aD (Z.pv 1) (Z.aD Z.aA Z.aB))) (fun _ _=>rfl)))
   (Z.aG (Z.fB (Z.iZ (K':=K) (Z.pv 7) (Z.aD (Z.aI (iJ rfl) (by rfl) tx.pI tI (Z.aD Z.aA (Z.aD (Z.aI (v9 rfl) (by rfl) tx.pJ tJ (Z.aD (Z.aN vZ Z.aA Z.aA) (Z.aD (Z.aN bL (Z.pv 5) (Z.pv 9)) Z.aB))) Z.aB))) Z.aB))))))
   (Z.aC (Z.aM (i:=10) iP.nd rfl (Or.inl rfl) (Z.aF (aAW) (hr.mono (by decide)) (by rfl) tx.sZ tx.nF.kp tx.sY .nil aQ (Z.aD (Z.pv 4) (Z.aD (Z.pv 6) (Z.aD (Z.pv 7) Z.aB)))))
   (Z.aC (Z.aM (i:=11) iP.nd rfl (Or.inl rfl) (Z.oJ (Z.nU hu (Z.aK (K':=K) (Z.pv 10) Z.aA (fun _ _=>rfl)) (Z.pv 6)) (Z.aF (aCB) (hr.mono (by decide)) (by rfl) tx.vD tx.pD.kp tx.vC .nil aQ (Z.aD (Z.pv 4) (Z.aD (Z.pv 6) (Z.aD (Z.pv 7) (Z.aD (Z.pv 10) Z.aB)))))))
   (Z.aG (Z.cN (Z.oE (Z.fV (Z.aF (rL) (hr.mono (by decide)) (by rfl) tx.qN tx.mO.kp tx.qM .nil aQ (Z.aD (Z.aF (aAs) (hr.mono (by decide)) (by rfl) tx.rB tx.lA.kp tx.rA .nil aQ (Z.aD (Z.aF (aAr) (hr.mono (by decide)) (by rfl) tx.qK tx.kU.kp tx.qJ .nil aQ (Z.aD (Z.pv 4) Z.aB)) (Z.aD (Z.pv 6) (Z.aD (Z.iK (rc:=uQ K) tK (by rfl) tx.iT lN (Z.aD (Z.pv 7) Z.aB)) Z.aB)))) (Z.aD (Z.pv 11) Z.aB))))) (Z.aG (Z.aS Z.wL)) Z.bI))))))))))
   (Z.aG (Z.aS Z.wL))))) ?_
  have e12:(10:Int) ^ (12:Int).toNat=1000000000000:=by decide
  refine aR (σ:=[some (.ref ad),none,none,none,none,none,none,none,none,none,none,none]) rfl ?_
  walk_at "w"
  refine⟨ad,ns,_,rfl,hS,hl,by omega,fun p0 H1 s1 np0 hh0=>?_⟩
  walk_at "w"
  refine⟨p0,rfl,hh0,fun x H2 x0 x1 h2 k2 _=>?_⟩
  walk_at "w"
  refine⟨p0,rfl,h2,fun y H3 y0 y1 h3 k3 _=>?_⟩
  walk_at "w"
  intro b nb
  obtain⟨H4,i4,s4,gb⟩:=nw _ nb;rw[i4]
  have S4:aJ H H4:=(aAg np0 s1 (k2.trans k3)).trans s4
  walk_at "w"
  refine⟨by omega,by omega,?_⟩
  refine jM (fun i σ' H'=>aJ H4 H'/\∃(z1 z3 z4 z5 z6 z7 z8 z9 z10 z11:Option V),σ'=[some (.ref ad),z1,some (.ref b),z3,z4,z5,z6,z7,z8,z9,z10,z11]) ⟨aJ.refl _,_,_,_,_,_,_,_,_,_,_,rfl⟩ (fun i σ' H' hi ⟨s0,z1,z3,z4,z5,z6,z7,z8,z9,z10,z11,e⟩=>?_) (fun σ' H' ⟨s0,z1,z3,z4,z5,z6,z7,z8,z9,z10,z11,e⟩=>?_)
  ·subst e
   have S0:=S4.trans s0
   walk_at "w"
   refine⟨ad,ns,_,rfl,aJ.seq S0 hS,hl,by omega,fun p H5 s5 np hh=>?_⟩
   have npH4:H4 p=none:=s0.free np
   have S5:aJ H4 H5:=s0.trans s5
   have bp:b≠p:=bA np (s0 _ _ gb)
   walk_at "w"
   refine⟨p,b,x,y,rfl,hh,S5 _ _ gb,x0,x1,y0,y1,fun r s m pr H6 gr hs hg hpr h6 k6 ns6=>?_⟩
   obtain⟨pr0,pr1⟩:=hpr
   walk_at "w"
   refine aGQ (bQ.of gr) rfl ?_
   walk_at "w"
   refine⟨p,s,m,rfl,h6,hs,hg,fun t o d H7 ht hst h7 k7=>?_⟩
   have hs7:=hs.keep h6 k7
   have st1:St1 m (o,d):=hst
   walk_at "w"
   intro q nq
   obtain⟨H8,i8,s8,g8⟩:=nw _ nq;rw[i8]
   have qp:q≠p:=h7.aKN nq
   have h8:=h7.same s8
   walk_at "w"
   refine⟨p,_,rfl,h8,by decide,by decide,fun r9 H9 a9 b9 h9 k9 q9=>?_⟩
   obtain⟨nh,rfl⟩:=Int.eq_ofNat_of_zero_le a9
   have g9:=k9 _ _ g8 qp
   have hs9:=(hs7.same s8).keep h8 k9
   have ht9:H9 t=some (.tup [.int o,.int d]):=k9 _ _ (s8 _ _ ht) fun z=>h8.aDx _ (by rw[<-z];exact s8 _ _ ht)
   have K9:bZ p H5 H9:=k6.trans (k7.trans (s8.keep.trans k9))
   have Q9:fU p H7 H9:=fU.trans (fU.of fun o e=>s8 _ _ e) q9
   have K79:bZ p H7 H9:=s8.keep.trans k9
   walk_at "w"
   refine⟨by omega,by omega,?_⟩
   rw[Int.toNat_natCast]
   refine jM (n:=nh) (fun j σ' H'=>∃(ps:List Int) (z8 z9:Option V),σ'=[some (.ref ad),some (.ref p),some (.ref b),some (.int (0+(i:Int))),some (.ref s),some (.int pr),some (.ref t),some (.ref q),z8,z9,z10,z11]/\H' q=some (.lst (ps.map V.int))/\ps.length=j/\(∀n∈ps,Am n)/\bZ p H7 H'/\fU p H7 H')
    ⟨[],_,_,rfl,g9,rfl,(fun n hn=>by cases hn),K79,Q9⟩ (fun j σ' H' hj ⟨ps,z8,z9,e,gq,lps,aps,KJ,QJ⟩=>?_) (fun σ' H' ⟨ps,z8,z9,e,gq,lps,aps,KJ,QJ⟩=>?_)
   ·subst e
    have hJ:=h7.of KJ QJ
    walk_at "w"
    intro l6 nl6
    obtain⟨J1,j1,t1,u1⟩:=nw _ nl6;rw[j1]
    have l6p:l6≠p:=hJ.aKN nl6
    walk_at "w"
    refine⟨p,_,rfl,hJ.same t1,by decide,by decide,fun r2 J2 a2 b2 hJ2 k2 q2=>?_⟩
    have u2:=k2 _ _ u1 l6p
    have gq2:J2 q=some (.lst (ps.map V.int)):=k2 _ _ (t1 _ _ gq) qp
    obtain⟨mo,hmo⟩ : ∃n:Int,pO [V.int 0,.int 0,.int 0,.int 1,.int (-1)] r2=some (.int n):=by
     have:r2=0\/r2=1\/r2=2\/r2=3\/r2=4:=by omega
     rcases this with e|e|e|e|e <;> rw[e]
     ·exact⟨0,rfl⟩
     ·exact⟨0,rfl⟩
     ·exact⟨0,rfl⟩
     ·exact⟨1,rfl⟩
     ·exact⟨-1,rfl⟩
    walk_at "w"
    refine jP (bQ.of gq2) ?_
    walk_at "w"
    rw[e12]
    refine mZ (xs:=ps.map V.int) gq2 (Nat.lt_of_lt_of_le (by rw[List.length_map];omega:(ps.map V.int).length < 20000) (cC (by decide))) ?_
    obtain⟨J3,j3,k3,u3⟩:=wr J2 q _;rw[j3]
    walk_at "w"
    refine⟨ps ++ [max 0 (min 1000000000000 (pr+mo))],_,_,rfl,by rw[u3,List.map_append];rfl,by rw[List.length_append,lps];rfl,fun n hn=>?_,fun b o e n=>k3 _ _ ((t1.keep.trans k2) _ _ (KJ _ _ e n) n) (bA nq e),fU.trans QJ (fU.trans (fU.of fun o e=>t1 _ _ e) (fU.trans q2 (fU.of fun o e=>k3 _ _ e (Ne.symm qp))))⟩
    rcases List.mem_append.mp hn with z|z
    ·exact aps n z
    ·rw[List.mem_singleton.mp z]
     exact⟨by omega,by omega⟩
   subst e
   have hJ:=h7.of KJ QJ
   have hsJ:=hs7.keep h7 KJ
   have htJ:H' t=some (.tup [.int o,.int d]):=KJ _ _ ht fun z=>h7.aDx _ (by rw[<-z];exact ht)
   have SJ:aJ H4 H':=aAg npH4 S5 (k6.trans (k7.trans KJ))
   walk_at "w"
   refine⟨s,m,t,(o,d),q,ps,rfl,hsJ,hg,htJ,st1,gq,aps,by omega,fun lt Ls J1 t1 nlt hR lL hD=>?_⟩
   obtain⟨ds,gds,lds,hds⟩:=hD.ex
   have el0:Ls[0]?=some Ls[0]:=List.getElem?_eq_getElem (by omega)
   have in0:(o,d)∈Ls[0]:=((hR.at_ 0 _ el0).2 (o,d)).mpr rfl
   have ed:ds[0]?=some ds[0]:=List.getElem?_eq_getElem (by omega)
   have d0:=hds 0 _ _ ed el0
   generalize ds[0]=dx at ed d0
   rw[Nat.sub_zero] at d0
   have ixd:pO (ds.map V.ref) 0=some (.ref dx):=cU (j:=0) (nJ ed)
   walk_at "w"
   refine⟨dx,_,rfl,κS.get (v:=.ref t) (x:=(o,d)) d0 ⟨t,rfl,t1 _ _ htJ⟩ in0,?_⟩
   walk_at "w"
   refine⟨s,m,t,(o,d),q,ps,lt,Ls,rfl,hsJ.same t1,hg,t1 _ _ htJ,st1,t1 _ _ gq,aps,by omega,hR,lL,hD,fun r1 J2 t2 nr1 gr1=>?_⟩
   walk_at "w"
   intro Td nTd
   obtain⟨J3,j3,t3,gTd⟩:=nw _ nTd;rw[j3]
   have t13:=t1.trans (t2.trans t3)
   walk_at "w"
   refine⟨s,m,rfl,hsJ.same t13,hg,fun xm J4 hm t4 nxm=>?_⟩
   walk_at "w"
   refine y6 (bQ.of ((t13.trans t4) _ _ gq)) ?_
   intro q2 nq2
   obtain⟨J5,j5,t5,gq2⟩:=nw _ nq2;rw[j5]
   have t15:=t13.trans (t4.trans t5)
   have SH5:aJ H J5:=S4.trans (SJ.trans t15)
   walk_at "w"
   refine⟨xm,m,t,(o,d),q2,ps,rfl,SH5 _ _ gt1,SH5 _ _ gt2,hm.same t5,hg,t15 _ _ htJ,st1,gq2,aps,by omega,fun T r J6 t6 nr gT gr'=>?_⟩
   have lr:=aIX hg st1 ps
   walk_at "w"
   refine⟨_,_,rfl,xT.lpj gT ((t4.trans (t5.trans t6)) _ _ gTd) gr' ((t3.trans (t4.trans (t5.trans t6))) _ _ gr1) (by omega),fun J7 t7=>?_⟩
   repeat walk_at "gs"
   exact⟨SJ.trans (t15.trans (t6.trans t7)),_,_,_,_,_,_,_,_,_,_,rfl⟩
  ·subst e
   walk_at "w"
   exact k H' (S4.trans s0)
end My
namespace My
open PySem L2
theorem all_mk{l:PySem.W.OpenLaw}{w:World}{K:PySem.W.Frag}{h:Heap}{mg:Str->Option Value}{fa:Addr}(X:K.In h)(G:h.Ns mainGlobals mg)(hfa:mg "law" = some (.ref fa))
  {C0:Addr} {f0:Addr} {od0 an0:Option Addr} {sl0:Array (Option Value)} {oc0 kV0 dc0 pm0 cd0 ct0:Value} {f1:Addr} {od1 an1:Option Addr} {sl1:Array (Option Value)} {oc1 kV1 dc1 pm1 cd1 ct1:Value} {f2:Addr} {od2 an2:Option Addr} {sl2:Array (Option Value)} {oc2 kV2 dc2 pm2 cd2 ct2:Value} {f3:Addr} {od3 an3:Option Addr} {sl3:Array (Option Value)} {oc3 kV3 dc3 pm3 cd3 ct3:Value} {f4:Addr} {od4 an4:Option Addr} {sl4:Array (Option Value)} {oc4 kV4 dc4 pm4 cd4 ct4:Value} {f5:Addr} {od5 an5:Option Addr} {sl5:Array (Option Value)} {oc5 kV5 dc5 pm5 cd5 ct5:Value} {f6:Addr} {od6 an6:Option Addr} {sl6:Array (Option Value)} {oc6 kV6 dc6 pm6 cd6 ct6:Value} {f7:Addr} {od7 an7:Option Addr} {sl7:Array (Option Value)} {oc7 kV7 dc7 pm7 cd7 ct7:Value} {f8:Addr} {od8 an8:Option Addr} {sl8:Array (Option Value)} {oc8 kV8 dc8 pm8 cd8 ct8:Value} {f9:Addr} {od9 an9:Option Addr} {sl9:Array (Option Value)} {oc9 kV9 dc9 pm9 cd9 ct9:Value} {f10:Addr} {od10 an10:Option Addr} {sl10:Array (Option Value)} {oc10 kV10 dc10 pm10 cd10 ct10:Value} {f11:Addr} {od11 an11:Option Addr} {sl11:Array (Option Value)} {oc11 kV11 dc11 pm11 cd11 ct11:Value} {f12:Addr} {od12 an12:Option Addr} {sl12:Array (Option Value)} {oc12 kV12 dc12 pm12 cd12 ct12:Value} {f13:Addr} {od13 an13:Option Addr} {sl13:Array (Option Value)} {oc13 kV13 dc13 pm13 cd13 ct13:Value} {f14:Addr} {od14 an14:Option Addr} {sl14:Array (Option Value)} {oc14 kV14 dc14 pm14 cd14 ct14:Value} {f15:Addr} {od15 an15:Option Addr} {sl15:Array (Option Value)} {oc15 kV15 dc15 pm15 cd15 ct15:Value} {f16:Addr} {od16 an16:Option Addr} {sl16:Array (Option Value)} {oc16 kV16 dc16 pm16 cd16 ct16:Value} {f17:Addr} {od17 an17:Option Addr} {sl17:Array (Option Value)} {oc17 kV17 dc17 pm17 cd17 ct17:Value} {f18:Addr} {od18 an18:Option Addr} {sl18:Array (Option Value)} {oc18 kV18 dc18 pm18 cd18 ct18:Value} {f19:Addr} {od19 an19:Option Addr} {sl19:Array (Option Value)} {oc19 kV19 dc19 pm19 cd19 ct19:Value} {f20:Addr} {od20 an20:Option Addr} {sl20:Array (Option Value)} {oc20 kV20 dc20 pm20 cd20 ct20:Value} {f21:Addr} {od21 an21:Option Addr} {sl21:Array (Option Value)} {oc21 kV21 dc21 pm21 cd21 ct21:Value} {f22:Addr} {od22 an22:Option Addr} {sl22:Array (Option Value)} {oc22 kV22 dc22 pm22 cd22 ct22:Value} {f23:Addr} {od23 an23:Option Addr} {sl23:Array (Option Value)} {oc23 kV23 dc23 pm23 cd23 ct23:Value} {f24:Addr} {od24 an24:Option Addr} {sl24:Array (Option Value)} {oc24 kV24 dc24 pm24 cd24 ct24:Value} {f25:Addr} {od25 an25:Option Addr} {sl25:Array (Option Value)} {oc25 kV25 dc25 pm25 cd25 ct25:Value} {f26:Addr} {od26 an26:Option Addr} {sl26:Array (Option Value)} {oc26 kV26 dc26 pm26 cd26 ct26:Value} {f27:Addr} {od27 an27:Option Addr} {sl27:Array (Option Value)} {oc27 kV27 dc27 pm27 cd27 ct27:Value} {f28:Addr} {od28 an28:Option Addr} {sl28:Array (Option Value)} {oc28 kV28 dc28 pm28 cd28 ct28:Value} {f29:Addr} {od29 an29:Option Addr} {sl29:Array (Option Value)} {oc29 kV29 dc29 pm29 cd29 ct29:Value} {f30:Addr} {od30 an30:Option Addr} {sl30:Array (Option Value)} {oc30 kV30 dc30 pm30 cd30 ct30:Value} {f31:Addr} {od31 an31:Option Addr} {sl31:Array (Option Value)} {oc31 kV31 dc31 pm31 ct31:Value} {kc31 T31:Addr} {tod31:Option Addr} {tvs31:Array Value} {tsl31:Array (Option Value)} {f32:Addr} {od32 an32:Option Addr} {sl32:Array (Option Value)} {oc32 kV32 dc32 pm32 ct32:Value} {kc32 T32:Addr} {tod32:Option Addr} {tvs32:Array Value} {tsl32:Array (Option Value)} {f33:Addr} {od33 an33:Option Addr} {sl33:Array (Option Value)} {oc33 kV33 dc33 pm33 cd33 ct33:Value} {f34:Addr} {od34 an34:Option Addr} {sl34:Array (Option Value)} {oc34 kV34 dc34 pm34 cd34 ct34:Value} {f35:Addr} {od35 an35:Option Addr} {sl35:Array (Option Value)} {oc35 kV35 dc35 pm35 cd35 ct35:Value} {f36:Addr} {od36 an36:Option Addr} {sl36:Array (Option Value)} {oc36 kV36 dc36 pm36 cd36 ct36:Value} {f37:Addr} {od37 an37:Option Addr} {sl37:Array (Option Value)} {oc37 kV37 dc37 pm37 cd37 ct37:Value} {f38:Addr} {od38 an38:Option Addr} {sl38:Array (Option Value)} {oc38 kV38 dc38 pm38 cd38 ct38:Value} {f39:Addr} {od39 an39:Option Addr} {sl39:Array (Option Value)} {oc39 kV39 dc39 pm39 cd39 ct39:Value} {f40:Addr} {od40 an40:Option Addr} {sl40:Array (Option Value)} {oc40 kV40 dc40 pm40 cd40 ct40:Value} {tk_LONGEST_STINT:Tok} {tk_MOST_PIECES:Tok}
  (aC0:PySem.W.nsIn K mainGlobals "Machine" = some (some (.ref C0)))
  (a0:PySem.W.nsIn K mainGlobals "_law_open" = some (some (.ref f0)))
  (l0:K.lookup f0=some ⟨oc0,od0,.func (PySem.W.fnOf "_law_open" "_law_open" (aW eS) (aT eS) (aE eS) .none kV0 dc0 pm0 an0 cd0 ct0),sl0⟩)
  (c0:PySem.W.codeIn K cd0 "_law_open" = true)
  (k0:W.keepIn K (.ref f0)=true)
  (a1:PySem.W.nsIn K mainGlobals "_law_draw" = some (some (.ref f1)))
  (l1:K.lookup f1=some ⟨oc1,od1,.func (PySem.W.fnOf "_law_draw" "_law_draw" (aW gL) (aT gL) (aE gL) .none kV1 dc1 pm1 an1 cd1 ct1),sl1⟩)
  (c1:PySem.W.codeIn K cd1 "_law_draw" = true)
  (k1:W.keepIn K (.ref f1)=true)
  (a2:PySem.W.nsIn K mainGlobals "_law_far" = some (some (.ref f2)))
  (l2:K.lookup f2=some ⟨oc2,od2,.func (PySem.W.fnOf "_law_far" "_law_far" (aW iL) (aT iL) (aE iL) .none kV2 dc2 pm2 an2 cd2 ct2),sl2⟩)
  (c2:PySem.W.codeIn K cd2 "_law_far" = true)
  (k2:W.keepIn K (.ref f2)=true)
  (a3:PySem.W.nsIn K mainGlobals "_law_factor" = some (some (.ref f3)))
  (l3:K.lookup f3=some ⟨oc3,od3,.func (PySem.W.fnOf "_law_factor" "_law_factor" (aW eE) (aT eE) (aE eE) .none kV3 dc3 pm3 an3 cd3 ct3),sl3⟩)
  (c3:PySem.W.codeIn K cd3 "_law_factor" = true)
  (k3:W.keepIn K (.ref f3)=true)
  (a4:PySem.W.nsIn K mainGlobals "is_whole" = some (some (.ref f4)))
  (l4:K.lookup f4=some ⟨oc4,od4,.func (PySem.W.fnOf "is_whole" "is_whole" (aW iM) (aT iM) (aE iM) .none kV4 dc4 pm4 an4 cd4 ct4),sl4⟩)
  (c4:PySem.W.codeIn K cd4 "is_whole" = true)
  (k4:W.keepIn K (.ref f4)=true)
  (a5:PySem.W.nsIn K mainGlobals "is_amount" = some (some (.ref f5)))
  (l5:K.lookup f5=some ⟨oc5,od5,.func (PySem.W.fnOf "is_amount" "is_amount" (aW gM) (aT gM) (aE gM) .none kV5 dc5 pm5 an5 cd5 ct5),sl5⟩)
  (c5:PySem.W.codeIn K cd5 "is_amount" = true)
  (k5:W.keepIn K (.ref f5)=true)
  (a6:PySem.W.nsIn K mainGlobals "is_span" = some (some (.ref f6)))
  (l6:K.lookup f6=some ⟨oc6,od6,.func (PySem.W.fnOf "is_span" "is_span" (aW kO) (aT kO) (aE kO) .none kV6 dc6 pm6 an6 cd6 ct6),sl6⟩)
  (c6:PySem.W.codeIn K cd6 "is_span" = true)
  (k6:W.keepIn K (.ref f6)=true)
  (a7:PySem.W.nsIn K mainGlobals "is_piece" = some (some (.ref f7)))
  (l7:K.lookup f7=some ⟨oc7,od7,.func (PySem.W.fnOf "is_piece" "is_piece" (aW iN) (aT iN) (aE iN) .none kV7 dc7 pm7 an7 cd7 ct7),sl7⟩)
  (c7:PySem.W.codeIn K cd7 "is_piece" = true)
  (k7:W.keepIn K (.ref f7)=true)
  (a8:PySem.W.nsIn K mainGlobals "are_pieces" = some (some (.ref f8)))
  (l8:K.lookup f8=some ⟨oc8,od8,.func (PySem.W.fnOf "are_pieces" "are_pieces" (aW dB) (aT dB) (aE dB) .none kV8 dc8 pm8 an8 cd8 ct8),sl8⟩)
  (c8:PySem.W.codeIn K cd8 "are_pieces" = true)
  (k8:W.keepIn K (.ref f8)=true)
  (a9:PySem.W.findIn K (.ref C0) "__init__" = some (some (.ref f9)))
  (i9:PySem.W.isFn K (.ref f9)=true)
  (l9:K.lookup f9=some ⟨oc9,od9,.func (PySem.W.fnOf "__init__" "Machine.__init__" (aW dI) (aT dI) (aE dI) .none kV9 dc9 pm9 an9 cd9 ct9),sl9⟩)
  (c9:PySem.W.codeIn K cd9 "Machine.__init__" = true)
  (k9:W.keepIn K (.ref f9)=true)
  (a10:PySem.W.nsIn K mainGlobals "_law_spec" = some (some (.ref f10)))
  (l10:K.lookup f10=some ⟨oc10,od10,.func (PySem.W.fnOf "_law_spec" "_law_spec" (aW gO) (aT gO) (aE gO) .none kV10 dc10 pm10 an10 cd10 ct10),sl10⟩)
  (c10:PySem.W.codeIn K cd10 "_law_spec" = true)
  (k10:W.keepIn K (.ref f10)=true)
  (a11:PySem.W.nsIn K mainGlobals "_law_machine" = some (some (.ref f11)))
  (l11:K.lookup f11=some ⟨oc11,od11,.func (PySem.W.fnOf "_law_machine" "_law_machine" (aW dJ) (aT dJ) (aE dJ) .none kV11 dc11 pm11 an11 cd11 ct11),sl11⟩)
  (c11:PySem.W.codeIn K cd11 "_law_machine" = true)
  (k11:W.keepIn K (.ref f11)=true)
  (a12:PySem.W.nsIn K mainGlobals "_law_same" = some (some (.ref f12)))
  (l12:K.lookup f12=some ⟨oc12,od12,.func (PySem.W.fnOf "_law_same" "_law_same" (aW eU) (aT eU) (aE eU) .none kV12 dc12 pm12 an12 cd12 ct12),sl12⟩)
  (c12:PySem.W.codeIn K cd12 "_law_same" = true)
  (k12:W.keepIn K (.ref f12)=true)
  (a13:PySem.W.findIn K (.ref C0) "gain" = some (some (.ref f13)))
  (i13:PySem.W.isFn K (.ref f13)=true)
  (l13:K.lookup f13=some ⟨oc13,od13,.func (PySem.W.fnOf "gain" "Machine.gain" (aW dM) (aT dM) (aE dM) .none kV13 dc13 pm13 an13 cd13 ct13),sl13⟩)
  (c13:PySem.W.codeIn K cd13 "Machine.gain" = true)
  (k13:W.keepIn K (.ref f13)=true)
  (a14:PySem.W.nsIn K mainGlobals "_law_gain" = some (some (.ref f14)))
  (l14:K.lookup f14=some ⟨oc14,od14,.func (PySem.W.fnOf "_law_gain" "_law_gain" (aW eV) (aT eV) (aE eV) .none kV14 dc14 pm14 an14 cd14 ct14),sl14⟩)
  (c14:PySem.W.codeIn K cd14 "_law_gain" = true)
  (k14:W.keepIn K (.ref f14)=true)
  (a15:PySem.W.nsIn K mainGlobals "may_be" = some (some (.ref f15)))
  (l15:K.lookup f15=some ⟨oc15,od15,.func (PySem.W.fnOf "may_be" "may_be" (aW nV) (aT nV) (aE nV) .none kV15 dc15 pm15 an15 cd15 ct15),sl15⟩)
  (c15:PySem.W.codeIn K cd15 "may_be" = true)
  (k15:W.keepIn K (.ref f15)=true)
  (a16:PySem.W.nsIn K mainGlobals "state_after" = some (some (.ref f16)))
  (l16:K.lookup f16=some ⟨oc16,od16,.func (PySem.W.fnOf "state_after" "state_after" (aW eF) (aT eF) (aE eF) .none kV16 dc16 pm16 an16 cd16 ct16),sl16⟩)
  (c16:PySem.W.codeIn K cd16 "state_after" = true)
  (k16:W.keepIn K (.ref f16)=true)
  (a17:PySem.W.nsIn K mainGlobals "_law_state" = some (some (.ref f17)))
  (l17:K.lookup f17=some ⟨oc17,od17,.func (PySem.W.fnOf "_law_state" "_law_state" (aW fF) (aT fF) (aE fF) .none kV17 dc17 pm17 an17 cd17 ct17),sl17⟩)
  (c17:PySem.W.codeIn K cd17 "_law_state" = true)
  (k17:W.keepIn K (.ref f17)=true)
  (a18:PySem.W.nsIn K mainGlobals "run_fault" = some (some (.ref f18)))
  (l18:K.lookup f18=some ⟨oc18,od18,.func (PySem.W.fnOf "run_fault" "run_fault" (aW gP) (aT gP) (aE gP) .none kV18 dc18 pm18 an18 cd18 ct18),sl18⟩)
  (c18:PySem.W.codeIn K cd18 "run_fault" = true)
  (k18:W.keepIn K (.ref f18)=true)
  (a19:PySem.W.nsIn K mainGlobals "refuse_fault" = some (some (.ref f19)))
  (l19:K.lookup f19=some ⟨oc19,od19,.func (PySem.W.fnOf "refuse_fault" "refuse_fault" (aW dN) (aT dN) (aE dN) .none kV19 dc19 pm19 an19 cd19 ct19),sl19⟩)
  (c19:PySem.W.codeIn K cd19 "refuse_fault" = true)
  (k19:W.keepIn K (.ref f19)=true)
  (a20:PySem.W.nsIn K mainGlobals "run_begins" = some (some (.ref f20)))
  (l20:K.lookup f20=some ⟨oc20,od20,.func (PySem.W.fnOf "run_begins" "run_begins" (aW fG) (aT fG) (aE fG) .none kV20 dc20 pm20 an20 cd20 ct20),sl20⟩)
  (c20:PySem.W.codeIn K cd20 "run_begins" = true)
  (k20:W.keepIn K (.ref f20)=true)
  (a21:PySem.W.nsIn K mainGlobals "run_cost" = some (some (.ref f21)))
  (l21:K.lookup f21=some ⟨oc21,od21,.func (PySem.W.fnOf "run_cost" "run_cost" (aW iO) (aT iO) (aE iO) .none kV21 dc21 pm21 an21 cd21 ct21),sl21⟩)
  (c21:PySem.W.codeIn K cd21 "run_cost" = true)
  (k21:W.keepIn K (.ref f21)=true)
  (a22:PySem.W.nsIn K mainGlobals "least_of" = some (some (.ref f22)))
  (l22:K.lookup f22=some ⟨oc22,od22,.func (PySem.W.fnOf "least_of" "least_of" (aW gH) (aT gH) (aE gH) .none kV22 dc22 pm22 an22 cd22 ct22),sl22⟩)
  (c22:PySem.W.codeIn K cd22 "least_of" = true)
  (k22:W.keepIn K (.ref f22)=true)
  (a23:PySem.W.nsIn K mainGlobals "worths_ahead" = some (some (.ref f23)))
  (l23:K.lookup f23=some ⟨oc23,od23,.func (PySem.W.fnOf "worths_ahead" "worths_ahead" (aW dO) (aT dO) (aE dO) .none kV23 dc23 pm23 an23 cd23 ct23),sl23⟩)
  (c23:PySem.W.codeIn K cd23 "worths_ahead" = true)
  (k23:W.keepIn K (.ref f23)=true)
  (a24:PySem.W.nsIn K mainGlobals "worths_by_hour" = some (some (.ref f24)))
  (l24:K.lookup f24=some ⟨oc24,od24,.func (PySem.W.fnOf "worths_by_hour" "worths_by_hour" (aW cL) (aT cL) (aE cL) .none kV24 dc24 pm24 an24 cd24 ct24),sl24⟩)
  (c24:PySem.W.codeIn K cd24 "worths_by_hour" = true)
  (k24:W.keepIn K (.ref f24)=true)
  (a25:PySem.W.nsIn K mainGlobals "first_best" = some (some (.ref f25)))
  (l25:K.lookup f25=some ⟨oc25,od25,.func (PySem.W.fnOf "first_best" "first_best" (aW dW) (aT dW) (aE dW) .none kV25 dc25 pm25 an25 cd25 ct25),sl25⟩)
  (c25:PySem.W.codeIn K cd25 "first_best" = true)
  (k25:W.keepIn K (.ref f25)=true)
  (a26:PySem.W.nsIn K mainGlobals "first_row" = some (some (.ref f26)))
  (l26:K.lookup f26=some ⟨oc26,od26,.func (PySem.W.fnOf "first_row" "first_row" (aW gQ) (aT gQ) (aE gQ) .none kV26 dc26 pm26 an26 cd26 ct26),sl26⟩)
  (c26:PySem.W.codeIn K cd26 "first_row" = true)
  (k26:W.keepIn K (.ref f26)=true)
  (a27:PySem.W.nsIn K mainGlobals "ways_one_on" = some (some (.ref f27)))
  (l27:K.lookup f27=some ⟨oc27,od27,.func (PySem.W.fnOf "ways_one_on" "ways_one_on" (aW eG) (aT eG) (aE eG) .none kV27 dc27 pm27 an27 cd27 ct27),sl27⟩)
  (c27:PySem.W.codeIn K cd27 "ways_one_on" = true)
  (k27:W.keepIn K (.ref f27)=true)
  (a28:PySem.W.nsIn K mainGlobals "states_by_hour" = some (some (.ref f28)))
  (l28:K.lookup f28=some ⟨oc28,od28,.func (PySem.W.fnOf "states_by_hour" "states_by_hour" (aW cM) (aT cM) (aE cM) .none kV28 dc28 pm28 an28 cd28 ct28),sl28⟩)
  (c28:PySem.W.codeIn K cd28 "states_by_hour" = true)
  (k28:W.keepIn K (.ref f28)=true)
  (a29:PySem.W.nsIn K mainGlobals "next_hours" = some (some (.ref f29)))
  (l29:K.lookup f29=some ⟨oc29,od29,.func (PySem.W.fnOf "next_hours" "next_hours" (aW dX) (aT dX) (aE dX) .none kV29 dc29 pm29 an29 cd29 ct29),sl29⟩)
  (c29:PySem.W.codeIn K cd29 "next_hours" = true)
  (k29:W.keepIn K (.ref f29)=true)
  (a30:PySem.W.nsIn K mainGlobals "hour_ways" = some (some (.ref f30)))
  (l30:K.lookup f30=some ⟨oc30,od30,.func (PySem.W.fnOf "hour_ways" "hour_ways" (aW eW) (aT eW) (aE eW) .none kV30 dc30 pm30 an30 cd30 ct30),sl30⟩)
  (c30:PySem.W.codeIn K cd30 "hour_ways" = true)
  (k30:W.keepIn K (.ref f30)=true)
  (a31:PySem.W.nsIn K mainGlobals "worths_of_states" = some (some (.ref f31)))
  (l31:K.lookup f31=some ⟨oc31,od31,.func (PySem.W.fnOf "worths_of_states" "worths_of_states" (aW bO) (aT bO) (aE bO) .none kV31 dc31 pm31 an31 (.ref kc31) ct31),sl31⟩)
  (c31:PySem.W.codeIn K (.ref kc31) "worths_of_states" = true)
  (tl31:K.lookup kc31=some ⟨.type "code",tod31,.fields tvs31,tsl31⟩)
  (tv31:(tvs31[11]? : Option Value)=some (.ref T31))
  (th31:PySem.W.codeHdIn K kc31 T31=true)
  (k31:W.keepIn K (.ref f31)=true)
  (a32:PySem.W.nsIn K mainGlobals "cheapest_run" = some (some (.ref f32)))
  (l32:K.lookup f32=some ⟨oc32,od32,.func (PySem.W.fnOf "cheapest_run" "cheapest_run" (aW cA) (aT cA) (aE cA) .none kV32 dc32 pm32 an32 (.ref kc32) ct32),sl32⟩)
  (c32:PySem.W.codeIn K (.ref kc32) "cheapest_run" = true)
  (tl32:K.lookup kc32=some ⟨.type "code",tod32,.fields tvs32,tsl32⟩)
  (tv32:(tvs32[11]? : Option Value)=some (.ref T32))
  (th32:PySem.W.codeHdIn K kc32 T32=true)
  (k32:W.keepIn K (.ref f32)=true)
  (a33:PySem.W.nsIn K mainGlobals "_law_price" = some (some (.ref f33)))
  (l33:K.lookup f33=some ⟨oc33,od33,.func (PySem.W.fnOf "_law_price" "_law_price" (aW fH) (aT fH) (aE fH) .none kV33 dc33 pm33 an33 cd33 ct33),sl33⟩)
  (c33:PySem.W.codeIn K cd33 "_law_price" = true)
  (k33:W.keepIn K (.ref f33)=true)
  (a34:PySem.W.nsIn K mainGlobals "_law_after" = some (some (.ref f34)))
  (l34:K.lookup f34=some ⟨oc34,od34,.func (PySem.W.fnOf "_law_after" "_law_after" (aW fJ) (aT fJ) (aE fJ) .none kV34 dc34 pm34 an34 cd34 ct34),sl34⟩)
  (c34:PySem.W.codeIn K cd34 "_law_after" = true)
  (k34:W.keepIn K (.ref f34)=true)
  (a35:PySem.W.nsIn K mainGlobals "_law_hour" = some (some (.ref f35)))
  (l35:K.lookup f35=some ⟨oc35,od35,.func (PySem.W.fnOf "_law_hour" "_law_hour" (aW gR) (aT gR) (aE gR) .none kV35 dc35 pm35 an35 cd35 ct35),sl35⟩)
  (c35:PySem.W.codeIn K cd35 "_law_hour" = true)
  (k35:W.keepIn K (.ref f35)=true)
  (a36:PySem.W.nsIn K mainGlobals "_law_reached" = some (some (.ref f36)))
  (l36:K.lookup f36=some ⟨oc36,od36,.func (PySem.W.fnOf "_law_reached" "_law_reached" (aW cQ) (aT cQ) (aE cQ) .none kV36 dc36 pm36 an36 cd36 ct36),sl36⟩)
  (c36:PySem.W.codeIn K cd36 "_law_reached" = true)
  (k36:W.keepIn K (.ref f36)=true)
  (a37:PySem.W.nsIn K mainGlobals "_law_worths" = some (some (.ref f37)))
  (l37:K.lookup f37=some ⟨oc37,od37,.func (PySem.W.fnOf "_law_worths" "_law_worths" (aW eI) (aT eI) (aE eI) .none kV37 dc37 pm37 an37 cd37 ct37),sl37⟩)
  (c37:PySem.W.codeIn K cd37 "_law_worths" = true)
  (k37:W.keepIn K (.ref f37)=true)
  (a38:PySem.W.nsIn K mainGlobals "_law_even" = some (some (.ref f38)))
  (l38:K.lookup f38=some ⟨oc38,od38,.func (PySem.W.fnOf "_law_even" "_law_even" (aW gS) (aT gS) (aE gS) .none kV38 dc38 pm38 an38 cd38 ct38),sl38⟩)
  (c38:PySem.W.codeIn K cd38 "_law_even" = true)
  (k38:W.keepIn K (.ref f38)=true)
  (a39:PySem.W.nsIn K mainGlobals "_law_first" = some (some (.ref f39)))
  (l39:K.lookup f39=some ⟨oc39,od39,.func (PySem.W.fnOf "_law_first" "_law_first" (aW dC) (aT dC) (aE dC) .none kV39 dc39 pm39 an39 cd39 ct39),sl39⟩)
  (c39:PySem.W.codeIn K cd39 "_law_first" = true)
  (k39:W.keepIn K (.ref f39)=true)
  (a40:PySem.W.nsIn K mainGlobals "law" = some (some (.ref f40)))
  (l40:K.lookup f40=some ⟨oc40,od40,.func (PySem.W.fnOf "law" "law" (aW aBo) (aT aBo) (aE aBo) .none kV40 dc40 pm40 an40 cd40 ct40),sl40⟩)
  (c40:PySem.W.codeIn K cd40 "law" = true)
  (k40:W.keepIn K (.ref f40)=true)
  (pg0:PySem.W.plainGet K C0 Str.empty=true)
  (hd0:PySem.W.hasDictIn K C0=true)
  (po0:PySem.W.plainOver K C0=true)
  (sa0:PySem.W.findIn K (.ref C0) "__setattr__" = some (some (.builtin "object.__setattr__")))
  (mk0:PySem.W.makesIn K C0=true)
  (kc0:W.keepIn K (.ref C0)=true)
  (n0_up:PySem.W.findIn K (.ref C0) "up" = some none)
  (n0_down:PySem.W.findIn K (.ref C0) "down" = some none)
  (n0_begin:PySem.W.findIn K (.ref C0) "begin" = some none)
  (n0_run:PySem.W.findIn K (.ref C0) "run" = some none)
  (n0_rest:PySem.W.findIn K (.ref C0) "rest" = some none)
  (n0_least:PySem.W.findIn K (.ref C0) "least" = some none)
  (n0_pieces:PySem.W.findIn K (.ref C0) "pieces" = some none)
  (aBr:PySem.W.nsIn K mainGlobals "abs" = some none)
  (w6:PySem.W.nsIn K mainGlobals "all" = some none)
  (nH:PySem.W.nsIn K mainGlobals "bool" = some none)
  (dS:PySem.W.nsIn K mainGlobals "enumerate" = some none)
  (w9:PySem.W.nsIn K mainGlobals "int" = some none)
  (aX:PySem.W.nsIn K mainGlobals "isinstance" = some none)
  (fT:PySem.W.nsIn K mainGlobals "len" = some none)
  (iT:PySem.W.nsIn K mainGlobals "list" = some none)
  (pI:PySem.W.nsIn K mainGlobals "max" = some none)
  (pJ:PySem.W.nsIn K mainGlobals "min" = some none)
  (dF:PySem.W.nsIn K mainGlobals "range" = some none)
  (iU:PySem.W.nsIn K mainGlobals "reversed" = some none)
  (aBs:PySem.W.nsIn K mainGlobals "set" = some none)
  (lF:PySem.W.nsIn K mainGlobals "sorted" = some none)
  (zY:PySem.W.nsIn K mainGlobals "str" = some none)
  (aBt:PySem.W.nsIn K mainGlobals "sum" = some none)
  (kM:PySem.W.nsIn K mainGlobals "tuple" = some none)
  (cY:PySem.W.nsIn K mainGlobals "LONGEST_STINT" = some (some (.int 12 tk_LONGEST_STINT)))
  (eM:PySem.W.nsIn K mainGlobals "MOST_PIECES" = some (some (.int 4 tk_MOST_PIECES))) :
  (∃c,PySem.W.codeHdIn K c T31=true)/\(∃c,PySem.W.codeHdIn K c T32=true)/\∃fd:FuncData,(∀(s:Shared) (v:Value),BindsTo s fd ⟨[v],[]⟩ [("_law_script",v)])/\∀base:Heap,K.In base->base.Ns mainGlobals mg->bR l.prog w K mg base iV 14 fa fd ["_law_script"] (aCA K T31 T32):=by
 have e:=hfa.symm.trans (W.mg_of X G a40)
 cases e
 have F0:=bG (st:=eS) l0 c0 k0
 have b0:=F0.binds (ps:=["_law_script","_law_place"]) fun _ _ _ _ _ _ us hl=>by obtain⟨_,_,rfl⟩:=ar2 us hl;rfl
 have F1:=bG (st:=gL) l1 c1 k1
 have b1:=F1.binds (ps:=["_law_hand","_law_many"]) fun _ _ _ _ _ _ us hl=>by obtain⟨_,_,rfl⟩:=ar2 us hl;rfl
 have F2:=bG (st:=iL) l2 c2 k2
 have b2:=F2.binds (ps:=["_law_hand","_law_bound"]) fun _ _ _ _ _ _ us hl=>by obtain⟨_,_,rfl⟩:=ar2 us hl;rfl
 have F3:=bG (st:=eE) l3 c3 k3
 have b3:=F3.binds (ps:=["_law_hand"]) fun _ _ _ _ _ _ us hl=>by obtain⟨_,rfl⟩:=ar1 us hl;rfl
 have F4:=bG (st:=iM) l4 c4 k4
 have b4:=F4.binds (ps:=["thing"]) fun _ _ _ _ _ _ us hl=>by obtain⟨_,rfl⟩:=ar1 us hl;rfl
 have F5:=bG (st:=gM) l5 c5 k5
 have b5:=F5.binds (ps:=["thing"]) fun _ _ _ _ _ _ us hl=>by obtain⟨_,rfl⟩:=ar1 us hl;rfl
 have F6:=bG (st:=kO) l6 c6 k6
 have b6:=F6.binds (ps:=["thing"]) fun _ _ _ _ _ _ us hl=>by obtain⟨_,rfl⟩:=ar1 us hl;rfl
 have F7:=bG (st:=iN) l7 c7 k7
 have b7:=F7.binds (ps:=["thing"]) fun _ _ _ _ _ _ us hl=>by obtain⟨_,rfl⟩:=ar1 us hl;rfl
 have F8:=bG (st:=dB) l8 c8 k8
 have b8:=F8.binds (ps:=["thing"]) fun _ _ _ _ _ _ us hl=>by obtain⟨_,rfl⟩:=ar1 us hl;rfl
 have F9:=bG (st:=dI) l9 c9 k9
 have b9:=F9.binds (ps:=["self","up","down","begin","run","rest","least","pieces"]) fun _ _ _ _ _ _ us hl=>by obtain⟨_,_,_,_,_,_,_,_,rfl⟩:=ar8 us hl;rfl
 have F10:=bG (st:=gO) l10 c10 k10
 have b10:=F10.binds (ps:=["_law_hand","_law_by","_law_longest"]) fun _ _ _ _ _ _ us hl=>by obtain⟨_,_,_,rfl⟩:=ar3 us hl;rfl
 have F11:=bG (st:=dJ) l11 c11 k11
 have b11:=F11.binds (ps:=["_law_spec_here"]) fun _ _ _ _ _ _ us hl=>by obtain⟨_,rfl⟩:=ar1 us hl;rfl
 have F12:=bG (st:=eU) l12 c12 k12
 have b12:=F12.binds (ps:=["_law_one","_law_due"]) fun _ _ _ _ _ _ us hl=>by obtain⟨_,_,rfl⟩:=ar2 us hl;rfl
 have F13:=bG (st:=dM) l13 c13 k13
 have b13:=F13.binds (ps:=["self","price"]) fun _ _ _ _ _ _ us hl=>by obtain⟨_,_,rfl⟩:=ar2 us hl;rfl
 have F14:=bG (st:=eV) l14 c14 k14
 have b14:=F14.binds (ps:=["_law_spec_here","_law_price_here"]) fun _ _ _ _ _ _ us hl=>by obtain⟨_,_,rfl⟩:=ar2 us hl;rfl
 have F15:=bG (st:=nV) l15 c15 k15
 have b15:=F15.binds (ps:=["machine","state","on"]) fun _ _ _ _ _ _ us hl=>by obtain⟨_,_,_,rfl⟩:=ar3 us hl;rfl
 have F16:=bG (st:=eF) l16 c16 k16
 have b16:=F16.binds (ps:=["machine","state","on"]) fun _ _ _ _ _ _ us hl=>by obtain⟨_,_,_,rfl⟩:=ar3 us hl;rfl
 have F17:=bG (st:=fF) l17 c17 k17
 have b17:=F17.binds (ps:=["_law_hand","_law_spec_here"]) fun _ _ _ _ _ _ us hl=>by obtain⟨_,_,rfl⟩:=ar2 us hl;rfl
 have F18:=bG (st:=gP) l18 c18 k18
 have b18:=F18.binds (ps:=["machine","state","run"]) fun _ _ _ _ _ _ us hl=>by obtain⟨_,_,_,rfl⟩:=ar3 us hl;rfl
 have F19:=bG (st:=dN) l19 c19 k19
 have b19:=F19.binds (ps:=["machine","state","run"]) fun _ _ _ _ _ _ us hl=>by obtain⟨_,_,_,rfl⟩:=ar3 us hl;rfl
 have F20:=bG (st:=fG) l20 c20 k20
 have b20:=F20.binds (ps:=["machine","state","run"]) fun _ _ _ _ _ _ us hl=>by obtain⟨_,_,_,rfl⟩:=ar3 us hl;rfl
 have F21:=bG (st:=iO) l21 c21 k21
 have b21:=F21.binds (ps:=["machine","state","run"]) fun _ _ _ _ _ _ us hl=>by obtain⟨_,_,_,rfl⟩:=ar3 us hl;rfl
 have F22:=bG (st:=gH) l22 c22 k22
 have b22:=F22.binds (ps:=["ways","behind"]) fun _ _ _ _ _ _ us hl=>by obtain⟨_,_,rfl⟩:=ar2 us hl;rfl
 have F23:=bG (st:=dO) l23 c23 k23
 have b23:=F23.binds (ps:=["places","hour","behind","ways_at"]) fun _ _ _ _ _ _ us hl=>by obtain⟨_,_,_,_,rfl⟩:=ar4 us hl;rfl
 have F24:=bG (st:=cL) l24 c24 k24
 have b24:=F24.binds (ps:=["layers","ways_at"]) fun _ _ _ _ _ _ us hl=>by obtain⟨_,_,rfl⟩:=ar2 us hl;rfl
 have F25:=bG (st:=dW) l25 c25 k25
 have b25:=F25.binds (ps:=["ways","behind"]) fun _ _ _ _ _ _ us hl=>by obtain⟨_,_,rfl⟩:=ar2 us hl;rfl
 have F26:=bG (st:=gQ) l26 c26 k26
 have b26:=F26.binds (ps:=["place","worths","ways_at"]) fun _ _ _ _ _ _ us hl=>by obtain⟨_,_,_,rfl⟩:=ar3 us hl;rfl
 have F27:=bG (st:=eG) l27 c27 k27
 have b27:=F27.binds (ps:=["machine","ways"]) fun _ _ _ _ _ _ us hl=>by obtain⟨_,_,rfl⟩:=ar2 us hl;rfl
 have F28:=bG (st:=cM) l28 c28 k28
 have b28:=F28.binds (ps:=["machine","state","hours"]) fun _ _ _ _ _ _ us hl=>by obtain⟨_,_,_,rfl⟩:=ar3 us hl;rfl
 have F29:=bG (st:=dX) l29 c29 k29
 have b29:=F29.binds (ps:=["machine","state"]) fun _ _ _ _ _ _ us hl=>by obtain⟨_,_,rfl⟩:=ar2 us hl;rfl
 have F30:=bG (st:=eW) l30 c30 k30
 have b30:=F30.binds (ps:=["machine","state","price"]) fun _ _ _ _ _ _ us hl=>by obtain⟨_,_,_,rfl⟩:=ar3 us hl;rfl
 have F31:=bG (st:=bO) l31 c31 k31
 have b31:=F31.binds (ps:=["machine","state","prices"]) fun _ _ _ _ _ _ us hl=>by obtain⟨_,_,_,rfl⟩:=ar3 us hl;rfl
 have F32:=bG (st:=cA) l32 c32 k32
 have b32:=F32.binds (ps:=["machine","state","prices"]) fun _ _ _ _ _ _ us hl=>by obtain⟨_,_,_,rfl⟩:=ar3 us hl;rfl
 have F33:=bG (st:=fH) l33 c33 k33
 have b33:=F33.binds (ps:=["_law_hand","_law_by","_law_most"]) fun _ _ _ _ _ _ us hl=>by obtain⟨_,_,_,rfl⟩:=ar3 us hl;rfl
 have F34:=bG (st:=fJ) l34 c34 k34
 have b34:=F34.binds (ps:=["_law_spec_here","_law_state_here","_law_on"]) fun _ _ _ _ _ _ us hl=>by obtain⟨_,_,_,rfl⟩:=ar3 us hl;rfl
 have F35:=bG (st:=gR) l35 c35 k35
 have b35:=F35.binds (ps:=["_law_spec_here","_law_state_here","_law_price_here","_law_on"]) fun _ _ _ _ _ _ us hl=>by obtain⟨_,_,_,_,rfl⟩:=ar4 us hl;rfl
 have F36:=bG (st:=cQ) l36 c36 k36
 have b36:=F36.binds (ps:=["_law_spec_here","_law_state_here","_law_hours"]) fun _ _ _ _ _ _ us hl=>by obtain⟨_,_,_,rfl⟩:=ar3 us hl;rfl
 have F37:=bG (st:=eI) l37 c37 k37
 have b37:=F37.binds (ps:=["_law_spec_here","_law_state_here","_law_prices"]) fun _ _ _ _ _ _ us hl=>by obtain⟨_,_,_,rfl⟩:=ar3 us hl;rfl
 have F38:=bG (st:=gS) l38 c38 k38
 have b38:=F38.binds (ps:=["_law_hand","_law_by"]) fun _ _ _ _ _ _ us hl=>by obtain⟨_,_,rfl⟩:=ar2 us hl;rfl
 have F39:=bG (st:=dC) l39 c39 k39
 have b39:=F39.binds (ps:=["_law_spec_here","_law_state_here","_law_prices","_law_tables"]) fun _ _ _ _ _ _ us hl=>by obtain⟨_,_,_,_,rfl⟩:=ar4 us hl;rfl
 have F40:=bG (st:=aBo) l40 c40 k40
 have b40:=F40.binds (ps:=["_law_script"]) fun _ _ _ _ _ _ us hl=>by obtain⟨_,rfl⟩:=ar1 us hl;rfl
 have tx:Txt K mg { lP:=f0,lQ:=_,lR:=f1,lS:=_,oP:=f2,oQ:=_,i0:=f3,jA:=_,oR:=f4,oS:=_,lT:=f5,lU:=_,sE:=f6,sF:=_,oU:=f7,oV:=_,j0:=f8,j7:=_,gY:=f9,gZ:=_,lV:=f10,lW:=_,g0:=f11,hE:=_,lX:=f12,lY:=_,hU:=f13,hV:=_,lZ:=f14,mB:=_,uT:=f15,uU:=_,jB:=f16,jC:=_,j8:=f17,j9:=_,mC:=f18,mD:=_,hX:=f19,hZ:=_,kA:=f20,kB:=_,oW:=f21,oX:=_,oY:=f22,oZ:=_,iA:=f23,iB:=_,fM:=f24,fO:=_,kC:=f25,kD:=_,mE:=f26,mF:=_,jD:=f27,jE:=_,fP:=f28,fQ:=_,kE:=f29,kF:=_,mG:=f30,mH:=_,dY:=f31,cR:=_,k_worths_of_states:=kc31,cS:=T31,iC:=f32,eX:=_,k_cheapest_run:=kc32,iF:=T32,kG:=f33,kH:=_,kI:=f34,kJ:=_,mI:=f35,mJ:=_,iD:=f36,iE:=_,jF:=f37,jG:=_,mK:=f38,mM:=_,kK:=f39,kL:=_,aE2:=fa,aE3:=_,bB:=C0 }:={ mN:=F0,qE:=b0,qF:=W.mg_of X G a0,aU:=F1,aY:=b1,aZ:=W.mg_of X G a1,tR:=F2,zS:=b2,zT:=W.mg_of X G a2,jH:=F3,nB:=b3,nC:=W.mg_of X G a3,o5:=F4,tT:=b4,tU:=W.mg_of X G a4,dR:=F5,eY:=b5,eZ:=W.mg_of X G a5,sG:=F6,wH:=b6,wI:=W.mg_of X G a6,tV:=F7,zU:=b7,zV:=W.mg_of X G a7,o6:=F8,uV:=b8,uW:=W.mg_of X G a8,qG:=F9,qH:=b9,qI:=F10,wU:=b10,wV:=W.mg_of X G a10,kU:=F11,qJ:=b11,qK:=W.mg_of X G a11,mO:=F12,qM:=b12,qN:=W.mg_of X G a12,qO:=F13,qP:=b13,jN:=F14,mP:=b14,mQ:=W.mg_of X G a14,nW:=F15,qQ:=b15,qR:=W.mg_of X G a15,fY:=F16,jI:=b16,jJ:=W.mg_of X G a16,o7:=F17,uX:=b17,uY:=W.mg_of X G a17,qS:=F18,wW:=b18,wX:=W.mg_of X G a18,kW:=F19,qT:=b19,qU:=W.mg_of X G a19,o8:=F20,uZ:=b20,u4:=W.mg_of X G a20,tW:=F21,zW:=b21,zX:=W.mg_of X G a21,o9:=F22,tX:=b22,tY:=W.mg_of X G a22,kX:=F23,qV:=b23,qW:=W.mg_of X G a23,iQ:=F24,nX:=b24,nY:=W.mg_of X G a24,pA:=F25,u5:=b25,u6:=W.mg_of X G a25,qX:=F26,wY:=b26,wZ:=W.mg_of X G a26,nE:=F27,sW:=b27,sX:=W.mg_of X G a27,iR:=F28,nZ:=b28,oA:=W.mg_of X G a28,pB:=F29,u7:=b29,u9:=W.mg_of X G a29,mR:=F30,qY:=b30,qZ:=W.mg_of X G a30,gI:=F31,kY:=b31,gJ:=⟨rfl,th31⟩,kZ:=W.mg_of X G a31,lA:=F32,rA:=b32,lE:=⟨rfl,th32⟩,rB:=W.mg_of X G a32,pC:=F33,vA:=b33,vB:=W.mg_of X G a33,dZ:=F34,fR:=b34,fS:=W.mg_of X G a34,mS:=F35,rC:=b35,rD:=W.mg_of X G a35,lB:=F36,rE:=b36,rF:=W.mg_of X G a36,nF:=F37,sY:=b37,sZ:=W.mg_of X G a37,rG:=F38,w4:=b38,w5:=W.mg_of X G a38,pD:=F39,vC:=b39,vD:=W.mg_of X G a39,aJd:=F40,aLD:=b40,aLE:=W.mg_of X G a40,bV:=⟨pg0,hd0,po0,sa0⟩,aBp:=W.mg_of X G aC0,aBq:=⟨mk0,a9,i9,kc0⟩,m_Machine_gain:=⟨a13,i13,k13⟩,pE:=n0_up,lC:=n0_down,jS:=n0_begin,nG:=n0_run,lD:=n0_rest,jT:=n0_least,iS:=n0_pieces,aBr:=PySem.W.mg_none_of X G aBr,w6:=PySem.W.mg_none_of X G w6,nH:=PySem.W.mg_none_of X G nH,dS:=PySem.W.mg_none_of X G dS,w9:=PySem.W.mg_none_of X G w9,aX:=PySem.W.mg_none_of X G aX,fT:=PySem.W.mg_none_of X G fT,iT:=PySem.W.mg_none_of X G iT,pI:=PySem.W.mg_none_of X G pI,pJ:=PySem.W.mg_none_of X G pJ,dF:=PySem.W.mg_none_of X G dF,iU:=PySem.W.mg_none_of X G iU,aBs:=PySem.W.mg_none_of X G aBs,lF:=PySem.W.mg_none_of X G lF,zY:=PySem.W.mg_none_of X G zY,aBt:=PySem.W.mg_none_of X G aBt,kM:=PySem.W.mg_none_of X G kM,cY:=⟨_,W.mg_of X G cY⟩,eM:=⟨_,W.mg_of X G eM⟩ }
 exact⟨⟨_,th31⟩,⟨_,th32⟩,_,fun s v=>.of_eq rfl,fun base _ _=>aKV tx⟩
theorem walk{l:PySem.W.OpenLaw}{q:Program}{loose:List Str}{XP:(Str->Option Value)->Heap->Prop}{YP:World->Heap->Prop}{d:DefRec}{K:Params->W.Frag}{T31 T32:Addr}(hn:l.most=some 63)(hdf:d.params.defaults=[])(hI:∀(w:World) (h:Heap),YP w h->(K w.params).In h)
  (F:∀(w:World) (mg:Str->Option Value) (fa:Addr) (h:Heap),(K w.params).In h->h.Ns mainGlobals mg->mg d.name=some (.ref fa)->
   (∃c,PySem.W.codeHdIn (K w.params) c T31=true)/\(∃c,PySem.W.codeHdIn (K w.params) c T32=true)/\∃fd:FuncData,(∀(s:Shared) (u:Value),BindsTo s fd ⟨[u],[]⟩ [("_law_script",u)])/\∀base:Heap,(K w.params).In base->base.Ns mainGlobals mg->bR l.prog w (K w.params) mg base iV 14 fa fd ["_law_script"] (aCA (K w.params) T31 T32))
  (hN:decide ([T31,T32]:List Addr).Nodup=true) (hY:∀(w:World) (h:Heap),YP w h->∀t∈([T31,T32]:List Addr),h.get? t=some { cls:=.none,data:=.fields #[] })
  (hK:∀w:World,(K w.params).lookup T31=none/\(K w.params).lookup T32=none) :
  PySem.W.WalkO q loose XP YP l.row.toRowW d [] (fun f vs=>PySem.call f vs):=by
 refine L2.aG6 (tabs:=[(T31,cG,cH),(T32,gC,gE)]) (n:=63) (k:=14) (x:="_law_script") (sp:=fun w=>aCA (K w.params) T31 T32) hn (by decide) hdf ⟨rfl,by decide,by decide⟩ (of_decide_eq_true hN) (fun w h Y=>⟨hI w h Y,fun t ht=>hY w h Y t.1 ?_⟩) (fun w t ht=>?_) (fun w mg fa h x1 x2 x3=>?_) (fun _ _ a ns hl hT hS=>?_)
 ·simp only[List.mem_cons,List.not_mem_nil,or_false] at ht
  rcases ht with rfl|rfl <;> simp
 ·have hk:=hK w
  simp only[List.mem_cons,List.not_mem_nil,or_false] at ht
  rcases ht with rfl|rfl
  ·exact hk.1
  ·exact hk.2
 ·obtain⟨c31,c32,rest⟩:=F w mg fa h x1 x2 x3
  refine⟨fun t ht=>?_,rest⟩
  simp only[List.mem_cons,List.not_mem_nil,or_false] at ht
  rcases ht with rfl|rfl
  ·exact c31
  ·exact c32
 ·exact⟨a,ns,rfl,hS,hl,hT (T31,cG,cH) (by simp),hT (T32,gC,gE) (by simp),fun H' s'=>⟨rfl,s'⟩⟩
end My
open PySem PySem.W PyProof.Rows
set_option maxRecDepth 100000 in
theorem PySem.Challenge.cw_stintwise_k43_first_of_many_alike_holds : PySem.Challenge.rw_stintwise_k43_first_of_many_alike.Holds := by
 w_on;o_law;k_head;(case hw=>w_witness2)
 k_fill
 refine' My.walk (l:=PySem.Challenge.rw_stintwise_k43_first_of_many_alike) rfl rfl (fun w h Y=>PySem.W.km_in_of Y) ?F ?hN0 ?hY0 ?hK0
 case F=>
  intro w mg fa h KX G hmg
  refine' My.all_mk KX G hmg ?aC0 ?a0 ?l0 ?c0 ?k0 ?a1 ?l1 ?c1 ?k1 ?a2 ?l2 ?c2 ?k2 ?a3 ?l3 ?c3 ?k3 ?a4 ?l4 ?c4 ?k4 ?a5 ?l5 ?c5 ?k5 ?a6 ?l6 ?c6 ?k6 ?a7 ?l7 ?c7 ?k7 ?a8 ?l8 ?c8 ?k8 ?a9 ?i9 ?l9 ?c9 ?k9 ?a10 ?l10 ?c10 ?k10 ?a11 ?l11 ?c11 ?k11 ?a12 ?l12 ?c12 ?k12 ?a13 ?i13 ?l13 ?c13 ?k13 ?a14 ?l14 ?c14 ?k14 ?a15 ?l15 ?c15 ?k15 ?a16 ?l16 ?c16 ?k16 ?a17 ?l17 ?c17 ?k17 ?a18 ?l18 ?c18 ?k18 ?a19 ?l19 ?c19 ?k19 ?a20 ?l20 ?c20 ?k20 ?a21 ?l21 ?c21 ?k21 ?a22 ?l22 ?c22 ?k22 ?a23 ?l23 ?c23 ?k23 ?a24 ?l24 ?c24 ?k24 ?a25 ?l25 ?c25 ?k25 ?a26 ?l26 ?c26 ?k26 ?a27 ?l27 ?c27 ?k27 ?a28 ?l28 ?c28 ?k28 ?a29 ?l29 ?c29 ?k29 ?a30 ?l30 ?c30 ?k30 ?a31 ?l31 ?c31 ?tl31 ?tv31 ?th31 ?k31 ?a32 ?l32 ?c32 ?tl32 ?tv32 ?th32 ?k32 ?a33 ?l33 ?c33 ?k33 ?a34 ?l34 ?c34 ?k34 ?a35 ?l35 ?c35 ?k35 ?a36 ?l36 ?c36 ?k36 ?a37 ?l37 ?c37 ?k37 ?a38 ?l38 ?c38 ?k38 ?a39 ?l39 ?c39 ?k39 ?a40 ?l40 ?c40 ?k40 ?pg0 ?hd0 ?po0 ?sa0 ?mk0 ?kc0 ?n0_up ?n0_down ?n0_begin ?n0_run ?n0_rest ?n0_least ?n0_pieces ?aBr ?w6 ?nH ?dS ?w9 ?aX ?fT ?iT ?pI ?pJ ?dF ?iU ?aBs ?lF ?zY ?aBt ?kM ?cY ?eM
  (case aC0=>k_is);(case a0=>k_is);(case l0=>k_is);(case c0=>k_is);(case k0=>k_is);(case a1=>k_is);(case l1=>k_is);(case c1=>k_is)
  (case k1=>k_is);(case a2=>k_is);(case l2=>k_is);(case c2=>k_is);(case k2=>k_is);(case a3=>k_is);(case l3=>k_is);(case c3=>k_is)
  (case k3=>k_is);(case a4=>k_is);(case l4=>k_is);(case c4=>k_is);(case k4=>k_is);(case a5=>k_is);(case l5=>k_is);(case c5=>k_is)
  (case k5=>k_is);(case a6=>k_is);(case l6=>k_is);(case c6=>k_is);(case k6=>k_is);(case a7=>k_is);(case l7=>k_is);(case c7=>k_is)
  (case k7=>k_is);(case a8=>k_is);(case l8=>k_is);(case c8=>k_is);(case k8=>k_is);(case a9=>k_is);(case i9=>k_is);(case l9=>k_is)
  (case c9=>k_is);(case k9=>k_is);(case a10=>k_is);(case l10=>k_is);(case c10=>k_is);(case k10=>k_is);(case a11=>k_is);(case l11=>k_is)
  (case c11=>k_is);(case k11=>k_is);(case a12=>k_is);(case l12=>k_is);(case c12=>k_is);(case k12=>k_is);(case a13=>k_is);(case i13=>k_is)
  (case l13=>k_is);(case c13=>k_is);(case k13=>k_is);(case a14=>k_is);(case l14=>k_is);(case c14=>k_is);(case k14=>k_is);(case a15=>k_is)
  (case l15=>k_is);(case c15=>k_is);(case k15=>k_is);(case a16=>k_is);(case l16=>k_is);(case c16=>k_is);(case k16=>k_is);(case a17=>k_is)
  (case l17=>k_is);(case c17=>k_is);(case k17=>k_is);(case a18=>k_is);(case l18=>k_is);(case c18=>k_is);(case k18=>k_is);(case a19=>k_is)
  (case l19=>k_is);(case c19=>k_is);(case k19=>k_is);(case a20=>k_is);(case l20=>k_is);(case c20=>k_is);(case k20=>k_is);(case a21=>k_is)
  (case l21=>k_is);(case c21=>k_is);(case k21=>k_is);(case a22=>k_is);(case l22=>k_is);(case c22=>k_is);(case k22=>k_is);(case a23=>k_is)
  (case l23=>k_is);(case c23=>k_is);(case k23=>k_is);(case a24=>k_is);(case l24=>k_is);(case c24=>k_is);(case k24=>k_is);(case a25=>k_is)
  (case l25=>k_is);(case c25=>k_is);(case k25=>k_is);(case a26=>k_is);(case l26=>k_is);(case c26=>k_is);(case k26=>k_is);(case a27=>k_is)
  (case l27=>k_is);(case c27=>k_is);(case k27=>k_is);(case a28=>k_is);(case l28=>k_is);(case c28=>k_is);(case k28=>k_is);(case a29=>k_is)
  (case l29=>k_is);(case c29=>k_is);(case k29=>k_is);(case a30=>k_is);(case l30=>k_is);(case c30=>k_is);(case k30=>k_is);(case a31=>k_is)
  (case l31=>k_is);(case c31=>k_is);(case tl31=>k_is);(case tv31=>exact rfl);(case th31=>kernel_rfl);(case k31=>k_is);(case a32=>k_is);(case l32=>k_is)
  (case c32=>k_is);(case tl32=>k_is);(case tv32=>exact rfl);(case th32=>kernel_rfl);(case k32=>k_is);(case a33=>k_is);(case l33=>k_is);(case c33=>k_is)
  (case k33=>k_is);(case a34=>k_is);(case l34=>k_is);(case c34=>k_is);(case k34=>k_is);(case a35=>k_is);(case l35=>k_is);(case c35=>k_is)
  (case k35=>k_is);(case a36=>k_is);(case l36=>k_is);(case c36=>k_is);(case k36=>k_is);(case a37=>k_is);(case l37=>k_is);(case c37=>k_is)
  (case k37=>k_is);(case a38=>k_is);(case l38=>k_is);(case c38=>k_is);(case k38=>k_is);(case a39=>k_is);(case l39=>k_is);(case c39=>k_is)
  (case k39=>k_is);(case a40=>k_is);(case l40=>k_is);(case c40=>k_is);(case k40=>k_is);(case pg0=>k_is);(case hd0=>k_is);(case po0=>k_is)
  (case sa0=>k_is);(case mk0=>k_is);(case kc0=>k_is);(case n0_up=>k_is);(case n0_down=>k_is);(case n0_begin=>k_is);(case n0_run=>k_is);(case n0_rest=>k_is)
  (case n0_least=>k_is);(case n0_pieces=>k_is);(case aBr=>k_is);(case w6=>k_is);(case nH=>k_is);(case dS=>k_is);(case w9=>k_is);(case aX=>k_is)
  (case fT=>k_is);(case iT=>k_is);(case pI=>k_is);(case pJ=>k_is);(case dF=>k_is);(case iU=>k_is);(case aBs=>k_is);(case lF=>k_is)
  (case zY=>k_is);(case aBt=>k_is);(case kM=>k_is);(case cY=>k_is);(case eM=>k_is)
 case hN0=>exact rfl
 case hY0=>exact fun w h Y t ht=>PySem.W.km_tabs_of Y t (by revert t;decide)
 case hK0=>intro w;exact⟨by kernel_rfl,by kernel_rfl⟩
